import PyProof.Rows.All
import Wide.All
import OpenK.AllK
import Wide.FinOn
import Lean
import PyProof.EqAt
import PyProof.EqKinds
import PyProof.TupleCall
import PyProof.AutoListH
import PyProof.ExcBaseAll.ValueError
import PyProof.ExcAttrAll.ValueError
import PySem.Challenge.RW_roadsettings_k25_papers_of_looks
set_option Elab.async false
set_option linter.all false
set_option maxRecDepth 100000
namespace L2
open PySem PySem.Spec PyProof.Rows
abbrev Zl:=Sum Int Str
def UE:Zl→Value→Bool
 | .inl k,v=>Value.isInt k v
 | .inr x,v=>Value.isStrOf x v
def keyH (w:World):Zl→Int
 | .inl k=>hashInt k
 | .inr x=>hashStr w x
theorem Ym:∀{k:Zl}{v:Value},UE k v=true→(∃ i t,k=Sum.inl i∧v=Value.int i t)∨(∃ x t,k=Sum.inr x∧v=Value.str x t)
 | .inl i,v,h=>by
   obtain ⟨t,e⟩:=Value.isInt_shape (k:=i) (v:=v) h
   exact .inl ⟨i,t,rfl,e⟩
 | .inr x,v,h=>by
   obtain ⟨t,e⟩:=Value.isStrOf_shape (x:=x) (v:=v) h
   exact .inr ⟨x,t,rfl,e⟩
theorem ZfJ (i:Int)(t:Tok):UE (.inl i) (.int i t)=true:=by simp [UE,Value.isInt]
theorem ZfX (x:Str)(t:Tok):UE (.inr x) (.str x t)=true:=by simp [UE,Value.isStrOf]
theorem Zku (a b:Int):decide ((Sum.inl a:Zl)=Sum.inl b)=(a == b):=by
 by_cases e:a=b
 · subst e;simp
 · have h:¬ (Sum.inl a:Zl)=Sum.inl b:=fun q=>e (Sum.inl.inj q)
   rw [decide_eq_false h]
   exact (beq_eq_false_iff_ne.mpr e).symm
theorem Zlr (a b:Str):decide ((Sum.inr a:Zl)=Sum.inr b)=decide (a=b):=by
 by_cases e:a=b
 · subst e;simp
 · have h:¬ (Sum.inr a:Zl)=Sum.inr b:=fun q=>e (Sum.inr.inj q)
   rw [decide_eq_false h,decide_eq_false e]
theorem ZkT (a:Int)(b:Str):decide ((Sum.inl a:Zl)=Sum.inr b)=false:=decide_eq_false (fun q=>nomatch q)
theorem ZkC (a:Str)(b:Int):decide ((Sum.inr a:Zl)=Sum.inl b)=false:=decide_eq_false (fun q=>nomatch q)
def ZI (prog:Program)(w:World):PySem.KeyKind prog w Zl where
 is:=UE
 hash:=keyH w
 inj := fun v a b ha hb=>by
   rcases Ym ha with ⟨i,t,rfl,rfl⟩ | ⟨x,t,rfl,rfl⟩
   · rcases Ym hb with ⟨j,u,rfl,e⟩ | ⟨y,u,rfl,e⟩
     · injection e with e1 _;rw [e1]
     · exact nomatch e
   · rcases Ym hb with ⟨j,u,rfl,e⟩ | ⟨y,u,rfl,e⟩
     · exact nomatch e
     · injection e with e1 _;rw [e1]
 byValue:=fun k v h=>by
   rcases Ym h with ⟨i,t,rfl,rfl⟩ | ⟨x,t,rfl,rfl⟩<;>rfl
 pyHash:=fun hv h=>by
   rcases Ym hv with ⟨i,t,rfl,rfl⟩ | ⟨x,t,rfl,rfl⟩
   · exact wpAny_pyHash_int h
   · exact wpAny_pyHash_str h
 eqBool:=fun hu hv h=>by
   rcases Ym hu with ⟨i,t,rfl,rfl⟩ | ⟨x,t,rfl,rfl⟩
   · rcases Ym hv with ⟨j,u,rfl,rfl⟩ | ⟨y,u,rfl,rfl⟩
     · rw [Zku] at h;exact wpAny_eqBool_int h
     · rw [ZkT] at h;exact SeqAt.EqAt.int_str i t y u _ _ _ _ h
   · rcases Ym hv with ⟨j,u,rfl,rfl⟩ | ⟨y,u,rfl,rfl⟩
     · rw [ZkC] at h;exact SeqAt.EqAt.str_int x t j u _ _ _ _ h
     · rw [Zlr] at h;exact wpAny_eqBool_str h
 «strs»:=fun k x t v h=>by
   rcases Ym h with ⟨i,u,rfl,e⟩ | ⟨y,u,rfl,e⟩
   · exact nomatch e
   · injection e with e1 _
     subst e1
     cases v<;>rfl
theorem Zfi (prog:Program)(w:World)(k:Zl)(v:Value):(ZI prog w).is k v=UE k v:=rfl
theorem Zdx (prog:Program)(w:World)(i:Int)(t:Tok):(ZI prog w).is (.inl i) (.int i t)=true:=ZfJ i t
theorem VQ (prog:Program)(w:World)(x:Str)(t:Tok):(ZI prog w).is (.inr x) (.str x t)=true:=ZfX x t
end L2
namespace L2
open PySem PySem.Spec PyProof.Rows
inductive V where
 | non | bl (b:Bool) | int (i:Int) | str (x:Str) | byt (b:Array UInt8) | flt (b:UInt64) | ref (a:Addr) | ty (n:String)
 deriving DecidableEq
def RelV:V→Value→Prop
 | .non,u=>u=Value.none
 | .bl b,u=>u=Value.bool b
 | .int i,u=>∃ t,u=Value.int i t
 | .str x,u=>∃ t,u=Value.str x t
 | .byt b,u=>∃ t,u=Value.bytes b t
 | .flt b,u=>∃ t,u=Value.float b t
 | .ref a,u=>u=Value.ref a
 | .ty n,u=>u=Value.type n
abbrev Vals:List V→List Value→Prop:=Paired RelV
theorem Vals.length {xs:List V}{us:List Value}(r:Vals xs us):xs.length=us.length:=Paired.length r
theorem Vals.get:∀{xs:List V}{us:List Value}{i:Nat}{x:V},Vals xs us→xs[i]?=some x→∃ u,us[i]?=some u∧RelV x u
 | _,_,_,_,.nil,e=>by simp at e
 | _,_,0,_,.cons r _,e=>by simp at e;subst e;exact ⟨_,rfl,r⟩
 | _,_,i+1,x,.cons _ t,e=>by
   obtain ⟨u,h1,h2⟩:=Vals.get (i:=i) (x:=x) t (by simpa using e)
   exact ⟨u,by simpa using h1,h2⟩
theorem Vals.set {x:V}{u:Value}(r:RelV x u):∀{xs:List V}{us:List Value}(i:Nat),Vals xs us→Vals (xs.set i x) (us.set i u)
 | _,_,_,.nil=>.nil
 | _,_,0,.cons _ t=>.cons r t
 | _,_,i+1,.cons q t=>.cons q (Vals.set r i t)
theorem Vals.append:∀{xs ys:List V}{us ws:List Value},Vals xs us→Vals ys ws→Vals (xs++ys) (us++ws)
 | _,_,_,_,.nil,s=>s
 | _,_,_,_,.cons r t,s=>.cons r (Vals.append t s)
theorem Vals.take:∀{xs:List V}{us:List Value}(n:Nat),Vals xs us→Vals (xs.take n) (us.take n)
 | _,_,0,_=>.nil
 | _,_,_+1,.nil=>.nil
 | _,_,n+1,.cons r t=>.cons r (Vals.take n t)
theorem Vals.drop:∀{xs:List V}{us:List Value}(n:Nat),Vals xs us→Vals (xs.drop n) (us.drop n)
 | _,_,0,r=>r
 | _,_,_+1,.nil=>.nil
 | _,_,n+1,.cons _ t=>Vals.drop n t
def RelO:Option V→Option Value→Prop
 | some v,some u=>RelV v u
 | none,none=>True
 | _,_=>False
def KV {κ:Type}:List (κ×V)→List (κ×Value)→Prop:=Paired fun (p:κ×V) (q:κ×Value)=>p.1=q.1∧RelV p.2 q.2
def kV:Zl→V
 | .inl i=>.int i
 | .inr x=>.str x
inductive HO where
 | lst (xs:List V)
 | tup (xs:List V)
 | dK (kvs:List (Zl×V)) | dT (kvs:List (List Zl×V))
 | set (S:Int→Bool) (n:Nat)
 | ins (C dx:Addr) (fs:List (Str×V))
 | own (x:Addr)
 | xd (fs:List (Str×V))
 | met (f x:Addr)
 | rng (lo hi:Int)
 | frz (o:Obj) (u:HO)
 | tbl (ps:Array Value)
 | ext (φ:Heap→Prop)
abbrev Hp:=Addr→Option HO
def upd (H:Hp)(a:Addr)(o:HO):Hp:=fun b=>if b=a then some o else H b
theorem Zg {H:Hp}{a:Addr}{o:HO}:upd H a o a=some o:=by unfold upd;rw [if_pos rfl]
theorem Zh {H:Hp}{a b:Addr}{o:HO}(h:b≠a):upd H a o b=H b:=by unfold upd;rw [if_neg h]
theorem Zbe {H:Hp}{a b:Addr}{o u:HO}(h:H a=some o)(h':H b=some u)(d:o≠u):a≠b:=by
 intro e;subst e;rw [h] at h';exact d (Option.some.inj h')
theorem Zn {H:Hp}{a b:Addr}{o:HO}(h:H a=some o)(h':H b=none):a≠b:=by
 intro e;subst e;rw [h] at h';cases h'
section
variable (P:Program)(w:World)
def ObjOk (H:Hp)(h:Heap)(a:Addr):HO→Prop
 | .lst xs=>xs.length≤sizeLine∧∃ (its:List Value) (n:Nat),Vals xs its∧h.get? a=some { cls:=.type "list",data:=.seq its.toArray n }
 | .tup xs=>xs.length≤sizeLine∧∃ its:List Value,Vals xs its∧IsTup h a its.toArray
 | .dK kvs=>kvs.length≤sizeLine∧(a == sysModules)=false∧∃ vs,KV kvs vs∧h.DictOf (ZI P w) a vs
 | .dT kvs=>kvs.length≤sizeLine∧(a == sysModules)=false∧∃ xs:List (List Zl×Addr×Value),
     Paired (fun (p:List Zl×V) (q:List Zl×Addr×Value)=>p.1=q.1∧H q.2.1=some (.tup (p.1.map kV))∧RelV p.2 q.2.2) kvs xs ∧
     ∃ o es ep,h.get? a=some o∧o.ExactDict∧o.data=.dict es ep∧es.toList=xs.map (entryOfKey (tupleKind (ZI P w)))∧(xs.map (·.1)).Nodup
 | .set S n=>h.SetOf (intKind P w) a S n
 | .ins C dx fs=>H dx=some (.own a)∧fs.length≤1000∧dx≠a∧h.get? a=some (PySem.W.instObj C dx) ∧
     ∃ mA,h.Ns1 dx mA∧(∀ f,RelO (fs.lookup f) (mA f))∧PySem.Within mA (fs.map (·.1))
 | .own _=>∃ o,h.get? a=some o
 | .xd fs=>∃ mA,h.Ns1 a mA∧∀ f,RelO (fs.lookup f) (mA f)
 | .rng lo hi=>∃ t u v,h.get? a=some { cls:=.type "range",data:=.fields #[.int lo t,.int hi u,.int 1 v] }
 | .frz o u=>h.get? a=some o∧ObjOk H h a u
 | .tbl ps=>h.get? a=some { cls:=.none,data:=.fields ps }
 | .met f x=>h.get? a=some (PySem.W.methodObj (.ref f) (.ref x))
 | .ext φ=>φ h∧(∃ o,h.get? a=some o)∧∀ h1 h2:Heap,φ h1→(∀ o,h1.get? a=some o→h2.get? a=some o)→φ h2
def HOk (H:Hp)(h:Heap):Prop:=∀ a o,H a=some o→ObjOk P w H h a o
end
section
variable {P:Program}{w:World}{H H':Hp}{h h':Heap}{a:Addr}{o:HO}
theorem ObjOk.lt (x:ObjOk P w H h a o):a < h.objs.size:=by
 cases o with
 | lst xs=>obtain ⟨_,_,_,_,e⟩:=x;exact Heap.lt_size e
 | tup xs=>obtain ⟨_,_,_,p⟩:=x;exact p.lt
 | dK kvs=>obtain ⟨_,_,_,_,o,_,_,e,_⟩:=x;exact Heap.lt_size e
 | dT kvs=>obtain ⟨_,_,_,_,o,_,_,e,_⟩:=x;exact Heap.lt_size e
 | set S n=>obtain ⟨o,_,_,_,e,_⟩:=x;exact Heap.lt_size e
 | ins C dx fs=>obtain ⟨_,_,_,e,_⟩:=x;exact Heap.lt_size e
 | own y=>obtain ⟨_,e⟩:=x;exact Heap.lt_size e
 | xd fs=>obtain ⟨_,⟨_,_,_,e,_⟩,_⟩:=x;exact Heap.lt_size e
 | rng lo hi=>obtain ⟨_,_,_,e⟩:=x;exact Heap.lt_size e
 | frz ob u=>obtain ⟨e,_⟩:=x;exact Heap.lt_size e
 | tbl ps=>exact Heap.lt_size (show h.get? a=some _ from x)
 | met f y=>exact Heap.lt_size (show h.get? a=some _ from x)
 | ext φ=>obtain ⟨_,⟨_,e⟩,_⟩:=x;exact Heap.lt_size e
theorem Paired.mapP {α β:Type}{F G:α→β→Prop}:∀{l₁:List α}{l₂:List β},Paired F l₁ l₂→(∀ a b,F a b→G a b)→Paired G l₁ l₂
 | _,_,.nil,_=>.nil
 | _,_,.cons r t,f=>.cons (f _ _ r) (Paired.mapP t f)
theorem ObjOk.stay (x:ObjOk P w H h a o)(k:∀ b u,(b=a∨H b=some (.own a))→h.get? b=some u→h'.get? b=some u)
   (ho:∀ b,H b=some (.own a)→H' b=some (.own a)) (ht:∀ b xs,H b=some (.tup xs)→H' b=some (.tup xs)):ObjOk P w H' h' a o:=by
 induction o with
 | lst xs=>obtain ⟨z,its,n,r,e⟩:=x;exact ⟨z,its,n,r,k _ _ (.inl rfl) e⟩
 | tup xs=>obtain ⟨z,its,r,ob,e,c⟩:=x;exact ⟨z,its,r,ob,k _ _ (.inl rfl) e,c⟩
 | dK kvs=>obtain ⟨z,y,vs,r,ob,es,ep,e,c⟩:=x;exact ⟨z,y,vs,r,ob,es,ep,k _ _ (.inl rfl) e,c⟩
 | dT kvs =>
   obtain ⟨z,y,xs,r,ob,es,ep,e,c⟩:=x
   exact ⟨z,y,xs,Paired.mapP r fun p q z=>⟨z.1,ht _ _ z.2.1,z.2.2⟩,ob,es,ep,k _ _ (.inl rfl) e,c⟩
 | set S n=>obtain ⟨ob,es,ep,t,e,c⟩:=x;exact ⟨ob,es,ep,t,k _ _ (.inl rfl) e,c⟩
 | ins C dx fs =>
   obtain ⟨d,z,ne,e,mA,⟨od,es,ep,e2,c⟩,r⟩:=x
   exact ⟨ho _ d,z,ne,k _ _ (.inl rfl) e,mA,⟨od,es,ep,k _ _ (.inr d) e2,c⟩,r⟩
 | own y=>obtain ⟨ob,e⟩:=x;exact ⟨ob,k _ _ (.inl rfl) e⟩
 | xd fs=>obtain ⟨mA,⟨od,es,ep,e,c⟩,r⟩:=x;exact ⟨mA,⟨od,es,ep,k _ _ (.inl rfl) e,c⟩,r⟩
 | rng lo hi=>obtain ⟨t,u,v,e⟩:=x;exact ⟨t,u,v,k _ _ (.inl rfl) e⟩
 | frz ob u ih=>obtain ⟨e,q⟩:=x;exact ⟨k _ _ (.inl rfl) e,ih q⟩
 | tbl ps =>
   have e:h.get? a=some { cls:=.none,data:=.fields ps }:=x
   show h'.get? a=some { cls:=.none,data:=.fields ps }
   exact k a _ (.inl rfl) e
 | met f y =>
   have e:h.get? a=some (PySem.W.methodObj (.ref f) (.ref y)):=x
   show h'.get? a=some (PySem.W.methodObj (.ref f) (.ref y))
   exact k a _ (.inl rfl) e
 | ext φ=>obtain ⟨p,⟨o,e⟩,st⟩:=x;exact ⟨st _ _ p fun o q=>k _ _ (.inl rfl) q,⟨o,k _ _ (.inl rfl) e⟩,st⟩
theorem HOk.lt (x:HOk P w H h)(e:H a=some o):a < h.objs.size:=(x a o e).lt
theorem HOk.fresh (x:HOk P w H h)(e:h.objs.size≤a):H a=none:=by
 cases q:H a with
 | none=>rfl
 | some u=>exact absurd (Nat.lt_of_lt_of_le (x.lt q) e) (Nat.lt_irrefl _)
theorem HOk.kept (x:HOk P w H h)(k:∀ b u,h.get? b=some u→h'.get? b=some u):HOk P w H h':=fun a o e =>
 (x a o e).stay (fun b u _ q=>k b u q) (fun _ q=>q) fun _ _ q=>q
theorem HOk.laid (x:HOk P w H h)(k:∀ b u,h.get? b=some u→h'.get? b=some u)(hp:h.objs.size≤a)(new:ObjOk P w (upd H a o) h' a o):HOk P w (upd H a o) h':=fun b u e=>by
 have hn:=x.fresh hp
 by_cases hb:b=a
 · subst hb;rw [Zg] at e;cases e;exact new
 · rw [Zh hb] at e
   exact (x b u e).stay (fun c v _ q=>k c v q) (fun c q=>by rw [Zh (Zn q hn)];exact q) fun c xs q=>by rw [Zh (Zn q hn)];exact q
end
def Rd (H:Hp)(a:Addr)(u:HO):Prop:=H a=some u∨∃ o,H a=some (.frz o u)
theorem Rd.ok {P:Program}{w:World}{H:Hp}{h:Heap}{a:Addr}{u:HO}(r:Rd H a u)(x:HOk P w H h):ObjOk P w H h a u:=by
 rcases r with r | ⟨o,r⟩
 · exact x a u r
 · obtain ⟨_,q⟩:=x a _ r
   exact q
def Mut:Option HO→Prop
 | some (.lst _)=>True
 | some (.dK _)=>True
 | some (.dT _)=>True
 | some (.set _ _)=>True
 | some (.ins _ _ _)=>True
 | some (.ext _)=>True
 | _=>False
section
variable {P:Program}{w:World}{H:Hp}{h h':Heap}{x e:Addr}{o':HO}
theorem HOk.write (ok:HOk P w H h)(mu:Mut (H x))(he:e=x∨H e=some (.own x))(k:∀ b u,b≠e→h.get? b=some u→h'.get? b=some u)(heo:∃ u,h'.get? e=some u)
   (new:ObjOk P w (upd H x o') h' x o'):HOk P w (upd H x o') h':=fun b u q=>by
 have nown:∀ c y,H c=some (.own y)→c≠x:=fun c y r z=>by subst z;rw [r] at mu;exact mu
 have ntup:∀ c xs,H c=some (.tup xs)→c≠x:=fun c xs r z=>by subst z;rw [r] at mu;exact mu
 by_cases hb:b=x
 · subst hb;rw [Zg] at q;cases q;exact new
 · rw [Zh hb] at q
   by_cases hbe:b=e
   · have q':H b=some (.own x):=by
       rcases he with z | z
       · exact absurd (hbe.trans z) hb
       · rw [hbe];exact z
     rw [q] at q';cases q'
     obtain ⟨v,hv⟩:=heo
     exact ⟨v,by rw [hbe];exact hv⟩
   · refine (ok b u q).stay (fun c v hc r=>k c v ?_ r) (fun c r=>by rw [Zh (nown c b r)];exact r) fun c xs r=>by rw [Zh (ntup c xs r)];exact r
     rcases hc with rfl | hc
     · exact hbe
     · rintro rfl
       rcases he with z | z
       · exact nown c b hc z
       · rw [hc] at z;cases z;exact hb rfl
end
structure Un (fs ex:List Addr)(H H':Hp)(h h':Heap):Prop where
 keep:∀ b o,h.get? b=some o→H b=none→b ∉ fs→b ∉ ex→h'.get? b=some o
 slot:∀ b o,h.get? b=some o→H b=none→b∈fs→b ∉ ex→∃ sl,h'.get? b=some { o with slots:=sl }
 free:∀ b o,h.get? b=some o→H b=none→b ∉ ex→H' b=none
 there:∀ b o,h.get? b=some o→b ∉ ex→∃ o',h'.get? b=some o'
 tups:∀ b xs,H b=some (.tup xs)→H' b=some (.tup xs)
 frzs:∀ b o u,H b=some (.frz o u)→H' b=some (.frz o u)
 tbls:∀ b ps,H b=some (.tbl ps)→∃ more,H' b=some (.tbl (ps++more))
section
variable {fs fs' ex ex':List Addr}{H H1 H2:Hp}{h h1 h2 h':Heap}{a x e:Addr}{o:HO}
theorem Un.any (u:Un fs ex H H1 h h1){b:Addr}{ob:Obj}(q:h.get? b=some ob)(n:H b=none)(hx:b ∉ ex):∃ sl,h1.get? b=some { ob with slots:=sl }:=by
 by_cases hb:b∈fs
 · exact u.slot b ob q n hb hx
 · exact ⟨ob.slots,u.keep b ob q n hb hx⟩
theorem Un.kept (k:∀ b u,h.get? b=some u→h'.get? b=some u):Un fs ex H H h h' :=
 ⟨fun b ob q _ _ _=>k b ob q,fun b ob q _ _ _=>⟨ob.slots,k b ob q⟩,fun _ _ _ n _=>n,fun b ob q _=>⟨ob,k b ob q⟩,fun _ _ q=>q,fun _ _ _ q=>q,fun _ ps q=>⟨#[],by rw [q];simp⟩⟩
theorem Un.refl:Un fs ex H H h h:=Un.kept fun _ _ q=>q
theorem Un.laid (k:∀ b u,h.get? b=some u→h'.get? b=some u)(hp:h.objs.size≤a)(hn:H a=none):Un fs ex H (upd H a o) h h' where
 keep:=fun b u q _ _ _=>k b u q
 slot:=fun b u q _ _ _=>⟨u.slots,k b u q⟩
 free:=fun b u q n _=>by rw [Zh (Nat.ne_of_lt (Nat.lt_of_lt_of_le (Heap.lt_size q) hp))];exact n
 there:=fun b u q _=>⟨u,k b u q⟩
 tups:=fun b xs q=>by rw [Zh (Zn q hn)];exact q
 frzs:=fun b u xs q=>by rw [Zh (Zn q hn)];exact q
 tbls:=fun b ps q=>⟨#[],by rw [Zh (Zn q hn),q];simp⟩
theorem Un.write (mu:Mut (H x))(he:e=x∨H e=some (.own x))(k:∀ b u,b≠e→h.get? b=some u→h'.get? b=some u)(heo:∃ u,h'.get? e=some u):Un fs ex H (upd H x o) h h':=by
 have hx:∀ b,H b=none→b≠x:=fun b n z=>by subst z;rw [n] at mu;exact mu
 have hb:∀ b,H b=none→b≠e:=fun b n z=>by
   subst z
   rcases he with r | r
   · exact hx b n r
   · rw [n] at r;cases r
 have hm:∀ b u,H b=some u→¬ Mut (some u)→b≠x:=fun b u q nm z=>by subst z;rw [q] at mu;exact nm mu
 refine ⟨fun b u q n _ _=>k b u (hb b n) q,fun b u q n _ _=>⟨u.slots,k b u (hb b n) q⟩,fun b u q n _=>by rw [Zh (hx b n)];exact n,fun b u q _=>?_,
   fun b xs q=>by rw [Zh (hm b _ q fun z=>z)];exact q,fun b u xs q=>by rw [Zh (hm b _ q fun z=>z)];exact q,fun b ps q=>⟨#[],by rw [Zh (hm b _ q fun z=>z),q];simp⟩⟩
 by_cases hbe:b=e
 · subst hbe;exact heo
 · exact ⟨u,k b u hbe q⟩
end
def trk (h:Heap)(H:Hp):List Addr:=(List.range h.objs.size).filter fun a=>(H a).isSome
def Ul (h:Heap)(H:Hp):Heap:=PySem.W.hideAll h (trk h H)
theorem ZgM (h:Heap)(H:Hp):(Ul h H).objs.size=h.objs.size:=PySem.W.hideAll_size _ _
theorem Ziq {h:Heap}{H:Hp}{b:Addr}{o:Obj}(e:h.get? b=some o)(n:H b=none):(Ul h H).get? b=some o :=
 PySem.W.hideAll_get _ e fun hm=>by
   have q:(H b).isSome=true:=(List.mem_filter.mp hm).2
   rw [n] at q;simp at q
theorem Zji {h:Heap}{H:Hp}{b:Addr}{o:Obj}(e:(Ul h H).get? b=some o):h.get? b=some o∧H b=none:=by
 have e':h.get? b=some o:=PySem.W.of_hideAll (trk h H) e
 refine ⟨e',?_⟩
 cases q:H b with
 | none=>rfl
 | some x =>
   have hm:b∈trk h H:=List.mem_filter.mpr ⟨List.mem_range.mpr (Heap.lt_size e'),by simp [q]⟩
   have z:(Ul h H).get? b=none:=PySem.W.hideAll_none (trk h H) hm
   rw [z] at e;cases e
end L2
namespace L2
open PySem PySem.Spec PyProof.Rows
structure Mod (K:PySem.W.Frag)(mg:Str→Option Value)(base:Heap):Prop where
 kin:K.In base
 glob:base.Ns mainGlobals mg
 blt:∃ mb,base.Ns builtinsNs mb∧∀ x:Str,x≠"__name__"→mb x=bootBuiltins x
 nolimit:base.NoLimit
structure Cx where
 prog:Program
 w:World
 K:PySem.W.Frag
 mg:Str→Option Value
 base:Heap
 A:Around
 N:List Str
 s₀:Shared
 H₀:Hp
 env:Env
 outer:List Env
 stack:List Env
 ex:List Addr
 fn:Str→Bool
 calm:Bool
 pn:List (Addr×Obj)
 xe:Value→Shared→Prop
def Xi (l:List Env):List Addr:=l.filterMap (·.frame)
abbrev Cx.fs (X:Cx):List Addr:=Xi X.outer
def Vis (sc:Scope)(x:Str):Prop:=sc.names.lookup x=some .local∨sc.names.lookup x=some .cell∨sc.names.lookup x=some .free
def Loc (sc:Scope)(x:Str):Prop:=sc.names.lookup x=some .local∨sc.names.lookup x=some .cell
def Look (env:Env)(h:Heap)(m:Str→Option Value)(x:Str)(u:Value):Prop :=
 (env.kindOf x=some .local∧m x=some u)∨((env.kindOf x=some .cell∨env.kindOf x=some .free)∧∃ c,env.cells.lookup x=some c∧h.IsCell c (some u))
structure Cx.Ok (X:Cx):Prop where
 mod:Mod X.K X.mg X.base
 kind:X.env.scope.kind=.function
 glob:X.env.globals=mainGlobals
 blt:X.env.builtins=builtinsNs
 above:X.s₀.heap.objs.size≤X.env.locals
 inj:∀ x y c,X.env.cells.lookup x=some c→X.env.cells.lookup y=some c→x=y
 has:∀ x,(X.env.kindOf x=some .cell∨X.env.kindOf x=some .free)→∃ c,X.env.cells.lookup x=some c
 cab:∀ x c,X.fn x=true→X.env.cells.lookup x=some c→X.s₀.heap.objs.size≤c
 hd:X.calm=true→X.A.handled=none
 frames:X.A.frames=some X.stack
 stk:X.stack=X.outer∨(X.stack=X.env::X.outer∧X.env.frame=some X.env.locals)
 exf:∀ b∈X.ex,b≠X.env.locals∧∀ x c,X.env.cells.lookup x=some c→c≠b
 bs:∀ b o,X.base.get? b=some o→X.s₀.heap.get? b=some o∧X.H₀ b=none
 bsz:X.base.objs.size≤X.s₀.heap.objs.size
 noex:∀ b o,X.base.get? b=some o→b ∉ X.ex
 exfs:∀ b∈X.ex,b ∉ X.fs
 funs:X.s₀.heap.FunFrames X.base X.outer
 frf:∀ b∈X.fs,X.H₀ b=none
structure Inv (X:Cx)(pins:List (Addr×Obj))(σ:List (Option V))(H:Hp)(s:Shared):Prop where
 ok:X.Ok
 os:s.os=X.s₀.os
 bare:AllBare s.gens
 base:Un X.fs X.ex X.H₀ H X.s₀.heap s.heap
 loc:∃ m,s.heap.Ns X.env.locals m∧∀ (i:Nat) (x:Str) (v:V),X.N[i]?=some x→σ[i]?=some (some v)→Vis X.env.scope x→∃ u,RelV v u∧Look X.env s.heap m x u
 cell:∀ x c,X.env.cells.lookup x=some c→∃ v,s.heap.IsCell c v
 free:H X.env.locals=none
 freeC:∀ x c,X.env.cells.lookup x=some c→H c=none
 pin:∀ p∈X.pn++pins,s.heap.get? p.1=some p.2∧H p.1=none∧p.1≠X.env.locals∧p.1 ∉ X.fs∧∀ v,p.2.data≠.cell v
 hok:HOk X.prog X.w H s.heap
 len:σ.length=X.N.length
section
variable {X:Cx}{pins:List (Addr×Obj)}{σ:List (Option V)}{H H':Hp}{s:Shared}{h':Heap}
theorem Cx.Ok.nofr (ok:X.Ok){b:Addr}{o:Obj}(e:X.base.get? b=some o):b ∉ X.fs:=fun hb=>by
 have:=(ok.funs.mem hb).1
 rw [e] at this;cases this
theorem Inv.bs (I:Inv X pins σ H s):∀ b o,X.base.get? b=some o→s.heap.get? b=some o∧H b=none:=fun b o e =>
 ⟨I.base.keep b o (I.ok.bs b o e).1 (I.ok.bs b o e).2 (I.ok.nofr e) (I.ok.noex b o e),I.base.free b o (I.ok.bs b o e).1 (I.ok.bs b o e).2 (I.ok.noex b o e)⟩
theorem Inv.bk (I:Inv X pins σ H s):∀ b o,X.base.get? b=some o→s.heap.get? b=some o:=fun b o e=>(I.bs b o e).1
theorem Inv.mod (I:Inv X pins σ H s):Mod X.K X.mg X.base:=I.ok.mod
theorem Inv.kIn (I:Inv X pins σ H s):X.K.In s.heap:=I.ok.mod.kin.keeps I.bk
theorem Inv.nolimit (I:Inv X pins σ H s):s.heap.NoLimit:=I.ok.mod.nolimit.keeps I.bk
theorem Inv.lt (I:Inv X pins σ H s):X.env.locals < s.heap.objs.size:=let ⟨_,hn,_⟩:=I.loc;hn.lt
theorem Inv.sz (I:Inv X pins σ H s):X.s₀.heap.objs.size≤s.heap.objs.size:=Nat.le_trans I.ok.above (Nat.le_of_lt I.lt)
theorem Inv.nofs (I:Inv X pins σ H s){a:Addr}(h:s.heap.objs.size≤a):a ∉ X.fs:=fun hb=>by
 obtain ⟨_,o,ho,_⟩:=I.ok.funs.mem hb
 exact absurd (Nat.lt_of_lt_of_le (Heap.lt_size ho) (Nat.le_trans I.sz h)) (Nat.lt_irrefl _)
theorem Inv.cne (I:Inv X pins σ H s):∀ x c,X.env.cells.lookup x=some c→c≠X.env.locals:=fun x c e z=>by
 obtain ⟨v,o,ho,hd⟩:=I.cell x c e
 obtain ⟨m,⟨o',es,ep,ho',hd',_⟩,_⟩:=I.loc
 rw [z,ho'] at ho;cases ho;rw [hd'] at hd;cases hd
theorem Inv.funs (I:Inv X pins σ H s):s.heap.FunFrames X.base X.outer:=by
 have all:∀ (l:List Env),(∀ b∈Xi l,b∈X.fs)→X.s₀.heap.FunFrames X.base l→s.heap.FunFrames X.base l:=by
   intro l
   induction l with
   | nil=>intro _ _;trivial
   | cons env r ih =>
     intro hs hl
     obtain ⟨hk,⟨L,o,hf,hn,ho,hd⟩,hr⟩:=hl
     have hL:L∈X.fs:=hs L (by unfold Xi;rw [List.filterMap_cons,hf];exact List.mem_cons_self)
     obtain ⟨sl,e⟩:=I.base.slot L o ho (I.ok.frf L hL) hL fun z=>I.ok.exfs L z hL
     exact ⟨hk,⟨L,_,hf,hn,e,hd⟩,ih (fun b hb=>hs b (by unfold Xi;rw [List.filterMap_cons,hf];exact List.mem_cons_of_mem _ hb)) hr⟩
 exact all X.outer (fun _ hb=>hb) I.ok.funs
theorem Inv.stack (I:Inv X pins σ H s):s.heap.FunFrames X.base X.stack:=by
 rcases I.ok.stk with e | ⟨e,hf⟩
 · rw [e];exact I.funs
 · rw [e]
   obtain ⟨m,hn,_⟩:=I.loc
   refine .cons (by rw [I.ok.kind];decide) hf hn ?_ I.funs
   exact Heap.get?_none_of_le (Nat.le_trans I.ok.bsz I.ok.above)
theorem Inv.stkSub (I:Inv X pins σ H s):∀ b∈Xi X.stack,b∈X.env.locals::X.fs:=fun b hb=>by
 rcases I.ok.stk with e | ⟨e,hf⟩
 · rw [e] at hb;exact List.mem_cons_of_mem _ hb
 · rw [e] at hb
   unfold Xi at hb
   rw [List.filterMap_cons,hf] at hb
   exact hb
theorem Inv.stkFree (I:Inv X pins σ H s):∀ b∈Xi X.stack,H b=none:=fun b hb=>by
 rcases List.mem_cons.mp (I.stkSub b hb) with e | hb
 · rw [e];exact I.free
 · obtain ⟨_,o,ho,_⟩:=I.ok.funs.mem hb
   exact I.base.free b o ho (I.ok.frf b hb) fun z=>I.ok.exfs b z hb
theorem Inv.step {g':Array GenState}{t':Nat}{d':Drawn}{ch:List Addr}(I:Inv X pins σ H s)
   (hch:∀ b∈ch,(b∈X.ex∨X.s₀.heap.objs.size≤b)∧b≠X.env.locals∧(∀ x c,X.env.cells.lookup x=some c→c≠b)∧∀ p∈X.pn++pins,p.1≠b)
   (keep:∀ b o,b≠X.env.locals→b ∉ X.fs→b ∉ ch→s.heap.get? b=some o→H b=none→h'.get? b=some o)
   (slot:∀ b o,b≠X.env.locals→b∈X.fs→b ∉ ch→s.heap.get? b=some o→H b=none→∃ sl,h'.get? b=some { o with slots:=sl }) (free:∀ b o,b ∉ ch→s.heap.get? b=some o→H b=none→H' b=none)
   (there:∀ b o,b ∉ ch→s.heap.get? b=some o→∃ o',h'.get? b=some o')
   (tups:∀ b xs,H b=some (.tup xs)→H' b=some (.tup xs)) (frzs:∀ b o u,H b=some (.frz o u)→H' b=some (.frz o u)) (tbls:∀ b ps,H b=some (.tbl ps)→∃ more,H' b=some (.tbl (ps++more)))
   (ns:∀ m,s.heap.Ns X.env.locals m→h'.Ns X.env.locals m) (hok:HOk X.prog X.w H' h') (hg:AllBare g') :
   Inv X pins σ H' { s with heap:=h',gens:=g',drawn:=d',toks:=t' }:=by
 have neL:∀ b o,X.s₀.heap.get? b=some o→b≠X.env.locals:=fun b o e=>Nat.ne_of_lt (Nat.lt_of_lt_of_le (Heap.lt_size e) I.ok.above)
 have neC:∀ b o,X.s₀.heap.get? b=some o→b ∉ X.ex→b ∉ ch:=fun b o e hx hb=>by
   rcases (hch b hb).1 with z | z
   · exact hx z
   · exact absurd (Nat.lt_of_lt_of_le (Heap.lt_size e) z) (Nat.lt_irrefl _)
 have cellK:∀ x c,X.env.cells.lookup x=some c→∀ v,s.heap.IsCell c v→h'.IsCell c v:=fun x c e v ⟨o,ho,hd⟩=>by
   have nch:c ∉ ch:=fun z=>(hch c z).2.2.1 x c e rfl
   by_cases hc:c∈X.fs
   · obtain ⟨sl,q⟩:=slot c o (I.cne x c e) hc nch ho (I.freeC x c e)
     exact ⟨_,q,hd⟩
   · exact ⟨o,keep c o (I.cne x c e) hc nch ho (I.freeC x c e),hd⟩
 refine ⟨I.ok,I.os,hg,⟨fun b o e n hb hx=>?_,fun b o e n hb hx=>?_,fun b o e n hx=>?_,fun b o e hx=>?_,fun b xs e=>tups b xs (I.base.tups b xs e),fun b o xs e=>frzs b o xs (I.base.frzs b o xs e),fun b ps e=>?_⟩,?_,fun x c e=>?_,?_,fun x c e=>?_,fun p hp=>?_,hok,I.len⟩
 · exact keep b o (neL b o e) hb (neC b o e hx) (I.base.keep b o e n hb hx) (I.base.free b o e n hx)
 · obtain ⟨sl,e1⟩:=I.base.slot b o e n hb hx
   obtain ⟨sl',e2⟩:=slot b _ (neL b o e) hb (neC b o e hx) e1 (I.base.free b o e n hx)
   exact ⟨sl',e2⟩
 · obtain ⟨o',e1⟩:=I.base.there b o e hx
   exact free b o' (neC b o e hx) e1 (I.base.free b o e n hx)
 · obtain ⟨o',e1⟩:=I.base.there b o e hx
   exact there b o' (neC b o e hx) e1
 · obtain ⟨m1,e1⟩:=I.base.tbls b ps e
   obtain ⟨m2,e2⟩:=tbls b _ e1
   exact ⟨m1++m2,by rw [e2,Array.append_assoc]⟩
 · obtain ⟨m,hn,hl⟩:=I.loc
   refine ⟨m,ns m hn,fun i x v e1 e2 e3=>?_⟩
   obtain ⟨u,r,l⟩:=hl i x v e1 e2 e3
   refine ⟨u,r,?_⟩
   rcases l with l | ⟨k,c,e,z⟩
   · exact .inl l
   · exact .inr ⟨k,c,e,cellK x c e _ z⟩
 · obtain ⟨v,z⟩:=I.cell x c e
   exact ⟨v,cellK x c e v z⟩
 · obtain ⟨m,⟨o,_,_,ho,_⟩,_⟩:=I.loc
   exact free _ o (fun z=>(hch _ z).2.1 rfl) ho I.free
 · obtain ⟨v,o,ho,hd⟩:=I.cell x c e
   exact free c o (fun z=>(hch c z).2.2.1 x c e rfl) ho (I.freeC x c e)
 · obtain ⟨e,n,ne,nf,d⟩:=I.pin p hp
   have nch:p.1 ∉ ch:=fun z=>(hch p.1 z).2.2.2 p hp rfl
   exact ⟨keep p.1 p.2 ne nf nch e n,free p.1 p.2 nch e n,ne,nf,d⟩
theorem Inv.un {t':Nat}(I:Inv X pins σ H s)(u:Un X.fs [] H H' s.heap h')(hok:HOk X.prog X.w H' h'):Inv X pins σ H' { s with heap:=h',toks:=t' }:=by
 obtain ⟨m,⟨o,es,ep,ho,r⟩,_⟩:=id I.loc
 obtain ⟨sl,hL⟩:=u.any ho I.free (by simp)
 exact I.step (g':=s.gens) (d':=s.drawn) (ch:=[]) (fun _ z=>nomatch z) (fun b o _ hb _ e n=>u.keep b o e n hb (by simp)) (fun b o _ hb _ e n=>u.slot b o e n hb (by simp)) (fun b o _ e n=>u.free b o e n (by simp)) (fun b o _ e=>u.there b o e (by simp)) u.tups u.frzs u.tbls (fun m' hm=>by
   obtain ⟨o',es',ep',ho',r'⟩:=hm
   rw [ho] at ho';cases ho'
   exact ⟨_,es',ep',hL,r'⟩) hok I.bare
theorem Inv.call {g':Array GenState}{t':Nat}{d':Drawn}{ch:List Addr}(I:Inv X pins σ H s)(u:Un (Xi X.stack) ch H H' s.heap h')(hok:HOk X.prog X.w H' h')(hg:AllBare g')
   (hch:∀ b∈ch,(b∈X.ex∨X.s₀.heap.objs.size≤b)∧b≠X.env.locals∧(∀ x c,X.env.cells.lookup x=some c→c≠b)∧∀ p∈X.pn++pins,p.1≠b) :
   Inv X pins σ H' { s with heap:=h',gens:=g',drawn:=d',toks:=t' }:=by
 obtain ⟨m,⟨o,es,ep,ho,r⟩,_⟩:=id I.loc
 obtain ⟨sl,hL⟩:=u.any ho I.free fun z=>(hch _ z).2.1 rfl
 exact I.step (ch:=ch) hch (fun b o hL hb hc e n=>u.keep b o e n (fun z=>(List.mem_cons.mp (I.stkSub b z)).elim hL hb) hc) (fun b o _ _ hc e n=>u.any e n hc) (fun b o hc e n=>u.free b o e n hc) (fun b o hc e=>u.there b o e hc) u.tups u.frzs u.tbls (fun m' hm=>by
   obtain ⟨o',es',ep',ho',r'⟩:=hm
   rw [ho] at ho';cases ho'
   exact ⟨_,es',ep',hL,r'⟩) hok hg
theorem Inv.turned {t':Nat}{it:Addr}(I:Inv X pins σ H s)(k:∀ b o,b≠it→s.heap.get? b=some o→h'.get? b=some o)(hn:H it=none)(hL:it≠X.env.locals)
   (h1:it∈X.ex∨X.s₀.heap.objs.size≤it) (h2:∀ x c,X.env.cells.lookup x=some c→c≠it) (h3:∀ p∈X.pn++pins,p.1≠it):Inv X pins σ H { s with heap:=h',toks:=t' }:=by
 have nit:∀ b u,H b=some u→b≠it:=fun b u e z=>by rw [z,hn] at e;cases e
 refine I.step (g':=s.gens) (d':=s.drawn) (ch:=[it]) (fun b hb=>?_) (fun b o _ _ hc e _=>k b o (fun z=>hc (by simp [z])) e) (fun b o _ _ hc e _=>⟨o.slots,k b o (fun z=>hc (by simp [z])) e⟩) (fun _ _ _ _ n=>n)
   (fun b o hc e=>⟨o,k b o (fun z=>hc (by simp [z])) e⟩) (fun _ _ e=>e) (fun _ _ _ e=>e) (fun b ps e=>⟨#[],by rw [e];simp⟩) (fun m hm=>?_) (fun b u e=>?_) I.bare
 · have e:b=it:=by simpa using hb
   subst e
   exact ⟨h1,hL,h2,h3⟩
 · obtain ⟨o,es,ep,ho,r⟩:=hm
   exact ⟨o,es,ep,k _ o (Ne.symm hL) ho,r⟩
 · refine (I.hok b u e).stay (fun c v hc q=>k c v ?_ q) (fun _ q=>q) fun _ _ q=>q
   rcases hc with z | z
   · rw [z];exact nit b u e
   · exact nit c _ z
theorem Inv.tok (I:Inv X pins σ H s)(t:Nat):Inv X pins σ H { s with toks:=t }:=I.un (h':=s.heap) (t':=t) Un.refl I.hok
theorem Inv.kept {t':Nat}(I:Inv X pins σ H s)(k:∀ b u,s.heap.get? b=some u→h'.get? b=some u):Inv X pins σ H { s with heap:=h',toks:=t' }:=I.un (Un.kept k) (I.hok.kept k)
theorem Inv.laid {a:Addr}{o:HO}{t':Nat}(I:Inv X pins σ H s)(k:∀ b u,s.heap.get? b=some u→h'.get? b=some u)(hp:s.heap.objs.size≤a)(new:ObjOk X.prog X.w (upd H a o) h' a o) :
 Inv X pins σ (upd H a o) { s with heap:=h',toks:=t' }:=I.un (Un.laid k hp (I.hok.fresh hp)) (I.hok.laid k hp new)
theorem Inv.write {x e:Addr}{o:HO}{t':Nat}(I:Inv X pins σ H s)(mu:Mut (H x))(he:e=x∨H e=some (.own x))(k:∀ b u,b≠e→s.heap.get? b=some u→h'.get? b=some u)(heo:∃ u,h'.get? e=some u)
 (new:ObjOk X.prog X.w (upd H x o) h' x o):Inv X pins σ (upd H x o) { s with heap:=h',toks:=t' }:=I.un (Un.write mu he k heo) (I.hok.write mu he k heo new)
theorem Inv.pins_of {pins':List (Addr×Obj)}(I:Inv X pins σ H s)(h:∀ p∈pins',s.heap.get? p.1=some p.2∧H p.1=none∧p.1≠X.env.locals∧p.1 ∉ X.fs∧∀ v,p.2.data≠.cell v):Inv X pins' σ H s :=
 ⟨I.ok,I.os,I.bare,I.base,I.loc,I.cell,I.free,I.freeC,fun p hp=>(List.mem_append.mp hp).elim (fun z=>I.pin p (List.mem_append_left _ z)) (h p),I.hok,I.len⟩
theorem Zaq {N:List Str}(hN:N.Nodup){i j:Nat}{x:Str}(a:N[i]?=some x)(b:N[j]?=some x):i=j:=by
 obtain ⟨h1,e1⟩:=List.getElem?_eq_some_iff.mp a
 obtain ⟨h2,e2⟩:=List.getElem?_eq_some_iff.mp b
 exact (List.getElem_inj hN).mp (e1.trans e2.symm)
theorem Vq {M:Model}{A:Around}{E:Value→Shared→Prop}{i:Nat}{x:Str}{v:V}{u:Value}{Q:Unit→Shared→Prop}(I:Inv X pins σ H s)(hN:X.N.Nodup)(hi:X.N[i]?=some x)(hx:Loc X.env.scope x)(r:RelV v u)
   (h:∀ s',Inv X pins (σ.set i (some v)) H s'→(∃ a,Heap.SameBut a s.heap s'.heap∧(a=X.env.locals∨X.env.cells.lookup x=some a))→Q () s') (hf:X.fn x=true∨X.env.scope.names.lookup x=some .local:=by first | exact .inl rfl | exact .inr rfl | assumption):wpAny M A (storeName X.env x u) Q E s:=by
 obtain ⟨m,hn,hl⟩:=id I.loc
 have hcls:(X.env.scope.kind == .class || (X.env.scope.kind == .module&&X.env.locals != X.env.globals))=false:=by rw [I.ok.kind];rfl
 have hiσ:i < σ.length:=by rw [I.len];exact (List.getElem?_eq_some_iff.mp hi).1
 have cne:=I.cne
 have tracked:∀ {a:Addr} {h':Heap},(∃ o,s.heap.get? a=some o∧H a=none)→Heap.SameBut a s.heap h'→HOk X.prog X.w H h':=fun {a h'} ha hs b ob e=>by
   obtain ⟨_,_,hfree⟩:=ha
   refine (I.hok b ob e).stay (fun c w' hc q=>(hs.2 c ?_).trans q) (fun _ q=>q) fun _ _ q=>q
   rintro rfl
   rcases hc with rfl | hc
   · rw [hfree] at e;cases e
   · rw [hfree] at hc;cases hc
 rcases hx with hk | hk
 · refine wpAny_storeName_local hk hn (fun h' hn' hs=>?_) hcls
   obtain ⟨oL,_,_,hoL,_⟩:=id hn
   refine h _ ⟨I.ok,I.os,I.bare,⟨fun b o e n hb hx=>?_,fun b o e n hb hx=>?_,I.base.free,fun b o e hx=>?_,I.base.tups,I.base.frzs,I.base.tbls⟩,⟨_,hn',fun j y v' e1 e2 e3=>?_⟩,fun y c e=>?_,I.free,I.freeC,fun p hp=>?_,tracked ⟨oL,hoL,I.free⟩ hs,by simpa using I.len⟩ ⟨_,hs,.inl rfl⟩
   · exact (hs.2 b (Nat.ne_of_lt (Nat.lt_of_lt_of_le (Heap.lt_size e) I.ok.above))).trans (I.base.keep b o e n hb hx)
   · obtain ⟨sl,e1⟩:=I.base.slot b o e n hb hx
     exact ⟨sl,(hs.2 b (Nat.ne_of_lt (Nat.lt_of_lt_of_le (Heap.lt_size e) I.ok.above))).trans e1⟩
   · obtain ⟨o',e1⟩:=I.base.there b o e hx
     exact ⟨o',(hs.2 b (Nat.ne_of_lt (Nat.lt_of_lt_of_le (Heap.lt_size e) I.ok.above))).trans e1⟩
   · by_cases hj:j=i
     · subst hj
       rw [hi] at e1;cases e1
       rw [List.getElem?_set_self hiσ] at e2
       cases e2
       exact ⟨u,r,.inl ⟨hk,by simp⟩⟩
     · rw [List.getElem?_set_ne (Ne.symm hj)] at e2
       obtain ⟨u',r',q⟩:=hl j y v' e1 e2 e3
       refine ⟨u',r',?_⟩
       rcases q with ⟨k,e⟩ | ⟨k,c,e,z⟩
       · refine .inl ⟨k,?_⟩
         have:y≠x:=fun e=>hj (Zaq hN e1 (e ▸ hi))
         simp [this,e]
       · exact .inr ⟨k,c,e,z.sameBut hs (cne y c e)⟩
   · obtain ⟨w',z⟩:=I.cell y c e
     exact ⟨w',z.sameBut hs (cne y c e)⟩
   · obtain ⟨e,n,ne,nf,d⟩:=I.pin p hp
     exact ⟨(hs.2 p.1 ne).trans e,n,ne,nf,d⟩
 · have hfn:X.fn x=true:=by
     rcases hf with z | z
     · exact z
     · rw [z] at hk;cases hk
   obtain ⟨c,hc⟩:=I.ok.has x (.inl hk)
   obtain ⟨w',z⟩:=I.cell x c hc
   refine wpAny_storeName_cell I.ok.kind hk hc z (fun h' hc' hs=>?_)
   obtain ⟨oc,hoc,hocd⟩:=id z
   refine h { s with heap:=h' } ⟨I.ok,I.os,I.bare,⟨fun b o e n hb hx=>?_,fun b o e n hb hx=>?_,I.base.free,fun b o e hx=>?_,I.base.tups,I.base.frzs,I.base.tbls⟩,⟨m,hn.sameBut hs (Ne.symm (cne x c hc)),fun j y v' e1 e2 e3=>?_⟩,fun y c' e=>?_,I.free,I.freeC,fun p hp=>?_,tracked ⟨oc,hoc,I.freeC x c hc⟩ hs,by simpa using I.len⟩ ⟨c,hs,.inr hc⟩
   · exact (hs.2 b (Nat.ne_of_lt (Nat.lt_of_lt_of_le (Heap.lt_size e) (I.ok.cab x c hfn hc)))).trans (I.base.keep b o e n hb hx)
   · obtain ⟨sl,e1⟩:=I.base.slot b o e n hb hx
     exact ⟨sl,(hs.2 b (Nat.ne_of_lt (Nat.lt_of_lt_of_le (Heap.lt_size e) (I.ok.cab x c hfn hc)))).trans e1⟩
   · obtain ⟨o',e1⟩:=I.base.there b o e hx
     exact ⟨o',(hs.2 b (Nat.ne_of_lt (Nat.lt_of_lt_of_le (Heap.lt_size e) (I.ok.cab x c hfn hc)))).trans e1⟩
   · by_cases hj:j=i
     · subst hj
       rw [hi] at e1;cases e1
       rw [List.getElem?_set_self hiσ] at e2
       cases e2
       exact ⟨u,r,.inr ⟨.inl hk,c,hc,hc'⟩⟩
     · rw [List.getElem?_set_ne (Ne.symm hj)] at e2
       obtain ⟨u',r',q⟩:=hl j y v' e1 e2 e3
       refine ⟨u',r',?_⟩
       rcases q with q | ⟨k,c',e,z'⟩
       · exact .inl q
       · refine .inr ⟨k,c',e,z'.sameBut hs ?_⟩
         rintro rfl
         exact hj (Zaq hN e1 (I.ok.inj _ _ _ e hc ▸ hi))
   · by_cases hcc:c'=c
     · subst hcc;exact ⟨_,hc'⟩
     · obtain ⟨w2,z2⟩:=I.cell y c' e
       exact ⟨w2,z2.sameBut hs hcc⟩
   · obtain ⟨e,n,ne,nf,d⟩:=I.pin p hp
     refine ⟨(hs.2 p.1 ?_).trans e,n,ne,nf,d⟩
     intro q
     rw [q,hoc] at e
     have q':oc=p.2:=Option.some.inj e
     exact d w' (by rw [← q'];exact hocd)
theorem Xd {M:Model}{A:Around}{E:Value→Shared→Prop}{i:Nat}{x:Str}{v:V}{u:Value}{Q:Unit→Shared→Prop}(I:Inv X pins σ H s)(hN:X.N.Nodup)(hi:X.N[i]?=some x)(hx:Loc X.env.scope x)(r:RelV v u)
   (h:∀ s',Inv X pins (σ.set i (some v)) H s'→Q () s') (hf:X.fn x=true∨X.env.scope.names.lookup x=some .local:=by first | exact .inl rfl | exact .inr rfl | assumption):wpAny M A (storeName X.env x u) Q E s :=
 Vq I hN hi hx r (fun s' I' _=>h s' I') hf
theorem Inv.call' {s':Shared}{ch:List Addr}(I:Inv X pins σ H s)(ho:s'.os=s.os)(u:Un (Xi X.stack) ch H H' s.heap s'.heap)(hok:HOk X.prog X.w H' s'.heap)(hg:AllBare s'.gens)
   (hch:∀ b∈ch,(b∈X.ex∨X.s₀.heap.objs.size≤b)∧b≠X.env.locals∧(∀ x c,X.env.cells.lookup x=some c→c≠b)∧∀ p∈X.pn++pins,p.1≠b):Inv X pins σ H' s':=by
 obtain ⟨h',g',d',t',o'⟩:=s'
 have e:o'=s.os:=ho
 subst e
 exact I.call (g':=g') (t':=t') (d':=d') u hok hg hch
end
abbrev XK:=Value→Option Addr→Hp→Prop
abbrev St:=List (Option V)
abbrev VK:=V→Hp→Prop
abbrev TE:=St→Hp→VK→Prop
abbrev TT:=St→Hp→(Bool→Hp→Prop)→Prop
abbrev TA:=St→Hp→(List V→Hp→Prop)→Prop
structure UT where
 nx:St→Hp→Prop
 rt:VK
 bk:St→Hp→Prop:=fun _ _=>False
 ct:St→Hp→Prop:=fun _ _=>False
abbrev TS:=UT→St→Hp→Prop
def EP (X:Cx)(pins:List (Addr×Obj))(σ:St)(Q:VK)(u:Value)(s':Shared):Prop:=∃ v H',Inv X pins σ H' s'∧RelV v u∧Q v H'
def TP (X:Cx)(pins:List (Addr×Obj))(σ:St)(Q:Bool→Hp→Prop)(b:Bool)(s':Shared):Prop:=∃ H',Inv X pins σ H' s'∧Q b H'
def AP (X:Cx)(pins:List (Addr×Obj))(σ:St)(Q:List V→Hp→Prop)(us:List Value)(s':Shared):Prop:=∃ vs H',Inv X pins σ H' s'∧Vals vs us∧Q vs H'
def SP (X:Cx)(pins:List (Addr×Obj))(D:UT)(f:Flow)(s':Shared):Prop :=
 match f with
 | .next=>∃ σ' H',Inv X pins σ' H' s'∧D.nx σ' H'
 | .brk=>∃ σ' H',Inv X pins σ' H' s'∧D.bk σ' H'
 | .cont=>∃ σ' H',Inv X pins σ' H' s'∧D.ct σ' H'
 | .ret u=>∃ v σ' H',Inv X pins σ' H' s'∧RelV v u∧D.rt v H'
def PE (X:Cx)(e:Expr)(t:TE):Prop :=
 ∀ (pins:List (Addr×Obj)) (s:Shared) (σ:St) (H:Hp) (Q:VK),Inv X pins σ H s→t σ H Q→wpAny (model X.prog X.w) X.A (eval e X.env) (EP X pins σ Q) X.xe s
def PT (X:Cx)(e:Expr)(t:TT):Prop :=
 ∀ (pins:List (Addr×Obj)) (s:Shared) (σ:St) (H:Hp) (Q:Bool→Hp→Prop),Inv X pins σ H s→t σ H Q→wpAny (model X.prog X.w) X.A (isTrue e X.env (eval e X.env)) (TP X pins σ Q) X.xe s
def PW (X:Cx)(e:Expr)(t:TT):Prop :=
 ∀ (whole:Sem Value) (pins:List (Addr×Obj)) (s:Shared) (σ:St) (H:Hp) (Q:Bool→Hp→Prop),Inv X pins σ H s→t σ H Q→wpAny (model X.prog X.w) X.A (isTrue e X.env whole) (TP X pins σ Q) X.xe s
theorem PW.pt {X:Cx}{e:Expr}{t:TT}(h:PW X e t):PT X e t:=h _
def PA (X:Cx)(es:List Expr)(t:TA):Prop :=
 ∀ (pos:Pos) (pins:List (Addr×Obj)) (s:Shared) (σ:St) (H:Hp) (Q:List V→Hp→Prop),Inv X pins σ H s→t σ H Q→wpAny (model X.prog X.w) X.A (spliced (backTo pos (starEach es X.env))) (AP X pins σ Q) X.xe s
def PS (X:Cx)(st:Stmt)(t:TS):Prop :=
 ∀ (pins:List (Addr×Obj)) (s:Shared) (σ:St) (H:Hp) (D:UT),Inv X pins σ H s→t D σ H→wpAny (model X.prog X.w) X.A (exec st X.env) (SP X pins D) X.xe s
def PSs (X:Cx)(st:List Stmt)(t:TS):Prop :=
 ∀ (pins:List (Addr×Obj)) (s:Shared) (σ:St) (H:Hp) (D:UT),Inv X pins σ H s→t D σ H→wpAny (model X.prog X.w) X.A (execs st X.env) (SP X pins D) X.xe s
theorem Zr {α:Type}{t:Sem α}{Q Q':α→Shared→Prop}{M:Model}{A:Around}{E:Value→Shared→Prop}{s:Shared}(h:wpAny M A t Q E s)(hQ:∀ a s,Q a s→Q' a s):wpAny M A t Q' E s:=wpAny_mono h hQ fun _ _ x=>x
end L2
namespace L2
open PySem PySem.Spec PyProof.Rows
section
variable {X:Cx}
def Vf (i:Nat):TE:=fun σ H Q=>∃ v,σ[i]?=some (some v)∧Q v H
def tC (v:V):TE:=fun _ H Q=>Q v H
theorem ZkF {i:Nat}{x:Str}{pos:Pos}(hN:X.N[i]?=some x)(hv:Vis X.env.scope x)(hd:(x == ("__debug__":Str))=false:=by decide)(hcd:(x == ("__classdict__":Str))=false:=by decide):PE X (.Name x pos) (Vf i):=by
 intro pins s σ H Q I h
 obtain ⟨v,e,h⟩:=h
 obtain ⟨m,hn,hl⟩:=I.loc
 obtain ⟨u,r,l⟩:=hl i x v hN e hv
 have fin:EP X pins σ Q u s:=⟨v,H,I,r,h⟩
 rcases l with ⟨hk,hm⟩ | ⟨hk,c,hc,hcell⟩
 · exact wpAny_Name (wpAny_loadName_local I.ok.kind hk hn hm fin) hd
 · rcases hk with hk | hk
   · exact wpAny_Name (wpAny_loadName_cell I.ok.kind hk hc hcell fin) hd
   · exact wpAny_Name (wpAny_loadName_free I.ok.kind hk hc hcell fin hcd) hd
theorem Zd {i j pos}:PE X (.Constant (.int i) j pos) (tC (.int i)):=fun _ _ _ H _ I h=>wpAny_Constant_int ⟨.int i,H,I.tok _,⟨_,rfl⟩,h⟩
theorem Wz {b j pos}:PE X (.Constant (.bool b) j pos) (tC (.bl b)):=fun _ _ _ H _ I h=>Constant_bool ⟨.bl b,H,I,rfl,h⟩
theorem Xy {j pos}:PE X (.Constant .none j pos) (tC .non):=fun _ _ _ H _ I h=>Constant_none ⟨.non,H,I,rfl,h⟩
theorem ZH {x j pos}:PE X (.Constant (.str x) j pos) (tC (.str x)):=fun _ _ _ H _ I h=>Calls.Constant_str ⟨.str x,H,I.tok _,⟨_,rfl⟩,h⟩
def Gl (X:Cx)(x:Str):Prop:=X.env.kindOf x=some .globalImplicit
theorem WJ {E:Value→Shared→Prop}{pins:List (Addr×Obj)}{s:Shared}{σ:St}{H:Hp}{x:Str}{u:Value}{pos:Pos}{Q:Value→Shared→Prop}(I:Inv X pins σ H s)(hg:Gl X x)(hm:X.mg x=some u)(h:Q u s)
   (hd:(x == ("__debug__":Str))=false:=by decide):wpAny (model X.prog X.w) X.A (eval (.Name x pos) X.env) Q E s :=
 Calls.Name_function_global I.ok.kind hg (Calls.loadGlobal_global (by rw [I.ok.glob];exact I.mod.glob.keeps I.bk) hm h) hd
theorem WR {E:Value→Shared→Prop}{pins:List (Addr×Obj)}{s:Shared}{σ:St}{H:Hp}{x:Str}{u:Value}{pos:Pos}{Q:Value→Shared→Prop}(I:Inv X pins σ H s)(hg:Gl X x)(hm:X.mg x=none)(hv:bootBuiltins x=some u)(h:Q u s)
   (hn:x≠"__name__":=by decide) (hd:(x == ("__debug__":Str))=false:=by decide):wpAny (model X.prog X.w) X.A (eval (.Name x pos) X.env) Q E s:=by
 obtain ⟨mb,h1,h2⟩:=I.mod.blt
 exact Calls.Name_function_global I.ok.kind hg (Calls.loadGlobal_builtin (by rw [I.ok.glob];exact I.mod.glob.keeps I.bk) hm (by rw [I.ok.blt];exact h1.keeps I.bk) ((h2 x hn).trans hv) h) hd
theorem Xa {x:Str}{v:V}{u:Value}{pos:Pos}(hg:Gl X x)(hm:X.mg x=some u)(r:RelV v u)(hd:(x == ("__debug__":Str))=false:=by decide):PE X (.Name x pos) (tC v) :=
 fun _ _ _ H _ I h=>WJ I hg hm ⟨v,H,I,r,h⟩ hd
theorem YW {x:Str}{v:V}{u:Value}{pos:Pos}(hg:Gl X x)(hm:X.mg x=none)(hv:bootBuiltins x=some u)(r:RelV v u)(hn:x≠"__name__":=by decide)(hd:(x == ("__debug__":Str))=false:=by decide):PE X (.Name x pos) (tC v) :=
 fun _ _ _ H _ I h=>WR I hg hm hv ⟨v,H,I,r,h⟩ hn hd
variable {a b:Expr}{ta tb:TE}{pos:Pos}
def PC (X:Cx)(op:CmpOp)(a b:Expr)(t:TE):Prop :=
 ∀ (pins:List (Addr×Obj)) (s:Shared) (σ:St) (H:Hp) (Q:VK),Inv X pins σ H s→t σ H Q →
   wpAny (model X.prog X.w) X.A (eval a X.env) (fun v s₁=>wpAny (model X.prog X.w) X.A (eval b X.env) (fun u s₂=>wpAny (model X.prog X.w) X.A (compareOp op v u) (EP X pins σ Q) X.xe s₂) X.xe s₁) X.xe s
theorem ZcJ (b:Expr){op:CmpOp}(h:op≠.In)(h2:op≠.NotIn):behindInMarks op b=false:=by
 have e1:(op == CmpOp.In)=false:=by cases op<;>first | rfl | exact absurd rfl h
 have e2:(op == CmpOp.NotIn)=false:=by cases op<;>first | rfl | exact absurd rfl h2
 cases b<;>simp [behindInMarks,e1,e2]
def tIsN (ta:TE):TE:=fun σ H Q=>ta σ H fun x H1=>Q (.bl (decide (x=.non))) H1
def ZlU (ta:TE):TE:=fun σ H Q=>ta σ H fun x H1=>Q (.bl (!decide (x=.non))) H1
theorem RelV.none_iff {x:V}{v:Value}(r:RelV x v):(v == Value.none)=decide (x=.non):=by
 cases x with
 | non=>cases r;rfl
 | bl _=>cases r;rfl
 | int _=>obtain ⟨t,rfl⟩:=r;rfl
 | str _=>obtain ⟨t,rfl⟩:=r;rfl
 | byt _=>obtain ⟨t,rfl⟩:=r;rfl
 | flt _=>obtain ⟨t,rfl⟩:=r;rfl
 | ref _=>cases r;rfl
 | ty _=>cases r;rfl
theorem Zau {j pos'}(ha:PE X a ta):PC X .Is a (.Constant .none j pos') (tIsN ta):=by
 intro pins s σ H Q I h
 refine Zr (ha pins s σ H _ I h) fun v s1 ⟨x,H1,I1,r1,q1⟩=>?_
 exact Constant_none (is_none_gen ⟨.bl _,H1,I1,by rw [r1.none_iff];rfl,q1⟩)
theorem WG {j pos'}(ha:PE X a ta):PC X .IsNot a (.Constant .none j pos') (ZlU ta):=by
 intro pins s σ H Q I h
 refine Zr (ha pins s σ H _ I h) fun v s1 ⟨x,H1,I1,r1,q1⟩=>?_
 exact Constant_none (isnot_none_gen ⟨.bl _,H1,I1,by rw [r1.none_iff];rfl,q1⟩)
def tB (t:TE):TT:=fun σ H Q=>t σ H fun x H1=>∃ c,x=.bl c∧Q c H1
theorem Zbh {op:CmpOp}{t:TE}(h:PC X op a b t)(h1:behindInMarks op b=false:=by first | exact ZcJ _ (by decide) (by decide) | rfl):PE X (.Compare a [op] [b] pos) t:=fun pins s σ H Q I hw=>wpAny_Compare1 (h pins s σ H Q I hw) h1
theorem WO {op:CmpOp}{t:TE}(h:PC X op a b t)(h1:behindInMarks op b=false:=by first | exact ZcJ _ (by decide) (by decide) | rfl):PT X (.Compare a [op] [b] pos) (tB t):=by
 intro pins s σ H Q I hw
 refine wpAny_isTrue_Compare1 (Zr (h pins s σ H _ I hw) fun v s1 h1=>Zr h1 fun u s2 h2=>Zr h2 fun c s3 ⟨x,H1,I1,r1,q1⟩=>?_) h1
 obtain ⟨d,rfl,q⟩:=q1
 cases r1
 exact wpAny_truthy_bool ⟨H1,I1,q⟩
theorem YI {e:Expr}{t:TE}(h:PE X e t)(he:∀ whole,isTrue e X.env whole=(do let v ← whole;standAt e.pos;holding [v] (truthy v)):=by intro _;rfl):PT X e (tB t):=by
 intro pins s σ H Q I hw
 refine isTrue_plain (Zr (h pins s σ H _ I hw) fun v s1 ⟨x,H1,I1,r1,q1⟩=>?_) (he _)
 obtain ⟨d,rfl,q⟩:=q1
 cases r1
 exact wpAny_truthy_bool ⟨H1,I1,q⟩
variable {tA tB':TT}{rest:List Expr}
def tAnd (t u:TT):TT:=fun σ H Q=>t σ H fun c H1=>if c=true then u σ H1 Q else Q false H1
def tOr (t u:TT):TT:=fun σ H Q=>t σ H fun c H1=>if c=true then Q true H1 else u σ H1 Q
def tNot (t:TT):TT:=fun σ H Q=>t σ H fun c H1=>Q (!c) H1
theorem Wb (ha:PT X a tA):PW X (.BoolOp .And [a] pos) tA:=by
 intro wh pins s σ H Q I h
 refine isTrue_and (Zr (ha pins s σ H Q I h) fun c s1 e=>?_)
 cases c with
 | true=>exact isTrue_and_nil e
 | false=>exact e
theorem UA (ha:PT X a tA):PW X (.BoolOp .Or [a] pos) tA:=by
 intro wh pins s σ H Q I h
 refine isTrue_or (Zr (ha pins s σ H Q I h) fun c s1 e=>?_)
 cases c with
 | false=>exact isTrue_or_nil e
 | true=>exact e
theorem WQ (ha:PT X a tA)(hb:PW X (.BoolOp .And (b::rest) pos) tB'):PW X (.BoolOp .And (a::b::rest) pos) (tAnd tA tB'):=by
 intro wh pins s σ H Q I h
 refine isTrue_and (Zr (ha pins s σ H _ I h) fun c s1 ⟨H1,I1,q1⟩=>?_)
 cases c with
 | true=>exact hb wh pins s1 σ H1 Q I1 q1
 | false=>exact ⟨H1,I1,q1⟩
theorem UK (ha:PT X a tA)(hb:PW X (.BoolOp .Or (b::rest) pos) tB'):PW X (.BoolOp .Or (a::b::rest) pos) (tOr tA tB'):=by
 intro wh pins s σ H Q I h
 refine isTrue_or (Zr (ha pins s σ H _ I h) fun c s1 ⟨H1,I1,q1⟩=>?_)
 cases c with
 | true=>exact ⟨H1,I1,q1⟩
 | false=>exact hb wh pins s1 σ H1 Q I1 q1
theorem Xg (ha:PT X a tA):PT X (.UnaryOp .Not a pos) (tNot tA):=by
 intro pins s σ H Q I h
 exact isTrue_not (ha pins s σ H (fun c H1=>Q (!c) H1) I h)
def Ziu (ta tb:TE):TE:=fun σ H Q=>ta σ H fun x H1=>∃ c,x=.bl c∧if c=true then tb σ H1 Q else Q (.bl false) H1
def Zmx (ta:TE):TE:=fun σ H Q=>ta σ H fun x H1=>∃ c,x=.bl c∧Q (.bl (!c)) H1
theorem Xz {op}{t:TE}(h:PE X a t):PE X (.BoolOp op [a] pos) t:=fun pins s σ H Q I hw=>BoolOp_one (h pins s σ H Q I hw)
theorem Xh (ha:PE X a ta)(hb:PE X (.BoolOp .And (b::rest) pos) tb):PE X (.BoolOp .And (a::b::rest) pos) (Ziu ta tb):=by
 intro pins s σ H Q I h
 refine BoolOp_and (Zr (ha pins s σ H _ I h) fun v s1 ⟨x,H1,I1,r1,q1⟩=>?_)
 obtain ⟨c,rfl,q1⟩:=q1
 cases r1
 refine wpAny_truthy_bool ?_
 cases c with
 | true=>exact hb pins s1 σ H1 Q I1 q1
 | false=>exact ⟨.bl false,H1,I1,rfl,q1⟩
theorem Zgp (ha:PE X a ta):PE X (.UnaryOp .Not a pos) (Zmx ta):=by
 intro pins s σ H Q I h
 refine UnaryOp_ (Zr (ha pins s σ H _ I h) fun v s1 ⟨x,H1,I1,r1,q1⟩=>?_)
 obtain ⟨c,rfl,q1⟩:=q1
 cases r1
 exact not_of (wpAny_truthy_bool ⟨.bl (!c),H1,I1,rfl,q1⟩)
def tIf (t:TT)(ta tb:TE):TE:=fun σ H Q=>t σ H fun c H1=>if c=true then ta σ H1 Q else tb σ H1 Q
theorem Wc {c:Expr}(hc:PT X c tA)(ha:PE X a ta)(hb:PE X b tb):PE X (.IfExp c a b pos) (tIf tA ta tb):=by
 intro pins s σ H Q I h
 refine wpAny_IfExp (Zr (hc pins s σ H _ I h) fun d s1 ⟨H1,I1,q1⟩=>?_)
 cases d with
 | true=>exact ha pins s1 σ H1 Q I1 q1
 | false=>exact hb pins s1 σ H1 Q I1 q1
end
end L2
namespace L2
open PySem PySem.Spec PyProof.Rows
def SqL (K:PySem.W.Frag)(H:Hp)(a:Addr)(xs:List V):Prop :=
 Rd H a (.lst xs) ∨
   ∃ (o:Obj) (its:Array Value) (n:Nat),K.lookup a=some o∧o.cls=.type "list"∧o.dict=none∧o.data=.seq its n∧its.size≤sizeLine∧Vals xs its.toList
def SqT (K:PySem.W.Frag)(H:Hp)(a:Addr)(xs:List V):Prop :=
 Rd H a (.tup xs) ∨
   ∃ (o:Obj) (its:Array Value) (n:Nat),K.lookup a=some o∧o.cls=.type "tuple"∧o.data=.seq its n∧its.size≤sizeLine∧Vals xs its.toList
def Zfh:Value→Option V
 | .none=>some .non
 | .bool b=>some (.bl b)
 | .int i _=>some (.int i)
 | .str x _=>some (.str x)
 | .bytes b _=>some (.byt b)
 | .float b _=>some (.flt b)
 | .ref a=>some (.ref a)
 | .type n=>some (.ty n)
 | _=>none
theorem RelV.abs {x:V}{u:Value}(r:RelV x u):Zfh u=some x:=by
 cases x with
 | non=>cases r;rfl
 | bl _=>cases r;rfl
 | int _=>obtain ⟨t,rfl⟩:=r;rfl
 | str _=>obtain ⟨t,rfl⟩:=r;rfl
 | byt _=>obtain ⟨t,rfl⟩:=r;rfl
 | flt _=>obtain ⟨t,rfl⟩:=r;rfl
 | ref _=>cases r;rfl
 | ty _=>cases r;rfl
theorem RelV.inj {x y:V}{u:Value}(r:RelV x u)(q:RelV y u):x=y:=Option.some.inj (r.abs.symm.trans q.abs)
theorem Vals.inj:∀{xs ys:List V}{us:List Value},Vals xs us→Vals ys us→xs=ys
 | _,_,_,.nil,.nil=>rfl
 | _,_,_,.cons r t,.cons r' t'=>by rw [r.inj r',Vals.inj t t']
section
variable {X:Cx}{pins:List (Addr×Obj)}{σ:St}{H:Hp}{s:Shared}{a:Addr}{xs ys:List V}
theorem SqL.of {K:PySem.W.Frag}(h:H a=some (.lst xs)):SqL K H a xs:=.inl (.inl h)
theorem SqT.of {K:PySem.W.Frag}(h:H a=some (.tup xs)):SqT K H a xs:=.inl (.inl h)
theorem Inv.list (I:Inv X pins σ H s)(h:SqL X.K H a xs):∃ its:List Value,Vals xs its∧PlainL s.heap a its.toArray∧xs.length≤sizeLine:=by
 rcases h with h | ⟨o,its,n,hk,hc,hd,hs,hz,r⟩
 · obtain ⟨z,its,n,r,e⟩:=h.ok I.hok
   exact ⟨its,r,⟨_,n,e,rfl,rfl,rfl⟩,z⟩
 · refine ⟨its.toList,r,⟨o,n,I.kIn a o hk,hc,hd,by simpa using hs⟩,?_⟩
   have e:=r.length
   simp only [Array.length_toList] at e
   omega
theorem Inv.tuple (I:Inv X pins σ H s)(h:SqT X.K H a xs):∃ its:List Value,Vals xs its∧IsTup s.heap a its.toArray∧xs.length≤sizeLine:=by
 rcases h with h | ⟨o,its,n,hk,hc,hs,hz,r⟩
 · obtain ⟨z,its,r,p⟩:=h.ok I.hok
   exact ⟨its,r,p,z⟩
 · refine ⟨its.toList,r,⟨o,I.kIn a o hk,hc,n,by simpa using hs⟩,?_⟩
   have e:=r.length
   simp only [Array.length_toList] at e
   omega
theorem Inv.list_inj (I:Inv X pins σ H s)(h:SqL X.K H a xs)(h':SqL X.K H a ys):xs=ys:=by
 obtain ⟨its,r,⟨o,n,e,_,_,d⟩,_⟩:=I.list h
 obtain ⟨its',r',⟨o',n',e',_,_,d'⟩,_⟩:=I.list h'
 rw [e] at e';cases e'
 rw [d] at d'
 injection d' with d1 _
 have:its=its':=by simpa using congrArg Array.toList d1
 subst this
 exact r.inj r'
theorem Inv.tuple_inj (I:Inv X pins σ H s)(h:SqT X.K H a xs)(h':SqT X.K H a ys):xs=ys:=by
 obtain ⟨its,r,⟨o,e,_,n,d⟩,_⟩:=I.tuple h
 obtain ⟨its',r',⟨o',e',_,n',d'⟩,_⟩:=I.tuple h'
 rw [e] at e';cases e'
 rw [d] at d'
 injection d' with d1 _
 have:its=its':=by simpa using congrArg Array.toList d1
 subst this
 exact r.inj r'
end
abbrev Cx.wish (X:Cx)(E:Value→Shared→Prop):Cx:={ X with xe:=E }
abbrev Cx.nox (X:Cx):Cx:=X.wish fun _ _=>False
theorem Cx.Ok.wish {X:Cx}(ok:X.Ok)(E:Value→Shared→Prop):(X.wish E).Ok :=
 ⟨ok.mod,ok.kind,ok.glob,ok.blt,ok.above,ok.inj,ok.has,ok.cab,ok.hd,ok.frames,ok.stk,ok.exf,ok.bs,ok.bsz,ok.noex,ok.exfs,ok.funs,ok.frf⟩
theorem Cx.Ok.unwish {X:Cx}{E:Value→Shared→Prop}(ok:(X.wish E).Ok):X.Ok :=
 ⟨ok.mod,ok.kind,ok.glob,ok.blt,ok.above,ok.inj,ok.has,ok.cab,ok.hd,ok.frames,ok.stk,ok.exf,ok.bs,ok.bsz,ok.noex,ok.exfs,ok.funs,ok.frf⟩
section
variable {X:Cx}{pins:List (Addr×Obj)}{σ:St}{H:Hp}{s:Shared}{E:Value→Shared→Prop}
theorem Inv.wish (I:Inv X pins σ H s)(E:Value→Shared→Prop):Inv (X.wish E) pins σ H s:=⟨I.ok.wish E,I.os,I.bare,I.base,I.loc,I.cell,I.free,I.freeC,I.pin,I.hok,I.len⟩
theorem Inv.unwish (I:Inv (X.wish E) pins σ H s):Inv X pins σ H s:=⟨I.ok.unwish,I.os,I.bare,I.base,I.loc,I.cell,I.free,I.freeC,I.pin,I.hok,I.len⟩
theorem SP.unwish {D:UT}{f:Flow}{s':Shared}(h:SP (X.wish E) pins D f s'):SP X pins D f s':=by
 cases f with
 | next=>obtain ⟨σ',H',I,q⟩:=h;exact ⟨σ',H',I.unwish,q⟩
 | brk=>obtain ⟨σ',H',I,q⟩:=h;exact ⟨σ',H',I.unwish,q⟩
 | cont=>obtain ⟨σ',H',I,q⟩:=h;exact ⟨σ',H',I.unwish,q⟩
 | ret u=>obtain ⟨v,σ',H',I,r,q⟩:=h;exact ⟨v,σ',H',I.unwish,r,q⟩
theorem PSs.nox {st:List Stmt}{t:TS}(h:PSs X.nox st t):PSs X st t:=fun pins s σ H D I hw =>
 wpAny_mono (h pins s σ H D (I.wish _) hw) (fun _ _ q=>q.unwish) fun _ _ z=>False.elim z
end
section
variable {X:Cx}{st:Stmt}{rest:List Stmt}{t u:TS}{e:Expr}{te:TE}{pos:Pos}
def ZlR:TS:=fun D σ H=>D.nx σ H
def tSeq (t u:TS):TS:=fun D σ H=>t { D with nx:=u D } σ H
theorem ZR:PSs X [] ZlR:=fun _ _ σ H _ I h=>wpAny_execs_nil ⟨σ,H,I,h⟩
theorem Ze (h1:PS X st t)(h2:PSs X rest u):PSs X (st::rest) (tSeq t u):=by
 intro pins s σ H D I h
 refine wpAny_execs_cons (Zr (h1 pins s σ H { D with nx:=u D } I h) fun f s1 q=>?_)
 cases f with
 | next =>
   obtain ⟨σ',H',I',q⟩:=q
   exact h2 pins s1 σ' H' D I' q
 | ret v=>exact q
 | brk=>exact q
 | cont=>exact q
theorem Zi (h1:PS X st t):PSs X [st] t:=by
 intro pins s σ H D I h
 refine wpAny_execs_cons (Zr (h1 pins s σ H D I h) fun f s1 q=>?_)
 cases f with
 | next=>exact wpAny_execs_nil q
 | ret v=>exact q
 | brk=>exact q
 | cont=>exact q
theorem Inv.quiet {pins:List (Addr×Obj)}{σ:St}{H:Hp}{s:Shared}(I:Inv X pins σ H s):interactive X.env=false:=by simp [interactive,I.ok.kind]
def Zmn (te:TE):TS:=fun D σ H=>te σ H fun _ H1=>D.nx σ H1
theorem Yg (he:PE X e te)(hs:swapsWith e none pos.line X.env=pure false:=by rfl):PS X (.Expr e pos) (Zmn te):=by
 intro pins s σ H D I h
 exact wpAny_Expr_any (Zr (he pins s σ H _ I h) fun v s1 ⟨x,H1,I1,r1,q1⟩=>⟨σ,H1,I1,q1⟩) I.quiet hs
def tRet (te:TE):TS:=fun D σ H=>te σ H D.rt
theorem Zk (he:PE X e te):PS X (.Return (some e) pos) (tRet te):=by
 intro pins s σ H D I h
 exact wpAny_Return_some (Zr (he pins s σ H _ I h) fun v s1 ⟨x,H1,I1,r1,q1⟩=>⟨x,σ,H1,I1,r1,q1⟩)
def tIfS (c:TT)(t u:TS):TS:=fun D σ H=>c σ H fun b H1=>if b=true then t D σ H1 else u D σ H1
theorem Yb {c:Expr}{a b:List Stmt}{tc:TT}(hc:PT X c tc)(ha:PSs X a t)(hb:PSs X b u):PS X (.If c a b pos) (tIfS tc t u):=by
 intro pins s σ H D I h
 refine wpAny_If (Zr (hc pins s σ H _ I h) fun d s1 ⟨H1,I1,q1⟩=>?_)
 cases d with
 | true=>exact ha pins s1 σ H1 D I1 q1
 | false=>exact hb pins s1 σ H1 D I1 q1
end
abbrev TG:=V→St→Hp→(St→Hp→Prop)→Prop
abbrev TGs:=List V→St→Hp→(St→Hp→Prop)→Prop
def PG (X:Cx)(target:Expr)(t:TG):Prop :=
 ∀ (pins:List (Addr×Obj)) (s:Shared) (σ:St) (H:Hp) (v:V) (u:Value) (Q:St→Hp→Prop),Inv X pins σ H s→RelV v u→t v σ H Q →
   wpAny (model X.prog X.w) X.A (assign target X.env u) (fun _ s'=>∃ σ' H',Inv X pins σ' H' s'∧Q σ' H') X.xe s
def PGs (X:Cx)(ts:List Expr)(t:TGs):Prop :=
 ∀ (pins:List (Addr×Obj)) (s:Shared) (σ:St) (H:Hp) (vs:List V) (us:List Value) (Q:St→Hp→Prop),Inv X pins σ H s→Vals vs us→t vs σ H Q →
   wpAny (model X.prog X.w) X.A (assignInOrder ((assignEach ts X.env).map (·.2)) us) (fun _ s'=>∃ σ' H',Inv X pins σ' H' s'∧Q σ' H') X.xe s
abbrev ZgR:=V→V→V→Hp→(Hp→Prop)→Prop
def PSet (X:Cx)(t:ZgR):Prop :=
 ∀ (pins:List (Addr×Obj)) (s:Shared) (σ:St) (H:Hp) (o i v:V) (ov iv u:Value) (Q:Hp→Prop),Inv X pins σ H s→RelV o ov→RelV i iv→RelV v u→t o i v H Q →
   wpAny (model X.prog X.w) X.A (setItem ov iv u) (fun _ s'=>∃ H',Inv X pins σ H' s'∧Q H') X.xe s
abbrev TIp:=V→V→Hp→VK→Prop
def PIp (X:Cx)(op:Operator)(t:TIp):Prop :=
 ∀ (pins:List (Addr×Obj)) (s:Shared) (σ:St) (H:Hp) (x y:V) (v u:Value) (Q:VK),Inv X pins σ H s→RelV x v→RelV y u→t x y H Q →
   wpAny (model X.prog X.w) X.A (inplaceOp op v u) (EP X pins σ Q) X.xe s
section
variable {X:Cx}{pos:Pos}
def Zca (i:Nat):TG:=fun v σ H Q=>Q (σ.set i (some v)) H
theorem ZO {i:Nat}{x:Str}(hN:X.N.Nodup)(hi:X.N[i]?=some x)(hx:Loc X.env.scope x)(hf:X.fn x=true∨X.env.scope.names.lookup x=some .local:=by first | exact .inl rfl | exact .inr rfl | assumption):PG X (.Name x pos) (Zca i):=by
 intro pins s σ H v u Q I r h
 exact wpAny_assign_Name (Xd I hN hi hx r (fun s' I'=>⟨_,H,I',h⟩) hf)
def gNil:TGs:=fun vs σ H Q=>vs=[]∧Q σ H
def ZeQ (t:TG)(u:TGs):TGs:=fun vs σ H Q=>∃ v r,vs=v::r∧t v σ H fun σ' H'=>u r σ' H' Q
theorem XQ:PGs X [] gNil:=by
 intro pins s σ H vs us Q I r h
 obtain ⟨e,h⟩:=h
 subst e
 cases r
 exact assignInOrder_nil ⟨σ,H,I,h⟩
theorem Yk {e:Expr}{es:List Expr}{t:TG}{u:TGs}(h1:PG X e t)(h2:PGs X es u)
   (hs:(assignEach (e::es) X.env).map (·.2)=assign e X.env::(assignEach es X.env).map (·.2):=by rfl):PGs X (e::es) (ZeQ t u):=by
 intro pins s σ H vs us Q I r h
 obtain ⟨v,vr,e1,h⟩:=h
 subst e1
 cases r with
 | cons r rr =>
   rw [hs]
   refine assignInOrder_cons (Zr (h1 pins s σ H _ _ _ I r h) fun _ s1 ⟨σ1,H1,I1,q1⟩=>?_)
   exact h2 pins s1 σ1 H1 _ _ Q I1 rr q1
def gTup (K:PySem.W.Frag)(n:Nat)(t:TGs):TG:=fun v σ H Q=>∃ a xs,v=.ref a∧SqT K H a xs∧xs.length=n∧t xs σ H Q
theorem Ww {es:List Expr}{k:Nat}{t:TGs}{n:Nat}(hc:X.calm=true)(h:PGs X es t)
   (hn:(assignEach es X.env).length=n:=by rfl) (hst:(assignEach es X.env).findIdx? (·.1)=none:=by rfl):PG X (.Tuple es k pos) (gTup X.K n t):=by
 intro pins s σ H v u Q I r hw
 obtain ⟨a,xs,e1,hq,hl,hw⟩:=hw
 subst e1
 cases r
 obtain ⟨its,rv,ht,hz⟩:=I.tuple hq
 refine assign_Tuple_tuple (I.ok.hd hc) ht (by simp [hn,← hl,rv.length]) hst fun h' hx=>?_
 have I1:Inv X pins σ H { s with heap:=h' }:=I.kept (t':=s.toks) fun b o e=>hx b o (Nat.ne_of_lt (Heap.lt_size e)) e
 exact h pins _ σ H xs _ Q I1 (by simpa using rv) hw
def gSub (to ti:TE)(t:ZgR):TG:=fun v σ H Q=>to σ H fun o H1=>ti σ H1 fun i H2=>t o i v H2 fun H3=>Q σ H3
theorem ZaG {o i:Expr}{to ti:TE}{t:ZgR}(ho:PE X o to)(hi:PE X i ti)(hs:PSet X t)
   (ha:∀ v,assign (.Subscript o i pos) X.env v=(do
     let ov ← holding [v] (eval o X.env)
     let iv ← holding [v,ov] (eval i X.env)
     standAt pos
     holding [v,ov,iv] (setItem ov iv v)
     release [v,ov,iv] []):=by intro _;rfl):PG X (.Subscript o i pos) (gSub to ti t):=by
 intro pins s σ H v u Q I r h
 rw [ha]
 refine wpAny_bind (wpAny_holding (Zr (ho pins s σ H _ I h) fun ov s1 ⟨x,H1,I1,r1,q1⟩=>?_))
 refine wpAny_bind (wpAny_holding (Zr (hi pins s1 σ H1 _ I1 q1) fun iv s2 ⟨y,H2,I2,r2,q2⟩=>?_))
 refine wpAny_bind (wpAny_standAt (wpAny_bind (wpAny_holding (Zr (hs pins s2 σ H2 x y v ov iv u _ I2 r1 r2 r q2) fun _ s3 ⟨H3,I3,q3⟩=>?_))))
 exact wpAny_release ⟨σ,H3,I3,q3⟩
def ZeS (te:TE)(g:TG):TS:=fun D σ H=>te σ H fun x H1=>g x σ H1 D.nx
theorem XA {tg e:Expr}{te:TE}{g:TG}(he:PE X e te)(hg:PG X tg g)(hs:swapsWithSole [tg] e pos.line X.env=pure false:=by rfl)(hw:swappedStores [tg] e X.env=pure none:=by rfl)
   (h1:(assignEach [tg] X.env).map (·.2)=[assign tg X.env]:=by rfl):PS X (.Assign [tg] e pos) (ZeS te g):=by
 intro pins s σ H D I h
 refine wpAny_Assign_stores (Zr (he pins s σ H _ I h) fun v s1 ⟨x,H1,I1,r1,q1⟩=>?_) hs hw
 rw [h1]
 exact Zr (hg pins s1 σ H1 x v _ I1 r1 q1) fun _ s2 q=>q
theorem Zx {i:Nat}{x:Str}{e:Expr}{te:TE}{pos':Pos}(hN:X.N.Nodup)(hi:X.N[i]?=some x)(hx:Loc X.env.scope x)(he:PE X e te)(hs:swapsWith e (some (.Name x pos')) pos.line X.env=pure false:=by rfl)(hf:X.fn x=true∨X.env.scope.names.lookup x=some .local:=by first | exact .inl rfl | exact .inr rfl | assumption) :
   PS X (.Assign [.Name x pos'] e pos) (ZeS te (Zca i)):=by
 intro pins s σ H D I h
 refine wpAny_Assign_Name (Zr (he pins s σ H _ I h) fun v s1 ⟨y,H1,I1,r1,q1⟩=>?_) hs
 exact Xd I1 hN hi hx r1 (fun s2 I2=>⟨_,H1,I2,q1⟩) hf
def tPar (i j:Nat)(ta:TA):TS:=fun D σ H=>ta σ H fun vs H1=>∃ v w,vs=[v,w]∧D.nx ((σ.set i (some v)).set j (some w)) H1
theorem Zdd {i j:Nat}{x y:Str}{a b:Expr}{ta:TA}{px py pt:Pos}{kt k2 pt2}(hc:X.calm=true)(hN:X.N.Nodup)(hi:X.N[i]?=some x)(hj:X.N[j]?=some y)(hij:i≠j)
   (hx:X.env.scope.names.lookup x=some .local) (hy:X.env.scope.names.lookup y=some .local) (ha:PA X [a,b] ta)
   (hw:swappedStores [.Tuple [.Name x px,.Name y py] kt pt] (.Tuple [a,b] k2 pt2) X.env=pure (some [x,y]))
   (hs:swapsWithSole [.Tuple [.Name x px,.Name y py] kt pt] (.Tuple [a,b] k2 pt2) pos.line X.env=pure false:=by rfl) :
   PS X (.Assign [.Tuple [.Name x px,.Name y py] kt pt] (.Tuple [a,b] k2 pt2) pos) (tPar i j ta):=by
 intro pins s σ H D I h
 rw [exec_Assign_arm]
 refine wpAny_bind (wpAny_standAt ?_)
 rw [hs]
 refine wpAny_bind (wpAny_pure ?_)
 rw [if_neg (by decide)]
 refine wpAny_bind (Tuple_ (Zr (ha _ pins s σ H _ I h) fun us s1 ⟨vs,H1,I1,r1,q1⟩=>?_))
 obtain ⟨v,w,e1,q1⟩:=q1
 subst e1
 obtain ⟨u1,u2,rfl,rv,rw'⟩:∃ u1 u2,us=[u1,u2]∧RelV v u1∧RelV w u2:=by
   cases r1 with
   | cons p q =>
     cases q with
     | cons p' q' =>
       cases q'
       exact ⟨_,_,rfl,p,p'⟩
 refine wpAny_newObj_type ?_ (by show 2≤sizeLine;decide)
 have I2:Inv X pins σ H1 { s1 with heap:=s1.heap.push { cls:=.type "tuple",data:=.seq [u1,u2].toArray } }:=I1.kept (t':=s1.toks) fun b o e=>Heap.get?_push_of_some _ e
 rw [hw]
 refine wpAny_bind (wpAny_pure ?_)
 show wpAny (model X.prog X.w) X.A (do rule "assign.swapped-stores";let items ← unpackItems (.ref s1.heap.objs.size) 2 none;assignInOrder [fun v=>bindName X.env y v,fun v=>bindName X.env x v] items.reverse;pure Flow.next) _ _ _
 refine wpAny_bind (wpAny_rule (wpAny_bind (unpackItems_tuple (items:=#[u1,u2]) (I.ok.hd hc) (IsTup.new s1.heap _) fun h' hx'=>?_)))
 have I3:=I2.kept (h':=h') (t':=s1.toks) fun b o e=>hx' b o (Nat.ne_of_lt (Heap.lt_size e)) e
 show wpAny _ _ (assignInOrder [fun v=>bindName X.env y v,fun v=>bindName X.env x v] [u2,u1] >>= fun _=>pure Flow.next) _ _ _
 refine wpAny_bind (assignInOrder_cons (wpAny_bindName (Xd I3 hN hj (.inl hy) rw' (fun s2 I4=>?_) (.inr hy))))
 refine assignInOrder_cons (wpAny_bindName (Xd I4 hN hi (.inl hx) rv (fun s3 I5=>assignInOrder_nil (wpAny_pure ?_)) (.inr hx)))
 rw [List.set_comm _ _ (Ne.symm hij)] at I5
 exact ⟨_,H1,I5,q1⟩
def tAug (i:Nat)(te:TE)(ti:TIp):TS:=fun D σ H=>∃ x,σ[i]?=some (some x)∧te σ H fun y H1=>ti x y H1 fun z H2=>D.nx (σ.set i (some z)) H2
theorem Zlf {i:Nat}{x:Str}{e:Expr}{te:TE}{op:Operator}{ti:TIp}{pos':Pos}(hN:X.N.Nodup)(hi:X.N[i]?=some x)(hx:Loc X.env.scope x)(he:PE X e te)(ho:PIp X op ti)(hf:X.fn x=true∨X.env.scope.names.lookup x=some .local:=by first | exact .inl rfl | exact .inr rfl | assumption) :
   PS X (.AugAssign (.Name x pos') op e pos) (tAug i te ti):=by
 intro pins s σ H D I h
 obtain ⟨v,e1,h⟩:=h
 obtain ⟨m,hn,hl⟩:=I.loc
 have vis:Vis X.env.scope x:=by rcases hx with k | k;exact .inl k;exact .inr (.inl k)
 obtain ⟨u,r,l⟩:=hl i x v hi e1 vis
 refine wpAny_AugAssign_Name ?_
 have go:wpAny (model X.prog X.w) X.A (eval e X.env) (fun w s₂=>wpAny (model X.prog X.w) X.A (inplaceOp op u w) (fun r s₃=>wpAny (model X.prog X.w) X.A (storeName X.env x r) (fun _=>SP X pins D .next) X.xe s₃) X.xe s₂) X.xe s:=by
   refine Zr (he pins s σ H _ I h) fun w s1 ⟨y,H1,I1,r1,q1⟩=>?_
   refine Zr (ho pins s1 σ H1 v y u w _ I1 r r1 q1) fun z s2 ⟨zv,H2,I2,r2,q2⟩=>?_
   exact Xd I2 hN hi hx r2 (fun s3 I3=>⟨_,H2,I3,q2⟩) hf
 rcases l with ⟨hk,hm⟩ | ⟨hk,c,hc,hcell⟩
 · exact wpAny_loadName_local I.ok.kind hk hn hm go
 · rcases hk with hk | hk
   · exact wpAny_loadName_cell I.ok.kind hk hc hcell go
   · rcases hx with k | k
     · have:X.env.scope.names.lookup x=some .free:=hk
       rw [k] at this;cases this
     · have:X.env.scope.names.lookup x=some .free:=hk
       rw [k] at this;cases this
def ipI (f:Int→Int→Int):TIp:=fun x y H Q=>∃ i j,x=.int i∧y=.int j∧Q (.int (f i j)) H
theorem Zls:PIp X .Add (ipI fun i j=>i+j):=by
 intro pins s σ H x y v u Q I r1 r2 h
 obtain ⟨i,j,e1,e2,q⟩:=h
 subst e1;subst e2
 obtain ⟨t,rfl⟩:=r1
 obtain ⟨t',rfl⟩:=r2
 exact iadd_int ⟨.int _,H,I.tok _,⟨_,rfl⟩,q⟩
end
section
variable {X:Cx}{pos:Pos}
def ZkK (c:TT)(tb:TS):TS:=fun D σ H=>∃ W:Nat→St→Hp→Prop,(∃ m,W m σ H)∧∀ m σ H,W m σ H →
 c σ H fun b H1=>if b=true then ∃ N:St→Hp→Prop,(∀ σ' H',N σ' H'→∃ m',m' < m∧W m' σ' H')∧tb { D with nx:=N,ct:=N,bk:=D.nx } σ H1 else D.nx σ H1
theorem WZ {c:Expr}{body:List Stmt}{tc:TT}{tb:TS}(hp:PassesOwn (model X.prog X.w) X.A X.env X.xe)(hc:PT X c tc)(hb:PSs X body tb):PS X (.While c body [] pos) (ZkK tc tb):=by
 intro pins s σ H D I h
 obtain ⟨W,⟨m0,w0⟩,turn⟩:=h
 refine wpAny_While (codeAny_whileLoop (fun n s'=>∃ σ' H',Inv X pins σ' H' s'∧W n σ' H') ?_ m0 ⟨σ,H,I,w0⟩)
 rintro n s1 ⟨σ1,H1,I1,w1⟩
 refine wpAny_passesOwn hp (Zr (hc pins s1 σ1 H1 _ I1 (turn n σ1 H1 w1)) fun b s2 ⟨H2,I2,q2⟩=>?_)
 cases b with
 | true =>
   obtain ⟨N,hN,q2⟩:=q2
   rw [if_pos rfl]
   refine wpAny_passesOwn hp (Zr (hb pins s2 σ1 H2 _ I2 q2) fun f s3 q3=>?_)
   cases f with
   | next =>
     obtain ⟨σ3,H3,I3,n3⟩:=q3
     obtain ⟨m',hm,w3⟩:=hN σ3 H3 n3
     exact ⟨m',hm,σ3,H3,I3,w3⟩
   | cont =>
     obtain ⟨σ3,H3,I3,n3⟩:=q3
     obtain ⟨m',hm,w3⟩:=hN σ3 H3 n3
     exact ⟨m',hm,σ3,H3,I3,w3⟩
   | brk=>exact q3
   | ret v=>exact q3
 | false =>
   rw [if_neg Bool.false_ne_true]
   exact wpAny_execs_nil ⟨σ1,H2,I2,q2⟩
end
structure It where
 go:Nat→Hp→Prop
 yld:Nat→Hp→V→Hp→Prop
 stop:Nat→Hp→Prop
def Yo (X:Cx)(pins:List (Addr×Obj))(H:Hp)(b:Addr):Prop :=
 H b=none∧b≠X.env.locals∧b ∉ X.fs∧(b∈X.ex∨X.s₀.heap.objs.size≤b)∧(∀ x c,X.env.cells.lookup x=some c→c≠b)∧∀ p∈X.pn++pins,p.1≠b
theorem Inv.fpOk {X:Cx}{pins:List (Addr×Obj)}{σ:St}{H H':Hp}{s:Shared}{b:Addr}(I:Inv X pins σ H s)(hb:s.heap.objs.size≤b)(hn:H' b=none):Yo X pins H' b:=by
 refine ⟨hn,Nat.ne_of_gt (Nat.lt_of_lt_of_le I.lt hb),I.nofs hb,.inr (Nat.le_trans I.sz hb),fun x c e z=>?_,fun p hp z=>?_⟩
 · obtain ⟨v,q⟩:=I.cell x c e
   exact absurd (Nat.lt_of_lt_of_le q.lt (by rw [z];exact hb)) (Nat.lt_irrefl _)
 · exact absurd (Nat.lt_of_lt_of_le (Heap.lt_size (I.pin p hp).1) (by rw [z];exact hb)) (Nat.lt_irrefl _)
structure Um (P:Program)(w:World)(K:PySem.W.Frag)(tg:Expr)(J:It)(fp:List Addr)(it:Addr)(tn:Nat→Heap→Prop):Prop where
 mem:it∈fp
 obj:∀ i h,tn i h→∀ b∈fp,∃ o,h.get? b=some o∧∀ v,o.data≠.cell v
 keep:∀ i h h',tn i h→(∀ b∈fp,∀ o,h.get? b=some o→h'.get? b=some o)→tn i h'
 item:∀ (X:Cx),X.prog=P→X.w=w→X.K=K→X.calm=true→∀ (i:Nat) (pins:List (Addr×Obj)) (s:Shared) (σ:St) (H:Hp) (E:Value→Shared→Prop),Inv X pins σ H s→(∀ b∈fp,Yo X pins H b)→tn i s.heap→J.go i H →
   wpAny (model P w) X.A (pyNext (.ref it)) (fun r s1=>∃ u,r=some u ∧
     wpAny (model P w) X.A (letOwnedTupleGo tg (.ref it) u) (fun _ s2=>∃ x H',Inv X pins σ H' s2∧RelV x u∧J.yld i H x H'∧tn (i+1) s2.heap∧∀ b∈fp,H' b=none) E s1) E s
 done:∀ (X:Cx),X.prog=P→X.w=w→X.K=K→X.calm=true→∀ (i:Nat) (pins:List (Addr×Obj)) (s:Shared) (σ:St) (H:Hp) (E:Value→Shared→Prop),Inv X pins σ H s→(∀ b∈fp,Yo X pins H b)→tn i s.heap→J.stop i H →
   wpAny (model P w) X.A (pyNext (.ref it)) (fun r s1=>r=none∧Inv X pins σ H s1) E s
 self:∀ (A:Around) (i:Nat) (s:Shared) (Q:Value→Shared→Prop) (E:Value→Shared→Prop),tn i s.heap→Q (.ref it) s→wpAny (model P w) A (pyIter (.ref it)) Q E s
abbrev TI:=St→Hp→(It→Hp→Prop)→Prop
def PIE (X:Cx)(pins:List (Addr×Obj))(σ:St)(tg:Expr)(R:It→Hp→Prop)(itv:Value)(s2:Shared):Prop :=
 ∃ (it:Addr) (fp:List Addr) (tn:Nat→Heap→Prop) (J:It) (H':Hp),itv=.ref it∧Inv X pins σ H' s2∧Um X.prog X.w X.K tg J fp it tn∧tn 0 s2.heap∧(∀ b∈fp,Yo X pins H' b)∧R J H'
def PI (X:Cx)(tg iter:Expr)(wi:TI):Prop :=
 ∀ (pins:List (Addr×Obj)) (s:Shared) (σ:St) (H:Hp) (R:It→Hp→Prop),Inv X pins σ H s→wi σ H R →
   wpAny (model X.prog X.w) X.A (eval iter X.env) (fun v s1=>wpAny (model X.prog X.w) X.A (pyIter v) (PIE X pins σ tg R) X.xe s1) X.xe s
theorem Zfe {M:Model}{A:Around}{E:Value→Shared→Prop}{s:Shared}{tg:Expr}{it:Addr}{u:Value}{o:Obj}{n:String}{vs:Array Value}{Q:Unit→Shared→Prop}(ho:s.heap.get? it=some o)(hc:o.cls=.type n)(hd:o.data=.fields vs)
   (hn:["enumerate","zip","dict_itemiterator","dict_reverseitemiterator","odict_iterator","itertools.zip_longest","itertools.pairwise"].contains n=false) (hQ:Q () s):wpAny M A (letOwnedTupleGo tg (.ref it) u) Q E s:=by
 unfold letOwnedTupleGo
 cases tg <;> first
   | exact wpAny_pure hQ
   | (cases u<;>first
       | exact wpAny_pure hQ
       | (refine wpAny_bind (wpAny_load ho ?_)
          rw [hc,hd]
          show wpAny M A (if (["enumerate","zip","dict_itemiterator","dict_reverseitemiterator","odict_iterator","itertools.zip_longest","itertools.pairwise"].contains n&&vs[0]? == some (rawInt _))=true then _ else _) Q E s
          rw [if_neg (by intro h;rw [hn,Bool.false_and] at h;cases h)]
          exact wpAny_pure hQ))
def Itl (K:PySem.W.Frag)(a:Addr):It :=
 ⟨fun i H=>∃ xs x,SqL K H a xs∧xs[i]?=some x,fun i H x H'=>H'=H∧∀ xs,SqL K H a xs→xs[i]?=some x,fun i H=>∃ xs,SqL K H a xs∧xs.length≤i⟩
def Itt (K:PySem.W.Frag)(a:Addr):It :=
 ⟨fun i H=>∃ xs x,SqT K H a xs∧xs[i]?=some x,fun i H x H'=>H'=H∧∀ xs,SqT K H a xs→xs[i]?=some x,fun i H=>∃ xs,SqT K H a xs∧xs.length≤i⟩
def Itr (lo:Int)(n:Nat):It:=⟨fun i _=>i < n,fun i H x H'=>H'=H∧x=.int (lo+i),fun i _=>n≤i⟩
theorem Zgz {P:Program}{w:World}{K:PySem.W.Frag}{tg:Expr}(a it:Addr):Um P w K tg (Itl K a) [it] it (fun i h=>h.IsListIter it a i) where
 mem:=by simp
 obj:=fun i h st b hb=>by
   have e:b=it:=by simpa using hb
   subst e
   obtain ⟨o,e,c,d⟩:=st
   exact ⟨o,e,fun v z=>by rw [d] at z;cases z⟩
 keep:=fun i h h' st k=>st.at fun o e=>k it (by simp) o e
 item:=by
   intro X hP hw hK hc i pins s σ H E I hf st hg
   subst hP hw hK
   obtain ⟨xs,x,hq,hx⟩:=hg
   obtain ⟨its,rv,p,hz⟩:=I.list hq
   obtain ⟨u,hu,ru⟩:=rv.get hx
   obtain ⟨f0,f1,f2,f3,f4,f5⟩:=hf it (by simp)
   refine wpAny_pyNext_list_item st p.isList (x:=u) (by simpa using hu) fun h' st' sb=>?_
   have I1:Inv X pins σ H { s with heap:=h' }:=I.turned (t':=s.toks) (fun b o hb e=>(sb.2 b hb).trans e) f0 f1 f3 f4 f5
   obtain ⟨o,e,c,d⟩:=id st'
   exact ⟨u,rfl,Zfe (s:={ s with heap:=h' }) e c d (by decide) ⟨x,H,I1,ru,⟨rfl,fun ys hy=>by rw [I.list_inj hy hq];exact hx⟩,st',fun b hb=>(hf b hb).1⟩⟩
 done:=by
   intro X hP hw hK hc i pins s σ H E I hf st hg
   subst hP hw hK
   obtain ⟨xs,hq,hx⟩:=hg
   obtain ⟨its,rv,p,hz⟩:=I.list hq
   obtain ⟨f0,f1,f2,f3,f4,f5⟩:=hf it (by simp)
   have hl:=rv.length
   exact wpAny_pyNext_list_end (I.ok.hd hc) st p.isList (by simp;omega) fun h' eb=>⟨rfl,I.turned (t':=s.toks) (fun b o hb e=>eb b o hb e) f0 f1 f3 f4 f5⟩
 self:=fun _ _ _ _ _ st h=>wpAny_pyIter_listiter st h
theorem ZeA {P:Program}{w:World}{K:PySem.W.Frag}{tg:Expr}(a it:Addr):Um P w K tg (Itt K a) [it] it (fun i h=>h.IsTupleIter it a i) where
 mem:=by simp
 obj:=fun i h st b hb=>by
   have e:b=it:=by simpa using hb
   subst e
   obtain ⟨o,e,c,d⟩:=st
   exact ⟨o,e,fun v z=>by rw [d] at z;cases z⟩
 keep:=fun i h h' st k=>st.at fun o e=>k it (by simp) o e
 item:=by
   intro X hP hw hK hc i pins s σ H E I hf st hg
   subst hP hw hK
   obtain ⟨xs,x,hq,hx⟩:=hg
   obtain ⟨its,rv,p,hz⟩:=I.tuple hq
   obtain ⟨u,hu,ru⟩:=rv.get hx
   obtain ⟨f0,f1,f2,f3,f4,f5⟩:=hf it (by simp)
   refine wpAny_pyNext_tuple_item st (show s.heap.IsTuple a its.toArray from p) (x:=u) (by simpa using hu) fun h' st' sb=>?_
   have I1:Inv X pins σ H { s with heap:=h' }:=I.turned (t':=s.toks) (fun b o hb e=>(sb.2 b hb).trans e) f0 f1 f3 f4 f5
   obtain ⟨o,e,c,d⟩:=id st'
   exact ⟨u,rfl,Zfe (s:={ s with heap:=h' }) e c d (by decide) ⟨x,H,I1,ru,⟨rfl,fun ys hy=>by rw [I.tuple_inj hy hq];exact hx⟩,st',fun b hb=>(hf b hb).1⟩⟩
 done:=by
   intro X hP hw hK hc i pins s σ H E I hf st hg
   subst hP hw hK
   obtain ⟨xs,hq,hx⟩:=hg
   obtain ⟨its,rv,p,hz⟩:=I.tuple hq
   obtain ⟨f0,f1,f2,f3,f4,f5⟩:=hf it (by simp)
   have hl:=rv.length
   exact wpAny_pyNext_tuple_end (I.ok.hd hc) st (show s.heap.IsTuple a its.toArray from p) (by simp;omega) fun h' eb=>⟨rfl,I.turned (t':=s.toks) (fun b o hb e=>eb b o hb e) f0 f1 f3 f4 f5⟩
 self:=fun _ _ _ _ _ st h=>wpAny_pyIter_tupleiter st h
theorem ZeW {P:Program}{w:World}{K:PySem.W.Frag}{tg:Expr}(it:Addr)(lo:Int)(n:Nat):Um P w K tg (Itr lo n) [it] it (fun i h=>IsRangeIter h it (lo+(i:Nat) * 1) ((n:Int) - (i:Nat)) 1) where
 mem:=by simp
 obj := fun i h st b hb=>by
   have e:b=it:=by simpa using hb
   subst e
   exact ⟨_,st,fun v z=>by
     have z':Data.fields _=Data.cell v:=z
     cases z'⟩
 keep:=fun i h h' st k=>k it (by simp) _ st
 item:=by
   intro X hP hw hK hc i pins s σ H E I hf st hg
   subst hP hw hK
   obtain ⟨f0,f1,f2,f3,f4,f5⟩:=hf it (by simp)
   have W:=Walks.range (prog:=X.prog) (w:=X.w) (I.ok.hd hc) it lo 1 n
   refine W.item i s _ _ hg st fun v h' tk hv st' kk=>?_
   obtain ⟨t,rfl⟩:=hv
   have I1:Inv X pins σ H { s with heap:=h',toks:=tk }:=I.turned (fun b o hb e=>kk b o (by simpa using hb) e) f0 f1 f3 f4 f5
   refine ⟨_,rfl,Zfe (s:={ s with heap:=h',toks:=tk }) (n:="range_iterator") st' rfl rfl (by decide) ⟨.int (lo+i),H,I1,⟨t,?_⟩,⟨rfl,rfl⟩,st',fun b hb=>(hf b hb).1⟩⟩
   rw [Int.mul_one]
 done:=by
   intro X hP hw hK hc i pins s σ H E I hf st hg
   subst hP hw hK
   obtain ⟨f0,f1,f2,f3,f4,f5⟩:=hf it (by simp)
   exact wpAny_pyNext_range_end (I.ok.hd hc) st (by have:n≤i:=hg;omega) fun h' eb=>⟨rfl,I.turned (t':=s.toks) (fun b o hb e=>eb b o hb e) f0 f1 f3 f4 f5⟩
 self:=fun _ _ _ _ _ st h=>wpAny_pyIter_rangeiter st h
end L2
namespace L2
open PySem PySem.Spec PyProof.Rows
section
variable {X:Cx}{tg:Expr}
def Zmv (K:PySem.W.Frag)(tl:TE):TI:=fun σ H R=>tl σ H fun x H1=>∃ a,x=.ref a∧(∃ xs,SqL K H1 a xs)∧R (Itl K a) H1
def iTup (K:PySem.W.Frag)(tl:TE):TI:=fun σ H R=>tl σ H fun x H1=>∃ a,x=.ref a∧(∃ xs,SqT K H1 a xs)∧R (Itt K a) H1
theorem VH {l:Expr}{tl:TE}(hl:PE X l tl):PI X tg l (Zmv X.K tl):=by
 intro pins s σ H R I h
 refine Zr (hl pins s σ H _ I h) fun v s1 ⟨x,H1,I1,r1,q1⟩=>?_
 obtain ⟨a,e,⟨xs,hq⟩,q⟩:=q1
 subst e
 cases r1
 obtain ⟨its,rv,p,hz⟩:=I1.list hq
 refine wpAny_pyIter_list p.isList ?_
 refine ⟨s1.heap.objs.size,[s1.heap.objs.size],_,_,H1,rfl,I1.kept (t':=s1.toks) fun b o e=>Heap.get?_push_of_some _ e,Zgz a _,⟨_,Heap.get?_push_size _ rfl,rfl,rfl⟩,fun b hb=>?_,q⟩
 have e:b=s1.heap.objs.size:=by simpa using hb
 subst e
 exact I1.fpOk (Nat.le_refl _) (I1.hok.fresh (Nat.le_refl _))
theorem Vy {l:Expr}{tl:TE}(hl:PE X l tl):PI X tg l (iTup X.K tl):=by
 intro pins s σ H R I h
 refine Zr (hl pins s σ H _ I h) fun v s1 ⟨x,H1,I1,r1,q1⟩=>?_
 obtain ⟨a,e,⟨xs,hq⟩,q⟩:=q1
 subst e
 cases r1
 obtain ⟨its,rv,p,hz⟩:=I1.tuple hq
 refine wpAny_pyIter_tuple (show s1.heap.IsTuple a its.toArray from p) ?_
 refine ⟨s1.heap.objs.size,[s1.heap.objs.size],_,_,H1,rfl,I1.kept (t':=s1.toks) fun b o e=>Heap.get?_push_of_some _ e,ZeA a _,⟨_,Heap.get?_push_size _ rfl,rfl,rfl⟩,fun b hb=>?_,q⟩
 have e:b=s1.heap.objs.size:=by simpa using hb
 subst e
 exact I1.fpOk (Nat.le_refl _) (I1.hok.fresh (Nat.le_refl _))
theorem ZhB {pins:List (Addr×Obj)}{σ:St}{H:Hp}{s:Shared}{R:It→Hp→Prop}{E:Value→Shared→Prop}{lo hi:Int}{t u v:Tok}{tk:Nat}(I:Inv X pins σ H s)(h1:-(2 ^ 62)≤lo)(h2:lo < 2 ^ 62)(h3:-(2 ^ 62)≤hi)(h4:hi < 2 ^ 62)
   (q:R (Itr lo (hi - lo).toNat) H):wpAny (model X.prog X.w) X.A (pyIter (.ref s.heap.objs.size)) (PIE X pins σ tg R) E { s with heap:=s.heap.push { cls:=.type "range",data:=.fields #[.int lo t,.int hi u,.int 1 v] },toks:=tk }:=by
 refine wpAny_pyIter_range (IsRange.new ..) (small_one h1 h2 h3 h4) ?_
 have I1:Inv X pins σ H { s with heap:=s.heap.push { cls:=.type "range",data:=.fields #[.int lo t,.int hi u,.int 1 v] },toks:=tk }:=I.kept fun b o e=>Heap.get?_push_of_some _ e
 refine ⟨(s.heap.push { cls:=.type "range",data:=.fields #[.int lo t,.int hi u,.int 1 v] }).objs.size,[(s.heap.push { cls:=.type "range",data:=.fields #[.int lo t,.int hi u,.int 1 v] }).objs.size],_,_,H,rfl,
   I1.kept (t':=tk) fun b o e=>Heap.get?_push_of_some _ e,ZeW _ lo (hi - lo).toNat,?_,fun b hb=>?_,q⟩
 · have e1:lo+((0:Nat):Int) * 1=lo:=by simp
   have e2:(((hi - lo).toNat:Nat):Int) - ((0:Nat):Int)=Builtin.Range.rangeSize lo hi 1:=by rw [rangeSize_one];split<;>omega
   show IsRangeIter _ _ (lo+((0:Nat):Int) * 1) ((((hi - lo).toNat:Nat):Int) - ((0:Nat):Int)) 1
   rw [e1,e2]
   exact Heap.get?_push_size _ rfl
 · have e:b=(s.heap.push { cls:=.type "range",data:=.fields #[.int lo t,.int hi u,.int 1 v] }).objs.size:=by simpa using hb
   subst e
   exact I1.fpOk (Nat.le_refl _) (I1.hok.fresh (Nat.le_refl _))
def Zmj (ta:TA):TI:=fun σ H R=>ta σ H fun vs H1=>∃ j:Int,vs=[.int j]∧-(2 ^ 62)≤j∧j < 2 ^ 62∧R (Itr 0 j.toNat) H1
theorem YN {a:Expr}{ta:TA}{p pos:Pos}(hg:Gl X "range")(hm:X.mg "range"=none)(ha:PA X [a] ta)(hs:starEach [a] X.env=[(false,eval a X.env)]:=by rfl):PI X tg (.Call (.Name "range" p) [a] [] pos) (Zmj ta):=by
 intro pins s σ H R I h
 refine Call_ (WR I hg hm boot_range (PyProof.Rows.callWith_type1 (Zr (ha pos pins s σ H _ I h) fun us s1 ⟨vs,H1,I1,r1,q1⟩=>?_) hs rfl))
 obtain ⟨j,e,q1,q2,q⟩:=q1
 subst e
 cases r1 with
 | cons r rr =>
   cases rr
   obtain ⟨t,rfl⟩:=r
   exact call_range_1 (ZhB I1 (by omega) (by omega) q1 q2 (by simpa using q))
def tFor (wi:TI)(g:TG)(tb:TS):TS:=fun D σ H=>wi σ H fun J H1=>∃ W:Nat→Nat→St→Hp→Prop,(∃ m,W 0 m σ H1)∧∀ i m σ H,W i m σ H →
 (J.stop i H∧D.nx σ H)∨(J.go i H∧∃ N:St→Hp→Prop,(∀ σ' H',N σ' H'→∃ m',m' < m∧W (i+1) m' σ' H')∧∀ x H',J.yld i H x H'→g x σ H' fun σ2 H2=>tb { D with nx:=N,ct:=N,bk:=D.nx } σ2 H2)
def Zbg (fp:List Addr)(h:Heap):List (Addr×Obj):=fp.filterMap fun b=>(h.get? b).map fun o=>(b,o)
theorem Ya {fp:List Addr}{h:Heap}{b:Addr}{o:Obj}(hb:b∈fp)(e:h.get? b=some o):(b,o)∈Zbg fp h:=List.mem_filterMap.mpr ⟨b,hb,by rw [e];rfl⟩
theorem Zgq {fp:List Addr}{h:Heap}{p:Addr×Obj}(hp:p∈Zbg fp h):p.1∈fp∧h.get? p.1=some p.2:=by
 obtain ⟨b,hb,e⟩:=List.mem_filterMap.mp hp
 cases q:h.get? b with
 | none=>rw [q] at e;cases e
 | some o =>
   rw [q] at e
   have e':(b,o)=p:=Option.some.inj e
   subst e'
   exact ⟨hb,q⟩
theorem Inv.pinned {pins:List (Addr×Obj)}{σ:St}{H:Hp}{s:Shared}{fp:List Addr}(I:Inv X pins σ H s)(hf:∀ b∈fp,Yo X pins H b)(ho:∀ b∈fp,∃ o,s.heap.get? b=some o∧∀ v,o.data≠.cell v):Inv X (pins++Zbg fp s.heap) σ H s :=
 I.pins_of fun p hp=>(List.mem_append.mp hp).elim (fun z=>I.pin p (List.mem_append_right _ z)) fun z=>by
   obtain ⟨hb,e⟩:=Zgq z
   obtain ⟨f0,f1,f2,_⟩:=hf p.1 hb
   obtain ⟨o,e',d⟩:=ho p.1 hb
   rw [e] at e';cases e'
   exact ⟨e,f0,f1,f2,d⟩
theorem Inv.unpinned {pins pl:List (Addr×Obj)}{σ:St}{H:Hp}{s:Shared}(I:Inv X (pins++pl) σ H s):Inv X pins σ H s:=I.pins_of fun p hp=>I.pin p (List.mem_append_right _ (List.mem_append_left _ hp))
theorem WY {iter:Expr}{body:List Stmt}{wi:TI}{g:TG}{tb:TS}{pos:Pos}(hp:PassesOwn (model X.prog X.w) X.A X.env X.xe)(hc:X.calm=true)(hi:PI X tg iter wi)(hg:PG X tg g)(hb:PSs X body tb)
   (hs:∀ x,foldedSetIterable iter X.env x=pure x:=by intro _;rfl):PS X (.For tg iter body [] pos) (tFor wi g tb):=by
 intro pins s σ H D I h
 refine wpAny_For (Zr (hi pins s σ H _ I h) fun v s1 h1=>Zr h1 fun itv s2 h2=>?_) hs
 obtain ⟨it,fp,tn,J,H2,e,I2,T,st2,f2,W,⟨m0,w0⟩,turn⟩:=h2
 subst e
 have stat:∀ {H':Hp},(∀ b∈fp,H' b=none)→∀ b∈fp,Yo X pins H' b:=fun hn b hb=>⟨hn b hb,(f2 b hb).2⟩
 refine codeAny_forLoop_any (fun n s'=>∃ i σ' H',Inv X pins σ' H' s'∧tn i s'.heap∧(∀ b∈fp,H' b=none)∧W i n σ' H') ?_ m0 ⟨0,σ,H2,I2,st2,fun b hb=>(f2 b hb).1,w0⟩
 rintro n s3 ⟨i,σ3,H3,I3,st3,fr3,w3⟩
 rcases turn i n σ3 H3 w3 with ⟨stop,qn⟩ | ⟨go,N,hN,step⟩
 · refine wpAny_passesOwn hp (Zr (T.done X rfl rfl rfl hc i pins s3 σ3 H3 X.xe I3 (stat fr3) st3 stop) fun r s4 ⟨hr,I4⟩=>?_)
   subst hr
   exact wpAny_execs_nil ⟨σ3,H3,I4,qn⟩
 · refine wpAny_passesOwn hp (Zr (T.item X rfl rfl rfl hc i pins s3 σ3 H3 X.xe I3 (stat fr3) st3 go) fun r s4 ⟨u,hr,h4⟩=>?_)
   subst hr
   refine wpAny_passesOwn hp (Zr h4 fun _ s5 ⟨x,H5,I5,r5,y5,st5,fr5⟩=>?_)
   have I5':=I5.pinned (stat fr5) (T.obj _ _ st5)
   refine wpAny_passesOwn hp (Zr (hg _ s5 σ3 H5 x u _ I5' r5 (step x H5 y5)) fun _ s6 ⟨σ6,H6,I6,q6⟩=>?_)
   refine wpAny_passesOwn hp (Zr (hb _ s6 σ6 H6 _ I6 q6) fun f s7 q7=>?_)
   have again:∀ {σ7:St} {H7:Hp},Inv X (pins++Zbg fp s5.heap) σ7 H7 s7→N σ7 H7→∃ m,m < n∧∃ i σ' H',Inv X pins σ' H' s7∧tn i s7.heap∧(∀ b∈fp,H' b=none)∧W i m σ' H':=fun {σ7 H7} I7 n7=>by
     obtain ⟨m',hm,w7⟩:=hN σ7 H7 n7
     refine ⟨m',hm,i+1,σ7,H7,I7.unpinned,T.keep _ _ _ st5 fun b hb o e=>(I7.pin (b,o) (List.mem_append_right _ (List.mem_append_right _ (Ya hb e)))).1,fun b hb=>?_,w7⟩
     obtain ⟨o,e,d⟩:=T.obj _ _ st5 b hb
     exact (I7.pin (b,o) (List.mem_append_right _ (List.mem_append_right _ (Ya hb e)))).2.1
   cases f with
   | next=>obtain ⟨σ7,H7,I7,n7⟩:=q7;exact again I7 n7
   | cont=>obtain ⟨σ7,H7,I7,n7⟩:=q7;exact again I7 n7
   | brk=>obtain ⟨σ7,H7,I7,q7⟩:=q7;exact ⟨σ7,H7,I7.unpinned,q7⟩
   | ret v=>obtain ⟨x7,σ7,H7,I7,r7,q7⟩:=q7;exact ⟨x7,σ7,H7,I7.unpinned,r7,q7⟩
end
theorem Zdp {K:PySem.W.Frag}{a:Addr}{xs:List V}{g:TG}{tb:TS}{D:UT}{σ:St}{H:Hp}(Pv:Nat→St→Hp→Prop)(h0:Pv 0 σ H)(hl:∀ i σ H,i≤xs.length→Pv i σ H→SqL K H a xs)
   (hs:∀ i x σ H,xs[i]?=some x→Pv i σ H→g x σ H fun σ2 H2=>tb { D with nx:=Pv (i+1),ct:=Pv (i+1),bk:=D.nx } σ2 H2) (hd:∀ σ H,Pv xs.length σ H→D.nx σ H) :
   ∃ W:Nat→Nat→St→Hp→Prop,(∃ m,W 0 m σ H)∧∀ i m σ H,W i m σ H →
     ((Itl K a).stop i H∧D.nx σ H)∨((Itl K a).go i H∧∃ N:St→Hp→Prop,(∀ σ' H',N σ' H'→∃ m',m' < m∧W (i+1) m' σ' H')∧∀ x H',(Itl K a).yld i H x H'→g x σ H' fun σ2 H2=>tb { D with nx:=N,ct:=N,bk:=D.nx } σ2 H2):=by
 refine ⟨fun i m σ H=>m=xs.length - i∧i≤xs.length∧Pv i σ H,⟨xs.length,by simp,Nat.zero_le _,h0⟩,?_⟩
 rintro i m σ H ⟨rfl,hi,p⟩
 have q:=hl i σ H hi p
 by_cases hlt:i < xs.length
 · refine .inr ⟨⟨xs,xs[i],q,by simp [hlt]⟩,Pv (i+1),fun σ' H' p'=>⟨xs.length - (i+1),by omega,rfl,hlt,p'⟩,fun x H' y=>?_⟩
   obtain ⟨e,y⟩:=y
   subst e
   exact hs i x σ _ (y xs q) p
 · have e:i=xs.length:=by omega
   subst e
   exact .inl ⟨⟨xs,q,Nat.le_refl _⟩,hd σ H p⟩
theorem Zjh {K:PySem.W.Frag}{a:Addr}{xs:List V}{g:TG}{tb:TS}{D:UT}{σ:St}{H:Hp}(Pv:Nat→St→Hp→Prop)(h0:Pv 0 σ H)(hl:∀ i σ H,i≤xs.length→Pv i σ H→SqT K H a xs)
   (hs:∀ i x σ H,xs[i]?=some x→Pv i σ H→g x σ H fun σ2 H2=>tb { D with nx:=Pv (i+1),ct:=Pv (i+1),bk:=D.nx } σ2 H2) (hd:∀ σ H,Pv xs.length σ H→D.nx σ H) :
   ∃ W:Nat→Nat→St→Hp→Prop,(∃ m,W 0 m σ H)∧∀ i m σ H,W i m σ H →
     ((Itt K a).stop i H∧D.nx σ H)∨((Itt K a).go i H∧∃ N:St→Hp→Prop,(∀ σ' H',N σ' H'→∃ m',m' < m∧W (i+1) m' σ' H')∧∀ x H',(Itt K a).yld i H x H'→g x σ H' fun σ2 H2=>tb { D with nx:=N,ct:=N,bk:=D.nx } σ2 H2):=by
 refine ⟨fun i m σ H=>m=xs.length - i∧i≤xs.length∧Pv i σ H,⟨xs.length,by simp,Nat.zero_le _,h0⟩,?_⟩
 rintro i m σ H ⟨rfl,hi,p⟩
 have q:=hl i σ H hi p
 by_cases hlt:i < xs.length
 · refine .inr ⟨⟨xs,xs[i],q,by simp [hlt]⟩,Pv (i+1),fun σ' H' p'=>⟨xs.length - (i+1),by omega,rfl,hlt,p'⟩,fun x H' y=>?_⟩
   obtain ⟨e,y⟩:=y
   subst e
   exact hs i x σ _ (y xs q) p
 · have e:i=xs.length:=by omega
   subst e
   exact .inl ⟨⟨xs,q,Nat.le_refl _⟩,hd σ H p⟩
theorem Vx {lo:Int}{n:Nat}{g:TG}{tb:TS}{D:UT}{σ:St}{H:Hp}(Pv:Nat→St→Hp→Prop)(h0:Pv 0 σ H)
   (hs:∀ i σ H,i < n→Pv i σ H→g (.int (lo+i)) σ H fun σ2 H2=>tb { D with nx:=Pv (i+1),ct:=Pv (i+1),bk:=D.nx } σ2 H2) (hd:∀ σ H,Pv n σ H→D.nx σ H) :
   ∃ W:Nat→Nat→St→Hp→Prop,(∃ m,W 0 m σ H)∧∀ i m σ H,W i m σ H →
     ((Itr lo n).stop i H∧D.nx σ H)∨((Itr lo n).go i H∧∃ N:St→Hp→Prop,(∀ σ' H',N σ' H'→∃ m',m' < m∧W (i+1) m' σ' H')∧∀ x H',(Itr lo n).yld i H x H'→g x σ H' fun σ2 H2=>tb { D with nx:=N,ct:=N,bk:=D.nx } σ2 H2):=by
 refine ⟨fun i m σ H=>m=n - i∧i≤n∧Pv i σ H,⟨n,by simp,Nat.zero_le _,h0⟩,?_⟩
 rintro i m σ H ⟨rfl,hi,p⟩
 by_cases hlt:i < n
 · refine .inr ⟨hlt,Pv (i+1),fun σ' H' p'=>⟨n - (i+1),by omega,rfl,hlt,p'⟩,fun x H' y=>?_⟩
   obtain ⟨e,y⟩:=y
   subst e y
   exact hs i σ _ hlt p
 · have e:i=n:=by omega
   subst e
   exact .inl ⟨Nat.le_refl _,hd σ H p⟩
end L2
namespace L2
open PySem PySem.Spec PyProof.Rows
abbrev R2:=V→V→Hp→VK→Prop
def YQ (X:Cx)(f:Value→Value→Sem Value)(r:R2):Prop :=
 ∀ (pins:List (Addr×Obj)) (s:Shared) (σ:St) (H:Hp) (x y:V) (v u:Value) (Q:VK),Inv X pins σ H s→RelV x v→RelV y u→r x y H Q →
   wpAny (model X.prog X.w) X.A (f v u) (EP X pins σ Q) X.xe s
def UnR (X:Cx)(f:Value→Sem Value)(r:V→Hp→VK→Prop):Prop :=
 ∀ (pins:List (Addr×Obj)) (s:Shared) (σ:St) (H:Hp) (x:V) (v:Value) (Q:VK),Inv X pins σ H s→RelV x v→r x H Q →
   wpAny (model X.prog X.w) X.A (f v) (EP X pins σ Q) X.xe s
def Yr (X:Cx)(f:Value)(r:List V→Hp→VK→Prop):Prop :=
 ∀ (pins:List (Addr×Obj)) (s:Shared) (σ:St) (H:Hp) (xs:List V) (us:List Value) (Q:VK),Inv X pins σ H s→Vals xs us→r xs H Q →
   wpAny (model X.prog X.w) X.A (call f us) (EP X pins σ Q) X.xe s
def TruR (X:Cx)(r:V→Hp→(Bool→Hp→Prop)→Prop):Prop :=
 ∀ (pins:List (Addr×Obj)) (s:Shared) (σ:St) (H:Hp) (x:V) (v:Value) (Q:Bool→Hp→Prop),Inv X pins σ H s→RelV x v→r x H Q →
   wpAny (model X.prog X.w) X.A (truthy v) (TP X pins σ Q) X.xe s
def tOp (r:R2)(ta tb:TE):TE:=fun σ H Q=>ta σ H fun x H1=>tb σ H1 fun y H2=>r x y H2 Q
def tUn (r:V→Hp→VK→Prop)(ta:TE):TE:=fun σ H Q=>ta σ H fun x H1=>r x H1 Q
def rI (C:Int→Int→Prop)(g:Int→Int→V):R2:=fun x y H Q=>∃ i j,x=.int i∧y=.int j∧C i j∧Q (g i j) H
def rI0 (g:Int→Int→V):R2:=fun x y H Q=>∃ i j,x=.int i∧y=.int j∧Q (g i j) H
def rU (g:Int→V):V→Hp→VK→Prop:=fun x H Q=>∃ i,x=.int i∧Q (g i) H
section
variable {X:Cx}{a b c:Expr}{ta tb tc:TE}{pos:Pos}
theorem Zic (ha:PE X a ta)(hb:PE X b tb){pins:List (Addr×Obj)}{s:Shared}{σ:St}{H:Hp}{R:V→V→Hp→Prop}(I:Inv X pins σ H s)
   (h:ta σ H fun x H1=>tb σ H1 fun y H2=>R x y H2) {Q:Value→Shared→Prop} {f:Value→Value→Sem Value}
   (hf:∀ v u s2 x y H2,Inv X pins σ H2 s2→RelV x v→RelV y u→R x y H2→wpAny (model X.prog X.w) X.A (f v u) Q X.xe s2) :
   wpAny (model X.prog X.w) X.A (eval a X.env) (fun v s₁=>wpAny (model X.prog X.w) X.A (eval b X.env) (fun u s₂=>wpAny (model X.prog X.w) X.A (f v u) Q X.xe s₂) X.xe s₁) X.xe s:=by
 refine Zr (ha pins s σ H _ I h) fun v s1 ⟨x,H1,I1,r1,q1⟩=>?_
 refine Zr (hb pins s1 σ H1 _ I1 q1) fun u s2 ⟨y,H2,I2,r2,q2⟩=>?_
 exact hf v u s2 x y H2 I2 r1 r2 q2
theorem Zw {op:Operator}{r:R2}(ho:YQ X (binaryOp op) r)(ha:PE X a ta)(hb:PE X b tb):PE X (.BinOp a op b pos) (tOp r ta tb):=by
 intro pins s σ H Q I h
 exact wpAny_BinOp (Zic ha hb I h fun v u s2 x y H2 I2 rx ry q=>ho pins s2 σ H2 x y v u Q I2 rx ry q)
theorem Xt {op:UnaryOp}{r:V→Hp→VK→Prop}(ho:UnR X (unaryOp op) r)(ha:PE X a ta):PE X (.UnaryOp op a pos) (tUn r ta):=by
 intro pins s σ H Q I h
 exact UnaryOp_ (Zr (ha pins s σ H _ I h) fun v s1 ⟨x,H1,I1,r1,q1⟩=>ho pins s1 σ H1 x v Q I1 r1 q1)
theorem opI {f:Value→Value→Sem Value}{C:Int→Int→Prop}{g:Int→Int→Int}
   (rule:∀ (i j:Int) (t u:Tok) (s:Shared) (Q:Value→Shared→Prop) (E:Value→Shared→Prop),C i j→Q (.int (g i j) s.toks) { s with toks:=s.toks+1 }→wpAny (model X.prog X.w) X.A (f (.int i t) (.int j u)) Q E s) :
   YQ X f (rI C fun i j=>.int (g i j)):=by
 intro pins s σ H x y v u Q I rx ry h
 obtain ⟨i,j,rfl,rfl,hc,q⟩:=h
 obtain ⟨t,rfl⟩:=rx
 obtain ⟨t',rfl⟩:=ry
 exact rule i j t t' s _ _ hc ⟨.int (g i j),H,I.tok _,⟨_,rfl⟩,q⟩
theorem opI0 {f:Value→Value→Sem Value}{g:Int→Int→Int}
   (rule:∀ (i j:Int) (t u:Tok) (s:Shared) (Q:Value→Shared→Prop) (E:Value→Shared→Prop),Q (.int (g i j) s.toks) { s with toks:=s.toks+1 }→wpAny (model X.prog X.w) X.A (f (.int i t) (.int j u)) Q E s) :
   YQ X f (rI0 fun i j=>.int (g i j)):=by
 intro pins s σ H x y v u Q I rx ry h
 obtain ⟨i,j,rfl,rfl,q⟩:=h
 obtain ⟨t,rfl⟩:=rx
 obtain ⟨t',rfl⟩:=ry
 exact rule i j t t' s _ _ ⟨.int (g i j),H,I.tok _,⟨_,rfl⟩,q⟩
theorem Zfl {f:Value→Value→Sem Value}{g:Int→Int→Bool}
   (rule:∀ (i j:Int) (t u:Tok) (s:Shared) (Q:Value→Shared→Prop) (E:Value→Shared→Prop),Q (.bool (g i j)) s→wpAny (model X.prog X.w) X.A (f (.int i t) (.int j u)) Q E s) :
   YQ X f (rI0 fun i j=>.bl (g i j)):=by
 intro pins s σ H x y v u Q I rx ry h
 obtain ⟨i,j,rfl,rfl,q⟩:=h
 obtain ⟨t,rfl⟩:=rx
 obtain ⟨t',rfl⟩:=ry
 exact rule i j t t' s _ _ ⟨.bl (g i j),H,I,rfl,q⟩
def CDiv (i j:Int):Prop:=0 < j∧j < 1073741824
def CPow (i j:Int):Prop:=0≤j∧j≤1000000∧i.natAbs < 2 ^ 64
def CMul (i j:Int):Prop:=(-(2 ^ 64) < i∧i < 2 ^ 64)∨(-(2 ^ 64) < j∧j < 2 ^ 64)
theorem CMul.ok {i j:Int}(h:CMul i j):IntMulOk i j:=by
 rcases h with ⟨h1,h2⟩ | ⟨h1,h2⟩
 · exact .of_left (intBits_le_64 h1 h2)
 · exact .of_right (intBits_le_64 h1 h2)
theorem YC:YQ X (binaryOp .Add) (rI0 fun i j=>.int (i+j)):=opI0 fun _ _ _ _ _ _ _ q=>add_int q
theorem YA:YQ X (binaryOp .Sub) (rI0 fun i j=>.int (i - j)):=opI0 fun _ _ _ _ _ _ _ q=>sub_int q
theorem Wt:YQ X (binaryOp .Mult) (rI CMul fun i j=>.int (i * j)):=opI fun _ _ _ _ _ _ _ hc q=>mul_int q hc.ok
theorem Zep:YQ X (binaryOp .FloorDiv) (rI CDiv fun i j=>.int (i / j)):=opI fun i j _ _ _ _ _ hc q=>by
 have h1:(0:Int) < j:=hc.1
 have h2:j < 1073741824:=hc.2
 exact floordiv_int (by omega) (by rw [Int.fdiv_eq_ediv_of_nonneg i (by omega)];exact q) (.inl (PyProof.noPylong_small (by omega)))
theorem Xn:YQ X (binaryOp .Mod) (rI (fun _ j=>0 < j) fun i j=>.int (i % j)):=opI fun i j _ _ _ _ _ hc q=>by
 have h1:(0:Int) < j:=hc
 exact mod_int' (by omega) (by rw [Int.fmod_eq_emod_of_nonneg i (by omega)];exact q)
theorem Vn:YQ X (binaryOp .Pow) (rI CPow fun i j=>.int (i ^ j.toNat)):=opI fun _ _ _ _ _ _ _ hc q=>pow_int_small hc.1 hc.2.1 hc.2.2 q
theorem unI {f:Value→Sem Value}{g:Int→Int}
   (rule:∀ (i:Int) (t:Tok) (s:Shared) (Q:Value→Shared→Prop) (E:Value→Shared→Prop),Q (.int (g i) s.toks) { s with toks:=s.toks+1 }→wpAny (model X.prog X.w) X.A (f (.int i t)) Q E s) :
   UnR X f (rU fun i=>.int (g i)):=by
 intro pins s σ H x v Q I rx h
 obtain ⟨i,rfl,q⟩:=h
 obtain ⟨t,rfl⟩:=rx
 exact rule i t s _ _ ⟨.int (g i),H,I.tok _,⟨_,rfl⟩,q⟩
theorem YY:UnR X (unaryOp .USub) (rU fun i=>.int (-i)):=unI fun _ _ _ _ _ q=>neg_int q
end
def scal:V→V→Bool
 | .non,.non=>true | .non,.int _=>true | .int _,.non=>true | .non,.bl _=>true | .bl _,.non=>true | .non,.str _=>true | .str _,.non=>true
 | .int _,.int _=>true | .bl _,.bl _=>true | .str _,.str _=>true | .byt _,.byt _=>true
 | .int _,.str _=>true | .str _,.int _=>true | .bl _,.str _=>true | .str _,.bl _=>true
 | _,_=>false
def rEq:R2:=fun x y H Q=>scal x y=true∧Q (.bl (decide (x=y))) H
def rNe:R2:=fun x y H Q=>scal x y=true∧Q (.bl (!decide (x=y))) H
theorem Zeh {i j:Int}:decide (V.int i=V.int j)=(i == j):=by
 rw [Bool.eq_iff_iff]
 simp
theorem ZgC {i j:Bool}:decide (V.bl i=V.bl j)=(i == j):=by
 rw [Bool.eq_iff_iff]
 simp
theorem ZdK {i j:Str}:decide (V.str i=V.str j)=(i == j):=by
 rw [Bool.eq_iff_iff]
 simp
theorem ZdN {i j:Array UInt8}:decide (V.byt i=V.byt j)=(i.toList == j.toList):=by
 rw [Bool.eq_iff_iff]
 cases i
 cases j
 simp
section
variable {X:Cx}{a b c:Expr}{ta tb tc:TE}{pos:Pos}
theorem ZP {pins:List (Addr×Obj)}{σ:St}{H:Hp}{s:Shared}{Q:VK}{k k':Bool}(I:Inv X pins σ H s)(q:Q (.bl k) H)(e:k=k'):EP X pins σ Q (.bool k') s:=by
 subst e
 exact ⟨.bl k,H,I,rfl,q⟩
theorem Yh:YQ X (compareOp .Eq) rEq:=by
 intro pins s σ H x y v u Q I rx ry h
 obtain ⟨hs,q⟩:=h
 cases x with
 | non =>
   cases rx
   cases y with
   | non=>cases ry;exact PySem.EqNone.eq_none_none (ZP I q (by simp))
   | bl j=>cases ry;exact PySem.EqNone.eq_none_bool (ZP I q (by simp))
   | int j=>obtain ⟨t',rfl⟩:=ry;exact PySem.EqNone.eq_none_int (ZP I q (by simp))
   | str j=>obtain ⟨t',rfl⟩:=ry;exact PySem.EqNone.eq_none_str (ZP I q (by simp))
   | _=>exact absurd (show false=true from hs) Bool.false_ne_true
 | bl i =>
   cases rx
   cases y with
   | non=>cases ry;exact PySem.EqNone.eq_bool_none (ZP I q (by simp))
   | bl j=>cases ry;exact eq_bool (ZP I q ZgC)
   | str j=>obtain ⟨t',rfl⟩:=ry;exact PySem.EqMixed.eq_bool_str (ZP I q (by simp))
   | _=>exact absurd (show false=true from hs) Bool.false_ne_true
 | int i =>
   obtain ⟨t,rfl⟩:=rx
   cases y with
   | non=>cases ry;exact PySem.EqNone.eq_int_none (ZP I q (by simp))
   | int j=>obtain ⟨t',rfl⟩:=ry;exact eq_int (ZP I q Zeh)
   | str j=>obtain ⟨t',rfl⟩:=ry;exact PySem.EqMixed.eq_int_str (ZP I q (by simp))
   | _=>exact absurd (show false=true from hs) Bool.false_ne_true
 | str i =>
   obtain ⟨t,rfl⟩:=rx
   cases y with
   | non=>cases ry;exact PySem.EqNone.eq_str_none (ZP I q (by simp))
   | bl j=>cases ry;exact PySem.EqMixed.eq_str_bool (ZP I q (by simp))
   | int j=>obtain ⟨t',rfl⟩:=ry;exact PySem.EqMixed.eq_str_int (ZP I q (by simp))
   | str j=>obtain ⟨t',rfl⟩:=ry;exact eq_str (ZP I q ZdK)
   | _=>exact absurd (show false=true from hs) Bool.false_ne_true
 | byt i =>
   obtain ⟨t,rfl⟩:=rx
   cases y with
   | byt j=>obtain ⟨t',rfl⟩:=ry;exact PySem.W.eq_bytes (ZP I q ZdN)
   | _=>exact absurd (show false=true from hs) Bool.false_ne_true
 | _=>cases y<;>exact absurd (show false=true from hs) Bool.false_ne_true
theorem ZaD:YQ X (compareOp .NotEq) rNe:=by
 intro pins s σ H x y v u Q I rx ry h
 obtain ⟨hs,q⟩:=h
 cases x with
 | non =>
   cases rx
   cases y with
   | non=>cases ry;exact PySem.EqNone.ne_none_none (ZP I q (by simp))
   | bl j=>cases ry;exact PySem.EqNone.ne_none_bool (ZP I q (by simp))
   | int j=>obtain ⟨t',rfl⟩:=ry;exact PySem.EqNone.ne_none_int (ZP I q (by simp))
   | str j=>obtain ⟨t',rfl⟩:=ry;exact PySem.EqNone.ne_none_str (ZP I q (by simp))
   | _=>exact absurd (show false=true from hs) Bool.false_ne_true
 | bl i =>
   cases rx
   cases y with
   | non=>cases ry;exact PySem.EqNone.ne_bool_none (ZP I q (by simp))
   | bl j=>cases ry;exact ne_bool (ZP I q (congrArg not ZgC))
   | str j=>obtain ⟨t',rfl⟩:=ry;exact PySem.EqMixed.ne_bool_str (ZP I q (by simp))
   | _=>exact absurd (show false=true from hs) Bool.false_ne_true
 | int i =>
   obtain ⟨t,rfl⟩:=rx
   cases y with
   | non=>cases ry;exact PySem.EqNone.ne_int_none (ZP I q (by simp))
   | int j=>obtain ⟨t',rfl⟩:=ry;exact ne_int (ZP I q (congrArg not Zeh))
   | str j=>obtain ⟨t',rfl⟩:=ry;exact PySem.EqMixed.ne_int_str (ZP I q (by simp))
   | _=>exact absurd (show false=true from hs) Bool.false_ne_true
 | str i =>
   obtain ⟨t,rfl⟩:=rx
   cases y with
   | non=>cases ry;exact PySem.EqNone.ne_str_none (ZP I q (by simp))
   | bl j=>cases ry;exact PySem.EqMixed.ne_str_bool (ZP I q (by simp))
   | int j=>obtain ⟨t',rfl⟩:=ry;exact PySem.EqMixed.ne_str_int (ZP I q (by simp))
   | str j=>obtain ⟨t',rfl⟩:=ry;exact ne_str (ZP I q (congrArg not ZdK))
   | _=>exact absurd (show false=true from hs) Bool.false_ne_true
 | byt i =>
   obtain ⟨t,rfl⟩:=rx
   cases y with
   | byt j=>obtain ⟨t',rfl⟩:=ry;exact PySem.W.ne_bytes (ZP I q (congrArg not ZdN))
   | _=>exact absurd (show false=true from hs) Bool.false_ne_true
 | _=>cases y<;>exact absurd (show false=true from hs) Bool.false_ne_true
theorem VM:YQ X (compareOp .Lt) (rI0 fun i j=>.bl (decide (i < j))):=Zfl fun _ _ _ _ _ _ _ q=>lt_int q
theorem ZiA:YQ X (compareOp .LtE) (rI0 fun i j=>.bl (decide (i≤j))):=Zfl fun _ _ _ _ _ _ _ q=>le_int q
theorem ZiN:YQ X (compareOp .Gt) (rI0 fun i j=>.bl (decide (j < i))):=Zfl fun _ _ _ _ _ _ _ q=>gt_int q
theorem ZiD:YQ X (compareOp .GtE) (rI0 fun i j=>.bl (decide (j≤i))):=Zfl fun _ _ _ _ _ _ _ q=>ge_int q
theorem ZC (b:Expr){op:CmpOp}(h:op≠.In:=by decide)(h2:op≠.NotIn:=by decide):behindInMarks op b=false:=by
 have e1:(op == CmpOp.In)=false:=by cases op<;>first | rfl | exact absurd rfl h
 have e2:(op == CmpOp.NotIn)=false:=by cases op<;>first | rfl | exact absurd rfl h2
 cases b<;>simp [behindInMarks,e1,e2]
theorem Yl {op:CmpOp}{r:R2}(ho:YQ X (compareOp op) r)(ha:PE X a ta)(hb:PE X b tb)(hm:behindInMarks op b=false):PE X (.Compare a [op] [b] pos) (tOp r ta tb):=by
 intro pins s σ H Q I h
 exact wpAny_Compare1 (Zic ha hb I h fun v u s2 x y H2 I2 rx ry q=>ho pins s2 σ H2 x y v u Q I2 rx ry q) hm
def ZiT (t:TE):TT:=fun σ H Q=>t σ H fun x H'=>∃ k,x=.bl k∧Q k H'
theorem ZJ {op:CmpOp}{r:R2}(ho:YQ X (compareOp op) r)(ha:PE X a ta)(hb:PE X b tb)(hm:behindInMarks op b=false):PT X (.Compare a [op] [b] pos) (ZiT (tOp r ta tb)):=by
 intro pins s σ H Q I h
 refine wpAny_isTrue_Compare1 (Zr (ha pins s σ H _ I h) fun v s1 ⟨x,H1,I1,r1,q1⟩=>Zr (hb pins s1 σ H1 _ I1 q1) fun u s2 ⟨y,H2,I2,r2,q2⟩ =>
   Zr (ho pins s2 σ H2 x y v u _ I2 r1 r2 q2) fun c s3 ⟨z,H3,I3,r3,k,e,q3⟩=>?_) hm
 subst e
 cases r3
 exact wpAny_truthy_bool ⟨H3,I3,q3⟩
def Zlu (r r':R2)(ta tb tc:TE):TE:=fun σ H Q=>ta σ H fun x H1=>tb σ H1 fun y H2=>r x y H2 fun z H3=>∃ k,z=.bl k ∧
 (if k=true then tc σ H3 fun w' H4=>r' y w' H4 Q else Q (.bl false) H3)
theorem ZcY {op op':CmpOp}{r r':R2}(ho:YQ X (compareOp op) r)(ho':YQ X (compareOp op') r')(ha:PE X a ta)(hb:PE X b tb)(hc:PE X c tc)
   (hm:lastMarks [op,op'] [b,c]=false:=by with_unfolding_all rfl):PT X (.Compare a [op,op'] [b,c] pos) (ZiT (Zlu r r' ta tb tc)):=by
 intro pins s σ H Q I h
 refine isTrue_chain (Zr (ha pins s σ H _ I h) fun v s1 ⟨x,H1,I1,r1,q1⟩=>test_link (Zr (hb pins s1 σ H1 _ I1 q1) fun u s2 ⟨y,H2,I2,r2,q2⟩ =>
   Zr (ho pins s2 σ H2 x y v u _ I2 r1 r2 q2) fun d s3 ⟨z,H3,I3,r3,k,e,q3⟩=>?_)) hm
 subst e
 cases r3
 refine wpAny_truthy_bool ?_
 cases k with
 | false =>
   obtain ⟨k',e',q'⟩:=q3
   cases e'
   exact ite_ff ⟨H3,I3,q'⟩
 | true =>
   refine ite_tt (test_last (Zr (hc pins s3 σ H3 _ I3 q3) fun w' s4 ⟨z',H4,I4,r4,q4⟩=>Zr (ho' pins s4 σ H4 y z' u w' _ I4 r2 r4 q4) fun d' s5 ⟨z2,H5,I5,r5,k2,e2,q5⟩=>?_))
   subst e2
   cases r5
   exact wpAny_truthy_bool ⟨H5,I5,q5⟩
def TruV (K:PySem.W.Frag)(x:V)(H:Hp)(k:Bool):Prop :=
 match x with
 | .non=>k=false
 | .bl b=>k=b
 | .int i=>k=(i != 0)
 | .str y=>y.length≤sizeLine∧k=((y.length:Int) != 0)
 | .byt y=>y.size≤sizeLine∧k=((y.size:Int) != 0)
 | .ref p=>(∃ xs,SqL K H p xs∧k=!xs.isEmpty)∨(∃ xs,SqT K H p xs∧k=!xs.isEmpty)∨∃ kvs,H p=some (.dK kvs)∧k=!kvs.isEmpty
 | _=>False
theorem Zfu {κ:Type}{kvs:List (κ×V)}{vs:List (κ×Value)}(r:KV kvs vs):(!vs.isEmpty)=!kvs.isEmpty:=by
 cases r<;>rfl
theorem Zat {xs:List V}{its:List Value}(r:Vals xs its):(!its.toArray.isEmpty)=!xs.isEmpty:=by
 cases r<;>simp
theorem WU:(sizeLine:Nat) < 2 ^ 63:=by rw [sizeLine_eq];decide
theorem Zkv:TruR X (fun x H Q=>∃ k,TruV X.K x H k∧Q k H):=by
 intro pins s σ H x v Q I rx h
 obtain ⟨k,e,q⟩:=h
 have hl:=WU
 have hs:sizeLine=16777216:=sizeLine_eq
 cases x with
 | non =>
   cases rx
   have e':k=false:=e
   subst e'
   exact truthy_none ⟨H,I,q⟩
 | bl b =>
   cases rx
   have e':k=b:=e
   subst e'
   exact wpAny_truthy_bool ⟨H,I,q⟩
 | int i =>
   obtain ⟨t,rfl⟩:=rx
   have e':k=(i != 0):=e
   subst e'
   exact PySem.P.truthy_int ⟨H,I,q⟩
 | str y =>
   obtain ⟨t,rfl⟩:=rx
   obtain ⟨hy,e'⟩:y.length≤sizeLine∧k=((y.length:Int) != 0):=e
   subst e'
   exact PySem.P.truthy_str (by omega) ⟨H,I.tok _,q⟩
 | byt y =>
   obtain ⟨t,rfl⟩:=rx
   obtain ⟨hy,e'⟩:y.size≤sizeLine∧k=((y.size:Int) != 0):=e
   subst e'
   exact PySem.W.truthy_bytes (by omega) ⟨H,I.tok _,q⟩
 | ref p =>
   cases rx
   have e':(∃ xs,SqL X.K H p xs∧k=!xs.isEmpty)∨(∃ xs,SqT X.K H p xs∧k=!xs.isEmpty)∨∃ kvs,H p=some (.dK kvs)∧k=!kvs.isEmpty:=e
   rcases e' with ⟨xs,hx,e'⟩ | ⟨xs,hx,e'⟩ | ⟨kvs,hx,e'⟩
   · subst e'
     obtain ⟨its,r,pl,hz⟩:=I.list hx
     have hlen:=r.length
     exact wpAny_truthy_list pl.isList (by simp only [List.size_toArray];omega) ⟨H,I.tok _,by rw [Zat r];exact q⟩
   · subst e'
     obtain ⟨its,r,pl,hz⟩:=I.tuple hx
     have hlen:=r.length
     exact truthy_tuple pl (by simp only [List.size_toArray];omega) ⟨H,I.tok _,by rw [Zat r];exact q⟩
   · subst e'
     obtain ⟨hz,hS,vs,r,m⟩:kvs.length≤sizeLine∧(p == sysModules)=false∧∃ vs,KV kvs vs∧s.heap.DictOf (ZI X.prog X.w) p vs:=I.hok p _ hx
     have hlen:kvs.length=vs.length:=Paired.length r
     exact wpAny_truthy_dict hS m (by omega) ⟨H,I.tok _,by rw [Zfu r];exact q⟩
 | _=>exact (show False from e).elim
theorem US (ha:PE X a ta)(he:∀ whole,isTrue a X.env whole=(do let v ← whole;standAt a.pos;holding [v] (truthy v))) :
   PT X a (fun σ H Q=>ta σ H fun x H'=>∃ k,TruV X.K x H' k∧Q k H'):=by
 intro pins s σ H Q I h
 exact isTrue_plain (Zr (ha pins s σ H _ I h) fun v s1 ⟨x,H1,I1,r1,q1⟩=>Zkv pins s1 σ H1 x v Q I1 r1 q1) (he _)
theorem XV:YQ X (binaryOp .Add) (fun x y H Q=>∃ i j,x=.str i∧y=.str j∧i.length+j.length≤sizeLine∧Q (.str (i++j)) H):=by
 intro pins s σ H x y v u Q I rx ry h
 obtain ⟨i,j,rfl,rfl,hz,q⟩:=h
 obtain ⟨t,rfl⟩:=rx
 obtain ⟨t',rfl⟩:=ry
 exact add_str (fun t' tk=>⟨.str (i++j),H,I.tok _,⟨_,rfl⟩,q⟩) hz
theorem Ys {x:V}{us:List Value}(r:Vals [x] us):∃ u,us=[u]∧RelV x u:=by
 cases r with
 | cons r1 r2=>cases r2;exact ⟨_,rfl,r1⟩
theorem ZaX {x y:V}{us:List Value}(r:Vals [x,y] us):∃ u w',us=[u,w']∧RelV x u∧RelV y w':=by
 cases r with
 | cons r1 r2 =>
   cases r2 with
   | cons r3 r4=>cases r4;exact ⟨_,_,rfl,r1,r3⟩
theorem Zdj:Yr X (.builtin "abs") (fun xs H Q=>∃ i,xs=[.int i]∧Q (.int (if i < 0 then -i else i)) H):=by
 intro pins s σ H xs us Q I r h
 obtain ⟨i,rfl,q⟩:=h
 obtain ⟨u,rfl,t,rfl⟩:=Ys r
 exact call_abs_int fun u tk=>⟨.int (if i < 0 then -i else i),H,I.tok _,⟨_,rfl⟩,q⟩
theorem ZfO (hc:X.calm=true):Yr X (.builtin "max") (fun xs H Q=>∃ i j,xs=[.int i,.int j]∧Q (.int (if j > i then j else i)) H):=by
 intro pins s σ H xs us Q I r h
 obtain ⟨i,j,rfl,q⟩:=h
 obtain ⟨u,w',rfl,⟨t,rfl⟩,⟨t',rfl⟩⟩:=ZaX r
 refine max_two_ints (I.ok.hd hc) fun h' tk k=>⟨_,H,I.kept k,?_,q⟩
 by_cases hj:j > i
 · rw [if_pos hj,if_pos hj];exact ⟨_,rfl⟩
 · rw [if_neg hj,if_neg hj];exact ⟨_,rfl⟩
theorem ZfK (hc:X.calm=true):Yr X (.builtin "min") (fun xs H Q=>∃ i j,xs=[.int i,.int j]∧Q (.int (if j < i then j else i)) H):=by
 intro pins s σ H xs us Q I r h
 obtain ⟨i,j,rfl,q⟩:=h
 obtain ⟨u,w',rfl,⟨t,rfl⟩,⟨t',rfl⟩⟩:=ZaX r
 refine min_two_ints (I.ok.hd hc) fun h' tk k=>⟨_,H,I.kept k,?_,q⟩
 by_cases hj:j < i
 · rw [if_pos hj,if_pos hj];exact ⟨_,rfl⟩
 · rw [if_neg hj,if_neg hj];exact ⟨_,rfl⟩
theorem ZbB:Yr X (.type "int") (fun xs H Q=>(∃ i,xs=[.int i]∧Q (.int i) H)∨∃ k,xs=[.bl k]∧Q (.int (if k then 1 else 0)) H):=by
 intro pins s σ H xs us Q I r h
 rcases h with ⟨i,rfl,q⟩ | ⟨k,rfl,q⟩
 · obtain ⟨u,rfl,t,rfl⟩:=Ys r
   exact call_int_int ⟨.int i,H,I,⟨_,rfl⟩,q⟩
 · obtain ⟨u,rfl,r1⟩:=Ys r
   cases r1
   exact call_int_bool ⟨.int (if k then 1 else 0),H,I.tok _,⟨_,rfl⟩,q⟩
theorem Zct:Yr X (.builtin "ord") (fun xs H Q=>∃ x,xs=[.str x]∧x.length=1∧Q (.int (x.cps.getD 0 0:Nat)) H):=by
 intro pins s σ H xs us Q I r h
 obtain ⟨x,rfl,hz,q⟩:=h
 obtain ⟨u,rfl,t,rfl⟩:=Ys r
 exact ord_of_one hz ⟨.int _,H,I.tok _,⟨_,rfl⟩,q⟩
def Zhw (K:PySem.W.Frag)(x:V)(H:Hp)(n:Nat):Prop :=
 match x with
 | .str y=>y.length≤sizeLine∧n=y.length
 | .byt y=>y.size≤sizeLine∧n=y.size
 | .ref p=>(∃ xs,SqL K H p xs∧n=xs.length)∨∃ xs,SqT K H p xs∧n=xs.length
 | _=>False
theorem Zhp:Yr X (.builtin "len") (fun xs H Q=>∃ x n,xs=[x]∧Zhw X.K x H n∧Q (.int n) H):=by
 intro pins s σ H xs us Q I r h
 obtain ⟨x,n,rfl,e,q⟩:=h
 obtain ⟨u,rfl,rx⟩:=Ys r
 have hl:=WU
 have hs:sizeLine=16777216:=sizeLine_eq
 cases x with
 | str y =>
   obtain ⟨t,rfl⟩:=rx
   obtain ⟨hy,e'⟩:y.length≤sizeLine∧n=y.length:=e
   subst e'
   exact len_str (by omega) ⟨.int _,H,I.tok _,⟨_,rfl⟩,q⟩
 | byt y =>
   obtain ⟨t,rfl⟩:=rx
   obtain ⟨hy,e'⟩:y.size≤sizeLine∧n=y.size:=e
   subst e'
   exact PySem.W.len_bytes (by omega) ⟨.int _,H,I.tok _,⟨_,rfl⟩,q⟩
 | ref p =>
   cases rx
   have e':(∃ xs,SqL X.K H p xs∧n=xs.length)∨∃ xs,SqT X.K H p xs∧n=xs.length:=e
   rcases e' with ⟨xs,hx,e'⟩ | ⟨xs,hx,e'⟩
   · subst e'
     obtain ⟨its,r',pl,hz⟩:=I.list hx
     have hlen:=r'.length
     exact Calls.call_len_list pl.isList (by simp only [List.size_toArray];omega) ⟨.int xs.length,H,I.tok _,⟨_,by simp only [List.size_toArray];rw [hlen]⟩,q⟩
   · subst e'
     obtain ⟨its,r',pl,hz⟩:=I.tuple hx
     have hlen:=r'.length
     exact len_tuple pl (by simp only [List.size_toArray];omega) ⟨.int xs.length,H,I.tok _,⟨_,by simp only [List.size_toArray];rw [hlen]⟩,q⟩
 | _=>exact (show False from e).elim
theorem ZdB:Yr X (.builtin "divmod") (fun xs H Q=>∃ i j,xs=[.int i,.int j]∧CDiv i j∧∀ p,H p=none→Q (.ref p) (upd H p (.tup [.int (i / j),.int (i % j)]))):=by
 intro pins s σ H xs us Q I r h
 obtain ⟨i,j,rfl,⟨h1,h2⟩,q⟩:=h
 obtain ⟨u,w',rfl,⟨t,rfl⟩,⟨t',rfl⟩⟩:=ZaX r
 refine divmod_int (by omega) ?_ (.inl (PyProof.noPylong_small (by omega)))
 rw [Int.fdiv_eq_ediv_of_nonneg i (by omega),Int.fmod_eq_emod_of_nonneg i (by omega)]
 have hn:H s.heap.objs.size=none:=I.hok.fresh (Nat.le_refl _)
 refine ⟨.ref s.heap.objs.size,_,?_,rfl,q _ hn⟩
 refine I.laid (fun b o e=>Heap.get?_push_of_some _ e) (Nat.le_refl _) ⟨by simp only [List.length_cons,List.length_nil];rw [sizeLine_eq];decide,[.int (i / j) s.toks,.int (i % j) (s.toks+1)],.cons ⟨_,rfl⟩ (.cons ⟨_,rfl⟩ .nil),?_⟩
 exact ⟨_,Heap.get?_push_size s.heap rfl,rfl,0,rfl⟩
end
end L2
namespace L2
open PySem PySem.Spec PyProof.Rows
structure ObjM (h:Heap)(x dx C:Addr)(mA:Str→Option Value):Prop where
 obj:h.get? x=some (PySem.W.instObj C dx)
 ns:h.Ns1 dx mA
 ne:dx≠x
theorem ZfZ {h:Heap}{dx:Addr}{mA:Str→Option Value}(n:h.Ns1 dx mA):∃ od,h.get? dx=some od∧∀ name,PySem.W.lookIn name od=some (mA name):=by
 obtain ⟨o,es,ep,ho,hd,hk,_,hm⟩:=n
 refine ⟨o,ho,fun name=>?_⟩
 have e:=hm name
 unfold nsFind findBy at e
 rw [← Array.find?_toList] at e
 unfold PySem.W.lookIn
 rw [hd]
 dsimp only
 split
 · rename_i y q
   rw [q] at e
   exact congrArg some e
 · rename_i q
   rw [q] at e
   have a:es.toList.any (·.refKey)=false:=by
     rw [List.any_eq_false]
     intro y hy
     obtain ⟨z,t,hkey⟩:=hk y (Array.mem_toList_iff.mp hy)
     simp [DictEntry.refKey,hkey]
   have a':¬ es.toList.any (·.refKey)=true:=by rw [a];exact Bool.false_ne_true
   rw [if_neg a']
   exact congrArg some e
theorem ObjM.look {h:Heap}{x dx C:Addr}{mA:Str→Option Value}(I:ObjM h x dx C mA):∃ od,PySem.W.InstAt h x (PySem.W.instObj C dx) C (some od)∧∀ name,PySem.W.lookIn name od=some (mA name) :=
 let ⟨od,ho,hl⟩:=ZfZ I.ns
 ⟨od,⟨I.obj,rfl,rfl,ho⟩,hl⟩
section
variable {prog:Program}{w:World}{A:Around}{E:Value→Shared→Prop}{s:Shared}{K:PySem.W.Frag}{x dx C f:Addr}{mA:Str→Option Value}{name:Str}{v:Value}
theorem ZjA {expr:Bool}{Q:Value→Shared→Prop}(X:K.In s.heap)(I:ObjM s.heap x dx C mA)(hg:PySem.W.plainGet K C name=true)(hh:PySem.W.hasDictIn K C=true)
   (ha:PySem.W.findIn K (.ref C) name=some none) (hv:mA name=some v) (hv':PySem.W.handedIn v=true) (h:Q v { s with toks:=s.toks+1 }) :
   wpAny (model prog w) A (getAttr (.ref x) name expr) Q E s:=by
 obtain ⟨od,J,hl⟩:=I.look
 exact PySem.W.get_value X J (PySem.W.plainGet_of hg).1 (PySem.W.findObj_own hh ha rfl (by rw [hl,hv])) hv' h
theorem ZhH {pl:Sem Bool}{Q:Value×List Value→Shared→Prop}(X:K.In s.heap)(I:ObjM s.heap x dx C mA)(hg:PySem.W.plainGet K C name=true)
   (hf:PySem.W.findIn K (.ref C) name=some (some (.ref f))) (ht:PySem.W.isFn K (.ref f)=true) (hv:mA name=none) (h:Q (.ref f,[.ref x]) s) :
   wpAny (model prog w) A (getMethod (.ref x) name pl) Q E s:=by
 obtain ⟨od,J,hl⟩:=I.look
 exact PySem.W.method_fn X J (PySem.W.plainGet_of hg).1 (PySem.W.plainGet_of hg).2 hf (beq_iff_eq.mp ht) (by show (PySem.W.lookIn name od).map (·.isSome)=some false;rw [hl,hv];rfl) h
theorem Zkd {ns:List Str}{Q:Unit→Shared→Prop}(X:K.In s.heap)(I:ObjM s.heap x dx C mA)
   (hs:PySem.W.findIn K (.ref C) "__setattr__"=some (some (.builtin "object.__setattr__"))) (hp:PySem.W.plainOver K C=true) (ht:PySem.W.takerIn K C name=some none) (hh:PySem.W.hasDictIn K C=true)
   (hw:PySem.Within mA ns) (hsz:ns.length≤sizeLine)
   (h:∀ h',ObjM h' x dx C (fun y=>if y=name then some v else mA y)→Heap.SameBut dx s.heap h'→Q () { s with heap:=h',toks:=s.toks+2 }) :
   wpAny (model prog w) A (setAttr (.ref x) name v) Q E s:=by
 obtain ⟨od,J,hl⟩:=I.look
 refine PySem.W.set_plain X J hs (PySem.W.osa_open (s:={ s with toks:=s.toks+1 }) (r:=none) X J hp ht fun b=>?_)
 obtain ⟨cd,hc,hd'⟩:=PySem.W.any_some hh
 have hx:s.heap.get? x=some ⟨.ref C,some dx,.plain,#[]⟩:=I.obj
 refine wpAny_bind (wpAny_pure (wpAny_bind (wpAny_bind (wpAny_loadPart hx (wpAny_bind (PySem.W.Looks.here (s:={ s with toks:=s.toks+1 }) (PySem.W.looks_clsIn X hc) ?_))))))
 rw [hd']
 refine wpAny_pure (a:=some dx) (wpAny_bind (wpAny_pure (wpAny_bind ?_)))
 refine wpAny_nsSet1 (s:={ s with toks:=s.toks+1 }) I.ns fun h' hn2 hs2=>?_
 obtain ⟨oD,esD,epD,hoD,hdD,hcD⟩:=hn2.count (PySem.Within.cons name v hw)
 refine wpAny_bind (wpAny_lookBehind hoD (by rw [hdD];exact pastItsLine_dict (Nat.le_trans hcD (by rw [List.length_cons];omega))) ?_)
 exact wpAny_pure (h _ ⟨(hs2.2 _ (Ne.symm I.ne)).trans I.obj,hn2,I.ne⟩ hs2)
theorem Zij {R:Result→Shared→Prop}{vs:List Value}{kw:List (Str×Value)}(X:K.In s.heap)(hm:PySem.W.makesIn K C=true)
   (hi:PySem.W.findIn K (.ref C) "__init__"=some (some (.ref f))) (hf:PySem.W.typeIn K (.ref f)=some (.type "function"))
   (h:codeAny (model prog w) (A.under (.builtin "type.__call__" ⟨.ref C::vs,kw⟩)) (.call (.ref f) ⟨.ref (s.heap.objs.size+1)::vs,kw⟩) (PySem.W.InitBack (s.heap.objs.size+1) R)
     { s with heap:=(s.heap.push PySem.W.emptyDict).push (PySem.W.instObj C s.heap.objs.size) }) :
   codeAny (model prog w) A (.call (.ref C) ⟨vs,kw⟩) R s:=by
 obtain ⟨hh,g,d,t,os⟩:=s
 exact PySem.W.make_core (PySem.W.makes_of X hm) (PySem.W.looks_findIn X hi) (fun self=>PySem.W.bind_fn X self hf) (.inl rfl) h
end
def Xj (f:Str)(v:V):List (Str×V)→List (Str×V)
 | []=>[(f,v)]
 | (g,x)::r=>if g=f then (g,v)::r else (g,x)::Xj f v r
theorem YO (f g:Str)(v:V):∀ fs:List (Str×V),(Xj f v fs).lookup g=if g=f then some v else fs.lookup g
 | []=>by
   show List.lookup g [(f,v)]=_
   by_cases h:g=f
   · have hb:(g == f)=true:=beq_iff_eq.mpr h
     simp only [List.lookup,hb,if_pos h]
   · have hb:(g == f)=false:=beq_eq_false_iff_ne.mpr h
     simp only [List.lookup,hb,if_neg h]
 | (k, x)::r=>by
   have ih:=YO f g v r
   rw [show Xj f v ((k,x)::r)=(if k=f then (k,v)::r else (k,x)::Xj f v r) from rfl]
   by_cases hk:k=f
   · rw [if_pos hk]
     by_cases h:g=k
     · have hb:(g == k)=true:=beq_iff_eq.mpr h
       simp only [List.lookup,hb,if_pos (h.trans hk)]
     · have hb:(g == k)=false:=beq_eq_false_iff_ne.mpr h
       simp only [List.lookup,hb,if_neg (fun e:g=f=>h (e.trans hk.symm))]
   · rw [if_neg hk]
     by_cases h:g=k
     · have hb:(g == k)=true:=beq_iff_eq.mpr h
       simp only [List.lookup,hb,if_neg (fun e:g=f=>hk (h.symm.trans e))]
     · have hb:(g == k)=false:=beq_eq_false_iff_ne.mpr h
       simp only [List.lookup,hb]
       exact ih
theorem Vo (f:Str)(v:V):∀ fs:List (Str×V),f∈(Xj f v fs).map (·.1)∧∀ g,g∈fs.map (·.1)→g∈(Xj f v fs).map (·.1)
 | []=>⟨by simp [Xj],fun g h=>by simp at h⟩
 | (k, x)::r=>by
   obtain ⟨i1,i2⟩:=Vo f v r
   rw [show Xj f v ((k,x)::r)=(if k=f then (k,v)::r else (k,x)::Xj f v r) from rfl]
   by_cases hk:k=f
   · rw [if_pos hk]
     subst hk
     exact ⟨by simp,fun g h=>by simpa using h⟩
   · rw [if_neg hk]
     refine ⟨?_,fun g h=>?_⟩
     · rw [List.map_cons]
       exact List.mem_cons_of_mem _ i1
     · rw [List.map_cons] at h ⊢
       rcases List.mem_cons.mp h with e | e
       · exact List.mem_cons.mpr (.inl e)
       · exact List.mem_cons_of_mem _ (i2 g e)
theorem VU (f:Str)(v:V):∀ fs:List (Str×V),(Xj f v fs).length≤fs.length+1
 | []=>by simp [Xj]
 | (k,x)::r=>by
   have ih:=VU f v r
   rw [show Xj f v ((k,x)::r)=(if k=f then (k,v)::r else (k,x)::Xj f v r) from rfl]
   by_cases hk:k=f
   · rw [if_pos hk,List.length_cons,List.length_cons];omega
   · rw [if_neg hk,List.length_cons,List.length_cons];omega
theorem RelO.some_of {v:V}{o:Option Value}(r:RelO (some v) o):∃ u,o=some u∧RelV v u:=by
 cases o with
 | none=>exact (show False from r).elim
 | some u=>exact ⟨u,rfl,r⟩
theorem RelO.none_of {o:Option Value}(r:RelO none o):o=none:=by
 cases o with
 | none=>rfl
 | some u=>exact (show False from r).elim
theorem ZbQ {v:V}{u:Value}(r:RelV v u):PySem.W.handedIn u=true:=by
 cases v with
 | non=>cases (show u=Value.none from r);rfl
 | bl b=>cases (show u=Value.bool b from r);rfl
 | int i=>obtain ⟨t,e⟩:=(show ∃ t,u=Value.int i t from r);cases e;rfl
 | str x=>obtain ⟨t,e⟩:=(show ∃ t,u=Value.str x t from r);cases e;rfl
 | byt b=>obtain ⟨t,e⟩:=(show ∃ t,u=Value.bytes b t from r);cases e;rfl
 | flt b=>obtain ⟨t,e⟩:=(show ∃ t,u=Value.float b t from r);cases e;rfl
 | ref a=>cases (show u=Value.ref a from r);rfl
 | ty n=>cases (show u=Value.type n from r);rfl
section
variable {P:Program}{w:World}{H H':Hp}{h h':Heap}{a C dx:Addr}{fs fs':List (Str×V)}
theorem VC (hok:HOk P w H h)(e:H a=some (.ins C dx fs)):∃ mA,ObjM h a dx C mA∧(∀ f,RelO (fs.lookup f) (mA f))∧PySem.Within mA (fs.map (·.1))∧fs.length≤1000∧H dx=some (.own a):=by
 obtain ⟨d,z,ne,ob,mA,n,r,q⟩:=(show ObjOk P w H h a (.ins C dx fs) from hok a _ e)
 exact ⟨mA,⟨ob,n,ne⟩,r,q,z,d⟩
end
structure Cls (K:PySem.W.Frag)(C:Addr):Prop where
 pg:PySem.W.plainGet K C Str.empty=true
 hd:PySem.W.hasDictIn K C=true
 po:PySem.W.plainOver K C=true
 sa:PySem.W.findIn K (.ref C) "__setattr__"=some (some (.builtin "object.__setattr__"))
theorem Cls.get {K:PySem.W.Frag}{C:Addr}(c:Cls K C)(f:Str):PySem.W.plainGet K C f=true:=c.pg
def NoAttr (K:PySem.W.Frag)(C:Addr)(f:Str):Prop:=PySem.W.findIn K (.ref C) f=some none
theorem NoAttr.taker {K:PySem.W.Frag}{C:Addr}{f:Str}(n:NoAttr K C f):PySem.W.takerIn K C f=some none:=by
 unfold PySem.W.takerIn
 rw [show PySem.W.findIn K (.ref C) f=some none from n]
 rfl
structure VA (K:PySem.W.Frag)(C:Addr)(m:Str)(f:Addr):Prop where
 at_:PySem.W.findIn K (.ref C) m=some (some (.ref f))
 fn:PySem.W.isFn K (.ref f)=true
 kp:PySem.W.keepIn K (.ref f)=true
section
variable {X:Cx}{pins:List (Addr×Obj)}{σ:St}{H:Hp}{s:Shared}{a C dx:Addr}{fs:List (Str×V)}{f:Str}{v:V}{A:Around}{E:Value→Shared→Prop}
theorem Zfs {b:Bool}{Q:Value→Shared→Prop}(I:Inv X pins σ H s)(e:H a=some (.ins C dx fs))(c:Cls X.K C)(n:NoAttr X.K C f)(l:fs.lookup f=some v)
   (h:∀ u s',Inv X pins σ H s'→RelV v u→Q u s'):wpAny (model X.prog X.w) A (getAttr (.ref a) f b) Q E s:=by
 obtain ⟨mA,O,r,_,_,_⟩:=VC I.hok e
 obtain ⟨u,hu,ru⟩:=RelO.some_of (v:=v) (o:=mA f) (by rw [← l];exact r f)
 exact ZjA I.kIn O (c.get f) c.hd n hu (ZbQ ru) (h u _ (I.tok _) ru)
theorem UC {m:Str}{g:Addr}{pl:Sem Bool}{Q:Value×List Value→Shared→Prop}(I:Inv X pins σ H s)(e:H a=some (.ins C dx fs))(c:Cls X.K C)(k:VA X.K C m g)(l:fs.lookup m=none)
   (h:Q (.ref g,[.ref a]) s):wpAny (model X.prog X.w) A (getMethod (.ref a) m pl) Q E s:=by
 obtain ⟨mA,O,r,_,_,_⟩:=VC I.hok e
 have hn:mA m=none:=RelO.none_of (by rw [← l];exact r m)
 exact ZhH I.kIn O (c.get m) k.at_ k.fn hn h
theorem Zfb {y:V}{u:Value}{Q:Unit→Shared→Prop}(I:Inv X pins σ H s)(e:H a=some (.ins C dx fs))(c:Cls X.K C)(n:NoAttr X.K C f)(hl:fs.length < 1000)(ry:RelV y u)
   (h:∀ s',Inv X pins σ (upd H a (.ins C dx (Xj f y fs))) s'→Q () s'):wpAny (model X.prog X.w) A (setAttr (.ref a) f u) Q E s:=by
 obtain ⟨mA,O,r,wi,_,ho⟩:=VC I.hok e
 have hz:(fs.map (·.1)).length≤sizeLine:=by rw [List.length_map,sizeLine_eq];omega
 refine Zkd I.kIn O c.sa c.po n.taker c.hd wi hz fun h' O' sb=>h _ ?_
 have hd:∃ o,h'.get? dx=some o:=let ⟨o,_,_,e',_⟩:=O'.ns;⟨o,e'⟩
 refine I.write (x:=a) (e:=dx) (by rw [e];exact True.intro) (.inr ho) (fun b q hb z=>(sb.2 b hb).trans z) hd ?_
 refine ⟨by rw [Zh O.ne];exact ho,?_,O.ne,O'.obj,_,O'.ns,fun g=>?_,fun g hg=>?_⟩
 · have:=VU f y fs;omega
 · show RelO ((Xj f y fs).lookup g) (if g=f then some u else mA g)
   rw [YO]
   by_cases q:g=f
   · rw [if_pos q,if_pos q];exact ry
   · rw [if_neg q,if_neg q];exact r g
 · by_cases q:g=f
   · rw [q];exact (Vo f y fs).1
   · refine (Vo f y fs).2 g (wi g fun z=>hg ?_)
     show (if g=f then some u else mA g)=none
     rw [if_neg q];exact z
theorem Inv.made (I:Inv X pins σ H s):Inv X pins σ (upd (upd H s.heap.objs.size (.own (s.heap.objs.size+1))) (s.heap.objs.size+1) (.ins C s.heap.objs.size []))
   { s with heap:=(s.heap.push PySem.W.emptyDict).push (PySem.W.instObj C s.heap.objs.size) }:=by
 have e1:(s.heap.push PySem.W.emptyDict).get? s.heap.objs.size=some PySem.W.emptyDict:=Heap.get?_push_size s.heap rfl
 have e2:((s.heap.push PySem.W.emptyDict).push (PySem.W.instObj C s.heap.objs.size)).get? (s.heap.objs.size+1)=some (PySem.W.instObj C s.heap.objs.size):=by
   have:=Heap.get?_push_size (s.heap.push PySem.W.emptyDict) (o:=PySem.W.instObj C s.heap.objs.size) rfl
   rwa [Heap.size_push] at this
 have e3:(s.heap.push PySem.W.emptyDict).Ns s.heap.objs.size (fun _=>none):=⟨PySem.W.emptyDict,#[],_,e1,rfl,(fun e he=>absurd he (by simp)),fun _=>rfl⟩
 have I1:=I.laid (a:=s.heap.objs.size) (o:=.own (s.heap.objs.size+1)) (h':=s.heap.push PySem.W.emptyDict) (t':=s.toks) (fun b u q=>Heap.get?_push_of_some _ q) (Nat.le_refl _) ⟨_,e1⟩
 refine I1.laid (a:=s.heap.objs.size+1) (o:=.ins C s.heap.objs.size []) (t':=s.toks) (fun b u q=>Heap.get?_push_of_some _ q) (Nat.le_of_eq (Heap.size_push _ _)) ?_
 have ne:s.heap.objs.size≠s.heap.objs.size+1:=Nat.ne_of_lt (Nat.lt_succ_self _)
 refine ⟨by rw [Zh ne,Zg],Nat.zero_le _,ne,e2,fun _=>none,(Heap.Ns1.of_empty e3).at fun o q=>Heap.get?_push_of_some _ q,fun _=>True.intro,fun y hy=>absurd rfl hy⟩
theorem Zek {prog:Program}{w:World}{env:Env}{e:Expr}{f:Str}{pos:Pos}{s:Shared}{Q:Value→Shared→Prop}(hb:attributeBase e f env (eval e env)=eval e env)
   (h:wpAny (model prog w) A (eval e env) (fun o s₁=>wpAny (model prog w) A (getAttr o f true) Q E s₁) E s):wpAny (model prog w) A (eval (.Attribute e f pos) env) Q E s :=
 Attribute_any_ h (by rw [arm_eval_Attribute,hb])
end
def tFld (K:PySem.W.Frag)(ta:TE)(f:Str):TE:=fun σ H Q=>ta σ H fun x H1=>∃ a C dx fs v,x=.ref a∧H1 a=some (.ins C dx fs)∧Cls K C∧NoAttr K C f∧fs.lookup f=some v∧Q v H1
def sFld (K:PySem.W.Frag)(ta tv:TE)(f:Str):TS:=fun D σ H=>tv σ H fun y H1=>ta σ H1 fun x H2=>∃ a C dx fs,x=.ref a∧H2 a=some (.ins C dx fs)∧Cls K C∧NoAttr K C f∧fs.length < 1000 ∧
 D.nx σ (upd H2 a (.ins C dx (Xj f y fs)))
section
variable {X:Cx}{o e value:Expr}{f:Str}{pos pos' tpos:Pos}{ta tv:TE}
theorem ZM (he:PE X e ta)(hb:attributeBase e f X.env (eval e X.env)=eval e X.env):PE X (.Attribute e f pos) (tFld X.K ta f):=by
 intro pins s σ H Q I h
 refine Zek hb (Zr (he pins s σ H _ I h) fun u s1 ⟨x,H1,I1,rx,a,C,dx,fs,v,ex,ea,c,n,l,q⟩=>?_)
 subst ex
 obtain rfl:u=Value.ref a:=rx
 exact Zfs I1 ea c n l fun u' s2 I2 ru=>⟨v,H1,I2,ru,q⟩
theorem WL (ha:PE X o ta)(hv:PE X value tv)(hs:swapsWith value (some (.Attribute o f pos')) pos.line X.env=pure false):PS X (.Assign [.Attribute o f pos'] value pos) (sFld X.K ta tv f):=by
 intro pins s σ H D I h
 refine plainObj_wpAny_Assign_Attribute (Zr (hv pins s σ H _ I h) fun u s1 ⟨y,H1,I1,ry,q⟩=>Zr (ha pins s1 σ H1 _ I1 q) fun ov s2 ⟨x,H2,I2,rx,a,C,dx,fs,ex,ea,c,n,l,q2⟩=>?_) hs
 subst ex
 obtain rfl:ov=Value.ref a:=rx
 exact Zfb I2 ea c n l ry fun s3 I3=>⟨σ,_,I3,q2⟩
end
section
variable {X:Cx}{pins:List (Addr×Obj)}{σ:St}{H:Hp}{s:Shared}{A:Around}{E:Value→Shared→Prop}{Q:Value→Shared→Prop}{c:Value}{b:Bool}
inductive XI (K:PySem.W.Frag)(H:Hp):V→Value→Prop where
 | non:XI K H .non (.type "NoneType")
 | bl (x:Bool):XI K H (.bl x) (.type "bool")
 | int (i:Int):XI K H (.int i) (.type "int")
 | str (x:Str):XI K H (.str x) (.type "str")
 | flt (x:UInt64):XI K H (.flt x) (.type "float")
 | lst {a:Addr} {xs:List V} (e:H a=some (.lst xs)):XI K H (.ref a) (.type "list")
 | frz {a:Addr} {o:Obj} {xs:List V} (e:H a=some (.frz o (.lst xs))):XI K H (.ref a) (.type "list")
 | tup {a:Addr} {xs:List V} (e:H a=some (.tup xs)):XI K H (.ref a) (.type "tuple")
 | dK {a:Addr} {kvs:List (Zl×V)} (e:H a=some (.dK kvs)):XI K H (.ref a) (.type "dict")
 | dT {a:Addr} {kvs:List (List Zl×V)} (e:H a=some (.dT kvs)):XI K H (.ref a) (.type "dict")
 | ins {a C dx:Addr} {fs:List (Str×V)} (e:H a=some (.ins C dx fs)) (cl:Cls K C) (ha:PySem.W.findIn K (.ref C) "__class__"=some (some (.builtin "object.__class__")))
     (hn:PySem.W.specialIn K (.builtin "object.__class__") "__get__"=some (some (.builtin "getset_descriptor.__get__"))) (htk:PySem.W.takesIn K (.builtin "object.__class__")=some true)
     (hm:PySem.W.mroIn K C (.type "object")=some true):XI K H (.ref a) (.ref C)
theorem ZbA {x:V}{u t:Value}(I:Inv X pins σ H s)(rx:RelV x u)(ty:XI X.K H x t)(e:PySem.W.kitOne X.K t c=some b)(h:∀ tk,Q (.bool b) { s with toks:=tk }) :
   wpAny (model X.prog X.w) A (call (.builtin "isinstance") [u,c]) Q E s:=by
 cases ty with
 | non=>cases (show u=Value.none from rx);exact PySem.W.kia_one PySem.W.kitx_none I.kIn True.intro e (fun z=>nomatch z) h
 | bl y=>cases (show u=Value.bool y from rx);exact PySem.W.kia_one PySem.W.kitx_bool I.kIn True.intro e (fun z=>nomatch z) h
 | int i=>obtain ⟨t,q⟩:=(show ∃ t,u=Value.int i t from rx);cases q;exact PySem.W.kia_one PySem.W.kitx_int I.kIn True.intro e (fun z=>nomatch z) h
 | str y=>obtain ⟨t,q⟩:=(show ∃ t,u=Value.str y t from rx);cases q;exact PySem.W.kia_one PySem.W.kitx_str I.kIn True.intro e (fun z=>nomatch z) h
 | flt y=>obtain ⟨t,q⟩:=(show ∃ t,u=Value.float y t from rx);cases q;exact PySem.W.kia_one PySem.W.kitx_float I.kIn True.intro e (fun z=>nomatch z) h
 | @lst a xs ea =>
   cases (show u=Value.ref a from rx)
   obtain ⟨_,_,n,_,h1⟩:=(show ObjOk X.prog X.w H s.heap a (.lst xs) from I.hok a _ ea)
   exact PySem.W.kia_one PySem.W.kitx_list I.kIn ⟨_,h1,rfl⟩ e (fun z=>nomatch z) h
 | @frz a ob xs ea =>
   cases (show u=Value.ref a from rx)
   obtain ⟨_,_,_,n,_,h1⟩:=(show ObjOk X.prog X.w H s.heap a (.frz ob (.lst xs)) from I.hok a _ ea)
   exact PySem.W.kia_one PySem.W.kitx_list I.kIn ⟨_,h1,rfl⟩ e (fun z=>nomatch z) h
 | @tup a xs ea =>
   cases (show u=Value.ref a from rx)
   obtain ⟨_,_,_,p⟩:=(show ObjOk X.prog X.w H s.heap a (.tup xs) from I.hok a _ ea)
   obtain ⟨o,h1,h2,_⟩:=p
   exact PySem.W.kia_one PySem.W.kitx_tuple I.kIn ⟨o,h1,h2⟩ e (fun z=>nomatch z) h
 | @dK a kvs ea =>
   cases (show u=Value.ref a from rx)
   obtain ⟨_,_,vs,_,p⟩:=(show ObjOk X.prog X.w H s.heap a (.dK kvs) from I.hok a _ ea)
   obtain ⟨o,es,ep,h1,h2,_⟩:=p
   exact PySem.W.kia_one PySem.W.kitx_dict I.kIn ⟨o,h1,h2.1⟩ e (fun z=>nomatch z) h
 | @dT a kvs ea =>
   cases (show u=Value.ref a from rx)
   obtain ⟨_,_,xs,_,o,es,ep,h1,h2,_⟩:=(show ObjOk X.prog X.w H s.heap a (.dT kvs) from I.hok a _ ea)
   exact PySem.W.kia_one PySem.W.kitx_dict I.kIn ⟨o,h1,h2.1⟩ e (fun z=>nomatch z) h
 | @ins a C dx fs ea cl ha hn htk hm =>
   cases (show u=Value.ref a from rx)
   obtain ⟨mA,O,_⟩:=VC I.hok ea
   obtain ⟨od,J,_⟩:=O.look
   exact PySem.W.kia_one (PySem.W.kitx_own (cl.get _) cl.hd ha hn htk hm) I.kIn J e (fun z=>nomatch z) h
end
end L2
namespace L2
open PySem PySem.Spec PyProof.Rows
structure Room (k:Nat)(A:Around):Prop where
 hd:A.handled=none
 dp:A.depth+3 * k+5 < recursionLimit
 un:A.units+16 * k+200 < cLine
 gd:A.guards=some []
theorem Room.mono {j k:Nat}{A:Around}(r:Room k A)(h:j≤k):Room j A:=⟨r.hd,by have:=r.dp;omega,by have:=r.un;omega,r.gd⟩
theorem Room.deeper {k:Nat}{A:Around}(r:Room (k+1) A)(env:Env):Room k (A.deeper env) :=
 ⟨r.hd,by have:=r.dp;show A.depth+1+3 * k+5 < _;omega,by have:=r.un;show A.units+3+16 * k+200 < _;omega,r.gd⟩
theorem ZeU {A:Around}{C:Addr}{us:List Value}{kw:List (Str×Value)}:(A.under (.builtin "type.__call__" ⟨.ref C::us,kw⟩)).depth=A.depth+1:=by
 first | rfl | simp [Around.under,Code.weight,Code.isCreation,Code.isGuard,Code.isCaller,Code.frames,Code.isFrame,guardIds]
theorem Zez {A:Around}{C:Addr}{us:List Value}{kw:List (Str×Value)}:(A.under (.builtin "type.__call__" ⟨.ref C::us,kw⟩)).units=A.units+1:=by
 first | rfl | simp [Around.under,Code.cUnits,Code.frames,Code.isFrame]
theorem Room.make {k:Nat}{A:Around}(r:Room (k+1) A)(C:Addr)(us:List Value)(kw:List (Str×Value)):Room k (A.under (.builtin "type.__call__" ⟨.ref C::us,kw⟩)) :=
 ⟨r.hd,by have:=r.dp;rw [ZeU];omega,by have:=r.un;rw [Zez];omega,by first | exact r.gd | simpa [Around.under,Code.isGuard,guardIds] using r.gd⟩
theorem Room.depth {k:Nat}{A:Around}(r:Room k A):A.depth < recursionLimit:=by have:=r.dp;omega
theorem Room.units {k:Nat}{A:Around}(r:Room k A):A.units+64 < cLine:=by have:=r.un;omega
def Wd:TA:=fun _ H Q=>Q [] H
def Xu (ta:TE)(tr:TA):TA:=fun σ H Q=>ta σ H fun x H1=>tr σ H1 fun xs H2=>Q (x::xs) H2
section
variable {X:Cx}{e:Expr}{es:List Expr}{te:TE}{t:TA}{pos:Pos}
theorem Za:PA X [] Wd:=fun _ _ _ _ H Q I h=>Calls.spliced_nil ⟨[],H,I,.nil,h⟩
theorem Yw (ha:PE X e te)(hr:PA X es t)(hs:starEach (e::es) X.env=(false,eval e X.env)::starEach es X.env:=by rfl):PA X (e::es) (Xu te t):=by
 intro pos pins s σ H Q I h
 rw [hs]
 show wpAny _ _ (spliced ((false,eval e X.env)::backTo pos (starEach es X.env))) _ _ s
 refine Calls.spliced_cons (Zr (ha pins s σ H _ I h) fun u s1 ⟨x,H1,I1,r1,q1⟩=>?_)
 exact Zr (hr pos pins s1 σ H1 _ I1 q1) fun us s2 ⟨xs,H2,I2,r2,q2⟩=>⟨x::xs,H2,I2,.cons r1 r2,q2⟩
def tTup (t:TA):TE:=fun σ H Q=>t σ H fun xs H1=>xs.length≤sizeLine∧∀ p,H1 p=none→Q (.ref p) (upd H1 p (.tup xs))
def tLst (t:TA):TE:=fun σ H Q=>t σ H fun xs H1=>xs.length≤sizeLine∧∀ p,H1 p=none→Q (.ref p) (upd H1 p (.lst xs))
theorem YM {x1}(h:PA X es t):PE X (.Tuple es x1 pos) (tTup t):=by
 intro pins s σ H Q I hq
 refine wpAny_Tuple_spliced (Zr (h pos pins s σ H _ I hq) fun us s1 ⟨xs,H1,I1,r,z,q⟩=>⟨by rw [← r.length];exact z,?_⟩)
 have hf:H1 s1.heap.objs.size=none:=I1.hok.fresh (Nat.le_refl _)
 refine ⟨.ref s1.heap.objs.size,upd H1 s1.heap.objs.size (.tup xs),I1.laid (t':=s1.toks) (fun b u e=>Heap.get?_push_of_some _ e) (Nat.le_refl _) ?_,rfl,q _ hf⟩
 exact ⟨z,us,r,⟨_,Heap.get?_push_size _ rfl,rfl,_,rfl⟩⟩
theorem Yj (h:PA X es t):PE X (.List es pos) (tLst t):=by
 intro pins s σ H Q I hq
 refine wpAny_List_spliced (Zr (h pos pins s σ H _ I hq) fun us s1 ⟨xs,H1,I1,r,z,q⟩=>⟨by rw [← r.length];exact z,?_⟩)
 have hf:H1 s1.heap.objs.size=none:=I1.hok.fresh (Nat.le_refl _)
 refine ⟨.ref s1.heap.objs.size,upd H1 s1.heap.objs.size (.lst xs),I1.laid (t':=s1.toks) (fun b u e=>Heap.get?_push_of_some _ e) (Nat.le_refl _) ?_,rfl,q _ hf⟩
 exact ⟨z,us,0,r,Heap.get?_push_size _ rfl⟩
end
abbrev Sp:=List V→Hp→VK→XK→Prop
abbrev Ud:=List Env→Hp→Shared→XK→Value→Shared→Prop
structure Env0 (P:Program)(w:World)(K:PySem.W.Frag)(mg:Str→Option Value)(base:Heap)(A:Around)(outer:List Env)(s:Shared)(H:Hp):Prop where
 frames:A.frames=some outer
 mod:Mod K mg base
 bs:∀ b o,base.get? b=some o→s.heap.get? b=some o∧H b=none
 bsz:base.objs.size≤s.heap.objs.size
 funs:s.heap.FunFrames base outer
 frf:∀ b∈Xi outer,H b=none
 hok:HOk P w H s.heap
 bare:AllBare s.gens
def CE (outer:List Env)(P:Program)(w:World)(H:Hp)(s:Shared)(Q:VK)(u:Value)(s':Shared):Prop :=
 ∃ v H',s'.os=s.os∧AllBare s'.gens∧Un (Xi outer) [] H H' s.heap s'.heap∧HOk P w H' s'.heap∧RelV v u∧Q v H'
def CR (CX:Ud)(outer:List Env)(P:Program)(w:World)(H:Hp)(s:Shared)(Q:VK)(E:XK)(r:Result)(s':Shared):Prop :=
 match r with
 | .ok (.ret u)=>CE outer P w H s Q u s'
 | .ok _=>False
 | .error e=>CX outer H s E e s'
structure FnOk (P:Program)(w:World)(K:PySem.W.Frag)(mg:Str→Option Value)(base:Heap)(CX:Ud)(k:Nat)(f:Addr)(fd:FuncData)(ps:List Str)(sp:Sp):Prop where
 len:∀ vs H Q E,sp vs H Q E→vs.length=ps.length
 run:∀ (A:Around) (outer:List Env) (s:Shared) (H:Hp) (args:Args) (us:List Value) (vs:List V) (Q:VK) (E:XK),Room k A→Env0 P w K mg base A outer s H→BindsTo s fd args (ps.zip us)→Vals vs us→sp vs H Q E →
   codeAny (model P w) A (.call (.ref f) args) (CR CX outer P w H s Q E) s
theorem FnOk.mono {P:Program}{w:World}{K:PySem.W.Frag}{mg:Str→Option Value}{base:Heap}{CX:Ud}{j k:Nat}{f:Addr}{fd:FuncData}{ps:List Str}{sp:Sp}(F:FnOk P w K mg base CX j f fd ps sp)(h:j≤k) :
 FnOk P w K mg base CX k f fd ps sp:=⟨F.len,fun A outer s H args us vs Q E hr=>F.run A outer s H args us vs Q E (hr.mono h)⟩
theorem Env0.make {P:Program}{w:World}{K:PySem.W.Frag}{mg:Str→Option Value}{base:Heap}{A:Around}{outer:List Env}{s:Shared}{H:Hp}(e:Env0 P w K mg base A outer s H)(C:Addr)(us:List Value)(kw:List (Str×Value)) :
 Env0 P w K mg base (A.under (.builtin "type.__call__" ⟨.ref C::us,kw⟩)) outer s H:=⟨by first | exact e.frames | (simpa [Around.under,Code.envs,Code.isFrame,pushEnvs] using e.frames),e.mod,e.bs,e.bsz,e.funs,e.frf,e.hok,e.bare⟩
section
variable {X:Cx}{pins:List (Addr×Obj)}{σ:St}{H:Hp}{s s':Shared}
theorem Inv.env0 (I:Inv X pins σ H s):Env0 X.prog X.w X.K X.mg X.base X.A X.stack s H :=
 ⟨I.ok.frames,I.ok.mod,I.bs,Nat.le_trans I.ok.bsz I.sz,I.stack,I.stkFree,I.hok,I.bare⟩
theorem Inv.after {Q:VK}{u:Value}(I:Inv X pins σ H s)(h:CE X.stack X.prog X.w H s Q u s'):EP X pins σ Q u s':=by
 obtain ⟨v,H',os,bare,un,hok,r,q⟩:=h
 obtain ⟨hh,g,d,t,os'⟩:=s'
 obtain rfl:os'=s.os:=os
 exact ⟨v,H',I.call (h':=hh) (g':=g) (d':=d) (t':=t) (ch:=[]) un hok bare (fun b z=>absurd z (by simp)),r,q⟩
end
def ZeH (sp:Sp)(dvs:List V)(E:XK)(t:TA):TE:=fun σ H Q=>t σ H fun vs H1=>sp (vs++dvs) H1 Q E
def Zcg (C:Addr)(m:Str)(sp:Sp)(dvs:List V)(E:XK)(ta:TE)(t:TA):TE:=fun σ H Q=>ta σ H fun x H1=>∃ a dx fs,x=.ref a∧H1 a=some (.ins C dx fs)∧fs.lookup m=none ∧
 t σ H1 fun vs H2=>sp (x::(vs++dvs)) H2 Q E
def Ziw (C:Addr)(sp:Sp)(dvs:List V)(E:XK)(t:TA):TE:=fun σ H Q=>t σ H fun vs H1=>∀ x dx,H1 x=none→H1 dx=none→dx≠x →
 sp (.ref x::(vs++dvs)) (upd (upd H1 dx (.own x)) x (.ins C dx [])) (fun v H2=>v=.non∧Q (.ref x) H2) E
def Binds (K:PySem.W.Frag)(fd:FuncData)(ps:List Str)(ds:List Value):Prop :=
 ∀ (s:Shared) (us:List Value),K.In s.heap→(us++ds).length=ps.length→BindsTo s fd ⟨us,[]⟩ (ps.zip (us++ds))
theorem Binds.all {K:PySem.W.Frag}{fd:FuncData}{ps:List Str}(h:∀ us:List Value,us.length=ps.length→bindArgs fd ⟨us,[]⟩=pure (ps.zip us)):Binds K fd ps []:=fun s us _ hl=>by
 rw [List.append_nil] at hl ⊢
 exact .of_eq (h us hl)
def WV (CX:Ud)(X:Cx)(E:XK):Prop:=∀(pins:List (Addr×Obj))(σ:St)(H:Hp)(s:Shared)(e:Value)(s':Shared),Inv X pins σ H s→CX X.stack H s E e s'→X.xe e s'
section
variable {X:Cx}{CX:Ud}{k:Nat}{f C:Addr}{fd:FuncData}{ps:List Str}{sp:Sp}{dvs:List V}{ds:List Value}{E:XK}{x m:Str}{p pos apos:Pos}{e o:Expr}{es:List Expr}{ta:TE}{t:TA}
theorem Zcl {pins:List (Addr×Obj)}{σ:St}{H:Hp}{s:Shared}{Q:VK}{us:List Value}{vs:List V}(F:FnOk X.prog X.w X.K X.mg X.base CX k f fd ps sp)(hr:Room k X.A)(hb:Binds X.K fd ps ds)(hd:Vals dvs ds)(hx:WV CX X E)
   (I:Inv X pins σ H s) (r:Vals vs us) (h:sp (vs++dvs) H Q E):wpAny (model X.prog X.w) X.A (call (.ref f) us) (EP X pins σ Q) X.xe s:=by
 have r2:Vals (vs++dvs) (us++ds):=r.append hd
 have hl:(us++ds).length=ps.length:=by rw [← r2.length];exact F.len _ _ _ _ h
 refine wpAny_call (codeAny_mono (F.run X.A X.stack s H ⟨us,[]⟩ (us++ds) (vs++dvs) Q E hr I.env0 (hb s us I.kIn hl) r2 h) fun r s' hq=>?_)
 cases r with
 | error e=>exact hx pins σ H s e s' I hq
 | ok fl =>
   cases fl with
   | ret u=>exact I.after hq
   | next=>exact False.elim hq
   | brk=>exact False.elim hq
   | cont=>exact False.elim hq
theorem ZjD (F:FnOk X.prog X.w X.K X.mg X.base CX k f fd ps sp)(hr:Room k X.A)(hg:Gl X x)(hm:X.mg x=some (.ref f))(hk:PySem.W.keepIn X.K (.ref f)=true)(hb:Binds X.K fd ps ds)(hd:Vals dvs ds)(hx:WV CX X E)
   (ha:PA X (e::es) t) (hdb:(x == ("__debug__":Str))=false:=by decide) (he:starEach (e::es) X.env=(false,eval e X.env)::starEach es X.env:=by rfl) (hpl:(backTo pos (starEach es X.env)).any (·.1)=false:=by rfl) :
   PE X (.Call (.Name x p) (e::es) [] pos) (ZeH sp dvs E t):=by
 intro pins s σ H Q I h
 refine wpAny_Call_Name_kw (WJ I hg hm ?_ hdb)
 refine PySem.W.callWith_K (h₀:=X.base) I.ok.mod.kin hk (Zr (ha pos pins s σ H _ I h) fun us s1 ⟨vs,H1,I1,r,q⟩=>⟨I1.kIn,?_⟩) he hpl
 exact Zcl F hr hb hd hx I1 r q
theorem Zjx {pl:Sem Bool}(he:PE X o ta)(c:Cls X.K C)(hm:VA X.K C m f)(F:FnOk X.prog X.w X.K X.mg X.base CX k f fd ps sp)(hr:Room k X.A)(hb:Binds X.K fd ps ds)(hd:Vals dvs ds)(hx:WV CX X E)(ha:PA X (e::es) t)
   (hst:starEach (e::es) X.env=(false,eval e X.env)::starEach es X.env:=by rfl) (hpl:(backTo pos (starEach es X.env)).any (·.1)=false:=by rfl)
   (ht:eval (.Call (.Attribute o m apos) (e::es) [] pos) X.env=(do
     let ov ← eval o X.env
     standAt apos.atName
     let (f,first) ← holding [ov] (getMethod ov m pl)
     callWith pos f first (backTo pos (starEach (e::es) X.env)) (backToKw pos (keywordEach [] X.env))):=by rfl) :
   PE X (.Call (.Attribute o m apos) (e::es) [] pos) (Zcg C m sp dvs E ta t):=by
 intro pins s σ H Q I h
 refine PySem.W.methodCall_KW (pl:=pl) (Zr (he pins s σ H _ I h) fun u s1 ⟨x,H1,I1,rx,a,dx,fs,ex,ea,l,q⟩=>?_) ht
 subst ex
 obtain rfl:u=Value.ref a:=rx
 refine UC I1 ea c hm l ?_
 refine PySem.W.callWith_K (first:=[.ref a]) (h₀:=X.base) I.ok.mod.kin hm.kp (Zr (ha pos pins s1 σ H1 _ I1 q) fun us s2 ⟨vs,H2,I2,r,q2⟩=>⟨I2.kIn,?_⟩) hst hpl
 exact Zcl (us:=.ref a::us) (vs:=.ref a::vs) F hr hb hd hx I2 (.cons rfl r) q2
theorem Zhh {pl:Sem Bool}(he:PE X o ta)(c:Cls X.K C)(hm:VA X.K C m f)(F:FnOk X.prog X.w X.K X.mg X.base CX k f fd ps sp)(hr:Room k X.A)(hb:Binds X.K fd ps ds)(hd:Vals dvs ds)(hx:WV CX X E)
   (ht:eval (.Call (.Attribute o m apos) [] [] pos) X.env=(do
     let ov ← eval o X.env
     standAt apos.atName
     let (f,first) ← holding [ov] (getMethod ov m pl)
     callWith pos f first (backTo pos (starEach [] X.env)) (backToKw pos (keywordEach [] X.env))):=by rfl) :
   PE X (.Call (.Attribute o m apos) [] [] pos) (Zcg C m sp dvs E ta Wd):=by
 intro pins s σ H Q I h
 refine PySem.W.methodCall_KW (pl:=pl) (Zr (he pins s σ H _ I h) fun u s1 ⟨x,H1,I1,rx,a,dx,fs,ex,ea,l,q⟩=>?_) ht
 subst ex
 obtain rfl:u=Value.ref a:=rx
 refine UC I1 ea c hm l ?_
 exact PySem.W.callWith_K0 (first:=[.ref a]) I1.kIn hm.kp (Zcl (us:=[.ref a]) (vs:=[.ref a]) F hr hb hd hx I1 (.cons rfl .nil) q)
structure Mk (K:PySem.W.Frag)(C f:Addr):Prop where
 makes:PySem.W.makesIn K C=true
 init:PySem.W.findIn K (.ref C) "__init__"=some (some (.ref f))
 fn:PySem.W.isFn K (.ref f)=true
 kp:PySem.W.keepIn K (.ref C)=true
theorem Zhz {pins:List (Addr×Obj)}{σ:St}{H:Hp}{s:Shared}{Q:VK}{us:List Value}{vs:List V}(M:Mk X.K C f)(F:FnOk X.prog X.w X.K X.mg X.base CX k f fd ps sp)(hr:Room (k+1) X.A)(hb:Binds X.K fd ps ds)(hd:Vals dvs ds)
   (hx:WV CX X E) (I:Inv X pins σ H s) (r:Vals vs us)
   (h:∀ x dx,H x=none→H dx=none→dx≠x→sp (.ref x::(vs++dvs)) (upd (upd H dx (.own x)) x (.ins C dx [])) (fun v H2=>v=.non∧Q (.ref x) H2) E) :
   wpAny (model X.prog X.w) X.A (call (.ref C) us) (EP X pins σ Q) X.xe s:=by
 have hq:=h (s.heap.objs.size+1) s.heap.objs.size (I.hok.fresh (Nat.le_succ _)) (I.hok.fresh (Nat.le_refl _)) (Nat.ne_of_lt (Nat.lt_succ_self _))
 have I2:=Inv.made (C:=C) I
 have r2:Vals (V.ref (s.heap.objs.size+1)::(vs++dvs)) (Value.ref (s.heap.objs.size+1)::(us++ds)):=.cons rfl (r.append hd)
 have hl:(Value.ref (s.heap.objs.size+1)::us++ds).length=ps.length:=by
   have e:=r2.length
   rw [F.len _ _ _ _ hq] at e
   exact e.symm
 refine wpAny_call (Zij (f:=f) I.kIn M.makes M.init (beq_iff_eq.mp M.fn) (codeAny_mono (F.run _ X.stack _ _ ⟨Value.ref (s.heap.objs.size+1)::us,[]⟩ (Value.ref (s.heap.objs.size+1)::(us++ds)) _ _ E (hr.make C us [])
   (I2.env0.make C us []) (hb _ (Value.ref (s.heap.objs.size+1)::us) I2.kIn hl) r2 hq) fun r s' hq'=>?_))
 cases r with
 | error e=>exact hx pins σ _ _ e s' I2 hq'
 | ok fl =>
   cases fl with
   | ret u =>
     obtain ⟨v,H',I3,rv,ev,q3⟩:=I2.after hq'
     subst ev
     exact ⟨rv,⟨V.ref (s.heap.objs.size+1),H',I3,rfl,q3⟩⟩
   | next=>exact False.elim hq'
   | brk=>exact False.elim hq'
   | cont=>exact False.elim hq'
theorem ZhS (M:Mk X.K C f)(F:FnOk X.prog X.w X.K X.mg X.base CX k f fd ps sp)(hr:Room (k+1) X.A)(hg:Gl X x)(hm:X.mg x=some (.ref C))(hb:Binds X.K fd ps ds)(hd:Vals dvs ds)(hx:WV CX X E)
   (hdb:(x == ("__debug__":Str))=false:=by decide):PE X (.Call (.Name x p) [] [] pos) (Ziw C sp dvs E Wd):=by
 intro pins s σ H Q I h
 refine wpAny_Call_Name_kw (WJ I hg hm ?_ hdb)
 exact PySem.W.callWith_K0 I.kIn M.kp (Zhz (us:=[]) M F hr hb hd hx I .nil h)
end
def PK (X:Cx)(kws:List Keyword)(t:TA):Prop :=
 ∀ (pos:Pos) (pins:List (Addr×Obj)) (s:Shared) (σ:St) (H:Hp) (Q:List V→Hp→Prop),Inv X pins σ H s→t σ H Q→wpAny (model X.prog X.w) X.A (evalAll ((backToKw pos (keywordEach kws X.env)).map (·.2))) (AP X pins σ Q) X.xe s
section
variable {X:Cx}{CX:Ud}{k:Nat}{f C:Addr}{fd:FuncData}{ps ks:List Str}{sp:Sp}{E:XK}{x m:Str}{p pos apos kpos:Pos}{e o:Expr}{es:List Expr}{kws:List Keyword}{te ta:TE}{t tk:TA}{nm:Option Str}
theorem Zkp:PK X [] Wd:=fun _ _ _ _ H Q I h=>wpAny_evalAll_nil ⟨[],H,I,.nil,h⟩
theorem Zjo (ha:PE X e te)(hr:PK X kws t):PK X (⟨nm,e,kpos⟩::kws) (Xu te t):=by
 intro pos pins s σ H Q I h
 show wpAny _ _ (evalAll ((do let v ← eval e X.env;standAt pos;pure v)::(backToKw pos (keywordEach kws X.env)).map (·.2))) _ _ s
 refine wpAny_evalAll_cons (wpAny_bind (Zr (ha pins s σ H _ I h) fun u s1 ⟨x,H1,I1,r1,q1⟩=>wpAny_bind (wpAny_standAt (wpAny_pure ?_))))
 exact Zr (hr pos pins s1 σ H1 _ I1 q1) fun us s2 ⟨xs,H2,I2,r2,q2⟩=>⟨x::xs,H2,I2,.cons r1 r2,q2⟩
variable {g:List Value→List Value→List Value}{gV:List V→List V→List V}
end
structure Zq (N P:List Str)(sc:Scope):Prop where
 kind:sc.kind=.function
 co:sc.isCoroutine=false
 gen:sc.isGenerator=false
 nd:N.Nodup
 pre:N.take P.length=P
 par:∀ x∈P,sc.names.lookup x=some .local∨sc.names.lookup x=some .cell
 nofree:∀ y∈sc.names,y.2≠.free
theorem ZbM {kindOf:Str→Option NameKind}{x:Str}:∀{binds:List (Str×Value)}{m:Str→Option Value},(∀ v,(x,v) ∉ binds)→bindL kindOf binds m x=m x
 | [],_,_=>rfl
 | (n,v)::r,m,h=>by
   unfold bindL
   rw [ZbM fun w hw=>h w (List.mem_cons_of_mem _ hw)]
   split
   · have:x≠n:=by rintro rfl;exact h v List.mem_cons_self
     simp [this]
   · rfl
theorem ZbL {kindOf:Str→Option NameKind}{x:Str}:∀{binds:List (Str×Value)}{m:Str→Option Value},(∀ v,(x,v) ∉ binds)→bindC kindOf binds m x=m x
 | [],_,_=>rfl
 | (n,v)::r,m,h=>by
   unfold bindC
   rw [ZbL fun w hw=>h w (List.mem_cons_of_mem _ hw)]
   split
   · rfl
   · have:x≠n:=by rintro rfl;exact h v List.mem_cons_self
     simp [this]
theorem ZbS {kindOf:Str→Option NameKind}{x:Str}{v:Value}:∀{P:List Str}{vs:List Value}{i:Nat}{m:Str→Option Value},P.Nodup→P[i]?=some x→vs[i]?=some v→kindOf x=some .local →
   bindL kindOf (P.zip vs) m x=some v
 | [],_,_,_,_,h,_,_=>by simp at h
 | _::_,[],_,_,_,_,h,_=>by simp at h
 | p::P,w::vs,0,m,nd,h1,h2,hk=>by
   simp at h1 h2;subst h1;subst h2
   show bindL kindOf ((p,w)::P.zip vs) m p=_
   unfold bindL
   rw [ZbM fun v hv=>(List.nodup_cons.mp nd).1 (List.of_mem_zip hv).1,if_pos hk]
   simp
 | p::P,w::vs,i+1,m,nd,h1,h2,hk=>by
   show bindL kindOf ((p,w)::P.zip vs) m x=_
   unfold bindL
   exact ZbS (i:=i) (List.nodup_cons.mp nd).2 (by simpa using h1) (by simpa using h2) hk
theorem ZbH {kindOf:Str→Option NameKind}{x:Str}{v:Value}:∀{P:List Str}{vs:List Value}{i:Nat}{m:Str→Option Value},P.Nodup→P[i]?=some x→vs[i]?=some v→kindOf x≠some .local →
   bindC kindOf (P.zip vs) m x=some v
 | [],_,_,_,_,h,_,_=>by simp at h
 | _::_,[],_,_,_,_,h,_=>by simp at h
 | p::P,w::vs,0,m,nd,h1,h2,hk=>by
   simp at h1 h2;subst h1;subst h2
   show bindC kindOf ((p,w)::P.zip vs) m p=_
   unfold bindC
   rw [ZbL fun v hv=>(List.nodup_cons.mp nd).1 (List.of_mem_zip hv).1,if_neg hk]
   simp
 | p::P,w::vs,i+1,m,nd,h1,h2,hk=>by
   show bindC kindOf ((p,w)::P.zip vs) m x=_
   unfold bindC
   exact ZbH (i:=i) (List.nodup_cons.mp nd).2 (by simpa using h1) (by simpa using h2) hk
def start (N:List Str)(vs:List V):St:=vs.map some++List.replicate (N.length - vs.length) none
def Uk (CX:Ud)(P:Program)(w:World)(K:PySem.W.Frag)(mg:Str→Option Value)(base:Heap)(N:List Str)(qual:Str)(scope:Scope)(f:Addr)(cd:Value)(A:Around)(outer:List Env)(s:Shared)(H:Hp)(E:XK):Cx where
 prog:=P
 w:=w
 K:=K
 mg:=mg
 base:=base
 A:=A.deeper (envOfC qual scope s.heap.objs.size f cd)
 N:=N
 s₀:=s
 H₀:=H
 env:=envOfC qual scope s.heap.objs.size f cd
 outer:=outer
 stack:=envOfC qual scope s.heap.objs.size f cd::outer
 ex:=[]
 calm:=true
 fn:=fun _=>true
 pn:=[]
 xe:=fun e s'=>wpAny (model P w) (A.deeper (envOfC qual scope s.heap.objs.size f cd)) (leaving (envOfC qual scope s.heap.objs.size f cd) e) (fun _ s''=>CX outer H s E e s'') (fun e' s''=>CX outer H s E e' s'') s'
theorem ZcN {sc:Scope}{n:Nat}{x:Str}(h:sc.names.lookup x=some .cell):∃ c,(cellsFrom n sc.names []).lookup x=some c:=by
 have q:=PySem.W.cellsFrom_some sc.names n [] (.inl h)
 exact Option.isSome_iff_exists.mp q
theorem ZfW {CX:Ud}{P:Program}{w:World}{K:PySem.W.Frag}{mg:Str→Option Value}{base:Heap}{N ps:List Str}{qual:Str}{scope:Scope}{f:Addr}{cd:Value}{A:Around}{outer:List Env}{s s1:Shared}{H:Hp}{E:XK}{us:List Value}{vs:List V}
   (S:Zq N ps scope) (hd:A.handled=none) (e0:Env0 P w K mg base A outer s H) (hl:vs.length=ps.length) (r:Vals vs us)
   (x:InCallC s s.heap.objs.size (bindL (envOfC qual scope s.heap.objs.size f cd).kindOf (ps.zip us) fun _=>none) (cellsFrom (s.heap.objs.size+1) scope.names []) (bindC (envOfC qual scope s.heap.objs.size f cd).kindOf (ps.zip us) fun _=>none) s1) :
   Inv (Uk CX P w K mg base N qual scope f cd A outer s H E) [] (start N vs) H s1:=by
 have hpl:ps.length≤N.length:=by have:=congrArg List.length S.pre;rw [List.length_take] at this;omega
 obtain ⟨h1,tk,rfl,hk⟩:=x.done
 have noA:∀ b:Addr,b ∉ (Uk CX P w K mg base N qual scope f cd A outer s H E).ex:=fun b z=>absurd (show b∈([]:List Addr) from z) (by simp)
 refine ⟨⟨e0.mod,S.kind,rfl,rfl,Nat.le_refl _,fun y z c h1 h2=>?_,fun y hy=>?_,fun y c _ h=>?_,fun _=>hd,Around.frames_deeper e0.frames,.inr ⟨rfl,rfl⟩,fun b z=>absurd z (noA b),e0.bs,e0.bsz,fun b _ _=>noA b,fun b z=>absurd z (noA b),e0.funs,e0.frf⟩,
   rfl,e0.bare,Un.kept hk,⟨_,x.toInCall.ns,fun i y v h1 h2 h3=>?_⟩,fun y c h=>⟨_,x.cell y c h⟩,e0.hok.fresh (Nat.le_refl _),fun y c h=>?_,fun p hp=>absurd (show p∈([]:List (Addr×Obj)) from hp) (by simp),e0.hok.kept hk,?_⟩
 · exact name_of_addr x.apart (PySem.mem_of_lookup h1) (PySem.mem_of_lookup h2)
 · have hy:scope.names.lookup y=some .cell∨scope.names.lookup y=some .free:=hy
   rcases hy with hy | hy
   · exact ZcN hy
   · exact absurd rfl (S.nofree _ (PySem.mem_of_lookup hy))
 · exact Nat.le_of_lt (x.above y c (PySem.mem_of_lookup h))
 · have hi:i < vs.length:=by
     unfold start at h2
     by_cases hi:i < vs.length
     · exact hi
     · rw [List.getElem?_append_right (by simpa using hi)] at h2
       rw [List.getElem?_replicate] at h2
       split at h2<;>cases h2
   have ha:vs[i]?=some v:=by
     unfold start at h2
     rw [List.getElem?_append_left (by simpa using hi),List.getElem?_map] at h2
     cases e:vs[i]? with
     | none=>rw [e] at h2;cases h2
     | some a=>rw [e] at h2;cases h2;rfl
   obtain ⟨u,hu,rv⟩:=r.get ha
   have hp:ps[i]?=some y:=by
     rw [← S.pre,List.getElem?_take_of_lt (by omega)];exact h1
   have ndP:ps.Nodup:=by rw [← S.pre];exact S.nd.sublist (List.take_sublist _ _)
   refine ⟨u,rv,?_⟩
   rcases S.par y (List.mem_of_getElem? hp) with k | k
   · exact .inl ⟨k,ZbS ndP hp hu k⟩
   · obtain ⟨c,e⟩:=ZcN (n:=s.heap.objs.size+1) k
     refine .inr ⟨.inl k,c,e,?_⟩
     have q:=x.cell y c e
     rw [ZbH ndP hp hu (by show scope.names.lookup y≠_;rw [k];decide)] at q
     exact q
 · exact e0.hok.fresh (Nat.le_of_lt (x.above y c (PySem.mem_of_lookup h)))
 · unfold start
   show _=N.length
   rw [List.length_append,List.length_map,List.length_replicate]
   omega
theorem Zex {CX:Ud}{P:Program}{w:World}{K:PySem.W.Frag}{mg:Str→Option Value}{base:Heap}{k:Nat}{f:Addr}{name qual:Str}{params:Arguments}{body:List Stmt}{scope:Scope}{dV kV doc pm cdv ct oc:Value}{an od:Option Addr}
   {osl:Array (Option Value)} {N ps:List Str} {sp:Sp} (lk:K.lookup f=some ⟨oc,od,.func (PySem.W.fnOf name qual params body scope dV kV doc pm an cdv ct),osl⟩) (hcd:PySem.W.codeIn K cdv qual=true) (S:Zq N ps scope)
   (len:∀ vs H Q E,sp vs H Q E→vs.length=ps.length)
   (hbody:∀ (A:Around) (outer:List Env) (s:Shared) (H:Hp) (vs:List V) (Q:VK) (E:XK),Room k (A.deeper (envOfC qual scope s.heap.objs.size f cdv))→sp vs H Q E →
     ∃ t,PSs (Uk CX P w K mg base N qual scope f cdv A outer s H E) body t∧t { nx:=fun _ H'=>Q .non H',rt:=Q } (start N vs) H) :
   FnOk P w K mg base CX (k+1) f (PySem.W.fnOf name qual params body scope dV kV doc pm an cdv ct) ps sp:=by
 refine ⟨len,fun A outer s H args us vs Q E hr e0 hb r hsp=>?_⟩
 have hl:=len _ _ _ _ hsp
 have KX:K.In s.heap:=e0.mod.kin.keeps fun b o e=>(e0.bs b o e).1
 have lim:s.heap.NoLimit:=e0.mod.nolimit.keeps fun b o e=>(e0.bs b o e).1
 have hkind:∀ y∈ps.zip us,scope.names.lookup y.1=some .local∨(scope.names.lookup y.1=some .cell∧((cellsFrom (s.heap.objs.size+1) scope.names []).lookup y.1).isSome=true):=fun ⟨n,v⟩ hy=>by
   rcases S.par n (List.of_mem_zip hy).1 with q | q
   · exact .inl q
   · exact .inr ⟨q,PySem.W.cellsFrom_some _ _ _ (.inl q)⟩
 refine codeAny_call_function hr.depth (KX _ _ lk) rfl S.co S.gen rfl (PySem.W.codeRec_of KX hcd) (hb _ _ _ _ ?_)
 refine wpAny_newFunctionEnv_cells S.kind hkind fun env he s1 x=>?_
 subst he
 refine ⟨lim.keeps x.toInCall.keep,codeAny_func ?_⟩
 obtain ⟨t,ht,hq⟩:=hbody A outer s H vs Q E (hr.deeper _) hsp
 have I:Inv (Uk CX P w K mg base N qual scope f cdv A outer s H E) [] (start N vs) H s1:=ZfW S hr.hd e0 hl r x
 refine wpAny_mono (ht [] s1 (start N vs) H _ I hq) (fun fl s' hs=>?_) fun e s' hs=>hs
 have fin:∀ {σ':St} {H':Hp} {v:V} {u:Value},Inv (Uk CX P w K mg base N qual scope f cdv A outer s H E) [] σ' H' s'→RelV v u→Q v H'→CE outer P w H s Q u s' :=
   fun {σ' H' v u} J rv q=>⟨v,H',J.os,J.bare,J.base,J.hok,rv,q⟩
 cases fl with
 | ret u =>
   obtain ⟨v,σ',H',J,rv,q⟩:=hs
   exact fin J rv q
 | next =>
   obtain ⟨σ',H',J,q⟩:=hs
   exact fin (v:=V.non) (u:=Value.none) J rfl q
 | brk =>
   obtain ⟨_,_,_,q⟩:=hs
   exact False.elim q
 | cont =>
   obtain ⟨_,_,_,q⟩:=hs
   exact False.elim q
end L2
namespace L2
open PySem PySem.Spec PyProof.Rows
section
variable {X:Cx}{x:Str}{p pos:Pos}{e:Expr}{es:List Expr}{t:TA}{id T:String}{r:List V→Hp→VK→Prop}
def tCB (r:List V→Hp→VK→Prop)(t:TA):TE:=fun σ H Q=>t σ H fun vs H1=>r vs H1 Q
theorem Zu (hc:Yr X (.builtin id) r)(hg:Gl X x)(hm:X.mg x=none)(hv:bootBuiltins x=some (.builtin id))(ha:PA X (e::es) t)(hn:x≠"__name__":=by decide)(hdb:(x == ("__debug__":Str))=false:=by decide)
   (he:starEach (e::es) X.env=(false,eval e X.env)::starEach es X.env:=by rfl) (hpl:(backTo pos (starEach es X.env)).any (·.1)=false:=by rfl):PE X (.Call (.Name x p) (e::es) [] pos) (tCB r t):=by
 intro pins s σ H Q I h
 refine wpAny_Call_Name_kw (WR I hg hm hv ?_ hn hdb)
 exact PyProof.Rows.callWith_builtin1 (Zr (ha pos pins s σ H _ I h) fun us s1 ⟨vs,H1,I1,r1,q1⟩=>hc pins s1 σ H1 vs us Q I1 r1 q1) he hpl
theorem Ye (hc:Yr X (.type T) r)(hg:Gl X x)(hm:X.mg x=none)(hv:bootBuiltins x=some (.type T))(ha:PA X (e::es) t)(hn:x≠"__name__":=by decide)(hdb:(x == ("__debug__":Str))=false:=by decide)
   (he:starEach (e::es) X.env=(false,eval e X.env)::starEach es X.env:=by rfl) (hpl:(backTo pos (starEach es X.env)).any (·.1)=false:=by rfl):PE X (.Call (.Name x p) (e::es) [] pos) (tCB r t):=by
 intro pins s σ H Q I h
 refine wpAny_Call_Name_kw (WR I hg hm hv ?_ hn hdb)
 exact PyProof.Rows.callWith_type1 (Zr (ha pos pins s σ H _ I h) fun us s1 ⟨vs,H1,I1,r1,q1⟩=>hc pins s1 σ H1 vs us Q I1 r1 q1) he hpl
end
end L2
namespace HT
open PySem PyProof.Rows
section
open PySem.SeqAt
open PySem.AutoSeq1 (wpAny_loadPart')
open PySem.MeetsSeq PySem.MeetsSeq2 PySem.MeetsSeq3
end
section
variable {prog:Program}{w:World}{A:Around}{E:Value→Shared→Prop}{s:Shared}
def sIx (n d:Nat):Option Int→Nat
 | none=>d
 | some v=>if v < 0 then (v+(n:Int)).toNat else min v.toNat n
theorem sIx_none (n d:Nat):sIx n d none=d:=rfl
theorem sIx_nat (n d k:Nat):sIx n d (some (k:Int))=min k n:=by
 show (if (k:Int) < 0 then ((k:Int)+(n:Int)).toNat else min (k:Int).toNat n)=min k n
 rw [if_neg (by omega),Int.toNat_natCast]
theorem sIx_le (n d:Nat)(hd:d≤n)(o:Option Int):sIx n d o≤n:=by
 cases o with
 | none=>exact hd
 | some v =>
   show (if v < 0 then (v+(n:Int)).toNat else min v.toNat n)≤n
   by_cases hv:v < 0
   · rw [if_pos hv];omega
   · rw [if_neg hv];exact Nat.min_le_right _ _
end
end HT
namespace L2
open PySem PySem.Spec PyProof.Rows
abbrev TO:=St→Hp→(Option Int→Hp→Prop)→Prop
def PO (X:Cx)(e:Option Expr)(t:TO):Prop :=
 ∀ (pins:List (Addr×Obj)) (s:Shared) (σ:St) (H:Hp) (Q:Option Int→Hp→Prop),Inv X pins σ H s→t σ H Q →
   wpAny (model X.prog X.w) X.A (evalPart e X.env) (fun u s'=>∃ o H',Inv X pins σ H' s'∧IsPart u o∧Q o H') X.xe s
def Zje:TO:=fun _ H Q=>Q none H
def Zmo (t:TE):TO:=fun σ H Q=>t σ H fun x H1=>∃ i,x=.int i∧Q (some i) H1
section
variable {X:Cx}{e:Expr}{te:TE}{lo hi:Option Expr}{tl th:TO}{pos p2:Pos}
theorem WF:PO X none Zje:=by
 intro pins s σ H Q I h
 rw [evalPart_none]
 exact wpAny_pure ⟨none,H,I,.none,h⟩
theorem WH (h:PE X e te):PO X (some e) (Zmo te):=by
 intro pins s σ H Q I hw
 rw [evalPart_some]
 refine Zr (h pins s σ H _ I hw) fun u s1 ⟨x,H1,I1,r1,q1⟩=>?_
 obtain ⟨i,rfl,q⟩:=q1
 obtain ⟨t,rfl⟩:=r1
 exact ⟨some i,H1,I1,.int i t,q⟩
def SlR (X:Cx)(r:V→Option Int→Option Int→Hp→VK→Prop):Prop :=
 ∀ (pins:List (Addr×Obj)) (s:Shared) (σ:St) (H:Hp) (x:V) (v vl vu:Value) (lo hi:Option Int) (sl:Addr) (Q:VK),Inv X pins σ H s→RelV x v→s.heap.IsSliceOf sl vl vu .none→IsPart vl lo→IsPart vu hi→r x lo hi H Q →
   ∃ T id,typeLookup (.type T) "__getitem__"=pure (some (.builtin id))∧s.TypeIs v T∧wpAny (model X.prog X.w) X.A (getItem v (.ref sl)) (EP X pins σ Q) X.xe s
def tSl (r:V→Option Int→Option Int→Hp→VK→Prop)(te:TE)(tl th:TO):TE:=fun σ H Q=>te σ H fun x H1=>tl σ H1 fun l H2=>th σ H2 fun u H3=>r x l u H3 Q
theorem Wm {r:V→Option Int→Option Int→Hp→VK→Prop}(hr:SlR X r)(he:PE X e te)(hl:PO X lo tl)(hu:PO X hi th):PE X (.Subscript e (.Slice lo hi none p2) pos) (tSl r te tl th):=by
 intro pins s σ H Q I h
 refine Subscript_ (Zr (he pins s σ H _ I h) fun v s1 ⟨x,H1,I1,r1,q1⟩=>?_)
 refine wpAny_Slice (Zr (hl pins s1 σ H1 _ I1 q1) fun vl s2 ⟨l,H2,I2,pl,q2⟩=>Zr (hu pins s2 σ H2 _ I2 q2) fun vu s3 ⟨u,H3,I3,pu,q3⟩=>?_)
 rw [evalPart_none]
 refine wpAny_pure ?_
 have I4:Inv X pins σ H3 { s3 with heap:=s3.heap.push { cls:=.type "slice",data:=.fields #[vl,vu,.none] } }:=I3.kept (t':=s3.toks) fun b ob q=>Heap.get?_push_of_some _ q
 obtain ⟨T,id,hT,ht,hg⟩:=hr pins { s3 with heap:=s3.heap.push { cls:=.type "slice",data:=.fields #[vl,vu,.none] } } σ H3 x v vl vu l u s3.heap.objs.size Q I4 r1 (Heap.IsSliceOf.new ..) pl pu q3
 show wpAny (model X.prog X.w) X.A (subscriptTail e (.Slice lo hi none p2) v (.ref s3.heap.objs.size)) (EP X pins σ Q) X.xe { s3 with heap:=s3.heap.push { cls:=.type "slice",data:=.fields #[vl,vu,.none] } }
 exact tail_any (ops:=[.ref s3.heap.objs.size,v]) ht hT hg (by with_unfolding_all rfl)
def Vp (xs:List V)(lo hi:Option Int):List V:=(xs.drop (HT.sIx xs.length 0 lo)).take (HT.sIx xs.length xs.length hi - HT.sIx xs.length 0 lo)
theorem ZdF (xs:List V)(lo hi:Option Int):(Vp xs lo hi).length≤xs.length:=by
 unfold Vp
 rw [List.length_take,List.length_drop]
 omega
end
end L2
namespace L2
open PySem PySem.Spec PyProof.Rows
def Ws (n:Nat)(i:Int):Option Nat:=if 0≤i then (if i < n then some i.toNat else none) else if -(n:Int)≤i then some (i+n).toNat else none
def YG {α:Type}(xs:List α)(i:Int):Option α:=(Ws xs.length i).bind fun j=>xs[j]?
theorem Zbu {n:Nat}{i:Int}{j:Nat}(h:Ws n i=some j):seqIndex? i n=some j∧j < n∧-(n:Int)≤i∧i < n:=by
 unfold Ws at h
 by_cases h0:0≤i
 · rw [if_pos h0] at h
   by_cases h1:i < n
   · rw [if_pos h1] at h
     have e:i.toNat=j:=Option.some.inj h
     exact ⟨by rw [seqIndex_of h0 h1,e],by omega,by omega,h1⟩
   · rw [if_neg h1] at h;cases h
 · rw [if_neg h0] at h
   by_cases h1:-(n:Int)≤i
   · rw [if_pos h1] at h
     have e:(i+n).toNat=j:=Option.some.inj h
     exact ⟨by rw [seqIndex_neg (by omega) h1,e],by omega,h1,by omega⟩
   · rw [if_neg h1] at h;cases h
theorem Zbt {α:Type}{xs:List α}{i:Int}{v:α}(h:YG xs i=some v):∃ j,seqIndex? i xs.length=some j∧xs[j]?=some v∧j < xs.length∧-(xs.length:Int)≤i∧i < xs.length:=by
 unfold YG at h
 cases e:Ws xs.length i with
 | none=>rw [e] at h;cases h
 | some j =>
   rw [e] at h
   obtain ⟨h1,h2,h3,h4⟩:=Zbu e
   exact ⟨j,h1,h,h2,h3,h4⟩
theorem Zv {α:Type}{xs:List α}{j:Nat}{v:α}(h:xs[j]?=some v):YG xs (j:Int)=some v:=by
 have hj:j < xs.length:=(List.getElem?_eq_some_iff.mp h).1
 have e:Ws xs.length (j:Int)=some j:=by
   unfold Ws
   rw [if_pos (by omega),if_pos (by omega)];simp
 unfold YG;rw [e];exact h
theorem Xf {α:Type}(xs:List α)(v:α):YG (xs++[v]) (-1)=some v:=by
 have hl:(xs++[v]).length=xs.length+1:=by simp
 have e:Ws (xs++[v]).length (-1)=some xs.length:=by
   unfold Ws
   rw [hl,if_neg (by decide),if_pos (by omega)]
   congr 1
   omega
 unfold YG
 rw [e]
 show (xs++[v])[xs.length]?=some v
 simp
def ZjJ (b:Expr):Prop:=∀ o i,subscripted b false o i=operate [o,i] (getItem o i)
def IxR (X:Cx)(r:R2):Prop :=
 ∀ (value slice:Expr) (pins:List (Addr×Obj)) (s:Shared) (σ:St) (H:Hp) (x y:V) (v u:Value) (Q:VK),Inv X pins σ H s→RelV x v→RelV y u→r x y H Q →
   subscripted slice false v u=operate [v,u] (getItem v u)→wpAny (model X.prog X.w) X.A (subscriptTail value slice v u) (EP X pins σ Q) X.xe s
def MtR (X:Cx)(id:String)(r:V→List V→Hp→VK→Prop):Prop :=
 ∀ (pins:List (Addr×Obj)) (s:Shared) (σ:St) (H:Hp) (x:V) (xs:List V) (v:Value) (us:List Value) (Q:VK),Inv X pins σ H s→RelV x v→Vals xs us→r x xs H Q →
   wpAny (model X.prog X.w) X.A (call (.builtin id) (v::us)) (EP X pins σ Q) X.xe s
section
variable {X:Cx}{a b:Expr}{ta tb:TE}{pos:Pos}
theorem Zm {r:R2}(hr:IxR X r)(ha:PE X a ta)(hb:PE X b tb)(hs:ZjJ b):PE X (.Subscript a b pos) (tOp r ta tb):=by
 intro pins s σ H Q I h
 exact Subscript_ (Zic ha hb I h fun v u s2 x y H2 I2 rx ry q=>hr a b pins s2 σ H2 x y v u Q I2 rx ry q (hs _ _))
def rIxL (K:PySem.W.Frag):R2:=fun x y H Q=>∃ p xs i v,x=.ref p∧y=.int i∧SqL K H p xs∧YG xs i=some v∧Q v H
def rIxT (K:PySem.W.Frag):R2:=fun x y H Q=>∃ p xs i v,x=.ref p∧y=.int i∧SqT K H p xs∧YG xs i=some v∧Q v H
def rIxS:R2:=fun x y H Q=>∃ z i c,x=.str z∧y=.int i∧z.length≤sizeLine∧YG z.cps.toList i=some c∧Q (.str ⟨#[c]⟩) H
theorem Zt:IxR X (rIxL X.K):=by
 intro value slice pins s σ H x y v u Q I rx ry h hs
 obtain ⟨p,xs,i,z,rfl,rfl,hq,he,q⟩:=h
 cases rx
 obtain ⟨t,rfl⟩:=ry
 obtain ⟨its,r,pl,hz⟩:=I.list hq
 obtain ⟨j,h1,h2,h3,h4,h5⟩:=Zbt he
 obtain ⟨w,ew,rw'⟩:=r.get h2
 have hl:=r.length
 have hn:=WU
 have fin:EP X pins σ Q w s:=⟨z,H,I,rw',q⟩
 by_cases h0:0≤i
 · have hj:i.toNat=j:=by
     rw [seqIndex_of h0 h5] at h1
     exact Option.some.inj h1
   exact item_listR pl.isList h0 (by omega) (by rw [hj];simpa using ew) fin hs
 · have hj:(i+(its.toArray.size:Int)).toNat=j:=by
     rw [seqIndex_neg (by omega) h4] at h1
     rw [List.size_toArray,← hl]
     exact Option.some.inj h1
   exact subscriptTail_builtinR (x:=w) pl.isList.typeIs slot_list_getitem.lookup
     (wpAny_getItem_list_neg (Q:=fun r s'=>r=w∧EP X pins σ Q r s') pl.isList (by omega) (by rw [List.size_toArray]<;>omega) (by omega) (by rw [hj];simpa using ew) ⟨rfl,fin⟩) hs
theorem ZS:IxR X (rIxT X.K):=by
 intro value slice pins s σ H x y v u Q I rx ry h hs
 obtain ⟨p,xs,i,z,rfl,rfl,hq,he,q⟩:=h
 cases rx
 obtain ⟨t,rfl⟩:=ry
 obtain ⟨its,r,pl,hz⟩:=I.tuple hq
 obtain ⟨j,h1,h2,h3,h4,h5⟩:=Zbt he
 obtain ⟨w,ew,rw'⟩:=r.get h2
 have hl:=r.length
 have hn:=WU
 have fin:EP X pins σ Q w s:=⟨z,H,I,rw',q⟩
 exact subscriptTail_builtinR (x:=w) pl.typeIs slot_tuple_getitem.lookup
   (getItem_tuple (j:=j) (Q:=fun r s'=>r=w∧EP X pins σ Q r s') pl (by omega) (by omega) (by rw [List.size_toArray,← hl];exact h1) (by simpa using ew) ⟨rfl,fin⟩) hs
theorem Wq:IxR X rIxS:=by
 intro value slice pins s σ H x y v u Q I rx ry h hs
 obtain ⟨z,i,c,rfl,rfl,hz,he,q⟩:=h
 obtain ⟨t,rfl⟩:=rx
 obtain ⟨t',rfl⟩:=ry
 obtain ⟨j,h1,h2,h3,h4,h5⟩:=Zbt he
 have hl:z.cps.toList.length=z.length:=by simp [Str.length]
 rw [hl] at h1 h4 h5
 have hn:=WU
 exact tail_any (typeIs_str s z t) slot_str_getitem.lookup (getItem_str (c:=c) (by
   have e1:decide (i < -(2 ^ 63:Int))=false:=decide_eq_false (by omega)
   have e2:decide (i ≥ 2 ^ 63)=false:=decide_eq_false (by omega)
   rw [e1,e2,Bool.or_false]) (by rw [h1];simpa using h2) ⟨.str ⟨#[c]⟩,H,I.tok _,⟨_,rfl⟩,q⟩) hs
theorem ZeZ (its:List Value)(n j:Nat)(u:Value):Obj.mapSeq (·.setIfInBounds j u) { cls:=.type "list",data:=.seq its.toArray n }={ cls:=.type "list",data:=.seq (its.set j u).toArray n }:=by
 simp [Obj.mapSeq]
theorem Inv.lst {pins:List (Addr×Obj)}{σ:St}{H:Hp}{s:Shared}{p:Addr}{xs:List V}(I:Inv X pins σ H s)(h:H p=some (.lst xs)) :
   ∃ (its:List Value) (n:Nat),Vals xs its∧s.heap.get? p=some { cls:=.type "list",data:=.seq its.toArray n }∧xs.length≤sizeLine:=by
 obtain ⟨z,its,n,r,e⟩:=I.hok p _ h
 exact ⟨its,n,r,e,z⟩
theorem Inv.lstUpd {pins:List (Addr×Obj)}{σ:St}{H:Hp}{s:Shared}{p:Addr}{xs ys:List V}{its its':List Value}{n n':Nat}{f:Obj→Obj}(I:Inv X pins σ H s)(h:H p=some (.lst xs))
   (ho:s.heap.get? p=some { cls:=.type "list",data:=.seq its.toArray n }) (hf:f { cls:=.type "list",data:=.seq its.toArray n }={ cls:=.type "list",data:=.seq its'.toArray n' }) (r:Vals ys its') (hz:ys.length≤sizeLine) (t:Nat) :
   Inv X pins σ (upd H p (.lst ys)) { s with heap:=s.heap.update p f,toks:=t }:=by
 have e:(s.heap.update p f).get? p=some { cls:=.type "list",data:=.seq its'.toArray n' }:=by
   rw [Heap.get?_update_self f ho (by rw [hf]<;>rfl),hf]
 refine I.write (x:=p) (e:=p) (by rw [h];trivial) (.inl rfl) (fun b u hb q=>(Heap.get?_update_other _ _ (Ne.symm hb)).trans q) ⟨_,e⟩ ?_
 exact ⟨hz,its',n',r,e⟩
def Zmz:V→V→V→Hp→(Hp→Prop)→Prop:=fun o i v H Q=>∃ p xs k j,o=.ref p∧i=.int k∧H p=some (.lst xs)∧Ws xs.length k=some j∧Q (upd H p (.lst (xs.set j v)))
theorem UH:PSet X Zmz:=by
 intro pins s σ H o i v ov iv u Q I ro ri rv h
 obtain ⟨p,xs,k,j,rfl,rfl,hp,hj,q⟩:=h
 cases ro
 obtain ⟨t,rfl⟩:=ri
 obtain ⟨its,n,r,ho,hz⟩:=I.lst hp
 obtain ⟨h1,h2,h3,h4⟩:=Zbu hj
 have hl:=r.length
 have hn:=WU
 have I':Inv X pins σ (upd H p (.lst (xs.set j v))) { s with heap:=s.heap.update p (Obj.mapSeq (·.setIfInBounds j u)) } :=
   I.lstUpd hp ho (ZeZ its n j u) (r.set rv j) (by rw [List.length_set];exact hz) s.toks
 by_cases h0:0≤k
 · have hk:k.toNat=j:=by
     rw [seqIndex_of h0 h4] at h1
     exact Option.some.inj h1
   exact PySem.W.ki_setAt ho h0 (by omega) (by rw [List.size_toArray,← hl];exact h4) (by rw [hk];exact ⟨_,I',q⟩)
 · have hk:(k+(its.toArray.size:Int)).toNat=j:=by
     rw [seqIndex_neg (by omega) h3] at h1
     rw [List.size_toArray,← hl]
     exact Option.some.inj h1
   exact PySem.W.ki_setBack ho (by omega) (by rw [List.size_toArray,← hl];exact h3) (by omega) (by rw [hk];exact ⟨_,I',q⟩)
theorem Zdr (lo hi:Option Int)(n:Nat):(sliceBounds lo hi none n).1=((HT.sIx n 0 lo:Nat):Int)∧(sliceBounds lo hi none n).2.1=((HT.sIx n n hi:Nat):Int)∧(sliceBounds lo hi none n).2.2=1:=by
 refine ⟨?_,?_,rfl⟩
 · cases lo with
   | none=>simp [sliceBounds,HT.sIx]
   | some i =>
     simp only [sliceBounds,HT.sIx,Option.getD_none,show (1:Int) > 0 by decide,if_true]
     by_cases h:i < 0
     · simp only [h,if_true]<;>omega
     · simp only [h,if_false]<;>omega
 · cases hi with
   | none=>simp [sliceBounds,HT.sIx]
   | some i =>
     simp only [sliceBounds,HT.sIx,Option.getD_none,show (1:Int) > 0 by decide,if_true]
     by_cases h:i < 0
     · simp only [h,if_true]<;>omega
     · simp only [h,if_false]<;>omega
theorem ZbV (its:List Value)(lo hi:Option Int):slicePick its.toArray lo hi none=((its.drop (HT.sIx its.length 0 lo)).take (HT.sIx its.length its.length hi - HT.sIx its.length 0 lo)).toArray:=by
 obtain ⟨h1,h2,h3⟩:=Zdr lo hi its.toArray.size
 unfold slicePick
 rw [h1,h2,h3]
 simp only [sliceRange_one,pick_run,List.size_toArray]<;>rfl
def rSlL (K:PySem.W.Frag):V→Option Int→Option Int→Hp→VK→Prop:=fun x lo hi H Q=>∃ a xs,x=.ref a∧SqL K H a xs∧∀ p,H p=none→Q (.ref p) (upd H p (.lst (Vp xs lo hi)))
theorem Zbr:SlR X (rSlL X.K):=by
 intro pins s σ H x v vl vu lo hi sl Q I rx hs pl pu h
 obtain ⟨a,xs,rfl,hx,q⟩:=h
 cases rx
 obtain ⟨its,r,ht,hz⟩:=I.list hx
 have hlen:=r.length
 refine ⟨"list",_,slot_list_getitem.lookup,ht.isList.typeIs,?_⟩
 refine wpAny_getItem_list_slice ht.isList hs pl pu .none (by simp) ?_ (by rw [List.size_toArray]<;>omega)
 rw [ZbV,← hlen]
 refine ⟨.ref s.heap.objs.size,_,I.laid (t':=s.toks) (o:=.lst (Vp xs lo hi)) (fun b ob q=>Heap.get?_push_of_some _ q) (Nat.le_refl _) ?_,rfl,q _ (I.hok.fresh (Nat.le_refl _))⟩
 exact ⟨Nat.le_trans (ZdF xs lo hi) hz,_,0,(r.drop (HT.sIx xs.length 0 lo)).take (HT.sIx xs.length xs.length hi - HT.sIx xs.length 0 lo),Heap.get?_push_size _ rfl⟩
def WB:V→Bool
 | .non=>true
 | .bl _=>true
 | .int _=>true
 | .str _=>true
 | _=>false
def eqV:V→V→Bool
 | .non,.non=>true
 | .bl a,.bl b=>a == b
 | .bl a,.int b=>(if a then 1 else 0) == b
 | .int a,.bl b=>a == (if b then 1 else 0)
 | .int a,.int b=>a == b
 | .str a,.str b=>a == b
 | _,_=>false
theorem ZkB {A:Around}{s:Shared}{y x:V}{u v:Value}(ry:RelV y u)(rx:RelV x v)(fy:WB y=true)(fx:WB x=true):SeqAt.EqAt A s u v (eqV y x):=by
 cases y with
 | non =>
   cases ry
   cases x with
   | non=>cases rx;exact SeqAt.EqAt.same _
   | bl b=>cases rx;exact SeqAt.EqAt.none_bool b
   | int b=>obtain ⟨t,rfl⟩:=rx;exact SeqAt.EqAt.none_int b t
   | str b=>obtain ⟨t,rfl⟩:=rx;exact SeqAt.EqAt.none_str b t
   | _=>exact absurd (show false=true from fx) Bool.false_ne_true
 | bl a =>
   cases ry
   cases x with
   | non=>cases rx;exact SeqAt.EqAt.bool_none a
   | bl b=>cases rx;exact SeqAt.EqAt.bool_bool a b
   | int b=>obtain ⟨t,rfl⟩:=rx;exact SeqAt.EqAt.bool_int a b t
   | str b=>obtain ⟨t,rfl⟩:=rx;exact SeqAt.EqAt.bool_str a b t
   | _=>exact absurd (show false=true from fx) Bool.false_ne_true
 | int a =>
   obtain ⟨t',rfl⟩:=ry
   cases x with
   | non=>cases rx;exact SeqAt.EqAt.int_none a t'
   | bl b=>cases rx;exact SeqAt.EqAt.int_bool a t' b
   | int b=>obtain ⟨t,rfl⟩:=rx;exact SeqAt.EqAt.int_int a t' b t
   | str b=>obtain ⟨t,rfl⟩:=rx;exact SeqAt.EqAt.int_str a t' b t
   | _=>exact absurd (show false=true from fx) Bool.false_ne_true
 | str a =>
   obtain ⟨t',rfl⟩:=ry
   cases x with
   | non=>cases rx;exact SeqAt.EqAt.str_none a t'
   | bl b=>cases rx;exact SeqAt.EqAt.str_bool a t' b
   | int b=>obtain ⟨t,rfl⟩:=rx;exact SeqAt.EqAt.str_int a t' b t
   | str b=>obtain ⟨t,rfl⟩:=rx;exact SeqAt.EqAt.str_str a t' b t
   | _=>exact absurd (show false=true from fx) Bool.false_ne_true
 | _=>exact absurd (show false=true from fy) Bool.false_ne_true
def eqU (x:V)(u:Value):Bool:=match u with
 | .none=>eqV .non x
 | .bool b=>eqV (.bl b) x
 | .int i _=>eqV (.int i) x
 | .str z _=>eqV (.str z) x
 | _=>false
theorem ZfQ {x y:V}{u:Value}(r:RelV y u)(f:WB y=true):eqU x u=eqV y x:=by
 cases y with
 | non=>cases r;rfl
 | bl b=>cases r;rfl
 | int i=>obtain ⟨t,rfl⟩:=r;rfl
 | str z=>obtain ⟨t,rfl⟩:=r;rfl
 | _=>exact absurd (show false=true from f) Bool.false_ne_true
theorem Zbv {x:V}:∀{xs:List V}{us:List Value},Vals xs us→xs.all WB=true→us.any (eqU x)=xs.any fun y=>eqV y x
 | _,_,.nil,_=>rfl
 | y::xs,u::us,.cons r t,f=>by
   rw [List.all_cons,Bool.and_eq_true] at f
   rw [List.any_cons,List.any_cons,ZfQ r f.1,Zbv t f.2]
theorem Zai {A:Around}{s:Shared}{x:V}{v:Value}(rx:RelV x v)(fx:WB x=true):∀{xs:List V}{us:List Value},Vals xs us→xs.all WB=true→∀ u∈us,SeqAt.EqAt A s u v (eqU x u)
 | _,_,.nil,_=>fun u hu=>by cases hu
 | y::xs,u::us,.cons r t,f=>fun u' hu=>by
   rw [List.all_cons,Bool.and_eq_true] at f
   rcases List.mem_cons.mp hu with rfl | hu
   · rw [ZfQ r f.1];exact ZkB r rx f.1 fx
   · exact Zai rx fx t f.2 u' hu
def inV (x:V)(xs:List V):Bool:=xs.any fun y=>eqV y x
def rIn (K:PySem.W.Frag)(neg:Bool):R2:=fun x y H Q=>∃ p xs,y=.ref p∧(SqL K H p xs∨SqT K H p xs)∧WB x=true∧xs.all WB=true∧Q (.bl (if neg then !inV x xs else inV x xs)) H
theorem ZcX:YQ X (compareOp .NotIn) (rIn X.K true):=by
 intro pins s σ H x y v u Q I rx ry h
 obtain ⟨p,xs,rfl,hq,fx,fs,q⟩:=h
 cases ry
 rcases hq with hq | hq
 · obtain ⟨its,r,pl,hz⟩:=I.list hq
   refine SeqAt.notIn_listAt (eqU x) pl.isList (fun w hw=>Zai rx fx r fs w (by simpa using hw)) ⟨.bl _,H,I,rfl,?_⟩
   rw [show its.toArray.any (eqU x)=its.any (eqU x) by simp,Zbv r fs]
   exact q
 · obtain ⟨its,r,pl,hz⟩:=I.tuple hq
   refine SeqAt.notIn_tupleAt (eqU x) pl (fun w hw=>Zai rx fx r fs w (by simpa using hw)) ⟨.bl _,H,I,rfl,?_⟩
   rw [show its.toArray.any (eqU x)=its.any (eqU x) by simp,Zbv r fs]
   exact q
theorem ZE:Yr X (.builtin "len") (fun xs H Q=>∃ p ys,xs=[.ref p]∧(SqL X.K H p ys∨SqT X.K H p ys)∧Q (.int ys.length) H):=by
 intro pins s σ H xs us Q I r h
 obtain ⟨p,ys,rfl,hq,q⟩:=h
 obtain ⟨u,rfl,rx⟩:=Ys r
 cases rx
 have hn:=WU
 rcases hq with hq | hq
 · obtain ⟨its,r',pl,hz⟩:=I.list hq
   have hlen:=r'.length
   exact Calls.call_len_list pl.isList (by simp only [List.size_toArray]<;>omega) ⟨.int ys.length,H,I.tok _,⟨s.toks+1,by rw [List.size_toArray,hlen]⟩,q⟩
 · obtain ⟨its,r',pl,hz⟩:=I.tuple hq
   have hlen:=r'.length
   exact len_tuple pl (by simp only [List.size_toArray]<;>omega) ⟨.int ys.length,H,I.tok _,⟨s.toks+1,by rw [List.size_toArray,hlen]⟩,q⟩
theorem XZ:Yr X (.type "list") (fun xs H Q=>∃ p ys,xs=[.ref p]∧(SqL X.K H p ys∨SqT X.K H p ys)∧∀ l,H l=none→Q (.ref l) (upd H l (.lst ys))):=by
 intro pins s σ H xs us Q I r h
 obtain ⟨p,ys,rfl,hq,q⟩:=h
 obtain ⟨u,rfl,rx⟩:=Ys r
 cases rx
 have fin:∀ (its:List Value),Vals ys its→ys.length≤sizeLine→∀ (h':Heap) (c':Nat),(∀ b o',s.heap.get? b=some o'→h'.get? b=some o') →
     h'.get? s.heap.objs.size=some { cls:=.type "list",dict:=none,data:=.seq its.toArray c',slots:=#[] }→EP X pins σ Q (.ref s.heap.objs.size) { s with heap:=h' }:=fun its r' hz h' c' kp e =>
   ⟨.ref s.heap.objs.size,_,I.laid (t':=s.toks) kp (Nat.le_refl _) (show ObjOk X.prog X.w _ h' _ (.lst ys) from ⟨hz,its,c',r',e⟩),rfl,q _ (I.hok.fresh (Nat.le_refl _))⟩
 rcases hq with hq | hq
 · obtain ⟨its,r',pl,hz⟩:=I.list hq
   have hlen:=r'.length
   obtain ⟨o,ho,hc,n,hd⟩:=pl.isList
   exact call_list_seq p (.inl rfl) ho hc hd (fun h' c' kp e=>fin its r' hz h' c' kp e) (by simp only [List.size_toArray]<;>omega)
 · obtain ⟨its,r',pl,hz⟩:=I.tuple hq
   have hlen:=r'.length
   obtain ⟨o,ho,hc,n,hd⟩:=pl
   exact call_list_seq p (.inr rfl) ho hc hd (fun h' c' kp e=>fin its r' hz h' c' kp e) (by simp only [List.size_toArray]<;>omega)
theorem XE:Yr X (.type "tuple") (fun xs H Q=>∃ p ys,xs=[.ref p]∧((SqL X.K H p ys∧∀ l,H l=none→Q (.ref l) (upd H l (.tup ys)))∨(SqT X.K H p ys∧Q (.ref p) H))):=by
 intro pins s σ H xs us Q I r h
 obtain ⟨p,ys,rfl,h⟩:=h
 obtain ⟨u,rfl,rx⟩:=Ys r
 cases rx
 rcases h with ⟨hq,q⟩ | ⟨hq,q⟩
 · obtain ⟨its,r',pl,hz⟩:=I.list hq
   have hlen:=r'.length
   refine call_tuple_list pl.isList (fun h' kp=>?_) (by simp only [List.size_toArray]<;>omega)
   have I1:Inv X pins σ H { s with heap:=h' }:=I.kept (t':=s.toks) kp
   have I2:Inv X pins σ (upd H h'.objs.size (.tup ys)) { s with heap:=h'.push { cls:=.type "tuple",data:=.seq its.toArray } } :=
     I1.laid (t':=s.toks) (fun b o e=>Heap.get?_push_of_some _ e) (Nat.le_refl _) (show ObjOk X.prog X.w _ _ _ (.tup ys) from ⟨hz,its,r',IsTup.new _ _⟩)
   exact ⟨.ref h'.objs.size,_,I2,rfl,q _ (I1.hok.fresh (Nat.le_refl _))⟩
 · obtain ⟨its,r',pl,hz⟩:=I.tuple hq
   exact call_tuple_same pl ⟨.ref p,H,I,rfl,q⟩
def tyV (K:PySem.W.Frag)(T:String)(x:V)(H:Hp):Prop:=match x with
 | .str _=>T="str"
 | .int _=>T="int"
 | .ref p=>(T="list"∧∃ xs,SqL K H p xs)∨(T="tuple"∧∃ o,K.lookup p=some o∧o.cls=.type "tuple"∧o.dict=none) ∨
     (T="dict"∧((∃ kvs,H p=some (.dK kvs))∨∃ kvs,H p=some (.dT kvs)))∨(T="set"∧∃ S n,H p=some (.set S n))
 | _=>False
theorem Zfx {pins:List (Addr×Obj)}{σ:St}{H:Hp}{s:Shared}{T:String}{x:V}{v:Value}(I:Inv X pins σ H s)(r:RelV x v)(ty:tyV X.K T x H) :
   s.TypeIs v T∧∀ a,v=.ref a→∃ ob,s.heap.get? a=some ob∧ob.dict=none:=by
 cases x with
 | str z =>
   obtain ⟨t,rfl⟩:=r
   cases (show T="str" from ty)
   exact ⟨typeIs_str s z t,fun _ e=>nomatch e⟩
 | int i =>
   obtain ⟨t,rfl⟩:=r
   cases (show T="int" from ty)
   exact ⟨typeIs_int s i t,fun _ e=>nomatch e⟩
 | ref p =>
   cases r
   rcases ty with ⟨rfl,xs,hq⟩ | ⟨rfl,o,hk,hc,hd⟩ | ⟨rfl,hk⟩ | ⟨rfl,S,n,hk⟩
   · obtain ⟨its,_,pl,_⟩:=I.list hq
     refine ⟨pl.isList.typeIs,fun a e=>?_⟩
     cases e
     obtain ⟨o,n,e,c,hd,_⟩:=pl
     exact ⟨o,e,hd⟩
   · refine ⟨⟨o,I.kIn p o hk,hc⟩,fun a e=>?_⟩
     cases e
     exact ⟨o,I.kIn _ o hk,hd⟩
   · have z:∃ o,s.heap.get? p=some o∧o.ExactDict:=by
       rcases hk with ⟨kvs,hk⟩ | ⟨kvs,hk⟩
       · obtain ⟨_,_,_,_,o,_,_,e,ex,_⟩:=I.hok p _ hk
         exact ⟨o,e,ex⟩
       · obtain ⟨_,_,_,_,o,_,_,e,ex,_⟩:=I.hok p _ hk
         exact ⟨o,e,ex⟩
     obtain ⟨o,e,ex⟩:=z
     refine ⟨⟨o,e,ex.1⟩,fun a e2=>?_⟩
     cases e2
     exact ⟨o,e,ex.2.1⟩
   · obtain ⟨o,_,_,_,e,ex,_⟩:=I.hok p _ hk
     refine ⟨⟨o,e,ex.1⟩,fun a e2=>?_⟩
     cases e2
     exact ⟨o,e,ex.2.1⟩
 | _=>exact False.elim ty
def tBM0 (K:PySem.W.Frag)(T:String)(r:V→List V→Hp→VK→Prop)(to:TE):TE:=fun σ H Q=>to σ H fun x H1=>tyV K T x H1∧r x [] H1 Q
def tBM (K:PySem.W.Frag)(T:String)(r:V→List V→Hp→VK→Prop)(to:TE)(t:TA):TE:=fun σ H Q=>to σ H fun x H1=>tyV K T x H1∧t σ H1 fun xs H2=>r x xs H2 Q
variable {o e:Expr}{es:List Expr}{to:TE}{t:TA}{name:Str}{apos cpos:Pos}{T id:String}{r:V→List V→Hp→VK→Prop}
theorem ZkR (pa:PlainAttrs T)(slot:Slot T name id)(hty:typeOf (.builtin id)=pure (.type "method_descriptor"))(hm:MtR X id r)(ho:PE X o to)
   (hbase:attributeBase o name X.env (eval o X.env)=eval o X.env:=by rfl) (hline:(apos.endLine == cpos.line)=true:=by rfl):PE X (.Call (.Attribute o name apos) [] [] cpos) (tBM0 X.K T r to):=by
 intro pins s σ H Q I h
 refine wpAny_Call_method0_late hbase hline (Zr (ho pins s σ H _ I h) fun v s1 ⟨x,H1,I1,r1,ty,q1⟩=>?_)
 obtain ⟨h1,h2⟩:=Zfx I1 r1 ty
 exact ⟨T,id,pa,slot,hty,h1,h2,Calls.callWith_builtin rfl (PySem.evalArgs_none (hm pins s1 σ H1 x [] v [] Q I1 r1 .nil q1))⟩
theorem YS (pa:PlainAttrs T)(slot:Slot T name id)(hty:typeOf (.builtin id)=pure (.type "method_descriptor"))(hm:MtR X id r)(ho:PE X o to)(ha:PA X (e::es) t)
   (hbase:attributeBase o name X.env (eval o X.env)=eval o X.env:=by rfl)
   (hfew:((backTo cpos (starEach (e::es) X.env)).all (fun x=>!x.1)&&(backToKw cpos (keywordEach [] X.env)).all (fun x=>x.1.isSome)
     && decide ((e::es).length+([]:List Keyword).length+(if ([]:List Keyword).isEmpty then 0 else 1) < 30))=true:=by rfl)
   (hline:(apos.endLine == cpos.line)=true:=by rfl) (hs:starEach (e::es) X.env=(false,eval e X.env)::starEach es X.env:=by rfl) (hplain:(backTo cpos (starEach es X.env)).any (·.1)=false:=by rfl) :
   PE X (.Call (.Attribute o name apos) (e::es) [] cpos) (tBM X.K T r to t):=by
 intro pins s σ H Q I h
 refine wpAny_Call_method_late hbase hfew hline rfl (Zr (ho pins s σ H _ I h) fun v s1 ⟨x,H1,I1,r1,ty,q1⟩=>?_)
 obtain ⟨h1,h2⟩:=Zfx I1 r1 ty
 refine ⟨T,id,pa,slot,hty,h1,h2,?_⟩
 have hA:=ha cpos pins s1 σ H1 _ I1 q1
 rw [hs] at hA ⊢
 refine Calls.callWith_builtin (by show (false || (backTo cpos (starEach es X.env)).any (·.1))=false;rw [hplain]<;>rfl) (Calls.evalArgs_plain ?_)
 exact Zr hA fun us s2 ⟨vs,H2,I2,r2,q2⟩=>hm pins s2 σ H2 x vs v us Q I2 r1 r2 q2
end
end L2
namespace L2
open PySem PySem.Spec PyProof.Rows
def MtM (X:Cx)(id:String)(r:V→List V→Hp→VK→Prop):Prop :=
 ∀ (pins:List (Addr×Obj)) (s:Shared) (σ:St) (H:Hp) (x:V) (xs:List V) (v:Value) (us:List Value) (Q:VK),Inv X pins σ H s→RelV x v→Vals xs us→r x xs H Q →
   wpAny (model X.prog X.w) X.A (call (.builtin id) (v::us)) (EP X pins σ Q) X.xe s
theorem Vals.one:∀{x:V}{us:List Value},Vals [x] us→∃ u,us=[u]∧RelV x u
 | _,_,.cons r .nil=>⟨_,rfl,r⟩
theorem Vals.rep {xs:List V}{us:List Value}(h:Vals xs us):∀ k:Nat,Vals (List.replicate k xs).flatten (List.replicate k us).flatten
 | 0=>.nil
 | k+1=>by
   rw [List.replicate_succ,List.replicate_succ,List.flatten_cons,List.flatten_cons]
   exact Vals.append h (Vals.rep h k)
theorem ZbD (its:List Value):∀(k:Nat)(acc:List Value),
   List.foldl (fun x1 x2=>x1++x2) acc.toArray (List.replicate k its.toArray)=(acc++(List.replicate k its).flatten).toArray
 | 0,acc=>by simp
 | k + 1,acc=>by
   have e:acc.toArray++its.toArray=(acc++its).toArray:=by simp
   have e2:(acc++its)++(List.replicate k its).flatten=acc++(List.replicate (k+1) its).flatten:=by
     rw [List.replicate_succ,List.flatten_cons,List.append_assoc]
   rw [← e2,← ZbD its k (acc++its),← e,List.replicate_succ,List.foldl_cons]
section
variable {X:Cx}{pins:List (Addr×Obj)}{σ:St}{H:Hp}{s:Shared}{l b:Addr}{xs ys zs:List V}
theorem Inv.lset {its its':List Value}{n:Nat}{f:Array Value→Array Value}{t':Nat}(I:Inv X pins σ H s)(hH:H l=some (.lst xs))
   (e:s.heap.get? l=some { cls:=.type "list",data:=.seq its.toArray n }) (hf:f its.toArray=its'.toArray) (hv:Vals ys its') (hz:ys.length≤sizeLine) :
   Inv X pins σ (upd H l (.lst ys)) { s with heap:=s.heap.update l (Obj.mapSeq f),toks:=t' }:=by
 have q:=PySem.IsL.update e f
 rw [hf] at q
 refine I.write (x:=l) (e:=l) (by rw [hH];exact trivial) (.inl rfl) (fun b' u hb hu=>(Heap.get?_update_other s.heap (Obj.mapSeq f) (Ne.symm hb)).trans hu) ⟨_,q⟩ ?_
 exact ⟨hz,its',_,hv,q⟩
theorem Inv.lnew {its:List Value}{t':Nat}(I:Inv X pins σ H s)(hv:Vals ys its)(hz:ys.length≤sizeLine) :
   Inv X pins σ (upd H s.heap.objs.size (.lst ys)) { s with heap:=s.heap.push { cls:=.type "list",data:=.seq its.toArray },toks:=t' } :=
 I.laid (fun _ _ q=>Heap.get?_push_of_some _ q) (Nat.le_refl _) ⟨hz,its,0,hv,Heap.get?_push_size _ rfl⟩
theorem Inv.fresh (I:Inv X pins σ H s):H s.heap.objs.size=none:=I.hok.fresh (Nat.le_refl _)
theorem Inv.lstM (I:Inv X pins σ H s)(hH:H l=some (.lst xs)):xs.length≤sizeLine∧∃ (its:List Value) (n:Nat),Vals xs its∧xs.length=its.length∧s.heap.get? l=some { cls:=.type "list",data:=.seq its.toArray n }:=by
 obtain ⟨z,its,n,r,e⟩:=I.hok l _ hH
 exact ⟨z,its,n,r,r.length,e⟩
theorem Zcz {n:Nat}(h:n≤sizeLine):Builtin.List.listTooLong n=false:=by
 unfold Builtin.List.listTooLong
 exact decide_eq_false (by omega)
end
section
variable {X:Cx}
def Zjw:V→List V→Hp→VK→Prop:=fun x vs H Q=>∃ l xs y,x=.ref l∧vs=[y]∧H l=some (.lst xs)∧xs.length < sizeLine∧Q .non (upd H l (.lst (xs++[y])))
theorem Yf:MtM X "list.append" Zjw:=by
 intro pins s σ H x vs v us Q I rx rv h
 obtain ⟨l,xs,y,rfl,rfl,hH,hz,q⟩:=h
 cases rx
 obtain ⟨u,rfl,ru⟩:=rv.one
 obtain ⟨z,its,n,r,hl,e⟩:=I.lstM hH
 refine call_meets F.slot_list_append ⟨_,e,rfl⟩ F.entry_list_append (F.args_list_append_2 _ _) (PySem.list_append l its.toArray n u (by rw [List.size_toArray];omega)) ⟨e,?_⟩
 refine ⟨.non,_,I.lset (its':=its++[u]) hH e (by simp) (r.append (.cons ru .nil)) ?_,rfl,q⟩
 rw [List.length_append,List.length_singleton]
 omega
def Zjt:V→List V→Hp→VK→Prop:=fun x vs H Q=>∃ l b xs zs,x=.ref l∧vs=[.ref b]∧H l=some (.lst xs)∧H b=some (.lst zs)∧xs.length+zs.length≤sizeLine∧Q .non (upd H l (.lst (xs++zs)))
theorem ZgK:MtM X "list.extend" Zjt:=by
 intro pins s σ H x vs v us Q I rx rv h
 obtain ⟨l,b,xs,zs,rfl,rfl,hH,hB,hz,q⟩:=h
 cases rx
 obtain ⟨u,rfl,ru⟩:=rv.one
 cases ru
 obtain ⟨z,its,n,r,hl,e⟩:=I.lstM hH
 obtain ⟨z2,its2,n2,r2,hl2,e2⟩:=I.lstM hB
 have hsz:its.toArray.size+its2.toArray.size≤sizeLine:=by rw [List.size_toArray,List.size_toArray];omega
 have hlong:¬ (!its.toArray.isEmpty&&Builtin.List.listTooLong (its.toArray.size+its2.toArray.size))=true:=by
   rw [Zcz hsz,Bool.and_false]
   exact Bool.false_ne_true
 refine call_meets F.slot_list_extend ⟨_,e,rfl⟩ F.entry_list_extend (F.args_list_extend_2 _ _)
   (AutoSeq1.list_extend_list_list_0 l its.toArray n b its2.toArray n2 hlong (by rw [List.size_toArray];omega) (by omega)) ⟨e,e2,?_⟩
 refine ⟨.non,_,I.lset (its':=its++its2) hH e (by simp) (r.append r2) ?_,rfl,q⟩
 rw [List.length_append]
 omega
def rCat:R2:=fun x y H Q=>∃ l b xs zs,x=.ref l∧y=.ref b∧H l=some (.lst xs)∧H b=some (.lst zs)∧xs.length+zs.length≤sizeLine∧∀ p,H p=none→Q (.ref p) (upd H p (.lst (xs++zs)))
theorem Zaw:YQ X (binaryOp .Add) rCat:=by
 intro pins s σ H x y v u Q I rx ry h
 obtain ⟨l,b,xs,zs,rfl,rfl,hH,hB,hz,q⟩:=h
 cases rx
 cases ry
 obtain ⟨z,its,n,r,hl,e⟩:=I.lstM hH
 obtain ⟨z2,its2,n2,r2,hl2,e2⟩:=I.lstM hB
 refine PySem.P.add_list e e2 ?_ (by rw [List.size_toArray,List.size_toArray];omega)
 have ea:its.toArray++its2.toArray=(its++its2).toArray:=by simp
 rw [ea]
 exact ⟨.ref _,_,I.lnew (t':=s.toks) (r.append r2) (by rw [List.length_append];omega),rfl,q _ I.fresh⟩
def rRep:R2:=fun x y H Q=>∃ l k xs,x=.ref l∧y=.int k∧H l=some (.lst xs)∧-(2 ^ 63)≤k∧k < 2 ^ 63∧xs.length * k.toNat≤sizeLine ∧
 ∀ p,H p=none→Q (.ref p) (upd H p (.lst (List.replicate k.toNat xs).flatten))
theorem ZjV {α:Type}(xs:List α)(k:Nat):(List.replicate k xs).flatten.length=k * xs.length:=by
 induction k with
 | zero=>simp
 | succ k ih=>rw [List.replicate_succ,List.flatten_cons,List.length_append,ih,Nat.succ_mul,Nat.add_comm]
theorem ZlM:YQ X (binaryOp .Mult) rRep:=by
 intro pins s σ H x y v u Q I rx ry h
 obtain ⟨l,k,xs,rfl,rfl,hH,h1,h2,hz,q⟩:=h
 cases rx
 obtain ⟨t,rfl⟩:=ry
 obtain ⟨z,its,n,r,hl,e⟩:=I.lstM hH
 have hlen:its.toArray.size * k.toNat≤sizeLine:=by rw [List.size_toArray,← hl];exact hz
 have hcap:¬ its.toArray.size * k.toNat > (2 ^ 63 - 1) / 8:=by
   have:(sizeLine:Nat)≤(2 ^ 63 - 1) / 8:=by decide
   omega
 have hfit:¬ (!Builtin.List.listFitsIndex k)=true:=by
   rw [fitsIndex_both h1 h2]
   exact Bool.false_ne_true
 have hlong:¬ Builtin.List.listTooLong (its.toArray.size * k.toNat)=true:=by
   rw [Zcz hlen]
   exact Bool.false_ne_true
 have hnew:List.foldl (fun x1 x2=>x1++x2) #[] (List.replicate (if its.toArray.isEmpty=true then 0 else k.toNat) its.toArray)=(List.replicate k.toNat its).flatten.toArray:=by
   have f0:∀ m:Nat,List.foldl (fun x1 x2=>x1++x2) #[] (List.replicate m its.toArray)=(List.replicate m its).flatten.toArray:=fun m=>by
     have:=ZbD its m []
     rw [List.nil_append] at this
     exact this
   rw [f0]
   cases its with
   | nil=>simp
   | cons a r'=>rw [if_neg (by simp)]
 refine wpAny_binaryOp_repeat_ref (T:="list") (U:="int") (by decide) ⟨_,e,rfl⟩ (fun s'=>typeIs_int s' k t) noFill_list_mul F.fills_int_mul F.slot_int_rmul repeat_list F.slot_int_index.lookup
   (call_meets F.slot_int_rmul (typeIs_int s k t) F.entry_int_rmul (F.args_int_rmul_2 _ _) (int___rmul___int_list k t l its.toArray n)
     ⟨e,rfl,⟨_,e,rfl⟩,call_meets F.slot_list_mul ⟨_,e,rfl⟩ F.entry_list_mul (F.args_list_mul_2 _ _) (AutoListH.list___mul___list_int_3 l its.toArray n k t hfit hcap hlong) ⟨e,?_⟩⟩)
 rw [hnew]
 exact ⟨.ref _,_,I.lnew (t':=s.toks) (r.rep k.toNat) (by rw [ZjV,Nat.mul_comm];exact hz),rfl,q _ I.fresh⟩
end
section
variable {prog:Program}{w:World}{A:Around}{E:Value→Shared→Prop}{s:Shared}
end
section
variable {X:Cx}
end
end L2
namespace Att
open PySem PySem.W PySem.Calls PyProof.Rows
theorem ZaM {P:Params}{h:Heap}:∀(ns:List Int)(vs:List Value),WellAll P h vs (ns.map WData.int)→IntsAre vs ns:=by
 intro ns
 induction ns with
 | nil =>
   intro vs w
   rw [List.map_nil] at w
   cases w
   exact .nil
 | cons n ns ih =>
   intro vs w
   rw [List.map_cons] at w
   cases w with
   | cons a b =>
     cases a
     exact .cons _ _ (ih _ b)
theorem ZfE {l:OpenLaw}{n:Nat}(hn:l.most=some n){P:Params}{h:Heap}{args:List WData}{vals:List Value}
   (hpre:l.row.toRowW.claim.pre args=true) (hwl:WellAll P h vals args) :
   ∃ a vs ns,vals=[Value.ref a]∧args=[WData.list (ns.map WData.int)]∧h.get? a=some { cls:=.type "list",data:=.seq vs.toArray }∧IntsAre vs ns∧ns.length≤n:=by
 have hsh:WShape.hasAll [] args [.list .int]=true:=(pre_splitW hpre).1
 have hc:l.pre.holds [] { args:=args }=true:=(pre_splitW hpre).2
 obtain ⟨d,r,rfl,h1,h2⟩:=hasAllW_cons hsh
 obtain rfl:=hasAllW_nil h2
 obtain ⟨xs,rfl,h3⟩:=hasW_list h1
 obtain ⟨ns,rfl⟩:=items_int h3
 have hlen:ns.length≤n:=by
   unfold OpenLaw.pre at hc
   have h4:(WTm.not (.lt (.lit (.int (n:Int))) (.len (.arg 0)))).holds [] { args:=[.list (ns.map .int)] }=true:=by
     have h4:=(holds_andW hc).1
     rw [hn] at h4
     exact h4
   have h5:=condW_of h4 (w_not (w_lt w_lit (w_len_list (w_arg rfl))))
   rw [List.length_map] at h5
   refine Nat.le_of_not_lt fun q=>?_
   have q':(n:Int) < ((ns.length:Nat):Int):=by omega
   first
     | (rw [decide_eq_true q'] at h5;exact absurd h5 (by decide))
     | (simp at h5;omega)
 cases hwl with
 | cons w1 w2 =>
   cases w2
   cases w1 with
   | list ho hall=>exact ⟨_,_,ns,rfl,rfl,ho,ZaM ns _ hall,hlen⟩
theorem Zgn (l:OpenLaw)(args:List WData):l.row.toRowW.claim.post args (.bool true) args=true :=
 postW_of (r:=l.row.toRowW) (X:=(true == true))
   (show WShape.has [] (.bool true) .bool=true by first | rfl | decide | simp [WShape.has,WShape.arms,WShape.armsAll])
   (show (WTm.eq .res (.lit (.bool true))).value [] { args:=args,res:=some (.bool true),after:=args }=some (.bool (true == true)) from w_eq_bool (w_res rfl) w_lit) rfl
theorem attach_call {l:OpenLaw}{n:Nat}{q:Program}{loose:List Str}{XP:(Str→Option Value)→Heap→Prop}{YP:World→Heap→Prop}{d:DefRec}
   (hn:l.most=some n) (hdf:d.params.defaults=[])
   (call:∀ (w:World) (s₀ s₁:Shared) (mg mb:Str→Option Value) (fa:Addr) (o:Obj) (pm cd doc:Value) (a:Addr) (vs:List Value) (ns:List Int),
     Ground q loose [] XP w s₀ mg mb s₁.heap→YP w s₁.heap →
     s₁.heap.get? fa=some o→o.data=.func (docDef d.name d.params d.body d.scope pm cd doc)→s₁.heap.CodeRec cd d.name→mg d.name=some (.ref fa) →
     s₁.heap.get? a=some { cls:=.type "list",data:=.seq vs.toArray }→IntsAre vs ns→ns.length≤n→s₁.gens=#[] →
     codeAny (model l.prog w) callerA (.call (.ref fa) ⟨[.ref a],[]⟩) (fun r s'=>r=.ok (.ret (.bool true))∧OldK s₁.heap s'.heap∧s'.os=s₁.os∧AllBare s'.gens) s₁) :
   WalkO q loose XP YP l.row.toRowW d [] (fun f vs=>PySem.call f vs):=by
 intro w s₀ s₁ mg mb G Y fa o pm cd doc dV kV ho hd hcd hD hmg hg args vals as hpre hlay hrd hwl hlo
 obtain rfl:dV=.none:=Dflts.none hD hdf
 obtain rfl:kV=.none:=Dflts.noKw hD
 obtain ⟨a,vs,ns,rfl,rfl,hobj,hints,hlen⟩:=ZfE hn hpre hwl
 refine enter_call (codeAny_mono (call w s₀ s₁ mg mb fa o pm cd doc a vs ns G Y ho (fd_plain hd) hcd hmg hobj hints hlen hg) fun r s' hq=>?_)
 obtain ⟨rfl,h2,h3,h4⟩:=hq
 exact ⟨.inl ⟨.bool true,.bool true,[],rfl,fun _=>rfl,.bool true,Zgn l _,fun _=>⟨List.Pairwise.nil,fun _ hm=>(nomatch hm)⟩⟩,h2,h3,h4⟩
section
variable {prog:Program}{w:World}{A:Around}{E:Value→Shared→Prop}{s:Shared}{K:Frag}
end
end Att
namespace L2
open PySem PySem.Spec PyProof.Rows
theorem Zby:∀{vs:List Value}{ns:List Int},IntsAre vs ns→Vals (ns.map V.int) vs
 | _,_,.nil=>.nil
 | _,_,.cons n t h=>.cons ⟨t,rfl⟩ (Zby h)
end L2
namespace L2
open PySem PySem.Spec PyProof.Rows
end L2
namespace L2
open PySem PySem.Spec PyProof.Rows
def ZN (s:Stmt)(j:Nat):Stmt:=match s with
 | .ClassDef _ _ _ body _ _ _ _ _ _ _=>body.getD j (.Pass ⟨0,0,0,0⟩)
 | _=>.Pass ⟨0,0,0,0⟩
def VD (s:Stmt):Arguments:=match s with
 | .FunctionDef _ a _ _ _ _ _ _ _ _=>a
 | _=>{ posonlyargs:=[],args:=[],vararg:=none,kwonlyargs:=[],kw_defaults:=[],kwarg:=none,defaults:=[] }
def Xs (s:Stmt):List Stmt:=match s with
 | .FunctionDef _ _ b _ _ _ _ _ _ _=>b
 | _=>[]
def Zj (s:Stmt):Scope:=match s with
 | .FunctionDef _ _ _ _ _ _ sc _ _ _=>sc
 | _=>{ kind:=.function,names:=[],isGenerator:=false,isCoroutine:=false }
abbrev ZF:Ud:=fun _ _ _ _ _ _=>False
abbrev E0:XK:=fun _ _ _=>False
theorem Zcd {X:Cx}:WV ZF X E0:=fun _ _ _ _ _ _ _ h=>h.elim
structure Fun (K:PySem.W.Frag)(x qual:Str)(st:Stmt)(f:Addr)(fd:FuncData):Prop where
 ex:∃ (oc:Value) (od:Option Addr) (kV doc pm:Value) (an:Option Addr) (cdv ct:Value) (osl:Array (Option Value)),
   fd=PySem.W.fnOf x qual (VD st) (Xs st) (Zj st) .none kV doc pm an cdv ct∧K.lookup f=some ⟨oc,od,.func fd,osl⟩∧PySem.W.codeIn K cdv qual=true
 kp:PySem.W.keepIn K (.ref f)=true
section
variable {P:Program}{w:World}{K:PySem.W.Frag}{mg:Str→Option Value}{base:Heap}
theorem Fun.ok {x qual:Str}{st:Stmt}{f:Addr}{fd:FuncData}{N ps:List Str}{k:Nat}{sp:Sp}(F:Fun K x qual st f fd)(S:Zq N ps (Zj st))(len:∀ vs H Q E,sp vs H Q E→vs.length=ps.length)
   (hbody:∀ (cdv:Value) (A:Around) (outer:List Env) (s:Shared) (H:Hp) (vs:List V) (Q:VK) (E:XK),Room k (A.deeper (envOfC qual (Zj st) s.heap.objs.size f cdv))→sp vs H Q E →
     ∃ t,PSs (Uk ZF P w K mg base N qual (Zj st) f cdv A outer s H E).nox (Xs st) t∧t { nx:=fun _ H'=>Q .non H',rt:=Q } (start N vs) H):FnOk P w K mg base ZF (k+1) f fd ps sp:=by
 obtain ⟨oc,od,kV,doc,pm,an,cdv,ct,osl,rfl,lk,hcd⟩:=F.ex
 refine Zex lk hcd S len fun A outer s H vs Q E hr hsp=>?_
 obtain ⟨t,h,q⟩:=hbody cdv A outer s H vs Q E hr hsp
 exact ⟨t,h.nox,q⟩
theorem Fun.binds {x qual:Str}{st:Stmt}{f:Addr}{fd:FuncData}{ps:List Str}(F:Fun K x qual st f fd)
   (h:∀ (kV doc pm:Value) (an:Option Addr) (cdv ct:Value) (us:List Value),us.length=ps.length→bindArgs (PySem.W.fnOf x qual (VD st) (Xs st) (Zj st) .none kV doc pm an cdv ct) ⟨us,[]⟩=pure (ps.zip us)):Binds K fd ps []:=by
 obtain ⟨oc,od,kV,doc,pm,an,cdv,ct,osl,rfl,lk,hcd⟩:=F.ex
 exact .all (h kV doc pm an cdv ct)
end
theorem Zci {A:Around}{k:Nat}(hr:Room k A):A.units+1 < cLine:=Nat.lt_of_le_of_lt (Nat.add_le_add_left (by decide:1≤64) _) hr.units
theorem Zgu {n:Nat}(h:n≤1000):n < sizeLine:=Nat.lt_of_le_of_lt h (by decide)
section
variable {X:Cx}
theorem pv (i:Nat){x:Str}{pos:Pos}(hN:X.N[i]?=some x:=by rfl)(hv:Vis X.env.scope x:=by first | exact Or.inl rfl | exact Or.inr (Or.inl rfl) | exact Or.inr (Or.inr rfl))(hd:(x == ("__debug__":Str))=false:=by decide)
 (hcd:(x == ("__classdict__":Str))=false:=by decide):PE X (.Name x pos) (Vf i):=ZkF hN hv hd hcd
end
theorem ZB {A B:Prop}(h:B):if false=true then A else B:=by
 rw [if_neg Bool.false_ne_true]
 exact h
theorem ZK {A B:Prop}(h:A):if true=true then A else B:=by
 rw [if_pos rfl]
 exact h
theorem Xx {c A B:Prop}[Decidable c](h1:c→A)(h2:¬ c→B):if c then A else B:=by
 by_cases h:c
 · rw [if_pos h]
   exact h1 h
 · rw [if_neg h]
   exact h2 h
def Same (H H':Hp):Prop:=∀ b o,H b=some o→H' b=some o
theorem Same.refl (H:Hp):Same H H:=fun _ _ h=>h
theorem Same.trans {H H1 H2:Hp}(a:Same H H1)(b:Same H1 H2):Same H H2:=fun c o h=>b c o (a c o h)
end L2
namespace L2
open PySem PySem.Spec PyProof.Rows
section
variable {κ:Type}[DecidableEq κ]
def ZQ (kvs:List (κ×V))(k:κ):Option V:=(kvs.find? fun kv=>decide (kv.1=k)).map (·.2)
def YD (kvs:List (κ×V))(k:κ)(v:V):List (κ×V) :=
 if (kvs.any fun kv=>decide (kv.1=k))=true then kvs.map (fun kv=>if kv.1=k then (kv.1,v) else kv) else kvs++[(k,v)]
theorem Yx {p:κ×V}{r:List (κ×V)}{k:κ}(e:p.1=k):ZQ (p::r) k=some p.2:=by simp [ZQ,List.find?_cons,e]
theorem Yz {p:κ×V}{r:List (κ×V)}{k:κ}(e:¬ p.1=k):ZQ (p::r) k=ZQ r k:=by simp [ZQ,List.find?_cons,e]
theorem UR (k:κ):∀ kvs:List (κ×V),(kvs.any fun kv=>decide (kv.1=k))=(ZQ kvs k).isSome
 | []=>rfl
 | p::r=>by
   rw [List.any_cons]
   by_cases e:p.1=k
   · simp only [Yx e,decide_eq_true e,Bool.true_or,Option.isSome_some]
   · rw [Yz e,decide_eq_false e,Bool.false_or];exact UR k r
theorem ZcI (k j:κ)(y:V):∀ kvs:List (κ×V),ZQ (kvs.map fun kv=>if kv.1=k then (kv.1,y) else kv) j=(ZQ kvs j).map fun x=>if j=k then y else x
 | []=>rfl
 | p :: r=>by
   have ih:=ZcI k j y r
   rw [List.map_cons]
   by_cases h:p.1=k
   · rw [if_pos h]
     by_cases e:p.1=j
     · rw [Yx (p:=(p.1,y)) e,Yx e,Option.map_some,if_pos (e.symm.trans h)]
     · rw [Yz (p:=(p.1,y)) e,Yz e,ih]
   · rw [if_neg h]
     by_cases e:p.1=j
     · rw [Yx (p:=p) e,Yx e,Option.map_some,if_neg (fun z=>h (e.trans z))]
     · rw [Yz (p:=p) e,Yz e,ih]
theorem ZbC (k j:κ)(y:V):∀ kvs:List (κ×V),ZQ kvs k=none→ZQ (kvs++[(k,y)]) j=if j=k then some y else ZQ kvs j
 | [],_=>by
   by_cases e:k=j
   · rw [if_pos e.symm];exact Yx (p:=(k,y)) e
   · rw [if_neg (fun z=>e z.symm)];exact Yz (p:=(k,y)) e
 | p::r,hn=>by
   rw [List.cons_append]
   have hk:¬ p.1=k:=fun z=>by rw [Yx z] at hn;cases hn
   rw [Yz hk] at hn
   have ih:=ZbC k j y r hn
   by_cases e:p.1=j
   · rw [Yx e,Yx e,if_neg (fun z=>hk (e.trans z))]
   · rw [Yz e,Yz e,ih]
theorem WS (kvs:List (κ×V))(k j:κ)(y:V):ZQ (YD kvs k y) j=if j=k then some y else ZQ kvs j:=by
 unfold YD
 by_cases a:(kvs.any fun kv=>decide (kv.1=k))=true
 · rw [if_pos a,ZcI]
   rw [UR] at a
   by_cases e:j=k
   · obtain ⟨x,hx⟩:=Option.isSome_iff_exists.mp a
     rw [if_pos e,e,hx,Option.map_some,if_pos rfl]
   · rw [if_neg e]
     cases ZQ kvs j with
     | none=>rfl
     | some x=>rw [Option.map_some,if_neg e]
 · rw [if_neg a]
   refine ZbC k j y kvs ?_
   rw [UR] at a
   cases q:ZQ kvs k with
   | none=>rfl
   | some x=>rw [q] at a;exact (a rfl).elim
theorem XC (kvs:List (κ×V))(k:κ)(v:V):(YD kvs k v).length≤kvs.length+1:=by
 unfold YD
 split
 · rw [List.length_map];omega
 · rw [List.length_append,List.length_cons,List.length_nil];omega
theorem RelO.isSome_eq {o:Option V}{u:Option Value}(r:RelO o u):o.isSome=u.isSome:=by
 cases o with
 | none=>cases u with
   | none=>rfl
   | some _=>exact (show False from r).elim
 | some _=>cases u with
   | none=>exact (show False from r).elim
   | some _=>rfl
theorem RelO.getD {o:Option V}{u:Option Value}{d:V}{d':Value}(r:RelO o u)(rd:RelV d d'):RelV (o.getD d) (u.getD d'):=by
 cases o with
 | none=>cases u with
   | none=>exact rd
   | some _=>exact (show False from r).elim
 | some _=>cases u with
   | none=>exact (show False from r).elim
   | some _=>exact r
theorem KV.val {kvs:List (κ×V)}{vs:List (κ×Value)}(r:KV kvs vs)(k:κ):RelO (ZQ kvs k) (valueAt vs k):=by
 unfold KV at r
 induction r with
 | nil=>exact True.intro
 | @cons p q ps qs h t ih =>
   obtain ⟨h1,h2⟩:=h
   by_cases e:p.1=k
   · have e':q.1=k:=h1.symm.trans e
     have b:valueAt (q::qs) k=some q.2:=by simp [valueAt,List.find?_cons,e']
     rw [Yx e,b];exact h2
   · have e':¬ q.1=k:=fun z=>e (h1.trans z)
     have b:valueAt (q::qs) k=valueAt qs k:=by simp [valueAt,List.find?_cons,e']
     rw [Yz e,b];exact ih
theorem KV.any {kvs:List (κ×V)}{vs:List (κ×Value)}(r:KV kvs vs)(k:κ):(kvs.any fun kv=>decide (kv.1=k))=vs.any fun kv=>decide (kv.1=k):=by
 unfold KV at r
 induction r with
 | nil=>rfl
 | cons h t ih=>rw [List.any_cons,List.any_cons,ih,h.1]
theorem KV.repl {kvs:List (κ×V)}{vs:List (κ×Value)}(r:KV kvs vs)(k:κ){y:V}{u:Value}(ry:RelV y u) :
   KV (kvs.map fun kv=>if kv.1=k then (kv.1,y) else kv) (vs.map fun kv=>if kv.1=k then (kv.1,u) else kv):=by
 unfold KV at r ⊢
 induction r with
 | nil=>exact .nil
 | @cons p q ps qs h t ih =>
   rw [List.map_cons,List.map_cons]
   refine .cons ?_ ih
   obtain ⟨h1,h2⟩:=h
   by_cases e:p.1=k
   · rw [if_pos e,if_pos (h1.symm.trans e)];exact ⟨h1,ry⟩
   · rw [if_neg e,if_neg (fun z=>e (h1.trans z))];exact ⟨h1,h2⟩
theorem KV.put {kvs:List (κ×V)}{vs:List (κ×Value)}(r:KV kvs vs)(k:κ){y:V}{u:Value}(ry:RelV y u):KV (YD kvs k y) (stored vs k u):=by
 unfold YD stored
 rw [r.any k]
 by_cases e:(vs.any fun kv=>decide (kv.1=k))=true
 · rw [if_pos e,if_pos e];exact r.repl k ry
 · rw [if_neg e,if_neg e];exact Paired.snoc r ⟨rfl,ry⟩
theorem KV.length {kvs:List (κ×V)}{vs:List (κ×Value)}(r:KV kvs vs):kvs.length=vs.length:=Paired.length r
end
theorem ZaI {P:Program}{w:World}{k:Zl}{u:Value}(r:RelV (kV k) u):(ZI P w).is k u=true:=by
 cases k with
 | inl i=>obtain ⟨t,e⟩:=(show ∃ t,u=Value.int i t from r);subst e;exact Zdx P w i t
 | inr x=>obtain ⟨t,e⟩:=(show ∃ t,u=Value.str x t from r);subst e;exact VQ P w x t
theorem ZbF {P:Program}{w:World}:∀{ks:List Zl}{us:List Value},Vals (ks.map kV) us→ItemsAre (ZI P w) ks us
 | [],_,r=>by rw [List.map_nil] at r;cases r;exact .nil
 | k::ks,_,r=>by
   rw [List.map_cons] at r
   cases r with
   | cons h t=>exact .cons (ZaI h) (ZbF t)
abbrev KT (H:Hp):List (List Zl×V)→List (List Zl×Addr×Value)→Prop:=Paired fun p q=>p.1=q.1∧H q.2.1=some (.tup (p.1.map kV))∧RelV p.2 q.2.2
theorem KT.val {H:Hp}{kvs:List (List Zl×V)}{xs:List (List Zl×Addr×Value)}(r:KT H kvs xs)(k:List Zl):RelO (ZQ kvs k) ((atKey xs k).map (·.2)):=by
 induction r with
 | nil=>exact True.intro
 | @cons p q ps qs h t ih =>
   obtain ⟨h1,_,h2⟩:=h
   by_cases e:p.1=k
   · have e':q.1=k:=h1.symm.trans e
     have b:atKey (q::qs) k=some q.2:=by simp [atKey,List.find?_cons,e']
     rw [Yx e,b];exact h2
   · have e':¬ q.1=k:=fun z=>e (h1.trans z)
     have b:atKey (q::qs) k=atKey qs k:=by simp [atKey,List.find?_cons,e']
     rw [Yz e,b];exact ih
theorem KT.repl {H:Hp}{kvs:List (List Zl×V)}{xs:List (List Zl×Addr×Value)}(r:KT H kvs xs)(k:List Zl){y:V}{u:Value}(ry:RelV y u) :
   KT H (kvs.map fun kv=>if kv.1=k then (kv.1,y) else kv) (xs.map (putAt k u)):=by
 induction r with
 | nil=>exact .nil
 | @cons p q ps qs h t ih =>
   rw [List.map_cons,List.map_cons]
   refine .cons ?_ ih
   obtain ⟨h1,h2,h3⟩:=h
   unfold putAt
   by_cases e:p.1=k
   · rw [if_pos e,if_pos (h1.symm.trans e)];exact ⟨h1,h2,ry⟩
   · rw [if_neg e,if_neg (fun z=>e (h1.trans z))];exact ⟨h1,h2,h3⟩
theorem KT.put {H:Hp}{kvs:List (List Zl×V)}{xs:List (List Zl×Addr×Value)}(r:KT H kvs xs)(k:List Zl){b:Addr}{y:V}{u:Value}(hb:H b=some (.tup (k.map kV)))(ry:RelV y u) :
   KT H (YD kvs k y) (storedH xs k b u):=by
 have e:(kvs.any fun kv=>decide (kv.1=k))=(atKey xs k).isSome:=by
   rw [UR,(r.val k).isSome_eq,Option.isSome_map]
 unfold YD storedH
 rw [e]
 by_cases q:(atKey xs k).isSome=true
 · rw [if_pos q,if_pos q];exact r.repl k ry
 · rw [if_neg q,if_neg q];exact Paired.snoc r ⟨rfl,hb,ry⟩
theorem KT.keeps {H H':Hp}{kvs:List (List Zl×V)}{xs:List (List Zl×Addr×Value)}(r:KT H kvs xs)(ht:∀ b ys,H b=some (.tup ys)→H' b=some (.tup ys)):KT H' kvs xs :=
 Paired.mapP r fun _ _ z=>⟨z.1,ht _ _ z.2.1,z.2.2⟩
section
variable {P:Program}{w:World}{H:Hp}{h:Heap}{a:Addr}
theorem Zit {u:HO}(ok:HOk P w H h)(e:Rd H a u):ObjOk P w H h a u:=e.ok ok
theorem ZbY {kvs:List (Zl×V)}(ok:HOk P w H h)(e:Rd H a (.dK kvs)):kvs.length≤sizeLine∧(a == sysModules)=false∧∃ vs,KV kvs vs∧h.DictOf (ZI P w) a vs :=
 show ObjOk P w H h a (.dK kvs) from Zit ok e
theorem ZbZ {kvs:List (Zl×V)}(ok:HOk P w H h)(e:H a=some (.dK kvs)):kvs.length≤sizeLine∧(a == sysModules)=false∧∃ vs,KV kvs vs∧h.DictOf (ZI P w) a vs:=ZbY ok (.inl e)
theorem ZaQ {ks:List Zl}(ok:HOk P w H h)(e:H a=some (.tup (ks.map kV))):(tupleKind (ZI P w)).is h ks a:=by
 obtain ⟨_,its,r,o,h1,h2,n,h3⟩:=(show ObjOk P w H h a (.tup (ks.map kV)) from ok a _ e)
 exact ⟨o,its.toArray,n,h1,h2,h3,by simpa using ZbF r⟩
theorem Zck {kvs:List (List Zl×V)}(ok:HOk P w H h)(e:Rd H a (.dT kvs)):kvs.length≤sizeLine∧(a == sysModules)=false ∧
   ∃ xs,KT H kvs xs∧h.DictOfH (tupleKind (ZI P w)) a xs:=by
 obtain ⟨z,y,xs,r,o,es,ep,h1,h2,h3,h4,h5⟩:=(show ObjOk P w H h a (.dT kvs) from Zit ok e)
 refine ⟨z,y,xs,r,o,es,ep,h1,h2,h3,h4,fun x hx=>?_,h5⟩
 have all:∀ {l:List (List Zl×V)} {m:List (List Zl×Addr×Value)},KT H l m→∀ x∈m,(tupleKind (ZI P w)).is h x.1 x.2.1:=by
   intro l m q
   induction q with
   | nil=>intro x hx;exact nomatch hx
   | @cons p q ps qs hq t ih =>
     intro x hx
     rcases List.mem_cons.mp hx with e | hx
     · subst e
       exact ZaQ ok (by rw [← hq.1];exact hq.2.1)
     · exact ih x hx
 exact all r x hx
theorem ZmC {kvs:List (List Zl×V)}(ok:HOk P w H h)(e:H a=some (.dT kvs)):kvs.length≤sizeLine∧(a == sysModules)=false ∧
 ∃ xs,KT H kvs xs∧h.DictOfH (tupleKind (ZI P w)) a xs:=Zck ok (.inl e)
end
def DGet (H:Hp)(a:Addr)(y:V)(r:Option V):Prop :=
 (∃ kvs k,Rd H a (.dK kvs)∧y=kV k∧r=ZQ kvs k)∨∃ kvs k b,Rd H a (.dT kvs)∧y=.ref b∧H b=some (.tup (k.map kV))∧r=ZQ kvs k
def DPut (H:Hp)(a:Addr)(y v:V)(H':Hp):Prop :=
 (∃ kvs k,H a=some (.dK kvs)∧y=kV k∧kvs.length < sizeLine∧H'=upd H a (.dK (YD kvs k v))) ∨
 ∃ kvs k b,H a=some (.dT kvs)∧y=.ref b∧H b=some (.tup (k.map kV))∧kvs.length < sizeLine∧H'=upd H a (.dT (YD kvs k v))
theorem DGet.k {H:Hp}{a:Addr}{kvs:List (Zl×V)}{k:Zl}(e:H a=some (.dK kvs)):DGet H a (kV k) (ZQ kvs k):=.inl ⟨kvs,k,.inl e,rfl,rfl⟩
theorem DPut.k {H:Hp}{a:Addr}{kvs:List (Zl×V)}{k:Zl}{v:V}(e:H a=some (.dK kvs))(hl:kvs.length < sizeLine):DPut H a (kV k) v (upd H a (.dK (YD kvs k v))):=.inl ⟨kvs,k,e,rfl,hl,rfl⟩
section
variable {X:Cx}{pins:List (Addr×Obj)}{σ:St}{H:Hp}{s:Shared}{a:Addr}{y v:V}{u r:Value}{o:Option V}{A:Around}{E:Value→Shared→Prop}
theorem Inv.big (I:Inv X pins σ H s):sysModules < s.heap.objs.size:=by
 have h:mainGlobals < s.heap.objs.size:=(I.mod.glob.keeps I.bk).lt
 exact Nat.lt_trans (by decide) h
theorem Zjy {Q:Value→Shared→Prop}(hu:A.units+1 < cLine)(I:Inv X pins σ H s)(g:DGet H a y o)(ry:RelV y u)(h:∀ s',Inv X pins σ H s'→Q (.bool (!o.isSome)) s') :
   wpAny (model X.prog X.w) A (compareOp .NotIn u (.ref a)) Q E s:=by
 rcases g with ⟨kvs,k,e,ey,l⟩ | ⟨kvs,k,b,e,ey,eb,l⟩
 · subst ey
   obtain ⟨z,hd,vs,rel,dd⟩:=ZbY I.hok e
   refine wpAny_notIn_of (ZaI ry) hd dd.mapOf ?_
   rw [← (rel.val k).isSome_eq,← l]
   exact h _ (I.tok _)
 · subst ey
   cases (show u=Value.ref b from ry)
   obtain ⟨z,hd,xs,rel,dd⟩:=Zck I.hok e
   refine wpAny_notIn_heap (tupleKind_room_in1 hu) (ZaQ I.hok eb) hd dd ?_
   have q:=(rel.val k).isSome_eq
   rw [Option.isSome_map] at q
   rw [← q,← l]
   exact h _ (I.tok _)
theorem Zbq {h':Heap}{t':Nat}{ob:HO}(I:Inv X pins σ H s)(mu:Mut (H a))(hs:Heap.SameBut a s.heap h')(he:∃ q,h'.get? a=some q)(new:ObjOk X.prog X.w (upd H a ob) h' a ob) :
   Inv X pins σ (upd H a ob) { s with heap:=h',toks:=t' } :=
 I.write (x:=a) (e:=a) mu (.inl rfl) (fun b q hb z=>(hs.2 b hb).trans z) he new
theorem Zgo {P:Program}{w:World}{H':Hp}{h':Heap}{kvs:List (Zl×V)}{vs:List (Zl×Value)}(z:kvs.length≤sizeLine)(hd:(a == sysModules)=false)(rel:KV kvs vs)(dd:h'.DictOf (ZI P w) a vs) :
 ObjOk P w H' h' a (.dK kvs):=⟨z,hd,vs,rel,dd⟩
theorem Zgy {H':Hp}{Q:Unit→Shared→Prop}(hu:A.units+1 < cLine)(I:Inv X pins σ H s)(g:DPut H a y v H')(ry:RelV y u)(rv:RelV v r)(h:∀ s',Inv X pins σ H' s'→Q () s') :
   wpAny (model X.prog X.w) A (setItem (.ref a) u r) Q E s:=by
 rcases g with ⟨kvs,k,e,ey,l,eH⟩ | ⟨kvs,k,b,e,ey,eb,l,eH⟩
 · subst ey eH
   obtain ⟨z,hd,vs,rel,dd⟩:=ZbZ I.hok e
   have hz:vs.length≤sizeLine:=by rw [← rel.length];exact z
   have hl:(YD kvs k v).length≤sizeLine:=by have:=XC kvs k v;omega
   refine wpAny_setItem_pairs (hsz:=hz) (ZaI ry) dd fun h' dd' hs=>h _ ?_
   have he:∃ q,h'.get? a=some q:=let ⟨q,_,_,hq,_⟩:=dd';⟨q,hq⟩
   exact Zbq I (by rw [e];exact True.intro) hs he (Zgo hl hd (rel.put k rv) dd')
 · subst ey eH
   cases (show u=Value.ref b from ry)
   obtain ⟨z,hd,xs,rel,dd⟩:=ZmC I.hok e
   have hz:xs.length≤sizeLine:=by rw [← Paired.length rel];exact z
   have hl:(YD kvs k v).length≤sizeLine:=by have:=XC kvs k v;omega
   refine wpAny_setItem_heap (hsz:=hz) (tupleKind_room_in1 hu) (ZaQ I.hok eb) dd fun h' dd' hs=>h _ ?_
   obtain ⟨q,es,ep,hq,h2,h3,h4,_,h5⟩:=dd'
   refine Zbq I (by rw [e];exact True.intro) hs ⟨q,hq⟩ ⟨hl,hd,_,(rel.put k eb rv).keeps fun c ys ec=>?_,q,es,ep,hq,h2,h3,h4,h5⟩
   rw [Zh (Zbe ec e (fun z=>nomatch z))]
   exact ec
end
section
variable {X:Cx}{pins:List (Addr×Obj)}{σ:St}{H:Hp}{s:Shared}{a:Addr}{kvs:List (Zl×V)}{k:Zl}{u:Value}{A:Around}{E:Value→Shared→Prop}
end
def ZjM (ty td:TE):TE:=fun σ H Q=>ty σ H fun y H1=>td σ H1 fun x H2=>∃ a o,x=.ref a∧DGet H2 a y o∧Q (.bl (!o.isSome)) H2
def Zms (td ty tv:TE):TS:=fun D σ H=>tv σ H fun v H1=>td σ H1 fun x H2=>ty σ H2 fun y H3=>∃ a H4,x=.ref a∧DPut H3 a y v H4∧D.nx σ H4
section
variable {X:Cx}{o i e value:Expr}{pos pos' tpos:Pos}{td ty tv:TE}
theorem ZgG (hu:X.A.units+1 < cLine)(hi:PE X i ty)(ho:PE X o td):PC X .NotIn i o (ZjM ty td):=by
 intro pins s σ H Q I h
 refine Zr (hi pins s σ H _ I h) fun iv s1 ⟨y,H1,I1,ry,q1⟩=>Zr (ho pins s1 σ H1 _ I1 q1) fun u s2 ⟨x,H2,I2,rx,a,ov,ex,g,q2⟩=>?_
 subst ex
 obtain rfl:u=Value.ref a:=rx
 exact Zjy hu I2 g ry fun s3 I3=>⟨.bl (!ov.isSome),H2,I3,rfl,q2⟩
theorem ZdM (hu:X.A.units+1 < cLine)(ho:PE X o td)(hi:PE X i ty)(hv:PE X value tv)(hs:swapsWith value (some (.Subscript o i pos')) pos.line X.env=pure false) :
   PS X (.Assign [.Subscript o i pos'] value pos) (Zms td ty tv):=by
 intro pins s σ H D I h
 refine wpAny_Assign_Subscript (Zr (hv pins s σ H _ I h) fun r s1 ⟨v,H1,I1,rv,q1⟩=>Zr (ho pins s1 σ H1 _ I1 q1) fun u s2 ⟨x,H2,I2,rx,q2⟩=>Zr (hi pins s2 σ H2 _ I2 q2) fun iv s3 ⟨y,H3,I3,ry,a,H4,ex,g,q3⟩=>?_) hs
 subst ex
 obtain rfl:u=Value.ref a:=rx
 exact Zgy hu I3 g ry rv fun s4 I4=>⟨σ,H4,I4,q3⟩
end
theorem Zid {P:Program}{w:World}{H:Hp}(h:Heap)(hb:sysModules < h.objs.size):ObjOk P w H (h.push { cls:=.type "dict",data:=.dict #[] }) h.objs.size (.dK []) :=
 ⟨Nat.zero_le _,beq_eq_false_iff_ne.mpr (Ne.symm (Nat.ne_of_lt hb)),[],.nil,Heap.DictOf.new h⟩
section
variable {X:Cx}{pos:Pos}
end
def Zco:List (TE×TE)→St→Hp→(List (V×V)→Hp→Prop)→Prop
 | [],_,H,Q=>Q [] H
 | (tk,tv)::r,σ,H,Q=>tk σ H fun x H1=>tv σ H1 fun y H2=>Zco r σ H2 fun ps H3=>Q ((x,y)::ps) H3
abbrev VV:List (V×V)→List (Value×Value)→Prop:=Paired fun p q=>RelV p.1 q.1∧RelV p.2 q.2
def PPs (X:Cx)(pos:Pos)(keys:List (Option Expr))(values:List Expr)(trs:List (TE×TE)):Prop :=
 ∀ (pins:List (Addr×Obj)) (s:Shared) (σ:St) (H:Hp) (Q:List (V×V)→Hp→Prop),Inv X pins σ H s→Zco trs σ H Q →
   wpAny (model X.prog X.w) X.A (evalPairs (pairTrees keys values X.env pos)) (fun vs s'=>∃ ps H',Inv X pins σ H' s'∧VV ps vs∧Q ps H') X.xe s
theorem Zkj {X:Cx}{pos:Pos}:PPs X pos [] [] []:=fun pins s σ H Q I h=>pairTrees_nil_walk ⟨[],H,I,.nil,h⟩
theorem ZgS {X:Cx}{pos:Pos}{k v:Expr}{ks:List (Option Expr)}{vs:List Expr}{tk tv:TE}{trs:List (TE×TE)}(hk:PE X k tk)(hv:PE X v tv)(hr:PPs X pos ks vs trs) :
   PPs X pos (some k::ks) (v::vs) ((tk,tv)::trs):=fun pins s σ H Q I h =>
 pairTrees_cons_walk (Zr (hk pins s σ H _ I h) fun u s1 ⟨x,H1,I1,rx,q1⟩=>Zr (hv pins s1 σ H1 _ I1 q1) fun w2 s2 ⟨y,H2,I2,ry,q2⟩ =>
   Zr (hr pins s2 σ H2 _ I2 q2) fun ws s3 ⟨ps,H3,I3,rel,q3⟩=>⟨(x,y)::ps,H3,I3,.cons ⟨rx,ry⟩ rel,q3⟩)
def Ve (kvs more:List (Zl×V)):List (Zl×V):=more.foldl (fun acc kv=>YD acc kv.1 kv.2) kvs
theorem KV.merge:∀{more:List (Zl×V)}{rs:List (Zl×Value)}{kvs:List (Zl×V)}{vs:List (Zl×Value)},KV more rs→KV kvs vs→KV (Ve kvs more) (merged vs rs):=by
 intro more rs kvs vs r
 unfold KV at r
 induction r generalizing kvs vs with
 | nil=>intro q;exact q
 | @cons p q ps qs h t ih =>
   intro r0
   have e:KV (YD kvs p.1 p.2) (stored vs q.1 q.2):=by
     have:=r0.put p.1 h.2
     rw [← h.1];exact this
   exact ih e
theorem Vc:∀(more kvs:List (Zl×V)),(Ve kvs more).length≤kvs.length+more.length
 | [],kvs=>by show kvs.length≤kvs.length+0;omega
 | p::r,kvs=>by
   have h1:=Vc r (YD kvs p.1 p.2)
   have h2:=XC kvs p.1 p.2
   show (Ve (YD kvs p.1 p.2) r).length≤_
   rw [List.length_cons];omega
theorem ZaS {P:Program}{w:World}:∀{kvs:List (Zl×V)}{ws:List (Value×Value)},VV (kvs.map fun kv=>(kV kv.1,kv.2)) ws→∃ rs,Carries (ZI P w) ws rs∧KV kvs rs
 | [],_,r=>by rw [List.map_nil] at r;cases r;exact ⟨[],True.intro,.nil⟩
 | p :: kvs,_,r=>by
   rw [List.map_cons] at r
   cases r with
   | @cons a b as bs h t =>
     obtain ⟨rs,c,q⟩:=ZaS (P:=P) (w:=w) t
     obtain ⟨b1,b2⟩:=b
     exact ⟨(p.1,b2)::rs,⟨ZaI h.1,rfl,c⟩,.cons ⟨rfl,h.2⟩ q⟩
def Zma (trs:List (TE×TE)):TE:=fun σ H Q=>∀ p,H p=none→Zco trs σ (upd H p (.dK [])) fun ps H2=>H2 p=some (.dK [])∧∃ kvs:List (Zl×V),ps=kvs.map (fun kv=>(kV kv.1,kv.2))∧kvs.length≤15∧Q (.ref p) (upd H2 p (.dK (Ve [] kvs)))
theorem Zjv {X:Cx}{pos:Pos}{keys:List (Option Expr)}{values:List Expr}{trs:List (TE×TE)}(h:PPs X pos keys values trs)(hall:keys.all (·.isSome)=true)(hl:keys.length=values.length)(h0:keys≠[])
   (h15:keys.length≤15):PE X (.Dict keys values pos) (Zma trs):=by
 intro pins s σ H Q I q
 have hn:=I.hok.fresh (Nat.le_refl s.heap.objs.size)
 have I1:=I.laid (a:=s.heap.objs.size) (o:=.dK []) (h':=s.heap.push { cls:=.type "dict",data:=.dict #[] }) (t':=s.toks) (fun _ _ q=>Heap.get?_push_of_some _ q) (Nat.le_refl _) (Zid s.heap I.big)
 refine wpAny_Dict_walk (knd:=ZI X.prog X.w) hall hl h0 h15 (Zr (h pins _ σ _ _ I1 (q _ hn)) fun ws s2 ⟨ps,H2,I2,rel,e,kvs,ep,lk,q2⟩=>?_)
 subst ep
 obtain ⟨rs,c,rk⟩:=ZaS (P:=X.prog) (w:=X.w) rel
 obtain ⟨z,hd,vs0,r0,dd⟩:=ZbZ I2.hok e
 cases r0
 refine ⟨rs,c,dd,fun h' dd' hs=>⟨.ref s.heap.objs.size,_,?_,rfl,q2⟩⟩
 have hz:(Ve [] kvs).length≤sizeLine:=by
   have h1:=Vc kvs []
   rw [List.length_nil] at h1
   rw [sizeLine_eq];omega
 have he:∃ q,h'.get? s.heap.objs.size=some q:=let ⟨q,_,_,hq,_⟩:=dd';⟨q,hq⟩
 exact Zbq I2 (by rw [e];exact True.intro) hs he (Zgo hz hd (rk.merge .nil) dd')
structure M1 (X:Cx)(o:Expr)(m:Str)(apos:Pos)(e:Expr)(cpos:Pos):Prop where
 base:attributeBase o m X.env (eval o X.env)=eval o X.env
 few:((backTo cpos (starEach [e] X.env)).all (fun x=>!x.1)&&(backToKw cpos (keywordEach [] X.env)).all (fun x=>x.1.isSome)
   && decide (([e]:List Expr).length+([]:List Keyword).length+(if ([]:List Keyword).isEmpty then 0 else 1) < 30))=true
 line:(apos.endLine == cpos.line)=true
 trees:backTo cpos (starEach [e] X.env)=[(false,eval e X.env)]
def IsD (H:Hp)(a:Addr):Prop:=(∃ kvs,Rd H a (.dK kvs))∨∃ kvs,Rd H a (.dT kvs)
theorem Zks {X:Cx}{pins:List (Addr×Obj)}{σ:St}{H:Hp}{s:Shared}{a:Addr}(I:Inv X pins σ H s)(d:IsD H a) :
   s.TypeIs (.ref a) "dict"∧(∀ b,Value.ref a=.ref b→∃ ob,s.heap.get? b=some ob∧ob.dict=none)∧(a == sysModules)=false:=by
 rcases d with ⟨kvs,e⟩ | ⟨kvs,e⟩
 · obtain ⟨_,hd,vs,_,dd⟩:=ZbY I.hok e
   refine ⟨dd.typeIs,fun b q=>?_,hd⟩
   cases q
   obtain ⟨ob,_,_,h1,h2,_⟩:=dd
   exact ⟨ob,h1,h2.2.1⟩
 · obtain ⟨_,hd,xs,_,dd⟩:=Zck I.hok e
   refine ⟨dd.typeIs,fun b q=>?_,hd⟩
   cases q
   obtain ⟨ob,_,_,h1,h2,_⟩:=dd
   exact ⟨ob,h1,h2.2.1⟩
section
variable {X:Cx}{pins:List (Addr×Obj)}{σ:St}{H:Hp}{s:Shared}{a:Addr}{y d:V}{u r:Value}{o:Option V}{A:Around}{E:Value→Shared→Prop}
theorem ZkU {Q:Value→Shared→Prop}(hu:A.units+1 < cLine)(I:Inv X pins σ H s)(g:DGet H a y o)(ry:RelV y u)(h:∀ w' s',Inv X pins σ H s'→RelV (o.getD .non) w'→Q w' s') :
   wpAny (model X.prog X.w) A (call (.builtin "dict.get") [.ref a,u]) Q E s:=by
 rcases g with ⟨kvs,k,e,ey,l⟩ | ⟨kvs,k,b,e,ey,eb,l⟩
 · subst ey
   obtain ⟨z,hd,vs,rel,dd⟩:=ZbY I.hok e
   refine call_meetsIn PySem.F.slot_dict_get dd.typeIs PySem.F.entry_dict_get (PySem.F.args_dict_get_2 _ _) (meets_dict_get (ZI X.prog X.w) a (ZaI ry) hd) ⟨_,dd.mapOf,h _ _ (I.tok _) ?_⟩
   rw [l]
   exact (rel.val k).getD rfl
 · subst ey
   cases (show u=Value.ref b from ry)
   obtain ⟨z,hd,xs,rel,dd⟩:=Zck I.hok e
   refine call_meetsIn PySem.F.slot_dict_get dd.typeIs PySem.F.entry_dict_get (PySem.F.args_dict_get_2 _ _) (meetsH_dict_get (tupleKind (ZI X.prog X.w)) a b hd) ⟨tupleKind_room_in1 hu,k,xs,ZaQ I.hok eb,dd,h _ _ (I.tok _) ?_⟩
   rw [l]
   exact (rel.val k).getD rfl
end
def ZlJ (td ty:TE):TE:=fun σ H Q=>td σ H fun x H1=>∃ a,x=.ref a∧IsD H1 a∧ty σ H1 fun y H2=>∃ o,DGet H2 a y o∧Q (o.getD .non) H2
section
variable {X:Cx}{o e f:Expr}{apos cpos:Pos}{td ty tx:TE}
theorem ZgZ (hu:X.A.units+1 < cLine)(ho:PE X o td)(he:PE X e ty)(m:M1 X o "get" apos e cpos):PE X (.Call (.Attribute o "get" apos) [e] [] cpos) (ZlJ td ty):=by
 intro pins s σ H Q I h
 refine wpAny_Call_method m.base m.few m.line PySem.F.plainAttrs_dict PySem.F.slot_dict_get PySem.F.type_dict_get (Zr (ho pins s σ H _ I h) fun u s1 ⟨x,H1,I1,rx,a,ex,d,q1⟩=>?_)
 subst ex
 obtain rfl:u=Value.ref a:=rx
 obtain ⟨t1,t2,_⟩:=Zks I1 d
 refine ⟨t1,t2,?_⟩
 rw [m.trees]
 refine Calls.callWith_builtin rfl (Calls.evalArgs_plain (Calls.spliced_cons (Zr (he pins s1 σ H1 _ I1 q1) fun iv s2 ⟨y,H2,I2,ry,ov,g,q2⟩=>Calls.spliced_nil ?_)))
 exact ZkU hu I2 g ry fun w' s3 I3 rw'=>⟨_,H2,I3,rw',q2⟩
end
section
variable {X:Cx}{pins:List (Addr×Obj)}{σ:St}{H:Hp}{s:Shared}{a:Addr}{kvs:List (Zl×V)}{A:Around}{E:Value→Shared→Prop}
end
section
variable {X:Cx}{pins:List (Addr×Obj)}{σ:St}{H:Hp}{s:Shared}{a:Addr}{y:V}{u:Value}{A:Around}{E:Value→Shared→Prop}
end
end L2
namespace L2
open PySem PySem.Spec PyProof.Rows
section
variable {κ:Type}[DecidableEq κ]
end
end L2
namespace L2
open PySem PySem.Spec PyProof.Rows
theorem Vz {env:Env}(y:Str):∀ names:List (Str×NameKind),
   (names.map fun (n,k)=>if (k == NameKind.free&&env.scope.kind == .function&&env.kindOf n == some .cell) then (n,NameKind.cell) else (n,k)).lookup y =
     (names.lookup y).map fun k=>if (k == NameKind.free&&env.scope.kind == .function&&env.kindOf y == some .cell) then NameKind.cell else k
 | []=>rfl
 | (n, k)::r=>by
   have ih:=Vz (env:=env) y r
   rw [List.map_cons]
   cases hx:y == n with
   | true =>
     have e:y=n:=by simpa using hx
     subst e
     by_cases hc:(k == NameKind.free&&env.scope.kind == .function&&env.kindOf y == some .cell)=true
     · simp only [hc,if_true,List.lookup_cons,beq_self_eq_true,Option.map_some]
     · simp only [hc,List.lookup_cons,beq_self_eq_true,Option.map_some]
       simp [hc]
   | false =>
     by_cases hc:(k == NameKind.free&&env.scope.kind == .function&&env.kindOf n == some .cell)=true
     · simp only [hc,if_true,List.lookup_cons,hx];exact ih
     · simp only [hc,List.lookup_cons,hx,Bool.false_eq_true,if_false];exact ih
theorem Zs {scope:Scope}{env:Env}{y:Str}{k:NameKind}(hcell:∀ z∈scope.names,z.2≠.cell)(h:(relabel scope env).names.lookup y=some k) :
   scope.names.lookup y=some k∨(scope.names.lookup y=some .free∧k=.cell):=by
 unfold relabel at h
 rw [Vz] at h
 cases e:scope.names.lookup y with
 | none=>rw [e] at h;cases h
 | some k0 =>
   rw [e] at h
   simp only [Option.map_some,Option.some.injEq] at h
   by_cases hc:(k0 == NameKind.free&&env.scope.kind == .function&&env.kindOf y == some .cell)=true
   · rw [if_pos hc] at h
     right
     simp only [Bool.and_eq_true,beq_iff_eq] at hc
     exact ⟨by rw [hc.1.1],h.symm⟩
   · rw [if_neg hc] at h
     left;rw [h]
theorem mem_of_lookup {α:Type}{y:Str}{k:α}:∀{l:List (Str×α)},l.lookup y=some k→(y,k)∈l
 | [],h=>by cases h
 | (n,z)::r,h=>by
   cases hx:y == n with
   | true =>
     have e:y=n:=by simpa using hx
     subst e
     simp only [List.lookup_cons,beq_self_eq_true] at h
     cases h
     exact List.mem_cons_self
   | false =>
     simp only [List.lookup_cons,hx] at h
     exact List.mem_cons_of_mem _ (mem_of_lookup h)
theorem UG {env:Env}:∀(names:List (Str×NameKind))(c0:List (Str×Addr)),(∀ y∈names,y.2=.free→∃ c,env.cells.lookup y.1=some c) →
   ∃ cl:List (Str×Addr),(forIn names c0 fun (x:Str×NameKind) (r:List (Str×Addr))=>(if x.2 == NameKind.free then (do let a ← cellOf env x.1;pure (ForInStep.yield ((x.1,a)::r))) else pure (ForInStep.yield r):Sem (ForInStep (List (Str×Addr)))))=pure cl ∧
     (∀ y c,cl.lookup y=some c→c0.lookup y=some c∨env.cells.lookup y=some c)∧(∀ y,c0.lookup y≠none→cl.lookup y≠none)∧∀ y∈names,y.2=.free→cl.lookup y.1≠none
 | [],c0,_=>⟨c0,rfl,fun _ _ h=>.inl h,fun _ h=>h,fun _ h=>(nomatch h)⟩
 | (n, k)::r,c0,h=>by
   by_cases hk:k=.free
   · subst hk
     obtain ⟨c,hc⟩:=h (n,.free) List.mem_cons_self rfl
     obtain ⟨cl,e,g1,g2,g3⟩:=UG r ((n,c)::c0) fun y hy=>h y (List.mem_cons_of_mem _ hy)
     refine ⟨cl,?_,?_,?_,?_⟩
     · rw [List.forIn_cons]
       have hcell:cellOf env n=pure c:=by unfold cellOf;rw [hc]
       simp only [beq_self_eq_true,if_true,hcell,pure_bind]
       exact e
     · intro y d q
       rcases g1 y d q with q | q
       · cases hx:y == n with
         | true =>
           have e':y=n:=by simpa using hx
           subst e'
           simp only [List.lookup_cons,beq_self_eq_true] at q
           cases q
           exact .inr hc
         | false=>simp only [List.lookup_cons,hx] at q;exact .inl q
       · exact .inr q
     · intro y q
       apply g2
       cases hx:y == n with
       | true=>simp [List.lookup_cons,hx]
       | false=>simpa [List.lookup_cons,hx] using q
     · intro y hy hf
       rcases List.mem_cons.mp hy with e' | hy
       · subst e'
         apply g2
         simp [List.lookup_cons]
       · exact g3 y hy hf
   · obtain ⟨cl,e,g1,g2,g3⟩:=UG r c0 fun y hy=>h y (List.mem_cons_of_mem _ hy)
     refine ⟨cl,?_,g1,g2,?_⟩
     · rw [List.forIn_cons]
       have hb:(k == NameKind.free)=false:=by simpa using hk
       simp only [hb,Bool.false_eq_true,if_false,pure_bind]
       exact e
     · intro y hy hf
       rcases List.mem_cons.mp hy with e' | hy
       · subst e';exact absurd hf hk
       · exact g3 y hy hf
theorem XX {scope:Scope}{env:Env}(h:∀ y∈scope.names,y.2=.free→∃ c,env.cells.lookup y.1=some c) :
   ∃ cl,closureFor scope env=pure cl∧(∀ y c,cl.lookup y=some c→env.cells.lookup y=some c)∧∀ y∈scope.names,y.2=.free→cl.lookup y.1≠none:=by
 obtain ⟨cl,e,g1,_,g3⟩:=UG (env:=env) scope.names [] h
 refine ⟨cl,?_,fun y c q=>(g1 y c q).elim (fun z=>by cases z) fun z=>z,g3⟩
 simp only [closureFor]
 rw [← bind_pure (pure cl:Sem _),← e]
def Ub (N:List Str)(x:Str):List Str:=N.map fun y=>if y=x then "" else y
theorem XL (N:List Str)(x:Str):(Ub N x).length=N.length:=List.length_map ..
theorem VI {N:List Str}{x y:Str}{i:Nat}(h:(Ub N x)[i]?=some y):(N[i]?=some y∧y≠x)∨y="":=by
 unfold Ub at h
 rw [List.getElem?_map] at h
 cases e:N[i]? with
 | none=>rw [e] at h;cases h
 | some z =>
   rw [e] at h
   have h:(if z=x then ("":Str) else z)=y:=Option.some.inj h
   by_cases q:z=x
   · rw [if_pos q] at h;exact .inr h.symm
   · rw [if_neg q] at h;subst h;exact .inl ⟨rfl,q⟩
def ZW (X:Cx)(scope:Scope)(x:Str)(cl:List (Str×Addr))(C:Addr)(s₀:Shared)(H₀:Hp)(fp:List Addr):Cx :=
 { prog:=X.prog,w:=X.w,K:=X.K,mg:=X.mg,base:=X.base,A:=X.A,N:=Ub X.N x++[x],s₀:=s₀,H₀:=H₀,env:=compEnvC scope cl C X.env,outer:=X.stack,stack:=X.stack,
   ex:=fp,fn:=fun _=>false,calm:=X.calm,pn:=[],xe:=fun _ _=>False }
def VE (J:It)(te:TE)(σ:St)(D:Addr)(Q:VK)(H1:Hp):Prop :=
 ∃ W:Nat→Nat→List V→Hp→Prop,(∃ m,W 0 m [] (upd H1 D (.lst [])))∧∀ i m ys H2,W i m ys H2 →
   (J.stop i H2∧Q (.ref D) H2)∨(J.go i H2∧∃ N:VK,(∀ y H4,N y H4→H4 D=some (.lst ys)∧ys.length < sizeLine∧∃ m',m' < m∧W (i+1) m' (ys++[y]) (upd H4 D (.lst (ys++[y]))))∧∀ v H3,J.yld i H2 v H3→te (σ++[some v]) H3 N)
def Zix (wi:TI)(te:TE):TE:=fun σ H Q=>wi σ H fun J H1=>∀ D,H1 D=none→VE J te σ D Q H1
section
variable {X:Cx}{elt iter:Expr}{x:Str}{px pos:Pos}{scope:Scope}{wi:TI}{te:TE}
theorem Wa {prog:Program}{w:World}{A:Around}{R:Result→Shared→Prop}{s:Shared}{elt target iter:Expr}{scope:Scope}{pos:Pos}{it acc:Value}{env:Env}(I:Nat→Shared→Prop)
   (turn : ∀ n s,I n s→wpAny (model prog w) A (pyNext it) (fun r s₁=>match r with
     | none=>R (.ok .next) s₁
     | some v=>wpAny (model prog w) A (letOwnedTupleGo target it v) (fun _ s1'=>wpAny (model prog w) A (assign target env v) (fun _ s₂=>wpAny (model prog w) A (eval elt env) (fun x s₃ =>
         wpAny (model prog w) A (call (.builtin "list.append") [acc,x]) (fun _ s₄=>∃ m,m < n∧I m s₄) (fun _ _=>False) s₃)
         (fun _ _=>False) s₂) (fun _ _=>False) s1') (fun _ _=>False) s₁) (fun _ _=>False) s)
   (n:Nat) (h:I n s) :
   codeAny (model prog w) A (.compLoop (.ListComp elt [⟨target,iter,[],0⟩] scope pos) 0 it acc env) R s:=by
 refine codeAny_loop rfl I (fun n s hI=>?_) n h
 show wpAny _ _ ((compTurn (.ListComp elt [⟨target,iter,[],0⟩] scope pos) 0 it acc env).onRaise (fun x=>do noteFrame x env;theTreesLotGoes x)) _ _ s
 refine wpAny_noted ?_
 rw [compTurn_list1]
 refine wpAny_bind (wpAny_standAt (wpAny_bind (wpAny_mono (turn n s hI) (fun r s₁ h₁=>?_) fun _ _ h'=>h'.elim)))
 cases r with
 | none=>exact wpAny_pure h₁
 | some v =>
   refine wpAny_bind (wpAny_mono h₁ (fun _ s1' h1'=>?_) fun _ _ h'=>h'.elim)
   exact wpAny_bind (wpAny_mono h1' (fun _ s₂ h₂=>wpAny_bind (wpAny_bind (wpAny_mono h₂ (fun x s₃ h₃=>wpAny_bind (wpAny_mono h₃
     (fun _ s₄ h₄=>wpAny_pure (wpAny_pure ⟨rfl,h₄⟩)) fun _ _ h'=>h'.elim)) fun _ _ h'=>h'.elim))) fun _ _ h'=>h'.elim)
structure CompOk (X:Cx)(scope:Scope)(x:Str):Prop where
 nd:(Ub X.N x++[x]).Nodup
 clos:∀ y∈scope.names,y.2=.free→X.env.kindOf y.1=some .cell∨X.env.kindOf y.1=some .free
 cell:∀ y∈scope.names,y.2≠.cell
 kind:scope.kind=.function
 names:∀ y∈scope.names,y.2=.local→scope.names.lookup y.1=some .local
 loc:scope.names.lookup x=some .local
 own:∀ y∈X.N,y≠x→scope.names.lookup y≠some .local
 noh:scope.names.lookup ("":Str)=none
theorem Zbf {pins:List (Addr×Obj)}{σ:St}{H2:Hp}{s₂:Shared}{J:It}{fp:List Addr}{it:Addr}{tn:Nat→Heap→Prop}{cl:List (Str×Addr)}{E:Value→Shared→Prop}{Q:VK}{RR:Value→Addr→Result→Shared→Prop}
   (O:CompOk X scope x) (hc:X.calm=true) (cl1:∀ y c,cl.lookup y=some c→X.env.cells.lookup y=some c) (cl2:∀ y∈scope.names,y.2=.free→cl.lookup y.1≠none)
   (he:∀ cl C s₀ H₀ fp,PE (ZW X scope x cl C s₀ H₀ fp) elt te)
   (I2:Inv X pins σ H2 s₂) (T:Um X.prog X.w X.K (.Name x px) J fp it tn) (st:tn 0 s₂.heap) (f2:∀ b∈fp,Yo X pins H2 b)
   (h:∀ D,H2 D=none→VE J te σ D Q H2)
   (hRR:∀ D C H' s',Inv X pins σ H' s'→Yo X pins H' C→(∃ m,s'.heap.Ns C m)→Q (.ref D) H'→RR (.ref D) C (.ok .next) s') :
   wpAny (model X.prog X.w) X.A (newList []) (fun acc s₃=>wpAny (model X.prog X.w) X.A (newFunctionEnv scope X.env.globals cl [] X.env.qual none .none (some X.env)) (fun cenv s₄ =>
     codeAny (model X.prog X.w) X.A (.compStart (.ListComp elt [⟨.Name x px,iter,[],0⟩] scope pos) 0 (.ref it) acc { cenv with scope:=relabel scope X.env }) (RR acc cenv.locals) s₄) E s₃) E s₂:=by
 have hD:H2 s₂.heap.objs.size=none:=I2.hok.fresh (Nat.le_refl _)
 refine wpAny_newObj_type ?_
 have I3:Inv X pins σ (upd H2 s₂.heap.objs.size (.lst [])) { s₂ with heap:=s₂.heap.push { cls:=.type "list",data:=.seq ([]:List Value).toArray } } :=
   I2.laid (t':=s₂.toks) (fun b u e=>Heap.get?_push_of_some _ e) (Nat.le_refl _) ⟨Nat.zero_le _,[],_,.nil,Heap.get?_push_size _ rfl⟩
 have f3:∀ b∈fp,Yo X pins (upd H2 s₂.heap.objs.size (.lst [])) b:=fun b hb=>by
   obtain ⟨g0,g1⟩:=f2 b hb
   obtain ⟨o,e,_⟩:=T.obj 0 _ st b hb
   exact ⟨by rw [Zh (Nat.ne_of_lt (Heap.lt_size e))];exact g0,g1⟩
 have st3:tn 0 (s₂.heap.push { cls:=.type "list",data:=.seq ([]:List Value).toArray }):=T.keep _ _ _ st fun b hb o e=>Heap.get?_push_of_some _ e
 obtain ⟨W,⟨m0,w0⟩,turn⟩:=h _ hD
 generalize hDe:s₂.heap.objs.size=D at I3 f3 w0 turn ⊢
 generalize hH3:upd H2 D (.lst [])=H3 at I3 f3 w0 turn ⊢
 generalize hs3:({ s₂ with heap:=s₂.heap.push { cls:=.type "list",data:=.seq ([]:List Value).toArray } }:Shared)=s₃ at I3
 have st3':tn 0 s₃.heap:=by rw [← hs3];exact st3
 have hobj:∀ b∈fp,b < s₃.heap.objs.size:=fun b hb=>by
   obtain ⟨o,e,_⟩:=T.obj 0 _ st3' b hb
   exact Heap.lt_size e
 refine wpAny_newFunctionEnv O.cell (by intro y hy;simp at hy) (fun h₁ hns₁ hsb₁=>?_) O.kind
 have old:∀ b o,s₃.heap.get? b=some o→h₁.get? b=some o:=fun b o e=>hsb₁.extBut b o (Nat.ne_of_lt (Heap.lt_size e)) (Heap.get?_push_of_some _ e)
 generalize hs4:({ s₃ with heap:=h₁,toks:=s₃.toks+([]:List (Str×Value)).length }:Shared)=s₄
 have h4:s₄.heap=h₁:=by rw [← hs4]
 have hX:∀ C,Yo X pins C s₃.heap.objs.size→True:=fun _ _=>trivial
 have ok':(ZW X scope x cl s₃.heap.objs.size s₃ H3 fp).Ok:=by
   refine ⟨I3.ok.mod,O.kind,I3.ok.glob,I3.ok.blt,Nat.le_refl _,?_,?_,?_,I3.ok.hd,I3.ok.frames,.inl rfl,?_,I3.bs,Nat.le_trans I3.ok.bsz I3.sz,?_,?_,I3.stack,I3.stkFree⟩
   · exact fun y z c e1 e2=>I3.ok.inj y z c (cl1 y c e1) (cl1 z c e2)
   · intro y hk
     have hf:scope.names.lookup y=some .free:=by
       rcases hk with hk | hk
       · rcases Zs O.cell hk with q | q
         · exact absurd rfl (O.cell _ (mem_of_lookup q))
         · exact q.1
       · rcases Zs O.cell hk with q | q
         · exact q
         · cases q.2
     have:=cl2 _ (mem_of_lookup hf) rfl
     cases e:cl.lookup y with
     | none=>exact absurd e this
     | some c=>exact ⟨c,e⟩
   · intro y c hf;cases hf
   · intro b hb
     obtain ⟨g0,g1,g2,g3,g4,g5⟩:=f3 b hb
     exact ⟨Nat.ne_of_lt (hobj b hb),fun y c e=>g4 y c (cl1 y c e)⟩
   · intro b o e hb
     obtain ⟨g0,g1,g2,g3,g4,g5⟩:=f3 b hb
     rcases g3 with g3 | g3
     · exact I3.ok.noex b o e g3
     · exact absurd (Heap.lt_size e) (Nat.not_lt.mpr (Nat.le_trans I3.ok.bsz g3))
   · intro b hb hs
     obtain ⟨g0,g1,g2,g3,g4,g5⟩:=f3 b hb
     rcases List.mem_cons.mp (I3.stkSub b hs) with e | e
     · exact g1 e
     · exact g2 e
 have I4 : Inv (ZW X scope x cl s₃.heap.objs.size s₃ H3 fp) [] (σ++[none]) H3 s₄:=by
   obtain ⟨m,hm,hl⟩:=I3.loc
   refine ⟨ok',by rw [← hs4];rfl,by rw [← hs4];exact I3.bare,by rw [h4];exact Un.kept old,⟨_,by rw [h4];exact hns₁,?_⟩,?_,I3.hok.fresh (Nat.le_refl _),fun y c e=>I3.freeC y c (cl1 y c e),?_,by rw [h4];exact I3.hok.kept old,?_⟩
   · intro i y v e1 e2 e3
     have hlt:i < σ.length:=by
       rcases Nat.lt_or_ge i σ.length with z | z
       · exact z
       · rw [List.getElem?_append_right z] at e2
         cases e:i - σ.length with
         | zero=>rw [e] at e2;simp at e2
         | succ k=>rw [e] at e2;simp at e2
     rw [List.getElem?_append_left hlt] at e2
     have hsm:∃ k,scope.names.lookup y=some k:=by
       rcases e3 with hk | hk | hk
       · rcases Zs O.cell hk with q | q
         · exact ⟨_,q⟩
         · exact ⟨_,q.1⟩
       · rcases Zs O.cell hk with q | q
         · exact ⟨_,q⟩
         · exact ⟨_,q.1⟩
       · rcases Zs O.cell hk with q | q
         · exact ⟨_,q⟩
         · exact ⟨_,q.1⟩
     obtain ⟨e1',hyx⟩:X.N[i]?=some y∧y≠x:=by
       have e1:(Ub X.N x++[x])[i]?=some y:=e1
       rw [List.getElem?_append_left (by rw [XL,← I3.len];exact hlt)] at e1
       rcases VI e1 with z | z
       · exact z
       · obtain ⟨k,hk⟩:=hsm
         rw [z,O.noh] at hk;cases hk
     have hy:y∈X.N:=List.mem_of_getElem? e1'
     have hf:scope.names.lookup y=some .free:=by
       rcases e3 with hk | hk | hk
       · rcases Zs O.cell hk with q | q
         · exact absurd q (O.own y hy hyx)
         · exact q.1
       · rcases Zs O.cell hk with q | q
         · exact absurd rfl (O.cell _ (mem_of_lookup q))
         · exact q.1
       · rcases Zs O.cell hk with q | q
         · exact q
         · exact q.1
     have hk:=O.clos _ (mem_of_lookup hf) rfl
     have hv:Vis X.env.scope y:=by rcases hk with z | z;exact .inr (.inl z);exact .inr (.inr z)
     obtain ⟨u,ru,lu⟩:=hl i y v e1' e2 hv
     refine ⟨u,ru,?_⟩
     have hkc:(compEnvC scope cl s₃.heap.objs.size X.env).kindOf y=some .cell∨(compEnvC scope cl s₃.heap.objs.size X.env).kindOf y=some .free:=by
       rcases e3 with q | q | q
       · rcases Zs O.cell q with z | z
         · exact absurd z (O.own y hy hyx)
         · cases z.2
       · exact .inl q
       · exact .inr q
     rcases lu with ⟨q,_⟩ | ⟨_,c,hcl,hcc⟩
     · rcases hk with z | z<;>(rw [q] at z;cases z)
     · refine .inr ⟨hkc,?_⟩
       cases e:cl.lookup y with
       | none=>exact absurd e (cl2 _ (mem_of_lookup hf) rfl)
       | some c' =>
         have:=cl1 y c' e
         rw [hcl] at this
         cases this
         refine ⟨c,e,?_⟩
         rw [h4]
         obtain ⟨oc,ho,hd⟩:=hcc
         exact ⟨oc,old _ _ ho,hd⟩
   · intro y c e
     obtain ⟨v,oc,ho,hd⟩:=I3.cell y c (cl1 y c e)
     exact ⟨v,oc,by rw [h4];exact old _ _ ho,hd⟩
   · intro p hp;cases hp
   · show (σ++[none]).length=(Ub X.N x++[x]).length
     rw [List.length_append,List.length_append,XL,I3.len];rfl
 have st4:tn 0 s₄.heap:=by rw [h4];exact T.keep _ _ _ st3' fun b hb o e=>old b o e
 have fpok:∀ {H':Hp},(∀ b∈fp,H' b=none)→∀ b∈fp,Yo (ZW X scope x cl s₃.heap.objs.size s₃ H3 fp) [] H' b:=fun hn b hb=>by
   obtain ⟨g0,g1,g2,g3,g4,g5⟩:=f3 b hb
   refine ⟨hn b hb,Nat.ne_of_lt (hobj b hb),ok'.exfs b hb,.inl hb,fun y c e=>g4 y c (cl1 y c e),?_⟩
   intro p hp;cases hp
 have loop:codeAny (model X.prog X.w) X.A (.compLoop (.ListComp elt [⟨.Name x px,iter,[],0⟩] scope pos) 0 (.ref it) (.ref D) (compEnvC scope cl s₃.heap.objs.size X.env)) (RR (.ref D) s₃.heap.objs.size) s₄:=by
   refine Wa (fun n s'=>∃ i ys w' H',Inv (ZW X scope x cl s₃.heap.objs.size s₃ H3 fp) [] (σ++[w']) H' s'∧tn i s'.heap∧(∀ b∈fp,H' b=none)∧W i n ys H') ?_ m0 ⟨0,[],none,H3,I4,st4,fun b hb=>(f3 b hb).1,w0⟩
   rintro n s5 ⟨i,ys,w',H5,I5,st5,fr5,w5⟩
   rcases turn i n ys H5 w5 with ⟨stop,q⟩ | ⟨go,N,hN,step⟩
   · refine Zr (T.done (ZW X scope x cl s₃.heap.objs.size s₃ H3 fp) rfl rfl rfl hc i [] s5 _ H5 _ I5 (fpok fr5) st5 stop) fun r s6 ⟨hr,I6⟩=>?_
     subst hr
     obtain ⟨m6,hn6,_⟩:=I6.loc
     have IX:Inv X pins σ H5 s6:=I3.call' (ch:=fp) I6.os I6.base I6.hok I6.bare fun b hb=>by
       obtain ⟨g0,g1,g2,g3,g4,g5⟩:=f3 b hb
       exact ⟨g3,g1,g4,g5⟩
     exact hRR D _ H5 s6 IX (I3.fpOk (Nat.le_refl _) I6.free) ⟨m6,hn6⟩ q
   · refine Zr (T.item (ZW X scope x cl s₃.heap.objs.size s₃ H3 fp) rfl rfl rfl hc i [] s5 _ H5 _ I5 (fpok fr5) st5 go) fun r s6 ⟨u,hr,h6⟩=>?_
     subst hr
     refine Zr h6 fun _ s7 ⟨v,H7,I7,r7,y7,st7,fr7⟩=>?_
     have I7':=I7.pinned (fpok fr7) (T.obj _ _ st7)
     have hixN:(ZW X scope x cl s₃.heap.objs.size s₃ H3 fp).N[σ.length]?=some x:=by
       show (Ub X.N x++[x])[σ.length]?=some x
       rw [I3.len,← XL X.N x];simp
     refine Zr (ZO (X:=ZW X scope x cl s₃.heap.objs.size s₃ H3 fp) (pos:=px) O.nd hixN (.inl (lookup_relabel_local O.loc)) (.inr (lookup_relabel_local O.loc)) _ s7 _ H7 v u (fun σ' H'=>σ'=σ++[some v]∧H'=H7) I7' r7 ⟨by simp,rfl⟩) fun _ s8 ⟨σ8,H8,I8,e8,e8'⟩=>?_
     subst e8 e8'
     refine Zr (he cl s₃.heap.objs.size s₃ H3 fp _ s8 _ H8 _ I8 (step v H8 y7)) fun uy s9 ⟨y,H9,I9,r9,n9⟩=>?_
     obtain ⟨hl9,hz9,m',hm',w9⟩:=hN y H9 n9
     refine Zr (Yf (X:=ZW X scope x cl s₃.heap.objs.size s₃ H3 fp) _ s9 _ H9 (.ref D) [y] (.ref D) [uy] (fun v H'=>H'=upd H9 D (.lst (ys++[y]))) I9 rfl (.cons r9 .nil) ⟨D,ys,y,rfl,rfl,hl9,hz9,rfl⟩) fun _ s10 ⟨_,H10,I10,_,e10⟩=>?_
     subst e10
     refine ⟨m',hm',i+1,ys++[y],some v,_,I10.unpinned (pins:=[]),T.keep _ _ _ st7 fun b hb o e=>(I10.pin (b,o) (List.mem_append_right _ (List.mem_append_right _ (Ya hb e)))).1,fun b hb=>?_,w9⟩
     obtain ⟨o,e,d⟩:=T.obj _ _ st7 b hb
     exact (I10.pin (b,o) (List.mem_append_right _ (List.mem_append_right _ (Ya hb e)))).2.1
 exact codeAny_compStart_list loop (T.self _ 0 _ _ _ st4 loop)
theorem XM (O:CompOk X scope x)(hc:X.calm=true)(hi:PI X (.Name x px) iter wi)(he:∀ cl C s₀ H₀ fp,PE (ZW X scope x cl C s₀ H₀ fp) elt te)
   (hs:∀ v,foldedSetIterable iter X.env v=pure v:=by intro _;rfl):PE X (.ListComp elt [⟨.Name x px,iter,[],0⟩] scope pos) (Zix wi te):=by
 intro pins s σ H Q I h
 obtain ⟨cl,hcl,cl1,cl2⟩:=XX (scope:=scope) (env:=X.env) fun y hy hf=>I.ok.has _ (O.clos y hy hf)
 rw [eval_ListComp]
 refine wpAny_comprehension_free (use:=none) rfl hs hcl O.kind O.names (Zr (hi pins s σ H _ I h) fun v s1 h1=>Zr h1 fun itv s2 h2=>?_)
 obtain ⟨it,fp,tn,J,H2,e,I2,T,st2,f2,q⟩:=h2
 subst e
 refine Zbf (RR:=fun acc C=>compPost (model X.prog X.w) X.A X.xe none (EP X pins σ Q) acc C) O hc cl1 cl2 he I2 T st2 f2 q ?_
 intro D C H' s' I' ⟨g0,g1,g2,g3,g4,g5⟩ ⟨m,hm⟩ hq
 exact ⟨m,hm,fun h' hs'=>⟨.ref D,H',I'.turned (t':=s'.toks) (fun b o hb e=>(hs'.2 b hb).trans e) g0 g1 g3 g4 g5,rfl,hq⟩⟩
theorem Zfv {i:Nat}{y:Str}{py spos:Pos}(O:CompOk X scope x)(hc:X.calm=true)(hN:X.N.Nodup)(hiN:X.N[i]?=some y)(hy:Loc X.env.scope y)(hi:PI X (.Name x px) iter wi)(he:∀ cl C s₀ H₀ fp,PE (ZW X scope x cl C s₀ H₀ fp) elt te)
   (hsw:swapsWith (.ListComp elt [⟨.Name x px,iter,[],0⟩] scope pos) (some (.Name y py)) spos.line X.env=pure true) (hf:X.fn y=true∨X.env.scope.names.lookup y=some .local:=by first | exact .inl rfl | exact .inr rfl | assumption)
   (hs:∀ v,foldedSetIterable iter X.env v=pure v:=by intro _;rfl):PS X (.Assign [.Name y py] (.ListComp elt [⟨.Name x px,iter,[],0⟩] scope pos) spos) (ZeS (Zix wi te) (Zca i)):=by
 intro pins s σ H D I h
 obtain ⟨cl,hcl,cl1,cl2⟩:=XX (scope:=scope) (env:=X.env) fun y hy hf=>I.ok.has _ (O.clos y hy hf)
 rw [exec_Assign_Name_used _ _ _ _ hsw]
 refine wpAny_bind (wpAny_standAt (wpAny_bind ?_))
 show wpAny _ X.A (do let _ ← comprehension (.ListComp elt [⟨.Name x px,iter,[],0⟩] scope pos) scope X.env _ (newList []) false (eval iter X.env) (some (assign (.Name y py) X.env))) _ _ s
 refine wpAny_bind (wpAny_mono (wpAny_comprehension_free (use:=some (assign (.Name y py) X.env)) (Q:=fun _ s'=>SP X pins D .next s') rfl hs hcl O.kind O.names
   (Zr (hi pins s σ H _ I h) fun v s1 h1=>Zr h1 fun itv s2 h2=>?_)) (fun _ s' hq=>wpAny_pure (wpAny_pure hq)) fun _ _ e=>e)
 obtain ⟨it,fp,tn,J,H2,e,I2,T,st2,f2,q⟩:=h2
 subst e
 refine Zbf (RR:=fun acc C=>compPost (model X.prog X.w) X.A X.xe (some (assign (.Name y py) X.env)) (fun _ s'=>SP X pins D .next s') acc C) O hc cl1 cl2 he I2 T st2 f2 q ?_
 intro Dl C H' s' I' ⟨g0,g1,g2,g3,g4,g5⟩ ⟨m,hm⟩ hq
 show wpAny _ X.A (assign (.Name y py) X.env (.ref Dl)) _ _ _
 refine wpAny_assign_Name (Vq I' hN hiN hy (v:=.ref Dl) rfl (fun s'' I'' ⟨a,sb,ha⟩=>?_) hf)
 have haC:C≠a:=by
   rcases ha with z | z
   · rw [z];exact g1
   · exact fun z'=>g4 y a z z'.symm
 exact ⟨m,hm.sameBut sb haC,fun h' hs'=>⟨_,H',I''.turned (t':=s''.toks) (fun b o hb e=>(hs'.2 b hb).trans e) g0 g1 g3 g4 g5,hq⟩⟩
end
theorem UV {lo:Int}{n:Nat}{te:TE}{σ:St}{D:Addr}{Q:VK}{H:Hp}(hn:n≤sizeLine)(Pv:Nat→List V→Hp→Prop)(h0:Pv 0 [] (upd H D (.lst [])))
   (hl:∀ i ys H,Pv i ys H→ys.length=i)
   (hs:∀ i ys H,i < n→Pv i ys H→te (σ++[some (.int (lo+i))]) H fun y H4=>H4 D=some (.lst ys)∧Pv (i+1) (ys++[y]) (upd H4 D (.lst (ys++[y])))) (hd:∀ ys H,Pv n ys H→Q (.ref D) H):VE (Itr lo n) te σ D Q H:=by
 refine ⟨fun i m ys H=>m=n - i∧i≤n∧Pv i ys H,⟨n,by simp,Nat.zero_le _,h0⟩,?_⟩
 rintro i m ys H2 ⟨rfl,hi,p⟩
 by_cases hlt:i < n
 · have hlen:=hl i ys _ p
   refine .inr ⟨hlt,_,fun y H4 (q:H4 D=some (.lst ys)∧Pv (i+1) (ys++[y]) (upd H4 D (.lst (ys++[y]))))=>⟨q.1,by omega,n - (i+1),by omega,rfl,hlt,q.2⟩,fun v H3 y=>?_⟩
   obtain ⟨e,e'⟩:=y
   subst e e'
   exact hs i ys _ hlt p
 · have e:i=n:=by omega
   subst e
   exact .inl ⟨Nat.le_refl _,hd ys H2 p⟩
theorem Zab {K:PySem.W.Frag}{a:Addr}{xs:List V}{te:TE}{σ:St}{D:Addr}{Q:VK}{H:Hp}(hn:xs.length≤sizeLine)(Pv:Nat→List V→Hp→Prop)(h0:Pv 0 [] (upd H D (.lst [])))
   (hl:∀ i ys H,Pv i ys H→ys.length=i∧SqT K H a xs)
   (hs:∀ i x ys H,xs[i]?=some x→Pv i ys H→te (σ++[some x]) H fun y H4=>H4 D=some (.lst ys)∧Pv (i+1) (ys++[y]) (upd H4 D (.lst (ys++[y])))) (hd:∀ ys H,Pv xs.length ys H→Q (.ref D) H):VE (Itt K a) te σ D Q H:=by
 refine ⟨fun i m ys H=>m=xs.length - i∧i≤xs.length∧Pv i ys H,⟨xs.length,by simp,Nat.zero_le _,h0⟩,?_⟩
 rintro i m ys H2 ⟨rfl,hi,p⟩
 obtain ⟨hlen,q⟩:=hl i ys _ p
 by_cases hlt:i < xs.length
 · refine .inr ⟨⟨xs,xs[i],q,by simp [hlt]⟩,_,fun y H4 (q:H4 D=some (.lst ys)∧Pv (i+1) (ys++[y]) (upd H4 D (.lst (ys++[y]))))=>⟨q.1,by omega,xs.length - (i+1),by omega,rfl,hlt,q.2⟩,fun v H3 y=>?_⟩
   obtain ⟨e,y⟩:=y
   subst e
   exact hs i v ys _ (y xs q) p
 · have e:i=xs.length:=by omega
   subst e
   exact .inl ⟨⟨xs,q,Nat.le_refl _⟩,hd ys H2 p⟩
end L2
namespace L2
open PySem PySem.Spec PyProof.Rows
section
variable {X:Cx}{tg:Expr}
end
section
variable {X:Cx}
theorem YK:Yr X (.builtin "isinstance") (fun xs H Q=>∃ x c t b,xs=[x,.ty c]∧XI X.K H x t∧PySem.W.kitOne X.K t (.type c)=some b∧Q (.bl b) H):=by
 intro pins s σ H xs us Q I r h
 obtain ⟨x,c,t,b,rfl,ty,e,q⟩:=h
 obtain ⟨u,u',rfl,ru,ru'⟩:=ZaX r
 have e':u'=Value.type c:=ru'
 subst e'
 exact ZbA I ru ty e fun tk=>⟨.bl b,H,I.tok tk,rfl,q⟩
theorem Zaj (hc:X.calm=true):Yr X (.builtin "all") (fun xs H Q=>∃ (a:Addr) (bs:List Bool),xs=[.ref a]∧SqL X.K H a (bs.map V.bl)∧Q (.bl (bs.all id)) H):=by
 intro pins s σ H xs us Q I r h
 obtain ⟨a,bs,rfl,hq,q⟩:=h
 obtain ⟨u,rfl,ru⟩:=Ys r
 cases ru
 obtain ⟨its,rv,p,hz⟩:=I.list hq
 have hlen:=rv.length
 rw [List.length_map] at hlen
 have hal:a < s.heap.objs.size:=by obtain ⟨_,e,_⟩:=p.isList;exact Heap.lt_size e
 refine call_all_walk (wpAny_pyIter_list p.isList ⟨s.heap.objs.size,_,_,_,_,_,fun i=>bs.getD i false,rfl,Walks.list (A:=X.A.in1) (I.ok.hd hc) s.heap.objs.size a (Nat.ne_of_lt hal) its.toArray,⟨⟨_,Heap.get?_push_size _ rfl,rfl,rfl⟩,p.isList.push _⟩,?_,?_⟩)
 · intro i v s' Q' E' hv hQ'
   have hv':its[i]?=some v:=by simpa using hv
   have hi:i < bs.length:=by
     have:=(List.getElem?_eq_some_iff.mp hv').1
     omega
   obtain ⟨u,hu,ru⟩:=rv.get (i:=i) (x:=V.bl bs[i]) (by simp [hi])
   rw [hv'] at hu
   cases hu
   have e:v=Value.bool bs[i]:=ru
   subst e
   have hQ2:Q' (bs.getD i false) s':=hQ'
   rw [List.getD_eq_getElem?_getD,List.getElem?_eq_getElem hi] at hQ2
   exact wpAny_truthy_bool hQ2
 · intro h' tk hk
   have e:(List.range its.toArray.size).all (fun i=>bs.getD i false)=bs.all id:=by
     rw [List.size_toArray,← hlen]
     apply Bool.eq_iff_iff.mpr
     rw [List.all_eq_true,List.all_eq_true]
     constructor
     · intro z b hb
       obtain ⟨i,hi,rfl⟩:=List.mem_iff_getElem.mp hb
       have:=z i (List.mem_range.mpr hi)
       rwa [List.getD_eq_getElem?_getD,List.getElem?_eq_getElem hi] at this
     · intro z i hi
       have hi':=List.mem_range.mp hi
       rw [List.getD_eq_getElem?_getD,List.getElem?_eq_getElem hi']
       exact z _ (List.getElem_mem hi')
   rw [e]
   refine ⟨.bl (bs.all id),H,I.kept (t':=tk) fun b o eb=>hk b o ?_ (Heap.get?_push_of_some _ eb),rfl,q⟩
   intro hm
   have:b=s.heap.objs.size:=by simpa using hm
   rw [this] at eb
   exact absurd (Heap.lt_size eb) (Nat.lt_irrefl _)
theorem ZdT:∀{ys:List Str}{us:List Value},Vals (ys.map V.str) us→StrsAre us ys
 | [],_,.nil=>.nil
 | y::ys,_,.cons r t=>by obtain ⟨k,rfl⟩:=r;exact .cons _ _ (ZdT t)
theorem Zet:MtR X "str.join" (fun x xs H Q=>∃ sep a ys,x=.str sep∧xs=[.ref a]∧SqL X.K H a (ys.map V.str)∧(ys.map (·.length)).sum+ys.length * sep.length≤16777216∧Q (.str (Txt.join sep ys)) H):=by
 intro pins s σ H x xs v us Q I rx rv h
 obtain ⟨sep,a,ys,rfl,rfl,hq,hz,q⟩:=h
 obtain ⟨t,rfl⟩:=rx
 obtain ⟨u,rfl,ru⟩:=Ys rv
 cases ru
 obtain ⟨its,r,p,_⟩:=I.list hq
 exact join_list p.isList (by simpa using ZdT r) hz fun t' k=>⟨.str _,H,I.tok k,⟨_,rfl⟩,q⟩
theorem Zcx:SlR X (fun x lo hi H Q=>∃ z,x=.str z∧z.length≤sizeLine∧Q (.str (Txt.slice z lo hi)) H):=by
 intro pins s σ H x v vl vu lo hi sl Q I rx hs pl pu h
 obtain ⟨z,rfl,hz,q⟩:=h
 obtain ⟨t,rfl⟩:=rx
 refine ⟨"str",_,F.slot_str_getitem.lookup,typeIs_str _ _ _,?_⟩
 have fin:∀ (t':Tok) (k:Nat),EP X pins σ Q (.str (Txt.slice z lo hi) t') { s with toks:=k }:=fun t' k=>⟨.str _,H,I.tok k,⟨_,rfl⟩,q⟩
 obtain ⟨o,ho,hc,hd⟩:=hs
 cases pl<;>cases pu
 · exact wpAny_getItem_str_slice (l:=none) (u:=none) (st:=none) ⟨_,ho,hc,hd⟩ rfl (post_val_or_str ⟨Nat.le_trans (Txt.slice_le z _ _) hz,fin⟩)
 · rename_i j uj
   exact wpAny_getItem_str_slice (l:=none) (u:=some (j,uj)) (st:=none) ⟨_,ho,hc,hd⟩ rfl (post_val_or_str ⟨Nat.le_trans (Txt.slice_le z _ _) hz,fin⟩)
 · rename_i i ui
   exact wpAny_getItem_str_slice (l:=some (i,ui)) (u:=none) (st:=none) ⟨_,ho,hc,hd⟩ rfl (post_val_or_str ⟨Nat.le_trans (Txt.slice_le z _ _) hz,fin⟩)
 · rename_i i ui j uj
   exact wpAny_getItem_str_slice (l:=some (i,ui)) (u:=some (j,uj)) (st:=none) ⟨_,ho,hc,hd⟩ rfl (post_val_or_str ⟨Nat.le_trans (Txt.slice_le z _ _) hz,fin⟩)
end
mutual
inductive DataOf (H:Hp):V→PyData→Prop
 | non:DataOf H .non .none
 | bl (b):DataOf H (.bl b) (.bool b)
 | int (i):DataOf H (.int i) (.int i)
 | str (x):DataOf H (.str x) (.str x)
 | lst {a xs ds}:H a=some (.lst xs)→DatasOf H xs ds→DataOf H (.ref a) (.list ds)
 | tup {a xs ds}:H a=some (.tup xs)→DatasOf H xs ds→DataOf H (.ref a) (.tuple ds)
inductive DatasOf (H:Hp):List V→List PyData→Prop
 | nil:DatasOf H [] []
 | cons {v d vs ds}:DataOf H v d→DatasOf H vs ds→DatasOf H (v::vs) (d::ds)
end
section
variable {P:Program}{w:World}{H:Hp}{h:Heap}
mutual
theorem DataOf.reads (hok:HOk P w H h):∀{v d}(u:Value),DataOf H v d→RelV v u→d.hasDict=false∧∃ as,Reads h u d as
 | _,_,u,.non,r=>by cases (show u=.none from r);exact ⟨rfl,_,.none⟩
 | _,_,u,.bl b,r=>by cases (show u=.bool b from r);exact ⟨rfl,_,.bool b⟩
 | _,_,u,.int i,r=>by obtain ⟨t,e⟩:=(show ∃ t,u=.int i t from r);subst e;exact ⟨rfl,_,.int i t⟩
 | _,_,u,.str x,r=>by obtain ⟨t,e⟩:=(show ∃ t,u=.str x t from r);subst e;exact ⟨rfl,_,.str x t⟩
 | _,_,u,.lst (a:=a) (xs:=xs) e q,r=>by
   cases (show u=.ref a from r)
   obtain ⟨_,its,n,rv,g⟩:=(show ObjOk P w H h a (.lst xs) from hok a _ e)
   obtain ⟨nd,as,ra⟩:=DatasOf.reads hok its q rv
   exact ⟨by simpa [PyData.hasDict] using nd,_,.list g rfl rfl (by simpa using ra)⟩
 | _,_,u,.tup (a:=a) (xs:=xs) e q,r=>by
   cases (show u=.ref a from r)
   obtain ⟨_,its,rv,o,g,c,n,d⟩:=(show ObjOk P w H h a (.tup xs) from hok a _ e)
   obtain ⟨nd,as,ra⟩:=DatasOf.reads hok its q rv
   exact ⟨by simpa [PyData.hasDict] using nd,_,.tuple g c d (by simpa using ra)⟩
theorem DatasOf.reads (hok:HOk P w H h):∀{vs ds}(us:List Value),DatasOf H vs ds→Vals vs us→PyData.hasDictAll ds=false∧∃ as,ReadsAll h us ds as
 | _,_,_,.nil,.nil=>⟨rfl,_,.nil⟩
 | _,_,_,.cons r t,.cons rv tv=>by
   obtain ⟨n1,as,r1⟩:=DataOf.reads hok _ r rv
   obtain ⟨n2,bs,r2⟩:=DatasOf.reads hok _ t tv
   exact ⟨by simp [PyData.hasDictAll,n1,n2],_,.cons r1 r2⟩
end
end
section
variable {X:Cx}
end
end L2
namespace L2
open PySem PySem.Spec PyProof.Rows
def Def (P:Program)(w:World)(K:PySem.W.Frag)(mg:Str→Option Value)(base:Heap)(k:Nat)(x:Str)(ps:List Str)(sp:Sp):Prop :=
 ∃ f fd,FnOk P w K mg base ZF k f fd ps sp∧Binds K fd ps []∧PySem.W.keepIn K (.ref f)=true∧mg x=some (.ref f)
theorem Def.mono {P:Program}{w:World}{K:PySem.W.Frag}{mg:Str→Option Value}{base:Heap}{j k:Nat}{x:Str}{ps:List Str}{sp:Sp}(D:Def P w K mg base j x ps sp)(h:j≤k):Def P w K mg base k x ps sp :=
 let ⟨f,fd,F,b,kp,m⟩:=D;⟨f,fd,F.mono h,b,kp,m⟩
section
variable {X:Cx}{k:Nat}{x:Str}{ps:List Str}{sp:Sp}{p pos:Pos}{e:Expr}{es:List Expr}{t:TA}
theorem Zz (D:Def X.prog X.w X.K X.mg X.base k x ps sp)(hr:Room k X.A)(ha:PA X (e::es) t)(hg:Gl X x:=by rfl)(hdb:(x == ("__debug__":Str))=false:=by decide)
   (he:starEach (e::es) X.env=(false,eval e X.env)::starEach es X.env:=by rfl) (hpl:(backTo pos (starEach es X.env)).any (·.1)=false:=by rfl) :
   PE X (.Call (.Name x p) (e::es) [] pos) (ZeH sp [] E0 t):=by
 obtain ⟨f,fd,F,b,kp,m⟩:=D
 exact ZjD F hr hg m kp b .nil Zcd ha hdb he hpl
end
def Kp (p:Addr)(H H':Hp):Prop:=∀ q o,q≠p→H q=some o→H' q=some o
theorem Kp.trans {p:Addr}{H H1 H2:Hp}(a:Kp p H H1)(b:Kp p H1 H2):Kp p H H2:=fun q o n h=>b q o n (a q o n h)
theorem Kp.upd (p:Addr)(H:Hp)(o:HO):Kp p H (upd H p o):=fun q u n h=>by rw [Zh n];exact h
theorem Same.kp {H H':Hp}(a:Same H H')(p:Addr):Kp p H H':=fun q o _ h=>a q o h
theorem Zp {H:Hp}{p:Addr}(h:H p=none)(o:HO):Same H (upd H p o):=fun b u q=>by rw [Zh (Zn q h)];exact q
def BoxAt (H:Hp)(p:Addr)(n:Nat):Prop:=∃ a b c:Int,H p=some (.lst [.int a,.int b,.int c])∧0≤a∧0≤c∧c≤n
theorem BoxAt.same {H H':Hp}{p:Addr}{n:Nat}(h:BoxAt H p n)(s:Same H H'):BoxAt H' p n:=let ⟨a,b,c,e,r⟩:=h;⟨a,b,c,s _ _ e,r⟩
theorem BoxAt.le {H:Hp}{p:Addr}{n m:Nat}(h:BoxAt H p n)(l:n≤m):BoxAt H p m:=let ⟨a,b,c,e,h1,h2,h3⟩:=h;⟨a,b,c,e,h1,h2,by omega⟩
def Zas (M:Int):Sp:=fun vs H Q _=>∃(p:Addr)(n:Nat)(m:Int),vs=[.ref p,.int m]∧BoxAt H p n∧n≤1000000∧0 < m∧m < M∧∀(r:Int)(H':Hp),0≤r→r < m→BoxAt H' p (n+1)→Kp p H H'→Q (.int r) H'
def ZgF (K:PySem.W.Frag):Sp:=fun vs H Q _=>∃(a:Addr)(ns:List Int)(k:Int),vs=[.ref a,.int k]∧SqL K H a (ns.map V.int)∧0≤k∧∀(r:Int),Q (.int r) H
def ZiK (K:PySem.W.Frag):Sp:=fun vs H Q _=>∃(a:Addr)(ns:List Int)(k:Int),vs=[.ref a,.int k]∧SqL K H a (ns.map V.int)∧0≤k∧k≤1000∧∀(p:Addr)(H':Hp),H p=none→BoxAt H' p 0→Same H H'→Q (.ref p) H'
theorem ZeC {n:Nat}(h:n≤1000):n≤sizeLine:=Nat.le_of_lt (Zgu h)
end L2
namespace L2
open PySem PySem.Spec PyProof.Rows
def Zes (N:List Str)(names:List (Str×NameKind))(scope:Scope)(x:Str):Bool :=
 decide ((Ub N x++[x]).Nodup)&&scope.names.all (fun y=>(y.2 != .free || names.lookup y.1 == some .cell || names.lookup y.1 == some .free)&&(y.2 != .cell&&(y.2 != .local || scope.names.lookup y.1 == some .local))) &&
 ((scope.kind == .function&&scope.names.lookup x == some .local)&&N.all fun y=>y == x || scope.names.lookup y != some .local)&&scope.names.lookup ("":Str) == none
theorem CompOk.of {X:Cx}{scope:Scope}{x:Str}(N:List Str)(st:Stmt)(hN:X.N=N)(hn:X.env.scope=Zj st)(chk:Zes N (Zj st).names scope x=true):CompOk X scope x:=by
 unfold Zes at chk
 simp only [Bool.and_eq_true,decide_eq_true_eq,List.all_eq_true,Bool.or_eq_true,bne_iff_ne,beq_iff_eq] at chk
 obtain ⟨⟨⟨c1,c2⟩,⟨c3,c4⟩,c5⟩,c6⟩:=chk
 refine ⟨by rw [hN];exact c1,fun y hy hf=>?_,fun y hy=>(c2 y hy).2.1,c3,fun y hy hl=>?_,c4,fun y hy hx=>(c5 y (by rw [← hN];exact hy)).resolve_left hx,c6⟩
 · show X.env.scope.names.lookup y.1=_∨X.env.scope.names.lookup y.1=_
   rw [hn]
   rcases (c2 y hy).1 with (z | z) | z
   · exact absurd hf z
   · exact .inl z
   · exact .inr z
 · rcases (c2 y hy).2.2 with z | z
   · exact absurd hl z
   · exact z
theorem Zav:∀ (rest:List Str) (acc:Array Nat),(rest.foldl (fun acc p=>acc++(Str.ofString "").cps++p.cps) acc).toList=acc.toList++rest.flatMap (·.cps.toList)
 | [],acc=>by simp
 | p::r,acc=>by
   have e:(Str.ofString "").cps=#[]:=by decide +kernel
   rw [List.foldl_cons,Zav r,List.flatMap_cons,e]
   simp
theorem WC:∀ ys:List Str,(Txt.join (Str.ofString "") ys).cps.toList=ys.flatMap (·.cps.toList)
 | []=>rfl
 | y::r=>by
   show (List.foldl (fun acc p=>acc++(Str.ofString "").cps++p.cps) y.cps r).toList=_
   rw [Zav];rfl
theorem Yi (x:Str):x.length=x.cps.toList.length:=by simp [Str.length]
theorem Zgm (s e:Int)(i j:Nat)(hs:s=i)(he:e=j):sliceRange s e 1=(List.range (j - i)).map (i+·):=by
 subst hs he
 unfold sliceRange
 simp only [show (1:Int) > 0 by decide,if_true]
 have e3:(if (i:Int) < (j:Int) then ((j:Int) - i+1 - 1) / 1 else 0).toNat=j - i:=by
   split
   · rw [Int.ediv_one];omega
   · omega
 rw [e3]
 apply List.map_congr_left
 intro k hk
 omega
theorem Wp (z:Str)(lo hi:Option Int):(Txt.slice z lo hi).cps.toList=(z.cps.toList.drop (HT.sIx z.length 0 lo)).take (HT.sIx z.length z.length hi - HT.sIx z.length 0 lo):=by
 have key:Builtin.Str.strSliceIndices lo hi 1 z.length=(List.range (HT.sIx z.length z.length hi - HT.sIx z.length 0 lo)).map (HT.sIx z.length 0 lo+·):=by
   unfold Builtin.Str.strSliceIndices
   refine Zgm _ _ _ _ ?_ ?_
   · cases lo with
     | none=>rfl
     | some i=>simp only [HT.sIx,show (1:Int) > 0 by decide,if_true];split<;>omega
   · cases hi with
     | none=>rfl
     | some i=>simp only [HT.sIx,show (1:Int) > 0 by decide,if_true];split<;>omega
 have hj:HT.sIx z.length z.length hi≤z.length:=HT.sIx_le _ _ (Nat.le_refl _) hi
 unfold Txt.slice
 rw [key]
 split
 · rename_i h
   simp only [beq_self_eq_true,Bool.true_and,List.length_map,List.length_range,beq_iff_eq] at h
   have h0:HT.sIx z.length 0 lo=0∨z.length=0:=by omega
   rcases h0 with h0 | h0
   · rw [h0] at h ⊢
     rw [List.drop_zero,h,Yi,List.take_length]
   · have e:z.cps.toList=[]:=List.eq_nil_of_length_eq_zero (by rw [← Yi];exact h0)
     rw [e];simp
 · show (List.filterMap (fun k=>z.cps[k]?) ((List.range _).map _)).toArray.toList=_
   rw [List.filterMap_map]
   generalize HT.sIx z.length 0 lo=i at *
   generalize HT.sIx z.length z.length hi - i=n at *
   have gen:∀ (n i:Nat),List.filterMap ((fun k=>z.cps[k]?) ∘ (i+·)) (List.range n)=(z.cps.toList.drop i).take n:=by
     intro n
     induction n with
     | zero=>intro i;simp
     | succ n ih =>
       intro i
       rw [List.range_succ,List.filterMap_append,ih,List.take_add_one,List.getElem?_drop]
       congr 1
       simp only [List.filterMap_cons,List.filterMap_nil,Function.comp,Array.getElem?_toList]
       cases z.cps[i+n]?<;>rfl
   rw [gen]
theorem Vv (x y:Str):(x++y).cps.toList=x.cps.toList++y.cps.toList:=by
 show (x.cps++y.cps).toList=_
 simp
theorem Xo (x y:Str):(x++y).length=x.length+y.length:=by rw [Yi,Vv,List.length_append,← Yi,← Yi]
def UU (c:Nat):Bool:=decide (97≤c)&&decide (c≤122)
def VR (c:Nat):Bool:=decide (32≤c)&&decide (c≤126)
theorem Zgv {X:Cx}{K:PySem.W.Frag}(hK:X.K=K):Yr X (.builtin "len") (fun xs H Q=>∃ x n,xs=[x]∧Zhw K x H n∧Q (.int n) H):=by subst hK;exact Zhp
theorem ZgQ {X:Cx}{K:PySem.W.Frag}(hK:X.K=K):IxR X (rIxL K):=by subst hK;exact Zt
@[reducible] def notStar:Expr→Bool
 | .Starred ..=>false
 | _=>true
theorem ZiX {e:Expr}{es:List Expr}{env:Env}(h:notStar e=true):starEach (e::es) env=(false,eval e env)::starEach es env:=by
 cases e<;>first | rfl | cases h
section
variable {X:Cx}{k:Nat}{x:Str}{ps:List Str}{sp:Sp}{p pos:Pos}{e:Expr}{es:List Expr}{te:TE}{t:TA}
theorem Va (ha:PE X e te)(hr:PA X es t)(h:notStar e=true):PA X (e::es) (Xu te t):=Yw ha hr (ZiX h)
theorem Zb (ha:PE X e te)(hr:PA X es t)(h:notStar e=true:=by rfl):PA X (e::es) (Xu te t):=Yw ha hr (ZiX h)
end
end L2
namespace L2
open PySem PySem.Spec PyProof.Rows
section
variable {X:Cx}
theorem Zhy:YQ X (binaryOp .FloorDiv) (rI (fun _ j=>0 < j∧j < 2 ^ 62) fun i j=>.int (i / j)):=opI fun i j _ _ _ _ _ hc q=>by
 have h1:(0:Int) < j:=hc.1
 have h2:j < 2 ^ 62:=hc.2
 refine floordiv_int (by omega) (by rw [Int.fdiv_eq_ediv_of_nonneg i (by omega)];exact q) (.inl (PyProof.noPylong_of_log2 ?_))
 have h3:j.natAbs≠0:=by omega
 have h4:j.natAbs < 2 ^ 9000:=Nat.lt_of_lt_of_le (show j.natAbs < 2 ^ 62 by omega) (Nat.pow_le_pow_right (by decide) (by decide))
 exact (Nat.log2_lt h3).mpr h4
theorem Zda:MtR X "str.index" (fun x xs H Q=>∃ z y,x=.str z∧xs=[.str y]∧0≤Txt.find z y∧Q (.int (Txt.find z y)) H):=by
 intro pins s σ H x xs v us Q I rx rv h
 obtain ⟨z,y,rfl,rfl,hz,q⟩:=h
 obtain ⟨t,rfl⟩:=rx
 obtain ⟨u,rfl,ru⟩:=Ys rv
 obtain ⟨t',rfl⟩:=ru
 cases ho:Builtin.Str.occurrences z y 0 z.length 1 with
 | nil => have:Txt.find z y=-1:=by simp [Txt.find,ho]
          omega
 | cons i rest =>
   have e:Txt.find z y=i:=by simp [Txt.find,ho]
   rw [e] at q
   exact call_gives F.slot_str_index (typeIs_str _ _ _) F.entry_str_index (F.args_str_index_2 _ _) (gives_str_index z y t t' i rest ho) ⟨.int i,H,I.tok _,⟨_,rfl⟩,q⟩
end
end L2
namespace L2
open PySem PySem.Spec PyProof.Rows
section
variable {X:Cx}
end
section
variable {X:Cx}{tg:Expr}
end
end L2
set_option maxHeartbeats 2000000
namespace L2
open PySem PySem.Spec PyProof.Rows
theorem ZaT {prog:Program}{w:World}{A:Around}{it:Addr}{fp:List Addr}{n:Nat}{P:Nat→Value→Prop}{St:Nat→Heap→Prop}(D:Draws prog w A it fp n P St) :
   Draws prog w A it fp (n+1) (fun i v=>∃ j,i=j+1∧P j v) (fun i h=>∃ j,i=j+1∧St j h) where
 live:=fun i h ⟨j,_,st⟩=>D.live j h st
 frame:=fun i h h' ⟨j,e,st⟩ k=>⟨j,e,D.frame j h h' st k⟩
 item:=fun i s Q E hi ⟨j,e,st⟩ hQ=>by
   subst e
   exact D.item j s Q E (by omega) st fun x h' tk p st' sb=>hQ x h' tk ⟨j,rfl,p⟩ ⟨j+1,rfl,st'⟩ sb
 done:=fun s Q E ⟨j,e,st⟩ hE=>by
   have:n=j:=by omega
   subst this
   exact D.done s Q E st hE
section
variable {prog:Program}{w:World}{A:Around}{E:Value→Shared→Prop}{s:Shared}
theorem Zar (x:Str)(t t1:Tok) :
   Meets (Builtin.«enumerate.__new__» ⟨[.type "enumerate",.str x t],[("start",.int 1 t1)]⟩) (fun _ R s =>
     R (.ok (.ret (.ref (s.heap.push { cls:=.type (strIterType x),data:=.fields #[.str x t,.int 0 0] }).objs.size)))
       { s with heap:=(s.heap.push { cls:=.type (strIterType x),data:=.fields #[.str x t,.int 0 0] }).push { cls:=.type "enumerate",data:=.fields #[.none,.bool false,.ref s.heap.objs.size,rawInt 1,.none,.none] } }) :=
 .of_wp fun prog w A R s h=>by
   obtain ⟨hp,g,d,tk,os⟩:=s
   have sub1:=sub_enumerate
   wp_walk
   refine wpAny_stack_any fun st=>wpAny_pure ?_
   split
   · rename_i c _ _ _ _ _
     cases (c == Value.type "enumerate")<;>(wp_walk using wpAny_pyIter_strU;exact ⟨_,rfl,h⟩)
   · wp_walk using wpAny_pyIter_strU
     exact ⟨_,rfl,h⟩
end
end L2
set_option maxHeartbeats 2000000
namespace L2
open PySem PySem.Spec PyProof.Rows
section
variable {prog:Program}{w:World}{A:Around}{E:Value→Shared→Prop}{s:Shared}
theorem Zbm {T newId:String}{self a:Value}{kw:List (Str×Value)}(hl:typeLookup (.type T) "__init__"=pure (some (.builtin "object.__init__")))
   (hm:Bind.madeBy (.type T)=pure (some newId)) (hne:(some newId != some "object.__new__")=true) :
   Meets (Builtin.«object.__init__» ⟨[self,a],kw⟩) (fun _ R s=>s.TypeIs self T∧R (.ok (.ret .none)) s):=by
 refine Meets.of_wp fun prog w A R s hs=>?_
 obtain ⟨hT,hq⟩:=hs
 repeat (any_goals first | assumption | wp_step)
 exact ⟨_,rfl,hq⟩
theorem Zdi {T newId initId:String}{Bn Bi:Builtin}{args:List Value}{kw:List (Str×Value)}{S:PySem.Spec}{Q Q₁:Value→Shared→Prop}(ft:TypeCalled T newId initId)
   (hct:checkTypeCall T ⟨args,kw⟩=pure ()) (hcn:checkBuiltinCall newId ⟨.type T::args,kw⟩=pure ())
   (entryN:entryFor table newId=some Bn) (entryI:entryFor table initId=some Bi) (g:Meets (Bn ⟨.type T::args,kw⟩) S) (h:S A.in1 (wants Q₁ E) s)
   (hnext:∀ obj s₁,Q₁ obj s₁→s₁.TypeIs obj T∧argsOk initId ⟨obj::args,kw⟩∧∃ Si,Meets (Bi ⟨obj::args,kw⟩) Si∧Si A.in1 (wants (fun r s₂=>r=.none∧Q obj s₂) E) s₁) :
   wpAny (model prog w) A (call (.type T) args kw) Q E s:=by
 obtain ⟨c,tl,hmro⟩:=ft.mro
 have q1:=ft.made
 have q2:=ft.sub
 refine wpAny_call (codeAny_of_tree (show wpAny _ _ (callAny (.type T) _) _ _ _ from wpAny_pure ⟨Code.quiet_builtin _ (by decide +kernel),codeAny_builtin F.entry_type_call ?_⟩))
 rw [Around.under_plain (weight_type_call_type T args kw) (units_type_call_type T args kw)]
 have q3:=ft.notType
 have q4:=ft.canCreate
 repeat (any_goals first | assumption | wp_step)
 refine codeAny_mono (codeAny_call_builtin ft.plain entryN (wpAny_of_eq hcn (g prog w A.in1 _ s h))) fun r s₁ hr=>?_
 rcases r with e | fl
 · exact hr
 · cases fl with
   | ret obj =>
     obtain ⟨hT,hok,Si,gi,hsi⟩:=hnext _ _ hr
     have q5:=ft.init.lookup
     have q6:=ft.init.bind obj
     repeat (any_goals first | assumption | wp_step)
     refine codeAny_mono (codeAny_call_builtin ft.init.plain entryI (ft.init.check _ _ _ _ _ _ _ _ hT hok (gi prog w A.in1 _ s₁ hsi))) fun r₂ s₂ hr₂=>?_
     rcases r₂ with e | fl₂
     · exact hr₂
     · cases fl₂ with
       | ret r =>
         obtain ⟨rfl,hq⟩:=hr₂
         repeat (any_goals first | assumption | wp_step)
       | _=>exact hr₂.elim
   | _=>exact hr.elim
theorem Vd (a b:Value):checkTypeCall "enumerate" ⟨[a],[("start",b)]⟩=pure ():=by kernel_rfl
theorem Vl (a b:Value):checkBuiltinCall "enumerate.__new__" ⟨[.type "enumerate",a],[("start",b)]⟩=pure ():=by kernel_rfl
theorem ZaV (o a b:Value):argsOk "object.__init__" ⟨[o,a],[("start",b)]⟩:=by
 unfold argsOk
 rw [signature?_of (id:="object.__init__") (n:=['_','_','t','i','n','i','_','_']) (o:=['t','c','e','j','b','o']) (by kernel_rfl) F.owner_object]
 kernel_rfl
theorem ZaA {x:Str}{t t1:Tok}{Q:Value→Shared→Prop}
   (h:∀ h',IsEnum h' (s.heap.objs.size+1) s.heap.objs.size 1 .none→h'.IsStrIter s.heap.objs.size (strIterType x) x t 0→h'.objs.size=s.heap.objs.size+2 →
     (∀ b o,s.heap.get? b=some o→h'.get? b=some o)→Q (.ref (s.heap.objs.size+1)) { s with heap:=h' }) :
   wpAny (model prog w) A (call (.type "enumerate") [.str x t] [("start",.int 1 t1)]) Q E s:=by
 have ft:=F.called_enumerate
 refine Zdi (Q₁:=fun obj s₁=>s₁.TypeIs obj "enumerate"∧Q obj s₁) ft (Vd _ _) (Vl _ _) F.entry_enumerate_new F.entry_object_init (Zar x t t1) ?_
   (fun obj s₁ hq=>⟨hq.1,ZaV obj _ _,_,Zbm ft.init.lookup ft.made (by decide),hq.1,rfl,hq.2⟩)
 generalize hO:({ cls:=.type (strIterType x),data:=.fields #[.str x t,.int 0 0] }:Obj)=O
 have hz:(s.heap.push O).objs.size=s.heap.objs.size+1:=Heap.size_push ..
 generalize hO2:({ cls:=.type "enumerate",data:=.fields #[.none,.bool false,.ref s.heap.objs.size,rawInt 1,.none,.none] }:Obj)=O2
 have he:((s.heap.push O).push O2).get? (s.heap.objs.size+1)=some O2:=by
   have e:=Heap.get?_push_size (s.heap.push O) (o:=O2) (by rw [← hO2];rfl)
   rw [hz] at e;exact e
 have hi:((s.heap.push O).push O2).get? s.heap.objs.size=some O:=Heap.get?_push_of_some _ (Heap.get?_push_size _ (by rw [← hO];rfl))
 have key:Shared.TypeIs { s with heap:=(s.heap.push O).push O2 } (.ref (s.heap.objs.size+1)) "enumerate"∧Q (.ref (s.heap.objs.size+1)) { s with heap:=(s.heap.push O).push O2 }:=by
   refine ⟨⟨O2,he,by rw [← hO2]⟩,h _ (by rw [← hO2] at he ⊢;exact he) ⟨O,hi,by rw [← hO],by rw [← hO];rfl⟩ (by rw [Heap.size_push,hz]) fun b o y=>Heap.get?_push_of_some _ (Heap.get?_push_of_some _ y)⟩
 rw [← hz] at key
 exact key
end
end L2
set_option maxHeartbeats 2000000
namespace L2
open PySem PySem.Spec PyProof.Rows
theorem Inv.turned2 {X:Cx}{pins:List (Addr×Obj)}{σ:St}{H:Hp}{s:Shared}{h':Heap}{t':Nat}{fp:List Addr}(I:Inv X pins σ H s)(k:∀ b o,b ∉ fp→s.heap.get? b=some o→h'.get? b=some o)(hf:∀ b∈fp,Yo X pins H b) :
   Inv X pins σ H { s with heap:=h',toks:=t' }:=by
 have nit:∀ b u,H b=some u→b ∉ fp:=fun b u e z=>by rw [(hf b z).1] at e;cases e
 refine I.step (g':=s.gens) (d':=s.drawn) (ch:=fp) (fun b hb=>?_) (fun b o _ _ hc e _=>k b o hc e) (fun b o _ _ hc e _=>⟨o.slots,k b o hc e⟩) (fun _ _ _ _ n=>n)
   (fun b o hc e=>⟨o,k b o hc e⟩) (fun _ _ e=>e) (fun _ _ _ e=>e) (fun b ps e=>⟨#[],by rw [e];simp⟩) (fun m hm=>?_) (fun b u e=>?_) I.bare
 · obtain ⟨f0,f1,f2,f3,f4,f5⟩:=hf b hb
   exact ⟨f3,f1,f4,f5⟩
 · obtain ⟨o,es,ep,ho,r⟩:=hm
   exact ⟨o,es,ep,k _ o (fun z=>(hf _ z).2.1 rfl) ho,r⟩
 · refine (I.hok b u e).stay (fun c v hc q=>k c v ?_ q) (fun _ q=>q) fun _ _ q=>q
   rcases hc with z | z
   · rw [z];exact nit b u e
   · exact nit c _ z
theorem ZbK {prog:Program}{w:World}{A:Around}(hh:A.handled=none)(it:Addr)(x:Str)(t:Tok) :
   Draws prog w A it [it] x.cps.size (fun i v=>∃ c u,x.cps[i]?=some c∧v=.str ⟨#[c]⟩ u) (fun i h=>h.IsStrIter it (strIterType x) x t i):=by
 cases ha:x.cps.all (· < 128)
 · have e:strIterType x="str_iterator":=by simp [strIterType,ha]
   rw [e];exact Draws.strWide hh it x t
 · have e:strIterType x="str_ascii_iterator":=by simp [strIterType,ha]
   rw [e];exact Draws.strAscii hh it x t
def Ite (x:Str):It:=⟨fun i _=>i < x.cps.size,fun i H v H'=>∃ t c,H t=none∧x.cps[i]?=some c∧v=.ref t∧H'=upd H t (.tup [.int ((i:Int)+1),.str ⟨#[c]⟩]),fun i _=>x.cps.size≤i⟩
theorem ZfG {P:Program}{w:World}{K:PySem.W.Frag}{elts:List Expr}{x1:Nat}{tp:Pos}(x:Str)(t:Tok)(e it:Addr)(hne:e≠it) :
   Um P w K (.Tuple elts x1 tp) (Ite x) [e,it] e (fun i h=>(∃ old,IsEnum h e it ((i:Int)+1) old)∧h.IsStrIter it (strIterType x) x t i∧i≤x.cps.size) where
 mem:=by simp
 obj:=fun i h st b hb=>by
   obtain ⟨⟨old,he⟩,⟨o,ho,c,d⟩,_⟩:=st
   rcases List.mem_cons.mp hb with q | hb
   · rw [q];exact ⟨_,he,fun v z=>by cases z⟩
   · rw [List.mem_singleton.mp hb];exact ⟨o,ho,fun v z=>by rw [d] at z;cases z⟩
 keep:=fun i h h' st k=>by
   obtain ⟨⟨old,he⟩,⟨o,ho,r⟩,hi⟩:=st
   exact ⟨⟨old,k e (by simp) _ he⟩,⟨o,k it (by simp) o ho,r⟩,hi⟩
 item:=by
   intro X hP hw hK hc i pins s σ H E I hf st hg
   subst hP hw hK
   obtain ⟨⟨old,he⟩,hs,hi⟩:=st
   have hlt:i < x.cps.size:=hg
   have D:=ZaT (ZbK (prog:=X.prog) (w:=X.w) (A:=X.A.in1) (I.ok.hd hc) it x t)
   refine wpAny_pyNext_enum_itemD (i:=i+1) D (show IsEnum s.heap e it ((i+1:Nat):Int) old from he) ⟨i,rfl,hs⟩ (by omega) hne (by simpa using hne) fun v h' tk hP hOut hst hT hsz hk=>?_
   obtain ⟨j,ej,c,u,hcc,rfl⟩:=hP
   have ej':i=j:=by omega
   subst ej'
   obtain ⟨j,ej,hst⟩:=hst
   have ej':i+1=j:=by omega
   subst ej'
   have hel:e < s.heap.objs.size:=Heap.lt_size he
   have hil:it < s.heap.objs.size:=by obtain ⟨o,ho,_⟩:=hs;exact Heap.lt_size ho
   refine ⟨_,rfl,wpAny_letOwnedTupleGo_enum hOut fun h2 he2 hs2=>?_⟩
   generalize hO:({ cls:=.type "tuple",data:=.seq #[.int ((i+1:Nat):Int) tk,.str ⟨#[c]⟩ u] }:Obj)=O at hT
   have I1:Inv X pins σ (upd H s.heap.objs.size (.tup [.int ((i:Int)+1),.str ⟨#[c]⟩])) { s with heap:=s.heap.push O,toks:=tk+1 }:=by
     refine I.laid (t':=tk+1) (fun b o y=>Heap.get?_push_of_some _ y) (Nat.le_refl _) (show ObjOk X.prog X.w _ _ _ (.tup _) from ⟨by show 2≤sizeLine;decide,[.int ((i+1:Nat):Int) tk,.str ⟨#[c]⟩ u],.cons ⟨tk,rfl⟩ (.cons ⟨u,rfl⟩ .nil),?_⟩)
     rw [← hO];exact IsTup.new _ _
   have hfree:=I.hok.fresh (Nat.le_refl s.heap.objs.size)
   have hf2:∀ b∈[e,it],Yo X pins (upd H s.heap.objs.size (.tup [.int ((i:Int)+1),.str ⟨#[c]⟩])) b:=fun b hb=>by
     obtain ⟨f0,f1⟩:=hf b hb
     have hb':b≠s.heap.objs.size:=by
       rcases List.mem_cons.mp hb with q | hb
       · rw [q];exact Nat.ne_of_lt hel
       · rw [List.mem_singleton.mp hb];exact Nat.ne_of_lt hil
     exact ⟨by rw [Zh hb'];exact f0,f1⟩
   have I2:Inv X pins σ (upd H s.heap.objs.size (.tup [.int ((i:Int)+1),.str ⟨#[c]⟩])) { s with heap:=h2,toks:=tk+1 }:=by
     refine I1.turned2 (t':=tk+1) (h':=h2) (fun b o hb y=>?_) hf2
     have hbe:b≠e:=fun q=>hb (by simp [q])
     have hbi:b≠it:=fun q=>hb (by simp [q])
     rw [hs2.2 b hbe]
     rcases Heap.get?_push_cases y with ⟨q1,q2⟩ | y
     · rw [q1,q2];exact hT
     · exact hk b o hbe hbi y
   refine ⟨.ref s.heap.objs.size,_,I2,rfl,⟨s.heap.objs.size,c,hfree,hcc,rfl,rfl⟩,⟨⟨_,he2⟩,?_,hlt⟩,fun b hb=>(hf2 b hb).1⟩
   obtain ⟨o,ho,r⟩:=hst
   exact ⟨o,by rw [hs2.2 it hne.symm];exact ho,r⟩
 done:=by
   intro X hP hw hK hc i pins s σ H E I hf st hg
   subst hP hw hK
   obtain ⟨⟨old,he⟩,hs,hi⟩:=st
   have hle:x.cps.size≤i:=hg
   have D:=ZaT (ZbK (prog:=X.prog) (w:=X.w) (A:=X.A.in1) (I.ok.hd hc) it x t)
   have ei:i=x.cps.size:=by omega
   rw [ei] at hs
   obtain ⟨f0,f1,f2,f3,f4,f5⟩:=hf it (by simp)
   exact wpAny_pyNext_enum_endD D he ⟨_,rfl,hs⟩ fun h' eb=>⟨rfl,I.turned (t':=s.toks) (fun b o hb y=>eb b o hb y) f0 f1 f3 f4 f5⟩
 self:=fun _ _ _ _ _ st h=>by
   obtain ⟨⟨old,he⟩,_⟩:=st
   exact wpAny_pyIter_enum he h
theorem Zam {M:Model}{A:Around}{E:Value→Shared→Prop}{s:Shared}{pos:Pos}{T:String}{args:List (Bool×Sem Value)}{kws:List (Option Str×Sem Value)}{Q:Value→Shared→Prop}
   (h1:args.any (·.1)=false) (h2:kws.any (·.1.isNone)=false)
   (h:wpAny M A (evalArgs (.type T) true args kws) (fun a s₁=>wpAny M A (call (.type T) a.pos a.kw) Q E s₁) E s):wpAny M A (callWith pos (.type T) [] args kws) Q E s:=by
 unfold callWith
 refine wpAny_bind (wpAny_holding (Zr h fun a s₁ q=>wpAny_bind (wpAny_standAt ?_)))
 simp only [h1,h2,Bool.or_false]
 refine wpAny_bind (wpAny_pure (wpAny_bind (Zr q fun r s₂ hr=>?_)))
 exact wpAny_bind (wpAny_holding (wpAny_point (wpAny_pure hr)))
def ZlH (tl:TE):TI:=fun σ H R=>tl σ H fun v H1=>∃ x,[v]=[V.str x]∧R (Ite x) H1
section
variable {X:Cx}
theorem Zhr {l:Expr}{tl:TE}{elts:List Expr}{x1 j:Nat}{tp p pos kp kpos:Pos}(hg:Gl X "enumerate")(hm:X.mg "enumerate"=none)(hl:PE X l tl)
   (he:starEach [l] X.env=[(false,eval l X.env)]:=by rfl):PI X (.Tuple elts x1 tp) (.Call (.Name "enumerate" p) [l] [⟨some "start",.Constant (.int 1) j kp,kpos⟩] pos) (ZlH tl):=by
 intro pins s σ H R I h
 have ha:PA X [l] (Xu tl Wd):=Yw hl Za he
 have hk:PK X [⟨some "start",.Constant (.int 1) j kp,kpos⟩] (Xu (tC (.int 1)) Wd):=Zjo Zd Zkp
 refine wpAny_Call_Name_kw (WR I hg hm boot_enumerate (Zam (by rw [he];rfl) rfl (evalArgs_kw2 rfl ?_ he)))
 refine Zr (ha pos pins s σ H (fun vs H1=>∃ x,vs=[V.str x]∧R (Ite x) H1) I h) fun us s1 ⟨vs,H1,I1,r1,x,e,q⟩=>?_
 subst e
 obtain ⟨u,rfl,t,rfl⟩:=Ys r1
 refine Zr (hk pos pins s1 σ H1 (fun vs H2=>vs=[V.int 1]∧H2=H1) I1 ⟨rfl,rfl⟩) fun ws s2 ⟨zs,H2,I2,r2,e1,e2⟩=>?_
 subst e1 e2
 obtain ⟨u',rfl,t',rfl⟩:=Ys r2
 refine ZaA fun h' hE hit hsz hkk=>wpAny_pyIter_enum hE ?_
 refine ⟨s2.heap.objs.size+1,[s2.heap.objs.size+1,s2.heap.objs.size],_,_,H2,rfl,I2.kept (t':=s2.toks) hkk,ZfG x t _ _ (Nat.succ_ne_self _),⟨⟨_,hE⟩,hit,Nat.zero_le _⟩,fun b hb=>?_,q⟩
 rcases List.mem_cons.mp hb with z | hb
 · rw [z];exact I2.fpOk (Nat.le_succ _) (I2.hok.fresh (Nat.le_succ _))
 · rw [List.mem_singleton.mp hb];exact I2.fpOk (Nat.le_refl _) (I2.hok.fresh (Nat.le_refl _))
end
theorem ZhX {x:Str}{g:TG}{tb:TS}{D:UT}{σ:St}{H:Hp}(Pv:Nat→St→Hp→Prop)(h0:Pv 0 σ H)
   (hs:∀ i c t σ H,x.cps[i]?=some c→H t=none→Pv i σ H→g (.ref t) σ (upd H t (.tup [.int ((i:Int)+1),.str ⟨#[c]⟩])) fun σ2 H2=>tb { D with nx:=Pv (i+1),ct:=Pv (i+1),bk:=D.nx } σ2 H2) (hd:∀ σ H,Pv x.cps.size σ H→D.nx σ H) :
   ∃ W:Nat→Nat→St→Hp→Prop,(∃ m,W 0 m σ H)∧∀ i m σ H,W i m σ H →
     ((Ite x).stop i H∧D.nx σ H)∨((Ite x).go i H∧∃ N:St→Hp→Prop,(∀ σ' H',N σ' H'→∃ m',m' < m∧W (i+1) m' σ' H')∧∀ y H',(Ite x).yld i H y H'→g y σ H' fun σ2 H2=>tb { D with nx:=N,ct:=N,bk:=D.nx } σ2 H2):=by
 refine ⟨fun i m σ H=>m=x.cps.size - i∧i≤x.cps.size∧Pv i σ H,⟨x.cps.size,by simp,Nat.zero_le _,h0⟩,?_⟩
 rintro i m σ H ⟨rfl,hi,p⟩
 by_cases hlt:i < x.cps.size
 · refine .inr ⟨hlt,Pv (i+1),fun σ' H' p'=>⟨x.cps.size - (i+1),by omega,rfl,hlt,p'⟩,fun y H' z=>?_⟩
   obtain ⟨t,c,e1,e2,e3,e4⟩:=z
   subst e3 e4
   exact hs i c t σ _ e2 e1 p
 · have e:i=x.cps.size:=by omega
   subst e
   exact .inl ⟨Nat.le_refl _,hd σ H p⟩
end L2
set_option maxHeartbeats 2000000
namespace L2
open PySem PySem.W PySem.Spec PyProof.Rows
def Zaa (ks:List Str)(vs out:List Value):Prop:=∃ ps:List (Str×Value),ps.Perm (ks.zip vs)∧out=ps.map (·.2)∧ps.Pairwise fun p q=>¬ (q.1.cps.toList < p.1.cps.toList)
theorem ZcS:∀{keys:List Value}{ks:List Str}(_:StrsAre keys ks)(vs:List Value),(keys.zip vs).map (fun p=>(strOf p.1,p.2))=ks.zip vs
 | _,_,.nil,vs=>rfl
 | _,_,.cons x t h,[]=>rfl
 | _,_,.cons x t h,v::vs=>by
   rw [List.zip_cons_cons,List.map_cons,ZcS h vs];rfl
theorem ZgY {keys:Array Value}{vs:List Value}{ks:List Str}(hk:StrsAre keys.toList ks){xs:Array Keyed}(hp:xs.Perm (keys.zip vs.toArray))(hs:SortedToK strKind xs xs.size):Zaa ks vs (xs.map (·.2)).toList:=by
 have hl:xs.toList.Perm (keys.toList.zip vs):=by
   have:=Array.perm_iff_toList_perm.mp hp
   rwa [ksk_zip] at this
 refine ⟨xs.toList.map fun p=>(strOf p.1,p.2),?_,?_,?_⟩
 · have:=hl.map fun p=>(strOf p.1,p.2)
   rwa [ZcS hk] at this
 · rw [Array.toList_map,List.map_map];rfl
 · rw [List.pairwise_map,List.pairwise_iff_getElem]
   intro i j hi hj hij
   have hi':i < xs.size:=by simpa using hi
   have hj':j < xs.size:=by simpa using hj
   have str_at:∀ m (hm:m < xs.size),KK strKind xs m=(strOf xs[m].1).cps.toList:=fun m hm=>by
     have hmem:xs[m]∈keys.toList.zip vs:=hl.mem_iff.mp (by simp)
     have h1:=(List.of_mem_zip (show (xs[m].1,xs[m].2)∈_ from hmem)).1
     obtain ⟨x,t,e⟩:=hk.all _ h1
     rw [KK_str hm (x:=x) (t:=t) (q:=xs[m].2) (by rw [← e])]
     rw [e];rfl
   have h:=hs i j (Nat.le_of_lt hij) hj'
   rw [str_at i hi',str_at j hj'] at h
   simpa [KeyOrd.kle] using h
theorem ZfY {keys:Array Value}{vs:List Value}{ks:List Str}(hk:StrsAre keys.toList ks):KeysOf strKind (keys.zip vs.toArray):=by
 intro p hp
 rw [ksk_zip] at hp
 obtain ⟨x,t,e⟩:=hk.all _ (List.of_mem_zip (show (p.1,p.2)∈_ from hp)).1
 exact ⟨x.cps.toList,by rw [e]⟩
theorem ZgJ {keys:Array Value}{ks:List Str}(hk:StrsAre keys.toList ks)(h2:2≤keys.size):keyKind' keys=pure oneType':=by
 obtain ⟨l⟩:=keys
 match l,hk,h2 with
 | [],_,h2=>simp at h2
 | [_],_,h2=>simp at h2
 | v₁::v₂::r,hk,_=>exact keyKind_strs hk
theorem ZbJ {x:Str}{t:Tok}:∀{vs:List Value}{ss:List Str},StrsAre vs ss→StrsAre (vs++[.str x t]) (ss++[x])
 | _,_,.nil=>.cons x t .nil
 | _,_,.cons y u h=>.cons y u (ZbJ h)
section
variable {prog:Program}{w:World}{A:Around}{E:Value→Shared→Prop}{s:Shared}{a kS:Addr}{vs:List Value}{ks:List Str}{keys:Array Value}{e e1:Nat}{P:PySem.Fin→Shared→Prop}
theorem Zbd {st:SortSt}(nk:s.heap.get? kS=some (seqObj "list" keys e))(na:s.heap.get? a=some (seqObj "list" #[] e1))(hka:kS≠a)(hk:StrsAre keys.toList ks)(hlen:ks.length=vs.length)(h64:vs.length < 64)
   (hp:(arrOf st).Perm (keys.zip vs.toArray)) (hs:SortedToK strKind (arrOf st) (arrOf st).size) (hfl:failedOf st=none)
   (h:∀ h' tk out c,(∀ b o,b≠a→b≠kS→s.heap.get? b=some o→h'.get? b=some o)→h'.get? a=some (seqObj "list" out c)→Zaa ks vs out.toList→P (.done (.ret .none)) { s with heap:=h',toks:=tk }) :
   wpAny (model prog w) A (ksk_tail a false e1 (.ref kS) st) P E s:=by
 have hsz:keys.size=vs.length:=by have:=hk.length;rw [Array.length_toList] at this;omega
 have hsz2:(arrOf st).size=vs.length:=by rw [hp.size_eq,Array.size_zip,hsz,List.size_toArray,Nat.min_self]
 have s1:=Heap.SameBut.update s.heap kS (Obj.mapSeq fun _=>(#[]:Array Value))
 have na1:(s.heap.update kS (Obj.mapSeq fun _=>(#[]:Array Value))).get? a=some (seqObj "list" #[] e1):=(s1.2 a hka.symm).trans na
 have s2:=Heap.SameBut.update (s.heap.update kS (Obj.mapSeq fun _=>(#[]:Array Value))) a (Obj.mapSeq fun _=>(arrOf st).map (·.2))
 obtain ⟨c2,hc2⟩:∃ c2,((s.heap.update kS (Obj.mapSeq fun _=>(#[]:Array Value))).update a (Obj.mapSeq fun _=>(arrOf st).map (·.2))).get? a=some (seqObj "list" ((arrOf st).map (·.2)) c2):=⟨_,get?_update_seq na1 fun _=>(arrOf st).map (·.2)⟩
 unfold ksk_tail
 try dsimp only
 refine wpAny_bind (listUpdate_at nk rfl ?_ (by rw [hsz,sizeLine_eq];omega) (Nat.zero_le _))
 refine wpAny_bind (wpAny_letGo (wpAny_bind (seqEpoch_at na1 rfl ?_)))
 refine wpAny_bind (listUpdate_at na1 rfl ?_ (Nat.zero_le _) (Nat.le_trans (Nat.le_of_eq (show ((arrOf st).map (·.2)).size=vs.length by rw [Array.size_map];exact hsz2)) (by rw [sizeLine_eq];omega)))
 rw [hfl]
 simp only [bne_self_eq_false,Bool.false_eq_true,if_false]
 exact wpAny_pure (h _ _ _ c2 (fun b o hb1 hb2 y=>(s2.2 b hb1).trans ((s1.2 b hb2).trans y)) hc2 (ZgY hk hp hs))
theorem Zgr (nk:s.heap.get? kS=some (seqObj "list" keys e))(na:s.heap.get? a=some (seqObj "list" #[] e1))(hka:kS≠a)(hk:StrsAre keys.toList ks)(hlen:ks.length=vs.length)(h64:vs.length < 64)
   (h:∀ h' tk out c,(∀ b o,b≠a→b≠kS→s.heap.get? b=some o→h'.get? b=some o)→h'.get? a=some (seqObj "list" out c)→Zaa ks vs out.toList→P (.done (.ret .none)) { s with heap:=h',toks:=tk }) :
   wpAny (model prog w) A (ksk_end a false vs.toArray e1 (.ref kS) keys) P E s:=by
 have hsz:keys.size=vs.length:=by have:=hk.length;rw [Array.length_toList] at this;omega
 have hzs:(keys.zip vs.toArray).size=vs.length:=by rw [Array.size_zip,hsz,List.size_toArray,Nat.min_self]
 unfold ksk_end
 simp only [Bool.false_eq_true,if_false]
 by_cases h2:vs.toArray.size < 2
 · rw [if_pos h2,if_pos h2]
   refine wpAny_bind (wpAny_pure ?_)
   rw [StateT.run_pure]
   refine wpAny_bind (wpAny_pure ?_)
   try dsimp only
   refine Zbd (st:=SortSt.mk' general' (keys.zip vs.toArray) #[] 7 none) nk na hka hk hlen h64 (Array.Perm.refl _) ?_ rfl h
   intro i j hij hj
   have hj2:j < (keys.zip vs.toArray).size:=hj
   rw [hzs] at hj2
   rw [List.size_toArray] at h2
   have:i=j:=by omega
   subst this
   exact KeyOrd.kle_refl _
 · rw [if_neg h2,if_neg h2]
   rw [List.size_toArray] at h2
   rw [ZgJ hk (by rw [hsz];omega)]
   refine wpAny_bind (wpAny_pure (wpAny_bind (wpAny_mono (wpS_sortRunsK (κ:=strKind) strKind_oneLt (a₀:=keys.zip vs.toArray) (st:=SortSt.mk' oneType' (keys.zip vs.toArray) #[] 7 none)
     (Q:=fun _ st'=>(arrOf st').Perm (keys.zip vs.toArray)∧failedOf st'=none∧SortedToK strKind (arrOf st') (keys.zip vs.toArray).size)
     (ZfY hk) ⟨Array.Perm.refl _,rfl,rfl,rfl⟩ (by rw [hzs];omega) (by rw [hzs];exact h64) fun st' a1 a2 a3=>⟨a1,a2,a3⟩) ?_ fun _ _ y=>y)))
   rintro ⟨⟨⟩,st'⟩ s' ⟨rfl,hp,hf,hs⟩
   try dsimp only
   exact Zbd nk na hka hk hlen h64 hp (by rw [hp.size_eq];exact hs) hf h
def Zbk (prog:Program)(w:World)(A:Around)(s:Shared)(a:Addr)(f:Value)(vs:List Value)(ks:List Str):Prop :=
 ∀ (i:Nat) (v:Value) (k:Str),vs[i]?=some v→ks[i]?=some k→∀ (h:Heap) (tk:Nat),(∀ b o,b≠a→s.heap.get? b=some o→h.get? b=some o)→s.heap.objs.size≤h.objs.size→∀ Q':Value→Shared→Prop,
   (∀ h' tk' t,(∀ b o,h.get? b=some o→h'.get? b=some o)→h.objs.size≤h'.objs.size→Q' (.str k t) { s with heap:=h',toks:=tk' })→wpAny (model prog w) A (call f [v]) Q' (fun _ _=>False) { s with heap:=h,toks:=tk }
theorem ZeV {f:Value}{s0:Shared}(hs0:∃ tk,s={ s0 with heap:=s.heap,toks:=tk })(k0:∀ b o,b≠a→s0.heap.get? b=some o→s.heap.get? b=some o)(z0:s0.heap.objs.size≤s.heap.objs.size)(hkn:s0.heap.objs.size≤kS)
   (nk:s.heap.get? kS=some (seqObj "list" #[] 0)) (na:s.heap.get? a=some (seqObj "list" #[] e1)) (hka:kS≠a) (hlen:ks.length=vs.length) (h64:vs.length < 64) (turn:Zbk prog w A s0 a f vs ks)
   (h:∀ h' tk out c,(∀ b o,b≠a→s0.heap.get? b=some o→h'.get? b=some o)→h'.get? a=some (seqObj "list" out c)→Zaa ks vs out.toList→P (.done (.ret .none)) { s0 with heap:=h',toks:=tk }) :
   wpAny (model prog w) A (ksk_rest a f false vs.toArray e1 (.ref kS)) P E s:=by
 obtain ⟨tk0,hs0⟩:=hs0
 unfold ksk_rest
 refine wpAny_bind (wpAny_rule ?_)
 first
   | rw [List.forIn_toArray]
   | (rw [← Array.forIn_toList];simp only [List.toList_toArray])
 refine wpAny_bind (ksk_fold (fun i s'=>∃ h' tk kA c,s'={ s0 with heap:=h',toks:=tk }∧(∀ b o,b≠a→s0.heap.get? b=some o→h'.get? b=some o)∧s0.heap.objs.size≤h'.objs.size∧h'.get? kS=some (seqObj "list" kA c)∧h'.get? a=some (seqObj "list" #[] e1)∧StrsAre kA.toList (ks.take i)) vs 0 s
   ⟨s.heap,tk0,#[],0,hs0,k0,z0,nk,na,by simpa using StrsAre.nil⟩ ?step ?done)
 case step =>
   rintro j x s' hx ⟨h',tk,kA,c,rfl,k1,z1,nk1,na1,hk⟩
   simp only [Nat.zero_add] at hk ⊢
   have hj:j < vs.length:=(List.getElem?_eq_some_iff.mp hx).1
   obtain ⟨k,hkj⟩:∃ k,ks[j]?=some k:=⟨_,List.getElem?_eq_getElem (by omega)⟩
   have hz:kA.size≤vs.length:=by
     have h1:=hk.length
     rw [Array.length_toList,List.length_take] at h1
     omega
   refine wpAny_bind (wpAny_attempt (wpAny_mono (turn j x k hx hkj h' tk k1 z1 (fun v s''=>∃ g tk2 t2,v=.str k t2∧s''={ s0 with heap:=g,toks:=tk2 }∧(∀ b o,h'.get? b=some o→g.get? b=some o)∧h'.objs.size≤g.objs.size) (fun g tk2 t2 q z=>⟨g,tk2,t2,rfl,rfl,q,z⟩)) (fun v s'' he=>?_) fun _ _ hF=>hF.elim))
   obtain ⟨g,tk2,t2,rfl,rfl,k2,z2⟩:=he
   try dsimp only
   have nk2:=k2 _ _ nk1
   have na2:=k2 _ _ na1
   have s1:=Heap.SameBut.update g kS (Obj.mapSeq (·.push (.str k t2)))
   obtain ⟨c2,hc2⟩:∃ c2,(g.update kS (Obj.mapSeq (·.push (.str k t2)))).get? kS=some (seqObj "list" (kA.push (.str k t2)) c2):=⟨_,get?_update_seq nk2 (·.push (.str k t2))⟩
   have ek:ks.take (j+1)=ks.take j++[k]:=by rw [List.take_add_one,hkj];simp
   have ea:(kA.push (Value.str k t2)).toList=kA.toList++[Value.str k t2]:=by simp
   refine wpAny_bind (listUpdate_at nk2 rfl ?_ (by rw [sizeLine_eq];omega) (Nat.le_trans (Nat.le_of_eq (Array.size_push ..)) (by rw [sizeLine_eq];omega)))
   refine wpAny_pure ⟨rfl,_,_,kA.push (.str k t2),c2,rfl,fun b o hb y=>?_,Nat.le_trans (Nat.le_trans z1 z2) (Nat.le_of_eq (Heap.size_update ..).symm),hc2,(s1.2 a hka.symm).trans na2,by rw [ea,ek];exact ZbJ hk⟩
   exact (s1.2 b (fun z=>by rw [z] at y;exact absurd (Heap.lt_size y) (Nat.not_lt.mpr hkn))).trans (k2 _ _ (k1 b o hb y))
 case done =>
   rintro s' ⟨h',tk,kA,c,rfl,k1,z1,nk1,na1,hk⟩
   have hk':StrsAre kA.toList ks:=by
     have e3:ks.take (0+vs.length)=ks:=List.take_of_length_le (by omega)
     rw [e3] at hk
     exact hk
   try dsimp only
   refine wpAny_bind (listItems_at nk1 rfl ?_)
   refine Zgr nk1 na1 hka hk' hlen h64 fun h3 tk3 out c3 k3 a3 o3=>h h3 tk3 out c3 (fun b o hb y=>k3 b o hb (fun z=>?_) (k1 b o hb y)) a3 o3
   rw [z] at y
   exact absurd (Heap.lt_size y) (Nat.not_lt.mpr hkn)
theorem Zfd {f:Value}{n:Nat}(ho:s.heap.get? a=some (seqObj "list" vs.toArray n))(hlen:ks.length=vs.length)(h64:vs.length < 64)(turn:Zbk prog w A s a f vs ks)
   (h:∀ h' tk out c,(∀ b o,b≠a→s.heap.get? b=some o→h'.get? b=some o)→h'.get? a=some (seqObj "list" out c)→Zaa ks vs out.toList→P (.done (.ret .none)) { s with heap:=h',toks:=tk }) :
   wpAny (model prog w) A (ksk_tree a f false) P E s:=by
 have ha:a < s.heap.objs.size:=Heap.lt_size ho
 have s1:=Heap.SameBut.update s.heap a (Obj.mapSeq fun _=>(#[]:Array Value))
 obtain ⟨e1,ho1⟩:∃ e1,(s.heap.update a (Obj.mapSeq fun _=>(#[]:Array Value))).get? a=some (seqObj "list" #[] e1):=⟨_,get?_update_seq ho fun _=>#[]⟩
 have hkS:((s.heap.update a (Obj.mapSeq fun _=>(#[]:Array Value))).push (seqObj "tuple" vs.toArray 0)).objs.size=s.heap.objs.size+1:=by rw [size_push',Heap.size_update]
 unfold ksk_tree
 refine wpAny_bind (listItems_at ho rfl ?_)
 refine wpAny_bind (listUpdate_at ho rfl ?_ (by rw [List.size_toArray,sizeLine_eq];omega) (Nat.zero_le _))
 refine wpAny_bind (seqEpoch_at ho1 rfl (wpAny_bind (wpAny_newTuple ?_ (by show vs.length≤_;rw [sizeLine_eq];omega))))
 refine wpAny_bind (wpAny_newList ?_ (Nat.zero_le _))
 refine wpAny_holding ?_
 refine ZeV (s0:=s) (s:={ s with heap:=((s.heap.update a (Obj.mapSeq fun _=>(#[]:Array Value))).push (seqObj "tuple" vs.toArray 0)).push (seqObj "list" #[] 0) }) (kS:=((s.heap.update a (Obj.mapSeq fun _=>(#[]:Array Value))).push (seqObj "tuple" vs.toArray 0)).objs.size)
   ⟨s.toks,rfl⟩ (fun b o hb y=>Heap.get?_push_of_some _ (Heap.get?_push_of_some _ ((s1.2 b hb).trans y))) ?_ (by rw [hkS];exact Nat.le_succ _) (Heap.get?_push_size _ rfl) (Heap.get?_push_of_some _ (Heap.get?_push_of_some _ ho1)) (by rw [hkS];exact Nat.ne_of_gt (Nat.lt_succ_of_lt ha)) hlen h64 turn h
 show s.heap.objs.size≤(((s.heap.update a _).push _).push _).objs.size
 rw [size_push',hkS];omega
theorem ZjE {f:Value}{l:Addr}{Q:Value→Shared→Prop}(hl:s.heap.IsList l vs.toArray)(hlen:ks.length=vs.length)(h64:vs.length < 64)(ht:∀ x,Builtin.«list.sort» ⟨[.ref x],[(Str.ofString "key",f)]⟩=ksk_tree x f false)
   (turn:∀ (h1:Heap) (tk1:Nat),(∀ b o,s.heap.get? b=some o→h1.get? b=some o)→s.heap.objs.size≤h1.objs.size→Zbk prog w A.in1.in1 { s with heap:=h1,toks:=tk1 } (s.heap.objs.size+1) f vs ks)
   (h:∀ h' tk out c,(∀ b o,s.heap.get? b=some o→h'.get? b=some o)→h'.get? (s.heap.objs.size+1)=some (seqObj "list" out c)→Zaa ks vs out.toList→Q (.ref (s.heap.objs.size+1)) { s with heap:=h',toks:=tk }) :
   wpAny (model prog w) A (call (.builtin "sorted") [.ref l] [(Str.ofString "key",f)]) Q E s:=by
 refine call_function_entry_kw kind_sorted plain_sorted entry_sorted (ksk_s1 _ _) ?_
 unfold Builtin.«sorted»
 refine wpAny_bind (m:=checkCount "sorted" 1 1 _) (wpAny_pure ?_)
 refine wpAny_bind (collect_list hl ?_ (by rw [sizeLine_eq];omega))
 refine wpAny_bind (wpAny_newList ?_ (by rw [sizeLine_eq];omega))
 generalize hg:(s.heap.push (seqObj "list" #[] 0)).update s.heap.objs.size (Obj.mapSeq (·++vs.toArray))=g
 have hsz:g.objs.size=s.heap.objs.size+1:=by rw [← hg,Heap.size_update,size_push']
 have kg:∀ b o,s.heap.get? b=some o→(g.push (seqObj "list" vs.toArray 0)).get? b=some o:=fun b o q=>by
   have hlt:b < s.heap.objs.size:=Heap.lt_size q
   rw [Heap.get?_push_ne _ _ _ (by rw [hsz];exact Nat.ne_of_lt (Nat.lt_succ_of_lt hlt)),← hg,Heap.get?_update_ne _ _ _ _ (Nat.ne_of_lt hlt),Heap.get?_push_ne _ _ _ (Nat.ne_of_lt hlt)]
   exact q
 have hoL:(g.push (seqObj "list" vs.toArray 0)).get? (s.heap.objs.size+1)=some (seqObj "list" vs.toArray 0):=by rw [← hsz];exact Heap.get?_push_size _ rfl
 show wpAny _ _ _ _ _ { s with heap:=g.push (seqObj "list" vs.toArray 0) }
 rw [hsz]
 refine wpAny_bind (wpAny_holding (wpAny_call_entry_kw slot_list_sort ⟨_,hoL,rfl⟩ entry_list_sort ?body (ksk_l1 _ _)))
 show wpAny (model prog w) A.in1.in1 (Builtin.«list.sort» ⟨[.ref (s.heap.objs.size+1)],[(Str.ofString "key",f)]⟩) _ _ _
 rw [ht]
 have hz2:s.heap.objs.size≤(g.push (seqObj "list" vs.toArray 0)).objs.size:=by rw [size_push',hsz];omega
 refine Zfd (s:={ s with heap:=g.push (seqObj "list" vs.toArray 0) }) hoL hlen h64 (turn (g.push (seqObj "list" vs.toArray 0)) s.toks kg hz2) fun h' tk out c k3 a3 o3=>⟨_,rfl,?_⟩
 exact wpAny_pure ⟨_,rfl,h h' tk out c (fun b o y=>k3 b o (Nat.ne_of_lt (Nat.lt_succ_of_lt (Heap.lt_size y))) (kg b o y)) a3 o3⟩
end
end L2
set_option maxHeartbeats 2000000
namespace L2
open PySem PySem.W PySem.Spec PyProof.Rows
def UZ (base:Heap)(mg:Str→Option Value):Prop:=∃ bm ob,mg "__builtins__"=some (.ref bm)∧bm≠builtinsNs∧base.get? bm=some ob∧ob.cls=.type "module"∧ob.dict=some builtinsNs∧ob.data=.plain
def ZeJ (ts:List Addr)(H:Hp):Prop:=∀ b,H b=none∨(∃ o xs,H b=some (.frz o (.lst xs)))∨(H b=some (.tbl #[])∧b∈ts)
theorem Zgk {P:Program}{w:World}{K:PySem.W.Frag}{mg mb:Str→Option Value}{CX:Ud}{k:Nat}{fa a:Addr}{fd:FuncData}{x:Str}{sp:Sp}{s₁:Shared}{vs:List Value}{ns:List Int}{ts:List Addr}
   (KX:K.In s₁.heap) (hns:s₁.heap.Ns mainGlobals mg) (hb:s₁.heap.Ns builtinsNs mb) (hbb:∀ x:Str,x≠"__name__"→mb x=bootBuiltins x) (hlim:s₁.heap.NoLimit) (hg:s₁.gens=#[]) (hbm:UZ s₁.heap mg)
   (ha:s₁.heap.get? a=some { cls:=.type "list",data:=.seq vs.toArray }) (hi:IntsAre vs ns) (hl:ns.length≤sizeLine) (hr:Room k callerA)
   (hts:∀ b∈ts,s₁.heap.get? b=some (tabObj #[])∧K.lookup b=none∧∃ c,CodeHd s₁.heap c b)
   (F:∀ base:Heap,K.In base→base.Ns mainGlobals mg→UZ base mg→FnOk P w K mg base CX k fa fd [x] sp) (hbind:∀ (s:Shared) (u:Value),BindsTo s fd ⟨[u],[]⟩ [(x,u)])
   (hsp:∀ H:Hp,ZeJ ts H→SqL K H a (ns.map V.int)→(∀ b∈ts,H b=some (.tbl #[]))→sp [.ref a] H (fun v _=>v=.bl true) fun _ _ _=>False)
   (hCX:∀ H e s',CX [] H s₁ (fun _ _ _=>False) e s'→False) :
   codeAny (model P w) callerA (.call (.ref fa) ⟨[.ref a],[]⟩) (fun r s'=>r=.ok (.ret (.bool true))∧OldK s₁.heap s'.heap∧s'.os=s₁.os∧AllBare s'.gens) s₁:=by
 have rv:=Zby hi
 have lenV:=hi.length
 have nta:a ∉ ts:=fun z=>by
   have e:=(hts a z).1
   rw [ha] at e;cases e
 have core : ∀ H:Hp,ZeJ ts H→SqL K H a (ns.map V.int)→HOk P w H s₁.heap→(∀ b∈ts,H b=some (.tbl #[]))→(∀ b,H b≠none→b=a∨b∈ts)→(∀ b,H b≠none→K.lookup b=none) →
     codeAny (model P w) callerA (.call (.ref fa) ⟨[.ref a],[]⟩) (fun r s'=>r=.ok (.ret (.bool true))∧OldK s₁.heap s'.heap∧s'.os=s₁.os∧AllBare s'.gens) s₁:=by
   intro H hO hS hok hT hA hK
   have base_of:∀ {b:Addr} {o:Obj},s₁.heap.get? b=some o→H b=none→(Ul s₁.heap H).get? b=some o:=fun y n=>Ziq y n
   have free:∀ {b:Addr} {o:Obj},s₁.heap.get? b=some o→(∀ its n,o.data≠.seq its n)→(∀ fs,o.data≠.fields fs)→H b=none:=fun {b o} y d1 d2=>by
     cases q:H b with
     | none=>rfl
     | some u =>
       rcases hA b (by rw [q];simp) with z | z
       · subst z
         rw [ha] at y;cases y
         exact absurd rfl (d1 _ _)
       · rw [(hts b z).1] at y;cases y
         exact absurd rfl (d2 _)
   have nsK:∀ {b:Addr} {m:Str→Option Value},s₁.heap.Ns b m→(Ul s₁.heap H).Ns b m:=fun {b m} ⟨o,es,ep,y,d,r⟩=>⟨o,es,ep,base_of y (free y (fun its n z=>by rw [d] at z;cases z) fun fs z=>by rw [d] at z;cases z),d,r⟩
   have hKb:K.In (Ul s₁.heap H):=fun b o y=>base_of (KX b o y) (by
     cases q:H b with
     | none=>rfl
     | some u=>rw [hK b (by rw [q];simp)] at y;cases y)
   have hBm:UZ (Ul s₁.heap H) mg:=by
     obtain ⟨bm,ob,h1,h2,h3,h4,h5,h6⟩:=hbm
     exact ⟨bm,ob,h1,h2,base_of h3 (free h3 (fun its n z=>by rw [h6] at z;cases z) fun fs z=>by rw [h6] at z;cases z),h4,h5,h6⟩
   have hM:Mod K mg (Ul s₁.heap H):=⟨hKb,nsK hns,⟨mb,nsK hb,hbb⟩,let ⟨mc,h1,h2⟩:=hlim;⟨mc,nsK h1,h2⟩⟩
   have e0:Env0 P w K mg (Ul s₁.heap H) callerA [] s₁ H:=⟨rfl,hM,fun b o e=>Zji e,Nat.le_of_eq (ZgM _ _),trivial,fun b hb=>absurd (show b∈([]:List Addr) from hb) (by simp),hok,.of_eq hg⟩
   refine codeAny_mono ((F _ hKb (nsK hns) hBm).run callerA [] s₁ H ⟨[.ref a],[]⟩ [.ref a] [.ref a] _ _ hr e0 (hbind s₁ (.ref a)) (.cons rfl .nil) (hsp H hO hS hT)) fun r s' h=>?_
   cases r with
   | error e=>exact (hCX H e s' h).elim
   | ok fl =>
     cases fl with
     | next=>exact False.elim h
     | brk=>exact False.elim h
     | cont=>exact False.elim h
     | ret u =>
       obtain ⟨v,H',os,bare,un,hok',r',q⟩:=h
       have q':v=.bl true:=q
       subst q'
       obtain rfl:u=Value.bool true:=r'
       have key:∀ b o,s₁.heap.get? b=some o→s'.heap.get? b=some o∨(b∈ts∧∃ more:Array Value,s'.heap.get? b=some (tabObj (#[]++more))):=fun b o y=>by
         cases q:H b with
         | none=>exact .inl (un.keep b o y q (by intro z;exact absurd (show b∈([]:List Addr) from z) (by simp)) (by simp))
         | some u =>
           rcases hO b with z | ⟨ob,xs,z⟩ | ⟨z,zt⟩
           · rw [q] at z;cases z
           · have z2:=un.frzs b ob _ z
             obtain ⟨e1,_⟩:=hok b _ z
             obtain ⟨e2,_⟩:=hok' b _ z2
             rw [y] at e1;cases e1
             exact .inl e2
           · obtain ⟨more,z2⟩:=un.tbls b #[] z
             exact .inr ⟨zt,more,show s'.heap.get? b=some { cls:=.none,data:=.fields (#[]++more) } from hok' b _ z2⟩
       refine ⟨rfl,⟨fun b o y=>?_,fun b o y=>?_⟩,os,bare⟩
       · rcases key b o y with z | ⟨zt,more,z⟩
         · exact .inl z
         · obtain ⟨t1,_,c,t3⟩:=hts b zt
           rw [t1] at y;cases y
           exact .inr (.inl ⟨(t3.tab t1).isCodeTable,rfl,#[],more,rfl,z⟩)
       · rcases key b o y with z | ⟨zt,more,z⟩
         · exact ⟨_,z⟩
         · exact ⟨_,z⟩
 have okT:∀ (H:Hp) (b:Addr),b∈ts→ObjOk P w H s₁.heap b (.tbl #[]):=fun H b hb=>(hts b hb).1
 cases hk:K.lookup a with
 | some o =>
   have e:=KX a o hk
   rw [ha] at e
   cases e
   refine core (fun b=>if b∈ts then some (.tbl #[]) else none) (fun b=>?_) (.inr ⟨_,vs.toArray,_,hk,rfl,rfl,rfl,by rw [List.size_toArray,lenV];exact hl,by simpa using rv⟩) (fun b u z=>?_) (fun b hb=>if_pos hb) (fun b z=>?_) (fun b z=>?_)
   · by_cases hb:b∈ts
     · exact .inr (.inr ⟨if_pos hb,hb⟩)
     · exact .inl (if_neg hb)
   · by_cases hb:b∈ts
     · have z':=(if_pos hb).symm.trans z
       cases z'
       exact okT _ b hb
     · have z':=(if_neg hb).symm.trans z
       cases z'
   · by_cases hb:b∈ts
     · exact .inr hb
     · exact absurd (if_neg hb) z
   · by_cases hb:b∈ts
     · exact (hts b hb).2.1
     · exact absurd (if_neg hb) z
 | none =>
   refine core (fun b=>if b=a then some (.frz { cls:=.type "list",data:=.seq vs.toArray } (.lst (ns.map V.int))) else if b∈ts then some (.tbl #[]) else none) (fun b=>?_) (.inl (.inr ⟨{ cls:=.type "list",data:=.seq vs.toArray },if_pos rfl⟩)) (fun b u z=>?_)
     (fun b hb=>(if_neg (fun z:b=a=>nta (by rw [← z];exact hb))).trans (if_pos hb)) (fun b z=>?_) (fun b z=>?_)
   · by_cases h1:b=a
     · exact .inr (.inl ⟨_,_,if_pos h1⟩)
     · by_cases hb:b∈ts
       · exact .inr (.inr ⟨(if_neg h1).trans (if_pos hb),hb⟩)
       · exact .inl ((if_neg h1).trans (if_neg hb))
   · by_cases h1:b=a
     · have z':=(if_pos h1).symm.trans z
       cases z'
       subst h1
       exact ⟨ha,by rw [List.length_map];exact hl,vs,_,rv,ha⟩
     · have z1:=(if_neg h1).symm.trans z
       by_cases hb:b∈ts
       · have z':=(if_pos hb).symm.trans z1
         cases z'
         exact okT _ b hb
       · have z':=(if_neg hb).symm.trans z1
         cases z'
   · by_cases h1:b=a
     · exact .inl h1
     · by_cases hb:b∈ts
       · exact .inr hb
       · exact absurd ((if_neg h1).trans (if_neg hb)) z
   · by_cases h1:b=a
     · rw [h1];exact hk
     · by_cases hb:b∈ts
       · exact (hts b hb).2.1
       · exact absurd ((if_neg h1).trans (if_neg hb)) z
theorem walk_ofT {l:PySem.W.OpenLaw}{n k:Nat}{q:Program}{loose:List Str}{XP:(Str→Option Value)→Heap→Prop}{YP:World→Heap→Prop}{d:DefRec}{K:Params→PySem.W.Frag}{CX:World→Ud}{sp:World→Sp}{x:Str}{ts:List Addr}
   (hn:l.most=some n) (hn2:n≤sizeLine) (hdf:d.params.defaults=[]) (hr:Room k callerA)
   (hY:∀ (w:World) (h:Heap),YP w h→(K w.params).In h∧∀ b∈ts,h.get? b=some (tabObj #[]))
   (hK:∀ (w:World) (b:Addr),b∈ts→(K w.params).lookup b=none∧∃ c,codeHdIn (K w.params) c b=true)
   (F:∀ (w:World) (mg:Str→Option Value) (fa:Addr) (h:Heap),(K w.params).In h→h.Ns mainGlobals mg→mg d.name=some (.ref fa) →
     ∃ fd:FuncData,(∀ (s:Shared) (u:Value),BindsTo s fd ⟨[u],[]⟩ [(x,u)]) ∧
       ∀ base:Heap,(K w.params).In base→base.Ns mainGlobals mg→UZ base mg→FnOk l.prog w (K w.params) mg base (CX w) k fa fd [x] (sp w))
   (hsp:∀ (w:World) (H:Hp) (a:Addr) (ns:List Int),ns.length≤n→ZeJ ts H→SqL (K w.params) H a (ns.map V.int)→(∀ b∈ts,H b=some (.tbl #[]))→sp w [.ref a] H (fun v _=>v=.bl true) fun _ _ _=>False)
   (hCX:∀ (w:World) (H:Hp) (s:Shared) (e:Value) (s':Shared),CX w [] H s (fun _ _ _=>False) e s'→False) :
   PySem.W.WalkO q loose XP YP l.row.toRowW d [] (fun f vs=>PySem.call f vs):=by
 refine Att.attach_call hn hdf fun w s₀ s₁ mg mb fa o pm cd doc a vs ns G Y ho hd hcd hmg hobj hints hlen hg=>?_
 obtain ⟨KX,hT⟩:=hY w _ Y
 obtain ⟨fd,hb,hF⟩:=F w mg fa _ KX G.T.g hmg
 exact Zgk (ts:=ts) KX G.T.g G.T.b G.T.builtins G.T.nolimit hg G.T.bmain hobj hints (Nat.le_trans hlen hn2) hr (fun b hb'=>⟨hT b hb',(hK w b hb').1,let ⟨c,hc⟩:=(hK w b hb').2;⟨c,codeHd_of_K KX hc⟩⟩) hF hb (fun H hO hS hTb=>hsp w H a ns hlen hO hS hTb) fun H e s'=>hCX w H s₁ e s'
end L2
set_option maxHeartbeats 2000000
namespace L2
open PySem PySem.W PySem.Spec PyProof.Rows
abbrev VN (apos:Pos):Arguments:={ posonlyargs:=[],args:=[{ arg:="pair",annotation:=none,pos:=apos }],vararg:=none,kwonlyargs:=[],kw_defaults:=[],kwarg:=none,defaults:=[] }
abbrev Uq (p1 p2 p3:Pos):Expr:=.Subscript (.Name "pair" p1) (.Constant (.int 0) 0 p2) p3
abbrev WX:Scope:={ kind:=.function,names:=[("pair",.local)],isGenerator:=false,isCoroutine:=false,more:=[] }
section
variable {prog:Program}{w:World}{A:Around}{E:Value→Shared→Prop}{s:Shared}
theorem ZhJ {q t:Addr}{qual:Str}{apos p1 p2 p3:Pos}{pm cdv ct k:Value}{its:Array Value}{Q:Value→Shared→Prop}
   (ho:s.heap.get? q=some { cls:=.type "function",data:=.func (kla_fn "<lambda>" qual (VN apos) (Uq p1 p2 p3) WX [] pm cdv ct) }) (hcd:s.heap.CodeRec cdv qual) (hlim:s.heap.NoLimit) (hroom:A.depth < recursionLimit)
   (ht:IsTup s.heap t its) (h0:its[0]?=some k)
   (hQ:∀ h' tk,(∀ b o,s.heap.get? b=some o→h'.get? b=some o)→s.heap.objs.size≤h'.objs.size→Q k { s with heap:=h',toks:=tk }) :
   wpAny (model prog w) A (call (.ref q) [.ref t]) Q E s:=by
 refine wpAny_call (kla_callFunE (body:=Uq p1 p2 p3) hroom ho rfl rfl rfl rfl hcd ?_)
 refine wpAny_of_eq (a:=[(Str.ofString "pair",Value.ref t)]) rfl ?_
 refine wpAny_newFunctionEnv_cells rfl (fun y hy=>?_) fun env he s₁ x=>⟨hlim.keeps x.toInCall.keep,kla_codeExpr ?_⟩
 · rw [List.mem_singleton.mp hy];exact .inl rfl
 have hns:=x.toInCall.ns
 obtain ⟨h1,tk1,e1⟩:=x.toInCall.same
 have hkeep:=x.toInCall.keep
 have hfr:=x.toInCall.fresh
 have hL:=hns.lt
 have hkind:env.kindOf "pair"=some .local:=by rw [he];rfl
 have hm:(bindL env.kindOf [(Str.ofString "pair",Value.ref t)] fun _=>none) "pair"=some (.ref t):=by
   rw [he];rfl
 have hsc:env.scope.kind=.function:=by rw [he];rfl
 clear x
 refine Subscript_ (wpAny_Name (wpAny_loadName_local hsc hkind hns hm (wpAny_Constant_int ?_)) (by decide))
 have ht1:IsTup s₁.heap t its:=by
   obtain ⟨o,e,r⟩:=ht
   exact ⟨o,hkeep _ _ e,r⟩
 have fin:Q k { s₁ with toks:=s₁.toks+1 }:=by
   subst e1
   exact hQ h1 (tk1+1) hkeep (Nat.le_of_lt (Nat.lt_of_le_of_lt hfr hL))
 have hsz:0 < its.size:=(Array.getElem?_eq_some_iff.mp h0).1
 have ht2:IsTup (Shared.heap { s₁ with toks:=s₁.toks+1 }) t its:=ht1
 exact subscriptTail_builtinR (x:=k) ht2.typeIs slot_tuple_getitem.lookup
   (getItem_tuple (j:=0) (Q:=fun r s'=>r=k∧(fun v s'=>(match (Except.ok (Flow.ret v):Result) with | .ok (.ret v)=>Q v s' | .ok _=>False | .error e=>E e s')) r s') ht2 (by decide) (by decide) (Zbu (n:=its.size) (i:=0) (j:=0) (by unfold Ws;rw [if_pos (by decide),if_pos (by omega)];rfl)).1 h0 ⟨rfl,fin⟩) rfl
theorem Zdf:∀{ts:List Addr}{us:List Value},Vals (ts.map V.ref) us→us=ts.map Value.ref
 | [],_,.nil=>rfl
 | t::ts,_,.cons r h=>by
   have e:=Zdf h
   cases (show _=Value.ref t from r)
   rw [e];rfl
end
def Zfj (ks:List Str)(ts ts':List Addr):Prop:=∃ ps:List (Str×Addr),ps.Perm (ks.zip ts)∧ts'=ps.map (·.2)∧ps.Pairwise fun p q=>¬ (q.1.cps.toList < p.1.cps.toList)
def unR:Value→Addr
 | .ref a=>a
 | _=>0
theorem ZjK {ks:List Str}{ts:List Addr}{out:List Value}(h:Zaa ks (ts.map Value.ref) out):∃ ts',out=ts'.map Value.ref∧Zfj ks ts ts':=by
 obtain ⟨ps,hp,ho,hs⟩:=h
 have hmem:∀ p∈ps,p.2=Value.ref (unR p.2):=fun p hp'=>by
   have h1:=(List.of_mem_zip (show (p.1,p.2)∈_ from hp.mem_iff.mp hp')).2
   obtain ⟨t,_,e⟩:=List.mem_map.mp h1
   rw [← e];rfl
 refine ⟨ps.map fun p=>unR p.2,?_,ps.map (fun p=>(p.1,unR p.2)),?_,?_,?_⟩
 · rw [ho,List.map_map]
   exact List.map_congr_left hmem
 · have h1:=hp.map fun p:Str×Value=>(p.1,unR p.2)
   have h2:(ks.zip (ts.map Value.ref)).map (fun p:Str×Value=>(p.1,unR p.2))=ks.zip ts:=by
     rw [List.zip_map_right,List.map_map]
     have:((fun p:Str×Value=>(p.1,unR p.2)) ∘ Prod.map id Value.ref)=(id:Str×Addr→Str×Addr):=by funext p;rfl
     rw [this,List.map_id]
   rwa [h2] at h1
 · rw [List.map_map];rfl
 · rw [List.pairwise_map];exact hs
def Zfg (c:Addr)(qual:Str):Heap→Prop:=fun h=>h.CodeRec (.ref c) qual
def LamAt (H:Hp)(Pl:Addr)(lpos:Pos)(qual:Str):Prop :=
 H Pl=some (.tbl #[])∨∃ c,H Pl=some (.tbl #[rawInt lpos.line,rawInt lpos.col,.ref c])∧H c=some (.ext (Zfg c qual))
theorem ZjP {P:Program}{w:World}{H:Hp}{h:Heap}{c:Addr}{qual:Str}(e:h.CodeRec (.ref c) qual):ObjOk P w H h c (.ext (Zfg c qual)):=by
 obtain ⟨c',o,vs,t,z,g,r⟩:=id e
 cases z
 refine ⟨e,⟨o,g⟩,fun h1 h2 p k=>?_⟩
 obtain ⟨c',o,vs,t,z,g,r⟩:=p
 cases z
 exact ⟨_,o,vs,t,rfl,k _ g,r⟩
def Grown (Pl:Addr)(H H':Hp):Prop:=∀ b o,b≠Pl→H b=some o→H' b=some o
section
variable {X:Cx}{pins:List (Addr×Obj)}{σ:List (Option V)}{H:Hp}{s:Shared}{h':Heap}
theorem Inv.table {t':Nat}{Pl c:Addr}{ps:Array Value}{qual:Str}{lpos:Pos}(I:Inv X pins σ H s)(hP:H Pl=some (.tbl ps))(k:∀ b o,b≠Pl→s.heap.get? b=some o→h'.get? b=some o)
   (hT:h'.get? Pl=some (tabObj (ps++#[rawInt lpos.line,rawInt lpos.col,.ref c]))) (hc:s.heap.objs.size≤c) (hr:h'.CodeRec (.ref c) qual) :
   Inv X pins σ (upd (upd H Pl (.tbl (ps++#[rawInt lpos.line,rawInt lpos.col,.ref c]))) c (.ext (Zfg c qual))) { s with heap:=h',toks:=t' }:=by
 have hcn:H c=none:=I.hok.fresh hc
 have hcP:c≠Pl:=fun z=>by rw [z,hP] at hcn;cases hcn
 have nP:∀ b,H b=none→b≠Pl:=fun b z e=>by rw [e,hP] at z;cases z
 have off:∀ b o,b≠Pl→H b=some o→upd (upd H Pl (.tbl (ps++#[rawInt lpos.line,rawInt lpos.col,.ref c]))) c (.ext (Zfg c qual)) b=some o:=fun b o h1 e=>by rw [Zh (Zn e hcn),Zh h1];exact e
 have nL:X.env.locals≠Pl:=nP _ I.free
 refine I.step (g':=s.gens) (d':=s.drawn) (ch:=[]) (fun _ z=>nomatch z) (fun b o _ _ _ e n=>k b o (nP b n) e) (fun b o _ _ _ e n=>⟨o.slots,k b o (nP b n) e⟩) (fun b o _ e n=>?_) (fun b o _ e=>?_)
   (fun b xs e=>off b _ (fun z=>by rw [z,hP] at e;cases e) e) (fun b o u e=>off b _ (fun z=>by rw [z,hP] at e;cases e) e) (fun b qs e=>?_) (fun m hm=>?_) (fun b u e=>?_) I.bare
 · rw [Zh (fun z=>by rw [z] at e;exact absurd (Heap.lt_size e) (Nat.not_lt.mpr hc)),Zh (nP b n)];exact n
 · by_cases hb:b=Pl
   · exact ⟨_,by rw [hb];exact hT⟩
   · exact ⟨o,k b o hb e⟩
 · by_cases hb:b=Pl
   · rw [hb,hP] at e
     cases e
     exact ⟨#[rawInt lpos.line,rawInt lpos.col,.ref c],by rw [hb,Zh hcP.symm,Zg]⟩
   · exact ⟨#[],by rw [off b _ hb e];simp⟩
 · obtain ⟨o,es,ep,ho,r⟩:=hm
   exact ⟨o,es,ep,k _ o nL ho,r⟩
 · by_cases h1:b=c
   · subst h1
     rw [Zg] at e
     cases e
     exact ZjP hr
   · rw [Zh h1] at e
     by_cases h2:b=Pl
     · subst h2
       rw [Zg] at e
       cases e
       exact hT
     · rw [Zh h2] at e
       refine (I.hok b u e).stay (fun d v hd y=>k d v ?_ y) (fun d y=>off d _ (fun z=>by rw [z,hP] at y;cases y) y) fun d xs y=>off d _ (fun z=>by rw [z,hP] at y;cases y) y
       rcases hd with z | z
       · rw [z];exact h2
       · exact fun z2=>by rw [z2,hP] at z;cases z
theorem Zio {A:Around}{E:Value→Shared→Prop}{Q:Value→Shared→Prop}{c Pl:Addr}{apos p1 p2 p3 lpos:Pos}(I:Inv X pins σ H s)(hcode:X.env.code=.ref c)(C:codeHdIn X.K c Pl=true)(hBm:UZ X.base X.mg)(hL:LamAt H Pl lpos (X.env.qual++"<lambda>"))
   (h:∀ (q:Addr) (H':Hp) (s':Shared) (pm cdv ct:Value),Inv X pins σ H' s'→Grown Pl H H'→LamAt H' Pl lpos (X.env.qual++"<lambda>")→s'.heap.get? q=some { cls:=.type "function",data:=.func (kla_fn "<lambda>" (X.env.qual++"<lambda>") (VN apos) (Uq p1 p2 p3) WX [] pm cdv ct) } →
     s'.heap.CodeRec cdv (X.env.qual++"<lambda>")→Q (.ref q) s') :
   wpAny (model X.prog X.w) A (eval (.Lambda (VN apos) (Uq p1 p2 p3) WX lpos) X.env) Q E s:=by
 rw [arm_eval_Lambda]
 refine wpAny_bind (m:=evalAll []) (wpAny_evalAll_nil (wpAny_bind (wpAny_holding (m:=evalAllOpt []) (wpAny_of_eq (a:=[]) rfl ?_))))
 have hcl:closureFor WX X.env=pure []:=rfl
 have hg:=I.mod.glob.keeps I.bk
 have CH:=codeHd_of_K I.kIn C
 have tab:∀ ps,H Pl=some (.tbl ps)→s.heap.get? Pl=some (tabObj ps):=fun ps e=>I.hok Pl _ e
 have bmAt:∀ ps,s.heap.get? Pl=some (tabObj ps)→s.heap.BuiltinsAt X.mg Pl∧mainGlobals≠Pl:=fun ps e=>by
   obtain ⟨bm,ob,b1,b2,b3,b4,b5,b6⟩:=hBm
   have b3':=I.bk _ _ b3
   have hmg:mainGlobals≠Pl:=fun z=>by
     obtain ⟨o,es,ep,y,hd,_⟩:=hg
     rw [z,e] at y;cases y;cases hd
   refine ⟨⟨bm,ob,b1,b2,fun z=>?_,(fun z=>by rw [z,e] at b3';cases b3';cases b4),b3',b4,b5,b6⟩,hmg⟩
   obtain ⟨o,es,ep,y,hd,_⟩:=hg
   rw [← z,b3'] at y;cases y
   rw [b6] at hd;cases hd
 rcases hL with e | ⟨c',e,ec⟩
 · have hP:=tab _ e
   obtain ⟨hb,hgP⟩:=bmAt _ hP
   refine kla_makeFunction (clos:=[]) hcl I.ok.glob hg hcode CH hP trivial rfl hgP hb fun c' ctv h' tk hx hge hlt hrec hT=>?_
   have I1:=I.table (t':=tk) (h':=h') (qual:=X.env.qual++"<lambda>") (lpos:=lpos) e (fun b o hb' y=>hx b o hb' y) hT hge hrec
   have hcn:H c'=none:=I.hok.fresh hge
   have hcP:c'≠Pl:=fun z=>by rw [z,e] at hcn;cases hcn
   refine h _ _ _ ((X.mg "__name__").getD .none) (.ref c') ctv (I1.kept (t':=tk) fun b o y=>Heap.get?_push_of_some _ y) (fun b o h1 y=>by rw [Zh (Zn y hcn),Zh h1];exact y) (.inr ⟨c',by rw [Zh hcP.symm,Zg];rfl,Zg⟩) (Heap.get?_push_size _ rfl) (hrec.push _)
 · have hP:=tab _ e
   obtain ⟨hb,hgP⟩:=bmAt _ hP
   have hrec:s.heap.CodeRec (.ref c') (X.env.qual++"<lambda>"):=(I.hok c' _ ec).1
   refine kla_makeFunctionHit (clos:=[]) (cv:=.ref c') hcl I.ok.glob hg hcode CH hP trivial (by simp [codeAmong,rawInt]) hb fun ctv h' tk hk hz=>?_
   exact h _ _ _ ((X.mg "__name__").getD .none) (.ref c') ctv ((I.kept (h':=h') (t':=tk) hk).kept (t':=tk) fun b o y=>Heap.get?_push_of_some _ y) (fun b o _ y=>y) (.inr ⟨c',e,ec⟩) (Heap.get?_push_size _ rfl) ((hrec.keeps hk).push _)
end
def Zmw (Pl:Addr)(lpos:Pos)(qual:Str)(te:TE):TE:=fun σ H Q=>te σ H fun x H1=>∃(l:Addr)(ts:List Addr)(ks:List Str),[x]=[.ref l]∧H1 l=some (.lst (ts.map V.ref))∧ts.length < 64∧ks.length=ts.length ∧
 (∀ (i:Nat) (t:Addr) (k:Str),ts[i]?=some t→ks[i]?=some k→∃ vs,H1 t=some (.tup (.str k::vs)))∧LamAt H1 Pl lpos qual ∧
 ∀ (H2:Hp) (r:Addr) (ts':List Addr),Grown Pl H1 H2→LamAt H2 Pl lpos qual→H2 r=none→Zfj ks ts ts'→Q (.ref r) (upd H2 r (.lst (ts'.map V.ref)))
section
variable {X:Cx}
theorem ZhA {k:Nat}{e:Expr}{te:TE}{apos p1 p2 p3 lpos kpos p pos:Pos}{c Pl:Addr}(hg:Gl X "sorted")(hm:X.mg "sorted"=none)(he:PE X e te)(hr:Room k X.A)(hcode:X.env.code=.ref c)(C:codeHdIn X.K c Pl=true)(hBm:UZ X.base X.mg)
   (hs:starEach [e] X.env=[(false,eval e X.env)]:=by rfl):PE X (.Call (.Name "sorted" p) [e] [⟨some "key",.Lambda (VN apos) (Uq p1 p2 p3) WX lpos,kpos⟩] pos) (Zmw Pl lpos (X.env.qual++"<lambda>") te):=by
 intro pins s σ H Q I h
 have ha:PA X [e] (Xu te Wd):=Yw he Za hs
 refine wpAny_Call_Name_kw (WR I hg hm boot_sorted (callWith_kw ?_ (by rw [hs];rfl) (by rw [hs];rfl) rfl rfl))
 refine Zr (ha pos pins s σ H (fun xs H1=>∃ (l:Addr) (ts:List Addr) (ks:List Str),xs=[V.ref l]∧H1 l=some (.lst (ts.map V.ref))∧ts.length < 64∧ks.length=ts.length ∧
   (∀ (i:Nat) (t:Addr) (k:Str),ts[i]?=some t→ks[i]?=some k→∃ vs,H1 t=some (.tup (.str k::vs)))∧LamAt H1 Pl lpos (X.env.qual++"<lambda>") ∧
   ∀ (H2:Hp) (r:Addr) (ts':List Addr),Grown Pl H1 H2→LamAt H2 Pl lpos (X.env.qual++"<lambda>")→H2 r=none→Zfj ks ts ts'→Q (.ref r) (upd H2 r (.lst (ts'.map V.ref)))) I h) fun us s1 ⟨vs,H1,I1,r1,q1⟩=>?_
 obtain ⟨l,ts,ks,rfl,el,h64,hlen,htup,hL,q⟩:=q1
 obtain ⟨u,rfl,ru⟩:=Ys r1
 cases ru
 refine kws_cons (Zio I1 hcode C hBm hL fun fq H2 s2 pm cdv ct I2 gr hL2 hfo hrec=>kws_nil ?_)
 have nl:l≠Pl:=fun z=>by
   rw [z] at el
   rcases hL with y | ⟨_,y,_⟩<;>(rw [el] at y;cases y)
 have el2:=gr l _ nl el
 obtain ⟨its,rv,pl,hz⟩:=I2.list (SqL.of el2)
 have hits:=Zdf rv
 subst hits
 have tupAt:∀ (i:Nat) (t:Addr) (k:Str),ts[i]?=some t→ks[i]?=some k→∃ its':Array Value,IsTup s2.heap t its'∧∃ tk,its'[0]?=some (.str k tk):=fun i t k h1 h2=>by
   obtain ⟨vs,ev⟩:=htup i t k h1 h2
   have nt:t≠Pl:=fun z=>by
     rw [z] at ev
     rcases hL with y | ⟨_,y,_⟩<;>(rw [ev] at y;cases y)
   obtain ⟨_,itv,rv',pt⟩:=(show ObjOk X.prog X.w H2 s2.heap t (.tup (.str k::vs)) from I2.hok t _ (gr t _ nt ev))
   cases rv' with
   | cons r rr =>
     obtain ⟨tk,e⟩:=r
     exact ⟨_,pt,tk,by rw [e];rfl⟩
 refine ZjE (vs:=ts.map Value.ref) (ks:=ks) pl.isList (by rw [List.length_map];exact hlen) (by rw [List.length_map];exact h64) (fun x=>ksk_t1 fq x) (fun h1 tk1 k1 z1=>?_) fun h' tk out cc k3 a3 o3=>?_
 · intro i v k hv hk h2 tk2 k2 z2 Q' hQ'
   rw [List.getElem?_map] at hv
   cases ht:ts[i]? with
   | none=>rw [ht] at hv;cases hv
   | some t =>
     rw [ht] at hv
     cases (show some (Value.ref t)=some v from hv)
     obtain ⟨its',pt,tk',e0⟩:=tupAt i t k ht hk
     have kp:∀ b o,s2.heap.get? b=some o→h2.get? b=some o:=fun b o y=>k2 b o (Nat.ne_of_lt (Nat.lt_succ_of_lt (Heap.lt_size y))) (k1 b o y)
     have pt2:IsTup h2 t its':=by
       obtain ⟨o,eo,r⟩:=pt
       exact ⟨o,kp _ _ eo,r⟩
     exact ZhJ (s:={ s2 with heap:=h2,toks:=tk2 }) (kp _ _ hfo) (hrec.keeps kp) (I2.nolimit.keeps kp) (show X.A.depth < recursionLimit by have:=hr.dp;omega) pt2 e0 fun h3 tk3 k3 z3=>hQ' h3 tk3 tk' k3 z3
 · obtain ⟨ts',hout,hT⟩:=ZjK o3
   have rv2:Vals (ts'.map V.ref) out.toList:=by
     rw [hout]
     clear hout hT o3
     induction ts' with
     | nil=>exact .nil
     | cons t r ih=>exact .cons rfl ih
   have hl2:(ts'.map V.ref).length≤sizeLine:=by
     obtain ⟨ps,hp,e,_⟩:=hT
     have:=hp.length_eq
     rw [List.length_zip] at this
     rw [List.length_map,e,List.length_map,this]
     exact ZeC (by omega)
   exact ⟨.ref _,_,I2.laid (t':=tk) k3 (Nat.le_succ _) (show ObjOk X.prog X.w _ h' _ (.lst (ts'.map V.ref)) from ⟨hl2,out.toList,cc,rv2,by rw [Array.toArray_toList];exact a3⟩),rfl,q H2 _ ts' gr hL2 (I2.hok.fresh (Nat.le_succ _)) hT⟩
end
end L2
set_option maxHeartbeats 4000000
namespace L2
open PySem PySem.W PySem.Spec PyProof.Rows
theorem Zbb:typeLookup (.type "tuple") "keys"=pure none:=am_miss_of_fast (by decide +kernel)
section
variable {prog:Program}{w:World}{A:Around}{E:Value→Shared→Prop}{s:Shared}
theorem ZfL {a:Addr}{xs:Array Value}{k:Nat}{sl:Array (Option Value)}{Q:Option Value→Shared→Prop}(hx:s.heap.get? a=some { cls:=.type "tuple",dict:=none,data:=.seq xs k,slots:=sl })(hA:A.handled=none)
   (h:∀ h' tk,(∀ b o,s.heap.get? b=some o→h'.get? b=some o)→Q none { s with heap:=h',toks:=tk }):wpAny (model prog w) A (getAttr? (.ref a) "keys") Q E s:=by
 obtain ⟨hp,g,d,tk,os⟩:=s
 have hT:∀ tk',(⟨hp,g,d,tk',os⟩:Shared).TypeIs (.ref a) "tuple":=fun _=>⟨_,hx,rfl⟩
 have f1:=sub_AttributeError
 have f3:=F.slot_tuple_getattribute.lookup
 have f4:=F.slot_tuple_getattribute.bind (.ref a)
 have f5:=am_tuple_getattr_none
 unfold getAttr? getAttrBy? getAttrBy
 repeat (any_goals first | assumption | exact hT _ | ((with_reducible show wpAny _ _ (call (Value.builtin "tuple.__getattribute__") _ _) _ _ _);refine call_meets F.slot_tuple_getattribute (hT _) am_entry_tuple_getattribute (F.args_tuple_getattribute_2 _ _) (meets_getattribute_miss_tuple a xs k sl "keys" _ Zbb (by decide) (by decide)) ⟨hx,hA,fun h' tk' e hx'=>?_⟩) | wp_step)
 obtain ⟨t',u',he⟩:=hx'.there
 show wpAny _ _ (getattributeRaised _ _ _ _ _ _ _) _ _ _
 unfold getattributeRaised
 repeat (any_goals first | assumption | wp_step)
 all_goals exact h _ _ hx'.keeps
theorem Uu:entryFor table "dict.update.loop"=some Builtin.«dict.update.loop»:=entryFor_of_tree (by kernel_rfl)
theorem Xw:plainId "dict.update.loop"=true:=by decide +kernel
end
section
variable {prog:Program}{w:World}{A:Around}{R:Result→Shared→Prop}
def PairAt (prog:Program)(w:World)(h:Heap)(v:Value)(p:Zl×Value):Prop:=∃ tt key,v=.ref tt∧IsTup h tt #[key,p.2]∧(ZI prog w).is p.1 key=true
theorem PairAt.keep {h h':Heap}{v:Value}{p:Zl×Value}(x:PairAt prog w h v p)(k:∀ b o,h.get? b=some o→h'.get? b=some o):PairAt prog w h' v p:=by
 obtain ⟨tt,key,e,⟨o,eo,r⟩,z⟩:=x
 exact ⟨tt,key,e,⟨o,k _ _ eo,r⟩,z⟩
theorem PairAt.but {h h':Heap}{v:Value}{p:Zl×Value}{d:Addr}{o:Obj}(x:PairAt prog w h v p)(hd:h.get? d=some o)(hc:o.cls≠.type "tuple")(k:∀ b o,b≠d→h.get? b=some o→h'.get? b=some o):PairAt prog w h' v p:=by
 obtain ⟨tt,key,e,⟨ot,eo,c,r⟩,z⟩:=x
 refine ⟨tt,key,e,⟨ot,k _ _ (fun y=>?_) eo,c,r⟩,z⟩
 rw [y,hd] at eo
 cases eo
 exact hc c
theorem ZgU {d I t:Addr}{its:Array Value}(ps:List (Zl×Value))(hlen:ps.length=its.size)(hnd:(ps.map (·.1)).Nodup)(hsz:ps.length≤sizeLine)(hh:A.handled=none)(hIt:I≠t)(hId:I≠d) :
   ∀ (k i:Nat) (s:Shared) (n:Int) (tk:Tok),ps.length - i=k→i≤ps.length→s.heap.IsTupleIter I t i→s.heap.IsTuple t its→(∀ (j:Nat) (v:Value) (p:Zl×Value),its[j]?=some v→ps[j]?=some p→PairAt prog w s.heap v p)→s.heap.DictOf (ZI prog w) d (ps.take i) →
   (∀ h' tk',(∀ b o,b≠I→b≠d→s.heap.get? b=some o→h'.get? b=some o)→h'.DictOf (ZI prog w) d ps→R (.ok (.ret .none)) { s with heap:=h',toks:=tk' }) →
   codeAny (model prog w) A (.builtin "dict.update.loop" ⟨[.ref d,.ref I,.int n tk,.none],[]⟩) R s:=by
 have W:=Walks.tuple (prog:=prog) (w:=w) (A:=A.in1) hh I t hIt.symm its
 intro k
 induction k with
 | zero =>
   intro i s n tk hk hi hit htp hpr hd hR
   have hin:i=its.size:=by omega
   refine codeAny_builtin Uu ?_
   rw [Around.under_plainId Xw _]
   show wpAny _ A.in1 (pyNext (.ref I) >>= _) _ _ s
   refine wpAny_bind (W.done s _ _ ⟨by rw [← hin];exact hit,htp⟩ fun h' tk' kk=>?_)
   show wpAny _ _ (Builtin.Dict.addKeywords d [] >>= _) _ _ _
   refine wpAny_bind (wpAny_pure (wpAny_pure (hR h' tk' (fun b o h1 _ y=>kk b o (by simpa using h1) y) ?_)))
   rw [List.take_of_length_le (by omega)] at hd
   obtain ⟨o,es,ep,eo,r⟩:=hd
   exact ⟨o,es,ep,kk d o (by simpa using hId.symm) eo,r⟩
 | succ k ih =>
   intro i s n tk hk hi hit htp hpr hd hR
   have hlt:i < its.size:=by omega
   refine codeAny_builtin Uu ?_
   rw [Around.under_plainId Xw _]
   show wpAny _ A.in1 (pyNext (.ref I) >>= _) _ _ s
   refine wpAny_bind (W.item i s _ _ hlt ⟨hit,htp⟩ fun v h1 tk1 hv st1 kk=>?_)
   obtain ⟨hit1,htp1⟩:=st1
   have hI0:∃ o,s.heap.get? I=some o∧o.cls≠.type "tuple":=by
     obtain ⟨o,eo,c,_⟩:=hit
     exact ⟨o,eo,by rw [c];decide⟩
   have hpr1:∀ (j:Nat) (v:Value) (p:Zl×Value),its[j]?=some v→ps[j]?=some p→PairAt prog w h1 v p:=fun j v p a b=>by
     obtain ⟨o,eo,c⟩:=hI0
     exact (hpr j v p a b).but eo c fun b o hb y=>kk b o (by simpa using hb) y
   obtain ⟨p,hp⟩:∃ p,ps[i]?=some p:=⟨_,List.getElem?_eq_getElem (by omega)⟩
   have hv':its[i]?=some v:=hv
   obtain ⟨tt,key,rfl,⟨ot,eo,oc,on,od⟩,hkey⟩:=hpr1 i v p hv' hp
   have hd1:h1.DictOf (ZI prog w) d (ps.take i):=by
     obtain ⟨o,es,ep,eo,r⟩:=hd
     exact ⟨o,es,ep,kk d o (by simpa using hId.symm) eo,r⟩
   have hT:Shared.TypeIs { s with heap:=h1,toks:=tk1 } (.ref tt) "tuple":=⟨ot,eo,oc⟩
   have hnew:stored (ps.take i) p.1 p.2=ps.take (i+1):=by
     have hni:p.1 ∉ (ps.take i).map (·.1):=fun z=>by
       have e1:(ps.map (·.1))=(ps.take i).map (·.1)++(ps.drop i).map (·.1):=by rw [← List.map_append,List.take_append_drop]
       rw [e1,List.nodup_append] at hnd
       refine hnd.2.2 _ z _ (List.mem_map.mpr ⟨p,?_,rfl⟩) rfl
       exact List.mem_of_getElem? (i:=0) (by rw [List.getElem?_drop];simpa using hp)
     unfold stored
     rw [if_neg,List.take_add_one,hp]
     · rfl
     · intro z
       obtain ⟨q,hq,e⟩:=List.any_eq_true.mp z
       exact hni (List.mem_map.mpr ⟨q,hq,by simpa using e⟩)
   show wpAny _ A.in1 (holding [.ref tt] _ >>= _) _ _ _
   refine wpAny_bind (wpAny_holding ?_)
   refine wpAny_bind (wpAny_tryCatch ?_)
   unfold Builtin.Dict.pairItems
   refine wpAny_bind (wpAny_typeOf hT ?_)
   rw [if_pos (by decide)]
   refine wpAny_bind (wpAny_seqItems eo od (wpAny_pure ?_))
   show wpAny _ _ (holding [key,p.2] (dictSet d key p.2)) _ _ _
   refine wpAny_holding (wpAny_dictSet_pairs hkey hd1 (fun h2 hd2 hs2=>?_) (Nat.le_trans (by rw [List.length_take];omega) hsz))
   rw [hnew] at hd2
   refine wpAny_pure ⟨plainId_quiet Xw _,ih (i+1) _ (n+1) _ (by omega) (by omega) ?_ ?_ ?_ hd2 ?_⟩
   · obtain ⟨o,eo',r⟩:=hit1
     exact ⟨o,(hs2.2 I hId).trans eo',r⟩
   · obtain ⟨o,eo',r⟩:=htp1
     refine ⟨o,(hs2.2 t (fun z=>?_)).trans eo',r⟩
     obtain ⟨o',es,ep,eo2,c2,_⟩:=hd1
     rw [z,eo2] at eo'
     cases eo'
     rw [c2.1] at r
     exact absurd r.1 (by decide)
   · intro j v p a b
     obtain ⟨o',es,ep,eo2,c2,_⟩:=hd1
     exact (hpr1 j v p a b).but eo2 (by rw [c2.1];decide) fun b o hb y=>(hs2.2 b hb).trans y
   · intro h3 tk3 k3 hd3
     exact hR h3 tk3 (fun b o h4 h5 y=>k3 b o h4 h5 ((hs2.2 b h5).trans (kk b o (by simpa using h4) y))) hd3
end
section
variable {prog:Program}{w:World}{A:Around}{E:Value→Shared→Prop}{s:Shared}
theorem ZbT {t:Addr}{its:Array Value}{Q:Value→Shared→Prop}(ps:List (Zl×Value))(ht:IsTup s.heap t its)(hnd0:∃ o,s.heap.get? t=some o∧o.dict=none)(hlen:ps.length=its.size)(hnd:(ps.map (·.1)).Nodup)(hsz:ps.length≤sizeLine)(hh:A.handled=none)
   (hpr:∀ (j:Nat) (v:Value) (p:Zl×Value),its[j]?=some v→ps[j]?=some p→PairAt prog w s.heap v p)
   (h:∀ h' tk',(∀ b o,s.heap.get? b=some o→h'.get? b=some o)→h'.DictOf (ZI prog w) s.heap.objs.size ps→Q (.ref s.heap.objs.size) { s with heap:=h',toks:=tk' }) :
   wpAny (model prog w) A (call (.type "dict") [.ref t]) Q E s:=by
 refine callType_codes (Q₁:=fun obj s₁=>obj=.ref s.heap.objs.size∧s₁={ s with heap:=s.heap.push { cls:=.type "dict",data:=.dict #[] } }) F.kt_called_dict (F.kt_typeCall_dict_1 _) F.entry_dict_init (kt_code_dict_new _ ⟨rfl,rfl⟩) ?_
 rintro obj s₁ ⟨rfl,rfl⟩
 have hnew:(s.heap.push { cls:=.type "dict",data:=.dict #[] }).DictOf (ZI prog w) s.heap.objs.size []:=Heap.DictOf.new s.heap
 have tlt:t < s.heap.objs.size:=by obtain ⟨o,eo,_⟩:=ht;exact Heap.lt_size eo
 obtain ⟨ot,eot,oct,on,odt⟩:=id ht
 obtain ⟨o2,eo2,hdict⟩:=hnd0
 rw [eot] at eo2
 cases eo2
 refine ⟨hnew.typeIs,F.args_dict_init_2 _ _,?_⟩
 unfold Builtin.«dict.__init__»
 refine wpAny_bind ?_
 unfold Builtin.Dict.selfAndRest
 refine wpAny_bind (wpAny_notOrdered_dict hnew.typeIs ?_)
 show wpAny _ _ (pure (s.heap.objs.size,[Value.ref t])) _ _ _
 refine wpAny_pure ?_
 show wpAny _ _ (Builtin.Dict.updateFrom "dict.__init__" s.heap.objs.size (.ref t) [] .none) _ _ _
 unfold Builtin.Dict.updateFrom
 have hT:Shared.TypeIs { s with heap:=s.heap.push { cls:=.type "dict",data:=.dict #[] } } (.ref t) "tuple":=⟨ot,Heap.get?_push_of_some _ eot,oct⟩
 refine wpAny_bind (wpAny_typeOf hT ?_)
 rw [if_pos (by decide)]
 obtain ⟨c0,d0,dt0,sl0⟩:=ot
 have e1:c0=.type "tuple":=oct
 have e2:d0=none:=hdict
 have e3:dt0=.seq its on:=odt
 subst e1 e2 e3
 refine wpAny_bind (ZfL (s:={ s with heap:=s.heap.push { cls:=.type "dict",data:=.dict #[] } }) (Heap.get?_push_of_some _ eot) hh fun h1 tk1 k1=>?_)
 rw [if_pos (show (none:Option Value).isNone=true from rfl)]
 have et1:=k1 _ _ (Heap.get?_push_of_some { cls:=.type "dict",data:=.dict #[] } eot)
 have hd1:h1.DictOf (ZI prog w) s.heap.objs.size []:=by
   obtain ⟨o,es,ep,eo,r⟩:=hnew
   exact ⟨o,es,ep,k1 _ _ eo,r⟩
 have dlt:s.heap.objs.size < h1.objs.size:=by obtain ⟨o,es,ep,eo,r⟩:=hd1;exact Heap.lt_size eo
 refine wpAny_bind (wpAny_rule (wpAny_bind (wpAny_pyIter_tuple (items:=its) ⟨_,et1,rfl,on,rfl⟩ ?_)))
 refine wpAny_pure ⟨plainId_quiet Xw _,ZgU (A:=A.in1) ps hlen hnd hsz hh (Nat.ne_of_gt (Heap.lt_size et1)) (Nat.ne_of_gt dlt) ps.length 0 _ 0 _ (by omega) (Nat.zero_le _) ⟨_,Heap.get?_push_size _ rfl,rfl,rfl⟩ ⟨_,Heap.get?_push_of_some _ et1,rfl,on,rfl⟩ ?_ ?_ ?_⟩
 · intro j v p a b
   exact (hpr j v p a b).keep fun b o y=>Heap.get?_push_of_some _ (k1 _ _ (Heap.get?_push_of_some _ y))
 · obtain ⟨o,es,ep,eo,r⟩:=hd1
   exact ⟨o,es,ep,Heap.get?_push_of_some _ eo,r⟩
 · intro h' tk' k3 hd3
   refine ⟨rfl,h h' tk' (fun b o y=>?_) hd3⟩
   have y1:=k1 _ _ (Heap.get?_push_of_some { cls:=.type "dict",data:=.dict #[] } y)
   exact k3 b o (Nat.ne_of_lt (Heap.lt_size y1)) (Nat.ne_of_lt (Heap.lt_size y)) (Heap.get?_push_of_some _ y1)
end
section
variable {X:Cx}
theorem Ug (hc:X.calm=true):Yr X (.type "dict") (fun xs H Q=>∃ (t:Addr) (ts:List Addr) (kvs:List (Str×V)),xs=[.ref t]∧(∃ o,H t=some (.frz o (.tup (ts.map V.ref)))∧o.dict=none)∧ts.length=kvs.length∧kvs.length≤1000 ∧
   (∀ (i:Nat) (a:Addr) (p:Str×V),ts[i]?=some a→kvs[i]?=some p→H a=some (.tup [.str p.1,p.2]))∧(kvs.map (·.1)).Nodup∧∀ d,H d=none→Q (.ref d) (upd H d (.dK (kvs.map fun p=>(Sum.inr p.1,p.2))))):=by
 intro pins s σ H xs us Q I r h
 obtain ⟨t,ts,kvs,rfl,⟨ot0,hq0,hdn⟩,hlen,hsz,hp,hnd,q⟩:=h
 have hq:SqT X.K H t (ts.map V.ref):=.inl (.inr ⟨ot0,hq0⟩)
 have eo0:=(I.hok t _ hq0).1
 obtain ⟨u,rfl,ru⟩:=Ys r
 cases ru
 obtain ⟨its,rv,pt,hz⟩:=I.tuple hq
 have hits:=Zdf rv
 subst hits
 have build:∀ (kvs:List (Str×V)) (ts:List Addr),ts.length=kvs.length→(∀ (i:Nat) (a:Addr) (p:Str×V),ts[i]?=some a→kvs[i]?=some p→H a=some (.tup [.str p.1,p.2])) →
     ∃ ps:List (Zl×Value),KV (kvs.map fun p=>((Sum.inr p.1:Zl),p.2)) ps∧ps.length=kvs.length∧ps.map (·.1)=kvs.map (fun p=>(Sum.inr p.1:Zl))∧∀ (j:Nat) (v:Value) (p:Zl×Value),(ts.map Value.ref)[j]?=some v→ps[j]?=some p→PairAt X.prog X.w s.heap v p:=by
   intro kvs
   induction kvs with
   | nil=>intro ts _ _;exact ⟨[],.nil,rfl,rfl,fun j v p _ e=>by simp at e⟩
   | cons kv r ih =>
     intro ts hl hh
     cases ts with
     | nil=>simp at hl
     | cons a ar =>
       obtain ⟨ps,k1,k2,k3,k4⟩:=ih ar (by simpa using hl) fun i b p e1 e2=>hh (i+1) b p (by simpa using e1) (by simpa using e2)
       obtain ⟨_,itv,rv',pa⟩:=(show ObjOk X.prog X.w H s.heap a (.tup [.str kv.1,kv.2]) from I.hok a _ (hh 0 a kv rfl rfl))
       cases rv' with
       | cons r1 rr =>
         cases rr with
         | cons r2 rr =>
           cases rr
           obtain ⟨tk,e⟩:=r1
           subst e
           rename_i u2
           refine ⟨(Sum.inr kv.1,u2)::ps,.cons ⟨rfl,r2⟩ k1,by rw [List.length_cons,List.length_cons,k2],by rw [List.map_cons,List.map_cons,k3],fun j v p e1 e2=>?_⟩
           cases j with
           | zero =>
             cases (show some (Value.ref a)=some v from e1)
             cases (show some ((Sum.inr kv.1:Zl),u2)=some p from e2)
             exact ⟨a,.str kv.1 tk,rfl,pa,VQ _ _ _ _⟩
           | succ j=>exact k4 j v p (by simpa using e1) (by simpa using e2)
 obtain ⟨ps,k1,k2,k3,k4⟩:=build kvs ts hlen hp
 have hnd2:(ps.map (·.1)).Nodup:=by
   rw [k3]
   have:kvs.map (fun p=>(Sum.inr p.1:Zl))=(kvs.map (·.1)).map Sum.inr:=by rw [List.map_map];rfl
   rw [this]
   rw [List.Nodup,List.pairwise_map]
   exact hnd.imp fun h e=>h (by cases e;rfl)
 refine ZbT ps pt ⟨ot0,eo0,hdn⟩ (by rw [k2,List.size_toArray,List.length_map,hlen]) hnd2 (by rw [k2];exact ZeC hsz) (I.ok.hd hc) (fun j v p e1 e2=>k4 j v p (by simpa using e1) e2) fun h' tk' kk hd=>?_
 have hbig:=I.big
 refine ⟨.ref s.heap.objs.size,_,I.laid (t':=tk') kk (Nat.le_refl _) (show ObjOk X.prog X.w _ h' _ (.dK (kvs.map fun p=>((Sum.inr p.1:Zl),p.2))) from ⟨by rw [List.length_map];exact ZeC hsz,?_,ps,k1,hd⟩),rfl,q _ (I.hok.fresh (Nat.le_refl _))⟩
 exact beq_eq_false_iff_ne.mpr (Nat.ne_of_gt hbig)
end
end L2
set_option maxHeartbeats 2000000
namespace L2
open PySem PySem.W PySem.Spec PyProof.Rows
section
variable {X:Cx}{pins:List (Addr×Obj)}{σ:List (Option V)}{H H':Hp}{s:Shared}{h':Heap}
theorem Inv.many {t':Nat}(I:Inv X pins σ H s)(k:∀ b u,s.heap.get? b=some u→h'.get? b=some u)(ext:Same H H')(new:∀ b,b < s.heap.objs.size→H' b=H b)(hok:∀ b o,s.heap.objs.size≤b→H' b=some o→ObjOk X.prog X.w H' h' b o) :
   Inv X pins σ H' { s with heap:=h',toks:=t' }:=by
 refine I.step (g':=s.gens) (d':=s.drawn) (ch:=[]) (fun _ z=>nomatch z) (fun b o _ _ _ e _=>k b o e) (fun b o _ _ _ e _=>⟨o.slots,k b o e⟩) (fun b o _ e n=>by rw [new b (Heap.lt_size e)];exact n) (fun b o _ e=>⟨o,k b o e⟩)
   (fun b xs e=>ext b _ e) (fun b o u e=>ext b _ e) (fun b ps e=>⟨#[],by rw [ext b _ e];simp⟩) (fun m hm=>?_) (fun b u e=>?_) I.bare
 · obtain ⟨o,es,ep,ho,r⟩:=hm
   exact ⟨o,es,ep,k _ o ho,r⟩
 · by_cases hb:b < s.heap.objs.size
   · rw [new b hb] at e
     exact (I.hok b u e).stay (fun c v _ y=>k c v y) (fun c y=>ext c _ y) fun c xs y=>ext c _ y
   · exact hok b u (Nat.not_lt.mp hb) e
end
def ZaY (v d:Addr):Heap→Prop:=fun h=>h.IsItemsView v d
def UO (H:Hp):List (Addr×Zl×V)→Hp
 | []=>H
 | (a,k,v)::r=>upd (UO H r) a (.tup [kV k,v])
theorem VY {H:Hp}{b:Addr}:∀{l:List (Addr×Zl×V)},b ∉ l.map (·.1)→UO H l b=H b
 | [],_=>rfl
 | (a,k,v)::r,h=>by
   rw [List.map_cons,List.mem_cons,not_or] at h
   show upd (UO H r) a _ b=_
   rw [Zh h.1];exact VY h.2
theorem Zeu {H:Hp}{a:Addr}{k:Zl}{v:V}:∀{l:List (Addr×Zl×V)},(l.map (·.1)).Nodup→(a,k,v)∈l→UO H l a=some (.tup [kV k,v])
 | (b,k',v')::r,hn,hm=>by
   rw [List.map_cons,List.nodup_cons] at hn
   show upd (UO H r) b _ a=_
   rcases List.mem_cons.mp hm with e | hm
   · cases e;exact Zg
   · rw [Zh (fun z:a=b=>hn.1 (by show b∈_;rw [← z];exact List.mem_map.mpr ⟨_,hm,rfl⟩))]
     exact Zeu hn.2 hm
theorem ZlO {kvs:List (Zl×V)}{vs:List (Zl×Value)}(r:KV kvs vs):∀{j:Nat}{k:Zl}{x:Value},vs[j]?=some (k,x)→∃ v,kvs[j]?=some (k,v)∧RelV v x:=by
 induction r with
 | nil=>intro j k x e;simp at e
 | cons h t ih =>
   intro j k x e
   cases j with
   | zero =>
     cases (show some _=some (k,x) from e)
     rename_i a _ _
     refine ⟨a.2,?_,h.2⟩
     have e1:a.1=k:=h.1
     show some a=some (k,a.2)
     rw [← e1]
   | succ j=>exact ih (by simpa using e)
section
variable {X:Cx}
theorem Zha:MtR X "dict.items" (fun x xs H Q=>∃ d kvs,x=.ref d∧xs=[]∧H d=some (.dK kvs)∧∀ v,H v=none→Q (.ref v) (upd H v (.ext (ZaY v d)))):=by
 intro pins s σ H x xs v us Q I rx rv h
 obtain ⟨d,kvs,rfl,rfl,e,q⟩:=h
 cases rx
 cases rv
 obtain ⟨hz,lo,vs,kv,hd⟩:=ZbZ I.hok e
 refine call_meetsIn PySem.F.slot_dict_items hd.typeIs PySem.F.entry_dict_items (PySem.F.args_dict_items_1 _) (meets_dict_items (ZI X.prog X.w) d lo) ⟨⟨vs,hd⟩,?_⟩
 refine ⟨.ref s.heap.objs.size,_,I.laid (t':=s.toks) (fun b o y=>Heap.get?_push_of_some _ y) (Nat.le_refl _) (show ObjOk X.prog X.w _ _ _ (.ext (ZaY s.heap.objs.size d)) from ⟨⟨_,Heap.get?_push_size _ rfl,rfl,rfl⟩,⟨_,Heap.get?_push_size _ rfl⟩,?_⟩),rfl,q _ (I.hok.fresh (Nat.le_refl _))⟩
 rintro h1 h2 ⟨o,eo,r⟩ k
 exact ⟨o,k _ eo,r⟩
theorem ZaK (hc:X.calm=true):Yr X (.type "list") (fun xs H Q=>∃ v d kvs,xs=[.ref v]∧H v=some (.ext (ZaY v d))∧H d=some (.dK kvs) ∧
   ∀ (l:Addr) (ts:List Addr) (H2:Hp),H l=none→Same H H2→ts.length=kvs.length→(∀ a∈ts,H a=none)→(∀ (i:Nat) (a:Addr) (p:Zl×V),ts[i]?=some a→kvs[i]?=some p→H2 a=some (.tup [kV p.1,p.2]))→H2 l=some (.lst (ts.map V.ref))→Q (.ref l) H2):=by
 intro pins s σ H xs us Q I r h
 obtain ⟨v,d,kvs,rfl,ev,ed,q⟩:=h
 obtain ⟨u,rfl,ru⟩:=Ys r
 cases ru
 obtain ⟨hz,lo,vs,kv,o,es,ep,ho,r1,r2,r3,r4,r5⟩:=ZbZ I.hok ed
 have hlen:vs.length=kvs.length:=(Paired.length kv).symm
 refine kdx_call (knd:=ZI X.prog X.w) (kvs:=vs) (ep:=ep) (I.ok.hd hc) (I.hok v _ ev).1 ⟨o,es,ho,r1,r2,r3,r4,r5⟩ (by rw [hlen];exact hz) fun h' tk acc c as hk hS hl hG hacc=>?_
 have hl2:as.length=kvs.length:=by rw [hl,hlen]
 have hnd:as.Nodup:=hG.rise.imp fun h=>Nat.ne_of_lt h
 generalize hL:as.zip (kvs.map fun p=>p)=L
 have hm1:L.map (·.1)=as:=by
   rw [← hL,List.map_id']
   exact List.map_fst_zip (by omega)
 have at_j:∀ (j:Nat) (a:Addr) (p:Zl×V),as[j]?=some a→kvs[j]?=some p→(a,p.1,p.2)∈L:=fun j a p e1 e2=>by
   rw [← hL,List.map_id']
   exact List.mem_of_getElem? (i:=j) (by rw [List.getElem?_zip_eq_some];exact ⟨e1,e2⟩)
 have above:∀ a∈as,s.heap.objs.size < a:=hG.above
 have hfr:∀ b,s.heap.objs.size≤b→H b=none:=fun b hb=>I.hok.fresh hb
 have hnl:s.heap.objs.size ∉ L.map (·.1):=fun z=>by rw [hm1] at z;exact absurd (above _ z) (Nat.lt_irrefl _)
 have offA:∀ b,b < s.heap.objs.size→b ∉ L.map (·.1):=fun b hb z=>by rw [hm1] at z;exact absurd (Nat.lt_trans (above _ z) hb) (Nat.lt_irrefl _)
 have key:∀ b,b < s.heap.objs.size→upd (UO H L) s.heap.objs.size (.lst (as.map V.ref)) b=H b:=fun b hb=>by rw [Zh (Nat.ne_of_lt hb),VY (offA b hb)]
 have sm:Same H (upd (UO H L) s.heap.objs.size (.lst (as.map V.ref))):=fun b o e=>by rw [key b (I.hok.lt e)];exact e
 have tup_at:∀ (j:Nat) (a:Addr) (p:Zl×V),as[j]?=some a→kvs[j]?=some p→upd (UO H L) s.heap.objs.size (.lst (as.map V.ref)) a=some (.tup [kV p.1,p.2]):=fun j a p e1 e2=>by
   rw [Zh (Nat.ne_of_gt (above a (List.mem_of_getElem? e1)))]
   exact Zeu (by rw [hm1];exact hnd) (at_j j a p e1 e2)
 have I2:Inv X pins σ (upd (UO H L) s.heap.objs.size (.lst (as.map V.ref))) { s with heap:=h',toks:=tk }:=by
   refine I.many hk sm key fun b o hb e=>?_
   by_cases h0:b=s.heap.objs.size
   · subst h0
     rw [Zg] at e
     cases e
     refine ⟨by rw [List.length_map,hl2];exact hz,acc.toList,c,?_,by rw [Array.toArray_toList];exact hS⟩
     rw [hacc]
     clear hacc hl hG hl2 hnd hL hm1 at_j above hnl offA key sm tup_at
     induction as with
     | nil=>exact .nil
     | cons a r ih=>exact .cons rfl ih
   · rw [Zh h0] at e
     by_cases hm:b∈as
     · obtain ⟨j,hj⟩:=List.mem_iff_getElem?.mp hm
       obtain ⟨keyv,kk,x,e1,e2,e3⟩:=hG.pairs j b hj
       obtain ⟨vv,e4,rel⟩:=ZlO kv e1
       have e5:=tup_at j b (kk,vv) hj e4
       rw [Zh h0,e] at e5
       cases e5
       refine ⟨by show 2≤sizeLine;decide,[keyv,x],.cons ?_ (.cons rel .nil),⟨_,e3,rfl,_,rfl⟩⟩
       rw [Zfi] at e2
       rcases Ym e2 with ⟨i,tt,rfl,rfl⟩ | ⟨y,tt,rfl,rfl⟩
       · exact ⟨tt,rfl⟩
       · exact ⟨tt,rfl⟩
     · rw [VY (by rw [hm1];exact hm),hfr b hb] at e
       cases e
 exact ⟨.ref s.heap.objs.size,_,I2,rfl,q _ as _ (hfr _ (Nat.le_refl _)) sm hl2 (fun a ha=>hfr a (Nat.le_of_lt (above a ha))) tup_at Zg⟩
def Zmr:TE:=fun _ H Q=>∀ p o,H p=none→o.dict=none→Q (.ref p) (upd H p (.frz o (.tup [])))
theorem ZdX {x1:Nat}{pos:Pos}:PE X (.Tuple [] x1 pos) Zmr:=by
 intro pins s σ H Q I hq
 refine wpAny_Tuple_spliced (Zr (Za pos pins s σ H (fun xs H1=>xs=[]∧H1=H) I ⟨rfl,rfl⟩) fun us s1 ⟨xs,H1,I1,r,e1,e2⟩=>?_)
 subst e1 e2
 cases r
 refine ⟨Nat.zero_le _,?_⟩
 have hf:H1 s1.heap.objs.size=none:=I1.hok.fresh (Nat.le_refl _)
 exact ⟨.ref s1.heap.objs.size,_,I1.laid (t':=s1.toks) (o:=.frz _ (.tup [])) (fun b u e=>Heap.get?_push_of_some _ e) (Nat.le_refl _) ⟨Heap.get?_push_size _ rfl,Nat.zero_le _,[],.nil,⟨_,Heap.get?_push_size _ rfl,rfl,_,rfl⟩⟩,rfl,hq _ _ hf rfl⟩
theorem Zac:Yr X (.type "tuple") (fun xs H Q=>∃ p ys,xs=[.ref p]∧SqL X.K H p ys∧∀ l o,H l=none→o.dict=none→Q (.ref l) (upd H l (.frz o (.tup ys)))):=by
 intro pins s σ H xs us Q I r h
 obtain ⟨p,ys,rfl,hq,q⟩:=h
 obtain ⟨u,rfl,rx⟩:=Ys r
 cases rx
 obtain ⟨its,r',pl,hz⟩:=I.list hq
 have hlen:=r'.length
 refine call_tuple_list pl.isList (fun h' kp=>?_) (by simp only [List.size_toArray]<;>omega)
 have I1:Inv X pins σ H { s with heap:=h' }:=I.kept (t':=s.toks) kp
 have hg:(h'.push { cls:=.type "tuple",data:=.seq its.toArray }).get? h'.objs.size=some { cls:=.type "tuple",data:=.seq its.toArray }:=Heap.get?_push_size _ rfl
 exact ⟨.ref h'.objs.size,_,I1.laid (t':=s.toks) (o:=.frz { cls:=.type "tuple",data:=.seq its.toArray } (.tup ys)) (fun b o e=>Heap.get?_push_of_some _ e) (Nat.le_refl _) ⟨hg,hz,its,r',⟨_,hg,rfl,_,rfl⟩⟩,rfl,q _ _ (I1.hok.fresh (Nat.le_refl _)) rfl⟩
end
end L2
set_option maxHeartbeats 2000000
namespace L2
open PySem PySem.W PySem.Spec PyProof.Rows
structure FunC (K:PySem.W.Frag)(x qual:Str)(st:Stmt)(f:Addr)(fd:FuncData)(c Pl:Addr):Prop where
 ex:∃ (oc:Value) (od:Option Addr) (kV doc pm:Value) (an:Option Addr) (ct:Value) (osl:Array (Option Value)),
   fd=PySem.W.fnOf x qual (VD st) (Xs st) (Zj st) .none kV doc pm an (.ref c) ct∧K.lookup f=some ⟨oc,od,.func fd,osl⟩∧PySem.W.codeIn K (.ref c) qual=true
 kp:PySem.W.keepIn K (.ref f)=true
 hd:codeHdIn K c Pl=true
section
variable {P:Program}{w:World}{K:PySem.W.Frag}{mg:Str→Option Value}{base:Heap}
theorem FunC.ok {x qual:Str}{st:Stmt}{f c Pl:Addr}{fd:FuncData}{N ps:List Str}{k:Nat}{sp:Sp}(F:FunC K x qual st f fd c Pl)(S:Zq N ps (Zj st))(len:∀ vs H Q E,sp vs H Q E→vs.length=ps.length)
   (hbody:∀ (A:Around) (outer:List Env) (s:Shared) (H:Hp) (vs:List V) (Q:VK) (E:XK),Room k (A.deeper (envOfC qual (Zj st) s.heap.objs.size f (.ref c)))→sp vs H Q E →
     ∃ t,PSs (Uk ZF P w K mg base N qual (Zj st) f (.ref c) A outer s H E).nox (Xs st) t∧t { nx:=fun _ H'=>Q .non H',rt:=Q } (start N vs) H):FnOk P w K mg base ZF (k+1) f fd ps sp:=by
 obtain ⟨oc,od,kV,doc,pm,an,ct,osl,rfl,lk,hcd⟩:=F.ex
 refine Zex lk hcd S len fun A outer s H vs Q E hr hsp=>?_
 obtain ⟨t,h,q⟩:=hbody A outer s H vs Q E hr hsp
 exact ⟨t,h.nox,q⟩
theorem FunC.fn {x qual:Str}{st:Stmt}{f c Pl:Addr}{fd:FuncData}(F:FunC K x qual st f fd c Pl):Fun K x qual st f fd:=by
 obtain ⟨oc,od,kV,doc,pm,an,ct,osl,e,lk,hcd⟩:=F.ex
 exact ⟨⟨oc,od,kV,doc,pm,an,.ref c,ct,osl,e,lk,hcd⟩,F.kp⟩
end
theorem ZiR {X:Cx}{st:Stmt}:PS X st (fun _ _ _=>False):=fun _ _ _ _ _ _ h=>h.elim
structure TF (H H':Hp):Prop where
 tup:∀ b xs,H b=some (.tup xs)→H' b=some (.tup xs)
 frz:∀ b o u,H b=some (.frz o u)→H' b=some (.frz o u)
theorem TF.trans {H H1 H2:Hp}(a:TF H H1)(b:TF H1 H2):TF H H2:=⟨fun x xs h=>b.tup x xs (a.tup x xs h),fun x o u h=>b.frz x o u (a.frz x o u h)⟩
theorem Same.tf {H H':Hp}(h:Same H H'):TF H H':=⟨fun b _ e=>h b _ e,fun b _ _ e=>h b _ e⟩
theorem Grown.tf {Pl:Addr}{H H':Hp}{ps:Array Value}(h:Grown Pl H H')(e:H Pl=some (.tbl ps)):TF H H' :=
 ⟨fun b _ y=>h b _ (fun z=>by rw [z,e] at y;cases y) y,fun b _ _ y=>h b _ (fun z=>by rw [z,e] at y;cases y) y⟩
theorem LamAt.tbl {H:Hp}{Pl:Addr}{lpos:Pos}{qual:Str}(h:LamAt H Pl lpos qual):∃ ps,H Pl=some (.tbl ps):=by
 rcases h with h | ⟨_,h,_⟩
 · exact ⟨_,h⟩
 · exact ⟨_,h⟩
theorem Zcs {H:Hp}{l:Addr}{xs:List V}{o:HO}(h:H l=some (.lst xs)):TF H (upd H l o) :=
 ⟨fun b _ y=>by rw [Zh (fun z=>by rw [z,h] at y;cases y)];exact y,fun b _ _ y=>by rw [Zh (fun z=>by rw [z,h] at y;cases y)];exact y⟩
theorem Zjp {H:Hp}{l:Addr}{xs:List (Zl×V)}{o:HO}(h:H l=some (.dK xs)):TF H (upd H l o) :=
 ⟨fun b _ y=>by rw [Zh (fun z=>by rw [z,h] at y;cases y)];exact y,fun b _ _ y=>by rw [Zh (fun z=>by rw [z,h] at y;cases y)];exact y⟩
theorem SqT.tf {K:PySem.W.Frag}{H H':Hp}{a:Addr}{xs:List V}(h:SqT K H a xs)(t:TF H H'):SqT K H' a xs:=by
 rcases h with (h | ⟨o,h⟩) | h
 · exact .inl (.inl (t.tup _ _ h))
 · exact .inl (.inr ⟨o,t.frz _ _ _ h⟩)
 · exact .inr h
inductive Nd where
 | bare
 | leaf (m:Int) (ps:List (Str×V))
 | fork (qs:List Nat)
def Nd.parts:Nd→List Nat
 | .fork qs=>qs
 | _=>[]
def Nd.pairs:Nd→List (Str×V)
 | .leaf _ ps=>ps
 | _=>[]
def Nd.hasM (n:Int):Nd→Bool
 | .leaf m _=>decide (m=n)
 | _=>false
def PairT (H:Hp)(ts:List Addr)(ps:List (Str×V)):Prop:=ts.length=ps.length∧∀(i:Nat)(a:Addr)(p:Str×V),ts[i]?=some a→ps[i]?=some p→H a=some (.tup [.str p.1,p.2])
def PairsAt (H:Hp)(t:Addr)(ps:List (Str×V)):Prop:=∃ o ts,H t=some (.frz o (.tup (ts.map V.ref)))∧o.dict=none∧PairT H ts ps
def NodeAt (K:PySem.W.Frag)(H:Hp)(a:Addr):Nd→Prop
 | .bare=>SqT K H a [.str "bare"]
 | .leaf m ps=>∃ t,SqT K H a [.str "leaf",.int m,.ref t]∧PairsAt H t ps
 | .fork qs=>∃ t,SqT K H a [.str "fork",.ref t]∧SqT K H t (qs.map fun q:Nat=>V.int (q:Int))∧qs.length=4
theorem PairT.tf {H H':Hp}{ts:List Addr}{ps:List (Str×V)}(h:PairT H ts ps)(t:TF H H'):PairT H' ts ps:=⟨h.1,fun i a p e1 e2=>t.tup _ _ (h.2 i a p e1 e2)⟩
theorem PairsAt.tf {H H':Hp}{t:Addr}{ps:List (Str×V)}(h:PairsAt H t ps)(f:TF H H'):PairsAt H' t ps:=by
 obtain ⟨o,ts,e,d,p⟩:=h
 exact ⟨o,ts,f.frz _ _ _ e,d,p.tf f⟩
theorem NodeAt.tf {K:PySem.W.Frag}{H H':Hp}{a:Addr}{n:Nd}(h:NodeAt K H a n)(f:TF H H'):NodeAt K H' a n:=by
 cases n with
 | bare=>exact SqT.tf h f
 | leaf m ps=>obtain ⟨t,e,p⟩:=h;exact ⟨t,e.tf f,p.tf f⟩
 | fork qs=>obtain ⟨t,e,p,l⟩:=h;exact ⟨t,e.tf f,p.tf f,l⟩
def Uy (K:PySem.W.Frag):Sp:=fun vs H Q _=>∃(a:Addr)(n:Nd),vs=[.ref a]∧NodeAt K H a n∧∀ t H',Same H H'→SqT K H' t (n.parts.map fun q:Nat=>V.int (q:Int))→Q (.ref t) H'
def Wf (K:PySem.W.Frag):Sp:=fun vs H Q _=>∃(a:Addr)(n:Nd),vs=[.ref a]∧NodeAt K H a n∧∀ t H',Same H H'→PairsAt H' t n.pairs→Q (.ref t) H'
def Vh (K:PySem.W.Frag):Sp:=fun vs H Q _=>∃(a:Addr)(n:Nd)(m:Int),vs=[.ref a,.int m]∧NodeAt K H a n∧Q (.bl (n.hasM m)) H
def WW (K:PySem.W.Frag):Sp:=fun vs H Q _=>∃(l:Addr)(qs:List Nat),vs=[.ref l]∧H l=some (.lst (qs.map fun q:Nat=>V.int (q:Int)))∧qs.length=4∧∀ a H',Same H H'→NodeAt K H' a (.fork qs)→Q (.ref a) H'
end L2
set_option maxHeartbeats 1000000
namespace L2
open PySem
def Yy:HO→Bool
 | .tup _=>false
 | .frz _ _=>false
 | .own _=>false
 | .met _ _=>false
 | .rng _ _=>false
 | .ext _=>false
 | _=>true
def Ua (H h:Hp):Hp:=fun b=>match h b with
 | some o=>if Yy o=true then none else H b
 | none=>H b
def one (p:Addr)(o:HO):Hp:=fun b=>if b=p then some o else none
theorem one_some {p b:Addr}{o u:HO}:one p o b=some u↔b=p∧o=u:=by
 unfold one
 by_cases h:b=p
 · rw [if_pos h];exact ⟨fun z=>⟨h,Option.some.inj z⟩,fun z=>by rw [z.2]⟩
 · rw [if_neg h];exact ⟨fun z=>(by cases z),fun z=>absurd z.1 h⟩
abbrev YJ:=Addr→Hp→Prop
abbrev Rs:=List (Addr×YJ)
def Sep:Rs→Hp→Prop
 | [],_=>True
 | (a,R)::Δ,H=>∃ h,Same h H∧R a h∧Sep Δ (Ua H h)
theorem cut_some {H h:Hp}{b:Addr}{o:HO}:Ua H h b=some o↔H b=some o∧∀ u,h b=some u→Yy u=false:=by
 unfold Ua
 cases e:h b with
 | none=>exact ⟨fun z=>⟨z,fun u q=>by cases q⟩,fun z=>z.1⟩
 | some v =>
   cases m:Yy v with
   | true=>show (if Yy v=true then none else H b)=some o↔_;rw [if_pos m];exact ⟨fun z=>(by cases z),fun z=>(by have:=z.2 v rfl;rw [m] at this;cases this)⟩
   | false=>show (if Yy v=true then none else H b)=some o↔_;rw [if_neg (by rw [m];decide)];exact ⟨fun z=>⟨z,fun u q=>(by cases q;exact m)⟩,fun z=>z.1⟩
theorem ZaW {H h:Hp}:Same (Ua H h) H:=fun b o e=>(cut_some.mp e).1
theorem ZcC {H H' h:Hp}(s:Same H H'):Same (Ua H h) (Ua H' h):=fun b o e=>let ⟨x,y⟩:=cut_some.mp e;cut_some.mpr ⟨s _ _ x,y⟩
theorem Sep.mono:∀{Δ:Rs}{H H':Hp},Sep Δ H→Same H H'→Sep Δ H'
 | [],_,_,_,_=>trivial
 | (_,_)::_,_,_,⟨h,l,r,S⟩,s=>⟨h,l.trans s,r,S.mono (ZcC s)⟩
theorem Sep.swap {a b:Addr}{R T:YJ}{Δ:Rs}{H:Hp}(S:Sep ((a,R)::(b,T)::Δ) H):Sep ((b,T)::(a,R)::Δ) H:=by
 obtain ⟨h,l,r,g,m,t,S⟩:=S
 refine ⟨g,m.trans ZaW,t,h,fun c o e=>cut_some.mpr ⟨l _ _ e,fun u q=>?_⟩,r,S.mono fun c o e=>?_⟩
 · obtain ⟨q1,q2⟩:=cut_some.mp (m _ _ q)
   have e2:=l _ _ e
   rw [q1] at e2;cases e2
   exact q2 _ e
 · obtain ⟨e1,e2⟩:=cut_some.mp e
   obtain ⟨e3,e4⟩:=cut_some.mp e1
   exact cut_some.mpr ⟨cut_some.mpr ⟨e3,e2⟩,e4⟩
theorem Sep.tail {a:Addr}{R:YJ}{Δ:Rs}{H:Hp}(S:Sep ((a,R)::Δ) H):Sep Δ H:=by
 obtain ⟨h,l,r,S⟩:=S
 exact S.mono ZaW
class Pull (a:Addr) (Δ:Rs) (R:outParam YJ) (Δ':outParam Rs):Prop where
 out:∀ {H},Sep Δ H→Sep ((a,R)::Δ') H
instance (priority:=1000) Pull.here {a:Addr} {R:YJ} {Δ:Rs}:Pull a ((a,R)::Δ) R Δ:=⟨fun S=>S⟩
instance (priority:=900) Pull.there {a b:Addr} {R T:YJ} {Δ Δ':Rs} [P:Pull a Δ R Δ']:Pull a ((b,T)::Δ) R ((b,T)::Δ') :=
 ⟨fun S=>by
   obtain ⟨h,l,r,S⟩:=S
   exact Sep.swap ⟨h,l,r,P.out S⟩⟩
theorem Sep.pull {Δ Δ':Rs}{H:Hp}{R:YJ}(S:Sep Δ H)(a:Addr)[P:Pull a Δ R Δ']:Sep ((a,R)::Δ') H:=P.out S
theorem Sep.drop {Δ Δ':Rs}{H:Hp}{R:YJ}(S:Sep Δ H)(a:Addr)[P:Pull a Δ R Δ']:Sep Δ' H:=(P.out S).tail
class Up (R:YJ):Prop where
 up:∀ {a:Addr} {H H':Hp},R a H→Same H H'→R a H'
theorem Sep.get {Δ Δ':Rs}{H:Hp}{R:YJ}(S:Sep Δ H)(a:Addr)[P:Pull a Δ R Δ'][U:Up R]:R a H:=by
 obtain ⟨h,l,r,_⟩:=P.out S
 exact U.up r l
def Pt (o:HO):YJ:=fun a h=>h a=some o
abbrev Yc (xs:List V):YJ:=Pt (.lst xs)
abbrev Tup (xs:List V):YJ:=Pt (.tup xs)
instance {o:HO}:Up (Pt o):=⟨fun h s=>s _ _ h⟩
theorem Sep.new {Δ:Rs}{H:Hp}(S:Sep Δ H){p:Addr}(hp:H p=none)(o:HO):Sep ((p,Pt o)::Δ) (upd H p o):=by
 refine ⟨one p o,fun b u e=>?_,one_some.mpr ⟨rfl,rfl⟩,S.mono fun b u e=>?_⟩
 · obtain ⟨rfl,rfl⟩:=one_some.mp e;exact Zg
 · have hb:=Zn e hp
   exact cut_some.mpr ⟨by rw [Zh hb];exact e,fun v q=>absurd (one_some.mp q).1 hb⟩
theorem Sep.made {Δ:Rs}{H H':Hp}(S:Sep Δ H)(s:Same H H'){p:Addr}{o:HO}(hp:H p=none)(e:H' p=some o):Sep ((p,Pt o)::Δ) H':=by
 refine ⟨one p o,fun b u q=>?_,one_some.mpr ⟨rfl,rfl⟩,S.mono fun b u q=>?_⟩
 · obtain ⟨rfl,rfl⟩:=one_some.mp q;exact e
 · have hb:=Zn q hp
   exact cut_some.mpr ⟨s _ _ q,fun v q=>absurd (one_some.mp q).1 hb⟩
theorem Sep.put {Δ Δ':Rs}{H:Hp}{o:HO}(S:Sep Δ H)(a:Addr)(o':HO)[P:Pull a Δ (Pt o) Δ'](m:Yy o=true:=by rfl):Sep ((a,Pt o')::Δ') (upd H a o'):=by
 obtain ⟨h,l,r,S⟩:=P.out S
 refine ⟨one a o',fun b u q=>?_,one_some.mpr ⟨rfl,rfl⟩,S.mono fun b u q=>?_⟩
 · obtain ⟨rfl,rfl⟩:=one_some.mp q;exact Zg
 · obtain ⟨q1,q2⟩:=cut_some.mp q
   have hb:b≠a:=fun z=>by
     have:=q2 o (by rw [z];exact r)
     rw [m] at this;cases this
   exact cut_some.mpr ⟨by rw [Zh hb];exact q1,fun v q=>absurd (one_some.mp q).1 hb⟩
theorem Sep.say {Δ Δ':Rs}{H:Hp}{R:YJ}(S:Sep Δ H)(a:Addr)(T:YJ)[P:Pull a Δ R Δ'](f:∀ h,R a h→T a h):Sep ((a,T)::Δ') H:=by
 obtain ⟨h,l,r,S⟩:=P.out S
 exact ⟨h,l,f h r,S⟩
theorem Sep.call {Δ:Rs}{H H':Hp}{a:Addr}{R T:YJ}{L:List Addr}(S:Sep ((a,R)::Δ) H)(k:∀ b o,b ∉ L→H b=some o→H' b=some o)
   (f:∀ h,Same h H→R a h→(∀ b∈L,∃ o,h b=some o∧Yy o=true)∧∃ h',Same h' H'∧T a h'∧∀ b o,h' b=some o→Yy o=true→b∈L∨H b=none∨∃ u,h b=some u∧Yy u=true):Sep ((a,T)::Δ) H':=by
 obtain ⟨h,l,r,S⟩:=S
 obtain ⟨f1,h',l',t,f2⟩:=f h l r
 refine ⟨h',l',t,S.mono fun b o e=>?_⟩
 obtain ⟨e1,e2⟩:=cut_some.mp e
 have hb:b ∉ L:=fun z=>by
   obtain ⟨u,q1,q2⟩:=f1 b z
   rw [e2 u q1] at q2;cases q2
 refine cut_some.mpr ⟨k b o hb e1,fun u q=>?_⟩
 cases m:Yy u with
 | false=>rfl
 | true =>
   rcases f2 b u q m with z | z | ⟨v,z1,z2⟩
   · exact absurd z hb
   · rw [e1] at z;cases z
   · rw [e2 v z1] at z2;cases z2
abbrev Bx (n:Nat):YJ:=fun a h=>BoxAt h a n
instance {n:Nat}:Up (Bx n):=⟨fun h s=>h.same s⟩
theorem Sep.box {Δ:Rs}{H H':Hp}{p:Addr}{n m:Nat}(S:Sep ((p,Bx n)::Δ) H)(k:Kp p H H')(B:BoxAt H' p m):Sep ((p,Bx m)::Δ) H':=by
 refine S.call (L:=[p]) (fun b o nb e=>k b o (fun z=>nb (by simp [z])) e) fun h l r=>⟨fun b hb=>?_,?_⟩
 · rw [List.mem_singleton.mp hb]
   obtain ⟨x,y,z,e,_⟩:=r
   exact ⟨_,e,rfl⟩
 · obtain ⟨x,y,z,e,w⟩:=B
   refine ⟨one p (.lst [.int x,.int y,.int z]),fun b u q=>?_,⟨x,y,z,one_some.mpr ⟨rfl,rfl⟩,w⟩,fun b o q _=>.inl (by simp [(one_some.mp q).1])⟩
   obtain ⟨rfl,rfl⟩:=one_some.mp q;exact e
def Zee (M:Int):Sp:=fun vs H Q _=>∃(p:Addr)(n:Nat)(m:Int)(Δ:Rs),vs=[.ref p,.int m]∧Sep ((p,Bx n)::Δ) H∧n≤1000000∧0 < m∧m < M∧∀(r:Int)(H':Hp),0≤r→r < m→Sep ((p,Bx (n+1))::Δ) H'→Q (.int r) H'
theorem ZkJ {M:Int}{vs:List V}{H:Hp}{Q:VK}{E:XK}(h:Zee M vs H Q E):Zas M vs H Q E:=by
 obtain ⟨p,n,m,Δ,e,S,h1,h2,h3,q⟩:=h
 exact ⟨p,n,m,e,S.get p,h1,h2,h3,fun r H' a b B k=>q r H' a b (S.box k B)⟩
end L2
namespace L2
open PySem
theorem Zew {x:V}{u:Value}(h:Zfh u=some x):RelV x u:=by
 cases u<;>first | (cases h;exact rfl) | (cases h;exact ⟨_,rfl⟩) | cases h
theorem VS:∀{xs:List V}{us:List Value},us.map Zfh=xs.map some→Vals xs us
 | [],[],_=>.nil
 | [],_::_,h=>by cases h
 | _::_,[],h=>by cases h
 | x::xs,u::us,h=>by
   rw [List.map_cons,List.map_cons,List.cons.injEq] at h
   exact .cons (Zew h.1) (VS h.2)
def Zch (K:PySem.W.Frag)(a:Addr)(vs:List V):Bool:=match K.lookup a with
 | some ⟨.type "tuple",_,.seq its _,_⟩=>decide (its.size≤100000)&&decide (its.toList.map Zfh=vs.map some)
 | _=>false
theorem Zds {K:PySem.W.Frag}{a:Addr}{vs:List V}(h:Zch K a vs=true)(H:Hp):SqT K H a vs:=by
 unfold Zch at h
 split at h
 · rename_i its n _ hk
   simp only [Bool.and_eq_true,decide_eq_true_eq] at h
   exact .inr ⟨_,its,n,hk,rfl,rfl,Nat.le_trans h.1 (by decide),VS h.2⟩
 · cases h
end L2
set_option maxHeartbeats 2000000
namespace L2
open PySem
def ZbX (J:It)(tc:TT)(te:TE)(σ:St)(D:Addr)(Q:VK)(H1:Hp):Prop :=
 ∃ W : Nat→Nat→List V→Hp→Prop,(∃ m,W 0 m [] (upd H1 D (.lst [])))∧∀ i m ys H2,W i m ys H2 →
   (J.stop i H2∧Q (.ref D) H2)∨(J.go i H2∧∃ (N:VK) (M:Hp→Prop),(∀ y H4,N y H4→H4 D=some (.lst ys)∧ys.length < sizeLine∧∃ m',m' < m∧W (i+1) m' (ys++[y]) (upd H4 D (.lst (ys++[y]))))∧(∀ H4,M H4→∃ m',m' < m∧W (i+1) m' ys H4) ∧
     ∀ v H3,J.yld i H2 v H3→tc (σ++[some v]) H3 fun b H4=>if b=true then te (σ++[some v]) H4 N else M H4)
def ZkY (wi:TI)(tc:TT)(te:TE):TE:=fun σ H Q=>wi σ H fun J H1=>∀ D,H1 D=none→ZbX J tc te σ D Q H1
section
variable {X:Cx}{elt iter cnd:Expr}{x:Str}{px pos:Pos}{scope:Scope}{wi:TI}{te:TE}{tc:TT}
theorem XU {prog:Program}{w:World}{A:Around}{R:Result→Shared→Prop}{s:Shared}{elt target iter cnd:Expr}{scope:Scope}{pos:Pos}{it acc:Value}{env:Env}(I:Nat→Shared→Prop)
   (turn : ∀ n s,I n s→wpAny (model prog w) A (pyNext it) (fun r s₁=>match r with
     | none=>R (.ok .next) s₁
     | some v=>wpAny (model prog w) A (letOwnedTupleGo target it v) (fun _ s1'=>wpAny (model prog w) A (assign target env v) (fun _ s₂=>wpAny (model prog w) A (isTrue cnd env (eval cnd env)) (fun ok s2'=>if ok=true then wpAny (model prog w) A (eval elt env) (fun x s₃ =>
         wpAny (model prog w) A (call (.builtin "list.append") [acc,x]) (fun _ s₄=>∃ m,m < n∧I m s₄) (fun _ _=>False) s₃)
         (fun _ _=>False) s2' else ∃ m,m < n∧I m s2') (fun _ _=>False) s₂) (fun _ _=>False) s1') (fun _ _=>False) s₁) (fun _ _=>False) s)
   (n:Nat) (h:I n s) :
   codeAny (model prog w) A (.compLoop (.ListComp elt [⟨target,iter,[cnd],0⟩] scope pos) 0 it acc env) R s:=by
 refine codeAny_loop rfl I (fun n s hI=>?_) n h
 show wpAny _ _ ((compTurn (.ListComp elt [⟨target,iter,[cnd],0⟩] scope pos) 0 it acc env).onRaise (fun x=>do noteFrame x env;theTreesLotGoes x)) _ _ s
 refine wpAny_noted ?_
 rw [compTurn_list]
 refine wpAny_bind (wpAny_standAt (wpAny_bind (wpAny_mono (turn n s hI) (fun r s₁ h₁=>?_) fun _ _ h'=>h'.elim)))
 cases r with
 | none=>exact wpAny_pure h₁
 | some v =>
   refine wpAny_bind (wpAny_mono h₁ (fun _ s1' h1'=>?_) fun _ _ h'=>h'.elim)
   refine wpAny_bind (wpAny_mono h1' (fun _ s₂ h₂=>wpAny_bind (wpAny_tests_one (wpAny_mono h₂ (fun ok s₃ h₃=>?_) fun _ _ h'=>h'.elim))) fun _ _ h'=>h'.elim)
   cases ok with
   | false=>exact wpAny_pure ⟨rfl,h₃⟩
   | true =>
     exact wpAny_bind (wpAny_bind (wpAny_mono h₃ (fun x s₄ h₄=>wpAny_bind (wpAny_mono h₄ (fun _ s₅ h₅=>wpAny_pure (wpAny_pure ⟨rfl,h₅⟩)) fun _ _ h'=>h'.elim)) fun _ _ h'=>h'.elim))
theorem Zdy {pins:List (Addr×Obj)}{σ:St}{H2:Hp}{s₂:Shared}{J:It}{fp:List Addr}{it:Addr}{tn:Nat→Heap→Prop}{cl:List (Str×Addr)}{E:Value→Shared→Prop}{Q:VK}{RR:Value→Addr→Result→Shared→Prop}
   (O:CompOk X scope x) (hc:X.calm=true) (cl1:∀ y c,cl.lookup y=some c→X.env.cells.lookup y=some c) (cl2:∀ y∈scope.names,y.2=.free→cl.lookup y.1≠none)
   (hcn:∀ cl C s₀ H₀ fp,PT (ZW X scope x cl C s₀ H₀ fp) cnd tc) (he:∀ cl C s₀ H₀ fp,PE (ZW X scope x cl C s₀ H₀ fp) elt te)
   (I2:Inv X pins σ H2 s₂) (T:Um X.prog X.w X.K (.Name x px) J fp it tn) (st:tn 0 s₂.heap) (f2:∀ b∈fp,Yo X pins H2 b)
   (h:∀ D,H2 D=none→ZbX J tc te σ D Q H2)
   (hRR:∀ D C H' s',Inv X pins σ H' s'→Yo X pins H' C→(∃ m,s'.heap.Ns C m)→Q (.ref D) H'→RR (.ref D) C (.ok .next) s') :
   wpAny (model X.prog X.w) X.A (newList []) (fun acc s₃=>wpAny (model X.prog X.w) X.A (newFunctionEnv scope X.env.globals cl [] X.env.qual none .none (some X.env)) (fun cenv s₄ =>
     codeAny (model X.prog X.w) X.A (.compStart (.ListComp elt [⟨.Name x px,iter,[cnd],0⟩] scope pos) 0 (.ref it) acc { cenv with scope:=relabel scope X.env }) (RR acc cenv.locals) s₄) E s₃) E s₂:=by
 have hD:H2 s₂.heap.objs.size=none:=I2.hok.fresh (Nat.le_refl _)
 refine wpAny_newObj_type ?_
 have I3:Inv X pins σ (upd H2 s₂.heap.objs.size (.lst [])) { s₂ with heap:=s₂.heap.push { cls:=.type "list",data:=.seq ([]:List Value).toArray } } :=
   I2.laid (t':=s₂.toks) (fun b u e=>Heap.get?_push_of_some _ e) (Nat.le_refl _) ⟨Nat.zero_le _,[],_,.nil,Heap.get?_push_size _ rfl⟩
 have f3:∀ b∈fp,Yo X pins (upd H2 s₂.heap.objs.size (.lst [])) b:=fun b hb=>by
   obtain ⟨g0,g1⟩:=f2 b hb
   obtain ⟨o,e,_⟩:=T.obj 0 _ st b hb
   exact ⟨by rw [Zh (Nat.ne_of_lt (Heap.lt_size e))];exact g0,g1⟩
 have st3:tn 0 (s₂.heap.push { cls:=.type "list",data:=.seq ([]:List Value).toArray }):=T.keep _ _ _ st fun b hb o e=>Heap.get?_push_of_some _ e
 obtain ⟨W,⟨m0,w0⟩,turn⟩:=h _ hD
 generalize hDe:s₂.heap.objs.size=D at I3 f3 w0 turn ⊢
 generalize hH3:upd H2 D (.lst [])=H3 at I3 f3 w0 turn ⊢
 generalize hs3:({ s₂ with heap:=s₂.heap.push { cls:=.type "list",data:=.seq ([]:List Value).toArray } }:Shared)=s₃ at I3
 have st3':tn 0 s₃.heap:=by rw [← hs3];exact st3
 have hobj:∀ b∈fp,b < s₃.heap.objs.size:=fun b hb=>by
   obtain ⟨o,e,_⟩:=T.obj 0 _ st3' b hb
   exact Heap.lt_size e
 refine wpAny_newFunctionEnv O.cell (by intro y hy;simp at hy) (fun h₁ hns₁ hsb₁=>?_) O.kind
 have old:∀ b o,s₃.heap.get? b=some o→h₁.get? b=some o:=fun b o e=>hsb₁.extBut b o (Nat.ne_of_lt (Heap.lt_size e)) (Heap.get?_push_of_some _ e)
 generalize hs4:({ s₃ with heap:=h₁,toks:=s₃.toks+([]:List (Str×Value)).length }:Shared)=s₄
 have h4:s₄.heap=h₁:=by rw [← hs4]
 have hX:∀ C,Yo X pins C s₃.heap.objs.size→True:=fun _ _=>trivial
 have ok':(ZW X scope x cl s₃.heap.objs.size s₃ H3 fp).Ok:=by
   refine ⟨I3.ok.mod,O.kind,I3.ok.glob,I3.ok.blt,Nat.le_refl _,?_,?_,?_,I3.ok.hd,I3.ok.frames,.inl rfl,?_,I3.bs,Nat.le_trans I3.ok.bsz I3.sz,?_,?_,I3.stack,I3.stkFree⟩
   · exact fun y z c e1 e2=>I3.ok.inj y z c (cl1 y c e1) (cl1 z c e2)
   · intro y hk
     have hf:scope.names.lookup y=some .free:=by
       rcases hk with hk | hk
       · rcases Zs O.cell hk with q | q
         · exact absurd rfl (O.cell _ (mem_of_lookup q))
         · exact q.1
       · rcases Zs O.cell hk with q | q
         · exact q
         · cases q.2
     have:=cl2 _ (mem_of_lookup hf) rfl
     cases e:cl.lookup y with
     | none=>exact absurd e this
     | some c=>exact ⟨c,e⟩
   · intro y c hf;cases hf
   · intro b hb
     obtain ⟨g0,g1,g2,g3,g4,g5⟩:=f3 b hb
     exact ⟨Nat.ne_of_lt (hobj b hb),fun y c e=>g4 y c (cl1 y c e)⟩
   · intro b o e hb
     obtain ⟨g0,g1,g2,g3,g4,g5⟩:=f3 b hb
     rcases g3 with g3 | g3
     · exact I3.ok.noex b o e g3
     · exact absurd (Heap.lt_size e) (Nat.not_lt.mpr (Nat.le_trans I3.ok.bsz g3))
   · intro b hb hs
     obtain ⟨g0,g1,g2,g3,g4,g5⟩:=f3 b hb
     rcases List.mem_cons.mp (I3.stkSub b hs) with e | e
     · exact g1 e
     · exact g2 e
 have I4 : Inv (ZW X scope x cl s₃.heap.objs.size s₃ H3 fp) [] (σ++[none]) H3 s₄:=by
   obtain ⟨m,hm,hl⟩:=I3.loc
   refine ⟨ok',by rw [← hs4];rfl,by rw [← hs4];exact I3.bare,by rw [h4];exact Un.kept old,⟨_,by rw [h4];exact hns₁,?_⟩,?_,I3.hok.fresh (Nat.le_refl _),fun y c e=>I3.freeC y c (cl1 y c e),?_,by rw [h4];exact I3.hok.kept old,?_⟩
   · intro i y v e1 e2 e3
     have hlt:i < σ.length:=by
       rcases Nat.lt_or_ge i σ.length with z | z
       · exact z
       · rw [List.getElem?_append_right z] at e2
         cases e:i - σ.length with
         | zero=>rw [e] at e2;simp at e2
         | succ k=>rw [e] at e2;simp at e2
     rw [List.getElem?_append_left hlt] at e2
     have hsm:∃ k,scope.names.lookup y=some k:=by
       rcases e3 with hk | hk | hk
       · rcases Zs O.cell hk with q | q
         · exact ⟨_,q⟩
         · exact ⟨_,q.1⟩
       · rcases Zs O.cell hk with q | q
         · exact ⟨_,q⟩
         · exact ⟨_,q.1⟩
       · rcases Zs O.cell hk with q | q
         · exact ⟨_,q⟩
         · exact ⟨_,q.1⟩
     obtain ⟨e1',hyx⟩:X.N[i]?=some y∧y≠x:=by
       have e1:(Ub X.N x++[x])[i]?=some y:=e1
       rw [List.getElem?_append_left (by rw [XL,← I3.len];exact hlt)] at e1
       rcases VI e1 with z | z
       · exact z
       · obtain ⟨k,hk⟩:=hsm
         rw [z,O.noh] at hk;cases hk
     have hy:y∈X.N:=List.mem_of_getElem? e1'
     have hf:scope.names.lookup y=some .free:=by
       rcases e3 with hk | hk | hk
       · rcases Zs O.cell hk with q | q
         · exact absurd q (O.own y hy hyx)
         · exact q.1
       · rcases Zs O.cell hk with q | q
         · exact absurd rfl (O.cell _ (mem_of_lookup q))
         · exact q.1
       · rcases Zs O.cell hk with q | q
         · exact q
         · exact q.1
     have hk:=O.clos _ (mem_of_lookup hf) rfl
     have hv:Vis X.env.scope y:=by rcases hk with z | z;exact .inr (.inl z);exact .inr (.inr z)
     obtain ⟨u,ru,lu⟩:=hl i y v e1' e2 hv
     refine ⟨u,ru,?_⟩
     have hkc:(compEnvC scope cl s₃.heap.objs.size X.env).kindOf y=some .cell∨(compEnvC scope cl s₃.heap.objs.size X.env).kindOf y=some .free:=by
       rcases e3 with q | q | q
       · rcases Zs O.cell q with z | z
         · exact absurd z (O.own y hy hyx)
         · cases z.2
       · exact .inl q
       · exact .inr q
     rcases lu with ⟨q,_⟩ | ⟨_,c,hcl,hcc⟩
     · rcases hk with z | z<;>(rw [q] at z;cases z)
     · refine .inr ⟨hkc,?_⟩
       cases e:cl.lookup y with
       | none=>exact absurd e (cl2 _ (mem_of_lookup hf) rfl)
       | some c' =>
         have:=cl1 y c' e
         rw [hcl] at this
         cases this
         refine ⟨c,e,?_⟩
         rw [h4]
         obtain ⟨oc,ho,hd⟩:=hcc
         exact ⟨oc,old _ _ ho,hd⟩
   · intro y c e
     obtain ⟨v,oc,ho,hd⟩:=I3.cell y c (cl1 y c e)
     exact ⟨v,oc,by rw [h4];exact old _ _ ho,hd⟩
   · intro p hp;cases hp
   · show (σ++[none]).length=(Ub X.N x++[x]).length
     rw [List.length_append,List.length_append,XL,I3.len];rfl
 have st4:tn 0 s₄.heap:=by rw [h4];exact T.keep _ _ _ st3' fun b hb o e=>old b o e
 have fpok:∀ {H':Hp},(∀ b∈fp,H' b=none)→∀ b∈fp,Yo (ZW X scope x cl s₃.heap.objs.size s₃ H3 fp) [] H' b:=fun hn b hb=>by
   obtain ⟨g0,g1,g2,g3,g4,g5⟩:=f3 b hb
   refine ⟨hn b hb,Nat.ne_of_lt (hobj b hb),ok'.exfs b hb,.inl hb,fun y c e=>g4 y c (cl1 y c e),?_⟩
   intro p hp;cases hp
 have loop:codeAny (model X.prog X.w) X.A (.compLoop (.ListComp elt [⟨.Name x px,iter,[cnd],0⟩] scope pos) 0 (.ref it) (.ref D) (compEnvC scope cl s₃.heap.objs.size X.env)) (RR (.ref D) s₃.heap.objs.size) s₄:=by
   refine XU (fun n s'=>∃ i ys w' H',Inv (ZW X scope x cl s₃.heap.objs.size s₃ H3 fp) [] (σ++[w']) H' s'∧tn i s'.heap∧(∀ b∈fp,H' b=none)∧W i n ys H') ?_ m0 ⟨0,[],none,H3,I4,st4,fun b hb=>(f3 b hb).1,w0⟩
   rintro n s5 ⟨i,ys,w',H5,I5,st5,fr5,w5⟩
   rcases turn i n ys H5 w5 with ⟨stop,q⟩ | ⟨go,N,M,hN,hM,step⟩
   · refine Zr (T.done (ZW X scope x cl s₃.heap.objs.size s₃ H3 fp) rfl rfl rfl hc i [] s5 _ H5 _ I5 (fpok fr5) st5 stop) fun r s6 ⟨hr,I6⟩=>?_
     subst hr
     obtain ⟨m6,hn6,_⟩:=I6.loc
     have IX:Inv X pins σ H5 s6:=I3.call' (ch:=fp) I6.os I6.base I6.hok I6.bare fun b hb=>by
       obtain ⟨g0,g1,g2,g3,g4,g5⟩:=f3 b hb
       exact ⟨g3,g1,g4,g5⟩
     exact hRR D _ H5 s6 IX (I3.fpOk (Nat.le_refl _) I6.free) ⟨m6,hn6⟩ q
   · refine Zr (T.item (ZW X scope x cl s₃.heap.objs.size s₃ H3 fp) rfl rfl rfl hc i [] s5 _ H5 _ I5 (fpok fr5) st5 go) fun r s6 ⟨u,hr,h6⟩=>?_
     subst hr
     refine Zr h6 fun _ s7 ⟨v,H7,I7,r7,y7,st7,fr7⟩=>?_
     have I7':=I7.pinned (fpok fr7) (T.obj _ _ st7)
     have hixN:(ZW X scope x cl s₃.heap.objs.size s₃ H3 fp).N[σ.length]?=some x:=by
       show (Ub X.N x++[x])[σ.length]?=some x
       rw [I3.len,← XL X.N x];simp
     refine Zr (ZO (X:=ZW X scope x cl s₃.heap.objs.size s₃ H3 fp) (pos:=px) O.nd hixN (.inl (lookup_relabel_local O.loc)) (.inr (lookup_relabel_local O.loc)) _ s7 _ H7 v u (fun σ' H'=>σ'=σ++[some v]∧H'=H7) I7' r7 ⟨by simp,rfl⟩) fun _ s8 ⟨σ8,H8,I8,e8,e8'⟩=>?_
     subst e8 e8'
     refine Zr (hcn cl s₃.heap.objs.size s₃ H3 fp _ s8 _ H8 _ I8 (step v H8 y7)) fun bb s8b ⟨H8b,I8b,q8b⟩=>?_
     cases bb with
     | false =>
       obtain ⟨m',hm',w9⟩:=hM H8b q8b
       refine ⟨m',hm',i+1,ys,some v,_,I8b.unpinned (pins:=[]),T.keep _ _ _ st7 fun b hb o e=>(I8b.pin (b,o) (List.mem_append_right _ (List.mem_append_right _ (Ya hb e)))).1,fun b hb=>?_,w9⟩
       obtain ⟨o,e,d⟩:=T.obj _ _ st7 b hb
       exact (I8b.pin (b,o) (List.mem_append_right _ (List.mem_append_right _ (Ya hb e)))).2.1
     | true =>
       refine Zr (he cl s₃.heap.objs.size s₃ H3 fp _ s8b _ H8b _ I8b q8b) fun uy s9 ⟨y,H9,I9,r9,n9⟩=>?_
       obtain ⟨hl9,hz9,m',hm',w9⟩:=hN y H9 n9
       refine Zr (Yf (X:=ZW X scope x cl s₃.heap.objs.size s₃ H3 fp) _ s9 _ H9 (.ref D) [y] (.ref D) [uy] (fun v H'=>H'=upd H9 D (.lst (ys++[y]))) I9 rfl (.cons r9 .nil) ⟨D,ys,y,rfl,rfl,hl9,hz9,rfl⟩) fun _ s10 ⟨_,H10,I10,_,e10⟩=>?_
       subst e10
       refine ⟨m',hm',i+1,ys++[y],some v,_,I10.unpinned (pins:=[]),T.keep _ _ _ st7 fun b hb o e=>(I10.pin (b,o) (List.mem_append_right _ (List.mem_append_right _ (Ya hb e)))).1,fun b hb=>?_,w9⟩
       obtain ⟨o,e,d⟩:=T.obj _ _ st7 b hb
       exact (I10.pin (b,o) (List.mem_append_right _ (List.mem_append_right _ (Ya hb e)))).2.1
 exact codeAny_compStart_list loop (T.self _ 0 _ _ _ st4 loop)
theorem VO {i:Nat}{y:Str}{py spos:Pos}(O:CompOk X scope x)(hc:X.calm=true)(hN:X.N.Nodup)(hiN:X.N[i]?=some y)(hy:Loc X.env.scope y)(hi:PI X (.Name x px) iter wi)(hcn:∀ cl C s₀ H₀ fp,PT (ZW X scope x cl C s₀ H₀ fp) cnd tc)(he:∀ cl C s₀ H₀ fp,PE (ZW X scope x cl C s₀ H₀ fp) elt te)
   (hsw:swapsWith (.ListComp elt [⟨.Name x px,iter,[cnd],0⟩] scope pos) (some (.Name y py)) spos.line X.env=pure true) (hf:X.fn y=true∨X.env.scope.names.lookup y=some .local:=by first | exact .inl rfl | exact .inr rfl | assumption)
   (hs:∀ v,foldedSetIterable iter X.env v=pure v:=by intro _;rfl):PS X (.Assign [.Name y py] (.ListComp elt [⟨.Name x px,iter,[cnd],0⟩] scope pos) spos) (ZeS (ZkY wi tc te) (Zca i)):=by
 intro pins s σ H D I h
 obtain ⟨cl,hcl,cl1,cl2⟩:=XX (scope:=scope) (env:=X.env) fun y hy hf=>I.ok.has _ (O.clos y hy hf)
 rw [exec_Assign_Name_used _ _ _ _ hsw]
 refine wpAny_bind (wpAny_standAt (wpAny_bind ?_))
 show wpAny _ X.A (do let _ ← comprehension (.ListComp elt [⟨.Name x px,iter,[cnd],0⟩] scope pos) scope X.env _ (newList []) false (eval iter X.env) (some (assign (.Name y py) X.env))) _ _ s
 refine wpAny_bind (wpAny_mono (wpAny_comprehension_free (use:=some (assign (.Name y py) X.env)) (Q:=fun _ s'=>SP X pins D .next s') rfl hs hcl O.kind O.names
   (Zr (hi pins s σ H _ I h) fun v s1 h1=>Zr h1 fun itv s2 h2=>?_)) (fun _ s' hq=>wpAny_pure (wpAny_pure hq)) fun _ _ e=>e)
 obtain ⟨it,fp,tn,J,H2,e,I2,T,st2,f2,q⟩:=h2
 subst e
 refine Zdy (RR:=fun acc C=>compPost (model X.prog X.w) X.A X.xe (some (assign (.Name y py) X.env)) (fun _ s'=>SP X pins D .next s') acc C) O hc cl1 cl2 hcn he I2 T st2 f2 q ?_
 intro Dl C H' s' I' ⟨g0,g1,g2,g3,g4,g5⟩ ⟨m,hm⟩ hq
 show wpAny _ X.A (assign (.Name y py) X.env (.ref Dl)) _ _ _
 refine wpAny_assign_Name (Vq I' hN hiN hy (v:=.ref Dl) rfl (fun s'' I'' ⟨a,sb,ha⟩=>?_) hf)
 have haC:C≠a:=by
   rcases ha with z | z
   · rw [z];exact g1
   · exact fun z'=>g4 y a z z'.symm
 exact ⟨m,hm.sameBut sb haC,fun h' hs'=>⟨_,H',I''.turned (t':=s''.toks) (fun b o hb e=>(hs'.2 b hb).trans e) g0 g1 g3 g4 g5,hq⟩⟩
end
theorem ZfB {K:PySem.W.Frag}{a:Addr}{xs:List V}{tc:TT}{te:TE}{σ:St}{D:Addr}{Q:VK}{H:Hp}(hn:xs.length≤sizeLine)(Pv:Nat→List V→Hp→Prop)(h0:Pv 0 [] (upd H D (.lst [])))
   (hl:∀ i ys H,Pv i ys H→ys.length≤i∧SqT K H a xs)
   (hs:∀ i x ys H,xs[i]?=some x→Pv i ys H→tc (σ++[some x]) H fun b H3=>if b=true then te (σ++[some x]) H3 fun y H4=>H4 D=some (.lst ys)∧Pv (i+1) (ys++[y]) (upd H4 D (.lst (ys++[y]))) else Pv (i+1) ys H3) (hd:∀ ys H,Pv xs.length ys H→Q (.ref D) H):ZbX (Itt K a) tc te σ D Q H:=by
 refine ⟨fun i m ys H=>m=xs.length - i∧i≤xs.length∧Pv i ys H,⟨xs.length,by simp,Nat.zero_le _,h0⟩,?_⟩
 rintro i m ys H2 ⟨rfl,hi,p⟩
 obtain ⟨hlen,q⟩:=hl i ys _ p
 by_cases hlt:i < xs.length
 · refine .inr ⟨⟨xs,xs[i],q,by simp [hlt]⟩,_,_,fun y H4 (q:H4 D=some (.lst ys)∧Pv (i+1) (ys++[y]) (upd H4 D (.lst (ys++[y]))))=>⟨q.1,by omega,xs.length - (i+1),by omega,rfl,hlt,q.2⟩,fun H4 (q:Pv (i+1) ys H4)=>⟨xs.length - (i+1),by omega,rfl,hlt,q⟩,fun v H3 y=>?_⟩
   obtain ⟨e,y⟩:=y
   subst e
   exact hs i v ys _ (y xs q) p
 · have e:i=xs.length:=by omega
   subst e
   exact .inl ⟨⟨xs,q,Nat.le_refl _⟩,hd ys H2 p⟩
theorem ZeL {K:PySem.W.Frag}{a:Addr}{xs:List V}{tc:TT}{te:TE}{σ:St}{D:Addr}{Q:VK}{H:Hp}(hn:xs.length≤sizeLine)(Pv:Nat→List V→Hp→Prop)(h0:Pv 0 [] (upd H D (.lst [])))
   (hl:∀ i ys H,Pv i ys H→ys.length≤i∧SqL K H a xs)
   (hs:∀ i x ys H,xs[i]?=some x→Pv i ys H→tc (σ++[some x]) H fun b H3=>if b=true then te (σ++[some x]) H3 fun y H4=>H4 D=some (.lst ys)∧Pv (i+1) (ys++[y]) (upd H4 D (.lst (ys++[y]))) else Pv (i+1) ys H3) (hd:∀ ys H,Pv xs.length ys H→Q (.ref D) H):ZbX (Itl K a) tc te σ D Q H:=by
 refine ⟨fun i m ys H=>m=xs.length - i∧i≤xs.length∧Pv i ys H,⟨xs.length,by simp,Nat.zero_le _,h0⟩,?_⟩
 rintro i m ys H2 ⟨rfl,hi,p⟩
 obtain ⟨hlen,q⟩:=hl i ys _ p
 by_cases hlt:i < xs.length
 · refine .inr ⟨⟨xs,xs[i],q,by simp [hlt]⟩,_,_,fun y H4 (q:H4 D=some (.lst ys)∧Pv (i+1) (ys++[y]) (upd H4 D (.lst (ys++[y]))))=>⟨q.1,by omega,xs.length - (i+1),by omega,rfl,hlt,q.2⟩,fun H4 (q:Pv (i+1) ys H4)=>⟨xs.length - (i+1),by omega,rfl,hlt,q⟩,fun v H3 y=>?_⟩
   obtain ⟨e,y⟩:=y
   subst e
   exact hs i v ys _ (y xs q) p
 · have e:i=xs.length:=by omega
   subst e
   exact .inl ⟨⟨xs,q,Nat.le_refl _⟩,hd ys H2 p⟩
end L2
set_option maxHeartbeats 2000000
namespace L2
open PySem PySem.Spec PyProof.Rows
def XY (N:List Str)(xa xb:Str):List Str:=Ub (Ub N xa) xb
theorem UX (N:List Str)(xa xb:Str):(XY N xa xb).length=N.length:=by unfold XY;rw [XL,XL]
theorem ZcV {N:List Str}{xa xb y:Str}{i:Nat}(h:(XY N xa xb)[i]?=some y):(N[i]?=some y∧¬ (y=xa∨y=xb))∨y="":=by
 rcases VI h with ⟨h1,h2⟩ | h1
 · rcases VI h1 with ⟨h3,h4⟩ | h3
   · exact .inl ⟨h3,fun z=>z.elim h4 h2⟩
   · exact .inr h3
 · exact .inr h1
def ZT (X:Cx)(scope:Scope)(xa xb:Str)(cl:List (Str×Addr))(C:Addr)(s₀:Shared)(H₀:Hp)(fp:List Addr):Cx:={ ZW X scope xa cl C s₀ H₀ fp with N:=XY X.N xa xb++[xa,xb] }
structure CompOkT (X:Cx)(scope:Scope)(xa xb:Str):Prop where
 nd:(XY X.N xa xb++[xa,xb]).Nodup
 clos:∀ y∈scope.names,y.2=.free→X.env.kindOf y.1=some .cell∨X.env.kindOf y.1=some .free
 cell:∀ y∈scope.names,y.2≠.cell
 kind:scope.kind=.function
 names:∀ y∈scope.names,y.2=.local→scope.names.lookup y.1=some .local
 own:∀ y∈X.N,¬ (y=xa∨y=xb)→scope.names.lookup y≠some .local
 noh:scope.names.lookup ("":Str)=none
def ZeT (J:It)(g:TG)(te:TE)(σ:St)(D:Addr)(Q:VK)(H1:Hp):Prop :=
 ∃ W:Nat→Nat→List V→Hp→Prop,(∃ m,W 0 m [] (upd H1 D (.lst [])))∧∀ i m ys H2,W i m ys H2 →
   (J.stop i H2∧Q (.ref D) H2)∨(J.go i H2∧∃ N:VK,(∀ y H4,N y H4→H4 D=some (.lst ys)∧ys.length < sizeLine∧∃ m',m' < m∧W (i+1) m' (ys++[y]) (upd H4 D (.lst (ys++[y]))))∧∀ wa wb v H3,J.yld i H2 v H3→g v (σ++[wa,wb]) H3 fun σ' H'=>(∃ wa wb,σ'=σ++[wa,wb])∧te σ' H' N)
def Zlg (wi:TI)(g:TG)(te:TE):TE:=fun σ H Q=>wi σ H fun J H1=>∀ D,H1 D=none→ZeT J g te σ D Q H1
section
variable {X:Cx}{elt iter tg:Expr}{xa xb:Str}{pos:Pos}{scope:Scope}{wi:TI}{te:TE}{g:TG}
theorem ZdD {pins:List (Addr×Obj)}{σ:St}{H2:Hp}{s₂:Shared}{J:It}{fp:List Addr}{it:Addr}{tn:Nat→Heap→Prop}{cl:List (Str×Addr)}{E:Value→Shared→Prop}{Q:VK}{RR:Value→Addr→Result→Shared→Prop}
   (O:CompOkT X scope xa xb) (hc:X.calm=true) (cl1:∀ y c,cl.lookup y=some c→X.env.cells.lookup y=some c) (cl2:∀ y∈scope.names,y.2=.free→cl.lookup y.1≠none)
   (hg:∀ cl C s₀ H₀ fp,PG (ZT X scope xa xb cl C s₀ H₀ fp) tg g) (he:∀ cl C s₀ H₀ fp,PE (ZT X scope xa xb cl C s₀ H₀ fp) elt te)
   (I2:Inv X pins σ H2 s₂) (T:Um X.prog X.w X.K tg J fp it tn) (st:tn 0 s₂.heap) (f2:∀ b∈fp,Yo X pins H2 b)
   (h:∀ D,H2 D=none→ZeT J g te σ D Q H2)
   (hRR:∀ D C H' s',Inv X pins σ H' s'→Yo X pins H' C→(∃ m,s'.heap.Ns C m)→Q (.ref D) H'→RR (.ref D) C (.ok .next) s') :
   wpAny (model X.prog X.w) X.A (newList []) (fun acc s₃=>wpAny (model X.prog X.w) X.A (newFunctionEnv scope X.env.globals cl [] X.env.qual none .none (some X.env)) (fun cenv s₄ =>
     codeAny (model X.prog X.w) X.A (.compStart (.ListComp elt [⟨tg,iter,[],0⟩] scope pos) 0 (.ref it) acc { cenv with scope:=relabel scope X.env }) (RR acc cenv.locals) s₄) E s₃) E s₂:=by
 have hD:H2 s₂.heap.objs.size=none:=I2.hok.fresh (Nat.le_refl _)
 refine wpAny_newObj_type ?_
 have I3:Inv X pins σ (upd H2 s₂.heap.objs.size (.lst [])) { s₂ with heap:=s₂.heap.push { cls:=.type "list",data:=.seq ([]:List Value).toArray } } :=
   I2.laid (t':=s₂.toks) (fun b u e=>Heap.get?_push_of_some _ e) (Nat.le_refl _) ⟨Nat.zero_le _,[],_,.nil,Heap.get?_push_size _ rfl⟩
 have f3:∀ b∈fp,Yo X pins (upd H2 s₂.heap.objs.size (.lst [])) b:=fun b hb=>by
   obtain ⟨g0,g1⟩:=f2 b hb
   obtain ⟨o,e,_⟩:=T.obj 0 _ st b hb
   exact ⟨by rw [Zh (Nat.ne_of_lt (Heap.lt_size e))];exact g0,g1⟩
 have st3:tn 0 (s₂.heap.push { cls:=.type "list",data:=.seq ([]:List Value).toArray }):=T.keep _ _ _ st fun b hb o e=>Heap.get?_push_of_some _ e
 obtain ⟨W,⟨m0,w0⟩,turn⟩:=h _ hD
 generalize hDe:s₂.heap.objs.size=D at I3 f3 w0 turn ⊢
 generalize hH3:upd H2 D (.lst [])=H3 at I3 f3 w0 turn ⊢
 generalize hs3:({ s₂ with heap:=s₂.heap.push { cls:=.type "list",data:=.seq ([]:List Value).toArray } }:Shared)=s₃ at I3
 have st3':tn 0 s₃.heap:=by rw [← hs3];exact st3
 have hobj:∀ b∈fp,b < s₃.heap.objs.size:=fun b hb=>by
   obtain ⟨o,e,_⟩:=T.obj 0 _ st3' b hb
   exact Heap.lt_size e
 refine wpAny_newFunctionEnv O.cell (by intro y hy;simp at hy) (fun h₁ hns₁ hsb₁=>?_) O.kind
 have old:∀ b o,s₃.heap.get? b=some o→h₁.get? b=some o:=fun b o e=>hsb₁.extBut b o (Nat.ne_of_lt (Heap.lt_size e)) (Heap.get?_push_of_some _ e)
 generalize hs4:({ s₃ with heap:=h₁,toks:=s₃.toks+([]:List (Str×Value)).length }:Shared)=s₄
 have h4:s₄.heap=h₁:=by rw [← hs4]
 have hX:∀ C,Yo X pins C s₃.heap.objs.size→True:=fun _ _=>trivial
 have ok':(ZT X scope xa xb cl s₃.heap.objs.size s₃ H3 fp).Ok:=by
   refine ⟨I3.ok.mod,O.kind,I3.ok.glob,I3.ok.blt,Nat.le_refl _,?_,?_,?_,I3.ok.hd,I3.ok.frames,.inl rfl,?_,I3.bs,Nat.le_trans I3.ok.bsz I3.sz,?_,?_,I3.stack,I3.stkFree⟩
   · exact fun y z c e1 e2=>I3.ok.inj y z c (cl1 y c e1) (cl1 z c e2)
   · intro y hk
     have hf:scope.names.lookup y=some .free:=by
       rcases hk with hk | hk
       · rcases Zs O.cell hk with q | q
         · exact absurd rfl (O.cell _ (mem_of_lookup q))
         · exact q.1
       · rcases Zs O.cell hk with q | q
         · exact q
         · cases q.2
     have:=cl2 _ (mem_of_lookup hf) rfl
     cases e:cl.lookup y with
     | none=>exact absurd e this
     | some c=>exact ⟨c,e⟩
   · intro y c hf;cases hf
   · intro b hb
     obtain ⟨g0,g1,g2,g3,g4,g5⟩:=f3 b hb
     exact ⟨Nat.ne_of_lt (hobj b hb),fun y c e=>g4 y c (cl1 y c e)⟩
   · intro b o e hb
     obtain ⟨g0,g1,g2,g3,g4,g5⟩:=f3 b hb
     rcases g3 with g3 | g3
     · exact I3.ok.noex b o e g3
     · exact absurd (Heap.lt_size e) (Nat.not_lt.mpr (Nat.le_trans I3.ok.bsz g3))
   · intro b hb hs
     obtain ⟨g0,g1,g2,g3,g4,g5⟩:=f3 b hb
     rcases List.mem_cons.mp (I3.stkSub b hs) with e | e
     · exact g1 e
     · exact g2 e
 have I4 : Inv (ZT X scope xa xb cl s₃.heap.objs.size s₃ H3 fp) [] (σ++[none,none]) H3 s₄:=by
   obtain ⟨m,hm,hl⟩:=I3.loc
   refine ⟨ok',by rw [← hs4];rfl,by rw [← hs4];exact I3.bare,by rw [h4];exact Un.kept old,⟨_,by rw [h4];exact hns₁,?_⟩,?_,I3.hok.fresh (Nat.le_refl _),fun y c e=>I3.freeC y c (cl1 y c e),?_,by rw [h4];exact I3.hok.kept old,?_⟩
   · intro i y v e1 e2 e3
     have hlt:i < σ.length:=by
       rcases Nat.lt_or_ge i σ.length with z | z
       · exact z
       · rw [List.getElem?_append_right z] at e2
         have:=List.mem_of_getElem? e2
         simp at this
     rw [List.getElem?_append_left hlt] at e2
     have hsm:∃ k,scope.names.lookup y=some k:=by
       rcases e3 with hk | hk | hk
       · rcases Zs O.cell hk with q | q
         · exact ⟨_,q⟩
         · exact ⟨_,q.1⟩
       · rcases Zs O.cell hk with q | q
         · exact ⟨_,q⟩
         · exact ⟨_,q.1⟩
       · rcases Zs O.cell hk with q | q
         · exact ⟨_,q⟩
         · exact ⟨_,q.1⟩
     obtain ⟨e1',hyx⟩:X.N[i]?=some y∧¬ (y=xa∨y=xb):=by
       have e1:(XY X.N xa xb++[xa,xb])[i]?=some y:=e1
       rw [List.getElem?_append_left (by rw [UX,← I3.len];exact hlt)] at e1
       rcases ZcV e1 with z | z
       · exact z
       · obtain ⟨k,hk⟩:=hsm
         rw [z,O.noh] at hk;cases hk
     have hy:y∈X.N:=List.mem_of_getElem? e1'
     have hf:scope.names.lookup y=some .free:=by
       rcases e3 with hk | hk | hk
       · rcases Zs O.cell hk with q | q
         · exact absurd q (O.own y hy hyx)
         · exact q.1
       · rcases Zs O.cell hk with q | q
         · exact absurd rfl (O.cell _ (mem_of_lookup q))
         · exact q.1
       · rcases Zs O.cell hk with q | q
         · exact q
         · exact q.1
     have hk:=O.clos _ (mem_of_lookup hf) rfl
     have hv:Vis X.env.scope y:=by rcases hk with z | z;exact .inr (.inl z);exact .inr (.inr z)
     obtain ⟨u,ru,lu⟩:=hl i y v e1' e2 hv
     refine ⟨u,ru,?_⟩
     have hkc:(compEnvC scope cl s₃.heap.objs.size X.env).kindOf y=some .cell∨(compEnvC scope cl s₃.heap.objs.size X.env).kindOf y=some .free:=by
       rcases e3 with q | q | q
       · rcases Zs O.cell q with z | z
         · exact absurd z (O.own y hy hyx)
         · cases z.2
       · exact .inl q
       · exact .inr q
     rcases lu with ⟨q,_⟩ | ⟨_,c,hcl,hcc⟩
     · rcases hk with z | z<;>(rw [q] at z;cases z)
     · refine .inr ⟨hkc,?_⟩
       cases e:cl.lookup y with
       | none=>exact absurd e (cl2 _ (mem_of_lookup hf) rfl)
       | some c' =>
         have:=cl1 y c' e
         rw [hcl] at this
         cases this
         refine ⟨c,e,?_⟩
         rw [h4]
         obtain ⟨oc,ho,hd⟩:=hcc
         exact ⟨oc,old _ _ ho,hd⟩
   · intro y c e
     obtain ⟨v,oc,ho,hd⟩:=I3.cell y c (cl1 y c e)
     exact ⟨v,oc,by rw [h4];exact old _ _ ho,hd⟩
   · intro p hp;cases hp
   · show (σ++[none,none]).length=(XY X.N xa xb++[xa,xb]).length
     rw [List.length_append,List.length_append,UX,I3.len];rfl
 have st4:tn 0 s₄.heap:=by rw [h4];exact T.keep _ _ _ st3' fun b hb o e=>old b o e
 have fpok:∀ {H':Hp},(∀ b∈fp,H' b=none)→∀ b∈fp,Yo (ZT X scope xa xb cl s₃.heap.objs.size s₃ H3 fp) [] H' b:=fun hn b hb=>by
   obtain ⟨g0,g1,g2,g3,g4,g5⟩:=f3 b hb
   refine ⟨hn b hb,Nat.ne_of_lt (hobj b hb),ok'.exfs b hb,.inl hb,fun y c e=>g4 y c (cl1 y c e),?_⟩
   intro p hp;cases hp
 have loop:codeAny (model X.prog X.w) X.A (.compLoop (.ListComp elt [⟨tg,iter,[],0⟩] scope pos) 0 (.ref it) (.ref D) (compEnvC scope cl s₃.heap.objs.size X.env)) (RR (.ref D) s₃.heap.objs.size) s₄:=by
   refine Wa (fun n s'=>∃ i ys wa wb H',Inv (ZT X scope xa xb cl s₃.heap.objs.size s₃ H3 fp) [] (σ++[wa,wb]) H' s'∧tn i s'.heap∧(∀ b∈fp,H' b=none)∧W i n ys H') ?_ m0 ⟨0,[],none,none,H3,I4,st4,fun b hb=>(f3 b hb).1,w0⟩
   rintro n s5 ⟨i,ys,wa,wb,H5,I5,st5,fr5,w5⟩
   rcases turn i n ys H5 w5 with ⟨stop,q⟩ | ⟨go,N,hN,step⟩
   · refine Zr (T.done (ZT X scope xa xb cl s₃.heap.objs.size s₃ H3 fp) rfl rfl rfl hc i [] s5 _ H5 _ I5 (fpok fr5) st5 stop) fun r s6 ⟨hr,I6⟩=>?_
     subst hr
     obtain ⟨m6,hn6,_⟩:=I6.loc
     have IX:Inv X pins σ H5 s6:=I3.call' (ch:=fp) I6.os I6.base I6.hok I6.bare fun b hb=>by
       obtain ⟨g0,g1,g2,g3,g4,g5⟩:=f3 b hb
       exact ⟨g3,g1,g4,g5⟩
     exact hRR D _ H5 s6 IX (I3.fpOk (Nat.le_refl _) I6.free) ⟨m6,hn6⟩ q
   · refine Zr (T.item (ZT X scope xa xb cl s₃.heap.objs.size s₃ H3 fp) rfl rfl rfl hc i [] s5 _ H5 _ I5 (fpok fr5) st5 go) fun r s6 ⟨u,hr,h6⟩=>?_
     subst hr
     refine Zr h6 fun _ s7 ⟨v,H7,I7,r7,y7,st7,fr7⟩=>?_
     have I7':=I7.pinned (fpok fr7) (T.obj _ _ st7)
     refine Zr (hg cl s₃.heap.objs.size s₃ H3 fp _ s7 _ H7 v u _ I7' r7 (step wa wb v H7 y7)) fun _ s8 ⟨σ8,H8,I8,⟨wa',wb',e8⟩,q8⟩=>?_
     subst e8
     refine Zr (he cl s₃.heap.objs.size s₃ H3 fp _ s8 _ H8 _ I8 q8) fun uy s9 ⟨y,H9,I9,r9,n9⟩=>?_
     obtain ⟨hl9,hz9,m',hm',w9⟩:=hN y H9 n9
     refine Zr (Yf (X:=ZT X scope xa xb cl s₃.heap.objs.size s₃ H3 fp) _ s9 _ H9 (.ref D) [y] (.ref D) [uy] (fun v H'=>H'=upd H9 D (.lst (ys++[y]))) I9 rfl (.cons r9 .nil) ⟨D,ys,y,rfl,rfl,hl9,hz9,rfl⟩) fun _ s10 ⟨_,H10,I10,_,e10⟩=>?_
     subst e10
     refine ⟨m',hm',i+1,ys++[y],wa',wb',_,I10.unpinned (pins:=[]),T.keep _ _ _ st7 fun b hb o e=>(I10.pin (b,o) (List.mem_append_right _ (List.mem_append_right _ (Ya hb e)))).1,fun b hb=>?_,w9⟩
     obtain ⟨o,e,d⟩:=T.obj _ _ st7 b hb
     exact (I10.pin (b,o) (List.mem_append_right _ (List.mem_append_right _ (Ya hb e)))).2.1
 exact codeAny_compStart_list loop (T.self _ 0 _ _ _ st4 loop)
theorem ZhV (O:CompOkT X scope xa xb)(hc:X.calm=true)(hi:PI X tg iter wi)(hg:∀ cl C s₀ H₀ fp,PG (ZT X scope xa xb cl C s₀ H₀ fp) tg g)(he:∀ cl C s₀ H₀ fp,PE (ZT X scope xa xb cl C s₀ H₀ fp) elt te)
   (hs:∀ v,foldedSetIterable iter X.env v=pure v:=by intro _;rfl):PE X (.ListComp elt [⟨tg,iter,[],0⟩] scope pos) (Zlg wi g te):=by
 intro pins s σ H Q I h
 obtain ⟨cl,hcl,cl1,cl2⟩:=XX (scope:=scope) (env:=X.env) fun y hy hf=>I.ok.has _ (O.clos y hy hf)
 rw [eval_ListComp]
 refine wpAny_comprehension_free (use:=none) rfl hs hcl O.kind O.names (Zr (hi pins s σ H _ I h) fun v s1 h1=>Zr h1 fun itv s2 h2=>?_)
 obtain ⟨it,fp,tn,J,H2,e,I2,T,st2,f2,q⟩:=h2
 subst e
 refine ZdD (RR:=fun acc C=>compPost (model X.prog X.w) X.A X.xe none (EP X pins σ Q) acc C) O hc cl1 cl2 hg he I2 T st2 f2 q ?_
 intro D C H' s' I' ⟨g0,g1,g2,g3,g4,g5⟩ ⟨m,hm⟩ hq
 exact ⟨m,hm,fun h' hs'=>⟨.ref D,H',I'.turned (t':=s'.toks) (fun b o hb e=>(hs'.2 b hb).trans e) g0 g1 g3 g4 g5,rfl,hq⟩⟩
end
end L2
set_option maxHeartbeats 2000000
namespace L2
open PySem PySem.Spec PyProof.Rows
end L2
namespace L2
open PySem
structure ZY (mg:Str→Option Value):Prop where
 len:mg "len"=none
 abs:mg "abs"=none
 int:mg "int"=none
 range:mg "range"=none
 min:mg "min"=none
 max:mg "max"=none
 repr:mg "repr"=none
 enumerate:mg "enumerate"=none
 ord:mg "ord"=none
 list:mg "list"=none
 tuple:mg "tuple"=none
 dict:mg "dict"=none
 sorted:mg "sorted"=none
 sum:mg "sum"=none
 all:mg "all"=none
 any:mg "any"=none
 divmod:mg "divmod"=none
 str:mg "str"=none
 isinstance:mg "isinstance"=none
 set:mg "set"=none
 zip:mg "zip"=none
 reversed:mg "reversed"=none
 bool:mg "bool"=none
abbrev DTk (P:Program)(w:World)(K:PySem.W.Frag)(mg:Str→Option Value)(base:Heap)(k:Nat):Prop:=Def P w K mg base k "_law_take" ["_law_box_here","_law_many"] (Zee 4611686018427387904)
theorem FnOk.conv {P:Program}{w:World}{K:PySem.W.Frag}{mg:Str→Option Value}{base:Heap}{k:Nat}{f:Addr}{fd:FuncData}{ps:List Str}{sp sp':Sp}(F:FnOk P w K mg base ZF k f fd ps sp)(h:∀ vs H Q E,sp' vs H Q E→sp vs H Q E):FnOk P w K mg base ZF k f fd ps sp' :=
 ⟨fun vs H Q E z=>F.len vs H Q E (h vs H Q E z),fun A outer s H args us vs Q E hr he hb hv z=>F.run A outer s H args us vs Q E hr he hb hv (h vs H Q E z)⟩
theorem Def.conv {P:Program}{w:World}{K:PySem.W.Frag}{mg:Str→Option Value}{base:Heap}{k:Nat}{x:Str}{ps:List Str}{sp sp':Sp}(D:Def P w K mg base k x ps sp)(h:∀ vs H Q E,sp' vs H Q E→sp vs H Q E):Def P w K mg base k x ps sp' :=
 let ⟨f,fd,F,b,kp,m⟩:=D;⟨f,fd,F.conv h,b,kp,m⟩
theorem ZaU {α:Type}{xs:List α}{r:Int}{v:α}(h0:0≤r)(h:xs[r.toNat]?=some v):YG xs r=some v:=by
 have z:YG xs ((r.toNat:Nat):Int)=some v:=Zv h
 rwa [show ((r.toNat:Nat):Int)=r by omega] at z
theorem Yp {n m:Nat}(h:n≤m)(hm:m≤100000:=by decide):n≤sizeLine:=Nat.le_trans (Nat.le_trans h hm) (by decide)
theorem YT {n m:Nat}(h:n≤m)(hm:m≤100000:=by decide):n < sizeLine:=Nat.lt_of_le_of_lt (Nat.le_trans h hm) (by decide)
end L2
set_option maxHeartbeats 2000000
namespace L2
open PySem
def DefM (P:Program)(w:World)(K:PySem.W.Frag)(mg:Str→Option Value)(base:Heap)(k:Nat)(C:Addr)(m:Str)(ps:List Str)(sp:Sp):Prop:=∃ f fd,FnOk P w K mg base ZF k f fd ps sp∧Binds K fd ps []∧VA K C m f
theorem DefM.mono {P:Program}{w:World}{K:PySem.W.Frag}{mg:Str→Option Value}{base:Heap}{j k:Nat}{C:Addr}{m:Str}{ps:List Str}{sp:Sp}(D:DefM P w K mg base j C m ps sp)(h:j≤k):DefM P w K mg base k C m ps sp :=
 let ⟨f,fd,F,b,q⟩:=D;⟨f,fd,F.mono h,b,q⟩
section
variable {X:Cx}{k:Nat}{C:Addr}{m:Str}{ps:List Str}{sp:Sp}{pos apos:Pos}{o e:Expr}{es:List Expr}{ta:TE}{t:TA}
theorem ZZ {pl:Sem Bool}(D:DefM X.prog X.w X.K X.mg X.base k C m ps sp)(c:Cls X.K C)(hr:Room k X.A)(he:PE X o ta)(ha:PA X (e::es) t)
   (hst:starEach (e::es) X.env=(false,eval e X.env)::starEach es X.env:=by rfl) (hpl:(backTo pos (starEach es X.env)).any (·.1)=false:=by rfl)
   (ht:eval (.Call (.Attribute o m apos) (e::es) [] pos) X.env=(do
     let ov ← eval o X.env
     standAt apos.atName
     let (f,first) ← holding [ov] (getMethod ov m pl)
     callWith pos f first (backTo pos (starEach (e::es) X.env)) (backToKw pos (keywordEach [] X.env))):=by rfl) :
   PE X (.Call (.Attribute o m apos) (e::es) [] pos) (Zcg C m sp [] E0 ta t):=by
 obtain ⟨f,fd,F,b,q⟩:=D
 exact Zjx he c q F hr b .nil Zcd ha hst hpl ht
end
def Kq (S:List Addr)(H H':Hp):Prop:=∀ b o,b ∉ S→H b=some o→H' b=some o
theorem Kq.trans {S:List Addr}{H H1 H2:Hp}(a:Kq S H H1)(b:Kq S H1 H2):Kq S H H2:=fun x o n h=>b x o n (a x o n h)
theorem Kq.sub {S S':List Addr}{H H':Hp}(a:Kq S H H')(h:∀ b∈S,b∈S'):Kq S' H H':=fun x o n e=>a x o (fun z=>n (h x z)) e
theorem Same.kq {S:List Addr}{H H':Hp}(h:Same H H'):Kq S H H':=fun b o _ e=>h b o e
theorem ZaN {H:Hp}{a:Addr}{o:HO}:Kq [a] H (upd H a o):=fun b u n e=>by rw [Zh (fun z=>n (by simp [z]))];exact e
theorem tn:¬ (("nodes":Str)="tables"):=by decide +kernel
def VX (ln dt:Addr):List (Str×V):=Xj "tables" (.ref dt) (Xj "nodes" (.ref ln) [])
theorem XB (ln dt:Addr):(VX ln dt).lookup ("nodes":Str)=some (.ref ln):=by unfold VX;rw [YO,if_neg tn,YO,if_pos rfl]
theorem Zfy (ln dt:Addr):(VX ln dt).lookup ("tables":Str)=some (.ref dt):=by unfold VX;rw [YO,if_pos rfl]
theorem ZU (ln dt:Addr){m:Str}(h1:¬ m="tables")(h2:¬ m="nodes"):(VX ln dt).lookup m=none:=by
 unfold VX
 rw [YO,if_neg h1,YO,if_neg h2]
 rfl
structure StoreAt (K:PySem.W.Frag)(C st ln dt:Addr)(H:Hp)(nds:List Nd)(tabs:List (Zl×V)):Prop where
 ob:∃ dx,H st=some (.ins C dx (VX ln dt))
 nl:∃ as:List Addr,H ln=some (.lst (as.map V.ref))∧as.length=nds.length∧∀ (i:Nat) (a:Addr) (n:Nd),as[i]?=some a→nds[i]?=some n→NodeAt K H a n
 tb:H dt=some (.dK tabs)
theorem StoreAt.keep {K:PySem.W.Frag}{C st ln dt:Addr}{H H':Hp}{nds:List Nd}{tabs:List (Zl×V)}(S:StoreAt K C st ln dt H nds tabs)(h:Same H H'):StoreAt K C st ln dt H' nds tabs:=by
 obtain ⟨⟨dx,e⟩,⟨as,e2,l,hn⟩,e3⟩:=S
 exact ⟨⟨dx,h _ _ e⟩,⟨as,h _ _ e2,l,fun i a n x y=>(hn i a n x y).tf h.tf⟩,h _ _ e3⟩
theorem StoreAt.kq {K:PySem.W.Frag}{C st ln dt:Addr}{H H':Hp}{nds:List Nd}{tabs:List (Zl×V)}{L:List Addr}(S:StoreAt K C st ln dt H nds tabs)(k:Kq L H H')(t:TF H H')(h1:st ∉ L)(h2:ln ∉ L)(h3:dt ∉ L):StoreAt K C st ln dt H' nds tabs:=by
 obtain ⟨⟨dx,e⟩,⟨as,e2,l,hn⟩,e3⟩:=S
 exact ⟨⟨dx,k _ _ h1 e⟩,⟨as,k _ _ h2 e2,l,fun i a n x y=>(hn i a n x y).tf t⟩,k _ _ h3 e3⟩
theorem Grown.kq {Pl:Addr}{H H':Hp}(g:Grown Pl H H'):Kq [Pl] H H':=fun b o n e=>g b o (fun z=>n (by simp [z])) e
theorem LamAt.kq {H H':Hp}{Pl:Addr}{lpos:Pos}{q:Str}{L:List Addr}(h:LamAt H Pl lpos q)(k:Kq L H H')(hL:∀ b∈L,∃ xs,H b=some (.lst xs)):LamAt H' Pl lpos q:=by
 rcases h with h | ⟨c,h,h2⟩
 · exact .inl (k _ _ (fun z=>by obtain ⟨_,e⟩:=hL _ z;rw [h] at e;cases e) h)
 · exact .inr ⟨c,k _ _ (fun z=>by obtain ⟨_,e⟩:=hL _ z;rw [h] at e;cases e) h,k _ _ (fun z=>by obtain ⟨_,e⟩:=hL _ z;rw [h2] at e;cases e) h2⟩
theorem Zbi {α:Type}{xs:List α}{r:Int}(h0:0≤r)(h1:r < (xs.length:Int)):∃ v,YG xs r=some v∧v∈xs:=by
 have hk:r.toNat < xs.length:=by omega
 have z:YG xs ((r.toNat:Nat):Int)=some xs[r.toNat]:=Zv (List.getElem?_eq_getElem hk)
 have e:((r.toNat:Nat):Int)=r:=by omega
 rw [e] at z
 exact ⟨_,z,List.getElem_mem hk⟩
def YR:V→Prop
 | .int i=>i.natAbs≤10 ^ 31
 | .str x=>x.length≤41∧x.cps.toList.all VR=true
 | _=>False
def ZaJ:V→Bool
 | .int i=>decide (i.natAbs≤10 ^ 31)
 | .str x=>decide (x.length≤41)&&x.cps.toList.all VR
 | _=>false
theorem UN {v:V}(h:ZaJ v=true):YR v:=by
 cases v with
 | int i=>exact of_decide_eq_true (p:=i.natAbs≤10 ^ 31) h
 | str x =>
   have h':(decide (x.length≤41)&&x.cps.toList.all VR)=true:=h
   simp only [Bool.and_eq_true,decide_eq_true_eq] at h'
   exact h'
 | _=>cases h
def ZdI:Sp:=fun vs H Q _=>∃(p:Addr)(n:Nat),vs=[.ref p]∧BoxAt H p n∧n≤900000∧∀(v:V)(H':Hp),YR v→BoxAt H' p (n+50)→Kp p H H'→Q v H'
def ZiE:List Stmt→Str
 | .Assign _ (.Constant (.str x) _ _) _::_=>x
 | _::r=>ZiE r
 | []=>Str.empty
def Zcr (N:List Str)(names:List (Str×NameKind))(scope:Scope)(xa xb:Str):Bool :=
 decide ((XY N xa xb++[xa,xb]).Nodup)&&scope.names.all (fun y=>(y.2 != .free || names.lookup y.1 == some .cell || names.lookup y.1 == some .free)&&(y.2 != .cell&&(y.2 != .local || scope.names.lookup y.1 == some .local))) &&
 (scope.kind == .function&&N.all fun y=>(y == xa || y == xb) || scope.names.lookup y != some .local)&&scope.names.lookup ("":Str) == none
theorem CompOkT.of {X:Cx}{scope:Scope}{xa xb:Str}(N:List Str)(st:Stmt)(hN:X.N=N)(hn:X.env.scope=Zj st)(chk:Zcr N (Zj st).names scope xa xb=true):CompOkT X scope xa xb:=by
 unfold Zcr at chk
 simp only [Bool.and_eq_true,decide_eq_true_eq,List.all_eq_true,Bool.or_eq_true,bne_iff_ne,beq_iff_eq] at chk
 obtain ⟨⟨⟨c1,c2⟩,c3,c5⟩,c6⟩:=chk
 refine ⟨by rw [hN];exact c1,fun y hy hf=>?_,fun y hy=>(c2 y hy).2.1,c3,fun y hy hl=>?_,fun y hy hx=>(c5 y (by rw [← hN];exact hy)).resolve_left hx,c6⟩
 · show X.env.scope.names.lookup y.1=_∨X.env.scope.names.lookup y.1=_
   rw [hn]
   rcases (c2 y hy).1 with (z | z) | z
   · exact absurd hf z
   · exact .inl z
   · exact .inr z
 · rcases (c2 y hy).2.2 with z | z
   · exact absurd hl z
   · exact z
theorem Zeq {X:Cx}{K:PySem.W.Frag}(hK:X.K=K)(hc:X.calm=true){xa xb:Str}{pa pb tp:Pos}{j:Nat}{ga gb:TG}(ha:PG X (.Name xa pa) ga)(hb:PG X (.Name xb pb) gb):PG X (.Tuple [.Name xa pa,.Name xb pb] j tp) (gTup K 2 (ZeQ ga (ZeQ gb gNil))):=by
 subst hK
 exact Ww hc (Yk ha (Yk hb XQ))
theorem FnOk.ex {P:Program}{w:World}{K:PySem.W.Frag}{mg:Str→Option Value}{base:Heap}{k:Nat}{f:Addr}{fd:FuncData}{ps:List Str}{ok:List Str→Prop}{sp:List Str→Sp}(F:∀ NS,ok NS→FnOk P w K mg base ZF k f fd ps (sp NS)) :
   FnOk P w K mg base ZF k f fd ps (fun vs H Q E=>∃ NS,ok NS∧sp NS vs H Q E) :=
 ⟨fun vs H Q E ⟨NS,N,h⟩=>(F NS N).len vs H Q E h,fun A outer s H args us vs Q E hr he hb hv ⟨NS,N,h⟩=>(F NS N).run A outer s H args us vs Q E hr he hb hv h⟩
def ZeB (P:Program)(w:World)(K:PySem.W.Frag)(mg:Str→Option Value)(base:Heap)(k:Nat)(C:Addr)(x:Str)(ps:List Str)(sp:Sp):Prop:=∃ f fd,FnOk P w K mg base ZF k f fd ps sp∧Binds K fd ps []∧Mk K C f∧mg x=some (.ref C)
theorem ZiW {X:Cx}{k:Nat}{C:Addr}{x:Str}{ps:List Str}{sp:Sp}{p pos:Pos}(D:ZeB X.prog X.w X.K X.mg X.base k C x ps sp)(hr:Room (k+1) X.A)(hg:Gl X x:=by rfl)(hdb:(x == ("__debug__":Str))=false:=by decide) :
   PE X (.Call (.Name x p) [] [] pos) (Ziw C sp [] E0 Wd):=by
 obtain ⟨f,fd,F,b,M,m⟩:=D
 exact ZhS M F hr hg m b .nil Zcd hdb
theorem SqL.obj {K:PySem.W.Frag}{H:Hp}{a:Addr}{xs:List V}(h:SqL K H a xs):(∀ H',SqL K H' a xs)∨∃ o,H a=some o∧(∀ tb,o≠.tbl tb)∧∀ H',H' a=some o→SqL K H' a xs:=by
 rcases h with (h | ⟨o,h⟩) | h
 · exact .inr ⟨_,h,(fun tb z=>by cases z),fun H' e=>.inl (.inl e)⟩
 · exact .inr ⟨_,h,(fun tb z=>by cases z),fun H' e=>.inl (.inr ⟨o,e⟩)⟩
 · exact .inl fun H'=>.inr h
theorem Vj {H H':Hp}{a:Addr}(s:Same H H')(h:H' a=none):H a=none:=by
 cases e:H a with
 | none=>rfl
 | some o=>rw [s _ _ e] at h;cases h
end L2
set_option maxHeartbeats 4000000
namespace K25
open PySem L2
def top (i:Nat):Stmt:=PySem.Challenge.pw_roadsettings_k25_papers_of_looks.main.body.getD i (.Pass ⟨0,0,0,0⟩)
abbrev s_is_number:Stmt:=top 3
abbrev s_alike:Stmt:=top 4
abbrev s_mark:Stmt:=top 5
abbrev s_digit:Stmt:=top 6
abbrev s_leaf_of:Stmt:=top 11
abbrev s_fork_of:Stmt:=top 12
abbrev s_parts_in:Stmt:=top 13
abbrev s_pairs_in:Stmt:=top 14
abbrev s_has_mark:Stmt:=top 15
abbrev s_look_paper:Stmt:=top 21
abbrev s_shows_look:Stmt:=top 22
abbrev s_is_tuple_of:Stmt:=top 23
abbrev c_RoadError___init__:Stmt:=ZN (top 25) 0
abbrev c_Store___init__:Stmt:=ZN (top 30) 0
abbrev c_Store_empty:Stmt:=ZN (top 30) 1
abbrev c_Store_put:Stmt:=ZN (top 30) 2
abbrev c_Store_without:Stmt:=ZN (top 30) 3
abbrev c_Store_looked:Stmt:=ZN (top 30) 4
abbrev c_Store_way:Stmt:=ZN (top 30) 7
abbrev c_Store_made:Stmt:=ZN (top 30) 9
abbrev c_Store_check_table:Stmt:=ZN (top 30) 10
abbrev c_Store_keep:Stmt:=ZN (top 30) 12
abbrev c_Store_as_table:Stmt:=ZN (top 30) 13
abbrev c_Store_put_in:Stmt:=ZN (top 30) 14
abbrev c_Store_fork_parts:Stmt:=ZN (top 30) 15
abbrev c_Store_taken_from:Stmt:=ZN (top 30) 16
abbrev c_Roads___init__:Stmt:=ZN (top 32) 0
abbrev c_Roads_put:Stmt:=ZN (top 32) 1
abbrev c_Roads_clear:Stmt:=ZN (top 32) 2
abbrev c_Roads_places:Stmt:=ZN (top 32) 3
abbrev c_Roads_ahead:Stmt:=ZN (top 32) 4
abbrev c_Roads_step:Stmt:=ZN (top 32) 5
abbrev c_Roads_last:Stmt:=ZN (top 32) 8
abbrev c_Roads_walked:Stmt:=ZN (top 32) 9
abbrev c_Roads_table:Stmt:=ZN (top 32) 11
abbrev c_Roads_check_place:Stmt:=ZN (top 32) 18
abbrev c_Roads_step_has:Stmt:=ZN (top 32) 19
abbrev c_Roads_go_on:Stmt:=ZN (top 32) 20
abbrev s_l_cell_at:Stmt:=top 34
abbrev s_l_box:Stmt:=top 35
abbrev s_l_take:Stmt:=top 36
abbrev s_l_names:Stmt:=top 37
abbrev s_l_value:Stmt:=top 38
abbrev s_l_pool:Stmt:=top 39
abbrev s_l_values:Stmt:=top 40
abbrev s_l_step:Stmt:=top 41
abbrev s_l_from:Stmt:=top 42
abbrev s_l_grown:Stmt:=top 43
abbrev s_l_alike:Stmt:=top 46
abbrev s_l_paper:Stmt:=top 47
abbrev s_l_is_refused:Stmt:=top 48
abbrev s_l_look_right:Stmt:=top 49
abbrev s_l_right:Stmt:=top 50
abbrev s_law:Stmt:=top 51
section
variable {P:Program}{w:World}{K:PySem.W.Frag}{mg:Str→Option Value}{base:Heap}
theorem scC:Zq ["_law_script","_law_k"] ["_law_script","_law_k"] (Zj s_l_cell_at):=⟨rfl,rfl,rfl,by decide +kernel,rfl,by decide +kernel,by decide +kernel⟩
theorem ZjX {f:Addr}{fd:FuncData}(F:Fun K "_law_cell_at" "_law_cell_at" s_l_cell_at f fd)(T:ZY mg):FnOk P w K mg base ZF 1 f fd ["_law_script","_law_k"] (ZgF K):=by
 refine F.ok scC (fun vs H Q E h=>?_) (fun cdv A outer s H vs Q E hr h=>?_)
 · obtain ⟨a,ns,k,rfl,_⟩:=h;rfl
 obtain ⟨a,ns,k,rfl,hS,h0,q⟩:=h
 refine ⟨_,Ze (Yb (ZJ VM (pv 1) (Zu ZE rfl T.len PySem.boot_len (Yw (pv 0) Za)) (ZC _)) (Zi (Zk (Zm Zt (pv 0) (pv 1) (fun _ _=>rfl)))) ZR)
   (Zi (Zk Zd)),?_⟩
 refine ⟨_,rfl,_,rfl,a,_,rfl,.inl hS,_,_,rfl,rfl,_,rfl,?_⟩
 refine Xx (fun c=>?_) (fun c=>?_)
 · have c':k < (((ns.map V.int).length:Nat):Int):=of_decide_eq_true c
   rw [List.length_map] at c'
   have hk:k.toNat < ns.length:=by omega
   have ek:k=((k.toNat:Nat):Int):=by omega
   have hat:YG (ns.map V.int) k=some (.int ns[k.toNat]):=by
     have z:YG (ns.map V.int) ((k.toNat:Nat):Int)=some (.int ns[k.toNat]):=Zv (by rw [List.getElem?_map,List.getElem?_eq_getElem hk];rfl)
     rwa [← ek] at z
   exact ⟨_,rfl,_,rfl,a,_,_,_,rfl,rfl,hS,hat,q _⟩
 · exact q 0
theorem scB:Zq ["_law_script","_law_k","_law_cell"] ["_law_script","_law_k"] (Zj s_l_box):=⟨rfl,rfl,rfl,by decide +kernel,rfl,by decide +kernel,by decide +kernel⟩
theorem Zkr {f:Addr}{fd:FuncData}(F:Fun K "_law_box" "_law_box" s_l_box f fd)(T:ZY mg)(D:Def P w K mg base 1 "_law_cell_at" ["_law_script","_law_k"] (ZgF K)):FnOk P w K mg base ZF 2 f fd ["_law_script","_law_k"] (ZiK K):=by
 refine F.ok scB (fun vs H Q E h=>?_) (fun cdv A outer s H vs Q E hr h=>?_)
 · obtain ⟨a,ns,k,rfl,_⟩:=h;rfl
 obtain ⟨a,ns,k,rfl,hS,h0,h1,q⟩:=h
 refine ⟨_,Ze (Zx (i:=2) scB.nd rfl (Or.inl rfl) (Zz D hr (Yw (pv 0) (Yw (pv 1) Za))))
   (Zi (Zk (Yj (Yw (Zw Wt (Zu Zdj rfl T.abs (by decide +kernel) (Yw (pv 2) Za)) (Ye ZbB rfl T.int (by decide +kernel) (Yw (Yl ZiD (Zu Zdj rfl T.abs (by decide +kernel) (Yw (pv 2) Za)) (Zw Vn Zd Zd) (ZC _)) Za)))
     (Yw (Zw YC (Zw YC (Zw Xn (pv 2) Zd) (Zw Wt Zd (pv 1))) Zd) (Yw Zd Za)))))),?_⟩
 refine ⟨_,rfl,_,rfl,a,ns,k,rfl,hS,h0,fun r=>?_⟩
 refine ⟨_,rfl,_,rfl,⟨_,rfl,_,rfl,_,_,rfl,rfl,⟨by decide,by decide,by decide⟩,_,_,rfl,rfl,.inr ⟨_,rfl,?_⟩⟩⟩
 generalize hb:decide ((10:Int) ^ (Int.toNat 18)≤(if r < 0 then -r else r))=bb
 refine ⟨_,_,rfl,rfl,.inr (by cases bb<;>exact ⟨by decide,by decide⟩),_,rfl,_,_,rfl,rfl,(by show (0:Int) < _;decide),_,rfl,_,_,rfl,rfl,.inl ⟨by decide,by decide⟩,_,_,rfl,rfl,_,_,rfl,rfl,(by show 3≤sizeLine;decide),fun p hp=>?_⟩
 refine q p _ hp ⟨_,_,0,Zg,?_,by decide,by decide⟩ (Zp hp _)
 cases bb
 · simp
 · simp only [if_true,Int.mul_one];split<;>omega
theorem scT:Zq ["_law_box_here","_law_many","_law_found","_law_once","_law_twice"] ["_law_box_here","_law_many"] (Zj s_l_take):=⟨rfl,rfl,rfl,by decide +kernel,rfl,by decide +kernel,by decide +kernel⟩
theorem ZjO {f:Addr}{fd:FuncData}(F:Fun K "_law_take" "_law_take" s_l_take f fd):FnOk P w K mg base ZF 1 f fd ["_law_box_here","_law_many"] (Zas 4611686018427387904):=by
 refine F.ok scT (fun vs H Q E h=>?_) (fun cdv A outer s H vs Q E hr h=>?_)
 · obtain ⟨p,n,m,rfl,_⟩:=h;rfl
 obtain ⟨p,n,m,rfl,⟨a,b,c,hp,ha,hc,hcn⟩,hn,hm0,hmM,q⟩:=h
 refine ⟨_,Ze (Yb (ZJ ZiN (Zm Zt (pv 0) Zd (fun _ _=>rfl)) Zd (ZC _))
     (Ze (Zx (i:=2) scT.nd rfl (Or.inl rfl) (Zw Xn (Zm Zt (pv 0) Zd (fun _ _=>rfl)) (pv 1)))
       (Ze (XA (Zw Zhy (Zm Zt (pv 0) Zd (fun _ _=>rfl)) (pv 1)) (ZaG (pv 0) Zd UH)) (Zi (Zk (pv 2))))) ZR)
   (Ze (XA (Zw YC (Zm Zt (pv 0) Zd (fun _ _=>rfl)) Zd) (ZaG (pv 0) Zd UH))
   (Ze (Zx (i:=3) scT.nd rfl (Or.inl rfl) (Zw Xn (Zw Wt (Zw YC (Zm Zt (pv 0) Zd (fun _ _=>rfl)) (Zw Wt Zd (Zm Zt (pv 0) Zd (fun _ _=>rfl)))) (Zw YC Zd (Zm Zt (pv 0) Zd (fun _ _=>rfl)))) Zd))
   (Ze (Zx (i:=4) scT.nd rfl (Or.inl rfl) (Zw Xn (Zw Wt (Zw YC (pv 3) (Zm Zt (pv 0) Zd (fun _ _=>rfl))) (Zw YC (Zw Xn (pv 3) Zd) Zd)) Zd))
   (Zi (Zk (Zw Xn (Zw Zep (Zw Xn (Zw YC (Zw Wt (pv 4) Zd) (pv 3)) Zd) Zd) (pv 1))))))),?_⟩
 refine ⟨_,rfl,p,_,_,_,rfl,rfl,SqL.of hp,rfl,_,_,rfl,rfl,_,rfl,?_⟩
 refine Xx (fun c'=>?_) (fun c'=>?_)
 · have h0:0 < a:=of_decide_eq_true c'
   refine ⟨_,rfl,p,_,_,_,rfl,rfl,SqL.of hp,rfl,_,rfl,_,_,rfl,rfl,hm0,?_⟩
   refine ⟨_,rfl,p,_,_,_,rfl,rfl,SqL.of hp,rfl,_,rfl,_,_,rfl,rfl,⟨hm0,by have h4:m < 4611686018427387904:=hmM;omega⟩,?_⟩
   refine ⟨_,rfl,p,_,_,_,rfl,rfl,hp,rfl,?_⟩
   refine ⟨_,rfl,?_⟩
   exact q _ _ (Int.emod_nonneg _ (by omega)) (Int.emod_lt_of_pos _ hm0) ⟨a / m,b,c,Zg,Int.ediv_nonneg ha (by omega),hc,by omega⟩ (Kp.upd _ _ _)
 · refine ⟨_,rfl,p,_,_,_,rfl,rfl,SqL.of hp,rfl,_,_,rfl,rfl,?_⟩
   refine ⟨_,rfl,p,_,_,_,rfl,rfl,hp,rfl,?_⟩
   have hp1:upd H p (.lst [.int a,.int b,.int (c+1)]) p=some (.lst [.int a,.int b,.int (c+1)]):=Zg
   refine ⟨_,rfl,p,_,_,_,rfl,rfl,SqL.of hp1,rfl,_,rfl,p,_,_,_,rfl,rfl,SqL.of hp1,rfl,_,_,rfl,rfl,.inl ⟨by decide,by decide⟩,_,_,rfl,rfl,_,rfl,p,_,_,_,rfl,rfl,SqL.of hp1,rfl,_,_,rfl,rfl,_,_,rfl,rfl,.inr ⟨by omega,by omega⟩,_,_,rfl,rfl,(by show (0:Int) < _;decide),?_⟩
   generalize hO:((b+48271 * (c+1)) * (39373+(c+1))) % 2147483647=once
   have hO0:0≤once:=by rw [← hO];exact Int.emod_nonneg _ (by decide)
   refine ⟨_,rfl,_,rfl,p,_,_,_,rfl,rfl,SqL.of hp1,rfl,_,_,rfl,rfl,_,rfl,_,_,rfl,rfl,(by show (0:Int) < _;decide),_,_,rfl,rfl,_,_,rfl,rfl,.inr ?_,_,_,rfl,rfl,(by show (0:Int) < _;decide),?_⟩
   · have:=Int.emod_nonneg once (show (40009:Int)≠0 by decide)
     have:=Int.emod_lt_of_pos once (show (0:Int) < 40009 by decide)
     exact ⟨by omega,by omega⟩
   generalize hW:((once+(c+1)) * (once % 40009+7)) % 2147483629=twice
   refine ⟨_,rfl,_,_,rfl,rfl,.inr ⟨by decide,by decide⟩,_,rfl,_,_,rfl,rfl,_,_,rfl,rfl,(by show (0:Int) < _;decide),_,_,rfl,rfl,⟨by decide,by decide⟩,_,rfl,_,_,rfl,rfl,hm0,?_⟩
   exact q _ _ (Int.emod_nonneg _ (by omega)) (Int.emod_lt_of_pos _ hm0) ⟨a,b,c+1,hp1,ha,by omega,by omega⟩ (Kp.upd _ _ _)
end
structure Txt (K:PySem.W.Frag)(mg:Str→Option Value):Prop extends ZY mg where
 base:∃ t,mg "BASE"=some (.int 4 t)
 zero:∃ t,mg "BARE_NUMBER"=some (.int 0 t)
 bare:∃ a,mg "BARE"=some (.ref a)∧∀ H,SqT K H a [.str "bare"]
 figs:∃ a,mg "FIGURES"=some (.ref a)∧∀ H,SqT K H a [.int 0,.int 1,.int 2,.int 3]
section
variable {P:Program}{w:World}{K:PySem.W.Frag}{mg:Str→Option Value}{base:Heap}
def Wl (l:List Nat):Nat→Int
 | 0=>0
 | i+1=>Wl l i+((i:Int)+1) * (((l.getD i 0:Nat):Int) - 97+1)
def Wv:Sp:=fun vs H Q _=>∃ x:Str,vs=[.str x]∧x.length≤1000∧∀ H',Same H H'→Q (.int (Wl x.cps.toList x.length)) H'
def Wo:Sp:=fun vs H Q _=>∃(n:Int)(k:Nat),vs=[.int n,.int k]∧0≤n∧k≤1000∧Q (.int (n / 4 ^ k % 4)) H
theorem oa:(Str.ofString "a").cps.getD 0 0=97:=by decide +kernel
theorem scM:Zq ["name","total","place","letter"] ["name"] (Zj s_mark):=⟨rfl,rfl,rfl,by decide +kernel,rfl,by decide +kernel,by decide +kernel⟩
theorem Zjn {f:Addr}{fd:FuncData}(F:Fun K "mark" "mark" s_mark f fd)(T:Txt K mg):FnOk P w K mg base ZF 1 f fd ["name"] Wv:=by
 refine F.ok scM (fun vs H Q E h=>?_) (fun cdv A outer s H vs Q E hr h=>?_)
 · obtain ⟨x,rfl,_⟩:=h;rfl
 obtain ⟨x,rfl,hx,q⟩:=h
 refine' ⟨?t,?h,?r⟩
 case h =>
   conv=>arg 2;whnf
   with_reducible refine' Ze ?a1 (Ze ?a2 (Zi ?a3))
   case a1=>exact Zx (i:=1) scM.nd rfl (Or.inl rfl) Zd
   case a2=>exact WY PassesOwn.never rfl (Zhr rfl T.enumerate (pv 0)) (Ww rfl (Yk (ZO (i:=2) scM.nd rfl (Or.inl rfl)) (Yk (ZO (i:=3) scM.nd rfl (Or.inl rfl)) XQ))) (Zi (Zlf (i:=1) scM.nd rfl (Or.inl rfl) (Zw Wt (pv 2) (Zw YC (Zw YA (Zu Zct rfl T.ord (by decide +kernel) (Zb (pv 3) Za)) (Zu Zct rfl T.ord (by decide +kernel) (Zb ZH Za))) Zd)) Zls))
   case a3=>exact Zk (pv 1)
 refine ⟨_,rfl,x,rfl,?_⟩
 refine ZhX (fun i σ H'=>∃ y2 y3,σ=[some (.str x),some (.int (Wl x.cps.toList i)),y2,y3]∧Same H H'∧i≤x.cps.size) ⟨_,_,rfl,Same.refl H,Nat.zero_le _⟩ ?_ ?_
 · rintro i c t σ H1 hc ht ⟨y2,y3,rfl,s1,hi⟩
   have hi':i < x.cps.size:=(Array.getElem?_eq_some_iff.mp hc).1
   have hz:x.cps.size≤1000:=hx
   refine ⟨t,_,rfl,SqT.of Zg,rfl,_,_,rfl,_,_,rfl,rfl,?_⟩
   refine ⟨_,rfl,_,rfl,_,rfl,_,rfl,rfl,_,rfl,rfl,_,_,rfl,rfl,_,_,rfl,rfl,_,_,rfl,rfl,.inl ⟨by omega,by omega⟩,_,_,rfl,rfl,?_⟩
   have e:Wl x.cps.toList (i+1)=Wl x.cps.toList i+((i:Int)+1) * ((((⟨#[c]⟩:Str).cps.getD 0 0:Nat):Int) - (((Str.ofString "a").cps.getD 0 0:Nat):Int)+1):=by
     rw [oa]
     show Wl x.cps.toList i+((i:Int)+1) * (((x.cps.toList.getD i 0:Nat):Int) - 97+1)=Wl x.cps.toList i+((i:Int)+1) * ((c:Int) - 97+1)
     have e1:x.cps.toList.getD i 0=c:=by rw [List.getD_eq_getElem?_getD,Array.getElem?_toList,hc];rfl
     rw [e1]
   exact ⟨some (.int ((i:Int)+1)),some (.str ⟨#[c]⟩),by rw [e];rfl,s1.trans (Zp ht _),hi'⟩
 · rintro σ H1 ⟨y2,y3,rfl,s1,_⟩
   exact ⟨_,rfl,q H1 s1⟩
theorem scDg:Zq ["number","level","below"] ["number","level"] (Zj s_digit):=⟨rfl,rfl,rfl,by decide +kernel,rfl,by decide +kernel,by decide +kernel⟩
theorem ZhM {f:Addr}{fd:FuncData}(F:Fun K "digit" "digit" s_digit f fd)(T:Txt K mg):FnOk P w K mg base ZF 1 f fd ["number","level"] Wo:=by
 refine F.ok scDg (fun vs H Q E h=>?_) (fun cdv A outer s H vs Q E hr h=>?_)
 · obtain ⟨n,k,rfl,_⟩:=h;rfl
 obtain ⟨n,k,rfl,hn,hk,q⟩:=h
 obtain ⟨tb,hb⟩:=T.base
 refine' ⟨?t,?h,?r⟩
 case h =>
   conv=>arg 2;whnf
   with_reducible refine' Ze ?a1 (Zi ?a2)
   case a1=>exact WY PassesOwn.never rfl (YN rfl T.range (Zb (pv 1) Za)) (ZO (i:=2) scDg.nd rfl (Or.inl rfl)) (Zi (Zx (i:=0) scDg.nd rfl (Or.inl rfl) (Zw Zep (pv 0) (Xa rfl hb (v:=.int 4) ⟨_,rfl⟩))))
   case a2=>exact Zk (Zw Xn (pv 0) (Xa rfl hb (v:=.int 4) ⟨_,rfl⟩))
 refine ⟨_,rfl,k,rfl,by omega,by omega,?_⟩
 have ek:(k:Int).toNat=k:=by omega
 rw [ek]
 refine Vx (fun i σ H'=>∃ y,σ=[some (.int (n / 4 ^ i)),some (.int k),y]∧H'=H) ⟨_,by rw [Int.pow_zero,Int.ediv_one];rfl,rfl⟩ ?_ ?_
 · rintro i σ H1 hi ⟨y,rfl,rfl⟩
   have e:n / 4 ^ (i+1)=n / 4 ^ i / 4:=by rw [Int.pow_succ,← Int.ediv_ediv_of_nonneg (Int.pow_nonneg (by decide))]
   exact ⟨_,rfl,_,_,rfl,rfl,⟨by decide,by decide⟩,some (.int (0+(i:Int))),by rw [e];rfl,rfl⟩
 · rintro σ H1 ⟨y,rfl,rfl⟩
   exact ⟨_,rfl,_,_,rfl,rfl,(by show (0:Int) < 4;decide),q⟩
theorem nbf:decide (V.str (Str.ofString "bare")=V.str (Str.ofString "fork"))=false:=by decide +kernel
theorem nlf:decide (V.str (Str.ofString "leaf")=V.str (Str.ofString "fork"))=false:=by decide +kernel
theorem nbl:decide (V.str (Str.ofString "bare")=V.str (Str.ofString "leaf"))=false:=by decide +kernel
theorem nfl:decide (V.str (Str.ofString "fork")=V.str (Str.ofString "leaf"))=false:=by decide +kernel
theorem scPi:Zq ["node"] ["node"] (Zj s_parts_in):=⟨rfl,rfl,rfl,by decide +kernel,rfl,by decide +kernel,by decide +kernel⟩
theorem Zhc {f:Addr}{fd:FuncData}(F:Fun K "parts_in" "parts_in" s_parts_in f fd):FnOk P w K mg base ZF 1 f fd ["node"] (Uy K):=by
 refine F.ok scPi (fun vs H Q E h=>?_) (fun cdv A outer s H vs Q E hr h=>?_)
 · obtain ⟨a,n,rfl,_⟩:=h;rfl
 obtain ⟨a,n,rfl,hn,q⟩:=h
 refine ⟨_,Zi (Zk (Wc (ZJ Yh (Zm ZS (pv 0) Zd (fun _ _=>rfl)) ZH (ZC _)) (Zm ZS (pv 0) Zd (fun _ _=>rfl)) ZdX)),?_⟩
 cases n with
 | bare =>
   refine ⟨_,rfl,a,_,_,_,rfl,rfl,hn,rfl,rfl,_,rfl,?_⟩
   rw [nbf]
   exact ZB fun p o hp hd=>q p _ (Zp hp _) (.inl (.inr ⟨o,Zg⟩))
 | leaf m ps =>
   obtain ⟨t,e,_⟩:=hn
   refine ⟨_,rfl,a,_,_,_,rfl,rfl,e,rfl,rfl,_,rfl,?_⟩
   rw [nlf]
   exact ZB fun p o hp hd=>q p _ (Zp hp _) (.inl (.inr ⟨o,Zg⟩))
 | fork qs =>
   obtain ⟨t,e,e2,_⟩:=hn
   refine ⟨_,rfl,a,_,_,_,rfl,rfl,e,rfl,rfl,_,rfl,?_⟩
   rw [decide_eq_true rfl]
   exact ZK ⟨_,rfl,a,_,_,_,rfl,rfl,e,rfl,q t H (Same.refl H) e2⟩
theorem scPr:Zq ["node"] ["node"] (Zj s_pairs_in):=⟨rfl,rfl,rfl,by decide +kernel,rfl,by decide +kernel,by decide +kernel⟩
theorem Zia {f:Addr}{fd:FuncData}(F:Fun K "pairs_in" "pairs_in" s_pairs_in f fd):FnOk P w K mg base ZF 1 f fd ["node"] (Wf K):=by
 refine F.ok scPr (fun vs H Q E h=>?_) (fun cdv A outer s H vs Q E hr h=>?_)
 · obtain ⟨a,n,rfl,_⟩:=h;rfl
 obtain ⟨a,n,rfl,hn,q⟩:=h
 refine ⟨_,Zi (Zk (Wc (ZJ Yh (Zm ZS (pv 0) Zd (fun _ _=>rfl)) ZH (ZC _)) (Zm ZS (pv 0) Zd (fun _ _=>rfl)) ZdX)),?_⟩
 have nil:∀ p o,H p=none→o.dict=none→PairsAt (upd H p (.frz o (.tup []))) p []:=fun p o hp hd=>⟨o,[],Zg,hd,rfl,fun i a p e=>by simp at e⟩
 cases n with
 | bare =>
   refine ⟨_,rfl,a,_,_,_,rfl,rfl,hn,rfl,rfl,_,rfl,?_⟩
   rw [nbl]
   exact ZB fun p o hp hd=>q p _ (Zp hp _) (nil p o hp hd)
 | fork qs =>
   obtain ⟨t,e,_⟩:=hn
   refine ⟨_,rfl,a,_,_,_,rfl,rfl,e,rfl,rfl,_,rfl,?_⟩
   rw [nfl]
   exact ZB fun p o hp hd=>q p _ (Zp hp _) (nil p o hp hd)
 | leaf m ps =>
   obtain ⟨t,e,e2⟩:=hn
   refine ⟨_,rfl,a,_,_,_,rfl,rfl,e,rfl,rfl,_,rfl,?_⟩
   rw [decide_eq_true rfl]
   exact ZK ⟨_,rfl,a,_,_,_,rfl,rfl,e,rfl,q t H (Same.refl H) e2⟩
theorem scHm:Zq ["node","number"] ["node","number"] (Zj s_has_mark):=⟨rfl,rfl,rfl,by decide +kernel,rfl,by decide +kernel,by decide +kernel⟩
theorem ZjF {f:Addr}{fd:FuncData}(F:Fun K "has_mark" "has_mark" s_has_mark f fd):FnOk P w K mg base ZF 1 f fd ["node","number"] (Vh K):=by
 refine F.ok scHm (fun vs H Q E h=>?_) (fun cdv A outer s H vs Q E hr h=>?_)
 · obtain ⟨a,n,m,rfl,_⟩:=h;rfl
 obtain ⟨a,n,m,rfl,hn,q⟩:=h
 refine ⟨_,Zi (Zk (Xh (Yl Yh (Zm ZS (pv 0) Zd (fun _ _=>rfl)) ZH (ZC _)) (Xz (Yl Yh (Zm ZS (pv 0) Zd (fun _ _=>rfl)) (pv 1) (ZC _))))),?_⟩
 cases n with
 | bare =>
   refine ⟨_,rfl,a,_,_,_,rfl,rfl,hn,rfl,rfl,_,rfl,?_⟩
   rw [nbl]
   exact ZB q
 | fork qs =>
   obtain ⟨t,e,_⟩:=hn
   refine ⟨_,rfl,a,_,_,_,rfl,rfl,e,rfl,rfl,_,rfl,?_⟩
   rw [nfl]
   exact ZB q
 | leaf m' ps =>
   obtain ⟨t,e,e2⟩:=hn
   refine ⟨_,rfl,a,_,_,_,rfl,rfl,e,rfl,rfl,_,rfl,?_⟩
   rw [decide_eq_true rfl]
   refine ZK ⟨_,rfl,a,_,_,_,rfl,rfl,e,rfl,_,rfl,rfl,?_⟩
   have:decide (V.int m'=V.int m)=decide (m'=m):=by
     by_cases z:m'=m
     · subst z;rw [decide_eq_true rfl,decide_eq_true rfl]
     · rw [decide_eq_false z,decide_eq_false (fun y=>z (by cases y;rfl))]
   rw [this]
   exact q
theorem scFo:Zq ["parts"] ["parts"] (Zj s_fork_of):=⟨rfl,rfl,rfl,by decide +kernel,rfl,by decide +kernel,by decide +kernel⟩
theorem Zgl {f:Addr}{fd:FuncData}(F:Fun K "fork_of" "fork_of" s_fork_of f fd)(T:Txt K mg):FnOk P w K mg base ZF 1 f fd ["parts"] (WW K):=by
 refine F.ok scFo (fun vs H Q E h=>?_) (fun cdv A outer s H vs Q E hr h=>?_)
 · obtain ⟨l,qs,rfl,_⟩:=h;rfl
 obtain ⟨l,qs,rfl,el,h4,q⟩:=h
 refine ⟨_,Zi (Zk (YM (Zb ZH (Zb (Ye XE rfl T.tuple (by decide +kernel) (Zb (pv 0) Za)) Za)))),?_⟩
 refine ⟨_,rfl,l,_,rfl,.inl ⟨SqL.of el,fun t ht=>⟨(by show 2≤sizeLine;decide),fun a ha=>?_⟩⟩⟩
 exact q a _ ((Zp ht _).trans (Zp ha _)) ⟨t,SqT.of Zg,SqT.of (Zp ha _ _ _ Zg),h4⟩
def pvl (H:Hp)(a:Addr):V:=match H a with
 | some (.tup [_,v])=>v
 | _=>.non
def Zbl (ps:List (Str×V)):Prop:=ps.Pairwise fun p q=>¬ (q.1.cps.toList < p.1.cps.toList)
theorem ZgO {H:Hp}{ts ts':List Addr}{ps:List (Str×V)}(h:PairT H ts ps)(o:Zfj (ps.map (·.1)) ts ts'):∃ ps',ps'.Perm ps∧Zbl ps'∧PairT H ts' ps':=by
 obtain ⟨zs,hp,e,hs⟩:=o
 have val:∀ (i:Nat) (a:Addr) (p:Str×V),ts[i]?=some a→ps[i]?=some p→pvl H a=p.2:=fun i a p e1 e2=>by unfold pvl;rw [h.2 i a p e1 e2]
 have hz:((ps.map (·.1)).zip ts).map (fun z=>(z.1,pvl H z.2))=ps:=by
   apply List.ext_getElem?
   intro i
   rw [List.getElem?_map]
   cases e2:ps[i]? with
   | none =>
     have:((ps.map (·.1)).zip ts)[i]?=none:=by
       rw [List.getElem?_eq_none_iff] at e2 ⊢
       rw [List.length_zip,List.length_map];omega
     rw [this];rfl
   | some p =>
     have hi:i < ps.length:=(List.getElem?_eq_some_iff.mp e2).1
     obtain ⟨a,ea⟩:∃ a,ts[i]?=some a:=⟨_,List.getElem?_eq_getElem (by rw [h.1];exact hi)⟩
     have:((ps.map (·.1)).zip ts)[i]?=some (p.1,a):=by
       rw [List.getElem?_zip_eq_some]
       exact ⟨by rw [List.getElem?_map,e2];rfl,ea⟩
     rw [this]
     show some (p.1,pvl H a)=some p
     rw [val i a p ea e2]
 refine ⟨zs.map fun z=>(z.1,pvl H z.2),?_,?_,?_⟩
 · have:=hp.map fun z:Str×Addr=>(z.1,pvl H z.2)
   rwa [hz] at this
 · unfold Zbl;rw [List.pairwise_map];exact hs
 · refine ⟨by rw [e,List.length_map,List.length_map],fun i a p e1 e2=>?_⟩
   rw [e,List.getElem?_map] at e1
   rw [List.getElem?_map] at e2
   cases ez:zs[i]? with
   | none=>rw [ez] at e1;cases e1
   | some z =>
     rw [ez] at e1 e2
     cases (show some z.2=some a from e1)
     cases (show some (z.1,pvl H z.2)=some p from e2)
     have hm:=hp.mem_iff.mp (List.mem_of_getElem? ez)
     obtain ⟨j,hj⟩:=List.mem_iff_getElem?.mp hm
     rw [List.getElem?_zip_eq_some] at hj
     obtain ⟨h1,h2⟩:=hj
     rw [List.getElem?_map] at h1
     cases e3:ps[j]? with
     | none=>rw [e3] at h1;cases h1
     | some pj =>
       rw [e3] at h1
       have h1':pj.1=z.1:=by simpa using h1
       have:=h.2 j z.2 pj h2 e3
       rw [this,val j z.2 pj h2 e3,h1']
def Zy (x:Str):Int:=Wl x.cps.toList x.length
def Xq:Str:=(("leaf_of":Str)++".<locals>.")++"<lambda>"
def Vg (K:PySem.W.Frag)(Pl:Addr)(lpos:Pos):Sp:=fun vs H Q _=>∃(l:Addr)(ts:List Addr)(ps:List (Str×V)),vs=[.ref l]∧H l=some (.lst (ts.map V.ref))∧PairT H ts ps∧ps≠[]∧ps.length < 64∧(∀ p∈ps,p.1.length≤1000)∧LamAt H Pl lpos Xq ∧
 ∀ (a:Addr) (H':Hp) (p1:Str×V) (pr:List (Str×V)),Grown Pl H H'→LamAt H' Pl lpos Xq→(p1::pr).Perm ps→Zbl (p1::pr)→NodeAt K H' a (.leaf (Zy p1.1) (p1::pr))→Q (.ref a) H'
theorem Grown.trans' {Pl:Addr}{H H1 H2:Hp}(a:Grown Pl H H1)(b:Same H1 H2):Grown Pl H H2:=fun x o n h=>b _ _ (a x o n h)
theorem LamAt.same {H H':Hp}{Pl:Addr}{lpos:Pos}{q:Str}(h:LamAt H Pl lpos q)(s:Same H H'):LamAt H' Pl lpos q:=by
 rcases h with h | ⟨c,h,h2⟩
 · exact .inl (s _ _ h)
 · exact .inr ⟨c,s _ _ h,s _ _ h2⟩
theorem scLf:Zq ["pairs","rising","first_name"] ["pairs"] (Zj s_leaf_of):=⟨rfl,rfl,rfl,by decide +kernel,rfl,by decide +kernel,by decide +kernel⟩
def Zkw:Stmt→Pos
 | .Assign _ (.Call _ _ [⟨_,.Lambda _ _ _ p,_⟩] _) _=>p
 | _=>⟨0,0,0,0⟩
def YB:Pos:=Zkw ((Xs s_leaf_of).getD 0 (.Pass ⟨0,0,0,0⟩))
theorem ZjZ {f c Pl:Addr}{fd:FuncData}(F:FunC K "leaf_of" "leaf_of" s_leaf_of f fd c Pl)(T:Txt K mg)(hBm:UZ base mg)(DM:Def P w K mg base 1 "mark" ["name"] Wv):FnOk P w K mg base ZF 2 f fd ["pairs"] (Vg K Pl YB):=by
 refine F.ok scLf (fun vs H Q E h=>?_) (fun A outer s H vs Q E hr h=>?_)
 · obtain ⟨l,ts,ps,rfl,_⟩:=h;rfl
 obtain ⟨l,ts,ps,rfl,el,hpt,hne,h64,hnl,hL,q⟩:=h
 refine' ⟨?t,?h,?r⟩
 case h =>
   conv=>arg 2;whnf
   with_reducible refine' Ze ?a1 (Ze ?a2 (Zi ?a3))
   case a1=>exact Zx (i:=1) scLf.nd rfl (Or.inl rfl) (ZhA (c:=c) (Pl:=Pl) rfl T.sorted (pv 0) hr rfl F.hd hBm)
   case a2=>exact Zx (i:=2) scLf.nd rfl (Or.inl rfl) (Zm ZS (Zm Zt (pv 1) Zd (fun _ _=>rfl)) Zd (fun _ _=>rfl))
   case a3=>exact Zk (YM (Zb ZH (Zb (Zz DM hr (Zb (pv 2) Za)) (Zb (Ye Zac rfl T.tuple (by decide +kernel) (Zb (pv 1) Za)) Za))))
 refine ⟨_,rfl,l,ts,ps.map (·.1),rfl,el,by rw [hpt.1];exact h64,by rw [List.length_map,hpt.1],fun i t k e1 e2=>?_,hL,fun H2 r ts' gr hL2 hr2 hT=>?_⟩
 · rw [List.getElem?_map] at e2
   cases e3:ps[i]? with
   | none=>rw [e3] at e2;cases e2
   | some p =>
     rw [e3] at e2
     have e4:p.1=k:=by simpa using e2
     rw [← e4]
     exact ⟨_,hpt.2 i t p e1 e3⟩
 obtain ⟨ps',hperm,hsort,hpt'⟩:=ZgO hpt hT
 obtain ⟨tb,htb⟩:=hL.tbl
 have tf2:TF H H2:=gr.tf htb
 have hpt2:=hpt'.tf tf2
 cases ps' with
 | nil=>exact absurd (List.Perm.nil_eq hperm).symm hne
 | cons p1 pr =>
   cases ts' with
   | nil=>have:=hpt'.1;simp at this
   | cons t1 tr =>
     have e1:=hpt2.2 0 t1 p1 rfl rfl
     have s3:=Zp hr2 (.lst ((t1::tr).map V.ref))
     have hn1:p1.1.length≤1000:=hnl p1 (hperm.mem_iff.mp List.mem_cons_self)
     refine ⟨_,rfl,r,_,_,_,rfl,rfl,SqL.of Zg,(show YG ((t1::tr).map V.ref) ((0:Nat):Int)=some (V.ref t1) from Zv rfl),t1,_,_,_,rfl,rfl,SqT.of (s3 _ _ e1),rfl,?_⟩
     refine ⟨_,rfl,p1.1,rfl,hn1,fun H4 s4=>⟨_,rfl,r,_,rfl,SqL.of (s4 _ _ Zg),fun t o ht hd=>⟨(by show 3≤sizeLine;decide),fun a ha=>?_⟩⟩⟩
     have s5:=Zp ht (.frz o (.tup ((t1::tr).map V.ref)))
     have s6:=Zp ha (.tup [.str "leaf",.int (Zy p1.1),.ref t])
     have S:=((s3.trans s4).trans s5).trans s6
     refine q a _ p1 pr (Grown.trans' gr S) (LamAt.same hL2 S) hperm hsort ⟨t,SqT.of Zg,o,t1::tr,s6 _ _ Zg,hd,hpt2.tf S.tf⟩
end
end K25
set_option maxHeartbeats 4000000
namespace K25
open PySem L2
structure Xm (K:PySem.W.Frag)(C:Addr):Prop where
 cl:Cls K C
 nN:NoAttr K C "nodes"
 nT:NoAttr K C "tables"
section
variable {P:Program}{w:World}{K:PySem.W.Frag}{mg:Str→Option Value}{base:Heap}{C:Addr}
def ZgN (K:PySem.W.Frag)(C:Addr):Sp:=fun vs H Q _=>∃(p dx:Addr),vs=[.ref p]∧H p=some (.ins C dx [])∧∀(ln dt:Addr)(H':Hp),H ln=none→H dt=none→StoreAt K C p ln dt H' [.bare] [(Sum.inl 0,.bl true)]→Kq [p] H H'→Q .non H'
theorem scIn:Zq ["self"] ["self"] (Zj c_Store___init__):=⟨rfl,rfl,rfl,by decide +kernel,rfl,by decide +kernel,by decide +kernel⟩
theorem Zjj {f:Addr}{fd:FuncData}(F:Fun K "__init__" "Store.__init__" c_Store___init__ f fd)(T:Txt K mg)(TC:Xm K C):FnOk P w K mg base ZF 1 f fd ["self"] (ZgN K C):=by
 refine F.ok scIn (fun vs H Q E h=>?_) (fun cdv A outer s H vs Q E hr h=>?_)
 · obtain ⟨p,dx,rfl,_⟩:=h;rfl
 obtain ⟨p,dx,rfl,hp,q⟩:=h
 obtain ⟨ab,hb,hbt⟩:=T.bare
 obtain ⟨tz,hz⟩:=T.zero
 refine ⟨_,Ze (WL (pv 0) (Yj (Zb (Xa rfl hb (v:=.ref ab) rfl) Za)) rfl) (Zi (WL (pv 0) (Zjv (ZgS (Xa rfl hz (v:=.int 0) ⟨_,rfl⟩) Wz Zkj) rfl rfl (by simp) (by decide)) rfl)),?_⟩
 refine ⟨(by show 1≤sizeLine;decide),fun ln hln=>?_⟩
 have npl:p≠ln:=Zn hp hln
 refine ⟨_,rfl,p,C,dx,[],rfl,(by rw [Zh npl];exact hp),TC.cl,TC.nN,(by show 0 < 1000;decide),?_⟩
 intro dt hdt
 have npd:p≠dt:=fun z=>by rw [← z,Zg] at hdt;cases hdt
 have nld:ln≠dt:=fun z=>by rw [← z,Zh npl.symm,Zg] at hdt;cases hdt
 have hdt0:H dt=none:=by rw [Zh npd.symm,Zh nld.symm] at hdt;exact hdt
 refine ⟨Zg,[(Sum.inl 0,.bl true)],rfl,by decide,_,rfl,p,C,dx,_,rfl,(by rw [Zh npd,Zh npd,Zg]),TC.cl,TC.nT,(by show 1 < 1000;decide),?_⟩
 refine q ln dt _ hln hdt0 ⟨⟨dx,Zg⟩,⟨[ab],?_,rfl,fun i a n e1 e2=>?_⟩,?_⟩ fun b o nb e=>?_
 · rw [Zh npl.symm,Zh nld,Zh nld,Zh npl.symm,Zg];rfl
 · cases i with
   | zero =>
     cases (show some ab=some a from e1)
     cases (show some Nd.bare=some n from e2)
     exact hbt _
   | succ i=>simp at e1
 · rw [Zh npd.symm,Zg];rfl
 · have nb':b≠p:=fun z=>nb (by simp [z])
   rw [Zh nb',Zh (Zn e hdt0),Zh (Zn e hdt0),Zh nb',Zh (Zn e hln)];exact e
def Vi (K:PySem.W.Frag)(C:Addr):Sp:=fun vs H Q _=>∃(st ln dt a:Addr)(nds:List Nd)(tabs:List (Zl×V))(n:Nd),vs=[.ref st,.ref a]∧StoreAt K C st ln dt H nds tabs∧NodeAt K H a n∧nds.length≤100000 ∧
 ∀ H',StoreAt K C st ln dt H' (nds++[n]) tabs→Kq [ln] H H'→TF H H'→Q (.int nds.length) H'
theorem scKe:Zq ["self","node"] ["self","node"] (Zj c_Store_keep):=⟨rfl,rfl,rfl,by decide +kernel,rfl,by decide +kernel,by decide +kernel⟩
theorem ZjC {f:Addr}{fd:FuncData}(F:Fun K "keep" "Store.keep" c_Store_keep f fd)(T:Txt K mg)(TC:Xm K C):FnOk P w K mg base ZF 1 f fd ["self","node"] (Vi K C):=by
 refine F.ok scKe (fun vs H Q E h=>?_) (fun cdv A outer s H vs Q E hr h=>?_)
 · obtain ⟨st,ln,dt,a,nds,tabs,n,rfl,_⟩:=h;rfl
 obtain ⟨st,ln,dt,a,nds,tabs,n,rfl,⟨⟨dx,ob⟩,⟨as,nl,hl,hn⟩,tb⟩,hna,hsz,q⟩:=h
 refine ⟨_,Ze (Yg (YS PySem.F.plainAttrs_list PySem.F.slot_list_append PySem.F.type_list_append Yf (ZM (pv 0) rfl) (Zb (pv 1) Za))) (Zi (Zk (Zw YA (Zu ZE rfl T.len PySem.boot_len (Zb (ZM (pv 0) rfl) Za)) Zd))),?_⟩
 have e1:(as.map V.ref).length < sizeLine:=by rw [List.length_map,hl];exact Nat.lt_of_le_of_lt hsz (by decide)
 refine ⟨_,rfl,st,C,dx,_,_,rfl,ob,TC.cl,TC.nN,XB ln dt,.inl ⟨rfl,_,SqL.of nl⟩,_,rfl,ln,_,_,rfl,rfl,nl,e1,?_⟩
 have nsl:st≠ln:=Zbe ob nl (by intro z;cases z)
 have ndl:dt≠ln:=Zbe tb nl (by intro z;cases z)
 refine ⟨_,rfl,st,C,dx,_,_,rfl,(by rw [Zh nsl];exact ob),TC.cl,TC.nN,XB ln dt,ln,_,rfl,.inl (SqL.of Zg),_,_,rfl,rfl,?_⟩
 have tf:=Zcs (o:=.lst (as.map V.ref++[.ref a])) nl
 have e2:((((as.map V.ref++[V.ref a]).length:Nat):Int) - 1)=(nds.length:Int):=by rw [List.length_append,List.length_map,hl];show ((nds.length+1:Nat):Int) - 1=_;omega
 have fin:Q (.int (nds.length:Int)) (upd H ln (.lst (as.map V.ref++[.ref a]))):=by
   refine q _ ⟨⟨dx,by rw [Zh nsl];exact ob⟩,⟨as++[a],by rw [List.map_append];exact Zg,by rw [List.length_append,List.length_append,hl];rfl,fun i b m e3 e4=>?_⟩,by rw [Zh ndl];exact tb⟩ ZaN tf
   by_cases hi:i < as.length
   · rw [List.getElem?_append_left hi] at e3
     rw [List.getElem?_append_left (by rw [← hl];exact hi)] at e4
     exact (hn i b m e3 e4).tf tf
   · rw [List.getElem?_append_right (by omega)] at e3
     rw [List.getElem?_append_right (by omega)] at e4
     have h0:i - as.length=0:=by
       cases z:i - as.length with
       | zero=>rfl
       | succ j=>rw [z] at e3;simp at e3
     rw [h0] at e3
     rw [show i - nds.length=0 by omega] at e4
     cases (show some a=some b from e3)
     cases (show some n=some m from e4)
     exact hna.tf tf
 rw [← e2] at fin
 exact fin
def Zfm (K:PySem.W.Frag)(C:Addr):Sp:=fun vs H Q _=>∃(st ln dt:Addr)(nds:List Nd)(tabs:List (Zl×V))(n:Int),vs=[.ref st,.int n]∧StoreAt K C st ln dt H nds tabs∧tabs.length≤100000 ∧
 ∀ H',StoreAt K C st ln dt H' nds (YD tabs (Sum.inl n) (.bl true))→Kq [dt] H H'→TF H H'→Q (.int n) H'
theorem scAs:Zq ["self","number"] ["self","number"] (Zj c_Store_as_table):=⟨rfl,rfl,rfl,by decide +kernel,rfl,by decide +kernel,by decide +kernel⟩
theorem Zlh {f:Addr}{fd:FuncData}(F:Fun K "as_table" "Store.as_table" c_Store_as_table f fd)(TC:Xm K C):FnOk P w K mg base ZF 1 f fd ["self","number"] (Zfm K C):=by
 refine F.ok scAs (fun vs H Q E h=>?_) (fun cdv A outer s H vs Q E hr h=>?_)
 · obtain ⟨st,ln,dt,nds,tabs,n,rfl,_⟩:=h;rfl
 obtain ⟨st,ln,dt,nds,tabs,n,rfl,⟨⟨dx,ob⟩,⟨as,nl,hl,hn⟩,tb⟩,hsz,q⟩:=h
 refine ⟨_,Ze (ZdM (Zci hr) (ZM (pv 0) rfl) (pv 1) Wz rfl) (Zi (Zk (pv 1))),?_⟩
 refine ⟨_,rfl,st,C,dx,_,_,rfl,ob,TC.cl,TC.nT,Zfy ln dt,_,rfl,dt,_,rfl,DPut.k (k:=Sum.inl n) tb (Nat.lt_of_le_of_lt hsz (by decide)),_,rfl,?_⟩
 have nsd:st≠dt:=Zbe ob tb (by intro z;cases z)
 have nld:ln≠dt:=Zbe nl tb (by intro z;cases z)
 have tf:=Zjp (o:=.dK (YD tabs (Sum.inl n) (.bl true))) tb
 exact q _ ⟨⟨dx,by rw [Zh nsd];exact ob⟩,⟨as,by rw [Zh nld];exact nl,hl,fun i a m e1 e2=>(hn i a m e1 e2).tf tf⟩,Zg⟩ ZaN tf
def ZdP (K:PySem.W.Frag)(C:Addr):Sp:=fun vs H Q _=>∃(st ln dt:Addr)(nds:List Nd)(tabs:List (Zl×V))(n:Int),vs=[.ref st,.int n]∧StoreAt K C st ln dt H nds tabs∧(ZQ tabs (Sum.inl n)).isSome=true∧Q .non H
theorem scCk:Zq ["self","table"] ["self","table"] (Zj c_Store_check_table):=⟨rfl,rfl,rfl,by decide +kernel,rfl,by decide +kernel,by decide +kernel⟩
theorem Zhq {f:Addr}{fd:FuncData}(F:Fun K "check_table" "Store.check_table" c_Store_check_table f fd)(TC:Xm K C):FnOk P w K mg base ZF 1 f fd ["self","table"] (ZdP K C):=by
 refine F.ok scCk (fun vs H Q E h=>?_) (fun cdv A outer s H vs Q E hr h=>?_)
 · obtain ⟨st,ln,dt,nds,tabs,n,rfl,_⟩:=h;rfl
 obtain ⟨st,ln,dt,nds,tabs,n,rfl,⟨⟨dx,ob⟩,⟨as,nl,hl,hn⟩,tb⟩,hs,q⟩:=h
 refine ⟨_,Zi (Yb (WO (ZgG (Zci hr) (pv 1) (ZM (pv 0) rfl))) (Zi ZiR) ZR),?_⟩
 refine ⟨_,rfl,_,rfl,st,C,dx,_,_,rfl,ob,TC.cl,TC.nT,Zfy ln dt,dt,_,rfl,DGet.k (k:=Sum.inl n) tb,_,rfl,?_⟩
 rw [hs]
 exact ZB q
end
end K25
set_option maxHeartbeats 4000000
namespace K25
open PySem L2
def ZV (n:Int)(k:Nat):Nat:=(n / 4 ^ k % 4).toNat
theorem Wi (n:Int)(k:Nat):(ZV n k:Int)=n / 4 ^ k % 4:=Int.toNat_of_nonneg (Int.emod_nonneg _ (by decide))
theorem WM (n:Int)(k:Nat):ZV n k < 4:=by
 have h1:=Wi n k
 have h2:=Int.emod_lt_of_pos (n / 4 ^ k) (show (0:Int) < 4 by decide)
 omega
def Xc (nds:List Nd)(m:Int):Nat→Nat→Nat→Option (List Nat)
 | 0,_,_=>none
 | f+1,lev,num=>match nds[num]? with
   | none=>none
   | some (.fork qs)=>(qs[ZV m lev]?).bind fun q=>(Xc nds m f (lev+1) q).map (num::·)
   | some _=>some [num]
def iN (n:Nat):V:=.int (n:Int)
section
variable {P:Program}{w:World}{K:PySem.W.Frag}{mg:Str→Option Value}{base:Heap}{C:Addr}
theorem _root_.L2.StoreAt.node {st ln dt:Addr}{H:Hp}{nds:List Nd}{tabs:List (Zl×V)}(S:StoreAt K C st ln dt H nds tabs){i:Nat}{n:Nd}(h:nds[i]?=some n):∃(as:List Addr)(a:Addr),H ln=some (.lst (as.map V.ref))∧as[i]?=some a∧NodeAt K H a n:=by
 obtain ⟨_,⟨as,e,l,hn⟩,_⟩:=S
 have hi:i < as.length:=by rw [l];exact (List.getElem?_eq_some_iff.mp h).1
 exact ⟨as,as[i],e,List.getElem?_eq_getElem hi,hn i _ n (List.getElem?_eq_getElem hi) h⟩
def ZiC (K:PySem.W.Frag)(C:Addr):Sp:=fun vs H Q _=>∃(st ln dt:Addr)(nds:List Nd)(tabs:List (Zl×V))(t:Nat)(x:Str)(f:Nat)(ws:List Nat),vs=[.ref st,iN t,.str x]∧StoreAt K C st ln dt H nds tabs∧(ZQ tabs (Sum.inl (t:Int))).isSome=true∧x.length≤1000∧0≤Zy x∧f≤1000 ∧
 Xc nds (Zy x) f 0 t=some ws∧∀ r H',H r=none→Same H H'→H' r=some (.lst (ws.map iN))→Q (.ref r) H'
theorem scWa:Zq ["self","table","name","told","parts","part"] ["self","table","name"] (Zj c_Store_way):=⟨rfl,rfl,rfl,by decide +kernel,rfl,by decide +kernel,by decide +kernel⟩
theorem ZkM {f : Addr}{fd:FuncData}(F:Fun K "way" "Store.way" c_Store_way f fd)(T:Txt K mg)(TC:Xm K C)(DC:DefM P w K mg base 1 C "check_table" ["self","table"] (ZdP K C))(DP:Def P w K mg base 1 "parts_in" ["node"] (Uy K))
   (DM:Def P w K mg base 1 "mark" ["name"] Wv) (DG:Def P w K mg base 1 "digit" ["number","level"] Wo):FnOk P w K mg base ZF 2 f fd ["self","table","name"] (ZiC K C):=by
 refine F.ok scWa (fun vs H Q E h=>?_) (fun cdv A outer s H vs Q E hr h=>?_)
 · obtain ⟨st,ln,dt,nds,tabs,t,x,f,ws,rfl,_⟩:=h;rfl
 obtain ⟨st,ln,dt,nds,tabs,t,x,fu,ws,rfl,S,htab,hx,hm,hfu,hway,q⟩:=h
 refine' ⟨?t,?h,?r⟩
 case h =>
   conv=>arg 2;whnf
   with_reducible refine' Ze ?a1 (Ze ?a2 (Ze ?a3 (Ze (WZ ?w0 ?w1 (Ze ?b1 (Ze ?b2 (Zi ?b3)))) (Zi ?a5))))
   case a1=>exact Yg (ZZ DC TC.cl hr (pv 0) (Zb (pv 1) Za))
   case a2=>exact Zx (i:=3) scWa.nd rfl (Or.inl rfl) (Yj (Zb (pv 1) Za))
   case a3=>exact Zx (i:=4) scWa.nd rfl (Or.inl rfl) (Zz DP hr (Zb (Zm Zt (ZM (pv 0) rfl) (pv 1) (fun _ _=>rfl)) Za))
   case w0=>exact PassesOwn.never
   case w1=>exact US (pv 4) (fun _=>rfl)
   case b1=>exact Zx (i:=5) scWa.nd rfl (Or.inl rfl) (Zm ZS (pv 4) (Zz DG hr (Zb (Zz DM hr (Zb (pv 2) Za)) (Zb (Zw YA (Zu ZE rfl T.len PySem.boot_len (Zb (pv 3) Za)) Zd) Za))) (fun _ _=>rfl))
   case b2=>exact Yg (YS PySem.F.plainAttrs_list PySem.F.slot_list_append PySem.F.type_list_append Yf (pv 3) (Zb (pv 5) Za))
   case b3=>exact Zx (i:=4) scWa.nd rfl (Or.inl rfl) (Zz DP hr (Zb (Zm Zt (ZM (pv 0) rfl) (pv 5) (fun _ _=>rfl)) Za))
   case a5=>exact Zk (pv 3)
 obtain ⟨dx,ob⟩:=S.ob
 refine ⟨_,rfl,st,dx,_,rfl,ob,ZU ln dt (by decide +kernel) (by decide +kernel),_,rfl,st,ln,dt,nds,tabs,t,rfl,S,htab,_,rfl,(by show 1≤sizeLine;decide),fun l hl=>?_⟩
 obtain ⟨n,hn⟩:∃ n,nds[t]?=some n:=by
   cases fu with
   | zero=>cases hway
   | succ fu =>
     cases e:nds[t]? with
     | none=>unfold Xc at hway;rw [e] at hway;cases hway
     | some n=>exact ⟨n,rfl⟩
 have s1:=Zp hl (.lst [iN t])
 have S1:=S.keep s1
 obtain ⟨as,a,nl,ha,hna⟩:=S1.node hn
 obtain ⟨dx1,ob1⟩:=S1.ob
 refine ⟨_,rfl,st,C,dx1,_,_,rfl,ob1,TC.cl,TC.nN,XB ln dt,_,rfl,ln,_,_,_,rfl,rfl,SqL.of nl,Zv (by rw [List.getElem?_map,ha];rfl),a,n,rfl,hna,fun pt H2 s2 hpt=>?_⟩
 refine ⟨fun fl σ H'=>∃ (pre wr:List Nat) (num:Nat) (n:Nd) (pt:Addr) (y:Option V),σ=[some (.ref st),some (iN t),some (.str x),some (.ref l),some (.ref pt),y]∧Same H H'∧H' l=some (.lst ((pre++[num]).map iN))∧nds[num]?=some n∧SqT K H' pt (n.parts.map iN)∧Xc nds (Zy x) fl pre.length num=some wr∧ws=pre++wr∧fl+pre.length≤1000,
   ⟨fu,[],ws,t,n,pt,_,rfl,s1.trans s2,s2 _ _ Zg,hn,hpt,hway,rfl,by simpa using hfu⟩,?_⟩
 rintro fl σ H3 ⟨pre,wr,num,n,pt,y,rfl,s3,hl3,hn3,hpt3,hw3,rfl,hfl⟩
 refine ⟨_,rfl,_,.inr (.inl ⟨_,hpt3,rfl⟩),?_⟩
 have stop:n.parts=[]→Xc nds (Zy x) fl pre.length num=some [num]:=fun z=>by
   cases fl with
   | zero=>cases hw3
   | succ fl =>
     unfold Xc at hw3 ⊢
     rw [hn3] at hw3 ⊢
     cases n with
     | bare=>rfl
     | leaf m ps=>rfl
     | fork qs =>
       have z':qs=[]:=z
       subst z'
       simp at hw3
 by_cases hz:n.parts=[]
 · rw [hz]
   refine ZB ⟨_,rfl,?_⟩
   have e:=stop hz
   rw [hw3] at e
   cases e
   exact q l H3 hl s3 hl3
 · have hk : (!(n.parts.map iN).isEmpty)=true:=by
     cases e:n.parts with
     | nil=>exact absurd e hz
     | cons _ _=>rfl
   rw [hk]
   cases n with
   | bare=>exact absurd rfl hz
   | leaf m ps=>exact absurd rfl hz
   | fork qs =>
     cases fl with
     | zero=>cases hw3
     | succ fl =>
       unfold Xc at hw3
       rw [hn3] at hw3
       cases eq1:qs[ZV (Zy x) pre.length]? with
       | none=>simp [eq1] at hw3
       | some q1 =>
         have hw4:(Xc nds (Zy x) fl (pre.length+1) q1).map (num::·)=some wr:=by simpa [eq1] using hw3
         cases eq2:Xc nds (Zy x) fl (pre.length+1) q1 with
         | none=>rw [eq2] at hw4;cases hw4
         | some wr' =>
           rw [eq2] at hw4
           have ewr:num::wr'=wr:=by simpa using hw4
           obtain ⟨n',hn'⟩:∃ n',nds[q1]?=some n':=by
             cases fl with
             | zero=>cases eq2
             | succ fl =>
               cases e:nds[q1]? with
               | none=>unfold Xc at eq2;rw [e] at eq2;cases eq2
               | some n=>exact ⟨n,rfl⟩
           have e2:((((pre++[num]).map iN).length:Nat):Int) - 1=(pre.length:Int):=by rw [List.length_map,List.length_append];show ((pre.length+1:Nat):Int) - 1=_;omega
           have hat:YG (qs.map iN) (Zy x / 4 ^ pre.length % 4)=some (iN q1):=by rw [← Wi];exact Zv (by rw [List.getElem?_map,eq1];rfl)
           refine ZK ⟨_,fun σ' H' h=>⟨fl,Nat.lt_succ_self _,h⟩,_,rfl,_,rfl,x,rfl,hx,fun H4 s4=>?_⟩
           refine ⟨_,rfl,l,_,rfl,.inl (SqL.of (s4 _ _ hl3)),_,_,rfl,rfl,Zy x,pre.length,congrArg (fun z=>[V.int (Zy x),V.int z]) e2,hm,by omega,pt,_,_,_,rfl,rfl,hpt3.tf s4.tf,hat,?_⟩
           refine ⟨_,rfl,.inl ⟨rfl,_,SqL.of (s4 _ _ hl3)⟩,_,rfl,l,_,_,rfl,rfl,s4 _ _ hl3,(by rw [List.length_map,List.length_append];show pre.length+1 < sizeLine;exact Nat.lt_of_le_of_lt (show pre.length+1≤1001 by omega) (by decide)),?_⟩
           have s5:Same H (upd H4 l (.lst ((pre++[num]).map iN++[iN q1]))):=fun b o e=>by rw [Zh (Zn e hl)];exact s4 _ _ (s3 _ _ e)
           have S5:=S.keep s5
           obtain ⟨as5,a5,nl5,ha5,hna5⟩:=S5.node hn'
           obtain ⟨dx5,ob5⟩:=S5.ob
           refine ⟨_,rfl,st,C,dx5,_,_,rfl,ob5,TC.cl,TC.nN,XB ln dt,_,rfl,ln,_,_,_,rfl,rfl,SqL.of nl5,Zv (by rw [List.getElem?_map,ha5];rfl),a5,n',rfl,hna5,fun pt6 H6 s6 hpt6=>?_⟩
           refine ⟨pre++[num],wr',q1,n',pt6,_,rfl,s5.trans s6,?_,hn',hpt6,?_,?_,?_⟩
           · rw [List.map_append];exact s6 _ _ Zg
           · rw [List.length_append];exact eq2
           · rw [← ewr,List.append_assoc];rfl
           · rw [List.length_append];show fl+(pre.length+1)≤1000;omega
def lk (ps:List (Str×V))(x:Str):Option V:=ZQ (ps.map fun p=>((Sum.inr p.1:Zl),p.2)) (Sum.inr x)
def Zad (K:PySem.W.Frag)(C:Addr):Sp:=fun vs H Q _=>∃(st ln dt:Addr)(nds:List Nd)(tabs:List (Zl×V))(t:Nat)(x:Str)(f:Nat)(ws:List Nat)(e:Nat)(n:Nd),vs=[.ref st,iN t,.str x]∧StoreAt K C st ln dt H nds tabs∧(ZQ tabs (Sum.inl (t:Int))).isSome=true∧x.length≤1000∧0≤Zy x∧f≤1000 ∧
 Xc nds (Zy x) f 0 t=some (ws++[e])∧nds[e]?=some n∧n.pairs.length≤1000∧(n.pairs.map (·.1)).Nodup∧∀ H',Same H H'→Q ((lk n.pairs x).getD .non) H'
theorem scLo:Zq ["self","table","name","end"] ["self","table","name"] (Zj c_Store_looked):=⟨rfl,rfl,rfl,by decide +kernel,rfl,by decide +kernel,by decide +kernel⟩
theorem Zfz {f:Addr}{fd:FuncData}(F:Fun K "looked" "Store.looked" c_Store_looked f fd)(T:Txt K mg)(TC:Xm K C)(DW:DefM P w K mg base 2 C "way" ["self","table","name"] (ZiC K C))(DR:Def P w K mg base 1 "pairs_in" ["node"] (Wf K)):FnOk P w K mg base ZF 3 f fd ["self","table","name"] (Zad K C):=by
 refine F.ok scLo (fun vs H Q E h=>?_) (fun cdv A outer s H vs Q E hr h=>?_)
 · obtain ⟨st,ln,dt,nds,tabs,t,x,f,ws,e,n,rfl,_⟩:=h;rfl
 obtain ⟨st,ln,dt,nds,tabs,t,x,fu,ws,e,n,rfl,S,htab,hx,hm,hfu,hway,hn,hsz,hnd,q⟩:=h
 refine' ⟨?t,?h,?r⟩
 case h =>
   conv=>arg 2;whnf
   with_reducible refine' Ze ?a1 (Zi ?a2)
   case a1=>exact Zx (i:=3) scLo.nd rfl (Or.inl rfl) (Zm Zt (ZZ DW TC.cl hr (pv 0) (Zb (pv 1) (Zb (pv 2) Za))) (Xt YY Zd) (fun _ _=>rfl))
   case a2=>exact Zk (ZgZ (Zci hr) (Ye (Ug rfl) rfl T.dict (by decide +kernel) (Zb (Zz DR (hr.mono (by decide)) (Zb (Zm Zt (ZM (pv 0) rfl) (pv 3) (fun _ _=>rfl)) Za)) Za)) (pv 2) ⟨rfl,rfl,rfl,rfl⟩)
 obtain ⟨dx,ob⟩:=S.ob
 refine ⟨_,rfl,st,dx,_,rfl,ob,ZU ln dt (by decide +kernel) (by decide +kernel),_,rfl,_,rfl,st,ln,dt,nds,tabs,t,x,fu,_,rfl,S,htab,hx,hm,hfu,hway,fun r H1 hr1 s1 el=>?_⟩
 refine ⟨_,rfl,r,_,_,iN e,rfl,rfl,SqL.of el,(by rw [List.map_append];exact Xf _ _),?_⟩
 have S1:=S.keep s1
 obtain ⟨as,a,nl,ha,hna⟩:=S1.node hn
 obtain ⟨dx1,ob1⟩:=S1.ob
 refine ⟨_,rfl,st,C,dx1,_,_,rfl,ob1,TC.cl,TC.nN,XB ln dt,_,rfl,ln,_,_,_,rfl,rfl,SqL.of nl,Zv (by rw [List.getElem?_map,ha];rfl),a,n,rfl,hna,fun pt H2 s2 hpt=>?_⟩
 obtain ⟨o,ts,ept,hod,hlen,hp⟩:=hpt
 refine ⟨pt,ts,n.pairs,rfl,⟨o,ept,hod⟩,hlen,hsz,hp,hnd,fun d hd=>⟨d,rfl,.inl ⟨_,.inl Zg⟩,_,rfl,_,DGet.k (k:=Sum.inr x) Zg,?_⟩⟩
 exact q _ ((s1.trans s2).trans (Zp hd _))
end
end K25
set_option maxHeartbeats 4000000
namespace K25
open PySem L2
def Xb (num lev:Nat):Nd→List Nat
 | .fork qs=>qs
 | .leaf m _=>[0,1,2,3].map fun g=>if g=ZV m lev then num else 0
 | .bare=>[]
def ZcU:Nd→Prop
 | .leaf m ps=>∃ p1 pr,ps=p1::pr∧Zy p1.1=m∧p1.1.length≤1000∧0≤m
 | _=>True
section
variable {P:Program}{w:World}{K:PySem.W.Frag}{mg:Str→Option Value}{base:Heap}{C:Addr}
def Zig (K:PySem.W.Frag)(C:Addr):Sp:=fun vs H Q _=>∃(st ln dt:Addr)(nds:List Nd)(tabs:List (Zl×V))(num lev:Nat)(n:Nd),vs=[.ref st,iN num,iN lev]∧StoreAt K C st ln dt H nds tabs∧nds[num]?=some n∧n≠.bare∧ZcU n∧lev≤1000 ∧
 ∀ r H',H r=none→Same H H'→H' r=some (.lst ((Xb num lev n).map iN))→Q (.ref r) H'
abbrev nFp:List Str:=["self","number","level","node","first_name","at"]
theorem scFp:Zq nFp ["self","number","level"] (Zj c_Store_fork_parts):=⟨rfl,rfl,rfl,by decide +kernel,rfl,by decide +kernel,by decide +kernel⟩
theorem Zmm {f:Addr}{fd:FuncData}(F:Fun K "fork_parts" "Store.fork_parts" c_Store_fork_parts f fd)(T:Txt K mg)(TC:Xm K C)(DP:Def P w K mg base 1 "parts_in" ["node"] (Uy K))(DR:Def P w K mg base 1 "pairs_in" ["node"] (Wf K))
   (DM:Def P w K mg base 1 "mark" ["name"] Wv) (DG:Def P w K mg base 1 "digit" ["number","level"] Wo):FnOk P w K mg base ZF 2 f fd ["self","number","level"] (Zig K C):=by
 refine F.ok scFp (fun vs H Q E h=>?_) (fun cdv A outer s H vs Q E hr h=>?_)
 · obtain ⟨st,ln,dt,nds,tabs,num,lev,n,rfl,_⟩:=h;rfl
 obtain ⟨st,ln,dt,nds,tabs,num,lev,n,rfl,S,hn,hnb,hok,hlev,q⟩:=h
 obtain ⟨tz,hz⟩:=T.zero
 obtain ⟨af,hf,hft⟩:=T.figs
 refine' ⟨?t,?h,?r⟩
 case h =>
   conv=>arg 2;whnf
   with_reducible refine' Ze ?a1 (Ze ?a2 (Ze ?a3 (Ze ?a4 (Zi ?a5))))
   case a1=>exact Zx (i:=3) scFp.nd rfl (Or.inl rfl) (Zm Zt (ZM (pv 0) rfl) (pv 1) (fun _ _=>rfl))
   case a2=>exact Yb (US (Zz DP hr (Zb (pv 3) Za)) (fun _=>rfl)) (Zi (Zk (Ye XZ rfl T.list (by decide +kernel) (Zb (Zz DP hr (Zb (pv 3) Za)) Za)))) ZR
   case a3=>exact Zx (i:=4) scFp.nd rfl (Or.inl rfl) (Zm ZS (Zm ZS (Zz DR hr (Zb (pv 3) Za)) Zd (fun _ _=>rfl)) Zd (fun _ _=>rfl))
   case a4=>exact Zx (i:=5) scFp.nd rfl (Or.inr rfl) (Zz DG hr (Zb (Zz DM hr (Zb (pv 4) Za)) (Zb (pv 2) Za)))
   case a5=>exact Zk (XM (CompOk.of nFp c_Store_fork_parts rfl rfl (by decide +kernel)) rfl (Vy (Xa rfl hf (v:=.ref af) rfl)) (fun _ _ _ _ _=>Wc (ZJ Yh (pv 6) (pv 5) (ZC _)) (pv 1) (Xa rfl hz (v:=.int 0) ⟨_,rfl⟩)))
 obtain ⟨as,a,nl,ha,hna⟩:=S.node hn
 obtain ⟨dx,ob⟩:=S.ob
 refine ⟨_,rfl,st,C,dx,_,_,rfl,ob,TC.cl,TC.nN,XB ln dt,_,rfl,ln,_,_,_,rfl,rfl,SqL.of nl,Zv (by rw [List.getElem?_map,ha];rfl),?_⟩
 refine ⟨_,rfl,a,n,rfl,hna,fun pt H2 s2 hpt=>⟨_,.inr (.inl ⟨_,hpt,rfl⟩),?_⟩⟩
 cases n with
 | bare=>exact absurd rfl hnb
 | fork qs =>
   have h4:qs.length=4:=by obtain ⟨_,_,_,z⟩:=hna;exact z
   have hk:(!(((Nd.fork qs).parts).map (fun q:Nat=>V.int (q:Int))).isEmpty)=true:=by
     cases qs with
     | nil=>cases h4
     | cons _ _=>rfl
   rw [hk]
   refine ZK ⟨_,rfl,a,_,rfl,hna.tf s2.tf,fun pt3 H3 s3 hpt3=>⟨pt3,_,rfl,.inr hpt3,fun l hl=>?_⟩⟩
   have hl0:H l=none:=by
     cases e:H l with
     | none=>rfl
     | some o=>rw [s3 _ _ (s2 _ _ e)] at hl;cases hl
   exact q l _ hl0 ((s2.trans s3).trans (Zp hl _)) Zg
 | leaf m ps =>
   obtain ⟨p1,pr,rfl,hm1,hx1,hm0⟩:=hok
   refine ZB ⟨_,rfl,a,_,rfl,hna.tf s2.tf,fun pt3 H3 s3 hpt3=>?_⟩
   obtain ⟨o,ts,ept,hod,hlen,hp⟩:=hpt3
   cases ts with
   | nil=>simp [Nd.pairs] at hlen
   | cons t1 tr =>
     have et1:=hp 0 t1 p1 rfl rfl
     refine ⟨pt3,_,_,_,rfl,rfl,.inl (.inr ⟨o,ept⟩),(show YG ((t1::tr).map V.ref) ((0:Nat):Int)=some (V.ref t1) from Zv rfl),t1,_,_,_,rfl,rfl,SqT.of et1,rfl,?_⟩
     refine ⟨_,rfl,p1.1,rfl,hx1,fun H4 s4=>⟨_,rfl,Zy p1.1,lev,rfl,by rw [hm1];exact hm0,hlev,?_⟩⟩
     refine ⟨af,rfl,⟨_,hft _⟩,fun D hD=>?_⟩
     have s24:=(s2.trans s3).trans s4
     have hD0:H D=none:=by
       cases e:H D with
       | none=>rfl
       | some o=>rw [s24 _ _ e] at hD;cases hD
     refine Zab (K:=K) (a:=af) (xs:=[.int 0,.int 1,.int 2,.int 3]) (by show 4≤sizeLine;decide) (fun i ys H'=>ys=(([0,1,2,3]:List Nat).take i).map (fun g=>iN (if g=ZV m lev then num else 0))∧i≤4∧H' D=some (.lst ys)∧Same H H') ?_ ?_ ?_ ?_
     · exact ⟨rfl,by decide,Zg,s24.trans (Zp hD _)⟩
     · rintro i ys H5 ⟨rfl,hi,_,_⟩
       exact ⟨by rw [List.length_map,List.length_take];show min i 4=i;omega,hft _⟩
     · rintro i x ys H5 hi ⟨rfl,hi4,hD5,s5⟩
       have hi':i < 4:=(List.getElem?_eq_some_iff.mp hi).1
       have ex:x=iN i:=by
         rcases i with _ | _ | _ | _ | i
         · cases hi;rfl
         · cases hi;rfl
         · cases hi;rfl
         · cases hi;rfl
         · omega
       subst ex
       have fin:∀ y,y=iN (if i=ZV m lev then num else 0)→H5 D=some (.lst ((([0,1,2,3]:List Nat).take i).map (fun g=>iN (if g=ZV m lev then num else 0))))∧(((([0,1,2,3]:List Nat).take i).map (fun g=>iN (if g=ZV m lev then num else 0))++[y])=(([0,1,2,3]:List Nat).take (i+1)).map (fun g=>iN (if g=ZV m lev then num else 0))∧i+1≤4∧upd H5 D (.lst ((([0,1,2,3]:List Nat).take i).map (fun g=>iN (if g=ZV m lev then num else 0))++[y])) D=some (.lst ((([0,1,2,3]:List Nat).take i).map (fun g=>iN (if g=ZV m lev then num else 0))++[y]))∧Same H (upd H5 D (.lst ((([0,1,2,3]:List Nat).take i).map (fun g=>iN (if g=ZV m lev then num else 0))++[y])))):=by
         intro y ey
         refine ⟨hD5,?_,by omega,Zg,fun b o e=>by rw [Zh (Zn e hD0)];exact s5 _ _ e⟩
         subst ey
         rcases i with _ | _ | _ | _ | i
         · rfl
         · rfl
         · rfl
         · rfl
         · omega
       have ed:decide (iN i=V.int (Zy p1.1 / 4 ^ lev % 4))=decide (i=ZV m lev):=by
         rw [hm1,← Wi]
         by_cases z:i=ZV m lev
         · rw [decide_eq_true z,z];exact decide_eq_true rfl
         · rw [decide_eq_false z]
           exact decide_eq_false fun y=>z (by have:=V.int.inj y;omega)
       refine ⟨_,rfl,_,rfl,rfl,_,rfl,?_⟩
       rw [ed]
       by_cases z:i=ZV m lev
       · rw [decide_eq_true z]
         exact ZK ⟨_,rfl,fin _ (by rw [if_pos z])⟩
       · rw [decide_eq_false z]
         exact ZB (fin _ (by rw [if_neg z];rfl))
     · rintro ys H5 ⟨rfl,_,hD5,s5⟩
       refine q D H5 hD0 s5 ?_
       rw [hD5]
       rfl
end
end K25
set_option maxHeartbeats 4000000
namespace K25
open PySem L2
def gK (p:Str×V):Zl×V:=(Sum.inr p.1,p.2)
theorem Zln (ps:List (Str×V))(x:Str):lk ps x=ZQ (ps.map gK) (Sum.inr x):=rfl
theorem Zgf (x:Str):lk [] x=none:=rfl
theorem Uv (p:Str×V)(ps:List (Str×V))(x:Str):lk (p::ps) x=if p.1=x then some p.2 else lk ps x:=by
 by_cases h:p.1=x
 · rw [if_pos h];exact Yx (show (gK p).1=Sum.inr x by rw [← h];rfl)
 · rw [if_neg h];exact Yz (show ¬ (gK p).1=Sum.inr x from fun z=>h (Sum.inr.inj z))
theorem Vs {ps:List (Str×V)}(hnd:(ps.map (·.1)).Nodup){x:Str}{v:V}:lk ps x=some v↔(x,v)∈ps:=by
 induction ps with
 | nil=>simp [Zgf]
 | cons p ps ih =>
   rw [List.map_cons,List.nodup_cons] at hnd
   rw [Uv]
   by_cases h:p.1=x
   · rw [if_pos h]
     constructor
     · intro e
       cases e
       rw [← h];exact List.mem_cons_self
     · intro e
       rcases List.mem_cons.mp e with e | e
       · rw [← e]
       · exact absurd (h ▸ List.mem_map_of_mem (f:=(·.1)) e) hnd.1
   · rw [if_neg h,ih hnd.2,List.mem_cons]
     exact ⟨.inr,fun e=>e.resolve_left fun z=>h (by rw [← z])⟩
theorem Zed {ps:List (Str×V)}{x:Str}(h:∀ p∈ps,p.1≠x):lk ps x=none:=by
 induction ps with
 | nil=>rfl
 | cons p ps ih=>rw [Uv,if_neg (h p List.mem_cons_self)];exact ih fun q hq=>h q (List.mem_cons_of_mem _ hq)
theorem Zej {ps qs:List (Str×V)}(h:ps.Perm qs)(hnd:(qs.map (·.1)).Nodup)(x:Str):lk ps x=lk qs x:=by
 have hnd':(ps.map (·.1)).Nodup:=(h.map (·.1)).nodup_iff.mpr hnd
 cases e:lk qs x with
 | some v=>exact (Vs hnd').mpr (h.mem_iff.mpr ((Vs hnd).mp e))
 | none =>
   cases e2:lk ps x with
   | none=>rfl
   | some v=>rw [(Vs hnd).mpr (h.mem_iff.mp ((Vs hnd').mp e2))] at e;cases e
def Wk (ps:List (Str×V))(x:Str)(v:V):List (Str×V) :=
 if (ps.any fun p=>decide (p.1=x))=true then ps.map (fun p=>if p.1=x then (p.1,v) else p) else ps++[(x,v)]
theorem ZcM (ps:List (Str×V))(x:Str)(v:V):YD (ps.map gK) (Sum.inr x) v=(Wk ps x v).map gK:=by
 have e:∀ p:Str×V,decide ((gK p).1=Sum.inr x)=decide (p.1=x):=fun p=>by
   by_cases h:p.1=x
   · rw [decide_eq_true h];exact decide_eq_true (by rw [← h];rfl)
   · rw [decide_eq_false h];exact decide_eq_false fun z=>h (Sum.inr.inj z)
 have e1:((ps.map gK).any fun kv=>decide (kv.1=Sum.inr x))=ps.any fun p=>decide (p.1=x):=by
   rw [List.any_map];congr 1;funext p;exact e p
 unfold YD Wk
 rw [e1]
 by_cases h:(ps.any fun p=>decide (p.1=x))=true
 · rw [if_pos h,if_pos h,List.map_map,List.map_map]
   congr 1
   funext p
   show (if (gK p).1=Sum.inr x then ((gK p).1,v) else gK p)=gK (if p.1=x then (p.1,v) else p)
   by_cases z:p.1=x
   · rw [if_pos z,if_pos (show (gK p).1=Sum.inr x by rw [← z];rfl)];rfl
   · rw [if_neg z,if_neg (show ¬ (gK p).1=Sum.inr x from fun y=>z (Sum.inr.inj y))]
 · rw [if_neg h,if_neg h,List.map_append];rfl
theorem ZfM (ps:List (Str×V))(x:Str)(v:V):(Wk ps x v).map (·.1)=if x∈ps.map (·.1) then ps.map (·.1) else ps.map (·.1)++[x]:=by
 have e:(ps.any fun p=>decide (p.1=x))=true↔x∈ps.map (·.1):=by
   rw [List.any_eq_true,List.mem_map]
   exact ⟨fun ⟨p,h,z⟩=>⟨p,h,of_decide_eq_true z⟩,fun ⟨p,h,z⟩=>⟨p,h,decide_eq_true z⟩⟩
 unfold Wk
 by_cases h:(ps.any fun p=>decide (p.1=x))=true
 · rw [if_pos h,if_pos (e.mp h),List.map_map]
   apply List.map_congr_left
   intro p _
   show (if p.1=x then (p.1,v) else p).1=p.1
   split<;>rfl
 · rw [if_neg h,if_neg fun z=>h (e.mpr z),List.map_append];rfl
theorem ZiY (ps:List (Str×V))(x y:Str)(v:V):lk (Wk ps x v) y=if y=x then some v else lk ps y:=by
 rw [Zln,← ZcM,WS]
 by_cases h:y=x
 · rw [if_pos h,if_pos (by rw [h])]
 · rw [if_neg h,if_neg fun z=>h (Sum.inr.inj z)];rfl
structure Yv (NS:List Str):Prop where
 few:NS.length < 64
 len:∀ x∈NS,x.length≤1000
 lo:∀ x∈NS,0≤Zy x
 hi:∀ x∈NS,Zy x < 1024
structure LeafG (NS:List Str)(m:Int)(ps:List (Str×V)):Prop where
 ne:ps≠[]
 nd:(ps.map (·.1)).Nodup
 sub:∀ p∈ps,p.1∈NS
 mrk:∀ p∈ps,Zy p.1=m
def Xk (x:Str):Nat:=(Zy x).toNat
def TriE (NS:List Str)(nds:List Nd)(F:Str→Option V)(lev r num:Nat):Prop :=
 (num=0∧nds[num]?=some .bare∧∀ x∈NS,Xk x % 4 ^ lev=r→F x=none) ∨
 ∃ m ps,nds[num]?=some (.leaf m ps)∧LeafG NS m ps∧m.toNat % 4 ^ lev=r∧∀ x∈NS,Xk x % 4 ^ lev=r→F x=lk ps x
def Tri (NS:List Str)(nds:List Nd)(F:Str→Option V):Nat→Nat→Nat→Nat→Prop
 | 0,lev,r,num=>TriE NS nds F lev r num
 | d+1,lev,r,num=>TriE NS nds F lev r num∨∃ qs,nds[num]?=some (.fork qs)∧qs.length=4∧∀ i q,qs[i]?=some q→Tri NS nds F d (lev+1) (r+i * 4 ^ lev) q
def NEx (nds nds':List Nd):Prop:=∀(i:Nat)(n:Nd),nds[i]?=some n→nds'[i]?=some n
theorem NEx.refl (nds:List Nd):NEx nds nds:=fun _ _ h=>h
theorem NEx.trans {a b c:List Nd}(h:NEx a b)(h':NEx b c):NEx a c:=fun i n e=>h' i n (h i n e)
theorem NEx.app (nds:List Nd)(n:Nd):NEx nds (nds++[n]):=fun i m e=>by rw [List.getElem?_append_left (List.getElem?_eq_some_iff.mp e).1];exact e
section
variable {NS:List Str}{nds nds':List Nd}{F F':Str→Option V}
theorem TriE.mono {lev r num:Nat}(h:TriE NS nds F lev r num)(e:NEx nds nds'):TriE NS nds' F lev r num:=by
 rcases h with ⟨h1,h2,h3⟩ | ⟨m,ps,h1,h2⟩
 · exact .inl ⟨h1,e _ _ h2,h3⟩
 · exact .inr ⟨m,ps,e _ _ h1,h2⟩
theorem Tri.mono:∀(d:Nat){lev r num:Nat},Tri NS nds F d lev r num→NEx nds nds'→Tri NS nds' F d lev r num
 | 0,_,_,_,h,e=>TriE.mono h e
 | d+1,_,_,_,.inl h,e=>.inl (TriE.mono h e)
 | d+1,_,_,_,.inr ⟨qs,h1,h2,h3⟩,e=>.inr ⟨qs,e _ _ h1,h2,fun i q hq=>Tri.mono d (h3 i q hq) e⟩
theorem TriE.congr {lev r num:Nat}(h:TriE NS nds F lev r num)(e:∀ x∈NS,Xk x % 4 ^ lev=r→F' x=F x):TriE NS nds F' lev r num:=by
 rcases h with ⟨h1,h2,h3⟩ | ⟨m,ps,h1,h2,h3,h4⟩
 · exact .inl ⟨h1,h2,fun x hx hr=>by rw [e x hx hr];exact h3 x hx hr⟩
 · exact .inr ⟨m,ps,h1,h2,h3,fun x hx hr=>by rw [e x hx hr];exact h4 x hx hr⟩
theorem WK (n lev:Nat):n % 4 ^ (lev+1)=n % 4 ^ lev+(n / 4 ^ lev % 4) * 4 ^ lev:=by
 rw [Nat.pow_succ,Nat.mod_mul,Nat.mul_comm (4 ^ lev)]
theorem Wn {n lev r i:Nat}(hr:r < 4 ^ lev)(h:n % 4 ^ (lev+1)=r+i * 4 ^ lev):n % 4 ^ lev=r∧n / 4 ^ lev % 4=i:=by
 rw [WK] at h
 have hp:0 < 4 ^ lev:=Nat.pow_pos (by decide)
 have h1:=Nat.mod_lt n hp
 have e1:n % 4 ^ lev=r:=by
   have z:=congrArg (· % 4 ^ lev) h
   simp only [Nat.add_mul_mod_self_right] at z
   rwa [Nat.mod_mod,Nat.mod_eq_of_lt hr] at z
 refine ⟨e1,?_⟩
 rw [e1] at h
 exact Nat.eq_of_mul_eq_mul_right hp (Nat.add_left_cancel h)
theorem Ux {lev r i:Nat}(hr:r < 4 ^ lev)(hi:i < 4):r+i * 4 ^ lev < 4 ^ (lev+1):=by
 rw [Nat.pow_succ]
 have:i * 4 ^ lev≤3 * 4 ^ lev:=Nat.mul_le_mul_right _ (by omega)
 omega
theorem Tri.congr:∀(d:Nat){lev r num:Nat},r < 4 ^ lev→Tri NS nds F d lev r num→(∀ x∈NS,Xk x % 4 ^ lev=r→F' x=F x)→Tri NS nds F' d lev r num
 | 0,_,_,_,_,h,e=>TriE.congr h e
 | d+1,_,_,_,_,.inl h,e=>.inl (TriE.congr h e)
 | d+1,_,_,_,hr,.inr ⟨qs,h1,h2,h3⟩,e=>.inr ⟨qs,h1,h2,fun i q hq=>Tri.congr d (Ux hr (by rw [← h2];exact (List.getElem?_eq_some_iff.mp hq).1)) (h3 i q hq) fun x hx hz=>e x hx (Wn hr hz).1⟩
theorem Xv {n:Int}(h:0≤n)(lev:Nat):ZV n lev=n.toNat / 4 ^ lev % 4:=by
 obtain ⟨k,rfl⟩:=Int.eq_ofNat_of_zero_le h
 unfold ZV
 have:((k:Int) / 4 ^ lev % 4)=((k / 4 ^ lev % 4:Nat):Int):=by norm_cast
 rw [this]
 rfl
theorem Zjf (N:Yv NS):∀(d:Nat){lev r num:Nat}{x:Str},r < 4 ^ lev→Tri NS nds F d lev r num→x∈NS→Xk x % 4 ^ lev=r →
   ∃ ws e n,Xc nds (Zy x) (d+1) lev num=some (ws++[e])∧nds[e]?=some n∧((e=0∧n=.bare∧F x=none)∨∃ m ps,n=.leaf m ps∧LeafG NS m ps∧F x=lk ps x):=by
 have end_:∀ {lev r num:Nat} {x:Str} (d:Nat),TriE NS nds F lev r num→x∈NS→Xk x % 4 ^ lev=r→∃ ws e n,Xc nds (Zy x) (d+1) lev num=some (ws++[e])∧nds[e]?=some n∧((e=0∧n=.bare∧F x=none)∨∃ m ps,n=.leaf m ps∧LeafG NS m ps∧F x=lk ps x):=by
   intro lev r num x d h hx hr
   rcases h with ⟨h1,h2,h3⟩ | ⟨m,ps,h1,h2,h3,h4⟩
   · exact ⟨[],num,.bare,by unfold Xc;rw [h2];rfl,h2,.inl ⟨h1,rfl,h3 x hx hr⟩⟩
   · exact ⟨[],num,.leaf m ps,by unfold Xc;rw [h1];rfl,h1,.inr ⟨m,ps,rfl,h2,h4 x hx hr⟩⟩
 intro d
 induction d with
 | zero=>exact fun _ h hx hr=>end_ 0 h hx hr
 | succ d ih =>
   intro lev r num x hlt h hx hr
   rcases h with h | ⟨qs,h1,h2,h3⟩
   · exact end_ _ h hx hr
   · have hi:ZV (Zy x) lev < qs.length:=by rw [h2];exact WM _ _
     have hq:=List.getElem?_eq_getElem hi
     obtain ⟨ws,e,n,e1,e2,e3⟩:=ih (Ux hlt (WM _ _)) (h3 _ _ hq) hx (by rw [WK,hr,Xv (N.lo x hx)];rfl)
     refine ⟨num::ws,e,n,?_,e2,e3⟩
     unfold Xc
     rw [h1]
     show ((qs[ZV (Zy x) lev]?).bind fun q=>(Xc nds (Zy x) (d+1) (lev+1) q).map (num::·))=_
     rw [hq]
     show (Xc nds (Zy x) (d+1) (lev+1) _).map (num::·)=_
     rw [e1]
     rfl
end
end K25
set_option maxHeartbeats 4000000
namespace K25
open PySem L2
theorem Zjb:∀{l N:List Str},l.Nodup→(∀ x∈l,x∈N)→l.length≤N.length:=by
 intro l
 induction l with
 | nil=>intro N _ _;exact Nat.zero_le _
 | cons a l ih =>
   intro N hnd hs
   rw [List.nodup_cons] at hnd
   have ha:a∈N:=hs a List.mem_cons_self
   have:=ih (N:=N.erase a) hnd.2 fun x hx=>(List.mem_erase_of_ne (show x≠a from fun z=>hnd.1 (by rw [← z];exact hx))).mpr (hs x (List.mem_cons_of_mem _ hx))
   rw [List.length_erase_of_mem ha] at this
   have h1:0 < N.length:=List.length_pos_of_mem ha
   rw [List.length_cons];omega
section
variable {NS:List Str}{nds nds':List Nd}{F F':Str→Option V}
theorem LeafG.few {m:Int}{ps:List (Str×V)}(G:LeafG NS m ps):ps.length≤NS.length:=by
 have:=Zjb G.nd (N:=NS) fun x hx=>by obtain ⟨p,hp,rfl⟩:=List.mem_map.mp hx;exact G.sub p hp
 rwa [List.length_map] at this
theorem LeafG.perm {m:Int}{ps qs:List (Str×V)}(G:LeafG NS m ps)(h:qs.Perm ps):LeafG NS m qs :=
 ⟨fun z=>G.ne (by rw [z] at h;exact (List.Perm.nil_eq h).symm),(h.map (·.1)).nodup_iff.mpr G.nd,fun p hp=>G.sub p (h.mem_iff.mp hp),fun p hp=>G.mrk p (h.mem_iff.mp hp)⟩
theorem LeafG.ok {m:Int}{ps:List (Str×V)}(N:Yv NS)(G:LeafG NS m ps):ZcU (.leaf m ps):=by
 cases ps with
 | nil=>exact absurd rfl G.ne
 | cons p pr =>
   have h1:=G.mrk p List.mem_cons_self
   have h2:=G.sub p List.mem_cons_self
   exact ⟨p,pr,rfl,h1,N.len _ h2,by rw [← h1];exact N.lo _ h2⟩
theorem Zih {ps:List (Str×V)}{x:Str}(v:V)(hx:x∈NS)(hnd:(ps.map (·.1)).Nodup)(hs:∀ p∈ps,p.1∈NS)(hm:∀ p∈ps,Zy p.1=Zy x):LeafG NS (Zy x) (Wk ps x v):=by
 have hk:=ZfM ps x v
 have hmem:∀ p∈Wk ps x v,p.1∈ps.map (·.1)∨p.1=x:=fun p hp=>by
   have h1:p.1∈(Wk ps x v).map (·.1):=List.mem_map_of_mem hp
   rw [hk] at h1
   by_cases h:x∈ps.map (·.1)
   · rw [if_pos h] at h1;exact .inl h1
   · rw [if_neg h] at h1
     rcases List.mem_append.mp h1 with z | z
     · exact .inl z
     · exact .inr (List.mem_singleton.mp z)
 refine ⟨fun z=>?_,?_,fun p hp=>?_,fun p hp=>?_⟩
 · rw [z] at hk
   by_cases h:x∈ps.map (·.1)
   · rw [if_pos h] at hk;rw [← hk] at h;cases h
   · rw [if_neg h] at hk;simp at hk
 · rw [hk]
   by_cases h:x∈ps.map (·.1)
   · rw [if_pos h];exact hnd
   · rw [if_neg h,List.nodup_append]
     exact ⟨hnd,by simp,fun a ha b hb e=>h (by rw [List.mem_singleton.mp hb] at e;rw [← e];exact ha)⟩
 · rcases hmem p hp with z | z
   · obtain ⟨q,hq,e⟩:=List.mem_map.mp z
     rw [← e];exact hs q hq
   · rw [z];exact hx
 · rcases hmem p hp with z | z
   · obtain ⟨q,hq,e⟩:=List.mem_map.mp z
     rw [← e];exact hm q hq
   · rw [z]
def upF (F:Str→Option V)(x:Str)(v:V):Str→Option V:=fun y=>if y=x then some v else F y
theorem Zhn {d lev r:Nat}{m:Int}{ps qs:List (Str×V)}{x:Str}{v:V}{num:Nat}(N:Yv NS)(hx:x∈NS)(hr:Xk x % 4 ^ lev=r)(hn:nds[num]?=some (.leaf m qs))(hm:m=Zy x)(G:LeafG NS (Zy x) (Wk ps x v))(hp:qs.Perm (Wk ps x v))
   (hF:∀ y∈NS,Xk y % 4 ^ lev=r→F y=lk ps y):Tri NS nds (upF F x v) d lev r num:=by
 subst hm
 have h:TriE NS nds (upF F x v) lev r num:=by
   refine .inr ⟨Zy x,qs,hn,G.perm hp,hr,fun y hy hry=>?_⟩
   rw [Zej hp G.nd,ZiY]
   unfold upF
   by_cases h:y=x
   · rw [if_pos h,if_pos h]
   · rw [if_neg h,if_neg h];exact hF y hy hry
 cases d with
 | zero=>exact h
 | succ d=>exact .inl h
theorem Zil {d lev r num:Nat}{n:Nd}(N:Yv NS)(h0:nds[0]?=some .bare)(hr:r < 4 ^ lev)(h:Tri NS nds F (d+1) lev r num)(hn:nds[num]?=some n)(hnb:n≠.bare) :
   (Xb num lev n).length=4∧∀ (i q:Nat),(Xb num lev n)[i]?=some q→Tri NS nds F d (lev+1) (r+i * 4 ^ lev) q:=by
 have wrapE:∀ {r' q:Nat},TriE NS nds F (lev+1) r' q→Tri NS nds F d (lev+1) r' q:=fun g=>by
   cases d with
   | zero=>exact g
   | succ d=>exact .inl g
 rcases h with h | ⟨qs,h1,h2,h3⟩
 · rcases h with ⟨_,e,_⟩ | ⟨m,ps,e,G,hm,hF⟩
   · rw [hn] at e;cases e;exact absurd rfl hnb
   · rw [hn] at e;cases e
     obtain ⟨p1,pr,e1,e2,e3,e4⟩:=G.ok N
     refine ⟨rfl,fun i q hq=>?_⟩
     have hi:i < 4:=(List.getElem?_eq_some_iff.mp hq).1
     have hq':(if i=ZV m lev then num else 0)=q:=by
       rcases i with _ | _ | _ | _ | i
       · exact Option.some.inj hq
       · exact Option.some.inj hq
       · exact Option.some.inj hq
       · exact Option.some.inj hq
       · omega
     have hmm:m.toNat % 4 ^ (lev+1)=r+ZV m lev * 4 ^ lev:=by rw [WK,hm,Xv e4]
     by_cases z:i=ZV m lev
     · rw [if_pos z] at hq'
       subst hq'
       exact wrapE (.inr ⟨m,ps,hn,G,by rw [hmm,z],fun y hy hry=>hF y hy (Wn hr hry).1⟩)
     · rw [if_neg z] at hq'
       subst hq'
       refine wrapE (.inl ⟨rfl,h0,fun y hy hry=>?_⟩)
       rw [hF y hy (Wn hr hry).1]
       refine Zed fun p hp e=>z ?_
       have:=(Wn hr hry).2
       rw [← this,← e]
       unfold Xk
       rw [G.mrk p hp,Xv e4]
 · rw [hn] at h1;cases h1
   exact ⟨h2,h3⟩
theorem ZhE {r num:Nat}{n:Nd}{x:Str}(N:Yv NS)(h:Tri NS nds F 0 5 r num)(hn:nds[num]?=some n)(hnb:n≠.bare)(hx:x∈NS)(hr:Xk x % 4 ^ 5=r):n.hasM (Zy x)=true:=by
 rcases h with ⟨_,e,_⟩ | ⟨m,ps,e,G,hm,hF⟩
 · rw [hn] at e;cases e;exact absurd rfl hnb
 · rw [hn] at e;cases e
   refine decide_eq_true ?_
   obtain ⟨p1,pr,e1,e2,e3,e4⟩:=G.ok N
   have h1:Zy p1.1 < 1024:=N.hi _ (G.sub p1 (by rw [e1];exact List.mem_cons_self))
   have h2:=N.hi x hx
   have h3:=N.lo x hx
   rw [e2] at h1
   unfold Xk at hr
   have h4:m.toNat % 1024=r:=hm
   have h5:(Zy x).toNat % 1024=r:=hr
   rw [Nat.mod_eq_of_lt (by omega)] at h4 h5
   omega
theorem Zhj {d lev r num num':Nat}{qs:List Nat}{x:Str}{v:V}(N:Yv NS)(hr:r < 4 ^ lev)(hx:x∈NS)(hxr:Xk x % 4 ^ lev=r)(hl:qs.length=4)(hq:∀(i q:Nat),qs[i]?=some q→Tri NS nds F d (lev+1) (r+i * 4 ^ lev) q)
   (e:NEx nds nds') (hn:Tri NS nds' F' d (lev+1) (r+ZV (Zy x) lev * 4 ^ lev) num') (hF:∀ y,y≠x→F' y=F y) (h:nds'[num]?=some (.fork (qs.set (ZV (Zy x) lev) num'))):Tri NS nds' F' (d+1) lev r num:=by
 refine .inr ⟨_,h,by rw [List.length_set,hl],fun i q hi=>?_⟩
 have hi4:i < 4:=by rw [← hl];have:=(List.getElem?_eq_some_iff.mp hi).1;rwa [List.length_set] at this
 rw [List.getElem?_set] at hi
 by_cases z:ZV (Zy x) lev=i
 · rw [if_pos z,if_pos (by rw [hl,z];exact hi4)] at hi
   cases hi
   rw [← z]
   exact hn
 · rw [if_neg z] at hi
   refine Tri.congr d (Ux hr hi4) (Tri.mono d (hq i q hi) e) fun y hy hry=>hF y fun w=>z ?_
   rw [w] at hry
   rw [Xv (N.lo x hx)]
   exact (Wn hr hry).2
end
end K25
set_option maxHeartbeats 4000000
namespace K25
open PySem L2
section
variable {P:Program}{w:World}{K:PySem.W.Frag}{mg:Str→Option Value}{base:Heap}{C Pl:Addr}{NS:List Str}
def Vw (K:PySem.W.Frag)(C Pl:Addr)(NS:List Str):Nat→Sp
 | 0=>fun _ _ _ _=>False
 | d+1=>fun vs H Q _=>∃ (st ln dt:Addr) (nds:List Nd) (tabs:List (Zl×V)) (num lev r:Nat) (x:Str) (v:V) (F:Str→Option V),vs=[.ref st,iN num,iN lev,.str x,v]∧StoreAt K C st ln dt H nds tabs∧nds[0]?=some .bare∧Tri NS nds F d lev r num∧r < 4 ^ lev∧lev+d=5∧x∈NS∧Xk x % 4 ^ lev=r∧nds.length+d+1≤100000∧LamAt H Pl YB Xq ∧
   ∀ (H':Hp) (nds':List Nd) (num':Nat),StoreAt K C st ln dt H' nds' tabs→NEx nds nds'→nds'.length≤nds.length+d+1→Tri NS nds' (upF F x v) d lev r num'→LamAt H' Pl YB Xq→Kq [ln,Pl] H H'→TF H H'→Q (iN num') H'
abbrev nPi:List Str:=["self","number","level","name","value"]
theorem scPI:Zq ["self","number","level","name","value","node","pairs","parts","figure"] nPi (Zj c_Store_put_in):=⟨rfl,rfl,rfl,by decide +kernel,rfl,by decide +kernel,by decide +kernel⟩
theorem Zae {nds:List Nd}{F:Str→Option V}:∀{d lev r num:Nat},Tri NS nds F d lev r num→∃ n,nds[num]?=some n∧(n=.bare→num=0):=by
 have e:∀ {lev r num:Nat},TriE NS nds F lev r num→∃ n,nds[num]?=some n∧(n=.bare→num=0):=fun h=>by
   rcases h with ⟨h1,h2,_⟩ | ⟨m,ps,h1,_⟩
   · exact ⟨_,h2,fun _=>h1⟩
   · exact ⟨_,h1,fun z=>by cases z⟩
 intro d lev r num h
 cases d with
 | zero=>exact e h
 | succ d =>
   rcases h with h | ⟨qs,h1,_⟩
   · exact e h
   · exact ⟨_,h1,fun z=>by cases z⟩
theorem ZhR {nds:List Nd}{F:Str→Option V}{d lev r num:Nat}{n:Nd}{x:Str}(h0:nds[0]?=some .bare)(h:Tri NS nds F d lev r num)(hn:nds[num]?=some n)(hc:num=0∨n.hasM (Zy x)=true) :
   (n.pairs.map (·.1)).Nodup∧(∀ p∈n.pairs,p.1∈NS)∧(∀ p∈n.pairs,Zy p.1=Zy x)∧(∀ y∈NS,Xk y % 4 ^ lev=r→F y=lk n.pairs y)∧n.pairs.length≤NS.length:=by
 have e:TriE NS nds F lev r num→(n.pairs.map (·.1)).Nodup∧(∀ p∈n.pairs,p.1∈NS)∧(∀ p∈n.pairs,Zy p.1=Zy x)∧(∀ y∈NS,Xk y % 4 ^ lev=r→F y=lk n.pairs y)∧n.pairs.length≤NS.length:=fun g=>by
   rcases g with ⟨h1,h2,h3⟩ | ⟨m,ps,h1,G,hm,hF⟩
   · rw [hn] at h2;cases h2
     exact ⟨List.nodup_nil,fun p hp=>(by cases hp),fun p hp=>(by cases hp),h3,Nat.zero_le _⟩
   · rw [hn] at h1;cases h1
     rcases hc with z | z
     · rw [z,h0] at hn;cases hn
     · have z':m=Zy x:=of_decide_eq_true z
       exact ⟨G.nd,G.sub,fun p hp=>by rw [G.mrk p hp,z'],hF,G.few⟩
 cases d with
 | zero=>exact e h
 | succ d =>
   rcases h with h | ⟨qs,h1,_⟩
   · exact e h
   · rw [hn] at h1;cases h1
     rcases hc with z | z
     · rw [z,h0] at hn;cases hn
     · cases z
theorem ZjT {f:Addr}{fd:FuncData}{d k:Nat}(N:Yv NS)(hk:2≤k)(F:Fun K "put_in" "Store.put_in" c_Store_put_in f fd)(T:Txt K mg)(TC:Xm K C)
   (DH:Def P w K mg base 1 "has_mark" ["node","number"] (Vh K)) (DR:Def P w K mg base 1 "pairs_in" ["node"] (Wf K)) (DM:Def P w K mg base 1 "mark" ["name"] Wv) (DG:Def P w K mg base 1 "digit" ["number","level"] Wo)
   (DL:Def P w K mg base 2 "leaf_of" ["pairs"] (Vg K Pl YB)) (DO:Def P w K mg base 1 "fork_of" ["parts"] (WW K)) (DK:DefM P w K mg base 1 C "keep" ["self","node"] (Vi K C)) (DF:DefM P w K mg base 2 C "fork_parts" ["self","number","level"] (Zig K C))
   (DI:DefM P w K mg base k C "put_in" nPi (Vw K C Pl NS d)):FnOk P w K mg base ZF (k+1) f fd nPi (Vw K C Pl NS (d+1)):=by
 refine F.ok scPI (fun vs H Q E h=>?_) (fun cdv A outer s H vs Q E hr h=>?_)
 · obtain ⟨st,ln,dt,nds,tabs,num,lev,r,x,v,F,rfl,_⟩:=h;rfl
 obtain ⟨st,ln,dt,nds,tabs,num,lev,r,x,v,Fm,rfl,S,h0,htri,hrl,hlev,hx,hxr,hlen,hL,q⟩:=h
 obtain ⟨tz,hz⟩:=T.zero
 have hr1:=hr.mono (show 1≤k by omega)
 have hr2:=hr.mono hk
 refine' ⟨?t,?h,?r⟩
 case h =>
   conv=>arg 2;whnf
   with_reducible refine' Ze ?a1 (Ze (Yb ?a2 (Ze ?c1 (Ze ?c2 (Zi ?c3))) ZR) (Ze ?a3 (Ze ?a4 (Ze ?a5 (Zi ?a6)))))
   case a1=>exact Zx (i:=5) scPI.nd rfl (Or.inl rfl) (Zm Zt (ZM (pv 0) rfl) (pv 1) (fun _ _=>rfl))
   case a2=>exact PW.pt (UK (ZJ Yh (pv 1) (Xa rfl hz (v:=.int 0) ⟨_,rfl⟩) (ZC _)) (UA (YI (Zz DH hr1 (Zb (pv 5) (Zb (Zz DM hr1 (Zb (pv 3) Za)) Za))))))
   case c1=>exact Zx (i:=6) scPI.nd rfl (Or.inl rfl) (Ye (Ug rfl) rfl T.dict (by decide +kernel) (Zb (Zz DR hr1 (Zb (pv 5) Za)) Za))
   case c2=>exact ZdM (Zci hr) (pv 6) (pv 3) (pv 4) rfl
   case c3=>exact Zk (ZZ DK TC.cl hr1 (pv 0) (Zb (Zz DL hr2 (Zb (Ye (ZaK rfl) rfl T.list (by decide +kernel) (Zb (ZkR PySem.F.plainAttrs_dict PySem.F.slot_dict_items PySem.F.type_dict_items Zha (pv 6)) Za)) Za)) Za))
   case a3=>exact Zx (i:=7) scPI.nd rfl (Or.inl rfl) (ZZ DF TC.cl hr2 (pv 0) (Zb (pv 1) (Zb (pv 2) Za)))
   case a4=>exact Zx (i:=8) scPI.nd rfl (Or.inl rfl) (Zz DG hr1 (Zb (Zz DM hr1 (Zb (pv 3) Za)) (Zb (pv 2) Za)))
   case a5=>exact XA (ZZ DI TC.cl hr (pv 0) (Zb (Zm Zt (pv 7) (pv 8) (fun _ _=>rfl)) (Zb (Zw YC (pv 2) Zd) (Zb (pv 3) (Zb (pv 4) Za))))) (ZaG (pv 7) (pv 8) UH)
   case a6=>exact Zk (ZZ DK TC.cl hr1 (pv 0) (Zb (Zz DO hr1 (Zb (pv 7) Za)) Za))
 obtain ⟨n,hn,hbare⟩:=Zae htri
 obtain ⟨as,a,nl,ha,hna⟩:=S.node hn
 obtain ⟨dx,ob⟩:=S.ob
 obtain ⟨tb,htb⟩:=hL.tbl
 have hst:st ∉ [Pl]:=fun z=>by rw [List.mem_singleton.mp z,htb] at ob;cases ob
 have hln:ln ∉ [Pl]:=fun z=>by rw [List.mem_singleton.mp z,htb] at nl;cases nl
 have hdt:dt ∉ [Pl]:=fun z=>by have e:=S.tb;rw [List.mem_singleton.mp z,htb] at e;cases e
 refine ⟨_,rfl,st,C,dx,_,_,rfl,ob,TC.cl,TC.nN,XB ln dt,_,rfl,ln,_,_,_,rfl,rfl,SqL.of nl,Zv (by rw [List.getElem?_map,ha];rfl),?_⟩
 refine ⟨_,rfl,rfl,_,rfl,?_⟩
 have ed:decide (iN num=V.int 0)=decide (num=0):=by
   by_cases z:num=0
   · rw [decide_eq_true z,z];exact decide_eq_true rfl
   · rw [decide_eq_false z]
     exact decide_eq_false fun y=>z (by have:=V.int.inj y;omega)
 rw [ed]
 rcases Classical.em (num=0∨n.hasM (Zy x)=true) with hc | hc
 · obtain ⟨hnd,hsub,hmrk,hF,hfew⟩:=ZhR h0 htri hn hc
   by_cases z0:num=0
   rw [decide_eq_true z0]
   have s1:Same H H:=Same.refl H
   refine ZK (ZK ?_)
   rotate_left
   rw [decide_eq_false z0]
   refine ZB ⟨_,rfl,_,rfl,x,rfl,N.len x hx,fun H1 s1=>⟨a,n,Zy x,rfl,hna.tf s1.tf,_,rfl,?_⟩⟩
   rw [hc.resolve_left z0]
   refine ZK ?_
   all_goals
     have S1:=S.keep s1
     refine ⟨_,rfl,a,n,rfl,hna.tf s1.tf,fun pt H2 s2 hpt=>?_⟩
     obtain ⟨o,ts,ept,hod,hlts,hp⟩:=hpt
     have hfw:=N.few
     refine ⟨pt,ts,n.pairs,rfl,⟨o,ept,hod⟩,hlts,by omega,hp,hnd,fun dd hd=>?_⟩
     have hd0:H dd=none:=by
       cases e:H dd with
       | none=>rfl
       | some o=>rw [s2 _ _ (s1 _ _ e)] at hd;cases hd
     have s3:=Zp hd (.dK (n.pairs.map fun p=>((Sum.inr p.1:Zl),p.2)))
     refine ⟨_,rfl,_,rfl,_,rfl,dd,_,rfl,DPut.k (k:=Sum.inr x) Zg (by rw [List.length_map];exact Nat.lt_of_le_of_lt (show n.pairs.length≤64 by omega) (by decide)),?_⟩
     have s4:Same H (upd (upd H2 dd (.dK (n.pairs.map fun p=>((Sum.inr p.1:Zl),p.2)))) dd (.dK (YD (n.pairs.map fun p=>((Sum.inr p.1:Zl),p.2)) (Sum.inr x) v))):=fun b o e=>by
       rw [Zh (Zn e hd0),Zh (Zn e hd0)];exact s2 _ _ (s1 _ _ e)
     have ed4:upd (upd H2 dd (.dK (n.pairs.map fun p=>((Sum.inr p.1:Zl),p.2)))) dd (.dK (YD (n.pairs.map fun p=>((Sum.inr p.1:Zl),p.2)) (Sum.inr x) v)) dd=some (.dK ((Wk n.pairs x v).map gK)):=by
       rw [Zg,← ZcM];rfl
     generalize upd (upd H2 dd (.dK (n.pairs.map fun p=>((Sum.inr p.1:Zl),p.2)))) dd (.dK (YD (n.pairs.map fun p=>((Sum.inr p.1:Zl),p.2)) (Sum.inr x) v))=H4 at *
     have S4:=S.keep s4
     obtain ⟨dx4,ob4⟩:=S4.ob
     refine ⟨_,rfl,st,dx4,_,rfl,ob4,ZU ln dt (by decide +kernel) (by decide +kernel),_,rfl,.inr (.inr (.inl ⟨rfl,.inl ⟨_,ed4⟩⟩)),dd,_,rfl,rfl,ed4,fun vv hvv=>?_⟩
     have s5:=Zp hvv (.ext (ZaY vv dd))
     refine ⟨vv,dd,_,rfl,Zg,s5 _ _ ed4,fun l ts2 H5 hl5 s5b hlt2 hnone htup hlst=>?_⟩
     have s6:Same H H5:=(s4.trans s5).trans s5b
     have G:=Zih (NS:=NS) v hx hnd hsub hmrk
     have hPT:PairT H5 ts2 (Wk n.pairs x v):=by
       refine ⟨by rw [hlt2,List.length_map],fun i b p e1 e2=>?_⟩
       exact htup i b (gK p) e1 (by rw [List.getElem?_map,e2];rfl)
     have hL5:=LamAt.same hL s6
     refine ⟨l,ts2,Wk n.pairs x v,rfl,hlst,hPT,G.ne,by have:=G.few;omega,fun p hp=>N.len _ (G.sub p hp),hL5,fun a6 H6 p1 pr g6 L6 perm6 sort6 node6=>?_⟩
     have tb5:H5 Pl=some (.tbl tb):=s6 _ _ htb
     have tf6:TF H5 H6:=g6.tf tb5
     have S6:=(S.keep s6).kq g6.kq tf6 hst hln hdt
     refine ⟨st,ln,dt,a6,nds,tabs,_,rfl,S6,node6,by omega,fun H7 S7 k7 tf7=>?_⟩
     have nl6:∃ xs,H6 ln=some (.lst xs):=by obtain ⟨as6,e6,_⟩:=S6.nl;exact ⟨_,e6⟩
     have hmk:Zy p1.1=Zy x:=(G.perm perm6).mrk p1 List.mem_cons_self
     refine q H7 _ nds.length S7 (NEx.app nds _) (by rw [List.length_append];show nds.length+1≤_;omega) ?_ (L6.kq k7 fun b hb=>by rw [List.mem_singleton.mp hb];exact nl6) ?_ ((s6.tf.trans tf6).trans tf7)
     · exact Zhn (ps:=n.pairs) N hx hxr (by rw [List.getElem?_append_right (Nat.le_refl _),Nat.sub_self];rfl) hmk G perm6 hF
     · exact (Same.kq s6).trans ((g6.kq.sub fun b hb=>by simp at hb ⊢;exact .inr hb).trans (k7.sub fun b hb=>by simp at hb ⊢;exact .inl hb))
 · have z0:num≠0:=fun z=>hc (.inl z)
   have zm:n.hasM (Zy x)=false:=by
     cases e:n.hasM (Zy x) with
     | false=>rfl
     | true=>exact absurd (.inr e) hc
   have hnb:n≠.bare:=fun z=>z0 (hbare z)
   rw [decide_eq_false z0]
   refine ZB ⟨_,rfl,_,rfl,x,rfl,N.len x hx,fun H1 s1=>⟨a,n,Zy x,rfl,hna.tf s1.tf,_,rfl,?_⟩⟩
   rw [zm]
   refine ZB ?_
   cases d with
   | zero =>
     have h5:lev=5:=by omega
     subst h5
     exact absurd (.inr (ZhE N htri hn hnb hx hxr)) hc
   | succ d =>
     obtain ⟨hf4,hft⟩:=Zil N h0 hrl htri hn hnb
     have hok:ZcU n:=by
       rcases htri with htri | ⟨qs,h1,_⟩
       · rcases htri with ⟨z,_⟩ | ⟨m,ps,h1,G,_⟩
         · exact absurd z z0
         · rw [hn] at h1;cases h1;exact G.ok N
       · rw [hn] at h1;cases h1;exact trivial
     have S1:=S.keep s1
     obtain ⟨dx1,ob1⟩:=S1.ob
     refine ⟨_,rfl,st,dx1,_,rfl,ob1,ZU ln dt (by decide +kernel) (by decide +kernel),_,rfl,_,rfl,st,ln,dt,nds,tabs,num,lev,n,rfl,S1,hn,hnb,hok,by omega,fun rl H2 hrl1 s2 el=>?_⟩
     refine ⟨_,rfl,x,rfl,N.len x hx,fun H3 s3=>⟨_,rfl,Zy x,lev,rfl,N.lo x hx,by omega,?_⟩⟩
     have s13:Same H H3:=(s1.trans s2).trans s3
     have S3:=S.keep s13
     have hrl0:H rl=none:=by
       cases e:H rl with
       | none=>rfl
       | some o=>rw [s1 _ _ e] at hrl1;cases hrl1
     have el3:=s3 _ _ el
     have hdl:ZV (Zy x) lev < (Xb num lev n).length:=by rw [hf4];exact WM _ _
     have hq1:=List.getElem?_eq_getElem hdl
     generalize (Xb num lev n)[ZV (Zy x) lev]=q1 at hq1
     have hat:YG ((Xb num lev n).map iN) (Zy x / 4 ^ lev % 4)=some (iN q1):=by rw [← Wi];exact Zv (by rw [List.getElem?_map,hq1];rfl)
     obtain ⟨dx3,ob3⟩:=S3.ob
     refine ⟨_,rfl,st,dx3,_,rfl,ob3,ZU ln dt (by decide +kernel) (by decide +kernel),_,rfl,_,rfl,rl,_,_,_,rfl,rfl,SqL.of el3,hat,_,rfl,_,_,rfl,rfl,_,rfl,_,rfl,?_⟩
     refine ⟨st,ln,dt,nds,tabs,q1,lev+1,_,x,v,Fm,rfl,S3,h0,hft _ _ hq1,Ux hrl (WM _ _),by omega,hx,by rw [WK,hxr,Xv (N.lo x hx)];rfl,by omega,LamAt.same hL s13,fun H5 nds5 num5 S5 ext5 len5 tri5 L5 kq5 tf5=>?_⟩
     have nrl:rl ∉ [ln,Pl]:=fun z=>by
       rcases List.mem_cons.mp z with z | z
       · rw [z,nl] at hrl0;cases hrl0
       · rw [List.mem_singleton.mp z,htb] at hrl0;cases hrl0
     have el5:=kq5 _ _ nrl el3
     have hix:Ws ((Xb num lev n).map iN).length (Zy x / 4 ^ lev % 4)=some (ZV (Zy x) lev):=by
       rw [← Wi,List.length_map]
       unfold Ws
       rw [if_pos (by omega),if_pos (by omega)]
       rfl
     refine ⟨_,rfl,_,rfl,rl,_,_,_,rfl,rfl,el5,hix,?_⟩
     have tf6:=Zcs (o:=.lst (((Xb num lev n).map iN).set (ZV (Zy x) lev) (iN num5))) el5
     have k6:Kq [rl] H5 (upd H5 rl (.lst (((Xb num lev n).map iN).set (ZV (Zy x) lev) (iN num5)))):=ZaN
     have nst:st ∉ [rl]:=fun z=>by rw [← List.mem_singleton.mp z,ob] at hrl0;cases hrl0
     have nln:ln ∉ [rl]:=fun z=>by rw [← List.mem_singleton.mp z,nl] at hrl0;cases hrl0
     have ndt:dt ∉ [rl]:=fun z=>by rw [← List.mem_singleton.mp z,S.tb] at hrl0;cases hrl0
     have S6:=S5.kq k6 tf6 nst nln ndt
     have el6:upd H5 rl (.lst (((Xb num lev n).map iN).set (ZV (Zy x) lev) (iN num5))) rl=some (.lst (((Xb num lev n).set (ZV (Zy x) lev) num5).map iN)):=by rw [Zg,List.map_set]
     have L6:=L5.kq k6 fun b hb=>by rw [List.mem_singleton.mp hb];exact ⟨_,el5⟩
     have kh:Kq [ln,Pl] H (upd H5 rl (.lst (((Xb num lev n).map iN).set (ZV (Zy x) lev) (iN num5)))):=fun b o nb e=>by
       rw [Zh (Zn e hrl0)];exact kq5 _ _ nb (s13 _ _ e)
     generalize upd H5 rl (.lst (((Xb num lev n).map iN).set (ZV (Zy x) lev) (iN num5)))=H6 at *
     obtain ⟨dx6,ob6⟩:=S6.ob
     refine ⟨_,rfl,st,dx6,_,rfl,ob6,ZU ln dt (by decide +kernel) (by decide +kernel),_,rfl,rl,(Xb num lev n).set (ZV (Zy x) lev) num5,rfl,el6,by rw [List.length_set,hf4],fun a7 H7 s7 node7=>?_⟩
     have S7:=S6.keep s7
     refine ⟨st,ln,dt,a7,nds5,tabs,_,rfl,S7,node7,by omega,fun H8 S8 k8 tf8=>?_⟩
     have nl7:∃ xs,H7 ln=some (.lst xs):=by obtain ⟨as7,e7,_⟩:=S7.nl;exact ⟨_,e7⟩
     refine q H8 _ nds5.length S8 (ext5.trans (NEx.app nds5 _)) (by rw [List.length_append];show nds5.length+1≤_;omega) ?_ ((LamAt.same L6 s7).kq k8 fun b hb=>by rw [List.mem_singleton.mp hb];exact nl7) ?_ ((((s13.tf.trans tf5).trans tf6).trans s7.tf).trans tf8)
     · refine Zhj (v:=v) (num':=num5) (F:=Fm) (qs:=Xb num lev n) N hrl hx hxr hf4 hft (ext5.trans (NEx.app nds5 _)) (Tri.mono d tri5 (NEx.app nds5 _)) (fun y hy=>if_neg hy) ?_
       rw [List.getElem?_append_right (Nat.le_refl _),Nat.sub_self];rfl
     · exact (kh.trans (Same.kq s7)).trans (k8.sub fun b hb=>by simp at hb ⊢;exact .inl hb)
end
end K25
set_option maxHeartbeats 4000000
namespace K25
open PySem L2
section
variable {P:Program}{w:World}{K:PySem.W.Frag}{mg:Str→Option Value}{base:Heap}{C Pl:Addr}{NS:List Str}
theorem ZdS {f:Addr}{fd:FuncData}(N:Yv NS)(F:Fun K "put_in" "Store.put_in" c_Store_put_in f fd)(T:Txt K mg)(TC:Xm K C)
   (DH:Def P w K mg base 1 "has_mark" ["node","number"] (Vh K)) (DR:Def P w K mg base 1 "pairs_in" ["node"] (Wf K)) (DM:Def P w K mg base 1 "mark" ["name"] Wv) (DG:Def P w K mg base 1 "digit" ["number","level"] Wo)
   (DL:Def P w K mg base 2 "leaf_of" ["pairs"] (Vg K Pl YB)) (DO:Def P w K mg base 1 "fork_of" ["parts"] (WW K)) (DK:DefM P w K mg base 1 C "keep" ["self","node"] (Vi K C)) (DF:DefM P w K mg base 2 C "fork_parts" ["self","number","level"] (Zig K C))
   (b:Binds K fd nPi []) (mt:VA K C "put_in" f):∀ d,FnOk P w K mg base ZF (2+d) f fd nPi (Vw K C Pl NS d)
 | 0=>F.ok scPI (fun _ _ _ _ h=>h.elim) (fun _ _ _ _ _ _ _ _ _ h=>h.elim)
 | d+1=>ZjT N (Nat.le_add_right 2 d) F T TC DH DR DM DG DL DO DK DF ⟨f,fd,ZdS N F T TC DH DR DM DG DL DO DK DF b mt d,b,mt⟩
def VL:Sp:=fun vs H Q _=>∃ u v,vs=[u,v]∧scal u v=true∧Q (.bl (decide (u=v))) H
theorem scAl:Zq ["one","other"] ["one","other"] (Zj s_alike):=⟨rfl,rfl,rfl,by decide +kernel,rfl,by decide +kernel,by decide +kernel⟩
theorem ZhY {f:Addr}{fd:FuncData}(F:Fun K "alike" "alike" s_alike f fd):FnOk P w K mg base ZF 1 f fd ["one","other"] VL:=by
 refine F.ok scAl (fun vs H Q E h=>?_) (fun cdv A outer s H vs Q E hr h=>?_)
 · obtain ⟨u,v,rfl,_⟩:=h;rfl
 obtain ⟨u,v,rfl,hs,q⟩:=h
 exact ⟨_,Zi (Zk (Yl Yh (pv 0) (pv 1) (ZC _))),⟨_,rfl,_,rfl,hs,q⟩⟩
def ValV:V→Prop
 | .int _=>True
 | .str _=>True
 | _=>False
theorem ValV.scal {o:Option V}{v:V}(h:ValV v)(ho:∀ u,o=some u→ValV u):scal (o.getD .non) v=true:=by
 cases o with
 | none=>cases v<;>first | rfl | exact h.elim
 | some u =>
   have hu:=ho u rfl
   cases u<;>first | exact hu.elim | (cases v<;>first | rfl | exact h.elim)
theorem ValV.ne {v:V}(h:ValV v):v≠.non:=fun z=>by subst z;exact h
theorem ZaO {nds:List Nd}{F:Str→Option V}{t:Nat}{x:Str}(N:Yv NS)(h:Tri NS nds F 5 0 0 t)(hx:x∈NS) :
   ∃ ws e n,Xc nds (Zy x) 6 0 t=some (ws++[e])∧nds[e]?=some n∧n.pairs.length≤1000∧(n.pairs.map (·.1)).Nodup∧lk n.pairs x=F x:=by
 obtain ⟨ws,e,n,e1,e2,e3⟩:=Zjf N 5 (by decide) h hx (by rw [Nat.pow_zero,Nat.mod_one])
 refine ⟨ws,e,n,e1,e2,?_⟩
 have hf:=N.few
 rcases e3 with ⟨_,rfl,z⟩ | ⟨m,ps,rfl,G,z⟩
 · exact ⟨Nat.zero_le _,List.nodup_nil,by rw [z];rfl⟩
 · exact ⟨by have:=G.few;show ps.length≤1000;omega,G.nd,z.symm⟩
def Zis (K:PySem.W.Frag)(C Pl:Addr)(NS:List Str):Sp:=fun vs H Q _=>∃(st ln dt:Addr)(nds:List Nd)(tabs:List (Zl×V))(t:Nat)(x:Str)(v:V)(F:Str→Option V),vs=[.ref st,iN t,.str x,v]∧StoreAt K C st ln dt H nds tabs∧nds[0]?=some .bare∧(ZQ tabs (Sum.inl (t:Int))).isSome=true∧Tri NS nds F 5 0 0 t∧x∈NS∧ValV v∧(∀ u,F x=some u→ValV u)∧nds.length+6≤100000∧tabs.length≤100000∧LamAt H Pl YB Xq ∧
 ∀ (H':Hp) (nds':List Nd) (tabs':List (Zl×V)) (t':Nat),StoreAt K C st ln dt H' nds' tabs'→NEx nds nds'→nds'.length≤nds.length+6→tabs'.length≤tabs.length+1→(∀ k,(ZQ tabs k).isSome=true→(ZQ tabs' k).isSome=true)→(ZQ tabs' (Sum.inl (t':Int))).isSome=true→Tri NS nds' (upF F x v) 5 0 0 t'→LamAt H' Pl YB Xq→Kq [ln,dt,Pl] H H'→TF H H'→Q (iN t') H'
theorem scPu:Zq ["self","table","name","value"] ["self","table","name","value"] (Zj c_Store_put):=⟨rfl,rfl,rfl,by decide +kernel,rfl,by decide +kernel,by decide +kernel⟩
theorem Zlb {f:Addr}{fd:FuncData}(N:Yv NS)(F:Fun K "put" "Store.put" c_Store_put f fd)(TC:Xm K C)(DA:Def P w K mg base 1 "alike" ["one","other"] VL)(DLk:DefM P w K mg base 3 C "looked" ["self","table","name"] (Zad K C))
   (DAs:DefM P w K mg base 1 C "as_table" ["self","number"] (Zfm K C)) (DI:DefM P w K mg base 8 C "put_in" nPi (Vw K C Pl NS 6)):FnOk P w K mg base ZF 9 f fd ["self","table","name","value"] (Zis K C Pl NS):=by
 refine F.ok scPu (fun vs H Q E h=>?_) (fun cdv A outer s H vs Q E hr h=>?_)
 · obtain ⟨st,ln,dt,nds,tabs,t,x,v,F,rfl,_⟩:=h;rfl
 obtain ⟨st,ln,dt,nds,tabs,t,x,v,Fm,rfl,S,h0,htab,htri,hx,hv,hFv,hlen,htl,hL,q⟩:=h
 have hr1:=hr.mono (show 1≤8 by decide)
 have hr3:=hr.mono (show 3≤8 by decide)
 refine' ⟨?t,?h,?r⟩
 case h =>
   conv=>arg 2;whnf
   with_reducible refine' Ze (Yb ?a1 (Zi ?a2) ZR) (Zi ?a3)
   case a1=>exact YI (Zz DA hr1 (Zb (ZZ DLk TC.cl hr3 (pv 0) (Zb (pv 1) (Zb (pv 2) Za))) (Zb (pv 3) Za)))
   case a2=>exact Zk (pv 1)
   case a3=>exact Zk (ZZ DAs TC.cl hr1 (pv 0) (Zb (ZZ DI TC.cl hr (pv 0) (Zb (pv 1) (Zb Zd (Zb (pv 2) (Zb (pv 3) Za))))) Za))
 obtain ⟨dx,ob⟩:=S.ob
 obtain ⟨ws,e,n,e1,e2,e3,e4,e5⟩:=ZaO N htri hx
 refine ⟨_,rfl,st,dx,_,rfl,ob,ZU ln dt (by decide +kernel) (by decide +kernel),_,rfl,_,rfl,st,ln,dt,nds,tabs,t,x,6,ws,e,n,rfl,S,htab,N.len x hx,N.lo x hx,by decide,e1,e2,e3,e4,fun H1 s1=>?_⟩
 rw [e5]
 refine ⟨_,rfl,_,_,rfl,hv.scal hFv,_,rfl,?_⟩
 have S1:=S.keep s1
 have hL1:=LamAt.same hL s1
 by_cases hc:(Fm x).getD .non=v
 · rw [decide_eq_true hc]
   refine ZK ⟨_,rfl,q H1 nds tabs t S1 (NEx.refl _) (by omega) (by omega) (fun _ h=>h) htab (Tri.congr 5 (by decide) htri fun y _ _=>?_) hL1 (Same.kq s1) s1.tf⟩
   unfold upF
   by_cases z:y=x
   · rw [if_pos z,z]
     cases eF:Fm x with
     | none=>rw [eF] at hc;exact absurd hc.symm hv.ne
     | some u=>rw [eF] at hc;exact congrArg some hc.symm
   · rw [if_neg z]
 · rw [decide_eq_false hc]
   obtain ⟨dx1,ob1⟩:=S1.ob
   refine ZB ⟨_,rfl,st,dx1,_,rfl,ob1,ZU ln dt (by decide +kernel) (by decide +kernel),_,rfl,st,dx1,_,rfl,ob1,ZU ln dt (by decide +kernel) (by decide +kernel),_,rfl,_,rfl,_,rfl,?_⟩
   refine ⟨st,ln,dt,nds,tabs,t,0,0,x,v,Fm,rfl,S1,h0,htri,by decide,rfl,hx,by rw [Nat.pow_zero,Nat.mod_one],hlen,hL1,fun H2 nds2 num2 S2 ext2 len2 tri2 L2' kq2 tf2=>?_⟩
   refine ⟨st,ln,dt,nds2,tabs,num2,rfl,S2,by omega,fun H3 S3 k3 tf3=>?_⟩
   obtain ⟨tb,htb⟩:=L2'.tbl
   refine q H3 nds2 _ num2 S3 ext2 len2 (XC _ _ _) (fun k hk=>?_) (by rw [WS,if_pos rfl];rfl) tri2 ?_ ?_ ((s1.tf.trans tf2).trans tf3)
   · rw [WS]
     by_cases z:k=Sum.inl (num2:Int)
     · rw [if_pos z];rfl
     · rw [if_neg z];exact hk
   · have hdl:∀ b∈[dt],∃ xs,H2 b=some (.dK xs):=fun b hb=>by rw [List.mem_singleton.mp hb];exact ⟨_,S2.tb⟩
     rcases L2' with h | ⟨c,h,h2⟩
     · exact .inl (k3 _ _ (fun z=>by obtain ⟨_,e⟩:=hdl _ z;rw [h] at e;cases e) h)
     · exact .inr ⟨c,k3 _ _ (fun z=>by obtain ⟨_,e⟩:=hdl _ z;rw [h] at e;cases e) h,k3 _ _ (fun z=>by obtain ⟨_,e⟩:=hdl _ z;rw [h2] at e;cases e) h2⟩
   · exact ((Same.kq s1).trans (kq2.sub fun b hb=>by simp at hb ⊢;rcases hb with z | z;exact .inl z;exact .inr (.inr z))).trans (k3.sub fun b hb=>by simp at hb ⊢;exact .inr (.inl hb))
end
end K25
set_option maxHeartbeats 4000000
namespace K25
open PySem L2
section
variable {NS:List Str}{nds nds':List Nd}{F F':Str→Option V}
def VP (F:Str→Option V)(x:Str):Str→Option V:=fun y=>if y=x then none else F y
def Wj (ps:List (Str×V))(x:Str):List (Str×V):=ps.filter fun p=>!decide (p.1=x)
theorem ZdW (ps:List (Str×V))(x y:Str):lk (Wj ps x) y=if y=x then none else lk ps y:=by
 induction ps with
 | nil => by_cases h:y=x
          · rw [if_pos h];rfl
          · rw [if_neg h];rfl
 | cons p ps ih =>
   unfold Wj at ih ⊢
   rw [List.filter_cons]
   by_cases hp:p.1=x
   · rw [decide_eq_true hp]
     show lk (ps.filter fun p=>!decide (p.1=x)) y=_
     rw [ih,Uv]
     by_cases h:y=x
     · rw [if_pos h,if_pos h]
     · rw [if_neg h,if_neg h,if_neg fun z=>h (by rw [← z,hp])]
   · rw [decide_eq_false hp]
     show lk (p::ps.filter fun p=>!decide (p.1=x)) y=_
     rw [Uv,ih,Uv]
     by_cases h:y=x
     · rw [if_pos h,if_pos h,if_neg fun z=>hp (by rw [z,h])]
     · rw [if_neg h,if_neg h]
theorem LeafG.but {m:Int}{ps:List (Str×V)}{x:Str}(G:LeafG NS m ps)(h:Wj ps x≠[]):LeafG NS m (Wj ps x):=by
 have hs:(Wj ps x).Sublist ps:=List.filter_sublist
 exact ⟨h,G.nd.sublist (hs.map (·.1)),fun p hp=>G.sub p (hs.subset hp),fun p hp=>G.mrk p (hs.subset hp)⟩
theorem ZbI {d lev r num:Nat}(h:TriE NS nds F lev r num):Tri NS nds F d lev r num:=by
 cases d with
 | zero=>exact h
 | succ d=>exact .inl h
theorem ZfR {d lev r num:Nat}{n:Nd}{x:Str}{v0:V}(h:Tri NS nds F d lev r num)(hn:nds[num]?=some n)(hx:x∈NS)(hxr:Xk x % 4 ^ lev=r)(hF:F x=some v0) :
   (∃ ps,n=.leaf (Zy x) ps∧LeafG NS (Zy x) ps∧∀ y∈NS,Xk y % 4 ^ lev=r→F y=lk ps y)∨∃ qs d',d=d'+1∧n=.fork qs∧qs.length=4∧∀ i q,qs[i]?=some q→Tri NS nds F d' (lev+1) (r+i * 4 ^ lev) q:=by
 have e:TriE NS nds F lev r num→∃ ps,n=.leaf (Zy x) ps∧LeafG NS (Zy x) ps∧∀ y∈NS,Xk y % 4 ^ lev=r→F y=lk ps y:=fun g=>by
   rcases g with ⟨_,_,h3⟩ | ⟨m,ps,h1,G,_,h4⟩
   · rw [h3 x hx hxr] at hF;cases hF
   · rw [hn] at h1;cases h1
     have hm:Zy x=m:=by
       rw [h4 x hx hxr] at hF
       exact G.mrk _ ((Vs G.nd).mp hF)
     subst hm
     exact ⟨ps,rfl,G,h4⟩
 cases d with
 | zero=>exact .inl (e h)
 | succ d =>
   rcases h with h | ⟨qs,h1,h2,h3⟩
   · exact .inl (e h)
   · rw [hn] at h1;cases h1
     exact .inr ⟨qs,d,rfl,rfl,h2,h3⟩
theorem Zir {lev r num:Nat}{ps qs:List (Str×V)}{x:Str}(d:Nat)(hr:Xk x % 4 ^ lev=r)(hn:nds[num]?=some (.leaf (Zy x) qs))(G:LeafG NS (Zy x) (Wj ps x))(hp:qs.Perm (Wj ps x))(hF:∀ y∈NS,Xk y % 4 ^ lev=r→F y=lk ps y):Tri NS nds (VP F x) d lev r num:=by
 refine ZbI (.inr ⟨Zy x,qs,hn,G.perm hp,hr,fun y hy hry=>?_⟩)
 rw [Zej hp G.nd,ZdW]
 unfold VP
 by_cases h:y=x
 · rw [if_pos h,if_pos h]
 · rw [if_neg h,if_neg h];exact hF y hy hry
theorem ZhN {lev r:Nat}{ps:List (Str×V)}{x:Str}(d:Nat)(h0:nds[0]?=some .bare)(hb:Wj ps x=[])(hF:∀ y∈NS,Xk y % 4 ^ lev=r→F y=lk ps y):Tri NS nds (VP F x) d lev r 0:=by
 refine ZbI (.inl ⟨rfl,h0,fun y hy hry=>?_⟩)
 have:=ZdW ps x y
 rw [hb,Zgf] at this
 unfold VP
 by_cases h:y=x
 · rw [if_pos h]
 · rw [if_neg h] at this ⊢;rw [hF y hy hry];exact this.symm
theorem ZfP {d lev r num':Nat}{qs:List Nat}{x:Str}(N:Yv NS)(hr:r < 4 ^ lev)(hx:x∈NS)(hxr:Xk x % 4 ^ lev=r)(hl:qs.length=4)(hq:∀(i q:Nat),qs[i]?=some q→Tri NS nds F d (lev+1) (r+i * 4 ^ lev) q)
   (e:NEx nds nds') (hn:Tri NS nds' F' d (lev+1) (r+ZV (Zy x) lev * 4 ^ lev) num') (hF:∀ y,y≠x→F' y=F y) (i q:Nat) (hi:(qs.set (ZV (Zy x) lev) num')[i]?=some q):Tri NS nds' F' d (lev+1) (r+i * 4 ^ lev) q:=by
 have hi4:i < 4:=by rw [← hl];have:=(List.getElem?_eq_some_iff.mp hi).1;rwa [List.length_set] at this
 rw [List.getElem?_set] at hi
 by_cases z:ZV (Zy x) lev=i
 · rw [if_pos z,if_pos (by rw [hl,z];exact hi4)] at hi
   cases hi
   rw [← z]
   exact hn
 · rw [if_neg z] at hi
   refine Tri.congr d (Ux hr hi4) (Tri.mono d (hq i q hi) e) fun y hy hry=>hF y fun w=>z ?_
   rw [w] at hry
   rw [Xv (N.lo x hx)]
   exact (Wn hr hry).2
theorem Zbc {qs:List Nat}{q:Nat}(h:(qs.filter fun p=>!decide (p=0))=[q]):∃ i:Nat,qs[i]?=some q∧q≠0∧∀(j p:Nat),qs[j]?=some p→j≠i→p=0:=by
 induction qs with
 | nil=>cases h
 | cons a qs ih =>
   rw [List.filter_cons] at h
   by_cases ha:a=0
   · rw [decide_eq_true ha] at h
     obtain ⟨i,h1,h2,h3⟩:=ih h
     refine ⟨i+1,h1,h2,fun j p hj hne=>?_⟩
     cases j with
     | zero=>cases hj;exact ha
     | succ j=>exact h3 j p hj fun z=>hne (by rw [z])
   · rw [decide_eq_false ha] at h
     have h':a::(qs.filter fun p=>!decide (p=0))=[q]:=h
     obtain ⟨e1,e2⟩:=List.cons.inj h'
     refine ⟨0,by rw [e1];rfl,by rw [← e1];exact ha,fun j p hj hne=>?_⟩
     cases j with
     | zero=>exact absurd rfl hne
     | succ j =>
       have hp:p∈qs:=List.mem_of_getElem? hj
       by_cases z:p=0
       · exact z
       · have:p∈qs.filter fun p=>!decide (p=0):=List.mem_filter.mpr ⟨hp,by rw [decide_eq_false z];rfl⟩
         rw [e2] at this;cases this
theorem Zld {d lev r q:Nat}{qs:List Nat}{m:Int}{ps:List (Str×V)}(N:Yv NS)(h0:nds[0]?=some .bare)(hr:r < 4 ^ lev)(hl:qs.length=4)(hq:∀(i q:Nat),qs[i]?=some q→Tri NS nds F d (lev+1) (r+i * 4 ^ lev) q)
   (h1:(qs.filter fun p=>!decide (p=0))=[q]) (hn:nds[q]?=some (.leaf m ps)):Tri NS nds F (d+1) lev r q:=by
 obtain ⟨i,hi,hq0,hoth⟩:=Zbc h1
 have leafE:TriE NS nds F (lev+1) (r+i * 4 ^ lev) q:=by
   have:=hq i q hi
   cases d with
   | zero=>exact this
   | succ d =>
     rcases this with h | ⟨qs',h,_⟩
     · exact h
     · rw [hn] at h;cases h
 rcases leafE with ⟨z,_⟩ | ⟨m',ps',e,G,hm,hF⟩
 · exact absurd z hq0
 · rw [hn] at e;cases e
   obtain ⟨p1,pr,e1,e2,e3,e4⟩:=G.ok N
   obtain ⟨hm1,hm2⟩:=Wn hr hm
   refine .inl (.inr ⟨m,ps,hn,G,hm1,fun y hy hry=>?_⟩)
   have hj:ZV (Zy y) lev < qs.length:=by rw [hl];exact WM _ _
   have hyr:Xk y % 4 ^ (lev+1)=r+ZV (Zy y) lev * 4 ^ lev:=by rw [WK,hry,Xv (N.lo y hy)];rfl
   by_cases z:ZV (Zy y) lev=i
   · rw [z] at hyr;exact hF y hy hyr
   · have hz:=hoth _ _ (List.getElem?_eq_getElem hj) z
     have ht:=hq _ _ (List.getElem?_eq_getElem hj)
     rw [hz] at ht
     have hE:TriE NS nds F (lev+1) (r+ZV (Zy y) lev * 4 ^ lev) 0:=by
       cases d with
       | zero=>exact ht
       | succ d =>
         rcases ht with h | ⟨qs',h,_⟩
         · exact h
         · rw [h0] at h;cases h
     rcases hE with ⟨_,_,h3⟩ | ⟨m',ps',e,_⟩
     · rw [h3 y hy hyr]
       refine (Zed fun p hp e=>z ?_).symm
       rw [Xv (N.lo y hy),← hm2,← e,G.mrk p hp]
     · rw [h0] at e;cases e
theorem Zal {d lev r num:Nat}{qs:List Nat}(hn:nds[num]?=some (.fork qs))(hl:qs.length=4)(hq:∀(i q:Nat),qs[i]?=some q→Tri NS nds F d (lev+1) (r+i * 4 ^ lev) q):Tri NS nds F (d+1) lev r num:=.inr ⟨qs,hn,hl,hq⟩
end
theorem ZjI {X:Cx}{K:PySem.W.Frag}(hK:X.K=K):IxR X (rIxT K):=by subst hK;exact ZS
section
variable {P:Program}{w:World}{K:PySem.W.Frag}{mg:Str→Option Value}{base:Heap}{C Pl:Addr}{NS:List Str}
def ZaZ (K:PySem.W.Frag)(C Pl:Addr)(NS:List Str):Nat→Sp
 | 0=>fun _ _ _ _=>False
 | d+1=>fun vs H Q _=>∃ (st ln dt:Addr) (nds:List Nd) (tabs:List (Zl×V)) (num lev r:Nat) (x:Str) (v0:V) (F:Str→Option V),vs=[.ref st,iN num,iN lev,.str x]∧StoreAt K C st ln dt H nds tabs∧nds[0]?=some .bare∧Tri NS nds F d lev r num∧r < 4 ^ lev∧lev+d=5∧x∈NS∧Xk x % 4 ^ lev=r∧F x=some v0∧nds.length+d+1≤100000∧LamAt H Pl YB Xq ∧
   ∀ (H':Hp) (nds':List Nd) (num':Nat),StoreAt K C st ln dt H' nds' tabs→NEx nds nds'→nds'.length≤nds.length+d+1→Tri NS nds' (VP F x) d lev r num'→LamAt H' Pl YB Xq→Kq [ln,Pl] H H'→TF H H'→Q (iN num') H'
abbrev nTk:List Str:=["self","number","level","name"]
abbrev nTa:List Str:=["self","number","level","name","node","left","parts","figure","filled"]
theorem scTk:Zq nTa nTk (Zj c_Store_taken_from):=⟨rfl,rfl,rfl,by decide +kernel,rfl,by decide +kernel,by decide +kernel⟩
theorem Zkz {f : Addr}{fd:FuncData}{d k:Nat}(N:Yv NS)(hk:2≤k)(F:Fun K "taken_from" "Store.taken_from" c_Store_taken_from f fd)(T:Txt K mg)(TC:Xm K C)
   (DH:Def P w K mg base 1 "has_mark" ["node","number"] (Vh K)) (DP:Def P w K mg base 1 "parts_in" ["node"] (Uy K)) (DR:Def P w K mg base 1 "pairs_in" ["node"] (Wf K)) (DM:Def P w K mg base 1 "mark" ["name"] Wv) (DG:Def P w K mg base 1 "digit" ["number","level"] Wo)
   (DL:Def P w K mg base 2 "leaf_of" ["pairs"] (Vg K Pl YB)) (DO:Def P w K mg base 1 "fork_of" ["parts"] (WW K)) (DK:DefM P w K mg base 1 C "keep" ["self","node"] (Vi K C))
   (DI:DefM P w K mg base k C "taken_from" nTk (ZaZ K C Pl NS d)):FnOk P w K mg base ZF (k+1) f fd nTk (ZaZ K C Pl NS (d+1)):=by
 refine F.ok scTk (fun vs H Q E h=>?_) (fun cdv A outer s H vs Q E hr h=>?_)
 · obtain ⟨st,ln,dt,nds,tabs,num,lev,r,x,v0,F,rfl,_⟩:=h;rfl
 obtain ⟨st,ln,dt,nds,tabs,num,lev,r,x,v0,Fm,rfl,S,h0,htri,hrl,hlev,hx,hxr,hFx,hlen,hL,q⟩:=h
 obtain ⟨tz,hz⟩:=T.zero
 have hr1:=hr.mono (show 1≤k by omega)
 have hr2:=hr.mono hk
 refine' ⟨?t,?h,?r⟩
 case h =>
   conv=>arg 2;whnf
   with_reducible refine' Ze ?a1 (Ze (Yb ?a2 (Ze ?c1 (Zi ?c2)) ZR) (Ze ?a3 (Ze ?a4 (Ze ?a5 (Ze ?a6 (Ze (Yb ?a7 (Zi ?a8) ZR) (Zi ?a9)))))))
   case a1=>exact Zx (i:=4) scTk.nd rfl (Or.inl rfl) (Zm Zt (ZM (pv 0) rfl) (pv 1) (fun _ _=>rfl))
   case a2=>exact YI (Zz DH hr1 (Zb (pv 4) (Zb (Zz DM hr1 (Zb (pv 3) Za)) Za)))
   case c1=>exact VO (i:=5) (CompOk.of nTa c_Store_taken_from rfl rfl (by decide +kernel)) rfl scTk.nd rfl (Or.inl rfl) (Vy (Zz DR hr1 (Zb (pv 4) Za))) (fun _ _ _ _ _=>ZJ ZaD (Zm (ZjI (K:=K) rfl) (pv 9) Zd (fun _ _=>rfl)) (pv 3) (ZC _)) (fun _ _ _ _ _=>pv 9) rfl
   case c2=>exact Zk (Wc (US (pv 5) (fun _=>rfl)) (ZZ DK TC.cl hr1 (pv 0) (Zb (Zz DL hr2 (Zb (pv 5) Za)) Za)) (Xa rfl hz (v:=.int 0) ⟨_,rfl⟩))
   case a3=>exact Zx (i:=6) scTk.nd rfl (Or.inl rfl) (Ye XZ rfl T.list (by decide +kernel) (Zb (Zz DP hr1 (Zb (pv 4) Za)) Za))
   case a4=>exact Zx (i:=7) scTk.nd rfl (Or.inl rfl) (Zz DG hr1 (Zb (Zz DM hr1 (Zb (pv 3) Za)) (Zb (pv 2) Za)))
   case a5=>exact XA (ZZ DI TC.cl hr (pv 0) (Zb (Zm Zt (pv 6) (pv 7) (fun _ _=>rfl)) (Zb (Zw YC (pv 2) Zd) (Zb (pv 3) Za)))) (ZaG (pv 6) (pv 7) UH)
   case a6=>exact VO (i:=8) (CompOk.of nTa c_Store_taken_from rfl rfl (by decide +kernel)) rfl scTk.nd rfl (Or.inl rfl) (VH (pv 6)) (fun _ _ _ _ _=>ZJ ZaD (pv 9) (Xa rfl hz (v:=.int 0) ⟨_,rfl⟩) (ZC _)) (fun _ _ _ _ _=>pv 9) rfl
   case a7=>exact PW.pt (WQ (ZJ Yh (Zu ZE rfl T.len PySem.boot_len (Zb (pv 8) Za)) Zd (ZC _)) (Wb (US (Zz DR hr1 (Zb (Zm Zt (ZM (pv 0) rfl) (Zm Zt (pv 8) Zd (fun _ _=>rfl)) (fun _ _=>rfl)) Za)) (fun _=>rfl))))
   case a8=>exact Zk (Zm Zt (pv 8) Zd (fun _ _=>rfl))
   case a9=>exact Zk (ZZ DK TC.cl hr1 (pv 0) (Zb (Zz DO hr1 (Zb (pv 6) Za)) Za))
 obtain ⟨n,hn,hbare⟩:=Zae htri
 obtain ⟨as,a,nl,ha,hna⟩:=S.node hn
 obtain ⟨dx,ob⟩:=S.ob
 obtain ⟨tb,htb⟩:=hL.tbl
 have hst:st ∉ [Pl]:=fun z=>by rw [List.mem_singleton.mp z,htb] at ob;cases ob
 have hln:ln ∉ [Pl]:=fun z=>by rw [List.mem_singleton.mp z,htb] at nl;cases nl
 have hdt:dt ∉ [Pl]:=fun z=>by have e:=S.tb;rw [List.mem_singleton.mp z,htb] at e;cases e
 refine ⟨_,rfl,st,C,dx,_,_,rfl,ob,TC.cl,TC.nN,XB ln dt,_,rfl,ln,_,_,_,rfl,rfl,SqL.of nl,Zv (by rw [List.getElem?_map,ha];rfl),?_⟩
 refine ⟨_,rfl,_,rfl,x,rfl,N.len x hx,fun H1 s1=>⟨a,n,Zy x,rfl,hna.tf s1.tf,_,rfl,?_⟩⟩
 rcases ZfR htri hn hx hxr hFx with ⟨ps,rfl,G,hF⟩ | ⟨qs,d',rfl,rfl,hq4,hqs⟩
 · rw [show (Nd.leaf (Zy x) ps).hasM (Zy x)=true from decide_eq_true rfl]
   refine ZK ?_
   refine ⟨_,rfl,a,_,rfl,hna.tf s1.tf,fun pt H2 s2 hpt=>?_⟩
   obtain ⟨o,ts,ept,hod,hlts,hp⟩:=hpt
   have hlts':ts.length=ps.length:=hlts
   have s12:=s1.trans s2
   have hfw:=N.few
   have hgf:=G.few
   refine ⟨pt,rfl,⟨_,.inl (.inr ⟨o,ept⟩)⟩,fun D hD=>?_⟩
   have hD0:H D=none:=by
     cases e:H D with
     | none=>rfl
     | some o=>rw [s12 _ _ e] at hD;cases hD
   have hzl:(ts.zip ps).length=ts.length:=by rw [List.length_zip,hlts',Nat.min_self]
   have hzs:(ts.zip ps).map (·.2)=ps:=List.map_snd_zip (by omega)
   refine ZfB (K:=K) (a:=pt) (xs:=ts.map V.ref) (by rw [List.length_map];exact Nat.le_trans (show ts.length≤64 by omega) (by decide))
     (fun i ys H'=>ys=(((ts.zip ps).take i).filter fun z=>!decide (z.2.1=x)).map (fun z=>V.ref z.1)∧H' D=some (.lst ys)∧Same H2 H') ⟨rfl,Zg,Zp hD _⟩ ?_ ?_ ?_
   · rintro i ys H' ⟨rfl,_,s'⟩
     refine ⟨?_,.inl (.inr ⟨o,s' _ _ ept⟩)⟩
     rw [List.length_map]
     exact Nat.le_trans (List.length_filter_le _ _) (by rw [List.length_take];exact Nat.min_le_left _ _)
   · rintro i v ys H' hi ⟨rfl,hDl,s'⟩
     have hit:i < ts.length:=by have:=(List.getElem?_eq_some_iff.mp hi).1;rwa [List.length_map] at this
     have et:=List.getElem?_eq_getElem hit
     have ep:=List.getElem?_eq_getElem (show i < ps.length by omega)
     generalize ts[i]=ti at et
     generalize ps[i]=pi at ep
     have hv:V.ref ti=v:=by rw [List.getElem?_map,et] at hi;exact Option.some.inj hi
     subst hv
     have ez:(ts.zip ps)[i]?=some (ti,pi):=List.getElem?_zip_eq_some.mpr ⟨et,ep⟩
     have htup:=s' _ _ (hp i ti pi et ep)
     have hts:=take_succ_filter (fun z:Addr×(Str×V)=>!decide (z.2.1=x)) (ts.zip ps) i (ti,pi) ez
     refine ⟨_,rfl,ti,_,_,_,rfl,rfl,SqT.of htup,rfl,_,rfl,rfl,_,rfl,?_⟩
     have edx:(!decide (V.str pi.1=V.str x))=!decide (pi.1=x):=by
       by_cases z:pi.1=x
       · rw [z,decide_eq_true rfl,decide_eq_true rfl]
       · rw [decide_eq_false z,decide_eq_false fun y=>z (V.str.inj y)]
     rw [edx]
     by_cases z:pi.1=x
     · rw [decide_eq_true z]
       refine ZB ⟨?_,hDl,s'⟩
       rw [hts]
       show _=List.map _ (_++if (!decide (pi.1=x))=true then [(ti,pi)] else [])
       rw [decide_eq_true z]
       simp
     · rw [decide_eq_false z]
       refine ZK ⟨_,rfl,hDl,?_,Zg,fun b u e=>by rw [Zh (Zn e hD)];exact s' _ _ e⟩
       rw [hts]
       show _=List.map _ (_++if (!decide (pi.1=x))=true then [(ti,pi)] else [])
       rw [decide_eq_false z]
       simp
   · rintro ys H5 ⟨rfl,hD5,s5⟩
     rw [List.length_map,← hzl,List.take_length] at hD5
     have hlp:((ts.zip ps).filter fun z=>!decide (z.2.1=x)).map (·.2)=Wj ps x:=by
       unfold Wj
       conv=>rhs;rw [← hzs]
       rw [List.filter_map];rfl
     have hlt:((ts.zip ps).filter fun z=>!decide (z.2.1=x)).map (fun z=>V.ref z.1)=(((ts.zip ps).filter fun z=>!decide (z.2.1=x)).map (·.1)).map V.ref:=by rw [List.map_map];rfl
     have s15:Same H H5:=s12.trans s5
     have hPT:PairT H5 (((ts.zip ps).filter fun z=>!decide (z.2.1=x)).map (·.1)) (Wj ps x):=by
       refine ⟨by rw [← hlp,List.length_map,List.length_map],fun i b p e1 e2=>?_⟩
       rw [← hlp,List.getElem?_map] at e2
       rw [List.getElem?_map] at e1
       cases ez:((ts.zip ps).filter fun z=>!decide (z.2.1=x))[i]? with
       | none=>rw [ez] at e1;cases e1
       | some z =>
         rw [ez] at e1 e2
         cases (show some z.1=some b from e1)
         cases (show some z.2=some p from e2)
         obtain ⟨j,hj⟩:=List.mem_iff_getElem?.mp (List.mem_filter.mp (List.mem_of_getElem? ez)).1
         obtain ⟨h1,h2⟩:=List.getElem?_zip_eq_some.mp hj
         exact s5 _ _ (hp j _ _ h1 h2)
     refine ⟨_,rfl,_,.inl ⟨_,SqL.of hD5,rfl⟩,?_⟩
     by_cases hb:Wj ps x=[]
     · have:((ts.zip ps).filter fun z=>!decide (z.2.1=x))=[]:=by
         have:=congrArg List.length hlp
         rw [hb,List.length_map] at this
         exact List.length_eq_zero_iff.mp this
       rw [this]
       exact ZB (q H5 nds 0 (S.keep s15) (NEx.refl _) (by omega) (ZhN d h0 hb hF) (LamAt.same hL s15) (Same.kq s15) s15.tf)
     · have G2:=G.but hb
       have hne:(!(((ts.zip ps).filter fun z=>!decide (z.2.1=x)).map (fun z=>V.ref z.1)).isEmpty)=true:=by
         cases e:((ts.zip ps).filter fun z=>!decide (z.2.1=x)) with
         | nil=>rw [e] at hlp;exact absurd hlp.symm hb
         | cons _ _=>rfl
       rw [hne]
       have S5:=S.keep s15
       obtain ⟨dx5,ob5⟩:=S5.ob
       refine ZK ⟨_,rfl,st,dx5,_,rfl,ob5,ZU ln dt (by decide +kernel) (by decide +kernel),_,rfl,D,_,Wj ps x,rfl,by rw [hD5,hlt],hPT,hb,by have:=G2.few;omega,fun p hp=>N.len _ (G2.sub p hp),LamAt.same hL s15,fun a6 H6 p1 pr g6 L6 perm6 sort6 node6=>?_⟩
       have tb5:H5 Pl=some (.tbl tb):=s15 _ _ htb
       have tf6:TF H5 H6:=g6.tf tb5
       have S6:=S5.kq g6.kq tf6 hst hln hdt
       refine ⟨st,ln,dt,a6,nds,tabs,_,rfl,S6,node6,by omega,fun H7 S7 k7 tf7=>?_⟩
       have nl6:∃ xs,H6 ln=some (.lst xs):=by obtain ⟨as6,e6,_⟩:=S6.nl;exact ⟨_,e6⟩
       have hmk:Zy p1.1=Zy x:=(G2.perm perm6).mrk p1 List.mem_cons_self
       rw [hmk] at S7
       refine q H7 _ nds.length S7 (NEx.app nds _) (by rw [List.length_append];show nds.length+1≤_;omega) ?_ (L6.kq k7 fun b hb=>by rw [List.mem_singleton.mp hb];exact nl6) ?_ ((s15.tf.trans tf6).trans tf7)
       · exact Zir d hxr (by rw [List.getElem?_append_right (Nat.le_refl _),Nat.sub_self];rfl) G2 perm6 hF
       · exact (Same.kq s15).trans ((g6.kq.sub fun b hb=>by simp at hb ⊢;exact .inr hb).trans (k7.sub fun b hb=>by simp at hb ⊢;exact .inl hb))
 · refine ZB ?_
   refine ⟨_,rfl,a,_,rfl,hna.tf s1.tf,fun pt H2 s2 hpt=>⟨pt,_,rfl,.inr hpt,fun rl hrl1=>?_⟩⟩
   have s12:=s1.trans s2
   have hrl0:H rl=none:=by
     cases e:H rl with
     | none=>rfl
     | some o=>rw [s12 _ _ e] at hrl1;cases hrl1
   refine ⟨_,rfl,x,rfl,N.len x hx,fun H3 s3=>⟨_,rfl,Zy x,lev,rfl,N.lo x hx,by omega,?_⟩⟩
   have el3:H3 rl=some (.lst (qs.map iN)):=s3 _ _ Zg
   have s13:Same H H3:=(s12.trans (Zp hrl1 _)).trans s3
   have S3:=S.keep s13
   have hdl:ZV (Zy x) lev < qs.length:=by rw [hq4];exact WM _ _
   have hq1:=List.getElem?_eq_getElem hdl
   generalize qs[ZV (Zy x) lev]=q1 at hq1
   have hat:YG (qs.map iN) (Zy x / 4 ^ lev % 4)=some (iN q1):=by rw [← Wi];exact Zv (by rw [List.getElem?_map,hq1];rfl)
   obtain ⟨dx3,ob3⟩:=S3.ob
   refine ⟨_,rfl,st,dx3,_,rfl,ob3,ZU ln dt (by decide +kernel) (by decide +kernel),_,rfl,_,rfl,rl,_,_,_,rfl,rfl,SqL.of el3,hat,_,rfl,_,_,rfl,rfl,_,rfl,?_⟩
   refine ⟨st,ln,dt,nds,tabs,q1,lev+1,_,x,v0,Fm,rfl,S3,h0,hqs _ _ hq1,Ux hrl (WM _ _),by omega,hx,by rw [WK,hxr,Xv (N.lo x hx)];rfl,hFx,by omega,LamAt.same hL s13,fun H5 nds5 num5 S5 ext5 len5 tri5 L5 kq5 tf5=>?_⟩
   have nrl:rl ∉ [ln,Pl]:=fun z=>by
     rcases List.mem_cons.mp z with z | z
     · rw [z,nl] at hrl0;cases hrl0
     · rw [List.mem_singleton.mp z,htb] at hrl0;cases hrl0
   have el5:=kq5 _ _ nrl el3
   have hix:Ws (qs.map iN).length (Zy x / 4 ^ lev % 4)=some (ZV (Zy x) lev):=by
     rw [← Wi,List.length_map]
     unfold Ws
     rw [if_pos (by omega),if_pos (by omega)]
     rfl
   refine ⟨_,rfl,_,rfl,rl,_,_,_,rfl,rfl,el5,hix,?_⟩
   have tf6:=Zcs (o:=.lst ((qs.map iN).set (ZV (Zy x) lev) (iN num5))) el5
   have k6:Kq [rl] H5 (upd H5 rl (.lst ((qs.map iN).set (ZV (Zy x) lev) (iN num5)))):=ZaN
   have nst:st ∉ [rl]:=fun z=>by rw [← List.mem_singleton.mp z,ob] at hrl0;cases hrl0
   have nln:ln ∉ [rl]:=fun z=>by rw [← List.mem_singleton.mp z,nl] at hrl0;cases hrl0
   have ndt:dt ∉ [rl]:=fun z=>by rw [← List.mem_singleton.mp z,S.tb] at hrl0;cases hrl0
   have S6:=S5.kq k6 tf6 nst nln ndt
   have el6:upd H5 rl (.lst ((qs.map iN).set (ZV (Zy x) lev) (iN num5))) rl=some (.lst ((qs.set (ZV (Zy x) lev) num5).map iN)):=by rw [Zg,List.map_set]
   have L6:=L5.kq k6 fun b hb=>by rw [List.mem_singleton.mp hb];exact ⟨_,el5⟩
   have kh:Kq [ln,Pl] H (upd H5 rl (.lst ((qs.map iN).set (ZV (Zy x) lev) (iN num5)))):=fun b o nb e=>by
     rw [Zh (Zn e hrl0)];exact kq5 _ _ nb (s13 _ _ e)
   generalize upd H5 rl (.lst ((qs.map iN).set (ZV (Zy x) lev) (iN num5)))=H6 at *
   have hps:∀ (i q:Nat),(qs.set (ZV (Zy x) lev) num5)[i]?=some q→Tri NS nds5 (VP Fm x) d' (lev+1) (r+i * 4 ^ lev) q:=fun i q hi=>ZfP N hrl hx hxr hq4 hqs ext5 tri5 (fun y hy=>if_neg hy) i q hi
   have hp4:(qs.set (ZV (Zy x) lev) num5).length=4:=by rw [List.length_set,hq4]
   generalize qs.set (ZV (Zy x) lev) num5=qn at *
   have h05:=ext5 _ _ h0
   have tfh:TF H H6:=(s13.tf.trans tf5).trans tf6
   refine ⟨_,rfl,rl,rfl,⟨_,SqL.of el6⟩,fun D hD=>?_⟩
   refine ZeL (K:=K) (a:=rl) (xs:=qn.map iN) (by rw [List.length_map,hp4];decide)
     (fun i ys H'=>ys=((qn.take i).filter fun p=>!decide (p=0)).map iN∧H' D=some (.lst ys)∧Same H6 H') ⟨rfl,Zg,Zp hD _⟩ ?_ ?_ ?_
   · rintro i ys H' ⟨rfl,_,s'⟩
     refine ⟨?_,SqL.of (s' _ _ el6)⟩
     rw [List.length_map]
     exact Nat.le_trans (List.length_filter_le _ _) (by rw [List.length_take];exact Nat.min_le_left _ _)
   · rintro i v ys H' hi ⟨rfl,hDl,s'⟩
     have hit:i < qn.length:=by have:=(List.getElem?_eq_some_iff.mp hi).1;rwa [List.length_map] at this
     have et:=List.getElem?_eq_getElem hit
     generalize qn[i]=qi at et
     have hv:iN qi=v:=by rw [List.getElem?_map,et] at hi;exact Option.some.inj hi
     subst hv
     have hts:=take_succ_filter (fun p:Nat=>!decide (p=0)) qn i qi et
     refine ⟨_,rfl,rfl,_,rfl,?_⟩
     have edx:(!decide (iN qi=V.int 0))=!decide (qi=0):=by
       by_cases z:qi=0
       · rw [z];rfl
       · rw [decide_eq_false z,decide_eq_false fun y=>z (by have:=V.int.inj y;omega)]
     rw [edx]
     by_cases z:qi=0
     · rw [decide_eq_true z]
       refine ZB ⟨?_,hDl,s'⟩
       rw [hts]
       show _=List.map _ (_++if (!decide (qi=0))=true then [qi] else [])
       rw [decide_eq_true z]
       simp
     · rw [decide_eq_false z]
       refine ZK ⟨_,rfl,hDl,?_,Zg,fun b u e=>by rw [Zh (Zn e hD)];exact s' _ _ e⟩
       rw [hts]
       show _=List.map _ (_++if (!decide (qi=0))=true then [qi] else [])
       rw [decide_eq_false z]
       simp
   · rintro ys H7 ⟨rfl,hD7,s7⟩
     rw [List.length_map,List.take_length] at hD7
     generalize hfl:(qn.filter fun p=>!decide (p=0))=fl at hD7
     have S7:=S6.keep s7
     refine ⟨_,rfl,D,_,rfl,.inl (SqL.of hD7),rfl,_,rfl,?_⟩
     by_cases h1:fl.length=1
     · obtain ⟨q8,rfl⟩:∃ q8,fl=[q8]:=by
         cases fl with
         | nil=>cases h1
         | cons b t=>cases t with
           | nil=>exact ⟨b,rfl⟩
           | cons _ _=>simp at h1
       obtain ⟨i8,hi8,hq80,_⟩:=Zbc hfl
       obtain ⟨n8,hn8,_⟩:=Zae (hps i8 q8 hi8)
       obtain ⟨as8,a8,nl8,ha8,hna8⟩:=S7.node hn8
       obtain ⟨dx8,ob8⟩:=S7.ob
       refine ZK ⟨_,rfl,st,C,dx8,_,_,rfl,ob8,TC.cl,TC.nN,XB ln dt,_,rfl,D,_,_,_,rfl,rfl,SqL.of hD7,(show YG ([q8].map iN) ((0:Nat):Int)=some (iN q8) from Zv rfl),ln,_,_,_,rfl,rfl,SqL.of nl8,Zv (by rw [List.getElem?_map,ha8];rfl),a8,n8,rfl,hna8,fun pt9 H9 s9 hpt9=>?_⟩
       obtain ⟨o9,ts9,ept9,_,hl9,_⟩:=hpt9
       refine ⟨_,.inr (.inl ⟨_,.inl (.inr ⟨o9,ept9⟩),rfl⟩),?_⟩
       have s79:=s7.trans s9
       cases n8 with
       | leaf m8 ps8 =>
         have hne:(!(ts9.map V.ref).isEmpty)=true:=by
           cases ts9 with
           | nil =>
             have hE:TriE NS nds5 (VP Fm x) (lev+1) (r+i8 * 4 ^ lev) q8:=by
               have:=hps i8 q8 hi8
               cases d' with
               | zero=>exact this
               | succ d' =>
                 rcases this with h | ⟨qs',h,_⟩
                 · exact h
                 · rw [hn8] at h;cases h
             rcases hE with ⟨z,_⟩ | ⟨m',ps',e,G,_⟩
             · exact absurd z hq80
             · rw [hn8] at e;cases e
               exact absurd (List.length_eq_zero_iff.mp (show ps8.length=0 from hl9.symm)) G.ne
           | cons _ _=>rfl
         rw [hne]
         refine ZK ⟨_,rfl,D,_,_,_,rfl,rfl,SqL.of (s9 _ _ hD7),(show YG ([q8].map iN) ((0:Nat):Int)=some (iN q8) from Zv rfl),?_⟩
         exact q H9 nds5 q8 (S6.keep s79) ext5 (by omega) (Zld N h05 hrl hp4 hps hfl hn8) (LamAt.same L6 s79) (kh.trans (Same.kq s79)) (tfh.trans s79.tf)
       | bare =>
         rw [List.length_eq_zero_iff.mp (show ts9.length=0 from hl9)]
         refine ZB ?_
         obtain ⟨dxA,obA⟩:=(S6.keep s79).ob
         refine ⟨_,rfl,st,dxA,_,rfl,obA,ZU ln dt (by decide +kernel) (by decide +kernel),_,rfl,rl,qn,rfl,s79 _ _ el6,hp4,fun aB HB sB nodeB=>?_⟩
         have SB:=(S6.keep s79).keep sB
         refine ⟨st,ln,dt,aB,nds5,tabs,_,rfl,SB,nodeB,by omega,fun HC SC kC tfC=>?_⟩
         have nlB:∃ xs,HB ln=some (.lst xs):=by obtain ⟨asB,eB,_⟩:=SB.nl;exact ⟨_,eB⟩
         refine q HC _ nds5.length SC (ext5.trans (NEx.app nds5 _)) (by rw [List.length_append];show nds5.length+1≤_;omega) ?_ ((LamAt.same (LamAt.same L6 s79) sB).kq kC fun b hb=>by rw [List.mem_singleton.mp hb];exact nlB) ?_ (((tfh.trans s79.tf).trans sB.tf).trans tfC)
         · exact Zal (by rw [List.getElem?_append_right (Nat.le_refl _),Nat.sub_self];rfl) hp4 fun i q hi=>Tri.mono d' (hps i q hi) (NEx.app nds5 _)
         · exact ((kh.trans (Same.kq s79)).trans (Same.kq sB)).trans (kC.sub fun b hb=>by simp at hb ⊢;exact .inl hb)
       | fork qs8 =>
         rw [List.length_eq_zero_iff.mp (show ts9.length=0 from hl9)]
         refine ZB ?_
         obtain ⟨dxA,obA⟩:=(S6.keep s79).ob
         refine ⟨_,rfl,st,dxA,_,rfl,obA,ZU ln dt (by decide +kernel) (by decide +kernel),_,rfl,rl,qn,rfl,s79 _ _ el6,hp4,fun aB HB sB nodeB=>?_⟩
         have SB:=(S6.keep s79).keep sB
         refine ⟨st,ln,dt,aB,nds5,tabs,_,rfl,SB,nodeB,by omega,fun HC SC kC tfC=>?_⟩
         have nlB:∃ xs,HB ln=some (.lst xs):=by obtain ⟨asB,eB,_⟩:=SB.nl;exact ⟨_,eB⟩
         refine q HC _ nds5.length SC (ext5.trans (NEx.app nds5 _)) (by rw [List.length_append];show nds5.length+1≤_;omega) ?_ ((LamAt.same (LamAt.same L6 s79) sB).kq kC fun b hb=>by rw [List.mem_singleton.mp hb];exact nlB) ?_ (((tfh.trans s79.tf).trans sB.tf).trans tfC)
         · exact Zal (by rw [List.getElem?_append_right (Nat.le_refl _),Nat.sub_self];rfl) hp4 fun i q hi=>Tri.mono d' (hps i q hi) (NEx.app nds5 _)
         · exact ((kh.trans (Same.kq s79)).trans (Same.kq sB)).trans (kC.sub fun b hb=>by simp at hb ⊢;exact .inl hb)
     · have hd1:decide (V.int (((fl.map iN).length:Nat):Int)=V.int 1)=false:=decide_eq_false fun z=>h1 (by have:=V.int.inj z;rw [List.length_map] at this;omega)
       rw [hd1]
       have s79:=s7
       refine ZB (ZB ?_)
       obtain ⟨dxA,obA⟩:=(S6.keep s79).ob
       refine ⟨_,rfl,st,dxA,_,rfl,obA,ZU ln dt (by decide +kernel) (by decide +kernel),_,rfl,rl,qn,rfl,s79 _ _ el6,hp4,fun aB HB sB nodeB=>?_⟩
       have SB:=(S6.keep s79).keep sB
       refine ⟨st,ln,dt,aB,nds5,tabs,_,rfl,SB,nodeB,by omega,fun HC SC kC tfC=>?_⟩
       have nlB:∃ xs,HB ln=some (.lst xs):=by obtain ⟨asB,eB,_⟩:=SB.nl;exact ⟨_,eB⟩
       refine q HC _ nds5.length SC (ext5.trans (NEx.app nds5 _)) (by rw [List.length_append];show nds5.length+1≤_;omega) ?_ ((LamAt.same (LamAt.same L6 s79) sB).kq kC fun b hb=>by rw [List.mem_singleton.mp hb];exact nlB) ?_ (((tfh.trans s79.tf).trans sB.tf).trans tfC)
       · exact Zal (by rw [List.getElem?_append_right (Nat.le_refl _),Nat.sub_self];rfl) hp4 fun i q hi=>Tri.mono d' (hps i q hi) (NEx.app nds5 _)
       · exact ((kh.trans (Same.kq s79)).trans (Same.kq sB)).trans (kC.sub fun b hb=>by simp at hb ⊢;exact .inl hb)
theorem Zer {f:Addr}{fd:FuncData}(N:Yv NS)(F:Fun K "taken_from" "Store.taken_from" c_Store_taken_from f fd)(T:Txt K mg)(TC:Xm K C)
   (DH:Def P w K mg base 1 "has_mark" ["node","number"] (Vh K)) (DP:Def P w K mg base 1 "parts_in" ["node"] (Uy K)) (DR:Def P w K mg base 1 "pairs_in" ["node"] (Wf K)) (DM:Def P w K mg base 1 "mark" ["name"] Wv) (DG:Def P w K mg base 1 "digit" ["number","level"] Wo)
   (DL:Def P w K mg base 2 "leaf_of" ["pairs"] (Vg K Pl YB)) (DO:Def P w K mg base 1 "fork_of" ["parts"] (WW K)) (DK:DefM P w K mg base 1 C "keep" ["self","node"] (Vi K C))
   (b:Binds K fd nTk []) (mt:VA K C "taken_from" f):∀ d,FnOk P w K mg base ZF (2+d) f fd nTk (ZaZ K C Pl NS d)
 | 0=>F.ok scTk (fun _ _ _ _ h=>h.elim) (fun _ _ _ _ _ _ _ _ _ h=>h.elim)
 | d+1=>Zkz N (Nat.le_add_right 2 d) F T TC DH DP DR DM DG DL DO DK ⟨f,fd,Zer N F T TC DH DP DR DM DG DL DO DK b mt d,b,mt⟩
def spWo (K:PySem.W.Frag)(C Pl:Addr)(NS:List Str):Sp:=fun vs H Q _=>∃(st ln dt:Addr)(nds:List Nd)(tabs:List (Zl×V))(t:Nat)(x:Str)(F:Str→Option V),vs=[.ref st,iN t,.str x]∧StoreAt K C st ln dt H nds tabs∧nds[0]?=some .bare∧(ZQ tabs (Sum.inl (t:Int))).isSome=true∧Tri NS nds F 5 0 0 t∧x∈NS∧(∀ u,F x=some u→ValV u)∧nds.length+6≤100000∧tabs.length≤100000∧LamAt H Pl YB Xq ∧
 ∀ (H':Hp) (nds':List Nd) (tabs':List (Zl×V)) (t':Nat),StoreAt K C st ln dt H' nds' tabs'→NEx nds nds'→nds'.length≤nds.length+6→tabs'.length≤tabs.length+1→(∀ k,(ZQ tabs k).isSome=true→(ZQ tabs' k).isSome=true)→(ZQ tabs' (Sum.inl (t':Int))).isSome=true→Tri NS nds' (VP F x) 5 0 0 t'→LamAt H' Pl YB Xq→Kq [ln,dt,Pl] H H'→TF H H'→Q (iN t') H'
theorem scWo:Zq ["self","table","name"] ["self","table","name"] (Zj c_Store_without):=⟨rfl,rfl,rfl,by decide +kernel,rfl,by decide +kernel,by decide +kernel⟩
theorem Zmy {f:Addr}{fd:FuncData}(N:Yv NS)(F:Fun K "without" "Store.without" c_Store_without f fd)(TC:Xm K C)(DLk:DefM P w K mg base 3 C "looked" ["self","table","name"] (Zad K C))
   (DAs:DefM P w K mg base 1 C "as_table" ["self","number"] (Zfm K C)) (DI:DefM P w K mg base 8 C "taken_from" nTk (ZaZ K C Pl NS 6)):FnOk P w K mg base ZF 9 f fd ["self","table","name"] (spWo K C Pl NS):=by
 refine F.ok scWo (fun vs H Q E h=>?_) (fun cdv A outer s H vs Q E hr h=>?_)
 · obtain ⟨st,ln,dt,nds,tabs,t,x,F,rfl,_⟩:=h;rfl
 obtain ⟨st,ln,dt,nds,tabs,t,x,Fm,rfl,S,h0,htab,htri,hx,hFv,hlen,htl,hL,q⟩:=h
 have hr1:=hr.mono (show 1≤8 by decide)
 have hr3:=hr.mono (show 3≤8 by decide)
 refine' ⟨?t,?h,?r⟩
 case h =>
   conv=>arg 2;whnf
   with_reducible refine' Ze (Yb ?a1 (Zi ?a2) ZR) (Zi ?a3)
   case a1=>exact WO (Zau (ZZ DLk TC.cl hr3 (pv 0) (Zb (pv 1) (Zb (pv 2) Za))))
   case a2=>exact Zk (pv 1)
   case a3=>exact Zk (ZZ DAs TC.cl hr1 (pv 0) (Zb (ZZ DI TC.cl hr (pv 0) (Zb (pv 1) (Zb Zd (Zb (pv 2) Za)))) Za))
 obtain ⟨dx,ob⟩:=S.ob
 obtain ⟨ws,e,n,e1,e2,e3,e4,e5⟩:=ZaO N htri hx
 refine ⟨_,rfl,st,dx,_,rfl,ob,ZU ln dt (by decide +kernel) (by decide +kernel),_,rfl,_,rfl,st,ln,dt,nds,tabs,t,x,6,ws,e,n,rfl,S,htab,N.len x hx,N.lo x hx,by decide,e1,e2,e3,e4,fun H1 s1=>?_⟩
 rw [e5]
 refine ⟨_,rfl,?_⟩
 have S1:=S.keep s1
 have hL1:=LamAt.same hL s1
 cases eF:Fm x with
 | none =>
   refine ZK ⟨_,rfl,q H1 nds tabs t S1 (NEx.refl _) (by omega) (by omega) (fun _ h=>h) htab (Tri.congr 5 (by decide) htri fun y _ _=>?_) hL1 (Same.kq s1) s1.tf⟩
   unfold VP
   by_cases z:y=x
   · rw [if_pos z,z,eF]
   · rw [if_neg z]
 | some u =>
   have hc:decide ((some u).getD .non=V.non)=false:=decide_eq_false (hFv u eF).ne
   rw [hc]
   obtain ⟨dx1,ob1⟩:=S1.ob
   refine ZB ⟨_,rfl,st,dx1,_,rfl,ob1,ZU ln dt (by decide +kernel) (by decide +kernel),_,rfl,st,dx1,_,rfl,ob1,ZU ln dt (by decide +kernel) (by decide +kernel),_,rfl,_,rfl,?_⟩
   refine ⟨st,ln,dt,nds,tabs,t,0,0,x,u,Fm,rfl,S1,h0,htri,by decide,rfl,hx,by rw [Nat.pow_zero,Nat.mod_one],eF,hlen,hL1,fun H2 nds2 num2 S2 ext2 len2 tri2 L2' kq2 tf2=>?_⟩
   refine ⟨st,ln,dt,nds2,tabs,num2,rfl,S2,by omega,fun H3 S3 k3 tf3=>?_⟩
   refine q H3 nds2 _ num2 S3 ext2 len2 (XC _ _ _) (fun k hk=>?_) (by rw [WS,if_pos rfl];rfl) tri2 ?_ ?_ ((s1.tf.trans tf2).trans tf3)
   · rw [WS]
     by_cases z:k=Sum.inl (num2:Int)
     · rw [if_pos z];rfl
     · rw [if_neg z];exact hk
   · have hdl:∀ b∈[dt],∃ xs,H2 b=some (.dK xs):=fun b hb=>by rw [List.mem_singleton.mp hb];exact ⟨_,S2.tb⟩
     rcases L2' with h | ⟨c,h,h2⟩
     · exact .inl (k3 _ _ (fun z=>by obtain ⟨_,e⟩:=hdl _ z;rw [h] at e;cases e) h)
     · exact .inr ⟨c,k3 _ _ (fun z=>by obtain ⟨_,e⟩:=hdl _ z;rw [h] at e;cases e) h,k3 _ _ (fun z=>by obtain ⟨_,e⟩:=hdl _ z;rw [h2] at e;cases e) h2⟩
   · exact ((Same.kq s1).trans (kq2.sub fun b hb=>by simp at hb ⊢;rcases hb with z | z;exact .inl z;exact .inr (.inr z))).trans (k3.sub fun b hb=>by simp at hb ⊢;exact .inr (.inl hb))
end
end K25
set_option maxHeartbeats 2000000
namespace L2
open PySem PySem.Spec PyProof.Rows
def Zcw (J:It)(g:TG)(tc:TT)(te:TE)(σ:St)(D:Addr)(Q:VK)(H1:Hp):Prop :=
 ∃ W : Nat→Nat→List V→Hp→Prop,(∃ m,W 0 m [] (upd H1 D (.lst [])))∧∀ i m ys H2,W i m ys H2 →
   (J.stop i H2∧Q (.ref D) H2)∨(J.go i H2∧∃ (N:VK) (M:Hp→Prop),(∀ y H4,N y H4→H4 D=some (.lst ys)∧ys.length < sizeLine∧∃ m',m' < m∧W (i+1) m' (ys++[y]) (upd H4 D (.lst (ys++[y]))))∧(∀ H4,M H4→∃ m',m' < m∧W (i+1) m' ys H4) ∧
     ∀ wa wb v H3,J.yld i H2 v H3→g v (σ++[wa,wb]) H3 fun σ' H'=>(∃ wa wb,σ'=σ++[wa,wb])∧tc σ' H' fun b H4=>if b=true then te σ' H4 N else M H4)
def Zjc (wi:TI)(g:TG)(tc:TT)(te:TE):TE:=fun σ H Q=>wi σ H fun J H1=>∀ D,H1 D=none→Zcw J g tc te σ D Q H1
section
variable {X:Cx}{elt iter tg cnd:Expr}{xa xb:Str}{pos:Pos}{scope:Scope}{wi:TI}{te:TE}{tc:TT}{g:TG}
theorem Zcq {pins:List (Addr×Obj)}{σ:St}{H2:Hp}{s₂:Shared}{J:It}{fp:List Addr}{it:Addr}{tn:Nat→Heap→Prop}{cl:List (Str×Addr)}{E:Value→Shared→Prop}{Q:VK}{RR:Value→Addr→Result→Shared→Prop}
   (O:CompOkT X scope xa xb) (hc:X.calm=true) (cl1:∀ y c,cl.lookup y=some c→X.env.cells.lookup y=some c) (cl2:∀ y∈scope.names,y.2=.free→cl.lookup y.1≠none)
   (hg:∀ cl C s₀ H₀ fp,PG (ZT X scope xa xb cl C s₀ H₀ fp) tg g) (hcn:∀ cl C s₀ H₀ fp,PT (ZT X scope xa xb cl C s₀ H₀ fp) cnd tc) (he:∀ cl C s₀ H₀ fp,PE (ZT X scope xa xb cl C s₀ H₀ fp) elt te)
   (I2:Inv X pins σ H2 s₂) (T:Um X.prog X.w X.K tg J fp it tn) (st:tn 0 s₂.heap) (f2:∀ b∈fp,Yo X pins H2 b)
   (h:∀ D,H2 D=none→Zcw J g tc te σ D Q H2)
   (hRR:∀ D C H' s',Inv X pins σ H' s'→Yo X pins H' C→(∃ m,s'.heap.Ns C m)→Q (.ref D) H'→RR (.ref D) C (.ok .next) s') :
   wpAny (model X.prog X.w) X.A (newList []) (fun acc s₃=>wpAny (model X.prog X.w) X.A (newFunctionEnv scope X.env.globals cl [] X.env.qual none .none (some X.env)) (fun cenv s₄ =>
     codeAny (model X.prog X.w) X.A (.compStart (.ListComp elt [⟨tg,iter,[cnd],0⟩] scope pos) 0 (.ref it) acc { cenv with scope:=relabel scope X.env }) (RR acc cenv.locals) s₄) E s₃) E s₂:=by
 have hD:H2 s₂.heap.objs.size=none:=I2.hok.fresh (Nat.le_refl _)
 refine wpAny_newObj_type ?_
 have I3:Inv X pins σ (upd H2 s₂.heap.objs.size (.lst [])) { s₂ with heap:=s₂.heap.push { cls:=.type "list",data:=.seq ([]:List Value).toArray } } :=
   I2.laid (t':=s₂.toks) (fun b u e=>Heap.get?_push_of_some _ e) (Nat.le_refl _) ⟨Nat.zero_le _,[],_,.nil,Heap.get?_push_size _ rfl⟩
 have f3:∀ b∈fp,Yo X pins (upd H2 s₂.heap.objs.size (.lst [])) b:=fun b hb=>by
   obtain ⟨g0,g1⟩:=f2 b hb
   obtain ⟨o,e,_⟩:=T.obj 0 _ st b hb
   exact ⟨by rw [Zh (Nat.ne_of_lt (Heap.lt_size e))];exact g0,g1⟩
 have st3:tn 0 (s₂.heap.push { cls:=.type "list",data:=.seq ([]:List Value).toArray }):=T.keep _ _ _ st fun b hb o e=>Heap.get?_push_of_some _ e
 obtain ⟨W,⟨m0,w0⟩,turn⟩:=h _ hD
 generalize hDe:s₂.heap.objs.size=D at I3 f3 w0 turn ⊢
 generalize hH3:upd H2 D (.lst [])=H3 at I3 f3 w0 turn ⊢
 generalize hs3:({ s₂ with heap:=s₂.heap.push { cls:=.type "list",data:=.seq ([]:List Value).toArray } }:Shared)=s₃ at I3
 have st3':tn 0 s₃.heap:=by rw [← hs3];exact st3
 have hobj:∀ b∈fp,b < s₃.heap.objs.size:=fun b hb=>by
   obtain ⟨o,e,_⟩:=T.obj 0 _ st3' b hb
   exact Heap.lt_size e
 refine wpAny_newFunctionEnv O.cell (by intro y hy;simp at hy) (fun h₁ hns₁ hsb₁=>?_) O.kind
 have old:∀ b o,s₃.heap.get? b=some o→h₁.get? b=some o:=fun b o e=>hsb₁.extBut b o (Nat.ne_of_lt (Heap.lt_size e)) (Heap.get?_push_of_some _ e)
 generalize hs4:({ s₃ with heap:=h₁,toks:=s₃.toks+([]:List (Str×Value)).length }:Shared)=s₄
 have h4:s₄.heap=h₁:=by rw [← hs4]
 have hX:∀ C,Yo X pins C s₃.heap.objs.size→True:=fun _ _=>trivial
 have ok':(ZT X scope xa xb cl s₃.heap.objs.size s₃ H3 fp).Ok:=by
   refine ⟨I3.ok.mod,O.kind,I3.ok.glob,I3.ok.blt,Nat.le_refl _,?_,?_,?_,I3.ok.hd,I3.ok.frames,.inl rfl,?_,I3.bs,Nat.le_trans I3.ok.bsz I3.sz,?_,?_,I3.stack,I3.stkFree⟩
   · exact fun y z c e1 e2=>I3.ok.inj y z c (cl1 y c e1) (cl1 z c e2)
   · intro y hk
     have hf:scope.names.lookup y=some .free:=by
       rcases hk with hk | hk
       · rcases Zs O.cell hk with q | q
         · exact absurd rfl (O.cell _ (mem_of_lookup q))
         · exact q.1
       · rcases Zs O.cell hk with q | q
         · exact q
         · cases q.2
     have:=cl2 _ (mem_of_lookup hf) rfl
     cases e:cl.lookup y with
     | none=>exact absurd e this
     | some c=>exact ⟨c,e⟩
   · intro y c hf;cases hf
   · intro b hb
     obtain ⟨g0,g1,g2,g3,g4,g5⟩:=f3 b hb
     exact ⟨Nat.ne_of_lt (hobj b hb),fun y c e=>g4 y c (cl1 y c e)⟩
   · intro b o e hb
     obtain ⟨g0,g1,g2,g3,g4,g5⟩:=f3 b hb
     rcases g3 with g3 | g3
     · exact I3.ok.noex b o e g3
     · exact absurd (Heap.lt_size e) (Nat.not_lt.mpr (Nat.le_trans I3.ok.bsz g3))
   · intro b hb hs
     obtain ⟨g0,g1,g2,g3,g4,g5⟩:=f3 b hb
     rcases List.mem_cons.mp (I3.stkSub b hs) with e | e
     · exact g1 e
     · exact g2 e
 have I4 : Inv (ZT X scope xa xb cl s₃.heap.objs.size s₃ H3 fp) [] (σ++[none,none]) H3 s₄:=by
   obtain ⟨m,hm,hl⟩:=I3.loc
   refine ⟨ok',by rw [← hs4];rfl,by rw [← hs4];exact I3.bare,by rw [h4];exact Un.kept old,⟨_,by rw [h4];exact hns₁,?_⟩,?_,I3.hok.fresh (Nat.le_refl _),fun y c e=>I3.freeC y c (cl1 y c e),?_,by rw [h4];exact I3.hok.kept old,?_⟩
   · intro i y v e1 e2 e3
     have hlt:i < σ.length:=by
       rcases Nat.lt_or_ge i σ.length with z | z
       · exact z
       · rw [List.getElem?_append_right z] at e2
         have:=List.mem_of_getElem? e2
         simp at this
     rw [List.getElem?_append_left hlt] at e2
     have hsm:∃ k,scope.names.lookup y=some k:=by
       rcases e3 with hk | hk | hk
       · rcases Zs O.cell hk with q | q
         · exact ⟨_,q⟩
         · exact ⟨_,q.1⟩
       · rcases Zs O.cell hk with q | q
         · exact ⟨_,q⟩
         · exact ⟨_,q.1⟩
       · rcases Zs O.cell hk with q | q
         · exact ⟨_,q⟩
         · exact ⟨_,q.1⟩
     obtain ⟨e1',hyx⟩:X.N[i]?=some y∧¬ (y=xa∨y=xb):=by
       have e1:(XY X.N xa xb++[xa,xb])[i]?=some y:=e1
       rw [List.getElem?_append_left (by rw [UX,← I3.len];exact hlt)] at e1
       rcases ZcV e1 with z | z
       · exact z
       · obtain ⟨k,hk⟩:=hsm
         rw [z,O.noh] at hk;cases hk
     have hy:y∈X.N:=List.mem_of_getElem? e1'
     have hf:scope.names.lookup y=some .free:=by
       rcases e3 with hk | hk | hk
       · rcases Zs O.cell hk with q | q
         · exact absurd q (O.own y hy hyx)
         · exact q.1
       · rcases Zs O.cell hk with q | q
         · exact absurd rfl (O.cell _ (mem_of_lookup q))
         · exact q.1
       · rcases Zs O.cell hk with q | q
         · exact q
         · exact q.1
     have hk:=O.clos _ (mem_of_lookup hf) rfl
     have hv:Vis X.env.scope y:=by rcases hk with z | z;exact .inr (.inl z);exact .inr (.inr z)
     obtain ⟨u,ru,lu⟩:=hl i y v e1' e2 hv
     refine ⟨u,ru,?_⟩
     have hkc:(compEnvC scope cl s₃.heap.objs.size X.env).kindOf y=some .cell∨(compEnvC scope cl s₃.heap.objs.size X.env).kindOf y=some .free:=by
       rcases e3 with q | q | q
       · rcases Zs O.cell q with z | z
         · exact absurd z (O.own y hy hyx)
         · cases z.2
       · exact .inl q
       · exact .inr q
     rcases lu with ⟨q,_⟩ | ⟨_,c,hcl,hcc⟩
     · rcases hk with z | z<;>(rw [q] at z;cases z)
     · refine .inr ⟨hkc,?_⟩
       cases e:cl.lookup y with
       | none=>exact absurd e (cl2 _ (mem_of_lookup hf) rfl)
       | some c' =>
         have:=cl1 y c' e
         rw [hcl] at this
         cases this
         refine ⟨c,e,?_⟩
         rw [h4]
         obtain ⟨oc,ho,hd⟩:=hcc
         exact ⟨oc,old _ _ ho,hd⟩
   · intro y c e
     obtain ⟨v,oc,ho,hd⟩:=I3.cell y c (cl1 y c e)
     exact ⟨v,oc,by rw [h4];exact old _ _ ho,hd⟩
   · intro p hp;cases hp
   · show (σ++[none,none]).length=(XY X.N xa xb++[xa,xb]).length
     rw [List.length_append,List.length_append,UX,I3.len];rfl
 have st4:tn 0 s₄.heap:=by rw [h4];exact T.keep _ _ _ st3' fun b hb o e=>old b o e
 have fpok:∀ {H':Hp},(∀ b∈fp,H' b=none)→∀ b∈fp,Yo (ZT X scope xa xb cl s₃.heap.objs.size s₃ H3 fp) [] H' b:=fun hn b hb=>by
   obtain ⟨g0,g1,g2,g3,g4,g5⟩:=f3 b hb
   refine ⟨hn b hb,Nat.ne_of_lt (hobj b hb),ok'.exfs b hb,.inl hb,fun y c e=>g4 y c (cl1 y c e),?_⟩
   intro p hp;cases hp
 have loop:codeAny (model X.prog X.w) X.A (.compLoop (.ListComp elt [⟨tg,iter,[cnd],0⟩] scope pos) 0 (.ref it) (.ref D) (compEnvC scope cl s₃.heap.objs.size X.env)) (RR (.ref D) s₃.heap.objs.size) s₄:=by
   refine XU (fun n s'=>∃ i ys wa wb H',Inv (ZT X scope xa xb cl s₃.heap.objs.size s₃ H3 fp) [] (σ++[wa,wb]) H' s'∧tn i s'.heap∧(∀ b∈fp,H' b=none)∧W i n ys H') ?_ m0 ⟨0,[],none,none,H3,I4,st4,fun b hb=>(f3 b hb).1,w0⟩
   rintro n s5 ⟨i,ys,wa,wb,H5,I5,st5,fr5,w5⟩
   rcases turn i n ys H5 w5 with ⟨stop,q⟩ | ⟨go,N,M,hN,hM,step⟩
   · refine Zr (T.done (ZT X scope xa xb cl s₃.heap.objs.size s₃ H3 fp) rfl rfl rfl hc i [] s5 _ H5 _ I5 (fpok fr5) st5 stop) fun r s6 ⟨hr,I6⟩=>?_
     subst hr
     obtain ⟨m6,hn6,_⟩:=I6.loc
     have IX:Inv X pins σ H5 s6:=I3.call' (ch:=fp) I6.os I6.base I6.hok I6.bare fun b hb=>by
       obtain ⟨g0,g1,g2,g3,g4,g5⟩:=f3 b hb
       exact ⟨g3,g1,g4,g5⟩
     exact hRR D _ H5 s6 IX (I3.fpOk (Nat.le_refl _) I6.free) ⟨m6,hn6⟩ q
   · refine Zr (T.item (ZT X scope xa xb cl s₃.heap.objs.size s₃ H3 fp) rfl rfl rfl hc i [] s5 _ H5 _ I5 (fpok fr5) st5 go) fun r s6 ⟨u,hr,h6⟩=>?_
     subst hr
     refine Zr h6 fun _ s7 ⟨v,H7,I7,r7,y7,st7,fr7⟩=>?_
     have I7':=I7.pinned (fpok fr7) (T.obj _ _ st7)
     refine Zr (hg cl s₃.heap.objs.size s₃ H3 fp _ s7 _ H7 v u _ I7' r7 (step wa wb v H7 y7)) fun _ s8 ⟨σ8,H8,I8,⟨wa',wb',e8⟩,q8⟩=>?_
     subst e8
     refine Zr (hcn cl s₃.heap.objs.size s₃ H3 fp _ s8 _ H8 _ I8 q8) fun bb s8b ⟨H8b,I8b,q8b⟩=>?_
     cases bb with
     | false =>
       obtain ⟨m',hm',w9⟩:=hM H8b q8b
       refine ⟨m',hm',i+1,ys,wa',wb',_,I8b.unpinned (pins:=[]),T.keep _ _ _ st7 fun b hb o e=>(I8b.pin (b,o) (List.mem_append_right _ (List.mem_append_right _ (Ya hb e)))).1,fun b hb=>?_,w9⟩
       obtain ⟨o,e,d⟩:=T.obj _ _ st7 b hb
       exact (I8b.pin (b,o) (List.mem_append_right _ (List.mem_append_right _ (Ya hb e)))).2.1
     | true =>
       refine Zr (he cl s₃.heap.objs.size s₃ H3 fp _ s8b _ H8b _ I8b q8b) fun uy s9 ⟨y,H9,I9,r9,n9⟩=>?_
       obtain ⟨hl9,hz9,m',hm',w9⟩:=hN y H9 n9
       refine Zr (Yf (X:=ZT X scope xa xb cl s₃.heap.objs.size s₃ H3 fp) _ s9 _ H9 (.ref D) [y] (.ref D) [uy] (fun v H'=>H'=upd H9 D (.lst (ys++[y]))) I9 rfl (.cons r9 .nil) ⟨D,ys,y,rfl,rfl,hl9,hz9,rfl⟩) fun _ s10 ⟨_,H10,I10,_,e10⟩=>?_
       subst e10
       refine ⟨m',hm',i+1,ys++[y],wa',wb',_,I10.unpinned (pins:=[]),T.keep _ _ _ st7 fun b hb o e=>(I10.pin (b,o) (List.mem_append_right _ (List.mem_append_right _ (Ya hb e)))).1,fun b hb=>?_,w9⟩
       obtain ⟨o,e,d⟩:=T.obj _ _ st7 b hb
       exact (I10.pin (b,o) (List.mem_append_right _ (List.mem_append_right _ (Ya hb e)))).2.1
 exact codeAny_compStart_list loop (T.self _ 0 _ _ _ st4 loop)
theorem ZgI (O:CompOkT X scope xa xb)(hc:X.calm=true)(hi:PI X tg iter wi)(hg:∀ cl C s₀ H₀ fp,PG (ZT X scope xa xb cl C s₀ H₀ fp) tg g)(hcn:∀ cl C s₀ H₀ fp,PT (ZT X scope xa xb cl C s₀ H₀ fp) cnd tc)(he:∀ cl C s₀ H₀ fp,PE (ZT X scope xa xb cl C s₀ H₀ fp) elt te)
   (hs:∀ v,foldedSetIterable iter X.env v=pure v:=by intro _;rfl):PE X (.ListComp elt [⟨tg,iter,[cnd],0⟩] scope pos) (Zjc wi g tc te):=by
 intro pins s σ H Q I h
 obtain ⟨cl,hcl,cl1,cl2⟩:=XX (scope:=scope) (env:=X.env) fun y hy hf=>I.ok.has _ (O.clos y hy hf)
 rw [eval_ListComp]
 refine wpAny_comprehension_free (use:=none) rfl hs hcl O.kind O.names (Zr (hi pins s σ H _ I h) fun v s1 h1=>Zr h1 fun itv s2 h2=>?_)
 obtain ⟨it,fp,tn,J,H2,e,I2,T,st2,f2,q⟩:=h2
 subst e
 refine Zcq (RR:=fun acc C=>compPost (model X.prog X.w) X.A X.xe none (EP X pins σ Q) acc C) O hc cl1 cl2 hg hcn he I2 T st2 f2 q ?_
 intro D C H' s' I' ⟨g0,g1,g2,g3,g4,g5⟩ ⟨m,hm⟩ hq
 exact ⟨m,hm,fun h' hs'=>⟨.ref D,H',I'.turned (t':=s'.toks) (fun b o hb e=>(hs'.2 b hb).trans e) g0 g1 g3 g4 g5,rfl,hq⟩⟩
end
end L2
set_option maxHeartbeats 2000000
namespace L2
open PySem PySem.Spec PyProof.Rows
theorem Sep.nest {a:Addr}{Δ:Rs}:∀{Γ:Rs}{H h:Hp},Same h H→Sep Γ h→Sep Δ (Ua H h)→Sep (Γ++Δ) H
 | [],_,_,_,_,S=>S.mono ZaW
 | (b,T)::Γ,H,h,l,⟨g,m,t,G⟩,S=>by
   refine ⟨g,m.trans l,t,Sep.nest (a:=a) (h:=Ua h g) (ZcC l) G (S.mono fun c o e=>?_)⟩
   obtain ⟨e1,e2⟩:=cut_some.mp e
   refine cut_some.mpr ⟨cut_some.mpr ⟨e1,fun u q=>e2 u (m _ _ q)⟩,fun u q=>e2 u (cut_some.mp q).1⟩
theorem Sep.pack' {Δ:Rs}:∀{Γ:Rs}{H:Hp},Sep (Γ++Δ) H→∃ h,Same h H∧Sep Γ h∧Sep Δ (Ua H h)
 | [],H,S=>⟨fun _=>none,fun b o e=>(by cases e),trivial,S.mono fun b o e=>cut_some.mpr ⟨e,fun u q=>(by cases q)⟩⟩
 | (b,T)::Γ,H,⟨g,m,t,S⟩=>by
   obtain ⟨h',l',G,S⟩:=Sep.pack' S
   refine ⟨fun c=>match g c with | some o=>some o | none=>h' c,fun c o e=>?_,⟨g,fun c o e=>?_,t,G.mono fun c o e=>?_⟩,S.mono fun c o e=>?_⟩
   · cases q:g c with
     | some u=>simp only [q] at e;cases e;exact m _ _ q
     | none=>simp only [q] at e;exact (cut_some.mp (l' _ _ e)).1
   · simp only [e]
   · obtain ⟨e1,e2⟩:=cut_some.mp (l' _ _ e)
     refine cut_some.mpr ⟨?_,e2⟩
     cases q:g c with
     | some u=>simp only [q];rw [m _ _ q] at e1;exact e1
     | none=>simp only [q];exact e
   · obtain ⟨e1,e2⟩:=cut_some.mp e
     obtain ⟨e3,e4⟩:=cut_some.mp e1
     refine cut_some.mpr ⟨e3,fun u q=>?_⟩
     cases z:g c with
     | some v=>simp only [z] at q;cases q;exact e4 _ z
     | none=>simp only [z] at q;exact e2 _ q
theorem Sep.pack {a:Addr}{Γ Δ:Rs}{H:Hp}{R:YJ}(S:Sep (Γ++Δ) H)(f:∀ h,Sep Γ h→R a h):Sep ((a,R)::Δ) H:=by
 obtain ⟨h,l,G,S⟩:=Sep.pack' S
 exact ⟨h,l,f h G,S⟩
section
variable {X:Cx}
def rEqD:R2:=fun x y H Q=>∃ dx dy,DataOf H x dx∧DataOf H y dy∧dx.canLay0=true∧dy.canLay0=true∧dx.depth≤60∧Q (.bl (PyData.eqv dx dy)) H
def rNeD:R2:=fun x y H Q=>∃ dx dy,DataOf H x dx∧DataOf H y dy∧dx.canLay0=true∧dy.canLay0=true∧dx.depth≤60∧Q (.bl (!PyData.eqv dx dy)) H
theorem ZcH (hu:X.A.units+64 < cLine):YQ X (compareOp .Eq) rEqD:=by
 intro pins s σ H x y v u Q I rx ry h
 obtain ⟨dx,dy,d1,d2,c1,c2,hd,q⟩:=h
 obtain ⟨_,as,r1⟩:=DataOf.reads I.hok v d1 rx
 obtain ⟨_,bs,r2⟩:=DataOf.reads I.hok u d2 ry
 exact SeqAt.compareEq_reads r1 r2 c1 c2 (by omega) ⟨.bl _,H,I,rfl,q⟩
theorem Zlv (hu:X.A.units+64 < cLine):YQ X (compareOp .NotEq) rNeD:=by
 intro pins s σ H x y v u Q I rx ry h
 obtain ⟨dx,dy,d1,d2,c1,c2,hd,q⟩:=h
 obtain ⟨_,as,r1⟩:=DataOf.reads I.hok v d1 rx
 obtain ⟨_,bs,r2⟩:=DataOf.reads I.hok u d2 ry
 exact SeqAt.compareNe_reads r1 r2 c1 c2 (by omega) ⟨.bl _,H,I,rfl,q⟩
end
section
variable {X:Cx}{k:Nat}{C:Addr}{x m:Str}{ps:List Str}{sp:Sp}{p pos apos:Pos}{o:Expr}{ta:TE}
theorem Zcb {pl:Sem Bool}(D:DefM X.prog X.w X.K X.mg X.base k C m ps sp)(c:Cls X.K C)(hr:Room k X.A)(he:PE X o ta)
   (ht:eval (.Call (.Attribute o m apos) [] [] pos) X.env=(do
     let ov ← eval o X.env
     standAt apos.atName
     let (f,first) ← holding [ov] (getMethod ov m pl)
     callWith pos f first (backTo pos (starEach [] X.env)) (backToKw pos (keywordEach [] X.env))):=by rfl) :
   PE X (.Call (.Attribute o m apos) [] [] pos) (Zcg C m sp [] E0 ta Wd):=by
 obtain ⟨f,fd,F,b,q⟩:=D
 exact Zhh he c q F hr b .nil Zcd ht
end
end L2
set_option maxHeartbeats 2000000
namespace L2
open PySem PySem.Spec PyProof.Rows
def ZeX (K:PySem.W.Frag)(a:Addr):It :=
 ⟨fun i H=>∃ xs x,SqL K H a xs∧xs[i]?=some x,fun i H v H'=>∃ t x,H t=none∧(∀ xs,SqL K H a xs→xs[i]?=some x)∧v=.ref t∧H'=upd H t (.tup [.int (i:Int),x]),fun i H=>∃ xs,SqL K H a xs∧xs.length≤i⟩
theorem Zff {P:Program}{w:World}{K:PySem.W.Frag}{elts:List Expr}{x1:Nat}{tp:Pos}(a e it:Addr)(hne:e≠it)(hai:a≠it)(hae:a≠e) :
   Um P w K (.Tuple elts x1 tp) (ZeX K a) [e,it] e (fun i h=>(∃ old,IsEnum h e it (i:Int) old)∧h.IsListIter it a i) where
 mem:=by simp
 obj:=fun i h st b hb=>by
   obtain ⟨⟨old,he⟩,⟨o,ho,c,d⟩⟩:=st
   rcases List.mem_cons.mp hb with q | hb
   · rw [q];exact ⟨_,he,fun v z=>by cases z⟩
   · rw [List.mem_singleton.mp hb];exact ⟨o,ho,fun v z=>by rw [d] at z;cases z⟩
 keep:=fun i h h' st k=>by
   obtain ⟨⟨old,he⟩,st⟩:=st
   exact ⟨⟨old,k e (by simp) _ he⟩,st.at fun o y=>k it (by simp) o y⟩
 item:=by
   intro X hP hw hK hc i pins s σ H E I hf st hg
   subst hP hw hK
   obtain ⟨⟨old,he⟩,hs⟩:=st
   obtain ⟨xs,x,hq,hx⟩:=hg
   obtain ⟨its,rv,p,hz⟩:=I.list hq
   obtain ⟨u,hu,ru⟩:=rv.get hx
   have hlt:i < its.toArray.size:=by
     have:=(List.getElem?_eq_some_iff.mp hu).1
     simpa using this
   have D:=Draws.list (prog:=X.prog) (w:=X.w) (A:=X.A.in1) (I.ok.hd hc) it a hai its.toArray
   refine wpAny_pyNext_enum_itemD (i:=i) D he ⟨hs,p.isList⟩ hlt hne (by simp [hne,Ne.symm hae]) fun v h' tk hP hOut hst hT hsz hk=>?_
   have ev:v=u:=by
     have:its[i]?=some v:=by simpa using hP
     rw [hu] at this;exact (Option.some.inj this).symm
   subst ev
   have hel:e < s.heap.objs.size:=Heap.lt_size he
   have hil:it < s.heap.objs.size:=by obtain ⟨o,ho,_⟩:=hs;exact Heap.lt_size ho
   refine ⟨_,rfl,wpAny_letOwnedTupleGo_enum hOut fun h2 he2 hs2=>?_⟩
   generalize hO:({ cls:=.type "tuple",data:=.seq #[.int ((i:Nat):Int) tk,v] }:Obj)=O at hT
   have I1:Inv X pins σ (upd H s.heap.objs.size (.tup [.int (i:Int),x])) { s with heap:=s.heap.push O,toks:=tk+1 }:=by
     refine I.laid (t':=tk+1) (fun b o y=>Heap.get?_push_of_some _ y) (Nat.le_refl _) (show ObjOk X.prog X.w _ _ _ (.tup _) from ⟨by show 2≤sizeLine;decide,[.int ((i:Nat):Int) tk,v],.cons ⟨tk,rfl⟩ (.cons ru .nil),?_⟩)
     rw [← hO];exact IsTup.new _ _
   have hfree:=I.hok.fresh (Nat.le_refl s.heap.objs.size)
   have hf2:∀ b∈[e,it],Yo X pins (upd H s.heap.objs.size (.tup [.int (i:Int),x])) b:=fun b hb=>by
     obtain ⟨f0,f1⟩:=hf b hb
     have hb':b≠s.heap.objs.size:=by
       rcases List.mem_cons.mp hb with q | hb
       · rw [q];exact Nat.ne_of_lt hel
       · rw [List.mem_singleton.mp hb];exact Nat.ne_of_lt hil
     exact ⟨by rw [Zh hb'];exact f0,f1⟩
   have I2:Inv X pins σ (upd H s.heap.objs.size (.tup [.int (i:Int),x])) { s with heap:=h2,toks:=tk+1 }:=by
     refine I1.turned2 (t':=tk+1) (h':=h2) (fun b o hb y=>?_) hf2
     have hbe:b≠e:=fun q=>hb (by simp [q])
     have hbi:b≠it:=fun q=>hb (by simp [q])
     rw [hs2.2 b hbe]
     rcases Heap.get?_push_cases y with ⟨q1,q2⟩ | y
     · rw [q1,q2];exact hT
     · exact hk b o hbe hbi y
   refine ⟨.ref s.heap.objs.size,_,I2,rfl,⟨s.heap.objs.size,x,hfree,fun ys hy=>by rw [I.list_inj hy hq];exact hx,rfl,rfl⟩,⟨⟨_,he2⟩,?_⟩,fun b hb=>(hf2 b hb).1⟩
   exact hst.1.at fun o y=>by rw [hs2.2 it hne.symm];exact y
 done:=by
   intro X hP hw hK hc i pins s σ H E I hf st hg
   subst hP hw hK
   obtain ⟨⟨old,he⟩,hs⟩:=st
   obtain ⟨xs,hq,hle⟩:=hg
   obtain ⟨its,rv,p,hz⟩:=I.list hq
   have hl:=rv.length
   obtain ⟨f0,f1,f2,f3,f4,f5⟩:=hf it (by simp)
   exact wpAny_pyNext_enum_end (I.ok.hd hc) he hs p.isList (by simp;omega) fun h' eb=>⟨rfl,I.turned (t':=s.toks) (fun b o hb y=>eb b o hb y) f0 f1 f3 f4 f5⟩
 self:=fun _ _ _ _ _ st h=>by
   obtain ⟨⟨old,he⟩,_⟩:=st
   exact wpAny_pyIter_enum he h
def Zkx (K:PySem.W.Frag)(tl:TE):TI:=fun σ H R=>tl σ H fun v H1=>∃ a xs,[v]=[V.ref a]∧H1 a=some (.lst xs)∧R (ZeX K a) H1
section
variable {X:Cx}
theorem ZgV {l:Expr}{tl:TE}{elts:List Expr}{x1:Nat}{tp p pos:Pos}(hg:Gl X "enumerate")(hm:X.mg "enumerate"=none)(hl:PE X l tl)
   (he:starEach [l] X.env=[(false,eval l X.env)]:=by rfl):PI X (.Tuple elts x1 tp) (.Call (.Name "enumerate" p) [l] [] pos) (Zkx X.K tl):=by
 intro pins s σ H R I h
 have ha:PA X [l] (Xu tl Wd):=Yw hl Za he
 refine wpAny_Call_Name_kw (WR I hg hm boot_enumerate ?_)
 refine PyProof.Rows.callWith_type1 (Zr (ha pos pins s σ H (fun vs H1=>∃ a xs,vs=[V.ref a]∧H1 a=some (.lst xs)∧R (ZeX X.K a) H1) I h) fun us s1 ⟨vs,H1,I1,r1,a,xs,e,ea,q⟩=>?_) he rfl
 subst e
 obtain ⟨u,rfl,r⟩:=Ys r1
 cases r
 obtain ⟨z,its,n,rv,hll,eo⟩:=I1.lstM ea
 have hal:a < s1.heap.objs.size:=Heap.lt_size eo
 refine call_enumerate_1 eo fun h' hE hit hsz hkk=>wpAny_pyIter_enum hE ?_
 refine ⟨s1.heap.objs.size+1,[s1.heap.objs.size+1,s1.heap.objs.size],_,_,H1,rfl,I1.kept (t':=s1.toks) hkk,Zff a _ _ (Nat.succ_ne_self _) (Nat.ne_of_lt hal) (Nat.ne_of_lt (Nat.lt_succ_of_lt hal)),⟨⟨_,hE⟩,hit⟩,fun b hb=>?_,q⟩
 rcases List.mem_cons.mp hb with z | hb
 · rw [z];exact I1.fpOk (Nat.le_succ _) (I1.hok.fresh (Nat.le_succ _))
 · rw [List.mem_singleton.mp hb];exact I1.fpOk (Nat.le_refl _) (I1.hok.fresh (Nat.le_refl _))
end
end L2
set_option maxHeartbeats 2000000
namespace L2
open PySem PySem.Spec PyProof.Rows
def Zmk (i j k:Nat)(ta:TA):TS:=fun D σ H=>ta σ H fun vs H1=>∃ u v w,vs=[u,v,w]∧D.nx (((σ.set i (some u)).set j (some v)).set k (some w)) H1
theorem ZjG {X:Cx}{pos:Pos}{i j k:Nat}{x y z:Str}{a b c:Expr}{ta:TA}{px py pz pt:Pos}{kt k2 pt2}(hc:X.calm=true)(hN:X.N.Nodup)(hi:X.N[i]?=some x)(hj:X.N[j]?=some y)(hk:X.N[k]?=some z)(hij:i≠j)(hik:i≠k)(hjk:j≠k)
   (hx:X.env.scope.names.lookup x=some .local) (hy:X.env.scope.names.lookup y=some .local) (hz:X.env.scope.names.lookup z=some .local) (ha:PA X [a,b,c] ta)
   (hw:swappedStores [.Tuple [.Name x px,.Name y py,.Name z pz] kt pt] (.Tuple [a,b,c] k2 pt2) X.env=pure (some [x,y,z]))
   (hs:swapsWithSole [.Tuple [.Name x px,.Name y py,.Name z pz] kt pt] (.Tuple [a,b,c] k2 pt2) pos.line X.env=pure false:=by rfl) :
   PS X (.Assign [.Tuple [.Name x px,.Name y py,.Name z pz] kt pt] (.Tuple [a,b,c] k2 pt2) pos) (Zmk i j k ta):=by
 intro pins s σ H D I h
 rw [exec_Assign_arm]
 refine wpAny_bind (wpAny_standAt ?_)
 rw [hs]
 refine wpAny_bind (wpAny_pure ?_)
 rw [if_neg (by decide)]
 refine wpAny_bind (Tuple_ (Zr (ha _ pins s σ H _ I h) fun us s1 ⟨vs,H1,I1,r1,q1⟩=>?_))
 obtain ⟨v1,v2,v3,e1,q1⟩:=q1
 subst e1
 obtain ⟨u1,u2,u3,rfl,rv1,rv2,rv3⟩:∃ u1 u2 u3,us=[u1,u2,u3]∧RelV v1 u1∧RelV v2 u2∧RelV v3 u3:=by
   cases r1 with
   | cons p q =>
     cases q with
     | cons p' q' =>
       cases q' with
       | cons p'' q'' =>
         cases q''
         exact ⟨_,_,_,rfl,p,p',p''⟩
 refine wpAny_newObj_type ?_ (by show 3≤sizeLine;decide)
 have I2:Inv X pins σ H1 { s1 with heap:=s1.heap.push { cls:=.type "tuple",data:=.seq [u1,u2,u3].toArray } }:=I1.kept (t':=s1.toks) fun b o e=>Heap.get?_push_of_some _ e
 rw [hw]
 refine wpAny_bind (wpAny_pure ?_)
 show wpAny (model X.prog X.w) X.A (do rule "assign.swapped-stores";let items ← unpackItems (.ref s1.heap.objs.size) 3 none;assignInOrder [fun v=>bindName X.env z v,fun v=>bindName X.env y v,fun v=>bindName X.env x v] items.reverse;pure Flow.next) _ _ _
 refine wpAny_bind (wpAny_rule (wpAny_bind (unpackItems_tuple (items:=#[u1,u2,u3]) (I.ok.hd hc) (IsTup.new s1.heap _) fun h' hx'=>?_)))
 have I3:=I2.kept (h':=h') (t':=s1.toks) fun b o e=>hx' b o (Nat.ne_of_lt (Heap.lt_size e)) e
 show wpAny _ _ (assignInOrder [fun v=>bindName X.env z v,fun v=>bindName X.env y v,fun v=>bindName X.env x v] [u3,u2,u1] >>= fun _=>pure Flow.next) _ _ _
 refine wpAny_bind (assignInOrder_cons (wpAny_bindName (Xd I3 hN hk (.inl hz) rv3 (fun s2 I4=>?_) (.inr hz))))
 refine assignInOrder_cons (wpAny_bindName (Xd I4 hN hj (.inl hy) rv2 (fun s3 I5=>?_) (.inr hy)))
 refine assignInOrder_cons (wpAny_bindName (Xd I5 hN hi (.inl hx) rv1 (fun s4 I6=>assignInOrder_nil (wpAny_pure ?_)) (.inr hx)))
 rw [List.set_comm _ _ (Ne.symm hjk),List.set_comm _ _ (Ne.symm hik),List.set_comm _ _ (Ne.symm hij)] at I6
 exact ⟨_,H1,I6,q1⟩
theorem ZbU {X:Cx}{K:PySem.W.Frag}(hK:X.K=K):YQ X (compareOp .NotIn) (rIn K true):=by subst hK;exact ZcX
theorem Zht {X:Cx}{K:PySem.W.Frag}(hK:X.K=K):SlR X (rSlL K):=by subst hK;exact Zbr
end L2
set_option maxHeartbeats 2000000
namespace L2
open PySem PySem.Spec PyProof.Rows
section
variable {X:Cx}
end
end L2
set_option maxHeartbeats 2000000
namespace L2
open PySem
theorem Sep.newE {Δ:Rs}{H H2:Hp}{o:HO}(S:Sep Δ H){p:Addr}(hp:H p=none)(e:upd H p o=H2):Sep ((p,Pt o)::Δ) H2:=e ▸ S.new hp o
theorem Sep.putE {Δ Δ':Rs}{H H2:Hp}{o o':HO}{a:Addr}(S:Sep Δ H)(e:upd H a o'=H2)[P:Pull a Δ (Pt o) Δ'](m:Yy o=true:=by rfl):Sep ((a,Pt o')::Δ') H2:=e ▸ S.put a o' m
theorem Uo {lo:Int}{n:Nat}{te:TE}{σ:St}{D:Addr}{Q:VK}{H:Hp}{Δ:Rs}(hn:n≤sizeLine)(S:Sep Δ H)(hD:H D=none)(J:Nat→List V→Rs→Prop)(h0:J 0 [] Δ)
   (hs:∀ i ys Δ H,i < n→ys.length=i→J i ys Δ→Sep ((D,Yc ys)::Δ) H→te (σ++[some (.int (lo+i))]) H fun y H4=>∃ Δ',J (i+1) (ys++[y]) Δ'∧Sep ((D,Yc ys)::Δ') H4)
   (hd:∀ ys Δ H,J n ys Δ→ys.length=n→Sep ((D,Yc ys)::Δ) H→Q (.ref D) H):VE (Itr lo n) te σ D Q H:=by
 refine ⟨fun i m ys H=>m=n - i∧i≤n∧ys.length=i∧∃ Δ,J i ys Δ∧Sep ((D,Yc ys)::Δ) H,⟨n,by simp,Nat.zero_le _,rfl,Δ,h0,S.new hD _⟩,?_⟩
 rintro i m ys H2 ⟨rfl,hi,hl,Δ,j,S⟩
 by_cases hlt:i < n
 · refine .inr ⟨hlt,_,fun y H4 (q:∃ Δ',J (i+1) (ys++[y]) Δ'∧Sep ((D,Yc ys)::Δ') H4)=>?_,fun v H3 y=>?_⟩
   · obtain ⟨Δ',j',S'⟩:=q
     exact ⟨S'.get D,by omega,n - (i+1),by omega,rfl,hlt,by simp [hl],Δ',j',S'.put D _⟩
   · obtain ⟨e1,e2⟩:=y
     subst e1 e2
     exact hs i ys Δ _ hlt hl j S
 · have e:i=n:=by omega
   exact .inl ⟨by show n≤i;omega,hd ys Δ H2 (e ▸ j) (by omega) S⟩
theorem Zdw {K:PySem.W.Frag}{a:Addr}{xs:List V}{g:TG}{tc:TT}{te:TE}{σ:St}{D:Addr}{Q:VK}{H:Hp}{Δ:Rs}(hn:xs.length≤sizeLine)(S:Sep Δ H)(hD:H D=none)(J:Nat→List V→Rs→Prop)(h0:J 0 [] Δ)
   (ha:∀ i ys Δ H,J i ys Δ→Sep ((D,Yc ys)::Δ) H→SqL K H a xs)
   (hs:∀ i x t ys Δ H wa wb,xs[i]?=some x→ys.length≤i→J i ys Δ→Sep ((t,Tup [.int (i:Int),x])::(D,Yc ys)::Δ) H→g (.ref t) (σ++[wa,wb]) H fun σ' H'=>(∃ wa wb,σ'=σ++[wa,wb])∧tc σ' H' fun b H3=>if b=true then te σ' H3 fun y H4=>∃ Δ',J (i+1) (ys++[y]) Δ'∧Sep ((D,Yc ys)::Δ') H4 else ∃ Δ',J (i+1) ys Δ'∧Sep ((D,Yc ys)::Δ') H3)
   (hd:∀ ys Δ H,J xs.length ys Δ→ys.length≤xs.length→Sep ((D,Yc ys)::Δ) H→Q (.ref D) H):Zcw (ZeX K a) g tc te σ D Q H:=by
 refine ⟨fun i m ys H=>m=xs.length - i∧i≤xs.length∧ys.length≤i∧∃ Δ,J i ys Δ∧Sep ((D,Yc ys)::Δ) H,⟨xs.length,by simp,Nat.zero_le _,Nat.le_refl _,Δ,h0,S.new hD _⟩,?_⟩
 rintro i m ys H2 ⟨rfl,hi,hl,Δ,j,S⟩
 have q:=ha i ys Δ H2 j S
 by_cases hlt:i < xs.length
 · refine .inr ⟨⟨xs,xs[i],q,by simp [hlt]⟩,_,_,fun y H4 (q:∃ Δ',J (i+1) (ys++[y]) Δ'∧Sep ((D,Yc ys)::Δ') H4)=>?_,fun H4 (q:∃ Δ',J (i+1) ys Δ'∧Sep ((D,Yc ys)::Δ') H4)=>?_,fun wa wb v H3 y=>?_⟩
   · obtain ⟨Δ',j',S'⟩:=q
     exact ⟨S'.get D,by omega,xs.length - (i+1),by omega,rfl,hlt,by simp;omega,Δ',j',S'.put D _⟩
   · obtain ⟨Δ',j',S'⟩:=q
     exact ⟨xs.length - (i+1),by omega,rfl,hlt,by omega,Δ',j',S'⟩
   · obtain ⟨t,x,e1,e2,e3,e4⟩:=y
     subst e3 e4
     exact hs i x t ys Δ _ wa wb (e2 xs q) hl j (S.new e1 _)
 · have e:i=xs.length:=by omega
   exact .inl ⟨⟨xs,q,by omega⟩,hd ys Δ H2 (e ▸ j) (by omega) S⟩
end L2
set_option maxHeartbeats 2000000
namespace L2
open PySem
def Wr (x:Str):Prop:=1≤x.length∧x.length≤8∧x.cps.toList.all UU=true
theorem YF (c:Nat):(⟨#[c]⟩:Str).length=1:=rfl
theorem Zcy {P:Nat→Bool}:∀{l:List Str},(∀ z∈l,∃ c,z=⟨#[c]⟩∧P c=true)→(l.map (·.length)).sum=l.length∧(l.flatMap (·.cps.toList)).length=l.length∧(l.flatMap (·.cps.toList)).all P=true
 | [],_=>⟨rfl,rfl,rfl⟩
 | z :: r,h=>by
   obtain ⟨c,rfl,hc⟩:=h z List.mem_cons_self
   obtain ⟨g1,g2,g3⟩:=Zcy (l:=r) fun y hy=>h y (List.mem_cons_of_mem _ hy)
   refine ⟨?_,?_,?_⟩
   · rw [List.map_cons,List.sum_cons,g1,List.length_cons];show 1+_=_;omega
   · have e0:((⟨#[c]⟩:Str)::r).flatMap (·.cps.toList)=c::r.flatMap (·.cps.toList):=rfl
     rw [e0,List.length_cons,List.length_cons,g2]
   · rw [List.flatMap_cons,List.all_append,g3];simp [hc]
theorem ZfC {P:Nat→Bool}{zs:List Str}(h:∀ z∈zs,∃ c,z=⟨#[c]⟩∧P c=true):(zs.map (·.length)).sum+zs.length * (Str.ofString "").length≤2 * zs.length∧(Txt.join (Str.ofString "") zs).length=zs.length∧(Txt.join (Str.ofString "") zs).cps.toList.all P=true:=by
 obtain ⟨g1,g2,g3⟩:=Zcy h
 refine ⟨?_,?_,?_⟩
 · rw [g1];show _+_ * 0≤_;omega
 · rw [Yi,WC,g2]
 · rw [WC];exact g3
theorem WP {P:Nat→Bool}{x y:Str}(h1:x.cps.toList.all P=true)(h2:y.cps.toList.all P=true):(x++y).cps.toList.all P=true:=by
 rw [Vv,List.all_append,h1,h2];rfl
theorem UP {P:Nat→Bool}{c:Nat}(h:P c=true):(⟨#[c]⟩:Str).cps.toList.all P=true:=by
 show [c].all P=true;simp [h]
theorem UQ {P:Nat→Bool}{x:Str}{lo hi:Option Int}(h:x.cps.toList.all P=true):(Txt.slice x lo hi).cps.toList.all P=true:=by
 rw [Wp]
 rw [List.all_eq_true] at h ⊢
 exact fun c hc=>h c (List.mem_of_mem_drop (List.mem_of_mem_take hc))
theorem ZfA {x:Str}{k:Int}(h0:0≤k)(h1:k≤x.length):(Txt.slice x none (some k)).length+(Txt.slice x (some k) none).length=x.length:=by
 have hn:¬ k < 0:=by omega
 rw [Yi,Yi,Wp,Wp,Yi]
 rw [Yi] at h1
 have e1:HT.sIx x.cps.toList.length 0 none=0:=rfl
 have e2:HT.sIx x.cps.toList.length x.cps.toList.length none=x.cps.toList.length:=rfl
 have e3:∀ d,HT.sIx x.cps.toList.length d (some k)=k.toNat:=fun d=>by
   unfold HT.sIx
   simp only [hn,if_false]
   omega
 rw [e1,e2,e3,e3,List.length_take,List.length_take,List.length_drop,List.length_drop]
 omega
theorem Wg {x:Str}{P:Nat→Bool}(ha:x.cps.toList.all P=true){r:Int}(h0:0≤r)(h1:r < x.length):∃ c,YG x.cps.toList r=some c∧P c=true:=by
 have hl:r.toNat < x.cps.toList.length:=by rw [← Yi];omega
 exact ⟨_,ZaU h0 (List.getElem?_eq_getElem hl),List.all_eq_true.mp ha _ (List.getElem_mem hl)⟩
def a26:Str:="abcdefghijklmnopqrstuvwxyz"
theorem YZ:a26.length=26:=by decide +kernel
theorem Uw:a26.cps.toList.all UU=true:=by decide +kernel
theorem Zax {α:Type}{f:α→V}{xs:List α}{r:Int}(h0:0≤r)(h1:r < (xs.length:Int)):∃ x∈xs,YG (xs.map f) r=some (f x):=by
 have hl:r.toNat < xs.length:=by omega
 exact ⟨_,List.getElem_mem hl,ZaU h0 (by rw [List.getElem?_map,List.getElem?_eq_getElem hl];rfl)⟩
theorem Zem {xs:List V}{r:Int}(h0:0≤r)(h1:r < (xs.length:Int)):∃ x∈xs,YG xs r=some x:=by
 have hl:r.toNat < xs.length:=by omega
 exact ⟨_,List.getElem_mem hl,ZaU h0 (List.getElem?_eq_getElem hl)⟩
theorem Sep.le {Δ:Rs}{H:Hp}{p:Addr}{n m:Nat}(S:Sep ((p,Bx n)::Δ) H)(h:n≤m):Sep ((p,Bx m)::Δ) H:=by
 obtain ⟨g,l,r,S⟩:=S
 exact ⟨g,l,BoxAt.le r h,S⟩
def VW:Sp:=fun vs H Q _=>∃(p:Addr)(n:Nat)(Δ:Rs),vs=[.ref p]∧Sep ((p,Bx n)::Δ) H∧n≤900000∧∀(v:V)(H':Hp),YR v→Sep ((p,Bx (n+50))::Δ) H'→Q v H'
theorem Zjq {vs:List V}{H:Hp}{Q:VK}{E:XK}(h:VW vs H Q E):ZdI vs H Q E:=by
 obtain ⟨p,n,Δ,e,S,h1,q⟩:=h
 exact ⟨p,n,e,S.get p,h1,fun v H' hv B k=>q v H' hv (S.box k B)⟩
def Zdh (K:PySem.W.Frag):Sp:=fun vs H Q _=>∃(a:Addr)(ns:List Int)(k:Int)(Δ:Rs),vs=[.ref a,.int k]∧SqL K H a (ns.map V.int)∧Sep Δ H∧0≤k∧k≤1000∧∀(p:Addr)(H':Hp),Same H H'→Sep ((p,Bx 0)::Δ) H'→Q (.ref p) H'
theorem Zmi {K:PySem.W.Frag}{vs:List V}{H:Hp}{Q:VK}{E:XK}(h:Zdh K vs H Q E):ZiK K vs H Q E:=by
 obtain ⟨a,ns,k,Δ,e,hS,S,h1,h2,q⟩:=h
 refine ⟨a,ns,k,e,hS,h1,h2,fun p H' hp B s=>q p H' s ?_⟩
 obtain ⟨x,y,z,eb,w⟩:=B
 exact (S.made s hp eb).say p (Bx 0) fun h r=>⟨x,y,z,r,w⟩
theorem ZcR {xs:List V}{i:Nat}:Vp xs none (some (i:Int))=xs.take i:=by
 unfold Vp
 rw [HT.sIx_none,HT.sIx_nat,List.drop_zero,Nat.sub_zero]
 by_cases h:i≤xs.length
 · rw [Nat.min_eq_left h]
 · rw [Nat.min_eq_right (by omega),List.take_of_length_le (Nat.le_refl _),List.take_of_length_le (by omega)]
theorem ZhG {xs:List V}{i:Nat}:Vp xs (some (i:Int)) none=xs.drop i:=by
 unfold Vp
 rw [HT.sIx_none,HT.sIx_nat]
 by_cases h:i≤xs.length
 · rw [Nat.min_eq_left h,List.take_of_length_le (by rw [List.length_drop];omega)]
 · rw [Nat.min_eq_right (by omega),Nat.sub_self,List.take_zero,List.drop_eq_nil_of_le (by omega)]
theorem Zjl {x:Str}{ys:List Str}:inV (.str x) (ys.map V.str)=decide (x∈ys):=by
 unfold inV
 induction ys with
 | nil=>rfl
 | cons y ys ih =>
   rw [List.map_cons,List.any_cons,ih]
   show ((y == x) || decide (x∈ys))=decide (x∈y::ys)
   by_cases h:y=x
   · subst h;simp
   · rw [show (y == x)=false from beq_eq_false_iff_ne.mpr h,Bool.false_or]
     congr 1
     simp [List.mem_cons,Ne.symm h]
theorem ZfV (ys:List Str):(ys.map V.str).all WB=true:=by
 rw [List.all_eq_true]
 intro v hv
 obtain ⟨y,_,rfl⟩:=List.mem_map.mp hv
 rfl
theorem ZeE:(List.range 26).all (fun k=>decide (Txt.find a26 ⟨#[97+k]⟩=(k:Int)))=true:=by decide +kernel
theorem ZfU {c:Nat}(h:UU c=true):Txt.find a26 ⟨#[c]⟩=(c:Int) - 97∧97≤c∧c≤122:=by
 unfold UU at h
 simp only [Bool.and_eq_true,decide_eq_true_eq] at h
 have z:=of_decide_eq_true (List.all_eq_true.mp ZeE (c - 97) (List.mem_range.mpr (by omega)))
 rw [show 97+(c - 97)=c by omega] at z
 exact ⟨by rw [z];omega,h⟩
theorem Zhd {x:Str}{P:Nat→Bool}(ha:x.cps.toList.all P=true){r:Int}(h0:-(x.length:Int)≤r)(h1:r < x.length):∃ c,YG x.cps.toList r=some c∧P c=true:=by
 by_cases h:0≤r
 · exact Wg ha h h1
 · have hl:(r+x.cps.toList.length).toNat < x.cps.toList.length:=by rw [← Yi];omega
   refine ⟨x.cps.toList[(r+x.cps.toList.length).toNat],?_,List.all_eq_true.mp ha _ (List.getElem_mem hl)⟩
   unfold YG Ws
   rw [if_neg h,if_pos (by rw [← Yi];omega)]
   exact List.getElem?_eq_getElem hl
theorem Zhm (b:Bool)(tw:Str):0≤(if b=true then (1:Int) else 0)∧(if b=true then (1:Int) else 0)≤1∧(List.replicate (if b=true then (1:Int) else 0).toNat [V.str tw]).flatten=(if b=true then [tw] else []).map V.str:=by
 cases b
 · exact ⟨by decide,by decide,rfl⟩
 · exact ⟨by decide,by decide,rfl⟩
def Yu (xs:List Str):Nat→List Str
 | 0=>[]
 | i+1=>match xs[i]? with
   | some x=>if x∈xs.take i then Yu xs i else Yu xs i++[x]
   | none=>Yu xs i
theorem Xe {xs:List Str}:∀ i {x},x∈Yu xs i↔x∈xs.take i
 | 0,x=>by simp [Yu]
 | i + 1,x=>by
   unfold Yu
   rw [List.take_add_one]
   cases e:xs[i]? with
   | none=>simp [Xe i]
   | some y =>
     dsimp only
     by_cases h:y∈xs.take i
     · rw [if_pos h,Xe i]
       simp only [Option.toList_some,List.mem_append,List.mem_singleton]
       exact ⟨.inl,fun z=>z.elim id fun z=>z ▸ h⟩
     · rw [if_neg h]
       simp only [Option.toList_some,List.mem_append,List.mem_singleton,Xe i]
theorem Ue {xs:List Str}:∀ i,(Yu xs i).Nodup
 | 0=>List.nodup_nil
 | i + 1=>by
   unfold Yu
   cases e:xs[i]? with
   | none=>exact Ue i
   | some y =>
     dsimp only
     by_cases h:y∈xs.take i
     · rw [if_pos h];exact Ue i
     · rw [if_neg h]
       refine List.nodup_append.mpr ⟨Ue i,by simp,fun a ha b hb=>?_⟩
       rw [List.mem_singleton.mp hb]
       rintro rfl
       exact h ((Xe i).mp ha)
theorem ZdE {α:Type}{xs:List α}{n:Nat}{x:α}(h:x∈xs.take n):x∈xs:=List.mem_of_mem_take h
def ZcZ:Sp:=fun vs H Q _=>∃(p:Addr)(n:Nat)(Δ:Rs),vs=[.ref p]∧Sep ((p,Bx n)::Δ) H∧n≤800000∧∀(l:Addr)(H':Hp)(us:List V),Sep ((l,Yc us)::(p,Bx (n+200))::Δ) H'→us.length=5→(∀ u∈us,YR u)→Q (.ref l) H'
inductive Stp where
 | set (x:Str) (v:V)
 | clr (x:Str)
def Stp.vs:Stp→List V
 | .set x v=>[.str "set",.str x,v]
 | .clr x=>[.str "clear",.str x]
def Stp.nm:Stp→Str
 | .set x _=>x
 | .clr x=>x
def Stp.ok (NS:List Str):Stp→Prop
 | .set x v=>x∈NS∧YR v
 | .clr x=>x∈NS
def ZfD:Sp:=fun vs H Q _=>∃(p nl vl:Addr)(n:Nat)(NS:List Str)(us:List V)(Δ:Rs),vs=[.ref p,.ref nl,.ref vl]∧Sep ((p,Bx n)::(nl,Yc (NS.map V.str))::(vl,Yc us)::Δ) H∧NS≠[]∧us≠[]∧NS.length≤1000∧us.length≤1000∧(∀ u∈us,YR u)∧n≤900000 ∧
 ∀ (t:Addr) (H':Hp) (s:Stp),s.ok NS→Sep ((t,Tup s.vs)::(p,Bx (n+3))::(nl,Yc (NS.map V.str))::(vl,Yc us)::Δ) H'→Q (.ref t) H'
class IsLst (R:YJ) (k:Nat):Prop where
 lst:∀ {a h},R a h→∃ xs,h a=some (.lst xs)∧xs.length=k
theorem Sep.isl {Δ Δ':Rs}{H:Hp}{R:YJ}{k:Nat}(S:Sep Δ H)(a:Addr)(I:IsLst R k)[P:Pull a Δ R Δ']:∃ xs,H a=some (.lst xs)∧xs.length=k:=by
 obtain ⟨h,l,r,_⟩:=P.out S
 obtain ⟨xs,e,z⟩:=I.lst r
 exact ⟨xs,l _ _ e,z⟩
def ZgH:Sp:=fun vs H Q _=>∃(p sl:Addr)(n k:Nat)(R:YJ)(Δ:Rs),vs=[.ref p,.ref sl]∧Sep ((p,Bx n)::(sl,R)::Δ) H∧IsLst R k∧1≤k∧k≤10000∧n≤900000 ∧
 ∀ (r:Nat) (H':Hp),r < k→Sep ((p,Bx (n+3))::(sl,R)::Δ) H'→Q (.int (r:Int)) H'
end L2
set_option maxHeartbeats 2000000
namespace L2
open PySem
def Uj (K:PySem.W.Frag)(C:Addr)(nds:List Nd)(tabs:List (Zl×V)):YJ:=fun st h=>nds[0]?=some .bare∧∃ ln dt,StoreAt K C st ln dt h nds tabs
def ZhP (lp:Pos)(q:Str):YJ:=fun Pl h=>LamAt h Pl lp q
instance {K:PySem.W.Frag} {C:Addr} {nds:List Nd} {tabs:List (Zl×V)}:Up (Uj K C nds tabs):=⟨fun ⟨h0,ln,dt,h⟩ s=>⟨h0,ln,dt,h.keep s⟩⟩
theorem LamAt.same' {H H':Hp}{Pl:Addr}{lp:Pos}{q:Str}(h:LamAt H Pl lp q)(s:Same H H'):LamAt H' Pl lp q:=by
 rcases h with h | ⟨c,h1,h2⟩
 · exact .inl (s _ _ h)
 · exact .inr ⟨c,s _ _ h1,s _ _ h2⟩
def some_of (H:Hp)(L:List Addr):Hp:=fun b=>if b∈L then H b else match H b with
 | some o=>if Yy o=true then none else some o
 | none=>none
theorem WI {H:Hp}{L:List Addr}:Same (some_of H L) H:=fun b o e=>by
 unfold some_of at e
 split at e
 · exact e
 · split at e
   · rename_i o' h'
     split at e
     · cases e
     · cases e;exact h'
   · cases e
theorem XJ {H:Hp}{L:List Addr}{b:Addr}(h:b∈L):some_of H L b=H b:=by unfold some_of;rw [if_pos h]
theorem Ut {H:Hp}{L:List Addr}{b:Addr}{o:HO}(e:H b=some o)(m:Yy o=false):some_of H L b=some o:=by
 unfold some_of
 split
 · exact e
 · simp only [e,m,Bool.false_eq_true,if_false]
theorem Wh {H:Hp}{L:List Addr}{b:Addr}{o:HO}(e:some_of H L b=some o)(m:Yy o=true):b∈L:=by
 unfold some_of at e
 split at e
 · assumption
 · split at e
   · split at e
     · cases e
     · rename_i h;cases e;exact absurd m h
   · cases e
theorem Zeg {H:Hp}{L:List Addr}:TF H (some_of H L):=⟨fun b xs e=>Ut e rfl,fun b o u e=>Ut e rfl⟩
theorem Sep.stoLam {K:PySem.W.Frag}{C st Pl:Addr}{lp:Pos}{q:Str}{nds:List Nd}{tabs:List (Zl×V)}{Δ:Rs}{H:Hp}(S:Sep ((st,Uj K C nds tabs)::(Pl,ZhP lp q)::Δ) H) :
   ∃ ln dt,StoreAt K C st ln dt H nds tabs∧nds[0]?=some .bare∧LamAt H Pl lp q∧∀ H' nds' tabs',StoreAt K C st ln dt H' nds' tabs'→nds'[0]?=some .bare→LamAt H' Pl lp q→Kq [ln,dt,Pl] H H'→Sep ((st,Uj K C nds' tabs')::(Pl,ZhP lp q)::Δ) H':=by
 obtain ⟨h1,l1,⟨b0,ln,dt,r1⟩,h2,l2,r2,S⟩:=S
 have r2':LamAt h2 Pl lp q:=r2
 refine ⟨ln,dt,r1.keep l1,b0,(LamAt.same' r2' l2).same' ZaW,fun H' nds' tabs' S' b0' L' kq=>?_⟩
 obtain ⟨tb,etb⟩:=r2'.tbl
 obtain ⟨tb',etb'⟩:=L'.tbl
 obtain ⟨dx,ob⟩:=r1.ob
 obtain ⟨as,nl,_⟩:=r1.nl
 obtain ⟨dx',ob'⟩:=S'.ob
 obtain ⟨as',nl',nlen',nod'⟩:=S'.nl
 have nPl:Pl ∉ [st,ln,dt]:=fun z=>by
   simp only [List.mem_cons,List.not_mem_nil,or_false] at z
   rcases z with z | z | z
   · rw [z,ob'] at etb';cases etb'
   · rw [z,nl'] at etb';cases etb'
   · rw [z,S'.tb] at etb';cases etb'
 refine ⟨some_of H' [st,ln,dt],WI,⟨b0',ln,dt,⟨⟨dx',by rw [XJ (by simp)];exact ob'⟩,⟨as',by rw [XJ (by simp)];exact nl',nlen',fun i a n e1 e2=>(nod' i a n e1 e2).tf Zeg⟩,by rw [XJ (by simp)];exact S'.tb⟩⟩,?_⟩
 have imm:∀ b o,H' b=some o→Yy o=false→Ua H' (some_of H' [st,ln,dt]) b=some o:=fun b o e m=>cut_some.mpr ⟨e,fun u z=>by have:=WI _ _ z;rw [e] at this;cases this;exact m⟩
 refine ⟨some_of (Ua H' (some_of H' [st,ln,dt])) [Pl],WI,?_,S.mono fun b o e=>?_⟩
 · have ePl:some_of (Ua H' (some_of H' [st,ln,dt])) [Pl] Pl=H' Pl:=by
     rw [XJ (by simp)]
     have:Ua H' (some_of H' [st,ln,dt]) Pl=some (.tbl tb'):=cut_some.mpr ⟨etb',fun u z=>by
       cases m:Yy u with
       | false=>rfl
       | true=>exact absurd (Wh z m) nPl⟩
     rw [this,etb']
   rcases L' with z | ⟨c,z1,z2⟩
   · exact .inl (by rw [ePl];exact z)
   · refine .inr ⟨c,by rw [ePl];exact z1,?_⟩
     exact Ut (imm _ _ z2 rfl) rfl
 · obtain ⟨e1,e2⟩:=cut_some.mp e
   obtain ⟨e3,e4⟩:=cut_some.mp e1
   have n1:b≠ln:=fun z=>by have:=e4 _ (z ▸ nl);cases this
   have n2:b≠dt:=fun z=>by have:=e4 _ (z ▸ r1.tb);cases this
   have n3:b≠Pl:=fun z=>by have:=e2 _ (z ▸ etb);cases this
   have n4:b≠st:=fun z=>by have:=e4 _ (z ▸ ob);cases this
   have e5:=kq b o (by simp [n1,n2,n3]) e3
   refine cut_some.mpr ⟨cut_some.mpr ⟨e5,fun u z=>?_⟩,fun u z=>?_⟩
   · cases m:Yy u with
     | false=>rfl
     | true=>have:=Wh z m;simp [n1,n2,n4] at this
   · cases m:Yy u with
     | false=>rfl
     | true=>have:=Wh z m;simp [n3] at this
def Zak (C:Addr)(fs:List (Str×V)):YJ:=fun a h=>∃ dx,h a=some (.ins C dx fs)
instance {C:Addr} {fs:List (Str×V)}:Up (Zak C fs):=⟨fun ⟨dx,h⟩ s=>⟨dx,s _ _ h⟩⟩
end L2
set_option maxHeartbeats 4000000
namespace K25
open PySem L2
section
variable {P:Program}{w:World}{K:PySem.W.Frag}{mg:Str→Option Value}{base:Heap}{C Pl:Addr}{NS:List Str}
abbrev Xl:YJ:=ZhP YB Xq
def Zde (K:PySem.W.Frag)(C Pl:Addr):Sp:=fun vs H Q _=>∃(NS:List Str)(st:Addr)(nds:List Nd)(tabs:List (Zl×V))(t:Nat)(x:Str)(v:V)(F:Str→Option V)(Δ:Rs),Yv NS∧vs=[.ref st,iN t,.str x,v]∧Sep ((st,Uj K C nds tabs)::(Pl,Xl)::Δ) H∧(ZQ tabs (Sum.inl (t:Int))).isSome=true∧Tri NS nds F 5 0 0 t∧x∈NS∧ValV v∧(∀ u,F x=some u→ValV u)∧nds.length+6≤100000∧tabs.length≤100000 ∧
 ∀ (H':Hp) (nds':List Nd) (tabs':List (Zl×V)) (t':Nat),Sep ((st,Uj K C nds' tabs')::(Pl,Xl)::Δ) H'→NEx nds nds'→nds'.length≤nds.length+6→tabs'.length≤tabs.length+1→(∀ k,(ZQ tabs k).isSome=true→(ZQ tabs' k).isSome=true)→(ZQ tabs' (Sum.inl (t':Int))).isSome=true→Tri NS nds' (upF F x v) 5 0 0 t'→Q (iN t') H'
def ZeP (K:PySem.W.Frag)(C Pl:Addr):Sp:=fun vs H Q _=>∃(NS:List Str)(st:Addr)(nds:List Nd)(tabs:List (Zl×V))(t:Nat)(x:Str)(F:Str→Option V)(Δ:Rs),Yv NS∧vs=[.ref st,iN t,.str x]∧Sep ((st,Uj K C nds tabs)::(Pl,Xl)::Δ) H∧(ZQ tabs (Sum.inl (t:Int))).isSome=true∧Tri NS nds F 5 0 0 t∧x∈NS∧(∀ u,F x=some u→ValV u)∧nds.length+6≤100000∧tabs.length≤100000 ∧
 ∀ (H':Hp) (nds':List Nd) (tabs':List (Zl×V)) (t':Nat),Sep ((st,Uj K C nds' tabs')::(Pl,Xl)::Δ) H'→NEx nds nds'→nds'.length≤nds.length+6→tabs'.length≤tabs.length+1→(∀ k,(ZQ tabs k).isSome=true→(ZQ tabs' k).isSome=true)→(ZQ tabs' (Sum.inl (t':Int))).isSome=true→Tri NS nds' (VP F x) 5 0 0 t'→Q (iN t') H'
theorem Zml {f:Addr}{fd:FuncData}{k:Nat}{ps:List Str}(h:∀ NS,Yv NS→FnOk P w K mg base ZF k f fd ps (Zis K C Pl NS)):FnOk P w K mg base ZF k f fd ps (Zde K C Pl) :=
 (FnOk.ex h).conv fun vs H Q E ⟨NS,st,nds,tabs,t,x,v,F,Δ,N,e,S,h1,h2,h3,h4,h5,h6,h7,q⟩=>by
   obtain ⟨ln,dt,SA,b0,L,back⟩:=S.stoLam
   exact ⟨NS,N,st,ln,dt,nds,tabs,t,x,v,F,e,SA,b0,h1,h2,h3,h4,h5,h6,h7,L,fun H' nds' tabs' t' S' ext len tl mono tok tri L' kq tf=>q H' nds' tabs' t' (back H' nds' tabs' S' (ext _ _ b0) L' kq) ext len tl mono tok tri⟩
theorem wo_S {f:Addr}{fd:FuncData}{k:Nat}{ps:List Str}(h:∀ NS,Yv NS→FnOk P w K mg base ZF k f fd ps (spWo K C Pl NS)):FnOk P w K mg base ZF k f fd ps (ZeP K C Pl) :=
 (FnOk.ex h).conv fun vs H Q E ⟨NS,st,nds,tabs,t,x,F,Δ,N,e,S,h1,h2,h3,h4,h5,h6,q⟩=>by
   obtain ⟨ln,dt,SA,b0,L,back⟩:=S.stoLam
   exact ⟨NS,N,st,ln,dt,nds,tabs,t,x,F,e,SA,b0,h1,h2,h3,h4,h5,h6,L,fun H' nds' tabs' t' S' ext len tl mono tok tri L' kq tf=>q H' nds' tabs' t' (back H' nds' tabs' S' (ext _ _ b0) L' kq) ext len tl mono tok tri⟩
def Zbj (K:PySem.W.Frag)(C:Addr):Sp:=fun vs H Q _=>∃(p dx:Addr)(H0:Hp)(Δ:Rs),vs=[.ref p]∧H=upd (upd H0 dx (.own p)) p (.ins C dx [])∧H0 p=none∧H0 dx=none∧dx≠p∧Sep Δ H0∧∀ H',Same H0 H'→Sep ((p,Uj K C [.bare] [(Sum.inl 0,.bl true)])::Δ) H'→Q .non H'
theorem ZlB {vs:List V}{H:Hp}{Q:VK}{E:XK}(h:Zbj K C vs H Q E):ZgN K C vs H Q E:=by
 obtain ⟨p,dx,H0,Δ,e,rfl,h1,h2,h3,S,q⟩:=h
 refine ⟨p,dx,e,Zg,fun ln dt H' hln hdt SA kq=>?_⟩
 have sH:Same H0 (upd (upd H0 dx (.own p)) p (.ins C dx [])):=(Zp h2 _).trans (Zp (by rw [Zh h3.symm];exact h1) _)
 have s0:Same H0 H':=fun b o e=>kq b o (by simp only [List.mem_singleton];exact Zn e h1) (sH b o e)
 refine q H' s0 ?_
 have n1:=Vj sH hln
 have n2:=Vj sH hdt
 obtain ⟨dx',ob⟩:=SA.ob
 obtain ⟨as,nl,nlen,nod⟩:=SA.nl
 refine ⟨some_of H' [p,ln,dt],WI,⟨rfl,ln,dt,⟨⟨dx',by rw [XJ (by simp)];exact ob⟩,⟨as,by rw [XJ (by simp)];exact nl,nlen,fun i a n e1 e2=>(nod i a n e1 e2).tf Zeg⟩,by rw [XJ (by simp)];exact SA.tb⟩⟩,S.mono fun b o e=>cut_some.mpr ⟨s0 _ _ e,fun u z=>?_⟩⟩
 cases m:Yy u with
 | false=>rfl
 | true =>
   have:=Wh z m
   simp only [List.mem_cons,List.not_mem_nil,or_false] at this
   rcases this with z | z | z
   · exact absurd z (Zn e h1)
   · exact absurd z (Zn e n1)
   · exact absurd z (Zn e n2)
def Zgx (K:PySem.W.Frag)(C:Addr):Sp:=fun vs H Q _=>∃(st:Addr)(nds:List Nd)(tabs:List (Zl×V)),vs=[.ref st]∧Uj K C nds tabs st H∧Q (.int (nds.length:Int)) H
theorem scMd:Zq ["self"] ["self"] (Zj c_Store_made):=⟨rfl,rfl,rfl,by decide +kernel,rfl,by decide +kernel,by decide +kernel⟩
theorem ZjW {f:Addr}{fd:FuncData}(F:Fun K "made" "Store.made" c_Store_made f fd)(T:Txt K mg)(TC:Xm K C):FnOk P w K mg base ZF 1 f fd ["self"] (Zgx K C):=by
 refine F.ok scMd (fun vs H Q E h=>?_) (fun cdv A outer s H vs Q E hr h=>?_)
 · obtain ⟨st,nds,tabs,rfl,_⟩:=h;rfl
 obtain ⟨st,nds,tabs,rfl,⟨b0,ln,dt,⟨⟨dx,ob⟩,⟨as,nl,hl,hn⟩,tb⟩⟩,q⟩:=h
 refine ⟨_,Zi (Zk (Zu ZE rfl T.len PySem.boot_len (Zb (ZM (pv 0) rfl) Za))),?_⟩
 refine ⟨_,rfl,st,C,dx,_,_,rfl,ob,TC.cl,TC.nN,XB ln dt,ln,_,rfl,.inl (SqL.of nl),?_⟩
 rw [List.length_map,hl];exact q
def ZdY (K:PySem.W.Frag)(C:Addr):Sp:=fun vs H Q _=>∃ v,vs=[v]∧Q (.int 0) H
theorem scEm:Zq ["self"] ["self"] (Zj c_Store_empty):=⟨rfl,rfl,rfl,by decide +kernel,rfl,by decide +kernel,by decide +kernel⟩
theorem Zhl {f:Addr}{fd:FuncData}(F:Fun K "empty" "Store.empty" c_Store_empty f fd)(T:Txt K mg):FnOk P w K mg base ZF 1 f fd ["self"] (ZdY K C):=by
 refine F.ok scEm (fun vs H Q E h=>?_) (fun cdv A outer s H vs Q E hr h=>?_)
 · obtain ⟨v,rfl,_⟩:=h;rfl
 obtain ⟨v,rfl,q⟩:=h
 obtain ⟨tz,hz⟩:=T.zero
 exact ⟨_,Zi (Zk (Xa rfl hz (v:=.int 0) ⟨_,rfl⟩)),q⟩
end
end K25
set_option maxHeartbeats 2000000
namespace L2
open PySem
structure ZA where
 ah:Nat
 st:Stp
 tb:Nat
 co:Nat
def UF (ss:List Stp):YJ:=fun l h=>∃ as:List Addr,h l=some (.lst (V.non::as.map V.ref))∧as.length=ss.length∧∀(i:Nat)(a:Addr)(s:Stp),as[i]?=some a→ss[i]?=some s→h a=some (.tup s.vs)
instance {ss:List Stp}:Up (UF ss):=⟨fun ⟨as,e,l,h⟩ s=>⟨as,s _ _ e,l,fun i a x e1 e2=>s _ _ (h i a x e1 e2)⟩⟩
abbrev Us (st la ls lt lc:Addr):List (Str×V):=[("kept",.ref st),("aheads",.ref la),("steps",.ref ls),("tables",.ref lt),("costs",.ref lc)]
abbrev Zhg (K:PySem.W.Frag)(CR CS:Addr)(pls:List ZA)(nds:List Nd)(tabs:List (Zl×V))(r st la ls lt lc:Addr):Rs :=
 [(r,Zak CR (Us st la ls lt lc)),(st,Uj K CS nds tabs),(la,Yc (V.non::pls.map fun q=>V.int (q.ah:Int))),(ls,UF (pls.map (·.st))),(lt,Yc (V.int 0::pls.map fun q=>V.int (q.tb:Int))),(lc,Yc (V.int 0::pls.map fun q=>V.int (q.co:Int)))]
def Uh (K:PySem.W.Frag)(CR CS:Addr)(pls:List ZA)(nds:List Nd)(tabs:List (Zl×V)):YJ:=fun r h=>∃ st la ls lt lc,Sep (Zhg K CR CS pls nds tabs r st la ls lt lc) h
instance {K:PySem.W.Frag} {CR CS:Addr} {pls:List ZA} {nds:List Nd} {tabs:List (Zl×V)}:Up (Uh K CR CS pls nds tabs):=⟨fun ⟨st,la,ls,lt,lc,S⟩ s=>⟨st,la,ls,lt,lc,S.mono s⟩⟩
theorem Sep.roaO {K:PySem.W.Frag}{CR CS r:Addr}{pls:List ZA}{nds:List Nd}{tabs:List (Zl×V)}{Δ:Rs}{H:Hp}(S:Sep ((r,Uh K CR CS pls nds tabs)::Δ) H):∃ st la ls lt lc,Sep ((r,Zak CR (Us st la ls lt lc))::(st,Uj K CS nds tabs)::(la,Yc (V.non::pls.map fun q=>V.int (q.ah:Int)))::(ls,UF (pls.map (·.st)))::(lt,Yc (V.int 0::pls.map fun q=>V.int (q.tb:Int)))::(lc,Yc (V.int 0::pls.map fun q=>V.int (q.co:Int)))::Δ) H:=by
 obtain ⟨h,l,⟨st,la,ls,lt,lc,G⟩,S⟩:=S
 exact ⟨st,la,ls,lt,lc,Sep.nest (a:=r) (Γ:=Zhg K CR CS pls nds tabs r st la ls lt lc) l G S⟩
theorem Sep.roaC {K:PySem.W.Frag}{CR CS r st la ls lt lc:Addr}{pls:List ZA}{nds:List Nd}{tabs:List (Zl×V)}{Δ:Rs}{H:Hp}(S:Sep ((r,Zak CR (Us st la ls lt lc))::(st,Uj K CS nds tabs)::(la,Yc (V.non::pls.map fun q=>V.int (q.ah:Int)))::(ls,UF (pls.map (·.st)))::(lt,Yc (V.int 0::pls.map fun q=>V.int (q.tb:Int)))::(lc,Yc (V.int 0::pls.map fun q=>V.int (q.co:Int)))::Δ) H):Sep ((r,Uh K CR CS pls nds tabs)::Δ) H :=
 Sep.pack (Γ:=Zhg K CR CS pls nds tabs r st la ls lt lc) S fun h G=>⟨st,la,ls,lt,lc,G⟩
theorem Sep.imm {Δ:Rs}{H:Hp}{a:Addr}{o:HO}(S:Sep Δ H)(e:H a=some o)(m:Yy o=false):Sep ((a,Pt o)::Δ) H:=by
 refine ⟨one a o,fun b u q=>?_,one_some.mpr ⟨rfl,rfl⟩,S.mono fun b u q=>cut_some.mpr ⟨q,fun v z=>?_⟩⟩
 · obtain ⟨rfl,rfl⟩:=one_some.mp q;exact e
 · obtain ⟨rfl,rfl⟩:=one_some.mp z;exact m
theorem Sep.updR {Δ Δ':Rs}{H:Hp}{R T:YJ}(S:Sep Δ H)(a:Addr)(o':HO)[P:Pull a Δ R Δ'](m:∀ h,R a h→∃ o,h a=some o∧Yy o=true)
   (f:∀ h,R a h→Same h H→∀ h',h' a=some o'→(∀ b o,b≠a→h b=some o→h' b=some o)→(∀ b o,b≠a→H b=some o→Yy o=false→h' b=some o)→T a h'):Sep ((a,T)::Δ') (upd H a o'):=by
 obtain ⟨h,l,r,S⟩:=P.out S
 obtain ⟨o,ea,ma⟩:=m h r
 refine ⟨fun b=>if b=a then some o' else match h b with | some u=>some u | none=>some_of H [] b,fun b u e=>?_,f h r l _ (if_pos rfl) (fun b u nb e=>?_) (fun b u nb e mu=>?_),S.mono fun b u e=>?_⟩
 · dsimp only at e
   by_cases hb:b=a
   · rw [if_pos hb] at e;cases e;rw [hb];exact Zg
   · rw [if_neg hb] at e
     rw [Zh hb]
     cases q:h b with
     | some z=>rw [q] at e;cases e;exact l _ _ q
     | none=>rw [q] at e;exact WI _ _ e
 · rw [if_neg nb,e]
 · rw [if_neg nb]
   cases q:h b with
   | some z=>have:=l _ _ q;rw [e] at this;cases this;rfl
   | none=>exact Ut e mu
 · obtain ⟨e1,e2⟩:=cut_some.mp e
   have hb:b≠a:=fun z=>by have:=e2 o (by rw [z];exact ea);rw [ma] at this;cases this
   refine cut_some.mpr ⟨by rw [Zh hb];exact e1,fun v q=>?_⟩
   simp only [if_neg hb] at q
   cases z:h b with
   | some x=>rw [z] at q;cases q;exact e2 _ z
   | none =>
     rw [z] at q
     cases mm:Yy v with
     | false=>rfl
     | true=>have:=Wh q mm;cases this
theorem Sep.stepApp {Δ Δ':Rs}{H:Hp}{ss:List Stp}{s:Stp}{sa:Addr}{as:List Addr}(S:Sep Δ H)(l:Addr)[P:Pull l Δ (UF ss) Δ'](e:H l=some (.lst (V.non::as.map V.ref)))(es:H sa=some (.tup s.vs)):Sep ((l,UF (ss++[s]))::Δ') (upd H l (.lst (V.non::as.map V.ref++[V.ref sa]))):=by
 refine S.updR l _ (fun h ⟨as,e,_⟩=>⟨_,e,rfl⟩) fun h r l' h' e1 e2 e3=>?_
 obtain ⟨as',e4,hl,hs⟩:=r
 have e5:=l' _ _ e4
 rw [e] at e5
 have e6:as.map V.ref=as'.map V.ref:=(List.cons.inj (HO.lst.inj (Option.some.inj e5))).2
 refine ⟨as'++[sa],?_,by rw [List.length_append,List.length_append,hl];rfl,fun i a x q1 q2=>?_⟩
 · rw [e1,List.map_append,e6];rfl
 · have nsa:sa≠l:=fun z=>by rw [z,e] at es;cases es
   by_cases hi:i < as'.length
   · rw [List.getElem?_append_left hi] at q1
     rw [List.getElem?_append_left (by omega)] at q2
     have q3:=hs i a x q1 q2
     exact e2 _ _ (fun z=>by rw [z,e4] at q3;cases q3) q3
   · rw [List.getElem?_append_right (by omega)] at q1 q2
     have h0:i - as'.length=0:=by
       cases z:i - as'.length with
       | zero=>rfl
       | succ j=>rw [z] at q1;simp at q1
     rw [h0] at q1
     rw [show i - ss.length=0 by omega] at q2
     cases (show some sa=some a from q1)
     cases (show some s=some x from q2)
     exact e3 _ _ nsa es rfl
def Stp.ap:Stp→(Str→Option V)→(Str→Option V)
 | .set x v,F=>fun y=>if y=x then some v else F y
 | .clr x,F=>fun y=>if y=x then none else F y
def envs (pls:List ZA):List (Str→Option V):=pls.foldl (fun es q=>es++[q.st.ap (es.getD q.ah fun _=>none)]) [fun _=>none]
theorem ZcQ (pls:List ZA)(q:ZA):envs (pls++[q])=envs pls++[q.st.ap ((envs pls).getD q.ah fun _=>none)]:=by
 unfold envs;rw [List.foldl_append];rfl
theorem ZjS {α:Type}{P:List α→Prop}(h0:P [])(hs:∀ l a,P l→P (l++[a])):∀ l,P l:=by
 have key:∀ n (l:List α),l.length=n→P l:=by
   intro n
   induction n with
   | zero=>intro l h;rw [List.eq_nil_of_length_eq_zero h];exact h0
   | succ n ih =>
     intro l h
     have hne:l≠[]:=fun z=>by rw [z] at h;cases h
     rw [← List.dropLast_concat_getLast hne]
     exact hs _ _ (ih _ (by rw [List.length_dropLast];omega))
 exact fun l=>key _ l rfl
theorem Zan (pls:List ZA):(envs pls).length=pls.length+1:=by
 induction pls using ZjS with
 | h0=>rfl
 | hs l q ih=>rw [ZcQ,List.length_append,ih,List.length_append];rfl
end L2
set_option maxHeartbeats 4000000
namespace K25
open PySem L2
structure YH (K:PySem.W.Frag)(CR:Addr):Prop where
 cl:Cls K CR
 nk:NoAttr K CR "kept"
 na:NoAttr K CR "aheads"
 ns:NoAttr K CR "steps"
 nt:NoAttr K CR "tables"
 nc:NoAttr K CR "costs"
section
variable {P:Program}{w:World}{K:PySem.W.Frag}{mg:Str→Option Value}{base:Heap}{CR CS Pl:Addr}{NS:List Str}
theorem Zdl {st la ls lt lc:Addr}:(Us st la ls lt lc).lookup ("kept":Str)=some (V.ref st):=rfl
theorem Vm {st la ls lt lc:Addr}:(Us st la ls lt lc).lookup ("aheads":Str)=some (V.ref la):=rfl
theorem Zbp {st la ls lt lc:Addr}:(Us st la ls lt lc).lookup ("steps":Str)=some (V.ref ls):=rfl
theorem ZhI {st la ls lt lc:Addr}:(Us st la ls lt lc).lookup ("tables":Str)=some (V.ref lt):=rfl
theorem rf_c {st la ls lt lc:Addr}:(Us st la ls lt lc).lookup ("costs":Str)=some (V.ref lc):=rfl
theorem Yt {st la ls lt lc:Addr}{m:Str}(h:[("kept":Str),"aheads","steps","tables","costs"].all (fun k=>!(m == k))=true):(Us st la ls lt lc).lookup m=none:=by
 simp only [List.all_cons,List.all_nil,Bool.and_true,Bool.and_eq_true,Bool.not_eq_true'] at h
 obtain ⟨h1,h2,h3,h4,h5⟩:=h
 simp [Us,List.lookup,h1,h2,h3,h4,h5]
abbrev Ui (K:PySem.W.Frag)(CR CS:Addr)(r:Addr)(pls:List ZA)(nds:List Nd)(tabs:List (Zl×V))(H:Hp):Prop:=Uh K CR CS pls nds tabs r H
def Zay (K:PySem.W.Frag)(CR CS:Addr):Sp:=fun vs H Q _=>∃(r:Addr)(pls:List ZA)(nds:List Nd)(tabs:List (Zl×V))(k:Nat),vs=[.ref r,.int (k:Int)]∧Ui K CR CS r pls nds tabs H∧k≤pls.length∧Q .non H
abbrev nRCk:List Str:=["self","place"]
abbrev WD:List Str:=["self","place"]
theorem ZiM:Zq nRCk WD (Zj c_Roads_check_place):=⟨rfl,rfl,rfl,by decide +kernel,rfl,by decide +kernel,by decide +kernel⟩
theorem Zkb {f:Addr}{fd:FuncData}(F:Fun K "check_place" "Roads.check_place" c_Roads_check_place f fd)(T:ZY mg)(TR:YH K CR):FnOk P w K mg base ZF 1 f fd WD (Zay K CR CS):=by
 refine F.ok ZiM (fun vs H Q E h=>?_) (fun cdv A outer s H vs Q E hr h=>?_)
 · obtain ⟨r,pls,nds,tabs,k,rfl,_⟩:=h;rfl
 obtain ⟨r,pls,nds,tabs,k,rfl,⟨st,la,ls,lt,lc,S⟩,hk,q⟩:=h
 obtain ⟨dx,ob⟩:=S.get r
 refine' ⟨?t,?h,?r⟩
 case h =>
   conv=>arg 2;whnf
   with_reducible refine' (Zi (Yb ?h1 (Zi ZiR) ZR))
   case h1=>exact Xg (ZcY ZiA VM Zd (pv 1) (Zu ZE rfl T.len PySem.boot_len (Zb (ZM (pv 0) rfl) Za)))
 refine ⟨_,rfl,_,_,rfl,rfl,_,rfl,?_⟩
 rw [decide_eq_true (show (0:Int)≤(k:Int) by omega)]
 refine ZK ⟨_,rfl,r,CR,dx,_,_,rfl,ob,TR.cl,TR.na,Vm,la,_,rfl,.inl (SqL.of (S.get la)),_,_,rfl,rfl,_,rfl,?_⟩
 rw [decide_eq_true (show (k:Int) < (((V.non::pls.map fun q=>V.int (q.ah:Int)).length:Nat):Int) by rw [List.length_cons,List.length_map];omega)]
 exact ZB q
def ZcE (K:PySem.W.Frag)(CR CS:Addr):Sp:=fun vs H Q _=>∃(r:Addr)(pls:List ZA)(nds:List Nd)(tabs:List (Zl×V)),vs=[.ref r]∧Ui K CR CS r pls nds tabs H∧Q (.int ((pls.length+1:Nat):Int)) H
abbrev nRPl:List Str:=["self"]
abbrev Zev:List Str:=["self"]
theorem ZmB:Zq nRPl Zev (Zj c_Roads_places):=⟨rfl,rfl,rfl,by decide +kernel,rfl,by decide +kernel,by decide +kernel⟩
theorem Zgb {f:Addr}{fd:FuncData}(F:Fun K "places" "Roads.places" c_Roads_places f fd)(T:ZY mg)(TR:YH K CR):FnOk P w K mg base ZF 1 f fd Zev (ZcE K CR CS):=by
 refine F.ok ZmB (fun vs H Q E h=>?_) (fun cdv A outer s H vs Q E hr h=>?_)
 · obtain ⟨r,pls,nds,tabs,rfl,_⟩:=h;rfl
 obtain ⟨r,pls,nds,tabs,rfl,⟨st,la,ls,lt,lc,S⟩,q⟩:=h
 obtain ⟨dx,ob⟩:=S.get r
 refine' ⟨?t,?h,?r⟩
 case h =>
   conv=>arg 2;whnf
   with_reducible refine' (Zi ?h1)
   case h1=>exact Zk (Zu ZE rfl T.len PySem.boot_len (Zb (ZM (pv 0) rfl) Za))
 refine ⟨_,rfl,r,CR,dx,_,_,rfl,ob,TR.cl,TR.na,Vm,la,_,rfl,.inl (SqL.of (S.get la)),?_⟩
 rw [List.length_cons,List.length_map];exact q
def ahV (pls:List ZA):Nat→V
 | 0=>.non
 | k+1=>.int (((pls.getD k ⟨0,.clr "",0,0⟩).ah:Nat):Int)
theorem ZlN {pls:List ZA}{k:Nat}(h:k≤pls.length):(V.non::pls.map fun q=>V.int (q.ah:Int))[k]?=some (ahV pls k):=by
 cases k with
 | zero=>rfl
 | succ k =>
   rw [List.getElem?_cons_succ,List.getElem?_map,List.getElem?_eq_getElem (show k < pls.length by omega)]
   show some _=some (V.int _)
   rw [List.getD_eq_getElem?_getD,List.getElem?_eq_getElem (show k < pls.length by omega)]
   rfl
def VG (K:PySem.W.Frag)(CR CS:Addr):Sp:=fun vs H Q _=>∃(r:Addr)(pls:List ZA)(nds:List Nd)(tabs:List (Zl×V))(k:Nat),vs=[.ref r,.int (k:Int)]∧Ui K CR CS r pls nds tabs H∧k≤pls.length∧Q (ahV pls k) H
abbrev nRAh:List Str:=["self","place"]
abbrev ZaP:List Str:=["self","place"]
theorem Zmh:Zq nRAh ZaP (Zj c_Roads_ahead):=⟨rfl,rfl,rfl,by decide +kernel,rfl,by decide +kernel,by decide +kernel⟩
theorem ZhF {f:Addr}{fd:FuncData}(F:Fun K "ahead" "Roads.ahead" c_Roads_ahead f fd)(T:ZY mg)(TR:YH K CR)(DR_check_place:DefM P w K mg base 1 CR "check_place" WD (Zay K CR CS)):FnOk P w K mg base ZF 2 f fd ZaP (VG K CR CS):=by
 refine F.ok Zmh (fun vs H Q E h=>?_) (fun cdv A outer s H vs Q E hr h=>?_)
 · obtain ⟨r,pls,nds,tabs,k,rfl,_⟩:=h;rfl
 obtain ⟨r,pls,nds,tabs,k,rfl,R,hk,q⟩:=h
 obtain ⟨st,la,ls,lt,lc,S⟩:=id R
 obtain ⟨dx,ob⟩:=S.get r
 refine' ⟨?t,?h,?r⟩
 case h =>
   conv=>arg 2;whnf
   with_reducible refine' (Ze ?h1 (Zi ?h2))
   case h1=>exact Yg (ZZ DR_check_place TR.cl hr (pv 0) (Zb (pv 1) Za))
   case h2=>exact Zk (Zm Zt (ZM (pv 0) rfl) (pv 1) (fun _ _=>rfl))
 refine ⟨_,rfl,r,dx,_,rfl,ob,Yt (by decide +kernel),_,rfl,r,pls,nds,tabs,k,rfl,R,hk,?_⟩
 exact ⟨_,rfl,r,CR,dx,_,_,rfl,ob,TR.cl,TR.na,Vm,_,rfl,la,_,_,_,rfl,rfl,SqL.of (S.get la),Zv (ZlN hk),q⟩
end
end K25
set_option maxHeartbeats 4000000
namespace K25
open PySem L2
def bk (pls:List ZA):Nat→Nat→List Nat
 | 0,_=>[]
 | _+1,0=>[0]
 | f+1,k+1=>(k+1)::bk pls f (pls.getD k ⟨0,.clr "",0,0⟩).ah
def WfP (pls:List ZA):Prop:=∀(k:Nat)(q:ZA),pls[k]?=some q→q.ah≤k
theorem WfP.at {pls:List ZA}(h:WfP pls){k:Nat}(hk:k < pls.length):(pls.getD k ⟨0,.clr "",0,0⟩).ah≤k:=by
 have e:=List.getElem?_eq_getElem hk
 rw [List.getD_eq_getElem?_getD,e]
 exact h k _ e
theorem Zgd (pls:List ZA):∀ f k,(bk pls f k).length≤f
 | 0,_=>Nat.le_refl _
 | f+1,0=>by show 1≤f+1;omega
 | f+1,k+1=>by show (bk pls f _).length+1≤f+1;have:=Zgd pls f (pls.getD k ⟨0,.clr "",0,0⟩).ah;omega
theorem ZdQ {pls:List ZA}(h:WfP pls):∀ k,k≤pls.length→∀ f,k+1≤f→bk pls f k=bk pls (k+1) k:=by
 intro k
 induction k using Nat.strongRecOn with
 | ind k ih =>
   intro hk f hf
   cases k with
   | zero=>obtain ⟨g,rfl⟩:∃ g,f=g+1:=⟨f - 1,by omega⟩;rfl
   | succ k =>
     obtain ⟨g,rfl⟩:∃ g,f=g+1:=⟨f - 1,by omega⟩
     have ha:=h.at (show k < pls.length by omega)
     show (k+1)::bk pls g _=(k+1)::bk pls (k+1) _
     rw [ih _ (by omega) (by omega) g (by omega),ih _ (by omega) (by omega) (k+1) (by omega)]
section
variable {P:Program}{w:World}{K:PySem.W.Frag}{mg:Str→Option Value}{base:Heap}{CR CS Pl:Addr}{NS:List Str}
def UB (pls:List ZA)(k:Nat)(v:V)(H:Hp):Prop:=match k with
 | 0=>v=.non
 | k+1=>∃ a s,v=.ref a∧(pls.map (·.st))[k]?=some s∧H a=some (.tup s.vs)
def VF (K:PySem.W.Frag)(CR CS:Addr):Sp:=fun vs H Q _=>∃(r:Addr)(pls:List ZA)(nds:List Nd)(tabs:List (Zl×V))(k:Nat),vs=[.ref r,.int (k:Int)]∧Ui K CR CS r pls nds tabs H∧k≤pls.length∧∀ v,UB pls k v H→Q v H
abbrev nRSt:List Str:=["self","place"]
abbrev Uf:List Str:=["self","place"]
theorem ZiG:Zq nRSt Uf (Zj c_Roads_step):=⟨rfl,rfl,rfl,by decide +kernel,rfl,by decide +kernel,by decide +kernel⟩
theorem ZhT {f:Addr}{fd:FuncData}(F:Fun K "step" "Roads.step" c_Roads_step f fd)(T:ZY mg)(TR:YH K CR)(DR_check_place:DefM P w K mg base 1 CR "check_place" WD (Zay K CR CS)):FnOk P w K mg base ZF 2 f fd Uf (VF K CR CS):=by
 refine F.ok ZiG (fun vs H Q E h=>?_) (fun cdv A outer s H vs Q E hr h=>?_)
 · obtain ⟨r,pls,nds,tabs,k,rfl,_⟩:=h;rfl
 obtain ⟨r,pls,nds,tabs,k,rfl,R,hk,q⟩:=h
 obtain ⟨st,la,ls,lt,lc,S⟩:=id R
 obtain ⟨dx,ob⟩:=S.get r
 obtain ⟨as,els,hal,hst⟩:=S.get ls
 refine' ⟨?t,?h,?r⟩
 case h =>
   conv=>arg 2;whnf
   with_reducible refine' (Ze ?h1 (Zi ?h2))
   case h1=>exact Yg (ZZ DR_check_place TR.cl hr (pv 0) (Zb (pv 1) Za))
   case h2=>exact Zk (Zm Zt (ZM (pv 0) rfl) (pv 1) (fun _ _=>rfl))
 refine ⟨_,rfl,r,dx,_,rfl,ob,Yt (by decide +kernel),_,rfl,r,pls,nds,tabs,k,rfl,R,hk,?_⟩
 rw [List.length_map] at hal
 cases k with
 | zero=>exact ⟨_,rfl,r,CR,dx,_,_,rfl,ob,TR.cl,TR.ns,Zbp,_,rfl,ls,_,_,_,rfl,rfl,SqL.of els,Zv rfl,q _ rfl⟩
 | succ k =>
   have ha:=List.getElem?_eq_getElem (show k < as.length by omega)
   have hs:(pls.map (·.st))[k]?=some pls[k].st:=by rw [List.getElem?_map,List.getElem?_eq_getElem (show k < pls.length by omega)];rfl
   exact ⟨_,rfl,r,CR,dx,_,_,rfl,ob,TR.cl,TR.ns,Zbp,_,rfl,ls,_,_,_,rfl,rfl,SqL.of els,Zv (show (V.non::as.map V.ref)[k+1]?=some (.ref as[k]) by rw [List.getElem?_cons_succ,List.getElem?_map,ha];rfl),q _ ⟨_,_,rfl,hs,hst k _ _ ha hs⟩⟩
def tbN (pls:List ZA):Nat→Nat
 | 0=>0
 | k+1=>(pls.getD k ⟨0,.clr "",0,0⟩).tb
theorem Zdu {pls:List ZA}{k:Nat}(h:k≤pls.length):(0::pls.map (·.tb))[k]?=some (tbN pls k):=by
 cases k with
 | zero=>rfl
 | succ k =>
   rw [List.getElem?_cons_succ,List.getElem?_map,List.getElem?_eq_getElem (show k < pls.length by omega)]
   show some _=some (pls.getD k ⟨0,.clr "",0,0⟩).tb
   rw [List.getD_eq_getElem?_getD,List.getElem?_eq_getElem (show k < pls.length by omega)]
   rfl
theorem Zle {pls:List ZA}{k:Nat}(h:k≤pls.length):(V.int 0::pls.map fun q=>V.int (q.tb:Int))[k]?=some (.int (tbN pls k:Int)):=by
 have e:(V.int 0::pls.map fun q=>V.int (q.tb:Int))=(0::pls.map (·.tb)).map fun n:Nat=>V.int (n:Int):=by rw [List.map_cons,List.map_map];rfl
 rw [e,List.getElem?_map,Zdu h];rfl
def ZdJ (K:PySem.W.Frag)(CR CS:Addr):Sp:=fun vs H Q _=>∃(r:Addr)(pls:List ZA)(nds:List Nd)(tabs:List (Zl×V))(k:Nat),vs=[.ref r,.int (k:Int)]∧Ui K CR CS r pls nds tabs H∧k≤pls.length∧Q (.int (tbN pls k:Int)) H
abbrev nRTa:List Str:=["self","place"]
abbrev Zfq:List Str:=["self","place"]
theorem Zmt:Zq nRTa Zfq (Zj c_Roads_table):=⟨rfl,rfl,rfl,by decide +kernel,rfl,by decide +kernel,by decide +kernel⟩
theorem Zin {f:Addr}{fd:FuncData}(F:Fun K "table" "Roads.table" c_Roads_table f fd)(T:ZY mg)(TR:YH K CR)(DR_check_place:DefM P w K mg base 1 CR "check_place" WD (Zay K CR CS)):FnOk P w K mg base ZF 2 f fd Zfq (ZdJ K CR CS):=by
 refine F.ok Zmt (fun vs H Q E h=>?_) (fun cdv A outer s H vs Q E hr h=>?_)
 · obtain ⟨r,pls,nds,tabs,k,rfl,_⟩:=h;rfl
 obtain ⟨r,pls,nds,tabs,k,rfl,R,hk,q⟩:=h
 obtain ⟨st,la,ls,lt,lc,S⟩:=id R
 obtain ⟨dx,ob⟩:=S.get r
 refine' ⟨?t,?h,?r⟩
 case h =>
   conv=>arg 2;whnf
   with_reducible refine' (Ze ?h1 (Zi ?h2))
   case h1=>exact Yg (ZZ DR_check_place TR.cl hr (pv 0) (Zb (pv 1) Za))
   case h2=>exact Zk (Zm Zt (ZM (pv 0) rfl) (pv 1) (fun _ _=>rfl))
 refine ⟨_,rfl,r,dx,_,rfl,ob,Yt (by decide +kernel),_,rfl,r,pls,nds,tabs,k,rfl,R,hk,?_⟩
 exact ⟨_,rfl,r,CR,dx,_,_,rfl,ob,TR.cl,TR.nt,ZhI,_,rfl,lt,_,_,_,rfl,rfl,SqL.of (S.get lt),Zv (Zle hk),q⟩
def nV (n:Nat):V:=.int (n:Int)
end
end K25
set_option maxHeartbeats 4000000
namespace K25
open PySem L2
structure RInv (NS:List Str)(pls:List ZA)(nds:List Nd)(tabs:List (Zl×V)):Prop where
 wf:WfP pls
 tr:∀ (k:Nat) (F:Str→Option V) (t:Nat),(envs pls)[k]?=some F→(0::pls.map (·.tb))[k]?=some t→(ZQ tabs (Sum.inl (t:Int))).isSome=true∧Tri NS nds F 5 0 0 t∧∀ x u,F x=some u→YR u
theorem Zbo {v:V}(h:YR v):ValV v:=by
 cases v<;>first | trivial | exact h.elim
theorem RInv.app {NS:List Str}{pls:List ZA}{nds nds':List Nd}{tabs tabs':List (Zl×V)}(I:RInv NS pls nds tabs){q:ZA}{F:Str→Option V}(hk:q.ah≤pls.length)(hF:(envs pls)[q.ah]?=some F)(ext:NEx nds nds')
   (mono:∀ k,(ZQ tabs k).isSome=true→(ZQ tabs' k).isSome=true) (ht:(ZQ tabs' (Sum.inl (q.tb:Int))).isSome=true) (tri:Tri NS nds' (q.st.ap F) 5 0 0 q.tb) (hv:∀ x v,q.st=.set x v→YR v):RInv NS (pls++[q]) nds' tabs':=by
 have hfv:=(I.tr q.ah F _ hF (Zdu hk)).2.2
 refine ⟨fun k p e=>?_,fun k G t e1 e2=>?_⟩
 · by_cases h:k < pls.length
   · rw [List.getElem?_append_left h] at e;exact I.wf k p e
   · rw [List.getElem?_append_right (by omega)] at e
     have:k - pls.length=0:=by
       cases z:k - pls.length with
       | zero=>rfl
       | succ j=>rw [z] at e;simp at e
     rw [this] at e
     cases (show some q=some p from e)
     omega
 · rw [ZcQ] at e1
   by_cases h:k < (envs pls).length
   · rw [List.getElem?_append_left h] at e1
     have e2':(0::pls.map (·.tb))[k]?=some t:=by
       rw [List.map_append,← List.cons_append,List.getElem?_append_left (by rw [List.length_cons,List.length_map];rw [Zan] at h;exact h)] at e2
       exact e2
     obtain ⟨g1,g2,g3⟩:=I.tr k G t e1 e2'
     exact ⟨mono _ g1,Tri.mono 5 g2 ext,g3⟩
   · rw [List.getElem?_append_right (by omega)] at e1
     have hz:k - (envs pls).length=0:=by
       cases z:k - (envs pls).length with
       | zero=>rfl
       | succ j=>rw [z] at e1;simp at e1
     rw [hz] at e1
     have e1':q.st.ap ((envs pls).getD q.ah fun _=>none)=G:=Option.some.inj e1
     rw [List.getD_eq_getElem?_getD,hF] at e1'
     have ek:k=pls.length+1:=by rw [Zan] at h hz;omega
     have e2':q.tb=t:=by
       rw [ek,List.getElem?_cons_succ,List.map_append,List.getElem?_append_right (by rw [List.length_map];omega),List.length_map,Nat.sub_self] at e2
       exact Option.some.inj e2
     subst e1' e2'
     refine ⟨ht,tri,fun x u hu=>?_⟩
     have hu:q.st.ap F x=some u:=hu
     cases es:q.st with
     | set y v =>
       rw [es] at hu
       have hu:(if x=y then some v else F x)=some u:=hu
       by_cases z:x=y
       · rw [if_pos z] at hu;cases hu;exact hv y _ es
       · rw [if_neg z] at hu;exact hfv x u hu
     | clr y =>
       rw [es] at hu
       have hu:(if x=y then none else F x)=some u:=hu
       by_cases z:x=y
       · rw [if_pos z] at hu;cases hu
       · rw [if_neg z] at hu;exact hfv x u hu
section
variable {P:Program}{w:World}{K:PySem.W.Frag}{mg:Str→Option Value}{base:Heap}{CR CS Pl:Addr}
def ZgX (K:PySem.W.Frag)(CR CS Pl:Addr):Sp:=fun vs H Q _=>∃(NS:List Str)(r sa:Addr)(pls:List ZA)(nds:List Nd)(tabs:List (Zl×V))(k:Nat)(s:Stp)(Δ:Rs),vs=[.ref r,.int (k:Int),.ref sa]∧Yv NS∧Sep ((r,Uh K CR CS pls nds tabs)::(Pl,Xl)::Δ) H∧H sa=some (.tup s.vs)∧RInv NS pls nds tabs∧s.ok NS∧k≤pls.length∧pls.length≤10000∧nds.length≤90000∧tabs.length≤90000 ∧
 ∀ (H':Hp) (nds':List Nd) (tabs':List (Zl×V)) (t':Nat),Sep ((r,Uh K CR CS (pls++[⟨k,s,t',nds'.length - nds.length⟩]) nds' tabs')::(Pl,Xl)::Δ) H'→RInv NS (pls++[⟨k,s,t',nds'.length - nds.length⟩]) nds' tabs'→NEx nds nds'→nds'.length≤nds.length+6→tabs'.length≤tabs.length+1→Q (.int ((pls.length+1:Nat):Int)) H'
theorem NEx.len {nds nds':List Nd}(h:NEx nds nds'):nds.length≤nds'.length:=by
 cases e:nds.length with
 | zero=>omega
 | succ n =>
   have hl:n < nds.length:=by omega
   have:=(List.getElem?_eq_some_iff.mp (h n _ (List.getElem?_eq_getElem hl))).1
   omega
abbrev nRGo:List Str:=["self","place","step","table","made_ahead"]
abbrev Zcj:List Str:=["self","place","step"]
theorem scRGo:Zq nRGo Zcj (Zj c_Roads_go_on):=⟨rfl,rfl,rfl,by decide +kernel,rfl,by decide +kernel,by decide +kernel⟩
theorem Zki {f:Addr}{fd:FuncData}(F:Fun K "go_on" "Roads.go_on" c_Roads_go_on f fd)(T:ZY mg)(TR:YH K CR)(TC:Xm K CS)(DR_table:DefM P w K mg base 9 CR "table" Zfq (ZdJ K CR CS))(DS_made:DefM P w K mg base 9 CS "made" ["self"] (Zgx K CS))
   (DS_put:DefM P w K mg base 9 CS "put" ["self","table","name","value"] (Zde K CS Pl)) (DS_without:DefM P w K mg base 9 CS "without" ["self","table","name"] (ZeP K CS Pl)):FnOk P w K mg base ZF 10 f fd Zcj (ZgX K CR CS Pl):=by
 refine F.ok scRGo (fun vs H Q E h=>?_) (fun cdv A outer s H vs Q E hr h=>?_)
 · obtain ⟨NS,r,sa,pls,nds,tabs,k,s,Δ,rfl,_⟩:=h;rfl
 obtain ⟨NS,r,sa,pls,nds,tabs,k,s,Δ,rfl,N,S0,es,I,hs,hk,hpl,hnd,htb,q⟩:=h
 obtain ⟨st,la,ls,lt,lc,S⟩:=S0.roaO
 obtain ⟨dx,ob⟩:=S.get r
 obtain ⟨b0,ln,dt,SA⟩:=S.get st
 obtain ⟨dxs,obs⟩:=SA.ob
 obtain ⟨Fk,hFk⟩:∃ Fk,(envs pls)[k]?=some Fk:=⟨_,List.getElem?_eq_getElem (by rw [Zan];omega)⟩
 obtain ⟨g1,g2,g3⟩:=I.tr k Fk _ hFk (Zdu hk)
 refine' ⟨?t,?h,?r⟩
 case h =>
   conv=>arg 2;whnf
   with_reducible refine' (Ze ?h1 (Ze ?h2 (Ze (Yb ?h3 (Zi ?h4) (Zi ?h5)) (Ze ?h6 (Ze ?h7 (Ze ?h8 (Ze ?h9 (Zi ?h10))))))))
   case h1=>exact Zx (i:=3) scRGo.nd rfl (Or.inl rfl) (ZZ DR_table TR.cl hr (pv 0) (Zb (pv 1) Za))
   case h2=>exact Zx (i:=4) scRGo.nd rfl (Or.inl rfl) (Zcb DS_made TC.cl hr (ZM (pv 0) rfl))
   case h3=>exact ZJ Yh (Zm ZS (pv 2) Zd (fun _ _=>rfl)) ZH (ZC _)
   case h4=>exact Zx (i:=3) scRGo.nd rfl (Or.inl rfl) (ZZ DS_put TC.cl hr (ZM (pv 0) rfl) (Zb (pv 3) (Zb (Zm ZS (pv 2) Zd (fun _ _=>rfl)) (Zb (Zm ZS (pv 2) Zd (fun _ _=>rfl)) Za))))
   case h5=>exact Zx (i:=3) scRGo.nd rfl (Or.inl rfl) (ZZ DS_without TC.cl hr (ZM (pv 0) rfl) (Zb (pv 3) (Zb (Zm ZS (pv 2) Zd (fun _ _=>rfl)) Za)))
   case h6=>exact Yg (YS PySem.F.plainAttrs_list PySem.F.slot_list_append PySem.F.type_list_append Yf (ZM (pv 0) rfl) (Zb (pv 1) Za))
   case h7=>exact Yg (YS PySem.F.plainAttrs_list PySem.F.slot_list_append PySem.F.type_list_append Yf (ZM (pv 0) rfl) (Zb (pv 2) Za))
   case h8=>exact Yg (YS PySem.F.plainAttrs_list PySem.F.slot_list_append PySem.F.type_list_append Yf (ZM (pv 0) rfl) (Zb (pv 3) Za))
   case h9=>exact Yg (YS PySem.F.plainAttrs_list PySem.F.slot_list_append PySem.F.type_list_append Yf (ZM (pv 0) rfl) (Zb (Zw YA (Zcb DS_made TC.cl hr (ZM (pv 0) rfl)) (pv 4)) Za))
   case h10=>exact Zk (Zw YA (Zu ZE rfl T.len PySem.boot_len (Zb (ZM (pv 0) rfl) Za)) Zd)
 refine ⟨_,rfl,r,dx,_,rfl,ob,Yt (by decide +kernel),_,rfl,r,pls,nds,tabs,k,rfl,S0.get r,hk,?_⟩
 refine ⟨_,rfl,r,CR,dx,_,_,rfl,ob,TR.cl,TR.nk,Zdl,st,dxs,_,rfl,obs,ZU ln dt (by decide +kernel) (by decide +kernel),st,nds,tabs,rfl,S.get st,?_⟩
 have S1:=((S.imm es rfl).pull Pl).pull st
 cases s with
 | set x v =>
   obtain ⟨hx,hv⟩:=hs
   refine ⟨_,rfl,sa,_,_,_,rfl,rfl,SqT.of es,Zv (j:=0) rfl,rfl,_,rfl,?_⟩
   rw [decide_eq_true rfl]
   refine ZK ⟨_,rfl,r,CR,dx,_,_,rfl,ob,TR.cl,TR.nk,Zdl,st,dxs,_,rfl,obs,ZU ln dt (by decide +kernel) (by decide +kernel),_,rfl,_,rfl,sa,_,_,_,rfl,rfl,SqT.of es,Zv (j:=1) rfl,_,rfl,sa,_,_,_,rfl,rfl,SqT.of es,Zv (j:=2) rfl,?_⟩
   refine ⟨NS,st,nds,tabs,tbN pls k,x,v,Fk,_,N,rfl,S1,g1,g2,hx,Zbo hv,fun u hu=>Zbo (g3 x u hu),by omega,by omega,fun H2 nds2 tabs2 t2 S2 ext2 len2 tl2 mono2 ht2 tri2=>?_⟩
   have I2:=RInv.app (q:=⟨k,.set x v,t2,nds2.length - nds.length⟩) I hk hFk ext2 mono2 ht2 tri2 (fun y u e=>by cases e;exact hv)
   revert S2 I2
   generalize Stp.set x v=s at *
   intro S2 I2
   obtain ⟨dx2,ob2⟩:=S2.get r
   refine ⟨_,rfl,r,CR,dx2,_,_,rfl,ob2,TR.cl,TR.na,Vm,.inl ⟨rfl,_,SqL.of (S2.get la)⟩,_,rfl,la,_,_,rfl,rfl,S2.get la,YT (show _≤20000 by rw [List.length_cons,List.length_map];omega),?_⟩
   generalize hE:upd H2 la _=H3
   have S3:=S2.putE hE
   clear hE
   obtain ⟨dx3,ob3⟩:=S3.get r
   obtain ⟨as3,els,hal,_⟩:=S3.get ls
   rw [List.length_map] at hal
   refine ⟨_,rfl,r,CR,dx3,_,_,rfl,ob3,TR.cl,TR.ns,Zbp,.inl ⟨rfl,_,SqL.of els⟩,_,rfl,ls,_,_,rfl,rfl,els,YT (show _≤20000 by rw [List.length_cons,List.length_map];omega),?_⟩
   generalize hE:upd H3 ls _=H4
   have S4:=hE ▸ S3.stepApp ls els (S3.get sa)
   clear hE
   obtain ⟨dx4,ob4⟩:=S4.get r
   refine ⟨_,rfl,r,CR,dx4,_,_,rfl,ob4,TR.cl,TR.nt,ZhI,.inl ⟨rfl,_,SqL.of (S4.get lt)⟩,_,rfl,lt,_,_,rfl,rfl,S4.get lt,YT (show _≤20000 by rw [List.length_cons,List.length_map];omega),?_⟩
   generalize hE:upd H4 lt _=H5
   have S5:=S4.putE hE
   clear hE
   obtain ⟨dx5,ob5⟩:=S5.get r
   obtain ⟨_,ln5,dt5,SA5⟩:=S5.get st
   obtain ⟨dxs5,obs5⟩:=SA5.ob
   refine ⟨_,rfl,r,CR,dx5,_,_,rfl,ob5,TR.cl,TR.nc,rf_c,.inl ⟨rfl,_,SqL.of (S5.get lc)⟩,_,rfl,r,CR,dx5,_,_,rfl,ob5,TR.cl,TR.nk,Zdl,st,dxs5,_,rfl,obs5,ZU ln5 dt5 (by decide +kernel) (by decide +kernel),st,nds2,tabs2,rfl,S5.get st,_,rfl,_,_,rfl,rfl,lc,_,_,rfl,rfl,S5.get lc,YT (show _≤20000 by rw [List.length_cons,List.length_map];omega),?_⟩
   generalize hE:upd H5 lc _=H6
   have S6:=S5.putE hE
   clear hE
   obtain ⟨dx6,ob6⟩:=S6.get r
   refine ⟨_,rfl,r,CR,dx6,_,_,rfl,ob6,TR.cl,TR.na,Vm,la,_,rfl,.inl (SqL.of (S6.get la)),_,_,rfl,rfl,?_⟩
   have hle:=ext2.len
   have ec:V.int ((nds2.length:Int) - (nds.length:Int))=V.int ((nds2.length - nds.length:Nat):Int):=congrArg V.int (by omega)
   have S7:=(((((((S6.drop sa).pull Pl).pull lc).pull lt).pull ls).pull la).pull st).pull r
   have S8:Sep ((r,Zak CR (Us st la ls lt lc))::(st,Uj K CS nds2 tabs2)::(la,Yc (V.non::(pls++[(⟨k,s,t2,nds2.length - nds.length⟩:ZA)]).map fun q=>V.int (q.ah:Int)))::(ls,UF ((pls++[(⟨k,s,t2,nds2.length - nds.length⟩:ZA)]).map (·.st)))::(lt,Yc (V.int 0::(pls++[(⟨k,s,t2,nds2.length - nds.length⟩:ZA)]).map fun q=>V.int (q.tb:Int)))::(lc,Yc (V.int 0::(pls++[(⟨k,s,t2,nds2.length - nds.length⟩:ZA)]).map fun q=>V.int (q.co:Int)))::(Pl,Xl)::Δ) H6:=by
     rw [List.map_append,List.map_append,List.map_append,List.map_append]
     show Sep (_::_::_::_::_::(lc,Yc (V.int 0::(pls.map (fun q=>V.int (q.co:Int))++[V.int ((nds2.length - nds.length:Nat):Int)])))::_) _
     rw [← ec]
     exact S7
   have e9:(((V.non::pls.map fun q=>V.int (q.ah:Int))++[V.int (k:Int)]).length:Int) - 1=((pls.length+1:Nat):Int):=by rw [List.length_append,List.length_cons,List.length_map];show ((pls.length+1+1:Nat):Int) - 1=_;omega
   have:=q H6 nds2 tabs2 t2 S8.roaC I2 ext2 len2 tl2
   rw [← e9] at this
   exact this
 | clr x =>
   refine ⟨_,rfl,sa,_,_,_,rfl,rfl,SqT.of es,Zv (j:=0) rfl,rfl,_,rfl,?_⟩
   rw [show decide (V.str "clear"=V.str (Str.ofString "set"))=false by decide +kernel]
   refine ZB ⟨_,rfl,r,CR,dx,_,_,rfl,ob,TR.cl,TR.nk,Zdl,st,dxs,_,rfl,obs,ZU ln dt (by decide +kernel) (by decide +kernel),_,rfl,_,rfl,sa,_,_,_,rfl,rfl,SqT.of es,Zv (j:=1) rfl,?_⟩
   refine ⟨NS,st,nds,tabs,tbN pls k,x,Fk,_,N,rfl,S1,g1,g2,hs,fun u hu=>Zbo (g3 x u hu),by omega,by omega,fun H2 nds2 tabs2 t2 S2 ext2 len2 tl2 mono2 ht2 tri2=>?_⟩
   have I2:=RInv.app (q:=⟨k,.clr x,t2,nds2.length - nds.length⟩) I hk hFk ext2 mono2 ht2 tri2 (fun y u e=>by cases e)
   revert S2 I2
   generalize Stp.clr x=s at *
   intro S2 I2
   obtain ⟨dx2,ob2⟩:=S2.get r
   refine ⟨_,rfl,r,CR,dx2,_,_,rfl,ob2,TR.cl,TR.na,Vm,.inl ⟨rfl,_,SqL.of (S2.get la)⟩,_,rfl,la,_,_,rfl,rfl,S2.get la,YT (show _≤20000 by rw [List.length_cons,List.length_map];omega),?_⟩
   generalize hE:upd H2 la _=H3
   have S3:=S2.putE hE
   clear hE
   obtain ⟨dx3,ob3⟩:=S3.get r
   obtain ⟨as3,els,hal,_⟩:=S3.get ls
   rw [List.length_map] at hal
   refine ⟨_,rfl,r,CR,dx3,_,_,rfl,ob3,TR.cl,TR.ns,Zbp,.inl ⟨rfl,_,SqL.of els⟩,_,rfl,ls,_,_,rfl,rfl,els,YT (show _≤20000 by rw [List.length_cons,List.length_map];omega),?_⟩
   generalize hE:upd H3 ls _=H4
   have S4:=hE ▸ S3.stepApp ls els (S3.get sa)
   clear hE
   obtain ⟨dx4,ob4⟩:=S4.get r
   refine ⟨_,rfl,r,CR,dx4,_,_,rfl,ob4,TR.cl,TR.nt,ZhI,.inl ⟨rfl,_,SqL.of (S4.get lt)⟩,_,rfl,lt,_,_,rfl,rfl,S4.get lt,YT (show _≤20000 by rw [List.length_cons,List.length_map];omega),?_⟩
   generalize hE:upd H4 lt _=H5
   have S5:=S4.putE hE
   clear hE
   obtain ⟨dx5,ob5⟩:=S5.get r
   obtain ⟨_,ln5,dt5,SA5⟩:=S5.get st
   obtain ⟨dxs5,obs5⟩:=SA5.ob
   refine ⟨_,rfl,r,CR,dx5,_,_,rfl,ob5,TR.cl,TR.nc,rf_c,.inl ⟨rfl,_,SqL.of (S5.get lc)⟩,_,rfl,r,CR,dx5,_,_,rfl,ob5,TR.cl,TR.nk,Zdl,st,dxs5,_,rfl,obs5,ZU ln5 dt5 (by decide +kernel) (by decide +kernel),st,nds2,tabs2,rfl,S5.get st,_,rfl,_,_,rfl,rfl,lc,_,_,rfl,rfl,S5.get lc,YT (show _≤20000 by rw [List.length_cons,List.length_map];omega),?_⟩
   generalize hE:upd H5 lc _=H6
   have S6:=S5.putE hE
   clear hE
   obtain ⟨dx6,ob6⟩:=S6.get r
   refine ⟨_,rfl,r,CR,dx6,_,_,rfl,ob6,TR.cl,TR.na,Vm,la,_,rfl,.inl (SqL.of (S6.get la)),_,_,rfl,rfl,?_⟩
   have hle:=ext2.len
   have ec:V.int ((nds2.length:Int) - (nds.length:Int))=V.int ((nds2.length - nds.length:Nat):Int):=congrArg V.int (by omega)
   have S7:=(((((((S6.drop sa).pull Pl).pull lc).pull lt).pull ls).pull la).pull st).pull r
   have S8:Sep ((r,Zak CR (Us st la ls lt lc))::(st,Uj K CS nds2 tabs2)::(la,Yc (V.non::(pls++[(⟨k,s,t2,nds2.length - nds.length⟩:ZA)]).map fun q=>V.int (q.ah:Int)))::(ls,UF ((pls++[(⟨k,s,t2,nds2.length - nds.length⟩:ZA)]).map (·.st)))::(lt,Yc (V.int 0::(pls++[(⟨k,s,t2,nds2.length - nds.length⟩:ZA)]).map fun q=>V.int (q.tb:Int)))::(lc,Yc (V.int 0::(pls++[(⟨k,s,t2,nds2.length - nds.length⟩:ZA)]).map fun q=>V.int (q.co:Int)))::(Pl,Xl)::Δ) H6:=by
     rw [List.map_append,List.map_append,List.map_append,List.map_append]
     show Sep (_::_::_::_::_::(lc,Yc (V.int 0::(pls.map (fun q=>V.int (q.co:Int))++[V.int ((nds2.length - nds.length:Nat):Int)])))::_) _
     rw [← ec]
     exact S7
   have e9:(((V.non::pls.map fun q=>V.int (q.ah:Int))++[V.int (k:Int)]).length:Int) - 1=((pls.length+1:Nat):Int):=by rw [List.length_append,List.length_cons,List.length_map];show ((pls.length+1+1:Nat):Int) - 1=_;omega
   have:=q H6 nds2 tabs2 t2 S8.roaC I2 ext2 len2 tl2
   rw [← e9] at this
   exact this
end
end K25
set_option maxHeartbeats 4000000
namespace K25
open PySem L2
section
variable {P:Program}{w:World}{K:PySem.W.Frag}{mg:Str→Option Value}{base:Heap}{CR CS Pl:Addr}
def GoP (K:PySem.W.Frag)(CR CS Pl:Addr)(NS:List Str)(r:Addr)(pls:List ZA)(nds:List Nd)(tabs:List (Zl×V))(k:Nat)(s:Stp)(Δ:Rs)(H:Hp)(Q:VK):Prop :=
 Yv NS∧Sep ((r,Uh K CR CS pls nds tabs)::(Pl,Xl)::Δ) H∧RInv NS pls nds tabs∧s.ok NS∧k≤pls.length∧pls.length≤10000∧nds.length≤90000∧tabs.length≤90000 ∧
 ∀ (H':Hp) (nds':List Nd) (tabs':List (Zl×V)) (t':Nat),Sep ((r,Uh K CR CS (pls++[⟨k,s,t',nds'.length - nds.length⟩]) nds' tabs')::(Pl,Xl)::Δ) H'→RInv NS (pls++[⟨k,s,t',nds'.length - nds.length⟩]) nds' tabs'→nds'.length≤nds.length+6→tabs'.length≤tabs.length+1→Q (.int ((pls.length+1:Nat):Int)) H'
def Zga (K:PySem.W.Frag)(CR CS Pl:Addr):Sp:=fun vs H Q _=>∃(NS:List Str)(r:Addr)(pls:List ZA)(nds:List Nd)(tabs:List (Zl×V))(k:Nat)(x:Str)(v:V)(Δ:Rs),vs=[.ref r,.int (k:Int),.str x,v]∧GoP K CR CS Pl NS r pls nds tabs k (.set x v) Δ H Q
def ZgE (K:PySem.W.Frag)(CR CS Pl:Addr):Sp:=fun vs H Q _=>∃(NS:List Str)(r:Addr)(pls:List ZA)(nds:List Nd)(tabs:List (Zl×V))(k:Nat)(x:Str)(Δ:Rs),vs=[.ref r,.int (k:Int),.str x]∧GoP K CR CS Pl NS r pls nds tabs k (.clr x) Δ H Q
abbrev nRPu:List Str:=["self","place","name","value"]
abbrev Zey:List Str:=["self","place","name","value"]
theorem ZlW:Zq nRPu Zey (Zj c_Roads_put):=⟨rfl,rfl,rfl,by decide +kernel,rfl,by decide +kernel,by decide +kernel⟩
theorem ZjR {f:Addr}{fd:FuncData}(F:Fun K "put" "Roads.put" c_Roads_put f fd)(T:ZY mg)(TR:YH K CR)(DR_go_on:DefM P w K mg base 10 CR "go_on" Zcj (ZgX K CR CS Pl)):FnOk P w K mg base ZF 11 f fd Zey (Zga K CR CS Pl):=by
 refine F.ok ZlW (fun vs H Q E h=>?_) (fun cdv A outer s H vs Q E hr h=>?_)
 · obtain ⟨NS,r,pls,nds,tabs,k,x,v,Δ,rfl,_⟩:=h;rfl
 obtain ⟨NS,r,pls,nds,tabs,k,x,v,Δ,rfl,N,S0,I,hs,hk,h1,h2,h3,q⟩:=h
 obtain ⟨st,la,ls,lt,lc,SR⟩:=S0.get r
 obtain ⟨dx,ob⟩:=SR.get r
 refine' ⟨?t,?h,?r⟩
 case h =>
   conv=>arg 2;whnf
   with_reducible refine' (Zi ?h1)
   case h1=>exact Zk (ZZ DR_go_on TR.cl hr (pv 0) (Zb (pv 1) (Zb (YM (Zb ZH (Zb (pv 2) (Zb (pv 3) Za)))) Za)))
 refine ⟨_,rfl,r,dx,_,rfl,ob,Yt (by decide +kernel),_,rfl,_,rfl,_,rfl,(by show 3≤sizeLine;decide),fun t ht=>?_⟩
 exact ⟨NS,r,t,pls,nds,tabs,k,.set x v,Δ,rfl,N,(S0.new ht _).drop t,Zg,I,hs,hk,h1,h2,h3,fun H' nds' tabs' t' S' I' _ l1 l2=>q H' nds' tabs' t' S' I' l1 l2⟩
abbrev nRCl:List Str:=["self","place","name"]
abbrev Zfk:List Str:=["self","place","name"]
theorem ZlQ:Zq nRCl Zfk (Zj c_Roads_clear):=⟨rfl,rfl,rfl,by decide +kernel,rfl,by decide +kernel,by decide +kernel⟩
theorem Zkf {f:Addr}{fd:FuncData}(F:Fun K "clear" "Roads.clear" c_Roads_clear f fd)(T:ZY mg)(TR:YH K CR)(DR_go_on:DefM P w K mg base 10 CR "go_on" Zcj (ZgX K CR CS Pl)):FnOk P w K mg base ZF 11 f fd Zfk (ZgE K CR CS Pl):=by
 refine F.ok ZlQ (fun vs H Q E h=>?_) (fun cdv A outer s H vs Q E hr h=>?_)
 · obtain ⟨NS,r,pls,nds,tabs,k,x,Δ,rfl,_⟩:=h;rfl
 obtain ⟨NS,r,pls,nds,tabs,k,x,Δ,rfl,N,S0,I,hs,hk,h1,h2,h3,q⟩:=h
 obtain ⟨st,la,ls,lt,lc,SR⟩:=S0.get r
 obtain ⟨dx,ob⟩:=SR.get r
 refine' ⟨?t,?h,?r⟩
 case h =>
   conv=>arg 2;whnf
   with_reducible refine' (Zi ?h1)
   case h1=>exact Zk (ZZ DR_go_on TR.cl hr (pv 0) (Zb (pv 1) (Zb (YM (Zb ZH (Zb (pv 2) Za))) Za)))
 refine ⟨_,rfl,r,dx,_,rfl,ob,Yt (by decide +kernel),_,rfl,_,rfl,(by show 2≤sizeLine;decide),fun t ht=>?_⟩
 exact ⟨NS,r,t,pls,nds,tabs,k,.clr x,Δ,rfl,N,(S0.new ht _).drop t,Zg,I,hs,hk,h1,h2,h3,fun H' nds' tabs' t' S' I' _ l1 l2=>q H' nds' tabs' t' S' I' l1 l2⟩
def ZdZ (K:PySem.W.Frag)(CR CS:Addr):Sp:=fun vs H Q _=>∃(r dx:Addr)(H0:Hp)(Δ:Rs),vs=[.ref r]∧H=upd (upd H0 dx (.own r)) r (.ins CR dx [])∧H0 r=none∧H0 dx=none∧dx≠r∧Sep Δ H0∧∀ H',Sep ((r,Uh K CR CS [] [.bare] [(Sum.inl 0,.bl true)])::Δ) H'→Q .non H'
abbrev nRIn:List Str:=["self"]
abbrev ZeO:List Str:=["self"]
theorem Zmd:Zq nRIn ZeO (Zj c_Roads___init__):=⟨rfl,rfl,rfl,by decide +kernel,rfl,by decide +kernel,by decide +kernel⟩
theorem Zhk {f:Addr}{fd:FuncData}(F:Fun K "__init__" "Roads.__init__" c_Roads___init__ f fd)(T:ZY mg)(TR:YH K CR)(TC:Xm K CS)(DSto:ZeB P w K mg base 1 CS "Store" ["self"] (Zbj K CS))(DS_empty:DefM P w K mg base 2 CS "empty" ["self"] (ZdY K CS)):FnOk P w K mg base ZF 3 f fd ZeO (ZdZ K CR CS):=by
 refine F.ok Zmd (fun vs H Q E h=>?_) (fun cdv A outer s H vs Q E hr h=>?_)
 · obtain ⟨r,dx,H0,Δ,rfl,_⟩:=h;rfl
 obtain ⟨r,dx,H0,Δ,rfl,rfl,h1,h2,h3,S0,q⟩:=h
 have S:=((S0.new h2 (.own r)).new (p:=r) (by rw [Zh h3.symm];exact h1) (.ins CR dx [])).drop dx
 generalize upd (upd H0 dx (.own r)) r (.ins CR dx [])=H at *
 refine' ⟨?t,?h,?r⟩
 case h =>
   conv=>arg 2;whnf
   with_reducible refine' (Ze ?h1 (Ze ?h2 (Ze ?h3 (Ze ?h4 (Zi ?h5)))))
   case h1=>exact WL (pv 0) (ZiW DSto hr) rfl
   case h2=>exact WL (pv 0) (Yj (Zb Xy Za)) rfl
   case h3=>exact WL (pv 0) (Yj (Zb Xy Za)) rfl
   case h4=>exact WL (pv 0) (Yj (Zb (Zcb DS_empty TC.cl hr (ZM (pv 0) rfl)) Za)) rfl
   case h5=>exact WL (pv 0) (Yj (Zb Zd Za)) rfl
 intro st dx2 hst hdx2 hne
 refine ⟨st,dx2,_,_,rfl,rfl,hst,hdx2,hne,S,fun H1 _ S1=>⟨rfl,?_⟩⟩
 refine ⟨_,rfl,r,CR,dx,_,rfl,S1.get r,TR.cl,TR.nk,(by show 0 < 1000;decide),?_⟩
 generalize hE:upd H1 r _=H2
 have S2:=S1.putE hE
 clear hE
 refine ⟨(by show 1≤sizeLine;decide),fun la hla=>?_⟩
 generalize hE:upd H2 la _=H3
 have S3:=S2.newE hla hE
 clear hE
 refine ⟨_,rfl,r,CR,dx,_,rfl,S3.get r,TR.cl,TR.na,(by show 1 < 1000;decide),?_⟩
 generalize hE:upd H3 r _=H4
 have S4:=S3.putE hE
 clear hE
 refine ⟨(by show 1≤sizeLine;decide),fun ls hls=>?_⟩
 generalize hE:upd H4 ls _=H5
 have S5:=S4.newE hls hE
 clear hE
 refine ⟨_,rfl,r,CR,dx,_,rfl,S5.get r,TR.cl,TR.ns,(by show 2 < 1000;decide),?_⟩
 generalize hE:upd H5 r _=H6
 have S6:=S5.putE hE
 clear hE
 obtain ⟨b0,ln,dt,SA⟩:=S6.get st
 obtain ⟨dxs,obs⟩:=SA.ob
 refine ⟨_,rfl,r,CR,dx,_,_,rfl,S6.get r,TR.cl,TR.nk,rfl,st,dxs,_,rfl,obs,ZU ln dt (by decide +kernel) (by decide +kernel),_,rfl,(by show 1≤sizeLine;decide),fun lt hlt=>?_⟩
 generalize hE:upd H6 lt _=H7
 have S7:=S6.newE hlt hE
 clear hE
 refine ⟨_,rfl,r,CR,dx,_,rfl,S7.get r,TR.cl,TR.nt,(by show 3 < 1000;decide),?_⟩
 generalize hE:upd H7 r _=H8
 have S8:=S7.putE hE
 clear hE
 refine ⟨(by show 1≤sizeLine;decide),fun lc hlc=>?_⟩
 generalize hE:upd H8 lc _=H9
 have S9:=S8.newE hlc hE
 clear hE
 refine ⟨_,rfl,r,CR,dx,_,rfl,S9.get r,TR.cl,TR.nc,(by show 4 < 1000;decide),?_⟩
 generalize hE:upd H9 r _=H10
 have S10:=S9.putE hE
 clear hE
 have S11:=S10.say ls (UF []) fun h z=>⟨[],z,rfl,fun i a s e=>by simp at e⟩
 have S12:=S11.say r (Zak CR (Us st la ls lt lc)) fun h z=>⟨dx,z⟩
 have S13:=(((((S12.pull lc).pull lt).pull ls).pull la).pull st).pull r
 exact q _ (Sep.roaC (pls:=[]) S13)
end
end K25
set_option maxHeartbeats 4000000
namespace K25
open PySem L2
def StopL (pls:List ZA):YJ:=fun l h=>∃ as:List Addr,h l=some (.lst (as.map V.ref))∧as.length=pls.length+1∧(∀ a,as[0]?=some a→h a=some (.tup [.non,.non]))∧∀(i:Nat)(a:Addr)(q:ZA),as[i+1]?=some a→pls[i]?=some q→∃ b,h a=some (.tup [.int (q.ah:Int),.ref b])∧h b=some (.tup q.st.vs)
instance {pls:List ZA}:Up (StopL pls):=⟨fun ⟨as,e,l,h0,h⟩ s=>⟨as,s _ _ e,l,fun a z=>s _ _ (h0 a z),fun i a q e1 e2=>let ⟨b,z1,z2⟩:=h i a q e1 e2;⟨b,s _ _ z1,s _ _ z2⟩⟩⟩
theorem Sep.stopApp {Δ Δ':Rs}{H:Hp}{pls:List ZA}{q:ZA}{a b:Addr}{as:List Addr}(S:Sep Δ H)(l:Addr)[P:Pull l Δ (StopL pls) Δ'](e:H l=some (.lst (as.map V.ref)))(ea:H a=some (.tup [.int (q.ah:Int),.ref b]))(eb:H b=some (.tup q.st.vs)):Sep ((l,StopL (pls++[q]))::Δ') (upd H l (.lst (as.map V.ref++[V.ref a]))):=by
 refine S.updR l _ (fun h ⟨as,e,_⟩=>⟨_,e,rfl⟩) fun h r l' h' e1 e2 e3=>?_
 obtain ⟨as',e4,hl,h0,hs⟩:=r
 have e5:=l' _ _ e4
 rw [e] at e5
 have e6:as.map V.ref=as'.map V.ref:=HO.lst.inj (Option.some.inj e5)
 have im:∀ b o,h b=some (.tup o)→h' b=some (.tup o):=fun b o z=>e2 _ _ (fun y=>by rw [y,e4] at z;cases z) z
 refine ⟨as'++[a],?_,by rw [List.length_append,List.length_append,hl];rfl,fun c z=>?_,fun i c p q1 q2=>?_⟩
 · rw [e1,List.map_append,e6];rfl
 · rw [List.getElem?_append_left (by omega)] at z
   exact im _ _ (h0 c z)
 · by_cases hi:i < pls.length
   · rw [List.getElem?_append_left (by omega)] at q1
     rw [List.getElem?_append_left hi] at q2
     obtain ⟨d,z1,z2⟩:=hs i c p q1 q2
     exact ⟨d,im _ _ z1,im _ _ z2⟩
   · rw [List.getElem?_append_right (by omega)] at q1 q2
     have h0:i - pls.length=0:=by
       cases z:i - pls.length with
       | zero=>rfl
       | succ j=>rw [z] at q2;simp at q2
     rw [show i+1 - as'.length=0 by omega] at q1
     rw [h0] at q2
     cases (show some a=some c from q1)
     cases (show some q=some p from q2)
     exact ⟨b,e3 _ _ (fun y=>by rw [y,e] at ea;cases ea) ea rfl,e3 _ _ (fun y=>by rw [y,e] at eb;cases eb) eb rfl⟩
section
variable {P:Program}{w:World}{K:PySem.W.Frag}{mg:Str→Option Value}{base:Heap}{CR CS Pl:Addr}
def Zei (K:PySem.W.Frag)(CR CS Pl:Addr):Sp:=fun vs H Q _=>∃(NS:List Str)(r sl sa:Addr)(pls:List ZA)(nds:List Nd)(tabs:List (Zl×V))(k:Nat)(s:Stp)(Δ:Rs),vs=[.ref r,.ref sl,.int (k:Int),.ref sa]∧Yv NS∧Sep ((r,Uh K CR CS pls nds tabs)::(Pl,Xl)::(sl,StopL pls)::Δ) H∧H sa=some (.tup s.vs)∧RInv NS pls nds tabs∧s.ok NS∧k≤pls.length∧pls.length≤10000∧nds.length≤90000∧tabs.length≤90000 ∧
 ∀ (H':Hp) (nds':List Nd) (tabs':List (Zl×V)) (q:ZA),Sep ((r,Uh K CR CS (pls++[q]) nds' tabs')::(Pl,Xl)::(sl,StopL (pls++[q]))::Δ) H'→RInv NS (pls++[q]) nds' tabs'→nds'.length≤nds.length+6→tabs'.length≤tabs.length+1→q.st.ok NS→Q (.bl true) H'
abbrev nGr:List Str:=["_law_roads","_law_stops","_law_place","_law_step_here","_law_told"]
abbrev Zik:List Str:=["_law_roads","_law_stops","_law_place","_law_step_here"]
theorem scGr:Zq nGr Zik (Zj s_l_grown):=⟨rfl,rfl,rfl,by decide +kernel,rfl,by decide +kernel,by decide +kernel⟩
theorem Zhf {f:Addr}{fd:FuncData}(F:Fun K "_law_grown" "_law_grown" s_l_grown f fd)(T:ZY mg)(TR:YH K CR)(DR_put:DefM P w K mg base 11 CR "put" Zey (Zga K CR CS Pl))(DR_clear:DefM P w K mg base 11 CR "clear" Zfk (ZgE K CR CS Pl)):FnOk P w K mg base ZF 12 f fd Zik (Zei K CR CS Pl):=by
 refine F.ok scGr (fun vs H Q E h=>?_) (fun cdv A outer s H vs Q E hr h=>?_)
 · obtain ⟨NS,r,sl,sa,pls,nds,tabs,k,s,Δ,rfl,_⟩:=h;rfl
 obtain ⟨NS,r,sl,sa,pls,nds,tabs,k,s,Δ,rfl,N,S0,es,I,hs,hk,h1,h2,h3,q⟩:=h
 obtain ⟨st,la,ls,lt,lc,SR⟩:=S0.get r
 obtain ⟨dx,ob⟩:=SR.get r
 refine' ⟨?t,?h,?r⟩
 case h =>
   conv=>arg 2;whnf
   with_reducible refine' (Ze (Yb ?h1 (Zi ?h2) (Zi ?h3)) (Ze ?h4 (Zi ?h5)))
   case h1=>exact ZJ Yh (Zm ZS (pv 3) Zd (fun _ _=>rfl)) ZH (ZC _)
   case h2=>exact Zx (i:=4) scGr.nd rfl (Or.inl rfl) (ZZ DR_put TR.cl hr (pv 0) (Zb (pv 2) (Zb (Zm ZS (pv 3) Zd (fun _ _=>rfl)) (Zb (Zm ZS (pv 3) Zd (fun _ _=>rfl)) Za))))
   case h3=>exact Zx (i:=4) scGr.nd rfl (Or.inl rfl) (ZZ DR_clear TR.cl hr (pv 0) (Zb (pv 2) (Zb (Zm ZS (pv 3) Zd (fun _ _=>rfl)) Za)))
   case h4=>exact Yg (YS PySem.F.plainAttrs_list PySem.F.slot_list_append PySem.F.type_list_append Yf (pv 1) (Zb (YM (Zb (pv 2) (Zb (pv 3) Za))) Za))
   case h5=>exact Zk (Xh (Zu YK rfl T.isinstance (by decide +kernel) (Zb (pv 4) (Zb (YW rfl T.int (by decide +kernel) (v:=.ty "int") rfl) Za))) (Xh (Zgp (Zu YK rfl T.isinstance (by decide +kernel) (Zb (pv 4) (Zb (YW rfl T.bool (by decide +kernel) (v:=.ty "bool") rfl) Za)))) (Xz (Yl Yh (pv 4) (Zw YA (Zu ZE rfl T.len PySem.boot_len (Zb (pv 1) Za)) Zd) (ZC _)))))
 have S1:=((S0.imm es rfl).pull Pl).pull r
 cases s with
 | set x v =>
   refine ⟨_,rfl,sa,_,_,_,rfl,rfl,SqT.of es,Zv (j:=0) rfl,rfl,_,rfl,?_⟩
   rw [decide_eq_true rfl]
   refine ZK ⟨_,rfl,r,dx,_,rfl,ob,Yt (by decide +kernel),_,rfl,_,rfl,sa,_,_,_,rfl,rfl,SqT.of es,Zv (j:=1) rfl,_,rfl,sa,_,_,_,rfl,rfl,SqT.of es,Zv (j:=2) rfl,?_⟩
   refine ⟨NS,r,pls,nds,tabs,k,x,v,_,rfl,N,S1,I,hs,hk,h1,h2,h3,fun H2 nds2 tabs2 t2 S2 I2 l1 l2=>?_⟩
   obtain ⟨as,els,hal,_⟩:=S2.get sl
   refine ⟨_,rfl,.inl ⟨rfl,_,SqL.of els⟩,_,rfl,_,rfl,(by show 2≤sizeLine;decide),fun t ht=>?_⟩
   generalize hE:upd H2 t _=H3
   have S3:=S2.newE ht hE
   have els3:H3 sl=some (.lst (as.map V.ref)):=by rw [← hE,Zh (Zn els ht)];exact els
   clear hE
   refine ⟨sl,_,_,rfl,rfl,els3,YT (show _≤20000 by rw [List.length_map];omega),?_⟩
   generalize hE:upd H3 sl _=H4
   have S4:=hE ▸ Sep.stopApp (q:=⟨k,.set x v,t2,nds2.length - nds.length⟩) S3 sl els3 (S3.get t) (S3.get sa)
   have els4:H4 sl=some (.lst (as.map V.ref++[V.ref t])):=by rw [← hE];exact Zg
   clear hE
   refine ⟨_,rfl,_,_,_,_,rfl,.int _,rfl,true,rfl,ZK ⟨_,rfl,_,_,_,_,rfl,.int _,rfl,false,rfl,true,rfl,ZK ?_⟩⟩
   refine ⟨_,rfl,_,rfl,sl,_,rfl,.inl (SqL.of els4),_,_,rfl,rfl,rfl,?_⟩
   rw [decide_eq_true (show V.int ((pls.length+1:Nat):Int)=V.int (((as.map V.ref++[V.ref t]).length:Nat) - 1:Int) from congrArg V.int (by rw [List.length_append,List.length_map,hal];show _=((pls.length+1+1:Nat):Int) - 1;omega))]
   exact q H4 nds2 tabs2 _ (((((S4.drop t).drop sa).pull sl).pull Pl).pull r) I2 l1 l2 hs
 | clr x =>
   refine ⟨_,rfl,sa,_,_,_,rfl,rfl,SqT.of es,Zv (j:=0) rfl,rfl,_,rfl,?_⟩
   rw [show decide (V.str "clear"=V.str (Str.ofString "set"))=false by decide +kernel]
   refine ZB ⟨_,rfl,r,dx,_,rfl,ob,Yt (by decide +kernel),_,rfl,_,rfl,sa,_,_,_,rfl,rfl,SqT.of es,Zv (j:=1) rfl,?_⟩
   refine ⟨NS,r,pls,nds,tabs,k,x,_,rfl,N,S1,I,hs,hk,h1,h2,h3,fun H2 nds2 tabs2 t2 S2 I2 l1 l2=>?_⟩
   obtain ⟨as,els,hal,_⟩:=S2.get sl
   refine ⟨_,rfl,.inl ⟨rfl,_,SqL.of els⟩,_,rfl,_,rfl,(by show 2≤sizeLine;decide),fun t ht=>?_⟩
   generalize hE:upd H2 t _=H3
   have S3:=S2.newE ht hE
   have els3:H3 sl=some (.lst (as.map V.ref)):=by rw [← hE,Zh (Zn els ht)];exact els
   clear hE
   refine ⟨sl,_,_,rfl,rfl,els3,YT (show _≤20000 by rw [List.length_map];omega),?_⟩
   generalize hE:upd H3 sl _=H4
   have S4:=hE ▸ Sep.stopApp (q:=⟨k,.clr x,t2,nds2.length - nds.length⟩) S3 sl els3 (S3.get t) (S3.get sa)
   have els4:H4 sl=some (.lst (as.map V.ref++[V.ref t])):=by rw [← hE];exact Zg
   clear hE
   refine ⟨_,rfl,_,_,_,_,rfl,.int _,rfl,true,rfl,ZK ⟨_,rfl,_,_,_,_,rfl,.int _,rfl,false,rfl,true,rfl,ZK ?_⟩⟩
   refine ⟨_,rfl,_,rfl,sl,_,rfl,.inl (SqL.of els4),_,_,rfl,rfl,rfl,?_⟩
   rw [decide_eq_true (show V.int ((pls.length+1:Nat):Int)=V.int (((as.map V.ref++[V.ref t]).length:Nat) - 1:Int) from congrArg V.int (by rw [List.length_append,List.length_map,hal];show _=((pls.length+1+1:Nat):Int) - 1;omega))]
   exact q H4 nds2 tabs2 _ (((((S4.drop t).drop sa).pull sl).pull Pl).pull r) I2 l1 l2 hs
end
end K25
set_option maxHeartbeats 4000000
namespace K25
open PySem L2
section
variable {P:Program}{w:World}{K:PySem.W.Frag}{mg:Str→Option Value}{base:Heap}{CR CS Pl:Addr}
theorem StopL.at {pls:List ZA}{l:Addr}{H:Hp}{k:Nat}(h:StopL pls l H)(hk:k≤pls.length):∃ xs a x y,H l=some (.lst xs)∧xs[k]?=some (.ref a)∧H a=some (.tup [x,y])∧x=ahV pls k∧UB pls k y H∧xs.length=pls.length+1:=by
 obtain ⟨as,e,hl,h0,hs⟩:=h
 have ha:=List.getElem?_eq_getElem (show k < as.length by omega)
 refine ⟨as.map V.ref,as[k],?_⟩
 cases k with
 | zero=>exact ⟨_,_,e,by rw [List.getElem?_map,ha];rfl,h0 _ ha,rfl,rfl,by rw [List.length_map];exact hl⟩
 | succ k =>
   have hp:=List.getElem?_eq_getElem (show k < pls.length by omega)
   obtain ⟨b,z1,z2⟩:=hs k _ _ ha hp
   refine ⟨_,_,e,by rw [List.getElem?_map,ha];rfl,z1,?_,⟨b,_,rfl,by rw [List.getElem?_map,hp];rfl,z2⟩,by rw [List.length_map];exact hl⟩
   show _=V.int (((pls.getD k ⟨0,.clr "",0,0⟩).ah:Nat):Int)
   rw [List.getD_eq_getElem?_getD,hp];rfl
end
end K25
set_option maxHeartbeats 1000000
namespace L2
open PySem PySem.Spec PyProof.Rows
abbrev vMro:List Value:=[.type "ValueError",.type "Exception",.type "BaseException",.type "object"]
inductive VT:List Value→Prop
 | base:VT vMro
 | own {a:Addr} {r:List Value}:VT r→VT (.ref a::r)
def ZeD:List Value→Bool
 | .ref _::r=>ZeD r
 | l=>decide (l=vMro)
theorem VT.of:∀{l:List Value},ZeD l=true→VT l
 | [],h=>nomatch (of_decide_eq_true h:([]:List Value)=vMro)
 | v::r,h=>by cases v<;>first | exact .own (VT.of h) | (have e:=of_decide_eq_true h;rw [e];exact .base)
theorem VT.has {l:List Value}(T:VT l){x:String}{b:Bool}(hb:vMro.contains (.type x)=b):l.contains (.type x)=b:=by
 induction T with
 | base=>exact hb
 | own _ ih=>rw [List.contains_cons,ih];rfl
theorem VT.refuse {l:List Value}(T:VT l)(self:Value):refuseLoop self "__setattr__" l=pure ():=by
 induction T with
 | base=>exact PySem.F.store_ValueError.passes self
 | own _ ih=>rw [refuseLoop_ref];exact ih
def Zdo (K:PySem.W.Frag)(C:Addr):Bool:=match K.lookup C with
 | some ⟨.type "type",_,.cls cd,sl⟩=>(match cd.mro,sl.toList with
   | .ref C'::bm,[_,_,_,_,some (.builtin n),_]=>C' == C&&!cd.hasDel&&cd.hasDict&&n == "ValueError.__new__"&&ZeD bm
   | _,_=>false)
 | _=>false
theorem VB {K:PySem.W.Frag}{h:Heap}{C:Addr}(X:K.In h)(q:Zdo K C=true):∃ nm qn N bs bm sn sub ab col dd k0 k1 k2 k3 k5,
   h.get? C=some (excClassObj nm qn C N bs bm true sn sub ab col dd k0 k1 k2 k3 k5 "ValueError.__new__")∧VT bm:=by
 unfold Zdo at q
 split at q
 · rename_i dd cd sl ho
   split at q
   · rename_i C' bm k0 k1 k2 k3 n k5 hm hs
     simp only [Bool.and_eq_true,beq_iff_eq,Bool.not_eq_true'] at q
     obtain ⟨⟨⟨⟨rfl,hdel⟩,hdi⟩,rfl⟩,ht⟩:=q
     obtain ⟨nm,bs,mro,ns,qn,hd,sn,sub,ab,col,del⟩:=cd
     dsimp only at hm hdel hdi
     subst hm hdel hdi
     have hsl:sl=#[k0,k1,k2,k3,some (.builtin "ValueError.__new__"),k5]:=by
       obtain ⟨l⟩:=sl
       simp only at hs
       rw [hs]
     subst hsl
     exact ⟨nm,qn,ns,bs,bm,sn,sub,ab,col,dd,k0,k1,k2,k3,k5,X _ _ ho,.of ht⟩
   · cases q
 · cases q
section
variable {prog:Program}{w:World}{A:Around}{E:Value→Shared→Prop}{h:Heap}{g:Array GenState}{d:Drawn}{t:Nat}{os:OsState}
variable {nm q:Str}{C N:Addr}{bs bm:List Value}{sn:List Str}{sub:List Value}{ab:Bool}{col:Option Bool}{dd:Option Addr}{k0 k1 k2 k3 k5:Option Value}
theorem Zdz {M:Model}(T:VT bm){rest:List Value}{Q:Unit→Shared→Prop}(hC:h.get? C=some (excClassObj nm q C N bs bm true sn sub ab col dd k0 k1 k2 k3 k5 "ValueError.__new__"))
   (hq:Q () ⟨h,g,d,t,os⟩):wpAny M A (checkBuiltinCall "ValueError.__new__" ⟨.ref C::rest,[]⟩) Q E ⟨h,g,d,t,os⟩:=by
 have F:=PySem.F.excBase_ValueError
 have hcont:(Value.ref C::bm).contains (.type "ValueError")=true:=by rw [List.contains_cons,T.has F.hasB,Bool.or_true]
 have hstar:=F.noStar
 simp only [checkBuiltinCall,F.newKind,F.newSplit,F.newRow]
 repeat (first | refine wpAny_loadPart_at hC ?_ | (refine wpAny_isSubtype_exc hC ?_;rw [hcont]) | refine wpAny_staticBase_exc hC ?_ | refine wpAny_madeBy_exc hC ?_ | simp only [bne_self_eq_false,Bool.false_eq_true,if_false] | wp_step)
 exact hq
theorem Zmf {R:Result→Shared→Prop}(T:VT bm){rest:List Value}(hC:h.get? C=some (excClassObj nm q C N bs bm true sn sub ab col dd k0 k1 k2 k3 k5 "ValueError.__new__"))
   (hq:R (.ok (.ret (.ref (h.objs.size+1)))) ⟨(h.push { cls:=.type "tuple",data:=.seq rest.toArray }).push
     { cls:=.ref C,data:=.fields #[.ref h.objs.size,.none,.none,.none,.bool false,.none] },g,d,t,os⟩) (hrest:rest.length≤sizeLine) :
   codeAny (model prog w) A (.builtin "ValueError.__new__" ⟨.ref C::rest,[]⟩) R ⟨h,g,d,t,os⟩:=by
 have F:=PySem.F.excBase_ValueError
 have hends:=F.ends
 have hcB:(Value.ref C::bm).contains (.type "ValueError")=true:=by rw [List.contains_cons,T.has F.hasB,Bool.or_true]
 have hcA:(Value.ref C::bm).contains (.type "AttributeError")=false:=by rw [List.contains_cons,T.has F.noAttr];rfl
 have hcN:(Value.ref C::bm).contains (.type "NameError")=false:=by rw [List.contains_cons,T.has F.noName];rfl
 refine codeAny_builtinAt F.entry ?_
 unfold Builtin.«BaseException.__new__»
 refine PySem.wpAt_bind ?_
 show PySem.wpAt _ _ _ (stack >>= _) _ _ _
 refine PySem.wpAt_bind (PySem.wpAt_stack fun p below=>PySem.wpAt_of_wpAny ?_)
 wp_walk
 refine PySem.wpAt_of_wpAny ?_
 rw [F.owner]
 repeat (first | with_reducible refine wpAny_madeHere_exc F.canon hC ?_ | with_reducible refine wpAny_loadPart_at hC ?_ | (with_reducible refine wpAny_isSubtype_exc hC ?_;first | rw [hcB] | rw [hcA] | rw [hcN]) | wp_step)
 show R _ _
 rw [Heap.size_push]
 exact hq
theorem ZdA (T:VT bm){rest:List Value}{fI:Addr}{oI:Obj}{Q:Fin→Shared→Prop}
   (hC:h.get? C=some (excClassObj nm q C N bs bm true sn sub ab col dd k0 k1 k2 k3 k5 "ValueError.__new__")) (LI:PySem.W.Looks (model prog w) h (typeLookup (.ref C) "__init__") (some (.ref fI)))
   (hfI:h.get? fI=some oI) (hfc:oI.cls=.type "function")
   (hq:∀ h' e,Heap.MadeExcOf h h' e (.ref C) rest→h.objs.size≤e →
     wpAny (model prog w) A (call (.ref fI) (.ref e::rest)) (fun r s'=>r=.none∧Q (.done (.ret (.ref e))) s') E ⟨h',g,d,t,os⟩) (hrest:rest.length≤sizeLine) :
   wpAny (model prog w) A (Builtin.«type.__call__» ⟨.ref C::rest,[]⟩) Q E ⟨h,g,d,t,os⟩:=by
 have F:=PySem.F.excBase_ValueError
 repeat (first | with_reducible refine wpAny_loadPart_at hC ?_ | with_reducible refine wpAny_madeBy_exc hC ?_ | wp_step)
 refine codeAny_call_builtin_code (Code.quiet_builtin _ F.quiet) (Zdz T hC ?_)
 refine Zmf T hC ?_ hrest
 show wpAny _ _ _ _ _ _
 have hC₁:=Heap.get?_push_of_some { cls:=.ref C,data:=.fields #[.ref h.objs.size,.none,.none,.none,.bool false,.none] }
   (Heap.get?_push_of_some { cls:=.type "tuple",data:=.seq rest.toArray } hC)
 have hfI₁:=Heap.get?_push_of_some { cls:=.ref C,data:=.fields #[.ref h.objs.size,.none,.none,.none,.bool false,.none] }
   (Heap.get?_push_of_some { cls:=.type "tuple",data:=.seq rest.toArray } hfI)
 have hget:((h.push { cls:=.type "tuple",data:=.seq rest.toArray }).push
     { cls:=.ref C,data:=.fields #[.ref h.objs.size,.none,.none,.none,.bool false,.none] }).get? (h.objs.size+1)=some
     { cls:=.ref C,data:=.fields #[.ref h.objs.size,.none,.none,.none,.bool false,.none] }:=by heap_get
 have hcC:(Value.ref C::bm).contains (.ref C)=true:=by simp
 unfold isInstance
 repeat (first | with_reducible refine wpAny_loadPart_at hget ?_ | (with_reducible refine wpAny_isSubtype_exc hC₁ ?_;rw [hcC]) | wp_step)
 show wpAny _ _ (typeLookup (.ref C) _) _ _ _
 refine (LI.keeps (h':=(h.push { cls:=.type "tuple",data:=.seq rest.toArray }).push { cls:=.ref C,data:=.fields #[.ref h.objs.size,.none,.none,.none,.bool false,.none] }) fun b o e=>Heap.get?_push_of_some _ (Heap.get?_push_of_some _ e)) _ _ _ _ (fun _ _ e=>e) ?_
 refine wpAny_holding (wpAny_bind ?_)
 unfold bindSpecial
 refine wpAny_bind (wpAny_typeOf (T:="function") ⟨_,hfI₁,hfc⟩ ?_)
 rw [if_pos (by decide)]
 refine wpAny_pure (wpAny_bind (wpAny_mono (hq _ (h.objs.size+1) ⟨fun b o hb=>Heap.get?_push_of_some _ (Heap.get?_push_of_some _ hb),Heap.get?_none_of_le (Nat.le_succ _),h.objs.size,hget,Heap.get?_none_of_le (Nat.le_refl _),?_⟩ (Nat.le_succ _)) (fun r s' hr=>?_) fun _ _ x=>x))
 · exact Heap.get?_push_of_some _ (Heap.get?_push_at rfl rfl)
 · obtain ⟨rfl,hQ⟩:=hr
   wp_walk
   exact hQ
theorem ZkN (T:VT bm){rest:List Value}{fI:Addr}{oI:Obj}{Q:Value→Shared→Prop}
   (hC:h.get? C=some (excClassObj nm q C N bs bm true sn sub ab col dd k0 k1 k2 k3 k5 "ValueError.__new__")) (LI:PySem.W.Looks (model prog w) h (typeLookup (.ref C) "__init__") (some (.ref fI)))
   (hfI:h.get? fI=some oI) (hfc:oI.cls=.type "function")
   (hq:∀ h' e,Heap.MadeExcOf h h' e (.ref C) rest→h.objs.size≤e →
     wpAny (model prog w) (A.under (.builtin "type.__call__" ⟨.ref C::rest,[]⟩)) (call (.ref fI) (.ref e::rest)) (fun r s'=>r=.none∧Q (.ref e) s') E ⟨h',g,d,t,os⟩) (hrest:rest.length≤sizeLine) :
   wpAny (model prog w) A (call (.ref C) rest) Q E ⟨h,g,d,t,os⟩:=by
 have f1:=tc_lookup
 have f2:=tc_bind (.ref C)
 have hT:(⟨h,g,d,t,os⟩:Shared).TypeIs (.ref C) "type":=⟨_,hC,rfl⟩
 refine wpAny_call (codeAny_of_tree ?_)
 show wpAny _ _ (callAny (.ref C) _) _ _ _
 repeat (any_goals (first | assumption | with_reducible refine wpAny_loadPart_at hC ?_ | wp_step))
 refine ⟨rfl,?_⟩
 refine codeAny_call_builtin_at (Code.quiet_builtin _ (by decide +kernel)) entry_typeCall (wpAny_check_type_call_sub hC (ZdA T hC LI hfI hfc (fun h' e hm hle=>?_) hrest))
 exact hq h' e hm hle
theorem ZjL {M:Model}{env:Env}{s:Shared}{x:Sem Value}{Q:Flow→Shared→Prop}(T:VT bm)(hh:A.handled=none)
   (h:wpAny M A x (fun v s₁=>∃ e oe vs,v=.ref e∧s₁.heap.get? C=some (excClassObj nm q C N bs bm true sn sub ab col dd k0 k1 k2 k3 k5 "ValueError.__new__") ∧
     s₁.heap.get? e=some oe∧oe.cls=.ref C∧oe.data=.fields vs∧vs[1]?=some .none∧E (.ref e) s₁) E s) :
   wpAny M A (raiseStmt env (some x) none) Q E s:=by
 have hcB:(Value.ref C::bm).contains (.type "BaseException")=true:=by rw [List.contains_cons,T.has PySem.F.excBase_ValueError.hasBase,Bool.or_true]
 unfold raiseStmt
 refine wpAny_bind (wpAny_mono h (fun v s₁ h₁=>?_) fun _ _ x=>x)
 obtain ⟨e,oe,vs,rfl,hC,he,hcl,hd,h1,hE⟩:=h₁
 obtain ⟨oc,odi,oda,osl⟩:=oe
 dsimp only at hcl hd
 subst hcl hd
 obtain ⟨hp,g,d,tk,os⟩:=s₁
 repeat (first | with_reducible refine wpAny_loadPart_at he ?_ | with_reducible refine wpAny_loadPart_at hC ?_ | (with_reducible refine wpAny_isSubtype_exc hC ?_;rw [hcB]) | with_reducible refine wpAny_field he rfl h1 ?_ | wp_step)
 exact wpAny_raiseNew_none hh hE
end
end L2
set_option maxHeartbeats 1000000
namespace L2
open PySem PySem.Spec PyProof.Rows
section
variable {prog:Program}{w:World}{A:Around}{E:Value→Shared→Prop}{h:Heap}{g:Array GenState}{d:Drawn}{t:Nat}{os:OsState}
variable {nm q:Str}{C N x:Addr}{bs bm:List Value}{sn:List Str}{sub:List Value}{ab:Bool}{col:Option Bool}{dd:Option Addr}{k0 k1 k2 k3 k5:Option Value}{name:Str}{v:Value}{o:Obj}
theorem Zfr {M:Model}{nameV:Value}{Q:Unit→Shared→Prop}(T:VT bm)
   (hC:h.get? C=some (excClassObj nm q C N bs bm true sn sub ab col dd k0 k1 k2 k3 k5 "ValueError.__new__")) (hx:h.get? x=some o) (hc:o.cls=.ref C) (hq:Q () ⟨h,g,d,t,os⟩) :
   wpAny M A (checkBuiltinCall "object.__setattr__" ⟨[.ref x,nameV,v],[]⟩) Q E ⟨h,g,d,t,os⟩:=by
 have SF:=PySem.F.store_ValueError
 have hcB:(Value.ref C::bm).contains (.type "object")=true:=by rw [List.contains_cons,T.has SF.hasOwner,Bool.or_true]
 have ha:=SF.args (.ref x) nameV v
 simp only [checkBuiltinCall,SF.kind,SF.split]
 refine wpAny_bind ?_
 · unfold isInstance
   repeat (first | (with_reducible refine wpAny_loadPart_at hx ?_;rw [hc]) | (with_reducible refine wpAny_isSubtype_exc hC ?_;rw [hcB]) | wp_step)
   exact hq
theorem ZjY {Q:Unit→Shared→Prop}(T:VT bm)(hC:h.get? C=some (excClassObj nm q C N bs bm true sn sub ab col dd k0 k1 k2 k3 k5 "ValueError.__new__"))
   (LS:PySem.W.Looks (model prog w) h (typeLookup (.ref C) "__setattr__") (some (.builtin "object.__setattr__"))) (LN:PySem.W.Looks (model prog w) h (typeLookup (.ref C) name) none)
   (hx:h.get? x=some o) (hc:o.cls=.ref C) (hdn:o.dict=none) (hnc:∀ c,o.data≠.cls c)
   (hq:∀ h' tk',h'.get? x=some { o with dict:=some h.objs.size }→h'.Ns1 h.objs.size (fun y=>if y=name then some v else none)→(∀ b ob,b≠x→h.get? b=some ob→h'.get? b=some ob)→Q () ⟨h',g,d,tk',os⟩) :
   wpAny (model prog w) A (setAttr (.ref x) name v) Q E ⟨h,g,d,t,os⟩:=by
 have SF:=PySem.F.store_ValueError
 have f3:=SF.slot.bind (.ref x)
 unfold setAttr callSpecial? specialOf
 have LS':∀ {tk:Nat} {A:Around} {Q:Option Value→Shared→Prop} {E:Value→Shared→Prop},Q (some (.builtin "object.__setattr__")) ⟨h,g,d,tk,os⟩→wpAny (model prog w) A (typeLookup (.ref C) "__setattr__") Q E ⟨h,g,d,tk,os⟩:=fun q=>LS _ _ _ _ (fun _ _ e=>e) q
 have LN':∀ {tk:Nat} {A:Around} {Q:Option Value→Shared→Prop} {E:Value→Shared→Prop},Q none ⟨h,g,d,tk,os⟩→wpAny (model prog w) A (typeLookup (.ref C) name) Q E ⟨h,g,d,tk,os⟩:=fun q=>LN _ _ _ _ (fun _ _ e=>e) q
 repeat (any_goals (first | assumption | (with_reducible refine wpAny_loadPart_at hx ?_;rw [hc]) | (with_reducible refine LS' ?_) | wp_step))
 refine codeAny_call_builtin SF.slot.plain SF.entry (Zfr T hC hx hc ?_)
 have hpass:=T.refuse (.ref x)
 unfold Builtin.«object.__setattr__»
 repeat (first | rw [refuse_eq] | (rw [refuseLoop_ref,hpass]) | (with_reducible refine wpAny_loadPart_at hx ?_;rw [hc]) | with_reducible refine wpAny_mroOf_exc hC ?_ | (with_reducible refine LN' ?_) | wp_step)
 rw [hdn,if_neg (by simp [typeHasDict])]
 split
 · rename_i hcd
   cases hcd
 split
 · rename_i c hcd
   exact absurd hcd (hnc c)
 · have hx₁:(h.push { cls:=.type "dict",data:=.dict #[] }).get? x=some o:=Heap.get?_push_of_some _ hx
   have hxs:x≠h.objs.size:=Nat.ne_of_lt (Heap.lt_size hx)
   refine wpAny_bind (wpAny_alloc' ?_)
   refine wpAny_bind (wpAny_update' hx₁ ?_)
   refine wpAny_pure ?_
   have hgd:((h.push { cls:=.type "dict",data:=.dict #[] }).update x fun o=>{ cls:=o.cls,dict:=some h.objs.size,data:=o.data,slots:=o.slots }).get? h.objs.size
       = some { cls:=.type "dict",data:=.dict #[] } :=
     (Heap.get?_update_ne _ _ _ _ hxs.symm).trans (Heap.get?_push_at rfl rfl)
   have hnd:((h.push { cls:=.type "dict",data:=.dict #[] }).update x fun o=>{ cls:=o.cls,dict:=some h.objs.size,data:=o.data,slots:=o.slots }).Ns h.objs.size (fun _=>none) :=
     ⟨_,#[],_,hgd,rfl,fun e he=>absurd he (by simp),fun _=>rfl⟩
   show wpAny _ _ (Builtin.ObjectAttr.storeInDict h.objs.size (.str name _) name v) _ _ _
   unfold Builtin.ObjectAttr.storeInDict Builtin.ObjectAttr.newKeyGuard
   refine wpAny_bind (wpAny_pure (wpAny_bind (wpAny_nsSet1 (Heap.Ns1.of_empty hnd) fun h' hn' hs=>?_)))
   obtain ⟨oD,esD,epD,hoD,hdD,hcD⟩:=hn'.count (Within.cons name v Within.nil)
   refine wpAny_bind (wpAny_lookBehind hoD (by rw [hdD];exact pastItsLine_dict (Nat.le_trans hcD (by rw [List.length_cons,List.length_nil,sizeLine_eq];omega))) ?_)
   wp_walk
   have hx':h'.get? x=some { cls:=o.cls,dict:=some h.objs.size,data:=o.data,slots:=o.slots }:=by
     refine (hs.2 x hxs).trans (Heap.get?_update_self _ hx₁ ?_)
     have hfr:=(Heap.get?_some_iff.mp hx).2
     obtain ⟨oc,od,odt,osl⟩:=o
     cases odt<;>first | rfl | exact hfr
   repeat (any_goals (first | assumption | wp_step))
   exact hq h' _ hx' hn' fun b ob hbx hb=>(hs.2 b (Nat.ne_of_lt (Heap.lt_size hb))).trans ((Heap.get?_update_ne _ _ _ _ hbx).trans (Heap.get?_push_of_some _ hb))
end
end L2
set_option maxHeartbeats 1000000
namespace L2
open PySem PySem.Spec PyProof.Rows
def TbAt (base:Heap)(n:Nat)(H:Hp)(h:Heap)(ea:Addr)(vs:Array Value):Option Value→Prop
 | none=>vs[1]?=some .none
 | some fl=>∃ T oT ts,vs[1]?=some (.ref T)∧T≠ea∧base.get? T=none∧H T=none∧n≤T∧h.get? T=some oT∧oT.data=.fields ts∧ts[3]?=some fl
def ExcAt (base:Heap)(n:Nat)(H:Hp)(ea C dx:Addr)(fl:Option Value)(h:Heap):Prop :=
 base.get? ea=none∧H ea=none∧n≤ea∧∃ oe vs,h.get? ea=some oe∧oe.cls=.ref C∧oe.dict=some dx∧oe.data=.fields vs∧TbAt base n H h ea vs fl
def Keep (fs:List Addr)(n:Nat)(H:Hp)(h h':Heap):Prop :=
 (∀ b o,h.get? b=some o→b∈fs→∃ sl,h'.get? b=some { o with slots:=sl })∧(∀ b o,h.get? b=some o→b ∉ fs→(H b≠none∨b < n)→h'.get? b=some o) ∧
 (∀ b m,h.Ns b m→h'.Ns b m)∧(∀ b v,h.IsCell b v→h'.IsCell b v)∧h.objs.size≤h'.objs.size
theorem Keep.trans {fs:List Addr}{n:Nat}{H:Hp}{h h1 h2:Heap}(a:Keep fs n H h h1)(b:Keep fs n H h1 h2):Keep fs n H h h2:=by
 refine ⟨fun c o e m=>?_,fun c o e m k=>b.2.1 c o (a.2.1 c o e m k) m k,fun c m x=>b.2.2.1 c m (a.2.2.1 c m x),fun c v x=>b.2.2.2.1 c v (a.2.2.2.1 c v x),Nat.le_trans a.2.2.2.2 b.2.2.2.2⟩
 obtain ⟨sl,e1⟩:=a.1 c o e m
 obtain ⟨sl2,e2⟩:=b.1 c _ e1 m
 exact ⟨sl2,e2⟩
theorem ZeI {h h':Heap}(k:∀ b o,h.get? b=some o→(∀ vs,o.data≠.fields vs)→∃ sl,h'.get? b=some { o with slots:=sl }){b:Addr}{m:Str→Option Value}(x:h.Ns b m):h'.Ns b m:=by
 obtain ⟨o,es,ep,ho,hd,r⟩:=x
 obtain ⟨sl,hs⟩:=k b o ho fun vs q=>by rw [hd] at q;cases q
 exact ⟨_,es,ep,hs,hd,r⟩
theorem Zbn {h h':Heap}(k:∀ b o,h.get? b=some o→(∀ vs,o.data≠.fields vs)→∃ sl,h'.get? b=some { o with slots:=sl }){b:Addr}{v:Option Value}(x:h.IsCell b v):h'.IsCell b v:=by
 obtain ⟨o,ho,hd⟩:=x
 obtain ⟨sl,hs⟩:=k b o ho fun vs q=>by rw [hd] at q;cases q
 exact ⟨_,hs,hd⟩
section
variable {M:Model}{A:Around}{E:Value→Shared→Prop}{s:Shared}{base:Heap}{n:Nat}{H:Hp}{env:Env}{outer:List Env}{L ea C dx:Addr}
theorem ZaR {oe:Obj}{vs:Array Value}{head:Value}{hadNext:Bool}{Q:Unit→Shared→Prop}
   (hfr:A.frames=some (env::outer)) (hl:s.heap.FunFrames base (env::outer)) (hf:env.frame=some L)
   (he:s.heap.get? ea=some oe) (hkb:base.StaysIn s.heap) (hen:base.get? ea=none) (hHe:H ea=none) (hne:n≤ea) (hcl:oe.cls=.ref C) (hdi:oe.dict=some dx) (hd:oe.data=.fields vs) (hsz:1 < vs.size) (hH:∀ b,s.heap.objs.size≤b→H b=none)
   (h:∀ h',base.StaysIn h'→h'.FunFrames base (env::outer)→ExcAt base n H ea C dx (some (rawInt L)) h'→Keep (Xi (env::outer)) n H s.heap h'→Q () { s with heap:=h' }) :
   wpAny M A (do let a ← frameOf env;let pl ← entryPlaceOf L hadNext;let b ← EntryCells.newEntry head a .none (rawInt L) .none pl;setField (.ref ea) 1 b) Q E s:=by
 have hene:ea ∉ (env::outer).filterMap (·.frame):=fun hm=>by
   obtain ⟨_,o,ho,hnf⟩:=hl.mem hm
   rw [he] at ho;injection ho with ho;subst ho;exact hnf vs hd
 refine wpAny_bind (wpAny_frameOf_fun hfr hl hf fun h₁ hs₁=>?_)
 refine wpAny_bind (wpAny_entryPlaceOf fun pl hpl=>?_)
 unfold EntryCells.newEntry newFields
 refine wpAny_bind (wpAny_newObj_type ?_ (hpl.sizeOk5 _ _ _ _ _))
 have he₁:h₁.get? ea=some oe:=(hs₁.2.1 ea hene).trans he
 have kb₁:base.StaysIn h₁:=fun b o hbo=>(hs₁.2.1 b fun hm=>by rw [(hl.mem hm).1] at hbo;cases hbo).trans (hkb b o hbo)
 have he₂:=Heap.get?_push_of_some (h:=h₁) { cls:=.type "traceback",dict:=none,data:=.fields ([head,.ref L,.none,rawInt L,.none]++(if pl.isEmpty then List.replicate 6 Value.none else pl)).toArray } he₁
 refine wpAny_setField he₂ hd hsz ?_
 have hTe:h₁.objs.size≠ea:=Nat.ne_of_gt (Heap.lt_size he₁)
 have hd₃:=Obj.data_mapFields hd (·.setIfInBounds 1 (Value.ref h₁.objs.size))
 have he₃:=Heap.get?_update_self (Obj.mapFields (·.setIfInBounds 1 (Value.ref h₁.objs.size))) he₂ (Obj.isFreed_of_fields hd₃)
 have hT₃:=(Heap.get?_update_other (h₁.push { cls:=.type "traceback",dict:=none,data:=.fields ([head,.ref L,.none,rawInt L,.none]++(if pl.isEmpty then List.replicate 6 Value.none else pl)).toArray })
   (Obj.mapFields (·.setIfInBounds 1 (Value.ref h₁.objs.size))) (Ne.symm hTe)).trans (Heap.get?_push_size h₁ rfl)
 have keep:∀ b o,b≠ea→h₁.get? b=some o →
     ((h₁.push { cls:=.type "traceback",dict:=none,data:=.fields ([head,.ref L,.none,rawInt L,.none]++(if pl.isEmpty then List.replicate 6 Value.none else pl)).toArray }).update ea (Obj.mapFields (·.setIfInBounds 1 (Value.ref h₁.objs.size)))).get? b=some o :=
   fun b o hbe hb=>by
     rw [Heap.get?_update_other _ _ (Ne.symm hbe)]
     exact Heap.get?_push_of_some _ hb
 have noRecord:∀ b o,s.heap.get? b=some o→(∀ vs,o.data≠.fields vs)→b≠ea:=fun b o hb hnf q=>by
   rw [q,he] at hb;injection hb with hb;subst hb;exact hnf vs hd
 have up:∀ b o,s.heap.get? b=some o→(∀ vs,o.data≠.fields vs)→∃ sl,((h₁.push { cls:=.type "traceback",dict:=none,data:=.fields ([head,.ref L,.none,rawInt L,.none]++(if pl.isEmpty then List.replicate 6 Value.none else pl)).toArray }).update ea (Obj.mapFields (·.setIfInBounds 1 (Value.ref h₁.objs.size)))).get? b=some { o with slots:=sl }:=fun b o hb hnf=>by
   obtain ⟨sl,hs⟩:=hs₁.2.2 b o hb
   exact ⟨sl,keep b _ (noRecord b o hb hnf) hs⟩
 have hmap:∀ {o:Obj} {f:Array Value→Array Value},(o.mapFields f).dict=o.dict:=fun {o f}=>by unfold Obj.mapFields;split<;>rfl
 refine h _ (fun b o hbo=>keep b o (fun q=>by rw [q,hen] at hbo;cases hbo) (kb₁ b o hbo)) (hl.of_keeps fun b o hb hnf=>let ⟨sl,e⟩:=up b o hb hnf;⟨_,e,rfl⟩) ?_ ?_
 · refine ⟨hen,hHe,hne,_,_,he₃,(Obj.cls_mapFields _ _).trans hcl,hmap.trans hdi,hd₃,h₁.objs.size,_,_,by simp [hsz],hTe,kb₁.fresh,hH _ (by rw [hs₁.1];exact Nat.le_refl _),?_,hT₃,rfl,by first | (simp;done) | (rcases hpl with rfl | ⟨_,_,_,_,_,_,_,rfl⟩<;>simp)⟩
   exact Nat.le_trans hne (Nat.le_of_lt (Heap.lt_size he₁))
 · refine ⟨fun b o hb hm=>?_,fun b o hb hm k=>?_,fun b m x=>ZeI up x,fun b v x=>Zbn up x,?_⟩
   · obtain ⟨sl,hs⟩:=hs₁.2.2 b o hb
     exact ⟨sl,keep b _ (fun q=>hene (by rw [← q];exact hm)) hs⟩
   · refine keep b o (fun q=>?_) ((hs₁.2.1 b hm).trans hb)
     rcases k with k | k
     · exact k (by rw [q];exact hHe)
     · rw [q] at k;exact absurd k (Nat.not_lt.mpr hne)
   · rw [Heap.size_after_update,Heap.size_push,hs₁.1];exact Nat.le_succ _
theorem Zel {fl:Option Value}{Q:Unit→Shared→Prop}(hfl:fl=none∨fl=some .none)
   (hfr:A.frames=some (env::outer)) (hl:s.heap.FunFrames base (env::outer)) (hf:env.frame=some L) (hkb:base.StaysIn s.heap) (x:ExcAt base n H ea C dx fl s.heap) (hH:∀ b,s.heap.objs.size≤b→H b=none)
   (h:∀ h',base.StaysIn h'→h'.FunFrames base (env::outer)→ExcAt base n H ea C dx (some (rawInt L)) h'→Keep (Xi (env::outer)) n H s.heap h'→Q () { s with heap:=h' }) :
   wpAny M A (noteFrame (.ref ea) env) Q E s:=by
 obtain ⟨hen,hHe,hne,oe,vs,he,hcl,hdi,hd,tb⟩:=x
 unfold noteFrame
 simp only [hf]
 rcases hfl with rfl | rfl
 · have h1:vs[1]?=some .none:=tb
   refine wpAny_bind (wpAny_field he hd h1 ?_)
   rw [if_neg (by decide)]
   exact ZaR hfr hl hf he hkb hen hHe hne hcl hdi hd (Array.getElem?_eq_some_iff.mp h1).1 hH h
 · obtain ⟨T,oT,ts,h1,hTe,hnT,hHT,hnT2,hT,hdT,h3⟩:=tb
   refine wpAny_bind (wpAny_field he hd h1 ?_)
   rw [if_pos (show (Value.ref T != Value.none)=true from by simp)]
   refine wpAny_bind (wpAny_field hT hdT h3 ?_)
   rw [if_neg (show ¬ ((Value.none == rawInt L)=true) from by simp [rawInt])]
   refine wpAny_bind (wpAny_setField hT hdT (Array.getElem?_eq_some_iff.mp h3).1 ?_)
   have other:∀ b,b≠T→(s.heap.update T (Obj.mapFields (·.setIfInBounds 3 Value.none))).get? b=s.heap.get? b:=fun b hb=>Heap.get?_update_other _ _ (Ne.symm hb)
   have noRecord:∀ b o,s.heap.get? b=some o→(∀ vs,o.data≠.fields vs)→b≠T:=fun b o hb hnf q=>by
     rw [q,hT] at hb;injection hb with hb;subst hb;exact hnf ts hdT
   have up:∀ b o,s.heap.get? b=some o→(∀ vs,o.data≠.fields vs)→∃ sl,(s.heap.update T (Obj.mapFields (·.setIfInBounds 3 Value.none))).get? b=some { o with slots:=sl }:=fun b o hb hnf=>⟨o.slots,(other b (noRecord b o hb hnf)).trans hb⟩
   have hsz:(s.heap.update T (Obj.mapFields (·.setIfInBounds 3 Value.none))).objs.size=s.heap.objs.size:=Heap.size_after_update ..
   have kp:Keep (Xi (env::outer)) n H s.heap (s.heap.update T (Obj.mapFields (·.setIfInBounds 3 Value.none))):=by
     refine ⟨fun b o hb hm=>⟨o.slots,(other b fun q=>?_).trans hb⟩,fun b o hb hm k=>(other b fun q=>?_).trans hb,fun b m x=>ZeI up x,fun b v x=>Zbn up x,Nat.le_of_eq hsz.symm⟩
     · obtain ⟨_,o',ho',hnf⟩:=hl.mem hm
       rw [q,hT] at ho';cases ho';exact hnf ts hdT
     · rcases k with k | k
       · exact k (by rw [q];exact hHT)
       · rw [q] at k;exact absurd k (Nat.not_lt.mpr hnT2)
   exact ZaR (s:={ s with heap:=s.heap.update T (Obj.mapFields (·.setIfInBounds 3 Value.none)) }) hfr (hl.of_keeps fun b o hb hnf=>⟨o,(other b (noRecord b o hb hnf)).trans hb,rfl⟩) hf ((other ea (Ne.symm hTe)).trans he)
     (fun b o hbo=>(other b fun q=>by rw [q,hnT] at hbo;cases hbo).trans (hkb b o hbo)) hen hHe hne hcl hdi hd (Array.getElem?_eq_some_iff.mp h1).1 (fun b hb=>hH b (by rw [← hsz];exact hb))
     fun h' x1 x2 x3 x4=>h h' x1 x2 x3 (kp.trans x4)
theorem Vt {l:List Env}{fl:Value}{Q:Unit→Shared→Prop}(hkb:base.StaysIn s.heap)(hl:s.heap.FunFrames base l)(x:ExcAt base n H ea C dx (some fl) s.heap)
   (h:∀ h',base.StaysIn h'→h'.FunFrames base l→ExcAt base n H ea C dx (some .none) h'→(∀ fs,(∀ b∈fs,∃ o,s.heap.get? b=some o∧∀ vs,o.data≠.fields vs)→Keep fs n H s.heap h')→Q () { s with heap:=h' }) :
   wpAny M A (setFlight (.ref ea) none) Q E s:=by
 obtain ⟨hen,hHe,hne,oe,vs,he,hcl,hdi,hd,T,oT,ts,h1,hTe,hnT,hHT,hnT2,hT,hdT,h3⟩:=x
 have hsz3:3 < ts.size:=(Array.getElem?_eq_some_iff.mp h3).1
 have other:∀ b,b≠T→(s.heap.update T (Obj.mapFields (·.setIfInBounds 3 ((none:Option Addr).elim Value.none fun f=>rawInt f)))).get? b=s.heap.get? b :=
   fun b hb=>Heap.get?_update_other _ _ (Ne.symm hb)
 have noRecord:∀ b o,s.heap.get? b=some o→(∀ vs,o.data≠.fields vs)→b≠T:=fun b o hb hnf q=>by
   rw [q,hT] at hb;injection hb with hb;subst hb;exact hnf ts hdT
 have up:∀ b o,s.heap.get? b=some o→(∀ vs,o.data≠.fields vs)→∃ sl,(s.heap.update T (Obj.mapFields (·.setIfInBounds 3 ((none:Option Addr).elim Value.none fun f=>rawInt f)))).get? b=some { o with slots:=sl }:=fun b o hb hnf=>⟨o.slots,(other b (noRecord b o hb hnf)).trans hb⟩
 unfold setFlight
 refine wpAny_bind (wpAny_field he hd h1 ?_)
 rw [if_pos (show (Value.ref T != Value.none)=true from by simp)]
 refine wpAny_setField hT hdT hsz3 (h _ (fun b o hbo=>(other b fun q=>by rw [q,hnT] at hbo;cases hbo).trans (hkb b o hbo))
   (hl.of_keeps fun b o hb hnf=>⟨o,(other b (noRecord b o hb hnf)).trans hb,rfl⟩) ?_ fun fs hfs=>?_)
 · exact ⟨hen,hHe,hne,oe,vs,(other ea (Ne.symm hTe)).trans he,hcl,hdi,hd,T,_,_,h1,hTe,hnT,hHT,hnT2,Heap.get?_update_self _ hT (Obj.isFreed_of_fields (Obj.data_mapFields hdT _)),Obj.data_mapFields hdT _,by simp [hsz3]⟩
 · refine ⟨fun b o hb hm=>⟨o.slots,(other b fun q=>?_).trans hb⟩,fun b o hb hm k=>(other b fun q=>?_).trans hb,fun b m x=>ZeI up x,fun b v x=>Zbn up x,Nat.le_of_eq (Heap.size_after_update ..).symm⟩
   · obtain ⟨o',ho',hnf⟩:=hfs b hm
     rw [q,hT] at ho';cases ho';exact hnf ts hdT
   · rcases k with k | k
     · exact k (by rw [q];exact hHT)
     · rw [q] at k;exact absurd k (Nat.not_lt.mpr hnT2)
theorem Zim {fl:Option Value}{Q:Unit→Shared→Prop}(hfl:fl=none∨fl=some .none)
   (hfr:A.frames=some (env::outer)) (hl:s.heap.FunFrames base (env::outer)) (hf:env.frame=some L) (hkb:base.StaysIn s.heap) (x:ExcAt base n H ea C dx fl s.heap) (hH:∀ b,s.heap.objs.size≤b→H b=none)
   (h:∀ h',base.StaysIn h'→h'.FunFrames base outer→ExcAt base n H ea C dx (some .none) h'→Keep (Xi (env::outer)) n H s.heap h'→Q () { s with heap:=h' }) :
   wpAny M A (leaving env (.ref ea)) Q E s:=by
 unfold leaving
 refine wpAny_bind (Zel hfl hfr hl hf hkb x hH fun h1 b1 f1 x1 k1=>?_)
 refine Vt b1 f1 x1 fun h2 b2 f2 x2 k2=>h h2 b2 f2.2.2 x2 (k1.trans (k2 _ fun b hb=>?_))
 obtain ⟨_,o,ho,hnf⟩:=f1.mem hb
 exact ⟨o,ho,hnf⟩
end
end L2
set_option maxHeartbeats 1000000
namespace L2
open PySem PySem.Spec PyProof.Rows
theorem Keep.hok {P:Program}{w:World}{fs:List Addr}{n:Nat}{H:Hp}{h h':Heap}(x:HOk P w H h)(hf:∀ b∈fs,H b=none)(k:Keep fs n H h h'):HOk P w H h':=fun a o e=>by
 have tr:∀ b,b=a∨H b=some (.own a)→H b≠none:=fun b hb z=>by
   rcases hb with rfl | hb
   · rw [e] at z;cases z
   · rw [hb] at z;cases z
 exact (x a o e).stay (fun b u hb q=>k.2.1 b u q (fun m=>tr b hb (hf b m)) (.inl (tr b hb))) (fun _ q=>q) (fun _ _ q=>q)
theorem ExcAt.le {base:Heap}{n n':Nat}{H:Hp}{ea C dx:Addr}{fl:Option Value}{h:Heap}(x:ExcAt base n' H ea C dx fl h)(l:n≤n'):ExcAt base n H ea C dx fl h:=by
 obtain ⟨a,b,c,oe,vs,e1,e2,e3,e4,tb⟩:=x
 refine ⟨a,b,Nat.le_trans l c,oe,vs,e1,e2,e3,e4,?_⟩
 cases fl with
 | none=>exact tb
 | some f=>obtain ⟨T,oT,ts,t1,t2,t3,t4,t5,t6⟩:=tb;exact ⟨T,oT,ts,t1,t2,t3,t4,Nat.le_trans l t5,t6⟩
section
variable {X:Cx}{pins:List (Addr×Obj)}{σ:St}{H H1 H2:Hp}{s s1 s2:Shared}{h':Heap}
def ZeY (n:Nat)(H:Hp)(h:Heap):List Addr:=(List.range h.objs.size).filter fun b=>(H b).isNone&&decide (n≤b)
theorem Inv.flown {t':Nat}(I1:Inv X pins σ H1 s1)(I2:Inv X pins σ H2 s2)(k:Keep (Xi X.stack) s1.heap.objs.size H2 s2.heap h'):Inv X pins σ H2 { s2 with heap:=h',toks:=t' }:=by
 have mem:∀ b,b∈ZeY s1.heap.objs.size H2 s2.heap→s1.heap.objs.size≤b:=fun b hb=>by
   have:=(List.mem_filter.mp hb).2
   simp only [Bool.and_eq_true,decide_eq_true_eq] at this
   exact this.2
 have out:∀ b o,s2.heap.get? b=some o→b ∉ ZeY s1.heap.objs.size H2 s2.heap→H2 b≠none∨b < s1.heap.objs.size:=fun b o e hb=>by
   by_cases z:H2 b=none
   · refine .inr (Nat.lt_of_not_le fun l=>hb (List.mem_filter.mpr ⟨List.mem_range.mpr (Heap.lt_size e),?_⟩))
     rw [z];simp [l]
   · exact .inl z
 refine I2.call (g':=s2.gens) (d':=s2.drawn) (ch:=ZeY s1.heap.objs.size H2 s2.heap) ⟨fun b o e hn hf hc=>k.2.1 b o e hf (out b o e hc),fun b o e hn hf hc=>k.1 b o e hf,fun b o e hn hc=>hn,fun b o e hc=>?_,fun _ _ e=>e,fun _ _ _ e=>e,fun _ ps e=>⟨#[],by rw [e];simp⟩⟩ (k.hok I2.hok I2.stkFree) I2.bare fun b hb=>?_
 · by_cases m:b∈Xi X.stack
   · obtain ⟨sl,q⟩:=k.1 b o e m;exact ⟨_,q⟩
   · exact ⟨o,k.2.1 b o e m (out b o e hc)⟩
 · have hb':=mem b hb
   refine ⟨.inr (Nat.le_trans I1.sz hb'),fun z=>?_,fun x c hx z=>?_,fun p hp z=>?_⟩
   · have:=I1.lt;rw [← z] at this;exact absurd this (Nat.not_lt.mpr hb')
   · obtain ⟨v,o,e,_⟩:=I1.cell x c hx
     have:=Heap.lt_size e;rw [z] at this;exact absurd this (Nat.not_lt.mpr hb')
   · have:=Heap.lt_size (I1.pin p hp).1;rw [z] at this;exact absurd this (Nat.not_lt.mpr hb')
structure Cx.Old (X:Cx)(a:Addr):Prop where
 t:∀ xs,X.H₀ a≠some (.tup xs)
 f:∀ o u,X.H₀ a≠some (.frz o u)
 b:∀ ps,X.H₀ a≠some (.tbl ps)
theorem Inv.old {a:Addr}(I:Inv X pins σ H s)(h:H a=none):X.Old a where
 t:=fun xs e=>(by have:=I.base.tups a xs e;rw [h] at this;cases this)
 f:=fun o u e=>(by have:=I.base.frzs a o u e;rw [h] at this;cases this)
 b:=fun ps e=>(by obtain ⟨m,q⟩:=I.base.tbls a ps e;rw [h] at q;cases q)
theorem Cx.Old.nt {a b:Addr}(O:X.Old a){xs:List V}(e:X.H₀ b=some (.tup xs)):b≠a:=fun z=>O.t xs (by rw [← z];exact e)
theorem Cx.Old.nf {a b:Addr}(O:X.Old a){o:Obj}{u:HO}(e:X.H₀ b=some (.frz o u)):b≠a:=fun z=>O.f o u (by rw [← z];exact e)
theorem Cx.Old.nb {a b:Addr}(O:X.Old a){ps:Array Value}(e:X.H₀ b=some (.tbl ps)):b≠a:=fun z=>O.b ps (by rw [← z];exact e)
theorem Inv.track {a:Addr}{o:HO}(I:Inv X pins σ H s)(hn:H a=none)(h0:X.s₀.heap.objs.size≤a)(hL:a≠X.env.locals)(hC:∀ x c,X.env.cells.lookup x=some c→c≠a)(hp:∀ p∈X.pn++pins,p.1≠a)
   (new:ObjOk X.prog X.w (upd H a o) s.heap a o):Inv X pins σ (upd H a o) s:=by
 have old:∀ b u,X.s₀.heap.get? b=some u→b≠a:=fun b u e z=>by
   have:=Heap.lt_size e;rw [z] at this;exact absurd this (Nat.not_lt.mpr h0)
 refine ⟨I.ok,I.os,I.bare,⟨I.base.keep,I.base.slot,fun b u e n hx=>?_,I.base.there,fun b xs e=>?_,fun b u xs e=>?_,fun b ps e=>?_⟩,I.loc,I.cell,?_,fun x c hx=>?_,fun p hp'=>?_,fun b u e=>?_,I.len⟩
 · rw [Zh (old b u e)];exact I.base.free b u e n hx
 · rw [Zh ((I.old hn).nt e)];exact I.base.tups b xs e
 · rw [Zh ((I.old hn).nf e)];exact I.base.frzs b u xs e
 · rw [Zh ((I.old hn).nb e)];exact I.base.tbls b ps e
 · rw [Zh (Ne.symm hL)];exact I.free
 · rw [Zh (hC x c hx)];exact I.freeC x c hx
 · obtain ⟨e1,e2,e3⟩:=I.pin p hp'
   exact ⟨e1,by rw [Zh (hp p hp')];exact e2,e3⟩
 · by_cases z:b=a
   · subst z;rw [Zg] at e;cases e;exact new
   · rw [Zh z] at e
     exact (I.hok b u e).stay (fun _ _ _ q=>q) (fun c q=>by rw [Zh (Zn q hn)];exact q) (fun c xs q=>by rw [Zh (Zn q hn)];exact q)
end
def Vb (P:Program)(w:World)(base:Heap):Ud:=fun outer H s E e s'=>∃(ea C dx:Addr)(H':Hp),e=.ref ea∧base.StaysIn s'.heap∧s'.heap.FunFrames base outer∧ExcAt base s.heap.objs.size H' ea C dx (some .none) s'.heap∧s'.os=s.os∧AllBare s'.gens ∧
 Un (Xi outer) [] H H' s.heap s'.heap∧HOk P w H' s'.heap∧E (.ref C) (some dx) H'
section
variable {P:Program}{w:World}{K:PySem.W.Frag}{mg:Str→Option Value}{base:Heap}{k:Nat}{f:Addr}{fd:FuncData}{ps:List Str}{sp sp':Sp}{CX:Ud}
def UW (X:Cx)(EE:St→XK):Prop:=∀(pins:List (Addr×Obj))(σ:St)(H1 H2:Hp)(s1 s2:Shared)(ea C dx:Addr)(fl:Option Value),Inv X pins σ H1 s1→Inv X pins σ H2 s2→(fl=none∨fl=some .none)→ExcAt X.base s1.heap.objs.size H2 ea C dx fl s2.heap→EE σ (.ref C) (some dx) H2→X.xe (.ref ea) s2
theorem ZgL {N:List Str}{qual:Str}{scope:Scope}{cd:Value}{A:Around}{outer:List Env}{s:Shared}{H:Hp}{E:XK}:UW (Uk (Vb P w base) P w K mg base N qual scope f cd A outer s H E) (fun _=>E):=by
 intro pins σ H1 H2 s1 s2 ea C dx fl I1 I2 hfl x q
 have hsz:s.heap.objs.size≤s1.heap.objs.size:=I1.sz
 have hok2:HOk P w H2 s2.heap:=I2.hok
 refine Zim (base:=base) (n:=s.heap.objs.size) (H:=H2) (outer:=outer) (L:=s.heap.objs.size) hfl I2.ok.frames I2.stack rfl I2.bk (x.le hsz) (fun b hb=>hok2.fresh hb) fun h' b1 f1 x1 k1=>?_
 have un:Un (Xi outer) [] H H2 s.heap s2.heap:=I2.base
 have nL:∀ b o,s.heap.get? b=some o→b ∉ Xi outer→b ∉ Xi (envOfC qual scope s.heap.objs.size f cd::outer):=fun b o e hf m=>by
   rcases List.mem_filterMap.mp m with ⟨v,hv,ev⟩
   rcases List.mem_cons.mp hv with rfl | hv
   · cases (show some s.heap.objs.size=some b from ev);exact absurd (Heap.lt_size e) (Nat.lt_irrefl _)
   · exact hf (List.mem_filterMap.mpr ⟨v,hv,ev⟩)
 have inL:∀ b,b∈Xi outer→b∈Xi (envOfC qual scope s.heap.objs.size f cd::outer):=fun b m=>by
   obtain ⟨v,hv,ev⟩:=List.mem_filterMap.mp m
   exact List.mem_filterMap.mpr ⟨v,List.mem_cons_of_mem _ hv,ev⟩
 refine ⟨ea,C,dx,H2,rfl,b1,f1,x1,I2.os,I2.bare,⟨fun b o e hn hf hx=>k1.2.1 b o (un.keep b o e hn hf hx) (nL b o e hf) (.inr (Heap.lt_size e)),fun b o e hn hf hx=>?_,un.free,fun b o e hx=>?_,un.tups,un.frzs,un.tbls⟩,k1.hok hok2 I2.stkFree,q⟩
 · obtain ⟨sl,e1⟩:=un.slot b o e hn hf hx
   obtain ⟨sl2,e2⟩:=k1.1 b _ e1 (inL b hf)
   exact ⟨sl2,e2⟩
 · obtain ⟨o',e1⟩:=un.there b o e hx
   by_cases m:b∈Xi (envOfC qual scope s.heap.objs.size f cd::outer)
   · obtain ⟨sl,e2⟩:=k1.1 b o' e1 m;exact ⟨_,e2⟩
   · exact ⟨o',k1.2.1 b o' e1 m (.inr (Heap.lt_size e))⟩
end
end L2
set_option maxHeartbeats 1000000
namespace L2
open PySem PySem.Spec PyProof.Rows
abbrev Cx.tryc (X:Cx)(pn:List (Addr×Obj))(Z:Value→Shared→Prop):Cx:={ X with pn:=pn,xe:=Z }
abbrev Cx.marked (X:Cx)(ea:Addr)(Z:Value→Shared→Prop):Cx:={ X with A:=X.A.mark (some (.ref ea)),calm:=false,xe:=Z }
def XO (ea C dx:Addr):HO:=.ext fun h=>∃ oe vs,h.get? ea=some oe∧oe.cls=.ref C∧oe.dict=some dx∧oe.data=.fields vs
section
variable {X:Cx}{pins:List (Addr×Obj)}{σ:St}{H:Hp}{s:Shared}
theorem Inv.tryc (I:Inv X pins σ H s)(Z:Value→Shared→Prop):Inv (X.tryc (X.pn++pins) Z) [] σ H s :=
 ⟨⟨I.ok.mod,I.ok.kind,I.ok.glob,I.ok.blt,I.ok.above,I.ok.inj,I.ok.has,I.ok.cab,I.ok.hd,I.ok.frames,I.ok.stk,I.ok.exf,I.ok.bs,I.ok.bsz,I.ok.noex,I.ok.exfs,I.ok.funs,I.ok.frf⟩,I.os,I.bare,I.base,I.loc,I.cell,I.free,I.freeC,fun p hp=>I.pin p (by rw [List.append_nil] at hp;exact hp),I.hok,I.len⟩
theorem Inv.untryc {pins':List (Addr×Obj)}{Z:Value→Shared→Prop}(I:Inv (X.tryc (X.pn++pins) Z) pins' σ H s):Inv X pins σ H s :=
 ⟨⟨I.ok.mod,I.ok.kind,I.ok.glob,I.ok.blt,I.ok.above,I.ok.inj,I.ok.has,I.ok.cab,I.ok.hd,I.ok.frames,I.ok.stk,I.ok.exf,I.ok.bs,I.ok.bsz,I.ok.noex,I.ok.exfs,I.ok.funs,I.ok.frf⟩,I.os,I.bare,I.base,I.loc,I.cell,I.free,I.freeC,fun p hp=>I.pin p (List.mem_append_left _ hp),I.hok,I.len⟩
theorem Inv.mark (I:Inv X pins σ H s)(ea:Addr)(Z:Value→Shared→Prop):Inv (X.marked ea Z) pins σ H s :=
 ⟨⟨I.ok.mod,I.ok.kind,I.ok.glob,I.ok.blt,I.ok.above,I.ok.inj,I.ok.has,I.ok.cab,(fun z=>by cases z),I.ok.frames,I.ok.stk,I.ok.exf,I.ok.bs,I.ok.bsz,I.ok.noex,I.ok.exfs,I.ok.funs,I.ok.frf⟩,I.os,I.bare,I.base,I.loc,I.cell,I.free,I.freeC,I.pin,I.hok,I.len⟩
theorem Inv.unmark {ea:Addr}{Z:Value→Shared→Prop}(I:Inv (X.marked ea Z) pins σ H s)(hd:X.calm=true→X.A.handled=none):Inv X pins σ H s :=
 ⟨⟨I.ok.mod,I.ok.kind,I.ok.glob,I.ok.blt,I.ok.above,I.ok.inj,I.ok.has,I.ok.cab,hd,I.ok.frames,I.ok.stk,I.ok.exf,I.ok.bs,I.ok.bsz,I.ok.noex,I.ok.exfs,I.ok.funs,I.ok.frf⟩,I.os,I.bare,I.base,I.loc,I.cell,I.free,I.freeC,I.pin,I.hok,I.len⟩
theorem Zjd {M:Model}{A:Around}{E:Value→Shared→Prop}{i:Nat}{x:Str}{pos:Pos}{Q:Unit→Shared→Prop}(I:Inv X pins σ H s)(hN:X.N.Nodup)(hi:X.N[i]?=some x)(hk:X.env.kindOf x=some .local)
   (h:∀ s',Inv X pins (σ.set i none) H s'→Q () s'):wpAny M A (do bindName X.env x .none;unbindBehindTheSuite X.env x pos) Q E s:=by
 obtain ⟨m,hn,hl⟩:=id I.loc
 have hcls:(X.env.scope.kind == .class || (X.env.scope.kind == .module&&X.env.locals != X.env.globals))=false:=by rw [I.ok.kind];rfl
 have cne:=I.cne
 refine wpAny_nameGoes_keeps hk hn hcls fun h' v hn' hs=>?_
 obtain ⟨oL,_,_,hoL,_⟩:=id hn
 refine h _ ⟨I.ok,I.os,I.bare,⟨fun b o e n hb hx=>?_,fun b o e n hb hx=>?_,I.base.free,fun b o e hx=>?_,I.base.tups,I.base.frzs,I.base.tbls⟩,⟨_,hn',fun j y v' e1 e2 e3=>?_⟩,fun y c e=>?_,I.free,I.freeC,fun p hp=>?_,fun b ob e=>?_,by simpa using I.len⟩
 · exact (hs.2 b (Nat.ne_of_lt (Nat.lt_of_lt_of_le (Heap.lt_size e) I.ok.above))).trans (I.base.keep b o e n hb hx)
 · obtain ⟨sl,e1⟩:=I.base.slot b o e n hb hx
   exact ⟨sl,(hs.2 b (Nat.ne_of_lt (Nat.lt_of_lt_of_le (Heap.lt_size e) I.ok.above))).trans e1⟩
 · obtain ⟨o',e1⟩:=I.base.there b o e hx
   exact ⟨o',(hs.2 b (Nat.ne_of_lt (Nat.lt_of_lt_of_le (Heap.lt_size e) I.ok.above))).trans e1⟩
 · by_cases hj:j=i
   · subst hj
     rw [List.getElem?_set] at e2
     split at e2
     · split at e2<;>cases e2
     · rename_i z;exact absurd rfl z
   · rw [List.getElem?_set_ne (Ne.symm hj)] at e2
     obtain ⟨u',r',q⟩:=hl j y v' e1 e2 e3
     refine ⟨u',r',?_⟩
     rcases q with ⟨k,e⟩ | ⟨k,c,e,z⟩
     · refine .inl ⟨k,?_⟩
       have:y≠x:=fun e=>hj (Zaq hN e1 (e ▸ hi))
       simp [this,e]
     · exact .inr ⟨k,c,e,z.sameBut hs (cne y c e)⟩
 · obtain ⟨w',z⟩:=I.cell y c e
   exact ⟨w',z.sameBut hs (cne y c e)⟩
 · obtain ⟨e,n,ne,nf,d⟩:=I.pin p hp
   exact ⟨(hs.2 p.1 ne).trans e,n,ne,nf,d⟩
 · refine (I.hok b ob e).stay (fun c w' hc q=>(hs.2 c ?_).trans q) (fun _ q=>q) fun _ _ q=>q
   rintro rfl
   rcases hc with rfl | hc
   · rw [I.free] at e;cases e
   · rw [I.free] at hc;cases hc
end
def Zlx (K:PySem.W.Frag)(C0:Addr)(i:Nat)(tb:(St→XK)→TS)(th:TS):TS:=fun D σ H =>
 tb (fun σ' Cv dO H'=>∃ C dx,Cv=.ref C∧dO=some dx∧PySem.W.exmOne K (.ref C) (.ref C0)=some true∧∀ ea,H' ea=none →
   th { nx:=fun σ2 H2=>D.nx (σ2.set i none) H2,rt:=D.rt,bk:=fun σ2 H2=>D.bk (σ2.set i none) H2,ct:=fun σ2 H2=>D.ct (σ2.set i none) H2 } (σ'.set i (some (.ref ea))) (upd H' ea (XO ea C dx))) D σ H
section
variable {X:Cx}{body suite:List Stmt}{b0:Stmt}{C0:Addr}{x0 n:Str}{i:Nat}{tb:(St→XK)→TS}{th:TS}{p0 hp pos:Pos}
theorem ZhU (hcalm:X.calm=true)(hst:X.stack=X.env::X.outer)(hfr:X.env.frame=some X.env.locals)(hN:X.N.Nodup)(hi:X.N[i]?=some n)(hk:X.env.kindOf n=some .local)(hg:Gl X x0)(hm:X.mg x0=some (.ref C0))(hdb:(x0 == ("__debug__":Str))=false)
   (hb:∀ pn Z EE,UW (X.tryc pn Z) EE→PSs (X.tryc pn Z) body (tb EE)) (hh:∀ ea Z,PSs (X.marked ea Z) (b0::suite) th) :
   PS X (.Try body [.ExceptHandler (some (.Name x0 p0)) (some n) (b0::suite) hp] [] [] pos) (Zlx X.K C0 i tb th):=by
 intro pins s σ H D I h
 rw [arm_exec_Try]
 refine wpAny_bind (wpAny_standAt (wpAny_tryStmt_except ?_))
 refine wpAny_mono (hb (X.pn++pins) _ _ ?W [] s σ H D (I.tryc _) h) (fun f s1 hs=>?_) (fun e s1 z=>z)
 case W =>
   intro pins' σ1 H1 H2 s1 s2 ea C dx fl I1 I2 hfl x q
   have J1:=I1.untryc
   have J2:=I2.untryc
   obtain ⟨C',dx',e1,e2,hex,hq⟩:=q
   cases e1
   cases e2
   have fr:X.A.frames=some (X.env::X.outer):=by rw [← hst];exact J2.ok.frames
   have ff:s2.heap.FunFrames X.base (X.env::X.outer):=by rw [← hst];exact J2.stack
   have off:∀ {h:Heap},h.FunFrames X.base (X.env::X.outer)→∀ b∈Xi (X.env::X.outer),∃ o,h.get? b=some o∧∀ vs,o.data≠.fields vs:=fun f b hb=>(f.mem hb).2
   refine Zel (base:=X.base) (n:=s1.heap.objs.size) (H:=H2) hfl fr ff hfr J2.bk x (fun b hb=>J2.hok.fresh hb) fun h3 b3 f3 x3 k3=>?_
   refine Vt b3 f3 x3 fun h4 b4 f4 x4 k4=>?_
   have k34:=k3.trans (k4 _ (off f3))
   have J4:Inv X pins σ1 H2 { s2 with heap:=h4 }:=J1.flown (t':=s2.toks) J2 (by rw [hst];exact k34)
   refine wpAny_handleBy_cons (codeAny_handlers_test ?_) (by intro q;cases q)
   refine WJ (X:=X.marked ea X.xe) (J4.mark ea X.xe) hg hm ?_ hdb
   have LT:PySem.W.Looks (model X.prog X.w) h4 (typeOf (.ref ea)) (.ref C):=by
     obtain ⟨_,_,_,oe,vs,he,hc,_⟩:=x4
     rw [← hc];exact (PySem.W.Looks.ld he).andThen .now
   refine (PySem.W.exm_one (h:=h4) J4.kIn LT hex) _ _ _ _ (fun _ _ e=>e) ?_
   refine codeAny_handlers_suite_as ?_
   refine Vt b4 f4 x4 fun h5 b5 f5 x5 k5=>?_
   have k45:=k34.trans (k5 _ (off f4))
   have J5:Inv X pins σ1 H2 { s2 with heap:=h5 }:=J1.flown (t':=s2.toks) J2 (by rw [hst];exact k45)
   obtain ⟨hen,hHe,hne,oe,vs,he,hc,hdi,hd,_⟩:=id x5
   have lt1:∀ b,b < s1.heap.objs.size→b≠ea:=fun b hb z=>by rw [z] at hb;exact absurd hb (Nat.not_lt.mpr hne)
   have J6:Inv X pins σ1 (upd H2 ea (XO ea C dx)) { s2 with heap:=h5 }:=by
     refine J5.track hHe (Nat.le_trans J1.sz hne) (fun z=>lt1 _ J1.lt z.symm) (fun y c hy=>?_) (fun p hp=>lt1 _ (Heap.lt_size (J1.pin p hp).1)) ?_
     · obtain ⟨v,o,e,_⟩:=J1.cell y c hy
       exact lt1 _ (Heap.lt_size e)
     · exact ⟨⟨oe,vs,he,hc,hdi,hd⟩,⟨oe,he⟩,fun h1 h2 ⟨oe,vs,e,r⟩ k=>⟨oe,vs,k _ e,r⟩⟩
   refine Xd (X:=X) J6 hN hi (.inl hk) (v:=.ref ea) rfl (fun s6 J8=>?_) (.inr hk)
   refine wpAny_mono (hh ea _ pins s6 _ _ _ (J8.mark ea _) (hq ea hHe)) (fun f s7 hs=>?_) (fun _ _ z=>z)
   have back:∀ {Z:Value→Shared→Prop} {σ':St} {H':Hp} {Q:Unit→Shared→Prop},Inv (X.marked ea Z) pins σ' H' s7→(∀ s',Inv X pins (σ'.set i none) H' s'→Q () s')→wpAny (model X.prog X.w) X.A (do bindName X.env n .none;unbindBehindTheSuite X.env n hp) Q X.xe s7:=fun J q=>Zjd (J.unmark J1.ok.hd) hN hi hk q
   cases f with
   | next=>obtain ⟨σ',H',J,q⟩:=hs;exact back J fun s' J'=>⟨_,H',J',q⟩
   | brk=>obtain ⟨σ',H',J,q⟩:=hs;exact back J fun s' J'=>⟨_,H',J',q⟩
   | cont=>obtain ⟨σ',H',J,q⟩:=hs;exact back J fun s' J'=>⟨_,H',J',q⟩
   | ret u=>obtain ⟨v,σ',H',J,r,q⟩:=hs;exact back J fun s' J'=>⟨v,_,H',J',r,q⟩
 · cases f with
   | next=>obtain ⟨σ',H',J,q⟩:=hs;exact wpAny_pure ⟨σ',H',J.untryc,q⟩
   | brk=>obtain ⟨σ',H',J,q⟩:=hs;exact ⟨σ',H',J.untryc,q⟩
   | cont=>obtain ⟨σ',H',J,q⟩:=hs;exact ⟨σ',H',J.untryc,q⟩
   | ret u=>obtain ⟨v,σ',H',J,r,q⟩:=hs;exact ⟨v,σ',H',J.untryc,r,q⟩
end
end L2
set_option maxHeartbeats 1000000
namespace L2
open PySem PySem.Spec PyProof.Rows
def DefX (P:Program)(w:World)(K:PySem.W.Frag)(mg:Str→Option Value)(base:Heap)(k:Nat)(x:Str)(ps:List Str)(sp:Sp):Prop :=
 ∃ f fd,FnOk P w K mg base (Vb P w base) k f fd ps sp∧Binds K fd ps []∧PySem.W.keepIn K (.ref f)=true∧mg x=some (.ref f)
def UD (P:Program)(w:World)(K:PySem.W.Frag)(mg:Str→Option Value)(base:Heap)(k:Nat)(C:Addr)(m:Str)(ps:List Str)(sp:Sp):Prop:=∃ f fd,FnOk P w K mg base (Vb P w base) k f fd ps sp∧Binds K fd ps []∧VA K C m f
section
variable {P:Program}{w:World}{K:PySem.W.Frag}{mg:Str→Option Value}{base:Heap}{j k:Nat}{C:Addr}{x m:Str}{ps:List Str}{sp:Sp}
theorem DefX.mono (D:DefX P w K mg base j x ps sp)(h:j≤k):DefX P w K mg base k x ps sp:=let ⟨f,fd,F,b,kp,m⟩:=D;⟨f,fd,F.mono h,b,kp,m⟩
end
def ZkL (sp:Sp)(EE:St→XK)(t:TA):TE:=fun σ H Q=>t σ H fun vs H1=>sp vs H1 Q (EE σ)
def ZlL (C:Addr)(m:Str)(sp:Sp)(EE:St→XK)(ta:TE)(t:TA):TE:=fun σ H Q=>ta σ H fun x H1=>∃ a dx fs,x=.ref a∧H1 a=some (.ins C dx fs)∧fs.lookup m=none∧t σ H1 fun vs H2=>sp (x::vs) H2 Q (EE σ)
section
variable {X:Cx}{EE:St→XK}{k:Nat}{f C:Addr}{fd:FuncData}{ps:List Str}{sp:Sp}{x m:Str}{p pos apos:Pos}{e o:Expr}{es:List Expr}{ta:TE}{t:TA}
theorem Zen {pins:List (Addr×Obj)}{σ:St}{H:Hp}{s:Shared}{Q:VK}{us:List Value}{vs:List V}(W:UW X EE)(F:FnOk X.prog X.w X.K X.mg X.base (Vb X.prog X.w X.base) k f fd ps sp)(hr:Room k X.A)(hb:Binds X.K fd ps [])
   (I:Inv X pins σ H s) (r:Vals vs us) (h:sp vs H Q (EE σ)):wpAny (model X.prog X.w) X.A (call (.ref f) us) (EP X pins σ Q) X.xe s:=by
 have hl:(us++[]).length=ps.length:=by rw [List.append_nil,← r.length];exact F.len _ _ _ _ h
 have hb':=hb s us I.kIn hl
 rw [List.append_nil] at hb'
 refine wpAny_call (codeAny_mono (F.run X.A X.stack s H ⟨us,[]⟩ us vs Q (EE σ) hr I.env0 hb' r h) fun r s' hq=>?_)
 cases r with
 | error e =>
   obtain ⟨ea,C,dx,H',rfl,kb,ff,x,os,gb,un,hok,q⟩:=hq
   exact W pins σ H H' s s' ea C dx _ I (I.call' os un hok gb fun b z=>absurd z (by simp)) (.inr rfl) x q
 | ok fl =>
   cases fl with
   | ret u=>exact I.after hq
   | next=>exact False.elim hq
   | brk=>exact False.elim hq
   | cont=>exact False.elim hq
theorem Zfa (W:UW X EE)(D:DefX X.prog X.w X.K X.mg X.base k x ps sp)(hr:Room k X.A)(ha:PA X (e::es) t)(hg:Gl X x:=by rfl)(hdb:(x == ("__debug__":Str))=false:=by decide)
   (he:starEach (e::es) X.env=(false,eval e X.env)::starEach es X.env:=by rfl) (hpl:(backTo pos (starEach es X.env)).any (·.1)=false:=by rfl):PE X (.Call (.Name x p) (e::es) [] pos) (ZkL sp EE t):=by
 obtain ⟨f,fd,F,b,kp,m⟩:=D
 intro pins s σ H Q I h
 refine wpAny_Call_Name_kw (WJ I hg m ?_ hdb)
 refine PySem.W.callWith_K (h₀:=X.base) I.ok.mod.kin kp (Zr (ha pos pins s σ H _ I h) fun us s1 ⟨vs,H1,I1,r,q⟩=>⟨I1.kIn,?_⟩) he hpl
 exact Zen W F hr b I1 r q
theorem ZeG {pl:Sem Bool}(W:UW X EE)(D:UD X.prog X.w X.K X.mg X.base k C m ps sp)(c:Cls X.K C)(hr:Room k X.A)(he:PE X o ta)(ha:PA X (e::es) t)
   (hst:starEach (e::es) X.env=(false,eval e X.env)::starEach es X.env:=by rfl) (hpl:(backTo pos (starEach es X.env)).any (·.1)=false:=by rfl)
   (ht:eval (.Call (.Attribute o m apos) (e::es) [] pos) X.env=(do
     let ov ← eval o X.env
     standAt apos.atName
     let (f,first) ← holding [ov] (getMethod ov m pl)
     callWith pos f first (backTo pos (starEach (e::es) X.env)) (backToKw pos (keywordEach [] X.env))):=by rfl) :
   PE X (.Call (.Attribute o m apos) (e::es) [] pos) (ZlL C m sp EE ta t):=by
 obtain ⟨f,fd,F,b,hm⟩:=D
 intro pins s σ H Q I h
 refine PySem.W.methodCall_KW (pl:=pl) (Zr (he pins s σ H _ I h) fun u s1 ⟨x,H1,I1,rx,a,dx,fs,ex,ea,l,q⟩=>?_) ht
 subst ex
 obtain rfl:u=Value.ref a:=rx
 refine UC I1 ea c hm l ?_
 refine PySem.W.callWith_K (h₀:=X.base) (first:=[.ref a]) I1.ok.mod.kin hm.kp (Zr (ha pos pins s1 σ H1 _ I1 q) fun us s2 ⟨vs,H2,I2,r,q2⟩=>⟨I2.kIn,?_⟩) hst hpl
 exact Zen (us:=.ref a::us) (vs:=.ref a::vs) W F hr b I2 (.cons rfl r) q2
end
theorem Fun.okX {P:Program}{w:World}{K:PySem.W.Frag}{mg:Str→Option Value}{base:Heap}{x qual:Str}{st:Stmt}{f:Addr}{fd:FuncData}{N ps:List Str}{k:Nat}{sp:Sp}(F:Fun K x qual st f fd)(S:Zq N ps (Zj st))(len:∀ vs H Q E,sp vs H Q E→vs.length=ps.length)
   (hbody:∀ (cdv:Value) (A:Around) (outer:List Env) (s:Shared) (H:Hp) (vs:List V) (Q:VK) (E:XK),Room k (A.deeper (envOfC qual (Zj st) s.heap.objs.size f cdv))→sp vs H Q E →
     UW (Uk (Vb P w base) P w K mg base N qual (Zj st) f cdv A outer s H E) (fun _=>E) →
     ∃ t,PSs (Uk (Vb P w base) P w K mg base N qual (Zj st) f cdv A outer s H E) (Xs st) t∧t { nx:=fun _ H'=>Q .non H',rt:=Q } (start N vs) H):FnOk P w K mg base (Vb P w base) (k+1) f fd ps sp:=by
 obtain ⟨oc,od,kV,doc,pm,an,cdv,ct,osl,rfl,lk,hcd⟩:=F.ex
 exact Zex lk hcd S len fun A outer s H vs Q E hr hsp=>hbody cdv A outer s H vs Q E hr hsp ZgL
end L2
set_option maxHeartbeats 1000000
namespace L2
open PySem PySem.Spec PyProof.Rows
def XN (ea C:Addr):HO:=.ext fun h=>∃ t:Addr,h.get? ea=some { cls:=.ref C,data:=.fields #[.ref t,.none,.none,.none,.bool false,.none] }
def XW (ea C dx:Addr):HO:=.ext fun h=>∃ t:Addr,h.get? ea=some { cls:=.ref C,dict:=some dx,data:=.fields #[.ref t,.none,.none,.none,.bool false,.none] }
structure XF (K:PySem.W.Frag)(C fI:Addr):Prop where
 xc:Zdo K C=true
 init:PySem.W.findIn K (.ref C) "__init__"=some (some (.ref fI))
 sa:PySem.W.findIn K (.ref C) "__setattr__"=some (some (.builtin "object.__setattr__"))
 nw:PySem.W.findIn K (.ref C) "what"=some none
 fn:PySem.W.isFn K (.ref fI)=true
 kp:PySem.W.keepIn K (.ref C)=true
def Zmp (K:PySem.W.Frag)(ta tv:TE):TS:=fun D σ H=>tv σ H fun y H1=>ta σ H1 fun x H2=>∃ ea C fI,x=.ref ea∧H2 ea=some (XN ea C)∧XF K C fI∧∀ dx,H2 dx=none→dx≠ea→D.nx σ (upd (upd H2 dx (.xd [("what",y)])) ea (XW ea C dx))
section
variable {X:Cx}{o value:Expr}{pos pos':Pos}{ta tv:TE}
theorem Zjs (ha:PE X o ta)(hv:PE X value tv)(hs:swapsWith value (some (.Attribute o "what" pos')) pos.line X.env=pure false):PS X (.Assign [.Attribute o "what" pos'] value pos) (Zmp X.K ta tv):=by
 intro pins s σ H D I h
 refine plainObj_wpAny_Assign_Attribute (Zr (hv pins s σ H _ I h) fun u s1 ⟨y,H1,I1,ry,q⟩=>Zr (ha pins s1 σ H1 _ I1 q) fun ov s2 ⟨x,H2,I2,rx,ea,C,fI,ex,hea,xf,q2⟩=>?_) hs
 subst ex
 obtain rfl:ov=Value.ref ea:=rx
 obtain ⟨⟨t,hx⟩,_,_⟩:=(show ObjOk X.prog X.w H2 s2.heap ea (XN ea C) from I2.hok ea _ hea)
 obtain ⟨nm,qn,N,bs,bm,sn,sub,ab,col,dd,k0,k1,k2,k3,k5,hC,T⟩:=VB I2.kIn xf.xc
 obtain ⟨hh,g,d,tk,os⟩:=s2
 have hdn:H2 hh.objs.size=none:=I2.hok.fresh (Nat.le_refl _)
 have hne:hh.objs.size≠ea:=Nat.ne_of_gt (Heap.lt_size hx)
 refine ZjY T hC (PySem.W.looks_findIn I2.kIn xf.sa) (PySem.W.looks_findIn I2.kIn xf.nw) hx rfl rfl (fun c z=>by cases z) fun h' tk' hx' hns hk=>⟨σ,_,?_,q2 _ hdn hne⟩
 have nea:∀ b,H2 b=none→b≠ea:=fun b e z=>by rw [z,hea] at e;cases e
 have ndx:∀ b ob,hh.get? b=some ob→b≠hh.objs.size:=fun b ob e=>Nat.ne_of_lt (Heap.lt_size e)
 refine I2.un (h':=h') (t':=tk') ⟨fun b ob e n _ _=>hk b ob (nea b n) e,fun b ob e n _ _=>⟨ob.slots,hk b ob (nea b n) e⟩,fun b ob e n _=>by rw [Zh (nea b n),Zh (ndx b ob e)];exact n,fun b ob e _=>?_,fun b xs e=>?_,fun b w xs e=>?_,fun b ps e=>?_⟩ fun b w e=>?_
 · by_cases z:b=ea
   · rw [z];exact ⟨_,hx'⟩
   · exact ⟨ob,hk b ob z e⟩
 · rw [Zh (fun z=>by rw [z,hea] at e;cases e),Zh (Zn e hdn)];exact e
 · rw [Zh (fun z=>by rw [z,hea] at e;cases e),Zh (Zn e hdn)];exact e
 · exact ⟨#[],by rw [Zh (fun z=>by rw [z,hea] at e;cases e),Zh (Zn e hdn),e];simp⟩
 · by_cases z:b=ea
   · subst z;rw [Zg] at e;cases e
     exact ⟨⟨t,hx'⟩,⟨_,hx'⟩,fun h1 h2 ⟨t,e⟩ k=>⟨t,k _ e⟩⟩
   · rw [Zh z] at e
     by_cases z2:b=hh.objs.size
     · subst z2;rw [Zg] at e;cases e
       refine ⟨_,hns,fun f=>?_⟩
       show RelO (List.lookup f [("what",y)]) (if f="what" then some u else none)
       by_cases hf:f="what"
       · rw [if_pos hf,hf];exact ry
       · rw [if_neg hf]
         have hb:(f == ("what":Str))=false:=beq_eq_false_iff_ne.mpr hf
         simp only [List.lookup,hb];exact True.intro
     · rw [Zh z2] at e
       refine (I2.hok b w e).stay (fun c u hc q=>?_) (fun c q=>?_) (fun c xs q=>?_)
       · refine hk c u (fun y=>?_) q
         rcases hc with rfl | hc
         · exact z y
         · rw [y,hea] at hc;cases hc
       · rw [Zh (fun y=>by rw [y,hea] at q;cases q),Zh (Zn q hdn)];exact q
       · rw [Zh (fun y=>by rw [y,hea] at q;cases q),Zh (Zn q hdn)];exact q
end
def ZhZ (K:PySem.W.Frag):Sp:=fun vs H Q _=>∃ (ea C fI:Addr) (v:V),vs=[.ref ea,v]∧H ea=some (XN ea C)∧XF K C fI∧∀ dx,H dx=none→dx≠ea→Q .non (upd (upd H dx (.xd [("what",v)])) ea (XW ea C dx))
def Zhi (P:Program)(w:World)(K:PySem.W.Frag)(mg:Str→Option Value)(base:Heap)(k:Nat)(C:Addr)(x:Str):Prop :=
 ∃ fI fd,FnOk P w K mg base ZF k fI fd ["self","what"] (ZhZ K)∧Binds K fd ["self","what"] []∧XF K C fI∧mg x=some (.ref C)
def ZkA (C:Addr)(EE:St→XK)(t:TA):TS:=fun _ σ H=>t σ H fun vs H1=>∃ v,vs=[v]∧∀ dx,H1 dx=none→EE σ (.ref C) (some dx) (upd H1 dx (.xd [("what",v)]))
section
variable {X:Cx}{pins:List (Addr×Obj)}{σ:St}{H:Hp}{s:Shared}
def del (H:Hp)(a:Addr):Hp:=fun b=>if b=a then none else H b
theorem WN {a b:Addr}(h:b≠a):del H a b=H b:=if_neg h
theorem Inv.untrack {a:Addr}{φ:Heap→Prop}(I:Inv X pins σ H s)(e:H a=some (.ext φ))(O:X.Old a):Inv X pins σ (del H a) s:=by
 have off:∀ b,H b=none→del H a b=none:=fun b n=>by unfold del;split;rfl;exact n
 refine ⟨I.ok,I.os,I.bare,⟨I.base.keep,I.base.slot,fun b u q n hx=>off b (I.base.free b u q n hx),I.base.there,fun b xs q=>?_,fun b u xs q=>?_,fun b ps q=>?_⟩,I.loc,I.cell,off _ I.free,fun x c hx=>off _ (I.freeC x c hx),fun p hp=>?_,fun b u q=>?_,I.len⟩
 · rw [WN (O.nt q)];exact I.base.tups b xs q
 · rw [WN (O.nf q)];exact I.base.frzs b u xs q
 · rw [WN (O.nb q)];exact I.base.tbls b ps q
 · obtain ⟨e1,e2,e3⟩:=I.pin p hp
   exact ⟨e1,off _ e2,e3⟩
 · by_cases z:b=a
   · subst z;unfold del at q;rw [if_pos rfl] at q;cases q
   · rw [WN z] at q
     exact (I.hok b u q).stay (fun _ _ _ y=>y) (fun c y=>by rw [WN (fun z=>by rw [z,e] at y;cases y)];exact y) (fun c xs y=>by rw [WN (fun z=>by rw [z,e] at y;cases y)];exact y)
end
section
variable {X:Cx}{EE:St→XK}{k:Nat}{C:Addr}{x:Str}{np cpos pos:Pos}{e:Expr}{t:TA}
theorem ZgT (W:UW X EE)(D:Zhi X.prog X.w X.K X.mg X.base k C x)(hr:Room (k+1) X.A)(hcalm:X.calm=true)(ha:PA X [e] t)(hg:Gl X x:=by rfl)(hdb:(x == ("__debug__":Str))=false:=by decide)
   (he:starEach [e] X.env=(false,eval e X.env)::starEach [] X.env:=by rfl) (hpl:(backTo cpos (starEach [] X.env)).any (·.1)=false:=by rfl):PS X (.Raise (some (.Call (.Name x np) [e] [] cpos)) none pos) (ZkA C EE t):=by
 obtain ⟨fI,fd,F,hb,xf,hm⟩:=D
 intro pins s σ H D I h
 rw [arm_exec_Raise]
 obtain ⟨nm,qn,N,bs,bm,sn,sub,ab,col,dd,k0,k1,k2,k3,k5,hCb,T⟩:=VB I.ok.mod.kin xf.xc
 refine wpAny_bind (wpAny_standAt (ZjL (C:=C) (nm:=nm) (q:=qn) (N:=N) (bs:=bs) (sn:=sn) (sub:=sub) (ab:=ab) (col:=col) (dd:=dd) (k0:=k0) (k1:=k1) (k2:=k2) (k3:=k3) (k5:=k5) T (I.ok.hd hcalm) (wpAny_bind ?_)))
 refine wpAny_mono (Q:=fun v s₁=>∃ e oe vs,v=.ref e∧s₁.heap.get? C=some (excClassObj nm qn C N bs bm true sn sub ab col dd k0 k1 k2 k3 k5 "ValueError.__new__")∧s₁.heap.get? e=some oe∧oe.cls=.ref C∧oe.data=.fields vs∧vs[1]?=some .none∧X.xe (.ref e) s₁) ?_ (fun v s1 h1=>wpAny_bind (wpAny_standAt (wpAny_pure h1))) fun _ _ x=>x
 refine wpAny_Call_Name_kw (WJ I hg hm ?_ hdb)
 refine PySem.W.callWith_K (h₀:=X.base) I.ok.mod.kin xf.kp (Zr (ha cpos pins s σ H _ I h) fun us s1 ⟨vs,H1,I1,r,v,ev,q⟩=>⟨I1.kIn,?_⟩) he hpl
 subst ev
 obtain ⟨u,rfl,ru⟩:=Ys r
 obtain ⟨hh,g,d,tk,os⟩:=s1
 have hC1:=I1.bk _ _ hCb
 obtain ⟨oI,hoI,hoc⟩:∃ oI,hh.get? fI=some oI∧oI.cls=.type "function":=by
   obtain ⟨oI,ho,hc⟩:=Option.map_eq_some_iff.mp (show (X.K.lookup fI).map (·.cls)=some (.type "function") from beq_iff_eq.mp xf.fn)
   exact ⟨oI,I1.kIn _ _ ho,hc⟩
 refine ZkN T hC1 (PySem.W.looks_findIn I1.kIn xf.init) hoI hoc (fun h' ea hm' hle=>?_) (by show 1≤sizeLine;decide)
 obtain ⟨t0,h0,h1,h2⟩:=hm'.there
 have hH1:H1 ea=none:=I1.hok.fresh hle
 have I2:Inv X pins σ (upd H1 ea (XN ea C)) ⟨h',g,d,tk,os⟩:=I1.laid (a:=ea) (o:=XN ea C) (h':=h') (t':=tk) hm'.keeps hle ⟨⟨t0,h0⟩,⟨_,h0⟩,fun h1 h2 ⟨t,e⟩ k=>⟨t,k _ e⟩⟩
 have hsp:ZhZ X.K [.ref ea,v] (upd H1 ea (XN ea C)) (fun w H'=>w=.non∧∃ dx,H1 dx=none∧dx≠ea∧H'=upd (upd (upd H1 ea (XN ea C)) dx (.xd [("what",v)])) ea (XW ea C dx)) E0 :=
   ⟨ea,C,fI,v,rfl,Zg,xf,fun dx h1 h2=>⟨rfl,dx,by rw [Zh h2] at h1;exact h1,h2,rfl⟩⟩
 have r2:Vals [V.ref ea,v] [Value.ref ea,u]:=.cons rfl (.cons ru .nil)
 refine wpAny_call (codeAny_mono (F.run _ X.stack _ _ ⟨[.ref ea,u],[]⟩ [.ref ea,u] _ _ E0 (hr.make C [u] []) (I2.env0.make C [u] []) (hb _ [.ref ea,u] I2.kIn rfl) r2 hsp) fun r s' hq=>?_)
 cases r with
 | error e=>exact hq.elim
 | ok fl =>
   cases fl with
   | next=>exact False.elim hq
   | brk=>exact False.elim hq
   | cont=>exact False.elim hq
   | ret u' =>
     obtain ⟨w,H3,I3,rw',⟨ew,dx,hdx,hde,eH⟩⟩:=I2.after hq
     subst ew eH
     refine ⟨rw',?_⟩
     have at3:upd (upd (upd H1 ea (XN ea C)) dx (.xd [("what",v)])) ea (XW ea C dx) ea=some (XW ea C dx):=Zg
     obtain ⟨⟨t3,hx3⟩,_,_⟩:=(show ObjOk X.prog X.w _ s'.heap ea (XW ea C dx) from I3.hok ea _ at3)
     have I4:=I3.untrack at3 (I1.old hH1)
     have eq4:del (upd (upd (upd H1 ea (XN ea C)) dx (.xd [("what",v)])) ea (XW ea C dx)) ea=upd H1 dx (.xd [("what",v)]):=by
       funext b
       by_cases z:b=ea
       · subst z;unfold del;rw [if_pos rfl,Zh (Ne.symm hde)];exact hH1.symm
       · rw [WN z,Zh z]
         by_cases z2:b=dx
         · subst z2;rw [Zg,Zg]
         · rw [Zh z2,Zh z2,Zh z]
     rw [eq4] at I4
     refine ⟨ea,_,_,rfl,I3.bk _ _ hCb,hx3,rfl,rfl,rfl,?_⟩
     refine W pins σ H1 _ ⟨hh,g,d,tk,os⟩ s' ea C dx none I1 I4 (.inl rfl) ⟨?_,by rw [Zh (Ne.symm hde)];exact hH1,hle,_,_,hx3,rfl,rfl,rfl,rfl⟩ (q dx hdx)
     cases qb:X.base.get? ea with
     | none=>rfl
     | some ob=>have:=I1.bk _ _ qb;rw [hm'.new] at this;cases this
end
end L2
set_option maxHeartbeats 1000000
namespace L2
open PySem PySem.Spec PyProof.Rows
open PySem.Builtin PySem.Builtin.ObjectAttr
section
variable {prog:Program}{w:World}{A:Around}{E:Value→Shared→Prop}{h:Heap}{g:Array GenState}{d:Drawn}{t:Nat}{os:OsState}
variable {nm q:Str}{C N a dx:Addr}{bs bm:List Value}{sn:List Str}{sub:List Value}{ab:Bool}{col:Option Bool}{dd:Option Addr}{k0 k1 k2 k3 k5:Option Value}{name:Str}{v:Value}{o:Obj}{vs:Array Value}{mA:Str→Option Value}
abbrev ZaL (h:Heap)(nm q:Str)(C N:Addr)(bs bm:List Value)(sn:List Str)(sub:List Value)(ab:Bool)(col:Option Bool)(dd:Option Addr)(k0 k1 k2 k3 k5:Option Value):Prop:=h.get? C=some (excClassObj nm q C N bs bm true sn sub ab col dd k0 k1 k2 k3 k5 "ValueError.__new__")
theorem ZeF {M:Model}{nameV:Value}{Q:Unit→Shared→Prop}(T:VT bm)(hC:ZaL h nm q C N bs bm sn sub ab col dd k0 k1 k2 k3 k5)
   (hx:h.get? a=some o) (hc:o.cls=.ref C) (hq:Q () ⟨h,g,d,t,os⟩):wpAny M A (checkBuiltinCall "BaseException.__getattribute__" ⟨[.ref a,nameV],[]⟩) Q E ⟨h,g,d,t,os⟩:=by
 have hk:builtinKind "BaseException.__getattribute__"=some .slot:=by decide +kernel
 have hsplit:splitId "BaseException.__getattribute__"=some ("BaseException","__getattribute__"):=by decide +kernel
 have hcB:(Value.ref C::bm).contains (.type "BaseException")=true:=by rw [List.contains_cons,T.has PySem.F.attrBase_ValueError.hasBase];rfl
 have ha:=PySem.F.args_bexc_ga (.ref a) nameV
 simp only [checkBuiltinCall,hk,hsplit]
 refine wpAny_bind ?_
 · unfold isInstance
   repeat (first | (with_reducible refine wpAny_loadPart_at hx ?_;rw [hc]) | (with_reducible refine wpAny_isSubtype_exc hC ?_;rw [hcB]) | wp_step)
   exact hq
theorem x_by {tk:Tok}{fill expr:Bool}{Q:Value→Shared→Prop}(T:VT bm)(hC:ZaL h nm q C N bs bm sn sub ab col dd k0 k1 k2 k3 k5)
   (LG:PySem.W.Looks (model prog w) h (typeLookup (.ref C) "__getattribute__") (some (.builtin "BaseException.__getattribute__"))) (LA:PySem.W.Looks (model prog w) h (typeLookup (.ref C) "__getattr__") none)
   (hx:h.get? a=some o) (hc:o.cls=.ref C) (hh:handedOut v=pure v)
   (he:∀ (A:Around) (R:PySem.Fin→Shared→Prop) (E:Value→Shared→Prop),R (.done (.ret v)) ⟨h,g,d,t,os⟩→wpAny (model prog w) A (Builtin.«object.__getattribute__» ⟨[.ref a,.str name tk],[]⟩) R E ⟨h,g,d,t,os⟩) (hq:Q v ⟨h,g,d,t,os⟩) :
   wpAny (model prog w) A (getAttrBy (.ref a) (.str name tk) fill expr) Q E ⟨h,g,d,t,os⟩:=by
 have FB:=PySem.F.attrBase_ValueError
 have f3:=FB.ga.bind (.ref a)
 have hx0:(expr&&onTheHeap (Value.builtin "BaseException.__getattribute__"))=false:=by cases expr<;>rfl
 have hx2:(Value.builtin "BaseException.__getattribute__" == Value.builtin "object.__getattribute__")=false:=by decide +kernel
 have hx1:(onTheHeap (Value.ref C)&&Value.builtin "BaseException.__getattribute__" == Value.builtin "object.__getattribute__")=false:=by rw [hx2];rfl
 have LG':∀ {A:Around} {Q:Option Value→Shared→Prop} {E:Value→Shared→Prop},Q (some (.builtin "BaseException.__getattribute__")) ⟨h,g,d,t,os⟩→wpAny (model prog w) A (typeLookup (.ref C) "__getattribute__") Q E ⟨h,g,d,t,os⟩:=fun q=>LG _ _ _ _ (fun _ _ e=>e) q
 have LA':∀ {A:Around} {Q:Option Value→Shared→Prop} {E:Value→Shared→Prop},Q none ⟨h,g,d,t,os⟩→wpAny (model prog w) A (typeLookup (.ref C) "__getattr__") Q E ⟨h,g,d,t,os⟩:=fun q=>LA _ _ _ _ (fun _ _ e=>e) q
 repeat (any_goals (first | assumption | (with_reducible refine wpAny_loadPart_at hx ?_;rw [hc]) | with_reducible refine LG' ?_ | with_reducible refine LA' ?_ | wp_step))
 refine codeAny_call_builtin FB.ga.plain PySem.F.entry_bexc_ga (ZeF T hC hx hc (he _ _ _ ?_))
 show wpAny _ _ (handedOut v) _ _ _
 rw [hh]
 exact wpAny_pure hq
theorem Zlw {tk:Tok}{Q:PySem.Fin→Shared→Prop}(hC:ZaL h nm q C N bs bm sn sub ab col dd k0 k1 k2 k3 k5)(LN:PySem.W.Looks (model prog w) h (typeLookup (.ref C) name) none)
   (hx:h.get? a=some o) (hc:o.cls=.ref C) (hdi:o.dict=some dx) (hd:o.data=.fields vs) (hns:h.Ns1 dx mA) (hv:mA name=some v) (hq:Q (.done (.ret v)) ⟨h,g,d,t,os⟩) :
   wpAny (model prog w) A (Builtin.«object.__getattribute__» ⟨[.ref a,.str name tk],[]⟩) Q E ⟨h,g,d,t,os⟩:=by
 have LN':∀ {A:Around} {Q:Option Value→Shared→Prop} {E:Value→Shared→Prop},Q none ⟨h,g,d,t,os⟩→wpAny (model prog w) A (typeLookup (.ref C) name) Q E ⟨h,g,d,t,os⟩:=fun q=>LN _ _ _ _ (fun _ _ e=>e) q
 unfold Builtin.«object.__getattribute__»
 repeat (first | (with_reducible refine wpAny_loadPart_at hx ?_;rw [hc]) | (with_reducible refine LN' ?_) | wp_step)
 split
 · rename_i c hcd
   rw [hd] at hcd;cases hcd
 unfold instanceDict
 repeat (first | (with_reducible refine wpAny_loadPart_at hx ?_;rw [hc]) | with_reducible refine wpAny_loadPart_at hC ?_ | wp_step)
 rw [hdi]
 repeat (first | (with_reducible refine wpAny_nsGet hns.ns ?_;rw [hv]) | wp_step)
 exact hq
theorem ZdG {R:Result→Shared→Prop}(T:VT bm)(hC:ZaL h nm q C N bs bm sn sub ab col dd k0 k1 k2 k3 k5)(hx:h.get? a=some o)(hc:o.cls=.ref C)(hq:R (.ok (.ret (.ref C))) ⟨h,g,d,t,os⟩) :
   codeAny (model prog w) A (.call (.builtin "getset_descriptor.__get__") ⟨[.builtin "object.__class__",.ref a,.ref C],[]⟩) R ⟨h,g,d,t,os⟩:=by
 have hT5:(⟨h,g,d,t,os⟩:Shared).TypeIs (.builtin "object.__class__") "getset_descriptor":=PySem.F.typeOf_object_class
 have hcB:(Value.ref C::bm).contains (.type (".".intercalate ("object.__class__".cutAt '.').dropLast))=true:=by
   rw [PySem.F.owner_object_class,List.contains_cons,T.has (b:=true) (by decide +kernel)];rfl
 refine codeAny_call_builtin PySem.F.slot_gs_get.plain PySem.F.entry_gs_get (PySem.F.slot_gs_get.check _ _ _ _ _ _ _ _ hT5 (PySem.F.args_gs_get _ _ _) ?_)
 repeat (any_goals (first | assumption | (with_reducible refine wpAny_loadPart_at hx ?_;rw [hc]) | (with_reducible refine wpAny_isSubtype_exc hC ?_;rw [hcB]) | wp_step))
 refine ⟨Code.quiet_builtin _ (by decide +kernel),codeAny_builtin PySem.F.entry_object_class ?_⟩
 repeat (any_goals (first | assumption | (with_reducible refine wpAny_loadPart_at hx ?_;rw [hc]) | wp_step))
theorem ZiZ {tk:Tok}{Q:PySem.Fin→Shared→Prop}(T:VT bm)(hC:ZaL h nm q C N bs bm sn sub ab col dd k0 k1 k2 k3 k5)(LC:PySem.W.Looks (model prog w) h (typeLookup (.ref C) "__class__") (some (.builtin "object.__class__")))
   (hx:h.get? a=some o) (hc:o.cls=.ref C) (hq:Q (.done (.ret (.ref C))) ⟨h,g,d,t,os⟩) :
   wpAny (model prog w) A (Builtin.«object.__getattribute__» ⟨[.ref a,.str "__class__" tk],[]⟩) Q E ⟨h,g,d,t,os⟩:=by
 have LC':∀ {A:Around} {Q:Option Value→Shared→Prop} {E:Value→Shared→Prop},Q (some (.builtin "object.__class__")) ⟨h,g,d,t,os⟩→wpAny (model prog w) A (typeLookup (.ref C) "__class__") Q E ⟨h,g,d,t,os⟩:=fun q=>LC _ _ _ _ (fun _ _ e=>e) q
 have hT5:(⟨h,g,d,t,os⟩:Shared).TypeIs (.builtin "object.__class__") "getset_descriptor":=PySem.F.typeOf_object_class
 have f5:=PySem.F.typeOf_object_class
 have f6:=PySem.F.slot_gs_get.lookup
 have f7:=PySem.F.slot_gs_set.lookup
 repeat (any_goals (first | assumption | (with_reducible refine wpAny_loadPart_at hx ?_;rw [hc]) | (with_reducible refine LC' ?_) | wp_step))
 refine ZdG T hC hx hc ?_
 repeat (any_goals (first | assumption | wp_step))
end
structure XG (K:PySem.W.Frag)(C:Addr):Prop where
 xc:Zdo K C=true
 nw:PySem.W.findIn K (.ref C) "what"=some none
 ga:PySem.W.findIn K (.ref C) "__getattribute__"=some (some (.builtin "BaseException.__getattribute__"))
 gh:PySem.W.findIn K (.ref C) "__getattr__"=some none
 gc:PySem.W.findIn K (.ref C) "__class__"=some (some (.builtin "object.__class__"))
theorem Zhb {K:PySem.W.Frag}{C ea:Addr}(G:XG K C):PySem.W.KitX K (.ref ea) (.ref C) (fun h=>∃ o,h.get? ea=some o∧o.cls=.ref C) where
 ty:=fun M h _ p=>by obtain ⟨o,h1,h2⟩:=p;exact h2 ▸ (PySem.W.Looks.ld h1).andThen .now
 it:=fun M h X p=>by
   obtain ⟨nm,qn,N,bs,bm,sn,sub,ab,col,dd,k0,k1,k2,k3,k5,hC,T⟩:=VB X G.xc
   intro A' Q' E' s' k q
   unfold isType loadHead
   exact wpAny_bind (wpAny_loadPart (k _ _ hC) (wpAny_pure q))
 ne:=fun h tp dd its n sl X htp=>by
   obtain ⟨nm,qn,N,bs,bm,sn,sub,ab,col,dd,k0,k1,k2,k3,k5,hC,T⟩:=VB X G.xc
   refine Bool.eq_false_iff.mpr fun q=>?_
   have e:C=tp:=Value.ref.inj (beq_iff_eq.mp q)
   subst e
   have z:=congrArg Obj.cls (Option.some.inj (hC.symm.trans htp))
   exact absurd (Value.type.inj z) (by decide)
 ca:=fun {prog w A E Q s} X p k=>by
   obtain ⟨nm,qn,N,bs,bm,sn,sub,ab,col,dd,k0,k1,k2,k3,k5,hC,T⟩:=VB X G.xc
   obtain ⟨o,h1,h2⟩:=p
   obtain ⟨h,g,d,t,os⟩:=s
   have by':∀ {tk:Tok} {Q:Value→Shared→Prop} {E:Value→Shared→Prop} {A:Around},Q (.ref C) ⟨h,g,d,t+1,os⟩→wpAny (model prog w) A (getAttrBy (.ref ea) (.str "__class__" tk) false) Q E ⟨h,g,d,t+1,os⟩:=fun q =>
     x_by T hC (PySem.W.looks_findIn X G.ga) (PySem.W.looks_findIn X G.gh) h1 h2 rfl (fun A R E r=>ZiZ T hC (PySem.W.looks_findIn X G.gc) h1 h2 r) q
   unfold getAttr? getAttrBy?
   repeat (any_goals (first | assumption | with_reducible apply by' | wp_step))
end L2
set_option maxHeartbeats 2000000
namespace L2
open PySem PySem.W PySem.Spec PyProof.Rows
section
variable {O:KeyOrd}{key:Nat→O.α}{n:Nat}{s:Shared}{cmp:Nat→Nat→(Bool→Shared→Prop)→Shared→Prop}
end
end L2
set_option maxHeartbeats 2000000
namespace L2
open PySem PySem.W PySem.Spec PyProof.Rows
section
variable {prog:Program}{w:World}{A:Around}{E:Value→Shared→Prop}{s:Shared}{a:Addr}{as:List Addr}{ks:List Str}{P:PySem.Fin→Shared→Prop}
end
section
variable {X:Cx}
end
end L2
set_option maxHeartbeats 2000000
namespace L2
open PySem
end L2
set_option maxHeartbeats 2000000
namespace L2
open PySem
end L2
set_option maxHeartbeats 2000000
namespace L2
open PySem
end L2
set_option maxHeartbeats 2000000
namespace L2
open PySem PySem.Spec PyProof.Rows
section
variable {X:Cx}
end
end L2
set_option maxHeartbeats 1000000
namespace L2
open PySem PySem.Spec PyProof.Rows
def ZiI (K:PySem.W.Frag)(ta:TE):TE:=fun σ H Q=>ta σ H fun x H1=>∃ (ea C dx:Addr) (fs:List (Str×V)) (v:V),x=.ref ea∧H1 ea=some (XO ea C dx)∧H1 dx=some (.xd fs)∧XG K C∧fs.lookup ("what":Str)=some v∧Q v H1
def TyX (K:PySem.W.Frag)(H:Hp)(x:V)(t:Value):Prop:=XI K H x t∨∃ ea C dx,x=.ref ea∧t=.ref C∧H ea=some (XO ea C dx)∧XG K C
def rIsi (K:PySem.W.Frag):List V→Hp→VK→Prop:=fun xs H Q=>∃ x c t b,xs=[x,c]∧TyX K H x t∧((∃ D,c=.ref D∧PySem.W.kitOne K t (.ref D)=some b)∨(∃ T,c=.ty T∧PySem.W.kitOne K t (.type T)=some b))∧Q (.bl b) H
section
variable {X:Cx}{e:Expr}{pos:Pos}{ta:TE}
theorem ZjQ (he:PE X e ta)(hb:attributeBase e "what" X.env (eval e X.env)=eval e X.env):PE X (.Attribute e "what" pos) (ZiI X.K ta):=by
 intro pins s σ H Q I h
 refine Zek hb (Zr (he pins s σ H _ I h) fun u s1 ⟨x,H1,I1,rx,ea,C,dx,fs,v,ex,hea,hdx,G,l,q⟩=>?_)
 subst ex
 obtain rfl:u=Value.ref ea:=rx
 obtain ⟨⟨oe,vs,he1,he2,he3,he4⟩,_,_⟩:=(show ObjOk X.prog X.w H1 s1.heap ea (XO ea C dx) from I1.hok ea _ hea)
 obtain ⟨mA,hns,hr⟩:=(show ObjOk X.prog X.w H1 s1.heap dx (.xd fs) from I1.hok dx _ hdx)
 obtain ⟨u,hu,ru⟩:=RelO.some_of (v:=v) (o:=mA "what") (by rw [← l];exact hr "what")
 obtain ⟨nm,qn,N,bs,bm,sn,sub,ab,col,dd,k0,k1,k2,k3,k5,hC,T⟩:=VB I1.kIn G.xc
 have hK:=I1.kIn
 have I2:=I1.tok (s1.toks+1)
 obtain ⟨hh,g,d,tk,os⟩:=s1
 refine wpAny_bind (wpAny_mkText ?_)
 exact x_by T hC (PySem.W.looks_findIn hK G.ga) (PySem.W.looks_findIn hK G.gh) he1 he2 (PySem.W.handedOut_of (ZbQ ru)) (fun A R E r=>Zlw hC (PySem.W.looks_findIn hK G.nw) he1 he2 he3 he4 hns hu r) ⟨v,H1,I2,ru,q⟩
theorem ZdR {pins:List (Addr×Obj)}{σ:St}{H:Hp}{s:Shared}{A:Around}{E:Value→Shared→Prop}{Q:Value→Shared→Prop}{c:Value}{b:Bool}{x:V}{u t:Value}(I:Inv X pins σ H s)(rx:RelV x u)(ty:TyX X.K H x t)(e:PySem.W.kitOne X.K t c=some b)(h:∀ tk,Q (.bool b) { s with toks:=tk }) :
   wpAny (model X.prog X.w) A (call (.builtin "isinstance") [u,c]) Q E s:=by
 rcases ty with ty | ⟨ea,C,dx,rfl,rfl,hea,G⟩
 · exact ZbA I rx ty e h
 · cases (show u=Value.ref ea from rx)
   obtain ⟨⟨oe,vs,he1,he2,_⟩,_,_⟩:=(show ObjOk X.prog X.w H s.heap ea (XO ea C dx) from I.hok ea _ hea)
   exact PySem.W.kia_one (Zhb G) I.kIn ⟨oe,he1,he2⟩ e (fun z=>nomatch z) h
theorem Zge:Yr X (.builtin "isinstance") (rIsi X.K):=by
 intro pins s σ H xs us Q I r h
 obtain ⟨x,c,t,b,rfl,ty,hc,q⟩:=h
 obtain ⟨u,u',rfl,ru,ru'⟩:=ZaX r
 rcases hc with ⟨D,rfl,e⟩ | ⟨T,rfl,e⟩
 · cases (show u'=Value.ref D from ru')
   exact ZdR I ru ty e fun tk=>⟨.bl b,H,I.tok tk,rfl,q⟩
 · cases (show u'=Value.type T from ru')
   exact ZdR I ru ty e fun tk=>⟨.bl b,H,I.tok tk,rfl,q⟩
end
section
variable {X:Cx}
end
section
variable {X:Cx}{elt iter tg cnd:Expr}{xa xb:Str}{pos:Pos}{scope:Scope}{wi:TI}{te:TE}{tc:TT}{g:TG}
end
end L2
set_option maxHeartbeats 4000000
namespace K25
open PySem L2
section
variable {P:Program}{w:World}{K:PySem.W.Frag}{mg:Str→Option Value}{base:Heap}
theorem scXi:Zq ["self","what"] ["self","what"] (Zj c_RoadError___init__):=⟨rfl,rfl,rfl,by decide +kernel,rfl,by decide +kernel,by decide +kernel⟩
theorem Zif {f:Addr}{fd:FuncData}(F:Fun K "__init__" "RoadError.__init__" c_RoadError___init__ f fd):FnOk P w K mg base ZF 1 f fd ["self","what"] (ZhZ K):=by
 refine F.ok scXi (fun vs H Q E h=>?_) (fun cdv A outer s H vs Q E hr h=>?_)
 · obtain ⟨ea,C,fI,v,rfl,_⟩:=h;rfl
 obtain ⟨ea,C,fI,v,rfl,hea,xf,q⟩:=h
 refine' ⟨?t,?h,?r⟩
 case h =>
   conv=>arg 2;whnf
   with_reducible refine' (Zi ?h1)
   case h1=>exact Zjs (pv 0) (pv 1) rfl
 exact ⟨_,rfl,_,rfl,ea,C,fI,rfl,hea,xf,fun dx h1 h2=>q dx h1 h2⟩
end
end K25
set_option maxHeartbeats 2000000
namespace L2
open PySem PySem.Spec PyProof.Rows PySem.F
section
variable {prog:Program}{w:World}{A:Around}{E:Value→Shared→Prop}{s:Shared}
end
section
variable {X:Cx}
end
end L2
set_option maxHeartbeats 4000000
namespace K25
open PySem L2
def stN (pls:List ZA):Nat→Option Str
 | 0=>none
 | k+1=>some (pls.getD k ⟨0,.clr "",0,0⟩).st.nm
def YV (pls:List ZA)(x:Str)(k:Nat):Bool:=decide (stN pls k=some x)
theorem Zgi {pls:List ZA}{k:Nat}{s:Stp}(e:(pls.map (·.st))[k]?=some s):stN pls (k+1)=some s.nm:=by
 rw [List.getElem?_map] at e
 show some (pls.getD k _).st.nm=_
 rw [List.getD_eq_getElem?_getD]
 cases z:pls[k]? with
 | none=>rw [z] at e;cases e
 | some q=>rw [z] at e;cases e;rfl
section
variable {P:Program}{w:World}{K:PySem.W.Frag}{mg:Str→Option Value}{base:Heap}{CR CS Pl:Addr}
theorem vs1 (s:Stp):s.vs[1]?=some (.str s.nm):=by cases s<;>rfl
def Zce (K:PySem.W.Frag)(CR CS:Addr):Sp:=fun vs H Q _=>∃(r:Addr)(pls:List ZA)(nds:List Nd)(tabs:List (Zl×V))(k:Nat)(x:Str),vs=[.ref r,.int (k:Int),.str x]∧Ui K CR CS r pls nds tabs H∧k≤pls.length∧Q (.bl (YV pls x k)) H
abbrev nRHs:List Str:=["self","place","name","step"]
abbrev Uc:List Str:=["self","place","name"]
theorem scRHs:Zq nRHs Uc (Zj c_Roads_step_has):=⟨rfl,rfl,rfl,by decide +kernel,rfl,by decide +kernel,by decide +kernel⟩
theorem ZkW {f:Addr}{fd:FuncData}(F:Fun K "step_has" "Roads.step_has" c_Roads_step_has f fd)(T:ZY mg)(TR:YH K CR)(DR_step:DefM P w K mg base 2 CR "step" Uf (VF K CR CS)):FnOk P w K mg base ZF 3 f fd Uc (Zce K CR CS):=by
 refine F.ok scRHs (fun vs H Q E h=>?_) (fun cdv A outer s H vs Q E hr h=>?_)
 · obtain ⟨r,pls,nds,tabs,k,x,rfl,_⟩:=h;rfl
 obtain ⟨r,pls,nds,tabs,k,x,rfl,R,hk,q⟩:=h
 obtain ⟨st,la,ls,lt,lc,S⟩:=id R
 obtain ⟨dx,ob⟩:=S.get r
 refine' ⟨?t,?h,?r⟩
 case h =>
   conv=>arg 2;whnf
   with_reducible refine' (Ze ?h1 (Zi ?h2))
   case h1=>exact Zx (i:=3) scRHs.nd rfl (Or.inl rfl) (ZZ DR_step TR.cl hr (pv 0) (Zb (pv 1) Za))
   case h2=>exact Zk (Xh (Zbh (WG (pv 3))) (Xz (Yl Yh (Zm ZS (pv 3) Zd (fun _ _=>rfl)) (pv 2) (ZC _))))
 refine ⟨_,rfl,r,dx,_,rfl,ob,Yt (by decide +kernel),_,rfl,r,pls,nds,tabs,k,rfl,R,hk,fun v hv=>?_⟩
 cases k with
 | zero =>
   cases (show v=.non from hv)
   exact ⟨_,rfl,false,rfl,ZB q⟩
 | succ k =>
   obtain ⟨a,s,rfl,es,ea⟩:=hv
   refine ⟨_,rfl,true,rfl,ZK ⟨_,rfl,a,_,_,_,rfl,rfl,SqT.of ea,Zv (j:=1) (vs1 s),_,rfl,rfl,?_⟩⟩
   have e:YV pls x (k+1)=decide (V.str s.nm=V.str x):=by
     unfold YV
     rw [Zgi es]
     by_cases z:s.nm=x
     · rw [decide_eq_true (by rw [z]),decide_eq_true (by rw [z])]
     · rw [decide_eq_false (fun y=>z (Option.some.inj y)),decide_eq_false (fun y=>z (V.str.inj y))]
   rw [e] at q
   exact q
def YL (pls:List ZA)(x:Str)(k:Nat):Option Nat:=(bk pls (k+1) k).find? (YV pls x)
def oV:Option Nat→V
 | none=>.non
 | some j=>.int (j:Int)
theorem ZbE {pls:List ZA}{x:Str}{k:Nat}(h:YV pls x k=true):YL pls x k=some k:=by
 unfold YL
 cases k with
 | zero=>simp [YV,stN] at h
 | succ k=>show List.find? _ ((k+1)::_)=_;rw [List.find?_cons_of_pos h]
theorem ZaC {pls:List ZA}{x:Str}:YL pls x 0=none:=by
 show List.find? _ [0]=none
 rw [List.find?_cons_of_neg (by simp [YV,stN])];rfl
theorem Zcp {pls:List ZA}(hw:WfP pls){x:Str}{k:Nat}(hk:k < pls.length)(h:YV pls x (k+1)=false):YL pls x (k+1)=YL pls x (pls.getD k ⟨0,.clr "",0,0⟩).ah:=by
 have ha:=hw.at hk
 unfold YL
 show List.find? _ ((k+1)::bk pls (k+1) _)=_
 rw [List.find?_cons_of_neg (by rw [h];decide),ZdQ hw _ (by omega) (k+1) (by omega)]
def Zgh (K:PySem.W.Frag)(CR CS:Addr):Sp:=fun vs H Q _=>∃(r:Addr)(pls:List ZA)(nds:List Nd)(tabs:List (Zl×V))(k:Nat)(x:Str),vs=[.ref r,.int (k:Int),.str x]∧Ui K CR CS r pls nds tabs H∧WfP pls∧k≤pls.length∧Q (oV (YL pls x k)) H
abbrev nRLa:List Str:=["self","place","name","at"]
abbrev Zfo:List Str:=["self","place","name"]
theorem scRLa:Zq nRLa Zfo (Zj c_Roads_last):=⟨rfl,rfl,rfl,by decide +kernel,rfl,by decide +kernel,by decide +kernel⟩
theorem Zju {f:Addr}{fd:FuncData}(F:Fun K "last" "Roads.last" c_Roads_last f fd)(T:ZY mg)(TR:YH K CR)(DR_step_has:DefM P w K mg base 3 CR "step_has" Uc (Zce K CR CS))(DR_ahead:DefM P w K mg base 3 CR "ahead" ZaP (VG K CR CS)):FnOk P w K mg base ZF 4 f fd Zfo (Zgh K CR CS):=by
 refine F.ok scRLa (fun vs H Q E h=>?_) (fun cdv A outer s H vs Q E hr h=>?_)
 · obtain ⟨r,pls,nds,tabs,k,x,rfl,_⟩:=h;rfl
 obtain ⟨r,pls,nds,tabs,k,x,rfl,R,hw,hk,q⟩:=h
 obtain ⟨st,la,ls,lt,lc,S⟩:=id R
 obtain ⟨dx,ob⟩:=S.get r
 refine' ⟨?t,?h,?r⟩
 case h =>
   conv=>arg 2;whnf
   with_reducible refine' (Ze ?h1 (Ze (WZ ?h2 ?h3 (Zi ?h4)) (Zi ?h5)))
   case h1=>exact Zx (i:=3) scRLa.nd rfl (Or.inl rfl) (pv 1)
   case h2=>exact PassesOwn.never
   case h3=>exact PW.pt (WQ (WO (WG (pv 3))) (Wb (Xg (YI (ZZ DR_step_has TR.cl hr (pv 0) (Zb (pv 3) (Zb (pv 2) Za)))))))
   case h4=>exact Zx (i:=3) scRLa.nd rfl (Or.inl rfl) (ZZ DR_ahead TR.cl hr (pv 0) (Zb (pv 3) Za))
   case h5=>exact Zk (pv 3)
 refine ⟨_,rfl,fun m σ H'=>H'=H∧∃ at':V,σ=[some (.ref r),some (.int (k:Int)),some (.str x),some at']∧((∃ j,at'=.int (j:Nat)∧j≤pls.length∧m=j+1∧YL pls x j=YL pls x k)∨(at'=.non∧YL pls x k=none)),
   ⟨k+1,rfl,_,rfl,.inl ⟨k,rfl,hk,rfl,rfl⟩⟩,?_⟩
 rintro m σ H2 ⟨rfl,at',rfl,hc⟩
 rcases hc with ⟨j,rfl,hj,rfl,hl⟩ | ⟨rfl,hl⟩
 · refine ⟨_,rfl,_,rfl,ZK ⟨_,rfl,r,dx,_,rfl,ob,Yt (by decide +kernel),_,rfl,_,rfl,r,pls,nds,tabs,j,x,rfl,R,hj,_,rfl,?_⟩⟩
   cases h:YV pls x j with
   | false =>
     refine ZK ⟨_,fun σ' H' h=>h,_,rfl,r,dx,_,rfl,ob,Yt (by decide +kernel),_,rfl,r,pls,nds,tabs,j,rfl,R,hj,?_⟩
     cases j with
     | zero=>exact ⟨0,by omega,rfl,_,rfl,.inr ⟨rfl,by rw [← hl];exact ZaC⟩⟩
     | succ j =>
       have ha:=hw.at (show j < pls.length by omega)
       exact ⟨(pls.getD j ⟨0,.clr "",0,0⟩).ah+1,by omega,rfl,_,rfl,.inl ⟨_,rfl,by omega,rfl,by rw [← hl,Zcp hw (by omega) h]⟩⟩
   | true =>
     refine ZB ⟨_,rfl,?_⟩
     rw [← hl,ZbE h] at q
     exact q
 · refine ⟨_,rfl,_,rfl,ZB (ZB ⟨_,rfl,?_⟩)⟩
   rw [hl] at q
   exact q
theorem ZiU {pls:List ZA}(hw:WfP pls):∀ f k,k≤pls.length→∀ j∈bk pls f k,j≤k
 | 0,_,_,_,h=>nomatch h
 | f+1,0,_,j,h=>by rw [List.mem_singleton.mp (show j∈[0] from h)];exact Nat.le_refl _
 | f+1,k+1,hk,j,h=>by
   have ha:=hw.at (show k < pls.length by omega)
   rcases List.mem_cons.mp (show j∈(k+1)::bk pls f _ from h) with rfl | z
   · exact Nat.le_refl _
   · have:=ZiU hw f _ (by omega) j z;omega
theorem ZbP {pls:List ZA}(hw:WfP pls){x:Str}{k j:Nat}(hk:k≤pls.length)(h:YL pls x k=some j):1≤j∧j≤k∧YV pls x j=true:=by
 have h1:=List.find?_some h
 have h2:=ZiU hw _ _ hk j (List.mem_of_find?_eq_some h)
 refine ⟨?_,h2,h1⟩
 cases j with
 | zero=>simp [YV,stN] at h1
 | succ j=>omega
def stW:Stp→V
 | .set _ v=>v
 | .clr _=>.non
def Yn (pls:List ZA)(x:Str)(k:Nat):V:=match YL pls x k with
 | none=>.non
 | some j=>stW (pls.getD (j - 1) ⟨0,.clr "",0,0⟩).st
def Zap (K:PySem.W.Frag)(CR CS:Addr):Sp:=fun vs H Q _=>∃(r:Addr)(pls:List ZA)(nds:List Nd)(tabs:List (Zl×V))(k:Nat)(x:Str),vs=[.ref r,.int (k:Int),.str x]∧Ui K CR CS r pls nds tabs H∧WfP pls∧k≤pls.length∧Q (Yn pls x k) H
abbrev nRWa:List Str:=["self","place","name","found"]
abbrev Zcc:List Str:=["self","place","name"]
theorem scRWa:Zq nRWa Zcc (Zj c_Roads_walked):=⟨rfl,rfl,rfl,by decide +kernel,rfl,by decide +kernel,by decide +kernel⟩
theorem ZfN {f:Addr}{fd:FuncData}(F:Fun K "walked" "Roads.walked" c_Roads_walked f fd)(T:ZY mg)(TR:YH K CR)(DR_last:DefM P w K mg base 4 CR "last" Zfo (Zgh K CR CS)):FnOk P w K mg base ZF 5 f fd Zcc (Zap K CR CS):=by
 refine F.ok scRWa (fun vs H Q E h=>?_) (fun cdv A outer s H vs Q E hr h=>?_)
 · obtain ⟨r,pls,nds,tabs,k,x,rfl,_⟩:=h;rfl
 obtain ⟨r,pls,nds,tabs,k,x,rfl,R,hw,hk,q⟩:=h
 obtain ⟨st,la,ls,lt,lc,S⟩:=id R
 obtain ⟨dx,ob⟩:=S.get r
 obtain ⟨as,els,hal,hst⟩:=S.get ls
 rw [List.length_map] at hal
 refine' ⟨?t,?h,?r⟩
 case h =>
   conv=>arg 2;whnf
   with_reducible refine' (Ze ?h1 (Ze (Yb ?h2 (Zi ?h3) ZR) (Zi ?h4)))
   case h1=>exact Zx (i:=3) scRWa.nd rfl (Or.inl rfl) (ZZ DR_last TR.cl hr (pv 0) (Zb (pv 1) (Zb (pv 2) Za)))
   case h2=>exact PW.pt (UK (WO (Zau (pv 3))) (UA (ZJ Yh (Zm ZS (Zm Zt (ZM (pv 0) rfl) (pv 3) (fun _ _=>rfl)) Zd (fun _ _=>rfl)) ZH (ZC _))))
   case h3=>exact Zk Xy
   case h4=>exact Zk (Zm ZS (Zm Zt (ZM (pv 0) rfl) (pv 3) (fun _ _=>rfl)) Zd (fun _ _=>rfl))
 refine ⟨_,rfl,r,dx,_,rfl,ob,Yt (by decide +kernel),_,rfl,_,rfl,r,pls,nds,tabs,k,x,rfl,R,hw,hk,?_⟩
 unfold Yn at q
 cases hl:YL pls x k with
 | none =>
   rw [hl] at q
   exact ⟨_,rfl,_,rfl,ZK (ZK q)⟩
 | some j =>
   rw [hl] at q
   obtain ⟨h1,h2,h3⟩:=ZbP hw hk hl
   obtain ⟨i,rfl⟩:∃ i,j=i+1:=⟨j - 1,by omega⟩
   have ha:=List.getElem?_eq_getElem (show i < as.length by omega)
   have hp:=List.getElem?_eq_getElem (show i < pls.length by omega)
   have es:(pls.map (·.st))[i]?=some pls[i].st:=by rw [List.getElem?_map,hp];rfl
   have ea:=hst i _ _ ha es
   have el:(V.non::as.map V.ref)[i+1]?=some (.ref as[i]):=by rw [List.getElem?_cons_succ,List.getElem?_map,ha];rfl
   have eg:pls.getD (i+1 - 1) ⟨0,.clr "",0,0⟩=pls[i]:=by rw [Nat.add_sub_cancel,List.getD_eq_getElem?_getD,hp];rfl
   have q:Q (stW (pls.getD (i+1 - 1) ⟨0,.clr "",0,0⟩).st) H:=q
   rw [eg] at q
   refine ⟨_,rfl,_,rfl,ZB ⟨_,rfl,r,CR,dx,_,_,rfl,ob,TR.cl,TR.ns,Zbp,_,rfl,ls,_,_,_,rfl,rfl,SqL.of els,Zv el,?_⟩⟩
   cases hs:pls[i].st with
   | set y v =>
     rw [hs] at q ea
     refine ⟨as[i],_,_,_,rfl,rfl,SqT.of ea,Zv (j:=0) rfl,rfl,_,rfl,?_⟩
     rw [show decide (V.str "set"=V.str (Str.ofString "clear"))=false by decide +kernel]
     exact ZB ⟨_,rfl,r,CR,dx,_,_,rfl,ob,TR.cl,TR.ns,Zbp,_,rfl,ls,_,_,_,rfl,rfl,SqL.of els,Zv el,as[i],_,_,_,rfl,rfl,SqT.of ea,Zv (j:=2) rfl,q⟩
   | clr y =>
     rw [hs] at q ea
     refine ⟨as[i],_,_,_,rfl,rfl,SqT.of ea,Zv (j:=0) rfl,rfl,_,rfl,?_⟩
     rw [decide_eq_true rfl]
     exact ZK q
end
end K25
set_option maxHeartbeats 2000000
namespace L2
open PySem PySem.Spec PyProof.Rows
mutual
inductive DatT (K:PySem.W.Frag)(H:Hp):V→PyData→Prop
 | non:DatT K H .non .none
 | int (i):DatT K H (.int i) (.int i)
 | str (x):DatT K H (.str x) (.str x)
 | tup {a xs ds}:SqT K H a xs→DatTs K H xs ds→DatT K H (.ref a) (.tuple ds)
inductive DatTs (K:PySem.W.Frag)(H:Hp):List V→List PyData→Prop
 | nil:DatTs K H [] []
 | cons {v d vs ds}:DatT K H v d→DatTs K H vs ds→DatTs K H (v::vs) (d::ds)
end
section
variable {X:Cx}{pins:List (Addr×Obj)}{σ:St}{H:Hp}{s:Shared}
mutual
theorem DatT.reads (I:Inv X pins σ H s):∀{v d}(u:Value),DatT X.K H v d→RelV v u→d.hasDict=false∧∃ as,Reads s.heap u d as
 | _,_,u,.non,r=>by cases (show u=.none from r);exact ⟨rfl,_,.none⟩
 | _,_,u,.int i,r=>by obtain ⟨t,e⟩:=(show ∃ t,u=.int i t from r);subst e;exact ⟨rfl,_,.int i t⟩
 | _,_,u,.str x,r=>by obtain ⟨t,e⟩:=(show ∃ t,u=.str x t from r);subst e;exact ⟨rfl,_,.str x t⟩
 | _,_,u,.tup (a:=a) (xs:=xs) e q,r=>by
   cases (show u=.ref a from r)
   obtain ⟨its,rv,⟨o,g,c,n,d⟩,_⟩:=I.tuple e
   obtain ⟨nd,as,ra⟩:=DatTs.reads I its q rv
   exact ⟨by simpa [PyData.hasDict] using nd,_,.tuple g c d (by simpa using ra)⟩
theorem DatTs.reads (I:Inv X pins σ H s):∀{vs ds}(us:List Value),DatTs X.K H vs ds→Vals vs us→PyData.hasDictAll ds=false∧∃ as,ReadsAll s.heap us ds as
 | _,_,_,.nil,.nil=>⟨rfl,_,.nil⟩
 | _,_,_,.cons r t,.cons rv tv=>by
   obtain ⟨n1,as,r1⟩:=DatT.reads I _ r rv
   obtain ⟨n2,bs,r2⟩:=DatTs.reads I _ t tv
   exact ⟨by simp [PyData.hasDictAll,n1,n2],_,.cons r1 r2⟩
end
end
end L2
set_option maxHeartbeats 2000000
namespace L2
open PySem
end L2
set_option maxHeartbeats 2000000
namespace L2
open PySem PySem.W PySem.Spec PyProof.Rows
section
variable {X:Cx}
end
end L2
set_option maxHeartbeats 2000000
namespace L2
open PySem
end L2
set_option maxHeartbeats 2000000
namespace L2
open PySem PySem.Spec PyProof.Rows
section
variable {X:Cx}{pins:List (Addr×Obj)}{σ:St}{H:Hp}{s:Shared}{d:Addr}{o:Obj}{kvs:List (Zl×V)}
end
section
variable {X:Cx}{tg:Expr}
end
end L2
set_option maxHeartbeats 2000000
namespace L2
open PySem PySem.W PySem.Spec PyProof.Rows
section
variable {X:Cx}
end
end L2
set_option maxHeartbeats 2000000
namespace L2
open PySem
end L2
set_option maxHeartbeats 2000000
namespace L2
open PySem PySem.W PySem.Spec PyProof.Rows
section
variable {X:Cx}
end
end L2
set_option maxHeartbeats 2000000
namespace L2
open PySem PySem.Spec PyProof.Rows
end L2
set_option maxHeartbeats 2000000
namespace L2
open PySem PySem.Spec PyProof.Rows
end L2
set_option maxHeartbeats 2000000
namespace L2
open PySem PySem.W PySem.Spec PyProof.Rows
section
variable {X:Cx}
theorem Zgc {K:PySem.W.Frag}(hK:X.K=K):Yr X (.builtin "isinstance") (fun xs H Q=>∃ x c t b,xs=[x,.ty c]∧XI K H x t∧PySem.W.kitOne K t (.type c)=some b∧Q (.bl b) H):=by subst hK;exact YK
end
end L2
set_option maxHeartbeats 1000000
namespace L2
open PySem PySem.Spec PyProof.Rows
section
variable {X:Cx}
theorem ZhL (hc:X.calm=true):Yr X (.builtin "any") (fun xs H Q=>∃ (a:Addr) (bs:List Bool),xs=[.ref a]∧SqL X.K H a (bs.map V.bl)∧Q (.bl (bs.any id)) H):=by
 intro pins s σ H xs us Q I r h
 obtain ⟨a,bs,rfl,hq,q⟩:=h
 obtain ⟨u,rfl,ru⟩:=Ys r
 cases ru
 obtain ⟨its,rv,p,hz⟩:=I.list hq
 have hlen:=rv.length
 rw [List.length_map] at hlen
 have hal:a < s.heap.objs.size:=by obtain ⟨_,e,_⟩:=p.isList;exact Heap.lt_size e
 refine call_any_walk (wpAny_pyIter_list p.isList ⟨s.heap.objs.size,_,_,_,_,_,fun i=>bs.getD i false,rfl,Walks.list (A:=X.A.in1) (I.ok.hd hc) s.heap.objs.size a (Nat.ne_of_lt hal) its.toArray,⟨⟨_,Heap.get?_push_size _ rfl,rfl,rfl⟩,p.isList.push _⟩,?_,?_⟩)
 · intro i v s' Q' E' hv hQ'
   have hv':its[i]?=some v:=by simpa using hv
   have hi:i < bs.length:=by
     have:=(List.getElem?_eq_some_iff.mp hv').1
     omega
   obtain ⟨u,hu,ru⟩:=rv.get (i:=i) (x:=V.bl bs[i]) (by simp [hi])
   rw [hv'] at hu
   cases hu
   have e:v=Value.bool bs[i]:=ru
   subst e
   have hQ2:Q' (bs.getD i false) s':=hQ'
   rw [List.getD_eq_getElem?_getD,List.getElem?_eq_getElem hi] at hQ2
   exact wpAny_truthy_bool hQ2
 · intro h' tk hk
   have e:(List.range its.toArray.size).any (fun i=>bs.getD i false)=bs.any id:=by
     rw [List.size_toArray,← hlen]
     apply Bool.eq_iff_iff.mpr
     rw [List.any_eq_true,List.any_eq_true]
     constructor
     · rintro ⟨i,hi,z⟩
       have hi':=List.mem_range.mp hi
       rw [List.getD_eq_getElem?_getD,List.getElem?_eq_getElem hi'] at z
       exact ⟨_,List.getElem_mem hi',z⟩
     · rintro ⟨b,hb,z⟩
       obtain ⟨i,hi,rfl⟩:=List.mem_iff_getElem.mp hb
       refine ⟨i,List.mem_range.mpr hi,?_⟩
       rw [List.getD_eq_getElem?_getD,List.getElem?_eq_getElem hi];exact z
   rw [e]
   refine ⟨.bl (bs.any id),H,I.kept (t':=tk) fun b o eb=>hk b o ?_ (Heap.get?_push_of_some _ eb),rfl,q⟩
   intro hm
   have:b=s.heap.objs.size:=by simpa using hm
   rw [this] at eb
   exact absurd (Heap.lt_size eb) (Nat.lt_irrefl _)
end
end L2
set_option maxHeartbeats 1000000
namespace L2
open PySem PySem.Spec PyProof.Rows
theorem ZfS {X:Cx}:Yr X (.type "str") (fun xs H Q=>∃ v,xs=[v]∧(v=.non∨(∃ i,v=.int i∧i.natAbs.log2 < 1920)∨∃ x,v=.str x)∧∀ z:Str,Q (.str z) H):=by
 intro pins s σ H xs us Q I r h
 obtain ⟨v,rfl,hv,q⟩:=h
 obtain ⟨u,rfl,ru⟩:=Ys r
 rcases hv with rfl | ⟨i,rfl,hi⟩ | ⟨x,rfl⟩
 · cases (show u=Value.none from ru)
   exact PySem.P.str_of_none ⟨.str _,H,I.tok _,⟨_,rfl⟩,q _⟩
 · obtain ⟨t,rfl⟩:=ru
   exact PySem.P.str_of_int hi ⟨.str _,H,I.tok _,⟨_,rfl⟩,q _⟩
 · obtain ⟨t,rfl⟩:=ru
   exact PySem.P.str_of_str ⟨.str _,H,I,⟨_,rfl⟩,q _⟩
end L2
set_option maxHeartbeats 4000000
namespace K25
open PySem L2
def WT (p:Nat→Bool):List Nat→List Nat
 | []=>[]
 | a::r=>if p a=true then [a] else a::WT p r
def paper (pls:List ZA)(x:Str)(k:Nat):List Nat:=WT (YV pls x) (bk pls (k+1) k)
theorem Zcm (p:Nat→Bool):∀ l:List Nat,(WT p l).length≤l.length
 | []=>Nat.le_refl _
 | a::r=>by
   unfold WT
   split
   · show 1≤r.length+1;omega
   · show (WT p r).length+1≤r.length+1;have:=Zcm p r;omega
theorem Zbz (pls:List ZA)(x:Str)(k:Nat):(paper pls x k).length≤k+1:=Nat.le_trans (Zcm _ _) (Zgd pls _ _)
theorem has0 {pls:List ZA}{x:Str}:YV pls x 0=false:=by simp [YV,stN]
theorem Zbx {pls:List ZA}{x:Str}{k:Nat}(h:YV pls x k=true):paper pls x k=[k]:=by
 cases k with
 | zero=>rw [has0] at h;cases h
 | succ k=>show WT _ ((k+1)::_)=_;unfold WT;rw [if_pos h]
theorem ZaE {pls:List ZA}{x:Str}:paper pls x 0=[0]:=by
 show WT _ [0]=[0];unfold WT;rw [if_neg (by rw [has0];decide)];rfl
theorem Zdg {pls:List ZA}(hw:WfP pls){x:Str}{k:Nat}(hk:k < pls.length)(h:YV pls x (k+1)=false):paper pls x (k+1)=(k+1)::paper pls x (pls.getD k ⟨0,.clr "",0,0⟩).ah:=by
 have ha:=hw.at hk
 show WT _ ((k+1)::bk pls (k+1) _)=_
 unfold WT
 rw [if_neg (by rw [h];decide),ZdQ hw _ (by omega) (k+1) (by omega)];rfl
section
variable {P:Program}{w:World}{K:PySem.W.Frag}{mg:Str→Option Value}{base:Heap}{CR CS Pl:Addr}
theorem Zkc {pls:List ZA}{x:Str}{m:Nat}{s:Stp}(es:(pls.map (·.st))[m]?=some s):YV pls x (m+1)=decide (V.str s.nm=V.str x):=by
 unfold YV
 rw [Zgi es]
 by_cases z:s.nm=x
 · rw [decide_eq_true (by rw [z]),decide_eq_true (by rw [z])]
 · rw [decide_eq_false (fun y=>z (Option.some.inj y)),decide_eq_false (fun y=>z (V.str.inj y))]
theorem ZcL {pls:List ZA}{x:Str}{k m:Nat}{s:Stp}(h:YL pls x k=some (m+1))(es:(pls.map (·.st))[m]?=some s):Yn pls x k=stW s:=by
 unfold Yn
 rw [h]
 show stW (pls.getD (m+1 - 1) _).st=_
 rw [Nat.add_sub_cancel,List.getD_eq_getElem?_getD]
 rw [List.getElem?_map] at es
 cases z:pls[m]? with
 | none=>rw [z] at es;cases es
 | some q=>rw [z] at es;cases es;rfl
def NvI (v:V):Prop:=v=.non∨YR v
def NvV (v:V):Prop:=v=.non∨(∃ i,v=.int i)∨∃ x,v=.str x
theorem UM {v:V}(h:NvV v):v=.non∨(∃ i,v=.int i)∨∃ x,v=.str x:=h
theorem ZbW {v:V}(h:NvI v):NvV v:=by
 rcases h with h | h
 · exact .inl h
 · cases v<;>first | exact .inr (.inl ⟨_,rfl⟩) | exact .inr (.inr ⟨_,rfl⟩) | exact h.elim
theorem Zkq {n:Nat}(h:n≤10 ^ 31):n.log2 < 1920:=by
 by_cases z:n=0
 · subst z;decide
 · rw [Nat.log2_lt z]
   exact Nat.lt_of_lt_of_le (Nat.lt_of_le_of_lt h (show 10 ^ 31 < 2 ^ 200 by decide)) (Nat.pow_le_pow_right (by decide) (by decide))
theorem Zkn {v:V}(h:NvI v):v=.non∨(∃ i,v=.int i∧i.natAbs.log2 < 1920)∨∃ x,v=.str x:=by
 rcases h with h | h
 · exact .inl h
 · cases v<;>first | exact .inr (.inl ⟨_,rfl,Zkq h⟩) | exact .inr (.inr ⟨_,rfl⟩) | exact h.elim
theorem ZcG {pls:List ZA}{x:Str}{k:Nat}{NS:List Str}(hw:WfP pls)(hk:k≤pls.length)(ok:∀ q∈pls,q.st.ok NS):NvI (Yn pls x k):=by
 cases h:YL pls x k with
 | none=>exact .inl (by unfold Yn;rw [h])
 | some j =>
   obtain ⟨h1,h2,_⟩:=ZbP hw hk h
   obtain ⟨i,rfl⟩:∃ i,j=i+1:=⟨j - 1,by omega⟩
   have hp:=List.getElem?_eq_getElem (show i < pls.length by omega)
   rw [ZcL h (s:=pls[i].st) (by rw [List.getElem?_map,hp];rfl)]
   have:=ok _ (List.mem_of_getElem? hp)
   cases hs:pls[i].st with
   | set y v=>rw [hs] at this;exact .inr this.2
   | clr y=>exact .inl rfl
theorem Zea {pls:List ZA}{x:Str}{k:Nat}{NS:List Str}(hw:WfP pls)(hk:k≤pls.length)(ok:∀ q∈pls,q.st.ok NS):NvV (Yn pls x k):=ZbW (ZcG hw hk ok)
theorem UI {H:Hp}:∀ ns:List Nat,DatasOf H (ns.map nV) (ns.map fun n:Nat=>PyData.int (n:Int))
 | []=>.nil
 | n::r=>.cons (.int _) (UI r)
theorem Zaf:∀ ns:List Nat,PyData.canLayAll0 (ns.map fun n:Nat=>PyData.int (n:Int))=true
 | []=>rfl
 | n::r=>by rw [List.map_cons,PyData.canLayAll0,Zaf r];rfl
theorem Zah:∀ ns:List Nat,PyData.depthAll (ns.map fun n:Nat=>PyData.int (n:Int))=0
 | []=>rfl
 | n::r=>by rw [List.map_cons,PyData.depthAll,Zah r];rfl
theorem Zbw {H:Hp}{l:Addr}{ns:List Nat}(e:H l=some (.lst (ns.map nV))):∃ d,DataOf H (.ref l) d∧d=.list (ns.map fun n:Nat=>PyData.int (n:Int))∧d.canLay0=true∧d.depth≤60:=by
 refine ⟨_,.lst e (UI ns),rfl,?_,?_⟩
 · rw [PyData.canLay0];exact Zaf ns
 · rw [PyData.depth,Zah];decide
theorem WA {H:Hp}{l:Addr}{ns:List Nat}(e:H l=some (.tup (ns.map nV))):DataOf H (.ref l) (.tuple (ns.map fun n:Nat=>PyData.int (n:Int)))∧(PyData.tuple (ns.map fun n:Nat=>PyData.int (n:Int))).canLay0=true∧(PyData.tuple (ns.map fun n:Nat=>PyData.int (n:Int))).depth≤60:=by
 refine ⟨.tup e (UI ns),?_,?_⟩
 · rw [PyData.canLay0];exact Zaf ns
 · rw [PyData.depth,Zah];decide
theorem Zao:∀ ns ms:List Nat,PyData.eqvAll (ns.map fun n:Nat=>PyData.int (n:Int)) (ms.map fun n:Nat=>PyData.int (n:Int))=decide (ns=ms)
 | [],[]=>by simp [PyData.eqvAll]
 | [],_::_=>by simp [PyData.eqvAll]
 | _::_,[]=>by simp [PyData.eqvAll]
 | a :: r,b::t=>by
   have ih:=Zao r t
   rw [List.map_cons,List.map_cons,PyData.eqvAll,ih,PyData.eqv]
   by_cases e:a=b
   · subst e;simp
   · have:¬ ((a:Int)=(b:Int)):=fun z=>e (by omega)
     simp [e,this]
theorem ZjB {u v:V}(hu:NvV u)(hv:NvV v):scal u v=true:=by
 rcases UM hu with rfl | ⟨i,rfl⟩ | ⟨x,rfl⟩<;>rcases UM hv with rfl | ⟨j,rfl⟩ | ⟨y,rfl⟩<;>rfl
def Zfc (K:PySem.W.Frag)(CR CS:Addr):Sp:=fun vs H Q _=>∃(r:Addr)(pls:List ZA)(nds:List Nd)(tabs:List (Zl×V))(k:Nat)(x:Str),vs=[.ref r,.int (k:Int),.str x]∧Ui K CR CS r pls nds tabs H∧WfP pls∧k≤pls.length∧pls.length≤10000∧∀ t H',Same H H'→H' t=some (.tup ((paper pls x k).map nV))→Q (.ref t) H'
abbrev nLP:List Str:=["roads","place","name","back"]
abbrev UY:List Str:=["roads","place","name"]
theorem scLP:Zq nLP UY (Zj s_look_paper):=⟨rfl,rfl,rfl,by decide +kernel,rfl,by decide +kernel,by decide +kernel⟩
theorem Zmc {f:Addr}{fd:FuncData}(F:Fun K "look_paper" "look_paper" s_look_paper f fd)(T:ZY mg)(TR:YH K CR)(DR_step_has:DefM P w K mg base 3 CR "step_has" Uc (Zce K CR CS))(DR_ahead:DefM P w K mg base 3 CR "ahead" ZaP (VG K CR CS)):FnOk P w K mg base ZF 4 f fd UY (Zfc K CR CS):=by
 refine F.ok scLP (fun vs H Q E h=>?_) (fun cdv A outer s H vs Q E hr h=>?_)
 · obtain ⟨r,pls,nds,tabs,k,x,rfl,_⟩:=h;rfl
 obtain ⟨r,pls,nds,tabs,k,x,rfl,R,hw,hk,hpl,q⟩:=h
 refine' ⟨?t,?h,?r⟩
 case h =>
   conv=>arg 2;whnf
   with_reducible refine' (Ze ?h1 (Ze (WZ ?h2 ?h3 (Zi ?h4)) (Zi ?h5)))
   case h1=>exact Zx (i:=3) scLP.nd rfl (Or.inl rfl) (Yj (Zb (pv 1) Za))
   case h2=>exact PassesOwn.never
   case h3=>exact PW.pt (WQ (Xg (YI (ZZ DR_step_has TR.cl hr (pv 0) (Zb (Zm Zt (pv 3) (Xt YY Zd) (fun _ _=>rfl)) (Zb (pv 2) Za))))) (Wb (WO (WG (ZZ DR_ahead TR.cl hr (pv 0) (Zb (Zm Zt (pv 3) (Xt YY Zd) (fun _ _=>rfl)) Za))))))
   case h4=>exact Yg (YS PySem.F.plainAttrs_list PySem.F.slot_list_append PySem.F.type_list_append Yf (pv 3) (Zb (ZZ DR_ahead TR.cl hr (pv 0) (Zb (Zm Zt (pv 3) (Xt YY Zd) (fun _ _=>rfl)) Za)) Za))
   case h5=>exact Zk (Ye XE rfl T.tuple (by decide +kernel) (Zb (pv 3) Za))
 refine ⟨_,rfl,(by show 1≤sizeLine;decide),fun l hl=>?_⟩
 refine ⟨fun m σ H'=>∃ (bs:List Nat) (j:Nat),σ=[some (.ref r),some (.int (k:Int)),some (.str x),some (.ref l)]∧Same H H'∧H' l=some (.lst ((bs++[j]).map nV))∧m=j∧j≤k∧bs.length+j≤k∧bs++paper pls x j=paper pls x k,
   ⟨k,[],k,rfl,Zp hl _,Zg,rfl,Nat.le_refl _,by show 0+k≤k;omega,rfl⟩,?_⟩
 rintro m σ H2 ⟨bs,j,rfl,s2,el,hm,hj,hbl,hbs⟩
 have R2:=Up.up R s2
 obtain ⟨st2,la2,ls2,lt2,lc2,S2⟩:=id R2
 obtain ⟨dx2,ob2⟩:=S2.get r
 have eal:H2 l=some (.lst (bs.map nV++[nV j])):=by rw [el,List.map_append];rfl
 refine ⟨_,rfl,r,dx2,_,rfl,ob2,Yt (by decide +kernel),_,rfl,_,rfl,l,_,_,_,rfl,rfl,SqL.of eal,Xf _ _,_,rfl,r,pls,nds,tabs,j,x,rfl,R2,by omega,_,rfl,?_⟩
 have fin:bs++[j]=paper pls x k→∀ t,H2 t=none→Q (.ref t) (upd H2 t (.tup ((bs++[j]).map nV))):=fun e t ht=>q t _ (s2.trans (Zp ht _)) (by rw [Zg,e])
 cases hh:YV pls x j with
 | true =>
   rw [Zbx hh] at hbs
   exact ZB (ZB ⟨_,rfl,l,_,rfl,.inl ⟨SqL.of el,fin hbs⟩⟩)
 | false =>
   refine ZK ⟨_,rfl,r,dx2,_,rfl,ob2,Yt (by decide +kernel),_,rfl,_,rfl,l,_,_,_,rfl,rfl,SqL.of eal,Xf _ _,r,pls,nds,tabs,j,rfl,R2,by omega,?_⟩
   cases j with
   | zero =>
     rw [ZaE] at hbs
     exact ⟨_,rfl,ZB ⟨_,rfl,l,_,rfl,.inl ⟨SqL.of el,fin hbs⟩⟩⟩
   | succ j =>
     have ha:=hw.at (show j < pls.length by omega)
     rw [Zdg hw (by omega) hh] at hbs
     have hlb:∀ c,Same H (upd H2 l c):=fun c b o e=>by rw [Zh (Zn e hl)];exact s2 _ _ e
     refine ⟨_,rfl,ZK ⟨_,fun σ' H' h=>h,_,rfl,.inl ⟨rfl,_,SqL.of el⟩,_,rfl,r,dx2,_,rfl,ob2,Yt (by decide +kernel),_,rfl,_,rfl,l,_,_,_,rfl,rfl,SqL.of eal,Xf _ _,r,pls,nds,tabs,j+1,rfl,R2,by omega,l,_,_,rfl,rfl,el,YT (show _≤20000 by rw [List.length_map,List.length_append];show _+1≤_;omega),?_⟩⟩
     refine ⟨(pls.getD j ⟨0,.clr "",0,0⟩).ah,by omega,bs++[j+1],_,rfl,hlb _,?_,rfl,by omega,by rw [List.length_append];show _+1+_≤_;omega,by rw [List.append_assoc];exact hbs⟩
     rw [Zg,List.map_append (l₁:=bs++[j+1])];rfl
def ZiL:Sp:=fun vs H Q _=>∃ i,vs=[.int i]∧Q (.bl true) H
abbrev nIN:List Str:=["thing"]
abbrev Zhs:List Str:=["thing"]
theorem scIN:Zq nIN Zhs (Zj s_is_number):=⟨rfl,rfl,rfl,by decide +kernel,rfl,by decide +kernel,by decide +kernel⟩
theorem Zkm {f:Addr}{fd:FuncData}(F:Fun K "is_number" "is_number" s_is_number f fd)(T:ZY mg):FnOk P w K mg base ZF 1 f fd Zhs ZiL:=by
 refine F.ok scIN (fun vs H Q E h=>?_) (fun cdv A outer s H vs Q E hr h=>?_)
 · obtain ⟨i,rfl,_⟩:=h;rfl
 obtain ⟨i,rfl,q⟩:=h
 refine' ⟨?t,?h,?r⟩
 case h =>
   conv=>arg 2;whnf
   with_reducible refine' (Zi ?h1)
   case h1=>exact Zk (Xh (Zu YK rfl T.isinstance (by decide +kernel) (Zb (pv 0) (Zb (YW rfl T.int (by decide +kernel) (v:=.ty "int") rfl) Za))) (Xz (Zgp (Zu YK rfl T.isinstance (by decide +kernel) (Zb (pv 0) (Zb (YW rfl T.bool (by decide +kernel) (v:=.ty "bool") rfl) Za))))))
 exact ⟨_,rfl,_,_,_,_,rfl,.int _,rfl,_,rfl,ZK ⟨_,rfl,_,_,_,_,rfl,.int _,rfl,_,rfl,q⟩⟩
def ZeK:Sp:=fun vs H Q _=>∃(a t:Addr)(ms ns:List Nat),vs=[.ref a,.ref t]∧H a=some (.tup (ms.map nV))∧H t=some (.tup (ns.map nV))∧ms.length≤20000∧ns.length≤20000∧∀ H',Same H H'→Q (.bl (decide (ns=ms))) H'
abbrev nIT:List Str:=["numbers","thing"]
abbrev ZeM:List Str:=["numbers","thing"]
theorem scIT:Zq nIT ZeM (Zj s_is_tuple_of):=⟨rfl,rfl,rfl,by decide +kernel,rfl,by decide +kernel,by decide +kernel⟩
theorem Zlz {f:Addr}{fd:FuncData}(F:Fun K "is_tuple_of" "is_tuple_of" s_is_tuple_of f fd)(T:ZY mg)(D_is_number:Def P w K mg base 1 "is_number" Zhs ZiL):FnOk P w K mg base ZF 2 f fd ZeM ZeK:=by
 refine F.ok scIT (fun vs H Q E h=>?_) (fun cdv A outer s H vs Q E hr h=>?_)
 · obtain ⟨a,t,ms,ns,rfl,_⟩:=h;rfl
 obtain ⟨a,t,ms,ns,rfl,ea,et,hm,hn,q⟩:=h
 refine' ⟨?t,?h,?r⟩
 case h =>
   conv=>arg 2;whnf
   with_reducible refine' (Ze (Yb ?h1 (Zi ?h2) ZR) (Zi ?h3))
   case h1=>exact PW.pt (UK (Xg (YI (Zu YK rfl T.isinstance (by decide +kernel) (Zb (pv 1) (Zb (YW rfl T.tuple (by decide +kernel) (v:=.ty "tuple") rfl) Za))))) (UA (Xg (YI (Zu (Zaj rfl) rfl T.all (by decide +kernel) (Zb (XM (CompOk.of nIT s_is_tuple_of rfl rfl (by decide +kernel)) rfl (Vy (pv 1))  (fun _ _ _ _ _=>Zz D_is_number hr (Zb (pv 2) Za))) Za))))))
   case h2=>exact Zk Wz
   case h3=>exact Zk (Yl (ZcH hr.units) (Ye XZ rfl T.list (by decide +kernel) (Zb (pv 1) Za)) (Ye XZ rfl T.list (by decide +kernel) (Zb (pv 0) Za)) (ZC _))
 refine ⟨_,rfl,_,_,_,_,rfl,.tup et,rfl,_,rfl,ZB ?_⟩
 refine ⟨_,rfl,t,rfl,⟨_,SqT.of et⟩,fun D hD=>?_⟩
 refine Zab (K:=K) (xs:=ns.map nV) (Yp (show _≤20000 by rw [List.length_map];exact hn)) (fun i ys H'=>Same H H'∧H' D=some (.lst ys)∧ys=(List.replicate i true).map V.bl) ⟨Zp hD _,Zg,rfl⟩ ?_ ?_ ?_
 · rintro i ys H' ⟨s6,_,rfl⟩;exact ⟨by simp,SqT.of (s6 _ _ et)⟩
 · rintro i v ys H' hv ⟨s6,eD2,rfl⟩
   rw [List.getElem?_map] at hv
   obtain ⟨y,ey,rfl⟩:=Option.map_eq_some_iff.mp hv
   refine ⟨_,rfl,_,rfl,eD2,fun b o q=>?_,Zg,?_⟩
   · rw [Zh (Zn q hD)];exact s6 _ _ q
   · rw [List.replicate_succ',List.map_append];rfl
 · rintro ys H6 ⟨s6,eD2,rfl⟩
   refine ⟨D,_,rfl,SqL.of eD2,_,rfl,?_⟩
   rw [show ∀ k,(List.replicate k true).all id=true from fun k=>by simp]
   refine ZB ⟨_,rfl,t,_,rfl,.inr (SqT.of (s6 _ _ et)),fun l1 hl1=>?_⟩
   have s7:=Zp hl1 (.lst (ns.map nV))
   refine ⟨_,rfl,a,_,rfl,.inr (SqT.of (s7 _ _ (s6 _ _ ea))),fun l2 hl2=>?_⟩
   have s8:=Zp hl2 (.lst (ms.map nV))
   obtain ⟨d1,z1,z2,z3,z4⟩:=Zbw (s8 _ _ (Zg (H:=H6) (a:=l1) (o:=.lst (ns.map nV))))
   obtain ⟨d2,y1,y2,y3,y4⟩:=Zbw (Zg (H:=upd H6 l1 (.lst (ns.map nV))) (a:=l2) (o:=.lst (ms.map nV)))
   subst z2 y2
   refine ⟨_,_,z1,y1,z3,y3,z4,?_⟩
   rw [PyData.eqv,Zao]
   exact q _ ((s6.trans s7).trans s8)
def Zhe (K:PySem.W.Frag)(CR CS:Addr):Sp:=fun vs H Q _=>∃(NS:List Str)(r t:Addr)(pls:List ZA)(nds:List Nd)(tabs:List (Zl×V))(k:Nat)(x:Str)(told:V)(ns:List Nat),vs=[.ref r,.int (k:Int),.str x,told,.ref t]∧Ui K CR CS r pls nds tabs H∧WfP pls∧(∀ q∈pls,q.st.ok NS)∧k≤pls.length∧pls.length≤10000∧NvV told∧H t=some (.tup (ns.map nV))∧ns.length≤20000∧∀ H',Same H H'→Q (.bl (decide (ns=paper pls x k)&&decide (Yn pls x k=told))) H'
abbrev nSL:List Str:=["roads","place","name","told","paper","due"]
abbrev VZ:List Str:=["roads","place","name","told","paper"]
theorem scSL:Zq nSL VZ (Zj s_shows_look):=⟨rfl,rfl,rfl,by decide +kernel,rfl,by decide +kernel,by decide +kernel⟩
theorem ZlY {f:Addr}{fd:FuncData}(F:Fun K "shows_look" "shows_look" s_shows_look f fd)(T:ZY mg)(TR:YH K CR)(D_look_paper:Def P w K mg base 5 "look_paper" UY (Zfc K CR CS))(D_is_tuple_of:Def P w K mg base 5 "is_tuple_of" ZeM ZeK)(D_alike:Def P w K mg base 5 "alike" ["one","other"] VL)(DR_walked:DefM P w K mg base 5 CR "walked" Zcc (Zap K CR CS)):FnOk P w K mg base ZF 6 f fd VZ (Zhe K CR CS):=by
 refine F.ok scSL (fun vs H Q E h=>?_) (fun cdv A outer s H vs Q E hr h=>?_)
 · obtain ⟨NS,r,t,pls,nds,tabs,k,x,told,ns,rfl,_⟩:=h;rfl
 obtain ⟨NS,r,t,pls,nds,tabs,k,x,told,ns,rfl,R,hw,ok,hk,hpl,hv,et,hns,q⟩:=h
 refine' ⟨?t,?h,?r⟩
 case h =>
   conv=>arg 2;whnf
   with_reducible refine' (Ze ?h1 (Zi ?h2))
   case h1=>exact Zx (i:=5) scSL.nd rfl (Or.inl rfl) (Zz D_look_paper hr (Zb (pv 0) (Zb (pv 1) (Zb (pv 2) Za))))
   case h2=>exact Zk (Xh (Zz D_is_tuple_of hr (Zb (pv 5) (Zb (pv 4) Za))) (Xz (Zz D_alike hr (Zb (ZZ DR_walked TR.cl hr (pv 0) (Zb (pv 1) (Zb (pv 2) Za))) (Zb (pv 3) Za)))))
 refine ⟨_,rfl,_,rfl,_,rfl,r,pls,nds,tabs,k,x,rfl,R,hw,hk,hpl,fun a H1 s1 ea=>?_⟩
 refine ⟨_,rfl,_,rfl,a,t,paper pls x k,ns,rfl,ea,s1 _ _ et,(by have:=Zbz pls x k;omega),hns,fun H2 s2=>⟨_,rfl,?_⟩⟩
 have S2:=s1.trans s2
 by_cases e:ns=paper pls x k
 · rw [decide_eq_true e] at q ⊢
   have R2:Ui K CR CS r pls nds tabs H2:=Up.up R S2
   obtain ⟨st2,la2,ls2,lt2,lc2,T2⟩:=id R2
   obtain ⟨dx2,ob2⟩:=T2.get r
   refine ZK ⟨_,rfl,r,dx2,_,rfl,ob2,Yt (by decide +kernel),_,rfl,_,rfl,r,pls,nds,tabs,k,x,rfl,R2,hw,hk,?_⟩
   exact ⟨_,rfl,_,_,rfl,ZjB (Zea hw hk ok) hv,q H2 S2⟩
 · rw [decide_eq_false e] at q ⊢
   exact ZB (q H2 S2)
def Ziy:Sp:=fun vs H Q _=>∃ u v,vs=[u,v]∧NvV u∧NvV v∧Q (.bl (decide (u=v))) H
abbrev nLA2:List Str:=["_law_one","_law_other"]
abbrev Zfn:List Str:=["_law_one","_law_other"]
theorem ZlS:Zq nLA2 Zfn (Zj s_l_alike):=⟨rfl,rfl,rfl,by decide +kernel,rfl,by decide +kernel,by decide +kernel⟩
theorem Zfp {f:Addr}{fd:FuncData}(F:Fun K "_law_alike" "_law_alike" s_l_alike f fd)(T:ZY mg):FnOk P w K mg base ZF 1 f fd Zfn Ziy:=by
 refine F.ok ZlS (fun vs H Q E h=>?_) (fun cdv A outer s H vs Q E hr h=>?_)
 · obtain ⟨u,v,rfl,_⟩:=h;rfl
 obtain ⟨u,v,rfl,hu,hv,q⟩:=h
 refine' ⟨?t,?h,?r⟩
 case h =>
   conv=>arg 2;whnf
   with_reducible refine' (Ze (Yb ?h1 (Zi ?h2) ZR) (Zi ?h3))
   case h1=>exact PW.pt (UK (YI (Zu YK rfl T.isinstance (by decide +kernel) (Zb (pv 0) (Zb (YW rfl T.bool (by decide +kernel) (v:=.ty "bool") rfl) Za)))) (UA (ZJ ZaD (Zbh (Zau (pv 0))) (Zbh (Zau (pv 1))) (ZC _))))
   case h2=>exact Zk Wz
   case h3=>exact Zk (Xh (Yl Yh (Zu YK rfl T.isinstance (by decide +kernel) (Zb (pv 0) (Zb (YW rfl T.str (by decide +kernel) (v:=.ty "str") rfl) Za))) (Zu YK rfl T.isinstance (by decide +kernel) (Zb (pv 1) (Zb (YW rfl T.str (by decide +kernel) (v:=.ty "str") rfl) Za))) (ZC _)) (Xz (Yl Yh (pv 0) (pv 1) (ZC _))))
 rcases UM hu with rfl | ⟨i,rfl⟩ | ⟨x,rfl⟩<;>rcases UM hv with rfl | ⟨j,rfl⟩ | ⟨y,rfl⟩
 · refine ⟨_,rfl,_,_,_,_,rfl,.non,rfl,_,rfl,ZB ⟨_,rfl,_,rfl,rfl,_,rfl,?_⟩⟩
   refine ZB ⟨_,rfl,_,_,_,_,rfl,.non,rfl,_,rfl,_,_,_,_,rfl,.non,rfl,rfl,true,?_,ZK ⟨_,rfl,_,rfl,rfl,q⟩⟩
   rw [decide_eq_true rfl]
 · refine ⟨_,rfl,_,_,_,_,rfl,.non,rfl,_,rfl,ZB ⟨_,rfl,_,rfl,rfl,_,rfl,?_⟩⟩
   exact ZK (by rw [decide_eq_false (fun z=>by cases z)] at q;exact q)
 · refine ⟨_,rfl,_,_,_,_,rfl,.non,rfl,_,rfl,ZB ⟨_,rfl,_,rfl,rfl,_,rfl,?_⟩⟩
   exact ZK (by rw [decide_eq_false (fun z=>by cases z)] at q;exact q)
 · refine ⟨_,rfl,_,_,_,_,rfl,.int _,rfl,_,rfl,ZB ⟨_,rfl,_,rfl,rfl,_,rfl,?_⟩⟩
   exact ZK (by rw [decide_eq_false (fun z=>by cases z)] at q;exact q)
 · refine ⟨_,rfl,_,_,_,_,rfl,.int _,rfl,_,rfl,ZB ⟨_,rfl,_,rfl,rfl,_,rfl,?_⟩⟩
   refine ZB ⟨_,rfl,_,_,_,_,rfl,.int _,rfl,_,rfl,_,_,_,_,rfl,.int _,rfl,rfl,true,?_,ZK ⟨_,rfl,_,rfl,rfl,q⟩⟩
   rw [decide_eq_true rfl]
 · refine ⟨_,rfl,_,_,_,_,rfl,.int _,rfl,_,rfl,ZB ⟨_,rfl,_,rfl,rfl,_,rfl,?_⟩⟩
   refine ZB ⟨_,rfl,_,_,_,_,rfl,.int _,rfl,_,rfl,_,_,_,_,rfl,.str _,rfl,rfl,false,?_,ZB (by rw [decide_eq_false (fun z=>by cases z)] at q;exact q)⟩
   rw [decide_eq_false (fun z=>by cases z)]
 · refine ⟨_,rfl,_,_,_,_,rfl,.str _,rfl,_,rfl,ZB ⟨_,rfl,_,rfl,rfl,_,rfl,?_⟩⟩
   exact ZK (by rw [decide_eq_false (fun z=>by cases z)] at q;exact q)
 · refine ⟨_,rfl,_,_,_,_,rfl,.str _,rfl,_,rfl,ZB ⟨_,rfl,_,rfl,rfl,_,rfl,?_⟩⟩
   refine ZB ⟨_,rfl,_,_,_,_,rfl,.str _,rfl,_,rfl,_,_,_,_,rfl,.int _,rfl,rfl,false,?_,ZB (by rw [decide_eq_false (fun z=>by cases z)] at q;exact q)⟩
   rw [decide_eq_false (fun z=>by cases z)]
 · refine ⟨_,rfl,_,_,_,_,rfl,.str _,rfl,_,rfl,ZB ⟨_,rfl,_,rfl,rfl,_,rfl,?_⟩⟩
   refine ZB ⟨_,rfl,_,_,_,_,rfl,.str _,rfl,_,rfl,_,_,_,_,rfl,.str _,rfl,rfl,true,?_,ZK ⟨_,rfl,_,rfl,rfl,q⟩⟩
   rw [decide_eq_true rfl]
end
end K25
set_option maxHeartbeats 4000000
namespace K25
open PySem L2
section
variable {P:Program}{w:World}{K:PySem.W.Frag}{mg:Str→Option Value}{base:Heap}{CR CS Pl CP CN:Addr}
def ZcB (pls:List ZA)(k:Int):Prop:=k < 0∨(pls.length:Int) < k
def VJ (K:PySem.W.Frag)(CR CS CP:Addr):Sp:=fun vs H _ E=>∃ (r:Addr) (pls:List ZA) (nds:List Nd) (tabs:List (Zl×V)) (k:Int),vs=[.ref r,.int k]∧Ui K CR CS r pls nds tabs H∧ZcB pls k∧∀ dx H',Same H H'→H dx=none→H' dx=some (.xd [("what",.int k)])→E (.ref CP) (some dx) H'
theorem ZjU {f:Addr}{fd:FuncData}(F:Fun K "check_place" "Roads.check_place" c_Roads_check_place f fd)(T:ZY mg)(TR:YH K CR)(DE:Zhi P w K mg base 1 CP "NoPlace"):FnOk P w K mg base (Vb P w base) 3 f fd WD (VJ K CR CS CP):=by
 refine F.okX ZiM (fun vs H Q E h=>?_) (fun cdv A outer s H vs Q E hr h W=>?_)
 · obtain ⟨r,pls,nds,tabs,k,rfl,_⟩:=h;rfl
 obtain ⟨r,pls,nds,tabs,k,rfl,⟨st,la,ls,lt,lc,S⟩,hk,q⟩:=h
 obtain ⟨dx,ob⟩:=S.get r
 refine' ⟨?t,?h,?r⟩
 case h =>
   conv=>arg 2;whnf
   with_reducible refine' (Zi (Yb ?h1 (Zi ?h2) ZR))
   case h1=>exact Xg (ZcY ZiA VM Zd (pv 1) (Zu ZE rfl T.len PySem.boot_len (Zb (ZM (pv 0) rfl) Za)))
   case h2=>exact ZgT W DE hr rfl (Zb (pv 1) Za)
 refine ⟨_,rfl,_,_,rfl,rfl,_,rfl,Xx (fun c=>?_) (fun c=>?_)⟩
 · have h0:(0:Int)≤k:=of_decide_eq_true c
   refine ⟨_,rfl,r,CR,dx,_,_,rfl,ob,TR.cl,TR.na,Vm,la,_,rfl,.inl (SqL.of (S.get la)),_,_,rfl,rfl,_,rfl,?_⟩
   rw [decide_eq_false (show ¬ k < (((V.non::pls.map fun q=>V.int (q.ah:Int)).length:Nat):Int) by rw [List.length_cons,List.length_map];unfold ZcB at hk;omega)]
   exact ZK ⟨_,rfl,_,rfl,fun d hd=>q d _ (Zp hd _) hd Zg⟩
 · exact ⟨_,rfl,ZK ⟨_,rfl,_,rfl,fun d hd=>q d _ (Zp hd _) hd Zg⟩⟩
theorem Zho {f:Addr}{fd:FuncData}(F:Fun K "step" "Roads.step" c_Roads_step f fd)(T:ZY mg)(TR:YH K CR)(DR_check_place:UD P w K mg base 3 CR "check_place" WD (VJ K CR CS CP)):FnOk P w K mg base (Vb P w base) 4 f fd Uf (VJ K CR CS CP):=by
 refine F.okX ZiG (fun vs H Q E h=>?_) (fun cdv A outer s H vs Q E hr h W=>?_)
 · obtain ⟨r,pls,nds,tabs,k,rfl,_⟩:=h;rfl
 obtain ⟨r,pls,nds,tabs,k,rfl,R,hk,q⟩:=h
 obtain ⟨st,la,ls,lt,lc,S⟩:=id R
 obtain ⟨dx,ob⟩:=S.get r
 refine' ⟨?t,?h,?r⟩
 case h =>
   conv=>arg 2;whnf
   with_reducible refine' (Ze ?h1 (Zi ?h2))
   case h1=>exact Yg (ZeG W DR_check_place TR.cl hr (pv 0) (Zb (pv 1) Za))
   case h2=>exact Zk (Zm Zt (ZM (pv 0) rfl) (pv 1) (fun _ _=>rfl))
 exact ⟨_,rfl,r,dx,_,rfl,ob,Yt (by decide +kernel),_,rfl,r,pls,nds,tabs,k,rfl,R,hk,q⟩
def XD (K:PySem.W.Frag)(CR CS CP:Addr)(n:Nat):Sp:=fun vs H _ E=>∃ (r:Addr) (pls:List ZA) (nds:List Nd) (tabs:List (Zl×V)) (k:Int) (ws:List V),vs=.ref r::.int k::ws∧ws.length=n∧Ui K CR CS r pls nds tabs H∧ZcB pls k∧∀ dx H',Same H H'→H dx=none→H' dx=some (.xd [("what",.int k)])→E (.ref CP) (some dx) H'
theorem Zjr {f:Addr}{fd:FuncData}(F:Fun K "step_has" "Roads.step_has" c_Roads_step_has f fd)(T:ZY mg)(TR:YH K CR)(DR_step:UD P w K mg base 4 CR "step" Uf (VJ K CR CS CP)):FnOk P w K mg base (Vb P w base) 5 f fd Uc (XD K CR CS CP 1):=by
 refine F.okX scRHs (fun vs H Q E h=>?_) (fun cdv A outer s H vs Q E hr h W=>?_)
 · obtain ⟨r,pls,nds,tabs,k,ws,rfl,hl,_⟩:=h;show ws.length+1+1=3;omega
 obtain ⟨r,pls,nds,tabs,k,ws,rfl,hl,R,hk,q⟩:=h
 obtain ⟨x,rfl⟩:=List.length_eq_one_iff.mp hl
 obtain ⟨st,la,ls,lt,lc,S⟩:=id R
 obtain ⟨dx,ob⟩:=S.get r
 refine' ⟨?t,?h,?r⟩
 case h =>
   conv=>arg 2;whnf
   with_reducible refine' (Ze ?h1 (Zi ?h2))
   case h1=>exact Zx (i:=3) scRHs.nd rfl (Or.inl rfl) (ZeG W DR_step TR.cl hr (pv 0) (Zb (pv 1) Za))
   case h2=>exact Zk (Xh (Zbh (WG (pv 3))) (Xz (Yl Yh (Zm ZS (pv 3) Zd (fun _ _=>rfl)) (pv 2) (ZC _))))
 exact ⟨_,rfl,r,dx,_,rfl,ob,Yt (by decide +kernel),_,rfl,r,pls,nds,tabs,k,rfl,R,hk,q⟩
theorem ZlI {f:Addr}{fd:FuncData}(F:Fun K "look_paper" "look_paper" s_look_paper f fd)(T:ZY mg)(TR:YH K CR)(DR_step_has:UD P w K mg base 5 CR "step_has" Uc (XD K CR CS CP 1))(DR_ahead:DefM P w K mg base 5 CR "ahead" ZaP (VG K CR CS)):FnOk P w K mg base (Vb P w base) 6 f fd UY (XD K CR CS CP 1):=by
 refine F.okX scLP (fun vs H Q E h=>?_) (fun cdv A outer s H vs Q E hr h W=>?_)
 · obtain ⟨r,pls,nds,tabs,k,ws,rfl,hl,_⟩:=h;show ws.length+1+1=3;omega
 obtain ⟨r,pls,nds,tabs,k,ws,rfl,hl,R,hk,q⟩:=h
 obtain ⟨x,rfl⟩:=List.length_eq_one_iff.mp hl
 refine' ⟨?t,?h,?r⟩
 case h =>
   conv=>arg 2;whnf
   with_reducible refine' (Ze ?h1 (Ze (WZ ?h2 ?h3 (Zi ?h4)) (Zi ?h5)))
   case h1=>exact Zx (i:=3) scLP.nd rfl (Or.inl rfl) (Yj (Zb (pv 1) Za))
   case h2=>exact PassesOwn.leaving
   case h3=>exact PW.pt (WQ (Xg (YI (ZeG W DR_step_has TR.cl hr (pv 0) (Zb (Zm Zt (pv 3) (Xt YY Zd) (fun _ _=>rfl)) (Zb (pv 2) Za))))) (Wb (WO (WG (ZZ DR_ahead TR.cl hr (pv 0) (Zb (Zm Zt (pv 3) (Xt YY Zd) (fun _ _=>rfl)) Za))))))
   case h4=>exact Yg (YS PySem.F.plainAttrs_list PySem.F.slot_list_append PySem.F.type_list_append Yf (pv 3) (Zb (ZZ DR_ahead TR.cl hr (pv 0) (Zb (Zm Zt (pv 3) (Xt YY Zd) (fun _ _=>rfl)) Za)) Za))
   case h5=>exact Zk (Ye XE rfl T.tuple (by decide +kernel) (Zb (pv 3) Za))
 refine ⟨_,rfl,(by show 1≤sizeLine;decide),fun l hl=>?_⟩
 refine ⟨fun _ σ H'=>σ=[some (.ref r),some (.int k),some x,some (.ref l)]∧Same H H'∧H' l=some (.lst [.int k]),⟨0,rfl,Zp hl _,Zg⟩,?_⟩
 rintro m σ H2 ⟨rfl,s2,el⟩
 have R2:=Up.up R s2
 obtain ⟨st2,la2,ls2,lt2,lc2,S2⟩:=id R2
 obtain ⟨dx2,ob2⟩:=S2.get r
 exact ⟨_,rfl,r,dx2,_,rfl,ob2,Yt (by decide +kernel),_,rfl,_,rfl,l,_,_,_,rfl,rfl,SqL.of el,rfl,_,rfl,r,pls,nds,tabs,k,_,rfl,rfl,R2,hk,fun d H' s h1 h2=>q d H' (s2.trans s) (Vj s2 h1) h2⟩
theorem ZkE {f:Addr}{fd:FuncData}(F:Fun K "shows_look" "shows_look" s_shows_look f fd)(T:ZY mg)(TR:YH K CR)(D_look_paper:DefX P w K mg base 6 "look_paper" UY (XD K CR CS CP 1))(D_is_tuple_of:Def P w K mg base 6 "is_tuple_of" ZeM ZeK)(D_alike:Def P w K mg base 6 "alike" ["one","other"] VL)(DR_walked:DefM P w K mg base 6 CR "walked" Zcc (Zap K CR CS)):FnOk P w K mg base (Vb P w base) 7 f fd VZ (XD K CR CS CP 3):=by
 refine F.okX scSL (fun vs H Q E h=>?_) (fun cdv A outer s H vs Q E hr h W=>?_)
 · obtain ⟨r,pls,nds,tabs,k,ws,rfl,hl,_⟩:=h;show ws.length+1+1=5;omega
 obtain ⟨r,pls,nds,tabs,k,ws,rfl,hl,R,hk,q⟩:=h
 obtain ⟨x,y,z,rfl⟩:∃ x y z,ws=[x,y,z]:=match ws,hl with | [x,y,z],_=>⟨x,y,z,rfl⟩
 refine' ⟨?t,?h,?r⟩
 case h =>
   conv=>arg 2;whnf
   with_reducible refine' (Ze ?h1 (Zi ?h2))
   case h1=>exact Zx (i:=5) scSL.nd rfl (Or.inl rfl) (Zfa W D_look_paper hr (Zb (pv 0) (Zb (pv 1) (Zb (pv 2) Za))))
   case h2=>exact Zk (Xh (Zz D_is_tuple_of hr (Zb (pv 5) (Zb (pv 4) Za))) (Xz (Zz D_alike hr (Zb (ZZ DR_walked TR.cl hr (pv 0) (Zb (pv 1) (Zb (pv 2) Za))) (Zb (pv 3) Za)))))
 exact ⟨_,rfl,_,rfl,_,rfl,r,pls,nds,tabs,k,_,rfl,rfl,R,hk,q⟩
end
end K25
set_option maxHeartbeats 4000000
namespace K25
open PySem L2
structure TxtE (K:PySem.W.Frag)(mg:Str→Option Value)(CRo CP:Addr):Prop where
 road:mg "RoadError"=some (.ref CRo)
 np:mg "NoPlace"=some (.ref CP)
 catP:PySem.W.exmOne K (.ref CP) (.ref CRo)=some true
 pP:PySem.W.kitOne K (.ref CP) (.ref CP)=some true
 gP:XG K CP
section
variable {P:Program}{w:World}{K:PySem.W.Frag}{mg:Str→Option Value}{base:Heap}{CR CS Pl CP CRo:Addr}
def spRf (K:PySem.W.Frag)(CR CS:Addr):Sp:=fun vs H Q _=>∃(r:Addr)(pls:List ZA)(nds:List Nd)(tabs:List (Zl×V))(k:Int)(i:Nat),vs=[.ref r,.int k,.int (i:Int)]∧i < 4∧Ui K CR CS r pls nds tabs H∧ZcB pls k∧∀ H',Same H H'→Q (.bl true) H'
abbrev nRf:List Str:=["_law_roads","_law_place","_law_which","_law_caught","error"]
abbrev Zhv:List Str:=["_law_roads","_law_place","_law_which"]
theorem scRf:Zq nRf Zhv (Zj s_l_is_refused):=⟨rfl,rfl,rfl,by decide +kernel,rfl,by decide +kernel,by decide +kernel⟩
theorem Zmu {f:Addr}{fd:FuncData}(F:Fun K "_law_is_refused" "_law_is_refused" s_l_is_refused f fd)(T:ZY mg)(TR:YH K CR)(TE:TxtE K mg CRo CP)(D_look_paper:DefX P w K mg base 7 "look_paper" UY (XD K CR CS CP 1))(D_shows_look:DefX P w K mg base 7 "shows_look" VZ (XD K CR CS CP 3)):FnOk P w K mg base ZF 8 f fd Zhv (spRf K CR CS):=by
 refine F.ok scRf (fun vs H Q E h=>?_) (fun cdv A outer s H vs Q E hr h=>?_)
 · obtain ⟨r,pls,nds,tabs,k,i,rfl,_⟩:=h;rfl
 obtain ⟨r,pls,nds,tabs,k,i,rfl,hi,R,hk,q⟩:=h
 refine' ⟨?t,?h,?r⟩
 case h =>
   conv=>arg 2;whnf
   with_reducible refine' (Ze ?h1 (Ze (ZhU (i:=4) ?h2 ?h3 ?h4 ?h5 ?h6 ?h7 ?h8 ?h9 ?h10 (fun pn Z EE W=>(Zi (Yb ?h11 (Zi ?h12) (Zi ?h13)))) (fun ea Z=>(Zi ?h14))) (Zi ?h15)))
   case h1=>exact Zx (i:=3) scRf.nd rfl (Or.inl rfl) Xy
   case h2=>exact rfl
   case h3=>exact rfl
   case h4=>exact rfl
   case h5=>exact scRf.nd
   case h6=>exact rfl
   case h7=>exact rfl
   case h8=>exact rfl
   case h9=>exact TE.road
   case h10=>exact (by decide)
   case h11=>exact ZJ Yh (pv 2) Zd (ZC _)
   case h12=>exact Yg (Zfa W D_look_paper hr (Zb (pv 0) (Zb (pv 1) (Zb ZH Za))))
   case h13=>exact Yg (Zfa W D_shows_look hr (Zb (pv 0) (Zb (pv 1) (Zb ZH (Zb Xy (Zb (Zm (ZgQ (K:=K) rfl) (Yj (Zb (YM (Zb (pv 1) Za)) (Zb Xy (Zb ZH Za)))) (Zw YA (pv 2) Zd) (fun _ _=>rfl)) Za))))))
   case h14=>exact Zx (i:=3) scRf.nd rfl (Or.inl rfl) (pv 4)
   case h15=>exact Zk (Xh (Zu Zge rfl T.isinstance (by decide +kernel) (Zb (pv 3) (Zb (Xa (v:=.ref _) rfl TE.np rfl) Za))) (Xz (Yl Yh (ZjQ (pv 3) rfl) (pv 1) (ZC _))))
 have last:∀ (d1 ea:Addr) (H1:Hp) (σ:St),σ[3]?=some (some (V.ref ea))→σ[1]?=some (some (V.int k))→Same H H1→H1 ea=none→H1 d1=some (.xd [("what",.int k)]) →
     Ziu (tCB (rIsi K) (Xu (Vf 3) (Xu (tC (V.ref CP)) Wd))) (tOp rEq (ZiI K (Vf 3)) (Vf 1)) σ (upd H1 ea (XO ea CP d1)) Q:=fun d1 ea H1 σ h3 h1 s1 hea ed1=>by
   have eea:upd H1 ea (XO ea CP d1) ea=some (XO ea CP d1):=Zg
   have s2:=Zp hea (XO ea CP d1)
   refine ⟨_,h3,_,_,_,true,rfl,.inr ⟨ea,CP,d1,rfl,rfl,eea,TE.gP⟩,.inl ⟨CP,rfl,TE.pP⟩,_,rfl,ZK ?_⟩
   refine ⟨_,h3,ea,CP,d1,_,_,rfl,eea,s2 _ _ ed1,TE.gP,rfl,_,h1,rfl,?_⟩
   rw [decide_eq_true rfl]
   exact q _ (s1.trans s2)
 by_cases h0:i=0
 · subst h0
   refine ⟨_,rfl,rfl,_,rfl,ZK ⟨_,rfl,_,rfl,r,pls,nds,tabs,k,_,rfl,rfl,R,hk,fun d1 H1 s1 hd1 ed1=>⟨CP,d1,rfl,rfl,TE.catP,fun ea hea=>⟨_,rfl,last d1 ea H1 _ rfl rfl s1 hea ed1⟩⟩⟩⟩
 · refine ⟨_,rfl,rfl,_,rfl,?_⟩
   refine Xx (fun c=>absurd (V.int.inj (of_decide_eq_true c)) (by omega)) (fun _=>?_)
   refine ⟨_,rfl,_,rfl,_,rfl,(by show 1≤sizeLine;decide),fun t ht=>⟨(by show 3≤sizeLine;decide),fun l hl=>?_⟩⟩
   have s3:=(Zp ht (.tup [.int k])).trans (Zp hl (.lst [.ref t,.non,.str ""]))
   have hat:∃ v,YG ([.ref t,.non,.str ""]:List V) ((i:Int) - 1)=some v:=by
     rcases (show i=1∨i=2∨i=3 by omega) with rfl | rfl | rfl<;>exact ⟨_,rfl⟩
   obtain ⟨v,hat⟩:=hat
   exact ⟨_,rfl,_,_,rfl,rfl,l,_,_,v,rfl,rfl,SqL.of Zg,hat,r,pls,nds,tabs,k,_,rfl,rfl,Up.up R s3,hk,fun d1 H1 s1 hd1 ed1=>⟨CP,d1,rfl,rfl,TE.catP,fun ea hea=>⟨_,rfl,last d1 ea H1 _ rfl rfl (s3.trans s1) hea ed1⟩⟩⟩
end
end K25
set_option maxHeartbeats 4000000
namespace K25
open PySem L2
section
variable {P:Program}{w:World}{K:PySem.W.Frag}{mg:Str→Option Value}{base:Heap}{CR CS Pl:Addr}
def spPp:Sp:=fun vs H Q _=>∃(sl:Addr)(pls:List ZA)(k:Nat)(x:Str),vs=[.ref sl,.int (k:Int),.str x]∧StopL pls sl H∧WfP pls∧k≤pls.length∧pls.length≤10000∧∀ t tp H',Same H H'→H' t=some (.tup [.ref tp,Yn pls x k])→H' tp=some (.tup ((paper pls x k).map nV))→Q (.ref t) H'
abbrev nPp:List Str:=["_law_stops","_law_place","_law_name","_law_found","_law_step_here"]
abbrev Zhx:List Str:=["_law_stops","_law_place","_law_name"]
theorem scPp:Zq nPp Zhx (Zj s_l_paper):=⟨rfl,rfl,rfl,by decide +kernel,rfl,by decide +kernel,by decide +kernel⟩
theorem Zmq {f:Addr}{fd:FuncData}(F:Fun K "_law_paper" "_law_paper" s_l_paper f fd)(T:ZY mg):FnOk P w K mg base ZF 5 f fd Zhx spPp:=by
 refine F.ok scPp (fun vs H Q E h=>?_) (fun cdv A outer s H vs Q E hr h=>?_)
 · obtain ⟨sl,pls,k,x,rfl,_⟩:=h;rfl
 obtain ⟨sl,pls,k,x,rfl,R,hw,hk,hpl,q⟩:=h
 refine' ⟨?t,?h,?r⟩
 case h =>
   conv=>arg 2;whnf
   with_reducible refine' (Ze ?h1 (Ze (WZ ?h2 ?h3 (Zi ?h4)) (Ze ?h5 (Zi ?h6))))
   case h1=>exact Zx (i:=3) scPp.nd rfl (Or.inl rfl) (Yj (Zb (pv 1) Za))
   case h2=>exact PassesOwn.never
   case h3=>exact PW.pt (WQ (ZJ ZiN (Zm Zt (pv 3) (Xt YY Zd) (fun _ _=>rfl)) Zd (ZC _)) (Wb (ZJ ZaD (Zm ZS (Zm ZS (Zm Zt (pv 0) (Zm Zt (pv 3) (Xt YY Zd) (fun _ _=>rfl)) (fun _ _=>rfl)) Zd (fun _ _=>rfl)) Zd (fun _ _=>rfl)) (pv 2) (ZC _))))
   case h4=>exact Yg (YS PySem.F.plainAttrs_list PySem.F.slot_list_append PySem.F.type_list_append Yf (pv 3) (Zb (Zm ZS (Zm Zt (pv 0) (Zm Zt (pv 3) (Xt YY Zd) (fun _ _=>rfl)) (fun _ _=>rfl)) Zd (fun _ _=>rfl)) Za))
   case h5=>exact Zx (i:=4) scPp.nd rfl (Or.inl rfl) (Zm ZS (Zm Zt (pv 0) (Zm Zt (pv 3) (Xt YY Zd) (fun _ _=>rfl)) (fun _ _=>rfl)) Zd (fun _ _=>rfl))
   case h6=>exact Zk (YM (Zb (Ye XE rfl T.tuple (by decide +kernel) (Zb (pv 3) Za)) (Zb (Wc (PW.pt (WQ (WO (WG (pv 4))) (Wb (ZJ Yh (Zm ZS (pv 4) Zd (fun _ _=>rfl)) ZH (ZC _))))) (Zm ZS (pv 4) Zd (fun _ _=>rfl)) Xy) Za)))
 refine ⟨_,rfl,(by show 1≤sizeLine;decide),fun l hl=>?_⟩
 refine ⟨fun m σ H'=>∃ (bs:List Nat) (j:Nat) (x4:Option V),σ=[some (.ref sl),some (.int (k:Int)),some (.str x),some (.ref l),x4]∧Same H H'∧H' l=some (.lst ((bs++[j]).map nV))∧m=j∧j≤k∧bs.length+j≤k∧bs++paper pls x j=paper pls x k∧YL pls x j=YL pls x k,
   ⟨k,[],k,_,rfl,Zp hl _,Zg,rfl,Nat.le_refl _,by show 0+k≤k;omega,rfl,rfl⟩,?_⟩
 rintro m σ H2 ⟨bs,j,x4,rfl,s2,el,hm,hj,hbl,hbs,hla⟩
 have eal:H2 l=some (.lst (bs.map nV++[nV j])):=by rw [el,List.map_append];rfl
 have R2:=Up.up R s2
 obtain ⟨ys,a,xx,y,e1,e2,e3,e4,e5,_⟩:=StopL.at R2 (show j≤pls.length by omega)
 refine ⟨_,rfl,_,rfl,l,_,_,_,rfl,rfl,SqL.of eal,Xf _ _,_,_,rfl,rfl,_,rfl,?_⟩
 have fin:bs++[j]=paper pls x k→∀ tp t,H2 tp=none→upd H2 tp (.tup ((bs++[j]).map nV)) t=none→Q (.ref t) (upd (upd H2 tp (.tup ((bs++[j]).map nV))) t (.tup [.ref tp,Yn pls x k])):=fun e tp t h1 h2 =>
   q t tp _ ((s2.trans (Zp h1 _)).trans (Zp h2 _)) Zg (by rw [Zp h2 _ _ _ Zg,e])
 cases j with
 | zero =>
   rw [ZaE] at hbs
   cases (show y=.non from e5)
   have hwk:Yn pls x k=.non:=by unfold Yn;rw [← hla,ZaC]
   rw [hwk] at fin
   refine Xx (fun c=>absurd (of_decide_eq_true c) (by decide)) (fun _=>ZB ?_)
   refine ⟨_,rfl,_,rfl,_,rfl,l,_,_,_,rfl,rfl,SqL.of eal,Xf _ _,sl,_,_,_,rfl,rfl,SqL.of e1,Zv (j:=0) e2,a,_,_,_,rfl,rfl,SqT.of e3,Zv (j:=1) rfl,?_⟩
   refine ⟨_,rfl,l,_,rfl,.inl ⟨SqL.of el,fun tp htp=>⟨_,rfl,_,rfl,ZB (ZB ⟨(by show 2≤sizeLine;decide),fun t ht=>fin hbs tp t htp ht⟩)⟩⟩⟩
 | succ j =>
   obtain ⟨b,st,rfl,es,eb⟩:=e5
   refine Xx (fun _=>?_) (fun c=>absurd (decide_eq_true (show (0:Int) < ((j+1:Nat):Int) by omega)) c)
   refine ⟨_,rfl,_,rfl,_,rfl,l,_,_,_,rfl,rfl,SqL.of eal,Xf _ _,sl,_,_,_,rfl,rfl,SqL.of e1,Zv (j:=j+1) e2,a,_,_,_,rfl,rfl,SqT.of e3,Zv (j:=1) rfl,b,_,_,_,rfl,rfl,SqT.of eb,Zv (j:=1) (vs1 st),_,rfl,rfl,_,rfl,?_⟩
   rw [← Zkc (x:=x) es]
   cases hh:YV pls x (j+1) with
   | false =>
     have ha:=hw.at (show j < pls.length by omega)
     rw [Zdg hw (by omega) hh] at hbs
     rw [Zcp hw (by omega) hh] at hla
     have hlb:∀ c,Same H (upd H2 l c):=fun c b o e=>by rw [Zh (Zn e hl)];exact s2 _ _ e
     refine ZK ⟨_,fun σ' H' h=>h,_,rfl,.inl ⟨rfl,_,SqL.of el⟩,_,rfl,_,rfl,_,rfl,l,_,_,_,rfl,rfl,SqL.of eal,Xf _ _,sl,_,_,_,rfl,rfl,SqL.of e1,Zv (j:=j+1) e2,a,_,_,_,rfl,rfl,SqT.of e3,Zv (j:=0) rfl,l,_,_,rfl,rfl,el,YT (show _≤20000 by rw [List.length_map,List.length_append];show _+1≤_;omega),?_⟩
     refine ⟨(pls.getD j ⟨0,.clr "",0,0⟩).ah,by omega,bs++[j+1],_,_,rfl,hlb _,?_,rfl,by omega,by rw [List.length_append];show _+1+_≤_;omega,by rw [List.append_assoc];exact hbs,hla⟩
     rw [Zg,List.map_append (l₁:=bs++[j+1]),e4];rfl
   | true =>
     rw [Zbx hh] at hbs
     rw [ZbE hh] at hla
     have hwk:=ZcL hla.symm es
     rw [hwk] at fin
     refine ZB ⟨_,rfl,_,rfl,_,rfl,l,_,_,_,rfl,rfl,SqL.of eal,Xf _ _,sl,_,_,_,rfl,rfl,SqL.of e1,Zv (j:=j+1) e2,a,_,_,_,rfl,rfl,SqT.of e3,Zv (j:=1) rfl,?_⟩
     refine ⟨_,rfl,l,_,rfl,.inl ⟨SqL.of el,fun tp htp=>⟨_,rfl,_,rfl,ZK ?_⟩⟩⟩
     have eb2:=Zp htp (.tup ((bs++[j+1]).map nV)) _ _ eb
     cases st with
     | set y v =>
       refine ⟨_,rfl,b,_,_,_,rfl,rfl,SqT.of eb2,Zv (j:=0) rfl,rfl,_,rfl,ZK ⟨_,rfl,b,_,_,_,rfl,rfl,SqT.of eb2,Zv (j:=2) rfl,(by show 2≤sizeLine;decide),fun t ht=>fin hbs tp t htp ht⟩⟩
     | clr y =>
       refine ⟨_,rfl,b,_,_,_,rfl,rfl,SqT.of eb2,Zv (j:=0) rfl,rfl,_,rfl,ZB ⟨(by show 2≤sizeLine;decide),fun t ht=>fin hbs tp t htp ht⟩⟩
end
end K25
set_option maxHeartbeats 4000000
namespace K25
open PySem L2
instance {pls:List ZA}:IsLst (StopL pls) (pls.length+1):=⟨fun ⟨as,e,hl,_⟩=>⟨_,e,by rw [List.length_map];exact hl⟩⟩
section
variable {P:Program}{w:World}{K:PySem.W.Frag}{mg:Str→Option Value}{base:Heap}{CR CS Pl:Addr}
theorem Zmb {x y:V}{A B:Prop}(h:x=y)(b:B):if (!decide (x=y))=true then A else B:=by rw [decide_eq_true h];exact b
def spLk (K:PySem.W.Frag)(CR CS:Addr):Sp:=fun vs H Q _=>∃(NS XS:List Str)(U:List V)(p r sl nl l2:Addr)(pls:List ZA)(nds:List Nd)(tabs:List (Zl×V))(n:Nat)(Δ:Rs),vs=[.ref p,.ref r,.ref sl,.ref nl,.ref l2]∧Sep ((p,Bx n)::(r,Uh K CR CS pls nds tabs)::(sl,StopL pls)::(nl,Yc (XS.map V.str))::(l2,Yc U)::Δ) H∧n≤5000∧WfP pls∧(∀ q∈pls,q.st.ok NS)∧pls.length≤1000∧1≤XS.length∧XS.length≤100∧(∀ u∈U,YR u)∧U.length≤100 ∧
 ∀ H',Sep ((p,Bx (n+3))::(r,Uh K CR CS pls nds tabs)::(sl,StopL pls)::(nl,Yc (XS.map V.str))::(l2,Yc U)::Δ) H'→Q (.bl true) H'
abbrev nLk:List Str:=["_law_box_here","_law_roads","_law_stops","_law_names_here","_law_values_here","_law_place","_law_name","_law_other","_law_paper_here","_law_value_here","_law_found","_law_told","_law_says","_law_same","_law_its"]
abbrev Zie:List Str:=["_law_box_here","_law_roads","_law_stops","_law_names_here","_law_values_here"]
theorem scLk:Zq nLk Zie (Zj s_l_look_right):=⟨rfl,rfl,rfl,by decide +kernel,rfl,by decide +kernel,by decide +kernel⟩
theorem ZlX {f:Addr}{fd:FuncData}(F:Fun K "_law_look_right" "_law_look_right" s_l_look_right f fd)(T:ZY mg)(DT:DTk P w K mg base 1)(DPp:Def P w K mg base 12 "_law_paper" Zhx spPp)(D_look_paper:Def P w K mg base 12 "look_paper" UY (Zfc K CR CS))(D_shows_look:Def P w K mg base 12 "shows_look" VZ (Zhe K CR CS))(DLA:Def P w K mg base 12 "_law_alike" Zfn Ziy):FnOk P w K mg base ZF 13 f fd Zie (spLk K CR CS):=by
 refine F.ok scLk (fun vs H Q E h=>?_) (fun cdv A outer s H vs Q E hr h=>?_)
 · obtain ⟨NS,XS,U,p,r,sl,nl,l2,pls,nds,tabs,n,Δ,rfl,_⟩:=h;rfl
 obtain ⟨NS,XS,U,p,r,sl,nl,l2,pls,nds,tabs,n,Δ,rfl,S,hn,hw,ok,hpl,hX1,hX2,hU,hUl,q⟩:=h
 have hr1:=hr.mono (show 1≤12 by decide)
 refine' ⟨?t,?h,?r⟩
 case h =>
   conv=>arg 2;whnf
   with_reducible refine' (Ze ?h1 (Ze ?h2 (Ze ?h3 (Ze ?h4 (Ze (Yb ?h5 (Zi ?h6) ZR) (Ze (WY ?h7 ?h8 ?h9 ?h10 (Ze ?h11 (Zi (Yb ?h12 (Zi ?h13) ZR))) ?h14) (Ze ?h15 (Zi ?h16))))))))
   case h1=>exact Zx (i:=5) scLk.nd rfl (Or.inl rfl) (Zz DT hr1 (Zb (pv 0) (Zb (Zu ZE rfl T.len PySem.boot_len (Zb (pv 2) Za)) Za)))
   case h2=>exact Zdd (i:=6) (j:=7) rfl scLk.nd rfl rfl (by decide) rfl rfl (Zb (Zm Zt (pv 3) (Zz DT hr1 (Zb (pv 0) (Zb (Zu ZE rfl T.len PySem.boot_len (Zb (pv 3) Za)) Za))) (fun _ _=>rfl)) (Zb (Zm Zt (pv 3) (Zz DT hr1 (Zb (pv 0) (Zb (Zu ZE rfl T.len PySem.boot_len (Zb (pv 3) Za)) Za))) (fun _ _=>rfl)) Za)) rfl
   case h3=>exact XA (Zz DPp hr (Zb (pv 2) (Zb (pv 5) (Zb (pv 6) Za)))) (Ww rfl (Yk (ZO (i:=8) scLk.nd rfl (Or.inl rfl)) (Yk (ZO (i:=9) scLk.nd rfl (Or.inl rfl)) XQ)))
   case h4=>exact Zx (i:=10) scLk.nd rfl (Or.inl rfl) (Zz D_look_paper hr (Zb (pv 1) (Zb (pv 5) (Zb (pv 6) Za))))
   case h5=>exact PW.pt (UK (Xg (YI (Zu YK rfl T.isinstance (by decide +kernel) (Zb (pv 10) (Zb (YW rfl T.tuple (by decide +kernel) (v:=.ty "tuple") rfl) Za))))) (UK (ZJ (Zlv hr.units) (pv 10) (pv 8) (ZC _)) (UA (YI (Zu (ZhL rfl) rfl T.any (by decide +kernel) (Zb (XM (CompOk.of nLk s_l_look_right rfl rfl (by decide +kernel)) rfl (Vy (pv 10))  (fun _ _ _ _ _=>Zu (Zgc (K:=K) rfl) rfl T.isinstance (by decide +kernel) (Zb (pv 15) (Zb (YW rfl T.bool (by decide +kernel) (v:=.ty "bool") rfl) Za)))) Za))))))
   case h6=>exact Zk Wz
   case h7=>exact PassesOwn.never
   case h8=>exact rfl
   case h9=>exact VH (Zw Zaw (pv 4) (Yj (Zb Xy (Zb (pv 9) (Zb (Ye ZfS rfl T.str (by decide +kernel) (Zb (pv 9) Za)) (Zb Zd (Zb ZH Za)))))))
   case h10=>exact ZO (i:=11) scLk.nd rfl (Or.inl rfl)
   case h11=>exact Zx (i:=12) scLk.nd rfl (Or.inl rfl) (Zz D_shows_look hr (Zb (pv 1) (Zb (pv 5) (Zb (pv 6) (Zb (pv 11) (Zb (pv 10) Za))))))
   case h12=>exact PW.pt (UK (Xg (YI (Zu YK rfl T.isinstance (by decide +kernel) (Zb (pv 12) (Zb (YW rfl T.bool (by decide +kernel) (v:=.ty "bool") rfl) Za))))) (UA (ZJ ZaD (pv 12) (Zz DLA hr (Zb (pv 11) (Zb (pv 9) Za))) (ZC _))))
   case h13=>exact Zk Wz
   case h14=>exact fun _=>rfl
   case h15=>exact XA (Zz DPp hr (Zb (pv 2) (Zb (pv 5) (Zb (pv 7) Za)))) (Ww rfl (Yk (ZO (i:=13) scLk.nd rfl (Or.inl rfl)) (Yk (ZO (i:=14) scLk.nd rfl (Or.inl rfl)) XQ)))
   case h16=>exact Zk (Yl Yh (Zz D_shows_look hr (Zb (pv 1) (Zb (pv 5) (Zb (pv 7) (Zb (pv 14) (Zb (pv 10) Za)))))) (Yl (ZcH hr.units) (pv 13) (pv 8) (ZC _)) (ZC _))
 obtain ⟨ys,ey,hyl⟩:=S.isl sl (inferInstance:IsLst (StopL pls) (pls.length+1))
 refine ⟨_,rfl,_,rfl,sl,_,rfl,.inl (SqL.of ey),p,_,_,_,rfl,S,by omega,by omega,by omega,fun k1 H1 b0 b1 S1=>?_⟩
 obtain ⟨k,rfl⟩:∃ k:Nat,k1=(k:Int):=⟨k1.toNat,by omega⟩
 have hk:k≤pls.length:=by omega
 refine ⟨_,rfl,_,rfl,_,rfl,nl,_,rfl,.inl (SqL.of (S1.get nl)),p,_,_,_,rfl,S1,by omega,by rw [List.length_map];omega,by rw [List.length_map];omega,fun k2 H2 d0 d1 S2=>?_⟩
 rw [List.length_map] at d1
 obtain ⟨x,hx,hat⟩:=Zax (f:=V.str) d0 d1
 refine ⟨nl,_,_,_,rfl,rfl,SqL.of (S2.get nl),hat,?_⟩
 refine ⟨_,rfl,_,rfl,_,rfl,nl,_,rfl,.inl (SqL.of (S2.get nl)),p,_,_,_,rfl,S2,by omega,by rw [List.length_map];omega,by rw [List.length_map];omega,fun k3 H3 f0 f1 S3=>?_⟩
 rw [List.length_map] at f1
 obtain ⟨y,hy,hat2⟩:=Zax (f:=V.str) f0 f1
 refine ⟨nl,_,_,_,rfl,rfl,SqL.of (S3.get nl),hat2,_,_,rfl,?_⟩
 refine ⟨_,rfl,_,rfl,_,rfl,sl,pls,k,x,rfl,S3.get sl,hw,hk,by omega,fun t tp H4 s4 et etp=>?_⟩
 refine ⟨t,_,rfl,SqT.of et,rfl,_,_,rfl,_,_,rfl,rfl,?_⟩
 have S4:=S3.mono s4
 refine ⟨_,rfl,_,rfl,_,rfl,r,pls,nds,tabs,k,x,rfl,S4.get r,hw,hk,by omega,fun t2 H5 s5 et2=>?_⟩
 have etp5:=s5 _ _ etp
 have plen:=Zbz pls x k
 refine ⟨_,rfl,_,_,_,_,rfl,.tup et2,rfl,_,rfl,ZB ?_⟩
 obtain ⟨z1,z2,z3⟩:=WA et2
 obtain ⟨y1,y2,y3⟩:=WA etp5
 refine ⟨_,rfl,_,rfl,_,_,z1,y1,z2,y2,z3,_,rfl,?_⟩
 rw [SeqAt.eqv_refl _ z2]
 clear z1 z2 z3 y1 y2 y3
 refine ZB ⟨_,rfl,t2,rfl,⟨_,SqT.of et2⟩,fun D2 hD2=>?_⟩
 refine Zab (K:=K) (xs:=(paper pls x k).map nV) (Yp (show _≤20000 by rw [List.length_map];omega)) (fun i ys H'=>Same H5 H'∧H' D2=some (.lst ys)∧ys=(List.replicate i false).map V.bl) ⟨Zp hD2 _,Zg,rfl⟩ ?_ ?_ ?_
 · rintro i ys H' ⟨s6,_,rfl⟩;exact ⟨by simp,SqT.of (s6 _ _ et2)⟩
 · rintro i v ys H' hv ⟨s6,eD2,rfl⟩
   rw [List.getElem?_map] at hv
   obtain ⟨y,ey,rfl⟩:=Option.map_eq_some_iff.mp hv
   refine ⟨_,rfl,_,_,_,false,rfl,.int _,rfl,eD2,fun b o q=>?_,Zg,?_⟩
   · rw [Zh (Zn q hD2)];exact s6 _ _ q
   · rw [List.replicate_succ',List.map_append];rfl
 rintro ys H6 ⟨s6,eD2,rfl⟩
 refine ⟨D2,_,rfl,SqL.of eD2,_,rfl,?_⟩
 rw [show ∀ k,(List.replicate k false).any id=false from fun k=>by simp]
 refine ZB ?_
 have s56:=s5.trans s6
 have S6:=S4.mono s56
 have et2:=s6 _ _ et2
 have etp:=s56 _ _ etp
 have hwI:=ZcG (x:=x) hw hk ok
 refine ⟨_,rfl,_,rfl,_,rfl,_,rfl,Zkn hwI,fun z=>⟨(by show 5≤sizeLine;decide),fun lv hlv=>?_⟩⟩
 have s7:=Zp hlv (.lst [.non,Yn pls x k,.str z,.int 0,.str "0"])
 refine ⟨l2,lv,_,_,rfl,rfl,s7 _ _ (S6.get l2),Zg,Yp (show U.length+5≤1000 by omega),fun lw hlw=>⟨lw,rfl,⟨_,SqL.of Zg⟩,?_⟩⟩
 have s8:=Zp hlw (.lst (U++[.non,Yn pls x k,.str z,.int 0,.str "0"]))
 have hNv:∀ v∈U++[.non,Yn pls x k,.str z,.int 0,.str "0"],NvV v:=fun v hv=>by
   rcases List.mem_append.mp hv with h | h
   · exact ZbW (.inr (hU v h))
   · rcases List.mem_cons.mp h with rfl | h
     · exact .inl rfl
     rcases List.mem_cons.mp h with rfl | h
     · exact ZbW hwI
     rcases List.mem_cons.mp h with rfl | h
     · exact .inr (.inr ⟨_,rfl⟩)
     rcases List.mem_cons.mp h with rfl | h
     · exact .inr (.inl ⟨_,rfl⟩)
     rw [List.mem_singleton.mp h];exact .inr (.inr ⟨_,rfl⟩)
 refine Zdp (K:=K) (xs:=U++[.non,Yn pls x k,.str z,.int 0,.str "0"]) (fun _ σ H'=>∃ x11 x12,σ=[some (.ref p),some (.ref r),some (.ref sl),some (.ref nl),some (.ref l2),some (.int (k:Int)),some (.str x),some (.str y),some (.ref tp),some (Yn pls x k),some (.ref t2),x11,x12,none,none]∧Same H6 H'∧H' lw=some (.lst (U++[.non,Yn pls x k,.str z,.int 0,.str "0"]))) ⟨_,_,rfl,s7.trans s8,Zg⟩ ?_ ?_ ?_
 · rintro i σ H' _ ⟨_,_,rfl,_,e⟩;exact SqL.of e
 · rintro i v σ H' hv ⟨x11,x12,rfl,s9,ew⟩
   have hv:=hNv v (List.mem_of_getElem? hv)
   refine ⟨_,rfl,_,rfl,_,rfl,_,rfl,_,rfl,NS,r,t2,pls,nds,tabs,k,x,v,paper pls x k,rfl,(S6.mono s9).get r,hw,ok,hk,by omega,hv,s9 _ _ et2,by omega,fun H8 s8=>?_⟩
   refine ⟨_,rfl,_,_,_,_,rfl,.bl _,rfl,_,rfl,ZB ⟨_,rfl,_,rfl,_,rfl,v,Yn pls x k,rfl,hv,ZbW hwI,rfl,_,rfl,Zmb ?_ ?_⟩⟩
   · rw [decide_eq_true rfl,Bool.true_and]
     by_cases e:Yn pls x k=v
     · rw [decide_eq_true e,decide_eq_true e.symm]
     · rw [decide_eq_false e,decide_eq_false (fun q=>e q.symm)]
   · exact ⟨_,_,rfl,s9.trans s8,s8 _ _ ew⟩
 · rintro σ H7 ⟨x11,x12,rfl,s9,_⟩
   have S7:=S6.mono s9
   refine ⟨_,rfl,_,rfl,_,rfl,sl,pls,k,y,rfl,S7.get sl,hw,hk,by omega,fun t' tp' H8 s10 et' etp'=>⟨t',_,rfl,SqT.of et',rfl,_,_,rfl,_,_,rfl,rfl,?_⟩⟩
   have S8:=S7.mono s10
   refine ⟨_,rfl,_,rfl,_,rfl,_,rfl,_,rfl,NS,r,t2,pls,nds,tabs,k,y,Yn pls y k,paper pls x k,rfl,S8.get r,hw,ok,hk,by omega,Zea hw hk ok,s10 _ _ (s9 _ _ et2),by omega,fun H9 s11=>?_⟩
   obtain ⟨z1,z2,z3⟩:=WA (s11 _ _ etp')
   obtain ⟨y1,y2,y3⟩:=WA (s11 _ _ (s10 _ _ (s9 _ _ etp)))
   refine ⟨_,rfl,_,rfl,_,_,z1,y1,z2,y2,z3,rfl,?_⟩
   rw [PyData.eqv,Zao,decide_eq_true (rfl:Yn pls y k=Yn pls y k),Bool.and_true]
   have e:decide (paper pls x k=paper pls y k)=decide (paper pls y k=paper pls x k):=by
     by_cases e:paper pls x k=paper pls y k
     · rw [decide_eq_true e,decide_eq_true e.symm]
     · rw [decide_eq_false e,decide_eq_false (fun q=>e q.symm)]
   rw [e,decide_eq_true rfl]
   exact q H9 (S8.mono s11)
end
end K25
set_option maxHeartbeats 4000000
namespace K25
open PySem L2
theorem Zgw {r:Int}(h0:0≤r)(h1:r < 26):YG a26.cps.toList r=some (97+r.toNat):=by
 have all:∀ k,k < 26→a26.cps.toList[k]?=some (97+k):=by decide +kernel
 exact ZaU h0 (all r.toNat (by omega))
def nmZ (stem:Str)(at' z:Int):Str:=Txt.slice stem none (some at')++(⟨#[97+(z / 26).toNat]⟩:Str)++(⟨#[97+(z % 26).toNat]⟩:Str)++Txt.slice stem (some at') none
theorem Zka {stem:Str}{at' y z:Int}(h:nmZ stem at' y=nmZ stem at' z)(y0:0≤y)(y1:y < 676)(z0:0≤z)(z1:z < 676):y=z:=by
 have e:(nmZ stem at' y).cps.toList=(nmZ stem at' z).cps.toList:=by rw [h]
 unfold nmZ at e
 simp only [Vv,List.append_assoc] at e
 have e2:=List.append_cancel_left e
 have e3:=(List.cons.inj (show (97+(y / 26).toNat)::(97+(y % 26).toNat)::_=(97+(z / 26).toNat)::(97+(z % 26).toNat)::_ from e2))
 have e4:=(List.cons.inj e3.2).1
 have e5:=e3.1
 omega
def ZcA:Sp:=fun vs H Q _=>∃(p:Addr)(n:Nat)(many:Int)(Δ:Rs),vs=[.ref p,.int many]∧Sep ((p,Bx n)::Δ) H∧n≤900000∧0≤many∧many≤100 ∧
 ∀ (l:Addr) (H':Hp) (xs:List Str),Sep ((l,Yc (xs.map V.str))::(p,Bx (n+20))::Δ) H'→xs.length=many.toNat→(∀ x∈xs,Wr x∧2≤x.length)→(2≤many→∃ u v,u∈xs∧v∈xs∧u≠v)→Q (.ref l) H'
section
variable {P:Program}{w:World}{K:PySem.W.Frag}{mg:Str→Option Value}{base:Heap}
abbrev nNm:List Str:=["_law_box_here","_law_many","_law_letters","_law_size","_law_stem","_law_first","_law_step_here","_law_at","_law_found","_law_k","_law_one","_law_other"]
abbrev Zhu:List Str:=["_law_box_here","_law_many"]
theorem scNm:Zq nNm Zhu (Zj s_l_names):=⟨rfl,rfl,rfl,by decide +kernel,rfl,by decide +kernel,by decide +kernel⟩
theorem ZgW {f:Addr}{fd:FuncData}(F:Fun K "_law_names" "_law_names" s_l_names f fd)(T:ZY mg)(DT:DTk P w K mg base 1):FnOk P w K mg base ZF 2 f fd Zhu ZcA:=by
 refine F.ok scNm (fun vs H Q E h=>?_) (fun cdv A outer s H vs Q E hr h=>?_)
 · obtain ⟨p,n,many,Δ,rfl,_⟩:=h;rfl
 obtain ⟨p,n,many,Δ,rfl,S,hn,h0,h1,q⟩:=h
 have hr1:=hr
 refine' ⟨?t,?h,?r⟩
 case h =>
   conv=>arg 2;whnf
   with_reducible refine' (Ze ?h1 (Ze ?h2 (Ze ?h3 (Ze ?h4 (Ze (WY ?h5 ?h6 ?h7 ?h8 (Ze ?h9 (Zi ?h10)) ?h11) (Zi ?h12))))))
   case h1=>exact XA (YM (Zb ZH (Zb (Zw YC Zd (Zz DT hr1 (Zb (pv 0) (Zb Zd Za)))) Za))) (Ww rfl (Yk (ZO (i:=2) scNm.nd rfl (Or.inr rfl)) (Yk (ZO (i:=3) scNm.nd rfl (Or.inl rfl)) XQ)))
   case h2=>exact Zx (i:=4) scNm.nd rfl (Or.inl rfl) (YS PySem.F.plainAttrs_str PySem.F.slot_str_join PySem.F.type_str_join Zet ZH (Zb (XM (CompOk.of nNm s_l_names rfl rfl (by decide +kernel)) rfl (YN rfl T.range (Zb (Zw YA (pv 3) Zd) Za))  (fun _ _ _ _ _=>Zm Wq (pv 2) (Zz DT hr1 (Zb (pv 0) (Zb Zd Za))) (fun _ _=>rfl))) Za))
   case h3=>exact ZjG (i:=5) (j:=6) (k:=7) rfl scNm.nd rfl rfl rfl (by decide) (by decide) (by decide) rfl rfl rfl (Zb (Zz DT hr1 (Zb (pv 0) (Zb Zd Za))) (Zb (Zm Zt (Yj (Zb Zd (Zb Zd (Zb Zd (Zb Zd Za))))) (Zz DT hr1 (Zb (pv 0) (Zb Zd Za))) (fun _ _=>rfl)) (Zb (Zz DT hr1 (Zb (pv 0) (Zb (Zw YA (pv 3) Zd) Za))) Za))) rfl
   case h4=>exact Zx (i:=8) scNm.nd rfl (Or.inl rfl) (Yj Za)
   case h5=>exact PassesOwn.never
   case h6=>exact rfl
   case h7=>exact YN rfl T.range (Zb (pv 1) Za)
   case h8=>exact ZO (i:=9) scNm.nd rfl (Or.inl rfl)
   case h9=>exact XA (Zu ZdB rfl T.divmod (by decide +kernel) (Zb (Zw Xn (Zw YC (pv 5) (Zw Wt (pv 6) (pv 9))) Zd) (Zb Zd Za))) (Ww rfl (Yk (ZO (i:=10) scNm.nd rfl (Or.inl rfl)) (Yk (ZO (i:=11) scNm.nd rfl (Or.inl rfl)) XQ)))
   case h10=>exact Yg (YS PySem.F.plainAttrs_list PySem.F.slot_list_append PySem.F.type_list_append Yf (pv 8) (Zb (Zw XV (Zw XV (Zw XV (Wm Zcx (pv 4) WF (WH (pv 7))) (Zm Wq (pv 2) (pv 10) (fun _ _=>rfl))) (Zm Wq (pv 2) (pv 11) (fun _ _=>rfl))) (Wm Zcx (pv 4) (WH (pv 7)) WF)) Za))
   case h11=>exact fun _=>rfl
   case h12=>exact Zk (pv 8)
 refine ⟨_,rfl,p,_,7,_,rfl,S,by omega,by decide,by decide,fun r1 H1 a0 a1 S1=>⟨_,_,rfl,rfl,(by show 2≤sizeLine;decide),fun t ht=>⟨t,_,rfl,SqT.of Zg,rfl,_,_,rfl,_,_,rfl,rfl,?_⟩⟩⟩
 generalize hE:upd H1 t _=H2
 have S2:=(S1.newE ht hE).tail
 clear hE
 refine ⟨rfl,_,rfl,_,_,rfl,rfl,_,rfl,by omega,by omega,fun D hD=>?_⟩
 have e1:(2+r1 - 2).toNat=r1.toNat:=by omega
 rw [e1]
 refine Uo (Yp (show r1.toNat≤1000 by omega)) S2 hD (fun i ys Δ'=>∃ zs:List Str,ys=zs.map V.str∧(∀ z∈zs,∃ c,z=⟨#[c]⟩∧UU c=true)∧Δ'=(p,Bx (n+1+i))::Δ) ⟨[],rfl,(fun _ h=>nomatch h),rfl⟩ ?_ ?_
 · rintro i ys Δ' H' hi hl ⟨zs,rfl,hz,rfl⟩ S'
   refine ⟨_,rfl,_,rfl,p,_,26,_,rfl,S'.pull p,by omega,by decide,by decide,fun r3 H3 b0 b1 S3=>?_⟩
   obtain ⟨c,hc,hcl⟩:=Wg (x:=a26) Uw b0 (by rw [YZ];exact b1)
   refine ⟨a26,r3,c,rfl,rfl,by rw [YZ];decide,hc,_,⟨zs++[⟨#[c]⟩],by rw [List.map_append];rfl,?_,rfl⟩,S3.pull D⟩
   intro z hz'
   rcases List.mem_append.mp hz' with h | h
   · exact hz z h
   · rw [List.mem_singleton.mp h];exact ⟨c,rfl,hcl⟩
 rintro ys Δ' H3 ⟨zs,rfl,hz,rfl⟩ hl S3
 rw [List.length_map] at hl
 obtain ⟨g1,g2,g3⟩:=ZfC hz
 refine ⟨_,D,zs,rfl,rfl,SqL.of (S3.get D),by omega,?_⟩
 have S4:=S3.tail
 generalize Txt.join (Str.ofString "") zs=stem at *
 refine ⟨_,rfl,p,_,676,_,rfl,S4,by omega,by decide,by decide,fun r5 H5 b0 b1 S5=>⟨(by show 4≤sizeLine;decide),fun l hl4=>?_⟩⟩
 generalize hE:upd H5 l _=H6
 have S6:=S5.newE hl4 hE
 clear hE
 refine ⟨_,rfl,p,_,4,_,rfl,S6.pull p,by omega,by decide,by decide,fun r7 H7 c0 c1 S7=>?_⟩
 obtain ⟨sv,hsm,hsv⟩:=Zem (xs:=[.int 1,.int 27,.int 5,.int 251]) c0 c1
 obtain ⟨stp,rfl,hst⟩:∃ z:Int,sv=.int z∧1≤z∧z≤251:=by
   simp only [List.mem_cons,List.not_mem_nil,or_false] at hsm
   rcases hsm with rfl | rfl | rfl | rfl<;>exact ⟨_,rfl,by decide,by decide⟩
 refine ⟨l,_,_,_,rfl,rfl,SqL.of (S7.get l),hsv,?_⟩
 have S8:=S7.drop l
 refine ⟨_,rfl,_,rfl,_,_,rfl,rfl,p,_,_,_,rfl,S8,by omega,by omega,by omega,fun r9 H9 d0 d1 S10=>⟨_,_,_,rfl,?_⟩⟩
 refine ⟨(by show 0≤sizeLine;decide),fun fl hfl=>?_⟩
 generalize hE:upd H9 fl _=H11
 have S11:=S10.newE hfl hE
 clear hE
 refine ⟨_,rfl,many,rfl,by omega,by omega,?_⟩
 refine Vx (fun i σ H'=>∃ x9 x10 x11 xs,σ=[some (.ref p),some (.int many),some (.str a26),some (.int (2+r1)),some (.str stem),some (.int r5),some (.int stp),some (.int r9),some (.ref fl),x9,x10,x11]∧Sep ((fl,Yc (xs.map V.str))::(p,Bx (n+20))::Δ) H'∧xs.length=i∧(∀ x∈xs,Wr x∧2≤x.length)∧∀ j:Nat,j < i→xs[j]?=some (nmZ stem r9 ((r5+stp * (0+(j:Int))) % 676)))
   ⟨_,_,_,[],rfl,(S11.pull p).le (by omega) |>.pull fl,rfl,(fun _ h=>nomatch h),fun j h=>absurd h (by omega)⟩ ?_ ?_
 · rintro i σ H' hi ⟨x9,x10,x11,xs,rfl,S',hxl,hxs,hxj⟩
   have hb:0≤stp * (0+(i:Int)):=Int.mul_nonneg (by omega) (by omega)
   refine ⟨_,rfl,_,rfl,_,rfl,_,_,rfl,rfl,.inl ⟨by omega,by omega⟩,_,_,rfl,rfl,_,_,rfl,rfl,(by show (0:Int) < 676;decide),?_⟩
   obtain ⟨z,hz⟩:∃ z:Int,(r5+stp * (0+(i:Int))) % 676=z:=⟨_,rfl⟩
   have hz0:0≤z:=by rw [← hz];exact Int.emod_nonneg _ (by decide)
   have hz1:z < 676:=by rw [← hz];exact Int.emod_lt_of_pos _ (by decide)
   refine ⟨z,26,congrArg (fun y=>[V.int y,V.int 26]) hz,⟨by decide,by decide⟩,fun t2 ht2=>⟨t2,_,rfl,SqT.of Zg,rfl,_,_,rfl,_,_,rfl,rfl,?_⟩⟩
   generalize hE:upd H' t2 _=H12
   have S12:=(S'.newE ht2 hE).tail
   clear hE
   obtain ⟨c1',hc1,hcl1⟩:=Wg (x:=a26) Uw (r:=z / 26) (by omega) (by rw [YZ];omega)
   obtain ⟨c2',hc2,hcl2⟩:=Wg (x:=a26) Uw (r:=z % 26) (by omega) (by rw [YZ];omega)
   have ec1:c1'=97+(z / 26).toNat:=Option.some.inj (hc1.symm.trans (Zgw (by omega) (by omega)))
   have ec2:c2'=97+(z % 26).toNat:=Option.some.inj (hc2.symm.trans (Zgw (by omega) (by omega)))
   have enm:Txt.slice stem none (some r9)++(⟨#[c1']⟩:Str)++(⟨#[c2']⟩:Str)++Txt.slice stem (some r9) none=nmZ stem r9 z:=by rw [ec1,ec2];rfl
   have hsl:=ZfA (x:=stem) d0 (by omega)
   refine ⟨_,rfl,.inl ⟨rfl,_,SqL.of (S12.get fl)⟩,_,rfl,_,rfl,r9,rfl,stem,rfl,Yp (show stem.length≤1000 by omega),_,rfl,_,rfl,a26,_,c1',rfl,rfl,by rw [YZ];decide,hc1,_,_,rfl,rfl,Yp (show _≤1000 by rw [YF];omega),?_⟩
   refine ⟨_,rfl,_,rfl,a26,_,c2',rfl,rfl,by rw [YZ];decide,hc2,_,_,rfl,rfl,Yp (show _≤1000 by rw [Xo,YF,YF];omega),_,rfl,_,rfl,r9,rfl,stem,rfl,Yp (show stem.length≤1000 by omega),_,_,rfl,rfl,Yp (show _≤1000 by rw [Xo,Xo,YF,YF];omega),?_⟩
   refine ⟨fl,_,_,rfl,rfl,S12.get fl,YT (show _≤1000 by rw [List.length_map];omega),?_⟩
   have S13:=S12.put fl (.lst (xs.map V.str++[.str (Txt.slice stem none (some r9)++(⟨#[c1']⟩:Str)++(⟨#[c2']⟩:Str)++Txt.slice stem (some r9) none)]))
   refine ⟨_,_,_,xs++[Txt.slice stem none (some r9)++(⟨#[c1']⟩:Str)++(⟨#[c2']⟩:Str)++Txt.slice stem (some r9) none],rfl,by rw [List.map_append];exact S13,by simp [hxl],fun x hx=>?_,fun j hj=>?_⟩
   · rcases List.mem_append.mp hx with h | h
     · exact hxs x h
     · rw [List.mem_singleton.mp h]
       refine ⟨⟨?_,?_,WP (WP (WP (UQ g3) (UP hcl1)) (UP hcl2)) (UQ g3)⟩,?_⟩<;>(rw [Xo,Xo,Xo,YF,YF];omega)
   · rw [enm]
     by_cases hji:j < i
     · rw [List.getElem?_append_left (by omega)];exact hxj j hji
     · have:j=i:=by omega
       subst this
       rw [List.getElem?_append_right (by omega),hxl,Nat.sub_self,hz];rfl
 · rintro σ H' ⟨x9,x10,x11,xs,rfl,S',hxl,hxs,hxj⟩
   refine ⟨_,rfl,q fl H' xs S' hxl hxs fun h2=>?_⟩
   have g0:=hxj 0 (by omega)
   have g1':=hxj 1 (by omega)
   refine ⟨_,_,List.mem_of_getElem? g0,List.mem_of_getElem? g1',fun z=>?_⟩
   have:=Zka z (Int.emod_nonneg _ (by decide)) (Int.emod_lt_of_pos _ (by decide)) (Int.emod_nonneg _ (by decide)) (Int.emod_lt_of_pos _ (by decide))
   have e0:stp * (0+((0:Nat):Int))=0:=by simp
   have e1':stp * (0+((1:Nat):Int))=stp:=by simp
   rw [e0,e1'] at this
   omega
end
end K25
set_option maxHeartbeats 4000000
namespace K25
open PySem L2
def ZdV:Sp:=fun vs H Q _=>∃(p:Addr)(n:Nat)(many:Int)(Δ:Rs),vs=[.ref p,.int many]∧Sep ((p,Bx n)::Δ) H∧n≤800000∧1≤many∧many≤40 ∧
 ∀ (l:Addr) (H':Hp) (xs:List Str),Sep ((l,Yc (xs.map V.str))::(p,Bx (n+100))::Δ) H'→1≤xs.length→(xs.length:Int)≤many→xs.Nodup→(∀ x∈xs,Wr x)→(2≤many→2≤xs.length)→Q (.ref l) H'
theorem Zjz {α:Type}{l:List α}{u v:α}(hu:u∈l)(hv:v∈l)(h:u≠v):2≤l.length:=by
 match l,hu,hv with
 | [a],hu,hv=>exact absurd ((List.mem_singleton.mp hu).trans (List.mem_singleton.mp hv).symm) h
 | _::_::_,_,_=>simp only [List.length_cons];omega
section
variable {P:Program}{w:World}{K:PySem.W.Frag}{mg:Str→Option Value}{base:Heap}
abbrev nPo:List Str:=["_law_box_here","_law_many","_law_letters","_law_found","_law_name","_law_one","_law_other","_law_twin"]
abbrev ZhW:List Str:=["_law_box_here","_law_many"]
theorem scPo:Zq nPo ZhW (Zj s_l_pool):=⟨rfl,rfl,rfl,by decide +kernel,rfl,by decide +kernel,by decide +kernel⟩
theorem Zke {f:Addr}{fd:FuncData}(F:Fun K "_law_pool" "_law_pool" s_l_pool f fd)(T:ZY mg)(DT:DTk P w K mg base 1)(DN:Def P w K mg base 2 "_law_names" Zhu ZcA):FnOk P w K mg base ZF 3 f fd ZhW ZdV:=by
 refine F.ok scPo (fun vs H Q E h=>?_) (fun cdv A outer s H vs Q E hr h=>?_)
 · obtain ⟨p,n,many,Δ,rfl,_⟩:=h;rfl
 obtain ⟨p,n,many,Δ,rfl,S,hn,h0,h1,q⟩:=h
 have hr1:=hr.mono (show 1≤2 by decide)
 refine' ⟨?t,?h,?r⟩
 case h =>
   conv=>arg 2;whnf
   with_reducible refine' (Ze ?h1 (Ze (WY ?h2 ?h3 ?h4 ?h5 (Ze ?h6 (Ze ?h7 (Zi ?h8))) ?h9) (Zi ?h10)))
   case h1=>exact XA (YM (Zb ZH (Zb (Yj Za) Za))) (Ww rfl (Yk (ZO (i:=2) scPo.nd rfl (Or.inl rfl)) (Yk (ZO (i:=3) scPo.nd rfl (Or.inr rfl)) XQ)))
   case h2=>exact PassesOwn.never
   case h3=>exact rfl
   case h4=>exact VH (Zz DN hr (Zb (pv 0) (Zb (pv 1) Za)))
   case h5=>exact ZO (i:=4) scPo.nd rfl (Or.inl rfl)
   case h6=>exact Zdd (i:=5) (j:=6) rfl scPo.nd rfl rfl (by decide) rfl rfl (Zb (Zw YC (YS PySem.F.plainAttrs_str PySem.F.slot_str_index PySem.F.type_str_index Zda (pv 2) (Zb (Zm Wq (pv 4) Zd (fun _ _=>rfl)) Za)) Zd) (Zb (Zw YA (YS PySem.F.plainAttrs_str PySem.F.slot_str_index PySem.F.type_str_index Zda (pv 2) (Zb (Zm Wq (pv 4) Zd (fun _ _=>rfl)) Za)) Zd) Za)) rfl
   case h7=>exact Zx (i:=7) scPo.nd rfl (Or.inl rfl) (Zw XV (Zw XV (Zm Wq (pv 2) (Zw Xn (pv 5) Zd) (fun _ _=>rfl)) (Zm Wq (pv 2) (pv 6) (fun _ _=>rfl))) (Wm Zcx (pv 4) (WH Zd) WF))
   case h8=>exact Yg (YS PySem.F.plainAttrs_list PySem.F.slot_list_extend PySem.F.type_list_extend ZgK (pv 3) (Zb (Zw Zaw (Yj (Zb (pv 4) Za)) (Zw ZlM (Yj (Zb (pv 7) Za)) (Ye ZbB rfl T.int (by decide +kernel) (Zb (Xh (Yl VM (pv 5) Zd (ZC _)) (Xh (Yl ZiD (pv 6) Zd (ZC _)) (Xz (Yl Yh (Zz DT hr1 (Zb (pv 0) (Zb Zd Za))) Zd (ZC _))))) Za)))) Za))
   case h9=>exact fun _=>rfl
   case h10=>exact Zk (Wm Zbr (ZgI (xa:="_law_place") (xb:="_law_name") (CompOkT.of nPo s_l_pool rfl rfl (by decide +kernel)) rfl (ZgV rfl T.enumerate (pv 3)) (fun _ _ _ _ _=>Zeq (K:=K) rfl rfl (ZO (i:=8) (show (XY nPo "_law_place" "_law_name"++(["_law_place","_law_name"]:List Str)).Nodup by decide +kernel) rfl (Or.inl rfl) (Or.inr rfl)) (ZO (i:=9) (show (XY nPo "_law_place" "_law_name"++(["_law_place","_law_name"]:List Str)).Nodup by decide +kernel) rfl (Or.inl rfl) (Or.inr rfl))) (fun _ _ _ _ _=>ZJ (ZbU (K:=K) rfl) (pv 9) (Wm (Zht (K:=K) rfl) (pv 3) WF (WH (pv 8))) rfl) (fun _ _ _ _ _=>pv 9)) WF (WH (pv 1)))
 refine ⟨(by show 0≤sizeLine;decide),fun fl hfl=>⟨(by show 2≤sizeLine;decide),fun t ht=>⟨t,_,rfl,SqT.of Zg,rfl,_,_,rfl,_,_,rfl,rfl,?_⟩⟩⟩
 generalize hE:upd (upd H fl _) t _=H1
 have S1:=((S.new hfl _).newE ht hE).tail
 clear hE
 refine ⟨_,rfl,_,rfl,p,_,many,_,rfl,S1.pull p,by omega,by omega,by omega,fun l H2 xs S2 hxl hxs hx2=>?_⟩
 refine ⟨l,rfl,⟨_,SqL.of (S2.get l)⟩,Zdp (xs:=xs.map V.str) (fun j σ H'=>∃ x4 x5 x6 x7 fs,σ=[some (.ref p),some (.int many),some (.str a26),some (.ref fl),x4,x5,x6,x7]∧Sep ((fl,Yc (fs.map V.str))::(l,Yc (xs.map V.str))::(p,Bx (n+20+j))::Δ) H'∧fs.length≤2 * j∧(∀ y∈fs,Wr y)∧(∀ y∈xs.take j,y∈fs)∧j≤xs.length)
   ⟨_,_,_,_,[],rfl,(S2.pull l).pull fl,Nat.le_refl _,(fun _ h=>nomatch h),(fun y h=>by simp at h),Nat.zero_le _⟩ ?_ ?_ ?_⟩
 · rintro j σ H' _ ⟨_,_,_,_,fs,_,S',_⟩;exact SqL.of (S'.get l)
 · rintro j x σ H3 hx ⟨x4,x5,x6,x7,fs,rfl,S3,hfl2,hfs,hne,hj⟩
   have hjl:j < xs.length:=by have:=(List.getElem?_eq_some_iff.mp hx).1;rwa [List.length_map] at this
   obtain ⟨nm,hnm,rfl⟩:=List.mem_map.mp (List.mem_of_getElem? hx)
   obtain ⟨⟨hn1,hn8,hnl⟩,hn2⟩:=hxs nm hnm
   obtain ⟨c0,hc0,hl0⟩:=Wg (x:=nm) hnl (r:=0) (by decide) (by omega)
   obtain ⟨c1,hc1,hl1⟩:=Wg (x:=nm) hnl (r:=1) (by decide) (by omega)
   obtain ⟨f0,f01,f02⟩:=ZfU hl0
   obtain ⟨f1,f11,f12⟩:=ZfU hl1
   obtain ⟨one,hone⟩:∃ z:Int,(c0:Int) - 97+2=z:=⟨_,rfl⟩
   obtain ⟨oth,hoth⟩:∃ z:Int,(c1:Int) - 97 - 1=z:=⟨_,rfl⟩
   refine ⟨_,rfl,rfl,_,rfl,nm,0,c0,rfl,rfl,Yp (show nm.length≤1000 by omega),hc0,a26,_,rfl,rfl,by omega,_,_,rfl,rfl,_,rfl,rfl,_,rfl,nm,1,c1,rfl,rfl,Yp (show nm.length≤1000 by omega),hc1,a26,_,rfl,rfl,by omega,_,_,rfl,rfl,.int one,.int oth,(by show [V.int (Txt.find a26 ⟨#[c0]⟩+2),V.int (Txt.find a26 ⟨#[c1]⟩ - 1)]=_;rw [f0,f1,hone,hoth]),?_⟩
   obtain ⟨d0,hd0,hdl0⟩:=Wg (x:=a26) Uw (r:=one % 26) (by omega) (by rw [YZ];omega)
   obtain ⟨d1,hd1,hdl1⟩:=Zhd (x:=a26) Uw (r:=oth) (by rw [YZ];omega) (by rw [YZ];omega)
   have hsl:(Txt.slice nm (some 2) none).length+2=nm.length:=by
     rw [Yi,Wp,Yi]
     have e3:HT.sIx nm.cps.toList.length 0 (some 2)=min 2 nm.cps.toList.length:=HT.sIx_nat _ _ 2
     have hh:2≤nm.cps.toList.length:=by rw [← Yi];exact hn2
     rw [e3,HT.sIx_none,List.length_take,List.length_drop]
     omega
   refine ⟨_,rfl,_,rfl,_,_,rfl,rfl,(by show (0:Int) < 26;decide),a26,_,d0,rfl,rfl,by rw [YZ];decide,hd0,_,rfl,_,rfl,a26,oth,d1,rfl,rfl,by rw [YZ];decide,hd1,_,_,rfl,rfl,Yp (show _≤1000 by rw [YF,YF];decide),_,rfl,2,rfl,nm,rfl,Yp (show nm.length≤1000 by omega),_,_,rfl,rfl,Yp (show _≤1000 by rw [Xo,YF,YF];omega),?_⟩
   generalize htw:(⟨#[d0]⟩:Str)++(⟨#[d1]⟩:Str)++Txt.slice nm (some 2) none=tw
   have htk:Wr tw:=by
     rw [← htw]
     refine ⟨?_,?_,WP (WP (UP hdl0) (UP hdl1)) (UQ hnl)⟩<;>(rw [Xo,Xo,YF,YF];omega)
   refine ⟨_,rfl,.inl ⟨rfl,_,SqL.of (S3.get fl)⟩,_,rfl,(by show 1≤sizeLine;decide),fun l1 hl1'=>⟨_,rfl,(by show 1≤sizeLine;decide),fun l2 hl2=>?_⟩⟩
   generalize hE:upd (upd H3 l1 _) l2 _=H4
   have S4:=(S3.new hl1' _).newE hl2 hE
   clear hE
   refine ⟨_,rfl,_,_,rfl,rfl,_,rfl,Xx (fun c=>?w1) (fun c=>?w2)⟩
   case' w1=>refine ⟨_,rfl,_,_,rfl,rfl,_,rfl,Xx (fun c=>?w3) (fun c=>?w4)⟩
   case' w3 =>
     refine ⟨_,rfl,p,_,2,_,rfl,S4.pull p,by omega,by decide,by decide,fun r5 H5 b0 b1 S5=>⟨rfl,?_⟩⟩
     obtain ⟨b,hb⟩:∃ b:Bool,decide (V.int r5=V.int 0)=b:=⟨_,rfl⟩
   case' w4 =>
     have S5:=(S4.pull p).le (show n+20+j≤n+20+j+1 by omega)
     obtain ⟨b,hb⟩:∃ b:Bool,false=b:=⟨_,rfl⟩
   case' w2 =>
     have S5:=(S4.pull p).le (show n+20+j≤n+20+j+1 by omega)
     obtain ⟨b,hb⟩:∃ b:Bool,false=b:=⟨_,rfl⟩
   all_goals
     refine .inr ⟨b,congrArg (fun z=>[V.bl z]) hb,?_⟩
     obtain ⟨k0,k1,k2⟩:=Zhm b tw
     refine ⟨l2,_,_,rfl,rfl,S5.get l2,by omega,by omega,Yp (show _≤1000 by show 1 * _≤1000;omega),fun l3 hl3=>?_⟩
     generalize hE:upd _ l3 _=H6
     have S6:=S5.newE hl3 hE
     clear hE
     rw [k2] at S6
     have lb:(if b=true then [tw] else []).length≤1:=by cases b<;>simp
     refine ⟨l1,l3,_,_,rfl,rfl,S6.get l1,S6.get l3,Yp (show [V.str nm].length+((if b=true then [tw] else []).map V.str).length≤1000 by rw [List.length_map];show 1+_≤1000;omega),fun l4 hl4=>?_⟩
     generalize hE:upd _ l4 _=H7
     have S7:=S6.newE hl4 hE
     clear hE
     refine ⟨fl,l4,fs.map V.str,[V.str nm]++(if b=true then [tw] else []).map V.str,rfl,rfl,S7.get fl,S7.get l4,Yp (show _≤1000 by rw [List.length_append,List.length_map,List.length_map];show _+(1+_)≤1000;omega),?_⟩
     have S8:=S7.put fl (.lst (fs.map V.str++([.str nm]++(if b=true then [tw] else []).map V.str)))
     have e8:fs.map V.str++([.str nm]++(if b=true then [tw] else []).map V.str)=(fs++(nm::if b=true then [tw] else [])).map V.str:=by rw [List.map_append];rfl
     refine ⟨_,_,_,_,fs++(nm::if b=true then [tw] else []),rfl,?_,?_,fun y hy=>?_,fun y hy=>?_,hjl⟩
     · rw [← e8];exact ((((S8.drop l4).drop l3).drop l2).drop l1).pull p |>.pull l |>.pull fl
     · rw [List.length_append,List.length_cons];omega
     · rcases List.mem_append.mp hy with z | z
       · exact hfs y z
       · rcases List.mem_cons.mp z with z | z
         · rw [z];exact ⟨hn1,hn8,hnl⟩
         · cases b
           · cases z
           · rw [List.mem_singleton.mp z];exact htk
     · rw [List.take_succ] at hy
       have hxj:xs[j]?=some nm:=by
         rw [List.getElem?_map] at hx
         cases e:xs[j]? with
         | none=>rw [e] at hx;cases hx
         | some w=>rw [e] at hx;cases hx;rfl
       rw [hxj] at hy
       rcases List.mem_append.mp hy with z | z
       · exact List.mem_append_left _ (hne y z)
       · rw [show y=nm from by simpa using z];exact List.mem_append_right _ List.mem_cons_self
 · rintro σ H3 ⟨x4,x5,x6,x7,fs,rfl,S3,hfl2,hfs,hne,hj⟩
   rw [List.length_map] at S3 hfl2 hne
   have S4:=S3.drop l
   refine ⟨_,rfl,fl,_,rfl,S4.get fl,fun D hD=>?_⟩
   refine Zdw (K:=K) (a:=fl) (xs:=fs.map V.str) (Yp (show _≤1000 by rw [List.length_map];omega)) S4 hD (fun i ys Δ'=>ys=(Yu fs i).map V.str∧Δ'=(fl,Yc (fs.map V.str))::(p,Bx (n+20+xs.length))::Δ) ⟨rfl,rfl⟩ ?_ ?_ ?_
   · rintro i ys Δ' H' ⟨_,rfl⟩ S';exact SqL.of (S'.get fl)
   · rintro i x t' ys Δ' H' wa wb hx hyl ⟨rfl,rfl⟩ S'
     obtain ⟨y,hy,rfl⟩:∃ y,fs[i]?=some y∧V.str y=x:=by
       rw [List.getElem?_map] at hx
       cases e:fs[i]? with
       | none=>rw [e] at hx;cases hx
       | some y=>rw [e] at hx;exact ⟨y,rfl,Option.some.inj hx⟩
     refine ⟨t',_,rfl,SqT.of (S'.get t'),rfl,_,_,rfl,_,_,rfl,rfl,⟨_,_,rfl⟩,?_⟩
     refine ⟨_,rfl,_,rfl,_,rfl,_,rfl,fl,_,rfl,SqL.of (S'.get fl),fun sl hsl=>?_⟩
     generalize hE:upd _ sl _=H5
     have S5:=S'.newE hsl hE
     clear hE
     rw [ZcR,← List.map_take] at S5
     refine ⟨sl,_,rfl,.inl (SqL.of (S5.get sl)),rfl,ZfV _,_,rfl,?_⟩
     rw [Zjl]
     have S6:=(S5.drop sl).drop t'
     have ef:Yu fs (i+1)=if y∈fs.take i then Yu fs i else Yu fs i++[y]:=by
       show (match fs[i]? with | some x=>if x∈fs.take i then Yu fs i else Yu fs i++[x] | none=>Yu fs i)=_
       rw [hy]
     by_cases hm:y∈fs.take i
     · rw [decide_eq_true hm]
       rw [if_pos hm] at ef
       exact ZB ⟨_,⟨by rw [ef],rfl⟩,S6⟩
     · rw [decide_eq_false hm]
       rw [if_neg hm] at ef
       exact ZK ⟨_,rfl,_,⟨by rw [ef,List.map_append];rfl,rfl⟩,S6⟩
   · rintro ys Δ' H5 ⟨rfl,rfl⟩ hyl S5
     rw [List.length_map] at S5 hyl
     refine ⟨_,rfl,many,rfl,D,_,rfl,SqL.of (S5.get D),fun r hr'=>?_⟩
     generalize hE:upd _ r _=H6
     have S6:=((S5.newE hr' hE).drop D).drop fl
     clear hE
     rw [show many=((many.toNat:Nat):Int) by omega,ZcR,← List.map_take] at S6
     have hin:∀ y∈xs,y∈fs:=fun y hy=>hne y (by rw [List.take_of_length_le (Nat.le_refl _)];exact hy)
     have hfne:fs≠[]:=fun z=>by
       obtain ⟨y,hy⟩:=List.exists_mem_of_ne_nil xs (List.length_pos_iff.mp (by omega))
       have:=hin y hy
       rw [z] at this;cases this
     have hall:fs.take fs.length=fs:=List.take_of_length_le (Nat.le_refl _)
     have hf1:Yu fs fs.length≠[]:=fun z=>by
       obtain ⟨y,hy⟩:=List.exists_mem_of_ne_nil _ hfne
       have:=(Xe (xs:=fs) fs.length (x:=y)).mpr (by rw [hall];exact hy)
       rw [z] at this;cases this
     refine q r H6 _ ((S6.pull p).le (by omega) |>.pull r) ?_ ?_ (List.Sublist.nodup (List.take_sublist _ _) (Ue _)) (fun y hy=>hfs y ?_) fun h2=>?_
     · rw [List.length_take];have:=List.length_pos_iff.mpr hf1;omega
     · rw [List.length_take];omega
     · have:=(Xe fs.length).mp (ZdE hy)
       rw [hall] at this;exact this
     · obtain ⟨u,v,hu,hv,huv⟩:=hx2 h2
       have m:∀ y∈xs,y∈Yu fs fs.length:=fun y hy=>(Xe (xs:=fs) fs.length (x:=y)).mpr (by rw [hall];exact hin y hy)
       have:=Zjz (m u hu) (m v hv) huv
       rw [List.length_take];omega
end
end K25
set_option maxHeartbeats 4000000
namespace K25
open PySem L2
section
variable {P:Program}{w:World}{K:PySem.W.Frag}{mg:Str→Option Value}{base:Heap}
abbrev nVs:List Str:=["_law_box_here"]
abbrev Zii:List Str:=["_law_box_here"]
theorem scVs:Zq nVs Zii (Zj s_l_values):=⟨rfl,rfl,rfl,by decide +kernel,rfl,by decide +kernel,by decide +kernel⟩
theorem ZgB {f:Addr}{fd:FuncData}(F:Fun K "_law_values" "_law_values" s_l_values f fd)(T:ZY mg)(DV:Def P w K mg base 2 "_law_value" ["_law_box_here"] VW):FnOk P w K mg base ZF 3 f fd Zii ZcZ:=by
 refine F.ok scVs (fun vs H Q E h=>?_) (fun cdv A outer s H vs Q E hr h=>?_)
 · obtain ⟨p,n,Δ,rfl,_⟩:=h;rfl
 obtain ⟨p,n,Δ,rfl,S,hn,q⟩:=h
 refine' ⟨?t,?h,?r⟩
 case h =>
   conv=>arg 2;whnf
   with_reducible refine' (Zi ?h1)
   case h1=>exact Zk (Zw Zaw (XM (CompOk.of nVs s_l_values rfl rfl (by decide +kernel)) rfl (YN rfl T.range (Zb Zd Za))  (fun _ _ _ _ _=>Zz DV hr (Zb (pv 0) Za))) (Yj (Zb Zd (Zb ZH Za))))
 refine ⟨3,rfl,by decide,by decide,fun D hD=>?_⟩
 refine Uo (by decide) S hD (fun i ys Δ'=>(∀ u∈ys,YR u)∧Δ'=(p,Bx (n+50 * i))::Δ) ⟨(fun _ h=>nomatch h),rfl⟩ ?_ ?_
 · rintro i ys Δ' H' hi hl ⟨hy,rfl⟩ S'
   have hi3:i < 3:=hi
   refine ⟨_,rfl,p,_,_,rfl,S'.pull p,by omega,fun v H2 hv S2=>⟨_,⟨fun u hu=>?_,rfl⟩,(S2.le (by omega)).pull D⟩⟩
   rcases List.mem_append.mp hu with z | z
   · exact hy u z
   · rw [List.mem_singleton.mp z];exact hv
 · rintro ys Δ' H2 ⟨hy,rfl⟩ hl S2
   refine ⟨(by show 2≤sizeLine;decide),fun l1 hl1=>?_⟩
   generalize hE:upd _ l1 _=H3
   have S3:=S2.newE hl1 hE
   clear hE
   have hl3:ys.length=3:=hl
   refine ⟨D,l1,_,_,rfl,rfl,S3.get D,S3.get l1,Yp (show ys.length+2≤1000 by omega),fun l2 hl2=>?_⟩
   generalize hE:upd _ l2 _=H4
   have S4:=S3.newE hl2 hE
   clear hE
   refine q l2 H4 _ ((((S4.drop l1).drop D).pull p).le (show n+50 * 3≤n+200 by omega) |>.pull l2) (by rw [List.length_append];show _+2=5;omega) fun u hu=>?_
   rcases List.mem_append.mp hu with z | z
   · exact hy u z
   · have all:([.int 1,.str "1"]:List V).all ZaJ=true:=by decide +kernel
     exact UN (List.all_eq_true.mp all u z)
abbrev nSp:List Str:=["_law_box_here","_law_names_here","_law_values_here","_law_name"]
abbrev ZhO:List Str:=["_law_box_here","_law_names_here","_law_values_here"]
theorem scSp:Zq nSp ZhO (Zj s_l_step):=⟨rfl,rfl,rfl,by decide +kernel,rfl,by decide +kernel,by decide +kernel⟩
theorem Zja {f:Addr}{fd:FuncData}(F:Fun K "_law_step" "_law_step" s_l_step f fd)(T:ZY mg)(DT:DTk P w K mg base 1):FnOk P w K mg base ZF 2 f fd ZhO ZfD:=by
 refine F.ok scSp (fun vs H Q E h=>?_) (fun cdv A outer s H vs Q E hr h=>?_)
 · obtain ⟨p,nl,vl,n,NS,us,Δ,rfl,_⟩:=h;rfl
 obtain ⟨p,nl,vl,n,NS,us,Δ,rfl,S,hNS,hus,hNl,hul,huv,hn,q⟩:=h
 have hr1:=hr
 have l1:=List.length_pos_iff.mpr hNS
 have l2:=List.length_pos_iff.mpr hus
 refine' ⟨?t,?h,?r⟩
 case h =>
   conv=>arg 2;whnf
   with_reducible refine' (Ze ?h1 (Ze (Yb ?h2 (Zi ?h3) ZR) (Zi ?h4)))
   case h1=>exact Zx (i:=3) scSp.nd rfl (Or.inl rfl) (Zm Zt (pv 1) (Zz DT hr1 (Zb (pv 0) (Zb (Zu ZE rfl T.len PySem.boot_len (Zb (pv 1) Za)) Za))) (fun _ _=>rfl))
   case h2=>exact ZJ Yh (Zz DT hr1 (Zb (pv 0) (Zb Zd Za))) Zd (ZC _)
   case h3=>exact Zk (YM (Zb ZH (Zb (pv 3) Za)))
   case h4=>exact Zk (YM (Zb ZH (Zb (pv 3) (Zb (Zm Zt (pv 2) (Zz DT hr1 (Zb (pv 0) (Zb (Zu ZE rfl T.len PySem.boot_len (Zb (pv 2) Za)) Za))) (fun _ _=>rfl)) Za))))
 refine ⟨_,rfl,_,rfl,_,rfl,nl,_,rfl,.inl (SqL.of (S.get nl)),p,_,_,_,rfl,S,by omega,(by rw [List.length_map];omega),(by rw [List.length_map];omega),fun r1 H1 a0 a1 S1=>?_⟩
 rw [List.length_map] at a1
 obtain ⟨x,hx,hat⟩:=Zax (f:=V.str) a0 a1
 refine ⟨nl,_,_,_,rfl,rfl,SqL.of (S1.get nl),hat,?_⟩
 refine ⟨_,rfl,p,_,4,_,rfl,S1,by omega,by decide,by decide,fun r2 H2 b0 b1 S2=>⟨rfl,_,rfl,Xx (fun c=>?_) (fun c=>?_)⟩⟩
 · refine ⟨_,rfl,(by show 2≤sizeLine;decide),fun t ht=>?_⟩
   exact q t _ (.clr x) hx ((S2.new ht (.tup [.str "clear",.str x])).pull p |>.le (show n+2≤n+3 by omega) |>.pull t)
 · refine ⟨_,rfl,_,rfl,_,rfl,_,rfl,vl,_,rfl,.inl (SqL.of (S2.get vl)),p,_,_,_,rfl,S2,by omega,by omega,by omega,fun r3 H3 d0 d1 S3=>?_⟩
   obtain ⟨u,hu,hau⟩:=Zem (xs:=us) d0 d1
   refine ⟨vl,_,_,_,rfl,rfl,SqL.of (S3.get vl),hau,(by show 3≤sizeLine;decide),fun t ht=>?_⟩
   exact q t _ (.set x u) ⟨hx,huv u hu⟩ (S3.new ht (.tup [.str "set",.str x,u]))
abbrev nFr:List Str:=["_law_box_here","_law_stops","_law_way"]
abbrev Zip:List Str:=["_law_box_here","_law_stops"]
theorem scFr:Zq nFr Zip (Zj s_l_from):=⟨rfl,rfl,rfl,by decide +kernel,rfl,by decide +kernel,by decide +kernel⟩
theorem ZjN {f:Addr}{fd:FuncData}(F:Fun K "_law_from" "_law_from" s_l_from f fd)(T:ZY mg)(DT:DTk P w K mg base 1):FnOk P w K mg base ZF 2 f fd Zip ZgH:=by
 refine F.ok scFr (fun vs H Q E h=>?_) (fun cdv A outer s H vs Q E hr h=>?_)
 · obtain ⟨p,sl,n,k,R,Δ,rfl,_⟩:=h;rfl
 obtain ⟨p,sl,n,k,R,Δ,rfl,S,hR,hk1,hk2,hn,q⟩:=h
 have hr1:=hr
 refine' ⟨?t,?h,?r⟩
 case h =>
   conv=>arg 2;whnf
   with_reducible refine' (Ze ?h1 (Ze (Yb ?h2 (Zi ?h3) ZR) (Ze (Yb ?h4 (Zi ?h5) ZR) (Zi ?h6))))
   case h1=>exact Zx (i:=2) scFr.nd rfl (Or.inl rfl) (Zz DT hr1 (Zb (pv 0) (Zb Zd Za)))
   case h2=>exact ZJ VM (pv 2) Zd (ZC _)
   case h3=>exact Zk (Zw YA (Zu ZE rfl T.len PySem.boot_len (Zb (pv 1) Za)) Zd)
   case h4=>exact ZJ Yh (pv 2) Zd (ZC _)
   case h5=>exact Zk (Zu (ZfO rfl) rfl T.max (by decide +kernel) (Zb Zd (Zb (Zw YA (Zw YA (Zu ZE rfl T.len PySem.boot_len (Zb (pv 1) Za)) Zd) (Zz DT hr1 (Zb (pv 0) (Zb Zd Za)))) Za)))
   case h6=>exact Zk (Zz DT hr1 (Zb (pv 0) (Zb (Zu ZE rfl T.len PySem.boot_len (Zb (pv 1) Za)) Za)))
 refine ⟨_,rfl,p,_,4,_,rfl,S,by omega,by decide,by decide,fun r1 H1 a0 a1 S1=>⟨_,rfl,_,_,rfl,rfl,_,rfl,Xx (fun c=>?_) (fun c=>?_)⟩⟩
 · obtain ⟨xs,ex,hl⟩:=S1.isl sl hR
   refine ⟨_,rfl,sl,_,rfl,.inl (SqL.of ex),_,_,rfl,rfl,?_⟩
   have:=q (k - 1) H1 (by omega) (S1.le (by omega))
   rw [show ((k - 1:Nat):Int)=((xs.length:Nat):Int) - 1 by omega] at this
   exact this
 refine ⟨_,rfl,rfl,_,rfl,Xx (fun c=>?_) (fun c=>?_)⟩
 · obtain ⟨xs,ex,hl⟩:=S1.isl sl hR
   refine ⟨_,rfl,sl,_,rfl,.inl (SqL.of ex),_,_,rfl,rfl,_,rfl,p,_,6,_,rfl,S1,by omega,by decide,by decide,fun r2 H2 b0 b1 S2=>⟨_,_,rfl,rfl,_,_,rfl,?_⟩⟩
   by_cases hc:(0:Int) < (xs.length:Int) - 1 - r2
   · rw [if_pos hc]
     have:=q ((xs.length:Int) - 1 - r2).toNat H2 (by omega) (S2.le (by omega))
     rw [show ((((xs.length:Int) - 1 - r2).toNat:Nat):Int)=((xs.length:Nat):Int) - 1 - r2 by omega] at this
     exact this
   · rw [if_neg hc];exact q 0 H2 (by omega) (S2.le (by omega))
 · obtain ⟨xs,ex,hl⟩:=S1.isl sl hR
   refine ⟨_,rfl,_,rfl,sl,_,rfl,.inl (SqL.of ex),p,_,_,_,rfl,S1,by omega,by omega,by omega,fun r2 H2 b0 b1 S2=>?_⟩
   have:=q r2.toNat H2 (by omega) (S2.le (by omega))
   rw [show ((r2.toNat:Nat):Int)=r2 by omega] at this
   exact this
end
end K25
set_option maxHeartbeats 2000000
namespace L2
open PySem PySem.Spec PyProof.Rows
section
variable {X:Cx}
end
mutual
theorem DatT.same {K:PySem.W.Frag}{H H':Hp}(s:Same H H'):∀{v d},DatT K H v d→DatT K H' v d
 | _,_,.non=>.non
 | _,_,.int i=>.int i
 | _,_,.str x=>.str x
 | _,_,.tup e q=>.tup (e.tf s.tf) (DatTs.same s q)
theorem DatTs.same {K:PySem.W.Frag}{H H':Hp}(s:Same H H'):∀{vs ds},DatTs K H vs ds→DatTs K H' vs ds
 | _,_,.nil=>.nil
 | _,_,.cons r t=>.cons (DatT.same s r) (DatTs.same s t)
end
theorem ZeR {K:PySem.W.Frag}{a:Addr}{xs:List V}{g:TG}{te:TE}{σ:St}{D:Addr}{Q:VK}{H:Hp}(hn:xs.length≤sizeLine)(Pv:Nat→List V→Hp→Prop)(h0:Pv 0 [] (upd H D (.lst [])))
   (hl:∀ i ys H,Pv i ys H→ys.length=i∧SqL K H a xs)
   (hs:∀ i x ys H wa wb,xs[i]?=some x→Pv i ys H→g x (σ++[wa,wb]) H fun σ' H'=>(∃ wa wb,σ'=σ++[wa,wb])∧te σ' H' fun y H4=>H4 D=some (.lst ys)∧Pv (i+1) (ys++[y]) (upd H4 D (.lst (ys++[y]))))
   (hd:∀ ys H,Pv xs.length ys H→Q (.ref D) H):ZeT (Itl K a) g te σ D Q H:=by
 refine ⟨fun i m ys H=>m=xs.length - i∧i≤xs.length∧Pv i ys H,⟨xs.length,by simp,Nat.zero_le _,h0⟩,?_⟩
 rintro i m ys H2 ⟨rfl,hi,p⟩
 obtain ⟨hlen,el⟩:=hl i ys _ p
 by_cases hlt:i < xs.length
 · have ha:=List.getElem?_eq_getElem hlt
   refine .inr ⟨⟨_,_,el,ha⟩,_,fun y H4 (q:H4 D=some (.lst ys)∧Pv (i+1) (ys++[y]) (upd H4 D (.lst (ys++[y]))))=>⟨q.1,by omega,xs.length - (i+1),by omega,rfl,hlt,q.2⟩,fun wa wb v H3 y=>?_⟩
   obtain ⟨e1,e2⟩:=y
   subst e1
   exact hs i _ ys _ wa wb (e2 _ el) p
 · have e:i=xs.length:=by omega
   subst e
   exact .inl ⟨⟨_,el,Nat.le_refl _⟩,hd ys H2 p⟩
end L2
set_option maxHeartbeats 4000000
namespace K25
open PySem L2
def mkB:Nat→Int
 | 0=>0
 | i+1=>mkB i+((i:Int)+1) * 26
theorem Zgs {l:List Nat}:∀ i,i≤l.length→l.all UU=true→0≤Wl l i∧Wl l i≤mkB i
 | 0,_,_=>⟨Int.le_refl _,Int.le_refl _⟩
 | i+1,hi,ha=>by
   obtain ⟨h0,h1⟩:=Zgs i (by omega) ha
   have hlj:i < l.length:=hi
   have hc:=List.all_eq_true.mp ha _ (List.getElem_mem hlj)
   have hg:l.getD i 0=l[i]:=by rw [List.getD_eq_getElem?_getD,List.getElem?_eq_getElem hlj];rfl
   unfold UU at hc
   simp only [Bool.and_eq_true,decide_eq_true_eq] at hc
   show 0≤Wl l i+((i:Int)+1) * (((l.getD i 0:Nat):Int) - 97+1)∧Wl l i+((i:Int)+1) * (((l.getD i 0:Nat):Int) - 97+1)≤mkB i+((i:Int)+1) * 26
   rw [hg]
   have p0:(0:Int)≤((i:Int)+1) * (((l[i]:Nat):Int) - 97+1):=Int.mul_nonneg (by omega) (by omega)
   have p1:((i:Int)+1) * (((l[i]:Nat):Int) - 97+1)≤((i:Int)+1) * 26:=Int.mul_le_mul_of_nonneg_left (by omega) (by omega)
   omega
theorem ZlT {NS:List Str}(hl:NS.length≤50)(h:∀ x∈NS,Wr x):Yv NS:=by
 have b:∀ x∈NS,0≤Zy x∧Zy x < 1024:=fun x hx=>by
   obtain ⟨h1,h8,ha⟩:=h x hx
   obtain ⟨g0,g1⟩:=Zgs (l:=x.cps.toList) x.length (by rw [← Yi];exact Nat.le_refl _) ha
   have hB:∀ i,i≤8→mkB i < 1024:=by decide
   have:=hB x.length h8
   exact ⟨g0,by show Wl _ _ < _;omega⟩
 exact ⟨by omega,fun x hx=>by have:=(h x hx).2.1;omega,fun x hx=>(b x hx).1,fun x hx=>(b x hx).2⟩
theorem Zmg {NS:List Str}:RInv NS [] [.bare] [(Sum.inl 0,.bl true)]:=by
 refine ⟨fun k q e=>by simp at e,fun k F t e1 e2=>?_⟩
 cases k with
 | zero =>
   cases (show some (fun _=>none)=some F from e1)
   cases (show some 0=some t from e2)
   exact ⟨rfl,.inl (.inl ⟨rfl,rfl,fun _ _ _=>rfl⟩),fun x u z=>by cases z⟩
 | succ k=>simp [envs] at e1
def Ur (NS:List Str)(pls:List ZA):Prop:=∀ q∈pls,q.st.ok NS
theorem Zft {NS:List Str}{pls:List ZA}{q:ZA}(h:Ur NS pls)(hq:q.st.ok NS):Ur NS (pls++[q]):=fun z hz=>by
 rcases List.mem_append.mp hz with y | y
 · exact h z y
 · rw [List.mem_singleton.mp y];exact hq
theorem Zcv {x:Str}(h:Wr x):YR (.str x):=by
 refine ⟨by have:=h.2.1;omega,List.all_eq_true.mpr fun c hc=>?_⟩
 have:=List.all_eq_true.mp h.2.2 c hc
 unfold UU at this;unfold VR
 simp only [Bool.and_eq_true,decide_eq_true_eq] at this ⊢
 omega
theorem ZfH {a b:Addr}{R:YJ}[U:Up R]{o:HO}{Δ:Rs}{H:Hp}(S:Sep ((a,R)::Δ) H)(e:H b=some o)(m:Yy o=false):Sep ((a,fun a h=>R a h∧h b=some o)::Δ) H:=by
 obtain ⟨h,l,r,S⟩:=S
 refine ⟨fun c=>match h c with | some u=>some u | none=>one b o c,fun c u z=>?_,⟨U.up r (fun c u z=>by simp only [z]),?_⟩,S.mono fun c u z=>?_⟩
 · cases q:h c with
   | some v=>simp only [q] at z;cases z;exact l _ _ q
   | none=>simp only [q] at z;obtain ⟨rfl,rfl⟩:=one_some.mp z;exact e
 · cases q:h b with
   | some v=>have:=l _ _ q;rw [e] at this;cases this;simp only [q]
   | none=>simp only [q];exact one_some.mpr ⟨rfl,rfl⟩
 · obtain ⟨z1,z2⟩:=cut_some.mp z
   refine cut_some.mpr ⟨z1,fun v y=>?_⟩
   cases q:h c with
   | some x=>simp only [q] at y;cases y;exact z2 _ q
   | none=>simp only [q] at y;obtain ⟨rfl,rfl⟩:=one_some.mp y;exact m
theorem Zla {α:Type}{xs:List α}(h:xs≠[]):∃ x∈xs,YG xs (-1)=some x:=by
 have hl:=List.length_pos_iff.mpr h
 refine ⟨xs[xs.length - 1],List.getElem_mem _,?_⟩
 have hi:Ws xs.length (-1)=some (xs.length - 1):=by
   unfold Ws
   rw [if_neg (by decide),if_pos (by omega)]
   exact congrArg some (by omega)
 unfold YG
 rw [hi]
 exact List.getElem?_eq_getElem (by omega)
def ZcO:V→PyData
 | .int i=>.int i
 | .str x=>.str x
 | _=>.none
def Vu:Stp→PyData
 | .set x v=>.tuple [.str "set",.str x,ZcO v]
 | .clr x=>.tuple [.str "clear",.str x]
theorem ZhK {H:Hp}{v:V}(h:YR v):DataOf H v (ZcO v):=by
 cases v<;>first | exact .int _ | exact .str _ | exact h.elim
theorem Zdv {P:Nat→Bool}{x:Str}(h:x.cps.toList.all P=true)(hP:∀ c,P c=true→c < 1114112):PyData.strOk x=true:=by
 show x.cps.all (fun c=>decide (c < 1114112))=true
 rw [← Array.all_toList,List.all_eq_true]
 exact fun c hc=>decide_eq_true (hP c (List.all_eq_true.mp h c hc))
theorem Zdc {v:V}(h:YR v):(ZcO v).canLay0=true∧(ZcO v).depth=0:=by
 cases v<;>first | exact ⟨rfl,rfl⟩ | exact ⟨Zdv h.2 (fun c hc=>by unfold VR at hc;simp at hc;omega),rfl⟩ | exact h.elim
def ZaF (NS:List Str):Prop:=∀ x∈NS,PyData.strOk x=true
theorem Zcu {H:Hp}{a:Addr}{s:Stp}{NS:List Str}(e:H a=some (.tup s.vs))(h:s.ok NS)(hN:ZaF NS):DataOf H (.ref a) (Vu s)∧(Vu s).canLay0=true∧(Vu s).depth≤60:=by
 cases s with
 | set x v =>
   obtain ⟨l1,l2⟩:=Zdc h.2
   refine ⟨.tup e (.cons (.str _) (.cons (.str _) (.cons (ZhK h.2) .nil))),?_,?_⟩
   · show (PyData.strOk "set"&&(PyData.strOk x&&((ZcO v).canLay0&&true)))=true
     rw [hN x h.1,l1];decide +kernel
   · show (PyData.tuple _).depth≤60
     simp [PyData.depth,PyData.depthAll,l2]
 | clr x =>
   refine ⟨.tup e (.cons (.str _) (.cons (.str _) .nil)),?_,?_⟩
   · show (PyData.strOk "clear"&&(PyData.strOk x&&true))=true
     rw [hN x h];decide +kernel
   · show (PyData.tuple _).depth≤60
     simp [PyData.depth,PyData.depthAll]
theorem Zky {NS:List Str}(h:∀ x∈NS,Wr x):ZaF NS:=fun x hx=>Zdv (h x hx).2.2 (fun c hc=>by unfold UU at hc;simp at hc;omega)
theorem ZkO {pls:List ZA}{k:Nat}{v:V}{H H':Hp}(h:UB pls k v H)(s:Same H H'):UB pls k v H':=by
 cases k with
 | zero=>exact h
 | succ k=>obtain ⟨a,st,e1,e2,e3⟩:=h;exact ⟨a,st,e1,e2,s _ _ e3⟩
def dS (pls:List ZA):Nat→PyData
 | 0=>.none
 | k+1=>Vu (pls.getD k ⟨0,.clr "",0,0⟩).st
theorem Zkg {s:Stp}{NS:List Str}(h:s.ok NS):(Vu s).depth≤1:=by
 cases s with
 | set x v=>obtain ⟨_,l2⟩:=Zdc h.2;show (PyData.tuple _).depth≤1;simp [PyData.depth,PyData.depthAll,l2]
 | clr x=>show (PyData.tuple _).depth≤1;simp [PyData.depth,PyData.depthAll]
theorem Zkt {pls:List ZA}{NS:List Str}{k:Nat}(hk:k≤pls.length)(ok:Ur NS pls)(hN:ZaF NS):(dS pls k).canLay0=true∧(dS pls k).depth≤1:=by
 cases k with
 | zero=>exact ⟨rfl,by show 0≤1;decide⟩
 | succ k =>
   have e:=List.getElem?_eq_getElem (show k < pls.length by omega)
   have hs:=ok _ (List.mem_of_getElem? e)
   have eg:dS pls (k+1)=Vu pls[k].st:=by show Vu (pls.getD k _).st=_;rw [List.getD_eq_getElem?_getD,e];rfl
   rw [eg]
   refine ⟨?_,Zkg hs⟩
   have:=(Zcu (H:=fun _=>some (.tup (pls[k].st).vs)) (a:=0) rfl hs hN).2.1
   exact this
theorem Zlj {H:Hp}{pls:List ZA}{NS:List Str}{k:Nat}{v:V}(h:UB pls k v H)(ok:Ur NS pls)(hN:ZaF NS):DataOf H v (dS pls k):=by
 cases k with
 | zero=>cases (show v=.non from h);exact .non
 | succ k =>
   obtain ⟨a,st,rfl,es,ea⟩:=h
   rw [List.getElem?_map] at es
   cases e:pls[k]? with
   | none=>rw [e] at es;cases es
   | some q =>
     rw [e] at es;cases es
     show DataOf H _ (Vu (pls.getD k _).st)
     rw [List.getD_eq_getElem?_getD,e]
     exact (Zcu ea (ok q (List.mem_of_getElem? e)) hN).1
theorem Zdq {H:Hp}:∀(ys:List V)(ds:List PyData),ys.length=ds.length→(∀(i:Nat)(v:V)(d:PyData),ys[i]?=some v→ds[i]?=some d→DataOf H v d)→DatasOf H ys ds
 | [],[],_,_=>.nil
 | y::ys,d::ds,hl,h=>.cons (h 0 y d rfl rfl) (Zdq ys ds (by simpa using hl) fun i v e e1 e2=>h (i+1) v e e1 e2)
 | [],_::_,hl,_=>by simp at hl
 | _::_,[],hl,_=>by simp at hl
theorem Zgg:∀ ds:List PyData,(∀ d∈ds,d.canLay0=true∧d.depth≤1)→PyData.canLayAll0 ds=true∧PyData.depthAll ds≤1
 | [],_=>⟨rfl,by decide⟩
 | d::ds,h=>by
   obtain ⟨h1,h2⟩:=h d (List.mem_cons_self ..)
   obtain ⟨g1,g2⟩:=Zgg ds fun e he=>h e (List.mem_cons_of_mem _ he)
   rw [PyData.canLayAll0,PyData.depthAll,h1,g1]
   exact ⟨rfl,by omega⟩
theorem Zjm {pls:List ZA}{k:Nat}{v:V}{H:Hp}{D:Addr}{ys:List V}{c:HO}(h:UB pls k v H)(e:H D=some (.lst ys)):UB pls k v (upd H D c):=by
 cases k with
 | zero=>exact h
 | succ k =>
   obtain ⟨a,st,e1,e2,e3⟩:=h
   exact ⟨a,st,e1,e2,by rw [Zh (fun z=>by rw [z,e] at e3;cases e3)];exact e3⟩
theorem Zec {pls:List ZA}{H:Hp}{D:Addr}{ys:List V}{y:V}(h:∀(i:Nat)(v:V),ys[i]?=some v→UB pls i v H)(hy:UB pls ys.length y H)(e:H D=some (.lst ys)):∀(i:Nat)(v:V),(ys++[y])[i]?=some v→UB pls i v (upd H D (.lst (ys++[y]))):=fun i v ev=>by
 refine Zjm ?_ e
 by_cases hi:i < ys.length
 · rw [List.getElem?_append_left hi] at ev;exact h i v ev
 · rw [List.getElem?_append_right (by omega)] at ev
   have h0:i=ys.length:=by
     cases z:i - ys.length with
     | zero=>omega
     | succ j=>rw [z] at ev;simp at ev
   subst h0
   rw [Nat.sub_self] at ev
   cases ev;exact hy
theorem Zaz {H:Hp}{pls:List ZA}{NS:List Str}{l:Addr}{ys:List V}(e:H l=some (.lst ys))(hl:ys.length=pls.length+1)(h:∀(i:Nat)(v:V),ys[i]?=some v→UB pls i v H)(ok:Ur NS pls)(hN:ZaF NS) :
   DataOf H (.ref l) (.list ((List.range (pls.length+1)).map (dS pls)))∧(PyData.list ((List.range (pls.length+1)).map (dS pls))).canLay0=true∧(PyData.list ((List.range (pls.length+1)).map (dS pls))).depth≤60:=by
 have hm:∀ d∈(List.range (pls.length+1)).map (dS pls),d.canLay0=true∧d.depth≤1:=fun d hd=>by
   obtain ⟨i,hi,rfl⟩:=List.mem_map.mp hd
   exact Zkt (Nat.le_of_lt_succ (List.mem_range.mp hi)) ok hN
 obtain ⟨g1,g2⟩:=Zgg _ hm
 refine ⟨.lst e (Zdq _ _ (by rw [List.length_map,List.length_range,hl]) fun i v d e1 e2=>?_),by rw [PyData.canLay0];exact g1,by rw [PyData.depth];omega⟩
 rw [List.getElem?_map] at e2
 obtain ⟨j,ej,rfl⟩:=Option.map_eq_some_iff.mp e2
 obtain ⟨h1,h2⟩:=List.getElem?_eq_some_iff.mp ej
 rw [List.getElem_range] at h2
 subst h2
 exact Zlj (h _ v e1) ok hN
section
variable {P:Program}{w:World}{K:PySem.W.Frag}{mg:Str→Option Value}{base:Heap}{CR CS Pl:Addr}
def Zeo (Pl:Addr):Sp:=fun vs H Q _=>∃(p:Addr)(Δ:Rs),vs=[.ref p]∧Sep ((p,Bx 0)::(Pl,Xl)::Δ) H∧∀ H',Sep ((Pl,Xl)::Δ) H'→Q (.bl true) H'
theorem Zjg {xs ys:List Str}{s:Stp}(h:s.ok ys)(sub:∀ y∈ys,y∈xs):s.ok xs:=by
 cases s with
 | set x v=>exact ⟨sub x h.1,h.2⟩
 | clr x=>exact sub x h
abbrev nRi:List Str:=["_law_box_here","_law_names_here","_law_values_here","_law_roads","_law_stops","_law_turn","_law_place","_law_steps"]
abbrev ZhC:List Str:=["_law_box_here"]
theorem scRi:Zq nRi ZhC (Zj s_l_right):=⟨rfl,rfl,rfl,by decide +kernel,rfl,by decide +kernel,by decide +kernel⟩
theorem ZhD {f:Addr}{fd:FuncData}(F:Fun K "_law_right" "_law_right" s_l_right f fd)(T:ZY mg)(TR:YH K CR)(DT:DTk P w K mg base 1)(DP:Def P w K mg base 13 "_law_pool" ZhW ZdV)(DVs:Def P w K mg base 13 "_law_values" Zii ZcZ)(DRd:ZeB P w K mg base 12 CR "Roads" ZeO (ZdZ K CR CS))(DFr:Def P w K mg base 13 "_law_from" Zip ZgH)(DSt:Def P w K mg base 13 "_law_step" ZhO ZfD)(DGr:Def P w K mg base 13 "_law_grown" Zik (Zei K CR CS Pl))
   (DLk:Def P w K mg base 13 "_law_look_right" Zie (spLk K CR CS)) (DRf:Def P w K mg base 13 "_law_is_refused" Zhv (spRf K CR CS)) (DR_places:DefM P w K mg base 13 CR "places" Zev (ZcE K CR CS)) (DR_step:DefM P w K mg base 13 CR "step" Uf (VF K CR CS)):FnOk P w K mg base ZF 14 f fd ZhC (Zeo Pl):=by
 refine F.ok scRi (fun vs H Q E h=>?_) (fun cdv A outer s H vs Q E hr h=>?_)
 · obtain ⟨p,Δ,rfl,_⟩:=h;rfl
 obtain ⟨p,Δ,rfl,S,q⟩:=h
 have hr1:=hr.mono (show 1≤13 by decide)
 refine' ⟨?t,?h,?r⟩
 case h =>
   conv=>arg 2;whnf
   with_reducible refine' (Ze ?h1 (Ze ?h2 (Ze ?h3 (Ze (WY ?h4 ?h5 ?h6 ?h7 (Ze (Yb ?h8 (Zi ?h9) ZR) (Zi (Yb ?h10 (Zi ?h11) ZR))) ?h12) (Ze (WY ?h13 ?h14 ?h15 ?h16 (Zi (Yb ?h17 (Zi ?h18) ZR)) ?h19) (Ze ?h20 (Zi ?h21)))))))
   case h1=>exact Zdd (i:=1) (j:=2) rfl scRi.nd rfl rfl (by decide) rfl rfl (Zb (Zz DP hr (Zb (pv 0) (Zb (Zw YC Zd (Zz DT hr1 (Zb (pv 0) (Zb Zd Za)))) Za))) (Zb (Zz DVs hr (Zb (pv 0) Za)) Za)) rfl
   case h2=>exact Zx (i:=2) scRi.nd rfl (Or.inl rfl) (Zw Zaw (pv 2) (Yj (Zb (Zm Zt (pv 1) Zd (fun _ _=>rfl)) (Zb (Zm Zt (pv 1) (Xt YY Zd) (fun _ _=>rfl)) (Zb ZH (Zb ZH Za))))))
   case h3=>exact XA (YM (Zb (ZiW DRd hr) (Zb (Yj (Zb (YM (Zb Xy (Zb Xy Za))) Za)) Za))) (Ww rfl (Yk (ZO (i:=3) scRi.nd rfl (Or.inr rfl)) (Yk (ZO (i:=4) scRi.nd rfl (Or.inl rfl)) XQ)))
   case h4=>exact PassesOwn.never
   case h5=>exact rfl
   case h6=>exact YN rfl T.range (Zb (Zz DT hr1 (Zb (pv 0) (Zb Zd Za))) Za)
   case h7=>exact ZO (i:=5) scRi.nd rfl (Or.inl rfl)
   case h8=>exact Xg (YI (Zz DGr hr (Zb (pv 3) (Zb (pv 4) (Zb (Zz DFr hr (Zb (pv 0) (Zb (pv 4) Za))) (Zb (Zz DSt hr (Zb (pv 0) (Zb (Wm Zbr (pv 1) (WH Zd) WF) (Zb (pv 2) Za)))) Za))))))
   case h9=>exact Zk Wz
   case h10=>exact PW.pt (WQ (ZJ Yh (Zw Xn (pv 5) Zd) Zd (ZC _)) (Wb (Xg (YI (Zz DLk hr (Zb (pv 0) (Zb (pv 3) (Zb (pv 4) (Zb (pv 1) (Zb (pv 2) Za))))))))))
   case h11=>exact Zk Wz
   case h12=>exact fun _=>rfl
   case h13=>exact PassesOwn.never
   case h14=>exact rfl
   case h15=>exact Vy (YM (Zb (Xt YY Zd) (Zb (Zu ZE rfl T.len PySem.boot_len (Zb (pv 4) Za)) (Zb (Zw Vn Zd Zd) Za))))
   case h16=>exact ZO (i:=6) scRi.nd rfl (Or.inr rfl)
   case h17=>exact Xg (YI (Zu (Zaj rfl) rfl T.all (by decide +kernel) (Zb (XM (CompOk.of nRi s_l_right rfl rfl (by decide +kernel)) rfl (YN rfl T.range (Zb Zd Za))  (fun _ _ _ _ _=>Zz DRf hr (Zb (pv 3) (Zb (pv 6) (Zb (pv 8) Za))))) Za)))
   case h18=>exact Zk Wz
   case h19=>exact fun _=>rfl
   case h20=>exact Zfv (i:=7) (CompOk.of nRi s_l_right rfl rfl (by decide +kernel)) rfl scRi.nd rfl (Or.inl rfl) (YN rfl T.range (Zb (Zcb DR_places TR.cl hr (pv 3)) Za))  (fun _ _ _ _ _=>ZZ DR_step TR.cl hr (pv 3) (Zb (pv 8) Za)) rfl
   case h21=>exact Zk (Yl (ZcH hr.units) (pv 7) (ZhV (xa:="_law_before") (xb:="_law_step_here") (CompOkT.of nRi s_l_right rfl rfl (by decide +kernel)) rfl (VH (pv 4)) (fun _ _ _ _ _=>Zeq (K:=K) rfl rfl (ZO (i:=8) (show (XY nRi "_law_before" "_law_step_here"++(["_law_before","_law_step_here"]:List Str)).Nodup by decide +kernel) rfl (Or.inl rfl) (Or.inr rfl)) (ZO (i:=9) (show (XY nRi "_law_before" "_law_step_here"++(["_law_before","_law_step_here"]:List Str)).Nodup by decide +kernel) rfl (Or.inl rfl) (Or.inr rfl)))  (fun _ _ _ _ _=>pv 9)) (ZC _))
 refine ⟨_,rfl,_,rfl,p,0,9,_,rfl,S,by decide,by decide,by decide,fun r1 H1 a0 a1 S1=>⟨_,_,rfl,rfl,p,_,_,_,rfl,S1,by omega,by omega,by omega,fun nl H2 xs S2 hx1 hx2 hnd hnm h2=>?_⟩⟩
 refine ⟨_,rfl,p,_,_,rfl,S2.pull p,by omega,fun vl H3 us S3 hul huv=>⟨_,_,rfl,?_⟩⟩
 have hxn:xs≠[]:=List.length_pos_iff.mp (by omega)
 have hx22:2≤xs.length:=h2 (by omega)
 have N:Yv xs:=ZlT (by omega) hnm
 obtain ⟨z0,hz0,at0⟩:=Zax (f:=V.str) (xs:=xs) (r:=0) (by decide) (by omega)
 obtain ⟨v9,hv9,at9⟩:=Zla (xs:=xs.map V.str) (fun z=>hxn (List.map_eq_nil_iff.mp z))
 obtain ⟨z9,hz9,rfl⟩:=List.mem_map.mp hv9
 refine ⟨_,rfl,_,rfl,nl,_,_,_,rfl,rfl,SqL.of (S3.get nl),at0,_,rfl,_,rfl,nl,_,_,_,rfl,rfl,SqL.of (S3.get nl),at9,(by show 4≤sizeLine;decide),fun l1 hl1=>?_⟩
 generalize hE:upd H3 l1 _=H4
 have S4:=S3.newE hl1 hE
 clear hE
 refine ⟨vl,l1,_,_,rfl,rfl,S4.get vl,S4.get l1,Yp (show us.length+4≤1000 by omega),fun l2 hl2=>?_⟩
 generalize hE:upd H4 l2 _=H5
 have S5:=(((S4.newE hl2 hE).drop l1).drop vl)
 clear hE
 have hUv:∀ u∈us++[V.str z0,V.str z9,V.str "set",V.str "clear"],YR u:=fun u hu=>by
   rcases List.mem_append.mp hu with y | y
   · exact huv u y
   · rcases List.mem_cons.mp y with rfl | y
     · exact Zcv (hnm _ hz0)
     rcases List.mem_cons.mp y with rfl | y
     · exact Zcv (hnm _ hz9)
     · have all:([.str "set",.str "clear"]:List V).all ZaJ=true:=by decide +kernel
       exact UN (List.all_eq_true.mp all u y)
 have hUl:(us++[V.str z0,V.str z9,V.str "set",V.str "clear"]).length=9:=by rw [List.length_append,hul];rfl
 generalize hU:us++[V.str z0,V.str z9,V.str "set",V.str "clear"]=U at *
 intro r dx hrr hdx hne
 refine ⟨r,dx,_,_,rfl,rfl,hrr,hdx,hne,S5,fun H6 S6=>⟨rfl,(by show 2≤sizeLine;decide),fun t0 ht0=>⟨(by show 1≤sizeLine;decide),fun sl hsl=>⟨(by show 2≤sizeLine;decide),fun tt htt=>⟨tt,_,rfl,SqT.of Zg,rfl,_,_,rfl,_,_,rfl,rfl,?_⟩⟩⟩⟩⟩
 generalize hE:upd (upd (upd H6 t0 _) sl _) tt _=H7
 have S7:=(((S6.new ht0 _).new hsl _).newE htt hE).tail
 clear hE
 have S8:=((ZfH S7 (S7.get t0) rfl).say sl (StopL []) fun h ⟨z1,z2⟩=>⟨[t0],z1,rfl,fun a e=>by cases (show some t0=some a from e);exact z2,fun i a q e1 e2=>by simp at e2⟩).drop t0
 refine ⟨_,rfl,p,_,61,_,rfl,S8.pull p,by decide,by decide,by decide,fun m H9 m0 m1 S9=>⟨m,rfl,by omega,by omega,?_⟩⟩
 have hN:=Zky hnm
 refine Vx (fun i σ H'=>∃ x5 x6 pls nds tabs n,σ=[some (.ref p),some (.ref nl),some (.ref l2),some (.ref r),some (.ref sl),x5,x6,none]∧Sep ((p,Bx n)::(r,Uh K CR CS pls nds tabs)::(Pl,Xl)::(sl,StopL pls)::(nl,Yc (xs.map V.str))::(l2,Yc U)::Δ) H'∧RInv xs pls nds tabs∧Ur xs pls∧pls.length=i∧nds.length≤1+6 * i∧tabs.length≤1+i∧n≤1000+20 * i)
   ⟨_,_,[],_,_,_,rfl,(((((S9.pull l2).pull nl).pull sl).pull Pl).pull r).pull p,Zmg,(fun _ h=>nomatch h),rfl,by decide,by decide,by decide⟩ ?_ ?_
 · rintro i σ H10 hi ⟨x5,x6,pls,nds,tabs,n,rfl,S10,I,hok,hpl,hnd,htb,hn⟩
   have hUn:U≠[]:=List.length_pos_iff.mp (by omega)
   refine ⟨_,rfl,_,rfl,_,rfl,_,rfl,p,sl,n,pls.length+1,StopL pls,_,rfl,(S10.pull sl).pull p,inferInstance,by omega,by omega,by omega,fun kk H11 hkk S11=>?_⟩
   refine ⟨_,rfl,_,rfl,1,rfl,nl,_,rfl,SqL.of (S11.get nl),fun n2 hn2=>?_⟩
   generalize hE:upd H11 n2 _=H11b
   have S11b:=S11.newE hn2 hE
   clear hE
   rw [show (1:Int)=((1:Nat):Int) from rfl,ZhG,← List.map_drop] at S11b
   have hdn:xs.drop 1≠[]:=List.length_pos_iff.mp (by rw [List.length_drop];omega)
   have hsub:∀ y∈xs.drop 1,y∈xs:=fun y hy=>List.mem_of_mem_drop hy
   refine ⟨_,rfl,p,n2,l2,_,xs.drop 1,U,_,rfl,((S11b.pull l2).pull n2).pull p,hdn,hUn,by rw [List.length_drop];omega,by omega,hUv,by omega,fun t H12 s hs S12=>?_⟩
   refine ⟨xs,r,sl,t,pls,nds,tabs,kk,s,_,rfl,N,((S12.pull sl).pull Pl).pull r,S12.get t,I,Zjg hs hsub,by omega,by omega,by omega,by omega,fun H13 nds' tabs' q' S13 I13 l1' l2' hq=>⟨_,rfl,ZB ?_⟩⟩
   have S14:=((((((S13.drop t).drop n2).pull l2).pull nl).pull sl).pull Pl).pull r |>.pull p
   have hok':=Zft hok hq
   have hpl':(pls++[q']).length=i+1:=by rw [List.length_append,hpl];rfl
   refine ⟨_,rfl,_,_,rfl,rfl,(by show (0:Int) < 2;decide),rfl,_,rfl,Xx (fun c=>?_) (fun c=>?_)⟩
   · have S14':=((((S14.pull l2).pull nl).pull sl).pull r).pull p
     refine ⟨_,rfl,_,rfl,_,rfl,_,rfl,_,rfl,xs,xs,U,p,r,sl,nl,l2,pls++[q'],nds',tabs',_,_,rfl,S14',by omega,I13.wf,hok',by omega,by omega,by omega,hUv,by omega,fun H15 S15=>⟨_,rfl,ZB ?_⟩⟩
     exact ⟨_,_,pls++[q'],nds',tabs',_,rfl,(((((S15.pull l2).pull nl).pull sl).pull Pl).pull r).pull p,I13,hok',hpl',by omega,by omega,by omega⟩
   · exact ZB ⟨_,_,pls++[q'],nds',tabs',_,rfl,S14,I13,hok',hpl',by omega,by omega,by omega⟩
 · rintro σ H10 ⟨x5,x6,pls,nds,tabs,n,rfl,S10,I,hok,hpl,hnd,htb,hn⟩
   obtain ⟨ys,ey,hyl⟩:=S10.isl sl (inferInstance:IsLst (StopL pls) (pls.length+1))
   have h20:(10:Int) ^ (20:Int).toNat=100000000000000000000:=by decide
   refine ⟨1,rfl,_,rfl,sl,_,rfl,.inl (SqL.of ey),10,20,rfl,rfl,⟨by decide,by decide,by decide⟩,(by show 3≤sizeLine;decide),fun tt htt=>⟨tt,rfl,⟨_,SqT.of Zg⟩,?_⟩⟩
   have pick:∀ (j:Nat) (v:V),([.int (-1),.int (ys.length:Nat),.int ((10:Int) ^ (20:Int).toNat)]:List V)[j]?=some v→∃ k:Int,v=.int k∧ZcB pls k:=fun j v hv=>by
     match j,hv with
     | 0,hv=>cases hv;exact ⟨_,rfl,.inl (by decide)⟩
     | 1,hv=>cases hv;exact ⟨_,rfl,.inr (by omega)⟩
     | 2,hv=>cases hv;exact ⟨_,rfl,.inr (by rw [h20];omega)⟩
     | n+3,hv=>cases hv
   refine Zjh (K:=K) (xs:=[.int (-1),.int (ys.length:Nat),.int ((10:Int) ^ (20:Int).toNat)]) (fun _ σ H'=>∃ x5 x6,σ=[some (.ref p),some (.ref nl),some (.ref l2),some (.ref r),some (.ref sl),x5,x6,none]∧Same H10 H'∧H' tt=some (.tup [.int (-1),.int (ys.length:Nat),.int ((10:Int) ^ (20:Int).toNat)])) ⟨_,_,rfl,Zp htt _,Zg⟩ ?_ ?_ ?_
   · rintro i σ H' _ ⟨_,_,rfl,_,e⟩;exact SqT.of e
   · rintro i v σ H' hv ⟨x5,x6,rfl,s1,ett⟩
     obtain ⟨k,rfl,hbad⟩:=pick i v hv
     refine ⟨4,rfl,by decide,by decide,fun D hD=>?_⟩
     refine UV (Yp (show 4≤1000 by decide)) (fun i ys' H2=>Same H' H2∧H2 D=some (.lst ys')∧ys'=(List.replicate i true).map V.bl) ⟨Zp hD _,Zg,rfl⟩ ?_ ?_ ?_
     · rintro i ys' H2 ⟨_,_,rfl⟩;simp
     · rintro i ys' H2 hi ⟨s2,eD,rfl⟩
       have S12:=S10.mono (s1.trans s2)
       refine ⟨_,rfl,_,rfl,_,rfl,r,pls,nds,tabs,k,i,by rw [Int.zero_add];rfl,hi,S12.get r,hbad,fun H3 s3=>⟨s3 _ _ eD,fun b o q=>?_,Zg,?_⟩⟩
       · rw [Zh (Zn q hD)];exact s3 _ _ (s2 _ _ q)
       · rw [List.replicate_succ',List.map_append];rfl
     · rintro ys' H2 ⟨s2,eD,rfl⟩
       refine ⟨D,_,rfl,SqL.of eD,_,rfl,?_⟩
       rw [show ∀ k,(List.replicate k true).all id=true from fun k=>by simp]
       exact ZB ⟨_,_,rfl,s1.trans s2,s2 _ _ ett⟩
   · rintro σ H11 ⟨x5,x6,rfl,s1,_⟩
     have S11:=S10.mono s1
     obtain ⟨st9,la9,ls9,lt9,lc9,T9⟩:=S11.get r
     obtain ⟨dx9,ob9⟩:=T9.get r
     refine ⟨_,rfl,r,dx9,_,rfl,ob9,Yt (by decide +kernel),r,pls,nds,tabs,rfl,S11.get r,_,rfl,by omega,by omega,fun D hD=>?_⟩
     refine UV (Yp (show pls.length+1≤1000 by omega)) (fun i ys' H2=>Same H11 H2∧H2 D=some (.lst ys')∧ys'.length=i∧∀ (j:Nat) (v:V),ys'[j]?=some v→UB pls j v H2) ⟨Zp hD _,Zg,rfl,fun j v e=>by simp at e⟩ ?_ ?_ ?_
     · rintro i ys' H2 ⟨_,_,e,_⟩;exact e
     · rintro i ys' H2 hi ⟨s2,eD,rfl,hst⟩
       have S12:=S11.mono s2
       obtain ⟨st8,la8,ls8,lt8,lc8,T8⟩:=S12.get r
       obtain ⟨dx8,ob8⟩:=T8.get r
       refine ⟨_,rfl,r,dx8,_,rfl,ob8,Yt (by decide +kernel),_,rfl,r,pls,nds,tabs,ys'.length,by rw [Int.zero_add];rfl,S12.get r,Nat.le_of_lt_succ hi,fun v hv=>⟨eD,fun b o q=>?_,Zg,by simp,Zec hst hv eD⟩⟩
       rw [Zh (Zn q hD)];exact s2 _ _ q
     rintro ys1 H12 ⟨s2,eD,hl1,hst1⟩
     have S12:=S11.mono s2
     obtain ⟨ys2,ey2,hyl2⟩:=S12.isl sl (inferInstance:IsLst (StopL pls) (pls.length+1))
     refine ⟨_,rfl,_,rfl,sl,rfl,⟨_,SqL.of ey2⟩,fun D2 hD2=>?_⟩
     refine ZeR (K:=K) (xs:=ys2) (Yp (show _≤1000 by omega)) (fun i zs H'=>Same H12 H'∧H' D2=some (.lst zs)∧zs.length=i∧∀ (j:Nat) (v:V),zs[j]?=some v→UB pls j v H') ⟨Zp hD2 _,Zg,rfl,fun j v e=>by simp at e⟩ ?_ ?_ ?_
     · rintro i zs H' ⟨s3,_,e,_⟩;exact ⟨e,SqL.of (s3 _ _ ey2)⟩
     · rintro i v zs H' wa wb hv ⟨s3,eD2,rfl,hst⟩
       have hi:=(List.getElem?_eq_some_iff.mp hv).1
       obtain ⟨zz,a,xx,y,e1,e2,e3,e4,e5,_⟩:=StopL.at ((S12.mono s3).get sl) (show zs.length≤pls.length by omega)
       rw [s3 _ _ ey2] at e1
       cases e1
       rw [hv] at e2
       cases e2
       refine ⟨a,_,rfl,SqT.of e3,rfl,_,_,rfl,_,_,rfl,rfl,⟨_,_,rfl⟩,_,rfl,eD2,fun b o q=>?_,Zg,by simp,Zec hst e5 eD2⟩
       rw [Zh (Zn q hD2)];exact s3 _ _ q
     · rintro zs H13 ⟨s3,eD2,hl2,hst2⟩
       obtain ⟨z1,z2,z3⟩:=Zaz (s3 _ _ eD) hl1 (fun i v e=>ZkO (hst1 i v e) s3) hok hN
       obtain ⟨y1,y2,y3⟩:=Zaz eD2 (hl2.trans hyl2) hst2 hok hN
       refine ⟨_,_,z1,y1,z2,y2,z3,?_⟩
       rw [SeqAt.eqv_refl _ z2]
       exact q H13 ((((((S12.mono s3).drop p).drop r).drop sl).drop nl).drop l2)
end
end K25
set_option maxHeartbeats 4000000
namespace K25
open PySem L2
def ScR (K:PySem.W.Frag)(ns:List Int):YJ:=fun a h=>SqL K h a (ns.map V.int)
theorem ZmA {K:PySem.W.Frag}{H H':Hp}{a:Addr}{xs:List V}(h:SqL K H a xs)(s:Same H H'):SqL K H' a xs:=by
 rcases h with (h | ⟨o,h⟩) | h
 · exact .inl (.inl (s _ _ h))
 · exact .inl (.inr ⟨o,s _ _ h⟩)
 · exact .inr h
instance {K:PySem.W.Frag} {ns:List Int}:Up (ScR K ns):=⟨fun h s=>ZmA h s⟩
theorem ZgD {K:PySem.W.Frag}{H:Hp}{a Pl:Addr}{ns:List Int}(hS:SqL K H a (ns.map V.int))(hL:LamAt H Pl YB Xq):Sep [(Pl,Xl),(a,ScR K ns)] H:=by
 obtain ⟨tb,etb⟩:=hL.tbl
 refine ⟨some_of H [Pl],WI,?_,Ua H (some_of H [Pl]),fun b o e=>e,?_,trivial⟩
 · have ePl:some_of H [Pl] Pl=H Pl:=XJ (by simp)
   rcases hL with z | ⟨c,z1,z2⟩
   · exact .inl (by rw [ePl];exact z)
   · exact .inr ⟨c,by rw [ePl];exact z1,Ut z2 rfl⟩
 · rcases hS.obj with z | ⟨o,e,nt,z⟩
   · exact z _
   · refine z _ (cut_some.mpr ⟨e,fun u y=>?_⟩)
     cases m:Yy u with
     | false=>rfl
     | true =>
       have:=Wh y m
       rw [List.mem_singleton.mp this,etb] at e
       cases e
       exact absurd rfl (nt _)
section
variable {P:Program}{w:World}{K:PySem.W.Frag}{mg:Str→Option Value}{base:Heap}{CR CS Pl:Addr}
def Zcf (K:PySem.W.Frag)(Pl:Addr):Sp:=fun vs H Q _=>∃(a:Addr)(ns:List Int),vs=[.ref a]∧SqL K H a (ns.map V.int)∧ns.length≤63∧LamAt H Pl YB Xq∧∀ H',Q (.bl true) H'
abbrev nLw:List Str:=["_law_script"]
abbrev pnLw:List Str:=["_law_script"]
theorem scLw:Zq nLw pnLw (Zj s_law):=⟨rfl,rfl,rfl,by decide +kernel,rfl,by decide +kernel,by decide +kernel⟩
theorem ZkS {f:Addr}{fd:FuncData}(F:Fun K "law" "law" s_law f fd)(T:ZY mg)(DB:Def P w K mg base 14 "_law_box" ["_law_script","_law_k"] (Zdh K))(DRi:Def P w K mg base 14 "_law_right" ZhC (Zeo Pl)):FnOk P w K mg base ZF 15 f fd pnLw (Zcf K Pl):=by
 refine F.ok scLw (fun vs H Q E h=>?_) (fun cdv A outer s H vs Q E hr h=>?_)
 · obtain ⟨a,ns,rfl,_⟩:=h;rfl
 obtain ⟨a,ns,rfl,hS,h63,hL,q⟩:=h
 have S:=ZgD hS hL
 refine' ⟨?t,?h,?r⟩
 case h =>
   conv=>arg 2;whnf
   with_reducible refine' (Zi ?h1)
   case h1=>exact Zk (Zu (Zaj rfl) rfl T.all (by decide +kernel) (Zb (XM (CompOk.of nLw s_law rfl rfl (by decide +kernel)) rfl (YN rfl T.range (Zb (Zw YC Zd (Zu (ZfK rfl) rfl T.min (by decide +kernel) (Zb Zd (Zb (Zu ZE rfl T.len PySem.boot_len (Zb (pv 0) Za)) Za)))) Za))  (fun _ _ _ _ _=>Zz DRi hr (Zb (Zz DB hr (Zb (pv 0) (Zb (pv 1) Za))) Za))) Za))
 refine ⟨_,rfl,a,_,rfl,.inl hS,_,_,rfl,_,_,rfl,rfl,?_⟩
 rw [List.length_map]
 generalize hm:(1:Int)+(if ((ns.length:Nat):Int) < 3 then ((ns.length:Nat):Int) else 3)=m
 have hm9:0≤m∧m≤9:=by rw [← hm];split<;>omega
 refine ⟨m,congrArg (fun z=>[V.int z]) hm,by omega,by omega,fun D hD=>?_⟩
 refine Uo (by exact Nat.le_trans (show _≤1000 by omega) (by decide)) S hD (fun i ys' Δ'=>ys'=(List.replicate i true).map V.bl∧Δ'=[(Pl,Xl),(a,ScR K ns)]) ⟨rfl,rfl⟩ ?_ ?_
 · rintro i ys2 Δ' H' hi hl ⟨rfl,rfl⟩ S'
   refine ⟨_,rfl,_,rfl,a,ns,_,_,rfl,S'.get a,S',by omega,by omega,fun p H1 s1 S1=>?_⟩
   refine ⟨p,_,rfl,(S1.pull Pl).pull p,fun H2 S2=>⟨_,⟨?_,rfl⟩,(S2.pull D)⟩⟩
   rw [List.replicate_succ',List.map_append];rfl
 · rintro ys2 Δ' H2 ⟨rfl,rfl⟩ hl S2
   refine ⟨D,_,rfl,SqL.of (S2.get D),?_⟩
   rw [show ∀ k,(List.replicate k true).all id=true from fun k=>by simp]
   exact q H2
end
end K25
set_option maxHeartbeats 4000000
namespace K25
open PySem L2
abbrev Ziv (P:Program)(w:World)(K:PySem.W.Frag)(mg:Str→Option Value)(base:Heap):Prop:=Def P w K mg base 1 "_law_take" ["_law_box_here","_law_many"] (Zas 4611686018427387904)
section
variable {P:Program}{w:World}{K:PySem.W.Frag}{mg:Str→Option Value}{base:Heap}
abbrev vSigns:Str:=ZiE (Xs s_l_value)
theorem vs_len:vSigns.length=94:=by decide +kernel
theorem ZkG:vSigns.cps.toList.all VR=true:=by decide +kernel
abbrev nVv:List Str:=["_law_box_here","_law_way","_law_signs"]
theorem scVal:Zq nVv ["_law_box_here"] (Zj s_l_value):=⟨rfl,rfl,rfl,by decide +kernel,rfl,by decide +kernel,by decide +kernel⟩
theorem Zib {f:Addr}{fd:FuncData}(F:Fun K "_law_value" "_law_value" s_l_value f fd)(T:Txt K mg)(D:Ziv P w K mg base):FnOk P w K mg base ZF 2 f fd ["_law_box_here"] ZdI:=by
 refine F.ok scVal (fun vs H Q E h=>?_) (fun cdv A outer s H vs Q E hr h=>?_)
 · obtain ⟨p,n,rfl,_⟩:=h;rfl
 obtain ⟨p,n,rfl,hB,hn,q⟩:=h
 refine ⟨_,Ze (Zx (i:=1) scVal.nd rfl (Or.inl rfl) (Zz D hr (Zb (pv 0) (Zb Zd Za))))
   (Ze (Yb (ZJ VM (pv 1) Zd (ZC _)) (Zi (Zk (Zw YA (Zz D hr (Zb (pv 0) (Zb Zd Za))) Zd))) ZR)
   (Ze (Yb (ZJ Yh (pv 1) Zd (ZC _)) (Zi (Zk (Zm Zt (Yj (Va (Zw YA (Zw Vn Zd Zd) Zd) (Va (Zw YA Zd (Zw Vn Zd Zd)) (Va (Zw Vn Zd Zd) (Va Zd Za rfl) rfl) rfl) rfl)) (Zz D hr (Zb (pv 0) (Zb Zd Za))) (fun _ _=>rfl)))) ZR)
   (Ze (Yb (ZJ Yh (pv 1) Zd (ZC _)) (Zi (Zk (Zm Zt (Yj (Va ZH (Va ZH (Va ZH (Va ZH (Va ZH (Va ZH (Va ZH (Va ZH Za rfl) rfl) rfl) rfl) rfl) rfl) rfl) rfl)) (Zz D hr (Zb (pv 0) (Zb Zd Za))) (fun _ _=>rfl)))) ZR)
   (Ze (Zx (i:=2) scVal.nd rfl (Or.inr rfl) ZH)
   (Zi (Zk (YS PySem.F.plainAttrs_str PySem.F.slot_str_join PySem.F.type_str_join Zet ZH (Zb (XM (CompOk.of nVv s_l_value rfl rfl (by decide +kernel)) rfl
     (YN rfl T.range (Zb (Zz D hr (Zb (pv 0) (Zb (Wc (ZJ Yh (pv 1) Zd (ZC _)) Zd Zd) Za))) Za))
     (fun _ _ _ _ _=>Zm Wq (pv 2) (Zz D hr (Zb (pv 0) (Zb (Zu (Zgv (K:=K) rfl) rfl T.len PySem.boot_len (Zb (pv 2) Za)) Za))) (fun _ _=>rfl))) Za)))))))),?_⟩
 refine ⟨_,rfl,p,n,6,rfl,hB,by omega,by decide,by decide,fun r1 H1 a0 a1 B1 k1=>?_⟩
 refine ⟨_,rfl,_,_,rfl,rfl,_,rfl,Xx (fun c=>?_) (fun c=>?_)⟩
 · refine ⟨_,rfl,p,n+1,7,rfl,B1,by omega,by decide,by decide,fun r2 H2 b0 b1 B2 k2=>⟨_,_,rfl,rfl,?_⟩⟩
   exact q _ _ (by show (r2 - 3).natAbs≤10 ^ 31;omega) (B2.le (by omega)) (k1.trans k2)
 refine ⟨_,rfl,rfl,_,rfl,Xx (fun c2=>?_) (fun c2=>?_)⟩
 · refine ⟨_,_,rfl,rfl,⟨by decide,by decide,by decide⟩,_,_,rfl,rfl,_,_,rfl,rfl,⟨by decide,by decide,by decide⟩,_,_,rfl,rfl,_,_,rfl,rfl,⟨by decide,by decide,by decide⟩,(by show 4≤sizeLine;decide),fun l hl=>?_⟩
   have hne:l≠p:=fun e=>by obtain ⟨_,_,_,z,_⟩:=B1;rw [e,z] at hl;cases hl
   refine ⟨_,rfl,p,n+1,4,rfl,B1.same (Zp hl _),by omega,by decide,by decide,fun r2 H2 b0 b1 B2 k2=>?_⟩
   obtain ⟨v,hv,hm⟩:=Zbi (xs:=([.int (10 ^ (30:Int).toNat - 1),.int (1 - 10 ^ (30:Int).toNat),.int (10 ^ (29:Int).toNat),.int 0]:List V)) b0 b1
   refine ⟨l,_,_,v,rfl,rfl,SqL.of (k2 l _ hne Zg),hv,q _ _ ?_ (B2.le (by omega)) (k1.trans ((Zp hl _).kp p |>.trans k2))⟩
   have all:(([.int (10 ^ (30:Int).toNat - 1),.int (1 - 10 ^ (30:Int).toNat),.int (10 ^ (29:Int).toNat),.int 0]:List V)).all ZaJ=true:=by decide +kernel
   exact UN (List.all_eq_true.mp all v hm)
 refine ⟨_,rfl,rfl,_,rfl,Xx (fun c3=>?_) (fun c3=>?_)⟩
 · refine ⟨(by show 8≤sizeLine;decide),fun l hl=>?_⟩
   have hne:l≠p:=fun e=>by obtain ⟨_,_,_,z,_⟩:=B1;rw [e,z] at hl;cases hl
   refine ⟨_,rfl,p,n+1,8,rfl,B1.same (Zp hl _),by omega,by decide,by decide,fun r2 H2 b0 b1 B2 k2=>?_⟩
   obtain ⟨v,hv,hm⟩:=Zbi (xs:=([.str "",.str "0",.str "-1",.str "a",.str "none",.str "'",.str "\\", .str " "]:List V)) b0 b1
   refine ⟨l,_,_,v,rfl,rfl,SqL.of (k2 l _ hne Zg),hv,q _ _ ?_ (B2.le (by omega)) (k1.trans ((Zp hl _).kp p |>.trans k2))⟩
   have all:(([.str "",.str "0",.str "-1",.str "a",.str "none",.str "'",.str "\\", .str " "]:List V)).all ZaJ=true:=by decide +kernel
   exact UN (List.all_eq_true.mp all v hm)
 refine ⟨rfl,?_⟩
 have fin:∀ (r2:Int) (H2:Hp),0≤r2→r2 < 41→BoxAt H2 p (n+2)→Kp p H1 H2→∃ j:Int,[V.int r2]=[.int j]∧-(2 ^ 62)≤j∧j < 2 ^ 62∧∀ D,H2 D=none→VE (Itr 0 j.toNat)
     (tOp rIxS (Vf 2) (ZeH (Zas 4611686018427387904) [] E0 (Xu (Vf 0) (Xu (tCB (fun xs H Q=>∃ x n,xs=[x]∧Zhw K x H n∧Q (.int n) H) (Xu (Vf 2) Wd)) Wd))))
     [some (.ref p),some (.int r1),some (.str vSigns)] D (fun x H3=>∃ sep a ys,V.str ""=.str sep∧[x]=[.ref a]∧SqL K H3 a (ys.map V.str)∧(ys.map (·.length)).sum+ys.length * sep.length≤16777216∧Q (.str (Txt.join sep ys)) H3) H2:=by
   intro r2 H2 b0 b1 B2 k2
   refine ⟨r2,rfl,by omega,by omega,fun Dl hD=>?_⟩
   have hne:Dl≠p:=fun e=>by obtain ⟨_,_,_,z,_⟩:=B2;rw [e,z] at hD;cases hD
   refine UV (Nat.le_trans (show r2.toNat≤1000 by omega) (ZeC (Nat.le_refl _)))
     (fun i ys H'=>∃ zs:List Str,ys=zs.map V.str∧zs.length=i∧(∀ z∈zs,∃ c,z=⟨#[c]⟩∧VR c=true)∧H' Dl=some (.lst ys)∧BoxAt H' p (n+2+i)∧Kp p H1 H'∧i≤r2.toNat)
     ⟨[],rfl,rfl,(fun _ h=>nomatch h),Zg,B2.same (Zp hD _),k2.trans ((Zp hD _).kp p),Nat.zero_le _⟩ ?_ ?_ ?_
   · rintro i ys H' ⟨zs,rfl,hz,_⟩;rw [List.length_map];exact hz
   · rintro i ys H' hi ⟨zs,rfl,hz,hall,hDl,B',k',_⟩
     refine ⟨_,rfl,_,rfl,_,rfl,_,94,rfl,⟨by rw [vs_len];decide,vs_len.symm⟩,p,n+2+i,94,rfl,B',by omega,by decide,by decide,fun r3 H3 d0 d1 B3 k3=>?_⟩
     have hl:vSigns.cps.toList.length=94:=by rw [← Yi];exact vs_len
     obtain ⟨c,hc,hm⟩:=Zbi (xs:=vSigns.cps.toList) d0 (by rw [hl];exact d1)
     refine ⟨vSigns,r3,c,rfl,rfl,(by rw [vs_len];decide),hc,k3 Dl _ hne hDl,zs++[⟨#[c]⟩],by rw [List.map_append];rfl,by rw [List.length_append,hz];rfl,?_,Zg,?_,fun b o nb e=>?_,hi⟩
     · intro z hz'
       rcases List.mem_append.mp hz' with h | h
       · exact hall z h
       · rw [List.mem_singleton.mp h];exact ⟨c,rfl,List.all_eq_true.mp ZkG c hm⟩
     · obtain ⟨x1,x2,x3,x4,x5⟩:=B3
       exact ⟨x1,x2,x3,by rw [Zh hne.symm];exact x4,x5⟩
     · rw [Zh (Zn (k2 b o nb e) hD)];exact k3 b o nb (k' b o nb e)
   · rintro ys H' ⟨zs,rfl,hz,hall,hDl,B',k',_⟩
     have ones:∀ l:List Str,(∀ z∈l,∃ c,z=⟨#[c]⟩∧VR c=true)→(l.map (·.length)).sum=l.length∧(l.flatMap (·.cps.toList)).length=l.length∧(l.flatMap (·.cps.toList)).all VR=true:=by
       intro l
       induction l with
       | nil=>intro _;exact ⟨rfl,rfl,rfl⟩
       | cons z r ih =>
         intro h
         obtain ⟨c,rfl,hc⟩:=h z List.mem_cons_self
         obtain ⟨g1,g2,g3⟩:=ih fun y hy=>h y (List.mem_cons_of_mem _ hy)
         refine ⟨?_,?_,?_⟩
         · rw [List.map_cons,List.sum_cons,g1,List.length_cons];show 1+_=_;omega
         · have e0:((⟨#[c]⟩:Str)::r).flatMap (·.cps.toList)=c::r.flatMap (·.cps.toList):=rfl
           rw [e0,List.length_cons,List.length_cons,g2]
         · rw [List.flatMap_cons,List.all_append,g3];simp [hc]
     obtain ⟨g1,g2,g3⟩:=ones zs hall
     refine ⟨_,Dl,zs,rfl,rfl,SqL.of hDl,?_,q _ _ ⟨?_,?_⟩ (B'.le (by omega)) (k1.trans k')⟩
     · rw [g1];show _+_ * 0≤_;omega
     · rw [Yi];show (Txt.join (Str.ofString "") zs).cps.toList.length≤41;rw [WC,g2];omega
     · show (Txt.join (Str.ofString "") zs).cps.toList.all VR=true;rw [WC];exact g3
 refine ⟨_,rfl,_,rfl,rfl,_,rfl,Xx (fun c4=>?_) (fun c4=>?_)⟩
 · exact ⟨p,n+1,4,rfl,B1,by omega,by decide,by decide,fun r2 H2 b0 b1 B2 k2=>fin r2 H2 b0 (by omega) B2 k2⟩
 · exact ⟨p,n+1,41,rfl,B1,by omega,by decide,by decide,fun r2 H2 b0 b1 B2 k2=>fin r2 H2 b0 (by omega) B2 k2⟩
end
end K25
namespace L2
open PySem
structure FG (K:PySem.W.Frag)(x:Str)(st:Stmt)(f:Addr)(fd:FuncData):Prop where
 a:PySem.W.nsIn K mainGlobals x=some (some (.ref f))
 F:Fun K x x st f fd
structure FM (K:PySem.W.Frag)(C:Addr)(x q:Str)(st:Stmt)(f:Addr)(fd:FuncData):Prop where
 m:VA K C x f
 F:Fun K x q st f fd
structure FGC (K:PySem.W.Frag)(x:Str)(st:Stmt)(f:Addr)(fd:FuncData)(c Pl:Addr):Prop where
 a:PySem.W.nsIn K mainGlobals x=some (some (.ref f))
 F:FunC K x x st f fd c Pl
structure CH (K:PySem.W.Frag)(x:Str)(C:Addr):Prop where
 a:PySem.W.nsIn K mainGlobals x=some (some (.ref C))
 c:Cls K C
 ms:PySem.W.makesIn K C=true
 kp:PySem.W.keepIn K (.ref C)=true
structure Bs (P:Program)(w:World)(K:PySem.W.Frag)(mg:Str→Option Value)(base h:Heap):Prop where
 X:K.In h
 G:h.Ns mainGlobals mg
section
variable {P:Program}{w:World}{K:PySem.W.Frag}{mg:Str→Option Value}{base h:Heap}{x q:Str}{st:Stmt}{f c Pl C:Addr}{fd:FuncData}{k:Nat}{ps:List Str}{sp:Sp}{p1 p2 p3 p4 p5:Str}
theorem FG.df (g:FG K x st f fd)(e:Bs P w K mg base h)(o:FnOk P w K mg base ZF k f fd ps sp)(b:Binds K fd ps []):Def P w K mg base k x ps sp:=⟨f,fd,o,b,g.F.kp,PySem.W.mg_of e.X e.G g.a⟩
theorem FGC.df (g:FGC K x st f fd c Pl)(e:Bs P w K mg base h)(o:FnOk P w K mg base ZF k f fd ps sp)(b:Binds K fd ps []):Def P w K mg base k x ps sp:=⟨f,fd,o,b,g.F.kp,PySem.W.mg_of e.X e.G g.a⟩
theorem FM.df (g:FM K C x q st f fd)(_:Bs P w K mg base h)(o:FnOk P w K mg base ZF k f fd ps sp)(b:Binds K fd ps []):DefM P w K mg base k C x ps sp:=⟨f,fd,o,b,g.m⟩
theorem FM.di {y:Str}(g:FM K C "__init__" q st f fd)(ch:CH K y C)(e:Bs P w K mg base h)(o:FnOk P w K mg base ZF k f fd ps sp)(b:Binds K fd ps []):ZeB P w K mg base k C y ps sp:=⟨f,fd,o,b,⟨ch.ms,g.m.at_,g.m.fn,ch.kp⟩,PySem.W.mg_of e.X e.G ch.a⟩
abbrev BA (x q:Str)(st:Stmt)(us:List Value)(r:List (Str×Value)):Prop:=∀(kV doc pm:Value)(an:Option Addr)(cdv ct:Value),bindArgs (PySem.W.fnOf x q (VD st) (Xs st) (Zj st) .none kV doc pm an cdv ct) ⟨us,[]⟩=pure r
theorem Fun.b1 (F:Fun K x q st f fd)(h:∀ u,BA x q st [u] [(p1,u)]):Binds K fd [p1] []:=F.binds fun a b c d e g us hl=>match us,hl with | [u],_=>h u a b c d e g
theorem Fun.b2 (F:Fun K x q st f fd)(h:∀ u v,BA x q st [u,v] [(p1,u),(p2,v)]):Binds K fd [p1,p2] []:=F.binds fun a b c d e g us hl=>match us,hl with | [u,v],_=>h u v a b c d e g
theorem Fun.b3 (F:Fun K x q st f fd)(h:∀ u v y,BA x q st [u,v,y] [(p1,u),(p2,v),(p3,y)]):Binds K fd [p1,p2,p3] []:=F.binds fun a b c d e g us hl=>match us,hl with | [u,v,y],_=>h u v y a b c d e g
theorem Fun.b4 (F:Fun K x q st f fd)(h:∀ u v y z,BA x q st [u,v,y,z] [(p1,u),(p2,v),(p3,y),(p4,z)]):Binds K fd [p1,p2,p3,p4] []:=F.binds fun a b c d e g us hl=>match us,hl with | [u,v,y,z],_=>h u v y z a b c d e g
theorem Fun.b5 (F:Fun K x q st f fd)(h:∀ u v y z z',BA x q st [u,v,y,z,z'] [(p1,u),(p2,v),(p3,y),(p4,z),(p5,z')]):Binds K fd [p1,p2,p3,p4,p5] []:=F.binds fun a b c d e g us hl=>match us,hl with | [u,v,y,z,z'],_=>h u v y z z' a b c d e g
theorem ZgP (F:Fun K x q st f fd)(h:∀ u,BA x q st [u] [(p1,u)])(s:Shared)(v:Value):BindsTo s fd ⟨[v],[]⟩ [(p1,v)]:=by
 obtain ⟨oc,od,kV,doc,pm,an,cdv,ct,osl,rfl,lk,hcd⟩:=F.ex
 exact .of_eq (h v kV doc pm an cdv ct)
end
end L2
set_option maxHeartbeats 4000000
namespace K25
open PySem L2
open PySem.W in
theorem all_mk {l:PySem.W.OpenLaw}{w:World}{K:PySem.W.Frag}{h:Heap}{mg:Str→Option Value}{fa:Addr}
   {f_z0 f_z1 f_z2 f_z3 f_z4 f_z5 f_z6 f_z7 f_z8 f_z9 f_z10 f_z11 f_z12 f_z13 f_z14 f_z15 f_z16 f_z17 f_z18 f_z19 f_z20 f_z21 f_z22 f_z23 f_z24 f_z25 f_z26 f_z27 f_z28 f_z29 f_z30 f_z31 f_z32 f_z33 f_z34 f_z35 f_z36 f_z37 f_z38 f_z39 f_z40 f_z41 f_z42 f_z43 f_z44 f_z45 f_z46 f_z47 f_z48 f_z49 f_z50 f_z51 f_z52 f_z53 C_Store C_Roads C_RoadError C_NoPlace ca_z3 P_z3:Addr} {d_z0 d_z1 d_z2 d_z3 d_z4 d_z5 d_z6 d_z7 d_z8 d_z9 d_z10 d_z11 d_z12 d_z13 d_z14 d_z15 d_z16 d_z17 d_z18 d_z19 d_z20 d_z21 d_z22 d_z23 d_z24 d_z25 d_z26 d_z27 d_z28 d_z29 d_z30 d_z31 d_z32 d_z33 d_z34 d_z35 d_z36 d_z37 d_z38 d_z39 d_z40 d_z41 d_z42 d_z43 d_z44 d_z45 d_z46 d_z47 d_z48 d_z49 d_z50 d_z51 d_z52 d_z53:FuncData} (X:K.In h) (G:h.Ns mainGlobals mg) (hfa:mg "law"=some (.ref fa))
   (ch_Store:CH K "Store" C_Store)
   (na_Store_nodes:PySem.W.findIn K (.ref C_Store) "nodes"=some none)
   (na_Store_tables:PySem.W.findIn K (.ref C_Store) "tables"=some none)
   (ch_Roads:CH K "Roads" C_Roads)
   (na_Roads_kept:PySem.W.findIn K (.ref C_Roads) "kept"=some none)
   (na_Roads_aheads:PySem.W.findIn K (.ref C_Roads) "aheads"=some none)
   (na_Roads_steps:PySem.W.findIn K (.ref C_Roads) "steps"=some none)
   (na_Roads_tables:PySem.W.findIn K (.ref C_Roads) "tables"=some none)
   (na_Roads_costs:PySem.W.findIn K (.ref C_Roads) "costs"=some none)
   (gx_RoadError:PySem.W.nsIn K mainGlobals "RoadError"=some (some (.ref C_RoadError)))
   (gx_NoPlace:PySem.W.nsIn K mainGlobals "NoPlace"=some (some (.ref C_NoPlace)))
   (h_z0:FG K "alike" s_alike f_z0 d_z0)
   (h_z1:FG K "mark" s_mark f_z1 d_z1)
   (h_z2:FG K "digit" s_digit f_z2 d_z2)
   (h_z3:FGC K "leaf_of" s_leaf_of f_z3 d_z3 ca_z3 P_z3)
   (h_z4:FG K "fork_of" s_fork_of f_z4 d_z4)
   (h_z5:FG K "parts_in" s_parts_in f_z5 d_z5)
   (h_z6:FG K "pairs_in" s_pairs_in f_z6 d_z6)
   (h_z7:FG K "has_mark" s_has_mark f_z7 d_z7)
   (h_z8:FM K C_RoadError "__init__" "RoadError.__init__" c_RoadError___init__ f_z8 d_z8)
   (h_z9:FM K C_Store "__init__" "Store.__init__" c_Store___init__ f_z9 d_z9)
   (h_z10:FM K C_Store "empty" "Store.empty" c_Store_empty f_z10 d_z10)
   (h_z11:FM K C_Store "check_table" "Store.check_table" c_Store_check_table f_z11 d_z11)
   (h_z12:FM K C_Store "keep" "Store.keep" c_Store_keep f_z12 d_z12)
   (h_z13:FM K C_Store "as_table" "Store.as_table" c_Store_as_table f_z13 d_z13)
   (h_z14:FM K C_Store "way" "Store.way" c_Store_way f_z14 d_z14)
   (h_z15:FM K C_Store "looked" "Store.looked" c_Store_looked f_z15 d_z15)
   (h_z16:FM K C_Store "fork_parts" "Store.fork_parts" c_Store_fork_parts f_z16 d_z16)
   (h_z17:FM K C_Store "put_in" "Store.put_in" c_Store_put_in f_z17 d_z17)
   (h_z18:FM K C_Store "put" "Store.put" c_Store_put f_z18 d_z18)
   (h_z19:FM K C_Store "taken_from" "Store.taken_from" c_Store_taken_from f_z19 d_z19)
   (h_z20:FM K C_Store "without" "Store.without" c_Store_without f_z20 d_z20)
   (h_z21:FM K C_Store "made" "Store.made" c_Store_made f_z21 d_z21)
   (h_z22:FM K C_Roads "check_place" "Roads.check_place" c_Roads_check_place f_z22 d_z22)
   (h_z23:FM K C_Roads "table" "Roads.table" c_Roads_table f_z23 d_z23)
   (h_z24:FM K C_Roads "ahead" "Roads.ahead" c_Roads_ahead f_z24 d_z24)
   (h_z25:FM K C_Roads "step" "Roads.step" c_Roads_step f_z25 d_z25)
   (h_z26:FM K C_Roads "step_has" "Roads.step_has" c_Roads_step_has f_z26 d_z26)
   (h_z27:FM K C_Roads "last" "Roads.last" c_Roads_last f_z27 d_z27)
   (h_z28:FM K C_Roads "walked" "Roads.walked" c_Roads_walked f_z28 d_z28)
   (h_z29:FM K C_Roads "places" "Roads.places" c_Roads_places f_z29 d_z29)
   (h_z30:FM K C_Roads "go_on" "Roads.go_on" c_Roads_go_on f_z30 d_z30)
   (h_z31:FM K C_Roads "put" "Roads.put" c_Roads_put f_z31 d_z31)
   (h_z32:FM K C_Roads "clear" "Roads.clear" c_Roads_clear f_z32 d_z32)
   (h_z33:FM K C_Roads "__init__" "Roads.__init__" c_Roads___init__ f_z33 d_z33)
   (h_z34:FG K "_law_cell_at" s_l_cell_at f_z34 d_z34)
   (h_z35:FG K "_law_box" s_l_box f_z35 d_z35)
   (h_z36:FG K "_law_take" s_l_take f_z36 d_z36)
   (h_z37:FG K "_law_names" s_l_names f_z37 d_z37)
   (h_z38:FG K "_law_value" s_l_value f_z38 d_z38)
   (h_z39:FG K "_law_pool" s_l_pool f_z39 d_z39)
   (h_z40:FG K "_law_values" s_l_values f_z40 d_z40)
   (h_z41:FG K "_law_step" s_l_step f_z41 d_z41)
   (h_z42:FG K "_law_from" s_l_from f_z42 d_z42)
   (h_z43:FG K "_law_grown" s_l_grown f_z43 d_z43)
   (h_z44:FG K "is_number" s_is_number f_z44 d_z44)
   (h_z45:FG K "is_tuple_of" s_is_tuple_of f_z45 d_z45)
   (h_z46:FG K "look_paper" s_look_paper f_z46 d_z46)
   (h_z47:FG K "shows_look" s_shows_look f_z47 d_z47)
   (h_z48:FG K "_law_alike" s_l_alike f_z48 d_z48)
   (h_z49:FG K "_law_paper" s_l_paper f_z49 d_z49)
   (h_z50:FG K "_law_is_refused" s_l_is_refused f_z50 d_z50)
   (h_z51:FG K "_law_look_right" s_l_look_right f_z51 d_z51)
   (h_z52:FG K "_law_right" s_l_right f_z52 d_z52)
   (h_z53:FG K "law" s_law f_z53 d_z53)
   (z_len:PySem.W.nsIn K mainGlobals "len"=some none)
   (z_abs:PySem.W.nsIn K mainGlobals "abs"=some none)
   (z_int:PySem.W.nsIn K mainGlobals "int"=some none)
   (z_range:PySem.W.nsIn K mainGlobals "range"=some none)
   (z_min:PySem.W.nsIn K mainGlobals "min"=some none)
   (z_max:PySem.W.nsIn K mainGlobals "max"=some none)
   (z_repr:PySem.W.nsIn K mainGlobals "repr"=some none)
   (z_enumerate:PySem.W.nsIn K mainGlobals "enumerate"=some none)
   (z_ord:PySem.W.nsIn K mainGlobals "ord"=some none)
   (z_list:PySem.W.nsIn K mainGlobals "list"=some none)
   (z_tuple:PySem.W.nsIn K mainGlobals "tuple"=some none)
   (z_dict:PySem.W.nsIn K mainGlobals "dict"=some none)
   (z_sorted:PySem.W.nsIn K mainGlobals "sorted"=some none)
   (z_sum:PySem.W.nsIn K mainGlobals "sum"=some none)
   (z_all:PySem.W.nsIn K mainGlobals "all"=some none)
   (z_any:PySem.W.nsIn K mainGlobals "any"=some none)
   (z_divmod:PySem.W.nsIn K mainGlobals "divmod"=some none)
   (z_str:PySem.W.nsIn K mainGlobals "str"=some none)
   (z_isinstance:PySem.W.nsIn K mainGlobals "isinstance"=some none)
   (z_set:PySem.W.nsIn K mainGlobals "set"=some none)
   (z_zip:PySem.W.nsIn K mainGlobals "zip"=some none)
   (z_reversed:PySem.W.nsIn K mainGlobals "reversed"=some none)
   (z_bool:PySem.W.nsIn K mainGlobals "bool"=some none)
   {tb:Tok}
   (gBASE:PySem.W.nsIn K mainGlobals "BASE"=some (some (.int 4 tb)))
   {tz:Tok}
   (gZERO:PySem.W.nsIn K mainGlobals "BARE_NUMBER"=some (some (.int 0 tz)))
   {ab:Addr}
   (gBARE:PySem.W.nsIn K mainGlobals "BARE"=some (some (.ref ab)))
   (tBARE:Zch K ab [.str "bare"]=true)
   {af:Addr}
   (gFIG:PySem.W.nsIn K mainGlobals "FIGURES"=some (some (.ref af)))
   (tFIG:Zch K af [.int 0,.int 1,.int 2,.int 3]=true)
   (xP_xc:Zdo K C_NoPlace=true)
   (xP_init:PySem.W.findIn K (.ref C_NoPlace) "__init__"=some (some (.ref f_z8)))
   (xP_sa:PySem.W.findIn K (.ref C_NoPlace) "__setattr__"=some (some (.builtin "object.__setattr__")))
   (xP_nw:PySem.W.findIn K (.ref C_NoPlace) "what"=some none)
   (xP_kp:PySem.W.keepIn K (.ref C_NoPlace)=true)
   (xP_ga:PySem.W.findIn K (.ref C_NoPlace) "__getattribute__"=some (some (.builtin "BaseException.__getattribute__")))
   (xP_gh:PySem.W.findIn K (.ref C_NoPlace) "__getattr__"=some none)
   (xP_gc:PySem.W.findIn K (.ref C_NoPlace) "__class__"=some (some (.builtin "object.__class__")))
   (xP_cat:PySem.W.exmOne K (.ref C_NoPlace) (.ref C_RoadError)=some true)
   (xP_isP:PySem.W.kitOne K (.ref C_NoPlace) (.ref C_NoPlace)=some true) :
   ∃ fd:FuncData,(∀ (s:Shared) (v:Value),BindsTo s fd ⟨[v],[]⟩ [("_law_script",v)])∧∀ base:Heap,K.In base→base.Ns mainGlobals mg→UZ base mg→FnOk l.prog w K mg base ZF 15 fa fd ["_law_script"] (Zcf K P_z3):=by
 have e:=hfa.symm.trans (mg_of X G h_z53.a)
 cases e
 have n_len:=mg_none_of X G z_len
 have n_abs:=mg_none_of X G z_abs
 have n_int:=mg_none_of X G z_int
 have n_range:=mg_none_of X G z_range
 have n_min:=mg_none_of X G z_min
 have n_max:=mg_none_of X G z_max
 have n_repr:=mg_none_of X G z_repr
 have n_enumerate:=mg_none_of X G z_enumerate
 have n_ord:=mg_none_of X G z_ord
 have n_list:=mg_none_of X G z_list
 have n_tuple:=mg_none_of X G z_tuple
 have n_dict:=mg_none_of X G z_dict
 have n_sorted:=mg_none_of X G z_sorted
 have n_sum:=mg_none_of X G z_sum
 have n_all:=mg_none_of X G z_all
 have n_any:=mg_none_of X G z_any
 have n_divmod:=mg_none_of X G z_divmod
 have n_str:=mg_none_of X G z_str
 have n_isinstance:=mg_none_of X G z_isinstance
 have n_set:=mg_none_of X G z_set
 have n_zip:=mg_none_of X G z_zip
 have n_reversed:=mg_none_of X G z_reversed
 have n_bool:=mg_none_of X G z_bool
 have g_gBASE:=mg_of X G gBASE
 have g_gZERO:=mg_of X G gZERO
 have g_gBARE:=mg_of X G gBARE
 have g_gFIG:=mg_of X G gFIG
 have g_RoadError:=mg_of X G gx_RoadError
 have g_NoPlace:=mg_of X G gx_NoPlace
 have cl_Store:=ch_Store.c
 have cl_Roads:=ch_Roads.c
 have TB:ZY mg:=⟨n_len,n_abs,n_int,n_range,n_min,n_max,n_repr,n_enumerate,n_ord,n_list,n_tuple,n_dict,n_sorted,n_sum,n_all,n_any,n_divmod,n_str,n_isinstance,n_set,n_zip,n_reversed,n_bool⟩
 have T:Txt K mg:=⟨TB,⟨_,g_gBASE⟩,⟨_,g_gZERO⟩,⟨_,g_gBARE,Zds tBARE⟩,⟨_,g_gFIG,Zds tFIG⟩⟩
 have TC:Xm K C_Store:=⟨cl_Store,na_Store_nodes,na_Store_tables⟩
 have TR:YH K C_Roads:=⟨cl_Roads,na_Roads_kept,na_Roads_aheads,na_Roads_steps,na_Roads_tables,na_Roads_costs⟩
 have TE:TxtE K mg C_RoadError C_NoPlace:=⟨g_RoadError,g_NoPlace,xP_cat,xP_isP,⟨xP_xc,xP_nw,xP_ga,xP_gh,xP_gc⟩⟩
 refine ⟨d_z53,fun s v=>ZgP h_z53.F (fun _ _ _ _ _ _ _=>rfl) s v,fun base _ _ hBm=>?_⟩
 have e:Bs l.prog w K mg base h:=⟨X,G⟩
 have D_z0:=h_z0.df e (ZhY h_z0.F) (h_z0.F.b2 fun _ _ _ _ _ _ _ _=>rfl)
 have D_z1:=h_z1.df e (Zjn h_z1.F T) (h_z1.F.b1 fun _ _ _ _ _ _ _=>rfl)
 have D_z2:=h_z2.df e (ZhM h_z2.F T) (h_z2.F.b2 fun _ _ _ _ _ _ _ _=>rfl)
 have D_z3:=h_z3.df e (ZjZ h_z3.F T hBm D_z1) (h_z3.F.fn.b1 fun _ _ _ _ _ _ _=>rfl)
 have D_z4:=h_z4.df e (Zgl h_z4.F T) (h_z4.F.b1 fun _ _ _ _ _ _ _=>rfl)
 have D_z5:=h_z5.df e (Zhc h_z5.F) (h_z5.F.b1 fun _ _ _ _ _ _ _=>rfl)
 have D_z6:=h_z6.df e (Zia h_z6.F) (h_z6.F.b1 fun _ _ _ _ _ _ _=>rfl)
 have D_z7:=h_z7.df e (ZjF h_z7.F) (h_z7.F.b2 fun _ _ _ _ _ _ _ _=>rfl)
 have b_z8:Binds K d_z8 ["self","what"] []:=h_z8.F.b2 fun _ _ _ _ _ _ _ _=>rfl
 have D_NoPlace:Zhi l.prog w K mg base 1 C_NoPlace "NoPlace":=⟨_,_,(Zif h_z8.F).mono (by decide),b_z8,⟨xP_xc,xP_init,xP_sa,xP_nw,h_z8.m.fn,xP_kp⟩,g_NoPlace⟩
 have D_z9:=h_z9.di ch_Store e (FnOk.conv (sp':=Zbj K C_Store) (Zjj h_z9.F T TC) (fun _ _ _ _ h=>ZlB h)) (h_z9.F.b1 fun _ _ _ _ _ _ _=>rfl)
 have D_z10:=h_z10.df e (Zhl (C:=C_Store) h_z10.F T) (h_z10.F.b1 fun _ _ _ _ _ _ _=>rfl)
 have D_z11:=h_z11.df e (Zhq h_z11.F TC) (h_z11.F.b2 fun _ _ _ _ _ _ _ _=>rfl)
 have D_z12:=h_z12.df e (ZjC h_z12.F T TC) (h_z12.F.b2 fun _ _ _ _ _ _ _ _=>rfl)
 have D_z13:=h_z13.df e (Zlh h_z13.F TC) (h_z13.F.b2 fun _ _ _ _ _ _ _ _=>rfl)
 have D_z14:=h_z14.df e (ZkM h_z14.F T TC D_z11 D_z5 D_z1 D_z2) (h_z14.F.b3 fun _ _ _ _ _ _ _ _ _=>rfl)
 have D_z15:=h_z15.df e (Zfz h_z15.F T TC D_z14 D_z6) (h_z15.F.b3 fun _ _ _ _ _ _ _ _ _=>rfl)
 have D_z16:=h_z16.df e (Zmm h_z16.F T TC D_z5 D_z6 D_z1 D_z2) (h_z16.F.b3 fun _ _ _ _ _ _ _ _ _=>rfl)
 have b_z17:Binds K d_z17 ["self","number","level","name","value"] []:=h_z17.F.b5 fun _ _ _ _ _ _ _ _ _ _ _=>rfl
 have D_z17:∀ NS,Yv NS→DefM l.prog w K mg base 8 C_Store "put_in" nPi (Vw K C_Store P_z3 NS 6):=fun NS N=>⟨_,_,ZdS N h_z17.F T TC D_z7 D_z6 D_z1 D_z2 D_z3 D_z4 D_z12 D_z16 b_z17 h_z17.m 6,b_z17,h_z17.m⟩
 have b_z18:Binds K d_z18 ["self","table","name","value"] []:=h_z18.F.b4 fun _ _ _ _ _ _ _ _ _ _=>rfl
 have D_z18:DefM l.prog w K mg base 9 C_Store "put" ["self","table","name","value"] (Zde K C_Store P_z3):=⟨_,_,Zml fun NS N=>Zlb N h_z18.F TC D_z0 D_z15 D_z13 (D_z17 NS N),b_z18,h_z18.m⟩
 have b_z19:Binds K d_z19 ["self","number","level","name"] []:=h_z19.F.b4 fun _ _ _ _ _ _ _ _ _ _=>rfl
 have D_z19:∀ NS,Yv NS→DefM l.prog w K mg base 8 C_Store "taken_from" nTk (ZaZ K C_Store P_z3 NS 6):=fun NS N=>⟨_,_,Zer N h_z19.F T TC D_z7 D_z5 D_z6 D_z1 D_z2 D_z3 D_z4 D_z12 b_z19 h_z19.m 6,b_z19,h_z19.m⟩
 have b_z20:Binds K d_z20 ["self","table","name"] []:=h_z20.F.b3 fun _ _ _ _ _ _ _ _ _=>rfl
 have D_z20:DefM l.prog w K mg base 9 C_Store "without" ["self","table","name"] (ZeP K C_Store P_z3):=⟨_,_,wo_S fun NS N=>Zmy N h_z20.F TC D_z15 D_z13 (D_z19 NS N),b_z20,h_z20.m⟩
 have D_z21:=h_z21.df e (ZjW h_z21.F T TC) (h_z21.F.b1 fun _ _ _ _ _ _ _=>rfl)
 have b_z22:Binds K d_z22 ["self","place"] []:=h_z22.F.b2 fun _ _ _ _ _ _ _ _=>rfl
 have D_z22:DefM l.prog w K mg base 1 C_Roads "check_place" WD (Zay K C_Roads C_Store):=⟨_,_,Zkb h_z22.F TB TR,b_z22,h_z22.m⟩
 have B_check_place:UD l.prog w K mg base 3 C_Roads "check_place" WD (VJ K C_Roads C_Store C_NoPlace):=⟨_,_,ZjU h_z22.F TB TR D_NoPlace,b_z22,h_z22.m⟩
 have D_z23:=h_z23.df e (Zin h_z23.F TB TR D_z22) (h_z23.F.b2 fun _ _ _ _ _ _ _ _=>rfl)
 have D_z24:=h_z24.df e (ZhF h_z24.F TB TR D_z22) (h_z24.F.b2 fun _ _ _ _ _ _ _ _=>rfl)
 have b_z25:Binds K d_z25 ["self","place"] []:=h_z25.F.b2 fun _ _ _ _ _ _ _ _=>rfl
 have D_z25:DefM l.prog w K mg base 2 C_Roads "step" Uf (VF K C_Roads C_Store):=⟨_,_,ZhT h_z25.F TB TR D_z22,b_z25,h_z25.m⟩
 have B_step:UD l.prog w K mg base 4 C_Roads "step" Uf (VJ K C_Roads C_Store C_NoPlace):=⟨_,_,Zho h_z25.F TB TR B_check_place,b_z25,h_z25.m⟩
 have b_z26:Binds K d_z26 ["self","place","name"] []:=h_z26.F.b3 fun _ _ _ _ _ _ _ _ _=>rfl
 have D_z26:DefM l.prog w K mg base 3 C_Roads "step_has" Uc (Zce K C_Roads C_Store):=⟨_,_,ZkW h_z26.F TB TR D_z25,b_z26,h_z26.m⟩
 have B_step_has:UD l.prog w K mg base 5 C_Roads "step_has" Uc (XD K C_Roads C_Store C_NoPlace 1):=⟨_,_,Zjr h_z26.F TB TR B_step,b_z26,h_z26.m⟩
 have D_z27:=h_z27.df e (Zju h_z27.F TB TR D_z26 (D_z24.mono (by decide))) (h_z27.F.b3 fun _ _ _ _ _ _ _ _ _=>rfl)
 have D_z28:=h_z28.df e (ZfN h_z28.F TB TR D_z27) (h_z28.F.b3 fun _ _ _ _ _ _ _ _ _=>rfl)
 have D_z29:=h_z29.df e (Zgb (CS:=C_Store) h_z29.F TB TR) (h_z29.F.b1 fun _ _ _ _ _ _ _=>rfl)
 have D_z30:=h_z30.df e (Zki h_z30.F TB TR TC (D_z23.mono (by decide)) (D_z21.mono (by decide)) D_z18 D_z20) (h_z30.F.b3 fun _ _ _ _ _ _ _ _ _=>rfl)
 have D_z31:=h_z31.df e (ZjR h_z31.F TB TR D_z30) (h_z31.F.b4 fun _ _ _ _ _ _ _ _ _ _=>rfl)
 have D_z32:=h_z32.df e (Zkf h_z32.F TB TR D_z30) (h_z32.F.b3 fun _ _ _ _ _ _ _ _ _=>rfl)
 have D_z33:=h_z33.di ch_Roads e ((Zhk h_z33.F TB TR TC D_z9 (D_z10.mono (by decide))).mono (show 3≤12 by decide)) (h_z33.F.b1 fun _ _ _ _ _ _ _=>rfl)
 have D_z34:=h_z34.df e (ZjX h_z34.F TB) (h_z34.F.b2 fun _ _ _ _ _ _ _ _=>rfl)
 have D_z35:=h_z35.df e (FnOk.conv (sp':=Zdh K) (Zkr h_z35.F TB D_z34) (fun _ _ _ _ h=>Zmi h)) (h_z35.F.b2 fun _ _ _ _ _ _ _ _=>rfl)
 have b_z36:Binds K d_z36 ["_law_box_here","_law_many"] []:=h_z36.F.b2 fun _ _ _ _ _ _ _ _=>rfl
 have DT0:Ziv l.prog w K mg base:=⟨_,_,ZjO h_z36.F,b_z36,h_z36.F.kp,(mg_of X G h_z36.a)⟩
 have D_z36:DTk l.prog w K mg base 1:=DT0.conv fun _ _ _ _ h=>ZkJ h
 have D_z37:=h_z37.df e (ZgW h_z37.F TB D_z36) (h_z37.F.b2 fun _ _ _ _ _ _ _ _=>rfl)
 have D_z38:=h_z38.df e (FnOk.conv (sp':=VW) (Zib h_z38.F T DT0) (fun _ _ _ _ h=>Zjq h)) (h_z38.F.b1 fun _ _ _ _ _ _ _=>rfl)
 have D_z39:=h_z39.df e (Zke h_z39.F TB D_z36 D_z37) (h_z39.F.b2 fun _ _ _ _ _ _ _ _=>rfl)
 have D_z40:=h_z40.df e (ZgB h_z40.F TB D_z38) (h_z40.F.b1 fun _ _ _ _ _ _ _=>rfl)
 have D_z41:=h_z41.df e (Zja h_z41.F TB D_z36) (h_z41.F.b3 fun _ _ _ _ _ _ _ _ _=>rfl)
 have D_z42:=h_z42.df e (ZjN h_z42.F TB D_z36) (h_z42.F.b2 fun _ _ _ _ _ _ _ _=>rfl)
 have D_z43:=h_z43.df e (Zhf h_z43.F TB TR D_z31 D_z32) (h_z43.F.b4 fun _ _ _ _ _ _ _ _ _ _=>rfl)
 have D_z44:=h_z44.df e (Zkm h_z44.F TB) (h_z44.F.b1 fun _ _ _ _ _ _ _=>rfl)
 have D_z45:=h_z45.df e (Zlz h_z45.F TB D_z44) (h_z45.F.b2 fun _ _ _ _ _ _ _ _=>rfl)
 have b_z46:Binds K d_z46 ["roads","place","name"] []:=h_z46.F.b3 fun _ _ _ _ _ _ _ _ _=>rfl
 have D_z46:Def l.prog w K mg base 4 "look_paper" UY (Zfc K C_Roads C_Store):=⟨_,_,Zmc h_z46.F TB TR D_z26 (D_z24.mono (by decide)),b_z46,h_z46.F.kp,(mg_of X G h_z46.a)⟩
 have B_look_paper:DefX l.prog w K mg base 6 "look_paper" UY (XD K C_Roads C_Store C_NoPlace 1):=⟨_,_,ZlI h_z46.F TB TR B_step_has (D_z24.mono (by decide)),b_z46,h_z46.F.kp,(mg_of X G h_z46.a)⟩
 have b_z47:Binds K d_z47 ["roads","place","name","told","paper"] []:=h_z47.F.b5 fun _ _ _ _ _ _ _ _ _ _ _=>rfl
 have D_z47:Def l.prog w K mg base 6 "shows_look" VZ (Zhe K C_Roads C_Store):=⟨_,_,ZlY h_z47.F TB TR (D_z46.mono (by decide)) (D_z45.mono (by decide)) (D_z0.mono (by decide)) D_z28,b_z47,h_z47.F.kp,(mg_of X G h_z47.a)⟩
 have B_shows_look:DefX l.prog w K mg base 7 "shows_look" VZ (XD K C_Roads C_Store C_NoPlace 3):=⟨_,_,ZkE h_z47.F TB TR B_look_paper (D_z45.mono (by decide)) (D_z0.mono (by decide)) (D_z28.mono (by decide)),b_z47,h_z47.F.kp,(mg_of X G h_z47.a)⟩
 have D_z48:=h_z48.df e (Zfp h_z48.F TB) (h_z48.F.b2 fun _ _ _ _ _ _ _ _=>rfl)
 have D_z49:=h_z49.df e (Zmq h_z49.F TB) (h_z49.F.b3 fun _ _ _ _ _ _ _ _ _=>rfl)
 have D_z50:=h_z50.df e (Zmu h_z50.F TB TR TE (B_look_paper.mono (by decide)) B_shows_look) (h_z50.F.b3 fun _ _ _ _ _ _ _ _ _=>rfl)
 have D_z51:=h_z51.df e (ZlX h_z51.F TB D_z36 (D_z49.mono (by decide)) (D_z46.mono (by decide)) (D_z47.mono (by decide)) (D_z48.mono (by decide))) (h_z51.F.b5 fun _ _ _ _ _ _ _ _ _ _ _=>rfl)
 have D_z52:=h_z52.df e (ZhD h_z52.F TB TR D_z36 (D_z39.mono (by decide)) (D_z40.mono (by decide)) D_z33 (D_z42.mono (by decide)) (D_z41.mono (by decide)) (D_z43.mono (by decide)) D_z51 (D_z50.mono (by decide)) (D_z29.mono (by decide)) (D_z25.mono (by decide))) (h_z52.F.b1 fun _ _ _ _ _ _ _=>rfl)
 exact ZkS h_z53.F TB (D_z35.mono (by decide)) D_z52
theorem walk {l:PySem.W.OpenLaw}{q:Program}{loose:List Str}{XP:(Str→Option Value)→Heap→Prop}{YP:World→Heap→Prop}{d:DefRec}{K:Params→PySem.W.Frag}{ts:List Addr}{P_z3:Addr}(hn:l.most=some 63)(hdf:d.params.defaults=[])
   (hY:∀ (w:World) (h:Heap),YP w h→(K w.params).In h∧∀ b∈ts,h.get? b=some (PySem.W.tabObj #[]))
   (hK:∀ (w:World) (b:Addr),b∈ts→(K w.params).lookup b=none∧∃ c,PySem.W.codeHdIn (K w.params) c b=true)
   (hP_leaf_of:P_z3∈ts) (F:∀ (w:World) (mg:Str→Option Value) (fa:Addr) (h:Heap),(K w.params).In h→h.Ns mainGlobals mg→mg d.name=some (.ref fa) →
     ∃ fd:FuncData,(∀ (s:Shared) (u:Value),BindsTo s fd ⟨[u],[]⟩ [("_law_script",u)])∧∀ base:Heap,(K w.params).In base→base.Ns mainGlobals mg→UZ base mg→FnOk l.prog w (K w.params) mg base ZF 15 fa fd ["_law_script"] (Zcf (K w.params) P_z3)) :
   PySem.W.WalkO q loose XP YP l.row.toRowW d [] (fun f vs=>PySem.call f vs) :=
 L2.walk_ofT (n:=63) (k:=15) (x:="_law_script") (CX:=fun _=>ZF) (sp:=fun w=>Zcf (K w.params) P_z3) (ts:=ts) hn (by decide) hdf ⟨rfl,by decide,by decide,rfl⟩ hY hK F (fun w H a ns hl hO hS hT=>⟨a,ns,rfl,hS,hl,.inl (hT _ hP_leaf_of),fun _=>rfl⟩) fun _ _ _ _ _ z=>z
end K25
namespace PySem.W.Fast
def tw2369867307622319314 := 0
def tw10875324494190783871 := 0
def tw13892628777038115495 := 0
def tw7348778924543834457 := 0
def tw1116884252403361519 := 0
def tw17995175496152738529 := 0
def tw469605757738671039 := 0
def tw3833069136400330970 := 0
def tw2204951763526646863 := 0
def tw16677055002749980459 := 0
def tw15505540826632764109 := 0
def tw15898907976788222230 := 0
def tw17530934660697963620 := 0
def tw14891953387392573705 := 0
def tw6151377521216263815 := 0
def tw16478757061267150592 := 0
def tw8465653976165507963 := 0
def tw12570208282325577968 := 0
def tw15055958411668806533 := 0
def tw12515667856096215742 := 0
def tw600031438190580432 := 0
def tw8800150186938398612 := 0
def tw3971263542797189234 := 0
def tw4677074824368192623 := 0
def tw17145893632326408510 := 0
def tw14429768258391753484 := 0
def tw3001135565356314469 := 0
def tw3139997412466331384 := 0
def tw4289309072601101859 := 0
def tw5296710410741082672 := 0
def tw656012560363190297 := 0
def tw8846248828016205930 := 0
def tw12561404556620625572 := 0
def tw3600455009055305067 := 0
def tw3516953549568551005 := 0
def tw12445709257999181140 := 0
def tw11248311857937129913 := 0
def tw12142395293174197884 := 0
def tw10670486846719599309 := 0
def tw1714667731114167915 := 0
def tw668628670381309982 := 0
def tw2292558053717595961 := 0
def tw16578371150926972352 := 0
def tw3452873410576690548 := 0
def tw6509222720024449912 := 0
def tw14036765990750028446 := 0
def tw13655647039730686617 := 0
def tw2154721963616221968 := 0
def tw16815069985693934957 := 0
def tw2825827497489075046 := 0
def tw13475559989116524271 := 0
def tw13160307473133267762 := 0
def tw5774001693717304184 := 0
def tw16755500333435989578 := 0
def tw10106022728572120035 := 0
def tw675761217483464702 := 0
def tw5949924973281290659 := 0
def tw12960962224237674314 := 0
def tw8230919608381674372 := 0
def tw4013065063342523020 := 0
def tw10522879856193893266 := 0
def tw11247349987926721776 := 0
def tw3214523641012367180 := 0
def tw7594478770167712159 := 0
def tw3863768814140383592 := 0
def tw6645176844759655159 := 0
def tw17599442063996697521 := 0
def tw4012715205077405828 := 0
def tw4338071017887490347 := 0
def tw7548689653032131928 := 0
def tw7574151316164733414 := 0
def tw12857040630321962099 := 0
def tw7283681517422435620 := 0
def tw2009542551085330623 := 0
def tw691571102458198153 := 0
def tw6021891627310942505 := 0
def tw7233172855944438452 := 0
def tw6543552625050639603 := 0
def tw4508480211778869552 := 0
def tw6092134278916220999 := 0
def tw9546301549580698078 := 0
def tw312530799458039359 := 0
def tw12708271624910554409 := 0
def tw2266697102637374349 := 0
def tw13210719614764908551 := 0
def tw3747874951338630212 := 0
def tw13338065055531300682 := 0
def tw15507923068495136712 := 0
def tw14920932571997947324 := 0
def tw9381348032823159080 := 0
def tw4884621404652746002 := 0
def tw17726207705197904843 := 0
def tw210729887195286585 := 0
def tw6245091926393568362 := 0
def tw17176061831014942961 := 0
def tw10321667758516213993 := 0
def tw14961997081832789244 := 0
def tw174189249397898495 := 0
def tw8496160478102880373 := 0
def tw7221171376107949958 := 0
def tw9913750462905107277 := 0
def tw1403053827867479446 := 0
def tw12214105074396605201 := 0
def tw17625501579309472805 := 0
def tw2925483247535379598 := 0
def tw8162734079371667465 := 0
def tw13774614587408546914 := 0
def tw16459992032002488904 := 0
def tw11709106519283979225 := 0
def tw16172877380427623541 := 0
def tw13126403663095046617 := 0
def tw3601681168270476389 := 0
def tw8143939727238473836 := 0
def tw9586482602325700878 := 0
def tw2292775845338608899 := 0
def tw827789216617619168 := 0
def tw14063618770900304150 := 0
def tw17735099111056002999 := 0
def tw16737737458465445555 := 0
def tw6941807686530441741 := 0
def tw15486878104902364925 := 0
def tw5215041730565239862 := 0
def tw5262912762655685160 := 0
def tw16001946673494315485 := 0
def tw717323915149036729 := 0
def tw5637409914099973921 := 0
def tw5782297958005978003 := 0
def tw8394565213288040007 := 0
def tw14703076136330773944 := 0
def tw5020402314460129317 := 0
def tw9083603529520271341 := 0
def tw4744596395579530994 := 0
def tw18239642019943166350 := 0
def tw4286011773633183340 := 0
def tw6064885405950846885 := 0
def tw11130875717821132527 := 0
def tw7871537887278486088 := 0
def tw6222773391357328221 := 0
def tw18000394546674169674 := 0
def tw16895549822513266821 := 0
def tw3019149321549693280 := 0
def tw7140615225958937508 := 0
def tw11175680734181603390 := 0
def tw8829645923987373544 := 0
def tw14054358792916631038 := 0
def tw8216627002462426252 := 0
def tw15424040876729078087 := 0
def tw8584895928265347220 := 0
def tw7015983472646765905 := 0
def tw18169864834527617653 := 0
def tw18123178412965717364 := 0
def tw4097390538838907823 := 0
def tw817081970531910647 := 0
def tw1051925834546927619 := 0
def tw16225514491089750304 := 0
def tw15958904774419035229 := 0
def tw4224761897426837805 := 0
def tw14686529653534284266 := 0
def tw15018673801085200630 := 0
def tw17339126228421562111 := 0
def tw7735329838576673042 := 0
def tw4787402447345147373 := 0
def tw2069862270979040934 := 0
def tw11288249778131160289 := 0
def tw4064337420691770434 := 0
def tw1351487083763913357 := 0
def tw13883829566920502210 := 0
def tw11560070996105286009 := 0
def tw5059978621815616956 := 0
def tw9224588605718988400 := 0
def tw17845254342987121169 := 0
def tw54517147975740585 := 0
def tw15698794263841522102 := 0
def tw14231896359722385248 := 0
def tw13562645971560649461 := 0
def tw18422300740256838444 := 0
def tw4539690441441138261 := 0
def tw15486698793456634294 := 0
def tw11470343419977280334 := 0
def tw3955174118922705802 := 0
def tw12899738967884728728 := 0
def tw9411686602725588155 := 0
def tw7327755464494454608 := 0
def tw10029994022104889135 := 0
def tw11730060007511416097 := 0
def tw16674198443624059772 := 0
def tw8734843523925883673 := 0
def tw15622904601253465761 := 0
def tw12037751448481077994 := 0
def tw2289157417266907256 := 0
def tw13212877811302117622 := 0
def tw1819952153280899538 := 0
def tw8125654977741332233 := 0
def tw4964737757751662784 := 0
def tw14702806315268010321 := 0
def tw6273329077973735497 := 0
def tw5743203196943109422 := 0
def tw2913427621167822346 := 0
def tw10215426568281121622 := 0
def tw11843524938851744495 := 0
def tw4482607541827645282 := 0
def tw17318977224931680438 := 0
def tw2800219990929439775 := 0
def tw7763302287833585273 := 0
def tw7503145437538166881 := 0
def tw13110857539696939806 := 0
def tw9612872276636293905 := 0
def tw17769245910438605811 := 0
def tw16371121433686583686 := 0
def tw3854400896214477394 := 0
def tw11648215983174656362 := 0
def tw2268201629732590302 := 0
def tw1814237531513917149 := 0
def tw17698956389493453310 := 0
def tw16886903290426339567 := 0
def tw9567441401376502607 := 0
def tw3153808279437017555 := 0
def tw12439542968044865460 := 0
def tw8512196262008977377 := 0
def tw8368028436058980507 := 0
def tw7684722647213324105 := 0
def tw6022968939089728587 := 0
def tw15265945568599146730 := 0
def tw8196142042281667999 := 0
def tw6931871014566543906 := 0
def tw2456384536102621523 := 0
def tw11087977489886707512 := 0
def tw8391001523029049167 := 0
def tw7642539151500385335 := 0
def tw4656345615919519210 := 0
def tw8321532444487864854 := 0
def tw2447905895427422101 := 0
def tw232364779521602845 := 0
def tw17112097885494768131 := 0
def tw6111467926181757434 := 0
def tw5641864053762373478 := 0
def tw8297022074468024318 := 0
def tw3961906762852359623 := 0
def tw15989987962184458452 := 0
def tw15698686672756470394 := 0
def tw13112144706623330432 := 0
def tw17826167117455839104 := 0
def tw4741955319606776007 := 0
def tw455322852678113858 := 0
def tw206912160557156661 := 0
def tw15834189106665062538 := 0
def tw5045880743586839099 := 0
def tw572671635868458878 := 0
def tw8512074667320431635 := 0
def tw12376175706254673786 := 0
def tw17638099210719888510 := 0
def tw9138707532187694809 := 0
def tw6521298450830618330 := 0
def tw8566076051430089346 := 0
def tw14139302677686726442 := 0
def tw6493975261009574120 := 0
def tw5266529667753707519 := 0
def tw15674686552870113503 := 0
def tw4992821851868900673 := 0
def tw17979651729303968075 := 0
def tw8139214589737307131 := 0
def tw891535601237438616 := 0
def tw8303062065540495282 := 0
def tw8159753448026227975 := 0
def tw745509123734235417 := 0
def tw7279673902198332831 := 0
def tw7068900850624168892 := 0
def tw6549398859472685372 := 0
def tw6255872622025414340 := 0
def tw6232265614369402491 := 0
def tw5538047368437767765 := 0
def tw5232066782452802749 := 0
def tw488499096511047025 := 0
def tw412746040295830977 := 0
def tw2245954562709828494 := 0
def tw18086787753769703101 := 0
def tw15027171968747013610 := 0
def tw14155471430588928736 := 0
def tw1391641116839875001 := 0
def tw12657092547153095836 := 0
def tw17016544733719575452 := 0
def tw10972233083739927936 := 0
def tw16055881731878945005 := 0
def tw13608134897507601504 := 0
def tw12221358262123117825 := 0
def tw7768327903416058584 := 0
def tw919655085157302262 := 0
def tw8481818569739369406 := 0
def tw7800672824725519200 := 0
def tw2556620437833696359 := 0
def tw17302463764769498072 := 0
def tw13757569148915506772 := 0
def tw17326910422085174045 := 0
def tw7059791020460698314 := 0
def tw5376986787350393980 := 0
def tw14384491918136950455 := 0
def tw12055908484508662096 := 0
def tw11323401404038355365 := 0
def tw11295952933783256515 := 0
def tw5633357787750017200 := 0
def tw10057487520990148583 := 0
def tw9536814266422446658 := 0
def tw9330379572147803499 := 0
def tw9213766548761947495 := 0
def tw872904723479189440 := 0
def tw8123273553886247499 := 0
def tw8037476937412231270 := 0
def tw7006084928309158707 := 0
def tw6664670077636486936 := 0
def tw6560000144434364855 := 0
def tw5552891307017723813 := 0
def tw4371805348774670458 := 0
def tw3298007657924275922 := 0
def tw2077976352429014971 := 0
def tw15213802708269109031 := 0
def tw14959944294925208037 := 0
def tw14073726947979475947 := 0
def tw13537642567965306729 := 0
def tw13306409800587345624 := 0
def tw12408265627154404482 := 0
def tw12200925761045411272 := 0
def tw11852409205591055902 := 0
def tw10288102664075894922 := 0
def tw5953684886954119841 := 0
def tw6971324461019892234 := 0
def tw460440657884406587 := 0
def tw1388368267145345545 := 0
def tw4371580186279893301 := 0
def tw14909035130341471473 := 0
def tw8891936372121090535 := 0
def tw8421364909224398134 := 0
def tw8144667896089758032 := 0
def tw4010870463218860136 := 0
def tw17718578181975284317 := 0
def tw14400905939624988458 := 0
def tw12887150547435693178 := 0
def tw11464317095741258722 := 0
def tw10864400674618961360 := 0
def tw8252362971184514851 := 0
def tw6650320341858584248 := 0
def tw5924812389189475930 := 0
def tw580977193283636328 := 0
def tw2010063997755183584 := 0
def tw18273034419455624180 := 0
def tw17185724710856790451 := 0
def tw14874391971284087710 := 0
def tw10701803296902999402 := 0
def tw14692771628965438374 := 0
def tw9824387599173120269 := 0
def tw6054155490456381637 := 0
def tw12771831606499306124 := 0
def tw14355049096705713801 := 0
def tw10521830082664100435 := 0
def tw15947468174157236403 := 0
def tw12639431417520591959 := 0
def tw15902300497617484203 := 0
def tw9899466345975233407 := 0
def tw5686641135274824878 := 0
def tw1115093334294225769 := 0
def tw7383307797070829937 := 0
def tw4154343693898447561 := 0
def tw2680396503435394722 := 0
def tw266251640250405012 := 0
def tw16223539273134326853 := 0
def tw15998843337641221086 := 0
def tw15787839942334229924 := 0
def tw15246983153223090922 := 0
def tw15012641924224578541 := 0
def tw13880127803851969043 := 0
def tw12833804088246465236 := 0
def tw3421801284762323592 := 0
def tw7517684544441680007 := 0
def tw7173064306363339198 := 0
def tw2027278422047347423 := 0
def tw2001051604126707599 := 0
def tw16184686810540252707 := 0
def tw11415402401079978612 := 0
def tw5882544962624834847 := 0
def tw1727832638111415459 := 0
def tw6970686168632899848 := 0
def tw8349267958499570707 := 0
def tw18120166933697763448 := 0
def tw5464364911377286190 := 0
def tw2618944577732612364 := 0
def tw17519333234490050145 := 0
def tw17165965306759667482 := 0
def tw11829533822998519554 := 0
def tw9720088546650811705 := 0
def tw13119610618521884143 := 0
def tw8629902507693629222 := 0
def tw7391097303851506382 := 0
def tw6807511501312318493 := 0
def tw6687409991309379814 := 0
def tw5716143844428512047 := 0
def tw5686923805781376258 := 0
def tw5237214321840803037 := 0
def tw4692869923418875207 := 0
def tw4162308382141687204 := 0
def tw3937353260604501452 := 0
def tw3422257874828160543 := 0
def tw3188606480883351391 := 0
def tw2853534217638121997 := 0
def tw20158381250901085 := 0
def tw18440220592834781546 := 0
def tw18080317714190613044 := 0
def tw16986136841395926604 := 0
def tw16352704048102409148 := 0
def tw1617833806334069239 := 0
def tw14630787859431579693 := 0
def tw14223650445230163801 := 0
def tw13680862485139170062 := 0
def tw12882633033975199535 := 0
def tw12019428019189417427 := 0
def tw11700320507931864726 := 0
def tw11224469947070724656 := 0
def tw10882758993164919033 := 0
def tw9984655005862655794 := 0
def tw9955710795345628828 := 0
def tw9817646299294737763 := 0
def tw9629113557988856303 := 0
def tw9582032676405406134 := 0
def tw9548238215289251949 := 0
def tw9460815552609620516 := 0
def tw9381637333482078195 := 0
def tw9370054684961428418 := 0
def tw9364035020074184420 := 0
def tw9357909621159042372 := 0
def tw9211441355867601226 := 0
def tw9204894400562202510 := 0
def tw9181611735294181404 := 0
def tw9107898672331377828 := 0
def tw9088720435540067169 := 0
def tw9028352983775259265 := 0
def tw8923200361470594618 := 0
def tw8852138966711696240 := 0
def tw8825069411013233407 := 0
def tw8804444066242168029 := 0
def tw879413166762574320 := 0
def tw8785045677067725178 := 0
def tw8750171258228707980 := 0
def tw867630541023821274 := 0
def tw8654467581999408567 := 0
def tw8654326768951213121 := 0
def tw8644804039821318084 := 0
def tw8551775918806846315 := 0
def tw8548131507595468293 := 0
def tw8485718268014373738 := 0
def tw8467274959077805249 := 0
def tw8337992397968214548 := 0
def tw8327115068922671972 := 0
def tw8283816887738623454 := 0
def tw822730347240464500 := 0
def tw8209147717038935423 := 0
def tw8200655132361056580 := 0
def tw8133342198846941266 := 0
def tw8038061268533408729 := 0
def tw8010078768958186617 := 0
def tw7993200515940850 := 0
def tw7961103426981057003 := 0
def tw7923687083646279538 := 0
def tw7790894405430290241 := 0
def tw7770622008697591731 := 0
def tw7714879969650730629 := 0
def tw7608377523323525575 := 0
def tw752973743390319048 := 0
def tw7509939435101934789 := 0
def tw7451199785182843045 := 0
def tw741267480937027826 := 0
def tw7305857700295450583 := 0
def tw7286267673006756015 := 0
def tw7245886242461922283 := 0
def tw7242076397786357771 := 0
def tw7021564788059243256 := 0
def tw6980612519855728920 := 0
def tw6927292424170029476 := 0
def tw6892679862509747504 := 0
def tw6832778432079781206 := 0
def tw675408594941235071 := 0
def tw6715772425970774117 := 0
def tw6678866556338151742 := 0
def tw6635120830054635259 := 0
def tw6631547446023721197 := 0
def tw6617795079992167394 := 0
def tw6611521420420409059 := 0
def tw6588529237031369497 := 0
def tw6449097051741113277 := 0
def tw6410875658197037516 := 0
def tw6350016577820792543 := 0
def tw6265199669827837768 := 0
def tw6245788067228540258 := 0
def tw6223439016456478656 := 0
def tw6207428589608300209 := 0
def tw6134652096590169036 := 0
def tw6076985757878277997 := 0
def tw5992826239974687263 := 0
def tw5968673109172595567 := 0
def tw5899485448048495858 := 0
def tw5855255032743395551 := 0
def tw5776152708876796714 := 0
def tw576762078471968557 := 0
def tw5710310035376216442 := 0
def tw569811610932241768 := 0
def tw5678299497825574176 := 0
def tw5646402686409235049 := 0
def tw5565701646829086221 := 0
def tw5482564572670974356 := 0
def tw5343170127347869535 := 0
def tw5340996717180153698 := 0
def tw5223114706903109624 := 0
def tw5184184600389162675 := 0
def tw5084517913226481534 := 0
def tw5035047615824964445 := 0
def tw4869372876198153605 := 0
def tw4845580203244445913 := 0
def tw4843520571396332204 := 0
def tw4773118527416583786 := 0
def tw4739630328676947618 := 0
def tw4692123355424368764 := 0
def tw4398698275085774803 := 0
def tw4334231692493518072 := 0
def tw4242009606549329103 := 0
def tw4020908286098585297 := 0
def tw4005707239714432054 := 0
def tw4001912197896746202 := 0
def tw3956176071210826495 := 0
def tw3910931156401697175 := 0
def tw3795712883140931319 := 0
def tw3754610853923149594 := 0
def tw367710678986347059 := 0
def tw360136969521110814 := 0
def tw3587062627294450015 := 0
def tw3558285737359371259 := 0
def tw353908255938203869 := 0
def tw3509871425329690345 := 0
def tw3506283337416018664 := 0
def tw344102818230044021 := 0
def tw340160784789291611 := 0
def tw3271690408712563909 := 0
def tw3267792026375186830 := 0
def tw3230784755987807350 := 0
def tw3205949663685837861 := 0
def tw3202130731829115947 := 0
def tw3150234319890749687 := 0
def tw3130015462149160804 := 0
def tw3126330526301720600 := 0
def tw3121535172020011744 := 0
def tw3070351502519856604 := 0
def tw3012646910401550159 := 0
def tw3003164884599235535 := 0
def tw297728834628592123 := 0
def tw2599600669070639283 := 0
def tw2571902508910171042 := 0
def tw2443013753883116379 := 0
def tw2390189981889022076 := 0
def tw2389107604027317063 := 0
def tw2364777553121654164 := 0
def tw2323433616021812781 := 0
def tw2263833202576053615 := 0
def tw2221974312283853730 := 0
def tw2096937723413779817 := 0
def tw2001019425869727051 := 0
def tw1983870241144730456 := 0
def tw1978880823376886080 := 0
def tw1956248724233896984 := 0
def tw1936684607790779466 := 0
def tw1867475930594575639 := 0
def tw1861710375905986247 := 0
def tw18306845141990770003 := 0
def tw18213535863532603418 := 0
def tw18087183992486699797 := 0
def tw18061995451581537750 := 0
def tw17998791527426364234 := 0
def tw17868005040167098921 := 0
def tw17810395879743354123 := 0
def tw1780154351095880212 := 0
def tw17794156804630471981 := 0
def tw17728166139118365958 := 0
def tw17681909329081941649 := 0
def tw1746649485481162419 := 0
def tw17465415683519592382 := 0
def tw17425121316711712373 := 0
def tw17330990099028464436 := 0
def tw1731304170738669920 := 0
def tw17179998078817203201 := 0
def tw17137902626233909748 := 0
def tw17111993970898831028 := 0
def tw17094786604496731053 := 0
def tw17024672456732510287 := 0
def tw17021709069409944767 := 0
def tw17011295135728923759 := 0
def tw1700463824948930031 := 0
def tw1699473630567275717 := 0
def tw16974646375432147608 := 0
def tw16901375575285422514 := 0
def tw16836896497544347596 := 0
def tw16756653309694890457 := 0
def tw16744427307421978053 := 0
def tw16742259706480968579 := 0
def tw16571474574057987741 := 0
def tw16531172927351660827 := 0
def tw16471345033136638539 := 0
def tw16403399200098283365 := 0
def tw1629947807069456092 := 0
def tw16266108801175506335 := 0
def tw16226528639401015393 := 0
def tw16201141689832560152 := 0
def tw16105084756651479602 := 0
def tw1596542163634031978 := 0
def tw15916913656094490528 := 0
def tw1589591038124116167 := 0
def tw15788349901664765162 := 0
def tw15758993238929404124 := 0
def tw15654722792357520298 := 0
def tw15581977390067883843 := 0
def tw15563275704483607565 := 0
def tw15478069679269499581 := 0
def tw15461565494497408953 := 0
def tw15444091830189710691 := 0
def tw15424915091283891691 := 0
def tw15235571874162091331 := 0
def tw15219291752982426842 := 0
def tw15126872734118704535 := 0
def tw15022726223404906424 := 0
def tw14964721298452778011 := 0
def tw14963870112998304491 := 0
def tw14817104459575436872 := 0
def tw14773256819989743333 := 0
def tw14752199808972450392 := 0
def tw14744882485498773756 := 0
def tw14735880588689413476 := 0
def tw14660091760595193306 := 0
def tw1457337717338790593 := 0
def tw14181714440157438052 := 0
def tw13863213095643292495 := 0
def tw1385600805725373265 := 0
def tw13701177658448534609 := 0
def tw1363999598559394602 := 0
def tw13584541937130280039 := 0
def tw13562674485751212198 := 0
def tw1336573878110585191 := 0
def tw13317778213713231493 := 0
def tw13293845095473760277 := 0
def tw1325395585421669141 := 0
def tw13146696584396401416 := 0
def tw13051519615739292815 := 0
def tw12948352368223961505 := 0
def tw12884862775492846143 := 0
def tw1281524488891069890 := 0
def tw12800009711109053939 := 0
def tw12796846158048807423 := 0
def tw12629265535680783236 := 0
def tw12552657531941800091 := 0
def tw1254462778280669883 := 0
def tw12396602907782955076 := 0
def tw12100537119637414510 := 0
def tw12100252661674206871 := 0
def tw12087480898315790022 := 0
def tw11813783520470371547 := 0
def tw11762494721798648203 := 0
def tw11649240330710384079 := 0
def tw11640959527504008310 := 0
def tw1149823189546417252 := 0
def tw11479872190869427087 := 0
def tw11437320690291992457 := 0
def tw1137465399076743935 := 0
def tw11351431253117557227 := 0
def tw11309764665951228601 := 0
def tw11262167856368067203 := 0
def tw11187860907325047219 := 0
def tw11039110346367528841 := 0
def tw11021868447384457709 := 0
def tw10937622771199438755 := 0
def tw10925609040771055612 := 0
def tw10912056104562151174 := 0
def tw10880829423775001492 := 0
def tw10839940244383434922 := 0
def tw10744420285613575460 := 0
def tw10645081452497822602 := 0
def tw10485533420586529641 := 0
def tw10369886183326071912 := 0
def tw10268877205574220514 := 0
def tw10013289877128175570 := 0
end PySem.W.Fast
open PySem PySem.W PyProof.Rows
set_option maxRecDepth 100000 in
set_option maxHeartbeats 0 in
theorem PySem.Challenge.cw_roadsettings_k25_papers_of_looks_holds : PySem.Challenge.rw_roadsettings_k25_papers_of_looks.Holds := by
  w_on; o_law; k_head; (case hw => w_witness2)
  k_fill
  refine' K25.walk (l := PySem.Challenge.rw_roadsettings_k25_papers_of_looks) (P_z3 := 53) rfl rfl (fun w h Y => ⟨PySem.W.km_in_of Y, PySem.W.km_tabs_of Y⟩) ?hK ?hP0 ?F
  case hP0 => decide
  case hK =>
    intro w b hb
    simp only [List.mem_cons, List.not_mem_nil, or_false] at hb
    rcases hb with rfl | rfl
    · exact ⟨by kernel_rfl, 57, by kernel_rfl⟩
    · exact ⟨by kernel_rfl, 235, by kernel_rfl⟩
  case F =>
    intro w mg fa h KX G hmg
    refine' K25.all_mk KX G hmg ?_ ?_ ?_ ?_ ?_ ?_ ?_ ?_ ?_ ?_ ?_ ?_ ?_ ?_ ?_ ?_ ?_ ?_ ?_ ?_ ?_ ?_ ?_ ?_ ?_ ?_ ?_ ?_ ?_ ?_ ?_ ?_ ?_ ?_ ?_ ?_ ?_ ?_ ?_ ?_ ?_ ?_ ?_ ?_ ?_ ?_ ?_ ?_ ?_ ?_ ?_ ?_ ?_ ?_ ?_ ?_ ?_ ?_ ?_ ?_ ?_ ?_ ?_ ?_ ?_ ?_ ?_ ?_ ?_ ?_ ?_ ?_ ?_ ?_ ?_ ?_ ?_ ?_ ?_ ?_ ?_ ?_ ?_ ?_ ?_ ?_ ?_ ?_ ?_ ?_ ?_ ?_ ?_ ?_ ?_ ?_ ?_ ?_ ?_ ?_ ?_ ?_ ?_ ?_
    all_goals try (first | refine ⟨⟨by k_is, by k_is, by k_is⟩, ⟨_, _, _, _, _, _, _, _, _, rfl, by k_is, by k_is⟩, by k_is⟩ | refine ⟨by k_is, ⟨_, _, _, _, _, _, _, _, _, rfl, by k_is, by k_is⟩, by k_is⟩ | refine ⟨by k_is, ⟨by k_is, by k_is, by k_is, by k_is⟩, by k_is, by k_is⟩ | refine ⟨⟨by k_is, by k_is, by k_is⟩, ⟨_, _, _, _, _, _, _, _, rfl, by k_is, by k_is⟩, by k_is, by kernel_rfl⟩ | refine ⟨by k_is, ⟨_, _, _, _, _, _, _, _, rfl, by k_is, by k_is⟩, by k_is, by kernel_rfl⟩ | (show _ = _; first | k_is | kernel_rfl))
