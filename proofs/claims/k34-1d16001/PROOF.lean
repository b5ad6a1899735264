import PyProof.Rows.All
import Wide.All
import OpenK.AllK
import Wide.FinOn
import Lean
import PyProof.EqAt
import PyProof.EqKinds
import PyProof.TupleCall
import PyProof.AutoListH
import PyProof.ExcBaseAll.ValueError
import PyProof.ExcAttrAll.ValueError
import PySem.Challenge.RW_roadsettings_k34_worlds_entered
set_option Elab.async false
set_option linter.all false
set_option maxRecDepth 100000
namespace L2
open PySem PySem.Spec PyProof.Rows
abbrev Zw:=Sum Int Str
def XZ:Zw→Value→Bool
 | .inl k,v=>Value.isInt k v
 | .inr x,v=>Value.isStrOf x v
def keyH (w:World):Zw→Int
 | .inl k=>hashInt k
 | .inr x=>hashStr w x
theorem ZE:∀{k:Zw}{v:Value},XZ k v=true→(∃ i t,k=Sum.inl i∧v=Value.int i t)∨(∃ x t,k=Sum.inr x∧v=Value.str x t)
 | .inl i,v,h=>by
   obtain ⟨t,e⟩:=Value.isInt_shape (k:=i) (v:=v) h
   exact .inl ⟨i,t,rfl,e⟩
 | .inr x,v,h=>by
   obtain ⟨t,e⟩:=Value.isStrOf_shape (x:=x) (v:=v) h
   exact .inr ⟨x,t,rfl,e⟩
theorem ZbN (i:Int)(t:Tok):XZ (.inl i) (.int i t)=true:=by simp [XZ,Value.isInt]
theorem Zbq (x:Str)(t:Tok):XZ (.inr x) (.str x t)=true:=by simp [XZ,Value.isStrOf]
theorem Zfp (a b:Int):decide ((Sum.inl a:Zw)=Sum.inl b)=(a == b):=by
 by_cases e:a=b
 · subst e;simp
 · have h:¬ (Sum.inl a:Zw)=Sum.inl b:=fun q=>e (Sum.inl.inj q)
   rw [decide_eq_false h]
   exact (beq_eq_false_iff_ne.mpr e).symm
theorem Zes (a b:Str):decide ((Sum.inr a:Zw)=Sum.inr b)=decide (a=b):=by
 by_cases e:a=b
 · subst e;simp
 · have h:¬ (Sum.inr a:Zw)=Sum.inr b:=fun q=>e (Sum.inr.inj q)
   rw [decide_eq_false h,decide_eq_false e]
theorem Zeq (a:Int)(b:Str):decide ((Sum.inl a:Zw)=Sum.inr b)=false:=decide_eq_false (fun q=>nomatch q)
theorem Zfb (a:Str)(b:Int):decide ((Sum.inr a:Zw)=Sum.inl b)=false:=decide_eq_false (fun q=>nomatch q)
def Yb (prog:Program)(w:World):PySem.KeyKind prog w Zw where
 is:=XZ
 hash:=keyH w
 inj := fun v a b ha hb=>by
   rcases ZE ha with ⟨i,t,rfl,rfl⟩ | ⟨x,t,rfl,rfl⟩
   · rcases ZE hb with ⟨j,u,rfl,e⟩ | ⟨y,u,rfl,e⟩
     · injection e with e1 _;rw [e1]
     · exact nomatch e
   · rcases ZE hb with ⟨j,u,rfl,e⟩ | ⟨y,u,rfl,e⟩
     · exact nomatch e
     · injection e with e1 _;rw [e1]
 byValue:=fun k v h=>by
   rcases ZE h with ⟨i,t,rfl,rfl⟩ | ⟨x,t,rfl,rfl⟩<;>rfl
 pyHash:=fun hv h=>by
   rcases ZE hv with ⟨i,t,rfl,rfl⟩ | ⟨x,t,rfl,rfl⟩
   · exact wpAny_pyHash_int h
   · exact wpAny_pyHash_str h
 eqBool:=fun hu hv h=>by
   rcases ZE hu with ⟨i,t,rfl,rfl⟩ | ⟨x,t,rfl,rfl⟩
   · rcases ZE hv with ⟨j,u,rfl,rfl⟩ | ⟨y,u,rfl,rfl⟩
     · rw [Zfp] at h;exact wpAny_eqBool_int h
     · rw [Zeq] at h;exact SeqAt.EqAt.int_str i t y u _ _ _ _ h
   · rcases ZE hv with ⟨j,u,rfl,rfl⟩ | ⟨y,u,rfl,rfl⟩
     · rw [Zfb] at h;exact SeqAt.EqAt.str_int x t j u _ _ _ _ h
     · rw [Zes] at h;exact wpAny_eqBool_str h
 «strs»:=fun k x t v h=>by
   rcases ZE h with ⟨i,u,rfl,e⟩ | ⟨y,u,rfl,e⟩
   · exact nomatch e
   · injection e with e1 _
     subst e1
     cases v<;>rfl
theorem VI (prog:Program)(w:World)(i:Int)(t:Tok):(Yb prog w).is (.inl i) (.int i t)=true:=ZbN i t
theorem VP (prog:Program)(w:World)(x:Str)(t:Tok):(Yb prog w).is (.inr x) (.str x t)=true:=Zbq x t
end L2
namespace L2
open PySem PySem.Spec PyProof.Rows
inductive V where
 | non | bl (b:Bool) | int (i:Int) | str (x:Str) | byt (b:Array UInt8) | flt (b:UInt64) | ref (a:Addr) | ty (n:String)
 deriving DecidableEq
def RelV:V→Value→Prop
 | .non,u=>u=Value.none
 | .bl b,u=>u=Value.bool b
 | .int i,u=>∃ t,u=Value.int i t
 | .str x,u=>∃ t,u=Value.str x t
 | .byt b,u=>∃ t,u=Value.bytes b t
 | .flt b,u=>∃ t,u=Value.float b t
 | .ref a,u=>u=Value.ref a
 | .ty n,u=>u=Value.type n
abbrev Vals:List V→List Value→Prop:=Paired RelV
theorem Vals.length {xs:List V}{us:List Value}(r:Vals xs us):xs.length=us.length:=Paired.length r
theorem Vals.get:∀{xs:List V}{us:List Value}{i:Nat}{x:V},Vals xs us→xs[i]?=some x→∃ u,us[i]?=some u∧RelV x u
 | _,_,_,_,.nil,e=>by simp at e
 | _,_,0,_,.cons r _,e=>by simp at e;subst e;exact ⟨_,rfl,r⟩
 | _,_,i+1,x,.cons _ t,e=>by
   obtain ⟨u,h1,h2⟩:=Vals.get (i:=i) (x:=x) t (by simpa using e)
   exact ⟨u,by simpa using h1,h2⟩
theorem Vals.set {x:V}{u:Value}(r:RelV x u):∀{xs:List V}{us:List Value}(i:Nat),Vals xs us→Vals (xs.set i x) (us.set i u)
 | _,_,_,.nil=>.nil
 | _,_,0,.cons _ t=>.cons r t
 | _,_,i+1,.cons q t=>.cons q (Vals.set r i t)
theorem Vals.append:∀{xs ys:List V}{us ws:List Value},Vals xs us→Vals ys ws→Vals (xs++ys) (us++ws)
 | _,_,_,_,.nil,s=>s
 | _,_,_,_,.cons r t,s=>.cons r (Vals.append t s)
theorem Vals.take:∀{xs:List V}{us:List Value}(n:Nat),Vals xs us→Vals (xs.take n) (us.take n)
 | _,_,0,_=>.nil
 | _,_,_+1,.nil=>.nil
 | _,_,n+1,.cons r t=>.cons r (Vals.take n t)
theorem Vals.drop:∀{xs:List V}{us:List Value}(n:Nat),Vals xs us→Vals (xs.drop n) (us.drop n)
 | _,_,0,r=>r
 | _,_,_+1,.nil=>.nil
 | _,_,n+1,.cons _ t=>Vals.drop n t
def RelO:Option V→Option Value→Prop
 | some v,some u=>RelV v u
 | none,none=>True
 | _,_=>False
def KV {κ:Type}:List (κ×V)→List (κ×Value)→Prop:=Paired fun (p:κ×V) (q:κ×Value)=>p.1=q.1∧RelV p.2 q.2
def kV:Zw→V
 | .inl i=>.int i
 | .inr x=>.str x
inductive HO where
 | lst (xs:List V)
 | tup (xs:List V)
 | dK (kvs:List (Zw×V)) | dT (kvs:List (List Zw×V))
 | set (S:Int→Bool) (n:Nat)
 | ins (C dx:Addr) (fs:List (Str×V))
 | own (x:Addr)
 | xd (fs:List (Str×V))
 | met (f x:Addr)
 | rng (lo hi:Int)
 | frz (o:Obj) (u:HO)
 | tbl (ps:Array Value)
 | ext (φ:Heap→Prop)
abbrev Hp:=Addr→Option HO
def upd (H:Hp)(a:Addr)(o:HO):Hp:=fun b=>if b=a then some o else H b
theorem Zd {H:Hp}{a:Addr}{o:HO}:upd H a o a=some o:=by unfold upd;rw [if_pos rfl]
theorem Zc {H:Hp}{a b:Addr}{o:HO}(h:b≠a):upd H a o b=H b:=by unfold upd;rw [if_neg h]
theorem Zm {H:Hp}{a b:Addr}{o:HO}(h:H a=some o)(h':H b=none):a≠b:=by
 intro e;subst e;rw [h] at h';cases h'
section
variable (P:Program)(w:World)
def ObjOk (H:Hp)(h:Heap)(a:Addr):HO→Prop
 | .lst xs=>xs.length≤sizeLine∧∃ (its:List Value) (n:Nat),Vals xs its∧h.get? a=some { cls:=.type "list",data:=.seq its.toArray n }
 | .tup xs=>xs.length≤sizeLine∧∃ its:List Value,Vals xs its∧IsTup h a its.toArray
 | .dK kvs=>kvs.length≤sizeLine∧(a == sysModules)=false∧∃ vs,KV kvs vs∧h.DictOf (Yb P w) a vs
 | .dT kvs=>kvs.length≤sizeLine∧(a == sysModules)=false∧∃ xs:List (List Zw×Addr×Value),
     Paired (fun (p:List Zw×V) (q:List Zw×Addr×Value)=>p.1=q.1∧H q.2.1=some (.tup (p.1.map kV))∧RelV p.2 q.2.2) kvs xs ∧
     ∃ o es ep,h.get? a=some o∧o.ExactDict∧o.data=.dict es ep∧es.toList=xs.map (entryOfKey (tupleKind (Yb P w)))∧(xs.map (·.1)).Nodup
 | .set S n=>h.SetOf (intKind P w) a S n
 | .ins C dx fs=>H dx=some (.own a)∧fs.length≤1000∧dx≠a∧h.get? a=some (PySem.W.instObj C dx) ∧
     ∃ mA,h.Ns1 dx mA∧(∀ f,RelO (fs.lookup f) (mA f))∧PySem.Within mA (fs.map (·.1))
 | .own _=>∃ o,h.get? a=some o
 | .xd fs=>∃ mA,h.Ns1 a mA∧∀ f,RelO (fs.lookup f) (mA f)
 | .rng lo hi=>∃ t u v,h.get? a=some { cls:=.type "range",data:=.fields #[.int lo t,.int hi u,.int 1 v] }
 | .frz o u=>h.get? a=some o∧ObjOk H h a u
 | .tbl ps=>h.get? a=some { cls:=.none,data:=.fields ps }
 | .met f x=>h.get? a=some (PySem.W.methodObj (.ref f) (.ref x))
 | .ext φ=>φ h∧(∃ o,h.get? a=some o)∧∀ h1 h2:Heap,φ h1→(∀ o,h1.get? a=some o→h2.get? a=some o)→φ h2
def HOk (H:Hp)(h:Heap):Prop:=∀ a o,H a=some o→ObjOk P w H h a o
end
section
variable {P:Program}{w:World}{H H':Hp}{h h':Heap}{a:Addr}{o:HO}
theorem ObjOk.lt (x:ObjOk P w H h a o):a < h.objs.size:=by
 cases o with
 | lst xs=>obtain ⟨_,_,_,_,e⟩:=x;exact Heap.lt_size e
 | tup xs=>obtain ⟨_,_,_,p⟩:=x;exact p.lt
 | dK kvs=>obtain ⟨_,_,_,_,o,_,_,e,_⟩:=x;exact Heap.lt_size e
 | dT kvs=>obtain ⟨_,_,_,_,o,_,_,e,_⟩:=x;exact Heap.lt_size e
 | set S n=>obtain ⟨o,_,_,_,e,_⟩:=x;exact Heap.lt_size e
 | ins C dx fs=>obtain ⟨_,_,_,e,_⟩:=x;exact Heap.lt_size e
 | own y=>obtain ⟨_,e⟩:=x;exact Heap.lt_size e
 | xd fs=>obtain ⟨_,⟨_,_,_,e,_⟩,_⟩:=x;exact Heap.lt_size e
 | rng lo hi=>obtain ⟨_,_,_,e⟩:=x;exact Heap.lt_size e
 | frz ob u=>obtain ⟨e,_⟩:=x;exact Heap.lt_size e
 | tbl ps=>exact Heap.lt_size (show h.get? a=some _ from x)
 | met f y=>exact Heap.lt_size (show h.get? a=some _ from x)
 | ext φ=>obtain ⟨_,⟨_,e⟩,_⟩:=x;exact Heap.lt_size e
theorem Paired.mapP {α β:Type}{F G:α→β→Prop}:∀{l₁:List α}{l₂:List β},Paired F l₁ l₂→(∀ a b,F a b→G a b)→Paired G l₁ l₂
 | _,_,.nil,_=>.nil
 | _,_,.cons r t,f=>.cons (f _ _ r) (Paired.mapP t f)
theorem ObjOk.stay (x:ObjOk P w H h a o)(k:∀ b u,(b=a∨H b=some (.own a))→h.get? b=some u→h'.get? b=some u)
   (ho:∀ b,H b=some (.own a)→H' b=some (.own a)) (ht:∀ b xs,H b=some (.tup xs)→H' b=some (.tup xs)):ObjOk P w H' h' a o:=by
 induction o with
 | lst xs=>obtain ⟨z,its,n,r,e⟩:=x;exact ⟨z,its,n,r,k _ _ (.inl rfl) e⟩
 | tup xs=>obtain ⟨z,its,r,ob,e,c⟩:=x;exact ⟨z,its,r,ob,k _ _ (.inl rfl) e,c⟩
 | dK kvs=>obtain ⟨z,y,vs,r,ob,es,ep,e,c⟩:=x;exact ⟨z,y,vs,r,ob,es,ep,k _ _ (.inl rfl) e,c⟩
 | dT kvs =>
   obtain ⟨z,y,xs,r,ob,es,ep,e,c⟩:=x
   exact ⟨z,y,xs,Paired.mapP r fun p q z=>⟨z.1,ht _ _ z.2.1,z.2.2⟩,ob,es,ep,k _ _ (.inl rfl) e,c⟩
 | set S n=>obtain ⟨ob,es,ep,t,e,c⟩:=x;exact ⟨ob,es,ep,t,k _ _ (.inl rfl) e,c⟩
 | ins C dx fs =>
   obtain ⟨d,z,ne,e,mA,⟨od,es,ep,e2,c⟩,r⟩:=x
   exact ⟨ho _ d,z,ne,k _ _ (.inl rfl) e,mA,⟨od,es,ep,k _ _ (.inr d) e2,c⟩,r⟩
 | own y=>obtain ⟨ob,e⟩:=x;exact ⟨ob,k _ _ (.inl rfl) e⟩
 | xd fs=>obtain ⟨mA,⟨od,es,ep,e,c⟩,r⟩:=x;exact ⟨mA,⟨od,es,ep,k _ _ (.inl rfl) e,c⟩,r⟩
 | rng lo hi=>obtain ⟨t,u,v,e⟩:=x;exact ⟨t,u,v,k _ _ (.inl rfl) e⟩
 | frz ob u ih=>obtain ⟨e,q⟩:=x;exact ⟨k _ _ (.inl rfl) e,ih q⟩
 | tbl ps =>
   have e:h.get? a=some { cls:=.none,data:=.fields ps }:=x
   show h'.get? a=some { cls:=.none,data:=.fields ps }
   exact k a _ (.inl rfl) e
 | met f y =>
   have e:h.get? a=some (PySem.W.methodObj (.ref f) (.ref y)):=x
   show h'.get? a=some (PySem.W.methodObj (.ref f) (.ref y))
   exact k a _ (.inl rfl) e
 | ext φ=>obtain ⟨p,⟨o,e⟩,st⟩:=x;exact ⟨st _ _ p fun o q=>k _ _ (.inl rfl) q,⟨o,k _ _ (.inl rfl) e⟩,st⟩
theorem HOk.lt (x:HOk P w H h)(e:H a=some o):a < h.objs.size:=(x a o e).lt
theorem HOk.fresh (x:HOk P w H h)(e:h.objs.size≤a):H a=none:=by
 cases q:H a with
 | none=>rfl
 | some u=>exact absurd (Nat.lt_of_lt_of_le (x.lt q) e) (Nat.lt_irrefl _)
theorem HOk.kept (x:HOk P w H h)(k:∀ b u,h.get? b=some u→h'.get? b=some u):HOk P w H h':=fun a o e =>
 (x a o e).stay (fun b u _ q=>k b u q) (fun _ q=>q) fun _ _ q=>q
theorem HOk.laid (x:HOk P w H h)(k:∀ b u,h.get? b=some u→h'.get? b=some u)(hp:h.objs.size≤a)(new:ObjOk P w (upd H a o) h' a o):HOk P w (upd H a o) h':=fun b u e=>by
 have hn:=x.fresh hp
 by_cases hb:b=a
 · subst hb;rw [Zd] at e;cases e;exact new
 · rw [Zc hb] at e
   exact (x b u e).stay (fun c v _ q=>k c v q) (fun c q=>by rw [Zc (Zm q hn)];exact q) fun c xs q=>by rw [Zc (Zm q hn)];exact q
end
def Rd (H:Hp)(a:Addr)(u:HO):Prop:=H a=some u∨∃ o,H a=some (.frz o u)
theorem Rd.ok {P:Program}{w:World}{H:Hp}{h:Heap}{a:Addr}{u:HO}(r:Rd H a u)(x:HOk P w H h):ObjOk P w H h a u:=by
 rcases r with r | ⟨o,r⟩
 · exact x a u r
 · obtain ⟨_,q⟩:=x a _ r
   exact q
def Mut:Option HO→Prop
 | some (.lst _)=>True
 | some (.dK _)=>True
 | some (.dT _)=>True
 | some (.set _ _)=>True
 | some (.ins _ _ _)=>True
 | some (.ext _)=>True
 | _=>False
section
variable {P:Program}{w:World}{H:Hp}{h h':Heap}{x e:Addr}{o':HO}
theorem HOk.write (ok:HOk P w H h)(mu:Mut (H x))(he:e=x∨H e=some (.own x))(k:∀ b u,b≠e→h.get? b=some u→h'.get? b=some u)(heo:∃ u,h'.get? e=some u)
   (new:ObjOk P w (upd H x o') h' x o'):HOk P w (upd H x o') h':=fun b u q=>by
 have nown:∀ c y,H c=some (.own y)→c≠x:=fun c y r z=>by subst z;rw [r] at mu;exact mu
 have ntup:∀ c xs,H c=some (.tup xs)→c≠x:=fun c xs r z=>by subst z;rw [r] at mu;exact mu
 by_cases hb:b=x
 · subst hb;rw [Zd] at q;cases q;exact new
 · rw [Zc hb] at q
   by_cases hbe:b=e
   · have q':H b=some (.own x):=by
       rcases he with z | z
       · exact absurd (hbe.trans z) hb
       · rw [hbe];exact z
     rw [q] at q';cases q'
     obtain ⟨v,hv⟩:=heo
     exact ⟨v,by rw [hbe];exact hv⟩
   · refine (ok b u q).stay (fun c v hc r=>k c v ?_ r) (fun c r=>by rw [Zc (nown c b r)];exact r) fun c xs r=>by rw [Zc (ntup c xs r)];exact r
     rcases hc with rfl | hc
     · exact hbe
     · rintro rfl
       rcases he with z | z
       · exact nown c b hc z
       · rw [hc] at z;cases z;exact hb rfl
end
structure Un (fs ex:List Addr)(H H':Hp)(h h':Heap):Prop where
 keep:∀ b o,h.get? b=some o→H b=none→b ∉ fs→b ∉ ex→h'.get? b=some o
 slot:∀ b o,h.get? b=some o→H b=none→b∈fs→b ∉ ex→∃ sl,h'.get? b=some { o with slots:=sl }
 free:∀ b o,h.get? b=some o→H b=none→b ∉ ex→H' b=none
 there:∀ b o,h.get? b=some o→b ∉ ex→∃ o',h'.get? b=some o'
 tups:∀ b xs,H b=some (.tup xs)→H' b=some (.tup xs)
 frzs:∀ b o u,H b=some (.frz o u)→H' b=some (.frz o u)
 tbls:∀ b ps,H b=some (.tbl ps)→∃ more,H' b=some (.tbl (ps++more))
section
variable {fs fs' ex ex':List Addr}{H H1 H2:Hp}{h h1 h2 h':Heap}{a x e:Addr}{o:HO}
theorem Un.any (u:Un fs ex H H1 h h1){b:Addr}{ob:Obj}(q:h.get? b=some ob)(n:H b=none)(hx:b ∉ ex):∃ sl,h1.get? b=some { ob with slots:=sl }:=by
 by_cases hb:b∈fs
 · exact u.slot b ob q n hb hx
 · exact ⟨ob.slots,u.keep b ob q n hb hx⟩
theorem Un.kept (k:∀ b u,h.get? b=some u→h'.get? b=some u):Un fs ex H H h h' :=
 ⟨fun b ob q _ _ _=>k b ob q,fun b ob q _ _ _=>⟨ob.slots,k b ob q⟩,fun _ _ _ n _=>n,fun b ob q _=>⟨ob,k b ob q⟩,fun _ _ q=>q,fun _ _ _ q=>q,fun _ ps q=>⟨#[],by rw [q];simp⟩⟩
theorem Un.refl:Un fs ex H H h h:=Un.kept fun _ _ q=>q
theorem Un.laid (k:∀ b u,h.get? b=some u→h'.get? b=some u)(hp:h.objs.size≤a)(hn:H a=none):Un fs ex H (upd H a o) h h' where
 keep:=fun b u q _ _ _=>k b u q
 slot:=fun b u q _ _ _=>⟨u.slots,k b u q⟩
 free:=fun b u q n _=>by rw [Zc (Nat.ne_of_lt (Nat.lt_of_lt_of_le (Heap.lt_size q) hp))];exact n
 there:=fun b u q _=>⟨u,k b u q⟩
 tups:=fun b xs q=>by rw [Zc (Zm q hn)];exact q
 frzs:=fun b u xs q=>by rw [Zc (Zm q hn)];exact q
 tbls:=fun b ps q=>⟨#[],by rw [Zc (Zm q hn),q];simp⟩
theorem Un.write (mu:Mut (H x))(he:e=x∨H e=some (.own x))(k:∀ b u,b≠e→h.get? b=some u→h'.get? b=some u)(heo:∃ u,h'.get? e=some u):Un fs ex H (upd H x o) h h':=by
 have hx:∀ b,H b=none→b≠x:=fun b n z=>by subst z;rw [n] at mu;exact mu
 have hb:∀ b,H b=none→b≠e:=fun b n z=>by
   subst z
   rcases he with r | r
   · exact hx b n r
   · rw [n] at r;cases r
 have hm:∀ b u,H b=some u→¬ Mut (some u)→b≠x:=fun b u q nm z=>by subst z;rw [q] at mu;exact nm mu
 refine ⟨fun b u q n _ _=>k b u (hb b n) q,fun b u q n _ _=>⟨u.slots,k b u (hb b n) q⟩,fun b u q n _=>by rw [Zc (hx b n)];exact n,fun b u q _=>?_,
   fun b xs q=>by rw [Zc (hm b _ q fun z=>z)];exact q,fun b u xs q=>by rw [Zc (hm b _ q fun z=>z)];exact q,fun b ps q=>⟨#[],by rw [Zc (hm b _ q fun z=>z),q];simp⟩⟩
 by_cases hbe:b=e
 · subst hbe;exact heo
 · exact ⟨u,k b u hbe q⟩
end
def trk (h:Heap)(H:Hp):List Addr:=(List.range h.objs.size).filter fun a=>(H a).isSome
def Xi (h:Heap)(H:Hp):Heap:=PySem.W.hideAll h (trk h H)
theorem Zbh (h:Heap)(H:Hp):(Xi h H).objs.size=h.objs.size:=PySem.W.hideAll_size _ _
theorem Zcn {h:Heap}{H:Hp}{b:Addr}{o:Obj}(e:h.get? b=some o)(n:H b=none):(Xi h H).get? b=some o :=
 PySem.W.hideAll_get _ e fun hm=>by
   have q:(H b).isSome=true:=(List.mem_filter.mp hm).2
   rw [n] at q;simp at q
theorem ZdO {h:Heap}{H:Hp}{b:Addr}{o:Obj}(e:(Xi h H).get? b=some o):h.get? b=some o∧H b=none:=by
 have e':h.get? b=some o:=PySem.W.of_hideAll (trk h H) e
 refine ⟨e',?_⟩
 cases q:H b with
 | none=>rfl
 | some x =>
   have hm:b∈trk h H:=List.mem_filter.mpr ⟨List.mem_range.mpr (Heap.lt_size e'),by simp [q]⟩
   have z:(Xi h H).get? b=none:=PySem.W.hideAll_none (trk h H) hm
   rw [z] at e;cases e
end L2
namespace L2
open PySem PySem.Spec PyProof.Rows
structure Mod (K:PySem.W.Frag)(mg:Str→Option Value)(base:Heap):Prop where
 kin:K.In base
 glob:base.Ns mainGlobals mg
 blt:∃ mb,base.Ns builtinsNs mb∧∀ x:Str,x≠"__name__"→mb x=bootBuiltins x
 nolimit:base.NoLimit
structure Cx where
 prog:Program
 w:World
 K:PySem.W.Frag
 mg:Str→Option Value
 base:Heap
 A:Around
 N:List Str
 s₀:Shared
 H₀:Hp
 env:Env
 outer:List Env
 stack:List Env
 ex:List Addr
 fn:Str→Bool
 calm:Bool
 pn:List (Addr×Obj)
 xe:Value→Shared→Prop
def ZJ (l:List Env):List Addr:=l.filterMap (·.frame)
abbrev Cx.fs (X:Cx):List Addr:=ZJ X.outer
def Vis (sc:Scope)(x:Str):Prop:=sc.names.lookup x=some .local∨sc.names.lookup x=some .cell∨sc.names.lookup x=some .free
def Loc (sc:Scope)(x:Str):Prop:=sc.names.lookup x=some .local∨sc.names.lookup x=some .cell
def Look (env:Env)(h:Heap)(m:Str→Option Value)(x:Str)(u:Value):Prop :=
 (env.kindOf x=some .local∧m x=some u)∨((env.kindOf x=some .cell∨env.kindOf x=some .free)∧∃ c,env.cells.lookup x=some c∧h.IsCell c (some u))
structure Cx.Ok (X:Cx):Prop where
 mod:Mod X.K X.mg X.base
 kind:X.env.scope.kind=.function
 glob:X.env.globals=mainGlobals
 blt:X.env.builtins=builtinsNs
 above:X.s₀.heap.objs.size≤X.env.locals
 inj:∀ x y c,X.env.cells.lookup x=some c→X.env.cells.lookup y=some c→x=y
 has:∀ x,(X.env.kindOf x=some .cell∨X.env.kindOf x=some .free)→∃ c,X.env.cells.lookup x=some c
 cab:∀ x c,X.fn x=true→X.env.cells.lookup x=some c→X.s₀.heap.objs.size≤c
 hd:X.calm=true→X.A.handled=none
 frames:X.A.frames=some X.stack
 stk:X.stack=X.outer∨(X.stack=X.env::X.outer∧X.env.frame=some X.env.locals)
 exf:∀ b∈X.ex,b≠X.env.locals∧∀ x c,X.env.cells.lookup x=some c→c≠b
 bs:∀ b o,X.base.get? b=some o→X.s₀.heap.get? b=some o∧X.H₀ b=none
 bsz:X.base.objs.size≤X.s₀.heap.objs.size
 noex:∀ b o,X.base.get? b=some o→b ∉ X.ex
 exfs:∀ b∈X.ex,b ∉ X.fs
 funs:X.s₀.heap.FunFrames X.base X.outer
 frf:∀ b∈X.fs,X.H₀ b=none
structure Inv (X:Cx)(pins:List (Addr×Obj))(σ:List (Option V))(H:Hp)(s:Shared):Prop where
 ok:X.Ok
 os:s.os=X.s₀.os
 bare:AllBare s.gens
 base:Un X.fs X.ex X.H₀ H X.s₀.heap s.heap
 loc:∃ m,s.heap.Ns X.env.locals m∧∀ (i:Nat) (x:Str) (v:V),X.N[i]?=some x→σ[i]?=some (some v)→Vis X.env.scope x→∃ u,RelV v u∧Look X.env s.heap m x u
 cell:∀ x c,X.env.cells.lookup x=some c→∃ v,s.heap.IsCell c v
 free:H X.env.locals=none
 freeC:∀ x c,X.env.cells.lookup x=some c→H c=none
 pin:∀ p∈X.pn++pins,s.heap.get? p.1=some p.2∧H p.1=none∧p.1≠X.env.locals∧p.1 ∉ X.fs∧∀ v,p.2.data≠.cell v
 hok:HOk X.prog X.w H s.heap
 len:σ.length=X.N.length
section
variable {X:Cx}{pins:List (Addr×Obj)}{σ:List (Option V)}{H H':Hp}{s:Shared}{h':Heap}
theorem Cx.Ok.nofr (ok:X.Ok){b:Addr}{o:Obj}(e:X.base.get? b=some o):b ∉ X.fs:=fun hb=>by
 have:=(ok.funs.mem hb).1
 rw [e] at this;cases this
theorem Inv.bs (I:Inv X pins σ H s):∀ b o,X.base.get? b=some o→s.heap.get? b=some o∧H b=none:=fun b o e =>
 ⟨I.base.keep b o (I.ok.bs b o e).1 (I.ok.bs b o e).2 (I.ok.nofr e) (I.ok.noex b o e),I.base.free b o (I.ok.bs b o e).1 (I.ok.bs b o e).2 (I.ok.noex b o e)⟩
theorem Inv.bk (I:Inv X pins σ H s):∀ b o,X.base.get? b=some o→s.heap.get? b=some o:=fun b o e=>(I.bs b o e).1
theorem Inv.mod (I:Inv X pins σ H s):Mod X.K X.mg X.base:=I.ok.mod
theorem Inv.kIn (I:Inv X pins σ H s):X.K.In s.heap:=I.ok.mod.kin.keeps I.bk
theorem Inv.lt (I:Inv X pins σ H s):X.env.locals < s.heap.objs.size:=let ⟨_,hn,_⟩:=I.loc;hn.lt
theorem Inv.sz (I:Inv X pins σ H s):X.s₀.heap.objs.size≤s.heap.objs.size:=Nat.le_trans I.ok.above (Nat.le_of_lt I.lt)
theorem Inv.nofs (I:Inv X pins σ H s){a:Addr}(h:s.heap.objs.size≤a):a ∉ X.fs:=fun hb=>by
 obtain ⟨_,o,ho,_⟩:=I.ok.funs.mem hb
 exact absurd (Nat.lt_of_lt_of_le (Heap.lt_size ho) (Nat.le_trans I.sz h)) (Nat.lt_irrefl _)
theorem Inv.cne (I:Inv X pins σ H s):∀ x c,X.env.cells.lookup x=some c→c≠X.env.locals:=fun x c e z=>by
 obtain ⟨v,o,ho,hd⟩:=I.cell x c e
 obtain ⟨m,⟨o',es,ep,ho',hd',_⟩,_⟩:=I.loc
 rw [z,ho'] at ho;cases ho;rw [hd'] at hd;cases hd
theorem Inv.funs (I:Inv X pins σ H s):s.heap.FunFrames X.base X.outer:=by
 have all:∀ (l:List Env),(∀ b∈ZJ l,b∈X.fs)→X.s₀.heap.FunFrames X.base l→s.heap.FunFrames X.base l:=by
   intro l
   induction l with
   | nil=>intro _ _;trivial
   | cons env r ih =>
     intro hs hl
     obtain ⟨hk,⟨L,o,hf,hn,ho,hd⟩,hr⟩:=hl
     have hL:L∈X.fs:=hs L (by unfold ZJ;rw [List.filterMap_cons,hf];exact List.mem_cons_self)
     obtain ⟨sl,e⟩:=I.base.slot L o ho (I.ok.frf L hL) hL fun z=>I.ok.exfs L z hL
     exact ⟨hk,⟨L,_,hf,hn,e,hd⟩,ih (fun b hb=>hs b (by unfold ZJ;rw [List.filterMap_cons,hf];exact List.mem_cons_of_mem _ hb)) hr⟩
 exact all X.outer (fun _ hb=>hb) I.ok.funs
theorem Inv.stack (I:Inv X pins σ H s):s.heap.FunFrames X.base X.stack:=by
 rcases I.ok.stk with e | ⟨e,hf⟩
 · rw [e];exact I.funs
 · rw [e]
   obtain ⟨m,hn,_⟩:=I.loc
   refine .cons (by rw [I.ok.kind];decide) hf hn ?_ I.funs
   exact Heap.get?_none_of_le (Nat.le_trans I.ok.bsz I.ok.above)
theorem Inv.stkSub (I:Inv X pins σ H s):∀ b∈ZJ X.stack,b∈X.env.locals::X.fs:=fun b hb=>by
 rcases I.ok.stk with e | ⟨e,hf⟩
 · rw [e] at hb;exact List.mem_cons_of_mem _ hb
 · rw [e] at hb
   unfold ZJ at hb
   rw [List.filterMap_cons,hf] at hb
   exact hb
theorem Inv.stkFree (I:Inv X pins σ H s):∀ b∈ZJ X.stack,H b=none:=fun b hb=>by
 rcases List.mem_cons.mp (I.stkSub b hb) with e | hb
 · rw [e];exact I.free
 · obtain ⟨_,o,ho,_⟩:=I.ok.funs.mem hb
   exact I.base.free b o ho (I.ok.frf b hb) fun z=>I.ok.exfs b z hb
theorem Inv.step {g':Array GenState}{t':Nat}{d':Drawn}{ch:List Addr}(I:Inv X pins σ H s)
   (hch:∀ b∈ch,(b∈X.ex∨X.s₀.heap.objs.size≤b)∧b≠X.env.locals∧(∀ x c,X.env.cells.lookup x=some c→c≠b)∧∀ p∈X.pn++pins,p.1≠b)
   (keep:∀ b o,b≠X.env.locals→b ∉ X.fs→b ∉ ch→s.heap.get? b=some o→H b=none→h'.get? b=some o)
   (slot:∀ b o,b≠X.env.locals→b∈X.fs→b ∉ ch→s.heap.get? b=some o→H b=none→∃ sl,h'.get? b=some { o with slots:=sl }) (free:∀ b o,b ∉ ch→s.heap.get? b=some o→H b=none→H' b=none)
   (there:∀ b o,b ∉ ch→s.heap.get? b=some o→∃ o',h'.get? b=some o')
   (tups:∀ b xs,H b=some (.tup xs)→H' b=some (.tup xs)) (frzs:∀ b o u,H b=some (.frz o u)→H' b=some (.frz o u)) (tbls:∀ b ps,H b=some (.tbl ps)→∃ more,H' b=some (.tbl (ps++more)))
   (ns:∀ m,s.heap.Ns X.env.locals m→h'.Ns X.env.locals m) (hok:HOk X.prog X.w H' h') (hg:AllBare g') :
   Inv X pins σ H' { s with heap:=h',gens:=g',drawn:=d',toks:=t' }:=by
 have neL:∀ b o,X.s₀.heap.get? b=some o→b≠X.env.locals:=fun b o e=>Nat.ne_of_lt (Nat.lt_of_lt_of_le (Heap.lt_size e) I.ok.above)
 have neC:∀ b o,X.s₀.heap.get? b=some o→b ∉ X.ex→b ∉ ch:=fun b o e hx hb=>by
   rcases (hch b hb).1 with z | z
   · exact hx z
   · exact absurd (Nat.lt_of_lt_of_le (Heap.lt_size e) z) (Nat.lt_irrefl _)
 have cellK:∀ x c,X.env.cells.lookup x=some c→∀ v,s.heap.IsCell c v→h'.IsCell c v:=fun x c e v ⟨o,ho,hd⟩=>by
   have nch:c ∉ ch:=fun z=>(hch c z).2.2.1 x c e rfl
   by_cases hc:c∈X.fs
   · obtain ⟨sl,q⟩:=slot c o (I.cne x c e) hc nch ho (I.freeC x c e)
     exact ⟨_,q,hd⟩
   · exact ⟨o,keep c o (I.cne x c e) hc nch ho (I.freeC x c e),hd⟩
 refine ⟨I.ok,I.os,hg,⟨fun b o e n hb hx=>?_,fun b o e n hb hx=>?_,fun b o e n hx=>?_,fun b o e hx=>?_,fun b xs e=>tups b xs (I.base.tups b xs e),fun b o xs e=>frzs b o xs (I.base.frzs b o xs e),fun b ps e=>?_⟩,?_,fun x c e=>?_,?_,fun x c e=>?_,fun p hp=>?_,hok,I.len⟩
 · exact keep b o (neL b o e) hb (neC b o e hx) (I.base.keep b o e n hb hx) (I.base.free b o e n hx)
 · obtain ⟨sl,e1⟩:=I.base.slot b o e n hb hx
   obtain ⟨sl',e2⟩:=slot b _ (neL b o e) hb (neC b o e hx) e1 (I.base.free b o e n hx)
   exact ⟨sl',e2⟩
 · obtain ⟨o',e1⟩:=I.base.there b o e hx
   exact free b o' (neC b o e hx) e1 (I.base.free b o e n hx)
 · obtain ⟨o',e1⟩:=I.base.there b o e hx
   exact there b o' (neC b o e hx) e1
 · obtain ⟨m1,e1⟩:=I.base.tbls b ps e
   obtain ⟨m2,e2⟩:=tbls b _ e1
   exact ⟨m1++m2,by rw [e2,Array.append_assoc]⟩
 · obtain ⟨m,hn,hl⟩:=I.loc
   refine ⟨m,ns m hn,fun i x v e1 e2 e3=>?_⟩
   obtain ⟨u,r,l⟩:=hl i x v e1 e2 e3
   refine ⟨u,r,?_⟩
   rcases l with l | ⟨k,c,e,z⟩
   · exact .inl l
   · exact .inr ⟨k,c,e,cellK x c e _ z⟩
 · obtain ⟨v,z⟩:=I.cell x c e
   exact ⟨v,cellK x c e v z⟩
 · obtain ⟨m,⟨o,_,_,ho,_⟩,_⟩:=I.loc
   exact free _ o (fun z=>(hch _ z).2.1 rfl) ho I.free
 · obtain ⟨v,o,ho,hd⟩:=I.cell x c e
   exact free c o (fun z=>(hch c z).2.2.1 x c e rfl) ho (I.freeC x c e)
 · obtain ⟨e,n,ne,nf,d⟩:=I.pin p hp
   have nch:p.1 ∉ ch:=fun z=>(hch p.1 z).2.2.2 p hp rfl
   exact ⟨keep p.1 p.2 ne nf nch e n,free p.1 p.2 nch e n,ne,nf,d⟩
theorem Inv.un {t':Nat}(I:Inv X pins σ H s)(u:Un X.fs [] H H' s.heap h')(hok:HOk X.prog X.w H' h'):Inv X pins σ H' { s with heap:=h',toks:=t' }:=by
 obtain ⟨m,⟨o,es,ep,ho,r⟩,_⟩:=id I.loc
 obtain ⟨sl,hL⟩:=u.any ho I.free (by simp)
 exact I.step (g':=s.gens) (d':=s.drawn) (ch:=[]) (fun _ z=>nomatch z) (fun b o _ hb _ e n=>u.keep b o e n hb (by simp)) (fun b o _ hb _ e n=>u.slot b o e n hb (by simp)) (fun b o _ e n=>u.free b o e n (by simp)) (fun b o _ e=>u.there b o e (by simp)) u.tups u.frzs u.tbls (fun m' hm=>by
   obtain ⟨o',es',ep',ho',r'⟩:=hm
   rw [ho] at ho';cases ho'
   exact ⟨_,es',ep',hL,r'⟩) hok I.bare
theorem Inv.call {g':Array GenState}{t':Nat}{d':Drawn}{ch:List Addr}(I:Inv X pins σ H s)(u:Un (ZJ X.stack) ch H H' s.heap h')(hok:HOk X.prog X.w H' h')(hg:AllBare g')
   (hch:∀ b∈ch,(b∈X.ex∨X.s₀.heap.objs.size≤b)∧b≠X.env.locals∧(∀ x c,X.env.cells.lookup x=some c→c≠b)∧∀ p∈X.pn++pins,p.1≠b) :
   Inv X pins σ H' { s with heap:=h',gens:=g',drawn:=d',toks:=t' }:=by
 obtain ⟨m,⟨o,es,ep,ho,r⟩,_⟩:=id I.loc
 obtain ⟨sl,hL⟩:=u.any ho I.free fun z=>(hch _ z).2.1 rfl
 exact I.step (ch:=ch) hch (fun b o hL hb hc e n=>u.keep b o e n (fun z=>(List.mem_cons.mp (I.stkSub b z)).elim hL hb) hc) (fun b o _ _ hc e n=>u.any e n hc) (fun b o hc e n=>u.free b o e n hc) (fun b o hc e=>u.there b o e hc) u.tups u.frzs u.tbls (fun m' hm=>by
   obtain ⟨o',es',ep',ho',r'⟩:=hm
   rw [ho] at ho';cases ho'
   exact ⟨_,es',ep',hL,r'⟩) hok hg
theorem Inv.turned {t':Nat}{it:Addr}(I:Inv X pins σ H s)(k:∀ b o,b≠it→s.heap.get? b=some o→h'.get? b=some o)(hn:H it=none)(hL:it≠X.env.locals)
   (h1:it∈X.ex∨X.s₀.heap.objs.size≤it) (h2:∀ x c,X.env.cells.lookup x=some c→c≠it) (h3:∀ p∈X.pn++pins,p.1≠it):Inv X pins σ H { s with heap:=h',toks:=t' }:=by
 have nit:∀ b u,H b=some u→b≠it:=fun b u e z=>by rw [z,hn] at e;cases e
 refine I.step (g':=s.gens) (d':=s.drawn) (ch:=[it]) (fun b hb=>?_) (fun b o _ _ hc e _=>k b o (fun z=>hc (by simp [z])) e) (fun b o _ _ hc e _=>⟨o.slots,k b o (fun z=>hc (by simp [z])) e⟩) (fun _ _ _ _ n=>n)
   (fun b o hc e=>⟨o,k b o (fun z=>hc (by simp [z])) e⟩) (fun _ _ e=>e) (fun _ _ _ e=>e) (fun b ps e=>⟨#[],by rw [e];simp⟩) (fun m hm=>?_) (fun b u e=>?_) I.bare
 · have e:b=it:=by simpa using hb
   subst e
   exact ⟨h1,hL,h2,h3⟩
 · obtain ⟨o,es,ep,ho,r⟩:=hm
   exact ⟨o,es,ep,k _ o (Ne.symm hL) ho,r⟩
 · refine (I.hok b u e).stay (fun c v hc q=>k c v ?_ q) (fun _ q=>q) fun _ _ q=>q
   rcases hc with z | z
   · rw [z];exact nit b u e
   · exact nit c _ z
theorem Inv.tok (I:Inv X pins σ H s)(t:Nat):Inv X pins σ H { s with toks:=t }:=I.un (h':=s.heap) (t':=t) Un.refl I.hok
theorem Inv.kept {t':Nat}(I:Inv X pins σ H s)(k:∀ b u,s.heap.get? b=some u→h'.get? b=some u):Inv X pins σ H { s with heap:=h',toks:=t' }:=I.un (Un.kept k) (I.hok.kept k)
theorem Inv.laid {a:Addr}{o:HO}{t':Nat}(I:Inv X pins σ H s)(k:∀ b u,s.heap.get? b=some u→h'.get? b=some u)(hp:s.heap.objs.size≤a)(new:ObjOk X.prog X.w (upd H a o) h' a o) :
 Inv X pins σ (upd H a o) { s with heap:=h',toks:=t' }:=I.un (Un.laid k hp (I.hok.fresh hp)) (I.hok.laid k hp new)
theorem Inv.write {x e:Addr}{o:HO}{t':Nat}(I:Inv X pins σ H s)(mu:Mut (H x))(he:e=x∨H e=some (.own x))(k:∀ b u,b≠e→s.heap.get? b=some u→h'.get? b=some u)(heo:∃ u,h'.get? e=some u)
 (new:ObjOk X.prog X.w (upd H x o) h' x o):Inv X pins σ (upd H x o) { s with heap:=h',toks:=t' }:=I.un (Un.write mu he k heo) (I.hok.write mu he k heo new)
theorem Inv.pins_of {pins':List (Addr×Obj)}(I:Inv X pins σ H s)(h:∀ p∈pins',s.heap.get? p.1=some p.2∧H p.1=none∧p.1≠X.env.locals∧p.1 ∉ X.fs∧∀ v,p.2.data≠.cell v):Inv X pins' σ H s :=
 ⟨I.ok,I.os,I.bare,I.base,I.loc,I.cell,I.free,I.freeC,fun p hp=>(List.mem_append.mp hp).elim (fun z=>I.pin p (List.mem_append_left _ z)) (h p),I.hok,I.len⟩
theorem Ws {N:List Str}(hN:N.Nodup){i j:Nat}{x:Str}(a:N[i]?=some x)(b:N[j]?=some x):i=j:=by
 obtain ⟨h1,e1⟩:=List.getElem?_eq_some_iff.mp a
 obtain ⟨h2,e2⟩:=List.getElem?_eq_some_iff.mp b
 exact (List.getElem_inj hN).mp (e1.trans e2.symm)
theorem Zbl {M:Model}{A:Around}{E:Value→Shared→Prop}{i:Nat}{x:Str}{v:V}{u:Value}{Q:Unit→Shared→Prop}(I:Inv X pins σ H s)(hN:X.N.Nodup)(hi:X.N[i]?=some x)(hx:Loc X.env.scope x)(r:RelV v u)
   (h:∀ s',Inv X pins (σ.set i (some v)) H s'→(∃ a,Heap.SameBut a s.heap s'.heap∧(a=X.env.locals∨X.env.cells.lookup x=some a))→Q () s') (hf:X.fn x=true∨X.env.scope.names.lookup x=some .local:=by first | exact .inl rfl | exact .inr rfl | assumption):wpAny M A (storeName X.env x u) Q E s:=by
 obtain ⟨m,hn,hl⟩:=id I.loc
 have hcls:(X.env.scope.kind == .class || (X.env.scope.kind == .module&&X.env.locals != X.env.globals))=false:=by rw [I.ok.kind];rfl
 have hiσ:i < σ.length:=by rw [I.len];exact (List.getElem?_eq_some_iff.mp hi).1
 have cne:=I.cne
 have tracked:∀ {a:Addr} {h':Heap},(∃ o,s.heap.get? a=some o∧H a=none)→Heap.SameBut a s.heap h'→HOk X.prog X.w H h':=fun {a h'} ha hs b ob e=>by
   obtain ⟨_,_,hfree⟩:=ha
   refine (I.hok b ob e).stay (fun c w' hc q=>(hs.2 c ?_).trans q) (fun _ q=>q) fun _ _ q=>q
   rintro rfl
   rcases hc with rfl | hc
   · rw [hfree] at e;cases e
   · rw [hfree] at hc;cases hc
 rcases hx with hk | hk
 · refine wpAny_storeName_local hk hn (fun h' hn' hs=>?_) hcls
   obtain ⟨oL,_,_,hoL,_⟩:=id hn
   refine h _ ⟨I.ok,I.os,I.bare,⟨fun b o e n hb hx=>?_,fun b o e n hb hx=>?_,I.base.free,fun b o e hx=>?_,I.base.tups,I.base.frzs,I.base.tbls⟩,⟨_,hn',fun j y v' e1 e2 e3=>?_⟩,fun y c e=>?_,I.free,I.freeC,fun p hp=>?_,tracked ⟨oL,hoL,I.free⟩ hs,by simpa using I.len⟩ ⟨_,hs,.inl rfl⟩
   · exact (hs.2 b (Nat.ne_of_lt (Nat.lt_of_lt_of_le (Heap.lt_size e) I.ok.above))).trans (I.base.keep b o e n hb hx)
   · obtain ⟨sl,e1⟩:=I.base.slot b o e n hb hx
     exact ⟨sl,(hs.2 b (Nat.ne_of_lt (Nat.lt_of_lt_of_le (Heap.lt_size e) I.ok.above))).trans e1⟩
   · obtain ⟨o',e1⟩:=I.base.there b o e hx
     exact ⟨o',(hs.2 b (Nat.ne_of_lt (Nat.lt_of_lt_of_le (Heap.lt_size e) I.ok.above))).trans e1⟩
   · by_cases hj:j=i
     · subst hj
       rw [hi] at e1;cases e1
       rw [List.getElem?_set_self hiσ] at e2
       cases e2
       exact ⟨u,r,.inl ⟨hk,by simp⟩⟩
     · rw [List.getElem?_set_ne (Ne.symm hj)] at e2
       obtain ⟨u',r',q⟩:=hl j y v' e1 e2 e3
       refine ⟨u',r',?_⟩
       rcases q with ⟨k,e⟩ | ⟨k,c,e,z⟩
       · refine .inl ⟨k,?_⟩
         have:y≠x:=fun e=>hj (Ws hN e1 (e ▸ hi))
         simp [this,e]
       · exact .inr ⟨k,c,e,z.sameBut hs (cne y c e)⟩
   · obtain ⟨w',z⟩:=I.cell y c e
     exact ⟨w',z.sameBut hs (cne y c e)⟩
   · obtain ⟨e,n,ne,nf,d⟩:=I.pin p hp
     exact ⟨(hs.2 p.1 ne).trans e,n,ne,nf,d⟩
 · have hfn:X.fn x=true:=by
     rcases hf with z | z
     · exact z
     · rw [z] at hk;cases hk
   obtain ⟨c,hc⟩:=I.ok.has x (.inl hk)
   obtain ⟨w',z⟩:=I.cell x c hc
   refine wpAny_storeName_cell I.ok.kind hk hc z (fun h' hc' hs=>?_)
   obtain ⟨oc,hoc,hocd⟩:=id z
   refine h { s with heap:=h' } ⟨I.ok,I.os,I.bare,⟨fun b o e n hb hx=>?_,fun b o e n hb hx=>?_,I.base.free,fun b o e hx=>?_,I.base.tups,I.base.frzs,I.base.tbls⟩,⟨m,hn.sameBut hs (Ne.symm (cne x c hc)),fun j y v' e1 e2 e3=>?_⟩,fun y c' e=>?_,I.free,I.freeC,fun p hp=>?_,tracked ⟨oc,hoc,I.freeC x c hc⟩ hs,by simpa using I.len⟩ ⟨c,hs,.inr hc⟩
   · exact (hs.2 b (Nat.ne_of_lt (Nat.lt_of_lt_of_le (Heap.lt_size e) (I.ok.cab x c hfn hc)))).trans (I.base.keep b o e n hb hx)
   · obtain ⟨sl,e1⟩:=I.base.slot b o e n hb hx
     exact ⟨sl,(hs.2 b (Nat.ne_of_lt (Nat.lt_of_lt_of_le (Heap.lt_size e) (I.ok.cab x c hfn hc)))).trans e1⟩
   · obtain ⟨o',e1⟩:=I.base.there b o e hx
     exact ⟨o',(hs.2 b (Nat.ne_of_lt (Nat.lt_of_lt_of_le (Heap.lt_size e) (I.ok.cab x c hfn hc)))).trans e1⟩
   · by_cases hj:j=i
     · subst hj
       rw [hi] at e1;cases e1
       rw [List.getElem?_set_self hiσ] at e2
       cases e2
       exact ⟨u,r,.inr ⟨.inl hk,c,hc,hc'⟩⟩
     · rw [List.getElem?_set_ne (Ne.symm hj)] at e2
       obtain ⟨u',r',q⟩:=hl j y v' e1 e2 e3
       refine ⟨u',r',?_⟩
       rcases q with q | ⟨k,c',e,z'⟩
       · exact .inl q
       · refine .inr ⟨k,c',e,z'.sameBut hs ?_⟩
         rintro rfl
         exact hj (Ws hN e1 (I.ok.inj _ _ _ e hc ▸ hi))
   · by_cases hcc:c'=c
     · subst hcc;exact ⟨_,hc'⟩
     · obtain ⟨w2,z2⟩:=I.cell y c' e
       exact ⟨w2,z2.sameBut hs hcc⟩
   · obtain ⟨e,n,ne,nf,d⟩:=I.pin p hp
     refine ⟨(hs.2 p.1 ?_).trans e,n,ne,nf,d⟩
     intro q
     rw [q,hoc] at e
     have q':oc=p.2:=Option.some.inj e
     exact d w' (by rw [← q'];exact hocd)
theorem YO {M:Model}{A:Around}{E:Value→Shared→Prop}{i:Nat}{x:Str}{v:V}{u:Value}{Q:Unit→Shared→Prop}(I:Inv X pins σ H s)(hN:X.N.Nodup)(hi:X.N[i]?=some x)(hx:Loc X.env.scope x)(r:RelV v u)
   (h:∀ s',Inv X pins (σ.set i (some v)) H s'→Q () s') (hf:X.fn x=true∨X.env.scope.names.lookup x=some .local:=by first | exact .inl rfl | exact .inr rfl | assumption):wpAny M A (storeName X.env x u) Q E s :=
 Zbl I hN hi hx r (fun s' I' _=>h s' I') hf
theorem Inv.call' {s':Shared}{ch:List Addr}(I:Inv X pins σ H s)(ho:s'.os=s.os)(u:Un (ZJ X.stack) ch H H' s.heap s'.heap)(hok:HOk X.prog X.w H' s'.heap)(hg:AllBare s'.gens)
   (hch:∀ b∈ch,(b∈X.ex∨X.s₀.heap.objs.size≤b)∧b≠X.env.locals∧(∀ x c,X.env.cells.lookup x=some c→c≠b)∧∀ p∈X.pn++pins,p.1≠b):Inv X pins σ H' s':=by
 obtain ⟨h',g',d',t',o'⟩:=s'
 have e:o'=s.os:=ho
 subst e
 exact I.call (g':=g') (t':=t') (d':=d') u hok hg hch
end
abbrev XK:=Value→Option Addr→Hp→Prop
abbrev St:=List (Option V)
abbrev VK:=V→Hp→Prop
abbrev TE:=St→Hp→VK→Prop
abbrev TT:=St→Hp→(Bool→Hp→Prop)→Prop
abbrev TA:=St→Hp→(List V→Hp→Prop)→Prop
structure WQ where
 nx:St→Hp→Prop
 rt:VK
 bk:St→Hp→Prop:=fun _ _=>False
 ct:St→Hp→Prop:=fun _ _=>False
abbrev TS:=WQ→St→Hp→Prop
def EP (X:Cx)(pins:List (Addr×Obj))(σ:St)(Q:VK)(u:Value)(s':Shared):Prop:=∃ v H',Inv X pins σ H' s'∧RelV v u∧Q v H'
def TP (X:Cx)(pins:List (Addr×Obj))(σ:St)(Q:Bool→Hp→Prop)(b:Bool)(s':Shared):Prop:=∃ H',Inv X pins σ H' s'∧Q b H'
def AP (X:Cx)(pins:List (Addr×Obj))(σ:St)(Q:List V→Hp→Prop)(us:List Value)(s':Shared):Prop:=∃ vs H',Inv X pins σ H' s'∧Vals vs us∧Q vs H'
def SP (X:Cx)(pins:List (Addr×Obj))(D:WQ)(f:Flow)(s':Shared):Prop :=
 match f with
 | .next=>∃ σ' H',Inv X pins σ' H' s'∧D.nx σ' H'
 | .brk=>∃ σ' H',Inv X pins σ' H' s'∧D.bk σ' H'
 | .cont=>∃ σ' H',Inv X pins σ' H' s'∧D.ct σ' H'
 | .ret u=>∃ v σ' H',Inv X pins σ' H' s'∧RelV v u∧D.rt v H'
def PE (X:Cx)(e:Expr)(t:TE):Prop :=
 ∀ (pins:List (Addr×Obj)) (s:Shared) (σ:St) (H:Hp) (Q:VK),Inv X pins σ H s→t σ H Q→wpAny (model X.prog X.w) X.A (eval e X.env) (EP X pins σ Q) X.xe s
def PT (X:Cx)(e:Expr)(t:TT):Prop :=
 ∀ (pins:List (Addr×Obj)) (s:Shared) (σ:St) (H:Hp) (Q:Bool→Hp→Prop),Inv X pins σ H s→t σ H Q→wpAny (model X.prog X.w) X.A (isTrue e X.env (eval e X.env)) (TP X pins σ Q) X.xe s
def PW (X:Cx)(e:Expr)(t:TT):Prop :=
 ∀ (whole:Sem Value) (pins:List (Addr×Obj)) (s:Shared) (σ:St) (H:Hp) (Q:Bool→Hp→Prop),Inv X pins σ H s→t σ H Q→wpAny (model X.prog X.w) X.A (isTrue e X.env whole) (TP X pins σ Q) X.xe s
theorem PW.pt {X:Cx}{e:Expr}{t:TT}(h:PW X e t):PT X e t:=h _
def PA (X:Cx)(es:List Expr)(t:TA):Prop :=
 ∀ (pos:Pos) (pins:List (Addr×Obj)) (s:Shared) (σ:St) (H:Hp) (Q:List V→Hp→Prop),Inv X pins σ H s→t σ H Q→wpAny (model X.prog X.w) X.A (spliced (backTo pos (starEach es X.env))) (AP X pins σ Q) X.xe s
def PS (X:Cx)(st:Stmt)(t:TS):Prop :=
 ∀ (pins:List (Addr×Obj)) (s:Shared) (σ:St) (H:Hp) (D:WQ),Inv X pins σ H s→t D σ H→wpAny (model X.prog X.w) X.A (exec st X.env) (SP X pins D) X.xe s
def PSs (X:Cx)(st:List Stmt)(t:TS):Prop :=
 ∀ (pins:List (Addr×Obj)) (s:Shared) (σ:St) (H:Hp) (D:WQ),Inv X pins σ H s→t D σ H→wpAny (model X.prog X.w) X.A (execs st X.env) (SP X pins D) X.xe s
theorem Zo {α:Type}{t:Sem α}{Q Q':α→Shared→Prop}{M:Model}{A:Around}{E:Value→Shared→Prop}{s:Shared}(h:wpAny M A t Q E s)(hQ:∀ a s,Q a s→Q' a s):wpAny M A t Q' E s:=wpAny_mono h hQ fun _ _ x=>x
end L2
namespace L2
open PySem PySem.Spec PyProof.Rows
section
variable {X:Cx}
def tVar (i:Nat):TE:=fun σ H Q=>∃ v,σ[i]?=some (some v)∧Q v H
def tC (v:V):TE:=fun _ H Q=>Q v H
theorem ZbP {i:Nat}{x:Str}{pos:Pos}(hN:X.N[i]?=some x)(hv:Vis X.env.scope x)(hd:(x == ("__debug__":Str))=false:=by decide)(hcd:(x == ("__classdict__":Str))=false:=by decide):PE X (.Name x pos) (tVar i):=by
 intro pins s σ H Q I h
 obtain ⟨v,e,h⟩:=h
 obtain ⟨m,hn,hl⟩:=I.loc
 obtain ⟨u,r,l⟩:=hl i x v hN e hv
 have fin:EP X pins σ Q u s:=⟨v,H,I,r,h⟩
 rcases l with ⟨hk,hm⟩ | ⟨hk,c,hc,hcell⟩
 · exact wpAny_Name (wpAny_loadName_local I.ok.kind hk hn hm fin) hd
 · rcases hk with hk | hk
   · exact wpAny_Name (wpAny_loadName_cell I.ok.kind hk hc hcell fin) hd
   · exact wpAny_Name (wpAny_loadName_free I.ok.kind hk hc hcell fin hcd) hd
theorem Zh {i j pos}:PE X (.Constant (.int i) j pos) (tC (.int i)):=fun _ _ _ H _ I h=>wpAny_Constant_int ⟨.int i,H,I.tok _,⟨_,rfl⟩,h⟩
theorem YJ {b j pos}:PE X (.Constant (.bool b) j pos) (tC (.bl b)):=fun _ _ _ H _ I h=>Constant_bool ⟨.bl b,H,I,rfl,h⟩
theorem YE {j pos}:PE X (.Constant .none j pos) (tC .non):=fun _ _ _ H _ I h=>Constant_none ⟨.non,H,I,rfl,h⟩
theorem Yd {x j pos}:PE X (.Constant (.str x) j pos) (tC (.str x)):=fun _ _ _ H _ I h=>Calls.Constant_str ⟨.str x,H,I.tok _,⟨_,rfl⟩,h⟩
def Gl (X:Cx)(x:Str):Prop:=X.env.kindOf x=some .globalImplicit
theorem YL {E:Value→Shared→Prop}{pins:List (Addr×Obj)}{s:Shared}{σ:St}{H:Hp}{x:Str}{u:Value}{pos:Pos}{Q:Value→Shared→Prop}(I:Inv X pins σ H s)(hg:Gl X x)(hm:X.mg x=some u)(h:Q u s)
   (hd:(x == ("__debug__":Str))=false:=by decide):wpAny (model X.prog X.w) X.A (eval (.Name x pos) X.env) Q E s :=
 Calls.Name_function_global I.ok.kind hg (Calls.loadGlobal_global (by rw [I.ok.glob];exact I.mod.glob.keeps I.bk) hm h) hd
theorem WA {E:Value→Shared→Prop}{pins:List (Addr×Obj)}{s:Shared}{σ:St}{H:Hp}{x:Str}{u:Value}{pos:Pos}{Q:Value→Shared→Prop}(I:Inv X pins σ H s)(hg:Gl X x)(hm:X.mg x=none)(hv:bootBuiltins x=some u)(h:Q u s)
   (hn:x≠"__name__":=by decide) (hd:(x == ("__debug__":Str))=false:=by decide):wpAny (model X.prog X.w) X.A (eval (.Name x pos) X.env) Q E s:=by
 obtain ⟨mb,h1,h2⟩:=I.mod.blt
 exact Calls.Name_function_global I.ok.kind hg (Calls.loadGlobal_builtin (by rw [I.ok.glob];exact I.mod.glob.keeps I.bk) hm (by rw [I.ok.blt];exact h1.keeps I.bk) ((h2 x hn).trans hv) h) hd
theorem Zv {x:Str}{v:V}{u:Value}{pos:Pos}(hg:Gl X x)(hm:X.mg x=some u)(r:RelV v u)(hd:(x == ("__debug__":Str))=false:=by decide):PE X (.Name x pos) (tC v) :=
 fun _ _ _ H _ I h=>YL I hg hm ⟨v,H,I,r,h⟩ hd
theorem Zeb {x:Str}{v:V}{u:Value}{pos:Pos}(hg:Gl X x)(hm:X.mg x=none)(hv:bootBuiltins x=some u)(r:RelV v u)(hn:x≠"__name__":=by decide)(hd:(x == ("__debug__":Str))=false:=by decide):PE X (.Name x pos) (tC v) :=
 fun _ _ _ H _ I h=>WA I hg hm hv ⟨v,H,I,r,h⟩ hn hd
variable {a b:Expr}{ta tb:TE}{pos:Pos}
def PC (X:Cx)(op:CmpOp)(a b:Expr)(t:TE):Prop :=
 ∀ (pins:List (Addr×Obj)) (s:Shared) (σ:St) (H:Hp) (Q:VK),Inv X pins σ H s→t σ H Q →
   wpAny (model X.prog X.w) X.A (eval a X.env) (fun v s₁=>wpAny (model X.prog X.w) X.A (eval b X.env) (fun u s₂=>wpAny (model X.prog X.w) X.A (compareOp op v u) (EP X pins σ Q) X.xe s₂) X.xe s₁) X.xe s
theorem Zcq (b:Expr){op:CmpOp}(h:op≠.In)(h2:op≠.NotIn):behindInMarks op b=false:=by
 have e1:(op == CmpOp.In)=false:=by cases op<;>first | rfl | exact absurd rfl h
 have e2:(op == CmpOp.NotIn)=false:=by cases op<;>first | rfl | exact absurd rfl h2
 cases b<;>simp [behindInMarks,e1,e2]
def tIsN (ta:TE):TE:=fun σ H Q=>ta σ H fun x H1=>Q (.bl (decide (x=.non))) H1
theorem RelV.none_iff {x:V}{v:Value}(r:RelV x v):(v == Value.none)=decide (x=.non):=by
 cases x with
 | non=>cases r;rfl
 | bl _=>cases r;rfl
 | int _=>obtain ⟨t,rfl⟩:=r;rfl
 | str _=>obtain ⟨t,rfl⟩:=r;rfl
 | byt _=>obtain ⟨t,rfl⟩:=r;rfl
 | flt _=>obtain ⟨t,rfl⟩:=r;rfl
 | ref _=>cases r;rfl
 | ty _=>cases r;rfl
theorem ZeJ {j pos'}(ha:PE X a ta):PC X .Is a (.Constant .none j pos') (tIsN ta):=by
 intro pins s σ H Q I h
 refine Zo (ha pins s σ H _ I h) fun v s1 ⟨x,H1,I1,r1,q1⟩=>?_
 exact Constant_none (is_none_gen ⟨.bl _,H1,I1,by rw [r1.none_iff];rfl,q1⟩)
def tB (t:TE):TT:=fun σ H Q=>t σ H fun x H1=>∃ c,x=.bl c∧Q c H1
theorem Zez {op:CmpOp}{t:TE}(h:PC X op a b t)(h1:behindInMarks op b=false:=by first | exact Zcq _ (by decide) (by decide) | rfl):PT X (.Compare a [op] [b] pos) (tB t):=by
 intro pins s σ H Q I hw
 refine wpAny_isTrue_Compare1 (Zo (h pins s σ H _ I hw) fun v s1 h1=>Zo h1 fun u s2 h2=>Zo h2 fun c s3 ⟨x,H1,I1,r1,q1⟩=>?_) h1
 obtain ⟨d,rfl,q⟩:=q1
 cases r1
 exact wpAny_truthy_bool ⟨H1,I1,q⟩
theorem Zbs {e:Expr}{t:TE}(h:PE X e t)(he:∀ whole,isTrue e X.env whole=(do let v ← whole;standAt e.pos;holding [v] (truthy v)):=by intro _;rfl):PT X e (tB t):=by
 intro pins s σ H Q I hw
 refine isTrue_plain (Zo (h pins s σ H _ I hw) fun v s1 ⟨x,H1,I1,r1,q1⟩=>?_) (he _)
 obtain ⟨d,rfl,q⟩:=q1
 cases r1
 exact wpAny_truthy_bool ⟨H1,I1,q⟩
variable {tA tB':TT}{rest:List Expr}
def tOr (t u:TT):TT:=fun σ H Q=>t σ H fun c H1=>if c=true then Q true H1 else u σ H1 Q
def tNot (t:TT):TT:=fun σ H Q=>t σ H fun c H1=>Q (!c) H1
theorem UM (ha:PT X a tA):PW X (.BoolOp .Or [a] pos) tA:=by
 intro wh pins s σ H Q I h
 refine isTrue_or (Zo (ha pins s σ H Q I h) fun c s1 e=>?_)
 cases c with
 | false=>exact isTrue_or_nil e
 | true=>exact e
theorem Zaz (ha:PT X a tA)(hb:PW X (.BoolOp .Or (b::rest) pos) tB'):PW X (.BoolOp .Or (a::b::rest) pos) (tOr tA tB'):=by
 intro wh pins s σ H Q I h
 refine isTrue_or (Zo (ha pins s σ H _ I h) fun c s1 ⟨H1,I1,q1⟩=>?_)
 cases c with
 | true=>exact ⟨H1,I1,q1⟩
 | false=>exact hb wh pins s1 σ H1 Q I1 q1
theorem Zbi (ha:PT X a tA):PT X (.UnaryOp .Not a pos) (tNot tA):=by
 intro pins s σ H Q I h
 exact isTrue_not (ha pins s σ H (fun c H1=>Q (!c) H1) I h)
def tOrV (ta tb:TE):TE:=fun σ H Q=>ta σ H fun x H1=>∃ c,x=.bl c∧if c=true then Q (.bl true) H1 else tb σ H1 Q
theorem Zfo {op}{t:TE}(h:PE X a t):PE X (.BoolOp op [a] pos) t:=fun pins s σ H Q I hw=>BoolOp_one (h pins s σ H Q I hw)
theorem Zgd (ha:PE X a ta)(hb:PE X (.BoolOp .Or (b::rest) pos) tb):PE X (.BoolOp .Or (a::b::rest) pos) (tOrV ta tb):=by
 intro pins s σ H Q I h
 refine BoolOp_or (Zo (ha pins s σ H _ I h) fun v s1 ⟨x,H1,I1,r1,q1⟩=>?_)
 obtain ⟨c,rfl,q1⟩:=q1
 cases r1
 refine wpAny_truthy_bool ?_
 cases c with
 | false=>exact hb pins s1 σ H1 Q I1 q1
 | true=>exact ⟨.bl true,H1,I1,rfl,q1⟩
def tIf (t:TT)(ta tb:TE):TE:=fun σ H Q=>t σ H fun c H1=>if c=true then ta σ H1 Q else tb σ H1 Q
theorem Vv {c:Expr}(hc:PT X c tA)(ha:PE X a ta)(hb:PE X b tb):PE X (.IfExp c a b pos) (tIf tA ta tb):=by
 intro pins s σ H Q I h
 refine wpAny_IfExp (Zo (hc pins s σ H _ I h) fun d s1 ⟨H1,I1,q1⟩=>?_)
 cases d with
 | true=>exact ha pins s1 σ H1 Q I1 q1
 | false=>exact hb pins s1 σ H1 Q I1 q1
end
end L2
namespace L2
open PySem PySem.Spec PyProof.Rows
def SqL (K:PySem.W.Frag)(H:Hp)(a:Addr)(xs:List V):Prop :=
 Rd H a (.lst xs) ∨
   ∃ (o:Obj) (its:Array Value) (n:Nat),K.lookup a=some o∧o.cls=.type "list"∧o.dict=none∧o.data=.seq its n∧its.size≤sizeLine∧Vals xs its.toList
def SqT (K:PySem.W.Frag)(H:Hp)(a:Addr)(xs:List V):Prop :=
 Rd H a (.tup xs) ∨
   ∃ (o:Obj) (its:Array Value) (n:Nat),K.lookup a=some o∧o.cls=.type "tuple"∧o.data=.seq its n∧its.size≤sizeLine∧Vals xs its.toList
def Zcj:Value→Option V
 | .none=>some .non
 | .bool b=>some (.bl b)
 | .int i _=>some (.int i)
 | .str x _=>some (.str x)
 | .bytes b _=>some (.byt b)
 | .float b _=>some (.flt b)
 | .ref a=>some (.ref a)
 | .type n=>some (.ty n)
 | _=>none
section
variable {X:Cx}{pins:List (Addr×Obj)}{σ:St}{H:Hp}{s:Shared}{a:Addr}{xs ys:List V}
theorem SqL.of {K:PySem.W.Frag}(h:H a=some (.lst xs)):SqL K H a xs:=.inl (.inl h)
theorem SqT.of {K:PySem.W.Frag}(h:H a=some (.tup xs)):SqT K H a xs:=.inl (.inl h)
theorem Inv.list (I:Inv X pins σ H s)(h:SqL X.K H a xs):∃ its:List Value,Vals xs its∧PlainL s.heap a its.toArray∧xs.length≤sizeLine:=by
 rcases h with h | ⟨o,its,n,hk,hc,hd,hs,hz,r⟩
 · obtain ⟨z,its,n,r,e⟩:=h.ok I.hok
   exact ⟨its,r,⟨_,n,e,rfl,rfl,rfl⟩,z⟩
 · refine ⟨its.toList,r,⟨o,n,I.kIn a o hk,hc,hd,by simpa using hs⟩,?_⟩
   have e:=r.length
   simp only [Array.length_toList] at e
   omega
theorem Inv.tuple (I:Inv X pins σ H s)(h:SqT X.K H a xs):∃ its:List Value,Vals xs its∧IsTup s.heap a its.toArray∧xs.length≤sizeLine:=by
 rcases h with h | ⟨o,its,n,hk,hc,hs,hz,r⟩
 · obtain ⟨z,its,r,p⟩:=h.ok I.hok
   exact ⟨its,r,p,z⟩
 · refine ⟨its.toList,r,⟨o,I.kIn a o hk,hc,n,by simpa using hs⟩,?_⟩
   have e:=r.length
   simp only [Array.length_toList] at e
   omega
end
abbrev Cx.wish (X:Cx)(E:Value→Shared→Prop):Cx:={ X with xe:=E }
abbrev Cx.nox (X:Cx):Cx:=X.wish fun _ _=>False
theorem Cx.Ok.wish {X:Cx}(ok:X.Ok)(E:Value→Shared→Prop):(X.wish E).Ok :=
 ⟨ok.mod,ok.kind,ok.glob,ok.blt,ok.above,ok.inj,ok.has,ok.cab,ok.hd,ok.frames,ok.stk,ok.exf,ok.bs,ok.bsz,ok.noex,ok.exfs,ok.funs,ok.frf⟩
theorem Cx.Ok.unwish {X:Cx}{E:Value→Shared→Prop}(ok:(X.wish E).Ok):X.Ok :=
 ⟨ok.mod,ok.kind,ok.glob,ok.blt,ok.above,ok.inj,ok.has,ok.cab,ok.hd,ok.frames,ok.stk,ok.exf,ok.bs,ok.bsz,ok.noex,ok.exfs,ok.funs,ok.frf⟩
section
variable {X:Cx}{pins:List (Addr×Obj)}{σ:St}{H:Hp}{s:Shared}{E:Value→Shared→Prop}
theorem Inv.wish (I:Inv X pins σ H s)(E:Value→Shared→Prop):Inv (X.wish E) pins σ H s:=⟨I.ok.wish E,I.os,I.bare,I.base,I.loc,I.cell,I.free,I.freeC,I.pin,I.hok,I.len⟩
theorem Inv.unwish (I:Inv (X.wish E) pins σ H s):Inv X pins σ H s:=⟨I.ok.unwish,I.os,I.bare,I.base,I.loc,I.cell,I.free,I.freeC,I.pin,I.hok,I.len⟩
theorem SP.unwish {D:WQ}{f:Flow}{s':Shared}(h:SP (X.wish E) pins D f s'):SP X pins D f s':=by
 cases f with
 | next=>obtain ⟨σ',H',I,q⟩:=h;exact ⟨σ',H',I.unwish,q⟩
 | brk=>obtain ⟨σ',H',I,q⟩:=h;exact ⟨σ',H',I.unwish,q⟩
 | cont=>obtain ⟨σ',H',I,q⟩:=h;exact ⟨σ',H',I.unwish,q⟩
 | ret u=>obtain ⟨v,σ',H',I,r,q⟩:=h;exact ⟨v,σ',H',I.unwish,r,q⟩
theorem PSs.nox {st:List Stmt}{t:TS}(h:PSs X.nox st t):PSs X st t:=fun pins s σ H D I hw =>
 wpAny_mono (h pins s σ H D (I.wish _) hw) (fun _ _ q=>q.unwish) fun _ _ z=>False.elim z
end
section
variable {X:Cx}{st:Stmt}{rest:List Stmt}{t u:TS}{e:Expr}{te:TE}{pos:Pos}
def ZfD:TS:=fun D σ H=>D.nx σ H
def tSeq (t u:TS):TS:=fun D σ H=>t { D with nx:=u D } σ H
theorem ZV:PSs X [] ZfD:=fun _ _ σ H _ I h=>wpAny_execs_nil ⟨σ,H,I,h⟩
theorem Ze (h1:PS X st t)(h2:PSs X rest u):PSs X (st::rest) (tSeq t u):=by
 intro pins s σ H D I h
 refine wpAny_execs_cons (Zo (h1 pins s σ H { D with nx:=u D } I h) fun f s1 q=>?_)
 cases f with
 | next =>
   obtain ⟨σ',H',I',q⟩:=q
   exact h2 pins s1 σ' H' D I' q
 | ret v=>exact q
 | brk=>exact q
 | cont=>exact q
theorem Zl (h1:PS X st t):PSs X [st] t:=by
 intro pins s σ H D I h
 refine wpAny_execs_cons (Zo (h1 pins s σ H D I h) fun f s1 q=>?_)
 cases f with
 | next=>exact wpAny_execs_nil q
 | ret v=>exact q
 | brk=>exact q
 | cont=>exact q
theorem Inv.quiet {pins:List (Addr×Obj)}{σ:St}{H:Hp}{s:Shared}(I:Inv X pins σ H s):interactive X.env=false:=by simp [interactive,I.ok.kind]
def Zgf (te:TE):TS:=fun D σ H=>te σ H fun _ H1=>D.nx σ H1
theorem Yr (he:PE X e te)(hs:swapsWith e none pos.line X.env=pure false:=by rfl):PS X (.Expr e pos) (Zgf te):=by
 intro pins s σ H D I h
 exact wpAny_Expr_any (Zo (he pins s σ H _ I h) fun v s1 ⟨x,H1,I1,r1,q1⟩=>⟨σ,H1,I1,q1⟩) I.quiet hs
def tRet (te:TE):TS:=fun D σ H=>te σ H D.rt
theorem ZB (he:PE X e te):PS X (.Return (some e) pos) (tRet te):=by
 intro pins s σ H D I h
 exact wpAny_Return_some (Zo (he pins s σ H _ I h) fun v s1 ⟨x,H1,I1,r1,q1⟩=>⟨x,σ,H1,I1,r1,q1⟩)
def tIfS (c:TT)(t u:TS):TS:=fun D σ H=>c σ H fun b H1=>if b=true then t D σ H1 else u D σ H1
theorem Yo {c:Expr}{a b:List Stmt}{tc:TT}(hc:PT X c tc)(ha:PSs X a t)(hb:PSs X b u):PS X (.If c a b pos) (tIfS tc t u):=by
 intro pins s σ H D I h
 refine wpAny_If (Zo (hc pins s σ H _ I h) fun d s1 ⟨H1,I1,q1⟩=>?_)
 cases d with
 | true=>exact ha pins s1 σ H1 D I1 q1
 | false=>exact hb pins s1 σ H1 D I1 q1
end
abbrev TG:=V→St→Hp→(St→Hp→Prop)→Prop
abbrev Vz:=List V→St→Hp→(St→Hp→Prop)→Prop
def PG (X:Cx)(target:Expr)(t:TG):Prop :=
 ∀ (pins:List (Addr×Obj)) (s:Shared) (σ:St) (H:Hp) (v:V) (u:Value) (Q:St→Hp→Prop),Inv X pins σ H s→RelV v u→t v σ H Q →
   wpAny (model X.prog X.w) X.A (assign target X.env u) (fun _ s'=>∃ σ' H',Inv X pins σ' H' s'∧Q σ' H') X.xe s
def PGs (X:Cx)(ts:List Expr)(t:Vz):Prop :=
 ∀ (pins:List (Addr×Obj)) (s:Shared) (σ:St) (H:Hp) (vs:List V) (us:List Value) (Q:St→Hp→Prop),Inv X pins σ H s→Vals vs us→t vs σ H Q →
   wpAny (model X.prog X.w) X.A (assignInOrder ((assignEach ts X.env).map (·.2)) us) (fun _ s'=>∃ σ' H',Inv X pins σ' H' s'∧Q σ' H') X.xe s
abbrev Zcg:=V→V→V→Hp→(Hp→Prop)→Prop
def PSet (X:Cx)(t:Zcg):Prop :=
 ∀ (pins:List (Addr×Obj)) (s:Shared) (σ:St) (H:Hp) (o i v:V) (ov iv u:Value) (Q:Hp→Prop),Inv X pins σ H s→RelV o ov→RelV i iv→RelV v u→t o i v H Q →
   wpAny (model X.prog X.w) X.A (setItem ov iv u) (fun _ s'=>∃ H',Inv X pins σ H' s'∧Q H') X.xe s
section
variable {X:Cx}{pos:Pos}
def Zdh (i:Nat):TG:=fun v σ H Q=>Q (σ.set i (some v)) H
theorem Ys {i:Nat}{x:Str}(hN:X.N.Nodup)(hi:X.N[i]?=some x)(hx:Loc X.env.scope x)(hf:X.fn x=true∨X.env.scope.names.lookup x=some .local:=by first | exact .inl rfl | exact .inr rfl | assumption):PG X (.Name x pos) (Zdh i):=by
 intro pins s σ H v u Q I r h
 exact wpAny_assign_Name (YO I hN hi hx r (fun s' I'=>⟨_,H,I',h⟩) hf)
def gNil:Vz:=fun vs σ H Q=>vs=[]∧Q σ H
def ZfI (t:TG)(u:Vz):Vz:=fun vs σ H Q=>∃ v r,vs=v::r∧t v σ H fun σ' H'=>u r σ' H' Q
theorem VZ:PGs X [] gNil:=by
 intro pins s σ H vs us Q I r h
 obtain ⟨e,h⟩:=h
 subst e
 cases r
 exact assignInOrder_nil ⟨σ,H,I,h⟩
theorem Xw {e:Expr}{es:List Expr}{t:TG}{u:Vz}(h1:PG X e t)(h2:PGs X es u)
   (hs:(assignEach (e::es) X.env).map (·.2)=assign e X.env::(assignEach es X.env).map (·.2):=by rfl):PGs X (e::es) (ZfI t u):=by
 intro pins s σ H vs us Q I r h
 obtain ⟨v,vr,e1,h⟩:=h
 subst e1
 cases r with
 | cons r rr =>
   rw [hs]
   refine assignInOrder_cons (Zo (h1 pins s σ H _ _ _ I r h) fun _ s1 ⟨σ1,H1,I1,q1⟩=>?_)
   exact h2 pins s1 σ1 H1 _ _ Q I1 rr q1
def gTup (K:PySem.W.Frag)(n:Nat)(t:Vz):TG:=fun v σ H Q=>∃ a xs,v=.ref a∧SqT K H a xs∧xs.length=n∧t xs σ H Q
theorem Zbv {es:List Expr}{k:Nat}{t:Vz}{n:Nat}(hc:X.calm=true)(h:PGs X es t)
   (hn:(assignEach es X.env).length=n:=by rfl) (hst:(assignEach es X.env).findIdx? (·.1)=none:=by rfl):PG X (.Tuple es k pos) (gTup X.K n t):=by
 intro pins s σ H v u Q I r hw
 obtain ⟨a,xs,e1,hq,hl,hw⟩:=hw
 subst e1
 cases r
 obtain ⟨its,rv,ht,hz⟩:=I.tuple hq
 refine assign_Tuple_tuple (I.ok.hd hc) ht (by simp [hn,← hl,rv.length]) hst fun h' hx=>?_
 have I1:Inv X pins σ H { s with heap:=h' }:=I.kept (t':=s.toks) fun b o e=>hx b o (Nat.ne_of_lt (Heap.lt_size e)) e
 exact h pins _ σ H xs _ Q I1 (by simpa using rv) hw
def gSub (to ti:TE)(t:Zcg):TG:=fun v σ H Q=>to σ H fun o H1=>ti σ H1 fun i H2=>t o i v H2 fun H3=>Q σ H3
theorem Zbx {o i:Expr}{to ti:TE}{t:Zcg}(ho:PE X o to)(hi:PE X i ti)(hs:PSet X t)
   (ha:∀ v,assign (.Subscript o i pos) X.env v=(do
     let ov ← holding [v] (eval o X.env)
     let iv ← holding [v,ov] (eval i X.env)
     standAt pos
     holding [v,ov,iv] (setItem ov iv v)
     release [v,ov,iv] []):=by intro _;rfl):PG X (.Subscript o i pos) (gSub to ti t):=by
 intro pins s σ H v u Q I r h
 rw [ha]
 refine wpAny_bind (wpAny_holding (Zo (ho pins s σ H _ I h) fun ov s1 ⟨x,H1,I1,r1,q1⟩=>?_))
 refine wpAny_bind (wpAny_holding (Zo (hi pins s1 σ H1 _ I1 q1) fun iv s2 ⟨y,H2,I2,r2,q2⟩=>?_))
 refine wpAny_bind (wpAny_standAt (wpAny_bind (wpAny_holding (Zo (hs pins s2 σ H2 x y v ov iv u _ I2 r1 r2 r q2) fun _ s3 ⟨H3,I3,q3⟩=>?_))))
 exact wpAny_release ⟨σ,H3,I3,q3⟩
def tAsg (te:TE)(g:TG):TS:=fun D σ H=>te σ H fun x H1=>g x σ H1 D.nx
theorem WN {tg e:Expr}{te:TE}{g:TG}(he:PE X e te)(hg:PG X tg g)(hs:swapsWithSole [tg] e pos.line X.env=pure false:=by rfl)(hw:swappedStores [tg] e X.env=pure none:=by rfl)
   (h1:(assignEach [tg] X.env).map (·.2)=[assign tg X.env]:=by rfl):PS X (.Assign [tg] e pos) (tAsg te g):=by
 intro pins s σ H D I h
 refine wpAny_Assign_stores (Zo (he pins s σ H _ I h) fun v s1 ⟨x,H1,I1,r1,q1⟩=>?_) hs hw
 rw [h1]
 exact Zo (hg pins s1 σ H1 x v _ I1 r1 q1) fun _ s2 q=>q
theorem Zx {i:Nat}{x:Str}{e:Expr}{te:TE}{pos':Pos}(hN:X.N.Nodup)(hi:X.N[i]?=some x)(hx:Loc X.env.scope x)(he:PE X e te)(hs:swapsWith e (some (.Name x pos')) pos.line X.env=pure false:=by rfl)(hf:X.fn x=true∨X.env.scope.names.lookup x=some .local:=by first | exact .inl rfl | exact .inr rfl | assumption) :
   PS X (.Assign [.Name x pos'] e pos) (tAsg te (Zdh i)):=by
 intro pins s σ H D I h
 refine wpAny_Assign_Name (Zo (he pins s σ H _ I h) fun v s1 ⟨y,H1,I1,r1,q1⟩=>?_) hs
 exact YO I1 hN hi hx r1 (fun s2 I2=>⟨_,H1,I2,q1⟩) hf
def tPar (i j:Nat)(ta:TA):TS:=fun D σ H=>ta σ H fun vs H1=>∃ v w,vs=[v,w]∧D.nx ((σ.set i (some v)).set j (some w)) H1
theorem ZeP {i j:Nat}{x y:Str}{a b:Expr}{ta:TA}{px py pt:Pos}{kt k2 pt2}(hc:X.calm=true)(hN:X.N.Nodup)(hi:X.N[i]?=some x)(hj:X.N[j]?=some y)(hij:i≠j)
   (hx:X.env.scope.names.lookup x=some .local) (hy:X.env.scope.names.lookup y=some .local) (ha:PA X [a,b] ta)
   (hw:swappedStores [.Tuple [.Name x px,.Name y py] kt pt] (.Tuple [a,b] k2 pt2) X.env=pure (some [x,y]))
   (hs:swapsWithSole [.Tuple [.Name x px,.Name y py] kt pt] (.Tuple [a,b] k2 pt2) pos.line X.env=pure false:=by rfl) :
   PS X (.Assign [.Tuple [.Name x px,.Name y py] kt pt] (.Tuple [a,b] k2 pt2) pos) (tPar i j ta):=by
 intro pins s σ H D I h
 rw [exec_Assign_arm]
 refine wpAny_bind (wpAny_standAt ?_)
 rw [hs]
 refine wpAny_bind (wpAny_pure ?_)
 rw [if_neg (by decide)]
 refine wpAny_bind (Tuple_ (Zo (ha _ pins s σ H _ I h) fun us s1 ⟨vs,H1,I1,r1,q1⟩=>?_))
 obtain ⟨v,w,e1,q1⟩:=q1
 subst e1
 obtain ⟨u1,u2,rfl,rv,rw'⟩:∃ u1 u2,us=[u1,u2]∧RelV v u1∧RelV w u2:=by
   cases r1 with
   | cons p q =>
     cases q with
     | cons p' q' =>
       cases q'
       exact ⟨_,_,rfl,p,p'⟩
 refine wpAny_newObj_type ?_ (by show 2≤sizeLine;decide)
 have I2:Inv X pins σ H1 { s1 with heap:=s1.heap.push { cls:=.type "tuple",data:=.seq [u1,u2].toArray } }:=I1.kept (t':=s1.toks) fun b o e=>Heap.get?_push_of_some _ e
 rw [hw]
 refine wpAny_bind (wpAny_pure ?_)
 show wpAny (model X.prog X.w) X.A (do rule "assign.swapped-stores";let items ← unpackItems (.ref s1.heap.objs.size) 2 none;assignInOrder [fun v=>bindName X.env y v,fun v=>bindName X.env x v] items.reverse;pure Flow.next) _ _ _
 refine wpAny_bind (wpAny_rule (wpAny_bind (unpackItems_tuple (items:=#[u1,u2]) (I.ok.hd hc) (IsTup.new s1.heap _) fun h' hx'=>?_)))
 have I3:=I2.kept (h':=h') (t':=s1.toks) fun b o e=>hx' b o (Nat.ne_of_lt (Heap.lt_size e)) e
 show wpAny _ _ (assignInOrder [fun v=>bindName X.env y v,fun v=>bindName X.env x v] [u2,u1] >>= fun _=>pure Flow.next) _ _ _
 refine wpAny_bind (assignInOrder_cons (wpAny_bindName (YO I3 hN hj (.inl hy) rw' (fun s2 I4=>?_) (.inr hy))))
 refine assignInOrder_cons (wpAny_bindName (YO I4 hN hi (.inl hx) rv (fun s3 I5=>assignInOrder_nil (wpAny_pure ?_)) (.inr hx)))
 rw [List.set_comm _ _ (Ne.symm hij)] at I5
 exact ⟨_,H1,I5,q1⟩
end
section
variable {X:Cx}{pos:Pos}
end
structure It where
 go:Nat→Hp→Prop
 yld:Nat→Hp→V→Hp→Prop
 stop:Nat→Hp→Prop
def YT (X:Cx)(pins:List (Addr×Obj))(H:Hp)(b:Addr):Prop :=
 H b=none∧b≠X.env.locals∧b ∉ X.fs∧(b∈X.ex∨X.s₀.heap.objs.size≤b)∧(∀ x c,X.env.cells.lookup x=some c→c≠b)∧∀ p∈X.pn++pins,p.1≠b
theorem Inv.fpOk {X:Cx}{pins:List (Addr×Obj)}{σ:St}{H H':Hp}{s:Shared}{b:Addr}(I:Inv X pins σ H s)(hb:s.heap.objs.size≤b)(hn:H' b=none):YT X pins H' b:=by
 refine ⟨hn,Nat.ne_of_gt (Nat.lt_of_lt_of_le I.lt hb),I.nofs hb,.inr (Nat.le_trans I.sz hb),fun x c e z=>?_,fun p hp z=>?_⟩
 · obtain ⟨v,q⟩:=I.cell x c e
   exact absurd (Nat.lt_of_lt_of_le q.lt (by rw [z];exact hb)) (Nat.lt_irrefl _)
 · exact absurd (Nat.lt_of_lt_of_le (Heap.lt_size (I.pin p hp).1) (by rw [z];exact hb)) (Nat.lt_irrefl _)
structure ZcE (P:Program)(w:World)(K:PySem.W.Frag)(tg:Expr)(J:It)(fp:List Addr)(it:Addr)(tn:Nat→Heap→Prop):Prop where
 mem:it∈fp
 obj:∀ i h,tn i h→∀ b∈fp,∃ o,h.get? b=some o∧∀ v,o.data≠.cell v
 keep:∀ i h h',tn i h→(∀ b∈fp,∀ o,h.get? b=some o→h'.get? b=some o)→tn i h'
 item:∀ (X:Cx),X.prog=P→X.w=w→X.K=K→X.calm=true→∀ (i:Nat) (pins:List (Addr×Obj)) (s:Shared) (σ:St) (H:Hp) (E:Value→Shared→Prop),Inv X pins σ H s→(∀ b∈fp,YT X pins H b)→tn i s.heap→J.go i H →
   wpAny (model P w) X.A (pyNext (.ref it)) (fun r s1=>∃ u,r=some u ∧
     wpAny (model P w) X.A (letOwnedTupleGo tg (.ref it) u) (fun _ s2=>∃ x H',Inv X pins σ H' s2∧RelV x u∧J.yld i H x H'∧tn (i+1) s2.heap∧∀ b∈fp,H' b=none) E s1) E s
 done:∀ (X:Cx),X.prog=P→X.w=w→X.K=K→X.calm=true→∀ (i:Nat) (pins:List (Addr×Obj)) (s:Shared) (σ:St) (H:Hp) (E:Value→Shared→Prop),Inv X pins σ H s→(∀ b∈fp,YT X pins H b)→tn i s.heap→J.stop i H →
   wpAny (model P w) X.A (pyNext (.ref it)) (fun r s1=>r=none∧Inv X pins σ H s1) E s
 self:∀ (A:Around) (i:Nat) (s:Shared) (Q:Value→Shared→Prop) (E:Value→Shared→Prop),tn i s.heap→Q (.ref it) s→wpAny (model P w) A (pyIter (.ref it)) Q E s
abbrev TI:=St→Hp→(It→Hp→Prop)→Prop
def PIE (X:Cx)(pins:List (Addr×Obj))(σ:St)(tg:Expr)(R:It→Hp→Prop)(itv:Value)(s2:Shared):Prop :=
 ∃ (it:Addr) (fp:List Addr) (tn:Nat→Heap→Prop) (J:It) (H':Hp),itv=.ref it∧Inv X pins σ H' s2∧ZcE X.prog X.w X.K tg J fp it tn∧tn 0 s2.heap∧(∀ b∈fp,YT X pins H' b)∧R J H'
def PI (X:Cx)(tg iter:Expr)(wi:TI):Prop :=
 ∀ (pins:List (Addr×Obj)) (s:Shared) (σ:St) (H:Hp) (R:It→Hp→Prop),Inv X pins σ H s→wi σ H R →
   wpAny (model X.prog X.w) X.A (eval iter X.env) (fun v s1=>wpAny (model X.prog X.w) X.A (pyIter v) (PIE X pins σ tg R) X.xe s1) X.xe s
theorem ZfC {M:Model}{A:Around}{E:Value→Shared→Prop}{s:Shared}{tg:Expr}{it:Addr}{u:Value}{o:Obj}{n:String}{vs:Array Value}{Q:Unit→Shared→Prop}(ho:s.heap.get? it=some o)(hc:o.cls=.type n)(hd:o.data=.fields vs)
   (hn:["enumerate","zip","dict_itemiterator","dict_reverseitemiterator","odict_iterator","itertools.zip_longest","itertools.pairwise"].contains n=false) (hQ:Q () s):wpAny M A (letOwnedTupleGo tg (.ref it) u) Q E s:=by
 unfold letOwnedTupleGo
 cases tg <;> first
   | exact wpAny_pure hQ
   | (cases u<;>first
       | exact wpAny_pure hQ
       | (refine wpAny_bind (wpAny_load ho ?_)
          rw [hc,hd]
          show wpAny M A (if (["enumerate","zip","dict_itemiterator","dict_reverseitemiterator","odict_iterator","itertools.zip_longest","itertools.pairwise"].contains n&&vs[0]? == some (rawInt _))=true then _ else _) Q E s
          rw [if_neg (by intro h;rw [hn,Bool.false_and] at h;cases h)]
          exact wpAny_pure hQ))
def Vt (lo:Int)(n:Nat):It:=⟨fun i _=>i < n,fun i H x H'=>H'=H∧x=.int (lo+i),fun i _=>n≤i⟩
theorem ZaA {P:Program}{w:World}{K:PySem.W.Frag}{tg:Expr}(it:Addr)(lo:Int)(n:Nat):ZcE P w K tg (Vt lo n) [it] it (fun i h=>IsRangeIter h it (lo+(i:Nat) * 1) ((n:Int) - (i:Nat)) 1) where
 mem:=by simp
 obj := fun i h st b hb=>by
   have e:b=it:=by simpa using hb
   subst e
   exact ⟨_,st,fun v z=>by
     have z':Data.fields _=Data.cell v:=z
     cases z'⟩
 keep:=fun i h h' st k=>k it (by simp) _ st
 item:=by
   intro X hP hw hK hc i pins s σ H E I hf st hg
   subst hP hw hK
   obtain ⟨f0,f1,f2,f3,f4,f5⟩:=hf it (by simp)
   have W:=Walks.range (prog:=X.prog) (w:=X.w) (I.ok.hd hc) it lo 1 n
   refine W.item i s _ _ hg st fun v h' tk hv st' kk=>?_
   obtain ⟨t,rfl⟩:=hv
   have I1:Inv X pins σ H { s with heap:=h',toks:=tk }:=I.turned (fun b o hb e=>kk b o (by simpa using hb) e) f0 f1 f3 f4 f5
   refine ⟨_,rfl,ZfC (s:={ s with heap:=h',toks:=tk }) (n:="range_iterator") st' rfl rfl (by decide) ⟨.int (lo+i),H,I1,⟨t,?_⟩,⟨rfl,rfl⟩,st',fun b hb=>(hf b hb).1⟩⟩
   rw [Int.mul_one]
 done:=by
   intro X hP hw hK hc i pins s σ H E I hf st hg
   subst hP hw hK
   obtain ⟨f0,f1,f2,f3,f4,f5⟩:=hf it (by simp)
   exact wpAny_pyNext_range_end (I.ok.hd hc) st (by have:n≤i:=hg;omega) fun h' eb=>⟨rfl,I.turned (t':=s.toks) (fun b o hb e=>eb b o hb e) f0 f1 f3 f4 f5⟩
 self:=fun _ _ _ _ _ st h=>wpAny_pyIter_rangeiter st h
end L2
namespace L2
open PySem PySem.Spec PyProof.Rows
section
variable {X:Cx}{tg:Expr}
theorem Zck {pins:List (Addr×Obj)}{σ:St}{H:Hp}{s:Shared}{R:It→Hp→Prop}{E:Value→Shared→Prop}{lo hi:Int}{t u v:Tok}{tk:Nat}(I:Inv X pins σ H s)(h1:-(2 ^ 62)≤lo)(h2:lo < 2 ^ 62)(h3:-(2 ^ 62)≤hi)(h4:hi < 2 ^ 62)
   (q:R (Vt lo (hi - lo).toNat) H):wpAny (model X.prog X.w) X.A (pyIter (.ref s.heap.objs.size)) (PIE X pins σ tg R) E { s with heap:=s.heap.push { cls:=.type "range",data:=.fields #[.int lo t,.int hi u,.int 1 v] },toks:=tk }:=by
 refine wpAny_pyIter_range (IsRange.new ..) (small_one h1 h2 h3 h4) ?_
 have I1:Inv X pins σ H { s with heap:=s.heap.push { cls:=.type "range",data:=.fields #[.int lo t,.int hi u,.int 1 v] },toks:=tk }:=I.kept fun b o e=>Heap.get?_push_of_some _ e
 refine ⟨(s.heap.push { cls:=.type "range",data:=.fields #[.int lo t,.int hi u,.int 1 v] }).objs.size,[(s.heap.push { cls:=.type "range",data:=.fields #[.int lo t,.int hi u,.int 1 v] }).objs.size],_,_,H,rfl,
   I1.kept (t':=tk) fun b o e=>Heap.get?_push_of_some _ e,ZaA _ lo (hi - lo).toNat,?_,fun b hb=>?_,q⟩
 · have e1:lo+((0:Nat):Int) * 1=lo:=by simp
   have e2:(((hi - lo).toNat:Nat):Int) - ((0:Nat):Int)=Builtin.Range.rangeSize lo hi 1:=by rw [rangeSize_one];split<;>omega
   show IsRangeIter _ _ (lo+((0:Nat):Int) * 1) ((((hi - lo).toNat:Nat):Int) - ((0:Nat):Int)) 1
   rw [e1,e2]
   exact Heap.get?_push_size _ rfl
 · have e:b=(s.heap.push { cls:=.type "range",data:=.fields #[.int lo t,.int hi u,.int 1 v] }).objs.size:=by simpa using hb
   subst e
   exact I1.fpOk (Nat.le_refl _) (I1.hok.fresh (Nat.le_refl _))
def ZfK (ta:TA):TI:=fun σ H R=>ta σ H fun vs H1=>∃ j:Int,vs=[.int j]∧-(2 ^ 62)≤j∧j < 2 ^ 62∧R (Vt 0 j.toNat) H1
theorem YZ {a:Expr}{ta:TA}{p pos:Pos}(hg:Gl X "range")(hm:X.mg "range"=none)(ha:PA X [a] ta)(hs:starEach [a] X.env=[(false,eval a X.env)]:=by rfl):PI X tg (.Call (.Name "range" p) [a] [] pos) (ZfK ta):=by
 intro pins s σ H R I h
 refine Call_ (WA I hg hm boot_range (PyProof.Rows.callWith_type1 (Zo (ha pos pins s σ H _ I h) fun us s1 ⟨vs,H1,I1,r1,q1⟩=>?_) hs rfl))
 obtain ⟨j,e,q1,q2,q⟩:=q1
 subst e
 cases r1 with
 | cons r rr =>
   cases rr
   obtain ⟨t,rfl⟩:=r
   exact call_range_1 (Zck I1 (by omega) (by omega) q1 q2 (by simpa using q))
def tFor (wi:TI)(g:TG)(tb:TS):TS:=fun D σ H=>wi σ H fun J H1=>∃ W:Nat→Nat→St→Hp→Prop,(∃ m,W 0 m σ H1)∧∀ i m σ H,W i m σ H →
 (J.stop i H∧D.nx σ H)∨(J.go i H∧∃ N:St→Hp→Prop,(∀ σ' H',N σ' H'→∃ m',m' < m∧W (i+1) m' σ' H')∧∀ x H',J.yld i H x H'→g x σ H' fun σ2 H2=>tb { D with nx:=N,ct:=N,bk:=D.nx } σ2 H2)
def WE (fp:List Addr)(h:Heap):List (Addr×Obj):=fp.filterMap fun b=>(h.get? b).map fun o=>(b,o)
theorem YK {fp:List Addr}{h:Heap}{b:Addr}{o:Obj}(hb:b∈fp)(e:h.get? b=some o):(b,o)∈WE fp h:=List.mem_filterMap.mpr ⟨b,hb,by rw [e];rfl⟩
theorem ZbJ {fp:List Addr}{h:Heap}{p:Addr×Obj}(hp:p∈WE fp h):p.1∈fp∧h.get? p.1=some p.2:=by
 obtain ⟨b,hb,e⟩:=List.mem_filterMap.mp hp
 cases q:h.get? b with
 | none=>rw [q] at e;cases e
 | some o =>
   rw [q] at e
   have e':(b,o)=p:=Option.some.inj e
   subst e'
   exact ⟨hb,q⟩
theorem Inv.pinned {pins:List (Addr×Obj)}{σ:St}{H:Hp}{s:Shared}{fp:List Addr}(I:Inv X pins σ H s)(hf:∀ b∈fp,YT X pins H b)(ho:∀ b∈fp,∃ o,s.heap.get? b=some o∧∀ v,o.data≠.cell v):Inv X (pins++WE fp s.heap) σ H s :=
 I.pins_of fun p hp=>(List.mem_append.mp hp).elim (fun z=>I.pin p (List.mem_append_right _ z)) fun z=>by
   obtain ⟨hb,e⟩:=ZbJ z
   obtain ⟨f0,f1,f2,_⟩:=hf p.1 hb
   obtain ⟨o,e',d⟩:=ho p.1 hb
   rw [e] at e';cases e'
   exact ⟨e,f0,f1,f2,d⟩
theorem Inv.unpinned {pins pl:List (Addr×Obj)}{σ:St}{H:Hp}{s:Shared}(I:Inv X (pins++pl) σ H s):Inv X pins σ H s:=I.pins_of fun p hp=>I.pin p (List.mem_append_right _ (List.mem_append_left _ hp))
theorem UN {iter:Expr}{body:List Stmt}{wi:TI}{g:TG}{tb:TS}{pos:Pos}(hp:PassesOwn (model X.prog X.w) X.A X.env X.xe)(hc:X.calm=true)(hi:PI X tg iter wi)(hg:PG X tg g)(hb:PSs X body tb)
   (hs:∀ x,foldedSetIterable iter X.env x=pure x:=by intro _;rfl):PS X (.For tg iter body [] pos) (tFor wi g tb):=by
 intro pins s σ H D I h
 refine wpAny_For (Zo (hi pins s σ H _ I h) fun v s1 h1=>Zo h1 fun itv s2 h2=>?_) hs
 obtain ⟨it,fp,tn,J,H2,e,I2,T,st2,f2,W,⟨m0,w0⟩,turn⟩:=h2
 subst e
 have stat:∀ {H':Hp},(∀ b∈fp,H' b=none)→∀ b∈fp,YT X pins H' b:=fun hn b hb=>⟨hn b hb,(f2 b hb).2⟩
 refine codeAny_forLoop_any (fun n s'=>∃ i σ' H',Inv X pins σ' H' s'∧tn i s'.heap∧(∀ b∈fp,H' b=none)∧W i n σ' H') ?_ m0 ⟨0,σ,H2,I2,st2,fun b hb=>(f2 b hb).1,w0⟩
 rintro n s3 ⟨i,σ3,H3,I3,st3,fr3,w3⟩
 rcases turn i n σ3 H3 w3 with ⟨stop,qn⟩ | ⟨go,N,hN,step⟩
 · refine wpAny_passesOwn hp (Zo (T.done X rfl rfl rfl hc i pins s3 σ3 H3 X.xe I3 (stat fr3) st3 stop) fun r s4 ⟨hr,I4⟩=>?_)
   subst hr
   exact wpAny_execs_nil ⟨σ3,H3,I4,qn⟩
 · refine wpAny_passesOwn hp (Zo (T.item X rfl rfl rfl hc i pins s3 σ3 H3 X.xe I3 (stat fr3) st3 go) fun r s4 ⟨u,hr,h4⟩=>?_)
   subst hr
   refine wpAny_passesOwn hp (Zo h4 fun _ s5 ⟨x,H5,I5,r5,y5,st5,fr5⟩=>?_)
   have I5':=I5.pinned (stat fr5) (T.obj _ _ st5)
   refine wpAny_passesOwn hp (Zo (hg _ s5 σ3 H5 x u _ I5' r5 (step x H5 y5)) fun _ s6 ⟨σ6,H6,I6,q6⟩=>?_)
   refine wpAny_passesOwn hp (Zo (hb _ s6 σ6 H6 _ I6 q6) fun f s7 q7=>?_)
   have again:∀ {σ7:St} {H7:Hp},Inv X (pins++WE fp s5.heap) σ7 H7 s7→N σ7 H7→∃ m,m < n∧∃ i σ' H',Inv X pins σ' H' s7∧tn i s7.heap∧(∀ b∈fp,H' b=none)∧W i m σ' H':=fun {σ7 H7} I7 n7=>by
     obtain ⟨m',hm,w7⟩:=hN σ7 H7 n7
     refine ⟨m',hm,i+1,σ7,H7,I7.unpinned,T.keep _ _ _ st5 fun b hb o e=>(I7.pin (b,o) (List.mem_append_right _ (List.mem_append_right _ (YK hb e)))).1,fun b hb=>?_,w7⟩
     obtain ⟨o,e,d⟩:=T.obj _ _ st5 b hb
     exact (I7.pin (b,o) (List.mem_append_right _ (List.mem_append_right _ (YK hb e)))).2.1
   cases f with
   | next=>obtain ⟨σ7,H7,I7,n7⟩:=q7;exact again I7 n7
   | cont=>obtain ⟨σ7,H7,I7,n7⟩:=q7;exact again I7 n7
   | brk=>obtain ⟨σ7,H7,I7,q7⟩:=q7;exact ⟨σ7,H7,I7.unpinned,q7⟩
   | ret v=>obtain ⟨x7,σ7,H7,I7,r7,q7⟩:=q7;exact ⟨x7,σ7,H7,I7.unpinned,r7,q7⟩
end
theorem XI {lo:Int}{n:Nat}{g:TG}{tb:TS}{D:WQ}{σ:St}{H:Hp}(Pv:Nat→St→Hp→Prop)(h0:Pv 0 σ H)
   (hs:∀ i σ H,i < n→Pv i σ H→g (.int (lo+i)) σ H fun σ2 H2=>tb { D with nx:=Pv (i+1),ct:=Pv (i+1),bk:=D.nx } σ2 H2) (hd:∀ σ H,Pv n σ H→D.nx σ H) :
   ∃ W:Nat→Nat→St→Hp→Prop,(∃ m,W 0 m σ H)∧∀ i m σ H,W i m σ H →
     ((Vt lo n).stop i H∧D.nx σ H)∨((Vt lo n).go i H∧∃ N:St→Hp→Prop,(∀ σ' H',N σ' H'→∃ m',m' < m∧W (i+1) m' σ' H')∧∀ x H',(Vt lo n).yld i H x H'→g x σ H' fun σ2 H2=>tb { D with nx:=N,ct:=N,bk:=D.nx } σ2 H2):=by
 refine ⟨fun i m σ H=>m=n - i∧i≤n∧Pv i σ H,⟨n,by simp,Nat.zero_le _,h0⟩,?_⟩
 rintro i m σ H ⟨rfl,hi,p⟩
 by_cases hlt:i < n
 · refine .inr ⟨hlt,Pv (i+1),fun σ' H' p'=>⟨n - (i+1),by omega,rfl,hlt,p'⟩,fun x H' y=>?_⟩
   obtain ⟨e,y⟩:=y
   subst e y
   exact hs i σ _ hlt p
 · have e:i=n:=by omega
   subst e
   exact .inl ⟨Nat.le_refl _,hd σ H p⟩
end L2
namespace L2
open PySem PySem.Spec PyProof.Rows
abbrev R2:=V→V→Hp→VK→Prop
def ZX (X:Cx)(f:Value→Value→Sem Value)(r:R2):Prop :=
 ∀ (pins:List (Addr×Obj)) (s:Shared) (σ:St) (H:Hp) (x y:V) (v u:Value) (Q:VK),Inv X pins σ H s→RelV x v→RelV y u→r x y H Q →
   wpAny (model X.prog X.w) X.A (f v u) (EP X pins σ Q) X.xe s
def UnR (X:Cx)(f:Value→Sem Value)(r:V→Hp→VK→Prop):Prop :=
 ∀ (pins:List (Addr×Obj)) (s:Shared) (σ:St) (H:Hp) (x:V) (v:Value) (Q:VK),Inv X pins σ H s→RelV x v→r x H Q →
   wpAny (model X.prog X.w) X.A (f v) (EP X pins σ Q) X.xe s
def Yl (X:Cx)(f:Value)(r:List V→Hp→VK→Prop):Prop :=
 ∀ (pins:List (Addr×Obj)) (s:Shared) (σ:St) (H:Hp) (xs:List V) (us:List Value) (Q:VK),Inv X pins σ H s→Vals xs us→r xs H Q →
   wpAny (model X.prog X.w) X.A (call f us) (EP X pins σ Q) X.xe s
def tOp (r:R2)(ta tb:TE):TE:=fun σ H Q=>ta σ H fun x H1=>tb σ H1 fun y H2=>r x y H2 Q
def tUn (r:V→Hp→VK→Prop)(ta:TE):TE:=fun σ H Q=>ta σ H fun x H1=>r x H1 Q
def rI (C:Int→Int→Prop)(g:Int→Int→V):R2:=fun x y H Q=>∃ i j,x=.int i∧y=.int j∧C i j∧Q (g i j) H
def Uq (g:Int→Int→V):R2:=fun x y H Q=>∃ i j,x=.int i∧y=.int j∧Q (g i j) H
def rU (g:Int→V):V→Hp→VK→Prop:=fun x H Q=>∃ i,x=.int i∧Q (g i) H
section
variable {X:Cx}{a b c:Expr}{ta tb tc:TE}{pos:Pos}
theorem ZcB (ha:PE X a ta)(hb:PE X b tb){pins:List (Addr×Obj)}{s:Shared}{σ:St}{H:Hp}{R:V→V→Hp→Prop}(I:Inv X pins σ H s)
   (h:ta σ H fun x H1=>tb σ H1 fun y H2=>R x y H2) {Q:Value→Shared→Prop} {f:Value→Value→Sem Value}
   (hf:∀ v u s2 x y H2,Inv X pins σ H2 s2→RelV x v→RelV y u→R x y H2→wpAny (model X.prog X.w) X.A (f v u) Q X.xe s2) :
   wpAny (model X.prog X.w) X.A (eval a X.env) (fun v s₁=>wpAny (model X.prog X.w) X.A (eval b X.env) (fun u s₂=>wpAny (model X.prog X.w) X.A (f v u) Q X.xe s₂) X.xe s₁) X.xe s:=by
 refine Zo (ha pins s σ H _ I h) fun v s1 ⟨x,H1,I1,r1,q1⟩=>?_
 refine Zo (hb pins s1 σ H1 _ I1 q1) fun u s2 ⟨y,H2,I2,r2,q2⟩=>?_
 exact hf v u s2 x y H2 I2 r1 r2 q2
theorem Zr {op:Operator}{r:R2}(ho:ZX X (binaryOp op) r)(ha:PE X a ta)(hb:PE X b tb):PE X (.BinOp a op b pos) (tOp r ta tb):=by
 intro pins s σ H Q I h
 exact wpAny_BinOp (ZcB ha hb I h fun v u s2 x y H2 I2 rx ry q=>ho pins s2 σ H2 x y v u Q I2 rx ry q)
theorem Zdg {op:UnaryOp}{r:V→Hp→VK→Prop}(ho:UnR X (unaryOp op) r)(ha:PE X a ta):PE X (.UnaryOp op a pos) (tUn r ta):=by
 intro pins s σ H Q I h
 exact UnaryOp_ (Zo (ha pins s σ H _ I h) fun v s1 ⟨x,H1,I1,r1,q1⟩=>ho pins s1 σ H1 x v Q I1 r1 q1)
theorem opI {f:Value→Value→Sem Value}{C:Int→Int→Prop}{g:Int→Int→Int}
   (rule:∀ (i j:Int) (t u:Tok) (s:Shared) (Q:Value→Shared→Prop) (E:Value→Shared→Prop),C i j→Q (.int (g i j) s.toks) { s with toks:=s.toks+1 }→wpAny (model X.prog X.w) X.A (f (.int i t) (.int j u)) Q E s) :
   ZX X f (rI C fun i j=>.int (g i j)):=by
 intro pins s σ H x y v u Q I rx ry h
 obtain ⟨i,j,rfl,rfl,hc,q⟩:=h
 obtain ⟨t,rfl⟩:=rx
 obtain ⟨t',rfl⟩:=ry
 exact rule i j t t' s _ _ hc ⟨.int (g i j),H,I.tok _,⟨_,rfl⟩,q⟩
theorem opI0 {f:Value→Value→Sem Value}{g:Int→Int→Int}
   (rule:∀ (i j:Int) (t u:Tok) (s:Shared) (Q:Value→Shared→Prop) (E:Value→Shared→Prop),Q (.int (g i j) s.toks) { s with toks:=s.toks+1 }→wpAny (model X.prog X.w) X.A (f (.int i t) (.int j u)) Q E s) :
   ZX X f (Uq fun i j=>.int (g i j)):=by
 intro pins s σ H x y v u Q I rx ry h
 obtain ⟨i,j,rfl,rfl,q⟩:=h
 obtain ⟨t,rfl⟩:=rx
 obtain ⟨t',rfl⟩:=ry
 exact rule i j t t' s _ _ ⟨.int (g i j),H,I.tok _,⟨_,rfl⟩,q⟩
theorem Zap {f:Value→Value→Sem Value}{g:Int→Int→Bool}
   (rule:∀ (i j:Int) (t u:Tok) (s:Shared) (Q:Value→Shared→Prop) (E:Value→Shared→Prop),Q (.bool (g i j)) s→wpAny (model X.prog X.w) X.A (f (.int i t) (.int j u)) Q E s) :
   ZX X f (Uq fun i j=>.bl (g i j)):=by
 intro pins s σ H x y v u Q I rx ry h
 obtain ⟨i,j,rfl,rfl,q⟩:=h
 obtain ⟨t,rfl⟩:=rx
 obtain ⟨t',rfl⟩:=ry
 exact rule i j t t' s _ _ ⟨.bl (g i j),H,I,rfl,q⟩
def CDiv (i j:Int):Prop:=0 < j∧j < 1073741824
def CPow (i j:Int):Prop:=0≤j∧j≤1000000∧i.natAbs < 2 ^ 64
def CMul (i j:Int):Prop:=(-(2 ^ 64) < i∧i < 2 ^ 64)∨(-(2 ^ 64) < j∧j < 2 ^ 64)
theorem CMul.ok {i j:Int}(h:CMul i j):IntMulOk i j:=by
 rcases h with ⟨h1,h2⟩ | ⟨h1,h2⟩
 · exact .of_left (intBits_le_64 h1 h2)
 · exact .of_right (intBits_le_64 h1 h2)
theorem ZZ:ZX X (binaryOp .Add) (Uq fun i j=>.int (i+j)):=opI0 fun _ _ _ _ _ _ _ q=>add_int q
theorem Vn:ZX X (binaryOp .Sub) (Uq fun i j=>.int (i - j)):=opI0 fun _ _ _ _ _ _ _ q=>sub_int q
theorem Xr:ZX X (binaryOp .Mult) (rI CMul fun i j=>.int (i * j)):=opI fun _ _ _ _ _ _ _ hc q=>mul_int q hc.ok
theorem Zds:ZX X (binaryOp .FloorDiv) (rI CDiv fun i j=>.int (i / j)):=opI fun i j _ _ _ _ _ hc q=>by
 have h1:(0:Int) < j:=hc.1
 have h2:j < 1073741824:=hc.2
 exact floordiv_int (by omega) (by rw [Int.fdiv_eq_ediv_of_nonneg i (by omega)];exact q) (.inl (PyProof.noPylong_small (by omega)))
theorem YW:ZX X (binaryOp .Mod) (rI (fun _ j=>0 < j) fun i j=>.int (i % j)):=opI fun i j _ _ _ _ _ hc q=>by
 have h1:(0:Int) < j:=hc
 exact mod_int' (by omega) (by rw [Int.fmod_eq_emod_of_nonneg i (by omega)];exact q)
theorem Zex:ZX X (binaryOp .Pow) (rI CPow fun i j=>.int (i ^ j.toNat)):=opI fun _ _ _ _ _ _ _ hc q=>pow_int_small hc.1 hc.2.1 hc.2.2 q
theorem unI {f:Value→Sem Value}{g:Int→Int}
   (rule:∀ (i:Int) (t:Tok) (s:Shared) (Q:Value→Shared→Prop) (E:Value→Shared→Prop),Q (.int (g i) s.toks) { s with toks:=s.toks+1 }→wpAny (model X.prog X.w) X.A (f (.int i t)) Q E s) :
   UnR X f (rU fun i=>.int (g i)):=by
 intro pins s σ H x v Q I rx h
 obtain ⟨i,rfl,q⟩:=h
 obtain ⟨t,rfl⟩:=rx
 exact rule i t s _ _ ⟨.int (g i),H,I.tok _,⟨_,rfl⟩,q⟩
theorem Zbk:UnR X (unaryOp .USub) (rU fun i=>.int (-i)):=unI fun _ _ _ _ _ q=>neg_int q
end
def scal:V→V→Bool
 | .non,.non=>true | .non,.int _=>true | .int _,.non=>true | .non,.bl _=>true | .bl _,.non=>true | .non,.str _=>true | .str _,.non=>true
 | .int _,.int _=>true | .bl _,.bl _=>true | .str _,.str _=>true | .byt _,.byt _=>true
 | .int _,.str _=>true | .str _,.int _=>true | .bl _,.str _=>true | .str _,.bl _=>true
 | _,_=>false
def rEq:R2:=fun x y H Q=>scal x y=true∧Q (.bl (decide (x=y))) H
def rNe:R2:=fun x y H Q=>scal x y=true∧Q (.bl (!decide (x=y))) H
theorem Zac {i j:Int}:decide (V.int i=V.int j)=(i == j):=by
 rw [Bool.eq_iff_iff]
 simp
theorem Zbd {i j:Bool}:decide (V.bl i=V.bl j)=(i == j):=by
 rw [Bool.eq_iff_iff]
 simp
theorem Zah {i j:Str}:decide (V.str i=V.str j)=(i == j):=by
 rw [Bool.eq_iff_iff]
 simp
theorem VX {i j:Array UInt8}:decide (V.byt i=V.byt j)=(i.toList == j.toList):=by
 rw [Bool.eq_iff_iff]
 cases i
 cases j
 simp
section
variable {X:Cx}{a b c:Expr}{ta tb tc:TE}{pos:Pos}
theorem Zt {pins:List (Addr×Obj)}{σ:St}{H:Hp}{s:Shared}{Q:VK}{k k':Bool}(I:Inv X pins σ H s)(q:Q (.bl k) H)(e:k=k'):EP X pins σ Q (.bool k') s:=by
 subst e
 exact ⟨.bl k,H,I,rfl,q⟩
theorem UJ:ZX X (compareOp .Eq) rEq:=by
 intro pins s σ H x y v u Q I rx ry h
 obtain ⟨hs,q⟩:=h
 cases x with
 | non =>
   cases rx
   cases y with
   | non=>cases ry;exact PySem.EqNone.eq_none_none (Zt I q (by simp))
   | bl j=>cases ry;exact PySem.EqNone.eq_none_bool (Zt I q (by simp))
   | int j=>obtain ⟨t',rfl⟩:=ry;exact PySem.EqNone.eq_none_int (Zt I q (by simp))
   | str j=>obtain ⟨t',rfl⟩:=ry;exact PySem.EqNone.eq_none_str (Zt I q (by simp))
   | _=>exact absurd (show false=true from hs) Bool.false_ne_true
 | bl i =>
   cases rx
   cases y with
   | non=>cases ry;exact PySem.EqNone.eq_bool_none (Zt I q (by simp))
   | bl j=>cases ry;exact eq_bool (Zt I q Zbd)
   | str j=>obtain ⟨t',rfl⟩:=ry;exact PySem.EqMixed.eq_bool_str (Zt I q (by simp))
   | _=>exact absurd (show false=true from hs) Bool.false_ne_true
 | int i =>
   obtain ⟨t,rfl⟩:=rx
   cases y with
   | non=>cases ry;exact PySem.EqNone.eq_int_none (Zt I q (by simp))
   | int j=>obtain ⟨t',rfl⟩:=ry;exact eq_int (Zt I q Zac)
   | str j=>obtain ⟨t',rfl⟩:=ry;exact PySem.EqMixed.eq_int_str (Zt I q (by simp))
   | _=>exact absurd (show false=true from hs) Bool.false_ne_true
 | str i =>
   obtain ⟨t,rfl⟩:=rx
   cases y with
   | non=>cases ry;exact PySem.EqNone.eq_str_none (Zt I q (by simp))
   | bl j=>cases ry;exact PySem.EqMixed.eq_str_bool (Zt I q (by simp))
   | int j=>obtain ⟨t',rfl⟩:=ry;exact PySem.EqMixed.eq_str_int (Zt I q (by simp))
   | str j=>obtain ⟨t',rfl⟩:=ry;exact eq_str (Zt I q Zah)
   | _=>exact absurd (show false=true from hs) Bool.false_ne_true
 | byt i =>
   obtain ⟨t,rfl⟩:=rx
   cases y with
   | byt j=>obtain ⟨t',rfl⟩:=ry;exact PySem.W.eq_bytes (Zt I q VX)
   | _=>exact absurd (show false=true from hs) Bool.false_ne_true
 | _=>cases y<;>exact absurd (show false=true from hs) Bool.false_ne_true
theorem Wa:ZX X (compareOp .NotEq) rNe:=by
 intro pins s σ H x y v u Q I rx ry h
 obtain ⟨hs,q⟩:=h
 cases x with
 | non =>
   cases rx
   cases y with
   | non=>cases ry;exact PySem.EqNone.ne_none_none (Zt I q (by simp))
   | bl j=>cases ry;exact PySem.EqNone.ne_none_bool (Zt I q (by simp))
   | int j=>obtain ⟨t',rfl⟩:=ry;exact PySem.EqNone.ne_none_int (Zt I q (by simp))
   | str j=>obtain ⟨t',rfl⟩:=ry;exact PySem.EqNone.ne_none_str (Zt I q (by simp))
   | _=>exact absurd (show false=true from hs) Bool.false_ne_true
 | bl i =>
   cases rx
   cases y with
   | non=>cases ry;exact PySem.EqNone.ne_bool_none (Zt I q (by simp))
   | bl j=>cases ry;exact ne_bool (Zt I q (congrArg not Zbd))
   | str j=>obtain ⟨t',rfl⟩:=ry;exact PySem.EqMixed.ne_bool_str (Zt I q (by simp))
   | _=>exact absurd (show false=true from hs) Bool.false_ne_true
 | int i =>
   obtain ⟨t,rfl⟩:=rx
   cases y with
   | non=>cases ry;exact PySem.EqNone.ne_int_none (Zt I q (by simp))
   | int j=>obtain ⟨t',rfl⟩:=ry;exact ne_int (Zt I q (congrArg not Zac))
   | str j=>obtain ⟨t',rfl⟩:=ry;exact PySem.EqMixed.ne_int_str (Zt I q (by simp))
   | _=>exact absurd (show false=true from hs) Bool.false_ne_true
 | str i =>
   obtain ⟨t,rfl⟩:=rx
   cases y with
   | non=>cases ry;exact PySem.EqNone.ne_str_none (Zt I q (by simp))
   | bl j=>cases ry;exact PySem.EqMixed.ne_str_bool (Zt I q (by simp))
   | int j=>obtain ⟨t',rfl⟩:=ry;exact PySem.EqMixed.ne_str_int (Zt I q (by simp))
   | str j=>obtain ⟨t',rfl⟩:=ry;exact ne_str (Zt I q (congrArg not Zah))
   | _=>exact absurd (show false=true from hs) Bool.false_ne_true
 | byt i =>
   obtain ⟨t,rfl⟩:=rx
   cases y with
   | byt j=>obtain ⟨t',rfl⟩:=ry;exact PySem.W.ne_bytes (Zt I q (congrArg not VX))
   | _=>exact absurd (show false=true from hs) Bool.false_ne_true
 | _=>cases y<;>exact absurd (show false=true from hs) Bool.false_ne_true
theorem ZcV:ZX X (compareOp .Lt) (Uq fun i j=>.bl (decide (i < j))):=Zap fun _ _ _ _ _ _ _ q=>lt_int q
theorem Zft:ZX X (compareOp .LtE) (Uq fun i j=>.bl (decide (i≤j))):=Zap fun _ _ _ _ _ _ _ q=>le_int q
theorem ZfX:ZX X (compareOp .Gt) (Uq fun i j=>.bl (decide (j < i))):=Zap fun _ _ _ _ _ _ _ q=>gt_int q
theorem Zga:ZX X (compareOp .GtE) (Uq fun i j=>.bl (decide (j≤i))):=Zap fun _ _ _ _ _ _ _ q=>ge_int q
theorem ZR (b:Expr){op:CmpOp}(h:op≠.In:=by decide)(h2:op≠.NotIn:=by decide):behindInMarks op b=false:=by
 have e1:(op == CmpOp.In)=false:=by cases op<;>first | rfl | exact absurd rfl h
 have e2:(op == CmpOp.NotIn)=false:=by cases op<;>first | rfl | exact absurd rfl h2
 cases b<;>simp [behindInMarks,e1,e2]
theorem Wf {op:CmpOp}{r:R2}(ho:ZX X (compareOp op) r)(ha:PE X a ta)(hb:PE X b tb)(hm:behindInMarks op b=false):PE X (.Compare a [op] [b] pos) (tOp r ta tb):=by
 intro pins s σ H Q I h
 exact wpAny_Compare1 (ZcB ha hb I h fun v u s2 x y H2 I2 rx ry q=>ho pins s2 σ H2 x y v u Q I2 rx ry q) hm
def Zdf (t:TE):TT:=fun σ H Q=>t σ H fun x H'=>∃ k,x=.bl k∧Q k H'
theorem ZM {op:CmpOp}{r:R2}(ho:ZX X (compareOp op) r)(ha:PE X a ta)(hb:PE X b tb)(hm:behindInMarks op b=false):PT X (.Compare a [op] [b] pos) (Zdf (tOp r ta tb)):=by
 intro pins s σ H Q I h
 refine wpAny_isTrue_Compare1 (Zo (ha pins s σ H _ I h) fun v s1 ⟨x,H1,I1,r1,q1⟩=>Zo (hb pins s1 σ H1 _ I1 q1) fun u s2 ⟨y,H2,I2,r2,q2⟩ =>
   Zo (ho pins s2 σ H2 x y v u _ I2 r1 r2 q2) fun c s3 ⟨z,H3,I3,r3,k,e,q3⟩=>?_) hm
 subst e
 cases r3
 exact wpAny_truthy_bool ⟨H3,I3,q3⟩
def ZeM (r r':R2)(ta tb tc:TE):TE:=fun σ H Q=>ta σ H fun x H1=>tb σ H1 fun y H2=>r x y H2 fun z H3=>∃ k,z=.bl k ∧
 (if k=true then tc σ H3 fun w' H4=>r' y w' H4 Q else Q (.bl false) H3)
theorem Zcr {op op':CmpOp}{r r':R2}(ho:ZX X (compareOp op) r)(ho':ZX X (compareOp op') r')(ha:PE X a ta)(hb:PE X b tb)(hc:PE X c tc)
   (hm:lastMarks [op,op'] [b,c]=false:=by with_unfolding_all rfl):PT X (.Compare a [op,op'] [b,c] pos) (Zdf (ZeM r r' ta tb tc)):=by
 intro pins s σ H Q I h
 refine isTrue_chain (Zo (ha pins s σ H _ I h) fun v s1 ⟨x,H1,I1,r1,q1⟩=>test_link (Zo (hb pins s1 σ H1 _ I1 q1) fun u s2 ⟨y,H2,I2,r2,q2⟩ =>
   Zo (ho pins s2 σ H2 x y v u _ I2 r1 r2 q2) fun d s3 ⟨z,H3,I3,r3,k,e,q3⟩=>?_)) hm
 subst e
 cases r3
 refine wpAny_truthy_bool ?_
 cases k with
 | false =>
   obtain ⟨k',e',q'⟩:=q3
   cases e'
   exact ite_ff ⟨H3,I3,q'⟩
 | true =>
   refine ite_tt (test_last (Zo (hc pins s3 σ H3 _ I3 q3) fun w' s4 ⟨z',H4,I4,r4,q4⟩=>Zo (ho' pins s4 σ H4 y z' u w' _ I4 r2 r4 q4) fun d' s5 ⟨z2,H5,I5,r5,k2,e2,q5⟩=>?_))
   subst e2
   cases r5
   exact wpAny_truthy_bool ⟨H5,I5,q5⟩
theorem Ve:(sizeLine:Nat) < 2 ^ 63:=by rw [sizeLine_eq];decide
theorem Yt {x:V}{us:List Value}(r:Vals [x] us):∃ u,us=[u]∧RelV x u:=by
 cases r with
 | cons r1 r2=>cases r2;exact ⟨_,rfl,r1⟩
theorem UB {x y:V}{us:List Value}(r:Vals [x,y] us):∃ u w',us=[u,w']∧RelV x u∧RelV y w':=by
 cases r with
 | cons r1 r2 =>
   cases r2 with
   | cons r3 r4=>cases r4;exact ⟨_,_,rfl,r1,r3⟩
theorem VE:Yl X (.builtin "abs") (fun xs H Q=>∃ i,xs=[.int i]∧Q (.int (if i < 0 then -i else i)) H):=by
 intro pins s σ H xs us Q I r h
 obtain ⟨i,rfl,q⟩:=h
 obtain ⟨u,rfl,t,rfl⟩:=Yt r
 exact call_abs_int fun u tk=>⟨.int (if i < 0 then -i else i),H,I.tok _,⟨_,rfl⟩,q⟩
theorem Zbo (hc:X.calm=true):Yl X (.builtin "max") (fun xs H Q=>∃ i j,xs=[.int i,.int j]∧Q (.int (if j > i then j else i)) H):=by
 intro pins s σ H xs us Q I r h
 obtain ⟨i,j,rfl,q⟩:=h
 obtain ⟨u,w',rfl,⟨t,rfl⟩,⟨t',rfl⟩⟩:=UB r
 refine max_two_ints (I.ok.hd hc) fun h' tk k=>⟨_,H,I.kept k,?_,q⟩
 by_cases hj:j > i
 · rw [if_pos hj,if_pos hj];exact ⟨_,rfl⟩
 · rw [if_neg hj,if_neg hj];exact ⟨_,rfl⟩
theorem ZbA (hc:X.calm=true):Yl X (.builtin "min") (fun xs H Q=>∃ i j,xs=[.int i,.int j]∧Q (.int (if j < i then j else i)) H):=by
 intro pins s σ H xs us Q I r h
 obtain ⟨i,j,rfl,q⟩:=h
 obtain ⟨u,w',rfl,⟨t,rfl⟩,⟨t',rfl⟩⟩:=UB r
 refine min_two_ints (I.ok.hd hc) fun h' tk k=>⟨_,H,I.kept k,?_,q⟩
 by_cases hj:j < i
 · rw [if_pos hj,if_pos hj];exact ⟨_,rfl⟩
 · rw [if_neg hj,if_neg hj];exact ⟨_,rfl⟩
theorem Uw:Yl X (.type "int") (fun xs H Q=>(∃ i,xs=[.int i]∧Q (.int i) H)∨∃ k,xs=[.bl k]∧Q (.int (if k then 1 else 0)) H):=by
 intro pins s σ H xs us Q I r h
 rcases h with ⟨i,rfl,q⟩ | ⟨k,rfl,q⟩
 · obtain ⟨u,rfl,t,rfl⟩:=Yt r
   exact call_int_int ⟨.int i,H,I,⟨_,rfl⟩,q⟩
 · obtain ⟨u,rfl,r1⟩:=Yt r
   cases r1
   exact call_int_bool ⟨.int (if k then 1 else 0),H,I.tok _,⟨_,rfl⟩,q⟩
theorem Vg:Yl X (.type "str") (fun xs H Q=>∃ i,xs=[.int i]∧i.natAbs.log2 < 1920∧Q (.str (toString i)) H):=by
 intro pins s σ H xs us Q I r h
 obtain ⟨i,rfl,hz,q⟩:=h
 obtain ⟨u,rfl,t,rfl⟩:=Yt r
 exact PySem.P.str_of_int hz ⟨.str _,H,I.tok _,⟨_,rfl⟩,q⟩
end
end L2
namespace L2
open PySem PySem.Spec PyProof.Rows
structure ObjM (h:Heap)(x dx C:Addr)(mA:Str→Option Value):Prop where
 obj:h.get? x=some (PySem.W.instObj C dx)
 ns:h.Ns1 dx mA
 ne:dx≠x
theorem ZbE {h:Heap}{dx:Addr}{mA:Str→Option Value}(n:h.Ns1 dx mA):∃ od,h.get? dx=some od∧∀ name,PySem.W.lookIn name od=some (mA name):=by
 obtain ⟨o,es,ep,ho,hd,hk,_,hm⟩:=n
 refine ⟨o,ho,fun name=>?_⟩
 have e:=hm name
 unfold nsFind findBy at e
 rw [← Array.find?_toList] at e
 unfold PySem.W.lookIn
 rw [hd]
 dsimp only
 split
 · rename_i y q
   rw [q] at e
   exact congrArg some e
 · rename_i q
   rw [q] at e
   have a:es.toList.any (·.refKey)=false:=by
     rw [List.any_eq_false]
     intro y hy
     obtain ⟨z,t,hkey⟩:=hk y (Array.mem_toList_iff.mp hy)
     simp [DictEntry.refKey,hkey]
   have a':¬ es.toList.any (·.refKey)=true:=by rw [a];exact Bool.false_ne_true
   rw [if_neg a']
   exact congrArg some e
theorem ObjM.look {h:Heap}{x dx C:Addr}{mA:Str→Option Value}(I:ObjM h x dx C mA):∃ od,PySem.W.InstAt h x (PySem.W.instObj C dx) C (some od)∧∀ name,PySem.W.lookIn name od=some (mA name) :=
 let ⟨od,ho,hl⟩:=ZbE I.ns
 ⟨od,⟨I.obj,rfl,rfl,ho⟩,hl⟩
section
variable {prog:Program}{w:World}{A:Around}{E:Value→Shared→Prop}{s:Shared}{K:PySem.W.Frag}{x dx C f:Addr}{mA:Str→Option Value}{name:Str}{v:Value}
theorem ZdZ {expr:Bool}{Q:Value→Shared→Prop}(X:K.In s.heap)(I:ObjM s.heap x dx C mA)(hg:PySem.W.plainGet K C name=true)(hh:PySem.W.hasDictIn K C=true)
   (ha:PySem.W.findIn K (.ref C) name=some none) (hv:mA name=some v) (hv':PySem.W.handedIn v=true) (h:Q v { s with toks:=s.toks+1 }) :
   wpAny (model prog w) A (getAttr (.ref x) name expr) Q E s:=by
 obtain ⟨od,J,hl⟩:=I.look
 exact PySem.W.get_value X J (PySem.W.plainGet_of hg).1 (PySem.W.findObj_own hh ha rfl (by rw [hl,hv])) hv' h
theorem Zci {pl:Sem Bool}{Q:Value×List Value→Shared→Prop}(X:K.In s.heap)(I:ObjM s.heap x dx C mA)(hg:PySem.W.plainGet K C name=true)
   (hf:PySem.W.findIn K (.ref C) name=some (some (.ref f))) (ht:PySem.W.isFn K (.ref f)=true) (hv:mA name=none) (h:Q (.ref f,[.ref x]) s) :
   wpAny (model prog w) A (getMethod (.ref x) name pl) Q E s:=by
 obtain ⟨od,J,hl⟩:=I.look
 exact PySem.W.method_fn X J (PySem.W.plainGet_of hg).1 (PySem.W.plainGet_of hg).2 hf (beq_iff_eq.mp ht) (by show (PySem.W.lookIn name od).map (·.isSome)=some false;rw [hl,hv];rfl) h
theorem Zec {ns:List Str}{Q:Unit→Shared→Prop}(X:K.In s.heap)(I:ObjM s.heap x dx C mA)
   (hs:PySem.W.findIn K (.ref C) "__setattr__"=some (some (.builtin "object.__setattr__"))) (hp:PySem.W.plainOver K C=true) (ht:PySem.W.takerIn K C name=some none) (hh:PySem.W.hasDictIn K C=true)
   (hw:PySem.Within mA ns) (hsz:ns.length≤sizeLine)
   (h:∀ h',ObjM h' x dx C (fun y=>if y=name then some v else mA y)→Heap.SameBut dx s.heap h'→Q () { s with heap:=h',toks:=s.toks+2 }) :
   wpAny (model prog w) A (setAttr (.ref x) name v) Q E s:=by
 obtain ⟨od,J,hl⟩:=I.look
 refine PySem.W.set_plain X J hs (PySem.W.osa_open (s:={ s with toks:=s.toks+1 }) (r:=none) X J hp ht fun b=>?_)
 obtain ⟨cd,hc,hd'⟩:=PySem.W.any_some hh
 have hx:s.heap.get? x=some ⟨.ref C,some dx,.plain,#[]⟩:=I.obj
 refine wpAny_bind (wpAny_pure (wpAny_bind (wpAny_bind (wpAny_loadPart hx (wpAny_bind (PySem.W.Looks.here (s:={ s with toks:=s.toks+1 }) (PySem.W.looks_clsIn X hc) ?_))))))
 rw [hd']
 refine wpAny_pure (a:=some dx) (wpAny_bind (wpAny_pure (wpAny_bind ?_)))
 refine wpAny_nsSet1 (s:={ s with toks:=s.toks+1 }) I.ns fun h' hn2 hs2=>?_
 obtain ⟨oD,esD,epD,hoD,hdD,hcD⟩:=hn2.count (PySem.Within.cons name v hw)
 refine wpAny_bind (wpAny_lookBehind hoD (by rw [hdD];exact pastItsLine_dict (Nat.le_trans hcD (by rw [List.length_cons];omega))) ?_)
 exact wpAny_pure (h _ ⟨(hs2.2 _ (Ne.symm I.ne)).trans I.obj,hn2,I.ne⟩ hs2)
theorem Zcu {R:Result→Shared→Prop}{vs:List Value}{kw:List (Str×Value)}(X:K.In s.heap)(hm:PySem.W.makesIn K C=true)
   (hi:PySem.W.findIn K (.ref C) "__init__"=some (some (.ref f))) (hf:PySem.W.typeIn K (.ref f)=some (.type "function"))
   (h:codeAny (model prog w) (A.under (.builtin "type.__call__" ⟨.ref C::vs,kw⟩)) (.call (.ref f) ⟨.ref (s.heap.objs.size+1)::vs,kw⟩) (PySem.W.InitBack (s.heap.objs.size+1) R)
     { s with heap:=(s.heap.push PySem.W.emptyDict).push (PySem.W.instObj C s.heap.objs.size) }) :
   codeAny (model prog w) A (.call (.ref C) ⟨vs,kw⟩) R s:=by
 obtain ⟨hh,g,d,t,os⟩:=s
 exact PySem.W.make_core (PySem.W.makes_of X hm) (PySem.W.looks_findIn X hi) (fun self=>PySem.W.bind_fn X self hf) (.inl rfl) h
end
def Yc (f:Str)(v:V):List (Str×V)→List (Str×V)
 | []=>[(f,v)]
 | (g,x)::r=>if g=f then (g,v)::r else (g,x)::Yc f v r
theorem YB (f g:Str)(v:V):∀ fs:List (Str×V),(Yc f v fs).lookup g=if g=f then some v else fs.lookup g
 | []=>by
   show List.lookup g [(f,v)]=_
   by_cases h:g=f
   · have hb:(g == f)=true:=beq_iff_eq.mpr h
     simp only [List.lookup,hb,if_pos h]
   · have hb:(g == f)=false:=beq_eq_false_iff_ne.mpr h
     simp only [List.lookup,hb,if_neg h]
 | (k, x)::r=>by
   have ih:=YB f g v r
   rw [show Yc f v ((k,x)::r)=(if k=f then (k,v)::r else (k,x)::Yc f v r) from rfl]
   by_cases hk:k=f
   · rw [if_pos hk]
     by_cases h:g=k
     · have hb:(g == k)=true:=beq_iff_eq.mpr h
       simp only [List.lookup,hb,if_pos (h.trans hk)]
     · have hb:(g == k)=false:=beq_eq_false_iff_ne.mpr h
       simp only [List.lookup,hb,if_neg (fun e:g=f=>h (e.trans hk.symm))]
   · rw [if_neg hk]
     by_cases h:g=k
     · have hb:(g == k)=true:=beq_iff_eq.mpr h
       simp only [List.lookup,hb,if_neg (fun e:g=f=>hk (h.symm.trans e))]
     · have hb:(g == k)=false:=beq_eq_false_iff_ne.mpr h
       simp only [List.lookup,hb]
       exact ih
theorem XC (f:Str)(v:V):∀ fs:List (Str×V),f∈(Yc f v fs).map (·.1)∧∀ g,g∈fs.map (·.1)→g∈(Yc f v fs).map (·.1)
 | []=>⟨by simp [Yc],fun g h=>by simp at h⟩
 | (k, x)::r=>by
   obtain ⟨i1,i2⟩:=XC f v r
   rw [show Yc f v ((k,x)::r)=(if k=f then (k,v)::r else (k,x)::Yc f v r) from rfl]
   by_cases hk:k=f
   · rw [if_pos hk]
     subst hk
     exact ⟨by simp,fun g h=>by simpa using h⟩
   · rw [if_neg hk]
     refine ⟨?_,fun g h=>?_⟩
     · rw [List.map_cons]
       exact List.mem_cons_of_mem _ i1
     · rw [List.map_cons] at h ⊢
       rcases List.mem_cons.mp h with e | e
       · exact List.mem_cons.mpr (.inl e)
       · exact List.mem_cons_of_mem _ (i2 g e)
theorem Wj (f:Str)(v:V):∀ fs:List (Str×V),(Yc f v fs).length≤fs.length+1
 | []=>by simp [Yc]
 | (k,x)::r=>by
   have ih:=Wj f v r
   rw [show Yc f v ((k,x)::r)=(if k=f then (k,v)::r else (k,x)::Yc f v r) from rfl]
   by_cases hk:k=f
   · rw [if_pos hk,List.length_cons,List.length_cons];omega
   · rw [if_neg hk,List.length_cons,List.length_cons];omega
theorem RelO.some_of {v:V}{o:Option Value}(r:RelO (some v) o):∃ u,o=some u∧RelV v u:=by
 cases o with
 | none=>exact (show False from r).elim
 | some u=>exact ⟨u,rfl,r⟩
theorem RelO.none_of {o:Option Value}(r:RelO none o):o=none:=by
 cases o with
 | none=>rfl
 | some u=>exact (show False from r).elim
theorem Uh {v:V}{u:Value}(r:RelV v u):PySem.W.handedIn u=true:=by
 cases v with
 | non=>cases (show u=Value.none from r);rfl
 | bl b=>cases (show u=Value.bool b from r);rfl
 | int i=>obtain ⟨t,e⟩:=(show ∃ t,u=Value.int i t from r);cases e;rfl
 | str x=>obtain ⟨t,e⟩:=(show ∃ t,u=Value.str x t from r);cases e;rfl
 | byt b=>obtain ⟨t,e⟩:=(show ∃ t,u=Value.bytes b t from r);cases e;rfl
 | flt b=>obtain ⟨t,e⟩:=(show ∃ t,u=Value.float b t from r);cases e;rfl
 | ref a=>cases (show u=Value.ref a from r);rfl
 | ty n=>cases (show u=Value.type n from r);rfl
section
variable {P:Program}{w:World}{H H':Hp}{h h':Heap}{a C dx:Addr}{fs fs':List (Str×V)}
theorem Wb (hok:HOk P w H h)(e:H a=some (.ins C dx fs)):∃ mA,ObjM h a dx C mA∧(∀ f,RelO (fs.lookup f) (mA f))∧PySem.Within mA (fs.map (·.1))∧fs.length≤1000∧H dx=some (.own a):=by
 obtain ⟨d,z,ne,ob,mA,n,r,q⟩:=(show ObjOk P w H h a (.ins C dx fs) from hok a _ e)
 exact ⟨mA,⟨ob,n,ne⟩,r,q,z,d⟩
end
structure Cls (K:PySem.W.Frag)(C:Addr):Prop where
 pg:PySem.W.plainGet K C Str.empty=true
 hd:PySem.W.hasDictIn K C=true
 po:PySem.W.plainOver K C=true
 sa:PySem.W.findIn K (.ref C) "__setattr__"=some (some (.builtin "object.__setattr__"))
theorem Cls.get {K:PySem.W.Frag}{C:Addr}(c:Cls K C)(f:Str):PySem.W.plainGet K C f=true:=c.pg
def NoAttr (K:PySem.W.Frag)(C:Addr)(f:Str):Prop:=PySem.W.findIn K (.ref C) f=some none
theorem NoAttr.taker {K:PySem.W.Frag}{C:Addr}{f:Str}(n:NoAttr K C f):PySem.W.takerIn K C f=some none:=by
 unfold PySem.W.takerIn
 rw [show PySem.W.findIn K (.ref C) f=some none from n]
 rfl
structure WS (K:PySem.W.Frag)(C:Addr)(m:Str)(f:Addr):Prop where
 at_:PySem.W.findIn K (.ref C) m=some (some (.ref f))
 fn:PySem.W.isFn K (.ref f)=true
 kp:PySem.W.keepIn K (.ref f)=true
section
variable {X:Cx}{pins:List (Addr×Obj)}{σ:St}{H:Hp}{s:Shared}{a C dx:Addr}{fs:List (Str×V)}{f:Str}{v:V}{A:Around}{E:Value→Shared→Prop}
theorem ZaL {b:Bool}{Q:Value→Shared→Prop}(I:Inv X pins σ H s)(e:H a=some (.ins C dx fs))(c:Cls X.K C)(n:NoAttr X.K C f)(l:fs.lookup f=some v)
   (h:∀ u s',Inv X pins σ H s'→RelV v u→Q u s'):wpAny (model X.prog X.w) A (getAttr (.ref a) f b) Q E s:=by
 obtain ⟨mA,O,r,_,_,_⟩:=Wb I.hok e
 obtain ⟨u,hu,ru⟩:=RelO.some_of (v:=v) (o:=mA f) (by rw [← l];exact r f)
 exact ZdZ I.kIn O (c.get f) c.hd n hu (Uh ru) (h u _ (I.tok _) ru)
theorem YI {m:Str}{g:Addr}{pl:Sem Bool}{Q:Value×List Value→Shared→Prop}(I:Inv X pins σ H s)(e:H a=some (.ins C dx fs))(c:Cls X.K C)(k:WS X.K C m g)(l:fs.lookup m=none)
   (h:Q (.ref g,[.ref a]) s):wpAny (model X.prog X.w) A (getMethod (.ref a) m pl) Q E s:=by
 obtain ⟨mA,O,r,_,_,_⟩:=Wb I.hok e
 have hn:mA m=none:=RelO.none_of (by rw [← l];exact r m)
 exact Zci I.kIn O (c.get m) k.at_ k.fn hn h
theorem ZaI {y:V}{u:Value}{Q:Unit→Shared→Prop}(I:Inv X pins σ H s)(e:H a=some (.ins C dx fs))(c:Cls X.K C)(n:NoAttr X.K C f)(hl:fs.length < 1000)(ry:RelV y u)
   (h:∀ s',Inv X pins σ (upd H a (.ins C dx (Yc f y fs))) s'→Q () s'):wpAny (model X.prog X.w) A (setAttr (.ref a) f u) Q E s:=by
 obtain ⟨mA,O,r,wi,_,ho⟩:=Wb I.hok e
 have hz:(fs.map (·.1)).length≤sizeLine:=by rw [List.length_map,sizeLine_eq];omega
 refine Zec I.kIn O c.sa c.po n.taker c.hd wi hz fun h' O' sb=>h _ ?_
 have hd:∃ o,h'.get? dx=some o:=let ⟨o,_,_,e',_⟩:=O'.ns;⟨o,e'⟩
 refine I.write (x:=a) (e:=dx) (by rw [e];exact True.intro) (.inr ho) (fun b q hb z=>(sb.2 b hb).trans z) hd ?_
 refine ⟨by rw [Zc O.ne];exact ho,?_,O.ne,O'.obj,_,O'.ns,fun g=>?_,fun g hg=>?_⟩
 · have:=Wj f y fs;omega
 · show RelO ((Yc f y fs).lookup g) (if g=f then some u else mA g)
   rw [YB]
   by_cases q:g=f
   · rw [if_pos q,if_pos q];exact ry
   · rw [if_neg q,if_neg q];exact r g
 · by_cases q:g=f
   · rw [q];exact (XC f y fs).1
   · refine (XC f y fs).2 g (wi g fun z=>hg ?_)
     show (if g=f then some u else mA g)=none
     rw [if_neg q];exact z
theorem Inv.made (I:Inv X pins σ H s):Inv X pins σ (upd (upd H s.heap.objs.size (.own (s.heap.objs.size+1))) (s.heap.objs.size+1) (.ins C s.heap.objs.size []))
   { s with heap:=(s.heap.push PySem.W.emptyDict).push (PySem.W.instObj C s.heap.objs.size) }:=by
 have e1:(s.heap.push PySem.W.emptyDict).get? s.heap.objs.size=some PySem.W.emptyDict:=Heap.get?_push_size s.heap rfl
 have e2:((s.heap.push PySem.W.emptyDict).push (PySem.W.instObj C s.heap.objs.size)).get? (s.heap.objs.size+1)=some (PySem.W.instObj C s.heap.objs.size):=by
   have:=Heap.get?_push_size (s.heap.push PySem.W.emptyDict) (o:=PySem.W.instObj C s.heap.objs.size) rfl
   rwa [Heap.size_push] at this
 have e3:(s.heap.push PySem.W.emptyDict).Ns s.heap.objs.size (fun _=>none):=⟨PySem.W.emptyDict,#[],_,e1,rfl,(fun e he=>absurd he (by simp)),fun _=>rfl⟩
 have I1:=I.laid (a:=s.heap.objs.size) (o:=.own (s.heap.objs.size+1)) (h':=s.heap.push PySem.W.emptyDict) (t':=s.toks) (fun b u q=>Heap.get?_push_of_some _ q) (Nat.le_refl _) ⟨_,e1⟩
 refine I1.laid (a:=s.heap.objs.size+1) (o:=.ins C s.heap.objs.size []) (t':=s.toks) (fun b u q=>Heap.get?_push_of_some _ q) (Nat.le_of_eq (Heap.size_push _ _)) ?_
 have ne:s.heap.objs.size≠s.heap.objs.size+1:=Nat.ne_of_lt (Nat.lt_succ_self _)
 refine ⟨by rw [Zc ne,Zd],Nat.zero_le _,ne,e2,fun _=>none,(Heap.Ns1.of_empty e3).at fun o q=>Heap.get?_push_of_some _ q,fun _=>True.intro,fun y hy=>absurd rfl hy⟩
theorem VY {prog:Program}{w:World}{env:Env}{e:Expr}{f:Str}{pos:Pos}{s:Shared}{Q:Value→Shared→Prop}(hb:attributeBase e f env (eval e env)=eval e env)
   (h:wpAny (model prog w) A (eval e env) (fun o s₁=>wpAny (model prog w) A (getAttr o f true) Q E s₁) E s):wpAny (model prog w) A (eval (.Attribute e f pos) env) Q E s :=
 Attribute_any_ h (by rw [arm_eval_Attribute,hb])
end
def tFld (K:PySem.W.Frag)(ta:TE)(f:Str):TE:=fun σ H Q=>ta σ H fun x H1=>∃ a C dx fs v,x=.ref a∧H1 a=some (.ins C dx fs)∧Cls K C∧NoAttr K C f∧fs.lookup f=some v∧Q v H1
def sFld (K:PySem.W.Frag)(ta tv:TE)(f:Str):TS:=fun D σ H=>tv σ H fun y H1=>ta σ H1 fun x H2=>∃ a C dx fs,x=.ref a∧H2 a=some (.ins C dx fs)∧Cls K C∧NoAttr K C f∧fs.length < 1000 ∧
 D.nx σ (upd H2 a (.ins C dx (Yc f y fs)))
section
variable {X:Cx}{o e value:Expr}{f:Str}{pos pos' tpos:Pos}{ta tv:TE}
theorem Ya (he:PE X e ta)(hb:attributeBase e f X.env (eval e X.env)=eval e X.env):PE X (.Attribute e f pos) (tFld X.K ta f):=by
 intro pins s σ H Q I h
 refine VY hb (Zo (he pins s σ H _ I h) fun u s1 ⟨x,H1,I1,rx,a,C,dx,fs,v,ex,ea,c,n,l,q⟩=>?_)
 subst ex
 obtain rfl:u=Value.ref a:=rx
 exact ZaL I1 ea c n l fun u' s2 I2 ru=>⟨v,H1,I2,ru,q⟩
theorem ZQ (ha:PE X o ta)(hv:PE X value tv)(hs:swapsWith value (some (.Attribute o f pos')) pos.line X.env=pure false):PS X (.Assign [.Attribute o f pos'] value pos) (sFld X.K ta tv f):=by
 intro pins s σ H D I h
 refine plainObj_wpAny_Assign_Attribute (Zo (hv pins s σ H _ I h) fun u s1 ⟨y,H1,I1,ry,q⟩=>Zo (ha pins s1 σ H1 _ I1 q) fun ov s2 ⟨x,H2,I2,rx,a,C,dx,fs,ex,ea,c,n,l,q2⟩=>?_) hs
 subst ex
 obtain rfl:ov=Value.ref a:=rx
 exact ZaI I2 ea c n l ry fun s3 I3=>⟨σ,_,I3,q2⟩
end
section
variable {X:Cx}{pins:List (Addr×Obj)}{σ:St}{H:Hp}{s:Shared}{A:Around}{E:Value→Shared→Prop}{Q:Value→Shared→Prop}{c:Value}{b:Bool}
inductive Yx (K:PySem.W.Frag)(H:Hp):V→Value→Prop where
 | non:Yx K H .non (.type "NoneType")
 | bl (x:Bool):Yx K H (.bl x) (.type "bool")
 | int (i:Int):Yx K H (.int i) (.type "int")
 | str (x:Str):Yx K H (.str x) (.type "str")
 | flt (x:UInt64):Yx K H (.flt x) (.type "float")
 | lst {a:Addr} {xs:List V} (e:H a=some (.lst xs)):Yx K H (.ref a) (.type "list")
 | frz {a:Addr} {o:Obj} {xs:List V} (e:H a=some (.frz o (.lst xs))):Yx K H (.ref a) (.type "list")
 | tup {a:Addr} {xs:List V} (e:H a=some (.tup xs)):Yx K H (.ref a) (.type "tuple")
 | dK {a:Addr} {kvs:List (Zw×V)} (e:H a=some (.dK kvs)):Yx K H (.ref a) (.type "dict")
 | dT {a:Addr} {kvs:List (List Zw×V)} (e:H a=some (.dT kvs)):Yx K H (.ref a) (.type "dict")
 | ins {a C dx:Addr} {fs:List (Str×V)} (e:H a=some (.ins C dx fs)) (cl:Cls K C) (ha:PySem.W.findIn K (.ref C) "__class__"=some (some (.builtin "object.__class__")))
     (hn:PySem.W.specialIn K (.builtin "object.__class__") "__get__"=some (some (.builtin "getset_descriptor.__get__"))) (htk:PySem.W.takesIn K (.builtin "object.__class__")=some true)
     (hm:PySem.W.mroIn K C (.type "object")=some true):Yx K H (.ref a) (.ref C)
theorem ZbQ {x:V}{u t:Value}(I:Inv X pins σ H s)(rx:RelV x u)(ty:Yx X.K H x t)(e:PySem.W.kitOne X.K t c=some b)(h:∀ tk,Q (.bool b) { s with toks:=tk }) :
   wpAny (model X.prog X.w) A (call (.builtin "isinstance") [u,c]) Q E s:=by
 cases ty with
 | non=>cases (show u=Value.none from rx);exact PySem.W.kia_one PySem.W.kitx_none I.kIn True.intro e (fun z=>nomatch z) h
 | bl y=>cases (show u=Value.bool y from rx);exact PySem.W.kia_one PySem.W.kitx_bool I.kIn True.intro e (fun z=>nomatch z) h
 | int i=>obtain ⟨t,q⟩:=(show ∃ t,u=Value.int i t from rx);cases q;exact PySem.W.kia_one PySem.W.kitx_int I.kIn True.intro e (fun z=>nomatch z) h
 | str y=>obtain ⟨t,q⟩:=(show ∃ t,u=Value.str y t from rx);cases q;exact PySem.W.kia_one PySem.W.kitx_str I.kIn True.intro e (fun z=>nomatch z) h
 | flt y=>obtain ⟨t,q⟩:=(show ∃ t,u=Value.float y t from rx);cases q;exact PySem.W.kia_one PySem.W.kitx_float I.kIn True.intro e (fun z=>nomatch z) h
 | @lst a xs ea =>
   cases (show u=Value.ref a from rx)
   obtain ⟨_,_,n,_,h1⟩:=(show ObjOk X.prog X.w H s.heap a (.lst xs) from I.hok a _ ea)
   exact PySem.W.kia_one PySem.W.kitx_list I.kIn ⟨_,h1,rfl⟩ e (fun z=>nomatch z) h
 | @frz a ob xs ea =>
   cases (show u=Value.ref a from rx)
   obtain ⟨_,_,_,n,_,h1⟩:=(show ObjOk X.prog X.w H s.heap a (.frz ob (.lst xs)) from I.hok a _ ea)
   exact PySem.W.kia_one PySem.W.kitx_list I.kIn ⟨_,h1,rfl⟩ e (fun z=>nomatch z) h
 | @tup a xs ea =>
   cases (show u=Value.ref a from rx)
   obtain ⟨_,_,_,p⟩:=(show ObjOk X.prog X.w H s.heap a (.tup xs) from I.hok a _ ea)
   obtain ⟨o,h1,h2,_⟩:=p
   exact PySem.W.kia_one PySem.W.kitx_tuple I.kIn ⟨o,h1,h2⟩ e (fun z=>nomatch z) h
 | @dK a kvs ea =>
   cases (show u=Value.ref a from rx)
   obtain ⟨_,_,vs,_,p⟩:=(show ObjOk X.prog X.w H s.heap a (.dK kvs) from I.hok a _ ea)
   obtain ⟨o,es,ep,h1,h2,_⟩:=p
   exact PySem.W.kia_one PySem.W.kitx_dict I.kIn ⟨o,h1,h2.1⟩ e (fun z=>nomatch z) h
 | @dT a kvs ea =>
   cases (show u=Value.ref a from rx)
   obtain ⟨_,_,xs,_,o,es,ep,h1,h2,_⟩:=(show ObjOk X.prog X.w H s.heap a (.dT kvs) from I.hok a _ ea)
   exact PySem.W.kia_one PySem.W.kitx_dict I.kIn ⟨o,h1,h2.1⟩ e (fun z=>nomatch z) h
 | @ins a C dx fs ea cl ha hn htk hm =>
   cases (show u=Value.ref a from rx)
   obtain ⟨mA,O,_⟩:=Wb I.hok ea
   obtain ⟨od,J,_⟩:=O.look
   exact PySem.W.kia_one (PySem.W.kitx_own (cl.get _) cl.hd ha hn htk hm) I.kIn J e (fun z=>nomatch z) h
end
end L2
namespace L2
open PySem PySem.Spec PyProof.Rows
structure Room (k:Nat)(A:Around):Prop where
 hd:A.handled=none
 dp:A.depth+3 * k+5 < recursionLimit
 un:A.units+16 * k+200 < cLine
 gd:A.guards=some []
theorem Room.mono {j k:Nat}{A:Around}(r:Room k A)(h:j≤k):Room j A:=⟨r.hd,by have:=r.dp;omega,by have:=r.un;omega,r.gd⟩
theorem Room.deeper {k:Nat}{A:Around}(r:Room (k+1) A)(env:Env):Room k (A.deeper env) :=
 ⟨r.hd,by have:=r.dp;show A.depth+1+3 * k+5 < _;omega,by have:=r.un;show A.units+3+16 * k+200 < _;omega,r.gd⟩
theorem ZaO {A:Around}{C:Addr}{us:List Value}{kw:List (Str×Value)}:(A.under (.builtin "type.__call__" ⟨.ref C::us,kw⟩)).depth=A.depth+1:=by
 first | rfl | simp [Around.under,Code.weight,Code.isCreation,Code.isGuard,Code.isCaller,Code.frames,Code.isFrame,guardIds]
theorem Zas {A:Around}{C:Addr}{us:List Value}{kw:List (Str×Value)}:(A.under (.builtin "type.__call__" ⟨.ref C::us,kw⟩)).units=A.units+1:=by
 first | rfl | simp [Around.under,Code.cUnits,Code.frames,Code.isFrame]
theorem Room.make {k:Nat}{A:Around}(r:Room (k+1) A)(C:Addr)(us:List Value)(kw:List (Str×Value)):Room k (A.under (.builtin "type.__call__" ⟨.ref C::us,kw⟩)) :=
 ⟨r.hd,by have:=r.dp;rw [ZaO];omega,by have:=r.un;rw [Zas];omega,by first | exact r.gd | simpa [Around.under,Code.isGuard,guardIds] using r.gd⟩
theorem Room.depth {k:Nat}{A:Around}(r:Room k A):A.depth < recursionLimit:=by have:=r.dp;omega
theorem Room.units {k:Nat}{A:Around}(r:Room k A):A.units+64 < cLine:=by have:=r.un;omega
def WR:TA:=fun _ H Q=>Q [] H
def Zax (ta:TE)(tr:TA):TA:=fun σ H Q=>ta σ H fun x H1=>tr σ H1 fun xs H2=>Q (x::xs) H2
section
variable {X:Cx}{e:Expr}{es:List Expr}{te:TE}{t:TA}{pos:Pos}
theorem Zb:PA X [] WR:=fun _ _ _ _ H Q I h=>Calls.spliced_nil ⟨[],H,I,.nil,h⟩
theorem ZP (ha:PE X e te)(hr:PA X es t)(hs:starEach (e::es) X.env=(false,eval e X.env)::starEach es X.env:=by rfl):PA X (e::es) (Zax te t):=by
 intro pos pins s σ H Q I h
 rw [hs]
 show wpAny _ _ (spliced ((false,eval e X.env)::backTo pos (starEach es X.env))) _ _ s
 refine Calls.spliced_cons (Zo (ha pins s σ H _ I h) fun u s1 ⟨x,H1,I1,r1,q1⟩=>?_)
 exact Zo (hr pos pins s1 σ H1 _ I1 q1) fun us s2 ⟨xs,H2,I2,r2,q2⟩=>⟨x::xs,H2,I2,.cons r1 r2,q2⟩
def tTup (t:TA):TE:=fun σ H Q=>t σ H fun xs H1=>xs.length≤sizeLine∧∀ p,H1 p=none→Q (.ref p) (upd H1 p (.tup xs))
def tLst (t:TA):TE:=fun σ H Q=>t σ H fun xs H1=>xs.length≤sizeLine∧∀ p,H1 p=none→Q (.ref p) (upd H1 p (.lst xs))
theorem Yi {x1}(h:PA X es t):PE X (.Tuple es x1 pos) (tTup t):=by
 intro pins s σ H Q I hq
 refine wpAny_Tuple_spliced (Zo (h pos pins s σ H _ I hq) fun us s1 ⟨xs,H1,I1,r,z,q⟩=>⟨by rw [← r.length];exact z,?_⟩)
 have hf:H1 s1.heap.objs.size=none:=I1.hok.fresh (Nat.le_refl _)
 refine ⟨.ref s1.heap.objs.size,upd H1 s1.heap.objs.size (.tup xs),I1.laid (t':=s1.toks) (fun b u e=>Heap.get?_push_of_some _ e) (Nat.le_refl _) ?_,rfl,q _ hf⟩
 exact ⟨z,us,r,⟨_,Heap.get?_push_size _ rfl,rfl,_,rfl⟩⟩
theorem ZA (h:PA X es t):PE X (.List es pos) (tLst t):=by
 intro pins s σ H Q I hq
 refine wpAny_List_spliced (Zo (h pos pins s σ H _ I hq) fun us s1 ⟨xs,H1,I1,r,z,q⟩=>⟨by rw [← r.length];exact z,?_⟩)
 have hf:H1 s1.heap.objs.size=none:=I1.hok.fresh (Nat.le_refl _)
 refine ⟨.ref s1.heap.objs.size,upd H1 s1.heap.objs.size (.lst xs),I1.laid (t':=s1.toks) (fun b u e=>Heap.get?_push_of_some _ e) (Nat.le_refl _) ?_,rfl,q _ hf⟩
 exact ⟨z,us,0,r,Heap.get?_push_size _ rfl⟩
end
abbrev Sp:=List V→Hp→VK→XK→Prop
abbrev Xc:=List Env→Hp→Shared→XK→Value→Shared→Prop
structure Env0 (P:Program)(w:World)(K:PySem.W.Frag)(mg:Str→Option Value)(base:Heap)(A:Around)(outer:List Env)(s:Shared)(H:Hp):Prop where
 frames:A.frames=some outer
 mod:Mod K mg base
 bs:∀ b o,base.get? b=some o→s.heap.get? b=some o∧H b=none
 bsz:base.objs.size≤s.heap.objs.size
 funs:s.heap.FunFrames base outer
 frf:∀ b∈ZJ outer,H b=none
 hok:HOk P w H s.heap
 bare:AllBare s.gens
def CE (outer:List Env)(P:Program)(w:World)(H:Hp)(s:Shared)(Q:VK)(u:Value)(s':Shared):Prop :=
 ∃ v H',s'.os=s.os∧AllBare s'.gens∧Un (ZJ outer) [] H H' s.heap s'.heap∧HOk P w H' s'.heap∧RelV v u∧Q v H'
def CR (CX:Xc)(outer:List Env)(P:Program)(w:World)(H:Hp)(s:Shared)(Q:VK)(E:XK)(r:Result)(s':Shared):Prop :=
 match r with
 | .ok (.ret u)=>CE outer P w H s Q u s'
 | .ok _=>False
 | .error e=>CX outer H s E e s'
structure FnOk (P:Program)(w:World)(K:PySem.W.Frag)(mg:Str→Option Value)(base:Heap)(CX:Xc)(k:Nat)(f:Addr)(fd:FuncData)(ps:List Str)(sp:Sp):Prop where
 len:∀ vs H Q E,sp vs H Q E→vs.length=ps.length
 run:∀ (A:Around) (outer:List Env) (s:Shared) (H:Hp) (args:Args) (us:List Value) (vs:List V) (Q:VK) (E:XK),Room k A→Env0 P w K mg base A outer s H→BindsTo s fd args (ps.zip us)→Vals vs us→sp vs H Q E →
   codeAny (model P w) A (.call (.ref f) args) (CR CX outer P w H s Q E) s
theorem FnOk.mono {P:Program}{w:World}{K:PySem.W.Frag}{mg:Str→Option Value}{base:Heap}{CX:Xc}{j k:Nat}{f:Addr}{fd:FuncData}{ps:List Str}{sp:Sp}(F:FnOk P w K mg base CX j f fd ps sp)(h:j≤k) :
 FnOk P w K mg base CX k f fd ps sp:=⟨F.len,fun A outer s H args us vs Q E hr=>F.run A outer s H args us vs Q E (hr.mono h)⟩
theorem Env0.make {P:Program}{w:World}{K:PySem.W.Frag}{mg:Str→Option Value}{base:Heap}{A:Around}{outer:List Env}{s:Shared}{H:Hp}(e:Env0 P w K mg base A outer s H)(C:Addr)(us:List Value)(kw:List (Str×Value)) :
 Env0 P w K mg base (A.under (.builtin "type.__call__" ⟨.ref C::us,kw⟩)) outer s H:=⟨by first | exact e.frames | (simpa [Around.under,Code.envs,Code.isFrame,pushEnvs] using e.frames),e.mod,e.bs,e.bsz,e.funs,e.frf,e.hok,e.bare⟩
section
variable {X:Cx}{pins:List (Addr×Obj)}{σ:St}{H:Hp}{s s':Shared}
theorem Inv.env0 (I:Inv X pins σ H s):Env0 X.prog X.w X.K X.mg X.base X.A X.stack s H :=
 ⟨I.ok.frames,I.ok.mod,I.bs,Nat.le_trans I.ok.bsz I.sz,I.stack,I.stkFree,I.hok,I.bare⟩
theorem Inv.after {Q:VK}{u:Value}(I:Inv X pins σ H s)(h:CE X.stack X.prog X.w H s Q u s'):EP X pins σ Q u s':=by
 obtain ⟨v,H',os,bare,un,hok,r,q⟩:=h
 obtain ⟨hh,g,d,t,os'⟩:=s'
 obtain rfl:os'=s.os:=os
 exact ⟨v,H',I.call (h':=hh) (g':=g) (d':=d) (t':=t) (ch:=[]) un hok bare (fun b z=>absurd z (by simp)),r,q⟩
end
def ZcW (sp:Sp)(dvs:List V)(E:XK)(t:TA):TE:=fun σ H Q=>t σ H fun vs H1=>sp (vs++dvs) H1 Q E
def UD (C:Addr)(m:Str)(sp:Sp)(dvs:List V)(E:XK)(ta:TE)(t:TA):TE:=fun σ H Q=>ta σ H fun x H1=>∃ a dx fs,x=.ref a∧H1 a=some (.ins C dx fs)∧fs.lookup m=none ∧
 t σ H1 fun vs H2=>sp (x::(vs++dvs)) H2 Q E
def Zdb (C:Addr)(sp:Sp)(dvs:List V)(E:XK)(t:TA):TE:=fun σ H Q=>t σ H fun vs H1=>∀ x dx,H1 x=none→H1 dx=none→dx≠x →
 sp (.ref x::(vs++dvs)) (upd (upd H1 dx (.own x)) x (.ins C dx [])) (fun v H2=>v=.non∧Q (.ref x) H2) E
def Binds (K:PySem.W.Frag)(fd:FuncData)(ps:List Str)(ds:List Value):Prop :=
 ∀ (s:Shared) (us:List Value),K.In s.heap→(us++ds).length=ps.length→BindsTo s fd ⟨us,[]⟩ (ps.zip (us++ds))
theorem Binds.all {K:PySem.W.Frag}{fd:FuncData}{ps:List Str}(h:∀ us:List Value,us.length=ps.length→bindArgs fd ⟨us,[]⟩=pure (ps.zip us)):Binds K fd ps []:=fun s us _ hl=>by
 rw [List.append_nil] at hl ⊢
 exact .of_eq (h us hl)
def YS (CX:Xc)(X:Cx)(E:XK):Prop:=∀(pins:List (Addr×Obj))(σ:St)(H:Hp)(s:Shared)(e:Value)(s':Shared),Inv X pins σ H s→CX X.stack H s E e s'→X.xe e s'
section
variable {X:Cx}{CX:Xc}{k:Nat}{f C:Addr}{fd:FuncData}{ps:List Str}{sp:Sp}{dvs:List V}{ds:List Value}{E:XK}{x m:Str}{p pos apos:Pos}{e o:Expr}{es:List Expr}{ta:TE}{t:TA}
theorem Vl {pins:List (Addr×Obj)}{σ:St}{H:Hp}{s:Shared}{Q:VK}{us:List Value}{vs:List V}(F:FnOk X.prog X.w X.K X.mg X.base CX k f fd ps sp)(hr:Room k X.A)(hb:Binds X.K fd ps ds)(hd:Vals dvs ds)(hx:YS CX X E)
   (I:Inv X pins σ H s) (r:Vals vs us) (h:sp (vs++dvs) H Q E):wpAny (model X.prog X.w) X.A (call (.ref f) us) (EP X pins σ Q) X.xe s:=by
 have r2:Vals (vs++dvs) (us++ds):=r.append hd
 have hl:(us++ds).length=ps.length:=by rw [← r2.length];exact F.len _ _ _ _ h
 refine wpAny_call (codeAny_mono (F.run X.A X.stack s H ⟨us,[]⟩ (us++ds) (vs++dvs) Q E hr I.env0 (hb s us I.kIn hl) r2 h) fun r s' hq=>?_)
 cases r with
 | error e=>exact hx pins σ H s e s' I hq
 | ok fl =>
   cases fl with
   | ret u=>exact I.after hq
   | next=>exact False.elim hq
   | brk=>exact False.elim hq
   | cont=>exact False.elim hq
theorem Zek (F:FnOk X.prog X.w X.K X.mg X.base CX k f fd ps sp)(hr:Room k X.A)(hg:Gl X x)(hm:X.mg x=some (.ref f))(hk:PySem.W.keepIn X.K (.ref f)=true)(hb:Binds X.K fd ps ds)(hd:Vals dvs ds)(hx:YS CX X E)
   (ha:PA X (e::es) t) (hdb:(x == ("__debug__":Str))=false:=by decide) (he:starEach (e::es) X.env=(false,eval e X.env)::starEach es X.env:=by rfl) (hpl:(backTo pos (starEach es X.env)).any (·.1)=false:=by rfl) :
   PE X (.Call (.Name x p) (e::es) [] pos) (ZcW sp dvs E t):=by
 intro pins s σ H Q I h
 refine wpAny_Call_Name_kw (YL I hg hm ?_ hdb)
 refine PySem.W.callWith_K (h₀:=X.base) I.ok.mod.kin hk (Zo (ha pos pins s σ H _ I h) fun us s1 ⟨vs,H1,I1,r,q⟩=>⟨I1.kIn,?_⟩) he hpl
 exact Vl F hr hb hd hx I1 r q
theorem ZdU {pl:Sem Bool}(he:PE X o ta)(c:Cls X.K C)(hm:WS X.K C m f)(F:FnOk X.prog X.w X.K X.mg X.base CX k f fd ps sp)(hr:Room k X.A)(hb:Binds X.K fd ps ds)(hd:Vals dvs ds)(hx:YS CX X E)(ha:PA X (e::es) t)
   (hst:starEach (e::es) X.env=(false,eval e X.env)::starEach es X.env:=by rfl) (hpl:(backTo pos (starEach es X.env)).any (·.1)=false:=by rfl)
   (ht:eval (.Call (.Attribute o m apos) (e::es) [] pos) X.env=(do
     let ov ← eval o X.env
     standAt apos.atName
     let (f,first) ← holding [ov] (getMethod ov m pl)
     callWith pos f first (backTo pos (starEach (e::es) X.env)) (backToKw pos (keywordEach [] X.env))):=by rfl) :
   PE X (.Call (.Attribute o m apos) (e::es) [] pos) (UD C m sp dvs E ta t):=by
 intro pins s σ H Q I h
 refine PySem.W.methodCall_KW (pl:=pl) (Zo (he pins s σ H _ I h) fun u s1 ⟨x,H1,I1,rx,a,dx,fs,ex,ea,l,q⟩=>?_) ht
 subst ex
 obtain rfl:u=Value.ref a:=rx
 refine YI I1 ea c hm l ?_
 refine PySem.W.callWith_K (first:=[.ref a]) (h₀:=X.base) I.ok.mod.kin hm.kp (Zo (ha pos pins s1 σ H1 _ I1 q) fun us s2 ⟨vs,H2,I2,r,q2⟩=>⟨I2.kIn,?_⟩) hst hpl
 exact Vl (us:=.ref a::us) (vs:=.ref a::vs) F hr hb hd hx I2 (.cons rfl r) q2
theorem Zcf {pl:Sem Bool}(he:PE X o ta)(c:Cls X.K C)(hm:WS X.K C m f)(F:FnOk X.prog X.w X.K X.mg X.base CX k f fd ps sp)(hr:Room k X.A)(hb:Binds X.K fd ps ds)(hd:Vals dvs ds)(hx:YS CX X E)
   (ht:eval (.Call (.Attribute o m apos) [] [] pos) X.env=(do
     let ov ← eval o X.env
     standAt apos.atName
     let (f,first) ← holding [ov] (getMethod ov m pl)
     callWith pos f first (backTo pos (starEach [] X.env)) (backToKw pos (keywordEach [] X.env))):=by rfl) :
   PE X (.Call (.Attribute o m apos) [] [] pos) (UD C m sp dvs E ta WR):=by
 intro pins s σ H Q I h
 refine PySem.W.methodCall_KW (pl:=pl) (Zo (he pins s σ H _ I h) fun u s1 ⟨x,H1,I1,rx,a,dx,fs,ex,ea,l,q⟩=>?_) ht
 subst ex
 obtain rfl:u=Value.ref a:=rx
 refine YI I1 ea c hm l ?_
 exact PySem.W.callWith_K0 (first:=[.ref a]) I1.kIn hm.kp (Vl (us:=[.ref a]) (vs:=[.ref a]) F hr hb hd hx I1 (.cons rfl .nil) q)
structure Mk (K:PySem.W.Frag)(C f:Addr):Prop where
 makes:PySem.W.makesIn K C=true
 init:PySem.W.findIn K (.ref C) "__init__"=some (some (.ref f))
 fn:PySem.W.isFn K (.ref f)=true
 kp:PySem.W.keepIn K (.ref C)=true
theorem ZcC {pins:List (Addr×Obj)}{σ:St}{H:Hp}{s:Shared}{Q:VK}{us:List Value}{vs:List V}(M:Mk X.K C f)(F:FnOk X.prog X.w X.K X.mg X.base CX k f fd ps sp)(hr:Room (k+1) X.A)(hb:Binds X.K fd ps ds)(hd:Vals dvs ds)
   (hx:YS CX X E) (I:Inv X pins σ H s) (r:Vals vs us)
   (h:∀ x dx,H x=none→H dx=none→dx≠x→sp (.ref x::(vs++dvs)) (upd (upd H dx (.own x)) x (.ins C dx [])) (fun v H2=>v=.non∧Q (.ref x) H2) E) :
   wpAny (model X.prog X.w) X.A (call (.ref C) us) (EP X pins σ Q) X.xe s:=by
 have hq:=h (s.heap.objs.size+1) s.heap.objs.size (I.hok.fresh (Nat.le_succ _)) (I.hok.fresh (Nat.le_refl _)) (Nat.ne_of_lt (Nat.lt_succ_self _))
 have I2:=Inv.made (C:=C) I
 have r2:Vals (V.ref (s.heap.objs.size+1)::(vs++dvs)) (Value.ref (s.heap.objs.size+1)::(us++ds)):=.cons rfl (r.append hd)
 have hl:(Value.ref (s.heap.objs.size+1)::us++ds).length=ps.length:=by
   have e:=r2.length
   rw [F.len _ _ _ _ hq] at e
   exact e.symm
 refine wpAny_call (Zcu (f:=f) I.kIn M.makes M.init (beq_iff_eq.mp M.fn) (codeAny_mono (F.run _ X.stack _ _ ⟨Value.ref (s.heap.objs.size+1)::us,[]⟩ (Value.ref (s.heap.objs.size+1)::(us++ds)) _ _ E (hr.make C us [])
   (I2.env0.make C us []) (hb _ (Value.ref (s.heap.objs.size+1)::us) I2.kIn hl) r2 hq) fun r s' hq'=>?_))
 cases r with
 | error e=>exact hx pins σ _ _ e s' I2 hq'
 | ok fl =>
   cases fl with
   | ret u =>
     obtain ⟨v,H',I3,rv,ev,q3⟩:=I2.after hq'
     subst ev
     exact ⟨rv,⟨V.ref (s.heap.objs.size+1),H',I3,rfl,q3⟩⟩
   | next=>exact False.elim hq'
   | brk=>exact False.elim hq'
   | cont=>exact False.elim hq'
theorem ZbY (M:Mk X.K C f)(F:FnOk X.prog X.w X.K X.mg X.base CX k f fd ps sp)(hr:Room (k+1) X.A)(hg:Gl X x)(hm:X.mg x=some (.ref C))(hb:Binds X.K fd ps ds)(hd:Vals dvs ds)(hx:YS CX X E)
   (hdb:(x == ("__debug__":Str))=false:=by decide):PE X (.Call (.Name x p) [] [] pos) (Zdb C sp dvs E WR):=by
 intro pins s σ H Q I h
 refine wpAny_Call_Name_kw (YL I hg hm ?_ hdb)
 exact PySem.W.callWith_K0 I.kIn M.kp (ZcC (us:=[]) M F hr hb hd hx I .nil h)
end
section
variable {X:Cx}{CX:Xc}{k:Nat}{f C:Addr}{fd:FuncData}{ps ks:List Str}{sp:Sp}{E:XK}{x m:Str}{p pos apos kpos:Pos}{e o:Expr}{es:List Expr}{kws:List Keyword}{te ta:TE}{t tk:TA}{nm:Option Str}
variable {g:List Value→List Value→List Value}{gV:List V→List V→List V}
end
structure Zu (N P:List Str)(sc:Scope):Prop where
 kind:sc.kind=.function
 co:sc.isCoroutine=false
 gen:sc.isGenerator=false
 nd:N.Nodup
 pre:N.take P.length=P
 par:∀ x∈P,sc.names.lookup x=some .local∨sc.names.lookup x=some .cell
 nofree:∀ y∈sc.names,y.2≠.free
theorem Ud {kindOf:Str→Option NameKind}{x:Str}:∀{binds:List (Str×Value)}{m:Str→Option Value},(∀ v,(x,v) ∉ binds)→bindL kindOf binds m x=m x
 | [],_,_=>rfl
 | (n,v)::r,m,h=>by
   unfold bindL
   rw [Ud fun w hw=>h w (List.mem_cons_of_mem _ hw)]
   split
   · have:x≠n:=by rintro rfl;exact h v List.mem_cons_self
     simp [this]
   · rfl
theorem Uc {kindOf:Str→Option NameKind}{x:Str}:∀{binds:List (Str×Value)}{m:Str→Option Value},(∀ v,(x,v) ∉ binds)→bindC kindOf binds m x=m x
 | [],_,_=>rfl
 | (n,v)::r,m,h=>by
   unfold bindC
   rw [Uc fun w hw=>h w (List.mem_cons_of_mem _ hw)]
   split
   · rfl
   · have:x≠n:=by rintro rfl;exact h v List.mem_cons_self
     simp [this]
theorem Ue {kindOf:Str→Option NameKind}{x:Str}{v:Value}:∀{P:List Str}{vs:List Value}{i:Nat}{m:Str→Option Value},P.Nodup→P[i]?=some x→vs[i]?=some v→kindOf x=some .local →
   bindL kindOf (P.zip vs) m x=some v
 | [],_,_,_,_,h,_,_=>by simp at h
 | _::_,[],_,_,_,_,h,_=>by simp at h
 | p::P,w::vs,0,m,nd,h1,h2,hk=>by
   simp at h1 h2;subst h1;subst h2
   show bindL kindOf ((p,w)::P.zip vs) m p=_
   unfold bindL
   rw [Ud fun v hv=>(List.nodup_cons.mp nd).1 (List.of_mem_zip hv).1,if_pos hk]
   simp
 | p::P,w::vs,i+1,m,nd,h1,h2,hk=>by
   show bindL kindOf ((p,w)::P.zip vs) m x=_
   unfold bindL
   exact Ue (i:=i) (List.nodup_cons.mp nd).2 (by simpa using h1) (by simpa using h2) hk
theorem Uo {kindOf:Str→Option NameKind}{x:Str}{v:Value}:∀{P:List Str}{vs:List Value}{i:Nat}{m:Str→Option Value},P.Nodup→P[i]?=some x→vs[i]?=some v→kindOf x≠some .local →
   bindC kindOf (P.zip vs) m x=some v
 | [],_,_,_,_,h,_,_=>by simp at h
 | _::_,[],_,_,_,_,h,_=>by simp at h
 | p::P,w::vs,0,m,nd,h1,h2,hk=>by
   simp at h1 h2;subst h1;subst h2
   show bindC kindOf ((p,w)::P.zip vs) m p=_
   unfold bindC
   rw [Uc fun v hv=>(List.nodup_cons.mp nd).1 (List.of_mem_zip hv).1,if_neg hk]
   simp
 | p::P,w::vs,i+1,m,nd,h1,h2,hk=>by
   show bindC kindOf ((p,w)::P.zip vs) m x=_
   unfold bindC
   exact Uo (i:=i) (List.nodup_cons.mp nd).2 (by simpa using h1) (by simpa using h2) hk
def YA (N:List Str)(vs:List V):St:=vs.map some++List.replicate (N.length - vs.length) none
def Xf (CX:Xc)(P:Program)(w:World)(K:PySem.W.Frag)(mg:Str→Option Value)(base:Heap)(N:List Str)(qual:Str)(scope:Scope)(f:Addr)(cd:Value)(A:Around)(outer:List Env)(s:Shared)(H:Hp)(E:XK):Cx where
 prog:=P
 w:=w
 K:=K
 mg:=mg
 base:=base
 A:=A.deeper (envOfC qual scope s.heap.objs.size f cd)
 N:=N
 s₀:=s
 H₀:=H
 env:=envOfC qual scope s.heap.objs.size f cd
 outer:=outer
 stack:=envOfC qual scope s.heap.objs.size f cd::outer
 ex:=[]
 calm:=true
 fn:=fun _=>true
 pn:=[]
 xe:=fun e s'=>wpAny (model P w) (A.deeper (envOfC qual scope s.heap.objs.size f cd)) (leaving (envOfC qual scope s.heap.objs.size f cd) e) (fun _ s''=>CX outer H s E e s'') (fun e' s''=>CX outer H s E e' s'') s'
theorem UP {sc:Scope}{n:Nat}{x:Str}(h:sc.names.lookup x=some .cell):∃ c,(cellsFrom n sc.names []).lookup x=some c:=by
 have q:=PySem.W.cellsFrom_some sc.names n [] (.inl h)
 exact Option.isSome_iff_exists.mp q
theorem ZbT {CX:Xc}{P:Program}{w:World}{K:PySem.W.Frag}{mg:Str→Option Value}{base:Heap}{N ps:List Str}{qual:Str}{scope:Scope}{f:Addr}{cd:Value}{A:Around}{outer:List Env}{s s1:Shared}{H:Hp}{E:XK}{us:List Value}{vs:List V}
   (S:Zu N ps scope) (hd:A.handled=none) (e0:Env0 P w K mg base A outer s H) (hl:vs.length=ps.length) (r:Vals vs us)
   (x:InCallC s s.heap.objs.size (bindL (envOfC qual scope s.heap.objs.size f cd).kindOf (ps.zip us) fun _=>none) (cellsFrom (s.heap.objs.size+1) scope.names []) (bindC (envOfC qual scope s.heap.objs.size f cd).kindOf (ps.zip us) fun _=>none) s1) :
   Inv (Xf CX P w K mg base N qual scope f cd A outer s H E) [] (YA N vs) H s1:=by
 have hpl:ps.length≤N.length:=by have:=congrArg List.length S.pre;rw [List.length_take] at this;omega
 obtain ⟨h1,tk,rfl,hk⟩:=x.done
 have noA:∀ b:Addr,b ∉ (Xf CX P w K mg base N qual scope f cd A outer s H E).ex:=fun b z=>absurd (show b∈([]:List Addr) from z) (by simp)
 refine ⟨⟨e0.mod,S.kind,rfl,rfl,Nat.le_refl _,fun y z c h1 h2=>?_,fun y hy=>?_,fun y c _ h=>?_,fun _=>hd,Around.frames_deeper e0.frames,.inr ⟨rfl,rfl⟩,fun b z=>absurd z (noA b),e0.bs,e0.bsz,fun b _ _=>noA b,fun b z=>absurd z (noA b),e0.funs,e0.frf⟩,
   rfl,e0.bare,Un.kept hk,⟨_,x.toInCall.ns,fun i y v h1 h2 h3=>?_⟩,fun y c h=>⟨_,x.cell y c h⟩,e0.hok.fresh (Nat.le_refl _),fun y c h=>?_,fun p hp=>absurd (show p∈([]:List (Addr×Obj)) from hp) (by simp),e0.hok.kept hk,?_⟩
 · exact name_of_addr x.apart (PySem.mem_of_lookup h1) (PySem.mem_of_lookup h2)
 · have hy:scope.names.lookup y=some .cell∨scope.names.lookup y=some .free:=hy
   rcases hy with hy | hy
   · exact UP hy
   · exact absurd rfl (S.nofree _ (PySem.mem_of_lookup hy))
 · exact Nat.le_of_lt (x.above y c (PySem.mem_of_lookup h))
 · have hi:i < vs.length:=by
     unfold YA at h2
     by_cases hi:i < vs.length
     · exact hi
     · rw [List.getElem?_append_right (by simpa using hi)] at h2
       rw [List.getElem?_replicate] at h2
       split at h2<;>cases h2
   have ha:vs[i]?=some v:=by
     unfold YA at h2
     rw [List.getElem?_append_left (by simpa using hi),List.getElem?_map] at h2
     cases e:vs[i]? with
     | none=>rw [e] at h2;cases h2
     | some a=>rw [e] at h2;cases h2;rfl
   obtain ⟨u,hu,rv⟩:=r.get ha
   have hp:ps[i]?=some y:=by
     rw [← S.pre,List.getElem?_take_of_lt (by omega)];exact h1
   have ndP:ps.Nodup:=by rw [← S.pre];exact S.nd.sublist (List.take_sublist _ _)
   refine ⟨u,rv,?_⟩
   rcases S.par y (List.mem_of_getElem? hp) with k | k
   · exact .inl ⟨k,Ue ndP hp hu k⟩
   · obtain ⟨c,e⟩:=UP (n:=s.heap.objs.size+1) k
     refine .inr ⟨.inl k,c,e,?_⟩
     have q:=x.cell y c e
     rw [Uo ndP hp hu (by show scope.names.lookup y≠_;rw [k];decide)] at q
     exact q
 · exact e0.hok.fresh (Nat.le_of_lt (x.above y c (PySem.mem_of_lookup h)))
 · unfold YA
   show _=N.length
   rw [List.length_append,List.length_map,List.length_replicate]
   omega
theorem Zav {CX:Xc}{P:Program}{w:World}{K:PySem.W.Frag}{mg:Str→Option Value}{base:Heap}{k:Nat}{f:Addr}{name qual:Str}{params:Arguments}{body:List Stmt}{scope:Scope}{dV kV doc pm cdv ct oc:Value}{an od:Option Addr}
   {osl:Array (Option Value)} {N ps:List Str} {sp:Sp} (lk:K.lookup f=some ⟨oc,od,.func (PySem.W.fnOf name qual params body scope dV kV doc pm an cdv ct),osl⟩) (hcd:PySem.W.codeIn K cdv qual=true) (S:Zu N ps scope)
   (len:∀ vs H Q E,sp vs H Q E→vs.length=ps.length)
   (hbody:∀ (A:Around) (outer:List Env) (s:Shared) (H:Hp) (vs:List V) (Q:VK) (E:XK),Room k (A.deeper (envOfC qual scope s.heap.objs.size f cdv))→sp vs H Q E →
     ∃ t,PSs (Xf CX P w K mg base N qual scope f cdv A outer s H E) body t∧t { nx:=fun _ H'=>Q .non H',rt:=Q } (YA N vs) H) :
   FnOk P w K mg base CX (k+1) f (PySem.W.fnOf name qual params body scope dV kV doc pm an cdv ct) ps sp:=by
 refine ⟨len,fun A outer s H args us vs Q E hr e0 hb r hsp=>?_⟩
 have hl:=len _ _ _ _ hsp
 have KX:K.In s.heap:=e0.mod.kin.keeps fun b o e=>(e0.bs b o e).1
 have lim:s.heap.NoLimit:=e0.mod.nolimit.keeps fun b o e=>(e0.bs b o e).1
 have hkind:∀ y∈ps.zip us,scope.names.lookup y.1=some .local∨(scope.names.lookup y.1=some .cell∧((cellsFrom (s.heap.objs.size+1) scope.names []).lookup y.1).isSome=true):=fun ⟨n,v⟩ hy=>by
   rcases S.par n (List.of_mem_zip hy).1 with q | q
   · exact .inl q
   · exact .inr ⟨q,PySem.W.cellsFrom_some _ _ _ (.inl q)⟩
 refine codeAny_call_function hr.depth (KX _ _ lk) rfl S.co S.gen rfl (PySem.W.codeRec_of KX hcd) (hb _ _ _ _ ?_)
 refine wpAny_newFunctionEnv_cells S.kind hkind fun env he s1 x=>?_
 subst he
 refine ⟨lim.keeps x.toInCall.keep,codeAny_func ?_⟩
 obtain ⟨t,ht,hq⟩:=hbody A outer s H vs Q E (hr.deeper _) hsp
 have I:Inv (Xf CX P w K mg base N qual scope f cdv A outer s H E) [] (YA N vs) H s1:=ZbT S hr.hd e0 hl r x
 refine wpAny_mono (ht [] s1 (YA N vs) H _ I hq) (fun fl s' hs=>?_) fun e s' hs=>hs
 have fin:∀ {σ':St} {H':Hp} {v:V} {u:Value},Inv (Xf CX P w K mg base N qual scope f cdv A outer s H E) [] σ' H' s'→RelV v u→Q v H'→CE outer P w H s Q u s' :=
   fun {σ' H' v u} J rv q=>⟨v,H',J.os,J.bare,J.base,J.hok,rv,q⟩
 cases fl with
 | ret u =>
   obtain ⟨v,σ',H',J,rv,q⟩:=hs
   exact fin J rv q
 | next =>
   obtain ⟨σ',H',J,q⟩:=hs
   exact fin (v:=V.non) (u:=Value.none) J rfl q
 | brk =>
   obtain ⟨_,_,_,q⟩:=hs
   exact False.elim q
 | cont =>
   obtain ⟨_,_,_,q⟩:=hs
   exact False.elim q
end L2
namespace L2
open PySem PySem.Spec PyProof.Rows
section
variable {X:Cx}{x:Str}{p pos:Pos}{e:Expr}{es:List Expr}{t:TA}{id T:String}{r:List V→Hp→VK→Prop}
def tCB (r:List V→Hp→VK→Prop)(t:TA):TE:=fun σ H Q=>t σ H fun vs H1=>r vs H1 Q
theorem Zk (hc:Yl X (.builtin id) r)(hg:Gl X x)(hm:X.mg x=none)(hv:bootBuiltins x=some (.builtin id))(ha:PA X (e::es) t)(hn:x≠"__name__":=by decide)(hdb:(x == ("__debug__":Str))=false:=by decide)
   (he:starEach (e::es) X.env=(false,eval e X.env)::starEach es X.env:=by rfl) (hpl:(backTo pos (starEach es X.env)).any (·.1)=false:=by rfl):PE X (.Call (.Name x p) (e::es) [] pos) (tCB r t):=by
 intro pins s σ H Q I h
 refine wpAny_Call_Name_kw (WA I hg hm hv ?_ hn hdb)
 exact PyProof.Rows.callWith_builtin1 (Zo (ha pos pins s σ H _ I h) fun us s1 ⟨vs,H1,I1,r1,q1⟩=>hc pins s1 σ H1 vs us Q I1 r1 q1) he hpl
theorem Xa (hc:Yl X (.type T) r)(hg:Gl X x)(hm:X.mg x=none)(hv:bootBuiltins x=some (.type T))(ha:PA X (e::es) t)(hn:x≠"__name__":=by decide)(hdb:(x == ("__debug__":Str))=false:=by decide)
   (he:starEach (e::es) X.env=(false,eval e X.env)::starEach es X.env:=by rfl) (hpl:(backTo pos (starEach es X.env)).any (·.1)=false:=by rfl):PE X (.Call (.Name x p) (e::es) [] pos) (tCB r t):=by
 intro pins s σ H Q I h
 refine wpAny_Call_Name_kw (WA I hg hm hv ?_ hn hdb)
 exact PyProof.Rows.callWith_type1 (Zo (ha pos pins s σ H _ I h) fun us s1 ⟨vs,H1,I1,r1,q1⟩=>hc pins s1 σ H1 vs us Q I1 r1 q1) he hpl
end
end L2
namespace HT
open PySem PyProof.Rows
section
open PySem.SeqAt
open PySem.AutoSeq1 (wpAny_loadPart')
open PySem.MeetsSeq PySem.MeetsSeq2 PySem.MeetsSeq3
end
section
variable {prog:Program}{w:World}{A:Around}{E:Value→Shared→Prop}{s:Shared}
def sIx (n d:Nat):Option Int→Nat
 | none=>d
 | some v=>if v < 0 then (v+(n:Int)).toNat else min v.toNat n
theorem sIx_none (n d:Nat):sIx n d none=d:=rfl
theorem sIx_nat (n d k:Nat):sIx n d (some (k:Int))=min k n:=by
 show (if (k:Int) < 0 then ((k:Int)+(n:Int)).toNat else min (k:Int).toNat n)=min k n
 rw [if_neg (by omega),Int.toNat_natCast]
end
end HT
namespace L2
open PySem PySem.Spec PyProof.Rows
abbrev TO:=St→Hp→(Option Int→Hp→Prop)→Prop
def PO (X:Cx)(e:Option Expr)(t:TO):Prop :=
 ∀ (pins:List (Addr×Obj)) (s:Shared) (σ:St) (H:Hp) (Q:Option Int→Hp→Prop),Inv X pins σ H s→t σ H Q →
   wpAny (model X.prog X.w) X.A (evalPart e X.env) (fun u s'=>∃ o H',Inv X pins σ H' s'∧IsPart u o∧Q o H') X.xe s
def Zdt:TO:=fun _ H Q=>Q none H
def ZfT (t:TE):TO:=fun σ H Q=>t σ H fun x H1=>∃ i,x=.int i∧Q (some i) H1
section
variable {X:Cx}{e:Expr}{te:TE}{lo hi:Option Expr}{tl th:TO}{pos p2:Pos}
theorem Zdu:PO X none Zdt:=by
 intro pins s σ H Q I h
 rw [evalPart_none]
 exact wpAny_pure ⟨none,H,I,.none,h⟩
theorem Zea (h:PE X e te):PO X (some e) (ZfT te):=by
 intro pins s σ H Q I hw
 rw [evalPart_some]
 refine Zo (h pins s σ H _ I hw) fun u s1 ⟨x,H1,I1,r1,q1⟩=>?_
 obtain ⟨i,rfl,q⟩:=q1
 obtain ⟨t,rfl⟩:=r1
 exact ⟨some i,H1,I1,.int i t,q⟩
def SlR (X:Cx)(r:V→Option Int→Option Int→Hp→VK→Prop):Prop :=
 ∀ (pins:List (Addr×Obj)) (s:Shared) (σ:St) (H:Hp) (x:V) (v vl vu:Value) (lo hi:Option Int) (sl:Addr) (Q:VK),Inv X pins σ H s→RelV x v→s.heap.IsSliceOf sl vl vu .none→IsPart vl lo→IsPart vu hi→r x lo hi H Q →
   ∃ T id,typeLookup (.type T) "__getitem__"=pure (some (.builtin id))∧s.TypeIs v T∧wpAny (model X.prog X.w) X.A (getItem v (.ref sl)) (EP X pins σ Q) X.xe s
def tSl (r:V→Option Int→Option Int→Hp→VK→Prop)(te:TE)(tl th:TO):TE:=fun σ H Q=>te σ H fun x H1=>tl σ H1 fun l H2=>th σ H2 fun u H3=>r x l u H3 Q
theorem Zco {r:V→Option Int→Option Int→Hp→VK→Prop}(hr:SlR X r)(he:PE X e te)(hl:PO X lo tl)(hu:PO X hi th):PE X (.Subscript e (.Slice lo hi none p2) pos) (tSl r te tl th):=by
 intro pins s σ H Q I h
 refine Subscript_ (Zo (he pins s σ H _ I h) fun v s1 ⟨x,H1,I1,r1,q1⟩=>?_)
 refine wpAny_Slice (Zo (hl pins s1 σ H1 _ I1 q1) fun vl s2 ⟨l,H2,I2,pl,q2⟩=>Zo (hu pins s2 σ H2 _ I2 q2) fun vu s3 ⟨u,H3,I3,pu,q3⟩=>?_)
 rw [evalPart_none]
 refine wpAny_pure ?_
 have I4:Inv X pins σ H3 { s3 with heap:=s3.heap.push { cls:=.type "slice",data:=.fields #[vl,vu,.none] } }:=I3.kept (t':=s3.toks) fun b ob q=>Heap.get?_push_of_some _ q
 obtain ⟨T,id,hT,ht,hg⟩:=hr pins { s3 with heap:=s3.heap.push { cls:=.type "slice",data:=.fields #[vl,vu,.none] } } σ H3 x v vl vu l u s3.heap.objs.size Q I4 r1 (Heap.IsSliceOf.new ..) pl pu q3
 show wpAny (model X.prog X.w) X.A (subscriptTail e (.Slice lo hi none p2) v (.ref s3.heap.objs.size)) (EP X pins σ Q) X.xe { s3 with heap:=s3.heap.push { cls:=.type "slice",data:=.fields #[vl,vu,.none] } }
 exact tail_any (ops:=[.ref s3.heap.objs.size,v]) ht hT hg (by with_unfolding_all rfl)
def Wm (xs:List V)(lo hi:Option Int):List V:=(xs.drop (HT.sIx xs.length 0 lo)).take (HT.sIx xs.length xs.length hi - HT.sIx xs.length 0 lo)
theorem VJ (xs:List V)(lo hi:Option Int):(Wm xs lo hi).length≤xs.length:=by
 unfold Wm
 rw [List.length_take,List.length_drop]
 omega
end
end L2
namespace L2
open PySem PySem.Spec PyProof.Rows
def WF (n:Nat)(i:Int):Option Nat:=if 0≤i then (if i < n then some i.toNat else none) else if -(n:Int)≤i then some (i+n).toNat else none
def WL {α:Type}(xs:List α)(i:Int):Option α:=(WF xs.length i).bind fun j=>xs[j]?
theorem VQ {n:Nat}{i:Int}{j:Nat}(h:WF n i=some j):seqIndex? i n=some j∧j < n∧-(n:Int)≤i∧i < n:=by
 unfold WF at h
 by_cases h0:0≤i
 · rw [if_pos h0] at h
   by_cases h1:i < n
   · rw [if_pos h1] at h
     have e:i.toNat=j:=Option.some.inj h
     exact ⟨by rw [seqIndex_of h0 h1,e],by omega,by omega,h1⟩
   · rw [if_neg h1] at h;cases h
 · rw [if_neg h0] at h
   by_cases h1:-(n:Int)≤i
   · rw [if_pos h1] at h
     have e:(i+n).toNat=j:=Option.some.inj h
     exact ⟨by rw [seqIndex_neg (by omega) h1,e],by omega,h1,by omega⟩
   · rw [if_neg h1] at h;cases h
theorem ZdW {α:Type}{xs:List α}{i:Int}{v:α}(h:WL xs i=some v):∃ j,seqIndex? i xs.length=some j∧xs[j]?=some v∧j < xs.length∧-(xs.length:Int)≤i∧i < xs.length:=by
 unfold WL at h
 cases e:WF xs.length i with
 | none=>rw [e] at h;cases h
 | some j =>
   rw [e] at h
   obtain ⟨h1,h2,h3,h4⟩:=VQ e
   exact ⟨j,h1,h,h2,h3,h4⟩
theorem WW {α:Type}{xs:List α}{j:Nat}{v:α}(h:xs[j]?=some v):WL xs (j:Int)=some v:=by
 have hj:j < xs.length:=(List.getElem?_eq_some_iff.mp h).1
 have e:WF xs.length (j:Int)=some j:=by
   unfold WF
   rw [if_pos (by omega),if_pos (by omega)];simp
 unfold WL;rw [e];exact h
def ZdD (b:Expr):Prop:=∀ o i,subscripted b false o i=operate [o,i] (getItem o i)
def IxR (X:Cx)(r:R2):Prop :=
 ∀ (value slice:Expr) (pins:List (Addr×Obj)) (s:Shared) (σ:St) (H:Hp) (x y:V) (v u:Value) (Q:VK),Inv X pins σ H s→RelV x v→RelV y u→r x y H Q →
   subscripted slice false v u=operate [v,u] (getItem v u)→wpAny (model X.prog X.w) X.A (subscriptTail value slice v u) (EP X pins σ Q) X.xe s
def MtR (X:Cx)(id:String)(r:V→List V→Hp→VK→Prop):Prop :=
 ∀ (pins:List (Addr×Obj)) (s:Shared) (σ:St) (H:Hp) (x:V) (xs:List V) (v:Value) (us:List Value) (Q:VK),Inv X pins σ H s→RelV x v→Vals xs us→r x xs H Q →
   wpAny (model X.prog X.w) X.A (call (.builtin id) (v::us)) (EP X pins σ Q) X.xe s
section
variable {X:Cx}{a b:Expr}{ta tb:TE}{pos:Pos}
theorem Yj {r:R2}(hr:IxR X r)(ha:PE X a ta)(hb:PE X b tb)(hs:ZdD b):PE X (.Subscript a b pos) (tOp r ta tb):=by
 intro pins s σ H Q I h
 exact Subscript_ (ZcB ha hb I h fun v u s2 x y H2 I2 rx ry q=>hr a b pins s2 σ H2 x y v u Q I2 rx ry q (hs _ _))
def rIxL (K:PySem.W.Frag):R2:=fun x y H Q=>∃ p xs i v,x=.ref p∧y=.int i∧SqL K H p xs∧WL xs i=some v∧Q v H
theorem ZK:IxR X (rIxL X.K):=by
 intro value slice pins s σ H x y v u Q I rx ry h hs
 obtain ⟨p,xs,i,z,rfl,rfl,hq,he,q⟩:=h
 cases rx
 obtain ⟨t,rfl⟩:=ry
 obtain ⟨its,r,pl,hz⟩:=I.list hq
 obtain ⟨j,h1,h2,h3,h4,h5⟩:=ZdW he
 obtain ⟨w,ew,rw'⟩:=r.get h2
 have hl:=r.length
 have hn:=Ve
 have fin:EP X pins σ Q w s:=⟨z,H,I,rw',q⟩
 by_cases h0:0≤i
 · have hj:i.toNat=j:=by
     rw [seqIndex_of h0 h5] at h1
     exact Option.some.inj h1
   exact item_listR pl.isList h0 (by omega) (by rw [hj];simpa using ew) fin hs
 · have hj:(i+(its.toArray.size:Int)).toNat=j:=by
     rw [seqIndex_neg (by omega) h4] at h1
     rw [List.size_toArray,← hl]
     exact Option.some.inj h1
   exact subscriptTail_builtinR (x:=w) pl.isList.typeIs slot_list_getitem.lookup
     (wpAny_getItem_list_neg (Q:=fun r s'=>r=w∧EP X pins σ Q r s') pl.isList (by omega) (by rw [List.size_toArray]<;>omega) (by omega) (by rw [hj];simpa using ew) ⟨rfl,fin⟩) hs
theorem Zar (its:List Value)(n j:Nat)(u:Value):Obj.mapSeq (·.setIfInBounds j u) { cls:=.type "list",data:=.seq its.toArray n }={ cls:=.type "list",data:=.seq (its.set j u).toArray n }:=by
 simp [Obj.mapSeq]
theorem Inv.lst {pins:List (Addr×Obj)}{σ:St}{H:Hp}{s:Shared}{p:Addr}{xs:List V}(I:Inv X pins σ H s)(h:H p=some (.lst xs)) :
   ∃ (its:List Value) (n:Nat),Vals xs its∧s.heap.get? p=some { cls:=.type "list",data:=.seq its.toArray n }∧xs.length≤sizeLine:=by
 obtain ⟨z,its,n,r,e⟩:=I.hok p _ h
 exact ⟨its,n,r,e,z⟩
theorem Inv.lstUpd {pins:List (Addr×Obj)}{σ:St}{H:Hp}{s:Shared}{p:Addr}{xs ys:List V}{its its':List Value}{n n':Nat}{f:Obj→Obj}(I:Inv X pins σ H s)(h:H p=some (.lst xs))
   (ho:s.heap.get? p=some { cls:=.type "list",data:=.seq its.toArray n }) (hf:f { cls:=.type "list",data:=.seq its.toArray n }={ cls:=.type "list",data:=.seq its'.toArray n' }) (r:Vals ys its') (hz:ys.length≤sizeLine) (t:Nat) :
   Inv X pins σ (upd H p (.lst ys)) { s with heap:=s.heap.update p f,toks:=t }:=by
 have e:(s.heap.update p f).get? p=some { cls:=.type "list",data:=.seq its'.toArray n' }:=by
   rw [Heap.get?_update_self f ho (by rw [hf]<;>rfl),hf]
 refine I.write (x:=p) (e:=p) (by rw [h];trivial) (.inl rfl) (fun b u hb q=>(Heap.get?_update_other _ _ (Ne.symm hb)).trans q) ⟨_,e⟩ ?_
 exact ⟨hz,its',n',r,e⟩
def Zfr:V→V→V→Hp→(Hp→Prop)→Prop:=fun o i v H Q=>∃ p xs k j,o=.ref p∧i=.int k∧H p=some (.lst xs)∧WF xs.length k=some j∧Q (upd H p (.lst (xs.set j v)))
theorem Vh:PSet X Zfr:=by
 intro pins s σ H o i v ov iv u Q I ro ri rv h
 obtain ⟨p,xs,k,j,rfl,rfl,hp,hj,q⟩:=h
 cases ro
 obtain ⟨t,rfl⟩:=ri
 obtain ⟨its,n,r,ho,hz⟩:=I.lst hp
 obtain ⟨h1,h2,h3,h4⟩:=VQ hj
 have hl:=r.length
 have hn:=Ve
 have I':Inv X pins σ (upd H p (.lst (xs.set j v))) { s with heap:=s.heap.update p (Obj.mapSeq (·.setIfInBounds j u)) } :=
   I.lstUpd hp ho (Zar its n j u) (r.set rv j) (by rw [List.length_set];exact hz) s.toks
 by_cases h0:0≤k
 · have hk:k.toNat=j:=by
     rw [seqIndex_of h0 h4] at h1
     exact Option.some.inj h1
   exact PySem.W.ki_setAt ho h0 (by omega) (by rw [List.size_toArray,← hl];exact h4) (by rw [hk];exact ⟨_,I',q⟩)
 · have hk:(k+(its.toArray.size:Int)).toNat=j:=by
     rw [seqIndex_neg (by omega) h3] at h1
     rw [List.size_toArray,← hl]
     exact Option.some.inj h1
   exact PySem.W.ki_setBack ho (by omega) (by rw [List.size_toArray,← hl];exact h3) (by omega) (by rw [hk];exact ⟨_,I',q⟩)
theorem Vj (lo hi:Option Int)(n:Nat):(sliceBounds lo hi none n).1=((HT.sIx n 0 lo:Nat):Int)∧(sliceBounds lo hi none n).2.1=((HT.sIx n n hi:Nat):Int)∧(sliceBounds lo hi none n).2.2=1:=by
 refine ⟨?_,?_,rfl⟩
 · cases lo with
   | none=>simp [sliceBounds,HT.sIx]
   | some i =>
     simp only [sliceBounds,HT.sIx,Option.getD_none,show (1:Int) > 0 by decide,if_true]
     by_cases h:i < 0
     · simp only [h,if_true]<;>omega
     · simp only [h,if_false]<;>omega
 · cases hi with
   | none=>simp [sliceBounds,HT.sIx]
   | some i =>
     simp only [sliceBounds,HT.sIx,Option.getD_none,show (1:Int) > 0 by decide,if_true]
     by_cases h:i < 0
     · simp only [h,if_true]<;>omega
     · simp only [h,if_false]<;>omega
theorem Ux (its:List Value)(lo hi:Option Int):slicePick its.toArray lo hi none=((its.drop (HT.sIx its.length 0 lo)).take (HT.sIx its.length its.length hi - HT.sIx its.length 0 lo)).toArray:=by
 obtain ⟨h1,h2,h3⟩:=Vj lo hi its.toArray.size
 unfold slicePick
 rw [h1,h2,h3]
 simp only [sliceRange_one,pick_run,List.size_toArray]<;>rfl
def rSlL (K:PySem.W.Frag):V→Option Int→Option Int→Hp→VK→Prop:=fun x lo hi H Q=>∃ a xs,x=.ref a∧SqL K H a xs∧∀ p,H p=none→Q (.ref p) (upd H p (.lst (Wm xs lo hi)))
theorem Zdx:SlR X (rSlL X.K):=by
 intro pins s σ H x v vl vu lo hi sl Q I rx hs pl pu h
 obtain ⟨a,xs,rfl,hx,q⟩:=h
 cases rx
 obtain ⟨its,r,ht,hz⟩:=I.list hx
 have hlen:=r.length
 refine ⟨"list",_,slot_list_getitem.lookup,ht.isList.typeIs,?_⟩
 refine wpAny_getItem_list_slice ht.isList hs pl pu .none (by simp) ?_ (by rw [List.size_toArray]<;>omega)
 rw [Ux,← hlen]
 refine ⟨.ref s.heap.objs.size,_,I.laid (t':=s.toks) (o:=.lst (Wm xs lo hi)) (fun b ob q=>Heap.get?_push_of_some _ q) (Nat.le_refl _) ?_,rfl,q _ (I.hok.fresh (Nat.le_refl _))⟩
 exact ⟨Nat.le_trans (VJ xs lo hi) hz,_,0,(r.drop (HT.sIx xs.length 0 lo)).take (HT.sIx xs.length xs.length hi - HT.sIx xs.length 0 lo),Heap.get?_push_size _ rfl⟩
def YH:V→Bool
 | .non=>true
 | .bl _=>true
 | .int _=>true
 | .str _=>true
 | _=>false
def Ui:V→V→Bool
 | .non,.non=>true
 | .bl a,.bl b=>a == b
 | .bl a,.int b=>(if a then 1 else 0) == b
 | .int a,.bl b=>a == (if b then 1 else 0)
 | .int a,.int b=>a == b
 | .str a,.str b=>a == b
 | _,_=>false
theorem ZeA {A:Around}{s:Shared}{y x:V}{u v:Value}(ry:RelV y u)(rx:RelV x v)(fy:YH y=true)(fx:YH x=true):SeqAt.EqAt A s u v (Ui y x):=by
 cases y with
 | non =>
   cases ry
   cases x with
   | non=>cases rx;exact SeqAt.EqAt.same _
   | bl b=>cases rx;exact SeqAt.EqAt.none_bool b
   | int b=>obtain ⟨t,rfl⟩:=rx;exact SeqAt.EqAt.none_int b t
   | str b=>obtain ⟨t,rfl⟩:=rx;exact SeqAt.EqAt.none_str b t
   | _=>exact absurd (show false=true from fx) Bool.false_ne_true
 | bl a =>
   cases ry
   cases x with
   | non=>cases rx;exact SeqAt.EqAt.bool_none a
   | bl b=>cases rx;exact SeqAt.EqAt.bool_bool a b
   | int b=>obtain ⟨t,rfl⟩:=rx;exact SeqAt.EqAt.bool_int a b t
   | str b=>obtain ⟨t,rfl⟩:=rx;exact SeqAt.EqAt.bool_str a b t
   | _=>exact absurd (show false=true from fx) Bool.false_ne_true
 | int a =>
   obtain ⟨t',rfl⟩:=ry
   cases x with
   | non=>cases rx;exact SeqAt.EqAt.int_none a t'
   | bl b=>cases rx;exact SeqAt.EqAt.int_bool a t' b
   | int b=>obtain ⟨t,rfl⟩:=rx;exact SeqAt.EqAt.int_int a t' b t
   | str b=>obtain ⟨t,rfl⟩:=rx;exact SeqAt.EqAt.int_str a t' b t
   | _=>exact absurd (show false=true from fx) Bool.false_ne_true
 | str a =>
   obtain ⟨t',rfl⟩:=ry
   cases x with
   | non=>cases rx;exact SeqAt.EqAt.str_none a t'
   | bl b=>cases rx;exact SeqAt.EqAt.str_bool a t' b
   | int b=>obtain ⟨t,rfl⟩:=rx;exact SeqAt.EqAt.str_int a t' b t
   | str b=>obtain ⟨t,rfl⟩:=rx;exact SeqAt.EqAt.str_str a t' b t
   | _=>exact absurd (show false=true from fx) Bool.false_ne_true
 | _=>exact absurd (show false=true from fy) Bool.false_ne_true
def YN (x:V)(u:Value):Bool:=match u with
 | .none=>Ui .non x
 | .bool b=>Ui (.bl b) x
 | .int i _=>Ui (.int i) x
 | .str z _=>Ui (.str z) x
 | _=>false
theorem Zbe {x y:V}{u:Value}(r:RelV y u)(f:YH y=true):YN x u=Ui y x:=by
 cases y with
 | non=>cases r;rfl
 | bl b=>cases r;rfl
 | int i=>obtain ⟨t,rfl⟩:=r;rfl
 | str z=>obtain ⟨t,rfl⟩:=r;rfl
 | _=>exact absurd (show false=true from f) Bool.false_ne_true
theorem Xk {x:V}:∀{xs:List V}{us:List Value},Vals xs us→xs.all YH=true→us.any (YN x)=xs.any fun y=>Ui y x
 | _,_,.nil,_=>rfl
 | y::xs,u::us,.cons r t,f=>by
   rw [List.all_cons,Bool.and_eq_true] at f
   rw [List.any_cons,List.any_cons,Zbe r f.1,Xk t f.2]
theorem YM {A:Around}{s:Shared}{x:V}{v:Value}(rx:RelV x v)(fx:YH x=true):∀{xs:List V}{us:List Value},Vals xs us→xs.all YH=true→∀ u∈us,SeqAt.EqAt A s u v (YN x u)
 | _,_,.nil,_=>fun u hu=>by cases hu
 | y::xs,u::us,.cons r t,f=>fun u' hu=>by
   rw [List.all_cons,Bool.and_eq_true] at f
   rcases List.mem_cons.mp hu with rfl | hu
   · rw [Zbe r f.1];exact ZeA r rx f.1 fx
   · exact YM rx fx t f.2 u' hu
def inV (x:V)(xs:List V):Bool:=xs.any fun y=>Ui y x
def rIn (K:PySem.W.Frag)(neg:Bool):R2:=fun x y H Q=>∃ p xs,y=.ref p∧(SqL K H p xs∨SqT K H p xs)∧YH x=true∧xs.all YH=true∧Q (.bl (if neg then !inV x xs else inV x xs)) H
theorem Uf:ZX X (compareOp .In) (rIn X.K false):=by
 intro pins s σ H x y v u Q I rx ry h
 obtain ⟨p,xs,rfl,hq,fx,fs,q⟩:=h
 cases ry
 rcases hq with hq | hq
 · obtain ⟨its,r,pl,hz⟩:=I.list hq
   refine SeqAt.in_listAt (YN x) pl.isList (fun w hw=>YM rx fx r fs w (by simpa using hw)) ⟨.bl _,H,I,rfl,?_⟩
   rw [show its.toArray.any (YN x)=its.any (YN x) by simp,Xk r fs]
   exact q
 · obtain ⟨its,r,pl,hz⟩:=I.tuple hq
   refine SeqAt.in_tupleAt (YN x) pl (fun w hw=>YM rx fx r fs w (by simpa using hw)) ⟨.bl _,H,I,rfl,?_⟩
   rw [show its.toArray.any (YN x)=its.any (YN x) by simp,Xk r fs]
   exact q
theorem Vp:ZX X (compareOp .NotIn) (rIn X.K true):=by
 intro pins s σ H x y v u Q I rx ry h
 obtain ⟨p,xs,rfl,hq,fx,fs,q⟩:=h
 cases ry
 rcases hq with hq | hq
 · obtain ⟨its,r,pl,hz⟩:=I.list hq
   refine SeqAt.notIn_listAt (YN x) pl.isList (fun w hw=>YM rx fx r fs w (by simpa using hw)) ⟨.bl _,H,I,rfl,?_⟩
   rw [show its.toArray.any (YN x)=its.any (YN x) by simp,Xk r fs]
   exact q
 · obtain ⟨its,r,pl,hz⟩:=I.tuple hq
   refine SeqAt.notIn_tupleAt (YN x) pl (fun w hw=>YM rx fx r fs w (by simpa using hw)) ⟨.bl _,H,I,rfl,?_⟩
   rw [show its.toArray.any (YN x)=its.any (YN x) by simp,Xk r fs]
   exact q
theorem ZC:Yl X (.builtin "len") (fun xs H Q=>∃ p ys,xs=[.ref p]∧(SqL X.K H p ys∨SqT X.K H p ys)∧Q (.int ys.length) H):=by
 intro pins s σ H xs us Q I r h
 obtain ⟨p,ys,rfl,hq,q⟩:=h
 obtain ⟨u,rfl,rx⟩:=Yt r
 cases rx
 have hn:=Ve
 rcases hq with hq | hq
 · obtain ⟨its,r',pl,hz⟩:=I.list hq
   have hlen:=r'.length
   exact Calls.call_len_list pl.isList (by simp only [List.size_toArray]<;>omega) ⟨.int ys.length,H,I.tok _,⟨s.toks+1,by rw [List.size_toArray,hlen]⟩,q⟩
 · obtain ⟨its,r',pl,hz⟩:=I.tuple hq
   have hlen:=r'.length
   exact len_tuple pl (by simp only [List.size_toArray]<;>omega) ⟨.int ys.length,H,I.tok _,⟨s.toks+1,by rw [List.size_toArray,hlen]⟩,q⟩
theorem Vk:Yl X (.type "list") (fun xs H Q=>∃ p ys,xs=[.ref p]∧(SqL X.K H p ys∨SqT X.K H p ys)∧∀ l,H l=none→Q (.ref l) (upd H l (.lst ys))):=by
 intro pins s σ H xs us Q I r h
 obtain ⟨p,ys,rfl,hq,q⟩:=h
 obtain ⟨u,rfl,rx⟩:=Yt r
 cases rx
 have fin:∀ (its:List Value),Vals ys its→ys.length≤sizeLine→∀ (h':Heap) (c':Nat),(∀ b o',s.heap.get? b=some o'→h'.get? b=some o') →
     h'.get? s.heap.objs.size=some { cls:=.type "list",dict:=none,data:=.seq its.toArray c',slots:=#[] }→EP X pins σ Q (.ref s.heap.objs.size) { s with heap:=h' }:=fun its r' hz h' c' kp e =>
   ⟨.ref s.heap.objs.size,_,I.laid (t':=s.toks) kp (Nat.le_refl _) (show ObjOk X.prog X.w _ h' _ (.lst ys) from ⟨hz,its,c',r',e⟩),rfl,q _ (I.hok.fresh (Nat.le_refl _))⟩
 rcases hq with hq | hq
 · obtain ⟨its,r',pl,hz⟩:=I.list hq
   have hlen:=r'.length
   obtain ⟨o,ho,hc,n,hd⟩:=pl.isList
   exact call_list_seq p (.inl rfl) ho hc hd (fun h' c' kp e=>fin its r' hz h' c' kp e) (by simp only [List.size_toArray]<;>omega)
 · obtain ⟨its,r',pl,hz⟩:=I.tuple hq
   have hlen:=r'.length
   obtain ⟨o,ho,hc,n,hd⟩:=pl
   exact call_list_seq p (.inr rfl) ho hc hd (fun h' c' kp e=>fin its r' hz h' c' kp e) (by simp only [List.size_toArray]<;>omega)
def tyV (K:PySem.W.Frag)(T:String)(x:V)(H:Hp):Prop:=match x with
 | .str _=>T="str"
 | .int _=>T="int"
 | .ref p=>(T="list"∧∃ xs,SqL K H p xs)∨(T="tuple"∧∃ o,K.lookup p=some o∧o.cls=.type "tuple"∧o.dict=none) ∨
     (T="dict"∧((∃ kvs,H p=some (.dK kvs))∨∃ kvs,H p=some (.dT kvs)))∨(T="set"∧∃ S n,H p=some (.set S n))
 | _=>False
theorem ZbS {pins:List (Addr×Obj)}{σ:St}{H:Hp}{s:Shared}{T:String}{x:V}{v:Value}(I:Inv X pins σ H s)(r:RelV x v)(ty:tyV X.K T x H) :
   s.TypeIs v T∧∀ a,v=.ref a→∃ ob,s.heap.get? a=some ob∧ob.dict=none:=by
 cases x with
 | str z =>
   obtain ⟨t,rfl⟩:=r
   cases (show T="str" from ty)
   exact ⟨typeIs_str s z t,fun _ e=>nomatch e⟩
 | int i =>
   obtain ⟨t,rfl⟩:=r
   cases (show T="int" from ty)
   exact ⟨typeIs_int s i t,fun _ e=>nomatch e⟩
 | ref p =>
   cases r
   rcases ty with ⟨rfl,xs,hq⟩ | ⟨rfl,o,hk,hc,hd⟩ | ⟨rfl,hk⟩ | ⟨rfl,S,n,hk⟩
   · obtain ⟨its,_,pl,_⟩:=I.list hq
     refine ⟨pl.isList.typeIs,fun a e=>?_⟩
     cases e
     obtain ⟨o,n,e,c,hd,_⟩:=pl
     exact ⟨o,e,hd⟩
   · refine ⟨⟨o,I.kIn p o hk,hc⟩,fun a e=>?_⟩
     cases e
     exact ⟨o,I.kIn _ o hk,hd⟩
   · have z:∃ o,s.heap.get? p=some o∧o.ExactDict:=by
       rcases hk with ⟨kvs,hk⟩ | ⟨kvs,hk⟩
       · obtain ⟨_,_,_,_,o,_,_,e,ex,_⟩:=I.hok p _ hk
         exact ⟨o,e,ex⟩
       · obtain ⟨_,_,_,_,o,_,_,e,ex,_⟩:=I.hok p _ hk
         exact ⟨o,e,ex⟩
     obtain ⟨o,e,ex⟩:=z
     refine ⟨⟨o,e,ex.1⟩,fun a e2=>?_⟩
     cases e2
     exact ⟨o,e,ex.2.1⟩
   · obtain ⟨o,_,_,_,e,ex,_⟩:=I.hok p _ hk
     refine ⟨⟨o,e,ex.1⟩,fun a e2=>?_⟩
     cases e2
     exact ⟨o,e,ex.2.1⟩
 | _=>exact False.elim ty
def tBM0 (K:PySem.W.Frag)(T:String)(r:V→List V→Hp→VK→Prop)(to:TE):TE:=fun σ H Q=>to σ H fun x H1=>tyV K T x H1∧r x [] H1 Q
def tBM (K:PySem.W.Frag)(T:String)(r:V→List V→Hp→VK→Prop)(to:TE)(t:TA):TE:=fun σ H Q=>to σ H fun x H1=>tyV K T x H1∧t σ H1 fun xs H2=>r x xs H2 Q
variable {o e:Expr}{es:List Expr}{to:TE}{t:TA}{name:Str}{apos cpos:Pos}{T id:String}{r:V→List V→Hp→VK→Prop}
theorem Zbn (pa:PlainAttrs T)(slot:Slot T name id)(hty:typeOf (.builtin id)=pure (.type "method_descriptor"))(hm:MtR X id r)(ho:PE X o to)
   (hbase:attributeBase o name X.env (eval o X.env)=eval o X.env:=by rfl) (hline:(apos.endLine == cpos.line)=true:=by rfl):PE X (.Call (.Attribute o name apos) [] [] cpos) (tBM0 X.K T r to):=by
 intro pins s σ H Q I h
 refine wpAny_Call_method0_late hbase hline (Zo (ho pins s σ H _ I h) fun v s1 ⟨x,H1,I1,r1,ty,q1⟩=>?_)
 obtain ⟨h1,h2⟩:=ZbS I1 r1 ty
 exact ⟨T,id,pa,slot,hty,h1,h2,Calls.callWith_builtin rfl (PySem.evalArgs_none (hm pins s1 σ H1 x [] v [] Q I1 r1 .nil q1))⟩
theorem WG (pa:PlainAttrs T)(slot:Slot T name id)(hty:typeOf (.builtin id)=pure (.type "method_descriptor"))(hm:MtR X id r)(ho:PE X o to)(ha:PA X (e::es) t)
   (hbase:attributeBase o name X.env (eval o X.env)=eval o X.env:=by rfl)
   (hfew:((backTo cpos (starEach (e::es) X.env)).all (fun x=>!x.1)&&(backToKw cpos (keywordEach [] X.env)).all (fun x=>x.1.isSome)
     && decide ((e::es).length+([]:List Keyword).length+(if ([]:List Keyword).isEmpty then 0 else 1) < 30))=true:=by rfl)
   (hline:(apos.endLine == cpos.line)=true:=by rfl) (hs:starEach (e::es) X.env=(false,eval e X.env)::starEach es X.env:=by rfl) (hplain:(backTo cpos (starEach es X.env)).any (·.1)=false:=by rfl) :
   PE X (.Call (.Attribute o name apos) (e::es) [] cpos) (tBM X.K T r to t):=by
 intro pins s σ H Q I h
 refine wpAny_Call_method_late hbase hfew hline rfl (Zo (ho pins s σ H _ I h) fun v s1 ⟨x,H1,I1,r1,ty,q1⟩=>?_)
 obtain ⟨h1,h2⟩:=ZbS I1 r1 ty
 refine ⟨T,id,pa,slot,hty,h1,h2,?_⟩
 have hA:=ha cpos pins s1 σ H1 _ I1 q1
 rw [hs] at hA ⊢
 refine Calls.callWith_builtin (by show (false || (backTo cpos (starEach es X.env)).any (·.1))=false;rw [hplain]<;>rfl) (Calls.evalArgs_plain ?_)
 exact Zo hA fun us s2 ⟨vs,H2,I2,r2,q2⟩=>hm pins s2 σ H2 x vs v us Q I2 r1 r2 q2
end
end L2
namespace L2
open PySem PySem.Spec PyProof.Rows
def MtM (X:Cx)(id:String)(r:V→List V→Hp→VK→Prop):Prop :=
 ∀ (pins:List (Addr×Obj)) (s:Shared) (σ:St) (H:Hp) (x:V) (xs:List V) (v:Value) (us:List Value) (Q:VK),Inv X pins σ H s→RelV x v→Vals xs us→r x xs H Q →
   wpAny (model X.prog X.w) X.A (call (.builtin id) (v::us)) (EP X pins σ Q) X.xe s
theorem Vals.one:∀{x:V}{us:List Value},Vals [x] us→∃ u,us=[u]∧RelV x u
 | _,_,.cons r .nil=>⟨_,rfl,r⟩
theorem Vals.zero:∀{us:List Value},Vals [] us→us=[]
 | _,.nil=>rfl
theorem Vals.dropLast {xs:List V}{us:List Value}(h:Vals xs us):Vals xs.dropLast us.dropLast:=by
 induction h with
 | nil=>exact .nil
 | cons r t ih =>
   cases t with
   | nil=>exact .nil
   | cons q t'=>exact .cons r ih
theorem Vals.reverse {xs:List V}{us:List Value}(h:Vals xs us):Vals xs.reverse us.reverse:=by
 induction h with
 | nil=>exact .nil
 | cons r t ih=>rw [List.reverse_cons,List.reverse_cons];exact Vals.append ih (.cons r .nil)
theorem Vals.rep {xs:List V}{us:List Value}(h:Vals xs us):∀ k:Nat,Vals (List.replicate k xs).flatten (List.replicate k us).flatten
 | 0=>.nil
 | k+1=>by
   rw [List.replicate_succ,List.replicate_succ,List.flatten_cons,List.flatten_cons]
   exact Vals.append h (Vals.rep h k)
theorem ZaC {α:Type}(l:List α):l.eraseIdx (l.length - 1)=l.dropLast:=by
 induction l with
 | nil=>rfl
 | cons a r ih =>
   cases r with
   | nil=>rfl
   | cons b r =>
     have e:(a::b::r).length - 1=((b::r).length - 1)+1:=by
       have h1:(a::b::r).length=r.length+2:=rfl
       have h2:(b::r).length=r.length+1:=rfl
       omega
     rw [e,List.eraseIdx_cons_succ,ih]
     all_goals rfl
theorem Uj (its:List Value):∀(k:Nat)(acc:List Value),
   List.foldl (fun x1 x2=>x1++x2) acc.toArray (List.replicate k its.toArray)=(acc++(List.replicate k its).flatten).toArray
 | 0,acc=>by simp
 | k + 1,acc=>by
   have e:acc.toArray++its.toArray=(acc++its).toArray:=by simp
   have e2:(acc++its)++(List.replicate k its).flatten=acc++(List.replicate (k+1) its).flatten:=by
     rw [List.replicate_succ,List.flatten_cons,List.append_assoc]
   rw [← e2,← Uj its k (acc++its),← e,List.replicate_succ,List.foldl_cons]
section
variable {X:Cx}{pins:List (Addr×Obj)}{σ:St}{H:Hp}{s:Shared}{l b:Addr}{xs ys zs:List V}
theorem Inv.lset {its its':List Value}{n:Nat}{f:Array Value→Array Value}{t':Nat}(I:Inv X pins σ H s)(hH:H l=some (.lst xs))
   (e:s.heap.get? l=some { cls:=.type "list",data:=.seq its.toArray n }) (hf:f its.toArray=its'.toArray) (hv:Vals ys its') (hz:ys.length≤sizeLine) :
   Inv X pins σ (upd H l (.lst ys)) { s with heap:=s.heap.update l (Obj.mapSeq f),toks:=t' }:=by
 have q:=PySem.IsL.update e f
 rw [hf] at q
 refine I.write (x:=l) (e:=l) (by rw [hH];exact trivial) (.inl rfl) (fun b' u hb hu=>(Heap.get?_update_other s.heap (Obj.mapSeq f) (Ne.symm hb)).trans hu) ⟨_,q⟩ ?_
 exact ⟨hz,its',_,hv,q⟩
theorem Inv.lnew {its:List Value}{t':Nat}(I:Inv X pins σ H s)(hv:Vals ys its)(hz:ys.length≤sizeLine) :
   Inv X pins σ (upd H s.heap.objs.size (.lst ys)) { s with heap:=s.heap.push { cls:=.type "list",data:=.seq its.toArray },toks:=t' } :=
 I.laid (fun _ _ q=>Heap.get?_push_of_some _ q) (Nat.le_refl _) ⟨hz,its,0,hv,Heap.get?_push_size _ rfl⟩
theorem Inv.fresh (I:Inv X pins σ H s):H s.heap.objs.size=none:=I.hok.fresh (Nat.le_refl _)
theorem Inv.lstM (I:Inv X pins σ H s)(hH:H l=some (.lst xs)):xs.length≤sizeLine∧∃ (its:List Value) (n:Nat),Vals xs its∧xs.length=its.length∧s.heap.get? l=some { cls:=.type "list",data:=.seq its.toArray n }:=by
 obtain ⟨z,its,n,r,e⟩:=I.hok l _ hH
 exact ⟨z,its,n,r,r.length,e⟩
theorem Zce {n:Nat}(h:n≤sizeLine):Builtin.List.listTooLong n=false:=by
 unfold Builtin.List.listTooLong
 exact decide_eq_false (by omega)
end
section
variable {X:Cx}
def ZdJ:V→List V→Hp→VK→Prop:=fun x vs H Q=>∃ l xs y,x=.ref l∧vs=[y]∧H l=some (.lst xs)∧xs.length < sizeLine∧Q .non (upd H l (.lst (xs++[y])))
theorem Xd:MtM X "list.append" ZdJ:=by
 intro pins s σ H x vs v us Q I rx rv h
 obtain ⟨l,xs,y,rfl,rfl,hH,hz,q⟩:=h
 cases rx
 obtain ⟨u,rfl,ru⟩:=rv.one
 obtain ⟨z,its,n,r,hl,e⟩:=I.lstM hH
 refine call_meets F.slot_list_append ⟨_,e,rfl⟩ F.entry_list_append (F.args_list_append_2 _ _) (PySem.list_append l its.toArray n u (by rw [List.size_toArray];omega)) ⟨e,?_⟩
 refine ⟨.non,_,I.lset (its':=its++[u]) hH e (by simp) (r.append (.cons ru .nil)) ?_,rfl,q⟩
 rw [List.length_append,List.length_singleton]
 omega
def rPop:V→List V→Hp→VK→Prop:=fun x vs H Q=>∃ l xs y,x=.ref l∧vs=[]∧H l=some (.lst xs)∧xs[xs.length - 1]?=some y∧Q y (upd H l (.lst xs.dropLast))
theorem ZeG:MtM X "list.pop" rPop:=by
 intro pins s σ H x vs v us Q I rx rv h
 obtain ⟨l,xs,y,rfl,rfl,hH,hy,q⟩:=h
 cases rx
 have hus:=rv.zero
 subst hus
 obtain ⟨z,its,n,r,hl,e⟩:=I.lstM hH
 obtain ⟨u,hu,ru⟩:=r.get hy
 have hy':its.toArray[its.toArray.size - 1]?=some u:=by
   show its.toArray[its.length - 1]?=some u
   rw [← Array.getElem?_toList,← hl]
   exact hu
 refine call_meets F.slot_list_pop ⟨_,e,rfl⟩ F.entry_list_pop (F.args_list_pop_1 _) (MeetsSeq.list_pop_last l its.toArray n u hy' (by rw [List.size_toArray];omega)) ⟨e,?_⟩
 refine ⟨y,_,I.lset (its':=its.dropLast) hH e ?_ r.dropLast ?_,ru,q⟩
 · show its.toArray.eraseIdxIfInBounds (its.toArray.size - 1)=its.dropLast.toArray
   rw [List.size_toArray,List.eraseIdxIfInBounds_toArray,ZaC]
 · rw [List.length_dropLast]
   omega
def ZbZ:V→List V→Hp→VK→Prop:=fun x vs H Q=>∃ l xs,x=.ref l∧vs=[]∧H l=some (.lst xs)∧Q .non (upd H l (.lst xs.reverse))
theorem ZaR:MtM X "list.reverse" ZbZ:=by
 intro pins s σ H x vs v us Q I rx rv h
 obtain ⟨l,xs,rfl,rfl,hH,q⟩:=h
 cases rx
 have hus:=rv.zero
 subst hus
 obtain ⟨z,its,n,r,hl,e⟩:=I.lstM hH
 refine call_meets F.slot_list_reverse ⟨_,e,rfl⟩ F.entry_list_reverse (F.args_list_reverse_1 _) (AutoSeq1.list_reverse_list_0 l its.toArray n (by rw [List.size_toArray];omega)) ⟨e,?_⟩
 refine ⟨.non,_,I.lset (its':=its.reverse) hH e (by simp) r.reverse ?_,rfl,q⟩
 rw [List.length_reverse]
 omega
def rCat:R2:=fun x y H Q=>∃ l b xs zs,x=.ref l∧y=.ref b∧H l=some (.lst xs)∧H b=some (.lst zs)∧xs.length+zs.length≤sizeLine∧∀ p,H p=none→Q (.ref p) (upd H p (.lst (xs++zs)))
theorem XT:ZX X (binaryOp .Add) rCat:=by
 intro pins s σ H x y v u Q I rx ry h
 obtain ⟨l,b,xs,zs,rfl,rfl,hH,hB,hz,q⟩:=h
 cases rx
 cases ry
 obtain ⟨z,its,n,r,hl,e⟩:=I.lstM hH
 obtain ⟨z2,its2,n2,r2,hl2,e2⟩:=I.lstM hB
 refine PySem.P.add_list e e2 ?_ (by rw [List.size_toArray,List.size_toArray];omega)
 have ea:its.toArray++its2.toArray=(its++its2).toArray:=by simp
 rw [ea]
 exact ⟨.ref _,_,I.lnew (t':=s.toks) (r.append r2) (by rw [List.length_append];omega),rfl,q _ I.fresh⟩
def rRep:R2:=fun x y H Q=>∃ l k xs,x=.ref l∧y=.int k∧H l=some (.lst xs)∧-(2 ^ 63)≤k∧k < 2 ^ 63∧xs.length * k.toNat≤sizeLine ∧
 ∀ p,H p=none→Q (.ref p) (upd H p (.lst (List.replicate k.toNat xs).flatten))
theorem Zef {α:Type}(xs:List α)(k:Nat):(List.replicate k xs).flatten.length=k * xs.length:=by
 induction k with
 | zero=>simp
 | succ k ih=>rw [List.replicate_succ,List.flatten_cons,List.length_append,ih,Nat.succ_mul,Nat.add_comm]
theorem ZbO:ZX X (binaryOp .Mult) rRep:=by
 intro pins s σ H x y v u Q I rx ry h
 obtain ⟨l,k,xs,rfl,rfl,hH,h1,h2,hz,q⟩:=h
 cases rx
 obtain ⟨t,rfl⟩:=ry
 obtain ⟨z,its,n,r,hl,e⟩:=I.lstM hH
 have hlen:its.toArray.size * k.toNat≤sizeLine:=by rw [List.size_toArray,← hl];exact hz
 have hcap:¬ its.toArray.size * k.toNat > (2 ^ 63 - 1) / 8:=by
   have:(sizeLine:Nat)≤(2 ^ 63 - 1) / 8:=by decide
   omega
 have hfit:¬ (!Builtin.List.listFitsIndex k)=true:=by
   rw [fitsIndex_both h1 h2]
   exact Bool.false_ne_true
 have hlong:¬ Builtin.List.listTooLong (its.toArray.size * k.toNat)=true:=by
   rw [Zce hlen]
   exact Bool.false_ne_true
 have hnew:List.foldl (fun x1 x2=>x1++x2) #[] (List.replicate (if its.toArray.isEmpty=true then 0 else k.toNat) its.toArray)=(List.replicate k.toNat its).flatten.toArray:=by
   have f0:∀ m:Nat,List.foldl (fun x1 x2=>x1++x2) #[] (List.replicate m its.toArray)=(List.replicate m its).flatten.toArray:=fun m=>by
     have:=Uj its m []
     rw [List.nil_append] at this
     exact this
   rw [f0]
   cases its with
   | nil=>simp
   | cons a r'=>rw [if_neg (by simp)]
 refine wpAny_binaryOp_repeat_ref (T:="list") (U:="int") (by decide) ⟨_,e,rfl⟩ (fun s'=>typeIs_int s' k t) noFill_list_mul F.fills_int_mul F.slot_int_rmul repeat_list F.slot_int_index.lookup
   (call_meets F.slot_int_rmul (typeIs_int s k t) F.entry_int_rmul (F.args_int_rmul_2 _ _) (int___rmul___int_list k t l its.toArray n)
     ⟨e,rfl,⟨_,e,rfl⟩,call_meets F.slot_list_mul ⟨_,e,rfl⟩ F.entry_list_mul (F.args_list_mul_2 _ _) (AutoListH.list___mul___list_int_3 l its.toArray n k t hfit hcap hlong) ⟨e,?_⟩⟩)
 rw [hnew]
 exact ⟨.ref _,_,I.lnew (t':=s.toks) (r.rep k.toNat) (by rw [Zef,Nat.mul_comm];exact hz),rfl,q _ I.fresh⟩
end
section
variable {prog:Program}{w:World}{A:Around}{E:Value→Shared→Prop}{s:Shared}
end
section
variable {X:Cx}
end
end L2
namespace Att
open PySem PySem.W PySem.Calls PyProof.Rows
theorem WH {P:Params}{h:Heap}:∀(ns:List Int)(vs:List Value),WellAll P h vs (ns.map WData.int)→IntsAre vs ns:=by
 intro ns
 induction ns with
 | nil =>
   intro vs w
   rw [List.map_nil] at w
   cases w
   exact .nil
 | cons n ns ih =>
   intro vs w
   rw [List.map_cons] at w
   cases w with
   | cons a b =>
     cases a
     exact .cons _ _ (ih _ b)
theorem Zbz {l:OpenLaw}{n:Nat}(hn:l.most=some n){P:Params}{h:Heap}{args:List WData}{vals:List Value}
   (hpre:l.row.toRowW.claim.pre args=true) (hwl:WellAll P h vals args) :
   ∃ a vs ns,vals=[Value.ref a]∧args=[WData.list (ns.map WData.int)]∧h.get? a=some { cls:=.type "list",data:=.seq vs.toArray }∧IntsAre vs ns∧ns.length≤n:=by
 have hsh:WShape.hasAll [] args [.list .int]=true:=(pre_splitW hpre).1
 have hc:l.pre.holds [] { args:=args }=true:=(pre_splitW hpre).2
 obtain ⟨d,r,rfl,h1,h2⟩:=hasAllW_cons hsh
 obtain rfl:=hasAllW_nil h2
 obtain ⟨xs,rfl,h3⟩:=hasW_list h1
 obtain ⟨ns,rfl⟩:=items_int h3
 have hlen:ns.length≤n:=by
   unfold OpenLaw.pre at hc
   have h4:(WTm.not (.lt (.lit (.int (n:Int))) (.len (.arg 0)))).holds [] { args:=[.list (ns.map .int)] }=true:=by
     have h4:=(holds_andW hc).1
     rw [hn] at h4
     exact h4
   have h5:=condW_of h4 (w_not (w_lt w_lit (w_len_list (w_arg rfl))))
   rw [List.length_map] at h5
   refine Nat.le_of_not_lt fun q=>?_
   have q':(n:Int) < ((ns.length:Nat):Int):=by omega
   first
     | (rw [decide_eq_true q'] at h5;exact absurd h5 (by decide))
     | (simp at h5;omega)
 cases hwl with
 | cons w1 w2 =>
   cases w2
   cases w1 with
   | list ho hall=>exact ⟨_,_,ns,rfl,rfl,ho,WH ns _ hall,hlen⟩
theorem ZbW (l:OpenLaw)(args:List WData):l.row.toRowW.claim.post args (.bool true) args=true :=
 postW_of (r:=l.row.toRowW) (X:=(true == true))
   (show WShape.has [] (.bool true) .bool=true by first | rfl | decide | simp [WShape.has,WShape.arms,WShape.armsAll])
   (show (WTm.eq .res (.lit (.bool true))).value [] { args:=args,res:=some (.bool true),after:=args }=some (.bool (true == true)) from w_eq_bool (w_res rfl) w_lit) rfl
theorem attach_call {l:OpenLaw}{n:Nat}{q:Program}{loose:List Str}{XP:(Str→Option Value)→Heap→Prop}{YP:World→Heap→Prop}{d:DefRec}
   (hn:l.most=some n) (hdf:d.params.defaults=[])
   (call:∀ (w:World) (s₀ s₁:Shared) (mg mb:Str→Option Value) (fa:Addr) (o:Obj) (pm cd doc:Value) (a:Addr) (vs:List Value) (ns:List Int),
     Ground q loose [] XP w s₀ mg mb s₁.heap→YP w s₁.heap →
     s₁.heap.get? fa=some o→o.data=.func (docDef d.name d.params d.body d.scope pm cd doc)→s₁.heap.CodeRec cd d.name→mg d.name=some (.ref fa) →
     s₁.heap.get? a=some { cls:=.type "list",data:=.seq vs.toArray }→IntsAre vs ns→ns.length≤n→s₁.gens=#[] →
     codeAny (model l.prog w) callerA (.call (.ref fa) ⟨[.ref a],[]⟩) (fun r s'=>r=.ok (.ret (.bool true))∧OldK s₁.heap s'.heap∧s'.os=s₁.os∧AllBare s'.gens) s₁) :
   WalkO q loose XP YP l.row.toRowW d [] (fun f vs=>PySem.call f vs):=by
 intro w s₀ s₁ mg mb G Y fa o pm cd doc dV kV ho hd hcd hD hmg hg args vals as hpre hlay hrd hwl hlo
 obtain rfl:dV=.none:=Dflts.none hD hdf
 obtain rfl:kV=.none:=Dflts.noKw hD
 obtain ⟨a,vs,ns,rfl,rfl,hobj,hints,hlen⟩:=Zbz hn hpre hwl
 refine enter_call (codeAny_mono (call w s₀ s₁ mg mb fa o pm cd doc a vs ns G Y ho (fd_plain hd) hcd hmg hobj hints hlen hg) fun r s' hq=>?_)
 obtain ⟨rfl,h2,h3,h4⟩:=hq
 exact ⟨.inl ⟨.bool true,.bool true,[],rfl,fun _=>rfl,.bool true,ZbW l _,fun _=>⟨List.Pairwise.nil,fun _ hm=>(nomatch hm)⟩⟩,h2,h3,h4⟩
section
variable {prog:Program}{w:World}{A:Around}{E:Value→Shared→Prop}{s:Shared}{K:Frag}
end
end Att
namespace L2
open PySem PySem.Spec PyProof.Rows
theorem Ur:∀{vs:List Value}{ns:List Int},IntsAre vs ns→Vals (ns.map V.int) vs
 | _,_,.nil=>.nil
 | _,_,.cons n t h=>.cons ⟨t,rfl⟩ (Ur h)
end L2
namespace L2
open PySem PySem.Spec PyProof.Rows
end L2
namespace L2
open PySem PySem.Spec PyProof.Rows
def ZH (s:Stmt)(j:Nat):Stmt:=match s with
 | .ClassDef _ _ _ body _ _ _ _ _ _ _=>body.getD j (.Pass ⟨0,0,0,0⟩)
 | _=>.Pass ⟨0,0,0,0⟩
def Wd (s:Stmt):Arguments:=match s with
 | .FunctionDef _ a _ _ _ _ _ _ _ _=>a
 | _=>{ posonlyargs:=[],args:=[],vararg:=none,kwonlyargs:=[],kw_defaults:=[],kwarg:=none,defaults:=[] }
def Yy (s:Stmt):List Stmt:=match s with
 | .FunctionDef _ _ b _ _ _ _ _ _ _=>b
 | _=>[]
def Zi (s:Stmt):Scope:=match s with
 | .FunctionDef _ _ _ _ _ _ sc _ _ _=>sc
 | _=>{ kind:=.function,names:=[],isGenerator:=false,isCoroutine:=false }
abbrev ZG:Xc:=fun _ _ _ _ _ _=>False
abbrev E0:XK:=fun _ _ _=>False
theorem UE {X:Cx}:YS ZG X E0:=fun _ _ _ _ _ _ _ h=>h.elim
structure Fun (K:PySem.W.Frag)(x qual:Str)(st:Stmt)(f:Addr)(fd:FuncData):Prop where
 ex:∃ (oc:Value) (od:Option Addr) (kV doc pm:Value) (an:Option Addr) (cdv ct:Value) (osl:Array (Option Value)),
   fd=PySem.W.fnOf x qual (Wd st) (Yy st) (Zi st) .none kV doc pm an cdv ct∧K.lookup f=some ⟨oc,od,.func fd,osl⟩∧PySem.W.codeIn K cdv qual=true
 kp:PySem.W.keepIn K (.ref f)=true
section
variable {P:Program}{w:World}{K:PySem.W.Frag}{mg:Str→Option Value}{base:Heap}
theorem Fun.ok {x qual:Str}{st:Stmt}{f:Addr}{fd:FuncData}{N ps:List Str}{k:Nat}{sp:Sp}(F:Fun K x qual st f fd)(S:Zu N ps (Zi st))(len:∀ vs H Q E,sp vs H Q E→vs.length=ps.length)
   (hbody:∀ (cdv:Value) (A:Around) (outer:List Env) (s:Shared) (H:Hp) (vs:List V) (Q:VK) (E:XK),Room k (A.deeper (envOfC qual (Zi st) s.heap.objs.size f cdv))→sp vs H Q E →
     ∃ t,PSs (Xf ZG P w K mg base N qual (Zi st) f cdv A outer s H E).nox (Yy st) t∧t { nx:=fun _ H'=>Q .non H',rt:=Q } (YA N vs) H):FnOk P w K mg base ZG (k+1) f fd ps sp:=by
 obtain ⟨oc,od,kV,doc,pm,an,cdv,ct,osl,rfl,lk,hcd⟩:=F.ex
 refine Zav lk hcd S len fun A outer s H vs Q E hr hsp=>?_
 obtain ⟨t,h,q⟩:=hbody cdv A outer s H vs Q E hr hsp
 exact ⟨t,h.nox,q⟩
theorem Fun.binds {x qual:Str}{st:Stmt}{f:Addr}{fd:FuncData}{ps:List Str}(F:Fun K x qual st f fd)
   (h:∀ (kV doc pm:Value) (an:Option Addr) (cdv ct:Value) (us:List Value),us.length=ps.length→bindArgs (PySem.W.fnOf x qual (Wd st) (Yy st) (Zi st) .none kV doc pm an cdv ct) ⟨us,[]⟩=pure (ps.zip us)):Binds K fd ps []:=by
 obtain ⟨oc,od,kV,doc,pm,an,cdv,ct,osl,rfl,lk,hcd⟩:=F.ex
 exact .all (h kV doc pm an cdv ct)
end
section
variable {X:Cx}
theorem pv (i:Nat){x:Str}{pos:Pos}(hN:X.N[i]?=some x:=by rfl)(hv:Vis X.env.scope x:=by first | exact Or.inl rfl | exact Or.inr (Or.inl rfl) | exact Or.inr (Or.inr rfl))(hd:(x == ("__debug__":Str))=false:=by decide)
 (hcd:(x == ("__classdict__":Str))=false:=by decide):PE X (.Name x pos) (tVar i):=ZbP hN hv hd hcd
end
theorem YG {A B:Prop}(h:B):if false=true then A else B:=by
 rw [if_neg Bool.false_ne_true]
 exact h
theorem ZaE {A B:Prop}(h:A):if true=true then A else B:=by
 rw [if_pos rfl]
 exact h
theorem WT {c A B:Prop}[Decidable c](h1:c→A)(h2:¬ c→B):if c then A else B:=by
 by_cases h:c
 · rw [if_pos h]
   exact h1 h
 · rw [if_neg h]
   exact h2 h
def Same (H H':Hp):Prop:=∀ b o,H b=some o→H' b=some o
theorem Same.trans {H H1 H2:Hp}(a:Same H H1)(b:Same H1 H2):Same H H2:=fun c o h=>b c o (a c o h)
end L2
namespace L2
open PySem PySem.Spec PyProof.Rows
section
variable {κ:Type}[DecidableEq κ]
def XB (kvs:List (κ×V))(k:κ)(v:V):List (κ×V) :=
 if (kvs.any fun kv=>decide (kv.1=k))=true then kvs.map (fun kv=>if kv.1=k then (kv.1,v) else kv) else kvs++[(k,v)]
theorem VG (kvs:List (κ×V))(k:κ)(v:V):(XB kvs k v).length≤kvs.length+1:=by
 unfold XB
 split
 · rw [List.length_map];omega
 · rw [List.length_append,List.length_cons,List.length_nil];omega
theorem KV.any {kvs:List (κ×V)}{vs:List (κ×Value)}(r:KV kvs vs)(k:κ):(kvs.any fun kv=>decide (kv.1=k))=vs.any fun kv=>decide (kv.1=k):=by
 unfold KV at r
 induction r with
 | nil=>rfl
 | cons h t ih=>rw [List.any_cons,List.any_cons,ih,h.1]
theorem KV.repl {kvs:List (κ×V)}{vs:List (κ×Value)}(r:KV kvs vs)(k:κ){y:V}{u:Value}(ry:RelV y u) :
   KV (kvs.map fun kv=>if kv.1=k then (kv.1,y) else kv) (vs.map fun kv=>if kv.1=k then (kv.1,u) else kv):=by
 unfold KV at r ⊢
 induction r with
 | nil=>exact .nil
 | @cons p q ps qs h t ih =>
   rw [List.map_cons,List.map_cons]
   refine .cons ?_ ih
   obtain ⟨h1,h2⟩:=h
   by_cases e:p.1=k
   · rw [if_pos e,if_pos (h1.symm.trans e)];exact ⟨h1,ry⟩
   · rw [if_neg e,if_neg (fun z=>e (h1.trans z))];exact ⟨h1,h2⟩
theorem KV.put {kvs:List (κ×V)}{vs:List (κ×Value)}(r:KV kvs vs)(k:κ){y:V}{u:Value}(ry:RelV y u):KV (XB kvs k y) (stored vs k u):=by
 unfold XB stored
 rw [r.any k]
 by_cases e:(vs.any fun kv=>decide (kv.1=k))=true
 · rw [if_pos e,if_pos e];exact r.repl k ry
 · rw [if_neg e,if_neg e];exact Paired.snoc r ⟨rfl,ry⟩
end
theorem ZfF {P:Program}{w:World}{k:Zw}{u:Value}(r:RelV (kV k) u):(Yb P w).is k u=true:=by
 cases k with
 | inl i=>obtain ⟨t,e⟩:=(show ∃ t,u=Value.int i t from r);subst e;exact VI P w i t
 | inr x=>obtain ⟨t,e⟩:=(show ∃ t,u=Value.str x t from r);subst e;exact VP P w x t
section
variable {P:Program}{w:World}{H:Hp}{h:Heap}{a:Addr}
theorem Zfx {u:HO}(ok:HOk P w H h)(e:Rd H a u):ObjOk P w H h a u:=e.ok ok
theorem Zgb {kvs:List (Zw×V)}(ok:HOk P w H h)(e:Rd H a (.dK kvs)):kvs.length≤sizeLine∧(a == sysModules)=false∧∃ vs,KV kvs vs∧h.DictOf (Yb P w) a vs :=
 show ObjOk P w H h a (.dK kvs) from Zfx ok e
theorem ZfE {kvs:List (Zw×V)}(ok:HOk P w H h)(e:H a=some (.dK kvs)):kvs.length≤sizeLine∧(a == sysModules)=false∧∃ vs,KV kvs vs∧h.DictOf (Yb P w) a vs:=Zgb ok (.inl e)
end
section
variable {X:Cx}{pins:List (Addr×Obj)}{σ:St}{H:Hp}{s:Shared}{a:Addr}{y v:V}{u r:Value}{o:Option V}{A:Around}{E:Value→Shared→Prop}
theorem Inv.big (I:Inv X pins σ H s):sysModules < s.heap.objs.size:=by
 have h:mainGlobals < s.heap.objs.size:=(I.mod.glob.keeps I.bk).lt
 exact Nat.lt_trans (by decide) h
theorem ZdX {h':Heap}{t':Nat}{ob:HO}(I:Inv X pins σ H s)(mu:Mut (H a))(hs:Heap.SameBut a s.heap h')(he:∃ q,h'.get? a=some q)(new:ObjOk X.prog X.w (upd H a ob) h' a ob) :
   Inv X pins σ (upd H a ob) { s with heap:=h',toks:=t' } :=
 I.write (x:=a) (e:=a) mu (.inl rfl) (fun b q hb z=>(hs.2 b hb).trans z) he new
theorem ZeH {P:Program}{w:World}{H':Hp}{h':Heap}{kvs:List (Zw×V)}{vs:List (Zw×Value)}(z:kvs.length≤sizeLine)(hd:(a == sysModules)=false)(rel:KV kvs vs)(dd:h'.DictOf (Yb P w) a vs) :
 ObjOk P w H' h' a (.dK kvs):=⟨z,hd,vs,rel,dd⟩
end
section
variable {X:Cx}{pins:List (Addr×Obj)}{σ:St}{H:Hp}{s:Shared}{a:Addr}{kvs:List (Zw×V)}{k:Zw}{u:Value}{A:Around}{E:Value→Shared→Prop}
end
section
variable {X:Cx}{o i e value:Expr}{pos pos' tpos:Pos}{td ty tv:TE}
end
theorem UU {P:Program}{w:World}{H:Hp}(h:Heap)(hb:sysModules < h.objs.size):ObjOk P w H (h.push { cls:=.type "dict",data:=.dict #[] }) h.objs.size (.dK []) :=
 ⟨Nat.zero_le _,beq_eq_false_iff_ne.mpr (Ne.symm (Nat.ne_of_lt hb)),[],.nil,Heap.DictOf.new h⟩
def Zfg:TE:=fun _ H Q=>∀ p,H p=none→Q (.ref p) (upd H p (.dK []))
section
variable {X:Cx}{pos:Pos}
theorem Zca:PE X (.Dict [] [] pos) Zfg:=fun pins s σ H Q I h =>
 wpAny_Dict_empty ⟨.ref s.heap.objs.size,_,I.laid (a:=s.heap.objs.size) (o:=.dK []) (t':=s.toks) (fun _ _ q=>Heap.get?_push_of_some _ q) (Nat.le_refl _) (UU s.heap I.big),rfl,h _ (I.hok.fresh (Nat.le_refl _))⟩
end
def US:List (TE×TE)→St→Hp→(List (V×V)→Hp→Prop)→Prop
 | [],_,H,Q=>Q [] H
 | (tk,tv)::r,σ,H,Q=>tk σ H fun x H1=>tv σ H1 fun y H2=>US r σ H2 fun ps H3=>Q ((x,y)::ps) H3
abbrev VV:List (V×V)→List (Value×Value)→Prop:=Paired fun p q=>RelV p.1 q.1∧RelV p.2 q.2
def PPs (X:Cx)(pos:Pos)(keys:List (Option Expr))(values:List Expr)(trs:List (TE×TE)):Prop :=
 ∀ (pins:List (Addr×Obj)) (s:Shared) (σ:St) (H:Hp) (Q:List (V×V)→Hp→Prop),Inv X pins σ H s→US trs σ H Q →
   wpAny (model X.prog X.w) X.A (evalPairs (pairTrees keys values X.env pos)) (fun vs s'=>∃ ps H',Inv X pins σ H' s'∧VV ps vs∧Q ps H') X.xe s
theorem ZdK {X:Cx}{pos:Pos}:PPs X pos [] [] []:=fun pins s σ H Q I h=>pairTrees_nil_walk ⟨[],H,I,.nil,h⟩
theorem Zcc {X:Cx}{pos:Pos}{k v:Expr}{ks:List (Option Expr)}{vs:List Expr}{tk tv:TE}{trs:List (TE×TE)}(hk:PE X k tk)(hv:PE X v tv)(hr:PPs X pos ks vs trs) :
   PPs X pos (some k::ks) (v::vs) ((tk,tv)::trs):=fun pins s σ H Q I h =>
 pairTrees_cons_walk (Zo (hk pins s σ H _ I h) fun u s1 ⟨x,H1,I1,rx,q1⟩=>Zo (hv pins s1 σ H1 _ I1 q1) fun w2 s2 ⟨y,H2,I2,ry,q2⟩ =>
   Zo (hr pins s2 σ H2 _ I2 q2) fun ws s3 ⟨ps,H3,I3,rel,q3⟩=>⟨(x,y)::ps,H3,I3,.cons ⟨rx,ry⟩ rel,q3⟩)
def XU (kvs more:List (Zw×V)):List (Zw×V):=more.foldl (fun acc kv=>XB acc kv.1 kv.2) kvs
theorem KV.merge:∀{more:List (Zw×V)}{rs:List (Zw×Value)}{kvs:List (Zw×V)}{vs:List (Zw×Value)},KV more rs→KV kvs vs→KV (XU kvs more) (merged vs rs):=by
 intro more rs kvs vs r
 unfold KV at r
 induction r generalizing kvs vs with
 | nil=>intro q;exact q
 | @cons p q ps qs h t ih =>
   intro r0
   have e:KV (XB kvs p.1 p.2) (stored vs q.1 q.2):=by
     have:=r0.put p.1 h.2
     rw [← h.1];exact this
   exact ih e
theorem Xy:∀(more kvs:List (Zw×V)),(XU kvs more).length≤kvs.length+more.length
 | [],kvs=>by show kvs.length≤kvs.length+0;omega
 | p::r,kvs=>by
   have h1:=Xy r (XB kvs p.1 p.2)
   have h2:=VG kvs p.1 p.2
   show (XU (XB kvs p.1 p.2) r).length≤_
   rw [List.length_cons];omega
theorem Wy {P:Program}{w:World}:∀{kvs:List (Zw×V)}{ws:List (Value×Value)},VV (kvs.map fun kv=>(kV kv.1,kv.2)) ws→∃ rs,Carries (Yb P w) ws rs∧KV kvs rs
 | [],_,r=>by rw [List.map_nil] at r;cases r;exact ⟨[],True.intro,.nil⟩
 | p :: kvs,_,r=>by
   rw [List.map_cons] at r
   cases r with
   | @cons a b as bs h t =>
     obtain ⟨rs,c,q⟩:=Wy (P:=P) (w:=w) t
     obtain ⟨b1,b2⟩:=b
     exact ⟨(p.1,b2)::rs,⟨ZfF h.1,rfl,c⟩,.cons ⟨rfl,h.2⟩ q⟩
def ZfZ (trs:List (TE×TE)):TE:=fun σ H Q=>∀ p,H p=none→US trs σ (upd H p (.dK [])) fun ps H2=>H2 p=some (.dK [])∧∃ kvs:List (Zw×V),ps=kvs.map (fun kv=>(kV kv.1,kv.2))∧kvs.length≤15∧Q (.ref p) (upd H2 p (.dK (XU [] kvs)))
theorem ZdP {X:Cx}{pos:Pos}{keys:List (Option Expr)}{values:List Expr}{trs:List (TE×TE)}(h:PPs X pos keys values trs)(hall:keys.all (·.isSome)=true)(hl:keys.length=values.length)(h0:keys≠[])
   (h15:keys.length≤15):PE X (.Dict keys values pos) (ZfZ trs):=by
 intro pins s σ H Q I q
 have hn:=I.hok.fresh (Nat.le_refl s.heap.objs.size)
 have I1:=I.laid (a:=s.heap.objs.size) (o:=.dK []) (h':=s.heap.push { cls:=.type "dict",data:=.dict #[] }) (t':=s.toks) (fun _ _ q=>Heap.get?_push_of_some _ q) (Nat.le_refl _) (UU s.heap I.big)
 refine wpAny_Dict_walk (knd:=Yb X.prog X.w) hall hl h0 h15 (Zo (h pins _ σ _ _ I1 (q _ hn)) fun ws s2 ⟨ps,H2,I2,rel,e,kvs,ep,lk,q2⟩=>?_)
 subst ep
 obtain ⟨rs,c,rk⟩:=Wy (P:=X.prog) (w:=X.w) rel
 obtain ⟨z,hd,vs0,r0,dd⟩:=ZfE I2.hok e
 cases r0
 refine ⟨rs,c,dd,fun h' dd' hs=>⟨.ref s.heap.objs.size,_,?_,rfl,q2⟩⟩
 have hz:(XU [] kvs).length≤sizeLine:=by
   have h1:=Xy kvs []
   rw [List.length_nil] at h1
   rw [sizeLine_eq];omega
 have he:∃ q,h'.get? s.heap.objs.size=some q:=let ⟨q,_,_,hq,_⟩:=dd';⟨q,hq⟩
 exact ZdX I2 (by rw [e];exact True.intro) hs he (ZeH hz hd (rk.merge .nil) dd')
section
variable {X:Cx}{pins:List (Addr×Obj)}{σ:St}{H:Hp}{s:Shared}{a:Addr}{y d:V}{u r:Value}{o:Option V}{A:Around}{E:Value→Shared→Prop}
end
section
variable {X:Cx}{o e f:Expr}{apos cpos:Pos}{td ty tx:TE}
end
section
variable {X:Cx}{pins:List (Addr×Obj)}{σ:St}{H:Hp}{s:Shared}{a:Addr}{kvs:List (Zw×V)}{A:Around}{E:Value→Shared→Prop}
end
section
variable {X:Cx}{pins:List (Addr×Obj)}{σ:St}{H:Hp}{s:Shared}{a:Addr}{y:V}{u:Value}{A:Around}{E:Value→Shared→Prop}
end
end L2
namespace L2
open PySem PySem.Spec PyProof.Rows
section
variable {κ:Type}[DecidableEq κ]
end
end L2
namespace L2
open PySem PySem.Spec PyProof.Rows
theorem XM {env:Env}(y:Str):∀ names:List (Str×NameKind),
   (names.map fun (n,k)=>if (k == NameKind.free&&env.scope.kind == .function&&env.kindOf n == some .cell) then (n,NameKind.cell) else (n,k)).lookup y =
     (names.lookup y).map fun k=>if (k == NameKind.free&&env.scope.kind == .function&&env.kindOf y == some .cell) then NameKind.cell else k
 | []=>rfl
 | (n, k)::r=>by
   have ih:=XM (env:=env) y r
   rw [List.map_cons]
   cases hx:y == n with
   | true =>
     have e:y=n:=by simpa using hx
     subst e
     by_cases hc:(k == NameKind.free&&env.scope.kind == .function&&env.kindOf y == some .cell)=true
     · simp only [hc,if_true,List.lookup_cons,beq_self_eq_true,Option.map_some]
     · simp only [hc,List.lookup_cons,beq_self_eq_true,Option.map_some]
       simp [hc]
   | false =>
     by_cases hc:(k == NameKind.free&&env.scope.kind == .function&&env.kindOf n == some .cell)=true
     · simp only [hc,if_true,List.lookup_cons,hx];exact ih
     · simp only [hc,List.lookup_cons,hx,Bool.false_eq_true,if_false];exact ih
theorem ZI {scope:Scope}{env:Env}{y:Str}{k:NameKind}(hcell:∀ z∈scope.names,z.2≠.cell)(h:(relabel scope env).names.lookup y=some k) :
   scope.names.lookup y=some k∨(scope.names.lookup y=some .free∧k=.cell):=by
 unfold relabel at h
 rw [XM] at h
 cases e:scope.names.lookup y with
 | none=>rw [e] at h;cases h
 | some k0 =>
   rw [e] at h
   simp only [Option.map_some,Option.some.injEq] at h
   by_cases hc:(k0 == NameKind.free&&env.scope.kind == .function&&env.kindOf y == some .cell)=true
   · rw [if_pos hc] at h
     right
     simp only [Bool.and_eq_true,beq_iff_eq] at hc
     exact ⟨by rw [hc.1.1],h.symm⟩
   · rw [if_neg hc] at h
     left;rw [h]
theorem mem_of_lookup {α:Type}{y:Str}{k:α}:∀{l:List (Str×α)},l.lookup y=some k→(y,k)∈l
 | [],h=>by cases h
 | (n,z)::r,h=>by
   cases hx:y == n with
   | true =>
     have e:y=n:=by simpa using hx
     subst e
     simp only [List.lookup_cons,beq_self_eq_true] at h
     cases h
     exact List.mem_cons_self
   | false =>
     simp only [List.lookup_cons,hx] at h
     exact List.mem_cons_of_mem _ (mem_of_lookup h)
theorem Xv {env:Env}:∀(names:List (Str×NameKind))(c0:List (Str×Addr)),(∀ y∈names,y.2=.free→∃ c,env.cells.lookup y.1=some c) →
   ∃ cl:List (Str×Addr),(forIn names c0 fun (x:Str×NameKind) (r:List (Str×Addr))=>(if x.2 == NameKind.free then (do let a ← cellOf env x.1;pure (ForInStep.yield ((x.1,a)::r))) else pure (ForInStep.yield r):Sem (ForInStep (List (Str×Addr)))))=pure cl ∧
     (∀ y c,cl.lookup y=some c→c0.lookup y=some c∨env.cells.lookup y=some c)∧(∀ y,c0.lookup y≠none→cl.lookup y≠none)∧∀ y∈names,y.2=.free→cl.lookup y.1≠none
 | [],c0,_=>⟨c0,rfl,fun _ _ h=>.inl h,fun _ h=>h,fun _ h=>(nomatch h)⟩
 | (n, k)::r,c0,h=>by
   by_cases hk:k=.free
   · subst hk
     obtain ⟨c,hc⟩:=h (n,.free) List.mem_cons_self rfl
     obtain ⟨cl,e,g1,g2,g3⟩:=Xv r ((n,c)::c0) fun y hy=>h y (List.mem_cons_of_mem _ hy)
     refine ⟨cl,?_,?_,?_,?_⟩
     · rw [List.forIn_cons]
       have hcell:cellOf env n=pure c:=by unfold cellOf;rw [hc]
       simp only [beq_self_eq_true,if_true,hcell,pure_bind]
       exact e
     · intro y d q
       rcases g1 y d q with q | q
       · cases hx:y == n with
         | true =>
           have e':y=n:=by simpa using hx
           subst e'
           simp only [List.lookup_cons,beq_self_eq_true] at q
           cases q
           exact .inr hc
         | false=>simp only [List.lookup_cons,hx] at q;exact .inl q
       · exact .inr q
     · intro y q
       apply g2
       cases hx:y == n with
       | true=>simp [List.lookup_cons,hx]
       | false=>simpa [List.lookup_cons,hx] using q
     · intro y hy hf
       rcases List.mem_cons.mp hy with e' | hy
       · subst e'
         apply g2
         simp [List.lookup_cons]
       · exact g3 y hy hf
   · obtain ⟨cl,e,g1,g2,g3⟩:=Xv r c0 fun y hy=>h y (List.mem_cons_of_mem _ hy)
     refine ⟨cl,?_,g1,g2,?_⟩
     · rw [List.forIn_cons]
       have hb:(k == NameKind.free)=false:=by simpa using hk
       simp only [hb,Bool.false_eq_true,if_false,pure_bind]
       exact e
     · intro y hy hf
       rcases List.mem_cons.mp hy with e' | hy
       · subst e';exact absurd hf hk
       · exact g3 y hy hf
theorem WC {scope:Scope}{env:Env}(h:∀ y∈scope.names,y.2=.free→∃ c,env.cells.lookup y.1=some c) :
   ∃ cl,closureFor scope env=pure cl∧(∀ y c,cl.lookup y=some c→env.cells.lookup y=some c)∧∀ y∈scope.names,y.2=.free→cl.lookup y.1≠none:=by
 obtain ⟨cl,e,g1,_,g3⟩:=Xv (env:=env) scope.names [] h
 refine ⟨cl,?_,fun y c q=>(g1 y c q).elim (fun z=>by cases z) fun z=>z,g3⟩
 simp only [closureFor]
 rw [← bind_pure (pure cl:Sem _),← e]
def XH (N:List Str)(x:Str):List Str:=N.map fun y=>if y=x then "" else y
theorem WO (N:List Str)(x:Str):(XH N x).length=N.length:=List.length_map ..
theorem ZdL {N:List Str}{x y:Str}{i:Nat}(h:(XH N x)[i]?=some y):(N[i]?=some y∧y≠x)∨y="":=by
 unfold XH at h
 rw [List.getElem?_map] at h
 cases e:N[i]? with
 | none=>rw [e] at h;cases h
 | some z =>
   rw [e] at h
   have h:(if z=x then ("":Str) else z)=y:=Option.some.inj h
   by_cases q:z=x
   · rw [if_pos q] at h;exact .inr h.symm
   · rw [if_neg q] at h;subst h;exact .inl ⟨rfl,q⟩
def Ye (X:Cx)(scope:Scope)(x:Str)(cl:List (Str×Addr))(C:Addr)(s₀:Shared)(H₀:Hp)(fp:List Addr):Cx :=
 { prog:=X.prog,w:=X.w,K:=X.K,mg:=X.mg,base:=X.base,A:=X.A,N:=XH X.N x++[x],s₀:=s₀,H₀:=H₀,env:=compEnvC scope cl C X.env,outer:=X.stack,stack:=X.stack,
   ex:=fp,fn:=fun _=>false,calm:=X.calm,pn:=[],xe:=fun _ _=>False }
def Zau (J:It)(te:TE)(σ:St)(D:Addr)(Q:VK)(H1:Hp):Prop :=
 ∃ W:Nat→Nat→List V→Hp→Prop,(∃ m,W 0 m [] (upd H1 D (.lst [])))∧∀ i m ys H2,W i m ys H2 →
   (J.stop i H2∧Q (.ref D) H2)∨(J.go i H2∧∃ N:VK,(∀ y H4,N y H4→H4 D=some (.lst ys)∧ys.length < sizeLine∧∃ m',m' < m∧W (i+1) m' (ys++[y]) (upd H4 D (.lst (ys++[y]))))∧∀ v H3,J.yld i H2 v H3→te (σ++[some v]) H3 N)
def ZfU (wi:TI)(te:TE):TE:=fun σ H Q=>wi σ H fun J H1=>∀ D,H1 D=none→Zau J te σ D Q H1
section
variable {X:Cx}{elt iter:Expr}{x:Str}{px pos:Pos}{scope:Scope}{wi:TI}{te:TE}
theorem Xz {prog:Program}{w:World}{A:Around}{R:Result→Shared→Prop}{s:Shared}{elt target iter:Expr}{scope:Scope}{pos:Pos}{it acc:Value}{env:Env}(I:Nat→Shared→Prop)
   (turn : ∀ n s,I n s→wpAny (model prog w) A (pyNext it) (fun r s₁=>match r with
     | none=>R (.ok .next) s₁
     | some v=>wpAny (model prog w) A (letOwnedTupleGo target it v) (fun _ s1'=>wpAny (model prog w) A (assign target env v) (fun _ s₂=>wpAny (model prog w) A (eval elt env) (fun x s₃ =>
         wpAny (model prog w) A (call (.builtin "list.append") [acc,x]) (fun _ s₄=>∃ m,m < n∧I m s₄) (fun _ _=>False) s₃)
         (fun _ _=>False) s₂) (fun _ _=>False) s1') (fun _ _=>False) s₁) (fun _ _=>False) s)
   (n:Nat) (h:I n s) :
   codeAny (model prog w) A (.compLoop (.ListComp elt [⟨target,iter,[],0⟩] scope pos) 0 it acc env) R s:=by
 refine codeAny_loop rfl I (fun n s hI=>?_) n h
 show wpAny _ _ ((compTurn (.ListComp elt [⟨target,iter,[],0⟩] scope pos) 0 it acc env).onRaise (fun x=>do noteFrame x env;theTreesLotGoes x)) _ _ s
 refine wpAny_noted ?_
 rw [compTurn_list1]
 refine wpAny_bind (wpAny_standAt (wpAny_bind (wpAny_mono (turn n s hI) (fun r s₁ h₁=>?_) fun _ _ h'=>h'.elim)))
 cases r with
 | none=>exact wpAny_pure h₁
 | some v =>
   refine wpAny_bind (wpAny_mono h₁ (fun _ s1' h1'=>?_) fun _ _ h'=>h'.elim)
   exact wpAny_bind (wpAny_mono h1' (fun _ s₂ h₂=>wpAny_bind (wpAny_bind (wpAny_mono h₂ (fun x s₃ h₃=>wpAny_bind (wpAny_mono h₃
     (fun _ s₄ h₄=>wpAny_pure (wpAny_pure ⟨rfl,h₄⟩)) fun _ _ h'=>h'.elim)) fun _ _ h'=>h'.elim))) fun _ _ h'=>h'.elim)
structure CompOk (X:Cx)(scope:Scope)(x:Str):Prop where
 nd:(XH X.N x++[x]).Nodup
 clos:∀ y∈scope.names,y.2=.free→X.env.kindOf y.1=some .cell∨X.env.kindOf y.1=some .free
 cell:∀ y∈scope.names,y.2≠.cell
 kind:scope.kind=.function
 names:∀ y∈scope.names,y.2=.local→scope.names.lookup y.1=some .local
 loc:scope.names.lookup x=some .local
 own:∀ y∈X.N,y≠x→scope.names.lookup y≠some .local
 noh:scope.names.lookup ("":Str)=none
theorem ZaY {pins:List (Addr×Obj)}{σ:St}{H2:Hp}{s₂:Shared}{J:It}{fp:List Addr}{it:Addr}{tn:Nat→Heap→Prop}{cl:List (Str×Addr)}{E:Value→Shared→Prop}{Q:VK}{RR:Value→Addr→Result→Shared→Prop}
   (O:CompOk X scope x) (hc:X.calm=true) (cl1:∀ y c,cl.lookup y=some c→X.env.cells.lookup y=some c) (cl2:∀ y∈scope.names,y.2=.free→cl.lookup y.1≠none)
   (he:∀ cl C s₀ H₀ fp,PE (Ye X scope x cl C s₀ H₀ fp) elt te)
   (I2:Inv X pins σ H2 s₂) (T:ZcE X.prog X.w X.K (.Name x px) J fp it tn) (st:tn 0 s₂.heap) (f2:∀ b∈fp,YT X pins H2 b)
   (h:∀ D,H2 D=none→Zau J te σ D Q H2)
   (hRR:∀ D C H' s',Inv X pins σ H' s'→YT X pins H' C→(∃ m,s'.heap.Ns C m)→Q (.ref D) H'→RR (.ref D) C (.ok .next) s') :
   wpAny (model X.prog X.w) X.A (newList []) (fun acc s₃=>wpAny (model X.prog X.w) X.A (newFunctionEnv scope X.env.globals cl [] X.env.qual none .none (some X.env)) (fun cenv s₄ =>
     codeAny (model X.prog X.w) X.A (.compStart (.ListComp elt [⟨.Name x px,iter,[],0⟩] scope pos) 0 (.ref it) acc { cenv with scope:=relabel scope X.env }) (RR acc cenv.locals) s₄) E s₃) E s₂:=by
 have hD:H2 s₂.heap.objs.size=none:=I2.hok.fresh (Nat.le_refl _)
 refine wpAny_newObj_type ?_
 have I3:Inv X pins σ (upd H2 s₂.heap.objs.size (.lst [])) { s₂ with heap:=s₂.heap.push { cls:=.type "list",data:=.seq ([]:List Value).toArray } } :=
   I2.laid (t':=s₂.toks) (fun b u e=>Heap.get?_push_of_some _ e) (Nat.le_refl _) ⟨Nat.zero_le _,[],_,.nil,Heap.get?_push_size _ rfl⟩
 have f3:∀ b∈fp,YT X pins (upd H2 s₂.heap.objs.size (.lst [])) b:=fun b hb=>by
   obtain ⟨g0,g1⟩:=f2 b hb
   obtain ⟨o,e,_⟩:=T.obj 0 _ st b hb
   exact ⟨by rw [Zc (Nat.ne_of_lt (Heap.lt_size e))];exact g0,g1⟩
 have st3:tn 0 (s₂.heap.push { cls:=.type "list",data:=.seq ([]:List Value).toArray }):=T.keep _ _ _ st fun b hb o e=>Heap.get?_push_of_some _ e
 obtain ⟨W,⟨m0,w0⟩,turn⟩:=h _ hD
 generalize hDe:s₂.heap.objs.size=D at I3 f3 w0 turn ⊢
 generalize hH3:upd H2 D (.lst [])=H3 at I3 f3 w0 turn ⊢
 generalize hs3:({ s₂ with heap:=s₂.heap.push { cls:=.type "list",data:=.seq ([]:List Value).toArray } }:Shared)=s₃ at I3
 have st3':tn 0 s₃.heap:=by rw [← hs3];exact st3
 have hobj:∀ b∈fp,b < s₃.heap.objs.size:=fun b hb=>by
   obtain ⟨o,e,_⟩:=T.obj 0 _ st3' b hb
   exact Heap.lt_size e
 refine wpAny_newFunctionEnv O.cell (by intro y hy;simp at hy) (fun h₁ hns₁ hsb₁=>?_) O.kind
 have old:∀ b o,s₃.heap.get? b=some o→h₁.get? b=some o:=fun b o e=>hsb₁.extBut b o (Nat.ne_of_lt (Heap.lt_size e)) (Heap.get?_push_of_some _ e)
 generalize hs4:({ s₃ with heap:=h₁,toks:=s₃.toks+([]:List (Str×Value)).length }:Shared)=s₄
 have h4:s₄.heap=h₁:=by rw [← hs4]
 have hX:∀ C,YT X pins C s₃.heap.objs.size→True:=fun _ _=>trivial
 have ok':(Ye X scope x cl s₃.heap.objs.size s₃ H3 fp).Ok:=by
   refine ⟨I3.ok.mod,O.kind,I3.ok.glob,I3.ok.blt,Nat.le_refl _,?_,?_,?_,I3.ok.hd,I3.ok.frames,.inl rfl,?_,I3.bs,Nat.le_trans I3.ok.bsz I3.sz,?_,?_,I3.stack,I3.stkFree⟩
   · exact fun y z c e1 e2=>I3.ok.inj y z c (cl1 y c e1) (cl1 z c e2)
   · intro y hk
     have hf:scope.names.lookup y=some .free:=by
       rcases hk with hk | hk
       · rcases ZI O.cell hk with q | q
         · exact absurd rfl (O.cell _ (mem_of_lookup q))
         · exact q.1
       · rcases ZI O.cell hk with q | q
         · exact q
         · cases q.2
     have:=cl2 _ (mem_of_lookup hf) rfl
     cases e:cl.lookup y with
     | none=>exact absurd e this
     | some c=>exact ⟨c,e⟩
   · intro y c hf;cases hf
   · intro b hb
     obtain ⟨g0,g1,g2,g3,g4,g5⟩:=f3 b hb
     exact ⟨Nat.ne_of_lt (hobj b hb),fun y c e=>g4 y c (cl1 y c e)⟩
   · intro b o e hb
     obtain ⟨g0,g1,g2,g3,g4,g5⟩:=f3 b hb
     rcases g3 with g3 | g3
     · exact I3.ok.noex b o e g3
     · exact absurd (Heap.lt_size e) (Nat.not_lt.mpr (Nat.le_trans I3.ok.bsz g3))
   · intro b hb hs
     obtain ⟨g0,g1,g2,g3,g4,g5⟩:=f3 b hb
     rcases List.mem_cons.mp (I3.stkSub b hs) with e | e
     · exact g1 e
     · exact g2 e
 have I4 : Inv (Ye X scope x cl s₃.heap.objs.size s₃ H3 fp) [] (σ++[none]) H3 s₄:=by
   obtain ⟨m,hm,hl⟩:=I3.loc
   refine ⟨ok',by rw [← hs4];rfl,by rw [← hs4];exact I3.bare,by rw [h4];exact Un.kept old,⟨_,by rw [h4];exact hns₁,?_⟩,?_,I3.hok.fresh (Nat.le_refl _),fun y c e=>I3.freeC y c (cl1 y c e),?_,by rw [h4];exact I3.hok.kept old,?_⟩
   · intro i y v e1 e2 e3
     have hlt:i < σ.length:=by
       rcases Nat.lt_or_ge i σ.length with z | z
       · exact z
       · rw [List.getElem?_append_right z] at e2
         cases e:i - σ.length with
         | zero=>rw [e] at e2;simp at e2
         | succ k=>rw [e] at e2;simp at e2
     rw [List.getElem?_append_left hlt] at e2
     have hsm:∃ k,scope.names.lookup y=some k:=by
       rcases e3 with hk | hk | hk
       · rcases ZI O.cell hk with q | q
         · exact ⟨_,q⟩
         · exact ⟨_,q.1⟩
       · rcases ZI O.cell hk with q | q
         · exact ⟨_,q⟩
         · exact ⟨_,q.1⟩
       · rcases ZI O.cell hk with q | q
         · exact ⟨_,q⟩
         · exact ⟨_,q.1⟩
     obtain ⟨e1',hyx⟩:X.N[i]?=some y∧y≠x:=by
       have e1:(XH X.N x++[x])[i]?=some y:=e1
       rw [List.getElem?_append_left (by rw [WO,← I3.len];exact hlt)] at e1
       rcases ZdL e1 with z | z
       · exact z
       · obtain ⟨k,hk⟩:=hsm
         rw [z,O.noh] at hk;cases hk
     have hy:y∈X.N:=List.mem_of_getElem? e1'
     have hf:scope.names.lookup y=some .free:=by
       rcases e3 with hk | hk | hk
       · rcases ZI O.cell hk with q | q
         · exact absurd q (O.own y hy hyx)
         · exact q.1
       · rcases ZI O.cell hk with q | q
         · exact absurd rfl (O.cell _ (mem_of_lookup q))
         · exact q.1
       · rcases ZI O.cell hk with q | q
         · exact q
         · exact q.1
     have hk:=O.clos _ (mem_of_lookup hf) rfl
     have hv:Vis X.env.scope y:=by rcases hk with z | z;exact .inr (.inl z);exact .inr (.inr z)
     obtain ⟨u,ru,lu⟩:=hl i y v e1' e2 hv
     refine ⟨u,ru,?_⟩
     have hkc:(compEnvC scope cl s₃.heap.objs.size X.env).kindOf y=some .cell∨(compEnvC scope cl s₃.heap.objs.size X.env).kindOf y=some .free:=by
       rcases e3 with q | q | q
       · rcases ZI O.cell q with z | z
         · exact absurd z (O.own y hy hyx)
         · cases z.2
       · exact .inl q
       · exact .inr q
     rcases lu with ⟨q,_⟩ | ⟨_,c,hcl,hcc⟩
     · rcases hk with z | z<;>(rw [q] at z;cases z)
     · refine .inr ⟨hkc,?_⟩
       cases e:cl.lookup y with
       | none=>exact absurd e (cl2 _ (mem_of_lookup hf) rfl)
       | some c' =>
         have:=cl1 y c' e
         rw [hcl] at this
         cases this
         refine ⟨c,e,?_⟩
         rw [h4]
         obtain ⟨oc,ho,hd⟩:=hcc
         exact ⟨oc,old _ _ ho,hd⟩
   · intro y c e
     obtain ⟨v,oc,ho,hd⟩:=I3.cell y c (cl1 y c e)
     exact ⟨v,oc,by rw [h4];exact old _ _ ho,hd⟩
   · intro p hp;cases hp
   · show (σ++[none]).length=(XH X.N x++[x]).length
     rw [List.length_append,List.length_append,WO,I3.len];rfl
 have st4:tn 0 s₄.heap:=by rw [h4];exact T.keep _ _ _ st3' fun b hb o e=>old b o e
 have fpok:∀ {H':Hp},(∀ b∈fp,H' b=none)→∀ b∈fp,YT (Ye X scope x cl s₃.heap.objs.size s₃ H3 fp) [] H' b:=fun hn b hb=>by
   obtain ⟨g0,g1,g2,g3,g4,g5⟩:=f3 b hb
   refine ⟨hn b hb,Nat.ne_of_lt (hobj b hb),ok'.exfs b hb,.inl hb,fun y c e=>g4 y c (cl1 y c e),?_⟩
   intro p hp;cases hp
 have loop:codeAny (model X.prog X.w) X.A (.compLoop (.ListComp elt [⟨.Name x px,iter,[],0⟩] scope pos) 0 (.ref it) (.ref D) (compEnvC scope cl s₃.heap.objs.size X.env)) (RR (.ref D) s₃.heap.objs.size) s₄:=by
   refine Xz (fun n s'=>∃ i ys w' H',Inv (Ye X scope x cl s₃.heap.objs.size s₃ H3 fp) [] (σ++[w']) H' s'∧tn i s'.heap∧(∀ b∈fp,H' b=none)∧W i n ys H') ?_ m0 ⟨0,[],none,H3,I4,st4,fun b hb=>(f3 b hb).1,w0⟩
   rintro n s5 ⟨i,ys,w',H5,I5,st5,fr5,w5⟩
   rcases turn i n ys H5 w5 with ⟨stop,q⟩ | ⟨go,N,hN,step⟩
   · refine Zo (T.done (Ye X scope x cl s₃.heap.objs.size s₃ H3 fp) rfl rfl rfl hc i [] s5 _ H5 _ I5 (fpok fr5) st5 stop) fun r s6 ⟨hr,I6⟩=>?_
     subst hr
     obtain ⟨m6,hn6,_⟩:=I6.loc
     have IX:Inv X pins σ H5 s6:=I3.call' (ch:=fp) I6.os I6.base I6.hok I6.bare fun b hb=>by
       obtain ⟨g0,g1,g2,g3,g4,g5⟩:=f3 b hb
       exact ⟨g3,g1,g4,g5⟩
     exact hRR D _ H5 s6 IX (I3.fpOk (Nat.le_refl _) I6.free) ⟨m6,hn6⟩ q
   · refine Zo (T.item (Ye X scope x cl s₃.heap.objs.size s₃ H3 fp) rfl rfl rfl hc i [] s5 _ H5 _ I5 (fpok fr5) st5 go) fun r s6 ⟨u,hr,h6⟩=>?_
     subst hr
     refine Zo h6 fun _ s7 ⟨v,H7,I7,r7,y7,st7,fr7⟩=>?_
     have I7':=I7.pinned (fpok fr7) (T.obj _ _ st7)
     have hixN:(Ye X scope x cl s₃.heap.objs.size s₃ H3 fp).N[σ.length]?=some x:=by
       show (XH X.N x++[x])[σ.length]?=some x
       rw [I3.len,← WO X.N x];simp
     refine Zo (Ys (X:=Ye X scope x cl s₃.heap.objs.size s₃ H3 fp) (pos:=px) O.nd hixN (.inl (lookup_relabel_local O.loc)) (.inr (lookup_relabel_local O.loc)) _ s7 _ H7 v u (fun σ' H'=>σ'=σ++[some v]∧H'=H7) I7' r7 ⟨by simp,rfl⟩) fun _ s8 ⟨σ8,H8,I8,e8,e8'⟩=>?_
     subst e8 e8'
     refine Zo (he cl s₃.heap.objs.size s₃ H3 fp _ s8 _ H8 _ I8 (step v H8 y7)) fun uy s9 ⟨y,H9,I9,r9,n9⟩=>?_
     obtain ⟨hl9,hz9,m',hm',w9⟩:=hN y H9 n9
     refine Zo (Xd (X:=Ye X scope x cl s₃.heap.objs.size s₃ H3 fp) _ s9 _ H9 (.ref D) [y] (.ref D) [uy] (fun v H'=>H'=upd H9 D (.lst (ys++[y]))) I9 rfl (.cons r9 .nil) ⟨D,ys,y,rfl,rfl,hl9,hz9,rfl⟩) fun _ s10 ⟨_,H10,I10,_,e10⟩=>?_
     subst e10
     refine ⟨m',hm',i+1,ys++[y],some v,_,I10.unpinned (pins:=[]),T.keep _ _ _ st7 fun b hb o e=>(I10.pin (b,o) (List.mem_append_right _ (List.mem_append_right _ (YK hb e)))).1,fun b hb=>?_,w9⟩
     obtain ⟨o,e,d⟩:=T.obj _ _ st7 b hb
     exact (I10.pin (b,o) (List.mem_append_right _ (List.mem_append_right _ (YK hb e)))).2.1
 exact codeAny_compStart_list loop (T.self _ 0 _ _ _ st4 loop)
theorem ZdA (O:CompOk X scope x)(hc:X.calm=true)(hi:PI X (.Name x px) iter wi)(he:∀ cl C s₀ H₀ fp,PE (Ye X scope x cl C s₀ H₀ fp) elt te)
   (hs:∀ v,foldedSetIterable iter X.env v=pure v:=by intro _;rfl):PE X (.ListComp elt [⟨.Name x px,iter,[],0⟩] scope pos) (ZfU wi te):=by
 intro pins s σ H Q I h
 obtain ⟨cl,hcl,cl1,cl2⟩:=WC (scope:=scope) (env:=X.env) fun y hy hf=>I.ok.has _ (O.clos y hy hf)
 rw [eval_ListComp]
 refine wpAny_comprehension_free (use:=none) rfl hs hcl O.kind O.names (Zo (hi pins s σ H _ I h) fun v s1 h1=>Zo h1 fun itv s2 h2=>?_)
 obtain ⟨it,fp,tn,J,H2,e,I2,T,st2,f2,q⟩:=h2
 subst e
 refine ZaY (RR:=fun acc C=>compPost (model X.prog X.w) X.A X.xe none (EP X pins σ Q) acc C) O hc cl1 cl2 he I2 T st2 f2 q ?_
 intro D C H' s' I' ⟨g0,g1,g2,g3,g4,g5⟩ ⟨m,hm⟩ hq
 exact ⟨m,hm,fun h' hs'=>⟨.ref D,H',I'.turned (t':=s'.toks) (fun b o hb e=>(hs'.2 b hb).trans e) g0 g1 g3 g4 g5,rfl,hq⟩⟩
end
end L2
namespace L2
open PySem PySem.Spec PyProof.Rows
section
variable {X:Cx}{tg:Expr}
end
section
variable {X:Cx}
theorem ZbD:Yl X (.type "str") (fun xs H Q=>(∃ i,xs=[.int i]∧i.natAbs.log2 < 1920∧Q (.str (toString i)) H)∨∃ z,xs=[.str z]∧Q (.str z) H):=by
 intro pins s σ H xs us Q I r h
 rcases h with h | ⟨z,rfl,q⟩
 · exact Vg pins s σ H xs us Q I r h
 · obtain ⟨u,rfl,t,rfl⟩:=Yt r
   exact PySem.P.str_of_str ⟨.str _,H,I,⟨_,rfl⟩,q⟩
end
mutual
inductive DataOf (H:Hp):V→PyData→Prop
 | non:DataOf H .non .none
 | bl (b):DataOf H (.bl b) (.bool b)
 | int (i):DataOf H (.int i) (.int i)
 | str (x):DataOf H (.str x) (.str x)
 | lst {a xs ds}:H a=some (.lst xs)→DatasOf H xs ds→DataOf H (.ref a) (.list ds)
 | tup {a xs ds}:H a=some (.tup xs)→DatasOf H xs ds→DataOf H (.ref a) (.tuple ds)
inductive DatasOf (H:Hp):List V→List PyData→Prop
 | nil:DatasOf H [] []
 | cons {v d vs ds}:DataOf H v d→DatasOf H vs ds→DatasOf H (v::vs) (d::ds)
end
section
variable {P:Program}{w:World}{H:Hp}{h:Heap}
mutual
theorem DataOf.reads (hok:HOk P w H h):∀{v d}(u:Value),DataOf H v d→RelV v u→d.hasDict=false∧∃ as,Reads h u d as
 | _,_,u,.non,r=>by cases (show u=.none from r);exact ⟨rfl,_,.none⟩
 | _,_,u,.bl b,r=>by cases (show u=.bool b from r);exact ⟨rfl,_,.bool b⟩
 | _,_,u,.int i,r=>by obtain ⟨t,e⟩:=(show ∃ t,u=.int i t from r);subst e;exact ⟨rfl,_,.int i t⟩
 | _,_,u,.str x,r=>by obtain ⟨t,e⟩:=(show ∃ t,u=.str x t from r);subst e;exact ⟨rfl,_,.str x t⟩
 | _,_,u,.lst (a:=a) (xs:=xs) e q,r=>by
   cases (show u=.ref a from r)
   obtain ⟨_,its,n,rv,g⟩:=(show ObjOk P w H h a (.lst xs) from hok a _ e)
   obtain ⟨nd,as,ra⟩:=DatasOf.reads hok its q rv
   exact ⟨by simpa [PyData.hasDict] using nd,_,.list g rfl rfl (by simpa using ra)⟩
 | _,_,u,.tup (a:=a) (xs:=xs) e q,r=>by
   cases (show u=.ref a from r)
   obtain ⟨_,its,rv,o,g,c,n,d⟩:=(show ObjOk P w H h a (.tup xs) from hok a _ e)
   obtain ⟨nd,as,ra⟩:=DatasOf.reads hok its q rv
   exact ⟨by simpa [PyData.hasDict] using nd,_,.tuple g c d (by simpa using ra)⟩
theorem DatasOf.reads (hok:HOk P w H h):∀{vs ds}(us:List Value),DatasOf H vs ds→Vals vs us→PyData.hasDictAll ds=false∧∃ as,ReadsAll h us ds as
 | _,_,_,.nil,.nil=>⟨rfl,_,.nil⟩
 | _,_,_,.cons r t,.cons rv tv=>by
   obtain ⟨n1,as,r1⟩:=DataOf.reads hok _ r rv
   obtain ⟨n2,bs,r2⟩:=DatasOf.reads hok _ t tv
   exact ⟨by simp [PyData.hasDictAll,n1,n2],_,.cons r1 r2⟩
end
end
section
variable {X:Cx}
theorem Yg (hg:X.A.guards=some [])(hu:X.A.units+64 < cLine):Yl X (.builtin "repr") (fun xs H Q=>∃ x d,xs=[x]∧DataOf H x d∧d.showable=true∧d.shown.length≤sizeLine∧d.depth≤60∧Q (.str d.shown) H):=by
 intro pins s σ H xs us Q I r h
 obtain ⟨x,d,rfl,dd,hs,hz,hd,q⟩:=h
 obtain ⟨u,rfl,ru⟩:=Yt r
 have fin:∀ (t':Tok) (k:Nat),EP X pins σ Q (.str d.shown t') { s with toks:=k }:=fun t' k=>⟨.str _,H,I.tok k,⟨_,rfl⟩,q⟩
 obtain ⟨nd,as,rd⟩:=DataOf.reads I.hok u dd ru
 cases rd with
 | none=>exact PySem.P.repr_of_none (fin _ _)
 | bool b=>exact PySem.P.repr_of_bool (fin _ _)
 | int i t=>exact PySem.P.repr_of_int (by simpa [PyData.showable] using hs) (fin _ _)
 | str x t=>exact PySem.P.repr_of_str (fin _ _) hz
 | list h1 h2 h3 h4=>exact repr_of_reads' (Reads.list h1 h2 h3 h4) hs (fun z=>by rw [nd] at z;cases z) hg (by omega) (fun _ _ e=>e) (fun h' t' k hk=>⟨.str _,H,I.kept (t':=k) hk,⟨_,rfl⟩,q⟩) hz
 | tuple h1 h2 h3 h4=>exact repr_of_reads' (Reads.tuple h1 h2 h3 h4) hs (fun z=>by rw [nd] at z;cases z) hg (by omega) (fun _ _ e=>e) (fun h' t' k hk=>⟨.str _,H,I.kept (t':=k) hk,⟨_,rfl⟩,q⟩) hz
 | dict h1 h2 h3 h4 h5=>cases nd
end
end L2
namespace L2
open PySem PySem.Spec PyProof.Rows
def Def (P:Program)(w:World)(K:PySem.W.Frag)(mg:Str→Option Value)(base:Heap)(k:Nat)(x:Str)(ps:List Str)(sp:Sp):Prop :=
 ∃ f fd,FnOk P w K mg base ZG k f fd ps sp∧Binds K fd ps []∧PySem.W.keepIn K (.ref f)=true∧mg x=some (.ref f)
theorem Def.mono {P:Program}{w:World}{K:PySem.W.Frag}{mg:Str→Option Value}{base:Heap}{j k:Nat}{x:Str}{ps:List Str}{sp:Sp}(D:Def P w K mg base j x ps sp)(h:j≤k):Def P w K mg base k x ps sp :=
 let ⟨f,fd,F,b,kp,m⟩:=D;⟨f,fd,F.mono h,b,kp,m⟩
section
variable {X:Cx}{k:Nat}{x:Str}{ps:List Str}{sp:Sp}{p pos:Pos}{e:Expr}{es:List Expr}{t:TA}
theorem XR (D:Def X.prog X.w X.K X.mg X.base k x ps sp)(hr:Room k X.A)(ha:PA X (e::es) t)(hg:Gl X x:=by rfl)(hdb:(x == ("__debug__":Str))=false:=by decide)
   (he:starEach (e::es) X.env=(false,eval e X.env)::starEach es X.env:=by rfl) (hpl:(backTo pos (starEach es X.env)).any (·.1)=false:=by rfl) :
   PE X (.Call (.Name x p) (e::es) [] pos) (ZcW sp [] E0 t):=by
 obtain ⟨f,fd,F,b,kp,m⟩:=D
 exact Zek F hr hg m kp b .nil UE ha hdb he hpl
end
def Kp (p:Addr)(H H':Hp):Prop:=∀ q o,q≠p→H q=some o→H' q=some o
theorem Kp.upd (p:Addr)(H:Hp)(o:HO):Kp p H (upd H p o):=fun q u n h=>by rw [Zc n];exact h
theorem Zf {H:Hp}{p:Addr}(h:H p=none)(o:HO):Same H (upd H p o):=fun b u q=>by rw [Zc (Zm q h)];exact q
def BoxAt (H:Hp)(p:Addr)(n:Nat):Prop:=∃ a b c:Int,H p=some (.lst [.int a,.int b,.int c])∧0≤a∧0≤c∧c≤n
theorem BoxAt.same {H H':Hp}{p:Addr}{n:Nat}(h:BoxAt H p n)(s:Same H H'):BoxAt H' p n:=let ⟨a,b,c,e,r⟩:=h;⟨a,b,c,s _ _ e,r⟩
theorem BoxAt.le {H:Hp}{p:Addr}{n m:Nat}(h:BoxAt H p n)(l:n≤m):BoxAt H p m:=let ⟨a,b,c,e,h1,h2,h3⟩:=h;⟨a,b,c,e,h1,h2,by omega⟩
def Vx (M:Int):Sp:=fun vs H Q _=>∃(p:Addr)(n:Nat)(m:Int),vs=[.ref p,.int m]∧BoxAt H p n∧n≤1000000∧0 < m∧m < M∧∀(r:Int)(H':Hp),0≤r→r < m→BoxAt H' p (n+1)→Kp p H H'→Q (.int r) H'
def Zbp (K:PySem.W.Frag):Sp:=fun vs H Q _=>∃(a:Addr)(ns:List Int)(k:Int),vs=[.ref a,.int k]∧SqL K H a (ns.map V.int)∧0≤k∧∀(r:Int),Q (.int r) H
def Zdo (K:PySem.W.Frag):Sp:=fun vs H Q _=>∃(a:Addr)(ns:List Int)(k:Int),vs=[.ref a,.int k]∧SqL K H a (ns.map V.int)∧0≤k∧k≤1000∧∀(p:Addr)(H':Hp),H p=none→BoxAt H' p 0→Same H H'→Q (.ref p) H'
end L2
namespace L2
open PySem PySem.Spec PyProof.Rows
def Zaj (N:List Str)(names:List (Str×NameKind))(scope:Scope)(x:Str):Bool :=
 decide ((XH N x++[x]).Nodup)&&scope.names.all (fun y=>(y.2 != .free || names.lookup y.1 == some .cell || names.lookup y.1 == some .free)&&(y.2 != .cell&&(y.2 != .local || scope.names.lookup y.1 == some .local))) &&
 ((scope.kind == .function&&scope.names.lookup x == some .local)&&N.all fun y=>y == x || scope.names.lookup y != some .local)&&scope.names.lookup ("":Str) == none
theorem CompOk.of {X:Cx}{scope:Scope}{x:Str}(N:List Str)(st:Stmt)(hN:X.N=N)(hn:X.env.scope=Zi st)(chk:Zaj N (Zi st).names scope x=true):CompOk X scope x:=by
 unfold Zaj at chk
 simp only [Bool.and_eq_true,decide_eq_true_eq,List.all_eq_true,Bool.or_eq_true,bne_iff_ne,beq_iff_eq] at chk
 obtain ⟨⟨⟨c1,c2⟩,⟨c3,c4⟩,c5⟩,c6⟩:=chk
 refine ⟨by rw [hN];exact c1,fun y hy hf=>?_,fun y hy=>(c2 y hy).2.1,c3,fun y hy hl=>?_,c4,fun y hy hx=>(c5 y (by rw [← hN];exact hy)).resolve_left hx,c6⟩
 · show X.env.scope.names.lookup y.1=_∨X.env.scope.names.lookup y.1=_
   rw [hn]
   rcases (c2 y hy).1 with (z | z) | z
   · exact absurd hf z
   · exact .inl z
   · exact .inr z
 · rcases (c2 y hy).2.2 with z | z
   · exact absurd hl z
   · exact z
theorem Xo (x:Str):x.length=x.cps.toList.length:=by simp [Str.length]
theorem Zbm (x y:Str):(x++y).cps.toList=x.cps.toList++y.cps.toList:=by
 show (x.cps++y.cps).toList=_
 simp
theorem Xq (x y:Str):(x++y).length=x.length+y.length:=by rw [Xo,Zbm,List.length_append,← Xo,← Xo]
def sgn (c:Nat):Bool:=decide (32≤c)&&decide (c≤126)
@[reducible] def notStar:Expr→Bool
 | .Starred ..=>false
 | _=>true
theorem ZcR {e:Expr}{es:List Expr}{env:Env}(h:notStar e=true):starEach (e::es) env=(false,eval e env)::starEach es env:=by
 cases e<;>first | rfl | cases h
section
variable {X:Cx}{k:Nat}{x:Str}{ps:List Str}{sp:Sp}{p pos:Pos}{e:Expr}{es:List Expr}{te:TE}{t:TA}
theorem UW (ha:PE X e te)(hr:PA X es t)(h:notStar e=true):PA X (e::es) (Zax te t):=ZP ha hr (ZcR h)
theorem Zg (ha:PE X e te)(hr:PA X es t)(h:notStar e=true:=by rfl):PA X (e::es) (Zax te t):=ZP ha hr (ZcR h)
end
end L2
namespace L2
open PySem PySem.Spec PyProof.Rows
section
variable {X:Cx}
theorem Zcz:ZX X (binaryOp .FloorDiv) (rI (fun _ j=>0 < j∧j < 2 ^ 62) fun i j=>.int (i / j)):=opI fun i j _ _ _ _ _ hc q=>by
 have h1:(0:Int) < j:=hc.1
 have h2:j < 2 ^ 62:=hc.2
 refine floordiv_int (by omega) (by rw [Int.fdiv_eq_ediv_of_nonneg i (by omega)];exact q) (.inl (PyProof.noPylong_of_log2 ?_))
 have h3:j.natAbs≠0:=by omega
 have h4:j.natAbs < 2 ^ 9000:=Nat.lt_of_lt_of_le (show j.natAbs < 2 ^ 62 by omega) (Nat.pow_le_pow_right (by decide) (by decide))
 exact (Nat.log2_lt h3).mpr h4
end
end L2
namespace L2
open PySem PySem.Spec PyProof.Rows
section
variable {X:Cx}
end
section
variable {X:Cx}{tg:Expr}
end
end L2
set_option maxHeartbeats 2000000
namespace L2
open PySem PySem.Spec PyProof.Rows
section
variable {prog:Program}{w:World}{A:Around}{E:Value→Shared→Prop}{s:Shared}
end
end L2
set_option maxHeartbeats 2000000
namespace L2
open PySem PySem.Spec PyProof.Rows
section
variable {prog:Program}{w:World}{A:Around}{E:Value→Shared→Prop}{s:Shared}
end
end L2
set_option maxHeartbeats 2000000
namespace L2
open PySem PySem.Spec PyProof.Rows
section
variable {X:Cx}
end
end L2
set_option maxHeartbeats 2000000
namespace L2
open PySem PySem.W PySem.Spec PyProof.Rows
section
variable {prog:Program}{w:World}{A:Around}{E:Value→Shared→Prop}{s:Shared}{a kS:Addr}{vs:List Value}{ks:List Str}{keys:Array Value}{e e1:Nat}{P:PySem.Fin→Shared→Prop}
end
end L2
set_option maxHeartbeats 2000000
namespace L2
open PySem PySem.W PySem.Spec PyProof.Rows
def Xe (base:Heap)(mg:Str→Option Value):Prop:=∃ bm ob,mg "__builtins__"=some (.ref bm)∧bm≠builtinsNs∧base.get? bm=some ob∧ob.cls=.type "module"∧ob.dict=some builtinsNs∧ob.data=.plain
def ZaQ (ts:List Addr)(H:Hp):Prop:=∀ b,H b=none∨(∃ o xs,H b=some (.frz o (.lst xs)))∨(H b=some (.tbl #[])∧b∈ts)
theorem ZbX {P:Program}{w:World}{K:PySem.W.Frag}{mg mb:Str→Option Value}{CX:Xc}{k:Nat}{fa a:Addr}{fd:FuncData}{x:Str}{sp:Sp}{s₁:Shared}{vs:List Value}{ns:List Int}{ts:List Addr}
   (KX:K.In s₁.heap) (hns:s₁.heap.Ns mainGlobals mg) (hb:s₁.heap.Ns builtinsNs mb) (hbb:∀ x:Str,x≠"__name__"→mb x=bootBuiltins x) (hlim:s₁.heap.NoLimit) (hg:s₁.gens=#[]) (hbm:Xe s₁.heap mg)
   (ha:s₁.heap.get? a=some { cls:=.type "list",data:=.seq vs.toArray }) (hi:IntsAre vs ns) (hl:ns.length≤sizeLine) (hr:Room k callerA)
   (hts:∀ b∈ts,s₁.heap.get? b=some (tabObj #[])∧K.lookup b=none∧∃ c,CodeHd s₁.heap c b)
   (F:∀ base:Heap,K.In base→base.Ns mainGlobals mg→Xe base mg→FnOk P w K mg base CX k fa fd [x] sp) (hbind:∀ (s:Shared) (u:Value),BindsTo s fd ⟨[u],[]⟩ [(x,u)])
   (hsp:∀ H:Hp,ZaQ ts H→SqL K H a (ns.map V.int)→(∀ b∈ts,H b=some (.tbl #[]))→sp [.ref a] H (fun v _=>v=.bl true) fun _ _ _=>False)
   (hCX:∀ H e s',CX [] H s₁ (fun _ _ _=>False) e s'→False) :
   codeAny (model P w) callerA (.call (.ref fa) ⟨[.ref a],[]⟩) (fun r s'=>r=.ok (.ret (.bool true))∧OldK s₁.heap s'.heap∧s'.os=s₁.os∧AllBare s'.gens) s₁:=by
 have rv:=Ur hi
 have lenV:=hi.length
 have nta:a ∉ ts:=fun z=>by
   have e:=(hts a z).1
   rw [ha] at e;cases e
 have core : ∀ H:Hp,ZaQ ts H→SqL K H a (ns.map V.int)→HOk P w H s₁.heap→(∀ b∈ts,H b=some (.tbl #[]))→(∀ b,H b≠none→b=a∨b∈ts)→(∀ b,H b≠none→K.lookup b=none) →
     codeAny (model P w) callerA (.call (.ref fa) ⟨[.ref a],[]⟩) (fun r s'=>r=.ok (.ret (.bool true))∧OldK s₁.heap s'.heap∧s'.os=s₁.os∧AllBare s'.gens) s₁:=by
   intro H hO hS hok hT hA hK
   have base_of:∀ {b:Addr} {o:Obj},s₁.heap.get? b=some o→H b=none→(Xi s₁.heap H).get? b=some o:=fun y n=>Zcn y n
   have free:∀ {b:Addr} {o:Obj},s₁.heap.get? b=some o→(∀ its n,o.data≠.seq its n)→(∀ fs,o.data≠.fields fs)→H b=none:=fun {b o} y d1 d2=>by
     cases q:H b with
     | none=>rfl
     | some u =>
       rcases hA b (by rw [q];simp) with z | z
       · subst z
         rw [ha] at y;cases y
         exact absurd rfl (d1 _ _)
       · rw [(hts b z).1] at y;cases y
         exact absurd rfl (d2 _)
   have nsK:∀ {b:Addr} {m:Str→Option Value},s₁.heap.Ns b m→(Xi s₁.heap H).Ns b m:=fun {b m} ⟨o,es,ep,y,d,r⟩=>⟨o,es,ep,base_of y (free y (fun its n z=>by rw [d] at z;cases z) fun fs z=>by rw [d] at z;cases z),d,r⟩
   have hKb:K.In (Xi s₁.heap H):=fun b o y=>base_of (KX b o y) (by
     cases q:H b with
     | none=>rfl
     | some u=>rw [hK b (by rw [q];simp)] at y;cases y)
   have hBm:Xe (Xi s₁.heap H) mg:=by
     obtain ⟨bm,ob,h1,h2,h3,h4,h5,h6⟩:=hbm
     exact ⟨bm,ob,h1,h2,base_of h3 (free h3 (fun its n z=>by rw [h6] at z;cases z) fun fs z=>by rw [h6] at z;cases z),h4,h5,h6⟩
   have hM:Mod K mg (Xi s₁.heap H):=⟨hKb,nsK hns,⟨mb,nsK hb,hbb⟩,let ⟨mc,h1,h2⟩:=hlim;⟨mc,nsK h1,h2⟩⟩
   have e0:Env0 P w K mg (Xi s₁.heap H) callerA [] s₁ H:=⟨rfl,hM,fun b o e=>ZdO e,Nat.le_of_eq (Zbh _ _),trivial,fun b hb=>absurd (show b∈([]:List Addr) from hb) (by simp),hok,.of_eq hg⟩
   refine codeAny_mono ((F _ hKb (nsK hns) hBm).run callerA [] s₁ H ⟨[.ref a],[]⟩ [.ref a] [.ref a] _ _ hr e0 (hbind s₁ (.ref a)) (.cons rfl .nil) (hsp H hO hS hT)) fun r s' h=>?_
   cases r with
   | error e=>exact (hCX H e s' h).elim
   | ok fl =>
     cases fl with
     | next=>exact False.elim h
     | brk=>exact False.elim h
     | cont=>exact False.elim h
     | ret u =>
       obtain ⟨v,H',os,bare,un,hok',r',q⟩:=h
       have q':v=.bl true:=q
       subst q'
       obtain rfl:u=Value.bool true:=r'
       have key:∀ b o,s₁.heap.get? b=some o→s'.heap.get? b=some o∨(b∈ts∧∃ more:Array Value,s'.heap.get? b=some (tabObj (#[]++more))):=fun b o y=>by
         cases q:H b with
         | none=>exact .inl (un.keep b o y q (by intro z;exact absurd (show b∈([]:List Addr) from z) (by simp)) (by simp))
         | some u =>
           rcases hO b with z | ⟨ob,xs,z⟩ | ⟨z,zt⟩
           · rw [q] at z;cases z
           · have z2:=un.frzs b ob _ z
             obtain ⟨e1,_⟩:=hok b _ z
             obtain ⟨e2,_⟩:=hok' b _ z2
             rw [y] at e1;cases e1
             exact .inl e2
           · obtain ⟨more,z2⟩:=un.tbls b #[] z
             exact .inr ⟨zt,more,show s'.heap.get? b=some { cls:=.none,data:=.fields (#[]++more) } from hok' b _ z2⟩
       refine ⟨rfl,⟨fun b o y=>?_,fun b o y=>?_⟩,os,bare⟩
       · rcases key b o y with z | ⟨zt,more,z⟩
         · exact .inl z
         · obtain ⟨t1,_,c,t3⟩:=hts b zt
           rw [t1] at y;cases y
           exact .inr (.inl ⟨(t3.tab t1).isCodeTable,rfl,#[],more,rfl,z⟩)
       · rcases key b o y with z | ⟨zt,more,z⟩
         · exact ⟨_,z⟩
         · exact ⟨_,z⟩
 have okT:∀ (H:Hp) (b:Addr),b∈ts→ObjOk P w H s₁.heap b (.tbl #[]):=fun H b hb=>(hts b hb).1
 cases hk:K.lookup a with
 | some o =>
   have e:=KX a o hk
   rw [ha] at e
   cases e
   refine core (fun b=>if b∈ts then some (.tbl #[]) else none) (fun b=>?_) (.inr ⟨_,vs.toArray,_,hk,rfl,rfl,rfl,by rw [List.size_toArray,lenV];exact hl,by simpa using rv⟩) (fun b u z=>?_) (fun b hb=>if_pos hb) (fun b z=>?_) (fun b z=>?_)
   · by_cases hb:b∈ts
     · exact .inr (.inr ⟨if_pos hb,hb⟩)
     · exact .inl (if_neg hb)
   · by_cases hb:b∈ts
     · have z':=(if_pos hb).symm.trans z
       cases z'
       exact okT _ b hb
     · have z':=(if_neg hb).symm.trans z
       cases z'
   · by_cases hb:b∈ts
     · exact .inr hb
     · exact absurd (if_neg hb) z
   · by_cases hb:b∈ts
     · exact (hts b hb).2.1
     · exact absurd (if_neg hb) z
 | none =>
   refine core (fun b=>if b=a then some (.frz { cls:=.type "list",data:=.seq vs.toArray } (.lst (ns.map V.int))) else if b∈ts then some (.tbl #[]) else none) (fun b=>?_) (.inl (.inr ⟨{ cls:=.type "list",data:=.seq vs.toArray },if_pos rfl⟩)) (fun b u z=>?_)
     (fun b hb=>(if_neg (fun z:b=a=>nta (by rw [← z];exact hb))).trans (if_pos hb)) (fun b z=>?_) (fun b z=>?_)
   · by_cases h1:b=a
     · exact .inr (.inl ⟨_,_,if_pos h1⟩)
     · by_cases hb:b∈ts
       · exact .inr (.inr ⟨(if_neg h1).trans (if_pos hb),hb⟩)
       · exact .inl ((if_neg h1).trans (if_neg hb))
   · by_cases h1:b=a
     · have z':=(if_pos h1).symm.trans z
       cases z'
       subst h1
       exact ⟨ha,by rw [List.length_map];exact hl,vs,_,rv,ha⟩
     · have z1:=(if_neg h1).symm.trans z
       by_cases hb:b∈ts
       · have z':=(if_pos hb).symm.trans z1
         cases z'
         exact okT _ b hb
       · have z':=(if_neg hb).symm.trans z1
         cases z'
   · by_cases h1:b=a
     · exact .inl h1
     · by_cases hb:b∈ts
       · exact .inr hb
       · exact absurd ((if_neg h1).trans (if_neg hb)) z
   · by_cases h1:b=a
     · rw [h1];exact hk
     · by_cases hb:b∈ts
       · exact (hts b hb).2.1
       · exact absurd ((if_neg h1).trans (if_neg hb)) z
theorem walk_ofT {l:PySem.W.OpenLaw}{n k:Nat}{q:Program}{loose:List Str}{XP:(Str→Option Value)→Heap→Prop}{YP:World→Heap→Prop}{d:DefRec}{K:Params→PySem.W.Frag}{CX:World→Xc}{sp:World→Sp}{x:Str}{ts:List Addr}
   (hn:l.most=some n) (hn2:n≤sizeLine) (hdf:d.params.defaults=[]) (hr:Room k callerA)
   (hY:∀ (w:World) (h:Heap),YP w h→(K w.params).In h∧∀ b∈ts,h.get? b=some (tabObj #[]))
   (hK:∀ (w:World) (b:Addr),b∈ts→(K w.params).lookup b=none∧∃ c,codeHdIn (K w.params) c b=true)
   (F:∀ (w:World) (mg:Str→Option Value) (fa:Addr) (h:Heap),(K w.params).In h→h.Ns mainGlobals mg→mg d.name=some (.ref fa) →
     ∃ fd:FuncData,(∀ (s:Shared) (u:Value),BindsTo s fd ⟨[u],[]⟩ [(x,u)]) ∧
       ∀ base:Heap,(K w.params).In base→base.Ns mainGlobals mg→Xe base mg→FnOk l.prog w (K w.params) mg base (CX w) k fa fd [x] (sp w))
   (hsp:∀ (w:World) (H:Hp) (a:Addr) (ns:List Int),ns.length≤n→ZaQ ts H→SqL (K w.params) H a (ns.map V.int)→(∀ b∈ts,H b=some (.tbl #[]))→sp w [.ref a] H (fun v _=>v=.bl true) fun _ _ _=>False)
   (hCX:∀ (w:World) (H:Hp) (s:Shared) (e:Value) (s':Shared),CX w [] H s (fun _ _ _=>False) e s'→False) :
   PySem.W.WalkO q loose XP YP l.row.toRowW d [] (fun f vs=>PySem.call f vs):=by
 refine Att.attach_call hn hdf fun w s₀ s₁ mg mb fa o pm cd doc a vs ns G Y ho hd hcd hmg hobj hints hlen hg=>?_
 obtain ⟨KX,hT⟩:=hY w _ Y
 obtain ⟨fd,hb,hF⟩:=F w mg fa _ KX G.T.g hmg
 exact ZbX (ts:=ts) KX G.T.g G.T.b G.T.builtins G.T.nolimit hg G.T.bmain hobj hints (Nat.le_trans hlen hn2) hr (fun b hb'=>⟨hT b hb',(hK w b hb').1,let ⟨c,hc⟩:=(hK w b hb').2;⟨c,codeHd_of_K KX hc⟩⟩) hF hb (fun H hO hS hTb=>hsp w H a ns hlen hO hS hTb) fun H e s'=>hCX w H s₁ e s'
end L2
set_option maxHeartbeats 2000000
namespace L2
open PySem PySem.W PySem.Spec PyProof.Rows
section
variable {prog:Program}{w:World}{A:Around}{E:Value→Shared→Prop}{s:Shared}
end
def YQ (c:Addr)(qual:Str):Heap→Prop:=fun h=>h.CodeRec (.ref c) qual
def LamAt (H:Hp)(Pl:Addr)(lpos:Pos)(qual:Str):Prop :=
 H Pl=some (.tbl #[])∨∃ c,H Pl=some (.tbl #[rawInt lpos.line,rawInt lpos.col,.ref c])∧H c=some (.ext (YQ c qual))
theorem Zee {P:Program}{w:World}{H:Hp}{h:Heap}{c:Addr}{qual:Str}(e:h.CodeRec (.ref c) qual):ObjOk P w H h c (.ext (YQ c qual)):=by
 obtain ⟨c',o,vs,t,z,g,r⟩:=id e
 cases z
 refine ⟨e,⟨o,g⟩,fun h1 h2 p k=>?_⟩
 obtain ⟨c',o,vs,t,z,g,r⟩:=p
 cases z
 exact ⟨_,o,vs,t,rfl,k _ g,r⟩
def Grown (Pl:Addr)(H H':Hp):Prop:=∀ b o,b≠Pl→H b=some o→H' b=some o
section
variable {X:Cx}{pins:List (Addr×Obj)}{σ:List (Option V)}{H:Hp}{s:Shared}{h':Heap}
theorem Inv.table {t':Nat}{Pl c:Addr}{ps:Array Value}{qual:Str}{lpos:Pos}(I:Inv X pins σ H s)(hP:H Pl=some (.tbl ps))(k:∀ b o,b≠Pl→s.heap.get? b=some o→h'.get? b=some o)
   (hT:h'.get? Pl=some (tabObj (ps++#[rawInt lpos.line,rawInt lpos.col,.ref c]))) (hc:s.heap.objs.size≤c) (hr:h'.CodeRec (.ref c) qual) :
   Inv X pins σ (upd (upd H Pl (.tbl (ps++#[rawInt lpos.line,rawInt lpos.col,.ref c]))) c (.ext (YQ c qual))) { s with heap:=h',toks:=t' }:=by
 have hcn:H c=none:=I.hok.fresh hc
 have hcP:c≠Pl:=fun z=>by rw [z,hP] at hcn;cases hcn
 have nP:∀ b,H b=none→b≠Pl:=fun b z e=>by rw [e,hP] at z;cases z
 have off:∀ b o,b≠Pl→H b=some o→upd (upd H Pl (.tbl (ps++#[rawInt lpos.line,rawInt lpos.col,.ref c]))) c (.ext (YQ c qual)) b=some o:=fun b o h1 e=>by rw [Zc (Zm e hcn),Zc h1];exact e
 have nL:X.env.locals≠Pl:=nP _ I.free
 refine I.step (g':=s.gens) (d':=s.drawn) (ch:=[]) (fun _ z=>nomatch z) (fun b o _ _ _ e n=>k b o (nP b n) e) (fun b o _ _ _ e n=>⟨o.slots,k b o (nP b n) e⟩) (fun b o _ e n=>?_) (fun b o _ e=>?_)
   (fun b xs e=>off b _ (fun z=>by rw [z,hP] at e;cases e) e) (fun b o u e=>off b _ (fun z=>by rw [z,hP] at e;cases e) e) (fun b qs e=>?_) (fun m hm=>?_) (fun b u e=>?_) I.bare
 · rw [Zc (fun z=>by rw [z] at e;exact absurd (Heap.lt_size e) (Nat.not_lt.mpr hc)),Zc (nP b n)];exact n
 · by_cases hb:b=Pl
   · exact ⟨_,by rw [hb];exact hT⟩
   · exact ⟨o,k b o hb e⟩
 · by_cases hb:b=Pl
   · rw [hb,hP] at e
     cases e
     exact ⟨#[rawInt lpos.line,rawInt lpos.col,.ref c],by rw [hb,Zc hcP.symm,Zd]⟩
   · exact ⟨#[],by rw [off b _ hb e];simp⟩
 · obtain ⟨o,es,ep,ho,r⟩:=hm
   exact ⟨o,es,ep,k _ o nL ho,r⟩
 · by_cases h1:b=c
   · subst h1
     rw [Zd] at e
     cases e
     exact Zee hr
   · rw [Zc h1] at e
     by_cases h2:b=Pl
     · subst h2
       rw [Zd] at e
       cases e
       exact hT
     · rw [Zc h2] at e
       refine (I.hok b u e).stay (fun d v hd y=>k d v ?_ y) (fun d y=>off d _ (fun z=>by rw [z,hP] at y;cases y) y) fun d xs y=>off d _ (fun z=>by rw [z,hP] at y;cases y) y
       rcases hd with z | z
       · rw [z];exact h2
       · exact fun z2=>by rw [z2,hP] at z;cases z
end
section
variable {X:Cx}
end
end L2
set_option maxHeartbeats 4000000
namespace L2
open PySem PySem.W PySem.Spec PyProof.Rows
section
variable {prog:Program}{w:World}{A:Around}{E:Value→Shared→Prop}{s:Shared}
end
section
variable {prog:Program}{w:World}{A:Around}{R:Result→Shared→Prop}
end
section
variable {prog:Program}{w:World}{A:Around}{E:Value→Shared→Prop}{s:Shared}
end
section
variable {X:Cx}
end
end L2
set_option maxHeartbeats 2000000
namespace L2
open PySem PySem.W PySem.Spec PyProof.Rows
section
variable {X:Cx}{pins:List (Addr×Obj)}{σ:List (Option V)}{H H':Hp}{s:Shared}{h':Heap}
end
section
variable {X:Cx}
end
end L2
set_option maxHeartbeats 2000000
namespace L2
open PySem PySem.W PySem.Spec PyProof.Rows
structure FunC (K:PySem.W.Frag)(x qual:Str)(st:Stmt)(f:Addr)(fd:FuncData)(c Pl:Addr):Prop where
 ex:∃ (oc:Value) (od:Option Addr) (kV doc pm:Value) (an:Option Addr) (ct:Value) (osl:Array (Option Value)),
   fd=PySem.W.fnOf x qual (Wd st) (Yy st) (Zi st) .none kV doc pm an (.ref c) ct∧K.lookup f=some ⟨oc,od,.func fd,osl⟩∧PySem.W.codeIn K (.ref c) qual=true
 kp:PySem.W.keepIn K (.ref f)=true
 hd:codeHdIn K c Pl=true
section
variable {P:Program}{w:World}{K:PySem.W.Frag}{mg:Str→Option Value}{base:Heap}
theorem FunC.ok {x qual:Str}{st:Stmt}{f c Pl:Addr}{fd:FuncData}{N ps:List Str}{k:Nat}{sp:Sp}(F:FunC K x qual st f fd c Pl)(S:Zu N ps (Zi st))(len:∀ vs H Q E,sp vs H Q E→vs.length=ps.length)
   (hbody:∀ (A:Around) (outer:List Env) (s:Shared) (H:Hp) (vs:List V) (Q:VK) (E:XK),Room k (A.deeper (envOfC qual (Zi st) s.heap.objs.size f (.ref c)))→sp vs H Q E →
     ∃ t,PSs (Xf ZG P w K mg base N qual (Zi st) f (.ref c) A outer s H E).nox (Yy st) t∧t { nx:=fun _ H'=>Q .non H',rt:=Q } (YA N vs) H):FnOk P w K mg base ZG (k+1) f fd ps sp:=by
 obtain ⟨oc,od,kV,doc,pm,an,ct,osl,rfl,lk,hcd⟩:=F.ex
 refine Zav lk hcd S len fun A outer s H vs Q E hr hsp=>?_
 obtain ⟨t,h,q⟩:=hbody A outer s H vs Q E hr hsp
 exact ⟨t,h.nox,q⟩
theorem FunC.fn {x qual:Str}{st:Stmt}{f c Pl:Addr}{fd:FuncData}(F:FunC K x qual st f fd c Pl):Fun K x qual st f fd:=by
 obtain ⟨oc,od,kV,doc,pm,an,ct,osl,e,lk,hcd⟩:=F.ex
 exact ⟨⟨oc,od,kV,doc,pm,an,.ref c,ct,osl,e,lk,hcd⟩,F.kp⟩
end
theorem Zgc {X:Cx}{st:Stmt}:PS X st (fun _ _ _=>False):=fun _ _ _ _ _ _ h=>h.elim
structure TF (H H':Hp):Prop where
 tup:∀ b xs,H b=some (.tup xs)→H' b=some (.tup xs)
 frz:∀ b o u,H b=some (.frz o u)→H' b=some (.frz o u)
theorem Same.tf {H H':Hp}(h:Same H H'):TF H H':=⟨fun b _ e=>h b _ e,fun b _ _ e=>h b _ e⟩
theorem SqT.tf {K:PySem.W.Frag}{H H':Hp}{a:Addr}{xs:List V}(h:SqT K H a xs)(t:TF H H'):SqT K H' a xs:=by
 rcases h with (h | ⟨o,h⟩) | h
 · exact .inl (.inl (t.tup _ _ h))
 · exact .inl (.inr ⟨o,t.frz _ _ _ h⟩)
 · exact .inr h
inductive Nd where
 | bare
 | leaf (m:Int) (ps:List (Str×V))
 | fork (qs:List Nat)
def PairT (H:Hp)(ts:List Addr)(ps:List (Str×V)):Prop:=ts.length=ps.length∧∀(i:Nat)(a:Addr)(p:Str×V),ts[i]?=some a→ps[i]?=some p→H a=some (.tup [.str p.1,p.2])
def PairsAt (H:Hp)(t:Addr)(ps:List (Str×V)):Prop:=∃ o ts,H t=some (.frz o (.tup (ts.map V.ref)))∧o.dict=none∧PairT H ts ps
def NodeAt (K:PySem.W.Frag)(H:Hp)(a:Addr):Nd→Prop
 | .bare=>SqT K H a [.str "bare"]
 | .leaf m ps=>∃ t,SqT K H a [.str "leaf",.int m,.ref t]∧PairsAt H t ps
 | .fork qs=>∃ t,SqT K H a [.str "fork",.ref t]∧SqT K H t (qs.map fun q:Nat=>V.int (q:Int))∧qs.length=4
theorem PairT.tf {H H':Hp}{ts:List Addr}{ps:List (Str×V)}(h:PairT H ts ps)(t:TF H H'):PairT H' ts ps:=⟨h.1,fun i a p e1 e2=>t.tup _ _ (h.2 i a p e1 e2)⟩
theorem PairsAt.tf {H H':Hp}{t:Addr}{ps:List (Str×V)}(h:PairsAt H t ps)(f:TF H H'):PairsAt H' t ps:=by
 obtain ⟨o,ts,e,d,p⟩:=h
 exact ⟨o,ts,f.frz _ _ _ e,d,p.tf f⟩
theorem NodeAt.tf {K:PySem.W.Frag}{H H':Hp}{a:Addr}{n:Nd}(h:NodeAt K H a n)(f:TF H H'):NodeAt K H' a n:=by
 cases n with
 | bare=>exact SqT.tf h f
 | leaf m ps=>obtain ⟨t,e,p⟩:=h;exact ⟨t,e.tf f,p.tf f⟩
 | fork qs=>obtain ⟨t,e,p,l⟩:=h;exact ⟨t,e.tf f,p.tf f,l⟩
end L2
set_option maxHeartbeats 1000000
namespace L2
open PySem
def Ym:HO→Bool
 | .tup _=>false
 | .frz _ _=>false
 | .own _=>false
 | .met _ _=>false
 | .rng _ _=>false
 | .ext _=>false
 | _=>true
def Wl (H h:Hp):Hp:=fun b=>match h b with
 | some o=>if Ym o=true then none else H b
 | none=>H b
def one (p:Addr)(o:HO):Hp:=fun b=>if b=p then some o else none
theorem one_some {p b:Addr}{o u:HO}:one p o b=some u↔b=p∧o=u:=by
 unfold one
 by_cases h:b=p
 · rw [if_pos h];exact ⟨fun z=>⟨h,Option.some.inj z⟩,fun z=>by rw [z.2]⟩
 · rw [if_neg h];exact ⟨fun z=>(by cases z),fun z=>absurd z.1 h⟩
abbrev ZS:=Addr→Hp→Prop
abbrev Rs:=List (Addr×ZS)
def Sep:Rs→Hp→Prop
 | [],_=>True
 | (a,R)::Δ,H=>∃ h,Same h H∧R a h∧Sep Δ (Wl H h)
theorem cut_some {H h:Hp}{b:Addr}{o:HO}:Wl H h b=some o↔H b=some o∧∀ u,h b=some u→Ym u=false:=by
 unfold Wl
 cases e:h b with
 | none=>exact ⟨fun z=>⟨z,fun u q=>by cases q⟩,fun z=>z.1⟩
 | some v =>
   cases m:Ym v with
   | true=>show (if Ym v=true then none else H b)=some o↔_;rw [if_pos m];exact ⟨fun z=>(by cases z),fun z=>(by have:=z.2 v rfl;rw [m] at this;cases this)⟩
   | false=>show (if Ym v=true then none else H b)=some o↔_;rw [if_neg (by rw [m];decide)];exact ⟨fun z=>⟨z,fun u q=>(by cases q;exact m)⟩,fun z=>z.1⟩
theorem UZ {H h:Hp}:Same (Wl H h) H:=fun b o e=>(cut_some.mp e).1
theorem UV {H H' h:Hp}(s:Same H H'):Same (Wl H h) (Wl H' h):=fun b o e=>let ⟨x,y⟩:=cut_some.mp e;cut_some.mpr ⟨s _ _ x,y⟩
theorem Sep.mono:∀{Δ:Rs}{H H':Hp},Sep Δ H→Same H H'→Sep Δ H'
 | [],_,_,_,_=>trivial
 | (_,_)::_,_,_,⟨h,l,r,S⟩,s=>⟨h,l.trans s,r,S.mono (UV s)⟩
theorem Sep.swap {a b:Addr}{R T:ZS}{Δ:Rs}{H:Hp}(S:Sep ((a,R)::(b,T)::Δ) H):Sep ((b,T)::(a,R)::Δ) H:=by
 obtain ⟨h,l,r,g,m,t,S⟩:=S
 refine ⟨g,m.trans UZ,t,h,fun c o e=>cut_some.mpr ⟨l _ _ e,fun u q=>?_⟩,r,S.mono fun c o e=>?_⟩
 · obtain ⟨q1,q2⟩:=cut_some.mp (m _ _ q)
   have e2:=l _ _ e
   rw [q1] at e2;cases e2
   exact q2 _ e
 · obtain ⟨e1,e2⟩:=cut_some.mp e
   obtain ⟨e3,e4⟩:=cut_some.mp e1
   exact cut_some.mpr ⟨cut_some.mpr ⟨e3,e2⟩,e4⟩
theorem Sep.tail {a:Addr}{R:ZS}{Δ:Rs}{H:Hp}(S:Sep ((a,R)::Δ) H):Sep Δ H:=by
 obtain ⟨h,l,r,S⟩:=S
 exact S.mono UZ
class Pull (a:Addr) (Δ:Rs) (R:outParam ZS) (Δ':outParam Rs):Prop where
 out:∀ {H},Sep Δ H→Sep ((a,R)::Δ') H
instance (priority:=1000) Pull.here {a:Addr} {R:ZS} {Δ:Rs}:Pull a ((a,R)::Δ) R Δ:=⟨fun S=>S⟩
instance (priority:=900) Pull.there {a b:Addr} {R T:ZS} {Δ Δ':Rs} [P:Pull a Δ R Δ']:Pull a ((b,T)::Δ) R ((b,T)::Δ') :=
 ⟨fun S=>by
   obtain ⟨h,l,r,S⟩:=S
   exact Sep.swap ⟨h,l,r,P.out S⟩⟩
theorem Sep.pull {Δ Δ':Rs}{H:Hp}{R:ZS}(S:Sep Δ H)(a:Addr)[P:Pull a Δ R Δ']:Sep ((a,R)::Δ') H:=P.out S
theorem Sep.drop {Δ Δ':Rs}{H:Hp}{R:ZS}(S:Sep Δ H)(a:Addr)[P:Pull a Δ R Δ']:Sep Δ' H:=(P.out S).tail
class Up (R:ZS):Prop where
 up:∀ {a:Addr} {H H':Hp},R a H→Same H H'→R a H'
theorem Sep.get {Δ Δ':Rs}{H:Hp}{R:ZS}(S:Sep Δ H)(a:Addr)[P:Pull a Δ R Δ'][U:Up R]:R a H:=by
 obtain ⟨h,l,r,_⟩:=P.out S
 exact U.up r l
def Pt (o:HO):ZS:=fun a h=>h a=some o
abbrev ZU (xs:List V):ZS:=Pt (.lst xs)
abbrev Dic (kv:List (Zw×V)):ZS:=Pt (.dK kv)
instance {o:HO}:Up (Pt o):=⟨fun h s=>s _ _ h⟩
theorem Sep.new {Δ:Rs}{H:Hp}(S:Sep Δ H){p:Addr}(hp:H p=none)(o:HO):Sep ((p,Pt o)::Δ) (upd H p o):=by
 refine ⟨one p o,fun b u e=>?_,one_some.mpr ⟨rfl,rfl⟩,S.mono fun b u e=>?_⟩
 · obtain ⟨rfl,rfl⟩:=one_some.mp e;exact Zd
 · have hb:=Zm e hp
   exact cut_some.mpr ⟨by rw [Zc hb];exact e,fun v q=>absurd (one_some.mp q).1 hb⟩
theorem Sep.made {Δ:Rs}{H H':Hp}(S:Sep Δ H)(s:Same H H'){p:Addr}{o:HO}(hp:H p=none)(e:H' p=some o):Sep ((p,Pt o)::Δ) H':=by
 refine ⟨one p o,fun b u q=>?_,one_some.mpr ⟨rfl,rfl⟩,S.mono fun b u q=>?_⟩
 · obtain ⟨rfl,rfl⟩:=one_some.mp q;exact e
 · have hb:=Zm q hp
   exact cut_some.mpr ⟨s _ _ q,fun v q=>absurd (one_some.mp q).1 hb⟩
theorem Sep.put {Δ Δ':Rs}{H:Hp}{o:HO}(S:Sep Δ H)(a:Addr)(o':HO)[P:Pull a Δ (Pt o) Δ'](m:Ym o=true:=by rfl):Sep ((a,Pt o')::Δ') (upd H a o'):=by
 obtain ⟨h,l,r,S⟩:=P.out S
 refine ⟨one a o',fun b u q=>?_,one_some.mpr ⟨rfl,rfl⟩,S.mono fun b u q=>?_⟩
 · obtain ⟨rfl,rfl⟩:=one_some.mp q;exact Zd
 · obtain ⟨q1,q2⟩:=cut_some.mp q
   have hb:b≠a:=fun z=>by
     have:=q2 o (by rw [z];exact r)
     rw [m] at this;cases this
   exact cut_some.mpr ⟨by rw [Zc hb];exact q1,fun v q=>absurd (one_some.mp q).1 hb⟩
theorem Sep.say {Δ Δ':Rs}{H:Hp}{R:ZS}(S:Sep Δ H)(a:Addr)(T:ZS)[P:Pull a Δ R Δ'](f:∀ h,R a h→T a h):Sep ((a,T)::Δ') H:=by
 obtain ⟨h,l,r,S⟩:=P.out S
 exact ⟨h,l,f h r,S⟩
theorem Sep.call {Δ:Rs}{H H':Hp}{a:Addr}{R T:ZS}{L:List Addr}(S:Sep ((a,R)::Δ) H)(k:∀ b o,b ∉ L→H b=some o→H' b=some o)
   (f:∀ h,Same h H→R a h→(∀ b∈L,∃ o,h b=some o∧Ym o=true)∧∃ h',Same h' H'∧T a h'∧∀ b o,h' b=some o→Ym o=true→b∈L∨H b=none∨∃ u,h b=some u∧Ym u=true):Sep ((a,T)::Δ) H':=by
 obtain ⟨h,l,r,S⟩:=S
 obtain ⟨f1,h',l',t,f2⟩:=f h l r
 refine ⟨h',l',t,S.mono fun b o e=>?_⟩
 obtain ⟨e1,e2⟩:=cut_some.mp e
 have hb:b ∉ L:=fun z=>by
   obtain ⟨u,q1,q2⟩:=f1 b z
   rw [e2 u q1] at q2;cases q2
 refine cut_some.mpr ⟨k b o hb e1,fun u q=>?_⟩
 cases m:Ym u with
 | false=>rfl
 | true =>
   rcases f2 b u q m with z | z | ⟨v,z1,z2⟩
   · exact absurd z hb
   · rw [e1] at z;cases z
   · rw [e2 v z1] at z2;cases z2
abbrev Bx (n:Nat):ZS:=fun a h=>BoxAt h a n
instance {n:Nat}:Up (Bx n):=⟨fun h s=>h.same s⟩
theorem Sep.box {Δ:Rs}{H H':Hp}{p:Addr}{n m:Nat}(S:Sep ((p,Bx n)::Δ) H)(k:Kp p H H')(B:BoxAt H' p m):Sep ((p,Bx m)::Δ) H':=by
 refine S.call (L:=[p]) (fun b o nb e=>k b o (fun z=>nb (by simp [z])) e) fun h l r=>⟨fun b hb=>?_,?_⟩
 · rw [List.mem_singleton.mp hb]
   obtain ⟨x,y,z,e,_⟩:=r
   exact ⟨_,e,rfl⟩
 · obtain ⟨x,y,z,e,w⟩:=B
   refine ⟨one p (.lst [.int x,.int y,.int z]),fun b u q=>?_,⟨x,y,z,one_some.mpr ⟨rfl,rfl⟩,w⟩,fun b o q _=>.inl (by simp [(one_some.mp q).1])⟩
   obtain ⟨rfl,rfl⟩:=one_some.mp q;exact e
def VS (M:Int):Sp:=fun vs H Q _=>∃(p:Addr)(n:Nat)(m:Int)(Δ:Rs),vs=[.ref p,.int m]∧Sep ((p,Bx n)::Δ) H∧n≤1000000∧0 < m∧m < M∧∀(r:Int)(H':Hp),0≤r→r < m→Sep ((p,Bx (n+1))::Δ) H'→Q (.int r) H'
theorem ZeT {M:Int}{vs:List V}{H:Hp}{Q:VK}{E:XK}(h:VS M vs H Q E):Vx M vs H Q E:=by
 obtain ⟨p,n,m,Δ,e,S,h1,h2,h3,q⟩:=h
 exact ⟨p,n,m,e,S.get p,h1,h2,h3,fun r H' a b B k=>q r H' a b (S.box k B)⟩
end L2
namespace L2
open PySem
theorem ZaS {x:V}{u:Value}(h:Zcj u=some x):RelV x u:=by
 cases u<;>first | (cases h;exact rfl) | (cases h;exact ⟨_,rfl⟩) | cases h
theorem Wk:∀{xs:List V}{us:List Value},us.map Zcj=xs.map some→Vals xs us
 | [],[],_=>.nil
 | [],_::_,h=>by cases h
 | _::_,[],h=>by cases h
 | x::xs,u::us,h=>by
   rw [List.map_cons,List.map_cons,List.cons.injEq] at h
   exact .cons (ZaS h.1) (Wk h.2)
def UC (K:PySem.W.Frag)(a:Addr)(vs:List V):Bool:=match K.lookup a with
 | some ⟨.type "tuple",_,.seq its _,_⟩=>decide (its.size≤100000)&&decide (its.toList.map Zcj=vs.map some)
 | _=>false
theorem Vr {K:PySem.W.Frag}{a:Addr}{vs:List V}(h:UC K a vs=true)(H:Hp):SqT K H a vs:=by
 unfold UC at h
 split at h
 · rename_i its n _ hk
   simp only [Bool.and_eq_true,decide_eq_true_eq] at h
   exact .inr ⟨_,its,n,hk,rfl,rfl,Nat.le_trans h.1 (by decide),Wk h.2⟩
 · cases h
end L2
set_option maxHeartbeats 2000000
namespace L2
open PySem
section
variable {X:Cx}{elt iter cnd:Expr}{x:Str}{px pos:Pos}{scope:Scope}{wi:TI}{te:TE}{tc:TT}
end
end L2
set_option maxHeartbeats 2000000
namespace L2
open PySem PySem.Spec PyProof.Rows
def hid2 (N:List Str)(xa xb:Str):List Str:=XH (XH N xa) xb
section
variable {X:Cx}{elt iter tg:Expr}{xa xb:Str}{pos:Pos}{scope:Scope}{wi:TI}{te:TE}{g:TG}
end
end L2
set_option maxHeartbeats 2000000
namespace L2
open PySem PySem.Spec PyProof.Rows
end L2
namespace L2
open PySem
structure Yh (mg:Str→Option Value):Prop where
 len:mg "len"=none
 abs:mg "abs"=none
 int:mg "int"=none
 range:mg "range"=none
 min:mg "min"=none
 max:mg "max"=none
 repr:mg "repr"=none
 enumerate:mg "enumerate"=none
 ord:mg "ord"=none
 list:mg "list"=none
 tuple:mg "tuple"=none
 dict:mg "dict"=none
 sorted:mg "sorted"=none
 sum:mg "sum"=none
 all:mg "all"=none
 any:mg "any"=none
 divmod:mg "divmod"=none
 str:mg "str"=none
 isinstance:mg "isinstance"=none
 set:mg "set"=none
 zip:mg "zip"=none
 reversed:mg "reversed"=none
 bool:mg "bool"=none
abbrev DTk (P:Program)(w:World)(K:PySem.W.Frag)(mg:Str→Option Value)(base:Heap)(k:Nat):Prop:=Def P w K mg base k "_law_take" ["_law_box_here","_law_many"] (VS 4611686018427387904)
theorem FnOk.conv {P:Program}{w:World}{K:PySem.W.Frag}{mg:Str→Option Value}{base:Heap}{k:Nat}{f:Addr}{fd:FuncData}{ps:List Str}{sp sp':Sp}(F:FnOk P w K mg base ZG k f fd ps sp)(h:∀ vs H Q E,sp' vs H Q E→sp vs H Q E):FnOk P w K mg base ZG k f fd ps sp' :=
 ⟨fun vs H Q E z=>F.len vs H Q E (h vs H Q E z),fun A outer s H args us vs Q E hr he hb hv z=>F.run A outer s H args us vs Q E hr he hb hv (h vs H Q E z)⟩
theorem Def.conv {P:Program}{w:World}{K:PySem.W.Frag}{mg:Str→Option Value}{base:Heap}{k:Nat}{x:Str}{ps:List Str}{sp sp':Sp}(D:Def P w K mg base k x ps sp)(h:∀ vs H Q E,sp' vs H Q E→sp vs H Q E):Def P w K mg base k x ps sp' :=
 let ⟨f,fd,F,b,kp,m⟩:=D;⟨f,fd,F.conv h,b,kp,m⟩
theorem YY {n m:Nat}(h:n≤m)(hm:m≤100000:=by decide):n≤sizeLine:=Nat.le_trans (Nat.le_trans h hm) (by decide)
theorem UY {n m:Nat}(h:n≤m)(hm:m≤100000:=by decide):n < sizeLine:=Nat.lt_of_le_of_lt (Nat.le_trans h hm) (by decide)
end L2
set_option maxHeartbeats 2000000
namespace L2
open PySem
def DefM (P:Program)(w:World)(K:PySem.W.Frag)(mg:Str→Option Value)(base:Heap)(k:Nat)(C:Addr)(m:Str)(ps:List Str)(sp:Sp):Prop:=∃ f fd,FnOk P w K mg base ZG k f fd ps sp∧Binds K fd ps []∧WS K C m f
theorem DefM.mono {P:Program}{w:World}{K:PySem.W.Frag}{mg:Str→Option Value}{base:Heap}{j k:Nat}{C:Addr}{m:Str}{ps:List Str}{sp:Sp}(D:DefM P w K mg base j C m ps sp)(h:j≤k):DefM P w K mg base k C m ps sp :=
 let ⟨f,fd,F,b,q⟩:=D;⟨f,fd,F.mono h,b,q⟩
section
variable {X:Cx}{k:Nat}{C:Addr}{m:Str}{ps:List Str}{sp:Sp}{pos apos:Pos}{o e:Expr}{es:List Expr}{ta:TE}{t:TA}
theorem Vf {pl:Sem Bool}(D:DefM X.prog X.w X.K X.mg X.base k C m ps sp)(c:Cls X.K C)(hr:Room k X.A)(he:PE X o ta)(ha:PA X (e::es) t)
   (hst:starEach (e::es) X.env=(false,eval e X.env)::starEach es X.env:=by rfl) (hpl:(backTo pos (starEach es X.env)).any (·.1)=false:=by rfl)
   (ht:eval (.Call (.Attribute o m apos) (e::es) [] pos) X.env=(do
     let ov ← eval o X.env
     standAt apos.atName
     let (f,first) ← holding [ov] (getMethod ov m pl)
     callWith pos f first (backTo pos (starEach (e::es) X.env)) (backToKw pos (keywordEach [] X.env))):=by rfl) :
   PE X (.Call (.Attribute o m apos) (e::es) [] pos) (UD C m sp [] E0 ta t):=by
 obtain ⟨f,fd,F,b,q⟩:=D
 exact ZdU he c q F hr b .nil UE ha hst hpl ht
end
def Kq (S:List Addr)(H H':Hp):Prop:=∀ b o,b ∉ S→H b=some o→H' b=some o
def ZcD (ln dt:Addr):List (Str×V):=Yc "tables" (.ref dt) (Yc "nodes" (.ref ln) [])
theorem Zei (ln dt:Addr){m:Str}(h1:¬ m="tables")(h2:¬ m="nodes"):(ZcD ln dt).lookup m=none:=by
 unfold ZcD
 rw [YB,if_neg h1,YB,if_neg h2]
 rfl
structure StoreAt (K:PySem.W.Frag)(C st ln dt:Addr)(H:Hp)(nds:List Nd)(tabs:List (Zw×V)):Prop where
 ob:∃ dx,H st=some (.ins C dx (ZcD ln dt))
 nl:∃ as:List Addr,H ln=some (.lst (as.map V.ref))∧as.length=nds.length∧∀ (i:Nat) (a:Addr) (n:Nd),as[i]?=some a→nds[i]?=some n→NodeAt K H a n
 tb:H dt=some (.dK tabs)
theorem StoreAt.keep {K:PySem.W.Frag}{C st ln dt:Addr}{H H':Hp}{nds:List Nd}{tabs:List (Zw×V)}(S:StoreAt K C st ln dt H nds tabs)(h:Same H H'):StoreAt K C st ln dt H' nds tabs:=by
 obtain ⟨⟨dx,e⟩,⟨as,e2,l,hn⟩,e3⟩:=S
 exact ⟨⟨dx,h _ _ e⟩,⟨as,h _ _ e2,l,fun i a n x y=>(hn i a n x y).tf h.tf⟩,h _ _ e3⟩
def ZcS:V→Prop
 | .int i=>i.natAbs≤10 ^ 31
 | .str x=>x.length≤41∧x.cps.toList.all sgn=true
 | _=>False
def Zaq:V→Bool
 | .int i=>decide (i.natAbs≤10 ^ 31)
 | .str x=>decide (x.length≤41)&&x.cps.toList.all sgn
 | _=>false
theorem UO {v:V}(h:Zaq v=true):ZcS v:=by
 cases v with
 | int i=>exact of_decide_eq_true (p:=i.natAbs≤10 ^ 31) h
 | str x =>
   have h':(decide (x.length≤41)&&x.cps.toList.all sgn)=true:=h
   simp only [Bool.and_eq_true,decide_eq_true_eq] at h'
   exact h'
 | _=>cases h
def WX (P:Program)(w:World)(K:PySem.W.Frag)(mg:Str→Option Value)(base:Heap)(k:Nat)(C:Addr)(x:Str)(ps:List Str)(sp:Sp):Prop:=∃ f fd,FnOk P w K mg base ZG k f fd ps sp∧Binds K fd ps []∧Mk K C f∧mg x=some (.ref C)
theorem UF {X:Cx}{k:Nat}{C:Addr}{x:Str}{ps:List Str}{sp:Sp}{p pos:Pos}(D:WX X.prog X.w X.K X.mg X.base k C x ps sp)(hr:Room (k+1) X.A)(hg:Gl X x:=by rfl)(hdb:(x == ("__debug__":Str))=false:=by decide) :
   PE X (.Call (.Name x p) [] [] pos) (Zdb C sp [] E0 WR):=by
 obtain ⟨f,fd,F,b,M,m⟩:=D
 exact ZbY M F hr hg m b .nil UE hdb
theorem SqL.obj {K:PySem.W.Frag}{H:Hp}{a:Addr}{xs:List V}(h:SqL K H a xs):(∀ H',SqL K H' a xs)∨∃ o,H a=some o∧(∀ tb,o≠.tbl tb)∧∀ H',H' a=some o→SqL K H' a xs:=by
 rcases h with (h | ⟨o,h⟩) | h
 · exact .inr ⟨_,h,(fun tb z=>by cases z),fun H' e=>.inl (.inl e)⟩
 · exact .inr ⟨_,h,(fun tb z=>by cases z),fun H' e=>.inl (.inr ⟨o,e⟩)⟩
 · exact .inl fun H'=>.inr h
theorem Um {H H':Hp}{a:Addr}(s:Same H H')(h:H' a=none):H a=none:=by
 cases e:H a with
 | none=>rfl
 | some o=>rw [s _ _ e] at h;cases h
end L2
set_option maxHeartbeats 4000000
namespace K34
open PySem L2
def top (i:Nat):Stmt:=PySem.Challenge.pw_roadsettings_k34_worlds_entered.main.body.getD i (.Pass ⟨0,0,0,0⟩)
abbrev c_RoadError___init__:Stmt:=ZH (top 2) 0
abbrev c_Store___init__:Stmt:=ZH (top 39) 0
abbrev c_Store_empty:Stmt:=ZH (top 39) 1
abbrev c_Roads___init__:Stmt:=ZH (top 41) 0
abbrev c_Tokens___init__:Stmt:=ZH (top 43) 0
abbrev c_Hall___init__:Stmt:=ZH (top 45) 0
abbrev c_Hall_worlds:Stmt:=ZH (top 45) 4
abbrev c_Hall_place:Stmt:=ZH (top 45) 5
abbrev c_Hall_now:Stmt:=ZH (top 45) 6
abbrev c_Hall_entered:Stmt:=ZH (top 45) 7
abbrev c_Hall_copy:Stmt:=ZH (top 45) 8
abbrev c_Hall_enter:Stmt:=ZH (top 45) 9
abbrev c_Hall_leave:Stmt:=ZH (top 45) 10
abbrev c_Hall_check_world:Stmt:=ZH (top 45) 20
abbrev s_l_cell_at:Stmt:=top 47
abbrev s_l_box:Stmt:=top 48
abbrev s_l_take:Stmt:=top 49
abbrev s_l_told:Stmt:=top 50
abbrev s_law:Stmt:=top 51
section
variable {P:Program}{w:World}{K:PySem.W.Frag}{mg:Str→Option Value}{base:Heap}
theorem scC:Zu ["_law_script","_law_k"] ["_law_script","_law_k"] (Zi s_l_cell_at):=⟨rfl,rfl,rfl,by decide +kernel,rfl,by decide +kernel,by decide +kernel⟩
theorem Zeh {f:Addr}{fd:FuncData}(F:Fun K "_law_cell_at" "_law_cell_at" s_l_cell_at f fd)(T:Yh mg):FnOk P w K mg base ZG 1 f fd ["_law_script","_law_k"] (Zbp K):=by
 refine F.ok scC (fun vs H Q E h=>?_) (fun cdv A outer s H vs Q E hr h=>?_)
 · obtain ⟨a,ns,k,rfl,_⟩:=h;rfl
 obtain ⟨a,ns,k,rfl,hS,h0,q⟩:=h
 refine ⟨_,Ze (Yo (ZM ZcV (pv 1) (Zk ZC rfl T.len PySem.boot_len (ZP (pv 0) Zb)) (ZR _)) (Zl (ZB (Yj ZK (pv 0) (pv 1) (fun _ _=>rfl)))) ZV)
   (Zl (ZB Zh)),?_⟩
 refine ⟨_,rfl,_,rfl,a,_,rfl,.inl hS,_,_,rfl,rfl,_,rfl,?_⟩
 refine WT (fun c=>?_) (fun c=>?_)
 · have c':k < (((ns.map V.int).length:Nat):Int):=of_decide_eq_true c
   rw [List.length_map] at c'
   have hk:k.toNat < ns.length:=by omega
   have ek:k=((k.toNat:Nat):Int):=by omega
   have hat:WL (ns.map V.int) k=some (.int ns[k.toNat]):=by
     have z:WL (ns.map V.int) ((k.toNat:Nat):Int)=some (.int ns[k.toNat]):=WW (by rw [List.getElem?_map,List.getElem?_eq_getElem hk];rfl)
     rwa [← ek] at z
   exact ⟨_,rfl,_,rfl,a,_,_,_,rfl,rfl,hS,hat,q _⟩
 · exact q 0
theorem scB:Zu ["_law_script","_law_k","_law_cell"] ["_law_script","_law_k"] (Zi s_l_box):=⟨rfl,rfl,rfl,by decide +kernel,rfl,by decide +kernel,by decide +kernel⟩
theorem Zfj {f:Addr}{fd:FuncData}(F:Fun K "_law_box" "_law_box" s_l_box f fd)(T:Yh mg)(D:Def P w K mg base 1 "_law_cell_at" ["_law_script","_law_k"] (Zbp K)):FnOk P w K mg base ZG 2 f fd ["_law_script","_law_k"] (Zdo K):=by
 refine F.ok scB (fun vs H Q E h=>?_) (fun cdv A outer s H vs Q E hr h=>?_)
 · obtain ⟨a,ns,k,rfl,_⟩:=h;rfl
 obtain ⟨a,ns,k,rfl,hS,h0,h1,q⟩:=h
 refine ⟨_,Ze (Zx (i:=2) scB.nd rfl (Or.inl rfl) (XR D hr (ZP (pv 0) (ZP (pv 1) Zb))))
   (Zl (ZB (ZA (ZP (Zr Xr (Zk VE rfl T.abs (by decide +kernel) (ZP (pv 2) Zb)) (Xa Uw rfl T.int (by decide +kernel) (ZP (Wf Zga (Zk VE rfl T.abs (by decide +kernel) (ZP (pv 2) Zb)) (Zr Zex Zh Zh) (ZR _)) Zb)))
     (ZP (Zr ZZ (Zr ZZ (Zr YW (pv 2) Zh) (Zr Xr Zh (pv 1))) Zh) (ZP Zh Zb)))))),?_⟩
 refine ⟨_,rfl,_,rfl,a,ns,k,rfl,hS,h0,fun r=>?_⟩
 refine ⟨_,rfl,_,rfl,⟨_,rfl,_,rfl,_,_,rfl,rfl,⟨by decide,by decide,by decide⟩,_,_,rfl,rfl,.inr ⟨_,rfl,?_⟩⟩⟩
 generalize hb:decide ((10:Int) ^ (Int.toNat 18)≤(if r < 0 then -r else r))=bb
 refine ⟨_,_,rfl,rfl,.inr (by cases bb<;>exact ⟨by decide,by decide⟩),_,rfl,_,_,rfl,rfl,(by show (0:Int) < _;decide),_,rfl,_,_,rfl,rfl,.inl ⟨by decide,by decide⟩,_,_,rfl,rfl,_,_,rfl,rfl,(by show 3≤sizeLine;decide),fun p hp=>?_⟩
 refine q p _ hp ⟨_,_,0,Zd,?_,by decide,by decide⟩ (Zf hp _)
 cases bb
 · simp
 · simp only [if_true,Int.mul_one];split<;>omega
theorem scT:Zu ["_law_box_here","_law_many","_law_found","_law_once","_law_twice"] ["_law_box_here","_law_many"] (Zi s_l_take):=⟨rfl,rfl,rfl,by decide +kernel,rfl,by decide +kernel,by decide +kernel⟩
theorem ZdB {f:Addr}{fd:FuncData}(F:Fun K "_law_take" "_law_take" s_l_take f fd):FnOk P w K mg base ZG 1 f fd ["_law_box_here","_law_many"] (Vx 4611686018427387904):=by
 refine F.ok scT (fun vs H Q E h=>?_) (fun cdv A outer s H vs Q E hr h=>?_)
 · obtain ⟨p,n,m,rfl,_⟩:=h;rfl
 obtain ⟨p,n,m,rfl,⟨a,b,c,hp,ha,hc,hcn⟩,hn,hm0,hmM,q⟩:=h
 refine ⟨_,Ze (Yo (ZM ZfX (Yj ZK (pv 0) Zh (fun _ _=>rfl)) Zh (ZR _))
     (Ze (Zx (i:=2) scT.nd rfl (Or.inl rfl) (Zr YW (Yj ZK (pv 0) Zh (fun _ _=>rfl)) (pv 1)))
       (Ze (WN (Zr Zcz (Yj ZK (pv 0) Zh (fun _ _=>rfl)) (pv 1)) (Zbx (pv 0) Zh Vh)) (Zl (ZB (pv 2))))) ZV)
   (Ze (WN (Zr ZZ (Yj ZK (pv 0) Zh (fun _ _=>rfl)) Zh) (Zbx (pv 0) Zh Vh))
   (Ze (Zx (i:=3) scT.nd rfl (Or.inl rfl) (Zr YW (Zr Xr (Zr ZZ (Yj ZK (pv 0) Zh (fun _ _=>rfl)) (Zr Xr Zh (Yj ZK (pv 0) Zh (fun _ _=>rfl)))) (Zr ZZ Zh (Yj ZK (pv 0) Zh (fun _ _=>rfl)))) Zh))
   (Ze (Zx (i:=4) scT.nd rfl (Or.inl rfl) (Zr YW (Zr Xr (Zr ZZ (pv 3) (Yj ZK (pv 0) Zh (fun _ _=>rfl))) (Zr ZZ (Zr YW (pv 3) Zh) Zh)) Zh))
   (Zl (ZB (Zr YW (Zr Zds (Zr YW (Zr ZZ (Zr Xr (pv 4) Zh) (pv 3)) Zh) Zh) (pv 1))))))),?_⟩
 refine ⟨_,rfl,p,_,_,_,rfl,rfl,SqL.of hp,rfl,_,_,rfl,rfl,_,rfl,?_⟩
 refine WT (fun c'=>?_) (fun c'=>?_)
 · have h0:0 < a:=of_decide_eq_true c'
   refine ⟨_,rfl,p,_,_,_,rfl,rfl,SqL.of hp,rfl,_,rfl,_,_,rfl,rfl,hm0,?_⟩
   refine ⟨_,rfl,p,_,_,_,rfl,rfl,SqL.of hp,rfl,_,rfl,_,_,rfl,rfl,⟨hm0,by have h4:m < 4611686018427387904:=hmM;omega⟩,?_⟩
   refine ⟨_,rfl,p,_,_,_,rfl,rfl,hp,rfl,?_⟩
   refine ⟨_,rfl,?_⟩
   exact q _ _ (Int.emod_nonneg _ (by omega)) (Int.emod_lt_of_pos _ hm0) ⟨a / m,b,c,Zd,Int.ediv_nonneg ha (by omega),hc,by omega⟩ (Kp.upd _ _ _)
 · refine ⟨_,rfl,p,_,_,_,rfl,rfl,SqL.of hp,rfl,_,_,rfl,rfl,?_⟩
   refine ⟨_,rfl,p,_,_,_,rfl,rfl,hp,rfl,?_⟩
   have hp1:upd H p (.lst [.int a,.int b,.int (c+1)]) p=some (.lst [.int a,.int b,.int (c+1)]):=Zd
   refine ⟨_,rfl,p,_,_,_,rfl,rfl,SqL.of hp1,rfl,_,rfl,p,_,_,_,rfl,rfl,SqL.of hp1,rfl,_,_,rfl,rfl,.inl ⟨by decide,by decide⟩,_,_,rfl,rfl,_,rfl,p,_,_,_,rfl,rfl,SqL.of hp1,rfl,_,_,rfl,rfl,_,_,rfl,rfl,.inr ⟨by omega,by omega⟩,_,_,rfl,rfl,(by show (0:Int) < _;decide),?_⟩
   generalize hO:((b+48271 * (c+1)) * (39373+(c+1))) % 2147483647=once
   have hO0:0≤once:=by rw [← hO];exact Int.emod_nonneg _ (by decide)
   refine ⟨_,rfl,_,rfl,p,_,_,_,rfl,rfl,SqL.of hp1,rfl,_,_,rfl,rfl,_,rfl,_,_,rfl,rfl,(by show (0:Int) < _;decide),_,_,rfl,rfl,_,_,rfl,rfl,.inr ?_,_,_,rfl,rfl,(by show (0:Int) < _;decide),?_⟩
   · have:=Int.emod_nonneg once (show (40009:Int)≠0 by decide)
     have:=Int.emod_lt_of_pos once (show (0:Int) < 40009 by decide)
     exact ⟨by omega,by omega⟩
   generalize hW:((once+(c+1)) * (once % 40009+7)) % 2147483629=twice
   refine ⟨_,rfl,_,_,rfl,rfl,.inr ⟨by decide,by decide⟩,_,rfl,_,_,rfl,rfl,_,_,rfl,rfl,(by show (0:Int) < _;decide),_,_,rfl,rfl,⟨by decide,by decide⟩,_,rfl,_,_,rfl,rfl,hm0,?_⟩
   exact q _ _ (Int.emod_nonneg _ (by omega)) (Int.emod_lt_of_pos _ hm0) ⟨a,b,c+1,hp1,ha,by omega,by omega⟩ (Kp.upd _ _ _)
end
structure Txt (K:PySem.W.Frag)(mg:Str→Option Value):Prop extends Yh mg where
 base:∃ t,mg "BASE"=some (.int 4 t)
 zero:∃ t,mg "BARE_NUMBER"=some (.int 0 t)
 bare:∃ a,mg "BARE"=some (.ref a)∧∀ H,SqT K H a [.str "bare"]
 figs:∃ a,mg "FIGURES"=some (.ref a)∧∀ H,SqT K H a [.int 0,.int 1,.int 2,.int 3]
section
variable {P:Program}{w:World}{K:PySem.W.Frag}{mg:Str→Option Value}{base:Heap}
theorem LamAt.same {H H':Hp}{Pl:Addr}{lpos:Pos}{q:Str}(h:LamAt H Pl lpos q)(s:Same H H'):LamAt H' Pl lpos q:=by
 rcases h with h | ⟨c,h,h2⟩
 · exact .inl (s _ _ h)
 · exact .inr ⟨c,s _ _ h,s _ _ h2⟩
end
end K34
set_option maxHeartbeats 4000000
namespace K34
open PySem L2
structure Zcv (K:PySem.W.Frag)(C:Addr):Prop where
 cl:Cls K C
 nN:NoAttr K C "nodes"
 nT:NoAttr K C "tables"
section
variable {P:Program}{w:World}{K:PySem.W.Frag}{mg:Str→Option Value}{base:Heap}{C:Addr}
def Zbw (K:PySem.W.Frag)(C:Addr):Sp:=fun vs H Q _=>∃(p dx:Addr),vs=[.ref p]∧H p=some (.ins C dx [])∧∀(ln dt:Addr)(H':Hp),H ln=none→H dt=none→StoreAt K C p ln dt H' [.bare] [(Sum.inl 0,.bl true)]→Kq [p] H H'→Q .non H'
theorem scIn:Zu ["self"] ["self"] (Zi c_Store___init__):=⟨rfl,rfl,rfl,by decide +kernel,rfl,by decide +kernel,by decide +kernel⟩
theorem ZdI {f:Addr}{fd:FuncData}(F:Fun K "__init__" "Store.__init__" c_Store___init__ f fd)(T:Txt K mg)(TC:Zcv K C):FnOk P w K mg base ZG 1 f fd ["self"] (Zbw K C):=by
 refine F.ok scIn (fun vs H Q E h=>?_) (fun cdv A outer s H vs Q E hr h=>?_)
 · obtain ⟨p,dx,rfl,_⟩:=h;rfl
 obtain ⟨p,dx,rfl,hp,q⟩:=h
 obtain ⟨ab,hb,hbt⟩:=T.bare
 obtain ⟨tz,hz⟩:=T.zero
 refine ⟨_,Ze (ZQ (pv 0) (ZA (Zg (Zv rfl hb (v:=.ref ab) rfl) Zb)) rfl) (Zl (ZQ (pv 0) (ZdP (Zcc (Zv rfl hz (v:=.int 0) ⟨_,rfl⟩) YJ ZdK) rfl rfl (by simp) (by decide)) rfl)),?_⟩
 refine ⟨(by show 1≤sizeLine;decide),fun ln hln=>?_⟩
 have npl:p≠ln:=Zm hp hln
 refine ⟨_,rfl,p,C,dx,[],rfl,(by rw [Zc npl];exact hp),TC.cl,TC.nN,(by show 0 < 1000;decide),?_⟩
 intro dt hdt
 have npd:p≠dt:=fun z=>by rw [← z,Zd] at hdt;cases hdt
 have nld:ln≠dt:=fun z=>by rw [← z,Zc npl.symm,Zd] at hdt;cases hdt
 have hdt0:H dt=none:=by rw [Zc npd.symm,Zc nld.symm] at hdt;exact hdt
 refine ⟨Zd,[(Sum.inl 0,.bl true)],rfl,by decide,_,rfl,p,C,dx,_,rfl,(by rw [Zc npd,Zc npd,Zd]),TC.cl,TC.nT,(by show 1 < 1000;decide),?_⟩
 refine q ln dt _ hln hdt0 ⟨⟨dx,Zd⟩,⟨[ab],?_,rfl,fun i a n e1 e2=>?_⟩,?_⟩ fun b o nb e=>?_
 · rw [Zc npl.symm,Zc nld,Zc nld,Zc npl.symm,Zd];rfl
 · cases i with
   | zero =>
     cases (show some ab=some a from e1)
     cases (show some Nd.bare=some n from e2)
     exact hbt _
   | succ i=>simp at e1
 · rw [Zc npd.symm,Zd];rfl
 · have nb':b≠p:=fun z=>nb (by simp [z])
   rw [Zc nb',Zc (Zm e hdt0),Zc (Zm e hdt0),Zc nb',Zc (Zm e hln)];exact e
end
end K34
set_option maxHeartbeats 4000000
namespace K34
open PySem L2
section
variable {P:Program}{w:World}{K:PySem.W.Frag}{mg:Str→Option Value}{base:Heap}{C:Addr}
end
end K34
set_option maxHeartbeats 4000000
namespace K34
open PySem L2
section
variable {P:Program}{w:World}{K:PySem.W.Frag}{mg:Str→Option Value}{base:Heap}{C:Addr}
end
end K34
set_option maxHeartbeats 4000000
namespace K34
open PySem L2
section
variable {NS:List Str}{nds nds':List Nd}{F F':Str→Option V}
end
end K34
set_option maxHeartbeats 4000000
namespace K34
open PySem L2
section
variable {NS:List Str}{nds nds':List Nd}{F F':Str→Option V}
end
end K34
set_option maxHeartbeats 4000000
namespace K34
open PySem L2
section
variable {P:Program}{w:World}{K:PySem.W.Frag}{mg:Str→Option Value}{base:Heap}{C Pl:Addr}{NS:List Str}
end
end K34
set_option maxHeartbeats 4000000
namespace K34
open PySem L2
section
variable {P:Program}{w:World}{K:PySem.W.Frag}{mg:Str→Option Value}{base:Heap}{C Pl:Addr}{NS:List Str}
end
end K34
set_option maxHeartbeats 4000000
namespace K34
open PySem L2
section
variable {NS:List Str}{nds nds':List Nd}{F F':Str→Option V}
end
section
variable {P:Program}{w:World}{K:PySem.W.Frag}{mg:Str→Option Value}{base:Heap}{C Pl:Addr}{NS:List Str}
end
end K34
set_option maxHeartbeats 2000000
namespace L2
open PySem PySem.Spec PyProof.Rows
section
variable {X:Cx}{elt iter tg cnd:Expr}{xa xb:Str}{pos:Pos}{scope:Scope}{wi:TI}{te:TE}{tc:TT}{g:TG}
end
end L2
set_option maxHeartbeats 2000000
namespace L2
open PySem PySem.Spec PyProof.Rows
theorem Sep.nest {a:Addr}{Δ:Rs}:∀{Γ:Rs}{H h:Hp},Same h H→Sep Γ h→Sep Δ (Wl H h)→Sep (Γ++Δ) H
 | [],_,_,_,_,S=>S.mono UZ
 | (b,T)::Γ,H,h,l,⟨g,m,t,G⟩,S=>by
   refine ⟨g,m.trans l,t,Sep.nest (a:=a) (h:=Wl h g) (UV l) G (S.mono fun c o e=>?_)⟩
   obtain ⟨e1,e2⟩:=cut_some.mp e
   refine cut_some.mpr ⟨cut_some.mpr ⟨e1,fun u q=>e2 u (m _ _ q)⟩,fun u q=>e2 u (cut_some.mp q).1⟩
theorem Sep.pack' {Δ:Rs}:∀{Γ:Rs}{H:Hp},Sep (Γ++Δ) H→∃ h,Same h H∧Sep Γ h∧Sep Δ (Wl H h)
 | [],H,S=>⟨fun _=>none,fun b o e=>(by cases e),trivial,S.mono fun b o e=>cut_some.mpr ⟨e,fun u q=>(by cases q)⟩⟩
 | (b,T)::Γ,H,⟨g,m,t,S⟩=>by
   obtain ⟨h',l',G,S⟩:=Sep.pack' S
   refine ⟨fun c=>match g c with | some o=>some o | none=>h' c,fun c o e=>?_,⟨g,fun c o e=>?_,t,G.mono fun c o e=>?_⟩,S.mono fun c o e=>?_⟩
   · cases q:g c with
     | some u=>simp only [q] at e;cases e;exact m _ _ q
     | none=>simp only [q] at e;exact (cut_some.mp (l' _ _ e)).1
   · simp only [e]
   · obtain ⟨e1,e2⟩:=cut_some.mp (l' _ _ e)
     refine cut_some.mpr ⟨?_,e2⟩
     cases q:g c with
     | some u=>simp only [q];rw [m _ _ q] at e1;exact e1
     | none=>simp only [q];exact e
   · obtain ⟨e1,e2⟩:=cut_some.mp e
     obtain ⟨e3,e4⟩:=cut_some.mp e1
     refine cut_some.mpr ⟨e3,fun u q=>?_⟩
     cases z:g c with
     | some v=>simp only [z] at q;cases q;exact e4 _ z
     | none=>simp only [z] at q;exact e2 _ q
theorem Sep.pack {a:Addr}{Γ Δ:Rs}{H:Hp}{R:ZS}(S:Sep (Γ++Δ) H)(f:∀ h,Sep Γ h→R a h):Sep ((a,R)::Δ) H:=by
 obtain ⟨h,l,G,S⟩:=Sep.pack' S
 exact ⟨h,l,f h G,S⟩
section
variable {X:Cx}
def rNeD:R2:=fun x y H Q=>∃ dx dy,DataOf H x dx∧DataOf H y dy∧dx.canLay0=true∧dy.canLay0=true∧dx.depth≤60∧Q (.bl (!PyData.eqv dx dy)) H
theorem ZeQ (hu:X.A.units+64 < cLine):ZX X (compareOp .NotEq) rNeD:=by
 intro pins s σ H x y v u Q I rx ry h
 obtain ⟨dx,dy,d1,d2,c1,c2,hd,q⟩:=h
 obtain ⟨_,as,r1⟩:=DataOf.reads I.hok v d1 rx
 obtain ⟨_,bs,r2⟩:=DataOf.reads I.hok u d2 ry
 exact SeqAt.compareNe_reads r1 r2 c1 c2 (by omega) ⟨.bl _,H,I,rfl,q⟩
end
section
variable {X:Cx}{k:Nat}{C:Addr}{x m:Str}{ps:List Str}{sp:Sp}{p pos apos:Pos}{o:Expr}{ta:TE}
theorem Xs {pl:Sem Bool}(D:DefM X.prog X.w X.K X.mg X.base k C m ps sp)(c:Cls X.K C)(hr:Room k X.A)(he:PE X o ta)
   (ht:eval (.Call (.Attribute o m apos) [] [] pos) X.env=(do
     let ov ← eval o X.env
     standAt apos.atName
     let (f,first) ← holding [ov] (getMethod ov m pl)
     callWith pos f first (backTo pos (starEach [] X.env)) (backToKw pos (keywordEach [] X.env))):=by rfl) :
   PE X (.Call (.Attribute o m apos) [] [] pos) (UD C m sp [] E0 ta WR):=by
 obtain ⟨f,fd,F,b,q⟩:=D
 exact Zcf he c q F hr b .nil UE ht
end
end L2
set_option maxHeartbeats 2000000
namespace L2
open PySem PySem.Spec PyProof.Rows
section
variable {X:Cx}
end
end L2
set_option maxHeartbeats 2000000
namespace L2
open PySem PySem.Spec PyProof.Rows
end L2
set_option maxHeartbeats 2000000
namespace L2
open PySem PySem.Spec PyProof.Rows
section
variable {X:Cx}
end
end L2
set_option maxHeartbeats 2000000
namespace L2
open PySem
theorem Sep.newE {Δ:Rs}{H H2:Hp}{o:HO}(S:Sep Δ H){p:Addr}(hp:H p=none)(e:upd H p o=H2):Sep ((p,Pt o)::Δ) H2:=e ▸ S.new hp o
theorem Sep.putE {Δ Δ':Rs}{H H2:Hp}{o o':HO}{a:Addr}(S:Sep Δ H)(e:upd H a o'=H2)[P:Pull a Δ (Pt o) Δ'](m:Ym o=true:=by rfl):Sep ((a,Pt o')::Δ') H2:=e ▸ S.put a o' m
theorem VM {lo:Int}{n:Nat}{te:TE}{σ:St}{D:Addr}{Q:VK}{H:Hp}{Δ:Rs}(hn:n≤sizeLine)(S:Sep Δ H)(hD:H D=none)(J:Nat→List V→Rs→Prop)(h0:J 0 [] Δ)
   (hs:∀ i ys Δ H,i < n→ys.length=i→J i ys Δ→Sep ((D,ZU ys)::Δ) H→te (σ++[some (.int (lo+i))]) H fun y H4=>∃ Δ',J (i+1) (ys++[y]) Δ'∧Sep ((D,ZU ys)::Δ') H4)
   (hd:∀ ys Δ H,J n ys Δ→ys.length=n→Sep ((D,ZU ys)::Δ) H→Q (.ref D) H):Zau (Vt lo n) te σ D Q H:=by
 refine ⟨fun i m ys H=>m=n - i∧i≤n∧ys.length=i∧∃ Δ,J i ys Δ∧Sep ((D,ZU ys)::Δ) H,⟨n,by simp,Nat.zero_le _,rfl,Δ,h0,S.new hD _⟩,?_⟩
 rintro i m ys H2 ⟨rfl,hi,hl,Δ,j,S⟩
 by_cases hlt:i < n
 · refine .inr ⟨hlt,_,fun y H4 (q:∃ Δ',J (i+1) (ys++[y]) Δ'∧Sep ((D,ZU ys)::Δ') H4)=>?_,fun v H3 y=>?_⟩
   · obtain ⟨Δ',j',S'⟩:=q
     exact ⟨S'.get D,by omega,n - (i+1),by omega,rfl,hlt,by simp [hl],Δ',j',S'.put D _⟩
   · obtain ⟨e1,e2⟩:=y
     subst e1 e2
     exact hs i ys Δ _ hlt hl j S
 · have e:i=n:=by omega
   exact .inl ⟨by show n≤i;omega,hd ys Δ H2 (e ▸ j) (by omega) S⟩
end L2
set_option maxHeartbeats 2000000
namespace L2
open PySem
theorem Sep.le {Δ:Rs}{H:Hp}{p:Addr}{n m:Nat}(S:Sep ((p,Bx n)::Δ) H)(h:n≤m):Sep ((p,Bx m)::Δ) H:=by
 obtain ⟨g,l,r,S⟩:=S
 exact ⟨g,l,BoxAt.le r h,S⟩
def Vy (K:PySem.W.Frag):Sp:=fun vs H Q _=>∃(a:Addr)(ns:List Int)(k:Int)(Δ:Rs),vs=[.ref a,.int k]∧SqL K H a (ns.map V.int)∧Sep Δ H∧0≤k∧k≤1000∧∀(p:Addr)(H':Hp),Same H H'→Sep ((p,Bx 0)::Δ) H'→Q (.ref p) H'
theorem ZfY {K:PySem.W.Frag}{vs:List V}{H:Hp}{Q:VK}{E:XK}(h:Vy K vs H Q E):Zdo K vs H Q E:=by
 obtain ⟨a,ns,k,Δ,e,hS,S,h1,h2,q⟩:=h
 refine ⟨a,ns,k,e,hS,h1,h2,fun p H' hp B s=>q p H' s ?_⟩
 obtain ⟨x,y,z,eb,w⟩:=B
 exact (S.made s hp eb).say p (Bx 0) fun h r=>⟨x,y,z,r,w⟩
theorem Zcb {xs:List V}{i:Nat}:Wm xs none (some (i:Int))=xs.take i:=by
 unfold Wm
 rw [HT.sIx_none,HT.sIx_nat,List.drop_zero,Nat.sub_zero]
 by_cases h:i≤xs.length
 · rw [Nat.min_eq_left h]
 · rw [Nat.min_eq_right (by omega),List.take_of_length_le (Nat.le_refl _),List.take_of_length_le (by omega)]
inductive Stp where
 | set (x:Str) (v:V)
 | clr (x:Str)
def Stp.vs:Stp→List V
 | .set x v=>[.str "set",.str x,v]
 | .clr x=>[.str "clear",.str x]
class IsLst (R:ZS) (k:Nat):Prop where
 lst:∀ {a h},R a h→∃ xs,h a=some (.lst xs)∧xs.length=k
end L2
set_option maxHeartbeats 2000000
namespace L2
open PySem
def Sto (K:PySem.W.Frag)(C:Addr)(nds:List Nd)(tabs:List (Zw×V)):ZS:=fun st h=>nds[0]?=some .bare∧∃ ln dt,StoreAt K C st ln dt h nds tabs
instance {K:PySem.W.Frag} {C:Addr} {nds:List Nd} {tabs:List (Zw×V)}:Up (Sto K C nds tabs):=⟨fun ⟨h0,ln,dt,h⟩ s=>⟨h0,ln,dt,h.keep s⟩⟩
def some_of (H:Hp)(L:List Addr):Hp:=fun b=>if b∈L then H b else match H b with
 | some o=>if Ym o=true then none else some o
 | none=>none
theorem WZ {H:Hp}{L:List Addr}:Same (some_of H L) H:=fun b o e=>by
 unfold some_of at e
 split at e
 · exact e
 · split at e
   · rename_i o' h'
     split at e
     · cases e
     · cases e;exact h'
   · cases e
theorem Xm {H:Hp}{L:List Addr}{b:Addr}(h:b∈L):some_of H L b=H b:=by unfold some_of;rw [if_pos h]
theorem Wc {H:Hp}{L:List Addr}{b:Addr}{o:HO}(e:H b=some o)(m:Ym o=false):some_of H L b=some o:=by
 unfold some_of
 split
 · exact e
 · simp only [e,m,Bool.false_eq_true,if_false]
theorem Wr {H:Hp}{L:List Addr}{b:Addr}{o:HO}(e:some_of H L b=some o)(m:Ym o=true):b∈L:=by
 unfold some_of at e
 split at e
 · assumption
 · split at e
   · split at e
     · cases e
     · rename_i h;cases e;exact absurd m h
   · cases e
theorem ZdN {H:Hp}{L:List Addr}:TF H (some_of H L):=⟨fun b xs e=>Wc e rfl,fun b o u e=>Wc e rfl⟩
def YF (C:Addr)(fs:List (Str×V)):ZS:=fun a h=>∃ dx,h a=some (.ins C dx fs)
instance {C:Addr} {fs:List (Str×V)}:Up (YF C fs):=⟨fun ⟨dx,h⟩ s=>⟨dx,s _ _ h⟩⟩
end L2
set_option maxHeartbeats 4000000
namespace K34
open PySem L2
section
variable {P:Program}{w:World}{K:PySem.W.Frag}{mg:Str→Option Value}{base:Heap}{C Pl:Addr}{NS:List Str}
def WY (K:PySem.W.Frag)(C:Addr):Sp:=fun vs H Q _=>∃(p dx:Addr)(H0:Hp)(Δ:Rs),vs=[.ref p]∧H=upd (upd H0 dx (.own p)) p (.ins C dx [])∧H0 p=none∧H0 dx=none∧dx≠p∧Sep Δ H0∧∀ H',Same H0 H'→Sep ((p,Sto K C [.bare] [(Sum.inl 0,.bl true)])::Δ) H'→Q .non H'
theorem Zfe {vs:List V}{H:Hp}{Q:VK}{E:XK}(h:WY K C vs H Q E):Zbw K C vs H Q E:=by
 obtain ⟨p,dx,H0,Δ,e,rfl,h1,h2,h3,S,q⟩:=h
 refine ⟨p,dx,e,Zd,fun ln dt H' hln hdt SA kq=>?_⟩
 have sH:Same H0 (upd (upd H0 dx (.own p)) p (.ins C dx [])):=(Zf h2 _).trans (Zf (by rw [Zc h3.symm];exact h1) _)
 have s0:Same H0 H':=fun b o e=>kq b o (by simp only [List.mem_singleton];exact Zm e h1) (sH b o e)
 refine q H' s0 ?_
 have n1:=Um sH hln
 have n2:=Um sH hdt
 obtain ⟨dx',ob⟩:=SA.ob
 obtain ⟨as,nl,nlen,nod⟩:=SA.nl
 refine ⟨some_of H' [p,ln,dt],WZ,⟨rfl,ln,dt,⟨⟨dx',by rw [Xm (by simp)];exact ob⟩,⟨as,by rw [Xm (by simp)];exact nl,nlen,fun i a n e1 e2=>(nod i a n e1 e2).tf ZdN⟩,by rw [Xm (by simp)];exact SA.tb⟩⟩,S.mono fun b o e=>cut_some.mpr ⟨s0 _ _ e,fun u z=>?_⟩⟩
 cases m:Ym u with
 | false=>rfl
 | true =>
   have:=Wr z m
   simp only [List.mem_cons,List.not_mem_nil,or_false] at this
   rcases this with z | z | z
   · exact absurd z (Zm e h1)
   · exact absurd z (Zm e n1)
   · exact absurd z (Zm e n2)
def Zan (K:PySem.W.Frag)(C:Addr):Sp:=fun vs H Q _=>∃ v,vs=[v]∧Q (.int 0) H
theorem scEm:Zu ["self"] ["self"] (Zi c_Store_empty):=⟨rfl,rfl,rfl,by decide +kernel,rfl,by decide +kernel,by decide +kernel⟩
theorem ZcG {f:Addr}{fd:FuncData}(F:Fun K "empty" "Store.empty" c_Store_empty f fd)(T:Txt K mg):FnOk P w K mg base ZG 1 f fd ["self"] (Zan K C):=by
 refine F.ok scEm (fun vs H Q E h=>?_) (fun cdv A outer s H vs Q E hr h=>?_)
 · obtain ⟨v,rfl,_⟩:=h;rfl
 obtain ⟨v,rfl,q⟩:=h
 obtain ⟨tz,hz⟩:=T.zero
 exact ⟨_,Zl (ZB (Zv rfl hz (v:=.int 0) ⟨_,rfl⟩)),q⟩
end
end K34
set_option maxHeartbeats 2000000
namespace L2
open PySem
structure Plc where
 ah:Nat
 st:Stp
 tb:Nat
 co:Nat
def Zct (ss:List Stp):ZS:=fun l h=>∃ as:List Addr,h l=some (.lst (V.non::as.map V.ref))∧as.length=ss.length∧∀(i:Nat)(a:Addr)(s:Stp),as[i]?=some a→ss[i]?=some s→h a=some (.tup s.vs)
abbrev rFl (st la ls lt lc:Addr):List (Str×V):=[("kept",.ref st),("aheads",.ref la),("steps",.ref ls),("tables",.ref lt),("costs",.ref lc)]
abbrev RoaL (K:PySem.W.Frag)(CR CS:Addr)(pls:List Plc)(nds:List Nd)(tabs:List (Zw×V))(r st la ls lt lc:Addr):Rs :=
 [(r,YF CR (rFl st la ls lt lc)),(st,Sto K CS nds tabs),(la,ZU (V.non::pls.map fun q=>V.int (q.ah:Int))),(ls,Zct (pls.map (·.st))),(lt,ZU (V.int 0::pls.map fun q=>V.int (q.tb:Int))),(lc,ZU (V.int 0::pls.map fun q=>V.int (q.co:Int)))]
def Roa (K:PySem.W.Frag)(CR CS:Addr)(pls:List Plc)(nds:List Nd)(tabs:List (Zw×V)):ZS:=fun r h=>∃ st la ls lt lc,Sep (RoaL K CR CS pls nds tabs r st la ls lt lc) h
theorem Sep.roaC {K:PySem.W.Frag}{CR CS r st la ls lt lc:Addr}{pls:List Plc}{nds:List Nd}{tabs:List (Zw×V)}{Δ:Rs}{H:Hp}(S:Sep ((r,YF CR (rFl st la ls lt lc))::(st,Sto K CS nds tabs)::(la,ZU (V.non::pls.map fun q=>V.int (q.ah:Int)))::(ls,Zct (pls.map (·.st)))::(lt,ZU (V.int 0::pls.map fun q=>V.int (q.tb:Int)))::(lc,ZU (V.int 0::pls.map fun q=>V.int (q.co:Int)))::Δ) H):Sep ((r,Roa K CR CS pls nds tabs)::Δ) H :=
 Sep.pack (Γ:=RoaL K CR CS pls nds tabs r st la ls lt lc) S fun h G=>⟨st,la,ls,lt,lc,G⟩
end L2
set_option maxHeartbeats 4000000
namespace K34
open PySem L2
structure TxtR (K:PySem.W.Frag)(CR:Addr):Prop where
 cl:Cls K CR
 nk:NoAttr K CR "kept"
 na:NoAttr K CR "aheads"
 ns:NoAttr K CR "steps"
 nt:NoAttr K CR "tables"
 nc:NoAttr K CR "costs"
section
variable {P:Program}{w:World}{K:PySem.W.Frag}{mg:Str→Option Value}{base:Heap}{CR CS Pl:Addr}{NS:List Str}
end
end K34
set_option maxHeartbeats 4000000
namespace K34
open PySem L2
section
variable {P:Program}{w:World}{K:PySem.W.Frag}{mg:Str→Option Value}{base:Heap}{CR CS Pl:Addr}{NS:List Str}
end
end K34
set_option maxHeartbeats 4000000
namespace K34
open PySem L2
section
variable {P:Program}{w:World}{K:PySem.W.Frag}{mg:Str→Option Value}{base:Heap}{CR CS Pl:Addr}
end
end K34
set_option maxHeartbeats 4000000
namespace K34
open PySem L2
section
variable {P:Program}{w:World}{K:PySem.W.Frag}{mg:Str→Option Value}{base:Heap}{CR CS Pl:Addr}
def Zad (K:PySem.W.Frag)(CR CS:Addr):Sp:=fun vs H Q _=>∃(r dx:Addr)(H0:Hp)(Δ:Rs),vs=[.ref r]∧H=upd (upd H0 dx (.own r)) r (.ins CR dx [])∧H0 r=none∧H0 dx=none∧dx≠r∧Sep Δ H0∧∀ H',Sep ((r,Roa K CR CS [] [.bare] [(Sum.inl 0,.bl true)])::Δ) H'→Q .non H'
abbrev nRIn:List Str:=["self"]
abbrev Zdd:List Str:=["self"]
theorem ZfL:Zu nRIn Zdd (Zi c_Roads___init__):=⟨rfl,rfl,rfl,by decide +kernel,rfl,by decide +kernel,by decide +kernel⟩
theorem ZcA {f:Addr}{fd:FuncData}(F:Fun K "__init__" "Roads.__init__" c_Roads___init__ f fd)(T:Yh mg)(TR:TxtR K CR)(TC:Zcv K CS)(DSto:WX P w K mg base 1 CS "Store" ["self"] (WY K CS))(DS_empty:DefM P w K mg base 2 CS "empty" ["self"] (Zan K CS)):FnOk P w K mg base ZG 3 f fd Zdd (Zad K CR CS):=by
 refine F.ok ZfL (fun vs H Q E h=>?_) (fun cdv A outer s H vs Q E hr h=>?_)
 · obtain ⟨r,dx,H0,Δ,rfl,_⟩:=h;rfl
 obtain ⟨r,dx,H0,Δ,rfl,rfl,h1,h2,h3,S0,q⟩:=h
 have S:=((S0.new h2 (.own r)).new (p:=r) (by rw [Zc h3.symm];exact h1) (.ins CR dx [])).drop dx
 generalize upd (upd H0 dx (.own r)) r (.ins CR dx [])=H at *
 refine' ⟨?t,?h,?r⟩
 case h =>
   conv=>arg 2;whnf
   with_reducible refine' (Ze ?h1 (Ze ?h2 (Ze ?h3 (Ze ?h4 (Zl ?h5)))))
   case h1=>exact ZQ (pv 0) (UF DSto hr) rfl
   case h2=>exact ZQ (pv 0) (ZA (Zg YE Zb)) rfl
   case h3=>exact ZQ (pv 0) (ZA (Zg YE Zb)) rfl
   case h4=>exact ZQ (pv 0) (ZA (Zg (Xs DS_empty TC.cl hr (Ya (pv 0) rfl)) Zb)) rfl
   case h5=>exact ZQ (pv 0) (ZA (Zg Zh Zb)) rfl
 intro st dx2 hst hdx2 hne
 refine ⟨st,dx2,_,_,rfl,rfl,hst,hdx2,hne,S,fun H1 _ S1=>⟨rfl,?_⟩⟩
 refine ⟨_,rfl,r,CR,dx,_,rfl,S1.get r,TR.cl,TR.nk,(by show 0 < 1000;decide),?_⟩
 generalize hE:upd H1 r _=H2
 have S2:=S1.putE hE
 clear hE
 refine ⟨(by show 1≤sizeLine;decide),fun la hla=>?_⟩
 generalize hE:upd H2 la _=H3
 have S3:=S2.newE hla hE
 clear hE
 refine ⟨_,rfl,r,CR,dx,_,rfl,S3.get r,TR.cl,TR.na,(by show 1 < 1000;decide),?_⟩
 generalize hE:upd H3 r _=H4
 have S4:=S3.putE hE
 clear hE
 refine ⟨(by show 1≤sizeLine;decide),fun ls hls=>?_⟩
 generalize hE:upd H4 ls _=H5
 have S5:=S4.newE hls hE
 clear hE
 refine ⟨_,rfl,r,CR,dx,_,rfl,S5.get r,TR.cl,TR.ns,(by show 2 < 1000;decide),?_⟩
 generalize hE:upd H5 r _=H6
 have S6:=S5.putE hE
 clear hE
 obtain ⟨b0,ln,dt,SA⟩:=S6.get st
 obtain ⟨dxs,obs⟩:=SA.ob
 refine ⟨_,rfl,r,CR,dx,_,_,rfl,S6.get r,TR.cl,TR.nk,rfl,st,dxs,_,rfl,obs,Zei ln dt (by decide +kernel) (by decide +kernel),_,rfl,(by show 1≤sizeLine;decide),fun lt hlt=>?_⟩
 generalize hE:upd H6 lt _=H7
 have S7:=S6.newE hlt hE
 clear hE
 refine ⟨_,rfl,r,CR,dx,_,rfl,S7.get r,TR.cl,TR.nt,(by show 3 < 1000;decide),?_⟩
 generalize hE:upd H7 r _=H8
 have S8:=S7.putE hE
 clear hE
 refine ⟨(by show 1≤sizeLine;decide),fun lc hlc=>?_⟩
 generalize hE:upd H8 lc _=H9
 have S9:=S8.newE hlc hE
 clear hE
 refine ⟨_,rfl,r,CR,dx,_,rfl,S9.get r,TR.cl,TR.nc,(by show 4 < 1000;decide),?_⟩
 generalize hE:upd H9 r _=H10
 have S10:=S9.putE hE
 clear hE
 have S11:=S10.say ls (Zct []) fun h z=>⟨[],z,rfl,fun i a s e=>by simp at e⟩
 have S12:=S11.say r (YF CR (rFl st la ls lt lc)) fun h z=>⟨dx,z⟩
 have S13:=(((((S12.pull lc).pull lt).pull ls).pull la).pull st).pull r
 exact q _ (Sep.roaC (pls:=[]) S13)
end
end K34
set_option maxHeartbeats 1000000
namespace L2
open PySem PySem.Spec PyProof.Rows
abbrev vMro:List Value:=[.type "ValueError",.type "Exception",.type "BaseException",.type "object"]
inductive VT:List Value→Prop
 | base:VT vMro
 | own {a:Addr} {r:List Value}:VT r→VT (.ref a::r)
def Zbb:List Value→Bool
 | .ref _::r=>Zbb r
 | l=>decide (l=vMro)
theorem VT.of:∀{l:List Value},Zbb l=true→VT l
 | [],h=>nomatch (of_decide_eq_true h:([]:List Value)=vMro)
 | v::r,h=>by cases v<;>first | exact .own (VT.of h) | (have e:=of_decide_eq_true h;rw [e];exact .base)
theorem VT.has {l:List Value}(T:VT l){x:String}{b:Bool}(hb:vMro.contains (.type x)=b):l.contains (.type x)=b:=by
 induction T with
 | base=>exact hb
 | own _ ih=>rw [List.contains_cons,ih];rfl
theorem VT.refuse {l:List Value}(T:VT l)(self:Value):refuseLoop self "__setattr__" l=pure ():=by
 induction T with
 | base=>exact PySem.F.store_ValueError.passes self
 | own _ ih=>rw [refuseLoop_ref];exact ih
def UT (K:PySem.W.Frag)(C:Addr):Bool:=match K.lookup C with
 | some ⟨.type "type",_,.cls cd,sl⟩=>(match cd.mro,sl.toList with
   | .ref C'::bm,[_,_,_,_,some (.builtin n),_]=>C' == C&&!cd.hasDel&&cd.hasDict&&n == "ValueError.__new__"&&Zbb bm
   | _,_=>false)
 | _=>false
theorem XV {K:PySem.W.Frag}{h:Heap}{C:Addr}(X:K.In h)(q:UT K C=true):∃ nm qn N bs bm sn sub ab col dd k0 k1 k2 k3 k5,
   h.get? C=some (excClassObj nm qn C N bs bm true sn sub ab col dd k0 k1 k2 k3 k5 "ValueError.__new__")∧VT bm:=by
 unfold UT at q
 split at q
 · rename_i dd cd sl ho
   split at q
   · rename_i C' bm k0 k1 k2 k3 n k5 hm hs
     simp only [Bool.and_eq_true,beq_iff_eq,Bool.not_eq_true'] at q
     obtain ⟨⟨⟨⟨rfl,hdel⟩,hdi⟩,rfl⟩,ht⟩:=q
     obtain ⟨nm,bs,mro,ns,qn,hd,sn,sub,ab,col,Ul⟩:=cd
     dsimp only at hm hdel hdi
     subst hm hdel hdi
     have hsl:sl=#[k0,k1,k2,k3,some (.builtin "ValueError.__new__"),k5]:=by
       obtain ⟨l⟩:=sl
       simp only at hs
       rw [hs]
     subst hsl
     exact ⟨nm,qn,ns,bs,bm,sn,sub,ab,col,dd,k0,k1,k2,k3,k5,X _ _ ho,.of ht⟩
   · cases q
 · cases q
section
variable {prog:Program}{w:World}{A:Around}{E:Value→Shared→Prop}{h:Heap}{g:Array GenState}{d:Drawn}{t:Nat}{os:OsState}
variable {nm q:Str}{C N:Addr}{bs bm:List Value}{sn:List Str}{sub:List Value}{ab:Bool}{col:Option Bool}{dd:Option Addr}{k0 k1 k2 k3 k5:Option Value}
theorem VN {M:Model}(T:VT bm){rest:List Value}{Q:Unit→Shared→Prop}(hC:h.get? C=some (excClassObj nm q C N bs bm true sn sub ab col dd k0 k1 k2 k3 k5 "ValueError.__new__"))
   (hq:Q () ⟨h,g,d,t,os⟩):wpAny M A (checkBuiltinCall "ValueError.__new__" ⟨.ref C::rest,[]⟩) Q E ⟨h,g,d,t,os⟩:=by
 have F:=PySem.F.excBase_ValueError
 have hcont:(Value.ref C::bm).contains (.type "ValueError")=true:=by rw [List.contains_cons,T.has F.hasB,Bool.or_true]
 have hstar:=F.noStar
 simp only [checkBuiltinCall,F.newKind,F.newSplit,F.newRow]
 repeat (first | refine wpAny_loadPart_at hC ?_ | (refine wpAny_isSubtype_exc hC ?_;rw [hcont]) | refine wpAny_staticBase_exc hC ?_ | refine wpAny_madeBy_exc hC ?_ | simp only [bne_self_eq_false,Bool.false_eq_true,if_false] | wp_step)
 exact hq
theorem Zge {R:Result→Shared→Prop}(T:VT bm){rest:List Value}(hC:h.get? C=some (excClassObj nm q C N bs bm true sn sub ab col dd k0 k1 k2 k3 k5 "ValueError.__new__"))
   (hq:R (.ok (.ret (.ref (h.objs.size+1)))) ⟨(h.push { cls:=.type "tuple",data:=.seq rest.toArray }).push
     { cls:=.ref C,data:=.fields #[.ref h.objs.size,.none,.none,.none,.bool false,.none] },g,d,t,os⟩) (hrest:rest.length≤sizeLine) :
   codeAny (model prog w) A (.builtin "ValueError.__new__" ⟨.ref C::rest,[]⟩) R ⟨h,g,d,t,os⟩:=by
 have F:=PySem.F.excBase_ValueError
 have hends:=F.ends
 have hcB:(Value.ref C::bm).contains (.type "ValueError")=true:=by rw [List.contains_cons,T.has F.hasB,Bool.or_true]
 have hcA:(Value.ref C::bm).contains (.type "AttributeError")=false:=by rw [List.contains_cons,T.has F.noAttr];rfl
 have hcN:(Value.ref C::bm).contains (.type "NameError")=false:=by rw [List.contains_cons,T.has F.noName];rfl
 refine codeAny_builtinAt F.entry ?_
 unfold Builtin.«BaseException.__new__»
 refine PySem.wpAt_bind ?_
 show PySem.wpAt _ _ _ (stack >>= _) _ _ _
 refine PySem.wpAt_bind (PySem.wpAt_stack fun p below=>PySem.wpAt_of_wpAny ?_)
 wp_walk
 refine PySem.wpAt_of_wpAny ?_
 rw [F.owner]
 repeat (first | with_reducible refine wpAny_madeHere_exc F.canon hC ?_ | with_reducible refine wpAny_loadPart_at hC ?_ | (with_reducible refine wpAny_isSubtype_exc hC ?_;first | rw [hcB] | rw [hcA] | rw [hcN]) | wp_step)
 show R _ _
 rw [Heap.size_push]
 exact hq
theorem VF (T:VT bm){rest:List Value}{fI:Addr}{oI:Obj}{Q:Fin→Shared→Prop}
   (hC:h.get? C=some (excClassObj nm q C N bs bm true sn sub ab col dd k0 k1 k2 k3 k5 "ValueError.__new__")) (LI:PySem.W.Looks (model prog w) h (typeLookup (.ref C) "__init__") (some (.ref fI)))
   (hfI:h.get? fI=some oI) (hfc:oI.cls=.type "function")
   (hq:∀ h' e,Heap.MadeExcOf h h' e (.ref C) rest→h.objs.size≤e →
     wpAny (model prog w) A (call (.ref fI) (.ref e::rest)) (fun r s'=>r=.none∧Q (.done (.ret (.ref e))) s') E ⟨h',g,d,t,os⟩) (hrest:rest.length≤sizeLine) :
   wpAny (model prog w) A (Builtin.«type.__call__» ⟨.ref C::rest,[]⟩) Q E ⟨h,g,d,t,os⟩:=by
 have F:=PySem.F.excBase_ValueError
 repeat (first | with_reducible refine wpAny_loadPart_at hC ?_ | with_reducible refine wpAny_madeBy_exc hC ?_ | wp_step)
 refine codeAny_call_builtin_code (Code.quiet_builtin _ F.quiet) (VN T hC ?_)
 refine Zge T hC ?_ hrest
 show wpAny _ _ _ _ _ _
 have hC₁:=Heap.get?_push_of_some { cls:=.ref C,data:=.fields #[.ref h.objs.size,.none,.none,.none,.bool false,.none] }
   (Heap.get?_push_of_some { cls:=.type "tuple",data:=.seq rest.toArray } hC)
 have hfI₁:=Heap.get?_push_of_some { cls:=.ref C,data:=.fields #[.ref h.objs.size,.none,.none,.none,.bool false,.none] }
   (Heap.get?_push_of_some { cls:=.type "tuple",data:=.seq rest.toArray } hfI)
 have hget:((h.push { cls:=.type "tuple",data:=.seq rest.toArray }).push
     { cls:=.ref C,data:=.fields #[.ref h.objs.size,.none,.none,.none,.bool false,.none] }).get? (h.objs.size+1)=some
     { cls:=.ref C,data:=.fields #[.ref h.objs.size,.none,.none,.none,.bool false,.none] }:=by heap_get
 have hcC:(Value.ref C::bm).contains (.ref C)=true:=by simp
 unfold isInstance
 repeat (first | with_reducible refine wpAny_loadPart_at hget ?_ | (with_reducible refine wpAny_isSubtype_exc hC₁ ?_;rw [hcC]) | wp_step)
 show wpAny _ _ (typeLookup (.ref C) _) _ _ _
 refine (LI.keeps (h':=(h.push { cls:=.type "tuple",data:=.seq rest.toArray }).push { cls:=.ref C,data:=.fields #[.ref h.objs.size,.none,.none,.none,.bool false,.none] }) fun b o e=>Heap.get?_push_of_some _ (Heap.get?_push_of_some _ e)) _ _ _ _ (fun _ _ e=>e) ?_
 refine wpAny_holding (wpAny_bind ?_)
 unfold bindSpecial
 refine wpAny_bind (wpAny_typeOf (T:="function") ⟨_,hfI₁,hfc⟩ ?_)
 rw [if_pos (by decide)]
 refine wpAny_pure (wpAny_bind (wpAny_mono (hq _ (h.objs.size+1) ⟨fun b o hb=>Heap.get?_push_of_some _ (Heap.get?_push_of_some _ hb),Heap.get?_none_of_le (Nat.le_succ _),h.objs.size,hget,Heap.get?_none_of_le (Nat.le_refl _),?_⟩ (Nat.le_succ _)) (fun r s' hr=>?_) fun _ _ x=>x))
 · exact Heap.get?_push_of_some _ (Heap.get?_push_at rfl rfl)
 · obtain ⟨rfl,hQ⟩:=hr
   wp_walk
   exact hQ
theorem ZeV (T:VT bm){rest:List Value}{fI:Addr}{oI:Obj}{Q:Value→Shared→Prop}
   (hC:h.get? C=some (excClassObj nm q C N bs bm true sn sub ab col dd k0 k1 k2 k3 k5 "ValueError.__new__")) (LI:PySem.W.Looks (model prog w) h (typeLookup (.ref C) "__init__") (some (.ref fI)))
   (hfI:h.get? fI=some oI) (hfc:oI.cls=.type "function")
   (hq:∀ h' e,Heap.MadeExcOf h h' e (.ref C) rest→h.objs.size≤e →
     wpAny (model prog w) (A.under (.builtin "type.__call__" ⟨.ref C::rest,[]⟩)) (call (.ref fI) (.ref e::rest)) (fun r s'=>r=.none∧Q (.ref e) s') E ⟨h',g,d,t,os⟩) (hrest:rest.length≤sizeLine) :
   wpAny (model prog w) A (call (.ref C) rest) Q E ⟨h,g,d,t,os⟩:=by
 have f1:=tc_lookup
 have f2:=tc_bind (.ref C)
 have hT:(⟨h,g,d,t,os⟩:Shared).TypeIs (.ref C) "type":=⟨_,hC,rfl⟩
 refine wpAny_call (codeAny_of_tree ?_)
 show wpAny _ _ (callAny (.ref C) _) _ _ _
 repeat (any_goals (first | assumption | with_reducible refine wpAny_loadPart_at hC ?_ | wp_step))
 refine ⟨rfl,?_⟩
 refine codeAny_call_builtin_at (Code.quiet_builtin _ (by decide +kernel)) entry_typeCall (wpAny_check_type_call_sub hC (VF T hC LI hfI hfc (fun h' e hm hle=>?_) hrest))
 exact hq h' e hm hle
theorem ZdS {M:Model}{env:Env}{s:Shared}{x:Sem Value}{Q:Flow→Shared→Prop}(T:VT bm)(hh:A.handled=none)
   (h:wpAny M A x (fun v s₁=>∃ e oe vs,v=.ref e∧s₁.heap.get? C=some (excClassObj nm q C N bs bm true sn sub ab col dd k0 k1 k2 k3 k5 "ValueError.__new__") ∧
     s₁.heap.get? e=some oe∧oe.cls=.ref C∧oe.data=.fields vs∧vs[1]?=some .none∧E (.ref e) s₁) E s) :
   wpAny M A (raiseStmt env (some x) none) Q E s:=by
 have hcB:(Value.ref C::bm).contains (.type "BaseException")=true:=by rw [List.contains_cons,T.has PySem.F.excBase_ValueError.hasBase,Bool.or_true]
 unfold raiseStmt
 refine wpAny_bind (wpAny_mono h (fun v s₁ h₁=>?_) fun _ _ x=>x)
 obtain ⟨e,oe,vs,rfl,hC,he,hcl,hd,h1,hE⟩:=h₁
 obtain ⟨oc,odi,oda,osl⟩:=oe
 dsimp only at hcl hd
 subst hcl hd
 obtain ⟨hp,g,d,tk,os⟩:=s₁
 repeat (first | with_reducible refine wpAny_loadPart_at he ?_ | with_reducible refine wpAny_loadPart_at hC ?_ | (with_reducible refine wpAny_isSubtype_exc hC ?_;rw [hcB]) | with_reducible refine wpAny_field he rfl h1 ?_ | wp_step)
 exact wpAny_raiseNew_none hh hE
end
end L2
set_option maxHeartbeats 1000000
namespace L2
open PySem PySem.Spec PyProof.Rows
section
variable {prog:Program}{w:World}{A:Around}{E:Value→Shared→Prop}{h:Heap}{g:Array GenState}{d:Drawn}{t:Nat}{os:OsState}
variable {nm q:Str}{C N x:Addr}{bs bm:List Value}{sn:List Str}{sub:List Value}{ab:Bool}{col:Option Bool}{dd:Option Addr}{k0 k1 k2 k3 k5:Option Value}{name:Str}{v:Value}{o:Obj}
theorem ZaN {M:Model}{nameV:Value}{Q:Unit→Shared→Prop}(T:VT bm)
   (hC:h.get? C=some (excClassObj nm q C N bs bm true sn sub ab col dd k0 k1 k2 k3 k5 "ValueError.__new__")) (hx:h.get? x=some o) (hc:o.cls=.ref C) (hq:Q () ⟨h,g,d,t,os⟩) :
   wpAny M A (checkBuiltinCall "object.__setattr__" ⟨[.ref x,nameV,v],[]⟩) Q E ⟨h,g,d,t,os⟩:=by
 have SF:=PySem.F.store_ValueError
 have hcB:(Value.ref C::bm).contains (.type "object")=true:=by rw [List.contains_cons,T.has SF.hasOwner,Bool.or_true]
 have ha:=SF.args (.ref x) nameV v
 simp only [checkBuiltinCall,SF.kind,SF.split]
 refine wpAny_bind ?_
 · unfold isInstance
   repeat (first | (with_reducible refine wpAny_loadPart_at hx ?_;rw [hc]) | (with_reducible refine wpAny_isSubtype_exc hC ?_;rw [hcB]) | wp_step)
   exact hq
theorem Zej {Q:Unit→Shared→Prop}(T:VT bm)(hC:h.get? C=some (excClassObj nm q C N bs bm true sn sub ab col dd k0 k1 k2 k3 k5 "ValueError.__new__"))
   (LS:PySem.W.Looks (model prog w) h (typeLookup (.ref C) "__setattr__") (some (.builtin "object.__setattr__"))) (LN:PySem.W.Looks (model prog w) h (typeLookup (.ref C) name) none)
   (hx:h.get? x=some o) (hc:o.cls=.ref C) (hdn:o.dict=none) (hnc:∀ c,o.data≠.cls c)
   (hq:∀ h' tk',h'.get? x=some { o with dict:=some h.objs.size }→h'.Ns1 h.objs.size (fun y=>if y=name then some v else none)→(∀ b ob,b≠x→h.get? b=some ob→h'.get? b=some ob)→Q () ⟨h',g,d,tk',os⟩) :
   wpAny (model prog w) A (setAttr (.ref x) name v) Q E ⟨h,g,d,t,os⟩:=by
 have SF:=PySem.F.store_ValueError
 have f3:=SF.slot.bind (.ref x)
 unfold setAttr callSpecial? specialOf
 have LS':∀ {tk:Nat} {A:Around} {Q:Option Value→Shared→Prop} {E:Value→Shared→Prop},Q (some (.builtin "object.__setattr__")) ⟨h,g,d,tk,os⟩→wpAny (model prog w) A (typeLookup (.ref C) "__setattr__") Q E ⟨h,g,d,tk,os⟩:=fun q=>LS _ _ _ _ (fun _ _ e=>e) q
 have LN':∀ {tk:Nat} {A:Around} {Q:Option Value→Shared→Prop} {E:Value→Shared→Prop},Q none ⟨h,g,d,tk,os⟩→wpAny (model prog w) A (typeLookup (.ref C) name) Q E ⟨h,g,d,tk,os⟩:=fun q=>LN _ _ _ _ (fun _ _ e=>e) q
 repeat (any_goals (first | assumption | (with_reducible refine wpAny_loadPart_at hx ?_;rw [hc]) | (with_reducible refine LS' ?_) | wp_step))
 refine codeAny_call_builtin SF.slot.plain SF.entry (ZaN T hC hx hc ?_)
 have hpass:=T.refuse (.ref x)
 unfold Builtin.«object.__setattr__»
 repeat (first | rw [refuse_eq] | (rw [refuseLoop_ref,hpass]) | (with_reducible refine wpAny_loadPart_at hx ?_;rw [hc]) | with_reducible refine wpAny_mroOf_exc hC ?_ | (with_reducible refine LN' ?_) | wp_step)
 rw [hdn,if_neg (by simp [typeHasDict])]
 split
 · rename_i hcd
   cases hcd
 split
 · rename_i c hcd
   exact absurd hcd (hnc c)
 · have hx₁:(h.push { cls:=.type "dict",data:=.dict #[] }).get? x=some o:=Heap.get?_push_of_some _ hx
   have hxs:x≠h.objs.size:=Nat.ne_of_lt (Heap.lt_size hx)
   refine wpAny_bind (wpAny_alloc' ?_)
   refine wpAny_bind (wpAny_update' hx₁ ?_)
   refine wpAny_pure ?_
   have hgd:((h.push { cls:=.type "dict",data:=.dict #[] }).update x fun o=>{ cls:=o.cls,dict:=some h.objs.size,data:=o.data,slots:=o.slots }).get? h.objs.size
       = some { cls:=.type "dict",data:=.dict #[] } :=
     (Heap.get?_update_ne _ _ _ _ hxs.symm).trans (Heap.get?_push_at rfl rfl)
   have hnd:((h.push { cls:=.type "dict",data:=.dict #[] }).update x fun o=>{ cls:=o.cls,dict:=some h.objs.size,data:=o.data,slots:=o.slots }).Ns h.objs.size (fun _=>none) :=
     ⟨_,#[],_,hgd,rfl,fun e he=>absurd he (by simp),fun _=>rfl⟩
   show wpAny _ _ (Builtin.ObjectAttr.storeInDict h.objs.size (.str name _) name v) _ _ _
   unfold Builtin.ObjectAttr.storeInDict Builtin.ObjectAttr.newKeyGuard
   refine wpAny_bind (wpAny_pure (wpAny_bind (wpAny_nsSet1 (Heap.Ns1.of_empty hnd) fun h' hn' hs=>?_)))
   obtain ⟨oD,esD,epD,hoD,hdD,hcD⟩:=hn'.count (Within.cons name v Within.nil)
   refine wpAny_bind (wpAny_lookBehind hoD (by rw [hdD];exact pastItsLine_dict (Nat.le_trans hcD (by rw [List.length_cons,List.length_nil,sizeLine_eq];omega))) ?_)
   wp_walk
   have hx':h'.get? x=some { cls:=o.cls,dict:=some h.objs.size,data:=o.data,slots:=o.slots }:=by
     refine (hs.2 x hxs).trans (Heap.get?_update_self _ hx₁ ?_)
     have hfr:=(Heap.get?_some_iff.mp hx).2
     obtain ⟨oc,od,odt,osl⟩:=o
     cases odt<;>first | rfl | exact hfr
   repeat (any_goals (first | assumption | wp_step))
   exact hq h' _ hx' hn' fun b ob hbx hb=>(hs.2 b (Nat.ne_of_lt (Heap.lt_size hb))).trans ((Heap.get?_update_ne _ _ _ _ hbx).trans (Heap.get?_push_of_some _ hb))
end
end L2
set_option maxHeartbeats 1000000
namespace L2
open PySem PySem.Spec PyProof.Rows
def TbAt (base:Heap)(n:Nat)(H:Hp)(h:Heap)(ea:Addr)(vs:Array Value):Option Value→Prop
 | none=>vs[1]?=some .none
 | some fl=>∃ T oT ts,vs[1]?=some (.ref T)∧T≠ea∧base.get? T=none∧H T=none∧n≤T∧h.get? T=some oT∧oT.data=.fields ts∧ts[3]?=some fl
def ExcAt (base:Heap)(n:Nat)(H:Hp)(ea C dx:Addr)(fl:Option Value)(h:Heap):Prop :=
 base.get? ea=none∧H ea=none∧n≤ea∧∃ oe vs,h.get? ea=some oe∧oe.cls=.ref C∧oe.dict=some dx∧oe.data=.fields vs∧TbAt base n H h ea vs fl
def Keep (fs:List Addr)(n:Nat)(H:Hp)(h h':Heap):Prop :=
 (∀ b o,h.get? b=some o→b∈fs→∃ sl,h'.get? b=some { o with slots:=sl })∧(∀ b o,h.get? b=some o→b ∉ fs→(H b≠none∨b < n)→h'.get? b=some o) ∧
 (∀ b m,h.Ns b m→h'.Ns b m)∧(∀ b v,h.IsCell b v→h'.IsCell b v)∧h.objs.size≤h'.objs.size
theorem Keep.trans {fs:List Addr}{n:Nat}{H:Hp}{h h1 h2:Heap}(a:Keep fs n H h h1)(b:Keep fs n H h1 h2):Keep fs n H h h2:=by
 refine ⟨fun c o e m=>?_,fun c o e m k=>b.2.1 c o (a.2.1 c o e m k) m k,fun c m x=>b.2.2.1 c m (a.2.2.1 c m x),fun c v x=>b.2.2.2.1 c v (a.2.2.2.1 c v x),Nat.le_trans a.2.2.2.2 b.2.2.2.2⟩
 obtain ⟨sl,e1⟩:=a.1 c o e m
 obtain ⟨sl2,e2⟩:=b.1 c _ e1 m
 exact ⟨sl2,e2⟩
theorem ZaG {h h':Heap}(k:∀ b o,h.get? b=some o→(∀ vs,o.data≠.fields vs)→∃ sl,h'.get? b=some { o with slots:=sl }){b:Addr}{m:Str→Option Value}(x:h.Ns b m):h'.Ns b m:=by
 obtain ⟨o,es,ep,ho,hd,r⟩:=x
 obtain ⟨sl,hs⟩:=k b o ho fun vs q=>by rw [hd] at q;cases q
 exact ⟨_,es,ep,hs,hd,r⟩
theorem Ua {h h':Heap}(k:∀ b o,h.get? b=some o→(∀ vs,o.data≠.fields vs)→∃ sl,h'.get? b=some { o with slots:=sl }){b:Addr}{v:Option Value}(x:h.IsCell b v):h'.IsCell b v:=by
 obtain ⟨o,ho,hd⟩:=x
 obtain ⟨sl,hs⟩:=k b o ho fun vs q=>by rw [hd] at q;cases q
 exact ⟨_,hs,hd⟩
section
variable {M:Model}{A:Around}{E:Value→Shared→Prop}{s:Shared}{base:Heap}{n:Nat}{H:Hp}{env:Env}{outer:List Env}{L ea C dx:Addr}
theorem WB {oe:Obj}{vs:Array Value}{head:Value}{hadNext:Bool}{Q:Unit→Shared→Prop}
   (hfr:A.frames=some (env::outer)) (hl:s.heap.FunFrames base (env::outer)) (hf:env.frame=some L)
   (he:s.heap.get? ea=some oe) (hkb:base.StaysIn s.heap) (hen:base.get? ea=none) (hHe:H ea=none) (hne:n≤ea) (hcl:oe.cls=.ref C) (hdi:oe.dict=some dx) (hd:oe.data=.fields vs) (hsz:1 < vs.size) (hH:∀ b,s.heap.objs.size≤b→H b=none)
   (h:∀ h',base.StaysIn h'→h'.FunFrames base (env::outer)→ExcAt base n H ea C dx (some (rawInt L)) h'→Keep (ZJ (env::outer)) n H s.heap h'→Q () { s with heap:=h' }) :
   wpAny M A (do let a ← frameOf env;let pl ← entryPlaceOf L hadNext;let b ← EntryCells.newEntry head a .none (rawInt L) .none pl;setField (.ref ea) 1 b) Q E s:=by
 have hene:ea ∉ (env::outer).filterMap (·.frame):=fun hm=>by
   obtain ⟨_,o,ho,hnf⟩:=hl.mem hm
   rw [he] at ho;injection ho with ho;subst ho;exact hnf vs hd
 refine wpAny_bind (wpAny_frameOf_fun hfr hl hf fun h₁ hs₁=>?_)
 refine wpAny_bind (wpAny_entryPlaceOf fun pl hpl=>?_)
 unfold EntryCells.newEntry newFields
 refine wpAny_bind (wpAny_newObj_type ?_ (hpl.sizeOk5 _ _ _ _ _))
 have he₁:h₁.get? ea=some oe:=(hs₁.2.1 ea hene).trans he
 have kb₁:base.StaysIn h₁:=fun b o hbo=>(hs₁.2.1 b fun hm=>by rw [(hl.mem hm).1] at hbo;cases hbo).trans (hkb b o hbo)
 have he₂:=Heap.get?_push_of_some (h:=h₁) { cls:=.type "traceback",dict:=none,data:=.fields ([head,.ref L,.none,rawInt L,.none]++(if pl.isEmpty then List.replicate 6 Value.none else pl)).toArray } he₁
 refine wpAny_setField he₂ hd hsz ?_
 have hTe:h₁.objs.size≠ea:=Nat.ne_of_gt (Heap.lt_size he₁)
 have hd₃:=Obj.data_mapFields hd (·.setIfInBounds 1 (Value.ref h₁.objs.size))
 have he₃:=Heap.get?_update_self (Obj.mapFields (·.setIfInBounds 1 (Value.ref h₁.objs.size))) he₂ (Obj.isFreed_of_fields hd₃)
 have hT₃:=(Heap.get?_update_other (h₁.push { cls:=.type "traceback",dict:=none,data:=.fields ([head,.ref L,.none,rawInt L,.none]++(if pl.isEmpty then List.replicate 6 Value.none else pl)).toArray })
   (Obj.mapFields (·.setIfInBounds 1 (Value.ref h₁.objs.size))) (Ne.symm hTe)).trans (Heap.get?_push_size h₁ rfl)
 have keep:∀ b o,b≠ea→h₁.get? b=some o →
     ((h₁.push { cls:=.type "traceback",dict:=none,data:=.fields ([head,.ref L,.none,rawInt L,.none]++(if pl.isEmpty then List.replicate 6 Value.none else pl)).toArray }).update ea (Obj.mapFields (·.setIfInBounds 1 (Value.ref h₁.objs.size)))).get? b=some o :=
   fun b o hbe hb=>by
     rw [Heap.get?_update_other _ _ (Ne.symm hbe)]
     exact Heap.get?_push_of_some _ hb
 have noRecord:∀ b o,s.heap.get? b=some o→(∀ vs,o.data≠.fields vs)→b≠ea:=fun b o hb hnf q=>by
   rw [q,he] at hb;injection hb with hb;subst hb;exact hnf vs hd
 have up:∀ b o,s.heap.get? b=some o→(∀ vs,o.data≠.fields vs)→∃ sl,((h₁.push { cls:=.type "traceback",dict:=none,data:=.fields ([head,.ref L,.none,rawInt L,.none]++(if pl.isEmpty then List.replicate 6 Value.none else pl)).toArray }).update ea (Obj.mapFields (·.setIfInBounds 1 (Value.ref h₁.objs.size)))).get? b=some { o with slots:=sl }:=fun b o hb hnf=>by
   obtain ⟨sl,hs⟩:=hs₁.2.2 b o hb
   exact ⟨sl,keep b _ (noRecord b o hb hnf) hs⟩
 have hmap:∀ {o:Obj} {f:Array Value→Array Value},(o.mapFields f).dict=o.dict:=fun {o f}=>by unfold Obj.mapFields;split<;>rfl
 refine h _ (fun b o hbo=>keep b o (fun q=>by rw [q,hen] at hbo;cases hbo) (kb₁ b o hbo)) (hl.of_keeps fun b o hb hnf=>let ⟨sl,e⟩:=up b o hb hnf;⟨_,e,rfl⟩) ?_ ?_
 · refine ⟨hen,hHe,hne,_,_,he₃,(Obj.cls_mapFields _ _).trans hcl,hmap.trans hdi,hd₃,h₁.objs.size,_,_,by simp [hsz],hTe,kb₁.fresh,hH _ (by rw [hs₁.1];exact Nat.le_refl _),?_,hT₃,rfl,by first | (simp;done) | (rcases hpl with rfl | ⟨_,_,_,_,_,_,_,rfl⟩<;>simp)⟩
   exact Nat.le_trans hne (Nat.le_of_lt (Heap.lt_size he₁))
 · refine ⟨fun b o hb hm=>?_,fun b o hb hm k=>?_,fun b m x=>ZaG up x,fun b v x=>Ua up x,?_⟩
   · obtain ⟨sl,hs⟩:=hs₁.2.2 b o hb
     exact ⟨sl,keep b _ (fun q=>hene (by rw [← q];exact hm)) hs⟩
   · refine keep b o (fun q=>?_) ((hs₁.2.1 b hm).trans hb)
     rcases k with k | k
     · exact k (by rw [q];exact hHe)
     · rw [q] at k;exact absurd k (Nat.not_lt.mpr hne)
   · rw [Heap.size_after_update,Heap.size_push,hs₁.1];exact Nat.le_succ _
theorem Zag {fl:Option Value}{Q:Unit→Shared→Prop}(hfl:fl=none∨fl=some .none)
   (hfr:A.frames=some (env::outer)) (hl:s.heap.FunFrames base (env::outer)) (hf:env.frame=some L) (hkb:base.StaysIn s.heap) (x:ExcAt base n H ea C dx fl s.heap) (hH:∀ b,s.heap.objs.size≤b→H b=none)
   (h:∀ h',base.StaysIn h'→h'.FunFrames base (env::outer)→ExcAt base n H ea C dx (some (rawInt L)) h'→Keep (ZJ (env::outer)) n H s.heap h'→Q () { s with heap:=h' }) :
   wpAny M A (noteFrame (.ref ea) env) Q E s:=by
 obtain ⟨hen,hHe,hne,oe,vs,he,hcl,hdi,hd,tb⟩:=x
 unfold noteFrame
 simp only [hf]
 rcases hfl with rfl | rfl
 · have h1:vs[1]?=some .none:=tb
   refine wpAny_bind (wpAny_field he hd h1 ?_)
   rw [if_neg (by decide)]
   exact WB hfr hl hf he hkb hen hHe hne hcl hdi hd (Array.getElem?_eq_some_iff.mp h1).1 hH h
 · obtain ⟨T,oT,ts,h1,hTe,hnT,hHT,hnT2,hT,hdT,h3⟩:=tb
   refine wpAny_bind (wpAny_field he hd h1 ?_)
   rw [if_pos (show (Value.ref T != Value.none)=true from by simp)]
   refine wpAny_bind (wpAny_field hT hdT h3 ?_)
   rw [if_neg (show ¬ ((Value.none == rawInt L)=true) from by simp [rawInt])]
   refine wpAny_bind (wpAny_setField hT hdT (Array.getElem?_eq_some_iff.mp h3).1 ?_)
   have other:∀ b,b≠T→(s.heap.update T (Obj.mapFields (·.setIfInBounds 3 Value.none))).get? b=s.heap.get? b:=fun b hb=>Heap.get?_update_other _ _ (Ne.symm hb)
   have noRecord:∀ b o,s.heap.get? b=some o→(∀ vs,o.data≠.fields vs)→b≠T:=fun b o hb hnf q=>by
     rw [q,hT] at hb;injection hb with hb;subst hb;exact hnf ts hdT
   have up:∀ b o,s.heap.get? b=some o→(∀ vs,o.data≠.fields vs)→∃ sl,(s.heap.update T (Obj.mapFields (·.setIfInBounds 3 Value.none))).get? b=some { o with slots:=sl }:=fun b o hb hnf=>⟨o.slots,(other b (noRecord b o hb hnf)).trans hb⟩
   have hsz:(s.heap.update T (Obj.mapFields (·.setIfInBounds 3 Value.none))).objs.size=s.heap.objs.size:=Heap.size_after_update ..
   have kp:Keep (ZJ (env::outer)) n H s.heap (s.heap.update T (Obj.mapFields (·.setIfInBounds 3 Value.none))):=by
     refine ⟨fun b o hb hm=>⟨o.slots,(other b fun q=>?_).trans hb⟩,fun b o hb hm k=>(other b fun q=>?_).trans hb,fun b m x=>ZaG up x,fun b v x=>Ua up x,Nat.le_of_eq hsz.symm⟩
     · obtain ⟨_,o',ho',hnf⟩:=hl.mem hm
       rw [q,hT] at ho';cases ho';exact hnf ts hdT
     · rcases k with k | k
       · exact k (by rw [q];exact hHT)
       · rw [q] at k;exact absurd k (Nat.not_lt.mpr hnT2)
   exact WB (s:={ s with heap:=s.heap.update T (Obj.mapFields (·.setIfInBounds 3 Value.none)) }) hfr (hl.of_keeps fun b o hb hnf=>⟨o,(other b (noRecord b o hb hnf)).trans hb,rfl⟩) hf ((other ea (Ne.symm hTe)).trans he)
     (fun b o hbo=>(other b fun q=>by rw [q,hnT] at hbo;cases hbo).trans (hkb b o hbo)) hen hHe hne hcl hdi hd (Array.getElem?_eq_some_iff.mp h1).1 (fun b hb=>hH b (by rw [← hsz];exact hb))
     fun h' x1 x2 x3 x4=>h h' x1 x2 x3 (kp.trans x4)
theorem XQ {l:List Env}{fl:Value}{Q:Unit→Shared→Prop}(hkb:base.StaysIn s.heap)(hl:s.heap.FunFrames base l)(x:ExcAt base n H ea C dx (some fl) s.heap)
   (h:∀ h',base.StaysIn h'→h'.FunFrames base l→ExcAt base n H ea C dx (some .none) h'→(∀ fs,(∀ b∈fs,∃ o,s.heap.get? b=some o∧∀ vs,o.data≠.fields vs)→Keep fs n H s.heap h')→Q () { s with heap:=h' }) :
   wpAny M A (setFlight (.ref ea) none) Q E s:=by
 obtain ⟨hen,hHe,hne,oe,vs,he,hcl,hdi,hd,T,oT,ts,h1,hTe,hnT,hHT,hnT2,hT,hdT,h3⟩:=x
 have hsz3:3 < ts.size:=(Array.getElem?_eq_some_iff.mp h3).1
 have other:∀ b,b≠T→(s.heap.update T (Obj.mapFields (·.setIfInBounds 3 ((none:Option Addr).elim Value.none fun f=>rawInt f)))).get? b=s.heap.get? b :=
   fun b hb=>Heap.get?_update_other _ _ (Ne.symm hb)
 have noRecord:∀ b o,s.heap.get? b=some o→(∀ vs,o.data≠.fields vs)→b≠T:=fun b o hb hnf q=>by
   rw [q,hT] at hb;injection hb with hb;subst hb;exact hnf ts hdT
 have up:∀ b o,s.heap.get? b=some o→(∀ vs,o.data≠.fields vs)→∃ sl,(s.heap.update T (Obj.mapFields (·.setIfInBounds 3 ((none:Option Addr).elim Value.none fun f=>rawInt f)))).get? b=some { o with slots:=sl }:=fun b o hb hnf=>⟨o.slots,(other b (noRecord b o hb hnf)).trans hb⟩
 unfold setFlight
 refine wpAny_bind (wpAny_field he hd h1 ?_)
 rw [if_pos (show (Value.ref T != Value.none)=true from by simp)]
 refine wpAny_setField hT hdT hsz3 (h _ (fun b o hbo=>(other b fun q=>by rw [q,hnT] at hbo;cases hbo).trans (hkb b o hbo))
   (hl.of_keeps fun b o hb hnf=>⟨o,(other b (noRecord b o hb hnf)).trans hb,rfl⟩) ?_ fun fs hfs=>?_)
 · exact ⟨hen,hHe,hne,oe,vs,(other ea (Ne.symm hTe)).trans he,hcl,hdi,hd,T,_,_,h1,hTe,hnT,hHT,hnT2,Heap.get?_update_self _ hT (Obj.isFreed_of_fields (Obj.data_mapFields hdT _)),Obj.data_mapFields hdT _,by simp [hsz3]⟩
 · refine ⟨fun b o hb hm=>⟨o.slots,(other b fun q=>?_).trans hb⟩,fun b o hb hm k=>(other b fun q=>?_).trans hb,fun b m x=>ZaG up x,fun b v x=>Ua up x,Nat.le_of_eq (Heap.size_after_update ..).symm⟩
   · obtain ⟨o',ho',hnf⟩:=hfs b hm
     rw [q,hT] at ho';cases ho';exact hnf ts hdT
   · rcases k with k | k
     · exact k (by rw [q];exact hHT)
     · rw [q] at k;exact absurd k (Nat.not_lt.mpr hnT2)
theorem VD {fl:Option Value}{Q:Unit→Shared→Prop}(hfl:fl=none∨fl=some .none)
   (hfr:A.frames=some (env::outer)) (hl:s.heap.FunFrames base (env::outer)) (hf:env.frame=some L) (hkb:base.StaysIn s.heap) (x:ExcAt base n H ea C dx fl s.heap) (hH:∀ b,s.heap.objs.size≤b→H b=none)
   (h:∀ h',base.StaysIn h'→h'.FunFrames base outer→ExcAt base n H ea C dx (some .none) h'→Keep (ZJ (env::outer)) n H s.heap h'→Q () { s with heap:=h' }) :
   wpAny M A (leaving env (.ref ea)) Q E s:=by
 unfold leaving
 refine wpAny_bind (Zag hfl hfr hl hf hkb x hH fun h1 b1 f1 x1 k1=>?_)
 refine XQ b1 f1 x1 fun h2 b2 f2 x2 k2=>h h2 b2 f2.2.2 x2 (k1.trans (k2 _ fun b hb=>?_))
 obtain ⟨_,o,ho,hnf⟩:=f1.mem hb
 exact ⟨o,ho,hnf⟩
end
end L2
set_option maxHeartbeats 1000000
namespace L2
open PySem PySem.Spec PyProof.Rows
theorem Keep.hok {P:Program}{w:World}{fs:List Addr}{n:Nat}{H:Hp}{h h':Heap}(x:HOk P w H h)(hf:∀ b∈fs,H b=none)(k:Keep fs n H h h'):HOk P w H h':=fun a o e=>by
 have tr:∀ b,b=a∨H b=some (.own a)→H b≠none:=fun b hb z=>by
   rcases hb with rfl | hb
   · rw [e] at z;cases z
   · rw [hb] at z;cases z
 exact (x a o e).stay (fun b u hb q=>k.2.1 b u q (fun m=>tr b hb (hf b m)) (.inl (tr b hb))) (fun _ q=>q) (fun _ _ q=>q)
theorem ExcAt.le {base:Heap}{n n':Nat}{H:Hp}{ea C dx:Addr}{fl:Option Value}{h:Heap}(x:ExcAt base n' H ea C dx fl h)(l:n≤n'):ExcAt base n H ea C dx fl h:=by
 obtain ⟨a,b,c,oe,vs,e1,e2,e3,e4,tb⟩:=x
 refine ⟨a,b,Nat.le_trans l c,oe,vs,e1,e2,e3,e4,?_⟩
 cases fl with
 | none=>exact tb
 | some f=>obtain ⟨T,oT,ts,t1,t2,t3,t4,t5,t6⟩:=tb;exact ⟨T,oT,ts,t1,t2,t3,t4,Nat.le_trans l t5,t6⟩
section
variable {X:Cx}{pins:List (Addr×Obj)}{σ:St}{H H1 H2:Hp}{s s1 s2:Shared}{h':Heap}
def ZaW (n:Nat)(H:Hp)(h:Heap):List Addr:=(List.range h.objs.size).filter fun b=>(H b).isNone&&decide (n≤b)
theorem Inv.flown {t':Nat}(I1:Inv X pins σ H1 s1)(I2:Inv X pins σ H2 s2)(k:Keep (ZJ X.stack) s1.heap.objs.size H2 s2.heap h'):Inv X pins σ H2 { s2 with heap:=h',toks:=t' }:=by
 have mem:∀ b,b∈ZaW s1.heap.objs.size H2 s2.heap→s1.heap.objs.size≤b:=fun b hb=>by
   have:=(List.mem_filter.mp hb).2
   simp only [Bool.and_eq_true,decide_eq_true_eq] at this
   exact this.2
 have out:∀ b o,s2.heap.get? b=some o→b ∉ ZaW s1.heap.objs.size H2 s2.heap→H2 b≠none∨b < s1.heap.objs.size:=fun b o e hb=>by
   by_cases z:H2 b=none
   · refine .inr (Nat.lt_of_not_le fun l=>hb (List.mem_filter.mpr ⟨List.mem_range.mpr (Heap.lt_size e),?_⟩))
     rw [z];simp [l]
   · exact .inl z
 refine I2.call (g':=s2.gens) (d':=s2.drawn) (ch:=ZaW s1.heap.objs.size H2 s2.heap) ⟨fun b o e hn hf hc=>k.2.1 b o e hf (out b o e hc),fun b o e hn hf hc=>k.1 b o e hf,fun b o e hn hc=>hn,fun b o e hc=>?_,fun _ _ e=>e,fun _ _ _ e=>e,fun _ ps e=>⟨#[],by rw [e];simp⟩⟩ (k.hok I2.hok I2.stkFree) I2.bare fun b hb=>?_
 · by_cases m:b∈ZJ X.stack
   · obtain ⟨sl,q⟩:=k.1 b o e m;exact ⟨_,q⟩
   · exact ⟨o,k.2.1 b o e m (out b o e hc)⟩
 · have hb':=mem b hb
   refine ⟨.inr (Nat.le_trans I1.sz hb'),fun z=>?_,fun x c hx z=>?_,fun p hp z=>?_⟩
   · have:=I1.lt;rw [← z] at this;exact absurd this (Nat.not_lt.mpr hb')
   · obtain ⟨v,o,e,_⟩:=I1.cell x c hx
     have:=Heap.lt_size e;rw [z] at this;exact absurd this (Nat.not_lt.mpr hb')
   · have:=Heap.lt_size (I1.pin p hp).1;rw [z] at this;exact absurd this (Nat.not_lt.mpr hb')
structure Cx.Old (X:Cx)(a:Addr):Prop where
 t:∀ xs,X.H₀ a≠some (.tup xs)
 f:∀ o u,X.H₀ a≠some (.frz o u)
 b:∀ ps,X.H₀ a≠some (.tbl ps)
theorem Inv.old {a:Addr}(I:Inv X pins σ H s)(h:H a=none):X.Old a where
 t:=fun xs e=>(by have:=I.base.tups a xs e;rw [h] at this;cases this)
 f:=fun o u e=>(by have:=I.base.frzs a o u e;rw [h] at this;cases this)
 b:=fun ps e=>(by obtain ⟨m,q⟩:=I.base.tbls a ps e;rw [h] at q;cases q)
theorem Cx.Old.nt {a b:Addr}(O:X.Old a){xs:List V}(e:X.H₀ b=some (.tup xs)):b≠a:=fun z=>O.t xs (by rw [← z];exact e)
theorem Cx.Old.nf {a b:Addr}(O:X.Old a){o:Obj}{u:HO}(e:X.H₀ b=some (.frz o u)):b≠a:=fun z=>O.f o u (by rw [← z];exact e)
theorem Cx.Old.nb {a b:Addr}(O:X.Old a){ps:Array Value}(e:X.H₀ b=some (.tbl ps)):b≠a:=fun z=>O.b ps (by rw [← z];exact e)
theorem Inv.track {a:Addr}{o:HO}(I:Inv X pins σ H s)(hn:H a=none)(h0:X.s₀.heap.objs.size≤a)(hL:a≠X.env.locals)(hC:∀ x c,X.env.cells.lookup x=some c→c≠a)(hp:∀ p∈X.pn++pins,p.1≠a)
   (new:ObjOk X.prog X.w (upd H a o) s.heap a o):Inv X pins σ (upd H a o) s:=by
 have old:∀ b u,X.s₀.heap.get? b=some u→b≠a:=fun b u e z=>by
   have:=Heap.lt_size e;rw [z] at this;exact absurd this (Nat.not_lt.mpr h0)
 refine ⟨I.ok,I.os,I.bare,⟨I.base.keep,I.base.slot,fun b u e n hx=>?_,I.base.there,fun b xs e=>?_,fun b u xs e=>?_,fun b ps e=>?_⟩,I.loc,I.cell,?_,fun x c hx=>?_,fun p hp'=>?_,fun b u e=>?_,I.len⟩
 · rw [Zc (old b u e)];exact I.base.free b u e n hx
 · rw [Zc ((I.old hn).nt e)];exact I.base.tups b xs e
 · rw [Zc ((I.old hn).nf e)];exact I.base.frzs b u xs e
 · rw [Zc ((I.old hn).nb e)];exact I.base.tbls b ps e
 · rw [Zc (Ne.symm hL)];exact I.free
 · rw [Zc (hC x c hx)];exact I.freeC x c hx
 · obtain ⟨e1,e2,e3⟩:=I.pin p hp'
   exact ⟨e1,by rw [Zc (hp p hp')];exact e2,e3⟩
 · by_cases z:b=a
   · subst z;rw [Zd] at e;cases e;exact new
   · rw [Zc z] at e
     exact (I.hok b u e).stay (fun _ _ _ q=>q) (fun c q=>by rw [Zc (Zm q hn)];exact q) (fun c xs q=>by rw [Zc (Zm q hn)];exact q)
end
def XJ (P:Program)(w:World)(base:Heap):Xc:=fun outer H s E e s'=>∃(ea C dx:Addr)(H':Hp),e=.ref ea∧base.StaysIn s'.heap∧s'.heap.FunFrames base outer∧ExcAt base s.heap.objs.size H' ea C dx (some .none) s'.heap∧s'.os=s.os∧AllBare s'.gens ∧
 Un (ZJ outer) [] H H' s.heap s'.heap∧HOk P w H' s'.heap∧E (.ref C) (some dx) H'
section
variable {P:Program}{w:World}{K:PySem.W.Frag}{mg:Str→Option Value}{base:Heap}{k:Nat}{f:Addr}{fd:FuncData}{ps:List Str}{sp sp':Sp}{CX:Xc}
def Yk (X:Cx)(EE:St→XK):Prop:=∀(pins:List (Addr×Obj))(σ:St)(H1 H2:Hp)(s1 s2:Shared)(ea C dx:Addr)(fl:Option Value),Inv X pins σ H1 s1→Inv X pins σ H2 s2→(fl=none∨fl=some .none)→ExcAt X.base s1.heap.objs.size H2 ea C dx fl s2.heap→EE σ (.ref C) (some dx) H2→X.xe (.ref ea) s2
theorem ZbR {N:List Str}{qual:Str}{scope:Scope}{cd:Value}{A:Around}{outer:List Env}{s:Shared}{H:Hp}{E:XK}:Yk (Xf (XJ P w base) P w K mg base N qual scope f cd A outer s H E) (fun _=>E):=by
 intro pins σ H1 H2 s1 s2 ea C dx fl I1 I2 hfl x q
 have hsz:s.heap.objs.size≤s1.heap.objs.size:=I1.sz
 have hok2:HOk P w H2 s2.heap:=I2.hok
 refine VD (base:=base) (n:=s.heap.objs.size) (H:=H2) (outer:=outer) (L:=s.heap.objs.size) hfl I2.ok.frames I2.stack rfl I2.bk (x.le hsz) (fun b hb=>hok2.fresh hb) fun h' b1 f1 x1 k1=>?_
 have un:Un (ZJ outer) [] H H2 s.heap s2.heap:=I2.base
 have nL:∀ b o,s.heap.get? b=some o→b ∉ ZJ outer→b ∉ ZJ (envOfC qual scope s.heap.objs.size f cd::outer):=fun b o e hf m=>by
   rcases List.mem_filterMap.mp m with ⟨v,hv,ev⟩
   rcases List.mem_cons.mp hv with rfl | hv
   · cases (show some s.heap.objs.size=some b from ev);exact absurd (Heap.lt_size e) (Nat.lt_irrefl _)
   · exact hf (List.mem_filterMap.mpr ⟨v,hv,ev⟩)
 have inL:∀ b,b∈ZJ outer→b∈ZJ (envOfC qual scope s.heap.objs.size f cd::outer):=fun b m=>by
   obtain ⟨v,hv,ev⟩:=List.mem_filterMap.mp m
   exact List.mem_filterMap.mpr ⟨v,List.mem_cons_of_mem _ hv,ev⟩
 refine ⟨ea,C,dx,H2,rfl,b1,f1,x1,I2.os,I2.bare,⟨fun b o e hn hf hx=>k1.2.1 b o (un.keep b o e hn hf hx) (nL b o e hf) (.inr (Heap.lt_size e)),fun b o e hn hf hx=>?_,un.free,fun b o e hx=>?_,un.tups,un.frzs,un.tbls⟩,k1.hok hok2 I2.stkFree,q⟩
 · obtain ⟨sl,e1⟩:=un.slot b o e hn hf hx
   obtain ⟨sl2,e2⟩:=k1.1 b _ e1 (inL b hf)
   exact ⟨sl2,e2⟩
 · obtain ⟨o',e1⟩:=un.there b o e hx
   by_cases m:b∈ZJ (envOfC qual scope s.heap.objs.size f cd::outer)
   · obtain ⟨sl,e2⟩:=k1.1 b o' e1 m;exact ⟨_,e2⟩
   · exact ⟨o',k1.2.1 b o' e1 m (.inr (Heap.lt_size e))⟩
end
end L2
set_option maxHeartbeats 1000000
namespace L2
open PySem PySem.Spec PyProof.Rows
abbrev Cx.tryc (X:Cx)(pn:List (Addr×Obj))(Z:Value→Shared→Prop):Cx:={ X with pn:=pn,xe:=Z }
abbrev Cx.marked (X:Cx)(ea:Addr)(Z:Value→Shared→Prop):Cx:={ X with A:=X.A.mark (some (.ref ea)),calm:=false,xe:=Z }
def XO (ea C dx:Addr):HO:=.ext fun h=>∃ oe vs,h.get? ea=some oe∧oe.cls=.ref C∧oe.dict=some dx∧oe.data=.fields vs
section
variable {X:Cx}{pins:List (Addr×Obj)}{σ:St}{H:Hp}{s:Shared}
theorem Inv.tryc (I:Inv X pins σ H s)(Z:Value→Shared→Prop):Inv (X.tryc (X.pn++pins) Z) [] σ H s :=
 ⟨⟨I.ok.mod,I.ok.kind,I.ok.glob,I.ok.blt,I.ok.above,I.ok.inj,I.ok.has,I.ok.cab,I.ok.hd,I.ok.frames,I.ok.stk,I.ok.exf,I.ok.bs,I.ok.bsz,I.ok.noex,I.ok.exfs,I.ok.funs,I.ok.frf⟩,I.os,I.bare,I.base,I.loc,I.cell,I.free,I.freeC,fun p hp=>I.pin p (by rw [List.append_nil] at hp;exact hp),I.hok,I.len⟩
theorem Inv.untryc {pins':List (Addr×Obj)}{Z:Value→Shared→Prop}(I:Inv (X.tryc (X.pn++pins) Z) pins' σ H s):Inv X pins σ H s :=
 ⟨⟨I.ok.mod,I.ok.kind,I.ok.glob,I.ok.blt,I.ok.above,I.ok.inj,I.ok.has,I.ok.cab,I.ok.hd,I.ok.frames,I.ok.stk,I.ok.exf,I.ok.bs,I.ok.bsz,I.ok.noex,I.ok.exfs,I.ok.funs,I.ok.frf⟩,I.os,I.bare,I.base,I.loc,I.cell,I.free,I.freeC,fun p hp=>I.pin p (List.mem_append_left _ hp),I.hok,I.len⟩
theorem Inv.mark (I:Inv X pins σ H s)(ea:Addr)(Z:Value→Shared→Prop):Inv (X.marked ea Z) pins σ H s :=
 ⟨⟨I.ok.mod,I.ok.kind,I.ok.glob,I.ok.blt,I.ok.above,I.ok.inj,I.ok.has,I.ok.cab,(fun z=>by cases z),I.ok.frames,I.ok.stk,I.ok.exf,I.ok.bs,I.ok.bsz,I.ok.noex,I.ok.exfs,I.ok.funs,I.ok.frf⟩,I.os,I.bare,I.base,I.loc,I.cell,I.free,I.freeC,I.pin,I.hok,I.len⟩
theorem Inv.unmark {ea:Addr}{Z:Value→Shared→Prop}(I:Inv (X.marked ea Z) pins σ H s)(hd:X.calm=true→X.A.handled=none):Inv X pins σ H s :=
 ⟨⟨I.ok.mod,I.ok.kind,I.ok.glob,I.ok.blt,I.ok.above,I.ok.inj,I.ok.has,I.ok.cab,hd,I.ok.frames,I.ok.stk,I.ok.exf,I.ok.bs,I.ok.bsz,I.ok.noex,I.ok.exfs,I.ok.funs,I.ok.frf⟩,I.os,I.bare,I.base,I.loc,I.cell,I.free,I.freeC,I.pin,I.hok,I.len⟩
theorem Zdp {M:Model}{A:Around}{E:Value→Shared→Prop}{i:Nat}{x:Str}{pos:Pos}{Q:Unit→Shared→Prop}(I:Inv X pins σ H s)(hN:X.N.Nodup)(hi:X.N[i]?=some x)(hk:X.env.kindOf x=some .local)
   (h:∀ s',Inv X pins (σ.set i none) H s'→Q () s'):wpAny M A (do bindName X.env x .none;unbindBehindTheSuite X.env x pos) Q E s:=by
 obtain ⟨m,hn,hl⟩:=id I.loc
 have hcls:(X.env.scope.kind == .class || (X.env.scope.kind == .module&&X.env.locals != X.env.globals))=false:=by rw [I.ok.kind];rfl
 have cne:=I.cne
 refine wpAny_nameGoes_keeps hk hn hcls fun h' v hn' hs=>?_
 obtain ⟨oL,_,_,hoL,_⟩:=id hn
 refine h _ ⟨I.ok,I.os,I.bare,⟨fun b o e n hb hx=>?_,fun b o e n hb hx=>?_,I.base.free,fun b o e hx=>?_,I.base.tups,I.base.frzs,I.base.tbls⟩,⟨_,hn',fun j y v' e1 e2 e3=>?_⟩,fun y c e=>?_,I.free,I.freeC,fun p hp=>?_,fun b ob e=>?_,by simpa using I.len⟩
 · exact (hs.2 b (Nat.ne_of_lt (Nat.lt_of_lt_of_le (Heap.lt_size e) I.ok.above))).trans (I.base.keep b o e n hb hx)
 · obtain ⟨sl,e1⟩:=I.base.slot b o e n hb hx
   exact ⟨sl,(hs.2 b (Nat.ne_of_lt (Nat.lt_of_lt_of_le (Heap.lt_size e) I.ok.above))).trans e1⟩
 · obtain ⟨o',e1⟩:=I.base.there b o e hx
   exact ⟨o',(hs.2 b (Nat.ne_of_lt (Nat.lt_of_lt_of_le (Heap.lt_size e) I.ok.above))).trans e1⟩
 · by_cases hj:j=i
   · subst hj
     rw [List.getElem?_set] at e2
     split at e2
     · split at e2<;>cases e2
     · rename_i z;exact absurd rfl z
   · rw [List.getElem?_set_ne (Ne.symm hj)] at e2
     obtain ⟨u',r',q⟩:=hl j y v' e1 e2 e3
     refine ⟨u',r',?_⟩
     rcases q with ⟨k,e⟩ | ⟨k,c,e,z⟩
     · refine .inl ⟨k,?_⟩
       have:y≠x:=fun e=>hj (Ws hN e1 (e ▸ hi))
       simp [this,e]
     · exact .inr ⟨k,c,e,z.sameBut hs (cne y c e)⟩
 · obtain ⟨w',z⟩:=I.cell y c e
   exact ⟨w',z.sameBut hs (cne y c e)⟩
 · obtain ⟨e,n,ne,nf,d⟩:=I.pin p hp
   exact ⟨(hs.2 p.1 ne).trans e,n,ne,nf,d⟩
 · refine (I.hok b ob e).stay (fun c w' hc q=>(hs.2 c ?_).trans q) (fun _ q=>q) fun _ _ q=>q
   rintro rfl
   rcases hc with rfl | hc
   · rw [I.free] at e;cases e
   · rw [I.free] at hc;cases hc
end
def Zfn (K:PySem.W.Frag)(C0:Addr)(i:Nat)(tb:(St→XK)→TS)(th:TS):TS:=fun D σ H =>
 tb (fun σ' Cv dO H'=>∃ C dx,Cv=.ref C∧dO=some dx∧PySem.W.exmOne K (.ref C) (.ref C0)=some true∧∀ ea,H' ea=none →
   th { nx:=fun σ2 H2=>D.nx (σ2.set i none) H2,rt:=D.rt,bk:=fun σ2 H2=>D.bk (σ2.set i none) H2,ct:=fun σ2 H2=>D.ct (σ2.set i none) H2 } (σ'.set i (some (.ref ea))) (upd H' ea (XO ea C dx))) D σ H
section
variable {X:Cx}{body suite:List Stmt}{b0:Stmt}{C0:Addr}{x0 n:Str}{i:Nat}{tb:(St→XK)→TS}{th:TS}{p0 hp pos:Pos}
theorem ZcI (hcalm:X.calm=true)(hst:X.stack=X.env::X.outer)(hfr:X.env.frame=some X.env.locals)(hN:X.N.Nodup)(hi:X.N[i]?=some n)(hk:X.env.kindOf n=some .local)(hg:Gl X x0)(hm:X.mg x0=some (.ref C0))(hdb:(x0 == ("__debug__":Str))=false)
   (hb:∀ pn Z EE,Yk (X.tryc pn Z) EE→PSs (X.tryc pn Z) body (tb EE)) (hh:∀ ea Z,PSs (X.marked ea Z) (b0::suite) th) :
   PS X (.Try body [.ExceptHandler (some (.Name x0 p0)) (some n) (b0::suite) hp] [] [] pos) (Zfn X.K C0 i tb th):=by
 intro pins s σ H D I h
 rw [arm_exec_Try]
 refine wpAny_bind (wpAny_standAt (wpAny_tryStmt_except ?_))
 refine wpAny_mono (hb (X.pn++pins) _ _ ?W [] s σ H D (I.tryc _) h) (fun f s1 hs=>?_) (fun e s1 z=>z)
 case W =>
   intro pins' σ1 H1 H2 s1 s2 ea C dx fl I1 I2 hfl x q
   have J1:=I1.untryc
   have J2:=I2.untryc
   obtain ⟨C',dx',e1,e2,hex,hq⟩:=q
   cases e1
   cases e2
   have fr:X.A.frames=some (X.env::X.outer):=by rw [← hst];exact J2.ok.frames
   have ff:s2.heap.FunFrames X.base (X.env::X.outer):=by rw [← hst];exact J2.stack
   have off:∀ {h:Heap},h.FunFrames X.base (X.env::X.outer)→∀ b∈ZJ (X.env::X.outer),∃ o,h.get? b=some o∧∀ vs,o.data≠.fields vs:=fun f b hb=>(f.mem hb).2
   refine Zag (base:=X.base) (n:=s1.heap.objs.size) (H:=H2) hfl fr ff hfr J2.bk x (fun b hb=>J2.hok.fresh hb) fun h3 b3 f3 x3 k3=>?_
   refine XQ b3 f3 x3 fun h4 b4 f4 x4 k4=>?_
   have k34:=k3.trans (k4 _ (off f3))
   have J4:Inv X pins σ1 H2 { s2 with heap:=h4 }:=J1.flown (t':=s2.toks) J2 (by rw [hst];exact k34)
   refine wpAny_handleBy_cons (codeAny_handlers_test ?_) (by intro q;cases q)
   refine YL (X:=X.marked ea X.xe) (J4.mark ea X.xe) hg hm ?_ hdb
   have LT:PySem.W.Looks (model X.prog X.w) h4 (typeOf (.ref ea)) (.ref C):=by
     obtain ⟨_,_,_,oe,vs,he,hc,_⟩:=x4
     rw [← hc];exact (PySem.W.Looks.ld he).andThen .now
   refine (PySem.W.exm_one (h:=h4) J4.kIn LT hex) _ _ _ _ (fun _ _ e=>e) ?_
   refine codeAny_handlers_suite_as ?_
   refine XQ b4 f4 x4 fun h5 b5 f5 x5 k5=>?_
   have k45:=k34.trans (k5 _ (off f4))
   have J5:Inv X pins σ1 H2 { s2 with heap:=h5 }:=J1.flown (t':=s2.toks) J2 (by rw [hst];exact k45)
   obtain ⟨hen,hHe,hne,oe,vs,he,hc,hdi,hd,_⟩:=id x5
   have lt1:∀ b,b < s1.heap.objs.size→b≠ea:=fun b hb z=>by rw [z] at hb;exact absurd hb (Nat.not_lt.mpr hne)
   have J6:Inv X pins σ1 (upd H2 ea (XO ea C dx)) { s2 with heap:=h5 }:=by
     refine J5.track hHe (Nat.le_trans J1.sz hne) (fun z=>lt1 _ J1.lt z.symm) (fun y c hy=>?_) (fun p hp=>lt1 _ (Heap.lt_size (J1.pin p hp).1)) ?_
     · obtain ⟨v,o,e,_⟩:=J1.cell y c hy
       exact lt1 _ (Heap.lt_size e)
     · exact ⟨⟨oe,vs,he,hc,hdi,hd⟩,⟨oe,he⟩,fun h1 h2 ⟨oe,vs,e,r⟩ k=>⟨oe,vs,k _ e,r⟩⟩
   refine YO (X:=X) J6 hN hi (.inl hk) (v:=.ref ea) rfl (fun s6 J8=>?_) (.inr hk)
   refine wpAny_mono (hh ea _ pins s6 _ _ _ (J8.mark ea _) (hq ea hHe)) (fun f s7 hs=>?_) (fun _ _ z=>z)
   have back:∀ {Z:Value→Shared→Prop} {σ':St} {H':Hp} {Q:Unit→Shared→Prop},Inv (X.marked ea Z) pins σ' H' s7→(∀ s',Inv X pins (σ'.set i none) H' s'→Q () s')→wpAny (model X.prog X.w) X.A (do bindName X.env n .none;unbindBehindTheSuite X.env n hp) Q X.xe s7:=fun J q=>Zdp (J.unmark J1.ok.hd) hN hi hk q
   cases f with
   | next=>obtain ⟨σ',H',J,q⟩:=hs;exact back J fun s' J'=>⟨_,H',J',q⟩
   | brk=>obtain ⟨σ',H',J,q⟩:=hs;exact back J fun s' J'=>⟨_,H',J',q⟩
   | cont=>obtain ⟨σ',H',J,q⟩:=hs;exact back J fun s' J'=>⟨_,H',J',q⟩
   | ret u=>obtain ⟨v,σ',H',J,r,q⟩:=hs;exact back J fun s' J'=>⟨v,_,H',J',r,q⟩
 · cases f with
   | next=>obtain ⟨σ',H',J,q⟩:=hs;exact wpAny_pure ⟨σ',H',J.untryc,q⟩
   | brk=>obtain ⟨σ',H',J,q⟩:=hs;exact ⟨σ',H',J.untryc,q⟩
   | cont=>obtain ⟨σ',H',J,q⟩:=hs;exact ⟨σ',H',J.untryc,q⟩
   | ret u=>obtain ⟨v,σ',H',J,r,q⟩:=hs;exact ⟨v,σ',H',J.untryc,r,q⟩
end
end L2
set_option maxHeartbeats 1000000
namespace L2
open PySem PySem.Spec PyProof.Rows
def XX (P:Program)(w:World)(K:PySem.W.Frag)(mg:Str→Option Value)(base:Heap)(k:Nat)(C:Addr)(m:Str)(ps:List Str)(sp:Sp):Prop:=∃ f fd,FnOk P w K mg base (XJ P w base) k f fd ps sp∧Binds K fd ps []∧WS K C m f
section
variable {P:Program}{w:World}{K:PySem.W.Frag}{mg:Str→Option Value}{base:Heap}{j k:Nat}{C:Addr}{x m:Str}{ps:List Str}{sp:Sp}
end
def ZbF (C:Addr)(m:Str)(sp:Sp)(EE:St→XK)(ta:TE)(t:TA):TE:=fun σ H Q=>ta σ H fun x H1=>∃ a dx fs,x=.ref a∧H1 a=some (.ins C dx fs)∧fs.lookup m=none∧t σ H1 fun vs H2=>sp (x::vs) H2 Q (EE σ)
section
variable {X:Cx}{EE:St→XK}{k:Nat}{f C:Addr}{fd:FuncData}{ps:List Str}{sp:Sp}{x m:Str}{p pos apos:Pos}{e o:Expr}{es:List Expr}{ta:TE}{t:TA}
theorem Zal {pins:List (Addr×Obj)}{σ:St}{H:Hp}{s:Shared}{Q:VK}{us:List Value}{vs:List V}(W:Yk X EE)(F:FnOk X.prog X.w X.K X.mg X.base (XJ X.prog X.w X.base) k f fd ps sp)(hr:Room k X.A)(hb:Binds X.K fd ps [])
   (I:Inv X pins σ H s) (r:Vals vs us) (h:sp vs H Q (EE σ)):wpAny (model X.prog X.w) X.A (call (.ref f) us) (EP X pins σ Q) X.xe s:=by
 have hl:(us++[]).length=ps.length:=by rw [List.append_nil,← r.length];exact F.len _ _ _ _ h
 have hb':=hb s us I.kIn hl
 rw [List.append_nil] at hb'
 refine wpAny_call (codeAny_mono (F.run X.A X.stack s H ⟨us,[]⟩ us vs Q (EE σ) hr I.env0 hb' r h) fun r s' hq=>?_)
 cases r with
 | error e =>
   obtain ⟨ea,C,dx,H',rfl,kb,ff,x,os,gb,un,hok,q⟩:=hq
   exact W pins σ H H' s s' ea C dx _ I (I.call' os un hok gb fun b z=>absurd z (by simp)) (.inr rfl) x q
 | ok fl =>
   cases fl with
   | ret u=>exact I.after hq
   | next=>exact False.elim hq
   | brk=>exact False.elim hq
   | cont=>exact False.elim hq
theorem Zfu {pl:Sem Bool}(W:Yk X EE)(D:XX X.prog X.w X.K X.mg X.base k C m ps sp)(c:Cls X.K C)(hr:Room k X.A)(he:PE X o ta)(ha:PA X (e::es) t)
   (hst:starEach (e::es) X.env=(false,eval e X.env)::starEach es X.env:=by rfl) (hpl:(backTo pos (starEach es X.env)).any (·.1)=false:=by rfl)
   (ht:eval (.Call (.Attribute o m apos) (e::es) [] pos) X.env=(do
     let ov ← eval o X.env
     standAt apos.atName
     let (f,first) ← holding [ov] (getMethod ov m pl)
     callWith pos f first (backTo pos (starEach (e::es) X.env)) (backToKw pos (keywordEach [] X.env))):=by rfl) :
   PE X (.Call (.Attribute o m apos) (e::es) [] pos) (ZbF C m sp EE ta t):=by
 obtain ⟨f,fd,F,b,hm⟩:=D
 intro pins s σ H Q I h
 refine PySem.W.methodCall_KW (pl:=pl) (Zo (he pins s σ H _ I h) fun u s1 ⟨x,H1,I1,rx,a,dx,fs,ex,ea,l,q⟩=>?_) ht
 subst ex
 obtain rfl:u=Value.ref a:=rx
 refine YI I1 ea c hm l ?_
 refine PySem.W.callWith_K (h₀:=X.base) (first:=[.ref a]) I1.ok.mod.kin hm.kp (Zo (ha pos pins s1 σ H1 _ I1 q) fun us s2 ⟨vs,H2,I2,r,q2⟩=>⟨I2.kIn,?_⟩) hst hpl
 exact Zal (us:=.ref a::us) (vs:=.ref a::vs) W F hr b I2 (.cons rfl r) q2
theorem ZeB {pl:Sem Bool}(W:Yk X EE)(D:XX X.prog X.w X.K X.mg X.base k C m ps sp)(c:Cls X.K C)(hr:Room k X.A)(he:PE X o ta)
   (ht:eval (.Call (.Attribute o m apos) [] [] pos) X.env=(do
     let ov ← eval o X.env
     standAt apos.atName
     let (f,first) ← holding [ov] (getMethod ov m pl)
     callWith pos f first (backTo pos (starEach [] X.env)) (backToKw pos (keywordEach [] X.env))):=by rfl) :
   PE X (.Call (.Attribute o m apos) [] [] pos) (ZbF C m sp EE ta WR):=by
 obtain ⟨f,fd,F,b,hm⟩:=D
 intro pins s σ H Q I h
 refine PySem.W.methodCall_KW (pl:=pl) (Zo (he pins s σ H _ I h) fun u s1 ⟨x,H1,I1,rx,a,dx,fs,ex,ea,l,q⟩=>?_) ht
 subst ex
 obtain rfl:u=Value.ref a:=rx
 refine YI I1 ea c hm l ?_
 exact PySem.W.callWith_K0 (first:=[.ref a]) I1.kIn hm.kp (Zal (us:=[.ref a]) (vs:=[.ref a]) W F hr b I1 (.cons rfl .nil) q)
end
theorem Fun.okX {P:Program}{w:World}{K:PySem.W.Frag}{mg:Str→Option Value}{base:Heap}{x qual:Str}{st:Stmt}{f:Addr}{fd:FuncData}{N ps:List Str}{k:Nat}{sp:Sp}(F:Fun K x qual st f fd)(S:Zu N ps (Zi st))(len:∀ vs H Q E,sp vs H Q E→vs.length=ps.length)
   (hbody:∀ (cdv:Value) (A:Around) (outer:List Env) (s:Shared) (H:Hp) (vs:List V) (Q:VK) (E:XK),Room k (A.deeper (envOfC qual (Zi st) s.heap.objs.size f cdv))→sp vs H Q E →
     Yk (Xf (XJ P w base) P w K mg base N qual (Zi st) f cdv A outer s H E) (fun _=>E) →
     ∃ t,PSs (Xf (XJ P w base) P w K mg base N qual (Zi st) f cdv A outer s H E) (Yy st) t∧t { nx:=fun _ H'=>Q .non H',rt:=Q } (YA N vs) H):FnOk P w K mg base (XJ P w base) (k+1) f fd ps sp:=by
 obtain ⟨oc,od,kV,doc,pm,an,cdv,ct,osl,rfl,lk,hcd⟩:=F.ex
 exact Zav lk hcd S len fun A outer s H vs Q E hr hsp=>hbody cdv A outer s H vs Q E hr hsp ZbR
end L2
set_option maxHeartbeats 1000000
namespace L2
open PySem PySem.Spec PyProof.Rows
def XN (ea C:Addr):HO:=.ext fun h=>∃ t:Addr,h.get? ea=some { cls:=.ref C,data:=.fields #[.ref t,.none,.none,.none,.bool false,.none] }
def XW (ea C dx:Addr):HO:=.ext fun h=>∃ t:Addr,h.get? ea=some { cls:=.ref C,dict:=some dx,data:=.fields #[.ref t,.none,.none,.none,.bool false,.none] }
structure XF (K:PySem.W.Frag)(C fI:Addr):Prop where
 xc:UT K C=true
 init:PySem.W.findIn K (.ref C) "__init__"=some (some (.ref fI))
 sa:PySem.W.findIn K (.ref C) "__setattr__"=some (some (.builtin "object.__setattr__"))
 nw:PySem.W.findIn K (.ref C) "what"=some none
 fn:PySem.W.isFn K (.ref fI)=true
 kp:PySem.W.keepIn K (.ref C)=true
def Zfs (K:PySem.W.Frag)(ta tv:TE):TS:=fun D σ H=>tv σ H fun y H1=>ta σ H1 fun x H2=>∃ ea C fI,x=.ref ea∧H2 ea=some (XN ea C)∧XF K C fI∧∀ dx,H2 dx=none→dx≠ea→D.nx σ (upd (upd H2 dx (.xd [("what",y)])) ea (XW ea C dx))
section
variable {X:Cx}{o value:Expr}{pos pos':Pos}{ta tv:TE}
theorem ZdH (ha:PE X o ta)(hv:PE X value tv)(hs:swapsWith value (some (.Attribute o "what" pos')) pos.line X.env=pure false):PS X (.Assign [.Attribute o "what" pos'] value pos) (Zfs X.K ta tv):=by
 intro pins s σ H D I h
 refine plainObj_wpAny_Assign_Attribute (Zo (hv pins s σ H _ I h) fun u s1 ⟨y,H1,I1,ry,q⟩=>Zo (ha pins s1 σ H1 _ I1 q) fun ov s2 ⟨x,H2,I2,rx,ea,C,fI,ex,hea,xf,q2⟩=>?_) hs
 subst ex
 obtain rfl:ov=Value.ref ea:=rx
 obtain ⟨⟨t,hx⟩,_,_⟩:=(show ObjOk X.prog X.w H2 s2.heap ea (XN ea C) from I2.hok ea _ hea)
 obtain ⟨nm,qn,N,bs,bm,sn,sub,ab,col,dd,k0,k1,k2,k3,k5,hC,T⟩:=XV I2.kIn xf.xc
 obtain ⟨hh,g,d,tk,os⟩:=s2
 have hdn:H2 hh.objs.size=none:=I2.hok.fresh (Nat.le_refl _)
 have hne:hh.objs.size≠ea:=Nat.ne_of_gt (Heap.lt_size hx)
 refine Zej T hC (PySem.W.looks_findIn I2.kIn xf.sa) (PySem.W.looks_findIn I2.kIn xf.nw) hx rfl rfl (fun c z=>by cases z) fun h' tk' hx' hns hk=>⟨σ,_,?_,q2 _ hdn hne⟩
 have nea:∀ b,H2 b=none→b≠ea:=fun b e z=>by rw [z,hea] at e;cases e
 have ndx:∀ b ob,hh.get? b=some ob→b≠hh.objs.size:=fun b ob e=>Nat.ne_of_lt (Heap.lt_size e)
 refine I2.un (h':=h') (t':=tk') ⟨fun b ob e n _ _=>hk b ob (nea b n) e,fun b ob e n _ _=>⟨ob.slots,hk b ob (nea b n) e⟩,fun b ob e n _=>by rw [Zc (nea b n),Zc (ndx b ob e)];exact n,fun b ob e _=>?_,fun b xs e=>?_,fun b w xs e=>?_,fun b ps e=>?_⟩ fun b w e=>?_
 · by_cases z:b=ea
   · rw [z];exact ⟨_,hx'⟩
   · exact ⟨ob,hk b ob z e⟩
 · rw [Zc (fun z=>by rw [z,hea] at e;cases e),Zc (Zm e hdn)];exact e
 · rw [Zc (fun z=>by rw [z,hea] at e;cases e),Zc (Zm e hdn)];exact e
 · exact ⟨#[],by rw [Zc (fun z=>by rw [z,hea] at e;cases e),Zc (Zm e hdn),e];simp⟩
 · by_cases z:b=ea
   · subst z;rw [Zd] at e;cases e
     exact ⟨⟨t,hx'⟩,⟨_,hx'⟩,fun h1 h2 ⟨t,e⟩ k=>⟨t,k _ e⟩⟩
   · rw [Zc z] at e
     by_cases z2:b=hh.objs.size
     · subst z2;rw [Zd] at e;cases e
       refine ⟨_,hns,fun f=>?_⟩
       show RelO (List.lookup f [("what",y)]) (if f="what" then some u else none)
       by_cases hf:f="what"
       · rw [if_pos hf,hf];exact ry
       · rw [if_neg hf]
         have hb:(f == ("what":Str))=false:=beq_eq_false_iff_ne.mpr hf
         simp only [List.lookup,hb];exact True.intro
     · rw [Zc z2] at e
       refine (I2.hok b w e).stay (fun c u hc q=>?_) (fun c q=>?_) (fun c xs q=>?_)
       · refine hk c u (fun y=>?_) q
         rcases hc with rfl | hc
         · exact z y
         · rw [y,hea] at hc;cases hc
       · rw [Zc (fun y=>by rw [y,hea] at q;cases q),Zc (Zm q hdn)];exact q
       · rw [Zc (fun y=>by rw [y,hea] at q;cases q),Zc (Zm q hdn)];exact q
end
def Zcs (K:PySem.W.Frag):Sp:=fun vs H Q _=>∃ (ea C fI:Addr) (v:V),vs=[.ref ea,v]∧H ea=some (XN ea C)∧XF K C fI∧∀ dx,H dx=none→dx≠ea→Q .non (upd (upd H dx (.xd [("what",v)])) ea (XW ea C dx))
def VC (P:Program)(w:World)(K:PySem.W.Frag)(mg:Str→Option Value)(base:Heap)(k:Nat)(C:Addr)(x:Str):Prop :=
 ∃ fI fd,FnOk P w K mg base ZG k fI fd ["self","what"] (Zcs K)∧Binds K fd ["self","what"] []∧XF K C fI∧mg x=some (.ref C)
def ZeC (C:Addr)(EE:St→XK)(t:TA):TS:=fun _ σ H=>t σ H fun vs H1=>∃ v,vs=[v]∧∀ dx,H1 dx=none→EE σ (.ref C) (some dx) (upd H1 dx (.xd [("what",v)]))
section
variable {X:Cx}{pins:List (Addr×Obj)}{σ:St}{H:Hp}{s:Shared}
def Ul (H:Hp)(a:Addr):Hp:=fun b=>if b=a then none else H b
theorem YX {a b:Addr}(h:b≠a):Ul H a b=H b:=if_neg h
theorem Inv.untrack {a:Addr}{φ:Heap→Prop}(I:Inv X pins σ H s)(e:H a=some (.ext φ))(O:X.Old a):Inv X pins σ (Ul H a) s:=by
 have off:∀ b,H b=none→Ul H a b=none:=fun b n=>by unfold Ul;split;rfl;exact n
 refine ⟨I.ok,I.os,I.bare,⟨I.base.keep,I.base.slot,fun b u q n hx=>off b (I.base.free b u q n hx),I.base.there,fun b xs q=>?_,fun b u xs q=>?_,fun b ps q=>?_⟩,I.loc,I.cell,off _ I.free,fun x c hx=>off _ (I.freeC x c hx),fun p hp=>?_,fun b u q=>?_,I.len⟩
 · rw [YX (O.nt q)];exact I.base.tups b xs q
 · rw [YX (O.nf q)];exact I.base.frzs b u xs q
 · rw [YX (O.nb q)];exact I.base.tbls b ps q
 · obtain ⟨e1,e2,e3⟩:=I.pin p hp
   exact ⟨e1,off _ e2,e3⟩
 · by_cases z:b=a
   · subst z;unfold Ul at q;rw [if_pos rfl] at q;cases q
   · rw [YX z] at q
     exact (I.hok b u q).stay (fun _ _ _ y=>y) (fun c y=>by rw [YX (fun z=>by rw [z,e] at y;cases y)];exact y) (fun c xs y=>by rw [YX (fun z=>by rw [z,e] at y;cases y)];exact y)
end
section
variable {X:Cx}{EE:St→XK}{k:Nat}{C:Addr}{x:Str}{np cpos pos:Pos}{e:Expr}{t:TA}
theorem UQ (W:Yk X EE)(D:VC X.prog X.w X.K X.mg X.base k C x)(hr:Room (k+1) X.A)(hcalm:X.calm=true)(ha:PA X [e] t)(hg:Gl X x:=by rfl)(hdb:(x == ("__debug__":Str))=false:=by decide)
   (he:starEach [e] X.env=(false,eval e X.env)::starEach [] X.env:=by rfl) (hpl:(backTo cpos (starEach [] X.env)).any (·.1)=false:=by rfl):PS X (.Raise (some (.Call (.Name x np) [e] [] cpos)) none pos) (ZeC C EE t):=by
 obtain ⟨fI,fd,F,hb,xf,hm⟩:=D
 intro pins s σ H D I h
 rw [arm_exec_Raise]
 obtain ⟨nm,qn,N,bs,bm,sn,sub,ab,col,dd,k0,k1,k2,k3,k5,hCb,T⟩:=XV I.ok.mod.kin xf.xc
 refine wpAny_bind (wpAny_standAt (ZdS (C:=C) (nm:=nm) (q:=qn) (N:=N) (bs:=bs) (sn:=sn) (sub:=sub) (ab:=ab) (col:=col) (dd:=dd) (k0:=k0) (k1:=k1) (k2:=k2) (k3:=k3) (k5:=k5) T (I.ok.hd hcalm) (wpAny_bind ?_)))
 refine wpAny_mono (Q:=fun v s₁=>∃ e oe vs,v=.ref e∧s₁.heap.get? C=some (excClassObj nm qn C N bs bm true sn sub ab col dd k0 k1 k2 k3 k5 "ValueError.__new__")∧s₁.heap.get? e=some oe∧oe.cls=.ref C∧oe.data=.fields vs∧vs[1]?=some .none∧X.xe (.ref e) s₁) ?_ (fun v s1 h1=>wpAny_bind (wpAny_standAt (wpAny_pure h1))) fun _ _ x=>x
 refine wpAny_Call_Name_kw (YL I hg hm ?_ hdb)
 refine PySem.W.callWith_K (h₀:=X.base) I.ok.mod.kin xf.kp (Zo (ha cpos pins s σ H _ I h) fun us s1 ⟨vs,H1,I1,r,v,ev,q⟩=>⟨I1.kIn,?_⟩) he hpl
 subst ev
 obtain ⟨u,rfl,ru⟩:=Yt r
 obtain ⟨hh,g,d,tk,os⟩:=s1
 have hC1:=I1.bk _ _ hCb
 obtain ⟨oI,hoI,hoc⟩:∃ oI,hh.get? fI=some oI∧oI.cls=.type "function":=by
   obtain ⟨oI,ho,hc⟩:=Option.map_eq_some_iff.mp (show (X.K.lookup fI).map (·.cls)=some (.type "function") from beq_iff_eq.mp xf.fn)
   exact ⟨oI,I1.kIn _ _ ho,hc⟩
 refine ZeV T hC1 (PySem.W.looks_findIn I1.kIn xf.init) hoI hoc (fun h' ea hm' hle=>?_) (by show 1≤sizeLine;decide)
 obtain ⟨t0,h0,h1,h2⟩:=hm'.there
 have hH1:H1 ea=none:=I1.hok.fresh hle
 have I2:Inv X pins σ (upd H1 ea (XN ea C)) ⟨h',g,d,tk,os⟩:=I1.laid (a:=ea) (o:=XN ea C) (h':=h') (t':=tk) hm'.keeps hle ⟨⟨t0,h0⟩,⟨_,h0⟩,fun h1 h2 ⟨t,e⟩ k=>⟨t,k _ e⟩⟩
 have hsp:Zcs X.K [.ref ea,v] (upd H1 ea (XN ea C)) (fun w H'=>w=.non∧∃ dx,H1 dx=none∧dx≠ea∧H'=upd (upd (upd H1 ea (XN ea C)) dx (.xd [("what",v)])) ea (XW ea C dx)) E0 :=
   ⟨ea,C,fI,v,rfl,Zd,xf,fun dx h1 h2=>⟨rfl,dx,by rw [Zc h2] at h1;exact h1,h2,rfl⟩⟩
 have r2:Vals [V.ref ea,v] [Value.ref ea,u]:=.cons rfl (.cons ru .nil)
 refine wpAny_call (codeAny_mono (F.run _ X.stack _ _ ⟨[.ref ea,u],[]⟩ [.ref ea,u] _ _ E0 (hr.make C [u] []) (I2.env0.make C [u] []) (hb _ [.ref ea,u] I2.kIn rfl) r2 hsp) fun r s' hq=>?_)
 cases r with
 | error e=>exact hq.elim
 | ok fl =>
   cases fl with
   | next=>exact False.elim hq
   | brk=>exact False.elim hq
   | cont=>exact False.elim hq
   | ret u' =>
     obtain ⟨w,H3,I3,rw',⟨ew,dx,hdx,hde,eH⟩⟩:=I2.after hq
     subst ew eH
     refine ⟨rw',?_⟩
     have at3:upd (upd (upd H1 ea (XN ea C)) dx (.xd [("what",v)])) ea (XW ea C dx) ea=some (XW ea C dx):=Zd
     obtain ⟨⟨t3,hx3⟩,_,_⟩:=(show ObjOk X.prog X.w _ s'.heap ea (XW ea C dx) from I3.hok ea _ at3)
     have I4:=I3.untrack at3 (I1.old hH1)
     have eq4:Ul (upd (upd (upd H1 ea (XN ea C)) dx (.xd [("what",v)])) ea (XW ea C dx)) ea=upd H1 dx (.xd [("what",v)]):=by
       funext b
       by_cases z:b=ea
       · subst z;unfold Ul;rw [if_pos rfl,Zc (Ne.symm hde)];exact hH1.symm
       · rw [YX z,Zc z]
         by_cases z2:b=dx
         · subst z2;rw [Zd,Zd]
         · rw [Zc z2,Zc z2,Zc z]
     rw [eq4] at I4
     refine ⟨ea,_,_,rfl,I3.bk _ _ hCb,hx3,rfl,rfl,rfl,?_⟩
     refine W pins σ H1 _ ⟨hh,g,d,tk,os⟩ s' ea C dx none I1 I4 (.inl rfl) ⟨?_,by rw [Zc (Ne.symm hde)];exact hH1,hle,_,_,hx3,rfl,rfl,rfl,rfl⟩ (q dx hdx)
     cases qb:X.base.get? ea with
     | none=>rfl
     | some ob=>have:=I1.bk _ _ qb;rw [hm'.new] at this;cases this
end
end L2
set_option maxHeartbeats 1000000
namespace L2
open PySem PySem.Spec PyProof.Rows
open PySem.Builtin PySem.Builtin.ObjectAttr
section
variable {prog:Program}{w:World}{A:Around}{E:Value→Shared→Prop}{h:Heap}{g:Array GenState}{d:Drawn}{t:Nat}{os:OsState}
variable {nm q:Str}{C N a dx:Addr}{bs bm:List Value}{sn:List Str}{sub:List Value}{ab:Bool}{col:Option Bool}{dd:Option Addr}{k0 k1 k2 k3 k5:Option Value}{name:Str}{v:Value}{o:Obj}{vs:Array Value}{mA:Str→Option Value}
abbrev Wu (h:Heap)(nm q:Str)(C N:Addr)(bs bm:List Value)(sn:List Str)(sub:List Value)(ab:Bool)(col:Option Bool)(dd:Option Addr)(k0 k1 k2 k3 k5:Option Value):Prop:=h.get? C=some (excClassObj nm q C N bs bm true sn sub ab col dd k0 k1 k2 k3 k5 "ValueError.__new__")
theorem ZaK {M:Model}{nameV:Value}{Q:Unit→Shared→Prop}(T:VT bm)(hC:Wu h nm q C N bs bm sn sub ab col dd k0 k1 k2 k3 k5)
   (hx:h.get? a=some o) (hc:o.cls=.ref C) (hq:Q () ⟨h,g,d,t,os⟩):wpAny M A (checkBuiltinCall "BaseException.__getattribute__" ⟨[.ref a,nameV],[]⟩) Q E ⟨h,g,d,t,os⟩:=by
 have hk:builtinKind "BaseException.__getattribute__"=some .slot:=by decide +kernel
 have hsplit:splitId "BaseException.__getattribute__"=some ("BaseException","__getattribute__"):=by decide +kernel
 have hcB:(Value.ref C::bm).contains (.type "BaseException")=true:=by rw [List.contains_cons,T.has PySem.F.attrBase_ValueError.hasBase];rfl
 have ha:=PySem.F.args_bexc_ga (.ref a) nameV
 simp only [checkBuiltinCall,hk,hsplit]
 refine wpAny_bind ?_
 · unfold isInstance
   repeat (first | (with_reducible refine wpAny_loadPart_at hx ?_;rw [hc]) | (with_reducible refine wpAny_isSubtype_exc hC ?_;rw [hcB]) | wp_step)
   exact hq
theorem x_by {tk:Tok}{fill expr:Bool}{Q:Value→Shared→Prop}(T:VT bm)(hC:Wu h nm q C N bs bm sn sub ab col dd k0 k1 k2 k3 k5)
   (LG:PySem.W.Looks (model prog w) h (typeLookup (.ref C) "__getattribute__") (some (.builtin "BaseException.__getattribute__"))) (LA:PySem.W.Looks (model prog w) h (typeLookup (.ref C) "__getattr__") none)
   (hx:h.get? a=some o) (hc:o.cls=.ref C) (hh:handedOut v=pure v)
   (he:∀ (A:Around) (R:PySem.Fin→Shared→Prop) (E:Value→Shared→Prop),R (.done (.ret v)) ⟨h,g,d,t,os⟩→wpAny (model prog w) A (Builtin.«object.__getattribute__» ⟨[.ref a,.str name tk],[]⟩) R E ⟨h,g,d,t,os⟩) (hq:Q v ⟨h,g,d,t,os⟩) :
   wpAny (model prog w) A (getAttrBy (.ref a) (.str name tk) fill expr) Q E ⟨h,g,d,t,os⟩:=by
 have FB:=PySem.F.attrBase_ValueError
 have f3:=FB.ga.bind (.ref a)
 have hx0:(expr&&onTheHeap (Value.builtin "BaseException.__getattribute__"))=false:=by cases expr<;>rfl
 have hx2:(Value.builtin "BaseException.__getattribute__" == Value.builtin "object.__getattribute__")=false:=by decide +kernel
 have hx1:(onTheHeap (Value.ref C)&&Value.builtin "BaseException.__getattribute__" == Value.builtin "object.__getattribute__")=false:=by rw [hx2];rfl
 have LG':∀ {A:Around} {Q:Option Value→Shared→Prop} {E:Value→Shared→Prop},Q (some (.builtin "BaseException.__getattribute__")) ⟨h,g,d,t,os⟩→wpAny (model prog w) A (typeLookup (.ref C) "__getattribute__") Q E ⟨h,g,d,t,os⟩:=fun q=>LG _ _ _ _ (fun _ _ e=>e) q
 have LA':∀ {A:Around} {Q:Option Value→Shared→Prop} {E:Value→Shared→Prop},Q none ⟨h,g,d,t,os⟩→wpAny (model prog w) A (typeLookup (.ref C) "__getattr__") Q E ⟨h,g,d,t,os⟩:=fun q=>LA _ _ _ _ (fun _ _ e=>e) q
 repeat (any_goals (first | assumption | (with_reducible refine wpAny_loadPart_at hx ?_;rw [hc]) | with_reducible refine LG' ?_ | with_reducible refine LA' ?_ | wp_step))
 refine codeAny_call_builtin FB.ga.plain PySem.F.entry_bexc_ga (ZaK T hC hx hc (he _ _ _ ?_))
 show wpAny _ _ (handedOut v) _ _ _
 rw [hh]
 exact wpAny_pure hq
theorem ZeO {tk:Tok}{Q:PySem.Fin→Shared→Prop}(hC:Wu h nm q C N bs bm sn sub ab col dd k0 k1 k2 k3 k5)(LN:PySem.W.Looks (model prog w) h (typeLookup (.ref C) name) none)
   (hx:h.get? a=some o) (hc:o.cls=.ref C) (hdi:o.dict=some dx) (hd:o.data=.fields vs) (hns:h.Ns1 dx mA) (hv:mA name=some v) (hq:Q (.done (.ret v)) ⟨h,g,d,t,os⟩) :
   wpAny (model prog w) A (Builtin.«object.__getattribute__» ⟨[.ref a,.str name tk],[]⟩) Q E ⟨h,g,d,t,os⟩:=by
 have LN':∀ {A:Around} {Q:Option Value→Shared→Prop} {E:Value→Shared→Prop},Q none ⟨h,g,d,t,os⟩→wpAny (model prog w) A (typeLookup (.ref C) name) Q E ⟨h,g,d,t,os⟩:=fun q=>LN _ _ _ _ (fun _ _ e=>e) q
 unfold Builtin.«object.__getattribute__»
 repeat (first | (with_reducible refine wpAny_loadPart_at hx ?_;rw [hc]) | (with_reducible refine LN' ?_) | wp_step)
 split
 · rename_i c hcd
   rw [hd] at hcd;cases hcd
 unfold instanceDict
 repeat (first | (with_reducible refine wpAny_loadPart_at hx ?_;rw [hc]) | with_reducible refine wpAny_loadPart_at hC ?_ | wp_step)
 rw [hdi]
 repeat (first | (with_reducible refine wpAny_nsGet hns.ns ?_;rw [hv]) | wp_step)
 exact hq
theorem VH {R:Result→Shared→Prop}(T:VT bm)(hC:Wu h nm q C N bs bm sn sub ab col dd k0 k1 k2 k3 k5)(hx:h.get? a=some o)(hc:o.cls=.ref C)(hq:R (.ok (.ret (.ref C))) ⟨h,g,d,t,os⟩) :
   codeAny (model prog w) A (.call (.builtin "getset_descriptor.__get__") ⟨[.builtin "object.__class__",.ref a,.ref C],[]⟩) R ⟨h,g,d,t,os⟩:=by
 have hT5:(⟨h,g,d,t,os⟩:Shared).TypeIs (.builtin "object.__class__") "getset_descriptor":=PySem.F.typeOf_object_class
 have hcB:(Value.ref C::bm).contains (.type (".".intercalate ("object.__class__".cutAt '.').dropLast))=true:=by
   rw [PySem.F.owner_object_class,List.contains_cons,T.has (b:=true) (by decide +kernel)];rfl
 refine codeAny_call_builtin PySem.F.slot_gs_get.plain PySem.F.entry_gs_get (PySem.F.slot_gs_get.check _ _ _ _ _ _ _ _ hT5 (PySem.F.args_gs_get _ _ _) ?_)
 repeat (any_goals (first | assumption | (with_reducible refine wpAny_loadPart_at hx ?_;rw [hc]) | (with_reducible refine wpAny_isSubtype_exc hC ?_;rw [hcB]) | wp_step))
 refine ⟨Code.quiet_builtin _ (by decide +kernel),codeAny_builtin PySem.F.entry_object_class ?_⟩
 repeat (any_goals (first | assumption | (with_reducible refine wpAny_loadPart_at hx ?_;rw [hc]) | wp_step))
theorem Zdw {tk:Tok}{Q:PySem.Fin→Shared→Prop}(T:VT bm)(hC:Wu h nm q C N bs bm sn sub ab col dd k0 k1 k2 k3 k5)(LC:PySem.W.Looks (model prog w) h (typeLookup (.ref C) "__class__") (some (.builtin "object.__class__")))
   (hx:h.get? a=some o) (hc:o.cls=.ref C) (hq:Q (.done (.ret (.ref C))) ⟨h,g,d,t,os⟩) :
   wpAny (model prog w) A (Builtin.«object.__getattribute__» ⟨[.ref a,.str "__class__" tk],[]⟩) Q E ⟨h,g,d,t,os⟩:=by
 have LC':∀ {A:Around} {Q:Option Value→Shared→Prop} {E:Value→Shared→Prop},Q (some (.builtin "object.__class__")) ⟨h,g,d,t,os⟩→wpAny (model prog w) A (typeLookup (.ref C) "__class__") Q E ⟨h,g,d,t,os⟩:=fun q=>LC _ _ _ _ (fun _ _ e=>e) q
 have hT5:(⟨h,g,d,t,os⟩:Shared).TypeIs (.builtin "object.__class__") "getset_descriptor":=PySem.F.typeOf_object_class
 have f5:=PySem.F.typeOf_object_class
 have f6:=PySem.F.slot_gs_get.lookup
 have f7:=PySem.F.slot_gs_set.lookup
 repeat (any_goals (first | assumption | (with_reducible refine wpAny_loadPart_at hx ?_;rw [hc]) | (with_reducible refine LC' ?_) | wp_step))
 refine VH T hC hx hc ?_
 repeat (any_goals (first | assumption | wp_step))
end
structure XG (K:PySem.W.Frag)(C:Addr):Prop where
 xc:UT K C=true
 nw:PySem.W.findIn K (.ref C) "what"=some none
 ga:PySem.W.findIn K (.ref C) "__getattribute__"=some (some (.builtin "BaseException.__getattribute__"))
 gh:PySem.W.findIn K (.ref C) "__getattr__"=some none
 gc:PySem.W.findIn K (.ref C) "__class__"=some (some (.builtin "object.__class__"))
theorem UX {K:PySem.W.Frag}{C ea:Addr}(G:XG K C):PySem.W.KitX K (.ref ea) (.ref C) (fun h=>∃ o,h.get? ea=some o∧o.cls=.ref C) where
 ty:=fun M h _ p=>by obtain ⟨o,h1,h2⟩:=p;exact h2 ▸ (PySem.W.Looks.ld h1).andThen .now
 it:=fun M h X p=>by
   obtain ⟨nm,qn,N,bs,bm,sn,sub,ab,col,dd,k0,k1,k2,k3,k5,hC,T⟩:=XV X G.xc
   intro A' Q' E' s' k q
   unfold isType loadHead
   exact wpAny_bind (wpAny_loadPart (k _ _ hC) (wpAny_pure q))
 ne:=fun h tp dd its n sl X htp=>by
   obtain ⟨nm,qn,N,bs,bm,sn,sub,ab,col,dd,k0,k1,k2,k3,k5,hC,T⟩:=XV X G.xc
   refine Bool.eq_false_iff.mpr fun q=>?_
   have e:C=tp:=Value.ref.inj (beq_iff_eq.mp q)
   subst e
   have z:=congrArg Obj.cls (Option.some.inj (hC.symm.trans htp))
   exact absurd (Value.type.inj z) (by decide)
 ca:=fun {prog w A E Q s} X p k=>by
   obtain ⟨nm,qn,N,bs,bm,sn,sub,ab,col,dd,k0,k1,k2,k3,k5,hC,T⟩:=XV X G.xc
   obtain ⟨o,h1,h2⟩:=p
   obtain ⟨h,g,d,t,os⟩:=s
   have by':∀ {tk:Tok} {Q:Value→Shared→Prop} {E:Value→Shared→Prop} {A:Around},Q (.ref C) ⟨h,g,d,t+1,os⟩→wpAny (model prog w) A (getAttrBy (.ref ea) (.str "__class__" tk) false) Q E ⟨h,g,d,t+1,os⟩:=fun q =>
     x_by T hC (PySem.W.looks_findIn X G.ga) (PySem.W.looks_findIn X G.gh) h1 h2 rfl (fun A R E r=>Zdw T hC (PySem.W.looks_findIn X G.gc) h1 h2 r) q
   unfold getAttr? getAttrBy?
   repeat (any_goals (first | assumption | with_reducible apply by' | wp_step))
end L2
set_option maxHeartbeats 2000000
namespace L2
open PySem PySem.W PySem.Spec PyProof.Rows
section
variable {O:KeyOrd}{key:Nat→O.α}{n:Nat}{s:Shared}{cmp:Nat→Nat→(Bool→Shared→Prop)→Shared→Prop}
end
end L2
set_option maxHeartbeats 2000000
namespace L2
open PySem PySem.W PySem.Spec PyProof.Rows
section
variable {prog:Program}{w:World}{A:Around}{E:Value→Shared→Prop}{s:Shared}{a:Addr}{as:List Addr}{ks:List Str}{P:PySem.Fin→Shared→Prop}
end
section
variable {X:Cx}
end
end L2
set_option maxHeartbeats 2000000
namespace L2
open PySem
theorem Wi (B:Nat):∀(ts:List Str)(k:Nat)(acc:Str),(∀ t∈ts,t.length≤B)→(textFrom k acc ts).length≤acc.length+ts.length * (B+2)
 | [],_,acc,_=>by show acc.length≤acc.length+0 * (B+2);omega
 | t::r,k,acc,h=>by
   have h1:=Wi B r (k+1) (acc++(if k > 0 then ", " else "":String)++t) fun x hx=>h x (List.mem_cons_of_mem _ hx)
   have h2:=h t List.mem_cons_self
   rw [Xq,Xq] at h1
   have h3:(Str.ofString (if k > 0 then ", " else "":String)).length≤2:=by split<;>decide
   show (textFrom (k+1) (acc++(if k > 0 then ", " else "":String)++t) r).length≤acc.length+(r.length+1) * (B+2)
   rw [Nat.add_mul,Nat.one_mul]
   omega
theorem ZdG {i:Int}(h:i.natAbs≤10 ^ 31):i.natAbs.log2 < 1920∧(Str.ofString (toString i)).length≤40:=by
 constructor
 · by_cases z:i.natAbs=0
   · rw [z];decide
   · exact (Nat.log2_lt z).mpr (Nat.lt_of_le_of_lt h (by decide +kernel))
 · have e:=int_text_length_le10 (a:=i) (k:=32) (by decide) (Nat.lt_of_le_of_lt h (by decide))
   rw [Xo,PyProof.Rows.signs_ofString,List.length_map,String.length_toList]
   omega
theorem Vb (q c:Nat)(h:c < 128):(Builtin.Str.reprChar q c).length≤4:=by
 by_cases e:(c == q || c == 92)=true
 · unfold Builtin.Str.reprChar;simp only [e,if_true];show 2≤4;decide
 · have e2:(c == 200 || c == 92)=false:=by
     simp only [Bool.or_eq_true,not_or,beq_iff_eq] at e
     simp only [Bool.or_eq_false_iff,beq_eq_false_iff_ne]
     exact ⟨by omega,e.2⟩
   have z:Builtin.Str.reprChar q c=Builtin.Str.reprChar 200 c:=by
     unfold Builtin.Str.reprChar
     simp only [Bool.not_eq_true] at e
     simp only [e,e2]
   rw [z]
   have all:∀ c:_root_.Fin 128,(Builtin.Str.reprChar 200 c.val).length≤4:=by decide +kernel
   exact all ⟨c,h⟩
theorem Zch {x:Str}(h:∀ c∈x.cps.toList,c < 128):(reprText x).length≤2+4 * x.length:=by
 rw [← reprLen_eq,← Array.foldl_toList,Xo]
 have gen:∀ (l:List Nat) (n:Nat),(∀ c∈l,c < 128)→l.foldl (fun n c=>n+(Builtin.Str.reprChar (reprQuote x) c).length) n≤n+4 * l.length:=by
   intro l
   induction l with
   | nil=>intro n _;simp
   | cons c r ih =>
     intro n hc
     have h1:=Vb (reprQuote x) c (hc c List.mem_cons_self)
     have h2:=ih (n+(Builtin.Str.reprChar (reprQuote x) c).length) fun d hd=>hc d (List.mem_cons_of_mem _ hd)
     rw [List.foldl_cons,List.length_cons]
     omega
 exact gen _ _ h
def Ww (v:V):Prop:=v=.non∨ZcS v
def Yp:V→PyData
 | .int i=>.int i
 | .str x=>.str x
 | _=>.none
theorem Zam {H:Hp}{v:V}(h:Ww v):DataOf H v (Yp v):=by
 rcases h with rfl | h
 · exact .non
 · cases v<;>first | exact .int _ | exact .str _ | exact h.elim
structure Sml (d:PyData)(n k:Nat):Prop where
 sh:d.showable=true
 ln:d.shown.length≤n
 dp:d.depth≤k
theorem ZdY {x:Str}{n:Nat}(h:∀ c∈x.cps.toList,c < 128)(hl:2+4 * x.length≤n)(k:Nat):Sml (.str x) n k:=⟨rfl,Nat.le_trans (Zch h) hl,Nat.zero_le _⟩
theorem VA {v:V}(h:Ww v)(k:Nat):Sml (Yp v) 200 k:=by
 rcases h with rfl | h
 · exact ⟨rfl,by show 4≤200;decide,Nat.zero_le _⟩
 · cases v with
   | int i =>
     obtain ⟨h1,h2⟩:=ZdG (show i.natAbs≤10 ^ 31 from h)
     exact ⟨decide_eq_true h1,Nat.le_trans h2 (by decide),Nat.zero_le _⟩
   | str x =>
     refine ZdY (fun c hc=>?_) (by have:x.length≤41:=h.1;omega) k
     have:=List.all_eq_true.mp h.2 c hc
     unfold sgn at this
     simp only [Bool.and_eq_true,decide_eq_true_eq] at this
     omega
   | _=>exact h.elim
theorem YV:∀ ds:List PyData,PyData.shownAll ds=ds.map PyData.shown
 | []=>rfl
 | d::r=>by rw [PyData.shownAll,YV r];rfl
theorem Yz:∀{ds:List PyData},(∀ d∈ds,d.showable=true)→PyData.showableAll ds=true
 | [],_=>rfl
 | d::r,h=>by rw [PyData.showableAll,h d List.mem_cons_self,Yz fun e he=>h e (List.mem_cons_of_mem _ he)];rfl
theorem Xh {k:Nat}:∀{ds:List PyData},(∀ d∈ds,d.depth≤k)→PyData.depthAll ds≤k
 | [],_=>Nat.zero_le _
 | d::r,h=>by
   have h1:=h d List.mem_cons_self
   have h2:=Xh (k:=k) (ds:=r) fun e he=>h e (List.mem_cons_of_mem _ he)
   simp [PyData.depthAll];omega
theorem Zcw {ds:List PyData}{n k:Nat}(h:∀ d∈ds,Sml d n k):Sml (.list ds) (2+ds.length * (n+2)) (k+1):=by
 refine ⟨Yz fun d hd=>(h d hd).sh,?_,?_⟩
 · show (listText (PyData.shownAll ds)).length≤_
   rw [YV]
   show (textFrom 0 "[" (ds.map PyData.shown)++Str.ofString "]").length≤_
   rw [Xq]
   have z:=Wi n (ds.map PyData.shown) 0 "[" (fun t ht=>by
     obtain ⟨d,hd,rfl⟩:=List.mem_map.mp ht
     exact (h d hd).ln)
   rw [List.length_map] at z
   have z1:(Str.ofString "[").length=1:=by decide
   have z2:(Str.ofString "]").length=1:=by decide
   have z3:(textFrom 0 "[" (ds.map PyData.shown)).length≤1+ds.length * (n+2):=by rw [← z1];exact z
   omega
 · have:=Xh (k:=k) fun d hd=>(h d hd).dp
   show PyData.depthAll ds+1≤_
   omega
theorem XS {H:Hp}:∀{vs:List V},(∀ v∈vs,Ww v)→DatasOf H vs (vs.map Yp)
 | [],_=>.nil
 | v::r,h=>.cons (Zam (h v List.mem_cons_self)) (XS fun u hu=>h u (List.mem_cons_of_mem _ hu))
theorem Xb {H:Hp}{a:Addr}{vs:List V}(e:H a=some (.lst vs))(h:∀ v∈vs,Ww v)(hl:vs.length≤1000):DataOf H (.ref a) (.list (vs.map Yp))∧(PyData.list (vs.map Yp)).showable=true∧(PyData.list (vs.map Yp)).shown.length≤sizeLine∧(PyData.list (vs.map Yp)).depth≤60:=by
 have s:=Zcw (ds:=vs.map Yp) (n:=200) (k:=0) fun d hd=>by
   obtain ⟨v,hv,rfl⟩:=List.mem_map.mp hd
   exact VA (h v hv) 0
 refine ⟨.lst e (XS h),s.sh,Nat.le_trans s.ln ?_,Nat.le_trans s.dp (by decide)⟩
 rw [List.length_map]
 have:vs.length * (200+2)≤1000 * 202:=Nat.mul_le_mul_right _ hl
 rw [sizeLine_eq];omega
end L2
set_option maxHeartbeats 2000000
namespace L2
open PySem
end L2
set_option maxHeartbeats 2000000
namespace L2
open PySem
end L2
set_option maxHeartbeats 2000000
namespace L2
open PySem PySem.Spec PyProof.Rows
section
variable {X:Cx}
end
end L2
set_option maxHeartbeats 1000000
namespace L2
open PySem PySem.Spec PyProof.Rows
def ZfJ (K:PySem.W.Frag)(ta:TE):TE:=fun σ H Q=>ta σ H fun x H1=>∃ (ea C dx:Addr) (fs:List (Str×V)) (v:V),x=.ref ea∧H1 ea=some (XO ea C dx)∧H1 dx=some (.xd fs)∧XG K C∧fs.lookup ("what":Str)=some v∧Q v H1
def TyX (K:PySem.W.Frag)(H:Hp)(x:V)(t:Value):Prop:=Yx K H x t∨∃ ea C dx,x=.ref ea∧t=.ref C∧H ea=some (XO ea C dx)∧XG K C
def rIsi (K:PySem.W.Frag):List V→Hp→VK→Prop:=fun xs H Q=>∃ x c t b,xs=[x,c]∧TyX K H x t∧((∃ D,c=.ref D∧PySem.W.kitOne K t (.ref D)=some b)∨(∃ T,c=.ty T∧PySem.W.kitOne K t (.type T)=some b))∧Q (.bl b) H
def ZfQ (K:PySem.W.Frag):List V→Hp→VK→Prop:=fun xs H Q=>∃(ea C dx tp:Addr)(Ds:List Addr)(b:Bool),xs=[.ref ea,.ref tp]∧H ea=some (XO ea C dx)∧XG K C∧H tp=some (.tup (Ds.map V.ref))∧PySem.W.kitAny K (.ref C) (Ds.map Value.ref)=some b∧Q (.bl b) H
section
variable {X:Cx}{e:Expr}{pos:Pos}{ta:TE}
theorem ZdC (he:PE X e ta)(hb:attributeBase e "what" X.env (eval e X.env)=eval e X.env):PE X (.Attribute e "what" pos) (ZfJ X.K ta):=by
 intro pins s σ H Q I h
 refine VY hb (Zo (he pins s σ H _ I h) fun u s1 ⟨x,H1,I1,rx,ea,C,dx,fs,v,ex,hea,hdx,G,l,q⟩=>?_)
 subst ex
 obtain rfl:u=Value.ref ea:=rx
 obtain ⟨⟨oe,vs,he1,he2,he3,he4⟩,_,_⟩:=(show ObjOk X.prog X.w H1 s1.heap ea (XO ea C dx) from I1.hok ea _ hea)
 obtain ⟨mA,hns,hr⟩:=(show ObjOk X.prog X.w H1 s1.heap dx (.xd fs) from I1.hok dx _ hdx)
 obtain ⟨u,hu,ru⟩:=RelO.some_of (v:=v) (o:=mA "what") (by rw [← l];exact hr "what")
 obtain ⟨nm,qn,N,bs,bm,sn,sub,ab,col,dd,k0,k1,k2,k3,k5,hC,T⟩:=XV I1.kIn G.xc
 have hK:=I1.kIn
 have I2:=I1.tok (s1.toks+1)
 obtain ⟨hh,g,d,tk,os⟩:=s1
 refine wpAny_bind (wpAny_mkText ?_)
 exact x_by T hC (PySem.W.looks_findIn hK G.ga) (PySem.W.looks_findIn hK G.gh) he1 he2 (PySem.W.handedOut_of (Uh ru)) (fun A R E r=>ZeO hC (PySem.W.looks_findIn hK G.nw) he1 he2 he3 he4 hns hu r) ⟨v,H1,I2,ru,q⟩
theorem VR {pins:List (Addr×Obj)}{σ:St}{H:Hp}{s:Shared}{A:Around}{E:Value→Shared→Prop}{Q:Value→Shared→Prop}{c:Value}{b:Bool}{x:V}{u t:Value}(I:Inv X pins σ H s)(rx:RelV x u)(ty:TyX X.K H x t)(e:PySem.W.kitOne X.K t c=some b)(h:∀ tk,Q (.bool b) { s with toks:=tk }) :
   wpAny (model X.prog X.w) A (call (.builtin "isinstance") [u,c]) Q E s:=by
 rcases ty with ty | ⟨ea,C,dx,rfl,rfl,hea,G⟩
 · exact ZbQ I rx ty e h
 · cases (show u=Value.ref ea from rx)
   obtain ⟨⟨oe,vs,he1,he2,_⟩,_,_⟩:=(show ObjOk X.prog X.w H s.heap ea (XO ea C dx) from I.hok ea _ hea)
   exact PySem.W.kia_one (UX G) I.kIn ⟨oe,he1,he2⟩ e (fun z=>nomatch z) h
theorem ZF:Yl X (.builtin "isinstance") (rIsi X.K):=by
 intro pins s σ H xs us Q I r h
 obtain ⟨x,c,t,b,rfl,ty,hc,q⟩:=h
 obtain ⟨u,u',rfl,ru,ru'⟩:=UB r
 rcases hc with ⟨D,rfl,e⟩ | ⟨T,rfl,e⟩
 · cases (show u'=Value.ref D from ru')
   exact VR I ru ty e fun tk=>⟨.bl b,H,I.tok tk,rfl,q⟩
 · cases (show u'=Value.type T from ru')
   exact VR I ru ty e fun tk=>⟨.bl b,H,I.tok tk,rfl,q⟩
theorem Wx:∀{Ds:List Addr}{us:List Value},Vals (Ds.map V.ref) us→us=Ds.map Value.ref
 | [],_,h=>by cases h;rfl
 | D::Ds,_,h=>by
   cases h with
   | cons r t=>rw [Wx t,show _=Value.ref D from r];rfl
theorem Us:Yl X (.builtin "isinstance") (ZfQ X.K):=by
 intro pins s σ H xs us Q I r h
 obtain ⟨ea,C,dx,tp,Ds,b,rfl,hea,G,htp,e,q⟩:=h
 obtain ⟨u,u',rfl,ru,ru'⟩:=UB r
 cases (show u=Value.ref ea from ru)
 cases (show u'=Value.ref tp from ru')
 obtain ⟨⟨oe,vs,he1,he2,_⟩,_,_⟩:=(show ObjOk X.prog X.w H s.heap ea (XO ea C dx) from I.hok ea _ hea)
 obtain ⟨_,its,rv,p⟩:=(show ObjOk X.prog X.w H s.heap tp (.tup (Ds.map V.ref)) from I.hok tp _ htp)
 obtain ⟨⟨oc,odi,oda,osl⟩,h1,h2,n,h3⟩:=p
 dsimp only at h2 h3
 subst h2 h3
 rw [Wx rv] at h1
 exact PySem.W.kia_tup (UX G) I.kIn ⟨oe,he1,he2⟩ h1 e (fun z=>nomatch z) fun tk=>⟨.bl b,H,I.tok tk,rfl,q⟩
end
section
variable {X:Cx}
end
section
variable {X:Cx}{elt iter tg cnd:Expr}{xa xb:Str}{pos:Pos}{scope:Scope}{wi:TI}{te:TE}{tc:TT}{g:TG}
end
end L2
set_option maxHeartbeats 2000000
namespace L2
open PySem PySem.Spec PyProof.Rows
mutual
inductive DatT (K:PySem.W.Frag)(H:Hp):V→PyData→Prop
 | non:DatT K H .non .none
 | int (i):DatT K H (.int i) (.int i)
 | str (x):DatT K H (.str x) (.str x)
 | tup {a xs ds}:SqT K H a xs→DatTs K H xs ds→DatT K H (.ref a) (.tuple ds)
inductive DatTs (K:PySem.W.Frag)(H:Hp):List V→List PyData→Prop
 | nil:DatTs K H [] []
 | cons {v d vs ds}:DatT K H v d→DatTs K H vs ds→DatTs K H (v::vs) (d::ds)
end
section
variable {X:Cx}{pins:List (Addr×Obj)}{σ:St}{H:Hp}{s:Shared}
mutual
theorem DatT.reads (I:Inv X pins σ H s):∀{v d}(u:Value),DatT X.K H v d→RelV v u→d.hasDict=false∧∃ as,Reads s.heap u d as
 | _,_,u,.non,r=>by cases (show u=.none from r);exact ⟨rfl,_,.none⟩
 | _,_,u,.int i,r=>by obtain ⟨t,e⟩:=(show ∃ t,u=.int i t from r);subst e;exact ⟨rfl,_,.int i t⟩
 | _,_,u,.str x,r=>by obtain ⟨t,e⟩:=(show ∃ t,u=.str x t from r);subst e;exact ⟨rfl,_,.str x t⟩
 | _,_,u,.tup (a:=a) (xs:=xs) e q,r=>by
   cases (show u=.ref a from r)
   obtain ⟨its,rv,⟨o,g,c,n,d⟩,_⟩:=I.tuple e
   obtain ⟨nd,as,ra⟩:=DatTs.reads I its q rv
   exact ⟨by simpa [PyData.hasDict] using nd,_,.tuple g c d (by simpa using ra)⟩
theorem DatTs.reads (I:Inv X pins σ H s):∀{vs ds}(us:List Value),DatTs X.K H vs ds→Vals vs us→PyData.hasDictAll ds=false∧∃ as,ReadsAll s.heap us ds as
 | _,_,_,.nil,.nil=>⟨rfl,_,.nil⟩
 | _,_,_,.cons r t,.cons rv tv=>by
   obtain ⟨n1,as,r1⟩:=DatT.reads I _ r rv
   obtain ⟨n2,bs,r2⟩:=DatTs.reads I _ t tv
   exact ⟨by simp [PyData.hasDictAll,n1,n2],_,.cons r1 r2⟩
end
end
theorem Vc (n:Nat):∀ ts:List Str,(∀ t∈ts,t.length≤n)→piled ts≤ts.length * (n+2)
 | [],_=>by simp [piled]
 | t::r,h=>by
   have h1:=Vc n r fun x hx=>h x (List.mem_cons_of_mem _ hx)
   have h2:=h t List.mem_cons_self
   rw [List.length_cons,Nat.add_mul]
   simp only [piled] at h1 ⊢
   simp only [List.map_cons,List.sum_cons] at h1 ⊢
   omega
theorem ZbM {ds:List PyData}{n k:Nat}(h:∀ d∈ds,Sml d n k):Sml (.tuple ds) (3+ds.length * (n+2)) (k+1):=by
 refine ⟨Yz fun d hd=>(h d hd).sh,?_,?_⟩
 · show (tupleText (PyData.shownAll ds)).length≤_
   rw [YV]
   have z2:(Str.ofString (if (ds.map PyData.shown).length == 1 then ",)" else ")":String)).length≤2:=by split<;>decide
   have z3:(Str.join ", " (ds.map PyData.shown)).length≤ds.length * (n+2):=by
     cases ds with
     | nil=>show 0≤_;omega
     | cons d r =>
       have e:=join_length_add ((d::r).map PyData.shown) (by simp)
       have p:=Vc n ((d::r).map PyData.shown) (fun t ht=>by
         obtain ⟨x,hx,rfl⟩:=List.mem_map.mp ht
         exact (h x hx).ln)
       rw [List.length_map] at p
       omega
   show (Str.ofString "("++Str.join ", " (ds.map PyData.shown)++Str.ofString (if (ds.map PyData.shown).length == 1 then ",)" else ")":String)).length≤_
   rw [Xq,Xq]
   have z1:(Str.ofString "(").length=1:=by decide
   omega
 · have:=Xh (k:=k) fun d hd=>(h d hd).dp
   show PyData.depthAll ds+1≤_
   omega
end L2
set_option maxHeartbeats 2000000
namespace L2
open PySem
end L2
set_option maxHeartbeats 2000000
namespace L2
open PySem PySem.W PySem.Spec PyProof.Rows
section
variable {X:Cx}
end
end L2
set_option maxHeartbeats 2000000
namespace L2
open PySem
def tCut (t u:TS):TS:=fun D σ H=>∃ I:St→Hp→Prop,t { D with nx:=I } σ H∧∀ σ' H',I σ' H'→u D σ' H'
theorem VU {X:Cx}{st:Stmt}{rest:List Stmt}{t u:TS}(h1:PS X st t)(h2:PSs X rest u):PSs X (st::rest) (tCut t u):=by
 intro pins s σ H D I h
 obtain ⟨J,h,g⟩:=h
 refine wpAny_execs_cons (Zo (h1 pins s σ H { D with nx:=J } I h) fun f s1 q=>?_)
 cases f with
 | next =>
   obtain ⟨σ',H',I',q⟩:=q
   exact h2 pins s1 σ' H' D I' (g _ _ q)
 | ret v=>exact q
 | brk=>exact q
 | cont=>exact q
end L2
set_option maxHeartbeats 2000000
namespace L2
open PySem PySem.Spec PyProof.Rows
section
variable {X:Cx}{pins:List (Addr×Obj)}{σ:St}{H:Hp}{s:Shared}{d:Addr}{o:Obj}{kvs:List (Zw×V)}
end
section
variable {X:Cx}{tg:Expr}
end
end L2
set_option maxHeartbeats 2000000
namespace L2
open PySem PySem.W PySem.Spec PyProof.Rows
section
variable {X:Cx}
end
end L2
set_option maxHeartbeats 2000000
namespace L2
open PySem
end L2
set_option maxHeartbeats 2000000
namespace L2
open PySem PySem.W PySem.Spec PyProof.Rows
section
variable {X:Cx}
end
end L2
set_option maxHeartbeats 2000000
namespace L2
open PySem PySem.Spec PyProof.Rows
end L2
set_option maxHeartbeats 2000000
namespace L2
open PySem PySem.Spec PyProof.Rows
end L2
set_option maxHeartbeats 2000000
namespace L2
open PySem PySem.W PySem.Spec PyProof.Rows
section
variable {X:Cx}
end
end L2
set_option maxHeartbeats 1000000
namespace L2
open PySem PySem.Spec PyProof.Rows
section
variable {X:Cx}
end
end L2
set_option maxHeartbeats 2000000
namespace L2
open PySem PySem.W PySem.Spec PyProof.Rows
def XD (ts:List (Pos×Addr)):List Value:=ts.flatMap fun p=>[rawInt p.1.line,rawInt p.1.col,.ref p.2]
def LamsAt (H:Hp)(Pl:Addr)(qual:Str):Prop:=∃ ts:List (Pos×Addr),H Pl=some (.tbl (XD ts).toArray)∧∀ p∈ts,H p.2=some (.ext (YQ p.2 qual))
theorem Va:∀ ts,TriplesOk (XD ts)
 | []=>trivial
 | p::r=>by
   show TriplesOk (rawInt p.1.line::rawInt p.1.col::.ref p.2::XD r)
   exact Va r
theorem Uu {pos:Pos}{v:Value}:∀{ts:List (Pos×Addr)},codeAmong pos (XD ts)=some v→∃ p∈ts,v=.ref p.2
 | [],h=>by cases h
 | p :: r,h=>by
   have h:(if (p.1.line:Int) == pos.line&&(p.1.col:Int) == pos.col then some (Value.ref p.2) else codeAmong pos (XD r))=some v:=h
   split at h
   · cases h;exact ⟨p,List.mem_cons_self ..,rfl⟩
   · obtain ⟨q,hq,e⟩:=Uu h
     exact ⟨q,List.mem_cons_of_mem _ hq,e⟩
theorem ZdE (ts:List (Pos×Addr))(pos:Pos)(c:Addr):XD (ts++[(pos,c)])=XD ts++[rawInt pos.line,rawInt pos.col,.ref c]:=by
 unfold XD;rw [List.flatMap_append];rfl
section
variable {X:Cx}{pins:List (Addr×Obj)}{σ:List (Option V)}{H:Hp}{s:Shared}
theorem Zcy {A:Around}{E:Value→Shared→Prop}{Q:Value→Shared→Prop}{c Pl:Addr}{args:Arguments}{body:Expr}{sc:Scope}{lpos:Pos}(I:Inv X pins σ H s)(hcode:X.env.code=.ref c)(C:codeHdIn X.K c Pl=true)(hBm:Xe X.base X.mg)(hL:LamsAt H Pl (X.env.qual++"<lambda>"))
   (hdef:defaultsOf args X.env=([],[])) (hfree:∀ y∈sc.names,y.2=.free→∃ c,X.env.cells.lookup y.1=some c)
   (h:∀ (q:Addr) (H':Hp) (s':Shared) (pm cdv ct:Value) (cl:List (Str×Addr)),Inv X pins σ H' s'→Grown Pl H H'→LamsAt H' Pl (X.env.qual++"<lambda>")→(∀ y c,cl.lookup y=some c→X.env.cells.lookup y=some c)→(∀ y∈sc.names,y.2=.free→cl.lookup y.1≠none)→H' q=none→s.heap.objs.size≤q →
     s'.heap.get? q=some { cls:=.type "function",data:=.func (kla_fn "<lambda>" (X.env.qual++"<lambda>") args body sc cl pm cdv ct) }→(∃ cc,cdv=.ref cc∧H' cc=some (.ext (YQ cc (X.env.qual++"<lambda>"))))→Q (.ref q) s') :
   wpAny (model X.prog X.w) A (eval (.Lambda args body sc lpos) X.env) Q E s:=by
 refine kla_eval hdef ?_
 obtain ⟨cl,hcl,cl1,cl2⟩:=WC hfree
 have hg:=I.mod.glob.keeps I.bk
 have CH:=codeHd_of_K I.kIn C
 obtain ⟨ts,e,ec⟩:=hL
 have hP:s.heap.get? Pl=some (tabObj (XD ts).toArray):=I.hok Pl _ e
 have bmAt:s.heap.BuiltinsAt X.mg Pl∧mainGlobals≠Pl:=by
   obtain ⟨bm,ob,b1,b2,b3,b4,b5,b6⟩:=hBm
   have b3':=I.bk _ _ b3
   have hmg:mainGlobals≠Pl:=fun z=>by
     obtain ⟨o,es,ep,y,hd,_⟩:=hg
     rw [z,hP] at y;cases y;cases hd
   refine ⟨⟨bm,ob,b1,b2,fun z=>?_,(fun z=>by rw [z,hP] at b3';cases b3';cases b4),b3',b4,b5,b6⟩,hmg⟩
   obtain ⟨o,es,ep,y,hd,_⟩:=hg
   rw [← z,b3'] at y;cases y
   rw [b6] at hd;cases hd
 obtain ⟨hb,hgP⟩:=bmAt
 cases hf:codeAmong lpos (XD ts) with
 | none =>
   refine kla_makeFunction (clos:=cl) hcl I.ok.glob hg hcode CH hP (Va ts) hf hgP hb fun c' ctv h' tk hx hge hlt hrec hT=>?_
   have I1:=I.table (t':=tk) (h':=h') (qual:=X.env.qual++"<lambda>") (lpos:=lpos) e (fun b o hb' y=>hx b o hb' y) hT hge hrec
   have hcn:H c'=none:=I.hok.fresh hge
   have hcP:c'≠Pl:=fun z=>by rw [z,e] at hcn;cases hcn
   have gr:Grown Pl H (upd (upd H Pl (.tbl ((XD ts).toArray++#[rawInt lpos.line,rawInt lpos.col,.ref c']))) c' (.ext (YQ c' (X.env.qual++"<lambda>")))):=fun b o h1 y=>by rw [Zc (Zm y hcn),Zc h1];exact y
   refine h _ _ _ ((X.mg "__name__").getD .none) (.ref c') ctv cl (I1.kept (t':=tk) fun b o y=>Heap.get?_push_of_some _ y) gr ⟨ts++[(lpos,c')],?_,fun p hp=>?_⟩ cl1 cl2 (I1.hok.fresh (Nat.le_refl _)) (Nat.le_of_lt (Nat.lt_of_le_of_lt hge hlt)) (Heap.get?_push_size _ rfl) ⟨c',rfl,Zd⟩
   · rw [Zc hcP.symm,Zd,ZdE];simp
   · rcases List.mem_append.mp hp with y | y
     · have e2:=ec p y
       exact gr _ _ (fun z=>by rw [z,e] at e2;cases e2) e2
     · rw [List.mem_singleton.mp y];exact Zd
 | some v =>
   obtain ⟨p,hp,rfl⟩:=Uu hf
   have hrec:s.heap.CodeRec (.ref p.2) (X.env.qual++"<lambda>"):=(I.hok p.2 _ (ec p hp)).1
   refine kla_makeFunctionHit (clos:=cl) (cv:=.ref p.2) hcl I.ok.glob hg hcode CH hP (Va ts) hf hb fun ctv h' tk hk hz=>?_
   exact h _ _ _ ((X.mg "__name__").getD .none) (.ref p.2) ctv cl ((I.kept (h':=h') (t':=tk) hk).kept (t':=tk) fun b o y=>Heap.get?_push_of_some _ y) (fun b o _ y=>y) ⟨ts,e,ec⟩ cl1 cl2 (I.hok.fresh hz) hz (Heap.get?_push_size _ rfl) ⟨p.2,rfl,ec p hp⟩
end
end L2
set_option maxHeartbeats 2000000
namespace L2
open PySem PySem.W PySem.Spec PyProof.Rows
def Zba (b:Addr)(o:Obj):HO:=.ext fun h=>h.get? b=some o
abbrev Pn:=List (Addr×Obj)
def cov (H:Hp)(cs:Pn):Hp:=fun b=>match cs.lookup b with
 | some o=>some (Zba b o)
 | none=>H b
def unc (H:Hp)(cs:Pn):Hp:=fun b=>match cs.lookup b with
 | some _=>none
 | none=>H b
def Has (cs:Pn)(H:Hp):Prop:=∀ b o,cs.lookup b=some o→H b=some (Zba b o)
def Yf (cs:Pn)(H:Hp):Prop:=∀ b o,cs.lookup b=some o→H b=none
def Xu (cs:Pn)(h:Heap):Prop:=∀ b o,cs.lookup b=some o→h.get? b=some o
section
variable {cs:Pn}{H H' H2:Hp}{h h':Heap}{b:Addr}{o:Obj}{P:Program}{w:World}{fs:List Addr}
theorem Zbj (e:cs.lookup b=some o):cov H cs b=some (Zba b o):=by unfold cov;rw [e]
theorem ZL (e:cs.lookup b=none):cov H cs b=H b:=by unfold cov;rw [e]
theorem YD (e:cs.lookup b=some o):unc H cs b=none:=by unfold unc;rw [e]
theorem Zz (e:cs.lookup b=none):unc H cs b=H b:=by unfold unc;rw [e]
theorem has_cov:Has cs (cov H cs):=fun b o e=>Zbj e
theorem Has.same (a:Has cs H)(s:Same H H'):Has cs H':=fun b o e=>s _ _ (a b o e)
theorem XL (a:Yf cs H){u:HO}(e:H b=some u):cs.lookup b=none:=by
 cases q:cs.lookup b with
 | none=>rfl
 | some o=>rw [a b o q] at e;cases e
theorem Yw (a:Has cs H){u:HO}(e:H b=some u)(n:∀ φ,u≠.ext φ):cs.lookup b=none:=by
 cases q:cs.lookup b with
 | none=>rfl
 | some o=>rw [a b o q] at e;cases e;exact absurd rfl (n _)
theorem Xp (a:Has cs H)(e:H b=none):cs.lookup b=none:=by
 cases q:cs.lookup b with
 | none=>rfl
 | some o=>rw [a b o q] at e;cases e
theorem Yq (a:Yf cs H):Same H (cov H cs):=fun b u e=>by rw [ZL (XL a e)];exact e
theorem Wp (a:Yf cs H')(s:Same (cov H' cs) H2):Same H' (unc H2 cs):=fun b u e=>by
 have q:=XL a e
 rw [Zz q];exact s _ _ (by rw [ZL q];exact e)
theorem Zfh (e:h.get? b=some o):ObjOk P w H h b (Zba b o):=⟨e,⟨o,e⟩,fun _ _ a k=>k _ a⟩
theorem WP (x:HOk P w H h)(a:Has cs H):Xu cs h:=fun b o e=>(x b _ (a b o e)).1
theorem HOk.unc (x:HOk P w H h)(a:Has cs H):HOk P w (unc H cs) h:=fun b u e=>by
 have q:cs.lookup b=none:=by
   cases q:cs.lookup b with
   | none=>rfl
   | some o=>rw [YD q] at e;cases e
 rw [Zz q] at e
 refine (x b u e).stay (fun _ _ _ z=>z) (fun c z=>?_) fun c xs z=>?_
 · rw [Zz (Yw a z fun _ z=>by cases z)];exact z
 · rw [Zz (Yw a z fun _ z=>by cases z)];exact z
theorem HOk.cov (x:HOk P w H h)(a:Yf cs H)(k:Xu cs h):HOk P w (cov H cs) h:=fun b u e=>by
 cases q:cs.lookup b with
 | some o=>rw [Zbj q] at e;cases e;exact Zfh (k b o q)
 | none =>
   rw [ZL q] at e
   refine (x b u e).stay (fun _ _ _ z=>z) (fun c z=>?_) fun c xs z=>?_
   · exact Yq a _ _ z
   · exact Yq a _ _ z
theorem Un.cov (u:Un fs [] (unc H cs) H' h h')(a:Has cs H)(k:Xu cs h):Un fs [] H (cov H' cs) h h':=by
 have hn:Yf cs H':=fun b o e=>u.free b o (k b o e) (YD e) (by simp)
 refine ⟨fun b ob q n hb hx=>?_,fun b ob q n hb hx=>?_,fun b ob q n hx=>?_,fun b ob q hx=>u.there b ob q hx,fun b xs q=>?_,fun b ob xs q=>?_,fun b ps q=>?_⟩
 · exact u.keep b ob q (by rw [Zz (Xp a n)];exact n) hb hx
 · exact u.slot b ob q (by rw [Zz (Xp a n)];exact n) hb hx
 · rw [ZL (Xp a n)];exact u.free b ob q (by rw [Zz (Xp a n)];exact n) hx
 · have z:=Yw a q fun _ z=>by cases z
   exact Yq hn _ _ (u.tups b xs (by rw [Zz z];exact q))
 · have z:=Yw a q fun _ z=>by cases z
   exact Yq hn _ _ (u.frzs b ob xs (by rw [Zz z];exact q))
 · have z:=Yw a q fun _ z=>by cases z
   obtain ⟨m,e⟩:=u.tbls b ps (by rw [Zz z];exact q)
   exact ⟨m,Yq hn _ _ e⟩
theorem Un.uncov (u:Un fs [] (L2.cov H cs) H2 h h')(n:Yf cs H)(k:Xu cs h)(k':Xu cs h'):Un fs [] H (unc H2 cs) h h':=by
 refine ⟨fun b ob q m hb hx=>?_,fun b ob q m hb hx=>?_,fun b ob q m hx=>?_,fun b ob q hx=>u.there b ob q hx,fun b xs q=>?_,fun b ob xs q=>?_,fun b ps q=>?_⟩
 · cases e:cs.lookup b with
   | some o=>have:=k b o e;rw [q] at this;cases this;exact k' b _ e
   | none=>exact u.keep b ob q (by rw [ZL e];exact m) hb hx
 · cases e:cs.lookup b with
   | some o=>have:=k b o e;rw [q] at this;cases this;exact ⟨_,k' b _ e⟩
   | none=>exact u.slot b ob q (by rw [ZL e];exact m) hb hx
 · cases e:cs.lookup b with
   | some o=>exact YD e
   | none=>rw [Zz e];exact u.free b ob q (by rw [ZL e];exact m) hx
 · have z:=XL n q
   rw [Zz z];exact u.tups b xs (by rw [ZL z];exact q)
 · have z:=XL n q
   rw [Zz z];exact u.frzs b ob xs (by rw [ZL z];exact q)
 · have z:=XL n q
   obtain ⟨m,e⟩:=u.tbls b ps (by rw [ZL z];exact q)
   exact ⟨m,by rw [Zz z];exact e⟩
theorem ExcAt.re {base:Heap}{n:Nat}{ea C dx:Addr}{fl:Option Value}(x:ExcAt base n H ea C dx fl h)(f:∀ b,n≤b→H b=none→H' b=none):ExcAt base n H' ea C dx fl h:=by
 obtain ⟨a,b,c,oe,vs,e1,e2,e3,e4,tb⟩:=x
 refine ⟨a,f _ c b,c,oe,vs,e1,e2,e3,e4,?_⟩
 cases fl with
 | none=>exact tb
 | some v=>obtain ⟨T,oT,ts,t1,t2,t3,t4,t5,t6⟩:=tb;exact ⟨T,oT,ts,t1,t2,t3,f _ t5 t4,t5,t6⟩
end
end L2
set_option maxHeartbeats 2000000
namespace L2
open PySem PySem.W PySem.Spec PyProof.Rows
abbrev Yn (qual:Str)(sc:Scope)(L q:Addr)(cl:List (Str×Addr))(cd:Value):Env:=newEnv sc L mainGlobals cl (qual++".<locals>.") (some q) cd none builtinsNs
def Xt (P:Program)(w:World)(K:PySem.W.Frag)(mg:Str→Option Value)(base:Heap)(N:List Str)(env:Env)(A:Around)(outer:List Env)(s:Shared)(H:Hp)(Z:Value→Shared→Prop):Cx where
 prog:=P
 w:=w
 K:=K
 mg:=mg
 base:=base
 A:=A.deeper env
 N:=N
 s₀:=s
 H₀:=H
 env:=env
 outer:=outer
 stack:=env::outer
 ex:=[]
 fn:=fun _=>false
 calm:=true
 pn:=[]
 xe:=Z
section
variable {P:Program}{w:World}{K:PySem.W.Frag}{mg:Str→Option Value}{base:Heap}{N:List Str}
theorem Zbt {env:Env}{A:Around}{outer:List Env}{s:Shared}{H:Hp}{E:XK}{R:Value→Shared→Prop}(hL:env.locals=s.heap.objs.size)(hf:env.frame=some env.locals)(hR:∀ e s',XJ P w base outer H s E e s'→R e s') :
   Yk (Xt P w K mg base N env A outer s H fun e s'=>wpAny (model P w) (A.deeper env) (leaving env e) (fun _ s''=>R e s'') (fun e' s''=>R e' s'') s') (fun _=>E):=by
 intro pins σ H1 H2 s1 s2 ea C dx fl I1 I2 hfl x q
 have hsz:s.heap.objs.size≤s1.heap.objs.size:=I1.sz
 have hok2:HOk P w H2 s2.heap:=I2.hok
 refine VD (base:=base) (n:=s.heap.objs.size) (H:=H2) (outer:=outer) (L:=env.locals) hfl I2.ok.frames I2.stack hf I2.bk (x.le hsz) (fun b hb=>hok2.fresh hb) fun h' b1 f1 x1 k1=>hR _ _ ?_
 have un:Un (ZJ outer) [] H H2 s.heap s2.heap:=I2.base
 have nL:∀ b o,s.heap.get? b=some o→b ∉ ZJ outer→b ∉ ZJ (env::outer):=fun b o e hn m=>by
   rcases List.mem_filterMap.mp m with ⟨v,hv,ev⟩
   rcases List.mem_cons.mp hv with rfl | hv
   · rw [hf,hL] at ev;cases ev;exact absurd (Heap.lt_size e) (Nat.lt_irrefl _)
   · exact hn (List.mem_filterMap.mpr ⟨v,hv,ev⟩)
 have inL:∀ b,b∈ZJ outer→b∈ZJ (env::outer):=fun b m=>by
   obtain ⟨v,hv,ev⟩:=List.mem_filterMap.mp m
   exact List.mem_filterMap.mpr ⟨v,List.mem_cons_of_mem _ hv,ev⟩
 refine ⟨ea,C,dx,H2,rfl,b1,f1,x1,I2.os,I2.bare,⟨fun b o e hn hb hx=>k1.2.1 b o (un.keep b o e hn hb hx) (nL b o e hb) (.inr (Heap.lt_size e)),fun b o e hn hb hx=>?_,un.free,fun b o e hx=>?_,un.tups,un.frzs,un.tbls⟩,k1.hok hok2 I2.stkFree,q⟩
 · obtain ⟨sl,e1⟩:=un.slot b o e hn hb hx
   obtain ⟨sl2,e2⟩:=k1.1 b _ e1 (inL b hb)
   exact ⟨sl2,e2⟩
 · obtain ⟨o',e1⟩:=un.there b o e hx
   by_cases m:b∈ZJ (env::outer)
   · obtain ⟨sl,e2⟩:=k1.1 b o' e1 m;exact ⟨_,e2⟩
   · exact ⟨o',k1.2.1 b o' e1 m (.inr (Heap.lt_size e))⟩
def ZcT (P:Program)(w:World)(K:PySem.W.Frag)(mg:Str→Option Value)(base:Heap)(k:Nat)(cs:Pn)(cc:Addr)(qual:Str)(q:Addr)(T:Hp→VK→XK→Prop):Prop :=
 ∀ (A:Around) (outer:List Env) (s:Shared) (H:Hp) (Q:VK) (E:XK),Room k A→Env0 P w K mg base A outer s H→Has cs H→H cc=some (.ext (YQ cc qual)) →
   T (unc H cs) (fun v H'=>Yf cs H'→Q v (cov H' cs)) (fun C d H'=>Yf cs H'→E C d (cov H' cs))→codeAny (model P w) A (.call (.ref q) ⟨[],[]⟩) (CR (XJ P w base) outer P w H s Q E) s
structure Zde (sc:Scope):Prop where
 kind:sc.kind=.function
 co:sc.isCoroutine=false
 gen:sc.isGenerator=false
 cell:∀ y∈sc.names,y.2≠.cell
 loc:∀ y∈sc.names,y.2≠.local
theorem Zfd {k:Nat}{cs:Pn}{cc q:Addr}{qual:Str}{args:Arguments}{body:Expr}{sc:Scope}{cl:List (Str×Addr)}{pm ct:Value}{fo:Obj}{σ:St}{te:(St→XK)→TE}(S:Zde sc)
   (hq:cs.lookup q=some fo) (hfo:fo={ cls:=.type "function",data:=.func (kla_fn "<lambda>" qual args body sc cl pm (.ref cc) ct) })
   (hbind:bindArgs (kla_fn "<lambda>" qual args body sc cl pm (.ref cc) ct) ⟨[],[]⟩=pure []) (hN:σ.length=N.length)
   (inj:∀ x y c,cl.lookup x=some c→cl.lookup y=some c→x=y) (cl2:∀ y∈sc.names,y.2=.free→cl.lookup y.1≠none)
   (hcl:∀ x c,cl.lookup x=some c→∃ o v,cs.lookup c=some o∧o.data=.cell v)
   (hσ:∀ (i:Nat) (x:Str) (v:V) (c:Addr),N[i]?=some x→σ[i]?=some (some v)→cl.lookup x=some c→sc.names.lookup x=some .free→∃ o u,cs.lookup c=some o∧o.data=.cell (some u)∧RelV v u)
   (he:∀ (A:Around) (outer:List Env) (s:Shared) (H:Hp) (Z:Value→Shared→Prop) (EE:St→XK),Room k (A.deeper (Yn qual sc s.heap.objs.size q cl (.ref cc)))→Yk (Xt P w K mg base N (Yn qual sc s.heap.objs.size q cl (.ref cc)) A outer s H Z) EE →
     PE (Xt P w K mg base N (Yn qual sc s.heap.objs.size q cl (.ref cc)) A outer s H Z) body (te EE)) :
   ZcT P w K mg base (k+1) cs cc qual q (fun H Q E=>te (fun _=>E) σ H Q):=by
 intro A outer s H Q E hr e0 has hcc hT
 have lim:s.heap.NoLimit:=e0.mod.nolimit.keeps fun b o e=>(e0.bs b o e).1
 have hsh:Xu cs s.heap:=WP e0.hok has
 have hcd:s.heap.CodeRec (.ref cc) qual:=(e0.hok cc _ hcc).1
 have unone:∀ b,H b=none→unc H cs b=none:=fun b e=>by rw [Zz (Xp has e)];exact e
 refine kla_callFunE (body:=body) hr.depth (hsh q fo hq) (by rw [hfo]) S.co S.gen rfl hcd ?_
 refine wpAny_of_eq (a:=[]) hbind ?_
 refine wpAny_newFunctionEnv S.cell (fun _ h=>nomatch h) (fun h₁ hns₁ hsb₁=>?_) S.kind
 have old:∀ b o,s.heap.get? b=some o→h₁.get? b=some o:=fun b o e=>hsb₁.extBut b o (Nat.ne_of_lt (Heap.lt_size e)) (Heap.get?_push_of_some _ e)
 refine ⟨lim.keeps old,kla_codeExpr ?_⟩
 have W:=Zbt (P:=P) (w:=w) (K:=K) (mg:=mg) (base:=base) (N:=N) (env:=Yn qual sc s.heap.objs.size q cl (.ref cc)) (A:=A) (outer:=outer) (s:=s) (H:=unc H cs) (E:=fun C d H'=>Yf cs H'→E C d (cov H' cs)) (R:=fun e s'=>CR (XJ P w base) outer P w H s Q E (.error e) s') rfl rfl (fun e s' h=>by
   obtain ⟨ea,C,dx,H',rfl,b1,f1,x1,os,gb,un,hok,q1⟩:=h
   have hn:Yf cs H':=fun b o e=>un.free b o (hsh b o e) (YD e) (by simp)
   have kk:Xu cs s'.heap:=fun b o e=>un.keep b o (hsh b o e) (YD e) (fun z=>by have:=e0.frf b z;rw [has b o e] at this;cases this) (by simp)
   refine ⟨ea,C,dx,cov H' cs,rfl,b1,f1,x1.re fun b l e=>?_,os,gb,un.cov has hsh,hok.cov hn kk,q1 hn⟩
   cases z:cs.lookup b with
   | none=>rw [ZL z];exact e
   | some o=>exact absurd (Heap.lt_size (hsh b o z)) (Nat.not_lt.mpr l))
 refine wpAny_mono (he A outer s (unc H cs) _ _ (hr.deeper _) W [] _ σ (unc H cs) _ ?_ hT) (fun v s' hs=>?_) fun e s' hs=>hs
 · refine ⟨⟨e0.mod,S.kind,rfl,rfl,Nat.le_refl _,inj,fun x hx=>?_,(fun x c z _=>nomatch z),fun _=>hr.hd,Around.frames_deeper e0.frames,.inr ⟨rfl,rfl⟩,(fun b z=>nomatch z),fun b o e=>⟨(e0.bs b o e).1,unone b (e0.bs b o e).2⟩,e0.bsz,(fun _ _ _ z=>nomatch z),(fun _ z=>nomatch z),e0.funs,fun b hb=>unone b (e0.frf b hb)⟩,
     rfl,e0.bare,Un.kept old,⟨_,hns₁,fun i x v h1 h2 h3=>?_⟩,fun x c e=>?_,unone _ (e0.hok.fresh (Nat.le_refl _)),fun x c e=>?_,(fun p hp=>nomatch hp),(e0.hok.unc has).kept old,hN⟩
   · have hf:sc.names.lookup x=some .free:=by
       rcases hx with hx | hx
       · exact absurd rfl (S.cell _ (L2.mem_of_lookup hx))
       · exact hx
     cases z:cl.lookup x with
     | none=>exact absurd z (cl2 _ (L2.mem_of_lookup hf) rfl)
     | some c=>exact ⟨c,z⟩
   · have hf:sc.names.lookup x=some .free:=by
       rcases h3 with hx | hx | hx
       · exact absurd rfl (S.loc _ (L2.mem_of_lookup hx))
       · exact absurd rfl (S.cell _ (L2.mem_of_lookup hx))
       · exact hx
     cases z:cl.lookup x with
     | none=>exact absurd z (cl2 _ (L2.mem_of_lookup hf) rfl)
     | some c =>
       obtain ⟨o,u,h4,h5,h6⟩:=hσ i x v c h1 h2 z hf
       exact ⟨u,h6,.inr ⟨.inr hf,c,z,o,old _ _ (hsh c o h4),h5⟩⟩
   · obtain ⟨o,v,h4,h5⟩:=hcl x c e
     exact ⟨v,o,old _ _ (hsh c o h4),h5⟩
   · obtain ⟨o,v,h4,h5⟩:=hcl x c e
     exact YD h4
 · obtain ⟨v',H',J,rv,q1⟩:=hs
   have un:Un (ZJ outer) [] (unc H cs) H' s.heap s'.heap:=J.base
   have hn:Yf cs H':=fun b o e=>un.free b o (hsh b o e) (YD e) (by simp)
   have kk:Xu cs s'.heap:=fun b o e=>un.keep b o (hsh b o e) (YD e) (fun z=>by have:=e0.frf b z;rw [has b o e] at this;cases this) (by simp)
   exact ⟨v',cov H' cs,J.os,J.bare,un.cov has hsh,HOk.cov J.hok hn kk,rv,q1 hn⟩
end
end L2
set_option maxHeartbeats 2000000
namespace L2
open PySem PySem.W PySem.Spec PyProof.Rows
structure Thk (P:Program)(w:World)(K:PySem.W.Frag)(mg:Str→Option Value)(base:Heap)(k:Nat)(cs:Pn)(cc:Addr)(qual:Str)(q:Addr)(T:Hp→VK→XK→Prop):Prop where
 run:ZcT P w K mg base k cs cc qual q T
 fn:∃ fo fd,cs.lookup q=some fo∧fo.data=.func fd
def tAsk (P:Program)(w:World)(K:PySem.W.Frag)(mg:Str→Option Value)(base:Heap)(k:Nat)(EE:St→XK)(i:Nat):TE:=fun σ H Q=>∃ q cs cc qual T,σ[i]?=some (some (.ref q))∧Thk P w K mg base k cs cc qual q T∧Has cs H∧H cc=some (.ext (YQ cc qual)) ∧
 T (unc H cs) (fun v H'=>Yf cs H'→Q v (cov H' cs)) (fun C d H'=>Yf cs H'→EE σ C d (cov H' cs))
section
variable {X:Cx}{EE:St→XK}{k i:Nat}{x:Str}{p pos:Pos}
theorem ZeX (W:Yk X EE)(hr:Room k X.A)(hN:X.N[i]?=some x)(hv:Vis X.env.scope x)(hd:(x == ("__debug__":Str))=false:=by decide)(hcd:(x == ("__classdict__":Str))=false:=by decide) :
   PE X (.Call (.Name x p) [] [] pos) (tAsk X.prog X.w X.K X.mg X.base k EE i):=by
 intro pins s σ H Q I h
 obtain ⟨q,cs,cc,qual,T,e,Z,has,hcc,hT⟩:=h
 refine wpAny_Call_Name_kw (Zo (ZbP (pos:=p) hN hv hd hcd pins s σ H (fun v H1=>v=.ref q∧H1=H) I ⟨_,e,rfl,rfl⟩) fun u s1 ⟨v,H1,I1,r,e1,e2⟩=>?_)
 subst e1;subst e2
 obtain rfl:u=Value.ref q:=r
 obtain ⟨fo,fd,z1,z2⟩:=Z.fn
 have hq:s1.heap.get? q=some fo:=WP I1.hok has q fo z1
 refine callWith_of (P:=fun h=>h.get? q=some fo) rfl (fun h e=>⟨.frame,.inl rfl,(Looks.ld (part:=none) e).andThen ?_⟩) (evalArgs_nil3 ⟨hq,?_⟩)
 · simp only [z2];exact .now
 refine wpAny_call (codeAny_mono (Z.run X.A X.stack s1 H1 Q (EE σ) hr I1.env0 has hcc hT) fun r s' hq=>?_)
 cases r with
 | error e =>
   obtain ⟨ea,C,dx,H',rfl,kb,ff,x,os,gb,un,hok,q⟩:=hq
   exact W pins σ H1 H' s1 s' ea C dx _ I1 (I1.call' os un hok gb fun b z=>absurd z (by simp)) (.inr rfl) x q
 | ok fl =>
   cases fl with
   | ret u=>exact I1.after hq
   | next=>exact False.elim hq
   | brk=>exact False.elim hq
   | cont=>exact False.elim hq
end
theorem Zeg {P:Program}{w:World}{K:PySem.W.Frag}{mg:Str→Option Value}{base:Heap}{X:Cx}{EE:St→XK}{k i:Nat}{x:Str}{p pos:Pos}(h1:X.prog=P)(h2:X.w=w)(h3:X.K=K)(h4:X.mg=mg)(h5:X.base=base)(W:Yk X EE)(hr:Room k X.A)(hN:X.N[i]?=some x)(hv:Vis X.env.scope x)(hd:(x == ("__debug__":Str))=false:=by decide)(hcd:(x == ("__classdict__":Str))=false:=by decide) :
   PE X (.Call (.Name x p) [] [] pos) (tAsk P w K mg base k EE i):=by
 subst h1 h2 h3 h4 h5
 exact ZeX W hr hN hv hd hcd
def Vq (env:Env)(h:Heap):Pn:=env.cells.filterMap fun p=>(env.cells.lookup p.1).bind fun c=>(h.get? c).map fun o=>(c,o)
theorem Wz {env:Env}{h:Heap}{p:Addr×Obj}(m:p∈Vq env h):h.get? p.1=some p.2∧∃ y,env.cells.lookup y=some p.1:=by
 obtain ⟨z,hz,e⟩:=List.mem_filterMap.mp m
 obtain ⟨c,e1,e2⟩:=Option.bind_eq_some_iff.mp e
 obtain ⟨o,e3,rfl⟩:=Option.map_eq_some_iff.mp e2
 exact ⟨e3,z.1,e1⟩
theorem ZaV {env:Env}{h:Heap}{x:Str}{c:Addr}{o:Obj}(e:env.cells.lookup x=some c)(ho:h.get? c=some o):(c,o)∈Vq env h :=
 List.mem_filterMap.mpr ⟨(x,c),L2.mem_of_lookup e,by show (env.cells.lookup x).bind _=_;rw [e];show (h.get? c).map _=_;rw [ho];rfl⟩
theorem Vw {b:Addr}{o:Obj}:∀{cs:Pn},cs.lookup b=some o→(b,o)∈cs
 | [],h=>by cases h
 | (n,z)::r,h=>by
   cases hx:b == n with
   | true =>
     have e:b=n:=by simpa using hx
     subst e
     simp only [List.lookup_cons,beq_self_eq_true] at h
     cases h
     exact List.mem_cons_self
   | false =>
     simp only [List.lookup_cons,hx] at h
     exact List.mem_cons_of_mem _ (Vw h)
theorem WV {h:Heap}{b:Addr}{o:Obj}:∀{cs:Pn},(∀ p∈cs,h.get? p.1=some p.2)→(b,o)∈cs→cs.lookup b=some o
 | (n,z)::r,hh,m=>by
   cases hx:b == n with
   | true =>
     have e:b=n:=by simpa using hx
     subst e
     have h1:=hh _ List.mem_cons_self
     have h2:=hh _ m
     have h3:some z=some o:=h1.symm.trans h2
     simp only [List.lookup_cons,beq_self_eq_true];exact h3
   | false =>
     simp only [List.lookup_cons,hx]
     rcases List.mem_cons.mp m with e | m
     · cases e;simp at hx
     · exact WV (fun p hp=>hh p (List.mem_cons_of_mem _ hp)) m
structure LamOk (X:Cx)(sc:Scope):Prop where
 lam:Zde sc
 clos:∀ y∈sc.names,y.2=.free→X.env.kindOf y.1=some .cell
 fn:∀ x,X.fn x=true
def Zdc (P:Program)(w:World)(K:PySem.W.Frag)(mg:Str→Option Value)(base:Heap)(k:Nat)(sp:Sp)(Pl:Addr)(qual:Str)(te:(St→XK)→TE):TE:=fun σ H Q=>LamsAt H Pl qual∧∀(q:Addr)(H1:Hp)(cs:Pn)(cc:Addr),Grown Pl H H1→LamsAt H1 Pl qual→Yf cs H1 →
 Thk P w K mg base k cs cc qual q (fun H' Q' E'=>te (fun _=>E') σ H' Q')→H1 cc=some (.ext (YQ cc qual))→sp [.ref q] (cov H1 cs) (fun v H2=>Has cs H2∧Q v (unc H2 cs)) (fun _ _ _=>False)
section
variable {X:Cx}{k j:Nat}{f:Str}{pn:Str}{sp:Sp}{p0 lpos pos:Pos}{args:Arguments}{body:Expr}{sc:Scope}{te:(St→XK)→TE}{c Pl:Addr}
theorem Zdy (D:Def X.prog X.w X.K X.mg X.base j f [pn] sp)(hr:Room j X.A)(O:LamOk X sc)(hcode:X.env.code=.ref c)(C:codeHdIn X.K c Pl=true)(hBm:Xe X.base X.mg)
   (he:∀ (q:Addr) (cl:List (Str×Addr)) (cc:Addr) (A:Around) (outer:List Env) (s:Shared) (H:Hp) (Z:Value→Shared→Prop) (EE:St→XK),Room k (A.deeper (Yn (X.env.qual++"<lambda>") sc s.heap.objs.size q cl (.ref cc)))→Yk (Xt X.prog X.w X.K X.mg X.base X.N (Yn (X.env.qual++"<lambda>") sc s.heap.objs.size q cl (.ref cc)) A outer s H Z) EE →
     PE (Xt X.prog X.w X.K X.mg X.base X.N (Yn (X.env.qual++"<lambda>") sc s.heap.objs.size q cl (.ref cc)) A outer s H Z) body (te EE))
   (hdef:defaultsOf args X.env=([],[])) (hbind:∀ cl pm cc ct,bindArgs (kla_fn "<lambda>" (X.env.qual++"<lambda>") args body sc cl pm (.ref cc) ct) ⟨[],[]⟩=pure [])
   (hg:Gl X f:=by rfl) (hdb:(f == ("__debug__":Str))=false:=by decide)
   (hst:starEach [Expr.Lambda args body sc lpos] X.env=(false,eval (.Lambda args body sc lpos) X.env)::starEach [] X.env:=by rfl) :
   PE X (.Call (.Name f p0) [.Lambda args body sc lpos] [] pos) (Zdc X.prog X.w X.K X.mg X.base (k+1) sp Pl (X.env.qual++"<lambda>") te):=by
 obtain ⟨fa,fd,F,hb,kp,hm⟩:=D
 intro pins s σ H Q I h
 obtain ⟨hL,h⟩:=h
 refine wpAny_Call_Name_kw (YL I hg hm ?_ hdb)
 refine callWith_K (h₀:=X.base) I.ok.mod.kin kp ?_ hst rfl
 rw [hst]
 show wpAny _ _ (spliced ((false,eval (.Lambda args body sc lpos) X.env)::backTo pos (starEach [] X.env))) _ _ s
 refine Calls.spliced_cons (Zcy I hcode C hBm hL hdef (fun y hy hf=>I.ok.has y.1 (.inl (O.clos y hy hf))) fun q H1 s1 pm cdv ct cl I1 gr L1 cl1 cl2 hqn hqs ho hcr=>?_)
 obtain ⟨cc,rfl,hcc⟩:=hcr
 refine Calls.spliced_nil ⟨I1.kIn,?_⟩
 generalize hfo:({ cls:=.type "function",data:=.func (kla_fn "<lambda>" (X.env.qual++"<lambda>") args body sc cl pm (.ref cc) ct) }:Obj)=fo at ho
 generalize hcs:((q,fo)::Vq X.env s1.heap:Pn)=cs
 have hall:∀ p∈cs,s1.heap.get? p.1=some p.2:=fun p hp=>by
   rw [← hcs] at hp
   rcases List.mem_cons.mp hp with rfl | hp
   · exact ho
   · exact (Wz hp).1
 have what:∀ b o,cs.lookup b=some o→b=q∨∃ y,X.env.cells.lookup y=some b:=fun b o e=>by
   have hp:=Vw e
   rw [← hcs] at hp
   rcases List.mem_cons.mp hp with z | hp
   · cases z;exact .inl rfl
   · exact .inr (Wz hp).2
 have key:∀ b o,cs.lookup b=some o→X.s₀.heap.objs.size≤b∧b≠X.env.locals:=fun b o e=>by
   rcases what b o e with rfl | ⟨y,hy⟩
   · exact ⟨Nat.le_trans I.sz hqs,fun z=>by have:=I.lt;rw [← z] at this;exact absurd this (Nat.not_lt.mpr hqs)⟩
   · exact ⟨I.ok.cab y b (O.fn y) hy,I.cne y b hy⟩
 have hasn:Yf cs H1:=fun b o e=>by
   rcases what b o e with rfl | ⟨y,hy⟩
   · exact hqn
   · exact I1.freeC y b hy
 have hsh:Xu cs s1.heap:=fun b o e=>hall _ (Vw e)
 have hlq:cs.lookup q=some fo:=WV hall (by rw [← hcs];exact List.mem_cons_self)
 have hlc:∀ x c o,X.env.cells.lookup x=some c→s1.heap.get? c=some o→cs.lookup c=some o:=fun x c o e1 e2=>WV hall (by rw [← hcs];exact List.mem_cons_of_mem _ (ZaV e1 e2))
 have e0:=I1.env0
 have no:∀ b,b < X.s₀.heap.objs.size∨b=X.env.locals→cs.lookup b=none:=fun b hb=>by
   cases z:cs.lookup b with
   | none=>rfl
   | some o =>
     obtain ⟨z1,z2⟩:=key b o z
     rcases hb with hb | hb
     · exact absurd hb (Nat.not_lt.mpr z1)
     · exact absurd hb z2
 have e1 : Env0 X.prog X.w X.K X.mg X.base X.A X.stack s1 (cov H1 cs):=by
   refine ⟨e0.frames,e0.mod,fun b o e=>⟨(e0.bs b o e).1,?_⟩,e0.bsz,e0.funs,fun b hb=>?_,e0.hok.cov hasn hsh,e0.bare⟩
   · rw [ZL (no b (.inl (Nat.lt_of_lt_of_le (Heap.lt_size e) I.ok.bsz)))];exact (e0.bs b o e).2
   · rw [ZL (no b ?_)]
     · exact e0.frf b hb
     · rcases List.mem_cons.mp (I1.stkSub b hb) with z | z
       · exact .inr z
       · obtain ⟨_,o,z1,_⟩:=I.ok.funs.mem z
         exact .inl (Heap.lt_size z1)
 have Z:Thk X.prog X.w X.K X.mg X.base (k+1) cs cc (X.env.qual++"<lambda>") q (fun H' Q' E'=>te (fun _=>E') σ H' Q'):=by
   refine ⟨Zfd (N:=X.N) O.lam hlq hfo.symm (hbind cl pm cc ct) I1.len (fun x y c e1 e2=>I1.ok.inj x y c (cl1 x c e1) (cl1 y c e2)) cl2 (fun x c e=>?_) (fun i x v c h1 h2 h3 h4=>?_) (he q cl cc),fo,_,hlq,by rw [← hfo]⟩
   · obtain ⟨v,o,z1,z2⟩:=I1.cell x c (cl1 x c e)
     exact ⟨o,v,hlc x c o (cl1 x c e) z1,z2⟩
   · obtain ⟨m,hn,hl⟩:=I1.loc
     have hk:=O.clos _ (L2.mem_of_lookup h4) rfl
     obtain ⟨u,ru,lu⟩:=hl i x v h1 h2 (.inr (.inl hk))
     rcases lu with ⟨z,_⟩ | ⟨_,c',z,o,z1,z2⟩
     · rw [hk] at z;cases z
     · have:=cl1 x c h3
       rw [z] at this;cases this
       exact ⟨o,u,hlc x c o z z1,z2,ru⟩
 have hsp:=h q H1 cs cc gr L1 hasn Z hcc
 refine wpAny_call (codeAny_mono (F.run X.A X.stack s1 (cov H1 cs) ⟨[.ref q],[]⟩ [.ref q] [.ref q] _ _ hr e1 (hb s1 [.ref q] I1.kIn rfl) (.cons rfl .nil) hsp) fun r s' hq=>?_)
 cases r with
 | error e=>exact False.elim hq
 | ok fl =>
   cases fl with
   | ret u =>
     obtain ⟨v,H2,os,bare,un,hok,r,has2,hQ⟩:=hq
     exact ⟨v,unc H2 cs,I1.call' os (un.uncov hasn hsh (WP hok has2)) (hok.unc has2) bare fun b z=>absurd z (by simp),r,hQ⟩
   | next=>exact False.elim hq
   | brk=>exact False.elim hq
   | cont=>exact False.elim hq
end
end L2
set_option maxHeartbeats 2000000
namespace L2
open PySem PySem.W PySem.Spec PyProof.Rows
theorem Xx:∀{bs:List Bool}{us:List Value},Vals (bs.map V.bl) us→us=bs.map Value.bool
 | [],_,.nil=>rfl
 | b::bs,_,.cons r h=>by
   have e:=Xx h
   cases (show _=Value.bool b from r)
   rw [e];rfl
def XY:Value→Bool
 | .bool b=>b
 | _=>false
def ZdT (K:PySem.W.Frag):V→List V→Hp→VK→Prop:=fun x vs H Q=>∃(l:Addr)(bs:List Bool),x=.ref l∧vs=[.bl true]∧SqL K H l (bs.map V.bl)∧Q (.int ((bs.filter id).length:Nat)) H
def Zed (K:PySem.W.Frag):V→List V→Hp→VK→Prop:=fun x vs H Q=>∃(l:Addr)(bs:List Bool)(j:Nat),x=.ref l∧vs=[.bl true]∧SqL K H l (bs.map V.bl)∧bs[j]?=some true∧(∀ m,m < j→bs[m]?=some false)∧j≤100000∧Q (.int (j:Nat)) H
theorem XE:∀ bs:List Bool,(bs.map Value.bool).countP XY=(bs.filter id).length
 | []=>rfl
 | true::r=>by rw [List.map_cons,List.countP_cons_of_pos rfl,XE r];rfl
 | false::r=>by rw [List.map_cons,List.countP_cons_of_neg (by decide),XE r];rfl
section
variable {X:Cx}
theorem ZbV (A:Around)(s:Shared){bs:List Bool}{y:Value}(h:y∈bs.map Value.bool):SeqAt.EqAt A s y (.bool true) (XY y):=by
 obtain ⟨b,_,rfl⟩:=List.mem_map.mp h
 have:=SeqAt.EqAt.bool_bool (A:=A) (s:=s) b true
 cases b<;>exact this
theorem ZbI:MtR X "list.count" (ZdT X.K):=by
 intro pins s σ H x vs v us Q I rx rv h
 obtain ⟨l,bs,rfl,rfl,hl,q⟩:=h
 cases rx
 obtain ⟨u,rfl,ru⟩:=Yt rv
 obtain rfl:u=Value.bool true:=ru
 obtain ⟨its,r,ht,_⟩:=I.list hl
 obtain ⟨⟨cls,dd,data,sl⟩,n,ho,hc,hsl,hd⟩:=ht
 have hi:=Xx r
 dsimp only at hc hsl hd
 subst hc hsl hd
 subst hi
 refine call_meets PySem.F.slot_list_count ⟨_,ho,rfl⟩ PySem.F.entry_list_count (PySem.F.args_list_count_2 _ _) (PySem.SeqAt.list_countAt l _ n none sl (.bool true) XY) ⟨ho,fun y hy=>ZbV _ _ (bs:=bs) (by simpa using hy),?_⟩
 rw [show ((bs.map Value.bool).toArray).toList=bs.map Value.bool from rfl,XE]
 exact ⟨.int ((bs.filter id).length:Nat),H,I.tok _,⟨_,rfl⟩,q⟩
theorem ZbG:MtR X "list.index" (Zed X.K):=by
 intro pins s σ H x vs v us Q I rx rv h
 obtain ⟨l,bs,j,rfl,rfl,hl,h1,h2,h3,q⟩:=h
 cases rx
 obtain ⟨u,rfl,ru⟩:=Yt rv
 obtain rfl:u=Value.bool true:=ru
 obtain ⟨its,r,ht,_⟩:=I.list hl
 obtain ⟨⟨cls,dd,data,sl⟩,n,ho,hc,hsl,hd⟩:=ht
 have hi:=Xx r
 dsimp only at hc hsl hd
 subst hc hsl hd
 subst hi
 have hj:j < bs.length:=(List.getElem?_eq_some_iff.mp h1).1
 refine call_meets PySem.F.slot_list_index ⟨_,ho,rfl⟩ PySem.F.entry_list_index (PySem.F.args_list_index_2 _ _)
   (PySem.SeqAt.list_indexAt l _ n none sl (.bool true) XY j (by simpa using hj) (by omega) ?_ ?_) ⟨ho,fun y hy=>ZbV _ _ (bs:=bs) (by simpa using hy),⟨.int (j:Nat),H,I.tok _,⟨_,rfl⟩,q⟩⟩
 · have:bs[j]=true:=(List.getElem?_eq_some_iff.mp h1).2
   simp [this,XY]
 · intro m hm hlt
   obtain ⟨z1,z2⟩:=List.getElem?_eq_some_iff.mp (h2 m hlt)
   simp [z2,XY]
end
def ZbB (names:List (Str×NameKind))(sc:Scope):Bool :=
 (sc.kind == .function&&(!sc.isCoroutine&&!sc.isGenerator))&&sc.names.all fun y=>(y.2 != .cell&&y.2 != .local)&&(y.2 != .free || names.lookup y.1 == some .cell)
theorem LamOk.of {X:Cx}{sc:Scope}(st:Stmt)(hn:X.env.scope=Zi st)(hf:X.fn=fun _=>true)(chk:ZbB (Zi st).names sc=true):LamOk X sc:=by
 unfold ZbB at chk
 simp only [Bool.and_eq_true,List.all_eq_true,Bool.or_eq_true,bne_iff_ne,beq_iff_eq,Bool.not_eq_true'] at chk
 obtain ⟨⟨c1,c2,c3⟩,c4⟩:=chk
 refine ⟨⟨c1,c2,c3,fun y hy=>(c4 y hy).1.1,fun y hy=>(c4 y hy).1.2⟩,fun y hy hfr=>?_,fun x=>by rw [hf]⟩
 show X.env.scope.names.lookup y.1=_
 rw [hn];exact (c4 y hy).2.resolve_left fun z=>z hfr
def Wt (q:Str):ZS:=fun Pl h=>LamsAt h Pl q
theorem LamsAt.same {H H':Hp}{Pl:Addr}{q:Str}(h:LamsAt H Pl q)(s:Same H H'):LamsAt H' Pl q:=by
 obtain ⟨ts,e,f⟩:=h
 exact ⟨ts,s _ _ e,fun p hp=>s _ _ (f p hp)⟩
instance {q:Str}:Up (Wt q):=⟨fun h s=>LamsAt.same h s⟩
theorem Sep.grow {Δ:Rs}{H H':Hp}{Pl:Addr}{q:Str}(S:Sep ((Pl,Wt q)::Δ) H)(g:Grown Pl H H')(L:LamsAt H' Pl q):Sep ((Pl,Wt q)::Δ) H':=by
 refine S.call (L:=[Pl]) (fun b o nb e=>g b o (fun z=>nb (by simp [z])) e) fun h l r=>⟨fun b hb=>?_,some_of H' [Pl],WZ,?_,fun b o e m=>.inl (Wr e m)⟩
 · rw [List.mem_singleton.mp hb]
   obtain ⟨ts,e,_⟩:=r
   exact ⟨_,e,rfl⟩
 · obtain ⟨ts,e,f⟩:=L
   exact ⟨ts,(Xm (by simp)).trans e,fun p hp=>Wc (f p hp) rfl⟩
theorem Grown.more {Pl:Addr}{H H1 H2:Hp}(g:Grown Pl H H1)(s:Same H1 H2):Grown Pl H H2:=fun b o n e=>s _ _ (g b o n e)
def WI (P:Program)(w:World)(K:PySem.W.Frag)(mg:Str→Option Value)(base:Heap)(k:Nat)(RK:Addr→Str→Prop):Sp:=fun vs H Q _=>∃ q cs cc qual T,vs=[.ref q]∧Thk P w K mg base k cs cc qual q T∧Has cs H∧H cc=some (.ext (YQ cc qual))∧∀(H1:Hp)(Qc:VK)(Ec:XK),Same H H1 →
 (∀ v H',(Yf cs H'→∀ a H2,Same (cov H' cs) H2→H2 a=some (.tup [.str "told",v])→Q (.ref a) H2)→Qc v H') →
 (∀ C dx word what H',RK C word→H' dx=some (.xd [("what",what)])→(Yf cs H'→∀ a H2,Same (cov H' cs) H2→H2 a=some (.tup [.str "refused",.str word,what])→Q (.ref a) H2)→Ec (.ref C) (some dx) H')→T (unc H1 cs) Qc Ec
def Zdl (RK:Addr→Str→Prop)(Pl:Addr)(qual:Str)(te:(St→XK)→TE):TE:=fun σ H Q=>LamsAt H Pl qual∧∀(H1:Hp)(Qc:VK)(Ec:XK),Grown Pl H H1→LamsAt H1 Pl qual →
 (∀ v H',(∀ a H2,Same H' H2→H2 a=some (.tup [.str "told",v])→Q (.ref a) H2)→Qc v H') →
 (∀ C dx word what H',RK C word→H' dx=some (.xd [("what",what)])→(∀ a H2,Same H' H2→H2 a=some (.tup [.str "refused",.str word,what])→Q (.ref a) H2)→Ec (.ref C) (some dx) H')→te (fun _=>Ec) σ H1 Qc
section
variable {P:Program}{w:World}{K:PySem.W.Frag}{mg:Str→Option Value}{base:Heap}{k:Nat}{RK:Addr→Str→Prop}{Pl:Addr}{qual:Str}{te:(St→XK)→TE}{σ:St}{H:Hp}{Q:VK}
theorem ZdV (h:Zdl RK Pl qual te σ H Q):Zdc P w K mg base k (WI P w K mg base k RK) Pl qual te σ H Q:=by
 obtain ⟨hL,h⟩:=h
 refine ⟨hL,fun q H1 cs cc gr L1 hn Z hcc=>⟨q,cs,cc,qual,_,rfl,Z,has_cov,Yq hn _ _ hcc,fun H1' Qc Ec s1 hq he=>?_⟩⟩
 have s2:=Wp hn s1
 refine h (unc H1' cs) Qc Ec (gr.more s2) (L1.same s2) (fun v H' f=>hq v H' fun hn' a H2 s3 e=>⟨has_cov.same s3,f a _ (Wp hn' s3) ?_⟩) (fun C dx word what H' rk ed f=>he C dx word what H' rk ed fun hn' a H2 s3 e=>⟨has_cov.same s3,f a _ (Wp hn' s3) ?_⟩)
 · rw [Zz (Yw (has_cov.same s3) e fun _ z=>by cases z)];exact e
 · rw [Zz (Yw (has_cov.same s3) e fun _ z=>by cases z)];exact e
end
section
variable {X:Cx}{k j:Nat}{RK:Addr→Str→Prop}{f:Str}{pn:Str}{p0 lpos pos:Pos}{args:Arguments}{body:Expr}{sc:Scope}{te:(St→XK)→TE}{c Pl:Addr}
theorem Zak (D:Def X.prog X.w X.K X.mg X.base j f [pn] (WI X.prog X.w X.K X.mg X.base (k+1) RK))(hr:Room j X.A)(O:LamOk X sc)(hcode:X.env.code=.ref c)(C:codeHdIn X.K c Pl=true)(hBm:Xe X.base X.mg)
   (he:∀ (q:Addr) (cl:List (Str×Addr)) (cc:Addr) (A:Around) (outer:List Env) (s:Shared) (H:Hp) (Z:Value→Shared→Prop) (EE:St→XK),Room k (A.deeper (Yn (X.env.qual++"<lambda>") sc s.heap.objs.size q cl (.ref cc)))→Yk (Xt X.prog X.w X.K X.mg X.base X.N (Yn (X.env.qual++"<lambda>") sc s.heap.objs.size q cl (.ref cc)) A outer s H Z) EE →
     PE (Xt X.prog X.w X.K X.mg X.base X.N (Yn (X.env.qual++"<lambda>") sc s.heap.objs.size q cl (.ref cc)) A outer s H Z) body (te EE))
   (hdef:defaultsOf args X.env=([],[]):=by rfl) (hbind:∀ cl pm cc ct,bindArgs (kla_fn "<lambda>" (X.env.qual++"<lambda>") args body sc cl pm (.ref cc) ct) ⟨[],[]⟩=pure []:=by intros;rfl)
   (hg:Gl X f:=by rfl) (hdb:(f == ("__debug__":Str))=false:=by decide)
   (hst:starEach [Expr.Lambda args body sc lpos] X.env=(false,eval (.Lambda args body sc lpos) X.env)::starEach [] X.env:=by rfl) :
   PE X (.Call (.Name f p0) [.Lambda args body sc lpos] [] pos) (Zdl RK Pl (X.env.qual++"<lambda>") te) :=
 fun pins s σ H Q I h=>Zdy D hr O hcode C hBm he hdef hbind hg hdb hst pins s σ H Q I (ZdV h)
end
end L2
set_option maxHeartbeats 2000000
namespace L2
open PySem
structure Fnd where
 wd:Nat
 nm:Str
 ol:V
def Fnd.vs (f:Fnd):List V:=[.int (f.wd:Int),.str f.nm,f.ol]
def ZaP (fs:List Fnd):ZS:=fun l h=>∃ as:List Addr,h l=some (.lst (as.map V.ref))∧as.length=fs.length∧∀(i:Nat)(a:Addr)(f:Fnd),as[i]?=some a→fs[i]?=some f→h a=some (.tup f.vs)
abbrev tFl (lf lu:Addr):List (Str×V):=[("finds",.ref lf),("unused",.ref lu)]
def Tks (CT:Addr)(fs:List Fnd)(us:List Bool):ZS:=fun t h=>∃ lf lu,Sep [(t,YF CT (tFl lf lu)),(lf,ZaP fs),(lu,ZU (us.map V.bl))] h
structure Hs where
 dfs:List (Zw×V)
 pls:List Plc
 nds:List Nd
 tabs:List (Zw×V)
 spots:List Nat
 ins:List Nat
 fds:List Fnd
 us:List Bool
abbrev nI (n:Nat):V:=.int (n:Int)
theorem We (e:Nat):∀ xs:List Nat,inV (nI e) (xs.map nI)=decide (e∈xs)
 | []=>rfl
 | x :: xs=>by
   have ih:=We e xs
   unfold inV at ih ⊢
   rw [List.map_cons,List.any_cons,ih]
   show (decide ((x:Int)=e) || _)=_
   by_cases h:x=e
   · subst h;simp
   · have h2:¬ (x:Int)=e:=fun z=>h (by omega)
     have h3:¬ e=x:=fun z=>h z.symm
     simp [h2,h3]
theorem Xl (xs:List Nat):(xs.map nI).all YH=true:=List.all_eq_true.mpr fun v hv=>by obtain ⟨x,_,rfl⟩:=List.mem_map.mp hv;rfl
theorem Ut {xs:List Nat}{k:Nat}(h:xs.getLast?=some k):WL (xs.map nI) (-1)=some (nI k):=by
 obtain ⟨ys,rfl⟩:=List.getLast?_eq_some_iff.mp h
 have hl:((ys++[k]).map nI).length=ys.length+1:=by rw [List.length_map,List.length_append];rfl
 have e:((ys++[k]).map nI)[ys.length]?=some (nI k):=by rw [List.map_append,List.getElem?_append_right (by simp)];simp
 have e2:WF (ys.length+1) (-1)=some ys.length:=by
   unfold WF
   rw [if_neg (by omega),if_pos (by omega),show (-1+((ys.length+1:Nat):Int)).toNat=ys.length by omega]
 unfold WL
 rw [hl,e2];exact e
abbrev Ug (d r sp i t:Addr):List (Str×V):=[("defaults",.ref d),("ways",.ref r),("spots",.ref sp),("inside",.ref i),("held",.ref t)]
abbrev ZcH (K:PySem.W.Frag)(CH CR CS CT:Addr)(s:Hs)(h d r sp i t:Addr):Rs :=
 [(h,YF CH (Ug d r sp i t)),(d,Dic s.dfs),(r,Roa K CR CS s.pls s.nds s.tabs),(sp,ZU (s.spots.map nI)),(i,ZU (s.ins.map nI)),(t,Tks CT s.fds s.us)]
def YU (K:PySem.W.Frag)(CH CR CS CT:Addr)(s:Hs):ZS:=fun h hp=>∃ d r sp i t,Sep (ZcH K CH CR CS CT s h d r sp i t) hp
section
variable {K:PySem.W.Frag}{CH CR CS CT h d r sp i t lf lu:Addr}{s:Hs}{fs:List Fnd}{us:List Bool}{Δ:Rs}{H:Hp}
instance:Up (YU K CH CR CS CT s):=⟨fun ⟨d,r,sp,i,t,S⟩ e=>⟨d,r,sp,i,t,S.mono e⟩⟩
theorem Sep.halO (S:Sep ((h,YU K CH CR CS CT s)::Δ) H):∃ d r sp i t,Sep ((h,YF CH (Ug d r sp i t))::(d,Dic s.dfs)::(r,Roa K CR CS s.pls s.nds s.tabs)::(sp,ZU (s.spots.map nI))::(i,ZU (s.ins.map nI))::(t,Tks CT s.fds s.us)::Δ) H:=by
 obtain ⟨h',l,⟨d,r,sp,i,t,G⟩,S⟩:=S
 exact ⟨d,r,sp,i,t,Sep.nest (a:=h) (Γ:=ZcH K CH CR CS CT s h d r sp i t) l G S⟩
theorem Sep.halC (S:Sep ((h,YF CH (Ug d r sp i t))::(d,Dic s.dfs)::(r,Roa K CR CS s.pls s.nds s.tabs)::(sp,ZU (s.spots.map nI))::(i,ZU (s.ins.map nI))::(t,Tks CT s.fds s.us)::Δ) H):Sep ((h,YU K CH CR CS CT s)::Δ) H :=
 Sep.pack (Γ:=ZcH K CH CR CS CT s h d r sp i t) S fun h' G=>⟨d,r,sp,i,t,G⟩
theorem Sep.tksC (S:Sep ((t,YF CT (tFl lf lu))::(lf,ZaP fs)::(lu,ZU (us.map V.bl))::Δ) H):Sep ((t,Tks CT fs us)::Δ) H :=
 Sep.pack (Γ:=[(t,YF CT (tFl lf lu)),(lf,ZaP fs),(lu,ZU (us.map V.bl))]) S fun h' G=>⟨lf,lu,G⟩
theorem UR:(Ug d r sp i t).lookup ("spots":Str)=some (V.ref sp):=rfl
theorem WU:(Ug d r sp i t).lookup ("inside":Str)=some (V.ref i):=rfl
theorem ZY {m:Str}(h:[("defaults":Str),"ways","spots","inside","held"].all (fun k=>!(m == k))=true):(Ug d r sp i t).lookup m=none:=by
 simp only [List.all_cons,List.all_nil,Bool.and_true,Bool.and_eq_true,Bool.not_eq_true'] at h
 obtain ⟨h1,h2,h3,h4,h5⟩:=h
 simp [Ug,List.lookup,h1,h2,h3,h4,h5]
end
structure YR (K:PySem.W.Frag)(CH:Addr):Prop where
 cl:Cls K CH
 nd:NoAttr K CH "defaults"
 nw:NoAttr K CH "ways"
 ns:NoAttr K CH "spots"
 ni:NoAttr K CH "inside"
 nh:NoAttr K CH "held"
structure TxtT (K:PySem.W.Frag)(CT:Addr):Prop where
 cl:Cls K CT
 nf:NoAttr K CT "finds"
 nu:NoAttr K CT "unused"
end L2
set_option maxHeartbeats 4000000
namespace K34
open PySem L2
section
variable {P:Program}{w:World}{K:PySem.W.Frag}{mg:Str→Option Value}{base:Heap}{CH CR CS CT:Addr}
def VW (CT:Addr):Sp:=fun vs H Q _=>∃(t dx:Addr)(H0:Hp)(Δ:Rs),vs=[.ref t]∧H=upd (upd H0 dx (.own t)) t (.ins CT dx [])∧H0 t=none∧H0 dx=none∧dx≠t∧Sep Δ H0∧∀ H',Sep ((t,Tks CT [] [])::Δ) H'→Q .non H'
abbrev nTIn:List Str:=["self"]
abbrev Zdi:List Str:=["self"]
theorem ZfG:Zu nTIn Zdi (Zi c_Tokens___init__):=⟨rfl,rfl,rfl,by decide +kernel,rfl,by decide +kernel,by decide +kernel⟩
theorem Zcx {f:Addr}{fd:FuncData}(F:Fun K "__init__" "Tokens.__init__" c_Tokens___init__ f fd)(T:Yh mg)(TT:TxtT K CT):FnOk P w K mg base ZG 1 f fd Zdi (VW CT):=by
 refine F.ok ZfG (fun vs H Q E h=>?_) (fun cdv A outer s H vs Q E hr h=>?_)
 · obtain ⟨t,dx,H0,Δ,rfl,_⟩:=h;rfl
 obtain ⟨t,dx,H0,Δ,rfl,rfl,h1,h2,h3,S0,q⟩:=h
 have S:=((S0.new h2 (.own t)).new (p:=t) (by rw [Zc h3.symm];exact h1) (.ins CT dx [])).drop dx
 generalize upd (upd H0 dx (.own t)) t (.ins CT dx [])=H at *
 refine' ⟨?t,?h,?r⟩
 case h =>
   conv=>arg 2;whnf
   with_reducible refine' (Ze ?h1 (Zl ?h2))
   case h1=>exact ZQ (pv 0) (ZA Zb) rfl
   case h2=>exact ZQ (pv 0) (ZA Zb) rfl
 refine ⟨(by show 0≤sizeLine;decide),fun lf hlf=>?_⟩
 generalize hE:upd H lf _=H2
 have S2:=S.newE hlf hE
 clear hE
 refine ⟨_,rfl,t,CT,dx,_,rfl,S2.get t,TT.cl,TT.nf,(by show 0 < 1000;decide),?_⟩
 generalize hE:upd H2 t _=H3
 have S3:=S2.putE hE
 clear hE
 refine ⟨(by show 0≤sizeLine;decide),fun lu hlu=>?_⟩
 generalize hE:upd H3 lu _=H4
 have S4:=S3.newE hlu hE
 clear hE
 refine ⟨_,rfl,t,CT,dx,_,rfl,S4.get t,TT.cl,TT.nu,(by show 1 < 1000;decide),?_⟩
 generalize hE:upd H4 t _=H5
 have S5:=S4.putE hE
 clear hE
 have S6:=S5.say lf (ZaP []) fun h z=>⟨[],z,rfl,fun i a s e=>by simp at e⟩
 have S7:=S6.say t (YF CT (tFl lf lu)) fun h z=>⟨dx,z⟩
 exact q _ (Sep.tksC (us:=[]) (((S7.pull lu).pull lf).pull t))
def hs0:Hs:=⟨[],[],[.bare],[(Sum.inl 0,.bl true)],[0],[0],[],[]⟩
def Zab (K:PySem.W.Frag)(CH CR CS CT:Addr):Sp:=fun vs H Q _=>∃(p dx:Addr)(H0:Hp)(Δ:Rs),vs=[.ref p]∧H=upd (upd H0 dx (.own p)) p (.ins CH dx [])∧H0 p=none∧H0 dx=none∧dx≠p∧Sep Δ H0∧∀ H',Sep ((p,YU K CH CR CS CT hs0)::Δ) H'→Q .non H'
abbrev nHIn:List Str:=["self"]
abbrev ZcQ:List Str:=["self"]
theorem ZfH:Zu nHIn ZcQ (Zi c_Hall___init__):=⟨rfl,rfl,rfl,by decide +kernel,rfl,by decide +kernel,by decide +kernel⟩
theorem Zcl {f:Addr}{fd:FuncData}(F:Fun K "__init__" "Hall.__init__" c_Hall___init__ f fd)(T:Yh mg)(TH:YR K CH)(DRd:WX P w K mg base 11 CR "Roads" ["self"] (Zad K CR CS))(DTk:WX P w K mg base 1 CT "Tokens" ["self"] (VW CT)):FnOk P w K mg base ZG 13 f fd ZcQ (Zab K CH CR CS CT):=by
 refine F.ok ZfH (fun vs H Q E h=>?_) (fun cdv A outer s H vs Q E hr h=>?_)
 · obtain ⟨t,dx,H0,Δ,rfl,_⟩:=h;rfl
 obtain ⟨p,dx,H0,Δ,rfl,rfl,h1,h2,h3,S0,q⟩:=h
 have S:=((S0.new h2 (.own p)).new (p:=p) (by rw [Zc h3.symm];exact h1) (.ins CH dx [])).drop dx
 generalize upd (upd H0 dx (.own p)) p (.ins CH dx [])=H at *
 have hr2:=hr.mono (show 2≤12 by decide)
 refine' ⟨?t,?h,?r⟩
 case h =>
   conv=>arg 2;whnf
   with_reducible refine' (Ze ?h1 (Ze ?h2 (Ze ?h3 (Ze ?h4 (Zl ?h5)))))
   case h1=>exact ZQ (pv 0) Zca rfl
   case h2=>exact ZQ (pv 0) (UF DRd hr) rfl
   case h3=>exact ZQ (pv 0) (ZA (Zg Zh Zb)) rfl
   case h4=>exact ZQ (pv 0) (ZA (Zg Zh Zb)) rfl
   case h5=>exact ZQ (pv 0) (UF DTk hr2) rfl
 intro d hd
 generalize hE:upd H d _=H1
 have S1:=S.newE hd hE
 clear hE
 refine ⟨_,rfl,p,CH,dx,_,rfl,S1.get p,TH.cl,TH.nd,(by show 0 < 1000;decide),?_⟩
 generalize hE:upd H1 p _=H2
 have S2:=S1.putE hE
 clear hE
 intro r dr hr1 hdr hne
 refine ⟨r,dr,_,_,rfl,rfl,hr1,hdr,hne,S2,fun H3 S3=>⟨rfl,?_⟩⟩
 refine ⟨_,rfl,p,CH,dx,_,rfl,S3.get p,TH.cl,TH.nw,(by show 1 < 1000;decide),?_⟩
 generalize hE:upd H3 p _=H4
 have S4:=S3.putE hE
 clear hE
 refine ⟨(by show 1≤sizeLine;decide),fun sp hsp=>?_⟩
 generalize hE:upd H4 sp _=H5
 have S5:=S4.newE hsp hE
 clear hE
 refine ⟨_,rfl,p,CH,dx,_,rfl,S5.get p,TH.cl,TH.ns,(by show 2 < 1000;decide),?_⟩
 generalize hE:upd H5 p _=H6
 have S6:=S5.putE hE
 clear hE
 refine ⟨(by show 1≤sizeLine;decide),fun i hi=>?_⟩
 generalize hE:upd H6 i _=H7
 have S7:=S6.newE hi hE
 clear hE
 refine ⟨_,rfl,p,CH,dx,_,rfl,S7.get p,TH.cl,TH.ni,(by show 3 < 1000;decide),?_⟩
 generalize hE:upd H7 p _=H8
 have S8:=S7.putE hE
 clear hE
 intro t dt ht1 hdt hnt
 refine ⟨t,dt,_,_,rfl,rfl,ht1,hdt,hnt,S8,fun H9 S9=>⟨rfl,?_⟩⟩
 refine ⟨_,rfl,p,CH,dx,_,rfl,S9.get p,TH.cl,TH.nh,(by show 4 < 1000;decide),?_⟩
 generalize hE:upd H9 p _=H10
 have S10:=S9.putE hE
 clear hE
 have S11:=S10.say p (YF CH (Ug d r sp i t)) fun h z=>⟨dx,z⟩
 exact q _ (Sep.halC (s:=hs0) (((((S11.pull t).pull i).pull sp).pull r).pull d |>.pull p))
abbrev RdH (K:PySem.W.Frag)(CH CR CS CT h:Addr)(s:Hs)(H:Hp):Prop:=YU K CH CR CS CT s h H
def Zay (K:PySem.W.Frag)(CH CR CS CT:Addr):Sp:=fun vs H Q _=>∃(h:Addr)(s:Hs)(k:Nat),vs=[.ref h,.int (k:Int)]∧RdH K CH CR CS CT h s H∧k < s.spots.length∧Q .non H
abbrev nHCk:List Str:=["self","world"]
abbrev UG:List Str:=["self","world"]
theorem ZfB:Zu nHCk UG (Zi c_Hall_check_world):=⟨rfl,rfl,rfl,by decide +kernel,rfl,by decide +kernel,by decide +kernel⟩
theorem Zel {f:Addr}{fd:FuncData}(F:Fun K "check_world" "Hall.check_world" c_Hall_check_world f fd)(T:Yh mg)(TH:YR K CH):FnOk P w K mg base ZG 1 f fd UG (Zay K CH CR CS CT):=by
 refine F.ok ZfB (fun vs H Q E h=>?_) (fun cdv A outer s H vs Q E hr h=>?_)
 · obtain ⟨h,s,k,rfl,_⟩:=h;rfl
 obtain ⟨h,s,k,rfl,⟨d,r,sp,i,t,S⟩,hk,q⟩:=h
 obtain ⟨dx,ob⟩:=S.get h
 refine' ⟨?t,?h,?r⟩
 case h =>
   conv=>arg 2;whnf
   with_reducible refine' (Zl (Yo ?h1 (Zl Zgc) ZV))
   case h1=>exact Zbi (Zcr Zft ZcV Zh (pv 1) (Zk ZC rfl T.len PySem.boot_len (Zg (Ya (pv 0) rfl) Zb)))
 refine ⟨_,rfl,_,_,rfl,rfl,_,rfl,?_⟩
 rw [decide_eq_true (show (0:Int)≤(k:Int) by omega)]
 refine ZaE ⟨_,rfl,h,CH,dx,_,_,rfl,ob,TH.cl,TH.ns,UR,sp,_,rfl,.inl (SqL.of (S.get sp)),_,_,rfl,rfl,_,rfl,?_⟩
 rw [decide_eq_true (show (k:Int) < (((s.spots.map nI).length:Nat):Int) by rw [List.length_map];omega)]
 exact YG q
def ZcZ (K:PySem.W.Frag)(CH CR CS CT:Addr):Sp:=fun vs H Q _=>∃(h:Addr)(s:Hs),vs=[.ref h]∧RdH K CH CR CS CT h s H∧Q (.int (s.spots.length:Int)) H
abbrev nHWd:List Str:=["self"]
abbrev ZaX:List Str:=["self"]
theorem Zfz:Zu nHWd ZaX (Zi c_Hall_worlds):=⟨rfl,rfl,rfl,by decide +kernel,rfl,by decide +kernel,by decide +kernel⟩
theorem ZeS {f:Addr}{fd:FuncData}(F:Fun K "worlds" "Hall.worlds" c_Hall_worlds f fd)(T:Yh mg)(TH:YR K CH):FnOk P w K mg base ZG 1 f fd ZaX (ZcZ K CH CR CS CT):=by
 refine F.ok Zfz (fun vs H Q E h=>?_) (fun cdv A outer s H vs Q E hr h=>?_)
 · obtain ⟨h,s,rfl,_⟩:=h;rfl
 obtain ⟨h,s,rfl,⟨d,r,sp,i,t,S⟩,q⟩:=h
 obtain ⟨dx,ob⟩:=S.get h
 refine' ⟨?t,?h,?r⟩
 case h =>
   conv=>arg 2;whnf
   with_reducible refine' (Zl ?h1)
   case h1=>exact ZB (Zk ZC rfl T.len PySem.boot_len (Zg (Ya (pv 0) rfl) Zb))
 refine ⟨_,rfl,h,CH,dx,_,_,rfl,ob,TH.cl,TH.ns,UR,sp,_,rfl,.inl (SqL.of (S.get sp)),?_⟩
 rw [List.length_map];exact q
def Zat (K:PySem.W.Frag)(CH CR CS CT:Addr):Sp:=fun vs H Q _=>∃(h:Addr)(s:Hs)(k p:Nat),vs=[.ref h,.int (k:Int)]∧RdH K CH CR CS CT h s H∧s.spots[k]?=some p∧Q (.int (p:Int)) H
abbrev nHPl:List Str:=["self","world"]
abbrev UH:List Str:=["self","world"]
theorem Zfw:Zu nHPl UH (Zi c_Hall_place):=⟨rfl,rfl,rfl,by decide +kernel,rfl,by decide +kernel,by decide +kernel⟩
theorem Zep {f:Addr}{fd:FuncData}(F:Fun K "place" "Hall.place" c_Hall_place f fd)(T:Yh mg)(TH:YR K CH)(DH_check_world:DefM P w K mg base 1 CH "check_world" UG (Zay K CH CR CS CT)):FnOk P w K mg base ZG 2 f fd UH (Zat K CH CR CS CT):=by
 refine F.ok Zfw (fun vs H Q E h=>?_) (fun cdv A outer s H vs Q E hr h=>?_)
 · obtain ⟨h,s,k,p,rfl,_⟩:=h;rfl
 obtain ⟨h,s,k,p,rfl,R,hk,q⟩:=h
 obtain ⟨d,r,sp,i,t,S⟩:=id R
 obtain ⟨dx,ob⟩:=S.get h
 refine' ⟨?t,?h,?r⟩
 case h =>
   conv=>arg 2;whnf
   with_reducible refine' (Ze ?h1 (Zl ?h2))
   case h1=>exact Yr (Vf DH_check_world TH.cl hr (pv 0) (Zg (pv 1) Zb))
   case h2=>exact ZB (Yj ZK (Ya (pv 0) rfl) (pv 1) (fun _ _=>rfl))
 refine ⟨_,rfl,h,dx,_,rfl,ob,ZY (by decide +kernel),_,rfl,h,s,k,rfl,R,(List.getElem?_eq_some_iff.mp hk).1,?_⟩
 exact ⟨_,rfl,h,CH,dx,_,_,rfl,ob,TH.cl,TH.ns,UR,_,rfl,sp,_,_,_,rfl,rfl,SqL.of (S.get sp),WW (by rw [List.getElem?_map,hk];rfl),q⟩
def ZaJ (K:PySem.W.Frag)(CH CR CS CT:Addr):Sp:=fun vs H Q _=>∃(h:Addr)(s:Hs)(k:Nat),vs=[.ref h]∧RdH K CH CR CS CT h s H∧s.ins.getLast?=some k∧Q (.int (k:Int)) H
abbrev nHNo:List Str:=["self"]
abbrev Uz:List Str:=["self"]
theorem ZfA:Zu nHNo Uz (Zi c_Hall_now):=⟨rfl,rfl,rfl,by decide +kernel,rfl,by decide +kernel,by decide +kernel⟩
theorem ZeK {f:Addr}{fd:FuncData}(F:Fun K "now" "Hall.now" c_Hall_now f fd)(T:Yh mg)(TH:YR K CH):FnOk P w K mg base ZG 1 f fd Uz (ZaJ K CH CR CS CT):=by
 refine F.ok ZfA (fun vs H Q E h=>?_) (fun cdv A outer s H vs Q E hr h=>?_)
 · obtain ⟨h,s,k,rfl,_⟩:=h;rfl
 obtain ⟨h,s,k,rfl,⟨d,r,sp,i,t,S⟩,hk,q⟩:=h
 obtain ⟨dx,ob⟩:=S.get h
 refine' ⟨?t,?h,?r⟩
 case h =>
   conv=>arg 2;whnf
   with_reducible refine' (Zl ?h1)
   case h1=>exact ZB (Yj ZK (Ya (pv 0) rfl) (Zdg Zbk Zh) (fun _ _=>rfl))
 exact ⟨_,rfl,h,CH,dx,_,_,rfl,ob,TH.cl,TH.ni,WU,1,rfl,i,_,_,_,rfl,rfl,SqL.of (S.get i),Ut hk,q⟩
def ZcY (K:PySem.W.Frag)(CH CR CS CT:Addr):Sp:=fun vs H Q _=>∃(h:Addr)(s:Hs),vs=[.ref h]∧RdH K CH CR CS CT h s H∧∀ l,H l=none→Q (.ref l) (upd H l (.lst (s.ins.map nI)))
abbrev nHEn:List Str:=["self"]
abbrev ZaM:List Str:=["self"]
theorem ZfV:Zu nHEn ZaM (Zi c_Hall_entered):=⟨rfl,rfl,rfl,by decide +kernel,rfl,by decide +kernel,by decide +kernel⟩
theorem Zff {f:Addr}{fd:FuncData}(F:Fun K "entered" "Hall.entered" c_Hall_entered f fd)(T:Yh mg)(TH:YR K CH):FnOk P w K mg base ZG 1 f fd ZaM (ZcY K CH CR CS CT):=by
 refine F.ok ZfV (fun vs H Q E h=>?_) (fun cdv A outer s H vs Q E hr h=>?_)
 · obtain ⟨h,s,rfl,_⟩:=h;rfl
 obtain ⟨h,s,rfl,⟨d,r,sp,i,t,S⟩,q⟩:=h
 obtain ⟨dx,ob⟩:=S.get h
 refine' ⟨?t,?h,?r⟩
 case h =>
   conv=>arg 2;whnf
   with_reducible refine' (Zl ?h1)
   case h1=>exact ZB (Xa Vk rfl T.list (by decide +kernel) (Zg (Ya (pv 0) rfl) Zb))
 exact ⟨_,rfl,h,CH,dx,_,_,rfl,ob,TH.cl,TH.ni,WU,i,_,rfl,.inl (SqL.of (S.get i)),q⟩
def Zby (K:PySem.W.Frag)(CH CR CS CT:Addr):Sp:=fun vs H Q _=>∃(h:Addr)(s:Hs)(k p:Nat)(Δ:Rs),vs=[.ref h,.int (k:Int)]∧Sep ((h,YU K CH CR CS CT s)::Δ) H∧s.spots[k]?=some p∧s.spots.length≤1000∧∀ H',Sep ((h,YU K CH CR CS CT { s with spots:=s.spots++[p] })::Δ) H'→Q (.int (s.spots.length:Int)) H'
abbrev nHCo:List Str:=["self","world"]
abbrev ZaF:List Str:=["self","world"]
theorem ZfR:Zu nHCo ZaF (Zi c_Hall_copy):=⟨rfl,rfl,rfl,by decide +kernel,rfl,by decide +kernel,by decide +kernel⟩
theorem Zdv {f:Addr}{fd:FuncData}(F:Fun K "copy" "Hall.copy" c_Hall_copy f fd)(T:Yh mg)(TH:YR K CH)(DH_place:DefM P w K mg base 2 CH "place" UH (Zat K CH CR CS CT)):FnOk P w K mg base ZG 3 f fd ZaF (Zby K CH CR CS CT):=by
 refine F.ok ZfR (fun vs H Q E h=>?_) (fun cdv A outer s H vs Q E hr h=>?_)
 · obtain ⟨h,s,k,p,Δ,rfl,_⟩:=h;rfl
 obtain ⟨h,s,k,p,Δ,rfl,S0,hk,hl,q⟩:=h
 have R:=S0.get h
 obtain ⟨d,r,sp,i,t,S⟩:=S0.halO
 obtain ⟨dx,ob⟩:=S.get h
 refine' ⟨?t,?h,?r⟩
 case h =>
   conv=>arg 2;whnf
   with_reducible refine' (Ze ?h1 (Zl ?h2))
   case h1=>exact Yr (WG PySem.F.plainAttrs_list PySem.F.slot_list_append PySem.F.type_list_append Xd (Ya (pv 0) rfl) (Zg (Vf DH_place TH.cl hr (pv 0) (Zg (pv 1) Zb)) Zb))
   case h2=>exact ZB (Zr Vn (Zk ZC rfl T.len PySem.boot_len (Zg (Ya (pv 0) rfl) Zb)) Zh)
 refine ⟨_,rfl,h,CH,dx,_,_,rfl,ob,TH.cl,TH.ns,UR,.inl ⟨rfl,_,SqL.of (S.get sp)⟩,_,rfl,h,dx,_,rfl,ob,ZY (by decide +kernel),_,rfl,h,s,k,p,rfl,R,hk,sp,_,_,rfl,rfl,S.get sp,UY (show _≤1000 by rw [List.length_map];exact hl),?_⟩
 generalize hE:upd H sp _=H2
 have S2:=S.putE hE
 clear hE
 obtain ⟨dx2,ob2⟩:=S2.get h
 refine ⟨_,rfl,h,CH,dx2,_,_,rfl,ob2,TH.cl,TH.ns,UR,sp,_,rfl,.inl (SqL.of (S2.get sp)),_,_,rfl,rfl,?_⟩
 dsimp only
 rw [show (((s.spots.map nI++[V.int (p:Int)]).length:Nat):Int) - 1=(s.spots.length:Int) by rw [List.length_append,List.length_map];simp]
 refine q _ (Sep.halC (s:={ s with spots:=s.spots++[p] }) (d:=d) (r:=r) (sp:=sp) (i:=i) (t:=t) ?_)
 show L2.Sep (_::_::_::(sp,ZU ((s.spots++[p]).map nI))::_) _
 rw [List.map_append]
 exact ((S2.pull sp).pull r).pull d |>.pull h
def ZaB (K:PySem.W.Frag)(CH CR CS CT CB:Addr):Sp:=fun vs H Q E=>∃ (h:Addr) (s:Hs) (k:Nat) (Δ:Rs),vs=[.ref h,.int (k:Int)]∧Sep ((h,YU K CH CR CS CT s)::Δ) H∧k < s.spots.length∧s.ins.length≤1000∧(k∈s.ins→∀ dx H',Same H H'→H' dx=some (.xd [("what",.int (k:Int))])→E (.ref CB) (some dx) H') ∧
 (k ∉ s.ins→∀ H',Sep ((h,YU K CH CR CS CT { s with ins:=s.ins++[k] })::Δ) H'→Q .non H')
abbrev nHEt:List Str:=["self","world"]
abbrev UI:List Str:=["self","world"]
theorem ZfO:Zu nHEt UI (Zi c_Hall_enter):=⟨rfl,rfl,rfl,by decide +kernel,rfl,by decide +kernel,by decide +kernel⟩
theorem ZeU {CB:Addr}{f:Addr}{fd:FuncData}(F:Fun K "enter" "Hall.enter" c_Hall_enter f fd)(T:Yh mg)(TH:YR K CH)(DH_check_world:DefM P w K mg base 1 CH "check_world" UG (Zay K CH CR CS CT))(DE:VC P w K mg base 1 CB "Busy"):FnOk P w K mg base (XJ P w base) 3 f fd UI (ZaB K CH CR CS CT CB):=by
 refine F.okX ZfO (fun vs H Q E h=>?_) (fun cdv A outer s H vs Q E hr h W=>?_)
 · obtain ⟨h,s,k,Δ,rfl,_⟩:=h;rfl
 obtain ⟨h,s,k,Δ,rfl,S0,hk,hl,q1,q2⟩:=h
 have R:=S0.get h
 obtain ⟨d,r,sp,i,t,S⟩:=S0.halO
 obtain ⟨dx,ob⟩:=S.get h
 have hr1:=hr.mono (show 1≤2 by decide)
 refine' ⟨?t,?h,?r⟩
 case h =>
   conv=>arg 2;whnf
   with_reducible refine' (Ze ?h1 (Ze (Yo ?h2 (Zl ?h3) ZV) (Zl ?h4)))
   case h1=>exact Yr (Vf DH_check_world TH.cl hr1 (pv 0) (Zg (pv 1) Zb))
   case h2=>exact ZM Uf (pv 1) (Ya (pv 0) rfl) rfl
   case h3=>exact UQ W DE hr rfl (Zg (pv 1) Zb)
   case h4=>exact Yr (WG PySem.F.plainAttrs_list PySem.F.slot_list_append PySem.F.type_list_append Xd (Ya (pv 0) rfl) (Zg (pv 1) Zb))
 refine ⟨_,rfl,h,dx,_,rfl,ob,ZY (by decide +kernel),_,rfl,h,s,k,rfl,R,hk,?_⟩
 refine ⟨_,rfl,_,rfl,h,CH,dx,_,_,rfl,ob,TH.cl,TH.ni,WU,i,_,rfl,.inl (SqL.of (S.get i)),rfl,Xl _,_,rfl,?_⟩
 rw [if_neg (by decide),We]
 refine WT (fun c=>?_) (fun c=>?_)
 · exact ⟨_,rfl,_,rfl,fun d hd=>q1 (of_decide_eq_true c) d _ (Zf hd _) Zd⟩
 refine ⟨_,rfl,h,CH,dx,_,_,rfl,ob,TH.cl,TH.ni,WU,.inl ⟨rfl,_,SqL.of (S.get i)⟩,_,rfl,i,_,_,rfl,rfl,S.get i,UY (show _≤1000 by rw [List.length_map];exact hl),?_⟩
 generalize hE:upd H i _=H2
 have S2:=S.putE hE
 clear hE
 refine q2 (fun z=>c (decide_eq_true z)) _ (Sep.halC (s:={ s with ins:=s.ins++[k] }) (d:=d) (r:=r) (sp:=sp) (i:=i) (t:=t) ?_)
 show L2.Sep (_::_::_::_::(i,ZU ((s.ins++[k]).map nI))::_) _
 rw [List.map_append]
 exact (((S2.pull i).pull sp).pull r).pull d |>.pull h
def ZaU (K:PySem.W.Frag)(CH CR CS CT CA:Addr):Sp:=fun vs H Q E=>∃ (h:Addr) (s:Hs) (ys:List Nat) (k:Nat) (Δ:Rs),vs=[.ref h]∧Sep ((h,YU K CH CR CS CT s)::Δ) H∧s.ins=ys++[k]∧s.ins.length≤1000∧(ys=[]→∀ dx H',Same H H'→H' dx=some (.xd [("what",.int (k:Int))])→E (.ref CA) (some dx) H') ∧
 (ys≠[]→∀ H',Sep ((h,YU K CH CR CS CT { s with ins:=ys })::Δ) H'→Q .non H')
abbrev nHLe:List Str:=["self"]
abbrev Uy:List Str:=["self"]
theorem ZfW:Zu nHLe Uy (Zi c_Hall_leave):=⟨rfl,rfl,rfl,by decide +kernel,rfl,by decide +kernel,by decide +kernel⟩
theorem Zey {CA:Addr}{f:Addr}{fd:FuncData}(F:Fun K "leave" "Hall.leave" c_Hall_leave f fd)(T:Yh mg)(TH:YR K CH)(DH_now:DefM P w K mg base 1 CH "now" Uz (ZaJ K CH CR CS CT))(DE:VC P w K mg base 1 CA "AtHome"):FnOk P w K mg base (XJ P w base) 3 f fd Uy (ZaU K CH CR CS CT CA):=by
 refine F.okX ZfW (fun vs H Q E h=>?_) (fun cdv A outer s H vs Q E hr h W=>?_)
 · obtain ⟨h,s,ys,k,Δ,rfl,_⟩:=h;rfl
 obtain ⟨h,s,ys,k,Δ,rfl,S0,hk,hl,q1,q2⟩:=h
 have R:=S0.get h
 obtain ⟨d,r,sp,i,t,S⟩:=S0.halO
 obtain ⟨dx,ob⟩:=S.get h
 have hr1:=hr.mono (show 1≤2 by decide)
 refine' ⟨?t,?h,?r⟩
 case h =>
   conv=>arg 2;whnf
   with_reducible refine' (Ze (Yo ?h1 (Zl ?h2) ZV) (Zl ?h3))
   case h1=>exact ZM UJ (Zk ZC rfl T.len PySem.boot_len (Zg (Ya (pv 0) rfl) Zb)) Zh (ZR _)
   case h2=>exact UQ W DE hr rfl (Zg (Xs DH_now TH.cl hr1 (pv 0)) Zb)
   case h3=>exact Yr (Zbn PySem.F.plainAttrs_list PySem.F.slot_list_pop PySem.F.type_list_pop ZeG (Ya (pv 0) rfl))
 refine ⟨_,rfl,h,CH,dx,_,_,rfl,ob,TH.cl,TH.ni,WU,i,_,rfl,.inl (SqL.of (S.get i)),rfl,_,rfl,?_⟩
 have el:(s.ins.map nI).length=ys.length+1:=by rw [hk,List.length_map,List.length_append];rfl
 have hg:s.ins.getLast?=some k:=by rw [hk];simp
 rw [el]
 refine WT (fun c=>?_) (fun c=>?_)
 · have c2:=V.int.inj (of_decide_eq_true c)
   exact ⟨_,rfl,h,dx,_,rfl,ob,ZY (by decide +kernel),h,s,k,rfl,R,hg,_,rfl,fun d hd=>q1 (List.length_eq_zero_iff.mp (by omega)) d _ (Zf hd _) Zd⟩
 have c2:ys≠[]:=fun z=>c (decide_eq_true (by rw [z];rfl))
 refine ⟨_,rfl,h,CH,dx,_,_,rfl,ob,TH.cl,TH.ni,WU,.inl ⟨rfl,_,SqL.of (S.get i)⟩,i,_,nI k,rfl,rfl,S.get i,?_,?_⟩
 · rw [el,hk,List.map_append,List.getElem?_append_right (by simp)];simp
 generalize hE:upd H i _=H2
 have S2:=S.putE hE
 clear hE
 refine q2 c2 _ (Sep.halC (s:={ s with ins:=ys }) (d:=d) (r:=r) (sp:=sp) (i:=i) (t:=t) ?_)
 rw [hk,List.map_append,show (ys.map nI++[k].map nI).dropLast=ys.map nI from List.dropLast_concat] at S2
 exact (((S2.pull i).pull sp).pull r).pull d |>.pull h
end
end K34
set_option maxHeartbeats 2000000
namespace L2
open PySem PySem.W
def WD (v:Option (Option Value))(x:String):Bool:=match v with
 | some (some (.builtin b))=>b == x
 | _=>false
def UA (v:Option (Option Value)):Bool:=match v with
 | some none=>true
 | _=>false
def UK (K:PySem.W.Frag)(CRo C fI:Addr)(cs n1 n2:List Addr)(j:Nat):Bool :=
 ((UT K C&&UA (findIn K (.ref C) "what"))&&(WD (findIn K (.ref C) "__getattribute__") "BaseException.__getattribute__"&&(UA (findIn K (.ref C) "__getattr__")&&WD (findIn K (.ref C) "__class__") "object.__class__"))) &&
 (((match findIn K (.ref C) "__init__" with | some (some (.ref a))=>a == fI | _=>false)&&WD (findIn K (.ref C) "__setattr__") "object.__setattr__")&&keepIn K (.ref C)) &&
 ((exmOne K (.ref C) (.ref CRo) == some true&&kitOne K (.ref C) (.type "ValueError") == some true) &&
  (((List.range cs.length).all fun i=>kitOne K (.ref C) (.ref (cs.getD i 0)) == some (decide (i=j)))&&(kitAny K (.ref C) (n1.map Value.ref) == some false&&kitAny K (.ref C) (n2.map Value.ref) == some false)))
structure RefK (K:PySem.W.Frag)(CRo:Addr)(cs n1 n2:List Addr)(C:Addr)(j:Nat):Prop where
 g:XG K C
 cat:exmOne K (.ref C) (.ref CRo)=some true
 ve:kitOne K (.ref C) (.type "ValueError")=some true
 is:∀ i,i < cs.length→kitOne K (.ref C) (.ref (cs.getD i 0))=some (decide (i=j))
 no1:kitAny K (.ref C) (n1.map Value.ref)=some false
 no2:kitAny K (.ref C) (n2.map Value.ref)=some false
theorem Vm {v:Option (Option Value)}{x:String}(h:WD v x=true):v=some (some (.builtin x)):=by
 unfold WD at h
 split at h
 · rw [beq_iff_eq.mp h]
 · cases h
theorem Vd {v:Option (Option Value)}(h:UA v=true):v=some none:=by
 unfold UA at h
 split at h
 · rfl
 · cases h
theorem Wv {K:PySem.W.Frag}{CRo C fI:Addr}{cs n1 n2:List Addr}{j:Nat}(h:UK K CRo C fI cs n1 n2 j=true):RefK K CRo cs n1 n2 C j∧(isFn K (.ref fI)=true→XF K C fI):=by
 unfold UK at h
 simp only [Bool.and_eq_true,beq_iff_eq,List.all_eq_true,List.mem_range] at h
 obtain ⟨⟨⟨⟨a1,a2⟩,a3,a4,a5⟩,⟨b1,b2⟩,b3⟩,⟨c1,c2⟩,c3,c4,c5⟩:=h
 have g:XG K C:=⟨a1,Vd a2,Vm a3,Vd a4,Vm a5⟩
 refine ⟨⟨g,c1,c2,c3,c4,c5⟩,fun hf=>?_⟩
 have i1:findIn K (.ref C) "__init__"=some (some (.ref fI)):=by
   split at b1
   · rename_i e;rw [e,beq_iff_eq.mp b1]
   · cases b1
 exact ⟨a1,i1,Vm b2,Vd a2,hf,b3⟩
end L2
set_option maxHeartbeats 2000000
namespace L2
open PySem PySem.Spec PyProof.Rows PyProof.Rows.KTD
section
variable {δ:Type}{Rr:δ→Value→Prop}{prog:Program}{w:World}{A:Around}{E:Value→Shared→Prop}{s:Shared}{a:Addr}{D:List (Str×δ)}{k:Str}{tk:Tok}
end
section
variable {X:Cx}{o e:Expr}{apos cpos:Pos}{te:TE}{d:Addr}{D:List (Str×List V)}
end
end L2
set_option maxHeartbeats 2000000
namespace L2
open PySem PySem.Spec PyProof.Rows
section
variable {X:Cx}
end
mutual
theorem DatT.same {K:PySem.W.Frag}{H H':Hp}(s:Same H H'):∀{v d},DatT K H v d→DatT K H' v d
 | _,_,.non=>.non
 | _,_,.int i=>.int i
 | _,_,.str x=>.str x
 | _,_,.tup e q=>.tup (e.tf s.tf) (DatTs.same s q)
theorem DatTs.same {K:PySem.W.Frag}{H H':Hp}(s:Same H H'):∀{vs ds},DatTs K H vs ds→DatTs K H' vs ds
 | _,_,.nil=>.nil
 | _,_,.cons r t=>.cons (DatT.same s r) (DatTs.same s t)
end
end L2
set_option maxHeartbeats 2000000
namespace L2
open PySem PySem.Spec PyProof.Rows
section
variable {X:Cx}
end
section
variable {prog:Program}{w:World}{A:Around}{E:Value→Shared→Prop}{s:Shared}
end
section
variable {X:Cx}
end
end L2
set_option maxHeartbeats 2000000
namespace L2
open PySem PySem.Spec PyProof.Rows
end L2
set_option maxHeartbeats 2000000
namespace L2
open PySem PySem.Spec PyProof.Rows
section
variable {prog:Program}{w:World}{A:Around}{E:Value→Shared→Prop}{s:Shared}
end
section
variable {prog:Program}{w:World}{A:Around}{E:Value→Shared→Prop}{s:Shared}
end
section
variable {X:Cx}
end
end L2
set_option maxHeartbeats 2000000
namespace L2
open PySem PySem.Spec PyProof.Rows
section
variable {X:Cx}{pins:List (Addr×Obj)}{σ:St}{H:Hp}{s:Shared}
end
end L2
namespace L2
open PySem
structure FG (K:PySem.W.Frag)(x:Str)(st:Stmt)(f:Addr)(fd:FuncData):Prop where
 a:PySem.W.nsIn K mainGlobals x=some (some (.ref f))
 F:Fun K x x st f fd
structure FM (K:PySem.W.Frag)(C:Addr)(x q:Str)(st:Stmt)(f:Addr)(fd:FuncData):Prop where
 m:WS K C x f
 F:Fun K x q st f fd
structure FGC (K:PySem.W.Frag)(x:Str)(st:Stmt)(f:Addr)(fd:FuncData)(c Pl:Addr):Prop where
 a:PySem.W.nsIn K mainGlobals x=some (some (.ref f))
 F:FunC K x x st f fd c Pl
structure CH (K:PySem.W.Frag)(x:Str)(C:Addr):Prop where
 a:PySem.W.nsIn K mainGlobals x=some (some (.ref C))
 c:Cls K C
 ms:PySem.W.makesIn K C=true
 kp:PySem.W.keepIn K (.ref C)=true
structure Bs (P:Program)(w:World)(K:PySem.W.Frag)(mg:Str→Option Value)(base h:Heap):Prop where
 X:K.In h
 G:h.Ns mainGlobals mg
section
variable {P:Program}{w:World}{K:PySem.W.Frag}{mg:Str→Option Value}{base h:Heap}{x q:Str}{st:Stmt}{f c Pl C:Addr}{fd:FuncData}{k:Nat}{ps:List Str}{sp:Sp}{p1 p2 p3 p4 p5:Str}
theorem FG.df (g:FG K x st f fd)(e:Bs P w K mg base h)(o:FnOk P w K mg base ZG k f fd ps sp)(b:Binds K fd ps []):Def P w K mg base k x ps sp:=⟨f,fd,o,b,g.F.kp,PySem.W.mg_of e.X e.G g.a⟩
theorem FM.df (g:FM K C x q st f fd)(_:Bs P w K mg base h)(o:FnOk P w K mg base ZG k f fd ps sp)(b:Binds K fd ps []):DefM P w K mg base k C x ps sp:=⟨f,fd,o,b,g.m⟩
theorem FM.di {y:Str}(g:FM K C "__init__" q st f fd)(ch:CH K y C)(e:Bs P w K mg base h)(o:FnOk P w K mg base ZG k f fd ps sp)(b:Binds K fd ps []):WX P w K mg base k C y ps sp:=⟨f,fd,o,b,⟨ch.ms,g.m.at_,g.m.fn,ch.kp⟩,PySem.W.mg_of e.X e.G ch.a⟩
abbrev BA (x q:Str)(st:Stmt)(us:List Value)(r:List (Str×Value)):Prop:=∀(kV doc pm:Value)(an:Option Addr)(cdv ct:Value),bindArgs (PySem.W.fnOf x q (Wd st) (Yy st) (Zi st) .none kV doc pm an cdv ct) ⟨us,[]⟩=pure r
theorem Fun.b1 (F:Fun K x q st f fd)(h:∀ u,BA x q st [u] [(p1,u)]):Binds K fd [p1] []:=F.binds fun a b c d e g us hl=>match us,hl with | [u],_=>h u a b c d e g
theorem Fun.b2 (F:Fun K x q st f fd)(h:∀ u v,BA x q st [u,v] [(p1,u),(p2,v)]):Binds K fd [p1,p2] []:=F.binds fun a b c d e g us hl=>match us,hl with | [u,v],_=>h u v a b c d e g
theorem Zbf (F:Fun K x q st f fd)(h:∀ u,BA x q st [u] [(p1,u)])(s:Shared)(v:Value):BindsTo s fd ⟨[v],[]⟩ [(p1,v)]:=by
 obtain ⟨oc,od,kV,doc,pm,an,cdv,ct,osl,rfl,lk,hcd⟩:=F.ex
 exact .of_eq (h v kV doc pm an cdv ct)
end
end L2
set_option maxHeartbeats 2000000
namespace L2
open PySem PySem.Spec PyProof.Rows
def Zcm:Expr→Option V
 | .Constant (.int i) _ _=>some (.int i)
 | .Constant (.str x) _ _=>some (.str x)
 | .Constant (.bool b) _ _=>some (.bl b)
 | .Constant .none _ _=>some .non
 | _=>none
def ZaD:List Expr→Option (List V)
 | []=>some []
 | e::es=>match Zcm e,ZaD es with
   | some v,some vs=>some (v::vs)
   | _,_=>none
section
variable {X:Cx}
theorem Zem {e:Expr}{v:V}(h:Zcm e=some v):PE X e (tC v)∧∀ es,starEach (e::es) X.env=(false,eval e X.env)::starEach es X.env:=by
 unfold Zcm at h
 split at h<;>cases h
 · exact ⟨Zh,fun _=>rfl⟩
 · exact ⟨Yd,fun _=>rfl⟩
 · exact ⟨YJ,fun _=>rfl⟩
 · exact ⟨YE,fun _=>rfl⟩
def Zfv (vs:List V):TA:=fun _ H Q=>Q vs H
theorem Zaa:∀{es:List Expr}{vs:List V},ZaD es=some vs→PA X es (Zfv vs)
 | [],_,h=>by cases h;exact Zb
 | e :: es,vs,h=>by
   rw [ZaD] at h
   split at h
   · rename_i v ws h1 h2
     cases h
     obtain ⟨p,s⟩:=Zem (X:=X) h1
     exact ZP p (Zaa h2) (s es)
   · cases h
end
section
variable {X:Cx}
end
section
variable {K:PySem.W.Frag}{x q:Str}{st:Stmt}{f:Addr}{fd:FuncData}{p1 p2 p3 p4 p5 p6 p7:Str}
end
section
variable {X:Cx}
end
end L2
set_option maxHeartbeats 4000000
namespace K34
open PySem L2
abbrev xNm:List Str:=["Known","NoSetting","Missing","NoWorld","Busy","AtHome","NoToken","Used","Elsewhere","OutOfTurn","NoTable","NoNode","NoPlace","NotBehind","NoWatcher","NoTask","BadRow"]
abbrev xWd:List Str:=["known","setting","missing","world","busy","home","token","used","elsewhere","turn"]
structure TxtE (K:PySem.W.Frag)(mg:Str→Option Value)(CRo:Addr)(cs:List Addr):Prop where
 road:mg "RoadError"=some (.ref CRo)
 ve:mg "ValueError"=none
 ex:∀ (i:Nat) {x:Str},xNm[i]?=some x→mg x=some (.ref (cs.getD i 0))
theorem ZdM {K:PySem.W.Frag}{mg:Str→Option Value}{CRo c0 c1 c2 c3 c4 c5 c6 c7 c8 c9 c10 c11 c12 c13 c14 c15 c16:Addr}(hr:mg "RoadError"=some (.ref CRo))(hv:mg "ValueError"=none)(h0:mg "Known"=some (.ref c0))(h1:mg "NoSetting"=some (.ref c1))(h2:mg "Missing"=some (.ref c2))(h3:mg "NoWorld"=some (.ref c3))(h4:mg "Busy"=some (.ref c4))(h5:mg "AtHome"=some (.ref c5))(h6:mg "NoToken"=some (.ref c6))(h7:mg "Used"=some (.ref c7))(h8:mg "Elsewhere"=some (.ref c8))(h9:mg "OutOfTurn"=some (.ref c9))(h10:mg "NoTable"=some (.ref c10))(h11:mg "NoNode"=some (.ref c11))(h12:mg "NoPlace"=some (.ref c12))(h13:mg "NotBehind"=some (.ref c13))(h14:mg "NoWatcher"=some (.ref c14))(h15:mg "NoTask"=some (.ref c15))(h16:mg "BadRow"=some (.ref c16)):TxtE K mg CRo [c0,c1,c2,c3,c4,c5,c6,c7,c8,c9,c10,c11,c12,c13,c14,c15,c16]:=⟨hr,hv,fun i x h=>match i,h with
 | 0,h=>by cases h;exact h0
 | 1,h=>by cases h;exact h1
 | 2,h=>by cases h;exact h2
 | 3,h=>by cases h;exact h3
 | 4,h=>by cases h;exact h4
 | 5,h=>by cases h;exact h5
 | 6,h=>by cases h;exact h6
 | 7,h=>by cases h;exact h7
 | 8,h=>by cases h;exact h8
 | 9,h=>by cases h;exact h9
 | 10,h=>by cases h;exact h10
 | 11,h=>by cases h;exact h11
 | 12,h=>by cases h;exact h12
 | 13,h=>by cases h;exact h13
 | 14,h=>by cases h;exact h14
 | 15,h=>by cases h;exact h15
 | 16,h=>by cases h;exact h16
 | n+17,h=>by simp [xNm] at h⟩
def RK (K:PySem.W.Frag)(CRo:Addr)(cs:List Addr)(C:Addr)(word:Str):Prop:=∃ j,RefK K CRo [cs.getD 0 0,cs.getD 1 0,cs.getD 2 0,cs.getD 3 0,cs.getD 4 0,cs.getD 5 0,cs.getD 6 0,cs.getD 7 0,cs.getD 8 0,cs.getD 9 0] [cs.getD 10 0,cs.getD 11 0,cs.getD 12 0,cs.getD 13 0] [cs.getD 14 0,cs.getD 15 0,cs.getD 16 0] C j∧xWd[j]?=some word
abbrev Uv (j:Nat):List Bool:=[decide (0=j),decide (1=j),decide (2=j),decide (3=j),decide (4=j),decide (5=j),decide (6=j),decide (7=j),decide (8=j),decide (9=j),false,false]
theorem kcnt:∀ j:Fin 10,((Uv j.val).filter id).length=1:=by decide
theorem kat:∀ j:Fin 10,(Uv j.val)[j.val]?=some true:=by decide
theorem kno:∀ j:Fin 10,∀ m:Fin 10,m.val < j.val→(Uv j.val)[m.val]?=some false:=by decide
section
variable {P:Program}{w:World}{K:PySem.W.Frag}{mg:Str→Option Value}{base:Heap}{CRo:Addr}{cs:List Addr}{kk:Nat}
abbrev nTo:List Str:=["_law_ask","_law_caught","_law_found","error","_law_kinds","_law_words"]
abbrev pnTo:List Str:=["_law_ask"]
theorem scTo:Zu nTo pnTo (Zi s_l_told):=⟨rfl,rfl,rfl,by decide +kernel,rfl,by decide +kernel,by decide +kernel⟩
theorem Zdr {f:Addr}{fd:FuncData}(F:Fun K "_law_told" "_law_told" s_l_told f fd)(T:Yh mg)(TE:TxtE K mg CRo cs):FnOk P w K mg base ZG (kk+1) f fd pnTo (WI P w K mg base kk (RK K CRo cs)):=by
 refine F.ok scTo (fun vs H Q E h=>?_) (fun cdv A outer s H vs Q E hr h=>?_)
 · obtain ⟨q,cs',cc,qual,T',rfl,_⟩:=h;rfl
 obtain ⟨q,cs',cc,qual,T',rfl,Z,has,hcc,hT⟩:=h
 refine' ⟨?t,?h,?r⟩
 case h =>
   conv=>arg 2;whnf
   with_reducible refine' (Ze ?h1 (Ze (ZcI (i:=3) ?h2 ?h3 ?h4 ?h5 ?h6 ?h7 ?h8 ?h9 ?h10 (fun pn Z EE W=>(Zl ?h11)) (fun ea Z=>(Zl ?h12))) (Ze (Yo ?h13 (Zl ?h14) ZV) (Ze ?h15 (Ze ?h16 (Ze ?h17 (Ze ?h18 (Ze ?h19 (Ze (Zx (i:=5) ?h20 ?h21 ?h22 (ZA ?h23) ?h24 ?h25) (Ze (Yo ?h26 (Zl ?h27) ZV) (Zl ?h28)))))))))))
   case h1=>exact WN (Yi (Zg YE (Zg YE Zb))) (Zbv rfl (Xw (Ys (i:=1) scTo.nd rfl (Or.inl rfl)) (Xw (Ys (i:=2) scTo.nd rfl (Or.inl rfl)) VZ)))
   case h2=>exact rfl
   case h3=>exact rfl
   case h4=>exact rfl
   case h5=>exact scTo.nd
   case h6=>exact rfl
   case h7=>exact rfl
   case h8=>exact rfl
   case h9=>exact TE.road
   case h10=>exact (by decide)
   case h11=>exact Zx (i:=2) scTo.nd rfl (Or.inl rfl) (Zeg (i:=0) (P:=P) (w:=w) (K:=K) (mg:=mg) (base:=base) rfl rfl rfl rfl rfl W hr rfl (.inl rfl))
   case h12=>exact Zx (i:=1) scTo.nd rfl (Or.inl rfl) (pv 3)
   case h13=>exact Zez (ZeJ (pv 1))
   case h14=>exact ZB (Yi (Zg Yd (Zg (pv 2) Zb)))
   case h15=>exact Zx (i:=4) scTo.nd rfl (Or.inl rfl) (ZA (Zg (Zk ZF rfl T.isinstance (by decide +kernel) (Zg (pv 1) (Zg (Zv (v:=.ref _) rfl (TE.ex 0 rfl) rfl) Zb))) (Zg (Zk ZF rfl T.isinstance (by decide +kernel) (Zg (pv 1) (Zg (Zv (v:=.ref _) rfl (TE.ex 1 rfl) rfl) Zb))) (Zg (Zk ZF rfl T.isinstance (by decide +kernel) (Zg (pv 1) (Zg (Zv (v:=.ref _) rfl (TE.ex 2 rfl) rfl) Zb))) Zb))))
   case h16=>exact Zx (i:=4) scTo.nd rfl (Or.inl rfl) (Zr XT (pv 4) (ZA (Zg (Zk ZF rfl T.isinstance (by decide +kernel) (Zg (pv 1) (Zg (Zv (v:=.ref _) rfl (TE.ex 3 rfl) rfl) Zb))) (Zg (Zk ZF rfl T.isinstance (by decide +kernel) (Zg (pv 1) (Zg (Zv (v:=.ref _) rfl (TE.ex 4 rfl) rfl) Zb))) (Zg (Zk ZF rfl T.isinstance (by decide +kernel) (Zg (pv 1) (Zg (Zv (v:=.ref _) rfl (TE.ex 5 rfl) rfl) Zb))) Zb)))))
   case h17=>exact Zx (i:=4) scTo.nd rfl (Or.inl rfl) (Zr XT (pv 4) (ZA (Zg (Zk ZF rfl T.isinstance (by decide +kernel) (Zg (pv 1) (Zg (Zv (v:=.ref _) rfl (TE.ex 6 rfl) rfl) Zb))) (Zg (Zk ZF rfl T.isinstance (by decide +kernel) (Zg (pv 1) (Zg (Zv (v:=.ref _) rfl (TE.ex 7 rfl) rfl) Zb))) (Zg (Zk ZF rfl T.isinstance (by decide +kernel) (Zg (pv 1) (Zg (Zv (v:=.ref _) rfl (TE.ex 8 rfl) rfl) Zb))) Zb)))))
   case h18=>exact Zx (i:=4) scTo.nd rfl (Or.inl rfl) (Zr XT (pv 4) (ZA (Zg (Zk ZF rfl T.isinstance (by decide +kernel) (Zg (pv 1) (Zg (Zv (v:=.ref _) rfl (TE.ex 9 rfl) rfl) Zb))) (Zg (Zk Us rfl T.isinstance (by decide +kernel) (Zg (pv 1) (Zg (Yi (UW (Zv (v:=.ref _) rfl (TE.ex 10 rfl) rfl) (UW (Zv (v:=.ref _) rfl (TE.ex 11 rfl) rfl) (UW (Zv (v:=.ref _) rfl (TE.ex 12 rfl) rfl) (UW (Zv (v:=.ref _) rfl (TE.ex 13 rfl) rfl) Zb rfl) rfl) rfl) rfl)) Zb))) Zb))))
   case h19=>exact Zx (i:=4) scTo.nd rfl (Or.inl rfl) (Zr XT (pv 4) (ZA (Zg (Zk Us rfl T.isinstance (by decide +kernel) (Zg (pv 1) (Zg (Yi (UW (Zv (v:=.ref _) rfl (TE.ex 14 rfl) rfl) (UW (Zv (v:=.ref _) rfl (TE.ex 15 rfl) rfl) (UW (Zv (v:=.ref _) rfl (TE.ex 16 rfl) rfl) Zb rfl) rfl) rfl)) Zb))) Zb)))
   case h20=>exact scTo.nd
   case h21=>exact rfl
   case h22=>exact (Or.inl rfl)
   case h23=>(refine' Zaa (vs:=[.str "known",.str "setting",.str "missing",.str "world",.str "busy",.str "home",.str "token",.str "used",.str "elsewhere",.str "turn",.str "odd",.str "odd"]) ?zz;case zz=>decide +kernel)
   case h24=>exact rfl
   case h25=>exact (by first | exact .inl rfl | exact .inr rfl)
   case h26=>exact PW.pt (Zaz (ZM Wa (WG PySem.F.plainAttrs_list PySem.F.slot_list_count PySem.F.type_list_count ZbI (pv 4) (Zg YJ Zb)) Zh (ZR _)) (UM (Zbi (Zbs (Zk ZF rfl T.isinstance (by decide +kernel) (Zg (pv 1) (Zg (Zeb rfl TE.ve (by decide +kernel) (v:=.ty "ValueError") rfl) Zb)))))))
   case h27=>exact ZB (Yi (Zg Yd (Zg Yd (Zg YE Zb))))
   case h28=>exact ZB (Yi (Zg Yd (Zg (Yj ZK (pv 5) (WG PySem.F.plainAttrs_list PySem.F.slot_list_index PySem.F.type_list_index ZbG (pv 4) (Zg YJ Zb)) (fun _ _=>rfl)) (Zg (ZdC (pv 1) rfl) Zb))))
 refine ⟨(by decide),fun t0 ht0=>⟨t0,_,rfl,SqT.of Zd,rfl,_,_,rfl,_,_,rfl,rfl,?_⟩⟩
 generalize hE:upd H t0 _=H0
 have s0:Same H H0:=by rw [← hE];exact Zf ht0 _
 clear hE
 refine ⟨q,cs',cc,qual,T',rfl,Z,has.same s0,s0 _ _ hcc,hT H0 _ _ s0 (fun v H' f hn=>?_) (fun C dx word what H' rk ed f hn=>?_)⟩
 · exact ⟨_,rfl,_,rfl,ZaE ⟨_,rfl,(by show 2≤sizeLine;decide),fun a ha=>f hn a _ (Zf ha _) Zd⟩⟩
 have f:=f hn
 have ed:=Yq hn _ _ ed
 generalize cov H' cs'=H1 at f ed
 obtain ⟨j,R,hw⟩:=rk
 refine ⟨C,dx,rfl,rfl,R.cat,fun ea hea=>?_⟩
 generalize hE:upd H1 ea _=H2
 have eea:H2 ea=some (XO ea C dx):=by rw [← hE];exact Zd
 have s2:Same H1 H2:=by rw [← hE];exact Zf hea _
 clear hE
 have ed2:=s2 _ _ ed
 have ty:∀ H',Same H2 H'→TyX K H' (.ref ea) (.ref C):=fun H' s=>.inr ⟨ea,C,dx,rfl,rfl,s _ _ eea,R.g⟩
 refine ⟨_,rfl,_,rfl,_,rfl,YG ?_⟩
 refine ⟨_,rfl,_,_,_,_,rfl,ty _ (fun _ _ e=>e),.inl ⟨_,rfl,R.is 0 (show 0 < 10 by decide)⟩,_,rfl,_,_,_,_,rfl,ty _ (fun _ _ e=>e),.inl ⟨_,rfl,R.is 1 (show 1 < 10 by decide)⟩,_,rfl,_,_,_,_,rfl,ty _ (fun _ _ e=>e),.inl ⟨_,rfl,R.is 2 (show 2 < 10 by decide)⟩,(by show 3≤sizeLine;decide),fun l1 hl1=>?_⟩
 generalize hE:upd H2 l1 _=H3
 have s3:Same H2 H3:=by rw [← hE];exact Zf hl1 _
 have e3:H3 l1=some (.lst [.bl (decide (0=j)),.bl (decide (1=j)),.bl (decide (2=j))]):=by rw [← hE];exact Zd
 clear hE
 refine ⟨_,rfl,_,rfl,_,_,_,_,rfl,ty _ (s3),.inl ⟨_,rfl,R.is 3 (show 3 < 10 by decide)⟩,_,rfl,_,_,_,_,rfl,ty _ (s3),.inl ⟨_,rfl,R.is 4 (show 4 < 10 by decide)⟩,_,rfl,_,_,_,_,rfl,ty _ (s3),.inl ⟨_,rfl,R.is 5 (show 5 < 10 by decide)⟩,(by show 3≤sizeLine;decide),fun l6 hl6=>⟨l1,l6,_,_,rfl,rfl,Zf hl6 _ _ _ e3,Zd,YY (show 6≤1000 by decide),fun l7 hl7=>?_⟩⟩
 generalize hE:upd (upd H3 l6 _) l7 _=H4
 have s4:Same H2 H4:=by rw [← hE];exact (s3.trans (Zf hl6 _)).trans (Zf hl7 _)
 have e4:H4 l7=some (.lst [.bl (decide (0=j)),.bl (decide (1=j)),.bl (decide (2=j)),.bl (decide (3=j)),.bl (decide (4=j)),.bl (decide (5=j))]):=by rw [← hE];exact Zd
 clear hE
 refine ⟨_,rfl,_,rfl,_,_,_,_,rfl,ty _ (s4),.inl ⟨_,rfl,R.is 6 (show 6 < 10 by decide)⟩,_,rfl,_,_,_,_,rfl,ty _ (s4),.inl ⟨_,rfl,R.is 7 (show 7 < 10 by decide)⟩,_,rfl,_,_,_,_,rfl,ty _ (s4),.inl ⟨_,rfl,R.is 8 (show 8 < 10 by decide)⟩,(by show 3≤sizeLine;decide),fun l8 hl8=>⟨l7,l8,_,_,rfl,rfl,Zf hl8 _ _ _ e4,Zd,YY (show 9≤1000 by decide),fun l9 hl9=>?_⟩⟩
 generalize hE:upd (upd H4 l8 _) l9 _=H5
 have s5:Same H2 H5:=by rw [← hE];exact (s4.trans (Zf hl8 _)).trans (Zf hl9 _)
 have e5:H5 l9=some (.lst [.bl (decide (0=j)),.bl (decide (1=j)),.bl (decide (2=j)),.bl (decide (3=j)),.bl (decide (4=j)),.bl (decide (5=j)),.bl (decide (6=j)),.bl (decide (7=j)),.bl (decide (8=j))]):=by rw [← hE];exact Zd
 clear hE
 refine ⟨_,rfl,_,rfl,_,_,_,_,rfl,ty _ s5,.inl ⟨_,rfl,R.is 9 (show 9 < 10 by decide)⟩,_,rfl,(by show 4≤sizeLine;decide),fun tp htp=>?_⟩
 have s5t:=s5.trans (Zf htp (.tup [.ref (cs.getD 10 0),.ref (cs.getD 11 0),.ref (cs.getD 12 0),.ref (cs.getD 13 0)]))
 refine ⟨ea,C,dx,tp,[cs.getD 10 0,cs.getD 11 0,cs.getD 12 0,cs.getD 13 0],false,rfl,s5t _ _ eea,R.g,Zd,R.no1,(by show 2≤sizeLine;decide),fun l10 hl10=>⟨l9,l10,_,_,rfl,rfl,Zf hl10 _ _ _ (Zf htp _ _ _ e5),Zd,YY (show 11≤1000 by decide),fun l11 hl11=>?_⟩⟩
 generalize hE:upd (upd (upd H5 tp _) l10 _) l11 _=H6
 have s6:Same H2 H6:=by rw [← hE];exact ((s5.trans (Zf htp _)).trans (Zf hl10 _)).trans (Zf hl11 _)
 have e6:H6 l11=some (.lst [.bl (decide (0=j)),.bl (decide (1=j)),.bl (decide (2=j)),.bl (decide (3=j)),.bl (decide (4=j)),.bl (decide (5=j)),.bl (decide (6=j)),.bl (decide (7=j)),.bl (decide (8=j)),.bl (decide (9=j)),.bl false]):=by rw [← hE];exact Zd
 clear hE
 refine ⟨_,rfl,_,rfl,(by show 3≤sizeLine;decide),fun tq htq=>?_⟩
 have s6t:=s6.trans (Zf htq (.tup [.ref (cs.getD 14 0),.ref (cs.getD 15 0),.ref (cs.getD 16 0)]))
 refine ⟨ea,C,dx,tq,[cs.getD 14 0,cs.getD 15 0,cs.getD 16 0],false,rfl,s6t _ _ eea,R.g,Zd,R.no2,(by show 1≤sizeLine;decide),fun l12 hl12=>⟨l11,l12,_,_,rfl,rfl,Zf hl12 _ _ _ (Zf htq _ _ _ e6),Zd,YY (show 12≤1000 by decide),fun l13 hl13=>?_⟩⟩
 generalize hE:upd (upd (upd H6 tq _) l12 _) l13 _=H7
 have s7:Same H2 H7:=by rw [← hE];exact ((s6.trans (Zf htq _)).trans (Zf hl12 _)).trans (Zf hl13 _)
 have e7:H7 l13=some (.lst ((Uv j).map V.bl)):=by rw [← hE];exact Zd
 clear hE
 refine ⟨(by show 12≤sizeLine;decide),fun lw hlw=>?_⟩
 generalize hE:upd H7 lw _=H8
 have s8:Same H7 H8:=by rw [← hE];exact Zf hlw _
 have ew:H8 lw=some (.lst ((xWd++(["odd","odd"]:List Str)).map V.str)):=by rw [← hE];exact Zd
 clear hE
 have e8:=s8 _ _ e7
 have hj:j < 10:=(List.getElem?_eq_some_iff.mp hw).1
 have k1:=kcnt ⟨j,hj⟩
 have k2:=kat ⟨j,hj⟩
 have k3:∀ m,m < j→(Uv j)[m]?=some false:=fun m hm=>kno ⟨j,hj⟩ ⟨m,by omega⟩ hm
 refine ⟨_,rfl,.inl ⟨rfl,_,SqL.of e8⟩,l13,Uv j,rfl,rfl,SqL.of e8,?_⟩
 rw [show ((Uv j).filter id).length=1 from k1]
 refine ⟨rfl,_,rfl,YG ?_⟩
 refine ⟨_,rfl,_,_,_,true,rfl,ty _ (s7.trans s8),.inr ⟨_,rfl,R.ve⟩,_,rfl,YG ?_⟩
 refine ⟨_,rfl,_,rfl,.inl ⟨rfl,_,SqL.of e8⟩,l13,Uv j,j,rfl,rfl,SqL.of e8,k2,k3,by omega,?_⟩
 refine ⟨lw,_,_,_,rfl,rfl,SqL.of ew,WW (by rw [List.getElem?_map,List.getElem?_append_left (show j < xWd.length from hj),hw];rfl),?_⟩
 refine ⟨_,rfl,ea,C,dx,_,_,rfl,s8 _ _ (s7 _ _ eea),s8 _ _ (s7 _ _ ed2),R.g,rfl,(by show 3≤sizeLine;decide),fun a ha=>?_⟩
 exact f a _ (((s2.trans s7).trans s8).trans (Zf ha _)) Zd
end
end K34
set_option maxHeartbeats 2000000
namespace L2
open PySem
theorem Uk {H:Hp}{a:Addr}{vs:List V}(e:H a=some (.tup vs))(h:∀ v∈vs,Ww v)(hl:vs.length≤1000):DataOf H (.ref a) (.tuple (vs.map Yp))∧(PyData.tuple (vs.map Yp)).showable=true∧(PyData.tuple (vs.map Yp)).shown.length≤sizeLine∧(PyData.tuple (vs.map Yp)).depth≤60:=by
 have s:=ZbM (ds:=vs.map Yp) (n:=200) (k:=0) fun d hd=>by
   obtain ⟨v,hv,rfl⟩:=List.mem_map.mp hd
   exact VA (h v hv) 0
 refine ⟨.tup e (XS h),s.sh,Nat.le_trans s.ln ?_,Nat.le_trans s.dp (by decide)⟩
 rw [List.length_map]
 have:vs.length * (200+2)≤1000 * 202:=Nat.mul_le_mul_right _ hl
 rw [sizeLine_eq];omega
theorem Vu {n:Nat}(h:n≤1000000):Ww (nI n):=.inr (show ((n:Int)).natAbs≤10 ^ 31 by omega)
theorem WK {x:Str}(h:Zaq (.str x)=true):Ww (.str x):=.inr (UO h)
theorem Wg {xs:List Nat}(h:∀ x∈xs,x≤1000000):∀ v∈xs.map nI,Ww v:=fun v hv=>by
 obtain ⟨x,hx,rfl⟩:=List.mem_map.mp hv
 exact Vu (h x hx)
theorem Vi {H:Hp}:∀ ns:List Nat,DatasOf H (ns.map nI) (ns.map fun n:Nat=>PyData.int (n:Int))
 | []=>.nil
 | n::r=>.cons (.int _) (Vi r)
theorem ZbL:∀ ns:List Nat,PyData.canLayAll0 (ns.map fun n:Nat=>PyData.int (n:Int))=true
 | []=>rfl
 | n::r=>by rw [List.map_cons,PyData.canLayAll0,ZbL r];rfl
theorem Zbu:∀ ns:List Nat,PyData.depthAll (ns.map fun n:Nat=>PyData.int (n:Int))=0
 | []=>rfl
 | n::r=>by rw [List.map_cons,PyData.depthAll,Zbu r];rfl
theorem Zao {H:Hp}{l:Addr}{ns:List Nat}(e:H l=some (.lst (ns.map nI))):DataOf H (.ref l) (.list (ns.map fun n:Nat=>PyData.int (n:Int)))∧(PyData.list (ns.map fun n:Nat=>PyData.int (n:Int))).canLay0=true∧(PyData.list (ns.map fun n:Nat=>PyData.int (n:Int))).depth≤60:=by
 refine ⟨.lst e (Vi ns),?_,?_⟩
 · rw [PyData.canLay0];exact ZbL ns
 · rw [PyData.depth,Zbu];decide
def VB (K:PySem.W.Frag)(ns:List Int):ZS:=fun a h=>SqL K h a (ns.map V.int)
theorem ZfM {K:PySem.W.Frag}{H H':Hp}{a:Addr}{xs:List V}(h:SqL K H a xs)(s:Same H H'):SqL K H' a xs:=by
 rcases h with (h | ⟨o,h⟩) | h
 · exact .inl (.inl (s _ _ h))
 · exact .inl (.inr ⟨o,s _ _ h⟩)
 · exact .inr h
instance {K:PySem.W.Frag} {ns:List Int}:Up (VB K ns):=⟨fun h s=>ZfM h s⟩
theorem ZaH {K:PySem.W.Frag}{H:Hp}{a Pl:Addr}{ns:List Int}{q:Str}(hS:SqL K H a (ns.map V.int))(hL:LamsAt H Pl q):Sep [(Pl,Wt q),(a,VB K ns)] H:=by
 obtain ⟨ts,etb,ef⟩:=hL
 refine ⟨some_of H [Pl],WZ,⟨ts,(Xm (by simp)).trans etb,fun p hp=>Wc (ef p hp) rfl⟩,Wl H (some_of H [Pl]),fun b o e=>e,?_,trivial⟩
 rcases hS.obj with z | ⟨o,e,nt,z⟩
 · exact z _
 · refine z _ (cut_some.mpr ⟨e,fun u y=>?_⟩)
   cases m:Ym u with
   | false=>rfl
   | true =>
     have:=Wr y m
     rw [List.mem_singleton.mp this,etb] at e
     cases e
     exact absurd rfl (nt _)
end L2
set_option maxHeartbeats 4000000
namespace K34
open PySem L2
abbrev qL:Str:=(("law":Str)++".<locals>.")++"<lambda>"
structure StOk (many:Nat)(st:List Nat)(s:Hs):Prop where
 hd:st.head?=some 0
 len:st.length≤20
 lt:∀ x∈st,x < many
 ins:s.ins=st
 sp:s.spots=List.replicate many 0
theorem StOk.last {many:Nat}{st:List Nat}{s:Hs}(h:StOk many st s):∃ ys k,st=ys++[k]∧st.getLast?=some k:=by
 have hn:st≠[]:=fun z=>by have:=h.hd;rw [z] at this;cases this
 exact ⟨st.dropLast,st.getLast hn,(List.dropLast_concat_getLast hn).symm,by rw [List.getLast?_eq_some_getLast hn]⟩
theorem ZbH {k m:Nat}(h:k < m):(List.replicate m 0)[k]?=some 0:=by rw [List.getElem?_replicate,if_pos h]
theorem ZbC {n:Nat}(h:n≤1000000):((n:Int)).natAbs.log2 < 1920:=by
 rw [Int.natAbs_natCast]
 by_cases z:n=0
 · subst z;decide
 · exact (Nat.log2_lt z).mpr (Nat.lt_of_le_of_lt h (Nat.lt_of_lt_of_le (show 1000000 < 2 ^ 20 by decide) (Nat.pow_le_pow_right (by decide) (by decide))))
theorem Xn (v:V):(!decide (v=v))=false:=by simp
theorem Zai (st:List Nat):Wm (st.map nI) none (some (if (((st.map nI).length:Nat):Int) - 1 > 1 then (((st.map nI).length:Nat):Int) - 1 else 1))=(st.take (max 1 (st.length - 1))).map nI:=by
 rw [List.length_map]
 have e:(if ((st.length:Nat):Int) - 1 > 1 then ((st.length:Nat):Int) - 1 else 1)=((max 1 (st.length - 1):Nat):Int):=by split<;>omega
 rw [e,Zcb,List.map_take]
section
variable {P:Program}{w:World}{K:PySem.W.Frag}{mg:Str→Option Value}{base:Heap}{CH CR CS CT CRo CB CA:Addr}{cs:List Addr}
def UL (K:PySem.W.Frag)(Pl:Addr):Sp:=fun vs H Q _=>∃(a:Addr)(ns:List Int),vs=[.ref a]∧SqL K H a (ns.map V.int)∧ns.length≤63∧LamsAt H Pl qL∧∀ H',Q (.bl true) H'
abbrev nLaw:List Str:=["_law_script","_law_k","_law_box_here","_law_hall","_law_many","_law_turn","_law_stack","_law_fond","_law_world","_law_leaves","_law_told_here","_law_found","_law_row"]
abbrev ZcU:List Str:=["_law_script"]
theorem scLaw:Zu nLaw ZcU (Zi s_law):=⟨rfl,rfl,rfl,by decide +kernel,rfl,by decide +kernel,by decide +kernel⟩
theorem Zer {f c Pl:Addr}{fd:FuncData}(F:FunC K "law" "law" s_law f fd c Pl)(hBm:Xe base mg)(T:Yh mg)(TH:YR K CH)(DT:DTk P w K mg base 1)(DB:Def P w K mg base 15 "_law_box" ["_law_script","_law_k"] (Vy K))(DHl:WX P w K mg base 14 CH "Hall" ["self"] (Zab K CH CR CS CT))
   (DH_copy:DefM P w K mg base 15 CH "copy" ZaF (Zby K CH CR CS CT)) (DH_worlds:DefM P w K mg base 15 CH "worlds" ZaX (ZcZ K CH CR CS CT)) (DH_now:DefM P w K mg base 15 CH "now" Uz (ZaJ K CH CR CS CT)) (DH_entered:DefM P w K mg base 15 CH "entered" ZaM (ZcY K CH CR CS CT)) (DH_place:DefM P w K mg base 15 CH "place" UH (Zat K CH CR CS CT))
   (DH_enter:XX P w K mg base 5 CH "enter" UI (ZaB K CH CR CS CT CB)) (DH_leave:XX P w K mg base 5 CH "leave" Uy (ZaU K CH CR CS CT CA)) (rB:RK K CRo cs CB "busy") (rA:RK K CRo cs CA "home")
   (DTo:Def P w K mg base 15 "_law_told" ["_law_ask"] (WI P w K mg base 6 (RK K CRo cs))):FnOk P w K mg base ZG 16 f fd ZcU (UL K Pl):=by
 refine F.ok scLaw (fun vs H Q E h=>?_) (fun A outer s H vs Q E hr h=>?_)
 · obtain ⟨a,ns,rfl,_⟩:=h;rfl
 obtain ⟨a,ns,rfl,hS,hl,hL,q⟩:=h
 have hr1:=hr.mono (show 1≤15 by decide)
 refine' ⟨?t,?h,?r⟩
 case h =>
   conv=>arg 2;whnf
   with_reducible refine' (Ze (UN ?h1 ?h2 ?h3 ?h4 (Ze ?h5 (Ze ?h6 (Ze (UN ?h7 ?h8 ?h9 ?h10 (Zl ?h11) ?h12) (Ze ?h13 (Ze (UN ?h14 ?h15 ?h16 ?h17 (Ze ?h18 (VU ?h19 (VU (Yo ?h20 (Ze ?h21 (Ze ?h22 (Zl ?h23))) (Ze ?h24 (Ze ?h25 (Zl ?h26)))) (Ze (Yo ?h27 (Zl ?h28) ZV) (Ze ?h29 (Ze (Yo ?h30 (Zl ?h31) ZV) (Ze ?h32 (Zl ?h33)))))))) ?h34) (Ze (Yo ?h35 (Zl ?h36) ZV) (Zl (Yo ?h37 (Zl ?h38) ZV)))))))) ?h39) (Zl ?h40))
   case h1=>exact PassesOwn.never
   case h2=>exact rfl
   case h3=>exact YZ rfl T.range (Zg (Zr ZZ Zh (Zk (ZbA rfl) rfl T.min (by decide +kernel) (Zg Zh (Zg (Zk ZC rfl T.len PySem.boot_len (Zg (pv 0) Zb)) Zb)))) Zb)
   case h4=>exact Ys (i:=1) scLaw.nd rfl (Or.inl rfl)
   case h5=>exact Zx (i:=2) scLaw.nd rfl (Or.inl rfl) (XR DB hr (Zg (pv 0) (Zg (pv 1) Zb)))
   case h6=>exact WN (Yi (Zg (UF DHl hr) (Zg (Zr ZZ Zh (XR DT hr1 (Zg (pv 2) (Zg Zh Zb)))) Zb))) (Zbv rfl (Xw (Ys (i:=3) scLaw.nd rfl (Or.inr rfl)) (Xw (Ys (i:=4) scLaw.nd rfl (Or.inl rfl)) VZ)))
   case h7=>exact PassesOwn.never
   case h8=>exact rfl
   case h9=>exact YZ rfl T.range (Zg (Zr Vn (pv 4) Zh) Zb)
   case h10=>exact Ys (i:=5) scLaw.nd rfl (Or.inl rfl)
   case h11=>exact Yr (Vf DH_copy TH.cl hr (pv 3) (Zg (XR DT hr1 (Zg (pv 2) (Zg (Xs DH_worlds TH.cl hr (pv 3)) Zb))) Zb))
   case h12=>exact fun _=>rfl
   case h13=>exact ZeP (i:=6) (j:=7) rfl scLaw.nd rfl rfl (by decide) rfl rfl (Zg (ZA (Zg Zh Zb)) (Zg (Zr ZZ Zh (XR DT hr1 (Zg (pv 2) (Zg Zh Zb)))) Zb)) rfl
   case h14=>exact PassesOwn.never
   case h15=>exact rfl
   case h16=>exact YZ rfl T.range (Zg (XR DT hr1 (Zg (pv 2) (Zg Zh Zb))) Zb)
   case h17=>exact Ys (i:=5) scLaw.nd rfl (Or.inl rfl)
   case h18=>exact Zx (i:=8) scLaw.nd rfl (Or.inr rfl) (XR DT hr1 (Zg (pv 2) (Zg (pv 4) Zb)))
   case h19=>exact Zx (i:=9) scLaw.nd rfl (Or.inl rfl) (Zgd (Wf UJ (Zk ZC rfl T.len PySem.boot_len (Zg (pv 6) Zb)) Zh (ZR _)) (Zfo (Wf UJ (XR DT hr1 (Zg (pv 2) (Zg (Zr ZZ (pv 7) Zh) Zb))) Zh (ZR _))))
   case h20=>exact Zbs (pv 9)
   case h21=>exact Zx (i:=10) scLaw.nd rfl (Or.inl rfl) (Vv (ZM UJ (Zk ZC rfl T.len PySem.boot_len (Zg (pv 6) Zb)) Zh (ZR _)) (Yi (Zg Yd (Zg Yd (Zg Zh Zb)))) (Yi (Zg Yd (Zg YE Zb))))
   case h22=>exact Zx (i:=11) scLaw.nd rfl (Or.inl rfl) (Zak (c:=c) (Pl:=Pl) DTo hr (LamOk.of s_law rfl rfl (by decide +kernel)) rfl F.hd hBm (fun _ _ _ _ _ _ _ _ _ hrL W=>(ZeB W DH_leave TH.cl hrL (pv 3))))
   case h23=>exact Zx (i:=6) scLaw.nd rfl (Or.inl rfl) (Zco Zdx (pv 6) Zdu (Zea (Zk (Zbo rfl) rfl T.max (by decide +kernel) (Zg Zh (Zg (Zr Vn (Zk ZC rfl T.len PySem.boot_len (Zg (pv 6) Zb)) Zh) Zb)))))
   case h24=>exact Zx (i:=10) scLaw.nd rfl (Or.inl rfl) (Vv (ZM Uf (pv 8) (pv 6) rfl) (Yi (Zg Yd (Zg Yd (Zg (pv 8) Zb)))) (Yi (Zg Yd (Zg YE Zb))))
   case h25=>exact Zx (i:=11) scLaw.nd rfl (Or.inl rfl) (Zak (c:=c) (Pl:=Pl) DTo hr (LamOk.of s_law rfl rfl (by decide +kernel)) rfl F.hd hBm (fun _ _ _ _ _ _ _ _ _ hrL W=>(Zfu W DH_enter TH.cl hrL (pv 3) (Zg (pv 8) Zb))))
   case h26=>exact Zx (i:=6) scLaw.nd rfl (Or.inl rfl) (Zr XT (pv 6) (Zr ZbO (ZA (Zg (pv 8) Zb)) (Xa Uw rfl T.int (by decide +kernel) (Zg (Wf Vp (pv 8) (pv 6) rfl) Zb))))
   case h27=>exact PW.pt (Zaz (ZM Wa (Zk (Yg hr.gd hr.units) rfl T.repr (by decide +kernel) (Zg (pv 11) Zb)) (Zk (Yg hr.gd hr.units) rfl T.repr (by decide +kernel) (Zg (pv 10) Zb)) (ZR _)) (UM (ZM Wa (Zk (Yg hr.gd hr.units) rfl T.repr (by decide +kernel) (Zg (Xs DH_now TH.cl hr (pv 3)) Zb)) (Xa ZbD rfl T.str (by decide +kernel) (Zg (Yj ZK (pv 6) (Zdg Zbk Zh) (fun _ _=>rfl)) Zb)) (ZR _))))
   case h28=>exact ZB YJ
   case h29=>exact Zx (i:=12) scLaw.nd rfl (Or.inl rfl) (Xs DH_entered TH.cl hr (pv 3))
   case h30=>exact ZM Wa (Zk (Yg hr.gd hr.units) rfl T.repr (by decide +kernel) (Zg (pv 12) Zb)) (Zk (Yg hr.gd hr.units) rfl T.repr (by decide +kernel) (Zg (pv 6) Zb)) (ZR _)
   case h31=>exact ZB YJ
   case h32=>exact Yr (WG PySem.F.plainAttrs_list PySem.F.slot_list_append PySem.F.type_list_append Xd (pv 12) (Zg Zh Zb))
   case h33=>exact Yr (Zbn PySem.F.plainAttrs_list PySem.F.slot_list_reverse PySem.F.type_list_reverse ZaR (pv 12))
   case h34=>exact fun _=>rfl
   case h35=>exact PW.pt (Zaz (ZM Wa (Zk (Yg hr.gd hr.units) rfl T.repr (by decide +kernel) (Zg (Xs DH_entered TH.cl hr (pv 3)) Zb)) (Zk (Yg hr.gd hr.units) rfl T.repr (by decide +kernel) (Zg (pv 6) Zb)) (ZR _)) (UM (ZM Wa (Xs DH_worlds TH.cl hr (pv 3)) (pv 4) (ZR _))))
   case h36=>exact ZB YJ
   case h37=>exact ZM (ZeQ hr.units) (ZdA (CompOk.of nLaw s_law rfl rfl (by decide +kernel)) rfl (YZ rfl T.range (Zg (pv 4) Zb))  (fun _ _ _ _ _=>Vf DH_place TH.cl hr (pv 3) (Zg (pv 13) Zb))) (Zr ZbO (ZA (Zg Zh Zb)) (pv 4)) (ZR _)
   case h38=>exact ZB YJ
   case h39=>exact fun _=>rfl
   case h40=>exact ZB YJ
 have S:=ZaH hS hL
 clear hL
 refine ⟨_,rfl,a,_,rfl,.inl hS,_,_,rfl,_,_,rfl,rfl,?_⟩
 rw [List.length_map]
 generalize hm:(1:Int)+(if ((ns.length:Nat):Int) < 2 then ((ns.length:Nat):Int) else 2)=m
 have hm9:0≤m∧m≤9:=by rw [← hm];split<;>omega
 refine ⟨m,congrArg (fun z=>[V.int z]) hm,by omega,by omega,?_⟩
 refine XI (fun i σ H'=>∃ x1 x2 x3 x4 x5 x6 x7 x8 x9 x10 x11 x12,σ=[some (.ref a),x1,x2,x3,x4,x5,x6,x7,x8,x9,x10,x11,x12]∧Sep [(Pl,Wt qL),(a,VB K ns)] H') ⟨_,_,_,_,_,_,_,_,_,_,_,_,rfl,S⟩ ?_ (fun σ H' _=>q H')
 rintro i0 σ H0 hi0 ⟨x1,x2,x3,x4,x5,x6,x7,x8,x9,x10,x11,x12,rfl,S0⟩
 refine ⟨_,rfl,_,rfl,a,ns,_,_,rfl,S0.get a,S0,by omega,by omega,fun p H1 s1 S1=>?_⟩
 intro h dx hh hdx hne
 refine ⟨h,dx,_,_,rfl,rfl,hh,hdx,hne,S1,fun H2 S2=>⟨rfl,?_⟩⟩
 refine ⟨_,rfl,p,_,40,_,rfl,S2.pull p,by omega,by decide,by decide,fun r1 H3 a0 a1 S3=>⟨_,_,rfl,rfl,(by show 2≤sizeLine;decide),fun t0 ht0=>?_⟩⟩
 generalize hE:upd H3 t0 _=H4
 have S4:=(S3.newE ht0 hE)
 clear hE
 refine ⟨t0,_,rfl,SqT.of (S4.get t0),rfl,_,_,rfl,_,_,rfl,rfl,?_⟩
 have S5:=(S4.drop t0).pull p
 obtain ⟨many,hmany⟩:∃ z:Nat,r1=(z:Int):=⟨r1.toNat,by omega⟩
 subst hmany
 refine ⟨_,rfl,_,_,rfl,rfl,(many:Int),congrArg (fun z=>[V.int z]) (show 1+(many:Int) - 1=_ by omega),by omega,by omega,?_⟩
 refine XI (fun i σ H'=>∃ x5 n,σ=[some (.ref a),some (.int (0+(i0:Int))),some (.ref p),some (.ref h),some (.int (1+(many:Int))),x5,x6,x7,x8,x9,x10,x11,x12]∧Sep [(p,Bx n),(h,YU K CH CR CS CT { hs0 with spots:=List.replicate (i+1) 0 }),(Pl,Wt qL),(a,VB K ns)] H'∧n=1+i) ⟨_,_,rfl,S5,rfl⟩ ?_ ?_
 · rintro i σ H6 hi ⟨x5',n,rfl,S6,rfl⟩
   obtain ⟨d,r,sp,il,tk,Sh⟩:=(S6.get h)
   obtain ⟨dx6,ob6⟩:=Sh.get h
   refine ⟨_,rfl,h,dx6,_,rfl,ob6,ZY (by decide +kernel),_,rfl,_,rfl,h,dx6,_,rfl,ob6,ZY (by decide +kernel),h,_,rfl,S6.get h,p,_,_,_,rfl,S6,by omega,?_,?_,fun r2 H7 b0 b1 S7=>?_⟩
   · show (0:Int) < ((List.replicate (i+1) 0).length:Nat);rw [List.length_replicate];omega
   · show (((List.replicate (i+1) 0).length:Nat):Int) < _;rw [List.length_replicate];omega
   obtain ⟨k,rfl⟩:∃ z:Nat,r2=(z:Int):=⟨r2.toNat,by omega⟩
   have hk:k < i+1:=by
     have b1:(k:Int) < ((List.replicate (i+1) 0).length:Nat):=b1
     rw [List.length_replicate] at b1;omega
   refine ⟨h,_,k,0,_,rfl,S7.pull h,ZbH hk,?_,fun H8 S8=>?_⟩
   · show (List.replicate (i+1) 0).length≤1000;rw [List.length_replicate];omega
   refine ⟨_,_,rfl,?_,rfl⟩
   have e:List.replicate (i+1) 0++[0]=List.replicate (i+1+1) 0:=(List.replicate_succ' ..).symm
   have S9:=S8.pull p
   dsimp only at S9
   rw [e] at S9
   exact S9.le (by omega)
 rintro σ H6 ⟨x5',n,rfl,S6,rfl⟩
 rw [show ((many:Int)).toNat=many by omega] at S6
 refine ⟨(by show 1≤sizeLine;decide),fun sl hsl=>?_⟩
 generalize hE:upd H6 sl _=H7
 have S7:=(S6.newE hsl hE).pull p
 clear hE
 refine ⟨_,rfl,p,_,4,_,rfl,S7,by omega,by decide,by decide,fun fo H8 f0 f1 S8=>⟨_,_,rfl,rfl,_,_,rfl,?_⟩⟩
 refine ⟨_,rfl,p,_,81,_,rfl,S8,by omega,by decide,by decide,fun tu H9 g0 g1 S9=>⟨tu,rfl,by omega,by omega,?_⟩⟩
 refine XI (fun i σ H'=>∃ x5 x8 x9 x10 x11 x12 sl st s n,σ=[some (.ref a),some (.int (0+(i0:Int))),some (.ref p),some (.ref h),some (.int (1+(many:Int))),x5,some (.ref sl),some (.int (1+fo)),x8,x9,x10,x11,x12]∧Sep [(p,Bx n),(h,YU K CH CR CS CT s),(Pl,Wt qL),(sl,ZU (st.map nI)),(a,VB K ns)] H'∧StOk (many+1) st s∧n≤1000+10 * i)
   ⟨_,_,_,_,_,_,sl,[0],_,_,rfl,(((S9.pull sl).pull Pl).pull h).pull p,⟨rfl,(by decide),(fun x hx=>by rw [List.mem_singleton.mp hx];omega),rfl,rfl⟩,by omega⟩ ?_ ?_
 · rintro i σ H10 hi ⟨x5,x8,x9,x10,x11,x12,sl,st,s,n,rfl,S10,O,hn⟩
   refine ⟨_,rfl,_,rfl,p,_,_,_,rfl,S10,by omega,by omega,by omega,fun wd H11 w0 w1 S11=>?_⟩
   obtain ⟨wn,rfl⟩:∃ z:Nat,wd=(z:Int):=⟨wd.toNat,by omega⟩
   have hwn:wn < many+1:=by omega
   refine ⟨fun σ' H'=>∃ lv n',σ'=[some (.ref a),some (.int (0+(i0:Int))),some (.ref p),some (.ref h),some (.int (1+(many:Int))),some (.int (0+(i:Int))),some (.ref sl),some (.int (1+fo)),some (nI wn),some (.bl lv),x10,x11,x12]∧Sep [(p,Bx n'),(h,YU K CH CR CS CT s),(Pl,Wt qL),(sl,ZU (st.map nI)),(a,VB K ns)] H'∧(lv=false→st.length < 20)∧n'≤n+5,?_,?_⟩
   · refine ⟨_,rfl,sl,_,rfl,.inl (SqL.of (S11.get sl)),rfl,_,rfl,?_⟩
     rw [List.length_map]
     have:=O.len
     refine WT (fun c=>?_) (fun c=>?_)
     · exact ⟨_,_,rfl,S11,(fun z=>by cases z),by omega⟩
     · have c2:st.length≠20:=fun z=>c (decide_eq_true (by rw [z];rfl))
       refine ⟨_,rfl,_,rfl,_,_,rfl,rfl,p,_,_,_,rfl,S11,by omega,by omega,by omega,fun r3 H12 c0 c1 S12=>⟨rfl,?_⟩⟩
       exact ⟨_,_,rfl,S12,fun _=>by omega,by omega⟩
   rintro σ1 H12 ⟨lv,n1,rfl,S12,hlv,hn1⟩
   refine ⟨fun σ' H'=>∃ t1 t2 vs sl' st' s',σ'=[some (.ref a),some (.int (0+(i0:Int))),some (.ref p),some (.ref h),some (.int (1+(many:Int))),some (.int (0+(i:Int))),some (.ref sl'),some (.int (1+fo)),some (nI wn),some (.bl lv),some (.ref t2),some (.ref t1),x12]∧Sep [(p,Bx n1),(h,YU K CH CR CS CT s'),(Pl,Wt qL),(sl',ZU (st'.map nI)),(a,VB K ns)] H'∧StOk (many+1) st' s'∧H' t1=some (.tup vs)∧H' t2=some (.tup vs)∧(∀ v∈vs,Ww v)∧vs.length≤3,?_,?_⟩
   · refine ⟨_,rfl,_,rfl,?_⟩
     refine WT (fun c=>?_) (fun c=>?_)
     · obtain ⟨ys,k,hst,hlast⟩:=O.last
       by_cases h1:st.length=1
       · have hys:ys=[]:=List.length_eq_zero_iff.mp (by rw [hst,List.length_append] at h1;simpa using h1)
         subst hys
         have hk0:k=0:=by have:=O.hd;rw [hst] at this;simpa using this
         subst hk0
         refine ⟨_,rfl,sl,_,rfl,.inl (SqL.of (S12.get sl)),rfl,_,rfl,?_⟩
         rw [List.length_map,h1]
         refine ZaE ⟨(by show 3≤sizeLine;decide),fun t2 ht2=>?_⟩
         generalize hE:upd H12 t2 _=H13
         have S13:=(S12.newE ht2 hE)
         have e13:=S13.get t2
         clear hE
         refine ⟨S13.get Pl,fun H14 Qc Ec gr L1 hq he=>?_⟩
         have S14:=((S13.drop t2).pull Pl).grow gr L1
         have e14:H14 t2=some (.tup [.str "refused",.str "home",.int 0]):=gr _ _ (fun z=>by obtain ⟨ts,z1,_⟩:=S13.get Pl;rw [← z,e13] at z1;cases z1) e13
         obtain ⟨d,r,sp,il,tk,Sh⟩:=(S14.get h)
         obtain ⟨dx4,ob4⟩:=Sh.get h
         refine ⟨_,rfl,h,dx4,_,rfl,ob4,ZY (by decide +kernel),h,s,[],0,_,rfl,S14.pull h,by rw [O.ins];exact hst,by rw [O.ins,h1];decide,fun _ dx H15 s15 ed=>?_,fun z=>absurd rfl z⟩
         refine he CA dx "home" _ H15 rA ed fun t1 H16 s16 e16=>?_
         have S16:=S14.mono (s15.trans s16)
         refine ⟨_,rfl,_,rfl,sl,_,rfl,.inl (SqL.of (S16.get sl)),_,_,rfl,rfl,_,_,rfl,_,rfl,sl,_,rfl,SqL.of (S16.get sl),fun sl' hsl'=>?_⟩
         dsimp only
         rw [Zai]
         generalize hE:upd H16 sl' _=H17
         have S17:=(((((S16.newE hsl' hE).drop sl).pull sl').pull Pl).pull h).pull p
         have w17:Same H16 H17:=by rw [← hE];exact Zf hsl' _
         clear hE
         refine ⟨t1,t2,[.str "refused",.str "home",.int 0],sl',st,s,rfl,?_,O,w17 _ _ e16,w17 _ _ (s16 _ _ (s15 _ _ e14)),?_,(by decide)⟩
         · rw [h1] at S17;rw [hst] at S17 ⊢;exact S17
         · intro v hv
           have all:([.str "refused",.str "home",.int 0]:List V).all Zaq=true:=by decide +kernel
           exact .inr (UO (List.all_eq_true.mp all v hv))
       · have hys:ys≠[]:=fun z=>h1 (by rw [hst,z];rfl)
         have hl2:2≤st.length:=by
           have:=List.length_pos_iff.mpr hys
           rw [hst,List.length_append];simp;omega
         refine ⟨_,rfl,sl,_,rfl,.inl (SqL.of (S12.get sl)),rfl,_,rfl,?_⟩
         rw [List.length_map,show decide (V.int ((st.length:Nat):Int)=V.int 1)=false from decide_eq_false fun z=>h1 (by have:=V.int.inj z;omega)]
         refine YG ⟨(by show 2≤sizeLine;decide),fun t2 ht2=>?_⟩
         generalize hE:upd H12 t2 _=H13
         have S13:=(S12.newE ht2 hE)
         have e13:=S13.get t2
         clear hE
         refine ⟨S13.get Pl,fun H14 Qc Ec gr L1 hq he=>?_⟩
         have S14:=(S13.pull Pl).grow gr L1
         obtain ⟨d,r,sp,il,tk,Sh⟩:=(S14.get h)
         obtain ⟨dx4,ob4⟩:=Sh.get h
         refine ⟨_,rfl,h,dx4,_,rfl,ob4,ZY (by decide +kernel),h,s,ys,k,_,rfl,S14.pull h,by rw [O.ins];exact hst,by rw [O.ins];have:=O.len;omega,fun z=>absurd z hys,fun _ H15 S15=>?_⟩
         refine hq _ H15 fun t1 H16 s16 e16=>?_
         have S16':=S15.mono s16
         have e16b:=S16'.get t2
         have S16:=S16'.drop t2
         refine ⟨_,rfl,_,rfl,sl,_,rfl,.inl (SqL.of (S16.get sl)),_,_,rfl,rfl,_,_,rfl,_,rfl,sl,_,rfl,SqL.of (S16.get sl),fun sl' hsl'=>?_⟩
         dsimp only
         rw [Zai]
         generalize hE:upd H16 sl' _=H17
         have S17:=(((((S16.newE hsl' hE).drop sl).pull sl').pull Pl).pull h).pull p
         have w17:Same H16 H17:=by rw [← hE];exact Zf hsl' _
         clear hE
         refine ⟨t1,t2,[.str "told",.non],sl',ys,{ s with ins:=ys },rfl,?_,⟨?_,?_,?_,rfl,O.sp⟩,w17 _ _ e16,w17 _ _ e16b,?_,(by decide)⟩
         · have e:st.take (max 1 (st.length - 1))=ys:=by
             have:max 1 (st.length - 1)=ys.length:=by rw [hst,List.length_append] at hl2 ⊢;simp at hl2 ⊢;omega
             rw [this,hst];simp
           rw [e] at S17;exact S17
         · have:=O.hd;rw [hst] at this;cases ys with
           | nil=>exact absurd rfl hys
           | cons y r=>exact this
         · have:=O.len;rw [hst,List.length_append] at this;omega
         · exact fun x hx=>O.lt x (by rw [hst];exact List.mem_append_left _ hx)
         · intro v hv
           rcases List.mem_cons.mp hv with rfl | hv
           · exact WK (by decide +kernel)
           · rw [List.mem_singleton.mp hv];exact .inl rfl
     · have hlt:st.length < 20:=hlv (by cases lv with | true=>exact absurd rfl c | false=>rfl)
       have hwl:wn < s.spots.length:=by rw [O.sp,List.length_replicate];exact hwn
       by_cases hin:wn∈st
       · refine ⟨_,rfl,_,rfl,sl,_,rfl,.inl (SqL.of (S12.get sl)),rfl,Xl _,_,rfl,?_⟩
         rw [if_neg (by decide),We,decide_eq_true hin]
         refine ZaE ⟨_,rfl,(by show 3≤sizeLine;decide),fun t2 ht2=>?_⟩
         generalize hE:upd H12 t2 _=H13
         have S13:=(S12.newE ht2 hE)
         clear hE
         refine ⟨S13.get Pl,fun H14 Qc Ec gr L1 hq he=>?_⟩
         have S14:=(S13.pull Pl).grow gr L1
         obtain ⟨d,r,sp,il,tk,Sh⟩:=(S14.get h)
         obtain ⟨dx4,ob4⟩:=Sh.get h
         refine ⟨_,rfl,h,dx4,_,rfl,ob4,ZY (by decide +kernel),_,rfl,h,s,wn,_,rfl,S14.pull h,hwl,by rw [O.ins];omega,fun _ dx H15 s15 ed=>?_,fun z=>absurd (by rw [O.ins];exact hin) z⟩
         refine he CB dx "busy" _ H15 rB ed fun t1 H16 s16 e16=>?_
         have S16':=S14.mono (s15.trans s16)
         have e16b:=S16'.get t2
         have S16:=S16'.drop t2
         refine ⟨_,rfl,_,rfl,(by show 1≤sizeLine;decide),fun lx hlx=>⟨_,rfl,_,rfl,sl,_,rfl,.inl (SqL.of (Zf hlx _ _ _ (S16.get sl))),rfl,Xl _,.inr ⟨_,rfl,?_⟩⟩⟩
         rw [if_pos rfl,We,decide_eq_true hin]
         refine ⟨lx,_,_,rfl,rfl,Zd,by decide,by decide,(by show 1 * _≤sizeLine;decide),fun ly hly=>⟨sl,ly,_,_,rfl,rfl,Zf hly _ _ _ (Zf hlx _ _ _ (S16.get sl)),Zd,YY (show _≤1000 by have:=O.len;rw [List.length_map];simp;omega),fun sl' hsl'=>?_⟩⟩
         generalize hE:upd (upd (upd H16 lx _) ly _) sl' _=H17
         have w17:Same H16 H17:=by rw [← hE];exact ((Zf hlx _).trans (Zf hly _)).trans (Zf hsl' _)
         have S17:L2.Sep ((sl',ZU (st.map nI++[]))::_) H17:=(S16.mono ((Zf hlx _).trans (Zf hly _))).newE hsl' hE
         clear hE
         have S18:=((((S17.drop sl).pull sl').pull Pl).pull h).pull p
         refine ⟨t1,t2,[.str "refused",.str "busy",nI wn],sl',st,s,rfl,?_,O,w17 _ _ e16,w17 _ _ e16b,?_,(show 3≤3 by decide)⟩
         · rw [List.append_nil] at S18;exact S18
         · intro v hv
           rcases List.mem_cons.mp hv with rfl | hv
           · exact WK (by decide +kernel)
           rcases List.mem_cons.mp hv with rfl | hv
           · exact WK (by decide +kernel)
           · rw [List.mem_singleton.mp hv];exact Vu (by omega)
       · refine ⟨_,rfl,_,rfl,sl,_,rfl,.inl (SqL.of (S12.get sl)),rfl,Xl _,_,rfl,?_⟩
         rw [if_neg (by decide),We,decide_eq_false hin]
         refine YG ⟨(by show 2≤sizeLine;decide),fun t2 ht2=>?_⟩
         generalize hE:upd H12 t2 _=H13
         have S13:=(S12.newE ht2 hE)
         clear hE
         refine ⟨S13.get Pl,fun H14 Qc Ec gr L1 hq he=>?_⟩
         have S14:=(S13.pull Pl).grow gr L1
         obtain ⟨d,r,sp,il,tk,Sh⟩:=(S14.get h)
         obtain ⟨dx4,ob4⟩:=Sh.get h
         refine ⟨_,rfl,h,dx4,_,rfl,ob4,ZY (by decide +kernel),_,rfl,h,s,wn,_,rfl,S14.pull h,hwl,by rw [O.ins];omega,fun z=>absurd (by rw [O.ins] at z;exact z) hin,fun _ H15 S15=>?_⟩
         refine hq _ H15 fun t1 H16 s16 e16=>?_
         have S16':=S15.mono s16
         have e16b:=S16'.get t2
         have S16:=S16'.drop t2
         refine ⟨_,rfl,_,rfl,(by show 1≤sizeLine;decide),fun lx hlx=>⟨_,rfl,_,rfl,sl,_,rfl,.inl (SqL.of (Zf hlx _ _ _ (S16.get sl))),rfl,Xl _,.inr ⟨_,rfl,?_⟩⟩⟩
         rw [if_pos rfl,We,decide_eq_false hin]
         refine ⟨lx,_,_,rfl,rfl,Zd,by decide,by decide,(by show 1 * _≤sizeLine;decide),fun ly hly=>⟨sl,ly,_,_,rfl,rfl,Zf hly _ _ _ (Zf hlx _ _ _ (S16.get sl)),Zd,YY (show _≤1000 by have:=O.len;rw [List.length_map];simp;omega),fun sl' hsl'=>?_⟩⟩
         generalize hE:upd (upd (upd H16 lx _) ly _) sl' _=H17
         have w17:Same H16 H17:=by rw [← hE];exact ((Zf hlx _).trans (Zf hly _)).trans (Zf hsl' _)
         have S17:L2.Sep ((sl',ZU (st.map nI++[nI wn]))::_) H17:=(S16.mono ((Zf hlx _).trans (Zf hly _))).newE hsl' hE
         clear hE
         have S18:=((((S17.drop sl).pull sl').pull Pl).pull h).pull p
         refine ⟨t1,t2,[.str "told",.non],sl',st++[wn],{ s with ins:=s.ins++[wn] },rfl,?_,⟨?_,?_,?_,by rw [O.ins],O.sp⟩,w17 _ _ e16,w17 _ _ e16b,?_,(by decide)⟩
         · rw [List.map_append];exact S18
         · have:=O.hd;cases st with
           | nil=>cases this
           | cons y r=>exact this
         · rw [List.length_append];simp;omega
         · intro x hx
           rcases List.mem_append.mp hx with z | z
           · exact O.lt x z
           · rw [List.mem_singleton.mp z];exact hwn
         · intro v hv
           rcases List.mem_cons.mp hv with rfl | hv
           · exact WK (by decide +kernel)
           · rw [List.mem_singleton.mp hv];exact .inl rfl
   · rintro σ2 H17 ⟨t1,t2,vs,sl',st',s',rfl,S17,O',e1,e2,hv,hvl⟩
     obtain ⟨z1,z2,z3,z4⟩:=Uk e1 hv (by omega)
     obtain ⟨y1,y2,y3,y4⟩:=Uk e2 hv (by omega)
     obtain ⟨ys,k,hst,hlast⟩:=O'.last
     obtain ⟨d,r,sp,il,tk,Sh⟩:=(S17.get h)
     obtain ⟨dx4,ob4⟩:=Sh.get h
     have hkm:k < many+1:=O'.lt k (by rw [hst];simp)
     refine ⟨_,rfl,_,_,rfl,z1,z2,z3,z4,_,rfl,_,_,rfl,y1,y2,y3,y4,rfl,_,rfl,?_⟩
     rw [Xn]
     refine YG ⟨_,rfl,h,dx4,_,rfl,ob4,ZY (by decide +kernel),h,s',k,rfl,S17.get h,by rw [O'.ins];exact hlast,?_⟩
     have nk:=Vu (n:=k) (by omega)
     have sk:=VA nk 0
     have skl:(Yp (nI k)).shown.length≤sizeLine:=Nat.le_trans sk.ln (by decide)
     refine ⟨_,_,rfl,Zam nk,sk.sh,skl,Nat.le_trans sk.dp (by decide),_,rfl,1,rfl,sl',_,_,_,rfl,rfl,SqL.of (S17.get sl'),Ut hlast,.inl ⟨_,rfl,ZbC (by omega),rfl,_,rfl,?_⟩⟩
     rw [show (!decide (V.str (Yp (nI k)).shown=V.str (Str.ofString (toString (k:Int)))))=false from Xn _]
     refine YG ⟨_,rfl,h,dx4,_,rfl,ob4,ZY (by decide +kernel),h,s',rfl,S17.get h,fun l2 hl2=>?_⟩
     generalize hE:upd H17 l2 _=H18
     have S18:=S17.newE hl2 hE
     clear hE
     rw [O'.ins] at S18
     have hsm:∀ x∈st',x≤1000000:=fun x hx=>by have:=O'.lt x hx;omega
     have hsl:=O'.len
     obtain ⟨u1,u2,u3,u4⟩:=Xb (S18.get l2) (Wg hsm) (by rw [List.length_map];omega)
     obtain ⟨v1,v2,v3,v4⟩:=Xb (S18.get sl') (Wg hsm) (by rw [List.length_map];omega)
     refine ⟨_,rfl,_,_,rfl,u1,u2,u3,u4,_,rfl,_,_,rfl,v1,v2,v3,v4,rfl,_,rfl,?_⟩
     rw [Xn]
     refine YG ?_
     refine ⟨_,rfl,.inl ⟨rfl,_,SqL.of (S18.get l2)⟩,l2,_,_,rfl,rfl,S18.get l2,UY (show _≤1000 by rw [List.length_map];omega),?_⟩
     generalize hE:upd H18 l2 _=H19
     have S19:=S18.putE hE
     clear hE
     refine ⟨_,rfl,.inl ⟨rfl,_,SqL.of (S19.get l2)⟩,l2,_,rfl,rfl,S19.get l2,?_⟩
     generalize hE:upd H19 l2 _=H20
     have S20:=S19.putE hE
     clear hE
     exact ⟨_,_,_,_,_,_,sl',st',s',_,rfl,S20.tail,O',by omega⟩
 · rintro σ H10 ⟨x5,x8,x9,x10,x11,x12,sl,st,s,n,rfl,S10,O,hn⟩
   obtain ⟨d,r,sp,il,tk,Sh⟩:=(S10.get h)
   obtain ⟨dx4,ob4⟩:=Sh.get h
   refine ⟨_,rfl,h,dx4,_,rfl,ob4,ZY (by decide +kernel),h,s,rfl,S10.get h,fun l2 hl2=>?_⟩
   generalize hE:upd H10 l2 _=H18
   have S18:=S10.newE hl2 hE
   clear hE
   rw [O.ins] at S18
   have hsm:∀ x∈st,x≤1000000:=fun x hx=>by have:=O.lt x hx;omega
   have hsl:=O.len
   obtain ⟨u1,u2,u3,u4⟩:=Xb (S18.get l2) (Wg hsm) (by rw [List.length_map];omega)
   obtain ⟨v1,v2,v3,v4⟩:=Xb (S18.get sl) (Wg hsm) (by rw [List.length_map];omega)
   refine ⟨_,_,rfl,u1,u2,u3,u4,_,rfl,_,_,rfl,v1,v2,v3,v4,rfl,_,rfl,?_⟩
   rw [Xn]
   have S19:=S18.tail
   obtain ⟨d,r,sp,il,tk,Sh⟩:=(S19.get h)
   obtain ⟨dx5,ob5⟩:=Sh.get h
   refine YG ⟨_,rfl,h,dx5,_,rfl,ob5,ZY (by decide +kernel),h,s,rfl,S19.get h,_,rfl,rfl,_,rfl,?_⟩
   rw [show (!decide (V.int ((s.spots.length:Nat):Int)=V.int (1+(many:Int))))=false by rw [O.sp,List.length_replicate,show (((many+1:Nat):Int))=1+(many:Int) by omega];exact Xn _]
   refine YG ?_
   refine ⟨_,rfl,_,rfl,by omega,by omega,fun D hD=>?_⟩
   refine VM (YY (show _≤1000 by omega)) S19 hD (fun i ys Δ'=>ys=(List.replicate i 0).map nI∧Δ'=_) ⟨rfl,rfl⟩ ?_ ?_
   · rintro i ys Δ' H' hi hl ⟨rfl,rfl⟩ S'
     obtain ⟨d,r,sp,il,tk,Sh⟩:=(S'.get h)
     obtain ⟨dx6,ob6⟩:=Sh.get h
     refine ⟨_,rfl,h,dx6,_,rfl,ob6,ZY (by decide +kernel),_,rfl,h,s,i,0,congrArg (fun z=>[V.ref h,V.int z]) (Int.zero_add _),S'.get h,by rw [O.sp];exact ZbH (by omega),_,⟨?_,rfl⟩,S'⟩
     rw [List.replicate_succ',List.map_append];rfl
   rintro ys Δ' H' ⟨rfl,rfl⟩ hl S'
   refine ⟨(by show 1≤sizeLine;decide),fun l3 hl3=>⟨_,rfl,l3,_,_,rfl,rfl,Zd,by omega,by omega,YY (show _≤1000 by simp;omega),fun l4 hl4=>?_⟩⟩
   generalize hE:upd (upd H' l3 _) l4 _=H21
   have e:(List.replicate (1+(many:Int)).toNat [V.int 0]).flatten=(List.replicate (1+(many:Int)).toNat 0).map nI:=by
     rw [List.map_replicate]
     generalize (1+(many:Int)).toNat=z
     induction z with
     | zero=>rfl
     | succ z ih=>rw [List.replicate_succ,List.flatten_cons,ih,List.replicate_succ];rfl
   have S21:=(S'.mono (Zf hl3 (.lst [V.int 0]))).newE hl4 hE
   rw [e] at S21
   clear hE
   obtain ⟨a1,a2,a3⟩:=Zao (S21.get D)
   obtain ⟨b1,b2,b3⟩:=Zao (S21.get l4)
   refine ⟨_,_,a1,b1,a2,b2,a3,_,rfl,?_⟩
   rw [SeqAt.eqv_refl _ a2]
   refine YG ?_
   exact ⟨_,_,_,_,_,_,_,_,_,_,_,_,rfl,((((S21.drop l4).drop D).drop p).drop h).drop sl⟩
end
end K34
set_option maxHeartbeats 4000000
namespace K34
open PySem L2
abbrev ZfS (P:Program)(w:World)(K:PySem.W.Frag)(mg:Str→Option Value)(base:Heap):Prop:=Def P w K mg base 1 "_law_take" ["_law_box_here","_law_many"] (Vx 4611686018427387904)
end K34
set_option maxHeartbeats 4000000
namespace K34
open PySem L2
section
variable {P:Program}{w:World}{K:PySem.W.Frag}{mg:Str→Option Value}{base:Heap}
theorem scXi:Zu ["self","what"] ["self","what"] (Zi c_RoadError___init__):=⟨rfl,rfl,rfl,by decide +kernel,rfl,by decide +kernel,by decide +kernel⟩
theorem Vs {f:Addr}{fd:FuncData}(F:Fun K "__init__" "RoadError.__init__" c_RoadError___init__ f fd):FnOk P w K mg base ZG 1 f fd ["self","what"] (Zcs K):=by
 refine F.ok scXi (fun vs H Q E h=>?_) (fun cdv A outer s H vs Q E hr h=>?_)
 · obtain ⟨ea,C,fI,v,rfl,_⟩:=h;rfl
 obtain ⟨ea,C,fI,v,rfl,hea,xf,q⟩:=h
 refine' ⟨?t,?h,?r⟩
 case h =>
   conv=>arg 2;whnf
   with_reducible refine' (Zl ?h1)
   case h1=>exact ZdH (pv 0) (pv 1) rfl
 exact ⟨_,rfl,_,rfl,ea,C,fI,rfl,hea,xf,fun dx h1 h2=>q dx h1 h2⟩
end
end K34
set_option maxHeartbeats 4000000
namespace K34
open PySem L2
open PySem.W in
theorem all_mk {l:PySem.W.OpenLaw}{w:World}{K:PySem.W.Frag}{h:Heap}{mg:Str→Option Value}{fa:Addr}
   {f_z0 f_z1 f_z2 f_z3 f_z4 f_z5 f_z6 f_z7 f_z8 f_z9 f_z10 f_z11 f_z12 f_z13 f_z14 f_z15 f_z16 f_z17 f_z18 C_Store C_Roads C_Tokens C_Hall C_RoadError C_Known C_NoSetting C_Missing C_NoWorld C_Busy C_AtHome C_NoToken C_Used C_Elsewhere C_OutOfTurn C_NoTable C_NoNode C_NoPlace C_NotBehind C_NoWatcher C_NoTask C_BadRow ca_z18 P_z18:Addr} {d_z0 d_z1 d_z2 d_z3 d_z4 d_z5 d_z6 d_z7 d_z8 d_z9 d_z10 d_z11 d_z12 d_z13 d_z14 d_z15 d_z16 d_z17 d_z18:FuncData} (X:K.In h) (G:h.Ns mainGlobals mg) (hfa:mg "law"=some (.ref fa))
   (ch_Store:CH K "Store" C_Store)
   (na_Store_nodes:PySem.W.findIn K (.ref C_Store) "nodes"=some none)
   (na_Store_tables:PySem.W.findIn K (.ref C_Store) "tables"=some none)
   (ch_Roads:CH K "Roads" C_Roads)
   (na_Roads_kept:PySem.W.findIn K (.ref C_Roads) "kept"=some none)
   (na_Roads_aheads:PySem.W.findIn K (.ref C_Roads) "aheads"=some none)
   (na_Roads_steps:PySem.W.findIn K (.ref C_Roads) "steps"=some none)
   (na_Roads_tables:PySem.W.findIn K (.ref C_Roads) "tables"=some none)
   (na_Roads_costs:PySem.W.findIn K (.ref C_Roads) "costs"=some none)
   (ch_Tokens:CH K "Tokens" C_Tokens)
   (na_Tokens_finds:PySem.W.findIn K (.ref C_Tokens) "finds"=some none)
   (na_Tokens_unused:PySem.W.findIn K (.ref C_Tokens) "unused"=some none)
   (ch_Hall:CH K "Hall" C_Hall)
   (na_Hall_defaults:PySem.W.findIn K (.ref C_Hall) "defaults"=some none)
   (na_Hall_ways:PySem.W.findIn K (.ref C_Hall) "ways"=some none)
   (na_Hall_spots:PySem.W.findIn K (.ref C_Hall) "spots"=some none)
   (na_Hall_inside:PySem.W.findIn K (.ref C_Hall) "inside"=some none)
   (na_Hall_held:PySem.W.findIn K (.ref C_Hall) "held"=some none)
   (gx_RoadError:PySem.W.nsIn K mainGlobals "RoadError"=some (some (.ref C_RoadError)))
   (gx_Known:PySem.W.nsIn K mainGlobals "Known"=some (some (.ref C_Known)))
   (gx_NoSetting:PySem.W.nsIn K mainGlobals "NoSetting"=some (some (.ref C_NoSetting)))
   (gx_Missing:PySem.W.nsIn K mainGlobals "Missing"=some (some (.ref C_Missing)))
   (gx_NoWorld:PySem.W.nsIn K mainGlobals "NoWorld"=some (some (.ref C_NoWorld)))
   (gx_Busy:PySem.W.nsIn K mainGlobals "Busy"=some (some (.ref C_Busy)))
   (gx_AtHome:PySem.W.nsIn K mainGlobals "AtHome"=some (some (.ref C_AtHome)))
   (gx_NoToken:PySem.W.nsIn K mainGlobals "NoToken"=some (some (.ref C_NoToken)))
   (gx_Used:PySem.W.nsIn K mainGlobals "Used"=some (some (.ref C_Used)))
   (gx_Elsewhere:PySem.W.nsIn K mainGlobals "Elsewhere"=some (some (.ref C_Elsewhere)))
   (gx_OutOfTurn:PySem.W.nsIn K mainGlobals "OutOfTurn"=some (some (.ref C_OutOfTurn)))
   (gx_NoTable:PySem.W.nsIn K mainGlobals "NoTable"=some (some (.ref C_NoTable)))
   (gx_NoNode:PySem.W.nsIn K mainGlobals "NoNode"=some (some (.ref C_NoNode)))
   (gx_NoPlace:PySem.W.nsIn K mainGlobals "NoPlace"=some (some (.ref C_NoPlace)))
   (gx_NotBehind:PySem.W.nsIn K mainGlobals "NotBehind"=some (some (.ref C_NotBehind)))
   (gx_NoWatcher:PySem.W.nsIn K mainGlobals "NoWatcher"=some (some (.ref C_NoWatcher)))
   (gx_NoTask:PySem.W.nsIn K mainGlobals "NoTask"=some (some (.ref C_NoTask)))
   (gx_BadRow:PySem.W.nsIn K mainGlobals "BadRow"=some (some (.ref C_BadRow)))
   (h_z0:FM K C_RoadError "__init__" "RoadError.__init__" c_RoadError___init__ f_z0 d_z0)
   (h_z1:FM K C_Store "__init__" "Store.__init__" c_Store___init__ f_z1 d_z1)
   (h_z2:FM K C_Store "empty" "Store.empty" c_Store_empty f_z2 d_z2)
   (h_z3:FM K C_Roads "__init__" "Roads.__init__" c_Roads___init__ f_z3 d_z3)
   (h_z4:FM K C_Tokens "__init__" "Tokens.__init__" c_Tokens___init__ f_z4 d_z4)
   (h_z5:FM K C_Hall "check_world" "Hall.check_world" c_Hall_check_world f_z5 d_z5)
   (h_z6:FM K C_Hall "worlds" "Hall.worlds" c_Hall_worlds f_z6 d_z6)
   (h_z7:FM K C_Hall "place" "Hall.place" c_Hall_place f_z7 d_z7)
   (h_z8:FM K C_Hall "now" "Hall.now" c_Hall_now f_z8 d_z8)
   (h_z9:FM K C_Hall "entered" "Hall.entered" c_Hall_entered f_z9 d_z9)
   (h_z10:FM K C_Hall "copy" "Hall.copy" c_Hall_copy f_z10 d_z10)
   (h_z11:FM K C_Hall "enter" "Hall.enter" c_Hall_enter f_z11 d_z11)
   (h_z12:FM K C_Hall "leave" "Hall.leave" c_Hall_leave f_z12 d_z12)
   (h_z13:FM K C_Hall "__init__" "Hall.__init__" c_Hall___init__ f_z13 d_z13)
   (h_z14:FG K "_law_cell_at" s_l_cell_at f_z14 d_z14)
   (h_z15:FG K "_law_box" s_l_box f_z15 d_z15)
   (h_z16:FG K "_law_take" s_l_take f_z16 d_z16)
   (h_z17:FG K "_law_told" s_l_told f_z17 d_z17)
   (h_z18:FGC K "law" s_law f_z18 d_z18 ca_z18 P_z18)
   (z_len:PySem.W.nsIn K mainGlobals "len"=some none)
   (z_abs:PySem.W.nsIn K mainGlobals "abs"=some none)
   (z_int:PySem.W.nsIn K mainGlobals "int"=some none)
   (z_range:PySem.W.nsIn K mainGlobals "range"=some none)
   (z_min:PySem.W.nsIn K mainGlobals "min"=some none)
   (z_max:PySem.W.nsIn K mainGlobals "max"=some none)
   (z_repr:PySem.W.nsIn K mainGlobals "repr"=some none)
   (z_enumerate:PySem.W.nsIn K mainGlobals "enumerate"=some none)
   (z_ord:PySem.W.nsIn K mainGlobals "ord"=some none)
   (z_list:PySem.W.nsIn K mainGlobals "list"=some none)
   (z_tuple:PySem.W.nsIn K mainGlobals "tuple"=some none)
   (z_dict:PySem.W.nsIn K mainGlobals "dict"=some none)
   (z_sorted:PySem.W.nsIn K mainGlobals "sorted"=some none)
   (z_sum:PySem.W.nsIn K mainGlobals "sum"=some none)
   (z_all:PySem.W.nsIn K mainGlobals "all"=some none)
   (z_any:PySem.W.nsIn K mainGlobals "any"=some none)
   (z_divmod:PySem.W.nsIn K mainGlobals "divmod"=some none)
   (z_str:PySem.W.nsIn K mainGlobals "str"=some none)
   (z_isinstance:PySem.W.nsIn K mainGlobals "isinstance"=some none)
   (z_set:PySem.W.nsIn K mainGlobals "set"=some none)
   (z_zip:PySem.W.nsIn K mainGlobals "zip"=some none)
   (z_reversed:PySem.W.nsIn K mainGlobals "reversed"=some none)
   (z_bool:PySem.W.nsIn K mainGlobals "bool"=some none)
   {tb:Tok}
   (gBASE:PySem.W.nsIn K mainGlobals "BASE"=some (some (.int 4 tb)))
   {tz:Tok}
   (gZERO:PySem.W.nsIn K mainGlobals "BARE_NUMBER"=some (some (.int 0 tz)))
   {ab:Addr}
   (gBARE:PySem.W.nsIn K mainGlobals "BARE"=some (some (.ref ab)))
   (tBARE:UC K ab [.str "bare"]=true)
   {af:Addr}
   (gFIG:PySem.W.nsIn K mainGlobals "FIGURES"=some (some (.ref af)))
   (tFIG:UC K af [.int 0,.int 1,.int 2,.int 3]=true)
   (zVE:PySem.W.nsIn K mainGlobals "ValueError"=some none)
   (x_Busy:UK K C_RoadError C_Busy f_z0 [C_Known,C_NoSetting,C_Missing,C_NoWorld,C_Busy,C_AtHome,C_NoToken,C_Used,C_Elsewhere,C_OutOfTurn] [C_NoTable,C_NoNode,C_NoPlace,C_NotBehind] [C_NoWatcher,C_NoTask,C_BadRow] 4=true)
   (x_AtHome:UK K C_RoadError C_AtHome f_z0 [C_Known,C_NoSetting,C_Missing,C_NoWorld,C_Busy,C_AtHome,C_NoToken,C_Used,C_Elsewhere,C_OutOfTurn] [C_NoTable,C_NoNode,C_NoPlace,C_NotBehind] [C_NoWatcher,C_NoTask,C_BadRow] 5=true) :
   ∃ fd:FuncData,(∀ (s:Shared) (v:Value),BindsTo s fd ⟨[v],[]⟩ [("_law_script",v)])∧∀ base:Heap,K.In base→base.Ns mainGlobals mg→Xe base mg→FnOk l.prog w K mg base ZG 16 fa fd ["_law_script"] (UL K P_z18):=by
 have e:=hfa.symm.trans (mg_of X G h_z18.a)
 cases e
 have n_len:=mg_none_of X G z_len
 have n_abs:=mg_none_of X G z_abs
 have n_int:=mg_none_of X G z_int
 have n_range:=mg_none_of X G z_range
 have n_min:=mg_none_of X G z_min
 have n_max:=mg_none_of X G z_max
 have n_repr:=mg_none_of X G z_repr
 have n_enumerate:=mg_none_of X G z_enumerate
 have n_ord:=mg_none_of X G z_ord
 have n_list:=mg_none_of X G z_list
 have n_tuple:=mg_none_of X G z_tuple
 have n_dict:=mg_none_of X G z_dict
 have n_sorted:=mg_none_of X G z_sorted
 have n_sum:=mg_none_of X G z_sum
 have n_all:=mg_none_of X G z_all
 have n_any:=mg_none_of X G z_any
 have n_divmod:=mg_none_of X G z_divmod
 have n_str:=mg_none_of X G z_str
 have n_isinstance:=mg_none_of X G z_isinstance
 have n_set:=mg_none_of X G z_set
 have n_zip:=mg_none_of X G z_zip
 have n_reversed:=mg_none_of X G z_reversed
 have n_bool:=mg_none_of X G z_bool
 have g_gBASE:=mg_of X G gBASE
 have g_gZERO:=mg_of X G gZERO
 have g_gBARE:=mg_of X G gBARE
 have g_gFIG:=mg_of X G gFIG
 have g_RoadError:=mg_of X G gx_RoadError
 have g_Known:=mg_of X G gx_Known
 have g_NoSetting:=mg_of X G gx_NoSetting
 have g_Missing:=mg_of X G gx_Missing
 have g_NoWorld:=mg_of X G gx_NoWorld
 have g_Busy:=mg_of X G gx_Busy
 have g_AtHome:=mg_of X G gx_AtHome
 have g_NoToken:=mg_of X G gx_NoToken
 have g_Used:=mg_of X G gx_Used
 have g_Elsewhere:=mg_of X G gx_Elsewhere
 have g_OutOfTurn:=mg_of X G gx_OutOfTurn
 have g_NoTable:=mg_of X G gx_NoTable
 have g_NoNode:=mg_of X G gx_NoNode
 have g_NoPlace:=mg_of X G gx_NoPlace
 have g_NotBehind:=mg_of X G gx_NotBehind
 have g_NoWatcher:=mg_of X G gx_NoWatcher
 have g_NoTask:=mg_of X G gx_NoTask
 have g_BadRow:=mg_of X G gx_BadRow
 have cl_Store:=ch_Store.c
 have cl_Roads:=ch_Roads.c
 have cl_Tokens:=ch_Tokens.c
 have cl_Hall:=ch_Hall.c
 have TB:Yh mg:=⟨n_len,n_abs,n_int,n_range,n_min,n_max,n_repr,n_enumerate,n_ord,n_list,n_tuple,n_dict,n_sorted,n_sum,n_all,n_any,n_divmod,n_str,n_isinstance,n_set,n_zip,n_reversed,n_bool⟩
 have T:Txt K mg:=⟨TB,⟨_,g_gBASE⟩,⟨_,g_gZERO⟩,⟨_,g_gBARE,Vr tBARE⟩,⟨_,g_gFIG,Vr tFIG⟩⟩
 have TC:Zcv K C_Store:=⟨cl_Store,na_Store_nodes,na_Store_tables⟩
 have TR:TxtR K C_Roads:=⟨cl_Roads,na_Roads_kept,na_Roads_aheads,na_Roads_steps,na_Roads_tables,na_Roads_costs⟩
 have TT:TxtT K C_Tokens:=⟨cl_Tokens,na_Tokens_finds,na_Tokens_unused⟩
 have TH:YR K C_Hall:=⟨cl_Hall,na_Hall_defaults,na_Hall_ways,na_Hall_spots,na_Hall_inside,na_Hall_held⟩
 have n_VE:=mg_none_of X G zVE
 have TE:=ZdM (K:=K) g_RoadError n_VE g_Known g_NoSetting g_Missing g_NoWorld g_Busy g_AtHome g_NoToken g_Used g_Elsewhere g_OutOfTurn g_NoTable g_NoNode g_NoPlace g_NotBehind g_NoWatcher g_NoTask g_BadRow
 have r_Busy:RK K C_RoadError [C_Known,C_NoSetting,C_Missing,C_NoWorld,C_Busy,C_AtHome,C_NoToken,C_Used,C_Elsewhere,C_OutOfTurn,C_NoTable,C_NoNode,C_NoPlace,C_NotBehind,C_NoWatcher,C_NoTask,C_BadRow] C_Busy "busy":=⟨4,(Wv x_Busy).1,rfl⟩
 have r_AtHome:RK K C_RoadError [C_Known,C_NoSetting,C_Missing,C_NoWorld,C_Busy,C_AtHome,C_NoToken,C_Used,C_Elsewhere,C_OutOfTurn,C_NoTable,C_NoNode,C_NoPlace,C_NotBehind,C_NoWatcher,C_NoTask,C_BadRow] C_AtHome "home":=⟨5,(Wv x_AtHome).1,rfl⟩
 refine ⟨d_z18,fun s v=>Zbf h_z18.F.fn (fun _ _ _ _ _ _ _=>rfl) s v,fun base _ _ hBm=>?_⟩
 have e:Bs l.prog w K mg base h:=⟨X,G⟩
 have b_z0:Binds K d_z0 ["self","what"] []:=h_z0.F.b2 fun _ _ _ _ _ _ _ _=>rfl
 have D_Busy:VC l.prog w K mg base 1 C_Busy "Busy":=⟨_,_,(Vs h_z0.F).mono (by decide),b_z0,(Wv x_Busy).2 h_z0.m.fn,g_Busy⟩
 have D_AtHome:VC l.prog w K mg base 1 C_AtHome "AtHome":=⟨_,_,(Vs h_z0.F).mono (by decide),b_z0,(Wv x_AtHome).2 h_z0.m.fn,g_AtHome⟩
 have D_z1:=h_z1.di ch_Store e (FnOk.conv (sp':=WY K C_Store) (ZdI h_z1.F T TC) (fun _ _ _ _ h=>Zfe h)) (h_z1.F.b1 fun _ _ _ _ _ _ _=>rfl)
 have D_z2:=h_z2.df e (ZcG (C:=C_Store) h_z2.F T) (h_z2.F.b1 fun _ _ _ _ _ _ _=>rfl)
 have D_z3:=h_z3.di ch_Roads e ((ZcA h_z3.F TB TR TC D_z1 (D_z2.mono (by decide))).mono (show 3≤11 by decide)) (h_z3.F.b1 fun _ _ _ _ _ _ _=>rfl)
 have D_z4:=h_z4.di ch_Tokens e (Zcx h_z4.F TB TT) (h_z4.F.b1 fun _ _ _ _ _ _ _=>rfl)
 have D_z5:=h_z5.df e (Zel (CH:=C_Hall) (CR:=C_Roads) (CS:=C_Store) (CT:=C_Tokens) h_z5.F TB TH) (h_z5.F.b2 fun _ _ _ _ _ _ _ _=>rfl)
 have D_z6:=h_z6.df e (ZeS (CH:=C_Hall) (CR:=C_Roads) (CS:=C_Store) (CT:=C_Tokens) h_z6.F TB TH) (h_z6.F.b1 fun _ _ _ _ _ _ _=>rfl)
 have D_z7:=h_z7.df e (Zep (CH:=C_Hall) (CR:=C_Roads) (CS:=C_Store) (CT:=C_Tokens) h_z7.F TB TH D_z5) (h_z7.F.b2 fun _ _ _ _ _ _ _ _=>rfl)
 have D_z8:=h_z8.df e (ZeK (CH:=C_Hall) (CR:=C_Roads) (CS:=C_Store) (CT:=C_Tokens) h_z8.F TB TH) (h_z8.F.b1 fun _ _ _ _ _ _ _=>rfl)
 have D_z9:=h_z9.df e (Zff (CH:=C_Hall) (CR:=C_Roads) (CS:=C_Store) (CT:=C_Tokens) h_z9.F TB TH) (h_z9.F.b1 fun _ _ _ _ _ _ _=>rfl)
 have D_z10:=h_z10.df e (Zdv (CH:=C_Hall) (CR:=C_Roads) (CS:=C_Store) (CT:=C_Tokens) h_z10.F TB TH D_z7) (h_z10.F.b2 fun _ _ _ _ _ _ _ _=>rfl)
 have b_z11:Binds K d_z11 ["self","world"] []:=h_z11.F.b2 fun _ _ _ _ _ _ _ _=>rfl
 have D_z11:XX l.prog w K mg base 5 C_Hall "enter" UI (ZaB K C_Hall C_Roads C_Store C_Tokens C_Busy):=⟨_,_,(ZeU h_z11.F TB TH D_z5 D_Busy).mono (by decide),b_z11,h_z11.m⟩
 have b_z12:Binds K d_z12 ["self"] []:=h_z12.F.b1 fun _ _ _ _ _ _ _=>rfl
 have D_z12:XX l.prog w K mg base 5 C_Hall "leave" Uy (ZaU K C_Hall C_Roads C_Store C_Tokens C_AtHome):=⟨_,_,(Zey h_z12.F TB TH D_z8 D_AtHome).mono (by decide),b_z12,h_z12.m⟩
 have D_z13:=h_z13.di ch_Hall e ((Zcl h_z13.F TB TH D_z3 D_z4).mono (show 13≤14 by decide)) (h_z13.F.b1 fun _ _ _ _ _ _ _=>rfl)
 have D_z14:=h_z14.df e (Zeh h_z14.F TB) (h_z14.F.b2 fun _ _ _ _ _ _ _ _=>rfl)
 have D_z15:=h_z15.df e (FnOk.conv (sp':=Vy K) (Zfj h_z15.F TB D_z14) (fun _ _ _ _ h=>ZfY h)) (h_z15.F.b2 fun _ _ _ _ _ _ _ _=>rfl)
 have b_z16:Binds K d_z16 ["_law_box_here","_law_many"] []:=h_z16.F.b2 fun _ _ _ _ _ _ _ _=>rfl
 have DT0:ZfS l.prog w K mg base:=⟨_,_,ZdB h_z16.F,b_z16,h_z16.F.kp,(mg_of X G h_z16.a)⟩
 have D_z16:DTk l.prog w K mg base 1:=DT0.conv fun _ _ _ _ h=>ZeT h
 have D_z17:=h_z17.df e (Zdr (kk:=6) h_z17.F TB TE) (h_z17.F.b1 fun _ _ _ _ _ _ _=>rfl)
 exact Zer h_z18.F hBm TB TH D_z16 (D_z15.mono (by decide)) D_z13 (D_z10.mono (by decide)) (D_z6.mono (by decide)) (D_z8.mono (by decide)) (D_z9.mono (by decide)) (D_z7.mono (by decide)) D_z11 D_z12 r_Busy r_AtHome (D_z17.mono (by decide))
theorem walk {l:PySem.W.OpenLaw}{q:Program}{loose:List Str}{XP:(Str→Option Value)→Heap→Prop}{YP:World→Heap→Prop}{d:DefRec}{K:Params→PySem.W.Frag}{ts:List Addr}{P_z18:Addr}(hn:l.most=some 63)(hdf:d.params.defaults=[])
   (hY:∀ (w:World) (h:Heap),YP w h→(K w.params).In h∧∀ b∈ts,h.get? b=some (PySem.W.tabObj #[]))
   (hK:∀ (w:World) (b:Addr),b∈ts→(K w.params).lookup b=none∧∃ c,PySem.W.codeHdIn (K w.params) c b=true)
   (hP_law:P_z18∈ts) (F:∀ (w:World) (mg:Str→Option Value) (fa:Addr) (h:Heap),(K w.params).In h→h.Ns mainGlobals mg→mg d.name=some (.ref fa) →
     ∃ fd:FuncData,(∀ (s:Shared) (u:Value),BindsTo s fd ⟨[u],[]⟩ [("_law_script",u)])∧∀ base:Heap,(K w.params).In base→base.Ns mainGlobals mg→Xe base mg→FnOk l.prog w (K w.params) mg base ZG 16 fa fd ["_law_script"] (UL (K w.params) P_z18)) :
   PySem.W.WalkO q loose XP YP l.row.toRowW d [] (fun f vs=>PySem.call f vs) :=
 L2.walk_ofT (n:=63) (k:=16) (x:="_law_script") (CX:=fun _=>ZG) (sp:=fun w=>UL (K w.params) P_z18) (ts:=ts) hn (by decide) hdf ⟨rfl,by decide,by decide,rfl⟩ hY hK F (fun w H a ns hl hO hS hT=>⟨a,ns,rfl,hS,hl,⟨[],hT _ hP_law,fun _ h=>nomatch h⟩,fun _=>rfl⟩) fun _ _ _ _ _ z=>z
end K34
namespace PySem.W.Fast
def tw10577725987606666381 := 0
def tw17993251566553792820 := 0
def tw7162610392644738204 := 0
def tw7702734115993490725 := 0
def tw18297803592372558543 := 0
def tw14027065594182448031 := 0
def tw6510984532299902714 := 0
def tw8717001874760780412 := 0
def tw13030331744419418180 := 0
def tw398219506708380956 := 0
def tw17811437228786445874 := 0
def tw4284530494076881310 := 0
def tw2784517855258760074 := 0
def tw12487163585300809697 := 0
def tw14173215411202782873 := 0
def tw8603749155043561187 := 0
def tw9839838887769630674 := 0
def tw6492043757943041743 := 0
def tw354179988222072118 := 0
def tw15296945543226758317 := 0
def tw12593729953888700619 := 0
def tw17424816990652297609 := 0
def tw12550644129773295183 := 0
def tw12811569462505618807 := 0
def tw11291299991737324377 := 0
def tw2469601819907868734 := 0
def tw18377120066928063552 := 0
def tw18056668153896222371 := 0
def tw1430876608395915644 := 0
def tw665192101966191418 := 0
def tw7789120870545904137 := 0
def tw8173686479916524525 := 0
def tw1624198793048874498 := 0
def tw8958511640646346913 := 0
def tw4186641157614020502 := 0
def tw11754557408201771563 := 0
def tw3302875694832832149 := 0
def tw5431841961147000815 := 0
def tw9977219884285449198 := 0
def tw12222963258108575046 := 0
def tw16503912605418632452 := 0
def tw5698134226390878086 := 0
def tw16559183358787747843 := 0
def tw15640735093597868142 := 0
def tw10406147849753999712 := 0
def tw14999067143316536770 := 0
def tw13824111151676239619 := 0
def tw14111854775093916942 := 0
def tw9806702681395734082 := 0
def tw14447763534359202440 := 0
def tw1090476705839752601 := 0
def tw14970304904311945263 := 0
def tw13067507394281664980 := 0
def tw10821554917203564563 := 0
def tw5263742554074470249 := 0
def tw1078396228761356799 := 0
def tw15508791459876020445 := 0
def tw5262171903293119272 := 0
def tw6392081136350068397 := 0
def tw15840196964995219060 := 0
def tw16193162067347146919 := 0
def tw4728598663497617998 := 0
def tw2899751476538900230 := 0
def tw7134890926835886318 := 0
def tw12551849835592492323 := 0
def tw12674961770703942733 := 0
def tw17320533540505636787 := 0
def tw13667635221983080676 := 0
def tw16310548858919307797 := 0
def tw10237605007429634578 := 0
def tw10483906543948361899 := 0
def tw14372514762768346161 := 0
def tw9136624120405776012 := 0
def tw9076410010435095780 := 0
def tw16369271066165592890 := 0
def tw7435853727467465528 := 0
def tw7478335578760441978 := 0
def tw1833386020460662089 := 0
def tw6713149535373527170 := 0
def tw16131183168744089512 := 0
def tw14981313769638364767 := 0
def tw15277953930821484409 := 0
def tw17999515585085914712 := 0
def tw1963590751571570475 := 0
def tw10141704479610736823 := 0
def tw10196283747393774524 := 0
def tw4441572114675252346 := 0
def tw9117793705851761562 := 0
def tw8600228483350885961 := 0
def tw5173891093135095518 := 0
def tw8937099531884633190 := 0
def tw16462465108085142036 := 0
def tw9622853295284356310 := 0
def tw8273428781767374566 := 0
def tw3125829716903341513 := 0
def tw13514004885005791010 := 0
def tw11350816457614365577 := 0
def tw15980372622530179131 := 0
def tw6033619960716103709 := 0
def tw2337636504797876779 := 0
def tw2069013245725889753 := 0
def tw5028365752228950745 := 0
def tw5378939415018704136 := 0
def tw15959364961906471620 := 0
def tw16189792543643583941 := 0
def tw5873195636872222192 := 0
def tw16935745692161915814 := 0
def tw209116623476292787 := 0
def tw1555092524775940954 := 0
def tw6691834653663013500 := 0
def tw16546518373268806428 := 0
def tw13396450788815818660 := 0
def tw7876390436764393107 := 0
def tw11956360947569500291 := 0
def tw300306875285207548 := 0
def tw2289894101158237039 := 0
def tw13127362617665054973 := 0
def tw6610152585905291618 := 0
def tw14241280512667885779 := 0
def tw1497381585368924118 := 0
def tw14649906926487343388 := 0
def tw2111169134622209439 := 0
def tw11576181731550871060 := 0
def tw9445146339039647172 := 0
def tw5276037276227553871 := 0
def tw15579537693661724296 := 0
def tw10243793943952432246 := 0
def tw12445925207171868084 := 0
def tw11395826142654786935 := 0
def tw1575765735122797333 := 0
def tw16820125962619185132 := 0
def tw4479542618731008666 := 0
def tw1320900920184581203 := 0
def tw17403067384805389491 := 0
def tw9159162614973873690 := 0
def tw17150116848334760748 := 0
def tw4930611031976180984 := 0
def tw15795539411531911899 := 0
def tw11584543038695688351 := 0
def tw4222441662071068191 := 0
def tw5991716877737496859 := 0
def tw11814666733534980656 := 0
def tw3275274984248313631 := 0
def tw382713437956196019 := 0
def tw7058809448589558091 := 0
def tw11163289311502429036 := 0
def tw14965168464168672484 := 0
def tw1773357539407827973 := 0
def tw16944639166729590202 := 0
def tw14734443188633311572 := 0
def tw9593474471968454708 := 0
def tw16754576879511471904 := 0
def tw9147656606185914985 := 0
def tw8992095673105454124 := 0
def tw5129674309407349113 := 0
def tw17422226605344011488 := 0
def tw6618205558276692049 := 0
def tw3367329002140566541 := 0
def tw4484724614793783418 := 0
def tw9023428844690184585 := 0
def tw4528155258657291061 := 0
def tw686257292394390531 := 0
def tw9583964717411284400 := 0
def tw2013390110401152754 := 0
def tw7479232405624007407 := 0
def tw5429692783107129571 := 0
def tw5017304600919277198 := 0
def tw3581257895216853050 := 0
def tw1892221721079417373 := 0
def tw15596825170750231547 := 0
def tw18011465225362994077 := 0
def tw8382383364233599096 := 0
def tw15909513081101665036 := 0
def tw11137261377743172797 := 0
def tw4585577598728492272 := 0
def tw5421468343097195349 := 0
def tw14117812120741051502 := 0
def tw11866177024411145875 := 0
def tw15487155716104536694 := 0
def tw1558068400177160955 := 0
def tw7773531051632583771 := 0
def tw17969423008636340638 := 0
def tw9531283439538642063 := 0
def tw2404576539080371923 := 0
def tw2165827211879531017 := 0
def tw5127809082161740195 := 0
def tw13503750080242791823 := 0
def tw12888045933769829000 := 0
def tw979992061884117638 := 0
def tw4399166092547437200 := 0
def tw17014199348415968760 := 0
def tw14079310337145844965 := 0
def tw1343575611553819543 := 0
def tw10304557668427676777 := 0
def tw17989703945831458047 := 0
def tw1397024166301215747 := 0
def tw17502016410287097426 := 0
def tw16245240279703612013 := 0
def tw9319174488527310575 := 0
def tw6377329782457627408 := 0
def tw12107610485713905875 := 0
def tw11955472416448442157 := 0
def tw1392972282935026793 := 0
def tw5681586364171414000 := 0
def tw17434884129987008233 := 0
def tw7206549766858953831 := 0
def tw2027854498108232278 := 0
def tw14265396777496729054 := 0
def tw13452153795178991520 := 0
def tw2899738419193096271 := 0
def tw37273965321374685 := 0
def tw14550076211999229595 := 0
def tw4692005682953768633 := 0
def tw12126635109153509546 := 0
def tw9659253289050215659 := 0
def tw7265134803987664909 := 0
def tw5420519238715289355 := 0
def tw4860535924686415485 := 0
def tw10212725256972499684 := 0
def tw646492779758669123 := 0
def tw17206114605031799866 := 0
def tw4028550179698652535 := 0
def tw2897798317102123247 := 0
def tw17845341283713784738 := 0
def tw12924993611197837599 := 0
def tw2179446526787546964 := 0
def tw12166492663762471469 := 0
def tw14710650184355188049 := 0
def tw9370346216939166801 := 0
def tw5772890395562160595 := 0
def tw16474151432698504570 := 0
def tw8362794933334954771 := 0
def tw10461908183941068762 := 0
def tw710531039041142153 := 0
def tw18037419846685598221 := 0
def tw1377252661269902301 := 0
def tw937185726548012186 := 0
def tw8422367406934118923 := 0
def tw1898180101025175285 := 0
def tw12797309075811832880 := 0
def tw4840501868256466561 := 0
def tw16457138890046922280 := 0
def tw12398924589026273059 := 0
def tw12141762467717916390 := 0
def tw4469058377503973503 := 0
def tw17273281464934139620 := 0
def tw7933928844441897074 := 0
def tw1733544668517516882 := 0
def tw8386602804055766935 := 0
def tw18364024347743324196 := 0
def tw9438983626579294588 := 0
def tw876435067758546719 := 0
def tw7282877244917788122 := 0
def tw7002355512973640084 := 0
def tw2042177837613849411 := 0
def tw17825790459834577524 := 0
def tw16977185275684905291 := 0
def tw15862152019054170269 := 0
def tw14693307360611186656 := 0
def tw14239743814722873151 := 0
def tw13796619016922001461 := 0
def tw1350811188106602306 := 0
def tw1340565336676132582 := 0
def tw11502014870680579013 := 0
def tw5593225991539056778 := 0
def tw7590839549320008216 := 0
def tw14978287521949838097 := 0
def tw8222978237852389645 := 0
def tw11164397815506434317 := 0
def tw8202917450576225359 := 0
def tw7846471036145582067 := 0
def tw6750770450927388730 := 0
def tw10760950240689638370 := 0
def tw6715411887244720531 := 0
def tw6631010082542353545 := 0
def tw15165910351994409931 := 0
def tw1765016231670001525 := 0
def tw3343183103251400623 := 0
def tw17469499906780018288 := 0
def tw8504287880146727868 := 0
def tw8086402021331726302 := 0
def tw3794220611144532677 := 0
def tw13844214878184998787 := 0
def tw11750724482532835501 := 0
def tw7405767960996908660 := 0
def tw15852006899910281708 := 0
def tw9493452434735292201 := 0
def tw9175055856594657904 := 0
def tw2808838236463826338 := 0
def tw12380211991744770506 := 0
def tw10705570863125710443 := 0
def tw10597291040856968192 := 0
def tw8388131866001833316 := 0
def tw9577698968326932566 := 0
def tw17864641884377031353 := 0
def tw7524044811226991754 := 0
def tw5780520788157298822 := 0
def tw13085472017989262702 := 0
def tw14879676873918404891 := 0
def tw5529826046726940281 := 0
def tw6454864177961674811 := 0
def tw14158497238983342868 := 0
def tw10190602890660721419 := 0
def tw3688704092934483899 := 0
def tw14253125709553555283 := 0
def tw13443133872579560596 := 0
def tw12595995511206414959 := 0
def tw7978083483359344617 := 0
def tw10551231027251093831 := 0
def tw5242848764672295327 := 0
def tw13928522625404064298 := 0
def tw11303119773295639758 := 0
def tw6804426487885181507 := 0
def tw14115499010575983858 := 0
def tw12837973245272110811 := 0
def tw11666875816214048201 := 0
def tw16700845868601107528 := 0
def tw5420402622186150708 := 0
def tw1017229237673897716 := 0
def tw2750977712160404503 := 0
def tw8078651108728924974 := 0
def tw6482488837240526059 := 0
def tw4249522824096633538 := 0
def tw1518051870328970299 := 0
def tw12454521294904077693 := 0
def tw977567972787924578 := 0
def tw8918256533066090961 := 0
def tw8388964989528920218 := 0
def tw8297185226062510710 := 0
def tw6197681594784162094 := 0
def tw353291279957972634 := 0
def tw3310000252420044674 := 0
def tw2972161172975560195 := 0
def tw1843460934253255015 := 0
def tw16213786692515518109 := 0
def tw13638703869036353207 := 0
def tw10732005471492413939 := 0
def tw9373081928562160834 := 0
def tw18393661660951090853 := 0
def tw11950814724372987900 := 0
def tw1148981502198552108 := 0
def tw13640936307916312410 := 0
def tw12355711830417176915 := 0
def tw10409457701006707046 := 0
def tw12231267919690256816 := 0
def tw8803389042928134190 := 0
def tw15936175764405875475 := 0
def tw2178695573494583015 := 0
def tw9086571936767481505 := 0
def tw8312918025023016196 := 0
def tw7849596953794079308 := 0
def tw1378355477370881909 := 0
def tw10586029163743482696 := 0
def tw1037468003868663400 := 0
def tw8130130072170917074 := 0
def tw864137182352510917 := 0
def tw7654975226567379877 := 0
def tw5581161943627935409 := 0
def tw2649699364999499562 := 0
def tw17724694280751616024 := 0
def tw7022531508200170636 := 0
def tw10647166099112833343 := 0
def tw10328026260152059800 := 0
def tw7352395062121285617 := 0
def tw2929549847208125201 := 0
def tw15968183841615995789 := 0
def tw18026260306587889816 := 0
def tw14414559593582318802 := 0
def tw4408804979002095011 := 0
def tw185098649218694667 := 0
def tw9597197504700376292 := 0
def tw6600615763976391522 := 0
def tw17101696309668740621 := 0
def tw4431046142506139483 := 0
def tw1738353991386120329 := 0
def tw16275939970284790918 := 0
def tw14559781563931576483 := 0
def tw2577128551742851119 := 0
def tw1679999941524295916 := 0
def tw428520171387043 := 0
def tw13787864346587805064 := 0
def tw9338191662560606959 := 0
def tw3636551165339811462 := 0
def tw12251519286510621463 := 0
def tw11513988976740760728 := 0
def tw9912178143537313010 := 0
def tw6418668520312922845 := 0
def tw5607425961001960174 := 0
def tw5213779261589310102 := 0
def tw3158491819210771772 := 0
def tw2626886859458359412 := 0
def tw18139007447715177072 := 0
def tw16889430831093388078 := 0
def tw15792453741828815165 := 0
def tw13201037158767677340 := 0
def tw11323052650153433119 := 0
def tw8765971342094435108 := 0
def tw8520454491153852908 := 0
def tw8050004874648337905 := 0
def tw7851542688400017252 := 0
def tw7501482685336271983 := 0
def tw7417750101159250172 := 0
def tw6719732329033808 := 0
def tw6627480458073502971 := 0
def tw638511178452775937 := 0
def tw6185906570839882195 := 0
def tw5844899885330943844 := 0
def tw5397369150894076870 := 0
def tw4974447776693692501 := 0
def tw4875439252652196038 := 0
def tw2584878165444178649 := 0
def tw18108202551250258441 := 0
def tw17829289519638878151 := 0
def tw17346921380227832688 := 0
def tw17233630519891515419 := 0
def tw17066482303058617501 := 0
def tw1691013157653836102 := 0
def tw16362244895715549340 := 0
def tw15774141786886338700 := 0
def tw15380779838925486168 := 0
def tw15198374725842719356 := 0
def tw14861151199080300109 := 0
def tw14186745505650104730 := 0
def tw13664350341577115749 := 0
def tw13141121464742889802 := 0
def tw13121578817400401456 := 0
def tw11503878926868309258 := 0
def tw11228525696811051396 := 0
def tw11200671609922435254 := 0
def tw14100703505099517082 := 0
def tw6847846783165736525 := 0
def tw9004096757877785928 := 0
def tw8452698214684562995 := 0
def tw3159630868686867605 := 0
def tw13820550853477135870 := 0
def tw13695078301133813271 := 0
def tw2502355467377309809 := 0
def tw16138357552811795033 := 0
def tw15978689983205300335 := 0
def tw13830433606912265719 := 0
def tw12501977547942858771 := 0
def tw9377066880733922692 := 0
def tw9427334849010131664 := 0
def tw8618430367541972477 := 0
def tw8113396285659959907 := 0
def tw7202585465033699520 := 0
def tw4828180005980238955 := 0
def tw12049687567692586616 := 0
def tw11554424060323207985 := 0
def tw9278254695869068599 := 0
def tw6305822438975001733 := 0
def tw18343755008849934246 := 0
def tw15162018219582081148 := 0
def tw5870012387416954623 := 0
def tw3536520070595324636 := 0
def tw3469668132606514145 := 0
def tw2059467875877382241 := 0
def tw17879186572180564735 := 0
def tw17771210650947403904 := 0
def tw10034234924856583448 := 0
def tw10744295641595505645 := 0
def tw4700505534212665668 := 0
def tw4432069980016317897 := 0
def tw13793071652303976527 := 0
def tw8994482792571387138 := 0
def tw9870655402884852039 := 0
def tw9514688971204567033 := 0
def tw9488928321843384630 := 0
def tw8449333529328361406 := 0
def tw6891506188625212097 := 0
def tw6698520557682227043 := 0
def tw6663088345012379577 := 0
def tw3975458728257989958 := 0
def tw17740629600229095240 := 0
def tw17187080594051508379 := 0
def tw16923094374863331045 := 0
def tw16661137144692854606 := 0
def tw16563046700986758108 := 0
def tw15914856857854802645 := 0
def tw15845338670586049167 := 0
def tw15591087759306882933 := 0
def tw15488614493450504071 := 0
def tw14292382157132866827 := 0
def tw14101122146092267912 := 0
def tw13731659111050612577 := 0
def tw13513048674334717476 := 0
def tw12802841028213506763 := 0
def tw6646243294899735886 := 0
def tw10855086507460520217 := 0
def tw526307643193785244 := 0
def tw1498364051259870853 := 0
def tw1758170665656345153 := 0
def tw16748059387666015236 := 0
def tw1394906440929881656 := 0
def tw5180351070988555387 := 0
def tw13461186493030962802 := 0
def tw586633916321352210 := 0
def tw2338130303753693587 := 0
def tw13400489851474680026 := 0
def tw12087483229431349814 := 0
def tw10455094301816708867 := 0
def tw10235316504783602394 := 0
def tw9181518383156322664 := 0
def tw8839741148976852834 := 0
def tw8813503646087898671 := 0
def tw7869358702358144416 := 0
def tw7550368573102590314 := 0
def tw7084644068579251991 := 0
def tw5639864989710326367 := 0
def tw4960197790237746543 := 0
def tw18426697625346633517 := 0
def tw18247473501900656577 := 0
def tw18200247136345881284 := 0
def tw15652873861162816157 := 0
def tw15491341183473247937 := 0
def tw15329065870870203267 := 0
def tw15237620632744832515 := 0
def tw14423733598514755542 := 0
def tw14328742215895433351 := 0
def tw1413627463814881092 := 0
def tw13866144012032625513 := 0
def tw13162959510657525604 := 0
def tw11674458138902615908 := 0
def tw10814346062232053552 := 0
def tw10258262655677581467 := 0
def tw8394610972695305063 := 0
def tw11684641199343179016 := 0
def tw9763601396996473565 := 0
def tw8835025008145706330 := 0
def tw8348279015430105626 := 0
def tw6286521114437568723 := 0
def tw2204831843678668160 := 0
def tw18392191311067706210 := 0
def tw16340739815152176274 := 0
def tw10004103021007925360 := 0
def tw7462808750060512748 := 0
def tw2212004229734634708 := 0
def tw1619268947515557457 := 0
def tw14013790311566458279 := 0
def tw10514619461052588239 := 0
def tw11413896724025342621 := 0
def tw12254682541330505441 := 0
def tw9002900494165312936 := 0
def tw13534782003677915046 := 0
def tw9272511128435757407 := 0
def tw459455013953981564 := 0
def tw6466782434941675553 := 0
def tw16448525582776330515 := 0
def tw6182767994333890436 := 0
def tw4366246784383532744 := 0
def tw16709087945823917410 := 0
def tw11602231057181085311 := 0
def tw9326281755912488164 := 0
def tw9197318741505463631 := 0
def tw8894211219430743610 := 0
def tw8678645520983153813 := 0
def tw8512705170533284994 := 0
def tw8104912077482441041 := 0
def tw578910293010160536 := 0
def tw5437868554281927585 := 0
def tw5205021951407946403 := 0
def tw5144422389493751380 := 0
def tw4590786170720153320 := 0
def tw448396445190021674 := 0
def tw4384348141173764038 := 0
def tw2747787549270390691 := 0
def tw266542104616350928 := 0
def tw18036770119707503678 := 0
def tw17016012593482111165 := 0
def tw16589959310207791225 := 0
def tw14562828020955777662 := 0
def tw14372372063500235192 := 0
def tw14082493676404635972 := 0
def tw8727898957458083630 := 0
def tw307222929825555095 := 0
def tw16141799872120438607 := 0
def tw15517321970238538167 := 0
def tw14691168376080557765 := 0
def tw12844366051309960294 := 0
def tw6242841184146580837 := 0
def tw9407451636145701068 := 0
def tw7464501144498164669 := 0
def tw7381373683532503951 := 0
def tw6771457972045221063 := 0
def tw6294240369063256112 := 0
def tw5066324893551812263 := 0
def tw3339541317663189775 := 0
def tw17774040039305909986 := 0
def tw17362225022640912014 := 0
def tw15553628170185101705 := 0
def tw15022943233573033627 := 0
def tw14784829089157236583 := 0
def tw14533186631921415353 := 0
def tw13087438344845583833 := 0
def tw12743002644448695135 := 0
def tw11610165136546791936 := 0
def tw1155874102865165752 := 0
def tw10201972979814579826 := 0
def tw12536473339172361666 := 0
def tw9293626693637141561 := 0
def tw6364136634785777668 := 0
def tw3229661003671867521 := 0
def tw18159545872401480607 := 0
def tw17626140623498907719 := 0
def tw15626132211262650574 := 0
def tw15158674180036572651 := 0
def tw1432341308015116569 := 0
def tw12875662640070355378 := 0
def tw12008778920849321949 := 0
def tw12073170220127511017 := 0
def tw11802732122883051402 := 0
def tw11476567250284703264 := 0
def tw1082198753602930398 := 0
def tw8704749671964615835 := 0
def tw1874199045751638938 := 0
def tw14258249059158532942 := 0
def tw7993587167783959722 := 0
def tw6578090160245708287 := 0
def tw6555103463147680458 := 0
def tw6013406977380137057 := 0
def tw5995716437341271524 := 0
def tw5940676883914757108 := 0
def tw5160954440652587448 := 0
def tw4369448844051394927 := 0
def tw2659539696913304303 := 0
def tw17712646611462956396 := 0
def tw1531770270763249890 := 0
def tw14831865935115654974 := 0
def tw13849640197703052110 := 0
def tw12647418831133356178 := 0
def tw12111052020666975137 := 0
def tw11856226125587263499 := 0
def tw11834238590641688026 := 0
def tw10281553436509277444 := 0
def tw6465065081304904953 := 0
def tw9237417670071300282 := 0
def tw866319781174389329 := 0
def tw635603816372540279 := 0
def tw6160298168992909499 := 0
def tw5020089770312400110 := 0
def tw4280290296046413065 := 0
def tw407793898892145773 := 0
def tw2153472973584068935 := 0
def tw16564811565658151915 := 0
def tw16301043104795417361 := 0
def tw16147518753505794373 := 0
def tw10145670984789836564 := 0
def tw988877557013944267 := 0
def tw9709405795603990005 := 0
def tw9638898051233292145 := 0
def tw9461969845771564565 := 0
def tw8222074424604753398 := 0
def tw7484962827458589606 := 0
def tw7337781000122705048 := 0
def tw6965505272270663950 := 0
def tw684553184677782029 := 0
def tw623444403656731217 := 0
def tw5229411466968552780 := 0
def tw3885943975746759133 := 0
def tw3161310669667726842 := 0
def tw3132863070103246808 := 0
def tw2477688061311507347 := 0
def tw2399000546739203052 := 0
def tw2362099257557866834 := 0
def tw2003575472387075227 := 0
def tw1913863672520795459 := 0
def tw18177561686763092687 := 0
def tw18150186440405203028 := 0
def tw1775840786312191017 := 0
def tw17336874632310046673 := 0
def tw16499321649571481264 := 0
def tw16136260088974825777 := 0
def tw16116706544815836000 := 0
def tw1586757362061130491 := 0
def tw15721682072362151954 := 0
def tw15282512647901150381 := 0
def tw15216133855459530076 := 0
def tw14940496376794121160 := 0
def tw14773005877290602901 := 0
def tw14483360074844659333 := 0
def tw13909628228654704478 := 0
def tw12884297291040843003 := 0
def tw12823483134605113918 := 0
def tw12753123405998192279 := 0
def tw12452337514044451458 := 0
def tw11165624235857818535 := 0
def tw11161317276410490769 := 0
def tw11069861669066748172 := 0
def tw10403946422311127500 := 0
def tw1014360678811228457 := 0
def tw9926477620446983513 := 0
def tw9840020698356946171 := 0
def tw9840014113958925564 := 0
def tw9728065595037950693 := 0
def tw9691506185827570722 := 0
def tw9681185624601986486 := 0
def tw9676043124584115716 := 0
def tw9625927878015974400 := 0
def tw9622187215576736211 := 0
def tw9608734197700357177 := 0
def tw9532252868245677787 := 0
def tw9510426463213977766 := 0
def tw9487524673400144568 := 0
def tw9468596569614083254 := 0
def tw9467982112699473116 := 0
def tw9451259529146425955 := 0
def tw9427896354329700425 := 0
def tw9417691184378909115 := 0
def tw9399769224872336821 := 0
def tw9270001620343613791 := 0
def tw9240696675073181806 := 0
def tw9225672012038809142 := 0
def tw920028370443919549 := 0
def tw9174613433228476090 := 0
def tw9168691126798167604 := 0
def tw9153488906126449297 := 0
def tw9089612040033066709 := 0
def tw906800604868822890 := 0
def tw9020598850838348131 := 0
def tw8999303241815812233 := 0
def tw8941611655920298660 := 0
def tw8877609434808239926 := 0
def tw8793959728443521773 := 0
def tw8770970900706573843 := 0
def tw8760623834185573144 := 0
def tw8741542062634930629 := 0
def tw8734082506378687079 := 0
def tw8725270460011882732 := 0
def tw8711649785164290291 := 0
def tw8698594565352532456 := 0
def tw8697865509575613542 := 0
def tw8681152844790079292 := 0
def tw8595754404801626263 := 0
def tw8566369954746475822 := 0
def tw8533408095845542521 := 0
def tw8491389216076272450 := 0
def tw8472969941840862411 := 0
def tw8355769801609557168 := 0
def tw8319008909011119310 := 0
def tw8270543703956913637 := 0
def tw8203375003646752204 := 0
def tw8022127716775873909 := 0
def tw802128739599916699 := 0
def tw8011940472488392156 := 0
def tw7963763694814584174 := 0
def tw7940314925977020797 := 0
def tw7931885510919188618 := 0
def tw7910495734198551824 := 0
def tw7905473357395589930 := 0
def tw7869383719737569465 := 0
def tw786719049785621007 := 0
def tw7826581770378424328 := 0
def tw7813715371286138430 := 0
def tw7782481184069723612 := 0
def tw7754690426784844621 := 0
def tw7703215069517328123 := 0
def tw7702327340496400035 := 0
def tw7699461673553320097 := 0
def tw7692128129020117263 := 0
def tw7654072071919185940 := 0
def tw763100863446672482 := 0
def tw7550183687699889563 := 0
def tw7455989658599390648 := 0
def tw7268620137943356213 := 0
def tw7159391918202545828 := 0
def tw7090926762389877795 := 0
def tw7064617901363621710 := 0
def tw7049801974426810682 := 0
def tw6995555420242799950 := 0
def tw698921416970885690 := 0
def tw695442950958759804 := 0
def tw6941458803605860455 := 0
def tw6895407167272474319 := 0
def tw6890345907899662587 := 0
def tw6844579225609709504 := 0
def tw683793615546742552 := 0
def tw6817885676977481834 := 0
def tw6816874550945229283 := 0
def tw6746487673328761429 := 0
def tw6745327118360595283 := 0
def tw6726798309283407134 := 0
def tw6705110810876894113 := 0
def tw6669646585562822458 := 0
def tw6528978219358217577 := 0
def tw6484440611254556388 := 0
def tw6411477132886866509 := 0
def tw6347194896855339265 := 0
def tw6335829084738797877 := 0
def tw6276560080906497283 := 0
def tw6272334917269252128 := 0
def tw6167733308318452610 := 0
def tw6133815958593582396 := 0
def tw6113270123811630667 := 0
def tw6071688090207592940 := 0
def tw6040714395870917969 := 0
def tw6029942325226914491 := 0
def tw5928581035318969298 := 0
def tw5928576008614686812 := 0
def tw5926176941857718127 := 0
def tw5865440391715270255 := 0
def tw5849104897553139602 := 0
def tw582523520535957425 := 0
def tw5798094391712637201 := 0
def tw5742539488695063360 := 0
def tw5736891386520651647 := 0
def tw5712076516788942955 := 0
def tw5645179388190288181 := 0
def tw5527519078533500211 := 0
def tw5471382249400302247 := 0
def tw5375990498235758556 := 0
def tw5316797699734920839 := 0
def tw5303956746206893383 := 0
def tw523265657034176486 := 0
def tw5168982647792011450 := 0
def tw5144417426015975049 := 0
def tw5099471406514679067 := 0
def tw5088386950996839561 := 0
def tw5060171798918941736 := 0
def tw5032374599901085307 := 0
def tw4887002675395577935 := 0
def tw4743831248269170790 := 0
def tw4736947985149896312 := 0
def tw470792402454167737 := 0
def tw4641770591255693558 := 0
def tw463137003533298210 := 0
def tw4606762291930969996 := 0
def tw450395286968406796 := 0
def tw45019666790934015 := 0
def tw4471824684388339615 := 0
def tw4461251494380071053 := 0
def tw4361127165954703754 := 0
def tw433568325813039527 := 0
def tw4328521620379559842 := 0
def tw4313868893985817291 := 0
def tw4297043919325029398 := 0
def tw4238790354423385327 := 0
def tw4215386803228730269 := 0
def tw4164952306799498889 := 0
def tw4063616800804451250 := 0
def tw4041622797717487040 := 0
def tw402678770969321005 := 0
def tw4017227097200154935 := 0
def tw3961488032148530982 := 0
def tw3802858180136282115 := 0
def tw3718928790930319355 := 0
def tw3629424659468437419 := 0
def tw3604808085873162059 := 0
def tw3359204938789829397 := 0
def tw3356931392762445963 := 0
def tw3341641583454119570 := 0
def tw3337067689333056663 := 0
def tw3217981187501035786 := 0
def tw316771328751284499 := 0
def tw3126693440824729688 := 0
def tw307938848889344115 := 0
def tw3050484009321796631 := 0
def tw2888457155339690758 := 0
def tw2882511722508369905 := 0
def tw2861311653846289668 := 0
def tw2815513788156247159 := 0
def tw2782360624691974088 := 0
def tw2775876237133021931 := 0
def tw2752894372264443736 := 0
def tw270254860982777638 := 0
def tw2669885414380204755 := 0
def tw2664814847562469226 := 0
def tw2624934945529163672 := 0
def tw2619036913212681207 := 0
def tw2614300230732121091 := 0
def tw260133787011048672 := 0
def tw253637475184150229 := 0
def tw2460050115498171477 := 0
def tw2406365059741081371 := 0
def tw2385259320783090214 := 0
def tw2308945430568344729 := 0
def tw2261114015805709332 := 0
def tw2192749560377116154 := 0
def tw218928558486244624 := 0
def tw2118973486190872992 := 0
def tw2105118499771278115 := 0
def tw2093247572667072076 := 0
def tw2048516403744204799 := 0
def tw2000240859501405359 := 0
def tw1970996369944084258 := 0
def tw1965158759423589778 := 0
def tw1962318566496094200 := 0
def tw1927719711162818915 := 0
def tw1877169056629677373 := 0
def tw1858448254506108429 := 0
def tw18427114319681598902 := 0
def tw18398536048001992660 := 0
def tw18398122153798273807 := 0
def tw18387871268779709904 := 0
def tw18305471157202802956 := 0
def tw18291898790645507858 := 0
def tw18229485435523694007 := 0
def tw18192122166836171539 := 0
def tw18179629255914105247 := 0
def tw18145377282027368163 := 0
def tw18078994469806650355 := 0
def tw18077754806052690052 := 0
def tw18044979223030240385 := 0
def tw17875567076368159188 := 0
def tw17818297054664649511 := 0
def tw17814892103369630909 := 0
def tw17752588174827019580 := 0
def tw17701163388441696281 := 0
def tw17660752144669738807 := 0
def tw17651831825527644378 := 0
def tw17649346702574678460 := 0
def tw17626350533595544751 := 0
def tw17624751456425278236 := 0
def tw1756624673244154186 := 0
def tw17489550791949433109 := 0
def tw17426581890903840269 := 0
def tw17376162666277227099 := 0
def tw17347298586192705727 := 0
def tw17319354162928349882 := 0
def tw17314458099556624911 := 0
def tw17287436635970027052 := 0
def tw17193394157930105505 := 0
def tw17134629404552452842 := 0
def tw17105738761672436681 := 0
def tw17105452061160972082 := 0
def tw17098569312540715764 := 0
def tw17044367660294853306 := 0
def tw16971787373068923527 := 0
def tw16928934832613999546 := 0
def tw1692146088792960105 := 0
def tw16906583009318971076 := 0
def tw16891041303243448999 := 0
def tw16837404767730819758 := 0
def tw16796442213014821974 := 0
def tw16761945419865685320 := 0
def tw16718416248854677685 := 0
def tw16679585716568131795 := 0
def tw16677353799441999046 := 0
def tw16620460000044066098 := 0
def tw16618283155788544199 := 0
def tw16600289080922352311 := 0
def tw16536576987070870330 := 0
def tw16530672390459352273 := 0
def tw1653052681590507192 := 0
def tw16436163640771400589 := 0
def tw1637783862938328852 := 0
def tw16360719855113766105 := 0
def tw16334381937974798269 := 0
def tw16257952210351371825 := 0
def tw16251076371972884380 := 0
def tw16194512087990640408 := 0
def tw16127778424275657926 := 0
def tw16088106181164826226 := 0
def tw16078293229120851473 := 0
def tw16068495391227608106 := 0
def tw16043663920497397313 := 0
def tw15884089577436579949 := 0
def tw15845119181921920636 := 0
def tw1584282297271777306 := 0
def tw15830799654294455604 := 0
def tw15829334630665604140 := 0
def tw15826297158679007466 := 0
def tw15826051527409369169 := 0
def tw15817689754522066484 := 0
def tw15816395391289744352 := 0
def tw15756361276607466176 := 0
def tw15679922131929689081 := 0
def tw15601301534657461932 := 0
def tw15567694503576699560 := 0
def tw15539107472472077796 := 0
def tw1550961840253508341 := 0
def tw15467093024059930090 := 0
def tw15438468715691862043 := 0
def tw15418004859479280846 := 0
def tw15307764006605420934 := 0
def tw15253714961634841590 := 0
def tw15241072545503798959 := 0
def tw15138491375553231806 := 0
def tw15087569149496932144 := 0
def tw15085025898585133701 := 0
def tw14995995179450790138 := 0
def tw14967384029327648619 := 0
def tw14965516171311007321 := 0
def tw14915217595364031059 := 0
def tw14903473568381632929 := 0
def tw14865412882540253774 := 0
def tw14858055719166005454 := 0
def tw14757346965035003616 := 0
def tw14757294854090336649 := 0
def tw14709884103519498575 := 0
def tw14690699748305395391 := 0
def tw14688706237102811888 := 0
def tw14667772033039147993 := 0
def tw14628986193050614489 := 0
def tw1457578974563022949 := 0
def tw14547412495635561448 := 0
def tw14493817934152024661 := 0
def tw14424095547437845973 := 0
def tw14420369242010808831 := 0
def tw14413897037416706504 := 0
def tw14347308349245565588 := 0
def tw14303165163953025475 := 0
def tw14297350762165646244 := 0
def tw14260562552538648458 := 0
def tw1425767906539043686 := 0
def tw14205266882044961899 := 0
def tw14202453607863048236 := 0
def tw14154450835453448611 := 0
def tw14152008148620485210 := 0
def tw14144795182135738150 := 0
def tw14092710987778371945 := 0
def tw13994705854135070301 := 0
def tw13933173609247511194 := 0
def tw13884978937690361137 := 0
def tw13881995776539186247 := 0
def tw13867564042715730477 := 0
def tw13805289935299967152 := 0
def tw13691642246255313829 := 0
def tw1365195257164033954 := 0
def tw13573094024408155877 := 0
def tw13499849496806968367 := 0
def tw13462540001180219147 := 0
def tw13435865058737750365 := 0
def tw1341947698197833490 := 0
def tw13382631594982259675 := 0
def tw13356430989808710094 := 0
def tw13311968390765929626 := 0
def tw1331159097773829968 := 0
def tw13286874670453613341 := 0
def tw13285632246744256035 := 0
def tw13195909954563274869 := 0
def tw13122107840783061102 := 0
def tw1311494611802153167 := 0
def tw13111980938202899699 := 0
def tw12964890848630108004 := 0
def tw12693690448274467492 := 0
def tw12506779063412881850 := 0
def tw12503744731012864453 := 0
def tw12486772814877134351 := 0
def tw12453868265518607627 := 0
def tw1241259709663335362 := 0
def tw12369683195693857636 := 0
def tw12366561212754596698 := 0
def tw12345145298430022564 := 0
def tw12318741515777416169 := 0
def tw12317519912747129978 := 0
def tw12279817187766835504 := 0
def tw12226524241168256976 := 0
def tw1219723645288130537 := 0
def tw12196068202374445608 := 0
def tw12127779304585362967 := 0
def tw12114091741492561976 := 0
def tw12103915613069903300 := 0
def tw12074592081673156153 := 0
def tw12046491782781578669 := 0
def tw12045029559397916042 := 0
def tw11999513319172761365 := 0
def tw11935981271161119828 := 0
def tw1187987320478773115 := 0
def tw11874994204015217012 := 0
def tw11644797116456250410 := 0
def tw11619140934172159887 := 0
def tw1160394486992356218 := 0
def tw11555029217562606625 := 0
def tw11546160727197511853 := 0
def tw11474481908248124105 := 0
def tw11450485272248371964 := 0
def tw11310301883044688380 := 0
def tw11260034819508749756 := 0
def tw11183843872055249997 := 0
def tw11156299136542871941 := 0
def tw11146185818958201958 := 0
def tw110489644657418252 := 0
def tw1104724187356415524 := 0
def tw11035322839315606049 := 0
def tw10962004371090068008 := 0
def tw10860063322769687056 := 0
def tw10850294176304327093 := 0
def tw10829329465853593935 := 0
def tw10768123612934534621 := 0
def tw10764179496546613536 := 0
def tw10757398424411573822 := 0
def tw10662004684833989025 := 0
def tw10573432805607612762 := 0
def tw10563895636791171229 := 0
def tw10517005539788945512 := 0
def tw10457917278248139051 := 0
def tw10419576576396381482 := 0
def tw10409003349745054059 := 0
def tw10381476769378285103 := 0
def tw10345760045213840245 := 0
def tw10319213999542734972 := 0
def tw10314678609748394184 := 0
def tw10278358509239007910 := 0
def tw10262425204542423519 := 0
def tw10145153592617210389 := 0
def tw10099605046860217984 := 0
def tw10040667186912302670 := 0
end PySem.W.Fast
open PySem PySem.W PyProof.Rows
set_option maxRecDepth 100000 in
set_option maxHeartbeats 0 in
theorem PySem.Challenge.cw_roadsettings_k34_worlds_entered_holds : PySem.Challenge.rw_roadsettings_k34_worlds_entered.Holds := by
  w_on; o_law; k_head; (case hw => w_witness2)
  k_fill
  refine' K34.walk (l := PySem.Challenge.rw_roadsettings_k34_worlds_entered) (P_z18 := 890) rfl rfl (fun w h Y => ⟨PySem.W.km_in_of Y, PySem.W.km_tabs_of Y⟩) ?hK ?hP0 ?F
  case hP0 => decide
  case hK =>
    intro w b hb
    simp only [List.mem_cons, List.not_mem_nil, or_false] at hb
    rcases hb with rfl | rfl | rfl
    · exact ⟨by kernel_rfl, 274, by kernel_rfl⟩
    · exact ⟨by kernel_rfl, 377, by kernel_rfl⟩
    · exact ⟨by kernel_rfl, 892, by kernel_rfl⟩
  case F =>
    intro w mg fa h KX G hmg
    refine' K34.all_mk KX G hmg ?_ ?_ ?_ ?_ ?_ ?_ ?_ ?_ ?_ ?_ ?_ ?_ ?_ ?_ ?_ ?_ ?_ ?_ ?_ ?_ ?_ ?_ ?_ ?_ ?_ ?_ ?_ ?_ ?_ ?_ ?_ ?_ ?_ ?_ ?_ ?_ ?_ ?_ ?_ ?_ ?_ ?_ ?_ ?_ ?_ ?_ ?_ ?_ ?_ ?_ ?_ ?_ ?_ ?_ ?_ ?_ ?_ ?_ ?_ ?_ ?_ ?_ ?_ ?_ ?_ ?_ ?_ ?_ ?_ ?_ ?_ ?_ ?_ ?_ ?_ ?_ ?_ ?_ ?_ ?_ ?_ ?_ ?_ ?_ ?_ ?_ ?_
    all_goals try (first | refine ⟨⟨by k_is, by k_is, by k_is⟩, ⟨_, _, _, _, _, _, _, _, _, rfl, by k_is, by k_is⟩, by k_is⟩ | refine ⟨by k_is, ⟨_, _, _, _, _, _, _, _, _, rfl, by k_is, by k_is⟩, by k_is⟩ | refine ⟨by k_is, ⟨by k_is, by k_is, by k_is, by k_is⟩, by k_is, by k_is⟩ | refine ⟨⟨by k_is, by k_is, by k_is⟩, ⟨_, _, _, _, _, _, _, _, rfl, by k_is, by k_is⟩, by k_is, by kernel_rfl⟩ | refine ⟨by k_is, ⟨_, _, _, _, _, _, _, _, rfl, by k_is, by k_is⟩, by k_is, by kernel_rfl⟩ | (show _ = _; first | k_is | kernel_rfl))
