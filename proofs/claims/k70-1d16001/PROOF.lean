import PyProof.Rows.All
import Wide.All
import OpenK.AllK
import Wide.FinOn
import Lean
import PyProof.EqAt
import PyProof.EqKinds
import PyProof.TupleCall
import PyProof.AutoListH
import PyProof.ExcBaseAll.ValueError
import PyProof.ExcAttrAll.ValueError
import PyProof.Logic
import PyProof.StrReplace2
import PySem.Challenge.RW_roadsettings_k70_values_as_words
set_option Elab.async false
set_option linter.all false
set_option maxRecDepth 100000
namespace L2
open PySem PySem.Spec PyProof.Rows
abbrev Yb:=Sum Int Str
def VN:Yb→Value→Bool
 | .inl k,v=>Value.isInt k v
 | .inr x,v=>Value.isStrOf x v
def keyH (w:World):Yb→Int
 | .inl k=>hashInt k
 | .inr x=>hashStr w x
theorem YL:∀{k:Yb}{v:Value},VN k v=true→(∃ i t,k=Sum.inl i∧v=Value.int i t)∨(∃ x t,k=Sum.inr x∧v=Value.str x t)
 | .inl i,v,h=>by
   obtain ⟨t,e⟩:=Value.isInt_shape (k:=i) (v:=v) h
   exact .inl ⟨i,t,rfl,e⟩
 | .inr x,v,h=>by
   obtain ⟨t,e⟩:=Value.isStrOf_shape (x:=x) (v:=v) h
   exact .inr ⟨x,t,rfl,e⟩
theorem Zhs (i:Int)(t:Tok):VN (.inl i) (.int i t)=true:=by simp [VN,Value.isInt]
theorem Zgy (x:Str)(t:Tok):VN (.inr x) (.str x t)=true:=by simp [VN,Value.isStrOf]
theorem Zll (a b:Int):decide ((Sum.inl a:Yb)=Sum.inl b)=(a == b):=by
 by_cases e:a=b
 · subst e;simp
 · have h:¬ (Sum.inl a:Yb)=Sum.inl b:=fun q=>e (Sum.inl.inj q)
   rw [decide_eq_false h]
   exact (beq_eq_false_iff_ne.mpr e).symm
theorem ZkT (a b:Str):decide ((Sum.inr a:Yb)=Sum.inr b)=decide (a=b):=by
 by_cases e:a=b
 · subst e;simp
 · have h:¬ (Sum.inr a:Yb)=Sum.inr b:=fun q=>e (Sum.inr.inj q)
   rw [decide_eq_false h,decide_eq_false e]
theorem Zmt (a:Int)(b:Str):decide ((Sum.inl a:Yb)=Sum.inr b)=false:=decide_eq_false (fun q=>nomatch q)
theorem Zlb (a:Str)(b:Int):decide ((Sum.inr a:Yb)=Sum.inl b)=false:=decide_eq_false (fun q=>nomatch q)
def Yu (prog:Program)(w:World):PySem.KeyKind prog w Yb where
 is:=VN
 hash:=keyH w
 inj := fun v a b ha hb=>by
   rcases YL ha with ⟨i,t,rfl,rfl⟩ | ⟨x,t,rfl,rfl⟩
   · rcases YL hb with ⟨j,u,rfl,e⟩ | ⟨y,u,rfl,e⟩
     · injection e with e1 _;rw [e1]
     · exact nomatch e
   · rcases YL hb with ⟨j,u,rfl,e⟩ | ⟨y,u,rfl,e⟩
     · exact nomatch e
     · injection e with e1 _;rw [e1]
 byValue:=fun k v h=>by
   rcases YL h with ⟨i,t,rfl,rfl⟩ | ⟨x,t,rfl,rfl⟩<;>rfl
 pyHash:=fun hv h=>by
   rcases YL hv with ⟨i,t,rfl,rfl⟩ | ⟨x,t,rfl,rfl⟩
   · exact wpAny_pyHash_int h
   · exact wpAny_pyHash_str h
 eqBool:=fun hu hv h=>by
   rcases YL hu with ⟨i,t,rfl,rfl⟩ | ⟨x,t,rfl,rfl⟩
   · rcases YL hv with ⟨j,u,rfl,rfl⟩ | ⟨y,u,rfl,rfl⟩
     · rw [Zll] at h;exact wpAny_eqBool_int h
     · rw [Zmt] at h;exact SeqAt.EqAt.int_str i t y u _ _ _ _ h
   · rcases YL hv with ⟨j,u,rfl,rfl⟩ | ⟨y,u,rfl,rfl⟩
     · rw [Zlb] at h;exact SeqAt.EqAt.str_int x t j u _ _ _ _ h
     · rw [ZkT] at h;exact wpAny_eqBool_str h
 «strs»:=fun k x t v h=>by
   rcases YL h with ⟨i,u,rfl,e⟩ | ⟨y,u,rfl,e⟩
   · exact nomatch e
   · injection e with e1 _
     subst e1
     cases v<;>rfl
theorem ZdH (prog:Program)(w:World)(i:Int)(t:Tok):(Yu prog w).is (.inl i) (.int i t)=true:=Zhs i t
theorem ZdC (prog:Program)(w:World)(x:Str)(t:Tok):(Yu prog w).is (.inr x) (.str x t)=true:=Zgy x t
end L2
namespace L2
open PySem PySem.Spec PyProof.Rows
inductive V where
 | non | bl (b:Bool) | int (i:Int) | str (x:Str) | byt (b:Array UInt8) | flt (b:UInt64) | ref (a:Addr) | ty (n:String)
 deriving DecidableEq
def RelV:V→Value→Prop
 | .non,u=>u=Value.none
 | .bl b,u=>u=Value.bool b
 | .int i,u=>∃ t,u=Value.int i t
 | .str x,u=>∃ t,u=Value.str x t
 | .byt b,u=>∃ t,u=Value.bytes b t
 | .flt b,u=>∃ t,u=Value.float b t
 | .ref a,u=>u=Value.ref a
 | .ty n,u=>u=Value.type n
abbrev Vals:List V→List Value→Prop:=Paired RelV
theorem Vals.length {xs:List V}{us:List Value}(r:Vals xs us):xs.length=us.length:=Paired.length r
theorem Vals.get:∀{xs:List V}{us:List Value}{i:Nat}{x:V},Vals xs us→xs[i]?=some x→∃ u,us[i]?=some u∧RelV x u
 | _,_,_,_,.nil,e=>by simp at e
 | _,_,0,_,.cons r _,e=>by simp at e;subst e;exact ⟨_,rfl,r⟩
 | _,_,i+1,x,.cons _ t,e=>by
   obtain ⟨u,h1,h2⟩:=Vals.get (i:=i) (x:=x) t (by simpa using e)
   exact ⟨u,by simpa using h1,h2⟩
theorem Vals.set {x:V}{u:Value}(r:RelV x u):∀{xs:List V}{us:List Value}(i:Nat),Vals xs us→Vals (xs.set i x) (us.set i u)
 | _,_,_,.nil=>.nil
 | _,_,0,.cons _ t=>.cons r t
 | _,_,i+1,.cons q t=>.cons q (Vals.set r i t)
theorem Vals.append:∀{xs ys:List V}{us ws:List Value},Vals xs us→Vals ys ws→Vals (xs++ys) (us++ws)
 | _,_,_,_,.nil,s=>s
 | _,_,_,_,.cons r t,s=>.cons r (Vals.append t s)
theorem Vals.take:∀{xs:List V}{us:List Value}(n:Nat),Vals xs us→Vals (xs.take n) (us.take n)
 | _,_,0,_=>.nil
 | _,_,_+1,.nil=>.nil
 | _,_,n+1,.cons r t=>.cons r (Vals.take n t)
theorem Vals.drop:∀{xs:List V}{us:List Value}(n:Nat),Vals xs us→Vals (xs.drop n) (us.drop n)
 | _,_,0,r=>r
 | _,_,_+1,.nil=>.nil
 | _,_,n+1,.cons _ t=>Vals.drop n t
def RelO:Option V→Option Value→Prop
 | some v,some u=>RelV v u
 | none,none=>True
 | _,_=>False
def KV {κ:Type}:List (κ×V)→List (κ×Value)→Prop:=Paired fun (p:κ×V) (q:κ×Value)=>p.1=q.1∧RelV p.2 q.2
def kV:Yb→V
 | .inl i=>.int i
 | .inr x=>.str x
inductive HO where
 | lst (xs:List V)
 | tup (xs:List V)
 | dK (kvs:List (Yb×V)) | dT (kvs:List (List Yb×V))
 | set (S:Int→Bool) (n:Nat)
 | ins (C dx:Addr) (fs:List (Str×V))
 | own (x:Addr)
 | xd (fs:List (Str×V))
 | met (f x:Addr)
 | rng (lo hi:Int)
 | frz (o:Obj) (u:HO)
 | tbl (ps:Array Value)
 | ext (φ:Heap→Prop)
abbrev Hp:=Addr→Option HO
def upd (H:Hp)(a:Addr)(o:HO):Hp:=fun b=>if b=a then some o else H b
theorem Zb {H:Hp}{a:Addr}{o:HO}:upd H a o a=some o:=by unfold upd;rw [if_pos rfl]
theorem Zm {H:Hp}{a b:Addr}{o:HO}(h:b≠a):upd H a o b=H b:=by unfold upd;rw [if_neg h]
theorem ZjL {H:Hp}{a:Addr}{o u:HO}:upd (upd H a o) a u=upd H a u:=by
 funext b;unfold upd;split<;>rfl
theorem Zjn {H:Hp}{a b:Addr}{o u:HO}(h:H a=some o)(h':H b=some u)(d:o≠u):a≠b:=by
 intro e;subst e;rw [h] at h';exact d (Option.some.inj h')
theorem ZG {H:Hp}{a b:Addr}{o:HO}(h:H a=some o)(h':H b=none):a≠b:=by
 intro e;subst e;rw [h] at h';cases h'
section
variable (P:Program)(w:World)
def ObjOk (H:Hp)(h:Heap)(a:Addr):HO→Prop
 | .lst xs=>xs.length≤sizeLine∧∃ (its:List Value) (n:Nat),Vals xs its∧h.get? a=some { cls:=.type "list",data:=.seq its.toArray n }
 | .tup xs=>xs.length≤sizeLine∧∃ its:List Value,Vals xs its∧IsTup h a its.toArray
 | .dK kvs=>kvs.length≤sizeLine∧(a == sysModules)=false∧∃ vs,KV kvs vs∧h.DictOf (Yu P w) a vs
 | .dT kvs=>kvs.length≤sizeLine∧(a == sysModules)=false∧∃ xs:List (List Yb×Addr×Value),
     Paired (fun (p:List Yb×V) (q:List Yb×Addr×Value)=>p.1=q.1∧H q.2.1=some (.tup (p.1.map kV))∧RelV p.2 q.2.2) kvs xs ∧
     ∃ o es ep,h.get? a=some o∧o.ExactDict∧o.data=.dict es ep∧es.toList=xs.map (entryOfKey (tupleKind (Yu P w)))∧(xs.map (·.1)).Nodup
 | .set S n=>h.SetOf (intKind P w) a S n
 | .ins C dx fs=>H dx=some (.own a)∧fs.length≤1000∧dx≠a∧h.get? a=some (PySem.W.instObj C dx) ∧
     ∃ mA,h.Ns1 dx mA∧(∀ f,RelO (fs.lookup f) (mA f))∧PySem.Within mA (fs.map (·.1))
 | .own _=>∃ o,h.get? a=some o
 | .xd fs=>∃ mA,h.Ns1 a mA∧∀ f,RelO (fs.lookup f) (mA f)
 | .rng lo hi=>∃ t u v,h.get? a=some { cls:=.type "range",data:=.fields #[.int lo t,.int hi u,.int 1 v] }
 | .frz o u=>h.get? a=some o∧ObjOk H h a u
 | .tbl ps=>h.get? a=some { cls:=.none,data:=.fields ps }
 | .met f x=>h.get? a=some (PySem.W.methodObj (.ref f) (.ref x))
 | .ext φ=>φ h∧(∃ o,h.get? a=some o)∧∀ h1 h2:Heap,φ h1→(∀ o,h1.get? a=some o→h2.get? a=some o)→φ h2
def HOk (H:Hp)(h:Heap):Prop:=∀ a o,H a=some o→ObjOk P w H h a o
end
section
variable {P:Program}{w:World}{H H':Hp}{h h':Heap}{a:Addr}{o:HO}
theorem ObjOk.lt (x:ObjOk P w H h a o):a < h.objs.size:=by
 cases o with
 | lst xs=>obtain ⟨_,_,_,_,e⟩:=x;exact Heap.lt_size e
 | tup xs=>obtain ⟨_,_,_,p⟩:=x;exact p.lt
 | dK kvs=>obtain ⟨_,_,_,_,o,_,_,e,_⟩:=x;exact Heap.lt_size e
 | dT kvs=>obtain ⟨_,_,_,_,o,_,_,e,_⟩:=x;exact Heap.lt_size e
 | set S n=>obtain ⟨o,_,_,_,e,_⟩:=x;exact Heap.lt_size e
 | ins C dx fs=>obtain ⟨_,_,_,e,_⟩:=x;exact Heap.lt_size e
 | own y=>obtain ⟨_,e⟩:=x;exact Heap.lt_size e
 | xd fs=>obtain ⟨_,⟨_,_,_,e,_⟩,_⟩:=x;exact Heap.lt_size e
 | rng lo hi=>obtain ⟨_,_,_,e⟩:=x;exact Heap.lt_size e
 | frz ob u=>obtain ⟨e,_⟩:=x;exact Heap.lt_size e
 | tbl ps=>exact Heap.lt_size (show h.get? a=some _ from x)
 | met f y=>exact Heap.lt_size (show h.get? a=some _ from x)
 | ext φ=>obtain ⟨_,⟨_,e⟩,_⟩:=x;exact Heap.lt_size e
theorem Paired.mapP {α β:Type}{F G:α→β→Prop}:∀{l₁:List α}{l₂:List β},Paired F l₁ l₂→(∀ a b,F a b→G a b)→Paired G l₁ l₂
 | _,_,.nil,_=>.nil
 | _,_,.cons r t,f=>.cons (f _ _ r) (Paired.mapP t f)
theorem ObjOk.stay (x:ObjOk P w H h a o)(k:∀ b u,(b=a∨H b=some (.own a))→h.get? b=some u→h'.get? b=some u)
   (ho:∀ b,H b=some (.own a)→H' b=some (.own a)) (ht:∀ b xs,H b=some (.tup xs)→H' b=some (.tup xs)):ObjOk P w H' h' a o:=by
 induction o with
 | lst xs=>obtain ⟨z,its,n,r,e⟩:=x;exact ⟨z,its,n,r,k _ _ (.inl rfl) e⟩
 | tup xs=>obtain ⟨z,its,r,ob,e,c⟩:=x;exact ⟨z,its,r,ob,k _ _ (.inl rfl) e,c⟩
 | dK kvs=>obtain ⟨z,y,vs,r,ob,es,ep,e,c⟩:=x;exact ⟨z,y,vs,r,ob,es,ep,k _ _ (.inl rfl) e,c⟩
 | dT kvs =>
   obtain ⟨z,y,xs,r,ob,es,ep,e,c⟩:=x
   exact ⟨z,y,xs,Paired.mapP r fun p q z=>⟨z.1,ht _ _ z.2.1,z.2.2⟩,ob,es,ep,k _ _ (.inl rfl) e,c⟩
 | set S n=>obtain ⟨ob,es,ep,t,e,c⟩:=x;exact ⟨ob,es,ep,t,k _ _ (.inl rfl) e,c⟩
 | ins C dx fs =>
   obtain ⟨d,z,ne,e,mA,⟨od,es,ep,e2,c⟩,r⟩:=x
   exact ⟨ho _ d,z,ne,k _ _ (.inl rfl) e,mA,⟨od,es,ep,k _ _ (.inr d) e2,c⟩,r⟩
 | own y=>obtain ⟨ob,e⟩:=x;exact ⟨ob,k _ _ (.inl rfl) e⟩
 | xd fs=>obtain ⟨mA,⟨od,es,ep,e,c⟩,r⟩:=x;exact ⟨mA,⟨od,es,ep,k _ _ (.inl rfl) e,c⟩,r⟩
 | rng lo hi=>obtain ⟨t,u,v,e⟩:=x;exact ⟨t,u,v,k _ _ (.inl rfl) e⟩
 | frz ob u ih=>obtain ⟨e,q⟩:=x;exact ⟨k _ _ (.inl rfl) e,ih q⟩
 | tbl ps =>
   have e:h.get? a=some { cls:=.none,data:=.fields ps }:=x
   show h'.get? a=some { cls:=.none,data:=.fields ps }
   exact k a _ (.inl rfl) e
 | met f y =>
   have e:h.get? a=some (PySem.W.methodObj (.ref f) (.ref y)):=x
   show h'.get? a=some (PySem.W.methodObj (.ref f) (.ref y))
   exact k a _ (.inl rfl) e
 | ext φ=>obtain ⟨p,⟨o,e⟩,st⟩:=x;exact ⟨st _ _ p fun o q=>k _ _ (.inl rfl) q,⟨o,k _ _ (.inl rfl) e⟩,st⟩
theorem HOk.lt (x:HOk P w H h)(e:H a=some o):a < h.objs.size:=(x a o e).lt
theorem HOk.fresh (x:HOk P w H h)(e:h.objs.size≤a):H a=none:=by
 cases q:H a with
 | none=>rfl
 | some u=>exact absurd (Nat.lt_of_lt_of_le (x.lt q) e) (Nat.lt_irrefl _)
theorem HOk.kept (x:HOk P w H h)(k:∀ b u,h.get? b=some u→h'.get? b=some u):HOk P w H h':=fun a o e =>
 (x a o e).stay (fun b u _ q=>k b u q) (fun _ q=>q) fun _ _ q=>q
theorem HOk.laid (x:HOk P w H h)(k:∀ b u,h.get? b=some u→h'.get? b=some u)(hp:h.objs.size≤a)(new:ObjOk P w (upd H a o) h' a o):HOk P w (upd H a o) h':=fun b u e=>by
 have hn:=x.fresh hp
 by_cases hb:b=a
 · subst hb;rw [Zb] at e;cases e;exact new
 · rw [Zm hb] at e
   exact (x b u e).stay (fun c v _ q=>k c v q) (fun c q=>by rw [Zm (ZG q hn)];exact q) fun c xs q=>by rw [Zm (ZG q hn)];exact q
end
def Rd (H:Hp)(a:Addr)(u:HO):Prop:=H a=some u∨∃ o,H a=some (.frz o u)
theorem Rd.ok {P:Program}{w:World}{H:Hp}{h:Heap}{a:Addr}{u:HO}(r:Rd H a u)(x:HOk P w H h):ObjOk P w H h a u:=by
 rcases r with r | ⟨o,r⟩
 · exact x a u r
 · obtain ⟨_,q⟩:=x a _ r
   exact q
def Mut:Option HO→Prop
 | some (.lst _)=>True
 | some (.dK _)=>True
 | some (.dT _)=>True
 | some (.set _ _)=>True
 | some (.ins _ _ _)=>True
 | some (.ext _)=>True
 | _=>False
section
variable {P:Program}{w:World}{H:Hp}{h h':Heap}{x e:Addr}{o':HO}
theorem HOk.write (ok:HOk P w H h)(mu:Mut (H x))(he:e=x∨H e=some (.own x))(k:∀ b u,b≠e→h.get? b=some u→h'.get? b=some u)(heo:∃ u,h'.get? e=some u)
   (new:ObjOk P w (upd H x o') h' x o'):HOk P w (upd H x o') h':=fun b u q=>by
 have nown:∀ c y,H c=some (.own y)→c≠x:=fun c y r z=>by subst z;rw [r] at mu;exact mu
 have ntup:∀ c xs,H c=some (.tup xs)→c≠x:=fun c xs r z=>by subst z;rw [r] at mu;exact mu
 by_cases hb:b=x
 · subst hb;rw [Zb] at q;cases q;exact new
 · rw [Zm hb] at q
   by_cases hbe:b=e
   · have q':H b=some (.own x):=by
       rcases he with z | z
       · exact absurd (hbe.trans z) hb
       · rw [hbe];exact z
     rw [q] at q';cases q'
     obtain ⟨v,hv⟩:=heo
     exact ⟨v,by rw [hbe];exact hv⟩
   · refine (ok b u q).stay (fun c v hc r=>k c v ?_ r) (fun c r=>by rw [Zm (nown c b r)];exact r) fun c xs r=>by rw [Zm (ntup c xs r)];exact r
     rcases hc with rfl | hc
     · exact hbe
     · rintro rfl
       rcases he with z | z
       · exact nown c b hc z
       · rw [hc] at z;cases z;exact hb rfl
end
structure Un (fs ex:List Addr)(H H':Hp)(h h':Heap):Prop where
 keep:∀ b o,h.get? b=some o→H b=none→b ∉ fs→b ∉ ex→h'.get? b=some o
 slot:∀ b o,h.get? b=some o→H b=none→b∈fs→b ∉ ex→∃ sl,h'.get? b=some { o with slots:=sl }
 free:∀ b o,h.get? b=some o→H b=none→b ∉ ex→H' b=none
 there:∀ b o,h.get? b=some o→b ∉ ex→∃ o',h'.get? b=some o'
 tups:∀ b xs,H b=some (.tup xs)→H' b=some (.tup xs)
 frzs:∀ b o u,H b=some (.frz o u)→H' b=some (.frz o u)
 tbls:∀ b ps,H b=some (.tbl ps)→∃ more,H' b=some (.tbl (ps++more))
section
variable {fs fs' ex ex':List Addr}{H H1 H2:Hp}{h h1 h2 h':Heap}{a x e:Addr}{o:HO}
theorem Un.any (u:Un fs ex H H1 h h1){b:Addr}{ob:Obj}(q:h.get? b=some ob)(n:H b=none)(hx:b ∉ ex):∃ sl,h1.get? b=some { ob with slots:=sl }:=by
 by_cases hb:b∈fs
 · exact u.slot b ob q n hb hx
 · exact ⟨ob.slots,u.keep b ob q n hb hx⟩
theorem Un.kept (k:∀ b u,h.get? b=some u→h'.get? b=some u):Un fs ex H H h h' :=
 ⟨fun b ob q _ _ _=>k b ob q,fun b ob q _ _ _=>⟨ob.slots,k b ob q⟩,fun _ _ _ n _=>n,fun b ob q _=>⟨ob,k b ob q⟩,fun _ _ q=>q,fun _ _ _ q=>q,fun _ ps q=>⟨#[],by rw [q];simp⟩⟩
theorem Un.refl:Un fs ex H H h h:=Un.kept fun _ _ q=>q
theorem Un.laid (k:∀ b u,h.get? b=some u→h'.get? b=some u)(hp:h.objs.size≤a)(hn:H a=none):Un fs ex H (upd H a o) h h' where
 keep:=fun b u q _ _ _=>k b u q
 slot:=fun b u q _ _ _=>⟨u.slots,k b u q⟩
 free:=fun b u q n _=>by rw [Zm (Nat.ne_of_lt (Nat.lt_of_lt_of_le (Heap.lt_size q) hp))];exact n
 there:=fun b u q _=>⟨u,k b u q⟩
 tups:=fun b xs q=>by rw [Zm (ZG q hn)];exact q
 frzs:=fun b u xs q=>by rw [Zm (ZG q hn)];exact q
 tbls:=fun b ps q=>⟨#[],by rw [Zm (ZG q hn),q];simp⟩
theorem Un.write (mu:Mut (H x))(he:e=x∨H e=some (.own x))(k:∀ b u,b≠e→h.get? b=some u→h'.get? b=some u)(heo:∃ u,h'.get? e=some u):Un fs ex H (upd H x o) h h':=by
 have hx:∀ b,H b=none→b≠x:=fun b n z=>by subst z;rw [n] at mu;exact mu
 have hb:∀ b,H b=none→b≠e:=fun b n z=>by
   subst z
   rcases he with r | r
   · exact hx b n r
   · rw [n] at r;cases r
 have hm:∀ b u,H b=some u→¬ Mut (some u)→b≠x:=fun b u q nm z=>by subst z;rw [q] at mu;exact nm mu
 refine ⟨fun b u q n _ _=>k b u (hb b n) q,fun b u q n _ _=>⟨u.slots,k b u (hb b n) q⟩,fun b u q n _=>by rw [Zm (hx b n)];exact n,fun b u q _=>?_,
   fun b xs q=>by rw [Zm (hm b _ q fun z=>z)];exact q,fun b u xs q=>by rw [Zm (hm b _ q fun z=>z)];exact q,fun b ps q=>⟨#[],by rw [Zm (hm b _ q fun z=>z),q];simp⟩⟩
 by_cases hbe:b=e
 · subst hbe;exact heo
 · exact ⟨u,k b u hbe q⟩
end
def trk (h:Heap)(H:Hp):List Addr:=(List.range h.objs.size).filter fun a=>(H a).isSome
def UJ (h:Heap)(H:Hp):Heap:=PySem.W.hideAll h (trk h H)
theorem ZgU (h:Heap)(H:Hp):(UJ h H).objs.size=h.objs.size:=PySem.W.hideAll_size _ _
theorem ZiI {h:Heap}{H:Hp}{b:Addr}{o:Obj}(e:h.get? b=some o)(n:H b=none):(UJ h H).get? b=some o :=
 PySem.W.hideAll_get _ e fun hm=>by
   have q:(H b).isSome=true:=(List.mem_filter.mp hm).2
   rw [n] at q;simp at q
theorem ZjW {h:Heap}{H:Hp}{b:Addr}{o:Obj}(e:(UJ h H).get? b=some o):h.get? b=some o∧H b=none:=by
 have e':h.get? b=some o:=PySem.W.of_hideAll (trk h H) e
 refine ⟨e',?_⟩
 cases q:H b with
 | none=>rfl
 | some x =>
   have hm:b∈trk h H:=List.mem_filter.mpr ⟨List.mem_range.mpr (Heap.lt_size e'),by simp [q]⟩
   have z:(UJ h H).get? b=none:=PySem.W.hideAll_none (trk h H) hm
   rw [z] at e;cases e
end L2
namespace L2
open PySem PySem.Spec PyProof.Rows
structure Mod (K:PySem.W.Frag)(mg:Str→Option Value)(base:Heap):Prop where
 kin:K.In base
 glob:base.Ns mainGlobals mg
 blt:∃ mb,base.Ns builtinsNs mb∧∀ x:Str,x≠"__name__"→mb x=bootBuiltins x
 nolimit:base.NoLimit
structure Cx where
 prog:Program
 w:World
 K:PySem.W.Frag
 mg:Str→Option Value
 base:Heap
 A:Around
 N:List Str
 s₀:Shared
 H₀:Hp
 env:Env
 outer:List Env
 stack:List Env
 ex:List Addr
 fn:Str→Bool
 calm:Bool
 pn:List (Addr×Obj)
 xe:Value→Shared→Prop
def Xs (l:List Env):List Addr:=l.filterMap (·.frame)
abbrev Cx.fs (X:Cx):List Addr:=Xs X.outer
def Vis (sc:Scope)(x:Str):Prop:=sc.names.lookup x=some .local∨sc.names.lookup x=some .cell∨sc.names.lookup x=some .free
def Loc (sc:Scope)(x:Str):Prop:=sc.names.lookup x=some .local∨sc.names.lookup x=some .cell
def Look (env:Env)(h:Heap)(m:Str→Option Value)(x:Str)(u:Value):Prop :=
 (env.kindOf x=some .local∧m x=some u)∨((env.kindOf x=some .cell∨env.kindOf x=some .free)∧∃ c,env.cells.lookup x=some c∧h.IsCell c (some u))
structure Cx.Ok (X:Cx):Prop where
 mod:Mod X.K X.mg X.base
 kind:X.env.scope.kind=.function
 glob:X.env.globals=mainGlobals
 blt:X.env.builtins=builtinsNs
 above:X.s₀.heap.objs.size≤X.env.locals
 inj:∀ x y c,X.env.cells.lookup x=some c→X.env.cells.lookup y=some c→x=y
 has:∀ x,(X.env.kindOf x=some .cell∨X.env.kindOf x=some .free)→∃ c,X.env.cells.lookup x=some c
 cab:∀ x c,X.fn x=true→X.env.cells.lookup x=some c→X.s₀.heap.objs.size≤c
 hd:X.calm=true→X.A.handled=none
 frames:X.A.frames=some X.stack
 stk:X.stack=X.outer∨(X.stack=X.env::X.outer∧X.env.frame=some X.env.locals)
 exf:∀ b∈X.ex,b≠X.env.locals∧∀ x c,X.env.cells.lookup x=some c→c≠b
 bs:∀ b o,X.base.get? b=some o→X.s₀.heap.get? b=some o∧X.H₀ b=none
 bsz:X.base.objs.size≤X.s₀.heap.objs.size
 noex:∀ b o,X.base.get? b=some o→b ∉ X.ex
 exfs:∀ b∈X.ex,b ∉ X.fs
 funs:X.s₀.heap.FunFrames X.base X.outer
 frf:∀ b∈X.fs,X.H₀ b=none
structure Inv (X:Cx)(pins:List (Addr×Obj))(σ:List (Option V))(H:Hp)(s:Shared):Prop where
 ok:X.Ok
 os:s.os=X.s₀.os
 bare:AllBare s.gens
 base:Un X.fs X.ex X.H₀ H X.s₀.heap s.heap
 loc:∃ m,s.heap.Ns X.env.locals m∧∀ (i:Nat) (x:Str) (v:V),X.N[i]?=some x→σ[i]?=some (some v)→Vis X.env.scope x→∃ u,RelV v u∧Look X.env s.heap m x u
 cell:∀ x c,X.env.cells.lookup x=some c→∃ v,s.heap.IsCell c v
 free:H X.env.locals=none
 freeC:∀ x c,X.env.cells.lookup x=some c→H c=none
 pin:∀ p∈X.pn++pins,s.heap.get? p.1=some p.2∧H p.1=none∧p.1≠X.env.locals∧p.1 ∉ X.fs∧∀ v,p.2.data≠.cell v
 hok:HOk X.prog X.w H s.heap
 len:σ.length=X.N.length
section
variable {X:Cx}{pins:List (Addr×Obj)}{σ:List (Option V)}{H H':Hp}{s:Shared}{h':Heap}
theorem Cx.Ok.nofr (ok:X.Ok){b:Addr}{o:Obj}(e:X.base.get? b=some o):b ∉ X.fs:=fun hb=>by
 have:=(ok.funs.mem hb).1
 rw [e] at this;cases this
theorem Inv.bs (I:Inv X pins σ H s):∀ b o,X.base.get? b=some o→s.heap.get? b=some o∧H b=none:=fun b o e =>
 ⟨I.base.keep b o (I.ok.bs b o e).1 (I.ok.bs b o e).2 (I.ok.nofr e) (I.ok.noex b o e),I.base.free b o (I.ok.bs b o e).1 (I.ok.bs b o e).2 (I.ok.noex b o e)⟩
theorem Inv.bk (I:Inv X pins σ H s):∀ b o,X.base.get? b=some o→s.heap.get? b=some o:=fun b o e=>(I.bs b o e).1
theorem Inv.mod (I:Inv X pins σ H s):Mod X.K X.mg X.base:=I.ok.mod
theorem Inv.kIn (I:Inv X pins σ H s):X.K.In s.heap:=I.ok.mod.kin.keeps I.bk
theorem Inv.nolimit (I:Inv X pins σ H s):s.heap.NoLimit:=I.ok.mod.nolimit.keeps I.bk
theorem Inv.lt (I:Inv X pins σ H s):X.env.locals < s.heap.objs.size:=let ⟨_,hn,_⟩:=I.loc;hn.lt
theorem Inv.sz (I:Inv X pins σ H s):X.s₀.heap.objs.size≤s.heap.objs.size:=Nat.le_trans I.ok.above (Nat.le_of_lt I.lt)
theorem Inv.nofs (I:Inv X pins σ H s){a:Addr}(h:s.heap.objs.size≤a):a ∉ X.fs:=fun hb=>by
 obtain ⟨_,o,ho,_⟩:=I.ok.funs.mem hb
 exact absurd (Nat.lt_of_lt_of_le (Heap.lt_size ho) (Nat.le_trans I.sz h)) (Nat.lt_irrefl _)
theorem Inv.cne (I:Inv X pins σ H s):∀ x c,X.env.cells.lookup x=some c→c≠X.env.locals:=fun x c e z=>by
 obtain ⟨v,o,ho,hd⟩:=I.cell x c e
 obtain ⟨m,⟨o',es,ep,ho',hd',_⟩,_⟩:=I.loc
 rw [z,ho'] at ho;cases ho;rw [hd'] at hd;cases hd
theorem Inv.funs (I:Inv X pins σ H s):s.heap.FunFrames X.base X.outer:=by
 have all:∀ (l:List Env),(∀ b∈Xs l,b∈X.fs)→X.s₀.heap.FunFrames X.base l→s.heap.FunFrames X.base l:=by
   intro l
   induction l with
   | nil=>intro _ _;trivial
   | cons env r ih =>
     intro hs hl
     obtain ⟨hk,⟨L,o,hf,hn,ho,hd⟩,hr⟩:=hl
     have hL:L∈X.fs:=hs L (by unfold Xs;rw [List.filterMap_cons,hf];exact List.mem_cons_self)
     obtain ⟨sl,e⟩:=I.base.slot L o ho (I.ok.frf L hL) hL fun z=>I.ok.exfs L z hL
     exact ⟨hk,⟨L,_,hf,hn,e,hd⟩,ih (fun b hb=>hs b (by unfold Xs;rw [List.filterMap_cons,hf];exact List.mem_cons_of_mem _ hb)) hr⟩
 exact all X.outer (fun _ hb=>hb) I.ok.funs
theorem Inv.stack (I:Inv X pins σ H s):s.heap.FunFrames X.base X.stack:=by
 rcases I.ok.stk with e | ⟨e,hf⟩
 · rw [e];exact I.funs
 · rw [e]
   obtain ⟨m,hn,_⟩:=I.loc
   refine .cons (by rw [I.ok.kind];decide) hf hn ?_ I.funs
   exact Heap.get?_none_of_le (Nat.le_trans I.ok.bsz I.ok.above)
theorem Inv.stkSub (I:Inv X pins σ H s):∀ b∈Xs X.stack,b∈X.env.locals::X.fs:=fun b hb=>by
 rcases I.ok.stk with e | ⟨e,hf⟩
 · rw [e] at hb;exact List.mem_cons_of_mem _ hb
 · rw [e] at hb
   unfold Xs at hb
   rw [List.filterMap_cons,hf] at hb
   exact hb
theorem Inv.stkFree (I:Inv X pins σ H s):∀ b∈Xs X.stack,H b=none:=fun b hb=>by
 rcases List.mem_cons.mp (I.stkSub b hb) with e | hb
 · rw [e];exact I.free
 · obtain ⟨_,o,ho,_⟩:=I.ok.funs.mem hb
   exact I.base.free b o ho (I.ok.frf b hb) fun z=>I.ok.exfs b z hb
theorem Inv.step {g':Array GenState}{t':Nat}{d':Drawn}{ch:List Addr}(I:Inv X pins σ H s)
   (hch:∀ b∈ch,(b∈X.ex∨X.s₀.heap.objs.size≤b)∧b≠X.env.locals∧(∀ x c,X.env.cells.lookup x=some c→c≠b)∧∀ p∈X.pn++pins,p.1≠b)
   (keep:∀ b o,b≠X.env.locals→b ∉ X.fs→b ∉ ch→s.heap.get? b=some o→H b=none→h'.get? b=some o)
   (slot:∀ b o,b≠X.env.locals→b∈X.fs→b ∉ ch→s.heap.get? b=some o→H b=none→∃ sl,h'.get? b=some { o with slots:=sl }) (free:∀ b o,b ∉ ch→s.heap.get? b=some o→H b=none→H' b=none)
   (there:∀ b o,b ∉ ch→s.heap.get? b=some o→∃ o',h'.get? b=some o')
   (tups:∀ b xs,H b=some (.tup xs)→H' b=some (.tup xs)) (frzs:∀ b o u,H b=some (.frz o u)→H' b=some (.frz o u)) (tbls:∀ b ps,H b=some (.tbl ps)→∃ more,H' b=some (.tbl (ps++more)))
   (ns:∀ m,s.heap.Ns X.env.locals m→h'.Ns X.env.locals m) (hok:HOk X.prog X.w H' h') (hg:AllBare g') :
   Inv X pins σ H' { s with heap:=h',gens:=g',drawn:=d',toks:=t' }:=by
 have neL:∀ b o,X.s₀.heap.get? b=some o→b≠X.env.locals:=fun b o e=>Nat.ne_of_lt (Nat.lt_of_lt_of_le (Heap.lt_size e) I.ok.above)
 have neC:∀ b o,X.s₀.heap.get? b=some o→b ∉ X.ex→b ∉ ch:=fun b o e hx hb=>by
   rcases (hch b hb).1 with z | z
   · exact hx z
   · exact absurd (Nat.lt_of_lt_of_le (Heap.lt_size e) z) (Nat.lt_irrefl _)
 have cellK:∀ x c,X.env.cells.lookup x=some c→∀ v,s.heap.IsCell c v→h'.IsCell c v:=fun x c e v ⟨o,ho,hd⟩=>by
   have nch:c ∉ ch:=fun z=>(hch c z).2.2.1 x c e rfl
   by_cases hc:c∈X.fs
   · obtain ⟨sl,q⟩:=slot c o (I.cne x c e) hc nch ho (I.freeC x c e)
     exact ⟨_,q,hd⟩
   · exact ⟨o,keep c o (I.cne x c e) hc nch ho (I.freeC x c e),hd⟩
 refine ⟨I.ok,I.os,hg,⟨fun b o e n hb hx=>?_,fun b o e n hb hx=>?_,fun b o e n hx=>?_,fun b o e hx=>?_,fun b xs e=>tups b xs (I.base.tups b xs e),fun b o xs e=>frzs b o xs (I.base.frzs b o xs e),fun b ps e=>?_⟩,?_,fun x c e=>?_,?_,fun x c e=>?_,fun p hp=>?_,hok,I.len⟩
 · exact keep b o (neL b o e) hb (neC b o e hx) (I.base.keep b o e n hb hx) (I.base.free b o e n hx)
 · obtain ⟨sl,e1⟩:=I.base.slot b o e n hb hx
   obtain ⟨sl',e2⟩:=slot b _ (neL b o e) hb (neC b o e hx) e1 (I.base.free b o e n hx)
   exact ⟨sl',e2⟩
 · obtain ⟨o',e1⟩:=I.base.there b o e hx
   exact free b o' (neC b o e hx) e1 (I.base.free b o e n hx)
 · obtain ⟨o',e1⟩:=I.base.there b o e hx
   exact there b o' (neC b o e hx) e1
 · obtain ⟨m1,e1⟩:=I.base.tbls b ps e
   obtain ⟨m2,e2⟩:=tbls b _ e1
   exact ⟨m1++m2,by rw [e2,Array.append_assoc]⟩
 · obtain ⟨m,hn,hl⟩:=I.loc
   refine ⟨m,ns m hn,fun i x v e1 e2 e3=>?_⟩
   obtain ⟨u,r,l⟩:=hl i x v e1 e2 e3
   refine ⟨u,r,?_⟩
   rcases l with l | ⟨k,c,e,z⟩
   · exact .inl l
   · exact .inr ⟨k,c,e,cellK x c e _ z⟩
 · obtain ⟨v,z⟩:=I.cell x c e
   exact ⟨v,cellK x c e v z⟩
 · obtain ⟨m,⟨o,_,_,ho,_⟩,_⟩:=I.loc
   exact free _ o (fun z=>(hch _ z).2.1 rfl) ho I.free
 · obtain ⟨v,o,ho,hd⟩:=I.cell x c e
   exact free c o (fun z=>(hch c z).2.2.1 x c e rfl) ho (I.freeC x c e)
 · obtain ⟨e,n,ne,nf,d⟩:=I.pin p hp
   have nch:p.1 ∉ ch:=fun z=>(hch p.1 z).2.2.2 p hp rfl
   exact ⟨keep p.1 p.2 ne nf nch e n,free p.1 p.2 nch e n,ne,nf,d⟩
theorem Inv.un {t':Nat}(I:Inv X pins σ H s)(u:Un X.fs [] H H' s.heap h')(hok:HOk X.prog X.w H' h'):Inv X pins σ H' { s with heap:=h',toks:=t' }:=by
 obtain ⟨m,⟨o,es,ep,ho,r⟩,_⟩:=id I.loc
 obtain ⟨sl,hL⟩:=u.any ho I.free (by simp)
 exact I.step (g':=s.gens) (d':=s.drawn) (ch:=[]) (fun _ z=>nomatch z) (fun b o _ hb _ e n=>u.keep b o e n hb (by simp)) (fun b o _ hb _ e n=>u.slot b o e n hb (by simp)) (fun b o _ e n=>u.free b o e n (by simp)) (fun b o _ e=>u.there b o e (by simp)) u.tups u.frzs u.tbls (fun m' hm=>by
   obtain ⟨o',es',ep',ho',r'⟩:=hm
   rw [ho] at ho';cases ho'
   exact ⟨_,es',ep',hL,r'⟩) hok I.bare
theorem Inv.call {g':Array GenState}{t':Nat}{d':Drawn}{ch:List Addr}(I:Inv X pins σ H s)(u:Un (Xs X.stack) ch H H' s.heap h')(hok:HOk X.prog X.w H' h')(hg:AllBare g')
   (hch:∀ b∈ch,(b∈X.ex∨X.s₀.heap.objs.size≤b)∧b≠X.env.locals∧(∀ x c,X.env.cells.lookup x=some c→c≠b)∧∀ p∈X.pn++pins,p.1≠b) :
   Inv X pins σ H' { s with heap:=h',gens:=g',drawn:=d',toks:=t' }:=by
 obtain ⟨m,⟨o,es,ep,ho,r⟩,_⟩:=id I.loc
 obtain ⟨sl,hL⟩:=u.any ho I.free fun z=>(hch _ z).2.1 rfl
 exact I.step (ch:=ch) hch (fun b o hL hb hc e n=>u.keep b o e n (fun z=>(List.mem_cons.mp (I.stkSub b z)).elim hL hb) hc) (fun b o _ _ hc e n=>u.any e n hc) (fun b o hc e n=>u.free b o e n hc) (fun b o hc e=>u.there b o e hc) u.tups u.frzs u.tbls (fun m' hm=>by
   obtain ⟨o',es',ep',ho',r'⟩:=hm
   rw [ho] at ho';cases ho'
   exact ⟨_,es',ep',hL,r'⟩) hok hg
theorem Inv.turned {t':Nat}{it:Addr}(I:Inv X pins σ H s)(k:∀ b o,b≠it→s.heap.get? b=some o→h'.get? b=some o)(hn:H it=none)(hL:it≠X.env.locals)
   (h1:it∈X.ex∨X.s₀.heap.objs.size≤it) (h2:∀ x c,X.env.cells.lookup x=some c→c≠it) (h3:∀ p∈X.pn++pins,p.1≠it):Inv X pins σ H { s with heap:=h',toks:=t' }:=by
 have nit:∀ b u,H b=some u→b≠it:=fun b u e z=>by rw [z,hn] at e;cases e
 refine I.step (g':=s.gens) (d':=s.drawn) (ch:=[it]) (fun b hb=>?_) (fun b o _ _ hc e _=>k b o (fun z=>hc (by simp [z])) e) (fun b o _ _ hc e _=>⟨o.slots,k b o (fun z=>hc (by simp [z])) e⟩) (fun _ _ _ _ n=>n)
   (fun b o hc e=>⟨o,k b o (fun z=>hc (by simp [z])) e⟩) (fun _ _ e=>e) (fun _ _ _ e=>e) (fun b ps e=>⟨#[],by rw [e];simp⟩) (fun m hm=>?_) (fun b u e=>?_) I.bare
 · have e:b=it:=by simpa using hb
   subst e
   exact ⟨h1,hL,h2,h3⟩
 · obtain ⟨o,es,ep,ho,r⟩:=hm
   exact ⟨o,es,ep,k _ o (Ne.symm hL) ho,r⟩
 · refine (I.hok b u e).stay (fun c v hc q=>k c v ?_ q) (fun _ q=>q) fun _ _ q=>q
   rcases hc with z | z
   · rw [z];exact nit b u e
   · exact nit c _ z
theorem Inv.tok (I:Inv X pins σ H s)(t:Nat):Inv X pins σ H { s with toks:=t }:=I.un (h':=s.heap) (t':=t) Un.refl I.hok
theorem Inv.kept {t':Nat}(I:Inv X pins σ H s)(k:∀ b u,s.heap.get? b=some u→h'.get? b=some u):Inv X pins σ H { s with heap:=h',toks:=t' }:=I.un (Un.kept k) (I.hok.kept k)
theorem Inv.laid {a:Addr}{o:HO}{t':Nat}(I:Inv X pins σ H s)(k:∀ b u,s.heap.get? b=some u→h'.get? b=some u)(hp:s.heap.objs.size≤a)(new:ObjOk X.prog X.w (upd H a o) h' a o) :
 Inv X pins σ (upd H a o) { s with heap:=h',toks:=t' }:=I.un (Un.laid k hp (I.hok.fresh hp)) (I.hok.laid k hp new)
theorem Inv.write {x e:Addr}{o:HO}{t':Nat}(I:Inv X pins σ H s)(mu:Mut (H x))(he:e=x∨H e=some (.own x))(k:∀ b u,b≠e→s.heap.get? b=some u→h'.get? b=some u)(heo:∃ u,h'.get? e=some u)
 (new:ObjOk X.prog X.w (upd H x o) h' x o):Inv X pins σ (upd H x o) { s with heap:=h',toks:=t' }:=I.un (Un.write mu he k heo) (I.hok.write mu he k heo new)
theorem Inv.pins_of {pins':List (Addr×Obj)}(I:Inv X pins σ H s)(h:∀ p∈pins',s.heap.get? p.1=some p.2∧H p.1=none∧p.1≠X.env.locals∧p.1 ∉ X.fs∧∀ v,p.2.data≠.cell v):Inv X pins' σ H s :=
 ⟨I.ok,I.os,I.bare,I.base,I.loc,I.cell,I.free,I.freeC,fun p hp=>(List.mem_append.mp hp).elim (fun z=>I.pin p (List.mem_append_left _ z)) (h p),I.hok,I.len⟩
theorem Zaf {N:List Str}(hN:N.Nodup){i j:Nat}{x:Str}(a:N[i]?=some x)(b:N[j]?=some x):i=j:=by
 obtain ⟨h1,e1⟩:=List.getElem?_eq_some_iff.mp a
 obtain ⟨h2,e2⟩:=List.getElem?_eq_some_iff.mp b
 exact (List.getElem_inj hN).mp (e1.trans e2.symm)
theorem Zcd {M:Model}{A:Around}{E:Value→Shared→Prop}{i:Nat}{x:Str}{v:V}{u:Value}{Q:Unit→Shared→Prop}(I:Inv X pins σ H s)(hN:X.N.Nodup)(hi:X.N[i]?=some x)(hx:Loc X.env.scope x)(r:RelV v u)
   (h:∀ s',Inv X pins (σ.set i (some v)) H s'→(∃ a,Heap.SameBut a s.heap s'.heap∧(a=X.env.locals∨X.env.cells.lookup x=some a))→Q () s') (hf:X.fn x=true∨X.env.scope.names.lookup x=some .local:=by first | exact .inl rfl | exact .inr rfl | assumption):wpAny M A (storeName X.env x u) Q E s:=by
 obtain ⟨m,hn,hl⟩:=id I.loc
 have hcls:(X.env.scope.kind == .class || (X.env.scope.kind == .module&&X.env.locals != X.env.globals))=false:=by rw [I.ok.kind];rfl
 have hiσ:i < σ.length:=by rw [I.len];exact (List.getElem?_eq_some_iff.mp hi).1
 have cne:=I.cne
 have tracked:∀ {a:Addr} {h':Heap},(∃ o,s.heap.get? a=some o∧H a=none)→Heap.SameBut a s.heap h'→HOk X.prog X.w H h':=fun {a h'} ha hs b ob e=>by
   obtain ⟨_,_,hfree⟩:=ha
   refine (I.hok b ob e).stay (fun c w' hc q=>(hs.2 c ?_).trans q) (fun _ q=>q) fun _ _ q=>q
   rintro rfl
   rcases hc with rfl | hc
   · rw [hfree] at e;cases e
   · rw [hfree] at hc;cases hc
 rcases hx with hk | hk
 · refine wpAny_storeName_local hk hn (fun h' hn' hs=>?_) hcls
   obtain ⟨oL,_,_,hoL,_⟩:=id hn
   refine h _ ⟨I.ok,I.os,I.bare,⟨fun b o e n hb hx=>?_,fun b o e n hb hx=>?_,I.base.free,fun b o e hx=>?_,I.base.tups,I.base.frzs,I.base.tbls⟩,⟨_,hn',fun j y v' e1 e2 e3=>?_⟩,fun y c e=>?_,I.free,I.freeC,fun p hp=>?_,tracked ⟨oL,hoL,I.free⟩ hs,by simpa using I.len⟩ ⟨_,hs,.inl rfl⟩
   · exact (hs.2 b (Nat.ne_of_lt (Nat.lt_of_lt_of_le (Heap.lt_size e) I.ok.above))).trans (I.base.keep b o e n hb hx)
   · obtain ⟨sl,e1⟩:=I.base.slot b o e n hb hx
     exact ⟨sl,(hs.2 b (Nat.ne_of_lt (Nat.lt_of_lt_of_le (Heap.lt_size e) I.ok.above))).trans e1⟩
   · obtain ⟨o',e1⟩:=I.base.there b o e hx
     exact ⟨o',(hs.2 b (Nat.ne_of_lt (Nat.lt_of_lt_of_le (Heap.lt_size e) I.ok.above))).trans e1⟩
   · by_cases hj:j=i
     · subst hj
       rw [hi] at e1;cases e1
       rw [List.getElem?_set_self hiσ] at e2
       cases e2
       exact ⟨u,r,.inl ⟨hk,by simp⟩⟩
     · rw [List.getElem?_set_ne (Ne.symm hj)] at e2
       obtain ⟨u',r',q⟩:=hl j y v' e1 e2 e3
       refine ⟨u',r',?_⟩
       rcases q with ⟨k,e⟩ | ⟨k,c,e,z⟩
       · refine .inl ⟨k,?_⟩
         have:y≠x:=fun e=>hj (Zaf hN e1 (e ▸ hi))
         simp [this,e]
       · exact .inr ⟨k,c,e,z.sameBut hs (cne y c e)⟩
   · obtain ⟨w',z⟩:=I.cell y c e
     exact ⟨w',z.sameBut hs (cne y c e)⟩
   · obtain ⟨e,n,ne,nf,d⟩:=I.pin p hp
     exact ⟨(hs.2 p.1 ne).trans e,n,ne,nf,d⟩
 · have hfn:X.fn x=true:=by
     rcases hf with z | z
     · exact z
     · rw [z] at hk;cases hk
   obtain ⟨c,hc⟩:=I.ok.has x (.inl hk)
   obtain ⟨w',z⟩:=I.cell x c hc
   refine wpAny_storeName_cell I.ok.kind hk hc z (fun h' hc' hs=>?_)
   obtain ⟨oc,hoc,hocd⟩:=id z
   refine h { s with heap:=h' } ⟨I.ok,I.os,I.bare,⟨fun b o e n hb hx=>?_,fun b o e n hb hx=>?_,I.base.free,fun b o e hx=>?_,I.base.tups,I.base.frzs,I.base.tbls⟩,⟨m,hn.sameBut hs (Ne.symm (cne x c hc)),fun j y v' e1 e2 e3=>?_⟩,fun y c' e=>?_,I.free,I.freeC,fun p hp=>?_,tracked ⟨oc,hoc,I.freeC x c hc⟩ hs,by simpa using I.len⟩ ⟨c,hs,.inr hc⟩
   · exact (hs.2 b (Nat.ne_of_lt (Nat.lt_of_lt_of_le (Heap.lt_size e) (I.ok.cab x c hfn hc)))).trans (I.base.keep b o e n hb hx)
   · obtain ⟨sl,e1⟩:=I.base.slot b o e n hb hx
     exact ⟨sl,(hs.2 b (Nat.ne_of_lt (Nat.lt_of_lt_of_le (Heap.lt_size e) (I.ok.cab x c hfn hc)))).trans e1⟩
   · obtain ⟨o',e1⟩:=I.base.there b o e hx
     exact ⟨o',(hs.2 b (Nat.ne_of_lt (Nat.lt_of_lt_of_le (Heap.lt_size e) (I.ok.cab x c hfn hc)))).trans e1⟩
   · by_cases hj:j=i
     · subst hj
       rw [hi] at e1;cases e1
       rw [List.getElem?_set_self hiσ] at e2
       cases e2
       exact ⟨u,r,.inr ⟨.inl hk,c,hc,hc'⟩⟩
     · rw [List.getElem?_set_ne (Ne.symm hj)] at e2
       obtain ⟨u',r',q⟩:=hl j y v' e1 e2 e3
       refine ⟨u',r',?_⟩
       rcases q with q | ⟨k,c',e,z'⟩
       · exact .inl q
       · refine .inr ⟨k,c',e,z'.sameBut hs ?_⟩
         rintro rfl
         exact hj (Zaf hN e1 (I.ok.inj _ _ _ e hc ▸ hi))
   · by_cases hcc:c'=c
     · subst hcc;exact ⟨_,hc'⟩
     · obtain ⟨w2,z2⟩:=I.cell y c' e
       exact ⟨w2,z2.sameBut hs hcc⟩
   · obtain ⟨e,n,ne,nf,d⟩:=I.pin p hp
     refine ⟨(hs.2 p.1 ?_).trans e,n,ne,nf,d⟩
     intro q
     rw [q,hoc] at e
     have q':oc=p.2:=Option.some.inj e
     exact d w' (by rw [← q'];exact hocd)
theorem Xc {M:Model}{A:Around}{E:Value→Shared→Prop}{i:Nat}{x:Str}{v:V}{u:Value}{Q:Unit→Shared→Prop}(I:Inv X pins σ H s)(hN:X.N.Nodup)(hi:X.N[i]?=some x)(hx:Loc X.env.scope x)(r:RelV v u)
   (h:∀ s',Inv X pins (σ.set i (some v)) H s'→Q () s') (hf:X.fn x=true∨X.env.scope.names.lookup x=some .local:=by first | exact .inl rfl | exact .inr rfl | assumption):wpAny M A (storeName X.env x u) Q E s :=
 Zcd I hN hi hx r (fun s' I' _=>h s' I') hf
theorem Inv.call' {s':Shared}{ch:List Addr}(I:Inv X pins σ H s)(ho:s'.os=s.os)(u:Un (Xs X.stack) ch H H' s.heap s'.heap)(hok:HOk X.prog X.w H' s'.heap)(hg:AllBare s'.gens)
   (hch:∀ b∈ch,(b∈X.ex∨X.s₀.heap.objs.size≤b)∧b≠X.env.locals∧(∀ x c,X.env.cells.lookup x=some c→c≠b)∧∀ p∈X.pn++pins,p.1≠b):Inv X pins σ H' s':=by
 obtain ⟨h',g',d',t',o'⟩:=s'
 have e:o'=s.os:=ho
 subst e
 exact I.call (g':=g') (t':=t') (d':=d') u hok hg hch
end
abbrev XK:=Value→Option Addr→Hp→Prop
abbrev St:=List (Option V)
abbrev VK:=V→Hp→Prop
abbrev TE:=St→Hp→VK→Prop
abbrev TT:=St→Hp→(Bool→Hp→Prop)→Prop
abbrev TA:=St→Hp→(List V→Hp→Prop)→Prop
structure Uc where
 nx:St→Hp→Prop
 rt:VK
 bk:St→Hp→Prop:=fun _ _=>False
 ct:St→Hp→Prop:=fun _ _=>False
abbrev TS:=Uc→St→Hp→Prop
def EP (X:Cx)(pins:List (Addr×Obj))(σ:St)(Q:VK)(u:Value)(s':Shared):Prop:=∃ v H',Inv X pins σ H' s'∧RelV v u∧Q v H'
def TP (X:Cx)(pins:List (Addr×Obj))(σ:St)(Q:Bool→Hp→Prop)(b:Bool)(s':Shared):Prop:=∃ H',Inv X pins σ H' s'∧Q b H'
def AP (X:Cx)(pins:List (Addr×Obj))(σ:St)(Q:List V→Hp→Prop)(us:List Value)(s':Shared):Prop:=∃ vs H',Inv X pins σ H' s'∧Vals vs us∧Q vs H'
def SP (X:Cx)(pins:List (Addr×Obj))(D:Uc)(f:Flow)(s':Shared):Prop :=
 match f with
 | .next=>∃ σ' H',Inv X pins σ' H' s'∧D.nx σ' H'
 | .brk=>∃ σ' H',Inv X pins σ' H' s'∧D.bk σ' H'
 | .cont=>∃ σ' H',Inv X pins σ' H' s'∧D.ct σ' H'
 | .ret u=>∃ v σ' H',Inv X pins σ' H' s'∧RelV v u∧D.rt v H'
def PE (X:Cx)(e:Expr)(t:TE):Prop :=
 ∀ (pins:List (Addr×Obj)) (s:Shared) (σ:St) (H:Hp) (Q:VK),Inv X pins σ H s→t σ H Q→wpAny (model X.prog X.w) X.A (eval e X.env) (EP X pins σ Q) X.xe s
def PT (X:Cx)(e:Expr)(t:TT):Prop :=
 ∀ (pins:List (Addr×Obj)) (s:Shared) (σ:St) (H:Hp) (Q:Bool→Hp→Prop),Inv X pins σ H s→t σ H Q→wpAny (model X.prog X.w) X.A (isTrue e X.env (eval e X.env)) (TP X pins σ Q) X.xe s
def PW (X:Cx)(e:Expr)(t:TT):Prop :=
 ∀ (whole:Sem Value) (pins:List (Addr×Obj)) (s:Shared) (σ:St) (H:Hp) (Q:Bool→Hp→Prop),Inv X pins σ H s→t σ H Q→wpAny (model X.prog X.w) X.A (isTrue e X.env whole) (TP X pins σ Q) X.xe s
theorem PW.pt {X:Cx}{e:Expr}{t:TT}(h:PW X e t):PT X e t:=h _
def PA (X:Cx)(es:List Expr)(t:TA):Prop :=
 ∀ (pos:Pos) (pins:List (Addr×Obj)) (s:Shared) (σ:St) (H:Hp) (Q:List V→Hp→Prop),Inv X pins σ H s→t σ H Q→wpAny (model X.prog X.w) X.A (spliced (backTo pos (starEach es X.env))) (AP X pins σ Q) X.xe s
def PS (X:Cx)(st:Stmt)(t:TS):Prop :=
 ∀ (pins:List (Addr×Obj)) (s:Shared) (σ:St) (H:Hp) (D:Uc),Inv X pins σ H s→t D σ H→wpAny (model X.prog X.w) X.A (exec st X.env) (SP X pins D) X.xe s
def PSs (X:Cx)(st:List Stmt)(t:TS):Prop :=
 ∀ (pins:List (Addr×Obj)) (s:Shared) (σ:St) (H:Hp) (D:Uc),Inv X pins σ H s→t D σ H→wpAny (model X.prog X.w) X.A (execs st X.env) (SP X pins D) X.xe s
theorem Zp {α:Type}{t:Sem α}{Q Q':α→Shared→Prop}{M:Model}{A:Around}{E:Value→Shared→Prop}{s:Shared}(h:wpAny M A t Q E s)(hQ:∀ a s,Q a s→Q' a s):wpAny M A t Q' E s:=wpAny_mono h hQ fun _ _ x=>x
end L2
namespace L2
open PySem PySem.Spec PyProof.Rows
section
variable {X:Cx}
def Vm (i:Nat):TE:=fun σ H Q=>∃ v,σ[i]?=some (some v)∧Q v H
def tC (v:V):TE:=fun _ H Q=>Q v H
theorem Zga {i:Nat}{x:Str}{pos:Pos}(hN:X.N[i]?=some x)(hv:Vis X.env.scope x)(hd:(x == ("__debug__":Str))=false:=by decide)(hcd:(x == ("__classdict__":Str))=false:=by decide):PE X (.Name x pos) (Vm i):=by
 intro pins s σ H Q I h
 obtain ⟨v,e,h⟩:=h
 obtain ⟨m,hn,hl⟩:=I.loc
 obtain ⟨u,r,l⟩:=hl i x v hN e hv
 have fin:EP X pins σ Q u s:=⟨v,H,I,r,h⟩
 rcases l with ⟨hk,hm⟩ | ⟨hk,c,hc,hcell⟩
 · exact wpAny_Name (wpAny_loadName_local I.ok.kind hk hn hm fin) hd
 · rcases hk with hk | hk
   · exact wpAny_Name (wpAny_loadName_cell I.ok.kind hk hc hcell fin) hd
   · exact wpAny_Name (wpAny_loadName_free I.ok.kind hk hc hcell fin hcd) hd
theorem Zf {i j pos}:PE X (.Constant (.int i) j pos) (tC (.int i)):=fun _ _ _ H _ I h=>wpAny_Constant_int ⟨.int i,H,I.tok _,⟨_,rfl⟩,h⟩
theorem UD {b j pos}:PE X (.Constant (.bool b) j pos) (tC (.bl b)):=fun _ _ _ H _ I h=>Constant_bool ⟨.bl b,H,I,rfl,h⟩
theorem YI {j pos}:PE X (.Constant .none j pos) (tC .non):=fun _ _ _ H _ I h=>Constant_none ⟨.non,H,I,rfl,h⟩
theorem Zj {x j pos}:PE X (.Constant (.str x) j pos) (tC (.str x)):=fun _ _ _ H _ I h=>Calls.Constant_str ⟨.str x,H,I.tok _,⟨_,rfl⟩,h⟩
def Gl (X:Cx)(x:Str):Prop:=X.env.kindOf x=some .globalImplicit
theorem Um {E:Value→Shared→Prop}{pins:List (Addr×Obj)}{s:Shared}{σ:St}{H:Hp}{x:Str}{u:Value}{pos:Pos}{Q:Value→Shared→Prop}(I:Inv X pins σ H s)(hg:Gl X x)(hm:X.mg x=some u)(h:Q u s)
   (hd:(x == ("__debug__":Str))=false:=by decide):wpAny (model X.prog X.w) X.A (eval (.Name x pos) X.env) Q E s :=
 Calls.Name_function_global I.ok.kind hg (Calls.loadGlobal_global (by rw [I.ok.glob];exact I.mod.glob.keeps I.bk) hm h) hd
theorem WS {E:Value→Shared→Prop}{pins:List (Addr×Obj)}{s:Shared}{σ:St}{H:Hp}{x:Str}{u:Value}{pos:Pos}{Q:Value→Shared→Prop}(I:Inv X pins σ H s)(hg:Gl X x)(hm:X.mg x=none)(hv:bootBuiltins x=some u)(h:Q u s)
   (hn:x≠"__name__":=by decide) (hd:(x == ("__debug__":Str))=false:=by decide):wpAny (model X.prog X.w) X.A (eval (.Name x pos) X.env) Q E s:=by
 obtain ⟨mb,h1,h2⟩:=I.mod.blt
 exact Calls.Name_function_global I.ok.kind hg (Calls.loadGlobal_builtin (by rw [I.ok.glob];exact I.mod.glob.keeps I.bk) hm (by rw [I.ok.blt];exact h1.keeps I.bk) ((h2 x hn).trans hv) h) hd
theorem YF {x:Str}{v:V}{u:Value}{pos:Pos}(hg:Gl X x)(hm:X.mg x=some u)(r:RelV v u)(hd:(x == ("__debug__":Str))=false:=by decide):PE X (.Name x pos) (tC v) :=
 fun _ _ _ H _ I h=>Um I hg hm ⟨v,H,I,r,h⟩ hd
theorem Yz {x:Str}{v:V}{u:Value}{pos:Pos}(hg:Gl X x)(hm:X.mg x=none)(hv:bootBuiltins x=some u)(r:RelV v u)(hn:x≠"__name__":=by decide)(hd:(x == ("__debug__":Str))=false:=by decide):PE X (.Name x pos) (tC v) :=
 fun _ _ _ H _ I h=>WS I hg hm hv ⟨v,H,I,r,h⟩ hn hd
variable {a b:Expr}{ta tb:TE}{pos:Pos}
def PC (X:Cx)(op:CmpOp)(a b:Expr)(t:TE):Prop :=
 ∀ (pins:List (Addr×Obj)) (s:Shared) (σ:St) (H:Hp) (Q:VK),Inv X pins σ H s→t σ H Q →
   wpAny (model X.prog X.w) X.A (eval a X.env) (fun v s₁=>wpAny (model X.prog X.w) X.A (eval b X.env) (fun u s₂=>wpAny (model X.prog X.w) X.A (compareOp op v u) (EP X pins σ Q) X.xe s₂) X.xe s₁) X.xe s
theorem Zcw (b:Expr){op:CmpOp}(h:op≠.In)(h2:op≠.NotIn):behindInMarks op b=false:=by
 have e1:(op == CmpOp.In)=false:=by cases op<;>first | rfl | exact absurd rfl h
 have e2:(op == CmpOp.NotIn)=false:=by cases op<;>first | rfl | exact absurd rfl h2
 cases b<;>simp [behindInMarks,e1,e2]
def tIsN (ta:TE):TE:=fun σ H Q=>ta σ H fun x H1=>Q (.bl (decide (x=.non))) H1
def Znj (ta:TE):TE:=fun σ H Q=>ta σ H fun x H1=>Q (.bl (!decide (x=.non))) H1
theorem RelV.none_iff {x:V}{v:Value}(r:RelV x v):(v == Value.none)=decide (x=.non):=by
 cases x with
 | non=>cases r;rfl
 | bl _=>cases r;rfl
 | int _=>obtain ⟨t,rfl⟩:=r;rfl
 | str _=>obtain ⟨t,rfl⟩:=r;rfl
 | byt _=>obtain ⟨t,rfl⟩:=r;rfl
 | flt _=>obtain ⟨t,rfl⟩:=r;rfl
 | ref _=>cases r;rfl
 | ty _=>cases r;rfl
theorem Ww {j pos'}(ha:PE X a ta):PC X .Is a (.Constant .none j pos') (tIsN ta):=by
 intro pins s σ H Q I h
 refine Zp (ha pins s σ H _ I h) fun v s1 ⟨x,H1,I1,r1,q1⟩=>?_
 exact Constant_none (is_none_gen ⟨.bl _,H1,I1,by rw [r1.none_iff];rfl,q1⟩)
theorem ZdX {j pos'}(ha:PE X a ta):PC X .IsNot a (.Constant .none j pos') (Znj ta):=by
 intro pins s σ H Q I h
 refine Zp (ha pins s σ H _ I h) fun v s1 ⟨x,H1,I1,r1,q1⟩=>?_
 exact Constant_none (isnot_none_gen ⟨.bl _,H1,I1,by rw [r1.none_iff];rfl,q1⟩)
def tB (t:TE):TT:=fun σ H Q=>t σ H fun x H1=>∃ c,x=.bl c∧Q c H1
theorem Zlw {op:CmpOp}{t:TE}(h:PC X op a b t)(h1:behindInMarks op b=false:=by first | exact Zcw _ (by decide) (by decide) | rfl):PE X (.Compare a [op] [b] pos) t:=fun pins s σ H Q I hw=>wpAny_Compare1 (h pins s σ H Q I hw) h1
theorem XU {op:CmpOp}{t:TE}(h:PC X op a b t)(h1:behindInMarks op b=false:=by first | exact Zcw _ (by decide) (by decide) | rfl):PT X (.Compare a [op] [b] pos) (tB t):=by
 intro pins s σ H Q I hw
 refine wpAny_isTrue_Compare1 (Zp (h pins s σ H _ I hw) fun v s1 h1=>Zp h1 fun u s2 h2=>Zp h2 fun c s3 ⟨x,H1,I1,r1,q1⟩=>?_) h1
 obtain ⟨d,rfl,q⟩:=q1
 cases r1
 exact wpAny_truthy_bool ⟨H1,I1,q⟩
theorem Yh {e:Expr}{t:TE}(h:PE X e t)(he:∀ whole,isTrue e X.env whole=(do let v ← whole;standAt e.pos;holding [v] (truthy v)):=by intro _;rfl):PT X e (tB t):=by
 intro pins s σ H Q I hw
 refine isTrue_plain (Zp (h pins s σ H _ I hw) fun v s1 ⟨x,H1,I1,r1,q1⟩=>?_) (he _)
 obtain ⟨d,rfl,q⟩:=q1
 cases r1
 exact wpAny_truthy_bool ⟨H1,I1,q⟩
variable {tA tB':TT}{rest:List Expr}
def tAnd (t u:TT):TT:=fun σ H Q=>t σ H fun c H1=>if c=true then u σ H1 Q else Q false H1
def tOr (t u:TT):TT:=fun σ H Q=>t σ H fun c H1=>if c=true then Q true H1 else u σ H1 Q
def tNot (t:TT):TT:=fun σ H Q=>t σ H fun c H1=>Q (!c) H1
theorem VR (ha:PT X a tA):PW X (.BoolOp .And [a] pos) tA:=by
 intro wh pins s σ H Q I h
 refine isTrue_and (Zp (ha pins s σ H Q I h) fun c s1 e=>?_)
 cases c with
 | true=>exact isTrue_and_nil e
 | false=>exact e
theorem XI (ha:PT X a tA):PW X (.BoolOp .Or [a] pos) tA:=by
 intro wh pins s σ H Q I h
 refine isTrue_or (Zp (ha pins s σ H Q I h) fun c s1 e=>?_)
 cases c with
 | false=>exact isTrue_or_nil e
 | true=>exact e
theorem ZaM (ha:PT X a tA)(hb:PW X (.BoolOp .And (b::rest) pos) tB'):PW X (.BoolOp .And (a::b::rest) pos) (tAnd tA tB'):=by
 intro wh pins s σ H Q I h
 refine isTrue_and (Zp (ha pins s σ H _ I h) fun c s1 ⟨H1,I1,q1⟩=>?_)
 cases c with
 | true=>exact hb wh pins s1 σ H1 Q I1 q1
 | false=>exact ⟨H1,I1,q1⟩
theorem Xf (ha:PT X a tA)(hb:PW X (.BoolOp .Or (b::rest) pos) tB'):PW X (.BoolOp .Or (a::b::rest) pos) (tOr tA tB'):=by
 intro wh pins s σ H Q I h
 refine isTrue_or (Zp (ha pins s σ H _ I h) fun c s1 ⟨H1,I1,q1⟩=>?_)
 cases c with
 | true=>exact ⟨H1,I1,q1⟩
 | false=>exact hb wh pins s1 σ H1 Q I1 q1
theorem Xg (ha:PT X a tA):PT X (.UnaryOp .Not a pos) (tNot tA):=by
 intro pins s σ H Q I h
 exact isTrue_not (ha pins s σ H (fun c H1=>Q (!c) H1) I h)
def ZmA (ta tb:TE):TE:=fun σ H Q=>ta σ H fun x H1=>∃ c,x=.bl c∧if c=true then tb σ H1 Q else Q (.bl false) H1
def tOrV (ta tb:TE):TE:=fun σ H Q=>ta σ H fun x H1=>∃ c,x=.bl c∧if c=true then Q (.bl true) H1 else tb σ H1 Q
def ZmZ (ta:TE):TE:=fun σ H Q=>ta σ H fun x H1=>∃ c,x=.bl c∧Q (.bl (!c)) H1
theorem Wq {op}{t:TE}(h:PE X a t):PE X (.BoolOp op [a] pos) t:=fun pins s σ H Q I hw=>BoolOp_one (h pins s σ H Q I hw)
theorem XD (ha:PE X a ta)(hb:PE X (.BoolOp .And (b::rest) pos) tb):PE X (.BoolOp .And (a::b::rest) pos) (ZmA ta tb):=by
 intro pins s σ H Q I h
 refine BoolOp_and (Zp (ha pins s σ H _ I h) fun v s1 ⟨x,H1,I1,r1,q1⟩=>?_)
 obtain ⟨c,rfl,q1⟩:=q1
 cases r1
 refine wpAny_truthy_bool ?_
 cases c with
 | true=>exact hb pins s1 σ H1 Q I1 q1
 | false=>exact ⟨.bl false,H1,I1,rfl,q1⟩
theorem Zng (ha:PE X a ta)(hb:PE X (.BoolOp .Or (b::rest) pos) tb):PE X (.BoolOp .Or (a::b::rest) pos) (tOrV ta tb):=by
 intro pins s σ H Q I h
 refine BoolOp_or (Zp (ha pins s σ H _ I h) fun v s1 ⟨x,H1,I1,r1,q1⟩=>?_)
 obtain ⟨c,rfl,q1⟩:=q1
 cases r1
 refine wpAny_truthy_bool ?_
 cases c with
 | false=>exact hb pins s1 σ H1 Q I1 q1
 | true=>exact ⟨.bl true,H1,I1,rfl,q1⟩
theorem ZaQ (ha:PE X a ta):PE X (.UnaryOp .Not a pos) (ZmZ ta):=by
 intro pins s σ H Q I h
 refine UnaryOp_ (Zp (ha pins s σ H _ I h) fun v s1 ⟨x,H1,I1,r1,q1⟩=>?_)
 obtain ⟨c,rfl,q1⟩:=q1
 cases r1
 exact not_of (wpAny_truthy_bool ⟨.bl (!c),H1,I1,rfl,q1⟩)
def tIf (t:TT)(ta tb:TE):TE:=fun σ H Q=>t σ H fun c H1=>if c=true then ta σ H1 Q else tb σ H1 Q
theorem Yl {c:Expr}(hc:PT X c tA)(ha:PE X a ta)(hb:PE X b tb):PE X (.IfExp c a b pos) (tIf tA ta tb):=by
 intro pins s σ H Q I h
 refine wpAny_IfExp (Zp (hc pins s σ H _ I h) fun d s1 ⟨H1,I1,q1⟩=>?_)
 cases d with
 | true=>exact ha pins s1 σ H1 Q I1 q1
 | false=>exact hb pins s1 σ H1 Q I1 q1
end
end L2
namespace L2
open PySem PySem.Spec PyProof.Rows
def SqL (K:PySem.W.Frag)(H:Hp)(a:Addr)(xs:List V):Prop :=
 Rd H a (.lst xs) ∨
   ∃ (o:Obj) (its:Array Value) (n:Nat),K.lookup a=some o∧o.cls=.type "list"∧o.dict=none∧o.data=.seq its n∧its.size≤sizeLine∧Vals xs its.toList
def SqT (K:PySem.W.Frag)(H:Hp)(a:Addr)(xs:List V):Prop :=
 Rd H a (.tup xs) ∨
   ∃ (o:Obj) (its:Array Value) (n:Nat),K.lookup a=some o∧o.cls=.type "tuple"∧o.data=.seq its n∧its.size≤sizeLine∧Vals xs its.toList
def absV:Value→Option V
 | .none=>some .non
 | .bool b=>some (.bl b)
 | .int i _=>some (.int i)
 | .str x _=>some (.str x)
 | .bytes b _=>some (.byt b)
 | .float b _=>some (.flt b)
 | .ref a=>some (.ref a)
 | .type n=>some (.ty n)
 | _=>none
theorem RelV.abs {x:V}{u:Value}(r:RelV x u):absV u=some x:=by
 cases x with
 | non=>cases r;rfl
 | bl _=>cases r;rfl
 | int _=>obtain ⟨t,rfl⟩:=r;rfl
 | str _=>obtain ⟨t,rfl⟩:=r;rfl
 | byt _=>obtain ⟨t,rfl⟩:=r;rfl
 | flt _=>obtain ⟨t,rfl⟩:=r;rfl
 | ref _=>cases r;rfl
 | ty _=>cases r;rfl
theorem RelV.inj {x y:V}{u:Value}(r:RelV x u)(q:RelV y u):x=y:=Option.some.inj (r.abs.symm.trans q.abs)
theorem Vals.inj:∀{xs ys:List V}{us:List Value},Vals xs us→Vals ys us→xs=ys
 | _,_,_,.nil,.nil=>rfl
 | _,_,_,.cons r t,.cons r' t'=>by rw [r.inj r',Vals.inj t t']
section
variable {X:Cx}{pins:List (Addr×Obj)}{σ:St}{H:Hp}{s:Shared}{a:Addr}{xs ys:List V}
theorem SqL.of {K:PySem.W.Frag}(h:H a=some (.lst xs)):SqL K H a xs:=.inl (.inl h)
theorem SqT.of {K:PySem.W.Frag}(h:H a=some (.tup xs)):SqT K H a xs:=.inl (.inl h)
theorem Inv.list (I:Inv X pins σ H s)(h:SqL X.K H a xs):∃ its:List Value,Vals xs its∧PlainL s.heap a its.toArray∧xs.length≤sizeLine:=by
 rcases h with h | ⟨o,its,n,hk,hc,hd,hs,hz,r⟩
 · obtain ⟨z,its,n,r,e⟩:=h.ok I.hok
   exact ⟨its,r,⟨_,n,e,rfl,rfl,rfl⟩,z⟩
 · refine ⟨its.toList,r,⟨o,n,I.kIn a o hk,hc,hd,by simpa using hs⟩,?_⟩
   have e:=r.length
   simp only [Array.length_toList] at e
   omega
theorem Inv.tuple (I:Inv X pins σ H s)(h:SqT X.K H a xs):∃ its:List Value,Vals xs its∧IsTup s.heap a its.toArray∧xs.length≤sizeLine:=by
 rcases h with h | ⟨o,its,n,hk,hc,hs,hz,r⟩
 · obtain ⟨z,its,r,p⟩:=h.ok I.hok
   exact ⟨its,r,p,z⟩
 · refine ⟨its.toList,r,⟨o,I.kIn a o hk,hc,n,by simpa using hs⟩,?_⟩
   have e:=r.length
   simp only [Array.length_toList] at e
   omega
theorem Inv.list_inj (I:Inv X pins σ H s)(h:SqL X.K H a xs)(h':SqL X.K H a ys):xs=ys:=by
 obtain ⟨its,r,⟨o,n,e,_,_,d⟩,_⟩:=I.list h
 obtain ⟨its',r',⟨o',n',e',_,_,d'⟩,_⟩:=I.list h'
 rw [e] at e';cases e'
 rw [d] at d'
 injection d' with d1 _
 have:its=its':=by simpa using congrArg Array.toList d1
 subst this
 exact r.inj r'
theorem Inv.tuple_inj (I:Inv X pins σ H s)(h:SqT X.K H a xs)(h':SqT X.K H a ys):xs=ys:=by
 obtain ⟨its,r,⟨o,e,_,n,d⟩,_⟩:=I.tuple h
 obtain ⟨its',r',⟨o',e',_,n',d'⟩,_⟩:=I.tuple h'
 rw [e] at e';cases e'
 rw [d] at d'
 injection d' with d1 _
 have:its=its':=by simpa using congrArg Array.toList d1
 subst this
 exact r.inj r'
end
abbrev Cx.wish (X:Cx)(E:Value→Shared→Prop):Cx:={ X with xe:=E }
abbrev Cx.nox (X:Cx):Cx:=X.wish fun _ _=>False
theorem Cx.Ok.wish {X:Cx}(ok:X.Ok)(E:Value→Shared→Prop):(X.wish E).Ok :=
 ⟨ok.mod,ok.kind,ok.glob,ok.blt,ok.above,ok.inj,ok.has,ok.cab,ok.hd,ok.frames,ok.stk,ok.exf,ok.bs,ok.bsz,ok.noex,ok.exfs,ok.funs,ok.frf⟩
theorem Cx.Ok.unwish {X:Cx}{E:Value→Shared→Prop}(ok:(X.wish E).Ok):X.Ok :=
 ⟨ok.mod,ok.kind,ok.glob,ok.blt,ok.above,ok.inj,ok.has,ok.cab,ok.hd,ok.frames,ok.stk,ok.exf,ok.bs,ok.bsz,ok.noex,ok.exfs,ok.funs,ok.frf⟩
section
variable {X:Cx}{pins:List (Addr×Obj)}{σ:St}{H:Hp}{s:Shared}{E:Value→Shared→Prop}
theorem Inv.wish (I:Inv X pins σ H s)(E:Value→Shared→Prop):Inv (X.wish E) pins σ H s:=⟨I.ok.wish E,I.os,I.bare,I.base,I.loc,I.cell,I.free,I.freeC,I.pin,I.hok,I.len⟩
theorem Inv.unwish (I:Inv (X.wish E) pins σ H s):Inv X pins σ H s:=⟨I.ok.unwish,I.os,I.bare,I.base,I.loc,I.cell,I.free,I.freeC,I.pin,I.hok,I.len⟩
theorem SP.unwish {D:Uc}{f:Flow}{s':Shared}(h:SP (X.wish E) pins D f s'):SP X pins D f s':=by
 cases f with
 | next=>obtain ⟨σ',H',I,q⟩:=h;exact ⟨σ',H',I.unwish,q⟩
 | brk=>obtain ⟨σ',H',I,q⟩:=h;exact ⟨σ',H',I.unwish,q⟩
 | cont=>obtain ⟨σ',H',I,q⟩:=h;exact ⟨σ',H',I.unwish,q⟩
 | ret u=>obtain ⟨v,σ',H',I,r,q⟩:=h;exact ⟨v,σ',H',I.unwish,r,q⟩
theorem PSs.nox {st:List Stmt}{t:TS}(h:PSs X.nox st t):PSs X st t:=fun pins s σ H D I hw =>
 wpAny_mono (h pins s σ H D (I.wish _) hw) (fun _ _ q=>q.unwish) fun _ _ z=>False.elim z
end
section
variable {X:Cx}{st:Stmt}{rest:List Stmt}{t u:TS}{e:Expr}{te:TE}{pos:Pos}
def ZeM:TS:=fun D σ H=>D.nx σ H
def Zfk (t u:TS):TS:=fun D σ H=>t { D with nx:=u D } σ H
theorem ZE:PSs X [] ZeM:=fun _ _ σ H _ I h=>wpAny_execs_nil ⟨σ,H,I,h⟩
theorem Zd (h1:PS X st t)(h2:PSs X rest u):PSs X (st::rest) (Zfk t u):=by
 intro pins s σ H D I h
 refine wpAny_execs_cons (Zp (h1 pins s σ H { D with nx:=u D } I h) fun f s1 q=>?_)
 cases f with
 | next =>
   obtain ⟨σ',H',I',q⟩:=q
   exact h2 pins s1 σ' H' D I' q
 | ret v=>exact q
 | brk=>exact q
 | cont=>exact q
theorem Zi (h1:PS X st t):PSs X [st] t:=by
 intro pins s σ H D I h
 refine wpAny_execs_cons (Zp (h1 pins s σ H D I h) fun f s1 q=>?_)
 cases f with
 | next=>exact wpAny_execs_nil q
 | ret v=>exact q
 | brk=>exact q
 | cont=>exact q
theorem Inv.quiet {pins:List (Addr×Obj)}{σ:St}{H:Hp}{s:Shared}(I:Inv X pins σ H s):interactive X.env=false:=by simp [interactive,I.ok.kind]
def ZmC (te:TE):TS:=fun D σ H=>te σ H fun _ H1=>D.nx σ H1
theorem Wl (he:PE X e te)(hs:swapsWith e none pos.line X.env=pure false:=by rfl):PS X (.Expr e pos) (ZmC te):=by
 intro pins s σ H D I h
 exact wpAny_Expr_any (Zp (he pins s σ H _ I h) fun v s1 ⟨x,H1,I1,r1,q1⟩=>⟨σ,H1,I1,q1⟩) I.quiet hs
def ZhP (te:TE):TS:=fun D σ H=>te σ H D.rt
theorem Zo (he:PE X e te):PS X (.Return (some e) pos) (ZhP te):=by
 intro pins s σ H D I h
 exact wpAny_Return_some (Zp (he pins s σ H _ I h) fun v s1 ⟨x,H1,I1,r1,q1⟩=>⟨x,σ,H1,I1,r1,q1⟩)
def Zjb (c:TT)(t u:TS):TS:=fun D σ H=>c σ H fun b H1=>if b=true then t D σ H1 else u D σ H1
theorem ZS {c:Expr}{a b:List Stmt}{tc:TT}(hc:PT X c tc)(ha:PSs X a t)(hb:PSs X b u):PS X (.If c a b pos) (Zjb tc t u):=by
 intro pins s σ H D I h
 refine wpAny_If (Zp (hc pins s σ H _ I h) fun d s1 ⟨H1,I1,q1⟩=>?_)
 cases d with
 | true=>exact ha pins s1 σ H1 D I1 q1
 | false=>exact hb pins s1 σ H1 D I1 q1
end
abbrev TG:=V→St→Hp→(St→Hp→Prop)→Prop
abbrev TGs:=List V→St→Hp→(St→Hp→Prop)→Prop
def PG (X:Cx)(target:Expr)(t:TG):Prop :=
 ∀ (pins:List (Addr×Obj)) (s:Shared) (σ:St) (H:Hp) (v:V) (u:Value) (Q:St→Hp→Prop),Inv X pins σ H s→RelV v u→t v σ H Q →
   wpAny (model X.prog X.w) X.A (assign target X.env u) (fun _ s'=>∃ σ' H',Inv X pins σ' H' s'∧Q σ' H') X.xe s
def PGs (X:Cx)(ts:List Expr)(t:TGs):Prop :=
 ∀ (pins:List (Addr×Obj)) (s:Shared) (σ:St) (H:Hp) (vs:List V) (us:List Value) (Q:St→Hp→Prop),Inv X pins σ H s→Vals vs us→t vs σ H Q →
   wpAny (model X.prog X.w) X.A (assignInOrder ((assignEach ts X.env).map (·.2)) us) (fun _ s'=>∃ σ' H',Inv X pins σ' H' s'∧Q σ' H') X.xe s
abbrev Zhv:=V→V→V→Hp→(Hp→Prop)→Prop
def PSet (X:Cx)(t:Zhv):Prop :=
 ∀ (pins:List (Addr×Obj)) (s:Shared) (σ:St) (H:Hp) (o i v:V) (ov iv u:Value) (Q:Hp→Prop),Inv X pins σ H s→RelV o ov→RelV i iv→RelV v u→t o i v H Q →
   wpAny (model X.prog X.w) X.A (setItem ov iv u) (fun _ s'=>∃ H',Inv X pins σ H' s'∧Q H') X.xe s
abbrev TIp:=V→V→Hp→VK→Prop
def PIp (X:Cx)(op:Operator)(t:TIp):Prop :=
 ∀ (pins:List (Addr×Obj)) (s:Shared) (σ:St) (H:Hp) (x y:V) (v u:Value) (Q:VK),Inv X pins σ H s→RelV x v→RelV y u→t x y H Q →
   wpAny (model X.prog X.w) X.A (inplaceOp op v u) (EP X pins σ Q) X.xe s
section
variable {X:Cx}{pos:Pos}
def UG (i:Nat):TG:=fun v σ H Q=>Q (σ.set i (some v)) H
theorem ZD {i:Nat}{x:Str}(hN:X.N.Nodup)(hi:X.N[i]?=some x)(hx:Loc X.env.scope x)(hf:X.fn x=true∨X.env.scope.names.lookup x=some .local:=by first | exact .inl rfl | exact .inr rfl | assumption):PG X (.Name x pos) (UG i):=by
 intro pins s σ H v u Q I r h
 exact wpAny_assign_Name (Xc I hN hi hx r (fun s' I'=>⟨_,H,I',h⟩) hf)
def gNil:TGs:=fun vs σ H Q=>vs=[]∧Q σ H
def Zfo (t:TG)(u:TGs):TGs:=fun vs σ H Q=>∃ v r,vs=v::r∧t v σ H fun σ' H'=>u r σ' H' Q
theorem Xi:PGs X [] gNil:=by
 intro pins s σ H vs us Q I r h
 obtain ⟨e,h⟩:=h
 subst e
 cases r
 exact assignInOrder_nil ⟨σ,H,I,h⟩
theorem ZQ {e:Expr}{es:List Expr}{t:TG}{u:TGs}(h1:PG X e t)(h2:PGs X es u)
   (hs:(assignEach (e::es) X.env).map (·.2)=assign e X.env::(assignEach es X.env).map (·.2):=by rfl):PGs X (e::es) (Zfo t u):=by
 intro pins s σ H vs us Q I r h
 obtain ⟨v,vr,e1,h⟩:=h
 subst e1
 cases r with
 | cons r rr =>
   rw [hs]
   refine assignInOrder_cons (Zp (h1 pins s σ H _ _ _ I r h) fun _ s1 ⟨σ1,H1,I1,q1⟩=>?_)
   exact h2 pins s1 σ1 H1 _ _ Q I1 rr q1
def gTup (K:PySem.W.Frag)(n:Nat)(t:TGs):TG:=fun v σ H Q=>∃ a xs,v=.ref a∧SqT K H a xs∧xs.length=n∧t xs σ H Q
theorem XT {es:List Expr}{k:Nat}{t:TGs}{n:Nat}(hc:X.calm=true)(h:PGs X es t)
   (hn:(assignEach es X.env).length=n:=by rfl) (hst:(assignEach es X.env).findIdx? (·.1)=none:=by rfl):PG X (.Tuple es k pos) (gTup X.K n t):=by
 intro pins s σ H v u Q I r hw
 obtain ⟨a,xs,e1,hq,hl,hw⟩:=hw
 subst e1
 cases r
 obtain ⟨its,rv,ht,hz⟩:=I.tuple hq
 refine assign_Tuple_tuple (I.ok.hd hc) ht (by simp [hn,← hl,rv.length]) hst fun h' hx=>?_
 have I1:Inv X pins σ H { s with heap:=h' }:=I.kept (t':=s.toks) fun b o e=>hx b o (Nat.ne_of_lt (Heap.lt_size e)) e
 exact h pins _ σ H xs _ Q I1 (by simpa using rv) hw
def gSub (to ti:TE)(t:Zhv):TG:=fun v σ H Q=>to σ H fun o H1=>ti σ H1 fun i H2=>t o i v H2 fun H3=>Q σ H3
theorem Zhj {o i:Expr}{to ti:TE}{t:Zhv}(ho:PE X o to)(hi:PE X i ti)(hs:PSet X t)
   (ha:∀ v,assign (.Subscript o i pos) X.env v=(do
     let ov ← holding [v] (eval o X.env)
     let iv ← holding [v,ov] (eval i X.env)
     standAt pos
     holding [v,ov,iv] (setItem ov iv v)
     release [v,ov,iv] []):=by intro _;rfl):PG X (.Subscript o i pos) (gSub to ti t):=by
 intro pins s σ H v u Q I r h
 rw [ha]
 refine wpAny_bind (wpAny_holding (Zp (ho pins s σ H _ I h) fun ov s1 ⟨x,H1,I1,r1,q1⟩=>?_))
 refine wpAny_bind (wpAny_holding (Zp (hi pins s1 σ H1 _ I1 q1) fun iv s2 ⟨y,H2,I2,r2,q2⟩=>?_))
 refine wpAny_bind (wpAny_standAt (wpAny_bind (wpAny_holding (Zp (hs pins s2 σ H2 x y v ov iv u _ I2 r1 r2 r q2) fun _ s3 ⟨H3,I3,q3⟩=>?_))))
 exact wpAny_release ⟨σ,H3,I3,q3⟩
def ZeX (te:TE)(g:TG):TS:=fun D σ H=>te σ H fun x H1=>g x σ H1 D.nx
theorem Ws {tg e:Expr}{te:TE}{g:TG}(he:PE X e te)(hg:PG X tg g)(hs:swapsWithSole [tg] e pos.line X.env=pure false:=by rfl)(hw:swappedStores [tg] e X.env=pure none:=by rfl)
   (h1:(assignEach [tg] X.env).map (·.2)=[assign tg X.env]:=by rfl):PS X (.Assign [tg] e pos) (ZeX te g):=by
 intro pins s σ H D I h
 refine wpAny_Assign_stores (Zp (he pins s σ H _ I h) fun v s1 ⟨x,H1,I1,r1,q1⟩=>?_) hs hw
 rw [h1]
 exact Zp (hg pins s1 σ H1 x v _ I1 r1 q1) fun _ s2 q=>q
theorem Zw {i:Nat}{x:Str}{e:Expr}{te:TE}{pos':Pos}(hN:X.N.Nodup)(hi:X.N[i]?=some x)(hx:Loc X.env.scope x)(he:PE X e te)(hs:swapsWith e (some (.Name x pos')) pos.line X.env=pure false:=by rfl)(hf:X.fn x=true∨X.env.scope.names.lookup x=some .local:=by first | exact .inl rfl | exact .inr rfl | assumption) :
   PS X (.Assign [.Name x pos'] e pos) (ZeX te (UG i)):=by
 intro pins s σ H D I h
 refine wpAny_Assign_Name (Zp (he pins s σ H _ I h) fun v s1 ⟨y,H1,I1,r1,q1⟩=>?_) hs
 exact Xc I1 hN hi hx r1 (fun s2 I2=>⟨_,H1,I2,q1⟩) hf
def tPar (i j:Nat)(ta:TA):TS:=fun D σ H=>ta σ H fun vs H1=>∃ v w,vs=[v,w]∧D.nx ((σ.set i (some v)).set j (some w)) H1
theorem Zhb {i j:Nat}{x y:Str}{a b:Expr}{ta:TA}{px py pt:Pos}{kt k2 pt2}(hc:X.calm=true)(hN:X.N.Nodup)(hi:X.N[i]?=some x)(hj:X.N[j]?=some y)(hij:i≠j)
   (hx:X.env.scope.names.lookup x=some .local) (hy:X.env.scope.names.lookup y=some .local) (ha:PA X [a,b] ta)
   (hw:swappedStores [.Tuple [.Name x px,.Name y py] kt pt] (.Tuple [a,b] k2 pt2) X.env=pure (some [x,y]))
   (hs:swapsWithSole [.Tuple [.Name x px,.Name y py] kt pt] (.Tuple [a,b] k2 pt2) pos.line X.env=pure false:=by rfl) :
   PS X (.Assign [.Tuple [.Name x px,.Name y py] kt pt] (.Tuple [a,b] k2 pt2) pos) (tPar i j ta):=by
 intro pins s σ H D I h
 rw [exec_Assign_arm]
 refine wpAny_bind (wpAny_standAt ?_)
 rw [hs]
 refine wpAny_bind (wpAny_pure ?_)
 rw [if_neg (by decide)]
 refine wpAny_bind (Tuple_ (Zp (ha _ pins s σ H _ I h) fun us s1 ⟨vs,H1,I1,r1,q1⟩=>?_))
 obtain ⟨v,w,e1,q1⟩:=q1
 subst e1
 obtain ⟨u1,u2,rfl,rv,rw'⟩:∃ u1 u2,us=[u1,u2]∧RelV v u1∧RelV w u2:=by
   cases r1 with
   | cons p q =>
     cases q with
     | cons p' q' =>
       cases q'
       exact ⟨_,_,rfl,p,p'⟩
 refine wpAny_newObj_type ?_ (by show 2≤sizeLine;decide)
 have I2:Inv X pins σ H1 { s1 with heap:=s1.heap.push { cls:=.type "tuple",data:=.seq [u1,u2].toArray } }:=I1.kept (t':=s1.toks) fun b o e=>Heap.get?_push_of_some _ e
 rw [hw]
 refine wpAny_bind (wpAny_pure ?_)
 show wpAny (model X.prog X.w) X.A (do rule "assign.swapped-stores";let items ← unpackItems (.ref s1.heap.objs.size) 2 none;assignInOrder [fun v=>bindName X.env y v,fun v=>bindName X.env x v] items.reverse;pure Flow.next) _ _ _
 refine wpAny_bind (wpAny_rule (wpAny_bind (unpackItems_tuple (items:=#[u1,u2]) (I.ok.hd hc) (IsTup.new s1.heap _) fun h' hx'=>?_)))
 have I3:=I2.kept (h':=h') (t':=s1.toks) fun b o e=>hx' b o (Nat.ne_of_lt (Heap.lt_size e)) e
 show wpAny _ _ (assignInOrder [fun v=>bindName X.env y v,fun v=>bindName X.env x v] [u2,u1] >>= fun _=>pure Flow.next) _ _ _
 refine wpAny_bind (assignInOrder_cons (wpAny_bindName (Xc I3 hN hj (.inl hy) rw' (fun s2 I4=>?_) (.inr hy))))
 refine assignInOrder_cons (wpAny_bindName (Xc I4 hN hi (.inl hx) rv (fun s3 I5=>assignInOrder_nil (wpAny_pure ?_)) (.inr hx)))
 rw [List.set_comm _ _ (Ne.symm hij)] at I5
 exact ⟨_,H1,I5,q1⟩
def tAug (i:Nat)(te:TE)(ti:TIp):TS:=fun D σ H=>∃ x,σ[i]?=some (some x)∧te σ H fun y H1=>ti x y H1 fun z H2=>D.nx (σ.set i (some z)) H2
theorem ZlQ {i:Nat}{x:Str}{e:Expr}{te:TE}{op:Operator}{ti:TIp}{pos':Pos}(hN:X.N.Nodup)(hi:X.N[i]?=some x)(hx:Loc X.env.scope x)(he:PE X e te)(ho:PIp X op ti)(hf:X.fn x=true∨X.env.scope.names.lookup x=some .local:=by first | exact .inl rfl | exact .inr rfl | assumption) :
   PS X (.AugAssign (.Name x pos') op e pos) (tAug i te ti):=by
 intro pins s σ H D I h
 obtain ⟨v,e1,h⟩:=h
 obtain ⟨m,hn,hl⟩:=I.loc
 have vis:Vis X.env.scope x:=by rcases hx with k | k;exact .inl k;exact .inr (.inl k)
 obtain ⟨u,r,l⟩:=hl i x v hi e1 vis
 refine wpAny_AugAssign_Name ?_
 have go:wpAny (model X.prog X.w) X.A (eval e X.env) (fun w s₂=>wpAny (model X.prog X.w) X.A (inplaceOp op u w) (fun r s₃=>wpAny (model X.prog X.w) X.A (storeName X.env x r) (fun _=>SP X pins D .next) X.xe s₃) X.xe s₂) X.xe s:=by
   refine Zp (he pins s σ H _ I h) fun w s1 ⟨y,H1,I1,r1,q1⟩=>?_
   refine Zp (ho pins s1 σ H1 v y u w _ I1 r r1 q1) fun z s2 ⟨zv,H2,I2,r2,q2⟩=>?_
   exact Xc I2 hN hi hx r2 (fun s3 I3=>⟨_,H2,I3,q2⟩) hf
 rcases l with ⟨hk,hm⟩ | ⟨hk,c,hc,hcell⟩
 · exact wpAny_loadName_local I.ok.kind hk hn hm go
 · rcases hk with hk | hk
   · exact wpAny_loadName_cell I.ok.kind hk hc hcell go
   · rcases hx with k | k
     · have:X.env.scope.names.lookup x=some .free:=hk
       rw [k] at this;cases this
     · have:X.env.scope.names.lookup x=some .free:=hk
       rw [k] at this;cases this
end
section
variable {X:Cx}{pos:Pos}
def Zlk (c:TT)(tb:TS):TS:=fun D σ H=>∃ W:Nat→St→Hp→Prop,(∃ m,W m σ H)∧∀ m σ H,W m σ H →
 c σ H fun b H1=>if b=true then ∃ N:St→Hp→Prop,(∀ σ' H',N σ' H'→∃ m',m' < m∧W m' σ' H')∧tb { D with nx:=N,ct:=N,bk:=D.nx } σ H1 else D.nx σ H1
theorem Zjd {c:Expr}{body:List Stmt}{tc:TT}{tb:TS}(hp:PassesOwn (model X.prog X.w) X.A X.env X.xe)(hc:PT X c tc)(hb:PSs X body tb):PS X (.While c body [] pos) (Zlk tc tb):=by
 intro pins s σ H D I h
 obtain ⟨W,⟨m0,w0⟩,turn⟩:=h
 refine wpAny_While (codeAny_whileLoop (fun n s'=>∃ σ' H',Inv X pins σ' H' s'∧W n σ' H') ?_ m0 ⟨σ,H,I,w0⟩)
 rintro n s1 ⟨σ1,H1,I1,w1⟩
 refine wpAny_passesOwn hp (Zp (hc pins s1 σ1 H1 _ I1 (turn n σ1 H1 w1)) fun b s2 ⟨H2,I2,q2⟩=>?_)
 cases b with
 | true =>
   obtain ⟨N,hN,q2⟩:=q2
   rw [if_pos rfl]
   refine wpAny_passesOwn hp (Zp (hb pins s2 σ1 H2 _ I2 q2) fun f s3 q3=>?_)
   cases f with
   | next =>
     obtain ⟨σ3,H3,I3,n3⟩:=q3
     obtain ⟨m',hm,w3⟩:=hN σ3 H3 n3
     exact ⟨m',hm,σ3,H3,I3,w3⟩
   | cont =>
     obtain ⟨σ3,H3,I3,n3⟩:=q3
     obtain ⟨m',hm,w3⟩:=hN σ3 H3 n3
     exact ⟨m',hm,σ3,H3,I3,w3⟩
   | brk=>exact q3
   | ret v=>exact q3
 | false =>
   rw [if_neg Bool.false_ne_true]
   exact wpAny_execs_nil ⟨σ1,H2,I2,q2⟩
end
structure It where
 go:Nat→Hp→Prop
 yld:Nat→Hp→V→Hp→Prop
 stop:Nat→Hp→Prop
def YC (X:Cx)(pins:List (Addr×Obj))(H:Hp)(b:Addr):Prop :=
 H b=none∧b≠X.env.locals∧b ∉ X.fs∧(b∈X.ex∨X.s₀.heap.objs.size≤b)∧(∀ x c,X.env.cells.lookup x=some c→c≠b)∧∀ p∈X.pn++pins,p.1≠b
theorem Inv.fpOk {X:Cx}{pins:List (Addr×Obj)}{σ:St}{H H':Hp}{s:Shared}{b:Addr}(I:Inv X pins σ H s)(hb:s.heap.objs.size≤b)(hn:H' b=none):YC X pins H' b:=by
 refine ⟨hn,Nat.ne_of_gt (Nat.lt_of_lt_of_le I.lt hb),I.nofs hb,.inr (Nat.le_trans I.sz hb),fun x c e z=>?_,fun p hp z=>?_⟩
 · obtain ⟨v,q⟩:=I.cell x c e
   exact absurd (Nat.lt_of_lt_of_le q.lt (by rw [z];exact hb)) (Nat.lt_irrefl _)
 · exact absurd (Nat.lt_of_lt_of_le (Heap.lt_size (I.pin p hp).1) (by rw [z];exact hb)) (Nat.lt_irrefl _)
structure WE (P:Program)(w:World)(K:PySem.W.Frag)(tg:Expr)(J:It)(fp:List Addr)(it:Addr)(tn:Nat→Heap→Prop):Prop where
 mem:it∈fp
 obj:∀ i h,tn i h→∀ b∈fp,∃ o,h.get? b=some o∧∀ v,o.data≠.cell v
 keep:∀ i h h',tn i h→(∀ b∈fp,∀ o,h.get? b=some o→h'.get? b=some o)→tn i h'
 item:∀ (X:Cx),X.prog=P→X.w=w→X.K=K→X.calm=true→∀ (i:Nat) (pins:List (Addr×Obj)) (s:Shared) (σ:St) (H:Hp) (E:Value→Shared→Prop),Inv X pins σ H s→(∀ b∈fp,YC X pins H b)→tn i s.heap→J.go i H →
   wpAny (model P w) X.A (pyNext (.ref it)) (fun r s1=>∃ u,r=some u ∧
     wpAny (model P w) X.A (letOwnedTupleGo tg (.ref it) u) (fun _ s2=>∃ x H',Inv X pins σ H' s2∧RelV x u∧J.yld i H x H'∧tn (i+1) s2.heap∧∀ b∈fp,H' b=none) E s1) E s
 done:∀ (X:Cx),X.prog=P→X.w=w→X.K=K→X.calm=true→∀ (i:Nat) (pins:List (Addr×Obj)) (s:Shared) (σ:St) (H:Hp) (E:Value→Shared→Prop),Inv X pins σ H s→(∀ b∈fp,YC X pins H b)→tn i s.heap→J.stop i H →
   wpAny (model P w) X.A (pyNext (.ref it)) (fun r s1=>r=none∧Inv X pins σ H s1) E s
 self:∀ (A:Around) (i:Nat) (s:Shared) (Q:Value→Shared→Prop) (E:Value→Shared→Prop),tn i s.heap→Q (.ref it) s→wpAny (model P w) A (pyIter (.ref it)) Q E s
abbrev TI:=St→Hp→(It→Hp→Prop)→Prop
def PIE (X:Cx)(pins:List (Addr×Obj))(σ:St)(tg:Expr)(R:It→Hp→Prop)(itv:Value)(s2:Shared):Prop :=
 ∃ (it:Addr) (fp:List Addr) (tn:Nat→Heap→Prop) (J:It) (H':Hp),itv=.ref it∧Inv X pins σ H' s2∧WE X.prog X.w X.K tg J fp it tn∧tn 0 s2.heap∧(∀ b∈fp,YC X pins H' b)∧R J H'
def PI (X:Cx)(tg iter:Expr)(wi:TI):Prop :=
 ∀ (pins:List (Addr×Obj)) (s:Shared) (σ:St) (H:Hp) (R:It→Hp→Prop),Inv X pins σ H s→wi σ H R →
   wpAny (model X.prog X.w) X.A (eval iter X.env) (fun v s1=>wpAny (model X.prog X.w) X.A (pyIter v) (PIE X pins σ tg R) X.xe s1) X.xe s
theorem ZaB {M:Model}{A:Around}{E:Value→Shared→Prop}{s:Shared}{tg:Expr}{it:Addr}{u:Value}{o:Obj}{n:String}{vs:Array Value}{Q:Unit→Shared→Prop}(ho:s.heap.get? it=some o)(hc:o.cls=.type n)(hd:o.data=.fields vs)
   (hn:["enumerate","zip","dict_itemiterator","dict_reverseitemiterator","odict_iterator","itertools.zip_longest","itertools.pairwise"].contains n=false) (hQ:Q () s):wpAny M A (letOwnedTupleGo tg (.ref it) u) Q E s:=by
 unfold letOwnedTupleGo
 cases tg <;> first
   | exact wpAny_pure hQ
   | (cases u<;>first
       | exact wpAny_pure hQ
       | (refine wpAny_bind (wpAny_load ho ?_)
          rw [hc,hd]
          show wpAny M A (if (["enumerate","zip","dict_itemiterator","dict_reverseitemiterator","odict_iterator","itertools.zip_longest","itertools.pairwise"].contains n&&vs[0]? == some (rawInt _))=true then _ else _) Q E s
          rw [if_neg (by intro h;rw [hn,Bool.false_and] at h;cases h)]
          exact wpAny_pure hQ))
def Itl (K:PySem.W.Frag)(a:Addr):It :=
 ⟨fun i H=>∃ xs x,SqL K H a xs∧xs[i]?=some x,fun i H x H'=>H'=H∧∀ xs,SqL K H a xs→xs[i]?=some x,fun i H=>∃ xs,SqL K H a xs∧xs.length≤i⟩
def Itt (K:PySem.W.Frag)(a:Addr):It :=
 ⟨fun i H=>∃ xs x,SqT K H a xs∧xs[i]?=some x,fun i H x H'=>H'=H∧∀ xs,SqT K H a xs→xs[i]?=some x,fun i H=>∃ xs,SqT K H a xs∧xs.length≤i⟩
def Itr (lo:Int)(n:Nat):It:=⟨fun i _=>i < n,fun i H x H'=>H'=H∧x=.int (lo+i),fun i _=>n≤i⟩
theorem Zhi {P:Program}{w:World}{K:PySem.W.Frag}{tg:Expr}(a it:Addr):WE P w K tg (Itl K a) [it] it (fun i h=>h.IsListIter it a i) where
 mem:=by simp
 obj:=fun i h st b hb=>by
   have e:b=it:=by simpa using hb
   subst e
   obtain ⟨o,e,c,d⟩:=st
   exact ⟨o,e,fun v z=>by rw [d] at z;cases z⟩
 keep:=fun i h h' st k=>st.at fun o e=>k it (by simp) o e
 item:=by
   intro X hP hw hK hc i pins s σ H E I hf st hg
   subst hP hw hK
   obtain ⟨xs,x,hq,hx⟩:=hg
   obtain ⟨its,rv,p,hz⟩:=I.list hq
   obtain ⟨u,hu,ru⟩:=rv.get hx
   obtain ⟨f0,f1,f2,f3,f4,f5⟩:=hf it (by simp)
   refine wpAny_pyNext_list_item st p.isList (x:=u) (by simpa using hu) fun h' st' sb=>?_
   have I1:Inv X pins σ H { s with heap:=h' }:=I.turned (t':=s.toks) (fun b o hb e=>(sb.2 b hb).trans e) f0 f1 f3 f4 f5
   obtain ⟨o,e,c,d⟩:=id st'
   exact ⟨u,rfl,ZaB (s:={ s with heap:=h' }) e c d (by decide) ⟨x,H,I1,ru,⟨rfl,fun ys hy=>by rw [I.list_inj hy hq];exact hx⟩,st',fun b hb=>(hf b hb).1⟩⟩
 done:=by
   intro X hP hw hK hc i pins s σ H E I hf st hg
   subst hP hw hK
   obtain ⟨xs,hq,hx⟩:=hg
   obtain ⟨its,rv,p,hz⟩:=I.list hq
   obtain ⟨f0,f1,f2,f3,f4,f5⟩:=hf it (by simp)
   have hl:=rv.length
   exact wpAny_pyNext_list_end (I.ok.hd hc) st p.isList (by simp;omega) fun h' eb=>⟨rfl,I.turned (t':=s.toks) (fun b o hb e=>eb b o hb e) f0 f1 f3 f4 f5⟩
 self:=fun _ _ _ _ _ st h=>wpAny_pyIter_listiter st h
theorem Zfr {P:Program}{w:World}{K:PySem.W.Frag}{tg:Expr}(a it:Addr):WE P w K tg (Itt K a) [it] it (fun i h=>h.IsTupleIter it a i) where
 mem:=by simp
 obj:=fun i h st b hb=>by
   have e:b=it:=by simpa using hb
   subst e
   obtain ⟨o,e,c,d⟩:=st
   exact ⟨o,e,fun v z=>by rw [d] at z;cases z⟩
 keep:=fun i h h' st k=>st.at fun o e=>k it (by simp) o e
 item:=by
   intro X hP hw hK hc i pins s σ H E I hf st hg
   subst hP hw hK
   obtain ⟨xs,x,hq,hx⟩:=hg
   obtain ⟨its,rv,p,hz⟩:=I.tuple hq
   obtain ⟨u,hu,ru⟩:=rv.get hx
   obtain ⟨f0,f1,f2,f3,f4,f5⟩:=hf it (by simp)
   refine wpAny_pyNext_tuple_item st (show s.heap.IsTuple a its.toArray from p) (x:=u) (by simpa using hu) fun h' st' sb=>?_
   have I1:Inv X pins σ H { s with heap:=h' }:=I.turned (t':=s.toks) (fun b o hb e=>(sb.2 b hb).trans e) f0 f1 f3 f4 f5
   obtain ⟨o,e,c,d⟩:=id st'
   exact ⟨u,rfl,ZaB (s:={ s with heap:=h' }) e c d (by decide) ⟨x,H,I1,ru,⟨rfl,fun ys hy=>by rw [I.tuple_inj hy hq];exact hx⟩,st',fun b hb=>(hf b hb).1⟩⟩
 done:=by
   intro X hP hw hK hc i pins s σ H E I hf st hg
   subst hP hw hK
   obtain ⟨xs,hq,hx⟩:=hg
   obtain ⟨its,rv,p,hz⟩:=I.tuple hq
   obtain ⟨f0,f1,f2,f3,f4,f5⟩:=hf it (by simp)
   have hl:=rv.length
   exact wpAny_pyNext_tuple_end (I.ok.hd hc) st (show s.heap.IsTuple a its.toArray from p) (by simp;omega) fun h' eb=>⟨rfl,I.turned (t':=s.toks) (fun b o hb e=>eb b o hb e) f0 f1 f3 f4 f5⟩
 self:=fun _ _ _ _ _ st h=>wpAny_pyIter_tupleiter st h
theorem Zfq {P:Program}{w:World}{K:PySem.W.Frag}{tg:Expr}(it:Addr)(lo:Int)(n:Nat):WE P w K tg (Itr lo n) [it] it (fun i h=>IsRangeIter h it (lo+(i:Nat) * 1) ((n:Int) - (i:Nat)) 1) where
 mem:=by simp
 obj := fun i h st b hb=>by
   have e:b=it:=by simpa using hb
   subst e
   exact ⟨_,st,fun v z=>by
     have z':Data.fields _=Data.cell v:=z
     cases z'⟩
 keep:=fun i h h' st k=>k it (by simp) _ st
 item:=by
   intro X hP hw hK hc i pins s σ H E I hf st hg
   subst hP hw hK
   obtain ⟨f0,f1,f2,f3,f4,f5⟩:=hf it (by simp)
   have W:=Walks.range (prog:=X.prog) (w:=X.w) (I.ok.hd hc) it lo 1 n
   refine W.item i s _ _ hg st fun v h' tk hv st' kk=>?_
   obtain ⟨t,rfl⟩:=hv
   have I1:Inv X pins σ H { s with heap:=h',toks:=tk }:=I.turned (fun b o hb e=>kk b o (by simpa using hb) e) f0 f1 f3 f4 f5
   refine ⟨_,rfl,ZaB (s:={ s with heap:=h',toks:=tk }) (n:="range_iterator") st' rfl rfl (by decide) ⟨.int (lo+i),H,I1,⟨t,?_⟩,⟨rfl,rfl⟩,st',fun b hb=>(hf b hb).1⟩⟩
   rw [Int.mul_one]
 done:=by
   intro X hP hw hK hc i pins s σ H E I hf st hg
   subst hP hw hK
   obtain ⟨f0,f1,f2,f3,f4,f5⟩:=hf it (by simp)
   exact wpAny_pyNext_range_end (I.ok.hd hc) st (by have:n≤i:=hg;omega) fun h' eb=>⟨rfl,I.turned (t':=s.toks) (fun b o hb e=>eb b o hb e) f0 f1 f3 f4 f5⟩
 self:=fun _ _ _ _ _ st h=>wpAny_pyIter_rangeiter st h
end L2
namespace L2
open PySem PySem.Spec PyProof.Rows
section
variable {X:Cx}{tg:Expr}
def ZmJ (K:PySem.W.Frag)(tl:TE):TI:=fun σ H R=>tl σ H fun x H1=>∃ a,x=.ref a∧(∃ xs,SqL K H1 a xs)∧R (Itl K a) H1
def iTup (K:PySem.W.Frag)(tl:TE):TI:=fun σ H R=>tl σ H fun x H1=>∃ a,x=.ref a∧(∃ xs,SqT K H1 a xs)∧R (Itt K a) H1
theorem Zbs {l:Expr}{tl:TE}(hl:PE X l tl):PI X tg l (ZmJ X.K tl):=by
 intro pins s σ H R I h
 refine Zp (hl pins s σ H _ I h) fun v s1 ⟨x,H1,I1,r1,q1⟩=>?_
 obtain ⟨a,e,⟨xs,hq⟩,q⟩:=q1
 subst e
 cases r1
 obtain ⟨its,rv,p,hz⟩:=I1.list hq
 refine wpAny_pyIter_list p.isList ?_
 refine ⟨s1.heap.objs.size,[s1.heap.objs.size],_,_,H1,rfl,I1.kept (t':=s1.toks) fun b o e=>Heap.get?_push_of_some _ e,Zhi a _,⟨_,Heap.get?_push_size _ rfl,rfl,rfl⟩,fun b hb=>?_,q⟩
 have e:b=s1.heap.objs.size:=by simpa using hb
 subst e
 exact I1.fpOk (Nat.le_refl _) (I1.hok.fresh (Nat.le_refl _))
theorem ZcQ {l:Expr}{tl:TE}(hl:PE X l tl):PI X tg l (iTup X.K tl):=by
 intro pins s σ H R I h
 refine Zp (hl pins s σ H _ I h) fun v s1 ⟨x,H1,I1,r1,q1⟩=>?_
 obtain ⟨a,e,⟨xs,hq⟩,q⟩:=q1
 subst e
 cases r1
 obtain ⟨its,rv,p,hz⟩:=I1.tuple hq
 refine wpAny_pyIter_tuple (show s1.heap.IsTuple a its.toArray from p) ?_
 refine ⟨s1.heap.objs.size,[s1.heap.objs.size],_,_,H1,rfl,I1.kept (t':=s1.toks) fun b o e=>Heap.get?_push_of_some _ e,Zfr a _,⟨_,Heap.get?_push_size _ rfl,rfl,rfl⟩,fun b hb=>?_,q⟩
 have e:b=s1.heap.objs.size:=by simpa using hb
 subst e
 exact I1.fpOk (Nat.le_refl _) (I1.hok.fresh (Nat.le_refl _))
theorem ZiN {pins:List (Addr×Obj)}{σ:St}{H:Hp}{s:Shared}{R:It→Hp→Prop}{E:Value→Shared→Prop}{lo hi:Int}{t u v:Tok}{tk:Nat}(I:Inv X pins σ H s)(h1:-(2 ^ 62)≤lo)(h2:lo < 2 ^ 62)(h3:-(2 ^ 62)≤hi)(h4:hi < 2 ^ 62)
   (q:R (Itr lo (hi - lo).toNat) H):wpAny (model X.prog X.w) X.A (pyIter (.ref s.heap.objs.size)) (PIE X pins σ tg R) E { s with heap:=s.heap.push { cls:=.type "range",data:=.fields #[.int lo t,.int hi u,.int 1 v] },toks:=tk }:=by
 refine wpAny_pyIter_range (IsRange.new ..) (small_one h1 h2 h3 h4) ?_
 have I1:Inv X pins σ H { s with heap:=s.heap.push { cls:=.type "range",data:=.fields #[.int lo t,.int hi u,.int 1 v] },toks:=tk }:=I.kept fun b o e=>Heap.get?_push_of_some _ e
 refine ⟨(s.heap.push { cls:=.type "range",data:=.fields #[.int lo t,.int hi u,.int 1 v] }).objs.size,[(s.heap.push { cls:=.type "range",data:=.fields #[.int lo t,.int hi u,.int 1 v] }).objs.size],_,_,H,rfl,
   I1.kept (t':=tk) fun b o e=>Heap.get?_push_of_some _ e,Zfq _ lo (hi - lo).toNat,?_,fun b hb=>?_,q⟩
 · have e1:lo+((0:Nat):Int) * 1=lo:=by simp
   have e2:(((hi - lo).toNat:Nat):Int) - ((0:Nat):Int)=Builtin.Range.rangeSize lo hi 1:=by rw [rangeSize_one];split<;>omega
   show IsRangeIter _ _ (lo+((0:Nat):Int) * 1) ((((hi - lo).toNat:Nat):Int) - ((0:Nat):Int)) 1
   rw [e1,e2]
   exact Heap.get?_push_size _ rfl
 · have e:b=(s.heap.push { cls:=.type "range",data:=.fields #[.int lo t,.int hi u,.int 1 v] }).objs.size:=by simpa using hb
   subst e
   exact I1.fpOk (Nat.le_refl _) (I1.hok.fresh (Nat.le_refl _))
def Znf (ta:TA):TI:=fun σ H R=>ta σ H fun vs H1=>∃ j:Int,vs=[.int j]∧-(2 ^ 62)≤j∧j < 2 ^ 62∧R (Itr 0 j.toNat) H1
theorem Wj {a:Expr}{ta:TA}{p pos:Pos}(hg:Gl X "range")(hm:X.mg "range"=none)(ha:PA X [a] ta)(hs:starEach [a] X.env=[(false,eval a X.env)]:=by rfl):PI X tg (.Call (.Name "range" p) [a] [] pos) (Znf ta):=by
 intro pins s σ H R I h
 refine Call_ (WS I hg hm boot_range (PyProof.Rows.callWith_type1 (Zp (ha pos pins s σ H _ I h) fun us s1 ⟨vs,H1,I1,r1,q1⟩=>?_) hs rfl))
 obtain ⟨j,e,q1,q2,q⟩:=q1
 subst e
 cases r1 with
 | cons r rr =>
   cases rr
   obtain ⟨t,rfl⟩:=r
   exact call_range_1 (ZiN I1 (by omega) (by omega) q1 q2 (by simpa using q))
def tFor (wi:TI)(g:TG)(tb:TS):TS:=fun D σ H=>wi σ H fun J H1=>∃ W:Nat→Nat→St→Hp→Prop,(∃ m,W 0 m σ H1)∧∀ i m σ H,W i m σ H →
 (J.stop i H∧D.nx σ H)∨(J.go i H∧∃ N:St→Hp→Prop,(∀ σ' H',N σ' H'→∃ m',m' < m∧W (i+1) m' σ' H')∧∀ x H',J.yld i H x H'→g x σ H' fun σ2 H2=>tb { D with nx:=N,ct:=N,bk:=D.nx } σ2 H2)
def Zbd (fp:List Addr)(h:Heap):List (Addr×Obj):=fp.filterMap fun b=>(h.get? b).map fun o=>(b,o)
theorem YK {fp:List Addr}{h:Heap}{b:Addr}{o:Obj}(hb:b∈fp)(e:h.get? b=some o):(b,o)∈Zbd fp h:=List.mem_filterMap.mpr ⟨b,hb,by rw [e];rfl⟩
theorem ZfY {fp:List Addr}{h:Heap}{p:Addr×Obj}(hp:p∈Zbd fp h):p.1∈fp∧h.get? p.1=some p.2:=by
 obtain ⟨b,hb,e⟩:=List.mem_filterMap.mp hp
 cases q:h.get? b with
 | none=>rw [q] at e;cases e
 | some o =>
   rw [q] at e
   have e':(b,o)=p:=Option.some.inj e
   subst e'
   exact ⟨hb,q⟩
theorem Inv.pinned {pins:List (Addr×Obj)}{σ:St}{H:Hp}{s:Shared}{fp:List Addr}(I:Inv X pins σ H s)(hf:∀ b∈fp,YC X pins H b)(ho:∀ b∈fp,∃ o,s.heap.get? b=some o∧∀ v,o.data≠.cell v):Inv X (pins++Zbd fp s.heap) σ H s :=
 I.pins_of fun p hp=>(List.mem_append.mp hp).elim (fun z=>I.pin p (List.mem_append_right _ z)) fun z=>by
   obtain ⟨hb,e⟩:=ZfY z
   obtain ⟨f0,f1,f2,_⟩:=hf p.1 hb
   obtain ⟨o,e',d⟩:=ho p.1 hb
   rw [e] at e';cases e'
   exact ⟨e,f0,f1,f2,d⟩
theorem Inv.unpinned {pins pl:List (Addr×Obj)}{σ:St}{H:Hp}{s:Shared}(I:Inv X (pins++pl) σ H s):Inv X pins σ H s:=I.pins_of fun p hp=>I.pin p (List.mem_append_right _ (List.mem_append_left _ hp))
theorem Xu {iter:Expr}{body:List Stmt}{wi:TI}{g:TG}{tb:TS}{pos:Pos}(hp:PassesOwn (model X.prog X.w) X.A X.env X.xe)(hc:X.calm=true)(hi:PI X tg iter wi)(hg:PG X tg g)(hb:PSs X body tb)
   (hs:∀ x,foldedSetIterable iter X.env x=pure x:=by intro _;rfl):PS X (.For tg iter body [] pos) (tFor wi g tb):=by
 intro pins s σ H D I h
 refine wpAny_For (Zp (hi pins s σ H _ I h) fun v s1 h1=>Zp h1 fun itv s2 h2=>?_) hs
 obtain ⟨it,fp,tn,J,H2,e,I2,T,st2,f2,W,⟨m0,w0⟩,turn⟩:=h2
 subst e
 have stat:∀ {H':Hp},(∀ b∈fp,H' b=none)→∀ b∈fp,YC X pins H' b:=fun hn b hb=>⟨hn b hb,(f2 b hb).2⟩
 refine codeAny_forLoop_any (fun n s'=>∃ i σ' H',Inv X pins σ' H' s'∧tn i s'.heap∧(∀ b∈fp,H' b=none)∧W i n σ' H') ?_ m0 ⟨0,σ,H2,I2,st2,fun b hb=>(f2 b hb).1,w0⟩
 rintro n s3 ⟨i,σ3,H3,I3,st3,fr3,w3⟩
 rcases turn i n σ3 H3 w3 with ⟨stop,qn⟩ | ⟨go,N,hN,step⟩
 · refine wpAny_passesOwn hp (Zp (T.done X rfl rfl rfl hc i pins s3 σ3 H3 X.xe I3 (stat fr3) st3 stop) fun r s4 ⟨hr,I4⟩=>?_)
   subst hr
   exact wpAny_execs_nil ⟨σ3,H3,I4,qn⟩
 · refine wpAny_passesOwn hp (Zp (T.item X rfl rfl rfl hc i pins s3 σ3 H3 X.xe I3 (stat fr3) st3 go) fun r s4 ⟨u,hr,h4⟩=>?_)
   subst hr
   refine wpAny_passesOwn hp (Zp h4 fun _ s5 ⟨x,H5,I5,r5,y5,st5,fr5⟩=>?_)
   have I5':=I5.pinned (stat fr5) (T.obj _ _ st5)
   refine wpAny_passesOwn hp (Zp (hg _ s5 σ3 H5 x u _ I5' r5 (step x H5 y5)) fun _ s6 ⟨σ6,H6,I6,q6⟩=>?_)
   refine wpAny_passesOwn hp (Zp (hb _ s6 σ6 H6 _ I6 q6) fun f s7 q7=>?_)
   have again:∀ {σ7:St} {H7:Hp},Inv X (pins++Zbd fp s5.heap) σ7 H7 s7→N σ7 H7→∃ m,m < n∧∃ i σ' H',Inv X pins σ' H' s7∧tn i s7.heap∧(∀ b∈fp,H' b=none)∧W i m σ' H':=fun {σ7 H7} I7 n7=>by
     obtain ⟨m',hm,w7⟩:=hN σ7 H7 n7
     refine ⟨m',hm,i+1,σ7,H7,I7.unpinned,T.keep _ _ _ st5 fun b hb o e=>(I7.pin (b,o) (List.mem_append_right _ (List.mem_append_right _ (YK hb e)))).1,fun b hb=>?_,w7⟩
     obtain ⟨o,e,d⟩:=T.obj _ _ st5 b hb
     exact (I7.pin (b,o) (List.mem_append_right _ (List.mem_append_right _ (YK hb e)))).2.1
   cases f with
   | next=>obtain ⟨σ7,H7,I7,n7⟩:=q7;exact again I7 n7
   | cont=>obtain ⟨σ7,H7,I7,n7⟩:=q7;exact again I7 n7
   | brk=>obtain ⟨σ7,H7,I7,q7⟩:=q7;exact ⟨σ7,H7,I7.unpinned,q7⟩
   | ret v=>obtain ⟨x7,σ7,H7,I7,r7,q7⟩:=q7;exact ⟨x7,σ7,H7,I7.unpinned,r7,q7⟩
end
theorem ZcX {K:PySem.W.Frag}{a:Addr}{xs:List V}{g:TG}{tb:TS}{D:Uc}{σ:St}{H:Hp}(Pv:Nat→St→Hp→Prop)(h0:Pv 0 σ H)(hl:∀ i σ H,i≤xs.length→Pv i σ H→SqL K H a xs)
   (hs:∀ i x σ H,xs[i]?=some x→Pv i σ H→g x σ H fun σ2 H2=>tb { D with nx:=Pv (i+1),ct:=Pv (i+1),bk:=D.nx } σ2 H2) (hd:∀ σ H,Pv xs.length σ H→D.nx σ H) :
   ∃ W:Nat→Nat→St→Hp→Prop,(∃ m,W 0 m σ H)∧∀ i m σ H,W i m σ H →
     ((Itl K a).stop i H∧D.nx σ H)∨((Itl K a).go i H∧∃ N:St→Hp→Prop,(∀ σ' H',N σ' H'→∃ m',m' < m∧W (i+1) m' σ' H')∧∀ x H',(Itl K a).yld i H x H'→g x σ H' fun σ2 H2=>tb { D with nx:=N,ct:=N,bk:=D.nx } σ2 H2):=by
 refine ⟨fun i m σ H=>m=xs.length - i∧i≤xs.length∧Pv i σ H,⟨xs.length,by simp,Nat.zero_le _,h0⟩,?_⟩
 rintro i m σ H ⟨rfl,hi,p⟩
 have q:=hl i σ H hi p
 by_cases hlt:i < xs.length
 · refine .inr ⟨⟨xs,xs[i],q,by simp [hlt]⟩,Pv (i+1),fun σ' H' p'=>⟨xs.length - (i+1),by omega,rfl,hlt,p'⟩,fun x H' y=>?_⟩
   obtain ⟨e,y⟩:=y
   subst e
   exact hs i x σ _ (y xs q) p
 · have e:i=xs.length:=by omega
   subst e
   exact .inl ⟨⟨xs,q,Nat.le_refl _⟩,hd σ H p⟩
theorem ZdL {K:PySem.W.Frag}{a:Addr}{xs:List V}{g:TG}{tb:TS}{D:Uc}{σ:St}{H:Hp}(Pv:Nat→St→Hp→Prop)(h0:Pv 0 σ H)(hl:∀ i σ H,i≤xs.length→Pv i σ H→SqT K H a xs)
   (hs:∀ i x σ H,xs[i]?=some x→Pv i σ H→g x σ H fun σ2 H2=>tb { D with nx:=Pv (i+1),ct:=Pv (i+1),bk:=D.nx } σ2 H2) (hd:∀ σ H,Pv xs.length σ H→D.nx σ H) :
   ∃ W:Nat→Nat→St→Hp→Prop,(∃ m,W 0 m σ H)∧∀ i m σ H,W i m σ H →
     ((Itt K a).stop i H∧D.nx σ H)∨((Itt K a).go i H∧∃ N:St→Hp→Prop,(∀ σ' H',N σ' H'→∃ m',m' < m∧W (i+1) m' σ' H')∧∀ x H',(Itt K a).yld i H x H'→g x σ H' fun σ2 H2=>tb { D with nx:=N,ct:=N,bk:=D.nx } σ2 H2):=by
 refine ⟨fun i m σ H=>m=xs.length - i∧i≤xs.length∧Pv i σ H,⟨xs.length,by simp,Nat.zero_le _,h0⟩,?_⟩
 rintro i m σ H ⟨rfl,hi,p⟩
 have q:=hl i σ H hi p
 by_cases hlt:i < xs.length
 · refine .inr ⟨⟨xs,xs[i],q,by simp [hlt]⟩,Pv (i+1),fun σ' H' p'=>⟨xs.length - (i+1),by omega,rfl,hlt,p'⟩,fun x H' y=>?_⟩
   obtain ⟨e,y⟩:=y
   subst e
   exact hs i x σ _ (y xs q) p
 · have e:i=xs.length:=by omega
   subst e
   exact .inl ⟨⟨xs,q,Nat.le_refl _⟩,hd σ H p⟩
theorem UE {lo:Int}{n:Nat}{g:TG}{tb:TS}{D:Uc}{σ:St}{H:Hp}(Pv:Nat→St→Hp→Prop)(h0:Pv 0 σ H)
   (hs:∀ i σ H,i < n→Pv i σ H→g (.int (lo+i)) σ H fun σ2 H2=>tb { D with nx:=Pv (i+1),ct:=Pv (i+1),bk:=D.nx } σ2 H2) (hd:∀ σ H,Pv n σ H→D.nx σ H) :
   ∃ W:Nat→Nat→St→Hp→Prop,(∃ m,W 0 m σ H)∧∀ i m σ H,W i m σ H →
     ((Itr lo n).stop i H∧D.nx σ H)∨((Itr lo n).go i H∧∃ N:St→Hp→Prop,(∀ σ' H',N σ' H'→∃ m',m' < m∧W (i+1) m' σ' H')∧∀ x H',(Itr lo n).yld i H x H'→g x σ H' fun σ2 H2=>tb { D with nx:=N,ct:=N,bk:=D.nx } σ2 H2):=by
 refine ⟨fun i m σ H=>m=n - i∧i≤n∧Pv i σ H,⟨n,by simp,Nat.zero_le _,h0⟩,?_⟩
 rintro i m σ H ⟨rfl,hi,p⟩
 by_cases hlt:i < n
 · refine .inr ⟨hlt,Pv (i+1),fun σ' H' p'=>⟨n - (i+1),by omega,rfl,hlt,p'⟩,fun x H' y=>?_⟩
   obtain ⟨e,y⟩:=y
   subst e y
   exact hs i σ _ hlt p
 · have e:i=n:=by omega
   subst e
   exact .inl ⟨Nat.le_refl _,hd σ H p⟩
end L2
namespace L2
open PySem PySem.Spec PyProof.Rows
abbrev R2:=V→V→Hp→VK→Prop
def YR (X:Cx)(f:Value→Value→Sem Value)(r:R2):Prop :=
 ∀ (pins:List (Addr×Obj)) (s:Shared) (σ:St) (H:Hp) (x y:V) (v u:Value) (Q:VK),Inv X pins σ H s→RelV x v→RelV y u→r x y H Q →
   wpAny (model X.prog X.w) X.A (f v u) (EP X pins σ Q) X.xe s
def UnR (X:Cx)(f:Value→Sem Value)(r:V→Hp→VK→Prop):Prop :=
 ∀ (pins:List (Addr×Obj)) (s:Shared) (σ:St) (H:Hp) (x:V) (v:Value) (Q:VK),Inv X pins σ H s→RelV x v→r x H Q →
   wpAny (model X.prog X.w) X.A (f v) (EP X pins σ Q) X.xe s
def YQ (X:Cx)(f:Value)(r:List V→Hp→VK→Prop):Prop :=
 ∀ (pins:List (Addr×Obj)) (s:Shared) (σ:St) (H:Hp) (xs:List V) (us:List Value) (Q:VK),Inv X pins σ H s→Vals xs us→r xs H Q →
   wpAny (model X.prog X.w) X.A (call f us) (EP X pins σ Q) X.xe s
def TruR (X:Cx)(r:V→Hp→(Bool→Hp→Prop)→Prop):Prop :=
 ∀ (pins:List (Addr×Obj)) (s:Shared) (σ:St) (H:Hp) (x:V) (v:Value) (Q:Bool→Hp→Prop),Inv X pins σ H s→RelV x v→r x H Q →
   wpAny (model X.prog X.w) X.A (truthy v) (TP X pins σ Q) X.xe s
def tOp (r:R2)(ta tb:TE):TE:=fun σ H Q=>ta σ H fun x H1=>tb σ H1 fun y H2=>r x y H2 Q
def tUn (r:V→Hp→VK→Prop)(ta:TE):TE:=fun σ H Q=>ta σ H fun x H1=>r x H1 Q
def rI (C:Int→Int→Prop)(g:Int→Int→V):R2:=fun x y H Q=>∃ i j,x=.int i∧y=.int j∧C i j∧Q (g i j) H
def rI0 (g:Int→Int→V):R2:=fun x y H Q=>∃ i j,x=.int i∧y=.int j∧Q (g i j) H
def rU (g:Int→V):V→Hp→VK→Prop:=fun x H Q=>∃ i,x=.int i∧Q (g i) H
section
variable {X:Cx}{a b c:Expr}{ta tb tc:TE}{pos:Pos}
theorem ZhO (ha:PE X a ta)(hb:PE X b tb){pins:List (Addr×Obj)}{s:Shared}{σ:St}{H:Hp}{R:V→V→Hp→Prop}(I:Inv X pins σ H s)
   (h:ta σ H fun x H1=>tb σ H1 fun y H2=>R x y H2) {Q:Value→Shared→Prop} {f:Value→Value→Sem Value}
   (hf:∀ v u s2 x y H2,Inv X pins σ H2 s2→RelV x v→RelV y u→R x y H2→wpAny (model X.prog X.w) X.A (f v u) Q X.xe s2) :
   wpAny (model X.prog X.w) X.A (eval a X.env) (fun v s₁=>wpAny (model X.prog X.w) X.A (eval b X.env) (fun u s₂=>wpAny (model X.prog X.w) X.A (f v u) Q X.xe s₂) X.xe s₁) X.xe s:=by
 refine Zp (ha pins s σ H _ I h) fun v s1 ⟨x,H1,I1,r1,q1⟩=>?_
 refine Zp (hb pins s1 σ H1 _ I1 q1) fun u s2 ⟨y,H2,I2,r2,q2⟩=>?_
 exact hf v u s2 x y H2 I2 r1 r2 q2
theorem Zk {op:Operator}{r:R2}(ho:YR X (binaryOp op) r)(ha:PE X a ta)(hb:PE X b tb):PE X (.BinOp a op b pos) (tOp r ta tb):=by
 intro pins s σ H Q I h
 exact wpAny_BinOp (ZhO ha hb I h fun v u s2 x y H2 I2 rx ry q=>ho pins s2 σ H2 x y v u Q I2 rx ry q)
theorem ZfK {op:UnaryOp}{r:V→Hp→VK→Prop}(ho:UnR X (unaryOp op) r)(ha:PE X a ta):PE X (.UnaryOp op a pos) (tUn r ta):=by
 intro pins s σ H Q I h
 exact UnaryOp_ (Zp (ha pins s σ H _ I h) fun v s1 ⟨x,H1,I1,r1,q1⟩=>ho pins s1 σ H1 x v Q I1 r1 q1)
theorem opI {f:Value→Value→Sem Value}{C:Int→Int→Prop}{g:Int→Int→Int}
   (rule:∀ (i j:Int) (t u:Tok) (s:Shared) (Q:Value→Shared→Prop) (E:Value→Shared→Prop),C i j→Q (.int (g i j) s.toks) { s with toks:=s.toks+1 }→wpAny (model X.prog X.w) X.A (f (.int i t) (.int j u)) Q E s) :
   YR X f (rI C fun i j=>.int (g i j)):=by
 intro pins s σ H x y v u Q I rx ry h
 obtain ⟨i,j,rfl,rfl,hc,q⟩:=h
 obtain ⟨t,rfl⟩:=rx
 obtain ⟨t',rfl⟩:=ry
 exact rule i j t t' s _ _ hc ⟨.int (g i j),H,I.tok _,⟨_,rfl⟩,q⟩
theorem opI0 {f:Value→Value→Sem Value}{g:Int→Int→Int}
   (rule:∀ (i j:Int) (t u:Tok) (s:Shared) (Q:Value→Shared→Prop) (E:Value→Shared→Prop),Q (.int (g i j) s.toks) { s with toks:=s.toks+1 }→wpAny (model X.prog X.w) X.A (f (.int i t) (.int j u)) Q E s) :
   YR X f (rI0 fun i j=>.int (g i j)):=by
 intro pins s σ H x y v u Q I rx ry h
 obtain ⟨i,j,rfl,rfl,q⟩:=h
 obtain ⟨t,rfl⟩:=rx
 obtain ⟨t',rfl⟩:=ry
 exact rule i j t t' s _ _ ⟨.int (g i j),H,I.tok _,⟨_,rfl⟩,q⟩
theorem Zfn {f:Value→Value→Sem Value}{g:Int→Int→Bool}
   (rule:∀ (i j:Int) (t u:Tok) (s:Shared) (Q:Value→Shared→Prop) (E:Value→Shared→Prop),Q (.bool (g i j)) s→wpAny (model X.prog X.w) X.A (f (.int i t) (.int j u)) Q E s) :
   YR X f (rI0 fun i j=>.bl (g i j)):=by
 intro pins s σ H x y v u Q I rx ry h
 obtain ⟨i,j,rfl,rfl,q⟩:=h
 obtain ⟨t,rfl⟩:=rx
 obtain ⟨t',rfl⟩:=ry
 exact rule i j t t' s _ _ ⟨.bl (g i j),H,I,rfl,q⟩
def CDiv (i j:Int):Prop:=0 < j∧j < 1073741824
def CPow (i j:Int):Prop:=0≤j∧j≤1000000∧i.natAbs < 2 ^ 64
def CMul (i j:Int):Prop:=(-(2 ^ 64) < i∧i < 2 ^ 64)∨(-(2 ^ 64) < j∧j < 2 ^ 64)
theorem CMul.ok {i j:Int}(h:CMul i j):IntMulOk i j:=by
 rcases h with ⟨h1,h2⟩ | ⟨h1,h2⟩
 · exact .of_left (intBits_le_64 h1 h2)
 · exact .of_right (intBits_le_64 h1 h2)
theorem Yn:YR X (binaryOp .Add) (rI0 fun i j=>.int (i+j)):=opI0 fun _ _ _ _ _ _ _ q=>add_int q
theorem WM:YR X (binaryOp .Sub) (rI0 fun i j=>.int (i - j)):=opI0 fun _ _ _ _ _ _ _ q=>sub_int q
theorem Ur:YR X (binaryOp .Mult) (rI CMul fun i j=>.int (i * j)):=opI fun _ _ _ _ _ _ _ hc q=>mul_int q hc.ok
theorem ZjF:YR X (binaryOp .FloorDiv) (rI CDiv fun i j=>.int (i / j)):=opI fun i j _ _ _ _ _ hc q=>by
 have h1:(0:Int) < j:=hc.1
 have h2:j < 1073741824:=hc.2
 exact floordiv_int (by omega) (by rw [Int.fdiv_eq_ediv_of_nonneg i (by omega)];exact q) (.inl (PyProof.noPylong_small (by omega)))
theorem WQ:YR X (binaryOp .Mod) (rI (fun _ j=>0 < j) fun i j=>.int (i % j)):=opI fun i j _ _ _ _ _ hc q=>by
 have h1:(0:Int) < j:=hc
 exact mod_int' (by omega) (by rw [Int.fmod_eq_emod_of_nonneg i (by omega)];exact q)
theorem Zbf:YR X (binaryOp .Pow) (rI CPow fun i j=>.int (i ^ j.toNat)):=opI fun _ _ _ _ _ _ _ hc q=>pow_int_small hc.1 hc.2.1 hc.2.2 q
theorem unI {f:Value→Sem Value}{g:Int→Int}
   (rule:∀ (i:Int) (t:Tok) (s:Shared) (Q:Value→Shared→Prop) (E:Value→Shared→Prop),Q (.int (g i) s.toks) { s with toks:=s.toks+1 }→wpAny (model X.prog X.w) X.A (f (.int i t)) Q E s) :
   UnR X f (rU fun i=>.int (g i)):=by
 intro pins s σ H x v Q I rx h
 obtain ⟨i,rfl,q⟩:=h
 obtain ⟨t,rfl⟩:=rx
 exact rule i t s _ _ ⟨.int (g i),H,I.tok _,⟨_,rfl⟩,q⟩
theorem Zct:UnR X (unaryOp .USub) (rU fun i=>.int (-i)):=unI fun _ _ _ _ _ q=>neg_int q
end
def Zfy:V→V→Bool
 | .non,.non=>true | .non,.int _=>true | .int _,.non=>true | .non,.bl _=>true | .bl _,.non=>true | .non,.str _=>true | .str _,.non=>true
 | .int _,.int _=>true | .bl _,.bl _=>true | .str _,.str _=>true | .byt _,.byt _=>true
 | .int _,.str _=>true | .str _,.int _=>true | .bl _,.str _=>true | .str _,.bl _=>true
 | _,_=>false
def rEq:R2:=fun x y H Q=>Zfy x y=true∧Q (.bl (decide (x=y))) H
def rNe:R2:=fun x y H Q=>Zfy x y=true∧Q (.bl (!decide (x=y))) H
theorem ZdT {i j:Int}:decide (V.int i=V.int j)=(i == j):=by
 rw [Bool.eq_iff_iff]
 simp
theorem ZgX {i j:Bool}:decide (V.bl i=V.bl j)=(i == j):=by
 rw [Bool.eq_iff_iff]
 simp
theorem Zer {i j:Str}:decide (V.str i=V.str j)=(i == j):=by
 rw [Bool.eq_iff_iff]
 simp
theorem Zei {i j:Array UInt8}:decide (V.byt i=V.byt j)=(i.toList == j.toList):=by
 rw [Bool.eq_iff_iff]
 cases i
 cases j
 simp
section
variable {X:Cx}{a b c:Expr}{ta tb tc:TE}{pos:Pos}
theorem ZO {pins:List (Addr×Obj)}{σ:St}{H:Hp}{s:Shared}{Q:VK}{k k':Bool}(I:Inv X pins σ H s)(q:Q (.bl k) H)(e:k=k'):EP X pins σ Q (.bool k') s:=by
 subst e
 exact ⟨.bl k,H,I,rfl,q⟩
theorem Xn:YR X (compareOp .Eq) rEq:=by
 intro pins s σ H x y v u Q I rx ry h
 obtain ⟨hs,q⟩:=h
 cases x with
 | non =>
   cases rx
   cases y with
   | non=>cases ry;exact PySem.EqNone.eq_none_none (ZO I q (by simp))
   | bl j=>cases ry;exact PySem.EqNone.eq_none_bool (ZO I q (by simp))
   | int j=>obtain ⟨t',rfl⟩:=ry;exact PySem.EqNone.eq_none_int (ZO I q (by simp))
   | str j=>obtain ⟨t',rfl⟩:=ry;exact PySem.EqNone.eq_none_str (ZO I q (by simp))
   | _=>exact absurd (show false=true from hs) Bool.false_ne_true
 | bl i =>
   cases rx
   cases y with
   | non=>cases ry;exact PySem.EqNone.eq_bool_none (ZO I q (by simp))
   | bl j=>cases ry;exact eq_bool (ZO I q ZgX)
   | str j=>obtain ⟨t',rfl⟩:=ry;exact PySem.EqMixed.eq_bool_str (ZO I q (by simp))
   | _=>exact absurd (show false=true from hs) Bool.false_ne_true
 | int i =>
   obtain ⟨t,rfl⟩:=rx
   cases y with
   | non=>cases ry;exact PySem.EqNone.eq_int_none (ZO I q (by simp))
   | int j=>obtain ⟨t',rfl⟩:=ry;exact eq_int (ZO I q ZdT)
   | str j=>obtain ⟨t',rfl⟩:=ry;exact PySem.EqMixed.eq_int_str (ZO I q (by simp))
   | _=>exact absurd (show false=true from hs) Bool.false_ne_true
 | str i =>
   obtain ⟨t,rfl⟩:=rx
   cases y with
   | non=>cases ry;exact PySem.EqNone.eq_str_none (ZO I q (by simp))
   | bl j=>cases ry;exact PySem.EqMixed.eq_str_bool (ZO I q (by simp))
   | int j=>obtain ⟨t',rfl⟩:=ry;exact PySem.EqMixed.eq_str_int (ZO I q (by simp))
   | str j=>obtain ⟨t',rfl⟩:=ry;exact eq_str (ZO I q Zer)
   | _=>exact absurd (show false=true from hs) Bool.false_ne_true
 | byt i =>
   obtain ⟨t,rfl⟩:=rx
   cases y with
   | byt j=>obtain ⟨t',rfl⟩:=ry;exact PySem.W.eq_bytes (ZO I q Zei)
   | _=>exact absurd (show false=true from hs) Bool.false_ne_true
 | _=>cases y<;>exact absurd (show false=true from hs) Bool.false_ne_true
theorem XZ:YR X (compareOp .NotEq) rNe:=by
 intro pins s σ H x y v u Q I rx ry h
 obtain ⟨hs,q⟩:=h
 cases x with
 | non =>
   cases rx
   cases y with
   | non=>cases ry;exact PySem.EqNone.ne_none_none (ZO I q (by simp))
   | bl j=>cases ry;exact PySem.EqNone.ne_none_bool (ZO I q (by simp))
   | int j=>obtain ⟨t',rfl⟩:=ry;exact PySem.EqNone.ne_none_int (ZO I q (by simp))
   | str j=>obtain ⟨t',rfl⟩:=ry;exact PySem.EqNone.ne_none_str (ZO I q (by simp))
   | _=>exact absurd (show false=true from hs) Bool.false_ne_true
 | bl i =>
   cases rx
   cases y with
   | non=>cases ry;exact PySem.EqNone.ne_bool_none (ZO I q (by simp))
   | bl j=>cases ry;exact ne_bool (ZO I q (congrArg not ZgX))
   | str j=>obtain ⟨t',rfl⟩:=ry;exact PySem.EqMixed.ne_bool_str (ZO I q (by simp))
   | _=>exact absurd (show false=true from hs) Bool.false_ne_true
 | int i =>
   obtain ⟨t,rfl⟩:=rx
   cases y with
   | non=>cases ry;exact PySem.EqNone.ne_int_none (ZO I q (by simp))
   | int j=>obtain ⟨t',rfl⟩:=ry;exact ne_int (ZO I q (congrArg not ZdT))
   | str j=>obtain ⟨t',rfl⟩:=ry;exact PySem.EqMixed.ne_int_str (ZO I q (by simp))
   | _=>exact absurd (show false=true from hs) Bool.false_ne_true
 | str i =>
   obtain ⟨t,rfl⟩:=rx
   cases y with
   | non=>cases ry;exact PySem.EqNone.ne_str_none (ZO I q (by simp))
   | bl j=>cases ry;exact PySem.EqMixed.ne_str_bool (ZO I q (by simp))
   | int j=>obtain ⟨t',rfl⟩:=ry;exact PySem.EqMixed.ne_str_int (ZO I q (by simp))
   | str j=>obtain ⟨t',rfl⟩:=ry;exact ne_str (ZO I q (congrArg not Zer))
   | _=>exact absurd (show false=true from hs) Bool.false_ne_true
 | byt i =>
   obtain ⟨t,rfl⟩:=rx
   cases y with
   | byt j=>obtain ⟨t',rfl⟩:=ry;exact PySem.W.ne_bytes (ZO I q (congrArg not Zei))
   | _=>exact absurd (show false=true from hs) Bool.false_ne_true
 | _=>cases y<;>exact absurd (show false=true from hs) Bool.false_ne_true
theorem Zcp:YR X (compareOp .Lt) (rI0 fun i j=>.bl (decide (i < j))):=Zfn fun _ _ _ _ _ _ _ q=>lt_int q
theorem WL:YR X (compareOp .LtE) (rI0 fun i j=>.bl (decide (i≤j))):=Zfn fun _ _ _ _ _ _ _ q=>le_int q
theorem Zcr:YR X (compareOp .Gt) (rI0 fun i j=>.bl (decide (j < i))):=Zfn fun _ _ _ _ _ _ _ q=>gt_int q
theorem ZmY:YR X (compareOp .GtE) (rI0 fun i j=>.bl (decide (j≤i))):=Zfn fun _ _ _ _ _ _ _ q=>ge_int q
theorem ZH (b:Expr){op:CmpOp}(h:op≠.In:=by decide)(h2:op≠.NotIn:=by decide):behindInMarks op b=false:=by
 have e1:(op == CmpOp.In)=false:=by cases op<;>first | rfl | exact absurd rfl h
 have e2:(op == CmpOp.NotIn)=false:=by cases op<;>first | rfl | exact absurd rfl h2
 cases b<;>simp [behindInMarks,e1,e2]
theorem Xv {op:CmpOp}{r:R2}(ho:YR X (compareOp op) r)(ha:PE X a ta)(hb:PE X b tb)(hm:behindInMarks op b=false):PE X (.Compare a [op] [b] pos) (tOp r ta tb):=by
 intro pins s σ H Q I h
 exact wpAny_Compare1 (ZhO ha hb I h fun v u s2 x y H2 I2 rx ry q=>ho pins s2 σ H2 x y v u Q I2 rx ry q) hm
def ZjC (t:TE):TT:=fun σ H Q=>t σ H fun x H'=>∃ k,x=.bl k∧Q k H'
theorem ZF {op:CmpOp}{r:R2}(ho:YR X (compareOp op) r)(ha:PE X a ta)(hb:PE X b tb)(hm:behindInMarks op b=false):PT X (.Compare a [op] [b] pos) (ZjC (tOp r ta tb)):=by
 intro pins s σ H Q I h
 refine wpAny_isTrue_Compare1 (Zp (ha pins s σ H _ I h) fun v s1 ⟨x,H1,I1,r1,q1⟩=>Zp (hb pins s1 σ H1 _ I1 q1) fun u s2 ⟨y,H2,I2,r2,q2⟩ =>
   Zp (ho pins s2 σ H2 x y v u _ I2 r1 r2 q2) fun c s3 ⟨z,H3,I3,r3,k,e,q3⟩=>?_) hm
 subst e
 cases r3
 exact wpAny_truthy_bool ⟨H3,I3,q3⟩
def Zhr (r r':R2)(ta tb tc:TE):TE:=fun σ H Q=>ta σ H fun x H1=>tb σ H1 fun y H2=>r x y H2 fun z H3=>∃ k,z=.bl k ∧
 (if k=true then tc σ H3 fun w' H4=>r' y w' H4 Q else Q (.bl false) H3)
theorem XM {op op':CmpOp}{r r':R2}(ho:YR X (compareOp op) r)(ho':YR X (compareOp op') r')(ha:PE X a ta)(hb:PE X b tb)(hc:PE X c tc)
   (hm:lastMarks [op,op'] [b,c]=false:=by with_unfolding_all rfl):PE X (.Compare a [op,op'] [b,c] pos) (Zhr r r' ta tb tc):=by
 intro pins s σ H Q I h
 refine Compare_chain (Zp (ha pins s σ H _ I h) fun v s1 ⟨x,H1,I1,r1,q1⟩=>chain_link (Zp (hb pins s1 σ H1 _ I1 q1) fun u s2 ⟨y,H2,I2,r2,q2⟩ =>
   Zp (ho pins s2 σ H2 x y v u _ I2 r1 r2 q2) fun d s3 ⟨z,H3,I3,r3,k,e,q3⟩=>?_)) hm
 subst e
 cases r3
 refine wpAny_truthy_bool ?_
 cases k with
 | false=>exact ite_ff ⟨.bl false,H3,I3,rfl,q3⟩
 | true=>exact ite_tt (chain_last (Zp (hc pins s3 σ H3 _ I3 q3) fun w' s4 ⟨z',H4,I4,r4,q4⟩=>ho' pins s4 σ H4 y z' u w' Q I4 r2 r4 q4))
theorem Zcs {op op':CmpOp}{r r':R2}(ho:YR X (compareOp op) r)(ho':YR X (compareOp op') r')(ha:PE X a ta)(hb:PE X b tb)(hc:PE X c tc)
   (hm:lastMarks [op,op'] [b,c]=false:=by with_unfolding_all rfl):PT X (.Compare a [op,op'] [b,c] pos) (ZjC (Zhr r r' ta tb tc)):=by
 intro pins s σ H Q I h
 refine isTrue_chain (Zp (ha pins s σ H _ I h) fun v s1 ⟨x,H1,I1,r1,q1⟩=>test_link (Zp (hb pins s1 σ H1 _ I1 q1) fun u s2 ⟨y,H2,I2,r2,q2⟩ =>
   Zp (ho pins s2 σ H2 x y v u _ I2 r1 r2 q2) fun d s3 ⟨z,H3,I3,r3,k,e,q3⟩=>?_)) hm
 subst e
 cases r3
 refine wpAny_truthy_bool ?_
 cases k with
 | false =>
   obtain ⟨k',e',q'⟩:=q3
   cases e'
   exact ite_ff ⟨H3,I3,q'⟩
 | true =>
   refine ite_tt (test_last (Zp (hc pins s3 σ H3 _ I3 q3) fun w' s4 ⟨z',H4,I4,r4,q4⟩=>Zp (ho' pins s4 σ H4 y z' u w' _ I4 r2 r4 q4) fun d' s5 ⟨z2,H5,I5,r5,k2,e2,q5⟩=>?_))
   subst e2
   cases r5
   exact wpAny_truthy_bool ⟨H5,I5,q5⟩
def TruV (K:PySem.W.Frag)(x:V)(H:Hp)(k:Bool):Prop :=
 match x with
 | .non=>k=false
 | .bl b=>k=b
 | .int i=>k=(i != 0)
 | .str y=>y.length≤sizeLine∧k=((y.length:Int) != 0)
 | .byt y=>y.size≤sizeLine∧k=((y.size:Int) != 0)
 | .ref p=>(∃ xs,SqL K H p xs∧k=!xs.isEmpty)∨(∃ xs,SqT K H p xs∧k=!xs.isEmpty)∨∃ kvs,H p=some (.dK kvs)∧k=!kvs.isEmpty
 | _=>False
theorem ZeK {κ:Type}{kvs:List (κ×V)}{vs:List (κ×Value)}(r:KV kvs vs):(!vs.isEmpty)=!kvs.isEmpty:=by
 cases r<;>rfl
theorem ZaC {xs:List V}{its:List Value}(r:Vals xs its):(!its.toArray.isEmpty)=!xs.isEmpty:=by
 cases r<;>simp
theorem WN:(sizeLine:Nat) < 2 ^ 63:=by rw [sizeLine_eq];decide
theorem Zms:TruR X (fun x H Q=>∃ k,TruV X.K x H k∧Q k H):=by
 intro pins s σ H x v Q I rx h
 obtain ⟨k,e,q⟩:=h
 have hl:=WN
 have hs:sizeLine=16777216:=sizeLine_eq
 cases x with
 | non =>
   cases rx
   have e':k=false:=e
   subst e'
   exact truthy_none ⟨H,I,q⟩
 | bl b =>
   cases rx
   have e':k=b:=e
   subst e'
   exact wpAny_truthy_bool ⟨H,I,q⟩
 | int i =>
   obtain ⟨t,rfl⟩:=rx
   have e':k=(i != 0):=e
   subst e'
   exact PySem.P.truthy_int ⟨H,I,q⟩
 | str y =>
   obtain ⟨t,rfl⟩:=rx
   obtain ⟨hy,e'⟩:y.length≤sizeLine∧k=((y.length:Int) != 0):=e
   subst e'
   exact PySem.P.truthy_str (by omega) ⟨H,I.tok _,q⟩
 | byt y =>
   obtain ⟨t,rfl⟩:=rx
   obtain ⟨hy,e'⟩:y.size≤sizeLine∧k=((y.size:Int) != 0):=e
   subst e'
   exact PySem.W.truthy_bytes (by omega) ⟨H,I.tok _,q⟩
 | ref p =>
   cases rx
   have e':(∃ xs,SqL X.K H p xs∧k=!xs.isEmpty)∨(∃ xs,SqT X.K H p xs∧k=!xs.isEmpty)∨∃ kvs,H p=some (.dK kvs)∧k=!kvs.isEmpty:=e
   rcases e' with ⟨xs,hx,e'⟩ | ⟨xs,hx,e'⟩ | ⟨kvs,hx,e'⟩
   · subst e'
     obtain ⟨its,r,pl,hz⟩:=I.list hx
     have hlen:=r.length
     exact wpAny_truthy_list pl.isList (by simp only [List.size_toArray];omega) ⟨H,I.tok _,by rw [ZaC r];exact q⟩
   · subst e'
     obtain ⟨its,r,pl,hz⟩:=I.tuple hx
     have hlen:=r.length
     exact truthy_tuple pl (by simp only [List.size_toArray];omega) ⟨H,I.tok _,by rw [ZaC r];exact q⟩
   · subst e'
     obtain ⟨hz,hS,vs,r,m⟩:kvs.length≤sizeLine∧(p == sysModules)=false∧∃ vs,KV kvs vs∧s.heap.DictOf (Yu X.prog X.w) p vs:=I.hok p _ hx
     have hlen:kvs.length=vs.length:=Paired.length r
     exact wpAny_truthy_dict hS m (by omega) ⟨H,I.tok _,by rw [ZeK r];exact q⟩
 | _=>exact (show False from e).elim
theorem ZcF (ha:PE X a ta)(he:∀ whole,isTrue a X.env whole=(do let v ← whole;standAt a.pos;holding [v] (truthy v))) :
   PT X a (fun σ H Q=>ta σ H fun x H'=>∃ k,TruV X.K x H' k∧Q k H'):=by
 intro pins s σ H Q I h
 exact isTrue_plain (Zp (ha pins s σ H _ I h) fun v s1 ⟨x,H1,I1,r1,q1⟩=>Zms pins s1 σ H1 x v Q I1 r1 q1) (he _)
theorem Zs:YR X (binaryOp .Add) (fun x y H Q=>∃ i j,x=.str i∧y=.str j∧i.length+j.length≤sizeLine∧Q (.str (i++j)) H):=by
 intro pins s σ H x y v u Q I rx ry h
 obtain ⟨i,j,rfl,rfl,hz,q⟩:=h
 obtain ⟨t,rfl⟩:=rx
 obtain ⟨t',rfl⟩:=ry
 exact add_str (fun t' tk=>⟨.str (i++j),H,I.tok _,⟨_,rfl⟩,q⟩) hz
theorem ZdA:YR X (inplaceOp .Add) (fun x y H Q=>∃ i j,x=.str i∧y=.str j∧i.length+j.length≤sizeLine∧Q (.str (i++j)) H):=by
 intro pins s σ H x y v u Q I rx ry h
 obtain ⟨i,j,rfl,rfl,hz,q⟩:=h
 obtain ⟨t,rfl⟩:=rx
 obtain ⟨t',rfl⟩:=ry
 exact iadd_str (fun t' tk=>⟨.str (i++j),H,I.tok _,⟨_,rfl⟩,q⟩) hz
theorem YN {x:V}{us:List Value}(r:Vals [x] us):∃ u,us=[u]∧RelV x u:=by
 cases r with
 | cons r1 r2=>cases r2;exact ⟨_,rfl,r1⟩
theorem Vd {x y:V}{us:List Value}(r:Vals [x,y] us):∃ u w',us=[u,w']∧RelV x u∧RelV y w':=by
 cases r with
 | cons r1 r2 =>
   cases r2 with
   | cons r3 r4=>cases r4;exact ⟨_,_,rfl,r1,r3⟩
theorem ZcP:YQ X (.builtin "abs") (fun xs H Q=>∃ i,xs=[.int i]∧Q (.int (if i < 0 then -i else i)) H):=by
 intro pins s σ H xs us Q I r h
 obtain ⟨i,rfl,q⟩:=h
 obtain ⟨u,rfl,t,rfl⟩:=YN r
 exact call_abs_int fun u tk=>⟨.int (if i < 0 then -i else i),H,I.tok _,⟨_,rfl⟩,q⟩
theorem Zgq (hc:X.calm=true):YQ X (.builtin "max") (fun xs H Q=>∃ i j,xs=[.int i,.int j]∧Q (.int (if j > i then j else i)) H):=by
 intro pins s σ H xs us Q I r h
 obtain ⟨i,j,rfl,q⟩:=h
 obtain ⟨u,w',rfl,⟨t,rfl⟩,⟨t',rfl⟩⟩:=Vd r
 refine max_two_ints (I.ok.hd hc) fun h' tk k=>⟨_,H,I.kept k,?_,q⟩
 by_cases hj:j > i
 · rw [if_pos hj,if_pos hj];exact ⟨_,rfl⟩
 · rw [if_neg hj,if_neg hj];exact ⟨_,rfl⟩
theorem Zgm (hc:X.calm=true):YQ X (.builtin "min") (fun xs H Q=>∃ i j,xs=[.int i,.int j]∧Q (.int (if j < i then j else i)) H):=by
 intro pins s σ H xs us Q I r h
 obtain ⟨i,j,rfl,q⟩:=h
 obtain ⟨u,w',rfl,⟨t,rfl⟩,⟨t',rfl⟩⟩:=Vd r
 refine min_two_ints (I.ok.hd hc) fun h' tk k=>⟨_,H,I.kept k,?_,q⟩
 by_cases hj:j < i
 · rw [if_pos hj,if_pos hj];exact ⟨_,rfl⟩
 · rw [if_neg hj,if_neg hj];exact ⟨_,rfl⟩
theorem ZbR:YQ X (.type "int") (fun xs H Q=>(∃ i,xs=[.int i]∧Q (.int i) H)∨∃ k,xs=[.bl k]∧Q (.int (if k then 1 else 0)) H):=by
 intro pins s σ H xs us Q I r h
 rcases h with ⟨i,rfl,q⟩ | ⟨k,rfl,q⟩
 · obtain ⟨u,rfl,t,rfl⟩:=YN r
   exact call_int_int ⟨.int i,H,I,⟨_,rfl⟩,q⟩
 · obtain ⟨u,rfl,r1⟩:=YN r
   cases r1
   exact call_int_bool ⟨.int (if k then 1 else 0),H,I.tok _,⟨_,rfl⟩,q⟩
theorem Zda:YQ X (.type "str") (fun xs H Q=>∃ i,xs=[.int i]∧i.natAbs.log2 < 1920∧Q (.str (toString i)) H):=by
 intro pins s σ H xs us Q I r h
 obtain ⟨i,rfl,hz,q⟩:=h
 obtain ⟨u,rfl,t,rfl⟩:=YN r
 exact PySem.P.str_of_int hz ⟨.str _,H,I.tok _,⟨_,rfl⟩,q⟩
def ZiV (K:PySem.W.Frag)(x:V)(H:Hp)(n:Nat):Prop :=
 match x with
 | .str y=>y.length≤sizeLine∧n=y.length
 | .byt y=>y.size≤sizeLine∧n=y.size
 | .ref p=>(∃ xs,SqL K H p xs∧n=xs.length)∨∃ xs,SqT K H p xs∧n=xs.length
 | _=>False
theorem Zic:YQ X (.builtin "len") (fun xs H Q=>∃ x n,xs=[x]∧ZiV X.K x H n∧Q (.int n) H):=by
 intro pins s σ H xs us Q I r h
 obtain ⟨x,n,rfl,e,q⟩:=h
 obtain ⟨u,rfl,rx⟩:=YN r
 have hl:=WN
 have hs:sizeLine=16777216:=sizeLine_eq
 cases x with
 | str y =>
   obtain ⟨t,rfl⟩:=rx
   obtain ⟨hy,e'⟩:y.length≤sizeLine∧n=y.length:=e
   subst e'
   exact len_str (by omega) ⟨.int _,H,I.tok _,⟨_,rfl⟩,q⟩
 | byt y =>
   obtain ⟨t,rfl⟩:=rx
   obtain ⟨hy,e'⟩:y.size≤sizeLine∧n=y.size:=e
   subst e'
   exact PySem.W.len_bytes (by omega) ⟨.int _,H,I.tok _,⟨_,rfl⟩,q⟩
 | ref p =>
   cases rx
   have e':(∃ xs,SqL X.K H p xs∧n=xs.length)∨∃ xs,SqT X.K H p xs∧n=xs.length:=e
   rcases e' with ⟨xs,hx,e'⟩ | ⟨xs,hx,e'⟩
   · subst e'
     obtain ⟨its,r',pl,hz⟩:=I.list hx
     have hlen:=r'.length
     exact Calls.call_len_list pl.isList (by simp only [List.size_toArray];omega) ⟨.int xs.length,H,I.tok _,⟨_,by simp only [List.size_toArray];rw [hlen]⟩,q⟩
   · subst e'
     obtain ⟨its,r',pl,hz⟩:=I.tuple hx
     have hlen:=r'.length
     exact len_tuple pl (by simp only [List.size_toArray];omega) ⟨.int xs.length,H,I.tok _,⟨_,by simp only [List.size_toArray];rw [hlen]⟩,q⟩
 | _=>exact (show False from e).elim
theorem ZdD:YQ X (.builtin "divmod") (fun xs H Q=>∃ i j,xs=[.int i,.int j]∧CDiv i j∧∀ p,H p=none→Q (.ref p) (upd H p (.tup [.int (i / j),.int (i % j)]))):=by
 intro pins s σ H xs us Q I r h
 obtain ⟨i,j,rfl,⟨h1,h2⟩,q⟩:=h
 obtain ⟨u,w',rfl,⟨t,rfl⟩,⟨t',rfl⟩⟩:=Vd r
 refine divmod_int (by omega) ?_ (.inl (PyProof.noPylong_small (by omega)))
 rw [Int.fdiv_eq_ediv_of_nonneg i (by omega),Int.fmod_eq_emod_of_nonneg i (by omega)]
 have hn:H s.heap.objs.size=none:=I.hok.fresh (Nat.le_refl _)
 refine ⟨.ref s.heap.objs.size,_,?_,rfl,q _ hn⟩
 refine I.laid (fun b o e=>Heap.get?_push_of_some _ e) (Nat.le_refl _) ⟨by simp only [List.length_cons,List.length_nil];rw [sizeLine_eq];decide,[.int (i / j) s.toks,.int (i % j) (s.toks+1)],.cons ⟨_,rfl⟩ (.cons ⟨_,rfl⟩ .nil),?_⟩
 exact ⟨_,Heap.get?_push_size s.heap rfl,rfl,0,rfl⟩
end
end L2
namespace L2
open PySem PySem.Spec PyProof.Rows
structure ObjM (h:Heap)(x dx C:Addr)(mA:Str→Option Value):Prop where
 obj:h.get? x=some (PySem.W.instObj C dx)
 ns:h.Ns1 dx mA
 ne:dx≠x
theorem ZgI {h:Heap}{dx:Addr}{mA:Str→Option Value}(n:h.Ns1 dx mA):∃ od,h.get? dx=some od∧∀ name,PySem.W.lookIn name od=some (mA name):=by
 obtain ⟨o,es,ep,ho,hd,hk,_,hm⟩:=n
 refine ⟨o,ho,fun name=>?_⟩
 have e:=hm name
 unfold nsFind findBy at e
 rw [← Array.find?_toList] at e
 unfold PySem.W.lookIn
 rw [hd]
 dsimp only
 split
 · rename_i y q
   rw [q] at e
   exact congrArg some e
 · rename_i q
   rw [q] at e
   have a:es.toList.any (·.refKey)=false:=by
     rw [List.any_eq_false]
     intro y hy
     obtain ⟨z,t,hkey⟩:=hk y (Array.mem_toList_iff.mp hy)
     simp [DictEntry.refKey,hkey]
   have a':¬ es.toList.any (·.refKey)=true:=by rw [a];exact Bool.false_ne_true
   rw [if_neg a']
   exact congrArg some e
theorem ObjM.look {h:Heap}{x dx C:Addr}{mA:Str→Option Value}(I:ObjM h x dx C mA):∃ od,PySem.W.InstAt h x (PySem.W.instObj C dx) C (some od)∧∀ name,PySem.W.lookIn name od=some (mA name) :=
 let ⟨od,ho,hl⟩:=ZgI I.ns
 ⟨od,⟨I.obj,rfl,rfl,ho⟩,hl⟩
section
variable {prog:Program}{w:World}{A:Around}{E:Value→Shared→Prop}{s:Shared}{K:PySem.W.Frag}{x dx C f:Addr}{mA:Str→Option Value}{name:Str}{v:Value}
end
theorem RelO.some_of {v:V}{o:Option Value}(r:RelO (some v) o):∃ u,o=some u∧RelV v u:=by
 cases o with
 | none=>exact (show False from r).elim
 | some u=>exact ⟨u,rfl,r⟩
theorem RelO.none_of {o:Option Value}(r:RelO none o):o=none:=by
 cases o with
 | none=>rfl
 | some u=>exact (show False from r).elim
theorem Zgn {v:V}{u:Value}(r:RelV v u):PySem.W.handedIn u=true:=by
 cases v with
 | non=>cases (show u=Value.none from r);rfl
 | bl b=>cases (show u=Value.bool b from r);rfl
 | int i=>obtain ⟨t,e⟩:=(show ∃ t,u=Value.int i t from r);cases e;rfl
 | str x=>obtain ⟨t,e⟩:=(show ∃ t,u=Value.str x t from r);cases e;rfl
 | byt b=>obtain ⟨t,e⟩:=(show ∃ t,u=Value.bytes b t from r);cases e;rfl
 | flt b=>obtain ⟨t,e⟩:=(show ∃ t,u=Value.float b t from r);cases e;rfl
 | ref a=>cases (show u=Value.ref a from r);rfl
 | ty n=>cases (show u=Value.type n from r);rfl
section
variable {P:Program}{w:World}{H H':Hp}{h h':Heap}{a C dx:Addr}{fs fs':List (Str×V)}
theorem Zea (hok:HOk P w H h)(e:H a=some (.ins C dx fs)):∃ mA,ObjM h a dx C mA∧(∀ f,RelO (fs.lookup f) (mA f))∧PySem.Within mA (fs.map (·.1))∧fs.length≤1000∧H dx=some (.own a):=by
 obtain ⟨d,z,ne,ob,mA,n,r,q⟩:=(show ObjOk P w H h a (.ins C dx fs) from hok a _ e)
 exact ⟨mA,⟨ob,n,ne⟩,r,q,z,d⟩
end
structure Cls (K:PySem.W.Frag)(C:Addr):Prop where
 pg:PySem.W.plainGet K C Str.empty=true
 hd:PySem.W.hasDictIn K C=true
 po:PySem.W.plainOver K C=true
 sa:PySem.W.findIn K (.ref C) "__setattr__"=some (some (.builtin "object.__setattr__"))
theorem Cls.get {K:PySem.W.Frag}{C:Addr}(c:Cls K C)(f:Str):PySem.W.plainGet K C f=true:=c.pg
structure Meth (K:PySem.W.Frag)(C:Addr)(m:Str)(f:Addr):Prop where
 at_:PySem.W.findIn K (.ref C) m=some (some (.ref f))
 fn:PySem.W.isFn K (.ref f)=true
 kp:PySem.W.keepIn K (.ref f)=true
section
variable {X:Cx}{pins:List (Addr×Obj)}{σ:St}{H:Hp}{s:Shared}{a C dx:Addr}{fs:List (Str×V)}{f:Str}{v:V}{A:Around}{E:Value→Shared→Prop}
theorem Zkz {prog:Program}{w:World}{env:Env}{e:Expr}{f:Str}{pos:Pos}{s:Shared}{Q:Value→Shared→Prop}(hb:attributeBase e f env (eval e env)=eval e env)
   (h:wpAny (model prog w) A (eval e env) (fun o s₁=>wpAny (model prog w) A (getAttr o f true) Q E s₁) E s):wpAny (model prog w) A (eval (.Attribute e f pos) env) Q E s :=
 Attribute_any_ h (by rw [arm_eval_Attribute,hb])
end
section
variable {X:Cx}{o e value:Expr}{f:Str}{pos pos' tpos:Pos}{ta tv:TE}
end
section
variable {X:Cx}{pins:List (Addr×Obj)}{σ:St}{H:Hp}{s:Shared}{A:Around}{E:Value→Shared→Prop}{Q:Value→Shared→Prop}{c:Value}{b:Bool}
inductive Wo (K:PySem.W.Frag)(H:Hp):V→Value→Prop where
 | non:Wo K H .non (.type "NoneType")
 | bl (x:Bool):Wo K H (.bl x) (.type "bool")
 | int (i:Int):Wo K H (.int i) (.type "int")
 | str (x:Str):Wo K H (.str x) (.type "str")
 | flt (x:UInt64):Wo K H (.flt x) (.type "float")
 | lst {a:Addr} {xs:List V} (e:H a=some (.lst xs)):Wo K H (.ref a) (.type "list")
 | frz {a:Addr} {o:Obj} {xs:List V} (e:H a=some (.frz o (.lst xs))):Wo K H (.ref a) (.type "list")
 | tup {a:Addr} {xs:List V} (e:H a=some (.tup xs)):Wo K H (.ref a) (.type "tuple")
 | dK {a:Addr} {kvs:List (Yb×V)} (e:H a=some (.dK kvs)):Wo K H (.ref a) (.type "dict")
 | dT {a:Addr} {kvs:List (List Yb×V)} (e:H a=some (.dT kvs)):Wo K H (.ref a) (.type "dict")
 | ins {a C dx:Addr} {fs:List (Str×V)} (e:H a=some (.ins C dx fs)) (cl:Cls K C) (ha:PySem.W.findIn K (.ref C) "__class__"=some (some (.builtin "object.__class__")))
     (hn:PySem.W.specialIn K (.builtin "object.__class__") "__get__"=some (some (.builtin "getset_descriptor.__get__"))) (htk:PySem.W.takesIn K (.builtin "object.__class__")=some true)
     (hm:PySem.W.mroIn K C (.type "object")=some true):Wo K H (.ref a) (.ref C)
theorem ZfP {x:V}{u t:Value}(I:Inv X pins σ H s)(rx:RelV x u)(ty:Wo X.K H x t)(e:PySem.W.kitOne X.K t c=some b)(h:∀ tk,Q (.bool b) { s with toks:=tk }) :
   wpAny (model X.prog X.w) A (call (.builtin "isinstance") [u,c]) Q E s:=by
 cases ty with
 | non=>cases (show u=Value.none from rx);exact PySem.W.kia_one PySem.W.kitx_none I.kIn True.intro e (fun z=>nomatch z) h
 | bl y=>cases (show u=Value.bool y from rx);exact PySem.W.kia_one PySem.W.kitx_bool I.kIn True.intro e (fun z=>nomatch z) h
 | int i=>obtain ⟨t,q⟩:=(show ∃ t,u=Value.int i t from rx);cases q;exact PySem.W.kia_one PySem.W.kitx_int I.kIn True.intro e (fun z=>nomatch z) h
 | str y=>obtain ⟨t,q⟩:=(show ∃ t,u=Value.str y t from rx);cases q;exact PySem.W.kia_one PySem.W.kitx_str I.kIn True.intro e (fun z=>nomatch z) h
 | flt y=>obtain ⟨t,q⟩:=(show ∃ t,u=Value.float y t from rx);cases q;exact PySem.W.kia_one PySem.W.kitx_float I.kIn True.intro e (fun z=>nomatch z) h
 | @lst a xs ea =>
   cases (show u=Value.ref a from rx)
   obtain ⟨_,_,n,_,h1⟩:=(show ObjOk X.prog X.w H s.heap a (.lst xs) from I.hok a _ ea)
   exact PySem.W.kia_one PySem.W.kitx_list I.kIn ⟨_,h1,rfl⟩ e (fun z=>nomatch z) h
 | @frz a ob xs ea =>
   cases (show u=Value.ref a from rx)
   obtain ⟨_,_,_,n,_,h1⟩:=(show ObjOk X.prog X.w H s.heap a (.frz ob (.lst xs)) from I.hok a _ ea)
   exact PySem.W.kia_one PySem.W.kitx_list I.kIn ⟨_,h1,rfl⟩ e (fun z=>nomatch z) h
 | @tup a xs ea =>
   cases (show u=Value.ref a from rx)
   obtain ⟨_,_,_,p⟩:=(show ObjOk X.prog X.w H s.heap a (.tup xs) from I.hok a _ ea)
   obtain ⟨o,h1,h2,_⟩:=p
   exact PySem.W.kia_one PySem.W.kitx_tuple I.kIn ⟨o,h1,h2⟩ e (fun z=>nomatch z) h
 | @dK a kvs ea =>
   cases (show u=Value.ref a from rx)
   obtain ⟨_,_,vs,_,p⟩:=(show ObjOk X.prog X.w H s.heap a (.dK kvs) from I.hok a _ ea)
   obtain ⟨o,es,ep,h1,h2,_⟩:=p
   exact PySem.W.kia_one PySem.W.kitx_dict I.kIn ⟨o,h1,h2.1⟩ e (fun z=>nomatch z) h
 | @dT a kvs ea =>
   cases (show u=Value.ref a from rx)
   obtain ⟨_,_,xs,_,o,es,ep,h1,h2,_⟩:=(show ObjOk X.prog X.w H s.heap a (.dT kvs) from I.hok a _ ea)
   exact PySem.W.kia_one PySem.W.kitx_dict I.kIn ⟨o,h1,h2.1⟩ e (fun z=>nomatch z) h
 | @ins a C dx fs ea cl ha hn htk hm =>
   cases (show u=Value.ref a from rx)
   obtain ⟨mA,O,_⟩:=Zea I.hok ea
   obtain ⟨od,J,_⟩:=O.look
   exact PySem.W.kia_one (PySem.W.kitx_own (cl.get _) cl.hd ha hn htk hm) I.kIn J e (fun z=>nomatch z) h
end
end L2
namespace L2
open PySem PySem.Spec PyProof.Rows
structure Room (k:Nat)(A:Around):Prop where
 hd:A.handled=none
 dp:A.depth+3 * k+5 < recursionLimit
 un:A.units+16 * k+200 < cLine
 gd:A.guards=some []
theorem Room.mono {j k:Nat}{A:Around}(r:Room k A)(h:j≤k):Room j A:=⟨r.hd,by have:=r.dp;omega,by have:=r.un;omega,r.gd⟩
theorem Room.deeper {k:Nat}{A:Around}(r:Room (k+1) A)(env:Env):Room k (A.deeper env) :=
 ⟨r.hd,by have:=r.dp;show A.depth+1+3 * k+5 < _;omega,by have:=r.un;show A.units+3+16 * k+200 < _;omega,r.gd⟩
theorem ZeU {A:Around}{C:Addr}{us:List Value}{kw:List (Str×Value)}:(A.under (.builtin "type.__call__" ⟨.ref C::us,kw⟩)).depth=A.depth+1:=by
 first | rfl | simp [Around.under,Code.weight,Code.isCreation,Code.isGuard,Code.isCaller,Code.frames,Code.isFrame,guardIds]
theorem ZeR {A:Around}{C:Addr}{us:List Value}{kw:List (Str×Value)}:(A.under (.builtin "type.__call__" ⟨.ref C::us,kw⟩)).units=A.units+1:=by
 first | rfl | simp [Around.under,Code.cUnits,Code.frames,Code.isFrame]
theorem Room.make {k:Nat}{A:Around}(r:Room (k+1) A)(C:Addr)(us:List Value)(kw:List (Str×Value)):Room k (A.under (.builtin "type.__call__" ⟨.ref C::us,kw⟩)) :=
 ⟨r.hd,by have:=r.dp;rw [ZeU];omega,by have:=r.un;rw [ZeR];omega,by first | exact r.gd | simpa [Around.under,Code.isGuard,guardIds] using r.gd⟩
theorem Room.depth {k:Nat}{A:Around}(r:Room k A):A.depth < recursionLimit:=by have:=r.dp;omega
theorem Room.units {k:Nat}{A:Around}(r:Room k A):A.units+64 < cLine:=by have:=r.un;omega
def XL:TA:=fun _ H Q=>Q [] H
def Xa (ta:TE)(tr:TA):TA:=fun σ H Q=>ta σ H fun x H1=>tr σ H1 fun xs H2=>Q (x::xs) H2
section
variable {X:Cx}{e:Expr}{es:List Expr}{te:TE}{t:TA}{pos:Pos}
theorem Za:PA X [] XL:=fun _ _ _ _ H Q I h=>Calls.spliced_nil ⟨[],H,I,.nil,h⟩
theorem Yp (ha:PE X e te)(hr:PA X es t)(hs:starEach (e::es) X.env=(false,eval e X.env)::starEach es X.env:=by rfl):PA X (e::es) (Xa te t):=by
 intro pos pins s σ H Q I h
 rw [hs]
 show wpAny _ _ (spliced ((false,eval e X.env)::backTo pos (starEach es X.env))) _ _ s
 refine Calls.spliced_cons (Zp (ha pins s σ H _ I h) fun u s1 ⟨x,H1,I1,r1,q1⟩=>?_)
 exact Zp (hr pos pins s1 σ H1 _ I1 q1) fun us s2 ⟨xs,H2,I2,r2,q2⟩=>⟨x::xs,H2,I2,.cons r1 r2,q2⟩
def tTup (t:TA):TE:=fun σ H Q=>t σ H fun xs H1=>xs.length≤sizeLine∧∀ p,H1 p=none→Q (.ref p) (upd H1 p (.tup xs))
def ZiC (t:TA):TE:=fun σ H Q=>t σ H fun xs H1=>xs.length≤sizeLine∧∀ p,H1 p=none→Q (.ref p) (upd H1 p (.lst xs))
theorem Yf {x1}(h:PA X es t):PE X (.Tuple es x1 pos) (tTup t):=by
 intro pins s σ H Q I hq
 refine wpAny_Tuple_spliced (Zp (h pos pins s σ H _ I hq) fun us s1 ⟨xs,H1,I1,r,z,q⟩=>⟨by rw [← r.length];exact z,?_⟩)
 have hf:H1 s1.heap.objs.size=none:=I1.hok.fresh (Nat.le_refl _)
 refine ⟨.ref s1.heap.objs.size,upd H1 s1.heap.objs.size (.tup xs),I1.laid (t':=s1.toks) (fun b u e=>Heap.get?_push_of_some _ e) (Nat.le_refl _) ?_,rfl,q _ hf⟩
 exact ⟨z,us,r,⟨_,Heap.get?_push_size _ rfl,rfl,_,rfl⟩⟩
theorem Yw (h:PA X es t):PE X (.List es pos) (ZiC t):=by
 intro pins s σ H Q I hq
 refine wpAny_List_spliced (Zp (h pos pins s σ H _ I hq) fun us s1 ⟨xs,H1,I1,r,z,q⟩=>⟨by rw [← r.length];exact z,?_⟩)
 have hf:H1 s1.heap.objs.size=none:=I1.hok.fresh (Nat.le_refl _)
 refine ⟨.ref s1.heap.objs.size,upd H1 s1.heap.objs.size (.lst xs),I1.laid (t':=s1.toks) (fun b u e=>Heap.get?_push_of_some _ e) (Nat.le_refl _) ?_,rfl,q _ hf⟩
 exact ⟨z,us,0,r,Heap.get?_push_size _ rfl⟩
end
abbrev Sp:=List V→Hp→VK→XK→Prop
abbrev Uv:=List Env→Hp→Shared→XK→Value→Shared→Prop
structure Env0 (P:Program)(w:World)(K:PySem.W.Frag)(mg:Str→Option Value)(base:Heap)(A:Around)(outer:List Env)(s:Shared)(H:Hp):Prop where
 frames:A.frames=some outer
 mod:Mod K mg base
 bs:∀ b o,base.get? b=some o→s.heap.get? b=some o∧H b=none
 bsz:base.objs.size≤s.heap.objs.size
 funs:s.heap.FunFrames base outer
 frf:∀ b∈Xs outer,H b=none
 hok:HOk P w H s.heap
 bare:AllBare s.gens
def CE (outer:List Env)(P:Program)(w:World)(H:Hp)(s:Shared)(Q:VK)(u:Value)(s':Shared):Prop :=
 ∃ v H',s'.os=s.os∧AllBare s'.gens∧Un (Xs outer) [] H H' s.heap s'.heap∧HOk P w H' s'.heap∧RelV v u∧Q v H'
def CR (CX:Uv)(outer:List Env)(P:Program)(w:World)(H:Hp)(s:Shared)(Q:VK)(E:XK)(r:Result)(s':Shared):Prop :=
 match r with
 | .ok (.ret u)=>CE outer P w H s Q u s'
 | .ok _=>False
 | .error e=>CX outer H s E e s'
structure FnOk (P:Program)(w:World)(K:PySem.W.Frag)(mg:Str→Option Value)(base:Heap)(CX:Uv)(k:Nat)(f:Addr)(fd:FuncData)(ps:List Str)(sp:Sp):Prop where
 len:∀ vs H Q E,sp vs H Q E→vs.length=ps.length
 run:∀ (A:Around) (outer:List Env) (s:Shared) (H:Hp) (args:Args) (us:List Value) (vs:List V) (Q:VK) (E:XK),Room k A→Env0 P w K mg base A outer s H→BindsTo s fd args (ps.zip us)→Vals vs us→sp vs H Q E →
   codeAny (model P w) A (.call (.ref f) args) (CR CX outer P w H s Q E) s
theorem FnOk.mono {P:Program}{w:World}{K:PySem.W.Frag}{mg:Str→Option Value}{base:Heap}{CX:Uv}{j k:Nat}{f:Addr}{fd:FuncData}{ps:List Str}{sp:Sp}(F:FnOk P w K mg base CX j f fd ps sp)(h:j≤k) :
 FnOk P w K mg base CX k f fd ps sp:=⟨F.len,fun A outer s H args us vs Q E hr=>F.run A outer s H args us vs Q E (hr.mono h)⟩
theorem FnOk.imp {P:Program}{w:World}{K:PySem.W.Frag}{mg:Str→Option Value}{base:Heap}{CX:Uv}{k:Nat}{f:Addr}{fd:FuncData}{ps:List Str}{sp sp':Sp}(F:FnOk P w K mg base CX k f fd ps sp)
   (h:∀ vs H Q E,sp' vs H Q E→sp vs H Q E):FnOk P w K mg base CX k f fd ps sp' :=
 ⟨fun vs H Q E q=>F.len vs H Q E (h _ _ _ _ q),fun A outer s H args us vs Q E hr he hb hv hs=>F.run A outer s H args us vs Q E hr he hb hv (h _ _ _ _ hs)⟩
theorem Env0.make {P:Program}{w:World}{K:PySem.W.Frag}{mg:Str→Option Value}{base:Heap}{A:Around}{outer:List Env}{s:Shared}{H:Hp}(e:Env0 P w K mg base A outer s H)(C:Addr)(us:List Value)(kw:List (Str×Value)) :
 Env0 P w K mg base (A.under (.builtin "type.__call__" ⟨.ref C::us,kw⟩)) outer s H:=⟨by first | exact e.frames | (simpa [Around.under,Code.envs,Code.isFrame,pushEnvs] using e.frames),e.mod,e.bs,e.bsz,e.funs,e.frf,e.hok,e.bare⟩
section
variable {X:Cx}{pins:List (Addr×Obj)}{σ:St}{H:Hp}{s s':Shared}
theorem Inv.env0 (I:Inv X pins σ H s):Env0 X.prog X.w X.K X.mg X.base X.A X.stack s H :=
 ⟨I.ok.frames,I.ok.mod,I.bs,Nat.le_trans I.ok.bsz I.sz,I.stack,I.stkFree,I.hok,I.bare⟩
theorem Inv.after {Q:VK}{u:Value}(I:Inv X pins σ H s)(h:CE X.stack X.prog X.w H s Q u s'):EP X pins σ Q u s':=by
 obtain ⟨v,H',os,bare,un,hok,r,q⟩:=h
 obtain ⟨hh,g,d,t,os'⟩:=s'
 obtain rfl:os'=s.os:=os
 exact ⟨v,H',I.call (h':=hh) (g':=g) (d':=d) (t':=t) (ch:=[]) un hok bare (fun b z=>absurd z (by simp)),r,q⟩
end
def Zcm (sp:Sp)(dvs:List V)(E:XK)(t:TA):TE:=fun σ H Q=>t σ H fun vs H1=>sp (vs++dvs) H1 Q E
def Binds (K:PySem.W.Frag)(fd:FuncData)(ps:List Str)(ds:List Value):Prop :=
 ∀ (s:Shared) (us:List Value),K.In s.heap→(us++ds).length=ps.length→BindsTo s fd ⟨us,[]⟩ (ps.zip (us++ds))
theorem Binds.all {K:PySem.W.Frag}{fd:FuncData}{ps:List Str}(h:∀ us:List Value,us.length=ps.length→bindArgs fd ⟨us,[]⟩=pure (ps.zip us)):Binds K fd ps []:=fun s us _ hl=>by
 rw [List.append_nil] at hl ⊢
 exact .of_eq (h us hl)
def Zdo (CX:Uv)(X:Cx)(E:XK):Prop:=∀(pins:List (Addr×Obj))(σ:St)(H:Hp)(s:Shared)(e:Value)(s':Shared),Inv X pins σ H s→CX X.stack H s E e s'→X.xe e s'
section
variable {X:Cx}{CX:Uv}{k:Nat}{f C:Addr}{fd:FuncData}{ps:List Str}{sp:Sp}{dvs:List V}{ds:List Value}{E:XK}{x m:Str}{p pos apos:Pos}{e o:Expr}{es:List Expr}{ta:TE}{t:TA}
theorem Zlf {pins:List (Addr×Obj)}{σ:St}{H:Hp}{s:Shared}{Q:VK}{us:List Value}{vs:List V}(F:FnOk X.prog X.w X.K X.mg X.base CX k f fd ps sp)(hr:Room k X.A)(hb:Binds X.K fd ps ds)(hd:Vals dvs ds)(hx:Zdo CX X E)
   (I:Inv X pins σ H s) (r:Vals vs us) (h:sp (vs++dvs) H Q E):wpAny (model X.prog X.w) X.A (call (.ref f) us) (EP X pins σ Q) X.xe s:=by
 have r2:Vals (vs++dvs) (us++ds):=r.append hd
 have hl:(us++ds).length=ps.length:=by rw [← r2.length];exact F.len _ _ _ _ h
 refine wpAny_call (codeAny_mono (F.run X.A X.stack s H ⟨us,[]⟩ (us++ds) (vs++dvs) Q E hr I.env0 (hb s us I.kIn hl) r2 h) fun r s' hq=>?_)
 cases r with
 | error e=>exact hx pins σ H s e s' I hq
 | ok fl =>
   cases fl with
   | ret u=>exact I.after hq
   | next=>exact False.elim hq
   | brk=>exact False.elim hq
   | cont=>exact False.elim hq
theorem ZjU (F:FnOk X.prog X.w X.K X.mg X.base CX k f fd ps sp)(hr:Room k X.A)(hg:Gl X x)(hm:X.mg x=some (.ref f))(hk:PySem.W.keepIn X.K (.ref f)=true)(hb:Binds X.K fd ps ds)(hd:Vals dvs ds)(hx:Zdo CX X E)
   (ha:PA X (e::es) t) (hdb:(x == ("__debug__":Str))=false:=by decide) (he:starEach (e::es) X.env=(false,eval e X.env)::starEach es X.env:=by rfl) (hpl:(backTo pos (starEach es X.env)).any (·.1)=false:=by rfl) :
   PE X (.Call (.Name x p) (e::es) [] pos) (Zcm sp dvs E t):=by
 intro pins s σ H Q I h
 refine wpAny_Call_Name_kw (Um I hg hm ?_ hdb)
 refine PySem.W.callWith_K (h₀:=X.base) I.ok.mod.kin hk (Zp (ha pos pins s σ H _ I h) fun us s1 ⟨vs,H1,I1,r,q⟩=>⟨I1.kIn,?_⟩) he hpl
 exact Zlf F hr hb hd hx I1 r q
end
def PK (X:Cx)(kws:List Keyword)(t:TA):Prop :=
 ∀ (pos:Pos) (pins:List (Addr×Obj)) (s:Shared) (σ:St) (H:Hp) (Q:List V→Hp→Prop),Inv X pins σ H s→t σ H Q→wpAny (model X.prog X.w) X.A (evalAll ((backToKw pos (keywordEach kws X.env)).map (·.2))) (AP X pins σ Q) X.xe s
section
variable {X:Cx}{CX:Uv}{k:Nat}{f C:Addr}{fd:FuncData}{ps ks:List Str}{sp:Sp}{E:XK}{x m:Str}{p pos apos kpos:Pos}{e o:Expr}{es:List Expr}{kws:List Keyword}{te ta:TE}{t tk:TA}{nm:Option Str}
theorem ZlU:PK X [] XL:=fun _ _ _ _ H Q I h=>wpAny_evalAll_nil ⟨[],H,I,.nil,h⟩
theorem ZjI (ha:PE X e te)(hr:PK X kws t):PK X (⟨nm,e,kpos⟩::kws) (Xa te t):=by
 intro pos pins s σ H Q I h
 show wpAny _ _ (evalAll ((do let v ← eval e X.env;standAt pos;pure v)::(backToKw pos (keywordEach kws X.env)).map (·.2))) _ _ s
 refine wpAny_evalAll_cons (wpAny_bind (Zp (ha pins s σ H _ I h) fun u s1 ⟨x,H1,I1,r1,q1⟩=>wpAny_bind (wpAny_standAt (wpAny_pure ?_))))
 exact Zp (hr pos pins s1 σ H1 _ I1 q1) fun us s2 ⟨xs,H2,I2,r2,q2⟩=>⟨x::xs,H2,I2,.cons r1 r2,q2⟩
variable {g:List Value→List Value→List Value}{gV:List V→List V→List V}
end
structure Zz (N P:List Str)(sc:Scope):Prop where
 kind:sc.kind=.function
 co:sc.isCoroutine=false
 gen:sc.isGenerator=false
 nd:N.Nodup
 pre:N.take P.length=P
 par:∀ x∈P,sc.names.lookup x=some .local∨sc.names.lookup x=some .cell
 nofree:∀ y∈sc.names,y.2≠.free
theorem ZbG {kindOf:Str→Option NameKind}{x:Str}:∀{binds:List (Str×Value)}{m:Str→Option Value},(∀ v,(x,v) ∉ binds)→bindL kindOf binds m x=m x
 | [],_,_=>rfl
 | (n,v)::r,m,h=>by
   unfold bindL
   rw [ZbG fun w hw=>h w (List.mem_cons_of_mem _ hw)]
   split
   · have:x≠n:=by rintro rfl;exact h v List.mem_cons_self
     simp [this]
   · rfl
theorem ZbY {kindOf:Str→Option NameKind}{x:Str}:∀{binds:List (Str×Value)}{m:Str→Option Value},(∀ v,(x,v) ∉ binds)→bindC kindOf binds m x=m x
 | [],_,_=>rfl
 | (n,v)::r,m,h=>by
   unfold bindC
   rw [ZbY fun w hw=>h w (List.mem_cons_of_mem _ hw)]
   split
   · rfl
   · have:x≠n:=by rintro rfl;exact h v List.mem_cons_self
     simp [this]
theorem ZbM {kindOf:Str→Option NameKind}{x:Str}{v:Value}:∀{P:List Str}{vs:List Value}{i:Nat}{m:Str→Option Value},P.Nodup→P[i]?=some x→vs[i]?=some v→kindOf x=some .local →
   bindL kindOf (P.zip vs) m x=some v
 | [],_,_,_,_,h,_,_=>by simp at h
 | _::_,[],_,_,_,_,h,_=>by simp at h
 | p::P,w::vs,0,m,nd,h1,h2,hk=>by
   simp at h1 h2;subst h1;subst h2
   show bindL kindOf ((p,w)::P.zip vs) m p=_
   unfold bindL
   rw [ZbG fun v hv=>(List.nodup_cons.mp nd).1 (List.of_mem_zip hv).1,if_pos hk]
   simp
 | p::P,w::vs,i+1,m,nd,h1,h2,hk=>by
   show bindL kindOf ((p,w)::P.zip vs) m x=_
   unfold bindL
   exact ZbM (i:=i) (List.nodup_cons.mp nd).2 (by simpa using h1) (by simpa using h2) hk
theorem Zcg {kindOf:Str→Option NameKind}{x:Str}{v:Value}:∀{P:List Str}{vs:List Value}{i:Nat}{m:Str→Option Value},P.Nodup→P[i]?=some x→vs[i]?=some v→kindOf x≠some .local →
   bindC kindOf (P.zip vs) m x=some v
 | [],_,_,_,_,h,_,_=>by simp at h
 | _::_,[],_,_,_,_,h,_=>by simp at h
 | p::P,w::vs,0,m,nd,h1,h2,hk=>by
   simp at h1 h2;subst h1;subst h2
   show bindC kindOf ((p,w)::P.zip vs) m p=_
   unfold bindC
   rw [ZbY fun v hv=>(List.nodup_cons.mp nd).1 (List.of_mem_zip hv).1,if_neg hk]
   simp
 | p::P,w::vs,i+1,m,nd,h1,h2,hk=>by
   show bindC kindOf ((p,w)::P.zip vs) m x=_
   unfold bindC
   exact Zcg (i:=i) (List.nodup_cons.mp nd).2 (by simpa using h1) (by simpa using h2) hk
def start (N:List Str)(vs:List V):St:=vs.map some++List.replicate (N.length - vs.length) none
def WB (CX:Uv)(P:Program)(w:World)(K:PySem.W.Frag)(mg:Str→Option Value)(base:Heap)(N:List Str)(qual:Str)(scope:Scope)(f:Addr)(cd:Value)(A:Around)(outer:List Env)(s:Shared)(H:Hp)(E:XK):Cx where
 prog:=P
 w:=w
 K:=K
 mg:=mg
 base:=base
 A:=A.deeper (envOfC qual scope s.heap.objs.size f cd)
 N:=N
 s₀:=s
 H₀:=H
 env:=envOfC qual scope s.heap.objs.size f cd
 outer:=outer
 stack:=envOfC qual scope s.heap.objs.size f cd::outer
 ex:=[]
 calm:=true
 fn:=fun _=>true
 pn:=[]
 xe:=fun e s'=>wpAny (model P w) (A.deeper (envOfC qual scope s.heap.objs.size f cd)) (leaving (envOfC qual scope s.heap.objs.size f cd) e) (fun _ s''=>CX outer H s E e s'') (fun e' s''=>CX outer H s E e' s'') s'
theorem Zcu {sc:Scope}{n:Nat}{x:Str}(h:sc.names.lookup x=some .cell):∃ c,(cellsFrom n sc.names []).lookup x=some c:=by
 have q:=PySem.W.cellsFrom_some sc.names n [] (.inl h)
 exact Option.isSome_iff_exists.mp q
theorem ZfQ {CX:Uv}{P:Program}{w:World}{K:PySem.W.Frag}{mg:Str→Option Value}{base:Heap}{N ps:List Str}{qual:Str}{scope:Scope}{f:Addr}{cd:Value}{A:Around}{outer:List Env}{s s1:Shared}{H:Hp}{E:XK}{us:List Value}{vs:List V}
   (S:Zz N ps scope) (hd:A.handled=none) (e0:Env0 P w K mg base A outer s H) (hl:vs.length=ps.length) (r:Vals vs us)
   (x:InCallC s s.heap.objs.size (bindL (envOfC qual scope s.heap.objs.size f cd).kindOf (ps.zip us) fun _=>none) (cellsFrom (s.heap.objs.size+1) scope.names []) (bindC (envOfC qual scope s.heap.objs.size f cd).kindOf (ps.zip us) fun _=>none) s1) :
   Inv (WB CX P w K mg base N qual scope f cd A outer s H E) [] (start N vs) H s1:=by
 have hpl:ps.length≤N.length:=by have:=congrArg List.length S.pre;rw [List.length_take] at this;omega
 obtain ⟨h1,tk,rfl,hk⟩:=x.done
 have noA:∀ b:Addr,b ∉ (WB CX P w K mg base N qual scope f cd A outer s H E).ex:=fun b z=>absurd (show b∈([]:List Addr) from z) (by simp)
 refine ⟨⟨e0.mod,S.kind,rfl,rfl,Nat.le_refl _,fun y z c h1 h2=>?_,fun y hy=>?_,fun y c _ h=>?_,fun _=>hd,Around.frames_deeper e0.frames,.inr ⟨rfl,rfl⟩,fun b z=>absurd z (noA b),e0.bs,e0.bsz,fun b _ _=>noA b,fun b z=>absurd z (noA b),e0.funs,e0.frf⟩,
   rfl,e0.bare,Un.kept hk,⟨_,x.toInCall.ns,fun i y v h1 h2 h3=>?_⟩,fun y c h=>⟨_,x.cell y c h⟩,e0.hok.fresh (Nat.le_refl _),fun y c h=>?_,fun p hp=>absurd (show p∈([]:List (Addr×Obj)) from hp) (by simp),e0.hok.kept hk,?_⟩
 · exact name_of_addr x.apart (PySem.mem_of_lookup h1) (PySem.mem_of_lookup h2)
 · have hy:scope.names.lookup y=some .cell∨scope.names.lookup y=some .free:=hy
   rcases hy with hy | hy
   · exact Zcu hy
   · exact absurd rfl (S.nofree _ (PySem.mem_of_lookup hy))
 · exact Nat.le_of_lt (x.above y c (PySem.mem_of_lookup h))
 · have hi:i < vs.length:=by
     unfold start at h2
     by_cases hi:i < vs.length
     · exact hi
     · rw [List.getElem?_append_right (by simpa using hi)] at h2
       rw [List.getElem?_replicate] at h2
       split at h2<;>cases h2
   have ha:vs[i]?=some v:=by
     unfold start at h2
     rw [List.getElem?_append_left (by simpa using hi),List.getElem?_map] at h2
     cases e:vs[i]? with
     | none=>rw [e] at h2;cases h2
     | some a=>rw [e] at h2;cases h2;rfl
   obtain ⟨u,hu,rv⟩:=r.get ha
   have hp:ps[i]?=some y:=by
     rw [← S.pre,List.getElem?_take_of_lt (by omega)];exact h1
   have ndP:ps.Nodup:=by rw [← S.pre];exact S.nd.sublist (List.take_sublist _ _)
   refine ⟨u,rv,?_⟩
   rcases S.par y (List.mem_of_getElem? hp) with k | k
   · exact .inl ⟨k,ZbM ndP hp hu k⟩
   · obtain ⟨c,e⟩:=Zcu (n:=s.heap.objs.size+1) k
     refine .inr ⟨.inl k,c,e,?_⟩
     have q:=x.cell y c e
     rw [Zcg ndP hp hu (by show scope.names.lookup y≠_;rw [k];decide)] at q
     exact q
 · exact e0.hok.fresh (Nat.le_of_lt (x.above y c (PySem.mem_of_lookup h)))
 · unfold start
   show _=N.length
   rw [List.length_append,List.length_map,List.length_replicate]
   omega
theorem Zjo {CX:Uv}{P:Program}{w:World}{K:PySem.W.Frag}{mg:Str→Option Value}{base:Heap}{k:Nat}{f:Addr}{name qual:Str}{params:Arguments}{body:List Stmt}{scope:Scope}{dV kV doc pm cdv ct oc:Value}{an od:Option Addr}
   {osl:Array (Option Value)} {N ps:List Str} {sp:Sp} (lk:K.lookup f=some ⟨oc,od,.func (PySem.W.fnOf name qual params body scope dV kV doc pm an cdv ct),osl⟩) (hcd:PySem.W.codeIn K cdv qual=true) (S:Zz N ps scope)
   (len:∀ vs H Q E,sp vs H Q E→vs.length=ps.length)
   (hbody:∀ (A:Around) (outer:List Env) (s:Shared) (H:Hp) (vs:List V) (Q:VK) (E:XK),Room k (A.deeper (envOfC qual scope s.heap.objs.size f cdv))→sp vs H Q E →
     ∃ t,PSs (WB CX P w K mg base N qual scope f cdv A outer s H E) body t∧t { nx:=fun _ H'=>Q .non H',rt:=Q } (start N vs) H) :
   FnOk P w K mg base CX (k+1) f (PySem.W.fnOf name qual params body scope dV kV doc pm an cdv ct) ps sp:=by
 refine ⟨len,fun A outer s H args us vs Q E hr e0 hb r hsp=>?_⟩
 have hl:=len _ _ _ _ hsp
 have KX:K.In s.heap:=e0.mod.kin.keeps fun b o e=>(e0.bs b o e).1
 have lim:s.heap.NoLimit:=e0.mod.nolimit.keeps fun b o e=>(e0.bs b o e).1
 have hkind:∀ y∈ps.zip us,scope.names.lookup y.1=some .local∨(scope.names.lookup y.1=some .cell∧((cellsFrom (s.heap.objs.size+1) scope.names []).lookup y.1).isSome=true):=fun ⟨n,v⟩ hy=>by
   rcases S.par n (List.of_mem_zip hy).1 with q | q
   · exact .inl q
   · exact .inr ⟨q,PySem.W.cellsFrom_some _ _ _ (.inl q)⟩
 refine codeAny_call_function hr.depth (KX _ _ lk) rfl S.co S.gen rfl (PySem.W.codeRec_of KX hcd) (hb _ _ _ _ ?_)
 refine wpAny_newFunctionEnv_cells S.kind hkind fun env he s1 x=>?_
 subst he
 refine ⟨lim.keeps x.toInCall.keep,codeAny_func ?_⟩
 obtain ⟨t,ht,hq⟩:=hbody A outer s H vs Q E (hr.deeper _) hsp
 have I:Inv (WB CX P w K mg base N qual scope f cdv A outer s H E) [] (start N vs) H s1:=ZfQ S hr.hd e0 hl r x
 refine wpAny_mono (ht [] s1 (start N vs) H _ I hq) (fun fl s' hs=>?_) fun e s' hs=>hs
 have fin:∀ {σ':St} {H':Hp} {v:V} {u:Value},Inv (WB CX P w K mg base N qual scope f cdv A outer s H E) [] σ' H' s'→RelV v u→Q v H'→CE outer P w H s Q u s' :=
   fun {σ' H' v u} J rv q=>⟨v,H',J.os,J.bare,J.base,J.hok,rv,q⟩
 cases fl with
 | ret u =>
   obtain ⟨v,σ',H',J,rv,q⟩:=hs
   exact fin J rv q
 | next =>
   obtain ⟨σ',H',J,q⟩:=hs
   exact fin (v:=V.non) (u:=Value.none) J rfl q
 | brk =>
   obtain ⟨_,_,_,q⟩:=hs
   exact False.elim q
 | cont =>
   obtain ⟨_,_,_,q⟩:=hs
   exact False.elim q
end L2
namespace L2
open PySem PySem.Spec PyProof.Rows
section
variable {X:Cx}{x:Str}{p pos:Pos}{e:Expr}{es:List Expr}{t:TA}{id T:String}{r:List V→Hp→VK→Prop}
def tCB (r:List V→Hp→VK→Prop)(t:TA):TE:=fun σ H Q=>t σ H fun vs H1=>r vs H1 Q
theorem Zn (hc:YQ X (.builtin id) r)(hg:Gl X x)(hm:X.mg x=none)(hv:bootBuiltins x=some (.builtin id))(ha:PA X (e::es) t)(hn:x≠"__name__":=by decide)(hdb:(x == ("__debug__":Str))=false:=by decide)
   (he:starEach (e::es) X.env=(false,eval e X.env)::starEach es X.env:=by rfl) (hpl:(backTo pos (starEach es X.env)).any (·.1)=false:=by rfl):PE X (.Call (.Name x p) (e::es) [] pos) (tCB r t):=by
 intro pins s σ H Q I h
 refine wpAny_Call_Name_kw (WS I hg hm hv ?_ hn hdb)
 exact PyProof.Rows.callWith_builtin1 (Zp (ha pos pins s σ H _ I h) fun us s1 ⟨vs,H1,I1,r1,q1⟩=>hc pins s1 σ H1 vs us Q I1 r1 q1) he hpl
theorem YA (hc:YQ X (.type T) r)(hg:Gl X x)(hm:X.mg x=none)(hv:bootBuiltins x=some (.type T))(ha:PA X (e::es) t)(hn:x≠"__name__":=by decide)(hdb:(x == ("__debug__":Str))=false:=by decide)
   (he:starEach (e::es) X.env=(false,eval e X.env)::starEach es X.env:=by rfl) (hpl:(backTo pos (starEach es X.env)).any (·.1)=false:=by rfl):PE X (.Call (.Name x p) (e::es) [] pos) (tCB r t):=by
 intro pins s σ H Q I h
 refine wpAny_Call_Name_kw (WS I hg hm hv ?_ hn hdb)
 exact PyProof.Rows.callWith_type1 (Zp (ha pos pins s σ H _ I h) fun us s1 ⟨vs,H1,I1,r1,q1⟩=>hc pins s1 σ H1 vs us Q I1 r1 q1) he hpl
end
end L2
namespace HT
open PySem PyProof.Rows
section
open PySem.SeqAt
open PySem.AutoSeq1 (wpAny_loadPart')
open PySem.MeetsSeq PySem.MeetsSeq2 PySem.MeetsSeq3
end
section
variable {prog:Program}{w:World}{A:Around}{E:Value→Shared→Prop}{s:Shared}
theorem cat_tup {t b:Addr}{vs ws:List Value}{Q:Value→Shared→Prop}(ht:IsTup s.heap t vs.toArray)(hb:IsTup s.heap b ws.toArray)(hv:vs≠[])
   (h1:ws=[]→Q (.ref t) s) (h2:ws≠[]→Q (.ref s.heap.objs.size) { s with heap:=s.heap.push { cls:=.type "tuple",data:=.seq (vs++ws).toArray } })
   (hsz:vs.length+ws.length≤sizeLine):wpAny (model prog w) A (binaryOp .Add (.ref t) (.ref b)) Q E s:=by
 obtain ⟨⟨cls,dd,data,sl⟩,ho,hc,n,hd⟩:=id ht
 obtain ⟨⟨cls2,dd2,data2,sl2⟩,ho2,hc2,n2,hd2⟩:=id hb
 simp only at hc hd hc2 hd2
 subst hc hd hc2 hd2
 have e:vs.toArray++ws.toArray=(vs++ws).toArray:=by simp
 by_cases hw:ws=[]
 · exact concat_meets ⟨_,ho,rfl⟩ ⟨_,ho2,rfl⟩ noFill_tuple_add seq_tuple_add PySem.F.slot_tuple_add PySem.F.entry_tuple_add (PySem.F.args_tuple_add_2 _ _)
     (tuple_addW1 t b vs.toArray ws.toArray n n2 dd dd2 sl sl2 (by simpa using hv) (by simp [hw])) ⟨ho,ho2,h1 hw⟩
 · refine concat_meets ⟨_,ho,rfl⟩ ⟨_,ho2,rfl⟩ noFill_tuple_add seq_tuple_add PySem.F.slot_tuple_add PySem.F.entry_tuple_add (PySem.F.args_tuple_add_2 _ _)
     (tuple_addW2 t b vs.toArray ws.toArray n n2 dd dd2 sl sl2 (by simpa using hv) (by simpa using hw) (by rw [List.size_toArray,List.size_toArray];exact hsz)) ⟨ho,ho2,?_⟩
   rw [e]
   exact h2 hw
def sIx (n d:Nat):Option Int→Nat
 | none=>d
 | some v=>if v < 0 then (v+(n:Int)).toNat else min v.toNat n
theorem sIx_none (n d:Nat):sIx n d none=d:=rfl
theorem sIx_nat (n d k:Nat):sIx n d (some (k:Int))=min k n:=by
 show (if (k:Int) < 0 then ((k:Int)+(n:Int)).toNat else min (k:Int).toNat n)=min k n
 rw [if_neg (by omega),Int.toNat_natCast]
theorem sIx_le (n d:Nat)(hd:d≤n)(o:Option Int):sIx n d o≤n:=by
 cases o with
 | none=>exact hd
 | some v =>
   show (if v < 0 then (v+(n:Int)).toNat else min v.toNat n)≤n
   by_cases hv:v < 0
   · rw [if_pos hv];omega
   · rw [if_neg hv];exact Nat.min_le_right _ _
theorem Zem (v:Int)(n d:Nat):(if v < 0 then max (v+(n:Int)) 0 else min v (n:Int))=((sIx n d (some v):Nat):Int):=by
 show (if v < 0 then max (v+(n:Int)) 0 else min v (n:Int))=(((if v < 0 then (v+(n:Int)).toNat else min v.toNat n):Nat):Int)
 by_cases hv:v < 0
 · simp only [if_pos hv];omega
 · simp only [if_neg hv];omega
theorem ZeF (lo hi:Option Int)(n:Nat):Builtin.Slice.sliceAdjust lo hi 1 (n:Int)=(((sIx n 0 lo:Nat):Int),((sIx n n hi:Nat):Int)):=by
 have h1:¬ ((1:Int) < 0):=by omega
 unfold Builtin.Slice.sliceAdjust
 simp only [h1,if_false]
 refine Prod.ext ?_ ?_
 · cases lo with
   | none=>rfl
   | some v=>exact Zem v n 0
 · cases hi with
   | none=>rfl
   | some v=>exact Zem v n n
theorem Zfg (i j:Nat):Builtin.Slice.slicePlaces (i:Int) (j:Int) 1=j - i:=by
 unfold Builtin.Slice.slicePlaces
 have h1:(1:Int) > 0:=by omega
 simp only [h1,if_true,Int.ediv_one]
 split<;>omega
theorem ZaO {v:Value}{o:Option Int}{Q:Option Int→Shared→Prop}(p:IsPart v o)(h:Q o s):wpAny (model prog w) A (Builtin.Slice.slicePartIndex v) Q E s:=by
 cases p with
 | none=>exact slicePart_none h
 | int i t=>exact slicePart_int h
theorem Zas {sl:Addr}{vl vu:Value}{lo hi:Option Int}{n:Nat}{Q:Int×Int×Nat→Shared→Prop}(hs:s.heap.IsSliceOf sl vl vu .none)(pl:IsPart vl lo)(pu:IsPart vu hi)
   (h:Q (((sIx n 0 lo:Nat):Int),1,sIx n n hi - sIx n 0 lo) s):wpAny (model prog w) A (Builtin.Slice.sliceApplied (.ref sl) (pure (n:Int))) Q E s:=by
 obtain ⟨os,hos,hcs,hds⟩:=id hs
 unfold Builtin.Slice.sliceApplied Builtin.Slice.sliceFields
 refine wpAny_bind (wpAny_bind (wpAny_field hos hds (x:=vl) rfl (wpAny_bind (wpAny_field hos hds (x:=vu) rfl (wpAny_bind (wpAny_field hos hds (x:=.none) rfl (wpAny_pure ?_)))))))
 refine wpAny_bind (slicePart_none ?_)
 show wpAny _ _ (if ((1:Int) == 0)=true then _ else _) _ _ s
 rw [if_neg (by decide)]
 refine wpAny_bind (ZaO pl (wpAny_bind (ZaO pu (wpAny_bind (wpAny_pure ?_)))))
 show wpAny _ _ (match Builtin.Slice.sliceAdjust lo hi 1 (n:Int) with | (lo,hi)=>pure (lo,(1:Int),Builtin.Slice.slicePlaces lo hi 1)) _ _ s
 rw [ZeF lo hi n]
 show wpAny _ _ (pure (((sIx n 0 lo:Nat):Int),(1:Int),Builtin.Slice.slicePlaces ((sIx n 0 lo:Nat):Int) ((sIx n n hi:Nat):Int) 1)) _ _ s
 rw [Zfg]
 exact wpAny_pure h
theorem Zij (xs:Array Value)(i k:Nat):((List.range k).filterMap fun (m:Nat)=>xs[((i:Int)+(m:Int) * 1).toNat]?).toArray=((xs.toList.drop i).take k).toArray:=by
 have e:(fun (m:Nat)=>xs[((i:Int)+(m:Int) * 1).toNat]?)=fun m=>xs[i+m]?:=by
   funext m
   have:((i:Int)+(m:Int) * 1).toNat=i+m:=by omega
   rw [this]
 rw [e]
 have:=pick_run xs i k
 rw [List.filterMap_map] at this
 have e2:((fun x=>xs[x]?) ∘ fun x=>i+x)=fun m=>xs[i+m]?:=rfl
 rw [e2] at this
 rw [this]
theorem getItem_tuple_cut {t sl:Addr}{items:Array Value}{vl vu:Value}{lo hi:Option Int}{Q:Value→Shared→Prop}(ht:IsTup s.heap t items)(hs:s.heap.IsSliceOf sl vl vu .none)(pl:IsPart vl lo)(pu:IsPart vu hi)
   (hw:¬ (sIx items.size 0 lo=0∧sIx items.size items.size hi=items.size))
   (h:Q (.ref s.heap.objs.size) { s with heap:=s.heap.push { cls:=.type "tuple",data:=.seq ((items.toList.drop (sIx items.size 0 lo)).take (sIx items.size items.size hi - sIx items.size 0 lo)).toArray } })
   (hsz:items.size≤sizeLine):wpAny (model prog w) A (getItem (.ref t) (.ref sl)) Q E s:=by
 have htake:sizeOk (.seq ((items.toList.drop (sIx items.size 0 lo)).take (sIx items.size items.size hi - sIx items.size 0 lo)).toArray):=by
   show ((items.toList.drop (sIx items.size 0 lo)).take (sIx items.size items.size hi - sIx items.size 0 lo)).toArray.size≤sizeLine
   rw [List.size_toArray,List.length_take,List.length_drop,Array.length_toList]
   omega
 have hj:sIx items.size items.size hi≤items.size:=sIx_le _ _ (Nat.le_refl _) hi
 obtain ⟨os,hos,hcs,hds⟩:=id hs
 have hTs:s.TypeIs (.ref sl) "slice":=⟨os,hos,hcs⟩
 unfold getItem
 try with_reducible refine wpAny_holding ?_
 first | refine wpAny_bind (wpAny_pure ?_) | skip
 refine wpAny_bind (wpAny_sequenceKey ht.typeIs (by decide) ?_)
 refine wpAny_bind (wpAny_callSpecial?_slot (name:=Str.ofString "__getitem__") ht.typeIs PyProof.Rows.slot_tuple_getitem
   (wpAny_call_entry PyProof.Rows.slot_tuple_getitem ht.typeIs entry_tuple_getitem ?_ (args_tuple_getitem _ _)))
 show wpAny _ _ (Builtin.Tuple.tupleItemsOf (.ref t) >>= _) _ _ s
 refine wpAny_bind (tupleItemsOf_ ht ?_)
 refine wpAny_bind (wpAny_typeOf hTs ?_)
 rw [if_pos (by decide)]
 refine wpAny_bind (Zas hs pl pu ?_)
 have hno:¬ ((((sIx items.size 0 lo:Nat):Int) == 0&&(1:Int) == 1&&(sIx items.size items.size hi - sIx items.size 0 lo) == items.size)=true):=by
   intro q
   rw [Bool.and_eq_true,Bool.and_eq_true] at q
   have q1:((sIx items.size 0 lo:Nat):Int)=0:=eq_of_beq q.1.1
   have q2:sIx items.size items.size hi - sIx items.size 0 lo=items.size:=eq_of_beq q.2
   exact hw ⟨by omega,by omega⟩
 show wpAny _ _ (if (((sIx items.size 0 lo:Nat):Int) == 0&&(1:Int) == 1&&(sIx items.size items.size hi - sIx items.size 0 lo) == items.size)=true then _ else _) _ _ s
 rw [if_neg hno,Zij]
 first
   | exact wpAny_bind (m:=Builtin.Tuple.tupleExact _) (wpAny_newObj_type (wpAny_pure ⟨_,rfl,wpAny_pure h⟩) htake)
   | exact wpAny_bind (m:=Builtin.Tuple.tupleExact _) (wpAny_newObj_type (wpAny_bind (wpAny_pure (wpAny_pure ⟨_,rfl,wpAny_pure h⟩))) htake)
   | exact wpAny_bind (wpAny_bind (m:=Builtin.Tuple.tupleExact _) (wpAny_newObj_type (wpAny_pure (wpAny_pure ⟨_,rfl,wpAny_pure h⟩)) htake))
   | exact wpAny_bind (wpAny_bind (m:=Builtin.Tuple.tupleExact _) (wpAny_newObj_type (wpAny_pure ⟨_,rfl,wpAny_pure h⟩) htake))
end
end HT
namespace L2
open PySem PySem.Spec PyProof.Rows
abbrev TO:=St→Hp→(Option Int→Hp→Prop)→Prop
def PO (X:Cx)(e:Option Expr)(t:TO):Prop :=
 ∀ (pins:List (Addr×Obj)) (s:Shared) (σ:St) (H:Hp) (Q:Option Int→Hp→Prop),Inv X pins σ H s→t σ H Q →
   wpAny (model X.prog X.w) X.A (evalPart e X.env) (fun u s'=>∃ o H',Inv X pins σ H' s'∧IsPart u o∧Q o H') X.xe s
def XQ:TO:=fun _ H Q=>Q none H
def ZmD (t:TE):TO:=fun σ H Q=>t σ H fun x H1=>∃ i,x=.int i∧Q (some i) H1
section
variable {X:Cx}{e:Expr}{te:TE}{lo hi:Option Expr}{tl th:TO}{pos p2:Pos}
theorem ZV:PO X none XQ:=by
 intro pins s σ H Q I h
 rw [evalPart_none]
 exact wpAny_pure ⟨none,H,I,.none,h⟩
theorem ZK (h:PE X e te):PO X (some e) (ZmD te):=by
 intro pins s σ H Q I hw
 rw [evalPart_some]
 refine Zp (h pins s σ H _ I hw) fun u s1 ⟨x,H1,I1,r1,q1⟩=>?_
 obtain ⟨i,rfl,q⟩:=q1
 obtain ⟨t,rfl⟩:=r1
 exact ⟨some i,H1,I1,.int i t,q⟩
def SlR (X:Cx)(r:V→Option Int→Option Int→Hp→VK→Prop):Prop :=
 ∀ (pins:List (Addr×Obj)) (s:Shared) (σ:St) (H:Hp) (x:V) (v vl vu:Value) (lo hi:Option Int) (sl:Addr) (Q:VK),Inv X pins σ H s→RelV x v→s.heap.IsSliceOf sl vl vu .none→IsPart vl lo→IsPart vu hi→r x lo hi H Q →
   ∃ T id,typeLookup (.type T) "__getitem__"=pure (some (.builtin id))∧s.TypeIs v T∧wpAny (model X.prog X.w) X.A (getItem v (.ref sl)) (EP X pins σ Q) X.xe s
def tSl (r:V→Option Int→Option Int→Hp→VK→Prop)(te:TE)(tl th:TO):TE:=fun σ H Q=>te σ H fun x H1=>tl σ H1 fun l H2=>th σ H2 fun u H3=>r x l u H3 Q
theorem ZM {r:V→Option Int→Option Int→Hp→VK→Prop}(hr:SlR X r)(he:PE X e te)(hl:PO X lo tl)(hu:PO X hi th):PE X (.Subscript e (.Slice lo hi none p2) pos) (tSl r te tl th):=by
 intro pins s σ H Q I h
 refine Subscript_ (Zp (he pins s σ H _ I h) fun v s1 ⟨x,H1,I1,r1,q1⟩=>?_)
 refine wpAny_Slice (Zp (hl pins s1 σ H1 _ I1 q1) fun vl s2 ⟨l,H2,I2,pl,q2⟩=>Zp (hu pins s2 σ H2 _ I2 q2) fun vu s3 ⟨u,H3,I3,pu,q3⟩=>?_)
 rw [evalPart_none]
 refine wpAny_pure ?_
 have I4:Inv X pins σ H3 { s3 with heap:=s3.heap.push { cls:=.type "slice",data:=.fields #[vl,vu,.none] } }:=I3.kept (t':=s3.toks) fun b ob q=>Heap.get?_push_of_some _ q
 obtain ⟨T,id,hT,ht,hg⟩:=hr pins { s3 with heap:=s3.heap.push { cls:=.type "slice",data:=.fields #[vl,vu,.none] } } σ H3 x v vl vu l u s3.heap.objs.size Q I4 r1 (Heap.IsSliceOf.new ..) pl pu q3
 show wpAny (model X.prog X.w) X.A (subscriptTail e (.Slice lo hi none p2) v (.ref s3.heap.objs.size)) (EP X pins σ Q) X.xe { s3 with heap:=s3.heap.push { cls:=.type "slice",data:=.fields #[vl,vu,.none] } }
 exact tail_any (ops:=[.ref s3.heap.objs.size,v]) ht hT hg (by with_unfolding_all rfl)
def Xy (xs:List V)(lo hi:Option Int):List V:=(xs.drop (HT.sIx xs.length 0 lo)).take (HT.sIx xs.length xs.length hi - HT.sIx xs.length 0 lo)
theorem Zac (xs:List V)(lo hi:Option Int):(Xy xs lo hi).length≤xs.length:=by
 unfold Xy
 rw [List.length_take,List.length_drop]
 omega
def rSlT (K:PySem.W.Frag):V→Option Int→Option Int→Hp→VK→Prop:=fun x lo hi H Q=>∃ a xs,x=.ref a∧SqT K H a xs ∧
 ¬ (HT.sIx xs.length 0 lo=0∧HT.sIx xs.length xs.length hi=xs.length)∧∀ p,H p=none→Q (.ref p) (upd H p (.tup (Xy xs lo hi)))
theorem Zmi:SlR X (rSlT X.K):=by
 intro pins s σ H x v vl vu lo hi sl Q I rx hs pl pu h
 obtain ⟨a,xs,rfl,hx,hw,q⟩:=h
 cases rx
 obtain ⟨its,r,ht,hz⟩:=I.tuple hx
 have hlen:its.toArray.size=xs.length:=by rw [List.size_toArray];exact r.length.symm
 refine ⟨"tuple",_,PyProof.Rows.slot_tuple_getitem.lookup,ht.typeIs,?_⟩
 refine HT.getItem_tuple_cut ht hs pl pu (by rw [hlen];exact hw) ?_ (by rw [hlen];exact hz)
 rw [hlen]
 refine ⟨.ref s.heap.objs.size,_,I.laid (t':=s.toks) (o:=.tup (Xy xs lo hi)) (fun b ob q=>Heap.get?_push_of_some _ q) (Nat.le_refl _) ?_,rfl,q _ (I.hok.fresh (Nat.le_refl _))⟩
 exact ⟨Nat.le_trans (Zac xs lo hi) hz,_,(r.drop (HT.sIx xs.length 0 lo)).take (HT.sIx xs.length xs.length hi - HT.sIx xs.length 0 lo),IsTup.new _ _⟩
def ZmO (K:PySem.W.Frag):R2:=fun x y H Q=>∃ a b xs ys,x=.ref a∧y=.ref b∧SqT K H a xs∧SqT K H b ys∧xs≠[]∧xs.length+ys.length≤sizeLine ∧
 (ys=[]→Q (.ref a) H)∧(ys≠[]→∀ p,H p=none→Q (.ref p) (upd H p (.tup (xs++ys))))
theorem Vals.nil_iff {xs:List V}{us:List Value}(r:Vals xs us):us=[]↔xs=[]:=by
 cases r with
 | nil=>simp
 | cons _ _=>simp
theorem ZdU:YR X (binaryOp .Add) (ZmO X.K):=by
 intro pins s σ H x y v u Q I rx ry h
 obtain ⟨a,b,xs,ys,rfl,rfl,ha,hb,hx,hz,q1,q2⟩:=h
 cases rx
 cases ry
 obtain ⟨its,r1,p1,_⟩:=I.tuple ha
 obtain ⟨its2,r2,p2,_⟩:=I.tuple hb
 refine HT.cat_tup p1 p2 (fun z=>hx (r1.nil_iff.mp z)) (fun z=>⟨.ref a,H,I,rfl,q1 (r2.nil_iff.mp z)⟩) (fun z=>?_) (by rw [← r1.length,← r2.length];exact hz)
 refine ⟨.ref s.heap.objs.size,_,I.laid (t':=s.toks) (o:=.tup (xs++ys)) (fun b ob q=>Heap.get?_push_of_some _ q) (Nat.le_refl _) ?_,rfl,q2 (fun w=>z (r2.nil_iff.mpr w)) _ (I.hok.fresh (Nat.le_refl _))⟩
 exact ⟨by rw [List.length_append];exact hz,_,r1.append r2,IsTup.new _ _⟩
end
end L2
namespace L2
open PySem PySem.Spec PyProof.Rows
def ixN (n:Nat)(i:Int):Option Nat:=if 0≤i then (if i < n then some i.toNat else none) else if -(n:Int)≤i then some (i+n).toNat else none
def Wm {α:Type}(xs:List α)(i:Int):Option α:=(ixN xs.length i).bind fun j=>xs[j]?
theorem ZdV {n:Nat}{i:Int}{j:Nat}(h:ixN n i=some j):seqIndex? i n=some j∧j < n∧-(n:Int)≤i∧i < n:=by
 unfold ixN at h
 by_cases h0:0≤i
 · rw [if_pos h0] at h
   by_cases h1:i < n
   · rw [if_pos h1] at h
     have e:i.toNat=j:=Option.some.inj h
     exact ⟨by rw [seqIndex_of h0 h1,e],by omega,by omega,h1⟩
   · rw [if_neg h1] at h;cases h
 · rw [if_neg h0] at h
   by_cases h1:-(n:Int)≤i
   · rw [if_pos h1] at h
     have e:(i+n).toNat=j:=Option.some.inj h
     exact ⟨by rw [seqIndex_neg (by omega) h1,e],by omega,h1,by omega⟩
   · rw [if_neg h1] at h;cases h
theorem Zby {α:Type}{xs:List α}{i:Int}{v:α}(h:Wm xs i=some v):∃ j,seqIndex? i xs.length=some j∧xs[j]?=some v∧j < xs.length∧-(xs.length:Int)≤i∧i < xs.length:=by
 unfold Wm at h
 cases e:ixN xs.length i with
 | none=>rw [e] at h;cases h
 | some j =>
   rw [e] at h
   obtain ⟨h1,h2,h3,h4⟩:=ZdV e
   exact ⟨j,h1,h,h2,h3,h4⟩
theorem YB {α:Type}{xs:List α}{j:Nat}{v:α}(h:xs[j]?=some v):Wm xs (j:Int)=some v:=by
 have hj:j < xs.length:=(List.getElem?_eq_some_iff.mp h).1
 have e:ixN xs.length (j:Int)=some j:=by
   unfold ixN
   rw [if_pos (by omega),if_pos (by omega)];simp
 unfold Wm;rw [e];exact h
def Zko (b:Expr):Prop:=∀ o i,subscripted b false o i=operate [o,i] (getItem o i)
def IxR (X:Cx)(r:R2):Prop :=
 ∀ (value slice:Expr) (pins:List (Addr×Obj)) (s:Shared) (σ:St) (H:Hp) (x y:V) (v u:Value) (Q:VK),Inv X pins σ H s→RelV x v→RelV y u→r x y H Q →
   subscripted slice false v u=operate [v,u] (getItem v u)→wpAny (model X.prog X.w) X.A (subscriptTail value slice v u) (EP X pins σ Q) X.xe s
def MtR (X:Cx)(id:String)(r:V→List V→Hp→VK→Prop):Prop :=
 ∀ (pins:List (Addr×Obj)) (s:Shared) (σ:St) (H:Hp) (x:V) (xs:List V) (v:Value) (us:List Value) (Q:VK),Inv X pins σ H s→RelV x v→Vals xs us→r x xs H Q →
   wpAny (model X.prog X.w) X.A (call (.builtin id) (v::us)) (EP X pins σ Q) X.xe s
section
variable {X:Cx}{a b:Expr}{ta tb:TE}{pos:Pos}
theorem ZX {r:R2}(hr:IxR X r)(ha:PE X a ta)(hb:PE X b tb)(hs:Zko b):PE X (.Subscript a b pos) (tOp r ta tb):=by
 intro pins s σ H Q I h
 exact Subscript_ (ZhO ha hb I h fun v u s2 x y H2 I2 rx ry q=>hr a b pins s2 σ H2 x y v u Q I2 rx ry q (hs _ _))
def rIxL (K:PySem.W.Frag):R2:=fun x y H Q=>∃ p xs i v,x=.ref p∧y=.int i∧SqL K H p xs∧Wm xs i=some v∧Q v H
def rIxT (K:PySem.W.Frag):R2:=fun x y H Q=>∃ p xs i v,x=.ref p∧y=.int i∧SqT K H p xs∧Wm xs i=some v∧Q v H
def rIxS:R2:=fun x y H Q=>∃ z i c,x=.str z∧y=.int i∧z.length≤sizeLine∧Wm z.cps.toList i=some c∧Q (.str ⟨#[c]⟩) H
theorem YU:IxR X (rIxL X.K):=by
 intro value slice pins s σ H x y v u Q I rx ry h hs
 obtain ⟨p,xs,i,z,rfl,rfl,hq,he,q⟩:=h
 cases rx
 obtain ⟨t,rfl⟩:=ry
 obtain ⟨its,r,pl,hz⟩:=I.list hq
 obtain ⟨j,h1,h2,h3,h4,h5⟩:=Zby he
 obtain ⟨w,ew,rw'⟩:=r.get h2
 have hl:=r.length
 have hn:=WN
 have fin:EP X pins σ Q w s:=⟨z,H,I,rw',q⟩
 by_cases h0:0≤i
 · have hj:i.toNat=j:=by
     rw [seqIndex_of h0 h5] at h1
     exact Option.some.inj h1
   exact item_listR pl.isList h0 (by omega) (by rw [hj];simpa using ew) fin hs
 · have hj:(i+(its.toArray.size:Int)).toNat=j:=by
     rw [seqIndex_neg (by omega) h4] at h1
     rw [List.size_toArray,← hl]
     exact Option.some.inj h1
   exact subscriptTail_builtinR (x:=w) pl.isList.typeIs slot_list_getitem.lookup
     (wpAny_getItem_list_neg (Q:=fun r s'=>r=w∧EP X pins σ Q r s') pl.isList (by omega) (by rw [List.size_toArray]<;>omega) (by omega) (by rw [hj];simpa using ew) ⟨rfl,fin⟩) hs
theorem Xr:IxR X (rIxT X.K):=by
 intro value slice pins s σ H x y v u Q I rx ry h hs
 obtain ⟨p,xs,i,z,rfl,rfl,hq,he,q⟩:=h
 cases rx
 obtain ⟨t,rfl⟩:=ry
 obtain ⟨its,r,pl,hz⟩:=I.tuple hq
 obtain ⟨j,h1,h2,h3,h4,h5⟩:=Zby he
 obtain ⟨w,ew,rw'⟩:=r.get h2
 have hl:=r.length
 have hn:=WN
 have fin:EP X pins σ Q w s:=⟨z,H,I,rw',q⟩
 exact subscriptTail_builtinR (x:=w) pl.typeIs slot_tuple_getitem.lookup
   (getItem_tuple (j:=j) (Q:=fun r s'=>r=w∧EP X pins σ Q r s') pl (by omega) (by omega) (by rw [List.size_toArray,← hl];exact h1) (by simpa using ew) ⟨rfl,fin⟩) hs
theorem WO:IxR X rIxS:=by
 intro value slice pins s σ H x y v u Q I rx ry h hs
 obtain ⟨z,i,c,rfl,rfl,hz,he,q⟩:=h
 obtain ⟨t,rfl⟩:=rx
 obtain ⟨t',rfl⟩:=ry
 obtain ⟨j,h1,h2,h3,h4,h5⟩:=Zby he
 have hl:z.cps.toList.length=z.length:=by simp [Str.length]
 rw [hl] at h1 h4 h5
 have hn:=WN
 exact tail_any (typeIs_str s z t) slot_str_getitem.lookup (getItem_str (c:=c) (by
   have e1:decide (i < -(2 ^ 63:Int))=false:=decide_eq_false (by omega)
   have e2:decide (i ≥ 2 ^ 63)=false:=decide_eq_false (by omega)
   rw [e1,e2,Bool.or_false]) (by rw [h1];simpa using h2) ⟨.str ⟨#[c]⟩,H,I.tok _,⟨_,rfl⟩,q⟩) hs
theorem Zfu (its:List Value)(n j:Nat)(u:Value):Obj.mapSeq (·.setIfInBounds j u) { cls:=.type "list",data:=.seq its.toArray n }={ cls:=.type "list",data:=.seq (its.set j u).toArray n }:=by
 simp [Obj.mapSeq]
theorem Inv.lst {pins:List (Addr×Obj)}{σ:St}{H:Hp}{s:Shared}{p:Addr}{xs:List V}(I:Inv X pins σ H s)(h:H p=some (.lst xs)) :
   ∃ (its:List Value) (n:Nat),Vals xs its∧s.heap.get? p=some { cls:=.type "list",data:=.seq its.toArray n }∧xs.length≤sizeLine:=by
 obtain ⟨z,its,n,r,e⟩:=I.hok p _ h
 exact ⟨its,n,r,e,z⟩
theorem Inv.lstUpd {pins:List (Addr×Obj)}{σ:St}{H:Hp}{s:Shared}{p:Addr}{xs ys:List V}{its its':List Value}{n n':Nat}{f:Obj→Obj}(I:Inv X pins σ H s)(h:H p=some (.lst xs))
   (ho:s.heap.get? p=some { cls:=.type "list",data:=.seq its.toArray n }) (hf:f { cls:=.type "list",data:=.seq its.toArray n }={ cls:=.type "list",data:=.seq its'.toArray n' }) (r:Vals ys its') (hz:ys.length≤sizeLine) (t:Nat) :
   Inv X pins σ (upd H p (.lst ys)) { s with heap:=s.heap.update p f,toks:=t }:=by
 have e:(s.heap.update p f).get? p=some { cls:=.type "list",data:=.seq its'.toArray n' }:=by
   rw [Heap.get?_update_self f ho (by rw [hf]<;>rfl),hf]
 refine I.write (x:=p) (e:=p) (by rw [h];trivial) (.inl rfl) (fun b u hb q=>(Heap.get?_update_other _ _ (Ne.symm hb)).trans q) ⟨_,e⟩ ?_
 exact ⟨hz,its',n',r,e⟩
def Znm:V→V→V→Hp→(Hp→Prop)→Prop:=fun o i v H Q=>∃ p xs k j,o=.ref p∧i=.int k∧H p=some (.lst xs)∧ixN xs.length k=some j∧Q (upd H p (.lst (xs.set j v)))
theorem ZcY:PSet X Znm:=by
 intro pins s σ H o i v ov iv u Q I ro ri rv h
 obtain ⟨p,xs,k,j,rfl,rfl,hp,hj,q⟩:=h
 cases ro
 obtain ⟨t,rfl⟩:=ri
 obtain ⟨its,n,r,ho,hz⟩:=I.lst hp
 obtain ⟨h1,h2,h3,h4⟩:=ZdV hj
 have hl:=r.length
 have hn:=WN
 have I':Inv X pins σ (upd H p (.lst (xs.set j v))) { s with heap:=s.heap.update p (Obj.mapSeq (·.setIfInBounds j u)) } :=
   I.lstUpd hp ho (Zfu its n j u) (r.set rv j) (by rw [List.length_set];exact hz) s.toks
 by_cases h0:0≤k
 · have hk:k.toNat=j:=by
     rw [seqIndex_of h0 h4] at h1
     exact Option.some.inj h1
   exact PySem.W.ki_setAt ho h0 (by omega) (by rw [List.size_toArray,← hl];exact h4) (by rw [hk];exact ⟨_,I',q⟩)
 · have hk:(k+(its.toArray.size:Int)).toNat=j:=by
     rw [seqIndex_neg (by omega) h3] at h1
     rw [List.size_toArray,← hl]
     exact Option.some.inj h1
   exact PySem.W.ki_setBack ho (by omega) (by rw [List.size_toArray,← hl];exact h3) (by omega) (by rw [hk];exact ⟨_,I',q⟩)
theorem ZcU (lo hi:Option Int)(n:Nat):(sliceBounds lo hi none n).1=((HT.sIx n 0 lo:Nat):Int)∧(sliceBounds lo hi none n).2.1=((HT.sIx n n hi:Nat):Int)∧(sliceBounds lo hi none n).2.2=1:=by
 refine ⟨?_,?_,rfl⟩
 · cases lo with
   | none=>simp [sliceBounds,HT.sIx]
   | some i =>
     simp only [sliceBounds,HT.sIx,Option.getD_none,show (1:Int) > 0 by decide,if_true]
     by_cases h:i < 0
     · simp only [h,if_true]<;>omega
     · simp only [h,if_false]<;>omega
 · cases hi with
   | none=>simp [sliceBounds,HT.sIx]
   | some i =>
     simp only [sliceBounds,HT.sIx,Option.getD_none,show (1:Int) > 0 by decide,if_true]
     by_cases h:i < 0
     · simp only [h,if_true]<;>omega
     · simp only [h,if_false]<;>omega
theorem Zci (its:List Value)(lo hi:Option Int):slicePick its.toArray lo hi none=((its.drop (HT.sIx its.length 0 lo)).take (HT.sIx its.length its.length hi - HT.sIx its.length 0 lo)).toArray:=by
 obtain ⟨h1,h2,h3⟩:=ZcU lo hi its.toArray.size
 unfold slicePick
 rw [h1,h2,h3]
 simp only [sliceRange_one,pick_run,List.size_toArray]<;>rfl
def rSlL (K:PySem.W.Frag):V→Option Int→Option Int→Hp→VK→Prop:=fun x lo hi H Q=>∃ a xs,x=.ref a∧SqL K H a xs∧∀ p,H p=none→Q (.ref p) (upd H p (.lst (Xy xs lo hi)))
theorem Zbj:SlR X (rSlL X.K):=by
 intro pins s σ H x v vl vu lo hi sl Q I rx hs pl pu h
 obtain ⟨a,xs,rfl,hx,q⟩:=h
 cases rx
 obtain ⟨its,r,ht,hz⟩:=I.list hx
 have hlen:=r.length
 refine ⟨"list",_,slot_list_getitem.lookup,ht.isList.typeIs,?_⟩
 refine wpAny_getItem_list_slice ht.isList hs pl pu .none (by simp) ?_ (by rw [List.size_toArray]<;>omega)
 rw [Zci,← hlen]
 refine ⟨.ref s.heap.objs.size,_,I.laid (t':=s.toks) (o:=.lst (Xy xs lo hi)) (fun b ob q=>Heap.get?_push_of_some _ q) (Nat.le_refl _) ?_,rfl,q _ (I.hok.fresh (Nat.le_refl _))⟩
 exact ⟨Nat.le_trans (Zac xs lo hi) hz,_,0,(r.drop (HT.sIx xs.length 0 lo)).take (HT.sIx xs.length xs.length hi - HT.sIx xs.length 0 lo),Heap.get?_push_size _ rfl⟩
def XX:V→Bool
 | .non=>true
 | .bl _=>true
 | .int _=>true
 | .str _=>true
 | _=>false
def Wv:V→V→Bool
 | .non,.non=>true
 | .bl a,.bl b=>a == b
 | .bl a,.int b=>(if a then 1 else 0) == b
 | .int a,.bl b=>a == (if b then 1 else 0)
 | .int a,.int b=>a == b
 | .str a,.str b=>a == b
 | _,_=>false
theorem Zlx {A:Around}{s:Shared}{y x:V}{u v:Value}(ry:RelV y u)(rx:RelV x v)(fy:XX y=true)(fx:XX x=true):SeqAt.EqAt A s u v (Wv y x):=by
 cases y with
 | non =>
   cases ry
   cases x with
   | non=>cases rx;exact SeqAt.EqAt.same _
   | bl b=>cases rx;exact SeqAt.EqAt.none_bool b
   | int b=>obtain ⟨t,rfl⟩:=rx;exact SeqAt.EqAt.none_int b t
   | str b=>obtain ⟨t,rfl⟩:=rx;exact SeqAt.EqAt.none_str b t
   | _=>exact absurd (show false=true from fx) Bool.false_ne_true
 | bl a =>
   cases ry
   cases x with
   | non=>cases rx;exact SeqAt.EqAt.bool_none a
   | bl b=>cases rx;exact SeqAt.EqAt.bool_bool a b
   | int b=>obtain ⟨t,rfl⟩:=rx;exact SeqAt.EqAt.bool_int a b t
   | str b=>obtain ⟨t,rfl⟩:=rx;exact SeqAt.EqAt.bool_str a b t
   | _=>exact absurd (show false=true from fx) Bool.false_ne_true
 | int a =>
   obtain ⟨t',rfl⟩:=ry
   cases x with
   | non=>cases rx;exact SeqAt.EqAt.int_none a t'
   | bl b=>cases rx;exact SeqAt.EqAt.int_bool a t' b
   | int b=>obtain ⟨t,rfl⟩:=rx;exact SeqAt.EqAt.int_int a t' b t
   | str b=>obtain ⟨t,rfl⟩:=rx;exact SeqAt.EqAt.int_str a t' b t
   | _=>exact absurd (show false=true from fx) Bool.false_ne_true
 | str a =>
   obtain ⟨t',rfl⟩:=ry
   cases x with
   | non=>cases rx;exact SeqAt.EqAt.str_none a t'
   | bl b=>cases rx;exact SeqAt.EqAt.str_bool a t' b
   | int b=>obtain ⟨t,rfl⟩:=rx;exact SeqAt.EqAt.str_int a t' b t
   | str b=>obtain ⟨t,rfl⟩:=rx;exact SeqAt.EqAt.str_str a t' b t
   | _=>exact absurd (show false=true from fx) Bool.false_ne_true
 | _=>exact absurd (show false=true from fy) Bool.false_ne_true
def Wu (x:V)(u:Value):Bool:=match u with
 | .none=>Wv .non x
 | .bool b=>Wv (.bl b) x
 | .int i _=>Wv (.int i) x
 | .str z _=>Wv (.str z) x
 | _=>false
theorem ZcO {x y:V}{u:Value}(r:RelV y u)(f:XX y=true):Wu x u=Wv y x:=by
 cases y with
 | non=>cases r;rfl
 | bl b=>cases r;rfl
 | int i=>obtain ⟨t,rfl⟩:=r;rfl
 | str z=>obtain ⟨t,rfl⟩:=r;rfl
 | _=>exact absurd (show false=true from f) Bool.false_ne_true
theorem UM {x:V}:∀{xs:List V}{us:List Value},Vals xs us→xs.all XX=true→us.any (Wu x)=xs.any fun y=>Wv y x
 | _,_,.nil,_=>rfl
 | y::xs,u::us,.cons r t,f=>by
   rw [List.all_cons,Bool.and_eq_true] at f
   rw [List.any_cons,List.any_cons,ZcO r f.1,UM t f.2]
theorem WJ {A:Around}{s:Shared}{x:V}{v:Value}(rx:RelV x v)(fx:XX x=true):∀{xs:List V}{us:List Value},Vals xs us→xs.all XX=true→∀ u∈us,SeqAt.EqAt A s u v (Wu x u)
 | _,_,.nil,_=>fun u hu=>by cases hu
 | y::xs,u::us,.cons r t,f=>fun u' hu=>by
   rw [List.all_cons,Bool.and_eq_true] at f
   rcases List.mem_cons.mp hu with rfl | hu
   · rw [ZcO r f.1];exact Zlx r rx f.1 fx
   · exact WJ rx fx t f.2 u' hu
def Xd (x:V)(xs:List V):Bool:=xs.any fun y=>Wv y x
def rIn (K:PySem.W.Frag)(neg:Bool):R2:=fun x y H Q=>∃ p xs,y=.ref p∧(SqL K H p xs∨SqT K H p xs)∧XX x=true∧xs.all XX=true∧Q (.bl (if neg then !Xd x xs else Xd x xs)) H
theorem WT:YR X (compareOp .In) (rIn X.K false):=by
 intro pins s σ H x y v u Q I rx ry h
 obtain ⟨p,xs,rfl,hq,fx,fs,q⟩:=h
 cases ry
 rcases hq with hq | hq
 · obtain ⟨its,r,pl,hz⟩:=I.list hq
   refine SeqAt.in_listAt (Wu x) pl.isList (fun w hw=>WJ rx fx r fs w (by simpa using hw)) ⟨.bl _,H,I,rfl,?_⟩
   rw [show its.toArray.any (Wu x)=its.any (Wu x) by simp,UM r fs]
   exact q
 · obtain ⟨its,r,pl,hz⟩:=I.tuple hq
   refine SeqAt.in_tupleAt (Wu x) pl (fun w hw=>WJ rx fx r fs w (by simpa using hw)) ⟨.bl _,H,I,rfl,?_⟩
   rw [show its.toArray.any (Wu x)=its.any (Wu x) by simp,UM r fs]
   exact q
theorem VE:YR X (compareOp .NotIn) (rIn X.K true):=by
 intro pins s σ H x y v u Q I rx ry h
 obtain ⟨p,xs,rfl,hq,fx,fs,q⟩:=h
 cases ry
 rcases hq with hq | hq
 · obtain ⟨its,r,pl,hz⟩:=I.list hq
   refine SeqAt.notIn_listAt (Wu x) pl.isList (fun w hw=>WJ rx fx r fs w (by simpa using hw)) ⟨.bl _,H,I,rfl,?_⟩
   rw [show its.toArray.any (Wu x)=its.any (Wu x) by simp,UM r fs]
   exact q
 · obtain ⟨its,r,pl,hz⟩:=I.tuple hq
   refine SeqAt.notIn_tupleAt (Wu x) pl (fun w hw=>WJ rx fx r fs w (by simpa using hw)) ⟨.bl _,H,I,rfl,?_⟩
   rw [show its.toArray.any (Wu x)=its.any (Wu x) by simp,UM r fs]
   exact q
theorem Yy:YQ X (.builtin "len") (fun xs H Q=>∃ p ys,xs=[.ref p]∧(SqL X.K H p ys∨SqT X.K H p ys)∧Q (.int ys.length) H):=by
 intro pins s σ H xs us Q I r h
 obtain ⟨p,ys,rfl,hq,q⟩:=h
 obtain ⟨u,rfl,rx⟩:=YN r
 cases rx
 have hn:=WN
 rcases hq with hq | hq
 · obtain ⟨its,r',pl,hz⟩:=I.list hq
   have hlen:=r'.length
   exact Calls.call_len_list pl.isList (by simp only [List.size_toArray]<;>omega) ⟨.int ys.length,H,I.tok _,⟨s.toks+1,by rw [List.size_toArray,hlen]⟩,q⟩
 · obtain ⟨its,r',pl,hz⟩:=I.tuple hq
   have hlen:=r'.length
   exact len_tuple pl (by simp only [List.size_toArray]<;>omega) ⟨.int ys.length,H,I.tok _,⟨s.toks+1,by rw [List.size_toArray,hlen]⟩,q⟩
theorem ZN:YQ X (.builtin "len") (fun xs H Q=>∃ z,xs=[.str z]∧z.length≤sizeLine∧Q (.int z.length) H):=by
 intro pins s σ H xs us Q I r h
 obtain ⟨z,rfl,hz,q⟩:=h
 obtain ⟨u,rfl,t,rfl⟩:=YN r
 have hn:=WN
 exact len_str (by omega) ⟨.int z.length,H,I.tok _,⟨_,rfl⟩,q⟩
theorem WY:YQ X (.type "tuple") (fun xs H Q=>∃ p ys,xs=[.ref p]∧((SqL X.K H p ys∧∀ l,H l=none→Q (.ref l) (upd H l (.tup ys)))∨(SqT X.K H p ys∧Q (.ref p) H))):=by
 intro pins s σ H xs us Q I r h
 obtain ⟨p,ys,rfl,h⟩:=h
 obtain ⟨u,rfl,rx⟩:=YN r
 cases rx
 rcases h with ⟨hq,q⟩ | ⟨hq,q⟩
 · obtain ⟨its,r',pl,hz⟩:=I.list hq
   have hlen:=r'.length
   refine call_tuple_list pl.isList (fun h' kp=>?_) (by simp only [List.size_toArray]<;>omega)
   have I1:Inv X pins σ H { s with heap:=h' }:=I.kept (t':=s.toks) kp
   have I2:Inv X pins σ (upd H h'.objs.size (.tup ys)) { s with heap:=h'.push { cls:=.type "tuple",data:=.seq its.toArray } } :=
     I1.laid (t':=s.toks) (fun b o e=>Heap.get?_push_of_some _ e) (Nat.le_refl _) (show ObjOk X.prog X.w _ _ _ (.tup ys) from ⟨hz,its,r',IsTup.new _ _⟩)
   exact ⟨.ref h'.objs.size,_,I2,rfl,q _ (I1.hok.fresh (Nat.le_refl _))⟩
 · obtain ⟨its,r',pl,hz⟩:=I.tuple hq
   exact call_tuple_same pl ⟨.ref p,H,I,rfl,q⟩
def tyV (K:PySem.W.Frag)(T:String)(x:V)(H:Hp):Prop:=match x with
 | .str _=>T="str"
 | .int _=>T="int"
 | .ref p=>(T="list"∧∃ xs,SqL K H p xs)∨(T="tuple"∧∃ o,K.lookup p=some o∧o.cls=.type "tuple"∧o.dict=none) ∨
     (T="dict"∧((∃ kvs,H p=some (.dK kvs))∨∃ kvs,H p=some (.dT kvs)))∨(T="set"∧∃ S n,H p=some (.set S n))
 | _=>False
theorem Zhg {pins:List (Addr×Obj)}{σ:St}{H:Hp}{s:Shared}{T:String}{x:V}{v:Value}(I:Inv X pins σ H s)(r:RelV x v)(ty:tyV X.K T x H) :
   s.TypeIs v T∧∀ a,v=.ref a→∃ ob,s.heap.get? a=some ob∧ob.dict=none:=by
 cases x with
 | str z =>
   obtain ⟨t,rfl⟩:=r
   cases (show T="str" from ty)
   exact ⟨typeIs_str s z t,fun _ e=>nomatch e⟩
 | int i =>
   obtain ⟨t,rfl⟩:=r
   cases (show T="int" from ty)
   exact ⟨typeIs_int s i t,fun _ e=>nomatch e⟩
 | ref p =>
   cases r
   rcases ty with ⟨rfl,xs,hq⟩ | ⟨rfl,o,hk,hc,hd⟩ | ⟨rfl,hk⟩ | ⟨rfl,S,n,hk⟩
   · obtain ⟨its,_,pl,_⟩:=I.list hq
     refine ⟨pl.isList.typeIs,fun a e=>?_⟩
     cases e
     obtain ⟨o,n,e,c,hd,_⟩:=pl
     exact ⟨o,e,hd⟩
   · refine ⟨⟨o,I.kIn p o hk,hc⟩,fun a e=>?_⟩
     cases e
     exact ⟨o,I.kIn _ o hk,hd⟩
   · have z:∃ o,s.heap.get? p=some o∧o.ExactDict:=by
       rcases hk with ⟨kvs,hk⟩ | ⟨kvs,hk⟩
       · obtain ⟨_,_,_,_,o,_,_,e,ex,_⟩:=I.hok p _ hk
         exact ⟨o,e,ex⟩
       · obtain ⟨_,_,_,_,o,_,_,e,ex,_⟩:=I.hok p _ hk
         exact ⟨o,e,ex⟩
     obtain ⟨o,e,ex⟩:=z
     refine ⟨⟨o,e,ex.1⟩,fun a e2=>?_⟩
     cases e2
     exact ⟨o,e,ex.2.1⟩
   · obtain ⟨o,_,_,_,e,ex,_⟩:=I.hok p _ hk
     refine ⟨⟨o,e,ex.1⟩,fun a e2=>?_⟩
     cases e2
     exact ⟨o,e,ex.2.1⟩
 | _=>exact False.elim ty
def tBM (K:PySem.W.Frag)(T:String)(r:V→List V→Hp→VK→Prop)(to:TE)(t:TA):TE:=fun σ H Q=>to σ H fun x H1=>tyV K T x H1∧t σ H1 fun xs H2=>r x xs H2 Q
variable {o e:Expr}{es:List Expr}{to:TE}{t:TA}{name:Str}{apos cpos:Pos}{T id:String}{r:V→List V→Hp→VK→Prop}
theorem YH (pa:PlainAttrs T)(slot:Slot T name id)(hty:typeOf (.builtin id)=pure (.type "method_descriptor"))(hm:MtR X id r)(ho:PE X o to)(ha:PA X (e::es) t)
   (hbase:attributeBase o name X.env (eval o X.env)=eval o X.env:=by rfl)
   (hfew:((backTo cpos (starEach (e::es) X.env)).all (fun x=>!x.1)&&(backToKw cpos (keywordEach [] X.env)).all (fun x=>x.1.isSome)
     && decide ((e::es).length+([]:List Keyword).length+(if ([]:List Keyword).isEmpty then 0 else 1) < 30))=true:=by rfl)
   (hline:(apos.endLine == cpos.line)=true:=by rfl) (hs:starEach (e::es) X.env=(false,eval e X.env)::starEach es X.env:=by rfl) (hplain:(backTo cpos (starEach es X.env)).any (·.1)=false:=by rfl) :
   PE X (.Call (.Attribute o name apos) (e::es) [] cpos) (tBM X.K T r to t):=by
 intro pins s σ H Q I h
 refine wpAny_Call_method_late hbase hfew hline rfl (Zp (ho pins s σ H _ I h) fun v s1 ⟨x,H1,I1,r1,ty,q1⟩=>?_)
 obtain ⟨h1,h2⟩:=Zhg I1 r1 ty
 refine ⟨T,id,pa,slot,hty,h1,h2,?_⟩
 have hA:=ha cpos pins s1 σ H1 _ I1 q1
 rw [hs] at hA ⊢
 refine Calls.callWith_builtin (by show (false || (backTo cpos (starEach es X.env)).any (·.1))=false;rw [hplain]<;>rfl) (Calls.evalArgs_plain ?_)
 exact Zp hA fun us s2 ⟨vs,H2,I2,r2,q2⟩=>hm pins s2 σ H2 x vs v us Q I2 r1 r2 q2
end
end L2
namespace L2
open PySem PySem.Spec PyProof.Rows
def MtM (X:Cx)(id:String)(r:V→List V→Hp→VK→Prop):Prop :=
 ∀ (pins:List (Addr×Obj)) (s:Shared) (σ:St) (H:Hp) (x:V) (xs:List V) (v:Value) (us:List Value) (Q:VK),Inv X pins σ H s→RelV x v→Vals xs us→r x xs H Q →
   wpAny (model X.prog X.w) X.A (call (.builtin id) (v::us)) (EP X pins σ Q) X.xe s
theorem Vals.one:∀{x:V}{us:List Value},Vals [x] us→∃ u,us=[u]∧RelV x u
 | _,_,.cons r .nil=>⟨_,rfl,r⟩
theorem Vals.reverse {xs:List V}{us:List Value}(h:Vals xs us):Vals xs.reverse us.reverse:=by
 induction h with
 | nil=>exact .nil
 | cons r t ih=>rw [List.reverse_cons,List.reverse_cons];exact Vals.append ih (.cons r .nil)
section
variable {X:Cx}{pins:List (Addr×Obj)}{σ:St}{H:Hp}{s:Shared}{l b:Addr}{xs ys zs:List V}
theorem Inv.lset {its its':List Value}{n:Nat}{f:Array Value→Array Value}{t':Nat}(I:Inv X pins σ H s)(hH:H l=some (.lst xs))
   (e:s.heap.get? l=some { cls:=.type "list",data:=.seq its.toArray n }) (hf:f its.toArray=its'.toArray) (hv:Vals ys its') (hz:ys.length≤sizeLine) :
   Inv X pins σ (upd H l (.lst ys)) { s with heap:=s.heap.update l (Obj.mapSeq f),toks:=t' }:=by
 have q:=PySem.IsL.update e f
 rw [hf] at q
 refine I.write (x:=l) (e:=l) (by rw [hH];exact trivial) (.inl rfl) (fun b' u hb hu=>(Heap.get?_update_other s.heap (Obj.mapSeq f) (Ne.symm hb)).trans hu) ⟨_,q⟩ ?_
 exact ⟨hz,its',_,hv,q⟩
theorem Inv.lnew {its:List Value}{t':Nat}(I:Inv X pins σ H s)(hv:Vals ys its)(hz:ys.length≤sizeLine) :
   Inv X pins σ (upd H s.heap.objs.size (.lst ys)) { s with heap:=s.heap.push { cls:=.type "list",data:=.seq its.toArray },toks:=t' } :=
 I.laid (fun _ _ q=>Heap.get?_push_of_some _ q) (Nat.le_refl _) ⟨hz,its,0,hv,Heap.get?_push_size _ rfl⟩
theorem Inv.fresh (I:Inv X pins σ H s):H s.heap.objs.size=none:=I.hok.fresh (Nat.le_refl _)
theorem Inv.lstM (I:Inv X pins σ H s)(hH:H l=some (.lst xs)):xs.length≤sizeLine∧∃ (its:List Value) (n:Nat),Vals xs its∧xs.length=its.length∧s.heap.get? l=some { cls:=.type "list",data:=.seq its.toArray n }:=by
 obtain ⟨z,its,n,r,e⟩:=I.hok l _ hH
 exact ⟨z,its,n,r,r.length,e⟩
theorem Zik {n:Nat}(h:n≤sizeLine):Builtin.List.listTooLong n=false:=by
 unfold Builtin.List.listTooLong
 exact decide_eq_false (by omega)
end
section
variable {X:Cx}
def ZjO:V→List V→Hp→VK→Prop:=fun x vs H Q=>∃ l xs y,x=.ref l∧vs=[y]∧H l=some (.lst xs)∧xs.length < sizeLine∧Q .non (upd H l (.lst (xs++[y])))
theorem YX:MtM X "list.append" ZjO:=by
 intro pins s σ H x vs v us Q I rx rv h
 obtain ⟨l,xs,y,rfl,rfl,hH,hz,q⟩:=h
 cases rx
 obtain ⟨u,rfl,ru⟩:=rv.one
 obtain ⟨z,its,n,r,hl,e⟩:=I.lstM hH
 refine call_meets F.slot_list_append ⟨_,e,rfl⟩ F.entry_list_append (F.args_list_append_2 _ _) (PySem.list_append l its.toArray n u (by rw [List.size_toArray];omega)) ⟨e,?_⟩
 refine ⟨.non,_,I.lset (its':=its++[u]) hH e (by simp) (r.append (.cons ru .nil)) ?_,rfl,q⟩
 rw [List.length_append,List.length_singleton]
 omega
def Zkc:V→List V→Hp→VK→Prop:=fun x vs H Q=>∃ l b xs zs,x=.ref l∧vs=[.ref b]∧H l=some (.lst xs)∧H b=some (.lst zs)∧xs.length+zs.length≤sizeLine∧Q .non (upd H l (.lst (xs++zs)))
theorem Zgd:MtM X "list.extend" Zkc:=by
 intro pins s σ H x vs v us Q I rx rv h
 obtain ⟨l,b,xs,zs,rfl,rfl,hH,hB,hz,q⟩:=h
 cases rx
 obtain ⟨u,rfl,ru⟩:=rv.one
 cases ru
 obtain ⟨z,its,n,r,hl,e⟩:=I.lstM hH
 obtain ⟨z2,its2,n2,r2,hl2,e2⟩:=I.lstM hB
 have hsz:its.toArray.size+its2.toArray.size≤sizeLine:=by rw [List.size_toArray,List.size_toArray];omega
 have hlong:¬ (!its.toArray.isEmpty&&Builtin.List.listTooLong (its.toArray.size+its2.toArray.size))=true:=by
   rw [Zik hsz,Bool.and_false]
   exact Bool.false_ne_true
 refine call_meets F.slot_list_extend ⟨_,e,rfl⟩ F.entry_list_extend (F.args_list_extend_2 _ _)
   (AutoSeq1.list_extend_list_list_0 l its.toArray n b its2.toArray n2 hlong (by rw [List.size_toArray];omega) (by omega)) ⟨e,e2,?_⟩
 refine ⟨.non,_,I.lset (its':=its++its2) hH e (by simp) (r.append r2) ?_,rfl,q⟩
 rw [List.length_append]
 omega
def rCat:R2:=fun x y H Q=>∃ l b xs zs,x=.ref l∧y=.ref b∧H l=some (.lst xs)∧H b=some (.lst zs)∧xs.length+zs.length≤sizeLine∧∀ p,H p=none→Q (.ref p) (upd H p (.lst (xs++zs)))
theorem UR:YR X (binaryOp .Add) rCat:=by
 intro pins s σ H x y v u Q I rx ry h
 obtain ⟨l,b,xs,zs,rfl,rfl,hH,hB,hz,q⟩:=h
 cases rx
 cases ry
 obtain ⟨z,its,n,r,hl,e⟩:=I.lstM hH
 obtain ⟨z2,its2,n2,r2,hl2,e2⟩:=I.lstM hB
 refine PySem.P.add_list e e2 ?_ (by rw [List.size_toArray,List.size_toArray];omega)
 have ea:its.toArray++its2.toArray=(its++its2).toArray:=by simp
 rw [ea]
 exact ⟨.ref _,_,I.lnew (t':=s.toks) (r.append r2) (by rw [List.length_append];omega),rfl,q _ I.fresh⟩
end
section
variable {prog:Program}{w:World}{A:Around}{E:Value→Shared→Prop}{s:Shared}
end
section
variable {X:Cx}
end
end L2
namespace Att
open PySem PySem.W PySem.Calls PyProof.Rows
theorem Zaz {P:Params}{h:Heap}:∀(ns:List Int)(vs:List Value),WellAll P h vs (ns.map WData.int)→IntsAre vs ns:=by
 intro ns
 induction ns with
 | nil =>
   intro vs w
   rw [List.map_nil] at w
   cases w
   exact .nil
 | cons n ns ih =>
   intro vs w
   rw [List.map_cons] at w
   cases w with
   | cons a b =>
     cases a
     exact .cons _ _ (ih _ b)
theorem ZfZ {l:OpenLaw}{n:Nat}(hn:l.most=some n){P:Params}{h:Heap}{args:List WData}{vals:List Value}
   (hpre:l.row.toRowW.claim.pre args=true) (hwl:WellAll P h vals args) :
   ∃ a vs ns,vals=[Value.ref a]∧args=[WData.list (ns.map WData.int)]∧h.get? a=some { cls:=.type "list",data:=.seq vs.toArray }∧IntsAre vs ns∧ns.length≤n:=by
 have hsh:WShape.hasAll [] args [.list .int]=true:=(pre_splitW hpre).1
 have hc:l.pre.holds [] { args:=args }=true:=(pre_splitW hpre).2
 obtain ⟨d,r,rfl,h1,h2⟩:=hasAllW_cons hsh
 obtain rfl:=hasAllW_nil h2
 obtain ⟨xs,rfl,h3⟩:=hasW_list h1
 obtain ⟨ns,rfl⟩:=items_int h3
 have hlen:ns.length≤n:=by
   unfold OpenLaw.pre at hc
   have h4:(WTm.not (.lt (.lit (.int (n:Int))) (.len (.arg 0)))).holds [] { args:=[.list (ns.map .int)] }=true:=by
     have h4:=(holds_andW hc).1
     rw [hn] at h4
     exact h4
   have h5:=condW_of h4 (w_not (w_lt w_lit (w_len_list (w_arg rfl))))
   rw [List.length_map] at h5
   refine Nat.le_of_not_lt fun q=>?_
   have q':(n:Int) < ((ns.length:Nat):Int):=by omega
   first
     | (rw [decide_eq_true q'] at h5;exact absurd h5 (by decide))
     | (simp at h5;omega)
 cases hwl with
 | cons w1 w2 =>
   cases w2
   cases w1 with
   | list ho hall=>exact ⟨_,_,ns,rfl,rfl,ho,Zaz ns _ hall,hlen⟩
theorem ZgY (l:OpenLaw)(args:List WData):l.row.toRowW.claim.post args (.bool true) args=true :=
 postW_of (r:=l.row.toRowW) (X:=(true == true))
   (show WShape.has [] (.bool true) .bool=true by first | rfl | decide | simp [WShape.has,WShape.arms,WShape.armsAll])
   (show (WTm.eq .res (.lit (.bool true))).value [] { args:=args,res:=some (.bool true),after:=args }=some (.bool (true == true)) from w_eq_bool (w_res rfl) w_lit) rfl
theorem attach_call {l:OpenLaw}{n:Nat}{q:Program}{loose:List Str}{XP:(Str→Option Value)→Heap→Prop}{YP:World→Heap→Prop}{d:DefRec}
   (hn:l.most=some n) (hdf:d.params.defaults=[])
   (call:∀ (w:World) (s₀ s₁:Shared) (mg mb:Str→Option Value) (fa:Addr) (o:Obj) (pm cd doc:Value) (a:Addr) (vs:List Value) (ns:List Int),
     Ground q loose [] XP w s₀ mg mb s₁.heap→YP w s₁.heap →
     s₁.heap.get? fa=some o→o.data=.func (docDef d.name d.params d.body d.scope pm cd doc)→s₁.heap.CodeRec cd d.name→mg d.name=some (.ref fa) →
     s₁.heap.get? a=some { cls:=.type "list",data:=.seq vs.toArray }→IntsAre vs ns→ns.length≤n→s₁.gens=#[] →
     codeAny (model l.prog w) callerA (.call (.ref fa) ⟨[.ref a],[]⟩) (fun r s'=>r=.ok (.ret (.bool true))∧OldK s₁.heap s'.heap∧s'.os=s₁.os∧AllBare s'.gens) s₁) :
   WalkO q loose XP YP l.row.toRowW d [] (fun f vs=>PySem.call f vs):=by
 intro w s₀ s₁ mg mb G Y fa o pm cd doc dV kV ho hd hcd hD hmg hg args vals as hpre hlay hrd hwl hlo
 obtain rfl:dV=.none:=Dflts.none hD hdf
 obtain rfl:kV=.none:=Dflts.noKw hD
 obtain ⟨a,vs,ns,rfl,rfl,hobj,hints,hlen⟩:=ZfZ hn hpre hwl
 refine enter_call (codeAny_mono (call w s₀ s₁ mg mb fa o pm cd doc a vs ns G Y ho (fd_plain hd) hcd hmg hobj hints hlen hg) fun r s' hq=>?_)
 obtain ⟨rfl,h2,h3,h4⟩:=hq
 exact ⟨.inl ⟨.bool true,.bool true,[],rfl,fun _=>rfl,.bool true,ZgY l _,fun _=>⟨List.Pairwise.nil,fun _ hm=>(nomatch hm)⟩⟩,h2,h3,h4⟩
section
variable {prog:Program}{w:World}{A:Around}{E:Value→Shared→Prop}{s:Shared}{K:Frag}
end
end Att
namespace L2
open PySem PySem.Spec PyProof.Rows
theorem Zce:∀{vs:List Value}{ns:List Int},IntsAre vs ns→Vals (ns.map V.int) vs
 | _,_,.nil=>.nil
 | _,_,.cons n t h=>.cons ⟨t,rfl⟩ (Zce h)
end L2
namespace L2
open PySem PySem.Spec PyProof.Rows
end L2
namespace L2
open PySem PySem.Spec PyProof.Rows
def ZjQ (s:Stmt)(j:Nat):Stmt:=match s with
 | .ClassDef _ _ _ body _ _ _ _ _ _ _=>body.getD j (.Pass ⟨0,0,0,0⟩)
 | _=>.Pass ⟨0,0,0,0⟩
def Zbm (s:Stmt):Arguments:=match s with
 | .FunctionDef _ a _ _ _ _ _ _ _ _=>a
 | _=>{ posonlyargs:=[],args:=[],vararg:=none,kwonlyargs:=[],kw_defaults:=[],kwarg:=none,defaults:=[] }
def WH (s:Stmt):List Stmt:=match s with
 | .FunctionDef _ _ b _ _ _ _ _ _ _=>b
 | _=>[]
def Zl (s:Stmt):Scope:=match s with
 | .FunctionDef _ _ _ _ _ _ sc _ _ _=>sc
 | _=>{ kind:=.function,names:=[],isGenerator:=false,isCoroutine:=false }
abbrev ZY:Uv:=fun _ _ _ _ _ _=>False
abbrev E0:XK:=fun _ _ _=>False
theorem Zmv {X:Cx}:Zdo ZY X E0:=fun _ _ _ _ _ _ _ h=>h.elim
structure Fun (K:PySem.W.Frag)(x qual:Str)(st:Stmt)(f:Addr)(fd:FuncData):Prop where
 ex:∃ (oc:Value) (od:Option Addr) (kV doc pm:Value) (an:Option Addr) (cdv ct:Value) (osl:Array (Option Value)),
   fd=PySem.W.fnOf x qual (Zbm st) (WH st) (Zl st) .none kV doc pm an cdv ct∧K.lookup f=some ⟨oc,od,.func fd,osl⟩∧PySem.W.codeIn K cdv qual=true
 kp:PySem.W.keepIn K (.ref f)=true
section
variable {P:Program}{w:World}{K:PySem.W.Frag}{mg:Str→Option Value}{base:Heap}
theorem Fun.ok {x qual:Str}{st:Stmt}{f:Addr}{fd:FuncData}{N ps:List Str}{k:Nat}{sp:Sp}(F:Fun K x qual st f fd)(S:Zz N ps (Zl st))(len:∀ vs H Q E,sp vs H Q E→vs.length=ps.length)
   (hbody:∀ (cdv:Value) (A:Around) (outer:List Env) (s:Shared) (H:Hp) (vs:List V) (Q:VK) (E:XK),Room k (A.deeper (envOfC qual (Zl st) s.heap.objs.size f cdv))→sp vs H Q E →
     ∃ t,PSs (WB ZY P w K mg base N qual (Zl st) f cdv A outer s H E).nox (WH st) t∧t { nx:=fun _ H'=>Q .non H',rt:=Q } (start N vs) H):FnOk P w K mg base ZY (k+1) f fd ps sp:=by
 obtain ⟨oc,od,kV,doc,pm,an,cdv,ct,osl,rfl,lk,hcd⟩:=F.ex
 refine Zjo lk hcd S len fun A outer s H vs Q E hr hsp=>?_
 obtain ⟨t,h,q⟩:=hbody cdv A outer s H vs Q E hr hsp
 exact ⟨t,h.nox,q⟩
theorem Fun.binds {x qual:Str}{st:Stmt}{f:Addr}{fd:FuncData}{ps:List Str}(F:Fun K x qual st f fd)
   (h:∀ (kV doc pm:Value) (an:Option Addr) (cdv ct:Value) (us:List Value),us.length=ps.length→bindArgs (PySem.W.fnOf x qual (Zbm st) (WH st) (Zl st) .none kV doc pm an cdv ct) ⟨us,[]⟩=pure (ps.zip us)):Binds K fd ps []:=by
 obtain ⟨oc,od,kV,doc,pm,an,cdv,ct,osl,rfl,lk,hcd⟩:=F.ex
 exact .all (h kV doc pm an cdv ct)
end
theorem Zfm {A:Around}{k:Nat}(hr:Room k A):A.units+1 < cLine:=Nat.lt_of_le_of_lt (Nat.add_le_add_left (by decide:1≤64) _) hr.units
theorem ZgO {n:Nat}(h:n≤1000):n < sizeLine:=Nat.lt_of_le_of_lt h (by decide)
section
variable {X:Cx}
theorem pv (i:Nat){x:Str}{pos:Pos}(hN:X.N[i]?=some x:=by rfl)(hv:Vis X.env.scope x:=by first | exact Or.inl rfl | exact Or.inr (Or.inl rfl) | exact Or.inr (Or.inr rfl))(hd:(x == ("__debug__":Str))=false:=by decide)
 (hcd:(x == ("__classdict__":Str))=false:=by decide):PE X (.Name x pos) (Vm i):=Zga hN hv hd hcd
end
theorem Zu {A B:Prop}(h:B):if false=true then A else B:=by
 rw [if_neg Bool.false_ne_true]
 exact h
theorem Zv {A B:Prop}(h:A):if true=true then A else B:=by
 rw [if_pos rfl]
 exact h
theorem ZbB {c A B:Prop}[Decidable c](h1:c→A)(h2:¬ c→B):if c then A else B:=by
 by_cases h:c
 · rw [if_pos h]
   exact h1 h
 · rw [if_neg h]
   exact h2 h
def Same (H H':Hp):Prop:=∀ b o,H b=some o→H' b=some o
theorem Same.refl (H:Hp):Same H H:=fun _ _ h=>h
theorem Same.trans {H H1 H2:Hp}(a:Same H H1)(b:Same H1 H2):Same H H2:=fun c o h=>b c o (a c o h)
end L2
namespace L2
open PySem PySem.Spec PyProof.Rows
section
variable {κ:Type}[DecidableEq κ]
def Yr (kvs:List (κ×V))(k:κ):Option V:=(kvs.find? fun kv=>decide (kv.1=k)).map (·.2)
def Wc (kvs:List (κ×V))(k:κ)(v:V):List (κ×V) :=
 if (kvs.any fun kv=>decide (kv.1=k))=true then kvs.map (fun kv=>if kv.1=k then (kv.1,v) else kv) else kvs++[(k,v)]
def XC (kvs:List (κ×V))(k:κ):List (κ×V):=kvs.filter fun kv=>decide (kv.1≠k)
theorem YJ {p:κ×V}{r:List (κ×V)}{k:κ}(e:p.1=k):Yr (p::r) k=some p.2:=by simp [Yr,List.find?_cons,e]
theorem YE {p:κ×V}{r:List (κ×V)}{k:κ}(e:¬ p.1=k):Yr (p::r) k=Yr r k:=by simp [Yr,List.find?_cons,e]
theorem Vp (k:κ):∀ kvs:List (κ×V),(kvs.any fun kv=>decide (kv.1=k))=(Yr kvs k).isSome
 | []=>rfl
 | p::r=>by
   rw [List.any_cons]
   by_cases e:p.1=k
   · simp only [YJ e,decide_eq_true e,Bool.true_or,Option.isSome_some]
   · rw [YE e,decide_eq_false e,Bool.false_or];exact Vp k r
theorem Zdq (k j:κ)(y:V):∀ kvs:List (κ×V),Yr (kvs.map fun kv=>if kv.1=k then (kv.1,y) else kv) j=(Yr kvs j).map fun x=>if j=k then y else x
 | []=>rfl
 | p :: r=>by
   have ih:=Zdq k j y r
   rw [List.map_cons]
   by_cases h:p.1=k
   · rw [if_pos h]
     by_cases e:p.1=j
     · rw [YJ (p:=(p.1,y)) e,YJ e,Option.map_some,if_pos (e.symm.trans h)]
     · rw [YE (p:=(p.1,y)) e,YE e,ih]
   · rw [if_neg h]
     by_cases e:p.1=j
     · rw [YJ (p:=p) e,YJ e,Option.map_some,if_neg (fun z=>h (e.trans z))]
     · rw [YE (p:=p) e,YE e,ih]
theorem Zcc (k j:κ)(y:V):∀ kvs:List (κ×V),Yr kvs k=none→Yr (kvs++[(k,y)]) j=if j=k then some y else Yr kvs j
 | [],_=>by
   by_cases e:k=j
   · rw [if_pos e.symm];exact YJ (p:=(k,y)) e
   · rw [if_neg (fun z=>e z.symm)];exact YE (p:=(k,y)) e
 | p::r,hn=>by
   rw [List.cons_append]
   have hk:¬ p.1=k:=fun z=>by rw [YJ z] at hn;cases hn
   rw [YE hk] at hn
   have ih:=Zcc k j y r hn
   by_cases e:p.1=j
   · rw [YJ e,YJ e,if_neg (fun z=>hk (e.trans z))]
   · rw [YE e,YE e,ih]
theorem ZiJ (kvs:List (κ×V))(k j:κ)(y:V):Yr (Wc kvs k y) j=if j=k then some y else Yr kvs j:=by
 unfold Wc
 by_cases a:(kvs.any fun kv=>decide (kv.1=k))=true
 · rw [if_pos a,Zdq]
   rw [Vp] at a
   by_cases e:j=k
   · obtain ⟨x,hx⟩:=Option.isSome_iff_exists.mp a
     rw [if_pos e,e,hx,Option.map_some,if_pos rfl]
   · rw [if_neg e]
     cases Yr kvs j with
     | none=>rfl
     | some x=>rw [Option.map_some,if_neg e]
 · rw [if_neg a]
   refine Zcc k j y kvs ?_
   rw [Vp] at a
   cases q:Yr kvs k with
   | none=>rfl
   | some x=>rw [q] at a;exact (a rfl).elim
theorem Zad (kvs:List (κ×V))(k:κ)(v:V):(Wc kvs k v).length≤kvs.length+1:=by
 unfold Wc
 split
 · rw [List.length_map];omega
 · rw [List.length_append,List.length_cons,List.length_nil];omega
theorem RelO.isSome_eq {o:Option V}{u:Option Value}(r:RelO o u):o.isSome=u.isSome:=by
 cases o with
 | none=>cases u with
   | none=>rfl
   | some _=>exact (show False from r).elim
 | some _=>cases u with
   | none=>exact (show False from r).elim
   | some _=>rfl
theorem RelO.getD {o:Option V}{u:Option Value}{d:V}{d':Value}(r:RelO o u)(rd:RelV d d'):RelV (o.getD d) (u.getD d'):=by
 cases o with
 | none=>cases u with
   | none=>exact rd
   | some _=>exact (show False from r).elim
 | some _=>cases u with
   | none=>exact (show False from r).elim
   | some _=>exact r
theorem KV.val {kvs:List (κ×V)}{vs:List (κ×Value)}(r:KV kvs vs)(k:κ):RelO (Yr kvs k) (valueAt vs k):=by
 unfold KV at r
 induction r with
 | nil=>exact True.intro
 | @cons p q ps qs h t ih =>
   obtain ⟨h1,h2⟩:=h
   by_cases e:p.1=k
   · have e':q.1=k:=h1.symm.trans e
     have b:valueAt (q::qs) k=some q.2:=by simp [valueAt,List.find?_cons,e']
     rw [YJ e,b];exact h2
   · have e':¬ q.1=k:=fun z=>e (h1.trans z)
     have b:valueAt (q::qs) k=valueAt qs k:=by simp [valueAt,List.find?_cons,e']
     rw [YE e,b];exact ih
theorem KV.any {kvs:List (κ×V)}{vs:List (κ×Value)}(r:KV kvs vs)(k:κ):(kvs.any fun kv=>decide (kv.1=k))=vs.any fun kv=>decide (kv.1=k):=by
 unfold KV at r
 induction r with
 | nil=>rfl
 | cons h t ih=>rw [List.any_cons,List.any_cons,ih,h.1]
theorem KV.repl {kvs:List (κ×V)}{vs:List (κ×Value)}(r:KV kvs vs)(k:κ){y:V}{u:Value}(ry:RelV y u) :
   KV (kvs.map fun kv=>if kv.1=k then (kv.1,y) else kv) (vs.map fun kv=>if kv.1=k then (kv.1,u) else kv):=by
 unfold KV at r ⊢
 induction r with
 | nil=>exact .nil
 | @cons p q ps qs h t ih =>
   rw [List.map_cons,List.map_cons]
   refine .cons ?_ ih
   obtain ⟨h1,h2⟩:=h
   by_cases e:p.1=k
   · rw [if_pos e,if_pos (h1.symm.trans e)];exact ⟨h1,ry⟩
   · rw [if_neg e,if_neg (fun z=>e (h1.trans z))];exact ⟨h1,h2⟩
theorem KV.put {kvs:List (κ×V)}{vs:List (κ×Value)}(r:KV kvs vs)(k:κ){y:V}{u:Value}(ry:RelV y u):KV (Wc kvs k y) (stored vs k u):=by
 unfold Wc stored
 rw [r.any k]
 by_cases e:(vs.any fun kv=>decide (kv.1=k))=true
 · rw [if_pos e,if_pos e];exact r.repl k ry
 · rw [if_neg e,if_neg e];exact Paired.snoc r ⟨rfl,ry⟩
theorem KV.drop {kvs:List (κ×V)}{vs:List (κ×Value)}(r:KV kvs vs)(k:κ):KV (XC kvs k) (without vs k):=by
 unfold KV at r ⊢
 unfold XC without
 induction r with
 | nil=>exact .nil
 | @cons p q ps qs h t ih =>
   obtain ⟨h1,h2⟩:=h
   rw [List.filter_cons,List.filter_cons]
   by_cases e:p.1=k
   · have a:¬ decide (p.1≠k)=true:=by simp [e]
     have b:¬ decide (q.1≠k)=true:=by simp [h1.symm.trans e]
     rw [if_neg a,if_neg b];exact ih
   · have e':¬ q.1=k:=fun z=>e (h1.trans z)
     have a:decide (p.1≠k)=true:=by simp [e]
     have b:decide (q.1≠k)=true:=by simp [e']
     rw [if_pos a,if_pos b];exact .cons ⟨h1,h2⟩ ih
theorem KV.length {kvs:List (κ×V)}{vs:List (κ×Value)}(r:KV kvs vs):kvs.length=vs.length:=Paired.length r
theorem ZhG (kvs:List (κ×V))(k:κ):(XC kvs k).length≤kvs.length:=List.length_filter_le _ _
end
theorem ZaY {P:Program}{w:World}{k:Yb}{u:Value}(r:RelV (kV k) u):(Yu P w).is k u=true:=by
 cases k with
 | inl i=>obtain ⟨t,e⟩:=(show ∃ t,u=Value.int i t from r);subst e;exact ZdH P w i t
 | inr x=>obtain ⟨t,e⟩:=(show ∃ t,u=Value.str x t from r);subst e;exact ZdC P w x t
theorem ZbE {P:Program}{w:World}:∀{ks:List Yb}{us:List Value},Vals (ks.map kV) us→ItemsAre (Yu P w) ks us
 | [],_,r=>by rw [List.map_nil] at r;cases r;exact .nil
 | k::ks,_,r=>by
   rw [List.map_cons] at r
   cases r with
   | cons h t=>exact .cons (ZaY h) (ZbE t)
abbrev KT (H:Hp):List (List Yb×V)→List (List Yb×Addr×Value)→Prop:=Paired fun p q=>p.1=q.1∧H q.2.1=some (.tup (p.1.map kV))∧RelV p.2 q.2.2
theorem KT.val {H:Hp}{kvs:List (List Yb×V)}{xs:List (List Yb×Addr×Value)}(r:KT H kvs xs)(k:List Yb):RelO (Yr kvs k) ((atKey xs k).map (·.2)):=by
 induction r with
 | nil=>exact True.intro
 | @cons p q ps qs h t ih =>
   obtain ⟨h1,_,h2⟩:=h
   by_cases e:p.1=k
   · have e':q.1=k:=h1.symm.trans e
     have b:atKey (q::qs) k=some q.2:=by simp [atKey,List.find?_cons,e']
     rw [YJ e,b];exact h2
   · have e':¬ q.1=k:=fun z=>e (h1.trans z)
     have b:atKey (q::qs) k=atKey qs k:=by simp [atKey,List.find?_cons,e']
     rw [YE e,b];exact ih
theorem KT.repl {H:Hp}{kvs:List (List Yb×V)}{xs:List (List Yb×Addr×Value)}(r:KT H kvs xs)(k:List Yb){y:V}{u:Value}(ry:RelV y u) :
   KT H (kvs.map fun kv=>if kv.1=k then (kv.1,y) else kv) (xs.map (putAt k u)):=by
 induction r with
 | nil=>exact .nil
 | @cons p q ps qs h t ih =>
   rw [List.map_cons,List.map_cons]
   refine .cons ?_ ih
   obtain ⟨h1,h2,h3⟩:=h
   unfold putAt
   by_cases e:p.1=k
   · rw [if_pos e,if_pos (h1.symm.trans e)];exact ⟨h1,h2,ry⟩
   · rw [if_neg e,if_neg (fun z=>e (h1.trans z))];exact ⟨h1,h2,h3⟩
theorem KT.put {H:Hp}{kvs:List (List Yb×V)}{xs:List (List Yb×Addr×Value)}(r:KT H kvs xs)(k:List Yb){b:Addr}{y:V}{u:Value}(hb:H b=some (.tup (k.map kV)))(ry:RelV y u) :
   KT H (Wc kvs k y) (storedH xs k b u):=by
 have e:(kvs.any fun kv=>decide (kv.1=k))=(atKey xs k).isSome:=by
   rw [Vp,(r.val k).isSome_eq,Option.isSome_map]
 unfold Wc storedH
 rw [e]
 by_cases q:(atKey xs k).isSome=true
 · rw [if_pos q,if_pos q];exact r.repl k ry
 · rw [if_neg q,if_neg q];exact Paired.snoc r ⟨rfl,hb,ry⟩
theorem KT.keeps {H H':Hp}{kvs:List (List Yb×V)}{xs:List (List Yb×Addr×Value)}(r:KT H kvs xs)(ht:∀ b ys,H b=some (.tup ys)→H' b=some (.tup ys)):KT H' kvs xs :=
 Paired.mapP r fun _ _ z=>⟨z.1,ht _ _ z.2.1,z.2.2⟩
section
variable {P:Program}{w:World}{H:Hp}{h:Heap}{a:Addr}
theorem Zjt {u:HO}(ok:HOk P w H h)(e:Rd H a u):ObjOk P w H h a u:=e.ok ok
theorem ZeI {kvs:List (Yb×V)}(ok:HOk P w H h)(e:Rd H a (.dK kvs)):kvs.length≤sizeLine∧(a == sysModules)=false∧∃ vs,KV kvs vs∧h.DictOf (Yu P w) a vs :=
 show ObjOk P w H h a (.dK kvs) from Zjt ok e
theorem Zfl {kvs:List (Yb×V)}(ok:HOk P w H h)(e:H a=some (.dK kvs)):kvs.length≤sizeLine∧(a == sysModules)=false∧∃ vs,KV kvs vs∧h.DictOf (Yu P w) a vs:=ZeI ok (.inl e)
theorem ZcN {ks:List Yb}(ok:HOk P w H h)(e:H a=some (.tup (ks.map kV))):(tupleKind (Yu P w)).is h ks a:=by
 obtain ⟨_,its,r,o,h1,h2,n,h3⟩:=(show ObjOk P w H h a (.tup (ks.map kV)) from ok a _ e)
 exact ⟨o,its.toArray,n,h1,h2,h3,by simpa using ZbE r⟩
theorem Zfh {kvs:List (List Yb×V)}(ok:HOk P w H h)(e:Rd H a (.dT kvs)):kvs.length≤sizeLine∧(a == sysModules)=false ∧
   ∃ xs,KT H kvs xs∧h.DictOfH (tupleKind (Yu P w)) a xs:=by
 obtain ⟨z,y,xs,r,o,es,ep,h1,h2,h3,h4,h5⟩:=(show ObjOk P w H h a (.dT kvs) from Zjt ok e)
 refine ⟨z,y,xs,r,o,es,ep,h1,h2,h3,h4,fun x hx=>?_,h5⟩
 have all:∀ {l:List (List Yb×V)} {m:List (List Yb×Addr×Value)},KT H l m→∀ x∈m,(tupleKind (Yu P w)).is h x.1 x.2.1:=by
   intro l m q
   induction q with
   | nil=>intro x hx;exact nomatch hx
   | @cons p q ps qs hq t ih =>
     intro x hx
     rcases List.mem_cons.mp hx with e | hx
     · subst e
       exact ZcN ok (by rw [← hq.1];exact hq.2.1)
     · exact ih x hx
 exact all r x hx
theorem ZmX {kvs:List (List Yb×V)}(ok:HOk P w H h)(e:H a=some (.dT kvs)):kvs.length≤sizeLine∧(a == sysModules)=false ∧
 ∃ xs,KT H kvs xs∧h.DictOfH (tupleKind (Yu P w)) a xs:=Zfh ok (.inl e)
end
def DGet (H:Hp)(a:Addr)(y:V)(r:Option V):Prop :=
 (∃ kvs k,Rd H a (.dK kvs)∧y=kV k∧r=Yr kvs k)∨∃ kvs k b,Rd H a (.dT kvs)∧y=.ref b∧H b=some (.tup (k.map kV))∧r=Yr kvs k
def DPut (H:Hp)(a:Addr)(y v:V)(H':Hp):Prop :=
 (∃ kvs k,H a=some (.dK kvs)∧y=kV k∧kvs.length < sizeLine∧H'=upd H a (.dK (Wc kvs k v))) ∨
 ∃ kvs k b,H a=some (.dT kvs)∧y=.ref b∧H b=some (.tup (k.map kV))∧kvs.length < sizeLine∧H'=upd H a (.dT (Wc kvs k v))
section
variable {X:Cx}{pins:List (Addr×Obj)}{σ:St}{H:Hp}{s:Shared}{a:Addr}{y v:V}{u r:Value}{o:Option V}{A:Around}{E:Value→Shared→Prop}
theorem Inv.big (I:Inv X pins σ H s):sysModules < s.heap.objs.size:=by
 have h:mainGlobals < s.heap.objs.size:=(I.mod.glob.keeps I.bk).lt
 exact Nat.lt_trans (by decide) h
theorem Zbl {h':Heap}{t':Nat}{ob:HO}(I:Inv X pins σ H s)(mu:Mut (H a))(hs:Heap.SameBut a s.heap h')(he:∃ q,h'.get? a=some q)(new:ObjOk X.prog X.w (upd H a ob) h' a ob) :
   Inv X pins σ (upd H a ob) { s with heap:=h',toks:=t' } :=
 I.write (x:=a) (e:=a) mu (.inl rfl) (fun b q hb z=>(hs.2 b hb).trans z) he new
theorem Zgs {P:Program}{w:World}{H':Hp}{h':Heap}{kvs:List (Yb×V)}{vs:List (Yb×Value)}(z:kvs.length≤sizeLine)(hd:(a == sysModules)=false)(rel:KV kvs vs)(dd:h'.DictOf (Yu P w) a vs) :
 ObjOk P w H' h' a (.dK kvs):=⟨z,hd,vs,rel,dd⟩
theorem ZfL {H':Hp}{Q:Unit→Shared→Prop}(hu:A.units+1 < cLine)(I:Inv X pins σ H s)(g:DPut H a y v H')(ry:RelV y u)(rv:RelV v r)(h:∀ s',Inv X pins σ H' s'→Q () s') :
   wpAny (model X.prog X.w) A (setItem (.ref a) u r) Q E s:=by
 rcases g with ⟨kvs,k,e,ey,l,eH⟩ | ⟨kvs,k,b,e,ey,eb,l,eH⟩
 · subst ey eH
   obtain ⟨z,hd,vs,rel,dd⟩:=Zfl I.hok e
   have hz:vs.length≤sizeLine:=by rw [← rel.length];exact z
   have hl:(Wc kvs k v).length≤sizeLine:=by have:=Zad kvs k v;omega
   refine wpAny_setItem_pairs (hsz:=hz) (ZaY ry) dd fun h' dd' hs=>h _ ?_
   have he:∃ q,h'.get? a=some q:=let ⟨q,_,_,hq,_⟩:=dd';⟨q,hq⟩
   exact Zbl I (by rw [e];exact True.intro) hs he (Zgs hl hd (rel.put k rv) dd')
 · subst ey eH
   cases (show u=Value.ref b from ry)
   obtain ⟨z,hd,xs,rel,dd⟩:=ZmX I.hok e
   have hz:xs.length≤sizeLine:=by rw [← Paired.length rel];exact z
   have hl:(Wc kvs k v).length≤sizeLine:=by have:=Zad kvs k v;omega
   refine wpAny_setItem_heap (hsz:=hz) (tupleKind_room_in1 hu) (ZcN I.hok eb) dd fun h' dd' hs=>h _ ?_
   obtain ⟨q,es,ep,hq,h2,h3,h4,_,h5⟩:=dd'
   refine Zbl I (by rw [e];exact True.intro) hs ⟨q,hq⟩ ⟨hl,hd,_,(rel.put k eb rv).keeps fun c ys ec=>?_,q,es,ep,hq,h2,h3,h4,h5⟩
   rw [Zm (Zjn ec e (fun z=>nomatch z))]
   exact ec
end
section
variable {X:Cx}{pins:List (Addr×Obj)}{σ:St}{H:Hp}{s:Shared}{a:Addr}{kvs:List (Yb×V)}{k:Yb}{u:Value}{A:Around}{E:Value→Shared→Prop}
theorem Zmz {v:V}{more:List Value}{Q:Value→Shared→Prop}(I:Inv X pins σ H s)(e:H a=some (.dK kvs))(ry:RelV (kV k) u)(l:Yr kvs k=some v)(hm:more=[]∨∃ x,more=[x])
   (h:∀ w' s',Inv X pins σ (upd H a (.dK (XC kvs k))) s'→RelV v w'→Q w' s'):wpAny (model X.prog X.w) A (call (.builtin "dict.pop") (.ref a::u::more)) Q E s:=by
 obtain ⟨z,hd,vs,rel,dd⟩:=Zfl I.hok e
 obtain ⟨w',hw,rw'⟩:=RelO.some_of (v:=v) (o:=valueAt vs k) (by rw [← l];exact rel.val k)
 have hp:(keyPart u).isSome=true:=by
   cases k with
   | inl i=>obtain ⟨t,q⟩:=(show ∃ t,u=Value.int i t from ry);subst q;rfl
   | inr x=>obtain ⟨t,q⟩:=(show ∃ t,u=Value.str x t from ry);subst q;rfl
 have ha:argsOk "dict.pop" ⟨.ref a::u::more,[]⟩:=by
   rcases hm with q | ⟨x,q⟩
   · subst q;exact PySem.F.args_dict_pop_2 _ _
   · subst q;exact PySem.F.args_dict_pop_3 _ _ _
 refine call_meetsIn PySem.F.slot_dict_pop dd.typeIs PySem.F.entry_dict_pop ha (meets_dict_pop_there (Yu X.prog X.w) a (ZaY ry) more hm hp)
   ⟨vs,w',dd,by rw [← rel.length];exact z,hw,fun h' dd' hs=>h w' _ ?_ rw'⟩
 have he:∃ q,h'.get? a=some q:=let ⟨q,_,_,hq,_⟩:=dd';⟨q,hq⟩
 exact Zbl I (by rw [e];exact True.intro) hs he (Zgs (Nat.le_trans (ZhG kvs k) z) hd (rel.drop k) dd')
theorem Zlr {r:Value}{Q:Value→Shared→Prop}(I:Inv X pins σ H s)(e:H a=some (.dK kvs))(ry:RelV (kV k) u)(l:Yr kvs k=none)(h:∀ s',Inv X pins σ H s'→Q r s') :
   wpAny (model X.prog X.w) A (call (.builtin "dict.pop") [.ref a,u,r]) Q E s:=by
 obtain ⟨z,hd,vs,rel,dd⟩:=Zfl I.hok e
 have hn:valueAt vs k=none:=RelO.none_of (by rw [← l];exact rel.val k)
 have hp:(keyPart u).isSome=true:=by
   cases k with
   | inl i=>obtain ⟨t,q⟩:=(show ∃ t,u=Value.int i t from ry);subst q;rfl
   | inr x=>obtain ⟨t,q⟩:=(show ∃ t,u=Value.str x t from ry);subst q;rfl
 exact call_meetsIn PySem.F.slot_dict_pop dd.typeIs PySem.F.entry_dict_pop (PySem.F.args_dict_pop_3 _ _ _) (meets_dict_pop_default (Yu X.prog X.w) a (ZaY ry) hd hp r) ⟨vs,dd,hn,h _ (I.tok _)⟩
end
def Znk (td ty tv:TE):TS:=fun D σ H=>tv σ H fun v H1=>td σ H1 fun x H2=>ty σ H2 fun y H3=>∃ a H4,x=.ref a∧DPut H3 a y v H4∧D.nx σ H4
section
variable {X:Cx}{o i e value:Expr}{pos pos' tpos:Pos}{td ty tv:TE}
theorem Zke (hu:X.A.units+1 < cLine)(ho:PE X o td)(hi:PE X i ty)(hv:PE X value tv)(hs:swapsWith value (some (.Subscript o i pos')) pos.line X.env=pure false) :
   PS X (.Assign [.Subscript o i pos'] value pos) (Znk td ty tv):=by
 intro pins s σ H D I h
 refine wpAny_Assign_Subscript (Zp (hv pins s σ H _ I h) fun r s1 ⟨v,H1,I1,rv,q1⟩=>Zp (ho pins s1 σ H1 _ I1 q1) fun u s2 ⟨x,H2,I2,rx,q2⟩=>Zp (hi pins s2 σ H2 _ I2 q2) fun iv s3 ⟨y,H3,I3,ry,a,H4,ex,g,q3⟩=>?_) hs
 subst ex
 obtain rfl:u=Value.ref a:=rx
 exact ZfL hu I3 g ry rv fun s4 I4=>⟨σ,H4,I4,q3⟩
end
theorem ZiF {P:Program}{w:World}{H:Hp}(h:Heap)(hb:sysModules < h.objs.size):ObjOk P w H (h.push { cls:=.type "dict",data:=.dict #[] }) h.objs.size (.dK []) :=
 ⟨Nat.zero_le _,beq_eq_false_iff_ne.mpr (Ne.symm (Nat.ne_of_lt hb)),[],.nil,Heap.DictOf.new h⟩
def ZlC:TE:=fun _ H Q=>∀ p,H p=none→Q (.ref p) (upd H p (.dK []))
section
variable {X:Cx}{pos:Pos}
theorem Zjc:PE X (.Dict [] [] pos) ZlC:=fun pins s σ H Q I h =>
 wpAny_Dict_empty ⟨.ref s.heap.objs.size,_,I.laid (a:=s.heap.objs.size) (o:=.dK []) (t':=s.toks) (fun _ _ q=>Heap.get?_push_of_some _ q) (Nat.le_refl _) (ZiF s.heap I.big),rfl,h _ (I.hok.fresh (Nat.le_refl _))⟩
end
structure M1 (X:Cx)(o:Expr)(m:Str)(apos:Pos)(e:Expr)(cpos:Pos):Prop where
 base:attributeBase o m X.env (eval o X.env)=eval o X.env
 few:((backTo cpos (starEach [e] X.env)).all (fun x=>!x.1)&&(backToKw cpos (keywordEach [] X.env)).all (fun x=>x.1.isSome)
   && decide (([e]:List Expr).length+([]:List Keyword).length+(if ([]:List Keyword).isEmpty then 0 else 1) < 30))=true
 line:(apos.endLine == cpos.line)=true
 trees:backTo cpos (starEach [e] X.env)=[(false,eval e X.env)]
structure M2 (X:Cx)(o:Expr)(m:Str)(apos:Pos)(e f:Expr)(cpos:Pos):Prop where
 base:attributeBase o m X.env (eval o X.env)=eval o X.env
 few:((backTo cpos (starEach [e,f] X.env)).all (fun x=>!x.1)&&(backToKw cpos (keywordEach [] X.env)).all (fun x=>x.1.isSome)
   && decide (([e,f]:List Expr).length+([]:List Keyword).length+(if ([]:List Keyword).isEmpty then 0 else 1) < 30))=true
 line:(apos.endLine == cpos.line)=true
 trees:backTo cpos (starEach [e,f] X.env)=[(false,eval e X.env),(false,eval f X.env)]
def IsD (H:Hp)(a:Addr):Prop:=(∃ kvs,Rd H a (.dK kvs))∨∃ kvs,Rd H a (.dT kvs)
theorem ZgR {X:Cx}{pins:List (Addr×Obj)}{σ:St}{H:Hp}{s:Shared}{a:Addr}(I:Inv X pins σ H s)(d:IsD H a) :
   s.TypeIs (.ref a) "dict"∧(∀ b,Value.ref a=.ref b→∃ ob,s.heap.get? b=some ob∧ob.dict=none)∧(a == sysModules)=false:=by
 rcases d with ⟨kvs,e⟩ | ⟨kvs,e⟩
 · obtain ⟨_,hd,vs,_,dd⟩:=ZeI I.hok e
   refine ⟨dd.typeIs,fun b q=>?_,hd⟩
   cases q
   obtain ⟨ob,_,_,h1,h2,_⟩:=dd
   exact ⟨ob,h1,h2.2.1⟩
 · obtain ⟨_,hd,xs,_,dd⟩:=Zfh I.hok e
   refine ⟨dd.typeIs,fun b q=>?_,hd⟩
   cases q
   obtain ⟨ob,_,_,h1,h2,_⟩:=dd
   exact ⟨ob,h1,h2.2.1⟩
section
variable {X:Cx}{pins:List (Addr×Obj)}{σ:St}{H:Hp}{s:Shared}{a:Addr}{y d:V}{u r:Value}{o:Option V}{A:Around}{E:Value→Shared→Prop}
theorem Zlg {Q:Value→Shared→Prop}(hu:A.units+1 < cLine)(I:Inv X pins σ H s)(g:DGet H a y o)(ry:RelV y u)(rd:RelV d r)(h:∀ w' s',Inv X pins σ H s'→RelV (o.getD d) w'→Q w' s') :
   wpAny (model X.prog X.w) A (call (.builtin "dict.get") [.ref a,u,r]) Q E s:=by
 rcases g with ⟨kvs,k,e,ey,l⟩ | ⟨kvs,k,b,e,ey,eb,l⟩
 · subst ey
   obtain ⟨z,hd,vs,rel,dd⟩:=ZeI I.hok e
   refine call_meetsIn PySem.F.slot_dict_get dd.typeIs PySem.F.entry_dict_get (PySem.F.args_dict_get_3 _ _ _) (meets_dict_get_default (Yu X.prog X.w) a (ZaY ry) hd r) ⟨_,dd.mapOf,h _ _ (I.tok _) ?_⟩
   rw [l]
   exact (rel.val k).getD rd
 · subst ey
   cases (show u=Value.ref b from ry)
   obtain ⟨z,hd,xs,rel,dd⟩:=Zfh I.hok e
   refine call_meetsIn PySem.F.slot_dict_get dd.typeIs PySem.F.entry_dict_get (PySem.F.args_dict_get_3 _ _ _) (meetsH_dict_get_default (tupleKind (Yu X.prog X.w)) a b hd r) ⟨tupleKind_room_in1 hu,k,xs,ZcN I.hok eb,dd,h _ _ (I.tok _) ?_⟩
   rw [l]
   exact (rel.val k).getD rd
end
def Zgr (td ty tx:TE):TE:=fun σ H Q=>td σ H fun x H1=>∃ a,x=.ref a∧IsD H1 a∧ty σ H1 fun y H2=>tx σ H2 fun z H3=>∃ o,DGet H3 a y o∧Q (o.getD z) H3
def Zhl (td ty tx:TE):TE:=fun σ H Q=>td σ H fun x H1=>∃ a,x=.ref a∧IsD H1 a∧ty σ H1 fun y H2=>tx σ H2 fun z H3=>∃ kvs k,H3 a=some (.dK kvs)∧y=kV k ∧
 (∀ v,Yr kvs k=some v→Q v (upd H3 a (.dK (XC kvs k))))∧(Yr kvs k=none→Q z H3)
section
variable {X:Cx}{o e f:Expr}{apos cpos:Pos}{td ty tx:TE}
theorem Zdh (hu:X.A.units+1 < cLine)(ho:PE X o td)(he:PE X e ty)(hf:PE X f tx)(m:M2 X o "get" apos e f cpos):PE X (.Call (.Attribute o "get" apos) [e,f] [] cpos) (Zgr td ty tx):=by
 intro pins s σ H Q I h
 refine wpAny_Call_method m.base m.few m.line PySem.F.plainAttrs_dict PySem.F.slot_dict_get PySem.F.type_dict_get (Zp (ho pins s σ H _ I h) fun u s1 ⟨x,H1,I1,rx,a,ex,d,q1⟩=>?_)
 subst ex
 obtain rfl:u=Value.ref a:=rx
 obtain ⟨t1,t2,_⟩:=ZgR I1 d
 refine ⟨t1,t2,?_⟩
 rw [m.trees]
 refine Calls.callWith_builtin rfl (Calls.evalArgs_plain (Calls.spliced_cons (Zp (he pins s1 σ H1 _ I1 q1) fun iv s2 ⟨y,H2,I2,ry,q2⟩ =>
   Calls.spliced_cons (Zp (hf pins s2 σ H2 _ I2 q2) fun fv s3 ⟨z,H3,I3,rz,ov,g,q3⟩=>Calls.spliced_nil ?_))))
 exact Zlg hu I3 g ry rz fun w' s4 I4 rw'=>⟨_,H3,I4,rw',q3⟩
theorem ZhW (ho:PE X o td)(he:PE X e ty)(hf:PE X f tx)(m:M2 X o "pop" apos e f cpos):PE X (.Call (.Attribute o "pop" apos) [e,f] [] cpos) (Zhl td ty tx):=by
 intro pins s σ H Q I h
 refine wpAny_Call_method m.base m.few m.line PySem.F.plainAttrs_dict PySem.F.slot_dict_pop PySem.F.type_dict_pop (Zp (ho pins s σ H _ I h) fun u s1 ⟨x,H1,I1,rx,a,ex,d,q1⟩=>?_)
 subst ex
 obtain rfl:u=Value.ref a:=rx
 obtain ⟨t1,t2,_⟩:=ZgR I1 d
 refine ⟨t1,t2,?_⟩
 rw [m.trees]
 refine Calls.callWith_builtin rfl (Calls.evalArgs_plain (Calls.spliced_cons (Zp (he pins s1 σ H1 _ I1 q1) fun iv s2 ⟨y,H2,I2,ry,q2⟩ =>
   Calls.spliced_cons (Zp (hf pins s2 σ H2 _ I2 q2) fun fv s3 ⟨z,H3,I3,rz,kvs,k,ea,ey,q3,q4⟩=>Calls.spliced_nil ?_))))
 subst ey
 cases l:Yr kvs k with
 | some v=>exact Zmz I3 ea ry l (.inr ⟨fv,rfl⟩) fun w' s4 I4 rw'=>⟨v,_,I4,rw',q3 v l⟩
 | none=>exact Zlr I3 ea ry l fun s4 I4=>⟨z,H3,I4,rz,q4 l⟩
end
section
variable {X:Cx}{pins:List (Addr×Obj)}{σ:St}{H:Hp}{s:Shared}{a:Addr}{kvs:List (Yb×V)}{A:Around}{E:Value→Shared→Prop}
end
section
variable {X:Cx}{pins:List (Addr×Obj)}{σ:St}{H:Hp}{s:Shared}{a:Addr}{y:V}{u:Value}{A:Around}{E:Value→Shared→Prop}
end
end L2
namespace L2
open PySem PySem.Spec PyProof.Rows
section
variable {κ:Type}[DecidableEq κ]
end
end L2
namespace L2
open PySem PySem.Spec PyProof.Rows
theorem VB {env:Env}(y:Str):∀ names:List (Str×NameKind),
   (names.map fun (n,k)=>if (k == NameKind.free&&env.scope.kind == .function&&env.kindOf n == some .cell) then (n,NameKind.cell) else (n,k)).lookup y =
     (names.lookup y).map fun k=>if (k == NameKind.free&&env.scope.kind == .function&&env.kindOf y == some .cell) then NameKind.cell else k
 | []=>rfl
 | (n, k)::r=>by
   have ih:=VB (env:=env) y r
   rw [List.map_cons]
   cases hx:y == n with
   | true =>
     have e:y=n:=by simpa using hx
     subst e
     by_cases hc:(k == NameKind.free&&env.scope.kind == .function&&env.kindOf y == some .cell)=true
     · simp only [hc,if_true,List.lookup_cons,beq_self_eq_true,Option.map_some]
     · simp only [hc,List.lookup_cons,beq_self_eq_true,Option.map_some]
       simp [hc]
   | false =>
     by_cases hc:(k == NameKind.free&&env.scope.kind == .function&&env.kindOf n == some .cell)=true
     · simp only [hc,if_true,List.lookup_cons,hx];exact ih
     · simp only [hc,List.lookup_cons,hx,Bool.false_eq_true,if_false];exact ih
theorem ZB {scope:Scope}{env:Env}{y:Str}{k:NameKind}(hcell:∀ z∈scope.names,z.2≠.cell)(h:(relabel scope env).names.lookup y=some k) :
   scope.names.lookup y=some k∨(scope.names.lookup y=some .free∧k=.cell):=by
 unfold relabel at h
 rw [VB] at h
 cases e:scope.names.lookup y with
 | none=>rw [e] at h;cases h
 | some k0 =>
   rw [e] at h
   simp only [Option.map_some,Option.some.injEq] at h
   by_cases hc:(k0 == NameKind.free&&env.scope.kind == .function&&env.kindOf y == some .cell)=true
   · rw [if_pos hc] at h
     right
     simp only [Bool.and_eq_true,beq_iff_eq] at hc
     exact ⟨by rw [hc.1.1],h.symm⟩
   · rw [if_neg hc] at h
     left;rw [h]
theorem mem_of_lookup {α:Type}{y:Str}{k:α}:∀{l:List (Str×α)},l.lookup y=some k→(y,k)∈l
 | [],h=>by cases h
 | (n,z)::r,h=>by
   cases hx:y == n with
   | true =>
     have e:y=n:=by simpa using hx
     subst e
     simp only [List.lookup_cons,beq_self_eq_true] at h
     cases h
     exact List.mem_cons_self
   | false =>
     simp only [List.lookup_cons,hx] at h
     exact List.mem_cons_of_mem _ (mem_of_lookup h)
theorem Vh {env:Env}:∀(names:List (Str×NameKind))(c0:List (Str×Addr)),(∀ y∈names,y.2=.free→∃ c,env.cells.lookup y.1=some c) →
   ∃ cl:List (Str×Addr),(forIn names c0 fun (x:Str×NameKind) (r:List (Str×Addr))=>(if x.2 == NameKind.free then (do let a ← cellOf env x.1;pure (ForInStep.yield ((x.1,a)::r))) else pure (ForInStep.yield r):Sem (ForInStep (List (Str×Addr)))))=pure cl ∧
     (∀ y c,cl.lookup y=some c→c0.lookup y=some c∨env.cells.lookup y=some c)∧(∀ y,c0.lookup y≠none→cl.lookup y≠none)∧∀ y∈names,y.2=.free→cl.lookup y.1≠none
 | [],c0,_=>⟨c0,rfl,fun _ _ h=>.inl h,fun _ h=>h,fun _ h=>(nomatch h)⟩
 | (n, k)::r,c0,h=>by
   by_cases hk:k=.free
   · subst hk
     obtain ⟨c,hc⟩:=h (n,.free) List.mem_cons_self rfl
     obtain ⟨cl,e,g1,g2,g3⟩:=Vh r ((n,c)::c0) fun y hy=>h y (List.mem_cons_of_mem _ hy)
     refine ⟨cl,?_,?_,?_,?_⟩
     · rw [List.forIn_cons]
       have hcell:cellOf env n=pure c:=by unfold cellOf;rw [hc]
       simp only [beq_self_eq_true,if_true,hcell,pure_bind]
       exact e
     · intro y d q
       rcases g1 y d q with q | q
       · cases hx:y == n with
         | true =>
           have e':y=n:=by simpa using hx
           subst e'
           simp only [List.lookup_cons,beq_self_eq_true] at q
           cases q
           exact .inr hc
         | false=>simp only [List.lookup_cons,hx] at q;exact .inl q
       · exact .inr q
     · intro y q
       apply g2
       cases hx:y == n with
       | true=>simp [List.lookup_cons,hx]
       | false=>simpa [List.lookup_cons,hx] using q
     · intro y hy hf
       rcases List.mem_cons.mp hy with e' | hy
       · subst e'
         apply g2
         simp [List.lookup_cons]
       · exact g3 y hy hf
   · obtain ⟨cl,e,g1,g2,g3⟩:=Vh r c0 fun y hy=>h y (List.mem_cons_of_mem _ hy)
     refine ⟨cl,?_,g1,g2,?_⟩
     · rw [List.forIn_cons]
       have hb:(k == NameKind.free)=false:=by simpa using hk
       simp only [hb,Bool.false_eq_true,if_false,pure_bind]
       exact e
     · intro y hy hf
       rcases List.mem_cons.mp hy with e' | hy
       · subst e';exact absurd hf hk
       · exact g3 y hy hf
theorem Ug {scope:Scope}{env:Env}(h:∀ y∈scope.names,y.2=.free→∃ c,env.cells.lookup y.1=some c) :
   ∃ cl,closureFor scope env=pure cl∧(∀ y c,cl.lookup y=some c→env.cells.lookup y=some c)∧∀ y∈scope.names,y.2=.free→cl.lookup y.1≠none:=by
 obtain ⟨cl,e,g1,_,g3⟩:=Vh (env:=env) scope.names [] h
 refine ⟨cl,?_,fun y c q=>(g1 y c q).elim (fun z=>by cases z) fun z=>z,g3⟩
 simp only [closureFor]
 rw [← bind_pure (pure cl:Sem _),← e]
def UI (N:List Str)(x:Str):List Str:=N.map fun y=>if y=x then "" else y
theorem We (N:List Str)(x:Str):(UI N x).length=N.length:=List.length_map ..
theorem VO {N:List Str}{x y:Str}{i:Nat}(h:(UI N x)[i]?=some y):(N[i]?=some y∧y≠x)∨y="":=by
 unfold UI at h
 rw [List.getElem?_map] at h
 cases e:N[i]? with
 | none=>rw [e] at h;cases h
 | some z =>
   rw [e] at h
   have h:(if z=x then ("":Str) else z)=y:=Option.some.inj h
   by_cases q:z=x
   · rw [if_pos q] at h;exact .inr h.symm
   · rw [if_neg q] at h;subst h;exact .inl ⟨rfl,q⟩
def Ye (X:Cx)(scope:Scope)(x:Str)(cl:List (Str×Addr))(C:Addr)(s₀:Shared)(H₀:Hp)(fp:List Addr):Cx :=
 { prog:=X.prog,w:=X.w,K:=X.K,mg:=X.mg,base:=X.base,A:=X.A,N:=UI X.N x++[x],s₀:=s₀,H₀:=H₀,env:=compEnvC scope cl C X.env,outer:=X.stack,stack:=X.stack,
   ex:=fp,fn:=fun _=>false,calm:=X.calm,pn:=[],xe:=fun _ _=>False }
def UH (J:It)(te:TE)(σ:St)(D:Addr)(Q:VK)(H1:Hp):Prop :=
 ∃ W:Nat→Nat→List V→Hp→Prop,(∃ m,W 0 m [] (upd H1 D (.lst [])))∧∀ i m ys H2,W i m ys H2 →
   (J.stop i H2∧Q (.ref D) H2)∨(J.go i H2∧∃ N:VK,(∀ y H4,N y H4→H4 D=some (.lst ys)∧ys.length < sizeLine∧∃ m',m' < m∧W (i+1) m' (ys++[y]) (upd H4 D (.lst (ys++[y]))))∧∀ v H3,J.yld i H2 v H3→te (σ++[some v]) H3 N)
def ZmK (wi:TI)(te:TE):TE:=fun σ H Q=>wi σ H fun J H1=>∀ D,H1 D=none→UH J te σ D Q H1
section
variable {X:Cx}{elt iter:Expr}{x:Str}{px pos:Pos}{scope:Scope}{wi:TI}{te:TE}
theorem Wz {prog:Program}{w:World}{A:Around}{R:Result→Shared→Prop}{s:Shared}{elt target iter:Expr}{scope:Scope}{pos:Pos}{it acc:Value}{env:Env}(I:Nat→Shared→Prop)
   (turn : ∀ n s,I n s→wpAny (model prog w) A (pyNext it) (fun r s₁=>match r with
     | none=>R (.ok .next) s₁
     | some v=>wpAny (model prog w) A (letOwnedTupleGo target it v) (fun _ s1'=>wpAny (model prog w) A (assign target env v) (fun _ s₂=>wpAny (model prog w) A (eval elt env) (fun x s₃ =>
         wpAny (model prog w) A (call (.builtin "list.append") [acc,x]) (fun _ s₄=>∃ m,m < n∧I m s₄) (fun _ _=>False) s₃)
         (fun _ _=>False) s₂) (fun _ _=>False) s1') (fun _ _=>False) s₁) (fun _ _=>False) s)
   (n:Nat) (h:I n s) :
   codeAny (model prog w) A (.compLoop (.ListComp elt [⟨target,iter,[],0⟩] scope pos) 0 it acc env) R s:=by
 refine codeAny_loop rfl I (fun n s hI=>?_) n h
 show wpAny _ _ ((compTurn (.ListComp elt [⟨target,iter,[],0⟩] scope pos) 0 it acc env).onRaise (fun x=>do noteFrame x env;theTreesLotGoes x)) _ _ s
 refine wpAny_noted ?_
 rw [compTurn_list1]
 refine wpAny_bind (wpAny_standAt (wpAny_bind (wpAny_mono (turn n s hI) (fun r s₁ h₁=>?_) fun _ _ h'=>h'.elim)))
 cases r with
 | none=>exact wpAny_pure h₁
 | some v =>
   refine wpAny_bind (wpAny_mono h₁ (fun _ s1' h1'=>?_) fun _ _ h'=>h'.elim)
   exact wpAny_bind (wpAny_mono h1' (fun _ s₂ h₂=>wpAny_bind (wpAny_bind (wpAny_mono h₂ (fun x s₃ h₃=>wpAny_bind (wpAny_mono h₃
     (fun _ s₄ h₄=>wpAny_pure (wpAny_pure ⟨rfl,h₄⟩)) fun _ _ h'=>h'.elim)) fun _ _ h'=>h'.elim))) fun _ _ h'=>h'.elim)
structure CompOk (X:Cx)(scope:Scope)(x:Str):Prop where
 nd:(UI X.N x++[x]).Nodup
 clos:∀ y∈scope.names,y.2=.free→X.env.kindOf y.1=some .cell∨X.env.kindOf y.1=some .free
 cell:∀ y∈scope.names,y.2≠.cell
 kind:scope.kind=.function
 names:∀ y∈scope.names,y.2=.local→scope.names.lookup y.1=some .local
 loc:scope.names.lookup x=some .local
 own:∀ y∈X.N,y≠x→scope.names.lookup y≠some .local
 noh:scope.names.lookup ("":Str)=none
theorem ZeD {pins:List (Addr×Obj)}{σ:St}{H2:Hp}{s₂:Shared}{J:It}{fp:List Addr}{it:Addr}{tn:Nat→Heap→Prop}{cl:List (Str×Addr)}{E:Value→Shared→Prop}{Q:VK}{RR:Value→Addr→Result→Shared→Prop}
   (O:CompOk X scope x) (hc:X.calm=true) (cl1:∀ y c,cl.lookup y=some c→X.env.cells.lookup y=some c) (cl2:∀ y∈scope.names,y.2=.free→cl.lookup y.1≠none)
   (he:∀ cl C s₀ H₀ fp,PE (Ye X scope x cl C s₀ H₀ fp) elt te)
   (I2:Inv X pins σ H2 s₂) (T:WE X.prog X.w X.K (.Name x px) J fp it tn) (st:tn 0 s₂.heap) (f2:∀ b∈fp,YC X pins H2 b)
   (h:∀ D,H2 D=none→UH J te σ D Q H2)
   (hRR:∀ D C H' s',Inv X pins σ H' s'→YC X pins H' C→(∃ m,s'.heap.Ns C m)→Q (.ref D) H'→RR (.ref D) C (.ok .next) s') :
   wpAny (model X.prog X.w) X.A (newList []) (fun acc s₃=>wpAny (model X.prog X.w) X.A (newFunctionEnv scope X.env.globals cl [] X.env.qual none .none (some X.env)) (fun cenv s₄ =>
     codeAny (model X.prog X.w) X.A (.compStart (.ListComp elt [⟨.Name x px,iter,[],0⟩] scope pos) 0 (.ref it) acc { cenv with scope:=relabel scope X.env }) (RR acc cenv.locals) s₄) E s₃) E s₂:=by
 have hD:H2 s₂.heap.objs.size=none:=I2.hok.fresh (Nat.le_refl _)
 refine wpAny_newObj_type ?_
 have I3:Inv X pins σ (upd H2 s₂.heap.objs.size (.lst [])) { s₂ with heap:=s₂.heap.push { cls:=.type "list",data:=.seq ([]:List Value).toArray } } :=
   I2.laid (t':=s₂.toks) (fun b u e=>Heap.get?_push_of_some _ e) (Nat.le_refl _) ⟨Nat.zero_le _,[],_,.nil,Heap.get?_push_size _ rfl⟩
 have f3:∀ b∈fp,YC X pins (upd H2 s₂.heap.objs.size (.lst [])) b:=fun b hb=>by
   obtain ⟨g0,g1⟩:=f2 b hb
   obtain ⟨o,e,_⟩:=T.obj 0 _ st b hb
   exact ⟨by rw [Zm (Nat.ne_of_lt (Heap.lt_size e))];exact g0,g1⟩
 have st3:tn 0 (s₂.heap.push { cls:=.type "list",data:=.seq ([]:List Value).toArray }):=T.keep _ _ _ st fun b hb o e=>Heap.get?_push_of_some _ e
 obtain ⟨W,⟨m0,w0⟩,turn⟩:=h _ hD
 generalize hDe:s₂.heap.objs.size=D at I3 f3 w0 turn ⊢
 generalize hH3:upd H2 D (.lst [])=H3 at I3 f3 w0 turn ⊢
 generalize hs3:({ s₂ with heap:=s₂.heap.push { cls:=.type "list",data:=.seq ([]:List Value).toArray } }:Shared)=s₃ at I3
 have st3':tn 0 s₃.heap:=by rw [← hs3];exact st3
 have hobj:∀ b∈fp,b < s₃.heap.objs.size:=fun b hb=>by
   obtain ⟨o,e,_⟩:=T.obj 0 _ st3' b hb
   exact Heap.lt_size e
 refine wpAny_newFunctionEnv O.cell (by intro y hy;simp at hy) (fun h₁ hns₁ hsb₁=>?_) O.kind
 have old:∀ b o,s₃.heap.get? b=some o→h₁.get? b=some o:=fun b o e=>hsb₁.extBut b o (Nat.ne_of_lt (Heap.lt_size e)) (Heap.get?_push_of_some _ e)
 generalize hs4:({ s₃ with heap:=h₁,toks:=s₃.toks+([]:List (Str×Value)).length }:Shared)=s₄
 have h4:s₄.heap=h₁:=by rw [← hs4]
 have hX:∀ C,YC X pins C s₃.heap.objs.size→True:=fun _ _=>trivial
 have ok':(Ye X scope x cl s₃.heap.objs.size s₃ H3 fp).Ok:=by
   refine ⟨I3.ok.mod,O.kind,I3.ok.glob,I3.ok.blt,Nat.le_refl _,?_,?_,?_,I3.ok.hd,I3.ok.frames,.inl rfl,?_,I3.bs,Nat.le_trans I3.ok.bsz I3.sz,?_,?_,I3.stack,I3.stkFree⟩
   · exact fun y z c e1 e2=>I3.ok.inj y z c (cl1 y c e1) (cl1 z c e2)
   · intro y hk
     have hf:scope.names.lookup y=some .free:=by
       rcases hk with hk | hk
       · rcases ZB O.cell hk with q | q
         · exact absurd rfl (O.cell _ (mem_of_lookup q))
         · exact q.1
       · rcases ZB O.cell hk with q | q
         · exact q
         · cases q.2
     have:=cl2 _ (mem_of_lookup hf) rfl
     cases e:cl.lookup y with
     | none=>exact absurd e this
     | some c=>exact ⟨c,e⟩
   · intro y c hf;cases hf
   · intro b hb
     obtain ⟨g0,g1,g2,g3,g4,g5⟩:=f3 b hb
     exact ⟨Nat.ne_of_lt (hobj b hb),fun y c e=>g4 y c (cl1 y c e)⟩
   · intro b o e hb
     obtain ⟨g0,g1,g2,g3,g4,g5⟩:=f3 b hb
     rcases g3 with g3 | g3
     · exact I3.ok.noex b o e g3
     · exact absurd (Heap.lt_size e) (Nat.not_lt.mpr (Nat.le_trans I3.ok.bsz g3))
   · intro b hb hs
     obtain ⟨g0,g1,g2,g3,g4,g5⟩:=f3 b hb
     rcases List.mem_cons.mp (I3.stkSub b hs) with e | e
     · exact g1 e
     · exact g2 e
 have I4 : Inv (Ye X scope x cl s₃.heap.objs.size s₃ H3 fp) [] (σ++[none]) H3 s₄:=by
   obtain ⟨m,hm,hl⟩:=I3.loc
   refine ⟨ok',by rw [← hs4];rfl,by rw [← hs4];exact I3.bare,by rw [h4];exact Un.kept old,⟨_,by rw [h4];exact hns₁,?_⟩,?_,I3.hok.fresh (Nat.le_refl _),fun y c e=>I3.freeC y c (cl1 y c e),?_,by rw [h4];exact I3.hok.kept old,?_⟩
   · intro i y v e1 e2 e3
     have hlt:i < σ.length:=by
       rcases Nat.lt_or_ge i σ.length with z | z
       · exact z
       · rw [List.getElem?_append_right z] at e2
         cases e:i - σ.length with
         | zero=>rw [e] at e2;simp at e2
         | succ k=>rw [e] at e2;simp at e2
     rw [List.getElem?_append_left hlt] at e2
     have hsm:∃ k,scope.names.lookup y=some k:=by
       rcases e3 with hk | hk | hk
       · rcases ZB O.cell hk with q | q
         · exact ⟨_,q⟩
         · exact ⟨_,q.1⟩
       · rcases ZB O.cell hk with q | q
         · exact ⟨_,q⟩
         · exact ⟨_,q.1⟩
       · rcases ZB O.cell hk with q | q
         · exact ⟨_,q⟩
         · exact ⟨_,q.1⟩
     obtain ⟨e1',hyx⟩:X.N[i]?=some y∧y≠x:=by
       have e1:(UI X.N x++[x])[i]?=some y:=e1
       rw [List.getElem?_append_left (by rw [We,← I3.len];exact hlt)] at e1
       rcases VO e1 with z | z
       · exact z
       · obtain ⟨k,hk⟩:=hsm
         rw [z,O.noh] at hk;cases hk
     have hy:y∈X.N:=List.mem_of_getElem? e1'
     have hf:scope.names.lookup y=some .free:=by
       rcases e3 with hk | hk | hk
       · rcases ZB O.cell hk with q | q
         · exact absurd q (O.own y hy hyx)
         · exact q.1
       · rcases ZB O.cell hk with q | q
         · exact absurd rfl (O.cell _ (mem_of_lookup q))
         · exact q.1
       · rcases ZB O.cell hk with q | q
         · exact q
         · exact q.1
     have hk:=O.clos _ (mem_of_lookup hf) rfl
     have hv:Vis X.env.scope y:=by rcases hk with z | z;exact .inr (.inl z);exact .inr (.inr z)
     obtain ⟨u,ru,lu⟩:=hl i y v e1' e2 hv
     refine ⟨u,ru,?_⟩
     have hkc:(compEnvC scope cl s₃.heap.objs.size X.env).kindOf y=some .cell∨(compEnvC scope cl s₃.heap.objs.size X.env).kindOf y=some .free:=by
       rcases e3 with q | q | q
       · rcases ZB O.cell q with z | z
         · exact absurd z (O.own y hy hyx)
         · cases z.2
       · exact .inl q
       · exact .inr q
     rcases lu with ⟨q,_⟩ | ⟨_,c,hcl,hcc⟩
     · rcases hk with z | z<;>(rw [q] at z;cases z)
     · refine .inr ⟨hkc,?_⟩
       cases e:cl.lookup y with
       | none=>exact absurd e (cl2 _ (mem_of_lookup hf) rfl)
       | some c' =>
         have:=cl1 y c' e
         rw [hcl] at this
         cases this
         refine ⟨c,e,?_⟩
         rw [h4]
         obtain ⟨oc,ho,hd⟩:=hcc
         exact ⟨oc,old _ _ ho,hd⟩
   · intro y c e
     obtain ⟨v,oc,ho,hd⟩:=I3.cell y c (cl1 y c e)
     exact ⟨v,oc,by rw [h4];exact old _ _ ho,hd⟩
   · intro p hp;cases hp
   · show (σ++[none]).length=(UI X.N x++[x]).length
     rw [List.length_append,List.length_append,We,I3.len];rfl
 have st4:tn 0 s₄.heap:=by rw [h4];exact T.keep _ _ _ st3' fun b hb o e=>old b o e
 have fpok:∀ {H':Hp},(∀ b∈fp,H' b=none)→∀ b∈fp,YC (Ye X scope x cl s₃.heap.objs.size s₃ H3 fp) [] H' b:=fun hn b hb=>by
   obtain ⟨g0,g1,g2,g3,g4,g5⟩:=f3 b hb
   refine ⟨hn b hb,Nat.ne_of_lt (hobj b hb),ok'.exfs b hb,.inl hb,fun y c e=>g4 y c (cl1 y c e),?_⟩
   intro p hp;cases hp
 have loop:codeAny (model X.prog X.w) X.A (.compLoop (.ListComp elt [⟨.Name x px,iter,[],0⟩] scope pos) 0 (.ref it) (.ref D) (compEnvC scope cl s₃.heap.objs.size X.env)) (RR (.ref D) s₃.heap.objs.size) s₄:=by
   refine Wz (fun n s'=>∃ i ys w' H',Inv (Ye X scope x cl s₃.heap.objs.size s₃ H3 fp) [] (σ++[w']) H' s'∧tn i s'.heap∧(∀ b∈fp,H' b=none)∧W i n ys H') ?_ m0 ⟨0,[],none,H3,I4,st4,fun b hb=>(f3 b hb).1,w0⟩
   rintro n s5 ⟨i,ys,w',H5,I5,st5,fr5,w5⟩
   rcases turn i n ys H5 w5 with ⟨stop,q⟩ | ⟨go,N,hN,step⟩
   · refine Zp (T.done (Ye X scope x cl s₃.heap.objs.size s₃ H3 fp) rfl rfl rfl hc i [] s5 _ H5 _ I5 (fpok fr5) st5 stop) fun r s6 ⟨hr,I6⟩=>?_
     subst hr
     obtain ⟨m6,hn6,_⟩:=I6.loc
     have IX:Inv X pins σ H5 s6:=I3.call' (ch:=fp) I6.os I6.base I6.hok I6.bare fun b hb=>by
       obtain ⟨g0,g1,g2,g3,g4,g5⟩:=f3 b hb
       exact ⟨g3,g1,g4,g5⟩
     exact hRR D _ H5 s6 IX (I3.fpOk (Nat.le_refl _) I6.free) ⟨m6,hn6⟩ q
   · refine Zp (T.item (Ye X scope x cl s₃.heap.objs.size s₃ H3 fp) rfl rfl rfl hc i [] s5 _ H5 _ I5 (fpok fr5) st5 go) fun r s6 ⟨u,hr,h6⟩=>?_
     subst hr
     refine Zp h6 fun _ s7 ⟨v,H7,I7,r7,y7,st7,fr7⟩=>?_
     have I7':=I7.pinned (fpok fr7) (T.obj _ _ st7)
     have hixN:(Ye X scope x cl s₃.heap.objs.size s₃ H3 fp).N[σ.length]?=some x:=by
       show (UI X.N x++[x])[σ.length]?=some x
       rw [I3.len,← We X.N x];simp
     refine Zp (ZD (X:=Ye X scope x cl s₃.heap.objs.size s₃ H3 fp) (pos:=px) O.nd hixN (.inl (lookup_relabel_local O.loc)) (.inr (lookup_relabel_local O.loc)) _ s7 _ H7 v u (fun σ' H'=>σ'=σ++[some v]∧H'=H7) I7' r7 ⟨by simp,rfl⟩) fun _ s8 ⟨σ8,H8,I8,e8,e8'⟩=>?_
     subst e8 e8'
     refine Zp (he cl s₃.heap.objs.size s₃ H3 fp _ s8 _ H8 _ I8 (step v H8 y7)) fun uy s9 ⟨y,H9,I9,r9,n9⟩=>?_
     obtain ⟨hl9,hz9,m',hm',w9⟩:=hN y H9 n9
     refine Zp (YX (X:=Ye X scope x cl s₃.heap.objs.size s₃ H3 fp) _ s9 _ H9 (.ref D) [y] (.ref D) [uy] (fun v H'=>H'=upd H9 D (.lst (ys++[y]))) I9 rfl (.cons r9 .nil) ⟨D,ys,y,rfl,rfl,hl9,hz9,rfl⟩) fun _ s10 ⟨_,H10,I10,_,e10⟩=>?_
     subst e10
     refine ⟨m',hm',i+1,ys++[y],some v,_,I10.unpinned (pins:=[]),T.keep _ _ _ st7 fun b hb o e=>(I10.pin (b,o) (List.mem_append_right _ (List.mem_append_right _ (YK hb e)))).1,fun b hb=>?_,w9⟩
     obtain ⟨o,e,d⟩:=T.obj _ _ st7 b hb
     exact (I10.pin (b,o) (List.mem_append_right _ (List.mem_append_right _ (YK hb e)))).2.1
 exact codeAny_compStart_list loop (T.self _ 0 _ _ _ st4 loop)
theorem Xx (O:CompOk X scope x)(hc:X.calm=true)(hi:PI X (.Name x px) iter wi)(he:∀ cl C s₀ H₀ fp,PE (Ye X scope x cl C s₀ H₀ fp) elt te)
   (hs:∀ v,foldedSetIterable iter X.env v=pure v:=by intro _;rfl):PE X (.ListComp elt [⟨.Name x px,iter,[],0⟩] scope pos) (ZmK wi te):=by
 intro pins s σ H Q I h
 obtain ⟨cl,hcl,cl1,cl2⟩:=Ug (scope:=scope) (env:=X.env) fun y hy hf=>I.ok.has _ (O.clos y hy hf)
 rw [eval_ListComp]
 refine wpAny_comprehension_free (use:=none) rfl hs hcl O.kind O.names (Zp (hi pins s σ H _ I h) fun v s1 h1=>Zp h1 fun itv s2 h2=>?_)
 obtain ⟨it,fp,tn,J,H2,e,I2,T,st2,f2,q⟩:=h2
 subst e
 refine ZeD (RR:=fun acc C=>compPost (model X.prog X.w) X.A X.xe none (EP X pins σ Q) acc C) O hc cl1 cl2 he I2 T st2 f2 q ?_
 intro D C H' s' I' ⟨g0,g1,g2,g3,g4,g5⟩ ⟨m,hm⟩ hq
 exact ⟨m,hm,fun h' hs'=>⟨.ref D,H',I'.turned (t':=s'.toks) (fun b o hb e=>(hs'.2 b hb).trans e) g0 g1 g3 g4 g5,rfl,hq⟩⟩
end
theorem ZfH {lo:Int}{n:Nat}{te:TE}{σ:St}{D:Addr}{Q:VK}{H:Hp}(hn:n≤sizeLine)(Pv:Nat→List V→Hp→Prop)(h0:Pv 0 [] (upd H D (.lst [])))
   (hl:∀ i ys H,Pv i ys H→ys.length=i)
   (hs:∀ i ys H,i < n→Pv i ys H→te (σ++[some (.int (lo+i))]) H fun y H4=>H4 D=some (.lst ys)∧Pv (i+1) (ys++[y]) (upd H4 D (.lst (ys++[y])))) (hd:∀ ys H,Pv n ys H→Q (.ref D) H):UH (Itr lo n) te σ D Q H:=by
 refine ⟨fun i m ys H=>m=n - i∧i≤n∧Pv i ys H,⟨n,by simp,Nat.zero_le _,h0⟩,?_⟩
 rintro i m ys H2 ⟨rfl,hi,p⟩
 by_cases hlt:i < n
 · have hlen:=hl i ys _ p
   refine .inr ⟨hlt,_,fun y H4 (q:H4 D=some (.lst ys)∧Pv (i+1) (ys++[y]) (upd H4 D (.lst (ys++[y]))))=>⟨q.1,by omega,n - (i+1),by omega,rfl,hlt,q.2⟩,fun v H3 y=>?_⟩
   obtain ⟨e,e'⟩:=y
   subst e e'
   exact hs i ys _ hlt p
 · have e:i=n:=by omega
   subst e
   exact .inl ⟨Nat.le_refl _,hd ys H2 p⟩
theorem Zgk {K:PySem.W.Frag}{a:Addr}{xs:List V}{te:TE}{σ:St}{D:Addr}{Q:VK}{H:Hp}(hn:xs.length≤sizeLine)(Pv:Nat→List V→Hp→Prop)(h0:Pv 0 [] (upd H D (.lst [])))
   (hl:∀ i ys H,Pv i ys H→ys.length=i∧SqL K H a xs)
   (hs:∀ i x ys H,xs[i]?=some x→Pv i ys H→te (σ++[some x]) H fun y H4=>H4 D=some (.lst ys)∧Pv (i+1) (ys++[y]) (upd H4 D (.lst (ys++[y])))) (hd:∀ ys H,Pv xs.length ys H→Q (.ref D) H):UH (Itl K a) te σ D Q H:=by
 refine ⟨fun i m ys H=>m=xs.length - i∧i≤xs.length∧Pv i ys H,⟨xs.length,by simp,Nat.zero_le _,h0⟩,?_⟩
 rintro i m ys H2 ⟨rfl,hi,p⟩
 obtain ⟨hlen,q⟩:=hl i ys _ p
 by_cases hlt:i < xs.length
 · refine .inr ⟨⟨xs,xs[i],q,by simp [hlt]⟩,_,fun y H4 (q:H4 D=some (.lst ys)∧Pv (i+1) (ys++[y]) (upd H4 D (.lst (ys++[y]))))=>⟨q.1,by omega,xs.length - (i+1),by omega,rfl,hlt,q.2⟩,fun v H3 y=>?_⟩
   obtain ⟨e,y⟩:=y
   subst e
   exact hs i v ys _ (y xs q) p
 · have e:i=xs.length:=by omega
   subst e
   exact .inl ⟨⟨xs,q,Nat.le_refl _⟩,hd ys H2 p⟩
end L2
namespace L2
open PySem PySem.Spec PyProof.Rows
def Its (x:Str):It:=⟨fun i _=>i < x.cps.size,fun i H v H'=>H'=H∧∃ c,x.cps[i]?=some c∧v=.str ⟨#[c]⟩,fun i _=>x.cps.size≤i⟩
theorem Zfa {P:Program}{w:World}{K:PySem.W.Frag}{tg:Expr}(x:Str)(t:Tok)(it:Addr):WE P w K tg (Its x) [it] it (fun i h=>h.IsStrIter it "str_ascii_iterator" x t i) where
 mem:=by simp
 obj:=fun i h st b hb=>by
   have e:b=it:=by simpa using hb
   subst e
   obtain ⟨o,e,c,d⟩:=st
   exact ⟨o,e,fun v z=>by rw [d] at z;cases z⟩
 keep:=fun i h h' st k=>let ⟨o,ho,r⟩:=st;⟨o,k it (by simp) o ho,r⟩
 item:=by
   intro X hP hw hK hc i pins s σ H E I hf st hg
   subst hP hw hK
   obtain ⟨f0,f1,f2,f3,f4,f5⟩:=hf it (by simp)
   have hlt:i < x.cps.size:=hg
   refine wpAny_pyNext_ascii_item st (c:=x.cps[i]) (by simp [hlt]) fun h' st' sb=>?_
   have I1:Inv X pins σ H { s with heap:=h',toks:=s.toks+1 }:=I.turned (t':=s.toks+1) (fun b o hb e=>(sb.2 b hb).trans e) f0 f1 f3 f4 f5
   obtain ⟨o,e,c,d⟩:=id st'
   exact ⟨_,rfl,ZaB (s:={ s with heap:=h',toks:=s.toks+1 }) e c d (by decide) ⟨.str ⟨#[x.cps[i]]⟩,H,I1,⟨_,rfl⟩,⟨rfl,x.cps[i],by simp [hlt],rfl⟩,st',fun b hb=>(hf b hb).1⟩⟩
 done:=by
   intro X hP hw hK hc i pins s σ H E I hf st hg
   subst hP hw hK
   obtain ⟨f0,f1,f2,f3,f4,f5⟩:=hf it (by simp)
   have hle:x.cps.size≤i:=hg
   exact wpAny_pyNext_ascii_end (I.ok.hd hc) st (by simp [hle]) fun h' eb=>⟨rfl,I.turned (t':=s.toks) (fun b o hb e=>eb b o hb e) f0 f1 f3 f4 f5⟩
 self:=fun _ _ _ _ _ st h=>wpAny_pyIter_striter_ascii st h
theorem Zgc {P:Program}{w:World}{K:PySem.W.Frag}{tg:Expr}(x:Str)(t:Tok)(it:Addr):WE P w K tg (Its x) [it] it (fun i h=>h.IsStrIter it "str_iterator" x t i) where
 mem:=by simp
 obj:=fun i h st b hb=>by
   have e:b=it:=by simpa using hb
   subst e
   obtain ⟨o,e,c,d⟩:=st
   exact ⟨o,e,fun v z=>by rw [d] at z;cases z⟩
 keep:=fun i h h' st k=>let ⟨o,ho,r⟩:=st;⟨o,k it (by simp) o ho,r⟩
 item:=by
   intro X hP hw hK hc i pins s σ H E I hf st hg
   subst hP hw hK
   obtain ⟨f0,f1,f2,f3,f4,f5⟩:=hf it (by simp)
   have hlt:i < x.cps.size:=hg
   refine wpAny_pyNext_wide_item st (c:=x.cps[i]) (by simp [hlt]) fun h' st' sb=>?_
   have I1:Inv X pins σ H { s with heap:=h',toks:=s.toks+1 }:=I.turned (t':=s.toks+1) (fun b o hb e=>(sb.2 b hb).trans e) f0 f1 f3 f4 f5
   obtain ⟨o,e,c,d⟩:=id st'
   exact ⟨_,rfl,ZaB (s:={ s with heap:=h',toks:=s.toks+1 }) e c d (by decide) ⟨.str ⟨#[x.cps[i]]⟩,H,I1,⟨_,rfl⟩,⟨rfl,x.cps[i],by simp [hlt],rfl⟩,st',fun b hb=>(hf b hb).1⟩⟩
 done:=by
   intro X hP hw hK hc i pins s σ H E I hf st hg
   subst hP hw hK
   obtain ⟨f0,f1,f2,f3,f4,f5⟩:=hf it (by simp)
   have hle:x.cps.size≤i:=hg
   exact wpAny_pyNext_wide_end (I.ok.hd hc) st (by simp [hle]) fun h' eb=>⟨rfl,I.turned (t':=s.toks) (fun b o hb e=>eb b o hb e) f0 f1 f3 f4 f5⟩
 self:=fun _ _ _ _ _ st h=>wpAny_pyIter_striter_wide st h
def iStr (tl:TE):TI:=fun σ H R=>tl σ H fun v H1=>∃ x,v=.str x∧R (Its x) H1
section
variable {X:Cx}{tg:Expr}
theorem WV {l:Expr}{tl:TE}(hl:PE X l tl):PI X tg l (iStr tl):=by
 intro pins s σ H R I h
 refine Zp (hl pins s σ H _ I h) fun v s1 ⟨z,H1,I1,r1,q1⟩=>?_
 obtain ⟨x,e,q⟩:=q1
 subst e
 obtain ⟨t,rfl⟩:=r1
 have fin:∀ b,b∈[s1.heap.objs.size]→YC X pins H1 b:=fun b hb=>by
   have e:b=s1.heap.objs.size:=by simpa using hb
   subst e
   exact I1.fpOk (Nat.le_refl _) (I1.hok.fresh (Nat.le_refl _))
 cases ha:x.cps.all (· < 128)
 · exact wpAny_pyIter_wide ha ⟨s1.heap.objs.size,[s1.heap.objs.size],_,_,H1,rfl,I1.kept (t':=s1.toks) fun b o e=>Heap.get?_push_of_some _ e,Zgc x t _,⟨_,Heap.get?_push_size _ rfl,rfl,rfl⟩,fin,q⟩
 · exact wpAny_pyIter_ascii ha ⟨s1.heap.objs.size,[s1.heap.objs.size],_,_,H1,rfl,I1.kept (t':=s1.toks) fun b o e=>Heap.get?_push_of_some _ e,Zfa x t _,⟨_,Heap.get?_push_size _ rfl,rfl,rfl⟩,fin,q⟩
end
theorem ZcR {x:Str}{te:TE}{σ:St}{D:Addr}{Q:VK}{H:Hp}(hn:x.length≤sizeLine)(Pv:Nat→List V→Hp→Prop)(h0:Pv 0 [] (upd H D (.lst [])))
   (hl:∀ i ys H,Pv i ys H→ys.length=i)
   (hs:∀ i c ys H,x.cps[i]?=some c→Pv i ys H→te (σ++[some (.str ⟨#[c]⟩)]) H fun y H4=>H4 D=some (.lst ys)∧Pv (i+1) (ys++[y]) (upd H4 D (.lst (ys++[y])))) (hd:∀ ys H,Pv x.cps.size ys H→Q (.ref D) H):UH (Its x) te σ D Q H:=by
 have hn':x.cps.size≤sizeLine:=hn
 refine ⟨fun i m ys H=>m=x.cps.size - i∧i≤x.cps.size∧Pv i ys H,⟨x.cps.size,by simp,Nat.zero_le _,h0⟩,?_⟩
 rintro i m ys H2 ⟨rfl,hi,p⟩
 have hlen:=hl i ys _ p
 by_cases hlt:i < x.cps.size
 · refine .inr ⟨hlt,_,fun y H4 (q:H4 D=some (.lst ys)∧Pv (i+1) (ys++[y]) (upd H4 D (.lst (ys++[y]))))=>⟨q.1,by omega,x.cps.size - (i+1),by omega,rfl,hlt,q.2⟩,fun v H3 y=>?_⟩
   obtain ⟨e,c,hc,e'⟩:=y
   subst e e'
   exact hs i c ys _ hc p
 · have e:i=x.cps.size:=by omega
   subst e
   exact .inl ⟨Nat.le_refl _,hd ys H2 p⟩
section
variable {X:Cx}
theorem YG:YR X (compareOp .LtE) (fun x y H Q=>∃ i j,x=.str i∧y=.str j∧Q (.bl (!(decide (j.cps.toList < i.cps.toList)))) H):=by
 intro pins s σ H x y v u Q I rx ry h
 obtain ⟨i,j,rfl,rfl,q⟩:=h
 obtain ⟨t,rfl⟩:=rx
 obtain ⟨t',rfl⟩:=ry
 exact PySem.P.le_str (ZO I q rfl)
theorem Wd (hc:X.calm=true):YQ X (.builtin "all") (fun xs H Q=>∃ (a:Addr) (bs:List Bool),xs=[.ref a]∧SqL X.K H a (bs.map V.bl)∧Q (.bl (bs.all id)) H):=by
 intro pins s σ H xs us Q I r h
 obtain ⟨a,bs,rfl,hq,q⟩:=h
 obtain ⟨u,rfl,ru⟩:=YN r
 cases ru
 obtain ⟨its,rv,p,hz⟩:=I.list hq
 have hlen:=rv.length
 rw [List.length_map] at hlen
 have hal:a < s.heap.objs.size:=by obtain ⟨_,e,_⟩:=p.isList;exact Heap.lt_size e
 refine call_all_walk (wpAny_pyIter_list p.isList ⟨s.heap.objs.size,_,_,_,_,_,fun i=>bs.getD i false,rfl,Walks.list (A:=X.A.in1) (I.ok.hd hc) s.heap.objs.size a (Nat.ne_of_lt hal) its.toArray,⟨⟨_,Heap.get?_push_size _ rfl,rfl,rfl⟩,p.isList.push _⟩,?_,?_⟩)
 · intro i v s' Q' E' hv hQ'
   have hv':its[i]?=some v:=by simpa using hv
   have hi:i < bs.length:=by
     have:=(List.getElem?_eq_some_iff.mp hv').1
     omega
   obtain ⟨u,hu,ru⟩:=rv.get (i:=i) (x:=V.bl bs[i]) (by simp [hi])
   rw [hv'] at hu
   cases hu
   have e:v=Value.bool bs[i]:=ru
   subst e
   have hQ2:Q' (bs.getD i false) s':=hQ'
   rw [List.getD_eq_getElem?_getD,List.getElem?_eq_getElem hi] at hQ2
   exact wpAny_truthy_bool hQ2
 · intro h' tk hk
   have e:(List.range its.toArray.size).all (fun i=>bs.getD i false)=bs.all id:=by
     rw [List.size_toArray,← hlen]
     apply Bool.eq_iff_iff.mpr
     rw [List.all_eq_true,List.all_eq_true]
     constructor
     · intro z b hb
       obtain ⟨i,hi,rfl⟩:=List.mem_iff_getElem.mp hb
       have:=z i (List.mem_range.mpr hi)
       rwa [List.getD_eq_getElem?_getD,List.getElem?_eq_getElem hi] at this
     · intro z i hi
       have hi':=List.mem_range.mp hi
       rw [List.getD_eq_getElem?_getD,List.getElem?_eq_getElem hi']
       exact z _ (List.getElem_mem hi')
   rw [e]
   refine ⟨.bl (bs.all id),H,I.kept (t':=tk) fun b o eb=>hk b o ?_ (Heap.get?_push_of_some _ eb),rfl,q⟩
   intro hm
   have:b=s.heap.objs.size:=by simpa using hm
   rw [this] at eb
   exact absurd (Heap.lt_size eb) (Nat.lt_irrefl _)
theorem Zeo:∀{ys:List Str}{us:List Value},Vals (ys.map V.str) us→StrsAre us ys
 | [],_,.nil=>.nil
 | y::ys,_,.cons r t=>by obtain ⟨k,rfl⟩:=r;exact .cons _ _ (Zeo t)
theorem Uk:MtR X "str.join" (fun x xs H Q=>∃ sep a ys,x=.str sep∧xs=[.ref a]∧SqL X.K H a (ys.map V.str)∧(ys.map (·.length)).sum+ys.length * sep.length≤16777216∧Q (.str (Txt.join sep ys)) H):=by
 intro pins s σ H x xs v us Q I rx rv h
 obtain ⟨sep,a,ys,rfl,rfl,hq,hz,q⟩:=h
 obtain ⟨t,rfl⟩:=rx
 obtain ⟨u,rfl,ru⟩:=YN rv
 cases ru
 obtain ⟨its,r,p,_⟩:=I.list hq
 exact join_list p.isList (by simpa using Zeo r) hz fun t' k=>⟨.str _,H,I.tok k,⟨_,rfl⟩,q⟩
theorem Yx:SlR X (fun x lo hi H Q=>∃ z,x=.str z∧z.length≤sizeLine∧Q (.str (Txt.slice z lo hi)) H):=by
 intro pins s σ H x v vl vu lo hi sl Q I rx hs pl pu h
 obtain ⟨z,rfl,hz,q⟩:=h
 obtain ⟨t,rfl⟩:=rx
 refine ⟨"str",_,F.slot_str_getitem.lookup,typeIs_str _ _ _,?_⟩
 have fin:∀ (t':Tok) (k:Nat),EP X pins σ Q (.str (Txt.slice z lo hi) t') { s with toks:=k }:=fun t' k=>⟨.str _,H,I.tok k,⟨_,rfl⟩,q⟩
 obtain ⟨o,ho,hc,hd⟩:=hs
 cases pl<;>cases pu
 · exact wpAny_getItem_str_slice (l:=none) (u:=none) (st:=none) ⟨_,ho,hc,hd⟩ rfl (post_val_or_str ⟨Nat.le_trans (Txt.slice_le z _ _) hz,fin⟩)
 · rename_i j uj
   exact wpAny_getItem_str_slice (l:=none) (u:=some (j,uj)) (st:=none) ⟨_,ho,hc,hd⟩ rfl (post_val_or_str ⟨Nat.le_trans (Txt.slice_le z _ _) hz,fin⟩)
 · rename_i i ui
   exact wpAny_getItem_str_slice (l:=some (i,ui)) (u:=none) (st:=none) ⟨_,ho,hc,hd⟩ rfl (post_val_or_str ⟨Nat.le_trans (Txt.slice_le z _ _) hz,fin⟩)
 · rename_i i ui j uj
   exact wpAny_getItem_str_slice (l:=some (i,ui)) (u:=some (j,uj)) (st:=none) ⟨_,ho,hc,hd⟩ rfl (post_val_or_str ⟨Nat.le_trans (Txt.slice_le z _ _) hz,fin⟩)
theorem YM:YR X (binaryOp .Mult) (fun x y H Q=>∃ i n,x=.str i∧y=.int n∧MulOk i n∧Q (.str (Txt.mul i n)) H):=by
 intro pins s σ H x y v u Q I rx ry h
 obtain ⟨i,n,rfl,rfl,hok,q⟩:=h
 obtain ⟨t,rfl⟩:=rx
 obtain ⟨t',rfl⟩:=ry
 exact SB.mul hok fun t' k=>⟨.str _,H,I.tok k,⟨_,rfl⟩,q⟩
theorem UF:YQ X (.type "str") (fun xs H Q=>(∃ i,xs=[.int i]∧i.natAbs.log2 < 1920∧Q (.str (toString i)) H)∨∃ z,xs=[.str z]∧Q (.str z) H):=by
 intro pins s σ H xs us Q I r h
 rcases h with h | ⟨z,rfl,q⟩
 · exact Zda pins s σ H xs us Q I r h
 · obtain ⟨u,rfl,t,rfl⟩:=YN r
   exact PySem.P.str_of_str ⟨.str _,H,I,⟨_,rfl⟩,q⟩
end
mutual
inductive DataOf (H:Hp):V→PyData→Prop
 | non:DataOf H .non .none
 | bl (b):DataOf H (.bl b) (.bool b)
 | int (i):DataOf H (.int i) (.int i)
 | str (x):DataOf H (.str x) (.str x)
 | lst {a xs ds}:H a=some (.lst xs)→DatasOf H xs ds→DataOf H (.ref a) (.list ds)
 | tup {a xs ds}:H a=some (.tup xs)→DatasOf H xs ds→DataOf H (.ref a) (.tuple ds)
inductive DatasOf (H:Hp):List V→List PyData→Prop
 | nil:DatasOf H [] []
 | cons {v d vs ds}:DataOf H v d→DatasOf H vs ds→DatasOf H (v::vs) (d::ds)
end
section
variable {P:Program}{w:World}{H:Hp}{h:Heap}
mutual
theorem DataOf.reads (hok:HOk P w H h):∀{v d}(u:Value),DataOf H v d→RelV v u→d.hasDict=false∧∃ as,Reads h u d as
 | _,_,u,.non,r=>by cases (show u=.none from r);exact ⟨rfl,_,.none⟩
 | _,_,u,.bl b,r=>by cases (show u=.bool b from r);exact ⟨rfl,_,.bool b⟩
 | _,_,u,.int i,r=>by obtain ⟨t,e⟩:=(show ∃ t,u=.int i t from r);subst e;exact ⟨rfl,_,.int i t⟩
 | _,_,u,.str x,r=>by obtain ⟨t,e⟩:=(show ∃ t,u=.str x t from r);subst e;exact ⟨rfl,_,.str x t⟩
 | _,_,u,.lst (a:=a) (xs:=xs) e q,r=>by
   cases (show u=.ref a from r)
   obtain ⟨_,its,n,rv,g⟩:=(show ObjOk P w H h a (.lst xs) from hok a _ e)
   obtain ⟨nd,as,ra⟩:=DatasOf.reads hok its q rv
   exact ⟨by simpa [PyData.hasDict] using nd,_,.list g rfl rfl (by simpa using ra)⟩
 | _,_,u,.tup (a:=a) (xs:=xs) e q,r=>by
   cases (show u=.ref a from r)
   obtain ⟨_,its,rv,o,g,c,n,d⟩:=(show ObjOk P w H h a (.tup xs) from hok a _ e)
   obtain ⟨nd,as,ra⟩:=DatasOf.reads hok its q rv
   exact ⟨by simpa [PyData.hasDict] using nd,_,.tuple g c d (by simpa using ra)⟩
theorem DatasOf.reads (hok:HOk P w H h):∀{vs ds}(us:List Value),DatasOf H vs ds→Vals vs us→PyData.hasDictAll ds=false∧∃ as,ReadsAll h us ds as
 | _,_,_,.nil,.nil=>⟨rfl,_,.nil⟩
 | _,_,_,.cons r t,.cons rv tv=>by
   obtain ⟨n1,as,r1⟩:=DataOf.reads hok _ r rv
   obtain ⟨n2,bs,r2⟩:=DatasOf.reads hok _ t tv
   exact ⟨by simp [PyData.hasDictAll,n1,n2],_,.cons r1 r2⟩
end
end
section
variable {X:Cx}
end
end L2
namespace L2
open PySem PySem.Spec PyProof.Rows
def Def (P:Program)(w:World)(K:PySem.W.Frag)(mg:Str→Option Value)(base:Heap)(k:Nat)(x:Str)(ps:List Str)(sp:Sp):Prop :=
 ∃ f fd,FnOk P w K mg base ZY k f fd ps sp∧Binds K fd ps []∧PySem.W.keepIn K (.ref f)=true∧mg x=some (.ref f)
theorem Def.mono {P:Program}{w:World}{K:PySem.W.Frag}{mg:Str→Option Value}{base:Heap}{j k:Nat}{x:Str}{ps:List Str}{sp:Sp}(D:Def P w K mg base j x ps sp)(h:j≤k):Def P w K mg base k x ps sp :=
 let ⟨f,fd,F,b,kp,m⟩:=D;⟨f,fd,F.mono h,b,kp,m⟩
section
variable {X:Cx}{k:Nat}{x:Str}{ps:List Str}{sp:Sp}{p pos:Pos}{e:Expr}{es:List Expr}{t:TA}
theorem ZC (D:Def X.prog X.w X.K X.mg X.base k x ps sp)(hr:Room k X.A)(ha:PA X (e::es) t)(hg:Gl X x:=by rfl)(hdb:(x == ("__debug__":Str))=false:=by decide)
   (he:starEach (e::es) X.env=(false,eval e X.env)::starEach es X.env:=by rfl) (hpl:(backTo pos (starEach es X.env)).any (·.1)=false:=by rfl) :
   PE X (.Call (.Name x p) (e::es) [] pos) (Zcm sp [] E0 t):=by
 obtain ⟨f,fd,F,b,kp,m⟩:=D
 exact ZjU F hr hg m kp b .nil Zmv ha hdb he hpl
end
def Kp (p:Addr)(H H':Hp):Prop:=∀ q o,q≠p→H q=some o→H' q=some o
theorem Kp.trans {p:Addr}{H H1 H2:Hp}(a:Kp p H H1)(b:Kp p H1 H2):Kp p H H2:=fun q o n h=>b q o n (a q o n h)
theorem Kp.upd (p:Addr)(H:Hp)(o:HO):Kp p H (upd H p o):=fun q u n h=>by rw [Zm n];exact h
theorem Same.kp {H H':Hp}(a:Same H H')(p:Addr):Kp p H H':=fun q o _ h=>a q o h
theorem Zh {H:Hp}{p:Addr}(h:H p=none)(o:HO):Same H (upd H p o):=fun b u q=>by rw [Zm (ZG q h)];exact q
def BoxAt (H:Hp)(p:Addr)(n:Nat):Prop:=∃ a b c:Int,H p=some (.lst [.int a,.int b,.int c])∧0≤a∧0≤c∧c≤n
theorem BoxAt.same {H H':Hp}{p:Addr}{n:Nat}(h:BoxAt H p n)(s:Same H H'):BoxAt H' p n:=let ⟨a,b,c,e,r⟩:=h;⟨a,b,c,s _ _ e,r⟩
theorem BoxAt.le {H:Hp}{p:Addr}{n m:Nat}(h:BoxAt H p n)(l:n≤m):BoxAt H p m:=let ⟨a,b,c,e,h1,h2,h3⟩:=h;⟨a,b,c,e,h1,h2,by omega⟩
def ZaN (M:Int):Sp:=fun vs H Q _=>∃(p:Addr)(n:Nat)(m:Int),vs=[.ref p,.int m]∧BoxAt H p n∧n≤1000000∧0 < m∧m < M∧∀(r:Int)(H':Hp),0≤r→r < m→BoxAt H' p (n+1)→Kp p H H'→Q (.int r) H'
def Zgf (K:PySem.W.Frag):Sp:=fun vs H Q _=>∃(a:Addr)(ns:List Int)(k:Int),vs=[.ref a,.int k]∧SqL K H a (ns.map V.int)∧0≤k∧∀(r:Int),Q (.int r) H
def Zjw (K:PySem.W.Frag):Sp:=fun vs H Q _=>∃(a:Addr)(ns:List Int)(k:Int),vs=[.ref a,.int k]∧SqL K H a (ns.map V.int)∧0≤k∧k≤1000∧∀(p:Addr)(H':Hp),H p=none→BoxAt H' p 0→Same H H'→Q (.ref p) H'
theorem len1 {n:Nat}(h:n≤1000):n≤sizeLine:=Nat.le_of_lt (ZgO h)
end L2
namespace L2
open PySem PySem.Spec PyProof.Rows
def Zes (N:List Str)(names:List (Str×NameKind))(scope:Scope)(x:Str):Bool :=
 decide ((UI N x++[x]).Nodup)&&scope.names.all (fun y=>(y.2 != .free || names.lookup y.1 == some .cell || names.lookup y.1 == some .free)&&(y.2 != .cell&&(y.2 != .local || scope.names.lookup y.1 == some .local))) &&
 ((scope.kind == .function&&scope.names.lookup x == some .local)&&N.all fun y=>y == x || scope.names.lookup y != some .local)&&scope.names.lookup ("":Str) == none
theorem CompOk.of {X:Cx}{scope:Scope}{x:Str}(N:List Str)(st:Stmt)(hN:X.N=N)(hn:X.env.scope=Zl st)(chk:Zes N (Zl st).names scope x=true):CompOk X scope x:=by
 unfold Zes at chk
 simp only [Bool.and_eq_true,decide_eq_true_eq,List.all_eq_true,Bool.or_eq_true,bne_iff_ne,beq_iff_eq] at chk
 obtain ⟨⟨⟨c1,c2⟩,⟨c3,c4⟩,c5⟩,c6⟩:=chk
 refine ⟨by rw [hN];exact c1,fun y hy hf=>?_,fun y hy=>(c2 y hy).2.1,c3,fun y hy hl=>?_,c4,fun y hy hx=>(c5 y (by rw [← hN];exact hy)).resolve_left hx,c6⟩
 · show X.env.scope.names.lookup y.1=_∨X.env.scope.names.lookup y.1=_
   rw [hn]
   rcases (c2 y hy).1 with (z | z) | z
   · exact absurd hf z
   · exact .inl z
   · exact .inr z
 · rcases (c2 y hy).2.2 with z | z
   · exact absurd hl z
   · exact z
theorem Xh {x:Str}{te:TE}{σ:St}{D:Addr}{Q:VK}{H:Hp}(hn:x.length≤sizeLine)(g:Nat→V)(hs:∀ c (H':Hp) (R:VK),c∈x.cps.toList→R (g c) H'→te (σ++[some (.str ⟨#[c]⟩)]) H' R)
   (hd:Q (.ref D) (upd H D (.lst (x.cps.toList.map g)))):UH (Its x) te σ D Q H:=by
 refine ZcR hn (fun i ys H'=>ys=(x.cps.toList.take i).map g∧H'=upd H D (.lst ys)∧i≤x.cps.size) ⟨rfl,rfl,Nat.zero_le _⟩ ?_ ?_ ?_
 · rintro i ys H' ⟨rfl,_,hi⟩
   rw [List.length_map,List.length_take]
   simp;omega
 · rintro i c ys H' hc ⟨rfl,rfl,hi⟩
   have hc':x.cps.toList[i]?=some c:=by simpa using hc
   refine hs c _ _ (List.mem_of_getElem? hc') ⟨Zb,?_,ZjL,(Array.getElem?_eq_some_iff.mp hc).1⟩
   rw [List.take_add_one,hc',List.map_append];rfl
 · rintro ys H' ⟨rfl,rfl,_⟩
   rw [List.take_of_length_le (by simp)]
   exact hd
theorem ZaS:∀ (rest:List Str) (acc:Array Nat),(rest.foldl (fun acc p=>acc++(Str.ofString "").cps++p.cps) acc).toList=acc.toList++rest.flatMap (·.cps.toList)
 | [],acc=>by simp
 | p::r,acc=>by
   have e:(Str.ofString "").cps=#[]:=by decide +kernel
   rw [List.foldl_cons,ZaS r,List.flatMap_cons,e]
   simp
theorem Uf:∀ ys:List Str,(Txt.join (Str.ofString "") ys).cps.toList=ys.flatMap (·.cps.toList)
 | []=>rfl
 | y::r=>by
   show (List.foldl (fun acc p=>acc++(Str.ofString "").cps++p.cps) y.cps r).toList=_
   rw [ZaS];rfl
theorem Zt (x:Str):x.length=x.cps.toList.length:=by simp [Str.length]
theorem ZR {x y:Str}(h:x.cps.toList=y.cps.toList):x=y:=by
 cases x;cases y;simp at h;simp [h]
theorem Zgl (s e:Int)(i j:Nat)(hs:s=i)(he:e=j):sliceRange s e 1=(List.range (j - i)).map (i+·):=by
 subst hs he
 unfold sliceRange
 simp only [show (1:Int) > 0 by decide,if_true]
 have e3:(if (i:Int) < (j:Int) then ((j:Int) - i+1 - 1) / 1 else 0).toNat=j - i:=by
   split
   · rw [Int.ediv_one];omega
   · omega
 rw [e3]
 apply List.map_congr_left
 intro k hk
 omega
theorem YT (z:Str)(lo hi:Option Int):(Txt.slice z lo hi).cps.toList=(z.cps.toList.drop (HT.sIx z.length 0 lo)).take (HT.sIx z.length z.length hi - HT.sIx z.length 0 lo):=by
 have key:Builtin.Str.strSliceIndices lo hi 1 z.length=(List.range (HT.sIx z.length z.length hi - HT.sIx z.length 0 lo)).map (HT.sIx z.length 0 lo+·):=by
   unfold Builtin.Str.strSliceIndices
   refine Zgl _ _ _ _ ?_ ?_
   · cases lo with
     | none=>rfl
     | some i=>simp only [HT.sIx,show (1:Int) > 0 by decide,if_true];split<;>omega
   · cases hi with
     | none=>rfl
     | some i=>simp only [HT.sIx,show (1:Int) > 0 by decide,if_true];split<;>omega
 have hj:HT.sIx z.length z.length hi≤z.length:=HT.sIx_le _ _ (Nat.le_refl _) hi
 unfold Txt.slice
 rw [key]
 split
 · rename_i h
   simp only [beq_self_eq_true,Bool.true_and,List.length_map,List.length_range,beq_iff_eq] at h
   have h0:HT.sIx z.length 0 lo=0∨z.length=0:=by omega
   rcases h0 with h0 | h0
   · rw [h0] at h ⊢
     rw [List.drop_zero,h,Zt,List.take_length]
   · have e:z.cps.toList=[]:=List.eq_nil_of_length_eq_zero (by rw [← Zt];exact h0)
     rw [e];simp
 · show (List.filterMap (fun k=>z.cps[k]?) ((List.range _).map _)).toArray.toList=_
   rw [List.filterMap_map]
   generalize HT.sIx z.length 0 lo=i at *
   generalize HT.sIx z.length z.length hi - i=n at *
   have gen:∀ (n i:Nat),List.filterMap ((fun k=>z.cps[k]?) ∘ (i+·)) (List.range n)=(z.cps.toList.drop i).take n:=by
     intro n
     induction n with
     | zero=>intro i;simp
     | succ n ih =>
       intro i
       rw [List.range_succ,List.filterMap_append,ih,List.take_add_one,List.getElem?_drop]
       congr 1
       simp only [List.filterMap_cons,List.filterMap_nil,Function.comp,Array.getElem?_toList]
       cases z.cps[i+n]?<;>rfl
   rw [gen]
theorem Yo (x y:Str):(x++y).cps.toList=x.cps.toList++y.cps.toList:=by
 show (x.cps++y.cps).toList=_
 simp
theorem Wg (x y:Str):(x++y).length=x.length+y.length:=by rw [Zt,Yo,List.length_append,← Zt,← Zt]
def Ua (c:Nat):Bool:=decide (97≤c)&&decide (c≤122)
def Yd (c:Nat):Bool:=decide (32≤c)&&decide (c≤126)
theorem Zeq (c d:Nat):decide ([c] < [d])=decide (c < d):=by
 simp [List.cons_lt_cons_iff]
theorem UU (f:Nat→Bool)(l:List Nat):l.map (fun c=>V.bl (f c))=(l.map f).map V.bl:=by rw [List.map_map];rfl
theorem Zgu {X:Cx}{K:PySem.W.Frag}(hK:X.K=K):YQ X (.builtin "len") (fun xs H Q=>∃ x n,xs=[x]∧ZiV K x H n∧Q (.int n) H):=by subst hK;exact Zic
@[reducible] def notStar:Expr→Bool
 | .Starred ..=>false
 | _=>true
theorem Zjl {e:Expr}{es:List Expr}{env:Env}(h:notStar e=true):starEach (e::es) env=(false,eval e env)::starEach es env:=by
 cases e<;>first | rfl | cases h
section
variable {X:Cx}{k:Nat}{x:Str}{ps:List Str}{sp:Sp}{p pos:Pos}{e:Expr}{es:List Expr}{te:TE}{t:TA}
theorem YZ (ha:PE X e te)(hr:PA X es t)(h:notStar e=true):PA X (e::es) (Xa te t):=Yp ha hr (Zjl h)
theorem Zc (ha:PE X e te)(hr:PA X es t)(h:notStar e=true:=by rfl):PA X (e::es) (Xa te t):=Yp ha hr (Zjl h)
end
end L2
namespace L2
open PySem PySem.Spec PyProof.Rows
section
variable {X:Cx}
theorem Zat:YR X (binaryOp .FloorDiv) (rI (fun _ j=>0 < j∧j < 2 ^ 62) fun i j=>.int (i / j)):=opI fun i j _ _ _ _ _ hc q=>by
 have h1:(0:Int) < j:=hc.1
 have h2:j < 2 ^ 62:=hc.2
 refine floordiv_int (by omega) (by rw [Int.fdiv_eq_ediv_of_nonneg i (by omega)];exact q) (.inl (PyProof.noPylong_of_log2 ?_))
 have h3:j.natAbs≠0:=by omega
 have h4:j.natAbs < 2 ^ 9000:=Nat.lt_of_lt_of_le (show j.natAbs < 2 ^ 62 by omega) (Nat.pow_le_pow_right (by decide) (by decide))
 exact (Nat.log2_lt h3).mpr h4
end
end L2
namespace L2
open PySem PySem.Spec PyProof.Rows
section
variable {X:Cx}
end
section
variable {X:Cx}{tg:Expr}
end
end L2
set_option maxHeartbeats 2000000
namespace L2
open PySem PySem.Spec PyProof.Rows
section
variable {prog:Program}{w:World}{A:Around}{E:Value→Shared→Prop}{s:Shared}
end
end L2
set_option maxHeartbeats 2000000
namespace L2
open PySem PySem.Spec PyProof.Rows
section
variable {prog:Program}{w:World}{A:Around}{E:Value→Shared→Prop}{s:Shared}
theorem Zbz {T newId:String}{self a:Value}{kw:List (Str×Value)}(hl:typeLookup (.type T) "__init__"=pure (some (.builtin "object.__init__")))
   (hm:Bind.madeBy (.type T)=pure (some newId)) (hne:(some newId != some "object.__new__")=true) :
   Meets (Builtin.«object.__init__» ⟨[self,a],kw⟩) (fun _ R s=>s.TypeIs self T∧R (.ok (.ret .none)) s):=by
 refine Meets.of_wp fun prog w A R s hs=>?_
 obtain ⟨hT,hq⟩:=hs
 repeat (any_goals first | assumption | wp_step)
 exact ⟨_,rfl,hq⟩
theorem ZcT {T newId initId:String}{Bn Bi:Builtin}{args:List Value}{kw:List (Str×Value)}{S:PySem.Spec}{Q Q₁:Value→Shared→Prop}(ft:TypeCalled T newId initId)
   (hct:checkTypeCall T ⟨args,kw⟩=pure ()) (hcn:checkBuiltinCall newId ⟨.type T::args,kw⟩=pure ())
   (entryN:entryFor table newId=some Bn) (entryI:entryFor table initId=some Bi) (g:Meets (Bn ⟨.type T::args,kw⟩) S) (h:S A.in1 (wants Q₁ E) s)
   (hnext:∀ obj s₁,Q₁ obj s₁→s₁.TypeIs obj T∧argsOk initId ⟨obj::args,kw⟩∧∃ Si,Meets (Bi ⟨obj::args,kw⟩) Si∧Si A.in1 (wants (fun r s₂=>r=.none∧Q obj s₂) E) s₁) :
   wpAny (model prog w) A (call (.type T) args kw) Q E s:=by
 obtain ⟨c,tl,hmro⟩:=ft.mro
 have q1:=ft.made
 have q2:=ft.sub
 refine wpAny_call (codeAny_of_tree (show wpAny _ _ (callAny (.type T) _) _ _ _ from wpAny_pure ⟨Code.quiet_builtin _ (by decide +kernel),codeAny_builtin F.entry_type_call ?_⟩))
 rw [Around.under_plain (weight_type_call_type T args kw) (units_type_call_type T args kw)]
 have q3:=ft.notType
 have q4:=ft.canCreate
 repeat (any_goals first | assumption | wp_step)
 refine codeAny_mono (codeAny_call_builtin ft.plain entryN (wpAny_of_eq hcn (g prog w A.in1 _ s h))) fun r s₁ hr=>?_
 rcases r with e | fl
 · exact hr
 · cases fl with
   | ret obj =>
     obtain ⟨hT,hok,Si,gi,hsi⟩:=hnext _ _ hr
     have q5:=ft.init.lookup
     have q6:=ft.init.bind obj
     repeat (any_goals first | assumption | wp_step)
     refine codeAny_mono (codeAny_call_builtin ft.init.plain entryI (ft.init.check _ _ _ _ _ _ _ _ hT hok (gi prog w A.in1 _ s₁ hsi))) fun r₂ s₂ hr₂=>?_
     rcases r₂ with e | fl₂
     · exact hr₂
     · cases fl₂ with
       | ret r =>
         obtain ⟨rfl,hq⟩:=hr₂
         repeat (any_goals first | assumption | wp_step)
       | _=>exact hr₂.elim
   | _=>exact hr.elim
theorem Vt (a b:Value):checkTypeCall "enumerate" ⟨[a],[("start",b)]⟩=pure ():=by kernel_rfl
theorem VA (a b:Value):checkBuiltinCall "enumerate.__new__" ⟨[.type "enumerate",a],[("start",b)]⟩=pure ():=by kernel_rfl
theorem ZaU (o a b:Value):argsOk "object.__init__" ⟨[o,a],[("start",b)]⟩:=by
 unfold argsOk
 rw [signature?_of (id:="object.__init__") (n:=['_','_','t','i','n','i','_','_']) (o:=['t','c','e','j','b','o']) (by kernel_rfl) F.owner_object]
 kernel_rfl
end
end L2
set_option maxHeartbeats 2000000
namespace L2
open PySem PySem.Spec PyProof.Rows
theorem Inv.turned2 {X:Cx}{pins:List (Addr×Obj)}{σ:St}{H:Hp}{s:Shared}{h':Heap}{t':Nat}{fp:List Addr}(I:Inv X pins σ H s)(k:∀ b o,b ∉ fp→s.heap.get? b=some o→h'.get? b=some o)(hf:∀ b∈fp,YC X pins H b) :
   Inv X pins σ H { s with heap:=h',toks:=t' }:=by
 have nit:∀ b u,H b=some u→b ∉ fp:=fun b u e z=>by rw [(hf b z).1] at e;cases e
 refine I.step (g':=s.gens) (d':=s.drawn) (ch:=fp) (fun b hb=>?_) (fun b o _ _ hc e _=>k b o hc e) (fun b o _ _ hc e _=>⟨o.slots,k b o hc e⟩) (fun _ _ _ _ n=>n)
   (fun b o hc e=>⟨o,k b o hc e⟩) (fun _ _ e=>e) (fun _ _ _ e=>e) (fun b ps e=>⟨#[],by rw [e];simp⟩) (fun m hm=>?_) (fun b u e=>?_) I.bare
 · obtain ⟨f0,f1,f2,f3,f4,f5⟩:=hf b hb
   exact ⟨f3,f1,f4,f5⟩
 · obtain ⟨o,es,ep,ho,r⟩:=hm
   exact ⟨o,es,ep,k _ o (fun z=>(hf _ z).2.1 rfl) ho,r⟩
 · refine (I.hok b u e).stay (fun c v hc q=>k c v ?_ q) (fun _ q=>q) fun _ _ q=>q
   rcases hc with z | z
   · rw [z];exact nit b u e
   · exact nit c _ z
theorem Zay {M:Model}{A:Around}{E:Value→Shared→Prop}{s:Shared}{pos:Pos}{T:String}{args:List (Bool×Sem Value)}{kws:List (Option Str×Sem Value)}{Q:Value→Shared→Prop}
   (h1:args.any (·.1)=false) (h2:kws.any (·.1.isNone)=false)
   (h:wpAny M A (evalArgs (.type T) true args kws) (fun a s₁=>wpAny M A (call (.type T) a.pos a.kw) Q E s₁) E s):wpAny M A (callWith pos (.type T) [] args kws) Q E s:=by
 unfold callWith
 refine wpAny_bind (wpAny_holding (Zp h fun a s₁ q=>wpAny_bind (wpAny_standAt ?_)))
 simp only [h1,h2,Bool.or_false]
 refine wpAny_bind (wpAny_pure (wpAny_bind (Zp q fun r s₂ hr=>?_)))
 exact wpAny_bind (wpAny_holding (wpAny_point (wpAny_pure hr)))
section
variable {X:Cx}
end
end L2
set_option maxHeartbeats 2000000
namespace L2
open PySem PySem.W PySem.Spec PyProof.Rows
section
variable {prog:Program}{w:World}{A:Around}{E:Value→Shared→Prop}{s:Shared}{a kS:Addr}{vs:List Value}{ks:List Str}{keys:Array Value}{e e1:Nat}{P:PySem.Fin→Shared→Prop}
end
end L2
set_option maxHeartbeats 2000000
namespace L2
open PySem PySem.W PySem.Spec PyProof.Rows
def Zbu (base:Heap)(mg:Str→Option Value):Prop:=∃ bm ob,mg "__builtins__"=some (.ref bm)∧bm≠builtinsNs∧base.get? bm=some ob∧ob.cls=.type "module"∧ob.dict=some builtinsNs∧ob.data=.plain
def ZeP (ts:List Addr)(H:Hp):Prop:=∀ b,H b=none∨(∃ o xs,H b=some (.frz o (.lst xs)))∨(H b=some (.tbl #[])∧b∈ts)
theorem ZfX {P:Program}{w:World}{K:PySem.W.Frag}{mg mb:Str→Option Value}{CX:Uv}{k:Nat}{fa a:Addr}{fd:FuncData}{x:Str}{sp:Sp}{s₁:Shared}{vs:List Value}{ns:List Int}{ts:List Addr}
   (KX:K.In s₁.heap) (hns:s₁.heap.Ns mainGlobals mg) (hb:s₁.heap.Ns builtinsNs mb) (hbb:∀ x:Str,x≠"__name__"→mb x=bootBuiltins x) (hlim:s₁.heap.NoLimit) (hg:s₁.gens=#[]) (hbm:Zbu s₁.heap mg)
   (ha:s₁.heap.get? a=some { cls:=.type "list",data:=.seq vs.toArray }) (hi:IntsAre vs ns) (hl:ns.length≤sizeLine) (hr:Room k callerA)
   (hts:∀ b∈ts,s₁.heap.get? b=some (tabObj #[])∧K.lookup b=none∧∃ c,CodeHd s₁.heap c b)
   (F:∀ base:Heap,K.In base→base.Ns mainGlobals mg→Zbu base mg→FnOk P w K mg base CX k fa fd [x] sp) (hbind:∀ (s:Shared) (u:Value),BindsTo s fd ⟨[u],[]⟩ [(x,u)])
   (hsp:∀ H:Hp,ZeP ts H→SqL K H a (ns.map V.int)→(∀ b∈ts,H b=some (.tbl #[]))→sp [.ref a] H (fun v _=>v=.bl true) fun _ _ _=>False)
   (hCX:∀ H e s',CX [] H s₁ (fun _ _ _=>False) e s'→False) :
   codeAny (model P w) callerA (.call (.ref fa) ⟨[.ref a],[]⟩) (fun r s'=>r=.ok (.ret (.bool true))∧OldK s₁.heap s'.heap∧s'.os=s₁.os∧AllBare s'.gens) s₁:=by
 have rv:=Zce hi
 have lenV:=hi.length
 have nta:a ∉ ts:=fun z=>by
   have e:=(hts a z).1
   rw [ha] at e;cases e
 have core : ∀ H:Hp,ZeP ts H→SqL K H a (ns.map V.int)→HOk P w H s₁.heap→(∀ b∈ts,H b=some (.tbl #[]))→(∀ b,H b≠none→b=a∨b∈ts)→(∀ b,H b≠none→K.lookup b=none) →
     codeAny (model P w) callerA (.call (.ref fa) ⟨[.ref a],[]⟩) (fun r s'=>r=.ok (.ret (.bool true))∧OldK s₁.heap s'.heap∧s'.os=s₁.os∧AllBare s'.gens) s₁:=by
   intro H hO hS hok hT hA hK
   have base_of:∀ {b:Addr} {o:Obj},s₁.heap.get? b=some o→H b=none→(UJ s₁.heap H).get? b=some o:=fun y n=>ZiI y n
   have free:∀ {b:Addr} {o:Obj},s₁.heap.get? b=some o→(∀ its n,o.data≠.seq its n)→(∀ fs,o.data≠.fields fs)→H b=none:=fun {b o} y d1 d2=>by
     cases q:H b with
     | none=>rfl
     | some u =>
       rcases hA b (by rw [q];simp) with z | z
       · subst z
         rw [ha] at y;cases y
         exact absurd rfl (d1 _ _)
       · rw [(hts b z).1] at y;cases y
         exact absurd rfl (d2 _)
   have nsK:∀ {b:Addr} {m:Str→Option Value},s₁.heap.Ns b m→(UJ s₁.heap H).Ns b m:=fun {b m} ⟨o,es,ep,y,d,r⟩=>⟨o,es,ep,base_of y (free y (fun its n z=>by rw [d] at z;cases z) fun fs z=>by rw [d] at z;cases z),d,r⟩
   have hKb:K.In (UJ s₁.heap H):=fun b o y=>base_of (KX b o y) (by
     cases q:H b with
     | none=>rfl
     | some u=>rw [hK b (by rw [q];simp)] at y;cases y)
   have hBm:Zbu (UJ s₁.heap H) mg:=by
     obtain ⟨bm,ob,h1,h2,h3,h4,h5,h6⟩:=hbm
     exact ⟨bm,ob,h1,h2,base_of h3 (free h3 (fun its n z=>by rw [h6] at z;cases z) fun fs z=>by rw [h6] at z;cases z),h4,h5,h6⟩
   have hM:Mod K mg (UJ s₁.heap H):=⟨hKb,nsK hns,⟨mb,nsK hb,hbb⟩,let ⟨mc,h1,h2⟩:=hlim;⟨mc,nsK h1,h2⟩⟩
   have e0:Env0 P w K mg (UJ s₁.heap H) callerA [] s₁ H:=⟨rfl,hM,fun b o e=>ZjW e,Nat.le_of_eq (ZgU _ _),trivial,fun b hb=>absurd (show b∈([]:List Addr) from hb) (by simp),hok,.of_eq hg⟩
   refine codeAny_mono ((F _ hKb (nsK hns) hBm).run callerA [] s₁ H ⟨[.ref a],[]⟩ [.ref a] [.ref a] _ _ hr e0 (hbind s₁ (.ref a)) (.cons rfl .nil) (hsp H hO hS hT)) fun r s' h=>?_
   cases r with
   | error e=>exact (hCX H e s' h).elim
   | ok fl =>
     cases fl with
     | next=>exact False.elim h
     | brk=>exact False.elim h
     | cont=>exact False.elim h
     | ret u =>
       obtain ⟨v,H',os,bare,un,hok',r',q⟩:=h
       have q':v=.bl true:=q
       subst q'
       obtain rfl:u=Value.bool true:=r'
       have key:∀ b o,s₁.heap.get? b=some o→s'.heap.get? b=some o∨(b∈ts∧∃ more:Array Value,s'.heap.get? b=some (tabObj (#[]++more))):=fun b o y=>by
         cases q:H b with
         | none=>exact .inl (un.keep b o y q (by intro z;exact absurd (show b∈([]:List Addr) from z) (by simp)) (by simp))
         | some u =>
           rcases hO b with z | ⟨ob,xs,z⟩ | ⟨z,zt⟩
           · rw [q] at z;cases z
           · have z2:=un.frzs b ob _ z
             obtain ⟨e1,_⟩:=hok b _ z
             obtain ⟨e2,_⟩:=hok' b _ z2
             rw [y] at e1;cases e1
             exact .inl e2
           · obtain ⟨more,z2⟩:=un.tbls b #[] z
             exact .inr ⟨zt,more,show s'.heap.get? b=some { cls:=.none,data:=.fields (#[]++more) } from hok' b _ z2⟩
       refine ⟨rfl,⟨fun b o y=>?_,fun b o y=>?_⟩,os,bare⟩
       · rcases key b o y with z | ⟨zt,more,z⟩
         · exact .inl z
         · obtain ⟨t1,_,c,t3⟩:=hts b zt
           rw [t1] at y;cases y
           exact .inr (.inl ⟨(t3.tab t1).isCodeTable,rfl,#[],more,rfl,z⟩)
       · rcases key b o y with z | ⟨zt,more,z⟩
         · exact ⟨_,z⟩
         · exact ⟨_,z⟩
 have okT:∀ (H:Hp) (b:Addr),b∈ts→ObjOk P w H s₁.heap b (.tbl #[]):=fun H b hb=>(hts b hb).1
 cases hk:K.lookup a with
 | some o =>
   have e:=KX a o hk
   rw [ha] at e
   cases e
   refine core (fun b=>if b∈ts then some (.tbl #[]) else none) (fun b=>?_) (.inr ⟨_,vs.toArray,_,hk,rfl,rfl,rfl,by rw [List.size_toArray,lenV];exact hl,by simpa using rv⟩) (fun b u z=>?_) (fun b hb=>if_pos hb) (fun b z=>?_) (fun b z=>?_)
   · by_cases hb:b∈ts
     · exact .inr (.inr ⟨if_pos hb,hb⟩)
     · exact .inl (if_neg hb)
   · by_cases hb:b∈ts
     · have z':=(if_pos hb).symm.trans z
       cases z'
       exact okT _ b hb
     · have z':=(if_neg hb).symm.trans z
       cases z'
   · by_cases hb:b∈ts
     · exact .inr hb
     · exact absurd (if_neg hb) z
   · by_cases hb:b∈ts
     · exact (hts b hb).2.1
     · exact absurd (if_neg hb) z
 | none =>
   refine core (fun b=>if b=a then some (.frz { cls:=.type "list",data:=.seq vs.toArray } (.lst (ns.map V.int))) else if b∈ts then some (.tbl #[]) else none) (fun b=>?_) (.inl (.inr ⟨{ cls:=.type "list",data:=.seq vs.toArray },if_pos rfl⟩)) (fun b u z=>?_)
     (fun b hb=>(if_neg (fun z:b=a=>nta (by rw [← z];exact hb))).trans (if_pos hb)) (fun b z=>?_) (fun b z=>?_)
   · by_cases h1:b=a
     · exact .inr (.inl ⟨_,_,if_pos h1⟩)
     · by_cases hb:b∈ts
       · exact .inr (.inr ⟨(if_neg h1).trans (if_pos hb),hb⟩)
       · exact .inl ((if_neg h1).trans (if_neg hb))
   · by_cases h1:b=a
     · have z':=(if_pos h1).symm.trans z
       cases z'
       subst h1
       exact ⟨ha,by rw [List.length_map];exact hl,vs,_,rv,ha⟩
     · have z1:=(if_neg h1).symm.trans z
       by_cases hb:b∈ts
       · have z':=(if_pos hb).symm.trans z1
         cases z'
         exact okT _ b hb
       · have z':=(if_neg hb).symm.trans z1
         cases z'
   · by_cases h1:b=a
     · exact .inl h1
     · by_cases hb:b∈ts
       · exact .inr hb
       · exact absurd ((if_neg h1).trans (if_neg hb)) z
   · by_cases h1:b=a
     · rw [h1];exact hk
     · by_cases hb:b∈ts
       · exact (hts b hb).2.1
       · exact absurd ((if_neg h1).trans (if_neg hb)) z
theorem walk_ofT {l:PySem.W.OpenLaw}{n k:Nat}{q:Program}{loose:List Str}{XP:(Str→Option Value)→Heap→Prop}{YP:World→Heap→Prop}{d:DefRec}{K:Params→PySem.W.Frag}{CX:World→Uv}{sp:World→Sp}{x:Str}{ts:List Addr}
   (hn:l.most=some n) (hn2:n≤sizeLine) (hdf:d.params.defaults=[]) (hr:Room k callerA)
   (hY:∀ (w:World) (h:Heap),YP w h→(K w.params).In h∧∀ b∈ts,h.get? b=some (tabObj #[]))
   (hK:∀ (w:World) (b:Addr),b∈ts→(K w.params).lookup b=none∧∃ c,codeHdIn (K w.params) c b=true)
   (F:∀ (w:World) (mg:Str→Option Value) (fa:Addr) (h:Heap),(K w.params).In h→h.Ns mainGlobals mg→mg d.name=some (.ref fa) →
     ∃ fd:FuncData,(∀ (s:Shared) (u:Value),BindsTo s fd ⟨[u],[]⟩ [(x,u)]) ∧
       ∀ base:Heap,(K w.params).In base→base.Ns mainGlobals mg→Zbu base mg→FnOk l.prog w (K w.params) mg base (CX w) k fa fd [x] (sp w))
   (hsp:∀ (w:World) (H:Hp) (a:Addr) (ns:List Int),ns.length≤n→ZeP ts H→SqL (K w.params) H a (ns.map V.int)→(∀ b∈ts,H b=some (.tbl #[]))→sp w [.ref a] H (fun v _=>v=.bl true) fun _ _ _=>False)
   (hCX:∀ (w:World) (H:Hp) (s:Shared) (e:Value) (s':Shared),CX w [] H s (fun _ _ _=>False) e s'→False) :
   PySem.W.WalkO q loose XP YP l.row.toRowW d [] (fun f vs=>PySem.call f vs):=by
 refine Att.attach_call hn hdf fun w s₀ s₁ mg mb fa o pm cd doc a vs ns G Y ho hd hcd hmg hobj hints hlen hg=>?_
 obtain ⟨KX,hT⟩:=hY w _ Y
 obtain ⟨fd,hb,hF⟩:=F w mg fa _ KX G.T.g hmg
 exact ZfX (ts:=ts) KX G.T.g G.T.b G.T.builtins G.T.nolimit hg G.T.bmain hobj hints (Nat.le_trans hlen hn2) hr (fun b hb'=>⟨hT b hb',(hK w b hb').1,let ⟨c,hc⟩:=(hK w b hb').2;⟨c,codeHd_of_K KX hc⟩⟩) hF hb (fun H hO hS hTb=>hsp w H a ns hlen hO hS hTb) fun H e s'=>hCX w H s₁ e s'
end L2
set_option maxHeartbeats 2000000
namespace L2
open PySem PySem.W PySem.Spec PyProof.Rows
section
variable {prog:Program}{w:World}{A:Around}{E:Value→Shared→Prop}{s:Shared}
end
section
variable {X:Cx}{pins:List (Addr×Obj)}{σ:List (Option V)}{H:Hp}{s:Shared}{h':Heap}
end
section
variable {X:Cx}
end
end L2
set_option maxHeartbeats 4000000
namespace L2
open PySem PySem.W PySem.Spec PyProof.Rows
section
variable {prog:Program}{w:World}{A:Around}{E:Value→Shared→Prop}{s:Shared}
end
section
variable {prog:Program}{w:World}{A:Around}{R:Result→Shared→Prop}
end
section
variable {prog:Program}{w:World}{A:Around}{E:Value→Shared→Prop}{s:Shared}
end
section
variable {X:Cx}
end
end L2
set_option maxHeartbeats 2000000
namespace L2
open PySem PySem.W PySem.Spec PyProof.Rows
section
variable {X:Cx}{pins:List (Addr×Obj)}{σ:List (Option V)}{H H':Hp}{s:Shared}{h':Heap}
end
section
variable {X:Cx}
end
end L2
set_option maxHeartbeats 2000000
namespace L2
open PySem PySem.W PySem.Spec PyProof.Rows
section
variable {O:KeyOrd}{key:Nat→O.α}{n:Nat}{s:Shared}{cmp:Nat→Nat→(Bool→Shared→Prop)→Shared→Prop}
end
end L2
set_option maxHeartbeats 2000000
namespace L2
open PySem PySem.W PySem.Spec PyProof.Rows
section
variable {P:Program}{w:World}{K:PySem.W.Frag}{mg:Str→Option Value}{base:Heap}
end
theorem Zjp {X:Cx}{st:Stmt}:PS X st (fun _ _ _=>False):=fun _ _ _ _ _ _ h=>h.elim
structure TF (H H':Hp):Prop where
 tup:∀ b xs,H b=some (.tup xs)→H' b=some (.tup xs)
 frz:∀ b o u,H b=some (.frz o u)→H' b=some (.frz o u)
theorem TF.trans {H H1 H2:Hp}(a:TF H H1)(b:TF H1 H2):TF H H2:=⟨fun x xs h=>b.tup x xs (a.tup x xs h),fun x o u h=>b.frz x o u (a.frz x o u h)⟩
theorem Same.tf {H H':Hp}(h:Same H H'):TF H H':=⟨fun b _ e=>h b _ e,fun b _ _ e=>h b _ e⟩
theorem Zgt {H:Hp}{l:Addr}{xs:List V}{o:HO}(h:H l=some (.lst xs)):TF H (upd H l o) :=
 ⟨fun b _ y=>by rw [Zm (fun z=>by rw [z,h] at y;cases y)];exact y,fun b _ _ y=>by rw [Zm (fun z=>by rw [z,h] at y;cases y)];exact y⟩
theorem UV {H:Hp}{l:Addr}{xs:List (Yb×V)}{o:HO}(h:H l=some (.dK xs)):TF H (upd H l o) :=
 ⟨fun b _ y=>by rw [Zm (fun z=>by rw [z,h] at y;cases y)];exact y,fun b _ _ y=>by rw [Zm (fun z=>by rw [z,h] at y;cases y)];exact y⟩
theorem SqT.tf {K:PySem.W.Frag}{H H':Hp}{a:Addr}{xs:List V}(h:SqT K H a xs)(t:TF H H'):SqT K H' a xs:=by
 rcases h with (h | ⟨o,h⟩) | h
 · exact .inl (.inl (t.tup _ _ h))
 · exact .inl (.inr ⟨o,t.frz _ _ _ h⟩)
 · exact .inr h
end L2
set_option maxHeartbeats 2000000
namespace L2
open PySem
def ZfJ (J:It)(tc:TT)(te:TE)(σ:St)(D:Addr)(Q:VK)(H1:Hp):Prop :=
 ∃ W : Nat→Nat→List V→Hp→Prop,(∃ m,W 0 m [] (upd H1 D (.lst [])))∧∀ i m ys H2,W i m ys H2 →
   (J.stop i H2∧Q (.ref D) H2)∨(J.go i H2∧∃ (N:VK) (M:Hp→Prop),(∀ y H4,N y H4→H4 D=some (.lst ys)∧ys.length < sizeLine∧∃ m',m' < m∧W (i+1) m' (ys++[y]) (upd H4 D (.lst (ys++[y]))))∧(∀ H4,M H4→∃ m',m' < m∧W (i+1) m' ys H4) ∧
     ∀ v H3,J.yld i H2 v H3→tc (σ++[some v]) H3 fun b H4=>if b=true then te (σ++[some v]) H4 N else M H4)
def Zmh (wi:TI)(tc:TT)(te:TE):TE:=fun σ H Q=>wi σ H fun J H1=>∀ D,H1 D=none→ZfJ J tc te σ D Q H1
section
variable {X:Cx}{elt iter cnd:Expr}{x:Str}{px pos:Pos}{scope:Scope}{wi:TI}{te:TE}{tc:TT}
theorem Vl {prog:Program}{w:World}{A:Around}{R:Result→Shared→Prop}{s:Shared}{elt target iter cnd:Expr}{scope:Scope}{pos:Pos}{it acc:Value}{env:Env}(I:Nat→Shared→Prop)
   (turn : ∀ n s,I n s→wpAny (model prog w) A (pyNext it) (fun r s₁=>match r with
     | none=>R (.ok .next) s₁
     | some v=>wpAny (model prog w) A (letOwnedTupleGo target it v) (fun _ s1'=>wpAny (model prog w) A (assign target env v) (fun _ s₂=>wpAny (model prog w) A (isTrue cnd env (eval cnd env)) (fun ok s2'=>if ok=true then wpAny (model prog w) A (eval elt env) (fun x s₃ =>
         wpAny (model prog w) A (call (.builtin "list.append") [acc,x]) (fun _ s₄=>∃ m,m < n∧I m s₄) (fun _ _=>False) s₃)
         (fun _ _=>False) s2' else ∃ m,m < n∧I m s2') (fun _ _=>False) s₂) (fun _ _=>False) s1') (fun _ _=>False) s₁) (fun _ _=>False) s)
   (n:Nat) (h:I n s) :
   codeAny (model prog w) A (.compLoop (.ListComp elt [⟨target,iter,[cnd],0⟩] scope pos) 0 it acc env) R s:=by
 refine codeAny_loop rfl I (fun n s hI=>?_) n h
 show wpAny _ _ ((compTurn (.ListComp elt [⟨target,iter,[cnd],0⟩] scope pos) 0 it acc env).onRaise (fun x=>do noteFrame x env;theTreesLotGoes x)) _ _ s
 refine wpAny_noted ?_
 rw [compTurn_list]
 refine wpAny_bind (wpAny_standAt (wpAny_bind (wpAny_mono (turn n s hI) (fun r s₁ h₁=>?_) fun _ _ h'=>h'.elim)))
 cases r with
 | none=>exact wpAny_pure h₁
 | some v =>
   refine wpAny_bind (wpAny_mono h₁ (fun _ s1' h1'=>?_) fun _ _ h'=>h'.elim)
   refine wpAny_bind (wpAny_mono h1' (fun _ s₂ h₂=>wpAny_bind (wpAny_tests_one (wpAny_mono h₂ (fun ok s₃ h₃=>?_) fun _ _ h'=>h'.elim))) fun _ _ h'=>h'.elim)
   cases ok with
   | false=>exact wpAny_pure ⟨rfl,h₃⟩
   | true =>
     exact wpAny_bind (wpAny_bind (wpAny_mono h₃ (fun x s₄ h₄=>wpAny_bind (wpAny_mono h₄ (fun _ s₅ h₅=>wpAny_pure (wpAny_pure ⟨rfl,h₅⟩)) fun _ _ h'=>h'.elim)) fun _ _ h'=>h'.elim))
theorem ZdE {pins:List (Addr×Obj)}{σ:St}{H2:Hp}{s₂:Shared}{J:It}{fp:List Addr}{it:Addr}{tn:Nat→Heap→Prop}{cl:List (Str×Addr)}{E:Value→Shared→Prop}{Q:VK}{RR:Value→Addr→Result→Shared→Prop}
   (O:CompOk X scope x) (hc:X.calm=true) (cl1:∀ y c,cl.lookup y=some c→X.env.cells.lookup y=some c) (cl2:∀ y∈scope.names,y.2=.free→cl.lookup y.1≠none)
   (hcn:∀ cl C s₀ H₀ fp,PT (Ye X scope x cl C s₀ H₀ fp) cnd tc) (he:∀ cl C s₀ H₀ fp,PE (Ye X scope x cl C s₀ H₀ fp) elt te)
   (I2:Inv X pins σ H2 s₂) (T:WE X.prog X.w X.K (.Name x px) J fp it tn) (st:tn 0 s₂.heap) (f2:∀ b∈fp,YC X pins H2 b)
   (h:∀ D,H2 D=none→ZfJ J tc te σ D Q H2)
   (hRR:∀ D C H' s',Inv X pins σ H' s'→YC X pins H' C→(∃ m,s'.heap.Ns C m)→Q (.ref D) H'→RR (.ref D) C (.ok .next) s') :
   wpAny (model X.prog X.w) X.A (newList []) (fun acc s₃=>wpAny (model X.prog X.w) X.A (newFunctionEnv scope X.env.globals cl [] X.env.qual none .none (some X.env)) (fun cenv s₄ =>
     codeAny (model X.prog X.w) X.A (.compStart (.ListComp elt [⟨.Name x px,iter,[cnd],0⟩] scope pos) 0 (.ref it) acc { cenv with scope:=relabel scope X.env }) (RR acc cenv.locals) s₄) E s₃) E s₂:=by
 have hD:H2 s₂.heap.objs.size=none:=I2.hok.fresh (Nat.le_refl _)
 refine wpAny_newObj_type ?_
 have I3:Inv X pins σ (upd H2 s₂.heap.objs.size (.lst [])) { s₂ with heap:=s₂.heap.push { cls:=.type "list",data:=.seq ([]:List Value).toArray } } :=
   I2.laid (t':=s₂.toks) (fun b u e=>Heap.get?_push_of_some _ e) (Nat.le_refl _) ⟨Nat.zero_le _,[],_,.nil,Heap.get?_push_size _ rfl⟩
 have f3:∀ b∈fp,YC X pins (upd H2 s₂.heap.objs.size (.lst [])) b:=fun b hb=>by
   obtain ⟨g0,g1⟩:=f2 b hb
   obtain ⟨o,e,_⟩:=T.obj 0 _ st b hb
   exact ⟨by rw [Zm (Nat.ne_of_lt (Heap.lt_size e))];exact g0,g1⟩
 have st3:tn 0 (s₂.heap.push { cls:=.type "list",data:=.seq ([]:List Value).toArray }):=T.keep _ _ _ st fun b hb o e=>Heap.get?_push_of_some _ e
 obtain ⟨W,⟨m0,w0⟩,turn⟩:=h _ hD
 generalize hDe:s₂.heap.objs.size=D at I3 f3 w0 turn ⊢
 generalize hH3:upd H2 D (.lst [])=H3 at I3 f3 w0 turn ⊢
 generalize hs3:({ s₂ with heap:=s₂.heap.push { cls:=.type "list",data:=.seq ([]:List Value).toArray } }:Shared)=s₃ at I3
 have st3':tn 0 s₃.heap:=by rw [← hs3];exact st3
 have hobj:∀ b∈fp,b < s₃.heap.objs.size:=fun b hb=>by
   obtain ⟨o,e,_⟩:=T.obj 0 _ st3' b hb
   exact Heap.lt_size e
 refine wpAny_newFunctionEnv O.cell (by intro y hy;simp at hy) (fun h₁ hns₁ hsb₁=>?_) O.kind
 have old:∀ b o,s₃.heap.get? b=some o→h₁.get? b=some o:=fun b o e=>hsb₁.extBut b o (Nat.ne_of_lt (Heap.lt_size e)) (Heap.get?_push_of_some _ e)
 generalize hs4:({ s₃ with heap:=h₁,toks:=s₃.toks+([]:List (Str×Value)).length }:Shared)=s₄
 have h4:s₄.heap=h₁:=by rw [← hs4]
 have hX:∀ C,YC X pins C s₃.heap.objs.size→True:=fun _ _=>trivial
 have ok':(Ye X scope x cl s₃.heap.objs.size s₃ H3 fp).Ok:=by
   refine ⟨I3.ok.mod,O.kind,I3.ok.glob,I3.ok.blt,Nat.le_refl _,?_,?_,?_,I3.ok.hd,I3.ok.frames,.inl rfl,?_,I3.bs,Nat.le_trans I3.ok.bsz I3.sz,?_,?_,I3.stack,I3.stkFree⟩
   · exact fun y z c e1 e2=>I3.ok.inj y z c (cl1 y c e1) (cl1 z c e2)
   · intro y hk
     have hf:scope.names.lookup y=some .free:=by
       rcases hk with hk | hk
       · rcases ZB O.cell hk with q | q
         · exact absurd rfl (O.cell _ (mem_of_lookup q))
         · exact q.1
       · rcases ZB O.cell hk with q | q
         · exact q
         · cases q.2
     have:=cl2 _ (mem_of_lookup hf) rfl
     cases e:cl.lookup y with
     | none=>exact absurd e this
     | some c=>exact ⟨c,e⟩
   · intro y c hf;cases hf
   · intro b hb
     obtain ⟨g0,g1,g2,g3,g4,g5⟩:=f3 b hb
     exact ⟨Nat.ne_of_lt (hobj b hb),fun y c e=>g4 y c (cl1 y c e)⟩
   · intro b o e hb
     obtain ⟨g0,g1,g2,g3,g4,g5⟩:=f3 b hb
     rcases g3 with g3 | g3
     · exact I3.ok.noex b o e g3
     · exact absurd (Heap.lt_size e) (Nat.not_lt.mpr (Nat.le_trans I3.ok.bsz g3))
   · intro b hb hs
     obtain ⟨g0,g1,g2,g3,g4,g5⟩:=f3 b hb
     rcases List.mem_cons.mp (I3.stkSub b hs) with e | e
     · exact g1 e
     · exact g2 e
 have I4 : Inv (Ye X scope x cl s₃.heap.objs.size s₃ H3 fp) [] (σ++[none]) H3 s₄:=by
   obtain ⟨m,hm,hl⟩:=I3.loc
   refine ⟨ok',by rw [← hs4];rfl,by rw [← hs4];exact I3.bare,by rw [h4];exact Un.kept old,⟨_,by rw [h4];exact hns₁,?_⟩,?_,I3.hok.fresh (Nat.le_refl _),fun y c e=>I3.freeC y c (cl1 y c e),?_,by rw [h4];exact I3.hok.kept old,?_⟩
   · intro i y v e1 e2 e3
     have hlt:i < σ.length:=by
       rcases Nat.lt_or_ge i σ.length with z | z
       · exact z
       · rw [List.getElem?_append_right z] at e2
         cases e:i - σ.length with
         | zero=>rw [e] at e2;simp at e2
         | succ k=>rw [e] at e2;simp at e2
     rw [List.getElem?_append_left hlt] at e2
     have hsm:∃ k,scope.names.lookup y=some k:=by
       rcases e3 with hk | hk | hk
       · rcases ZB O.cell hk with q | q
         · exact ⟨_,q⟩
         · exact ⟨_,q.1⟩
       · rcases ZB O.cell hk with q | q
         · exact ⟨_,q⟩
         · exact ⟨_,q.1⟩
       · rcases ZB O.cell hk with q | q
         · exact ⟨_,q⟩
         · exact ⟨_,q.1⟩
     obtain ⟨e1',hyx⟩:X.N[i]?=some y∧y≠x:=by
       have e1:(UI X.N x++[x])[i]?=some y:=e1
       rw [List.getElem?_append_left (by rw [We,← I3.len];exact hlt)] at e1
       rcases VO e1 with z | z
       · exact z
       · obtain ⟨k,hk⟩:=hsm
         rw [z,O.noh] at hk;cases hk
     have hy:y∈X.N:=List.mem_of_getElem? e1'
     have hf:scope.names.lookup y=some .free:=by
       rcases e3 with hk | hk | hk
       · rcases ZB O.cell hk with q | q
         · exact absurd q (O.own y hy hyx)
         · exact q.1
       · rcases ZB O.cell hk with q | q
         · exact absurd rfl (O.cell _ (mem_of_lookup q))
         · exact q.1
       · rcases ZB O.cell hk with q | q
         · exact q
         · exact q.1
     have hk:=O.clos _ (mem_of_lookup hf) rfl
     have hv:Vis X.env.scope y:=by rcases hk with z | z;exact .inr (.inl z);exact .inr (.inr z)
     obtain ⟨u,ru,lu⟩:=hl i y v e1' e2 hv
     refine ⟨u,ru,?_⟩
     have hkc:(compEnvC scope cl s₃.heap.objs.size X.env).kindOf y=some .cell∨(compEnvC scope cl s₃.heap.objs.size X.env).kindOf y=some .free:=by
       rcases e3 with q | q | q
       · rcases ZB O.cell q with z | z
         · exact absurd z (O.own y hy hyx)
         · cases z.2
       · exact .inl q
       · exact .inr q
     rcases lu with ⟨q,_⟩ | ⟨_,c,hcl,hcc⟩
     · rcases hk with z | z<;>(rw [q] at z;cases z)
     · refine .inr ⟨hkc,?_⟩
       cases e:cl.lookup y with
       | none=>exact absurd e (cl2 _ (mem_of_lookup hf) rfl)
       | some c' =>
         have:=cl1 y c' e
         rw [hcl] at this
         cases this
         refine ⟨c,e,?_⟩
         rw [h4]
         obtain ⟨oc,ho,hd⟩:=hcc
         exact ⟨oc,old _ _ ho,hd⟩
   · intro y c e
     obtain ⟨v,oc,ho,hd⟩:=I3.cell y c (cl1 y c e)
     exact ⟨v,oc,by rw [h4];exact old _ _ ho,hd⟩
   · intro p hp;cases hp
   · show (σ++[none]).length=(UI X.N x++[x]).length
     rw [List.length_append,List.length_append,We,I3.len];rfl
 have st4:tn 0 s₄.heap:=by rw [h4];exact T.keep _ _ _ st3' fun b hb o e=>old b o e
 have fpok:∀ {H':Hp},(∀ b∈fp,H' b=none)→∀ b∈fp,YC (Ye X scope x cl s₃.heap.objs.size s₃ H3 fp) [] H' b:=fun hn b hb=>by
   obtain ⟨g0,g1,g2,g3,g4,g5⟩:=f3 b hb
   refine ⟨hn b hb,Nat.ne_of_lt (hobj b hb),ok'.exfs b hb,.inl hb,fun y c e=>g4 y c (cl1 y c e),?_⟩
   intro p hp;cases hp
 have loop:codeAny (model X.prog X.w) X.A (.compLoop (.ListComp elt [⟨.Name x px,iter,[cnd],0⟩] scope pos) 0 (.ref it) (.ref D) (compEnvC scope cl s₃.heap.objs.size X.env)) (RR (.ref D) s₃.heap.objs.size) s₄:=by
   refine Vl (fun n s'=>∃ i ys w' H',Inv (Ye X scope x cl s₃.heap.objs.size s₃ H3 fp) [] (σ++[w']) H' s'∧tn i s'.heap∧(∀ b∈fp,H' b=none)∧W i n ys H') ?_ m0 ⟨0,[],none,H3,I4,st4,fun b hb=>(f3 b hb).1,w0⟩
   rintro n s5 ⟨i,ys,w',H5,I5,st5,fr5,w5⟩
   rcases turn i n ys H5 w5 with ⟨stop,q⟩ | ⟨go,N,M,hN,hM,step⟩
   · refine Zp (T.done (Ye X scope x cl s₃.heap.objs.size s₃ H3 fp) rfl rfl rfl hc i [] s5 _ H5 _ I5 (fpok fr5) st5 stop) fun r s6 ⟨hr,I6⟩=>?_
     subst hr
     obtain ⟨m6,hn6,_⟩:=I6.loc
     have IX:Inv X pins σ H5 s6:=I3.call' (ch:=fp) I6.os I6.base I6.hok I6.bare fun b hb=>by
       obtain ⟨g0,g1,g2,g3,g4,g5⟩:=f3 b hb
       exact ⟨g3,g1,g4,g5⟩
     exact hRR D _ H5 s6 IX (I3.fpOk (Nat.le_refl _) I6.free) ⟨m6,hn6⟩ q
   · refine Zp (T.item (Ye X scope x cl s₃.heap.objs.size s₃ H3 fp) rfl rfl rfl hc i [] s5 _ H5 _ I5 (fpok fr5) st5 go) fun r s6 ⟨u,hr,h6⟩=>?_
     subst hr
     refine Zp h6 fun _ s7 ⟨v,H7,I7,r7,y7,st7,fr7⟩=>?_
     have I7':=I7.pinned (fpok fr7) (T.obj _ _ st7)
     have hixN:(Ye X scope x cl s₃.heap.objs.size s₃ H3 fp).N[σ.length]?=some x:=by
       show (UI X.N x++[x])[σ.length]?=some x
       rw [I3.len,← We X.N x];simp
     refine Zp (ZD (X:=Ye X scope x cl s₃.heap.objs.size s₃ H3 fp) (pos:=px) O.nd hixN (.inl (lookup_relabel_local O.loc)) (.inr (lookup_relabel_local O.loc)) _ s7 _ H7 v u (fun σ' H'=>σ'=σ++[some v]∧H'=H7) I7' r7 ⟨by simp,rfl⟩) fun _ s8 ⟨σ8,H8,I8,e8,e8'⟩=>?_
     subst e8 e8'
     refine Zp (hcn cl s₃.heap.objs.size s₃ H3 fp _ s8 _ H8 _ I8 (step v H8 y7)) fun bb s8b ⟨H8b,I8b,q8b⟩=>?_
     cases bb with
     | false =>
       obtain ⟨m',hm',w9⟩:=hM H8b q8b
       refine ⟨m',hm',i+1,ys,some v,_,I8b.unpinned (pins:=[]),T.keep _ _ _ st7 fun b hb o e=>(I8b.pin (b,o) (List.mem_append_right _ (List.mem_append_right _ (YK hb e)))).1,fun b hb=>?_,w9⟩
       obtain ⟨o,e,d⟩:=T.obj _ _ st7 b hb
       exact (I8b.pin (b,o) (List.mem_append_right _ (List.mem_append_right _ (YK hb e)))).2.1
     | true =>
       refine Zp (he cl s₃.heap.objs.size s₃ H3 fp _ s8b _ H8b _ I8b q8b) fun uy s9 ⟨y,H9,I9,r9,n9⟩=>?_
       obtain ⟨hl9,hz9,m',hm',w9⟩:=hN y H9 n9
       refine Zp (YX (X:=Ye X scope x cl s₃.heap.objs.size s₃ H3 fp) _ s9 _ H9 (.ref D) [y] (.ref D) [uy] (fun v H'=>H'=upd H9 D (.lst (ys++[y]))) I9 rfl (.cons r9 .nil) ⟨D,ys,y,rfl,rfl,hl9,hz9,rfl⟩) fun _ s10 ⟨_,H10,I10,_,e10⟩=>?_
       subst e10
       refine ⟨m',hm',i+1,ys++[y],some v,_,I10.unpinned (pins:=[]),T.keep _ _ _ st7 fun b hb o e=>(I10.pin (b,o) (List.mem_append_right _ (List.mem_append_right _ (YK hb e)))).1,fun b hb=>?_,w9⟩
       obtain ⟨o,e,d⟩:=T.obj _ _ st7 b hb
       exact (I10.pin (b,o) (List.mem_append_right _ (List.mem_append_right _ (YK hb e)))).2.1
 exact codeAny_compStart_list loop (T.self _ 0 _ _ _ st4 loop)
theorem Zji (O:CompOk X scope x)(hc:X.calm=true)(hi:PI X (.Name x px) iter wi)(hcn:∀ cl C s₀ H₀ fp,PT (Ye X scope x cl C s₀ H₀ fp) cnd tc)(he:∀ cl C s₀ H₀ fp,PE (Ye X scope x cl C s₀ H₀ fp) elt te)
   (hs:∀ v,foldedSetIterable iter X.env v=pure v:=by intro _;rfl):PE X (.ListComp elt [⟨.Name x px,iter,[cnd],0⟩] scope pos) (Zmh wi tc te):=by
 intro pins s σ H Q I h
 obtain ⟨cl,hcl,cl1,cl2⟩:=Ug (scope:=scope) (env:=X.env) fun y hy hf=>I.ok.has _ (O.clos y hy hf)
 rw [eval_ListComp]
 refine wpAny_comprehension_free (use:=none) rfl hs hcl O.kind O.names (Zp (hi pins s σ H _ I h) fun v s1 h1=>Zp h1 fun itv s2 h2=>?_)
 obtain ⟨it,fp,tn,J,H2,e,I2,T,st2,f2,q⟩:=h2
 subst e
 refine ZdE (RR:=fun acc C=>compPost (model X.prog X.w) X.A X.xe none (EP X pins σ Q) acc C) O hc cl1 cl2 hcn he I2 T st2 f2 q ?_
 intro D C H' s' I' ⟨g0,g1,g2,g3,g4,g5⟩ ⟨m,hm⟩ hq
 exact ⟨m,hm,fun h' hs'=>⟨.ref D,H',I'.turned (t':=s'.toks) (fun b o hb e=>(hs'.2 b hb).trans e) g0 g1 g3 g4 g5,rfl,hq⟩⟩
end
theorem ZfN {K:PySem.W.Frag}{a:Addr}{xs:List V}{tc:TT}{te:TE}{σ:St}{D:Addr}{Q:VK}{H:Hp}(hn:xs.length≤sizeLine)(Pv:Nat→List V→Hp→Prop)(h0:Pv 0 [] (upd H D (.lst [])))
   (hl:∀ i ys H,Pv i ys H→ys.length≤i∧SqT K H a xs)
   (hs:∀ i x ys H,xs[i]?=some x→Pv i ys H→tc (σ++[some x]) H fun b H3=>if b=true then te (σ++[some x]) H3 fun y H4=>H4 D=some (.lst ys)∧Pv (i+1) (ys++[y]) (upd H4 D (.lst (ys++[y]))) else Pv (i+1) ys H3) (hd:∀ ys H,Pv xs.length ys H→Q (.ref D) H):ZfJ (Itt K a) tc te σ D Q H:=by
 refine ⟨fun i m ys H=>m=xs.length - i∧i≤xs.length∧Pv i ys H,⟨xs.length,by simp,Nat.zero_le _,h0⟩,?_⟩
 rintro i m ys H2 ⟨rfl,hi,p⟩
 obtain ⟨hlen,q⟩:=hl i ys _ p
 by_cases hlt:i < xs.length
 · refine .inr ⟨⟨xs,xs[i],q,by simp [hlt]⟩,_,_,fun y H4 (q:H4 D=some (.lst ys)∧Pv (i+1) (ys++[y]) (upd H4 D (.lst (ys++[y]))))=>⟨q.1,by omega,xs.length - (i+1),by omega,rfl,hlt,q.2⟩,fun H4 (q:Pv (i+1) ys H4)=>⟨xs.length - (i+1),by omega,rfl,hlt,q⟩,fun v H3 y=>?_⟩
   obtain ⟨e,y⟩:=y
   subst e
   exact hs i v ys _ (y xs q) p
 · have e:i=xs.length:=by omega
   subst e
   exact .inl ⟨⟨xs,q,Nat.le_refl _⟩,hd ys H2 p⟩
end L2
set_option maxHeartbeats 2000000
namespace L2
open PySem PySem.Spec PyProof.Rows
def Ud (N:List Str)(xa xb:Str):List Str:=UI (UI N xa) xb
theorem ZcH (N:List Str)(xa xb:Str):(Ud N xa xb).length=N.length:=by unfold Ud;rw [We,We]
theorem ZhC {N:List Str}{xa xb y:Str}{i:Nat}(h:(Ud N xa xb)[i]?=some y):(N[i]?=some y∧¬ (y=xa∨y=xb))∨y="":=by
 rcases VO h with ⟨h1,h2⟩ | h1
 · rcases VO h1 with ⟨h3,h4⟩ | h3
   · exact .inl ⟨h3,fun z=>z.elim h4 h2⟩
   · exact .inr h3
 · exact .inr h1
def YV (X:Cx)(scope:Scope)(xa xb:Str)(cl:List (Str×Addr))(C:Addr)(s₀:Shared)(H₀:Hp)(fp:List Addr):Cx:={ Ye X scope xa cl C s₀ H₀ fp with N:=Ud X.N xa xb++[xa,xb] }
structure CompOkT (X:Cx)(scope:Scope)(xa xb:Str):Prop where
 nd:(Ud X.N xa xb++[xa,xb]).Nodup
 clos:∀ y∈scope.names,y.2=.free→X.env.kindOf y.1=some .cell∨X.env.kindOf y.1=some .free
 cell:∀ y∈scope.names,y.2≠.cell
 kind:scope.kind=.function
 names:∀ y∈scope.names,y.2=.local→scope.names.lookup y.1=some .local
 own:∀ y∈X.N,¬ (y=xa∨y=xb)→scope.names.lookup y≠some .local
 noh:scope.names.lookup ("":Str)=none
def Zcl (J:It)(g:TG)(te:TE)(σ:St)(D:Addr)(Q:VK)(H1:Hp):Prop :=
 ∃ W:Nat→Nat→List V→Hp→Prop,(∃ m,W 0 m [] (upd H1 D (.lst [])))∧∀ i m ys H2,W i m ys H2 →
   (J.stop i H2∧Q (.ref D) H2)∨(J.go i H2∧∃ N:VK,(∀ y H4,N y H4→H4 D=some (.lst ys)∧ys.length < sizeLine∧∃ m',m' < m∧W (i+1) m' (ys++[y]) (upd H4 D (.lst (ys++[y]))))∧∀ wa wb v H3,J.yld i H2 v H3→g v (σ++[wa,wb]) H3 fun σ' H'=>(∃ wa wb,σ'=σ++[wa,wb])∧te σ' H' N)
def ZgK (wi:TI)(g:TG)(te:TE):TE:=fun σ H Q=>wi σ H fun J H1=>∀ D,H1 D=none→Zcl J g te σ D Q H1
section
variable {X:Cx}{elt iter tg:Expr}{xa xb:Str}{pos:Pos}{scope:Scope}{wi:TI}{te:TE}{g:TG}
theorem Zab {pins:List (Addr×Obj)}{σ:St}{H2:Hp}{s₂:Shared}{J:It}{fp:List Addr}{it:Addr}{tn:Nat→Heap→Prop}{cl:List (Str×Addr)}{E:Value→Shared→Prop}{Q:VK}{RR:Value→Addr→Result→Shared→Prop}
   (O:CompOkT X scope xa xb) (hc:X.calm=true) (cl1:∀ y c,cl.lookup y=some c→X.env.cells.lookup y=some c) (cl2:∀ y∈scope.names,y.2=.free→cl.lookup y.1≠none)
   (hg:∀ cl C s₀ H₀ fp,PG (YV X scope xa xb cl C s₀ H₀ fp) tg g) (he:∀ cl C s₀ H₀ fp,PE (YV X scope xa xb cl C s₀ H₀ fp) elt te)
   (I2:Inv X pins σ H2 s₂) (T:WE X.prog X.w X.K tg J fp it tn) (st:tn 0 s₂.heap) (f2:∀ b∈fp,YC X pins H2 b)
   (h:∀ D,H2 D=none→Zcl J g te σ D Q H2)
   (hRR:∀ D C H' s',Inv X pins σ H' s'→YC X pins H' C→(∃ m,s'.heap.Ns C m)→Q (.ref D) H'→RR (.ref D) C (.ok .next) s') :
   wpAny (model X.prog X.w) X.A (newList []) (fun acc s₃=>wpAny (model X.prog X.w) X.A (newFunctionEnv scope X.env.globals cl [] X.env.qual none .none (some X.env)) (fun cenv s₄ =>
     codeAny (model X.prog X.w) X.A (.compStart (.ListComp elt [⟨tg,iter,[],0⟩] scope pos) 0 (.ref it) acc { cenv with scope:=relabel scope X.env }) (RR acc cenv.locals) s₄) E s₃) E s₂:=by
 have hD:H2 s₂.heap.objs.size=none:=I2.hok.fresh (Nat.le_refl _)
 refine wpAny_newObj_type ?_
 have I3:Inv X pins σ (upd H2 s₂.heap.objs.size (.lst [])) { s₂ with heap:=s₂.heap.push { cls:=.type "list",data:=.seq ([]:List Value).toArray } } :=
   I2.laid (t':=s₂.toks) (fun b u e=>Heap.get?_push_of_some _ e) (Nat.le_refl _) ⟨Nat.zero_le _,[],_,.nil,Heap.get?_push_size _ rfl⟩
 have f3:∀ b∈fp,YC X pins (upd H2 s₂.heap.objs.size (.lst [])) b:=fun b hb=>by
   obtain ⟨g0,g1⟩:=f2 b hb
   obtain ⟨o,e,_⟩:=T.obj 0 _ st b hb
   exact ⟨by rw [Zm (Nat.ne_of_lt (Heap.lt_size e))];exact g0,g1⟩
 have st3:tn 0 (s₂.heap.push { cls:=.type "list",data:=.seq ([]:List Value).toArray }):=T.keep _ _ _ st fun b hb o e=>Heap.get?_push_of_some _ e
 obtain ⟨W,⟨m0,w0⟩,turn⟩:=h _ hD
 generalize hDe:s₂.heap.objs.size=D at I3 f3 w0 turn ⊢
 generalize hH3:upd H2 D (.lst [])=H3 at I3 f3 w0 turn ⊢
 generalize hs3:({ s₂ with heap:=s₂.heap.push { cls:=.type "list",data:=.seq ([]:List Value).toArray } }:Shared)=s₃ at I3
 have st3':tn 0 s₃.heap:=by rw [← hs3];exact st3
 have hobj:∀ b∈fp,b < s₃.heap.objs.size:=fun b hb=>by
   obtain ⟨o,e,_⟩:=T.obj 0 _ st3' b hb
   exact Heap.lt_size e
 refine wpAny_newFunctionEnv O.cell (by intro y hy;simp at hy) (fun h₁ hns₁ hsb₁=>?_) O.kind
 have old:∀ b o,s₃.heap.get? b=some o→h₁.get? b=some o:=fun b o e=>hsb₁.extBut b o (Nat.ne_of_lt (Heap.lt_size e)) (Heap.get?_push_of_some _ e)
 generalize hs4:({ s₃ with heap:=h₁,toks:=s₃.toks+([]:List (Str×Value)).length }:Shared)=s₄
 have h4:s₄.heap=h₁:=by rw [← hs4]
 have hX:∀ C,YC X pins C s₃.heap.objs.size→True:=fun _ _=>trivial
 have ok':(YV X scope xa xb cl s₃.heap.objs.size s₃ H3 fp).Ok:=by
   refine ⟨I3.ok.mod,O.kind,I3.ok.glob,I3.ok.blt,Nat.le_refl _,?_,?_,?_,I3.ok.hd,I3.ok.frames,.inl rfl,?_,I3.bs,Nat.le_trans I3.ok.bsz I3.sz,?_,?_,I3.stack,I3.stkFree⟩
   · exact fun y z c e1 e2=>I3.ok.inj y z c (cl1 y c e1) (cl1 z c e2)
   · intro y hk
     have hf:scope.names.lookup y=some .free:=by
       rcases hk with hk | hk
       · rcases ZB O.cell hk with q | q
         · exact absurd rfl (O.cell _ (mem_of_lookup q))
         · exact q.1
       · rcases ZB O.cell hk with q | q
         · exact q
         · cases q.2
     have:=cl2 _ (mem_of_lookup hf) rfl
     cases e:cl.lookup y with
     | none=>exact absurd e this
     | some c=>exact ⟨c,e⟩
   · intro y c hf;cases hf
   · intro b hb
     obtain ⟨g0,g1,g2,g3,g4,g5⟩:=f3 b hb
     exact ⟨Nat.ne_of_lt (hobj b hb),fun y c e=>g4 y c (cl1 y c e)⟩
   · intro b o e hb
     obtain ⟨g0,g1,g2,g3,g4,g5⟩:=f3 b hb
     rcases g3 with g3 | g3
     · exact I3.ok.noex b o e g3
     · exact absurd (Heap.lt_size e) (Nat.not_lt.mpr (Nat.le_trans I3.ok.bsz g3))
   · intro b hb hs
     obtain ⟨g0,g1,g2,g3,g4,g5⟩:=f3 b hb
     rcases List.mem_cons.mp (I3.stkSub b hs) with e | e
     · exact g1 e
     · exact g2 e
 have I4 : Inv (YV X scope xa xb cl s₃.heap.objs.size s₃ H3 fp) [] (σ++[none,none]) H3 s₄:=by
   obtain ⟨m,hm,hl⟩:=I3.loc
   refine ⟨ok',by rw [← hs4];rfl,by rw [← hs4];exact I3.bare,by rw [h4];exact Un.kept old,⟨_,by rw [h4];exact hns₁,?_⟩,?_,I3.hok.fresh (Nat.le_refl _),fun y c e=>I3.freeC y c (cl1 y c e),?_,by rw [h4];exact I3.hok.kept old,?_⟩
   · intro i y v e1 e2 e3
     have hlt:i < σ.length:=by
       rcases Nat.lt_or_ge i σ.length with z | z
       · exact z
       · rw [List.getElem?_append_right z] at e2
         have:=List.mem_of_getElem? e2
         simp at this
     rw [List.getElem?_append_left hlt] at e2
     have hsm:∃ k,scope.names.lookup y=some k:=by
       rcases e3 with hk | hk | hk
       · rcases ZB O.cell hk with q | q
         · exact ⟨_,q⟩
         · exact ⟨_,q.1⟩
       · rcases ZB O.cell hk with q | q
         · exact ⟨_,q⟩
         · exact ⟨_,q.1⟩
       · rcases ZB O.cell hk with q | q
         · exact ⟨_,q⟩
         · exact ⟨_,q.1⟩
     obtain ⟨e1',hyx⟩:X.N[i]?=some y∧¬ (y=xa∨y=xb):=by
       have e1:(Ud X.N xa xb++[xa,xb])[i]?=some y:=e1
       rw [List.getElem?_append_left (by rw [ZcH,← I3.len];exact hlt)] at e1
       rcases ZhC e1 with z | z
       · exact z
       · obtain ⟨k,hk⟩:=hsm
         rw [z,O.noh] at hk;cases hk
     have hy:y∈X.N:=List.mem_of_getElem? e1'
     have hf:scope.names.lookup y=some .free:=by
       rcases e3 with hk | hk | hk
       · rcases ZB O.cell hk with q | q
         · exact absurd q (O.own y hy hyx)
         · exact q.1
       · rcases ZB O.cell hk with q | q
         · exact absurd rfl (O.cell _ (mem_of_lookup q))
         · exact q.1
       · rcases ZB O.cell hk with q | q
         · exact q
         · exact q.1
     have hk:=O.clos _ (mem_of_lookup hf) rfl
     have hv:Vis X.env.scope y:=by rcases hk with z | z;exact .inr (.inl z);exact .inr (.inr z)
     obtain ⟨u,ru,lu⟩:=hl i y v e1' e2 hv
     refine ⟨u,ru,?_⟩
     have hkc:(compEnvC scope cl s₃.heap.objs.size X.env).kindOf y=some .cell∨(compEnvC scope cl s₃.heap.objs.size X.env).kindOf y=some .free:=by
       rcases e3 with q | q | q
       · rcases ZB O.cell q with z | z
         · exact absurd z (O.own y hy hyx)
         · cases z.2
       · exact .inl q
       · exact .inr q
     rcases lu with ⟨q,_⟩ | ⟨_,c,hcl,hcc⟩
     · rcases hk with z | z<;>(rw [q] at z;cases z)
     · refine .inr ⟨hkc,?_⟩
       cases e:cl.lookup y with
       | none=>exact absurd e (cl2 _ (mem_of_lookup hf) rfl)
       | some c' =>
         have:=cl1 y c' e
         rw [hcl] at this
         cases this
         refine ⟨c,e,?_⟩
         rw [h4]
         obtain ⟨oc,ho,hd⟩:=hcc
         exact ⟨oc,old _ _ ho,hd⟩
   · intro y c e
     obtain ⟨v,oc,ho,hd⟩:=I3.cell y c (cl1 y c e)
     exact ⟨v,oc,by rw [h4];exact old _ _ ho,hd⟩
   · intro p hp;cases hp
   · show (σ++[none,none]).length=(Ud X.N xa xb++[xa,xb]).length
     rw [List.length_append,List.length_append,ZcH,I3.len];rfl
 have st4:tn 0 s₄.heap:=by rw [h4];exact T.keep _ _ _ st3' fun b hb o e=>old b o e
 have fpok:∀ {H':Hp},(∀ b∈fp,H' b=none)→∀ b∈fp,YC (YV X scope xa xb cl s₃.heap.objs.size s₃ H3 fp) [] H' b:=fun hn b hb=>by
   obtain ⟨g0,g1,g2,g3,g4,g5⟩:=f3 b hb
   refine ⟨hn b hb,Nat.ne_of_lt (hobj b hb),ok'.exfs b hb,.inl hb,fun y c e=>g4 y c (cl1 y c e),?_⟩
   intro p hp;cases hp
 have loop:codeAny (model X.prog X.w) X.A (.compLoop (.ListComp elt [⟨tg,iter,[],0⟩] scope pos) 0 (.ref it) (.ref D) (compEnvC scope cl s₃.heap.objs.size X.env)) (RR (.ref D) s₃.heap.objs.size) s₄:=by
   refine Wz (fun n s'=>∃ i ys wa wb H',Inv (YV X scope xa xb cl s₃.heap.objs.size s₃ H3 fp) [] (σ++[wa,wb]) H' s'∧tn i s'.heap∧(∀ b∈fp,H' b=none)∧W i n ys H') ?_ m0 ⟨0,[],none,none,H3,I4,st4,fun b hb=>(f3 b hb).1,w0⟩
   rintro n s5 ⟨i,ys,wa,wb,H5,I5,st5,fr5,w5⟩
   rcases turn i n ys H5 w5 with ⟨stop,q⟩ | ⟨go,N,hN,step⟩
   · refine Zp (T.done (YV X scope xa xb cl s₃.heap.objs.size s₃ H3 fp) rfl rfl rfl hc i [] s5 _ H5 _ I5 (fpok fr5) st5 stop) fun r s6 ⟨hr,I6⟩=>?_
     subst hr
     obtain ⟨m6,hn6,_⟩:=I6.loc
     have IX:Inv X pins σ H5 s6:=I3.call' (ch:=fp) I6.os I6.base I6.hok I6.bare fun b hb=>by
       obtain ⟨g0,g1,g2,g3,g4,g5⟩:=f3 b hb
       exact ⟨g3,g1,g4,g5⟩
     exact hRR D _ H5 s6 IX (I3.fpOk (Nat.le_refl _) I6.free) ⟨m6,hn6⟩ q
   · refine Zp (T.item (YV X scope xa xb cl s₃.heap.objs.size s₃ H3 fp) rfl rfl rfl hc i [] s5 _ H5 _ I5 (fpok fr5) st5 go) fun r s6 ⟨u,hr,h6⟩=>?_
     subst hr
     refine Zp h6 fun _ s7 ⟨v,H7,I7,r7,y7,st7,fr7⟩=>?_
     have I7':=I7.pinned (fpok fr7) (T.obj _ _ st7)
     refine Zp (hg cl s₃.heap.objs.size s₃ H3 fp _ s7 _ H7 v u _ I7' r7 (step wa wb v H7 y7)) fun _ s8 ⟨σ8,H8,I8,⟨wa',wb',e8⟩,q8⟩=>?_
     subst e8
     refine Zp (he cl s₃.heap.objs.size s₃ H3 fp _ s8 _ H8 _ I8 q8) fun uy s9 ⟨y,H9,I9,r9,n9⟩=>?_
     obtain ⟨hl9,hz9,m',hm',w9⟩:=hN y H9 n9
     refine Zp (YX (X:=YV X scope xa xb cl s₃.heap.objs.size s₃ H3 fp) _ s9 _ H9 (.ref D) [y] (.ref D) [uy] (fun v H'=>H'=upd H9 D (.lst (ys++[y]))) I9 rfl (.cons r9 .nil) ⟨D,ys,y,rfl,rfl,hl9,hz9,rfl⟩) fun _ s10 ⟨_,H10,I10,_,e10⟩=>?_
     subst e10
     refine ⟨m',hm',i+1,ys++[y],wa',wb',_,I10.unpinned (pins:=[]),T.keep _ _ _ st7 fun b hb o e=>(I10.pin (b,o) (List.mem_append_right _ (List.mem_append_right _ (YK hb e)))).1,fun b hb=>?_,w9⟩
     obtain ⟨o,e,d⟩:=T.obj _ _ st7 b hb
     exact (I10.pin (b,o) (List.mem_append_right _ (List.mem_append_right _ (YK hb e)))).2.1
 exact codeAny_compStart_list loop (T.self _ 0 _ _ _ st4 loop)
theorem ZhS (O:CompOkT X scope xa xb)(hc:X.calm=true)(hi:PI X tg iter wi)(hg:∀ cl C s₀ H₀ fp,PG (YV X scope xa xb cl C s₀ H₀ fp) tg g)(he:∀ cl C s₀ H₀ fp,PE (YV X scope xa xb cl C s₀ H₀ fp) elt te)
   (hs:∀ v,foldedSetIterable iter X.env v=pure v:=by intro _;rfl):PE X (.ListComp elt [⟨tg,iter,[],0⟩] scope pos) (ZgK wi g te):=by
 intro pins s σ H Q I h
 obtain ⟨cl,hcl,cl1,cl2⟩:=Ug (scope:=scope) (env:=X.env) fun y hy hf=>I.ok.has _ (O.clos y hy hf)
 rw [eval_ListComp]
 refine wpAny_comprehension_free (use:=none) rfl hs hcl O.kind O.names (Zp (hi pins s σ H _ I h) fun v s1 h1=>Zp h1 fun itv s2 h2=>?_)
 obtain ⟨it,fp,tn,J,H2,e,I2,T,st2,f2,q⟩:=h2
 subst e
 refine Zab (RR:=fun acc C=>compPost (model X.prog X.w) X.A X.xe none (EP X pins σ Q) acc C) O hc cl1 cl2 hg he I2 T st2 f2 q ?_
 intro D C H' s' I' ⟨g0,g1,g2,g3,g4,g5⟩ ⟨m,hm⟩ hq
 exact ⟨m,hm,fun h' hs'=>⟨.ref D,H',I'.turned (t':=s'.toks) (fun b o hb e=>(hs'.2 b hb).trans e) g0 g1 g3 g4 g5,rfl,hq⟩⟩
end
end L2
set_option maxHeartbeats 2000000
namespace L2
open PySem PySem.Spec PyProof.Rows
end L2
set_option maxHeartbeats 2000000
namespace L2
open PySem PySem.Spec PyProof.Rows
section
variable {X:Cx}{elt iter tg cnd:Expr}{xa xb:Str}{pos:Pos}{scope:Scope}{wi:TI}{te:TE}{tc:TT}{g:TG}
end
end L2
set_option maxHeartbeats 1000000
namespace L2
open PySem
def UL:HO→Bool
 | .tup _=>false
 | .frz _ _=>false
 | .own _=>false
 | .met _ _=>false
 | .rng _ _=>false
 | .ext _=>false
 | _=>true
def cut (H h:Hp):Hp:=fun b=>match h b with
 | some o=>if UL o=true then none else H b
 | none=>H b
def one (p:Addr)(o:HO):Hp:=fun b=>if b=p then some o else none
theorem one_some {p b:Addr}{o u:HO}:one p o b=some u↔b=p∧o=u:=by
 unfold one
 by_cases h:b=p
 · rw [if_pos h];exact ⟨fun z=>⟨h,Option.some.inj z⟩,fun z=>by rw [z.2]⟩
 · rw [if_neg h];exact ⟨fun z=>(by cases z),fun z=>absurd z.1 h⟩
abbrev WA:=Addr→Hp→Prop
abbrev Rs:=List (Addr×WA)
def Sep:Rs→Hp→Prop
 | [],_=>True
 | (a,R)::Δ,H=>∃ h,Same h H∧R a h∧Sep Δ (cut H h)
theorem cut_some {H h:Hp}{b:Addr}{o:HO}:cut H h b=some o↔H b=some o∧∀ u,h b=some u→UL u=false:=by
 unfold cut
 cases e:h b with
 | none=>exact ⟨fun z=>⟨z,fun u q=>by cases q⟩,fun z=>z.1⟩
 | some v =>
   cases m:UL v with
   | true=>show (if UL v=true then none else H b)=some o↔_;rw [if_pos m];exact ⟨fun z=>(by cases z),fun z=>(by have:=z.2 v rfl;rw [m] at this;cases this)⟩
   | false=>show (if UL v=true then none else H b)=some o↔_;rw [if_neg (by rw [m];decide)];exact ⟨fun z=>⟨z,fun u q=>(by cases q;exact m)⟩,fun z=>z.1⟩
theorem ZgE {H h:Hp}:Same (cut H h) H:=fun b o e=>(cut_some.mp e).1
theorem Zin {H H' h:Hp}(s:Same H H'):Same (cut H h) (cut H' h):=fun b o e=>let ⟨x,y⟩:=cut_some.mp e;cut_some.mpr ⟨s _ _ x,y⟩
theorem Sep.mono:∀{Δ:Rs}{H H':Hp},Sep Δ H→Same H H'→Sep Δ H'
 | [],_,_,_,_=>trivial
 | (_,_)::_,_,_,⟨h,l,r,S⟩,s=>⟨h,l.trans s,r,S.mono (Zin s)⟩
theorem Sep.swap {a b:Addr}{R T:WA}{Δ:Rs}{H:Hp}(S:Sep ((a,R)::(b,T)::Δ) H):Sep ((b,T)::(a,R)::Δ) H:=by
 obtain ⟨h,l,r,g,m,t,S⟩:=S
 refine ⟨g,m.trans ZgE,t,h,fun c o e=>cut_some.mpr ⟨l _ _ e,fun u q=>?_⟩,r,S.mono fun c o e=>?_⟩
 · obtain ⟨q1,q2⟩:=cut_some.mp (m _ _ q)
   have e2:=l _ _ e
   rw [q1] at e2;cases e2
   exact q2 _ e
 · obtain ⟨e1,e2⟩:=cut_some.mp e
   obtain ⟨e3,e4⟩:=cut_some.mp e1
   exact cut_some.mpr ⟨cut_some.mpr ⟨e3,e2⟩,e4⟩
theorem Sep.tail {a:Addr}{R:WA}{Δ:Rs}{H:Hp}(S:Sep ((a,R)::Δ) H):Sep Δ H:=by
 obtain ⟨h,l,r,S⟩:=S
 exact S.mono ZgE
class Pull (a:Addr) (Δ:Rs) (R:outParam WA) (Δ':outParam Rs):Prop where
 out:∀ {H},Sep Δ H→Sep ((a,R)::Δ') H
instance (priority:=1000) Pull.here {a:Addr} {R:WA} {Δ:Rs}:Pull a ((a,R)::Δ) R Δ:=⟨fun S=>S⟩
instance (priority:=900) Pull.there {a b:Addr} {R T:WA} {Δ Δ':Rs} [P:Pull a Δ R Δ']:Pull a ((b,T)::Δ) R ((b,T)::Δ') :=
 ⟨fun S=>by
   obtain ⟨h,l,r,S⟩:=S
   exact Sep.swap ⟨h,l,r,P.out S⟩⟩
theorem Sep.pull {Δ Δ':Rs}{H:Hp}{R:WA}(S:Sep Δ H)(a:Addr)[P:Pull a Δ R Δ']:Sep ((a,R)::Δ') H:=P.out S
theorem Sep.drop {Δ Δ':Rs}{H:Hp}{R:WA}(S:Sep Δ H)(a:Addr)[P:Pull a Δ R Δ']:Sep Δ' H:=(P.out S).tail
class Up (R:WA):Prop where
 up:∀ {a:Addr} {H H':Hp},R a H→Same H H'→R a H'
theorem Sep.get {Δ Δ':Rs}{H:Hp}{R:WA}(S:Sep Δ H)(a:Addr)[P:Pull a Δ R Δ'][U:Up R]:R a H:=by
 obtain ⟨h,l,r,_⟩:=P.out S
 exact U.up r l
def Pt (o:HO):WA:=fun a h=>h a=some o
abbrev UB (xs:List V):WA:=Pt (.lst xs)
instance {o:HO}:Up (Pt o):=⟨fun h s=>s _ _ h⟩
theorem Sep.new {Δ:Rs}{H:Hp}(S:Sep Δ H){p:Addr}(hp:H p=none)(o:HO):Sep ((p,Pt o)::Δ) (upd H p o):=by
 refine ⟨one p o,fun b u e=>?_,one_some.mpr ⟨rfl,rfl⟩,S.mono fun b u e=>?_⟩
 · obtain ⟨rfl,rfl⟩:=one_some.mp e;exact Zb
 · have hb:=ZG e hp
   exact cut_some.mpr ⟨by rw [Zm hb];exact e,fun v q=>absurd (one_some.mp q).1 hb⟩
theorem Sep.made {Δ:Rs}{H H':Hp}(S:Sep Δ H)(s:Same H H'){p:Addr}{o:HO}(hp:H p=none)(e:H' p=some o):Sep ((p,Pt o)::Δ) H':=by
 refine ⟨one p o,fun b u q=>?_,one_some.mpr ⟨rfl,rfl⟩,S.mono fun b u q=>?_⟩
 · obtain ⟨rfl,rfl⟩:=one_some.mp q;exact e
 · have hb:=ZG q hp
   exact cut_some.mpr ⟨s _ _ q,fun v q=>absurd (one_some.mp q).1 hb⟩
theorem Sep.put {Δ Δ':Rs}{H:Hp}{o:HO}(S:Sep Δ H)(a:Addr)(o':HO)[P:Pull a Δ (Pt o) Δ'](m:UL o=true:=by rfl):Sep ((a,Pt o')::Δ') (upd H a o'):=by
 obtain ⟨h,l,r,S⟩:=P.out S
 refine ⟨one a o',fun b u q=>?_,one_some.mpr ⟨rfl,rfl⟩,S.mono fun b u q=>?_⟩
 · obtain ⟨rfl,rfl⟩:=one_some.mp q;exact Zb
 · obtain ⟨q1,q2⟩:=cut_some.mp q
   have hb:b≠a:=fun z=>by
     have:=q2 o (by rw [z];exact r)
     rw [m] at this;cases this
   exact cut_some.mpr ⟨by rw [Zm hb];exact q1,fun v q=>absurd (one_some.mp q).1 hb⟩
theorem Sep.say {Δ Δ':Rs}{H:Hp}{R:WA}(S:Sep Δ H)(a:Addr)(T:WA)[P:Pull a Δ R Δ'](f:∀ h,R a h→T a h):Sep ((a,T)::Δ') H:=by
 obtain ⟨h,l,r,S⟩:=P.out S
 exact ⟨h,l,f h r,S⟩
theorem Sep.call {Δ:Rs}{H H':Hp}{a:Addr}{R T:WA}{L:List Addr}(S:Sep ((a,R)::Δ) H)(k:∀ b o,b ∉ L→H b=some o→H' b=some o)
   (f:∀ h,Same h H→R a h→(∀ b∈L,∃ o,h b=some o∧UL o=true)∧∃ h',Same h' H'∧T a h'∧∀ b o,h' b=some o→UL o=true→b∈L∨H b=none∨∃ u,h b=some u∧UL u=true):Sep ((a,T)::Δ) H':=by
 obtain ⟨h,l,r,S⟩:=S
 obtain ⟨f1,h',l',t,f2⟩:=f h l r
 refine ⟨h',l',t,S.mono fun b o e=>?_⟩
 obtain ⟨e1,e2⟩:=cut_some.mp e
 have hb:b ∉ L:=fun z=>by
   obtain ⟨u,q1,q2⟩:=f1 b z
   rw [e2 u q1] at q2;cases q2
 refine cut_some.mpr ⟨k b o hb e1,fun u q=>?_⟩
 cases m:UL u with
 | false=>rfl
 | true =>
   rcases f2 b u q m with z | z | ⟨v,z1,z2⟩
   · exact absurd z hb
   · rw [e1] at z;cases z
   · rw [e2 v z1] at z2;cases z2
abbrev Bx (n:Nat):WA:=fun a h=>BoxAt h a n
instance {n:Nat}:Up (Bx n):=⟨fun h s=>h.same s⟩
theorem Sep.box {Δ:Rs}{H H':Hp}{p:Addr}{n m:Nat}(S:Sep ((p,Bx n)::Δ) H)(k:Kp p H H')(B:BoxAt H' p m):Sep ((p,Bx m)::Δ) H':=by
 refine S.call (L:=[p]) (fun b o nb e=>k b o (fun z=>nb (by simp [z])) e) fun h l r=>⟨fun b hb=>?_,?_⟩
 · rw [List.mem_singleton.mp hb]
   obtain ⟨x,y,z,e,_⟩:=r
   exact ⟨_,e,rfl⟩
 · obtain ⟨x,y,z,e,w⟩:=B
   refine ⟨one p (.lst [.int x,.int y,.int z]),fun b u q=>?_,⟨x,y,z,one_some.mpr ⟨rfl,rfl⟩,w⟩,fun b o q _=>.inl (by simp [(one_some.mp q).1])⟩
   obtain ⟨rfl,rfl⟩:=one_some.mp q;exact e
def ZdK (M:Int):Sp:=fun vs H Q _=>∃(p:Addr)(n:Nat)(m:Int)(Δ:Rs),vs=[.ref p,.int m]∧Sep ((p,Bx n)::Δ) H∧n≤1000000∧0 < m∧m < M∧∀(r:Int)(H':Hp),0≤r→r < m→Sep ((p,Bx (n+1))::Δ) H'→Q (.int r) H'
theorem ZlT {M:Int}{vs:List V}{H:Hp}{Q:VK}{E:XK}(h:ZdK M vs H Q E):ZaN M vs H Q E:=by
 obtain ⟨p,n,m,Δ,e,S,h1,h2,h3,q⟩:=h
 exact ⟨p,n,m,e,S.get p,h1,h2,h3,fun r H' a b B k=>q r H' a b (S.box k B)⟩
end L2
namespace L2
open PySem
end L2
namespace L2
open PySem
structure Yk (mg:Str→Option Value):Prop where
 len:mg "len"=none
 abs:mg "abs"=none
 int:mg "int"=none
 range:mg "range"=none
 min:mg "min"=none
 max:mg "max"=none
 repr:mg "repr"=none
 enumerate:mg "enumerate"=none
 ord:mg "ord"=none
 list:mg "list"=none
 tuple:mg "tuple"=none
 dict:mg "dict"=none
 sorted:mg "sorted"=none
 sum:mg "sum"=none
 all:mg "all"=none
 any:mg "any"=none
 divmod:mg "divmod"=none
 str:mg "str"=none
 isinstance:mg "isinstance"=none
 set:mg "set"=none
 zip:mg "zip"=none
 reversed:mg "reversed"=none
 bool:mg "bool"=none
abbrev DTk (P:Program)(w:World)(K:PySem.W.Frag)(mg:Str→Option Value)(base:Heap)(k:Nat):Prop:=Def P w K mg base k "_law_take" ["_law_box_here","_law_many"] (ZdK 4611686018427387904)
theorem FnOk.conv {P:Program}{w:World}{K:PySem.W.Frag}{mg:Str→Option Value}{base:Heap}{k:Nat}{f:Addr}{fd:FuncData}{ps:List Str}{sp sp':Sp}(F:FnOk P w K mg base ZY k f fd ps sp)(h:∀ vs H Q E,sp' vs H Q E→sp vs H Q E):FnOk P w K mg base ZY k f fd ps sp' :=
 ⟨fun vs H Q E z=>F.len vs H Q E (h vs H Q E z),fun A outer s H args us vs Q E hr he hb hv z=>F.run A outer s H args us vs Q E hr he hb hv (h vs H Q E z)⟩
theorem Def.conv {P:Program}{w:World}{K:PySem.W.Frag}{mg:Str→Option Value}{base:Heap}{k:Nat}{x:Str}{ps:List Str}{sp sp':Sp}(D:Def P w K mg base k x ps sp)(h:∀ vs H Q E,sp' vs H Q E→sp vs H Q E):Def P w K mg base k x ps sp' :=
 let ⟨f,fd,F,b,kp,m⟩:=D;⟨f,fd,F.conv h,b,kp,m⟩
theorem ZaJ {α:Type}{xs:List α}{r:Int}{v:α}(h0:0≤r)(h:xs[r.toNat]?=some v):Wm xs r=some v:=by
 have z:Wm xs ((r.toNat:Nat):Int)=some v:=YB h
 rwa [show ((r.toNat:Nat):Int)=r by omega] at z
theorem Zr {n m:Nat}(h:n≤m)(hm:m≤100000:=by decide):n≤sizeLine:=Nat.le_trans (Nat.le_trans h hm) (by decide)
theorem Uu {n m:Nat}(h:n≤m)(hm:m≤100000:=by decide):n < sizeLine:=Nat.lt_of_le_of_lt (Nat.le_trans h hm) (by decide)
end L2
set_option maxHeartbeats 2000000
namespace L2
open PySem
section
variable {X:Cx}{k:Nat}{C:Addr}{m:Str}{ps:List Str}{sp:Sp}{pos apos:Pos}{o e:Expr}{es:List Expr}{ta:TE}{t:TA}
end
theorem Zbo {α:Type}{xs:List α}{r:Int}(h0:0≤r)(h1:r < (xs.length:Int)):∃ v,Wm xs r=some v∧v∈xs:=by
 have hk:r.toNat < xs.length:=by omega
 have z:Wm xs ((r.toNat:Nat):Int)=some xs[r.toNat]:=YB (List.getElem?_eq_getElem hk)
 have e:((r.toNat:Nat):Int)=r:=by omega
 rw [e] at z
 exact ⟨_,z,List.getElem_mem hk⟩
def IsVal:V→Prop
 | .int i=>i.natAbs < 10 ^ 30
 | .str x=>x.length≤40∧x.cps.toList.all Yd=true
 | _=>False
def ZeT:V→Bool
 | .int i=>decide (i.natAbs < 10 ^ 30)
 | .str x=>decide (x.length≤40)&&x.cps.toList.all Yd
 | _=>false
theorem ZcB {v:V}(h:ZeT v=true):IsVal v:=by
 cases v with
 | int i=>exact of_decide_eq_true (p:=i.natAbs < 10 ^ 30) h
 | str x =>
   have h':(decide (x.length≤40)&&x.cps.toList.all Yd)=true:=h
   simp only [Bool.and_eq_true,decide_eq_true_eq] at h'
   exact h'
 | _=>cases h
theorem IsVal.b31 {i:Int}(h:IsVal (.int i)):i.natAbs≤10 ^ 31:=Nat.le_trans (Nat.le_of_lt (show i.natAbs < 10 ^ 30 from h)) (by decide)
def Zet:Sp:=fun vs H Q _=>∃(p:Addr)(n:Nat),vs=[.ref p]∧BoxAt H p n∧n≤900000∧∀(v:V)(H':Hp),IsVal v→BoxAt H' p (n+50)→Kp p H H'→Q v H'
def Zjq:List Stmt→Str
 | .Assign _ (.Constant (.str x) _ _) _::_=>x
 | _::r=>Zjq r
 | []=>Str.empty
def Zdu (N:List Str)(names:List (Str×NameKind))(scope:Scope)(xa xb:Str):Bool :=
 decide ((Ud N xa xb++[xa,xb]).Nodup)&&scope.names.all (fun y=>(y.2 != .free || names.lookup y.1 == some .cell || names.lookup y.1 == some .free)&&(y.2 != .cell&&(y.2 != .local || scope.names.lookup y.1 == some .local))) &&
 (scope.kind == .function&&N.all fun y=>(y == xa || y == xb) || scope.names.lookup y != some .local)&&scope.names.lookup ("":Str) == none
theorem CompOkT.of {X:Cx}{scope:Scope}{xa xb:Str}(N:List Str)(st:Stmt)(hN:X.N=N)(hn:X.env.scope=Zl st)(chk:Zdu N (Zl st).names scope xa xb=true):CompOkT X scope xa xb:=by
 unfold Zdu at chk
 simp only [Bool.and_eq_true,decide_eq_true_eq,List.all_eq_true,Bool.or_eq_true,bne_iff_ne,beq_iff_eq] at chk
 obtain ⟨⟨⟨c1,c2⟩,c3,c5⟩,c6⟩:=chk
 refine ⟨by rw [hN];exact c1,fun y hy hf=>?_,fun y hy=>(c2 y hy).2.1,c3,fun y hy hl=>?_,fun y hy hx=>(c5 y (by rw [← hN];exact hy)).resolve_left hx,c6⟩
 · show X.env.scope.names.lookup y.1=_∨X.env.scope.names.lookup y.1=_
   rw [hn]
   rcases (c2 y hy).1 with (z | z) | z
   · exact absurd hf z
   · exact .inl z
   · exact .inr z
 · rcases (c2 y hy).2.2 with z | z
   · exact absurd hl z
   · exact z
theorem ZdW {X:Cx}{K:PySem.W.Frag}(hK:X.K=K)(hc:X.calm=true){xa xb:Str}{pa pb tp:Pos}{j:Nat}{ga gb:TG}(ha:PG X (.Name xa pa) ga)(hb:PG X (.Name xb pb) gb):PG X (.Tuple [.Name xa pa,.Name xb pb] j tp) (gTup K 2 (Zfo ga (Zfo gb gNil))):=by
 subst hK
 exact XT hc (ZQ ha (ZQ hb Xi))
end L2
set_option maxHeartbeats 2000000
namespace L2
open PySem PySem.Spec PyProof.Rows
section
variable {X:Cx}
end
section
variable {X:Cx}{k:Nat}{C:Addr}{x m:Str}{ps:List Str}{sp:Sp}{p pos apos:Pos}{o:Expr}{ta:TE}
end
end L2
set_option maxHeartbeats 2000000
namespace L2
open PySem PySem.Spec PyProof.Rows
section
variable {X:Cx}
end
end L2
set_option maxHeartbeats 2000000
namespace L2
open PySem PySem.Spec PyProof.Rows
def Zmx (i j k:Nat)(ta:TA):TS:=fun D σ H=>ta σ H fun vs H1=>∃ u v w,vs=[u,v,w]∧D.nx (((σ.set i (some u)).set j (some v)).set k (some w)) H1
theorem Zep {X:Cx}{pos:Pos}{i j k:Nat}{x y z:Str}{a b c:Expr}{ta:TA}{px py pz pt:Pos}{kt k2 pt2}(hc:X.calm=true)(hN:X.N.Nodup)(hi:X.N[i]?=some x)(hj:X.N[j]?=some y)(hk:X.N[k]?=some z)(hij:i≠j)(hik:i≠k)(hjk:j≠k)
   (hx:X.env.scope.names.lookup x=some .local) (hy:X.env.scope.names.lookup y=some .local) (hz:X.env.scope.names.lookup z=some .local) (ha:PA X [a,b,c] ta)
   (hw:swappedStores [.Tuple [.Name x px,.Name y py,.Name z pz] kt pt] (.Tuple [a,b,c] k2 pt2) X.env=pure (some [x,y,z]))
   (hs:swapsWithSole [.Tuple [.Name x px,.Name y py,.Name z pz] kt pt] (.Tuple [a,b,c] k2 pt2) pos.line X.env=pure false:=by rfl) :
   PS X (.Assign [.Tuple [.Name x px,.Name y py,.Name z pz] kt pt] (.Tuple [a,b,c] k2 pt2) pos) (Zmx i j k ta):=by
 intro pins s σ H D I h
 rw [exec_Assign_arm]
 refine wpAny_bind (wpAny_standAt ?_)
 rw [hs]
 refine wpAny_bind (wpAny_pure ?_)
 rw [if_neg (by decide)]
 refine wpAny_bind (Tuple_ (Zp (ha _ pins s σ H _ I h) fun us s1 ⟨vs,H1,I1,r1,q1⟩=>?_))
 obtain ⟨v1,v2,v3,e1,q1⟩:=q1
 subst e1
 obtain ⟨u1,u2,u3,rfl,rv1,rv2,rv3⟩:∃ u1 u2 u3,us=[u1,u2,u3]∧RelV v1 u1∧RelV v2 u2∧RelV v3 u3:=by
   cases r1 with
   | cons p q =>
     cases q with
     | cons p' q' =>
       cases q' with
       | cons p'' q'' =>
         cases q''
         exact ⟨_,_,_,rfl,p,p',p''⟩
 refine wpAny_newObj_type ?_ (by show 3≤sizeLine;decide)
 have I2:Inv X pins σ H1 { s1 with heap:=s1.heap.push { cls:=.type "tuple",data:=.seq [u1,u2,u3].toArray } }:=I1.kept (t':=s1.toks) fun b o e=>Heap.get?_push_of_some _ e
 rw [hw]
 refine wpAny_bind (wpAny_pure ?_)
 show wpAny (model X.prog X.w) X.A (do rule "assign.swapped-stores";let items ← unpackItems (.ref s1.heap.objs.size) 3 none;assignInOrder [fun v=>bindName X.env z v,fun v=>bindName X.env y v,fun v=>bindName X.env x v] items.reverse;pure Flow.next) _ _ _
 refine wpAny_bind (wpAny_rule (wpAny_bind (unpackItems_tuple (items:=#[u1,u2,u3]) (I.ok.hd hc) (IsTup.new s1.heap _) fun h' hx'=>?_)))
 have I3:=I2.kept (h':=h') (t':=s1.toks) fun b o e=>hx' b o (Nat.ne_of_lt (Heap.lt_size e)) e
 show wpAny _ _ (assignInOrder [fun v=>bindName X.env z v,fun v=>bindName X.env y v,fun v=>bindName X.env x v] [u3,u2,u1] >>= fun _=>pure Flow.next) _ _ _
 refine wpAny_bind (assignInOrder_cons (wpAny_bindName (Xc I3 hN hk (.inl hz) rv3 (fun s2 I4=>?_) (.inr hz))))
 refine assignInOrder_cons (wpAny_bindName (Xc I4 hN hj (.inl hy) rv2 (fun s3 I5=>?_) (.inr hy)))
 refine assignInOrder_cons (wpAny_bindName (Xc I5 hN hi (.inl hx) rv1 (fun s4 I6=>assignInOrder_nil (wpAny_pure ?_)) (.inr hx)))
 rw [List.set_comm _ _ (Ne.symm hjk),List.set_comm _ _ (Ne.symm hik),List.set_comm _ _ (Ne.symm hij)] at I6
 exact ⟨_,H1,I6,q1⟩
theorem ZfE {X:Cx}{K:PySem.W.Frag}(hK:X.K=K):YR X (compareOp .In) (rIn K false):=by subst hK;exact WT
end L2
set_option maxHeartbeats 2000000
namespace L2
open PySem PySem.Spec PyProof.Rows
theorem ZcK {α β:Type}{f g:α→Option β}:∀{l:List α},(∀ x∈l,f x=g x)→l.filterMap f=l.filterMap g
 | [],_=>rfl
 | x::l,h=>by
   rw [List.filterMap_cons,List.filterMap_cons,h x List.mem_cons_self,ZcK fun y hy=>h y (List.mem_cons_of_mem _ hy)]
theorem ZiR (its:List Value):slicePick its.toArray none none (some (-1))=its.reverse.toArray:=by
 have hb:sliceBounds none none (some (-1)) its.toArray.size=((its.length:Int) - 1,-1,-1):=by
   unfold sliceBounds
   simp
 unfold slicePick
 rw [hb]
 have hr:sliceRange ((its.length:Int) - 1) (-1) (-1)=(List.range its.length).map fun k=>its.length - 1 - k:=by
   unfold sliceRange
   have e1:(if (-1:Int) > 0 then (if (its.length:Int) - 1 < -1 then (-1 - ((its.length:Int) - 1)+-1 - 1) / -1 else 0) else (if (its.length:Int) - 1 > -1 then ((its.length:Int) - 1 - -1 - -1 - 1) / (- -1) else 0)).toNat=its.length:=by
     rw [if_neg (by decide)]
     split
     · rw [show (- -1:Int)=1 by decide,Int.ediv_one];omega
     · omega
   dsimp only
   rw [e1]
   apply List.map_congr_left
   intro k hk
   have:=List.mem_range.mp hk
   omega
 dsimp only
 rw [hr,List.filterMap_map]
 congr 1
 have gen:∀ (l:List Value),(List.range l.length).filterMap ((fun i=>l[i]?) ∘ fun k=>l.length - 1 - k)=l.reverse:=by
   intro l
   have h1:(List.range l.length).filterMap ((fun i=>l[i]?) ∘ fun k=>l.length - 1 - k)=(List.range l.reverse.length).filterMap (fun k=>l.reverse[k]?):=by
     rw [List.length_reverse]
     refine ZcK fun k hk=>?_
     have hk':=List.mem_range.mp hk
     show l[l.length - 1 - k]?=l.reverse[k]?
     rw [List.getElem?_reverse hk']
   rw [h1]
   have g2:∀ (m:List Value) (n:Nat),(List.range n).filterMap (fun k=>m[k]?)=m.take n:=by
     intro m n
     induction n with
     | zero=>simp
     | succ n ih =>
       rw [List.range_succ,List.filterMap_append,ih,List.take_add_one]
       cases e:m[n]?<;>simp [e]
   rw [g2,List.take_of_length_le (Nat.le_refl _)]
 have:=gen its
 simpa using this
def ZmQ (K:PySem.W.Frag)(te:TE):TE:=fun σ H Q=>te σ H fun x H1=>∃ a xs,x=.ref a∧SqL K H1 a xs∧∀ p,H1 p=none→Q (.ref p) (upd H1 p (.lst xs.reverse))
section
variable {X:Cx}
theorem Zkr {e:Expr}{te:TE}{k:Nat}{pc pu p2 pos:Pos}(he:PE X e te):PE X (.Subscript e (.Slice none none (some (.UnaryOp .USub (.Constant (.int 1) k pc) pu)) p2) pos) (ZmQ X.K te):=by
 intro pins s σ H Q I h
 refine Subscript_ (Zp (he pins s σ H _ I h) fun v s1 ⟨x,H1,I1,r1,a,xs,ex,hx,q1⟩=>?_)
 subst ex
 cases r1
 refine wpAny_Slice (Zp (ZV pins s1 σ H1 (fun o H2=>o=none∧H2=H1) I1 ⟨rfl,rfl⟩) fun vl s2 ⟨l,H2,I2,pl,el,eh⟩=>Zp (ZV pins s2 σ H2 (fun o H3=>o=none∧H3=H2) I2 ⟨rfl,rfl⟩) fun vu s3 ⟨u,H3,I3,pu',eu,eh'⟩=>?_)
 subst el eh eu eh'
 refine Zp (ZK (X:=X) (ZfK Zct Zf) pins s3 σ H3 (fun o H4=>o=some (-1)∧H4=H3) I3 ⟨_,rfl,_,rfl,rfl,rfl⟩) fun vst s4 ⟨o,H4,I4,ps,eo,eh4⟩=>?_
 subst eo eh4
 have I5:Inv X pins σ H4 { s4 with heap:=s4.heap.push { cls:=.type "slice",data:=.fields #[vl,vu,vst] } }:=I4.kept (t':=s4.toks) fun b ob q=>Heap.get?_push_of_some _ q
 obtain ⟨its,r,ht,hz⟩:=I5.list hx
 have hlen:=r.length
 show wpAny (model X.prog X.w) X.A (subscriptTail e (.Slice none none (some (.UnaryOp .USub (.Constant (.int 1) k pc) pu)) p2) (.ref a) (.ref s4.heap.objs.size)) (EP X pins σ Q) X.xe { s4 with heap:=s4.heap.push { cls:=.type "slice",data:=.fields #[vl,vu,vst] } }
 refine tail_any (ops:=[.ref a,.ref s4.heap.objs.size]) ht.isList.typeIs slot_list_getitem.lookup ?_ (by with_unfolding_all rfl)
 refine wpAny_getItem_list_slice ht.isList (Heap.IsSliceOf.new ..) pl pu' ps (by decide) ?_ (by rw [List.size_toArray];omega)
 rw [ZiR]
 refine ⟨.ref _,_,I5.laid (t':=s4.toks) (o:=.lst xs.reverse) (fun b ob q=>Heap.get?_push_of_some _ q) (Nat.le_refl _) ?_,rfl,q1 _ (I5.hok.fresh (Nat.le_refl _))⟩
 exact ⟨by rw [List.length_reverse];exact hz,its.reverse,0,r.reverse,Heap.get?_push_size _ rfl⟩
end
end L2
set_option maxHeartbeats 2000000
namespace L2
open PySem
theorem Sep.newE {Δ:Rs}{H H2:Hp}{o:HO}(S:Sep Δ H){p:Addr}(hp:H p=none)(e:upd H p o=H2):Sep ((p,Pt o)::Δ) H2:=e ▸ S.new hp o
theorem ZdG {lo:Int}{n:Nat}{te:TE}{σ:St}{D:Addr}{Q:VK}{H:Hp}{Δ:Rs}(hn:n≤sizeLine)(S:Sep Δ H)(hD:H D=none)(J:Nat→List V→Rs→Prop)(h0:J 0 [] Δ)
   (hs:∀ i ys Δ H,i < n→ys.length=i→J i ys Δ→Sep ((D,UB ys)::Δ) H→te (σ++[some (.int (lo+i))]) H fun y H4=>∃ Δ',J (i+1) (ys++[y]) Δ'∧Sep ((D,UB ys)::Δ') H4)
   (hd:∀ ys Δ H,J n ys Δ→ys.length=n→Sep ((D,UB ys)::Δ) H→Q (.ref D) H):UH (Itr lo n) te σ D Q H:=by
 refine ⟨fun i m ys H=>m=n - i∧i≤n∧ys.length=i∧∃ Δ,J i ys Δ∧Sep ((D,UB ys)::Δ) H,⟨n,by simp,Nat.zero_le _,rfl,Δ,h0,S.new hD _⟩,?_⟩
 rintro i m ys H2 ⟨rfl,hi,hl,Δ,j,S⟩
 by_cases hlt:i < n
 · refine .inr ⟨hlt,_,fun y H4 (q:∃ Δ',J (i+1) (ys++[y]) Δ'∧Sep ((D,UB ys)::Δ') H4)=>?_,fun v H3 y=>?_⟩
   · obtain ⟨Δ',j',S'⟩:=q
     exact ⟨S'.get D,by omega,n - (i+1),by omega,rfl,hlt,by simp [hl],Δ',j',S'.put D _⟩
   · obtain ⟨e1,e2⟩:=y
     subst e1 e2
     exact hs i ys Δ _ hlt hl j S
 · have e:i=n:=by omega
   exact .inl ⟨by show n≤i;omega,hd ys Δ H2 (e ▸ j) (by omega) S⟩
end L2
set_option maxHeartbeats 2000000
namespace L2
open PySem PySem.W PySem.Spec PyProof.Rows
section
variable {prog:Program}{w:World}{A:Around}{E:Value→Shared→Prop}{s:Shared}{a:Addr}{as:List Addr}{ks:List Str}{P:PySem.Fin→Shared→Prop}
end
section
variable {X:Cx}
end
end L2
set_option maxHeartbeats 2000000
namespace L2
open PySem
def Yg (x:Str):Prop:=1≤x.length∧x.length≤8∧x.cps.toList.all Ua=true
theorem Wi (c:Nat):(⟨#[c]⟩:Str).length=1:=rfl
theorem ZcE {P:Nat→Bool}:∀{l:List Str},(∀ z∈l,∃ c,z=⟨#[c]⟩∧P c=true)→(l.map (·.length)).sum=l.length∧(l.flatMap (·.cps.toList)).length=l.length∧(l.flatMap (·.cps.toList)).all P=true
 | [],_=>⟨rfl,rfl,rfl⟩
 | z :: r,h=>by
   obtain ⟨c,rfl,hc⟩:=h z List.mem_cons_self
   obtain ⟨g1,g2,g3⟩:=ZcE (l:=r) fun y hy=>h y (List.mem_cons_of_mem _ hy)
   refine ⟨?_,?_,?_⟩
   · rw [List.map_cons,List.sum_cons,g1,List.length_cons];show 1+_=_;omega
   · have e0:((⟨#[c]⟩:Str)::r).flatMap (·.cps.toList)=c::r.flatMap (·.cps.toList):=rfl
     rw [e0,List.length_cons,List.length_cons,g2]
   · rw [List.flatMap_cons,List.all_append,g3];simp [hc]
theorem Zgj {P:Nat→Bool}{zs:List Str}(h:∀ z∈zs,∃ c,z=⟨#[c]⟩∧P c=true):(zs.map (·.length)).sum+zs.length * (Str.ofString "").length≤2 * zs.length∧(Txt.join (Str.ofString "") zs).length=zs.length∧(Txt.join (Str.ofString "") zs).cps.toList.all P=true:=by
 obtain ⟨g1,g2,g3⟩:=ZcE h
 refine ⟨?_,?_,?_⟩
 · rw [g1];show _+_ * 0≤_;omega
 · rw [Zt,Uf,g2]
 · rw [Uf];exact g3
theorem Zai {P:Nat→Bool}{x y:Str}(h1:x.cps.toList.all P=true)(h2:y.cps.toList.all P=true):(x++y).cps.toList.all P=true:=by
 rw [Yo,List.all_append,h1,h2];rfl
theorem Zdm {P:Nat→Bool}{c:Nat}(h:P c=true):(⟨#[c]⟩:Str).cps.toList.all P=true:=by
 show [c].all P=true;simp [h]
theorem Vn {P:Nat→Bool}{x:Str}{lo hi:Option Int}(h:x.cps.toList.all P=true):(Txt.slice x lo hi).cps.toList.all P=true:=by
 rw [YT]
 rw [List.all_eq_true] at h ⊢
 exact fun c hc=>h c (List.mem_of_mem_drop (List.mem_of_mem_take hc))
theorem ZgZ {x:Str}{k:Int}(h0:0≤k)(h1:k≤x.length):(Txt.slice x none (some k)).length+(Txt.slice x (some k) none).length=x.length:=by
 have hn:¬ k < 0:=by omega
 rw [Zt,Zt,YT,YT,Zt]
 rw [Zt] at h1
 have e1:HT.sIx x.cps.toList.length 0 none=0:=rfl
 have e2:HT.sIx x.cps.toList.length x.cps.toList.length none=x.cps.toList.length:=rfl
 have e3:∀ d,HT.sIx x.cps.toList.length d (some k)=k.toNat:=fun d=>by
   unfold HT.sIx
   simp only [hn,if_false]
   omega
 rw [e1,e2,e3,e3,List.length_take,List.length_take,List.length_drop,List.length_drop]
 omega
theorem Zbp {x:Str}{P:Nat→Bool}(ha:x.cps.toList.all P=true){r:Int}(h0:0≤r)(h1:r < x.length):∃ c,Wm x.cps.toList r=some c∧P c=true:=by
 have hl:r.toNat < x.cps.toList.length:=by rw [← Zt];omega
 exact ⟨_,ZaJ h0 (List.getElem?_eq_getElem hl),List.all_eq_true.mp ha _ (List.getElem_mem hl)⟩
def a26:Str:="abcdefghijklmnopqrstuvwxyz"
theorem Uj:a26.length=26:=by decide +kernel
theorem Zbh:a26.cps.toList.all Ua=true:=by decide +kernel
theorem Zmg {α:Type}{f:α→V}{xs:List α}{r:Int}(h0:0≤r)(h1:r < (xs.length:Int)):∃ x∈xs,Wm (xs.map f) r=some (f x):=by
 have hl:r.toNat < xs.length:=by omega
 exact ⟨_,List.getElem_mem hl,ZaJ h0 (by rw [List.getElem?_map,List.getElem?_eq_getElem hl];rfl)⟩
theorem Zka {xs:List V}{r:Int}(h0:0≤r)(h1:r < (xs.length:Int)):∃ x∈xs,Wm xs r=some x:=by
 have hl:r.toNat < xs.length:=by omega
 exact ⟨_,List.getElem_mem hl,ZaJ h0 (List.getElem?_eq_getElem hl)⟩
theorem Sep.le {Δ:Rs}{H:Hp}{p:Addr}{n m:Nat}(S:Sep ((p,Bx n)::Δ) H)(h:n≤m):Sep ((p,Bx m)::Δ) H:=by
 obtain ⟨g,l,r,S⟩:=S
 exact ⟨g,l,BoxAt.le r h,S⟩
def Vg:Sp:=fun vs H Q _=>∃(p:Addr)(n:Nat)(Δ:Rs),vs=[.ref p]∧Sep ((p,Bx n)::Δ) H∧n≤900000∧∀(v:V)(H':Hp),IsVal v→Sep ((p,Bx (n+50))::Δ) H'→Q v H'
theorem ZjG {vs:List V}{H:Hp}{Q:VK}{E:XK}(h:Vg vs H Q E):Zet vs H Q E:=by
 obtain ⟨p,n,Δ,e,S,h1,q⟩:=h
 exact ⟨p,n,e,S.get p,h1,fun v H' hv B k=>q v H' hv (S.box k B)⟩
def Zdf (K:PySem.W.Frag):Sp:=fun vs H Q _=>∃(a:Addr)(ns:List Int)(k:Int)(Δ:Rs),vs=[.ref a,.int k]∧SqL K H a (ns.map V.int)∧Sep Δ H∧0≤k∧k≤1000∧∀(p:Addr)(H':Hp),Same H H'→Sep ((p,Bx 0)::Δ) H'→Q (.ref p) H'
theorem ZmL {K:PySem.W.Frag}{vs:List V}{H:Hp}{Q:VK}{E:XK}(h:Zdf K vs H Q E):Zjw K vs H Q E:=by
 obtain ⟨a,ns,k,Δ,e,hS,S,h1,h2,q⟩:=h
 refine ⟨a,ns,k,e,hS,h1,h2,fun p H' hp B s=>q p H' s ?_⟩
 obtain ⟨x,y,z,eb,w⟩:=B
 exact (S.made s hp eb).say p (Bx 0) fun h r=>⟨x,y,z,r,w⟩
def Zdb:Sp:=fun vs H Q _=>∃(p:Addr)(n:Nat)(many:Int)(Δ:Rs),vs=[.ref p,.int many]∧Sep ((p,Bx n)::Δ) H∧n≤900000∧0≤many∧many≤100 ∧
 ∀ (l:Addr) (H':Hp) (xs:List Str),Sep ((l,UB (xs.map V.str))::(p,Bx (n+20))::Δ) H'→xs.length=many.toNat→(∀ x∈xs,Yg x∧2≤x.length)→Q (.ref l) H'
theorem ZhY {xs:List V}{i:Nat}:Xy xs none (some (i:Int))=xs.take i:=by
 unfold Xy
 rw [HT.sIx_none,HT.sIx_nat,List.drop_zero,Nat.sub_zero]
 by_cases h:i≤xs.length
 · rw [Nat.min_eq_left h]
 · rw [Nat.min_eq_right (by omega),List.take_of_length_le (Nat.le_refl _),List.take_of_length_le (by omega)]
theorem ZcS {xs:List V}{i:Nat}:Xy xs (some (i:Int)) none=xs.drop i:=by
 unfold Xy
 rw [HT.sIx_none,HT.sIx_nat]
 by_cases h:i≤xs.length
 · rw [Nat.min_eq_left h,List.take_of_length_le (by rw [List.length_drop];omega)]
 · rw [Nat.min_eq_right (by omega),Nat.sub_self,List.take_zero,List.drop_eq_nil_of_le (by omega)]
theorem ZbO (ys:List Str):(ys.map V.str).all XX=true:=by
 rw [List.all_eq_true]
 intro v hv
 obtain ⟨y,_,rfl⟩:=List.mem_map.mp hv
 rfl
class IsLst (R:WA) (k:Nat):Prop where
 lst:∀ {a h},R a h→∃ xs,h a=some (.lst xs)∧xs.length=k
end L2
set_option maxHeartbeats 2000000
namespace L2
open PySem
theorem Zbq {i:Int}(h:i.natAbs≤10 ^ 31):i.natAbs.log2 < 1920∧(Str.ofString (toString i)).length≤40:=by
 constructor
 · by_cases z:i.natAbs=0
   · rw [z];decide
   · exact (Nat.log2_lt z).mpr (Nat.lt_of_le_of_lt h (by decide +kernel))
 · have e:=int_text_length_le10 (a:=i) (k:=32) (by decide) (Nat.lt_of_le_of_lt h (by decide))
   rw [Zt,PyProof.Rows.signs_ofString,List.length_map,String.length_toList]
   omega
def Ve:V→PyData
 | .int i=>.int i
 | .str x=>.str x
 | _=>.none
end L2
set_option maxHeartbeats 2000000
namespace L2
open PySem
end L2
set_option maxHeartbeats 2000000
namespace L2
open PySem
end L2
set_option maxHeartbeats 2000000
namespace L2
open PySem
theorem Zil {x:Str}(h:Yg x):IsVal (.str x):=by
 refine ⟨by have:=h.2.1;omega,?_⟩
 rw [List.all_eq_true]
 intro c hc
 have:=List.all_eq_true.mp h.2.2 c hc
 unfold Ua at this
 unfold Yd
 simp only [Bool.and_eq_true,decide_eq_true_eq] at this ⊢
 omega
end L2
set_option maxHeartbeats 2000000
namespace L2
open PySem
end L2
set_option maxHeartbeats 2000000
namespace L2
open PySem PySem.Spec PyProof.Rows
def Itz (K:PySem.W.Frag)(l1 l2:Addr):It :=
 ⟨fun i H=>∃ xs ys x y,SqL K H l1 xs∧SqL K H l2 ys∧xs[i]?=some x∧ys[i]?=some y,
  fun i H v H'=>∃ t x y,H t=none∧(∀ xs,SqL K H l1 xs→xs[i]?=some x)∧(∀ ys,SqL K H l2 ys→ys[i]?=some y)∧v=.ref t∧H'=upd H t (.tup [x,y]),
  fun i H=>∃ xs ys,SqL K H l1 xs∧SqL K H l2 ys∧(xs.length≤i∨ys.length≤i)⟩
theorem ZhH {P:Program}{w:World}{K:PySem.W.Frag}{elts:List Expr}{x1:Nat}{tp:Pos}{z TI TO i1 i2 l1 l2:Addr}(D:ZipApart z TI TO i1 i2 l1 l2)(hTl1:l1≠TI)(hTl2:l2≠TI) :
   WE P w K (.Tuple elts x1 tp) (Itz K l1 l2) [z,TI,TO,i1,i2] z (fun i h=>IsZip h z TI TO .none∧IsPair h TI (.ref i1) (.ref i2)∧(∃ a b,IsPair h TO a b)∧h.IsListIter i1 l1 i∧h.IsListIter i2 l2 i) where
 mem:=by simp
 obj:=fun i h st b hb=>by
   obtain ⟨hz,hTI,⟨a,c,hTO⟩,⟨o1,ho1,c1,d1⟩,⟨o2,ho2,c2,d2⟩⟩:=st
   simp only [List.mem_cons,List.not_mem_nil,or_false] at hb
   rcases hb with q | q | q | q | q
   · rw [q];exact ⟨_,hz,fun v z=>by cases z⟩
   · rw [q];exact ⟨_,hTI,fun v z=>by cases z⟩
   · rw [q];exact ⟨_,hTO,fun v z=>by cases z⟩
   · rw [q];exact ⟨o1,ho1,fun v z=>by rw [d1] at z;cases z⟩
   · rw [q];exact ⟨o2,ho2,fun v z=>by rw [d2] at z;cases z⟩
 keep:=fun i h h' st k=>by
   obtain ⟨hz,hTI,⟨a,c,hTO⟩,h1,h2⟩:=st
   exact ⟨k z (by simp) _ hz,k TI (by simp) _ hTI,⟨a,c,k TO (by simp) _ hTO⟩,h1.at fun o y=>k i1 (by simp) o y,h2.at fun o y=>k i2 (by simp) o y⟩
 item:=by
   intro X hP hw hK hc i pins s σ H E I hf st hg
   subst hP hw hK
   obtain ⟨hz,hTI,⟨a,b,hTO⟩,h1,h2⟩:=st
   obtain ⟨xs,ys,x,y,hq1,hq2,hx,hy⟩:=hg
   obtain ⟨its1,rv1,p1,hz1⟩:=I.list hq1
   obtain ⟨its2,rv2,p2,hz2⟩:=I.list hq2
   obtain ⟨u1,hu1,ru1⟩:=rv1.get hx
   obtain ⟨u2,hu2,ru2⟩:=rv2.get hy
   refine wpAny_pyNext_zip_item D hz hTI hTO h1 h2 p1.isList p2.isList (by simpa using hu1) (by simpa using hu2) fun h' g1 g2 g3 g4 g5 g6 g7=>?_
   refine ⟨_,rfl,wpAny_letOwnedTupleGo_zip g1 fun h2' g1' hs2=>?_⟩
   have hzl:z < s.heap.objs.size:=Heap.lt_size hz
   have hTIl:TI < s.heap.objs.size:=Heap.lt_size hTI
   have hTOl:TO < s.heap.objs.size:=Heap.lt_size hTO
   have hi1l:i1 < s.heap.objs.size:=by obtain ⟨o,ho,_⟩:=h1;exact Heap.lt_size ho
   have hi2l:i2 < s.heap.objs.size:=by obtain ⟨o,ho,_⟩:=h2;exact Heap.lt_size ho
   have g5':h'.get? s.heap.objs.size=some ({ cls:=.type "tuple",data:=.seq #[u1,u2] }:Obj):=g5
   generalize hO:({ cls:=.type "tuple",data:=.seq #[u1,u2] }:Obj)=O at g5'
   have I1:Inv X pins σ (upd H s.heap.objs.size (.tup [x,y])) { s with heap:=s.heap.push O,toks:=s.toks }:=by
     refine I.laid (t':=s.toks) (fun b o y=>Heap.get?_push_of_some _ y) (Nat.le_refl _) (show ObjOk X.prog X.w _ _ _ (.tup _) from ⟨by show 2≤sizeLine;decide,[u1,u2],.cons ru1 (.cons ru2 .nil),?_⟩)
     rw [← hO];exact IsTup.new _ _
   have hfree:=I.hok.fresh (Nat.le_refl s.heap.objs.size)
   have hf2:∀ b∈[z,TI,TO,i1,i2],YC X pins (upd H s.heap.objs.size (.tup [x,y])) b:=fun b hb=>by
     obtain ⟨f0,f1⟩:=hf b hb
     have hb':b≠s.heap.objs.size:=by
       simp only [List.mem_cons,List.not_mem_nil,or_false] at hb
       rcases hb with q | q | q | q | q<;>(rw [q];exact Nat.ne_of_lt (by assumption))
     exact ⟨by rw [Zm hb'];exact f0,f1⟩
   have I2:Inv X pins σ (upd H s.heap.objs.size (.tup [x,y])) { s with heap:=h2',toks:=s.toks }:=by
     refine I1.turned2 (t':=s.toks) (h':=h2') (fun b o hb y=>?_) hf2
     have n1:b≠z:=fun q=>hb (by simp [q])
     have n2:b≠TO:=fun q=>hb (by simp [q])
     have n3:b≠i1:=fun q=>hb (by simp [q])
     have n4:b≠i2:=fun q=>hb (by simp [q])
     rw [hs2.2 b n1]
     rcases Heap.get?_push_cases y with ⟨q1,q2⟩ | y
     · rw [q1,q2];exact g5'
     · exact g7 b o n1 n2 n3 n4 y
   refine ⟨.ref s.heap.objs.size,_,I2,rfl,⟨s.heap.objs.size,x,y,hfree,fun ys hy'=>by rw [I.list_inj hy' hq1];exact hx,fun ys' hy'=>by rw [I.list_inj hy' hq2];exact hy,rfl,rfl⟩,⟨g1',?_,⟨u1,u2,?_⟩,?_,?_⟩,fun b hb=>(hf2 b hb).1⟩
   · show h2'.get? TI=_
     rw [hs2.2 TI D.TIz];exact g7 TI _ D.TIz D.TITO D.TIi1 D.TIi2 hTI
   · show h2'.get? TO=_
     rw [hs2.2 TO D.TOz];exact g2
   · exact g3.at fun o y=>by rw [hs2.2 i1 D.i1z];exact y
   · exact g4.at fun o y=>by rw [hs2.2 i2 D.i2z];exact y
 done:=by
   intro X hP hw hK hc i pins s σ H E I hf st hg
   subst hP hw hK
   obtain ⟨hz,hTI,⟨a,b,hTO⟩,h1,h2⟩:=st
   obtain ⟨xs,ys,hq1,hq2,hle⟩:=hg
   obtain ⟨its1,rv1,p1,hz1⟩:=I.list hq1
   obtain ⟨its2,rv2,p2,hz2⟩:=I.list hq2
   have l1:=rv1.length
   have l2:=rv2.length
   refine wpAny_pyNext_zip_end (I.ok.hd hc) D hz hTI hTO h1 h2 p1.isList p2.isList ?_ fun h' eb=>⟨rfl,I.turned2 (t':=s.toks) (fp:=[z,TI,TO,i1,i2]) (fun b o hb y=>eb b o (fun q=>hb (by simp [q])) (fun q=>hb (by simp [q])) (fun q=>hb (by simp [q])) (fun q=>hb (by simp [q])) y) hf⟩
   rcases hle with q | q
   · exact .inl (Array.getElem?_eq_none (by simp;omega))
   · exact .inr (Array.getElem?_eq_none (by simp;omega))
 self:=fun _ _ _ _ _ st h=>wpAny_pyIter_zip st.1 h
def iZip (K:PySem.W.Frag)(ta tb:TE):TI:=fun σ H R=>ta σ H fun v H1=>tb σ H1 fun u H2=>∃ a b xs ys,[v,u]=[V.ref a,V.ref b]∧H2 a=some (.lst xs)∧H2 b=some (.lst ys)∧R (Itz K a b) H2
section
variable {X:Cx}
theorem Zau:bootBuiltins "zip"=some (.type "zip"):=by decide +kernel
theorem Zhq {l m:Expr}{ta tb:TE}{elts:List Expr}{x1:Nat}{tp p pos:Pos}(hg:Gl X "zip")(hm:X.mg "zip"=none)(hl:PE X l ta)(hr:PE X m tb)
   (he:starEach [l,m] X.env=(false,eval l X.env)::starEach [m] X.env:=by rfl) (he2:starEach [m] X.env=[(false,eval m X.env)]:=by rfl) (hpl:(backTo pos (starEach [m] X.env)).any (·.1)=false:=by rfl):PI X (.Tuple elts x1 tp) (.Call (.Name "zip" p) [l,m] [] pos) (iZip X.K ta tb):=by
 intro pins s σ H R I h
 have ha:PA X [l,m] (Xa ta (Xa tb XL)):=Yp hl (Yp hr Za he2) he
 refine wpAny_Call_Name_kw (WS I hg hm Zau ?_)
 refine PyProof.Rows.callWith_type1 (Zp (ha pos pins s σ H (fun vs H2=>∃ a b xs ys,vs=[V.ref a,V.ref b]∧H2 a=some (.lst xs)∧H2 b=some (.lst ys)∧R (Itz X.K a b) H2) I h) fun us s1 ⟨vs,H1,I1,r1,a,b,xs,ys,e,ea,eb,q⟩=>?_) he hpl
 subst e
 obtain ⟨u1,u2,rfl,r2,r3⟩:∃ u1 u2,us=[u1,u2]∧RelV (V.ref a) u1∧RelV (V.ref b) u2:=by
   cases r1 with
   | cons p t=>cases t with
     | cons p2 t2=>cases t2;exact ⟨_,_,rfl,p,p2⟩
 cases r2
 cases r3
 obtain ⟨z1,its1,n1,rv1,hl1,eo1⟩:=I1.lstM ea
 obtain ⟨z2,its2,n2,rv2,hl2,eo2⟩:=I1.lstM eb
 have ha1:a < s1.heap.objs.size:=Heap.lt_size eo1
 have hb1:b < s1.heap.objs.size:=Heap.lt_size eo2
 refine call_zip_2 ⟨_,eo1,rfl,n1,rfl⟩ ⟨_,eo2,rfl,n2,rfl⟩ fun h' g1 g2 g3 g4 g5 g6 g7=>wpAny_pyIter_zip g1 ?_
 refine ⟨s1.heap.objs.size+4,[s1.heap.objs.size+4,s1.heap.objs.size+2,s1.heap.objs.size+3,s1.heap.objs.size,s1.heap.objs.size+1],_,_,H1,rfl,I1.kept (t':=s1.toks) g7,ZhH (l1:=a) (l2:=b) ⟨?_,?_,?_,?_,?_,?_,?_,?_,?_,?_,?_,?_,?_,?_,?_,?_,?_,?_⟩ ?_ ?_,⟨g1,g2,⟨_,_,g3⟩,g4,g5⟩,fun c hc=>?_,q⟩
 rotate_right
 · simp only [List.mem_cons,List.not_mem_nil,or_false] at hc
   have up:∀ k,YC X pins H1 (s1.heap.objs.size+k):=fun k=>I1.fpOk (Nat.le_add_right _ k) (I1.hok.fresh (Nat.le_add_right _ k))
   rcases hc with q | q | q | q | q
   · rw [q];exact up 4
   · rw [q];exact up 2
   · rw [q];exact up 3
   · rw [q];exact up 0
   · rw [q];exact up 1
 all_goals
   first
     | exact Nat.ne_of_lt (by first | (apply Nat.lt_of_lt_of_le (by assumption);omega) | (simp only [Nat.add_lt_add_iff_left];decide) | (show _ < _+_;exact Nat.lt_add_of_pos_right (by decide)))
     | exact Nat.ne_of_gt (by first | (simp only [Nat.add_lt_add_iff_left];decide) | exact Nat.lt_add_of_pos_right (by decide))
end
end L2
set_option maxHeartbeats 2000000
namespace L2
open PySem PySem.Spec PyProof.Rows
mutual
inductive DatT (K:PySem.W.Frag)(H:Hp):V→PyData→Prop
 | non:DatT K H .non .none
 | int (i):DatT K H (.int i) (.int i)
 | str (x):DatT K H (.str x) (.str x)
 | tup {a xs ds}:SqT K H a xs→DatTs K H xs ds→DatT K H (.ref a) (.tuple ds)
inductive DatTs (K:PySem.W.Frag)(H:Hp):List V→List PyData→Prop
 | nil:DatTs K H [] []
 | cons {v d vs ds}:DatT K H v d→DatTs K H vs ds→DatTs K H (v::vs) (d::ds)
end
section
variable {X:Cx}{pins:List (Addr×Obj)}{σ:St}{H:Hp}{s:Shared}
mutual
theorem DatT.reads (I:Inv X pins σ H s):∀{v d}(u:Value),DatT X.K H v d→RelV v u→d.hasDict=false∧∃ as,Reads s.heap u d as
 | _,_,u,.non,r=>by cases (show u=.none from r);exact ⟨rfl,_,.none⟩
 | _,_,u,.int i,r=>by obtain ⟨t,e⟩:=(show ∃ t,u=.int i t from r);subst e;exact ⟨rfl,_,.int i t⟩
 | _,_,u,.str x,r=>by obtain ⟨t,e⟩:=(show ∃ t,u=.str x t from r);subst e;exact ⟨rfl,_,.str x t⟩
 | _,_,u,.tup (a:=a) (xs:=xs) e q,r=>by
   cases (show u=.ref a from r)
   obtain ⟨its,rv,⟨o,g,c,n,d⟩,_⟩:=I.tuple e
   obtain ⟨nd,as,ra⟩:=DatTs.reads I its q rv
   exact ⟨by simpa [PyData.hasDict] using nd,_,.tuple g c d (by simpa using ra)⟩
theorem DatTs.reads (I:Inv X pins σ H s):∀{vs ds}(us:List Value),DatTs X.K H vs ds→Vals vs us→PyData.hasDictAll ds=false∧∃ as,ReadsAll s.heap us ds as
 | _,_,_,.nil,.nil=>⟨rfl,_,.nil⟩
 | _,_,_,.cons r t,.cons rv tv=>by
   obtain ⟨n1,as,r1⟩:=DatT.reads I _ r rv
   obtain ⟨n2,bs,r2⟩:=DatTs.reads I _ t tv
   exact ⟨by simp [PyData.hasDictAll,n1,n2],_,.cons r1 r2⟩
end
end
end L2
set_option maxHeartbeats 2000000
namespace L2
open PySem
end L2
set_option maxHeartbeats 2000000
namespace L2
open PySem PySem.W PySem.Spec PyProof.Rows
section
variable {X:Cx}
end
end L2
set_option maxHeartbeats 2000000
namespace L2
open PySem
def tCut (t u:TS):TS:=fun D σ H=>∃ I:St→Hp→Prop,t { D with nx:=I } σ H∧∀ σ' H',I σ' H'→u D σ' H'
theorem Wh {X:Cx}{st:Stmt}{rest:List Stmt}{t u:TS}(h1:PS X st t)(h2:PSs X rest u):PSs X (st::rest) (tCut t u):=by
 intro pins s σ H D I h
 obtain ⟨J,h,g⟩:=h
 refine wpAny_execs_cons (Zp (h1 pins s σ H { D with nx:=J } I h) fun f s1 q=>?_)
 cases f with
 | next =>
   obtain ⟨σ',H',I',q⟩:=q
   exact h2 pins s1 σ' H' D I' (g _ _ q)
 | ret v=>exact q
 | brk=>exact q
 | cont=>exact q
end L2
set_option maxHeartbeats 2000000
namespace L2
open PySem PySem.Spec PyProof.Rows
section
variable {X:Cx}{pins:List (Addr×Obj)}{σ:St}{H:Hp}{s:Shared}{d:Addr}{o:Obj}{kvs:List (Yb×V)}
end
section
variable {X:Cx}{tg:Expr}
end
end L2
set_option maxHeartbeats 2000000
namespace L2
open PySem PySem.W PySem.Spec PyProof.Rows
section
variable {X:Cx}
theorem XY:YQ X (.type "int") (fun xs H Q=>∃ (x:Str) (n:Int),xs=[.str x]∧PySem.intText? x=some n∧x.length≤640∧Q (.int n) H):=by
 intro pins s σ H xs us Q I r h
 obtain ⟨x,n,rfl,e,hl,q⟩:=h
 obtain ⟨u,rfl,t,rfl⟩:=YN r
 exact PySem.W.KIN.call_text e hl ⟨.int n,H,I.tok _,⟨_,rfl⟩,q⟩
end
end L2
set_option maxHeartbeats 2000000
namespace L2
open PySem
def Uz (m:Nat):List Nat:=(Nat.toDigits 10 m).map Char.toNat
theorem ZaG {m c:Nat}(h:c∈Uz m):48≤c∧c≤57:=by
 obtain ⟨ch,hch,e⟩:=List.mem_map.mp h
 have r:=PyProof.Rows.digit_range (Nat.isDigit_of_mem_toDigits (by decide) (by decide) hch)
 rw [← e];exact r
theorem ZbT (i:Int):∃ m:Nat,((Str.ofString (toString i)).cps.toList=Uz m∧i=m)∨((Str.ofString (toString i)).cps.toList=45::Uz m∧i=-(m:Int)):=by
 cases i with
 | ofNat m=>exact ⟨m,.inl ⟨PySem.W.KIN.signs_num m,rfl⟩⟩
 | negSucc m =>
   refine ⟨m+1,.inr ⟨?_,by omega⟩⟩
   rw [PyProof.Rows.signs_ofString]
   show ("-"++Nat.repr (m+1)).toList.map Char.toNat=_
   rw [String.toList_append,List.map_append,Nat.toList_repr]
   rfl
theorem Zhc {i:Int}{c:Nat}(h:c∈(Str.ofString (toString i)).cps.toList):c=45∨(48≤c∧c≤57):=by
 obtain ⟨m,⟨e,_⟩ | ⟨e,_⟩⟩:=ZbT i
 · rw [e] at h;exact .inr (ZaG h)
 · rw [e] at h
   rcases List.mem_cons.mp h with h | h
   · exact .inl h
   · exact .inr (ZaG h)
theorem Zex (m:Nat):NumText.digitsVal (Uz m)=m:=PySem.W.KIN.val_back m
theorem Zel {m k:Nat}(h:m < 10 ^ (k+1)):(Uz m).length≤k+1:=by
 unfold Uz
 rw [List.length_map]
 exact (Nat.length_toDigits_le_iff (by decide) (by omega)).mpr h
end L2
set_option maxHeartbeats 2000000
namespace L2
open PySem PySem.W PySem.Spec PyProof.Rows
section
variable {X:Cx}
end
end L2
set_option maxHeartbeats 2000000
namespace L2
open PySem PySem.Spec PyProof.Rows
end L2
set_option maxHeartbeats 2000000
namespace L2
open PySem PySem.Spec PyProof.Rows
inductive Pg where
 | set (x:Str) (v:V) (s:Str)
 | look (x:Str)
 | slot (w s:Str)
 | pass
 | blk (w:Str) (ps:List Pg)
 | inn (s:Str) (ps:List Pg)
def Pg.word:Pg→Str
 | .set _ _ _=>"set"
 | .look _=>"look"
 | .slot w _=>w
 | .pass=>"pass"
 | .blk w _=>w
 | .inn _ _=>"in"
def Pg.inner:Pg→List Pg
 | .blk _ ps=>ps
 | .inn _ ps=>ps
 | _=>[]
mutual
def Pg.many:Pg→Nat
 | .blk _ ps=>1+Pg.manys ps
 | .inn _ ps=>1+Pg.manys ps
 | _=>1
def Pg.manys:List Pg→Nat
 | []=>0
 | p::ps=>p.many+Pg.manys ps
end
theorem Pg.many_eq (p:Pg):p.many=1+Pg.manys p.inner:=by
 cases p<;>rfl
end L2
set_option maxHeartbeats 2000000
namespace L2
open PySem PySem.Spec PyProof.Rows PyProof.Rows.KTD
def KTup (K:PySem.W.Frag)(b:Addr)(xs:List V):Prop:=∃ (o:Obj) (its:Array Value) (n:Nat),K.lookup b=some o∧o.cls=.type "tuple"∧o.data=.seq its n∧its.size≤sizeLine∧Vals xs its.toList
theorem KTup.sq {K:PySem.W.Frag}{b:Addr}{xs:List V}{H:Hp}(h:KTup K b xs):SqT K H b xs:=.inr h
def KDic (K:PySem.W.Frag)(d:Addr)(D:List (Str×List V)):Prop:=(d == sysModules)=false∧∃ o es ep,K.lookup d=some o∧o.ExactDict∧o.data=.dict es ep∧KTD.Rows (fun xs v=>∃ b,v=Value.ref b∧KTup K b xs) es.toList D
theorem KDic.tab {K:PySem.W.Frag}{d:Addr}{D:List (Str×List V)}{h:Heap}(T:KDic K d D)(k:K.In h):KTD.TabOf (fun xs v=>∃ b,v=Value.ref b∧KTup K b xs) h d D:=let ⟨a,o,es,ep,e,r⟩:=T;⟨a,o,es,ep,k _ _ e,r⟩
section
variable {δ:Type}{Rr:δ→Value→Prop}{prog:Program}{w:World}{A:Around}{E:Value→Shared→Prop}{s:Shared}{a:Addr}{D:List (Str×δ)}{k:Str}{tk:Tok}
theorem Zii {Q:Option Value→Shared→Prop}(T:TabOf Rr s.heap a D)(h1:∀ d v,datumAt k D=some d→Rr d v→Q (some v) { s with toks:=s.toks+1 })(h2:datumAt k D=none→Q none { s with toks:=s.toks+1 }) :
   wpAny (model prog w) A (dictGet a (.str k tk)) Q E s:=by
 obtain ⟨_,o,es,ep,ho,hc,hd,hr⟩:=T
 unfold dictGet
 try with_reducible refine wpAny_holding ?_
 refine wpAny_bind (wpAny_pyHash_str (wpAny_bind (kt_dictFind_strs (s:={ s with toks:=s.toks+1 }) ho hd (by obtain ⟨l⟩:=es;simpa using hr.exact) ?_)))
 have hq:Q (findBy (fun k v=>v.isStr k) es k) { s with toks:=s.toks+1 }:=by
   have hf:findBy (fun k v=>v.isStr k) es k=(es.toList.find? fun e=>e.key.isStr k).map (·.val):=by
     obtain ⟨l⟩:=es
     simp [findBy]
   rw [hf]
   cases hat:datumAt k D with
   | some d=>obtain ⟨v,hv,hfl⟩:=hr.find_some hat;rw [hv];exact h1 d v hat hfl
   | none=>rw [hr.find_none hat];exact h2 hat
 rw [findBy_of_findIdx?] at hq
 cases hi:es.findIdx? fun e=>e.key.isStr k with
 | none=>rw [hi] at hq;exact wpAny_pure hq
 | some i=>rw [hi] at hq;exact wpAny_bind (wpAny_dictEntries (s:={ s with toks:=s.toks+1 }) ho hd (wpAny_pure hq))
theorem Zfw:MeetsIn prog w (Builtin.«dict.get» ⟨[.ref a,.str k tk],[]⟩) (fun _ R s=>TabOf Rr s.heap a D∧(∀ d v,datumAt k D=some d→Rr d v→R (.ok (.ret v)) { s with toks:=s.toks+1 })∧(datumAt k D=none→R (.ok (.ret .none)) { s with toks:=s.toks+1 })) :=
 .of_wp fun A R s ⟨T,h1,h2⟩=>by
   show wpAny _ _ (dictGet a (.str k tk) >>= _) _ _ s
   refine wpAny_bind (Zii T (fun d v ha hv=>wpAny_pure ⟨v,rfl,h1 d v ha hv⟩) fun hn=>?_)
   show wpAny _ _ (Builtin.Dict.missed a (.str k tk) >>= _) _ _ _
   exact wpAny_bind (wpAny_missed_other T.1 (wpAny_pure ⟨.none,rfl,h2 hn⟩))
end
def Zjk (K:PySem.W.Frag)(D:List (Str×List V))(te:TE):TE:=fun σ H Q=>te σ H fun y H1=>∃ x,y=.str x∧(∀ b xs,datumAt x D=some xs→SqT K H1 b xs→Q (.ref b) H1)∧(datumAt x D=none→Q .non H1)
section
variable {X:Cx}{o e:Expr}{apos cpos:Pos}{te:TE}{d:Addr}{D:List (Str×List V)}
theorem ZkO (T:KDic X.K d D)(ho:PE X o (tC (.ref d)))(he:PE X e te)(m:M1 X o "get" apos e cpos):PE X (.Call (.Attribute o "get" apos) [e] [] cpos) (Zjk X.K D te):=by
 intro pins s σ H Q I h
 refine wpAny_Call_method m.base m.few m.line PySem.F.plainAttrs_dict PySem.F.slot_dict_get PySem.F.type_dict_get (Zp (ho pins s σ H (fun v H1=>v=.ref d∧Zjk X.K D te σ H1 Q) I ⟨rfl,h⟩) fun u s1 ⟨x,H1,I1,rx,ex,q1⟩=>?_)
 subst ex
 obtain rfl:u=Value.ref d:=rx
 obtain ⟨o',es,ep,lk,hc,_⟩:=T.2
 refine ⟨⟨o',I1.kIn _ _ lk,hc.1⟩,fun b e=>by injection e with e;subst e;exact ⟨o',I1.kIn _ _ lk,hc.2.1⟩,?_⟩
 rw [m.trees]
 refine Calls.callWith_builtin rfl (Calls.evalArgs_plain (Calls.spliced_cons (Zp (he pins s1 σ H1 _ I1 q1) fun iv s2 ⟨y,H2,I2,ry,x,ey,q2,q3⟩=>Calls.spliced_nil ?_)))
 subst ey
 obtain ⟨t,rfl⟩:=ry
 refine call_meetsIn PySem.F.slot_dict_get ⟨o',I2.kIn _ _ lk,hc.1⟩ PySem.F.entry_dict_get (PySem.F.args_dict_get_2 _ _) (Zfw (D:=D) (Rr:=fun xs v=>∃ b,v=Value.ref b∧KTup X.K b xs)) ⟨T.tab I2.kIn,fun xs v ha hv=>?_,fun hn=>⟨.non,H2,I2.tok _,rfl,q3 hn⟩⟩
 obtain ⟨b,rfl,kt⟩:=hv
 exact ⟨.ref b,H2,I2.tok _,rfl,q2 b xs ha kt.sq⟩
end
end L2
set_option maxHeartbeats 2000000
namespace L2
open PySem PySem.Spec PyProof.Rows
section
variable {X:Cx}
end
mutual
theorem DatT.same {K:PySem.W.Frag}{H H':Hp}(s:Same H H'):∀{v d},DatT K H v d→DatT K H' v d
 | _,_,.non=>.non
 | _,_,.int i=>.int i
 | _,_,.str x=>.str x
 | _,_,.tup e q=>.tup (e.tf s.tf) (DatTs.same s q)
theorem DatTs.same {K:PySem.W.Frag}{H H':Hp}(s:Same H H'):∀{vs ds},DatTs K H vs ds→DatTs K H' vs ds
 | _,_,.nil=>.nil
 | _,_,.cons r t=>.cons (DatT.same s r) (DatTs.same s t)
end
mutual
theorem DatT.tf {K:PySem.W.Frag}{H H':Hp}(s:TF H H'):∀{v d},DatT K H v d→DatT K H' v d
 | _,_,.non=>.non
 | _,_,.int i=>.int i
 | _,_,.str x=>.str x
 | _,_,.tup e q=>.tup (SqT.tf e s) (DatTs.tf s q)
theorem DatTs.tf {K:PySem.W.Frag}{H H':Hp}(s:TF H H'):∀{vs ds},DatTs K H vs ds→DatTs K H' vs ds
 | _,_,.nil=>.nil
 | _,_,.cons r t=>.cons (DatT.tf s r) (DatTs.tf s t)
end
theorem DatTs.len {K:PySem.W.Frag}{H:Hp}:∀{vs ds},DatTs K H vs ds→vs.length=ds.length
 | _,_,.nil=>rfl
 | _,_,.cons q t=>by rw [List.length_cons,List.length_cons,DatTs.len t]
theorem Zev {α:Type}{xs:List α}{n:Nat}{x:α}(h:xs.length=n+1)(e:xs[n]?=some x):Wm xs (-1)=some x:=by
 have hi:ixN xs.length (-1)=some n:=by
   unfold ixN
   rw [if_neg (by decide),if_pos (by omega)]
   exact congrArg some (by omega)
 unfold Wm
 rw [hi];exact e
end L2
set_option maxHeartbeats 1000000
namespace L2
open PySem PySem.Spec PyProof.Rows
abbrev vMro:List Value:=[.type "ValueError",.type "Exception",.type "BaseException",.type "object"]
inductive VT:List Value→Prop
 | base:VT vMro
 | own {a:Addr} {r:List Value}:VT r→VT (.ref a::r)
def Zfe:List Value→Bool
 | .ref _::r=>Zfe r
 | l=>decide (l=vMro)
theorem VT.of:∀{l:List Value},Zfe l=true→VT l
 | [],h=>nomatch (of_decide_eq_true h:([]:List Value)=vMro)
 | v::r,h=>by cases v<;>first | exact .own (VT.of h) | (have e:=of_decide_eq_true h;rw [e];exact .base)
theorem VT.has {l:List Value}(T:VT l){x:String}{b:Bool}(hb:vMro.contains (.type x)=b):l.contains (.type x)=b:=by
 induction T with
 | base=>exact hb
 | own _ ih=>rw [List.contains_cons,ih];rfl
theorem VT.refuse {l:List Value}(T:VT l)(self:Value):refuseLoop self "__setattr__" l=pure ():=by
 induction T with
 | base=>exact PySem.F.store_ValueError.passes self
 | own _ ih=>rw [refuseLoop_ref];exact ih
def Zdw (K:PySem.W.Frag)(C:Addr):Bool:=match K.lookup C with
 | some ⟨.type "type",_,.cls cd,sl⟩=>(match cd.mro,sl.toList with
   | .ref C'::bm,[_,_,_,_,some (.builtin n),_]=>C' == C&&!cd.hasDel&&cd.hasDict&&n == "ValueError.__new__"&&Zfe bm
   | _,_=>false)
 | _=>false
theorem VW {K:PySem.W.Frag}{h:Heap}{C:Addr}(X:K.In h)(q:Zdw K C=true):∃ nm qn N bs bm sn sub ab col dd k0 k1 k2 k3 k5,
   h.get? C=some (excClassObj nm qn C N bs bm true sn sub ab col dd k0 k1 k2 k3 k5 "ValueError.__new__")∧VT bm:=by
 unfold Zdw at q
 split at q
 · rename_i dd cd sl ho
   split at q
   · rename_i C' bm k0 k1 k2 k3 n k5 hm hs
     simp only [Bool.and_eq_true,beq_iff_eq,Bool.not_eq_true'] at q
     obtain ⟨⟨⟨⟨rfl,hdel⟩,hdi⟩,rfl⟩,ht⟩:=q
     obtain ⟨nm,bs,mro,ns,qn,hd,sn,sub,ab,col,del⟩:=cd
     dsimp only at hm hdel hdi
     subst hm hdel hdi
     have hsl:sl=#[k0,k1,k2,k3,some (.builtin "ValueError.__new__"),k5]:=by
       obtain ⟨l⟩:=sl
       simp only at hs
       rw [hs]
     subst hsl
     exact ⟨nm,qn,ns,bs,bm,sn,sub,ab,col,dd,k0,k1,k2,k3,k5,X _ _ ho,.of ht⟩
   · cases q
 · cases q
section
variable {prog:Program}{w:World}{A:Around}{E:Value→Shared→Prop}{h:Heap}{g:Array GenState}{d:Drawn}{t:Nat}{os:OsState}
variable {nm q:Str}{C N:Addr}{bs bm:List Value}{sn:List Str}{sub:List Value}{ab:Bool}{col:Option Bool}{dd:Option Addr}{k0 k1 k2 k3 k5:Option Value}
theorem ZdB {M:Model}(T:VT bm){rest:List Value}{Q:Unit→Shared→Prop}(hC:h.get? C=some (excClassObj nm q C N bs bm true sn sub ab col dd k0 k1 k2 k3 k5 "ValueError.__new__"))
   (hq:Q () ⟨h,g,d,t,os⟩):wpAny M A (checkBuiltinCall "ValueError.__new__" ⟨.ref C::rest,[]⟩) Q E ⟨h,g,d,t,os⟩:=by
 have F:=PySem.F.excBase_ValueError
 have hcont:(Value.ref C::bm).contains (.type "ValueError")=true:=by rw [List.contains_cons,T.has F.hasB,Bool.or_true]
 have hstar:=F.noStar
 simp only [checkBuiltinCall,F.newKind,F.newSplit,F.newRow]
 repeat (first | refine wpAny_loadPart_at hC ?_ | (refine wpAny_isSubtype_exc hC ?_;rw [hcont]) | refine wpAny_staticBase_exc hC ?_ | refine wpAny_madeBy_exc hC ?_ | simp only [bne_self_eq_false,Bool.false_eq_true,if_false] | wp_step)
 exact hq
theorem ZmI {R:Result→Shared→Prop}(T:VT bm){rest:List Value}(hC:h.get? C=some (excClassObj nm q C N bs bm true sn sub ab col dd k0 k1 k2 k3 k5 "ValueError.__new__"))
   (hq:R (.ok (.ret (.ref (h.objs.size+1)))) ⟨(h.push { cls:=.type "tuple",data:=.seq rest.toArray }).push
     { cls:=.ref C,data:=.fields #[.ref h.objs.size,.none,.none,.none,.bool false,.none] },g,d,t,os⟩) (hrest:rest.length≤sizeLine) :
   codeAny (model prog w) A (.builtin "ValueError.__new__" ⟨.ref C::rest,[]⟩) R ⟨h,g,d,t,os⟩:=by
 have F:=PySem.F.excBase_ValueError
 have hends:=F.ends
 have hcB:(Value.ref C::bm).contains (.type "ValueError")=true:=by rw [List.contains_cons,T.has F.hasB,Bool.or_true]
 have hcA:(Value.ref C::bm).contains (.type "AttributeError")=false:=by rw [List.contains_cons,T.has F.noAttr];rfl
 have hcN:(Value.ref C::bm).contains (.type "NameError")=false:=by rw [List.contains_cons,T.has F.noName];rfl
 refine codeAny_builtinAt F.entry ?_
 unfold Builtin.«BaseException.__new__»
 refine PySem.wpAt_bind ?_
 show PySem.wpAt _ _ _ (stack >>= _) _ _ _
 refine PySem.wpAt_bind (PySem.wpAt_stack fun p below=>PySem.wpAt_of_wpAny ?_)
 wp_walk
 refine PySem.wpAt_of_wpAny ?_
 rw [F.owner]
 repeat (first | with_reducible refine wpAny_madeHere_exc F.canon hC ?_ | with_reducible refine wpAny_loadPart_at hC ?_ | (with_reducible refine wpAny_isSubtype_exc hC ?_;first | rw [hcB] | rw [hcA] | rw [hcN]) | wp_step)
 show R _ _
 rw [Heap.size_push]
 exact hq
theorem ZdF (T:VT bm){rest:List Value}{fI:Addr}{oI:Obj}{Q:Fin→Shared→Prop}
   (hC:h.get? C=some (excClassObj nm q C N bs bm true sn sub ab col dd k0 k1 k2 k3 k5 "ValueError.__new__")) (LI:PySem.W.Looks (model prog w) h (typeLookup (.ref C) "__init__") (some (.ref fI)))
   (hfI:h.get? fI=some oI) (hfc:oI.cls=.type "function")
   (hq:∀ h' e,Heap.MadeExcOf h h' e (.ref C) rest→h.objs.size≤e →
     wpAny (model prog w) A (call (.ref fI) (.ref e::rest)) (fun r s'=>r=.none∧Q (.done (.ret (.ref e))) s') E ⟨h',g,d,t,os⟩) (hrest:rest.length≤sizeLine) :
   wpAny (model prog w) A (Builtin.«type.__call__» ⟨.ref C::rest,[]⟩) Q E ⟨h,g,d,t,os⟩:=by
 have F:=PySem.F.excBase_ValueError
 repeat (first | with_reducible refine wpAny_loadPart_at hC ?_ | with_reducible refine wpAny_madeBy_exc hC ?_ | wp_step)
 refine codeAny_call_builtin_code (Code.quiet_builtin _ F.quiet) (ZdB T hC ?_)
 refine ZmI T hC ?_ hrest
 show wpAny _ _ _ _ _ _
 have hC₁:=Heap.get?_push_of_some { cls:=.ref C,data:=.fields #[.ref h.objs.size,.none,.none,.none,.bool false,.none] }
   (Heap.get?_push_of_some { cls:=.type "tuple",data:=.seq rest.toArray } hC)
 have hfI₁:=Heap.get?_push_of_some { cls:=.ref C,data:=.fields #[.ref h.objs.size,.none,.none,.none,.bool false,.none] }
   (Heap.get?_push_of_some { cls:=.type "tuple",data:=.seq rest.toArray } hfI)
 have hget:((h.push { cls:=.type "tuple",data:=.seq rest.toArray }).push
     { cls:=.ref C,data:=.fields #[.ref h.objs.size,.none,.none,.none,.bool false,.none] }).get? (h.objs.size+1)=some
     { cls:=.ref C,data:=.fields #[.ref h.objs.size,.none,.none,.none,.bool false,.none] }:=by heap_get
 have hcC:(Value.ref C::bm).contains (.ref C)=true:=by simp
 unfold isInstance
 repeat (first | with_reducible refine wpAny_loadPart_at hget ?_ | (with_reducible refine wpAny_isSubtype_exc hC₁ ?_;rw [hcC]) | wp_step)
 show wpAny _ _ (typeLookup (.ref C) _) _ _ _
 refine (LI.keeps (h':=(h.push { cls:=.type "tuple",data:=.seq rest.toArray }).push { cls:=.ref C,data:=.fields #[.ref h.objs.size,.none,.none,.none,.bool false,.none] }) fun b o e=>Heap.get?_push_of_some _ (Heap.get?_push_of_some _ e)) _ _ _ _ (fun _ _ e=>e) ?_
 refine wpAny_holding (wpAny_bind ?_)
 unfold bindSpecial
 refine wpAny_bind (wpAny_typeOf (T:="function") ⟨_,hfI₁,hfc⟩ ?_)
 rw [if_pos (by decide)]
 refine wpAny_pure (wpAny_bind (wpAny_mono (hq _ (h.objs.size+1) ⟨fun b o hb=>Heap.get?_push_of_some _ (Heap.get?_push_of_some _ hb),Heap.get?_none_of_le (Nat.le_succ _),h.objs.size,hget,Heap.get?_none_of_le (Nat.le_refl _),?_⟩ (Nat.le_succ _)) (fun r s' hr=>?_) fun _ _ x=>x))
 · exact Heap.get?_push_of_some _ (Heap.get?_push_at rfl rfl)
 · obtain ⟨rfl,hQ⟩:=hr
   wp_walk
   exact hQ
theorem ZlK (T:VT bm){rest:List Value}{fI:Addr}{oI:Obj}{Q:Value→Shared→Prop}
   (hC:h.get? C=some (excClassObj nm q C N bs bm true sn sub ab col dd k0 k1 k2 k3 k5 "ValueError.__new__")) (LI:PySem.W.Looks (model prog w) h (typeLookup (.ref C) "__init__") (some (.ref fI)))
   (hfI:h.get? fI=some oI) (hfc:oI.cls=.type "function")
   (hq:∀ h' e,Heap.MadeExcOf h h' e (.ref C) rest→h.objs.size≤e →
     wpAny (model prog w) (A.under (.builtin "type.__call__" ⟨.ref C::rest,[]⟩)) (call (.ref fI) (.ref e::rest)) (fun r s'=>r=.none∧Q (.ref e) s') E ⟨h',g,d,t,os⟩) (hrest:rest.length≤sizeLine) :
   wpAny (model prog w) A (call (.ref C) rest) Q E ⟨h,g,d,t,os⟩:=by
 have f1:=tc_lookup
 have f2:=tc_bind (.ref C)
 have hT:(⟨h,g,d,t,os⟩:Shared).TypeIs (.ref C) "type":=⟨_,hC,rfl⟩
 refine wpAny_call (codeAny_of_tree ?_)
 show wpAny _ _ (callAny (.ref C) _) _ _ _
 repeat (any_goals (first | assumption | with_reducible refine wpAny_loadPart_at hC ?_ | wp_step))
 refine ⟨rfl,?_⟩
 refine codeAny_call_builtin_at (Code.quiet_builtin _ (by decide +kernel)) entry_typeCall (wpAny_check_type_call_sub hC (ZdF T hC LI hfI hfc (fun h' e hm hle=>?_) hrest))
 exact hq h' e hm hle
theorem ZjX {M:Model}{env:Env}{s:Shared}{x:Sem Value}{Q:Flow→Shared→Prop}(T:VT bm)(hh:A.handled=none)
   (h:wpAny M A x (fun v s₁=>∃ e oe vs,v=.ref e∧s₁.heap.get? C=some (excClassObj nm q C N bs bm true sn sub ab col dd k0 k1 k2 k3 k5 "ValueError.__new__") ∧
     s₁.heap.get? e=some oe∧oe.cls=.ref C∧oe.data=.fields vs∧vs[1]?=some .none∧E (.ref e) s₁) E s) :
   wpAny M A (raiseStmt env (some x) none) Q E s:=by
 have hcB:(Value.ref C::bm).contains (.type "BaseException")=true:=by rw [List.contains_cons,T.has PySem.F.excBase_ValueError.hasBase,Bool.or_true]
 unfold raiseStmt
 refine wpAny_bind (wpAny_mono h (fun v s₁ h₁=>?_) fun _ _ x=>x)
 obtain ⟨e,oe,vs,rfl,hC,he,hcl,hd,h1,hE⟩:=h₁
 obtain ⟨oc,odi,oda,osl⟩:=oe
 dsimp only at hcl hd
 subst hcl hd
 obtain ⟨hp,g,d,tk,os⟩:=s₁
 repeat (first | with_reducible refine wpAny_loadPart_at he ?_ | with_reducible refine wpAny_loadPart_at hC ?_ | (with_reducible refine wpAny_isSubtype_exc hC ?_;rw [hcB]) | with_reducible refine wpAny_field he rfl h1 ?_ | wp_step)
 exact wpAny_raiseNew_none hh hE
end
end L2
set_option maxHeartbeats 1000000
namespace L2
open PySem PySem.Spec PyProof.Rows
section
variable {prog:Program}{w:World}{A:Around}{E:Value→Shared→Prop}{h:Heap}{g:Array GenState}{d:Drawn}{t:Nat}{os:OsState}
variable {nm q:Str}{C N x:Addr}{bs bm:List Value}{sn:List Str}{sub:List Value}{ab:Bool}{col:Option Bool}{dd:Option Addr}{k0 k1 k2 k3 k5:Option Value}{name:Str}{v:Value}{o:Obj}
theorem Zfs {M:Model}{nameV:Value}{Q:Unit→Shared→Prop}(T:VT bm)
   (hC:h.get? C=some (excClassObj nm q C N bs bm true sn sub ab col dd k0 k1 k2 k3 k5 "ValueError.__new__")) (hx:h.get? x=some o) (hc:o.cls=.ref C) (hq:Q () ⟨h,g,d,t,os⟩) :
   wpAny M A (checkBuiltinCall "object.__setattr__" ⟨[.ref x,nameV,v],[]⟩) Q E ⟨h,g,d,t,os⟩:=by
 have SF:=PySem.F.store_ValueError
 have hcB:(Value.ref C::bm).contains (.type "object")=true:=by rw [List.contains_cons,T.has SF.hasOwner,Bool.or_true]
 have ha:=SF.args (.ref x) nameV v
 simp only [checkBuiltinCall,SF.kind,SF.split]
 refine wpAny_bind ?_
 · unfold isInstance
   repeat (first | (with_reducible refine wpAny_loadPart_at hx ?_;rw [hc]) | (with_reducible refine wpAny_isSubtype_exc hC ?_;rw [hcB]) | wp_step)
   exact hq
theorem ZkM {Q:Unit→Shared→Prop}(T:VT bm)(hC:h.get? C=some (excClassObj nm q C N bs bm true sn sub ab col dd k0 k1 k2 k3 k5 "ValueError.__new__"))
   (LS:PySem.W.Looks (model prog w) h (typeLookup (.ref C) "__setattr__") (some (.builtin "object.__setattr__"))) (LN:PySem.W.Looks (model prog w) h (typeLookup (.ref C) name) none)
   (hx:h.get? x=some o) (hc:o.cls=.ref C) (hdn:o.dict=none) (hnc:∀ c,o.data≠.cls c)
   (hq:∀ h' tk',h'.get? x=some { o with dict:=some h.objs.size }→h'.Ns1 h.objs.size (fun y=>if y=name then some v else none)→(∀ b ob,b≠x→h.get? b=some ob→h'.get? b=some ob)→Q () ⟨h',g,d,tk',os⟩) :
   wpAny (model prog w) A (setAttr (.ref x) name v) Q E ⟨h,g,d,t,os⟩:=by
 have SF:=PySem.F.store_ValueError
 have f3:=SF.slot.bind (.ref x)
 unfold setAttr callSpecial? specialOf
 have LS':∀ {tk:Nat} {A:Around} {Q:Option Value→Shared→Prop} {E:Value→Shared→Prop},Q (some (.builtin "object.__setattr__")) ⟨h,g,d,tk,os⟩→wpAny (model prog w) A (typeLookup (.ref C) "__setattr__") Q E ⟨h,g,d,tk,os⟩:=fun q=>LS _ _ _ _ (fun _ _ e=>e) q
 have LN':∀ {tk:Nat} {A:Around} {Q:Option Value→Shared→Prop} {E:Value→Shared→Prop},Q none ⟨h,g,d,tk,os⟩→wpAny (model prog w) A (typeLookup (.ref C) name) Q E ⟨h,g,d,tk,os⟩:=fun q=>LN _ _ _ _ (fun _ _ e=>e) q
 repeat (any_goals (first | assumption | (with_reducible refine wpAny_loadPart_at hx ?_;rw [hc]) | (with_reducible refine LS' ?_) | wp_step))
 refine codeAny_call_builtin SF.slot.plain SF.entry (Zfs T hC hx hc ?_)
 have hpass:=T.refuse (.ref x)
 unfold Builtin.«object.__setattr__»
 repeat (first | rw [refuse_eq] | (rw [refuseLoop_ref,hpass]) | (with_reducible refine wpAny_loadPart_at hx ?_;rw [hc]) | with_reducible refine wpAny_mroOf_exc hC ?_ | (with_reducible refine LN' ?_) | wp_step)
 rw [hdn,if_neg (by simp [typeHasDict])]
 split
 · rename_i hcd
   cases hcd
 split
 · rename_i c hcd
   exact absurd hcd (hnc c)
 · have hx₁:(h.push { cls:=.type "dict",data:=.dict #[] }).get? x=some o:=Heap.get?_push_of_some _ hx
   have hxs:x≠h.objs.size:=Nat.ne_of_lt (Heap.lt_size hx)
   refine wpAny_bind (wpAny_alloc' ?_)
   refine wpAny_bind (wpAny_update' hx₁ ?_)
   refine wpAny_pure ?_
   have hgd:((h.push { cls:=.type "dict",data:=.dict #[] }).update x fun o=>{ cls:=o.cls,dict:=some h.objs.size,data:=o.data,slots:=o.slots }).get? h.objs.size
       = some { cls:=.type "dict",data:=.dict #[] } :=
     (Heap.get?_update_ne _ _ _ _ hxs.symm).trans (Heap.get?_push_at rfl rfl)
   have hnd:((h.push { cls:=.type "dict",data:=.dict #[] }).update x fun o=>{ cls:=o.cls,dict:=some h.objs.size,data:=o.data,slots:=o.slots }).Ns h.objs.size (fun _=>none) :=
     ⟨_,#[],_,hgd,rfl,fun e he=>absurd he (by simp),fun _=>rfl⟩
   show wpAny _ _ (Builtin.ObjectAttr.storeInDict h.objs.size (.str name _) name v) _ _ _
   unfold Builtin.ObjectAttr.storeInDict Builtin.ObjectAttr.newKeyGuard
   refine wpAny_bind (wpAny_pure (wpAny_bind (wpAny_nsSet1 (Heap.Ns1.of_empty hnd) fun h' hn' hs=>?_)))
   obtain ⟨oD,esD,epD,hoD,hdD,hcD⟩:=hn'.count (Within.cons name v Within.nil)
   refine wpAny_bind (wpAny_lookBehind hoD (by rw [hdD];exact pastItsLine_dict (Nat.le_trans hcD (by rw [List.length_cons,List.length_nil,sizeLine_eq];omega))) ?_)
   wp_walk
   have hx':h'.get? x=some { cls:=o.cls,dict:=some h.objs.size,data:=o.data,slots:=o.slots }:=by
     refine (hs.2 x hxs).trans (Heap.get?_update_self _ hx₁ ?_)
     have hfr:=(Heap.get?_some_iff.mp hx).2
     obtain ⟨oc,od,odt,osl⟩:=o
     cases odt<;>first | rfl | exact hfr
   repeat (any_goals (first | assumption | wp_step))
   exact hq h' _ hx' hn' fun b ob hbx hb=>(hs.2 b (Nat.ne_of_lt (Heap.lt_size hb))).trans ((Heap.get?_update_ne _ _ _ _ hbx).trans (Heap.get?_push_of_some _ hb))
end
end L2
set_option maxHeartbeats 1000000
namespace L2
open PySem PySem.Spec PyProof.Rows
def TbAt (base:Heap)(n:Nat)(H:Hp)(h:Heap)(ea:Addr)(vs:Array Value):Option Value→Prop
 | none=>vs[1]?=some .none
 | some fl=>∃ T oT ts,vs[1]?=some (.ref T)∧T≠ea∧base.get? T=none∧H T=none∧n≤T∧h.get? T=some oT∧oT.data=.fields ts∧ts[3]?=some fl
def ExcAt (base:Heap)(n:Nat)(H:Hp)(ea C dx:Addr)(fl:Option Value)(h:Heap):Prop :=
 base.get? ea=none∧H ea=none∧n≤ea∧∃ oe vs,h.get? ea=some oe∧oe.cls=.ref C∧oe.dict=some dx∧oe.data=.fields vs∧TbAt base n H h ea vs fl
def Keep (fs:List Addr)(n:Nat)(H:Hp)(h h':Heap):Prop :=
 (∀ b o,h.get? b=some o→b∈fs→∃ sl,h'.get? b=some { o with slots:=sl })∧(∀ b o,h.get? b=some o→b ∉ fs→(H b≠none∨b < n)→h'.get? b=some o) ∧
 (∀ b m,h.Ns b m→h'.Ns b m)∧(∀ b v,h.IsCell b v→h'.IsCell b v)∧h.objs.size≤h'.objs.size
theorem Keep.trans {fs:List Addr}{n:Nat}{H:Hp}{h h1 h2:Heap}(a:Keep fs n H h h1)(b:Keep fs n H h1 h2):Keep fs n H h h2:=by
 refine ⟨fun c o e m=>?_,fun c o e m k=>b.2.1 c o (a.2.1 c o e m k) m k,fun c m x=>b.2.2.1 c m (a.2.2.1 c m x),fun c v x=>b.2.2.2.1 c v (a.2.2.2.1 c v x),Nat.le_trans a.2.2.2.2 b.2.2.2.2⟩
 obtain ⟨sl,e1⟩:=a.1 c o e m
 obtain ⟨sl2,e2⟩:=b.1 c _ e1 m
 exact ⟨sl2,e2⟩
theorem ZfG {h h':Heap}(k:∀ b o,h.get? b=some o→(∀ vs,o.data≠.fields vs)→∃ sl,h'.get? b=some { o with slots:=sl }){b:Addr}{m:Str→Option Value}(x:h.Ns b m):h'.Ns b m:=by
 obtain ⟨o,es,ep,ho,hd,r⟩:=x
 obtain ⟨sl,hs⟩:=k b o ho fun vs q=>by rw [hd] at q;cases q
 exact ⟨_,es,ep,hs,hd,r⟩
theorem Zbi {h h':Heap}(k:∀ b o,h.get? b=some o→(∀ vs,o.data≠.fields vs)→∃ sl,h'.get? b=some { o with slots:=sl }){b:Addr}{v:Option Value}(x:h.IsCell b v):h'.IsCell b v:=by
 obtain ⟨o,ho,hd⟩:=x
 obtain ⟨sl,hs⟩:=k b o ho fun vs q=>by rw [hd] at q;cases q
 exact ⟨_,hs,hd⟩
section
variable {M:Model}{A:Around}{E:Value→Shared→Prop}{s:Shared}{base:Heap}{n:Nat}{H:Hp}{env:Env}{outer:List Env}{L ea C dx:Addr}
theorem Zbc {oe:Obj}{vs:Array Value}{head:Value}{hadNext:Bool}{Q:Unit→Shared→Prop}
   (hfr:A.frames=some (env::outer)) (hl:s.heap.FunFrames base (env::outer)) (hf:env.frame=some L)
   (he:s.heap.get? ea=some oe) (hkb:base.StaysIn s.heap) (hen:base.get? ea=none) (hHe:H ea=none) (hne:n≤ea) (hcl:oe.cls=.ref C) (hdi:oe.dict=some dx) (hd:oe.data=.fields vs) (hsz:1 < vs.size) (hH:∀ b,s.heap.objs.size≤b→H b=none)
   (h:∀ h',base.StaysIn h'→h'.FunFrames base (env::outer)→ExcAt base n H ea C dx (some (rawInt L)) h'→Keep (Xs (env::outer)) n H s.heap h'→Q () { s with heap:=h' }) :
   wpAny M A (do let a ← frameOf env;let pl ← entryPlaceOf L hadNext;let b ← EntryCells.newEntry head a .none (rawInt L) .none pl;setField (.ref ea) 1 b) Q E s:=by
 have hene:ea ∉ (env::outer).filterMap (·.frame):=fun hm=>by
   obtain ⟨_,o,ho,hnf⟩:=hl.mem hm
   rw [he] at ho;injection ho with ho;subst ho;exact hnf vs hd
 refine wpAny_bind (wpAny_frameOf_fun hfr hl hf fun h₁ hs₁=>?_)
 refine wpAny_bind (wpAny_entryPlaceOf fun pl hpl=>?_)
 unfold EntryCells.newEntry newFields
 refine wpAny_bind (wpAny_newObj_type ?_ (hpl.sizeOk5 _ _ _ _ _))
 have he₁:h₁.get? ea=some oe:=(hs₁.2.1 ea hene).trans he
 have kb₁:base.StaysIn h₁:=fun b o hbo=>(hs₁.2.1 b fun hm=>by rw [(hl.mem hm).1] at hbo;cases hbo).trans (hkb b o hbo)
 have he₂:=Heap.get?_push_of_some (h:=h₁) { cls:=.type "traceback",dict:=none,data:=.fields ([head,.ref L,.none,rawInt L,.none]++(if pl.isEmpty then List.replicate 6 Value.none else pl)).toArray } he₁
 refine wpAny_setField he₂ hd hsz ?_
 have hTe:h₁.objs.size≠ea:=Nat.ne_of_gt (Heap.lt_size he₁)
 have hd₃:=Obj.data_mapFields hd (·.setIfInBounds 1 (Value.ref h₁.objs.size))
 have he₃:=Heap.get?_update_self (Obj.mapFields (·.setIfInBounds 1 (Value.ref h₁.objs.size))) he₂ (Obj.isFreed_of_fields hd₃)
 have hT₃:=(Heap.get?_update_other (h₁.push { cls:=.type "traceback",dict:=none,data:=.fields ([head,.ref L,.none,rawInt L,.none]++(if pl.isEmpty then List.replicate 6 Value.none else pl)).toArray })
   (Obj.mapFields (·.setIfInBounds 1 (Value.ref h₁.objs.size))) (Ne.symm hTe)).trans (Heap.get?_push_size h₁ rfl)
 have keep:∀ b o,b≠ea→h₁.get? b=some o →
     ((h₁.push { cls:=.type "traceback",dict:=none,data:=.fields ([head,.ref L,.none,rawInt L,.none]++(if pl.isEmpty then List.replicate 6 Value.none else pl)).toArray }).update ea (Obj.mapFields (·.setIfInBounds 1 (Value.ref h₁.objs.size)))).get? b=some o :=
   fun b o hbe hb=>by
     rw [Heap.get?_update_other _ _ (Ne.symm hbe)]
     exact Heap.get?_push_of_some _ hb
 have noRecord:∀ b o,s.heap.get? b=some o→(∀ vs,o.data≠.fields vs)→b≠ea:=fun b o hb hnf q=>by
   rw [q,he] at hb;injection hb with hb;subst hb;exact hnf vs hd
 have up:∀ b o,s.heap.get? b=some o→(∀ vs,o.data≠.fields vs)→∃ sl,((h₁.push { cls:=.type "traceback",dict:=none,data:=.fields ([head,.ref L,.none,rawInt L,.none]++(if pl.isEmpty then List.replicate 6 Value.none else pl)).toArray }).update ea (Obj.mapFields (·.setIfInBounds 1 (Value.ref h₁.objs.size)))).get? b=some { o with slots:=sl }:=fun b o hb hnf=>by
   obtain ⟨sl,hs⟩:=hs₁.2.2 b o hb
   exact ⟨sl,keep b _ (noRecord b o hb hnf) hs⟩
 have hmap:∀ {o:Obj} {f:Array Value→Array Value},(o.mapFields f).dict=o.dict:=fun {o f}=>by unfold Obj.mapFields;split<;>rfl
 refine h _ (fun b o hbo=>keep b o (fun q=>by rw [q,hen] at hbo;cases hbo) (kb₁ b o hbo)) (hl.of_keeps fun b o hb hnf=>let ⟨sl,e⟩:=up b o hb hnf;⟨_,e,rfl⟩) ?_ ?_
 · refine ⟨hen,hHe,hne,_,_,he₃,(Obj.cls_mapFields _ _).trans hcl,hmap.trans hdi,hd₃,h₁.objs.size,_,_,by simp [hsz],hTe,kb₁.fresh,hH _ (by rw [hs₁.1];exact Nat.le_refl _),?_,hT₃,rfl,by first | (simp;done) | (rcases hpl with rfl | ⟨_,_,_,_,_,_,_,rfl⟩<;>simp)⟩
   exact Nat.le_trans hne (Nat.le_of_lt (Heap.lt_size he₁))
 · refine ⟨fun b o hb hm=>?_,fun b o hb hm k=>?_,fun b m x=>ZfG up x,fun b v x=>Zbi up x,?_⟩
   · obtain ⟨sl,hs⟩:=hs₁.2.2 b o hb
     exact ⟨sl,keep b _ (fun q=>hene (by rw [← q];exact hm)) hs⟩
   · refine keep b o (fun q=>?_) ((hs₁.2.1 b hm).trans hb)
     rcases k with k | k
     · exact k (by rw [q];exact hHe)
     · rw [q] at k;exact absurd k (Nat.not_lt.mpr hne)
   · rw [Heap.size_after_update,Heap.size_push,hs₁.1];exact Nat.le_succ _
theorem ZdR {fl:Option Value}{Q:Unit→Shared→Prop}(hfl:fl=none∨fl=some .none)
   (hfr:A.frames=some (env::outer)) (hl:s.heap.FunFrames base (env::outer)) (hf:env.frame=some L) (hkb:base.StaysIn s.heap) (x:ExcAt base n H ea C dx fl s.heap) (hH:∀ b,s.heap.objs.size≤b→H b=none)
   (h:∀ h',base.StaysIn h'→h'.FunFrames base (env::outer)→ExcAt base n H ea C dx (some (rawInt L)) h'→Keep (Xs (env::outer)) n H s.heap h'→Q () { s with heap:=h' }) :
   wpAny M A (noteFrame (.ref ea) env) Q E s:=by
 obtain ⟨hen,hHe,hne,oe,vs,he,hcl,hdi,hd,tb⟩:=x
 unfold noteFrame
 simp only [hf]
 rcases hfl with rfl | rfl
 · have h1:vs[1]?=some .none:=tb
   refine wpAny_bind (wpAny_field he hd h1 ?_)
   rw [if_neg (by decide)]
   exact Zbc hfr hl hf he hkb hen hHe hne hcl hdi hd (Array.getElem?_eq_some_iff.mp h1).1 hH h
 · obtain ⟨T,oT,ts,h1,hTe,hnT,hHT,hnT2,hT,hdT,h3⟩:=tb
   refine wpAny_bind (wpAny_field he hd h1 ?_)
   rw [if_pos (show (Value.ref T != Value.none)=true from by simp)]
   refine wpAny_bind (wpAny_field hT hdT h3 ?_)
   rw [if_neg (show ¬ ((Value.none == rawInt L)=true) from by simp [rawInt])]
   refine wpAny_bind (wpAny_setField hT hdT (Array.getElem?_eq_some_iff.mp h3).1 ?_)
   have other:∀ b,b≠T→(s.heap.update T (Obj.mapFields (·.setIfInBounds 3 Value.none))).get? b=s.heap.get? b:=fun b hb=>Heap.get?_update_other _ _ (Ne.symm hb)
   have noRecord:∀ b o,s.heap.get? b=some o→(∀ vs,o.data≠.fields vs)→b≠T:=fun b o hb hnf q=>by
     rw [q,hT] at hb;injection hb with hb;subst hb;exact hnf ts hdT
   have up:∀ b o,s.heap.get? b=some o→(∀ vs,o.data≠.fields vs)→∃ sl,(s.heap.update T (Obj.mapFields (·.setIfInBounds 3 Value.none))).get? b=some { o with slots:=sl }:=fun b o hb hnf=>⟨o.slots,(other b (noRecord b o hb hnf)).trans hb⟩
   have hsz:(s.heap.update T (Obj.mapFields (·.setIfInBounds 3 Value.none))).objs.size=s.heap.objs.size:=Heap.size_after_update ..
   have kp:Keep (Xs (env::outer)) n H s.heap (s.heap.update T (Obj.mapFields (·.setIfInBounds 3 Value.none))):=by
     refine ⟨fun b o hb hm=>⟨o.slots,(other b fun q=>?_).trans hb⟩,fun b o hb hm k=>(other b fun q=>?_).trans hb,fun b m x=>ZfG up x,fun b v x=>Zbi up x,Nat.le_of_eq hsz.symm⟩
     · obtain ⟨_,o',ho',hnf⟩:=hl.mem hm
       rw [q,hT] at ho';cases ho';exact hnf ts hdT
     · rcases k with k | k
       · exact k (by rw [q];exact hHT)
       · rw [q] at k;exact absurd k (Nat.not_lt.mpr hnT2)
   exact Zbc (s:={ s with heap:=s.heap.update T (Obj.mapFields (·.setIfInBounds 3 Value.none)) }) hfr (hl.of_keeps fun b o hb hnf=>⟨o,(other b (noRecord b o hb hnf)).trans hb,rfl⟩) hf ((other ea (Ne.symm hTe)).trans he)
     (fun b o hbo=>(other b fun q=>by rw [q,hnT] at hbo;cases hbo).trans (hkb b o hbo)) hen hHe hne hcl hdi hd (Array.getElem?_eq_some_iff.mp h1).1 (fun b hb=>hH b (by rw [← hsz];exact hb))
     fun h' x1 x2 x3 x4=>h h' x1 x2 x3 (kp.trans x4)
theorem VG {l:List Env}{fl:Value}{Q:Unit→Shared→Prop}(hkb:base.StaysIn s.heap)(hl:s.heap.FunFrames base l)(x:ExcAt base n H ea C dx (some fl) s.heap)
   (h:∀ h',base.StaysIn h'→h'.FunFrames base l→ExcAt base n H ea C dx (some .none) h'→(∀ fs,(∀ b∈fs,∃ o,s.heap.get? b=some o∧∀ vs,o.data≠.fields vs)→Keep fs n H s.heap h')→Q () { s with heap:=h' }) :
   wpAny M A (setFlight (.ref ea) none) Q E s:=by
 obtain ⟨hen,hHe,hne,oe,vs,he,hcl,hdi,hd,T,oT,ts,h1,hTe,hnT,hHT,hnT2,hT,hdT,h3⟩:=x
 have hsz3:3 < ts.size:=(Array.getElem?_eq_some_iff.mp h3).1
 have other:∀ b,b≠T→(s.heap.update T (Obj.mapFields (·.setIfInBounds 3 ((none:Option Addr).elim Value.none fun f=>rawInt f)))).get? b=s.heap.get? b :=
   fun b hb=>Heap.get?_update_other _ _ (Ne.symm hb)
 have noRecord:∀ b o,s.heap.get? b=some o→(∀ vs,o.data≠.fields vs)→b≠T:=fun b o hb hnf q=>by
   rw [q,hT] at hb;injection hb with hb;subst hb;exact hnf ts hdT
 have up:∀ b o,s.heap.get? b=some o→(∀ vs,o.data≠.fields vs)→∃ sl,(s.heap.update T (Obj.mapFields (·.setIfInBounds 3 ((none:Option Addr).elim Value.none fun f=>rawInt f)))).get? b=some { o with slots:=sl }:=fun b o hb hnf=>⟨o.slots,(other b (noRecord b o hb hnf)).trans hb⟩
 unfold setFlight
 refine wpAny_bind (wpAny_field he hd h1 ?_)
 rw [if_pos (show (Value.ref T != Value.none)=true from by simp)]
 refine wpAny_setField hT hdT hsz3 (h _ (fun b o hbo=>(other b fun q=>by rw [q,hnT] at hbo;cases hbo).trans (hkb b o hbo))
   (hl.of_keeps fun b o hb hnf=>⟨o,(other b (noRecord b o hb hnf)).trans hb,rfl⟩) ?_ fun fs hfs=>?_)
 · exact ⟨hen,hHe,hne,oe,vs,(other ea (Ne.symm hTe)).trans he,hcl,hdi,hd,T,_,_,h1,hTe,hnT,hHT,hnT2,Heap.get?_update_self _ hT (Obj.isFreed_of_fields (Obj.data_mapFields hdT _)),Obj.data_mapFields hdT _,by simp [hsz3]⟩
 · refine ⟨fun b o hb hm=>⟨o.slots,(other b fun q=>?_).trans hb⟩,fun b o hb hm k=>(other b fun q=>?_).trans hb,fun b m x=>ZfG up x,fun b v x=>Zbi up x,Nat.le_of_eq (Heap.size_after_update ..).symm⟩
   · obtain ⟨o',ho',hnf⟩:=hfs b hm
     rw [q,hT] at ho';cases ho';exact hnf ts hdT
   · rcases k with k | k
     · exact k (by rw [q];exact hHT)
     · rw [q] at k;exact absurd k (Nat.not_lt.mpr hnT2)
theorem Zjj {fl:Option Value}{Q:Unit→Shared→Prop}(hfl:fl=none∨fl=some .none)
   (hfr:A.frames=some (env::outer)) (hl:s.heap.FunFrames base (env::outer)) (hf:env.frame=some L) (hkb:base.StaysIn s.heap) (x:ExcAt base n H ea C dx fl s.heap) (hH:∀ b,s.heap.objs.size≤b→H b=none)
   (h:∀ h',base.StaysIn h'→h'.FunFrames base outer→ExcAt base n H ea C dx (some .none) h'→Keep (Xs (env::outer)) n H s.heap h'→Q () { s with heap:=h' }) :
   wpAny M A (leaving env (.ref ea)) Q E s:=by
 unfold leaving
 refine wpAny_bind (ZdR hfl hfr hl hf hkb x hH fun h1 b1 f1 x1 k1=>?_)
 refine VG b1 f1 x1 fun h2 b2 f2 x2 k2=>h h2 b2 f2.2.2 x2 (k1.trans (k2 _ fun b hb=>?_))
 obtain ⟨_,o,ho,hnf⟩:=f1.mem hb
 exact ⟨o,ho,hnf⟩
end
end L2
set_option maxHeartbeats 1000000
namespace L2
open PySem PySem.Spec PyProof.Rows
theorem Keep.hok {P:Program}{w:World}{fs:List Addr}{n:Nat}{H:Hp}{h h':Heap}(x:HOk P w H h)(hf:∀ b∈fs,H b=none)(k:Keep fs n H h h'):HOk P w H h':=fun a o e=>by
 have tr:∀ b,b=a∨H b=some (.own a)→H b≠none:=fun b hb z=>by
   rcases hb with rfl | hb
   · rw [e] at z;cases z
   · rw [hb] at z;cases z
 exact (x a o e).stay (fun b u hb q=>k.2.1 b u q (fun m=>tr b hb (hf b m)) (.inl (tr b hb))) (fun _ q=>q) (fun _ _ q=>q)
theorem ExcAt.le {base:Heap}{n n':Nat}{H:Hp}{ea C dx:Addr}{fl:Option Value}{h:Heap}(x:ExcAt base n' H ea C dx fl h)(l:n≤n'):ExcAt base n H ea C dx fl h:=by
 obtain ⟨a,b,c,oe,vs,e1,e2,e3,e4,tb⟩:=x
 refine ⟨a,b,Nat.le_trans l c,oe,vs,e1,e2,e3,e4,?_⟩
 cases fl with
 | none=>exact tb
 | some f=>obtain ⟨T,oT,ts,t1,t2,t3,t4,t5,t6⟩:=tb;exact ⟨T,oT,ts,t1,t2,t3,t4,Nat.le_trans l t5,t6⟩
section
variable {X:Cx}{pins:List (Addr×Obj)}{σ:St}{H H1 H2:Hp}{s s1 s2:Shared}{h':Heap}
def Zfd (n:Nat)(H:Hp)(h:Heap):List Addr:=(List.range h.objs.size).filter fun b=>(H b).isNone&&decide (n≤b)
theorem Inv.flown {t':Nat}(I1:Inv X pins σ H1 s1)(I2:Inv X pins σ H2 s2)(k:Keep (Xs X.stack) s1.heap.objs.size H2 s2.heap h'):Inv X pins σ H2 { s2 with heap:=h',toks:=t' }:=by
 have mem:∀ b,b∈Zfd s1.heap.objs.size H2 s2.heap→s1.heap.objs.size≤b:=fun b hb=>by
   have:=(List.mem_filter.mp hb).2
   simp only [Bool.and_eq_true,decide_eq_true_eq] at this
   exact this.2
 have out:∀ b o,s2.heap.get? b=some o→b ∉ Zfd s1.heap.objs.size H2 s2.heap→H2 b≠none∨b < s1.heap.objs.size:=fun b o e hb=>by
   by_cases z:H2 b=none
   · refine .inr (Nat.lt_of_not_le fun l=>hb (List.mem_filter.mpr ⟨List.mem_range.mpr (Heap.lt_size e),?_⟩))
     rw [z];simp [l]
   · exact .inl z
 refine I2.call (g':=s2.gens) (d':=s2.drawn) (ch:=Zfd s1.heap.objs.size H2 s2.heap) ⟨fun b o e hn hf hc=>k.2.1 b o e hf (out b o e hc),fun b o e hn hf hc=>k.1 b o e hf,fun b o e hn hc=>hn,fun b o e hc=>?_,fun _ _ e=>e,fun _ _ _ e=>e,fun _ ps e=>⟨#[],by rw [e];simp⟩⟩ (k.hok I2.hok I2.stkFree) I2.bare fun b hb=>?_
 · by_cases m:b∈Xs X.stack
   · obtain ⟨sl,q⟩:=k.1 b o e m;exact ⟨_,q⟩
   · exact ⟨o,k.2.1 b o e m (out b o e hc)⟩
 · have hb':=mem b hb
   refine ⟨.inr (Nat.le_trans I1.sz hb'),fun z=>?_,fun x c hx z=>?_,fun p hp z=>?_⟩
   · have:=I1.lt;rw [← z] at this;exact absurd this (Nat.not_lt.mpr hb')
   · obtain ⟨v,o,e,_⟩:=I1.cell x c hx
     have:=Heap.lt_size e;rw [z] at this;exact absurd this (Nat.not_lt.mpr hb')
   · have:=Heap.lt_size (I1.pin p hp).1;rw [z] at this;exact absurd this (Nat.not_lt.mpr hb')
structure Cx.Old (X:Cx)(a:Addr):Prop where
 t:∀ xs,X.H₀ a≠some (.tup xs)
 f:∀ o u,X.H₀ a≠some (.frz o u)
 b:∀ ps,X.H₀ a≠some (.tbl ps)
theorem Inv.old {a:Addr}(I:Inv X pins σ H s)(h:H a=none):X.Old a where
 t:=fun xs e=>(by have:=I.base.tups a xs e;rw [h] at this;cases this)
 f:=fun o u e=>(by have:=I.base.frzs a o u e;rw [h] at this;cases this)
 b:=fun ps e=>(by obtain ⟨m,q⟩:=I.base.tbls a ps e;rw [h] at q;cases q)
theorem Cx.Old.nt {a b:Addr}(O:X.Old a){xs:List V}(e:X.H₀ b=some (.tup xs)):b≠a:=fun z=>O.t xs (by rw [← z];exact e)
theorem Cx.Old.nf {a b:Addr}(O:X.Old a){o:Obj}{u:HO}(e:X.H₀ b=some (.frz o u)):b≠a:=fun z=>O.f o u (by rw [← z];exact e)
theorem Cx.Old.nb {a b:Addr}(O:X.Old a){ps:Array Value}(e:X.H₀ b=some (.tbl ps)):b≠a:=fun z=>O.b ps (by rw [← z];exact e)
theorem Inv.track {a:Addr}{o:HO}(I:Inv X pins σ H s)(hn:H a=none)(h0:X.s₀.heap.objs.size≤a)(hL:a≠X.env.locals)(hC:∀ x c,X.env.cells.lookup x=some c→c≠a)(hp:∀ p∈X.pn++pins,p.1≠a)
   (new:ObjOk X.prog X.w (upd H a o) s.heap a o):Inv X pins σ (upd H a o) s:=by
 have old:∀ b u,X.s₀.heap.get? b=some u→b≠a:=fun b u e z=>by
   have:=Heap.lt_size e;rw [z] at this;exact absurd this (Nat.not_lt.mpr h0)
 refine ⟨I.ok,I.os,I.bare,⟨I.base.keep,I.base.slot,fun b u e n hx=>?_,I.base.there,fun b xs e=>?_,fun b u xs e=>?_,fun b ps e=>?_⟩,I.loc,I.cell,?_,fun x c hx=>?_,fun p hp'=>?_,fun b u e=>?_,I.len⟩
 · rw [Zm (old b u e)];exact I.base.free b u e n hx
 · rw [Zm ((I.old hn).nt e)];exact I.base.tups b xs e
 · rw [Zm ((I.old hn).nf e)];exact I.base.frzs b u xs e
 · rw [Zm ((I.old hn).nb e)];exact I.base.tbls b ps e
 · rw [Zm (Ne.symm hL)];exact I.free
 · rw [Zm (hC x c hx)];exact I.freeC x c hx
 · obtain ⟨e1,e2,e3⟩:=I.pin p hp'
   exact ⟨e1,by rw [Zm (hp p hp')];exact e2,e3⟩
 · by_cases z:b=a
   · subst z;rw [Zb] at e;cases e;exact new
   · rw [Zm z] at e
     exact (I.hok b u e).stay (fun _ _ _ q=>q) (fun c q=>by rw [Zm (ZG q hn)];exact q) (fun c xs q=>by rw [Zm (ZG q hn)];exact q)
end
def Vz (P:Program)(w:World)(base:Heap):Uv:=fun outer H s E e s'=>∃(ea C dx:Addr)(H':Hp),e=.ref ea∧base.StaysIn s'.heap∧s'.heap.FunFrames base outer∧ExcAt base s.heap.objs.size H' ea C dx (some .none) s'.heap∧s'.os=s.os∧AllBare s'.gens ∧
 Un (Xs outer) [] H H' s.heap s'.heap∧HOk P w H' s'.heap∧E (.ref C) (some dx) H'
section
variable {P:Program}{w:World}{K:PySem.W.Frag}{mg:Str→Option Value}{base:Heap}{k:Nat}{f:Addr}{fd:FuncData}{ps:List Str}{sp sp':Sp}{CX:Uv}
def Vf (X:Cx)(EE:St→XK):Prop:=∀(pins:List (Addr×Obj))(σ:St)(H1 H2:Hp)(s1 s2:Shared)(ea C dx:Addr)(fl:Option Value),Inv X pins σ H1 s1→Inv X pins σ H2 s2→(fl=none∨fl=some .none)→ExcAt X.base s1.heap.objs.size H2 ea C dx fl s2.heap→EE σ (.ref C) (some dx) H2→X.xe (.ref ea) s2
theorem ZgC {N:List Str}{qual:Str}{scope:Scope}{cd:Value}{A:Around}{outer:List Env}{s:Shared}{H:Hp}{E:XK}:Vf (WB (Vz P w base) P w K mg base N qual scope f cd A outer s H E) (fun _=>E):=by
 intro pins σ H1 H2 s1 s2 ea C dx fl I1 I2 hfl x q
 have hsz:s.heap.objs.size≤s1.heap.objs.size:=I1.sz
 have hok2:HOk P w H2 s2.heap:=I2.hok
 refine Zjj (base:=base) (n:=s.heap.objs.size) (H:=H2) (outer:=outer) (L:=s.heap.objs.size) hfl I2.ok.frames I2.stack rfl I2.bk (x.le hsz) (fun b hb=>hok2.fresh hb) fun h' b1 f1 x1 k1=>?_
 have un:Un (Xs outer) [] H H2 s.heap s2.heap:=I2.base
 have nL:∀ b o,s.heap.get? b=some o→b ∉ Xs outer→b ∉ Xs (envOfC qual scope s.heap.objs.size f cd::outer):=fun b o e hf m=>by
   rcases List.mem_filterMap.mp m with ⟨v,hv,ev⟩
   rcases List.mem_cons.mp hv with rfl | hv
   · cases (show some s.heap.objs.size=some b from ev);exact absurd (Heap.lt_size e) (Nat.lt_irrefl _)
   · exact hf (List.mem_filterMap.mpr ⟨v,hv,ev⟩)
 have inL:∀ b,b∈Xs outer→b∈Xs (envOfC qual scope s.heap.objs.size f cd::outer):=fun b m=>by
   obtain ⟨v,hv,ev⟩:=List.mem_filterMap.mp m
   exact List.mem_filterMap.mpr ⟨v,List.mem_cons_of_mem _ hv,ev⟩
 refine ⟨ea,C,dx,H2,rfl,b1,f1,x1,I2.os,I2.bare,⟨fun b o e hn hf hx=>k1.2.1 b o (un.keep b o e hn hf hx) (nL b o e hf) (.inr (Heap.lt_size e)),fun b o e hn hf hx=>?_,un.free,fun b o e hx=>?_,un.tups,un.frzs,un.tbls⟩,k1.hok hok2 I2.stkFree,q⟩
 · obtain ⟨sl,e1⟩:=un.slot b o e hn hf hx
   obtain ⟨sl2,e2⟩:=k1.1 b _ e1 (inL b hf)
   exact ⟨sl2,e2⟩
 · obtain ⟨o',e1⟩:=un.there b o e hx
   by_cases m:b∈Xs (envOfC qual scope s.heap.objs.size f cd::outer)
   · obtain ⟨sl,e2⟩:=k1.1 b o' e1 m;exact ⟨_,e2⟩
   · exact ⟨o',k1.2.1 b o' e1 m (.inr (Heap.lt_size e))⟩
end
end L2
set_option maxHeartbeats 1000000
namespace L2
open PySem PySem.Spec PyProof.Rows
abbrev Cx.tryc (X:Cx)(pn:List (Addr×Obj))(Z:Value→Shared→Prop):Cx:={ X with pn:=pn,xe:=Z }
abbrev Cx.marked (X:Cx)(ea:Addr)(Z:Value→Shared→Prop):Cx:={ X with A:=X.A.mark (some (.ref ea)),calm:=false,xe:=Z }
def XO (ea C dx:Addr):HO:=.ext fun h=>∃ oe vs,h.get? ea=some oe∧oe.cls=.ref C∧oe.dict=some dx∧oe.data=.fields vs
section
variable {X:Cx}{pins:List (Addr×Obj)}{σ:St}{H:Hp}{s:Shared}
theorem Inv.tryc (I:Inv X pins σ H s)(Z:Value→Shared→Prop):Inv (X.tryc (X.pn++pins) Z) [] σ H s :=
 ⟨⟨I.ok.mod,I.ok.kind,I.ok.glob,I.ok.blt,I.ok.above,I.ok.inj,I.ok.has,I.ok.cab,I.ok.hd,I.ok.frames,I.ok.stk,I.ok.exf,I.ok.bs,I.ok.bsz,I.ok.noex,I.ok.exfs,I.ok.funs,I.ok.frf⟩,I.os,I.bare,I.base,I.loc,I.cell,I.free,I.freeC,fun p hp=>I.pin p (by rw [List.append_nil] at hp;exact hp),I.hok,I.len⟩
theorem Inv.untryc {pins':List (Addr×Obj)}{Z:Value→Shared→Prop}(I:Inv (X.tryc (X.pn++pins) Z) pins' σ H s):Inv X pins σ H s :=
 ⟨⟨I.ok.mod,I.ok.kind,I.ok.glob,I.ok.blt,I.ok.above,I.ok.inj,I.ok.has,I.ok.cab,I.ok.hd,I.ok.frames,I.ok.stk,I.ok.exf,I.ok.bs,I.ok.bsz,I.ok.noex,I.ok.exfs,I.ok.funs,I.ok.frf⟩,I.os,I.bare,I.base,I.loc,I.cell,I.free,I.freeC,fun p hp=>I.pin p (List.mem_append_left _ hp),I.hok,I.len⟩
theorem Inv.mark (I:Inv X pins σ H s)(ea:Addr)(Z:Value→Shared→Prop):Inv (X.marked ea Z) pins σ H s :=
 ⟨⟨I.ok.mod,I.ok.kind,I.ok.glob,I.ok.blt,I.ok.above,I.ok.inj,I.ok.has,I.ok.cab,(fun z=>by cases z),I.ok.frames,I.ok.stk,I.ok.exf,I.ok.bs,I.ok.bsz,I.ok.noex,I.ok.exfs,I.ok.funs,I.ok.frf⟩,I.os,I.bare,I.base,I.loc,I.cell,I.free,I.freeC,I.pin,I.hok,I.len⟩
theorem Inv.unmark {ea:Addr}{Z:Value→Shared→Prop}(I:Inv (X.marked ea Z) pins σ H s)(hd:X.calm=true→X.A.handled=none):Inv X pins σ H s :=
 ⟨⟨I.ok.mod,I.ok.kind,I.ok.glob,I.ok.blt,I.ok.above,I.ok.inj,I.ok.has,I.ok.cab,hd,I.ok.frames,I.ok.stk,I.ok.exf,I.ok.bs,I.ok.bsz,I.ok.noex,I.ok.exfs,I.ok.funs,I.ok.frf⟩,I.os,I.bare,I.base,I.loc,I.cell,I.free,I.freeC,I.pin,I.hok,I.len⟩
theorem ZkI {M:Model}{A:Around}{E:Value→Shared→Prop}{i:Nat}{x:Str}{pos:Pos}{Q:Unit→Shared→Prop}(I:Inv X pins σ H s)(hN:X.N.Nodup)(hi:X.N[i]?=some x)(hk:X.env.kindOf x=some .local)
   (h:∀ s',Inv X pins (σ.set i none) H s'→Q () s'):wpAny M A (do bindName X.env x .none;unbindBehindTheSuite X.env x pos) Q E s:=by
 obtain ⟨m,hn,hl⟩:=id I.loc
 have hcls:(X.env.scope.kind == .class || (X.env.scope.kind == .module&&X.env.locals != X.env.globals))=false:=by rw [I.ok.kind];rfl
 have cne:=I.cne
 refine wpAny_nameGoes_keeps hk hn hcls fun h' v hn' hs=>?_
 obtain ⟨oL,_,_,hoL,_⟩:=id hn
 refine h _ ⟨I.ok,I.os,I.bare,⟨fun b o e n hb hx=>?_,fun b o e n hb hx=>?_,I.base.free,fun b o e hx=>?_,I.base.tups,I.base.frzs,I.base.tbls⟩,⟨_,hn',fun j y v' e1 e2 e3=>?_⟩,fun y c e=>?_,I.free,I.freeC,fun p hp=>?_,fun b ob e=>?_,by simpa using I.len⟩
 · exact (hs.2 b (Nat.ne_of_lt (Nat.lt_of_lt_of_le (Heap.lt_size e) I.ok.above))).trans (I.base.keep b o e n hb hx)
 · obtain ⟨sl,e1⟩:=I.base.slot b o e n hb hx
   exact ⟨sl,(hs.2 b (Nat.ne_of_lt (Nat.lt_of_lt_of_le (Heap.lt_size e) I.ok.above))).trans e1⟩
 · obtain ⟨o',e1⟩:=I.base.there b o e hx
   exact ⟨o',(hs.2 b (Nat.ne_of_lt (Nat.lt_of_lt_of_le (Heap.lt_size e) I.ok.above))).trans e1⟩
 · by_cases hj:j=i
   · subst hj
     rw [List.getElem?_set] at e2
     split at e2
     · split at e2<;>cases e2
     · rename_i z;exact absurd rfl z
   · rw [List.getElem?_set_ne (Ne.symm hj)] at e2
     obtain ⟨u',r',q⟩:=hl j y v' e1 e2 e3
     refine ⟨u',r',?_⟩
     rcases q with ⟨k,e⟩ | ⟨k,c,e,z⟩
     · refine .inl ⟨k,?_⟩
       have:y≠x:=fun e=>hj (Zaf hN e1 (e ▸ hi))
       simp [this,e]
     · exact .inr ⟨k,c,e,z.sameBut hs (cne y c e)⟩
 · obtain ⟨w',z⟩:=I.cell y c e
   exact ⟨w',z.sameBut hs (cne y c e)⟩
 · obtain ⟨e,n,ne,nf,d⟩:=I.pin p hp
   exact ⟨(hs.2 p.1 ne).trans e,n,ne,nf,d⟩
 · refine (I.hok b ob e).stay (fun c w' hc q=>(hs.2 c ?_).trans q) (fun _ q=>q) fun _ _ q=>q
   rintro rfl
   rcases hc with rfl | hc
   · rw [I.free] at e;cases e
   · rw [I.free] at hc;cases hc
end
def Zlz (K:PySem.W.Frag)(C0:Addr)(i:Nat)(tb:(St→XK)→TS)(th:TS):TS:=fun D σ H =>
 tb (fun σ' Cv dO H'=>∃ C dx,Cv=.ref C∧dO=some dx∧PySem.W.exmOne K (.ref C) (.ref C0)=some true∧∀ ea,H' ea=none →
   th { nx:=fun σ2 H2=>D.nx (σ2.set i none) H2,rt:=D.rt,bk:=fun σ2 H2=>D.bk (σ2.set i none) H2,ct:=fun σ2 H2=>D.ct (σ2.set i none) H2 } (σ'.set i (some (.ref ea))) (upd H' ea (XO ea C dx))) D σ H
section
variable {X:Cx}{body suite:List Stmt}{b0:Stmt}{C0:Addr}{x0 n:Str}{i:Nat}{tb:(St→XK)→TS}{th:TS}{p0 hp pos:Pos}
theorem Zis (hcalm:X.calm=true)(hst:X.stack=X.env::X.outer)(hfr:X.env.frame=some X.env.locals)(hN:X.N.Nodup)(hi:X.N[i]?=some n)(hk:X.env.kindOf n=some .local)(hg:Gl X x0)(hm:X.mg x0=some (.ref C0))(hdb:(x0 == ("__debug__":Str))=false)
   (hb:∀ pn Z EE,Vf (X.tryc pn Z) EE→PSs (X.tryc pn Z) body (tb EE)) (hh:∀ ea Z,PSs (X.marked ea Z) (b0::suite) th) :
   PS X (.Try body [.ExceptHandler (some (.Name x0 p0)) (some n) (b0::suite) hp] [] [] pos) (Zlz X.K C0 i tb th):=by
 intro pins s σ H D I h
 rw [arm_exec_Try]
 refine wpAny_bind (wpAny_standAt (wpAny_tryStmt_except ?_))
 refine wpAny_mono (hb (X.pn++pins) _ _ ?W [] s σ H D (I.tryc _) h) (fun f s1 hs=>?_) (fun e s1 z=>z)
 case W =>
   intro pins' σ1 H1 H2 s1 s2 ea C dx fl I1 I2 hfl x q
   have J1:=I1.untryc
   have J2:=I2.untryc
   obtain ⟨C',dx',e1,e2,hex,hq⟩:=q
   cases e1
   cases e2
   have fr:X.A.frames=some (X.env::X.outer):=by rw [← hst];exact J2.ok.frames
   have ff:s2.heap.FunFrames X.base (X.env::X.outer):=by rw [← hst];exact J2.stack
   have off:∀ {h:Heap},h.FunFrames X.base (X.env::X.outer)→∀ b∈Xs (X.env::X.outer),∃ o,h.get? b=some o∧∀ vs,o.data≠.fields vs:=fun f b hb=>(f.mem hb).2
   refine ZdR (base:=X.base) (n:=s1.heap.objs.size) (H:=H2) hfl fr ff hfr J2.bk x (fun b hb=>J2.hok.fresh hb) fun h3 b3 f3 x3 k3=>?_
   refine VG b3 f3 x3 fun h4 b4 f4 x4 k4=>?_
   have k34:=k3.trans (k4 _ (off f3))
   have J4:Inv X pins σ1 H2 { s2 with heap:=h4 }:=J1.flown (t':=s2.toks) J2 (by rw [hst];exact k34)
   refine wpAny_handleBy_cons (codeAny_handlers_test ?_) (by intro q;cases q)
   refine Um (X:=X.marked ea X.xe) (J4.mark ea X.xe) hg hm ?_ hdb
   have LT:PySem.W.Looks (model X.prog X.w) h4 (typeOf (.ref ea)) (.ref C):=by
     obtain ⟨_,_,_,oe,vs,he,hc,_⟩:=x4
     rw [← hc];exact (PySem.W.Looks.ld he).andThen .now
   refine (PySem.W.exm_one (h:=h4) J4.kIn LT hex) _ _ _ _ (fun _ _ e=>e) ?_
   refine codeAny_handlers_suite_as ?_
   refine VG b4 f4 x4 fun h5 b5 f5 x5 k5=>?_
   have k45:=k34.trans (k5 _ (off f4))
   have J5:Inv X pins σ1 H2 { s2 with heap:=h5 }:=J1.flown (t':=s2.toks) J2 (by rw [hst];exact k45)
   obtain ⟨hen,hHe,hne,oe,vs,he,hc,hdi,hd,_⟩:=id x5
   have lt1:∀ b,b < s1.heap.objs.size→b≠ea:=fun b hb z=>by rw [z] at hb;exact absurd hb (Nat.not_lt.mpr hne)
   have J6:Inv X pins σ1 (upd H2 ea (XO ea C dx)) { s2 with heap:=h5 }:=by
     refine J5.track hHe (Nat.le_trans J1.sz hne) (fun z=>lt1 _ J1.lt z.symm) (fun y c hy=>?_) (fun p hp=>lt1 _ (Heap.lt_size (J1.pin p hp).1)) ?_
     · obtain ⟨v,o,e,_⟩:=J1.cell y c hy
       exact lt1 _ (Heap.lt_size e)
     · exact ⟨⟨oe,vs,he,hc,hdi,hd⟩,⟨oe,he⟩,fun h1 h2 ⟨oe,vs,e,r⟩ k=>⟨oe,vs,k _ e,r⟩⟩
   refine Xc (X:=X) J6 hN hi (.inl hk) (v:=.ref ea) rfl (fun s6 J8=>?_) (.inr hk)
   refine wpAny_mono (hh ea _ pins s6 _ _ _ (J8.mark ea _) (hq ea hHe)) (fun f s7 hs=>?_) (fun _ _ z=>z)
   have back:∀ {Z:Value→Shared→Prop} {σ':St} {H':Hp} {Q:Unit→Shared→Prop},Inv (X.marked ea Z) pins σ' H' s7→(∀ s',Inv X pins (σ'.set i none) H' s'→Q () s')→wpAny (model X.prog X.w) X.A (do bindName X.env n .none;unbindBehindTheSuite X.env n hp) Q X.xe s7:=fun J q=>ZkI (J.unmark J1.ok.hd) hN hi hk q
   cases f with
   | next=>obtain ⟨σ',H',J,q⟩:=hs;exact back J fun s' J'=>⟨_,H',J',q⟩
   | brk=>obtain ⟨σ',H',J,q⟩:=hs;exact back J fun s' J'=>⟨_,H',J',q⟩
   | cont=>obtain ⟨σ',H',J,q⟩:=hs;exact back J fun s' J'=>⟨_,H',J',q⟩
   | ret u=>obtain ⟨v,σ',H',J,r,q⟩:=hs;exact back J fun s' J'=>⟨v,_,H',J',r,q⟩
 · cases f with
   | next=>obtain ⟨σ',H',J,q⟩:=hs;exact wpAny_pure ⟨σ',H',J.untryc,q⟩
   | brk=>obtain ⟨σ',H',J,q⟩:=hs;exact ⟨σ',H',J.untryc,q⟩
   | cont=>obtain ⟨σ',H',J,q⟩:=hs;exact ⟨σ',H',J.untryc,q⟩
   | ret u=>obtain ⟨v,σ',H',J,r,q⟩:=hs;exact ⟨v,σ',H',J.untryc,r,q⟩
end
end L2
set_option maxHeartbeats 1000000
namespace L2
open PySem PySem.Spec PyProof.Rows
def ZiY (P:Program)(w:World)(K:PySem.W.Frag)(mg:Str→Option Value)(base:Heap)(k:Nat)(x:Str)(ps:List Str)(sp:Sp):Prop :=
 ∃ f fd,FnOk P w K mg base (Vz P w base) k f fd ps sp∧Binds K fd ps []∧PySem.W.keepIn K (.ref f)=true∧mg x=some (.ref f)
section
variable {P:Program}{w:World}{K:PySem.W.Frag}{mg:Str→Option Value}{base:Heap}{j k:Nat}{C:Addr}{x m:Str}{ps:List Str}{sp:Sp}
end
def ZkX (sp:Sp)(EE:St→XK)(t:TA):TE:=fun σ H Q=>t σ H fun vs H1=>sp vs H1 Q (EE σ)
section
variable {X:Cx}{EE:St→XK}{k:Nat}{f C:Addr}{fd:FuncData}{ps:List Str}{sp:Sp}{x m:Str}{p pos apos:Pos}{e o:Expr}{es:List Expr}{ta:TE}{t:TA}
theorem ZdS {pins:List (Addr×Obj)}{σ:St}{H:Hp}{s:Shared}{Q:VK}{us:List Value}{vs:List V}(W:Vf X EE)(F:FnOk X.prog X.w X.K X.mg X.base (Vz X.prog X.w X.base) k f fd ps sp)(hr:Room k X.A)(hb:Binds X.K fd ps [])
   (I:Inv X pins σ H s) (r:Vals vs us) (h:sp vs H Q (EE σ)):wpAny (model X.prog X.w) X.A (call (.ref f) us) (EP X pins σ Q) X.xe s:=by
 have hl:(us++[]).length=ps.length:=by rw [List.append_nil,← r.length];exact F.len _ _ _ _ h
 have hb':=hb s us I.kIn hl
 rw [List.append_nil] at hb'
 refine wpAny_call (codeAny_mono (F.run X.A X.stack s H ⟨us,[]⟩ us vs Q (EE σ) hr I.env0 hb' r h) fun r s' hq=>?_)
 cases r with
 | error e =>
   obtain ⟨ea,C,dx,H',rfl,kb,ff,x,os,gb,un,hok,q⟩:=hq
   exact W pins σ H H' s s' ea C dx _ I (I.call' os un hok gb fun b z=>absurd z (by simp)) (.inr rfl) x q
 | ok fl =>
   cases fl with
   | ret u=>exact I.after hq
   | next=>exact False.elim hq
   | brk=>exact False.elim hq
   | cont=>exact False.elim hq
theorem Zne (W:Vf X EE)(D:ZiY X.prog X.w X.K X.mg X.base k x ps sp)(hr:Room k X.A)(ha:PA X (e::es) t)(hg:Gl X x:=by rfl)(hdb:(x == ("__debug__":Str))=false:=by decide)
   (he:starEach (e::es) X.env=(false,eval e X.env)::starEach es X.env:=by rfl) (hpl:(backTo pos (starEach es X.env)).any (·.1)=false:=by rfl):PE X (.Call (.Name x p) (e::es) [] pos) (ZkX sp EE t):=by
 obtain ⟨f,fd,F,b,kp,m⟩:=D
 intro pins s σ H Q I h
 refine wpAny_Call_Name_kw (Um I hg m ?_ hdb)
 refine PySem.W.callWith_K (h₀:=X.base) I.ok.mod.kin kp (Zp (ha pos pins s σ H _ I h) fun us s1 ⟨vs,H1,I1,r,q⟩=>⟨I1.kIn,?_⟩) he hpl
 exact ZdS W F hr b I1 r q
end
theorem Fun.okX {P:Program}{w:World}{K:PySem.W.Frag}{mg:Str→Option Value}{base:Heap}{x qual:Str}{st:Stmt}{f:Addr}{fd:FuncData}{N ps:List Str}{k:Nat}{sp:Sp}(F:Fun K x qual st f fd)(S:Zz N ps (Zl st))(len:∀ vs H Q E,sp vs H Q E→vs.length=ps.length)
   (hbody:∀ (cdv:Value) (A:Around) (outer:List Env) (s:Shared) (H:Hp) (vs:List V) (Q:VK) (E:XK),Room k (A.deeper (envOfC qual (Zl st) s.heap.objs.size f cdv))→sp vs H Q E →
     Vf (WB (Vz P w base) P w K mg base N qual (Zl st) f cdv A outer s H E) (fun _=>E) →
     ∃ t,PSs (WB (Vz P w base) P w K mg base N qual (Zl st) f cdv A outer s H E) (WH st) t∧t { nx:=fun _ H'=>Q .non H',rt:=Q } (start N vs) H):FnOk P w K mg base (Vz P w base) (k+1) f fd ps sp:=by
 obtain ⟨oc,od,kV,doc,pm,an,cdv,ct,osl,rfl,lk,hcd⟩:=F.ex
 exact Zjo lk hcd S len fun A outer s H vs Q E hr hsp=>hbody cdv A outer s H vs Q E hr hsp ZgC
end L2
set_option maxHeartbeats 1000000
namespace L2
open PySem PySem.Spec PyProof.Rows
def XN (ea C:Addr):HO:=.ext fun h=>∃ t:Addr,h.get? ea=some { cls:=.ref C,data:=.fields #[.ref t,.none,.none,.none,.bool false,.none] }
def XW (ea C dx:Addr):HO:=.ext fun h=>∃ t:Addr,h.get? ea=some { cls:=.ref C,dict:=some dx,data:=.fields #[.ref t,.none,.none,.none,.bool false,.none] }
structure XF (K:PySem.W.Frag)(C fI:Addr):Prop where
 xc:Zdw K C=true
 init:PySem.W.findIn K (.ref C) "__init__"=some (some (.ref fI))
 sa:PySem.W.findIn K (.ref C) "__setattr__"=some (some (.builtin "object.__setattr__"))
 nw:PySem.W.findIn K (.ref C) "what"=some none
 fn:PySem.W.isFn K (.ref fI)=true
 kp:PySem.W.keepIn K (.ref C)=true
def ZmH (K:PySem.W.Frag)(ta tv:TE):TS:=fun D σ H=>tv σ H fun y H1=>ta σ H1 fun x H2=>∃ ea C fI,x=.ref ea∧H2 ea=some (XN ea C)∧XF K C fI∧∀ dx,H2 dx=none→dx≠ea→D.nx σ (upd (upd H2 dx (.xd [("what",y)])) ea (XW ea C dx))
section
variable {X:Cx}{o value:Expr}{pos pos':Pos}{ta tv:TE}
theorem ZkC (ha:PE X o ta)(hv:PE X value tv)(hs:swapsWith value (some (.Attribute o "what" pos')) pos.line X.env=pure false):PS X (.Assign [.Attribute o "what" pos'] value pos) (ZmH X.K ta tv):=by
 intro pins s σ H D I h
 refine plainObj_wpAny_Assign_Attribute (Zp (hv pins s σ H _ I h) fun u s1 ⟨y,H1,I1,ry,q⟩=>Zp (ha pins s1 σ H1 _ I1 q) fun ov s2 ⟨x,H2,I2,rx,ea,C,fI,ex,hea,xf,q2⟩=>?_) hs
 subst ex
 obtain rfl:ov=Value.ref ea:=rx
 obtain ⟨⟨t,hx⟩,_,_⟩:=(show ObjOk X.prog X.w H2 s2.heap ea (XN ea C) from I2.hok ea _ hea)
 obtain ⟨nm,qn,N,bs,bm,sn,sub,ab,col,dd,k0,k1,k2,k3,k5,hC,T⟩:=VW I2.kIn xf.xc
 obtain ⟨hh,g,d,tk,os⟩:=s2
 have hdn:H2 hh.objs.size=none:=I2.hok.fresh (Nat.le_refl _)
 have hne:hh.objs.size≠ea:=Nat.ne_of_gt (Heap.lt_size hx)
 refine ZkM T hC (PySem.W.looks_findIn I2.kIn xf.sa) (PySem.W.looks_findIn I2.kIn xf.nw) hx rfl rfl (fun c z=>by cases z) fun h' tk' hx' hns hk=>⟨σ,_,?_,q2 _ hdn hne⟩
 have nea:∀ b,H2 b=none→b≠ea:=fun b e z=>by rw [z,hea] at e;cases e
 have ndx:∀ b ob,hh.get? b=some ob→b≠hh.objs.size:=fun b ob e=>Nat.ne_of_lt (Heap.lt_size e)
 refine I2.un (h':=h') (t':=tk') ⟨fun b ob e n _ _=>hk b ob (nea b n) e,fun b ob e n _ _=>⟨ob.slots,hk b ob (nea b n) e⟩,fun b ob e n _=>by rw [Zm (nea b n),Zm (ndx b ob e)];exact n,fun b ob e _=>?_,fun b xs e=>?_,fun b w xs e=>?_,fun b ps e=>?_⟩ fun b w e=>?_
 · by_cases z:b=ea
   · rw [z];exact ⟨_,hx'⟩
   · exact ⟨ob,hk b ob z e⟩
 · rw [Zm (fun z=>by rw [z,hea] at e;cases e),Zm (ZG e hdn)];exact e
 · rw [Zm (fun z=>by rw [z,hea] at e;cases e),Zm (ZG e hdn)];exact e
 · exact ⟨#[],by rw [Zm (fun z=>by rw [z,hea] at e;cases e),Zm (ZG e hdn),e];simp⟩
 · by_cases z:b=ea
   · subst z;rw [Zb] at e;cases e
     exact ⟨⟨t,hx'⟩,⟨_,hx'⟩,fun h1 h2 ⟨t,e⟩ k=>⟨t,k _ e⟩⟩
   · rw [Zm z] at e
     by_cases z2:b=hh.objs.size
     · subst z2;rw [Zb] at e;cases e
       refine ⟨_,hns,fun f=>?_⟩
       show RelO (List.lookup f [("what",y)]) (if f="what" then some u else none)
       by_cases hf:f="what"
       · rw [if_pos hf,hf];exact ry
       · rw [if_neg hf]
         have hb:(f == ("what":Str))=false:=beq_eq_false_iff_ne.mpr hf
         simp only [List.lookup,hb];exact True.intro
     · rw [Zm z2] at e
       refine (I2.hok b w e).stay (fun c u hc q=>?_) (fun c q=>?_) (fun c xs q=>?_)
       · refine hk c u (fun y=>?_) q
         rcases hc with rfl | hc
         · exact z y
         · rw [y,hea] at hc;cases hc
       · rw [Zm (fun y=>by rw [y,hea] at q;cases q),Zm (ZG q hdn)];exact q
       · rw [Zm (fun y=>by rw [y,hea] at q;cases q),Zm (ZG q hdn)];exact q
end
def ZhF (K:PySem.W.Frag):Sp:=fun vs H Q _=>∃ (ea C fI:Addr) (v:V),vs=[.ref ea,v]∧H ea=some (XN ea C)∧XF K C fI∧∀ dx,H dx=none→dx≠ea→Q .non (upd (upd H dx (.xd [("what",v)])) ea (XW ea C dx))
def Zio (P:Program)(w:World)(K:PySem.W.Frag)(mg:Str→Option Value)(base:Heap)(k:Nat)(C:Addr)(x:Str):Prop :=
 ∃ fI fd,FnOk P w K mg base ZY k fI fd ["self","what"] (ZhF K)∧Binds K fd ["self","what"] []∧XF K C fI∧mg x=some (.ref C)
def Zlu (C:Addr)(EE:St→XK)(t:TA):TS:=fun _ σ H=>t σ H fun vs H1=>∃ v,vs=[v]∧∀ dx,H1 dx=none→EE σ (.ref C) (some dx) (upd H1 dx (.xd [("what",v)]))
section
variable {X:Cx}{pins:List (Addr×Obj)}{σ:St}{H:Hp}{s:Shared}
def del (H:Hp)(a:Addr):Hp:=fun b=>if b=a then none else H b
theorem Uw {a b:Addr}(h:b≠a):del H a b=H b:=if_neg h
theorem Inv.untrack {a:Addr}{φ:Heap→Prop}(I:Inv X pins σ H s)(e:H a=some (.ext φ))(O:X.Old a):Inv X pins σ (del H a) s:=by
 have off:∀ b,H b=none→del H a b=none:=fun b n=>by unfold del;split;rfl;exact n
 refine ⟨I.ok,I.os,I.bare,⟨I.base.keep,I.base.slot,fun b u q n hx=>off b (I.base.free b u q n hx),I.base.there,fun b xs q=>?_,fun b u xs q=>?_,fun b ps q=>?_⟩,I.loc,I.cell,off _ I.free,fun x c hx=>off _ (I.freeC x c hx),fun p hp=>?_,fun b u q=>?_,I.len⟩
 · rw [Uw (O.nt q)];exact I.base.tups b xs q
 · rw [Uw (O.nf q)];exact I.base.frzs b u xs q
 · rw [Uw (O.nb q)];exact I.base.tbls b ps q
 · obtain ⟨e1,e2,e3⟩:=I.pin p hp
   exact ⟨e1,off _ e2,e3⟩
 · by_cases z:b=a
   · subst z;unfold del at q;rw [if_pos rfl] at q;cases q
   · rw [Uw z] at q
     exact (I.hok b u q).stay (fun _ _ _ y=>y) (fun c y=>by rw [Uw (fun z=>by rw [z,e] at y;cases y)];exact y) (fun c xs y=>by rw [Uw (fun z=>by rw [z,e] at y;cases y)];exact y)
end
section
variable {X:Cx}{EE:St→XK}{k:Nat}{C:Addr}{x:Str}{np cpos pos:Pos}{e:Expr}{t:TA}
theorem ZhI (W:Vf X EE)(D:Zio X.prog X.w X.K X.mg X.base k C x)(hr:Room (k+1) X.A)(hcalm:X.calm=true)(ha:PA X [e] t)(hg:Gl X x:=by rfl)(hdb:(x == ("__debug__":Str))=false:=by decide)
   (he:starEach [e] X.env=(false,eval e X.env)::starEach [] X.env:=by rfl) (hpl:(backTo cpos (starEach [] X.env)).any (·.1)=false:=by rfl):PS X (.Raise (some (.Call (.Name x np) [e] [] cpos)) none pos) (Zlu C EE t):=by
 obtain ⟨fI,fd,F,hb,xf,hm⟩:=D
 intro pins s σ H D I h
 rw [arm_exec_Raise]
 obtain ⟨nm,qn,N,bs,bm,sn,sub,ab,col,dd,k0,k1,k2,k3,k5,hCb,T⟩:=VW I.ok.mod.kin xf.xc
 refine wpAny_bind (wpAny_standAt (ZjX (C:=C) (nm:=nm) (q:=qn) (N:=N) (bs:=bs) (sn:=sn) (sub:=sub) (ab:=ab) (col:=col) (dd:=dd) (k0:=k0) (k1:=k1) (k2:=k2) (k3:=k3) (k5:=k5) T (I.ok.hd hcalm) (wpAny_bind ?_)))
 refine wpAny_mono (Q:=fun v s₁=>∃ e oe vs,v=.ref e∧s₁.heap.get? C=some (excClassObj nm qn C N bs bm true sn sub ab col dd k0 k1 k2 k3 k5 "ValueError.__new__")∧s₁.heap.get? e=some oe∧oe.cls=.ref C∧oe.data=.fields vs∧vs[1]?=some .none∧X.xe (.ref e) s₁) ?_ (fun v s1 h1=>wpAny_bind (wpAny_standAt (wpAny_pure h1))) fun _ _ x=>x
 refine wpAny_Call_Name_kw (Um I hg hm ?_ hdb)
 refine PySem.W.callWith_K (h₀:=X.base) I.ok.mod.kin xf.kp (Zp (ha cpos pins s σ H _ I h) fun us s1 ⟨vs,H1,I1,r,v,ev,q⟩=>⟨I1.kIn,?_⟩) he hpl
 subst ev
 obtain ⟨u,rfl,ru⟩:=YN r
 obtain ⟨hh,g,d,tk,os⟩:=s1
 have hC1:=I1.bk _ _ hCb
 obtain ⟨oI,hoI,hoc⟩:∃ oI,hh.get? fI=some oI∧oI.cls=.type "function":=by
   obtain ⟨oI,ho,hc⟩:=Option.map_eq_some_iff.mp (show (X.K.lookup fI).map (·.cls)=some (.type "function") from beq_iff_eq.mp xf.fn)
   exact ⟨oI,I1.kIn _ _ ho,hc⟩
 refine ZlK T hC1 (PySem.W.looks_findIn I1.kIn xf.init) hoI hoc (fun h' ea hm' hle=>?_) (by show 1≤sizeLine;decide)
 obtain ⟨t0,h0,h1,h2⟩:=hm'.there
 have hH1:H1 ea=none:=I1.hok.fresh hle
 have I2:Inv X pins σ (upd H1 ea (XN ea C)) ⟨h',g,d,tk,os⟩:=I1.laid (a:=ea) (o:=XN ea C) (h':=h') (t':=tk) hm'.keeps hle ⟨⟨t0,h0⟩,⟨_,h0⟩,fun h1 h2 ⟨t,e⟩ k=>⟨t,k _ e⟩⟩
 have hsp:ZhF X.K [.ref ea,v] (upd H1 ea (XN ea C)) (fun w H'=>w=.non∧∃ dx,H1 dx=none∧dx≠ea∧H'=upd (upd (upd H1 ea (XN ea C)) dx (.xd [("what",v)])) ea (XW ea C dx)) E0 :=
   ⟨ea,C,fI,v,rfl,Zb,xf,fun dx h1 h2=>⟨rfl,dx,by rw [Zm h2] at h1;exact h1,h2,rfl⟩⟩
 have r2:Vals [V.ref ea,v] [Value.ref ea,u]:=.cons rfl (.cons ru .nil)
 refine wpAny_call (codeAny_mono (F.run _ X.stack _ _ ⟨[.ref ea,u],[]⟩ [.ref ea,u] _ _ E0 (hr.make C [u] []) (I2.env0.make C [u] []) (hb _ [.ref ea,u] I2.kIn rfl) r2 hsp) fun r s' hq=>?_)
 cases r with
 | error e=>exact hq.elim
 | ok fl =>
   cases fl with
   | next=>exact False.elim hq
   | brk=>exact False.elim hq
   | cont=>exact False.elim hq
   | ret u' =>
     obtain ⟨w,H3,I3,rw',⟨ew,dx,hdx,hde,eH⟩⟩:=I2.after hq
     subst ew eH
     refine ⟨rw',?_⟩
     have at3:upd (upd (upd H1 ea (XN ea C)) dx (.xd [("what",v)])) ea (XW ea C dx) ea=some (XW ea C dx):=Zb
     obtain ⟨⟨t3,hx3⟩,_,_⟩:=(show ObjOk X.prog X.w _ s'.heap ea (XW ea C dx) from I3.hok ea _ at3)
     have I4:=I3.untrack at3 (I1.old hH1)
     have eq4:del (upd (upd (upd H1 ea (XN ea C)) dx (.xd [("what",v)])) ea (XW ea C dx)) ea=upd H1 dx (.xd [("what",v)]):=by
       funext b
       by_cases z:b=ea
       · subst z;unfold del;rw [if_pos rfl,Zm (Ne.symm hde)];exact hH1.symm
       · rw [Uw z,Zm z]
         by_cases z2:b=dx
         · subst z2;rw [Zb,Zb]
         · rw [Zm z2,Zm z2,Zm z]
     rw [eq4] at I4
     refine ⟨ea,_,_,rfl,I3.bk _ _ hCb,hx3,rfl,rfl,rfl,?_⟩
     refine W pins σ H1 _ ⟨hh,g,d,tk,os⟩ s' ea C dx none I1 I4 (.inl rfl) ⟨?_,by rw [Zm (Ne.symm hde)];exact hH1,hle,_,_,hx3,rfl,rfl,rfl,rfl⟩ (q dx hdx)
     cases qb:X.base.get? ea with
     | none=>rfl
     | some ob=>have:=I1.bk _ _ qb;rw [hm'.new] at this;cases this
end
end L2
set_option maxHeartbeats 1000000
namespace L2
open PySem PySem.Spec PyProof.Rows
open PySem.Builtin PySem.Builtin.ObjectAttr
section
variable {prog:Program}{w:World}{A:Around}{E:Value→Shared→Prop}{h:Heap}{g:Array GenState}{d:Drawn}{t:Nat}{os:OsState}
variable {nm q:Str}{C N a dx:Addr}{bs bm:List Value}{sn:List Str}{sub:List Value}{ab:Bool}{col:Option Bool}{dd:Option Addr}{k0 k1 k2 k3 k5:Option Value}{name:Str}{v:Value}{o:Obj}{vs:Array Value}{mA:Str→Option Value}
abbrev ZaW (h:Heap)(nm q:Str)(C N:Addr)(bs bm:List Value)(sn:List Str)(sub:List Value)(ab:Bool)(col:Option Bool)(dd:Option Addr)(k0 k1 k2 k3 k5:Option Value):Prop:=h.get? C=some (excClassObj nm q C N bs bm true sn sub ab col dd k0 k1 k2 k3 k5 "ValueError.__new__")
theorem Zfz {M:Model}{nameV:Value}{Q:Unit→Shared→Prop}(T:VT bm)(hC:ZaW h nm q C N bs bm sn sub ab col dd k0 k1 k2 k3 k5)
   (hx:h.get? a=some o) (hc:o.cls=.ref C) (hq:Q () ⟨h,g,d,t,os⟩):wpAny M A (checkBuiltinCall "BaseException.__getattribute__" ⟨[.ref a,nameV],[]⟩) Q E ⟨h,g,d,t,os⟩:=by
 have hk:builtinKind "BaseException.__getattribute__"=some .slot:=by decide +kernel
 have hsplit:splitId "BaseException.__getattribute__"=some ("BaseException","__getattribute__"):=by decide +kernel
 have hcB:(Value.ref C::bm).contains (.type "BaseException")=true:=by rw [List.contains_cons,T.has PySem.F.attrBase_ValueError.hasBase];rfl
 have ha:=PySem.F.args_bexc_ga (.ref a) nameV
 simp only [checkBuiltinCall,hk,hsplit]
 refine wpAny_bind ?_
 · unfold isInstance
   repeat (first | (with_reducible refine wpAny_loadPart_at hx ?_;rw [hc]) | (with_reducible refine wpAny_isSubtype_exc hC ?_;rw [hcB]) | wp_step)
   exact hq
theorem x_by {tk:Tok}{fill expr:Bool}{Q:Value→Shared→Prop}(T:VT bm)(hC:ZaW h nm q C N bs bm sn sub ab col dd k0 k1 k2 k3 k5)
   (LG:PySem.W.Looks (model prog w) h (typeLookup (.ref C) "__getattribute__") (some (.builtin "BaseException.__getattribute__"))) (LA:PySem.W.Looks (model prog w) h (typeLookup (.ref C) "__getattr__") none)
   (hx:h.get? a=some o) (hc:o.cls=.ref C) (hh:handedOut v=pure v)
   (he:∀ (A:Around) (R:PySem.Fin→Shared→Prop) (E:Value→Shared→Prop),R (.done (.ret v)) ⟨h,g,d,t,os⟩→wpAny (model prog w) A (Builtin.«object.__getattribute__» ⟨[.ref a,.str name tk],[]⟩) R E ⟨h,g,d,t,os⟩) (hq:Q v ⟨h,g,d,t,os⟩) :
   wpAny (model prog w) A (getAttrBy (.ref a) (.str name tk) fill expr) Q E ⟨h,g,d,t,os⟩:=by
 have FB:=PySem.F.attrBase_ValueError
 have f3:=FB.ga.bind (.ref a)
 have hx0:(expr&&onTheHeap (Value.builtin "BaseException.__getattribute__"))=false:=by cases expr<;>rfl
 have hx2:(Value.builtin "BaseException.__getattribute__" == Value.builtin "object.__getattribute__")=false:=by decide +kernel
 have hx1:(onTheHeap (Value.ref C)&&Value.builtin "BaseException.__getattribute__" == Value.builtin "object.__getattribute__")=false:=by rw [hx2];rfl
 have LG':∀ {A:Around} {Q:Option Value→Shared→Prop} {E:Value→Shared→Prop},Q (some (.builtin "BaseException.__getattribute__")) ⟨h,g,d,t,os⟩→wpAny (model prog w) A (typeLookup (.ref C) "__getattribute__") Q E ⟨h,g,d,t,os⟩:=fun q=>LG _ _ _ _ (fun _ _ e=>e) q
 have LA':∀ {A:Around} {Q:Option Value→Shared→Prop} {E:Value→Shared→Prop},Q none ⟨h,g,d,t,os⟩→wpAny (model prog w) A (typeLookup (.ref C) "__getattr__") Q E ⟨h,g,d,t,os⟩:=fun q=>LA _ _ _ _ (fun _ _ e=>e) q
 repeat (any_goals (first | assumption | (with_reducible refine wpAny_loadPart_at hx ?_;rw [hc]) | with_reducible refine LG' ?_ | with_reducible refine LA' ?_ | wp_step))
 refine codeAny_call_builtin FB.ga.plain PySem.F.entry_bexc_ga (Zfz T hC hx hc (he _ _ _ ?_))
 show wpAny _ _ (handedOut v) _ _ _
 rw [hh]
 exact wpAny_pure hq
theorem Zly {tk:Tok}{Q:PySem.Fin→Shared→Prop}(hC:ZaW h nm q C N bs bm sn sub ab col dd k0 k1 k2 k3 k5)(LN:PySem.W.Looks (model prog w) h (typeLookup (.ref C) name) none)
   (hx:h.get? a=some o) (hc:o.cls=.ref C) (hdi:o.dict=some dx) (hd:o.data=.fields vs) (hns:h.Ns1 dx mA) (hv:mA name=some v) (hq:Q (.done (.ret v)) ⟨h,g,d,t,os⟩) :
   wpAny (model prog w) A (Builtin.«object.__getattribute__» ⟨[.ref a,.str name tk],[]⟩) Q E ⟨h,g,d,t,os⟩:=by
 have LN':∀ {A:Around} {Q:Option Value→Shared→Prop} {E:Value→Shared→Prop},Q none ⟨h,g,d,t,os⟩→wpAny (model prog w) A (typeLookup (.ref C) name) Q E ⟨h,g,d,t,os⟩:=fun q=>LN _ _ _ _ (fun _ _ e=>e) q
 unfold Builtin.«object.__getattribute__»
 repeat (first | (with_reducible refine wpAny_loadPart_at hx ?_;rw [hc]) | (with_reducible refine LN' ?_) | wp_step)
 split
 · rename_i c hcd
   rw [hd] at hcd;cases hcd
 unfold instanceDict
 repeat (first | (with_reducible refine wpAny_loadPart_at hx ?_;rw [hc]) | with_reducible refine wpAny_loadPart_at hC ?_ | wp_step)
 rw [hdi]
 repeat (first | (with_reducible refine wpAny_nsGet hns.ns ?_;rw [hv]) | wp_step)
 exact hq
theorem ZdI {R:Result→Shared→Prop}(T:VT bm)(hC:ZaW h nm q C N bs bm sn sub ab col dd k0 k1 k2 k3 k5)(hx:h.get? a=some o)(hc:o.cls=.ref C)(hq:R (.ok (.ret (.ref C))) ⟨h,g,d,t,os⟩) :
   codeAny (model prog w) A (.call (.builtin "getset_descriptor.__get__") ⟨[.builtin "object.__class__",.ref a,.ref C],[]⟩) R ⟨h,g,d,t,os⟩:=by
 have hT5:(⟨h,g,d,t,os⟩:Shared).TypeIs (.builtin "object.__class__") "getset_descriptor":=PySem.F.typeOf_object_class
 have hcB:(Value.ref C::bm).contains (.type (".".intercalate ("object.__class__".cutAt '.').dropLast))=true:=by
   rw [PySem.F.owner_object_class,List.contains_cons,T.has (b:=true) (by decide +kernel)];rfl
 refine codeAny_call_builtin PySem.F.slot_gs_get.plain PySem.F.entry_gs_get (PySem.F.slot_gs_get.check _ _ _ _ _ _ _ _ hT5 (PySem.F.args_gs_get _ _ _) ?_)
 repeat (any_goals (first | assumption | (with_reducible refine wpAny_loadPart_at hx ?_;rw [hc]) | (with_reducible refine wpAny_isSubtype_exc hC ?_;rw [hcB]) | wp_step))
 refine ⟨Code.quiet_builtin _ (by decide +kernel),codeAny_builtin PySem.F.entry_object_class ?_⟩
 repeat (any_goals (first | assumption | (with_reducible refine wpAny_loadPart_at hx ?_;rw [hc]) | wp_step))
theorem Zkg {tk:Tok}{Q:PySem.Fin→Shared→Prop}(T:VT bm)(hC:ZaW h nm q C N bs bm sn sub ab col dd k0 k1 k2 k3 k5)(LC:PySem.W.Looks (model prog w) h (typeLookup (.ref C) "__class__") (some (.builtin "object.__class__")))
   (hx:h.get? a=some o) (hc:o.cls=.ref C) (hq:Q (.done (.ret (.ref C))) ⟨h,g,d,t,os⟩) :
   wpAny (model prog w) A (Builtin.«object.__getattribute__» ⟨[.ref a,.str "__class__" tk],[]⟩) Q E ⟨h,g,d,t,os⟩:=by
 have LC':∀ {A:Around} {Q:Option Value→Shared→Prop} {E:Value→Shared→Prop},Q (some (.builtin "object.__class__")) ⟨h,g,d,t,os⟩→wpAny (model prog w) A (typeLookup (.ref C) "__class__") Q E ⟨h,g,d,t,os⟩:=fun q=>LC _ _ _ _ (fun _ _ e=>e) q
 have hT5:(⟨h,g,d,t,os⟩:Shared).TypeIs (.builtin "object.__class__") "getset_descriptor":=PySem.F.typeOf_object_class
 have f5:=PySem.F.typeOf_object_class
 have f6:=PySem.F.slot_gs_get.lookup
 have f7:=PySem.F.slot_gs_set.lookup
 repeat (any_goals (first | assumption | (with_reducible refine wpAny_loadPart_at hx ?_;rw [hc]) | (with_reducible refine LC' ?_) | wp_step))
 refine ZdI T hC hx hc ?_
 repeat (any_goals (first | assumption | wp_step))
end
structure XG (K:PySem.W.Frag)(C:Addr):Prop where
 xc:Zdw K C=true
 nw:PySem.W.findIn K (.ref C) "what"=some none
 ga:PySem.W.findIn K (.ref C) "__getattribute__"=some (some (.builtin "BaseException.__getattribute__"))
 gh:PySem.W.findIn K (.ref C) "__getattr__"=some none
 gc:PySem.W.findIn K (.ref C) "__class__"=some (some (.builtin "object.__class__"))
theorem Zcx {K:PySem.W.Frag}{C ea:Addr}(G:XG K C):PySem.W.KitX K (.ref ea) (.ref C) (fun h=>∃ o,h.get? ea=some o∧o.cls=.ref C) where
 ty:=fun M h _ p=>by obtain ⟨o,h1,h2⟩:=p;exact h2 ▸ (PySem.W.Looks.ld h1).andThen .now
 it:=fun M h X p=>by
   obtain ⟨nm,qn,N,bs,bm,sn,sub,ab,col,dd,k0,k1,k2,k3,k5,hC,T⟩:=VW X G.xc
   intro A' Q' E' s' k q
   unfold isType loadHead
   exact wpAny_bind (wpAny_loadPart (k _ _ hC) (wpAny_pure q))
 ne:=fun h tp dd its n sl X htp=>by
   obtain ⟨nm,qn,N,bs,bm,sn,sub,ab,col,dd,k0,k1,k2,k3,k5,hC,T⟩:=VW X G.xc
   refine Bool.eq_false_iff.mpr fun q=>?_
   have e:C=tp:=Value.ref.inj (beq_iff_eq.mp q)
   subst e
   have z:=congrArg Obj.cls (Option.some.inj (hC.symm.trans htp))
   exact absurd (Value.type.inj z) (by decide)
 ca:=fun {prog w A E Q s} X p k=>by
   obtain ⟨nm,qn,N,bs,bm,sn,sub,ab,col,dd,k0,k1,k2,k3,k5,hC,T⟩:=VW X G.xc
   obtain ⟨o,h1,h2⟩:=p
   obtain ⟨h,g,d,t,os⟩:=s
   have by':∀ {tk:Tok} {Q:Value→Shared→Prop} {E:Value→Shared→Prop} {A:Around},Q (.ref C) ⟨h,g,d,t+1,os⟩→wpAny (model prog w) A (getAttrBy (.ref ea) (.str "__class__" tk) false) Q E ⟨h,g,d,t+1,os⟩:=fun q =>
     x_by T hC (PySem.W.looks_findIn X G.ga) (PySem.W.looks_findIn X G.gh) h1 h2 rfl (fun A R E r=>Zkg T hC (PySem.W.looks_findIn X G.gc) h1 h2 r) q
   unfold getAttr? getAttrBy?
   repeat (any_goals (first | assumption | with_reducible apply by' | wp_step))
end L2
set_option maxHeartbeats 1000000
namespace L2
open PySem PySem.Spec PyProof.Rows
def Zni (K:PySem.W.Frag)(ta:TE):TE:=fun σ H Q=>ta σ H fun x H1=>∃ (ea C dx:Addr) (fs:List (Str×V)) (v:V),x=.ref ea∧H1 ea=some (XO ea C dx)∧H1 dx=some (.xd fs)∧XG K C∧fs.lookup ("what":Str)=some v∧Q v H1
def TyX (K:PySem.W.Frag)(H:Hp)(x:V)(t:Value):Prop:=Wo K H x t∨∃ ea C dx,x=.ref ea∧t=.ref C∧H ea=some (XO ea C dx)∧XG K C
def rIsi (K:PySem.W.Frag):List V→Hp→VK→Prop:=fun xs H Q=>∃ x c t b,xs=[x,c]∧TyX K H x t∧((∃ D,c=.ref D∧PySem.W.kitOne K t (.ref D)=some b)∨(∃ T,c=.ty T∧PySem.W.kitOne K t (.type T)=some b))∧Q (.bl b) H
def Znd (K:PySem.W.Frag):List V→Hp→VK→Prop:=fun xs H Q=>∃(ea C dx tp:Addr)(Ds:List Addr)(b:Bool),xs=[.ref ea,.ref tp]∧H ea=some (XO ea C dx)∧XG K C∧H tp=some (.tup (Ds.map V.ref))∧PySem.W.kitAny K (.ref C) (Ds.map Value.ref)=some b∧Q (.bl b) H
section
variable {X:Cx}{e:Expr}{pos:Pos}{ta:TE}
theorem ZkD (he:PE X e ta)(hb:attributeBase e "what" X.env (eval e X.env)=eval e X.env):PE X (.Attribute e "what" pos) (Zni X.K ta):=by
 intro pins s σ H Q I h
 refine Zkz hb (Zp (he pins s σ H _ I h) fun u s1 ⟨x,H1,I1,rx,ea,C,dx,fs,v,ex,hea,hdx,G,l,q⟩=>?_)
 subst ex
 obtain rfl:u=Value.ref ea:=rx
 obtain ⟨⟨oe,vs,he1,he2,he3,he4⟩,_,_⟩:=(show ObjOk X.prog X.w H1 s1.heap ea (XO ea C dx) from I1.hok ea _ hea)
 obtain ⟨mA,hns,hr⟩:=(show ObjOk X.prog X.w H1 s1.heap dx (.xd fs) from I1.hok dx _ hdx)
 obtain ⟨u,hu,ru⟩:=RelO.some_of (v:=v) (o:=mA "what") (by rw [← l];exact hr "what")
 obtain ⟨nm,qn,N,bs,bm,sn,sub,ab,col,dd,k0,k1,k2,k3,k5,hC,T⟩:=VW I1.kIn G.xc
 have hK:=I1.kIn
 have I2:=I1.tok (s1.toks+1)
 obtain ⟨hh,g,d,tk,os⟩:=s1
 refine wpAny_bind (wpAny_mkText ?_)
 exact x_by T hC (PySem.W.looks_findIn hK G.ga) (PySem.W.looks_findIn hK G.gh) he1 he2 (PySem.W.handedOut_of (Zgn ru)) (fun A R E r=>Zly hC (PySem.W.looks_findIn hK G.nw) he1 he2 he3 he4 hns hu r) ⟨v,H1,I2,ru,q⟩
theorem Zew {pins:List (Addr×Obj)}{σ:St}{H:Hp}{s:Shared}{A:Around}{E:Value→Shared→Prop}{Q:Value→Shared→Prop}{c:Value}{b:Bool}{x:V}{u t:Value}(I:Inv X pins σ H s)(rx:RelV x u)(ty:TyX X.K H x t)(e:PySem.W.kitOne X.K t c=some b)(h:∀ tk,Q (.bool b) { s with toks:=tk }) :
   wpAny (model X.prog X.w) A (call (.builtin "isinstance") [u,c]) Q E s:=by
 rcases ty with ty | ⟨ea,C,dx,rfl,rfl,hea,G⟩
 · exact ZfP I rx ty e h
 · cases (show u=Value.ref ea from rx)
   obtain ⟨⟨oe,vs,he1,he2,_⟩,_,_⟩:=(show ObjOk X.prog X.w H s.heap ea (XO ea C dx) from I.hok ea _ hea)
   exact PySem.W.kia_one (Zcx G) I.kIn ⟨oe,he1,he2⟩ e (fun z=>nomatch z) h
theorem ZbH:YQ X (.builtin "isinstance") (rIsi X.K):=by
 intro pins s σ H xs us Q I r h
 obtain ⟨x,c,t,b,rfl,ty,hc,q⟩:=h
 obtain ⟨u,u',rfl,ru,ru'⟩:=Vd r
 rcases hc with ⟨D,rfl,e⟩ | ⟨T,rfl,e⟩
 · cases (show u'=Value.ref D from ru')
   exact Zew I ru ty e fun tk=>⟨.bl b,H,I.tok tk,rfl,q⟩
 · cases (show u'=Value.type T from ru')
   exact Zew I ru ty e fun tk=>⟨.bl b,H,I.tok tk,rfl,q⟩
theorem ZaP:∀{Ds:List Addr}{us:List Value},Vals (Ds.map V.ref) us→us=Ds.map Value.ref
 | [],_,h=>by cases h;rfl
 | D::Ds,_,h=>by
   cases h with
   | cons r t=>rw [ZaP t,show _=Value.ref D from r];rfl
theorem Zgi:YQ X (.builtin "isinstance") (Znd X.K):=by
 intro pins s σ H xs us Q I r h
 obtain ⟨ea,C,dx,tp,Ds,b,rfl,hea,G,htp,e,q⟩:=h
 obtain ⟨u,u',rfl,ru,ru'⟩:=Vd r
 cases (show u=Value.ref ea from ru)
 cases (show u'=Value.ref tp from ru')
 obtain ⟨⟨oe,vs,he1,he2,_⟩,_,_⟩:=(show ObjOk X.prog X.w H s.heap ea (XO ea C dx) from I.hok ea _ hea)
 obtain ⟨_,its,rv,p⟩:=(show ObjOk X.prog X.w H s.heap tp (.tup (Ds.map V.ref)) from I.hok tp _ htp)
 obtain ⟨⟨oc,odi,oda,osl⟩,h1,h2,n,h3⟩:=p
 dsimp only at h2 h3
 subst h2 h3
 rw [ZaP rv] at h1
 exact PySem.W.kia_tup (Zcx G) I.kIn ⟨oe,he1,he2⟩ h1 e (fun z=>nomatch z) fun tk=>⟨.bl b,H,I.tok tk,rfl,q⟩
end
section
variable {X:Cx}
end
section
variable {X:Cx}{elt iter tg cnd:Expr}{xa xb:Str}{pos:Pos}{scope:Scope}{wi:TI}{te:TE}{tc:TT}{g:TG}
end
end L2
set_option maxHeartbeats 2000000
namespace L2
open PySem PySem.Spec PyProof.Rows
section
variable {X:Cx}
end
section
variable {prog:Program}{w:World}{A:Around}{E:Value→Shared→Prop}{s:Shared}
end
section
variable {X:Cx}
end
end L2
set_option maxHeartbeats 2000000
namespace L2
open PySem PySem.Spec PyProof.Rows
mutual
def Pg.dat:Pg→PyData
 | .set x v s=>.tuple [.str "set",.str x,Ve v,.str s]
 | .look x=>.tuple [.str "look",.str x]
 | .slot w s=>.tuple [.str w,.str s]
 | .pass=>.tuple [.str "pass"]
 | .blk w ps=>.tuple [.str w,.tuple (Pg.dats ps)]
 | .inn s ps=>.tuple [.str "in",.str s,.tuple (Pg.dats ps)]
def Pg.dats:List Pg→List PyData
 | []=>[]
 | p::ps=>p.dat::Pg.dats ps
end
mutual
def Pg.ok:Pg→Prop
 | .set x v s=>Yg x∧IsVal v∧Yg s
 | .look x=>Yg x
 | .slot w s=>(w="back"∨w="copy")∧Yg s
 | .pass=>True
 | .blk w ps=>(w="begin"∨w="late")∧Pg.oks ps
 | .inn s ps=>Yg s∧Pg.oks ps
def Pg.oks:List Pg→Prop
 | []=>True
 | p::ps=>p.ok∧Pg.oks ps
end
mutual
def Pg.hgt:Pg→Nat
 | .blk _ ps=>Pg.hgts ps+1
 | .inn _ ps=>Pg.hgts ps+1
 | _=>0
def Pg.hgts:List Pg→Nat
 | []=>0
 | p::ps=>max p.hgt (Pg.hgts ps)
end
def Pg.isB:Pg→Bool
 | .blk _ _=>true
 | .inn _ _=>true
 | _=>false
def Pg.nam:Pg→Option Str
 | .set x _ _=>some x
 | .look x=>some x
 | _=>none
theorem Pg.oks_at:∀{ps:List Pg}{i:Nat}{p:Pg},Pg.oks ps→ps[i]?=some p→p.ok
 | [],_,_,_,h=>by simp at h
 | q::ps,0,_,o,h=>by cases h;exact o.1
 | q::ps,i+1,p,o,h=>Pg.oks_at (ps:=ps) (i:=i) o.2 h
theorem Pg.hgts_at:∀{ps:List Pg}{i:Nat}{p:Pg},ps[i]?=some p→p.hgt≤Pg.hgts ps
 | [],_,_,h=>by simp at h
 | q::ps,0,_,h=>by cases h;exact Nat.le_max_left _ _
 | q::ps,i+1,p,h=>Nat.le_trans (Pg.hgts_at (ps:=ps) (i:=i) h) (Nat.le_max_right _ _)
theorem Pg.manys_app:∀ ps qs:List Pg,Pg.manys (ps++qs)=Pg.manys ps+Pg.manys qs
 | [],qs=>by show Pg.manys qs=0+Pg.manys qs;omega
 | p::ps,qs=>by
   have:=Pg.manys_app ps qs
   show p.many+Pg.manys (ps++qs)=p.many+Pg.manys ps+_
   omega
theorem Pg.dats_map:∀ ps:List Pg,Pg.dats ps=ps.map Pg.dat
 | []=>rfl
 | p::ps=>by show p.dat::Pg.dats ps=p.dat::ps.map Pg.dat;rw [Pg.dats_map ps]
theorem Pg.many_pos:∀ p:Pg,1≤p.many:=fun p=>by rw [Pg.many_eq];omega
theorem Pg.len_manys:∀ ps:List Pg,ps.length≤Pg.manys ps
 | []=>Nat.zero_le _
 | p::ps=>by
   have h1:=Pg.many_pos p
   have h2:=Pg.len_manys ps
   show ps.length+1≤p.many+Pg.manys ps
   omega
theorem Pg.inner_ok {p:Pg}(h:p.ok):Pg.oks p.inner:=by cases p<;>first | exact trivial | exact h.2
theorem Pg.inner_hgt {p:Pg}{n:Nat}(h:p.hgt≤n+1):Pg.hgts p.inner≤n:=by
 cases p<;>first | exact Nat.zero_le _ | exact Nat.le_of_succ_le_succ h
theorem Pg.inner_none {p:Pg}(h:p.isB=false):p.inner=[]:=by cases p<;>first | rfl | exact nomatch h
def Pg.rk:List Pg→Nat
 | []=>0
 | p::ps=>Pg.hgts (p::ps)+1
theorem Pg.rk_inner (p:Pg):Pg.rk p.inner≤p.hgt:=by
 cases p with
 | blk w ps=>cases ps<;>first | exact Nat.zero_le _ | exact Nat.le_refl _
 | inn s ps=>cases ps<;>first | exact Nat.zero_le _ | exact Nat.le_refl _
 | _=>exact Nat.zero_le _
theorem Pg.rk_at {ps:List Pg}{i:Nat}{p:Pg}(h:ps[i]?=some p):Pg.rk p.inner < Pg.rk ps:=by
 have h1:=Pg.rk_inner p
 have h2:=Pg.hgts_at h
 cases ps with
 | nil=>simp at h
 | cons q ps=>show _ < Pg.hgts (q::ps)+1;omega
theorem Pg.inner_many {p:Pg}:p.many=1+Pg.manys p.inner:=Pg.many_eq p
theorem Pg.manys_take {ps:List Pg}{i:Nat}{p:Pg}(h:ps[i]?=some p):Pg.manys (ps.take (i+1))=Pg.manys (ps.take i)+p.many:=by
 rw [List.take_add_one,h,Pg.manys_app]
 show _+(p.many+0)=_;omega
theorem Pg.manys_le {ps:List Pg}(i:Nat):Pg.manys (ps.take i)≤Pg.manys ps:=by
 have:=Pg.manys_app (ps.take i) (ps.drop i)
 rw [List.take_append_drop] at this;omega
theorem DatT.tupI {K:PySem.W.Frag}{H:Hp}{v:V}{ds:List PyData}(h:DatT K H v (.tuple ds)):∃ a xs,v=.ref a∧SqT K H a xs∧DatTs K H xs ds:=by
 cases h with
 | tup e q=>exact ⟨_,_,rfl,e,q⟩
theorem DatTs.at' {K:PySem.W.Frag}{H:Hp}:∀{vs ds}{i:Nat}{v:V},DatTs K H vs ds→vs[i]?=some v→∃ d,ds[i]?=some d∧DatT K H v d
 | _,_,_,_,.nil,h=>by simp at h
 | _,_,0,_,.cons a _,h=>by cases h;exact ⟨_,rfl,a⟩
 | _,_,i+1,_,.cons _ b,h=>DatTs.at' (i:=i) b h
theorem DatTs.pg {K:PySem.W.Frag}{H:Hp}{vs:List V}{ps:List Pg}{i:Nat}{v:V}(h:DatTs K H vs (Pg.dats ps))(e:vs[i]?=some v):∃ p,ps[i]?=some p∧DatT K H v p.dat:=by
 obtain ⟨d,e1,e2⟩:=DatTs.at' h e
 rw [Pg.dats_map,List.getElem?_map] at e1
 obtain ⟨p,e3,rfl⟩:=Option.map_eq_some_iff.mp e1
 exact ⟨p,e3,e2⟩
theorem DatTs.pgs {K:PySem.W.Frag}{H:Hp}{vs:List V}{ps:List Pg}(h:DatTs K H vs (Pg.dats ps)):vs.length=ps.length:=by
 rw [DatTs.len h,Pg.dats_map,List.length_map]
theorem ZhT {K:PySem.W.Frag}{H:Hp}{v:V}{p:Pg}(h:DatT K H v p.dat):∃ a xs,v=.ref a∧SqT K H a xs∧1≤xs.length∧xs[0]?=some (.str p.word)∧(∀ x,p.nam=some x→xs[1]?=some (.str x))∧(p.isB=true→∃ t,Wm xs (-1)=some t∧DatT K H t (.tuple (Pg.dats p.inner))):=by
 cases p with
 | set x v s =>
   obtain ⟨a,xs,rfl,e,q⟩:=DatT.tupI h
   obtain _ | ⟨q1,q2⟩:=q
   cases q1;obtain _ | ⟨q3,q4⟩:=q2;cases q3
   exact ⟨a,_,rfl,e,by simp,rfl,fun y hy=>by cases hy;rfl,fun z=>(nomatch z)⟩
 | look x =>
   obtain ⟨a,xs,rfl,e,q⟩:=DatT.tupI h
   obtain _ | ⟨q1,q2⟩:=q
   cases q1;obtain _ | ⟨q3,q4⟩:=q2;cases q3
   exact ⟨a,_,rfl,e,by simp,rfl,fun y hy=>by cases hy;rfl,fun z=>(nomatch z)⟩
 | slot w s =>
   obtain ⟨a,xs,rfl,e,q⟩:=DatT.tupI h
   obtain _ | ⟨q1,q2⟩:=q
   cases q1
   exact ⟨a,_,rfl,e,by simp,rfl,fun y hy=>(nomatch hy),fun z=>(nomatch z)⟩
 | pass =>
   obtain ⟨a,xs,rfl,e,q⟩:=DatT.tupI h
   obtain _ | ⟨q1,q2⟩:=q
   cases q1
   exact ⟨a,_,rfl,e,by simp,rfl,fun y hy=>(nomatch hy),fun z=>(nomatch z)⟩
 | blk w ps =>
   obtain ⟨a,xs,rfl,e,q⟩:=DatT.tupI h
   obtain _ | ⟨q1,q2⟩:=q
   cases q1;obtain _ | ⟨q3,q4⟩:=q2;cases q4
   exact ⟨a,_,rfl,e,by simp,rfl,fun y hy=>(nomatch hy),fun z=>⟨_,Zev (n:=1) rfl rfl,q3⟩⟩
 | inn s ps =>
   obtain ⟨a,xs,rfl,e,q⟩:=DatT.tupI h
   obtain _ | ⟨q1,q2⟩:=q
   cases q1;obtain _ | ⟨q3,q4⟩:=q2;obtain _ | ⟨q5,q6⟩:=q4;cases q6
   exact ⟨a,_,rfl,e,by simp,rfl,fun y hy=>(nomatch hy),fun z=>⟨_,Zev (n:=2) rfl rfl,q5⟩⟩
theorem ZfV (v:V):(Ve v).depth=0:=by cases v<;>rfl
mutual
theorem Pg.deep:∀(p:Pg),p.dat.depth≤2 * p.hgt+1
 | .set x v s=>by
   show (PyData.tuple [.str "set",.str x,Ve v,.str s]).depth≤1
   simp only [PyData.depth,PyData.depthAll,ZfV];omega
 | .look x=>by show (PyData.tuple [.str "look",.str x]).depth≤1;simp only [PyData.depth,PyData.depthAll];omega
 | .slot w s=>by show (PyData.tuple [.str w,.str s]).depth≤1;simp only [PyData.depth,PyData.depthAll];omega
 | .pass=>by decide
 | .blk w ps=>by
   have:=Pg.deeps ps
   show (PyData.tuple [.str w,.tuple (Pg.dats ps)]).depth≤2 * (Pg.hgts ps+1)+1
   simp only [PyData.depth,PyData.depthAll];omega
 | .inn s ps=>by
   have:=Pg.deeps ps
   show (PyData.tuple [.str "in",.str s,.tuple (Pg.dats ps)]).depth≤2 * (Pg.hgts ps+1)+1
   simp only [PyData.depth,PyData.depthAll];omega
theorem Pg.deeps:∀(ps:List Pg),PyData.depthAll (Pg.dats ps)≤2 * Pg.hgts ps+1
 | []=>by show 0≤_;omega
 | p::ps=>by
   have h1:=Pg.deep p
   have h2:=Pg.deeps ps
   show max p.dat.depth (PyData.depthAll (Pg.dats ps))≤2 * max p.hgt (Pg.hgts ps)+1
   omega
end
end L2
set_option maxHeartbeats 4000000
namespace K70
open PySem L2
def top (i:Nat):Stmt:=PySem.Challenge.pw_roadsettings_k70_values_as_words.main.body.getD i (.Pass ⟨0,0,0,0⟩)
abbrev c_RoadError___init__:Stmt:=ZjQ (top 1) 0
abbrev s_is_name:Stmt:=top 10
abbrev s_is_number:Stmt:=top 11
abbrev s_is_value:Stmt:=top 12
abbrev s_kinds_of:Stmt:=top 15
abbrev s_has_within:Stmt:=top 16
abbrev s_program_within:Stmt:=top 17
abbrev s_value_text:Stmt:=top 21
abbrev s_value_from:Stmt:=top 22
abbrev s_unslashed:Stmt:=top 23
abbrev s_number_from:Stmt:=top 24
abbrev s_parts_from:Stmt:=top 25
abbrev s_whole_words:Stmt:=top 26
abbrev s_part_from:Stmt:=top 27
abbrev s_kinds_in_row:Stmt:=top 28
abbrev s_step_row:Stmt:=top 29
abbrev s_head_from:Stmt:=top 30
abbrev s_program_text:Stmt:=top 33
abbrev s_program_rows:Stmt:=top 34
abbrev s_moved_in:Stmt:=top 35
abbrev s_program_from:Stmt:=top 36
abbrev s_heads_from:Stmt:=top 37
abbrev s_program_of:Stmt:=top 38
abbrev s_l_cell_at:Stmt:=top 40
abbrev s_l_box:Stmt:=top 41
abbrev s_l_take:Stmt:=top 42
abbrev s_l_names:Stmt:=top 43
abbrev s_l_value:Stmt:=top 44
abbrev s_l_written:Stmt:=top 45
abbrev s_l_same:Stmt:=top 47
abbrev s_l_cut:Stmt:=top 48
abbrev s_l_is_name:Stmt:=top 49
abbrev s_l_number_at:Stmt:=top 50
abbrev s_l_value_at:Stmt:=top 51
abbrev s_l_step:Stmt:=top 52
abbrev s_l_refused:Stmt:=top 55
abbrev s_l_words:Stmt:=top 56
abbrev s_law:Stmt:=top 57
section
variable {P:Program}{w:World}{K:PySem.W.Frag}{mg:Str→Option Value}{base:Heap}
theorem scC:Zz ["_law_script","_law_k"] ["_law_script","_law_k"] (Zl s_l_cell_at):=⟨rfl,rfl,rfl,by decide +kernel,rfl,by decide +kernel,by decide +kernel⟩
theorem Zkp {f:Addr}{fd:FuncData}(F:Fun K "_law_cell_at" "_law_cell_at" s_l_cell_at f fd)(T:Yk mg):FnOk P w K mg base ZY 1 f fd ["_law_script","_law_k"] (Zgf K):=by
 refine F.ok scC (fun vs H Q E h=>?_) (fun cdv A outer s H vs Q E hr h=>?_)
 · obtain ⟨a,ns,k,rfl,_⟩:=h;rfl
 obtain ⟨a,ns,k,rfl,hS,h0,q⟩:=h
 refine ⟨_,Zd (ZS (ZF Zcp (pv 1) (Zn Yy rfl T.len PySem.boot_len (Yp (pv 0) Za)) (ZH _)) (Zi (Zo (ZX YU (pv 0) (pv 1) (fun _ _=>rfl)))) ZE)
   (Zi (Zo Zf)),?_⟩
 refine ⟨_,rfl,_,rfl,a,_,rfl,.inl hS,_,_,rfl,rfl,_,rfl,?_⟩
 refine ZbB (fun c=>?_) (fun c=>?_)
 · have c':k < (((ns.map V.int).length:Nat):Int):=of_decide_eq_true c
   rw [List.length_map] at c'
   have hk:k.toNat < ns.length:=by omega
   have ek:k=((k.toNat:Nat):Int):=by omega
   have hat:Wm (ns.map V.int) k=some (.int ns[k.toNat]):=by
     have z:Wm (ns.map V.int) ((k.toNat:Nat):Int)=some (.int ns[k.toNat]):=YB (by rw [List.getElem?_map,List.getElem?_eq_getElem hk];rfl)
     rwa [← ek] at z
   exact ⟨_,rfl,_,rfl,a,_,_,_,rfl,rfl,hS,hat,q _⟩
 · exact q 0
theorem scB:Zz ["_law_script","_law_k","_law_cell"] ["_law_script","_law_k"] (Zl s_l_box):=⟨rfl,rfl,rfl,by decide +kernel,rfl,by decide +kernel,by decide +kernel⟩
theorem ZlX {f:Addr}{fd:FuncData}(F:Fun K "_law_box" "_law_box" s_l_box f fd)(T:Yk mg)(D:Def P w K mg base 1 "_law_cell_at" ["_law_script","_law_k"] (Zgf K)):FnOk P w K mg base ZY 2 f fd ["_law_script","_law_k"] (Zjw K):=by
 refine F.ok scB (fun vs H Q E h=>?_) (fun cdv A outer s H vs Q E hr h=>?_)
 · obtain ⟨a,ns,k,rfl,_⟩:=h;rfl
 obtain ⟨a,ns,k,rfl,hS,h0,h1,q⟩:=h
 refine ⟨_,Zd (Zw (i:=2) scB.nd rfl (Or.inl rfl) (ZC D hr (Yp (pv 0) (Yp (pv 1) Za))))
   (Zi (Zo (Yw (Yp (Zk Ur (Zn ZcP rfl T.abs (by decide +kernel) (Yp (pv 2) Za)) (YA ZbR rfl T.int (by decide +kernel) (Yp (Xv ZmY (Zn ZcP rfl T.abs (by decide +kernel) (Yp (pv 2) Za)) (Zk Zbf Zf Zf) (ZH _)) Za)))
     (Yp (Zk Yn (Zk Yn (Zk WQ (pv 2) Zf) (Zk Ur Zf (pv 1))) Zf) (Yp Zf Za)))))),?_⟩
 refine ⟨_,rfl,_,rfl,a,ns,k,rfl,hS,h0,fun r=>?_⟩
 refine ⟨_,rfl,_,rfl,⟨_,rfl,_,rfl,_,_,rfl,rfl,⟨by decide,by decide,by decide⟩,_,_,rfl,rfl,.inr ⟨_,rfl,?_⟩⟩⟩
 generalize hb:decide ((10:Int) ^ (Int.toNat 18)≤(if r < 0 then -r else r))=bb
 refine ⟨_,_,rfl,rfl,.inr (by cases bb<;>exact ⟨by decide,by decide⟩),_,rfl,_,_,rfl,rfl,(by show (0:Int) < _;decide),_,rfl,_,_,rfl,rfl,.inl ⟨by decide,by decide⟩,_,_,rfl,rfl,_,_,rfl,rfl,(by show 3≤sizeLine;decide),fun p hp=>?_⟩
 refine q p _ hp ⟨_,_,0,Zb,?_,by decide,by decide⟩ (Zh hp _)
 cases bb
 · simp
 · simp only [if_true,Int.mul_one];split<;>omega
theorem scT:Zz ["_law_box_here","_law_many","_law_found","_law_once","_law_twice"] ["_law_box_here","_law_many"] (Zl s_l_take):=⟨rfl,rfl,rfl,by decide +kernel,rfl,by decide +kernel,by decide +kernel⟩
theorem Zki {f:Addr}{fd:FuncData}(F:Fun K "_law_take" "_law_take" s_l_take f fd):FnOk P w K mg base ZY 1 f fd ["_law_box_here","_law_many"] (ZaN 4611686018427387904):=by
 refine F.ok scT (fun vs H Q E h=>?_) (fun cdv A outer s H vs Q E hr h=>?_)
 · obtain ⟨p,n,m,rfl,_⟩:=h;rfl
 obtain ⟨p,n,m,rfl,⟨a,b,c,hp,ha,hc,hcn⟩,hn,hm0,hmM,q⟩:=h
 refine ⟨_,Zd (ZS (ZF Zcr (ZX YU (pv 0) Zf (fun _ _=>rfl)) Zf (ZH _))
     (Zd (Zw (i:=2) scT.nd rfl (Or.inl rfl) (Zk WQ (ZX YU (pv 0) Zf (fun _ _=>rfl)) (pv 1)))
       (Zd (Ws (Zk Zat (ZX YU (pv 0) Zf (fun _ _=>rfl)) (pv 1)) (Zhj (pv 0) Zf ZcY)) (Zi (Zo (pv 2))))) ZE)
   (Zd (Ws (Zk Yn (ZX YU (pv 0) Zf (fun _ _=>rfl)) Zf) (Zhj (pv 0) Zf ZcY))
   (Zd (Zw (i:=3) scT.nd rfl (Or.inl rfl) (Zk WQ (Zk Ur (Zk Yn (ZX YU (pv 0) Zf (fun _ _=>rfl)) (Zk Ur Zf (ZX YU (pv 0) Zf (fun _ _=>rfl)))) (Zk Yn Zf (ZX YU (pv 0) Zf (fun _ _=>rfl)))) Zf))
   (Zd (Zw (i:=4) scT.nd rfl (Or.inl rfl) (Zk WQ (Zk Ur (Zk Yn (pv 3) (ZX YU (pv 0) Zf (fun _ _=>rfl))) (Zk Yn (Zk WQ (pv 3) Zf) Zf)) Zf))
   (Zi (Zo (Zk WQ (Zk ZjF (Zk WQ (Zk Yn (Zk Ur (pv 4) Zf) (pv 3)) Zf) Zf) (pv 1))))))),?_⟩
 refine ⟨_,rfl,p,_,_,_,rfl,rfl,SqL.of hp,rfl,_,_,rfl,rfl,_,rfl,?_⟩
 refine ZbB (fun c'=>?_) (fun c'=>?_)
 · have h0:0 < a:=of_decide_eq_true c'
   refine ⟨_,rfl,p,_,_,_,rfl,rfl,SqL.of hp,rfl,_,rfl,_,_,rfl,rfl,hm0,?_⟩
   refine ⟨_,rfl,p,_,_,_,rfl,rfl,SqL.of hp,rfl,_,rfl,_,_,rfl,rfl,⟨hm0,by have h4:m < 4611686018427387904:=hmM;omega⟩,?_⟩
   refine ⟨_,rfl,p,_,_,_,rfl,rfl,hp,rfl,?_⟩
   refine ⟨_,rfl,?_⟩
   exact q _ _ (Int.emod_nonneg _ (by omega)) (Int.emod_lt_of_pos _ hm0) ⟨a / m,b,c,Zb,Int.ediv_nonneg ha (by omega),hc,by omega⟩ (Kp.upd _ _ _)
 · refine ⟨_,rfl,p,_,_,_,rfl,rfl,SqL.of hp,rfl,_,_,rfl,rfl,?_⟩
   refine ⟨_,rfl,p,_,_,_,rfl,rfl,hp,rfl,?_⟩
   have hp1:upd H p (.lst [.int a,.int b,.int (c+1)]) p=some (.lst [.int a,.int b,.int (c+1)]):=Zb
   refine ⟨_,rfl,p,_,_,_,rfl,rfl,SqL.of hp1,rfl,_,rfl,p,_,_,_,rfl,rfl,SqL.of hp1,rfl,_,_,rfl,rfl,.inl ⟨by decide,by decide⟩,_,_,rfl,rfl,_,rfl,p,_,_,_,rfl,rfl,SqL.of hp1,rfl,_,_,rfl,rfl,_,_,rfl,rfl,.inr ⟨by omega,by omega⟩,_,_,rfl,rfl,(by show (0:Int) < _;decide),?_⟩
   generalize hO:((b+48271 * (c+1)) * (39373+(c+1))) % 2147483647=once
   have hO0:0≤once:=by rw [← hO];exact Int.emod_nonneg _ (by decide)
   refine ⟨_,rfl,_,rfl,p,_,_,_,rfl,rfl,SqL.of hp1,rfl,_,_,rfl,rfl,_,rfl,_,_,rfl,rfl,(by show (0:Int) < _;decide),_,_,rfl,rfl,_,_,rfl,rfl,.inr ?_,_,_,rfl,rfl,(by show (0:Int) < _;decide),?_⟩
   · have:=Int.emod_nonneg once (show (40009:Int)≠0 by decide)
     have:=Int.emod_lt_of_pos once (show (0:Int) < 40009 by decide)
     exact ⟨by omega,by omega⟩
   generalize hW:((once+(c+1)) * (once % 40009+7)) % 2147483629=twice
   refine ⟨_,rfl,_,_,rfl,rfl,.inr ⟨by decide,by decide⟩,_,rfl,_,_,rfl,rfl,_,_,rfl,rfl,(by show (0:Int) < _;decide),_,_,rfl,rfl,⟨by decide,by decide⟩,_,rfl,_,_,rfl,rfl,hm0,?_⟩
   exact q _ _ (Int.emod_nonneg _ (by omega)) (Int.emod_lt_of_pos _ hm0) ⟨a,b,c+1,hp1,ha,by omega,by omega⟩ (Kp.upd _ _ _)
end
end K70
namespace L2
open PySem
theorem Vv {M:Model}{Γ:Ctx}{p:Pos}{t:Sem Fin}{fs:List Frame}{s s':Shared}{e:End}(h:Runs M Γ p t fs s e s'):s.toks≤s'.toks:=by
 induction h<;>first
   | exact Nat.le_refl _
   | assumption
   | (rename_i ih;exact Nat.le_trans (Nat.le_succ _) ih)
   | (rename_i ih1 ih2;exact Nat.le_trans ih1 ih2)
   | (simp only [Shared.setGen] at *;omega)
theorem ZeB {M:Model}{Γ:Ctx}{p:Pos}{g:Nat}{r:Resume}{s s':Shared}{res:GenResult}(h:Wakes M Γ p g r s res s'):s.toks≤s'.toks:=by
 unfold Wakes at h
 split at h
 · exact h.elim
 · split at h
   · obtain ⟨e1,s1,h1,_,_,rfl⟩:=h;have:=Vv h1;exact this
   · rw [h.2];exact Nat.le_refl _
   · rw [h.2];exact Nat.le_refl _
 · obtain ⟨e1,s1,h1,_,_,rfl⟩:=h;have:=Vv h1;exact this
 · rw [h.2];exact Nat.le_refl _
 · rw [h.2];exact Nat.le_refl _
theorem ZjJ {α:Type}{M:Model}{Γ:Ctx}(n:Nat):∀(t:Sem α){Q:α→Pos→Shared→Prop}{E:Value→Pos→Shared→Prop}{p:Pos}{s:Shared},n≤s.toks→Sem.wp M Γ t Q E p s→Sem.wp M Γ t (fun a p' s'=>n≤s'.toks∧Q a p' s') (fun a p' s'=>n≤s'.toks∧E a p' s') p s:=by
 intro t
 induction t with
 | pure a=>intro Q E p s h w;rw [Sem.wp] at w ⊢;exact ⟨h,w⟩
 | raise a=>intro Q E p s h w;rw [Sem.wp] at w ⊢;exact ⟨h,w⟩
 | call c hd g l k ih =>
   intro Q E p s h w
   rw [Sem.wp] at w ⊢
   obtain ⟨r,s1,h1,h2⟩:=w
   exact ⟨r,s1,h1,ih r (Nat.le_trans h (Vv h1)) h2⟩
 | resume g r l k ih =>
   intro Q E p s h w
   rw [Sem.wp] at w ⊢
   obtain ⟨res,s1,h1,h2⟩:=w
   exact ⟨res,s1,h1,ih res (Nat.le_trans h (ZeB h1)) h2⟩
 | fresh k ih=>intro Q E p s h w;rw [Sem.wp] at w ⊢;exact ih _ (Nat.le_succ_of_le h) w
 | load a b k ih=>intro Q E p s h w;rw [Sem.wp] at w ⊢;obtain ⟨o,h1,h2⟩:=w;exact ⟨o,h1,ih _ h h2⟩
 | update a b f k ih=>intro Q E p s h w;rw [Sem.wp] at w ⊢;exact ⟨w.1,ih _ h w.2⟩
 | choose a b k ih=>intro Q E p s h w;rw [Sem.wp] at w ⊢;exact ⟨w.1,ih _ h w.2⟩
 | genState g k ih=>intro Q E p s h w;rw [Sem.wp] at w ⊢;obtain ⟨o,h1,h2⟩:=w;exact ⟨o,h1,ih _ h h2⟩
 | _=>intro Q E p s h w;rw [Sem.wp] at w ⊢;first | exact w.elim | (rename_i ih;exact ih _ h w)
theorem Ue {α:Type}{M:Model}{A:Around}{t:Sem α}{Q:α→Shared→Prop}{E:Value→Shared→Prop}{s:Shared}{n:Nat}(h:n≤s.toks)(w:wpAny M A t Q E s):wpAny M A t (fun a s'=>n≤s'.toks∧Q a s') (fun a s'=>n≤s'.toks∧E a s') s :=
 fun Γ p hΓ=>ZjJ n t h (w Γ p hΓ)
end L2
set_option maxHeartbeats 2000000
namespace L2
open PySem PySem.W PySem.Spec PyProof.Rows
def CR1 (outer:List Env)(P:Program)(w:World)(H:Hp)(s:Shared)(Q:VK)(r:Result)(s':Shared):Prop:=1≤s'.toks∧CR ZY outer P w H s Q (fun _ _ _=>False) r s'
def Fn1 (P:Program)(w:World)(K:PySem.W.Frag)(mg:Str→Option Value)(base:Heap)(k:Nat)(f:Addr)(fd:FuncData)(px:Str)(sp:Sp):Prop :=
 ∀ (A:Around) (outer:List Env) (s:Shared) (H:Hp) (args:Args) (u:Value) (v:V) (Q:VK),Room k A→Env0 P w K mg base A outer s H→BindsTo s fd args [(px,u)]→RelV v u→sp [v] H Q (fun _ _ _=>False) →
   codeAny (model P w) A (.call (.ref f) args) (CR1 outer P w H s Q) s
section
variable {P:Program}{w:World}{K:PySem.W.Frag}{mg:Str→Option Value}{base:Heap}
theorem Fun.ok1 {x qual px:Str}{st:Stmt}{f:Addr}{fd:FuncData}{k:Nat}{sp:Sp}(F:Fun K x qual st f fd)(S:Zz [px] [px] (Zl st))(hc:∀ y∈(Zl st).names,y.2≠.cell)(hce:∀ n,cellsFrom n (Zl st).names []=[])(hl:(Zl st).names.lookup px=some .local)
   (hbody:∀ (cdv:Value) (A:Around) (outer:List Env) (s:Shared) (H:Hp) (vs:List V) (Q:VK) (E:XK),Room k (A.deeper (envOfC qual (Zl st) s.heap.objs.size f cdv))→sp vs H Q E →
     ∃ t,PSs (WB ZY P w K mg base [px] qual (Zl st) f cdv A outer s H E).nox (WH st) t∧t { nx:=fun _ H'=>Q .non H',rt:=Q } (start [px] vs) H):Fn1 P w K mg base (k+1) f fd px sp:=by
 obtain ⟨oc,od,kV,doc,pm,an,cdv,ct,osl,rfl,lk,hcd⟩:=F.ex
 intro A outer s H args u v Q hr e0 hb r hsp
 have KX:K.In s.heap:=e0.mod.kin.keeps fun b o e=>(e0.bs b o e).1
 have lim:s.heap.NoLimit:=e0.mod.nolimit.keeps fun b o e=>(e0.bs b o e).1
 refine codeAny_call_function hr.depth (KX _ _ lk) rfl S.co S.gen rfl (PySem.W.codeRec_of KX hcd) (hb _ _ _ _ ?_)
 refine wpAny_newFunctionEnv hc (fun y hy=>by rw [List.mem_singleton.mp hy];exact hl) (fun h₁ hns₁ hsb₁=>?_) S.kind
 have old:∀ b o,s.heap.get? b=some o→h₁.get? b=some o:=fun b o e=>hsb₁.extBut b o (Nat.ne_of_lt (Heap.lt_size e)) (Heap.get?_push_of_some _ e)
 refine ⟨lim.keeps old,codeAny_func ?_⟩
 have henv:newEnv (Zl st) s.heap.objs.size mainGlobals [] (qual++".<locals>.") (some f) cdv none builtinsNs=envOfC qual (Zl st) s.heap.objs.size f cdv:=by unfold newEnv envOfC;rw [hce]
 obtain ⟨t,ht,hq⟩:=hbody cdv A outer s H [v] Q (fun _ _ _=>False) (hr.deeper _) hsp
 have I:Inv (WB ZY P w K mg base [px] qual (Zl st) f cdv A outer s H (fun _ _ _=>False)).nox [] (start [px] [v]) H { s with heap:=h₁,toks:=s.toks+1 }:=by
   have nocell:∀ (y:Str) (c:Addr),¬ (cellsFrom (s.heap.objs.size+1) (Zl st).names []).lookup y=some c:=fun y c z=>by rw [hce] at z;cases z
   refine ⟨⟨e0.mod,S.kind,rfl,rfl,Nat.le_refl _,fun y z c h1 h2=>absurd h1 (nocell y c),fun y hy=>?_,fun y c _ h=>absurd h (nocell y c),fun _=>hr.hd,Around.frames_deeper e0.frames,.inr ⟨rfl,rfl⟩,(fun b z=>nomatch z),e0.bs,e0.bsz,(fun _ _ _ z=>nomatch z),(fun _ z=>nomatch z),e0.funs,e0.frf⟩,
     rfl,e0.bare,Un.kept old,⟨_,hns₁,fun i y z h1 h2 h3=>?_⟩,fun y c h=>absurd h (nocell y c),e0.hok.fresh (Nat.le_refl _),fun y c h=>absurd h (nocell y c),(fun p hp=>nomatch hp),e0.hok.kept old,rfl⟩
   · have hy:(Zl st).names.lookup y=some .cell∨(Zl st).names.lookup y=some .free:=hy
     rcases hy with hy | hy
     · exact absurd rfl (hc _ (PySem.mem_of_lookup hy))
     · exact absurd rfl (S.nofree _ (PySem.mem_of_lookup hy))
   · cases i with
     | zero =>
       cases (show some px=some y from h1)
       cases (show some (some v)=some (some z) from h2)
       exact ⟨u,r,.inl ⟨hl,by show ([(px,u)].reverse).lookup px=some u;simp⟩⟩
     | succ i=>exact absurd h1 (by simp [WB])
 rw [henv]
 refine wpAny_mono (Ue (n:=1) (by show 1≤s.toks+1;omega) (ht [] _ (start [px] [v]) H _ I hq)) (fun fl s' hs=>?_) fun e s' hs=>False.elim hs.2
 obtain ⟨hk,hs⟩:=hs
 have fin:∀ {σ':St} {H':Hp} {v:V} {u:Value},Inv (WB ZY P w K mg base [px] qual (Zl st) f cdv A outer s H (fun _ _ _=>False)).nox [] σ' H' s'→RelV v u→Q v H'→CE outer P w H s Q u s' :=
   fun {σ' H' v u} J rv q=>⟨v,H',J.os,J.bare,J.base,J.hok,rv,q⟩
 cases fl with
 | ret u=>obtain ⟨v,σ',H',J,rv,q⟩:=hs;exact ⟨hk,fin J rv q⟩
 | next=>obtain ⟨σ',H',J,q⟩:=hs;exact ⟨hk,fin (v:=V.non) (u:=Value.none) J rfl q⟩
 | brk=>obtain ⟨_,_,_,q⟩:=hs;exact False.elim q
 | cont=>obtain ⟨_,_,_,q⟩:=hs;exact False.elim q
end
end L2
set_option maxHeartbeats 2000000
namespace L2
open PySem PySem.W PySem.Spec PyProof.Rows
def ZiD (P:Program)(w:World)(K:PySem.W.Frag)(mg:Str→Option Value)(base:Heap)(k:Nat)(x:Str)(px:Str)(sp:Sp):Prop :=
 ∃ f fd,Fn1 P w K mg base k f fd px sp∧Binds K fd [px] []∧PySem.W.keepIn K (.ref f)=true∧mg x=some (.ref f)
def PE3 (X:Cx)(e:Expr)(t:TE):Prop :=
 ∀ (pins:List (Addr×Obj)) (s:Shared) (σ:St) (H:Hp) (Q:VK),Inv X pins σ H s→1≤s.toks→t σ H Q→wpAny (model X.prog X.w) X.A (eval e X.env) (EP X pins σ Q) X.xe s
def PSs3 (X:Cx)(st:List Stmt)(t:TS):Prop :=
 ∀ (pins:List (Addr×Obj)) (s:Shared) (σ:St) (H:Hp) (D:Uc),Inv X pins σ H s→1≤s.toks→t D σ H→wpAny (model X.prog X.w) X.A (execs st X.env) (SP X pins D) X.xe s
theorem PE.three {X:Cx}{e:Expr}{t:TE}(h:PE X e t):PE3 X e t:=fun pins s σ H Q I _ q=>h pins s σ H Q I q
def NBk (K:PySem.W.Frag):Prop:=PySem.W.nsIn K cStatics sharingNotToldKey=some none
theorem ZjS {K:PySem.W.Frag}{h:Heap}{a:Addr}{m:Str→Option Value}{n:Str}(X:K.In h)(G:h.Ns a m)(e:nsIn K a n=some none):m n=none:=by
 obtain ⟨o,es,ep,ho,hd,_,hf⟩:=G
 unfold nsIn at e
 split at e
 · rename_i c d es' n' sl q
   have:=X _ _ q
   rw [ho] at this
   cases this
   simp only at hd
   cases hd
   split at e
   · cases e
   · rename_i z
     rw [← hf];unfold nsFind findBy;rw [← Array.find?_toList,z];rfl
 · cases e
theorem none_of {K:PySem.W.Frag}{h:Heap}(B:NBk K)(X:K.In h)(l:h.NoLimit):NoneBooked h:=by
 obtain ⟨mc,g,_⟩:=l
 exact ⟨mc,g,ZjS X g B⟩
def ZmB (to:TE)(y z:Str):TE:=fun σ H Q=>to σ H fun x H1=>∃ a,x=.str a∧a.length≤4095∧Q (.str (Txt.replace a y z)) H1
section
variable {X:Cx}{o:Expr}{to:TE}{y z:Str}{apos cpos p1 p2:Pos}
theorem Zed {j1 j2}(B:NBk X.K)(hz:z.length≤4095)(ho:PE3 X o to)
   (hbase:attributeBase o "replace" X.env (eval o X.env)=eval o X.env:=by rfl)
   (hfew:((backTo cpos (starEach [.Constant (.str y) j1 p1,.Constant (.str z) j2 p2] X.env)).all (fun x=>!x.1)&&(backToKw cpos (keywordEach [] X.env)).all (fun x=>x.1.isSome)
     && decide (([.Constant (.str y) j1 p1,.Constant (.str z) j2 p2]:List Expr).length+([]:List Keyword).length+(if ([]:List Keyword).isEmpty then 0 else 1) < 30))=true:=by rfl)
   (hline:(apos.endLine == cpos.line)=true:=by rfl) :
   PE3 X (.Call (.Attribute o "replace" apos) [.Constant (.str y) j1 p1,.Constant (.str z) j2 p2] [] cpos) (ZmB to y z):=by
 intro pins s σ H Q I hk h
 refine wpAny_Call_method_late hbase hfew hline rfl (Zp (wpAny_mono (Ue hk (ho pins s σ H _ I hk h)) (fun _ _ q=>q) fun _ _ q=>q.2) fun v s1 ⟨hk1,x,H1,I1,r1,a,ex,ha,q1⟩=>?_)
 subst ex
 obtain ⟨h1,h2⟩:=Zhg (T:="str") I1 r1 rfl
 obtain ⟨t,rfl⟩:=(show ∃ t,v=Value.str a t from r1)
 refine ⟨"str","str.replace",PySem.F.plainAttrs_str,PySem.F.slot_str_replace,PySem.F.type_str_replace,h1,h2,?_⟩
 refine Calls.callWith_builtin rfl (Calls.evalArgs_plain ?_)
 show wpAny _ _ (spliced ((false,eval (.Constant (.str y) j1 p1) X.env)::backTo cpos (starEach [.Constant (.str z) j2 p2] X.env))) _ _ s1
 refine Calls.spliced_cons (wpAny_Constant_str ?_)
 show wpAny _ _ (spliced ((false,eval (.Constant (.str z) j2 p2) X.env)::backTo cpos (starEach [] X.env))) _ _ _
 refine Calls.spliced_cons (wpAny_Constant_str (Calls.spliced_nil ?_))
 have I2:Inv X pins σ H1 { s1 with toks:=s1.toks+1+1 }:=I1.tok _
 have nb:NoneBooked ({ s1 with toks:=s1.toks+1+1 }:Shared).heap:=none_of B I2.kIn I2.nolimit
 refine SC.replaceW2 4095 4095 (by decide) ?_ ?_ ?_ ha hz (fun t' k=>⟨.str (Txt.replace a y z),H1,I2.tok k,⟨_,rfl⟩,q1⟩) nb
 · show s1.toks≠0;omega
 · show s1.toks+1≠0;omega
 · show s1.toks≠s1.toks+1;omega
theorem Zhn {i:Nat}{x:Str}{e:Expr}{te:TE}{pos pos':Pos}{rest:List Stmt}{u:TS}(hN:X.N.Nodup)(hi:X.N[i]?=some x)(hx:Loc X.env.scope x)(he:PE3 X e te)(h2:PSs X rest u)(hs:swapsWith e (some (.Name x pos')) pos.line X.env=pure false:=by rfl)(hf:X.fn x=true∨X.env.scope.names.lookup x=some .local:=by first | exact .inl rfl | exact .inr rfl) :
   PSs3 X (.Assign [.Name x pos'] e pos::rest) (Zfk (ZeX te (UG i)) u):=by
 intro pins s σ H D I hk h
 refine wpAny_execs_cons (wpAny_Assign_Name (Zp (he pins s σ H _ I hk h) fun v s1 ⟨y,H1,I1,r1,q1⟩=>?_) hs)
 exact Xc I1 hN hi hx r1 (fun s2 I2=>h2 pins s2 _ _ D I2 q1) hf
theorem ZjP {k:Nat}{f px:Str}{sp:Sp}{arg:Expr}{te:TE}{body rest:List Stmt}{tb u:TS}{p pos pos2:Pos}(D1:ZiD X.prog X.w X.K X.mg X.base k f px sp)(hr:Room k X.A)(ha:PE X arg te)(hb:PSs X body tb)(h3:PSs3 X rest u)
   (hg:Gl X f:=by rfl) (hdb:(f == ("__debug__":Str))=false:=by decide) (hst:starEach [arg] X.env=(false,eval arg X.env)::starEach [] X.env:=by rfl)
   (hit:∀ whole,isTrue (.Call (.Name f p) [arg] [] pos) X.env whole=(do let v ← whole;standAt (Expr.Call (.Name f p) [arg] [] pos).pos;holding [v] (truthy v)):=by intro _;rfl) :
   PSs X (.If (.Call (.Name f p) [arg] [] pos) body [] pos2::rest) (Zfk (Zjb (tB (Zcm sp [] E0 (Xa te XL))) tb ZeM) u):=by
 obtain ⟨fa,fd,F,hbd,kp,hm⟩:=D1
 intro pins s σ H D I h
 have W:wpAny (model X.prog X.w) X.A (exec (.If (.Call (.Name f p) [arg] [] pos) body [] pos2) X.env) (fun fl s1=>1≤s1.toks∧SP X pins { D with nx:=u D } fl s1) X.xe s:=by
   refine wpAny_If (isTrue_plain ?_ (hit _))
   refine wpAny_Call_Name_kw (Um I hg hm ?_ hdb)
   refine PySem.W.callWith_K (h₀:=X.base) I.ok.mod.kin kp ?_ hst rfl
   rw [hst]
   show wpAny _ _ (spliced ((false,eval arg X.env)::backTo pos (starEach [] X.env))) _ _ s
   refine Calls.spliced_cons (Zp (ha pins s σ H _ I h) fun v s1 ⟨x,H1,I1,r1,q1⟩=>Calls.spliced_nil ⟨I1.kIn,?_⟩)
   refine wpAny_call (codeAny_mono (F X.A X.stack s1 H1 ⟨[v],[]⟩ v x _ hr I1.env0 (hbd s1 [v] I1.kIn rfl) r1 q1) fun r s' hq=>?_)
   cases r with
   | error e=>exact False.elim hq.2
   | ok fl =>
     cases fl with
     | next=>exact False.elim hq.2
     | brk=>exact False.elim hq.2
     | cont=>exact False.elim hq.2
     | ret w2 =>
       obtain ⟨hk,hq⟩:=hq
       obtain ⟨v2,H2,I2,rv,d,e,q⟩:=I1.after hq
       subst e
       cases rv
       refine wpAny_truthy_bool ?_
       cases d with
       | true=>exact wpAny_mono (Ue hk (hb pins s' σ H2 _ I2 q)) (fun _ _ z=>z) fun _ _ z=>z.2
       | false=>exact wpAny_mono (Ue hk (ZE (X:=X) pins s' σ H2 _ I2 q)) (fun _ _ z=>z) fun _ _ z=>z.2
 refine wpAny_execs_cons (Zp W fun fl s1 ⟨hk,q⟩=>?_)
 cases fl with
 | next=>obtain ⟨σ',H',I',q⟩:=q;exact h3 pins s1 σ' H' D I' hk q
 | ret v=>exact q
 | brk=>exact q
 | cont=>exact q
end
end L2
set_option maxHeartbeats 2000000
namespace L2
open PySem
end L2
set_option maxHeartbeats 2000000
namespace L2
open PySem PySem.Spec PyProof.Rows
def Xz (c:Nat)(zs:List Nat)(l:List Nat):List Nat:=l.flatMap fun k=>if k=c then zs else [k]
theorem Zbk (c:Nat)(zs a b:List Nat):Xz c zs (a++b)=Xz c zs a++Xz c zs b:=List.flatMap_append
theorem Zaj (c:Nat)(zs:List Nat):∀ l:List Nat,c ∉ l→Xz c zs l=l
 | [],_=>rfl
 | k::r,h=>by
   have h1:¬ k=c:=fun e=>h (e ▸ List.mem_cons_self ..)
   have ih:=Zaj c zs r fun m=>h (List.mem_cons_of_mem _ m)
   unfold Xz at ih ⊢
   rw [List.flatMap_cons,if_neg h1,ih];rfl
theorem Zdi (c:Nat)(zs:List Nat):∀ parts:List Str,(∀ p∈parts,c ∉ p.cps.toList)→Xz c zs (Str.join ⟨#[c]⟩ parts).cps.toList=(Str.join ⟨zs.toArray⟩ parts).cps.toList
 | [],_=>rfl
 | [p],h=>Zaj c zs _ (h p (List.mem_singleton.mpr rfl))
 | p::q::r,h=>by
   have ih:=Zdi c zs (q::r) fun a ha=>h a (List.mem_cons_of_mem _ ha)
   show Xz c zs (p++⟨#[c]⟩++Str.join ⟨#[c]⟩ (q::r)).cps.toList=(p++⟨zs.toArray⟩++Str.join ⟨zs.toArray⟩ (q::r)).cps.toList
   simp only [Str.cps_append,Array.toList_append]
   rw [Zbk,Zbk,ih,Zaj c zs _ (h p (List.mem_cons_self ..))]
   have:Xz c zs [c]=zs:=by simp [Xz]
   rw [this]
theorem Vc (x:Str)(c:Nat)(zs:List Nat):(Txt.replace x ⟨#[c]⟩ ⟨zs.toArray⟩).cps.toList=Xz c zs x.cps.toList:=by
 rw [StrLaws.replace_one,← Zdi c zs _ (StrLaws.split_free x c),StrLaws.join_split]
def YD (l:List Nat):List Nat:=l.flatMap fun k=>if k=39∨k=92 then [92,k] else [k]
theorem ZdQ:∀ l:List Nat,Xz 39 [92,39] (Xz 92 [92,92] l)=YD l
 | []=>rfl
 | k :: r=>by
   have ih:=ZdQ r
   have e:Xz 92 [92,92] (k::r)=(if k=92 then [92,92] else [k])++Xz 92 [92,92] r:=rfl
   rw [e,Zbk,ih]
   show _=(if k=39∨k=92 then [92,k] else [k])++YD r
   congr 1
   by_cases h:k=92
   · subst h;rfl
   · by_cases h2:k=39
     · subst h2;rfl
     · rw [if_neg h,if_neg (by omega)];simp [Xz,h2]
def ZP:V→Str
 | .int i=>Str.ofString (toString i)
 | .str x=>⟨(39::YD x.cps.toList++[39]).toArray⟩
 | _=>""
theorem ZbA:∀ l:List Nat,(YD l).length≤2 * l.length
 | []=>by decide
 | k::r=>by
   have ih:=ZbA r
   have e:YD (k::r)=(if k=39∨k=92 then [92,k] else [k])++YD r:=rfl
   have h2:(if k=39∨k=92 then [92,k] else [k]).length≤2:=by split<;>simp
   rw [e,List.length_append,List.length_cons]
   omega
theorem Zah (c:Nat)(z:Nat)(w:Nat):∀ l:List Nat,(Xz c [z,w] l).length≤2 * l.length
 | []=>Nat.le_refl _
 | k::r=>by
   have ih:=Zah c z w r
   have e:Xz c [z,w] (k::r)=(if k=c then [z,w] else [k])++Xz c [z,w] r:=rfl
   have h2:(if k=c then [z,w] else [k]).length≤2:=by split<;>simp
   rw [e,List.length_append,List.length_cons]
   omega
section
variable {X:Cx}
end
theorem tj (s:Str)(l:List Str):Txt.join s l=Str.join s l:=by unfold Txt.join;rw [StrLaws.glued_eq_join]
theorem ZbF:∀ zs:List Str,(Str.join "" zs).cps.toList=zs.flatMap fun z=>z.cps.toList
 | []=>rfl
 | [z]=>by show z.cps.toList=_;simp
 | p::q::r=>by
   have ih:=ZbF (q::r)
   show (p++(Str.ofString "")++Str.join "" (q::r)).cps.toList=_
   simp only [Str.cps_append,Array.toList_append]
   rw [ih]
   show p.cps.toList++[]++_=p.cps.toList++_
   rw [List.append_nil];rfl
theorem ZiK (zs:List Str):(Txt.join "" zs).cps.toList=zs.flatMap fun z=>z.cps.toList:=by rw [tj];exact ZbF zs
def Vk (c:Nat):Str:=⟨(if c=39∨c=92 then [92,c] else [c]).toArray⟩
theorem Zcb (l:List Nat):(Txt.join "" (l.map Vk)).cps.toList=YD l:=by
 rw [ZiK,List.flatMap_map];rfl
theorem Zja (c:Nat):Txt.mul "\\" (if (if false = true then !Xd (.str ⟨#[c]⟩) [.str "'", .str "\\"] else Xd (.str ⟨#[c]⟩) [.str "'", .str "\\"])=true then 1 else 0)++(⟨#[c]⟩:Str)=Vk c:=by
 have e:Xd (.str ⟨#[c]⟩) [.str "'",.str "\\"]=decide (c=39∨c=92):=by
   have h1:Wv (.str "'") (.str ⟨#[c]⟩)=decide (c=39):=by
     show decide ((Str.ofString "'")=(⟨#[c]⟩:Str))=_
     by_cases h:c=39
     · subst h;rw [decide_eq_true rfl,decide_eq_true (by decide +kernel)]
     · rw [decide_eq_false h,decide_eq_false fun z=>h (by have:=congrArg (fun s:Str=>s.cps.toList) z;simpa [show (Str.ofString "'").cps.toList=[39] by decide +kernel] using this.symm)]
   have h2:Wv (.str "\\") (.str ⟨#[c]⟩)=decide (c=92):=by
     show decide ((Str.ofString "\\")=(⟨#[c]⟩:Str))=_
     by_cases h:c=92
     · subst h;rw [decide_eq_true rfl,decide_eq_true (by decide +kernel)]
     · rw [decide_eq_false h,decide_eq_false fun z=>h (by have:=congrArg (fun s:Str=>s.cps.toList) z;simpa [show (Str.ofString "\\").cps.toList=[92] by decide +kernel] using this.symm)]
   unfold Xd
   rw [List.any_cons,List.any_cons,List.any_nil,h1,h2,Bool.or_false]
   by_cases a:c=39<;>by_cases b:c=92<;>simp [a,b]
 rw [e,if_neg (show ¬ (false=true) by decide)]
 unfold Vk
 by_cases h:c=39∨c=92
 · rw [decide_eq_true h,if_pos rfl,if_pos h]
   apply ZR
   simp only [Str.cps_append,Array.toList_append]
   show (Str.ofString "\\").cps.toList++[c]=[92,c]
   rw [show (Str.ofString "\\").cps.toList=[92] by decide +kernel];rfl
 · rw [decide_eq_false h,if_neg (by decide),if_neg h]
   apply ZR
   simp only [Str.cps_append,Array.toList_append]
   show []++[c]=[c]
   rfl
theorem ZmV (b:Bool):MulOk "\\" (if b=true then 1 else 0):=by
 cases b
 · exact ⟨by decide,fun h=>absurd (by decide) h,fun h=>absurd (by decide) h⟩
 · exact ⟨by decide,(fun _ h=>absurd h (by decide)),fun _ h=>absurd h (by decide)⟩
theorem Zlh (b:Bool):(Txt.mul "\\" (if b=true then 1 else 0)).length≤1:=by cases b<;>decide +kernel
theorem Ziw (c:Nat):(Vk c).length≤2:=by
 show (if c=39∨c=92 then [92,c] else [c]).toArray.size≤2
 split<;>simp
theorem Zdd:∀ l:List Nat,((l.map Vk).map (·.length)).sum≤2 * l.length
 | []=>by decide
 | c::r=>by
   have h1:=Zdd r
   have h2:=Ziw c
   rw [List.map_cons,List.map_cons,List.sum_cons,List.length_cons];omega
theorem ZhB (x:Str):(Str.ofString "'"++Txt.join "" (x.cps.toList.map Vk))++Str.ofString "'"=ZP (.str x):=by
 apply ZR
 simp only [Str.cps_append,Array.toList_append]
 rw [Zcb,show (Str.ofString "'").cps.toList=[39] by decide +kernel];rfl
theorem Zgw (x:Str):(Str.ofString "'"++Txt.replace (Txt.replace x "\\" "\\\\") "'" "\\'") ++ Str.ofString "'"=ZP (.str x):=by
 apply ZR
 simp only [Str.cps_append,Array.toList_append]
 have e1:(Str.ofString "\\")=⟨#[92]⟩:=by decide +kernel
 have e2:(Str.ofString "\\\\")=⟨([92,92]:List Nat).toArray⟩:=by decide +kernel
 have e3:(Str.ofString "'")=⟨#[39]⟩:=by decide +kernel
 have e4:(Str.ofString "\\'")=⟨([92,39]:List Nat).toArray⟩:=by decide +kernel
 rw [e1,e2,e3,e4,Vc,Vc,ZdQ];rfl
theorem ZhV (x:Str):(Txt.replace x "\\" "\\\\").length≤2 * x.length:=by
 have e1:(Str.ofString "\\")=⟨#[92]⟩:=by decide +kernel
 have e2:(Str.ofString "\\\\")=⟨([92,92]:List Nat).toArray⟩:=by decide +kernel
 rw [e1,e2]
 have:=Zah 92 92 92 x.cps.toList
 rw [← Vc] at this
 show (Txt.replace x _ _).cps.size≤2 * x.cps.size
 rw [← Array.length_toList,← Array.length_toList];exact this
theorem Zar {v:V}(h:IsVal v):(ZP v).length≤100:=by
 cases v with
 | int i=>exact Nat.le_trans (Zbq (IsVal.b31 h)).2 (by decide)
 | str x =>
   have:=ZbA x.cps.toList
   have h1:x.cps.toList.length≤40:=by rw [Array.length_toList];exact h.1
   show (39::YD x.cps.toList++[39]).toArray.size≤100
   simp;omega
 | _=>exact h.elim
theorem Zy (x y:Str):(x++y).length=x.length+y.length:=by
 show (x.cps++y.cps).size=_
 rw [Array.size_append];rfl
end L2
set_option maxHeartbeats 2000000
namespace L2
open PySem PySem.Spec PyProof.Rows
section
variable {prog:Program}{w:World}{A:Around}{E:Value→Shared→Prop}{s:Shared}
theorem WK {i t:Addr}{k:Nat}{its:Array Value}{x:Value}{Q:Value→Shared→Prop}(hi:s.heap.IsTupleIter i t k)(ht:s.heap.IsTuple t its)(hx:its[k]?=some x)
   (q:∀ h',h'.IsTupleIter i t (k+1)→Heap.SameBut i s.heap h'→Q x { s with heap:=h' }):wpAny (model prog w) A (Builtin.SmallTypes.nextOf (.ref i)) Q E s:=by
 obtain ⟨o,eo,oc,od⟩:=id hi
 obtain ⟨u,eu,_,n,du⟩:=ht
 unfold Builtin.SmallTypes.nextOf
 refine wpAny_bind (wpAny_callSpecial?_slot (name:=Str.ofString "__next__") hi.typeIs F.slot_tuple_iterator_next (wpAny_call_entry F.slot_tuple_iterator_next hi.typeIs F.entry_tuple_iterator_next ?_ (F.args_tuple_iterator_next_1 _)))
 refine wpAny_bind (m:=field (.ref i) 0) (wpAny_field eo od (x:=.ref t) rfl ?_)
 show wpAny _ _ (if (Value.ref t == Value.none)=true then _ else _) _ _ s
 rw [if_neg (by exact Bool.false_ne_true)]
 refine wpAny_bind (m:=field (.ref i) 1) (wpAny_field eo od (x:=.int k 0) rfl ?_)
 refine wpAny_bind (m:=seqItems? (.ref t)) (wpAny_seqItems eu du ?_)
 simp only [Int.toNat_natCast,hx]
 exact wpAny_bind (wpAny_setField eo od (by simp) (wpAny_pure ⟨x,rfl,wpAny_pure (q _ ⟨_,Heap.get?_update_self _ eo (Obj.isFreed_of_fields (Obj.data_mapFields od _)),(Obj.cls_mapFields ..).trans oc,by rw [Obj.data_mapFields od];simp [rawInt]⟩ (Heap.SameBut.update ..))⟩))
theorem ZaD {i t:Addr}{k:Nat}{its:Array Value}{Q:Value→Shared→Prop}(hh:A.handled=none)(hi:s.heap.IsTupleIter i t k)(ht:s.heap.IsTuple t its)(hx:its[k]?=none)
   (q:∀ h' e,Heap.ExtBut i s.heap h'→(∃ o,h'.get? e=some o∧o.cls=.type "StopIteration")→E (.ref e) { s with heap:=h' }):wpAny (model prog w) A (Builtin.SmallTypes.nextOf (.ref i)) Q E s:=by
 obtain ⟨o,eo,oc,od⟩:=id hi
 obtain ⟨u,eu,_,n,du⟩:=ht
 unfold Builtin.SmallTypes.nextOf
 refine wpAny_bind (wpAny_callSpecial?_slot (name:=Str.ofString "__next__") hi.typeIs F.slot_tuple_iterator_next (wpAny_call_entry F.slot_tuple_iterator_next hi.typeIs F.entry_tuple_iterator_next ?_ (F.args_tuple_iterator_next_1 _)))
 refine wpAny_bind (m:=field (.ref i) 0) (wpAny_field eo od (x:=.ref t) rfl ?_)
 show wpAny _ _ (if (Value.ref t == Value.none)=true then _ else _) _ _ s
 rw [if_neg (by exact Bool.false_ne_true)]
 refine wpAny_bind (m:=field (.ref i) 1) (wpAny_field eo od (x:=.int k 0) rfl ?_)
 refine wpAny_bind (m:=seqItems? (.ref t)) (wpAny_seqItems eu du ?_)
 simp only [Int.toNat_natCast,hx]
 refine wpAny_bind (wpAny_rule (wpAny_bind (wpAny_setField eo od (by simp) ?_)))
 refine wpAny_bind (m:=newExc (.type "StopIteration") []) ?_
 simp only [newExc,newTuple]
 refine wpAny_bind (wpAny_newObj_type ?_ (by size_fits))
 refine wpAny_bind (m:=firstArgMember _ _) (wpAny_of_eq (a:=Value.none) (by first | rfl | (simp only [firstArgMember];rfl)) ?_)
 refine wpAny_newObj_type ?_ (by size_fits)
 simp only [raiseNew]
 refine wpAny_bind (wpAny_handled ?_)
 first | rw [show A.in1.handled=none from hh] | rw [hh]
 exact wpAny_bind (wpAny_pure (wpAny_throw (q _ _ (((Heap.SameBut.update ..).extBut.push _).push _) ⟨_,Heap.get?_push_size _ rfl,rfl⟩)))
theorem Zix {z TI TO i1 i2 l1 l2:Addr}{k:Nat}{xs ys:Array Value}{x y a b:Value}{Q:Option Value→Shared→Prop}(D:ZipApart z TI TO i1 i2 l1 l2)(hz:IsZip s.heap z TI TO .none)(hTI:IsPair s.heap TI (.ref i1) (.ref i2))(hTO:IsPair s.heap TO a b)
   (h1:s.heap.IsTupleIter i1 l1 k) (h2:s.heap.IsTupleIter i2 l2 k) (t1:s.heap.IsTuple l1 xs) (t2:s.heap.IsTuple l2 ys) (hx:xs[k]?=some x) (hy:ys[k]?=some y)
   (q:∀ h',IsZip h' z TI TO (rawInt s.heap.objs.size)→IsPair h' TO x y→h'.IsTupleIter i1 l1 (k+1)→h'.IsTupleIter i2 l2 (k+1)→IsPair h' s.heap.objs.size x y→h'.objs.size=s.heap.objs.size+1 →
     (∀ c o,c≠z→c≠TO→c≠i1→c≠i2→s.heap.get? c=some o→h'.get? c=some o)→Q (some (.ref s.heap.objs.size)) { s with heap:=h' }):wpAny (model prog w) A (pyNext (.ref z)) Q E s:=by
 have hT:s.TypeIs (.ref z) "zip":=⟨_,hz,rfl⟩
 unfold pyNext
 refine wpAny_bind (wpAny_attempt (wpAny_callSpecial?_slot (name:=Str.ofString "__next__") hT F.slot_zip_next (wpAny_call_entry F.slot_zip_next hT F.entry_zip_next ?_ (F.args_zip_next_1 _))))
 refine wpAny_bind (m:=field (.ref z) 2) (wpAny_field hz rfl (x:=.bool false) rfl ?_)
 refine wpAny_bind (m:=field (.ref z) 3) (wpAny_field hz rfl (x:=.ref TI) rfl ?_)
 refine wpAny_bind (wpAny_seqItems hTI rfl ?_)
 refine wpAny_bind (m:=Builtin.SmallTypes.ownedTupleIsFree (.ref z)) ?_
 unfold Builtin.SmallTypes.ownedTupleIsFree
 refine wpAny_bind (wpAny_field hz rfl (x:=.none) rfl (wpAny_pure ?_))
 simp only [if_true]
 refine wpAny_bind (wpAny_rule ?_)
 refine wpAny_bind (wpAny_field hz rfl (x:=.ref TO) rfl ?_)
 refine wpAny_bind (wpAny_setField_rec hz (by simp) fun ha hza sa=>?_)
 replace hza:IsZip ha z TI TO .ellipsis:=hza
 refine wpAny_bind ?_
 simp only [List.zipIdx_cons,List.zipIdx_nil,List.forIn_cons,List.forIn_nil]
 have Ea:=sa.extBut
 refine wpAny_bind (wpAny_bind (wpAny_onRaise ?_))
 refine wpAny_bind (m:=Builtin.SmallTypes.nextOf (.ref i1)) (WK (h1.extBut Ea D.i1z) (t1.extBut Ea D.l1z) hx fun hb i1b sb=>wpAny_pure ?_)
 have Eb:=sb.extBut
 have TOb:IsPair hb TO a b:=Eb _ _ D.TOi1 (Ea _ _ D.TOz hTO)
 refine wpAny_bind (wpAny_seqItems TOb rfl ?_)
 refine wpAny_bind (wpAny_updateSeq_pair TOb fun hc TOc sc=>?_)
 replace TOc:IsPair hc TO x b:=TOc
 have Ec:=sc.extBut
 refine wpAny_bind (wpAny_letGo (wpAny_pure ?_))
 refine wpAny_bind (wpAny_bind (wpAny_onRaise ?_))
 refine wpAny_bind (m:=Builtin.SmallTypes.nextOf (.ref i2)) (WK (((h2.extBut Ea D.i2z).extBut Eb D.i12.symm).extBut Ec D.TOi2.symm) (((t2.extBut Ea D.l2z).extBut Eb D.l2i1).extBut Ec D.l2TO) hy fun hd i2d sd=>wpAny_pure ?_)
 have Ed:=sd.extBut
 have TOd:IsPair hd TO x b:=Ed _ _ D.TOi2 TOc
 refine wpAny_bind (wpAny_seqItems TOd rfl ?_)
 refine wpAny_bind (wpAny_updateSeq_pair TOd fun he TOe se=>?_)
 replace TOe:IsPair he TO x y:=TOe
 have Ee:=se.extBut
 refine wpAny_bind (wpAny_letGo (wpAny_pure (wpAny_pure ?_)))
 refine wpAny_bind (wpAny_seqItems TOe rfl ?_)
 refine wpAny_bind (wpAny_newTuple ?_)
 have hsz:he.objs.size=s.heap.objs.size:=by rw [se.1,sd.1,sc.1,sb.1,sa.1]
 have all:∀ c o,c≠z→c≠TO→c≠i1→c≠i2→s.heap.get? c=some o→he.get? c=some o:=fun c o c1 c2 c3 c4 e=>Ee _ _ c2 (Ed _ _ c4 (Ec _ _ c2 (Eb _ _ c3 (Ea _ _ c1 e))))
 have ze:IsZip he z TI TO .ellipsis:=Ee _ _ D.TOz.symm (Ed _ _ D.i2z.symm (Ec _ _ D.TOz.symm (Eb _ _ D.i1z.symm hza)))
 have i1e:he.IsTupleIter i1 l1 (k+1):=((i1b.extBut Ec D.TOi1.symm).extBut Ed D.i12).extBut Ee D.TOi1.symm
 have i2e:he.IsTupleIter i2 l2 (k+1):=i2d.extBut Ee D.TOi2.symm
 have zl:z < he.objs.size:=Heap.lt_size ze
 refine wpAny_bind (m:=Builtin.SmallTypes.ownedTupleHandOut (.ref z) (.ref he.objs.size)) ?_
 unfold Builtin.SmallTypes.ownedTupleHandOut
 refine wpAny_bind (wpAny_setField_rec (show IsZip (he.push { cls:=.type "tuple",data:=.seq #[x,y] }) z TI TO .ellipsis from Heap.get?_push_of_some _ ze) (by simp) fun hf zf sf=>?_)
 replace zf:IsZip hf z TI TO (rawInt he.objs.size):=zf
 refine wpAny_setField_rec zf (by simp) fun hg zg sg=>?_
 replace zg:IsZip hg z TI TO (rawInt he.objs.size):=zg
 have up:∀ c o,c≠z→he.get? c=some o→hg.get? c=some o:=fun c o c1 e=>sg.extBut _ _ c1 (sf.extBut _ _ c1 (Heap.get?_push_of_some _ e))
 have new:IsPair hg he.objs.size x y:=sg.extBut _ _ (Nat.ne_of_gt zl) (sf.extBut _ _ (Nat.ne_of_gt zl) (Heap.get?_push_size _ rfl))
 have sz:hg.objs.size=he.objs.size+1:=by rw [sg.1,sf.1,Heap.size_push]
 rw [hsz] at zg new sz
 refine wpAny_pure ⟨_,rfl,?_⟩
 show wpAny _ _ (pure (some (Value.ref he.objs.size))) _ _ _
 rw [hsz]
 refine wpAny_pure (q hg zg (up _ _ D.TOz TOe) ?_ ?_ new sz fun c o c1 c2 c3 c4 e=>up c o c1 (all c o c1 c2 c3 c4 e))
 · obtain ⟨o,eo,r⟩:=i1e;exact ⟨o,up _ _ D.i1z eo,r⟩
 · obtain ⟨o,eo,r⟩:=i2e;exact ⟨o,up _ _ D.i2z eo,r⟩
theorem Zky {z TI TO i1 i2 l1 l2:Addr}{k:Nat}{xs:Array Value}{a b:Value}{Q:Option Value→Shared→Prop}(hh:A.handled=none)(D:ZipApart z TI TO i1 i2 l1 l2)(hz:IsZip s.heap z TI TO .none)(hTI:IsPair s.heap TI (.ref i1) (.ref i2))(hTO:IsPair s.heap TO a b)
   (h1:s.heap.IsTupleIter i1 l1 k) (t1:s.heap.IsTuple l1 xs) (hx:xs[k]?=none)
   (q:∀ h',(∀ c o,c≠z→c≠TO→c≠i1→c≠i2→s.heap.get? c=some o→h'.get? c=some o)→Q none { s with heap:=h' }):wpAny (model prog w) A (pyNext (.ref z)) Q E s:=by
 have hT:s.TypeIs (.ref z) "zip":=⟨_,hz,rfl⟩
 unfold pyNext
 refine wpAny_bind (wpAny_attempt (wpAny_callSpecial?_slot (name:=Str.ofString "__next__") hT F.slot_zip_next (wpAny_call_entry F.slot_zip_next hT F.entry_zip_next ?_ (F.args_zip_next_1 _))))
 refine wpAny_bind (m:=field (.ref z) 2) (wpAny_field hz rfl (x:=.bool false) rfl ?_)
 refine wpAny_bind (m:=field (.ref z) 3) (wpAny_field hz rfl (x:=.ref TI) rfl ?_)
 refine wpAny_bind (wpAny_seqItems hTI rfl ?_)
 refine wpAny_bind (m:=Builtin.SmallTypes.ownedTupleIsFree (.ref z)) ?_
 unfold Builtin.SmallTypes.ownedTupleIsFree
 refine wpAny_bind (wpAny_field hz rfl (x:=.none) rfl (wpAny_pure ?_))
 simp only [if_true]
 refine wpAny_bind (wpAny_rule ?_)
 refine wpAny_bind (wpAny_field hz rfl (x:=.ref TO) rfl ?_)
 refine wpAny_bind (wpAny_setField_rec hz (by simp) fun ha hza sa=>?_)
 replace hza:IsZip ha z TI TO .ellipsis:=hza
 refine wpAny_bind ?_
 simp only [List.zipIdx_cons,List.zipIdx_nil,List.forIn_cons,List.forIn_nil]
 refine wpAny_bind (wpAny_bind (wpAny_onRaise ?_))
 refine wpAny_bind (m:=Builtin.SmallTypes.nextOf (.ref i1)) (ZaD hh (h1.extBut sa.extBut D.i1z) (t1.extBut sa.extBut D.l1z) hx fun hb e Eb he=>?_)
 obtain ⟨oe,eoe,ce⟩:=he
 have zb:IsZip hb z TI TO .ellipsis:=Eb _ _ D.i1z.symm hza
 have ez:e≠z:=fun x=>by subst x;rw [zb] at eoe;cases eoe;simp at ce
 refine wpAny_setField_rec zb (by simp) fun hc _ sc=>?_
 refine wpAny_bind (wpAny_isInstance (T:="StopIteration") (b:=true) ⟨oe,sc.extBut _ _ ez eoe,ce⟩ isSubtype_stop ?_)
 exact wpAny_pure (q _ fun c o c1 _ c3 _ x=>sc.extBut _ _ c1 (Eb _ _ c3 (sa.extBut _ _ c1 x)))
end
abbrev ZT (l:Addr):Obj:={ cls:=.type "tuple_iterator",data:=.fields #[.ref l,.int 0 0] }
abbrev ZbC (h:Heap)(l1 l2:Addr):Heap:=((((h.push (ZT l1)).push (ZT l2)).push { cls:=.type "tuple",data:=.seq #[.ref h.objs.size,.ref (h.push (ZT l1)).objs.size] }).push { cls:=.type "tuple",data:=.seq #[.none,.none] })
theorem ZjM (l1 l2:Addr)(xs ys:Array Value):Meets (Builtin.«zip.__new__» ⟨[.type "zip",.ref l1,.ref l2],[]⟩) (fun _ R s=>s.heap.IsTuple l1 xs∧s.heap.IsTuple l2 ys ∧
     R (.ok (.ret (.ref (ZbC s.heap l1 l2).objs.size))) { s with heap:=(ZbC s.heap l1 l2).push { cls:=.type "zip",data:=.fields #[.none,.bool false,.bool false,.ref ((s.heap.push (ZT l1)).push (ZT l2)).objs.size,.ref (((s.heap.push (ZT l1)).push (ZT l2)).push { cls:=.type "tuple",data:=.seq #[.ref s.heap.objs.size,.ref (s.heap.push (ZT l1)).objs.size] }).objs.size] } }) :=
 .of_wp fun prog w A R s h=>by
   obtain ⟨hp,g,d,tk,os⟩:=s;obtain ⟨hl1,hl2,h⟩:=h
   have hsub:=sub_zip
   have hL1:Heap.IsTuple (Shared.heap ⟨hp,g,d,tk,os⟩) l1 xs:=hl1
   have hL2:Heap.IsTuple (Shared.heap ⟨hp.push (ZT l1),g,d,tk,os⟩) l2 ys:=Heap.IsTuple.push hl2 _
   wp_walk using wpAny_pyIter_tuple hL1,wpAny_pyIter_tuple hL2
   exact ⟨_,rfl,h⟩
section
variable {prog:Program}{w:World}{A:Around}{E:Value→Shared→Prop}{s:Shared}
theorem ZhJ {l1 l2:Addr}{xs ys:Array Value}{Q:Value→Shared→Prop}(hl1:s.heap.IsTuple l1 xs)(hl2:s.heap.IsTuple l2 ys)
   (h:∀ h',IsZip h' (s.heap.objs.size+4) (s.heap.objs.size+2) (s.heap.objs.size+3) .none→IsPair h' (s.heap.objs.size+2) (.ref s.heap.objs.size) (.ref (s.heap.objs.size+1)) →
     IsPair h' (s.heap.objs.size+3) .none .none→h'.IsTupleIter s.heap.objs.size l1 0→h'.IsTupleIter (s.heap.objs.size+1) l2 0→h'.objs.size=s.heap.objs.size+5 →
     (∀ c o,s.heap.get? c=some o→h'.get? c=some o)→Q (.ref (s.heap.objs.size+4)) { s with heap:=h' }):wpAny (model prog w) A (call (.type "zip") [.ref l1,.ref l2]) Q E s:=by
 refine callType_new F.called_zip (by decide) (F.typeCall_zip_2 _ _) (F.newCall_zip_2 _ _) (fun obj=>F.args_object_init_3 obj _ _) F.entry_zip_new (ZjM l1 l2 xs ys) ⟨hl1,hl2,?_⟩
 have z1:(s.heap.push (ZT l1)).objs.size=s.heap.objs.size+1:=Heap.size_push ..
 have z2:((s.heap.push (ZT l1)).push (ZT l2)).objs.size=s.heap.objs.size+2:=by rw [Heap.size_push,z1]
 have z3:(((s.heap.push (ZT l1)).push (ZT l2)).push { cls:=.type "tuple",data:=.seq #[.ref s.heap.objs.size,.ref (s.heap.push (ZT l1)).objs.size] }).objs.size=s.heap.objs.size+3:=by rw [Heap.size_push,z2]
 have z4:(ZbC s.heap l1 l2).objs.size=s.heap.objs.size+4:=by rw [Heap.size_push,z3]
 show _∧_
 rw [z4,z3,z2]
 have up:∀ {h:Heap} {o:Obj} {c:Addr} {u:Obj},h.get? c=some u→(h.push o).get? c=some u:=fun e=>Heap.get?_push_of_some _ e
 have g5:((ZbC s.heap l1 l2).push { cls:=.type "zip",data:=.fields #[.none,.bool false,.bool false,.ref (s.heap.objs.size+2),.ref (s.heap.objs.size+3)] }).get? (ZbC s.heap l1 l2).objs.size=some _:=Heap.get?_push_size _ rfl
 have g4:(ZbC s.heap l1 l2).get? _=some _:=Heap.get?_push_size _ rfl
 have g3:(((s.heap.push (ZT l1)).push (ZT l2)).push { cls:=.type "tuple",data:=.seq #[.ref s.heap.objs.size,.ref (s.heap.push (ZT l1)).objs.size] }).get? _=some _:=Heap.get?_push_size _ rfl
 have g2:((s.heap.push (ZT l1)).push (ZT l2)).get? _=some _:=Heap.get?_push_size _ rfl
 have g1:(s.heap.push (ZT l1)).get? _=some _:=Heap.get?_push_size _ rfl
 rw [z4] at g5
 rw [z3] at g4
 rw [z2] at g3
 rw [z1] at g2
 conv at g3=>rhs;rw [z1]
 exact ⟨⟨_,g5,rfl⟩,h _ g5 (up (up g3)) (up g4) ⟨_,up (up (up (up g1))),rfl,rfl⟩ ⟨_,up (up (up g2)),rfl,rfl⟩ (by rw [Heap.size_push,z4]) fun c o x=>up (up (up (up (up x))))⟩
end
def Zfp (K:PySem.W.Frag)(l1 l2:Addr):It :=
 ⟨fun i H=>∃ xs ys x y,SqT K H l1 xs∧SqT K H l2 ys∧xs[i]?=some x∧ys[i]?=some y,
  fun i H v H'=>∃ t x y,H t=none∧(∀ xs,SqT K H l1 xs→xs[i]?=some x)∧(∀ ys,SqT K H l2 ys→ys[i]?=some y)∧v=.ref t∧H'=upd H t (.tup [x,y]),
  fun i H=>∃ xs ys,SqT K H l1 xs∧SqT K H l2 ys∧xs.length≤i⟩
theorem Zgv {P:Program}{w:World}{K:PySem.W.Frag}{elts:List Expr}{x1:Nat}{tp:Pos}{z TI TO i1 i2 l1 l2:Addr}(D:ZipApart z TI TO i1 i2 l1 l2)(hTl1:l1≠TI)(hTl2:l2≠TI) :
   WE P w K (.Tuple elts x1 tp) (Zfp K l1 l2) [z,TI,TO,i1,i2] z (fun i h=>IsZip h z TI TO .none∧IsPair h TI (.ref i1) (.ref i2)∧(∃ a b,IsPair h TO a b)∧h.IsTupleIter i1 l1 i∧h.IsTupleIter i2 l2 i) where
 mem:=by simp
 obj:=fun i h st b hb=>by
   obtain ⟨hz,hTI,⟨a,c,hTO⟩,⟨o1,ho1,c1,d1⟩,⟨o2,ho2,c2,d2⟩⟩:=st
   simp only [List.mem_cons,List.not_mem_nil,or_false] at hb
   rcases hb with q | q | q | q | q
   · rw [q];exact ⟨_,hz,fun v z=>by cases z⟩
   · rw [q];exact ⟨_,hTI,fun v z=>by cases z⟩
   · rw [q];exact ⟨_,hTO,fun v z=>by cases z⟩
   · rw [q];exact ⟨o1,ho1,fun v z=>by rw [d1] at z;cases z⟩
   · rw [q];exact ⟨o2,ho2,fun v z=>by rw [d2] at z;cases z⟩
 keep:=fun i h h' st k=>by
   obtain ⟨hz,hTI,⟨a,c,hTO⟩,h1,h2⟩:=st
   exact ⟨k z (by simp) _ hz,k TI (by simp) _ hTI,⟨a,c,k TO (by simp) _ hTO⟩,h1.at fun o y=>k i1 (by simp) o y,h2.at fun o y=>k i2 (by simp) o y⟩
 item:=by
   intro X hP hw hK hc i pins s σ H E I hf st hg
   subst hP hw hK
   obtain ⟨hz,hTI,⟨a,b,hTO⟩,h1,h2⟩:=st
   obtain ⟨xs,ys,x,y,hq1,hq2,hx,hy⟩:=hg
   obtain ⟨its1,rv1,p1,hz1⟩:=I.tuple hq1
   obtain ⟨its2,rv2,p2,hz2⟩:=I.tuple hq2
   obtain ⟨u1,hu1,ru1⟩:=rv1.get hx
   obtain ⟨u2,hu2,ru2⟩:=rv2.get hy
   refine Zix D hz hTI hTO h1 h2 p1 p2 (by simpa using hu1) (by simpa using hu2) fun h' g1 g2 g3 g4 g5 g6 g7=>?_
   refine ⟨_,rfl,wpAny_letOwnedTupleGo_zip g1 fun h2' g1' hs2=>?_⟩
   have hzl:z < s.heap.objs.size:=Heap.lt_size hz
   have hTIl:TI < s.heap.objs.size:=Heap.lt_size hTI
   have hTOl:TO < s.heap.objs.size:=Heap.lt_size hTO
   have hi1l:i1 < s.heap.objs.size:=by obtain ⟨o,ho,_⟩:=h1;exact Heap.lt_size ho
   have hi2l:i2 < s.heap.objs.size:=by obtain ⟨o,ho,_⟩:=h2;exact Heap.lt_size ho
   have g5':h'.get? s.heap.objs.size=some ({ cls:=.type "tuple",data:=.seq #[u1,u2] }:Obj):=g5
   generalize hO:({ cls:=.type "tuple",data:=.seq #[u1,u2] }:Obj)=O at g5'
   have I1:Inv X pins σ (upd H s.heap.objs.size (.tup [x,y])) { s with heap:=s.heap.push O,toks:=s.toks }:=by
     refine I.laid (t':=s.toks) (fun b o y=>Heap.get?_push_of_some _ y) (Nat.le_refl _) (show ObjOk X.prog X.w _ _ _ (.tup _) from ⟨by show 2≤sizeLine;decide,[u1,u2],.cons ru1 (.cons ru2 .nil),?_⟩)
     rw [← hO];exact IsTup.new _ _
   have hfree:=I.hok.fresh (Nat.le_refl s.heap.objs.size)
   have hf2:∀ b∈[z,TI,TO,i1,i2],YC X pins (upd H s.heap.objs.size (.tup [x,y])) b:=fun b hb=>by
     obtain ⟨f0,f1⟩:=hf b hb
     have hb':b≠s.heap.objs.size:=by
       simp only [List.mem_cons,List.not_mem_nil,or_false] at hb
       rcases hb with q | q | q | q | q<;>(rw [q];exact Nat.ne_of_lt (by assumption))
     exact ⟨by rw [Zm hb'];exact f0,f1⟩
   have I2:Inv X pins σ (upd H s.heap.objs.size (.tup [x,y])) { s with heap:=h2',toks:=s.toks }:=by
     refine I1.turned2 (t':=s.toks) (h':=h2') (fun b o hb y=>?_) hf2
     have n1:b≠z:=fun q=>hb (by simp [q])
     have n2:b≠TO:=fun q=>hb (by simp [q])
     have n3:b≠i1:=fun q=>hb (by simp [q])
     have n4:b≠i2:=fun q=>hb (by simp [q])
     rw [hs2.2 b n1]
     rcases Heap.get?_push_cases y with ⟨q1,q2⟩ | y
     · rw [q1,q2];exact g5'
     · exact g7 b o n1 n2 n3 n4 y
   refine ⟨.ref s.heap.objs.size,_,I2,rfl,⟨s.heap.objs.size,x,y,hfree,fun ys hy'=>by rw [I.tuple_inj hy' hq1];exact hx,fun ys' hy'=>by rw [I.tuple_inj hy' hq2];exact hy,rfl,rfl⟩,⟨g1',?_,⟨u1,u2,?_⟩,?_,?_⟩,fun b hb=>(hf2 b hb).1⟩
   · show h2'.get? TI=_
     rw [hs2.2 TI D.TIz];exact g7 TI _ D.TIz D.TITO D.TIi1 D.TIi2 hTI
   · show h2'.get? TO=_
     rw [hs2.2 TO D.TOz];exact g2
   · exact g3.at fun o y=>by rw [hs2.2 i1 D.i1z];exact y
   · exact g4.at fun o y=>by rw [hs2.2 i2 D.i2z];exact y
 done:=by
   intro X hP hw hK hc i pins s σ H E I hf st hg
   subst hP hw hK
   obtain ⟨hz,hTI,⟨a,b,hTO⟩,h1,h2⟩:=st
   obtain ⟨xs,ys,hq1,hq2,hle⟩:=hg
   obtain ⟨its1,rv1,p1,hz1⟩:=I.tuple hq1
   obtain ⟨its2,rv2,p2,hz2⟩:=I.tuple hq2
   have l1:=rv1.length
   have l2:=rv2.length
   exact Zky (I.ok.hd hc) D hz hTI hTO h1 p1 (Array.getElem?_eq_none (by simp;omega)) fun h' eb=>⟨rfl,I.turned2 (t':=s.toks) (fp:=[z,TI,TO,i1,i2]) (fun b o hb y=>eb b o (fun q=>hb (by simp [q])) (fun q=>hb (by simp [q])) (fun q=>hb (by simp [q])) (fun q=>hb (by simp [q])) y) hf⟩
 self:=fun _ _ _ _ _ st h=>wpAny_pyIter_zip st.1 h
def Znc (K:PySem.W.Frag)(ta tb:TE):TI:=fun σ H R=>ta σ H fun v H1=>tb σ H1 fun u H2=>∃ a b xs ys,[v,u]=[V.ref a,V.ref b]∧SqT K H2 a xs∧SqT K H2 b ys∧R (Zfp K a b) H2
section
variable {X:Cx}
theorem Zkt {l m:Expr}{ta tb:TE}{elts:List Expr}{x1:Nat}{tp p pos:Pos}(hg:Gl X "zip")(hm:X.mg "zip"=none)(hl:PE X l ta)(hr:PE X m tb)
   (he:starEach [l,m] X.env=(false,eval l X.env)::starEach [m] X.env:=by rfl) (he2:starEach [m] X.env=[(false,eval m X.env)]:=by rfl) (hpl:(backTo pos (starEach [m] X.env)).any (·.1)=false:=by rfl):PI X (.Tuple elts x1 tp) (.Call (.Name "zip" p) [l,m] [] pos) (Znc X.K ta tb):=by
 intro pins s σ H R I h
 have ha:PA X [l,m] (Xa ta (Xa tb XL)):=Yp hl (Yp hr Za he2) he
 refine wpAny_Call_Name_kw (WS I hg hm Zau ?_)
 refine PyProof.Rows.callWith_type1 (Zp (ha pos pins s σ H (fun vs H2=>∃ a b xs ys,vs=[V.ref a,V.ref b]∧SqT X.K H2 a xs∧SqT X.K H2 b ys∧R (Zfp X.K a b) H2) I h) fun us s1 ⟨vs,H1,I1,r1,a,b,xs,ys,e,ea,eb,q⟩=>?_) he hpl
 subst e
 obtain ⟨u1,u2,rfl,r2,r3⟩:∃ u1 u2,us=[u1,u2]∧RelV (V.ref a) u1∧RelV (V.ref b) u2:=by
   cases r1 with
   | cons p t=>cases t with
     | cons p2 t2=>cases t2;exact ⟨_,_,rfl,p,p2⟩
 cases r2
 cases r3
 obtain ⟨its1,rv1,⟨o1,eo1,c1,n1,d1⟩,_⟩:=I1.tuple ea
 obtain ⟨its2,rv2,⟨o2,eo2,c2,n2,d2⟩,_⟩:=I1.tuple eb
 have ha1:a < s1.heap.objs.size:=Heap.lt_size eo1
 have hb1:b < s1.heap.objs.size:=Heap.lt_size eo2
 refine ZhJ ⟨_,eo1,c1,n1,d1⟩ ⟨_,eo2,c2,n2,d2⟩ fun h' g1 g2 g3 g4 g5 g6 g7=>wpAny_pyIter_zip g1 ?_
 refine ⟨s1.heap.objs.size+4,[s1.heap.objs.size+4,s1.heap.objs.size+2,s1.heap.objs.size+3,s1.heap.objs.size,s1.heap.objs.size+1],_,_,H1,rfl,I1.kept (t':=s1.toks) g7,Zgv (l1:=a) (l2:=b) ⟨?_,?_,?_,?_,?_,?_,?_,?_,?_,?_,?_,?_,?_,?_,?_,?_,?_,?_⟩ ?_ ?_,⟨g1,g2,⟨_,_,g3⟩,g4,g5⟩,fun c hc=>?_,q⟩
 rotate_right
 · simp only [List.mem_cons,List.not_mem_nil,or_false] at hc
   have up:∀ k,YC X pins H1 (s1.heap.objs.size+k):=fun k=>I1.fpOk (Nat.le_add_right _ k) (I1.hok.fresh (Nat.le_add_right _ k))
   rcases hc with q | q | q | q | q
   · rw [q];exact up 4
   · rw [q];exact up 2
   · rw [q];exact up 3
   · rw [q];exact up 0
   · rw [q];exact up 1
 all_goals
   first
     | exact Nat.ne_of_lt (by first | (apply Nat.lt_of_lt_of_le (by assumption);omega) | (simp only [Nat.add_lt_add_iff_left];decide) | (show _ < _+_;exact Nat.lt_add_of_pos_right (by decide)))
     | exact Nat.ne_of_gt (by first | (simp only [Nat.add_lt_add_iff_left];decide) | exact Nat.lt_add_of_pos_right (by decide))
end
end L2
set_option maxHeartbeats 2000000
namespace L2
open PySem PySem.Spec PyProof.Rows
def TyS (K:PySem.W.Frag)(H:Hp)(x:V)(t:Value):Prop:=Wo K H x t∨∃ a xs,x=.ref a∧t=.type "tuple"∧SqT K H a xs
section
variable {X:Cx}{pins:List (Addr×Obj)}{σ:St}{H:Hp}{s:Shared}
theorem Zee {x:V}{u t:Value}(I:Inv X pins σ H s)(rx:RelV x u)(ty:TyS X.K H x t):∃ Hh:Heap→Prop,PySem.W.KitX X.K u t Hh∧Hh s.heap∧u≠.builtin "__main__.__loader__#opaque":=by
 rcases ty with ty | ⟨a,xs,rfl,rfl,h⟩
 · cases ty with
   | non=>cases (show u=Value.none from rx);exact ⟨_,PySem.W.kitx_none,True.intro,fun z=>nomatch z⟩
   | bl y=>cases (show u=Value.bool y from rx);exact ⟨_,PySem.W.kitx_bool,True.intro,fun z=>nomatch z⟩
   | int i=>obtain ⟨t,q⟩:=(show ∃ t,u=Value.int i t from rx);cases q;exact ⟨_,PySem.W.kitx_int,True.intro,fun z=>nomatch z⟩
   | str y=>obtain ⟨t,q⟩:=(show ∃ t,u=Value.str y t from rx);cases q;exact ⟨_,PySem.W.kitx_str,True.intro,fun z=>nomatch z⟩
   | flt y=>obtain ⟨t,q⟩:=(show ∃ t,u=Value.float y t from rx);cases q;exact ⟨_,PySem.W.kitx_float,True.intro,fun z=>nomatch z⟩
   | @lst a xs ea =>
     cases (show u=Value.ref a from rx)
     obtain ⟨_,_,n,_,h1⟩:=(show ObjOk X.prog X.w H s.heap a (.lst xs) from I.hok a _ ea)
     exact ⟨_,PySem.W.kitx_list,⟨_,h1,rfl⟩,fun z=>nomatch z⟩
   | @frz a ob xs ea =>
     cases (show u=Value.ref a from rx)
     obtain ⟨_,_,_,n,_,h1⟩:=(show ObjOk X.prog X.w H s.heap a (.frz ob (.lst xs)) from I.hok a _ ea)
     exact ⟨_,PySem.W.kitx_list,⟨_,h1,rfl⟩,fun z=>nomatch z⟩
   | @tup a xs ea =>
     cases (show u=Value.ref a from rx)
     obtain ⟨_,_,_,p⟩:=(show ObjOk X.prog X.w H s.heap a (.tup xs) from I.hok a _ ea)
     obtain ⟨o,h1,h2,_⟩:=p
     exact ⟨_,PySem.W.kitx_tuple,⟨o,h1,h2⟩,fun z=>nomatch z⟩
   | @dK a kvs ea =>
     cases (show u=Value.ref a from rx)
     obtain ⟨_,_,vs,_,p⟩:=(show ObjOk X.prog X.w H s.heap a (.dK kvs) from I.hok a _ ea)
     obtain ⟨o,es,ep,h1,h2,_⟩:=p
     exact ⟨_,PySem.W.kitx_dict,⟨o,h1,h2.1⟩,fun z=>nomatch z⟩
   | @dT a kvs ea =>
     cases (show u=Value.ref a from rx)
     obtain ⟨_,_,xs,_,o,es,ep,h1,h2,_⟩:=(show ObjOk X.prog X.w H s.heap a (.dT kvs) from I.hok a _ ea)
     exact ⟨_,PySem.W.kitx_dict,⟨o,h1,h2.1⟩,fun z=>nomatch z⟩
   | @ins a C dx fs ea cl ha hn htk hm =>
     cases (show u=Value.ref a from rx)
     obtain ⟨mA,O,_⟩:=Zea I.hok ea
     obtain ⟨od,J,_⟩:=O.look
     exact ⟨_,PySem.W.kitx_own (cl.get _) cl.hd ha hn htk hm,J,fun z=>nomatch z⟩
 · cases (show u=Value.ref a from rx)
   obtain ⟨its,_,⟨o,h1,h2,_⟩,_⟩:=I.tuple h
   exact ⟨_,PySem.W.kitx_tuple,⟨o,h1,h2⟩,fun z=>nomatch z⟩
theorem Ys {K:PySem.W.Frag}(hK:X.K=K):YQ X (.builtin "isinstance") (fun xs H Q=>∃ x c t b,xs=[x,.ty c]∧TyS K H x t∧PySem.W.kitOne K t (.type c)=some b∧Q (.bl b) H):=by
 subst hK
 intro pins s σ H xs us Q I r h
 obtain ⟨x,c,t,b,rfl,ty,e,q⟩:=h
 obtain ⟨u,u',rfl,ru,ru'⟩:=Vd r
 cases (show u'=Value.type c from ru')
 obtain ⟨Hh,Z,p,hx⟩:=Zee I ru ty
 exact PySem.W.kia_one Z I.kIn p e hx fun tk=>⟨.bl b,H,I.tok tk,rfl,q⟩
theorem ZbI:∀{Ts:List String}{us:List Value},Vals (Ts.map V.ty) us→us=Ts.map Value.type
 | [],_,h=>by cases h;rfl
 | D::Ds,_,h=>by
   cases h with
   | cons r t=>rw [ZbI t,show _=Value.type D from r];rfl
theorem Zgx {K:PySem.W.Frag}(hK:X.K=K):YQ X (.builtin "isinstance") (fun xs H Q=>∃ (x:V) (tp:Addr) (Ts:List String) (t:Value) (b:Bool),xs=[x,.ref tp]∧TyS K H x t∧H tp=some (.tup (Ts.map V.ty))∧PySem.W.kitAny K t (Ts.map Value.type)=some b∧Q (.bl b) H):=by
 subst hK
 intro pins s σ H xs us Q I r h
 obtain ⟨x,tp,Ts,t,b,rfl,ty,htp,e,q⟩:=h
 obtain ⟨u,u',rfl,ru,ru'⟩:=Vd r
 cases (show u'=Value.ref tp from ru')
 obtain ⟨Hh,Z,p,hx⟩:=Zee I ru ty
 obtain ⟨_,its,rv,pt⟩:=(show ObjOk X.prog X.w H s.heap tp (.tup (Ts.map V.ty)) from I.hok tp _ htp)
 obtain ⟨⟨oc,odi,oda,osl⟩,h1,h2,n,h3⟩:=pt
 dsimp only at h2 h3
 subst h2 h3
 rw [ZbI rv] at h1
 exact PySem.W.kia_tup Z I.kIn p h1 e hx fun tk=>⟨.bl b,H,I.tok tk,rfl,q⟩
end
theorem PI.or {X:Cx}{tg e:Expr}{t u:TI}(h1:PI X tg e t)(h2:PI X tg e u):PI X tg e (fun σ H R=>t σ H R∨u σ H R):=by
 intro pins s σ H R I h
 rcases h with h | h
 · exact h1 pins s σ H R I h
 · exact h2 pins s σ H R I h
theorem ZbS {K:PySem.W.Frag}{a b:Addr}{xs zs:List V}{g:TG}{te:TE}{σ:St}{D:Addr}{Q:VK}{H:Hp}(hn:xs.length≤sizeLine)(hz:zs.length=xs.length)(Pv:Nat→List V→Hp→Prop)(h0:Pv 0 [] (upd H D (.lst [])))
   (hl:∀ i ys H,Pv i ys H→ys.length=i∧SqL K H a xs∧SqL K H b zs)
   (hs:∀ i x z t ys H wa wb,xs[i]?=some x→zs[i]?=some z→H t=none→Pv i ys H→g (.ref t) (σ++[wa,wb]) (upd H t (.tup [x,z])) fun σ' H'=>(∃ wa wb,σ'=σ++[wa,wb])∧te σ' H' fun y H4=>H4 D=some (.lst ys)∧Pv (i+1) (ys++[y]) (upd H4 D (.lst (ys++[y]))))
   (hd:∀ ys H,Pv xs.length ys H→Q (.ref D) H):Zcl (Itz K a b) g te σ D Q H:=by
 refine ⟨fun i m ys H=>m=xs.length - i∧i≤xs.length∧Pv i ys H,⟨xs.length,by simp,Nat.zero_le _,h0⟩,?_⟩
 rintro i m ys H2 ⟨rfl,hi,p⟩
 obtain ⟨hlen,q1,q2⟩:=hl i ys _ p
 by_cases hlt:i < xs.length
 · have h2:i < zs.length:=by omega
   refine .inr ⟨⟨xs,zs,xs[i],zs[i],q1,q2,by simp [hlt],by simp [h2]⟩,_,fun y H4 (q:H4 D=some (.lst ys)∧Pv (i+1) (ys++[y]) (upd H4 D (.lst (ys++[y]))))=>⟨q.1,by omega,xs.length - (i+1),by omega,rfl,hlt,q.2⟩,fun wa wb v H3 y=>?_⟩
   obtain ⟨t,x,z,ht,hx,hz,rfl,rfl⟩:=y
   exact hs i x z t ys H2 wa wb (hx xs q1) (hz zs q2) ht p
 · have e:i=xs.length:=by omega
   subst e
   exact .inl ⟨⟨xs,zs,q1,q2,by omega⟩,hd ys H2 p⟩
theorem Zfj {K:PySem.W.Frag}{a b:Addr}{xs zs:List V}{g:TG}{te:TE}{σ:St}{D:Addr}{Q:VK}{H:Hp}(hn:xs.length≤sizeLine)(hz:zs.length=xs.length)(Pv:Nat→List V→Hp→Prop)(h0:Pv 0 [] (upd H D (.lst [])))
   (hl:∀ i ys H,Pv i ys H→ys.length=i∧SqT K H a xs∧SqT K H b zs)
   (hs:∀ i x z t ys H wa wb,xs[i]?=some x→zs[i]?=some z→H t=none→Pv i ys H→g (.ref t) (σ++[wa,wb]) (upd H t (.tup [x,z])) fun σ' H'=>(∃ wa wb,σ'=σ++[wa,wb])∧te σ' H' fun y H4=>H4 D=some (.lst ys)∧Pv (i+1) (ys++[y]) (upd H4 D (.lst (ys++[y]))))
   (hd:∀ ys H,Pv xs.length ys H→Q (.ref D) H):Zcl (Zfp K a b) g te σ D Q H:=by
 refine ⟨fun i m ys H=>m=xs.length - i∧i≤xs.length∧Pv i ys H,⟨xs.length,by simp,Nat.zero_le _,h0⟩,?_⟩
 rintro i m ys H2 ⟨rfl,hi,p⟩
 obtain ⟨hlen,q1,q2⟩:=hl i ys _ p
 by_cases hlt:i < xs.length
 · have h2:i < zs.length:=by omega
   refine .inr ⟨⟨xs,zs,xs[i],zs[i],q1,q2,by simp [hlt],by simp [h2]⟩,_,fun y H4 (q:H4 D=some (.lst ys)∧Pv (i+1) (ys++[y]) (upd H4 D (.lst (ys++[y]))))=>⟨q.1,by omega,xs.length - (i+1),by omega,rfl,hlt,q.2⟩,fun wa wb v H3 y=>?_⟩
   obtain ⟨t,x,z,ht,hx,hz,rfl,rfl⟩:=y
   exact hs i x z t ys H2 wa wb (hx xs q1) (hz zs q2) ht p
 · have e:i=xs.length:=by omega
   subst e
   exact .inl ⟨⟨xs,zs,q1,q2,by omega⟩,hd ys H2 p⟩
end L2
set_option maxHeartbeats 4000000
namespace K70
open PySem L2
section
variable {P:Program}{w:World}{K:PySem.W.Frag}{mg:Str→Option Value}{base:Heap}
def isI:V→Bool
 | .int _=>true
 | _=>false
def Zco:Sp:=fun vs H Q _=>∃ v,vs=[v]∧IsVal v∧Q (.bl (isI v)) H
abbrev nNu:List Str:=["thing"]
abbrev pnNu:List Str:=["thing"]
theorem scNu:Zz nNu pnNu (Zl s_is_number):=⟨rfl,rfl,rfl,by decide +kernel,rfl,by decide +kernel,by decide +kernel⟩
theorem ZlL {f:Addr}{fd:FuncData}(F:Fun K "is_number" "is_number" s_is_number f fd)(T:Yk mg):Fn1 P w K mg base 1 f fd "thing" Zco:=by
 refine F.ok1 scNu (by decide +kernel) (fun _=>rfl) rfl (fun cdv A outer s H vs Q E hr h=>?_)
 obtain ⟨v,rfl,hv,q⟩:=h
 refine' ⟨?t,?h,?r⟩
 case h =>
   conv=>arg 2;whnf
   with_reducible refine' (Zi ?h1)
   case h1=>exact Zo (XD (Zn (Ys (K:=K) rfl) rfl T.isinstance (by decide +kernel) (Zc (pv 0) (Zc (Yz rfl T.int (by decide +kernel) (v:=.ty "int") rfl) Za))) (Wq (ZaQ (Zn (Ys (K:=K) rfl) rfl T.isinstance (by decide +kernel) (Zc (pv 0) (Zc (Yz rfl T.bool (by decide +kernel) (v:=.ty "bool") rfl) Za))))))
 cases v with
 | int i=>exact ⟨_,rfl,_,_,_,true,rfl,.inl (.int _),rfl,_,rfl,Zv ⟨_,rfl,_,_,_,false,rfl,.inl (.int _),rfl,_,rfl,q⟩⟩
 | str x=>exact ⟨_,rfl,_,_,_,false,rfl,.inl (.str _),rfl,_,rfl,Zu q⟩
 | _=>exact hv.elim
def Zhz:Sp:=fun vs H Q _=>∃ v,vs=[v]∧IsVal v∧Q (.str (ZP v)) H
abbrev nWr:List Str:=["_law_value_here"]
abbrev ZeG:List Str:=["_law_value_here"]
theorem scWr:Zz nWr ZeG (Zl s_l_written):=⟨rfl,rfl,rfl,by decide +kernel,rfl,by decide +kernel,by decide +kernel⟩
theorem ZeL {f:Addr}{fd:FuncData}(F:Fun K "_law_written" "_law_written" s_l_written f fd)(T:Yk mg):FnOk P w K mg base ZY 1 f fd ZeG (fun vs H Q E=>∃ v,vs=[v]∧IsVal v∧∀ H',Same H H'→Q (.str (ZP v)) H'):=by
 refine F.ok scWr (fun vs H Q E h=>?_) (fun cdv A outer s H vs Q E hr h=>?_)
 · obtain ⟨v,rfl,_⟩:=h;rfl
 obtain ⟨v,rfl,hv,q⟩:=h
 refine' ⟨?t,?h,?r⟩
 case h =>
   conv=>arg 2;whnf
   with_reducible refine' (Zd (ZS ?h1 (Zi ?h2) ZE) (Zi ?h3))
   case h1=>exact Yh (Zn (Ys (K:=K) rfl) rfl T.isinstance (by decide +kernel) (Zc (pv 0) (Zc (Yz rfl T.int (by decide +kernel) (v:=.ty "int") rfl) Za)))
   case h2=>exact Zo (YA UF rfl T.str (by decide +kernel) (Zc (pv 0) Za))
   case h3=>exact Zo (Zk Zs (Zk Zs Zj (YH PySem.F.plainAttrs_str PySem.F.slot_str_join PySem.F.type_str_join Uk Zj (Zc (Xx (CompOk.of nWr s_l_written rfl rfl (by decide +kernel)) rfl (WV (pv 0))  (fun _ _ _ _ _=>Zk Zs (Zk YM Zj (YA ZbR rfl T.int (by decide +kernel) (Zc (Xv (ZfE (K:=K) rfl) (pv 1) (Yf (Zc Zj (Zc Zj Za))) rfl) Za))) (pv 1))) Za))) Zj)
 cases v with
 | int i=>exact ⟨_,rfl,_,_,_,true,rfl,.inl (.int _),rfl,_,rfl,Zv ⟨_,rfl,.inl ⟨i,rfl,(Zbq (IsVal.b31 hv)).1,q H (Same.refl H)⟩⟩⟩
 | str x =>
   refine ⟨_,rfl,_,_,_,false,rfl,.inl (.str _),rfl,_,rfl,Zu ?_⟩
   have hx:x.length≤40:=hv.1
   refine ⟨rfl,_,rfl,x,rfl,fun D hD=>?_⟩
   refine ZcR (Zr (show x.length≤1000 by omega)) (fun i ys H'=>Same H H'∧H' D=some (.lst ys)∧ys=((x.cps.toList.take i).map Vk).map V.str∧i≤x.cps.size) ⟨Zh hD _,Zb,rfl,Nat.zero_le _⟩ ?_ ?_ ?_
   · rintro i ys H' ⟨_,_,rfl,hi⟩
     rw [List.length_map,List.length_map,List.length_take,Array.length_toList];omega
   · rintro i c ys H' hc ⟨s1,eD,rfl,hi⟩
     refine ⟨_,rfl,(by show 2≤sizeLine;decide),fun tp htp=>⟨tp,_,rfl,.inr (SqT.of Zb),rfl,rfl,.inr ⟨_,rfl,_,_,rfl,rfl,?_,_,rfl,_,_,rfl,rfl,?_,?_⟩⟩⟩
     · exact ZmV _
     · have:=Zlh (if false=true then !Xd (.str ⟨#[c]⟩) [.str "'",.str "\\"] else Xd (.str ⟨#[c]⟩) [.str "'", .str "\\"])
       exact Zr (show _≤1000 by rw [Wi];omega)
     · dsimp only
       rw [Zja]
       have s2:=Zh htp (.tup [.str "'",.str "\\"])
       refine ⟨s2 _ _ eD,fun b o e=>?_,Zb,?_,?_⟩
       · rw [Zm (ZG e hD)];exact s2 _ _ (s1 _ _ e)
       · have hc':x.cps.toList[i]?=some c:=by rw [Array.getElem?_toList];exact hc
         rw [List.take_succ,hc',List.map_append,List.map_append];rfl
       · have:=(Array.getElem?_eq_some_iff.mp hc).1;omega
   · rintro ys H2 ⟨s2,eD,rfl,_⟩
     rw [show x.cps.toList.take x.cps.size=x.cps.toList by rw [← Array.length_toList,List.take_length]] at eD
     have hsz:x.cps.toList.length≤40:=by rw [Array.length_toList];exact hx
     have w1:=Zdd x.cps.toList
     have w2:(Txt.join "" (x.cps.toList.map Vk)).length≤100:=by
       have:=ZbA x.cps.toList
       rw [← Zcb] at this
       show (Txt.join "" _).cps.size≤100
       rw [← Array.length_toList];omega
     refine ⟨"",D,x.cps.toList.map Vk,rfl,rfl,SqL.of eD,?_,_,_,rfl,rfl,?_,_,_,rfl,rfl,?_,?_⟩
     · rw [show (Str.ofString "").length=0 by decide +kernel];omega
     · exact Zr (show _≤1000 by rw [show (Str.ofString "'").length=1 by decide +kernel];omega)
     · exact Zr (show _≤1000 by rw [Wg,show (Str.ofString "'").length=1 by decide +kernel];omega)
     · rw [ZhB];exact q H2 s2
 | _=>exact hv.elim
abbrev nVt:List Str:=["value","slashed"]
abbrev ZeV:List Str:=["value"]
theorem scVt:Zz nVt ZeV (Zl s_value_text):=⟨rfl,rfl,rfl,by decide +kernel,rfl,by decide +kernel,by decide +kernel⟩
theorem ZmR {f:Addr}{fd:FuncData}(F:Fun K "value_text" "value_text" s_value_text f fd)(T:Yk mg)(B:NBk K)(DNu:ZiD P w K mg base 1 "is_number" "thing" Zco):FnOk P w K mg base ZY 2 f fd ZeV Zhz:=by
 refine F.ok scVt (fun vs H Q E h=>?_) (fun cdv A outer s H vs Q E hr h=>?_)
 · obtain ⟨v,rfl,_⟩:=h;rfl
 obtain ⟨v,rfl,hv,q⟩:=h
 refine' ⟨?t,?h,?r⟩
 case h =>
   conv=>arg 2;whnf
   with_reducible refine' ZjP (px:="thing") (sp:=Zco) ?a1 ?a2 ?a3 ?a4 (Zhn (i:=1) ?b1 ?b2 ?b3 ?b4 ?b5 ?b6 ?b7) ?g1 ?g2 ?g3 ?g4
   case g1=>exact rfl
   case g2=>decide
   case g3=>exact rfl
   case g4=>intro _;rfl
   case b6=>exact rfl
   case b7=>exact .inl rfl
   case a1=>exact DNu
   case a2=>exact hr
   case a3=>exact pv 0
   case a4=>exact Zi (Zo (YA UF rfl T.str (by decide +kernel) (Zc (pv 0) Za)))
   case b1=>exact scVt.nd
   case b2=>exact rfl
   case b3=>exact Or.inl rfl
   case b4=>exact Zed B (by decide +kernel) (Zed B (by decide +kernel) (PE.three (pv 0)))
   case b5=>exact Zi (Zo (Zk Zs (Zk Zs Zj (pv 1)) Zj))
 cases v with
 | int i=>exact ⟨_,rfl,_,rfl,hv,_,rfl,Zv ⟨_,rfl,.inl ⟨i,rfl,(Zbq (IsVal.b31 hv)).1,q⟩⟩⟩
 | str x =>
   have hx:x.length≤40:=hv.1
   have h1:=ZhV x
   have h3:(Txt.replace (Txt.replace x "\\" "\\\\") "'" "\\'").length≤200:=by
     have e3:(Str.ofString "'")=⟨#[39]⟩:=by decide +kernel
     have e4:(Str.ofString "\\'")=⟨([92,39]:List Nat).toArray⟩:=by decide +kernel
     rw [e3,e4]
     have:=Zah 39 92 39 (Txt.replace x "\\" "\\\\").cps.toList
     rw [← Vc,Array.length_toList,Array.length_toList] at this
     have h1':(Txt.replace x "\\" "\\\\").cps.size≤2 * x.length:=h1
     show (Txt.replace _ _ _).cps.size≤200
     omega
   refine ⟨_,rfl,_,rfl,hv,_,rfl,Zu ⟨_,rfl,x,rfl,by omega,_,rfl,by omega,?_⟩⟩
   refine ⟨_,rfl,_,_,rfl,rfl,Zr (show _≤1000 by rw [show (Str.ofString "'").length=1 by decide +kernel];omega),_,_,rfl,rfl,Zr (show _≤1000 by rw [Wg,show (Str.ofString "'").length=1 by decide +kernel];omega),?_⟩
   rw [Zgw];exact q
 | _=>exact hv.elim
end
end K70
set_option maxHeartbeats 4000000
namespace K70
open PySem L2
theorem VH {c:Bool}{A B:Prop}(h:c=false)(b:B):if c=true then A else B:=by rw [h];exact Zu b
theorem ifT {c:Bool}{A B:Prop}(h:c=true)(a:A):if c=true then A else B:=by rw [h];exact Zv a
def Xt:List (Str×List V):=[("set",[.str "name",.str "value",.str "slot"]),("look",[.str "name"]),("back",[.str "slot"]),("begin",[.str "program"]),("late",[.str "program"]),("copy",[.str "slot"]),("in",[.str "slot",.str "program"]),("pass",[])]
def WZ (x:Str):Option Bool:=(PyProof.Rows.KTD.datumAt x Xt).map fun xs=>Xd (.str "program") xs
theorem Zfc {x:Str}{xs:List V}(h:PyProof.Rows.KTD.datumAt x Xt=some xs):xs.all XX=true:=by
 have:∀ p∈Xt,p.2.all XX=true:=by decide +kernel
 have mem:∀ (D:List (Str×List V)),PyProof.Rows.KTD.datumAt x D=some xs→∃ p∈D,p.2=xs:=by
   intro D
   induction D with
   | nil=>intro h;cases h
   | cons p D ih =>
     intro h
     rw [PyProof.Rows.KTD.datumAt] at h
     split at h
     · cases h;exact ⟨p,List.mem_cons_self,rfl⟩
     · obtain ⟨q,hq,e⟩:=ih h;exact ⟨q,List.mem_cons_of_mem _ hq,e⟩
 obtain ⟨p,hp,rfl⟩:=mem _ h
 exact this p hp
theorem VU {p:Pg}(h:p.ok):WZ p.word=some p.isB:=by
 cases p with
 | slot w s =>
   rcases h.1 with rfl | rfl
   · exact (show WZ "back"=some false by decide +kernel)
   · exact (show WZ "copy"=some false by decide +kernel)
 | blk w ps =>
   rcases h.1 with rfl | rfl
   · exact (show WZ "begin"=some true by decide +kernel)
   · exact (show WZ "late"=some true by decide +kernel)
 | inn s ps=>show WZ "in"=some true;decide +kernel
 | set x v s=>show WZ "set"=some false;decide +kernel
 | look x=>show WZ "look"=some false;decide +kernel
 | pass=>show WZ "pass"=some false;decide +kernel
section
variable {P:Program}{w:World}{K:PySem.W.Frag}{mg:Str→Option Value}{base:Heap}{dk:Addr}
def VQ (K:PySem.W.Frag):Sp:=fun vs H Q _=>∃ x:Str,vs=[.str x]∧(∀ b xs,PyProof.Rows.KTD.datumAt x Xt=some xs→SqT K H b xs→Q (.ref b) H)∧(PyProof.Rows.KTD.datumAt x Xt=none→Q .non H)
abbrev nKi:List Str:=["word"]
abbrev ZcG:List Str:=["word"]
theorem scKi:Zz nKi ZcG (Zl s_kinds_of):=⟨rfl,rfl,rfl,by decide +kernel,rfl,by decide +kernel,by decide +kernel⟩
theorem Zjg {f:Addr}{fd:FuncData}(F:Fun K "kinds_of" "kinds_of" s_kinds_of f fd)(TK:KDic K dk Xt)(hK:mg "KINDS"=some (.ref dk)):FnOk P w K mg base ZY 1 f fd ZcG (VQ K):=by
 refine F.ok scKi (fun vs H Q E h=>?_) (fun cdv A outer s H vs Q E hr h=>?_)
 · obtain ⟨x,rfl,_⟩:=h;rfl
 obtain ⟨x,rfl,q1,q2⟩:=h
 refine' ⟨?t,?h,?r⟩
 case h =>
   conv=>arg 2;whnf
   with_reducible refine' (Zi ?h1)
   case h1=>exact Zo (ZkO TK (YF (v:=.ref _) rfl hK rfl) (pv 0) ⟨rfl,rfl,rfl,rfl⟩)
 exact ⟨_,rfl,x,rfl,fun b xs e1 e2=>q1 b xs e1 e2,fun e=>q2 e⟩
def VF:Sp:=fun vs H Q _=>∃(x:Str)(b:Bool),vs=[.str x]∧WZ x=some b∧Q (.bl b) H
abbrev nHw:List Str:=["word"]
abbrev Zbv:List Str:=["word"]
theorem scHw:Zz nHw Zbv (Zl s_has_within):=⟨rfl,rfl,rfl,by decide +kernel,rfl,by decide +kernel,by decide +kernel⟩
theorem Zkh {f:Addr}{fd:FuncData}(F:Fun K "has_within" "has_within" s_has_within f fd)(DKi:Def P w K mg base 1 "kinds_of" ZcG (VQ K)):FnOk P w K mg base ZY 2 f fd Zbv VF:=by
 refine F.ok scHw (fun vs H Q E h=>?_) (fun cdv A outer s H vs Q E hr h=>?_)
 · obtain ⟨x,b,rfl,_⟩:=h;rfl
 obtain ⟨x,b,rfl,hb,q⟩:=h
 refine' ⟨?t,?h,?r⟩
 case h =>
   conv=>arg 2;whnf
   with_reducible refine' (Zi ?h1)
   case h1=>exact Zo (Xv WT Zj (ZC DKi hr (Zc (pv 0) Za)) rfl)
 refine ⟨_,rfl,x,rfl,fun d xs e1 e2=>?_,fun e=>?_⟩
 · unfold WZ at hb
   rw [e1] at hb
   cases hb
   exact ⟨d,xs,rfl,.inr e2,rfl,Zfc e1,q⟩
 · unfold WZ at hb
   rw [e] at hb
   cases hb
def Zaq (K:PySem.W.Frag):Sp:=fun vs H Q _=>∃(v:V)(p:Pg),vs=[v]∧DatT K H v p.dat∧p.ok∧∀ t H',Same H H'→DatT K H' t (.tuple (Pg.dats p.inner))→Q t H'
abbrev nPw:List Str:=["step"]
abbrev ZeH:List Str:=["step"]
theorem scPw:Zz nPw ZeH (Zl s_program_within):=⟨rfl,rfl,rfl,by decide +kernel,rfl,by decide +kernel,by decide +kernel⟩
theorem ZfO {f:Addr}{fd:FuncData}(F:Fun K "program_within" "program_within" s_program_within f fd)(DHw:Def P w K mg base 2 "has_within" Zbv VF):FnOk P w K mg base ZY 3 f fd ZeH (Zaq K):=by
 refine F.ok scPw (fun vs H Q E h=>?_) (fun cdv A outer s H vs Q E hr h=>?_)
 · obtain ⟨v,p,rfl,_⟩:=h;rfl
 obtain ⟨v,p,rfl,hp,ho,q⟩:=h
 obtain ⟨a,xs,rfl,e,_,e0,_,e3⟩:=ZhT hp
 refine' ⟨?t,?h,?r⟩
 case h =>
   conv=>arg 2;whnf
   with_reducible refine' (Zi ?h1)
   case h1=>exact Zo (Yl (Yh (ZC DHw hr (Zc (ZX Xr (pv 0) Zf (fun _ _=>rfl)) Za))) (ZX Xr (pv 0) (ZfK Zct Zf) (fun _ _=>rfl)) (Yf Za))
 refine ⟨_,rfl,a,xs,_,_,rfl,rfl,e,YB (j:=0) e0,_,p.isB,rfl,VU ho,_,rfl,?_⟩
 cases hb:p.isB with
 | true =>
   obtain ⟨t,e4,e5⟩:=e3 hb
   exact Zv ⟨_,rfl,_,rfl,a,xs,_,_,rfl,rfl,e,e4,q t H (Same.refl H) e5⟩
 | false =>
   refine Zu ⟨(by decide),fun t ht=>q _ _ (Zh ht _) ?_⟩
   rw [Pg.inner_none hb]
   exact .tup (SqT.of Zb) .nil
end
end K70
namespace L2
open PySem
structure FG (K:PySem.W.Frag)(x:Str)(st:Stmt)(f:Addr)(fd:FuncData):Prop where
 a:PySem.W.nsIn K mainGlobals x=some (some (.ref f))
 F:Fun K x x st f fd
structure FM (K:PySem.W.Frag)(C:Addr)(x q:Str)(st:Stmt)(f:Addr)(fd:FuncData):Prop where
 m:Meth K C x f
 F:Fun K x q st f fd
structure Bs (P:Program)(w:World)(K:PySem.W.Frag)(mg:Str→Option Value)(base h:Heap):Prop where
 X:K.In h
 G:h.Ns mainGlobals mg
section
variable {P:Program}{w:World}{K:PySem.W.Frag}{mg:Str→Option Value}{base h:Heap}{x q:Str}{st:Stmt}{f c Pl C:Addr}{fd:FuncData}{k:Nat}{ps:List Str}{sp:Sp}{p1 p2 p3 p4 p5:Str}
theorem FG.df (g:FG K x st f fd)(e:Bs P w K mg base h)(o:FnOk P w K mg base ZY k f fd ps sp)(b:Binds K fd ps []):Def P w K mg base k x ps sp:=⟨f,fd,o,b,g.F.kp,PySem.W.mg_of e.X e.G g.a⟩
abbrev BA (x q:Str)(st:Stmt)(us:List Value)(r:List (Str×Value)):Prop:=∀(kV doc pm:Value)(an:Option Addr)(cdv ct:Value),bindArgs (PySem.W.fnOf x q (Zbm st) (WH st) (Zl st) .none kV doc pm an cdv ct) ⟨us,[]⟩=pure r
theorem Fun.b1 (F:Fun K x q st f fd)(h:∀ u,BA x q st [u] [(p1,u)]):Binds K fd [p1] []:=F.binds fun a b c d e g us hl=>match us,hl with | [u],_=>h u a b c d e g
theorem Fun.b2 (F:Fun K x q st f fd)(h:∀ u v,BA x q st [u,v] [(p1,u),(p2,v)]):Binds K fd [p1,p2] []:=F.binds fun a b c d e g us hl=>match us,hl with | [u,v],_=>h u v a b c d e g
theorem ZgL (F:Fun K x q st f fd)(h:∀ u,BA x q st [u] [(p1,u)])(s:Shared)(v:Value):BindsTo s fd ⟨[v],[]⟩ [(p1,v)]:=by
 obtain ⟨oc,od,kV,doc,pm,an,cdv,ct,osl,rfl,lk,hcd⟩:=F.ex
 exact .of_eq (h v kV doc pm an cdv ct)
end
end L2
set_option maxHeartbeats 2000000
namespace L2
open PySem PySem.Spec PyProof.Rows
def ZhD:Expr→Option V
 | .Constant (.int i) _ _=>some (.int i)
 | .Constant (.str x) _ _=>some (.str x)
 | .Constant (.bool b) _ _=>some (.bl b)
 | .Constant .none _ _=>some .non
 | _=>none
def ZfD:List Expr→Option (List V)
 | []=>some []
 | e::es=>match ZhD e,ZfD es with
   | some v,some vs=>some (v::vs)
   | _,_=>none
section
variable {X:Cx}
theorem Zme {e:Expr}{v:V}(h:ZhD e=some v):PE X e (tC v)∧∀ es,starEach (e::es) X.env=(false,eval e X.env)::starEach es X.env:=by
 unfold ZhD at h
 split at h<;>cases h
 · exact ⟨Zf,fun _=>rfl⟩
 · exact ⟨Zj,fun _=>rfl⟩
 · exact ⟨UD,fun _=>rfl⟩
 · exact ⟨YI,fun _=>rfl⟩
def Zmw (vs:List V):TA:=fun _ H Q=>Q vs H
theorem ZbD:∀{es:List Expr}{vs:List V},ZfD es=some vs→PA X es (Zmw vs)
 | [],_,h=>by cases h;exact Za
 | e :: es,vs,h=>by
   rw [ZfD] at h
   split at h
   · rename_i v ws h1 h2
     cases h
     obtain ⟨p,s⟩:=Zme (X:=X) h1
     exact Yp p (ZbD h2) (s es)
   · cases h
end
section
variable {X:Cx}
end
section
variable {K:PySem.W.Frag}{x q:Str}{st:Stmt}{f:Addr}{fd:FuncData}{p1 p2 p3 p4 p5 p6 p7:Str}
end
section
variable {X:Cx}
end
end L2
set_option maxHeartbeats 2000000
namespace L2
open PySem PySem.Spec PyProof.Rows
mutual
inductive DatA (K:PySem.W.Frag)(H:Hp):V→PyData→Prop
 | non:DatA K H .non .none
 | bl (b):DatA K H (.bl b) (.bool b)
 | int (i):DatA K H (.int i) (.int i)
 | str (x):DatA K H (.str x) (.str x)
 | lst {a xs ds}:H a=some (.lst xs)→xs.length≤20000→DatAs K H xs ds→DatA K H (.ref a) (.list ds)
 | tup {a xs ds}:SqT K H a xs→xs.length≤20000→DatAs K H xs ds→DatA K H (.ref a) (.tuple ds)
inductive DatAs (K:PySem.W.Frag)(H:Hp):List V→List PyData→Prop
 | nil:DatAs K H [] []
 | cons {v d vs ds}:DatA K H v d→DatAs K H vs ds→DatAs K H (v::vs) (d::ds)
end
mutual
theorem DatA.same {K:PySem.W.Frag}{H H':Hp}(s:Same H H'):∀{v d},DatA K H v d→DatA K H' v d
 | _,_,.non=>.non
 | _,_,.bl b=>.bl b
 | _,_,.int i=>.int i
 | _,_,.str x=>.str x
 | _,_,.lst e h q=>.lst (s _ _ e) h (DatAs.same s q)
 | _,_,.tup e h q=>.tup (e.tf s.tf) h (DatAs.same s q)
theorem DatAs.same {K:PySem.W.Frag}{H H':Hp}(s:Same H H'):∀{vs ds},DatAs K H vs ds→DatAs K H' vs ds
 | _,_,.nil=>.nil
 | _,_,.cons r t=>.cons (DatA.same s r) (DatAs.same s t)
end
theorem DatAs.len {K:PySem.W.Frag}{H:Hp}:∀{vs ds},DatAs K H vs ds→vs.length=ds.length
 | _,_,.nil=>rfl
 | _,_,.cons q t=>by rw [List.length_cons,List.length_cons,DatAs.len t]
theorem DatAs.at {K:PySem.W.Frag}{H:Hp}:∀{vs ds}{i:Nat}{v:V},DatAs K H vs ds→vs[i]?=some v→∃ d,ds[i]?=some d∧DatA K H v d
 | _,_,_,_,.nil,h=>by simp at h
 | _,_,0,_,.cons a _,h=>by cases h;exact ⟨_,rfl,a⟩
 | _,_,i+1,_,.cons _ b,h=>DatAs.at (i:=i) b h
theorem Zae:∀{ds:List PyData}{i:Nat}{d:PyData},ds[i]?=some d→d.depth≤PyData.depthAll ds
 | [],_,_,h=>by simp at h
 | q::ds,0,_,h=>by cases h;rw [PyData.depthAll];exact Nat.le_max_left _ _
 | q::ds,i+1,p,h=>by rw [PyData.depthAll];exact Nat.le_trans (Zae (ds:=ds) (i:=i) h) (Nat.le_max_right _ _)
section
variable {X:Cx}{pins:List (Addr×Obj)}{σ:St}{H:Hp}{s:Shared}
mutual
theorem DatA.reads (I:Inv X pins σ H s):∀{v d}(u:Value),DatA X.K H v d→RelV v u→d.hasDict=false∧∃ as,Reads s.heap u d as
 | _,_,u,.non,r=>by cases (show u=.none from r);exact ⟨rfl,_,.none⟩
 | _,_,u,.bl b,r=>by cases (show u=.bool b from r);exact ⟨rfl,_,.bool b⟩
 | _,_,u,.int i,r=>by obtain ⟨t,e⟩:=(show ∃ t,u=.int i t from r);subst e;exact ⟨rfl,_,.int i t⟩
 | _,_,u,.str x,r=>by obtain ⟨t,e⟩:=(show ∃ t,u=.str x t from r);subst e;exact ⟨rfl,_,.str x t⟩
 | _,_,u,.lst (a:=a) (xs:=xs) e _ q,r=>by
   cases (show u=.ref a from r)
   obtain ⟨_,its,n,rv,g⟩:=(show ObjOk X.prog X.w H s.heap a (.lst xs) from I.hok a _ e)
   obtain ⟨nd,as,ra⟩:=DatAs.reads I its q rv
   exact ⟨by simpa [PyData.hasDict] using nd,_,.list g rfl rfl (by simpa using ra)⟩
 | _,_,u,.tup (a:=a) (xs:=xs) e _ q,r=>by
   cases (show u=.ref a from r)
   obtain ⟨its,rv,⟨o,g,c,n,d⟩,_⟩:=I.tuple e
   obtain ⟨nd,as,ra⟩:=DatAs.reads I its q rv
   exact ⟨by simpa [PyData.hasDict] using nd,_,.tuple g c d (by simpa using ra)⟩
theorem DatAs.reads (I:Inv X pins σ H s):∀{vs ds}(us:List Value),DatAs X.K H vs ds→Vals vs us→PyData.hasDictAll ds=false∧∃ as,ReadsAll s.heap us ds as
 | _,_,_,.nil,.nil=>⟨rfl,_,.nil⟩
 | _,_,_,.cons r t,.cons rv tv=>by
   obtain ⟨n1,as,r1⟩:=DatA.reads I _ r rv
   obtain ⟨n2,bs,r2⟩:=DatAs.reads I _ t tv
   exact ⟨by simp [PyData.hasDictAll,n1,n2],_,.cons r1 r2⟩
end
end
section
variable {X:Cx}
end
section
variable {X:Cx}
end
end L2
set_option maxHeartbeats 4000000
namespace K70
open PySem L2
mutual
def nb:PyData→Bool
 | .bool _=>false
 | .list ds=>Vq ds
 | .tuple ds=>Vq ds
 | .none=>true
 | .int _=>true
 | .str _=>true
 | .dict _=>false
def Vq:List PyData→Bool
 | []=>true
 | d::ds=>nb d&&Vq ds
end
theorem ZcZ:∀{ds:List PyData}{i:Nat}{d:PyData},Vq ds=true→ds[i]?=some d→nb d=true
 | [],_,_,_,h=>by simp at h
 | q::ds,0,_,n,h=>by cases h;rw [Vq,Bool.and_eq_true] at n;exact n.1
 | q::ds,i+1,d,n,h=>by rw [Vq,Bool.and_eq_true] at n;exact ZcZ (ds:=ds) (i:=i) n.2 h
section
variable {P:Program}{w:World}{K:PySem.W.Frag}{mg:Str→Option Value}{base:Heap}
def Vy (K:PySem.W.Frag)(n:Nat):Sp:=fun vs H Q _=>∃(x y:V)(d:PyData),vs=[x,y]∧DatA K H x d∧DatA K H y d∧nb d=true∧d.depth < n∧∀ H',Same H H'→Q (.bl true) H'
abbrev nSa:List Str:=["_law_found","_law_due"]
abbrev Zal:List Str:=["_law_found","_law_due"]
theorem scSa:Zz nSa Zal (Zl s_l_same):=⟨rfl,rfl,rfl,by decide +kernel,rfl,by decide +kernel,by decide +kernel⟩
theorem ZcD {f:Addr}{fd:FuncData}{n k:Nat}(F:Fun K "_law_same" "_law_same" s_l_same f fd)(T:Yk mg)(DSa:Def P w K mg base k "_law_same" Zal (fun vs H Q E=>∃ m,m < n∧Vy K m vs H Q E)):FnOk P w K mg base ZY (k+1) f fd Zal (Vy K n):=by
 refine F.ok scSa (fun vs H Q E h=>?_) (fun cdv A outer s H vs Q E hr h=>?_)
 · obtain ⟨x,y,d,rfl,_⟩:=h;rfl
 obtain ⟨x,y,d,rfl,dx,dy,hb,hn,q⟩:=h
 refine' ⟨?t,?h,?r⟩
 case h =>
   conv=>arg 2;whnf
   with_reducible refine' (Zd (ZS ?h1 (Zd (ZS ?h2 (Zi ?h3) ZE) (Zi ?h4)) ZE) (Zd (ZS ?h5 (Zi ?h6) ZE) (Zi ?h7)))
   case h1=>exact Yh (Zn (Zgx (K:=K) rfl) rfl T.isinstance (by decide +kernel) (Zc (pv 1) (Zc (Yf (YZ (Yz rfl T.list (by decide +kernel) (v:=.ty "list") rfl) (YZ (Yz rfl T.tuple (by decide +kernel) (v:=.ty "tuple") rfl) Za rfl) rfl)) Za)))
   case h2=>exact PW.pt (Xf (ZF XZ (Zn (Ys (K:=K) rfl) rfl T.isinstance (by decide +kernel) (Zc (pv 0) (Zc (Yz rfl T.list (by decide +kernel) (v:=.ty "list") rfl) Za))) (Zn (Ys (K:=K) rfl) rfl T.isinstance (by decide +kernel) (Zc (pv 1) (Zc (Yz rfl T.list (by decide +kernel) (v:=.ty "list") rfl) Za))) (ZH _)) (XI (ZF XZ (Zn (Ys (K:=K) rfl) rfl T.isinstance (by decide +kernel) (Zc (pv 0) (Zc (Yz rfl T.tuple (by decide +kernel) (v:=.ty "tuple") rfl) Za))) (Zn (Ys (K:=K) rfl) rfl T.isinstance (by decide +kernel) (Zc (pv 1) (Zc (Yz rfl T.tuple (by decide +kernel) (v:=.ty "tuple") rfl) Za))) (ZH _))))
   case h3=>exact Zo UD
   case h4=>exact Zo (XD (Xv Xn (Zn Yy rfl T.len PySem.boot_len (Zc (pv 0) Za)) (Zn Yy rfl T.len PySem.boot_len (Zc (pv 1) Za)) (ZH _)) (Wq (Zn (Wd rfl) rfl T.all (by decide +kernel) (Zc (ZhS (xa:="_law_one") (xb:="_law_other") (CompOkT.of nSa s_l_same rfl rfl (by decide +kernel)) rfl (PI.or (Zhq rfl T.zip (pv 0) (pv 1)) (Zkt rfl T.zip (pv 0) (pv 1))) (fun _ _ _ _ _=>ZdW (K:=K) rfl rfl (ZD (i:=2) (show (Ud nSa "_law_one" "_law_other"++(["_law_one","_law_other"]:List Str)).Nodup by decide +kernel) rfl (Or.inl rfl) (Or.inr rfl)) (ZD (i:=3) (show (Ud nSa "_law_one" "_law_other"++(["_law_one","_law_other"]:List Str)).Nodup by decide +kernel) rfl (Or.inl rfl) (Or.inr rfl)))  (fun _ _ _ _ _=>ZC DSa hr (Zc (pv 2) (Zc (pv 3) Za)))) Za))))
   case h5=>exact PW.pt (Xf (XU (Ww (pv 1))) (XI (Yh (Zn (Ys (K:=K) rfl) rfl T.isinstance (by decide +kernel) (Zc (pv 1) (Zc (Yz rfl T.str (by decide +kernel) (v:=.ty "str") rfl) Za))))))
   case h6=>exact Zo (XD (Xv Xn (pv 0) (pv 1) (ZH _)) (Wq (Xv Xn (Zn (Ys (K:=K) rfl) rfl T.isinstance (by decide +kernel) (Zc (pv 0) (Zc (Yz rfl T.str (by decide +kernel) (v:=.ty "str") rfl) Za))) (Zn (Ys (K:=K) rfl) rfl T.isinstance (by decide +kernel) (Zc (pv 1) (Zc (Yz rfl T.str (by decide +kernel) (v:=.ty "str") rfl) Za))) (ZH _))))
   case h7=>exact Zo (XD (Zn (Ys (K:=K) rfl) rfl T.isinstance (by decide +kernel) (Zc (pv 0) (Zc (Yz rfl T.int (by decide +kernel) (v:=.ty "int") rfl) Za))) (XD (ZaQ (Zn (Ys (K:=K) rfl) rfl T.isinstance (by decide +kernel) (Zc (pv 0) (Zc (Yz rfl T.bool (by decide +kernel) (v:=.ty "bool") rfl) Za)))) (Wq (Xv Xn (pv 0) (pv 1) (ZH _)))))
 have tyx:∀ {z:V} {d:PyData} {H':Hp},DatA K H' z d→∃ t,TyS K H' z t∧PySem.W.kitOne K t (.type "list")=some (match d with | .list _=>true | _=>false)∧PySem.W.kitOne K t (.type "tuple")=some (match d with | .tuple _=>true | _=>false)∧PySem.W.kitOne K t (.type "bool")=some (match d with | .bool _=>true | _=>false)∧PySem.W.kitOne K t (.type "str")=some (match d with | .str _=>true | _=>false)∧PySem.W.kitOne K t (.type "int")=some (match d with | .int _=>true | .bool _=>true | _=>false)∧PySem.W.kitAny K t [.type "list",.type "tuple"]=some (match d with | .list _=>true | .tuple _=>true | _=>false):=by
   intro z d H' h
   cases h with
   | non=>exact ⟨_,.inl .non,rfl,rfl,rfl,rfl,rfl,rfl⟩
   | bl b=>exact ⟨_,.inl (.bl b),rfl,rfl,rfl,rfl,rfl,rfl⟩
   | int i=>exact ⟨_,.inl (.int i),rfl,rfl,rfl,rfl,rfl,rfl⟩
   | str x=>exact ⟨_,.inl (.str x),rfl,rfl,rfl,rfl,rfl,rfl⟩
   | lst e _ _=>exact ⟨_,.inl (.lst e),rfl,rfl,rfl,rfl,rfl,rfl⟩
   | tup e _ _=>exact ⟨_,.inr ⟨_,_,rfl,rfl,e⟩,rfl,rfl,rfl,rfl,rfl,rfl⟩
 refine ⟨_,rfl,(show 2≤sizeLine by decide),fun tp htp=>?_⟩
 have s1:=Zh htp (.tup [.ty "list",.ty "tuple"])
 have etp:upd H tp (.tup [.ty "list",.ty "tuple"]) tp=some (.tup ((["list","tuple"]:List String).map V.ty)):=Zb
 replace dx:=DatA.same s1 dx
 replace dy:=DatA.same s1 dy
 generalize upd H tp (.tup [.ty "list",.ty "tuple"])=H1 at *
 obtain ⟨t1,ty1,l1,p1,b1,w1,i1,a1⟩:=tyx dx
 obtain ⟨t2,ty2,l2,p2,b2,w2,i2,a2⟩:=tyx dy
 refine ⟨y,tp,_,t2,_,rfl,ty2,etp,a2,_,rfl,?_⟩
 cases dx with
 | bl i=>exact absurd (show false=true from hb) (by decide)
 | non =>
   cases dy
   refine Zu ⟨_,rfl,_,rfl,ifT rfl ?_⟩
   refine ⟨_,rfl,_,rfl,rfl,_,rfl,ifT (decide_eq_true rfl) ?_⟩
   refine ⟨_,rfl,_,_,_,_,rfl,ty1,w1,_,rfl,_,_,_,_,rfl,ty2,w2,rfl,?_⟩
   rw [decide_eq_true rfl];exact q H1 s1
 | int i =>
   cases dy
   refine Zu ⟨_,rfl,_,rfl,VH rfl ?_⟩
   refine ⟨_,rfl,_,_,_,_,rfl,ty2,w2,_,rfl,Zu ?_⟩
   refine ⟨_,rfl,_,_,_,_,rfl,ty1,i1,_,rfl,Zv ?_⟩
   refine ⟨_,rfl,_,_,_,_,rfl,ty1,b1,_,rfl,_,rfl,ifT rfl ?_⟩
   refine ⟨_,rfl,_,rfl,rfl,?_⟩
   rw [decide_eq_true rfl];exact q H1 s1
 | str i =>
   cases dy
   refine Zu ⟨_,rfl,_,rfl,VH rfl ?_⟩
   refine ⟨_,rfl,_,_,_,_,rfl,ty2,w2,_,rfl,Zv ?_⟩
   refine ⟨_,rfl,_,rfl,rfl,_,rfl,ifT (decide_eq_true rfl) ?_⟩
   refine ⟨_,rfl,_,_,_,_,rfl,ty1,w1,_,rfl,_,_,_,_,rfl,ty2,w2,rfl,?_⟩
   rw [decide_eq_true rfl];exact q H1 s1
 | lst e1 h1 q1 =>
   cases dy with
   | lst e2 h2 q2 =>
   rename_i av1 xs1 ds av2 xs2
   have hnb:Vq ds=true:=hb
   have hl1:=q1.len
   have hl2:=q2.len
   refine Zv ⟨_,rfl,_,_,_,_,rfl,ty1,l1,_,rfl,_,_,_,_,rfl,ty2,l2,rfl,_,rfl,VH rfl ?_⟩
   refine ⟨_,rfl,_,_,_,_,rfl,ty1,p1,_,rfl,_,_,_,_,rfl,ty2,p2,rfl,_,rfl,VH rfl ?_⟩
   refine ⟨_,rfl,_,xs1,rfl,.inl (SqL.of e1),_,rfl,_,xs2,rfl,.inl (SqL.of e2),rfl,_,rfl,ifT (decide_eq_true (by rw [hl1,hl2])) ?_⟩
   refine .inl ⟨_,rfl,_,rfl,_,_,xs1,xs2,rfl,e1,e2,fun D hD=>?_⟩
   refine ZbS (K:=K) (xs:=xs1) (zs:=xs2) (Zr (show xs1.length≤20000 from h1)) (by omega) (fun i ys H'=>Same H1 H'∧H' D=some (.lst ys)∧ys=(List.replicate i true).map V.bl) ⟨Zh hD _,Zb,rfl⟩ ?_ ?_ ?_
   · rintro i ys H' ⟨s4,_,rfl⟩;exact ⟨by simp,SqL.of (s4 _ _ e1),SqL.of (s4 _ _ e2)⟩
   · rintro i x z t ys H' wa wb hx hz ht ⟨s4,eD,rfl⟩
     obtain ⟨d1,ed1,dd1⟩:=q1.at hx
     obtain ⟨d2,ed2,dd2⟩:=q2.at hz
     cases (ed1.symm.trans ed2)
     have s5:=s4.trans (Zh ht (.tup [x,z]))
     refine ⟨t,_,rfl,SqT.of Zb,rfl,_,_,rfl,_,_,rfl,rfl,⟨_,_,rfl⟩,?_⟩
     refine ⟨_,rfl,_,rfl,d1.depth+1,by have h3:=Zae ed1;have h4:(PyData.list ds).depth < n:=hn;rw [PyData.depth] at h4;omega,x,z,d1,rfl,dd1.same s5,dd2.same s5,ZcZ hnb ed1,Nat.lt_succ_self _,fun H2 s6=>⟨s6 _ _ (Zh ht (.tup [x,z]) _ _ eD),fun b o q=>?_,Zb,?_⟩⟩
     · rw [Zm (ZG q hD)];exact s6 _ _ (s5 _ _ q)
     · rw [List.replicate_succ',List.map_append];rfl
   · rintro ys H3 ⟨s3,eD,rfl⟩
     refine ⟨D,_,rfl,SqL.of eD,?_⟩
     rw [show ∀ k,(List.replicate k true).all id=true from fun k=>by simp]
     exact q H3 (s1.trans s3)
 | tup e1 h1 q1 =>
   cases dy with
   | tup e2 h2 q2 =>
   rename_i av1 xs1 ds av2 xs2
   have hnb:Vq ds=true:=hb
   have hl1:=q1.len
   have hl2:=q2.len
   refine Zv ⟨_,rfl,_,_,_,_,rfl,ty1,l1,_,rfl,_,_,_,_,rfl,ty2,l2,rfl,_,rfl,VH rfl ?_⟩
   refine ⟨_,rfl,_,_,_,_,rfl,ty1,p1,_,rfl,_,_,_,_,rfl,ty2,p2,rfl,_,rfl,VH rfl ?_⟩
   refine ⟨_,rfl,_,xs1,rfl,.inr e1,_,rfl,_,xs2,rfl,.inr e2,rfl,_,rfl,ifT (decide_eq_true (by rw [hl1,hl2])) ?_⟩
   refine .inr ⟨_,rfl,_,rfl,_,_,xs1,xs2,rfl,e1,e2,fun D hD=>?_⟩
   refine Zfj (K:=K) (xs:=xs1) (zs:=xs2) (Zr (show xs1.length≤20000 from h1)) (by omega) (fun i ys H'=>Same H1 H'∧H' D=some (.lst ys)∧ys=(List.replicate i true).map V.bl) ⟨Zh hD _,Zb,rfl⟩ ?_ ?_ ?_
   · rintro i ys H' ⟨s4,_,rfl⟩;exact ⟨by simp,e1.tf s4.tf,e2.tf s4.tf⟩
   · rintro i x z t ys H' wa wb hx hz ht ⟨s4,eD,rfl⟩
     obtain ⟨d1,ed1,dd1⟩:=q1.at hx
     obtain ⟨d2,ed2,dd2⟩:=q2.at hz
     cases (ed1.symm.trans ed2)
     have s5:=s4.trans (Zh ht (.tup [x,z]))
     refine ⟨t,_,rfl,SqT.of Zb,rfl,_,_,rfl,_,_,rfl,rfl,⟨_,_,rfl⟩,?_⟩
     refine ⟨_,rfl,_,rfl,d1.depth+1,by have h3:=Zae ed1;have h4:(PyData.tuple ds).depth < n:=hn;rw [PyData.depth] at h4;omega,x,z,d1,rfl,dd1.same s5,dd2.same s5,ZcZ hnb ed1,Nat.lt_succ_self _,fun H2 s6=>⟨s6 _ _ (Zh ht (.tup [x,z]) _ _ eD),fun b o q=>?_,Zb,?_⟩⟩
     · rw [Zm (ZG q hD)];exact s6 _ _ (s5 _ _ q)
     · rw [List.replicate_succ',List.map_append];rfl
   · rintro ys H3 ⟨s3,eD,rfl⟩
     refine ⟨D,_,rfl,SqL.of eD,?_⟩
     rw [show ∀ k,(List.replicate k true).all id=true from fun k=>by simp]
     exact q H3 (s1.trans s3)
theorem ZdM {f:Addr}{fd:FuncData}(F:Fun K "_law_same" "_law_same" s_l_same f fd)(T:Yk mg)(b:Binds K fd Zal [])(kp:PySem.W.keepIn K (.ref f)=true)(m:mg "_law_same"=some (.ref f)):∀ n,FnOk P w K mg base ZY (n+1) f fd Zal (Vy K n)
 | 0=>ZcD F T ⟨_,_,⟨fun vs H Q E ⟨_,h,_⟩=>absurd h (Nat.not_lt_zero _),fun _ _ _ _ _ _ _ _ _ _ _ _ _ ⟨_,h,_⟩=>absurd h (Nat.not_lt_zero _)⟩,b,kp,m⟩
 | n+1=>ZcD F T ⟨_,_,(ZdM F T b kp m n).imp fun vs H Q E ⟨j,h,x,y,d,a1,a2,a3,a4,a5,a6⟩=>⟨x,y,d,a1,a2,a3,a4,by omega,a6⟩,b,kp,m⟩
end
end K70
set_option maxHeartbeats 2000000
namespace L2
open PySem PySem.Spec PyProof.Rows
section
variable {prog:Program}{w:World}{A:Around}{E:Value→Shared→Prop}{s:Shared}
theorem Zhy {z TI TO i1 i2 l1 l2:Addr}{k:Nat}{xs ys:Array Value}{x y a b:Value}{Q:Option Value→Shared→Prop}(D:ZipApart z TI TO i1 i2 l1 l2)(hz:IsZip s.heap z TI TO .none)(hTI:IsPair s.heap TI (.ref i1) (.ref i2))(hTO:IsPair s.heap TO a b)
   (h1:s.heap.IsTupleIter i1 l1 k) (h2:s.heap.IsListIter i2 l2 k) (t1:s.heap.IsTuple l1 xs) (t2:s.heap.IsList l2 ys) (hx:xs[k]?=some x) (hy:ys[k]?=some y)
   (q:∀ h',IsZip h' z TI TO (rawInt s.heap.objs.size)→IsPair h' TO x y→h'.IsTupleIter i1 l1 (k+1)→h'.IsListIter i2 l2 (k+1)→IsPair h' s.heap.objs.size x y→h'.objs.size=s.heap.objs.size+1 →
     (∀ c o,c≠z→c≠TO→c≠i1→c≠i2→s.heap.get? c=some o→h'.get? c=some o)→Q (some (.ref s.heap.objs.size)) { s with heap:=h' }):wpAny (model prog w) A (pyNext (.ref z)) Q E s:=by
 have hT:s.TypeIs (.ref z) "zip":=⟨_,hz,rfl⟩
 unfold pyNext
 refine wpAny_bind (wpAny_attempt (wpAny_callSpecial?_slot (name:=Str.ofString "__next__") hT F.slot_zip_next (wpAny_call_entry F.slot_zip_next hT F.entry_zip_next ?_ (F.args_zip_next_1 _))))
 refine wpAny_bind (m:=field (.ref z) 2) (wpAny_field hz rfl (x:=.bool false) rfl ?_)
 refine wpAny_bind (m:=field (.ref z) 3) (wpAny_field hz rfl (x:=.ref TI) rfl ?_)
 refine wpAny_bind (wpAny_seqItems hTI rfl ?_)
 refine wpAny_bind (m:=Builtin.SmallTypes.ownedTupleIsFree (.ref z)) ?_
 unfold Builtin.SmallTypes.ownedTupleIsFree
 refine wpAny_bind (wpAny_field hz rfl (x:=.none) rfl (wpAny_pure ?_))
 simp only [if_true]
 refine wpAny_bind (wpAny_rule ?_)
 refine wpAny_bind (wpAny_field hz rfl (x:=.ref TO) rfl ?_)
 refine wpAny_bind (wpAny_setField_rec hz (by simp) fun ha hza sa=>?_)
 replace hza:IsZip ha z TI TO .ellipsis:=hza
 refine wpAny_bind ?_
 simp only [List.zipIdx_cons,List.zipIdx_nil,List.forIn_cons,List.forIn_nil]
 have Ea:=sa.extBut
 refine wpAny_bind (wpAny_bind (wpAny_onRaise ?_))
 refine wpAny_bind (m:=Builtin.SmallTypes.nextOf (.ref i1)) (WK (h1.extBut Ea D.i1z) (t1.extBut Ea D.l1z) hx fun hb i1b sb=>wpAny_pure ?_)
 have Eb:=sb.extBut
 have TOb:IsPair hb TO a b:=Eb _ _ D.TOi1 (Ea _ _ D.TOz hTO)
 refine wpAny_bind (wpAny_seqItems TOb rfl ?_)
 refine wpAny_bind (wpAny_updateSeq_pair TOb fun hc TOc sc=>?_)
 replace TOc:IsPair hc TO x b:=TOc
 have Ec:=sc.extBut
 refine wpAny_bind (wpAny_letGo (wpAny_pure ?_))
 refine wpAny_bind (wpAny_bind (wpAny_onRaise ?_))
 refine wpAny_bind (m:=Builtin.SmallTypes.nextOf (.ref i2)) (wpAny_nextOf_list_item (((h2.extBut Ea D.i2z).extBut Eb D.i12.symm).extBut Ec D.TOi2.symm) (((t2.extBut Ea D.l2z).extBut Eb D.l2i1).extBut Ec D.l2TO) hy fun hd i2d sd=>wpAny_pure ?_)
 have Ed:=sd.extBut
 have TOd:IsPair hd TO x b:=Ed _ _ D.TOi2 TOc
 refine wpAny_bind (wpAny_seqItems TOd rfl ?_)
 refine wpAny_bind (wpAny_updateSeq_pair TOd fun he TOe se=>?_)
 replace TOe:IsPair he TO x y:=TOe
 have Ee:=se.extBut
 refine wpAny_bind (wpAny_letGo (wpAny_pure (wpAny_pure ?_)))
 refine wpAny_bind (wpAny_seqItems TOe rfl ?_)
 refine wpAny_bind (wpAny_newTuple ?_)
 have hsz:he.objs.size=s.heap.objs.size:=by rw [se.1,sd.1,sc.1,sb.1,sa.1]
 have all:∀ c o,c≠z→c≠TO→c≠i1→c≠i2→s.heap.get? c=some o→he.get? c=some o:=fun c o c1 c2 c3 c4 e=>Ee _ _ c2 (Ed _ _ c4 (Ec _ _ c2 (Eb _ _ c3 (Ea _ _ c1 e))))
 have ze:IsZip he z TI TO .ellipsis:=Ee _ _ D.TOz.symm (Ed _ _ D.i2z.symm (Ec _ _ D.TOz.symm (Eb _ _ D.i1z.symm hza)))
 have i1e:he.IsTupleIter i1 l1 (k+1):=((i1b.extBut Ec D.TOi1.symm).extBut Ed D.i12).extBut Ee D.TOi1.symm
 have i2e:he.IsListIter i2 l2 (k+1):=i2d.extBut Ee D.TOi2.symm
 have zl:z < he.objs.size:=Heap.lt_size ze
 refine wpAny_bind (m:=Builtin.SmallTypes.ownedTupleHandOut (.ref z) (.ref he.objs.size)) ?_
 unfold Builtin.SmallTypes.ownedTupleHandOut
 refine wpAny_bind (wpAny_setField_rec (show IsZip (he.push { cls:=.type "tuple",data:=.seq #[x,y] }) z TI TO .ellipsis from Heap.get?_push_of_some _ ze) (by simp) fun hf zf sf=>?_)
 replace zf:IsZip hf z TI TO (rawInt he.objs.size):=zf
 refine wpAny_setField_rec zf (by simp) fun hg zg sg=>?_
 replace zg:IsZip hg z TI TO (rawInt he.objs.size):=zg
 have up:∀ c o,c≠z→he.get? c=some o→hg.get? c=some o:=fun c o c1 e=>sg.extBut _ _ c1 (sf.extBut _ _ c1 (Heap.get?_push_of_some _ e))
 have new:IsPair hg he.objs.size x y:=sg.extBut _ _ (Nat.ne_of_gt zl) (sf.extBut _ _ (Nat.ne_of_gt zl) (Heap.get?_push_size _ rfl))
 have sz:hg.objs.size=he.objs.size+1:=by rw [sg.1,sf.1,Heap.size_push]
 rw [hsz] at zg new sz
 refine wpAny_pure ⟨_,rfl,?_⟩
 show wpAny _ _ (pure (some (Value.ref he.objs.size))) _ _ _
 rw [hsz]
 refine wpAny_pure (q hg zg (up _ _ D.TOz TOe) ?_ ?_ new sz fun c o c1 c2 c3 c4 e=>up c o c1 (all c o c1 c2 c3 c4 e))
 · obtain ⟨o,eo,r⟩:=i1e;exact ⟨o,up _ _ D.i1z eo,r⟩
 · obtain ⟨o,eo,r⟩:=i2e;exact ⟨o,up _ _ D.i2z eo,r⟩
theorem ZkN {z TI TO i1 i2 l1 l2:Addr}{k:Nat}{xs:Array Value}{a b:Value}{Q:Option Value→Shared→Prop}(hh:A.handled=none)(D:ZipApart z TI TO i1 i2 l1 l2)(hz:IsZip s.heap z TI TO .none)(hTI:IsPair s.heap TI (.ref i1) (.ref i2))(hTO:IsPair s.heap TO a b)
   (h1:s.heap.IsTupleIter i1 l1 k) (t1:s.heap.IsTuple l1 xs) (hx:xs[k]?=none)
   (q:∀ h',(∀ c o,c≠z→c≠TO→c≠i1→c≠i2→s.heap.get? c=some o→h'.get? c=some o)→Q none { s with heap:=h' }):wpAny (model prog w) A (pyNext (.ref z)) Q E s:=by
 have hT:s.TypeIs (.ref z) "zip":=⟨_,hz,rfl⟩
 unfold pyNext
 refine wpAny_bind (wpAny_attempt (wpAny_callSpecial?_slot (name:=Str.ofString "__next__") hT F.slot_zip_next (wpAny_call_entry F.slot_zip_next hT F.entry_zip_next ?_ (F.args_zip_next_1 _))))
 refine wpAny_bind (m:=field (.ref z) 2) (wpAny_field hz rfl (x:=.bool false) rfl ?_)
 refine wpAny_bind (m:=field (.ref z) 3) (wpAny_field hz rfl (x:=.ref TI) rfl ?_)
 refine wpAny_bind (wpAny_seqItems hTI rfl ?_)
 refine wpAny_bind (m:=Builtin.SmallTypes.ownedTupleIsFree (.ref z)) ?_
 unfold Builtin.SmallTypes.ownedTupleIsFree
 refine wpAny_bind (wpAny_field hz rfl (x:=.none) rfl (wpAny_pure ?_))
 simp only [if_true]
 refine wpAny_bind (wpAny_rule ?_)
 refine wpAny_bind (wpAny_field hz rfl (x:=.ref TO) rfl ?_)
 refine wpAny_bind (wpAny_setField_rec hz (by simp) fun ha hza sa=>?_)
 replace hza:IsZip ha z TI TO .ellipsis:=hza
 refine wpAny_bind ?_
 simp only [List.zipIdx_cons,List.zipIdx_nil,List.forIn_cons,List.forIn_nil]
 refine wpAny_bind (wpAny_bind (wpAny_onRaise ?_))
 refine wpAny_bind (m:=Builtin.SmallTypes.nextOf (.ref i1)) (ZaD hh (h1.extBut sa.extBut D.i1z) (t1.extBut sa.extBut D.l1z) hx fun hb e Eb he=>?_)
 obtain ⟨oe,eoe,ce⟩:=he
 have zb:IsZip hb z TI TO .ellipsis:=Eb _ _ D.i1z.symm hza
 have ez:e≠z:=fun x=>by subst x;rw [zb] at eoe;cases eoe;simp at ce
 refine wpAny_setField_rec zb (by simp) fun hc _ sc=>?_
 refine wpAny_bind (wpAny_isInstance (T:="StopIteration") (b:=true) ⟨oe,sc.extBut _ _ ez eoe,ce⟩ isSubtype_stop ?_)
 exact wpAny_pure (q _ fun c o c1 _ c3 _ x=>sc.extBut _ _ c1 (Eb _ _ c3 (sa.extBut _ _ c1 x)))
theorem ZiW {z TI TO i1 i2 l1 l2:Addr}{k:Nat}{xs ys:Array Value}{x a b:Value}{Q:Option Value→Shared→Prop}(hh:A.handled=none)(D:ZipApart z TI TO i1 i2 l1 l2)(hz:IsZip s.heap z TI TO .none)(hTI:IsPair s.heap TI (.ref i1) (.ref i2))(hTO:IsPair s.heap TO a b)
   (h1:s.heap.IsTupleIter i1 l1 k) (h2:s.heap.IsListIter i2 l2 k) (t1:s.heap.IsTuple l1 xs) (t2:s.heap.IsList l2 ys) (hx:xs[k]?=some x) (hy:ys[k]?=none)
   (q:∀ h',(∀ c o,c≠z→c≠TO→c≠i1→c≠i2→s.heap.get? c=some o→h'.get? c=some o)→Q none { s with heap:=h' }):wpAny (model prog w) A (pyNext (.ref z)) Q E s:=by
 have hT:s.TypeIs (.ref z) "zip":=⟨_,hz,rfl⟩
 unfold pyNext
 refine wpAny_bind (wpAny_attempt (wpAny_callSpecial?_slot (name:=Str.ofString "__next__") hT F.slot_zip_next (wpAny_call_entry F.slot_zip_next hT F.entry_zip_next ?_ (F.args_zip_next_1 _))))
 refine wpAny_bind (m:=field (.ref z) 2) (wpAny_field hz rfl (x:=.bool false) rfl ?_)
 refine wpAny_bind (m:=field (.ref z) 3) (wpAny_field hz rfl (x:=.ref TI) rfl ?_)
 refine wpAny_bind (wpAny_seqItems hTI rfl ?_)
 refine wpAny_bind (m:=Builtin.SmallTypes.ownedTupleIsFree (.ref z)) ?_
 unfold Builtin.SmallTypes.ownedTupleIsFree
 refine wpAny_bind (wpAny_field hz rfl (x:=.none) rfl (wpAny_pure ?_))
 simp only [if_true]
 refine wpAny_bind (wpAny_rule ?_)
 refine wpAny_bind (wpAny_field hz rfl (x:=.ref TO) rfl ?_)
 refine wpAny_bind (wpAny_setField_rec hz (by simp) fun ha hza sa=>?_)
 replace hza:IsZip ha z TI TO .ellipsis:=hza
 refine wpAny_bind ?_
 simp only [List.zipIdx_cons,List.zipIdx_nil,List.forIn_cons,List.forIn_nil]
 have Ea:=sa.extBut
 refine wpAny_bind (wpAny_bind (wpAny_onRaise ?_))
 refine wpAny_bind (m:=Builtin.SmallTypes.nextOf (.ref i1)) (WK (h1.extBut Ea D.i1z) (t1.extBut Ea D.l1z) hx fun hb i1b sb=>wpAny_pure ?_)
 have Eb:=sb.extBut
 have TOb:IsPair hb TO a b:=Eb _ _ D.TOi1 (Ea _ _ D.TOz hTO)
 refine wpAny_bind (wpAny_seqItems TOb rfl ?_)
 refine wpAny_bind (wpAny_updateSeq_pair TOb fun hc TOc sc=>?_)
 have Ec:=sc.extBut
 refine wpAny_bind (wpAny_letGo (wpAny_pure ?_))
 refine wpAny_bind (wpAny_bind (wpAny_onRaise ?_))
 refine wpAny_bind (m:=Builtin.SmallTypes.nextOf (.ref i2)) (wpAny_nextOf_list_end hh (((h2.extBut Ea D.i2z).extBut Eb D.i12.symm).extBut Ec D.TOi2.symm) (((t2.extBut Ea D.l2z).extBut Eb D.l2i1).extBut Ec D.l2TO) hy fun hd e Ed he=>?_)
 obtain ⟨oe,eoe,ce⟩:=he
 have zb:IsZip hd z TI TO .ellipsis:=Ed _ _ D.i2z.symm (Ec _ _ D.TOz.symm (Eb _ _ D.i1z.symm hza))
 have ez:e≠z:=fun x=>by subst x;rw [zb] at eoe;cases eoe;simp at ce
 refine wpAny_setField_rec zb (by simp) fun hf _ sf=>?_
 refine wpAny_bind (wpAny_isInstance (T:="StopIteration") (b:=true) ⟨oe,sf.extBut _ _ ez eoe,ce⟩ isSubtype_stop ?_)
 exact wpAny_pure (q _ fun c o c1 c2 c3 c4 x=>sf.extBut _ _ c1 (Ed _ _ c4 (Ec _ _ c2 (Eb _ _ c3 (Ea _ _ c1 x)))))
end
abbrev Vb (l:Addr):Obj:={ cls:=.type "list_iterator",data:=.fields #[.ref l,.int 0 0] }
abbrev Zbx (h:Heap)(l1 l2:Addr):Heap:=((((h.push (ZT l1)).push (Vb l2)).push { cls:=.type "tuple",data:=.seq #[.ref h.objs.size,.ref (h.push (ZT l1)).objs.size] }).push { cls:=.type "tuple",data:=.seq #[.none,.none] })
theorem ZkB (l1 l2:Addr)(xs ys:Array Value):Meets (Builtin.«zip.__new__» ⟨[.type "zip",.ref l1,.ref l2],[]⟩) (fun _ R s=>s.heap.IsTuple l1 xs∧s.heap.IsList l2 ys ∧
     R (.ok (.ret (.ref (Zbx s.heap l1 l2).objs.size))) { s with heap:=(Zbx s.heap l1 l2).push { cls:=.type "zip",data:=.fields #[.none,.bool false,.bool false,.ref ((s.heap.push (ZT l1)).push (Vb l2)).objs.size,.ref (((s.heap.push (ZT l1)).push (Vb l2)).push { cls:=.type "tuple",data:=.seq #[.ref s.heap.objs.size,.ref (s.heap.push (ZT l1)).objs.size] }).objs.size] } }) :=
 .of_wp fun prog w A R s h=>by
   obtain ⟨hp,g,d,tk,os⟩:=s;obtain ⟨hl1,hl2,h⟩:=h
   have hsub:=sub_zip
   have hL1:Heap.IsTuple (Shared.heap ⟨hp,g,d,tk,os⟩) l1 xs:=hl1
   have hL2:Heap.IsList (Shared.heap ⟨hp.push (ZT l1),g,d,tk,os⟩) l2 ys:=Heap.IsList.push hl2 _
   wp_walk using wpAny_pyIter_tuple hL1,wpAny_pyIter_list hL2
   exact ⟨_,rfl,h⟩
section
variable {prog:Program}{w:World}{A:Around}{E:Value→Shared→Prop}{s:Shared}
theorem ZiL {l1 l2:Addr}{xs ys:Array Value}{Q:Value→Shared→Prop}(hl1:s.heap.IsTuple l1 xs)(hl2:s.heap.IsList l2 ys)
   (h:∀ h',IsZip h' (s.heap.objs.size+4) (s.heap.objs.size+2) (s.heap.objs.size+3) .none→IsPair h' (s.heap.objs.size+2) (.ref s.heap.objs.size) (.ref (s.heap.objs.size+1)) →
     IsPair h' (s.heap.objs.size+3) .none .none→h'.IsTupleIter s.heap.objs.size l1 0→h'.IsListIter (s.heap.objs.size+1) l2 0→h'.objs.size=s.heap.objs.size+5 →
     (∀ c o,s.heap.get? c=some o→h'.get? c=some o)→Q (.ref (s.heap.objs.size+4)) { s with heap:=h' }):wpAny (model prog w) A (call (.type "zip") [.ref l1,.ref l2]) Q E s:=by
 refine callType_new F.called_zip (by decide) (F.typeCall_zip_2 _ _) (F.newCall_zip_2 _ _) (fun obj=>F.args_object_init_3 obj _ _) F.entry_zip_new (ZkB l1 l2 xs ys) ⟨hl1,hl2,?_⟩
 have z1:(s.heap.push (ZT l1)).objs.size=s.heap.objs.size+1:=Heap.size_push ..
 have z2:((s.heap.push (ZT l1)).push (Vb l2)).objs.size=s.heap.objs.size+2:=by rw [Heap.size_push,z1]
 have z3:(((s.heap.push (ZT l1)).push (Vb l2)).push { cls:=.type "tuple",data:=.seq #[.ref s.heap.objs.size,.ref (s.heap.push (ZT l1)).objs.size] }).objs.size=s.heap.objs.size+3:=by rw [Heap.size_push,z2]
 have z4:(Zbx s.heap l1 l2).objs.size=s.heap.objs.size+4:=by rw [Heap.size_push,z3]
 show _∧_
 rw [z4,z3,z2]
 have up:∀ {h:Heap} {o:Obj} {c:Addr} {u:Obj},h.get? c=some u→(h.push o).get? c=some u:=fun e=>Heap.get?_push_of_some _ e
 have g5:((Zbx s.heap l1 l2).push { cls:=.type "zip",data:=.fields #[.none,.bool false,.bool false,.ref (s.heap.objs.size+2),.ref (s.heap.objs.size+3)] }).get? (Zbx s.heap l1 l2).objs.size=some _:=Heap.get?_push_size _ rfl
 have g4:(Zbx s.heap l1 l2).get? _=some _:=Heap.get?_push_size _ rfl
 have g3:(((s.heap.push (ZT l1)).push (Vb l2)).push { cls:=.type "tuple",data:=.seq #[.ref s.heap.objs.size,.ref (s.heap.push (ZT l1)).objs.size] }).get? _=some _:=Heap.get?_push_size _ rfl
 have g2:((s.heap.push (ZT l1)).push (Vb l2)).get? _=some _:=Heap.get?_push_size _ rfl
 have g1:(s.heap.push (ZT l1)).get? _=some _:=Heap.get?_push_size _ rfl
 rw [z4] at g5
 rw [z3] at g4
 rw [z2] at g3
 rw [z1] at g2
 conv at g3=>rhs;rw [z1]
 exact ⟨⟨_,g5,rfl⟩,h _ g5 (up (up g3)) (up g4) ⟨_,up (up (up (up g1))),rfl,rfl⟩ ⟨_,up (up (up g2)),rfl,rfl⟩ (by rw [Heap.size_push,z4]) fun c o x=>up (up (up (up (up x))))⟩
end
def VS (K:PySem.W.Frag)(l1 l2:Addr):It :=
 ⟨fun i H=>∃ xs ys x y,SqT K H l1 xs∧SqL K H l2 ys∧xs[i]?=some x∧ys[i]?=some y,
  fun i H v H'=>∃ t x y,H t=none∧(∀ xs,SqT K H l1 xs→xs[i]?=some x)∧(∀ ys,SqL K H l2 ys→ys[i]?=some y)∧v=.ref t∧H'=upd H t (.tup [x,y]),
  fun i H=>∃ xs ys,SqT K H l1 xs∧SqL K H l2 ys∧(xs.length≤i∨ys.length≤i)⟩
theorem ZeN {P:Program}{w:World}{K:PySem.W.Frag}{elts:List Expr}{x1:Nat}{tp:Pos}{z TI TO i1 i2 l1 l2:Addr}(D:ZipApart z TI TO i1 i2 l1 l2)(hTl1:l1≠TI)(hTl2:l2≠TI) :
   WE P w K (.Tuple elts x1 tp) (VS K l1 l2) [z,TI,TO,i1,i2] z (fun i h=>IsZip h z TI TO .none∧IsPair h TI (.ref i1) (.ref i2)∧(∃ a b,IsPair h TO a b)∧h.IsTupleIter i1 l1 i∧h.IsListIter i2 l2 i) where
 mem:=by simp
 obj:=fun i h st b hb=>by
   obtain ⟨hz,hTI,⟨a,c,hTO⟩,⟨o1,ho1,c1,d1⟩,⟨o2,ho2,c2,d2⟩⟩:=st
   simp only [List.mem_cons,List.not_mem_nil,or_false] at hb
   rcases hb with q | q | q | q | q
   · rw [q];exact ⟨_,hz,fun v z=>by cases z⟩
   · rw [q];exact ⟨_,hTI,fun v z=>by cases z⟩
   · rw [q];exact ⟨_,hTO,fun v z=>by cases z⟩
   · rw [q];exact ⟨o1,ho1,fun v z=>by rw [d1] at z;cases z⟩
   · rw [q];exact ⟨o2,ho2,fun v z=>by rw [d2] at z;cases z⟩
 keep:=fun i h h' st k=>by
   obtain ⟨hz,hTI,⟨a,c,hTO⟩,h1,h2⟩:=st
   exact ⟨k z (by simp) _ hz,k TI (by simp) _ hTI,⟨a,c,k TO (by simp) _ hTO⟩,h1.at fun o y=>k i1 (by simp) o y,h2.at fun o y=>k i2 (by simp) o y⟩
 item:=by
   intro X hP hw hK hc i pins s σ H E I hf st hg
   subst hP hw hK
   obtain ⟨hz,hTI,⟨a,b,hTO⟩,h1,h2⟩:=st
   obtain ⟨xs,ys,x,y,hq1,hq2,hx,hy⟩:=hg
   obtain ⟨its1,rv1,p1,hz1⟩:=I.tuple hq1
   obtain ⟨its2,rv2,p2,hz2⟩:=I.list hq2
   obtain ⟨u1,hu1,ru1⟩:=rv1.get hx
   obtain ⟨u2,hu2,ru2⟩:=rv2.get hy
   refine Zhy D hz hTI hTO h1 h2 p1 p2.isList (by simpa using hu1) (by simpa using hu2) fun h' g1 g2 g3 g4 g5 g6 g7=>?_
   refine ⟨_,rfl,wpAny_letOwnedTupleGo_zip g1 fun h2' g1' hs2=>?_⟩
   have hzl:z < s.heap.objs.size:=Heap.lt_size hz
   have hTIl:TI < s.heap.objs.size:=Heap.lt_size hTI
   have hTOl:TO < s.heap.objs.size:=Heap.lt_size hTO
   have hi1l:i1 < s.heap.objs.size:=by obtain ⟨o,ho,_⟩:=h1;exact Heap.lt_size ho
   have hi2l:i2 < s.heap.objs.size:=by obtain ⟨o,ho,_⟩:=h2;exact Heap.lt_size ho
   have g5':h'.get? s.heap.objs.size=some ({ cls:=.type "tuple",data:=.seq #[u1,u2] }:Obj):=g5
   generalize hO:({ cls:=.type "tuple",data:=.seq #[u1,u2] }:Obj)=O at g5'
   have I1:Inv X pins σ (upd H s.heap.objs.size (.tup [x,y])) { s with heap:=s.heap.push O,toks:=s.toks }:=by
     refine I.laid (t':=s.toks) (fun b o y=>Heap.get?_push_of_some _ y) (Nat.le_refl _) (show ObjOk X.prog X.w _ _ _ (.tup _) from ⟨by show 2≤sizeLine;decide,[u1,u2],.cons ru1 (.cons ru2 .nil),?_⟩)
     rw [← hO];exact IsTup.new _ _
   have hfree:=I.hok.fresh (Nat.le_refl s.heap.objs.size)
   have hf2:∀ b∈[z,TI,TO,i1,i2],YC X pins (upd H s.heap.objs.size (.tup [x,y])) b:=fun b hb=>by
     obtain ⟨f0,f1⟩:=hf b hb
     have hb':b≠s.heap.objs.size:=by
       simp only [List.mem_cons,List.not_mem_nil,or_false] at hb
       rcases hb with q | q | q | q | q<;>(rw [q];exact Nat.ne_of_lt (by assumption))
     exact ⟨by rw [Zm hb'];exact f0,f1⟩
   have I2:Inv X pins σ (upd H s.heap.objs.size (.tup [x,y])) { s with heap:=h2',toks:=s.toks }:=by
     refine I1.turned2 (t':=s.toks) (h':=h2') (fun b o hb y=>?_) hf2
     have n1:b≠z:=fun q=>hb (by simp [q])
     have n2:b≠TO:=fun q=>hb (by simp [q])
     have n3:b≠i1:=fun q=>hb (by simp [q])
     have n4:b≠i2:=fun q=>hb (by simp [q])
     rw [hs2.2 b n1]
     rcases Heap.get?_push_cases y with ⟨q1,q2⟩ | y
     · rw [q1,q2];exact g5'
     · exact g7 b o n1 n2 n3 n4 y
   refine ⟨.ref s.heap.objs.size,_,I2,rfl,⟨s.heap.objs.size,x,y,hfree,fun ys hy'=>by rw [I.tuple_inj hy' hq1];exact hx,fun ys' hy'=>by rw [I.list_inj hy' hq2];exact hy,rfl,rfl⟩,⟨g1',?_,⟨u1,u2,?_⟩,?_,?_⟩,fun b hb=>(hf2 b hb).1⟩
   · show h2'.get? TI=_
     rw [hs2.2 TI D.TIz];exact g7 TI _ D.TIz D.TITO D.TIi1 D.TIi2 hTI
   · show h2'.get? TO=_
     rw [hs2.2 TO D.TOz];exact g2
   · exact g3.at fun o y=>by rw [hs2.2 i1 D.i1z];exact y
   · exact g4.at fun o y=>by rw [hs2.2 i2 D.i2z];exact y
 done:=by
   intro X hP hw hK hc i pins s σ H E I hf st hg
   subst hP hw hK
   obtain ⟨hz,hTI,⟨a,b,hTO⟩,h1,h2⟩:=st
   obtain ⟨xs,ys,hq1,hq2,hle⟩:=hg
   obtain ⟨its1,rv1,p1,hz1⟩:=I.tuple hq1
   obtain ⟨its2,rv2,p2,hz2⟩:=I.list hq2
   have l1:=rv1.length
   have l2:=rv2.length
   have fin:∀ h':Heap,(∀ c o,c≠z→c≠TO→c≠i1→c≠i2→s.heap.get? c=some o→h'.get? c=some o)→Inv X pins σ H { s with heap:=h',toks:=s.toks }:=fun h' eb=>I.turned2 (t':=s.toks) (fp:=[z,TI,TO,i1,i2]) (fun b o hb y=>eb b o (fun q=>hb (by simp [q])) (fun q=>hb (by simp [q])) (fun q=>hb (by simp [q])) (fun q=>hb (by simp [q])) y) hf
   by_cases hlt:xs.length≤i
   · exact ZkN (I.ok.hd hc) D hz hTI hTO h1 p1 (Array.getElem?_eq_none (by simp;omega)) fun h' eb=>⟨rfl,fin h' eb⟩
   · exact ZiW (I.ok.hd hc) D hz hTI hTO h1 h2 p1 p2.isList (x:=its1[i]'(by omega)) (by simp [show i < its1.length by omega]) (Array.getElem?_eq_none (by simp;omega)) fun h' eb=>⟨rfl,fin h' eb⟩
 self:=fun _ _ _ _ _ st h=>wpAny_pyIter_zip st.1 h
def Zmm (K:PySem.W.Frag)(ta tb:TE):TI:=fun σ H R=>ta σ H fun v H1=>tb σ H1 fun u H2=>∃ a b xs ys,[v,u]=[V.ref a,V.ref b]∧SqT K H2 a xs∧H2 b=some (.lst ys)∧R (VS K a b) H2
section
variable {X:Cx}
theorem Zhu {l m:Expr}{ta tb:TE}{elts:List Expr}{x1:Nat}{tp p pos:Pos}(hg:Gl X "zip")(hm:X.mg "zip"=none)(hl:PE X l ta)(hr:PE X m tb)
   (he:starEach [l,m] X.env=(false,eval l X.env)::starEach [m] X.env:=by rfl) (he2:starEach [m] X.env=[(false,eval m X.env)]:=by rfl) (hpl:(backTo pos (starEach [m] X.env)).any (·.1)=false:=by rfl):PI X (.Tuple elts x1 tp) (.Call (.Name "zip" p) [l,m] [] pos) (Zmm X.K ta tb):=by
 intro pins s σ H R I h
 have ha:PA X [l,m] (Xa ta (Xa tb XL)):=Yp hl (Yp hr Za he2) he
 refine wpAny_Call_Name_kw (WS I hg hm Zau ?_)
 refine PyProof.Rows.callWith_type1 (Zp (ha pos pins s σ H (fun vs H2=>∃ a b xs ys,vs=[V.ref a,V.ref b]∧SqT X.K H2 a xs∧H2 b=some (.lst ys)∧R (VS X.K a b) H2) I h) fun us s1 ⟨vs,H1,I1,r1,a,b,xs,ys,e,ea,eb,q⟩=>?_) he hpl
 subst e
 obtain ⟨u1,u2,rfl,r2,r3⟩:∃ u1 u2,us=[u1,u2]∧RelV (V.ref a) u1∧RelV (V.ref b) u2:=by
   cases r1 with
   | cons p t=>cases t with
     | cons p2 t2=>cases t2;exact ⟨_,_,rfl,p,p2⟩
 cases r2
 cases r3
 obtain ⟨its1,rv1,⟨o1,eo1,c1,n1,d1⟩,_⟩:=I1.tuple ea
 obtain ⟨z2,its2,n2,rv2,hl2,eo2⟩:=I1.lstM eb
 have ha1:a < s1.heap.objs.size:=Heap.lt_size eo1
 have hb1:b < s1.heap.objs.size:=Heap.lt_size eo2
 refine ZiL ⟨_,eo1,c1,n1,d1⟩ ⟨_,eo2,rfl,n2,rfl⟩ fun h' g1 g2 g3 g4 g5 g6 g7=>wpAny_pyIter_zip g1 ?_
 refine ⟨s1.heap.objs.size+4,[s1.heap.objs.size+4,s1.heap.objs.size+2,s1.heap.objs.size+3,s1.heap.objs.size,s1.heap.objs.size+1],_,_,H1,rfl,I1.kept (t':=s1.toks) g7,ZeN (l1:=a) (l2:=b) ⟨?_,?_,?_,?_,?_,?_,?_,?_,?_,?_,?_,?_,?_,?_,?_,?_,?_,?_⟩ ?_ ?_,⟨g1,g2,⟨_,_,g3⟩,g4,g5⟩,fun c hc=>?_,q⟩
 rotate_right
 · simp only [List.mem_cons,List.not_mem_nil,or_false] at hc
   have up:∀ k,YC X pins H1 (s1.heap.objs.size+k):=fun k=>I1.fpOk (Nat.le_add_right _ k) (I1.hok.fresh (Nat.le_add_right _ k))
   rcases hc with q | q | q | q | q
   · rw [q];exact up 4
   · rw [q];exact up 2
   · rw [q];exact up 3
   · rw [q];exact up 0
   · rw [q];exact up 1
 all_goals
   first
     | exact Nat.ne_of_lt (by first | (apply Nat.lt_of_lt_of_le (by assumption);omega) | (simp only [Nat.add_lt_add_iff_left];decide) | (show _ < _+_;exact Nat.lt_add_of_pos_right (by decide)))
     | exact Nat.ne_of_gt (by first | (simp only [Nat.add_lt_add_iff_left];decide) | exact Nat.lt_add_of_pos_right (by decide))
end
theorem ZgJ {K:PySem.W.Frag}{a b:Addr}{xs ys:List V}{g:TG}{tb:TS}{D:Uc}{σ:St}{H:Hp}(hlen:ys.length≤xs.length)(Pv:Nat→St→Hp→Prop)(h0:Pv 0 σ H)(hl:∀ i σ H,i≤ys.length→Pv i σ H→SqT K H a xs∧SqL K H b ys)
   (hs:∀ i x y t σ H,xs[i]?=some x→ys[i]?=some y→H t=none→Pv i σ H→g (.ref t) σ (upd H t (.tup [x,y])) fun σ2 H2=>tb { D with nx:=Pv (i+1),ct:=Pv (i+1),bk:=D.nx } σ2 H2) (hd:∀ σ H,Pv ys.length σ H→D.nx σ H) :
   ∃ W:Nat→Nat→St→Hp→Prop,(∃ m,W 0 m σ H)∧∀ i m σ H,W i m σ H →
     ((VS K a b).stop i H∧D.nx σ H)∨((VS K a b).go i H∧∃ N:St→Hp→Prop,(∀ σ' H',N σ' H'→∃ m',m' < m∧W (i+1) m' σ' H')∧∀ x H',(VS K a b).yld i H x H'→g x σ H' fun σ2 H2=>tb { D with nx:=N,ct:=N,bk:=D.nx } σ2 H2):=by
 refine ⟨fun i m σ H=>m=ys.length - i∧i≤ys.length∧Pv i σ H,⟨ys.length,by simp,Nat.zero_le _,h0⟩,?_⟩
 rintro i m σ H ⟨rfl,hi,p⟩
 obtain ⟨q1,q2⟩:=hl i σ H hi p
 by_cases hlt:i < ys.length
 · refine .inr ⟨⟨xs,ys,xs[i]'(by omega),ys[i],q1,q2,by simp [show i < xs.length by omega],by simp [hlt]⟩,Pv (i+1),fun σ' H' p'=>⟨ys.length - (i+1),by omega,rfl,hlt,p'⟩,fun x H' y=>?_⟩
   obtain ⟨t,x',y',e1,e2,e3,e4,e5⟩:=y
   subst e4 e5
   exact hs i x' y' t σ _ (e2 xs q1) (e3 ys q2) e1 p
 · have e:i=ys.length:=by omega
   subst e
   exact .inl ⟨⟨xs,ys,q1,q2,.inr (Nat.le_refl _)⟩,hd σ H p⟩
end L2
set_option maxHeartbeats 4000000
namespace K70
open PySem L2
def _root_.L2.Pg.ws:Pg→List Str
 | .set x v s=>[x,ZP v,s]
 | .look x=>[x]
 | .slot _ s=>[s]
 | .pass=>[]
 | .blk _ _=>[]
 | .inn s _=>[s]
def _root_.L2.Pg.srow (p:Pg):Str:=Txt.join " " (p.word::p.ws)
def _root_.L2.Pg.ks:Pg→List Str
 | .set _ _ _=>["name","value","slot"]
 | .look _=>["name"]
 | .slot _ _=>["slot"]
 | .pass=>[]
 | .blk _ _=>[]
 | .inn _ _=>["slot"]
def Fit:List V→List Str→List Str→Prop
 | u::us,k::ks,y::ws=>((k="value"∧IsVal u∧y=ZP u)∨(k≠"value"∧u=.str y))∧Fit us ks ws
 | _,[],[]=>True
 | _,_,_=>False
theorem Fit.at:∀ {us:List V} {ks ws:List Str} {i:Nat} {k:Str},Fit us ks ws→ks[i]?=some k→∃ u y,us[i]?=some u∧ws[i]?=some y∧((k="value"∧IsVal u∧y=ZP u)∨(k≠"value"∧u=.str y))
 | u::us,k::ks,y::ws,0,_,h,e=>by cases e;exact ⟨u,y,rfl,rfl,h.1⟩
 | u::us,k::ks,y::ws,i+1,_,h,e=>by simpa using Fit.at (i:=i) h.2 e
 | _,[],_,_,_,_,e=>by simp at e
 | [],_::_,_,_,_,h,_=>by simp [Fit] at h
 | _::_,_::_,[],_,_,h,_=>by simp [Fit] at h
theorem Fit.len:∀{us:List V}{ks ws:List Str},Fit us ks ws→ks.length≤us.length∧ws.length=ks.length
 | u::us,k::ks,y::ws,h=>by have:=Fit.len h.2;simp only [List.length_cons];omega
 | _,[],[],_=>⟨Nat.zero_le _,rfl⟩
 | _,[],_::_,h=>by simp [Fit] at h
 | [],_::_,_,h=>by simp [Fit] at h
 | _::_,_::_,[],h=>by simp [Fit] at h
theorem ZkA {K:PySem.W.Frag}{H:Hp}{u v:V}(h:DatT K H u (Ve v))(hv:IsVal v):u=v:=by
 cases v with
 | int i=>cases h;rfl
 | str x=>cases h;rfl
 | _=>exact hv.elim
def YS (x:Str):Option (List V):=(PyProof.Rows.KTD.datumAt x Xt).map fun xs=>xs.filter fun v=>!decide (v=.str "program")
theorem ZgA {K:PySem.W.Frag}{H:Hp}{v:V}{p:Pg}(h:DatT K H v p.dat)(ho:p.ok):∃ a xs,v=.ref a∧SqT K H a (.str p.word::xs)∧xs.length≤3∧YS p.word=some (p.ks.map V.str)∧Fit xs p.ks p.ws:=by
 have nv:∀ x:Str,x="name"∨x="slot"→x≠"value":=by
   intro x hx;rcases hx with rfl | rfl<;>decide +kernel
 cases p with
 | set x v s =>
   obtain ⟨a,xs,rfl,e,q⟩:=DatT.tupI h
   obtain _ | ⟨q1,q2⟩:=q
   cases q1;obtain _ | ⟨q3,q4⟩:=q2;cases q3;obtain _ | ⟨q5,q6⟩:=q4;obtain _ | ⟨q7,q8⟩:=q6;cases q7;cases q8
   have e5:=ZkA q5 ho.2.1
   subst e5
   exact ⟨a,_,rfl,e,by simp,(show YS "set"=some ((["name","value","slot"]:List Str).map V.str) by decide +kernel),.inr ⟨nv _ (.inl rfl),rfl⟩,.inl ⟨rfl,ho.2.1,rfl⟩,.inr ⟨nv _ (.inr rfl),rfl⟩,trivial⟩
 | look x =>
   obtain ⟨a,xs,rfl,e,q⟩:=DatT.tupI h
   obtain _ | ⟨q1,q2⟩:=q
   cases q1;obtain _ | ⟨q3,q4⟩:=q2;cases q3;cases q4
   exact ⟨a,_,rfl,e,by simp,(show YS "look"=some ((["name"]:List Str).map V.str) by decide +kernel),.inr ⟨nv _ (.inl rfl),rfl⟩,trivial⟩
 | slot w s =>
   obtain ⟨a,xs,rfl,e,q⟩:=DatT.tupI h
   obtain _ | ⟨q1,q2⟩:=q
   cases q1;obtain _ | ⟨q3,q4⟩:=q2;cases q3;cases q4
   refine ⟨a,_,rfl,e,by simp,?_,.inr ⟨nv _ (.inr rfl),rfl⟩,trivial⟩
   rcases ho.1 with rfl | rfl
   · exact (show YS "back"=some ((["slot"]:List Str).map V.str) by decide +kernel)
   · exact (show YS "copy"=some ((["slot"]:List Str).map V.str) by decide +kernel)
 | pass =>
   obtain ⟨a,xs,rfl,e,q⟩:=DatT.tupI h
   obtain _ | ⟨q1,q2⟩:=q
   cases q1;cases q2
   exact ⟨a,_,rfl,e,by simp,(show YS "pass"=some (([]:List Str).map V.str) by decide +kernel),trivial⟩
 | blk w ps =>
   obtain ⟨a,xs,rfl,e,q⟩:=DatT.tupI h
   obtain _ | ⟨q1,q2⟩:=q
   cases q1;obtain _ | ⟨q3,q4⟩:=q2;cases q4
   refine ⟨a,_,rfl,e,by simp,?_,trivial⟩
   rcases ho.1 with rfl | rfl
   · exact (show YS "begin"=some (([]:List Str).map V.str) by decide +kernel)
   · exact (show YS "late"=some (([]:List Str).map V.str) by decide +kernel)
 | inn s ps =>
   obtain ⟨a,xs,rfl,e,q⟩:=DatT.tupI h
   obtain _ | ⟨q1,q2⟩:=q
   cases q1;obtain _ | ⟨q3,q4⟩:=q2;cases q3;obtain _ | ⟨q5,q6⟩:=q4;cases q6
   exact ⟨a,_,rfl,e,by simp,(show YS "in"=some ((["slot"]:List Str).map V.str) by decide +kernel),.inr ⟨nv _ (.inr rfl),rfl⟩,trivial⟩
theorem Zhd {p:Pg}(h:p.ok):p.word.length≤5∧(∀ y∈p.ws,y.length≤100)∧p.ws.length≤3:=by
 cases p with
 | set x v s =>
   have h1:=h.1.2.1
   have h2:=Zar h.2.1
   have h3:=h.2.2.2.1
   refine ⟨(show (Str.ofString "set").length≤5 by decide +kernel),fun y hy=>?_,by simp [Pg.ws]⟩
   simp only [Pg.ws,List.mem_cons,List.not_mem_nil,or_false] at hy
   rcases hy with rfl | rfl | rfl<;>omega
 | look x =>
   have h1:=(show Yg x from h).2.1
   refine ⟨(show (Str.ofString "look").length≤5 by decide +kernel),fun y hy=>?_,by simp [Pg.ws]⟩
   simp only [Pg.ws,List.mem_cons,List.not_mem_nil,or_false] at hy
   rw [hy];omega
 | slot w s =>
   have h1:=h.2.2.1
   refine ⟨?_,fun y hy=>?_,by simp [Pg.ws]⟩
   · rcases h.1 with rfl | rfl
     · exact (show (Str.ofString "back").length≤5 by decide +kernel)
     · exact (show (Str.ofString "copy").length≤5 by decide +kernel)
   · simp only [Pg.ws,List.mem_cons,List.not_mem_nil,or_false] at hy
     rw [hy];omega
 | pass=>exact ⟨(show (Str.ofString "pass").length≤5 by decide +kernel),fun y hy=>(nomatch hy),Nat.zero_le _⟩
 | blk w ps =>
   refine ⟨?_,fun y hy=>(nomatch hy),Nat.zero_le _⟩
   rcases h.1 with rfl | rfl
   · exact (show (Str.ofString "begin").length≤5 by decide +kernel)
   · exact (show (Str.ofString "late").length≤5 by decide +kernel)
 | inn s ps =>
   have h1:=h.1.2.1
   refine ⟨(show (Str.ofString "in").length≤5 by decide +kernel),fun y hy=>?_,Nat.succ_le_succ (Nat.zero_le _)⟩
   simp only [Pg.ws,List.mem_cons,List.not_mem_nil,or_false] at hy
   rw [hy];omega
theorem ZaE {x:Str}{xs:List V}(h:PyProof.Rows.KTD.datumAt x Xt=some xs):xs.length≤3∧∀ v∈xs,Zfy v (.str "program")=true:=by
 have:∀ p∈Xt,p.2.length≤3∧∀ v∈p.2,Zfy v (.str "program")=true:=by decide +kernel
 have mem:∀ (D:List (Str×List V)),PyProof.Rows.KTD.datumAt x D=some xs→∃ p∈D,p.2=xs:=by
   intro D
   induction D with
   | nil=>intro h;cases h
   | cons p D ih =>
     intro h
     rw [PyProof.Rows.KTD.datumAt] at h
     split at h
     · cases h;exact ⟨p,List.mem_cons_self,rfl⟩
     · obtain ⟨q,hq,e⟩:=ih h;exact ⟨q,List.mem_cons_of_mem _ hq,e⟩
 obtain ⟨p,hp,rfl⟩:=mem _ h
 exact this p hp
theorem Us {H H':Hp}{d:Addr}{o:HO}(s:Same H H')(h:H d=none):Same H (upd H' d o):=fun b u q=>by rw [Zm (ZG q h)];exact s _ _ q
theorem ZaI {n:Nat}:∀ zs:List Str,(∀ y∈zs,y.length≤n)→(zs.map (·.length)).sum≤n * zs.length:=fun zs=>by
 induction zs with
 | nil=>intro _;simp
 | cons z r ih =>
   intro hz
   have h1:=hz z List.mem_cons_self
   have h2:=ih fun y hy=>hz y (List.mem_cons_of_mem _ hy)
   rw [List.map_cons,List.sum_cons,List.length_cons,Nat.mul_add];omega
section
variable {P:Program}{w:World}{K:PySem.W.Frag}{mg:Str→Option Value}{base:Heap}
def ZhA (K:PySem.W.Frag):Sp:=fun vs H Q _=>∃(x:Str)(xs:List V),vs=[.str x]∧YS x=some xs∧∀ l H',Same H H'→H l=none→H' l=some (.lst xs)→Q (.ref l) H'
abbrev nKR:List Str:=["word"]
abbrev ZeJ:List Str:=["word"]
theorem scKR:Zz nKR ZeJ (Zl s_kinds_in_row):=⟨rfl,rfl,rfl,by decide +kernel,rfl,by decide +kernel,by decide +kernel⟩
theorem Zna {f:Addr}{fd:FuncData}(F:Fun K "kinds_in_row" "kinds_in_row" s_kinds_in_row f fd)(T:Yk mg)(DKi:Def P w K mg base 1 "kinds_of" ZcG (VQ K)):FnOk P w K mg base ZY 2 f fd ZeJ (ZhA K):=by
 refine F.ok scKR (fun vs H Q E h=>?_) (fun cdv A outer s H vs Q E hr h=>?_)
 · obtain ⟨x,xs,rfl,_⟩:=h;rfl
 obtain ⟨x,xs,rfl,hx,q⟩:=h
 refine' ⟨?t,?h,?r⟩
 case h =>
   conv=>arg 2;whnf
   with_reducible refine' (Zi ?h1)
   case h1=>exact Zo (Zji (CompOk.of nKR s_kinds_in_row rfl rfl (by decide +kernel)) rfl (ZcQ (ZC DKi hr (Zc (pv 0) Za))) (fun _ _ _ _ _=>ZF XZ (pv 1) Zj (ZH _)) (fun _ _ _ _ _=>pv 1))
 refine ⟨_,rfl,x,rfl,fun b ys e1 e2=>?_,fun e=>by unfold YS at hx;rw [e] at hx;cases hx⟩
 unfold YS at hx
 rw [e1] at hx
 cases hx
 obtain ⟨hl,hs⟩:=ZaE e1
 refine ⟨b,rfl,⟨_,e2⟩,fun D hD=>?_⟩
 refine ZfN (K:=K) (xs:=ys) (Zr (show ys.length≤1000 by omega)) (fun i zs H'=>Same H H'∧H' D=some (.lst zs)∧i≤ys.length∧zs=(ys.take i).filter fun v=>!decide (v=.str "program")) ⟨Zh hD _,Zb,Nat.zero_le _,rfl⟩ ?_ ?_ ?_
 · rintro i zs H' ⟨s1,_,hi,rfl⟩
   refine ⟨?_,e2.tf s1.tf⟩
   have:=List.length_filter_le (fun v=>!decide (v=V.str "program")) (ys.take i)
   rw [List.length_take] at this;omega
 · rintro i v zs H' hv ⟨s1,eD,hi,rfl⟩
   have hv2:=(List.getElem?_eq_some_iff.mp hv).1
   refine ⟨_,rfl,hs v (List.mem_of_getElem? hv),_,rfl,?_⟩
   have et:ys.take (i+1)=ys.take i++[v]:=by rw [List.take_add_one,hv];rfl
   cases hc:decide (v=V.str "program") with
   | true=>exact Zu ⟨s1,eD,hv2,by rw [et,List.filter_append,List.filter_cons,hc];simp⟩
   | false=>exact Zv ⟨_,rfl,eD,fun b o e=>by rw [Zm (ZG e hD)];exact s1 _ _ e,Zb,hv2,by rw [et,List.filter_append,List.filter_cons,hc];simp⟩
 · rintro zs H' ⟨s1,eD,_,rfl⟩
   rw [List.take_length] at eD
   exact q D H' s1 hD eD
def ZiS (K:PySem.W.Frag):Sp:=fun vs H Q _=>∃(v:V)(p:Pg),vs=[v]∧DatT K H v p.dat∧p.ok∧∀ H',Same H H'→Q (.str p.srow) H'
abbrev nSR:List Str:=["step","words","part","kind"]
abbrev ZeC:List Str:=["step"]
theorem scSR:Zz nSR ZeC (Zl s_step_row):=⟨rfl,rfl,rfl,by decide +kernel,rfl,by decide +kernel,by decide +kernel⟩
theorem ZmM {f:Addr}{fd:FuncData}(F:Fun K "step_row" "step_row" s_step_row f fd)(T:Yk mg)(DVT:Def P w K mg base 2 "value_text" ZeV Zhz)(DKR:Def P w K mg base 2 "kinds_in_row" ZeJ (ZhA K)):FnOk P w K mg base ZY 3 f fd ZeC (ZiS K):=by
 refine F.ok scSR (fun vs H Q E h=>?_) (fun cdv A outer s H vs Q E hr h=>?_)
 · obtain ⟨v,p,rfl,_⟩:=h;rfl
 obtain ⟨v,p,rfl,hp,ho,q⟩:=h
 obtain ⟨a,xs,rfl,e,hxl,hk,hf⟩:=ZgA hp ho
 obtain ⟨hw,hws,hwl⟩:=Zhd ho
 obtain ⟨hl1,hl2⟩:=hf.len
 refine' ⟨?t,?h,?r⟩
 case h =>
   conv=>arg 2;whnf
   with_reducible refine' (Zd ?h1 (Zd (Xu ?h2 ?h3 ?h4 ?h5 (Zi ?h6) ?h7) (Zi ?h8)))
   case h1=>exact Zw (i:=1) scSR.nd rfl (Or.inl rfl) (Yw (Zc (ZX Xr (pv 0) Zf (fun _ _=>rfl)) Za))
   case h2=>exact PassesOwn.never
   case h3=>exact rfl
   case h4=>exact Zhu rfl T.zip (ZM Zmi (pv 0) (ZK Zf) ZV) (ZC DKR hr (Zc (ZX Xr (pv 0) Zf (fun _ _=>rfl)) Za))
   case h5=>exact XT rfl (ZQ (ZD (i:=2) scSR.nd rfl (Or.inl rfl)) (ZQ (ZD (i:=3) scSR.nd rfl (Or.inl rfl)) Xi))
   case h6=>exact Wl (YH PySem.F.plainAttrs_list PySem.F.slot_list_append PySem.F.type_list_append YX (pv 1) (Zc (Yl (ZF Xn (pv 3) Zj (ZH _)) (ZC DVT hr (Zc (pv 2) Za)) (pv 2)) Za))
   case h7=>exact fun _=>rfl
   case h8=>exact Zo (YH PySem.F.plainAttrs_str PySem.F.slot_str_join PySem.F.type_str_join Uk Zj (Zc (pv 1) Za))
 refine ⟨_,rfl,a,_,_,_,rfl,rfl,e,YB (j:=0) rfl,(by show 1≤sizeLine;decide),fun l hl=>?_⟩
 have s1:=Zh hl (.lst [.str p.word])
 refine ⟨_,rfl,1,rfl,a,_,rfl,e.tf s1.tf,?_,fun t ht=>?_⟩
 · rintro ⟨h1,_⟩
   rw [show (1:Int)=((1:Nat):Int) from rfl,HT.sIx_nat,List.length_cons] at h1
   omega
 rw [show (1:Int)=((1:Nat):Int) from rfl,ZcS,List.drop_succ_cons,List.drop_zero]
 have s2:=Zh ht (.tup xs)
 have e2:(upd (upd H l (.lst [.str p.word])) t (.tup xs)) t=some (.tup xs):=Zb
 have el2:=s2 _ _ (show (upd H l (.lst [.str p.word])) l=_ from Zb)
 have s12:=s1.trans s2
 generalize upd (upd H l (.lst [.str p.word])) t (.tup xs)=H2 at *
 refine ⟨_,rfl,a,_,_,_,rfl,rfl,e.tf s12.tf,YB (j:=0) rfl,p.word,_,rfl,hk,fun k H3 s3 hk0 ek=>?_⟩
 refine ⟨t,k,xs,_,rfl,SqT.of (s3 _ _ e2),ek,?_⟩
 have hkl:k≠l:=Ne.symm (ZG el2 hk0)
 have el3:=s3 _ _ el2
 refine ZgJ (xs:=xs) (ys:=p.ks.map V.str) (by rw [List.length_map];exact hl1) (fun i σ H'=>∃ x2 x3,σ=[some (.ref a),some (.ref l),x2,x3]∧Same H H'∧H' l=some (.lst ((p.word::p.ws.take i).map V.str))∧H' t=some (.tup xs)∧H' k=some (.lst (p.ks.map V.str))) ⟨_,_,rfl,s12.trans s3,el3,s3 _ _ e2,ek⟩ (fun i σ H' _ ⟨_,_,_,_,_,e5,e6⟩=>⟨SqT.of e5,SqL.of e6⟩) ?_ ?_
 · rintro i u kv tt σ H4 hu hkv htt ⟨x2,x3,rfl,s4,el4,et4,ek4⟩
   rw [List.getElem?_map] at hkv
   obtain ⟨kk,ekk,rfl⟩:=Option.map_eq_some_iff.mp hkv
   obtain ⟨u',y,eu,ey,hc⟩:=hf.at ekk
   rw [hu] at eu
   cases eu
   have s5:=Zh htt (.tup [u,.str kk])
   refine ⟨tt,_,rfl,SqT.of Zb,rfl,_,_,rfl,_,_,rfl,rfl,?_⟩
   have hlen:(p.ws.take i).length≤3:=by rw [List.length_take];omega
   have fin:∀ H6,H6=upd (upd H4 tt (.tup [u,.str kk])) l (.lst ((p.word::p.ws.take i).map V.str++[.str y]))→∃ x2 x3,([some (.ref a),some (.ref l),some u,some (.str kk)]:St)=[some (.ref a),some (.ref l),x2,x3]∧Same H H6∧H6 l=some (.lst ((p.word::p.ws.take (i+1)).map V.str))∧H6 t=some (.tup xs)∧H6 k=some (.lst (p.ks.map V.str)):=by
     rintro H6 rfl
     have el5:=s5 _ _ el4
     refine ⟨_,_,rfl,Us (s4.trans s5) hl,?_,?_,?_⟩
     · rw [Zb,List.take_add_one,ey];simp
     · rw [Zm (Zjn (s5 _ _ et4) el5 (fun z=>nomatch z))];exact s5 _ _ et4
     · rw [Zm hkl];exact s5 _ _ ek4
   have hsz:((p.word::p.ws.take i).map V.str).length < sizeLine:=Uu (show _≤1000 by rw [List.length_map,List.length_cons];omega)
   rcases hc with ⟨rfl,hv,rfl⟩ | ⟨hne,rfl⟩
   · exact ⟨_,rfl,.inl ⟨rfl,_,SqL.of (s5 _ _ el4)⟩,_,rfl,rfl,_,rfl,Zv ⟨_,rfl,u,rfl,hv,l,_,_,rfl,rfl,s5 _ _ el4,hsz,fin _ rfl⟩⟩
   · have hd:decide (V.str kk=V.str (Str.ofString "value"))=false:=decide_eq_false fun z=>hne (by injection z)
     exact ⟨_,rfl,.inl ⟨rfl,_,SqL.of (s5 _ _ el4)⟩,_,rfl,rfl,_,rfl,VH hd ⟨_,rfl,l,_,_,rfl,rfl,s5 _ _ el4,hsz,fin _ rfl⟩⟩
 · rintro σ H4 ⟨x2,x3,rfl,s4,el4,_,_⟩
   rw [List.length_map,← hl2,List.take_length] at el4
   refine ⟨rfl,_,rfl," ",l,p.word::p.ws,rfl,rfl,SqL.of el4,?_,q H4 s4⟩
   have:=ZaI (n:=100) (p.word::p.ws) (fun y hy=>by rcases List.mem_cons.mp hy with rfl | hy;omega;exact hws y hy)
   rw [show (Str.ofString " ").length=1 by decide +kernel]
   rw [List.length_cons] at this ⊢;omega
end
end K70
set_option maxHeartbeats 4000000
namespace K70
open PySem L2
def UP (x:Str):Str:=Str.ofString "  "++x
mutual
def UO:Pg→List Str
 | .blk w ps=>Pg.srow (.blk w ps)::(ZU ps).map UP
 | .inn s ps=>Pg.srow (.inn s ps)::(ZU ps).map UP
 | .set x v s=>[Pg.srow (.set x v s)]
 | .look x=>[Pg.srow (.look x)]
 | .slot w s=>[Pg.srow (.slot w s)]
 | .pass=>[Pg.srow .pass]
def ZU:List Pg→List Str
 | []=>[]
 | p::ps=>(UO p)++ZU ps
end
theorem Xj (p:Pg):UO p=p.srow::(ZU p.inner).map UP:=by
 cases p<;>simp [UO,Pg.inner,ZU]
theorem ZcM:∀ ps qs:List Pg,ZU (ps++qs)=ZU ps++ZU qs
 | [],qs=>rfl
 | p::ps,qs=>by show (UO p)++ZU (ps++qs)=(UO p)++ZU ps++_;rw [ZcM ps qs,List.append_assoc]
theorem ZgD {ps:List Pg}{i:Nat}{p:Pg}(h:ps[i]?=some p):ZU (ps.take (i+1))=ZU (ps.take i)++(p.srow::(ZU p.inner).map UP):=by
 rw [List.take_add_one,h,ZcM,← Xj]
 show _++((UO p)++[])=_;rw [List.append_nil]
mutual
theorem Zkn:∀ p:Pg,(UO p).length=p.many
 | .blk w ps=>by
   have:=Xp ps
   have h2:=Pg.many_eq (.blk w ps)
   rw [Xj,List.length_cons,List.length_map,h2];show (ZU ps).length+1=1+Pg.manys ps;omega
 | .inn s ps=>by
   have:=Xp ps
   have h2:=Pg.many_eq (.inn s ps)
   rw [Xj,List.length_cons,List.length_map,h2];show (ZU ps).length+1=1+Pg.manys ps;omega
 | .set x v s=>by rw [Pg.many_eq];rfl
 | .look x=>by rw [Pg.many_eq];rfl
 | .slot w s=>by rw [Pg.many_eq];rfl
 | .pass=>by rw [Pg.many_eq];rfl
theorem Xp:∀ ps:List Pg,(ZU ps).length=Pg.manys ps
 | []=>rfl
 | p::ps=>by
   have h1:=Zkn p
   have h2:=Xp ps
   show ((UO p)++ZU ps).length=p.many+Pg.manys ps
   rw [List.length_append,h1,h2]
end
theorem WR (s:Str):∀ zs:List Str,(Str.join s zs).length≤(zs.map (·.length)).sum+zs.length * s.length
 | []=>by show 0≤_;omega
 | [z]=>by show z.length≤_;simp
 | p::q::r=>by
   have ih:=WR s (q::r)
   show (p++s++Str.join s (q::r)).length≤_
   rw [Zy,Zy,List.map_cons,List.sum_cons,List.length_cons,Nat.add_mul];omega
theorem Xo {p:Pg}(h:p.ok):p.srow.length≤500:=by
 obtain ⟨h1,h2,h3⟩:=Zhd h
 have:=ZaI (n:=100) (p.word::p.ws) (fun y hy=>by rcases List.mem_cons.mp hy with rfl | hy;omega;exact h2 y hy)
 have j:=WR " " (p.word::p.ws)
 unfold Pg.srow
 rw [tj]
 rw [show (Str.ofString " ").length=1 by decide +kernel] at j
 rw [List.length_cons] at this j
 omega
mutual
theorem ZjZ:∀{p:Pg},p.ok→∀ r∈(UO p),r.length≤500+2 * p.hgt
 | .blk w ps,h,r,hr=>by
   rw [Xj] at hr
   rcases List.mem_cons.mp hr with rfl | hr
   · have:=Xo h;omega
   · obtain ⟨x,hx,rfl⟩:=List.mem_map.mp hr
     have:=WG h.2 x hx
     show (Str.ofString "  "++x).length≤500+2 * (Pg.hgts ps+1)
     rw [Zy,show (Str.ofString "  ").length=2 by decide +kernel];omega
 | .inn s ps,h,r,hr=>by
   rw [Xj] at hr
   rcases List.mem_cons.mp hr with rfl | hr
   · have:=Xo h;omega
   · obtain ⟨x,hx,rfl⟩:=List.mem_map.mp hr
     have:=WG h.2 x hx
     show (Str.ofString "  "++x).length≤500+2 * (Pg.hgts ps+1)
     rw [Zy,show (Str.ofString "  ").length=2 by decide +kernel];omega
 | .set x v s,h,r,hr=>by rw [Xj] at hr;rcases List.mem_cons.mp hr with rfl | hr;(have:=Xo h;omega);exact absurd hr (by simp [Pg.inner,ZU])
 | .look x,h,r,hr=>by rw [Xj] at hr;rcases List.mem_cons.mp hr with rfl | hr;(have:=Xo h;omega);exact absurd hr (by simp [Pg.inner,ZU])
 | .slot w s,h,r,hr=>by rw [Xj] at hr;rcases List.mem_cons.mp hr with rfl | hr;(have:=Xo h;omega);exact absurd hr (by simp [Pg.inner,ZU])
 | .pass,h,r,hr=>by rw [Xj] at hr;rcases List.mem_cons.mp hr with rfl | hr;(have:=Xo h;omega);exact absurd hr (by simp [Pg.inner,ZU])
theorem WG:∀{ps:List Pg},Pg.oks ps→∀ r∈ZU ps,r.length≤500+2 * Pg.hgts ps
 | [],_,r,hr=>(nomatch hr)
 | p::ps,h,r,hr=>by
   have e:Pg.hgts (p::ps)=max p.hgt (Pg.hgts ps):=rfl
   rcases List.mem_append.mp (show r∈(UO p)++ZU ps from hr) with hr | hr
   · have:=ZjZ h.1 r hr;omega
   · have:=WG h.2 r hr;omega
end
section
variable {P:Program}{w:World}{K:PySem.W.Frag}{mg:Str→Option Value}{base:Heap}{tk:Tok}
def ZhR:Sp:=fun vs H Q _=>∃(l:Addr)(rs:List Str),vs=[.ref l]∧H l=some (.lst (rs.map V.str))∧rs.length≤1000∧(∀ r∈rs,r.length≤1000)∧∀ m H',Same H H'→H m=none→H' m=some (.lst ((rs.map UP).map V.str))→Q (.ref m) H'
abbrev nMI:List Str:=["rows"]
abbrev ZeZ:List Str:=["rows"]
theorem scMI:Zz nMI ZeZ (Zl s_moved_in):=⟨rfl,rfl,rfl,by decide +kernel,rfl,by decide +kernel,by decide +kernel⟩
theorem ZmS {f:Addr}{fd:FuncData}(F:Fun K "moved_in" "moved_in" s_moved_in f fd)(hFI:mg "FURTHER_IN"=some (.str "  " tk)):FnOk P w K mg base ZY 1 f fd ZeZ ZhR:=by
 refine F.ok scMI (fun vs H Q E h=>?_) (fun cdv A outer s H vs Q E hr h=>?_)
 · obtain ⟨l,rs,rfl,_⟩:=h;rfl
 obtain ⟨l,rs,rfl,el,hl,hb,q⟩:=h
 refine' ⟨?t,?h,?r⟩
 case h =>
   conv=>arg 2;whnf
   with_reducible refine' (Zi ?h1)
   case h1=>exact Zo (Xx (CompOk.of nMI s_moved_in rfl rfl (by decide +kernel)) rfl (Zbs (pv 0))  (fun _ _ _ _ _=>Zk Zs (YF rfl hFI (v:=.str "  ") ⟨_,rfl⟩) (pv 1)))
 refine ⟨_,rfl,l,rfl,⟨_,SqL.of el⟩,fun D hD=>?_⟩
 refine Zgk (K:=K) (xs:=rs.map V.str) (Zr (show _≤1000 by rw [List.length_map];omega)) (fun i ys H'=>Same H H'∧H' D=some (.lst ys)∧ys=((rs.take i).map UP).map V.str∧i≤rs.length) ⟨Zh hD _,Zb,rfl,Nat.zero_le _⟩ ?_ ?_ ?_
 · rintro i ys H' ⟨s1,_,rfl,hi⟩
   exact ⟨by rw [List.length_map,List.length_map,List.length_take];omega,SqL.of (s1 _ _ el)⟩
 · rintro i v ys H' hv ⟨s1,eD,rfl,hi⟩
   rw [List.getElem?_map] at hv
   obtain ⟨r,er,rfl⟩:=Option.map_eq_some_iff.mp hv
   have hrl:=hb r (List.mem_of_getElem? er)
   refine ⟨_,rfl,_,_,rfl,rfl,Zr (show _≤2000 by rw [show (Str.ofString "  ").length=2 by decide +kernel];omega),eD,fun b o e=>?_,Zb,?_,(List.getElem?_eq_some_iff.mp er).1⟩
   · rw [Zm (ZG e hD)];exact s1 _ _ e
   · rw [List.take_succ,er,List.map_append,List.map_append];rfl
 · rintro ys H2 ⟨s2,eD,rfl,_⟩
   rw [List.length_map,List.take_length] at eD
   exact q D H2 s2 hD eD
def Zcv (K:PySem.W.Frag)(n:Nat):Sp:=fun vs H Q _=>∃(v:V)(ps:List Pg),vs=[v]∧DatT K H v (.tuple (Pg.dats ps))∧Pg.oks ps∧Pg.rk ps≤n∧Pg.hgts ps≤100∧Pg.manys ps≤1000∧∀ l H',Same H H'→H l=none→H' l=some (.lst ((ZU ps).map V.str))→Q (.ref l) H'
abbrev nPR:List Str:=["program","rows","step"]
abbrev Zag:List Str:=["program"]
theorem scPR:Zz nPR Zag (Zl s_program_rows):=⟨rfl,rfl,rfl,by decide +kernel,rfl,by decide +kernel,by decide +kernel⟩
theorem ZfW {f:Addr}{fd:FuncData}{n k:Nat}(F:Fun K "program_rows" "program_rows" s_program_rows f fd)(T:Yk mg)(DPw:Def P w K mg base k "program_within" ZeH (Zaq K))(DSR:Def P w K mg base k "step_row" ZeC (ZiS K))(DMI:Def P w K mg base k "moved_in" ZeZ ZhR)(DPR:Def P w K mg base k "program_rows" Zag (fun vs H Q E=>∃ m,m < n∧Zcv K m vs H Q E)):FnOk P w K mg base ZY (k+1) f fd Zag (Zcv K n):=by
 refine F.ok scPR (fun vs H Q E h=>?_) (fun cdv A outer s H vs Q E hr h=>?_)
 · obtain ⟨v,ps,rfl,_⟩:=h;rfl
 obtain ⟨v,ps,rfl,hp,ho,hn,hh,hm,q⟩:=h
 obtain ⟨a,xs,rfl,e,hd⟩:=DatT.tupI hp
 have hl:=hd.pgs
 refine' ⟨?t,?h,?r⟩
 case h =>
   conv=>arg 2;whnf
   with_reducible refine' (Zd ?h1 (Zd (Xu ?h2 ?h3 ?h4 ?h5 (Zd ?h6 (Zi ?h7)) ?h8) (Zi ?h9)))
   case h1=>exact Zw (i:=1) scPR.nd rfl (Or.inl rfl) (Yw Za)
   case h2=>exact PassesOwn.never
   case h3=>exact rfl
   case h4=>exact ZcQ (pv 0)
   case h5=>exact ZD (i:=2) scPR.nd rfl (Or.inl rfl)
   case h6=>exact Wl (YH PySem.F.plainAttrs_list PySem.F.slot_list_append PySem.F.type_list_append YX (pv 1) (Zc (ZC DSR hr (Zc (pv 2) Za)) Za))
   case h7=>exact Wl (YH PySem.F.plainAttrs_list PySem.F.slot_list_extend PySem.F.type_list_extend Zgd (pv 1) (Zc (ZC DMI hr (Zc (ZC DPR hr (Zc (ZC DPw hr (Zc (pv 2) Za)) Za)) Za)) Za))
   case h8=>exact fun _=>rfl
   case h9=>exact Zo (pv 1)
 have hlm:=Pg.len_manys ps
 refine ⟨(by show 0≤sizeLine;decide),fun l hl0=>?_⟩
 refine ⟨_,rfl,a,rfl,⟨_,e.tf (Zh hl0 _).tf⟩,?_⟩
 refine ZdL (xs:=xs) (fun i σ H'=>∃ x2,σ=[some (.ref a),some (.ref l),x2]∧Same H H'∧H' l=some (.lst ((ZU (ps.take i)).map V.str))) ⟨_,rfl,Zh hl0 _,by rw [List.take_zero];exact Zb⟩ (fun i σ H' _ ⟨_,_,s',_⟩=>e.tf s'.tf) ?_ ?_
 · rintro i v σ H' hv ⟨x2,rfl,s',el⟩
   obtain ⟨p,ep,dp⟩:=hd.pg hv
   have hop:=Pg.oks_at ho ep
   have hml:=Pg.manys_le (ps:=ps) i
   have hml1:=Pg.manys_le (ps:=ps) (i+1)
   have hmt:=Pg.manys_take ep
   have hmp:=Pg.inner_many (p:=p)
   have hlr:=Xp (ps.take i)
   have hli:=Xp p.inner
   have hhp:=Pg.hgts_at ep
   have hhi:Pg.hgts p.inner≤100:=Pg.inner_hgt (n:=100) (by omega)
   refine ⟨_,rfl,.inl ⟨rfl,_,SqL.of el⟩,_,rfl,v,p,rfl,dp.same s',hop,fun H1 s1=>?_⟩
   refine ⟨l,_,_,rfl,rfl,s1 _ _ el,Uu (show _≤1000 by rw [List.length_map];omega),?_⟩
   have el1:upd H1 l (.lst ((ZU (ps.take i)).map V.str++[.str p.srow])) l=some (.lst ((ZU (ps.take i)).map V.str++[.str p.srow])):=Zb
   have s2:Same H (upd H1 l (.lst ((ZU (ps.take i)).map V.str++[.str p.srow]))):=Us (s'.trans s1) hl0
   generalize upd H1 l (.lst ((ZU (ps.take i)).map V.str++[.str p.srow]))=H2 at *
   refine ⟨_,rfl,.inl ⟨rfl,_,SqL.of el1⟩,_,rfl,v,p,rfl,dp.same s2,hop,fun t H3 s3 dt=>?_⟩
   refine ⟨Pg.rk p.inner,Nat.lt_of_lt_of_le (Pg.rk_at ep) hn,t,p.inner,rfl,dt,Pg.inner_ok hop,Nat.le_refl _,hhi,by omega,fun m H4 s4 hm0 em=>?_⟩
   refine ⟨m,ZU p.inner,rfl,em,by omega,fun r hr=>by have:=WG (Pg.inner_ok hop) r hr;omega,fun m2 H5 s5 hm2 em2=>?_⟩
   have el5:=((s3.trans s4).trans s5) _ _ el1
   refine ⟨l,m2,_,_,rfl,rfl,el5,em2,Zr (show _≤5000 by rw [List.length_append,List.length_map,List.length_map,List.length_map,List.length_singleton];omega),?_⟩
   refine ⟨_,rfl,Us (((s2.trans s3).trans s4).trans s5) hl0,?_⟩
   rw [Zb,ZgD ep];simp
 · rintro σ H' ⟨x2,rfl,s',el⟩
   rw [hl,List.take_length] at el
   exact ⟨_,rfl,q l H' s' hl0 el⟩
theorem Zjx {f:Addr}{fd:FuncData}(F:Fun K "program_rows" "program_rows" s_program_rows f fd)(T:Yk mg)(b:Binds K fd Zag [])(kp:PySem.W.keepIn K (.ref f)=true)(m:mg "program_rows"=some (.ref f))(DPw:Def P w K mg base 3 "program_within" ZeH (Zaq K))(DSR:Def P w K mg base 3 "step_row" ZeC (ZiS K))(DMI:Def P w K mg base 3 "moved_in" ZeZ ZhR):∀ n,FnOk P w K mg base ZY (4+n) f fd Zag (Zcv K n)
 | 0=>ZfW F T DPw DSR DMI ⟨_,_,⟨fun vs H Q E ⟨_,h,_⟩=>absurd h (Nat.not_lt_zero _),fun _ _ _ _ _ _ _ _ _ _ _ _ _ ⟨_,h,_⟩=>absurd h (Nat.not_lt_zero _)⟩,b,kp,m⟩
 | n+1=>ZfW F T (DPw.mono (show 3≤4+n by omega)) (DSR.mono (show 3≤4+n by omega)) (DMI.mono (show 3≤4+n by omega)) ⟨_,_,(Zjx F T b kp m DPw DSR DMI n).imp fun vs H Q E ⟨j,h,v,ps,a1,a2,a3,a4,a5⟩=>⟨v,ps,a1,a2,a3,by omega,a5⟩,b,kp,m⟩
def WU (ps:List Pg):Str:=Txt.join "\n" (ZU ps)
def spPT (K:PySem.W.Frag)(n:Nat):Sp:=fun vs H Q _=>∃(v:V)(ps:List Pg),vs=[v]∧DatT K H v (.tuple (Pg.dats ps))∧Pg.oks ps∧Pg.rk ps≤n∧Pg.hgts ps≤100∧Pg.manys ps≤1000∧∀ H',Same H H'→Q (.str (WU ps)) H'
theorem Zdl {ps:List Pg}(ho:Pg.oks ps)(hh:Pg.hgts ps≤100)(hm:Pg.manys ps≤1000):((ZU ps).map (·.length)).sum+(ZU ps).length * (Str.ofString "\n").length≤16777216:=by
 have h1:=ZaI (n:=1000) (ZU ps) (fun y hy=>by have:=WG ho y hy;omega)
 rw [Xp] at h1 ⊢
 rw [show (Str.ofString "\n").length=1 by decide +kernel];omega
abbrev nPT:List Str:=["program"]
abbrev Zhx:List Str:=["program"]
theorem scPT:Zz nPT Zhx (Zl s_program_text):=⟨rfl,rfl,rfl,by decide +kernel,rfl,by decide +kernel,by decide +kernel⟩
theorem ZmG {f:Addr}{fd:FuncData}{n k:Nat}(F:Fun K "program_text" "program_text" s_program_text f fd)(T:Yk mg)(DPR:Def P w K mg base k "program_rows" Zag (Zcv K n)):FnOk P w K mg base ZY (k+1) f fd Zhx (spPT K n):=by
 refine F.ok scPT (fun vs H Q E h=>?_) (fun cdv A outer s H vs Q E hr h=>?_)
 · obtain ⟨v,ps,rfl,_⟩:=h;rfl
 obtain ⟨v,ps,rfl,hp,ho,hn,hh,hm,q⟩:=h
 refine' ⟨?t,?h,?r⟩
 case h =>
   conv=>arg 2;whnf
   with_reducible refine' (Zi ?h1)
   case h1=>exact Zo (YH PySem.F.plainAttrs_str PySem.F.slot_str_join PySem.F.type_str_join Uk Zj (Zc (ZC DPR hr (Zc (pv 0) Za)) Za))
 exact ⟨rfl,_,rfl,v,ps,rfl,hp,ho,hn,hh,hm,fun l H' s' hl0 el=>⟨"\n",l,ZU ps,rfl,rfl,SqL.of el,Zdl ho hh hm,q H' s'⟩⟩
end
end K70
set_option maxHeartbeats 2000000
namespace L2
open PySem PySem.W PySem.Spec PyProof.Rows
theorem Zch:∀(k:Nat)(ps:List Str),Vals (ps.map V.str) (strsFrom k ps)
 | _,[]=>.nil
 | k,p::r=>.cons ⟨k,rfl⟩ (Zch (k+1) r)
section
variable {X:Cx}
theorem Zho (z y:Str):(Txt.split z y).length≤z.length+2:=PyProof.Rows.split_le z y
theorem Zav:MtR X "str.split" (fun x xs H Q=>∃ z y,x=.str z∧xs=[.str y]∧1≤y.length∧z.length≤1000000∧∀ l,H l=none→Q (.ref l) (upd H l (.lst ((Txt.split z y).map V.str)))):=by
 intro pins s σ H x xs v us Q I rx rv h
 obtain ⟨z,y,rfl,rfl,hy,hz,q⟩:=h
 obtain ⟨t,rfl⟩:=rx
 obtain ⟨u,rfl,t',rfl⟩:=YN rv
 have q:=q _ I.fresh
 have few:=Zho z y
 have hy0:(y.length == 0)=false:=by simpa using Nat.ne_of_gt hy
 have hs:z.length≤sizeLine:=by rw [sizeLine_eq];omega
 have lay:∀ (vs:List Value) (tk:Nat),Vals ((Txt.split z y).map V.str) vs→EP X pins σ Q (.ref s.heap.objs.size) { s with heap:=s.heap.push { cls:=.type "list",data:=.seq vs.toArray },toks:=tk }:=fun vs tk r =>
   ⟨.ref s.heap.objs.size,_,I.laid (t':=tk) (fun b o e=>Heap.get?_push_of_some _ e) (Nat.le_refl _) (show ObjOk X.prog X.w _ _ _ (.lst ((Txt.split z y).map V.str)) from ⟨by rw [List.length_map,sizeLine_eq];omega,vs,0,r,Heap.get?_push_size _ rfl⟩),rfl,q⟩
 cases h1:(decide (z.length < y.length) || decide (Builtin.Str.strKind z < Builtin.Str.strKind y)) with
 | true =>
   have e:Txt.split z y=[z]:=if_pos h1
   exact call_meets F.slot_str_split (typeIs_str _ _ _) F.entry_str_split (F.args_str_split_2 _ _) (meets_str_split_cannot_occur z y t t' h1) (lay [.str z t] s.toks (by rw [e];exact .cons ⟨_,rfl⟩ .nil))
 | false =>
   cases hf:(Builtin.Str.occurrences z y 0 z.length (z.length+1)).isEmpty with
   | true =>
     have e:Txt.split z y=[z]:=(if_neg (by rw [h1];decide)).trans (if_pos hf)
     exact call_meets F.slot_str_split (typeIs_str _ _ _) F.entry_str_split (F.args_str_split_2 _ _) (meets_str_split_not_found z y t t' h1 hy0 hf) (lay [.str z t] s.toks (by rw [e];exact .cons ⟨_,rfl⟩ .nil))
   | false =>
     have e:Txt.split z y=Builtin.Str.partsBetween z (Builtin.Str.occurrences z y 0 z.length (z.length+1)) y.length:=(if_neg (by rw [h1];decide)).trans (if_neg (by rw [hf];decide))
     rw [e] at lay few
     exact call_meets F.slot_str_split (typeIs_str _ _ _) F.entry_str_split (F.args_str_split_2 _ _) (meets_str_split_sep z y t t' h1 hy0 hf hs (by rw [sizeLine_eq];omega)) (lay _ _ (Zch _ _))
theorem Vr:MtR X "str.startswith" (fun x xs H Q=>∃ z y,x=.str z∧xs=[.str y]∧Q (.bl (Txt.startswith z y)) H):=by
 intro pins s σ H x xs v us Q I rx rv h
 obtain ⟨z,y,rfl,rfl,q⟩:=h
 obtain ⟨t,rfl⟩:=rx
 obtain ⟨u,rfl,t',rfl⟩:=YN rv
 exact SC.startswith ⟨.bl _,H,I,rfl,q⟩
theorem Zca:MtR X "str.lstrip" (fun x xs H Q=>∃ z y,x=.str z∧xs=[.str y]∧z.length≤1000000∧Q (.str (Txt.lstripChars z y)) H):=by
 intro pins s σ H x xs v us Q I rx rv h
 obtain ⟨z,y,rfl,rfl,hz,q⟩:=h
 obtain ⟨t,rfl⟩:=rx
 obtain ⟨u,rfl,t',rfl⟩:=YN rv
 exact SC.lstripChars (fun t1 k=>⟨.str _,H,I.tok k,⟨_,rfl⟩,q⟩) (by rw [sizeLine_eq];omega)
def ZmN (K:PySem.W.Frag)(ga gb:TG):TG:=fun v σ H Q=>∃ l x xs,v=.ref l∧SqL K H l (x::xs)∧xs.length≤1000000∧∀ D,H D=none→ga x σ (upd H D (.lst xs)) fun σ1 H1=>gb (.ref D) σ1 H1 Q
theorem ZkL {a b:Expr}{k:Nat}{p pos:Pos}{ga gb:TG}(hc:X.calm=true)(ha:PG X a ga)(hb:PG X b gb)(hn:(assignEach [a,.Starred b p] X.env)=[(false,assign a X.env),(true,assign b X.env)]:=by rfl):PG X (.Tuple [a,.Starred b p] k pos) (ZmN X.K ga gb):=by
 intro pins s σ H v u Q I r hw
 obtain ⟨l,x,xs,rfl,hq,hz,hw⟩:=hw
 cases r
 obtain ⟨its,rv,pl,_⟩:=I.list hq
 cases rv with
 | @cons _ u0 _ us r0 rr =>
 have hl:=pl.isList
 have hne:l≠s.heap.objs.size:=by obtain ⟨o,ho,_⟩:=hl;exact Nat.ne_of_lt (Heap.lt_size ho)
 have hlen:us.length=xs.length:=rr.length.symm
 have hh:=I.ok.hd hc
 rw [assign_Tuple]
 refine wpAny_bind (wpAny_standAt ?_)
 unfold unpack
 rw [hn]
 refine wpAny_bind (wpAny_holding ?_)
 show wpAny _ _ (unpackItems (.ref l) 2 (some 1)) _ _ s
 unfold unpackItems
 refine wpAny_bind ?_
 unfold notIterableAtAll
 refine wpAny_bind (wpAny_specialOf hl.typeIs slot_list_iter.lookup (wpAny_pure ?_))
 simp only [Bool.false_eq_true,if_false]
 refine wpAny_bind (wpAny_holding (wpAny_pyIter_list hl ?_))
 refine wpAny_bind (wpAny_holding (kun_draw hne 1 0 _ _ ⟨_,Heap.get?_push_size _ rfl,rfl,rfl⟩ (hl.push _) (by simp) fun h1 it1 sb1=>?_))
 have hl1:h1.IsList l (u0::us).toArray:=(hl.push _).extBut sb1.extBut hne
 have e1:List.take 1 (List.drop 0 (u0::us).toArray.toList)=[u0]:=rfl
 rw [e1,if_neg (show ¬ ([u0].length < 1) from Nat.lt_irrefl 1)]
 obtain ⟨oi,hoi,_⟩:=id it1
 obtain ⟨ol,hol,_⟩:=id hl1
 refine wpAny_bind (wpAny_holding (kun_collect (s:={ s with heap:=h1 }) (T:="list_iterator") (.inr (.inr (.inl rfl))) (Walks.list (A:=X.A.in1) hh s.heap.objs.size l hne (u0::us).toArray) (fun j u st=>st.1.typeIs) (k:=1) (by simp) ⟨it1,hl1⟩ (Heap.lt_size hoi) (Heap.lt_size hol) (fun h2 tk kp=>?_) (by rw [sizeLine_eq,List.size_toArray,List.length_cons];omega)))
 have e2:List.drop 1 (u0::us).toArray.toList=us:=rfl
 rw [e2]
 simp only [Nat.reduceSub,Nat.not_lt_zero,if_false,Nat.sub_zero,List.take_length,List.drop_length]
 have kp2:∀ b o,s.heap.get? b=some o→h2.get? b=some o:=fun b o e=>kp b o (Nat.ne_of_lt (Heap.lt_size e)) (sb1.extBut b o (Nat.ne_of_lt (Heap.lt_size e)) (Heap.get?_push_of_some _ e))
 refine wpAny_bind (wpAny_newList (wpAny_pure ?_) (by rw [sizeLine_eq];omega))
 have I2:Inv X pins σ H { s with heap:=h2,toks:=tk }:=I.kept kp2
 have I3:Inv X pins σ (upd H h2.objs.size (.lst xs)) { s with heap:=h2.push { cls:=.type "list",data:=.seq us.toArray },toks:=tk } :=
   I2.laid (t':=tk) (fun b o e=>Heap.get?_push_of_some _ e) (Nat.le_refl _) (show ObjOk X.prog X.w _ _ _ (.lst xs) from ⟨by rw [sizeLine_eq];omega,us,0,rr,Heap.get?_push_size _ rfl⟩)
 show wpAny _ _ (assignInOrder [assign a X.env,assign b X.env] [u0,.ref h2.objs.size]) _ _ _
 refine assignInOrder_cons (Zp (ha pins _ σ _ _ _ _ I3 r0 (hw _ I2.fresh)) fun _ s1 ⟨σ1,H1,I4,q1⟩=>?_)
 refine assignInOrder_cons (Zp (hb pins s1 σ1 H1 (.ref h2.objs.size) _ _ I4 rfl q1) fun _ s2 ⟨σ2,H2,I5,q2⟩=>?_)
 exact assignInOrder_nil ⟨σ2,H2,I5,q2⟩
end
end L2
set_option maxHeartbeats 2000000
namespace L2
open PySem PySem.Spec PyProof.Rows
theorem ZdP {c:Nat}:∀{a b r s:List Nat},c ∉ a→c ∉ b→a++c::r=b++c::s→a=b∧r=s
 | [],[],_,_,_,_,h=>⟨rfl,by injection h⟩
 | [],y::b,_,_,_,hb,h=>by injection h with h1 h2;exact absurd (h1 ▸ List.mem_cons_self ..) hb
 | x::a,[],_,_,ha,_,h=>by injection h with h1 h2;exact absurd (h1 ▸ List.mem_cons_self ..) ha
 | x::a,y::b,_,_,ha,hb,h=>by
   injection h with h1 h2
   obtain ⟨e1,e2⟩:=ZdP (fun m=>ha (List.mem_cons_of_mem _ m)) (fun m=>hb (List.mem_cons_of_mem _ m)) h2
   exact ⟨by rw [h1,e1],e2⟩
theorem Yi (c:Nat)(a b:Str)(r:List Str):(Str.join ⟨#[c]⟩ (a::b::r)).cps.toList=a.cps.toList++c::(Str.join ⟨#[c]⟩ (b::r)).cps.toList:=by
 show (a++⟨#[c]⟩++Str.join ⟨#[c]⟩ (b::r)).cps.toList=_
 rw [Yo,Yo,List.append_assoc];rfl
theorem Zdt {c:Nat}:∀{A B:List Str},A≠[]→B≠[]→(∀ p∈A,c ∉ p.cps.toList)→(∀ p∈B,c ∉ p.cps.toList)→Str.join ⟨#[c]⟩ A=Str.join ⟨#[c]⟩ B→A=B
 | [],_,h,_,_,_,_=>absurd rfl h
 | _,[],_,h,_,_,_=>absurd rfl h
 | [a],[b],_,_,_,_,h=>by have:a=b:=h;rw [this]
 | [a],b::b2::B,_,_,ha,_,h=>by
   have e:=congrArg (fun s:Str=>s.cps.toList) h
   have e:a.cps.toList=_:=e
   rw [Yi] at e
   exact absurd (by rw [e];exact List.mem_append_right _ (List.mem_cons_self ..)) (ha a (List.mem_cons_self ..))
 | a::a2::A,[b],_,_,_,hb,h=>by
   have e:=congrArg (fun s:Str=>s.cps.toList) h.symm
   have e:b.cps.toList=_:=e
   rw [Yi] at e
   exact absurd (by rw [e];exact List.mem_append_right _ (List.mem_cons_self ..)) (hb b (List.mem_cons_self ..))
 | a::a2::A,b::b2::B,_,_,ha,hb,h=>by
   have e:=congrArg (fun s:Str=>s.cps.toList) h
   have e:(Str.join ⟨#[c]⟩ (a::a2::A)).cps.toList=(Str.join ⟨#[c]⟩ (b::b2::B)).cps.toList:=e
   rw [Yi,Yi] at e
   obtain ⟨e1,e2⟩:=ZdP (ha a (List.mem_cons_self ..)) (hb b (List.mem_cons_self ..)) e
   rw [ZR e1,Zdt (A:=a2::A) (B:=b2::B) (by simp) (by simp) (fun p hp=>ha p (List.mem_cons_of_mem _ hp)) (fun p hp=>hb p (List.mem_cons_of_mem _ hp)) (ZR e2)]
theorem WD (x y:Str):Txt.split x y≠[]:=fun e=>by have:=split_pos x y;rw [e] at this;simp at this
theorem Vo {c:Nat}{L:List Str}(h:L≠[])(hf:∀ p∈L,c ∉ p.cps.toList):Txt.split (Str.join ⟨#[c]⟩ L) ⟨#[c]⟩=L :=
 Zdt (WD _ _) h (StrLaws.split_free _ c) hf (StrLaws.join_split _ _)
theorem WC {c:Nat}:∀{A B:List Str},A≠[]→B≠[]→Str.join ⟨#[c]⟩ (A++B)=Str.join ⟨#[c]⟩ A++⟨#[c]⟩++Str.join ⟨#[c]⟩ B
 | [],_,h,_=>absurd rfl h
 | [a],b::B,_,_=>rfl
 | _,[],_,h=>absurd rfl h
 | a::a2::A,b::B,_,_=>by
   apply ZR
   have ih:=WC (c:=c) (A:=a2::A) (B:=b::B) (by simp) (by simp)
   show (Str.join ⟨#[c]⟩ (a::a2::(A++b::B))).cps.toList=_
   rw [Yi,show a2::(A++b::B)=(a2::A)++b::B from rfl,ih]
   simp only [Yo,Yi,List.append_assoc];rfl
theorem ZbK {c:Nat}:∀{A:List Str},Str.join ⟨#[c]⟩ (A.flatMap fun w=>Txt.split w ⟨#[c]⟩)=Str.join ⟨#[c]⟩ A
 | []=>rfl
 | [a]=>by show Str.join _ (Txt.split a _++[])=a;rw [List.append_nil];exact StrLaws.join_split _ _
 | a::b::A=>by
   have ih:=ZbK (c:=c) (A:=b::A)
   have ne:(b::A).flatMap (fun w=>Txt.split w ⟨#[c]⟩)≠[]:=fun e=>WD b ⟨#[c]⟩ (List.append_eq_nil_iff.mp e).1
   rw [List.flatMap_cons,WC (WD _ _) ne,ih,StrLaws.join_split];rfl
theorem Zdy {c:Nat}{A:List Str}(h:A≠[]):Txt.split (Str.join ⟨#[c]⟩ A) ⟨#[c]⟩=A.flatMap fun w=>Txt.split w ⟨#[c]⟩:=by
 have ne:A.flatMap (fun w=>Txt.split w ⟨#[c]⟩)≠[]:=by
   cases A with
   | nil=>exact absurd rfl h
   | cons a A=>exact fun e=>WD a ⟨#[c]⟩ (List.append_eq_nil_iff.mp e).1
 rw [← ZbK,Vo ne]
 intro p hp
 obtain ⟨w,_,hw⟩:=List.mem_flatMap.mp hp
 exact StrLaws.split_free w c p hw
theorem UC {c:Nat}{x:Str}(h:c ∉ x.cps.toList):Txt.split x ⟨#[c]⟩=[x]:=by
 have:=Vo (c:=c) (L:=[x]) (by simp) (by simpa using h);exact this
theorem ZdJ (p:Nat→Bool):∀ l:List Nat,l.drop (l.takeWhile p).length=l.dropWhile p
 | []=>rfl
 | a::r=>by
   rw [List.takeWhile_cons,List.dropWhile_cons]
   split
   · rw [List.length_cons,List.drop_succ_cons];exact ZdJ p r
   · rfl
theorem VI (x y:Str):(Txt.lstripChars x y).cps.toList=x.cps.toList.dropWhile fun k=>y.cps.contains k:=by
 have e:=stripBy_eq y.cps.contains true false x
 show (Txt.stripBy y.cps.contains true false x).cps.toList=_
 rw [e]
 show (x.cps.extract (x.cps.toList.takeWhile y.cps.contains).length x.length).toList=_
 rw [Array.toList_extract,List.extract_eq_take_drop,← ZdJ]
 apply List.take_of_length_le
 rw [List.length_drop,Zt];exact Nat.le_refl _
theorem Ux:(Str.ofString " ")=⟨#[32]⟩:=by decide +kernel
theorem lf1:(Str.ofString "\n")=⟨#[10]⟩:=by decide +kernel
theorem qu1:(Str.ofString "'")=⟨#[39]⟩:=by decide +kernel
theorem mi1:(Str.ofString "-")=⟨#[45]⟩:=by decide +kernel
theorem sl1:(Str.ofString "\\")=⟨#[92]⟩:=by decide +kernel
theorem Zba (x:Str)(c:Nat):Txt.startswith x ⟨#[c]⟩=decide (x.cps.toList.head?=some c):=by
 show (decide (0+1≤x.length)&&(x.cps.extract 0 (0+1) == #[c]))=_
 rw [Bool.eq_iff_iff,decide_eq_true_eq,Bool.and_eq_true,decide_eq_true_eq,beq_iff_eq,Zt]
 have e:x.cps.extract 0 (0+1)=#[c]↔x.cps.toList.take 1=[c]:=by
   constructor
   · intro h
     have:=congrArg Array.toList h
     simpa [Array.toList_extract,List.extract_eq_take_drop] using this
   · intro h
     apply Array.toList_inj.mp
     simpa [Array.toList_extract,List.extract_eq_take_drop] using h
 rw [e]
 cases x.cps.toList with
 | nil=>simp
 | cons a r=>simp
def XR:Bool→List Nat→List Nat
 | _,[]=>[]
 | b,k::r=>if (decide (k=92)&&!b)=true then XR true r else k::XR false r
theorem ZdN:∀ l:List Nat,XR false (YD l)=l
 | []=>rfl
 | k :: r=>by
   have ih:=ZdN r
   have e:YD (k::r)=(if k=39∨k=92 then [92,k] else [k])++YD r:=rfl
   rw [e]
   by_cases h:k=39∨k=92
   · rw [if_pos h]
     show XR false (92::k::YD r)=_
     rw [XR,if_pos (by decide),XR,if_neg (by simp),ih]
   · rw [if_neg h]
     show XR false (k::YD r)=_
     rw [XR,if_neg (by simp;intro z;exact h (.inr z)),ih]
theorem Zbr:∀(b:Bool)(l:List Nat),(XR b l).length≤l.length
 | _,[]=>Nat.le_refl _
 | b,k::r=>by
   rw [XR]
   split
   · exact Nat.le_trans (Zbr _ r) (Nat.le_succ _)
   · rw [List.length_cons,List.length_cons];exact Nat.succ_le_succ (Zbr _ r)
def Xm (c:Nat):Bool:=decide (48≤c)&&decide (c≤57)
def Yc (w:Str):List Nat:=if w.cps.toList.head?=some 45 then w.cps.toList.drop 1 else w.cps.toList
def YW (w:Str)(most:Nat):Option Int :=
 if 1≤(Yc w).length∧(Yc w).length≤most∧(Yc w).all Xm=true then (if Str.ofString (toString ((PySem.intText? w).getD 0))=w then some ((PySem.intText? w).getD 0) else none) else none
theorem Xw {l:List Nat}(h:l.all Xm=true):NumText.AllDigits l:=fun c hc=>by
 have:=List.all_eq_true.mp h c hc
 unfold Xm at this
 simpa using this
theorem Zfb:∀(cs:List Nat)(acc:Nat),NumText.AllDigits cs→cs.foldl (fun a c=>a * 10+(c - 48)) acc < (acc+1) * 10 ^ cs.length
 | [],acc,_=>by simp
 | c::cs,acc,h=>by
   have ih:=Zfb cs (acc * 10+(c - 48)) h.tail
   have hc:=h.head
   rw [List.foldl_cons,List.length_cons,Nat.pow_succ]
   refine Nat.lt_of_lt_of_le ih ?_
   rw [Nat.mul_comm (10 ^ cs.length) 10,← Nat.mul_assoc]
   exact Nat.mul_le_mul_right _ (by omega)
theorem ZfR {cs:List Nat}(h:NumText.AllDigits cs)(hl:cs.length≤300):(NumText.digitsVal cs).log2 < 1920:=by
 by_cases h0:NumText.digitsVal cs=0
 · rw [h0];decide
 · refine (Nat.log2_lt h0).mpr (Nat.lt_of_lt_of_le (Zfb cs 0 h) ?_)
   rw [Nat.zero_add,Nat.one_mul]
   exact Nat.le_trans (Nat.pow_le_pow_right (by decide) hl) (by decide +kernel)
theorem ZaK {w:Str}(h1:1≤(Yc w).length)(h2:(Yc w).length≤300)(h3:(Yc w).all Xm=true):∃ n,PySem.intText? w=some n∧w.length≤640∧n.natAbs.log2 < 1920:=by
 unfold Yc at h1 h2 h3
 have hl:w.length=w.cps.toList.length:=Zt w
 split at h1
 · rename_i hh
   rw [if_pos hh] at h2 h3
   cases e:w.cps.toList with
   | nil=>rw [e] at hh;cases hh
   | cons a r =>
     rw [e] at hh h1 h2 h3 hl
     cases hh
     have hl:w.length=r.length+1:=hl
     simp only [List.drop_succ_cons,List.drop_zero] at h1 h2 h3
     exact ⟨_,PySem.intText_neg e (Xw h3) (by rintro rfl;simp at h1) (by omega),by omega,by rw [Int.natAbs_neg,Int.natAbs_natCast];exact ZfR (Xw h3) h2⟩
 · rename_i hh
   rw [if_neg hh] at h2 h3
   exact ⟨_,PySem.intText_digits (Xw h3) (by intro z;rw [z] at h1;simp at h1) (by omega),by omega,by rw [Int.natAbs_natCast];exact ZfR (Xw h3) h2⟩
theorem VV (m:Nat):(Uz m).all Xm=true:=List.all_eq_true.mpr fun c hc=>by have:=ZaG hc;unfold Xm;simp;omega
theorem Zej (m:Nat):1≤(Uz m).length:=by
 cases e:Uz m with
 | nil =>
   have z:Nat.toDigits 10 m=[]:=List.map_eq_nil_iff.mp e
   exact absurd z Nat.toDigits_ne_nil
 | cons a r=>simp
theorem Zax {i:Int}(h:i.natAbs < 10 ^ 30):1≤(Yc (Str.ofString (toString i))).length∧(Yc (Str.ofString (toString i))).length≤30∧(Yc (Str.ofString (toString i))).all Xm=true∧PySem.intText? (Str.ofString (toString i))=some i:=by
 have hl:(Str.ofString (toString i)).length=(Str.ofString (toString i)).cps.toList.length:=Zt _
 obtain ⟨m,⟨e,rfl⟩ | ⟨e,rfl⟩⟩:=ZbT i
 · have hm:(Uz m).length≤30:=Zel (k:=29) (by omega)
   have hp:=Zej m
   have hh:¬ (Uz m).head?=some 45:=fun z=>by
     cases ed:Uz m with
     | nil=>rw [ed] at z;cases z
     | cons a r=>rw [ed] at z;cases z;have:=ZaG (m:=m) (c:=45) (by rw [ed];exact List.mem_cons_self ..);omega
   unfold Yc
   rw [e,if_neg hh]
   rw [e] at hl
   refine ⟨hp,hm,VV m,?_⟩
   rw [PySem.intText_digits (by rw [e];exact Xw (VV m)) (by rw [e];intro z;rw [z] at hp;simp at hp) (by omega),e,Zex]
 · have hm:(Uz m).length≤30:=Zel (k:=29) (by omega)
   have hp:=Zej m
   unfold Yc
   rw [e] at hl ⊢
   rw [if_pos (show (45::Uz m).head?=some 45 from rfl)]
   simp only [List.drop_succ_cons,List.drop_zero]
   refine ⟨hp,hm,VV m,?_⟩
   rw [PySem.intText_neg e (Xw (VV m)) (by intro z;rw [z] at hp;simp at hp) (by rw [hl,List.length_cons];omega),Zex]
theorem Zds {i:Int}(h:i.natAbs < 10 ^ 30):YW (Str.ofString (toString i)) 30=some i:=by
 obtain ⟨h1,h2,h3,h4⟩:=Zax h
 unfold YW
 rw [if_pos ⟨h1,h2,h3⟩,h4,Option.getD_some,if_pos rfl]
def Wp (w:Str):Str:=⟨(XR false (w.cps.toList.drop 1).dropLast).toArray⟩
def Wt (w:Str):Option V :=
 if w.cps.toList.head?=some 39 then (if (Wp w).length≤40∧(Wp w).cps.toList.all Yd=true∧ZP (.str (Wp w))=w then some (.str (Wp w)) else none)
 else (YW w 30).map V.int
theorem Zgg {v:V}(h:IsVal v):Wt (ZP v)=some v:=by
 cases v with
 | int i =>
   obtain ⟨h1,h2,h3,h4⟩:=Zax (show i.natAbs < 10 ^ 30 from h)
   show Wt (Str.ofString (toString i))=_
   unfold Wt
   rw [if_neg,Zds h];rfl
   intro z
   have:(39:Nat)∈(Str.ofString (toString i)).cps.toList:=List.mem_of_mem_head? z
   have:=Zhc this;omega
 | str x =>
   have e:Wp (ZP (.str x))=x:=by
     apply ZR
     show XR false ((39::YD x.cps.toList++[39]).drop 1).dropLast=_
     simp only [List.cons_append,List.drop_succ_cons,List.drop_zero,List.dropLast_concat]
     exact ZdN _
   unfold Wt
   rw [e,if_pos (show (ZP (.str x)).cps.toList.head?=some 39 from rfl),if_pos ⟨h.1,h.2,rfl⟩]
 | _=>exact h.elim
theorem Zbg (x:Str):(Txt.slice x (some 1) none).cps.toList=x.cps.toList.drop 1:=by
 rw [YT]
 have hl:=Zt x
 have e1:HT.sIx x.length 0 (some 1)=min 1 x.length:=by
   unfold HT.sIx
   simp only [show ¬ (1:Int) < 0 by decide,if_false]
   omega
 have e2:HT.sIx x.length x.length none=x.length:=rfl
 rw [e1,e2]
 cases e:x.cps.toList with
 | nil=>simp
 | cons a r =>
   rw [e] at hl
   have hl:x.length=r.length+1:=hl
   rw [show min 1 x.length=1 by omega,hl]
   simp
theorem Zir (x:Str):(Txt.slice x (some 1) (some (-1))).cps.toList=(x.cps.toList.drop 1).dropLast:=by
 rw [YT]
 have hl:=Zt x
 have e1:HT.sIx x.length 0 (some 1)=min 1 x.length:=by
   unfold HT.sIx
   simp only [show ¬ (1:Int) < 0 by decide,if_false]
   omega
 have e2:HT.sIx x.length x.length (some (-1))=x.length - 1:=by
   unfold HT.sIx
   simp only [show (-1:Int) < 0 by decide,if_true]
   omega
 rw [e1,e2,List.dropLast_eq_take,List.length_drop,← hl]
 cases e:x.cps.toList with
 | nil=>simp
 | cons a r =>
   rw [e] at hl
   have hl:x.length=r.length+1:=hl
   rw [show min 1 x.length=1 by omega]
end L2
set_option maxHeartbeats 2000000
namespace L2
open PySem PySem.Spec PyProof.Rows
theorem ZiM {prog:Program}{w:World}{A:Around}{it:Addr}{fp:List Addr}{n k:Nat}{P:Nat→Value→Prop}{St:Nat→Heap→Prop}(D:Draws prog w A it fp n P St) :
   Draws prog w A it fp (n+k) (fun i v=>∃ j,i=j+k∧P j v) (fun i h=>∃ j,i=j+k∧St j h) where
 live:=fun i h ⟨j,_,st⟩=>D.live j h st
 frame:=fun i h h' ⟨j,e,st⟩ kp=>⟨j,e,D.frame j h h' st kp⟩
 item:=fun i s Q E hi ⟨j,e,st⟩ hQ=>by
   subst e
   exact D.item j s Q E (by omega) st fun x h' tk p st' sb=>hQ x h' tk ⟨j,rfl,p⟩ ⟨j+1,by omega,st'⟩ sb
 done:=fun s Q E ⟨j,e,st⟩ hE=>by
   have:n=j:=by omega
   subst this
   exact D.done s Q E st hE
theorem Zhf {prog:Program}{w:World}{A:Around}(hh:A.handled=none)(it l:Addr)(items:Array Value)(i:Nat)(hi:items[i]?=none) :
   Draws prog w A.in1 it [it,l] 0 (fun _ _=>False) (fun _ h=>h.IsListIter it l i∧h.IsList l items) where
 live:=fun _ _ st=>let ⟨o,ho,_⟩:=st.1;⟨o,ho⟩
 frame:=fun _ _ _ st kp=>⟨st.1.at fun o e=>kp it (by simp) o e,st.2.at fun o e=>kp l (by simp) o e⟩
 item:=fun j _ _ _ hj=>absurd hj (Nat.not_lt_zero _)
 done:=fun s Q E st hE=>PySem.wpAny_nextOf_list_end hh st.1 st.2 hi hE
theorem ZaA (l:Addr)(items:Array Value)(n:Nat)(k:Int)(t1:Tok)(hk:Builtin.SmallTypes.fitsIndex k=true) :
   Meets (Builtin.«enumerate.__new__» ⟨[.type "enumerate",.ref l],[("start",.int k t1)]⟩) (fun _ R s=>s.heap.get? l=some { cls:=.type "list",dict:=none,data:=.seq items n,slots:=#[] } ∧
     R (.ok (.ret (.ref (s.heap.push { cls:=.type "list_iterator",data:=.fields #[.ref l,.int 0 0] }).objs.size)))
       { s with heap:=(s.heap.push { cls:=.type "list_iterator",data:=.fields #[.ref l,.int 0 0] }).push { cls:=.type "enumerate",data:=.fields #[.none,.bool false,.ref s.heap.objs.size,rawInt k,.none,.none] } }) :=
 .of_wp fun prog w A R s h=>by
   obtain ⟨hp,g,d,tk,os⟩:=s
   obtain ⟨hl,h⟩:=h
   have sub1:=sub_enumerate
   have hL:Heap.IsList (Shared.heap ⟨hp,g,d,tk,os⟩) l items:=⟨_,hl,rfl,n,rfl⟩
   wp_walk using wpAny_loadPart' hl
   have hk2:¬ (!Builtin.SmallTypes.fitsIndex k)=true:=by rw [hk];decide
   refine wpAny_stack_any fun st=>wpAny_pure ?_
   split
   · rename_i c _ _ _ _ _
     cases (c == Value.type "enumerate")<;>(wp_walk using wpAny_loadPart' hl,wpAny_pyIter_list hL;exact ⟨_,rfl,h⟩)
   · wp_walk using wpAny_loadPart' hl,wpAny_pyIter_list hL
     exact ⟨_,rfl,h⟩
section
variable {prog:Program}{w:World}{A:Around}{E:Value→Shared→Prop}{s:Shared}
theorem Zbt {l:Addr}{items:Array Value}{n:Nat}{k:Int}{t1:Tok}{Q:Value→Shared→Prop}(hk:Builtin.SmallTypes.fitsIndex k=true)(hl:s.heap.get? l=some { cls:=.type "list",dict:=none,data:=.seq items n,slots:=#[] })
   (h:∀ h',IsEnum h' (s.heap.objs.size+1) s.heap.objs.size k .none→h'.IsListIter s.heap.objs.size l 0→h'.objs.size=s.heap.objs.size+2 →
     (∀ b o,s.heap.get? b=some o→h'.get? b=some o)→Q (.ref (s.heap.objs.size+1)) { s with heap:=h' }) :
   wpAny (model prog w) A (call (.type "enumerate") [.ref l] [("start",.int k t1)]) Q E s:=by
 have ft:=F.called_enumerate
 refine ZcT (Q₁:=fun obj s₁=>s₁.TypeIs obj "enumerate"∧Q obj s₁) ft (Vt _ _) (VA _ _) F.entry_enumerate_new F.entry_object_init (ZaA l items n k t1 hk) ?_
   (fun obj s₁ hq=>⟨hq.1,ZaU obj _ _,_,Zbz ft.init.lookup ft.made (by decide),hq.1,rfl,hq.2⟩)
 refine ⟨hl,?_⟩
 generalize hO:({ cls:=.type "list_iterator",data:=.fields #[.ref l,.int 0 0] }:Obj)=O
 have hz:(s.heap.push O).objs.size=s.heap.objs.size+1:=Heap.size_push ..
 generalize hO2:({ cls:=.type "enumerate",data:=.fields #[.none,.bool false,.ref s.heap.objs.size,rawInt k,.none,.none] }:Obj)=O2
 have he:((s.heap.push O).push O2).get? (s.heap.objs.size+1)=some O2:=by
   have e:=Heap.get?_push_size (s.heap.push O) (o:=O2) (by rw [← hO2];rfl)
   rw [hz] at e;exact e
 have hi:((s.heap.push O).push O2).get? s.heap.objs.size=some O:=Heap.get?_push_of_some _ (Heap.get?_push_size _ (by rw [← hO];rfl))
 have key:Shared.TypeIs { s with heap:=(s.heap.push O).push O2 } (.ref (s.heap.objs.size+1)) "enumerate"∧Q (.ref (s.heap.objs.size+1)) { s with heap:=(s.heap.push O).push O2 } :=
   ⟨⟨O2,he,by rw [← hO2]⟩,h _ (by rw [← hO2] at he ⊢;exact he) ⟨O,hi,by rw [← hO],by rw [← hO];rfl⟩ (by rw [Heap.size_push,hz]) fun b o y=>Heap.get?_push_of_some _ (Heap.get?_push_of_some _ y)⟩
 rw [← hz] at key
 exact key
end
def Zao (K:PySem.W.Frag)(a:Addr)(k:Nat):It :=
 ⟨fun i H=>∃ xs x,SqL K H a xs∧xs[i]?=some x,fun i H v H'=>∃ t x,H t=none∧(∀ xs,SqL K H a xs→xs[i]?=some x)∧v=.ref t∧H'=upd H t (.tup [.int ((i+k:Nat):Int),x]),fun i H=>∃ xs,SqL K H a xs∧xs.length≤i⟩
theorem ZfC {P:Program}{w:World}{K:PySem.W.Frag}{elts:List Expr}{x1:Nat}{tp:Pos}(k:Nat)(a e it:Addr)(hne:e≠it)(hai:a≠it)(hae:a≠e) :
   WE P w K (.Tuple elts x1 tp) (Zao K a k) [e,it] e (fun i h=>(∃ old,IsEnum h e it ((i+k:Nat):Int) old)∧h.IsListIter it a i) where
 mem:=by simp
 obj:=fun i h st b hb=>by
   obtain ⟨⟨old,he⟩,⟨o,ho,c,d⟩⟩:=st
   rcases List.mem_cons.mp hb with q | hb
   · rw [q];exact ⟨_,he,fun v z=>by cases z⟩
   · rw [List.mem_singleton.mp hb];exact ⟨o,ho,fun v z=>by rw [d] at z;cases z⟩
 keep:=fun i h h' st kp=>by
   obtain ⟨⟨old,he⟩,st⟩:=st
   exact ⟨⟨old,kp e (by simp) _ he⟩,st.at fun o y=>kp it (by simp) o y⟩
 item:=by
   intro X hP hw hK hc i pins s σ H E I hf st hg
   subst hP hw hK
   obtain ⟨⟨old,he⟩,hs⟩:=st
   obtain ⟨xs,x,hq,hx⟩:=hg
   obtain ⟨its,rv,p,hz⟩:=I.list hq
   obtain ⟨u,hu,ru⟩:=rv.get hx
   have hlt:i < its.toArray.size:=by
     have:=(List.getElem?_eq_some_iff.mp hu).1
     simpa using this
   have D:=ZiM (k:=k) (Draws.list (prog:=X.prog) (w:=X.w) (A:=X.A.in1) (I.ok.hd hc) it a hai its.toArray)
   refine wpAny_pyNext_enum_itemD (i:=i+k) D he ⟨i,rfl,hs,p.isList⟩ (by omega) hne (by simp [hne,Ne.symm hae]) fun v h' tk hP hOut hst hT hsz hk=>?_
   obtain ⟨j,ej,hP⟩:=hP
   have ej':i=j:=by omega
   subst ej'
   obtain ⟨j,ej,hst⟩:=hst
   have ej':i+1=j:=by omega
   subst ej'
   have ev:v=u:=by
     have:its[i]?=some v:=by simpa using hP
     rw [hu] at this;exact (Option.some.inj this).symm
   subst ev
   have hel:e < s.heap.objs.size:=Heap.lt_size he
   have hil:it < s.heap.objs.size:=by obtain ⟨o,ho,_⟩:=hs;exact Heap.lt_size ho
   refine ⟨_,rfl,wpAny_letOwnedTupleGo_enum hOut fun h2 he2 hs2=>?_⟩
   generalize hO:({ cls:=.type "tuple",data:=.seq #[.int ((i+k:Nat):Int) tk,v] }:Obj)=O at hT
   have I1:Inv X pins σ (upd H s.heap.objs.size (.tup [.int ((i+k:Nat):Int),x])) { s with heap:=s.heap.push O,toks:=tk+1 }:=by
     refine I.laid (t':=tk+1) (fun b o y=>Heap.get?_push_of_some _ y) (Nat.le_refl _) (show ObjOk X.prog X.w _ _ _ (.tup _) from ⟨by show 2≤sizeLine;decide,[.int ((i+k:Nat):Int) tk,v],.cons ⟨tk,rfl⟩ (.cons ru .nil),?_⟩)
     rw [← hO];exact IsTup.new _ _
   have hfree:=I.hok.fresh (Nat.le_refl s.heap.objs.size)
   have hf2:∀ b∈[e,it],YC X pins (upd H s.heap.objs.size (.tup [.int ((i+k:Nat):Int),x])) b:=fun b hb=>by
     obtain ⟨f0,f1⟩:=hf b hb
     have hb':b≠s.heap.objs.size:=by
       rcases List.mem_cons.mp hb with q | hb
       · rw [q];exact Nat.ne_of_lt hel
       · rw [List.mem_singleton.mp hb];exact Nat.ne_of_lt hil
     exact ⟨by rw [Zm hb'];exact f0,f1⟩
   have I2:Inv X pins σ (upd H s.heap.objs.size (.tup [.int ((i+k:Nat):Int),x])) { s with heap:=h2,toks:=tk+1 }:=by
     refine I1.turned2 (t':=tk+1) (h':=h2) (fun b o hb y=>?_) hf2
     have hbe:b≠e:=fun q=>hb (by simp [q])
     have hbi:b≠it:=fun q=>hb (by simp [q])
     rw [hs2.2 b hbe]
     rcases Heap.get?_push_cases y with ⟨q1,q2⟩ | y
     · rw [q1,q2];exact hT
     · exact hk b o hbe hbi y
   refine ⟨.ref s.heap.objs.size,_,I2,rfl,⟨s.heap.objs.size,x,hfree,fun ys hy=>by rw [I.list_inj hy hq];exact hx,rfl,rfl⟩,⟨⟨_,by have:=he2;rw [show ((i+k:Nat):Int)+1=((i+1+k:Nat):Int) by omega] at this;exact this⟩,?_⟩,fun b hb=>(hf2 b hb).1⟩
   exact hst.1.at fun o y=>by rw [hs2.2 it hne.symm];exact y
 done:=by
   intro X hP hw hK hc i pins s σ H E I hf st hg
   subst hP hw hK
   obtain ⟨⟨old,he⟩,hs⟩:=st
   obtain ⟨xs,hq,hle⟩:=hg
   obtain ⟨its,rv,p,hz⟩:=I.list hq
   have hl:=rv.length
   obtain ⟨f0,f1,f2,f3,f4,f5⟩:=hf it (by simp)
   exact wpAny_pyNext_enum_endD (Zhf (I.ok.hd hc) it a its.toArray i (by simp;omega)) he ⟨hs,p.isList⟩ fun h' eb=>⟨rfl,I.turned (t':=s.toks) (fun b o hb y=>eb b o hb y) f0 f1 f3 f4 f5⟩
 self:=fun _ _ _ _ _ st h=>by
   obtain ⟨⟨old,he⟩,_⟩:=st
   exact wpAny_pyIter_enum he h
def ZlB (K:PySem.W.Frag)(tl tk:TE):TI:=fun σ H R=>tl σ H fun v H1=>∃ a,[v]=[V.ref a]∧tk σ H1 fun z H2=>∃(k:Nat)(xs:List V),[z]=[V.int (k:Int)]∧k≤1000000∧H2 a=some (.lst xs)∧R (Zao K a k) H2
section
variable {X:Cx}
theorem Zdn {l ke:Expr}{tl tk:TE}{elts:List Expr}{x1:Nat}{tp p pos kpos:Pos}(hg:Gl X "enumerate")(hm:X.mg "enumerate"=none)(hl:PE X l tl)(hk:PE X ke tk)
   (he:starEach [l] X.env=[(false,eval l X.env)]:=by rfl):PI X (.Tuple elts x1 tp) (.Call (.Name "enumerate" p) [l] [⟨some "start",ke,kpos⟩] pos) (ZlB X.K tl tk):=by
 intro pins s σ H R I h
 have ha:PA X [l] (Xa tl XL):=Yp hl Za he
 have hk:PK X [⟨some "start",ke,kpos⟩] (Xa tk XL):=ZjI hk ZlU
 refine wpAny_Call_Name_kw (WS I hg hm boot_enumerate (Zay (by rw [he];rfl) rfl (evalArgs_kw2 rfl ?_ he)))
 refine Zp (ha pos pins s σ H (fun vs H1=>∃ a,vs=[V.ref a]∧tk σ H1 fun z H2=>∃ (k:Nat) (xs:List V),[z]=[V.int (k:Int)]∧k≤1000000∧H2 a=some (.lst xs)∧R (Zao X.K a k) H2) I h) fun us s1 ⟨vs,H1,I1,r1,a,e,q⟩=>?_
 subst e
 obtain ⟨u,rfl,r⟩:=YN r1
 cases r
 refine Zp (hk pos pins s1 σ H1 (fun vs H2=>∃ (k:Nat) (xs:List V),vs=[V.int (k:Int)]∧k≤1000000∧H2 a=some (.lst xs)∧R (Zao X.K a k) H2) I1 q) fun ws s2 ⟨zs,H2,I2,r2,k,xs,e1,hk2,ea,q⟩=>?_
 subst e1
 obtain ⟨u',rfl,t',rfl⟩:=YN r2
 obtain ⟨z,its,n,rv,hll,eo⟩:=I2.lstM ea
 have hal:a < s2.heap.objs.size:=Heap.lt_size eo
 refine Zbt (by unfold Builtin.SmallTypes.fitsIndex;simp;omega) eo fun h' hE hit hsz hkk=>wpAny_pyIter_enum hE ?_
 refine ⟨s2.heap.objs.size+1,[s2.heap.objs.size+1,s2.heap.objs.size],_,_,H2,rfl,I2.kept (t':=s2.toks) hkk,ZfC k a _ _ (Nat.succ_ne_self _) (Nat.ne_of_lt hal) (Nat.ne_of_lt (Nat.lt_succ_of_lt hal)),⟨⟨_,by rw [Nat.zero_add];exact hE⟩,hit⟩,fun b hb=>?_,q⟩
 rcases List.mem_cons.mp hb with z | hb
 · rw [z];exact I2.fpOk (Nat.le_succ _) (I2.hok.fresh (Nat.le_succ _))
 · rw [List.mem_singleton.mp hb];exact I2.fpOk (Nat.le_refl _) (I2.hok.fresh (Nat.le_refl _))
end
theorem ZbZ {K:PySem.W.Frag}{a:Addr}{k:Nat}{xs:List V}{g:TG}{tb:TS}{D:Uc}{σ:St}{H:Hp}(Pv:Nat→St→Hp→Prop)(h0:Pv 0 σ H)(hl:∀ i σ H,i≤xs.length→Pv i σ H→SqL K H a xs)
   (hs:∀ i x t σ H,xs[i]?=some x→H t=none→Pv i σ H→g (.ref t) σ (upd H t (.tup [.int ((i+k:Nat):Int),x])) fun σ2 H2=>tb { D with nx:=Pv (i+1),ct:=Pv (i+1),bk:=D.nx } σ2 H2) (hd:∀ σ H,Pv xs.length σ H→D.nx σ H) :
   ∃ W:Nat→Nat→St→Hp→Prop,(∃ m,W 0 m σ H)∧∀ i m σ H,W i m σ H →
     ((Zao K a k).stop i H∧D.nx σ H)∨((Zao K a k).go i H∧∃ N:St→Hp→Prop,(∀ σ' H',N σ' H'→∃ m',m' < m∧W (i+1) m' σ' H')∧∀ y H',(Zao K a k).yld i H y H'→g y σ H' fun σ2 H2=>tb { D with nx:=N,ct:=N,bk:=D.nx } σ2 H2):=by
 refine ⟨fun i m σ H=>m=xs.length - i∧i≤xs.length∧Pv i σ H,⟨xs.length,by simp,Nat.zero_le _,h0⟩,?_⟩
 rintro i m σ H ⟨rfl,hi,p⟩
 have q:=hl i σ H hi p
 by_cases hlt:i < xs.length
 · refine .inr ⟨⟨xs,xs[i],q,by simp [hlt]⟩,Pv (i+1),fun σ' H' z=>⟨xs.length - (i+1),by omega,rfl,hlt,z⟩,fun y H' hy=>?_⟩
   obtain ⟨t,x,ht,hx,rfl,rfl⟩:=hy
   exact hs i x t σ H (hx xs q) ht p
 · have e:i=xs.length:=by omega
   subst e
   exact .inl ⟨⟨xs,q,Nat.le_refl _⟩,hd σ H p⟩
theorem Zey {X:Cx}:PIp X .Add (fun x y H Q=>∃ i j,x=.str i∧y=.str j∧i.length+j.length≤sizeLine∧Q (.str (i++j)) H):=by
 intro pins s σ H x y v u Q I r1 r2 h
 exact ZdA pins s σ H x y v u Q I r1 r2 h
theorem Zkv {x:Str}{g:TG}{tb:TS}{D:Uc}{σ:St}{H:Hp}(Pv:Nat→St→Hp→Prop)(h0:Pv 0 σ H)
   (hs:∀ i c σ H,x.cps.toList[i]?=some c→Pv i σ H→g (.str ⟨#[c]⟩) σ H fun σ2 H2=>tb { D with nx:=Pv (i+1),ct:=Pv (i+1),bk:=D.nx } σ2 H2) (hd:∀ σ H,Pv x.cps.toList.length σ H→D.nx σ H) :
   ∃ W:Nat→Nat→St→Hp→Prop,(∃ m,W 0 m σ H)∧∀ i m σ H,W i m σ H →
     ((Its x).stop i H∧D.nx σ H)∨((Its x).go i H∧∃ N:St→Hp→Prop,(∀ σ' H',N σ' H'→∃ m',m' < m∧W (i+1) m' σ' H')∧∀ y H',(Its x).yld i H y H'→g y σ H' fun σ2 H2=>tb { D with nx:=N,ct:=N,bk:=D.nx } σ2 H2):=by
 rw [Array.length_toList] at hd
 refine ⟨fun i m σ H=>m=x.cps.size - i∧i≤x.cps.size∧Pv i σ H,⟨x.cps.size,by simp,Nat.zero_le _,h0⟩,?_⟩
 rintro i m σ H ⟨rfl,hi,p⟩
 by_cases hlt:i < x.cps.size
 · refine .inr ⟨hlt,Pv (i+1),fun σ' H' p'=>⟨x.cps.size - (i+1),by omega,rfl,hlt,p'⟩,fun y H' z=>?_⟩
   obtain ⟨rfl,c,e2,rfl⟩:=z
   exact hs i c σ _ (by rw [Array.getElem?_toList];exact e2) p
 · have e:i=x.cps.size:=by omega
   subst e
   exact .inl ⟨Nat.le_refl _,hd σ H p⟩
theorem Zdg (c d:Nat)(y:Str)(h:y=⟨#[d]⟩):decide (V.str ⟨#[c]⟩=V.str y)=decide (c=d):=by
 subst h
 by_cases e:c=d
 · subst e;rw [decide_eq_true rfl,decide_eq_true rfl]
 · rw [decide_eq_false e,decide_eq_false]
   intro z
   injection z with z
   have:=congrArg (fun s:Str=>s.cps.toList) z
   exact e (by simpa using this)
end L2
set_option maxHeartbeats 4000000
namespace K70
open PySem L2
def YO (x:Str):Bool:=(decide (1≤x.length)&&decide (x.length≤8))&&x.cps.toList.all Ua
theorem ZaR {x:Str}(h:Yg x):YO x=true:=by
 unfold YO;rw [decide_eq_true h.1,decide_eq_true h.2.1,h.2.2];rfl
theorem ca:(Str.ofString "a").cps.toList=[97]:=by decide +kernel
theorem cz:(Str.ofString "z").cps.toList=[122]:=by decide +kernel
theorem cbl:(Str.ofString " ").cps.toList=[32]:=by decide +kernel
theorem cti:(Str.ofString "~").cps.toList=[126]:=by decide +kernel
theorem c0:(Str.ofString "0").cps.toList=[48]:=by decide +kernel
theorem c9:(Str.ofString "9").cps.toList=[57]:=by decide +kernel
section
variable {P:Program}{w:World}{K:PySem.W.Frag}{mg:Str→Option Value}{base:Heap}{tl t3 t4:Tok}
theorem btw {R:VK}{c lo hi:Nat}{x y:Str}{H':Hp}(ex:x.cps.toList=[lo])(ey:y.cps.toList=[hi])(hR:R (.bl (decide (lo≤c)&&decide (c≤hi))) H') :
   if (!decide ((⟨#[c]⟩:Str).cps.toList < x.cps.toList))=true then ∃ i j:Str,V.str ⟨#[c]⟩=.str i∧V.str y=.str j∧R (.bl (!decide (j.cps.toList < i.cps.toList))) H' else R (.bl false) H':=by
 rw [ex]
 show if (!decide ([c] < [lo]))=true then _ else _
 rw [Zeq]
 by_cases d1:c < lo
 · rw [decide_eq_true d1]
   rw [decide_eq_false (show ¬ lo≤c by omega)] at hR
   exact Zu hR
 · rw [decide_eq_false d1]
   rw [decide_eq_true (show lo≤c by omega),Bool.true_and] at hR
   refine Zv ⟨_,_,rfl,rfl,?_⟩
   rw [ey]
   show R (.bl (!decide ([hi] < [c]))) H'
   rw [Zeq]
   by_cases d2:hi < c
   · rw [decide_eq_true d2];rw [decide_eq_false (by omega)] at hR;exact hR
   · rw [decide_eq_false d2];rw [decide_eq_true (by omega)] at hR;exact hR
def ZeE (f:Str→Bool):Sp:=fun vs H Q _=>∃ x:Str,vs=[.str x]∧x.length≤100000∧∀ H',Same H H'→Q (.bl (f x)) H'
abbrev nNn:List Str:=["thing"]
abbrev ZiB:List Str:=["thing"]
theorem scNn:Zz nNn ZiB (Zl s_is_name):=⟨rfl,rfl,rfl,by decide +kernel,rfl,by decide +kernel,by decide +kernel⟩
theorem Zge {f:Addr}{fd:FuncData}(F:Fun K "is_name" "is_name" s_is_name f fd)(T:Yk mg)(hLN:mg "LONGEST_NAME"=some (.int 8 tl)):FnOk P w K mg base ZY 1 f fd ZiB (ZeE YO):=by
 refine F.ok scNn (fun vs H Q E h=>?_) (fun cdv A outer s H vs Q E hr h=>?_)
 · obtain ⟨x,rfl,_⟩:=h;rfl
 obtain ⟨x,rfl,hx,q⟩:=h
 refine' ⟨?t,?h,?r⟩
 case h =>
   conv=>arg 2;whnf
   with_reducible refine' (Zd (ZS ?h1 (Zi ?h2) ZE) (Zi ?h3))
   case h1=>exact Xg (Yh (Zn (Ys (K:=K) rfl) rfl T.isinstance (by decide +kernel) (Zc (pv 0) (Zc (Yz rfl T.str (by decide +kernel) (v:=.ty "str") rfl) Za))))
   case h2=>exact Zo UD
   case h3=>exact Zo (XD (XM WL WL Zf (Zn ZN rfl T.len PySem.boot_len (Zc (pv 0) Za)) (YF rfl hLN (v:=.int 8) ⟨_,rfl⟩)) (Wq (Zn (Wd rfl) rfl T.all (by decide +kernel) (Zc (Xx (CompOk.of nNn s_is_name rfl rfl (by decide +kernel)) rfl (WV (pv 0))  (fun _ _ _ _ _=>XM YG YG Zj (pv 1) Zj)) Za))))
 refine ⟨_,rfl,_,_,_,true,rfl,.inl (.str _),rfl,_,rfl,Zu ?_⟩
 refine ⟨_,rfl,x,rfl,Zr hx,?_⟩
 have fin:∀ b:Bool,b=YO x→Q (.bl b) H:=fun b e=>by rw [e];exact q H (Same.refl H)
 refine ⟨_,_,rfl,rfl,_,rfl,?_⟩
 by_cases c1:(1:Int)≤(x.length:Int)
 · rw [decide_eq_true c1]
   refine Zv ⟨_,_,rfl,rfl,_,rfl,?_⟩
   by_cases c2:(x.length:Int)≤8
   · rw [decide_eq_true c2]
     refine Zv ⟨_,rfl,x,rfl,fun D hD=>?_⟩
     refine Xh (Zr hx) (fun c=>.bl (Ua c)) (fun c H' R hc hR=>?_) ⟨D,x.cps.toList.map Ua,rfl,SqL.of (by rw [UU];exact Zb),?_⟩
     · exact ⟨_,rfl,_,_,rfl,rfl,_,rfl,btw ca cz hR⟩
     · have:(x.cps.toList.map Ua).all id=YO x:=by
         unfold YO
         rw [decide_eq_true (show 1≤x.length by omega),decide_eq_true (show x.length≤8 by omega),List.all_map];rfl
       rw [this]
       exact q _ (Zh hD _)
   · rw [decide_eq_false c2]
     exact Zu (fin _ (by unfold YO;rw [decide_eq_false (show ¬ x.length≤8 by omega)];simp))
 · rw [decide_eq_false c1]
   refine Zu ⟨_,rfl,?_⟩
   exact Zu (fin _ (by unfold YO;rw [decide_eq_false (show ¬ 1≤x.length by omega)];simp))
abbrev nVl:List Str:=["thing"]
abbrev ZhK:List Str:=["thing"]
theorem scVl:Zz nVl ZhK (Zl s_is_value):=⟨rfl,rfl,rfl,by decide +kernel,rfl,by decide +kernel,by decide +kernel⟩
theorem ZfF {f:Addr}{fd:FuncData}(F:Fun K "is_value" "is_value" s_is_value f fd)(T:Yk mg):FnOk P w K mg base ZY 1 f fd ZhK (ZeE fun x=>x.cps.toList.all Yd):=by
 refine F.ok scVl (fun vs H Q E h=>?_) (fun cdv A outer s H vs Q E hr h=>?_)
 · obtain ⟨x,rfl,_⟩:=h;rfl
 obtain ⟨x,rfl,hx,q⟩:=h
 refine' ⟨?t,?h,?r⟩
 case h =>
   conv=>arg 2;whnf
   with_reducible refine' (Zd (ZS ?h1 (Zi ?h2) ZE) (Zi Zjp))
   case h1=>exact Yh (Zn (Ys (K:=K) rfl) rfl T.isinstance (by decide +kernel) (Zc (pv 0) (Zc (Yz rfl T.str (by decide +kernel) (v:=.ty "str") rfl) Za)))
   case h2=>exact Zo (Zn (Wd rfl) rfl T.all (by decide +kernel) (Zc (Xx (CompOk.of nVl s_is_value rfl rfl (by decide +kernel)) rfl (WV (pv 0))  (fun _ _ _ _ _=>XM YG YG Zj (pv 1) Zj)) Za))
 refine ⟨_,rfl,_,_,_,true,rfl,.inl (.str _),rfl,_,rfl,Zv ⟨_,rfl,x,rfl,fun D hD=>?_⟩⟩
 refine Xh (Zr hx) (fun c=>.bl (Yd c)) (fun c H' R hc hR=>?_) ⟨D,x.cps.toList.map Yd,rfl,SqL.of (by rw [UU];exact Zb),?_⟩
 · exact ⟨_,rfl,_,_,rfl,rfl,_,rfl,btw cbl cti hR⟩
 · have:(x.cps.toList.map Yd).all id=x.cps.toList.all Yd:=by rw [List.all_map];rfl
   rw [this]
   exact q _ (Zh hD _)
def spUn:Sp:=fun vs H Q _=>∃ x:Str,vs=[.str x]∧x.length≤100000∧Q (.str ⟨(XR false x.cps.toList).toArray⟩) H
abbrev nUn:List Str:=["written","text","behind_slash","sign"]
abbrev Zim:List Str:=["written"]
theorem scUn:Zz nUn Zim (Zl s_unslashed):=⟨rfl,rfl,rfl,by decide +kernel,rfl,by decide +kernel,by decide +kernel⟩
theorem ZjV {f:Addr}{fd:FuncData}(F:Fun K "unslashed" "unslashed" s_unslashed f fd)(T:Yk mg):FnOk P w K mg base ZY 1 f fd Zim spUn:=by
 refine F.ok scUn (fun vs H Q E h=>?_) (fun cdv A outer s H vs Q E hr h=>?_)
 · obtain ⟨x,rfl,_⟩:=h;rfl
 obtain ⟨x,rfl,hx,q⟩:=h
 refine' ⟨?t,?h,?r⟩
 case h =>
   conv=>arg 2;whnf
   with_reducible refine' (Zd ?h1 (Zd ?h2 (Zd (Xu ?h3 ?h4 ?h5 ?h6 (Zd ?h7 (Zi (ZS ?h8 (Zi ?h9) ZE))) ?h10) (Zi ?h11))))
   case h1=>exact Zw (i:=1) scUn.nd rfl (Or.inl rfl) Zj
   case h2=>exact Zw (i:=2) scUn.nd rfl (Or.inl rfl) UD
   case h3=>exact PassesOwn.never
   case h4=>exact rfl
   case h5=>exact WV (pv 0)
   case h6=>exact ZD (i:=3) scUn.nd rfl (Or.inl rfl)
   case h7=>exact Zw (i:=2) scUn.nd rfl (Or.inl rfl) (XD (Xv Xn (pv 3) Zj (ZH _)) (Wq (ZaQ (pv 2))))
   case h8=>exact Xg (Yh (pv 2))
   case h9=>exact ZlQ (i:=1) scUn.nd rfl (Or.inl rfl) (pv 3) (Zey)
   case h10=>exact fun _=>rfl
   case h11=>exact Zo (pv 1)
 refine ⟨_,rfl,x,rfl,?_⟩
 refine Zkv (x:=x) (fun i σ H'=>H'=H∧∃ (acc:List Nat) (b:Bool) (x3:Option V),σ=[some (.str x),some (.str ⟨acc.toArray⟩),some (.bl b),x3]∧acc++XR b (x.cps.toList.drop i)=XR false x.cps.toList∧acc.length≤i) ⟨rfl,[],false,_,rfl,by rw [List.drop_zero];rfl,Nat.zero_le _⟩ ?_ ?_
 · rintro i c σ H' hc ⟨rfl,acc,b,x3,rfl,e,hl⟩
   have hd:x.cps.toList.drop i=c::x.cps.toList.drop (i+1):=by
     obtain ⟨h1,h2⟩:=List.getElem?_eq_some_iff.mp hc
     rw [List.drop_eq_getElem_cons h1,h2]
   have hi:=(List.getElem?_eq_some_iff.mp hc).1
   rw [← Zt] at hi
   rw [hd,XR] at e
   refine ⟨_,rfl,rfl,_,rfl,?_⟩
   rw [Zdg c 92 _ sl1]
   have no:∀ b':Bool,b'=false→(decide (c=92)&&!b)=false→Zjb (tNot (tB (Vm 2))) (tAug 1 (Vm 3) fun x y H Q=>∃ i j,x=V.str i∧y=V.str j∧i.length+j.length≤sizeLine∧Q (V.str (i++j)) H) ZeM { nx:=fun σ H''=>H''=H'∧∃ (acc:List Nat) (b:Bool) (x3:Option V),σ=[some (.str x),some (.str ⟨acc.toArray⟩),some (.bl b),x3]∧acc++XR b (x.cps.toList.drop (i+1))=XR false x.cps.toList∧acc.length≤i+1,rt:=Q } [some (.str x),some (.str ⟨acc.toArray⟩),some (.bl b'),some (.str ⟨#[c]⟩)] H':=by
     rintro _ rfl z
     rw [z] at e
     refine ⟨_,rfl,_,rfl,Zv ⟨_,rfl,_,rfl,_,_,rfl,rfl,Zr (show _≤100000 by show acc.toArray.size+1≤100000;rw [List.size_toArray];omega),rfl,acc++[c],false,some (.str ⟨#[c]⟩),?_,?_,by simp;omega⟩⟩
     · show _=[some (V.str x),some (V.str ⟨(acc++[c]).toArray⟩),some (V.bl false),some (V.str ⟨#[c]⟩)]
       rw [show (⟨(acc++[c]).toArray⟩:Str)=(⟨acc.toArray⟩:Str)++⟨#[c]⟩ from ZR (by rw [Yo])]
       rfl
     · rw [List.append_assoc];exact e
   by_cases hc2:c=92
   · rw [decide_eq_true hc2] at e no ⊢
     refine Zv ⟨_,rfl,_,rfl,?_⟩
     cases b with
     | true=>exact no _ rfl rfl
     | false=>exact ⟨_,rfl,_,rfl,Zu ⟨rfl,acc,true,_,rfl,e,by omega⟩⟩
   · rw [decide_eq_false hc2] at e no ⊢
     exact Zu (no _ rfl rfl)
 · rintro σ H' ⟨rfl,acc,b,x3,rfl,e,hl⟩
   rw [List.drop_length] at e
   have e:acc=XR false x.cps.toList:=by simpa [XR] using e
   exact ⟨_,rfl,by rw [e];exact q⟩
def spNF:Sp:=fun vs H Q _=>∃(w:Str)(most:Nat),vs=[.str w,.int most]∧w.length≤100000∧most≤300∧∀ H',Same H H'→Q (match YW w most with | some n=>.int n | none=>.non) H'
abbrev nNf:List Str:=["word","most","figures"]
abbrev ZhL:List Str:=["word","most"]
theorem scNf:Zz nNf ZhL (Zl s_number_from):=⟨rfl,rfl,rfl,by decide +kernel,rfl,by decide +kernel,by decide +kernel⟩
theorem ZjK {f:Addr}{fd:FuncData}(F:Fun K "number_from" "number_from" s_number_from f fd)(T:Yk mg):FnOk P w K mg base ZY 1 f fd ZhL spNF:=by
 refine F.ok scNf (fun vs H Q E h=>?_) (fun cdv A outer s H vs Q E hr h=>?_)
 · obtain ⟨x,_,rfl,_⟩:=h;rfl
 obtain ⟨x,most,rfl,hx,hm,q⟩:=h
 refine' ⟨?t,?h,?r⟩
 case h =>
   conv=>arg 2;whnf
   with_reducible refine' (Wh ?h1 (Zd (ZS ?h2 (Zi ?h3) ZE) (Zi ?h4)))
   case h1=>exact Zw (i:=2) scNf.nd rfl (Or.inl rfl) (Yl (Yh (YH PySem.F.plainAttrs_str PySem.F.slot_str_startswith PySem.F.type_str_startswith Vr (pv 0) (Zc Zj Za))) (ZM Yx (pv 0) (ZK Zf) ZV) (pv 0))
   case h2=>exact PW.pt (Xf (Xg (Zcs WL WL Zf (Zn ZN rfl T.len PySem.boot_len (Zc (pv 2) Za)) (pv 1))) (XI (Xg (Yh (Zn (Wd rfl) rfl T.all (by decide +kernel) (Zc (Xx (CompOk.of nNf s_number_from rfl rfl (by decide +kernel)) rfl (WV (pv 2))  (fun _ _ _ _ _=>XM YG YG Zj (pv 3) Zj)) Za))))))
   case h3=>exact Zo YI
   case h4=>exact Zo (Yl (ZF Xn (YA UF rfl T.str (by decide +kernel) (Zc (YA XY rfl T.int (by decide +kernel) (Zc (pv 0) Za)) Za)) (pv 0) (ZH _)) (YA XY rfl T.int (by decide +kernel) (Zc (pv 0) Za)) YI)
 have hlx:=Zt x
 refine ⟨fun σ H'=>H'=H∧∃ y:Str,y.cps.toList=Yc x∧σ=[some (.str x),some (.int most),some (.str y)],?_,?_⟩
 · refine ⟨_,rfl,rfl,x,_,rfl,rfl,_,rfl,?_⟩
   rw [mi1,Zba]
   by_cases hh:x.cps.toList.head?=some 45
   · rw [decide_eq_true hh]
     exact Zv ⟨_,rfl,_,rfl,x,rfl,Zr hx,rfl,_,by rw [Zbg];unfold Yc;rw [if_pos hh],rfl⟩
   · rw [decide_eq_false hh]
     exact Zu ⟨_,rfl,rfl,x,by unfold Yc;rw [if_neg hh],rfl⟩
 rintro σ H ⟨rfl,y,ey,rfl⟩
 have hly:y.length=(Yc x).length:=by rw [Zt,ey]
 have hyx:(Yc x).length≤100000:=by
   unfold Yc
   split
   · rw [List.length_drop];omega
   · omega
 refine ⟨_,rfl,y,rfl,Zr (show _≤100000 by omega),_,_,rfl,rfl,_,rfl,?_⟩
 have no:∀ H',Same H H'→¬ (1≤(Yc x).length∧(Yc x).length≤most∧(Yc x).all Xm=true)→Q .non H':=fun H' s' h=>by
   have:=q H' s'
   unfold YW at this
   rw [if_neg h] at this;exact this
 by_cases c1:(1:Int)≤(y.length:Int)
 · rw [decide_eq_true c1]
   refine Zv ⟨_,rfl,_,_,rfl,rfl,_,rfl,?_⟩
   by_cases c2:(y.length:Int)≤(most:Int)
   · rw [decide_eq_true c2]
     refine Zu ⟨_,rfl,y,rfl,fun D hD=>?_⟩
     refine Xh (Zr (show _≤100000 by omega)) (fun c=>.bl (Xm c)) (fun c H' R hc hR=>?_) ⟨D,y.cps.toList.map Xm,rfl,SqL.of (by rw [UU];exact Zb),?_⟩
     · exact ⟨_,rfl,_,_,rfl,rfl,_,rfl,btw c0 c9 hR⟩
     have s1:=Zh hD (.lst ((y.cps.toList.map fun c=>V.bl (Xm c))))
     generalize upd H D (.lst ((y.cps.toList.map fun c=>V.bl (Xm c))))=H1 at s1 ⊢
     have ea:(y.cps.toList.map Xm).all id=(Yc x).all Xm:=by rw [List.all_map,ey];rfl
     rw [ea]
     refine ⟨_,rfl,?_⟩
     cases hd:(Yc x).all Xm with
     | false=>exact Zv (no H1 s1 fun h=>by rw [hd] at h;exact absurd h.2.2 (by decide))
     | true =>
       have hq:=q H1 s1
       obtain ⟨n,hn,hl,hlog⟩:=ZaK (w:=x) (by omega) (by omega) hd
       unfold YW at hq
       rw [if_pos ⟨by omega,by omega,hd⟩,hn,Option.getD_some] at hq
       refine Zu ⟨_,rfl,x,n,rfl,hn,hl,.inl ⟨n,rfl,hlog,_,rfl,rfl,_,rfl,?_⟩⟩
       by_cases hs:Str.ofString (toString n)=x
       · rw [decide_eq_true (by rw [hs])]
         rw [if_pos hs] at hq
         exact Zv ⟨_,rfl,x,n,rfl,hn,hl,hq⟩
       · rw [decide_eq_false (fun z=>hs (by injection z))]
         rw [if_neg hs] at hq
         exact Zu hq
   · rw [decide_eq_false c2]
     exact Zv (no H (Same.refl H) fun h=>c2 (by omega))
 · rw [decide_eq_false c1]
   refine Zu ⟨_,rfl,?_⟩
   exact Zv (no H (Same.refl H) fun h=>c1 (by omega))
def spVF:Sp:=fun vs H Q _=>∃ w:Str,vs=[.str w]∧w.length≤100000∧∀ H',Same H H'→Q (match Wt w with | some v=>v | none=>.non) H'
abbrev nVf:List Str:=["word","text","fits"]
abbrev ZiZ:List Str:=["word"]
theorem scVf:Zz nVf ZiZ (Zl s_value_from):=⟨rfl,rfl,rfl,by decide +kernel,rfl,by decide +kernel,by decide +kernel⟩
theorem Zkl {f:Addr}{fd:FuncData}(F:Fun K "value_from" "value_from" s_value_from f fd)(T:Yk mg)(hMF:mg "MOST_FIGURES"=some (.int 30 t3))(hMS:mg "MOST_SIGNS"=some (.int 40 t4))(DNf:Def P w K mg base 2 "number_from" ZhL spNF)(DUn:Def P w K mg base 2 "unslashed" Zim spUn)(DVl:Def P w K mg base 2 "is_value" ZhK (ZeE fun x=>x.cps.toList.all Yd))(DVT:Def P w K mg base 2 "value_text" ZeV Zhz):FnOk P w K mg base ZY 3 f fd ZiZ spVF:=by
 refine F.ok scVf (fun vs H Q E h=>?_) (fun cdv A outer s H vs Q E hr h=>?_)
 · obtain ⟨x,rfl,_⟩:=h;rfl
 obtain ⟨x,rfl,hx,q⟩:=h
 refine' ⟨?t,?h,?r⟩
 case h =>
   conv=>arg 2;whnf
   with_reducible refine' (Zd (ZS ?h1 (Zi ?h2) ZE) (Zd ?h3 (Zd ?h4 (Zi ?h5))))
   case h1=>exact Xg (Yh (YH PySem.F.plainAttrs_str PySem.F.slot_str_startswith PySem.F.type_str_startswith Vr (pv 0) (Zc Zj Za)))
   case h2=>exact Zo (ZC DNf hr (Zc (pv 0) (Zc (YF rfl hMF (v:=.int 30) ⟨_,rfl⟩) Za)))
   case h3=>exact Zw (i:=1) scVf.nd rfl (Or.inl rfl) (ZC DUn hr (Zc (ZM Yx (pv 0) (ZK Zf) (ZK (ZfK Zct Zf))) Za))
   case h4=>exact Zw (i:=2) scVf.nd rfl (Or.inl rfl) (XD (Xv WL (Zn ZN rfl T.len PySem.boot_len (Zc (pv 1) Za)) (YF rfl hMS (v:=.int 40) ⟨_,rfl⟩) (ZH _)) (XD (ZC DVl hr (Zc (pv 1) Za)) (Wq (Xv Xn (ZC DVT hr (Zc (pv 1) Za)) (pv 0) (ZH _)))))
   case h5=>exact Zo (Yl (Yh (pv 2)) (pv 1) YI)
 have hlx:=Zt x
 refine ⟨_,rfl,rfl,x,_,rfl,rfl,_,rfl,?_⟩
 rw [qu1,Zba]
 by_cases hh:x.cps.toList.head?=some 39
 · rw [decide_eq_true hh]
   have et:(⟨(XR false (Txt.slice x (some 1) (some (-1))).cps.toList).toArray⟩:Str)=Wp x:=by rw [Zir];rfl
   have hlt:(Wp x).length≤100000:=by
     have:=Zbr false (x.cps.toList.drop 1).dropLast
     rw [List.length_dropLast,List.length_drop] at this
     show (XR false (x.cps.toList.drop 1).dropLast).toArray.size≤_
     rw [List.size_toArray];omega
   refine Zu ⟨_,rfl,_,rfl,_,rfl,_,rfl,x,rfl,Zr hx,_,rfl,Nat.le_trans (Txt.slice_le x _ _) hx,?_⟩
   rw [et]
   have no:∀ H',Same H H'→¬ ((Wp x).length≤40∧(Wp x).cps.toList.all Yd=true∧ZP (.str (Wp x))=x)→Q .non H':=fun H' s' h=>by
     have:=q H' s'
     unfold Wt at this
     rw [if_pos hh,if_neg h] at this;exact this
   refine ⟨_,rfl,_,rfl,Zr hlt,_,_,rfl,rfl,_,rfl,?_⟩
   by_cases c1:((Wp x).length:Int)≤40
   · rw [decide_eq_true c1]
     refine Zv ⟨_,rfl,_,rfl,hlt,fun H1 s1=>?_⟩
     refine ⟨(Wp x).cps.toList.all Yd,rfl,?_⟩
     cases c2:(Wp x).cps.toList.all Yd with
     | false=>exact Zu ⟨_,rfl,_,rfl,Zu (no H1 s1 fun h=>by rw [c2] at h;exact absurd h.2.1 (by decide))⟩
     | true =>
       refine Zv ⟨_,rfl,_,rfl,⟨by omega,c2⟩,_,rfl,rfl,?_⟩
       refine ⟨_,rfl,_,rfl,?_⟩
       by_cases c3:ZP (.str (Wp x))=x
       · rw [decide_eq_true (by rw [c3])]
         have:=q H1 s1
         unfold Wt at this
         rw [if_pos hh,if_pos ⟨by omega,c2,c3⟩] at this
         exact Zv ⟨_,rfl,this⟩
       · rw [decide_eq_false (fun z=>c3 (by injection z))]
         exact Zu (no H1 s1 fun h=>c3 h.2.2)
   · rw [decide_eq_false c1]
     exact Zu ⟨_,rfl,_,rfl,Zu (no H (Same.refl H) fun h=>c1 (by omega))⟩
 · rw [decide_eq_false hh]
   refine Zv ⟨_,rfl,x,30,rfl,hx,by decide,fun H1 s1=>?_⟩
   have:=q H1 s1
   unfold Wt at this
   rw [if_neg hh] at this
   cases e:YW x 30 with
   | none=>rw [e] at this;exact this
   | some n=>rw [e] at this;exact this
end
end K70
set_option maxHeartbeats 2000000
namespace L2
open PySem PySem.Spec PyProof.Rows
def ZkE (K:PySem.W.Frag):V→List V→Hp→VK→Prop:=fun x vs H Q=>∃(l:Addr)(ns:List Str)(y:Str),x=.ref l∧vs=[.str y]∧SqL K H l (ns.map V.str)∧y∈ns∧ns.length≤100000∧Q (.int (ns.idxOf y:Nat)) H
theorem ZgT {ns:List Str}{y:Str}:∀{j:Nat}(h:j < ns.length),j < ns.idxOf y→ns[j]≠y:=by
 induction ns with
 | nil=>intro j h;simp at h
 | cons a r ih =>
   intro j h hj
   rw [List.idxOf_cons] at hj
   by_cases e:(a == y)=true
   · rw [e] at hj;simp at hj
   · have e':(a == y)=false:=by simpa using e
     rw [e'] at hj
     cases j with
     | zero=>intro z;exact e (by simpa using z)
     | succ j=>exact ih (j:=j) (by simpa using h) (by simpa using hj)
section
variable {X:Cx}
theorem Zgz:MtR X "list.index" (ZkE X.K):=by
 intro pins s σ H x vs v us Q I rx rv h
 obtain ⟨l,ns,y,rfl,rfl,hl,hk,hz,q⟩:=h
 cases rx
 obtain ⟨u,rfl,ru⟩:=YN rv
 obtain ⟨its,r,ht,_⟩:=I.list hl
 obtain ⟨⟨cls,dd,data,sl⟩,n,ho,hc,hsl,hd⟩:=ht
 have hlen:ns.length=its.length:=by have:=r.length;rwa [List.length_map] at this
 have hj:ns.idxOf y < ns.length:=List.idxOf_lt_length_iff.mpr hk
 dsimp only at hc hsl hd
 subst hc hsl hd
 have at':∀ (j:Nat) (h1:j < its.length) (h2:j < ns.length),Wu (.str y) its[j]=decide (ns[j]=y):=fun j h1 h2=>by
   obtain ⟨u',e1,e2⟩:=r.get (i:=j) (x:=V.str ns[j]) (by simp [h2])
   rw [List.getElem?_eq_getElem h1] at e1
   cases e1
   rw [ZcO e2 rfl]
   show (ns[j] == y)=_
   exact (Bool.eq_iff_iff.mpr (by simp))
 refine call_meets PySem.F.slot_list_index ⟨_,ho,rfl⟩ PySem.F.entry_list_index (PySem.F.args_list_index_2 _ _)
   (PySem.SeqAt.list_indexAt l its.toArray n none sl _ (Wu (.str y)) (ns.idxOf y) (by simpa [hlen] using hj) (by omega) ?_ ?_) ⟨ho,fun w hw=>WJ ru rfl r (ZbO ns) w (by simpa using hw),⟨.int (ns.idxOf y:Nat),H,I.tok _,⟨_,rfl⟩,q⟩⟩
 · show Wu (.str y) its[ns.idxOf y]=true
   rw [at' _ (by omega) hj]
   exact decide_eq_true (List.getElem_idxOf hj)
 · intro j hjs hlt
   have h2:j < ns.length:=by rw [List.size_toArray] at hjs;omega
   show Wu (.str y) its[j]=false
   rw [at' _ (by omega) h2]
   exact decide_eq_false (ZgT h2 hlt)
end
theorem Zkq {xs:List V}{i j:Nat}(h:i≤j)(hj:j≤xs.length):Xy xs (some (i:Int)) (some (j:Int))=(xs.drop i).take (j - i):=by
 unfold Xy
 rw [HT.sIx_nat,HT.sIx_nat,Nat.min_eq_left hj,Nat.min_eq_left (show i≤xs.length by omega)]
section
variable {X:Cx}{elt iter tg:Expr}{xa xb:Str}{pos:Pos}{scope:Scope}{wi:TI}{te:TE}{g:TG}
theorem Zdx {i:Nat}{y:Str}{py spos:Pos}(O:CompOkT X scope xa xb)(hc:X.calm=true)(hN:X.N.Nodup)(hiN:X.N[i]?=some y)(hy:Loc X.env.scope y)(hi:PI X tg iter wi)(hg:∀ cl C s₀ H₀ fp,PG (YV X scope xa xb cl C s₀ H₀ fp) tg g)(he:∀ cl C s₀ H₀ fp,PE (YV X scope xa xb cl C s₀ H₀ fp) elt te)
   (hsw:swapsWith (.ListComp elt [⟨tg,iter,[],0⟩] scope pos) (some (.Name y py)) spos.line X.env=pure true) (hf:X.fn y=true∨X.env.scope.names.lookup y=some .local:=by first | exact .inl rfl | exact .inr rfl | assumption)
   (hs:∀ v,foldedSetIterable iter X.env v=pure v:=by intro _;rfl):PS X (.Assign [.Name y py] (.ListComp elt [⟨tg,iter,[],0⟩] scope pos) spos) (ZeX (ZgK wi g te) (UG i)):=by
 intro pins s σ H D I h
 obtain ⟨cl,hcl,cl1,cl2⟩:=Ug (scope:=scope) (env:=X.env) fun y hy hf=>I.ok.has _ (O.clos y hy hf)
 rw [exec_Assign_Name_used _ _ _ _ hsw]
 refine wpAny_bind (wpAny_standAt (wpAny_bind ?_))
 show wpAny _ X.A (do let _ ← comprehension (.ListComp elt [⟨tg,iter,[],0⟩] scope pos) scope X.env _ (newList []) false (eval iter X.env) (some (assign (.Name y py) X.env))) _ _ s
 refine wpAny_bind (wpAny_mono (wpAny_comprehension_free (use:=some (assign (.Name y py) X.env)) (Q:=fun _ s'=>SP X pins D .next s') rfl hs hcl O.kind O.names
   (Zp (hi pins s σ H _ I h) fun v s1 h1=>Zp h1 fun itv s2 h2=>?_)) (fun _ s' hq=>wpAny_pure (wpAny_pure hq)) fun _ _ e=>e)
 obtain ⟨it,fp,tn,J,H2,e,I2,T,st2,f2,q⟩:=h2
 subst e
 refine Zab (RR:=fun acc C=>compPost (model X.prog X.w) X.A X.xe (some (assign (.Name y py) X.env)) (fun _ s'=>SP X pins D .next s') acc C) O hc cl1 cl2 hg he I2 T st2 f2 q ?_
 intro Dl C H' s' I' ⟨g0,g1,g2,g3,g4,g5⟩ ⟨m,hm⟩ hq
 show wpAny _ X.A (assign (.Name y py) X.env (.ref Dl)) _ _ _
 refine wpAny_assign_Name (Zcd I' hN hiN hy (v:=.ref Dl) rfl (fun s'' I'' ⟨a,sb,ha⟩=>?_) hf)
 have haC:C≠a:=by
   rcases ha with z | z
   · rw [z];exact g1
   · exact fun z'=>g4 y a z z'.symm
 exact ⟨m,hm.sameBut sb haC,fun h' hs'=>⟨_,H',I''.turned (t':=s''.toks) (fun b o hb e=>(hs'.2 b hb).trans e) g0 g1 g3 g4 g5,hq⟩⟩
end
end L2
set_option maxHeartbeats 4000000
namespace K70
open PySem L2
abbrev ZI:Str:=Str.ofString "value"
def ZW (w k:Str):Option V:=if k="value" then Wt w else if YO w=true then some (.str w) else none
def XB (ws ks:List Str):Nat:=ks.idxOf ZI+1+ws.length - ks.length
def Ya (ws ks:List Str):List Str :=
 if ZI ∉ ks∨ws.length≤ks.length then ws
 else ws.take (ks.idxOf ZI)++[Txt.join " " ((ws.drop (ks.idxOf ZI)).take (XB ws ks - ks.idxOf ZI))]++ws.drop (XB ws ks)
def Xb (ws ks:List Str):List V:=List.zipWith (fun w k=>(ZW w k).getD .non) (Ya ws ks) ks
def ZZ (ws ks:List Str):Option (List V):=if (Ya ws ks).length=ks.length then (if Xd .non (Xb ws ks)=true then none else some (Xb ws ks)) else none
theorem ZfI (w k:Str):XX ((ZW w k).getD .non)=true:=by
 unfold ZW Wt
 split
 · split
   · split<;>rfl
   · cases YW w 30<;>rfl
 · split<;>rfl
def Fits (ws:List Str):Prop:=(ws.map (·.length)).sum+ws.length≤100000
theorem Zku {ws zs:List Str}(s:zs.Sublist ws):(zs.map (·.length)).sum≤(ws.map (·.length)).sum:=by
 induction s with
 | slnil=>exact Nat.le_refl _
 | cons a _ ih=>rw [List.map_cons,List.sum_cons];omega
 | cons_cons a _ ih=>rw [List.map_cons,List.map_cons,List.sum_cons,List.sum_cons];omega
theorem Fits.sub {ws zs:List Str}(h:Fits ws)(s:zs.Sublist ws):Fits zs:=by
 have h1:=s.length_le
 have h2:=Zku s
 unfold Fits at h ⊢;omega
theorem Fits.at {ws:List Str}(h:Fits ws):∀ w∈ws,w.length≤100000:=by
 induction ws with
 | nil=>intro w hw;cases hw
 | cons a r ih =>
   have h':a.length+(r.map (·.length)).sum+(r.length+1)≤100000:=by unfold Fits at h;rw [List.map_cons,List.sum_cons,List.length_cons] at h;exact h
   intro w hw
   rcases List.mem_cons.mp hw with rfl | hw
   · omega
   · exact ih (by unfold Fits;omega) w hw
theorem Zid {ws ks:List Str}(h:Fits ws):∀ w∈Ya ws ks,w.length≤100000:=by
 intro w hw
 unfold Ya at hw
 split at hw
 · exact h.at w hw
 · rcases List.mem_append.mp hw with hw | hw
   · rcases List.mem_append.mp hw with hw | hw
     · exact h.at w (List.mem_of_mem_take hw)
     · rw [List.mem_singleton.mp hw,tj]
       have f2:=h.sub ((List.take_sublist (XB ws ks - ks.idxOf ZI) _).trans (List.drop_sublist (ks.idxOf ZI) ws))
       have:=WR " " ((ws.drop (ks.idxOf ZI)).take (XB ws ks - ks.idxOf ZI))
       unfold Fits at f2
       rw [show (Str.ofString " ").length=1 by decide +kernel] at this
       omega
   · exact h.at w (List.mem_of_mem_drop hw)
section
variable {P:Program}{w:World}{K:PySem.W.Frag}{mg:Str→Option Value}{base:Heap}{tl t3 t4:Tok}
def spPF:Sp:=fun vs H Q _=>∃ w k:Str,vs=[.str w,.str k]∧w.length≤100000∧∀ H',Same H H'→Q ((ZW w k).getD .non) H'
abbrev nPf:List Str:=["word","kind"]
abbrev ZiO:List Str:=["word","kind"]
theorem scPf:Zz nPf ZiO (Zl s_part_from):=⟨rfl,rfl,rfl,by decide +kernel,rfl,by decide +kernel,by decide +kernel⟩
theorem Zhw {f:Addr}{fd:FuncData}(F:Fun K "part_from" "part_from" s_part_from f fd)(T:Yk mg)(DVf:Def P w K mg base 3 "value_from" ZiZ spVF)(DNn:Def P w K mg base 3 "is_name" ZiB (ZeE YO)):FnOk P w K mg base ZY 4 f fd ZiO spPF:=by
 refine F.ok scPf (fun vs H Q E h=>?_) (fun cdv A outer s H vs Q E hr h=>?_)
 · obtain ⟨x,_,rfl,_⟩:=h;rfl
 obtain ⟨x,k,rfl,hx,q⟩:=h
 refine' ⟨?t,?h,?r⟩
 case h =>
   conv=>arg 2;whnf
   with_reducible refine' (Zd (ZS ?h1 (Zi ?h2) ZE) (Zi ?h3))
   case h1=>exact ZF Xn (pv 1) Zj (ZH _)
   case h2=>exact Zo (ZC DVf hr (Zc (pv 0) Za))
   case h3=>exact Zo (Yl (Yh (ZC DNn hr (Zc (pv 0) Za))) (pv 0) YI)
 refine ⟨_,rfl,rfl,_,rfl,?_⟩
 by_cases hk:k="value"
 · rw [decide_eq_true (by rw [hk])]
   refine Zv ⟨_,rfl,x,rfl,hx,fun H1 s1=>?_⟩
   have:=q H1 s1
   unfold ZW at this
   rw [if_pos hk] at this
   cases e:Wt x with
   | none=>rw [e] at this;exact this
   | some v=>rw [e] at this;exact this
 · rw [decide_eq_false (fun z=>hk (by injection z))]
   refine Zu ⟨_,rfl,x,rfl,hx,fun H1 s1=>⟨YO x,rfl,?_⟩⟩
   have:=q H1 s1
   unfold ZW at this
   rw [if_neg hk] at this
   cases e:YO x with
   | true=>rw [e,if_pos rfl] at this;exact Zv ⟨_,rfl,this⟩
   | false=>rw [e,if_neg (by decide)] at this;exact Zu this
def spWW:Sp:=fun vs H Q _=>∃(a b:Addr)(ws ks:List Str),vs=[.ref a,.ref b]∧H a=some (.lst (ws.map V.str))∧H b=some (.lst (ks.map V.str))∧Fits ws∧ks.length≤10∧∀ l H',Same H H'→H' l=some (.lst ((Ya ws ks).map V.str))→Q (.ref l) H'
abbrev nWw:List Str:=["words","kinds","at","end"]
abbrev Zht:List Str:=["words","kinds"]
theorem scWw:Zz nWw Zht (Zl s_whole_words):=⟨rfl,rfl,rfl,by decide +kernel,rfl,by decide +kernel,by decide +kernel⟩
theorem ZiQ {f:Addr}{fd:FuncData}(F:Fun K "whole_words" "whole_words" s_whole_words f fd)(T:Yk mg):FnOk P w K mg base ZY 1 f fd Zht spWW:=by
 refine F.ok scWw (fun vs H Q E h=>?_) (fun cdv A outer s H vs Q E hr h=>?_)
 · obtain ⟨a,b,_,_,rfl,_⟩:=h;rfl
 obtain ⟨a,b,ws,ks,rfl,ea,eb,hf,hks,q⟩:=h
 refine' ⟨?t,?h,?r⟩
 case h =>
   conv=>arg 2;whnf
   with_reducible refine' (Zd (ZS ?h1 (Zi ?h2) ZE) (Zd ?h3 (Zd ?h4 (Zi ?h5))))
   case h1=>exact PW.pt (Xf (ZF VE Zj (pv 1) rfl) (XI (ZF WL (Zn Yy rfl T.len PySem.boot_len (Zc (pv 0) Za)) (Zn Yy rfl T.len PySem.boot_len (Zc (pv 1) Za)) (ZH _))))
   case h2=>exact Zo (pv 0)
   case h3=>exact Zw (i:=2) scWw.nd rfl (Or.inl rfl) (YH PySem.F.plainAttrs_list PySem.F.slot_list_index PySem.F.type_list_index Zgz (pv 1) (Zc Zj Za))
   case h4=>exact Zw (i:=3) scWw.nd rfl (Or.inl rfl) (Zk WM (Zk Yn (Zk Yn (pv 2) Zf) (Zn Yy rfl T.len PySem.boot_len (Zc (pv 0) Za))) (Zn Yy rfl T.len PySem.boot_len (Zc (pv 1) Za)))
   case h5=>exact Zo (Zk UR (Zk UR (ZM Zbj (pv 0) ZV (ZK (pv 2))) (Yw (Zc (YH PySem.F.plainAttrs_str PySem.F.slot_str_join PySem.F.type_str_join Uk Zj (Zc (ZM Zbj (pv 0) (ZK (pv 2)) (ZK (pv 3))) Za)) Za))) (ZM Zbj (pv 0) (ZK (pv 3)) ZV))
 have hl:ws.length≤100000:=by unfold Fits at hf;omega
 have ein:Xd (.str ZI) (ks.map V.str)=decide (ZI∈ks):=by
   unfold Xd
   rw [List.any_map,Bool.eq_iff_iff,List.any_eq_true,decide_eq_true_eq]
   constructor
   · rintro ⟨k,hk,e⟩
     have:k=ZI:=by simpa [Wv] using e
     rw [← this];exact hk
   · intro hk;exact ⟨ZI,hk,by simp [Wv]⟩
 refine ⟨_,rfl,b,_,rfl,.inl (SqL.of eb),rfl,ZbO _,_,rfl,?_⟩
 rw [ein]
 by_cases c1:ZI∈ks
 · rw [decide_eq_true c1]
   refine Zu ⟨_,rfl,a,_,rfl,.inl (SqL.of ea),_,rfl,b,_,rfl,.inl (SqL.of eb),_,_,rfl,rfl,_,rfl,?_⟩
   rw [List.length_map,List.length_map]
   by_cases c2:(ws.length:Int)≤(ks.length:Int)
   · rw [decide_eq_true c2]
     exact Zv ⟨_,rfl,q a H (Same.refl H) (by unfold Ya;rw [if_pos (.inr (by omega))];exact ea)⟩
   · rw [decide_eq_false c2]
     have hix:ks.idxOf ZI < ks.length:=List.idxOf_lt_length_iff.mpr c1
     refine Zu ⟨_,rfl,.inl ⟨rfl,_,SqL.of eb⟩,b,ks,_,rfl,rfl,SqL.of eb,c1,by omega,?_⟩
     refine ⟨_,rfl,_,_,rfl,rfl,_,rfl,a,_,rfl,.inl (SqL.of ea),_,_,rfl,rfl,_,rfl,b,_,rfl,.inl (SqL.of eb),_,_,rfl,rfl,?_⟩
     rw [List.length_map,List.length_map]
     have ee:((ks.idxOf ZI:Nat):Int)+1+(ws.length:Int) - (ks.length:Int)=((XB ws ks:Nat):Int):=by unfold XB;omega
     have hat:ks.idxOf ZI≤XB ws ks∧XB ws ks≤ws.length:=by unfold XB;omega
     dsimp only
     rw [ee]
     refine ⟨_,rfl,?_⟩
     dsimp only [XQ]
     refine ⟨_,rfl,_,rfl,a,_,rfl,SqL.of ea,fun p1 hp1=>?_⟩
     have s1:=Zh hp1 (.lst (Xy (ws.map V.str) none (some ((ks.idxOf ZI:Nat):Int))))
     have e1:upd H p1 (.lst (Xy (ws.map V.str) none (some ((ks.idxOf ZI:Nat):Int)))) p1=_:=Zb
     generalize upd H p1 (.lst (Xy (ws.map V.str) none (some ((ks.idxOf ZI:Nat):Int))))=H1 at s1 e1 ⊢
     refine ⟨rfl,_,rfl,_,rfl,_,rfl,_,rfl,_,rfl,a,_,rfl,SqL.of (s1 _ _ ea),fun p2 hp2=>?_⟩
     have s2:=Zh hp2 (.lst (Xy (ws.map V.str) (some ((ks.idxOf ZI:Nat):Int)) (some ((XB ws ks:Nat):Int))))
     have e2:upd H1 p2 (.lst (Xy (ws.map V.str) (some ((ks.idxOf ZI:Nat):Int)) (some ((XB ws ks:Nat):Int)))) p2=_:=Zb
     generalize upd H1 p2 (.lst (Xy (ws.map V.str) (some ((ks.idxOf ZI:Nat):Int)) (some ((XB ws ks:Nat):Int))))=H2 at s2 e2 ⊢
     rw [ZhY,← List.map_take] at e1
     rw [Zkq hat.1 (by rw [List.length_map];exact hat.2),← List.map_drop,← List.map_take] at e2
     have fm:Fits ((ws.drop (ks.idxOf ZI)).take (XB ws ks - ks.idxOf ZI)):=hf.sub ((List.take_sublist _ _).trans (List.drop_sublist _ _))
     have hmid:Txt.join " " ((ws.drop (ks.idxOf ZI)).take (XB ws ks - ks.idxOf ZI))=Txt.join (Str.ofString " ") ((ws.drop (ks.idxOf ZI)).take (XB ws ks - ks.idxOf ZI)):=rfl
     dsimp only [XL]
     refine ⟨" ",p2,_,rfl,rfl,SqL.of e2,?_,(by show 1≤sizeLine;decide),fun p3 hp3=>?_⟩
     · unfold Fits at fm
       rw [show (Str.ofString " ").length=1 by decide +kernel];omega
     have s3:=Zh hp3 (.lst [V.str (Txt.join " " ((ws.drop (ks.idxOf ZI)).take (XB ws ks - ks.idxOf ZI)))])
     have e3:upd H2 p3 (.lst [V.str (Txt.join " " ((ws.drop (ks.idxOf ZI)).take (XB ws ks - ks.idxOf ZI)))]) p3=_:=Zb
     generalize upd H2 p3 (.lst [V.str (Txt.join " " ((ws.drop (ks.idxOf ZI)).take (XB ws ks - ks.idxOf ZI)))])=H3 at s3 e3 ⊢
     have h13:=(s2.trans s3) _ _ e1
     refine ⟨p1,p3,_,_,rfl,rfl,h13,e3,Zr (show _≤100000 by rw [List.length_map,List.length_take,List.length_singleton];omega),fun p4 hp4=>?_⟩
     have s4:=Zh hp4 (.lst ((ws.take (ks.idxOf ZI)).map V.str++[V.str (Txt.join " " ((ws.drop (ks.idxOf ZI)).take (XB ws ks - ks.idxOf ZI)))]))
     have e4:upd H3 p4 (.lst ((ws.take (ks.idxOf ZI)).map V.str++[V.str (Txt.join " " ((ws.drop (ks.idxOf ZI)).take (XB ws ks - ks.idxOf ZI)))])) p4=_:=Zb
     generalize upd H3 p4 (.lst ((ws.take (ks.idxOf ZI)).map V.str++[V.str (Txt.join " " ((ws.drop (ks.idxOf ZI)).take (XB ws ks - ks.idxOf ZI)))]))=H4 at s4 e4 ⊢
     have s14:=((s1.trans s2).trans s3).trans s4
     refine ⟨_,rfl,_,rfl,_,rfl,a,_,rfl,SqL.of (s14 _ _ ea),fun p5 hp5=>?_⟩
     rw [ZcS,← List.map_drop]
     have s5:=Zh hp5 (.lst ((ws.drop (XB ws ks)).map V.str))
     refine ⟨p4,p5,_,_,rfl,rfl,s5 _ _ e4,Zb,Zr (show _≤100000 by rw [List.length_append,List.length_map,List.length_map,List.length_take,List.length_drop,List.length_singleton];omega),fun p6 hp6=>q p6 _ ((s14.trans s5).trans (Zh hp6 _)) ?_⟩
     rw [Zb]
     unfold Ya
     rw [if_neg (by rintro (z | z);exact z c1;omega)]
     simp
 · rw [decide_eq_false c1]
   exact Zv ⟨_,rfl,q a H (Same.refl H) (by unfold Ya;rw [if_pos (.inl c1)];exact ea)⟩
def spPs:Sp:=fun vs H Q _=>∃(a b:Addr)(ws ks:List Str),vs=[.ref a,.ref b]∧H a=some (.lst (ws.map V.str))∧H b=some (.lst (ks.map V.str))∧Fits ws∧ks.length≤10∧(ZZ ws ks=none→∀ H',Same H H'→Q .non H')∧(∀ vs,ZZ ws ks=some vs→∀ l H',Same H H'→H' l=some (.lst vs)→Q (.ref l) H')
abbrev nPs:List Str:=["words","kinds","whole","parts"]
abbrev ZiE:List Str:=["words","kinds"]
theorem scPs:Zz nPs ZiE (Zl s_parts_from):=⟨rfl,rfl,rfl,by decide +kernel,rfl,by decide +kernel,by decide +kernel⟩
theorem ZiU {f:Addr}{fd:FuncData}(F:Fun K "parts_from" "parts_from" s_parts_from f fd)(T:Yk mg)(DWw:Def P w K mg base 4 "whole_words" Zht spWW)(DPf:Def P w K mg base 4 "part_from" ZiO spPF):FnOk P w K mg base ZY 5 f fd ZiE spPs:=by
 refine F.ok scPs (fun vs H Q E h=>?_) (fun cdv A outer s H vs Q E hr h=>?_)
 · obtain ⟨a,b,_,_,rfl,_⟩:=h;rfl
 obtain ⟨a,b,ws,ks,rfl,ea,eb,hf,hks,q1,q2⟩:=h
 refine' ⟨?t,?h,?r⟩
 case h =>
   conv=>arg 2;whnf
   with_reducible refine' (Zd ?h1 (Zd (ZS ?h2 (Zi ?h3) ZE) (Zd ?h4 (Zi ?h5))))
   case h1=>exact Zw (i:=2) scPs.nd rfl (Or.inl rfl) (ZC DWw hr (Zc (pv 0) (Zc (pv 1) Za)))
   case h2=>exact ZF XZ (Zn Yy rfl T.len PySem.boot_len (Zc (pv 2) Za)) (Zn Yy rfl T.len PySem.boot_len (Zc (pv 1) Za)) (ZH _)
   case h3=>exact Zo YI
   case h4=>exact Zdx (i:=3) (xa:="word") (xb:="kind") (CompOkT.of nPs s_parts_from rfl rfl (by decide +kernel)) rfl scPs.nd rfl (Or.inl rfl) (Zhq rfl T.zip (pv 2) (pv 1)) (fun _ _ _ _ _=>ZdW (K:=K) rfl rfl (ZD (i:=4) (show (Ud nPs "word" "kind"++(["word","kind"]:List Str)).Nodup by decide +kernel) rfl (Or.inl rfl) (Or.inr rfl)) (ZD (i:=5) (show (Ud nPs "word" "kind"++(["word","kind"]:List Str)).Nodup by decide +kernel) rfl (Or.inl rfl) (Or.inr rfl)))  (fun _ _ _ _ _=>ZC DPf hr (Zc (pv 4) (Zc (pv 5) Za))) rfl
   case h5=>exact Zo (Yl (ZF WT YI (pv 3) rfl) YI (pv 3))
 refine ⟨_,rfl,_,rfl,a,b,ws,ks,rfl,ea,eb,hf,hks,fun l H1 s1 el=>?_⟩
 refine ⟨_,rfl,l,_,rfl,.inl (SqL.of el),_,rfl,b,_,rfl,.inl (SqL.of (s1 _ _ eb)),rfl,_,rfl,?_⟩
 rw [List.length_map,List.length_map]
 by_cases c1:(Ya ws ks).length=ks.length
 · rw [decide_eq_true (by rw [c1])]
   refine Zu ⟨_,rfl,_,rfl,l,b,_,_,rfl,el,s1 _ _ eb,fun D hD=>?_⟩
   have hkl:ks.length≤100000:=by omega
   refine ZbS (K:=K) (xs:=(Ya ws ks).map V.str) (zs:=ks.map V.str) (Zr (show _≤100000 by rw [List.length_map];omega)) (by rw [List.length_map,List.length_map,c1]) (fun i ys H'=>Same H H'∧H' D=some (.lst ys)∧ys=(Xb ws ks).take i∧i≤ks.length∧H' l=some (.lst ((Ya ws ks).map V.str))) ⟨(s1.trans (Zh hD _)),Zb,by rw [List.take_zero],Nat.zero_le _,Zh hD _ _ _ el⟩ ?_ ?_ ?_
   · rintro i ys H' ⟨s2,_,rfl,hi,el2⟩
     have:(Xb ws ks).length=ks.length:=by unfold Xb;rw [List.length_zipWith,c1,Nat.min_self]
     exact ⟨by rw [List.length_take,this];omega,SqL.of el2,SqL.of (s2 _ _ eb)⟩
   · rintro i x z t ys H' wa wb hx hz ht ⟨s2,eD,rfl,hi,el2⟩
     rw [List.getElem?_map] at hx hz
     obtain ⟨u,eu,rfl⟩:=Option.map_eq_some_iff.mp hx
     obtain ⟨k,ek,rfl⟩:=Option.map_eq_some_iff.mp hz
     have s3:=Zh ht (.tup [.str u,.str k])
     refine ⟨t,_,rfl,SqT.of Zb,rfl,_,_,rfl,_,_,rfl,rfl,⟨_,_,rfl⟩,_,rfl,_,rfl,u,k,rfl,Zid hf u (List.mem_of_getElem? eu),fun H4 s4=>?_⟩
     have hlD:l≠D:=fun z=>by rw [z,hD] at el;cases el
     refine ⟨s4 _ _ (s3 _ _ eD),fun c o e=>?_,Zb,?_,(List.getElem?_eq_some_iff.mp ek).1,?_⟩
     · rw [Zm (ZG (s1 _ _ e) hD)];exact s4 _ _ (s3 _ _ (s2 _ _ e))
     · rw [List.take_add_one]
       congr 1
       unfold Xb
       rw [List.getElem?_zipWith,eu,ek];rfl
     · rw [Zm hlD];exact s4 _ _ (s3 _ _ el2)
   · rintro ys H' ⟨s2,eD,rfl,hi,el2⟩
     have hpl:(Xb ws ks).length=(Ya ws ks).length:=by unfold Xb;rw [List.length_zipWith,c1,Nat.min_self]
     rw [List.length_map,← hpl,List.take_length] at eD
     refine ⟨_,rfl,D,_,rfl,.inl (SqL.of eD),rfl,?_,_,rfl,?_⟩
     · unfold Xb
       rw [List.all_eq_true]
       intro v hv
       obtain ⟨i,hi,rfl⟩:=List.getElem_of_mem hv
       rw [List.getElem_zipWith]
       exact ZfI _ _
     · show if Xd .non (Xb ws ks)=true then _ else _
       cases e:Xd .non (Xb ws ks) with
       | true=>exact Zv (q1 (by unfold ZZ;rw [if_pos c1,e,if_pos rfl]) H' s2)
       | false=>exact Zu ⟨_,rfl,q2 _ (by unfold ZZ;rw [if_pos c1,e,if_neg (by decide)]) D H' s2 eD⟩
 · rw [decide_eq_false (fun z=>c1 (by injection z with z;omega))]
   exact Zv (q1 (by unfold ZZ;rw [if_neg c1]) H1 s1)
def Vs:V→Str
 | .str x=>x
 | _=>""
theorem Zkx {x:Str}{xs:List V}(h:YS x=some xs):xs=(xs.map Vs).map V.str∧xs.length≤3:=by
 unfold YS at h
 obtain ⟨ys,e,rfl⟩:=Option.map_eq_some_iff.mp h
 have all:∀ p∈Xt,(p.2.filter fun v=>!decide (v=.str "program"))=((p.2.filter fun v=>!decide (v=.str "program")).map Vs).map V.str:=by decide +kernel
 have mem:∀ (D:List (Str×List V)),PyProof.Rows.KTD.datumAt x D=some ys→∃ p∈D,p.2=ys:=by
   intro D
   induction D with
   | nil=>intro h;cases h
   | cons p D ih =>
     intro h
     rw [PyProof.Rows.KTD.datumAt] at h
     split at h
     · cases h;exact ⟨p,List.mem_cons_self,rfl⟩
     · obtain ⟨q,hq,e⟩:=ih h;exact ⟨q,List.mem_cons_of_mem _ hq,e⟩
 obtain ⟨p,hp,rfl⟩:=mem _ e
 exact ⟨all p hp,Nat.le_trans (List.length_filter_le _ _) (ZaE e).1⟩
def XV (row:Str):Option (List V):=match Txt.split row (Str.ofString " ") with
 | []=>none
 | w0::ws=>match YS w0 with
   | none=>none
   | some xs=>(ZZ ws (xs.map Vs)).map (V.str w0::·)
theorem ZgQ {ws ks:List Str}{vs:List V}(h:ZZ ws ks=some vs):vs.length=ks.length:=by
 unfold ZZ at h
 split at h
 · rename_i c
   split at h
   · cases h
   · cases h;unfold Xb;rw [List.length_zipWith,c,Nat.min_self]
 · cases h
theorem XE {H H':Hp}{p:Addr}(s:Same H H')(h:H' p=none):H p=none:=by
 cases e:H p with
 | none=>rfl
 | some o=>rw [s _ _ e] at h;cases h
def ZcW:Sp:=fun vs H Q _=>∃ row:Str,vs=[.str row]∧row.length≤90000∧(XV row=none→∀ H',Same H H'→Q .non H')∧(∀ hs,XV row=some hs→∀ a H',Same H H'→H a=none→H' a=some (.tup hs)→Q (.ref a) H')
abbrev nHf:List Str:=["row","word","words","parts"]
abbrev Zfx:List Str:=["row"]
theorem scHf:Zz nHf Zfx (Zl s_head_from):=⟨rfl,rfl,rfl,by decide +kernel,rfl,by decide +kernel,by decide +kernel⟩
theorem Zjh {f:Addr}{fd:FuncData}(F:Fun K "head_from" "head_from" s_head_from f fd)(T:Yk mg)(DKi:Def P w K mg base 5 "kinds_of" ZcG (VQ K))(DKR:Def P w K mg base 5 "kinds_in_row" ZeJ (ZhA K))(DPs:Def P w K mg base 5 "parts_from" ZiE spPs):FnOk P w K mg base ZY 6 f fd Zfx ZcW:=by
 refine F.ok scHf (fun vs H Q E h=>?_) (fun cdv A outer s H vs Q E hr h=>?_)
 · obtain ⟨a,rfl,_⟩:=h;rfl
 obtain ⟨row,rfl,hr0,q1,q2⟩:=h
 refine' ⟨?t,?h,?r⟩
 case h =>
   conv=>arg 2;whnf
   with_reducible refine' (Zd ?h1 (Zd (ZS ?h2 (Zi ?h3) ZE) (Zd ?h4 (Zi ?h5))))
   case h1=>exact Ws (YH PySem.F.plainAttrs_str PySem.F.slot_str_split PySem.F.type_str_split Zav (pv 0) (Zc Zj Za)) (ZkL rfl (ZD (i:=1) scHf.nd rfl (Or.inl rfl)) (ZD (i:=2) scHf.nd rfl (Or.inl rfl)))
   case h2=>exact XU (Ww (ZC DKi hr (Zc (pv 1) Za)))
   case h3=>exact Zo YI
   case h4=>exact Zw (i:=3) scHf.nd rfl (Or.inl rfl) (ZC DPs hr (Zc (pv 2) (Zc (ZC DKR hr (Zc (pv 1) Za)) Za)))
   case h5=>exact Zo (Yl (XU (Ww (pv 3))) YI (Zk ZdU (Yf (Zc (pv 1) Za)) (YA WY rfl T.tuple (by decide +kernel) (Zc (pv 3) Za))))
 refine ⟨_,rfl,rfl,row,_,rfl,rfl,(by decide +kernel),by omega,fun l hl=>?_⟩
 have hw:=PyProof.Rows.split_weight row (Str.ofString " ") (by decide +kernel)
 unfold XV at q1 q2
 cases e:Txt.split row (Str.ofString " ") with
 | nil=>exact absurd e (WD _ _)
 | cons w0 ws =>
   rw [e] at hw q1 q2
   simp only [List.map_cons,List.sum_cons,List.length_cons] at hw
   have hfit:Fits ws:=by unfold Fits;omega
   refine ⟨l,.str w0,ws.map V.str,rfl,SqL.of Zb,by rw [List.length_map];omega,fun D hD=>?_⟩
   have s0:Same H (upd (upd H l (.lst ((w0::ws).map V.str))) D (.lst (ws.map V.str))):=(Zh hl _).trans (Zh hD _)
   have eD:upd (upd H l (.lst ((w0::ws).map V.str))) D (.lst (ws.map V.str)) D=_:=Zb
   generalize upd (upd H l (.lst ((w0::ws).map V.str))) D (.lst (ws.map V.str))=H1 at s0 eD ⊢
   refine ⟨_,rfl,w0,rfl,fun b xs e1 e2=>?_,fun e1=>?_⟩
   · refine ⟨_,rfl,Zu ?_⟩
     have hk:YS w0=some (xs.filter fun v=>!decide (v=.str "program")):=by unfold YS;rw [e1];rfl
     obtain ⟨k1,k2⟩:=Zkx hk
     simp only [hk] at q1 q2
     generalize (xs.filter fun v=>!decide (v=V.str "program"))=zs at hk k1 k2 q1 q2
     refine ⟨_,rfl,_,rfl,w0,zs,rfl,hk,fun l2 H2 s2 hl2 el2=>?_⟩
     rw [k1] at el2
     refine ⟨D,l2,ws,zs.map Vs,rfl,s2 _ _ eD,el2,hfit,by rw [List.length_map];omega,fun e3 H3 s3=>?_,fun vs e3 l3 H3 s3 el3=>?_⟩
     · refine ⟨_,rfl,_,rfl,Zv (q1 (by rw [e3];rfl) H3 ((s0.trans s2).trans s3))⟩
     · refine ⟨_,rfl,_,rfl,Zu ?_⟩
       have hvl:vs.length≤3:=by rw [ZgQ e3,List.length_map];exact k2
       have s3':=(s0.trans s2).trans s3
       refine ⟨_,rfl,(by show 1≤sizeLine;decide),fun p1 hp1=>?_⟩
       have s4:=Zh hp1 (.tup [V.str w0])
       refine ⟨_,rfl,l3,vs,rfl,.inl ⟨SqL.of (s4 _ _ el3),fun p2 hp2=>?_⟩⟩
       have s5:=Zh hp2 (.tup vs)
       refine ⟨p1,p2,[.str w0],vs,rfl,rfl,SqT.of (s5 _ _ Zb),SqT.of Zb,by simp,Zr (show _≤100000 by rw [List.length_singleton];omega),fun hv=>?_,fun hv p3 hp3=>?_⟩
       · subst hv
         exact q2 _ (by rw [e3];rfl) p1 _ ((s3'.trans s4).trans s5) (XE s3' hp1) (s5 _ _ Zb)
       · exact q2 _ (by rw [e3];rfl) p3 _ (((s3'.trans s4).trans s5).trans (Zh hp3 _)) (XE ((s3'.trans s4).trans s5) hp3) Zb
   · have hk:YS w0=none:=by unfold YS;rw [e1];rfl
     simp only [hk] at q1
     exact ⟨_,rfl,Zv (q1 trivial H1 s0)⟩
end
end K70
set_option maxHeartbeats 4000000
namespace K70
open PySem L2
def _root_.L2.Pg.vl:Pg→List V
 | .set x v s=>[.str x,v,.str s]
 | .look x=>[.str x]
 | .slot _ s=>[.str s]
 | .pass=>[]
 | .blk _ _=>[]
 | .inn s _=>[.str s]
def _root_.L2.Pg.hv (p:Pg):List V:=.str p.word::p.vl
theorem UA {x:Str}(h:Yg x){c:Nat}(hc:Ua c=false):c ∉ x.cps.toList:=fun m=>by
 have:=List.all_eq_true.mp h.2.2 c m
 rw [hc] at this;cases this
theorem Wr {x:Str}(h:Yg x):Txt.split x (Str.ofString " ")=[x]:=by rw [Ux];exact UC (UA h (by decide))
theorem ZgP {p : Pg}(h:p.ok):Txt.split p.word (Str.ofString " ")=[p.word]:=by
 rw [Ux]
 refine UC ?_
 cases p with
 | set x v s=>exact (show (32:Nat) ∉ (Str.ofString "set").cps.toList by decide +kernel)
 | look x=>exact (show (32:Nat) ∉ (Str.ofString "look").cps.toList by decide +kernel)
 | slot w s => rcases h.1 with rfl | rfl
               · exact (show (32:Nat) ∉ (Str.ofString "back").cps.toList by decide +kernel)
               · exact (show (32:Nat) ∉ (Str.ofString "copy").cps.toList by decide +kernel)
 | pass=>exact (show (32:Nat) ∉ (Str.ofString "pass").cps.toList by decide +kernel)
 | blk w ps => rcases h.1 with rfl | rfl
               · exact (show (32:Nat) ∉ (Str.ofString "begin").cps.toList by decide +kernel)
               · exact (show (32:Nat) ∉ (Str.ofString "late").cps.toList by decide +kernel)
 | inn s ps=>exact (show (32:Nat) ∉ (Str.ofString "in").cps.toList by decide +kernel)
theorem ZmE {p : Pg}(h:p.ok):YS p.word=some (p.ks.map V.str):=by
 cases p with
 | set x v s=>exact (show YS "set"=some ((["name","value","slot"]:List Str).map V.str) by decide +kernel)
 | look x=>exact (show YS "look"=some ((["name"]:List Str).map V.str) by decide +kernel)
 | slot w s => rcases h.1 with rfl | rfl
               · exact (show YS "back"=some ((["slot"]:List Str).map V.str) by decide +kernel)
               · exact (show YS "copy"=some ((["slot"]:List Str).map V.str) by decide +kernel)
 | pass=>exact (show YS "pass"=some (([]:List Str).map V.str) by decide +kernel)
 | blk w ps => rcases h.1 with rfl | rfl
               · exact (show YS "begin"=some (([]:List Str).map V.str) by decide +kernel)
               · exact (show YS "late"=some (([]:List Str).map V.str) by decide +kernel)
 | inn s ps=>exact (show YS "in"=some ((["slot"]:List Str).map V.str) by decide +kernel)
theorem ZjT (ks:List Str):(ks.map V.str).map Vs=ks:=by rw [List.map_map];exact List.map_id' ks
theorem WW {x k:Str}(h:Yg x)(hk:k≠ZI):ZW x k=some (.str x):=by unfold ZW;rw [if_neg hk,if_pos (ZaR h)]
theorem Vw {x k:Str}(h:Yg x)(hk:k≠ZI):ZZ [x] [k]=some [.str x]:=by
 have hw:Ya [x] [k]=[x]:=by unfold Ya;rw [if_pos (.inr (Nat.le_refl _))]
 unfold ZZ Xb
 rw [hw,if_pos (show [x].length=[k].length from rfl)]
 show (if Xd .non [(ZW x k).getD .non]=true then none else some [(ZW x k).getD .non])=_
 rw [WW h hk];rfl
theorem vl_ne:(Str.ofString "name")≠ZI∧(Str.ofString "slot")≠ZI:=⟨by decide +kernel,by decide +kernel⟩
theorem ZgW {x s:Str}{v:V}(hx:Yg x)(hv:IsVal v)(hs:Yg s):ZZ (x::(Txt.split (ZP v) (Str.ofString " ")++[s])) [Str.ofString "name",ZI,Str.ofString "slot"]=some [.str x,v,.str s]:=by
 have hj:Txt.join " " (Txt.split (ZP v) (Str.ofString " "))=ZP v:=by rw [tj];exact StrLaws.join_split _ _
 have hne:=WD (ZP v) (Str.ofString " ")
 generalize Txt.split (ZP v) (Str.ofString " ")=sv at hj hne
 have hix:([Str.ofString "name",ZI,Str.ofString "slot"]:List Str).idxOf ZI=1:=by decide +kernel
 have hmem:ZI∈([Str.ofString "name",ZI,Str.ofString "slot"]:List Str):=by decide +kernel
 have hw : Ya (x::(sv++[s])) [Str.ofString "name",ZI,Str.ofString "slot"]=[x,ZP v,s]:=by
   unfold Ya XB
   rw [hix]
   by_cases c:(x::(sv++[s])).length≤3
   · rw [if_pos (.inr c)]
     cases sv with
     | nil=>exact absurd rfl hne
     | cons a r =>
       cases r with
       | nil =>
         have:a=ZP v:=by rw [tj] at hj;exact hj
         rw [this];rfl
       | cons b r=>simp at c
   · rw [if_neg (by rintro (z | z);exact z hmem;exact c z)]
     have hl:1+1+(x::(sv++[s])).length - [Str.ofString "name",ZI,Str.ofString "slot"].length=sv.length+1:=by simp;omega
     rw [hl]
     simp only [List.take_succ_cons,List.take_zero,List.drop_succ_cons,List.drop_zero,Nat.add_sub_cancel]
     rw [List.take_left,List.drop_left,hj];rfl
 unfold ZZ Xb
 rw [hw,if_pos (show [x,ZP v,s].length=[Str.ofString "name",ZI,Str.ofString "slot"].length from rfl)]
 show (if Xd .non [(ZW x (Str.ofString "name")).getD .non,(ZW (ZP v) ZI).getD .non,(ZW s (Str.ofString "slot")).getD .non]=true then none else some _)=_
 have e2:ZW (ZP v) ZI=some v:=by unfold ZW;rw [if_pos rfl];exact Zgg hv
 simp only [WW hx vl_ne.1,WW hs vl_ne.2,e2,Option.getD_some]
 have hn:Wv v .non=false:=by
   cases v with
   | int i=>rfl
   | str y=>rfl
   | _=>exact hv.elim
 rw [if_neg]
 · show some [(ZW x (Str.ofString "name")).getD .non,(ZW (ZP v) ZI).getD .non,(ZW s (Str.ofString "slot")).getD .non]=_
   rw [WW hx vl_ne.1,WW hs vl_ne.2,e2];rfl
 · show ¬ (Wv (.str x) .non || (Wv v .non || (Wv (.str s) .non || false)))=true
   rw [hn];exact Bool.false_ne_true
theorem Uo {p:Pg}(h:p.ok):XV p.srow=some p.hv:=by
 have hs:Txt.split p.srow (Str.ofString " ")=p.word::p.ws.flatMap fun w=>Txt.split w (Str.ofString " "):=by
   unfold Pg.srow
   rw [tj,Ux,Zdy (by simp),List.flatMap_cons,← Ux,ZgP h];rfl
 unfold XV
 rw [hs]
 simp only [ZmE h,ZjT]
 show (ZZ _ p.ks).map _=_
 cases p with
 | set x v s =>
   have e:(Pg.set x v s).ws.flatMap (fun w=>Txt.split w (Str.ofString " "))=x::(Txt.split (ZP v) (Str.ofString " ")++[s]):=by
     show Txt.split x _++(Txt.split (ZP v) _++(Txt.split s _++[]))=_
     rw [Wr h.1,Wr h.2.2];rfl
   rw [e]
   show (ZZ _ [Str.ofString "name",ZI,Str.ofString "slot"]).map _=_
   rw [ZgW h.1 h.2.1 h.2.2];rfl
 | look x =>
   show (ZZ (Txt.split x _++[]) [Str.ofString "name"]).map _=_
   rw [Wr h,List.append_nil,Vw h vl_ne.1];rfl
 | slot w s =>
   show (ZZ (Txt.split s _++[]) [Str.ofString "slot"]).map _=_
   rw [Wr h.2,List.append_nil,Vw h.2 vl_ne.2];rfl
 | pass=>rfl
 | blk w ps=>rfl
 | inn s ps =>
   show (ZZ (Txt.split s _++[]) [Str.ofString "slot"]).map _=_
   rw [Wr h.1,List.append_nil,Vw h.1 vl_ne.2];rfl
def XA (l:Nat)(r:Str):Str:=⟨(List.replicate (2 * l) 32++r.cps.toList).toArray⟩
def Yq (x:Nat×Pg):Str:=XA x.1 x.2.srow
mutual
def Yt (d:Nat):Pg→List (Nat×Pg)
 | .blk w ps=>(d,.blk w ps)::Yv (d+1) ps
 | .inn s ps=>(d,.inn s ps)::Yv (d+1) ps
 | .set x v s=>[(d,.set x v s)]
 | .look x=>[(d,.look x)]
 | .slot w s=>[(d,.slot w s)]
 | .pass=>[(d,.pass)]
def Yv (d:Nat):List Pg→List (Nat×Pg)
 | []=>[]
 | p::ps=>Yt d p++Yv d ps
end
theorem Uh (l:Nat)(r:Str):UP (XA l r)=XA (l+1) r:=by
 apply ZR
 show ((Str.ofString "  ")++XA l r).cps.toList=_
 rw [Yo,show (Str.ofString "  ").cps.toList=[32,32] by decide +kernel]
 show [32,32]++(List.replicate (2 * l) 32++r.cps.toList)=List.replicate (2 * (l+1)) 32++r.cps.toList
 rw [show 2 * (l+1)=2 * l+1+1 by omega,List.replicate_succ,List.replicate_succ];rfl
theorem Wb (r:Str):XA 0 r=r:=ZR (by show List.replicate 0 32++_=_;rfl)
mutual
theorem Zls:∀(d:Nat)(p:Pg),(Yt (d+1) p).map Yq=((Yt d p).map Yq).map UP
 | d,.blk w ps=>by
   have ih:=UT (d+1) ps
   rw [Yt,Yt,List.map_cons,List.map_cons,List.map_cons,ih]
   congr 1;exact (Uh d _).symm
 | d,.inn s ps=>by
   have ih:=UT (d+1) ps
   rw [Yt,Yt,List.map_cons,List.map_cons,List.map_cons,ih]
   congr 1;exact (Uh d _).symm
 | d,.set x v s=>by rw [Yt,Yt];show [XA (d+1) _]=[UP (XA d _)];rw [Uh]
 | d,.look x=>by rw [Yt,Yt];show [XA (d+1) _]=[UP (XA d _)];rw [Uh]
 | d,.slot w s=>by rw [Yt,Yt];show [XA (d+1) _]=[UP (XA d _)];rw [Uh]
 | d,.pass=>by rw [Yt,Yt];show [XA (d+1) _]=[UP (XA d _)];rw [Uh]
theorem UT:∀(d:Nat)(ps:List Pg),(Yv (d+1) ps).map Yq=((Yv d ps).map Yq).map UP
 | d,[]=>rfl
 | d,p::ps=>by
   have h1:=Zls d p
   have h2:=UT d ps
   rw [Yv,Yv,List.map_append,List.map_append,List.map_append,h1,h2]
end
mutual
theorem Zli:∀ p:Pg,UO p=(Yt 0 p).map Yq
 | .blk w ps=>by
   have ih:=Ul ps
   rw [Xj,Yt,List.map_cons,UT 0,← ih]
   rw [show Yq (0,Pg.blk w ps)=_ from Wb _];rfl
 | .inn s ps=>by
   have ih:=Ul ps
   rw [Xj,Yt,List.map_cons,UT 0,← ih]
   rw [show Yq (0,Pg.inn s ps)=_ from Wb _];rfl
 | .set x v s=>by rw [Yt];show [Pg.srow _]=[XA 0 _];rw [Wb]
 | .look x=>by rw [Yt];show [Pg.srow _]=[XA 0 _];rw [Wb]
 | .slot w s=>by rw [Yt];show [Pg.srow _]=[XA 0 _];rw [Wb]
 | .pass=>by rw [Yt];show [Pg.srow _]=[XA 0 _];rw [Wb]
theorem Ul:∀ ps:List Pg,ZU ps=(Yv 0 ps).map Yq
 | []=>rfl
 | p::ps=>by
   have h1:=Zli p
   have h2:=Ul ps
   rw [Yv,List.map_append,← h1,← h2];rfl
end
def UZ:Nat→List (Nat×Pg)→Prop
 | _,[]=>True
 | m,(l,p)::r=>l≤m∧UZ (if p.isB=true then l+1 else l) r
def Dm:List (Nat×Pg)→Nat→List Pg
 | [],_=>[]
 | (l,p)::r,k=>if k=l then p::Dm r l else if k=l+1∧p.isB=true then [] else Dm r k
def Wf:List (Nat×Pg)→Prop
 | []=>True
 | (l,p)::r=>(p.isB=true→Dm r (l+1)=p.inner)∧Wf r
mutual
theorem ZlZ:∀(p:Pg)(d m:Nat)(S:List (Nat×Pg)),d≤m→(∀ m',d≤m'→UZ m' S)→UZ m (Yt d p++S)
 | .blk w ps,d,m,S,h,hS=>by rw [Yt];exact ⟨h,VP ps (d+1) (d+1) S (Nat.le_refl _) fun m' h'=>hS m' (by omega)⟩
 | .inn s ps,d,m,S,h,hS=>by rw [Yt];exact ⟨h,VP ps (d+1) (d+1) S (Nat.le_refl _) fun m' h'=>hS m' (by omega)⟩
 | .set x v s,d,m,S,h,hS=>by rw [Yt];exact ⟨h,hS d (Nat.le_refl _)⟩
 | .look x,d,m,S,h,hS=>by rw [Yt];exact ⟨h,hS d (Nat.le_refl _)⟩
 | .slot w s,d,m,S,h,hS=>by rw [Yt];exact ⟨h,hS d (Nat.le_refl _)⟩
 | .pass,d,m,S,h,hS=>by rw [Yt];exact ⟨h,hS d (Nat.le_refl _)⟩
theorem VP:∀(ps:List Pg)(d m:Nat)(S:List (Nat×Pg)),d≤m→(∀ m',d≤m'→UZ m' S)→UZ m (Yv d ps++S)
 | [],d,m,S,h,hS=>hS m h
 | p::ps,d,m,S,h,hS=>by
   rw [Yv,List.append_assoc]
   exact ZlZ p d m _ h fun m' h'=>VP ps d m' S h' hS
end
mutual
theorem Zln:∀(p:Pg)(d:Nat)(S:List (Nat×Pg)),(∀ k,d < k→Dm S k=[])→Wf S→(∀ k,Dm (Yt d p++S) k=if k=d then p::Dm S d else Dm S k)∧Wf (Yt d p++S)
 | .blk w ps,d,S,h,hW=>by
   obtain ⟨h1,h2⟩:=VX ps (d+1) S (fun k hk=>h k (by omega)) hW
   rw [Yt]
   have e1:=h1 (d+1)
   rw [if_pos rfl,h (d+1) (by omega),List.append_nil] at e1
   refine ⟨fun k=>?_,fun _=>e1,h2⟩
   show (if k=d then _::Dm (Yv (d+1) ps++S) d else if k=d+1∧_ then [] else Dm (Yv (d+1) ps++S) k)=_
   by_cases c:k=d
   · rw [if_pos c,if_pos c,h1 d,if_neg (by omega)]
   · rw [if_neg c,if_neg c]
     by_cases c2:k=d+1
     · rw [if_pos ⟨c2,rfl⟩,c2,h (d+1) (by omega)]
     · rw [if_neg (fun z=>c2 z.1),h1 k,if_neg c2]
 | .inn s ps,d,S,h,hW=>by
   obtain ⟨h1,h2⟩:=VX ps (d+1) S (fun k hk=>h k (by omega)) hW
   rw [Yt]
   have e1:=h1 (d+1)
   rw [if_pos rfl,h (d+1) (by omega),List.append_nil] at e1
   refine ⟨fun k=>?_,fun _=>e1,h2⟩
   show (if k=d then _::Dm (Yv (d+1) ps++S) d else if k=d+1∧_ then [] else Dm (Yv (d+1) ps++S) k)=_
   by_cases c:k=d
   · rw [if_pos c,if_pos c,h1 d,if_neg (by omega)]
   · rw [if_neg c,if_neg c]
     by_cases c2:k=d+1
     · rw [if_pos ⟨c2,rfl⟩,c2,h (d+1) (by omega)]
     · rw [if_neg (fun z=>c2 z.1),h1 k,if_neg c2]
 | .set x v s,d,S,h,hW=>by rw [Yt];exact ⟨fun k=>by show (if k=d then _ else if k=d+1∧false=true then [] else Dm S k)=_;rw [if_neg (show ¬ (k=d+1∧false=true) from fun z=>nomatch z.2)];rfl,(show Wf ((d,_)::S) from ⟨fun z=>absurd z Bool.false_ne_true,hW⟩)⟩
 | .look x,d,S,h,hW=>by rw [Yt];exact ⟨fun k=>by show (if k=d then _ else if k=d+1∧false=true then [] else Dm S k)=_;rw [if_neg (show ¬ (k=d+1∧false=true) from fun z=>nomatch z.2)];rfl,(show Wf ((d,_)::S) from ⟨fun z=>absurd z Bool.false_ne_true,hW⟩)⟩
 | .slot w s,d,S,h,hW=>by rw [Yt];exact ⟨fun k=>by show (if k=d then _ else if k=d+1∧false=true then [] else Dm S k)=_;rw [if_neg (show ¬ (k=d+1∧false=true) from fun z=>nomatch z.2)];rfl,(show Wf ((d,_)::S) from ⟨fun z=>absurd z Bool.false_ne_true,hW⟩)⟩
 | .pass,d,S,h,hW=>by rw [Yt];exact ⟨fun k=>by show (if k=d then _ else if k=d+1∧false=true then [] else Dm S k)=_;rw [if_neg (show ¬ (k=d+1∧false=true) from fun z=>nomatch z.2)];rfl,(show Wf ((d,_)::S) from ⟨fun z=>absurd z Bool.false_ne_true,hW⟩)⟩
theorem VX:∀(ps:List Pg)(d:Nat)(S:List (Nat×Pg)),(∀ k,d < k→Dm S k=[])→Wf S→(∀ k,Dm (Yv d ps++S) k=if k=d then ps++Dm S d else Dm S k)∧Wf (Yv d ps++S)
 | [],d,S,h,hW=>⟨fun k=>by by_cases c:k=d<;>simp [Yv,c],hW⟩
 | p::ps,d,S,h,hW=>by
   obtain ⟨h1,h2⟩:=VX ps d S h hW
   obtain ⟨h3,h4⟩:=Zln p d (Yv d ps++S) (fun k hk=>by rw [h1 k,if_neg (by omega)];exact h k hk) h2
   rw [Yv,List.append_assoc]
   refine ⟨fun k=>?_,h4⟩
   rw [h3 k]
   by_cases c:k=d
   · rw [if_pos c,if_pos c,h1 d,if_pos rfl];rfl
   · rw [if_neg c,if_neg c,h1 k,if_neg c]
end
theorem ZdZ (ps:List Pg):Dm (Yv 0 ps) 0=ps∧Wf (Yv 0 ps)∧UZ 0 (Yv 0 ps):=by
 obtain ⟨h1,h2⟩:=VX ps 0 [] (fun _ _=>rfl) trivial
 have h3:=VP ps 0 0 [] (Nat.le_refl _) fun _ _=>trivial
 rw [List.append_nil] at h1 h2 h3
 exact ⟨by rw [h1 0,if_pos rfl];exact List.append_nil _,h2,h3⟩
mutual
theorem ZjH:∀(p:Pg)(d:Nat),p.ok→∀ x∈Yt d p,x.2.ok∧x.1≤d+p.hgt
 | .blk w ps,d,h,x,hx=>by
   rw [Yt] at hx
   rcases List.mem_cons.mp hx with rfl | hx
   · exact ⟨h,Nat.le_add_right _ _⟩
   · have:=WF ps (d+1) h.2 x hx
     exact ⟨this.1,by show _≤d+(Pg.hgts ps+1);omega⟩
 | .inn s ps,d,h,x,hx=>by
   rw [Yt] at hx
   rcases List.mem_cons.mp hx with rfl | hx
   · exact ⟨h,Nat.le_add_right _ _⟩
   · have:=WF ps (d+1) h.2 x hx
     exact ⟨this.1,by show _≤d+(Pg.hgts ps+1);omega⟩
 | .set x v s,d,h,y,hx=>by rw [Yt] at hx;rw [List.mem_singleton.mp hx];exact ⟨h,Nat.le_add_right _ _⟩
 | .look x,d,h,y,hx=>by rw [Yt] at hx;rw [List.mem_singleton.mp hx];exact ⟨h,Nat.le_add_right _ _⟩
 | .slot w s,d,h,y,hx=>by rw [Yt] at hx;rw [List.mem_singleton.mp hx];exact ⟨h,Nat.le_add_right _ _⟩
 | .pass,d,h,y,hx=>by rw [Yt] at hx;rw [List.mem_singleton.mp hx];exact ⟨h,Nat.le_add_right _ _⟩
theorem WF:∀(ps:List Pg)(d:Nat),Pg.oks ps→∀ x∈Yv d ps,x.2.ok∧x.1≤d+Pg.hgts ps
 | [],d,h,x,hx=>(nomatch hx)
 | p::ps,d,h,x,hx=>by
   rw [Yv] at hx
   have e:Pg.hgts (p::ps)=max p.hgt (Pg.hgts ps):=rfl
   rcases List.mem_append.mp hx with hx | hx
   · have:=ZjH p d h.1 x hx;exact ⟨this.1,by omega⟩
   · have:=WF ps d h.2 x hx;exact ⟨this.1,by omega⟩
end
theorem Zdv (ps:List Pg):(Yv 0 ps).length=Pg.manys ps:=by
 have h:=congrArg List.length (Ul ps)
 rw [List.length_map,Xp] at h;exact h.symm
end K70
set_option maxHeartbeats 1000000
namespace L2
open PySem
def rdQ:List Nat→Option (List Nat×List Nat)
 | []=>none
 | k :: r=>if k=39 then some ([],r) else if k=92 then (match r with
     | []=>none
     | c::q=>if c=39∨c=92 then (rdQ q).map fun z=>(c::z.1,z.2) else none)
   else (rdQ r).map fun z=>(k::z.1,z.2)
theorem Xq (k:Nat)(r:List Nat):rdQ (k::r)=(if k=39 then some ([],r) else if k=92 then (match r with
   | []=>none
   | c::q=>if c=39∨c=92 then (rdQ q).map fun z=>(c::z.1,z.2) else none)
 else (rdQ r).map fun z=>(k::z.1,z.2)):=by rw [rdQ.eq_def]
theorem Zbn:∀(l r:List Nat),rdQ (YD l++39::r)=some (l,r)
 | [],r=>by show rdQ (39::r)=_;rw [Xq,if_pos rfl]
 | k :: l,r=>by
   have ih:=Zbn l r
   have e:YD (k::l)=(if k=39∨k=92 then [92,k] else [k])++YD l:=rfl
   rw [e]
   by_cases h:k=39∨k=92
   · rw [if_pos h]
     show rdQ (92::k::(YD l++39::r))=_
     rw [Xq,if_neg (by decide),if_pos rfl]
     show (if k=39∨k=92 then _ else none)=_
     rw [if_pos h,ih];rfl
   · rw [if_neg h]
     show rdQ (k::(YD l++39::r))=_
     rw [Xq,if_neg (fun z=>h (.inl z)),if_neg (fun z=>h (.inr z)),ih];rfl
theorem Zap:∀(n:Nat)(x l r:List Nat),x.length≤n→rdQ x=some (l,r)→x=YD l++39::r
 | _,[],_,_,_,h=>by rw [rdQ.eq_def] at h;cases h
 | 0,_::_,_,_,hn,_=>absurd hn (by simp)
 | n + 1,k::x,l,r,hn,h=>by
   have hn:x.length≤n:=by simpa using hn
   rw [Xq] at h
   replace h:(if k=39 then some ([],x) else if k=92 then (match x with | []=>none | c::q=>if c=39∨c=92 then (rdQ q).map fun z=>(c::z.1,z.2) else none) else (rdQ x).map fun z=>(k::z.1,z.2))=some (l,r):=h
   by_cases h1:k=39
   · rw [if_pos h1] at h;cases h;rw [h1];rfl
   · rw [if_neg h1] at h
     by_cases h2:k=92
     · rw [if_pos h2] at h
       cases x with
       | nil=>cases h
       | cons c q =>
         replace h:(if c=39∨c=92 then (rdQ q).map fun z=>(c::z.1,z.2) else none)=some (l,r):=h
         by_cases h3:c=39∨c=92
         · rw [if_pos h3] at h
           obtain ⟨⟨a,b⟩,e,f⟩:=Option.map_eq_some_iff.mp h
           cases f
           have ih:=Zap n q a b (by simp at hn;omega) e
           rw [ih,h2]
           show _=(if c=39∨c=92 then [92,c] else [c])++YD a++39::b
           rw [if_pos h3];rfl
         · rw [if_neg h3] at h;cases h
     · rw [if_neg h2] at h
       obtain ⟨⟨a,b⟩,e,f⟩:=Option.map_eq_some_iff.mp h
       cases f
       have ih:=Zap n x a b hn e
       rw [ih]
       show _=(if k=39∨k=92 then [92,k] else [k])++YD a++39::b
       rw [if_neg (fun z=>z.elim h1 h2)];rfl
theorem rdQ_iff {x l r:List Nat}:rdQ x=some (l,r)↔x=YD l++39::r:=⟨Zap _ x l r (Nat.le_refl _),fun h=>by rw [h];exact Zbn l r⟩
end L2
set_option maxHeartbeats 1000000
namespace L2
open PySem
theorem Zgb {cs:List Nat}{k:Nat}(h:NumText.AllDigits cs)(hl:cs.length≤k):NumText.digitsVal cs < 10 ^ k:=by
 have:=Zfb cs 0 h
 rw [Nat.zero_add,Nat.one_mul] at this
 exact Nat.lt_of_lt_of_le this (Nat.pow_le_pow_right (by decide) hl)
theorem ZiX {w:Str}{k:Nat}(hk:k≤300)(h1:1≤(Yc w).length)(h2:(Yc w).length≤k)(h3:(Yc w).all Xm=true):∃ n:Int,PySem.intText? w=some n∧n.natAbs < 10 ^ k:=by
 unfold Yc at h1 h2 h3
 have hl:w.length=w.cps.toList.length:=Zt w
 split at h1
 · rename_i hh
   rw [if_pos hh] at h2 h3
   cases e:w.cps.toList with
   | nil=>rw [e] at hh;cases hh
   | cons a r =>
     rw [e] at hh h1 h2 h3 hl
     cases hh
     have hl:w.length=r.length+1:=hl
     simp only [List.drop_succ_cons,List.drop_zero] at h1 h2 h3
     exact ⟨_,PySem.intText_neg e (Xw h3) (by rintro rfl;simp at h1) (by omega),by rw [Int.natAbs_neg,Int.natAbs_natCast];exact Zgb (Xw h3) h2⟩
 · rename_i hh
   rw [if_neg hh] at h2 h3
   exact ⟨_,PySem.intText_digits (Xw h3) (by intro z;rw [z] at h1;simp at h1) (by omega),by rw [Int.natAbs_natCast];exact Zgb (Xw h3) h2⟩
theorem ZbU {w:Str}{k:Nat}{i:Int}(hk:k≤300)(h:YW w k=some i):Str.ofString (toString i)=w∧i.natAbs < 10 ^ k:=by
 unfold YW at h
 split at h
 · rename_i c
   split at h
   · rename_i c2
     cases h
     obtain ⟨n,e,hn⟩:=ZiX hk c.1 c.2.1 c.2.2
     rw [e] at c2 ⊢
     exact ⟨c2,hn⟩
   · cases h
 · cases h
theorem ZgS {w:Str}{v:V}(h:Wt w=some v):IsVal v∧w=ZP v:=by
 unfold Wt at h
 split at h
 · split at h
   · rename_i c
     cases h
     exact ⟨⟨c.1,c.2.1⟩,c.2.2.symm⟩
   · cases h
 · obtain ⟨i,e,rfl⟩:=Option.map_eq_some_iff.mp h
   obtain ⟨a,b⟩:=ZbU (by decide) e
   exact ⟨b,a.symm⟩
end L2
set_option maxHeartbeats 4000000
namespace K70
open PySem L2
theorem Vj {x:Str}(h:YO x=true):Yg x:=by
 unfold YO at h
 simp only [Bool.and_eq_true,decide_eq_true_eq] at h
 exact ⟨h.1.1,h.1.2,h.2⟩
theorem VJ {x k:Str}{v:V}(hk:k≠ZI)(h:ZW x k=some v):Yg x∧v=.str x:=by
 unfold ZW at h
 rw [if_neg hk] at h
 split at h
 · rename_i c;cases h;exact ⟨Vj c,rfl⟩
 · cases h
theorem ZfU:∀{vs:List V},Xd .non vs=false→∀ v∈vs,v≠.non
 | x::r,h,v,hv=>by
   have h:(Wv x .non || Xd .non r)=false:=h
   rw [Bool.or_eq_false_iff] at h
   rcases List.mem_cons.mp hv with rfl | hv
   · intro z;rw [z] at h;exact absurd h.1 (by decide)
   · exact ZfU h.2 v hv
theorem ZkK {x:Str}{xs:List V}(h:YS x=some xs):(x="set"∧xs.map Vs=[Str.ofString "name",ZI,Str.ofString "slot"])∨(x="look"∧xs.map Vs=[Str.ofString "name"])∨((x="back"∨x="copy")∧xs.map Vs=[Str.ofString "slot"])∨((x="begin"∨x="late")∧xs.map Vs=[])∨(x="in"∧xs.map Vs=[Str.ofString "slot"])∨(x="pass"∧xs.map Vs=[]):=by
 unfold YS Xt at h
 obtain ⟨ys,e,rfl⟩:=Option.map_eq_some_iff.mp h
 simp only [PyProof.Rows.KTD.datumAt,decide_eq_true_eq] at e
 split at e
 · rename_i c;cases e;exact .inl ⟨c,by decide +kernel⟩
 split at e
 · rename_i c;cases e;exact .inr (.inl ⟨c,by decide +kernel⟩)
 split at e
 · rename_i c;cases e;exact .inr (.inr (.inl ⟨.inl c,by decide +kernel⟩))
 split at e
 · rename_i c;cases e;exact .inr (.inr (.inr (.inl ⟨.inl c,by decide +kernel⟩)))
 split at e
 · rename_i c;cases e;exact .inr (.inr (.inr (.inl ⟨.inr c,by decide +kernel⟩)))
 split at e
 · rename_i c;cases e;exact .inr (.inr (.inl ⟨.inr c,by decide +kernel⟩))
 split at e
 · rename_i c;cases e;exact .inr (.inr (.inr (.inr (.inl ⟨c,by decide +kernel⟩))))
 split at e
 · rename_i c;cases e;exact .inr (.inr (.inr (.inr (.inr ⟨c,by decide +kernel⟩))))
 · cases e
theorem Zhe {ws:List Str}{vs:List V}(h:ZZ ws []=some vs):ws=[]∧vs=[]:=by
 have hw:Ya ws []=ws:=by unfold Ya;rw [if_pos (.inl (by simp))]
 unfold ZZ Xb at h
 rw [hw] at h
 split at h
 · rename_i c
   have:ws=[]:=List.eq_nil_of_length_eq_zero c
   subst this
   split at h
   · cases h
   · cases h;exact ⟨rfl,rfl⟩
 · cases h
theorem ZcJ {ws:List Str}{k:Str}{vs:List V}(hk:k≠ZI)(h:ZZ ws [k]=some vs):∃ x,ws=[x]∧Yg x∧vs=[.str x]:=by
 have hw:Ya ws [k]=ws:=by unfold Ya;rw [if_pos (.inl (by simp;exact fun z=>hk z.symm))]
 unfold ZZ Xb at h
 rw [hw] at h
 split at h
 · rename_i c
   match ws,c with
   | [x],_ =>
     replace h:(if Xd .non [(ZW x k).getD .non]=true then none else some [(ZW x k).getD .non])=some vs:=h
     split at h
     · cases h
     · rename_i c2
       cases e:ZW x k with
       | none=>rw [e] at c2;exact absurd rfl c2
       | some v =>
         rw [e] at h
         obtain ⟨h1,rfl⟩:=VJ hk e
         cases h;exact ⟨x,rfl,h1,rfl⟩
 · cases h
theorem Zmq {ws:List Str}{vs:List V}(h:ZZ ws [Str.ofString "name",ZI,Str.ofString "slot"]=some vs):∃ x v s,Yg x∧IsVal v∧Yg s∧vs=[.str x,v,.str s]∧Txt.join " " ws=Txt.join " " [x,ZP v,s]:=by
 have hix:([Str.ofString "name",ZI,Str.ofString "slot"]:List Str).idxOf ZI=1:=by decide +kernel
 have hmem:ZI∈([Str.ofString "name",ZI,Str.ofString "slot"]:List Str):=by decide +kernel
 have fin:∀ x y s:Str,Ya ws [Str.ofString "name",ZI,Str.ofString "slot"]=[x,y,s]→Txt.join " " ws=Txt.join " " [x,y,s]→∃ x v s,Yg x∧IsVal v∧Yg s∧vs=[.str x,v,.str s]∧Txt.join " " ws=Txt.join " " [x,ZP v,s]:=by
   intro x y s hw hj
   unfold ZZ Xb at h
   rw [hw,if_pos (show [x,y,s].length=[Str.ofString "name",ZI,Str.ofString "slot"].length from rfl)] at h
   replace h:(if Xd .non [(ZW x (Str.ofString "name")).getD .non,(ZW y ZI).getD .non,(ZW s (Str.ofString "slot")).getD .non]=true then none else some [(ZW x (Str.ofString "name")).getD .non,(ZW y ZI).getD .non,(ZW s (Str.ofString "slot")).getD .non])=some vs:=h
   split at h
   · cases h
   · rename_i c2
     have hn:=ZfU (Bool.not_eq_true _ ▸ c2)
     cases e1:ZW x (Str.ofString "name") with
     | none=>exact absurd (by rw [e1];rfl) (hn _ (List.mem_cons_self ..))
     | some v1 =>
       cases e2:ZW y ZI with
       | none=>exact absurd (by rw [e2];rfl) (hn _ (List.mem_cons_of_mem _ (List.mem_cons_self ..)))
       | some v2 =>
         cases e3:ZW s (Str.ofString "slot") with
         | none=>exact absurd (by rw [e3];rfl) (hn _ (List.mem_cons_of_mem _ (List.mem_cons_of_mem _ (List.mem_cons_self ..))))
         | some v3 =>
           rw [e1,e2,e3] at h
           obtain ⟨h1,rfl⟩:=VJ vl_ne.1 e1
           obtain ⟨h3,rfl⟩:=VJ vl_ne.2 e3
           have e2:Wt y=some v2:=by unfold ZW at e2;rwa [if_pos rfl] at e2
           obtain ⟨h2,rfl⟩:=ZgS e2
           cases h
           exact ⟨x,v2,s,h1,h2,h3,rfl,hj⟩
 have hlen:(Ya ws [Str.ofString "name",ZI,Str.ofString "slot"]).length=3:=by
   unfold ZZ at h
   split at h
   · rename_i c;exact c
   · cases h
 by_cases c:ws.length≤3
 · have hw:Ya ws [Str.ofString "name",ZI,Str.ofString "slot"]=ws:=by unfold Ya;rw [if_pos (.inr c)]
   rw [hw] at hlen
   match ws,hlen with
   | [x,y,s],_=>exact fin x y s hw rfl
 · cases ws with
   | nil=>simp at c
   | cons x r =>
     have hr:r≠[]:=by rintro rfl;simp at c
     obtain ⟨mid,s,rfl⟩:∃ mid s,r=mid++[s]:=⟨r.dropLast,r.getLast hr,(List.dropLast_concat_getLast hr).symm⟩
     have hm:mid≠[]:=by rintro rfl;simp at c
     refine fin x (Txt.join " " mid) s ?_ ?_
     · unfold Ya XB
       rw [hix,if_neg (by rintro (z | z);exact z hmem;exact c z)]
       have hl:1+1+(x::(mid++[s])).length - [Str.ofString "name",ZI,Str.ofString "slot"].length=mid.length+1:=by simp;omega
       rw [hl]
       simp only [List.take_succ_cons,List.take_zero,List.drop_succ_cons,List.drop_zero,Nat.add_sub_cancel]
       rw [List.take_left,List.drop_left];rfl
     · rw [tj,tj,tj,Ux]
       rw [show x::(mid++[s])=[x]++(mid++[s]) from rfl,WC (by simp) (by simp),WC hm (by simp)]
       rfl
theorem VL {row:Str}{hs:List V}(h:XV row=some hs):∃ p:Pg,p.ok∧p.inner=[]∧row=p.srow∧hs=p.hv:=by
 have hj:Txt.join " " (Txt.split row (Str.ofString " "))=row:=by rw [tj];exact StrLaws.join_split _ _
 unfold XV at h
 generalize Txt.split row (Str.ofString " ")=sw at h hj
 match sw,h,hj with
 | w0 :: ws,h,hj =>
   replace h:(match YS w0 with | none=>none | some xs=>(ZZ ws (xs.map Vs)).map (V.str w0::·))=some hs:=h
   cases e:YS w0 with
   | none=>rw [e] at h;cases h
   | some xs =>
     rw [e] at h
     obtain ⟨vs,ev,rfl⟩:=Option.map_eq_some_iff.mp h
     rcases ZkK e with ⟨rfl,k⟩ | ⟨rfl,k⟩ | ⟨hw,k⟩ | ⟨hw,k⟩ | ⟨rfl,k⟩ | ⟨rfl,k⟩
     · rw [k] at ev
       obtain ⟨x,v,s,h1,h2,h3,rfl,h4⟩:=Zmq ev
       refine ⟨.set x v s,⟨h1,h2,h3⟩,rfl,?_,rfl⟩
       have hne:ws≠[]:=by
         rintro rfl
         unfold ZZ Ya at ev
         simp at ev
       rw [← hj]
       show Txt.join " " (Str.ofString "set"::ws)=Txt.join " " (Str.ofString "set"::[x,ZP v,s])
       rw [tj,tj,Ux] at h4 ⊢
       rw [show Str.ofString "set"::ws=[Str.ofString "set"]++ws from rfl,show Str.ofString "set"::[x,ZP v,s]=[Str.ofString "set"]++[x,ZP v,s] from rfl,WC (by simp) hne,WC (by simp) (by simp),h4]
     · rw [k] at ev
       obtain ⟨x,rfl,h1,rfl⟩:=ZcJ vl_ne.1 ev
       exact ⟨.look x,h1,rfl,hj.symm,rfl⟩
     · rw [k] at ev
       obtain ⟨x,rfl,h1,rfl⟩:=ZcJ vl_ne.2 ev
       exact ⟨.slot w0 x,⟨hw,h1⟩,rfl,hj.symm,rfl⟩
     · rw [k] at ev
       obtain ⟨rfl,rfl⟩:=Zhe ev
       exact ⟨.blk w0 [],⟨hw,trivial⟩,rfl,hj.symm,rfl⟩
     · rw [k] at ev
       obtain ⟨x,rfl,h1,rfl⟩:=ZcJ vl_ne.2 ev
       exact ⟨.inn x [],⟨h1,trivial⟩,rfl,hj.symm,rfl⟩
     · rw [k] at ev
       obtain ⟨rfl,rfl⟩:=Zhe ev
       exact ⟨.pass,trivial,rfl,hj.symm,rfl⟩
end K70
set_option maxHeartbeats 1000000
namespace L2
open PySem
def Zx:List Nat→List Nat×Option (List Nat)
 | []=>([],none)
 | c::r=>if c=32 then ([],some r) else (c::(Zx r).1,(Zx r).2)
theorem UX:∀{a:List Nat}(r:List Nat),(32:Nat) ∉ a→Zx (a++32::r)=(a,some r)
 | [],r,_=>by show (if (32:Nat)=32 then _ else _)=_;rw [if_pos rfl]
 | c::a,r,h=>by
   have h1:¬ c=32:=fun z=>h (by rw [z];exact List.mem_cons_self ..)
   have ih:=UX r (fun z=>h (List.mem_cons_of_mem _ z):(32:Nat) ∉ a)
   show (if c=32 then _ else (c::(Zx (a++32::r)).1,(Zx (a++32::r)).2))=_
   rw [if_neg h1,ih]
theorem Xl:∀ x:List Nat,(32:Nat) ∉ (Zx x).1∧((Zx x).2=none→x=(Zx x).1)∧∀ r,(Zx x).2=some r→x=(Zx x).1++32::r
 | []=>⟨(fun h=>nomatch h),(fun _=>rfl),(fun _ h=>nomatch h)⟩
 | c :: x=>by
   obtain ⟨h1,h2,h3⟩:=Xl x
   have e:Zx (c::x)=if c=32 then ([],some x) else (c::(Zx x).1,(Zx x).2):=rfl
   rw [e]
   by_cases h:c=32
   · rw [if_pos h];exact ⟨(fun h=>nomatch h),(fun h=>nomatch h),(fun r hr=>by cases hr;rw [h];rfl)⟩
   · rw [if_neg h]
     refine ⟨fun m=>?_,fun z=>congrArg (c::·) (h2 z),fun r hr=>congrArg (c::·) (h3 r hr)⟩
     rcases List.mem_cons.mp m with z | z
     · exact h z.symm
     · exact h1 z
def Zq (l:List Nat):Str:=⟨l.toArray⟩
theorem YY (l:List Nat):(Zq l).cps.toList=l:=rfl
theorem c_ofC (x:Str):Zq x.cps.toList=x:=ZR rfl
def XH (x:List Nat):Option (V×List Nat) :=
 match x with
 | []=>none
 | c :: t=>if c=39 then (match rdQ t with
     | some (l,r)=>if l.length≤40∧l.all Yd=true then some (.str (Zq l),r) else none
     | none=>none)
   else (YW (Zq (Zx (c::t)).1) 30).map fun i=>(.int i,(c::t).drop (Zx (c::t)).1.length)
theorem Zgp (t:List Nat):XH (39::t)=(match rdQ t with | some (l,r)=>if l.length≤40∧l.all Yd=true then some (V.str (Zq l),r) else none | none=>none):=by
 unfold XH;dsimp only;rw [if_pos rfl]
theorem ZgB {c:Nat}(t:List Nat)(h:¬ c=39):XH (c::t)=(YW (Zq (Zx (c::t)).1) 30).map fun i=>(V.int i,(c::t).drop (Zx (c::t)).1.length):=by
 unfold XH;dsimp only;rw [if_neg h]
theorem ZbW {x r:List Nat}{v:V}(h:XH x=some (v,r)):IsVal v∧x=(ZP v).cps.toList++r:=by
 unfold XH at h
 split at h
 · cases h
 · rename_i c t
   split at h
   · rename_i c1
     cases e:rdQ t with
     | none=>rw [e] at h;cases h
     | some z =>
       obtain ⟨l,q⟩:=z
       rw [e] at h
       replace h:(if l.length≤40∧l.all Yd=true then some (V.str (Zq l),q) else none)=some (v,r):=h
       by_cases c2:l.length≤40∧l.all Yd=true
       · rw [if_pos c2] at h
         cases h
         refine ⟨⟨by rw [Zt];exact c2.1,c2.2⟩,?_⟩
         rw [rdQ_iff.mp e,c1]
         show _=(39::YD l++[39])++r
         simp
       · rw [if_neg c2] at h;cases h
   · rename_i c1
     obtain ⟨i,e,e2⟩:=Option.map_eq_some_iff.mp h
     cases e2
     obtain ⟨h1,h2⟩:=ZbU (by decide) e
     refine ⟨h2,?_⟩
     have e3:(ZP (.int i)).cps.toList=(Zx (c::t)).1:=by
       show (Str.ofString (toString i)).cps.toList=_
       rw [h1];rfl
     rw [e3]
     obtain ⟨_,b2,b3⟩:=Xl (c::t)
     cases e4:(Zx (c::t)).2 with
     | none=>have:=b2 e4;rw [← this];simp
     | some q=>have:=b3 q e4;generalize (Zx (c::t)).1=w at this;rw [this];simp
theorem Zkw {i:Int}(h:i.natAbs < 10 ^ 30):(Str.ofString (toString i)).cps.toList≠[]∧∀ c∈(Str.ofString (toString i)).cps.toList,c=45∨48≤c∧c≤57:=by
 obtain ⟨h1,_,h3,_⟩:=Zax h
 generalize Str.ofString (toString i)=w at h1 h3
 unfold Yc at h1 h3
 refine ⟨fun z=>by rw [z] at h1;simp at h1,fun c hc=>?_⟩
 have dg:∀ l:List Nat,l.all Xm=true→c∈l→c=45∨48≤c∧c≤57:=fun l hl hm=>by
   have:=List.all_eq_true.mp hl c hm
   unfold Xm at this
   simp only [Bool.and_eq_true,decide_eq_true_eq] at this
   exact .inr this
 split at h3
 · rename_i hh
   cases e:w.cps.toList with
   | nil=>rw [e] at hc;cases hc
   | cons a r =>
     rw [e] at hh hc h3
     cases hh
     rcases List.mem_cons.mp hc with z | z
     · exact .inl z
     · exact dg _ h3 z
 · exact dg _ h3 hc
theorem ZhQ {v:V}(h:IsVal v)(s:List Nat):XH ((ZP v).cps.toList++32::s)=some (v,32::s):=by
 cases v with
 | str x =>
   have e:(ZP (.str x)).cps.toList++32::s=39::(YD x.cps.toList++39::32::s):=by
     show (39::YD x.cps.toList++[39])++32::s=_
     simp
   rw [e]
   rw [Zgp,Zbn]
   show (if x.cps.toList.length≤40∧x.cps.toList.all Yd=true then some (V.str (Zq x.cps.toList),32::s) else none)=_
   rw [if_pos ⟨by rw [← Zt];exact h.1,h.2⟩,c_ofC]
 | int i =>
   obtain ⟨h1,h2⟩:=Zkw (show i.natAbs < 10 ^ 30 from h)
   have hn:=Zds (show i.natAbs < 10 ^ 30 from h)
   show XH ((Str.ofString (toString i)).cps.toList++32::s)=_
   generalize Str.ofString (toString i)=w at h1 h2 hn
   have hc:Zx (w.cps.toList++32::s)=(w.cps.toList,some s):=UX s fun z=>by have:=h2 32 z;omega
   cases e:w.cps.toList with
   | nil=>exact absurd e h1
   | cons a r =>
     rw [e] at hc h2
     have ha:=h2 a (List.mem_cons_self ..)
     have hc:Zx (a::(r++32::s))=(a::r,some s):=hc
     show XH (a::(r++32::s))=_
     rw [ZgB _ (by omega),hc,← e,c_ofC,hn]
     show some (V.int i,(a::(r++32::s)).drop w.cps.toList.length)=_
     rw [e,show a::(r++32::s)=(a::r)++32::s from rfl,List.drop_left]
 | _=>exact h.elim
end L2
set_option maxHeartbeats 1000000
namespace L2
open PySem PySem.Spec PyProof.Rows
section
variable {X:Cx}
theorem ZjN:MtR X "str.find" (fun x xs H Q=>∃ z y,x=.str z∧xs=[.str y]∧Q (.int (Txt.find z y)) H):=by
 intro pins s σ H x xs v us Q I rx rv h
 obtain ⟨z,y,rfl,rfl,q⟩:=h
 obtain ⟨t,rfl⟩:=rx
 obtain ⟨u,rfl,t',rfl⟩:=YN rv
 exact SC.find ⟨.int _,H,I.tok _,⟨_,rfl⟩,q⟩
end
theorem at_one {x:Str}{c i:Nat}:StrLaws.At x ⟨#[c]⟩ x.length i↔x.cps.toList[i]?=some c:=by
 unfold StrLaws.At
 rw [StrLaws.subAt_eq]
 show i+1≤x.length∧((x.cps.toList.drop i).take 1 == [c])=true↔_
 rw [StrLaws.take1_drop]
 constructor
 · exact fun h=>h.2
 · intro h
   refine ⟨?_,h⟩
   have:=(List.getElem?_eq_some_iff.mp h).1
   rw [← Zt] at this;omega
theorem Ziq (x:Str):Txt.find x (Str.ofString " ")=match (Zx x.cps.toList).2 with | none=>-1 | some _=>((Zx x.cps.toList).1.length:Int):=by
 rw [Ux]
 obtain ⟨h1,h2,h3⟩:=Xl x.cps.toList
 cases e:(Zx x.cps.toList).2 with
 | none =>
   have h2:=h2 e
   rcases find_whole x ⟨#[32]⟩ with ⟨z,_⟩ | ⟨i,_,z,_⟩
   · exact z
   · rw [at_one] at z
     exact absurd (h2 ▸ List.mem_of_getElem? z) h1
 | some r =>
   have h3:=h3 r e
   generalize (Zx x.cps.toList).1=a at h1 h3
   rcases find_whole x ⟨#[32]⟩ with ⟨_,z⟩ | ⟨i,z1,z2,z3⟩
   · exact absurd (at_one.mpr (by rw [h3];simp)) (z a.length)
   · rw [z1]
     rw [at_one,h3] at z2
     have:¬ i < a.length:=fun c=>by
       rw [List.getElem?_append_left c] at z2
       exact h1 (List.mem_of_getElem? z2)
     have:¬ a.length < i:=fun c=>z3 _ c (at_one.mpr (by rw [h3];simp))
     show (i:Int)=(a.length:Int)
     omega
def tPrm (P:Program)(w:World)(K:PySem.W.Frag)(mg:Str→Option Value)(base:Heap)(k:Nat)(EE:St→XK)(i:Nat)(t:TA):TE:=fun σ H Q=>∃(f:Addr)(fd:FuncData)(ps:List Str)(sp:Sp),σ[i]?=some (some (.ref f))∧FnOk P w K mg base (Vz P w base) k f fd ps sp∧Binds K fd ps []∧PySem.W.keepIn K (.ref f)=true∧t σ H fun vs H1=>sp vs H1 Q (EE σ)
theorem Zmp {P:Program}{w:World}{K:PySem.W.Frag}{mg:Str→Option Value}{base:Heap}{X:Cx}{EE:St→XK}{k i:Nat}{x:Str}{p pos:Pos}{e:Expr}{es:List Expr}{t:TA}(h1:X.prog=P)(h2:X.w=w)(h3:X.K=K)(h4:X.mg=mg)(h5:X.base=base)(W:Vf X EE)(hr:Room k X.A)(hN:X.N[i]?=some x)(hv:Vis X.env.scope x)(ha:PA X (e::es) t)(hd:(x == ("__debug__":Str))=false:=by decide)(hcd:(x == ("__classdict__":Str))=false:=by decide)
   (he:starEach (e::es) X.env=(false,eval e X.env)::starEach es X.env:=by rfl) (hpl:(backTo pos (starEach es X.env)).any (·.1)=false:=by rfl):PE X (.Call (.Name x p) (e::es) [] pos) (tPrm P w K mg base k EE i t):=by
 subst h1 h2 h3 h4 h5
 intro pins s σ H Q I h
 obtain ⟨f,fd,ps,sp,e0,F,b,kp,h⟩:=h
 refine wpAny_Call_Name_kw (Zp (Zga (pos:=p) hN hv hd hcd pins s σ H (fun v H1=>v=.ref f∧H1=H) I ⟨_,e0,rfl,rfl⟩) fun u s1 ⟨v,H1,I1,r,e1,e2⟩=>?_)
 subst e1;subst e2
 obtain rfl:u=Value.ref f:=r
 refine PySem.W.callWith_K (h₀:=X.base) I1.ok.mod.kin kp (Zp (ha pos pins s1 σ H1 _ I1 h) fun us s2 ⟨vs,H2,I2,r,q⟩=>⟨I2.kIn,?_⟩) he hpl
 exact ZdS W F hr b I2 r q
def gLup (K:PySem.W.Frag)(n:Nat)(t:TGs):TG:=fun v σ H Q=>∃ a xs,v=.ref a∧SqL K H a xs∧xs.length=n∧t xs σ H Q
theorem ZlN {X:Cx}{pos:Pos}{es:List Expr}{k:Nat}{t:TGs}{n:Nat}(hc:X.calm=true)(h:PGs X es t)(hn:(assignEach es X.env).length=n:=by rfl)(hst:(assignEach es X.env).findIdx? (·.1)=none:=by rfl):PG X (.Tuple es k pos) (gLup X.K n t):=by
 intro pins s σ H v u Q I r hw
 obtain ⟨l,xs,rfl,hq,hl,hw⟩:=hw
 cases r
 obtain ⟨its,rv,pl,_⟩:=I.list hq
 have hh:=I.ok.hd hc
 have hsz:its.toArray.size=n:=by rw [List.size_toArray,← rv.length];exact hl
 rw [assign_Tuple]
 refine wpAny_bind (wpAny_standAt ?_)
 unfold unpack
 rw [hn,hst,← hsz]
 refine wpAny_bind (wpAny_holding (PySem.W.kun_itemsOf hh pl.isList fun h2 he2=>?_))
 have I1:Inv X pins σ H { s with heap:=h2 }:=I.kept (t':=s.toks) fun b o e=>he2 b o (Nat.ne_of_lt (Heap.lt_size e)) e
 exact h pins _ σ H xs _ Q I1 rv hw
end L2
set_option maxHeartbeats 4000000
namespace K70
open PySem L2
def Zje:Option (List Nat)→V
 | none=>.non
 | some r=>.str (Zq r)
def Xe (x:List Nat):Option (List V) :=
 if Zq x="begin"∨Zq x="late"∨Zq x="pass" then some [.str (Zq x)]
 else match (Zx x).2 with
   | none=>none
   | some r =>
     if (Zq (Zx x).1="look"∨Zq (Zx x).1="back"∨Zq (Zx x).1="copy"∨Zq (Zx x).1="in")∧YO (Zq r)=true then some [.str (Zq (Zx x).1),.str (Zq r)]
     else if Zq (Zx x).1="set" then match (Zx r).2 with
       | none=>none
       | some t=>if YO (Zq (Zx r).1)=true then match XH t with
           | none=>none
           | some (v,q)=>if q.head?=some 32∧YO (Zq (q.drop 1))=true then some [.str "set",.str (Zq (Zx r).1),v,.str (Zq (q.drop 1))] else none
         else none
     else none
theorem ZjY {x:Str}{l:List Nat}(h:x.cps.toList=l):Zq l=x:=by rw [← h];exact c_ofC x
theorem ZiT (a b:Str):(Txt.join " " [a,b]).cps.toList=a.cps.toList++32::b.cps.toList:=by rw [tj,Ux,Yi];rfl
theorem Ziz (a b c d:Str):(Txt.join " " [a,b,c,d]).cps.toList=a.cps.toList++32::(b.cps.toList++32::(c.cps.toList++32::d.cps.toList)):=by rw [tj,Ux,Yi,Yi,Yi];rfl
theorem Zcy {x:List Nat}(h:(32:Nat)∈x):¬ (Zq x="begin"∨Zq x="late"∨Zq x="pass"):=by
 have k:∀ w:String,(32:Nat) ∉ (Str.ofString w).cps.toList→¬ Zq x=Str.ofString w:=fun w hw e=>hw (by rw [← e];exact h)
 rintro (e | e | e)
 · exact k _ (by decide +kernel) e
 · exact k _ (by decide +kernel) e
 · exact k _ (by decide +kernel) e
theorem VM {w:String}{x:Str}(hw:(32:Nat) ∉ (Str.ofString w).cps.toList)(hc:Str.ofString w=Str.ofString "look"∨Str.ofString w=Str.ofString "back"∨Str.ofString w=Str.ofString "copy"∨Str.ofString w=Str.ofString "in")(hx:Yg x):Xe (Txt.join " " [Str.ofString w,x]).cps.toList=some [.str (Str.ofString w),.str x]:=by
 rw [ZiT]
 unfold Xe
 rw [if_neg (Zcy (by simp)),UX _ hw]
 dsimp only
 rw [c_ofC,c_ofC,if_pos ⟨hc,ZaR hx⟩]
theorem ZgF {p : Pg}(h:p.ok):Xe p.srow.cps.toList=some p.hv:=by
 cases p with
 | set x v s =>
   show Xe (Txt.join " " [Str.ofString "set",x,ZP v,s]).cps.toList=_
   rw [Ziz]
   unfold Xe
   rw [if_neg (Zcy (by simp)),UX _ (show (32:Nat) ∉ (Str.ofString "set").cps.toList by decide +kernel)]
   dsimp only
   rw [ZjY (x:=Str.ofString "set") rfl,if_neg (fun z=>absurd z.1 (by decide +kernel)),if_pos rfl,UX _ (UA h.1 (by decide))]
   dsimp only
   rw [c_ofC,if_pos (ZaR h.1),ZhQ h.2.1]
   dsimp only
   rw [show (32::s.cps.toList).drop 1=s.cps.toList from rfl,c_ofC,if_pos ⟨rfl,ZaR h.2.2⟩];rfl
 | look x=>exact VM (by decide +kernel) (.inl rfl) h
 | slot w s => rcases h.1 with rfl | rfl
               · exact VM (by decide +kernel) (.inr (.inl rfl)) h.2
               · exact VM (by decide +kernel) (.inr (.inr (.inl rfl))) h.2
 | pass=>exact (show Xe (Str.ofString "pass").cps.toList=_ by unfold Xe;rw [if_pos (.inr (.inr (c_ofC _))),c_ofC];rfl)
 | blk w ps => rcases h.1 with rfl | rfl
               · exact (show Xe (Str.ofString "begin").cps.toList=_ by unfold Xe;rw [if_pos (.inl (c_ofC _)),c_ofC];rfl)
               · exact (show Xe (Str.ofString "late").cps.toList=_ by unfold Xe;rw [if_pos (.inr (.inl (c_ofC _))),c_ofC];rfl)
 | inn s ps=>exact VM (by decide +kernel) (.inr (.inr (.inr rfl))) h.1
theorem ZeW {row : Str}{hs:List V}(h:Xe row.cps.toList=some hs):XV row=some hs:=by
 have one:∀ p:Pg,p.ok→row=p.srow→p.hv=hs→XV row=some hs:=fun p h1 h2 h3=>by rw [h2,← h3];exact Uo h1
 obtain ⟨_,_,b3⟩:=Xl row.cps.toList
 unfold Xe at h
 rw [c_ofC] at h
 split at h
 · rename_i c
   cases h
   rcases c with c | c | c
   · exact one (.blk "begin" []) ⟨.inl rfl,trivial⟩ c (by rw [c];rfl)
   · exact one (.blk "late" []) ⟨.inr rfl,trivial⟩ c (by rw [c];rfl)
   · exact one .pass trivial c (by rw [c];rfl)
 · cases e : (Zx row.cps.toList).2 with
   | none=>rw [e] at h;cases h
   | some r =>
     have b3:=b3 r e
     rw [e] at h
     dsimp only at h
     generalize (Zx row.cps.toList).1=w0 at h b3
     have hrow:∀ w1:Str,Zq w0=w1→row=Txt.join " " [w1,Zq r]:=fun w1 e=>by
       apply ZR
       rw [ZiT,b3,← e];rfl
     by_cases c:(Zq w0="look"∨Zq w0="back"∨Zq w0="copy"∨Zq w0="in")∧YO (Zq r)=true
     · rw [if_pos c] at h
       cases h
       obtain ⟨c,hn⟩:=c
       have hn:=Vj hn
       rcases c with c | c | c | c
       · exact one (.look (Zq r)) hn (hrow _ c) (by rw [c];rfl)
       · exact one (.slot "back" (Zq r)) ⟨.inl rfl,hn⟩ (hrow _ c) (by rw [c];rfl)
       · exact one (.slot "copy" (Zq r)) ⟨.inr rfl,hn⟩ (hrow _ c) (by rw [c];rfl)
       · exact one (.inn (Zq r) []) ⟨hn,trivial⟩ (hrow _ c) (by rw [c];rfl)
     · rw [if_neg c] at h
       by_cases c2:Zq w0="set"
       · rw [if_pos c2] at h
         obtain ⟨_,_,d3⟩:=Xl r
         cases e2:(Zx r).2 with
         | none=>rw [e2] at h;cases h
         | some t =>
           have d3:=d3 t e2
           rw [e2] at h
           dsimp only at h
           generalize (Zx r).1=n0 at h d3
           by_cases c3:YO (Zq n0)=true
           · rw [if_pos c3] at h
             cases e3:XH t with
             | none=>rw [e3] at h;cases h
             | some z =>
               obtain ⟨v,q⟩:=z
               rw [e3] at h
               dsimp only at h
               by_cases c4:q.head?=some 32∧YO (Zq (q.drop 1))=true
               · rw [if_pos c4] at h
                 cases h
                 obtain ⟨v1,v2⟩:=ZbW e3
                 refine one (.set (Zq n0) v (Zq (q.drop 1))) ⟨Vj c3,v1,Vj c4.2⟩ ?_ rfl
                 apply ZR
                 show _=(Txt.join " " [Str.ofString "set",Zq n0,ZP v,Zq (q.drop 1)]).cps.toList
                 rw [Ziz,b3,d3,v2,← show Zq w0=Str.ofString "set" from c2]
                 have:q=32::q.drop 1:=by
                   cases q with
                   | nil=>cases c4.1
                   | cons a l=>have:=c4.1;cases this;rfl
                 rw [YY,YY,YY,← this]
               · rw [if_neg c4] at h;cases h
           · rw [if_neg c3] at h;cases h
       · rw [if_neg c2] at h;cases h
theorem Zez (row:Str):Xe row.cps.toList=XV row:=by
 cases e:XV row with
 | some hs =>
   obtain ⟨p,h1,_,rfl,rfl⟩:=VL e
   exact ZgF h1
 | none =>
   cases e2:Xe row.cps.toList with
   | none=>rfl
   | some hs=>rw [ZeW e2] at e;cases e
end K70
set_option maxHeartbeats 4000000
namespace K70
open PySem L2
theorem Zcz (x:Str)(k:Nat):(Txt.slice x none (some (k:Int))).cps.toList=x.cps.toList.take k:=by
 rw [YT,HT.sIx_none,HT.sIx_nat,List.drop_zero,Nat.sub_zero,Zt]
 by_cases h:k≤x.cps.toList.length
 · rw [Nat.min_eq_left h]
 · rw [Nat.min_eq_right (by omega),List.take_of_length_le (Nat.le_refl _),List.take_of_length_le (by omega)]
theorem Zaw (x:Str)(k:Nat):(Txt.slice x (some (k:Int)) none).cps.toList=x.cps.toList.drop k:=by
 rw [YT,HT.sIx_none,HT.sIx_nat,Zt]
 by_cases h:k≤x.cps.toList.length
 · rw [Nat.min_eq_left h,List.take_of_length_le (by rw [List.length_drop];omega)]
 · rw [Nat.min_eq_right (by omega),List.drop_of_length_le (Nat.le_refl _),List.drop_of_length_le (by omega)];simp
theorem Zgh (x:Str)(k:Nat):(Txt.slice x (some (k:Int)) (some ((k:Int)+1))).cps.toList=(x.cps.toList.drop k).take 1:=by
 rw [show (k:Int)+1=((k+1:Nat):Int) by omega,YT,HT.sIx_nat,HT.sIx_nat,Zt]
 by_cases h:k < x.cps.toList.length
 · rw [Nat.min_eq_left (by omega),Nat.min_eq_left (by omega),show k+1 - k=1 by omega]
 · rw [Nat.min_eq_right (by omega),Nat.min_eq_right (by omega),List.drop_of_length_le (Nat.le_refl _),List.drop_of_length_le (by omega)];simp
theorem Wk (x:Str)(c:Nat):(Txt.slice x none (some 1)=⟨#[c]⟩)↔x.cps.toList.head?=some c:=by
 have:=Zcz x 1
 rw [show ((1:Nat):Int)=1 from rfl] at this
 constructor
 · intro e
   rw [e] at this
   cases h:x.cps.toList with
   | nil=>rw [h] at this;cases this
   | cons a r=>rw [h] at this;cases this;rfl
 · intro e
   apply ZR
   rw [this]
   cases h:x.cps.toList with
   | nil=>rw [h] at e;cases e
   | cons a r=>rw [h] at e;cases e;rfl
section
variable {P:Program}{w:World}{K:PySem.W.Frag}{mg:Str→Option Value}{base:Heap}
def Ziv:Sp:=fun vs H Q _=>∃ x:Str,vs=[.str x]∧x.length≤100000∧∀ t H',Same H H'→H' t=some (.tup [.str (Zq (Zx x.cps.toList).1),Zje (Zx x.cps.toList).2])→Q (.ref t) H'
abbrev nCu:List Str:=["_law_text","_law_at"]
abbrev Zft:List Str:=["_law_text"]
theorem scCu:Zz nCu Zft (Zl s_l_cut):=⟨rfl,rfl,rfl,by decide +kernel,rfl,by decide +kernel,by decide +kernel⟩
theorem Zmk {f:Addr}{fd:FuncData}(F:Fun K "_law_cut" "_law_cut" s_l_cut f fd)(T:Yk mg):FnOk P w K mg base ZY 1 f fd Zft Ziv:=by
 refine F.ok scCu (fun vs H Q E h=>?_) (fun cdv A outer s H vs Q E hr h=>?_)
 · obtain ⟨x,rfl,_⟩:=h;rfl
 obtain ⟨x,rfl,hx,q⟩:=h
 refine' ⟨?t,?h,?r⟩
 case h =>
   conv=>arg 2;whnf
   with_reducible refine' (Zd ?h1 (Zi ?h2))
   case h1=>exact Zw (i:=1) scCu.nd rfl (Or.inl rfl) (YH PySem.F.plainAttrs_str PySem.F.slot_str_find PySem.F.type_str_find ZjN (pv 0) (Zc Zj Za))
   case h2=>exact Zo (Yl (ZF Zcp (pv 1) Zf (ZH _)) (Yf (Zc (pv 0) (Zc YI Za))) (Yf (Zc (ZM Yx (pv 0) ZV (ZK (pv 1))) (Zc (ZM Yx (pv 0) (ZK (Zk Yn (pv 1) Zf)) ZV) Za))))
 refine ⟨_,rfl,rfl,x,_,rfl,rfl,?_⟩
 rw [Ziq]
 obtain ⟨_,h2,h3⟩:=Xl x.cps.toList
 cases e:(Zx x.cps.toList).2 with
 | none =>
   rw [e] at q
   dsimp only
   refine ⟨_,rfl,_,_,rfl,rfl,_,rfl,ifT (decide_eq_true (by decide)) ?_⟩
   refine ⟨_,rfl,(by show 2≤sizeLine;decide),fun t ht=>q t _ (Zh ht _) ?_⟩
   rw [← h2 e,c_ofC];exact Zb
 | some r =>
   rw [e] at q
   have h3:=h3 r e
   have hl:(Zx x.cps.toList).1.length≤x.length:=by
     rw [Zt];generalize (Zx x.cps.toList).1=a at h3;rw [h3];simp
   dsimp only
   refine ⟨_,rfl,_,_,rfl,rfl,_,rfl,VH (decide_eq_false (by omega)) ?_⟩
   refine ⟨_,rfl,?_⟩
   dsimp only [XQ]
   refine ⟨_,rfl,_,rfl,x,rfl,Zr hx,?_⟩
   refine ⟨_,rfl,_,rfl,_,_,rfl,rfl,_,rfl,x,rfl,Zr hx,(by show 2≤sizeLine;decide),fun t ht=>q t _ (Zh ht _) ?_⟩
   have e1:Txt.slice x none (some ((Zx x.cps.toList).1.length:Int))=Zq (Zx x.cps.toList).1:=by
     apply ZR
     rw [Zcz,YY]
     generalize (Zx x.cps.toList).1=a at h3;rw [h3];simp
   have e2:Txt.slice x (some (((Zx x.cps.toList).1.length:Int)+1)) none=Zq r:=by
     apply ZR
     rw [show ((Zx x.cps.toList).1.length:Int)+1=(((Zx x.cps.toList).1.length+1:Nat):Int) by omega,Zaw,YY]
     generalize (Zx x.cps.toList).1=a at h3;rw [h3];simp
   rw [← e1]
   show _=some (HO.tup [_,.str (Zq r)])
   rw [← e2];exact Zb
def spIN:Sp:=fun vs H Q _=>∃ o:Option (List Nat),vs=[Zje o]∧(∀ x,o=some x→x.length≤100000)∧∀ H',Same H H'→Q (.bl (match o with | none=>false | some x=>YO (Zq x))) H'
abbrev nIN:List Str:=["_law_word"]
abbrev ZhX:List Str:=["_law_word"]
theorem scIN:Zz nIN ZhX (Zl s_l_is_name):=⟨rfl,rfl,rfl,by decide +kernel,rfl,by decide +kernel,by decide +kernel⟩
theorem Zmn {f:Addr}{fd:FuncData}(F:Fun K "_law_is_name" "_law_is_name" s_l_is_name f fd)(T:Yk mg):FnOk P w K mg base ZY 1 f fd ZhX spIN:=by
 refine F.ok scIN (fun vs H Q E h=>?_) (fun cdv A outer s H vs Q E hr h=>?_)
 · obtain ⟨o,rfl,_⟩:=h;rfl
 obtain ⟨o,rfl,hx,q⟩:=h
 refine' ⟨?t,?h,?r⟩
 case h =>
   conv=>arg 2;whnf
   with_reducible refine' (Zi ?h1)
   case h1=>exact Zo (XD (Zlw (ZdX (pv 0))) (XD (XM WL WL Zf (Zn ZN rfl T.len PySem.boot_len (Zc (pv 0) Za)) Zf) (Wq (Zn (Wd rfl) rfl T.all (by decide +kernel) (Zc (Xx (CompOk.of nIN s_l_is_name rfl rfl (by decide +kernel)) rfl (WV (pv 0))  (fun _ _ _ _ _=>XM YG YG Zj (pv 1) Zj)) Za)))))
 cases o with
 | none=>exact ⟨_,rfl,_,rfl,VH rfl (q H (Same.refl H))⟩
 | some l =>
   have hl:=hx l rfl
   have hx:(Zq l).length≤100000:=by rw [Zt,YY];exact hl
   show ZhP _ _ (start _ [.str (Zq l)]) _
   replace q:∀ H',Same H H'→Q (.bl (YO (Zq l))) H':=q
   generalize Zq l=x at hx q
   have fin:∀ b:Bool,b=YO x→Q (.bl b) H:=fun b e=>by rw [e];exact q H (Same.refl H)
   refine ⟨_,rfl,_,rfl,ifT rfl ?_⟩
   refine ⟨_,rfl,x,rfl,Zr hx,?_⟩
   refine ⟨_,_,rfl,rfl,_,rfl,?_⟩
   by_cases c1:(1:Int)≤(x.length:Int)
   · rw [decide_eq_true c1]
     refine Zv ⟨_,_,rfl,rfl,_,rfl,?_⟩
     by_cases c2:(x.length:Int)≤8
     · rw [decide_eq_true c2]
       refine Zv ⟨_,rfl,x,rfl,fun D hD=>?_⟩
       refine Xh (Zr hx) (fun c=>.bl (Ua c)) (fun c H' R hc hR=>?_) ⟨D,x.cps.toList.map Ua,rfl,SqL.of (by rw [UU];exact Zb),?_⟩
       · exact ⟨_,rfl,_,_,rfl,rfl,_,rfl,btw ca cz hR⟩
       · have:(x.cps.toList.map Ua).all id=YO x:=by
           unfold YO
           rw [decide_eq_true (show 1≤x.length by omega),decide_eq_true (show x.length≤8 by omega),List.all_map];rfl
         rw [this]
         exact q _ (Zh hD _)
     · rw [decide_eq_false c2]
       exact Zu (fin _ (by unfold YO;rw [decide_eq_false (show ¬ x.length≤8 by omega)];simp))
   · rw [decide_eq_false c1]
     refine Zu ⟨_,rfl,?_⟩
     exact Zu (fin _ (by unfold YO;rw [decide_eq_false (show ¬ 1≤x.length by omega)];simp))
def spNA:Sp:=fun vs H Q _=>∃ x:Str,vs=[.str x]∧x.length≤100000∧(YW (Zq (Zx x.cps.toList).1) 30=none→∀ H',Same H H'→Q .non H')∧∀ n,YW (Zq (Zx x.cps.toList).1) 30=some n→∀ t H',Same H H'→H' t=some (.tup [.int n,.str (Zq (x.cps.toList.drop (Zx x.cps.toList).1.length))])→Q (.ref t) H'
abbrev nNA:List Str:=["_law_text","_law_word","_law_figures"]
abbrev Zit:List Str:=["_law_text"]
theorem scNA:Zz nNA Zit (Zl s_l_number_at):=⟨rfl,rfl,rfl,by decide +kernel,rfl,by decide +kernel,by decide +kernel⟩
theorem ZiP {f:Addr}{fd:FuncData}(F:Fun K "_law_number_at" "_law_number_at" s_l_number_at f fd)(T:Yk mg)(DCu:Def P w K mg base 1 "_law_cut" Zft Ziv):FnOk P w K mg base ZY 2 f fd Zit spNA:=by
 refine F.ok scNA (fun vs H Q E h=>?_) (fun cdv A outer s H vs Q E hr h=>?_)
 · obtain ⟨x,rfl,_⟩:=h;rfl
 obtain ⟨z,rfl,hz,q1,q2⟩:=h
 refine' ⟨?t,?h,?r⟩
 case h =>
   conv=>arg 2;whnf
   with_reducible refine' (Zd ?h1 (Wh ?h2 (Zd (ZS ?h3 (Zi ?h4) ZE) (Zi ?h5))))
   case h1=>exact Zw (i:=1) scNA.nd rfl (Or.inl rfl) (ZX Xr (ZC DCu hr (Zc (pv 0) Za)) Zf (fun _ _=>rfl))
   case h2=>exact Zw (i:=2) scNA.nd rfl (Or.inl rfl) (Yl (ZF Xn (ZM Yx (pv 1) ZV (ZK Zf)) Zj (ZH _)) (ZM Yx (pv 1) (ZK Zf) ZV) (pv 1))
   case h3=>exact PW.pt (Xf (Xg (Zcs WL WL Zf (Zn ZN rfl T.len PySem.boot_len (Zc (pv 2) Za)) Zf)) (Xf (Xg (Yh (Zn (Wd rfl) rfl T.all (by decide +kernel) (Zc (Xx (CompOk.of nNA s_l_number_at rfl rfl (by decide +kernel)) rfl (WV (pv 2))  (fun _ _ _ _ _=>XM YG YG Zj (pv 3) Zj)) Za)))) (XI (ZF XZ (YA UF rfl T.str (by decide +kernel) (Zc (YA XY rfl T.int (by decide +kernel) (Zc (pv 1) Za)) Za)) (pv 1) (ZH _)))))
   case h4=>exact Zo YI
   case h5=>exact Zo (Yf (Zc (YA XY rfl T.int (by decide +kernel) (Zc (pv 1) Za)) (Zc (ZM Yx (pv 0) (ZK (Zn ZN rfl T.len PySem.boot_len (Zc (pv 1) Za))) ZV) Za)))
 have hlz:(Zx z.cps.toList).1.length≤z.cps.toList.length:=by
   obtain ⟨_,h2,h3⟩:=Xl z.cps.toList
   generalize Zx z.cps.toList=y at h2 h3
   cases e:y.2 with
   | none=>rw [h2 e];exact Nat.le_refl _
   | some r=>rw [h3 r e];simp
 refine ⟨_,rfl,z,rfl,hz,fun t H1 s1 et=>⟨t,_,_,_,rfl,rfl,SqT.of et,YB (j:=0) rfl,?_⟩⟩
 rw [← Zt] at hlz
 have hx:(Zq (Zx z.cps.toList).1).length≤100000:=by rw [Zt,YY];omega
 have hlx:=Zt (Zq (Zx z.cps.toList).1)
 have htail:Txt.slice z (some ((Zq (Zx z.cps.toList).1).length:Int)) none=Zq (z.cps.toList.drop (Zx z.cps.toList).1.length):=by
   apply ZR
   rw [Zaw,YY,Zt,YY]
 rw [← htail] at q2
 generalize Zq (Zx z.cps.toList).1=x at hx hlx q1 q2 ⊢
 replace q1:YW x 30=none→∀ H',Same H1 H'→Q .non H':=fun h H' s'=>q1 h H' (s1.trans s')
 replace q2:∀ n,YW x 30=some n→∀ t H',Same H1 H'→H' t=some (.tup [.int n,.str (Txt.slice z (some (x.length:Int)) none)])→Q (.ref t) H':=fun n h t H' s'=>q2 n h t H' (s1.trans s')
 clear s1 et
 refine ⟨fun σ H'=>H'=H1∧∃ y:Str,y.cps.toList=Yc x∧σ=[some (.str z),some (.str x),some (.str y)],?_,?_⟩
 · refine ⟨_,rfl,?_⟩
   dsimp only [XQ]
   refine ⟨_,rfl,x,rfl,Zr hx,rfl,_,rfl,?_⟩
   by_cases hh:x.cps.toList.head?=some 45
   · rw [decide_eq_true (show V.str (Txt.slice x none (some 1))=V.str (Str.ofString "-") by rw [mi1,(Wk x 45).mpr hh])]
     exact Zv ⟨_,rfl,_,rfl,x,rfl,Zr hx,rfl,_,by rw [Zbg];unfold Yc;rw [if_pos hh],rfl⟩
   · rw [decide_eq_false (show ¬ V.str (Txt.slice x none (some 1))=V.str (Str.ofString "-") from fun e=>hh ((Wk x 45).mp (by rw [mi1] at e;injection e))) ]
     exact Zu ⟨_,rfl,rfl,x,by unfold Yc;rw [if_neg hh],rfl⟩
 rintro σ H ⟨rfl,y,ey,rfl⟩
 have hly:y.length=(Yc x).length:=by rw [Zt,ey]
 have hyx:(Yc x).length≤100000:=by
   unfold Yc
   split
   · rw [List.length_drop];omega
   · omega
 refine ⟨_,rfl,y,rfl,Zr (show _≤100000 by omega),_,_,rfl,rfl,_,rfl,?_⟩
 have no:∀ H',Same H H'→¬ (1≤(Yc x).length∧(Yc x).length≤30∧(Yc x).all Xm=true)→Q .non H':=fun H' s' h=>by
   refine q1 ?_ H' s'
   unfold YW
   rw [if_neg h]
 by_cases c1:(1:Int)≤(y.length:Int)
 · rw [decide_eq_true c1]
   refine Zv ⟨_,_,rfl,rfl,_,rfl,?_⟩
   by_cases c2:(y.length:Int)≤(30:Int)
   · rw [decide_eq_true c2]
     refine Zu ⟨_,rfl,y,rfl,fun D hD=>?_⟩
     refine Xh (Zr (show _≤100000 by omega)) (fun c=>.bl (Xm c)) (fun c H' R hc hR=>?_) ⟨D,y.cps.toList.map Xm,rfl,SqL.of (by rw [UU];exact Zb),?_⟩
     · exact ⟨_,rfl,_,_,rfl,rfl,_,rfl,btw c0 c9 hR⟩
     have s1:=Zh hD (.lst ((y.cps.toList.map fun c=>V.bl (Xm c))))
     generalize upd H D (.lst ((y.cps.toList.map fun c=>V.bl (Xm c))))=H1 at s1 ⊢
     have ea:(y.cps.toList.map Xm).all id=(Yc x).all Xm:=by rw [List.all_map,ey];rfl
     rw [ea]
     refine ⟨_,rfl,?_⟩
     cases hd:(Yc x).all Xm with
     | false=>exact Zv (no H1 s1 fun h=>by rw [hd] at h;exact absurd h.2.2 (by decide))
     | true =>
       obtain ⟨n,hn,hl,hlog⟩:=ZaK (w:=x) (by omega) (by omega) hd
       have hq:YW x 30=if Str.ofString (toString n)=x then some n else none:=by
         unfold YW
         rw [if_pos ⟨by omega,by omega,hd⟩,hn,Option.getD_some]
       refine Zu ⟨_,rfl,x,n,rfl,hn,hl,.inl ⟨n,rfl,hlog,_,rfl,rfl,_,rfl,?_⟩⟩
       by_cases hs:Str.ofString (toString n)=x
       · rw [decide_eq_true (by rw [hs])]
         rw [if_pos hs] at hq
         refine Zu ⟨_,rfl,x,n,rfl,hn,hl,_,rfl,_,rfl,x,rfl,Zr hx,_,rfl,z,rfl,Zr hz,(by show 2≤sizeLine;decide),fun t ht=>q2 n hq t _ (s1.trans (Zh ht _)) Zb⟩
       · rw [decide_eq_false (fun z=>hs (by injection z))]
         rw [if_neg hs] at hq
         exact Zv (q1 hq H1 s1)
   · rw [decide_eq_false c2]
     exact Zv (no H (Same.refl H) fun h=>c2 (by omega))
 · rw [decide_eq_false c1]
   refine Zu ⟨_,rfl,?_⟩
   exact Zv (no H (Same.refl H) fun h=>c1 (by omega))
end
end K70
set_option maxHeartbeats 4000000
namespace K70
open PySem L2
theorem Zef {x:List Nat}(h:¬ x.head?=some 39):XH x=(YW (Zq (Zx x).1) 30).map fun i=>(V.int i,x.drop (Zx x).1.length):=by
 cases x with
 | nil =>
   have:YW (Zq (Zx []).1) 30=none:=by unfold YW;rw [if_neg];intro z;exact absurd z.1 (by decide)
   rw [this];rfl
 | cons c t=>exact ZgB t fun z=>h (by rw [z];rfl)
theorem ZcL (c:Str):Xd (.str c) [.str "'",.str "\\"]=true↔c=⟨#[39]⟩∨c=⟨#[92]⟩:=by
 show (Wv (.str "'") (.str c) || (Wv (.str "\\") (.str c) || false))=true↔_
 rw [Bool.or_false,Bool.or_eq_true,← qu1,← sl1]
 show (Str.ofString "'" == c)=true∨(Str.ofString "\\" == c)=true↔_
 rw [beq_iff_eq,beq_iff_eq]
 exact ⟨fun h=>h.imp Eq.symm Eq.symm,fun h=>h.imp Eq.symm Eq.symm⟩
section
variable {P:Program}{w:World}{K:PySem.W.Frag}{mg:Str→Option Value}{base:Heap}
def spVA:Sp:=fun vs H Q _=>∃ x:Str,vs=[.str x]∧x.length≤100000∧(XH x.cps.toList=none→∀ H',Same H H'→Q .non H')∧∀ v r,XH x.cps.toList=some (v,r)→∀ t H',Same H H'→H' t=some (.tup [v,.str (Zq r)])→Q (.ref t) H'
abbrev nVA:List Str:=["_law_text","_law_value_here","_law_k"]
abbrev ZiH:List Str:=["_law_text"]
theorem scVA:Zz nVA ZiH (Zl s_l_value_at):=⟨rfl,rfl,rfl,by decide +kernel,rfl,by decide +kernel,by decide +kernel⟩
theorem Zih {f : Addr}{fd:FuncData}(F:Fun K "_law_value_at" "_law_value_at" s_l_value_at f fd)(T:Yk mg)(DNA:Def P w K mg base 2 "_law_number_at" Zit spNA):FnOk P w K mg base ZY 3 f fd ZiH spVA:=by
 refine F.ok scVA (fun vs H Q E h=>?_) (fun cdv A outer s H vs Q E hr h=>?_)
 · obtain ⟨x,rfl,_⟩:=h;rfl
 obtain ⟨x,rfl,hx,q1,q2⟩:=h
 refine' ⟨?t,?h,?r⟩
 case h =>
   conv=>arg 2;whnf
   with_reducible refine' (Zd (ZS ?h1 (Zi ?h2) ZE) (Zd ?h3 (Wh (Zjd ?h4 ?h5 (Wh (ZS ?h6 (Zd ?h7 (Zi (ZS ?h8 (Zi ?h9) ZE))) ZE) (Zi ?h10))) (Zd (ZS ?h11 (Zi ?h12) ZE) (Zi ?h13)))))
   case h1=>exact ZF XZ (ZM Yx (pv 0) ZV (ZK Zf)) Zj (ZH _)
   case h2=>exact Zo (ZC DNA hr (Zc (pv 0) Za))
   case h3=>exact Ws (Yf (Zc Zj (Zc Zf Za))) (XT rfl (ZQ (ZD (i:=1) scVA.nd rfl (Or.inl rfl)) (ZQ (ZD (i:=2) scVA.nd rfl (Or.inl rfl)) Xi)))
   case h4=>exact PassesOwn.never
   case h5=>exact PW.pt (ZaM (ZF Zcp (pv 2) (Zn ZN rfl T.len PySem.boot_len (Zc (pv 0) Za)) (ZH _)) (VR (ZF XZ (ZX WO (pv 0) (pv 2) (fun _ _=>rfl)) Zj (ZH _))))
   case h6=>exact ZF Xn (ZX WO (pv 0) (pv 2) (fun _ _=>rfl)) Zj (ZH _)
   case h7=>exact Zw (i:=2) scVA.nd rfl (Or.inl rfl) (Zk Yn (pv 2) Zf)
   case h8=>exact ZF VE (ZM Yx (pv 0) (ZK (pv 2)) (ZK (Zk Yn (pv 2) Zf))) (Yf (Zc Zj (Zc Zj Za))) rfl
   case h9=>exact Zo YI
   case h10=>exact Zhb (i:=1) (j:=2) rfl scVA.nd rfl rfl (by decide) rfl rfl (Zc (Zk Zs (pv 1) (ZX WO (pv 0) (pv 2) (fun _ _=>rfl))) (Zc (Zk Yn (pv 2) Zf) Za)) rfl
   case h11=>exact PW.pt (Xf (ZF Xn (pv 2) (Zn ZN rfl T.len PySem.boot_len (Zc (pv 0) Za)) (ZH _)) (Xf (ZF Zcr (Zn ZN rfl T.len PySem.boot_len (Zc (pv 1) Za)) Zf (ZH _)) (XI (Xg (Yh (Zn (Wd rfl) rfl T.all (by decide +kernel) (Zc (Xx (CompOk.of nVA s_l_value_at rfl rfl (by decide +kernel)) rfl (WV (pv 1))  (fun _ _ _ _ _=>XM YG YG Zj (pv 3) Zj)) Za)))))))
   case h12=>exact Zo YI
   case h13=>exact Zo (Yf (Zc (pv 1) (Zc (ZM Yx (pv 0) (ZK (Zk Yn (pv 2) Zf)) ZV) Za)))
 have hxl:=Zt x
 refine ⟨_,rfl,?_⟩
 dsimp only [XQ]
 refine ⟨_,rfl,x,rfl,Zr hx,rfl,_,rfl,?_⟩
 by_cases hh:¬ x.cps.toList.head?=some 39
 · rw [decide_eq_false (show ¬ V.str (Txt.slice x none (some 1))=V.str (Str.ofString "'") from fun e=>hh ((Wk x 39).mp (by rw [qu1] at e;injection e)))]
   refine Zv ⟨_,rfl,x,rfl,hx,fun h H' s'=>q1 (by rw [Zef hh,h];rfl) H' s',fun n h t H' s' e=>q2 _ _ (by rw [Zef hh,h];rfl) t H' s' e⟩
 have hh:x.cps.toList.head?=some 39:=Classical.not_not.mp hh
 rw [decide_eq_true (show V.str (Txt.slice x none (some 1))=V.str (Str.ofString "'") by rw [qu1,(Wk x 39).mpr hh])]
 have hv:XH x.cps.toList=(match rdQ (x.cps.toList.drop 1) with | some (l,r)=>if l.length≤40∧l.all Yd=true then some (V.str (Zq l),r) else none | none=>none):=by
   cases e:x.cps.toList with
   | nil=>rw [e] at hh;cases hh
   | cons a t=>rw [e] at hh;cases hh;exact Zgp t
 have hpos:1≤x.length:=by
   rw [hxl]
   cases e:x.cps.toList with
   | nil=>rw [e] at hh;cases hh
   | cons a t=>simp
 refine Zu ⟨(by decide),fun t0 ht0=>⟨t0,_,rfl,SqT.of Zb,rfl,_,_,rfl,_,_,rfl,rfl,?_⟩⟩
 refine ⟨fun σ H2=>∃ (acc:List Nat) (k:Nat),σ=[some (.str x),some (.str (Zq acc)),some (.int (k:Int))]∧Same H H2∧k≤x.length∧acc.length≤k∧((k=x.length∧rdQ (x.cps.toList.drop 1)=none)∨(k < x.length∧rdQ (x.cps.toList.drop 1)=some (acc,x.cps.toList.drop (k+1)))),?_,?_⟩
 · refine ⟨fun m σ H'=>∃ (acc:List Nat) (k:Nat),m=x.length - k∧σ=[some (.str x),some (.str (Zq acc)),some (.int (k:Int))]∧Same H H'∧k≤x.length∧acc.length≤k∧rdQ (x.cps.toList.drop 1)=(rdQ (x.cps.toList.drop k)).map fun z=>(acc++z.1,z.2),⟨_,[],1,rfl,rfl,Zh ht0 _,hpos,Nat.zero_le _,by cases rdQ (x.cps.toList.drop 1)<;>rfl⟩,?_⟩
   rintro m σ H1 ⟨acc,k,rfl,rfl,s1,hkl,hal,hrd⟩
   refine ⟨_,rfl,_,rfl,x,rfl,Zr hx,_,_,rfl,rfl,_,rfl,?_⟩
   by_cases c1:k < x.length
   · rw [decide_eq_true (show (k:Int) < (x.length:Int) by omega)]
     obtain ⟨c,hc⟩:∃ c,x.cps.toList[k]?=some c:=⟨_,List.getElem?_eq_getElem (by omega)⟩
     have hd:x.cps.toList.drop k=c::x.cps.toList.drop (k+1):=by
       obtain ⟨h1,h2⟩:=List.getElem?_eq_some_iff.mp hc
       rw [List.drop_eq_getElem_cons h1,h2]
     refine Zv ⟨_,rfl,_,rfl,x,_,c,rfl,rfl,Zr hx,YB hc,rfl,_,rfl,?_⟩
     rw [Zdg c 39 _ qu1]
     by_cases c39:c=39
     · rw [decide_eq_true c39]
       refine Zu ⟨acc,k,rfl,s1,hkl,hal,.inr ⟨c1,?_⟩⟩
       rw [hrd,hd,Xq,if_pos c39]
       show some (acc++[],_)=_
       rw [List.append_nil]
     rw [decide_eq_false c39]
     refine Zv ⟨fun σ' H'=>∃ (acc':List Nat) (k':Nat),k < k'∧σ'=[some (.str x),some (.str (Zq acc')),some (.int (k':Int))]∧Same H H'∧k'≤x.length∧acc'.length≤k'∧rdQ (x.cps.toList.drop 1)=(rdQ (x.cps.toList.drop k')).map fun z=>(acc'++z.1,z.2),fun σ' H' ⟨acc',k',h1,h2,h3,h4,h5,h6⟩=>⟨x.length - k',by omega,acc',k',rfl,h2,h3,h4,h5,h6⟩,?_⟩
     refine ⟨fun σ' H'=>∃ (k' c':Nat),k≤k'∧k'≤k+1∧σ'=[some (.str x),some (.str (Zq acc)),some (.int (k':Int))]∧Same H H'∧x.cps.toList[k']?=some c'∧rdQ (x.cps.toList.drop k)=(rdQ (x.cps.toList.drop (k'+1))).map fun z=>(c'::z.1,z.2),?_,?_⟩
     · refine ⟨_,rfl,_,rfl,x,_,c,rfl,rfl,Zr hx,YB hc,rfl,_,rfl,?_⟩
       rw [Zdg c 92 _ sl1]
       by_cases c92:c=92
       · rw [decide_eq_true c92]
         refine Zv ⟨_,rfl,_,_,rfl,rfl,?_⟩
         refine ⟨_,rfl,_,rfl,_,rfl,_,rfl,_,_,rfl,rfl,_,rfl,x,rfl,Zr hx,(by decide),fun t1 ht1=>?_⟩
         refine ⟨t1,_,rfl,.inr (SqT.of Zb),rfl,rfl,_,rfl,?_⟩
         have s2:=s1.trans (Zh ht1 (.tup [.str "'",.str "\\"]))
         generalize upd H1 t1 (.tup [.str "'",.str "\\"])=H2 at s2 ⊢
         have hsl:=Zgh x (k+1)
         rw [show ((k+1:Nat):Int)=(k:Int)+1 by omega] at hsl
         cases e:x.cps.toList[k+1]? with
         | none =>
           have hnil:x.cps.toList.drop (k+1)=[]:=List.drop_of_length_le (by have:=List.getElem?_eq_none_iff.mp e;omega)
           have hno:Xd (.str (Txt.slice x (some ((k:Int)+1)) (some ((k:Int)+1+1)))) [.str "'",.str "\\"]=false:=by
             rw [Bool.eq_false_iff];intro z
             rcases (ZcL _).mp z with z | z<;>(rw [z,hnil] at hsl;cases hsl)
           rw [hno]
           refine Zv (q1 ?_ H2 s2)
           rw [hv,hrd,hd,Xq,if_neg c39,if_pos c92,hnil];rfl
         | some d =>
           have hd2:x.cps.toList.drop (k+1)=d::x.cps.toList.drop (k+1+1):=by
             obtain ⟨h1,h2⟩:=List.getElem?_eq_some_iff.mp e
             rw [List.drop_eq_getElem_cons h1,h2]
           have hs1:Txt.slice x (some ((k:Int)+1)) (some ((k:Int)+1+1))=⟨#[d]⟩:=ZR (by rw [hsl,hd2];rfl)
           rw [hs1]
           by_cases cd:d=39∨d=92
           · have hyes:Xd (.str ⟨#[d]⟩) [.str "'",.str "\\"]=true:=(ZcL _).mpr (by rcases cd with rfl | rfl;exact .inl rfl;exact .inr rfl)
             rw [hyes]
             refine Zu ⟨k+1,d,by omega,by omega,?_,s2,e,?_⟩
             · show [some (V.str x),some (V.str (Zq acc)),some (V.int ((k:Int)+1))]=_
               rw [show ((k+1:Nat):Int)=(k:Int)+1 by omega]
             · rw [hd,Xq,if_neg c39,if_pos c92,hd2]
               show (if d=39∨d=92 then _ else none)=_
               rw [if_pos cd]
           · have hno:Xd (.str ⟨#[d]⟩) [.str "'",.str "\\"]=false:=by
               rw [Bool.eq_false_iff];intro z
               exact cd (((ZcL _).mp z).imp (fun z=>by injection z with z;injection z with z;injection z) (fun z=>by injection z with z;injection z with z;injection z))
             rw [hno]
             refine Zv (q1 ?_ H2 s2)
             have hr0:rdQ (x.cps.toList.drop k)=none:=by
               rw [hd,Xq,if_neg c39,if_pos c92,hd2]
               show (if d=39∨d=92 then _ else none)=_
               rw [if_neg cd]
             rw [hv,hrd,hr0];rfl
       · rw [decide_eq_false c92]
         refine Zu ⟨k,c,Nat.le_refl _,by omega,rfl,s1,hc,?_⟩
         rw [hd,Xq,if_neg c39,if_neg c92]
     · rintro σ' H2 ⟨k',c',h1,h2,rfl,s2,hc',hr'⟩
       have hk':k' < x.length:=by have:=(List.getElem?_eq_some_iff.mp hc').1;omega
       refine ⟨_,rfl,_,rfl,_,rfl,x,_,c',rfl,rfl,Zr hx,YB hc',_,_,rfl,rfl,Zr (show _≤100000 by rw [Zt,YY];show acc.length+1≤_;omega),_,rfl,_,_,rfl,rfl,_,_,rfl,acc++[c'],k'+1,by omega,?_,s2,by omega,by rw [List.length_append,List.length_singleton];omega,?_⟩
       · show [some (V.str x),some (V.str (Zq acc++⟨#[c']⟩)),some (V.int ((k':Int)+1))]=_
         rw [show ((k'+1:Nat):Int)=(k':Int)+1 by omega,show Zq (acc++[c'])=Zq acc++⟨#[c']⟩ from ZR (by rw [Yo];rfl)]
       · rw [hrd,hr',Option.map_map]
         congr 1
         funext z
         show (acc++c'::z.1,z.2)=(acc++[c']++z.1,z.2)
         rw [List.append_assoc];rfl
   · rw [decide_eq_false (show ¬ (k:Int) < (x.length:Int) by omega)]
     have hkx:k=x.length:=by omega
     refine Zu ?_
     refine Zu ⟨acc,k,rfl,s1,hkl,hal,.inl ⟨hkx,?_⟩⟩
     rw [hrd,List.drop_of_length_le (by omega),rdQ.eq_def];rfl
 rintro σ H1 ⟨acc,k,rfl,s1,hkl,hal,hcase⟩
 have hla:(Zq acc).length=acc.length:=by rw [Zt,YY]
 refine ⟨_,rfl,_,rfl,x,rfl,Zr hx,rfl,_,rfl,?_⟩
 rcases hcase with ⟨hk,hrd⟩ | ⟨hk,hrd⟩
 · rw [decide_eq_true (show V.int (k:Int)=V.int (x.length:Int) by rw [hk])]
   exact Zv (Zv (q1 (by rw [hv,hrd]) H1 s1))
 rw [decide_eq_false (show ¬ V.int (k:Int)=V.int (x.length:Int) from fun z=>by injection z with z;omega)]
 rw [hrd] at hv
 dsimp only at hv
 refine Zu ⟨_,rfl,_,rfl,Zr (show _≤100000 by omega),_,_,rfl,rfl,_,rfl,?_⟩
 by_cases c2:acc.length≤40
 · rw [decide_eq_false (show ¬ (40:Int) < ((Zq acc).length:Int) by omega)]
   refine Zu ⟨_,rfl,_,rfl,fun D hD=>?_⟩
   refine Xh (Zr (show _≤100000 by omega)) (fun c=>.bl (Yd c)) (fun c H' R hc hR=>?_) ⟨D,acc.map Yd,rfl,SqL.of (by rw [UU];exact Zb),?_⟩
   · exact ⟨_,rfl,_,_,rfl,rfl,_,rfl,btw cbl cti hR⟩
   have s2:=s1.trans (Zh hD (.lst ((Zq acc).cps.toList.map fun c=>V.bl (Yd c))))
   generalize upd H1 D (.lst ((Zq acc).cps.toList.map fun c=>V.bl (Yd c)))=H2 at s2 ⊢
   rw [show (acc.map Yd).all id=acc.all Yd by rw [List.all_map];rfl]
   refine ⟨_,rfl,?_⟩
   cases c3:acc.all Yd with
   | false=>exact Zv (q1 (by rw [hv,if_neg (by rw [c3];exact fun z=>nomatch z.2)]) H2 s2)
   | true =>
     refine Zu ⟨_,rfl,_,rfl,_,rfl,_,_,rfl,rfl,_,rfl,x,rfl,Zr hx,(by show 2≤sizeLine;decide),fun t ht=>?_⟩
     refine q2 _ _ (by rw [hv,if_pos ⟨c2,c3⟩]) t _ (s2.trans (Zh ht _)) ?_
     rw [show Zq (x.cps.toList.drop (k+1))=Txt.slice x (some ((k:Int)+1)) none from ZR (by rw [show (k:Int)+1=((k+1:Nat):Int) by omega,Zaw];rfl)]
     exact Zb
 · rw [decide_eq_true (show (40:Int) < ((Zq acc).length:Int) by omega)]
   exact Zv (Zv (q1 (by rw [hv,if_neg (fun z=>c2 z.1)]) H1 s1))
end
theorem Zam (c:Str):∀ ws:List Str,Xd (.str c) (ws.map V.str)=decide (c∈ws)
 | []=>rfl
 | w :: ws=>by
   have ih:=Zam c ws
   show ((w == c) || Xd (.str c) (ws.map V.str))=_
   rw [ih]
   by_cases h:c=w
   · subst h;simp
   · rw [show (w == c)=false from beq_false_of_ne (fun z=>h z.symm),Bool.false_or]
     simp [h]
theorem ZcV {x:List Nat}{n:Nat}(h:x.length≤n):(Zx x).1.length≤n∧∀ r,(Zx x).2=some r→r.length≤n:=by
 obtain ⟨_,h2,h3⟩:=Xl x
 generalize Zx x=y at h2 h3
 cases e:y.2 with
 | none=>have:=congrArg List.length (h2 e);exact ⟨by omega,fun r z=>nomatch z⟩
 | some r =>
   have:=congrArg List.length (h3 r e)
   rw [List.length_append,List.length_cons] at this
   exact ⟨by omega,fun r' z=>by cases z;omega⟩
theorem ZiG {x r:List Nat}{v:V}(h:XH x=some (v,r)):r.length≤x.length:=by
 have:=congrArg List.length (ZbW h).2
 rw [List.length_append] at this;omega
section
variable {P:Program}{w:World}{K:PySem.W.Frag}{mg:Str→Option Value}{base:Heap}
abbrev nSt:List Str:=["_law_row","_law_word","_law_rest","_law_name","_law_found"]
abbrev ZhM:List Str:=["_law_row"]
theorem scSt:Zz nSt ZhM (Zl s_l_step):=⟨rfl,rfl,rfl,by decide +kernel,rfl,by decide +kernel,by decide +kernel⟩
theorem ZkG {f : Addr}{fd:FuncData}(F:Fun K "_law_step" "_law_step" s_l_step f fd)(T:Yk mg)(DCu:Def P w K mg base 3 "_law_cut" Zft Ziv)(DIN:Def P w K mg base 3 "_law_is_name" ZhX spIN)(DVA:Def P w K mg base 3 "_law_value_at" ZiH spVA):FnOk P w K mg base ZY 4 f fd ZhM ZcW:=by
 refine F.ok scSt (fun vs H Q E h=>?_) (fun cdv A outer s H vs Q E hr h=>?_)
 · obtain ⟨x,rfl,_⟩:=h;rfl
 obtain ⟨x,rfl,hx,q1,q2⟩:=h
 refine' ⟨?t,?h,?r⟩
 case h =>
   conv=>arg 2;whnf
   with_reducible refine' (Zd ?h1 (Zd (ZS ?h2 (Zi ?h3) ZE) (Wh (ZS ?h4 (Zi ?h5) ZE) (Zd (ZS ?h6 (Zi ?h7) ZE) (Zd ?h8 (Zd ?h9 (Zd (ZS ?h10 (Zi ?h11) ZE) (Zi ?h12))))))))
   case h1=>exact Ws (ZC DCu hr (Zc (pv 0) Za)) (XT rfl (ZQ (ZD (i:=1) scSt.nd rfl (Or.inl rfl)) (ZQ (ZD (i:=2) scSt.nd rfl (Or.inl rfl)) Xi)))
   case h2=>exact ZF WT (pv 0) (Yf (Zc Zj (Zc Zj (Zc Zj Za)))) rfl
   case h3=>exact Zo (Yf (Zc (pv 0) Za))
   case h4=>exact PW.pt (ZaM (ZF WT (pv 1) (Yf (Zc Zj (Zc Zj (Zc Zj (Zc Zj Za))))) rfl) (VR (Yh (ZC DIN hr (Zc (pv 2) Za)))))
   case h5=>exact Zo (Yf (Zc (pv 1) (Zc (pv 2) Za)))
   case h6=>exact PW.pt (Xf (ZF XZ (pv 1) Zj (ZH _)) (XI (XU (Ww (pv 2)))))
   case h7=>exact Zo YI
   case h8=>exact Ws (ZC DCu hr (Zc (pv 2) Za)) (XT rfl (ZQ (ZD (i:=3) scSt.nd rfl (Or.inl rfl)) (ZQ (ZD (i:=2) scSt.nd rfl (Or.inl rfl)) Xi)))
   case h9=>exact Zw (i:=4) scSt.nd rfl (Or.inl rfl) (Yl (PW.pt (ZaM (Yh (ZC DIN hr (Zc (pv 3) Za))) (VR (XU (ZdX (pv 2)))))) (ZC DVA hr (Zc (pv 2) Za)) YI)
   case h10=>exact PW.pt (Xf (XU (Ww (pv 4))) (Xf (ZF XZ (ZM Yx (ZX Xr (pv 4) Zf (fun _ _=>rfl)) ZV (ZK Zf)) Zj (ZH _)) (XI (Xg (Yh (ZC DIN hr (Zc (ZM Yx (ZX Xr (pv 4) Zf (fun _ _=>rfl)) (ZK Zf) ZV) Za)))))))
   case h11=>exact Zo YI
   case h12=>exact Zo (Yf (Zc Zj (Zc (pv 3) (Zc (ZX Xr (pv 4) Zf (fun _ _=>rfl)) (Zc (ZM Yx (ZX Xr (pv 4) Zf (fun _ _=>rfl)) (ZK Zf) ZV) Za)))))
 have hxl:=Zt x
 have hst:XV x=(if x="begin"∨x="late"∨x="pass" then some [.str x]
   else match (Zx x.cps.toList).2 with
     | none=>none
     | some r =>
       if (Zq (Zx x.cps.toList).1="look"∨Zq (Zx x.cps.toList).1="back"∨Zq (Zx x.cps.toList).1="copy"∨Zq (Zx x.cps.toList).1="in")∧YO (Zq r)=true then some [.str (Zq (Zx x.cps.toList).1),.str (Zq r)]
       else if Zq (Zx x.cps.toList).1="set" then match (Zx r).2 with
         | none=>none
         | some t=>if YO (Zq (Zx r).1)=true then match XH t with
             | none=>none
             | some (v,q)=>if q.head?=some 32∧YO (Zq (q.drop 1))=true then some [.str "set",.str (Zq (Zx r).1),v,.str (Zq (q.drop 1))] else none
           else none
       else none):=by rw [← Zez];unfold Xe;(rw [c_ofC]<;>rfl)
 rw [hst] at q1 q2
 clear hst
 obtain ⟨la,lr⟩:=ZcV (x:=x.cps.toList) (n:=90000) (by omega)
 refine ⟨_,rfl,x,rfl,by omega,fun t1 H1 s1 et1=>⟨t1,_,rfl,SqT.of et1,rfl,_,_,rfl,_,_,rfl,rfl,?_⟩⟩
 generalize Zx x.cps.toList=y at la lr q1 q2 et1 ⊢
 obtain ⟨a,o⟩:=y
 dsimp only at la lr q1 q2 et1 ⊢
 refine ⟨_,rfl,(by decide),fun t2 ht2=>⟨t2,[.str "begin",.str "late",.str "pass"],rfl,.inr (SqT.of Zb),rfl,rfl,_,rfl,?_⟩⟩
 have s2:=s1.trans (Zh ht2 (.tup [.str "begin",.str "late",.str "pass"]))
 generalize upd H1 t2 (.tup [.str "begin",.str "late",.str "pass"])=H2 at s2 ⊢
 have i1:=Zam x ["begin","late","pass"]
 replace i1:Xd (.str x) [.str "begin",.str "late",.str "pass"]=decide (x="begin"∨x="late"∨x="pass"):=by
   rw [show [V.str "begin",V.str "late",V.str "pass"]=(["begin","late","pass"]:List Str).map V.str from rfl,i1]
   simp only [List.mem_cons,List.not_mem_nil,or_false]
 rw [i1]
 by_cases c0:x="begin"∨x="late"∨x="pass"
 · rw [decide_eq_true c0]
   rw [if_pos c0] at q2
   exact Zv ⟨_,rfl,(by show 1≤sizeLine;decide),fun t ht=>q2 _ rfl t _ (s2.trans (Zh ht _)) (XE s2 ht) Zb⟩
 rw [decide_eq_false c0]
 rw [if_neg c0] at q1 q2
 refine Zu ?_
 refine ⟨fun σ H'=>σ=[some (.str x),some (.str (Zq a)),some (Zje o),none,none]∧Same H H'∧∀ r,o=some r→¬ ((Zq a="look"∨Zq a="back"∨Zq a="copy"∨Zq a="in")∧YO (Zq r)=true),?_,?_⟩
 · refine ⟨_,rfl,(by decide),fun t3 ht3=>⟨t3,[.str "look",.str "back",.str "copy",.str "in"],rfl,.inr (SqT.of Zb),rfl,rfl,_,rfl,?_⟩⟩
   have s3:=s2.trans (Zh ht3 (.tup [.str "look",.str "back",.str "copy",.str "in"]))
   generalize upd H2 t3 (.tup [.str "look",.str "back",.str "copy",.str "in"])=H3 at s3 ⊢
   have i2:=Zam (Zq a) ["look","back","copy","in"]
   replace i2:Xd (.str (Zq a)) [.str "look",.str "back",.str "copy",.str "in"]=decide (Zq a="look"∨Zq a="back"∨Zq a="copy"∨Zq a="in"):=by
     rw [show [V.str "look",V.str "back",V.str "copy",V.str "in"]=(["look","back","copy","in"]:List Str).map V.str from rfl,i2]
     simp only [List.mem_cons,List.not_mem_nil,or_false]
   rw [i2]
   by_cases c1:Zq a="look"∨Zq a="back"∨Zq a="copy"∨Zq a="in"
   · rw [decide_eq_true c1]
     refine Zv ⟨_,rfl,o,rfl,fun r e=>by have:=lr r e;omega,fun H4 s4=>⟨_,rfl,?_⟩⟩
     have s4:=s3.trans s4
     cases o with
     | none=>exact Zu ⟨rfl,s4,fun r z=>nomatch z⟩
     | some r =>
       dsimp only
       cases hn:YO (Zq r) with
       | false=>exact Zu ⟨rfl,s4,fun r' z h=>by cases z;rw [hn] at h;exact absurd h.2 (by decide)⟩
       | true =>
         dsimp only at q2
         rw [if_pos ⟨c1,hn⟩] at q2
         exact Zv ⟨_,rfl,_,rfl,(by show 2≤sizeLine;decide),fun t ht=>q2 _ rfl t _ (s4.trans (Zh ht _)) (XE s4 ht) Zb⟩
   · rw [decide_eq_false c1]
     exact Zu (Zu ⟨rfl,s3,fun r z h=>c1 h.1⟩)
 rintro σ H3 ⟨rfl,s3,hno⟩
 refine ⟨_,rfl,rfl,_,rfl,?_⟩
 by_cases c5:Zq a="set"
 · rw [decide_eq_true (show V.str (Zq a)=V.str "set" by rw [c5])]
   refine Zu ⟨_,rfl,_,rfl,?_⟩
   cases o with
   | none=>exact Zv (q1 rfl H3 s3)
   | some r =>
     refine VH rfl ?_
     have lr:=lr r rfl
     dsimp only at q1 q2
     rw [if_neg (hno r rfl),if_pos c5] at q1 q2
     obtain ⟨lb,lt⟩:=ZcV (x:=r) (n:=90000) lr
     refine ⟨_,rfl,Zq r,rfl,by rw [Zt,YY];omega,fun t4 H4 s4 et4=>⟨t4,_,rfl,SqT.of et4,rfl,_,_,rfl,_,_,rfl,rfl,?_⟩⟩
     rw [YY] at et4 ⊢
     generalize Zx r=y at lb lt q1 q2 et4 ⊢
     obtain ⟨n0,o2⟩:=y
     dsimp only at lb lt q1 q2 et4 ⊢
     have s4:=s3.trans s4
     refine ⟨_,rfl,some n0,rfl,fun r e=>by cases e;omega,fun H5 s5=>⟨_,rfl,?_⟩⟩
     have s5:=s4.trans s5
     dsimp only
     cases hnm:YO (Zq n0) with
     | false =>
       refine Zu (Zu ⟨_,rfl,_,rfl,Zv (Zv (q1 ?_ H5 s5))⟩)
       cases o2 with
       | none=>rfl
       | some tt=>dsimp only;rw [if_neg (by rw [hnm];decide)]
     | true =>
       refine Zv ⟨_,rfl,_,rfl,?_⟩
       cases o2 with
       | none=>exact Zu ⟨_,rfl,_,rfl,Zv (Zv (q1 rfl H5 s5))⟩
       | some tt =>
         have ltt:=lt tt rfl
         dsimp only at q1 q2
         rw [if_pos hnm] at q1 q2
         refine Zv ⟨_,rfl,Zq tt,rfl,by rw [Zt,YY];omega,fun h H6 s6=>?_,fun v q h t5 H6 s6 et5=>?_⟩
         · rw [YY] at h
           exact ⟨_,rfl,_,rfl,Zv (Zv (q1 (by rw [h]) H6 (s5.trans s6)))⟩
         · rw [YY] at h
           have hql:=ZiG h
           have hqx:(Zq q).length≤100000:=by rw [Zt,YY];omega
           rw [h] at q1 q2
           dsimp only at q1 q2
           have s6:=s5.trans s6
           refine ⟨_,rfl,_,rfl,Zu ?_⟩
           refine ⟨_,rfl,t5,_,_,_,rfl,rfl,SqT.of et5,YB (j:=1) rfl,?_⟩
           dsimp only [XQ]
           refine ⟨_,rfl,Zq q,rfl,Zr hqx,rfl,_,rfl,?_⟩
           by_cases c6:q.head?=some 32
           · rw [decide_eq_true (show V.str (Txt.slice (Zq q) none (some 1))=V.str (Str.ofString " ") by rw [Ux,(Wk (Zq q) 32).mpr c6])]
             have hs:Txt.slice (Zq q) (some 1) none=Zq (q.drop 1):=ZR (by rw [Zbg];rfl)
             refine Zu ⟨_,rfl,t5,_,_,_,rfl,rfl,SqT.of et5,YB (j:=1) rfl,_,rfl,Zq q,rfl,Zr hqx,?_⟩
             rw [hs]
             refine ⟨some (q.drop 1),rfl,fun r e=>by cases e;rw [List.length_drop];omega,fun H7 s7=>⟨_,rfl,?_⟩⟩
             have et7:=s7 _ _ et5
             have s7:=s6.trans s7
             dsimp only
             cases hn2:YO (Zq (q.drop 1)) with
             | false=>exact Zv (q1 (if_neg (by rw [hn2];exact fun z=>nomatch z.2)) H7 s7)
             | true =>
               refine Zu ⟨_,rfl,_,rfl,t5,_,_,_,rfl,rfl,SqT.of et7,YB (j:=0) rfl,_,rfl,t5,_,_,_,rfl,rfl,SqT.of et7,YB (j:=1) rfl,_,rfl,Zq q,rfl,Zr hqx,?_⟩
               rw [hs]
               exact ⟨(by show 4≤sizeLine;decide),fun t ht=>q2 _ (if_pos ⟨c6,hn2⟩) t _ (s7.trans (Zh ht _)) (XE s7 ht) Zb⟩
           · rw [decide_eq_false (show ¬ V.str (Txt.slice (Zq q) none (some 1))=V.str (Str.ofString " ") from fun e=>c6 ((Wk (Zq q) 32).mp (by rw [Ux] at e;injection e)))]
             exact Zv (Zv (q1 (if_neg (fun z=>c6 z.1)) H6 s6))
 · rw [decide_eq_false (show ¬ V.str (Zq a)=V.str "set" from fun z=>c5 (by injection z))]
   refine Zv (Zv (q1 ?_ H3 s3))
   cases o with
   | none=>rfl
   | some r=>dsimp only;rw [if_neg (hno r rfl),if_neg c5]
end
end K70
set_option maxHeartbeats 4000000
namespace K70
open PySem L2
theorem ZaZ {p : Pg}(h:p.ok):p.srow.cps.toList.head?≠some 32:=by
 have hw:∃ c r,p.word.cps.toList=c::r∧c≠32:=by
   cases p with
   | set x v s=>exact ⟨115,[101,116],(show (Str.ofString "set").cps.toList=_ by decide +kernel),by decide⟩
   | look x=>exact ⟨108,[111,111,107],(show (Str.ofString "look").cps.toList=_ by decide +kernel),by decide⟩
   | slot w s => rcases h.1 with rfl | rfl
                 · exact ⟨98,[97,99,107],(show (Str.ofString "back").cps.toList=_ by decide +kernel),by decide⟩
                 · exact ⟨99,[111,112,121],(show (Str.ofString "copy").cps.toList=_ by decide +kernel),by decide⟩
   | pass=>exact ⟨112,[97,115,115],(show (Str.ofString "pass").cps.toList=_ by decide +kernel),by decide⟩
   | blk w ps => rcases h.1 with rfl | rfl
                 · exact ⟨98,[101,103,105,110],(show (Str.ofString "begin").cps.toList=_ by decide +kernel),by decide⟩
                 · exact ⟨108,[97,116,101],(show (Str.ofString "late").cps.toList=_ by decide +kernel),by decide⟩
   | inn s ps=>exact ⟨105,[110],(show (Str.ofString "in").cps.toList=_ by decide +kernel),by decide⟩
 obtain ⟨c,r,e,hc⟩:=hw
 have:∃ r',p.srow.cps.toList=c::r':=by
   unfold Pg.srow
   rw [tj,Ux]
   cases p.ws with
   | nil=>exact ⟨r,e⟩
   | cons a b=>rw [Yi,e];exact ⟨_,rfl⟩
 obtain ⟨r',e'⟩:=this
 rw [e']
 intro z
 exact hc (by simpa using z)
theorem ZfT (p:Nat→Bool)(hp:p 32=true):∀(n:Nat)(l:List Nat),(List.replicate n 32++l).dropWhile p=l.dropWhile p
 | 0,l=>rfl
 | n+1,l=>by rw [List.replicate_succ,List.cons_append,List.dropWhile_cons,if_pos hp];exact ZfT p hp n l
theorem ZaH {r:Str}(l:Nat)(h:r.cps.toList.head?≠some 32):Txt.lstripChars (XA l r) (Str.ofString " ")=r:=by
 apply ZR
 rw [VI,Ux]
 show (List.replicate (2 * l) 32++r.cps.toList).dropWhile _=_
 rw [ZfT _ (by simp)]
 cases e:r.cps.toList with
 | nil=>rfl
 | cons c t =>
   rw [e] at h
   rw [List.dropWhile_cons,if_neg]
   intro z
   have:c=32:=by simpa using z
   exact h (by rw [this];rfl)
theorem UQ (l:Nat)(r:Str):(XA l r).length=2 * l+r.length:=by
 show (List.replicate (2 * l) 32++r.cps.toList).toArray.size=_
 rw [List.size_toArray,List.length_append,List.length_replicate,← Zt]
theorem Zdk {b:Nat}(h:b≤1000):MulOk "  " (b:Int):=by
 refine ⟨?_,fun h1 _=>?_,fun h1 _=>?_⟩
 · rw [Bool.or_eq_false_iff];exact ⟨decide_eq_false (by omega),decide_eq_false (by omega)⟩
 · rw [show (Str.ofString "  ").length=2 by decide +kernel]
   have:(1000:Int)≤(2 ^ 63 - 1) / (b:Int):=by
     rw [Int.le_ediv_iff_mul_le (by omega)]
     omega
   omega
 · rw [show (Str.ofString "  ").length=2 by decide +kernel]
   have:2000≤sizeLine:=by decide
   exact decide_eq_false (by omega)
theorem ZbP:∀(n:Nat)(A:Array Nat),((List.replicate n (#[32,32]:Array Nat)).foldl (·++·) A).toList=A.toList++List.replicate (2 * n) 32
 | 0,A=>by simp
 | n+1,A=>by
   rw [List.replicate_succ,List.foldl_cons,ZbP n,show 2 * (n+1)=2 * n+1+1 by omega]
   simp [List.replicate_succ]
theorem Zhm (b:Nat):(Txt.mul (Str.ofString "  ") (b:Int)).cps.toList=List.replicate (2 * b) 32:=by
 unfold Txt.mul
 match b with
 | 0=>rfl
 | 1=>decide +kernel
 | n+2 =>
   rw [if_neg (by omega),if_neg (by rw [show ((((n+2:Nat)):Int) == 1)=false from decide_eq_false (by omega)];decide +kernel)]
   have:=ZbP (n+2) #[]
   rw [show ((((n+2:Nat)):Int)).toNat=n+2 by omega,show (Str.ofString "  ").cps=#[32,32] by decide +kernel]
   exact this
theorem Ui (l:Nat)(r:Str):Txt.mul (Str.ofString "  ") (l:Int)++r=XA l r:=by
 apply ZR
 rw [Yo,Zhm];rfl
def HdAt (H:Hp)(v:V)(x:Nat×Pg):Prop:=∃ t h,v=.ref t∧H t=some (.tup [.int (x.1:Int),.ref h])∧H h=some (.tup x.2.hv)
theorem HdAt.same {H H':Hp}{v:V}{x:Nat×Pg}(s:Same H H')(h:HdAt H v x):HdAt H' v x:=by
 obtain ⟨t,a,e1,e2,e3⟩:=h;exact ⟨t,a,e1,s _ _ e2,s _ _ e3⟩
theorem HdAt.tf {H H':Hp}{v:V}{x:Nat×Pg}(s:TF H H')(h:HdAt H v x):HdAt H' v x:=by
 obtain ⟨t,a,e1,e2,e3⟩:=h;exact ⟨t,a,e1,s.tup _ _ e2,s.tup _ _ e3⟩
inductive HdL (H:Hp):List V→List (Nat×Pg)→Prop
 | nil:HdL H [] []
 | cons {v x vs xs}:HdAt H v x→HdL H vs xs→HdL H (v::vs) (x::xs)
theorem HdL.tf {H H':Hp}(s:TF H H'):∀{vs xs},HdL H vs xs→HdL H' vs xs
 | _,_,.nil=>.nil
 | _,_,.cons a b=>.cons (a.tf s) (b.tf s)
theorem HdL.app {H:Hp}{v:V}{x:Nat×Pg}:∀{vs xs},HdL H vs xs→HdAt H v x→HdL H (vs++[v]) (xs++[x])
 | _,_,.nil,h=>.cons h .nil
 | _,_,.cons a b,h=>.cons a (b.app h)
theorem HdL.len {H:Hp}:∀{vs xs},HdL H vs xs→vs.length=xs.length
 | _,_,.nil=>rfl
 | _,_,.cons _ b=>by rw [List.length_cons,List.length_cons,b.len]
theorem HdL.at {H:Hp}:∀{vs xs}{i:Nat}{v:V},HdL H vs xs→vs[i]?=some v→∃ x,xs[i]?=some x∧HdAt H v x
 | _,_,_,_,.nil,h=>by simp at h
 | _,_,0,_,.cons a _,h=>by cases h;exact ⟨_,rfl,a⟩
 | _,_,i+1,_,.cons _ b,h=>HdL.at (i:=i) b h
theorem ZcA:∀{hs:List (Nat×Pg)}{i:Nat}{x:Nat×Pg}{m:Nat},hs[i]?=some x→UZ m (hs.drop i)→x.1≤m∧UZ (if x.2.isB=true then x.1+1 else x.1) (hs.drop (i+1)):=by
 intro hs i x m h ho
 obtain ⟨h1,h2⟩:=List.getElem?_eq_some_iff.mp h
 rw [List.drop_eq_getElem_cons h1,h2] at ho
 obtain ⟨l,p⟩:=x
 exact ho
section
variable {P:Program}{w:World}{K:PySem.W.Frag}{mg:Str→Option Value}{base:Heap}{tk:Tok}
def ZiA:Sp:=fun vs H Q _=>∃(a:Addr)(k:Nat)(hs:List (Nat×Pg)),vs=[.ref a,.int (k:Int)]∧k≤1000∧H a=some (.lst ((hs.map Yq).map V.str))∧(∀ x∈hs,x.2.ok∧x.1≤200)∧UZ 0 hs∧hs.length≤1000∧∀ l vs H',Same H H'→H' l=some (.lst vs)→HdL H' vs hs→Q (.ref l) H'
abbrev nHs:List Str:=["rows","first","heads","most","number","row","words","level","head"]
abbrev Zak:List Str:=["rows","first"]
theorem scHs:Zz nHs Zak (Zl s_heads_from):=⟨rfl,rfl,rfl,by decide +kernel,rfl,by decide +kernel,by decide +kernel⟩
theorem Zgo {f:Addr}{fd:FuncData}(F:Fun K "heads_from" "heads_from" s_heads_from f fd)(T:Yk mg)(hFI:mg "FURTHER_IN"=some (.str "  " tk))(DHf:Def P w K mg base 6 "head_from" Zfx ZcW)(DHw:Def P w K mg base 6 "has_within" Zbv VF):FnOk P w K mg base ZY 7 f fd Zak ZiA:=by
 refine F.ok scHs (fun vs H Q E h=>?_) (fun cdv A outer s H vs Q E hr h=>?_)
 · obtain ⟨a,_,_,rfl,_⟩:=h;rfl
 obtain ⟨a,k,hs,rfl,hk,ea,hok,hH,hl,q⟩:=h
 refine' ⟨?t,?h,?r⟩
 case h =>
   conv=>arg 2;whnf
   with_reducible refine' (Zd ?h1 (Zd ?h2 (Zd (Xu ?h3 ?h4 ?h5 ?h6 (Zd ?h7 (Zd ?h8 (Zd ?h9 (Zd (ZS ?h10 (Zi Zjp) ZE) (Zd ?h11 (Zi ?h12)))))) ?h13) (Zi ?h14))))
   case h1=>exact Zw (i:=2) scHs.nd rfl (Or.inl rfl) (Yw Za)
   case h2=>exact Zw (i:=3) scHs.nd rfl (Or.inl rfl) Zf
   case h3=>exact PassesOwn.never
   case h4=>exact rfl
   case h5=>exact Zdn rfl T.enumerate (pv 0) (pv 1)
   case h6=>exact XT rfl (ZQ (ZD (i:=4) scHs.nd rfl (Or.inl rfl)) (ZQ (ZD (i:=5) scHs.nd rfl (Or.inl rfl)) Xi))
   case h7=>exact Zw (i:=6) scHs.nd rfl (Or.inl rfl) (YH PySem.F.plainAttrs_str PySem.F.slot_str_lstrip PySem.F.type_str_lstrip Zca (pv 5) (Zc Zj Za))
   case h8=>exact Zw (i:=7) scHs.nd rfl (Or.inl rfl) (Zk Zat (Zk WM (Zn ZN rfl T.len PySem.boot_len (Zc (pv 5) Za)) (Zn ZN rfl T.len PySem.boot_len (Zc (pv 6) Za))) (Zn ZN rfl T.len PySem.boot_len (Zc (YF rfl hFI (v:=.str "  ") ⟨_,rfl⟩) Za)))
   case h9=>exact Zw (i:=8) scHs.nd rfl (Or.inl rfl) (ZC DHf hr (Zc (pv 6) Za))
   case h10=>exact PW.pt (Xf (XU (Ww (pv 8))) (Xf (ZF Zcr (pv 7) (pv 3) (ZH _)) (XI (ZF XZ (pv 5) (Zk Zs (Zk YM (YF rfl hFI (v:=.str "  ") ⟨_,rfl⟩) (pv 7)) (pv 6)) (ZH _)))))
   case h11=>exact Wl (YH PySem.F.plainAttrs_list PySem.F.slot_list_append PySem.F.type_list_append YX (pv 2) (Zc (Yf (Zc (pv 7) (Zc (pv 8) Za))) Za))
   case h12=>exact Zw (i:=3) scHs.nd rfl (Or.inl rfl) (Yl (Yh (ZC DHw hr (Zc (ZX Xr (pv 8) Zf (fun _ _=>rfl)) Za))) (Zk Yn (pv 7) Zf) (pv 7))
   case h13=>exact fun _=>rfl
   case h14=>exact Zo (pv 2)
 refine ⟨(by show 0≤sizeLine;decide),fun l hl0=>?_⟩
 refine ⟨_,rfl,a,rfl,_,rfl,k,_,rfl,by omega,Zh hl0 _ _ _ ea,?_⟩
 refine ZbZ (k:=k) (xs:=(hs.map Yq).map V.str) (fun i σ H'=>∃ (m:Nat) (vs:List V) (x4 x5 x6 x7 x8:Option V),σ=[some (.ref a),some (.int (k:Int)),some (.ref l),some (.int (m:Int)),x4,x5,x6,x7,x8]∧Same H H'∧H' l=some (.lst vs)∧HdL H' vs (hs.take i)∧UZ m (hs.drop i)) ⟨0,[],_,_,_,_,_,rfl,Zh hl0 _,Zb,.nil,hH⟩ (fun i σ H' _ ⟨_,_,_,_,_,_,_,_,s',_⟩=>SqL.of (s' _ _ ea)) ?_ ?_
 · rintro i x t σ H' hx ht ⟨m,vs,x4,x5,x6,x7,x8,rfl,s',el,hd,ho⟩
   rw [List.getElem?_map,List.getElem?_map] at hx
   obtain ⟨r,er,rfl⟩:=Option.map_eq_some_iff.mp hx
   obtain ⟨y,ey,rfl⟩:=Option.map_eq_some_iff.mp er
   obtain ⟨hp,hlv⟩:=hok y (List.mem_of_getElem? ey)
   have hsl:=Xo hp
   obtain ⟨lv,p⟩:=y
   have hrl:(Yq (lv,p)).length=2 * lv+p.srow.length:=UQ _ _
   have hlv:lv≤200:=hlv
   have hp:p.ok:=hp
   have hsl:p.srow.length≤500:=hsl
   obtain ⟨ho1,ho2⟩:=ZcA ey ho
   have ho1:lv≤m:=ho1
   have hil:i < hs.length:=(List.getElem?_eq_some_iff.mp ey).1
   have s1:=Zh ht (.tup [.int ((i+k:Nat):Int),.str (Yq (lv,p))])
   refine ⟨t,_,rfl,SqT.of Zb,rfl,_,_,rfl,_,_,rfl,rfl,?_⟩
   generalize upd H' t (.tup [.int ((i+k:Nat):Int),.str (Yq (lv,p))])=H1 at s1 ⊢
   refine ⟨_,rfl,rfl,_,_,rfl,rfl,by rw [hrl];omega,?_⟩
   rw [show Txt.lstripChars (Yq (lv,p)) (Str.ofString " ")=p.srow from ZaH lv (ZaZ hp)]
   refine ⟨_,rfl,_,rfl,Zr (show _≤1000 by rw [hrl];omega),_,rfl,_,rfl,Zr (show _≤1000 by omega),_,_,rfl,rfl,_,rfl,(by decide +kernel),_,_,rfl,rfl,(by rw [show (Str.ofString "  ").length=2 by decide +kernel];exact ⟨by decide,by decide⟩),?_⟩
   dsimp only
   rw [show (((Yq (lv,p)).length:Int) - (p.srow.length:Int)) / ((Str.ofString "  ").length:Int)=(lv:Int) by rw [show (Str.ofString "  ").length=2 by decide +kernel,hrl];omega]
   refine ⟨_,rfl,p.srow,rfl,by omega,fun z=>absurd z (by rw [Uo hp];simp),fun hvs z h H2 s2 hh0 eh=>?_⟩
   rw [Uo hp] at z
   cases z
   refine ⟨_,rfl,_,rfl,Zu ?_⟩
   refine ⟨_,rfl,_,rfl,_,_,rfl,rfl,_,rfl,?_⟩
   rw [decide_eq_false (show ¬ ((m:Int) < (lv:Int)) by omega)]
   refine Zu ⟨_,rfl,_,rfl,_,_,rfl,rfl,Zdk (by omega),_,rfl,_,_,rfl,rfl,?_,rfl,_,rfl,?_⟩
   · have e:=congrArg Str.length (Ui lv p.srow)
     rw [Zy,UQ] at e
     exact Zr (show _≤1000 by omega)
   rw [Ui,decide_eq_true (show V.str (Yq (lv,p))=V.str (XA lv p.srow) from rfl)]
   refine Zu ?_
   refine ⟨_,rfl,.inl ⟨rfl,_,SqL.of (s2 _ _ (s1 _ _ el))⟩,_,rfl,_,rfl,(by show 2≤sizeLine;decide),fun pt hpt=>?_⟩
   dsimp only [XL]
   have s3:=Zh hpt (.tup [.int (lv:Int),.ref h])
   have ept:upd H2 pt (.tup [.int (lv:Int),.ref h]) pt=_:=Zb
   have el2:=s3 _ _ (s2 _ _ (s1 _ _ el))
   have eh2:=s3 _ _ eh
   have hd2:=hd.tf ((s1.trans s2).trans s3).tf
   have s03:Same H _:=((s'.trans s1).trans s2).trans s3
   generalize upd H2 pt (.tup [.int (lv:Int),.ref h])=H3 at s03 ept el2 eh2 hd2 ⊢
   have hvl:=hd2.len
   refine ⟨l,_,_,rfl,rfl,el2,Uu (show _≤1000 by rw [hvl,List.length_take];omega),?_⟩
   have t4:TF H3 (upd H3 l (.lst (vs++[.ref pt]))):=Zgt el2
   have s4:Same H (upd H3 l (.lst (vs++[.ref pt]))):=Us s03 hl0
   have el4:upd H3 l (.lst (vs++[.ref pt])) l=_:=Zb
   generalize upd H3 l (.lst (vs++[.ref pt]))=H4 at t4 s4 el4 ⊢
   have hd4:HdL H4 (vs++[.ref pt]) (hs.take (i+1)):=by
     rw [List.take_add_one,ey]
     exact (hd2.tf t4).app ⟨pt,h,rfl,t4.tup _ _ ept,t4.tup _ _ eh2⟩
   refine ⟨_,rfl,h,_,_,_,rfl,rfl,SqT.of (t4.tup _ _ eh2),YB (j:=0) rfl,p.word,p.isB,rfl,VU hp,_,rfl,?_⟩
   cases hb:p.isB with
   | true =>
     rw [if_pos hb] at ho2
     exact Zv ⟨_,rfl,_,_,rfl,rfl,lv+1,_,_,_,_,_,_,rfl,s4,el4,hd4,ho2⟩
   | false =>
     rw [if_neg (by rw [hb];decide)] at ho2
     exact Zu ⟨_,rfl,lv,_,_,_,_,_,_,rfl,s4,el4,hd4,ho2⟩
 · rintro σ H' ⟨m,vs,x4,x5,x6,x7,x8,rfl,s',el,hd,ho⟩
   rw [List.length_map,List.length_map,List.take_length] at hd
   exact ⟨_,rfl,q l vs H' s' el hd⟩
end
end K70
set_option maxHeartbeats 4000000
namespace K70
open PySem L2
theorem ZbQ {κ:Type}[DecidableEq κ](k j:κ):∀ kvs:List (κ×V),Yr (XC kvs k) j=if j=k then none else Yr kvs j
 | []=>by split<;>rfl
 | p :: r=>by
   have ih:=ZbQ k j r
   by_cases hp:p.1=k
   · have e:XC (p::r) k=XC r k:=by simp [XC,hp]
     rw [e,ih]
     by_cases hj:j=k
     · rw [if_pos hj,if_pos hj]
     · rw [if_neg hj,if_neg hj,YE (by rw [hp];exact fun z=>hj z.symm)]
   · have e:XC (p::r) k=p::XC r k:=by simp [XC,hp]
     rw [e]
     by_cases hj:p.1=j
     · rw [YJ hj,YJ hj,if_neg (by rw [← hj];exact hp)]
     · rw [YE hj,YE hj,ih]
theorem Zkb {κ:Type}[DecidableEq κ](kvs:List (κ×V))(k:κ)(v:V):(Wc kvs k v).length≤kvs.length+1:=by
 unfold Wc;split<;>simp
theorem Zie {κ:Type}[DecidableEq κ](kvs:List (κ×V))(k:κ):(XC kvs k).length≤kvs.length:=List.length_filter_le _ _
abbrev kI (n:Nat):Yb:=.inl (n:Int)
theorem kI_inj {a b:Nat}:kI a=kI b↔a=b:=by
 constructor
 · intro h;injection h with h;omega
 · rintro rfl;rfl
def LvAt (K:PySem.W.Frag)(H:Hp)(d:Addr)(o:Option V)(ps:List Pg):Prop:=match o with
 | none=>ps=[]
 | some v=>∃ a xs,v=.ref a∧a≠d∧H a=some (.lst xs)∧DatTs K H xs (Pg.dats ps)
theorem LvAt.same {K:PySem.W.Frag}{H H':Hp}{d:Addr}{o:Option V}{ps:List Pg}(s:Same H H')(h:LvAt K H d o ps):LvAt K H' d o ps:=by
 cases o with
 | none=>exact h
 | some v=>obtain ⟨a,xs,e1,e2,e3,e5⟩:=h;exact ⟨a,xs,e1,e2,s _ _ e3,e5.same s⟩
theorem LvAt.upd {K:PySem.W.Frag}{H:Hp}{d:Addr}{kvs:List (Yb×V)}{o:Option V}{ps:List Pg}{u:HO}(e:H d=some (.dK kvs))(h:LvAt K H d o ps):LvAt K (upd H d u) d o ps:=by
 cases o with
 | none=>exact h
 | some v=>obtain ⟨a,xs,e1,e2,e3,e5⟩:=h;exact ⟨a,xs,e1,e2,by rw [Zm e2];exact e3,e5.tf (UV e)⟩
theorem ZaT {K:PySem.W.Frag}{H:Hp}{p:Pg}(hp:p.ok)(hb:p.isB=false){a:Addr}(h:SqT K H a p.hv):DatT K H (.ref a) p.dat:=by
 have vv:∀ v,IsVal v→DatT K H v (Ve v):=fun v hv=>by
   cases v with
   | int i=>exact .int i
   | str x=>exact .str x
   | _=>exact hv.elim
 cases p with
 | set x v s=>exact .tup h (.cons (.str _) (.cons (.str _) (.cons (vv v hp.2.1) (.cons (.str _) .nil))))
 | look x=>exact .tup h (.cons (.str _) (.cons (.str _) .nil))
 | slot w s=>exact .tup h (.cons (.str _) (.cons (.str _) .nil))
 | pass=>exact .tup h (.cons (.str _) .nil)
 | blk w ps=>cases hb
 | inn s ps=>cases hb
theorem Zkk {K:PySem.W.Frag}{H:Hp}{p:Pg}(hb:p.isB=true){a t:Addr}{xs:List V}(h:SqT K H a (p.hv++[.ref t]))(ht:SqT K H t xs)(hd:DatTs K H xs (Pg.dats p.inner)):DatT K H (.ref a) p.dat:=by
 cases p with
 | set x v s=>cases hb
 | look x=>cases hb
 | slot w s=>cases hb
 | pass=>cases hb
 | blk w ps=>exact .tup h (.cons (.str _) (.cons (.tup ht hd) .nil))
 | inn s ps=>exact .tup h (.cons (.str _) (.cons (.str _) (.cons (.tup ht hd) .nil)))
theorem Zeb:∀{hs:List (Nat×Pg)}{i:Nat},Wf hs→Wf (hs.drop i)
 | hs,0,h=>h
 | [],i+1,h=>h
 | (l,p)::r,i+1,h=>Zeb (hs:=r) (i:=i) h.2
theorem ZcI:∀(S:List (Nat×Pg))(k:Nat),(Dm S k).length≤S.length
 | [],_=>Nat.le_refl _
 | (l,p)::r,k=>by
   have h1:=ZcI r l
   have h2:=ZcI r k
   rw [Dm]
   split
   · rw [List.length_cons,List.length_cons];omega
   · split
     · exact Nat.zero_le _
     · rw [List.length_cons];omega
theorem ZfM {K:PySem.W.Frag}{H:Hp}{d:Addr}{kvs:List (Yb×V)}{M:Nat→List Pg}{σ:St}{i:Nat}{ty:TE}{k:Nat}{Q:VK}(h1:σ[i]?=some (some (.ref d)))(hy:∀ H' R,R (.int (k:Int)) H'→ty σ H' R)(e:H d=some (.dK kvs))(hM:∀ k,LvAt K H d (Yr kvs (kI k)) (M k))
   (q:∀ b xs H2,Same H H2→b≠d→H2 b=some (.lst xs)→DatTs K H2 xs (Pg.dats (M k))→Q (.ref b) H2):Zgr (Vm i) ty (ZiC XL) σ H Q:=by
 refine ⟨_,h1,d,rfl,.inl ⟨_,.inl e⟩,hy _ _ ⟨(by show 0≤sizeLine;decide),fun l hl=>?_⟩⟩
 have s1:=Zh hl (.lst [])
 refine ⟨Yr kvs (kI k),.inl ⟨kvs,kI k,.inl (s1 _ _ e),rfl,rfl⟩,?_⟩
 have hk:=hM k
 cases ev:Yr kvs (kI k) with
 | none =>
   rw [ev] at hk
   have hk:M k=[]:=hk
   exact q l [] _ s1 (fun z=>by rw [z,e] at hl;cases hl) Zb (by rw [hk];exact .nil)
 | some v =>
   rw [ev] at hk
   obtain ⟨b,xs,rfl,e2,e3,e5⟩:=hk
   exact q b xs _ s1 e2 (s1 _ _ e3) (e5.same s1)
theorem Zmd {K:PySem.W.Frag}{H:Hp}{d:Addr}{kvs:List (Yb×V)}{M:Nat→List Pg}{σ:St}{i:Nat}{ty:TE}{k n:Nat}{Q:VK}(h1:σ[i]?=some (some (.ref d)))(hy:∀ H' R,R (.int (k:Int)) H'→ty σ H' R)(e:H d=some (.dK kvs))(hn:kvs.length≤n)(hM:∀ k,LvAt K H d (Yr kvs (kI k)) (M k))
   (q:∀ b xs kvs' H2,TF H H2→(∀ c o,c≠d→H c=some o→H2 c=some o)→H2 d=some (.dK kvs')→kvs'.length≤n→(∀ j,LvAt K H2 d (Yr kvs' (kI j)) (if j=k then [] else M j))→b≠d→H2 b=some (.lst xs)→DatTs K H2 xs (Pg.dats (M k))→Q (.ref b) H2):Zhl (Vm i) ty (ZiC XL) σ H Q:=by
 refine ⟨_,h1,d,rfl,.inl ⟨_,.inl e⟩,hy _ _ ⟨(by show 0≤sizeLine;decide),fun l hl=>?_⟩⟩
 have s1:=Zh hl (.lst [])
 have hl1:upd H l (.lst []) l=some (.lst []):=Zb
 have hld:l≠d:=fun z=>by rw [z,e] at hl;cases hl
 have e1:=s1 _ _ e
 generalize upd H l (.lst [])=H1 at s1 hl1 e1 ⊢
 have hk:=hM k
 refine ⟨kvs,kI k,e1,rfl,fun v ev=>?_,fun ev=>?_⟩
 · rw [ev] at hk
   obtain ⟨b,xs,rfl,e2,e3,e5⟩:=hk
   refine q b xs (XC kvs (kI k)) _ (s1.tf.trans (UV e1)) (fun c o hc z=>by rw [Zm hc];exact s1 _ _ z) Zb (Nat.le_trans (Zie _ _) hn) (fun j=>?_) e2 (by rw [Zm e2];exact s1 _ _ e3) (e5.tf (s1.tf.trans (UV e1)))
   rw [ZbQ]
   by_cases c:j=k
   · rw [if_pos (by rw [c]),if_pos c];rfl
   · rw [if_neg (fun z=>c (kI_inj.mp z)),if_neg c]
     exact ((hM j).same s1).upd e1
 · rw [ev] at hk
   have hk:M k=[]:=hk
   refine q l [] kvs H1 s1.tf (fun c o hc z=>s1 _ _ z) e1 hn (fun j=>?_) hld hl1 (by rw [hk];exact .nil)
   by_cases c:j=k
   · rw [if_pos c,c,ev];rfl
   · rw [if_neg c];exact (hM j).same s1
section
variable {P:Program}{w:World}{K:PySem.W.Frag}{mg:Str→Option Value}{base:Heap}{tk:Tok}
def ZhU (K:PySem.W.Frag):Sp:=fun vs H Q _=>∃(a:Addr)(us:List V)(ps:List Pg),vs=[.ref a]∧H a=some (.lst us)∧HdL H us (Yv 0 ps)∧Pg.oks ps∧Pg.manys ps≤1000∧∀ t H',Same H H'→DatT K H' t (.tuple (Pg.dats ps))→Q t H'
abbrev nPo:List Str:=["heads","steps_at","level","head","step"]
abbrev ZfA:List Str:=["heads"]
theorem scPo:Zz nPo ZfA (Zl s_program_of):=⟨rfl,rfl,rfl,by decide +kernel,rfl,by decide +kernel,by decide +kernel⟩
theorem ZfS {f:Addr}{fd:FuncData}(F:Fun K "program_of" "program_of" s_program_of f fd)(T:Yk mg)(DHw:Def P w K mg base 2 "has_within" Zbv VF):FnOk P w K mg base ZY 3 f fd ZfA (ZhU K):=by
 refine F.ok scPo (fun vs H Q E h=>?_) (fun cdv A outer s H vs Q E hr h=>?_)
 · obtain ⟨a,_,_,rfl,_⟩:=h;rfl
 obtain ⟨a,us,ps,rfl,ea,hd,ho,hm,q⟩:=h
 refine' ⟨?t,?h,?r⟩
 case h =>
   conv=>arg 2;whnf
   with_reducible refine' (Zd ?h1 (Zd (Xu ?h2 ?h3 ?h4 ?h5 (Zd ?h6 (Wh (ZS ?h7 (Zi ?h8) ZE) (Zi ?h9))) ?h10) (Zi ?h11)))
   case h1=>exact Zw (i:=1) scPo.nd rfl (Or.inl rfl) Zjc
   case h2=>exact PassesOwn.never
   case h3=>exact rfl
   case h4=>exact Zbs (Zkr (pv 0))
   case h5=>exact XT rfl (ZQ (ZD (i:=2) scPo.nd rfl (Or.inl rfl)) (ZQ (ZD (i:=3) scPo.nd rfl (Or.inl rfl)) Xi))
   case h6=>exact Zw (i:=4) scPo.nd rfl (Or.inl rfl) (pv 3)
   case h7=>exact Yh (ZC DHw hr (Zc (ZX Xr (pv 3) Zf (fun _ _=>rfl)) Za))
   case h8=>exact Zw (i:=4) scPo.nd rfl (Or.inl rfl) (Zk ZdU (pv 3) (Yf (Zc (YA WY rfl T.tuple (by decide +kernel) (Zc (ZhW (pv 1) (Zk Yn (pv 2) Zf) (Yw Za) ⟨rfl,rfl,rfl,rfl⟩) Za)) Za)))
   case h9=>exact Zke (Zfm hr) (pv 1) (pv 2) (Zk UR (Yw (Zc (pv 4) Za)) (Zdh (Zfm hr) (pv 1) (pv 2) (Yw Za) ⟨rfl,rfl,rfl,rfl⟩)) rfl
   case h10=>exact fun _=>rfl
   case h11=>exact Zo (YA WY rfl T.tuple (by decide +kernel) (Zc (Zdh (Zfm hr) (pv 1) Zf (Yw Za) ⟨rfl,rfl,rfl,rfl⟩) Za))
 obtain ⟨pd1,pd2,_⟩:=ZdZ ps
 have hlen:(Yv 0 ps).length≤1000:=by rw [Zdv];exact hm
 have hall:=WF ps 0 ho
 generalize Yv 0 ps=hs at hd pd1 pd2 hlen hall
 have hul:=hd.len
 intro d hd0
 have hed:upd H d (.dK []) d=some (.dK []):=Zb
 have sd:=Zh hd0 (.dK [])
 refine ⟨_,rfl,a,us,rfl,SqL.of (sd _ _ ea),fun rv hrv0=>?_⟩
 refine ⟨rv,rfl,⟨_,SqL.of Zb⟩,?_⟩
 have srv:=Zh hrv0 (.lst us.reverse)
 have hrd:rv≠d:=fun z=>by rw [z,hed] at hrv0;cases hrv0
 refine ZcX (xs:=us.reverse) (fun i σ H'=>∃ (x2 x3 x4:Option V) (kvs:List (Yb×V)),σ=[some (.ref a),some (.ref d),x2,x3,x4]∧Same H H'∧H' rv=some (.lst us.reverse)∧H' d=some (.dK kvs)∧kvs.length≤i∧∀ k,LvAt K H' d (Yr kvs (kI k)) (Dm (hs.drop (hs.length - i)) k)) ⟨_,_,_,[],rfl,sd.trans srv,Zb,srv _ _ hed,Nat.le_refl _,fun k=>by rw [Nat.sub_zero,List.drop_length];rfl⟩ (fun i σ H' _ ⟨_,_,_,_,_,_,e,_⟩=>SqL.of e) ?_ ?_
 · rintro i v σ H' hv ⟨x2,x3,x4,kvs,rfl,s',erv,ed,hkl,hM⟩
   have hi:i < us.length:=by have:=(List.getElem?_eq_some_iff.mp hv).1;rwa [List.length_reverse] at this
   rw [List.getElem?_reverse hi] at hv
   obtain ⟨x,ex,t,h,rfl,et,eh⟩:=hd.at hv
   obtain ⟨lv,p⟩:=x
   obtain ⟨hp,_⟩:=hall _ (List.mem_of_getElem? ex)
   have hp:p.ok:=hp
   have hdrop:hs.drop (hs.length - (i+1))=(lv,p)::hs.drop (hs.length - i):=by
     obtain ⟨z1,z2⟩:=List.getElem?_eq_some_iff.mp ex
     rw [show hs.length - (i+1)=us.length - 1 - i by omega,List.drop_eq_getElem_cons z1,z2,show us.length - 1 - i+1=hs.length - i by omega]
   have hW:=Zeb (i:=hs.length - (i+1)) pd2
   rw [hdrop] at hW
   have hlS:(hs.drop (hs.length - i)).length≤1000:=by rw [List.length_drop];omega
   refine ⟨t,_,rfl,SqT.of (s' _ _ et),rfl,_,_,rfl,_,_,rfl,rfl,_,rfl,?_⟩
   rw [hdrop]
   generalize hs.drop (hs.length - i)=S at hM hW hlS
   refine ⟨fun σ H2=>∃ (st:Addr) (kvs:List (Yb×V)),σ=[some (.ref a),some (.ref d),some (.int (lv:Int)),some (.ref h),some (.ref st)]∧Same H H2∧H2 rv=some (.lst us.reverse)∧H2 d=some (.dK kvs)∧kvs.length≤i∧(∀ k,LvAt K H2 d (Yr kvs (kI k)) (if k=lv+1∧p.isB=true then [] else Dm S k))∧DatT K H2 (.ref st) p.dat,?_,?_⟩
   · refine ⟨_,rfl,h,_,_,_,rfl,rfl,SqT.of (s' _ _ eh),YB (j:=0) rfl,p.word,p.isB,rfl,VU hp,_,rfl,?_⟩
     cases hb:p.isB with
     | false =>
       refine Zu ⟨h,kvs,rfl,s',erv,ed,hkl,fun k=>?_,ZaT hp hb (SqT.of (s' _ _ eh))⟩
       rw [if_neg (fun z=>nomatch z.2)];exact hM k
     | true =>
       refine Zv ⟨_,rfl,?_⟩
       refine Zmd (k:=lv+1) (n:=i) rfl (fun H' R r=>⟨_,rfl,_,_,rfl,rfl,r⟩) ed hkl hM fun b xs kvs' H2 tf keep ed2 hn2 hM2 hbd eb hdat=>?_
       have s2:Same H H2:=fun c o e=>keep c o (fun z=>by rw [z,hd0] at e;cases e) (s' _ _ e)
       rw [hW.1 hb] at hdat
       dsimp only [XL]
       refine ⟨b,xs,rfl,.inl ⟨SqL.of eb,fun l1 hl1=>⟨(by show 1≤sizeLine;decide),fun p2 hp2=>?_⟩⟩⟩
       have s3:=(Zh hl1 (.tup xs)).trans (Zh hp2 (.tup [.ref l1]))
       have el1:=Zh hp2 (.tup [.ref l1]) l1 _ (show upd H2 l1 (.tup xs) l1=_ from Zb)
       have ep2:upd (upd H2 l1 (.tup xs)) p2 (.tup [.ref l1]) p2=_:=Zb
       generalize upd (upd H2 l1 (.tup xs)) p2 (.tup [.ref l1])=H3 at s3 el1 ep2 ⊢
       have eh3:=s3 _ _ (tf.tup _ _ (s' _ _ eh))
       refine ⟨h,p2,p.hv,[.ref l1],rfl,rfl,SqT.of eh3,SqT.of ep2,by unfold Pg.hv;simp,?_,fun z=>(nomatch z),fun _ p3 hp3=>?_⟩
       · exact Zr (show _≤100 by unfold Pg.hv;cases p<;>simp [Pg.vl])
       have s4:=Zh hp3 (.tup (p.hv++[.ref l1]))
       have s34:=s3.trans s4
       refine ⟨p3,kvs',rfl,s2.trans s34,s34 _ _ (keep _ _ hrd erv),s34 _ _ ed2,hn2,fun k=>?_,Zkk hb (SqT.of Zb) (SqT.of (s4 _ _ el1)) (hdat.same s34)⟩
       have:=(hM2 k).same s34
       by_cases c:k=lv+1
       · rw [if_pos c] at this;rw [if_pos ⟨c,rfl⟩];exact this
       · rw [if_neg c] at this;rw [if_neg (fun z=>c z.1)];exact this
   · rintro σ H2 ⟨st,kvs,rfl,s2,erv2,ed2,hkl2,hM2,hst⟩
     refine ⟨_,rfl,(by show 1≤sizeLine;decide),fun l1 hl1=>?_⟩
     have s3:=Zh hl1 (.lst [.ref st])
     have el1:upd H2 l1 (.lst [.ref st]) l1=_:=Zb
     have ed3:=s3 _ _ ed2
     have hM3:=fun k=>(hM2 k).same s3
     generalize upd H2 l1 (.lst [.ref st])=H3 at s3 el1 ed3 hM3 ⊢
     refine ZfM (k:=lv) rfl (fun H' R r=>⟨_,rfl,r⟩) ed3 hM3 fun b xs H4 s4 hbd eb hdat=>?_
     have hml:=ZcI S lv
     rw [if_neg (fun z=>absurd z.1 (by omega))] at hdat
     have hxl:xs.length≤1000:=by rw [hdat.pgs];omega
     refine ⟨l1,b,_,_,rfl,rfl,s4 _ _ el1,eb,Zr (show _≤1001 by rw [List.length_singleton];omega),fun l2 hl2=>?_⟩
     have s5:=Zh hl2 (.lst ([.ref st]++xs))
     have el2:upd H4 l2 (.lst ([.ref st]++xs)) l2=_:=Zb
     have ed5:=s5 _ _ (s4 _ _ ed3)
     have hl2d:l2≠d:=fun z=>by have ed4:=s4 _ _ ed3;rw [z,ed4] at hl2;cases hl2
     have s25:=(s3.trans s4).trans s5
     generalize upd H4 l2 (.lst ([.ref st]++xs))=H5 at s5 el2 ed5 s25 ⊢
     refine ⟨_,rfl,_,rfl,d,_,rfl,.inl ⟨kvs,kI lv,ed5,rfl,Uu (show _≤1000 by omega),rfl⟩,?_⟩
     refine ⟨_,_,_,Wc kvs (kI lv) (.ref l2),rfl,fun c o e=>?_,?_,Zb,?_,fun k=>?_⟩
     · rw [Zm (fun z=>by rw [z,hd0] at e;cases e)];exact s25 _ _ (s2 _ _ e)
     · rw [Zm hrd];exact s25 _ _ erv2
     · have:=Zkb kvs (kI lv) (.ref l2);omega
     · rw [ZiJ]
       by_cases c:k=lv
       · rw [if_pos (by rw [c]),c]
         show LvAt K _ d (some (.ref l2)) (if lv=lv then p::Dm S lv else _)
         rw [if_pos rfl]
         exact ⟨l2,_,rfl,hl2d,by rw [Zm hl2d];exact el2,.cons ((hst.same s25).tf (UV ed5)) ((hdat.same s5).tf (UV ed5))⟩
       · rw [if_neg (fun z=>c (kI_inj.mp z))]
         show LvAt K _ d _ (if k=lv then _ else if k=lv+1∧p.isB=true then [] else Dm S k)
         rw [if_neg c]
         exact ((hM2 k).same s25).upd ed5
 · rintro σ H' ⟨x2,x3,x4,kvs,rfl,s',erv,ed,hkl,hM⟩
   rw [List.length_reverse,hul,Nat.sub_self,List.drop_zero] at hM
   dsimp only [ZhP,tCB,Xa]
   refine ZfM (i:=1) (σ:=[some (.ref a),some (.ref d),x2,x3,x4]) (k:=0) (ty:=tC (.int 0)) rfl (fun H' R r=>r) ed hM fun b xs H2 s2 hbd eb hdat=>?_
   rw [pd1] at hdat
   dsimp only [XL]
   exact ⟨b,xs,rfl,.inl ⟨SqL.of eb,fun l1 hl1=>q _ _ ((s'.trans s2).trans (Zh hl1 _)) (.tup (SqT.of Zb) (hdat.same (Zh hl1 _)))⟩⟩
end
end K70
set_option maxHeartbeats 4000000
namespace K70
open PySem L2
theorem UN {x:Str}(h:Yg x):x.cps.toList.all Yd=true:=(Zil h).2
theorem Zhh:∀ l:List Nat,l.all Yd=true→(YD l).all Yd=true
 | [],_=>rfl
 | k :: r,h=>by
   rw [List.all_cons,Bool.and_eq_true] at h
   have ih:=Zhh r h.2
   have e:YD (k::r)=(if k=39∨k=92 then [92,k] else [k])++YD r:=rfl
   rw [e,List.all_append,ih,Bool.and_true]
   split
   · rename_i hk
     rcases hk with rfl | rfl<;>decide
   · simp [h.1]
theorem Zeh {v:V}(h:IsVal v):(ZP v).cps.toList.all Yd=true:=by
 cases v with
 | int i =>
   rw [List.all_eq_true]
   intro c hc
   have:=Zhc (show c∈(Str.ofString (toString i)).cps.toList from hc)
   unfold Yd
   simp only [Bool.and_eq_true,decide_eq_true_eq]
   omega
 | str x =>
   show (39::YD x.cps.toList++[39]).all Yd=true
   rw [List.all_append,List.all_cons,Zhh _ h.2];rfl
 | _=>exact h.elim
theorem Zec:∀ L:List Str,(∀ x∈L,x.cps.toList.all Yd=true)→(Str.join ⟨#[32]⟩ L).cps.toList.all Yd=true
 | [],_=>rfl
 | [x],h=>h x (List.mem_cons_self ..)
 | x::y::r,h=>by
   rw [Yi,List.all_append,List.all_cons,h x (List.mem_cons_self ..),Zec (y::r) fun z hz=>h z (List.mem_cons_of_mem _ hz)];rfl
theorem Zks {p : Pg}(h:p.ok):p.srow.cps.toList.all Yd=true:=by
 unfold Pg.srow
 rw [tj,Ux]
 refine Zec _ fun x hx=>?_
 rcases List.mem_cons.mp hx with rfl | hx
 · cases p with
   | set x v s=>exact (show (Str.ofString "set").cps.toList.all Yd=true by decide +kernel)
   | look x=>exact (show (Str.ofString "look").cps.toList.all Yd=true by decide +kernel)
   | slot w s => rcases h.1 with rfl | rfl
                 · exact (show (Str.ofString "back").cps.toList.all Yd=true by decide +kernel)
                 · exact (show (Str.ofString "copy").cps.toList.all Yd=true by decide +kernel)
   | pass=>exact (show (Str.ofString "pass").cps.toList.all Yd=true by decide +kernel)
   | blk w ps => rcases h.1 with rfl | rfl
                 · exact (show (Str.ofString "begin").cps.toList.all Yd=true by decide +kernel)
                 · exact (show (Str.ofString "late").cps.toList.all Yd=true by decide +kernel)
   | inn s ps=>exact (show (Str.ofString "in").cps.toList.all Yd=true by decide +kernel)
 · cases p with
   | set y v s =>
     simp only [Pg.ws,List.mem_cons,List.not_mem_nil,or_false] at hx
     rcases hx with rfl | rfl | rfl
     · exact UN h.1
     · exact Zeh h.2.1
     · exact UN h.2.2
   | look y=>simp only [Pg.ws,List.mem_cons,List.not_mem_nil,or_false] at hx;rw [hx];exact UN h
   | slot w s=>simp only [Pg.ws,List.mem_cons,List.not_mem_nil,or_false] at hx;rw [hx];exact UN h.2
   | pass=>exact (nomatch hx)
   | blk w ps=>exact (nomatch hx)
   | inn s ps=>simp only [Pg.ws,List.mem_cons,List.not_mem_nil,or_false] at hx;rw [hx];exact UN h.1
theorem Zjf {ps:List Pg}(h:Pg.oks ps):∀ r∈ZU ps,(10:Nat) ∉ r.cps.toList:=by
 intro r hr hc
 rw [Ul] at hr
 obtain ⟨⟨l,p⟩,hx,rfl⟩:=List.mem_map.mp hr
 have hp:=(WF ps 0 h _ hx).1
 rcases List.mem_append.mp (show (10:Nat)∈List.replicate (2 * l) 32++p.srow.cps.toList from hc) with hc | hc
 · have:=List.eq_of_mem_replicate hc;omega
 · have:=List.all_eq_true.mp (Zks hp) 10 hc
   exact absurd this (by decide)
theorem ZbL {p:Pg}{ps:List Pg}(h:Pg.oks (p::ps)):Txt.split (WU (p::ps)) (Str.ofString "\n")=ZU (p::ps):=by
 unfold WU
 rw [tj,lf1]
 refine Vo (fun e=>?_) (Zjf h)
 have:=congrArg List.length e
 rw [Xp,List.length_nil] at this
 have h2:=Pg.many_pos p
 have:p.many+Pg.manys ps=0:=this
 omega
theorem ZkJ {p : Pg}{ps:List Pg}(h:Pg.oks (p::ps)):(WU (p::ps)).length≠0:=fun e=>by
 have hs:=ZbL h
 have e0:(WU (p::ps)).cps.toList=[]:=List.eq_nil_of_length_eq_zero (by rw [← Zt];exact e)
 have e1:ZU (p::ps)=[WU (p::ps)]:=by rw [← hs,lf1];exact UC (by rw [e0];simp)
 have e2:p.srow∈ZU (p::ps):=by
   show p.srow∈UO p++ZU ps
   rw [Xj];exact List.mem_append_left _ (List.mem_cons_self ..)
 rw [e1] at e2
 have e3:=List.mem_singleton.mp e2
 have hw:p.srow.cps.toList=[]:=by rw [e3];exact e0
 have hj:=congrArg List.length hw
 unfold Pg.srow at hj
 rw [tj,Ux] at hj
 have hwn:p.word.cps.toList≠[]:=by
   have h1:=h.1
   cases p with
   | set x v s=>exact (show (Str.ofString "set").cps.toList≠[] by decide +kernel)
   | look x=>exact (show (Str.ofString "look").cps.toList≠[] by decide +kernel)
   | slot w s => rcases h1.1 with rfl | rfl
                 · exact (show (Str.ofString "back").cps.toList≠[] by decide +kernel)
                 · exact (show (Str.ofString "copy").cps.toList≠[] by decide +kernel)
   | pass=>exact (show (Str.ofString "pass").cps.toList≠[] by decide +kernel)
   | blk w ps => rcases h1.1 with rfl | rfl
                 · exact (show (Str.ofString "begin").cps.toList≠[] by decide +kernel)
                 · exact (show (Str.ofString "late").cps.toList≠[] by decide +kernel)
   | inn s ps=>exact (show (Str.ofString "in").cps.toList≠[] by decide +kernel)
 cases hws:p.ws with
 | nil=>rw [hws] at hj;exact hwn (List.eq_nil_of_length_eq_zero hj)
 | cons a b=>rw [hws,Yi] at hj;simp at hj
section
variable {P:Program}{w:World}{K:PySem.W.Frag}{mg:Str→Option Value}{base:Heap}{tk:Tok}
def Ziu (K:PySem.W.Frag):Sp:=fun vs H Q _=>∃ ps:List Pg,vs=[.str (WU ps)]∧Pg.oks ps∧Pg.hgts ps≤100∧Pg.manys ps≤1000∧∀ t H',Same H H'→DatT K H' t (.tuple (Pg.dats ps))→Q t H'
abbrev nPm:List Str:=["text","rows"]
abbrev VC:List Str:=["text"]
theorem scPm:Zz nPm VC (Zl s_program_from):=⟨rfl,rfl,rfl,by decide +kernel,rfl,by decide +kernel,by decide +kernel⟩
theorem Zdz {f:Addr}{fd:FuncData}(F:Fun K "program_from" "program_from" s_program_from f fd)(T:Yk mg)(DHs:Def P w K mg base 7 "heads_from" Zak ZiA)(DPo:Def P w K mg base 7 "program_of" ZfA (ZhU K)):FnOk P w K mg base ZY 8 f fd VC (Ziu K):=by
 refine F.ok scPm (fun vs H Q E h=>?_) (fun cdv A outer s H vs Q E hr h=>?_)
 · obtain ⟨ps,rfl,_⟩:=h;rfl
 obtain ⟨ps,rfl,ho,hh,hm,q⟩:=h
 refine' ⟨?t,?h,?r⟩
 case h =>
   conv=>arg 2;whnf
   with_reducible refine' (Wh ?h1 (Zi ?h2))
   case h1=>exact Zw (i:=1) scPm.nd rfl (Or.inl rfl) (Yl (ZcF (pv 0) (fun _=>rfl)) (YH PySem.F.plainAttrs_str PySem.F.slot_str_split PySem.F.type_str_split Zav (pv 0) (Zc Zj Za)) (Yw Za))
   case h2=>exact Zo (ZC DPo hr (Zc (ZC DHs hr (Zc (pv 1) (Zc Zf Za))) Za))
 obtain ⟨_,_,pok⟩:=ZdZ ps
 have hall:=WF ps 0 ho
 have hlen:(Yv 0 ps).length≤1000:=by rw [Zdv];exact hm
 have hbd:=Zdl ho hh hm
 have htl:(WU ps).length≤16777216:=by
   unfold WU
   rw [tj]
   exact Nat.le_trans (WR _ _) hbd
 refine ⟨fun σ H'=>∃ l,σ=[some (.str (WU ps)),some (.ref l)]∧Same H H'∧H' l=some (.lst (((Yv 0 ps).map Yq).map V.str)),?_,?_⟩
 · cases ps with
   | nil =>
     exact ⟨_,rfl,_,⟨(by decide +kernel),rfl⟩,VH (by decide +kernel) ⟨(by show 0≤sizeLine;decide),fun l hl=>⟨l,rfl,Zh hl _,Zb⟩⟩⟩
   | cons p ps =>
     have hpos:=ZkJ ho
     refine ⟨_,rfl,_,⟨Nat.le_trans htl (by decide),rfl⟩,ifT (by simpa using hpos) ⟨_,rfl,rfl,_,_,rfl,rfl,(by decide +kernel),?_,fun l hl=>?_⟩⟩
     · have h7:=ZaI (n:=700) (ZU (p::ps)) (fun y hy=>by have:=WG ho y hy;omega)
       have h8:=WR (Str.ofString "\n") (ZU (p::ps))
       rw [Xp] at h7 h8
       rw [show (Str.ofString "\n").length=1 by decide +kernel] at h8
       unfold WU
       rw [tj]
       omega
     · rw [ZbL ho,Ul]
       exact ⟨l,rfl,Zh hl _,Zb⟩
 · rintro σ H1 ⟨l,rfl,s1,el⟩
   refine ⟨_,rfl,l,0,Yv 0 ps,rfl,by omega,el,fun x hx=>?_,pok,hlen,fun l2 vs H2 s2 el2 hd=>⟨l2,vs,ps,rfl,el2,hd,ho,hm,fun t H3 s3 dt=>q t H3 ((s1.trans s2).trans s3) dt⟩⟩
   have:=hall x hx
   exact ⟨this.1,by omega⟩
end
end K70
set_option maxHeartbeats 2000000
namespace L2
open PySem PySem.W
def Zbb (v:Option (Option Value))(x:String):Bool:=match v with
 | some (some (.builtin b))=>b == x
 | _=>false
def Zcn (v:Option (Option Value)):Bool:=match v with
 | some none=>true
 | _=>false
def ZeY (K:PySem.W.Frag)(CRo C fI:Addr)(cs n1 n2:List Addr)(j:Nat):Bool :=
 ((Zdw K C&&Zcn (findIn K (.ref C) "what"))&&(Zbb (findIn K (.ref C) "__getattribute__") "BaseException.__getattribute__"&&(Zcn (findIn K (.ref C) "__getattr__")&&Zbb (findIn K (.ref C) "__class__") "object.__class__"))) &&
 (((match findIn K (.ref C) "__init__" with | some (some (.ref a))=>a == fI | _=>false)&&Zbb (findIn K (.ref C) "__setattr__") "object.__setattr__")&&keepIn K (.ref C)) &&
 ((exmOne K (.ref C) (.ref CRo) == some true&&kitOne K (.ref C) (.type "ValueError") == some true) &&
  (((List.range cs.length).all fun i=>kitOne K (.ref C) (.ref (cs.getD i 0)) == some (decide (i=j)))&&(kitAny K (.ref C) (n1.map Value.ref) == some false&&kitAny K (.ref C) (n2.map Value.ref) == some false)))
structure RefK (K:PySem.W.Frag)(CRo:Addr)(cs n1 n2:List Addr)(C:Addr)(j:Nat):Prop where
 g:XG K C
 cat:exmOne K (.ref C) (.ref CRo)=some true
 ve:kitOne K (.ref C) (.type "ValueError")=some true
 is:∀ i,i < cs.length→kitOne K (.ref C) (.ref (cs.getD i 0))=some (decide (i=j))
 no1:kitAny K (.ref C) (n1.map Value.ref)=some false
 no2:kitAny K (.ref C) (n2.map Value.ref)=some false
theorem Zdc {v:Option (Option Value)}{x:String}(h:Zbb v x=true):v=some (some (.builtin x)):=by
 unfold Zbb at h
 split at h
 · rw [beq_iff_eq.mp h]
 · cases h
theorem Zdp {v:Option (Option Value)}(h:Zcn v=true):v=some none:=by
 unfold Zcn at h
 split at h
 · rfl
 · cases h
theorem ZgV {K:PySem.W.Frag}{CRo C fI:Addr}{cs n1 n2:List Addr}{j:Nat}(h:ZeY K CRo C fI cs n1 n2 j=true):RefK K CRo cs n1 n2 C j∧(isFn K (.ref fI)=true→XF K C fI):=by
 unfold ZeY at h
 simp only [Bool.and_eq_true,beq_iff_eq,List.all_eq_true,List.mem_range] at h
 obtain ⟨⟨⟨⟨a1,a2⟩,a3,a4,a5⟩,⟨b1,b2⟩,b3⟩,⟨c1,c2⟩,c3,c4,c5⟩:=h
 have g:XG K C:=⟨a1,Zdp a2,Zdc a3,Zdp a4,Zdc a5⟩
 refine ⟨⟨g,c1,c2,c3,c4,c5⟩,fun hf=>?_⟩
 have i1:findIn K (.ref C) "__init__"=some (some (.ref fI)):=by
   split at b1
   · rename_i e;rw [e,beq_iff_eq.mp b1]
   · cases b1
 exact ⟨a1,i1,Zdc b2,Zdp a2,hf,b3⟩
end L2
set_option maxHeartbeats 4000000
namespace K70
open PySem L2
def mst:Nat→List (Nat×Pg)→Nat
 | m,[]=>m
 | _,(l,p)::r=>mst (if p.isB=true then l+1 else l) r
def badR (m:Nat)(r:Str):Prop:=∀(l:Nat)(p:Pg),p.ok→p.inner=[]→l≤m→r≠XA l p.srow
theorem Zeu:∀(hs:List (Nat×Pg))(m:Nat)(x:Nat×Pg),mst m (hs++[x])=if x.2.isB=true then x.1+1 else x.1
 | [],_,(_,_)=>rfl
 | (_,_)::r,_,x=>Zeu r _ x
theorem ZgG:∀{hs:List (Nat×Pg)}{m n:Nat},m≤n→(∀ x∈hs,x.1≤n)→mst m hs≤n+1
 | [],m,n,h,_=>by show m≤n+1;omega
 | (l,p)::r,m,n,h,ha=>by
   show mst (if p.isB=true then l+1 else l) r≤n+1
   have hl:l≤n:=ha _ (List.mem_cons_self ..)
   cases r with
   | nil=>show (if p.isB=true then l+1 else l)≤n+1;split<;>omega
   | cons y r=>exact ZgG (m:=0) (Nat.zero_le _) fun x hx=>ha x (List.mem_cons_of_mem _ hx)
theorem Zff (x:Str):(Txt.lstripChars x (Str.ofString " ")).length≤x.length:=by
 rw [Zt,Zt,VI];exact (List.dropWhile_sublist _).length_le
section
variable {P:Program}{w:World}{K:PySem.W.Frag}{mg:Str→Option Value}{base:Heap}{tk:Tok}{CB:Addr}
def Zfi (CB:Addr):Sp:=fun vs H _ E=>∃ (a:Addr) (k:Nat) (hs:List (Nat×Pg)) (bad:Str) (rest:List Str),vs=[.ref a,.int (k:Int)]∧k≤1000∧H a=some (.lst ((hs.map Yq++bad::rest).map V.str))∧(∀ x∈hs,x.2.ok∧x.1≤200)∧UZ 0 hs∧badR (mst 0 hs) bad∧bad.length≤80000∧hs.length≤1000∧∀ dx H',Same H H'→H dx=none→H' dx=some (.xd [("what",.int ((hs.length+k:Nat):Int))])→E (.ref CB) (some dx) H'
theorem Zfv {f:Addr}{fd:FuncData}(F:Fun K "heads_from" "heads_from" s_heads_from f fd)(T:Yk mg)(hFI:mg "FURTHER_IN"=some (.str "  " tk))(DHf:Def P w K mg base 6 "head_from" Zfx ZcW)(DHw:Def P w K mg base 6 "has_within" Zbv VF)(DE:Zio P w K mg base 5 CB "BadRow"):FnOk P w K mg base (Vz P w base) 7 f fd Zak (Zfi CB):=by
 refine F.okX scHs (fun vs H Q E h=>?_) (fun cdv A outer s H vs Q E hr h W=>?_)
 · obtain ⟨a,_,_,_,_,rfl,_⟩:=h;rfl
 obtain ⟨a,k,hs,bad,rest,rfl,hk,ea,hok,hH,hbad,hbl,hl,q⟩:=h
 refine' ⟨?t,?h,?r⟩
 case h =>
   conv=>arg 2;whnf
   with_reducible refine' (Zd ?h1 (Zd ?h2 (Zd (Xu ?h3 ?h4 ?h5 ?h6 (Zd ?h7 (Zd ?h8 (Zd ?h9 (Zd (ZS ?h10 (Zi ?h11) ZE) (Zd ?h12 (Zi ?h13)))))) ?h14) (Zi ?h15))))
   case h1=>exact Zw (i:=2) scHs.nd rfl (Or.inl rfl) (Yw Za)
   case h2=>exact Zw (i:=3) scHs.nd rfl (Or.inl rfl) Zf
   case h3=>exact PassesOwn.leaving
   case h4=>exact rfl
   case h5=>exact Zdn rfl T.enumerate (pv 0) (pv 1)
   case h6=>exact XT rfl (ZQ (ZD (i:=4) scHs.nd rfl (Or.inl rfl)) (ZQ (ZD (i:=5) scHs.nd rfl (Or.inl rfl)) Xi))
   case h7=>exact Zw (i:=6) scHs.nd rfl (Or.inl rfl) (YH PySem.F.plainAttrs_str PySem.F.slot_str_lstrip PySem.F.type_str_lstrip Zca (pv 5) (Zc Zj Za))
   case h8=>exact Zw (i:=7) scHs.nd rfl (Or.inl rfl) (Zk Zat (Zk WM (Zn ZN rfl T.len PySem.boot_len (Zc (pv 5) Za)) (Zn ZN rfl T.len PySem.boot_len (Zc (pv 6) Za))) (Zn ZN rfl T.len PySem.boot_len (Zc (YF rfl hFI (v:=.str "  ") ⟨_,rfl⟩) Za)))
   case h9=>exact Zw (i:=8) scHs.nd rfl (Or.inl rfl) (ZC DHf hr (Zc (pv 6) Za))
   case h10=>exact PW.pt (Xf (XU (Ww (pv 8))) (Xf (ZF Zcr (pv 7) (pv 3) (ZH _)) (XI (ZF XZ (pv 5) (Zk Zs (Zk YM (YF rfl hFI (v:=.str "  ") ⟨_,rfl⟩) (pv 7)) (pv 6)) (ZH _)))))
   case h11=>exact ZhI W DE hr rfl (Zc (pv 4) Za)
   case h12=>exact Wl (YH PySem.F.plainAttrs_list PySem.F.slot_list_append PySem.F.type_list_append YX (pv 2) (Zc (Yf (Zc (pv 7) (Zc (pv 8) Za))) Za))
   case h13=>exact Zw (i:=3) scHs.nd rfl (Or.inl rfl) (Yl (Yh (ZC DHw hr (Zc (ZX Xr (pv 8) Zf (fun _ _=>rfl)) Za))) (Zk Yn (pv 7) Zf) (pv 7))
   case h14=>exact fun _=>rfl
   case h15=>exact Zo (pv 2)
 refine ⟨(by show 0≤sizeLine;decide),fun l hl0=>?_⟩
 refine ⟨_,rfl,a,rfl,_,rfl,k,_,rfl,by omega,Zh hl0 _ _ _ ea,?_⟩
 refine ZbZ (k:=k) (xs:=(hs.map Yq++bad::rest).map V.str) (fun i σ H'=>∃ (m:Nat) (vs:List V) (x4 x5 x6 x7 x8:Option V),σ=[some (.ref a),some (.int (k:Int)),some (.ref l),some (.int (m:Int)),x4,x5,x6,x7,x8]∧Same H H'∧H' l=some (.lst vs)∧HdL H' vs (hs.take i)∧UZ m (hs.drop i)∧i≤hs.length∧(i≤hs.length→m=mst 0 (hs.take i))) ⟨0,[],_,_,_,_,_,rfl,Zh hl0 _,Zb,.nil,hH,Nat.zero_le _,fun _=>by rw [List.take_zero];rfl⟩ (fun i σ H' _ ⟨_,_,_,_,_,_,_,_,s',_⟩=>SqL.of (s' _ _ ea)) ?_ ?_
 · rintro i x t σ H' hx ht ⟨m,vs,x4,x5,x6,x7,x8,rfl,s',el,hd,ho,hil0,hmm⟩
   rw [List.getElem?_map] at hx
   obtain ⟨r,er,rfl⟩:=Option.map_eq_some_iff.mp hx
   by_cases hlt:i < hs.length
   ·
     rw [List.getElem?_append_left (by rw [List.length_map];exact hlt),List.getElem?_map] at er
     obtain ⟨y,ey,rfl⟩:=Option.map_eq_some_iff.mp er
     obtain ⟨hp,hlv⟩:=hok y (List.mem_of_getElem? ey)
     have hsl:=Xo hp
     obtain ⟨lv,p⟩:=y
     have hrl:(Yq (lv,p)).length=2 * lv+p.srow.length:=UQ _ _
     have hlv:lv≤200:=hlv
     have hp:p.ok:=hp
     have hsl:p.srow.length≤500:=hsl
     obtain ⟨ho1,ho2⟩:=ZcA ey ho
     have ho1:lv≤m:=ho1
     have hil:i < hs.length:=(List.getElem?_eq_some_iff.mp ey).1
     have s1:=Zh ht (.tup [.int ((i+k:Nat):Int),.str (Yq (lv,p))])
     refine ⟨t,_,rfl,SqT.of Zb,rfl,_,_,rfl,_,_,rfl,rfl,?_⟩
     generalize upd H' t (.tup [.int ((i+k:Nat):Int),.str (Yq (lv,p))])=H1 at s1 ⊢
     refine ⟨_,rfl,rfl,_,_,rfl,rfl,by rw [hrl];omega,?_⟩
     rw [show Txt.lstripChars (Yq (lv,p)) (Str.ofString " ")=p.srow from ZaH lv (ZaZ hp)]
     refine ⟨_,rfl,_,rfl,Zr (show _≤1000 by rw [hrl];omega),_,rfl,_,rfl,Zr (show _≤1000 by omega),_,_,rfl,rfl,_,rfl,(by decide +kernel),_,_,rfl,rfl,(by rw [show (Str.ofString "  ").length=2 by decide +kernel];exact ⟨by decide,by decide⟩),?_⟩
     dsimp only
     rw [show (((Yq (lv,p)).length:Int) - (p.srow.length:Int)) / ((Str.ofString "  ").length:Int)=(lv:Int) by rw [show (Str.ofString "  ").length=2 by decide +kernel,hrl];omega]
     refine ⟨_,rfl,p.srow,rfl,by omega,fun z=>absurd z (by rw [Uo hp];simp),fun hvs z h H2 s2 hh0 eh=>?_⟩
     rw [Uo hp] at z
     cases z
     refine ⟨_,rfl,_,rfl,Zu ?_⟩
     refine ⟨_,rfl,_,rfl,_,_,rfl,rfl,_,rfl,?_⟩
     rw [decide_eq_false (show ¬ ((m:Int) < (lv:Int)) by omega)]
     refine Zu ⟨_,rfl,_,rfl,_,_,rfl,rfl,Zdk (by omega),_,rfl,_,_,rfl,rfl,?_,rfl,_,rfl,?_⟩
     · have e:=congrArg Str.length (Ui lv p.srow)
       rw [Zy,UQ] at e
       exact Zr (show _≤1000 by omega)
     rw [Ui,decide_eq_true (show V.str (Yq (lv,p))=V.str (XA lv p.srow) from rfl)]
     refine Zu ?_
     refine ⟨_,rfl,.inl ⟨rfl,_,SqL.of (s2 _ _ (s1 _ _ el))⟩,_,rfl,_,rfl,(by show 2≤sizeLine;decide),fun pt hpt=>?_⟩
     dsimp only [XL]
     have s3:=Zh hpt (.tup [.int (lv:Int),.ref h])
     have ept:upd H2 pt (.tup [.int (lv:Int),.ref h]) pt=_:=Zb
     have el2:=s3 _ _ (s2 _ _ (s1 _ _ el))
     have eh2:=s3 _ _ eh
     have hd2:=hd.tf ((s1.trans s2).trans s3).tf
     have s03:Same H _:=((s'.trans s1).trans s2).trans s3
     generalize upd H2 pt (.tup [.int (lv:Int),.ref h])=H3 at s03 ept el2 eh2 hd2 ⊢
     have hvl:=hd2.len
     refine ⟨l,_,_,rfl,rfl,el2,Uu (show _≤1000 by rw [hvl,List.length_take];omega),?_⟩
     have t4:TF H3 (upd H3 l (.lst (vs++[.ref pt]))):=Zgt el2
     have s4:Same H (upd H3 l (.lst (vs++[.ref pt]))):=Us s03 hl0
     have el4:upd H3 l (.lst (vs++[.ref pt])) l=_:=Zb
     generalize upd H3 l (.lst (vs++[.ref pt]))=H4 at t4 s4 el4 ⊢
     have hd4:HdL H4 (vs++[.ref pt]) (hs.take (i+1)):=by
       rw [List.take_add_one,ey]
       exact (hd2.tf t4).app ⟨pt,h,rfl,t4.tup _ _ ept,t4.tup _ _ eh2⟩
     refine ⟨_,rfl,h,_,_,_,rfl,rfl,SqT.of (t4.tup _ _ eh2),YB (j:=0) rfl,p.word,p.isB,rfl,VU hp,_,rfl,?_⟩
     have hmst:mst 0 (hs.take (i+1))=if p.isB=true then lv+1 else lv:=by rw [List.take_add_one,ey];exact Zeu _ _ _
     cases hb:p.isB with
     | true =>
       rw [if_pos hb] at ho2
       exact Zv ⟨_,rfl,_,_,rfl,rfl,lv+1,_,_,_,_,_,_,rfl,s4,el4,hd4,ho2,by omega,fun _=>by rw [hmst,if_pos hb]⟩
     | false =>
       rw [if_neg (by rw [hb];decide)] at ho2
       exact Zu ⟨_,rfl,lv,_,_,_,_,_,_,rfl,s4,el4,hd4,ho2,by omega,fun _=>by rw [hmst,if_neg (by rw [hb];decide)]⟩
   · have hi:i=hs.length:=by omega
     subst hi
     have hm0:=hmm (Nat.le_refl _)
     rw [List.take_length] at hm0
     have hmle:m≤201:=by rw [hm0];exact ZgG (Nat.zero_le _) fun x hx=>(hok x hx).2
     rw [List.getElem?_append_right (by rw [List.length_map];exact Nat.le_refl _),List.length_map,Nat.sub_self] at er
     cases er
     have s1:=Zh ht (.tup [.int ((hs.length+k:Nat):Int),.str bad])
     refine ⟨t,_,rfl,SqT.of Zb,rfl,_,_,rfl,_,_,rfl,rfl,?_⟩
     generalize upd H' t (.tup [.int ((hs.length+k:Nat):Int),.str bad])=H1 at s1 ⊢
     have hll:=Zff bad
     refine ⟨_,rfl,rfl,_,_,rfl,rfl,by omega,?_⟩
     generalize hwd:Txt.lstripChars bad (Str.ofString " ")=wd at hll ⊢
     refine ⟨_,rfl,_,rfl,Zr (show _≤100000 by omega),_,rfl,_,rfl,Zr (show _≤100000 by omega),_,_,rfl,rfl,_,rfl,(by decide +kernel),_,_,rfl,rfl,(by rw [show (Str.ofString "  ").length=2 by decide +kernel];exact ⟨by decide,by decide⟩),?_⟩
     dsimp only
     obtain ⟨lv,elv⟩:∃ lv:Nat,((bad.length:Int) - (wd.length:Int)) / ((Str.ofString "  ").length:Int)=(lv:Int):=⟨(bad.length - wd.length) / 2,by rw [show (Str.ofString "  ").length=2 by decide +kernel];omega⟩
     rw [elv]
     have stop:∀ H2,Same H1 H2→∀ d,H2 d=none→E (.ref CB) (some d) (upd H2 d (.xd [("what",.int ((hs.length+k:Nat):Int))])):=fun H2 s2 d hd=>q d _ (((s'.trans s1).trans s2).trans (Zh hd _)) (XE ((s'.trans s1).trans s2) hd) Zb
     refine ⟨_,rfl,wd,rfl,by omega,fun z H2 s2=>?_,fun hvs z h H2 s2 hh0 eh=>?_⟩
     · exact ⟨_,rfl,_,rfl,Zv (Zv ⟨_,rfl,_,rfl,stop H2 s2⟩)⟩
     obtain ⟨p,hp,hin,hw,rfl⟩:=VL z
     refine ⟨_,rfl,_,rfl,Zu ?_⟩
     refine ⟨_,rfl,_,rfl,_,_,rfl,rfl,_,rfl,?_⟩
     by_cases c1:m < lv
     · rw [decide_eq_true (show (m:Int) < (lv:Int) by omega)]
       exact Zv (Zv ⟨_,rfl,_,rfl,stop H2 s2⟩)
     rw [decide_eq_false (show ¬ ((m:Int) < (lv:Int)) by omega)]
     have hsl:=Xo hp
     refine Zu ⟨_,rfl,_,rfl,_,_,rfl,rfl,Zdk (by omega),_,rfl,_,_,rfl,rfl,?_,rfl,_,rfl,?_⟩
     · have e:=congrArg Str.length (Ui lv wd)
       rw [Zy,UQ] at e
       exact Zr (show _≤100000 by omega)
     rw [Ui,decide_eq_false (show ¬ V.str bad=V.str (XA lv wd) from fun z=>by injection z with z;exact hbad lv p hp hin (by omega) (by rw [← hw];exact z))]
     exact Zv ⟨_,rfl,_,rfl,stop H2 s2⟩
 · rintro σ H' ⟨m,vs,x4,x5,x6,x7,x8,rfl,s',el,hd,ho,hil,hmm⟩
   rw [List.length_map,List.length_append,List.length_cons,List.length_map] at hil;omega
def ZeS (CB:Addr):Sp:=fun vs H _ E=>∃ (x:Str) (hs:List (Nat×Pg)) (bad:Str) (rest:List Str),vs=[.str x]∧x.length≤900000∧x.length≠0∧Txt.split x (Str.ofString "\n") = hs.map Yq ++ bad :: rest ∧ (∀ x ∈ hs, x.2.ok ∧ x.1 ≤ 200) ∧ UZ 0 hs ∧ badR (mst 0 hs) bad ∧ bad.length ≤ 80000 ∧ hs.length ≤ 1000 ∧ ∀ dx H', Same H H' → H dx = none → H' dx = some (.xd [("what",.int ((hs.length:Nat):Int))])→E (.ref CB) (some dx) H'
theorem Zdj {f:Addr}{fd:FuncData}(F:Fun K "program_from" "program_from" s_program_from f fd)(T:Yk mg)(DHs:ZiY P w K mg base 7 "heads_from" Zak (Zfi CB))(DPo:Def P w K mg base 7 "program_of" ZfA (ZhU K)):FnOk P w K mg base (Vz P w base) 8 f fd VC (ZeS CB):=by
 refine F.okX scPm (fun vs H Q E h=>?_) (fun cdv A outer s H vs Q E hr h W=>?_)
 · obtain ⟨x,_,_,_,rfl,_⟩:=h;rfl
 obtain ⟨x,hs,bad,rest,rfl,hx,hx0,hsp,hok,hH,hbad,hbl,hl,q⟩:=h
 refine' ⟨?t,?h,?r⟩
 case h =>
   conv=>arg 2;whnf
   with_reducible refine' (Wh ?h1 (Zi ?h2))
   case h1=>exact Zw (i:=1) scPm.nd rfl (Or.inl rfl) (Yl (ZcF (pv 0) (fun _=>rfl)) (YH PySem.F.plainAttrs_str PySem.F.slot_str_split PySem.F.type_str_split Zav (pv 0) (Zc Zj Za)) (Yw Za))
   case h2=>exact Zo (ZC DPo hr (Zc (Zne W DHs hr (Zc (pv 1) (Zc Zf Za))) Za))
 refine ⟨fun σ H'=>∃ l,σ=[some (.str x),some (.ref l)]∧Same H H'∧H' l=some (.lst ((hs.map Yq++bad::rest).map V.str)),?_,?_⟩
 · refine ⟨_,rfl,_,⟨Nat.le_trans hx (by decide),rfl⟩,ifT (by simpa using hx0) ⟨_,rfl,rfl,_,_,rfl,rfl,(by decide +kernel),by omega,fun l hl=>?_⟩⟩
   rw [hsp]
   exact ⟨l,rfl,Zh hl _,Zb⟩
 · rintro σ H1 ⟨l,rfl,s1,el⟩
   exact ⟨_,rfl,l,0,hs,bad,rest,rfl,by omega,el,hok,hH,hbad,hbl,hl,fun dx H' s' h1 h2=>q dx H' (s1.trans s') (XE s1 h1) h2⟩
end
end K70
set_option maxHeartbeats 4000000
namespace K70
open PySem L2
structure TxtE (K:PySem.W.Frag)(mg:Str→Option Value)(CRo CB:Addr)(n1:List Addr):Prop where
 road:mg "RoadError"=some (.ref CRo)
 bad:mg "BadRow"=some (.ref CB)
 ve:mg "ValueError"=none
 l:n1.length=5
 c1:mg "Known"=some (.ref (n1.getD 0 0))
 c2:mg "Missing"=some (.ref (n1.getD 1 0))
 c3:mg "NoSetting"=some (.ref (n1.getD 2 0))
 c4:mg "NoTask"=some (.ref (n1.getD 3 0))
 c5:mg "NoWorld"=some (.ref (n1.getD 4 0))
 rk:RefK K CRo [CB] n1 [] CB 0
section
variable {P:Program}{w:World}{K:PySem.W.Frag}{mg:Str→Option Value}{base:Heap}{CRo CB:Addr}{n1:List Addr}{kk:Nat}
theorem scXi:Zz ["self","what"] ["self","what"] (Zl c_RoadError___init__):=⟨rfl,rfl,rfl,by decide +kernel,rfl,by decide +kernel,by decide +kernel⟩
theorem Zib {f:Addr}{fd:FuncData}(F:Fun K "__init__" "RoadError.__init__" c_RoadError___init__ f fd):FnOk P w K mg base ZY 1 f fd ["self","what"] (ZhF K):=by
 refine F.ok scXi (fun vs H Q E h=>?_) (fun cdv A outer s H vs Q E hr h=>?_)
 · obtain ⟨ea,C,fI,v,rfl,_⟩:=h;rfl
 obtain ⟨ea,C,fI,v,rfl,hea,xf,q⟩:=h
 refine' ⟨?t,?h,?r⟩
 case h =>
   conv=>arg 2;whnf
   with_reducible refine' (Zi ?h1)
   case h1=>exact ZkC (pv 0) (pv 1) rfl
 exact ⟨_,rfl,_,rfl,ea,C,fI,rfl,hea,xf,fun dx h1 h2=>q dx h1 h2⟩
def spRf (P:Program)(w:World)(K:PySem.W.Frag)(mg:Str→Option Value)(base:Heap)(kk:Nat)(CB:Addr):Sp:=fun vs H Q _=>∃(f:Addr)(fd:FuncData)(ps:List Str)(sp:Sp)(x:Str),vs=[.ref f,.str x]∧FnOk P w K mg base (Vz P w base) kk f fd ps sp∧Binds K fd ps []∧PySem.W.keepIn K (.ref f)=true ∧
 ∀ (Qc:VK) (Ec:XK),(∀ v H',(∀ H2,Same H' H2→Q (.str "none") H2)→Qc v H')→(∀ dx n H',H' dx=some (.xd [("what",.int n)])→(∀ H2,Same H' H2→Q (.int n) H2)→Ec (.ref CB) (some dx) H')→sp [.str x] H Qc Ec
abbrev nRf:List Str:=["_law_told","_law_text","_law_caught","error","_law_others"]
abbrev ZhZ:List Str:=["_law_told","_law_text"]
theorem scRf:Zz nRf ZhZ (Zl s_l_refused):=⟨rfl,rfl,rfl,by decide +kernel,rfl,by decide +kernel,by decide +kernel⟩
theorem ZeO {f:Addr}{fd:FuncData}(F:Fun K "_law_refused" "_law_refused" s_l_refused f fd)(T:Yk mg)(TE:TxtE K mg CRo CB n1):FnOk P w K mg base ZY (kk+1) f fd ZhZ (spRf P w K mg base kk CB):=by
 refine F.ok scRf (fun vs H Q E h=>?_) (fun cdv A outer s H vs Q E hr h=>?_)
 · obtain ⟨f,fd,ps,sp,x,rfl,_⟩:=h;rfl
 obtain ⟨f,fd,ps,sp,x,rfl,Fx,hb,hkp,h⟩:=h
 refine' ⟨?t,?h,?r⟩
 case h =>
   conv=>arg 2;whnf
   with_reducible refine' (Zd ?h1 (Zd (Zis (i:=3) ?h2 ?h3 ?h4 ?h5 ?h6 ?h7 ?h8 ?h9 ?h10 (fun pn Z EE W=>(Zi ?h11)) (fun ea Z=>(Zi ?h12))) (Zd (ZS ?h13 (Zi ?h14) ZE) (Zd ?h15 (Zi ?h16)))))
   case h1=>exact Zw (i:=2) scRf.nd rfl (Or.inl rfl) YI
   case h2=>exact rfl
   case h3=>exact rfl
   case h4=>exact rfl
   case h5=>exact scRf.nd
   case h6=>exact rfl
   case h7=>exact rfl
   case h8=>exact rfl
   case h9=>exact TE.road
   case h10=>exact (by decide)
   case h11=>exact Wl (Zmp (i:=0) (P:=P) (w:=w) (K:=K) (mg:=mg) (base:=base) rfl rfl rfl rfl rfl W hr rfl (.inl rfl) (Zc (pv 1) Za))
   case h12=>exact Zw (i:=2) scRf.nd rfl (Or.inl rfl) (pv 3)
   case h13=>exact XU (Ww (pv 2))
   case h14=>exact Zo Zj
   case h15=>exact Zw (i:=4) scRf.nd rfl (Or.inl rfl) (Zng (Zn Zgi rfl T.isinstance (by decide +kernel) (Zc (pv 2) (Zc (Yf (YZ (YF (v:=.ref _) rfl TE.c1 rfl) (YZ (YF (v:=.ref _) rfl TE.c2 rfl) (YZ (YF (v:=.ref _) rfl TE.c3 rfl) (YZ (YF (v:=.ref _) rfl TE.c4 rfl) (YZ (YF (v:=.ref _) rfl TE.c5 rfl) Za rfl) rfl) rfl) rfl) rfl)) Za))) (Wq (ZaQ (Zn ZbH rfl T.isinstance (by decide +kernel) (Zc (pv 2) (Zc (Yz rfl TE.ve (by decide +kernel) (v:=.ty "ValueError") rfl) Za))))))
   case h16=>exact Zo (Yl (PW.pt (ZaM (Yh (Zn ZbH rfl T.isinstance (by decide +kernel) (Zc (pv 2) (Zc (YF (v:=.ref _) rfl TE.bad rfl) Za)))) (VR (Xg (Yh (pv 4)))))) (ZkD (pv 2) rfl) Zj)
 refine ⟨f,fd,ps,sp,rfl,Fx,hb,hkp,_,rfl,h _ _ (fun v H1 q1=>?_) (fun d1 n H1 ed1 q1=>⟨CB,d1,rfl,rfl,TE.rk.cat,fun ea hea=>?_⟩)⟩
 · exact ⟨_,rfl,_,rfl,Zv (q1 H1 (Same.refl H1))⟩
 · obtain ⟨a1,a2,a3,a4,a5,rfl⟩:∃ a1 a2 a3 a4 a5,n1=[a1,a2,a3,a4,a5]:=by
     have:=TE.l
     match n1,this with
     | [a1,a2,a3,a4,a5],_=>exact ⟨a1,a2,a3,a4,a5,rfl⟩
   have eea:upd H1 ea (XO ea CB d1) ea=some (XO ea CB d1):=Zb
   have s2:=Zh hea (XO ea CB d1)
   have ed2:=s2 _ _ ed1
   generalize upd H1 ea (XO ea CB d1)=H2 at eea s2 ed2 ⊢
   refine ⟨_,rfl,_,rfl,_,rfl,Zu ?_⟩
   refine ⟨_,rfl,(by show 5≤sizeLine;decide),fun tp htp=>?_⟩
   have s3:=Zh htp (.tup [.ref a1,.ref a2,.ref a3,.ref a4,.ref a5])
   have etp:upd H2 tp (.tup [.ref a1,.ref a2,.ref a3,.ref a4,.ref a5]) tp=_:=Zb
   have eea3:=s3 _ _ eea
   have ed3:=s3 _ _ ed2
   have ty:TyX K (upd H2 tp (.tup [.ref a1,.ref a2,.ref a3,.ref a4,.ref a5])) (.ref ea) (.ref CB):=.inr ⟨ea,CB,d1,rfl,rfl,eea3,TE.rk.g⟩
   refine ⟨ea,CB,d1,tp,[a1,a2,a3,a4,a5],false,rfl,eea3,TE.rk.g,etp,TE.rk.no1,false,rfl,Zu ?_⟩
   refine ⟨_,rfl,_,_,_,true,rfl,ty,.inr ⟨_,rfl,TE.rk.ve⟩,_,rfl,?_⟩
   refine ⟨_,rfl,_,_,_,true,rfl,ty,.inl ⟨CB,rfl,TE.rk.is 0 (by simp)⟩,_,rfl,Zv ⟨_,rfl,_,rfl,Zv ?_⟩⟩
   exact ⟨_,rfl,ea,CB,d1,_,_,rfl,eea3,ed3,TE.rk.g,rfl,q1 _ (s2.trans s3)⟩
end
end K70
set_option maxHeartbeats 4000000
namespace K70
open PySem L2
def Vu (c:Nat):Bool:=!decide (c=10)
def WX (x:Str):Bool:=decide (x.length≤300)&&x.cps.toList.all Vu
theorem Zhk {x:Str}{n:Int}(hx:x.length≤10)(h0:1≤n)(hn:n≤100):MulOk x n:=by
 refine ⟨?_,fun h1 _=>?_,fun h1 _=>?_⟩
 · rw [Bool.or_eq_false_iff];exact ⟨decide_eq_false (by omega),decide_eq_false (by omega)⟩
 · have:(10:Int)≤(2 ^ 63 - 1) / n:=by
     rw [Int.le_ediv_iff_mul_le (by omega)]
     omega
   omega
 · have h3:1000≤sizeLine:=by decide
   refine decide_eq_false fun z=>?_
   have h4:n.toNat * x.length≤100 * 10:=Nat.mul_le_mul (by omega) hx
   have h5:x.length * n.toNat≤10 * 100:=Nat.mul_le_mul hx (by omega)
   omega
theorem Zde {x:Str}(h1:x.length≤300)(h2:x.cps.toList.all Vu=true):WX x=true:=by unfold WX;rw [decide_eq_true h1,h2];rfl
theorem Va {x y:Str}(h1:x.cps.toList.all Vu=true)(h2:y.cps.toList.all Vu=true):(x++y).cps.toList.all Vu=true:=by rw [Yo,List.all_append,h1,h2];rfl
theorem Zkf {x:Str}(h:x.cps.toList.all Yd=true):x.cps.toList.all Vu=true:=by
 rw [List.all_eq_true] at h ⊢
 intro c hc
 have:=h c hc
 unfold Yd at this
 unfold Vu
 simp only [Bool.and_eq_true,decide_eq_true_eq] at this
 rw [decide_eq_false (by omega)];rfl
def wA:List Str:=["-0","00","01","-01","+1","1.0","1_0","","''","'","'''","'\\'","'\\\\'"]
def wB:List Str:=["'a","a'","a","none","'a\tb'", "'\t'", "\t1"]
def wC:List Str:=[Txt.mul "9" 30,Txt.mul "9" 31,(Str.ofString "-")++Txt.mul "9" 30,(Str.ofString "-")++Txt.mul "1" 31,"--1","- 1","1 2","' '","'a b'","' b' c'"]
def wD (m:Int):List Str:=[(Str.ofString "'")++Txt.mul "x" m++(Str.ofString "'"),(Str.ofString "'")++Txt.mul "\\'" m++(Str.ofString "'"),(Str.ofString "'")++Txt.mul "\\\\" m ++ (Str.ofString "'")]
theorem Zkm:∀ x∈wA++wB++wC,WX x=true:=List.all_eq_true.mp (show (wA++wB++wC).all WX=true by decide +kernel)
theorem Znb {m:Int}(h:m=40∨m=41):∀ x∈wD m,WX x=true:=by
 rcases h with rfl | rfl
 · exact List.all_eq_true.mp (show (wD 40).all WX=true by decide +kernel)
 · exact List.all_eq_true.mp (show (wD 41).all WX=true by decide +kernel)
theorem Zmc {m:Int}(h:m=40∨m=41):(Txt.mul "x" m).length≤100∧(Txt.mul "\\'" m).length≤100∧(Txt.mul "\\\\" m).length≤100:=by
 rcases h with rfl | rfl
 · exact (by decide +kernel)
 · exact (by decide +kernel)
theorem ZeQ {l D l2:Addr}{xs ys:List Str}{Δ:Rs}{H:Hp}(S:Sep ((l,UB (xs.map V.str))::Δ) H)(hD:H D=none)(hl:upd H D (.lst (ys.map V.str)) l2=none):Sep ((l2,UB ((xs++ys).map V.str))::Δ) (upd (upd H D (.lst (ys.map V.str))) l2 (.lst (xs.map V.str++ys.map V.str))):=by
 have:=(((S.new hD (.lst (ys.map V.str))).new hl (.lst (xs.map V.str++ys.map V.str))).drop D).drop l
 rw [List.map_append];exact this
theorem Zbw {l D:Addr}{xs:List V}{Δ:Rs}{H:Hp}{o:HO}(S:Sep ((l,UB xs)::Δ) H)(hD:H D=none):upd H D o l=some (.lst xs):=(S.new hD o).get l
section
variable {P:Program}{w:World}{K:PySem.W.Frag}{mg:Str→Option Value}{base:Heap}
def spWs:Sp:=fun vs H Q _=>∃(p:Addr)(n:Nat)(Δ:Rs),vs=[.ref p]∧Sep ((p,Bx n)::Δ) H∧n≤100000∧∀(l:Addr)(H':Hp)(xs:List Str),Sep ((l,UB (xs.map V.str))::(p,Bx (n+636))::Δ) H'→xs.length≤100→(∀ x∈xs,WX x=true)→Q (.ref l) H'
abbrev nWs:List Str:=["_law_box_here","_law_words_here","_law_many","_law_turn","_law_word","_law_signs","_law_at","_law_way","_law_sign"]
abbrev ZhE:List Str:=["_law_box_here"]
theorem scWs:Zz nWs ZhE (Zl s_l_words):=⟨rfl,rfl,rfl,by decide +kernel,rfl,by decide +kernel,by decide +kernel⟩
theorem ZhN {f:Addr}{fd:FuncData}(F:Fun K "_law_words" "_law_words" s_l_words f fd)(T:Yk mg)(DT:DTk P w K mg base 2)(DV:Def P w K mg base 2 "_law_value" ["_law_box_here"] Vg)(DWr:Def P w K mg base 2 "_law_written" ZeG (fun vs H Q E=>∃ v,vs=[v]∧IsVal v∧∀ H',Same H H'→Q (.str (ZP v)) H')):FnOk P w K mg base ZY 3 f fd ZhE spWs:=by
 refine F.ok scWs (fun vs H Q E h=>?_) (fun cdv A outer s H vs Q E hr h=>?_)
 · obtain ⟨p,n,Δ,rfl,_⟩:=h;rfl
 obtain ⟨p,n,Δ,rfl,S,hn,q⟩:=h
 have hr1:=hr
 refine' ⟨?t,?h,?r⟩
 case h =>
   conv=>arg 2;whnf
   with_reducible refine' (Zd (Zw (i:=1) ?h1 ?h2 ?h3 (Yw ?h4) ?h5 ?h6) (Zd ?h7 (Zd ?h8 (Zd (Xu ?h9 ?h10 ?h11 ?h12 (Zi ?h13) ?h14) (Zd (Xu ?h15 ?h16 ?h17 ?h18 (Zd ?h19 (Zd ?h20 (Zi ?h21))) ?h22) (Zi ?h23))))))
   case h1=>exact scWs.nd
   case h2=>exact rfl
   case h3=>exact (Or.inl rfl)
   case h4=>(refine' ZbD (vs:=[.str "-0",.str "00",.str "01",.str "-01",.str "+1",.str "1.0",.str "1_0",.str "",.str "''",.str "'",.str "'''",.str "'\\'",.str "'\\\\'"]) ?zz;case zz=>decide +kernel)
   case h5=>exact rfl
   case h6=>exact (by first | exact .inl rfl | exact .inr rfl)
   case h7=>exact Zw (i:=1) scWs.nd rfl (Or.inl rfl) (Zk UR (pv 1) (Yw (ZbD (vs:=[.str "'a",.str "a'",.str "a",.str "none",.str "'a\tb'", .str "'\t'", .str "\t1"]) (by decide +kernel))))
   case h8=>exact Zw (i:=1) scWs.nd rfl (Or.inl rfl) (Zk UR (pv 1) (Yw (YZ (Zk YM Zj Zf) (YZ (Zk YM Zj Zf) (YZ (Zk Zs Zj (Zk YM Zj Zf)) (YZ (Zk Zs Zj (Zk YM Zj Zf)) (YZ Zj (YZ Zj (YZ Zj (YZ Zj (YZ Zj (YZ Zj Za rfl) rfl) rfl) rfl) rfl) rfl) rfl) rfl) rfl) rfl)))
   case h9=>exact PassesOwn.never
   case h10=>exact rfl
   case h11=>exact ZcQ (Yf (Zc Zf (Zc Zf Za)))
   case h12=>exact ZD (i:=2) scWs.nd rfl (Or.inl rfl)
   case h13=>exact Zw (i:=1) scWs.nd rfl (Or.inl rfl) (Zk UR (pv 1) (Yw (Zc (Zk Zs (Zk Zs Zj (Zk YM Zj (pv 2))) Zj) (Zc (Zk Zs (Zk Zs Zj (Zk YM Zj (pv 2))) Zj) (Zc (Zk Zs (Zk Zs Zj (Zk YM Zj (pv 2))) Zj) Za)))))
   case h14=>exact fun _=>rfl
   case h15=>exact PassesOwn.never
   case h16=>exact rfl
   case h17=>exact Wj rfl T.range (Zc Zf Za)
   case h18=>exact ZD (i:=3) scWs.nd rfl (Or.inl rfl)
   case h19=>exact Zhb (i:=4) (j:=5) rfl scWs.nd rfl rfl (by decide) rfl rfl (Zc (ZC DWr hr (Zc (ZC DV hr (Zc (pv 0) Za)) Za)) (Zc Zj Za)) rfl
   case h20=>exact Zep (i:=6) (j:=7) (k:=8) rfl scWs.nd rfl rfl rfl (by decide) (by decide) (by decide) rfl rfl rfl (Zc (ZC DT hr1 (Zc (pv 0) (Zc (Zk Yn (Zn ZN rfl T.len PySem.boot_len (Zc (pv 4) Za)) Zf) Za))) (Zc (ZC DT hr1 (Zc (pv 0) (Zc Zf Za))) (Zc (ZX WO (pv 5) (ZC DT hr1 (Zc (pv 0) (Zc Zf Za))) (fun _ _=>rfl)) Za))) rfl
   case h21=>exact Wl (YH PySem.F.plainAttrs_list PySem.F.slot_list_append PySem.F.type_list_append YX (pv 1) (Zc (ZX YU (Yw (Zc (Zk Zs (Zk Zs (ZM Yx (pv 4) ZV (ZK (pv 6))) (pv 8)) (ZM Yx (pv 4) (ZK (pv 6)) ZV)) (Zc (Zk Zs (ZM Yx (pv 4) ZV (ZK (pv 6))) (ZM Yx (pv 4) (ZK (Zk Yn (pv 6) Zf)) ZV)) (Zc (Zk Zs (Zk Zs (ZM Yx (pv 4) ZV (ZK (pv 6))) (pv 8)) (ZM Yx (pv 4) (ZK (Zk Yn (pv 6) Zf)) ZV)) Za)))) (pv 7) (fun _ _=>rfl)) Za))
   case h22=>exact fun _=>rfl
   case h23=>exact Zo (pv 1)
 refine ⟨(by decide),fun l1 hl1=>?_⟩
 have S1:Sep ((l1,UB (wA.map V.str))::(p,Bx n)::Δ) _:=S.new hl1 (.lst (wA.map V.str))
 change Zfk _ _ _ _ (upd H l1 (.lst (wA.map V.str)))
 generalize upd H l1 (.lst (wA.map V.str))=H1 at S1 ⊢
 refine ⟨_,rfl,(by decide),fun D2 hD2=>⟨l1,D2,wA.map V.str,wB.map V.str,rfl,rfl,Zbw S1 hD2,Zb,(by decide),fun l2 hl2=>?_⟩⟩
 have S2:=ZeQ (ys:=wB) S1 hD2 hl2
 change UG _ _ _ (upd (upd H1 D2 (.lst (wB.map V.str))) l2 (.lst (wA.map V.str++wB.map V.str))) _
 generalize upd (upd H1 D2 (.lst (wB.map V.str))) l2 (.lst (wA.map V.str++wB.map V.str))=H2 at S2 ⊢
 have M:∀ {x:Str} {n:Int},x.length≤10→1≤n→n≤100→MulOk x n:=Zhk
 refine ⟨_,rfl,_,_,rfl,rfl,M (by decide +kernel) (by decide) (by decide),_,_,rfl,rfl,M (by decide +kernel) (by decide) (by decide),_,_,rfl,rfl,M (by decide +kernel) (by decide) (by decide),_,_,rfl,rfl,(by decide +kernel),_,_,rfl,rfl,M (by decide +kernel) (by decide) (by decide),_,_,rfl,rfl,(by decide +kernel),(by show 10≤sizeLine;decide),fun D3 hD3=>⟨l2,D3,(wA++wB).map V.str,wC.map V.str,rfl,rfl,Zbw S2 hD3,Zb,(by decide),fun l3 hl3=>?_⟩⟩
 have S3:=ZeQ (ys:=wC) S2 hD3 hl3
 change UG _ _ _ (upd (upd H2 D3 (.lst (wC.map V.str))) l3 (.lst ((wA++wB).map V.str++wC.map V.str))) _
 generalize upd (upd H2 D3 (.lst (wC.map V.str))) l3 (.lst ((wA++wB).map V.str++wC.map V.str))=H3 at S3 ⊢
 refine ⟨(by show 2≤sizeLine;decide),fun tp htp=>⟨tp,rfl,⟨_,SqT.of Zb⟩,?_⟩⟩
 have etp:upd H3 tp (.tup [.int 40,.int 41]) tp=_:=Zb
 have S4:=(S3.new htp (.tup [.int 40,.int 41])).drop tp
 generalize upd H3 tp (.tup [.int 40,.int 41])=H4 at S4 etp ⊢
 refine ZdL (xs:=[.int 40,.int 41]) (fun i σ H'=>∃ (l:Addr) (xs:List Str) (x2:Option V),σ=[some (.ref p),some (.ref l),x2,none,none,none,none,none,none]∧Same H4 H'∧Sep ((l,UB (xs.map V.str))::(p,Bx n)::Δ) H'∧xs.length=30+3 * i∧∀ x∈xs,WX x=true) ⟨l3,_,_,rfl,Same.refl _,S4,(by decide),Zkm⟩ (fun i σ H' _ ⟨_,_,_,_,s',_⟩=>SqT.of (s' _ _ etp)) ?_ ?_
 · rintro i v σ H5 hv ⟨l,xs,x2,rfl,s5,S5,hxl,hxo⟩
   obtain ⟨m,hm,rfl⟩:∃ m:Int,(m=40∨m=41)∧v=.int m:=by
     have:=List.mem_of_getElem? hv
     simp only [List.mem_cons,List.not_mem_nil,or_false] at this
     rcases this with rfl | rfl
     · exact ⟨_,.inl rfl,rfl⟩
     · exact ⟨_,.inr rfl,rfl⟩
   have hi:i < 2:=(List.getElem?_eq_some_iff.mp hv).1
   obtain ⟨w1,w2,w3⟩:=Zmc hm
   have sl:∀ {y:Str},y.length≤100→(Str.ofString "'").length+y.length≤sizeLine:=fun h=>Zr (show _≤1000 by rw [show (Str.ofString "'").length=1 by decide +kernel];omega)
   have sl2:∀ {y:Str},y.length≤100→((Str.ofString "'")++y).length+(Str.ofString "'").length≤sizeLine:=fun h=>Zr (show _≤1000 by rw [Zy,show (Str.ofString "'").length=1 by decide +kernel];omega)
   refine ⟨_,rfl,_,rfl,_,_,rfl,rfl,M (by decide +kernel) (by omega) (by omega),_,_,rfl,rfl,sl w1,_,_,rfl,rfl,sl2 w1,_,rfl,_,_,rfl,rfl,M (by decide +kernel) (by omega) (by omega),_,_,rfl,rfl,sl w2,_,_,rfl,rfl,sl2 w2,_,rfl,_,_,rfl,rfl,M (by decide +kernel) (by omega) (by omega),_,_,rfl,rfl,sl w3,_,_,rfl,rfl,sl2 w3,(by show 3≤sizeLine;decide),fun D hD=>⟨l,D,xs.map V.str,(wD m).map V.str,rfl,rfl,Zbw S5 hD,Zb,Zr (show _≤1000 by rw [List.length_map,List.length_map];show xs.length+3≤_;omega),fun l' hl'=>?_⟩⟩
   refine ⟨l',xs++wD m,_,rfl,(s5.trans (Zh hD _)).trans (Zh hl' _),ZeQ S5 hD hl',by rw [List.length_append,hxl];show 30+3 * i+3=_;omega,fun x hx=>?_⟩
   rcases List.mem_append.mp hx with hx | hx
   · exact hxo x hx
   · exact Znb hm x hx
 rintro σ H5 ⟨l,xs,x2,rfl,s5,S5,hxl,hxo⟩
 have hxl:xs.length=36:=hxl
 refine ⟨12,rfl,by decide,by decide,?_⟩
 refine UE (fun i σ H'=>∃ (xs:List Str) (x3 x4 x5 x6 x7 x8:Option V),σ=[some (.ref p),some (.ref l),x2,x3,x4,x5,x6,x7,x8]∧Sep ((l,UB (xs.map V.str))::(p,Bx (n+53 * i))::Δ) H'∧xs.length=36+i∧∀ x∈xs,WX x=true) ⟨xs,_,_,_,_,_,_,rfl,S5,hxl,hxo⟩ ?_ ?_
 · rintro i σ H6 hi ⟨xs,x3,x4,x5,x6,x7,x8,rfl,S6,hxl,hxo⟩
   replace hi:i < 12:=by first | exact_mod_cast hi | omega
   refine ⟨_,rfl,p,_,_,rfl,S6.pull p,by omega,fun v H7 hv S7=>⟨v,rfl,hv,fun H8 s8=>⟨_,_,rfl,?_⟩⟩⟩
   have S8:=S7.mono s8
   have hw:=Zar hv
   have hw10:=Zkf (Zeh hv)
   generalize ZP v=y at hw hw10 ⊢
   refine ⟨_,rfl,_,rfl,y,rfl,Zr (show _≤1000 by omega),_,_,rfl,rfl,p,_,_,_,rfl,S8,by omega,by omega,by omega,fun at1 H9 a0 a1 S9=>⟨_,rfl,p,_,3,_,rfl,S9,by omega,by decide,by decide,fun way H10 b0 b1 S10=>⟨_,rfl,_,rfl,p,_,8,_,rfl,S10,by omega,by decide,by decide,fun sg H11 c0 c1 S11=>?_⟩⟩⟩
   obtain ⟨c,hcm,hc⟩:∃ c∈(Str.ofString "'\\ 0-a9\t").cps.toList, Wm (Str.ofString "'\\ 0-a9\t").cps.toList sg=some c:=by
     have hl:sg.toNat < (Str.ofString "'\\ 0-a9\t").cps.toList.length:=by
       rw [show (Str.ofString "'\\ 0-a9\t").cps.toList.length=8 by decide +kernel];omega
     exact ⟨_,List.getElem_mem hl,ZaJ c0 (List.getElem?_eq_getElem hl)⟩
   have hc10:(⟨#[c]⟩:Str).cps.toList.all Vu=true:=by
     have:(Str.ofString "'\\ 0-a9\t").cps.toList.all Vu=true:=by decide +kernel
     show (Vu c&&true)=true
     rw [List.all_eq_true.mp this c hcm];rfl
   refine ⟨_,_,c,rfl,rfl,(by decide +kernel),hc,_,_,_,rfl,?_⟩
   have hg1':(⟨#[c]⟩:Str).length≤1:=Nat.le_refl _
   generalize (⟨#[c]⟩:Str)=sgn1 at hc10 hg1' ⊢
   have hg1:sgn1.length≤1:=hg1'
   have sl:∀ (lo hi:Option Int),(Txt.slice y lo hi).length≤100:=fun lo hi=>Nat.le_trans (Txt.slice_le y lo hi) hw
   have sn:∀ (lo hi:Option Int),(Txt.slice y lo hi).cps.toList.all Vu=true:=fun lo hi=>Vn hw10
   have hy:y.length≤sizeLine:=Zr (show _≤1000 by omega)
   have le2:∀ (a b:Str),a.length≤200→b.length≤200→a.length+b.length≤sizeLine:=fun a b h1 h2=>Zr (show _≤1000 by omega)
   have l2:∀ (lo hi:Option Int),(Txt.slice y lo hi++sgn1).length≤200:=fun lo hi=>by have:=sl lo hi;rw [Zy];omega
   have s2:∀ (lo hi:Option Int),(Txt.slice y lo hi).length≤200:=fun lo hi=>by have:=sl lo hi;omega
   refine ⟨_,rfl,.inl ⟨rfl,_,SqL.of (S11.get l)⟩,_,rfl,?_⟩
   dsimp only [XQ]
   refine ⟨_,rfl,_,rfl,y,rfl,hy,_,rfl,_,_,rfl,rfl,le2 _ _ (s2 _ _) (by omega),_,rfl,_,rfl,_,rfl,y,rfl,hy,_,_,rfl,rfl,le2 _ _ (l2 _ _) (s2 _ _),?_⟩
   refine ⟨_,rfl,?_⟩
   dsimp only [XQ]
   refine ⟨_,rfl,_,rfl,y,rfl,hy,_,rfl,_,rfl,_,_,rfl,rfl,_,rfl,y,rfl,hy,_,_,rfl,rfl,le2 _ _ (s2 _ _) (s2 _ _),?_⟩
   refine ⟨_,rfl,?_⟩
   dsimp only [XQ]
   refine ⟨_,rfl,_,rfl,y,rfl,hy,_,rfl,_,_,rfl,rfl,le2 _ _ (s2 _ _) (by omega),_,rfl,_,rfl,_,_,rfl,rfl,_,rfl,y,rfl,hy,_,_,rfl,rfl,le2 _ _ (l2 _ _) (s2 _ _),(by show 3≤sizeLine;decide),fun D hD=>?_⟩
   have key:∀ z∈[Txt.slice y none (some at1)++sgn1++Txt.slice y (some at1) none,Txt.slice y none (some at1)++Txt.slice y (some (at1+1)) none,Txt.slice y none (some at1)++sgn1++Txt.slice y (some (at1+1)) none],WX z=true:=by
     intro z hz
     simp only [List.mem_cons,List.not_mem_nil,or_false] at hz
     rcases hz with rfl | rfl | rfl
     · exact Zde (by have:=sl none (some at1);have:=sl (some at1) none;rw [Zy,Zy];omega) (Va (Va (sn _ _) hc10) (sn _ _))
     · exact Zde (by have:=sl none (some at1);have:=sl (some (at1+1)) none;rw [Zy];omega) (Va (sn _ _) (sn _ _))
     · exact Zde (by have:=sl none (some at1);have:=sl (some (at1+1)) none;rw [Zy,Zy];omega) (Va (Va (sn _ _) hc10) (sn _ _))
   obtain ⟨z,hz,hze⟩:=Zmg (f:=V.str) (xs:=[Txt.slice y none (some at1)++sgn1++Txt.slice y (some at1) none,Txt.slice y none (some at1)++Txt.slice y (some (at1+1)) none,Txt.slice y none (some at1)++sgn1++Txt.slice y (some (at1+1)) none]) b0 b1
   have S12:=S11.new hD (.lst ([Txt.slice y none (some at1)++sgn1++Txt.slice y (some at1) none,Txt.slice y none (some at1)++Txt.slice y (some (at1+1)) none,Txt.slice y none (some at1)++sgn1++Txt.slice y (some (at1+1)) none].map V.str))
   refine ⟨_,rfl,D,_,_,_,rfl,rfl,SqL.of (S12.get D),hze,l,_,_,rfl,rfl,S12.get l,Uu (show _≤1000 by rw [List.length_map];omega),?_⟩
   have S13:=((S12.drop D).put l (.lst (xs.map V.str++[.str z])))
   refine ⟨xs++[z],_,_,_,_,_,_,rfl,?_,by rw [List.length_append,hxl];rfl,fun x hx=>?_⟩
   · rw [List.map_append,show n+53 * (i+1)=n+53 * i+50+1+1+1 by omega];exact S13.pull l
   · rcases List.mem_append.mp hx with hx | hx
     · exact hxo x hx
     · rw [List.mem_singleton.mp hx];exact key z hz
 · rintro σ H6 ⟨xs,x3,x4,x5,x6,x7,x8,rfl,S6,hxl,hxo⟩
   exact ⟨_,rfl,q l H6 xs S6 (by omega) hxo⟩
end
end K70
set_option maxHeartbeats 2000000
namespace L2
open PySem PySem.Spec PyProof.Rows
section
variable {prog:Program}{w:World}{A:Around}{E:Value→Shared→Prop}{s:Shared}
end
section
variable {X:Cx}{pins:List (Addr×Obj)}{σ:St}{A:Around}
end
section
variable {X:Cx}
end
end L2
set_option maxHeartbeats 4000000
namespace K70
open PySem L2
mutual
def wd:PyData→Bool
 | .tuple ds=>decide (ds.length≤20000)&&VZ ds
 | .list ds=>decide (ds.length≤20000)&&VZ ds
 | .none=>true
 | .bool _=>true
 | .int _=>true
 | .str _=>true
 | .dict _=>true
def VZ:List PyData→Bool
 | []=>true
 | d::ds=>wd d&&VZ ds
end
mutual
theorem toA {K:PySem.W.Frag}{H:Hp}:∀{v:V}{d:PyData},DatT K H v d→wd d=true→DatA K H v d
 | _,_,.non,_=>.non
 | _,_,.int i,_=>.int i
 | _,_,.str x,_=>.str x
 | _,_,.tup e q,w=>by
   rw [wd,Bool.and_eq_true,decide_eq_true_eq] at w
   exact .tup e (by rw [q.len];exact w.1) (toAs q w.2)
theorem toAs {K:PySem.W.Frag}{H:Hp}:∀{vs:List V}{ds:List PyData},DatTs K H vs ds→VZ ds=true→DatAs K H vs ds
 | _,_,.nil,_=>.nil
 | _,_,.cons a b,w=>by
   rw [VZ,Bool.and_eq_true] at w
   exact .cons (toA a w.1) (toAs b w.2)
end
mutual
theorem Znh:∀{p:Pg},p.ok→p.many≤20000→wd p.dat=true∧nb p.dat=true
 | .set x v s,h,_=>by
   have:wd (Ve v)=true∧nb (Ve v)=true:=by
     have hv:=h.2.1
     cases v<;>first | exact ⟨rfl,rfl⟩ | exact hv.elim
   refine ⟨?_,?_⟩
   · show (decide (4≤20000)&&(true&&(true&&(wd (Ve v)&&(true&&true)))))=true
     rw [this.1];rfl
   · show (true&&(true&&(nb (Ve v)&&(true&&true))))=true
     rw [this.2];rfl
 | .look x,_,_=>⟨rfl,rfl⟩
 | .slot w s,_,_=>⟨rfl,rfl⟩
 | .pass,_,_=>⟨rfl,rfl⟩
 | .blk w ps,h,hm=>by
   have e:(Pg.blk w ps).many=1+Pg.manys ps:=Pg.many_eq _
   obtain ⟨h1,h2⟩:=ZaV h.2 (by omega)
   have h3:=Pg.len_manys ps
   have h4:(Pg.dats ps).length≤20000:=by rw [Pg.dats_map,List.length_map];omega
   refine ⟨?_,?_⟩
   · show (decide (2≤20000)&&(true&&((decide ((Pg.dats ps).length≤20000)&&VZ (Pg.dats ps))&&true)))=true
     rw [decide_eq_true h4,h1];rfl
   · show (true&&(Vq (Pg.dats ps)&&true))=true
     rw [h2];rfl
 | .inn s ps,h,hm=>by
   have e:(Pg.inn s ps).many=1+Pg.manys ps:=Pg.many_eq _
   obtain ⟨h1,h2⟩:=ZaV h.2 (by omega)
   have h3:=Pg.len_manys ps
   have h4:(Pg.dats ps).length≤20000:=by rw [Pg.dats_map,List.length_map];omega
   refine ⟨?_,?_⟩
   · show (decide (3≤20000)&&(true&&(true&&((decide ((Pg.dats ps).length≤20000)&&VZ (Pg.dats ps))&&true))))=true
     rw [decide_eq_true h4,h1];rfl
   · show (true&&(true&&(Vq (Pg.dats ps)&&true)))=true
     rw [h2];rfl
theorem ZaV:∀{ps:List Pg},Pg.oks ps→Pg.manys ps≤20000→VZ (Pg.dats ps)=true∧Vq (Pg.dats ps)=true
 | [],_,_=>⟨rfl,rfl⟩
 | p :: ps,h,hm=>by
   have e:Pg.manys (p::ps)=p.many+Pg.manys ps:=rfl
   obtain ⟨h1,h2⟩:=Znh h.1 (by omega)
   obtain ⟨h3,h4⟩:=ZaV h.2 (by omega)
   refine ⟨?_,?_⟩
   · show (wd p.dat&&VZ (Pg.dats ps))=true
     rw [h1,h3];rfl
   · show (nb p.dat&&Vq (Pg.dats ps))=true
     rw [h2,h4];rfl
end
theorem ZaX {K:PySem.W.Frag}{H:Hp}{v:V}{ps:List Pg}(h:DatT K H v (.tuple (Pg.dats ps)))(ho:Pg.oks ps)(hm:Pg.manys ps≤20000):DatA K H v (.tuple (Pg.dats ps))∧nb (.tuple (Pg.dats ps))=true:=by
 obtain ⟨h1,h2⟩:=ZaV ho hm
 have h3:=Pg.len_manys ps
 refine ⟨toA h ?_,h2⟩
 show (decide ((Pg.dats ps).length≤20000)&&VZ (Pg.dats ps))=true
 rw [decide_eq_true (by rw [Pg.dats_map,List.length_map];omega),h1];rfl
theorem ZmP {K:PySem.W.Frag}{H H':Hp}{a:Addr}{xs:List V}(h:SqL K H a xs)(s:Same H H'):SqL K H' a xs:=by
 rcases h with (h | ⟨o,h⟩) | h
 · exact .inl (.inl (s _ _ h))
 · exact .inl (.inr ⟨o,s _ _ h⟩)
 · exact .inr h
def Zcq (K:PySem.W.Frag):Sp:=fun vs H Q _=>∃(a:Addr)(ns:List Int),vs=[.ref a]∧SqL K H a (ns.map V.int)∧ns.length≤63∧∀ H',Q (.bl true) H'
def ScQ (K:PySem.W.Frag)(ns:List Int):WA:=fun a h=>SqL K h a (ns.map V.int)
instance {K:PySem.W.Frag} {ns:List Int}:Up (ScQ K ns):=⟨fun h s=>ZmP h s⟩
end K70
set_option maxHeartbeats 4000000
namespace K70
open PySem L2
section
variable {P:Program}{w:World}{K:PySem.W.Frag}{mg:Str→Option Value}{base:Heap}
abbrev nNm:List Str:=["_law_box_here","_law_many","_law_letters","_law_size","_law_stem","_law_first","_law_step_here","_law_at","_law_found","_law_k","_law_one","_law_other"]
abbrev Zig:List Str:=["_law_box_here","_law_many"]
theorem scNm:Zz nNm Zig (Zl s_l_names):=⟨rfl,rfl,rfl,by decide +kernel,rfl,by decide +kernel,by decide +kernel⟩
theorem Zia {f:Addr}{fd:FuncData}(F:Fun K "_law_names" "_law_names" s_l_names f fd)(T:Yk mg)(DT:DTk P w K mg base 1):FnOk P w K mg base ZY 2 f fd Zig Zdb:=by
 refine F.ok scNm (fun vs H Q E h=>?_) (fun cdv A outer s H vs Q E hr h=>?_)
 · obtain ⟨p,n,many,Δ,rfl,_⟩:=h;rfl
 obtain ⟨p,n,many,Δ,rfl,S,hn,h0,h1,q⟩:=h
 have hr1:=hr
 refine' ⟨?t,?h,?r⟩
 case h =>
   conv=>arg 2;whnf
   with_reducible refine' (Zd ?h1 (Zd ?h2 (Zd ?h3 (Zd ?h4 (Zd (Xu ?h5 ?h6 ?h7 ?h8 (Zd ?h9 (Zi ?h10)) ?h11) (Zi ?h12))))))
   case h1=>exact Ws (Yf (Zc Zj (Zc (Zk Yn Zf (ZC DT hr1 (Zc (pv 0) (Zc Zf Za)))) Za))) (XT rfl (ZQ (ZD (i:=2) scNm.nd rfl (Or.inr rfl)) (ZQ (ZD (i:=3) scNm.nd rfl (Or.inl rfl)) Xi)))
   case h2=>exact Zw (i:=4) scNm.nd rfl (Or.inl rfl) (YH PySem.F.plainAttrs_str PySem.F.slot_str_join PySem.F.type_str_join Uk Zj (Zc (Xx (CompOk.of nNm s_l_names rfl rfl (by decide +kernel)) rfl (Wj rfl T.range (Zc (Zk WM (pv 3) Zf) Za))  (fun _ _ _ _ _=>ZX WO (pv 2) (ZC DT hr1 (Zc (pv 0) (Zc Zf Za))) (fun _ _=>rfl))) Za))
   case h3=>exact Zep (i:=5) (j:=6) (k:=7) rfl scNm.nd rfl rfl rfl (by decide) (by decide) (by decide) rfl rfl rfl (Zc (ZC DT hr1 (Zc (pv 0) (Zc Zf Za))) (Zc (ZX YU (Yw (Zc Zf (Zc Zf (Zc Zf (Zc Zf Za))))) (ZC DT hr1 (Zc (pv 0) (Zc Zf Za))) (fun _ _=>rfl)) (Zc (ZC DT hr1 (Zc (pv 0) (Zc (Zk WM (pv 3) Zf) Za))) Za))) rfl
   case h4=>exact Zw (i:=8) scNm.nd rfl (Or.inl rfl) (Yw Za)
   case h5=>exact PassesOwn.never
   case h6=>exact rfl
   case h7=>exact Wj rfl T.range (Zc (pv 1) Za)
   case h8=>exact ZD (i:=9) scNm.nd rfl (Or.inl rfl)
   case h9=>exact Ws (Zn ZdD rfl T.divmod (by decide +kernel) (Zc (Zk WQ (Zk Yn (pv 5) (Zk Ur (pv 6) (pv 9))) Zf) (Zc Zf Za))) (XT rfl (ZQ (ZD (i:=10) scNm.nd rfl (Or.inl rfl)) (ZQ (ZD (i:=11) scNm.nd rfl (Or.inl rfl)) Xi)))
   case h10=>exact Wl (YH PySem.F.plainAttrs_list PySem.F.slot_list_append PySem.F.type_list_append YX (pv 8) (Zc (Zk Zs (Zk Zs (Zk Zs (ZM Yx (pv 4) ZV (ZK (pv 7))) (ZX WO (pv 2) (pv 10) (fun _ _=>rfl))) (ZX WO (pv 2) (pv 11) (fun _ _=>rfl))) (ZM Yx (pv 4) (ZK (pv 7)) ZV)) Za))
   case h11=>exact fun _=>rfl
   case h12=>exact Zo (pv 8)
 refine ⟨_,rfl,p,_,7,_,rfl,S,by omega,by decide,by decide,fun r1 H1 a0 a1 S1=>⟨_,_,rfl,rfl,(by show 2≤sizeLine;decide),fun t ht=>⟨t,_,rfl,SqT.of Zb,rfl,_,_,rfl,_,_,rfl,rfl,?_⟩⟩⟩
 generalize hE:upd H1 t _=H2
 have S2:=(S1.newE ht hE).tail
 clear hE
 refine ⟨rfl,_,rfl,_,_,rfl,rfl,_,rfl,by omega,by omega,fun D hD=>?_⟩
 have e1:(2+r1 - 2).toNat=r1.toNat:=by omega
 rw [e1]
 refine ZdG (Zr (show r1.toNat≤1000 by omega)) S2 hD (fun i ys Δ'=>∃ zs:List Str,ys=zs.map V.str∧(∀ z∈zs,∃ c,z=⟨#[c]⟩∧Ua c=true)∧Δ'=(p,Bx (n+1+i))::Δ) ⟨[],rfl,(fun _ h=>nomatch h),rfl⟩ ?_ ?_
 · rintro i ys Δ' H' hi hl ⟨zs,rfl,hz,rfl⟩ S'
   refine ⟨_,rfl,_,rfl,p,_,26,_,rfl,S'.pull p,by omega,by decide,by decide,fun r3 H3 b0 b1 S3=>?_⟩
   obtain ⟨c,hc,hcl⟩:=Zbp (x:=a26) Zbh b0 (by rw [Uj];exact b1)
   refine ⟨a26,r3,c,rfl,rfl,by rw [Uj];decide,hc,_,⟨zs++[⟨#[c]⟩],by rw [List.map_append];rfl,?_,rfl⟩,S3.pull D⟩
   intro z hz'
   rcases List.mem_append.mp hz' with h | h
   · exact hz z h
   · rw [List.mem_singleton.mp h];exact ⟨c,rfl,hcl⟩
 rintro ys Δ' H3 ⟨zs,rfl,hz,rfl⟩ hl S3
 rw [List.length_map] at hl
 obtain ⟨g1,g2,g3⟩:=Zgj hz
 refine ⟨_,D,zs,rfl,rfl,SqL.of (S3.get D),by omega,?_⟩
 have S4:=S3.tail
 generalize Txt.join (Str.ofString "") zs=stem at *
 refine ⟨_,rfl,p,_,676,_,rfl,S4,by omega,by decide,by decide,fun r5 H5 b0 b1 S5=>⟨(by show 4≤sizeLine;decide),fun l hl4=>?_⟩⟩
 generalize hE:upd H5 l _=H6
 have S6:=S5.newE hl4 hE
 clear hE
 refine ⟨_,rfl,p,_,4,_,rfl,S6.pull p,by omega,by decide,by decide,fun r7 H7 c0 c1 S7=>?_⟩
 obtain ⟨sv,hsm,hsv⟩:=Zka (xs:=[.int 1,.int 27,.int 5,.int 251]) c0 c1
 obtain ⟨stp,rfl,hst⟩:∃ z:Int,sv=.int z∧0≤z∧z≤251:=by
   simp only [List.mem_cons,List.not_mem_nil,or_false] at hsm
   rcases hsm with rfl | rfl | rfl | rfl<;>exact ⟨_,rfl,by decide,by decide⟩
 refine ⟨l,_,_,_,rfl,rfl,SqL.of (S7.get l),hsv,?_⟩
 have S8:=S7.drop l
 refine ⟨_,rfl,_,rfl,_,_,rfl,rfl,p,_,_,_,rfl,S8,by omega,by omega,by omega,fun r9 H9 d0 d1 S10=>⟨_,_,_,rfl,?_⟩⟩
 refine ⟨(by show 0≤sizeLine;decide),fun fl hfl=>?_⟩
 generalize hE:upd H9 fl _=H11
 have S11:=S10.newE hfl hE
 clear hE
 refine ⟨_,rfl,many,rfl,by omega,by omega,?_⟩
 refine UE (fun i σ H'=>∃ x9 x10 x11 xs,σ=[some (.ref p),some (.int many),some (.str a26),some (.int (2+r1)),some (.str stem),some (.int r5),some (.int stp),some (.int r9),some (.ref fl),x9,x10,x11]∧Sep ((fl,UB (xs.map V.str))::(p,Bx (n+20))::Δ) H'∧xs.length=i∧∀ x∈xs,Yg x∧2≤x.length)
   ⟨_,_,_,[],rfl,(S11.pull p).le (by omega) |>.pull fl,rfl,fun _ h=>nomatch h⟩ ?_ ?_
 · rintro i σ H' hi ⟨x9,x10,x11,xs,rfl,S',hxl,hxs⟩
   have hb:0≤stp * (0+(i:Int)):=Int.mul_nonneg hst.1 (by omega)
   refine ⟨_,rfl,_,rfl,_,rfl,_,_,rfl,rfl,.inl ⟨by omega,by omega⟩,_,_,rfl,rfl,_,_,rfl,rfl,(by show (0:Int) < 676;decide),?_⟩
   obtain ⟨z,hz⟩:∃ z:Int,(r5+stp * (0+(i:Int))) % 676=z:=⟨_,rfl⟩
   have hz0:0≤z:=by rw [← hz];exact Int.emod_nonneg _ (by decide)
   have hz1:z < 676:=by rw [← hz];exact Int.emod_lt_of_pos _ (by decide)
   refine ⟨z,26,congrArg (fun y=>[V.int y,V.int 26]) hz,⟨by decide,by decide⟩,fun t2 ht2=>⟨t2,_,rfl,SqT.of Zb,rfl,_,_,rfl,_,_,rfl,rfl,?_⟩⟩
   generalize hE:upd H' t2 _=H12
   have S12:=(S'.newE ht2 hE).tail
   clear hE
   obtain ⟨c1',hc1,hcl1⟩:=Zbp (x:=a26) Zbh (r:=z / 26) (by omega) (by rw [Uj];omega)
   obtain ⟨c2',hc2,hcl2⟩:=Zbp (x:=a26) Zbh (r:=z % 26) (by omega) (by rw [Uj];omega)
   have hsl:=ZgZ (x:=stem) d0 (by omega)
   refine ⟨_,rfl,.inl ⟨rfl,_,SqL.of (S12.get fl)⟩,_,rfl,_,rfl,r9,rfl,stem,rfl,Zr (show stem.length≤1000 by omega),_,rfl,_,rfl,a26,_,c1',rfl,rfl,by rw [Uj];decide,hc1,_,_,rfl,rfl,Zr (show _≤1000 by rw [Wi];omega),?_⟩
   refine ⟨_,rfl,_,rfl,a26,_,c2',rfl,rfl,by rw [Uj];decide,hc2,_,_,rfl,rfl,Zr (show _≤1000 by rw [Wg,Wi,Wi];omega),_,rfl,_,rfl,r9,rfl,stem,rfl,Zr (show stem.length≤1000 by omega),_,_,rfl,rfl,Zr (show _≤1000 by rw [Wg,Wg,Wi,Wi];omega),?_⟩
   refine ⟨fl,_,_,rfl,rfl,S12.get fl,Uu (show _≤1000 by rw [List.length_map];omega),?_⟩
   have S13:=S12.put fl (.lst (xs.map V.str++[.str (Txt.slice stem none (some r9)++(⟨#[c1']⟩:Str)++(⟨#[c2']⟩:Str)++Txt.slice stem (some r9) none)]))
   refine ⟨_,_,_,xs++[Txt.slice stem none (some r9)++(⟨#[c1']⟩:Str)++(⟨#[c2']⟩:Str)++Txt.slice stem (some r9) none],rfl,by rw [List.map_append];exact S13,by simp [hxl],fun x hx=>?_⟩
   rcases List.mem_append.mp hx with h | h
   · exact hxs x h
   · rw [List.mem_singleton.mp h]
     refine ⟨⟨?_,?_,Zai (Zai (Zai (Vn g3) (Zdm hcl1)) (Zdm hcl2)) (Vn g3)⟩,?_⟩<;>(rw [Wg,Wg,Wg,Wi,Wi];omega)
 · rintro σ H' ⟨x9,x10,x11,xs,rfl,S',hxl,hxs⟩
   exact ⟨_,rfl,q fl H' xs S' hxl hxs⟩
end
end K70
set_option maxHeartbeats 4000000
namespace K70
open PySem L2
def Ut (n y s:Str):Str:=(Str.ofString "set ")++n++(Str.ofString " ")++y++(Str.ofString " ")++s
theorem Uy (n y s:Str):(Ut n y s).cps.toList=(Str.ofString "set").cps.toList++32::(n.cps.toList++32::(y.cps.toList++32::s.cps.toList)):=by
 unfold Ut
 rw [Yo,Yo,Yo,Yo,Yo,show (Str.ofString "set ").cps.toList=(Str.ofString "set").cps.toList++[32] by decide +kernel,show (Str.ofString " ").cps.toList=[32] by decide +kernel]
 simp
theorem Zkd (n s:Str)(v:V):Ut n (ZP v) s=(Pg.set n v s).srow:=by
 apply ZR
 show _=(Txt.join " " [Str.ofString "set",n,ZP v,s]).cps.toList
 rw [Ziz,Uy]
theorem Zen {p:Pg}(h:p.inner=[]):WU [p]=p.srow:=by
 unfold WU
 show Txt.join "\n" (UO p++[])=_
 rw [Xj,h];rfl
theorem ZkH {n y s:Str}{p:Pg}(h:Ut n y s=p.srow)(hp:p.ok):∃ x v z,p=.set x v z:=by
 have e:=congrArg (fun x:Str=>x.cps.toList.head?) h
 replace e:(Ut n y s).cps.toList.head?=p.srow.cps.toList.head?:=e
 rw [Uy] at e
 replace e:some 115=p.srow.cps.toList.head?:=e
 have two:∀ (w:Str) (x:Str) (c:Nat) (r:List Nat),w.cps.toList=c::r→(Txt.join " " [w,x]).cps.toList.head?=some c:=fun w x c r h=>by rw [ZiT,h];rfl
 cases p with
 | set x v z=>exact ⟨x,v,z,rfl⟩
 | look x=>rw [show (Pg.look x).srow.cps.toList.head?=some 108 from two (Str.ofString "look") x 108 _ (show _=108::[111,111,107] by decide +kernel)] at e;cases e
 | slot w x => rcases hp.1 with rfl | rfl
               · rw [show (Pg.slot "back" x).srow.cps.toList.head?=some 98 from two (Str.ofString "back") x 98 _ (show _=98::[97,99,107] by decide +kernel)] at e;cases e
               · rw [show (Pg.slot "copy" x).srow.cps.toList.head?=some 99 from two (Str.ofString "copy") x 99 _ (show _=99::[111,112,121] by decide +kernel)] at e;cases e
 | pass=>exact absurd e (show ¬ some 115=(Str.ofString "pass").cps.toList.head? by decide +kernel)
 | blk w ps => rcases hp.1 with rfl | rfl
               · exact absurd e (show ¬ some 115=(Str.ofString "begin").cps.toList.head? by decide +kernel)
               · exact absurd e (show ¬ some 115=(Str.ofString "late").cps.toList.head? by decide +kernel)
 | inn x ps=>rw [show (Pg.inn x ps).srow.cps.toList.head?=some 105 from two (Str.ofString "in") x 105 _ (show _=105::[110] by decide +kernel)] at e;cases e
theorem XJ (n z:Str)(v:V):Pg.rk [Pg.set n v z]≤10∧Pg.hgts [Pg.set n v z]≤100∧Pg.manys [Pg.set n v z]≤1000:=⟨Nat.le_of_ble_eq_true rfl,Nat.le_of_ble_eq_true rfl,Nat.le_of_ble_eq_true rfl⟩
section
variable {P:Program}{w:World}{K:PySem.W.Frag}{mg:Str→Option Value}{base:Heap}{CB fpm:Addr}{fdpm:FuncData}
abbrev nLw:List Str:=["_law_script","_law_k","_law_box_here","_law_name","_law_slot","_law_turn","_law_value_here","_law_step_here","_law_row","_law_word"]
abbrev pnLw:List Str:=["_law_script"]
theorem scLw:Zz nLw pnLw (Zl s_law):=⟨rfl,rfl,rfl,by decide +kernel,rfl,by decide +kernel,by decide +kernel⟩
theorem Zld {f:Addr}{fd:FuncData}{k:Nat}(F:Fun K "law" "law" s_law f fd)(T:Yk mg)(DB:Def P w K mg base k "_law_box" ["_law_script","_law_k"] (Zdf K))(DN:Def P w K mg base k "_law_names" Zig Zdb)(DV:Def P w K mg base k "_law_value" ["_law_box_here"] Vg)(DWr:Def P w K mg base k "_law_written" ZeG (fun vs H Q E=>∃ v,vs=[v]∧IsVal v∧∀ H',Same H H'→Q (.str (ZP v)) H'))(DPT:Def P w K mg base k "program_text" Zhx (spPT K 10))(DPm:Def P w K mg base k "program_from" VC (Ziu K))(DSa:Def P w K mg base k "_law_same" Zal (Vy K 16))(DWs:Def P w K mg base k "_law_words" ZhE spWs)(DSt:Def P w K mg base k "_law_step" ZhM ZcW)(DRf:Def P w K mg base k "_law_refused" ZhZ (spRf P w K mg base 8 CB))
   (OPB:FnOk P w K mg base (Vz P w base) 8 fpm fdpm VC (ZeS CB)) (hb:Binds K fdpm VC []) (hkp:PySem.W.keepIn K (.ref fpm)=true) (hPm:mg "program_from"=some (.ref fpm)):FnOk P w K mg base ZY (k+1) f fd pnLw (Zcq K):=by
 refine F.ok scLw (fun vs H Q E h=>?_) (fun cdv A outer s H vs Q E hr h=>?_)
 · obtain ⟨a,ns,rfl,_⟩:=h;rfl
 obtain ⟨a,ns,rfl,hS,h63,q⟩:=h
 have hr1:=hr
 refine' ⟨?t,?h,?r⟩
 case h =>
   conv=>arg 2;whnf
   with_reducible refine' (Zd (Xu ?h1 ?h2 ?h3 ?h4 (Zd ?h5 (Zd ?h6 (Zd (Xu ?h7 ?h8 ?h9 ?h10 (Zd ?h11 (Zd ?h12 (Zd ?h13 (Zi (ZS ?h14 (Zi ?h15) ZE))))) ?h16) (Zi (Xu ?h17 ?h18 ?h19 ?h20 (Zd ?h21 (Zd ?h22 (Zi (ZS ?h23 (Zi (ZS ?h24 (Zi ?h25) ZE)) (Zi (ZS ?h26 (Zi ?h27) ZE)))))) ?h28))))) ?h29) (Zi ?h30))
   case h1=>exact PassesOwn.never
   case h2=>exact rfl
   case h3=>exact Wj rfl T.range (Zc (Zn (Zgq rfl) rfl T.max (by decide +kernel) (Zc Zf (Zc (Zn (Zgm rfl) rfl T.min (by decide +kernel) (Zc (Zn Yy rfl T.len PySem.boot_len (Zc (pv 0) Za)) (Zc Zf Za))) Za))) Za)
   case h4=>exact ZD (i:=1) scLw.nd rfl (Or.inl rfl)
   case h5=>exact Zw (i:=2) scLw.nd rfl (Or.inl rfl) (ZC DB hr (Zc (pv 0) (Zc (pv 1) Za)))
   case h6=>exact Ws (ZC DN hr (Zc (pv 2) (Zc Zf Za))) (ZlN rfl (ZQ (ZD (i:=3) scLw.nd rfl (Or.inl rfl)) (ZQ (ZD (i:=4) scLw.nd rfl (Or.inl rfl)) Xi)))
   case h7=>exact PassesOwn.never
   case h8=>exact rfl
   case h9=>exact Wj rfl T.range (Zc Zf Za)
   case h10=>exact ZD (i:=5) scLw.nd rfl (Or.inl rfl)
   case h11=>exact Zw (i:=6) scLw.nd rfl (Or.inl rfl) (ZC DV hr (Zc (pv 2) Za))
   case h12=>exact Zw (i:=7) scLw.nd rfl (Or.inl rfl) (Yf (Zc Zj (Zc (pv 3) (Zc (pv 6) (Zc (pv 4) Za)))))
   case h13=>exact Zw (i:=8) scLw.nd rfl (Or.inl rfl) (Zk Zs (Zk Zs (Zk Zs (Zk Zs (Zk Zs Zj (pv 3)) Zj) (ZC DWr hr (Zc (pv 6) Za))) Zj) (pv 4))
   case h14=>exact PW.pt (Xf (ZF XZ (ZC DPT hr (Zc (Yf (Zc (pv 7) Za)) Za)) (pv 8) (ZH _)) (XI (Xg (Yh (ZC DSa hr (Zc (ZC DPm hr (Zc (pv 8) Za)) (Zc (Yf (Zc (pv 7) Za)) Za)))))))
   case h15=>exact Zo UD
   case h16=>exact fun _=>rfl
   case h17=>exact PassesOwn.never
   case h18=>exact rfl
   case h19=>exact Zbs (ZC DWs hr (Zc (pv 2) Za))
   case h20=>exact ZD (i:=9) scLw.nd rfl (Or.inl rfl)
   case h21=>exact Zw (i:=8) scLw.nd rfl (Or.inl rfl) (Zk Zs (Zk Zs (Zk Zs (Zk Zs (Zk Zs Zj (pv 3)) Zj) (pv 9)) Zj) (pv 4))
   case h22=>exact Zw (i:=7) scLw.nd rfl (Or.inl rfl) (ZC DSt hr (Zc (pv 8) Za))
   case h23=>exact XU (Ww (pv 7))
   case h24=>exact Xg (Yh (ZC DSa hr (Zc (ZC DRf hr (Zc (YF (v:=.ref _) rfl hPm rfl) (Zc (pv 8) Za))) (Zc Zf Za))))
   case h25=>exact Zo UD
   case h26=>exact Xg (Yh (ZC DSa hr (Zc (ZC DPm hr (Zc (pv 8) Za)) (Zc (Yf (Zc (pv 7) Za)) Za))))
   case h27=>exact Zo UD
   case h28=>exact fun _=>rfl
   case h29=>exact fun _=>rfl
   case h30=>exact Zo UD
 have S:Sep [(a,ScQ K ns)] H:=⟨H,fun _ _ e=>e,hS,trivial⟩
 refine ⟨_,rfl,a,_,rfl,.inl hS,_,_,rfl,_,_,rfl,?_⟩
 rw [List.length_map]
 generalize hm:(if (if (3:Int) < ((ns.length:Nat):Int) then 3 else ((ns.length:Nat):Int)) > 1 then (if (3:Int) < ((ns.length:Nat):Int) then 3 else ((ns.length:Nat):Int)) else 1)=m
 have hm9:0≤m∧m≤9:=by rw [← hm];split<;>(try split)<;>omega
 refine ⟨m,rfl,by omega,by omega,?_⟩
 have len2:∀ (x y:Str),x.length≤500→y.length≤500→x.length+y.length≤sizeLine:=fun x y h1 h2=>Zr (show _≤1000 by omega)
 have h4:(Str.ofString "set ").length=4:=by decide +kernel
 have h1:(Str.ofString " ").length=1:=by decide +kernel
 refine UE (fun i σ H'=>∃ x1 x2 x3 x4 x5 x6 x7 x8 x9,σ=[some (.ref a),x1,x2,x3,x4,x5,x6,x7,x8,x9]∧Sep [(a,ScQ K ns)] H') ⟨_,_,_,_,_,_,_,_,_,rfl,S⟩ ?_ (fun σ H' _=>q H')
 rintro i σ H0 hi ⟨x1,x2,x3,x4,x5,x6,x7,x8,x9,rfl,S0⟩
 refine ⟨_,rfl,_,rfl,a,ns,_,_,rfl,S0.get a,S0,by omega,by omega,fun p H1 s1 S1=>?_⟩
 refine ⟨_,rfl,p,_,2,_,rfl,S1,by omega,by decide,by decide,fun l H2 xs S2 hxl hxn=>?_⟩
 match xs,hxl with
 | [n,z],_ =>
 have hn:=(hxn n (by simp)).1
 have hz:=(hxn z (by simp)).1
 refine ⟨l,_,rfl,SqL.of (S2.get l),rfl,_,_,rfl,_,_,rfl,rfl,?_⟩
 have S2:=S2.drop l
 have hrow:∀ y:Str,y.length≤300→(Ut n y z).length≤400:=fun y hy=>by
   have:=hn.2.1;have:=hz.2.1
   unfold Ut
   rw [Zy,Zy,Zy,Zy,Zy,h4,h1];omega
 refine ⟨20,rfl,by decide,by decide,?_⟩
 refine UE (fun i σ H'=>∃ x5 x6 x7 x8,σ=[some (.ref a),some (.int (0+((_:Nat):Int))),some (.ref p),some (.str n),some (.str z),x5,x6,x7,x8,x9]∧Sep [(p,Bx (20+50 * i)),(a,ScQ K ns)] H') ⟨_,_,_,_,rfl,S2⟩ ?_ ?_
 · rintro j σ H3 hj ⟨x5,x6,x7,x8,rfl,S3⟩
   replace hj:j < 20:=by first | exact_mod_cast hj | omega
   refine ⟨_,rfl,p,_,_,rfl,S3,by omega,fun v H4 hv S4=>?_⟩
   refine ⟨_,rfl,_,rfl,_,rfl,(by show 4≤sizeLine;decide),fun ts hts=>?_⟩
   have S5:=(S4.new hts (.tup [.str "set",.str n,v,.str z])).drop ts
   have ets:upd H4 ts (.tup [.str "set",.str n,v,.str z]) ts=_:=Zb
   generalize upd H4 ts (.tup [.str "set",.str n,v,.str z])=H5 at S5 ets ⊢
   have hp:(Pg.set n v z).ok:=⟨hn,hv,hz⟩
   have hwl:=Zar hv
   have hn8:=hn.2.1
   have hz8:=hz.2.1
   refine ⟨_,rfl,_,_,rfl,rfl,len2 _ _ (by omega) (by omega),_,_,rfl,rfl,len2 _ _ (by rw [Zy];omega) (by omega),_,rfl,v,rfl,hv,fun H6 s6=>?_⟩
   refine ⟨_,_,rfl,rfl,len2 _ _ (by rw [Zy,Zy];omega) (by omega),_,_,rfl,rfl,len2 _ _ (by rw [Zy,Zy,Zy];omega) (by omega),_,rfl,_,_,rfl,rfl,len2 _ _ (by rw [Zy,Zy,Zy,Zy];omega) (by omega),?_⟩
   change UG _ (.str (Ut n (ZP v) z)) _ _ _
   have er:Ut n (ZP v) z=WU [Pg.set n v z]:=by rw [Zkd,Zen rfl]
   rw [er]
   have S6:=S5.mono s6
   have ets6:=s6 _ _ ets
   refine ⟨_,rfl,(by show 1≤sizeLine;decide),fun tu htu=>?_⟩
   have s7:=Zh htu (.tup [.ref ts])
   refine ⟨_,[Pg.set n v z],rfl,.tup (SqT.of Zb) (.cons (ZaT hp rfl (SqT.of (s7 _ _ ets6))) .nil),⟨hp,trivial⟩,(XJ n z v).1,(XJ n z v).2.1,(XJ n z v).2.2,fun H8 s8=>?_⟩
   refine ⟨_,rfl,rfl,_,rfl,?_⟩
   rw [show (!decide (V.str (WU [Pg.set n v z])=V.str (WU [Pg.set n v z])))=false by simp]
   refine Zu ⟨_,rfl,[Pg.set n v z],rfl,⟨hp,trivial⟩,(XJ n z v).2.1,(XJ n z v).2.2,fun t H9 s9 dt=>⟨_,rfl,(by show 1≤sizeLine;decide),fun tw htw=>?_⟩⟩
   have s10:=Zh htw (.tup [.ref ts])
   have s79:=(s7.trans s8).trans s9
   obtain ⟨A1,nb1⟩:=ZaX (dt.same s10) ⟨hp,trivial⟩ (Nat.le_trans (XJ n z v).2.2 (by decide))
   have d2:DatT K (upd H9 tw (.tup [.ref ts])) (.ref tw) (.tuple (Pg.dats [Pg.set n v z])):=.tup (SqT.of Zb) (.cons (ZaT hp rfl (SqT.of (s10 _ _ (s79 _ _ ets6)))) .nil)
   obtain ⟨A2,_⟩:=ZaX d2 ⟨hp,trivial⟩ (Nat.le_trans (XJ n z v).2.2 (by decide))
   have hdp:=Pg.deeps [Pg.set n v z]
   refine ⟨_,_,_,rfl,A1,A2,nb1,?_,fun H11 s11=>⟨_,rfl,Zu ⟨_,_,_,_,rfl,?_⟩⟩⟩
   · show PyData.depthAll (Pg.dats [Pg.set n v z])+1 < 16
     have:Pg.hgts [Pg.set n v z]≤3:=Nat.le_of_ble_eq_true rfl
     omega
   · rw [show 20+50 * (j+1)=20+50 * j+50 by omega]
     exact S6.mono ((s79.trans s10).trans s11)
 rintro σ H3 ⟨x5,x6,x7,x8,rfl,S3⟩
 refine ⟨_,rfl,p,_,_,rfl,S3,by omega,fun lw H4 xs S4 hxl hxo=>?_⟩
 have elw:H4 lw=some (.lst (xs.map V.str)):=S4.get lw
 have S4:=(S4.drop lw).drop p
 refine ⟨lw,rfl,⟨_,SqL.of elw⟩,?_⟩
 refine ZcX (xs:=xs.map V.str) (fun i σ H'=>∃ y1 y2 y5 y6 x7 x8 x9,σ=[some (.ref a),y1,y2,some (.str n),some (.str z),y5,y6,x7,x8,x9]∧Same H4 H') ⟨_,_,_,_,_,_,_,rfl,Same.refl _⟩ (fun i σ H' _ ⟨_,_,_,_,_,_,_,_,s'⟩=>SqL.of (s' _ _ elw)) ?_ ?_
 · rintro j u σ H5 hu ⟨y1,y2,y5,y6,x7,x8,x9,rfl,s5⟩
   rw [List.getElem?_map] at hu
   obtain ⟨y,ey,rfl⟩:=Option.map_eq_some_iff.mp hu
   have hyo:=hxo y (List.mem_of_getElem? ey)
   unfold WX at hyo
   rw [Bool.and_eq_true,decide_eq_true_eq] at hyo
   obtain ⟨hyl,hy10⟩:=hyo
   have hn8:=hn.2.1
   have hz8:=hz.2.1
   have hrl:=hrow y hyl
   refine ⟨_,rfl,_,_,rfl,rfl,len2 _ _ (by omega) (by omega),_,_,rfl,rfl,len2 _ _ (by rw [Zy];omega) (by omega),_,rfl,_,_,rfl,rfl,len2 _ _ (by rw [Zy,Zy];omega) (by omega),_,_,rfl,rfl,len2 _ _ (by rw [Zy,Zy,Zy];omega) (by omega),_,rfl,_,_,rfl,rfl,len2 _ _ (by rw [Zy,Zy,Zy,Zy];omega) (by omega),?_⟩
   change UG _ (.str (Ut n y z)) _ _ _
   have hsp:Txt.split (Ut n y z) (Str.ofString "\n")=[Ut n y z]:=by
     rw [lf1]
     refine UC fun m=>?_
     rw [Uy] at m
     have hy':(10:Nat) ∉ y.cps.toList:=fun m=>by have:=List.all_eq_true.mp hy10 10 m;exact absurd this (by decide)
     have hn':=UA hn (c:=10) (by decide)
     have hz':=UA hz (c:=10) (by decide)
     have hs':(10:Nat) ∉ (Str.ofString "set").cps.toList:=by decide +kernel
     simp only [List.mem_append,List.mem_cons] at m
     rcases m with m | m | m | m | m | m | m
     · exact hs' m
     · cases m
     · exact hn' m
     · cases m
     · exact hy' m
     · cases m
     · exact hz' m
   have hne:(Ut n y z).length≠0:=by
     rw [Zt,Uy,List.length_append,List.length_cons];omega
   have hset:∀ p:Pg,p.ok→Ut n y z=p.srow→∃ x v s,p=.set x v s:=fun p h e=>ZkH e h
   generalize Ut n y z=row at hrl hsp hne hset ⊢
   refine ⟨_,rfl,row,rfl,by omega,fun hno H6 s6=>?_,fun hs hyes t6 H6 s6 _ et6=>?_⟩
   · refine ⟨_,rfl,_,rfl,Zv ?_⟩
     refine ⟨_,rfl,fpm,fdpm,VC,ZeS CB,row,rfl,OPB,hb,hkp,fun Qc Ec hQ hE=>⟨row,[],row,[],rfl,by omega,hne,hsp,(fun _ z=>nomatch z),trivial,fun l p hp hin hl0 e=>?_,by omega,by decide,fun dx H7 s7 _ ed=>hE dx 0 H7 ed fun H8 s8=>?_⟩⟩
     · have hl0:l=0:=Nat.le_zero.mp hl0
       rw [hl0,Wb] at e
       rw [e,Uo hp] at hno;cases hno
     · refine ⟨.int 0,.int 0,.int 0,rfl,.int 0,.int 0,rfl,(by decide),fun H9 s9=>⟨_,rfl,Zu ⟨_,_,_,_,_,_,_,rfl,(((s5.trans s6).trans s7).trans s8).trans s9⟩⟩⟩
   · obtain ⟨p,hp,hin,hrw,rfl⟩:=VL hyes
     obtain ⟨x,v,s,rfl⟩:=hset p hp hrw
     have er:row=WU [Pg.set x v s]:=by rw [hrw,Zen rfl]
     have hd1:=ZaT (K:=K) hp rfl (SqT.of et6)
     subst er
     refine ⟨_,rfl,_,rfl,Zu ?_⟩
     refine ⟨_,rfl,[Pg.set x v s],rfl,⟨hp,trivial⟩,(XJ x s v).2.1,(XJ x s v).2.2,fun t H9 s9 dt=>⟨_,rfl,(by show 1≤sizeLine;decide),fun tw htw=>?_⟩⟩
     have s10:=Zh htw (.tup [.ref t6])
     obtain ⟨A1,nb1⟩:=ZaX (dt.same s10) ⟨hp,trivial⟩ (Nat.le_trans (XJ x s v).2.2 (by decide))
     have d2:DatT K (upd H9 tw (.tup [.ref t6])) (.ref tw) (.tuple (Pg.dats [Pg.set x v s])):=.tup (SqT.of Zb) (.cons (hd1.same (s9.trans s10)) .nil)
     obtain ⟨A2,_⟩:=ZaX d2 ⟨hp,trivial⟩ (Nat.le_trans (XJ x s v).2.2 (by decide))
     have hdp:=Pg.deeps [Pg.set x v s]
     refine ⟨_,_,_,rfl,A1,A2,nb1,?_,fun H11 s11=>⟨_,rfl,Zu ⟨_,_,_,_,_,_,_,rfl,(((s5.trans s6).trans s9).trans s10).trans s11⟩⟩⟩
     show PyData.depthAll (Pg.dats [Pg.set x v s])+1 < 16
     have:Pg.hgts [Pg.set x v s]≤3:=Nat.le_of_ble_eq_true rfl
     omega
 · rintro σ H5 ⟨y1,y2,y5,y6,x7,x8,x9,rfl,s5⟩
   exact ⟨_,_,_,_,_,_,_,_,_,rfl,S4.mono s5⟩
end
end K70
set_option maxHeartbeats 4000000
namespace K70
open PySem L2
abbrev Zjv (P:Program)(w:World)(K:PySem.W.Frag)(mg:Str→Option Value)(base:Heap):Prop:=Def P w K mg base 1 "_law_take" ["_law_box_here","_law_many"] (ZaN 4611686018427387904)
section
variable {P:Program}{w:World}{K:PySem.W.Frag}{mg:Str→Option Value}{base:Heap}
abbrev vSigns:Str:=Zjq (WH s_l_value)
theorem vs_len:vSigns.length=94:=by decide +kernel
theorem Zmu:vSigns.cps.toList.all Yd=true:=by decide +kernel
abbrev nVv:List Str:=["_law_box_here","_law_way","_law_signs"]
theorem scVal:Zz nVv ["_law_box_here"] (Zl s_l_value):=⟨rfl,rfl,rfl,by decide +kernel,rfl,by decide +kernel,by decide +kernel⟩
theorem Zip {f:Addr}{fd:FuncData}(F:Fun K "_law_value" "_law_value" s_l_value f fd)(T:Yk mg)(D:Zjv P w K mg base):FnOk P w K mg base ZY 2 f fd ["_law_box_here"] Zet:=by
 refine F.ok scVal (fun vs H Q E h=>?_) (fun cdv A outer s H vs Q E hr h=>?_)
 · obtain ⟨p,n,rfl,_⟩:=h;rfl
 obtain ⟨p,n,rfl,hB,hn,q⟩:=h
 refine ⟨_,Zd (Zw (i:=1) scVal.nd rfl (Or.inl rfl) (ZC D hr (Zc (pv 0) (Zc Zf Za))))
   (Zd (ZS (ZF Zcp (pv 1) Zf (ZH _)) (Zi (Zo (Zk WM (ZC D hr (Zc (pv 0) (Zc Zf Za))) Zf))) ZE)
   (Zd (ZS (ZF Xn (pv 1) Zf (ZH _)) (Zi (Zo (ZX YU (Yw (YZ (Zk WM (Zk Zbf Zf Zf) Zf) (YZ (Zk WM Zf (Zk Zbf Zf Zf)) (YZ (Zk Zbf Zf Zf) (YZ Zf Za rfl) rfl) rfl) rfl)) (ZC D hr (Zc (pv 0) (Zc Zf Za))) (fun _ _=>rfl)))) ZE)
   (Zd (ZS (ZF Xn (pv 1) Zf (ZH _)) (Zi (Zo (ZX YU (Yw (YZ Zj (YZ Zj (YZ Zj (YZ Zj (YZ Zj (YZ Zj (YZ Zj (YZ Zj Za rfl) rfl) rfl) rfl) rfl) rfl) rfl) rfl)) (ZC D hr (Zc (pv 0) (Zc Zf Za))) (fun _ _=>rfl)))) ZE)
   (Zd (Zw (i:=2) scVal.nd rfl (Or.inr rfl) Zj)
   (Zi (Zo (YH PySem.F.plainAttrs_str PySem.F.slot_str_join PySem.F.type_str_join Uk Zj (Zc (Xx (CompOk.of nVv s_l_value rfl rfl (by decide +kernel)) rfl
     (Wj rfl T.range (Zc (ZC D hr (Zc (pv 0) (Zc (Yl (ZF Xn (pv 1) Zf (ZH _)) Zf Zf) Za))) Za))
     (fun _ _ _ _ _=>ZX WO (pv 2) (ZC D hr (Zc (pv 0) (Zc (Zn (Zgu (K:=K) rfl) rfl T.len PySem.boot_len (Zc (pv 2) Za)) Za))) (fun _ _=>rfl))) Za)))))))),?_⟩
 refine ⟨_,rfl,p,n,6,rfl,hB,by omega,by decide,by decide,fun r1 H1 a0 a1 B1 k1=>?_⟩
 refine ⟨_,rfl,_,_,rfl,rfl,_,rfl,ZbB (fun c=>?_) (fun c=>?_)⟩
 · refine ⟨_,rfl,p,n+1,7,rfl,B1,by omega,by decide,by decide,fun r2 H2 b0 b1 B2 k2=>⟨_,_,rfl,rfl,?_⟩⟩
   exact q _ _ (by show (r2 - 3).natAbs < 10 ^ 30;omega) (B2.le (by omega)) (k1.trans k2)
 refine ⟨_,rfl,rfl,_,rfl,ZbB (fun c2=>?_) (fun c2=>?_)⟩
 · refine ⟨_,_,rfl,rfl,⟨by decide,by decide,by decide⟩,_,_,rfl,rfl,_,_,rfl,rfl,⟨by decide,by decide,by decide⟩,_,_,rfl,rfl,_,_,rfl,rfl,⟨by decide,by decide,by decide⟩,(by show 4≤sizeLine;decide),fun l hl=>?_⟩
   have hne:l≠p:=fun e=>by obtain ⟨_,_,_,z,_⟩:=B1;rw [e,z] at hl;cases hl
   refine ⟨_,rfl,p,n+1,4,rfl,B1.same (Zh hl _),by omega,by decide,by decide,fun r2 H2 b0 b1 B2 k2=>?_⟩
   obtain ⟨v,hv,hm⟩:=Zbo (xs:=([.int (10 ^ (30:Int).toNat - 1),.int (1 - 10 ^ (30:Int).toNat),.int (10 ^ (29:Int).toNat),.int 0]:List V)) b0 b1
   refine ⟨l,_,_,v,rfl,rfl,SqL.of (k2 l _ hne Zb),hv,q _ _ ?_ (B2.le (by omega)) (k1.trans ((Zh hl _).kp p |>.trans k2))⟩
   have all:(([.int (10 ^ (30:Int).toNat - 1),.int (1 - 10 ^ (30:Int).toNat),.int (10 ^ (29:Int).toNat),.int 0]:List V)).all ZeT=true:=by decide +kernel
   exact ZcB (List.all_eq_true.mp all v hm)
 refine ⟨_,rfl,rfl,_,rfl,ZbB (fun c3=>?_) (fun c3=>?_)⟩
 · refine ⟨(by show 8≤sizeLine;decide),fun l hl=>?_⟩
   have hne:l≠p:=fun e=>by obtain ⟨_,_,_,z,_⟩:=B1;rw [e,z] at hl;cases hl
   refine ⟨_,rfl,p,n+1,8,rfl,B1.same (Zh hl _),by omega,by decide,by decide,fun r2 H2 b0 b1 B2 k2=>?_⟩
   obtain ⟨v,hv,hm⟩:=Zbo (xs:=([.str "",.str "0",.str "-1",.str "a",.str "none",.str "'",.str "\\", .str " "]:List V)) b0 b1
   refine ⟨l,_,_,v,rfl,rfl,SqL.of (k2 l _ hne Zb),hv,q _ _ ?_ (B2.le (by omega)) (k1.trans ((Zh hl _).kp p |>.trans k2))⟩
   have all:(([.str "",.str "0",.str "-1",.str "a",.str "none",.str "'",.str "\\", .str " "]:List V)).all ZeT=true:=by decide +kernel
   exact ZcB (List.all_eq_true.mp all v hm)
 refine ⟨rfl,?_⟩
 have fin:∀ (r2:Int) (H2:Hp),0≤r2→r2 < 41→BoxAt H2 p (n+2)→Kp p H1 H2→∃ j:Int,[V.int r2]=[.int j]∧-(2 ^ 62)≤j∧j < 2 ^ 62∧∀ D,H2 D=none→UH (Itr 0 j.toNat)
     (tOp rIxS (Vm 2) (Zcm (ZaN 4611686018427387904) [] E0 (Xa (Vm 0) (Xa (tCB (fun xs H Q=>∃ x n,xs=[x]∧ZiV K x H n∧Q (.int n) H) (Xa (Vm 2) XL)) XL))))
     [some (.ref p),some (.int r1),some (.str vSigns)] D (fun x H3=>∃ sep a ys,V.str ""=.str sep∧[x]=[.ref a]∧SqL K H3 a (ys.map V.str)∧(ys.map (·.length)).sum+ys.length * sep.length≤16777216∧Q (.str (Txt.join sep ys)) H3) H2:=by
   intro r2 H2 b0 b1 B2 k2
   refine ⟨r2,rfl,by omega,by omega,fun Dl hD=>?_⟩
   have hne:Dl≠p:=fun e=>by obtain ⟨_,_,_,z,_⟩:=B2;rw [e,z] at hD;cases hD
   refine ZfH (Nat.le_trans (show r2.toNat≤1000 by omega) (len1 (Nat.le_refl _)))
     (fun i ys H'=>∃ zs:List Str,ys=zs.map V.str∧zs.length=i∧(∀ z∈zs,∃ c,z=⟨#[c]⟩∧Yd c=true)∧H' Dl=some (.lst ys)∧BoxAt H' p (n+2+i)∧Kp p H1 H'∧i≤r2.toNat)
     ⟨[],rfl,rfl,(fun _ h=>nomatch h),Zb,B2.same (Zh hD _),k2.trans ((Zh hD _).kp p),Nat.zero_le _⟩ ?_ ?_ ?_
   · rintro i ys H' ⟨zs,rfl,hz,_⟩;rw [List.length_map];exact hz
   · rintro i ys H' hi ⟨zs,rfl,hz,hall,hDl,B',k',_⟩
     refine ⟨_,rfl,_,rfl,_,rfl,_,94,rfl,⟨by rw [vs_len];decide,vs_len.symm⟩,p,n+2+i,94,rfl,B',by omega,by decide,by decide,fun r3 H3 d0 d1 B3 k3=>?_⟩
     have hl:vSigns.cps.toList.length=94:=by rw [← Zt];exact vs_len
     obtain ⟨c,hc,hm⟩:=Zbo (xs:=vSigns.cps.toList) d0 (by rw [hl];exact d1)
     refine ⟨vSigns,r3,c,rfl,rfl,(by rw [vs_len];decide),hc,k3 Dl _ hne hDl,zs++[⟨#[c]⟩],by rw [List.map_append];rfl,by rw [List.length_append,hz];rfl,?_,Zb,?_,fun b o nb e=>?_,hi⟩
     · intro z hz'
       rcases List.mem_append.mp hz' with h | h
       · exact hall z h
       · rw [List.mem_singleton.mp h];exact ⟨c,rfl,List.all_eq_true.mp Zmu c hm⟩
     · obtain ⟨x1,x2,x3,x4,x5⟩:=B3
       exact ⟨x1,x2,x3,by rw [Zm hne.symm];exact x4,x5⟩
     · rw [Zm (ZG (k2 b o nb e) hD)];exact k3 b o nb (k' b o nb e)
   · rintro ys H' ⟨zs,rfl,hz,hall,hDl,B',k',_⟩
     have ones:∀ l:List Str,(∀ z∈l,∃ c,z=⟨#[c]⟩∧Yd c=true)→(l.map (·.length)).sum=l.length∧(l.flatMap (·.cps.toList)).length=l.length∧(l.flatMap (·.cps.toList)).all Yd=true:=by
       intro l
       induction l with
       | nil=>intro _;exact ⟨rfl,rfl,rfl⟩
       | cons z r ih =>
         intro h
         obtain ⟨c,rfl,hc⟩:=h z List.mem_cons_self
         obtain ⟨g1,g2,g3⟩:=ih fun y hy=>h y (List.mem_cons_of_mem _ hy)
         refine ⟨?_,?_,?_⟩
         · rw [List.map_cons,List.sum_cons,g1,List.length_cons];show 1+_=_;omega
         · have e0:((⟨#[c]⟩:Str)::r).flatMap (·.cps.toList)=c::r.flatMap (·.cps.toList):=rfl
           rw [e0,List.length_cons,List.length_cons,g2]
         · rw [List.flatMap_cons,List.all_append,g3];simp [hc]
     obtain ⟨g1,g2,g3⟩:=ones zs hall
     refine ⟨_,Dl,zs,rfl,rfl,SqL.of hDl,?_,q _ _ ⟨?_,?_⟩ (B'.le (by omega)) (k1.trans k')⟩
     · rw [g1];show _+_ * 0≤_;omega
     · rw [Zt];show (Txt.join (Str.ofString "") zs).cps.toList.length≤40;rw [Uf,g2];omega
     · show (Txt.join (Str.ofString "") zs).cps.toList.all Yd=true;rw [Uf];exact g3
 refine ⟨_,rfl,_,rfl,rfl,_,rfl,ZbB (fun c4=>?_) (fun c4=>?_)⟩
 · exact ⟨p,n+1,4,rfl,B1,by omega,by decide,by decide,fun r2 H2 b0 b1 B2 k2=>fin r2 H2 b0 (by omega) B2 k2⟩
 · exact ⟨p,n+1,41,rfl,B1,by omega,by decide,by decide,fun r2 H2 b0 b1 B2 k2=>fin r2 H2 b0 (by omega) B2 k2⟩
end
end K70
set_option maxHeartbeats 4000000
namespace K70
open PySem L2
open PySem.W in
theorem all_mk {l:PySem.W.OpenLaw}{w:World}{K:PySem.W.Frag}{h:Heap}{mg:Str→Option Value}{fa:Addr}
   {f_z0 f_z1 f_z2 f_z3 f_z4 f_z5 f_z6 f_z7 f_z8 f_z9 f_z10 f_z11 f_z12 f_z13 f_z14 f_z15 f_z16 f_z17 f_z18 f_z19 f_z20 f_z21 f_z22 f_z23 f_z24 f_z25 f_z26 f_z27 f_z28 f_z29 f_z30 f_z31 f_z32 f_z33 f_z34 f_z35 f_z36 f_z37 C_RoadError C_Known C_NoSetting C_Missing C_NoWorld C_NoTask C_BadRow:Addr} {d_z0 d_z1 d_z2 d_z3 d_z4 d_z5 d_z6 d_z7 d_z8 d_z9 d_z10 d_z11 d_z12 d_z13 d_z14 d_z15 d_z16 d_z17 d_z18 d_z19 d_z20 d_z21 d_z22 d_z23 d_z24 d_z25 d_z26 d_z27 d_z28 d_z29 d_z30 d_z31 d_z32 d_z33 d_z34 d_z35 d_z36 d_z37:FuncData} (X:K.In h) (G:h.Ns mainGlobals mg) (hfa:mg "law"=some (.ref fa))
   (gx_RoadError:PySem.W.nsIn K mainGlobals "RoadError"=some (some (.ref C_RoadError)))
   (gx_Known:PySem.W.nsIn K mainGlobals "Known"=some (some (.ref C_Known)))
   (gx_NoSetting:PySem.W.nsIn K mainGlobals "NoSetting"=some (some (.ref C_NoSetting)))
   (gx_Missing:PySem.W.nsIn K mainGlobals "Missing"=some (some (.ref C_Missing)))
   (gx_NoWorld:PySem.W.nsIn K mainGlobals "NoWorld"=some (some (.ref C_NoWorld)))
   (gx_NoTask:PySem.W.nsIn K mainGlobals "NoTask"=some (some (.ref C_NoTask)))
   (gx_BadRow:PySem.W.nsIn K mainGlobals "BadRow"=some (some (.ref C_BadRow)))
   (h_z0:FM K C_RoadError "__init__" "RoadError.__init__" c_RoadError___init__ f_z0 d_z0)
   (h_z1:FG K "kinds_of" s_kinds_of f_z1 d_z1)
   (h_z2:FG K "has_within" s_has_within f_z2 d_z2)
   (h_z3:FG K "program_within" s_program_within f_z3 d_z3)
   (h_z4:FG K "is_number" s_is_number f_z4 d_z4)
   (h_z5:FG K "value_text" s_value_text f_z5 d_z5)
   (h_z6:FG K "kinds_in_row" s_kinds_in_row f_z6 d_z6)
   (h_z7:FG K "step_row" s_step_row f_z7 d_z7)
   (h_z8:FG K "moved_in" s_moved_in f_z8 d_z8)
   (h_z9:FG K "program_rows" s_program_rows f_z9 d_z9)
   (h_z10:FG K "program_text" s_program_text f_z10 d_z10)
   (h_z11:FG K "is_name" s_is_name f_z11 d_z11)
   (h_z12:FG K "is_value" s_is_value f_z12 d_z12)
   (h_z13:FG K "unslashed" s_unslashed f_z13 d_z13)
   (h_z14:FG K "number_from" s_number_from f_z14 d_z14)
   (h_z15:FG K "value_from" s_value_from f_z15 d_z15)
   (h_z16:FG K "part_from" s_part_from f_z16 d_z16)
   (h_z17:FG K "whole_words" s_whole_words f_z17 d_z17)
   (h_z18:FG K "parts_from" s_parts_from f_z18 d_z18)
   (h_z19:FG K "head_from" s_head_from f_z19 d_z19)
   (h_z20:FG K "heads_from" s_heads_from f_z20 d_z20)
   (h_z21:FG K "program_of" s_program_of f_z21 d_z21)
   (h_z22:FG K "program_from" s_program_from f_z22 d_z22)
   (h_z23:FG K "_law_cell_at" s_l_cell_at f_z23 d_z23)
   (h_z24:FG K "_law_box" s_l_box f_z24 d_z24)
   (h_z25:FG K "_law_take" s_l_take f_z25 d_z25)
   (h_z26:FG K "_law_names" s_l_names f_z26 d_z26)
   (h_z27:FG K "_law_value" s_l_value f_z27 d_z27)
   (h_z28:FG K "_law_written" s_l_written f_z28 d_z28)
   (h_z29:FG K "_law_cut" s_l_cut f_z29 d_z29)
   (h_z30:FG K "_law_is_name" s_l_is_name f_z30 d_z30)
   (h_z31:FG K "_law_number_at" s_l_number_at f_z31 d_z31)
   (h_z32:FG K "_law_value_at" s_l_value_at f_z32 d_z32)
   (h_z33:FG K "_law_step" s_l_step f_z33 d_z33)
   (h_z34:FG K "_law_refused" s_l_refused f_z34 d_z34)
   (h_z35:FG K "_law_words" s_l_words f_z35 d_z35)
   (h_z36:FG K "_law_same" s_l_same f_z36 d_z36)
   (h_z37:FG K "law" s_law f_z37 d_z37)
   (z_len:PySem.W.nsIn K mainGlobals "len"=some none)
   (z_abs:PySem.W.nsIn K mainGlobals "abs"=some none)
   (z_int:PySem.W.nsIn K mainGlobals "int"=some none)
   (z_range:PySem.W.nsIn K mainGlobals "range"=some none)
   (z_min:PySem.W.nsIn K mainGlobals "min"=some none)
   (z_max:PySem.W.nsIn K mainGlobals "max"=some none)
   (z_repr:PySem.W.nsIn K mainGlobals "repr"=some none)
   (z_enumerate:PySem.W.nsIn K mainGlobals "enumerate"=some none)
   (z_ord:PySem.W.nsIn K mainGlobals "ord"=some none)
   (z_list:PySem.W.nsIn K mainGlobals "list"=some none)
   (z_tuple:PySem.W.nsIn K mainGlobals "tuple"=some none)
   (z_dict:PySem.W.nsIn K mainGlobals "dict"=some none)
   (z_sorted:PySem.W.nsIn K mainGlobals "sorted"=some none)
   (z_sum:PySem.W.nsIn K mainGlobals "sum"=some none)
   (z_all:PySem.W.nsIn K mainGlobals "all"=some none)
   (z_any:PySem.W.nsIn K mainGlobals "any"=some none)
   (z_divmod:PySem.W.nsIn K mainGlobals "divmod"=some none)
   (z_str:PySem.W.nsIn K mainGlobals "str"=some none)
   (z_isinstance:PySem.W.nsIn K mainGlobals "isinstance"=some none)
   (z_set:PySem.W.nsIn K mainGlobals "set"=some none)
   (z_zip:PySem.W.nsIn K mainGlobals "zip"=some none)
   (z_reversed:PySem.W.nsIn K mainGlobals "reversed"=some none)
   (z_bool:PySem.W.nsIn K mainGlobals "bool"=some none)
   {dk:Addr}
   (kd:PySem.W.nsIn K mainGlobals "KINDS"=some (some (.ref dk)))
   {kb0 kb1 kb2 kb3 kb4 kb5 kb6 kb7:Addr} {kh0 kh1 kh2 kh3 kh4 kh5 kh6 kh7:Int} {kt0 kt1 kt2 kt3 kt4 kt5 kt6 kt7:Tok} {kep:Nat}
   (kl:K.lookup dk=some ⟨.type "dict",none,.dict #[⟨kh0,.str "set" kt0,.ref kb0⟩,⟨kh1,.str "look" kt1,.ref kb1⟩,⟨kh2,.str "back" kt2,.ref kb2⟩,⟨kh3,.str "begin" kt3,.ref kb3⟩,⟨kh4,.str "late" kt4,.ref kb4⟩,⟨kh5,.str "copy" kt5,.ref kb5⟩,⟨kh6,.str "in" kt6,.ref kb6⟩,⟨kh7,.str "pass" kt7,.ref kb7⟩] kep,#[]⟩)
   (ks:(dk == PySem.sysModules)=false)
   {ku0_0 ku0_1 ku0_2:Tok} {kn0:Nat} {kq0:Option Addr} {ko0:Array (Option Value)}
   (km0:K.lookup kb0=some ⟨.type "tuple",kq0,.seq #[.str "name" ku0_0,.str "value" ku0_1,.str "slot" ku0_2] kn0,ko0⟩)
   {ku1_0:Tok} {kn1:Nat} {kq1:Option Addr} {ko1:Array (Option Value)}
   (km1:K.lookup kb1=some ⟨.type "tuple",kq1,.seq #[.str "name" ku1_0] kn1,ko1⟩)
   {ku2_0:Tok} {kn2:Nat} {kq2:Option Addr} {ko2:Array (Option Value)}
   (km2:K.lookup kb2=some ⟨.type "tuple",kq2,.seq #[.str "slot" ku2_0] kn2,ko2⟩)
   {ku3_0:Tok} {kn3:Nat} {kq3:Option Addr} {ko3:Array (Option Value)}
   (km3:K.lookup kb3=some ⟨.type "tuple",kq3,.seq #[.str "program" ku3_0] kn3,ko3⟩)
   {ku4_0:Tok} {kn4:Nat} {kq4:Option Addr} {ko4:Array (Option Value)}
   (km4:K.lookup kb4=some ⟨.type "tuple",kq4,.seq #[.str "program" ku4_0] kn4,ko4⟩)
   {ku5_0:Tok} {kn5:Nat} {kq5:Option Addr} {ko5:Array (Option Value)}
   (km5:K.lookup kb5=some ⟨.type "tuple",kq5,.seq #[.str "slot" ku5_0] kn5,ko5⟩)
   {ku6_0 ku6_1:Tok} {kn6:Nat} {kq6:Option Addr} {ko6:Array (Option Value)}
   (km6:K.lookup kb6=some ⟨.type "tuple",kq6,.seq #[.str "slot" ku6_0,.str "program" ku6_1] kn6,ko6⟩)
   {kn7:Nat} {kq7:Option Addr} {ko7:Array (Option Value)}
   (km7:K.lookup kb7=some ⟨.type "tuple",kq7,.seq #[] kn7,ko7⟩)
   (zNB:PySem.W.nsIn K PySem.cStatics PySem.sharingNotToldKey=some none)
   {tf:Tok}
   (gFI:PySem.W.nsIn K mainGlobals "FURTHER_IN"=some (some (.str "  " tf)))
   {tLN:Tok}
   (gLN:PySem.W.nsIn K mainGlobals "LONGEST_NAME"=some (some (.int 8 tLN)))
   {tMF:Tok}
   (gMF:PySem.W.nsIn K mainGlobals "MOST_FIGURES"=some (some (.int 30 tMF)))
   {tMS:Tok}
   (gMS:PySem.W.nsIn K mainGlobals "MOST_SIGNS"=some (some (.int 40 tMS)))
   (zVE:PySem.W.nsIn K mainGlobals "ValueError"=some none)
   (x_BadRow:ZeY K C_RoadError C_BadRow f_z0 [C_BadRow] [C_Known,C_Missing,C_NoSetting,C_NoTask,C_NoWorld] [] 0=true) :
   ∃ fd:FuncData,(∀ (s:Shared) (v:Value),BindsTo s fd ⟨[v],[]⟩ [("_law_script",v)])∧∀ base:Heap,K.In base→base.Ns mainGlobals mg→Zbu base mg→FnOk l.prog w K mg base ZY 18 fa fd ["_law_script"] (Zcq K):=by
 have e:=hfa.symm.trans (mg_of X G h_z37.a)
 cases e
 have n_len:=mg_none_of X G z_len
 have n_abs:=mg_none_of X G z_abs
 have n_int:=mg_none_of X G z_int
 have n_range:=mg_none_of X G z_range
 have n_min:=mg_none_of X G z_min
 have n_max:=mg_none_of X G z_max
 have n_repr:=mg_none_of X G z_repr
 have n_enumerate:=mg_none_of X G z_enumerate
 have n_ord:=mg_none_of X G z_ord
 have n_list:=mg_none_of X G z_list
 have n_tuple:=mg_none_of X G z_tuple
 have n_dict:=mg_none_of X G z_dict
 have n_sorted:=mg_none_of X G z_sorted
 have n_sum:=mg_none_of X G z_sum
 have n_all:=mg_none_of X G z_all
 have n_any:=mg_none_of X G z_any
 have n_divmod:=mg_none_of X G z_divmod
 have n_str:=mg_none_of X G z_str
 have n_isinstance:=mg_none_of X G z_isinstance
 have n_set:=mg_none_of X G z_set
 have n_zip:=mg_none_of X G z_zip
 have n_reversed:=mg_none_of X G z_reversed
 have n_bool:=mg_none_of X G z_bool
 have g_kd:=mg_of X G kd
 have g_gFI:=mg_of X G gFI
 have g_gLN:=mg_of X G gLN
 have g_gMF:=mg_of X G gMF
 have g_gMS:=mg_of X G gMS
 have g_RoadError:=mg_of X G gx_RoadError
 have g_Known:=mg_of X G gx_Known
 have g_NoSetting:=mg_of X G gx_NoSetting
 have g_Missing:=mg_of X G gx_Missing
 have g_NoWorld:=mg_of X G gx_NoWorld
 have g_NoTask:=mg_of X G gx_NoTask
 have g_BadRow:=mg_of X G gx_BadRow
 have TB:Yk mg:=⟨n_len,n_abs,n_int,n_range,n_min,n_max,n_repr,n_enumerate,n_ord,n_list,n_tuple,n_dict,n_sorted,n_sum,n_all,n_any,n_divmod,n_str,n_isinstance,n_set,n_zip,n_reversed,n_bool⟩
 have TK:KDic K dk Xt:=⟨ks,_,_,_,kl,⟨rfl,rfl,rfl⟩,rfl,(.cons rfl ⟨_,rfl,_,_,_,km0,rfl,rfl,(show 3≤PySem.sizeLine by decide),(.cons ⟨_,rfl⟩ (.cons ⟨_,rfl⟩ (.cons ⟨_,rfl⟩ .nil)))⟩ (.cons rfl ⟨_,rfl,_,_,_,km1,rfl,rfl,(show 1≤PySem.sizeLine by decide),(.cons ⟨_,rfl⟩ .nil)⟩ (.cons rfl ⟨_,rfl,_,_,_,km2,rfl,rfl,(show 1≤PySem.sizeLine by decide),(.cons ⟨_,rfl⟩ .nil)⟩ (.cons rfl ⟨_,rfl,_,_,_,km3,rfl,rfl,(show 1≤PySem.sizeLine by decide),(.cons ⟨_,rfl⟩ .nil)⟩ (.cons rfl ⟨_,rfl,_,_,_,km4,rfl,rfl,(show 1≤PySem.sizeLine by decide),(.cons ⟨_,rfl⟩ .nil)⟩ (.cons rfl ⟨_,rfl,_,_,_,km5,rfl,rfl,(show 1≤PySem.sizeLine by decide),(.cons ⟨_,rfl⟩ .nil)⟩ (.cons rfl ⟨_,rfl,_,_,_,km6,rfl,rfl,(show 2≤PySem.sizeLine by decide),(.cons ⟨_,rfl⟩ (.cons ⟨_,rfl⟩ .nil))⟩ (.cons rfl ⟨_,rfl,_,_,_,km7,rfl,rfl,(show 0≤PySem.sizeLine by decide),.nil⟩ .nil))))))))⟩
 have TE:TxtE K mg C_RoadError C_BadRow [C_Known,C_Missing,C_NoSetting,C_NoTask,C_NoWorld]:=⟨g_RoadError,g_BadRow,mg_none_of X G zVE,rfl,g_Known,g_Missing,g_NoSetting,g_NoTask,g_NoWorld,(ZgV x_BadRow).1⟩
 refine ⟨d_z37,fun s v=>ZgL h_z37.F (fun _ _ _ _ _ _ _=>rfl) s v,fun base _ _ hBm=>?_⟩
 have e:Bs l.prog w K mg base h:=⟨X,G⟩
 have b_z0:Binds K d_z0 ["self","what"] []:=h_z0.F.b2 fun _ _ _ _ _ _ _ _=>rfl
 have D_BadRow:Zio l.prog w K mg base 5 C_BadRow "BadRow":=⟨_,_,(Zib h_z0.F).mono (by decide),b_z0,(ZgV x_BadRow).2 h_z0.m.fn,g_BadRow⟩
 have D_z1:=h_z1.df e (Zjg h_z1.F TK g_kd) (h_z1.F.b1 fun _ _ _ _ _ _ _=>rfl)
 have D_z2:=h_z2.df e (Zkh h_z2.F D_z1) (h_z2.F.b1 fun _ _ _ _ _ _ _=>rfl)
 have D_z3:=h_z3.df e (ZfO h_z3.F D_z2) (h_z3.F.b1 fun _ _ _ _ _ _ _=>rfl)
 have b_z4:Binds K d_z4 ["thing"] []:=h_z4.F.b1 fun _ _ _ _ _ _ _=>rfl
 have DNu1:ZiD l.prog w K mg base 1 "is_number" "thing" Zco:=⟨_,_,ZlL h_z4.F TB,b_z4,h_z4.F.kp,(mg_of X G h_z4.a)⟩
 have D_z5:=h_z5.df e (ZmR h_z5.F TB zNB DNu1) (h_z5.F.b1 fun _ _ _ _ _ _ _=>rfl)
 have D_z6:=h_z6.df e (Zna h_z6.F TB D_z1) (h_z6.F.b1 fun _ _ _ _ _ _ _=>rfl)
 have D_z7:=h_z7.df e (ZmM h_z7.F TB D_z5 D_z6) (h_z7.F.b1 fun _ _ _ _ _ _ _=>rfl)
 have D_z8:=h_z8.df e (ZmS h_z8.F g_gFI) (h_z8.F.b1 fun _ _ _ _ _ _ _=>rfl)
 have b_z9:Binds K d_z9 ["program"] []:=h_z9.F.b1 fun _ _ _ _ _ _ _=>rfl
 have D_z9:Def l.prog w K mg base 14 "program_rows" Zag (Zcv K 10):=⟨_,_,Zjx h_z9.F TB b_z9 h_z9.F.kp (mg_of X G h_z9.a) D_z3 D_z7 (D_z8.mono (by decide)) 10,b_z9,h_z9.F.kp,(mg_of X G h_z9.a)⟩
 have D_z10:=h_z10.df e (ZmG h_z10.F TB D_z9) (h_z10.F.b1 fun _ _ _ _ _ _ _=>rfl)
 have D_z11:=h_z11.df e (Zge h_z11.F TB g_gLN) (h_z11.F.b1 fun _ _ _ _ _ _ _=>rfl)
 have D_z12:=h_z12.df e (ZfF h_z12.F TB) (h_z12.F.b1 fun _ _ _ _ _ _ _=>rfl)
 have D_z13:=h_z13.df e (ZjV h_z13.F TB) (h_z13.F.b1 fun _ _ _ _ _ _ _=>rfl)
 have D_z14:=h_z14.df e (ZjK h_z14.F TB) (h_z14.F.b2 fun _ _ _ _ _ _ _ _=>rfl)
 have D_z15:=h_z15.df e (Zkl h_z15.F TB g_gMF g_gMS (D_z14.mono (by decide)) (D_z13.mono (by decide)) (D_z12.mono (by decide)) D_z5) (h_z15.F.b1 fun _ _ _ _ _ _ _=>rfl)
 have D_z16:=h_z16.df e (Zhw h_z16.F TB D_z15 (D_z11.mono (by decide))) (h_z16.F.b2 fun _ _ _ _ _ _ _ _=>rfl)
 have D_z17:=h_z17.df e (ZiQ h_z17.F TB) (h_z17.F.b2 fun _ _ _ _ _ _ _ _=>rfl)
 have D_z18:=h_z18.df e (ZiU h_z18.F TB (D_z17.mono (by decide)) D_z16) (h_z18.F.b2 fun _ _ _ _ _ _ _ _=>rfl)
 have D_z19:=h_z19.df e (Zjh h_z19.F TB (D_z1.mono (by decide)) (D_z6.mono (by decide)) D_z18) (h_z19.F.b1 fun _ _ _ _ _ _ _=>rfl)
 have b_z20:Binds K d_z20 ["rows","first"] []:=h_z20.F.b2 fun _ _ _ _ _ _ _ _=>rfl
 have D_z20:Def l.prog w K mg base 7 "heads_from" Zak ZiA:=⟨_,_,Zgo h_z20.F TB g_gFI D_z19 (D_z2.mono (by decide)),b_z20,h_z20.F.kp,(mg_of X G h_z20.a)⟩
 have DX_heads_from:ZiY l.prog w K mg base 7 "heads_from" Zak (Zfi C_BadRow):=⟨_,_,Zfv h_z20.F TB g_gFI D_z19 (D_z2.mono (by decide)) D_BadRow,b_z20,h_z20.F.kp,(mg_of X G h_z20.a)⟩
 have D_z21:=h_z21.df e (ZfS h_z21.F TB D_z2) (h_z21.F.b1 fun _ _ _ _ _ _ _=>rfl)
 have b_z22:Binds K d_z22 ["text"] []:=h_z22.F.b1 fun _ _ _ _ _ _ _=>rfl
 have D_z22:Def l.prog w K mg base 8 "program_from" VC (Ziu K):=⟨_,_,Zdz h_z22.F TB D_z20 (D_z21.mono (by decide)),b_z22,h_z22.F.kp,(mg_of X G h_z22.a)⟩
 have OPB:=Zdj (P:=l.prog) (w:=w) (base:=base) h_z22.F TB DX_heads_from (D_z21.mono (by decide))
 have D_z23:=h_z23.df e (Zkp h_z23.F TB) (h_z23.F.b2 fun _ _ _ _ _ _ _ _=>rfl)
 have D_z24:=h_z24.df e (FnOk.conv (sp':=Zdf K) (ZlX h_z24.F TB D_z23) (fun _ _ _ _ h=>ZmL h)) (h_z24.F.b2 fun _ _ _ _ _ _ _ _=>rfl)
 have b_z25:Binds K d_z25 ["_law_box_here","_law_many"] []:=h_z25.F.b2 fun _ _ _ _ _ _ _ _=>rfl
 have DT0:Zjv l.prog w K mg base:=⟨_,_,Zki h_z25.F,b_z25,h_z25.F.kp,(mg_of X G h_z25.a)⟩
 have D_z25:DTk l.prog w K mg base 1:=DT0.conv fun _ _ _ _ h=>ZlT h
 have D_z26:=h_z26.df e (Zia h_z26.F TB D_z25) (h_z26.F.b2 fun _ _ _ _ _ _ _ _=>rfl)
 have D_z27:=h_z27.df e (FnOk.conv (sp':=Vg) (Zip h_z27.F TB DT0) (fun _ _ _ _ h=>ZjG h)) (h_z27.F.b1 fun _ _ _ _ _ _ _=>rfl)
 have D_z28:=h_z28.df e (ZeL h_z28.F TB) (h_z28.F.b1 fun _ _ _ _ _ _ _=>rfl)
 have D_z29:=h_z29.df e (Zmk h_z29.F TB) (h_z29.F.b1 fun _ _ _ _ _ _ _=>rfl)
 have D_z30:=h_z30.df e (Zmn h_z30.F TB) (h_z30.F.b1 fun _ _ _ _ _ _ _=>rfl)
 have D_z31:=h_z31.df e (ZiP h_z31.F TB D_z29) (h_z31.F.b1 fun _ _ _ _ _ _ _=>rfl)
 have D_z32:=h_z32.df e (Zih h_z32.F TB D_z31) (h_z32.F.b1 fun _ _ _ _ _ _ _=>rfl)
 have D_z33:=h_z33.df e (ZkG h_z33.F TB (D_z29.mono (by decide)) (D_z30.mono (by decide)) D_z32) (h_z33.F.b1 fun _ _ _ _ _ _ _=>rfl)
 have D_z34:=h_z34.df e (ZeO (kk:=8) h_z34.F TB TE) (h_z34.F.b2 fun _ _ _ _ _ _ _ _=>rfl)
 have D_z35:=h_z35.df e (ZhN h_z35.F TB (D_z25.mono (by decide)) D_z27 (D_z28.mono (by decide))) (h_z35.F.b1 fun _ _ _ _ _ _ _=>rfl)
 have b_z36:Binds K d_z36 ["_law_found","_law_due"] []:=h_z36.F.b2 fun _ _ _ _ _ _ _ _=>rfl
 have D_z36:Def l.prog w K mg base 17 "_law_same" Zal (Vy K 16):=⟨_,_,ZdM h_z36.F TB b_z36 h_z36.F.kp (mg_of X G h_z36.a) 16,b_z36,h_z36.F.kp,(mg_of X G h_z36.a)⟩
 exact Zld (k:=17) h_z37.F TB (D_z24.mono (by decide)) (D_z26.mono (by decide)) (D_z27.mono (by decide)) (D_z28.mono (by decide)) (D_z10.mono (by decide)) (D_z22.mono (by decide)) D_z36 (D_z35.mono (by decide)) (D_z33.mono (by decide)) (D_z34.mono (by decide)) OPB b_z22 h_z22.F.kp (mg_of X G h_z22.a)
theorem walk {l:PySem.W.OpenLaw}{q:Program}{loose:List Str}{XP:(Str→Option Value)→Heap→Prop}{YP:World→Heap→Prop}{d:DefRec}{K:Params→PySem.W.Frag}{ts:List Addr}(hn:l.most=some 63)(hdf:d.params.defaults=[])
   (hY:∀ (w:World) (h:Heap),YP w h→(K w.params).In h∧∀ b∈ts,h.get? b=some (PySem.W.tabObj #[]))
   (hK:∀ (w:World) (b:Addr),b∈ts→(K w.params).lookup b=none∧∃ c,PySem.W.codeHdIn (K w.params) c b=true)
   (F:∀ (w:World) (mg:Str→Option Value) (fa:Addr) (h:Heap),(K w.params).In h→h.Ns mainGlobals mg→mg d.name=some (.ref fa) →
     ∃ fd:FuncData,(∀ (s:Shared) (u:Value),BindsTo s fd ⟨[u],[]⟩ [("_law_script",u)])∧∀ base:Heap,(K w.params).In base→base.Ns mainGlobals mg→Zbu base mg→FnOk l.prog w (K w.params) mg base ZY 18 fa fd ["_law_script"] (Zcq (K w.params))) :
   PySem.W.WalkO q loose XP YP l.row.toRowW d [] (fun f vs=>PySem.call f vs) :=
 L2.walk_ofT (n:=63) (k:=18) (x:="_law_script") (CX:=fun _=>ZY) (sp:=fun w=>Zcq (K w.params)) (ts:=ts) hn (by decide) hdf ⟨rfl,by decide,by decide,rfl⟩ hY hK F (fun w H a ns hl hO hS hT=>⟨a,ns,rfl,hS,hl,fun _=>rfl⟩) fun _ _ _ _ _ z=>z
end K70
namespace PySem.W.Fast
def tw4799084312070129567 := 0
def tw9909888844032426740 := 0
def tw47675111014068793 := 0
def tw124221323873902954 := 0
def tw12546161081655718436 := 0
def tw7708623585481863184 := 0
def tw13233615454181742324 := 0
def tw9256524919230500261 := 0
def tw524473436290205076 := 0
def tw10846282871856916346 := 0
def tw12829069416927700440 := 0
def tw14185509630856985564 := 0
def tw263678831421658278 := 0
def tw12838616060815513642 := 0
def tw753501705232826313 := 0
def tw644272085224314924 := 0
def tw176823382565370265 := 0
def tw4349433467999613057 := 0
def tw15619643249162865796 := 0
def tw8629258092006236937 := 0
def tw13132879080611114156 := 0
def tw17237905588653510555 := 0
def tw4247152450935292397 := 0
def tw5017723233260844104 := 0
def tw10336097103540946160 := 0
def tw3315322033181983066 := 0
def tw13608687912940442615 := 0
def tw13055132291647774382 := 0
def tw17257717841842276663 := 0
def tw3716374164696080009 := 0
def tw8154652778594701794 := 0
def tw15150559788851501680 := 0
def tw18101493849210626417 := 0
def tw8525550326919638720 := 0
def tw17430539166946347640 := 0
def tw9985981943074040043 := 0
def tw1053782959263260886 := 0
def tw14755471182391436905 := 0
def tw17544641517158510864 := 0
def tw13975121849829736449 := 0
def tw15539122766010112448 := 0
def tw2057598376279826189 := 0
def tw14694353660946013373 := 0
def tw15867774343285999982 := 0
def tw12900890858377306741 := 0
def tw16194694246214554937 := 0
def tw885881310275058414 := 0
def tw17960508766935873687 := 0
def tw3665142120359765441 := 0
def tw4855112264184158477 := 0
def tw5748856265546981667 := 0
def tw1791469687355369923 := 0
def tw6934839212205177084 := 0
def tw6311890080540654720 := 0
def tw1471349634688914993 := 0
def tw14883149020219554155 := 0
def tw1379777568902448718 := 0
def tw3365833492659794612 := 0
def tw16222658591641621120 := 0
def tw12727374939642804451 := 0
def tw13789234482895873656 := 0
def tw14061467349041471182 := 0
def tw3257104994167212077 := 0
def tw18355113728723991694 := 0
def tw2287286103793258478 := 0
def tw4298334688585052708 := 0
def tw4552211202209106906 := 0
def tw1491381879797320937 := 0
def tw7311083235134079483 := 0
def tw2281339454918410221 := 0
def tw18319556805686184488 := 0
def tw4398771155812082383 := 0
def tw11914430806968978176 := 0
def tw10955561616172902859 := 0
def tw10559427443996789780 := 0
def tw4280025095638112222 := 0
def tw4546623297903069106 := 0
def tw5530052882818297803 := 0
def tw5956741100099995135 := 0
def tw14198667346816044087 := 0
def tw11385851278187322976 := 0
def tw15985538522427161454 := 0
def tw17026799272207357145 := 0
def tw3956647953951152320 := 0
def tw1409210287242237321 := 0
def tw14555402949992839988 := 0
def tw16691605323701627703 := 0
def tw18059179341454178933 := 0
def tw8576270676966657060 := 0
def tw14736004133448579440 := 0
def tw7822478265896495870 := 0
def tw7678486509976527851 := 0
def tw3594378204676098933 := 0
def tw114233121415064201 := 0
def tw11075394417206863779 := 0
def tw3046374889940962409 := 0
def tw3972771137402512303 := 0
def tw1586611214945449308 := 0
def tw10729165014828138959 := 0
def tw14426072227038211442 := 0
def tw8552768756378533408 := 0
def tw4277851028801032568 := 0
def tw12995300845055597366 := 0
def tw1477521440758587721 := 0
def tw12578580719694344489 := 0
def tw8924288580157782902 := 0
def tw3515152174801796144 := 0
def tw14193510384729947802 := 0
def tw11210966430617281388 := 0
def tw1703541435594463029 := 0
def tw363056435111780240 := 0
def tw6696492781732093173 := 0
def tw1509560787647995221 := 0
def tw12855732132205982511 := 0
def tw1929862975521613283 := 0
def tw821441359218274159 := 0
def tw16968815127100448358 := 0
def tw9348907006117746137 := 0
def tw5772706045059704151 := 0
def tw1231566791232319136 := 0
def tw14281898615226105045 := 0
def tw7036539144578347093 := 0
def tw6132857820114157882 := 0
def tw4439264201618284067 := 0
def tw2344248144335052352 := 0
def tw4636057223801376745 := 0
def tw2998461263196656998 := 0
def tw4478308325244884326 := 0
def tw18301386405951153776 := 0
def tw6581758543599139484 := 0
def tw8527897854049178951 := 0
def tw4923637136377353992 := 0
def tw9662918865223020089 := 0
def tw4685341782501412485 := 0
def tw9914813035419873220 := 0
def tw9187860327095943721 := 0
def tw871737874397129151 := 0
def tw15576501567178628266 := 0
def tw13088925959737888732 := 0
def tw7649245733174321117 := 0
def tw12327348929642788169 := 0
def tw4815573932836617665 := 0
def tw12305654830164128626 := 0
def tw16010591665518108352 := 0
def tw17790097106048759960 := 0
def tw13775740726745687302 := 0
def tw12450218519514090697 := 0
def tw7545951811469805767 := 0
def tw2247015990437633905 := 0
def tw16887615239496265574 := 0
def tw13236774045538313358 := 0
def tw10955896001908035124 := 0
def tw3374055609764402799 := 0
def tw3281278700589082583 := 0
def tw2829341275995289467 := 0
def tw3879695119811244661 := 0
def tw7035794308537391406 := 0
def tw5613884002612497959 := 0
def tw14514291843459997313 := 0
def tw12382119559412539058 := 0
def tw944278690714437979 := 0
def tw7654444137361527396 := 0
def tw17423235462663860534 := 0
def tw13313228951416711163 := 0
def tw13177890567669352 := 0
def tw13223217318176638808 := 0
def tw5986647712952741807 := 0
def tw13383883745653803995 := 0
def tw7016113243661836332 := 0
def tw1922817760706514741 := 0
def tw9757648610438102363 := 0
def tw15677610798419202166 := 0
def tw14601744190606931909 := 0
def tw789123812062703282 := 0
def tw14188893103381649214 := 0
def tw1584130644844854667 := 0
def tw14458505901149272459 := 0
def tw17515985886315878111 := 0
def tw10758579797197815106 := 0
def tw13373555759659041800 := 0
def tw5809197127809966452 := 0
def tw3158892460646643507 := 0
def tw2185733979733440262 := 0
def tw17502539342539178680 := 0
def tw16579362310249218082 := 0
def tw14771277374800824764 := 0
def tw14115527840016674453 := 0
def tw13244893287259763869 := 0
def tw13151373575062191536 := 0
def tw11207088131792962731 := 0
def tw916357098971145044 := 0
def tw7431126501363392147 := 0
def tw661078802241424815 := 0
def tw5768341611342820228 := 0
def tw5389649896357789538 := 0
def tw3840183894627149940 := 0
def tw3599295297843595687 := 0
def tw3327507142483288307 := 0
def tw3190127003338124169 := 0
def tw17519014080853147813 := 0
def tw16952689601392725522 := 0
def tw16755674343305046010 := 0
def tw16107770741795141122 := 0
def tw15621305549571708081 := 0
def tw15187426188302043521 := 0
def tw15029672111541207369 := 0
def tw13232851757212535445 := 0
def tw12529306184482854383 := 0
def tw11600695022235246559 := 0
def tw10592425207040809366 := 0
def tw10452551649251234449 := 0
def tw10124156454767681873 := 0
def tw97311423521645308 := 0
def tw9491241914558796530 := 0
def tw17505393964330847496 := 0
def tw11198147260911201325 := 0
def tw1081128586610029229 := 0
def tw8262030436853513631 := 0
def tw7747617062964674165 := 0
def tw557522616676123600 := 0
def tw17595259358437034474 := 0
def tw115575916696684015 := 0
def tw11165828343180110263 := 0
def tw2963549093717267666 := 0
def tw8898516049434038497 := 0
def tw8416544021633012548 := 0
def tw17792473234231618484 := 0
def tw11032873847806267408 := 0
def tw9995850371286676724 := 0
def tw10911392615060197973 := 0
def tw14021561241861225182 := 0
def tw18414548635418438487 := 0
def tw8726775803920002552 := 0
def tw7704641330917646053 := 0
def tw5606817845824132618 := 0
def tw4802360546146834136 := 0
def tw4596404694158010349 := 0
def tw250748174783158317 := 0
def tw17837203066469511880 := 0
def tw14463474324399147862 := 0
def tw13476014644927979189 := 0
def tw11472191117459878993 := 0
def tw10968714003017191786 := 0
def tw8649530736755278588 := 0
def tw17339054225843536408 := 0
def tw13292094360992970788 := 0
def tw13123212965397342244 := 0
def tw12679914325376337321 := 0
def tw1198859266621862277 := 0
def tw10338384428326543740 := 0
def tw9075982246503643713 := 0
def tw4160344529528219466 := 0
def tw18388257587039851980 := 0
def tw14384031454016275119 := 0
def tw4592767505165144225 := 0
def tw11477473026946128988 := 0
def tw4734049276509345674 := 0
def tw328785650513700176 := 0
def tw18388194634041878091 := 0
def tw1748688142646488036 := 0
def tw13745406796239410178 := 0
def tw13182287767192193142 := 0
def tw18003551648497474964 := 0
def tw15695725101456812200 := 0
def tw7269085492178919863 := 0
def tw9903836587349251589 := 0
def tw9655732247738440441 := 0
def tw9581800693388790578 := 0
def tw9445198366725656763 := 0
def tw9382455787617352151 := 0
def tw9044125861193976328 := 0
def tw8967520048156999007 := 0
def tw8944246957878509834 := 0
def tw8944112565387187830 := 0
def tw8390384584310534226 := 0
def tw8339171617576706415 := 0
def tw8036835169516618122 := 0
def tw7958467345901971425 := 0
def tw7906172378706434452 := 0
def tw7766730697280780585 := 0
def tw7686252197021658170 := 0
def tw7593393129602529510 := 0
def tw7554727315425282895 := 0
def tw7349444533596724877 := 0
def tw7074834429776197981 := 0
def tw7040703530666633407 := 0
def tw6792199974395017008 := 0
def tw6484100897756804522 := 0
def tw6180858273949071338 := 0
def tw6049868345117046859 := 0
def tw5706610442984769185 := 0
def tw5444786517748012618 := 0
def tw5420020664895184332 := 0
def tw5196795749325991362 := 0
def tw4911352978368036304 := 0
def tw4668080053046450884 := 0
def tw4301749886193265782 := 0
def tw4224378804824248559 := 0
def tw4207463590524695599 := 0
def tw4181618976402111916 := 0
def tw3853701670774344643 := 0
def tw3501290964021753476 := 0
def tw3453116331060780329 := 0
def tw3255505304656054364 := 0
def tw322454501733697656 := 0
def tw2659905713681903268 := 0
def tw2419588857042420097 := 0
def tw2357716495046168312 := 0
def tw231543564871565472 := 0
def tw1846924032572044878 := 0
def tw18397836827334386388 := 0
def tw18332805126062073439 := 0
def tw18307635807330529369 := 0
def tw18269083774439282538 := 0
def tw17704552317763422936 := 0
def tw173243314607531636 := 0
def tw17171666972430428337 := 0
def tw1711554180599089468 := 0
def tw16808193116662680833 := 0
def tw16686250207211076439 := 0
def tw16557069075322154091 := 0
def tw16184864130797909049 := 0
def tw16124047313639305193 := 0
def tw16034972345183687507 := 0
def tw1540920694276042121 := 0
def tw15366083727822247734 := 0
def tw14796413668447468753 := 0
def tw14724222082440136657 := 0
def tw1470085717405728200 := 0
def tw14658295929924699401 := 0
def tw14435800312036352303 := 0
def tw14350431448451257742 := 0
def tw14347961445747786698 := 0
def tw14035168284282578771 := 0
def tw14008123781763165820 := 0
def tw13376137137118650913 := 0
def tw1321551190144374237 := 0
def tw13210194100492543936 := 0
def tw12397960931377713313 := 0
def tw12330264919373779975 := 0
def tw11888949438052497297 := 0
def tw11823494508779246464 := 0
def tw11739535596087147629 := 0
def tw11659909259272887615 := 0
def tw114513168050435051 := 0
def tw11343623829531188910 := 0
def tw11043504597633088043 := 0
def tw11031367173947811843 := 0
def tw10846894062431658991 := 0
def tw10832336752972739907 := 0
def tw10771608122367629228 := 0
def tw10737896581184597103 := 0
def tw1062696920264040693 := 0
def tw1037405753915303158 := 0
def tw10054039438899150968 := 0
end PySem.W.Fast
open PySem PySem.W PyProof.Rows
set_option maxRecDepth 100000 in
set_option maxHeartbeats 0 in
theorem PySem.Challenge.cw_roadsettings_k70_values_as_words_holds : PySem.Challenge.rw_roadsettings_k70_values_as_words.Holds := by
  w_on; o_law; k_head; (case hw => w_witness2)
  k_fill
  refine' K70.walk (l := PySem.Challenge.rw_roadsettings_k70_values_as_words) (ts := []) rfl rfl (fun w h Y => ⟨PySem.W.kIn_of Y, fun b hb => absurd hb (by simp)⟩) ?hK  ?F
  case hK =>
    intro w b hb
    exact absurd hb (by simp)
  case F =>
    intro w mg fa h KX G hmg
    refine' K70.all_mk KX G hmg ?_ ?_ ?_ ?_ ?_ ?_ ?_ ?_ ?_ ?_ ?_ ?_ ?_ ?_ ?_ ?_ ?_ ?_ ?_ ?_ ?_ ?_ ?_ ?_ ?_ ?_ ?_ ?_ ?_ ?_ ?_ ?_ ?_ ?_ ?_ ?_ ?_ ?_ ?_ ?_ ?_ ?_ ?_ ?_ ?_ ?_ ?_ ?_ ?_ ?_ ?_ ?_ ?_ ?_ ?_ ?_ ?_ ?_ ?_ ?_ ?_ ?_ ?_ ?_ ?_ ?_ ?_ ?_ ?_ ?_ ?_ ?_ ?_ ?_ ?_ ?_ ?_ ?_ ?_ ?_ ?_ ?_ ?_ ?_ ?_ ?_
    all_goals try (first | refine ⟨⟨by k_is, by k_is, by k_is⟩, ⟨_, _, _, _, _, _, _, _, _, rfl, by k_is, by k_is⟩, by k_is⟩ | refine ⟨by k_is, ⟨_, _, _, _, _, _, _, _, _, rfl, by k_is, by k_is⟩, by k_is⟩ | refine ⟨by k_is, ⟨by k_is, by k_is, by k_is, by k_is⟩, by k_is, by k_is⟩ | refine ⟨⟨by k_is, by k_is, by k_is⟩, ⟨_, _, _, _, _, _, _, _, rfl, by k_is, by k_is⟩, by k_is, by kernel_rfl⟩ | refine ⟨by k_is, ⟨_, _, _, _, _, _, _, _, rfl, by k_is, by k_is⟩, by k_is, by kernel_rfl⟩ | (show _ = _; first | k_is | kernel_rfl))
