import PyProof.Rows.All
import Wide.All
import OpenK.AllK
import Wide.FinOn
import Lean
import PyProof.EqAt
import PyProof.EqKinds
import PyProof.TupleCall
import PyProof.AutoListH
import KE.KEqDict
import PyProof.EnumMake
import PyProof.SetKind
import PyProof.Rows.SetFrom
import PySem.Challenge.RW_roadsettings_k20_nodes_that_a_step_makes
set_option Elab.async false
set_option linter.all false
set_option maxRecDepth 100000
namespace L2
open PySem PySem.Spec PyProof.Rows
abbrev Zj:=Sum Int Str
def YK:Zj→Value→Bool
 | .inl k,v=>Value.isInt k v
 | .inr x,v=>Value.isStrOf x v
def keyH (w:World):Zj→Int
 | .inl k=>hashInt k
 | .inr x=>hashStr w x
theorem ZT:∀ {k:Zj} {v:Value},YK k v=true→(∃ i t,k=Sum.inl i∧v=Value.int i t)∨(∃ x t,k=Sum.inr x∧v=Value.str x t)
 | .inl i,v,h=>by
   obtain ⟨t,e⟩:=Value.isInt_shape (k:=i) (v:=v) h
   exact .inl ⟨i,t,rfl,e⟩
 | .inr x,v,h=>by
   obtain ⟨t,e⟩:=Value.isStrOf_shape (x:=x) (v:=v) h
   exact .inr ⟨x,t,rfl,e⟩
theorem ZbB (i:Int) (t:Tok):YK (.inl i) (.int i t)=true:=by simp [YK,Value.isInt]
theorem Zbx (x:Str) (t:Tok):YK (.inr x) (.str x t)=true:=by simp [YK,Value.isStrOf]
theorem Zlz (a b:Int):decide ((Sum.inl a:Zj)=Sum.inl b)=(a == b):=by
 by_cases e:a=b
 · subst e;simp
 · have h:¬ (Sum.inl a:Zj)=Sum.inl b:=fun q=>e (Sum.inl.inj q)
   rw [decide_eq_false h]
   exact (beq_eq_false_iff_ne.mpr e).symm
theorem ZkI (a b:Str):decide ((Sum.inr a:Zj)=Sum.inr b)=decide (a=b):=by
 by_cases e:a=b
 · subst e;simp
 · have h:¬ (Sum.inr a:Zj)=Sum.inr b:=fun q=>e (Sum.inr.inj q)
   rw [decide_eq_false h,decide_eq_false e]
theorem Zlc (a:Int) (b:Str):decide ((Sum.inl a:Zj)=Sum.inr b)=false:=decide_eq_false (fun q=>nomatch q)
theorem Zly (a:Str) (b:Int):decide ((Sum.inr a:Zj)=Sum.inl b)=false:=decide_eq_false (fun q=>nomatch q)
def Zu (prog:Program) (w:World):PySem.KeyKind prog w Zj where
 is:=YK
 hash:=keyH w
 inj := fun v a b ha hb=>by
   rcases ZT ha with ⟨i,t,rfl,rfl⟩ | ⟨x,t,rfl,rfl⟩
   · rcases ZT hb with ⟨j,u,rfl,e⟩ | ⟨y,u,rfl,e⟩
     · injection e with e1 _;rw [e1]
     · exact nomatch e
   · rcases ZT hb with ⟨j,u,rfl,e⟩ | ⟨y,u,rfl,e⟩
     · exact nomatch e
     · injection e with e1 _;rw [e1]
 byValue:=fun k v h=>by
   rcases ZT h with ⟨i,t,rfl,rfl⟩ | ⟨x,t,rfl,rfl⟩ <;> rfl
 pyHash:=fun hv h=>by
   rcases ZT hv with ⟨i,t,rfl,rfl⟩ | ⟨x,t,rfl,rfl⟩
   · exact wpAny_pyHash_int h
   · exact wpAny_pyHash_str h
 eqBool:=fun hu hv h=>by
   rcases ZT hu with ⟨i,t,rfl,rfl⟩ | ⟨x,t,rfl,rfl⟩
   · rcases ZT hv with ⟨j,u,rfl,rfl⟩ | ⟨y,u,rfl,rfl⟩
     · rw [Zlz] at h;exact wpAny_eqBool_int h
     · rw [Zlc] at h;exact SeqAt.EqAt.int_str i t y u _ _ _ _ h
   · rcases ZT hv with ⟨j,u,rfl,rfl⟩ | ⟨y,u,rfl,rfl⟩
     · rw [Zly] at h;exact SeqAt.EqAt.str_int x t j u _ _ _ _ h
     · rw [ZkI] at h;exact wpAny_eqBool_str h
 «strs»:=fun k x t v h=>by
   rcases ZT h with ⟨i,u,rfl,e⟩ | ⟨y,u,rfl,e⟩
   · exact nomatch e
   · injection e with e1 _
     subst e1
     cases v <;> rfl
theorem ZaO (prog:Program) (w:World) (k:Zj) (v:Value):(Zu prog w).is k v=YK k v:=rfl
theorem Zds (prog:Program) (w:World) (i:Int) (t:Tok):(Zu prog w).is (.inl i) (.int i t)=true:=ZbB i t
theorem VC (prog:Program) (w:World) (x:Str) (t:Tok):(Zu prog w).is (.inr x) (.str x t)=true:=Zbx x t
end L2
namespace L2
open PySem PySem.Spec PyProof.Rows
inductive V where
 | non | bl (b:Bool) | int (i:Int) | str (x:Str) | byt (b:Array UInt8) | flt (b:UInt64) | ref (a:Addr) | ty (n:String)
 deriving DecidableEq
def RelV:V→Value→Prop
 | .non,u=>u=Value.none
 | .bl b,u=>u=Value.bool b
 | .int i,u=>∃ t,u=Value.int i t
 | .str x,u=>∃ t,u=Value.str x t
 | .byt b,u=>∃ t,u=Value.bytes b t
 | .flt b,u=>∃ t,u=Value.float b t
 | .ref a,u=>u=Value.ref a
 | .ty n,u=>u=Value.type n
abbrev Vals:List V→List Value→Prop:=Paired RelV
theorem Vals.length {xs:List V} {us:List Value} (r:Vals xs us):xs.length=us.length:=Paired.length r
theorem Vals.get:∀ {xs:List V} {us:List Value} {i:Nat} {x:V},Vals xs us→xs[i]?=some x→∃ u,us[i]?=some u∧RelV x u
 | _,_,_,_,.nil,e=>by simp at e
 | _,_,0,_,.cons r _,e=>by simp at e;subst e;exact ⟨_,rfl,r⟩
 | _,_,i+1,x,.cons _ t,e=>by
   obtain ⟨u,h1,h2⟩:=Vals.get (i:=i) (x:=x) t (by simpa using e)
   exact ⟨u,by simpa using h1,h2⟩
theorem Vals.set {x:V} {u:Value} (r:RelV x u):∀ {xs:List V} {us:List Value} (i:Nat),Vals xs us→Vals (xs.set i x) (us.set i u)
 | _,_,_,.nil=>.nil
 | _,_,0,.cons _ t=>.cons r t
 | _,_,i+1,.cons q t=>.cons q (Vals.set r i t)
theorem Vals.append:∀ {xs ys:List V} {us ws:List Value},Vals xs us→Vals ys ws→Vals (xs++ys) (us++ws)
 | _,_,_,_,.nil,s=>s
 | _,_,_,_,.cons r t,s=>.cons r (Vals.append t s)
theorem Vals.take:∀ {xs:List V} {us:List Value} (n:Nat),Vals xs us→Vals (xs.take n) (us.take n)
 | _,_,0,_=>.nil
 | _,_,_+1,.nil=>.nil
 | _,_,n+1,.cons r t=>.cons r (Vals.take n t)
theorem Vals.drop:∀ {xs:List V} {us:List Value} (n:Nat),Vals xs us→Vals (xs.drop n) (us.drop n)
 | _,_,0,r=>r
 | _,_,_+1,.nil=>.nil
 | _,_,n+1,.cons _ t=>Vals.drop n t
def RelO:Option V→Option Value→Prop
 | some v,some u=>RelV v u
 | none,none=>True
 | _,_=>False
def KV {κ:Type}:List (κ×V)→List (κ×Value)→Prop:=Paired fun (p:κ×V) (q:κ×Value)=>p.1=q.1∧RelV p.2 q.2
def kV:Zj→V
 | .inl i=>.int i
 | .inr x=>.str x
inductive HO where
 | lst (xs:List V)
 | tup (xs:List V)
 | dK (kvs:List (Zj×V)) | dT (kvs:List (List Zj×V))
 | set (S:Int→Bool) (n:Nat)
 | ins (C dx:Addr) (fs:List (Str×V))
 | own (x:Addr)
 | xd (fs:List (Str×V))
 | met (f x:Addr)
 | rng (lo hi:Int)
 | frz (o:Obj) (u:HO)
 | tbl (ps:Array Value)
 | ext (φ:Heap→Prop)
abbrev Hp:=Addr→Option HO
def upd (H:Hp) (a:Addr) (o:HO):Hp:=fun b=>if b=a then some o else H b
theorem Zh {H:Hp} {a:Addr} {o:HO}:upd H a o a=some o:=by unfold upd;rw [if_pos rfl]
theorem Zk {H:Hp} {a b:Addr} {o:HO} (h:b≠a):upd H a o b=H b:=by unfold upd;rw [if_neg h]
theorem Zah {H:Hp} {a b:Addr} {o u:HO} (h:H a=some o) (h':H b=some u) (d:o≠u):a≠b:=by
 intro e;subst e;rw [h] at h';exact d (Option.some.inj h')
theorem Zt {H:Hp} {a b:Addr} {o:HO} (h:H a=some o) (h':H b=none):a≠b:=by
 intro e;subst e;rw [h] at h';cases h'
section
variable (P:Program) (w:World)
def ObjOk (H:Hp) (h:Heap) (a:Addr):HO→Prop
 | .lst xs=>xs.length≤sizeLine∧∃ (its:List Value) (n:Nat),Vals xs its∧h.get? a=some { cls:=.type "list",data:=.seq its.toArray n }
 | .tup xs=>xs.length≤sizeLine∧∃ its:List Value,Vals xs its∧IsTup h a its.toArray
 | .dK kvs=>kvs.length≤sizeLine∧(a == sysModules)=false∧∃ vs,KV kvs vs∧h.DictOf (Zu P w) a vs
 | .dT kvs=>kvs.length≤sizeLine∧(a == sysModules)=false∧∃ xs:List (List Zj×Addr×Value),
     Paired (fun (p:List Zj×V) (q:List Zj×Addr×Value)=>p.1=q.1∧H q.2.1=some (.tup (p.1.map kV))∧RelV p.2 q.2.2) kvs xs ∧
     ∃ o es ep,h.get? a=some o∧o.ExactDict∧o.data=.dict es ep∧es.toList=xs.map (entryOfKey (tupleKind (Zu P w)))∧(xs.map (·.1)).Nodup
 | .set S n=>h.SetOf (intKind P w) a S n
 | .ins C dx fs=>H dx=some (.own a)∧fs.length≤1000∧dx≠a∧h.get? a=some (PySem.W.instObj C dx) ∧
     ∃ mA,h.Ns1 dx mA∧(∀ f,RelO (fs.lookup f) (mA f))∧PySem.Within mA (fs.map (·.1))
 | .own _=>∃ o,h.get? a=some o
 | .xd fs=>∃ mA,h.Ns1 a mA∧∀ f,RelO (fs.lookup f) (mA f)
 | .rng lo hi=>∃ t u v,h.get? a=some { cls:=.type "range",data:=.fields #[.int lo t,.int hi u,.int 1 v] }
 | .frz o u=>h.get? a=some o∧ObjOk H h a u
 | .tbl ps=>h.get? a=some { cls:=.none,data:=.fields ps }
 | .met f x=>h.get? a=some (PySem.W.methodObj (.ref f) (.ref x))
 | .ext φ=>φ h∧(∃ o,h.get? a=some o)∧∀ h1 h2:Heap,φ h1→(∀ o,h1.get? a=some o→h2.get? a=some o)→φ h2
def HOk (H:Hp) (h:Heap):Prop:=∀ a o,H a=some o→ObjOk P w H h a o
end
section
variable {P:Program} {w:World} {H H':Hp} {h h':Heap} {a:Addr} {o:HO}
theorem ObjOk.lt (x:ObjOk P w H h a o):a < h.objs.size:=by
 cases o with
 | lst xs=>obtain ⟨_,_,_,_,e⟩:=x;exact Heap.lt_size e
 | tup xs=>obtain ⟨_,_,_,p⟩:=x;exact p.lt
 | dK kvs=>obtain ⟨_,_,_,_,o,_,_,e,_⟩:=x;exact Heap.lt_size e
 | dT kvs=>obtain ⟨_,_,_,_,o,_,_,e,_⟩:=x;exact Heap.lt_size e
 | set S n=>obtain ⟨o,_,_,_,e,_⟩:=x;exact Heap.lt_size e
 | ins C dx fs=>obtain ⟨_,_,_,e,_⟩:=x;exact Heap.lt_size e
 | own y=>obtain ⟨_,e⟩:=x;exact Heap.lt_size e
 | xd fs=>obtain ⟨_,⟨_,_,_,e,_⟩,_⟩:=x;exact Heap.lt_size e
 | rng lo hi=>obtain ⟨_,_,_,e⟩:=x;exact Heap.lt_size e
 | frz ob u=>obtain ⟨e,_⟩:=x;exact Heap.lt_size e
 | tbl ps=>exact Heap.lt_size (show h.get? a=some _ from x)
 | met f y=>exact Heap.lt_size (show h.get? a=some _ from x)
 | ext φ=>obtain ⟨_,⟨_,e⟩,_⟩:=x;exact Heap.lt_size e
theorem Paired.mapP {α β:Type} {F G:α→β→Prop}:∀ {l₁:List α} {l₂:List β},Paired F l₁ l₂→(∀ a b,F a b→G a b)→Paired G l₁ l₂
 | _,_,.nil,_=>.nil
 | _,_,.cons r t,f=>.cons (f _ _ r) (Paired.mapP t f)
theorem ObjOk.stay (x:ObjOk P w H h a o) (k:∀ b u,(b=a∨H b=some (.own a))→h.get? b=some u→h'.get? b=some u)
   (ho:∀ b,H b=some (.own a)→H' b=some (.own a)) (ht:∀ b xs,H b=some (.tup xs)→H' b=some (.tup xs)):ObjOk P w H' h' a o:=by
 induction o with
 | lst xs=>obtain ⟨z,its,n,r,e⟩:=x;exact ⟨z,its,n,r,k _ _ (.inl rfl) e⟩
 | tup xs=>obtain ⟨z,its,r,ob,e,c⟩:=x;exact ⟨z,its,r,ob,k _ _ (.inl rfl) e,c⟩
 | dK kvs=>obtain ⟨z,y,vs,r,ob,es,ep,e,c⟩:=x;exact ⟨z,y,vs,r,ob,es,ep,k _ _ (.inl rfl) e,c⟩
 | dT kvs =>
   obtain ⟨z,y,xs,r,ob,es,ep,e,c⟩:=x
   exact ⟨z,y,xs,Paired.mapP r fun p q z=>⟨z.1,ht _ _ z.2.1,z.2.2⟩,ob,es,ep,k _ _ (.inl rfl) e,c⟩
 | set S n=>obtain ⟨ob,es,ep,t,e,c⟩:=x;exact ⟨ob,es,ep,t,k _ _ (.inl rfl) e,c⟩
 | ins C dx fs =>
   obtain ⟨d,z,ne,e,mA,⟨od,es,ep,e2,c⟩,r⟩:=x
   exact ⟨ho _ d,z,ne,k _ _ (.inl rfl) e,mA,⟨od,es,ep,k _ _ (.inr d) e2,c⟩,r⟩
 | own y=>obtain ⟨ob,e⟩:=x;exact ⟨ob,k _ _ (.inl rfl) e⟩
 | xd fs=>obtain ⟨mA,⟨od,es,ep,e,c⟩,r⟩:=x;exact ⟨mA,⟨od,es,ep,k _ _ (.inl rfl) e,c⟩,r⟩
 | rng lo hi=>obtain ⟨t,u,v,e⟩:=x;exact ⟨t,u,v,k _ _ (.inl rfl) e⟩
 | frz ob u ih=>obtain ⟨e,q⟩:=x;exact ⟨k _ _ (.inl rfl) e,ih q⟩
 | tbl ps =>
   have e:h.get? a=some { cls:=.none,data:=.fields ps }:=x
   show h'.get? a=some { cls:=.none,data:=.fields ps }
   exact k a _ (.inl rfl) e
 | met f y =>
   have e:h.get? a=some (PySem.W.methodObj (.ref f) (.ref y)):=x
   show h'.get? a=some (PySem.W.methodObj (.ref f) (.ref y))
   exact k a _ (.inl rfl) e
 | ext φ=>obtain ⟨p,⟨o,e⟩,st⟩:=x;exact ⟨st _ _ p fun o q=>k _ _ (.inl rfl) q,⟨o,k _ _ (.inl rfl) e⟩,st⟩
theorem HOk.lt (x:HOk P w H h) (e:H a=some o):a < h.objs.size:=(x a o e).lt
theorem HOk.fresh (x:HOk P w H h) (e:h.objs.size≤a):H a=none:=by
 cases q:H a with
 | none=>rfl
 | some u=>exact absurd (Nat.lt_of_lt_of_le (x.lt q) e) (Nat.lt_irrefl _)
theorem HOk.kept (x:HOk P w H h) (k:∀ b u,h.get? b=some u→h'.get? b=some u):HOk P w H h':=fun a o e =>
 (x a o e).stay (fun b u _ q=>k b u q) (fun _ q=>q) fun _ _ q=>q
theorem HOk.laid (x:HOk P w H h) (k:∀ b u,h.get? b=some u→h'.get? b=some u) (hp:h.objs.size≤a) (new:ObjOk P w (upd H a o) h' a o):HOk P w (upd H a o) h':=fun b u e=>by
 have hn:=x.fresh hp
 by_cases hb:b=a
 · subst hb;rw [Zh] at e;cases e;exact new
 · rw [Zk hb] at e
   exact (x b u e).stay (fun c v _ q=>k c v q) (fun c q=>by rw [Zk (Zt q hn)];exact q) fun c xs q=>by rw [Zk (Zt q hn)];exact q
end
def Rd (H:Hp) (a:Addr) (u:HO):Prop:=H a=some u∨∃ o,H a=some (.frz o u)
theorem Rd.ok {P:Program} {w:World} {H:Hp} {h:Heap} {a:Addr} {u:HO} (r:Rd H a u) (x:HOk P w H h):ObjOk P w H h a u:=by
 rcases r with r | ⟨o,r⟩
 · exact x a u r
 · obtain ⟨_,q⟩:=x a _ r
   exact q
def Mut:Option HO→Prop
 | some (.lst _)=>True
 | some (.dK _)=>True
 | some (.dT _)=>True
 | some (.set _ _)=>True
 | some (.ins _ _ _)=>True
 | some (.ext _)=>True
 | _=>False
section
variable {P:Program} {w:World} {H:Hp} {h h':Heap} {x e:Addr} {o':HO}
theorem HOk.write (ok:HOk P w H h) (mu:Mut (H x)) (he:e=x∨H e=some (.own x)) (k:∀ b u,b≠e→h.get? b=some u→h'.get? b=some u) (heo:∃ u,h'.get? e=some u)
   (new:ObjOk P w (upd H x o') h' x o'):HOk P w (upd H x o') h':=fun b u q=>by
 have nown:∀ c y,H c=some (.own y)→c≠x:=fun c y r z=>by subst z;rw [r] at mu;exact mu
 have ntup:∀ c xs,H c=some (.tup xs)→c≠x:=fun c xs r z=>by subst z;rw [r] at mu;exact mu
 by_cases hb:b=x
 · subst hb;rw [Zh] at q;cases q;exact new
 · rw [Zk hb] at q
   by_cases hbe:b=e
   · have q':H b=some (.own x):=by
       rcases he with z | z
       · exact absurd (hbe.trans z) hb
       · rw [hbe];exact z
     rw [q] at q';cases q'
     obtain ⟨v,hv⟩:=heo
     exact ⟨v,by rw [hbe];exact hv⟩
   · refine (ok b u q).stay (fun c v hc r=>k c v ?_ r) (fun c r=>by rw [Zk (nown c b r)];exact r) fun c xs r=>by rw [Zk (ntup c xs r)];exact r
     rcases hc with rfl | hc
     · exact hbe
     · rintro rfl
       rcases he with z | z
       · exact nown c b hc z
       · rw [hc] at z;cases z;exact hb rfl
end
structure Un (fs ex:List Addr) (H H':Hp) (h h':Heap):Prop where
 keep:∀ b o,h.get? b=some o→H b=none→b ∉ fs→b ∉ ex→h'.get? b=some o
 slot:∀ b o,h.get? b=some o→H b=none→b∈fs→b ∉ ex→∃ sl,h'.get? b=some { o with slots:=sl }
 free:∀ b o,h.get? b=some o→H b=none→b ∉ ex→H' b=none
 there:∀ b o,h.get? b=some o→b ∉ ex→∃ o',h'.get? b=some o'
 tups:∀ b xs,H b=some (.tup xs)→H' b=some (.tup xs)
 frzs:∀ b o u,H b=some (.frz o u)→H' b=some (.frz o u)
 tbls:∀ b ps,H b=some (.tbl ps)→∃ more,H' b=some (.tbl (ps++more))
section
variable {fs fs' ex ex':List Addr} {H H1 H2:Hp} {h h1 h2 h':Heap} {a x e:Addr} {o:HO}
theorem Un.any (u:Un fs ex H H1 h h1) {b:Addr} {ob:Obj} (q:h.get? b=some ob) (n:H b=none) (hx:b ∉ ex):∃ sl,h1.get? b=some { ob with slots:=sl }:=by
 by_cases hb:b∈fs
 · exact u.slot b ob q n hb hx
 · exact ⟨ob.slots,u.keep b ob q n hb hx⟩
theorem Un.kept (k:∀ b u,h.get? b=some u→h'.get? b=some u):Un fs ex H H h h' :=
 ⟨fun b ob q _ _ _=>k b ob q,fun b ob q _ _ _=>⟨ob.slots,k b ob q⟩,fun _ _ _ n _=>n,fun b ob q _=>⟨ob,k b ob q⟩,fun _ _ q=>q,fun _ _ _ q=>q,fun _ ps q=>⟨#[],by rw [q];simp⟩⟩
theorem Un.refl:Un fs ex H H h h:=Un.kept fun _ _ q=>q
theorem Un.laid (k:∀ b u,h.get? b=some u→h'.get? b=some u) (hp:h.objs.size≤a) (hn:H a=none):Un fs ex H (upd H a o) h h' where
 keep:=fun b u q _ _ _=>k b u q
 slot:=fun b u q _ _ _=>⟨u.slots,k b u q⟩
 free:=fun b u q n _=>by rw [Zk (Nat.ne_of_lt (Nat.lt_of_lt_of_le (Heap.lt_size q) hp))];exact n
 there:=fun b u q _=>⟨u,k b u q⟩
 tups:=fun b xs q=>by rw [Zk (Zt q hn)];exact q
 frzs:=fun b u xs q=>by rw [Zk (Zt q hn)];exact q
 tbls:=fun b ps q=>⟨#[],by rw [Zk (Zt q hn),q];simp⟩
theorem Un.write (mu:Mut (H x)) (he:e=x∨H e=some (.own x)) (k:∀ b u,b≠e→h.get? b=some u→h'.get? b=some u) (heo:∃ u,h'.get? e=some u):Un fs ex H (upd H x o) h h':=by
 have hx:∀ b,H b=none→b≠x:=fun b n z=>by subst z;rw [n] at mu;exact mu
 have hb:∀ b,H b=none→b≠e:=fun b n z=>by
   subst z
   rcases he with r | r
   · exact hx b n r
   · rw [n] at r;cases r
 have hm:∀ b u,H b=some u→¬ Mut (some u)→b≠x:=fun b u q nm z=>by subst z;rw [q] at mu;exact nm mu
 refine ⟨fun b u q n _ _=>k b u (hb b n) q,fun b u q n _ _=>⟨u.slots,k b u (hb b n) q⟩,fun b u q n _=>by rw [Zk (hx b n)];exact n,fun b u q _=>?_,
   fun b xs q=>by rw [Zk (hm b _ q fun z=>z)];exact q,fun b u xs q=>by rw [Zk (hm b _ q fun z=>z)];exact q,fun b ps q=>⟨#[],by rw [Zk (hm b _ q fun z=>z),q];simp⟩⟩
 by_cases hbe:b=e
 · subst hbe;exact heo
 · exact ⟨u,k b u hbe q⟩
end
def trk (h:Heap) (H:Hp):List Addr:=(List.range h.objs.size).filter fun a=>(H a).isSome
def WV (h:Heap) (H:Hp):Heap:=PySem.W.hideAll h (trk h H)
theorem ZfZ (h:Heap) (H:Hp):(WV h H).objs.size=h.objs.size:=PySem.W.hideAll_size _ _
theorem ZhT {h:Heap} {H:Hp} {b:Addr} {o:Obj} (e:h.get? b=some o) (n:H b=none):(WV h H).get? b=some o :=
 PySem.W.hideAll_get _ e fun hm=>by
   have q:(H b).isSome=true:=(List.mem_filter.mp hm).2
   rw [n] at q;simp at q
theorem Zko {h:Heap} {H:Hp} {b:Addr} {o:Obj} (e:(WV h H).get? b=some o):h.get? b=some o∧H b=none:=by
 have e':h.get? b=some o:=PySem.W.of_hideAll (trk h H) e
 refine ⟨e',?_⟩
 cases q:H b with
 | none=>rfl
 | some x =>
   have hm:b∈trk h H:=List.mem_filter.mpr ⟨List.mem_range.mpr (Heap.lt_size e'),by simp [q]⟩
   have z:(WV h H).get? b=none:=PySem.W.hideAll_none (trk h H) hm
   rw [z] at e;cases e
end L2
namespace L2
open PySem PySem.Spec PyProof.Rows
structure Mod (K:PySem.W.Frag) (mg:Str→Option Value) (base:Heap):Prop where
 kin:K.In base
 glob:base.Ns mainGlobals mg
 blt:∃ mb,base.Ns builtinsNs mb∧∀ x:Str,x≠"__name__"→mb x=bootBuiltins x
 nolimit:base.NoLimit
structure Cx where
 prog:Program
 w:World
 K:PySem.W.Frag
 mg:Str→Option Value
 base:Heap
 A:Around
 N:List Str
 s₀:Shared
 H₀:Hp
 env:Env
 outer:List Env
 stack:List Env
 ex:List Addr
 fn:Str→Bool
 calm:Bool
 pn:List (Addr×Obj)
 xe:Value→Shared→Prop
def Vk (l:List Env):List Addr:=l.filterMap (·.frame)
abbrev Cx.fs (X:Cx):List Addr:=Vk X.outer
def Vis (sc:Scope) (x:Str):Prop:=sc.names.lookup x=some .local∨sc.names.lookup x=some .cell∨sc.names.lookup x=some .free
def Loc (sc:Scope) (x:Str):Prop:=sc.names.lookup x=some .local∨sc.names.lookup x=some .cell
def Look (env:Env) (h:Heap) (m:Str→Option Value) (x:Str) (u:Value):Prop :=
 (env.kindOf x=some .local∧m x=some u)∨((env.kindOf x=some .cell∨env.kindOf x=some .free)∧∃ c,env.cells.lookup x=some c∧h.IsCell c (some u))
structure Cx.Ok (X:Cx):Prop where
 mod:Mod X.K X.mg X.base
 kind:X.env.scope.kind=.function
 glob:X.env.globals=mainGlobals
 blt:X.env.builtins=builtinsNs
 above:X.s₀.heap.objs.size≤X.env.locals
 inj:∀ x y c,X.env.cells.lookup x=some c→X.env.cells.lookup y=some c→x=y
 has:∀ x,(X.env.kindOf x=some .cell∨X.env.kindOf x=some .free)→∃ c,X.env.cells.lookup x=some c
 cab:∀ x c,X.fn x=true→X.env.cells.lookup x=some c→X.s₀.heap.objs.size≤c
 hd:X.calm=true→X.A.handled=none
 frames:X.A.frames=some X.stack
 stk:X.stack=X.outer∨(X.stack=X.env::X.outer∧X.env.frame=some X.env.locals)
 exf:∀ b∈X.ex,b≠X.env.locals∧∀ x c,X.env.cells.lookup x=some c→c≠b
 bs:∀ b o,X.base.get? b=some o→X.s₀.heap.get? b=some o∧X.H₀ b=none
 bsz:X.base.objs.size≤X.s₀.heap.objs.size
 noex:∀ b o,X.base.get? b=some o→b ∉ X.ex
 exfs:∀ b∈X.ex,b ∉ X.fs
 funs:X.s₀.heap.FunFrames X.base X.outer
 frf:∀ b∈X.fs,X.H₀ b=none
structure Inv (X:Cx) (pins:List (Addr×Obj)) (σ:List (Option V)) (H:Hp) (s:Shared):Prop where
 ok:X.Ok
 os:s.os=X.s₀.os
 bare:AllBare s.gens
 base:Un X.fs X.ex X.H₀ H X.s₀.heap s.heap
 loc:∃ m,s.heap.Ns X.env.locals m∧∀ (i:Nat) (x:Str) (v:V),X.N[i]?=some x→σ[i]?=some (some v)→Vis X.env.scope x→∃ u,RelV v u∧Look X.env s.heap m x u
 cell:∀ x c,X.env.cells.lookup x=some c→∃ v,s.heap.IsCell c v
 free:H X.env.locals=none
 freeC:∀ x c,X.env.cells.lookup x=some c→H c=none
 pin:∀ p∈X.pn++pins,s.heap.get? p.1=some p.2∧H p.1=none∧p.1≠X.env.locals∧p.1 ∉ X.fs∧∀ v,p.2.data≠.cell v
 hok:HOk X.prog X.w H s.heap
 len:σ.length=X.N.length
section
variable {X:Cx} {pins:List (Addr×Obj)} {σ:List (Option V)} {H H':Hp} {s:Shared} {h':Heap}
theorem Cx.Ok.nofr (ok:X.Ok) {b:Addr} {o:Obj} (e:X.base.get? b=some o):b ∉ X.fs:=fun hb=>by
 have:=(ok.funs.mem hb).1
 rw [e] at this;cases this
theorem Inv.bs (I:Inv X pins σ H s):∀ b o,X.base.get? b=some o→s.heap.get? b=some o∧H b=none:=fun b o e =>
 ⟨I.base.keep b o (I.ok.bs b o e).1 (I.ok.bs b o e).2 (I.ok.nofr e) (I.ok.noex b o e),I.base.free b o (I.ok.bs b o e).1 (I.ok.bs b o e).2 (I.ok.noex b o e)⟩
theorem Inv.bk (I:Inv X pins σ H s):∀ b o,X.base.get? b=some o→s.heap.get? b=some o:=fun b o e=>(I.bs b o e).1
theorem Inv.mod (I:Inv X pins σ H s):Mod X.K X.mg X.base:=I.ok.mod
theorem Inv.kIn (I:Inv X pins σ H s):X.K.In s.heap:=I.ok.mod.kin.keeps I.bk
theorem Inv.nolimit (I:Inv X pins σ H s):s.heap.NoLimit:=I.ok.mod.nolimit.keeps I.bk
theorem Inv.lt (I:Inv X pins σ H s):X.env.locals < s.heap.objs.size:=let ⟨_,hn,_⟩:=I.loc;hn.lt
theorem Inv.sz (I:Inv X pins σ H s):X.s₀.heap.objs.size≤s.heap.objs.size:=Nat.le_trans I.ok.above (Nat.le_of_lt I.lt)
theorem Inv.nofs (I:Inv X pins σ H s) {a:Addr} (h:s.heap.objs.size≤a):a ∉ X.fs:=fun hb=>by
 obtain ⟨_,o,ho,_⟩:=I.ok.funs.mem hb
 exact absurd (Nat.lt_of_lt_of_le (Heap.lt_size ho) (Nat.le_trans I.sz h)) (Nat.lt_irrefl _)
theorem Inv.cne (I:Inv X pins σ H s):∀ x c,X.env.cells.lookup x=some c→c≠X.env.locals:=fun x c e z=>by
 obtain ⟨v,o,ho,hd⟩:=I.cell x c e
 obtain ⟨m,⟨o',es,ep,ho',hd',_⟩,_⟩:=I.loc
 rw [z,ho'] at ho;cases ho;rw [hd'] at hd;cases hd
theorem Inv.funs (I:Inv X pins σ H s):s.heap.FunFrames X.base X.outer:=by
 have all:∀ (l:List Env),(∀ b∈Vk l,b∈X.fs)→X.s₀.heap.FunFrames X.base l→s.heap.FunFrames X.base l:=by
   intro l
   induction l with
   | nil=>intro _ _;trivial
   | cons env r ih =>
     intro hs hl
     obtain ⟨hk,⟨L,o,hf,hn,ho,hd⟩,hr⟩:=hl
     have hL:L∈X.fs:=hs L (by unfold Vk;rw [List.filterMap_cons,hf];exact List.mem_cons_self)
     obtain ⟨sl,e⟩:=I.base.slot L o ho (I.ok.frf L hL) hL fun z=>I.ok.exfs L z hL
     exact ⟨hk,⟨L,_,hf,hn,e,hd⟩,ih (fun b hb=>hs b (by unfold Vk;rw [List.filterMap_cons,hf];exact List.mem_cons_of_mem _ hb)) hr⟩
 exact all X.outer (fun _ hb=>hb) I.ok.funs
theorem Inv.stack (I:Inv X pins σ H s):s.heap.FunFrames X.base X.stack:=by
 rcases I.ok.stk with e | ⟨e,hf⟩
 · rw [e];exact I.funs
 · rw [e]
   obtain ⟨m,hn,_⟩:=I.loc
   refine .cons (by rw [I.ok.kind];decide) hf hn ?_ I.funs
   exact Heap.get?_none_of_le (Nat.le_trans I.ok.bsz I.ok.above)
theorem Inv.stkSub (I:Inv X pins σ H s):∀ b∈Vk X.stack,b∈X.env.locals::X.fs:=fun b hb=>by
 rcases I.ok.stk with e | ⟨e,hf⟩
 · rw [e] at hb;exact List.mem_cons_of_mem _ hb
 · rw [e] at hb
   unfold Vk at hb
   rw [List.filterMap_cons,hf] at hb
   exact hb
theorem Inv.stkFree (I:Inv X pins σ H s):∀ b∈Vk X.stack,H b=none:=fun b hb=>by
 rcases List.mem_cons.mp (I.stkSub b hb) with e | hb
 · rw [e];exact I.free
 · obtain ⟨_,o,ho,_⟩:=I.ok.funs.mem hb
   exact I.base.free b o ho (I.ok.frf b hb) fun z=>I.ok.exfs b z hb
theorem Inv.step {g':Array GenState} {t':Nat} {d':Drawn} {ch:List Addr} (I:Inv X pins σ H s)
   (hch:∀ b∈ch,(b∈X.ex∨X.s₀.heap.objs.size≤b)∧b≠X.env.locals∧(∀ x c,X.env.cells.lookup x=some c→c≠b)∧∀ p∈X.pn++pins,p.1≠b)
   (keep:∀ b o,b≠X.env.locals→b ∉ X.fs→b ∉ ch→s.heap.get? b=some o→H b=none→h'.get? b=some o)
   (slot:∀ b o,b≠X.env.locals→b∈X.fs→b ∉ ch→s.heap.get? b=some o→H b=none→∃ sl,h'.get? b=some { o with slots:=sl }) (free:∀ b o,b ∉ ch→s.heap.get? b=some o→H b=none→H' b=none)
   (there:∀ b o,b ∉ ch→s.heap.get? b=some o→∃ o',h'.get? b=some o')
   (tups:∀ b xs,H b=some (.tup xs)→H' b=some (.tup xs)) (frzs:∀ b o u,H b=some (.frz o u)→H' b=some (.frz o u)) (tbls:∀ b ps,H b=some (.tbl ps)→∃ more,H' b=some (.tbl (ps++more)))
   (ns:∀ m,s.heap.Ns X.env.locals m→h'.Ns X.env.locals m) (hok:HOk X.prog X.w H' h') (hg:AllBare g') :
   Inv X pins σ H' { s with heap:=h',gens:=g',drawn:=d',toks:=t' }:=by
 have neL:∀ b o,X.s₀.heap.get? b=some o→b≠X.env.locals:=fun b o e=>Nat.ne_of_lt (Nat.lt_of_lt_of_le (Heap.lt_size e) I.ok.above)
 have neC:∀ b o,X.s₀.heap.get? b=some o→b ∉ X.ex→b ∉ ch:=fun b o e hx hb=>by
   rcases (hch b hb).1 with z | z
   · exact hx z
   · exact absurd (Nat.lt_of_lt_of_le (Heap.lt_size e) z) (Nat.lt_irrefl _)
 have cellK:∀ x c,X.env.cells.lookup x=some c→∀ v,s.heap.IsCell c v→h'.IsCell c v:=fun x c e v ⟨o,ho,hd⟩=>by
   have nch:c ∉ ch:=fun z=>(hch c z).2.2.1 x c e rfl
   by_cases hc:c∈X.fs
   · obtain ⟨sl,q⟩:=slot c o (I.cne x c e) hc nch ho (I.freeC x c e)
     exact ⟨_,q,hd⟩
   · exact ⟨o,keep c o (I.cne x c e) hc nch ho (I.freeC x c e),hd⟩
 refine ⟨I.ok,I.os,hg,⟨fun b o e n hb hx=>?_,fun b o e n hb hx=>?_,fun b o e n hx=>?_,fun b o e hx=>?_,fun b xs e=>tups b xs (I.base.tups b xs e),fun b o xs e=>frzs b o xs (I.base.frzs b o xs e),fun b ps e=>?_⟩,?_,fun x c e=>?_,?_,fun x c e=>?_,fun p hp=>?_,hok,I.len⟩
 · exact keep b o (neL b o e) hb (neC b o e hx) (I.base.keep b o e n hb hx) (I.base.free b o e n hx)
 · obtain ⟨sl,e1⟩:=I.base.slot b o e n hb hx
   obtain ⟨sl',e2⟩:=slot b _ (neL b o e) hb (neC b o e hx) e1 (I.base.free b o e n hx)
   exact ⟨sl',e2⟩
 · obtain ⟨o',e1⟩:=I.base.there b o e hx
   exact free b o' (neC b o e hx) e1 (I.base.free b o e n hx)
 · obtain ⟨o',e1⟩:=I.base.there b o e hx
   exact there b o' (neC b o e hx) e1
 · obtain ⟨m1,e1⟩:=I.base.tbls b ps e
   obtain ⟨m2,e2⟩:=tbls b _ e1
   exact ⟨m1++m2,by rw [e2,Array.append_assoc]⟩
 · obtain ⟨m,hn,hl⟩:=I.loc
   refine ⟨m,ns m hn,fun i x v e1 e2 e3=>?_⟩
   obtain ⟨u,r,l⟩:=hl i x v e1 e2 e3
   refine ⟨u,r,?_⟩
   rcases l with l | ⟨k,c,e,z⟩
   · exact .inl l
   · exact .inr ⟨k,c,e,cellK x c e _ z⟩
 · obtain ⟨v,z⟩:=I.cell x c e
   exact ⟨v,cellK x c e v z⟩
 · obtain ⟨m,⟨o,_,_,ho,_⟩,_⟩:=I.loc
   exact free _ o (fun z=>(hch _ z).2.1 rfl) ho I.free
 · obtain ⟨v,o,ho,hd⟩:=I.cell x c e
   exact free c o (fun z=>(hch c z).2.2.1 x c e rfl) ho (I.freeC x c e)
 · obtain ⟨e,n,ne,nf,d⟩:=I.pin p hp
   have nch:p.1 ∉ ch:=fun z=>(hch p.1 z).2.2.2 p hp rfl
   exact ⟨keep p.1 p.2 ne nf nch e n,free p.1 p.2 nch e n,ne,nf,d⟩
theorem Inv.un {t':Nat} (I:Inv X pins σ H s) (u:Un X.fs [] H H' s.heap h') (hok:HOk X.prog X.w H' h'):Inv X pins σ H' { s with heap:=h',toks:=t' }:=by
 obtain ⟨m,⟨o,es,ep,ho,r⟩,_⟩:=id I.loc
 obtain ⟨sl,hL⟩:=u.any ho I.free (by simp)
 exact I.step (g':=s.gens) (d':=s.drawn) (ch:=[]) (fun _ z=>nomatch z) (fun b o _ hb _ e n=>u.keep b o e n hb (by simp)) (fun b o _ hb _ e n=>u.slot b o e n hb (by simp)) (fun b o _ e n=>u.free b o e n (by simp)) (fun b o _ e=>u.there b o e (by simp)) u.tups u.frzs u.tbls (fun m' hm=>by
   obtain ⟨o',es',ep',ho',r'⟩:=hm
   rw [ho] at ho';cases ho'
   exact ⟨_,es',ep',hL,r'⟩) hok I.bare
theorem Inv.call {g':Array GenState} {t':Nat} {d':Drawn} {ch:List Addr} (I:Inv X pins σ H s) (u:Un (Vk X.stack) ch H H' s.heap h') (hok:HOk X.prog X.w H' h') (hg:AllBare g')
   (hch:∀ b∈ch,(b∈X.ex∨X.s₀.heap.objs.size≤b)∧b≠X.env.locals∧(∀ x c,X.env.cells.lookup x=some c→c≠b)∧∀ p∈X.pn++pins,p.1≠b) :
   Inv X pins σ H' { s with heap:=h',gens:=g',drawn:=d',toks:=t' }:=by
 obtain ⟨m,⟨o,es,ep,ho,r⟩,_⟩:=id I.loc
 obtain ⟨sl,hL⟩:=u.any ho I.free fun z=>(hch _ z).2.1 rfl
 exact I.step (ch:=ch) hch (fun b o hL hb hc e n=>u.keep b o e n (fun z=>(List.mem_cons.mp (I.stkSub b z)).elim hL hb) hc) (fun b o _ _ hc e n=>u.any e n hc) (fun b o hc e n=>u.free b o e n hc) (fun b o hc e=>u.there b o e hc) u.tups u.frzs u.tbls (fun m' hm=>by
   obtain ⟨o',es',ep',ho',r'⟩:=hm
   rw [ho] at ho';cases ho'
   exact ⟨_,es',ep',hL,r'⟩) hok hg
theorem Inv.turned {t':Nat} {it:Addr} (I:Inv X pins σ H s) (k:∀ b o,b≠it→s.heap.get? b=some o→h'.get? b=some o) (hn:H it=none) (hL:it≠X.env.locals)
   (h1:it∈X.ex∨X.s₀.heap.objs.size≤it) (h2:∀ x c,X.env.cells.lookup x=some c→c≠it) (h3:∀ p∈X.pn++pins,p.1≠it):Inv X pins σ H { s with heap:=h',toks:=t' }:=by
 have nit:∀ b u,H b=some u→b≠it:=fun b u e z=>by rw [z,hn] at e;cases e
 refine I.step (g':=s.gens) (d':=s.drawn) (ch:=[it]) (fun b hb=>?_) (fun b o _ _ hc e _=>k b o (fun z=>hc (by simp [z])) e) (fun b o _ _ hc e _=>⟨o.slots,k b o (fun z=>hc (by simp [z])) e⟩) (fun _ _ _ _ n=>n)
   (fun b o hc e=>⟨o,k b o (fun z=>hc (by simp [z])) e⟩) (fun _ _ e=>e) (fun _ _ _ e=>e) (fun b ps e=>⟨#[],by rw [e];simp⟩) (fun m hm=>?_) (fun b u e=>?_) I.bare
 · have e:b=it:=by simpa using hb
   subst e
   exact ⟨h1,hL,h2,h3⟩
 · obtain ⟨o,es,ep,ho,r⟩:=hm
   exact ⟨o,es,ep,k _ o (Ne.symm hL) ho,r⟩
 · refine (I.hok b u e).stay (fun c v hc q=>k c v ?_ q) (fun _ q=>q) fun _ _ q=>q
   rcases hc with z | z
   · rw [z];exact nit b u e
   · exact nit c _ z
theorem Inv.tok (I:Inv X pins σ H s) (t:Nat):Inv X pins σ H { s with toks:=t }:=I.un (h':=s.heap) (t':=t) Un.refl I.hok
theorem Inv.kept {t':Nat} (I:Inv X pins σ H s) (k:∀ b u,s.heap.get? b=some u→h'.get? b=some u):Inv X pins σ H { s with heap:=h',toks:=t' }:=I.un (Un.kept k) (I.hok.kept k)
theorem Inv.laid {a:Addr} {o:HO} {t':Nat} (I:Inv X pins σ H s) (k:∀ b u,s.heap.get? b=some u→h'.get? b=some u) (hp:s.heap.objs.size≤a) (new:ObjOk X.prog X.w (upd H a o) h' a o) :
 Inv X pins σ (upd H a o) { s with heap:=h',toks:=t' }:=I.un (Un.laid k hp (I.hok.fresh hp)) (I.hok.laid k hp new)
theorem Inv.write {x e:Addr} {o:HO} {t':Nat} (I:Inv X pins σ H s) (mu:Mut (H x)) (he:e=x∨H e=some (.own x)) (k:∀ b u,b≠e→s.heap.get? b=some u→h'.get? b=some u) (heo:∃ u,h'.get? e=some u)
 (new:ObjOk X.prog X.w (upd H x o) h' x o):Inv X pins σ (upd H x o) { s with heap:=h',toks:=t' }:=I.un (Un.write mu he k heo) (I.hok.write mu he k heo new)
theorem Inv.pins_of {pins':List (Addr×Obj)} (I:Inv X pins σ H s) (h:∀ p∈pins',s.heap.get? p.1=some p.2∧H p.1=none∧p.1≠X.env.locals∧p.1 ∉ X.fs∧∀ v,p.2.data≠.cell v):Inv X pins' σ H s :=
 ⟨I.ok,I.os,I.bare,I.base,I.loc,I.cell,I.free,I.freeC,fun p hp=>(List.mem_append.mp hp).elim (fun z=>I.pin p (List.mem_append_left _ z)) (h p),I.hok,I.len⟩
theorem ZcU {N:List Str} (hN:N.Nodup) {i j:Nat} {x:Str} (a:N[i]?=some x) (b:N[j]?=some x):i=j:=by
 obtain ⟨h1,e1⟩:=List.getElem?_eq_some_iff.mp a
 obtain ⟨h2,e2⟩:=List.getElem?_eq_some_iff.mp b
 exact (List.getElem_inj hN).mp (e1.trans e2.symm)
theorem Zby {M:Model} {A:Around} {E:Value→Shared→Prop} {i:Nat} {x:Str} {v:V} {u:Value} {Q:Unit→Shared→Prop} (I:Inv X pins σ H s) (hN:X.N.Nodup) (hi:X.N[i]?=some x) (hx:Loc X.env.scope x) (r:RelV v u)
   (h:∀ s',Inv X pins (σ.set i (some v)) H s'→(∃ a,Heap.SameBut a s.heap s'.heap∧(a=X.env.locals∨X.env.cells.lookup x=some a))→Q () s') (hf:X.fn x=true∨X.env.scope.names.lookup x=some .local:=by first | exact .inl rfl | exact .inr rfl | assumption):wpAny M A (storeName X.env x u) Q E s:=by
 obtain ⟨m,hn,hl⟩:=id I.loc
 have hcls:(X.env.scope.kind == .class || (X.env.scope.kind == .module && X.env.locals != X.env.globals))=false:=by rw [I.ok.kind];rfl
 have hiσ:i < σ.length:=by rw [I.len];exact (List.getElem?_eq_some_iff.mp hi).1
 have cne:=I.cne
 have tracked:∀ {a:Addr} {h':Heap},(∃ o,s.heap.get? a=some o∧H a=none)→Heap.SameBut a s.heap h'→HOk X.prog X.w H h':=fun {a h'} ha hs b ob e=>by
   obtain ⟨_,_,hfree⟩:=ha
   refine (I.hok b ob e).stay (fun c w' hc q=>(hs.2 c ?_).trans q) (fun _ q=>q) fun _ _ q=>q
   rintro rfl
   rcases hc with rfl | hc
   · rw [hfree] at e;cases e
   · rw [hfree] at hc;cases hc
 rcases hx with hk | hk
 · refine wpAny_storeName_local hk hn (fun h' hn' hs=>?_) hcls
   obtain ⟨oL,_,_,hoL,_⟩:=id hn
   refine h _ ⟨I.ok,I.os,I.bare,⟨fun b o e n hb hx=>?_,fun b o e n hb hx=>?_,I.base.free,fun b o e hx=>?_,I.base.tups,I.base.frzs,I.base.tbls⟩,⟨_,hn',fun j y v' e1 e2 e3=>?_⟩,fun y c e=>?_,I.free,I.freeC,fun p hp=>?_,tracked ⟨oL,hoL,I.free⟩ hs,by simpa using I.len⟩ ⟨_,hs,.inl rfl⟩
   · exact (hs.2 b (Nat.ne_of_lt (Nat.lt_of_lt_of_le (Heap.lt_size e) I.ok.above))).trans (I.base.keep b o e n hb hx)
   · obtain ⟨sl,e1⟩:=I.base.slot b o e n hb hx
     exact ⟨sl,(hs.2 b (Nat.ne_of_lt (Nat.lt_of_lt_of_le (Heap.lt_size e) I.ok.above))).trans e1⟩
   · obtain ⟨o',e1⟩:=I.base.there b o e hx
     exact ⟨o',(hs.2 b (Nat.ne_of_lt (Nat.lt_of_lt_of_le (Heap.lt_size e) I.ok.above))).trans e1⟩
   · by_cases hj:j=i
     · subst hj
       rw [hi] at e1;cases e1
       rw [List.getElem?_set_self hiσ] at e2
       cases e2
       exact ⟨u,r,.inl ⟨hk,by simp⟩⟩
     · rw [List.getElem?_set_ne (Ne.symm hj)] at e2
       obtain ⟨u',r',q⟩:=hl j y v' e1 e2 e3
       refine ⟨u',r',?_⟩
       rcases q with ⟨k,e⟩ | ⟨k,c,e,z⟩
       · refine .inl ⟨k,?_⟩
         have:y≠x:=fun e=>hj (ZcU hN e1 (e ▸ hi))
         simp [this,e]
       · exact .inr ⟨k,c,e,z.sameBut hs (cne y c e)⟩
   · obtain ⟨w',z⟩:=I.cell y c e
     exact ⟨w',z.sameBut hs (cne y c e)⟩
   · obtain ⟨e,n,ne,nf,d⟩:=I.pin p hp
     exact ⟨(hs.2 p.1 ne).trans e,n,ne,nf,d⟩
 · have hfn:X.fn x=true:=by
     rcases hf with z | z
     · exact z
     · rw [z] at hk;cases hk
   obtain ⟨c,hc⟩:=I.ok.has x (.inl hk)
   obtain ⟨w',z⟩:=I.cell x c hc
   refine wpAny_storeName_cell I.ok.kind hk hc z (fun h' hc' hs=>?_)
   obtain ⟨oc,hoc,hocd⟩:=id z
   refine h { s with heap:=h' } ⟨I.ok,I.os,I.bare,⟨fun b o e n hb hx=>?_,fun b o e n hb hx=>?_,I.base.free,fun b o e hx=>?_,I.base.tups,I.base.frzs,I.base.tbls⟩,⟨m,hn.sameBut hs (Ne.symm (cne x c hc)),fun j y v' e1 e2 e3=>?_⟩,fun y c' e=>?_,I.free,I.freeC,fun p hp=>?_,tracked ⟨oc,hoc,I.freeC x c hc⟩ hs,by simpa using I.len⟩ ⟨c,hs,.inr hc⟩
   · exact (hs.2 b (Nat.ne_of_lt (Nat.lt_of_lt_of_le (Heap.lt_size e) (I.ok.cab x c hfn hc)))).trans (I.base.keep b o e n hb hx)
   · obtain ⟨sl,e1⟩:=I.base.slot b o e n hb hx
     exact ⟨sl,(hs.2 b (Nat.ne_of_lt (Nat.lt_of_lt_of_le (Heap.lt_size e) (I.ok.cab x c hfn hc)))).trans e1⟩
   · obtain ⟨o',e1⟩:=I.base.there b o e hx
     exact ⟨o',(hs.2 b (Nat.ne_of_lt (Nat.lt_of_lt_of_le (Heap.lt_size e) (I.ok.cab x c hfn hc)))).trans e1⟩
   · by_cases hj:j=i
     · subst hj
       rw [hi] at e1;cases e1
       rw [List.getElem?_set_self hiσ] at e2
       cases e2
       exact ⟨u,r,.inr ⟨.inl hk,c,hc,hc'⟩⟩
     · rw [List.getElem?_set_ne (Ne.symm hj)] at e2
       obtain ⟨u',r',q⟩:=hl j y v' e1 e2 e3
       refine ⟨u',r',?_⟩
       rcases q with q | ⟨k,c',e,z'⟩
       · exact .inl q
       · refine .inr ⟨k,c',e,z'.sameBut hs ?_⟩
         rintro rfl
         exact hj (ZcU hN e1 (I.ok.inj _ _ _ e hc ▸ hi))
   · by_cases hcc:c'=c
     · subst hcc;exact ⟨_,hc'⟩
     · obtain ⟨w2,z2⟩:=I.cell y c' e
       exact ⟨w2,z2.sameBut hs hcc⟩
   · obtain ⟨e,n,ne,nf,d⟩:=I.pin p hp
     refine ⟨(hs.2 p.1 ?_).trans e,n,ne,nf,d⟩
     intro q
     rw [q,hoc] at e
     have q':oc=p.2:=Option.some.inj e
     exact d w' (by rw [← q'];exact hocd)
theorem Xr {M:Model} {A:Around} {E:Value→Shared→Prop} {i:Nat} {x:Str} {v:V} {u:Value} {Q:Unit→Shared→Prop} (I:Inv X pins σ H s) (hN:X.N.Nodup) (hi:X.N[i]?=some x) (hx:Loc X.env.scope x) (r:RelV v u)
   (h:∀ s',Inv X pins (σ.set i (some v)) H s'→Q () s') (hf:X.fn x=true∨X.env.scope.names.lookup x=some .local:=by first | exact .inl rfl | exact .inr rfl | assumption):wpAny M A (storeName X.env x u) Q E s :=
 Zby I hN hi hx r (fun s' I' _=>h s' I') hf
theorem Inv.call' {s':Shared} {ch:List Addr} (I:Inv X pins σ H s) (ho:s'.os=s.os) (u:Un (Vk X.stack) ch H H' s.heap s'.heap) (hok:HOk X.prog X.w H' s'.heap) (hg:AllBare s'.gens)
   (hch:∀ b∈ch,(b∈X.ex∨X.s₀.heap.objs.size≤b)∧b≠X.env.locals∧(∀ x c,X.env.cells.lookup x=some c→c≠b)∧∀ p∈X.pn++pins,p.1≠b):Inv X pins σ H' s':=by
 obtain ⟨h',g',d',t',o'⟩:=s'
 have e:o'=s.os:=ho
 subst e
 exact I.call (g':=g') (t':=t') (d':=d') u hok hg hch
end
abbrev XK:=Value→Option Addr→Hp→Prop
abbrev St:=List (Option V)
abbrev VK:=V→Hp→Prop
abbrev TE:=St→Hp→VK→Prop
abbrev TT:=St→Hp→(Bool→Hp→Prop)→Prop
abbrev TA:=St→Hp→(List V→Hp→Prop)→Prop
structure UY where
 nx:St→Hp→Prop
 rt:VK
 bk:St→Hp→Prop:=fun _ _=>False
 ct:St→Hp→Prop:=fun _ _=>False
abbrev TS:=UY→St→Hp→Prop
def EP (X:Cx) (pins:List (Addr×Obj)) (σ:St) (Q:VK) (u:Value) (s':Shared):Prop:=∃ v H',Inv X pins σ H' s'∧RelV v u∧Q v H'
def TP (X:Cx) (pins:List (Addr×Obj)) (σ:St) (Q:Bool→Hp→Prop) (b:Bool) (s':Shared):Prop:=∃ H',Inv X pins σ H' s'∧Q b H'
def AP (X:Cx) (pins:List (Addr×Obj)) (σ:St) (Q:List V→Hp→Prop) (us:List Value) (s':Shared):Prop:=∃ vs H',Inv X pins σ H' s'∧Vals vs us∧Q vs H'
def SP (X:Cx) (pins:List (Addr×Obj)) (D:UY) (f:Flow) (s':Shared):Prop :=
 match f with
 | .next=>∃ σ' H',Inv X pins σ' H' s'∧D.nx σ' H'
 | .brk=>∃ σ' H',Inv X pins σ' H' s'∧D.bk σ' H'
 | .cont=>∃ σ' H',Inv X pins σ' H' s'∧D.ct σ' H'
 | .ret u=>∃ v σ' H',Inv X pins σ' H' s'∧RelV v u∧D.rt v H'
def PE (X:Cx) (e:Expr) (t:TE):Prop :=
 ∀ (pins:List (Addr×Obj)) (s:Shared) (σ:St) (H:Hp) (Q:VK),Inv X pins σ H s→t σ H Q→wpAny (model X.prog X.w) X.A (eval e X.env) (EP X pins σ Q) X.xe s
def PT (X:Cx) (e:Expr) (t:TT):Prop :=
 ∀ (pins:List (Addr×Obj)) (s:Shared) (σ:St) (H:Hp) (Q:Bool→Hp→Prop),Inv X pins σ H s→t σ H Q→wpAny (model X.prog X.w) X.A (isTrue e X.env (eval e X.env)) (TP X pins σ Q) X.xe s
def PW (X:Cx) (e:Expr) (t:TT):Prop :=
 ∀ (whole:Sem Value) (pins:List (Addr×Obj)) (s:Shared) (σ:St) (H:Hp) (Q:Bool→Hp→Prop),Inv X pins σ H s→t σ H Q→wpAny (model X.prog X.w) X.A (isTrue e X.env whole) (TP X pins σ Q) X.xe s
theorem PW.pt {X:Cx} {e:Expr} {t:TT} (h:PW X e t):PT X e t:=h _
def PA (X:Cx) (es:List Expr) (t:TA):Prop :=
 ∀ (pos:Pos) (pins:List (Addr×Obj)) (s:Shared) (σ:St) (H:Hp) (Q:List V→Hp→Prop),Inv X pins σ H s→t σ H Q→wpAny (model X.prog X.w) X.A (spliced (backTo pos (starEach es X.env))) (AP X pins σ Q) X.xe s
def PS (X:Cx) (st:Stmt) (t:TS):Prop :=
 ∀ (pins:List (Addr×Obj)) (s:Shared) (σ:St) (H:Hp) (D:UY),Inv X pins σ H s→t D σ H→wpAny (model X.prog X.w) X.A (exec st X.env) (SP X pins D) X.xe s
def PSs (X:Cx) (st:List Stmt) (t:TS):Prop :=
 ∀ (pins:List (Addr×Obj)) (s:Shared) (σ:St) (H:Hp) (D:UY),Inv X pins σ H s→t D σ H→wpAny (model X.prog X.w) X.A (execs st X.env) (SP X pins D) X.xe s
theorem Zm {α:Type} {t:Sem α} {Q Q':α→Shared→Prop} {M:Model} {A:Around} {E:Value→Shared→Prop} {s:Shared} (h:wpAny M A t Q E s) (hQ:∀ a s,Q a s→Q' a s):wpAny M A t Q' E s:=wpAny_mono h hQ fun _ _ x=>x
end L2
namespace L2
open PySem PySem.Spec PyProof.Rows
section
variable {X:Cx}
def UZ (i:Nat):TE:=fun σ H Q=>∃ v,σ[i]?=some (some v)∧Q v H
def tC (v:V):TE:=fun _ H Q=>Q v H
theorem ZkQ {i:Nat} {x:Str} {pos:Pos} (hN:X.N[i]?=some x) (hv:Vis X.env.scope x) (hd:(x == ("__debug__":Str))=false:=by decide) (hcd:(x == ("__classdict__":Str))=false:=by decide):PE X (.Name x pos) (UZ i):=by
 intro pins s σ H Q I h
 obtain ⟨v,e,h⟩:=h
 obtain ⟨m,hn,hl⟩:=I.loc
 obtain ⟨u,r,l⟩:=hl i x v hN e hv
 have fin:EP X pins σ Q u s:=⟨v,H,I,r,h⟩
 rcases l with ⟨hk,hm⟩ | ⟨hk,c,hc,hcell⟩
 · exact wpAny_Name (wpAny_loadName_local I.ok.kind hk hn hm fin) hd
 · rcases hk with hk | hk
   · exact wpAny_Name (wpAny_loadName_cell I.ok.kind hk hc hcell fin) hd
   · exact wpAny_Name (wpAny_loadName_free I.ok.kind hk hc hcell fin hcd) hd
theorem Zb {i j pos}:PE X (.Constant (.int i) j pos) (tC (.int i)):=fun _ _ _ H _ I h=>wpAny_Constant_int ⟨.int i,H,I.tok _,⟨_,rfl⟩,h⟩
theorem Vt {b j pos}:PE X (.Constant (.bool b) j pos) (tC (.bl b)):=fun _ _ _ H _ I h=>Constant_bool ⟨.bl b,H,I,rfl,h⟩
theorem Vb {j pos}:PE X (.Constant .none j pos) (tC .non):=fun _ _ _ H _ I h=>Constant_none ⟨.non,H,I,rfl,h⟩
theorem ZO {x j pos}:PE X (.Constant (.str x) j pos) (tC (.str x)):=fun _ _ _ H _ I h=>Calls.Constant_str ⟨.str x,H,I.tok _,⟨_,rfl⟩,h⟩
def Gl (X:Cx) (x:Str):Prop:=X.env.kindOf x=some .globalImplicit
theorem ZaV {E:Value→Shared→Prop} {pins:List (Addr×Obj)} {s:Shared} {σ:St} {H:Hp} {x:Str} {u:Value} {pos:Pos} {Q:Value→Shared→Prop} (I:Inv X pins σ H s) (hg:Gl X x) (hm:X.mg x=some u) (h:Q u s)
   (hd:(x == ("__debug__":Str))=false:=by decide):wpAny (model X.prog X.w) X.A (eval (.Name x pos) X.env) Q E s :=
 Calls.Name_function_global I.ok.kind hg (Calls.loadGlobal_global (by rw [I.ok.glob];exact I.mod.glob.keeps I.bk) hm h) hd
theorem Wk {E:Value→Shared→Prop} {pins:List (Addr×Obj)} {s:Shared} {σ:St} {H:Hp} {x:Str} {u:Value} {pos:Pos} {Q:Value→Shared→Prop} (I:Inv X pins σ H s) (hg:Gl X x) (hm:X.mg x=none) (hv:bootBuiltins x=some u) (h:Q u s)
   (hn:x≠"__name__":=by decide) (hd:(x == ("__debug__":Str))=false:=by decide):wpAny (model X.prog X.w) X.A (eval (.Name x pos) X.env) Q E s:=by
 obtain ⟨mb,h1,h2⟩:=I.mod.blt
 exact Calls.Name_function_global I.ok.kind hg (Calls.loadGlobal_builtin (by rw [I.ok.glob];exact I.mod.glob.keeps I.bk) hm (by rw [I.ok.blt];exact h1.keeps I.bk) ((h2 x hn).trans hv) h) hd
theorem Xk {x:Str} {v:V} {u:Value} {pos:Pos} (hg:Gl X x) (hm:X.mg x=some u) (r:RelV v u) (hd:(x == ("__debug__":Str))=false:=by decide):PE X (.Name x pos) (tC v) :=
 fun _ _ _ H _ I h=>ZaV I hg hm ⟨v,H,I,r,h⟩ hd
theorem Wc {x:Str} {v:V} {u:Value} {pos:Pos} (hg:Gl X x) (hm:X.mg x=none) (hv:bootBuiltins x=some u) (r:RelV v u) (hn:x≠"__name__":=by decide) (hd:(x == ("__debug__":Str))=false:=by decide):PE X (.Name x pos) (tC v) :=
 fun _ _ _ H _ I h=>Wk I hg hm hv ⟨v,H,I,r,h⟩ hn hd
variable {a b:Expr} {ta tb:TE} {pos:Pos}
def PC (X:Cx) (op:CmpOp) (a b:Expr) (t:TE):Prop :=
 ∀ (pins:List (Addr×Obj)) (s:Shared) (σ:St) (H:Hp) (Q:VK),Inv X pins σ H s→t σ H Q →
   wpAny (model X.prog X.w) X.A (eval a X.env) (fun v s₁=>wpAny (model X.prog X.w) X.A (eval b X.env) (fun u s₂=>wpAny (model X.prog X.w) X.A (compareOp op v u) (EP X pins σ Q) X.xe s₂) X.xe s₁) X.xe s
theorem Zdj (b:Expr) {op:CmpOp} (h:op≠.In) (h2:op≠.NotIn):behindInMarks op b=false:=by
 have e1:(op == CmpOp.In)=false:=by cases op <;> first | rfl | exact absurd rfl h
 have e2:(op == CmpOp.NotIn)=false:=by cases op <;> first | rfl | exact absurd rfl h2
 cases b <;> simp [behindInMarks,e1,e2]
def tIsN (ta:TE):TE:=fun σ H Q=>ta σ H fun x H1=>Q (.bl (decide (x=.non))) H1
theorem RelV.none_iff {x:V} {v:Value} (r:RelV x v):(v == Value.none)=decide (x=.non):=by
 cases x with
 | non=>cases r;rfl
 | bl _=>cases r;rfl
 | int _=>obtain ⟨t,rfl⟩:=r;rfl
 | str _=>obtain ⟨t,rfl⟩:=r;rfl
 | byt _=>obtain ⟨t,rfl⟩:=r;rfl
 | flt _=>obtain ⟨t,rfl⟩:=r;rfl
 | ref _=>cases r;rfl
 | ty _=>cases r;rfl
theorem Zcd {j pos'} (ha:PE X a ta):PC X .Is a (.Constant .none j pos') (tIsN ta):=by
 intro pins s σ H Q I h
 refine Zm (ha pins s σ H _ I h) fun v s1 ⟨x,H1,I1,r1,q1⟩=>?_
 exact Constant_none (is_none_gen ⟨.bl _,H1,I1,by rw [r1.none_iff];rfl,q1⟩)
def tB (t:TE):TT:=fun σ H Q=>t σ H fun x H1=>∃ c,x=.bl c∧Q c H1
theorem ZfT {op:CmpOp} {t:TE} (h:PC X op a b t) (h1:behindInMarks op b=false:=by first | exact Zdj _ (by decide) (by decide) | rfl):PE X (.Compare a [op] [b] pos) t:=fun pins s σ H Q I hw=>wpAny_Compare1 (h pins s σ H Q I hw) h1
theorem ZgU {op:CmpOp} {t:TE} (h:PC X op a b t) (h1:behindInMarks op b=false:=by first | exact Zdj _ (by decide) (by decide) | rfl):PT X (.Compare a [op] [b] pos) (tB t):=by
 intro pins s σ H Q I hw
 refine wpAny_isTrue_Compare1 (Zm (h pins s σ H _ I hw) fun v s1 h1=>Zm h1 fun u s2 h2=>Zm h2 fun c s3 ⟨x,H1,I1,r1,q1⟩=>?_) h1
 obtain ⟨d,rfl,q⟩:=q1
 cases r1
 exact wpAny_truthy_bool ⟨H1,I1,q⟩
theorem Wn {e:Expr} {t:TE} (h:PE X e t) (he:∀ whole,isTrue e X.env whole=(do let v ← whole;standAt e.pos;holding [v] (truthy v)):=by intro _;rfl):PT X e (tB t):=by
 intro pins s σ H Q I hw
 refine isTrue_plain (Zm (h pins s σ H _ I hw) fun v s1 ⟨x,H1,I1,r1,q1⟩=>?_) (he _)
 obtain ⟨d,rfl,q⟩:=q1
 cases r1
 exact wpAny_truthy_bool ⟨H1,I1,q⟩
variable {tA tB':TT} {rest:List Expr}
def tAnd (t u:TT):TT:=fun σ H Q=>t σ H fun c H1=>if c=true then u σ H1 Q else Q false H1
def tOr (t u:TT):TT:=fun σ H Q=>t σ H fun c H1=>if c=true then Q true H1 else u σ H1 Q
def tNot (t:TT):TT:=fun σ H Q=>t σ H fun c H1=>Q (!c) H1
theorem Zdy (ha:PT X a tA):PW X (.BoolOp .And [a] pos) tA:=by
 intro wh pins s σ H Q I h
 refine isTrue_and (Zm (ha pins s σ H Q I h) fun c s1 e=>?_)
 cases c with
 | true=>exact isTrue_and_nil e
 | false=>exact e
theorem ZcI (ha:PT X a tA):PW X (.BoolOp .Or [a] pos) tA:=by
 intro wh pins s σ H Q I h
 refine isTrue_or (Zm (ha pins s σ H Q I h) fun c s1 e=>?_)
 cases c with
 | false=>exact isTrue_or_nil e
 | true=>exact e
theorem ZfW (ha:PT X a tA) (hb:PW X (.BoolOp .And (b::rest) pos) tB'):PW X (.BoolOp .And (a::b::rest) pos) (tAnd tA tB'):=by
 intro wh pins s σ H Q I h
 refine isTrue_and (Zm (ha pins s σ H _ I h) fun c s1 ⟨H1,I1,q1⟩=>?_)
 cases c with
 | true=>exact hb wh pins s1 σ H1 Q I1 q1
 | false=>exact ⟨H1,I1,q1⟩
theorem Zcb (ha:PT X a tA) (hb:PW X (.BoolOp .Or (b::rest) pos) tB'):PW X (.BoolOp .Or (a::b::rest) pos) (tOr tA tB'):=by
 intro wh pins s σ H Q I h
 refine isTrue_or (Zm (ha pins s σ H _ I h) fun c s1 ⟨H1,I1,q1⟩=>?_)
 cases c with
 | true=>exact ⟨H1,I1,q1⟩
 | false=>exact hb wh pins s1 σ H1 Q I1 q1
theorem Zcp (ha:PT X a tA):PT X (.UnaryOp .Not a pos) (tNot tA):=by
 intro pins s σ H Q I h
 exact isTrue_not (ha pins s σ H (fun c H1=>Q (!c) H1) I h)
def ZmF (ta tb:TE):TE:=fun σ H Q=>ta σ H fun x H1=>∃ c,x=.bl c∧if c=true then tb σ H1 Q else Q (.bl false) H1
def ZmC (ta:TE):TE:=fun σ H Q=>ta σ H fun x H1=>∃ c,x=.bl c∧Q (.bl (!c)) H1
theorem Zan {op} {t:TE} (h:PE X a t):PE X (.BoolOp op [a] pos) t:=fun pins s σ H Q I hw=>BoolOp_one (h pins s σ H Q I hw)
theorem Um (ha:PE X a ta) (hb:PE X (.BoolOp .And (b::rest) pos) tb):PE X (.BoolOp .And (a::b::rest) pos) (ZmF ta tb):=by
 intro pins s σ H Q I h
 refine BoolOp_and (Zm (ha pins s σ H _ I h) fun v s1 ⟨x,H1,I1,r1,q1⟩=>?_)
 obtain ⟨c,rfl,q1⟩:=q1
 cases r1
 refine wpAny_truthy_bool ?_
 cases c with
 | true=>exact hb pins s1 σ H1 Q I1 q1
 | false=>exact ⟨.bl false,H1,I1,rfl,q1⟩
theorem ZkT (ha:PE X a ta):PE X (.UnaryOp .Not a pos) (ZmC ta):=by
 intro pins s σ H Q I h
 refine UnaryOp_ (Zm (ha pins s σ H _ I h) fun v s1 ⟨x,H1,I1,r1,q1⟩=>?_)
 obtain ⟨c,rfl,q1⟩:=q1
 cases r1
 exact not_of (wpAny_truthy_bool ⟨.bl (!c),H1,I1,rfl,q1⟩)
def tIf (t:TT) (ta tb:TE):TE:=fun σ H Q=>t σ H fun c H1=>if c=true then ta σ H1 Q else tb σ H1 Q
theorem WH {c:Expr} (hc:PT X c tA) (ha:PE X a ta) (hb:PE X b tb):PE X (.IfExp c a b pos) (tIf tA ta tb):=by
 intro pins s σ H Q I h
 refine wpAny_IfExp (Zm (hc pins s σ H _ I h) fun d s1 ⟨H1,I1,q1⟩=>?_)
 cases d with
 | true=>exact ha pins s1 σ H1 Q I1 q1
 | false=>exact hb pins s1 σ H1 Q I1 q1
end
end L2
namespace L2
open PySem PySem.Spec PyProof.Rows
def SqL (K:PySem.W.Frag) (H:Hp) (a:Addr) (xs:List V):Prop :=
 Rd H a (.lst xs) ∨
   ∃ (o:Obj) (its:Array Value) (n:Nat),K.lookup a=some o∧o.cls=.type "list"∧o.dict=none∧o.data=.seq its n∧its.size≤sizeLine∧Vals xs its.toList
def SqT (K:PySem.W.Frag) (H:Hp) (a:Addr) (xs:List V):Prop :=
 Rd H a (.tup xs) ∨
   ∃ (o:Obj) (its:Array Value) (n:Nat),K.lookup a=some o∧o.cls=.type "tuple"∧o.data=.seq its n∧its.size≤sizeLine∧Vals xs its.toList
def ZeP:Value→Option V
 | .none=>some .non
 | .bool b=>some (.bl b)
 | .int i _=>some (.int i)
 | .str x _=>some (.str x)
 | .bytes b _=>some (.byt b)
 | .float b _=>some (.flt b)
 | .ref a=>some (.ref a)
 | .type n=>some (.ty n)
 | _=>none
theorem RelV.abs {x:V} {u:Value} (r:RelV x u):ZeP u=some x:=by
 cases x with
 | non=>cases r;rfl
 | bl _=>cases r;rfl
 | int _=>obtain ⟨t,rfl⟩:=r;rfl
 | str _=>obtain ⟨t,rfl⟩:=r;rfl
 | byt _=>obtain ⟨t,rfl⟩:=r;rfl
 | flt _=>obtain ⟨t,rfl⟩:=r;rfl
 | ref _=>cases r;rfl
 | ty _=>cases r;rfl
theorem RelV.inj {x y:V} {u:Value} (r:RelV x u) (q:RelV y u):x=y:=Option.some.inj (r.abs.symm.trans q.abs)
theorem Vals.inj:∀ {xs ys:List V} {us:List Value},Vals xs us→Vals ys us→xs=ys
 | _,_,_,.nil,.nil=>rfl
 | _,_,_,.cons r t,.cons r' t'=>by rw [r.inj r',Vals.inj t t']
section
variable {X:Cx} {pins:List (Addr×Obj)} {σ:St} {H:Hp} {s:Shared} {a:Addr} {xs ys:List V}
theorem SqL.of {K:PySem.W.Frag} (h:H a=some (.lst xs)):SqL K H a xs:=.inl (.inl h)
theorem SqT.of {K:PySem.W.Frag} (h:H a=some (.tup xs)):SqT K H a xs:=.inl (.inl h)
theorem Inv.list (I:Inv X pins σ H s) (h:SqL X.K H a xs):∃ its:List Value,Vals xs its∧PlainL s.heap a its.toArray∧xs.length≤sizeLine:=by
 rcases h with h | ⟨o,its,n,hk,hc,hd,hs,hz,r⟩
 · obtain ⟨z,its,n,r,e⟩:=h.ok I.hok
   exact ⟨its,r,⟨_,n,e,rfl,rfl,rfl⟩,z⟩
 · refine ⟨its.toList,r,⟨o,n,I.kIn a o hk,hc,hd,by simpa using hs⟩,?_⟩
   have e:=r.length
   simp only [Array.length_toList] at e
   omega
theorem Inv.tuple (I:Inv X pins σ H s) (h:SqT X.K H a xs):∃ its:List Value,Vals xs its∧IsTup s.heap a its.toArray∧xs.length≤sizeLine:=by
 rcases h with h | ⟨o,its,n,hk,hc,hs,hz,r⟩
 · obtain ⟨z,its,r,p⟩:=h.ok I.hok
   exact ⟨its,r,p,z⟩
 · refine ⟨its.toList,r,⟨o,I.kIn a o hk,hc,n,by simpa using hs⟩,?_⟩
   have e:=r.length
   simp only [Array.length_toList] at e
   omega
theorem Inv.list_inj (I:Inv X pins σ H s) (h:SqL X.K H a xs) (h':SqL X.K H a ys):xs=ys:=by
 obtain ⟨its,r,⟨o,n,e,_,_,d⟩,_⟩:=I.list h
 obtain ⟨its',r',⟨o',n',e',_,_,d'⟩,_⟩:=I.list h'
 rw [e] at e';cases e'
 rw [d] at d'
 injection d' with d1 _
 have:its=its':=by simpa using congrArg Array.toList d1
 subst this
 exact r.inj r'
theorem Inv.tuple_inj (I:Inv X pins σ H s) (h:SqT X.K H a xs) (h':SqT X.K H a ys):xs=ys:=by
 obtain ⟨its,r,⟨o,e,_,n,d⟩,_⟩:=I.tuple h
 obtain ⟨its',r',⟨o',e',_,n',d'⟩,_⟩:=I.tuple h'
 rw [e] at e';cases e'
 rw [d] at d'
 injection d' with d1 _
 have:its=its':=by simpa using congrArg Array.toList d1
 subst this
 exact r.inj r'
end
abbrev Cx.wish (X:Cx) (E:Value→Shared→Prop):Cx:={ X with xe:=E }
abbrev Cx.nox (X:Cx):Cx:=X.wish fun _ _=>False
theorem Cx.Ok.wish {X:Cx} (ok:X.Ok) (E:Value→Shared→Prop):(X.wish E).Ok :=
 ⟨ok.mod,ok.kind,ok.glob,ok.blt,ok.above,ok.inj,ok.has,ok.cab,ok.hd,ok.frames,ok.stk,ok.exf,ok.bs,ok.bsz,ok.noex,ok.exfs,ok.funs,ok.frf⟩
theorem Cx.Ok.unwish {X:Cx} {E:Value→Shared→Prop} (ok:(X.wish E).Ok):X.Ok :=
 ⟨ok.mod,ok.kind,ok.glob,ok.blt,ok.above,ok.inj,ok.has,ok.cab,ok.hd,ok.frames,ok.stk,ok.exf,ok.bs,ok.bsz,ok.noex,ok.exfs,ok.funs,ok.frf⟩
section
variable {X:Cx} {pins:List (Addr×Obj)} {σ:St} {H:Hp} {s:Shared} {E:Value→Shared→Prop}
theorem Inv.wish (I:Inv X pins σ H s) (E:Value→Shared→Prop):Inv (X.wish E) pins σ H s:=⟨I.ok.wish E,I.os,I.bare,I.base,I.loc,I.cell,I.free,I.freeC,I.pin,I.hok,I.len⟩
theorem Inv.unwish (I:Inv (X.wish E) pins σ H s):Inv X pins σ H s:=⟨I.ok.unwish,I.os,I.bare,I.base,I.loc,I.cell,I.free,I.freeC,I.pin,I.hok,I.len⟩
theorem SP.unwish {D:UY} {f:Flow} {s':Shared} (h:SP (X.wish E) pins D f s'):SP X pins D f s':=by
 cases f with
 | next=>obtain ⟨σ',H',I,q⟩:=h;exact ⟨σ',H',I.unwish,q⟩
 | brk=>obtain ⟨σ',H',I,q⟩:=h;exact ⟨σ',H',I.unwish,q⟩
 | cont=>obtain ⟨σ',H',I,q⟩:=h;exact ⟨σ',H',I.unwish,q⟩
 | ret u=>obtain ⟨v,σ',H',I,r,q⟩:=h;exact ⟨v,σ',H',I.unwish,r,q⟩
theorem PSs.nox {st:List Stmt} {t:TS} (h:PSs X.nox st t):PSs X st t:=fun pins s σ H D I hw =>
 wpAny_mono (h pins s σ H D (I.wish _) hw) (fun _ _ q=>q.unwish) fun _ _ z=>False.elim z
end
section
variable {X:Cx} {st:Stmt} {rest:List Stmt} {t u:TS} {e:Expr} {te:TE} {pos:Pos}
def Zmy:TS:=fun D σ H=>D.nx σ H
def tSeq (t u:TS):TS:=fun D σ H=>t { D with nx:=u D } σ H
theorem ZW:PSs X [] Zmy:=fun _ _ σ H _ I h=>wpAny_execs_nil ⟨σ,H,I,h⟩
theorem Zd (h1:PS X st t) (h2:PSs X rest u):PSs X (st::rest) (tSeq t u):=by
 intro pins s σ H D I h
 refine wpAny_execs_cons (Zm (h1 pins s σ H { D with nx:=u D } I h) fun f s1 q=>?_)
 cases f with
 | next =>
   obtain ⟨σ',H',I',q⟩:=q
   exact h2 pins s1 σ' H' D I' q
 | ret v=>exact q
 | brk=>exact q
 | cont=>exact q
theorem Zi (h1:PS X st t):PSs X [st] t:=by
 intro pins s σ H D I h
 refine wpAny_execs_cons (Zm (h1 pins s σ H D I h) fun f s1 q=>?_)
 cases f with
 | next=>exact wpAny_execs_nil q
 | ret v=>exact q
 | brk=>exact q
 | cont=>exact q
theorem Inv.quiet {pins:List (Addr×Obj)} {σ:St} {H:Hp} {s:Shared} (I:Inv X pins σ H s):interactive X.env=false:=by simp [interactive,I.ok.kind]
def ZlV (te:TE):TS:=fun D σ H=>te σ H fun _ H1=>D.nx σ H1
theorem YC (he:PE X e te) (hs:swapsWith e none pos.line X.env=pure false:=by rfl):PS X (.Expr e pos) (ZlV te):=by
 intro pins s σ H D I h
 exact wpAny_Expr_any (Zm (he pins s σ H _ I h) fun v s1 ⟨x,H1,I1,r1,q1⟩=>⟨σ,H1,I1,q1⟩) I.quiet hs
def tRet (te:TE):TS:=fun D σ H=>te σ H D.rt
theorem Zp (he:PE X e te):PS X (.Return (some e) pos) (tRet te):=by
 intro pins s σ H D I h
 exact wpAny_Return_some (Zm (he pins s σ H _ I h) fun v s1 ⟨x,H1,I1,r1,q1⟩=>⟨x,σ,H1,I1,r1,q1⟩)
def tIfS (c:TT) (t u:TS):TS:=fun D σ H=>c σ H fun b H1=>if b=true then t D σ H1 else u D σ H1
theorem Yk {c:Expr} {a b:List Stmt} {tc:TT} (hc:PT X c tc) (ha:PSs X a t) (hb:PSs X b u):PS X (.If c a b pos) (tIfS tc t u):=by
 intro pins s σ H D I h
 refine wpAny_If (Zm (hc pins s σ H _ I h) fun d s1 ⟨H1,I1,q1⟩=>?_)
 cases d with
 | true=>exact ha pins s1 σ H1 D I1 q1
 | false=>exact hb pins s1 σ H1 D I1 q1
end
abbrev TG:=V→St→Hp→(St→Hp→Prop)→Prop
abbrev TGs:=List V→St→Hp→(St→Hp→Prop)→Prop
def PG (X:Cx) (target:Expr) (t:TG):Prop :=
 ∀ (pins:List (Addr×Obj)) (s:Shared) (σ:St) (H:Hp) (v:V) (u:Value) (Q:St→Hp→Prop),Inv X pins σ H s→RelV v u→t v σ H Q →
   wpAny (model X.prog X.w) X.A (assign target X.env u) (fun _ s'=>∃ σ' H',Inv X pins σ' H' s'∧Q σ' H') X.xe s
def PGs (X:Cx) (ts:List Expr) (t:TGs):Prop :=
 ∀ (pins:List (Addr×Obj)) (s:Shared) (σ:St) (H:Hp) (vs:List V) (us:List Value) (Q:St→Hp→Prop),Inv X pins σ H s→Vals vs us→t vs σ H Q →
   wpAny (model X.prog X.w) X.A (assignInOrder ((assignEach ts X.env).map (·.2)) us) (fun _ s'=>∃ σ' H',Inv X pins σ' H' s'∧Q σ' H') X.xe s
abbrev Zho:=V→V→V→Hp→(Hp→Prop)→Prop
def PSet (X:Cx) (t:Zho):Prop :=
 ∀ (pins:List (Addr×Obj)) (s:Shared) (σ:St) (H:Hp) (o i v:V) (ov iv u:Value) (Q:Hp→Prop),Inv X pins σ H s→RelV o ov→RelV i iv→RelV v u→t o i v H Q →
   wpAny (model X.prog X.w) X.A (setItem ov iv u) (fun _ s'=>∃ H',Inv X pins σ H' s'∧Q H') X.xe s
abbrev TIp:=V→V→Hp→VK→Prop
def PIp (X:Cx) (op:Operator) (t:TIp):Prop :=
 ∀ (pins:List (Addr×Obj)) (s:Shared) (σ:St) (H:Hp) (x y:V) (v u:Value) (Q:VK),Inv X pins σ H s→RelV x v→RelV y u→t x y H Q →
   wpAny (model X.prog X.w) X.A (inplaceOp op v u) (EP X pins σ Q) X.xe s
section
variable {X:Cx} {pos:Pos}
def Zey (i:Nat):TG:=fun v σ H Q=>Q (σ.set i (some v)) H
theorem ZN {i:Nat} {x:Str} (hN:X.N.Nodup) (hi:X.N[i]?=some x) (hx:Loc X.env.scope x) (hf:X.fn x=true∨X.env.scope.names.lookup x=some .local:=by first | exact .inl rfl | exact .inr rfl | assumption):PG X (.Name x pos) (Zey i):=by
 intro pins s σ H v u Q I r h
 exact wpAny_assign_Name (Xr I hN hi hx r (fun s' I'=>⟨_,H,I',h⟩) hf)
def gNil:TGs:=fun vs σ H Q=>vs=[]∧Q σ H
def Zfl (t:TG) (u:TGs):TGs:=fun vs σ H Q=>∃ v r,vs=v::r∧t v σ H fun σ' H'=>u r σ' H' Q
theorem XL:PGs X [] gNil:=by
 intro pins s σ H vs us Q I r h
 obtain ⟨e,h⟩:=h
 subst e
 cases r
 exact assignInOrder_nil ⟨σ,H,I,h⟩
theorem Ya {e:Expr} {es:List Expr} {t:TG} {u:TGs} (h1:PG X e t) (h2:PGs X es u)
   (hs:(assignEach (e::es) X.env).map (·.2)=assign e X.env::(assignEach es X.env).map (·.2):=by rfl):PGs X (e::es) (Zfl t u):=by
 intro pins s σ H vs us Q I r h
 obtain ⟨v,vr,e1,h⟩:=h
 subst e1
 cases r with
 | cons r rr =>
   rw [hs]
   refine assignInOrder_cons (Zm (h1 pins s σ H _ _ _ I r h) fun _ s1 ⟨σ1,H1,I1,q1⟩=>?_)
   exact h2 pins s1 σ1 H1 _ _ Q I1 rr q1
def gTup (K:PySem.W.Frag) (n:Nat) (t:TGs):TG:=fun v σ H Q=>∃ a xs,v=.ref a∧SqT K H a xs∧xs.length=n∧t xs σ H Q
theorem Wm {es:List Expr} {k:Nat} {t:TGs} {n:Nat} (hc:X.calm=true) (h:PGs X es t)
   (hn:(assignEach es X.env).length=n:=by rfl) (hst:(assignEach es X.env).findIdx? (·.1)=none:=by rfl):PG X (.Tuple es k pos) (gTup X.K n t):=by
 intro pins s σ H v u Q I r hw
 obtain ⟨a,xs,e1,hq,hl,hw⟩:=hw
 subst e1
 cases r
 obtain ⟨its,rv,ht,hz⟩:=I.tuple hq
 refine assign_Tuple_tuple (I.ok.hd hc) ht (by simp [hn,← hl,rv.length]) hst fun h' hx=>?_
 have I1:Inv X pins σ H { s with heap:=h' }:=I.kept (t':=s.toks) fun b o e=>hx b o (Nat.ne_of_lt (Heap.lt_size e)) e
 exact h pins _ σ H xs _ Q I1 (by simpa using rv) hw
def gSub (to ti:TE) (t:Zho):TG:=fun v σ H Q=>to σ H fun o H1=>ti σ H1 fun i H2=>t o i v H2 fun H3=>Q σ H3
theorem Zaw {o i:Expr} {to ti:TE} {t:Zho} (ho:PE X o to) (hi:PE X i ti) (hs:PSet X t)
   (ha:∀ v,assign (.Subscript o i pos) X.env v=(do
     let ov ← holding [v] (eval o X.env)
     let iv ← holding [v,ov] (eval i X.env)
     standAt pos
     holding [v,ov,iv] (setItem ov iv v)
     release [v,ov,iv] []):=by intro _;rfl):PG X (.Subscript o i pos) (gSub to ti t):=by
 intro pins s σ H v u Q I r h
 rw [ha]
 refine wpAny_bind (wpAny_holding (Zm (ho pins s σ H _ I h) fun ov s1 ⟨x,H1,I1,r1,q1⟩=>?_))
 refine wpAny_bind (wpAny_holding (Zm (hi pins s1 σ H1 _ I1 q1) fun iv s2 ⟨y,H2,I2,r2,q2⟩=>?_))
 refine wpAny_bind (wpAny_standAt (wpAny_bind (wpAny_holding (Zm (hs pins s2 σ H2 x y v ov iv u _ I2 r1 r2 r q2) fun _ s3 ⟨H3,I3,q3⟩=>?_))))
 exact wpAny_release ⟨σ,H3,I3,q3⟩
def ZhI (te:TE) (g:TG):TS:=fun D σ H=>te σ H fun x H1=>g x σ H1 D.nx
theorem Xz {tg e:Expr} {te:TE} {g:TG} (he:PE X e te) (hg:PG X tg g) (hs:swapsWithSole [tg] e pos.line X.env=pure false:=by rfl) (hw:swappedStores [tg] e X.env=pure none:=by rfl)
   (h1:(assignEach [tg] X.env).map (·.2)=[assign tg X.env]:=by rfl):PS X (.Assign [tg] e pos) (ZhI te g):=by
 intro pins s σ H D I h
 refine wpAny_Assign_stores (Zm (he pins s σ H _ I h) fun v s1 ⟨x,H1,I1,r1,q1⟩=>?_) hs hw
 rw [h1]
 exact Zm (hg pins s1 σ H1 x v _ I1 r1 q1) fun _ s2 q=>q
theorem Zx {i:Nat} {x:Str} {e:Expr} {te:TE} {pos':Pos} (hN:X.N.Nodup) (hi:X.N[i]?=some x) (hx:Loc X.env.scope x) (he:PE X e te) (hs:swapsWith e (some (.Name x pos')) pos.line X.env=pure false:=by rfl) (hf:X.fn x=true∨X.env.scope.names.lookup x=some .local:=by first | exact .inl rfl | exact .inr rfl | assumption) :
   PS X (.Assign [.Name x pos'] e pos) (ZhI te (Zey i)):=by
 intro pins s σ H D I h
 refine wpAny_Assign_Name (Zm (he pins s σ H _ I h) fun v s1 ⟨y,H1,I1,r1,q1⟩=>?_) hs
 exact Xr I1 hN hi hx r1 (fun s2 I2=>⟨_,H1,I2,q1⟩) hf
def tPar (i j:Nat) (ta:TA):TS:=fun D σ H=>ta σ H fun vs H1=>∃ v w,vs=[v,w]∧D.nx ((σ.set i (some v)).set j (some w)) H1
theorem ZgR {i j:Nat} {x y:Str} {a b:Expr} {ta:TA} {px py pt:Pos} {kt k2 pt2} (hc:X.calm=true) (hN:X.N.Nodup) (hi:X.N[i]?=some x) (hj:X.N[j]?=some y) (hij:i≠j)
   (hx:X.env.scope.names.lookup x=some .local) (hy:X.env.scope.names.lookup y=some .local) (ha:PA X [a,b] ta)
   (hw:swappedStores [.Tuple [.Name x px,.Name y py] kt pt] (.Tuple [a,b] k2 pt2) X.env=pure (some [x,y]))
   (hs:swapsWithSole [.Tuple [.Name x px,.Name y py] kt pt] (.Tuple [a,b] k2 pt2) pos.line X.env=pure false:=by rfl) :
   PS X (.Assign [.Tuple [.Name x px,.Name y py] kt pt] (.Tuple [a,b] k2 pt2) pos) (tPar i j ta):=by
 intro pins s σ H D I h
 rw [exec_Assign_arm]
 refine wpAny_bind (wpAny_standAt ?_)
 rw [hs]
 refine wpAny_bind (wpAny_pure ?_)
 rw [if_neg (by decide)]
 refine wpAny_bind (Tuple_ (Zm (ha _ pins s σ H _ I h) fun us s1 ⟨vs,H1,I1,r1,q1⟩=>?_))
 obtain ⟨v,w,e1,q1⟩:=q1
 subst e1
 obtain ⟨u1,u2,rfl,rv,rw'⟩:∃ u1 u2,us=[u1,u2]∧RelV v u1∧RelV w u2:=by
   cases r1 with
   | cons p q =>
     cases q with
     | cons p' q' =>
       cases q'
       exact ⟨_,_,rfl,p,p'⟩
 refine wpAny_newObj_type ?_ (by show 2≤sizeLine;decide)
 have I2:Inv X pins σ H1 { s1 with heap:=s1.heap.push { cls:=.type "tuple",data:=.seq [u1,u2].toArray } }:=I1.kept (t':=s1.toks) fun b o e=>Heap.get?_push_of_some _ e
 rw [hw]
 refine wpAny_bind (wpAny_pure ?_)
 show wpAny (model X.prog X.w) X.A (do rule "assign.swapped-stores";let items ← unpackItems (.ref s1.heap.objs.size) 2 none;assignInOrder [fun v=>bindName X.env y v,fun v=>bindName X.env x v] items.reverse;pure Flow.next) _ _ _
 refine wpAny_bind (wpAny_rule (wpAny_bind (unpackItems_tuple (items:=#[u1,u2]) (I.ok.hd hc) (IsTup.new s1.heap _) fun h' hx'=>?_)))
 have I3:=I2.kept (h':=h') (t':=s1.toks) fun b o e=>hx' b o (Nat.ne_of_lt (Heap.lt_size e)) e
 show wpAny _ _ (assignInOrder [fun v=>bindName X.env y v,fun v=>bindName X.env x v] [u2,u1] >>= fun _=>pure Flow.next) _ _ _
 refine wpAny_bind (assignInOrder_cons (wpAny_bindName (Xr I3 hN hj (.inl hy) rw' (fun s2 I4=>?_) (.inr hy))))
 refine assignInOrder_cons (wpAny_bindName (Xr I4 hN hi (.inl hx) rv (fun s3 I5=>assignInOrder_nil (wpAny_pure ?_)) (.inr hx)))
 rw [List.set_comm _ _ (Ne.symm hij)] at I5
 exact ⟨_,H1,I5,q1⟩
def tAug (i:Nat) (te:TE) (ti:TIp):TS:=fun D σ H=>∃ x,σ[i]?=some (some x)∧te σ H fun y H1=>ti x y H1 fun z H2=>D.nx (σ.set i (some z)) H2
theorem Zkz {i:Nat} {x:Str} {e:Expr} {te:TE} {op:Operator} {ti:TIp} {pos':Pos} (hN:X.N.Nodup) (hi:X.N[i]?=some x) (hx:Loc X.env.scope x) (he:PE X e te) (ho:PIp X op ti) (hf:X.fn x=true∨X.env.scope.names.lookup x=some .local:=by first | exact .inl rfl | exact .inr rfl | assumption) :
   PS X (.AugAssign (.Name x pos') op e pos) (tAug i te ti):=by
 intro pins s σ H D I h
 obtain ⟨v,e1,h⟩:=h
 obtain ⟨m,hn,hl⟩:=I.loc
 have vis:Vis X.env.scope x:=by rcases hx with k | k;exact .inl k;exact .inr (.inl k)
 obtain ⟨u,r,l⟩:=hl i x v hi e1 vis
 refine wpAny_AugAssign_Name ?_
 have go:wpAny (model X.prog X.w) X.A (eval e X.env) (fun w s₂=>wpAny (model X.prog X.w) X.A (inplaceOp op u w) (fun r s₃=>wpAny (model X.prog X.w) X.A (storeName X.env x r) (fun _=>SP X pins D .next) X.xe s₃) X.xe s₂) X.xe s:=by
   refine Zm (he pins s σ H _ I h) fun w s1 ⟨y,H1,I1,r1,q1⟩=>?_
   refine Zm (ho pins s1 σ H1 v y u w _ I1 r r1 q1) fun z s2 ⟨zv,H2,I2,r2,q2⟩=>?_
   exact Xr I2 hN hi hx r2 (fun s3 I3=>⟨_,H2,I3,q2⟩) hf
 rcases l with ⟨hk,hm⟩ | ⟨hk,c,hc,hcell⟩
 · exact wpAny_loadName_local I.ok.kind hk hn hm go
 · rcases hk with hk | hk
   · exact wpAny_loadName_cell I.ok.kind hk hc hcell go
   · rcases hx with k | k
     · have:X.env.scope.names.lookup x=some .free:=hk
       rw [k] at this;cases this
     · have:X.env.scope.names.lookup x=some .free:=hk
       rw [k] at this;cases this
def ipI (f:Int→Int→Int):TIp:=fun x y H Q=>∃ i j,x=.int i∧y=.int j∧Q (.int (f i j)) H
theorem ZkG:PIp X .Add (ipI fun i j=>i+j):=by
 intro pins s σ H x y v u Q I r1 r2 h
 obtain ⟨i,j,e1,e2,q⟩:=h
 subst e1;subst e2
 obtain ⟨t,rfl⟩:=r1
 obtain ⟨t',rfl⟩:=r2
 exact iadd_int ⟨.int _,H,I.tok _,⟨_,rfl⟩,q⟩
end
section
variable {X:Cx} {pos:Pos}
def Zlv (c:TT) (tb:TS):TS:=fun D σ H=>∃ W:Nat→St→Hp→Prop,(∃ m,W m σ H)∧∀ m σ H,W m σ H →
 c σ H fun b H1=>if b=true then ∃ N:St→Hp→Prop,(∀ σ' H',N σ' H'→∃ m',m' < m∧W m' σ' H')∧tb { D with nx:=N,ct:=N,bk:=D.nx } σ H1 else D.nx σ H1
theorem VT {c:Expr} {body:List Stmt} {tc:TT} {tb:TS} (hp:PassesOwn (model X.prog X.w) X.A X.env X.xe) (hc:PT X c tc) (hb:PSs X body tb):PS X (.While c body [] pos) (Zlv tc tb):=by
 intro pins s σ H D I h
 obtain ⟨W,⟨m0,w0⟩,turn⟩:=h
 refine wpAny_While (codeAny_whileLoop (fun n s'=>∃ σ' H',Inv X pins σ' H' s'∧W n σ' H') ?_ m0 ⟨σ,H,I,w0⟩)
 rintro n s1 ⟨σ1,H1,I1,w1⟩
 refine wpAny_passesOwn hp (Zm (hc pins s1 σ1 H1 _ I1 (turn n σ1 H1 w1)) fun b s2 ⟨H2,I2,q2⟩=>?_)
 cases b with
 | true =>
   obtain ⟨N,hN,q2⟩:=q2
   rw [if_pos rfl]
   refine wpAny_passesOwn hp (Zm (hb pins s2 σ1 H2 _ I2 q2) fun f s3 q3=>?_)
   cases f with
   | next =>
     obtain ⟨σ3,H3,I3,n3⟩:=q3
     obtain ⟨m',hm,w3⟩:=hN σ3 H3 n3
     exact ⟨m',hm,σ3,H3,I3,w3⟩
   | cont =>
     obtain ⟨σ3,H3,I3,n3⟩:=q3
     obtain ⟨m',hm,w3⟩:=hN σ3 H3 n3
     exact ⟨m',hm,σ3,H3,I3,w3⟩
   | brk=>exact q3
   | ret v=>exact q3
 | false =>
   rw [if_neg Bool.false_ne_true]
   exact wpAny_execs_nil ⟨σ1,H2,I2,q2⟩
end
structure It where
 go:Nat→Hp→Prop
 yld:Nat→Hp→V→Hp→Prop
 stop:Nat→Hp→Prop
def Yo (X:Cx) (pins:List (Addr×Obj)) (H:Hp) (b:Addr):Prop :=
 H b=none∧b≠X.env.locals∧b ∉ X.fs∧(b∈X.ex∨X.s₀.heap.objs.size≤b)∧(∀ x c,X.env.cells.lookup x=some c→c≠b)∧∀ p∈X.pn++pins,p.1≠b
theorem Inv.fpOk {X:Cx} {pins:List (Addr×Obj)} {σ:St} {H H':Hp} {s:Shared} {b:Addr} (I:Inv X pins σ H s) (hb:s.heap.objs.size≤b) (hn:H' b=none):Yo X pins H' b:=by
 refine ⟨hn,Nat.ne_of_gt (Nat.lt_of_lt_of_le I.lt hb),I.nofs hb,.inr (Nat.le_trans I.sz hb),fun x c e z=>?_,fun p hp z=>?_⟩
 · obtain ⟨v,q⟩:=I.cell x c e
   exact absurd (Nat.lt_of_lt_of_le q.lt (by rw [z];exact hb)) (Nat.lt_irrefl _)
 · exact absurd (Nat.lt_of_lt_of_le (Heap.lt_size (I.pin p hp).1) (by rw [z];exact hb)) (Nat.lt_irrefl _)
structure Wz (P:Program) (w:World) (K:PySem.W.Frag) (tg:Expr) (J:It) (fp:List Addr) (it:Addr) (tn:Nat→Heap→Prop):Prop where
 mem:it∈fp
 obj:∀ i h,tn i h→∀ b∈fp,∃ o,h.get? b=some o∧∀ v,o.data≠.cell v
 keep:∀ i h h',tn i h→(∀ b∈fp,∀ o,h.get? b=some o→h'.get? b=some o)→tn i h'
 item:∀ (X:Cx),X.prog=P→X.w=w→X.K=K→X.calm=true→∀ (i:Nat) (pins:List (Addr×Obj)) (s:Shared) (σ:St) (H:Hp) (E:Value→Shared→Prop),Inv X pins σ H s→(∀ b∈fp,Yo X pins H b)→tn i s.heap→J.go i H →
   wpAny (model P w) X.A (pyNext (.ref it)) (fun r s1=>∃ u,r=some u ∧
     wpAny (model P w) X.A (letOwnedTupleGo tg (.ref it) u) (fun _ s2=>∃ x H',Inv X pins σ H' s2∧RelV x u∧J.yld i H x H'∧tn (i+1) s2.heap∧∀ b∈fp,H' b=none) E s1) E s
 done:∀ (X:Cx),X.prog=P→X.w=w→X.K=K→X.calm=true→∀ (i:Nat) (pins:List (Addr×Obj)) (s:Shared) (σ:St) (H:Hp) (E:Value→Shared→Prop),Inv X pins σ H s→(∀ b∈fp,Yo X pins H b)→tn i s.heap→J.stop i H →
   wpAny (model P w) X.A (pyNext (.ref it)) (fun r s1=>r=none∧Inv X pins σ H s1) E s
 self:∀ (A:Around) (i:Nat) (s:Shared) (Q:Value→Shared→Prop) (E:Value→Shared→Prop),tn i s.heap→Q (.ref it) s→wpAny (model P w) A (pyIter (.ref it)) Q E s
abbrev TI:=St→Hp→(It→Hp→Prop)→Prop
def PIE (X:Cx) (pins:List (Addr×Obj)) (σ:St) (tg:Expr) (R:It→Hp→Prop) (itv:Value) (s2:Shared):Prop :=
 ∃ (it:Addr) (fp:List Addr) (tn:Nat→Heap→Prop) (J:It) (H':Hp),itv=.ref it∧Inv X pins σ H' s2∧Wz X.prog X.w X.K tg J fp it tn∧tn 0 s2.heap∧(∀ b∈fp,Yo X pins H' b)∧R J H'
def PI (X:Cx) (tg iter:Expr) (wi:TI):Prop :=
 ∀ (pins:List (Addr×Obj)) (s:Shared) (σ:St) (H:Hp) (R:It→Hp→Prop),Inv X pins σ H s→wi σ H R →
   wpAny (model X.prog X.w) X.A (eval iter X.env) (fun v s1=>wpAny (model X.prog X.w) X.A (pyIter v) (PIE X pins σ tg R) X.xe s1) X.xe s
theorem Zeu {M:Model} {A:Around} {E:Value→Shared→Prop} {s:Shared} {tg:Expr} {it:Addr} {u:Value} {o:Obj} {n:String} {vs:Array Value} {Q:Unit→Shared→Prop} (ho:s.heap.get? it=some o) (hc:o.cls=.type n) (hd:o.data=.fields vs)
   (hn:["enumerate","zip","dict_itemiterator","dict_reverseitemiterator","odict_iterator","itertools.zip_longest","itertools.pairwise"].contains n=false) (hQ:Q () s):wpAny M A (letOwnedTupleGo tg (.ref it) u) Q E s:=by
 unfold letOwnedTupleGo
 cases tg <;> first
   | exact wpAny_pure hQ
   | (cases u <;> first
       | exact wpAny_pure hQ
       | (refine wpAny_bind (wpAny_load ho ?_)
          rw [hc,hd]
          show wpAny M A (if (["enumerate","zip","dict_itemiterator","dict_reverseitemiterator","odict_iterator","itertools.zip_longest","itertools.pairwise"].contains n && vs[0]? == some (rawInt _))=true then _ else _) Q E s
          rw [if_neg (by intro h;rw [hn,Bool.false_and] at h;cases h)]
          exact wpAny_pure hQ))
def Itl (K:PySem.W.Frag) (a:Addr):It :=
 ⟨fun i H=>∃ xs x,SqL K H a xs∧xs[i]?=some x,fun i H x H'=>H'=H∧∀ xs,SqL K H a xs→xs[i]?=some x,fun i H=>∃ xs,SqL K H a xs∧xs.length≤i⟩
def Itt (K:PySem.W.Frag) (a:Addr):It :=
 ⟨fun i H=>∃ xs x,SqT K H a xs∧xs[i]?=some x,fun i H x H'=>H'=H∧∀ xs,SqT K H a xs→xs[i]?=some x,fun i H=>∃ xs,SqT K H a xs∧xs.length≤i⟩
def Itr (lo:Int) (n:Nat):It:=⟨fun i _=>i < n,fun i H x H'=>H'=H∧x=.int (lo+i),fun i _=>n≤i⟩
theorem ZgQ {P:Program} {w:World} {K:PySem.W.Frag} {tg:Expr} (a it:Addr):Wz P w K tg (Itl K a) [it] it (fun i h=>h.IsListIter it a i) where
 mem:=by simp
 obj:=fun i h st b hb=>by
   have e:b=it:=by simpa using hb
   subst e
   obtain ⟨o,e,c,d⟩:=st
   exact ⟨o,e,fun v z=>by rw [d] at z;cases z⟩
 keep:=fun i h h' st k=>st.at fun o e=>k it (by simp) o e
 item:=by
   intro X hP hw hK hc i pins s σ H E I hf st hg
   subst hP hw hK
   obtain ⟨xs,x,hq,hx⟩:=hg
   obtain ⟨its,rv,p,hz⟩:=I.list hq
   obtain ⟨u,hu,ru⟩:=rv.get hx
   obtain ⟨f0,f1,f2,f3,f4,f5⟩:=hf it (by simp)
   refine wpAny_pyNext_list_item st p.isList (x:=u) (by simpa using hu) fun h' st' sb=>?_
   have I1:Inv X pins σ H { s with heap:=h' }:=I.turned (t':=s.toks) (fun b o hb e=>(sb.2 b hb).trans e) f0 f1 f3 f4 f5
   obtain ⟨o,e,c,d⟩:=id st'
   exact ⟨u,rfl,Zeu (s:={ s with heap:=h' }) e c d (by decide) ⟨x,H,I1,ru,⟨rfl,fun ys hy=>by rw [I.list_inj hy hq];exact hx⟩,st',fun b hb=>(hf b hb).1⟩⟩
 done:=by
   intro X hP hw hK hc i pins s σ H E I hf st hg
   subst hP hw hK
   obtain ⟨xs,hq,hx⟩:=hg
   obtain ⟨its,rv,p,hz⟩:=I.list hq
   obtain ⟨f0,f1,f2,f3,f4,f5⟩:=hf it (by simp)
   have hl:=rv.length
   exact wpAny_pyNext_list_end (I.ok.hd hc) st p.isList (by simp;omega) fun h' eb=>⟨rfl,I.turned (t':=s.toks) (fun b o hb e=>eb b o hb e) f0 f1 f3 f4 f5⟩
 self:=fun _ _ _ _ _ st h=>wpAny_pyIter_listiter st h
theorem Zex {P:Program} {w:World} {K:PySem.W.Frag} {tg:Expr} (a it:Addr):Wz P w K tg (Itt K a) [it] it (fun i h=>h.IsTupleIter it a i) where
 mem:=by simp
 obj:=fun i h st b hb=>by
   have e:b=it:=by simpa using hb
   subst e
   obtain ⟨o,e,c,d⟩:=st
   exact ⟨o,e,fun v z=>by rw [d] at z;cases z⟩
 keep:=fun i h h' st k=>st.at fun o e=>k it (by simp) o e
 item:=by
   intro X hP hw hK hc i pins s σ H E I hf st hg
   subst hP hw hK
   obtain ⟨xs,x,hq,hx⟩:=hg
   obtain ⟨its,rv,p,hz⟩:=I.tuple hq
   obtain ⟨u,hu,ru⟩:=rv.get hx
   obtain ⟨f0,f1,f2,f3,f4,f5⟩:=hf it (by simp)
   refine wpAny_pyNext_tuple_item st (show s.heap.IsTuple a its.toArray from p) (x:=u) (by simpa using hu) fun h' st' sb=>?_
   have I1:Inv X pins σ H { s with heap:=h' }:=I.turned (t':=s.toks) (fun b o hb e=>(sb.2 b hb).trans e) f0 f1 f3 f4 f5
   obtain ⟨o,e,c,d⟩:=id st'
   exact ⟨u,rfl,Zeu (s:={ s with heap:=h' }) e c d (by decide) ⟨x,H,I1,ru,⟨rfl,fun ys hy=>by rw [I.tuple_inj hy hq];exact hx⟩,st',fun b hb=>(hf b hb).1⟩⟩
 done:=by
   intro X hP hw hK hc i pins s σ H E I hf st hg
   subst hP hw hK
   obtain ⟨xs,hq,hx⟩:=hg
   obtain ⟨its,rv,p,hz⟩:=I.tuple hq
   obtain ⟨f0,f1,f2,f3,f4,f5⟩:=hf it (by simp)
   have hl:=rv.length
   exact wpAny_pyNext_tuple_end (I.ok.hd hc) st (show s.heap.IsTuple a its.toArray from p) (by simp;omega) fun h' eb=>⟨rfl,I.turned (t':=s.toks) (fun b o hb e=>eb b o hb e) f0 f1 f3 f4 f5⟩
 self:=fun _ _ _ _ _ st h=>wpAny_pyIter_tupleiter st h
theorem ZeF {P:Program} {w:World} {K:PySem.W.Frag} {tg:Expr} (it:Addr) (lo:Int) (n:Nat):Wz P w K tg (Itr lo n) [it] it (fun i h=>IsRangeIter h it (lo+(i:Nat) * 1) ((n:Int) - (i:Nat)) 1) where
 mem:=by simp
 obj := fun i h st b hb=>by
   have e:b=it:=by simpa using hb
   subst e
   exact ⟨_,st,fun v z=>by
     have z':Data.fields _=Data.cell v:=z
     cases z'⟩
 keep:=fun i h h' st k=>k it (by simp) _ st
 item:=by
   intro X hP hw hK hc i pins s σ H E I hf st hg
   subst hP hw hK
   obtain ⟨f0,f1,f2,f3,f4,f5⟩:=hf it (by simp)
   have W:=Walks.range (prog:=X.prog) (w:=X.w) (I.ok.hd hc) it lo 1 n
   refine W.item i s _ _ hg st fun v h' tk hv st' kk=>?_
   obtain ⟨t,rfl⟩:=hv
   have I1:Inv X pins σ H { s with heap:=h',toks:=tk }:=I.turned (fun b o hb e=>kk b o (by simpa using hb) e) f0 f1 f3 f4 f5
   refine ⟨_,rfl,Zeu (s:={ s with heap:=h',toks:=tk }) (n:="range_iterator") st' rfl rfl (by decide) ⟨.int (lo+i),H,I1,⟨t,?_⟩,⟨rfl,rfl⟩,st',fun b hb=>(hf b hb).1⟩⟩
   rw [Int.mul_one]
 done:=by
   intro X hP hw hK hc i pins s σ H E I hf st hg
   subst hP hw hK
   obtain ⟨f0,f1,f2,f3,f4,f5⟩:=hf it (by simp)
   exact wpAny_pyNext_range_end (I.ok.hd hc) st (by have:n≤i:=hg;omega) fun h' eb=>⟨rfl,I.turned (t':=s.toks) (fun b o hb e=>eb b o hb e) f0 f1 f3 f4 f5⟩
 self:=fun _ _ _ _ _ st h=>wpAny_pyIter_rangeiter st h
end L2
namespace L2
open PySem PySem.Spec PyProof.Rows
section
variable {X:Cx} {tg:Expr}
def ZmB (K:PySem.W.Frag) (tl:TE):TI:=fun σ H R=>tl σ H fun x H1=>∃ a,x=.ref a∧(∃ xs,SqL K H1 a xs)∧R (Itl K a) H1
def iTup (K:PySem.W.Frag) (tl:TE):TI:=fun σ H R=>tl σ H fun x H1=>∃ a,x=.ref a∧(∃ xs,SqT K H1 a xs)∧R (Itt K a) H1
theorem Ur {l:Expr} {tl:TE} (hl:PE X l tl):PI X tg l (ZmB X.K tl):=by
 intro pins s σ H R I h
 refine Zm (hl pins s σ H _ I h) fun v s1 ⟨x,H1,I1,r1,q1⟩=>?_
 obtain ⟨a,e,⟨xs,hq⟩,q⟩:=q1
 subst e
 cases r1
 obtain ⟨its,rv,p,hz⟩:=I1.list hq
 refine wpAny_pyIter_list p.isList ?_
 refine ⟨s1.heap.objs.size,[s1.heap.objs.size],_,_,H1,rfl,I1.kept (t':=s1.toks) fun b o e=>Heap.get?_push_of_some _ e,ZgQ a _,⟨_,Heap.get?_push_size _ rfl,rfl,rfl⟩,fun b hb=>?_,q⟩
 have e:b=s1.heap.objs.size:=by simpa using hb
 subst e
 exact I1.fpOk (Nat.le_refl _) (I1.hok.fresh (Nat.le_refl _))
theorem Zgo {l:Expr} {tl:TE} (hl:PE X l tl):PI X tg l (iTup X.K tl):=by
 intro pins s σ H R I h
 refine Zm (hl pins s σ H _ I h) fun v s1 ⟨x,H1,I1,r1,q1⟩=>?_
 obtain ⟨a,e,⟨xs,hq⟩,q⟩:=q1
 subst e
 cases r1
 obtain ⟨its,rv,p,hz⟩:=I1.tuple hq
 refine wpAny_pyIter_tuple (show s1.heap.IsTuple a its.toArray from p) ?_
 refine ⟨s1.heap.objs.size,[s1.heap.objs.size],_,_,H1,rfl,I1.kept (t':=s1.toks) fun b o e=>Heap.get?_push_of_some _ e,Zex a _,⟨_,Heap.get?_push_size _ rfl,rfl,rfl⟩,fun b hb=>?_,q⟩
 have e:b=s1.heap.objs.size:=by simpa using hb
 subst e
 exact I1.fpOk (Nat.le_refl _) (I1.hok.fresh (Nat.le_refl _))
theorem Zhv {pins:List (Addr×Obj)} {σ:St} {H:Hp} {s:Shared} {R:It→Hp→Prop} {E:Value→Shared→Prop} {lo hi:Int} {t u v:Tok} {tk:Nat} (I:Inv X pins σ H s) (h1:-(2 ^ 62)≤lo) (h2:lo < 2 ^ 62) (h3:-(2 ^ 62)≤hi) (h4:hi < 2 ^ 62)
   (q:R (Itr lo (hi - lo).toNat) H):wpAny (model X.prog X.w) X.A (pyIter (.ref s.heap.objs.size)) (PIE X pins σ tg R) E { s with heap:=s.heap.push { cls:=.type "range",data:=.fields #[.int lo t,.int hi u,.int 1 v] },toks:=tk }:=by
 refine wpAny_pyIter_range (IsRange.new ..) (small_one h1 h2 h3 h4) ?_
 have I1:Inv X pins σ H { s with heap:=s.heap.push { cls:=.type "range",data:=.fields #[.int lo t,.int hi u,.int 1 v] },toks:=tk }:=I.kept fun b o e=>Heap.get?_push_of_some _ e
 refine ⟨(s.heap.push { cls:=.type "range",data:=.fields #[.int lo t,.int hi u,.int 1 v] }).objs.size,[(s.heap.push { cls:=.type "range",data:=.fields #[.int lo t,.int hi u,.int 1 v] }).objs.size],_,_,H,rfl,
   I1.kept (t':=tk) fun b o e=>Heap.get?_push_of_some _ e,ZeF _ lo (hi - lo).toNat,?_,fun b hb=>?_,q⟩
 · have e1:lo+((0:Nat):Int) * 1=lo:=by simp
   have e2:(((hi - lo).toNat:Nat):Int) - ((0:Nat):Int)=Builtin.Range.rangeSize lo hi 1:=by rw [rangeSize_one];split <;> omega
   show IsRangeIter _ _ (lo+((0:Nat):Int) * 1) ((((hi - lo).toNat:Nat):Int) - ((0:Nat):Int)) 1
   rw [e1,e2]
   exact Heap.get?_push_size _ rfl
 · have e:b=(s.heap.push { cls:=.type "range",data:=.fields #[.int lo t,.int hi u,.int 1 v] }).objs.size:=by simpa using hb
   subst e
   exact I1.fpOk (Nat.le_refl _) (I1.hok.fresh (Nat.le_refl _))
def Zmn (ta:TA):TI:=fun σ H R=>ta σ H fun vs H1=>∃ j:Int,vs=[.int j]∧-(2 ^ 62)≤j∧j < 2 ^ 62∧R (Itr 0 j.toNat) H1
theorem Xd {a:Expr} {ta:TA} {p pos:Pos} (hg:Gl X "range") (hm:X.mg "range"=none) (ha:PA X [a] ta) (hs:starEach [a] X.env=[(false,eval a X.env)]:=by rfl):PI X tg (.Call (.Name "range" p) [a] [] pos) (Zmn ta):=by
 intro pins s σ H R I h
 refine Call_ (Wk I hg hm boot_range (PyProof.Rows.callWith_type1 (Zm (ha pos pins s σ H _ I h) fun us s1 ⟨vs,H1,I1,r1,q1⟩=>?_) hs rfl))
 obtain ⟨j,e,q1,q2,q⟩:=q1
 subst e
 cases r1 with
 | cons r rr =>
   cases rr
   obtain ⟨t,rfl⟩:=r
   exact call_range_1 (Zhv I1 (by omega) (by omega) q1 q2 (by simpa using q))
def tFor (wi:TI) (g:TG) (tb:TS):TS:=fun D σ H=>wi σ H fun J H1=>∃ W:Nat→Nat→St→Hp→Prop,(∃ m,W 0 m σ H1)∧∀ i m σ H,W i m σ H →
 (J.stop i H∧D.nx σ H)∨(J.go i H∧∃ N:St→Hp→Prop,(∀ σ' H',N σ' H'→∃ m',m' < m∧W (i+1) m' σ' H')∧∀ x H',J.yld i H x H'→g x σ H' fun σ2 H2=>tb { D with nx:=N,ct:=N,bk:=D.nx } σ2 H2)
def Zav (fp:List Addr) (h:Heap):List (Addr×Obj):=fp.filterMap fun b=>(h.get? b).map fun o=>(b,o)
theorem Yb {fp:List Addr} {h:Heap} {b:Addr} {o:Obj} (hb:b∈fp) (e:h.get? b=some o):(b,o)∈Zav fp h:=List.mem_filterMap.mpr ⟨b,hb,by rw [e];rfl⟩
theorem ZgN {fp:List Addr} {h:Heap} {p:Addr×Obj} (hp:p∈Zav fp h):p.1∈fp∧h.get? p.1=some p.2:=by
 obtain ⟨b,hb,e⟩:=List.mem_filterMap.mp hp
 cases q:h.get? b with
 | none=>rw [q] at e;cases e
 | some o =>
   rw [q] at e
   have e':(b,o)=p:=Option.some.inj e
   subst e'
   exact ⟨hb,q⟩
theorem Inv.pinned {pins:List (Addr×Obj)} {σ:St} {H:Hp} {s:Shared} {fp:List Addr} (I:Inv X pins σ H s) (hf:∀ b∈fp,Yo X pins H b) (ho:∀ b∈fp,∃ o,s.heap.get? b=some o∧∀ v,o.data≠.cell v):Inv X (pins++Zav fp s.heap) σ H s :=
 I.pins_of fun p hp=>(List.mem_append.mp hp).elim (fun z=>I.pin p (List.mem_append_right _ z)) fun z=>by
   obtain ⟨hb,e⟩:=ZgN z
   obtain ⟨f0,f1,f2,_⟩:=hf p.1 hb
   obtain ⟨o,e',d⟩:=ho p.1 hb
   rw [e] at e';cases e'
   exact ⟨e,f0,f1,f2,d⟩
theorem Inv.unpinned {pins pl:List (Addr×Obj)} {σ:St} {H:Hp} {s:Shared} (I:Inv X (pins++pl) σ H s):Inv X pins σ H s:=I.pins_of fun p hp=>I.pin p (List.mem_append_right _ (List.mem_append_left _ hp))
theorem Uh {iter:Expr} {body:List Stmt} {wi:TI} {g:TG} {tb:TS} {pos:Pos} (hp:PassesOwn (model X.prog X.w) X.A X.env X.xe) (hc:X.calm=true) (hi:PI X tg iter wi) (hg:PG X tg g) (hb:PSs X body tb)
   (hs:∀ x,foldedSetIterable iter X.env x=pure x:=by intro _;rfl):PS X (.For tg iter body [] pos) (tFor wi g tb):=by
 intro pins s σ H D I h
 refine wpAny_For (Zm (hi pins s σ H _ I h) fun v s1 h1=>Zm h1 fun itv s2 h2=>?_) hs
 obtain ⟨it,fp,tn,J,H2,e,I2,T,st2,f2,W,⟨m0,w0⟩,turn⟩:=h2
 subst e
 have stat:∀ {H':Hp},(∀ b∈fp,H' b=none)→∀ b∈fp,Yo X pins H' b:=fun hn b hb=>⟨hn b hb,(f2 b hb).2⟩
 refine codeAny_forLoop_any (fun n s'=>∃ i σ' H',Inv X pins σ' H' s'∧tn i s'.heap∧(∀ b∈fp,H' b=none)∧W i n σ' H') ?_ m0 ⟨0,σ,H2,I2,st2,fun b hb=>(f2 b hb).1,w0⟩
 rintro n s3 ⟨i,σ3,H3,I3,st3,fr3,w3⟩
 rcases turn i n σ3 H3 w3 with ⟨stop,qn⟩ | ⟨go,N,hN,step⟩
 · refine wpAny_passesOwn hp (Zm (T.done X rfl rfl rfl hc i pins s3 σ3 H3 X.xe I3 (stat fr3) st3 stop) fun r s4 ⟨hr,I4⟩=>?_)
   subst hr
   exact wpAny_execs_nil ⟨σ3,H3,I4,qn⟩
 · refine wpAny_passesOwn hp (Zm (T.item X rfl rfl rfl hc i pins s3 σ3 H3 X.xe I3 (stat fr3) st3 go) fun r s4 ⟨u,hr,h4⟩=>?_)
   subst hr
   refine wpAny_passesOwn hp (Zm h4 fun _ s5 ⟨x,H5,I5,r5,y5,st5,fr5⟩=>?_)
   have I5':=I5.pinned (stat fr5) (T.obj _ _ st5)
   refine wpAny_passesOwn hp (Zm (hg _ s5 σ3 H5 x u _ I5' r5 (step x H5 y5)) fun _ s6 ⟨σ6,H6,I6,q6⟩=>?_)
   refine wpAny_passesOwn hp (Zm (hb _ s6 σ6 H6 _ I6 q6) fun f s7 q7=>?_)
   have again:∀ {σ7:St} {H7:Hp},Inv X (pins++Zav fp s5.heap) σ7 H7 s7→N σ7 H7→∃ m,m < n∧∃ i σ' H',Inv X pins σ' H' s7∧tn i s7.heap∧(∀ b∈fp,H' b=none)∧W i m σ' H':=fun {σ7 H7} I7 n7=>by
     obtain ⟨m',hm,w7⟩:=hN σ7 H7 n7
     refine ⟨m',hm,i+1,σ7,H7,I7.unpinned,T.keep _ _ _ st5 fun b hb o e=>(I7.pin (b,o) (List.mem_append_right _ (List.mem_append_right _ (Yb hb e)))).1,fun b hb=>?_,w7⟩
     obtain ⟨o,e,d⟩:=T.obj _ _ st5 b hb
     exact (I7.pin (b,o) (List.mem_append_right _ (List.mem_append_right _ (Yb hb e)))).2.1
   cases f with
   | next=>obtain ⟨σ7,H7,I7,n7⟩:=q7;exact again I7 n7
   | cont=>obtain ⟨σ7,H7,I7,n7⟩:=q7;exact again I7 n7
   | brk=>obtain ⟨σ7,H7,I7,q7⟩:=q7;exact ⟨σ7,H7,I7.unpinned,q7⟩
   | ret v=>obtain ⟨x7,σ7,H7,I7,r7,q7⟩:=q7;exact ⟨x7,σ7,H7,I7.unpinned,r7,q7⟩
end
theorem ZcF {K:PySem.W.Frag} {a:Addr} {xs:List V} {g:TG} {tb:TS} {D:UY} {σ:St} {H:Hp} (Pv:Nat→St→Hp→Prop) (h0:Pv 0 σ H) (hl:∀ i σ H,i≤xs.length→Pv i σ H→SqL K H a xs)
   (hs:∀ i x σ H,xs[i]?=some x→Pv i σ H→g x σ H fun σ2 H2=>tb { D with nx:=Pv (i+1),ct:=Pv (i+1),bk:=D.nx } σ2 H2) (hd:∀ σ H,Pv xs.length σ H→D.nx σ H) :
   ∃ W:Nat→Nat→St→Hp→Prop,(∃ m,W 0 m σ H)∧∀ i m σ H,W i m σ H →
     ((Itl K a).stop i H∧D.nx σ H)∨((Itl K a).go i H∧∃ N:St→Hp→Prop,(∀ σ' H',N σ' H'→∃ m',m' < m∧W (i+1) m' σ' H')∧∀ x H',(Itl K a).yld i H x H'→g x σ H' fun σ2 H2=>tb { D with nx:=N,ct:=N,bk:=D.nx } σ2 H2):=by
 refine ⟨fun i m σ H=>m=xs.length - i∧i≤xs.length∧Pv i σ H,⟨xs.length,by simp,Nat.zero_le _,h0⟩,?_⟩
 rintro i m σ H ⟨rfl,hi,p⟩
 have q:=hl i σ H hi p
 by_cases hlt:i < xs.length
 · refine .inr ⟨⟨xs,xs[i],q,by simp [hlt]⟩,Pv (i+1),fun σ' H' p'=>⟨xs.length - (i+1),by omega,rfl,hlt,p'⟩,fun x H' y=>?_⟩
   obtain ⟨e,y⟩:=y
   subst e
   exact hs i x σ _ (y xs q) p
 · have e:i=xs.length:=by omega
   subst e
   exact .inl ⟨⟨xs,q,Nat.le_refl _⟩,hd σ H p⟩
theorem Va {lo:Int} {n:Nat} {g:TG} {tb:TS} {D:UY} {σ:St} {H:Hp} (Pv:Nat→St→Hp→Prop) (h0:Pv 0 σ H)
   (hs:∀ i σ H,i < n→Pv i σ H→g (.int (lo+i)) σ H fun σ2 H2=>tb { D with nx:=Pv (i+1),ct:=Pv (i+1),bk:=D.nx } σ2 H2) (hd:∀ σ H,Pv n σ H→D.nx σ H) :
   ∃ W:Nat→Nat→St→Hp→Prop,(∃ m,W 0 m σ H)∧∀ i m σ H,W i m σ H →
     ((Itr lo n).stop i H∧D.nx σ H)∨((Itr lo n).go i H∧∃ N:St→Hp→Prop,(∀ σ' H',N σ' H'→∃ m',m' < m∧W (i+1) m' σ' H')∧∀ x H',(Itr lo n).yld i H x H'→g x σ H' fun σ2 H2=>tb { D with nx:=N,ct:=N,bk:=D.nx } σ2 H2):=by
 refine ⟨fun i m σ H=>m=n - i∧i≤n∧Pv i σ H,⟨n,by simp,Nat.zero_le _,h0⟩,?_⟩
 rintro i m σ H ⟨rfl,hi,p⟩
 by_cases hlt:i < n
 · refine .inr ⟨hlt,Pv (i+1),fun σ' H' p'=>⟨n - (i+1),by omega,rfl,hlt,p'⟩,fun x H' y=>?_⟩
   obtain ⟨e,y⟩:=y
   subst e y
   exact hs i σ _ hlt p
 · have e:i=n:=by omega
   subst e
   exact .inl ⟨Nat.le_refl _,hd σ H p⟩
end L2
namespace L2
open PySem PySem.Spec PyProof.Rows
abbrev R2:=V→V→Hp→VK→Prop
def Xc (X:Cx) (f:Value→Value→Sem Value) (r:R2):Prop :=
 ∀ (pins:List (Addr×Obj)) (s:Shared) (σ:St) (H:Hp) (x y:V) (v u:Value) (Q:VK),Inv X pins σ H s→RelV x v→RelV y u→r x y H Q →
   wpAny (model X.prog X.w) X.A (f v u) (EP X pins σ Q) X.xe s
def UnR (X:Cx) (f:Value→Sem Value) (r:V→Hp→VK→Prop):Prop :=
 ∀ (pins:List (Addr×Obj)) (s:Shared) (σ:St) (H:Hp) (x:V) (v:Value) (Q:VK),Inv X pins σ H s→RelV x v→r x H Q →
   wpAny (model X.prog X.w) X.A (f v) (EP X pins σ Q) X.xe s
def Yv (X:Cx) (f:Value) (r:List V→Hp→VK→Prop):Prop :=
 ∀ (pins:List (Addr×Obj)) (s:Shared) (σ:St) (H:Hp) (xs:List V) (us:List Value) (Q:VK),Inv X pins σ H s→Vals xs us→r xs H Q →
   wpAny (model X.prog X.w) X.A (call f us) (EP X pins σ Q) X.xe s
def TruR (X:Cx) (r:V→Hp→(Bool→Hp→Prop)→Prop):Prop :=
 ∀ (pins:List (Addr×Obj)) (s:Shared) (σ:St) (H:Hp) (x:V) (v:Value) (Q:Bool→Hp→Prop),Inv X pins σ H s→RelV x v→r x H Q →
   wpAny (model X.prog X.w) X.A (truthy v) (TP X pins σ Q) X.xe s
def tOp (r:R2) (ta tb:TE):TE:=fun σ H Q=>ta σ H fun x H1=>tb σ H1 fun y H2=>r x y H2 Q
def tUn (r:V→Hp→VK→Prop) (ta:TE):TE:=fun σ H Q=>ta σ H fun x H1=>r x H1 Q
def rI (C:Int→Int→Prop) (g:Int→Int→V):R2:=fun x y H Q=>∃ i j,x=.int i∧y=.int j∧C i j∧Q (g i j) H
def rI0 (g:Int→Int→V):R2:=fun x y H Q=>∃ i j,x=.int i∧y=.int j∧Q (g i j) H
def rU (g:Int→V):V→Hp→VK→Prop:=fun x H Q=>∃ i,x=.int i∧Q (g i) H
section
variable {X:Cx} {a b c:Expr} {ta tb tc:TE} {pos:Pos}
theorem Zhy (ha:PE X a ta) (hb:PE X b tb) {pins:List (Addr×Obj)} {s:Shared} {σ:St} {H:Hp} {R:V→V→Hp→Prop} (I:Inv X pins σ H s)
   (h:ta σ H fun x H1=>tb σ H1 fun y H2=>R x y H2) {Q:Value→Shared→Prop} {f:Value→Value→Sem Value}
   (hf:∀ v u s2 x y H2,Inv X pins σ H2 s2→RelV x v→RelV y u→R x y H2→wpAny (model X.prog X.w) X.A (f v u) Q X.xe s2) :
   wpAny (model X.prog X.w) X.A (eval a X.env) (fun v s₁=>wpAny (model X.prog X.w) X.A (eval b X.env) (fun u s₂=>wpAny (model X.prog X.w) X.A (f v u) Q X.xe s₂) X.xe s₁) X.xe s:=by
 refine Zm (ha pins s σ H _ I h) fun v s1 ⟨x,H1,I1,r1,q1⟩=>?_
 refine Zm (hb pins s1 σ H1 _ I1 q1) fun u s2 ⟨y,H2,I2,r2,q2⟩=>?_
 exact hf v u s2 x y H2 I2 r1 r2 q2
theorem Zn {op:Operator} {r:R2} (ho:Xc X (binaryOp op) r) (ha:PE X a ta) (hb:PE X b tb):PE X (.BinOp a op b pos) (tOp r ta tb):=by
 intro pins s σ H Q I h
 exact wpAny_BinOp (Zhy ha hb I h fun v u s2 x y H2 I2 rx ry q=>ho pins s2 σ H2 x y v u Q I2 rx ry q)
theorem ZiX {op:UnaryOp} {r:V→Hp→VK→Prop} (ho:UnR X (unaryOp op) r) (ha:PE X a ta):PE X (.UnaryOp op a pos) (tUn r ta):=by
 intro pins s σ H Q I h
 exact UnaryOp_ (Zm (ha pins s σ H _ I h) fun v s1 ⟨x,H1,I1,r1,q1⟩=>ho pins s1 σ H1 x v Q I1 r1 q1)
theorem opI {f:Value→Value→Sem Value} {C:Int→Int→Prop} {g:Int→Int→Int}
   (rule:∀ (i j:Int) (t u:Tok) (s:Shared) (Q:Value→Shared→Prop) (E:Value→Shared→Prop),C i j→Q (.int (g i j) s.toks) { s with toks:=s.toks+1 }→wpAny (model X.prog X.w) X.A (f (.int i t) (.int j u)) Q E s) :
   Xc X f (rI C fun i j=>.int (g i j)):=by
 intro pins s σ H x y v u Q I rx ry h
 obtain ⟨i,j,rfl,rfl,hc,q⟩:=h
 obtain ⟨t,rfl⟩:=rx
 obtain ⟨t',rfl⟩:=ry
 exact rule i j t t' s _ _ hc ⟨.int (g i j),H,I.tok _,⟨_,rfl⟩,q⟩
theorem opI0 {f:Value→Value→Sem Value} {g:Int→Int→Int}
   (rule:∀ (i j:Int) (t u:Tok) (s:Shared) (Q:Value→Shared→Prop) (E:Value→Shared→Prop),Q (.int (g i j) s.toks) { s with toks:=s.toks+1 }→wpAny (model X.prog X.w) X.A (f (.int i t) (.int j u)) Q E s) :
   Xc X f (rI0 fun i j=>.int (g i j)):=by
 intro pins s σ H x y v u Q I rx ry h
 obtain ⟨i,j,rfl,rfl,q⟩:=h
 obtain ⟨t,rfl⟩:=rx
 obtain ⟨t',rfl⟩:=ry
 exact rule i j t t' s _ _ ⟨.int (g i j),H,I.tok _,⟨_,rfl⟩,q⟩
theorem ZeM {f:Value→Value→Sem Value} {g:Int→Int→Bool}
   (rule:∀ (i j:Int) (t u:Tok) (s:Shared) (Q:Value→Shared→Prop) (E:Value→Shared→Prop),Q (.bool (g i j)) s→wpAny (model X.prog X.w) X.A (f (.int i t) (.int j u)) Q E s) :
   Xc X f (rI0 fun i j=>.bl (g i j)):=by
 intro pins s σ H x y v u Q I rx ry h
 obtain ⟨i,j,rfl,rfl,q⟩:=h
 obtain ⟨t,rfl⟩:=rx
 obtain ⟨t',rfl⟩:=ry
 exact rule i j t t' s _ _ ⟨.bl (g i j),H,I,rfl,q⟩
def CDiv (i j:Int):Prop:=0 < j∧j < 1073741824
def CPow (i j:Int):Prop:=0≤j∧j≤1000000∧i.natAbs < 2 ^ 64
def CMul (i j:Int):Prop:=(-(2 ^ 64) < i∧i < 2 ^ 64)∨(-(2 ^ 64) < j∧j < 2 ^ 64)
theorem CMul.ok {i j:Int} (h:CMul i j):IntMulOk i j:=by
 rcases h with ⟨h1,h2⟩ | ⟨h1,h2⟩
 · exact .of_left (intBits_le_64 h1 h2)
 · exact .of_right (intBits_le_64 h1 h2)
theorem Yi:Xc X (binaryOp .Add) (rI0 fun i j=>.int (i+j)):=opI0 fun _ _ _ _ _ _ _ q=>add_int q
theorem Yx:Xc X (binaryOp .Sub) (rI0 fun i j=>.int (i - j)):=opI0 fun _ _ _ _ _ _ _ q=>sub_int q
theorem XM:Xc X (binaryOp .Mult) (rI CMul fun i j=>.int (i * j)):=opI fun _ _ _ _ _ _ _ hc q=>mul_int q hc.ok
theorem Zes:Xc X (binaryOp .FloorDiv) (rI CDiv fun i j=>.int (i / j)):=opI fun i j _ _ _ _ _ hc q=>by
 have h1:(0:Int) < j:=hc.1
 have h2:j < 1073741824:=hc.2
 exact floordiv_int (by omega) (by rw [Int.fdiv_eq_ediv_of_nonneg i (by omega)];exact q) (.inl (PyProof.noPylong_small (by omega)))
theorem Xj:Xc X (binaryOp .Mod) (rI (fun _ j=>0 < j) fun i j=>.int (i % j)):=opI fun i j _ _ _ _ _ hc q=>by
 have h1:(0:Int) < j:=hc
 exact mod_int' (by omega) (by rw [Int.fmod_eq_emod_of_nonneg i (by omega)];exact q)
theorem Zao:Xc X (binaryOp .Pow) (rI CPow fun i j=>.int (i ^ j.toNat)):=opI fun _ _ _ _ _ _ _ hc q=>pow_int_small hc.1 hc.2.1 hc.2.2 q
theorem unI {f:Value→Sem Value} {g:Int→Int}
   (rule:∀ (i:Int) (t:Tok) (s:Shared) (Q:Value→Shared→Prop) (E:Value→Shared→Prop),Q (.int (g i) s.toks) { s with toks:=s.toks+1 }→wpAny (model X.prog X.w) X.A (f (.int i t)) Q E s) :
   UnR X f (rU fun i=>.int (g i)):=by
 intro pins s σ H x v Q I rx h
 obtain ⟨i,rfl,q⟩:=h
 obtain ⟨t,rfl⟩:=rx
 exact rule i t s _ _ ⟨.int (g i),H,I.tok _,⟨_,rfl⟩,q⟩
theorem Zgz:UnR X (unaryOp .USub) (rU fun i=>.int (-i)):=unI fun _ _ _ _ _ q=>neg_int q
end
def scal:V→V→Bool
 | .non,.non=>true | .non,.int _=>true | .int _,.non=>true | .non,.bl _=>true | .bl _,.non=>true | .non,.str _=>true | .str _,.non=>true
 | .int _,.int _=>true | .bl _,.bl _=>true | .str _,.str _=>true | .byt _,.byt _=>true
 | .int _,.str _=>true | .str _,.int _=>true | .bl _,.str _=>true | .str _,.bl _=>true
 | _,_=>false
def rEq:R2:=fun x y H Q=>scal x y=true∧Q (.bl (decide (x=y))) H
def rNe:R2:=fun x y H Q=>scal x y=true∧Q (.bl (!decide (x=y))) H
theorem ZdA {i j:Int}:decide (V.int i=V.int j)=(i == j):=by
 rw [Bool.eq_iff_iff]
 simp
theorem Zgb {i j:Bool}:decide (V.bl i=V.bl j)=(i == j):=by
 rw [Bool.eq_iff_iff]
 simp
theorem ZdS {i j:Str}:decide (V.str i=V.str j)=(i == j):=by
 rw [Bool.eq_iff_iff]
 simp
theorem ZdL {i j:Array UInt8}:decide (V.byt i=V.byt j)=(i.toList == j.toList):=by
 rw [Bool.eq_iff_iff]
 cases i
 cases j
 simp
section
variable {X:Cx} {a b c:Expr} {ta tb tc:TE} {pos:Pos}
theorem ZP {pins:List (Addr×Obj)} {σ:St} {H:Hp} {s:Shared} {Q:VK} {k k':Bool} (I:Inv X pins σ H s) (q:Q (.bl k) H) (e:k=k'):EP X pins σ Q (.bool k') s:=by
 subst e
 exact ⟨.bl k,H,I,rfl,q⟩
theorem Yq:Xc X (compareOp .Eq) rEq:=by
 intro pins s σ H x y v u Q I rx ry h
 obtain ⟨hs,q⟩:=h
 cases x with
 | non =>
   cases rx
   cases y with
   | non=>cases ry;exact PySem.EqNone.eq_none_none (ZP I q (by simp))
   | bl j=>cases ry;exact PySem.EqNone.eq_none_bool (ZP I q (by simp))
   | int j=>obtain ⟨t',rfl⟩:=ry;exact PySem.EqNone.eq_none_int (ZP I q (by simp))
   | str j=>obtain ⟨t',rfl⟩:=ry;exact PySem.EqNone.eq_none_str (ZP I q (by simp))
   | _=>exact absurd (show false=true from hs) Bool.false_ne_true
 | bl i =>
   cases rx
   cases y with
   | non=>cases ry;exact PySem.EqNone.eq_bool_none (ZP I q (by simp))
   | bl j=>cases ry;exact eq_bool (ZP I q Zgb)
   | str j=>obtain ⟨t',rfl⟩:=ry;exact PySem.EqMixed.eq_bool_str (ZP I q (by simp))
   | _=>exact absurd (show false=true from hs) Bool.false_ne_true
 | int i =>
   obtain ⟨t,rfl⟩:=rx
   cases y with
   | non=>cases ry;exact PySem.EqNone.eq_int_none (ZP I q (by simp))
   | int j=>obtain ⟨t',rfl⟩:=ry;exact eq_int (ZP I q ZdA)
   | str j=>obtain ⟨t',rfl⟩:=ry;exact PySem.EqMixed.eq_int_str (ZP I q (by simp))
   | _=>exact absurd (show false=true from hs) Bool.false_ne_true
 | str i =>
   obtain ⟨t,rfl⟩:=rx
   cases y with
   | non=>cases ry;exact PySem.EqNone.eq_str_none (ZP I q (by simp))
   | bl j=>cases ry;exact PySem.EqMixed.eq_str_bool (ZP I q (by simp))
   | int j=>obtain ⟨t',rfl⟩:=ry;exact PySem.EqMixed.eq_str_int (ZP I q (by simp))
   | str j=>obtain ⟨t',rfl⟩:=ry;exact eq_str (ZP I q ZdS)
   | _=>exact absurd (show false=true from hs) Bool.false_ne_true
 | byt i =>
   obtain ⟨t,rfl⟩:=rx
   cases y with
   | byt j=>obtain ⟨t',rfl⟩:=ry;exact PySem.W.eq_bytes (ZP I q ZdL)
   | _=>exact absurd (show false=true from hs) Bool.false_ne_true
 | _=>cases y <;> exact absurd (show false=true from hs) Bool.false_ne_true
theorem Zac:Xc X (compareOp .NotEq) rNe:=by
 intro pins s σ H x y v u Q I rx ry h
 obtain ⟨hs,q⟩:=h
 cases x with
 | non =>
   cases rx
   cases y with
   | non=>cases ry;exact PySem.EqNone.ne_none_none (ZP I q (by simp))
   | bl j=>cases ry;exact PySem.EqNone.ne_none_bool (ZP I q (by simp))
   | int j=>obtain ⟨t',rfl⟩:=ry;exact PySem.EqNone.ne_none_int (ZP I q (by simp))
   | str j=>obtain ⟨t',rfl⟩:=ry;exact PySem.EqNone.ne_none_str (ZP I q (by simp))
   | _=>exact absurd (show false=true from hs) Bool.false_ne_true
 | bl i =>
   cases rx
   cases y with
   | non=>cases ry;exact PySem.EqNone.ne_bool_none (ZP I q (by simp))
   | bl j=>cases ry;exact ne_bool (ZP I q (congrArg not Zgb))
   | str j=>obtain ⟨t',rfl⟩:=ry;exact PySem.EqMixed.ne_bool_str (ZP I q (by simp))
   | _=>exact absurd (show false=true from hs) Bool.false_ne_true
 | int i =>
   obtain ⟨t,rfl⟩:=rx
   cases y with
   | non=>cases ry;exact PySem.EqNone.ne_int_none (ZP I q (by simp))
   | int j=>obtain ⟨t',rfl⟩:=ry;exact ne_int (ZP I q (congrArg not ZdA))
   | str j=>obtain ⟨t',rfl⟩:=ry;exact PySem.EqMixed.ne_int_str (ZP I q (by simp))
   | _=>exact absurd (show false=true from hs) Bool.false_ne_true
 | str i =>
   obtain ⟨t,rfl⟩:=rx
   cases y with
   | non=>cases ry;exact PySem.EqNone.ne_str_none (ZP I q (by simp))
   | bl j=>cases ry;exact PySem.EqMixed.ne_str_bool (ZP I q (by simp))
   | int j=>obtain ⟨t',rfl⟩:=ry;exact PySem.EqMixed.ne_str_int (ZP I q (by simp))
   | str j=>obtain ⟨t',rfl⟩:=ry;exact ne_str (ZP I q (congrArg not ZdS))
   | _=>exact absurd (show false=true from hs) Bool.false_ne_true
 | byt i =>
   obtain ⟨t,rfl⟩:=rx
   cases y with
   | byt j=>obtain ⟨t',rfl⟩:=ry;exact PySem.W.ne_bytes (ZP I q (congrArg not ZdL))
   | _=>exact absurd (show false=true from hs) Bool.false_ne_true
 | _=>cases y <;> exact absurd (show false=true from hs) Bool.false_ne_true
theorem Vq:Xc X (compareOp .Lt) (rI0 fun i j=>.bl (decide (i < j))):=ZeM fun _ _ _ _ _ _ _ q=>lt_int q
theorem Zmh:Xc X (compareOp .LtE) (rI0 fun i j=>.bl (decide (i≤j))):=ZeM fun _ _ _ _ _ _ _ q=>le_int q
theorem ZeR:Xc X (compareOp .Gt) (rI0 fun i j=>.bl (decide (j < i))):=ZeM fun _ _ _ _ _ _ _ q=>gt_int q
theorem ZiJ:Xc X (compareOp .GtE) (rI0 fun i j=>.bl (decide (j≤i))):=ZeM fun _ _ _ _ _ _ _ q=>ge_int q
theorem ZE (b:Expr) {op:CmpOp} (h:op≠.In:=by decide) (h2:op≠.NotIn:=by decide):behindInMarks op b=false:=by
 have e1:(op == CmpOp.In)=false:=by cases op <;> first | rfl | exact absurd rfl h
 have e2:(op == CmpOp.NotIn)=false:=by cases op <;> first | rfl | exact absurd rfl h2
 cases b <;> simp [behindInMarks,e1,e2]
theorem YT {op:CmpOp} {r:R2} (ho:Xc X (compareOp op) r) (ha:PE X a ta) (hb:PE X b tb) (hm:behindInMarks op b=false):PE X (.Compare a [op] [b] pos) (tOp r ta tb):=by
 intro pins s σ H Q I h
 exact wpAny_Compare1 (Zhy ha hb I h fun v u s2 x y H2 I2 rx ry q=>ho pins s2 σ H2 x y v u Q I2 rx ry q) hm
def ZiL (t:TE):TT:=fun σ H Q=>t σ H fun x H'=>∃ k,x=.bl k∧Q k H'
theorem ZL {op:CmpOp} {r:R2} (ho:Xc X (compareOp op) r) (ha:PE X a ta) (hb:PE X b tb) (hm:behindInMarks op b=false):PT X (.Compare a [op] [b] pos) (ZiL (tOp r ta tb)):=by
 intro pins s σ H Q I h
 refine wpAny_isTrue_Compare1 (Zm (ha pins s σ H _ I h) fun v s1 ⟨x,H1,I1,r1,q1⟩=>Zm (hb pins s1 σ H1 _ I1 q1) fun u s2 ⟨y,H2,I2,r2,q2⟩ =>
   Zm (ho pins s2 σ H2 x y v u _ I2 r1 r2 q2) fun c s3 ⟨z,H3,I3,r3,k,e,q3⟩=>?_) hm
 subst e
 cases r3
 exact wpAny_truthy_bool ⟨H3,I3,q3⟩
def Zkv (r r':R2) (ta tb tc:TE):TE:=fun σ H Q=>ta σ H fun x H1=>tb σ H1 fun y H2=>r x y H2 fun z H3=>∃ k,z=.bl k ∧
 (if k=true then tc σ H3 fun w' H4=>r' y w' H4 Q else Q (.bl false) H3)
theorem ZgZ {op op':CmpOp} {r r':R2} (ho:Xc X (compareOp op) r) (ho':Xc X (compareOp op') r') (ha:PE X a ta) (hb:PE X b tb) (hc:PE X c tc)
   (hm:lastMarks [op,op'] [b,c]=false:=by with_unfolding_all rfl):PT X (.Compare a [op,op'] [b,c] pos) (ZiL (Zkv r r' ta tb tc)):=by
 intro pins s σ H Q I h
 refine isTrue_chain (Zm (ha pins s σ H _ I h) fun v s1 ⟨x,H1,I1,r1,q1⟩=>test_link (Zm (hb pins s1 σ H1 _ I1 q1) fun u s2 ⟨y,H2,I2,r2,q2⟩ =>
   Zm (ho pins s2 σ H2 x y v u _ I2 r1 r2 q2) fun d s3 ⟨z,H3,I3,r3,k,e,q3⟩=>?_)) hm
 subst e
 cases r3
 refine wpAny_truthy_bool ?_
 cases k with
 | false =>
   obtain ⟨k',e',q'⟩:=q3
   cases e'
   exact ite_ff ⟨H3,I3,q'⟩
 | true =>
   refine ite_tt (test_last (Zm (hc pins s3 σ H3 _ I3 q3) fun w' s4 ⟨z',H4,I4,r4,q4⟩=>Zm (ho' pins s4 σ H4 y z' u w' _ I4 r2 r4 q4) fun d' s5 ⟨z2,H5,I5,r5,k2,e2,q5⟩=>?_))
   subst e2
   cases r5
   exact wpAny_truthy_bool ⟨H5,I5,q5⟩
def TruV (K:PySem.W.Frag) (x:V) (H:Hp) (k:Bool):Prop :=
 match x with
 | .non=>k=false
 | .bl b=>k=b
 | .int i=>k=(i != 0)
 | .str y=>y.length≤sizeLine∧k=((y.length:Int) != 0)
 | .byt y=>y.size≤sizeLine∧k=((y.size:Int) != 0)
 | .ref p=>(∃ xs,SqL K H p xs∧k=!xs.isEmpty)∨(∃ xs,SqT K H p xs∧k=!xs.isEmpty)∨∃ kvs,H p=some (.dK kvs)∧k=!kvs.isEmpty
 | _=>False
theorem Zfv {κ:Type} {kvs:List (κ×V)} {vs:List (κ×Value)} (r:KV kvs vs):(!vs.isEmpty)=!kvs.isEmpty:=by
 cases r <;> rfl
theorem Zag {xs:List V} {its:List Value} (r:Vals xs its):(!its.toArray.isEmpty)=!xs.isEmpty:=by
 cases r <;> simp
theorem WF:(sizeLine:Nat) < 2 ^ 63:=by rw [sizeLine_eq];decide
theorem ZlN:TruR X (fun x H Q=>∃ k,TruV X.K x H k∧Q k H):=by
 intro pins s σ H x v Q I rx h
 obtain ⟨k,e,q⟩:=h
 have hl:=WF
 have hs:sizeLine=16777216:=sizeLine_eq
 cases x with
 | non =>
   cases rx
   have e':k=false:=e
   subst e'
   exact truthy_none ⟨H,I,q⟩
 | bl b =>
   cases rx
   have e':k=b:=e
   subst e'
   exact wpAny_truthy_bool ⟨H,I,q⟩
 | int i =>
   obtain ⟨t,rfl⟩:=rx
   have e':k=(i != 0):=e
   subst e'
   exact PySem.P.truthy_int ⟨H,I,q⟩
 | str y =>
   obtain ⟨t,rfl⟩:=rx
   obtain ⟨hy,e'⟩:y.length≤sizeLine∧k=((y.length:Int) != 0):=e
   subst e'
   exact PySem.P.truthy_str (by omega) ⟨H,I.tok _,q⟩
 | byt y =>
   obtain ⟨t,rfl⟩:=rx
   obtain ⟨hy,e'⟩:y.size≤sizeLine∧k=((y.size:Int) != 0):=e
   subst e'
   exact PySem.W.truthy_bytes (by omega) ⟨H,I.tok _,q⟩
 | ref p =>
   cases rx
   have e':(∃ xs,SqL X.K H p xs∧k=!xs.isEmpty)∨(∃ xs,SqT X.K H p xs∧k=!xs.isEmpty)∨∃ kvs,H p=some (.dK kvs)∧k=!kvs.isEmpty:=e
   rcases e' with ⟨xs,hx,e'⟩ | ⟨xs,hx,e'⟩ | ⟨kvs,hx,e'⟩
   · subst e'
     obtain ⟨its,r,pl,hz⟩:=I.list hx
     have hlen:=r.length
     exact wpAny_truthy_list pl.isList (by simp only [List.size_toArray];omega) ⟨H,I.tok _,by rw [Zag r];exact q⟩
   · subst e'
     obtain ⟨its,r,pl,hz⟩:=I.tuple hx
     have hlen:=r.length
     exact truthy_tuple pl (by simp only [List.size_toArray];omega) ⟨H,I.tok _,by rw [Zag r];exact q⟩
   · subst e'
     obtain ⟨hz,hS,vs,r,m⟩:kvs.length≤sizeLine∧(p == sysModules)=false∧∃ vs,KV kvs vs∧s.heap.DictOf (Zu X.prog X.w) p vs:=I.hok p _ hx
     have hlen:kvs.length=vs.length:=Paired.length r
     exact wpAny_truthy_dict hS m (by omega) ⟨H,I.tok _,by rw [Zfv r];exact q⟩
 | _=>exact (show False from e).elim
theorem UB (ha:PE X a ta) (he:∀ whole,isTrue a X.env whole=(do let v ← whole;standAt a.pos;holding [v] (truthy v))) :
   PT X a (fun σ H Q=>ta σ H fun x H'=>∃ k,TruV X.K x H' k∧Q k H'):=by
 intro pins s σ H Q I h
 exact isTrue_plain (Zm (ha pins s σ H _ I h) fun v s1 ⟨x,H1,I1,r1,q1⟩=>ZlN pins s1 σ H1 x v Q I1 r1 q1) (he _)
theorem XO:Xc X (binaryOp .Add) (fun x y H Q=>∃ i j,x=.str i∧y=.str j∧i.length+j.length≤sizeLine∧Q (.str (i++j)) H):=by
 intro pins s σ H x y v u Q I rx ry h
 obtain ⟨i,j,rfl,rfl,hz,q⟩:=h
 obtain ⟨t,rfl⟩:=rx
 obtain ⟨t',rfl⟩:=ry
 exact add_str (fun t' tk=>⟨.str (i++j),H,I.tok _,⟨_,rfl⟩,q⟩) hz
theorem Yr {x:V} {us:List Value} (r:Vals [x] us):∃ u,us=[u]∧RelV x u:=by
 cases r with
 | cons r1 r2=>cases r2;exact ⟨_,rfl,r1⟩
theorem Zad {x y:V} {us:List Value} (r:Vals [x,y] us):∃ u w',us=[u,w']∧RelV x u∧RelV y w':=by
 cases r with
 | cons r1 r2 =>
   cases r2 with
   | cons r3 r4=>cases r4;exact ⟨_,_,rfl,r1,r3⟩
theorem Zcl:Yv X (.builtin "abs") (fun xs H Q=>∃ i,xs=[.int i]∧Q (.int (if i < 0 then -i else i)) H):=by
 intro pins s σ H xs us Q I r h
 obtain ⟨i,rfl,q⟩:=h
 obtain ⟨u,rfl,t,rfl⟩:=Yr r
 exact call_abs_int fun u tk=>⟨.int (if i < 0 then -i else i),H,I.tok _,⟨_,rfl⟩,q⟩
theorem ZfR (hc:X.calm=true):Yv X (.builtin "max") (fun xs H Q=>∃ i j,xs=[.int i,.int j]∧Q (.int (if j > i then j else i)) H):=by
 intro pins s σ H xs us Q I r h
 obtain ⟨i,j,rfl,q⟩:=h
 obtain ⟨u,w',rfl,⟨t,rfl⟩,⟨t',rfl⟩⟩:=Zad r
 refine max_two_ints (I.ok.hd hc) fun h' tk k=>⟨_,H,I.kept k,?_,q⟩
 by_cases hj:j > i
 · rw [if_pos hj,if_pos hj];exact ⟨_,rfl⟩
 · rw [if_neg hj,if_neg hj];exact ⟨_,rfl⟩
theorem Zgs (hc:X.calm=true):Yv X (.builtin "min") (fun xs H Q=>∃ i j,xs=[.int i,.int j]∧Q (.int (if j < i then j else i)) H):=by
 intro pins s σ H xs us Q I r h
 obtain ⟨i,j,rfl,q⟩:=h
 obtain ⟨u,w',rfl,⟨t,rfl⟩,⟨t',rfl⟩⟩:=Zad r
 refine min_two_ints (I.ok.hd hc) fun h' tk k=>⟨_,H,I.kept k,?_,q⟩
 by_cases hj:j < i
 · rw [if_pos hj,if_pos hj];exact ⟨_,rfl⟩
 · rw [if_neg hj,if_neg hj];exact ⟨_,rfl⟩
theorem UV:Yv X (.type "int") (fun xs H Q=>(∃ i,xs=[.int i]∧Q (.int i) H)∨∃ k,xs=[.bl k]∧Q (.int (if k then 1 else 0)) H):=by
 intro pins s σ H xs us Q I r h
 rcases h with ⟨i,rfl,q⟩ | ⟨k,rfl,q⟩
 · obtain ⟨u,rfl,t,rfl⟩:=Yr r
   exact call_int_int ⟨.int i,H,I,⟨_,rfl⟩,q⟩
 · obtain ⟨u,rfl,r1⟩:=Yr r
   cases r1
   exact call_int_bool ⟨.int (if k then 1 else 0),H,I.tok _,⟨_,rfl⟩,q⟩
theorem Zce:Yv X (.builtin "ord") (fun xs H Q=>∃ x,xs=[.str x]∧x.length=1∧Q (.int (x.cps.getD 0 0:Nat)) H):=by
 intro pins s σ H xs us Q I r h
 obtain ⟨x,rfl,hz,q⟩:=h
 obtain ⟨u,rfl,t,rfl⟩:=Yr r
 exact ord_of_one hz ⟨.int _,H,I.tok _,⟨_,rfl⟩,q⟩
def Zhk (K:PySem.W.Frag) (x:V) (H:Hp) (n:Nat):Prop :=
 match x with
 | .str y=>y.length≤sizeLine∧n=y.length
 | .byt y=>y.size≤sizeLine∧n=y.size
 | .ref p=>(∃ xs,SqL K H p xs∧n=xs.length)∨∃ xs,SqT K H p xs∧n=xs.length
 | _=>False
theorem ZhS:Yv X (.builtin "len") (fun xs H Q=>∃ x n,xs=[x]∧Zhk X.K x H n∧Q (.int n) H):=by
 intro pins s σ H xs us Q I r h
 obtain ⟨x,n,rfl,e,q⟩:=h
 obtain ⟨u,rfl,rx⟩:=Yr r
 have hl:=WF
 have hs:sizeLine=16777216:=sizeLine_eq
 cases x with
 | str y =>
   obtain ⟨t,rfl⟩:=rx
   obtain ⟨hy,e'⟩:y.length≤sizeLine∧n=y.length:=e
   subst e'
   exact len_str (by omega) ⟨.int _,H,I.tok _,⟨_,rfl⟩,q⟩
 | byt y =>
   obtain ⟨t,rfl⟩:=rx
   obtain ⟨hy,e'⟩:y.size≤sizeLine∧n=y.size:=e
   subst e'
   exact PySem.W.len_bytes (by omega) ⟨.int _,H,I.tok _,⟨_,rfl⟩,q⟩
 | ref p =>
   cases rx
   have e':(∃ xs,SqL X.K H p xs∧n=xs.length)∨∃ xs,SqT X.K H p xs∧n=xs.length:=e
   rcases e' with ⟨xs,hx,e'⟩ | ⟨xs,hx,e'⟩
   · subst e'
     obtain ⟨its,r',pl,hz⟩:=I.list hx
     have hlen:=r'.length
     exact Calls.call_len_list pl.isList (by simp only [List.size_toArray];omega) ⟨.int xs.length,H,I.tok _,⟨_,by simp only [List.size_toArray];rw [hlen]⟩,q⟩
   · subst e'
     obtain ⟨its,r',pl,hz⟩:=I.tuple hx
     have hlen:=r'.length
     exact len_tuple pl (by simp only [List.size_toArray];omega) ⟨.int xs.length,H,I.tok _,⟨_,by simp only [List.size_toArray];rw [hlen]⟩,q⟩
 | _=>exact (show False from e).elim
theorem Zdx:Yv X (.builtin "divmod") (fun xs H Q=>∃ i j,xs=[.int i,.int j]∧CDiv i j∧∀ p,H p=none→Q (.ref p) (upd H p (.tup [.int (i / j),.int (i % j)]))):=by
 intro pins s σ H xs us Q I r h
 obtain ⟨i,j,rfl,⟨h1,h2⟩,q⟩:=h
 obtain ⟨u,w',rfl,⟨t,rfl⟩,⟨t',rfl⟩⟩:=Zad r
 refine divmod_int (by omega) ?_ (.inl (PyProof.noPylong_small (by omega)))
 rw [Int.fdiv_eq_ediv_of_nonneg i (by omega),Int.fmod_eq_emod_of_nonneg i (by omega)]
 have hn:H s.heap.objs.size=none:=I.hok.fresh (Nat.le_refl _)
 refine ⟨.ref s.heap.objs.size,_,?_,rfl,q _ hn⟩
 refine I.laid (fun b o e=>Heap.get?_push_of_some _ e) (Nat.le_refl _) ⟨by simp only [List.length_cons,List.length_nil];rw [sizeLine_eq];decide,[.int (i / j) s.toks,.int (i % j) (s.toks+1)],.cons ⟨_,rfl⟩ (.cons ⟨_,rfl⟩ .nil),?_⟩
 exact ⟨_,Heap.get?_push_size s.heap rfl,rfl,0,rfl⟩
end
end L2
namespace L2
open PySem PySem.Spec PyProof.Rows
structure ObjM (h:Heap) (x dx C:Addr) (mA:Str→Option Value):Prop where
 obj:h.get? x=some (PySem.W.instObj C dx)
 ns:h.Ns1 dx mA
 ne:dx≠x
theorem ZfP {h:Heap} {dx:Addr} {mA:Str→Option Value} (n:h.Ns1 dx mA):∃ od,h.get? dx=some od∧∀ name,PySem.W.lookIn name od=some (mA name):=by
 obtain ⟨o,es,ep,ho,hd,hk,_,hm⟩:=n
 refine ⟨o,ho,fun name=>?_⟩
 have e:=hm name
 unfold nsFind findBy at e
 rw [← Array.find?_toList] at e
 unfold PySem.W.lookIn
 rw [hd]
 dsimp only
 split
 · rename_i y q
   rw [q] at e
   exact congrArg some e
 · rename_i q
   rw [q] at e
   have a:es.toList.any (·.refKey)=false:=by
     rw [List.any_eq_false]
     intro y hy
     obtain ⟨z,t,hkey⟩:=hk y (Array.mem_toList_iff.mp hy)
     simp [DictEntry.refKey,hkey]
   have a':¬ es.toList.any (·.refKey)=true:=by rw [a];exact Bool.false_ne_true
   rw [if_neg a']
   exact congrArg some e
theorem ObjM.look {h:Heap} {x dx C:Addr} {mA:Str→Option Value} (I:ObjM h x dx C mA):∃ od,PySem.W.InstAt h x (PySem.W.instObj C dx) C (some od)∧∀ name,PySem.W.lookIn name od=some (mA name) :=
 let ⟨od,ho,hl⟩:=ZfP I.ns
 ⟨od,⟨I.obj,rfl,rfl,ho⟩,hl⟩
section
variable {prog:Program} {w:World} {A:Around} {E:Value→Shared→Prop} {s:Shared} {K:PySem.W.Frag} {x dx C f:Addr} {mA:Str→Option Value} {name:Str} {v:Value}
theorem ZjX {expr:Bool} {Q:Value→Shared→Prop} (X:K.In s.heap) (I:ObjM s.heap x dx C mA) (hg:PySem.W.plainGet K C name=true) (hh:PySem.W.hasDictIn K C=true)
   (ha:PySem.W.findIn K (.ref C) name=some none) (hv:mA name=some v) (hv':PySem.W.handedIn v=true) (h:Q v { s with toks:=s.toks+1 }) :
   wpAny (model prog w) A (getAttr (.ref x) name expr) Q E s:=by
 obtain ⟨od,J,hl⟩:=I.look
 exact PySem.W.get_value X J (PySem.W.plainGet_of hg).1 (PySem.W.findObj_own hh ha rfl (by rw [hl,hv])) hv' h
theorem Zhd {pl:Sem Bool} {Q:Value×List Value→Shared→Prop} (X:K.In s.heap) (I:ObjM s.heap x dx C mA) (hg:PySem.W.plainGet K C name=true)
   (hf:PySem.W.findIn K (.ref C) name=some (some (.ref f))) (ht:PySem.W.isFn K (.ref f)=true) (hv:mA name=none) (h:Q (.ref f,[.ref x]) s) :
   wpAny (model prog w) A (getMethod (.ref x) name pl) Q E s:=by
 obtain ⟨od,J,hl⟩:=I.look
 exact PySem.W.method_fn X J (PySem.W.plainGet_of hg).1 (PySem.W.plainGet_of hg).2 hf (beq_iff_eq.mp ht) (by show (PySem.W.lookIn name od).map (·.isSome)=some false;rw [hl,hv];rfl) h
theorem ZjU {ns:List Str} {Q:Unit→Shared→Prop} (X:K.In s.heap) (I:ObjM s.heap x dx C mA)
   (hs:PySem.W.findIn K (.ref C) "__setattr__"=some (some (.builtin "object.__setattr__"))) (hp:PySem.W.plainOver K C=true) (ht:PySem.W.takerIn K C name=some none) (hh:PySem.W.hasDictIn K C=true)
   (hw:PySem.Within mA ns) (hsz:ns.length≤sizeLine)
   (h:∀ h',ObjM h' x dx C (fun y=>if y=name then some v else mA y)→Heap.SameBut dx s.heap h'→Q () { s with heap:=h',toks:=s.toks+2 }) :
   wpAny (model prog w) A (setAttr (.ref x) name v) Q E s:=by
 obtain ⟨od,J,hl⟩:=I.look
 refine PySem.W.set_plain X J hs (PySem.W.osa_open (s:={ s with toks:=s.toks+1 }) (r:=none) X J hp ht fun b=>?_)
 obtain ⟨cd,hc,hd'⟩:=PySem.W.any_some hh
 have hx:s.heap.get? x=some ⟨.ref C,some dx,.plain,#[]⟩:=I.obj
 refine wpAny_bind (wpAny_pure (wpAny_bind (wpAny_bind (wpAny_loadPart hx (wpAny_bind (PySem.W.Looks.here (s:={ s with toks:=s.toks+1 }) (PySem.W.looks_clsIn X hc) ?_))))))
 rw [hd']
 refine wpAny_pure (a:=some dx) (wpAny_bind (wpAny_pure (wpAny_bind ?_)))
 refine wpAny_nsSet1 (s:={ s with toks:=s.toks+1 }) I.ns fun h' hn2 hs2=>?_
 obtain ⟨oD,esD,epD,hoD,hdD,hcD⟩:=hn2.count (PySem.Within.cons name v hw)
 refine wpAny_bind (wpAny_lookBehind hoD (by rw [hdD];exact pastItsLine_dict (Nat.le_trans hcD (by rw [List.length_cons];omega))) ?_)
 exact wpAny_pure (h _ ⟨(hs2.2 _ (Ne.symm I.ne)).trans I.obj,hn2,I.ne⟩ hs2)
theorem ZgY {R:Result→Shared→Prop} {vs:List Value} {kw:List (Str×Value)} (X:K.In s.heap) (hm:PySem.W.makesIn K C=true)
   (hi:PySem.W.findIn K (.ref C) "__init__"=some (some (.ref f))) (hf:PySem.W.typeIn K (.ref f)=some (.type "function"))
   (h:codeAny (model prog w) (A.under (.builtin "type.__call__" ⟨.ref C::vs,kw⟩)) (.call (.ref f) ⟨.ref (s.heap.objs.size+1)::vs,kw⟩) (PySem.W.InitBack (s.heap.objs.size+1) R)
     { s with heap:=(s.heap.push PySem.W.emptyDict).push (PySem.W.instObj C s.heap.objs.size) }) :
   codeAny (model prog w) A (.call (.ref C) ⟨vs,kw⟩) R s:=by
 obtain ⟨hh,g,d,t,os⟩:=s
 exact PySem.W.make_core (PySem.W.makes_of X hm) (PySem.W.looks_findIn X hi) (fun self=>PySem.W.bind_fn X self hf) (.inl rfl) h
end
def Xl (f:Str) (v:V):List (Str×V)→List (Str×V)
 | []=>[(f,v)]
 | (g,x)::r=>if g=f then (g,v)::r else (g,x)::Xl f v r
theorem YX (f g:Str) (v:V):∀ fs:List (Str×V),(Xl f v fs).lookup g=if g=f then some v else fs.lookup g
 | []=>by
   show List.lookup g [(f,v)]=_
   by_cases h:g=f
   · have hb:(g == f)=true:=beq_iff_eq.mpr h
     simp only [List.lookup,hb,if_pos h]
   · have hb:(g == f)=false:=beq_eq_false_iff_ne.mpr h
     simp only [List.lookup,hb,if_neg h]
 | (k, x)::r=>by
   have ih:=YX f g v r
   rw [show Xl f v ((k,x)::r)=(if k=f then (k,v)::r else (k,x)::Xl f v r) from rfl]
   by_cases hk:k=f
   · rw [if_pos hk]
     by_cases h:g=k
     · have hb:(g == k)=true:=beq_iff_eq.mpr h
       simp only [List.lookup,hb,if_pos (h.trans hk)]
     · have hb:(g == k)=false:=beq_eq_false_iff_ne.mpr h
       simp only [List.lookup,hb,if_neg (fun e:g=f=>h (e.trans hk.symm))]
   · rw [if_neg hk]
     by_cases h:g=k
     · have hb:(g == k)=true:=beq_iff_eq.mpr h
       simp only [List.lookup,hb,if_neg (fun e:g=f=>hk (h.symm.trans e))]
     · have hb:(g == k)=false:=beq_eq_false_iff_ne.mpr h
       simp only [List.lookup,hb]
       exact ih
theorem UW (f:Str) (v:V):∀ fs:List (Str×V),f∈(Xl f v fs).map (·.1)∧∀ g,g∈fs.map (·.1)→g∈(Xl f v fs).map (·.1)
 | []=>⟨by simp [Xl],fun g h=>by simp at h⟩
 | (k, x)::r=>by
   obtain ⟨i1,i2⟩:=UW f v r
   rw [show Xl f v ((k,x)::r)=(if k=f then (k,v)::r else (k,x)::Xl f v r) from rfl]
   by_cases hk:k=f
   · rw [if_pos hk]
     subst hk
     exact ⟨by simp,fun g h=>by simpa using h⟩
   · rw [if_neg hk]
     refine ⟨?_,fun g h=>?_⟩
     · rw [List.map_cons]
       exact List.mem_cons_of_mem _ i1
     · rw [List.map_cons] at h ⊢
       rcases List.mem_cons.mp h with e | e
       · exact List.mem_cons.mpr (.inl e)
       · exact List.mem_cons_of_mem _ (i2 g e)
theorem VB (f:Str) (v:V):∀ fs:List (Str×V),(Xl f v fs).length≤fs.length+1
 | []=>by simp [Xl]
 | (k,x)::r=>by
   have ih:=VB f v r
   rw [show Xl f v ((k,x)::r)=(if k=f then (k,v)::r else (k,x)::Xl f v r) from rfl]
   by_cases hk:k=f
   · rw [if_pos hk,List.length_cons,List.length_cons];omega
   · rw [if_neg hk,List.length_cons,List.length_cons];omega
theorem RelO.some_of {v:V} {o:Option Value} (r:RelO (some v) o):∃ u,o=some u∧RelV v u:=by
 cases o with
 | none=>exact (show False from r).elim
 | some u=>exact ⟨u,rfl,r⟩
theorem RelO.none_of {o:Option Value} (r:RelO none o):o=none:=by
 cases o with
 | none=>rfl
 | some u=>exact (show False from r).elim
theorem Zfx {v:V} {u:Value} (r:RelV v u):PySem.W.handedIn u=true:=by
 cases v with
 | non=>cases (show u=Value.none from r);rfl
 | bl b=>cases (show u=Value.bool b from r);rfl
 | int i=>obtain ⟨t,e⟩:=(show ∃ t,u=Value.int i t from r);cases e;rfl
 | str x=>obtain ⟨t,e⟩:=(show ∃ t,u=Value.str x t from r);cases e;rfl
 | byt b=>obtain ⟨t,e⟩:=(show ∃ t,u=Value.bytes b t from r);cases e;rfl
 | flt b=>obtain ⟨t,e⟩:=(show ∃ t,u=Value.float b t from r);cases e;rfl
 | ref a=>cases (show u=Value.ref a from r);rfl
 | ty n=>cases (show u=Value.type n from r);rfl
section
variable {P:Program} {w:World} {H H':Hp} {h h':Heap} {a C dx:Addr} {fs fs':List (Str×V)}
theorem Vx (hok:HOk P w H h) (e:H a=some (.ins C dx fs)):∃ mA,ObjM h a dx C mA∧(∀ f,RelO (fs.lookup f) (mA f))∧PySem.Within mA (fs.map (·.1))∧fs.length≤1000∧H dx=some (.own a):=by
 obtain ⟨d,z,ne,ob,mA,n,r,q⟩:=(show ObjOk P w H h a (.ins C dx fs) from hok a _ e)
 exact ⟨mA,⟨ob,n,ne⟩,r,q,z,d⟩
end
structure Cls (K:PySem.W.Frag) (C:Addr):Prop where
 pg:PySem.W.plainGet K C Str.empty=true
 hd:PySem.W.hasDictIn K C=true
 po:PySem.W.plainOver K C=true
 sa:PySem.W.findIn K (.ref C) "__setattr__"=some (some (.builtin "object.__setattr__"))
theorem Cls.get {K:PySem.W.Frag} {C:Addr} (c:Cls K C) (f:Str):PySem.W.plainGet K C f=true:=c.pg
def NoAttr (K:PySem.W.Frag) (C:Addr) (f:Str):Prop:=PySem.W.findIn K (.ref C) f=some none
theorem NoAttr.taker {K:PySem.W.Frag} {C:Addr} {f:Str} (n:NoAttr K C f):PySem.W.takerIn K C f=some none:=by
 unfold PySem.W.takerIn
 rw [show PySem.W.findIn K (.ref C) f=some none from n]
 rfl
structure Con (K:PySem.W.Frag) (C:Addr) (f:Str) (v:V) (u:Value):Prop where
 at_:PySem.W.findIn K (.ref C) f=some (some u)
 rel:RelV v u
 get:PySem.W.specialIn K u "__get__"=some none
 cp:PySem.W.copiedNames.contains f=false
structure Vh (K:PySem.W.Frag) (C:Addr) (m:Str) (f:Addr):Prop where
 at_:PySem.W.findIn K (.ref C) m=some (some (.ref f))
 fn:PySem.W.isFn K (.ref f)=true
 kp:PySem.W.keepIn K (.ref f)=true
section
variable {X:Cx} {pins:List (Addr×Obj)} {σ:St} {H:Hp} {s:Shared} {a C dx:Addr} {fs:List (Str×V)} {f:Str} {v:V} {A:Around} {E:Value→Shared→Prop}
theorem Zfb {b:Bool} {Q:Value→Shared→Prop} (I:Inv X pins σ H s) (e:H a=some (.ins C dx fs)) (c:Cls X.K C) (n:NoAttr X.K C f) (l:fs.lookup f=some v)
   (h:∀ u s',Inv X pins σ H s'→RelV v u→Q u s'):wpAny (model X.prog X.w) A (getAttr (.ref a) f b) Q E s:=by
 obtain ⟨mA,O,r,_,_,_⟩:=Vx I.hok e
 obtain ⟨u,hu,ru⟩:=RelO.some_of (v:=v) (o:=mA f) (by rw [← l];exact r f)
 exact ZjX I.kIn O (c.get f) c.hd n hu (Zfx ru) (h u _ (I.tok _) ru)
theorem Zau {m:Str} {g:Addr} {pl:Sem Bool} {Q:Value×List Value→Shared→Prop} (I:Inv X pins σ H s) (e:H a=some (.ins C dx fs)) (c:Cls X.K C) (k:Vh X.K C m g) (l:fs.lookup m=none)
   (h:Q (.ref g,[.ref a]) s):wpAny (model X.prog X.w) A (getMethod (.ref a) m pl) Q E s:=by
 obtain ⟨mA,O,r,_,_,_⟩:=Vx I.hok e
 have hn:mA m=none:=RelO.none_of (by rw [← l];exact r m)
 exact Zhd I.kIn O (c.get m) k.at_ k.fn hn h
theorem ZeY {y:V} {u:Value} {Q:Unit→Shared→Prop} (I:Inv X pins σ H s) (e:H a=some (.ins C dx fs)) (c:Cls X.K C) (n:NoAttr X.K C f) (hl:fs.length < 1000) (ry:RelV y u)
   (h:∀ s',Inv X pins σ (upd H a (.ins C dx (Xl f y fs))) s'→Q () s'):wpAny (model X.prog X.w) A (setAttr (.ref a) f u) Q E s:=by
 obtain ⟨mA,O,r,wi,_,ho⟩:=Vx I.hok e
 have hz:(fs.map (·.1)).length≤sizeLine:=by rw [List.length_map,sizeLine_eq];omega
 refine ZjU I.kIn O c.sa c.po n.taker c.hd wi hz fun h' O' sb=>h _ ?_
 have hd:∃ o,h'.get? dx=some o:=let ⟨o,_,_,e',_⟩:=O'.ns;⟨o,e'⟩
 refine I.write (x:=a) (e:=dx) (by rw [e];exact True.intro) (.inr ho) (fun b q hb z=>(sb.2 b hb).trans z) hd ?_
 refine ⟨by rw [Zk O.ne];exact ho,?_,O.ne,O'.obj,_,O'.ns,fun g=>?_,fun g hg=>?_⟩
 · have:=VB f y fs;omega
 · show RelO ((Xl f y fs).lookup g) (if g=f then some u else mA g)
   rw [YX]
   by_cases q:g=f
   · rw [if_pos q,if_pos q];exact ry
   · rw [if_neg q,if_neg q];exact r g
 · by_cases q:g=f
   · rw [q];exact (UW f y fs).1
   · refine (UW f y fs).2 g (wi g fun z=>hg ?_)
     show (if g=f then some u else mA g)=none
     rw [if_neg q];exact z
theorem Inv.made (I:Inv X pins σ H s):Inv X pins σ (upd (upd H s.heap.objs.size (.own (s.heap.objs.size+1))) (s.heap.objs.size+1) (.ins C s.heap.objs.size []))
   { s with heap:=(s.heap.push PySem.W.emptyDict).push (PySem.W.instObj C s.heap.objs.size) }:=by
 have e1:(s.heap.push PySem.W.emptyDict).get? s.heap.objs.size=some PySem.W.emptyDict:=Heap.get?_push_size s.heap rfl
 have e2:((s.heap.push PySem.W.emptyDict).push (PySem.W.instObj C s.heap.objs.size)).get? (s.heap.objs.size+1)=some (PySem.W.instObj C s.heap.objs.size):=by
   have:=Heap.get?_push_size (s.heap.push PySem.W.emptyDict) (o:=PySem.W.instObj C s.heap.objs.size) rfl
   rwa [Heap.size_push] at this
 have e3:(s.heap.push PySem.W.emptyDict).Ns s.heap.objs.size (fun _=>none):=⟨PySem.W.emptyDict,#[],_,e1,rfl,(fun e he=>absurd he (by simp)),fun _=>rfl⟩
 have I1:=I.laid (a:=s.heap.objs.size) (o:=.own (s.heap.objs.size+1)) (h':=s.heap.push PySem.W.emptyDict) (t':=s.toks) (fun b u q=>Heap.get?_push_of_some _ q) (Nat.le_refl _) ⟨_,e1⟩
 refine I1.laid (a:=s.heap.objs.size+1) (o:=.ins C s.heap.objs.size []) (t':=s.toks) (fun b u q=>Heap.get?_push_of_some _ q) (Nat.le_of_eq (Heap.size_push _ _)) ?_
 have ne:s.heap.objs.size≠s.heap.objs.size+1:=Nat.ne_of_lt (Nat.lt_succ_self _)
 refine ⟨by rw [Zk ne,Zh],Nat.zero_le _,ne,e2,fun _=>none,(Heap.Ns1.of_empty e3).at fun o q=>Heap.get?_push_of_some _ q,fun _=>True.intro,fun y hy=>absurd rfl hy⟩
theorem ZjS {prog:Program} {w:World} {env:Env} {e:Expr} {f:Str} {pos:Pos} {s:Shared} {Q:Value→Shared→Prop} (hb:attributeBase e f env (eval e env)=eval e env)
   (h:wpAny (model prog w) A (eval e env) (fun o s₁=>wpAny (model prog w) A (getAttr o f true) Q E s₁) E s):wpAny (model prog w) A (eval (.Attribute e f pos) env) Q E s :=
 Attribute_any_ h (by rw [arm_eval_Attribute,hb])
end
def tFld (K:PySem.W.Frag) (ta:TE) (f:Str):TE:=fun σ H Q=>ta σ H fun x H1=>∃ a C dx fs v,x=.ref a∧H1 a=some (.ins C dx fs)∧Cls K C∧NoAttr K C f∧fs.lookup f=some v∧Q v H1
def sFld (K:PySem.W.Frag) (ta tv:TE) (f:Str):TS:=fun D σ H=>tv σ H fun y H1=>ta σ H1 fun x H2=>∃ a C dx fs,x=.ref a∧H2 a=some (.ins C dx fs)∧Cls K C∧NoAttr K C f∧fs.length < 1000 ∧
 D.nx σ (upd H2 a (.ins C dx (Xl f y fs)))
section
variable {X:Cx} {o e value:Expr} {f:Str} {pos pos' tpos:Pos} {ta tv:TE}
theorem ZU (he:PE X e ta) (hb:attributeBase e f X.env (eval e X.env)=eval e X.env):PE X (.Attribute e f pos) (tFld X.K ta f):=by
 intro pins s σ H Q I h
 refine ZjS hb (Zm (he pins s σ H _ I h) fun u s1 ⟨x,H1,I1,rx,a,C,dx,fs,v,ex,ea,c,n,l,q⟩=>?_)
 subst ex
 obtain rfl:u=Value.ref a:=rx
 exact Zfb I1 ea c n l fun u' s2 I2 ru=>⟨v,H1,I2,ru,q⟩
theorem WB (ha:PE X o ta) (hv:PE X value tv) (hs:swapsWith value (some (.Attribute o f pos')) pos.line X.env=pure false):PS X (.Assign [.Attribute o f pos'] value pos) (sFld X.K ta tv f):=by
 intro pins s σ H D I h
 refine plainObj_wpAny_Assign_Attribute (Zm (hv pins s σ H _ I h) fun u s1 ⟨y,H1,I1,ry,q⟩=>Zm (ha pins s1 σ H1 _ I1 q) fun ov s2 ⟨x,H2,I2,rx,a,C,dx,fs,ex,ea,c,n,l,q2⟩=>?_) hs
 subst ex
 obtain rfl:ov=Value.ref a:=rx
 exact ZeY I2 ea c n l ry fun s3 I3=>⟨σ,_,I3,q2⟩
end
section
variable {X:Cx} {pins:List (Addr×Obj)} {σ:St} {H:Hp} {s:Shared} {A:Around} {E:Value→Shared→Prop} {Q:Value→Shared→Prop} {c:Value} {b:Bool}
inductive XX (K:PySem.W.Frag) (H:Hp):V→Value→Prop where
 | non:XX K H .non (.type "NoneType")
 | bl (x:Bool):XX K H (.bl x) (.type "bool")
 | int (i:Int):XX K H (.int i) (.type "int")
 | str (x:Str):XX K H (.str x) (.type "str")
 | flt (x:UInt64):XX K H (.flt x) (.type "float")
 | lst {a:Addr} {xs:List V} (e:H a=some (.lst xs)):XX K H (.ref a) (.type "list")
 | frz {a:Addr} {o:Obj} {xs:List V} (e:H a=some (.frz o (.lst xs))):XX K H (.ref a) (.type "list")
 | tup {a:Addr} {xs:List V} (e:H a=some (.tup xs)):XX K H (.ref a) (.type "tuple")
 | dK {a:Addr} {kvs:List (Zj×V)} (e:H a=some (.dK kvs)):XX K H (.ref a) (.type "dict")
 | dT {a:Addr} {kvs:List (List Zj×V)} (e:H a=some (.dT kvs)):XX K H (.ref a) (.type "dict")
 | ins {a C dx:Addr} {fs:List (Str×V)} (e:H a=some (.ins C dx fs)) (cl:Cls K C) (ha:PySem.W.findIn K (.ref C) "__class__"=some (some (.builtin "object.__class__")))
     (hn:PySem.W.specialIn K (.builtin "object.__class__") "__get__"=some (some (.builtin "getset_descriptor.__get__"))) (htk:PySem.W.takesIn K (.builtin "object.__class__")=some true)
     (hm:PySem.W.mroIn K C (.type "object")=some true):XX K H (.ref a) (.ref C)
theorem Zgv {x:V} {u t:Value} (I:Inv X pins σ H s) (rx:RelV x u) (ty:XX X.K H x t) (e:PySem.W.kitOne X.K t c=some b) (h:∀ tk,Q (.bool b) { s with toks:=tk }) :
   wpAny (model X.prog X.w) A (call (.builtin "isinstance") [u,c]) Q E s:=by
 cases ty with
 | non=>cases (show u=Value.none from rx);exact PySem.W.kia_one PySem.W.kitx_none I.kIn True.intro e (fun z=>nomatch z) h
 | bl y=>cases (show u=Value.bool y from rx);exact PySem.W.kia_one PySem.W.kitx_bool I.kIn True.intro e (fun z=>nomatch z) h
 | int i=>obtain ⟨t,q⟩:=(show ∃ t,u=Value.int i t from rx);cases q;exact PySem.W.kia_one PySem.W.kitx_int I.kIn True.intro e (fun z=>nomatch z) h
 | str y=>obtain ⟨t,q⟩:=(show ∃ t,u=Value.str y t from rx);cases q;exact PySem.W.kia_one PySem.W.kitx_str I.kIn True.intro e (fun z=>nomatch z) h
 | flt y=>obtain ⟨t,q⟩:=(show ∃ t,u=Value.float y t from rx);cases q;exact PySem.W.kia_one PySem.W.kitx_float I.kIn True.intro e (fun z=>nomatch z) h
 | @lst a xs ea =>
   cases (show u=Value.ref a from rx)
   obtain ⟨_,_,n,_,h1⟩:=(show ObjOk X.prog X.w H s.heap a (.lst xs) from I.hok a _ ea)
   exact PySem.W.kia_one PySem.W.kitx_list I.kIn ⟨_,h1,rfl⟩ e (fun z=>nomatch z) h
 | @frz a ob xs ea =>
   cases (show u=Value.ref a from rx)
   obtain ⟨_,_,_,n,_,h1⟩:=(show ObjOk X.prog X.w H s.heap a (.frz ob (.lst xs)) from I.hok a _ ea)
   exact PySem.W.kia_one PySem.W.kitx_list I.kIn ⟨_,h1,rfl⟩ e (fun z=>nomatch z) h
 | @tup a xs ea =>
   cases (show u=Value.ref a from rx)
   obtain ⟨_,_,_,p⟩:=(show ObjOk X.prog X.w H s.heap a (.tup xs) from I.hok a _ ea)
   obtain ⟨o,h1,h2,_⟩:=p
   exact PySem.W.kia_one PySem.W.kitx_tuple I.kIn ⟨o,h1,h2⟩ e (fun z=>nomatch z) h
 | @dK a kvs ea =>
   cases (show u=Value.ref a from rx)
   obtain ⟨_,_,vs,_,p⟩:=(show ObjOk X.prog X.w H s.heap a (.dK kvs) from I.hok a _ ea)
   obtain ⟨o,es,ep,h1,h2,_⟩:=p
   exact PySem.W.kia_one PySem.W.kitx_dict I.kIn ⟨o,h1,h2.1⟩ e (fun z=>nomatch z) h
 | @dT a kvs ea =>
   cases (show u=Value.ref a from rx)
   obtain ⟨_,_,xs,_,o,es,ep,h1,h2,_⟩:=(show ObjOk X.prog X.w H s.heap a (.dT kvs) from I.hok a _ ea)
   exact PySem.W.kia_one PySem.W.kitx_dict I.kIn ⟨o,h1,h2.1⟩ e (fun z=>nomatch z) h
 | @ins a C dx fs ea cl ha hn htk hm =>
   cases (show u=Value.ref a from rx)
   obtain ⟨mA,O,_⟩:=Vx I.hok ea
   obtain ⟨od,J,_⟩:=O.look
   exact PySem.W.kia_one (PySem.W.kitx_own (cl.get _) cl.hd ha hn htk hm) I.kIn J e (fun z=>nomatch z) h
end
end L2
namespace L2
open PySem PySem.Spec PyProof.Rows
structure Room (k:Nat) (A:Around):Prop where
 hd:A.handled=none
 dp:A.depth+3 * k+5 < recursionLimit
 un:A.units+16 * k+200 < cLine
 gd:A.guards=some []
theorem Room.mono {j k:Nat} {A:Around} (r:Room k A) (h:j≤k):Room j A:=⟨r.hd,by have:=r.dp;omega,by have:=r.un;omega,r.gd⟩
theorem Room.deeper {k:Nat} {A:Around} (r:Room (k+1) A) (env:Env):Room k (A.deeper env) :=
 ⟨r.hd,by have:=r.dp;show A.depth+1+3 * k+5 < _;omega,by have:=r.un;show A.units+3+16 * k+200 < _;omega,r.gd⟩
theorem ZeV {A:Around} {C:Addr} {us:List Value} {kw:List (Str×Value)}:(A.under (.builtin "type.__call__" ⟨.ref C::us,kw⟩)).depth=A.depth+1:=by
 first | rfl | simp [Around.under,Code.weight,Code.isCreation,Code.isGuard,Code.isCaller,Code.frames,Code.isFrame,guardIds]
theorem Zfq {A:Around} {C:Addr} {us:List Value} {kw:List (Str×Value)}:(A.under (.builtin "type.__call__" ⟨.ref C::us,kw⟩)).units=A.units+1:=by
 first | rfl | simp [Around.under,Code.cUnits,Code.frames,Code.isFrame]
theorem Room.make {k:Nat} {A:Around} (r:Room (k+1) A) (C:Addr) (us:List Value) (kw:List (Str×Value)):Room k (A.under (.builtin "type.__call__" ⟨.ref C::us,kw⟩)) :=
 ⟨r.hd,by have:=r.dp;rw [ZeV];omega,by have:=r.un;rw [Zfq];omega,by first | exact r.gd | simpa [Around.under,Code.isGuard,guardIds] using r.gd⟩
theorem Room.depth {k:Nat} {A:Around} (r:Room k A):A.depth < recursionLimit:=by have:=r.dp;omega
theorem Room.units {k:Nat} {A:Around} (r:Room k A):A.units+64 < cLine:=by have:=r.un;omega
def XE:TA:=fun _ H Q=>Q [] H
def Xe (ta:TE) (tr:TA):TA:=fun σ H Q=>ta σ H fun x H1=>tr σ H1 fun xs H2=>Q (x::xs) H2
section
variable {X:Cx} {e:Expr} {es:List Expr} {te:TE} {t:TA} {pos:Pos}
theorem Za:PA X [] XE:=fun _ _ _ _ H Q I h=>Calls.spliced_nil ⟨[],H,I,.nil,h⟩
theorem Yw (ha:PE X e te) (hr:PA X es t) (hs:starEach (e::es) X.env=(false,eval e X.env)::starEach es X.env:=by rfl):PA X (e::es) (Xe te t):=by
 intro pos pins s σ H Q I h
 rw [hs]
 show wpAny _ _ (spliced ((false,eval e X.env)::backTo pos (starEach es X.env))) _ _ s
 refine Calls.spliced_cons (Zm (ha pins s σ H _ I h) fun u s1 ⟨x,H1,I1,r1,q1⟩=>?_)
 exact Zm (hr pos pins s1 σ H1 _ I1 q1) fun us s2 ⟨xs,H2,I2,r2,q2⟩=>⟨x::xs,H2,I2,.cons r1 r2,q2⟩
def tTup (t:TA):TE:=fun σ H Q=>t σ H fun xs H1=>xs.length≤sizeLine∧∀ p,H1 p=none→Q (.ref p) (upd H1 p (.tup xs))
def tLst (t:TA):TE:=fun σ H Q=>t σ H fun xs H1=>xs.length≤sizeLine∧∀ p,H1 p=none→Q (.ref p) (upd H1 p (.lst xs))
theorem Xa {x1} (h:PA X es t):PE X (.Tuple es x1 pos) (tTup t):=by
 intro pins s σ H Q I hq
 refine wpAny_Tuple_spliced (Zm (h pos pins s σ H _ I hq) fun us s1 ⟨xs,H1,I1,r,z,q⟩=>⟨by rw [← r.length];exact z,?_⟩)
 have hf:H1 s1.heap.objs.size=none:=I1.hok.fresh (Nat.le_refl _)
 refine ⟨.ref s1.heap.objs.size,upd H1 s1.heap.objs.size (.tup xs),I1.laid (t':=s1.toks) (fun b u e=>Heap.get?_push_of_some _ e) (Nat.le_refl _) ?_,rfl,q _ hf⟩
 exact ⟨z,us,r,⟨_,Heap.get?_push_size _ rfl,rfl,_,rfl⟩⟩
theorem Yn (h:PA X es t):PE X (.List es pos) (tLst t):=by
 intro pins s σ H Q I hq
 refine wpAny_List_spliced (Zm (h pos pins s σ H _ I hq) fun us s1 ⟨xs,H1,I1,r,z,q⟩=>⟨by rw [← r.length];exact z,?_⟩)
 have hf:H1 s1.heap.objs.size=none:=I1.hok.fresh (Nat.le_refl _)
 refine ⟨.ref s1.heap.objs.size,upd H1 s1.heap.objs.size (.lst xs),I1.laid (t':=s1.toks) (fun b u e=>Heap.get?_push_of_some _ e) (Nat.le_refl _) ?_,rfl,q _ hf⟩
 exact ⟨z,us,0,r,Heap.get?_push_size _ rfl⟩
end
abbrev Sp:=List V→Hp→VK→XK→Prop
abbrev UR:=List Env→Hp→Shared→XK→Value→Shared→Prop
structure Env0 (P:Program) (w:World) (K:PySem.W.Frag) (mg:Str→Option Value) (base:Heap) (A:Around) (outer:List Env) (s:Shared) (H:Hp):Prop where
 frames:A.frames=some outer
 mod:Mod K mg base
 bs:∀ b o,base.get? b=some o→s.heap.get? b=some o∧H b=none
 bsz:base.objs.size≤s.heap.objs.size
 funs:s.heap.FunFrames base outer
 frf:∀ b∈Vk outer,H b=none
 hok:HOk P w H s.heap
 bare:AllBare s.gens
def CE (outer:List Env) (P:Program) (w:World) (H:Hp) (s:Shared) (Q:VK) (u:Value) (s':Shared):Prop :=
 ∃ v H',s'.os=s.os∧AllBare s'.gens∧Un (Vk outer) [] H H' s.heap s'.heap∧HOk P w H' s'.heap∧RelV v u∧Q v H'
def CR (CX:UR) (outer:List Env) (P:Program) (w:World) (H:Hp) (s:Shared) (Q:VK) (E:XK) (r:Result) (s':Shared):Prop :=
 match r with
 | .ok (.ret u)=>CE outer P w H s Q u s'
 | .ok _=>False
 | .error e=>CX outer H s E e s'
structure FnOk (P:Program) (w:World) (K:PySem.W.Frag) (mg:Str→Option Value) (base:Heap) (CX:UR) (k:Nat) (f:Addr) (fd:FuncData) (ps:List Str) (sp:Sp):Prop where
 len:∀ vs H Q E,sp vs H Q E→vs.length=ps.length
 run:∀ (A:Around) (outer:List Env) (s:Shared) (H:Hp) (args:Args) (us:List Value) (vs:List V) (Q:VK) (E:XK),Room k A→Env0 P w K mg base A outer s H→BindsTo s fd args (ps.zip us)→Vals vs us→sp vs H Q E →
   codeAny (model P w) A (.call (.ref f) args) (CR CX outer P w H s Q E) s
theorem FnOk.mono {P:Program} {w:World} {K:PySem.W.Frag} {mg:Str→Option Value} {base:Heap} {CX:UR} {j k:Nat} {f:Addr} {fd:FuncData} {ps:List Str} {sp:Sp} (F:FnOk P w K mg base CX j f fd ps sp) (h:j≤k) :
 FnOk P w K mg base CX k f fd ps sp:=⟨F.len,fun A outer s H args us vs Q E hr=>F.run A outer s H args us vs Q E (hr.mono h)⟩
theorem Env0.make {P:Program} {w:World} {K:PySem.W.Frag} {mg:Str→Option Value} {base:Heap} {A:Around} {outer:List Env} {s:Shared} {H:Hp} (e:Env0 P w K mg base A outer s H) (C:Addr) (us:List Value) (kw:List (Str×Value)) :
 Env0 P w K mg base (A.under (.builtin "type.__call__" ⟨.ref C::us,kw⟩)) outer s H:=⟨by first | exact e.frames | (simpa [Around.under,Code.envs,Code.isFrame,pushEnvs] using e.frames),e.mod,e.bs,e.bsz,e.funs,e.frf,e.hok,e.bare⟩
section
variable {X:Cx} {pins:List (Addr×Obj)} {σ:St} {H:Hp} {s s':Shared}
theorem Inv.env0 (I:Inv X pins σ H s):Env0 X.prog X.w X.K X.mg X.base X.A X.stack s H :=
 ⟨I.ok.frames,I.ok.mod,I.bs,Nat.le_trans I.ok.bsz I.sz,I.stack,I.stkFree,I.hok,I.bare⟩
theorem Inv.after {Q:VK} {u:Value} (I:Inv X pins σ H s) (h:CE X.stack X.prog X.w H s Q u s'):EP X pins σ Q u s':=by
 obtain ⟨v,H',os,bare,un,hok,r,q⟩:=h
 obtain ⟨hh,g,d,t,os'⟩:=s'
 obtain rfl:os'=s.os:=os
 exact ⟨v,H',I.call (h':=hh) (g':=g) (d':=d) (t':=t) (ch:=[]) un hok bare (fun b z=>absurd z (by simp)),r,q⟩
end
def ZeZ (sp:Sp) (dvs:List V) (E:XK) (t:TA):TE:=fun σ H Q=>t σ H fun vs H1=>sp (vs++dvs) H1 Q E
def Zca (C:Addr) (m:Str) (sp:Sp) (dvs:List V) (E:XK) (ta:TE) (t:TA):TE:=fun σ H Q=>ta σ H fun x H1=>∃ a dx fs,x=.ref a∧H1 a=some (.ins C dx fs)∧fs.lookup m=none ∧
 t σ H1 fun vs H2=>sp (x::(vs++dvs)) H2 Q E
def Zjk (C:Addr) (sp:Sp) (dvs:List V) (E:XK) (t:TA):TE:=fun σ H Q=>t σ H fun vs H1=>∀ x dx,H1 x=none→H1 dx=none→dx≠x →
 sp (.ref x::(vs++dvs)) (upd (upd H1 dx (.own x)) x (.ins C dx [])) (fun v H2=>v=.non∧Q (.ref x) H2) E
def Binds (K:PySem.W.Frag) (fd:FuncData) (ps:List Str) (ds:List Value):Prop :=
 ∀ (s:Shared) (us:List Value),K.In s.heap→(us++ds).length=ps.length→BindsTo s fd ⟨us,[]⟩ (ps.zip (us++ds))
theorem Binds.all {K:PySem.W.Frag} {fd:FuncData} {ps:List Str} (h:∀ us:List Value,us.length=ps.length→bindArgs fd ⟨us,[]⟩=pure (ps.zip us)):Binds K fd ps []:=fun s us _ hl=>by
 rw [List.append_nil] at hl ⊢
 exact .of_eq (h us hl)
def WD (CX:UR) (X:Cx) (E:XK):Prop:=∀ (pins:List (Addr×Obj)) (σ:St) (H:Hp) (s:Shared) (e:Value) (s':Shared),Inv X pins σ H s→CX X.stack H s E e s'→X.xe e s'
section
variable {X:Cx} {CX:UR} {k:Nat} {f C:Addr} {fd:FuncData} {ps:List Str} {sp:Sp} {dvs:List V} {ds:List Value} {E:XK} {x m:Str} {p pos apos:Pos} {e o:Expr} {es:List Expr} {ta:TE} {t:TA}
theorem Zcu {pins:List (Addr×Obj)} {σ:St} {H:Hp} {s:Shared} {Q:VK} {us:List Value} {vs:List V} (F:FnOk X.prog X.w X.K X.mg X.base CX k f fd ps sp) (hr:Room k X.A) (hb:Binds X.K fd ps ds) (hd:Vals dvs ds) (hx:WD CX X E)
   (I:Inv X pins σ H s) (r:Vals vs us) (h:sp (vs++dvs) H Q E):wpAny (model X.prog X.w) X.A (call (.ref f) us) (EP X pins σ Q) X.xe s:=by
 have r2:Vals (vs++dvs) (us++ds):=r.append hd
 have hl:(us++ds).length=ps.length:=by rw [← r2.length];exact F.len _ _ _ _ h
 refine wpAny_call (codeAny_mono (F.run X.A X.stack s H ⟨us,[]⟩ (us++ds) (vs++dvs) Q E hr I.env0 (hb s us I.kIn hl) r2 h) fun r s' hq=>?_)
 cases r with
 | error e=>exact hx pins σ H s e s' I hq
 | ok fl =>
   cases fl with
   | ret u=>exact I.after hq
   | next=>exact False.elim hq
   | brk=>exact False.elim hq
   | cont=>exact False.elim hq
theorem ZjP (F:FnOk X.prog X.w X.K X.mg X.base CX k f fd ps sp) (hr:Room k X.A) (hg:Gl X x) (hm:X.mg x=some (.ref f)) (hk:PySem.W.keepIn X.K (.ref f)=true) (hb:Binds X.K fd ps ds) (hd:Vals dvs ds) (hx:WD CX X E)
   (ha:PA X (e::es) t) (hdb:(x == ("__debug__":Str))=false:=by decide) (he:starEach (e::es) X.env=(false,eval e X.env)::starEach es X.env:=by rfl) (hpl:(backTo pos (starEach es X.env)).any (·.1)=false:=by rfl) :
   PE X (.Call (.Name x p) (e::es) [] pos) (ZeZ sp dvs E t):=by
 intro pins s σ H Q I h
 refine wpAny_Call_Name_kw (ZaV I hg hm ?_ hdb)
 refine PySem.W.callWith_K (h₀:=X.base) I.ok.mod.kin hk (Zm (ha pos pins s σ H _ I h) fun us s1 ⟨vs,H1,I1,r,q⟩=>⟨I1.kIn,?_⟩) he hpl
 exact Zcu F hr hb hd hx I1 r q
theorem Zkb {pl:Sem Bool} (he:PE X o ta) (c:Cls X.K C) (hm:Vh X.K C m f) (F:FnOk X.prog X.w X.K X.mg X.base CX k f fd ps sp) (hr:Room k X.A) (hb:Binds X.K fd ps ds) (hd:Vals dvs ds) (hx:WD CX X E) (ha:PA X (e::es) t)
   (hst:starEach (e::es) X.env=(false,eval e X.env)::starEach es X.env:=by rfl) (hpl:(backTo pos (starEach es X.env)).any (·.1)=false:=by rfl)
   (ht:eval (.Call (.Attribute o m apos) (e::es) [] pos) X.env=(do
     let ov ← eval o X.env
     standAt apos.atName
     let (f,first) ← holding [ov] (getMethod ov m pl)
     callWith pos f first (backTo pos (starEach (e::es) X.env)) (backToKw pos (keywordEach [] X.env))):=by rfl) :
   PE X (.Call (.Attribute o m apos) (e::es) [] pos) (Zca C m sp dvs E ta t):=by
 intro pins s σ H Q I h
 refine PySem.W.methodCall_KW (pl:=pl) (Zm (he pins s σ H _ I h) fun u s1 ⟨x,H1,I1,rx,a,dx,fs,ex,ea,l,q⟩=>?_) ht
 subst ex
 obtain rfl:u=Value.ref a:=rx
 refine Zau I1 ea c hm l ?_
 refine PySem.W.callWith_K (first:=[.ref a]) (h₀:=X.base) I.ok.mod.kin hm.kp (Zm (ha pos pins s1 σ H1 _ I1 q) fun us s2 ⟨vs,H2,I2,r,q2⟩=>⟨I2.kIn,?_⟩) hst hpl
 exact Zcu (us:=.ref a::us) (vs:=.ref a::vs) F hr hb hd hx I2 (.cons rfl r) q2
theorem Zih {pl:Sem Bool} (he:PE X o ta) (c:Cls X.K C) (hm:Vh X.K C m f) (F:FnOk X.prog X.w X.K X.mg X.base CX k f fd ps sp) (hr:Room k X.A) (hb:Binds X.K fd ps ds) (hd:Vals dvs ds) (hx:WD CX X E)
   (ht:eval (.Call (.Attribute o m apos) [] [] pos) X.env=(do
     let ov ← eval o X.env
     standAt apos.atName
     let (f,first) ← holding [ov] (getMethod ov m pl)
     callWith pos f first (backTo pos (starEach [] X.env)) (backToKw pos (keywordEach [] X.env))):=by rfl) :
   PE X (.Call (.Attribute o m apos) [] [] pos) (Zca C m sp dvs E ta XE):=by
 intro pins s σ H Q I h
 refine PySem.W.methodCall_KW (pl:=pl) (Zm (he pins s σ H _ I h) fun u s1 ⟨x,H1,I1,rx,a,dx,fs,ex,ea,l,q⟩=>?_) ht
 subst ex
 obtain rfl:u=Value.ref a:=rx
 refine Zau I1 ea c hm l ?_
 exact PySem.W.callWith_K0 (first:=[.ref a]) I1.kIn hm.kp (Zcu (us:=[.ref a]) (vs:=[.ref a]) F hr hb hd hx I1 (.cons rfl .nil) q)
structure Mk (K:PySem.W.Frag) (C f:Addr):Prop where
 makes:PySem.W.makesIn K C=true
 init:PySem.W.findIn K (.ref C) "__init__"=some (some (.ref f))
 fn:PySem.W.isFn K (.ref f)=true
 kp:PySem.W.keepIn K (.ref C)=true
theorem Zir {pins:List (Addr×Obj)} {σ:St} {H:Hp} {s:Shared} {Q:VK} {us:List Value} {vs:List V} (M:Mk X.K C f) (F:FnOk X.prog X.w X.K X.mg X.base CX k f fd ps sp) (hr:Room (k+1) X.A) (hb:Binds X.K fd ps ds) (hd:Vals dvs ds)
   (hx:WD CX X E) (I:Inv X pins σ H s) (r:Vals vs us)
   (h:∀ x dx,H x=none→H dx=none→dx≠x→sp (.ref x::(vs++dvs)) (upd (upd H dx (.own x)) x (.ins C dx [])) (fun v H2=>v=.non∧Q (.ref x) H2) E) :
   wpAny (model X.prog X.w) X.A (call (.ref C) us) (EP X pins σ Q) X.xe s:=by
 have hq:=h (s.heap.objs.size+1) s.heap.objs.size (I.hok.fresh (Nat.le_succ _)) (I.hok.fresh (Nat.le_refl _)) (Nat.ne_of_lt (Nat.lt_succ_self _))
 have I2:=Inv.made (C:=C) I
 have r2:Vals (V.ref (s.heap.objs.size+1)::(vs++dvs)) (Value.ref (s.heap.objs.size+1)::(us++ds)):=.cons rfl (r.append hd)
 have hl:(Value.ref (s.heap.objs.size+1)::us++ds).length=ps.length:=by
   have e:=r2.length
   rw [F.len _ _ _ _ hq] at e
   exact e.symm
 refine wpAny_call (ZgY (f:=f) I.kIn M.makes M.init (beq_iff_eq.mp M.fn) (codeAny_mono (F.run _ X.stack _ _ ⟨Value.ref (s.heap.objs.size+1)::us,[]⟩ (Value.ref (s.heap.objs.size+1)::(us++ds)) _ _ E (hr.make C us [])
   (I2.env0.make C us []) (hb _ (Value.ref (s.heap.objs.size+1)::us) I2.kIn hl) r2 hq) fun r s' hq'=>?_))
 cases r with
 | error e=>exact hx pins σ _ _ e s' I2 hq'
 | ok fl =>
   cases fl with
   | ret u =>
     obtain ⟨v,H',I3,rv,ev,q3⟩:=I2.after hq'
     subst ev
     exact ⟨rv,⟨V.ref (s.heap.objs.size+1),H',I3,rfl,q3⟩⟩
   | next=>exact False.elim hq'
   | brk=>exact False.elim hq'
   | cont=>exact False.elim hq'
theorem Zic (M:Mk X.K C f) (F:FnOk X.prog X.w X.K X.mg X.base CX k f fd ps sp) (hr:Room (k+1) X.A) (hg:Gl X x) (hm:X.mg x=some (.ref C)) (hb:Binds X.K fd ps ds) (hd:Vals dvs ds) (hx:WD CX X E)
   (hdb:(x == ("__debug__":Str))=false:=by decide):PE X (.Call (.Name x p) [] [] pos) (Zjk C sp dvs E XE):=by
 intro pins s σ H Q I h
 refine wpAny_Call_Name_kw (ZaV I hg hm ?_ hdb)
 exact PySem.W.callWith_K0 I.kIn M.kp (Zir (us:=[]) M F hr hb hd hx I .nil h)
end
def PK (X:Cx) (kws:List Keyword) (t:TA):Prop :=
 ∀ (pos:Pos) (pins:List (Addr×Obj)) (s:Shared) (σ:St) (H:Hp) (Q:List V→Hp→Prop),Inv X pins σ H s→t σ H Q→wpAny (model X.prog X.w) X.A (evalAll ((backToKw pos (keywordEach kws X.env)).map (·.2))) (AP X pins σ Q) X.xe s
section
variable {X:Cx} {CX:UR} {k:Nat} {f C:Addr} {fd:FuncData} {ps ks:List Str} {sp:Sp} {E:XK} {x m:Str} {p pos apos kpos:Pos} {e o:Expr} {es:List Expr} {kws:List Keyword} {te ta:TE} {t tk:TA} {nm:Option Str}
theorem ZkB:PK X [] XE:=fun _ _ _ _ H Q I h=>wpAny_evalAll_nil ⟨[],H,I,.nil,h⟩
theorem Zjy (ha:PE X e te) (hr:PK X kws t):PK X (⟨nm,e,kpos⟩::kws) (Xe te t):=by
 intro pos pins s σ H Q I h
 show wpAny _ _ (evalAll ((do let v ← eval e X.env;standAt pos;pure v)::(backToKw pos (keywordEach kws X.env)).map (·.2))) _ _ s
 refine wpAny_evalAll_cons (wpAny_bind (Zm (ha pins s σ H _ I h) fun u s1 ⟨x,H1,I1,r1,q1⟩=>wpAny_bind (wpAny_standAt (wpAny_pure ?_))))
 exact Zm (hr pos pins s1 σ H1 _ I1 q1) fun us s2 ⟨xs,H2,I2,r2,q2⟩=>⟨x::xs,H2,I2,.cons r1 r2,q2⟩
structure KBinds (K:PySem.W.Frag) (fd:FuncData) (ps ks:List Str) (g:List Value→List Value→List Value) (gV:List V→List V→List V):Prop where
 to:∀ (s:Shared) (us ws:List Value),K.In s.heap→(g us ws).length=ps.length→BindsTo s fd ⟨us,ks.zip ws⟩ (ps.zip (g us ws))
 rel:∀ {vs:List V} {us:List Value} {zs:List V} {ws:List Value},Vals vs us→Vals zs ws→Vals (gV vs zs) (g us ws)
variable {g:List Value→List Value→List Value} {gV:List V→List V→List V}
end
structure Zs (N P:List Str) (sc:Scope):Prop where
 kind:sc.kind=.function
 co:sc.isCoroutine=false
 gen:sc.isGenerator=false
 nd:N.Nodup
 pre:N.take P.length=P
 par:∀ x∈P,sc.names.lookup x=some .local∨sc.names.lookup x=some .cell
 nofree:∀ y∈sc.names,y.2≠.free
theorem ZbF {kindOf:Str→Option NameKind} {x:Str}:∀ {binds:List (Str×Value)} {m:Str→Option Value},(∀ v,(x,v) ∉ binds)→bindL kindOf binds m x=m x
 | [],_,_=>rfl
 | (n,v)::r,m,h=>by
   unfold bindL
   rw [ZbF fun w hw=>h w (List.mem_cons_of_mem _ hw)]
   split
   · have:x≠n:=by rintro rfl;exact h v List.mem_cons_self
     simp [this]
   · rfl
theorem Zbz {kindOf:Str→Option NameKind} {x:Str}:∀ {binds:List (Str×Value)} {m:Str→Option Value},(∀ v,(x,v) ∉ binds)→bindC kindOf binds m x=m x
 | [],_,_=>rfl
 | (n,v)::r,m,h=>by
   unfold bindC
   rw [Zbz fun w hw=>h w (List.mem_cons_of_mem _ hw)]
   split
   · rfl
   · have:x≠n:=by rintro rfl;exact h v List.mem_cons_self
     simp [this]
theorem Zbv {kindOf:Str→Option NameKind} {x:Str} {v:Value}:∀ {P:List Str} {vs:List Value} {i:Nat} {m:Str→Option Value},P.Nodup→P[i]?=some x→vs[i]?=some v→kindOf x=some .local →
   bindL kindOf (P.zip vs) m x=some v
 | [],_,_,_,_,h,_,_=>by simp at h
 | _::_,[],_,_,_,_,h,_=>by simp at h
 | p::P,w::vs,0,m,nd,h1,h2,hk=>by
   simp at h1 h2;subst h1;subst h2
   show bindL kindOf ((p,w)::P.zip vs) m p=_
   unfold bindL
   rw [ZbF fun v hv=>(List.nodup_cons.mp nd).1 (List.of_mem_zip hv).1,if_pos hk]
   simp
 | p::P,w::vs,i+1,m,nd,h1,h2,hk=>by
   show bindL kindOf ((p,w)::P.zip vs) m x=_
   unfold bindL
   exact Zbv (i:=i) (List.nodup_cons.mp nd).2 (by simpa using h1) (by simpa using h2) hk
theorem Zbu {kindOf:Str→Option NameKind} {x:Str} {v:Value}:∀ {P:List Str} {vs:List Value} {i:Nat} {m:Str→Option Value},P.Nodup→P[i]?=some x→vs[i]?=some v→kindOf x≠some .local →
   bindC kindOf (P.zip vs) m x=some v
 | [],_,_,_,_,h,_,_=>by simp at h
 | _::_,[],_,_,_,_,h,_=>by simp at h
 | p::P,w::vs,0,m,nd,h1,h2,hk=>by
   simp at h1 h2;subst h1;subst h2
   show bindC kindOf ((p,w)::P.zip vs) m p=_
   unfold bindC
   rw [Zbz fun v hv=>(List.nodup_cons.mp nd).1 (List.of_mem_zip hv).1,if_neg hk]
   simp
 | p::P,w::vs,i+1,m,nd,h1,h2,hk=>by
   show bindC kindOf ((p,w)::P.zip vs) m x=_
   unfold bindC
   exact Zbu (i:=i) (List.nodup_cons.mp nd).2 (by simpa using h1) (by simpa using h2) hk
def start (N:List Str) (vs:List V):St:=vs.map some++List.replicate (N.length - vs.length) none
def VM (CX:UR) (P:Program) (w:World) (K:PySem.W.Frag) (mg:Str→Option Value) (base:Heap) (N:List Str) (qual:Str) (scope:Scope) (f:Addr) (cd:Value) (A:Around) (outer:List Env) (s:Shared) (H:Hp) (E:XK):Cx where
 prog:=P
 w:=w
 K:=K
 mg:=mg
 base:=base
 A:=A.deeper (envOfC qual scope s.heap.objs.size f cd)
 N:=N
 s₀:=s
 H₀:=H
 env:=envOfC qual scope s.heap.objs.size f cd
 outer:=outer
 stack:=envOfC qual scope s.heap.objs.size f cd::outer
 ex:=[]
 calm:=true
 fn:=fun _=>true
 pn:=[]
 xe:=fun e s'=>wpAny (model P w) (A.deeper (envOfC qual scope s.heap.objs.size f cd)) (leaving (envOfC qual scope s.heap.objs.size f cd) e) (fun _ s''=>CX outer H s E e s'') (fun e' s''=>CX outer H s E e' s'') s'
theorem Zcw {sc:Scope} {n:Nat} {x:Str} (h:sc.names.lookup x=some .cell):∃ c,(cellsFrom n sc.names []).lookup x=some c:=by
 have q:=PySem.W.cellsFrom_some sc.names n [] (.inl h)
 exact Option.isSome_iff_exists.mp q
theorem ZfG {CX:UR} {P:Program} {w:World} {K:PySem.W.Frag} {mg:Str→Option Value} {base:Heap} {N ps:List Str} {qual:Str} {scope:Scope} {f:Addr} {cd:Value} {A:Around} {outer:List Env} {s s1:Shared} {H:Hp} {E:XK} {us:List Value} {vs:List V}
   (S:Zs N ps scope) (hd:A.handled=none) (e0:Env0 P w K mg base A outer s H) (hl:vs.length=ps.length) (r:Vals vs us)
   (x:InCallC s s.heap.objs.size (bindL (envOfC qual scope s.heap.objs.size f cd).kindOf (ps.zip us) fun _=>none) (cellsFrom (s.heap.objs.size+1) scope.names []) (bindC (envOfC qual scope s.heap.objs.size f cd).kindOf (ps.zip us) fun _=>none) s1) :
   Inv (VM CX P w K mg base N qual scope f cd A outer s H E) [] (start N vs) H s1:=by
 have hpl:ps.length≤N.length:=by have:=congrArg List.length S.pre;rw [List.length_take] at this;omega
 obtain ⟨h1,tk,rfl,hk⟩:=x.done
 have noA:∀ b:Addr,b ∉ (VM CX P w K mg base N qual scope f cd A outer s H E).ex:=fun b z=>absurd (show b∈([]:List Addr) from z) (by simp)
 refine ⟨⟨e0.mod,S.kind,rfl,rfl,Nat.le_refl _,fun y z c h1 h2=>?_,fun y hy=>?_,fun y c _ h=>?_,fun _=>hd,Around.frames_deeper e0.frames,.inr ⟨rfl,rfl⟩,fun b z=>absurd z (noA b),e0.bs,e0.bsz,fun b _ _=>noA b,fun b z=>absurd z (noA b),e0.funs,e0.frf⟩,
   rfl,e0.bare,Un.kept hk,⟨_,x.toInCall.ns,fun i y v h1 h2 h3=>?_⟩,fun y c h=>⟨_,x.cell y c h⟩,e0.hok.fresh (Nat.le_refl _),fun y c h=>?_,fun p hp=>absurd (show p∈([]:List (Addr×Obj)) from hp) (by simp),e0.hok.kept hk,?_⟩
 · exact name_of_addr x.apart (PySem.mem_of_lookup h1) (PySem.mem_of_lookup h2)
 · have hy:scope.names.lookup y=some .cell∨scope.names.lookup y=some .free:=hy
   rcases hy with hy | hy
   · exact Zcw hy
   · exact absurd rfl (S.nofree _ (PySem.mem_of_lookup hy))
 · exact Nat.le_of_lt (x.above y c (PySem.mem_of_lookup h))
 · have hi:i < vs.length:=by
     unfold start at h2
     by_cases hi:i < vs.length
     · exact hi
     · rw [List.getElem?_append_right (by simpa using hi)] at h2
       rw [List.getElem?_replicate] at h2
       split at h2 <;> cases h2
   have ha:vs[i]?=some v:=by
     unfold start at h2
     rw [List.getElem?_append_left (by simpa using hi),List.getElem?_map] at h2
     cases e:vs[i]? with
     | none=>rw [e] at h2;cases h2
     | some a=>rw [e] at h2;cases h2;rfl
   obtain ⟨u,hu,rv⟩:=r.get ha
   have hp:ps[i]?=some y:=by
     rw [← S.pre,List.getElem?_take_of_lt (by omega)];exact h1
   have ndP:ps.Nodup:=by rw [← S.pre];exact S.nd.sublist (List.take_sublist _ _)
   refine ⟨u,rv,?_⟩
   rcases S.par y (List.mem_of_getElem? hp) with k | k
   · exact .inl ⟨k,Zbv ndP hp hu k⟩
   · obtain ⟨c,e⟩:=Zcw (n:=s.heap.objs.size+1) k
     refine .inr ⟨.inl k,c,e,?_⟩
     have q:=x.cell y c e
     rw [Zbu ndP hp hu (by show scope.names.lookup y≠_;rw [k];decide)] at q
     exact q
 · exact e0.hok.fresh (Nat.le_of_lt (x.above y c (PySem.mem_of_lookup h)))
 · unfold start
   show _=N.length
   rw [List.length_append,List.length_map,List.length_replicate]
   omega
theorem ZiN {CX:UR} {P:Program} {w:World} {K:PySem.W.Frag} {mg:Str→Option Value} {base:Heap} {k:Nat} {f:Addr} {name qual:Str} {params:Arguments} {body:List Stmt} {scope:Scope} {dV kV doc pm cdv ct oc:Value} {an od:Option Addr}
   {osl:Array (Option Value)} {N ps:List Str} {sp:Sp} (lk:K.lookup f=some ⟨oc,od,.func (PySem.W.fnOf name qual params body scope dV kV doc pm an cdv ct),osl⟩) (hcd:PySem.W.codeIn K cdv qual=true) (S:Zs N ps scope)
   (len:∀ vs H Q E,sp vs H Q E→vs.length=ps.length)
   (hbody:∀ (A:Around) (outer:List Env) (s:Shared) (H:Hp) (vs:List V) (Q:VK) (E:XK),Room k (A.deeper (envOfC qual scope s.heap.objs.size f cdv))→sp vs H Q E →
     ∃ t,PSs (VM CX P w K mg base N qual scope f cdv A outer s H E) body t∧t { nx:=fun _ H'=>Q .non H',rt:=Q } (start N vs) H) :
   FnOk P w K mg base CX (k+1) f (PySem.W.fnOf name qual params body scope dV kV doc pm an cdv ct) ps sp:=by
 refine ⟨len,fun A outer s H args us vs Q E hr e0 hb r hsp=>?_⟩
 have hl:=len _ _ _ _ hsp
 have KX:K.In s.heap:=e0.mod.kin.keeps fun b o e=>(e0.bs b o e).1
 have lim:s.heap.NoLimit:=e0.mod.nolimit.keeps fun b o e=>(e0.bs b o e).1
 have hkind:∀ y∈ps.zip us,scope.names.lookup y.1=some .local∨(scope.names.lookup y.1=some .cell∧((cellsFrom (s.heap.objs.size+1) scope.names []).lookup y.1).isSome=true):=fun ⟨n,v⟩ hy=>by
   rcases S.par n (List.of_mem_zip hy).1 with q | q
   · exact .inl q
   · exact .inr ⟨q,PySem.W.cellsFrom_some _ _ _ (.inl q)⟩
 refine codeAny_call_function hr.depth (KX _ _ lk) rfl S.co S.gen rfl (PySem.W.codeRec_of KX hcd) (hb _ _ _ _ ?_)
 refine wpAny_newFunctionEnv_cells S.kind hkind fun env he s1 x=>?_
 subst he
 refine ⟨lim.keeps x.toInCall.keep,codeAny_func ?_⟩
 obtain ⟨t,ht,hq⟩:=hbody A outer s H vs Q E (hr.deeper _) hsp
 have I:Inv (VM CX P w K mg base N qual scope f cdv A outer s H E) [] (start N vs) H s1:=ZfG S hr.hd e0 hl r x
 refine wpAny_mono (ht [] s1 (start N vs) H _ I hq) (fun fl s' hs=>?_) fun e s' hs=>hs
 have fin:∀ {σ':St} {H':Hp} {v:V} {u:Value},Inv (VM CX P w K mg base N qual scope f cdv A outer s H E) [] σ' H' s'→RelV v u→Q v H'→CE outer P w H s Q u s' :=
   fun {σ' H' v u} J rv q=>⟨v,H',J.os,J.bare,J.base,J.hok,rv,q⟩
 cases fl with
 | ret u =>
   obtain ⟨v,σ',H',J,rv,q⟩:=hs
   exact fin J rv q
 | next =>
   obtain ⟨σ',H',J,q⟩:=hs
   exact fin (v:=V.non) (u:=Value.none) J rfl q
 | brk =>
   obtain ⟨_,_,_,q⟩:=hs
   exact False.elim q
 | cont =>
   obtain ⟨_,_,_,q⟩:=hs
   exact False.elim q
end L2
namespace L2
open PySem PySem.Spec PyProof.Rows
section
variable {X:Cx} {x:Str} {p pos:Pos} {e:Expr} {es:List Expr} {t:TA} {id T:String} {r:List V→Hp→VK→Prop}
def tCB (r:List V→Hp→VK→Prop) (t:TA):TE:=fun σ H Q=>t σ H fun vs H1=>r vs H1 Q
theorem Zw (hc:Yv X (.builtin id) r) (hg:Gl X x) (hm:X.mg x=none) (hv:bootBuiltins x=some (.builtin id)) (ha:PA X (e::es) t) (hn:x≠"__name__":=by decide) (hdb:(x == ("__debug__":Str))=false:=by decide)
   (he:starEach (e::es) X.env=(false,eval e X.env)::starEach es X.env:=by rfl) (hpl:(backTo pos (starEach es X.env)).any (·.1)=false:=by rfl):PE X (.Call (.Name x p) (e::es) [] pos) (tCB r t):=by
 intro pins s σ H Q I h
 refine wpAny_Call_Name_kw (Wk I hg hm hv ?_ hn hdb)
 exact PyProof.Rows.callWith_builtin1 (Zm (ha pos pins s σ H _ I h) fun us s1 ⟨vs,H1,I1,r1,q1⟩=>hc pins s1 σ H1 vs us Q I1 r1 q1) he hpl
theorem Yu (hc:Yv X (.type T) r) (hg:Gl X x) (hm:X.mg x=none) (hv:bootBuiltins x=some (.type T)) (ha:PA X (e::es) t) (hn:x≠"__name__":=by decide) (hdb:(x == ("__debug__":Str))=false:=by decide)
   (he:starEach (e::es) X.env=(false,eval e X.env)::starEach es X.env:=by rfl) (hpl:(backTo pos (starEach es X.env)).any (·.1)=false:=by rfl):PE X (.Call (.Name x p) (e::es) [] pos) (tCB r t):=by
 intro pins s σ H Q I h
 refine wpAny_Call_Name_kw (Wk I hg hm hv ?_ hn hdb)
 exact PyProof.Rows.callWith_type1 (Zm (ha pos pins s σ H _ I h) fun us s1 ⟨vs,H1,I1,r1,q1⟩=>hc pins s1 σ H1 vs us Q I1 r1 q1) he hpl
end
end L2
namespace HT
open PySem PyProof.Rows
section
open PySem.SeqAt
open PySem.AutoSeq1 (wpAny_loadPart')
open PySem.MeetsSeq PySem.MeetsSeq2 PySem.MeetsSeq3
end
section
variable {prog:Program} {w:World} {A:Around} {E:Value→Shared→Prop} {s:Shared}
def sIx (n d:Nat):Option Int→Nat
 | none=>d
 | some v=>if v < 0 then (v+(n:Int)).toNat else min v.toNat n
theorem sIx_none (n d:Nat):sIx n d none=d:=rfl
theorem sIx_nat (n d k:Nat):sIx n d (some (k:Int))=min k n:=by
 show (if (k:Int) < 0 then ((k:Int)+(n:Int)).toNat else min (k:Int).toNat n)=min k n
 rw [if_neg (by omega),Int.toNat_natCast]
theorem sIx_le (n d:Nat) (hd:d≤n) (o:Option Int):sIx n d o≤n:=by
 cases o with
 | none=>exact hd
 | some v =>
   show (if v < 0 then (v+(n:Int)).toNat else min v.toNat n)≤n
   by_cases hv:v < 0
   · rw [if_pos hv];omega
   · rw [if_neg hv];exact Nat.min_le_right _ _
end
end HT
namespace L2
open PySem PySem.Spec PyProof.Rows
abbrev TO:=St→Hp→(Option Int→Hp→Prop)→Prop
def PO (X:Cx) (e:Option Expr) (t:TO):Prop :=
 ∀ (pins:List (Addr×Obj)) (s:Shared) (σ:St) (H:Hp) (Q:Option Int→Hp→Prop),Inv X pins σ H s→t σ H Q →
   wpAny (model X.prog X.w) X.A (evalPart e X.env) (fun u s'=>∃ o H',Inv X pins σ H' s'∧IsPart u o∧Q o H') X.xe s
def ZjE:TO:=fun _ H Q=>Q none H
def Zmo (t:TE):TO:=fun σ H Q=>t σ H fun x H1=>∃ i,x=.int i∧Q (some i) H1
section
variable {X:Cx} {e:Expr} {te:TE} {lo hi:Option Expr} {tl th:TO} {pos p2:Pos}
theorem Wv:PO X none ZjE:=by
 intro pins s σ H Q I h
 rw [evalPart_none]
 exact wpAny_pure ⟨none,H,I,.none,h⟩
theorem Wu (h:PE X e te):PO X (some e) (Zmo te):=by
 intro pins s σ H Q I hw
 rw [evalPart_some]
 refine Zm (h pins s σ H _ I hw) fun u s1 ⟨x,H1,I1,r1,q1⟩=>?_
 obtain ⟨i,rfl,q⟩:=q1
 obtain ⟨t,rfl⟩:=r1
 exact ⟨some i,H1,I1,.int i t,q⟩
def SlR (X:Cx) (r:V→Option Int→Option Int→Hp→VK→Prop):Prop :=
 ∀ (pins:List (Addr×Obj)) (s:Shared) (σ:St) (H:Hp) (x:V) (v vl vu:Value) (lo hi:Option Int) (sl:Addr) (Q:VK),Inv X pins σ H s→RelV x v→s.heap.IsSliceOf sl vl vu .none→IsPart vl lo→IsPart vu hi→r x lo hi H Q →
   ∃ T id,typeLookup (.type T) "__getitem__"=pure (some (.builtin id))∧s.TypeIs v T∧wpAny (model X.prog X.w) X.A (getItem v (.ref sl)) (EP X pins σ Q) X.xe s
def tSl (r:V→Option Int→Option Int→Hp→VK→Prop) (te:TE) (tl th:TO):TE:=fun σ H Q=>te σ H fun x H1=>tl σ H1 fun l H2=>th σ H2 fun u H3=>r x l u H3 Q
theorem Wa {r:V→Option Int→Option Int→Hp→VK→Prop} (hr:SlR X r) (he:PE X e te) (hl:PO X lo tl) (hu:PO X hi th):PE X (.Subscript e (.Slice lo hi none p2) pos) (tSl r te tl th):=by
 intro pins s σ H Q I h
 refine Subscript_ (Zm (he pins s σ H _ I h) fun v s1 ⟨x,H1,I1,r1,q1⟩=>?_)
 refine wpAny_Slice (Zm (hl pins s1 σ H1 _ I1 q1) fun vl s2 ⟨l,H2,I2,pl,q2⟩=>Zm (hu pins s2 σ H2 _ I2 q2) fun vu s3 ⟨u,H3,I3,pu,q3⟩=>?_)
 rw [evalPart_none]
 refine wpAny_pure ?_
 have I4:Inv X pins σ H3 { s3 with heap:=s3.heap.push { cls:=.type "slice",data:=.fields #[vl,vu,.none] } }:=I3.kept (t':=s3.toks) fun b ob q=>Heap.get?_push_of_some _ q
 obtain ⟨T,id,hT,ht,hg⟩:=hr pins { s3 with heap:=s3.heap.push { cls:=.type "slice",data:=.fields #[vl,vu,.none] } } σ H3 x v vl vu l u s3.heap.objs.size Q I4 r1 (Heap.IsSliceOf.new ..) pl pu q3
 show wpAny (model X.prog X.w) X.A (subscriptTail e (.Slice lo hi none p2) v (.ref s3.heap.objs.size)) (EP X pins σ Q) X.xe { s3 with heap:=s3.heap.push { cls:=.type "slice",data:=.fields #[vl,vu,.none] } }
 exact tail_any (ops:=[.ref s3.heap.objs.size,v]) ht hT hg (by with_unfolding_all rfl)
def UU (xs:List V) (lo hi:Option Int):List V:=(xs.drop (HT.sIx xs.length 0 lo)).take (HT.sIx xs.length xs.length hi - HT.sIx xs.length 0 lo)
theorem Zdv (xs:List V) (lo hi:Option Int):(UU xs lo hi).length≤xs.length:=by
 unfold UU
 rw [List.length_take,List.length_drop]
 omega
end
end L2
namespace L2
open PySem PySem.Spec PyProof.Rows
def Wi (n:Nat) (i:Int):Option Nat:=if 0≤i then (if i < n then some i.toNat else none) else if -(n:Int)≤i then some (i+n).toNat else none
def YO {α:Type} (xs:List α) (i:Int):Option α:=(Wi xs.length i).bind fun j=>xs[j]?
theorem Zbf {n:Nat} {i:Int} {j:Nat} (h:Wi n i=some j):seqIndex? i n=some j∧j < n∧-(n:Int)≤i∧i < n:=by
 unfold Wi at h
 by_cases h0:0≤i
 · rw [if_pos h0] at h
   by_cases h1:i < n
   · rw [if_pos h1] at h
     have e:i.toNat=j:=Option.some.inj h
     exact ⟨by rw [seqIndex_of h0 h1,e],by omega,by omega,h1⟩
   · rw [if_neg h1] at h;cases h
 · rw [if_neg h0] at h
   by_cases h1:-(n:Int)≤i
   · rw [if_pos h1] at h
     have e:(i+n).toNat=j:=Option.some.inj h
     exact ⟨by rw [seqIndex_neg (by omega) h1,e],by omega,h1,by omega⟩
   · rw [if_neg h1] at h;cases h
theorem ZaT {α:Type} {xs:List α} {i:Int} {v:α} (h:YO xs i=some v):∃ j,seqIndex? i xs.length=some j∧xs[j]?=some v∧j < xs.length∧-(xs.length:Int)≤i∧i < xs.length:=by
 unfold YO at h
 cases e:Wi xs.length i with
 | none=>rw [e] at h;cases h
 | some j =>
   rw [e] at h
   obtain ⟨h1,h2,h3,h4⟩:=Zbf e
   exact ⟨j,h1,h,h2,h3,h4⟩
theorem Zv {α:Type} {xs:List α} {j:Nat} {v:α} (h:xs[j]?=some v):YO xs (j:Int)=some v:=by
 have hj:j < xs.length:=(List.getElem?_eq_some_iff.mp h).1
 have e:Wi xs.length (j:Int)=some j:=by
   unfold Wi
   rw [if_pos (by omega),if_pos (by omega)];simp
 unfold YO;rw [e];exact h
theorem Ziy {α:Type} (xs:List α) (v:α):YO (xs++[v]) (-1)=some v:=by
 have hl:(xs++[v]).length=xs.length+1:=by simp
 have e:Wi (xs++[v]).length (-1)=some xs.length:=by
   unfold Wi
   rw [hl,if_neg (by decide),if_pos (by omega)]
   congr 1
   omega
 unfold YO
 rw [e]
 show (xs++[v])[xs.length]?=some v
 simp
def ZjF (b:Expr):Prop:=∀ o i,subscripted b false o i=operate [o,i] (getItem o i)
def IxR (X:Cx) (r:R2):Prop :=
 ∀ (value slice:Expr) (pins:List (Addr×Obj)) (s:Shared) (σ:St) (H:Hp) (x y:V) (v u:Value) (Q:VK),Inv X pins σ H s→RelV x v→RelV y u→r x y H Q →
   subscripted slice false v u=operate [v,u] (getItem v u)→wpAny (model X.prog X.w) X.A (subscriptTail value slice v u) (EP X pins σ Q) X.xe s
def MtR (X:Cx) (id:String) (r:V→List V→Hp→VK→Prop):Prop :=
 ∀ (pins:List (Addr×Obj)) (s:Shared) (σ:St) (H:Hp) (x:V) (xs:List V) (v:Value) (us:List Value) (Q:VK),Inv X pins σ H s→RelV x v→Vals xs us→r x xs H Q →
   wpAny (model X.prog X.w) X.A (call (.builtin id) (v::us)) (EP X pins σ Q) X.xe s
section
variable {X:Cx} {a b:Expr} {ta tb:TE} {pos:Pos}
theorem Zo {r:R2} (hr:IxR X r) (ha:PE X a ta) (hb:PE X b tb) (hs:ZjF b):PE X (.Subscript a b pos) (tOp r ta tb):=by
 intro pins s σ H Q I h
 exact Subscript_ (Zhy ha hb I h fun v u s2 x y H2 I2 rx ry q=>hr a b pins s2 σ H2 x y v u Q I2 rx ry q (hs _ _))
def rIxL (K:PySem.W.Frag):R2:=fun x y H Q=>∃ p xs i v,x=.ref p∧y=.int i∧SqL K H p xs∧YO xs i=some v∧Q v H
def rIxT (K:PySem.W.Frag):R2:=fun x y H Q=>∃ p xs i v,x=.ref p∧y=.int i∧SqT K H p xs∧YO xs i=some v∧Q v H
def rIxS:R2:=fun x y H Q=>∃ z i c,x=.str z∧y=.int i∧z.length≤sizeLine∧YO z.cps.toList i=some c∧Q (.str ⟨#[c]⟩) H
theorem Zy:IxR X (rIxL X.K):=by
 intro value slice pins s σ H x y v u Q I rx ry h hs
 obtain ⟨p,xs,i,z,rfl,rfl,hq,he,q⟩:=h
 cases rx
 obtain ⟨t,rfl⟩:=ry
 obtain ⟨its,r,pl,hz⟩:=I.list hq
 obtain ⟨j,h1,h2,h3,h4,h5⟩:=ZaT he
 obtain ⟨w,ew,rw'⟩:=r.get h2
 have hl:=r.length
 have hn:=WF
 have fin:EP X pins σ Q w s:=⟨z,H,I,rw',q⟩
 by_cases h0:0≤i
 · have hj:i.toNat=j:=by
     rw [seqIndex_of h0 h5] at h1
     exact Option.some.inj h1
   exact item_listR pl.isList h0 (by omega) (by rw [hj];simpa using ew) fin hs
 · have hj:(i+(its.toArray.size:Int)).toNat=j:=by
     rw [seqIndex_neg (by omega) h4] at h1
     rw [List.size_toArray,← hl]
     exact Option.some.inj h1
   exact subscriptTail_builtinR (x:=w) pl.isList.typeIs slot_list_getitem.lookup
     (wpAny_getItem_list_neg (Q:=fun r s'=>r=w∧EP X pins σ Q r s') pl.isList (by omega) (by rw [List.size_toArray] <;> omega) (by omega) (by rw [hj];simpa using ew) ⟨rfl,fin⟩) hs
theorem ZQ:IxR X (rIxT X.K):=by
 intro value slice pins s σ H x y v u Q I rx ry h hs
 obtain ⟨p,xs,i,z,rfl,rfl,hq,he,q⟩:=h
 cases rx
 obtain ⟨t,rfl⟩:=ry
 obtain ⟨its,r,pl,hz⟩:=I.tuple hq
 obtain ⟨j,h1,h2,h3,h4,h5⟩:=ZaT he
 obtain ⟨w,ew,rw'⟩:=r.get h2
 have hl:=r.length
 have hn:=WF
 have fin:EP X pins σ Q w s:=⟨z,H,I,rw',q⟩
 exact subscriptTail_builtinR (x:=w) pl.typeIs slot_tuple_getitem.lookup
   (getItem_tuple (j:=j) (Q:=fun r s'=>r=w∧EP X pins σ Q r s') pl (by omega) (by omega) (by rw [List.size_toArray,← hl];exact h1) (by simpa using ew) ⟨rfl,fin⟩) hs
theorem Wl:IxR X rIxS:=by
 intro value slice pins s σ H x y v u Q I rx ry h hs
 obtain ⟨z,i,c,rfl,rfl,hz,he,q⟩:=h
 obtain ⟨t,rfl⟩:=rx
 obtain ⟨t',rfl⟩:=ry
 obtain ⟨j,h1,h2,h3,h4,h5⟩:=ZaT he
 have hl:z.cps.toList.length=z.length:=by simp [Str.length]
 rw [hl] at h1 h4 h5
 have hn:=WF
 exact tail_any (typeIs_str s z t) slot_str_getitem.lookup (getItem_str (c:=c) (by
   have e1:decide (i < -(2 ^ 63:Int))=false:=decide_eq_false (by omega)
   have e2:decide (i ≥ 2 ^ 63)=false:=decide_eq_false (by omega)
   rw [e1,e2,Bool.or_false]) (by rw [h1];simpa using h2) ⟨.str ⟨#[c]⟩,H,I.tok _,⟨_,rfl⟩,q⟩) hs
theorem ZeD (its:List Value) (n j:Nat) (u:Value):Obj.mapSeq (·.setIfInBounds j u) { cls:=.type "list",data:=.seq its.toArray n }={ cls:=.type "list",data:=.seq (its.set j u).toArray n }:=by
 simp [Obj.mapSeq]
theorem Inv.lst {pins:List (Addr×Obj)} {σ:St} {H:Hp} {s:Shared} {p:Addr} {xs:List V} (I:Inv X pins σ H s) (h:H p=some (.lst xs)) :
   ∃ (its:List Value) (n:Nat),Vals xs its∧s.heap.get? p=some { cls:=.type "list",data:=.seq its.toArray n }∧xs.length≤sizeLine:=by
 obtain ⟨z,its,n,r,e⟩:=I.hok p _ h
 exact ⟨its,n,r,e,z⟩
theorem Inv.lstUpd {pins:List (Addr×Obj)} {σ:St} {H:Hp} {s:Shared} {p:Addr} {xs ys:List V} {its its':List Value} {n n':Nat} {f:Obj→Obj} (I:Inv X pins σ H s) (h:H p=some (.lst xs))
   (ho:s.heap.get? p=some { cls:=.type "list",data:=.seq its.toArray n }) (hf:f { cls:=.type "list",data:=.seq its.toArray n }={ cls:=.type "list",data:=.seq its'.toArray n' }) (r:Vals ys its') (hz:ys.length≤sizeLine) (t:Nat) :
   Inv X pins σ (upd H p (.lst ys)) { s with heap:=s.heap.update p f,toks:=t }:=by
 have e:(s.heap.update p f).get? p=some { cls:=.type "list",data:=.seq its'.toArray n' }:=by
   rw [Heap.get?_update_self f ho (by rw [hf] <;> rfl),hf]
 refine I.write (x:=p) (e:=p) (by rw [h];trivial) (.inl rfl) (fun b u hb q=>(Heap.get?_update_other _ _ (Ne.symm hb)).trans q) ⟨_,e⟩ ?_
 exact ⟨hz,its',n',r,e⟩
def Zmw:V→V→V→Hp→(Hp→Prop)→Prop:=fun o i v H Q=>∃ p xs k j,o=.ref p∧i=.int k∧H p=some (.lst xs)∧Wi xs.length k=some j∧Q (upd H p (.lst (xs.set j v)))
theorem UA:PSet X Zmw:=by
 intro pins s σ H o i v ov iv u Q I ro ri rv h
 obtain ⟨p,xs,k,j,rfl,rfl,hp,hj,q⟩:=h
 cases ro
 obtain ⟨t,rfl⟩:=ri
 obtain ⟨its,n,r,ho,hz⟩:=I.lst hp
 obtain ⟨h1,h2,h3,h4⟩:=Zbf hj
 have hl:=r.length
 have hn:=WF
 have I':Inv X pins σ (upd H p (.lst (xs.set j v))) { s with heap:=s.heap.update p (Obj.mapSeq (·.setIfInBounds j u)) } :=
   I.lstUpd hp ho (ZeD its n j u) (r.set rv j) (by rw [List.length_set];exact hz) s.toks
 by_cases h0:0≤k
 · have hk:k.toNat=j:=by
     rw [seqIndex_of h0 h4] at h1
     exact Option.some.inj h1
   exact PySem.W.ki_setAt ho h0 (by omega) (by rw [List.size_toArray,← hl];exact h4) (by rw [hk];exact ⟨_,I',q⟩)
 · have hk:(k+(its.toArray.size:Int)).toNat=j:=by
     rw [seqIndex_neg (by omega) h3] at h1
     rw [List.size_toArray,← hl]
     exact Option.some.inj h1
   exact PySem.W.ki_setBack ho (by omega) (by rw [List.size_toArray,← hl];exact h3) (by omega) (by rw [hk];exact ⟨_,I',q⟩)
theorem Zdg (lo hi:Option Int) (n:Nat):(sliceBounds lo hi none n).1=((HT.sIx n 0 lo:Nat):Int)∧(sliceBounds lo hi none n).2.1=((HT.sIx n n hi:Nat):Int)∧(sliceBounds lo hi none n).2.2=1:=by
 refine ⟨?_,?_,rfl⟩
 · cases lo with
   | none=>simp [sliceBounds,HT.sIx]
   | some i =>
     simp only [sliceBounds,HT.sIx,Option.getD_none,show (1:Int) > 0 by decide,if_true]
     by_cases h:i < 0
     · simp only [h,if_true] <;> omega
     · simp only [h,if_false] <;> omega
 · cases hi with
   | none=>simp [sliceBounds,HT.sIx]
   | some i =>
     simp only [sliceBounds,HT.sIx,Option.getD_none,show (1:Int) > 0 by decide,if_true]
     by_cases h:i < 0
     · simp only [h,if_true] <;> omega
     · simp only [h,if_false] <;> omega
theorem ZbQ (its:List Value) (lo hi:Option Int):slicePick its.toArray lo hi none=((its.drop (HT.sIx its.length 0 lo)).take (HT.sIx its.length its.length hi - HT.sIx its.length 0 lo)).toArray:=by
 obtain ⟨h1,h2,h3⟩:=Zdg lo hi its.toArray.size
 unfold slicePick
 rw [h1,h2,h3]
 simp only [sliceRange_one,pick_run,List.size_toArray] <;> rfl
def rSlL (K:PySem.W.Frag):V→Option Int→Option Int→Hp→VK→Prop:=fun x lo hi H Q=>∃ a xs,x=.ref a∧SqL K H a xs∧∀ p,H p=none→Q (.ref p) (upd H p (.lst (UU xs lo hi)))
theorem ZaW:SlR X (rSlL X.K):=by
 intro pins s σ H x v vl vu lo hi sl Q I rx hs pl pu h
 obtain ⟨a,xs,rfl,hx,q⟩:=h
 cases rx
 obtain ⟨its,r,ht,hz⟩:=I.list hx
 have hlen:=r.length
 refine ⟨"list",_,slot_list_getitem.lookup,ht.isList.typeIs,?_⟩
 refine wpAny_getItem_list_slice ht.isList hs pl pu .none (by simp) ?_ (by rw [List.size_toArray] <;> omega)
 rw [ZbQ,← hlen]
 refine ⟨.ref s.heap.objs.size,_,I.laid (t':=s.toks) (o:=.lst (UU xs lo hi)) (fun b ob q=>Heap.get?_push_of_some _ q) (Nat.le_refl _) ?_,rfl,q _ (I.hok.fresh (Nat.le_refl _))⟩
 exact ⟨Nat.le_trans (Zdv xs lo hi) hz,_,0,(r.drop (HT.sIx xs.length 0 lo)).take (HT.sIx xs.length xs.length hi - HT.sIx xs.length 0 lo),Heap.get?_push_size _ rfl⟩
def Ws:V→Bool
 | .non=>true
 | .bl _=>true
 | .int _=>true
 | .str _=>true
 | _=>false
def eqV:V→V→Bool
 | .non,.non=>true
 | .bl a,.bl b=>a == b
 | .bl a,.int b=>(if a then 1 else 0) == b
 | .int a,.bl b=>a == (if b then 1 else 0)
 | .int a,.int b=>a == b
 | .str a,.str b=>a == b
 | _,_=>false
theorem Zlp {A:Around} {s:Shared} {y x:V} {u v:Value} (ry:RelV y u) (rx:RelV x v) (fy:Ws y=true) (fx:Ws x=true):SeqAt.EqAt A s u v (eqV y x):=by
 cases y with
 | non =>
   cases ry
   cases x with
   | non=>cases rx;exact SeqAt.EqAt.same _
   | bl b=>cases rx;exact SeqAt.EqAt.none_bool b
   | int b=>obtain ⟨t,rfl⟩:=rx;exact SeqAt.EqAt.none_int b t
   | str b=>obtain ⟨t,rfl⟩:=rx;exact SeqAt.EqAt.none_str b t
   | _=>exact absurd (show false=true from fx) Bool.false_ne_true
 | bl a =>
   cases ry
   cases x with
   | non=>cases rx;exact SeqAt.EqAt.bool_none a
   | bl b=>cases rx;exact SeqAt.EqAt.bool_bool a b
   | int b=>obtain ⟨t,rfl⟩:=rx;exact SeqAt.EqAt.bool_int a b t
   | str b=>obtain ⟨t,rfl⟩:=rx;exact SeqAt.EqAt.bool_str a b t
   | _=>exact absurd (show false=true from fx) Bool.false_ne_true
 | int a =>
   obtain ⟨t',rfl⟩:=ry
   cases x with
   | non=>cases rx;exact SeqAt.EqAt.int_none a t'
   | bl b=>cases rx;exact SeqAt.EqAt.int_bool a t' b
   | int b=>obtain ⟨t,rfl⟩:=rx;exact SeqAt.EqAt.int_int a t' b t
   | str b=>obtain ⟨t,rfl⟩:=rx;exact SeqAt.EqAt.int_str a t' b t
   | _=>exact absurd (show false=true from fx) Bool.false_ne_true
 | str a =>
   obtain ⟨t',rfl⟩:=ry
   cases x with
   | non=>cases rx;exact SeqAt.EqAt.str_none a t'
   | bl b=>cases rx;exact SeqAt.EqAt.str_bool a t' b
   | int b=>obtain ⟨t,rfl⟩:=rx;exact SeqAt.EqAt.str_int a t' b t
   | str b=>obtain ⟨t,rfl⟩:=rx;exact SeqAt.EqAt.str_str a t' b t
   | _=>exact absurd (show false=true from fx) Bool.false_ne_true
 | _=>exact absurd (show false=true from fy) Bool.false_ne_true
def eqU (x:V) (u:Value):Bool:=match u with
 | .none=>eqV .non x
 | .bool b=>eqV (.bl b) x
 | .int i _=>eqV (.int i) x
 | .str z _=>eqV (.str z) x
 | _=>false
theorem ZgH {x y:V} {u:Value} (r:RelV y u) (f:Ws y=true):eqU x u=eqV y x:=by
 cases y with
 | non=>cases r;rfl
 | bl b=>cases r;rfl
 | int i=>obtain ⟨t,rfl⟩:=r;rfl
 | str z=>obtain ⟨t,rfl⟩:=r;rfl
 | _=>exact absurd (show false=true from f) Bool.false_ne_true
theorem Zbd {x:V}:∀ {xs:List V} {us:List Value},Vals xs us→xs.all Ws=true→us.any (eqU x)=xs.any fun y=>eqV y x
 | _,_,.nil,_=>rfl
 | y::xs,u::us,.cons r t,f=>by
   rw [List.all_cons,Bool.and_eq_true] at f
   rw [List.any_cons,List.any_cons,ZgH r f.1,Zbd t f.2]
theorem VO {A:Around} {s:Shared} {x:V} {v:Value} (rx:RelV x v) (fx:Ws x=true):∀ {xs:List V} {us:List Value},Vals xs us→xs.all Ws=true→∀ u∈us,SeqAt.EqAt A s u v (eqU x u)
 | _,_,.nil,_=>fun u hu=>by cases hu
 | y::xs,u::us,.cons r t,f=>fun u' hu=>by
   rw [List.all_cons,Bool.and_eq_true] at f
   rcases List.mem_cons.mp hu with rfl | hu
   · rw [ZgH r f.1];exact Zlp r rx f.1 fx
   · exact VO rx fx t f.2 u' hu
def inV (x:V) (xs:List V):Bool:=xs.any fun y=>eqV y x
def rIn (K:PySem.W.Frag) (neg:Bool):R2:=fun x y H Q=>∃ p xs,y=.ref p∧(SqL K H p xs∨SqT K H p xs)∧Ws x=true∧xs.all Ws=true∧Q (.bl (if neg then !inV x xs else inV x xs)) H
theorem Zco:Xc X (compareOp .NotIn) (rIn X.K true):=by
 intro pins s σ H x y v u Q I rx ry h
 obtain ⟨p,xs,rfl,hq,fx,fs,q⟩:=h
 cases ry
 rcases hq with hq | hq
 · obtain ⟨its,r,pl,hz⟩:=I.list hq
   refine SeqAt.notIn_listAt (eqU x) pl.isList (fun w hw=>VO rx fx r fs w (by simpa using hw)) ⟨.bl _,H,I,rfl,?_⟩
   rw [show its.toArray.any (eqU x)=its.any (eqU x) by simp,Zbd r fs]
   exact q
 · obtain ⟨its,r,pl,hz⟩:=I.tuple hq
   refine SeqAt.notIn_tupleAt (eqU x) pl (fun w hw=>VO rx fx r fs w (by simpa using hw)) ⟨.bl _,H,I,rfl,?_⟩
   rw [show its.toArray.any (eqU x)=its.any (eqU x) by simp,Zbd r fs]
   exact q
theorem ZG:Yv X (.builtin "len") (fun xs H Q=>∃ p ys,xs=[.ref p]∧(SqL X.K H p ys∨SqT X.K H p ys)∧Q (.int ys.length) H):=by
 intro pins s σ H xs us Q I r h
 obtain ⟨p,ys,rfl,hq,q⟩:=h
 obtain ⟨u,rfl,rx⟩:=Yr r
 cases rx
 have hn:=WF
 rcases hq with hq | hq
 · obtain ⟨its,r',pl,hz⟩:=I.list hq
   have hlen:=r'.length
   exact Calls.call_len_list pl.isList (by simp only [List.size_toArray] <;> omega) ⟨.int ys.length,H,I.tok _,⟨s.toks+1,by rw [List.size_toArray,hlen]⟩,q⟩
 · obtain ⟨its,r',pl,hz⟩:=I.tuple hq
   have hlen:=r'.length
   exact len_tuple pl (by simp only [List.size_toArray] <;> omega) ⟨.int ys.length,H,I.tok _,⟨s.toks+1,by rw [List.size_toArray,hlen]⟩,q⟩
theorem Ve:Yv X (.type "list") (fun xs H Q=>∃ p ys,xs=[.ref p]∧(SqL X.K H p ys∨SqT X.K H p ys)∧∀ l,H l=none→Q (.ref l) (upd H l (.lst ys))):=by
 intro pins s σ H xs us Q I r h
 obtain ⟨p,ys,rfl,hq,q⟩:=h
 obtain ⟨u,rfl,rx⟩:=Yr r
 cases rx
 have fin:∀ (its:List Value),Vals ys its→ys.length≤sizeLine→∀ (h':Heap) (c':Nat),(∀ b o',s.heap.get? b=some o'→h'.get? b=some o') →
     h'.get? s.heap.objs.size=some { cls:=.type "list",dict:=none,data:=.seq its.toArray c',slots:=#[] }→EP X pins σ Q (.ref s.heap.objs.size) { s with heap:=h' }:=fun its r' hz h' c' kp e =>
   ⟨.ref s.heap.objs.size,_,I.laid (t':=s.toks) kp (Nat.le_refl _) (show ObjOk X.prog X.w _ h' _ (.lst ys) from ⟨hz,its,c',r',e⟩),rfl,q _ (I.hok.fresh (Nat.le_refl _))⟩
 rcases hq with hq | hq
 · obtain ⟨its,r',pl,hz⟩:=I.list hq
   have hlen:=r'.length
   obtain ⟨o,ho,hc,n,hd⟩:=pl.isList
   exact call_list_seq p (.inl rfl) ho hc hd (fun h' c' kp e=>fin its r' hz h' c' kp e) (by simp only [List.size_toArray] <;> omega)
 · obtain ⟨its,r',pl,hz⟩:=I.tuple hq
   have hlen:=r'.length
   obtain ⟨o,ho,hc,n,hd⟩:=pl
   exact call_list_seq p (.inr rfl) ho hc hd (fun h' c' kp e=>fin its r' hz h' c' kp e) (by simp only [List.size_toArray] <;> omega)
theorem ZbO:Yv X (.type "tuple") (fun xs H Q=>∃ p ys,xs=[.ref p]∧((SqL X.K H p ys∧∀ l,H l=none→Q (.ref l) (upd H l (.tup ys)))∨(SqT X.K H p ys∧Q (.ref p) H))):=by
 intro pins s σ H xs us Q I r h
 obtain ⟨p,ys,rfl,h⟩:=h
 obtain ⟨u,rfl,rx⟩:=Yr r
 cases rx
 rcases h with ⟨hq,q⟩ | ⟨hq,q⟩
 · obtain ⟨its,r',pl,hz⟩:=I.list hq
   have hlen:=r'.length
   refine call_tuple_list pl.isList (fun h' kp=>?_) (by simp only [List.size_toArray] <;> omega)
   have I1:Inv X pins σ H { s with heap:=h' }:=I.kept (t':=s.toks) kp
   have I2:Inv X pins σ (upd H h'.objs.size (.tup ys)) { s with heap:=h'.push { cls:=.type "tuple",data:=.seq its.toArray } } :=
     I1.laid (t':=s.toks) (fun b o e=>Heap.get?_push_of_some _ e) (Nat.le_refl _) (show ObjOk X.prog X.w _ _ _ (.tup ys) from ⟨hz,its,r',IsTup.new _ _⟩)
   exact ⟨.ref h'.objs.size,_,I2,rfl,q _ (I1.hok.fresh (Nat.le_refl _))⟩
 · obtain ⟨its,r',pl,hz⟩:=I.tuple hq
   exact call_tuple_same pl ⟨.ref p,H,I,rfl,q⟩
def tyV (K:PySem.W.Frag) (T:String) (x:V) (H:Hp):Prop:=match x with
 | .str _=>T="str"
 | .int _=>T="int"
 | .ref p=>(T="list"∧∃ xs,SqL K H p xs)∨(T="tuple"∧∃ o,K.lookup p=some o∧o.cls=.type "tuple"∧o.dict=none) ∨
     (T="dict"∧((∃ kvs,H p=some (.dK kvs))∨∃ kvs,H p=some (.dT kvs)))∨(T="set"∧∃ S n,H p=some (.set S n))
 | _=>False
theorem Zgf {pins:List (Addr×Obj)} {σ:St} {H:Hp} {s:Shared} {T:String} {x:V} {v:Value} (I:Inv X pins σ H s) (r:RelV x v) (ty:tyV X.K T x H) :
   s.TypeIs v T∧∀ a,v=.ref a→∃ ob,s.heap.get? a=some ob∧ob.dict=none:=by
 cases x with
 | str z =>
   obtain ⟨t,rfl⟩:=r
   cases (show T="str" from ty)
   exact ⟨typeIs_str s z t,fun _ e=>nomatch e⟩
 | int i =>
   obtain ⟨t,rfl⟩:=r
   cases (show T="int" from ty)
   exact ⟨typeIs_int s i t,fun _ e=>nomatch e⟩
 | ref p =>
   cases r
   rcases ty with ⟨rfl,xs,hq⟩ | ⟨rfl,o,hk,hc,hd⟩ | ⟨rfl,hk⟩ | ⟨rfl,S,n,hk⟩
   · obtain ⟨its,_,pl,_⟩:=I.list hq
     refine ⟨pl.isList.typeIs,fun a e=>?_⟩
     cases e
     obtain ⟨o,n,e,c,hd,_⟩:=pl
     exact ⟨o,e,hd⟩
   · refine ⟨⟨o,I.kIn p o hk,hc⟩,fun a e=>?_⟩
     cases e
     exact ⟨o,I.kIn _ o hk,hd⟩
   · have z:∃ o,s.heap.get? p=some o∧o.ExactDict:=by
       rcases hk with ⟨kvs,hk⟩ | ⟨kvs,hk⟩
       · obtain ⟨_,_,_,_,o,_,_,e,ex,_⟩:=I.hok p _ hk
         exact ⟨o,e,ex⟩
       · obtain ⟨_,_,_,_,o,_,_,e,ex,_⟩:=I.hok p _ hk
         exact ⟨o,e,ex⟩
     obtain ⟨o,e,ex⟩:=z
     refine ⟨⟨o,e,ex.1⟩,fun a e2=>?_⟩
     cases e2
     exact ⟨o,e,ex.2.1⟩
   · obtain ⟨o,_,_,_,e,ex,_⟩:=I.hok p _ hk
     refine ⟨⟨o,e,ex.1⟩,fun a e2=>?_⟩
     cases e2
     exact ⟨o,e,ex.2.1⟩
 | _=>exact False.elim ty
def tBM0 (K:PySem.W.Frag) (T:String) (r:V→List V→Hp→VK→Prop) (to:TE):TE:=fun σ H Q=>to σ H fun x H1=>tyV K T x H1∧r x [] H1 Q
def tBM (K:PySem.W.Frag) (T:String) (r:V→List V→Hp→VK→Prop) (to:TE) (t:TA):TE:=fun σ H Q=>to σ H fun x H1=>tyV K T x H1∧t σ H1 fun xs H2=>r x xs H2 Q
variable {o e:Expr} {es:List Expr} {to:TE} {t:TA} {name:Str} {apos cpos:Pos} {T id:String} {r:V→List V→Hp→VK→Prop}
theorem Zll (pa:PlainAttrs T) (slot:Slot T name id) (hty:typeOf (.builtin id)=pure (.type "method_descriptor")) (hm:MtR X id r) (ho:PE X o to)
   (hbase:attributeBase o name X.env (eval o X.env)=eval o X.env:=by rfl) (hline:(apos.endLine == cpos.line)=true:=by rfl):PE X (.Call (.Attribute o name apos) [] [] cpos) (tBM0 X.K T r to):=by
 intro pins s σ H Q I h
 refine wpAny_Call_method0_late hbase hline (Zm (ho pins s σ H _ I h) fun v s1 ⟨x,H1,I1,r1,ty,q1⟩=>?_)
 obtain ⟨h1,h2⟩:=Zgf I1 r1 ty
 exact ⟨T,id,pa,slot,hty,h1,h2,Calls.callWith_builtin rfl (PySem.evalArgs_none (hm pins s1 σ H1 x [] v [] Q I1 r1 .nil q1))⟩
theorem Xg (pa:PlainAttrs T) (slot:Slot T name id) (hty:typeOf (.builtin id)=pure (.type "method_descriptor")) (hm:MtR X id r) (ho:PE X o to) (ha:PA X (e::es) t)
   (hbase:attributeBase o name X.env (eval o X.env)=eval o X.env:=by rfl)
   (hfew:((backTo cpos (starEach (e::es) X.env)).all (fun x=>!x.1) && (backToKw cpos (keywordEach [] X.env)).all (fun x=>x.1.isSome)
     && decide ((e::es).length+([]:List Keyword).length+(if ([]:List Keyword).isEmpty then 0 else 1) < 30))=true:=by rfl)
   (hline:(apos.endLine == cpos.line)=true:=by rfl) (hs:starEach (e::es) X.env=(false,eval e X.env)::starEach es X.env:=by rfl) (hplain:(backTo cpos (starEach es X.env)).any (·.1)=false:=by rfl) :
   PE X (.Call (.Attribute o name apos) (e::es) [] cpos) (tBM X.K T r to t):=by
 intro pins s σ H Q I h
 refine wpAny_Call_method_late hbase hfew hline rfl (Zm (ho pins s σ H _ I h) fun v s1 ⟨x,H1,I1,r1,ty,q1⟩=>?_)
 obtain ⟨h1,h2⟩:=Zgf I1 r1 ty
 refine ⟨T,id,pa,slot,hty,h1,h2,?_⟩
 have hA:=ha cpos pins s1 σ H1 _ I1 q1
 rw [hs] at hA ⊢
 refine Calls.callWith_builtin (by show (false || (backTo cpos (starEach es X.env)).any (·.1))=false;rw [hplain] <;> rfl) (Calls.evalArgs_plain ?_)
 exact Zm hA fun us s2 ⟨vs,H2,I2,r2,q2⟩=>hm pins s2 σ H2 x vs v us Q I2 r1 r2 q2
end
end L2
namespace L2
open PySem PySem.Spec PyProof.Rows
def MtM (X:Cx) (id:String) (r:V→List V→Hp→VK→Prop):Prop :=
 ∀ (pins:List (Addr×Obj)) (s:Shared) (σ:St) (H:Hp) (x:V) (xs:List V) (v:Value) (us:List Value) (Q:VK),Inv X pins σ H s→RelV x v→Vals xs us→r x xs H Q →
   wpAny (model X.prog X.w) X.A (call (.builtin id) (v::us)) (EP X pins σ Q) X.xe s
theorem Vals.one:∀ {x:V} {us:List Value},Vals [x] us→∃ u,us=[u]∧RelV x u
 | _,_,.cons r .nil=>⟨_,rfl,r⟩
theorem Vals.rep {xs:List V} {us:List Value} (h:Vals xs us):∀ k:Nat,Vals (List.replicate k xs).flatten (List.replicate k us).flatten
 | 0=>.nil
 | k+1=>by
   rw [List.replicate_succ,List.replicate_succ,List.flatten_cons,List.flatten_cons]
   exact Vals.append h (Vals.rep h k)
theorem ZbG (its:List Value):∀ (k:Nat) (acc:List Value),
   List.foldl (fun x1 x2=>x1++x2) acc.toArray (List.replicate k its.toArray)=(acc++(List.replicate k its).flatten).toArray
 | 0,acc=>by simp
 | k + 1,acc=>by
   have e:acc.toArray++its.toArray=(acc++its).toArray:=by simp
   have e2:(acc++its)++(List.replicate k its).flatten=acc++(List.replicate (k+1) its).flatten:=by
     rw [List.replicate_succ,List.flatten_cons,List.append_assoc]
   rw [← e2,← ZbG its k (acc++its),← e,List.replicate_succ,List.foldl_cons]
section
variable {X:Cx} {pins:List (Addr×Obj)} {σ:St} {H:Hp} {s:Shared} {l b:Addr} {xs ys zs:List V}
theorem Inv.lset {its its':List Value} {n:Nat} {f:Array Value→Array Value} {t':Nat} (I:Inv X pins σ H s) (hH:H l=some (.lst xs))
   (e:s.heap.get? l=some { cls:=.type "list",data:=.seq its.toArray n }) (hf:f its.toArray=its'.toArray) (hv:Vals ys its') (hz:ys.length≤sizeLine) :
   Inv X pins σ (upd H l (.lst ys)) { s with heap:=s.heap.update l (Obj.mapSeq f),toks:=t' }:=by
 have q:=PySem.IsL.update e f
 rw [hf] at q
 refine I.write (x:=l) (e:=l) (by rw [hH];exact trivial) (.inl rfl) (fun b' u hb hu=>(Heap.get?_update_other s.heap (Obj.mapSeq f) (Ne.symm hb)).trans hu) ⟨_,q⟩ ?_
 exact ⟨hz,its',_,hv,q⟩
theorem Inv.lnew {its:List Value} {t':Nat} (I:Inv X pins σ H s) (hv:Vals ys its) (hz:ys.length≤sizeLine) :
   Inv X pins σ (upd H s.heap.objs.size (.lst ys)) { s with heap:=s.heap.push { cls:=.type "list",data:=.seq its.toArray },toks:=t' } :=
 I.laid (fun _ _ q=>Heap.get?_push_of_some _ q) (Nat.le_refl _) ⟨hz,its,0,hv,Heap.get?_push_size _ rfl⟩
theorem Inv.fresh (I:Inv X pins σ H s):H s.heap.objs.size=none:=I.hok.fresh (Nat.le_refl _)
theorem Inv.lstM (I:Inv X pins σ H s) (hH:H l=some (.lst xs)):xs.length≤sizeLine∧∃ (its:List Value) (n:Nat),Vals xs its∧xs.length=its.length∧s.heap.get? l=some { cls:=.type "list",data:=.seq its.toArray n }:=by
 obtain ⟨z,its,n,r,e⟩:=I.hok l _ hH
 exact ⟨z,its,n,r,r.length,e⟩
theorem Zcg {n:Nat} (h:n≤sizeLine):Builtin.List.listTooLong n=false:=by
 unfold Builtin.List.listTooLong
 exact decide_eq_false (by omega)
end
section
variable {X:Cx}
def Zjp:V→List V→Hp→VK→Prop:=fun x vs H Q=>∃ l xs y,x=.ref l∧vs=[y]∧H l=some (.lst xs)∧xs.length < sizeLine∧Q .non (upd H l (.lst (xs++[y])))
theorem Yt:MtM X "list.append" Zjp:=by
 intro pins s σ H x vs v us Q I rx rv h
 obtain ⟨l,xs,y,rfl,rfl,hH,hz,q⟩:=h
 cases rx
 obtain ⟨u,rfl,ru⟩:=rv.one
 obtain ⟨z,its,n,r,hl,e⟩:=I.lstM hH
 refine call_meets F.slot_list_append ⟨_,e,rfl⟩ F.entry_list_append (F.args_list_append_2 _ _) (PySem.list_append l its.toArray n u (by rw [List.size_toArray];omega)) ⟨e,?_⟩
 refine ⟨.non,_,I.lset (its':=its++[u]) hH e (by simp) (r.append (.cons ru .nil)) ?_,rfl,q⟩
 rw [List.length_append,List.length_singleton]
 omega
def Zjx:V→List V→Hp→VK→Prop:=fun x vs H Q=>∃ l b xs zs,x=.ref l∧vs=[.ref b]∧H l=some (.lst xs)∧H b=some (.lst zs)∧xs.length+zs.length≤sizeLine∧Q .non (upd H l (.lst (xs++zs)))
theorem Zgy:MtM X "list.extend" Zjx:=by
 intro pins s σ H x vs v us Q I rx rv h
 obtain ⟨l,b,xs,zs,rfl,rfl,hH,hB,hz,q⟩:=h
 cases rx
 obtain ⟨u,rfl,ru⟩:=rv.one
 cases ru
 obtain ⟨z,its,n,r,hl,e⟩:=I.lstM hH
 obtain ⟨z2,its2,n2,r2,hl2,e2⟩:=I.lstM hB
 have hsz:its.toArray.size+its2.toArray.size≤sizeLine:=by rw [List.size_toArray,List.size_toArray];omega
 have hlong:¬ (!its.toArray.isEmpty && Builtin.List.listTooLong (its.toArray.size+its2.toArray.size))=true:=by
   rw [Zcg hsz,Bool.and_false]
   exact Bool.false_ne_true
 refine call_meets F.slot_list_extend ⟨_,e,rfl⟩ F.entry_list_extend (F.args_list_extend_2 _ _)
   (AutoSeq1.list_extend_list_list_0 l its.toArray n b its2.toArray n2 hlong (by rw [List.size_toArray];omega) (by omega)) ⟨e,e2,?_⟩
 refine ⟨.non,_,I.lset (its':=its++its2) hH e (by simp) (r.append r2) ?_,rfl,q⟩
 rw [List.length_append]
 omega
def rCat:R2:=fun x y H Q=>∃ l b xs zs,x=.ref l∧y=.ref b∧H l=some (.lst xs)∧H b=some (.lst zs)∧xs.length+zs.length≤sizeLine∧∀ p,H p=none→Q (.ref p) (upd H p (.lst (xs++zs)))
theorem Zct:Xc X (binaryOp .Add) rCat:=by
 intro pins s σ H x y v u Q I rx ry h
 obtain ⟨l,b,xs,zs,rfl,rfl,hH,hB,hz,q⟩:=h
 cases rx
 cases ry
 obtain ⟨z,its,n,r,hl,e⟩:=I.lstM hH
 obtain ⟨z2,its2,n2,r2,hl2,e2⟩:=I.lstM hB
 refine PySem.P.add_list e e2 ?_ (by rw [List.size_toArray,List.size_toArray];omega)
 have ea:its.toArray++its2.toArray=(its++its2).toArray:=by simp
 rw [ea]
 exact ⟨.ref _,_,I.lnew (t':=s.toks) (r.append r2) (by rw [List.length_append];omega),rfl,q _ I.fresh⟩
def rRep:R2:=fun x y H Q=>∃ l k xs,x=.ref l∧y=.int k∧H l=some (.lst xs)∧-(2 ^ 63)≤k∧k < 2 ^ 63∧xs.length * k.toNat≤sizeLine ∧
 ∀ p,H p=none→Q (.ref p) (upd H p (.lst (List.replicate k.toNat xs).flatten))
theorem ZjH {α:Type} (xs:List α) (k:Nat):(List.replicate k xs).flatten.length=k * xs.length:=by
 induction k with
 | zero=>simp
 | succ k ih=>rw [List.replicate_succ,List.flatten_cons,List.length_append,ih,Nat.succ_mul,Nat.add_comm]
theorem Zky:Xc X (binaryOp .Mult) rRep:=by
 intro pins s σ H x y v u Q I rx ry h
 obtain ⟨l,k,xs,rfl,rfl,hH,h1,h2,hz,q⟩:=h
 cases rx
 obtain ⟨t,rfl⟩:=ry
 obtain ⟨z,its,n,r,hl,e⟩:=I.lstM hH
 have hlen:its.toArray.size * k.toNat≤sizeLine:=by rw [List.size_toArray,← hl];exact hz
 have hcap:¬ its.toArray.size * k.toNat > (2 ^ 63 - 1) / 8:=by
   have:(sizeLine:Nat)≤(2 ^ 63 - 1) / 8:=by decide
   omega
 have hfit:¬ (!Builtin.List.listFitsIndex k)=true:=by
   rw [fitsIndex_both h1 h2]
   exact Bool.false_ne_true
 have hlong:¬ Builtin.List.listTooLong (its.toArray.size * k.toNat)=true:=by
   rw [Zcg hlen]
   exact Bool.false_ne_true
 have hnew:List.foldl (fun x1 x2=>x1++x2) #[] (List.replicate (if its.toArray.isEmpty=true then 0 else k.toNat) its.toArray)=(List.replicate k.toNat its).flatten.toArray:=by
   have f0:∀ m:Nat,List.foldl (fun x1 x2=>x1++x2) #[] (List.replicate m its.toArray)=(List.replicate m its).flatten.toArray:=fun m=>by
     have:=ZbG its m []
     rw [List.nil_append] at this
     exact this
   rw [f0]
   cases its with
   | nil=>simp
   | cons a r'=>rw [if_neg (by simp)]
 refine wpAny_binaryOp_repeat_ref (T:="list") (U:="int") (by decide) ⟨_,e,rfl⟩ (fun s'=>typeIs_int s' k t) noFill_list_mul F.fills_int_mul F.slot_int_rmul repeat_list F.slot_int_index.lookup
   (call_meets F.slot_int_rmul (typeIs_int s k t) F.entry_int_rmul (F.args_int_rmul_2 _ _) (int___rmul___int_list k t l its.toArray n)
     ⟨e,rfl,⟨_,e,rfl⟩,call_meets F.slot_list_mul ⟨_,e,rfl⟩ F.entry_list_mul (F.args_list_mul_2 _ _) (AutoListH.list___mul___list_int_3 l its.toArray n k t hfit hcap hlong) ⟨e,?_⟩⟩)
 rw [hnew]
 exact ⟨.ref _,_,I.lnew (t':=s.toks) (r.rep k.toNat) (by rw [ZjH,Nat.mul_comm];exact hz),rfl,q _ I.fresh⟩
end
section
variable {prog:Program} {w:World} {A:Around} {E:Value→Shared→Prop} {s:Shared}
end
section
variable {X:Cx}
end
end L2
namespace Att
open PySem PySem.W PySem.Calls PyProof.Rows
theorem Zaj {P:Params} {h:Heap}:∀ (ns:List Int) (vs:List Value),WellAll P h vs (ns.map WData.int)→IntsAre vs ns:=by
 intro ns
 induction ns with
 | nil =>
   intro vs w
   rw [List.map_nil] at w
   cases w
   exact .nil
 | cons n ns ih =>
   intro vs w
   rw [List.map_cons] at w
   cases w with
   | cons a b =>
     cases a
     exact .cons _ _ (ih _ b)
theorem Zgk {l:OpenLaw} {n:Nat} (hn:l.most=some n) {P:Params} {h:Heap} {args:List WData} {vals:List Value}
   (hpre:l.row.toRowW.claim.pre args=true) (hwl:WellAll P h vals args) :
   ∃ a vs ns,vals=[Value.ref a]∧args=[WData.list (ns.map WData.int)]∧h.get? a=some { cls:=.type "list",data:=.seq vs.toArray }∧IntsAre vs ns∧ns.length≤n:=by
 have hsh:WShape.hasAll [] args [.list .int]=true:=(pre_splitW hpre).1
 have hc:l.pre.holds [] { args:=args }=true:=(pre_splitW hpre).2
 obtain ⟨d,r,rfl,h1,h2⟩:=hasAllW_cons hsh
 obtain rfl:=hasAllW_nil h2
 obtain ⟨xs,rfl,h3⟩:=hasW_list h1
 obtain ⟨ns,rfl⟩:=items_int h3
 have hlen:ns.length≤n:=by
   unfold OpenLaw.pre at hc
   have h4:(WTm.not (.lt (.lit (.int (n:Int))) (.len (.arg 0)))).holds [] { args:=[.list (ns.map .int)] }=true:=by
     have h4:=(holds_andW hc).1
     rw [hn] at h4
     exact h4
   have h5:=condW_of h4 (w_not (w_lt w_lit (w_len_list (w_arg rfl))))
   rw [List.length_map] at h5
   refine Nat.le_of_not_lt fun q=>?_
   have q':(n:Int) < ((ns.length:Nat):Int):=by omega
   first
     | (rw [decide_eq_true q'] at h5;exact absurd h5 (by decide))
     | (simp at h5;omega)
 cases hwl with
 | cons w1 w2 =>
   cases w2
   cases w1 with
   | list ho hall=>exact ⟨_,_,ns,rfl,rfl,ho,Zaj ns _ hall,hlen⟩
theorem ZfI (l:OpenLaw) (args:List WData):l.row.toRowW.claim.post args (.bool true) args=true :=
 postW_of (r:=l.row.toRowW) (X:=(true == true))
   (show WShape.has [] (.bool true) .bool=true by first | rfl | decide | simp [WShape.has,WShape.arms,WShape.armsAll])
   (show (WTm.eq .res (.lit (.bool true))).value [] { args:=args,res:=some (.bool true),after:=args }=some (.bool (true == true)) from w_eq_bool (w_res rfl) w_lit) rfl
theorem attach_call {l:OpenLaw} {n:Nat} {q:Program} {loose:List Str} {XP:(Str→Option Value)→Heap→Prop} {YP:World→Heap→Prop} {d:DefRec}
   (hn:l.most=some n) (hdf:d.params.defaults=[])
   (call:∀ (w:World) (s₀ s₁:Shared) (mg mb:Str→Option Value) (fa:Addr) (o:Obj) (pm cd doc:Value) (a:Addr) (vs:List Value) (ns:List Int),
     Ground q loose [] XP w s₀ mg mb s₁.heap→YP w s₁.heap →
     s₁.heap.get? fa=some o→o.data=.func (docDef d.name d.params d.body d.scope pm cd doc)→s₁.heap.CodeRec cd d.name→mg d.name=some (.ref fa) →
     s₁.heap.get? a=some { cls:=.type "list",data:=.seq vs.toArray }→IntsAre vs ns→ns.length≤n→s₁.gens=#[] →
     codeAny (model l.prog w) callerA (.call (.ref fa) ⟨[.ref a],[]⟩) (fun r s'=>r=.ok (.ret (.bool true))∧OldK s₁.heap s'.heap∧s'.os=s₁.os∧AllBare s'.gens) s₁) :
   WalkO q loose XP YP l.row.toRowW d [] (fun f vs=>PySem.call f vs):=by
 intro w s₀ s₁ mg mb G Y fa o pm cd doc dV kV ho hd hcd hD hmg hg args vals as hpre hlay hrd hwl hlo
 obtain rfl:dV=.none:=Dflts.none hD hdf
 obtain rfl:kV=.none:=Dflts.noKw hD
 obtain ⟨a,vs,ns,rfl,rfl,hobj,hints,hlen⟩:=Zgk hn hpre hwl
 refine enter_call (codeAny_mono (call w s₀ s₁ mg mb fa o pm cd doc a vs ns G Y ho (fd_plain hd) hcd hmg hobj hints hlen hg) fun r s' hq=>?_)
 obtain ⟨rfl,h2,h3,h4⟩:=hq
 exact ⟨.inl ⟨.bool true,.bool true,[],rfl,fun _=>rfl,.bool true,ZfI l _,fun _=>⟨List.Pairwise.nil,fun _ hm=>(nomatch hm)⟩⟩,h2,h3,h4⟩
section
variable {prog:Program} {w:World} {A:Around} {E:Value→Shared→Prop} {s:Shared} {K:Frag}
end
end Att
namespace L2
open PySem PySem.Spec PyProof.Rows
theorem Vc:∀ {vs:List Value} {ns:List Int},IntsAre vs ns→Vals (ns.map V.int) vs
 | _,_,.nil=>.nil
 | _,_,.cons n t h=>.cons ⟨t,rfl⟩ (Vc h)
end L2
namespace L2
open PySem PySem.Spec PyProof.Rows
end L2
namespace L2
open PySem PySem.Spec PyProof.Rows
def ZZ (s:Stmt) (j:Nat):Stmt:=match s with
 | .ClassDef _ _ _ body _ _ _ _ _ _ _=>body.getD j (.Pass ⟨0,0,0,0⟩)
 | _=>.Pass ⟨0,0,0,0⟩
def Vu (s:Stmt):Arguments:=match s with
 | .FunctionDef _ a _ _ _ _ _ _ _ _=>a
 | _=>{ posonlyargs:=[],args:=[],vararg:=none,kwonlyargs:=[],kw_defaults:=[],kwarg:=none,defaults:=[] }
def XI (s:Stmt):List Stmt:=match s with
 | .FunctionDef _ _ b _ _ _ _ _ _ _=>b
 | _=>[]
def Zl (s:Stmt):Scope:=match s with
 | .FunctionDef _ _ _ _ _ _ sc _ _ _=>sc
 | _=>{ kind:=.function,names:=[],isGenerator:=false,isCoroutine:=false }
abbrev ZH:UR:=fun _ _ _ _ _ _=>False
abbrev E0:XK:=fun _ _ _=>False
theorem ZbW {X:Cx}:WD ZH X E0:=fun _ _ _ _ _ _ _ h=>h.elim
structure Fun (K:PySem.W.Frag) (x qual:Str) (st:Stmt) (f:Addr) (fd:FuncData):Prop where
 ex:∃ (oc:Value) (od:Option Addr) (kV doc pm:Value) (an:Option Addr) (cdv ct:Value) (osl:Array (Option Value)),
   fd=PySem.W.fnOf x qual (Vu st) (XI st) (Zl st) .none kV doc pm an cdv ct∧K.lookup f=some ⟨oc,od,.func fd,osl⟩∧PySem.W.codeIn K cdv qual=true
 kp:PySem.W.keepIn K (.ref f)=true
section
variable {P:Program} {w:World} {K:PySem.W.Frag} {mg:Str→Option Value} {base:Heap}
theorem Fun.ok {x qual:Str} {st:Stmt} {f:Addr} {fd:FuncData} {N ps:List Str} {k:Nat} {sp:Sp} (F:Fun K x qual st f fd) (S:Zs N ps (Zl st)) (len:∀ vs H Q E,sp vs H Q E→vs.length=ps.length)
   (hbody:∀ (cdv:Value) (A:Around) (outer:List Env) (s:Shared) (H:Hp) (vs:List V) (Q:VK) (E:XK),Room k (A.deeper (envOfC qual (Zl st) s.heap.objs.size f cdv))→sp vs H Q E →
     ∃ t,PSs (VM ZH P w K mg base N qual (Zl st) f cdv A outer s H E).nox (XI st) t∧t { nx:=fun _ H'=>Q .non H',rt:=Q } (start N vs) H):FnOk P w K mg base ZH (k+1) f fd ps sp:=by
 obtain ⟨oc,od,kV,doc,pm,an,cdv,ct,osl,rfl,lk,hcd⟩:=F.ex
 refine ZiN lk hcd S len fun A outer s H vs Q E hr hsp=>?_
 obtain ⟨t,h,q⟩:=hbody cdv A outer s H vs Q E hr hsp
 exact ⟨t,h.nox,q⟩
theorem Fun.binds {x qual:Str} {st:Stmt} {f:Addr} {fd:FuncData} {ps:List Str} (F:Fun K x qual st f fd)
   (h:∀ (kV doc pm:Value) (an:Option Addr) (cdv ct:Value) (us:List Value),us.length=ps.length→bindArgs (PySem.W.fnOf x qual (Vu st) (XI st) (Zl st) .none kV doc pm an cdv ct) ⟨us,[]⟩=pure (ps.zip us)):Binds K fd ps []:=by
 obtain ⟨oc,od,kV,doc,pm,an,cdv,ct,osl,rfl,lk,hcd⟩:=F.ex
 exact .all (h kV doc pm an cdv ct)
end
theorem UI {A:Around} {k:Nat} (hr:Room k A):A.units+1 < cLine:=Nat.lt_of_le_of_lt (Nat.add_le_add_left (by decide:1≤64) _) hr.units
theorem ZfH {n:Nat} (h:n≤1000):n < sizeLine:=Nat.lt_of_le_of_lt h (by decide)
section
variable {X:Cx}
theorem pv (i:Nat) {x:Str} {pos:Pos} (hN:X.N[i]?=some x:=by rfl) (hv:Vis X.env.scope x:=by first | exact Or.inl rfl | exact Or.inr (Or.inl rfl) | exact Or.inr (Or.inr rfl)) (hd:(x == ("__debug__":Str))=false:=by decide)
 (hcd:(x == ("__classdict__":Str))=false:=by decide):PE X (.Name x pos) (UZ i):=ZkQ hN hv hd hcd
end
theorem ZM {A B:Prop} (h:B):if false=true then A else B:=by
 rw [if_neg Bool.false_ne_true]
 exact h
theorem Yh {A B:Prop} (h:A):if true=true then A else B:=by
 rw [if_pos rfl]
 exact h
theorem Xs {c A B:Prop} [Decidable c] (h1:c→A) (h2:¬ c→B):if c then A else B:=by
 by_cases h:c
 · rw [if_pos h]
   exact h1 h
 · rw [if_neg h]
   exact h2 h
def Same (H H':Hp):Prop:=∀ b o,H b=some o→H' b=some o
theorem Same.refl (H:Hp):Same H H:=fun _ _ h=>h
theorem Same.trans {H H1 H2:Hp} (a:Same H H1) (b:Same H1 H2):Same H H2:=fun c o h=>b c o (a c o h)
end L2
namespace L2
open PySem PySem.Spec PyProof.Rows
section
variable {κ:Type} [DecidableEq κ]
def ZJ (kvs:List (κ×V)) (k:κ):Option V:=(kvs.find? fun kv=>decide (kv.1=k)).map (·.2)
def Yp (kvs:List (κ×V)) (k:κ) (v:V):List (κ×V) :=
 if (kvs.any fun kv=>decide (kv.1=k))=true then kvs.map (fun kv=>if kv.1=k then (kv.1,v) else kv) else kvs++[(k,v)]
def UK (kvs:List (κ×V)) (k:κ):List (κ×V):=kvs.filter fun kv=>decide (kv.1≠k)
theorem YF {p:κ×V} {r:List (κ×V)} {k:κ} (e:p.1=k):ZJ (p::r) k=some p.2:=by simp [ZJ,List.find?_cons,e]
theorem YE {p:κ×V} {r:List (κ×V)} {k:κ} (e:¬ p.1=k):ZJ (p::r) k=ZJ r k:=by simp [ZJ,List.find?_cons,e]
theorem UO (k:κ):∀ kvs:List (κ×V),(kvs.any fun kv=>decide (kv.1=k))=(ZJ kvs k).isSome
 | []=>rfl
 | p::r=>by
   rw [List.any_cons]
   by_cases e:p.1=k
   · simp only [YF e,decide_eq_true e,Bool.true_or,Option.isSome_some]
   · rw [YE e,decide_eq_false e,Bool.false_or];exact UO k r
theorem Zcz (k j:κ) (y:V):∀ kvs:List (κ×V),ZJ (kvs.map fun kv=>if kv.1=k then (kv.1,y) else kv) j=(ZJ kvs j).map fun x=>if j=k then y else x
 | []=>rfl
 | p :: r=>by
   have ih:=Zcz k j y r
   rw [List.map_cons]
   by_cases h:p.1=k
   · rw [if_pos h]
     by_cases e:p.1=j
     · rw [YF (p:=(p.1,y)) e,YF e,Option.map_some,if_pos (e.symm.trans h)]
     · rw [YE (p:=(p.1,y)) e,YE e,ih]
   · rw [if_neg h]
     by_cases e:p.1=j
     · rw [YF (p:=p) e,YF e,Option.map_some,if_neg (fun z=>h (e.trans z))]
     · rw [YE (p:=p) e,YE e,ih]
theorem Zbs (k j:κ) (y:V):∀ kvs:List (κ×V),ZJ kvs k=none→ZJ (kvs++[(k,y)]) j=if j=k then some y else ZJ kvs j
 | [],_=>by
   by_cases e:k=j
   · rw [if_pos e.symm];exact YF (p:=(k,y)) e
   · rw [if_neg (fun z=>e z.symm)];exact YE (p:=(k,y)) e
 | p::r,hn=>by
   rw [List.cons_append]
   have hk:¬ p.1=k:=fun z=>by rw [YF z] at hn;cases hn
   rw [YE hk] at hn
   have ih:=Zbs k j y r hn
   by_cases e:p.1=j
   · rw [YF e,YF e,if_neg (fun z=>hk (e.trans z))]
   · rw [YE e,YE e,ih]
theorem WJ (kvs:List (κ×V)) (k j:κ) (y:V):ZJ (Yp kvs k y) j=if j=k then some y else ZJ kvs j:=by
 unfold Yp
 by_cases a:(kvs.any fun kv=>decide (kv.1=k))=true
 · rw [if_pos a,Zcz]
   rw [UO] at a
   by_cases e:j=k
   · obtain ⟨x,hx⟩:=Option.isSome_iff_exists.mp a
     rw [if_pos e,e,hx,Option.map_some,if_pos rfl]
   · rw [if_neg e]
     cases ZJ kvs j with
     | none=>rfl
     | some x=>rw [Option.map_some,if_neg e]
 · rw [if_neg a]
   refine Zbs k j y kvs ?_
   rw [UO] at a
   cases q:ZJ kvs k with
   | none=>rfl
   | some x=>rw [q] at a;exact (a rfl).elim
theorem XB (kvs:List (κ×V)) (k:κ) (v:V):(Yp kvs k v).length≤kvs.length+1:=by
 unfold Yp
 split
 · rw [List.length_map];omega
 · rw [List.length_append,List.length_cons,List.length_nil];omega
theorem RelO.isSome_eq {o:Option V} {u:Option Value} (r:RelO o u):o.isSome=u.isSome:=by
 cases o with
 | none=>cases u with
   | none=>rfl
   | some _=>exact (show False from r).elim
 | some _=>cases u with
   | none=>exact (show False from r).elim
   | some _=>rfl
theorem RelO.getD {o:Option V} {u:Option Value} {d:V} {d':Value} (r:RelO o u) (rd:RelV d d'):RelV (o.getD d) (u.getD d'):=by
 cases o with
 | none=>cases u with
   | none=>exact rd
   | some _=>exact (show False from r).elim
 | some _=>cases u with
   | none=>exact (show False from r).elim
   | some _=>exact r
theorem KV.val {kvs:List (κ×V)} {vs:List (κ×Value)} (r:KV kvs vs) (k:κ):RelO (ZJ kvs k) (valueAt vs k):=by
 unfold KV at r
 induction r with
 | nil=>exact True.intro
 | @cons p q ps qs h t ih =>
   obtain ⟨h1,h2⟩:=h
   by_cases e:p.1=k
   · have e':q.1=k:=h1.symm.trans e
     have b:valueAt (q::qs) k=some q.2:=by simp [valueAt,List.find?_cons,e']
     rw [YF e,b];exact h2
   · have e':¬ q.1=k:=fun z=>e (h1.trans z)
     have b:valueAt (q::qs) k=valueAt qs k:=by simp [valueAt,List.find?_cons,e']
     rw [YE e,b];exact ih
theorem KV.any {kvs:List (κ×V)} {vs:List (κ×Value)} (r:KV kvs vs) (k:κ):(kvs.any fun kv=>decide (kv.1=k))=vs.any fun kv=>decide (kv.1=k):=by
 unfold KV at r
 induction r with
 | nil=>rfl
 | cons h t ih=>rw [List.any_cons,List.any_cons,ih,h.1]
theorem KV.repl {kvs:List (κ×V)} {vs:List (κ×Value)} (r:KV kvs vs) (k:κ) {y:V} {u:Value} (ry:RelV y u) :
   KV (kvs.map fun kv=>if kv.1=k then (kv.1,y) else kv) (vs.map fun kv=>if kv.1=k then (kv.1,u) else kv):=by
 unfold KV at r ⊢
 induction r with
 | nil=>exact .nil
 | @cons p q ps qs h t ih =>
   rw [List.map_cons,List.map_cons]
   refine .cons ?_ ih
   obtain ⟨h1,h2⟩:=h
   by_cases e:p.1=k
   · rw [if_pos e,if_pos (h1.symm.trans e)];exact ⟨h1,ry⟩
   · rw [if_neg e,if_neg (fun z=>e (h1.trans z))];exact ⟨h1,h2⟩
theorem KV.put {kvs:List (κ×V)} {vs:List (κ×Value)} (r:KV kvs vs) (k:κ) {y:V} {u:Value} (ry:RelV y u):KV (Yp kvs k y) (stored vs k u):=by
 unfold Yp stored
 rw [r.any k]
 by_cases e:(vs.any fun kv=>decide (kv.1=k))=true
 · rw [if_pos e,if_pos e];exact r.repl k ry
 · rw [if_neg e,if_neg e];exact Paired.snoc r ⟨rfl,ry⟩
theorem KV.drop {kvs:List (κ×V)} {vs:List (κ×Value)} (r:KV kvs vs) (k:κ):KV (UK kvs k) (without vs k):=by
 unfold KV at r ⊢
 unfold UK without
 induction r with
 | nil=>exact .nil
 | @cons p q ps qs h t ih =>
   obtain ⟨h1,h2⟩:=h
   rw [List.filter_cons,List.filter_cons]
   by_cases e:p.1=k
   · have a:¬ decide (p.1≠k)=true:=by simp [e]
     have b:¬ decide (q.1≠k)=true:=by simp [h1.symm.trans e]
     rw [if_neg a,if_neg b];exact ih
   · have e':¬ q.1=k:=fun z=>e (h1.trans z)
     have a:decide (p.1≠k)=true:=by simp [e]
     have b:decide (q.1≠k)=true:=by simp [e']
     rw [if_pos a,if_pos b];exact .cons ⟨h1,h2⟩ ih
theorem KV.length {kvs:List (κ×V)} {vs:List (κ×Value)} (r:KV kvs vs):kvs.length=vs.length:=Paired.length r
theorem ZiF (kvs:List (κ×V)) (k:κ):(UK kvs k).length≤kvs.length:=List.length_filter_le _ _
end
theorem UF {P:Program} {w:World} {k:Zj} {u:Value} (r:RelV (kV k) u):(Zu P w).is k u=true:=by
 cases k with
 | inl i=>obtain ⟨t,e⟩:=(show ∃ t,u=Value.int i t from r);subst e;exact Zds P w i t
 | inr x=>obtain ⟨t,e⟩:=(show ∃ t,u=Value.str x t from r);subst e;exact VC P w x t
theorem ZbK {P:Program} {w:World}:∀ {ks:List Zj} {us:List Value},Vals (ks.map kV) us→ItemsAre (Zu P w) ks us
 | [],_,r=>by rw [List.map_nil] at r;cases r;exact .nil
 | k::ks,_,r=>by
   rw [List.map_cons] at r
   cases r with
   | cons h t=>exact .cons (UF h) (ZbK t)
abbrev KT (H:Hp):List (List Zj×V)→List (List Zj×Addr×Value)→Prop:=Paired fun p q=>p.1=q.1∧H q.2.1=some (.tup (p.1.map kV))∧RelV p.2 q.2.2
theorem KT.val {H:Hp} {kvs:List (List Zj×V)} {xs:List (List Zj×Addr×Value)} (r:KT H kvs xs) (k:List Zj):RelO (ZJ kvs k) ((atKey xs k).map (·.2)):=by
 induction r with
 | nil=>exact True.intro
 | @cons p q ps qs h t ih =>
   obtain ⟨h1,_,h2⟩:=h
   by_cases e:p.1=k
   · have e':q.1=k:=h1.symm.trans e
     have b:atKey (q::qs) k=some q.2:=by simp [atKey,List.find?_cons,e']
     rw [YF e,b];exact h2
   · have e':¬ q.1=k:=fun z=>e (h1.trans z)
     have b:atKey (q::qs) k=atKey qs k:=by simp [atKey,List.find?_cons,e']
     rw [YE e,b];exact ih
theorem KT.repl {H:Hp} {kvs:List (List Zj×V)} {xs:List (List Zj×Addr×Value)} (r:KT H kvs xs) (k:List Zj) {y:V} {u:Value} (ry:RelV y u) :
   KT H (kvs.map fun kv=>if kv.1=k then (kv.1,y) else kv) (xs.map (putAt k u)):=by
 induction r with
 | nil=>exact .nil
 | @cons p q ps qs h t ih =>
   rw [List.map_cons,List.map_cons]
   refine .cons ?_ ih
   obtain ⟨h1,h2,h3⟩:=h
   unfold putAt
   by_cases e:p.1=k
   · rw [if_pos e,if_pos (h1.symm.trans e)];exact ⟨h1,h2,ry⟩
   · rw [if_neg e,if_neg (fun z=>e (h1.trans z))];exact ⟨h1,h2,h3⟩
theorem KT.put {H:Hp} {kvs:List (List Zj×V)} {xs:List (List Zj×Addr×Value)} (r:KT H kvs xs) (k:List Zj) {b:Addr} {y:V} {u:Value} (hb:H b=some (.tup (k.map kV))) (ry:RelV y u) :
   KT H (Yp kvs k y) (storedH xs k b u):=by
 have e:(kvs.any fun kv=>decide (kv.1=k))=(atKey xs k).isSome:=by
   rw [UO,(r.val k).isSome_eq,Option.isSome_map]
 unfold Yp storedH
 rw [e]
 by_cases q:(atKey xs k).isSome=true
 · rw [if_pos q,if_pos q];exact r.repl k ry
 · rw [if_neg q,if_neg q];exact Paired.snoc r ⟨rfl,hb,ry⟩
theorem KT.keeps {H H':Hp} {kvs:List (List Zj×V)} {xs:List (List Zj×Addr×Value)} (r:KT H kvs xs) (ht:∀ b ys,H b=some (.tup ys)→H' b=some (.tup ys)):KT H' kvs xs :=
 Paired.mapP r fun _ _ z=>⟨z.1,ht _ _ z.2.1,z.2.2⟩
section
variable {P:Program} {w:World} {H:Hp} {h:Heap} {a:Addr}
theorem Zjb {u:HO} (ok:HOk P w H h) (e:Rd H a u):ObjOk P w H h a u:=e.ok ok
theorem Zcc {kvs:List (Zj×V)} (ok:HOk P w H h) (e:Rd H a (.dK kvs)):kvs.length≤sizeLine∧(a == sysModules)=false∧∃ vs,KV kvs vs∧h.DictOf (Zu P w) a vs :=
 show ObjOk P w H h a (.dK kvs) from Zjb ok e
theorem Uu {kvs:List (Zj×V)} (ok:HOk P w H h) (e:H a=some (.dK kvs)):kvs.length≤sizeLine∧(a == sysModules)=false∧∃ vs,KV kvs vs∧h.DictOf (Zu P w) a vs:=Zcc ok (.inl e)
theorem ZaR {ks:List Zj} (ok:HOk P w H h) (e:H a=some (.tup (ks.map kV))):(tupleKind (Zu P w)).is h ks a:=by
 obtain ⟨_,its,r,o,h1,h2,n,h3⟩:=(show ObjOk P w H h a (.tup (ks.map kV)) from ok a _ e)
 exact ⟨o,its.toArray,n,h1,h2,h3,by simpa using ZbK r⟩
theorem ZbZ {kvs:List (List Zj×V)} (ok:HOk P w H h) (e:Rd H a (.dT kvs)):kvs.length≤sizeLine∧(a == sysModules)=false ∧
   ∃ xs,KT H kvs xs∧h.DictOfH (tupleKind (Zu P w)) a xs:=by
 obtain ⟨z,y,xs,r,o,es,ep,h1,h2,h3,h4,h5⟩:=(show ObjOk P w H h a (.dT kvs) from Zjb ok e)
 refine ⟨z,y,xs,r,o,es,ep,h1,h2,h3,h4,fun x hx=>?_,h5⟩
 have all:∀ {l:List (List Zj×V)} {m:List (List Zj×Addr×Value)},KT H l m→∀ x∈m,(tupleKind (Zu P w)).is h x.1 x.2.1:=by
   intro l m q
   induction q with
   | nil=>intro x hx;exact nomatch hx
   | @cons p q ps qs hq t ih =>
     intro x hx
     rcases List.mem_cons.mp hx with e | hx
     · subst e
       exact ZaR ok (by rw [← hq.1];exact hq.2.1)
     · exact ih x hx
 exact all r x hx
theorem Zmq {kvs:List (List Zj×V)} (ok:HOk P w H h) (e:H a=some (.dT kvs)):kvs.length≤sizeLine∧(a == sysModules)=false ∧
 ∃ xs,KT H kvs xs∧h.DictOfH (tupleKind (Zu P w)) a xs:=ZbZ ok (.inl e)
end
def DGet (H:Hp) (a:Addr) (y:V) (r:Option V):Prop :=
 (∃ kvs k,Rd H a (.dK kvs)∧y=kV k∧r=ZJ kvs k)∨∃ kvs k b,Rd H a (.dT kvs)∧y=.ref b∧H b=some (.tup (k.map kV))∧r=ZJ kvs k
def DPut (H:Hp) (a:Addr) (y v:V) (H':Hp):Prop :=
 (∃ kvs k,H a=some (.dK kvs)∧y=kV k∧kvs.length < sizeLine∧H'=upd H a (.dK (Yp kvs k v))) ∨
 ∃ kvs k b,H a=some (.dT kvs)∧y=.ref b∧H b=some (.tup (k.map kV))∧kvs.length < sizeLine∧H'=upd H a (.dT (Yp kvs k v))
theorem DGet.k {H:Hp} {a:Addr} {kvs:List (Zj×V)} {k:Zj} (e:H a=some (.dK kvs)):DGet H a (kV k) (ZJ kvs k):=.inl ⟨kvs,k,.inl e,rfl,rfl⟩
theorem DPut.k {H:Hp} {a:Addr} {kvs:List (Zj×V)} {k:Zj} {v:V} (e:H a=some (.dK kvs)) (hl:kvs.length < sizeLine):DPut H a (kV k) v (upd H a (.dK (Yp kvs k v))):=.inl ⟨kvs,k,e,rfl,hl,rfl⟩
section
variable {X:Cx} {pins:List (Addr×Obj)} {σ:St} {H:Hp} {s:Shared} {a:Addr} {y v:V} {u r:Value} {o:Option V} {A:Around} {E:Value→Shared→Prop}
theorem Inv.big (I:Inv X pins σ H s):sysModules < s.heap.objs.size:=by
 have h:mainGlobals < s.heap.objs.size:=(I.mod.glob.keeps I.bk).lt
 exact Nat.lt_trans (by decide) h
theorem ZjN {Q:Value→Shared→Prop} (hu:A.units+1 < cLine) (I:Inv X pins σ H s) (g:DGet H a y o) (ry:RelV y u) (h:∀ s',Inv X pins σ H s'→Q (.bool (!o.isSome)) s') :
   wpAny (model X.prog X.w) A (compareOp .NotIn u (.ref a)) Q E s:=by
 rcases g with ⟨kvs,k,e,ey,l⟩ | ⟨kvs,k,b,e,ey,eb,l⟩
 · subst ey
   obtain ⟨z,hd,vs,rel,dd⟩:=Zcc I.hok e
   refine wpAny_notIn_of (UF ry) hd dd.mapOf ?_
   rw [← (rel.val k).isSome_eq,← l]
   exact h _ (I.tok _)
 · subst ey
   cases (show u=Value.ref b from ry)
   obtain ⟨z,hd,xs,rel,dd⟩:=ZbZ I.hok e
   refine wpAny_notIn_heap (tupleKind_room_in1 hu) (ZaR I.hok eb) hd dd ?_
   have q:=(rel.val k).isSome_eq
   rw [Option.isSome_map] at q
   rw [← q,← l]
   exact h _ (I.tok _)
theorem Vw {h':Heap} {t':Nat} {ob:HO} (I:Inv X pins σ H s) (mu:Mut (H a)) (hs:Heap.SameBut a s.heap h') (he:∃ q,h'.get? a=some q) (new:ObjOk X.prog X.w (upd H a ob) h' a ob) :
   Inv X pins σ (upd H a ob) { s with heap:=h',toks:=t' } :=
 I.write (x:=a) (e:=a) mu (.inl rfl) (fun b q hb z=>(hs.2 b hb).trans z) he new
theorem Zcv {P:Program} {w:World} {H':Hp} {h':Heap} {kvs:List (Zj×V)} {vs:List (Zj×Value)} (z:kvs.length≤sizeLine) (hd:(a == sysModules)=false) (rel:KV kvs vs) (dd:h'.DictOf (Zu P w) a vs) :
 ObjOk P w H' h' a (.dK kvs):=⟨z,hd,vs,rel,dd⟩
theorem ZgI {H':Hp} {Q:Unit→Shared→Prop} (hu:A.units+1 < cLine) (I:Inv X pins σ H s) (g:DPut H a y v H') (ry:RelV y u) (rv:RelV v r) (h:∀ s',Inv X pins σ H' s'→Q () s') :
   wpAny (model X.prog X.w) A (setItem (.ref a) u r) Q E s:=by
 rcases g with ⟨kvs,k,e,ey,l,eH⟩ | ⟨kvs,k,b,e,ey,eb,l,eH⟩
 · subst ey eH
   obtain ⟨z,hd,vs,rel,dd⟩:=Uu I.hok e
   have hz:vs.length≤sizeLine:=by rw [← rel.length];exact z
   have hl:(Yp kvs k v).length≤sizeLine:=by have:=XB kvs k v;omega
   refine wpAny_setItem_pairs (hsz:=hz) (UF ry) dd fun h' dd' hs=>h _ ?_
   have he:∃ q,h'.get? a=some q:=let ⟨q,_,_,hq,_⟩:=dd';⟨q,hq⟩
   exact Vw I (by rw [e];exact True.intro) hs he (Zcv hl hd (rel.put k rv) dd')
 · subst ey eH
   cases (show u=Value.ref b from ry)
   obtain ⟨z,hd,xs,rel,dd⟩:=Zmq I.hok e
   have hz:xs.length≤sizeLine:=by rw [← Paired.length rel];exact z
   have hl:(Yp kvs k v).length≤sizeLine:=by have:=XB kvs k v;omega
   refine wpAny_setItem_heap (hsz:=hz) (tupleKind_room_in1 hu) (ZaR I.hok eb) dd fun h' dd' hs=>h _ ?_
   obtain ⟨q,es,ep,hq,h2,h3,h4,_,h5⟩:=dd'
   refine Vw I (by rw [e];exact True.intro) hs ⟨q,hq⟩ ⟨hl,hd,_,(rel.put k eb rv).keeps fun c ys ec=>?_,q,es,ep,hq,h2,h3,h4,h5⟩
   rw [Zk (Zah ec e (fun z=>nomatch z))]
   exact ec
end
section
variable {X:Cx} {pins:List (Addr×Obj)} {σ:St} {H:Hp} {s:Shared} {a:Addr} {kvs:List (Zj×V)} {k:Zj} {u:Value} {A:Around} {E:Value→Shared→Prop}
theorem Zmj {v:V} {more:List Value} {Q:Value→Shared→Prop} (I:Inv X pins σ H s) (e:H a=some (.dK kvs)) (ry:RelV (kV k) u) (l:ZJ kvs k=some v) (hm:more=[]∨∃ x,more=[x])
   (h:∀ w' s',Inv X pins σ (upd H a (.dK (UK kvs k))) s'→RelV v w'→Q w' s'):wpAny (model X.prog X.w) A (call (.builtin "dict.pop") (.ref a::u::more)) Q E s:=by
 obtain ⟨z,hd,vs,rel,dd⟩:=Uu I.hok e
 obtain ⟨w',hw,rw'⟩:=RelO.some_of (v:=v) (o:=valueAt vs k) (by rw [← l];exact rel.val k)
 have hp:(keyPart u).isSome=true:=by
   cases k with
   | inl i=>obtain ⟨t,q⟩:=(show ∃ t,u=Value.int i t from ry);subst q;rfl
   | inr x=>obtain ⟨t,q⟩:=(show ∃ t,u=Value.str x t from ry);subst q;rfl
 have ha:argsOk "dict.pop" ⟨.ref a::u::more,[]⟩:=by
   rcases hm with q | ⟨x,q⟩
   · subst q;exact PySem.F.args_dict_pop_2 _ _
   · subst q;exact PySem.F.args_dict_pop_3 _ _ _
 refine call_meetsIn PySem.F.slot_dict_pop dd.typeIs PySem.F.entry_dict_pop ha (meets_dict_pop_there (Zu X.prog X.w) a (UF ry) more hm hp)
   ⟨vs,w',dd,by rw [← rel.length];exact z,hw,fun h' dd' hs=>h w' _ ?_ rw'⟩
 have he:∃ q,h'.get? a=some q:=let ⟨q,_,_,hq,_⟩:=dd';⟨q,hq⟩
 exact Vw I (by rw [e];exact True.intro) hs he (Zcv (Nat.le_trans (ZiF kvs k) z) hd (rel.drop k) dd')
theorem ZkZ {r:Value} {Q:Value→Shared→Prop} (I:Inv X pins σ H s) (e:H a=some (.dK kvs)) (ry:RelV (kV k) u) (l:ZJ kvs k=none) (h:∀ s',Inv X pins σ H s'→Q r s') :
   wpAny (model X.prog X.w) A (call (.builtin "dict.pop") [.ref a,u,r]) Q E s:=by
 obtain ⟨z,hd,vs,rel,dd⟩:=Uu I.hok e
 have hn:valueAt vs k=none:=RelO.none_of (by rw [← l];exact rel.val k)
 have hp:(keyPart u).isSome=true:=by
   cases k with
   | inl i=>obtain ⟨t,q⟩:=(show ∃ t,u=Value.int i t from ry);subst q;rfl
   | inr x=>obtain ⟨t,q⟩:=(show ∃ t,u=Value.str x t from ry);subst q;rfl
 exact call_meetsIn PySem.F.slot_dict_pop dd.typeIs PySem.F.entry_dict_pop (PySem.F.args_dict_pop_3 _ _ _) (meets_dict_pop_default (Zu X.prog X.w) a (UF ry) hd hp r) ⟨vs,dd,hn,h _ (I.tok _)⟩
end
def ZjR (ty td:TE):TE:=fun σ H Q=>ty σ H fun y H1=>td σ H1 fun x H2=>∃ a o,x=.ref a∧DGet H2 a y o∧Q (.bl (!o.isSome)) H2
def ZlW (td ty tv:TE):TS:=fun D σ H=>tv σ H fun v H1=>td σ H1 fun x H2=>ty σ H2 fun y H3=>∃ a H4,x=.ref a∧DPut H3 a y v H4∧D.nx σ H4
section
variable {X:Cx} {o i e value:Expr} {pos pos' tpos:Pos} {td ty tv:TE}
theorem Zgr (hu:X.A.units+1 < cLine) (hi:PE X i ty) (ho:PE X o td):PC X .NotIn i o (ZjR ty td):=by
 intro pins s σ H Q I h
 refine Zm (hi pins s σ H _ I h) fun iv s1 ⟨y,H1,I1,ry,q1⟩=>Zm (ho pins s1 σ H1 _ I1 q1) fun u s2 ⟨x,H2,I2,rx,a,ov,ex,g,q2⟩=>?_
 subst ex
 obtain rfl:u=Value.ref a:=rx
 exact ZjN hu I2 g ry fun s3 I3=>⟨.bl (!ov.isSome),H2,I3,rfl,q2⟩
theorem Zbc (hu:X.A.units+1 < cLine) (ho:PE X o td) (hi:PE X i ty) (hv:PE X value tv) (hs:swapsWith value (some (.Subscript o i pos')) pos.line X.env=pure false) :
   PS X (.Assign [.Subscript o i pos'] value pos) (ZlW td ty tv):=by
 intro pins s σ H D I h
 refine wpAny_Assign_Subscript (Zm (hv pins s σ H _ I h) fun r s1 ⟨v,H1,I1,rv,q1⟩=>Zm (ho pins s1 σ H1 _ I1 q1) fun u s2 ⟨x,H2,I2,rx,q2⟩=>Zm (hi pins s2 σ H2 _ I2 q2) fun iv s3 ⟨y,H3,I3,ry,a,H4,ex,g,q3⟩=>?_) hs
 subst ex
 obtain rfl:u=Value.ref a:=rx
 exact ZgI hu I3 g ry rv fun s4 I4=>⟨σ,H4,I4,q3⟩
end
theorem ZcJ {P:Program} {w:World} {H:Hp} (h:Heap) (hb:sysModules < h.objs.size):ObjOk P w H (h.push { cls:=.type "dict",data:=.dict #[] }) h.objs.size (.dK []) :=
 ⟨Nat.zero_le _,beq_eq_false_iff_ne.mpr (Ne.symm (Nat.ne_of_lt hb)),[],.nil,Heap.DictOf.new h⟩
def ZkD:TE:=fun _ H Q=>∀ p,H p=none→Q (.ref p) (upd H p (.dK []))
section
variable {X:Cx} {pos:Pos}
theorem ZhJ:PE X (.Dict [] [] pos) ZkD:=fun pins s σ H Q I h =>
 wpAny_Dict_empty ⟨.ref s.heap.objs.size,_,I.laid (a:=s.heap.objs.size) (o:=.dK []) (t':=s.toks) (fun _ _ q=>Heap.get?_push_of_some _ q) (Nat.le_refl _) (ZcJ s.heap I.big),rfl,h _ (I.hok.fresh (Nat.le_refl _))⟩
end
def ZcN:List (TE×TE)→St→Hp→(List (V×V)→Hp→Prop)→Prop
 | [],_,H,Q=>Q [] H
 | (tk,tv)::r,σ,H,Q=>tk σ H fun x H1=>tv σ H1 fun y H2=>ZcN r σ H2 fun ps H3=>Q ((x,y)::ps) H3
abbrev VV:List (V×V)→List (Value×Value)→Prop:=Paired fun p q=>RelV p.1 q.1∧RelV p.2 q.2
def PPs (X:Cx) (pos:Pos) (keys:List (Option Expr)) (values:List Expr) (trs:List (TE×TE)):Prop :=
 ∀ (pins:List (Addr×Obj)) (s:Shared) (σ:St) (H:Hp) (Q:List (V×V)→Hp→Prop),Inv X pins σ H s→ZcN trs σ H Q →
   wpAny (model X.prog X.w) X.A (evalPairs (pairTrees keys values X.env pos)) (fun vs s'=>∃ ps H',Inv X pins σ H' s'∧VV ps vs∧Q ps H') X.xe s
theorem Zkc {X:Cx} {pos:Pos}:PPs X pos [] [] []:=fun pins s σ H Q I h=>pairTrees_nil_walk ⟨[],H,I,.nil,h⟩
theorem Zig {X:Cx} {pos:Pos} {k v:Expr} {ks:List (Option Expr)} {vs:List Expr} {tk tv:TE} {trs:List (TE×TE)} (hk:PE X k tk) (hv:PE X v tv) (hr:PPs X pos ks vs trs) :
   PPs X pos (some k::ks) (v::vs) ((tk,tv)::trs):=fun pins s σ H Q I h =>
 pairTrees_cons_walk (Zm (hk pins s σ H _ I h) fun u s1 ⟨x,H1,I1,rx,q1⟩=>Zm (hv pins s1 σ H1 _ I1 q1) fun w2 s2 ⟨y,H2,I2,ry,q2⟩ =>
   Zm (hr pins s2 σ H2 _ I2 q2) fun ws s3 ⟨ps,H3,I3,rel,q3⟩=>⟨(x,y)::ps,H3,I3,.cons ⟨rx,ry⟩ rel,q3⟩)
def Vj (kvs more:List (Zj×V)):List (Zj×V):=more.foldl (fun acc kv=>Yp acc kv.1 kv.2) kvs
theorem KV.merge:∀ {more:List (Zj×V)} {rs:List (Zj×Value)} {kvs:List (Zj×V)} {vs:List (Zj×Value)},KV more rs→KV kvs vs→KV (Vj kvs more) (merged vs rs):=by
 intro more rs kvs vs r
 unfold KV at r
 induction r generalizing kvs vs with
 | nil=>intro q;exact q
 | @cons p q ps qs h t ih =>
   intro r0
   have e:KV (Yp kvs p.1 p.2) (stored vs q.1 q.2):=by
     have:=r0.put p.1 h.2
     rw [← h.1];exact this
   exact ih e
theorem UQ:∀ (more kvs:List (Zj×V)),(Vj kvs more).length≤kvs.length+more.length
 | [],kvs=>by show kvs.length≤kvs.length+0;omega
 | p::r,kvs=>by
   have h1:=UQ r (Yp kvs p.1 p.2)
   have h2:=XB kvs p.1 p.2
   show (Vj (Yp kvs p.1 p.2) r).length≤_
   rw [List.length_cons];omega
theorem ZaF {P:Program} {w:World}:∀ {kvs:List (Zj×V)} {ws:List (Value×Value)},VV (kvs.map fun kv=>(kV kv.1,kv.2)) ws→∃ rs,Carries (Zu P w) ws rs∧KV kvs rs
 | [],_,r=>by rw [List.map_nil] at r;cases r;exact ⟨[],True.intro,.nil⟩
 | p :: kvs,_,r=>by
   rw [List.map_cons] at r
   cases r with
   | @cons a b as bs h t =>
     obtain ⟨rs,c,q⟩:=ZaF (P:=P) (w:=w) t
     obtain ⟨b1,b2⟩:=b
     exact ⟨(p.1,b2)::rs,⟨UF h.1,rfl,c⟩,.cons ⟨rfl,h.2⟩ q⟩
def Zmt (trs:List (TE×TE)):TE:=fun σ H Q=>∀ p,H p=none→ZcN trs σ (upd H p (.dK [])) fun ps H2=>H2 p=some (.dK [])∧∃ kvs:List (Zj×V),ps=kvs.map (fun kv=>(kV kv.1,kv.2))∧kvs.length≤15∧Q (.ref p) (upd H2 p (.dK (Vj [] kvs)))
theorem ZjC {X:Cx} {pos:Pos} {keys:List (Option Expr)} {values:List Expr} {trs:List (TE×TE)} (h:PPs X pos keys values trs) (hall:keys.all (·.isSome)=true) (hl:keys.length=values.length) (h0:keys≠[])
   (h15:keys.length≤15):PE X (.Dict keys values pos) (Zmt trs):=by
 intro pins s σ H Q I q
 have hn:=I.hok.fresh (Nat.le_refl s.heap.objs.size)
 have I1:=I.laid (a:=s.heap.objs.size) (o:=.dK []) (h':=s.heap.push { cls:=.type "dict",data:=.dict #[] }) (t':=s.toks) (fun _ _ q=>Heap.get?_push_of_some _ q) (Nat.le_refl _) (ZcJ s.heap I.big)
 refine wpAny_Dict_walk (knd:=Zu X.prog X.w) hall hl h0 h15 (Zm (h pins _ σ _ _ I1 (q _ hn)) fun ws s2 ⟨ps,H2,I2,rel,e,kvs,ep,lk,q2⟩=>?_)
 subst ep
 obtain ⟨rs,c,rk⟩:=ZaF (P:=X.prog) (w:=X.w) rel
 obtain ⟨z,hd,vs0,r0,dd⟩:=Uu I2.hok e
 cases r0
 refine ⟨rs,c,dd,fun h' dd' hs=>⟨.ref s.heap.objs.size,_,?_,rfl,q2⟩⟩
 have hz:(Vj [] kvs).length≤sizeLine:=by
   have h1:=UQ kvs []
   rw [List.length_nil] at h1
   rw [sizeLine_eq];omega
 have he:∃ q,h'.get? s.heap.objs.size=some q:=let ⟨q,_,_,hq,_⟩:=dd';⟨q,hq⟩
 exact Vw I2 (by rw [e];exact True.intro) hs he (Zcv hz hd (rk.merge .nil) dd')
structure M1 (X:Cx) (o:Expr) (m:Str) (apos:Pos) (e:Expr) (cpos:Pos):Prop where
 base:attributeBase o m X.env (eval o X.env)=eval o X.env
 few:((backTo cpos (starEach [e] X.env)).all (fun x=>!x.1) && (backToKw cpos (keywordEach [] X.env)).all (fun x=>x.1.isSome)
   && decide (([e]:List Expr).length+([]:List Keyword).length+(if ([]:List Keyword).isEmpty then 0 else 1) < 30))=true
 line:(apos.endLine == cpos.line)=true
 trees:backTo cpos (starEach [e] X.env)=[(false,eval e X.env)]
structure M2 (X:Cx) (o:Expr) (m:Str) (apos:Pos) (e f:Expr) (cpos:Pos):Prop where
 base:attributeBase o m X.env (eval o X.env)=eval o X.env
 few:((backTo cpos (starEach [e,f] X.env)).all (fun x=>!x.1) && (backToKw cpos (keywordEach [] X.env)).all (fun x=>x.1.isSome)
   && decide (([e,f]:List Expr).length+([]:List Keyword).length+(if ([]:List Keyword).isEmpty then 0 else 1) < 30))=true
 line:(apos.endLine == cpos.line)=true
 trees:backTo cpos (starEach [e,f] X.env)=[(false,eval e X.env),(false,eval f X.env)]
def IsD (H:Hp) (a:Addr):Prop:=(∃ kvs,Rd H a (.dK kvs))∨∃ kvs,Rd H a (.dT kvs)
theorem ZfA {X:Cx} {pins:List (Addr×Obj)} {σ:St} {H:Hp} {s:Shared} {a:Addr} (I:Inv X pins σ H s) (d:IsD H a) :
   s.TypeIs (.ref a) "dict"∧(∀ b,Value.ref a=.ref b→∃ ob,s.heap.get? b=some ob∧ob.dict=none)∧(a == sysModules)=false:=by
 rcases d with ⟨kvs,e⟩ | ⟨kvs,e⟩
 · obtain ⟨_,hd,vs,_,dd⟩:=Zcc I.hok e
   refine ⟨dd.typeIs,fun b q=>?_,hd⟩
   cases q
   obtain ⟨ob,_,_,h1,h2,_⟩:=dd
   exact ⟨ob,h1,h2.2.1⟩
 · obtain ⟨_,hd,xs,_,dd⟩:=ZbZ I.hok e
   refine ⟨dd.typeIs,fun b q=>?_,hd⟩
   cases q
   obtain ⟨ob,_,_,h1,h2,_⟩:=dd
   exact ⟨ob,h1,h2.2.1⟩
section
variable {X:Cx} {pins:List (Addr×Obj)} {σ:St} {H:Hp} {s:Shared} {a:Addr} {y d:V} {u r:Value} {o:Option V} {A:Around} {E:Value→Shared→Prop}
theorem ZlH {Q:Value→Shared→Prop} (hu:A.units+1 < cLine) (I:Inv X pins σ H s) (g:DGet H a y o) (ry:RelV y u) (h:∀ w' s',Inv X pins σ H s'→RelV (o.getD .non) w'→Q w' s') :
   wpAny (model X.prog X.w) A (call (.builtin "dict.get") [.ref a,u]) Q E s:=by
 rcases g with ⟨kvs,k,e,ey,l⟩ | ⟨kvs,k,b,e,ey,eb,l⟩
 · subst ey
   obtain ⟨z,hd,vs,rel,dd⟩:=Zcc I.hok e
   refine call_meetsIn PySem.F.slot_dict_get dd.typeIs PySem.F.entry_dict_get (PySem.F.args_dict_get_2 _ _) (meets_dict_get (Zu X.prog X.w) a (UF ry) hd) ⟨_,dd.mapOf,h _ _ (I.tok _) ?_⟩
   rw [l]
   exact (rel.val k).getD rfl
 · subst ey
   cases (show u=Value.ref b from ry)
   obtain ⟨z,hd,xs,rel,dd⟩:=ZbZ I.hok e
   refine call_meetsIn PySem.F.slot_dict_get dd.typeIs PySem.F.entry_dict_get (PySem.F.args_dict_get_2 _ _) (meetsH_dict_get (tupleKind (Zu X.prog X.w)) a b hd) ⟨tupleKind_room_in1 hu,k,xs,ZaR I.hok eb,dd,h _ _ (I.tok _) ?_⟩
   rw [l]
   exact (rel.val k).getD rfl
end
def Zln (td ty:TE):TE:=fun σ H Q=>td σ H fun x H1=>∃ a,x=.ref a∧IsD H1 a∧ty σ H1 fun y H2=>∃ o,DGet H2 a y o∧Q (o.getD .non) H2
def ZlU (td ty tx:TE):TE:=fun σ H Q=>td σ H fun x H1=>∃ a,x=.ref a∧IsD H1 a∧ty σ H1 fun y H2=>tx σ H2 fun z H3=>∃ kvs k,H3 a=some (.dK kvs)∧y=kV k ∧
 (∀ v,ZJ kvs k=some v→Q v (upd H3 a (.dK (UK kvs k))))∧(ZJ kvs k=none→Q z H3)
section
variable {X:Cx} {o e f:Expr} {apos cpos:Pos} {td ty tx:TE}
theorem VQ (hu:X.A.units+1 < cLine) (ho:PE X o td) (he:PE X e ty) (m:M1 X o "get" apos e cpos):PE X (.Call (.Attribute o "get" apos) [e] [] cpos) (Zln td ty):=by
 intro pins s σ H Q I h
 refine wpAny_Call_method m.base m.few m.line PySem.F.plainAttrs_dict PySem.F.slot_dict_get PySem.F.type_dict_get (Zm (ho pins s σ H _ I h) fun u s1 ⟨x,H1,I1,rx,a,ex,d,q1⟩=>?_)
 subst ex
 obtain rfl:u=Value.ref a:=rx
 obtain ⟨t1,t2,_⟩:=ZfA I1 d
 refine ⟨t1,t2,?_⟩
 rw [m.trees]
 refine Calls.callWith_builtin rfl (Calls.evalArgs_plain (Calls.spliced_cons (Zm (he pins s1 σ H1 _ I1 q1) fun iv s2 ⟨y,H2,I2,ry,ov,g,q2⟩=>Calls.spliced_nil ?_)))
 exact ZlH hu I2 g ry fun w' s3 I3 rw'=>⟨_,H2,I3,rw',q2⟩
theorem Zhh (ho:PE X o td) (he:PE X e ty) (hf:PE X f tx) (m:M2 X o "pop" apos e f cpos):PE X (.Call (.Attribute o "pop" apos) [e,f] [] cpos) (ZlU td ty tx):=by
 intro pins s σ H Q I h
 refine wpAny_Call_method m.base m.few m.line PySem.F.plainAttrs_dict PySem.F.slot_dict_pop PySem.F.type_dict_pop (Zm (ho pins s σ H _ I h) fun u s1 ⟨x,H1,I1,rx,a,ex,d,q1⟩=>?_)
 subst ex
 obtain rfl:u=Value.ref a:=rx
 obtain ⟨t1,t2,_⟩:=ZfA I1 d
 refine ⟨t1,t2,?_⟩
 rw [m.trees]
 refine Calls.callWith_builtin rfl (Calls.evalArgs_plain (Calls.spliced_cons (Zm (he pins s1 σ H1 _ I1 q1) fun iv s2 ⟨y,H2,I2,ry,q2⟩ =>
   Calls.spliced_cons (Zm (hf pins s2 σ H2 _ I2 q2) fun fv s3 ⟨z,H3,I3,rz,kvs,k,ea,ey,q3,q4⟩=>Calls.spliced_nil ?_))))
 subst ey
 cases l:ZJ kvs k with
 | some v=>exact Zmj I3 ea ry l (.inr ⟨fv,rfl⟩) fun w' s4 I4 rw'=>⟨v,_,I4,rw',q3 v l⟩
 | none=>exact ZkZ I3 ea ry l fun s4 I4=>⟨z,H3,I4,rz,q4 l⟩
end
section
variable {X:Cx} {pins:List (Addr×Obj)} {σ:St} {H:Hp} {s:Shared} {a:Addr} {kvs:List (Zj×V)} {A:Around} {E:Value→Shared→Prop}
end
section
variable {X:Cx} {pins:List (Addr×Obj)} {σ:St} {H:Hp} {s:Shared} {a:Addr} {y:V} {u:Value} {A:Around} {E:Value→Shared→Prop}
end
end L2
namespace L2
open PySem PySem.Spec PyProof.Rows
section
variable {κ:Type} [DecidableEq κ]
end
end L2
namespace L2
open PySem PySem.Spec PyProof.Rows
theorem Vm {env:Env} (y:Str):∀ names:List (Str×NameKind),
   (names.map fun (n,k)=>if (k == NameKind.free && env.scope.kind == .function && env.kindOf n == some .cell) then (n,NameKind.cell) else (n,k)).lookup y =
     (names.lookup y).map fun k=>if (k == NameKind.free && env.scope.kind == .function && env.kindOf y == some .cell) then NameKind.cell else k
 | []=>rfl
 | (n, k)::r=>by
   have ih:=Vm (env:=env) y r
   rw [List.map_cons]
   cases hx:y == n with
   | true =>
     have e:y=n:=by simpa using hx
     subst e
     by_cases hc:(k == NameKind.free && env.scope.kind == .function && env.kindOf y == some .cell)=true
     · simp only [hc,if_true,List.lookup_cons,beq_self_eq_true,Option.map_some]
     · simp only [hc,List.lookup_cons,beq_self_eq_true,Option.map_some]
       simp [hc]
   | false =>
     by_cases hc:(k == NameKind.free && env.scope.kind == .function && env.kindOf n == some .cell)=true
     · simp only [hc,if_true,List.lookup_cons,hx];exact ih
     · simp only [hc,List.lookup_cons,hx,Bool.false_eq_true,if_false];exact ih
theorem Zq {scope:Scope} {env:Env} {y:Str} {k:NameKind} (hcell:∀ z∈scope.names,z.2≠.cell) (h:(relabel scope env).names.lookup y=some k) :
   scope.names.lookup y=some k∨(scope.names.lookup y=some .free∧k=.cell):=by
 unfold relabel at h
 rw [Vm] at h
 cases e:scope.names.lookup y with
 | none=>rw [e] at h;cases h
 | some k0 =>
   rw [e] at h
   simp only [Option.map_some,Option.some.injEq] at h
   by_cases hc:(k0 == NameKind.free && env.scope.kind == .function && env.kindOf y == some .cell)=true
   · rw [if_pos hc] at h
     right
     simp only [Bool.and_eq_true,beq_iff_eq] at hc
     exact ⟨by rw [hc.1.1],h.symm⟩
   · rw [if_neg hc] at h
     left;rw [h]
theorem mem_of_lookup {α:Type} {y:Str} {k:α}:∀ {l:List (Str×α)},l.lookup y=some k→(y,k)∈l
 | [],h=>by cases h
 | (n,z)::r,h=>by
   cases hx:y == n with
   | true =>
     have e:y=n:=by simpa using hx
     subst e
     simp only [List.lookup_cons,beq_self_eq_true] at h
     cases h
     exact List.mem_cons_self
   | false =>
     simp only [List.lookup_cons,hx] at h
     exact List.mem_cons_of_mem _ (mem_of_lookup h)
theorem UE {env:Env}:∀ (names:List (Str×NameKind)) (c0:List (Str×Addr)),(∀ y∈names,y.2=.free→∃ c,env.cells.lookup y.1=some c) →
   ∃ cl:List (Str×Addr),(forIn names c0 fun (x:Str×NameKind) (r:List (Str×Addr))=>(if x.2 == NameKind.free then (do let a ← cellOf env x.1;pure (ForInStep.yield ((x.1,a)::r))) else pure (ForInStep.yield r):Sem (ForInStep (List (Str×Addr)))))=pure cl ∧
     (∀ y c,cl.lookup y=some c→c0.lookup y=some c∨env.cells.lookup y=some c)∧(∀ y,c0.lookup y≠none→cl.lookup y≠none)∧∀ y∈names,y.2=.free→cl.lookup y.1≠none
 | [],c0,_=>⟨c0,rfl,fun _ _ h=>.inl h,fun _ h=>h,fun _ h=>(nomatch h)⟩
 | (n, k)::r,c0,h=>by
   by_cases hk:k=.free
   · subst hk
     obtain ⟨c,hc⟩:=h (n,.free) List.mem_cons_self rfl
     obtain ⟨cl,e,g1,g2,g3⟩:=UE r ((n,c)::c0) fun y hy=>h y (List.mem_cons_of_mem _ hy)
     refine ⟨cl,?_,?_,?_,?_⟩
     · rw [List.forIn_cons]
       have hcell:cellOf env n=pure c:=by unfold cellOf;rw [hc]
       simp only [beq_self_eq_true,if_true,hcell,pure_bind]
       exact e
     · intro y d q
       rcases g1 y d q with q | q
       · cases hx:y == n with
         | true =>
           have e':y=n:=by simpa using hx
           subst e'
           simp only [List.lookup_cons,beq_self_eq_true] at q
           cases q
           exact .inr hc
         | false=>simp only [List.lookup_cons,hx] at q;exact .inl q
       · exact .inr q
     · intro y q
       apply g2
       cases hx:y == n with
       | true=>simp [List.lookup_cons,hx]
       | false=>simpa [List.lookup_cons,hx] using q
     · intro y hy hf
       rcases List.mem_cons.mp hy with e' | hy
       · subst e'
         apply g2
         simp [List.lookup_cons]
       · exact g3 y hy hf
   · obtain ⟨cl,e,g1,g2,g3⟩:=UE r c0 fun y hy=>h y (List.mem_cons_of_mem _ hy)
     refine ⟨cl,?_,g1,g2,?_⟩
     · rw [List.forIn_cons]
       have hb:(k == NameKind.free)=false:=by simpa using hk
       simp only [hb,Bool.false_eq_true,if_false,pure_bind]
       exact e
     · intro y hy hf
       rcases List.mem_cons.mp hy with e' | hy
       · subst e';exact absurd hf hk
       · exact g3 y hy hf
theorem Wq {scope:Scope} {env:Env} (h:∀ y∈scope.names,y.2=.free→∃ c,env.cells.lookup y.1=some c) :
   ∃ cl,closureFor scope env=pure cl∧(∀ y c,cl.lookup y=some c→env.cells.lookup y=some c)∧∀ y∈scope.names,y.2=.free→cl.lookup y.1≠none:=by
 obtain ⟨cl,e,g1,_,g3⟩:=UE (env:=env) scope.names [] h
 refine ⟨cl,?_,fun y c q=>(g1 y c q).elim (fun z=>by cases z) fun z=>z,g3⟩
 simp only [closureFor]
 rw [← bind_pure (pure cl:Sem _),← e]
def WM (N:List Str) (x:Str):List Str:=N.map fun y=>if y=x then "" else y
theorem XH (N:List Str) (x:Str):(WM N x).length=N.length:=List.length_map ..
theorem Vr {N:List Str} {x y:Str} {i:Nat} (h:(WM N x)[i]?=some y):(N[i]?=some y∧y≠x)∨y="":=by
 unfold WM at h
 rw [List.getElem?_map] at h
 cases e:N[i]? with
 | none=>rw [e] at h;cases h
 | some z =>
   rw [e] at h
   have h:(if z=x then ("":Str) else z)=y:=Option.some.inj h
   by_cases q:z=x
   · rw [if_pos q] at h;exact .inr h.symm
   · rw [if_neg q] at h;subst h;exact .inl ⟨rfl,q⟩
def ZY (X:Cx) (scope:Scope) (x:Str) (cl:List (Str×Addr)) (C:Addr) (s₀:Shared) (H₀:Hp) (fp:List Addr):Cx :=
 { prog:=X.prog,w:=X.w,K:=X.K,mg:=X.mg,base:=X.base,A:=X.A,N:=WM X.N x++[x],s₀:=s₀,H₀:=H₀,env:=compEnvC scope cl C X.env,outer:=X.stack,stack:=X.stack,
   ex:=fp,fn:=fun _=>false,calm:=X.calm,pn:=[],xe:=fun _ _=>False }
def Uv (J:It) (te:TE) (σ:St) (D:Addr) (Q:VK) (H1:Hp):Prop :=
 ∃ W:Nat→Nat→List V→Hp→Prop,(∃ m,W 0 m [] (upd H1 D (.lst [])))∧∀ i m ys H2,W i m ys H2 →
   (J.stop i H2∧Q (.ref D) H2)∨(J.go i H2∧∃ N:VK,(∀ y H4,N y H4→H4 D=some (.lst ys)∧ys.length < sizeLine∧∃ m',m' < m∧W (i+1) m' (ys++[y]) (upd H4 D (.lst (ys++[y]))))∧∀ v H3,J.yld i H2 v H3→te (σ++[some v]) H3 N)
def Zmz (wi:TI) (te:TE):TE:=fun σ H Q=>wi σ H fun J H1=>∀ D,H1 D=none→Uv J te σ D Q H1
section
variable {X:Cx} {elt iter:Expr} {x:Str} {px pos:Pos} {scope:Scope} {wi:TI} {te:TE}
theorem XS {prog:Program} {w:World} {A:Around} {R:Result→Shared→Prop} {s:Shared} {elt target iter:Expr} {scope:Scope} {pos:Pos} {it acc:Value} {env:Env} (I:Nat→Shared→Prop)
   (turn : ∀ n s,I n s→wpAny (model prog w) A (pyNext it) (fun r s₁=>match r with
     | none=>R (.ok .next) s₁
     | some v=>wpAny (model prog w) A (letOwnedTupleGo target it v) (fun _ s1'=>wpAny (model prog w) A (assign target env v) (fun _ s₂=>wpAny (model prog w) A (eval elt env) (fun x s₃ =>
         wpAny (model prog w) A (call (.builtin "list.append") [acc,x]) (fun _ s₄=>∃ m,m < n∧I m s₄) (fun _ _=>False) s₃)
         (fun _ _=>False) s₂) (fun _ _=>False) s1') (fun _ _=>False) s₁) (fun _ _=>False) s)
   (n:Nat) (h:I n s) :
   codeAny (model prog w) A (.compLoop (.ListComp elt [⟨target,iter,[],0⟩] scope pos) 0 it acc env) R s:=by
 refine codeAny_loop rfl I (fun n s hI=>?_) n h
 show wpAny _ _ ((compTurn (.ListComp elt [⟨target,iter,[],0⟩] scope pos) 0 it acc env).onRaise (fun x=>do noteFrame x env;theTreesLotGoes x)) _ _ s
 refine wpAny_noted ?_
 rw [compTurn_list1]
 refine wpAny_bind (wpAny_standAt (wpAny_bind (wpAny_mono (turn n s hI) (fun r s₁ h₁=>?_) fun _ _ h'=>h'.elim)))
 cases r with
 | none=>exact wpAny_pure h₁
 | some v =>
   refine wpAny_bind (wpAny_mono h₁ (fun _ s1' h1'=>?_) fun _ _ h'=>h'.elim)
   exact wpAny_bind (wpAny_mono h1' (fun _ s₂ h₂=>wpAny_bind (wpAny_bind (wpAny_mono h₂ (fun x s₃ h₃=>wpAny_bind (wpAny_mono h₃
     (fun _ s₄ h₄=>wpAny_pure (wpAny_pure ⟨rfl,h₄⟩)) fun _ _ h'=>h'.elim)) fun _ _ h'=>h'.elim))) fun _ _ h'=>h'.elim)
structure CompOk (X:Cx) (scope:Scope) (x:Str):Prop where
 nd:(WM X.N x++[x]).Nodup
 clos:∀ y∈scope.names,y.2=.free→X.env.kindOf y.1=some .cell∨X.env.kindOf y.1=some .free
 cell:∀ y∈scope.names,y.2≠.cell
 kind:scope.kind=.function
 names:∀ y∈scope.names,y.2=.local→scope.names.lookup y.1=some .local
 loc:scope.names.lookup x=some .local
 own:∀ y∈X.N,y≠x→scope.names.lookup y≠some .local
 noh:scope.names.lookup ("":Str)=none
theorem Zfi {pins:List (Addr×Obj)} {σ:St} {H2:Hp} {s₂:Shared} {J:It} {fp:List Addr} {it:Addr} {tn:Nat→Heap→Prop} {cl:List (Str×Addr)} {E:Value→Shared→Prop} {Q:VK} {RR:Value→Addr→Result→Shared→Prop}
   (O:CompOk X scope x) (hc:X.calm=true) (cl1:∀ y c,cl.lookup y=some c→X.env.cells.lookup y=some c) (cl2:∀ y∈scope.names,y.2=.free→cl.lookup y.1≠none)
   (he:∀ cl C s₀ H₀ fp,PE (ZY X scope x cl C s₀ H₀ fp) elt te)
   (I2:Inv X pins σ H2 s₂) (T:Wz X.prog X.w X.K (.Name x px) J fp it tn) (st:tn 0 s₂.heap) (f2:∀ b∈fp,Yo X pins H2 b)
   (h:∀ D,H2 D=none→Uv J te σ D Q H2)
   (hRR:∀ D C H' s',Inv X pins σ H' s'→Yo X pins H' C→(∃ m,s'.heap.Ns C m)→Q (.ref D) H'→RR (.ref D) C (.ok .next) s') :
   wpAny (model X.prog X.w) X.A (newList []) (fun acc s₃=>wpAny (model X.prog X.w) X.A (newFunctionEnv scope X.env.globals cl [] X.env.qual none .none (some X.env)) (fun cenv s₄ =>
     codeAny (model X.prog X.w) X.A (.compStart (.ListComp elt [⟨.Name x px,iter,[],0⟩] scope pos) 0 (.ref it) acc { cenv with scope:=relabel scope X.env }) (RR acc cenv.locals) s₄) E s₃) E s₂:=by
 have hD:H2 s₂.heap.objs.size=none:=I2.hok.fresh (Nat.le_refl _)
 refine wpAny_newObj_type ?_
 have I3:Inv X pins σ (upd H2 s₂.heap.objs.size (.lst [])) { s₂ with heap:=s₂.heap.push { cls:=.type "list",data:=.seq ([]:List Value).toArray } } :=
   I2.laid (t':=s₂.toks) (fun b u e=>Heap.get?_push_of_some _ e) (Nat.le_refl _) ⟨Nat.zero_le _,[],_,.nil,Heap.get?_push_size _ rfl⟩
 have f3:∀ b∈fp,Yo X pins (upd H2 s₂.heap.objs.size (.lst [])) b:=fun b hb=>by
   obtain ⟨g0,g1⟩:=f2 b hb
   obtain ⟨o,e,_⟩:=T.obj 0 _ st b hb
   exact ⟨by rw [Zk (Nat.ne_of_lt (Heap.lt_size e))];exact g0,g1⟩
 have st3:tn 0 (s₂.heap.push { cls:=.type "list",data:=.seq ([]:List Value).toArray }):=T.keep _ _ _ st fun b hb o e=>Heap.get?_push_of_some _ e
 obtain ⟨W,⟨m0,w0⟩,turn⟩:=h _ hD
 generalize hDe:s₂.heap.objs.size=D at I3 f3 w0 turn ⊢
 generalize hH3:upd H2 D (.lst [])=H3 at I3 f3 w0 turn ⊢
 generalize hs3:({ s₂ with heap:=s₂.heap.push { cls:=.type "list",data:=.seq ([]:List Value).toArray } }:Shared)=s₃ at I3
 have st3':tn 0 s₃.heap:=by rw [← hs3];exact st3
 have hobj:∀ b∈fp,b < s₃.heap.objs.size:=fun b hb=>by
   obtain ⟨o,e,_⟩:=T.obj 0 _ st3' b hb
   exact Heap.lt_size e
 refine wpAny_newFunctionEnv O.cell (by intro y hy;simp at hy) (fun h₁ hns₁ hsb₁=>?_) O.kind
 have old:∀ b o,s₃.heap.get? b=some o→h₁.get? b=some o:=fun b o e=>hsb₁.extBut b o (Nat.ne_of_lt (Heap.lt_size e)) (Heap.get?_push_of_some _ e)
 generalize hs4:({ s₃ with heap:=h₁,toks:=s₃.toks+([]:List (Str×Value)).length }:Shared)=s₄
 have h4:s₄.heap=h₁:=by rw [← hs4]
 have hX:∀ C,Yo X pins C s₃.heap.objs.size→True:=fun _ _=>trivial
 have ok':(ZY X scope x cl s₃.heap.objs.size s₃ H3 fp).Ok:=by
   refine ⟨I3.ok.mod,O.kind,I3.ok.glob,I3.ok.blt,Nat.le_refl _,?_,?_,?_,I3.ok.hd,I3.ok.frames,.inl rfl,?_,I3.bs,Nat.le_trans I3.ok.bsz I3.sz,?_,?_,I3.stack,I3.stkFree⟩
   · exact fun y z c e1 e2=>I3.ok.inj y z c (cl1 y c e1) (cl1 z c e2)
   · intro y hk
     have hf:scope.names.lookup y=some .free:=by
       rcases hk with hk | hk
       · rcases Zq O.cell hk with q | q
         · exact absurd rfl (O.cell _ (mem_of_lookup q))
         · exact q.1
       · rcases Zq O.cell hk with q | q
         · exact q
         · cases q.2
     have:=cl2 _ (mem_of_lookup hf) rfl
     cases e:cl.lookup y with
     | none=>exact absurd e this
     | some c=>exact ⟨c,e⟩
   · intro y c hf;cases hf
   · intro b hb
     obtain ⟨g0,g1,g2,g3,g4,g5⟩:=f3 b hb
     exact ⟨Nat.ne_of_lt (hobj b hb),fun y c e=>g4 y c (cl1 y c e)⟩
   · intro b o e hb
     obtain ⟨g0,g1,g2,g3,g4,g5⟩:=f3 b hb
     rcases g3 with g3 | g3
     · exact I3.ok.noex b o e g3
     · exact absurd (Heap.lt_size e) (Nat.not_lt.mpr (Nat.le_trans I3.ok.bsz g3))
   · intro b hb hs
     obtain ⟨g0,g1,g2,g3,g4,g5⟩:=f3 b hb
     rcases List.mem_cons.mp (I3.stkSub b hs) with e | e
     · exact g1 e
     · exact g2 e
 have I4 : Inv (ZY X scope x cl s₃.heap.objs.size s₃ H3 fp) [] (σ++[none]) H3 s₄:=by
   obtain ⟨m,hm,hl⟩:=I3.loc
   refine ⟨ok',by rw [← hs4];rfl,by rw [← hs4];exact I3.bare,by rw [h4];exact Un.kept old,⟨_,by rw [h4];exact hns₁,?_⟩,?_,I3.hok.fresh (Nat.le_refl _),fun y c e=>I3.freeC y c (cl1 y c e),?_,by rw [h4];exact I3.hok.kept old,?_⟩
   · intro i y v e1 e2 e3
     have hlt:i < σ.length:=by
       rcases Nat.lt_or_ge i σ.length with z | z
       · exact z
       · rw [List.getElem?_append_right z] at e2
         cases e:i - σ.length with
         | zero=>rw [e] at e2;simp at e2
         | succ k=>rw [e] at e2;simp at e2
     rw [List.getElem?_append_left hlt] at e2
     have hsm:∃ k,scope.names.lookup y=some k:=by
       rcases e3 with hk | hk | hk
       · rcases Zq O.cell hk with q | q
         · exact ⟨_,q⟩
         · exact ⟨_,q.1⟩
       · rcases Zq O.cell hk with q | q
         · exact ⟨_,q⟩
         · exact ⟨_,q.1⟩
       · rcases Zq O.cell hk with q | q
         · exact ⟨_,q⟩
         · exact ⟨_,q.1⟩
     obtain ⟨e1',hyx⟩:X.N[i]?=some y∧y≠x:=by
       have e1:(WM X.N x++[x])[i]?=some y:=e1
       rw [List.getElem?_append_left (by rw [XH,← I3.len];exact hlt)] at e1
       rcases Vr e1 with z | z
       · exact z
       · obtain ⟨k,hk⟩:=hsm
         rw [z,O.noh] at hk;cases hk
     have hy:y∈X.N:=List.mem_of_getElem? e1'
     have hf:scope.names.lookup y=some .free:=by
       rcases e3 with hk | hk | hk
       · rcases Zq O.cell hk with q | q
         · exact absurd q (O.own y hy hyx)
         · exact q.1
       · rcases Zq O.cell hk with q | q
         · exact absurd rfl (O.cell _ (mem_of_lookup q))
         · exact q.1
       · rcases Zq O.cell hk with q | q
         · exact q
         · exact q.1
     have hk:=O.clos _ (mem_of_lookup hf) rfl
     have hv:Vis X.env.scope y:=by rcases hk with z | z;exact .inr (.inl z);exact .inr (.inr z)
     obtain ⟨u,ru,lu⟩:=hl i y v e1' e2 hv
     refine ⟨u,ru,?_⟩
     have hkc:(compEnvC scope cl s₃.heap.objs.size X.env).kindOf y=some .cell∨(compEnvC scope cl s₃.heap.objs.size X.env).kindOf y=some .free:=by
       rcases e3 with q | q | q
       · rcases Zq O.cell q with z | z
         · exact absurd z (O.own y hy hyx)
         · cases z.2
       · exact .inl q
       · exact .inr q
     rcases lu with ⟨q,_⟩ | ⟨_,c,hcl,hcc⟩
     · rcases hk with z | z <;> (rw [q] at z;cases z)
     · refine .inr ⟨hkc,?_⟩
       cases e:cl.lookup y with
       | none=>exact absurd e (cl2 _ (mem_of_lookup hf) rfl)
       | some c' =>
         have:=cl1 y c' e
         rw [hcl] at this
         cases this
         refine ⟨c,e,?_⟩
         rw [h4]
         obtain ⟨oc,ho,hd⟩:=hcc
         exact ⟨oc,old _ _ ho,hd⟩
   · intro y c e
     obtain ⟨v,oc,ho,hd⟩:=I3.cell y c (cl1 y c e)
     exact ⟨v,oc,by rw [h4];exact old _ _ ho,hd⟩
   · intro p hp;cases hp
   · show (σ++[none]).length=(WM X.N x++[x]).length
     rw [List.length_append,List.length_append,XH,I3.len];rfl
 have st4:tn 0 s₄.heap:=by rw [h4];exact T.keep _ _ _ st3' fun b hb o e=>old b o e
 have fpok:∀ {H':Hp},(∀ b∈fp,H' b=none)→∀ b∈fp,Yo (ZY X scope x cl s₃.heap.objs.size s₃ H3 fp) [] H' b:=fun hn b hb=>by
   obtain ⟨g0,g1,g2,g3,g4,g5⟩:=f3 b hb
   refine ⟨hn b hb,Nat.ne_of_lt (hobj b hb),ok'.exfs b hb,.inl hb,fun y c e=>g4 y c (cl1 y c e),?_⟩
   intro p hp;cases hp
 have loop:codeAny (model X.prog X.w) X.A (.compLoop (.ListComp elt [⟨.Name x px,iter,[],0⟩] scope pos) 0 (.ref it) (.ref D) (compEnvC scope cl s₃.heap.objs.size X.env)) (RR (.ref D) s₃.heap.objs.size) s₄:=by
   refine XS (fun n s'=>∃ i ys w' H',Inv (ZY X scope x cl s₃.heap.objs.size s₃ H3 fp) [] (σ++[w']) H' s'∧tn i s'.heap∧(∀ b∈fp,H' b=none)∧W i n ys H') ?_ m0 ⟨0,[],none,H3,I4,st4,fun b hb=>(f3 b hb).1,w0⟩
   rintro n s5 ⟨i,ys,w',H5,I5,st5,fr5,w5⟩
   rcases turn i n ys H5 w5 with ⟨stop,q⟩ | ⟨go,N,hN,step⟩
   · refine Zm (T.done (ZY X scope x cl s₃.heap.objs.size s₃ H3 fp) rfl rfl rfl hc i [] s5 _ H5 _ I5 (fpok fr5) st5 stop) fun r s6 ⟨hr,I6⟩=>?_
     subst hr
     obtain ⟨m6,hn6,_⟩:=I6.loc
     have IX:Inv X pins σ H5 s6:=I3.call' (ch:=fp) I6.os I6.base I6.hok I6.bare fun b hb=>by
       obtain ⟨g0,g1,g2,g3,g4,g5⟩:=f3 b hb
       exact ⟨g3,g1,g4,g5⟩
     exact hRR D _ H5 s6 IX (I3.fpOk (Nat.le_refl _) I6.free) ⟨m6,hn6⟩ q
   · refine Zm (T.item (ZY X scope x cl s₃.heap.objs.size s₃ H3 fp) rfl rfl rfl hc i [] s5 _ H5 _ I5 (fpok fr5) st5 go) fun r s6 ⟨u,hr,h6⟩=>?_
     subst hr
     refine Zm h6 fun _ s7 ⟨v,H7,I7,r7,y7,st7,fr7⟩=>?_
     have I7':=I7.pinned (fpok fr7) (T.obj _ _ st7)
     have hixN:(ZY X scope x cl s₃.heap.objs.size s₃ H3 fp).N[σ.length]?=some x:=by
       show (WM X.N x++[x])[σ.length]?=some x
       rw [I3.len,← XH X.N x];simp
     refine Zm (ZN (X:=ZY X scope x cl s₃.heap.objs.size s₃ H3 fp) (pos:=px) O.nd hixN (.inl (lookup_relabel_local O.loc)) (.inr (lookup_relabel_local O.loc)) _ s7 _ H7 v u (fun σ' H'=>σ'=σ++[some v]∧H'=H7) I7' r7 ⟨by simp,rfl⟩) fun _ s8 ⟨σ8,H8,I8,e8,e8'⟩=>?_
     subst e8 e8'
     refine Zm (he cl s₃.heap.objs.size s₃ H3 fp _ s8 _ H8 _ I8 (step v H8 y7)) fun uy s9 ⟨y,H9,I9,r9,n9⟩=>?_
     obtain ⟨hl9,hz9,m',hm',w9⟩:=hN y H9 n9
     refine Zm (Yt (X:=ZY X scope x cl s₃.heap.objs.size s₃ H3 fp) _ s9 _ H9 (.ref D) [y] (.ref D) [uy] (fun v H'=>H'=upd H9 D (.lst (ys++[y]))) I9 rfl (.cons r9 .nil) ⟨D,ys,y,rfl,rfl,hl9,hz9,rfl⟩) fun _ s10 ⟨_,H10,I10,_,e10⟩=>?_
     subst e10
     refine ⟨m',hm',i+1,ys++[y],some v,_,I10.unpinned (pins:=[]),T.keep _ _ _ st7 fun b hb o e=>(I10.pin (b,o) (List.mem_append_right _ (List.mem_append_right _ (Yb hb e)))).1,fun b hb=>?_,w9⟩
     obtain ⟨o,e,d⟩:=T.obj _ _ st7 b hb
     exact (I10.pin (b,o) (List.mem_append_right _ (List.mem_append_right _ (Yb hb e)))).2.1
 exact codeAny_compStart_list loop (T.self _ 0 _ _ _ st4 loop)
theorem XY (O:CompOk X scope x) (hc:X.calm=true) (hi:PI X (.Name x px) iter wi) (he:∀ cl C s₀ H₀ fp,PE (ZY X scope x cl C s₀ H₀ fp) elt te)
   (hs:∀ v,foldedSetIterable iter X.env v=pure v:=by intro _;rfl):PE X (.ListComp elt [⟨.Name x px,iter,[],0⟩] scope pos) (Zmz wi te):=by
 intro pins s σ H Q I h
 obtain ⟨cl,hcl,cl1,cl2⟩:=Wq (scope:=scope) (env:=X.env) fun y hy hf=>I.ok.has _ (O.clos y hy hf)
 rw [eval_ListComp]
 refine wpAny_comprehension_free (use:=none) rfl hs hcl O.kind O.names (Zm (hi pins s σ H _ I h) fun v s1 h1=>Zm h1 fun itv s2 h2=>?_)
 obtain ⟨it,fp,tn,J,H2,e,I2,T,st2,f2,q⟩:=h2
 subst e
 refine Zfi (RR:=fun acc C=>compPost (model X.prog X.w) X.A X.xe none (EP X pins σ Q) acc C) O hc cl1 cl2 he I2 T st2 f2 q ?_
 intro D C H' s' I' ⟨g0,g1,g2,g3,g4,g5⟩ ⟨m,hm⟩ hq
 exact ⟨m,hm,fun h' hs'=>⟨.ref D,H',I'.turned (t':=s'.toks) (fun b o hb e=>(hs'.2 b hb).trans e) g0 g1 g3 g4 g5,rfl,hq⟩⟩
end
theorem Zfn {lo:Int} {n:Nat} {te:TE} {σ:St} {D:Addr} {Q:VK} {H:Hp} (hn:n≤sizeLine) (Pv:Nat→List V→Hp→Prop) (h0:Pv 0 [] (upd H D (.lst [])))
   (hl:∀ i ys H,Pv i ys H→ys.length=i)
   (hs:∀ i ys H,i < n→Pv i ys H→te (σ++[some (.int (lo+i))]) H fun y H4=>H4 D=some (.lst ys)∧Pv (i+1) (ys++[y]) (upd H4 D (.lst (ys++[y])))) (hd:∀ ys H,Pv n ys H→Q (.ref D) H):Uv (Itr lo n) te σ D Q H:=by
 refine ⟨fun i m ys H=>m=n - i∧i≤n∧Pv i ys H,⟨n,by simp,Nat.zero_le _,h0⟩,?_⟩
 rintro i m ys H2 ⟨rfl,hi,p⟩
 by_cases hlt:i < n
 · have hlen:=hl i ys _ p
   refine .inr ⟨hlt,_,fun y H4 (q:H4 D=some (.lst ys)∧Pv (i+1) (ys++[y]) (upd H4 D (.lst (ys++[y]))))=>⟨q.1,by omega,n - (i+1),by omega,rfl,hlt,q.2⟩,fun v H3 y=>?_⟩
   obtain ⟨e,e'⟩:=y
   subst e e'
   exact hs i ys _ hlt p
 · have e:i=n:=by omega
   subst e
   exact .inl ⟨Nat.le_refl _,hd ys H2 p⟩
theorem Zhw {K:PySem.W.Frag} {a:Addr} {xs:List V} {te:TE} {σ:St} {D:Addr} {Q:VK} {H:Hp} (hn:xs.length≤sizeLine) (Pv:Nat→List V→Hp→Prop) (h0:Pv 0 [] (upd H D (.lst [])))
   (hl:∀ i ys H,Pv i ys H→ys.length=i∧SqT K H a xs)
   (hs:∀ i x ys H,xs[i]?=some x→Pv i ys H→te (σ++[some x]) H fun y H4=>H4 D=some (.lst ys)∧Pv (i+1) (ys++[y]) (upd H4 D (.lst (ys++[y])))) (hd:∀ ys H,Pv xs.length ys H→Q (.ref D) H):Uv (Itt K a) te σ D Q H:=by
 refine ⟨fun i m ys H=>m=xs.length - i∧i≤xs.length∧Pv i ys H,⟨xs.length,by simp,Nat.zero_le _,h0⟩,?_⟩
 rintro i m ys H2 ⟨rfl,hi,p⟩
 obtain ⟨hlen,q⟩:=hl i ys _ p
 by_cases hlt:i < xs.length
 · refine .inr ⟨⟨xs,xs[i],q,by simp [hlt]⟩,_,fun y H4 (q:H4 D=some (.lst ys)∧Pv (i+1) (ys++[y]) (upd H4 D (.lst (ys++[y]))))=>⟨q.1,by omega,xs.length - (i+1),by omega,rfl,hlt,q.2⟩,fun v H3 y=>?_⟩
   obtain ⟨e,y⟩:=y
   subst e
   exact hs i v ys _ (y xs q) p
 · have e:i=xs.length:=by omega
   subst e
   exact .inl ⟨⟨xs,q,Nat.le_refl _⟩,hd ys H2 p⟩
end L2
namespace L2
open PySem PySem.Spec PyProof.Rows
section
variable {X:Cx} {tg:Expr}
end
section
variable {X:Cx}
theorem XD:Yv X (.builtin "isinstance") (fun xs H Q=>∃ x c t b,xs=[x,.ty c]∧XX X.K H x t∧PySem.W.kitOne X.K t (.type c)=some b∧Q (.bl b) H):=by
 intro pins s σ H xs us Q I r h
 obtain ⟨x,c,t,b,rfl,ty,e,q⟩:=h
 obtain ⟨u,u',rfl,ru,ru'⟩:=Zad r
 have e':u'=Value.type c:=ru'
 subst e'
 exact Zgv I ru ty e fun tk=>⟨.bl b,H,I.tok tk,rfl,q⟩
theorem Zcr (hc:X.calm=true):Yv X (.builtin "all") (fun xs H Q=>∃ (a:Addr) (bs:List Bool),xs=[.ref a]∧SqL X.K H a (bs.map V.bl)∧Q (.bl (bs.all id)) H):=by
 intro pins s σ H xs us Q I r h
 obtain ⟨a,bs,rfl,hq,q⟩:=h
 obtain ⟨u,rfl,ru⟩:=Yr r
 cases ru
 obtain ⟨its,rv,p,hz⟩:=I.list hq
 have hlen:=rv.length
 rw [List.length_map] at hlen
 have hal:a < s.heap.objs.size:=by obtain ⟨_,e,_⟩:=p.isList;exact Heap.lt_size e
 refine call_all_walk (wpAny_pyIter_list p.isList ⟨s.heap.objs.size,_,_,_,_,_,fun i=>bs.getD i false,rfl,Walks.list (A:=X.A.in1) (I.ok.hd hc) s.heap.objs.size a (Nat.ne_of_lt hal) its.toArray,⟨⟨_,Heap.get?_push_size _ rfl,rfl,rfl⟩,p.isList.push _⟩,?_,?_⟩)
 · intro i v s' Q' E' hv hQ'
   have hv':its[i]?=some v:=by simpa using hv
   have hi:i < bs.length:=by
     have:=(List.getElem?_eq_some_iff.mp hv').1
     omega
   obtain ⟨u,hu,ru⟩:=rv.get (i:=i) (x:=V.bl bs[i]) (by simp [hi])
   rw [hv'] at hu
   cases hu
   have e:v=Value.bool bs[i]:=ru
   subst e
   have hQ2:Q' (bs.getD i false) s':=hQ'
   rw [List.getD_eq_getElem?_getD,List.getElem?_eq_getElem hi] at hQ2
   exact wpAny_truthy_bool hQ2
 · intro h' tk hk
   have e:(List.range its.toArray.size).all (fun i=>bs.getD i false)=bs.all id:=by
     rw [List.size_toArray,← hlen]
     apply Bool.eq_iff_iff.mpr
     rw [List.all_eq_true,List.all_eq_true]
     constructor
     · intro z b hb
       obtain ⟨i,hi,rfl⟩:=List.mem_iff_getElem.mp hb
       have:=z i (List.mem_range.mpr hi)
       rwa [List.getD_eq_getElem?_getD,List.getElem?_eq_getElem hi] at this
     · intro z i hi
       have hi':=List.mem_range.mp hi
       rw [List.getD_eq_getElem?_getD,List.getElem?_eq_getElem hi']
       exact z _ (List.getElem_mem hi')
   rw [e]
   refine ⟨.bl (bs.all id),H,I.kept (t':=tk) fun b o eb=>hk b o ?_ (Heap.get?_push_of_some _ eb),rfl,q⟩
   intro hm
   have:b=s.heap.objs.size:=by simpa using hm
   rw [this] at eb
   exact absurd (Heap.lt_size eb) (Nat.lt_irrefl _)
theorem Zep:∀ {ys:List Str} {us:List Value},Vals (ys.map V.str) us→StrsAre us ys
 | [],_,.nil=>.nil
 | y::ys,_,.cons r t=>by obtain ⟨k,rfl⟩:=r;exact .cons _ _ (Zep t)
theorem Zee:MtR X "str.join" (fun x xs H Q=>∃ sep a ys,x=.str sep∧xs=[.ref a]∧SqL X.K H a (ys.map V.str)∧(ys.map (·.length)).sum+ys.length * sep.length≤16777216∧Q (.str (Txt.join sep ys)) H):=by
 intro pins s σ H x xs v us Q I rx rv h
 obtain ⟨sep,a,ys,rfl,rfl,hq,hz,q⟩:=h
 obtain ⟨t,rfl⟩:=rx
 obtain ⟨u,rfl,ru⟩:=Yr rv
 cases ru
 obtain ⟨its,r,p,_⟩:=I.list hq
 exact join_list p.isList (by simpa using Zep r) hz fun t' k=>⟨.str _,H,I.tok k,⟨_,rfl⟩,q⟩
theorem Zcj:SlR X (fun x lo hi H Q=>∃ z,x=.str z∧z.length≤sizeLine∧Q (.str (Txt.slice z lo hi)) H):=by
 intro pins s σ H x v vl vu lo hi sl Q I rx hs pl pu h
 obtain ⟨z,rfl,hz,q⟩:=h
 obtain ⟨t,rfl⟩:=rx
 refine ⟨"str",_,F.slot_str_getitem.lookup,typeIs_str _ _ _,?_⟩
 have fin:∀ (t':Tok) (k:Nat),EP X pins σ Q (.str (Txt.slice z lo hi) t') { s with toks:=k }:=fun t' k=>⟨.str _,H,I.tok k,⟨_,rfl⟩,q⟩
 obtain ⟨o,ho,hc,hd⟩:=hs
 cases pl <;> cases pu
 · exact wpAny_getItem_str_slice (l:=none) (u:=none) (st:=none) ⟨_,ho,hc,hd⟩ rfl (post_val_or_str ⟨Nat.le_trans (Txt.slice_le z _ _) hz,fin⟩)
 · rename_i j uj
   exact wpAny_getItem_str_slice (l:=none) (u:=some (j,uj)) (st:=none) ⟨_,ho,hc,hd⟩ rfl (post_val_or_str ⟨Nat.le_trans (Txt.slice_le z _ _) hz,fin⟩)
 · rename_i i ui
   exact wpAny_getItem_str_slice (l:=some (i,ui)) (u:=none) (st:=none) ⟨_,ho,hc,hd⟩ rfl (post_val_or_str ⟨Nat.le_trans (Txt.slice_le z _ _) hz,fin⟩)
 · rename_i i ui j uj
   exact wpAny_getItem_str_slice (l:=some (i,ui)) (u:=some (j,uj)) (st:=none) ⟨_,ho,hc,hd⟩ rfl (post_val_or_str ⟨Nat.le_trans (Txt.slice_le z _ _) hz,fin⟩)
end
mutual
inductive DataOf (H:Hp):V→PyData→Prop
 | non:DataOf H .non .none
 | bl (b):DataOf H (.bl b) (.bool b)
 | int (i):DataOf H (.int i) (.int i)
 | str (x):DataOf H (.str x) (.str x)
 | lst {a xs ds}:H a=some (.lst xs)→DatasOf H xs ds→DataOf H (.ref a) (.list ds)
 | tup {a xs ds}:H a=some (.tup xs)→DatasOf H xs ds→DataOf H (.ref a) (.tuple ds)
inductive DatasOf (H:Hp):List V→List PyData→Prop
 | nil:DatasOf H [] []
 | cons {v d vs ds}:DataOf H v d→DatasOf H vs ds→DatasOf H (v::vs) (d::ds)
end
section
variable {P:Program} {w:World} {H:Hp} {h:Heap}
mutual
theorem DataOf.reads (hok:HOk P w H h):∀ {v d} (u:Value),DataOf H v d→RelV v u→d.hasDict=false∧∃ as,Reads h u d as
 | _,_,u,.non,r=>by cases (show u=.none from r);exact ⟨rfl,_,.none⟩
 | _,_,u,.bl b,r=>by cases (show u=.bool b from r);exact ⟨rfl,_,.bool b⟩
 | _,_,u,.int i,r=>by obtain ⟨t,e⟩:=(show ∃ t,u=.int i t from r);subst e;exact ⟨rfl,_,.int i t⟩
 | _,_,u,.str x,r=>by obtain ⟨t,e⟩:=(show ∃ t,u=.str x t from r);subst e;exact ⟨rfl,_,.str x t⟩
 | _,_,u,.lst (a:=a) (xs:=xs) e q,r=>by
   cases (show u=.ref a from r)
   obtain ⟨_,its,n,rv,g⟩:=(show ObjOk P w H h a (.lst xs) from hok a _ e)
   obtain ⟨nd,as,ra⟩:=DatasOf.reads hok its q rv
   exact ⟨by simpa [PyData.hasDict] using nd,_,.list g rfl rfl (by simpa using ra)⟩
 | _,_,u,.tup (a:=a) (xs:=xs) e q,r=>by
   cases (show u=.ref a from r)
   obtain ⟨_,its,rv,o,g,c,n,d⟩:=(show ObjOk P w H h a (.tup xs) from hok a _ e)
   obtain ⟨nd,as,ra⟩:=DatasOf.reads hok its q rv
   exact ⟨by simpa [PyData.hasDict] using nd,_,.tuple g c d (by simpa using ra)⟩
theorem DatasOf.reads (hok:HOk P w H h):∀ {vs ds} (us:List Value),DatasOf H vs ds→Vals vs us→PyData.hasDictAll ds=false∧∃ as,ReadsAll h us ds as
 | _,_,_,.nil,.nil=>⟨rfl,_,.nil⟩
 | _,_,_,.cons r t,.cons rv tv=>by
   obtain ⟨n1,as,r1⟩:=DataOf.reads hok _ r rv
   obtain ⟨n2,bs,r2⟩:=DatasOf.reads hok _ t tv
   exact ⟨by simp [PyData.hasDictAll,n1,n2],_,.cons r1 r2⟩
end
end
section
variable {X:Cx}
end
end L2
namespace L2
open PySem PySem.Spec PyProof.Rows
def Def (P:Program) (w:World) (K:PySem.W.Frag) (mg:Str→Option Value) (base:Heap) (k:Nat) (x:Str) (ps:List Str) (sp:Sp):Prop :=
 ∃ f fd,FnOk P w K mg base ZH k f fd ps sp∧Binds K fd ps []∧PySem.W.keepIn K (.ref f)=true∧mg x=some (.ref f)
theorem Def.mono {P:Program} {w:World} {K:PySem.W.Frag} {mg:Str→Option Value} {base:Heap} {j k:Nat} {x:Str} {ps:List Str} {sp:Sp} (D:Def P w K mg base j x ps sp) (h:j≤k):Def P w K mg base k x ps sp :=
 let ⟨f,fd,F,b,kp,m⟩:=D;⟨f,fd,F.mono h,b,kp,m⟩
section
variable {X:Cx} {k:Nat} {x:Str} {ps:List Str} {sp:Sp} {p pos:Pos} {e:Expr} {es:List Expr} {t:TA}
theorem Zz (D:Def X.prog X.w X.K X.mg X.base k x ps sp) (hr:Room k X.A) (ha:PA X (e::es) t) (hg:Gl X x:=by rfl) (hdb:(x == ("__debug__":Str))=false:=by decide)
   (he:starEach (e::es) X.env=(false,eval e X.env)::starEach es X.env:=by rfl) (hpl:(backTo pos (starEach es X.env)).any (·.1)=false:=by rfl) :
   PE X (.Call (.Name x p) (e::es) [] pos) (ZeZ sp [] E0 t):=by
 obtain ⟨f,fd,F,b,kp,m⟩:=D
 exact ZjP F hr hg m kp b .nil ZbW ha hdb he hpl
end
def Kp (p:Addr) (H H':Hp):Prop:=∀ q o,q≠p→H q=some o→H' q=some o
theorem Kp.trans {p:Addr} {H H1 H2:Hp} (a:Kp p H H1) (b:Kp p H1 H2):Kp p H H2:=fun q o n h=>b q o n (a q o n h)
theorem Kp.upd (p:Addr) (H:Hp) (o:HO):Kp p H (upd H p o):=fun q u n h=>by rw [Zk n];exact h
theorem Same.kp {H H':Hp} (a:Same H H') (p:Addr):Kp p H H':=fun q o _ h=>a q o h
theorem ZB {H:Hp} {p:Addr} (h:H p=none) (o:HO):Same H (upd H p o):=fun b u q=>by rw [Zk (Zt q h)];exact q
def BoxAt (H:Hp) (p:Addr) (n:Nat):Prop:=∃ a b c:Int,H p=some (.lst [.int a,.int b,.int c])∧0≤a∧0≤c∧c≤n
theorem BoxAt.same {H H':Hp} {p:Addr} {n:Nat} (h:BoxAt H p n) (s:Same H H'):BoxAt H' p n:=let ⟨a,b,c,e,r⟩:=h;⟨a,b,c,s _ _ e,r⟩
theorem BoxAt.le {H:Hp} {p:Addr} {n m:Nat} (h:BoxAt H p n) (l:n≤m):BoxAt H p m:=let ⟨a,b,c,e,h1,h2,h3⟩:=h;⟨a,b,c,e,h1,h2,by omega⟩
def ZaG (M:Int):Sp:=fun vs H Q _=>∃ (p:Addr) (n:Nat) (m:Int),vs=[.ref p,.int m]∧BoxAt H p n∧n≤1000000∧0 < m∧m < M∧∀ (r:Int) (H':Hp),0≤r→r < m→BoxAt H' p (n+1)→Kp p H H'→Q (.int r) H'
def Zge (K:PySem.W.Frag):Sp:=fun vs H Q _=>∃ (a:Addr) (ns:List Int) (k:Int),vs=[.ref a,.int k]∧SqL K H a (ns.map V.int)∧0≤k∧∀ (r:Int),Q (.int r) H
def ZiZ (K:PySem.W.Frag):Sp:=fun vs H Q _=>∃ (a:Addr) (ns:List Int) (k:Int),vs=[.ref a,.int k]∧SqL K H a (ns.map V.int)∧0≤k∧k≤1000∧∀ (p:Addr) (H':Hp),H p=none→BoxAt H' p 0→Same H H'→Q (.ref p) H'
theorem ZeS {n:Nat} (h:n≤1000):n≤sizeLine:=Nat.le_of_lt (ZfH h)
end L2
namespace L2
open PySem PySem.Spec PyProof.Rows
def ZdW (N:List Str) (names:List (Str×NameKind)) (scope:Scope) (x:Str):Bool :=
 decide ((WM N x++[x]).Nodup) && scope.names.all (fun y=>(y.2 != .free || names.lookup y.1 == some .cell || names.lookup y.1 == some .free) && (y.2 != .cell && (y.2 != .local || scope.names.lookup y.1 == some .local))) &&
 ((scope.kind == .function && scope.names.lookup x == some .local) && N.all fun y=>y == x || scope.names.lookup y != some .local) && scope.names.lookup ("":Str) == none
theorem CompOk.of {X:Cx} {scope:Scope} {x:Str} (N:List Str) (st:Stmt) (hN:X.N=N) (hn:X.env.scope=Zl st) (chk:ZdW N (Zl st).names scope x=true):CompOk X scope x:=by
 unfold ZdW at chk
 simp only [Bool.and_eq_true,decide_eq_true_eq,List.all_eq_true,Bool.or_eq_true,bne_iff_ne,beq_iff_eq] at chk
 obtain ⟨⟨⟨c1,c2⟩,⟨c3,c4⟩,c5⟩,c6⟩:=chk
 refine ⟨by rw [hN];exact c1,fun y hy hf=>?_,fun y hy=>(c2 y hy).2.1,c3,fun y hy hl=>?_,c4,fun y hy hx=>(c5 y (by rw [← hN];exact hy)).resolve_left hx,c6⟩
 · show X.env.scope.names.lookup y.1=_∨X.env.scope.names.lookup y.1=_
   rw [hn]
   rcases (c2 y hy).1 with (z | z) | z
   · exact absurd hf z
   · exact .inl z
   · exact .inr z
 · rcases (c2 y hy).2.2 with z | z
   · exact absurd hl z
   · exact z
theorem Zaz:∀ (rest:List Str) (acc:Array Nat),(rest.foldl (fun acc p=>acc++(Str.ofString "").cps++p.cps) acc).toList=acc.toList++rest.flatMap (·.cps.toList)
 | [],acc=>by simp
 | p::r,acc=>by
   have e:(Str.ofString "").cps=#[]:=by decide +kernel
   rw [List.foldl_cons,Zaz r,List.flatMap_cons,e]
   simp
theorem Wp:∀ ys:List Str,(Txt.join (Str.ofString "") ys).cps.toList=ys.flatMap (·.cps.toList)
 | []=>rfl
 | y::r=>by
   show (List.foldl (fun acc p=>acc++(Str.ofString "").cps++p.cps) y.cps r).toList=_
   rw [Zaz];rfl
theorem Yd (x:Str):x.length=x.cps.toList.length:=by simp [Str.length]
theorem ZfD (s e:Int) (i j:Nat) (hs:s=i) (he:e=j):sliceRange s e 1=(List.range (j - i)).map (i+·):=by
 subst hs he
 unfold sliceRange
 simp only [show (1:Int) > 0 by decide,if_true]
 have e3:(if (i:Int) < (j:Int) then ((j:Int) - i+1 - 1) / 1 else 0).toNat=j - i:=by
   split
   · rw [Int.ediv_one];omega
   · omega
 rw [e3]
 apply List.map_congr_left
 intro k hk
 omega
theorem We (z:Str) (lo hi:Option Int):(Txt.slice z lo hi).cps.toList=(z.cps.toList.drop (HT.sIx z.length 0 lo)).take (HT.sIx z.length z.length hi - HT.sIx z.length 0 lo):=by
 have key:Builtin.Str.strSliceIndices lo hi 1 z.length=(List.range (HT.sIx z.length z.length hi - HT.sIx z.length 0 lo)).map (HT.sIx z.length 0 lo+·):=by
   unfold Builtin.Str.strSliceIndices
   refine ZfD _ _ _ _ ?_ ?_
   · cases lo with
     | none=>rfl
     | some i=>simp only [HT.sIx,show (1:Int) > 0 by decide,if_true];split <;> omega
   · cases hi with
     | none=>rfl
     | some i=>simp only [HT.sIx,show (1:Int) > 0 by decide,if_true];split <;> omega
 have hj:HT.sIx z.length z.length hi≤z.length:=HT.sIx_le _ _ (Nat.le_refl _) hi
 unfold Txt.slice
 rw [key]
 split
 · rename_i h
   simp only [beq_self_eq_true,Bool.true_and,List.length_map,List.length_range,beq_iff_eq] at h
   have h0:HT.sIx z.length 0 lo=0∨z.length=0:=by omega
   rcases h0 with h0 | h0
   · rw [h0] at h ⊢
     rw [List.drop_zero,h,Yd,List.take_length]
   · have e:z.cps.toList=[]:=List.eq_nil_of_length_eq_zero (by rw [← Yd];exact h0)
     rw [e];simp
 · show (List.filterMap (fun k=>z.cps[k]?) ((List.range _).map _)).toArray.toList=_
   rw [List.filterMap_map]
   generalize HT.sIx z.length 0 lo=i at *
   generalize HT.sIx z.length z.length hi - i=n at *
   have gen:∀ (n i:Nat),List.filterMap ((fun k=>z.cps[k]?) ∘ (i+·)) (List.range n)=(z.cps.toList.drop i).take n:=by
     intro n
     induction n with
     | zero=>intro i;simp
     | succ n ih =>
       intro i
       rw [List.range_succ,List.filterMap_append,ih,List.take_add_one,List.getElem?_drop]
       congr 1
       simp only [List.filterMap_cons,List.filterMap_nil,Function.comp,Array.getElem?_toList]
       cases z.cps[i+n]? <;> rfl
   rw [gen]
theorem Vn (x y:Str):(x++y).cps.toList=x.cps.toList++y.cps.toList:=by
 show (x.cps++y.cps).toList=_
 simp
theorem Xu (x y:Str):(x++y).length=x.length+y.length:=by rw [Yd,Vn,List.length_append,← Yd,← Yd]
def WX (c:Nat):Bool:=decide (97≤c) && decide (c≤122)
def sgn (c:Nat):Bool:=decide (32≤c) && decide (c≤126)
theorem Zgp {X:Cx} {K:PySem.W.Frag} (hK:X.K=K):Yv X (.builtin "len") (fun xs H Q=>∃ x n,xs=[x]∧Zhk K x H n∧Q (.int n) H):=by subst hK;exact ZhS
@[reducible] def notStar:Expr→Bool
 | .Starred ..=>false
 | _=>true
theorem Zjl {e:Expr} {es:List Expr} {env:Env} (h:notStar e=true):starEach (e::es) env=(false,eval e env)::starEach es env:=by
 cases e <;> first | rfl | cases h
section
variable {X:Cx} {k:Nat} {x:Str} {ps:List Str} {sp:Sp} {p pos:Pos} {e:Expr} {es:List Expr} {te:TE} {t:TA}
theorem UP (ha:PE X e te) (hr:PA X es t) (h:notStar e=true):PA X (e::es) (Xe te t):=Yw ha hr (Zjl h)
theorem Zc (ha:PE X e te) (hr:PA X es t) (h:notStar e=true:=by rfl):PA X (e::es) (Xe te t):=Yw ha hr (Zjl h)
end
end L2
namespace L2
open PySem PySem.Spec PyProof.Rows
section
variable {X:Cx}
theorem Zab:Xc X (binaryOp .FloorDiv) (rI (fun _ j=>0 < j∧j < 2 ^ 62) fun i j=>.int (i / j)):=opI fun i j _ _ _ _ _ hc q=>by
 have h1:(0:Int) < j:=hc.1
 have h2:j < 2 ^ 62:=hc.2
 refine floordiv_int (by omega) (by rw [Int.fdiv_eq_ediv_of_nonneg i (by omega)];exact q) (.inl (PyProof.noPylong_of_log2 ?_))
 have h3:j.natAbs≠0:=by omega
 have h4:j.natAbs < 2 ^ 9000:=Nat.lt_of_lt_of_le (show j.natAbs < 2 ^ 62 by omega) (Nat.pow_le_pow_right (by decide) (by decide))
 exact (Nat.log2_lt h3).mpr h4
theorem VZ:MtR X "str.index" (fun x xs H Q=>∃ z y,x=.str z∧xs=[.str y]∧0≤Txt.find z y∧Q (.int (Txt.find z y)) H):=by
 intro pins s σ H x xs v us Q I rx rv h
 obtain ⟨z,y,rfl,rfl,hz,q⟩:=h
 obtain ⟨t,rfl⟩:=rx
 obtain ⟨u,rfl,ru⟩:=Yr rv
 obtain ⟨t',rfl⟩:=ru
 cases ho:Builtin.Str.occurrences z y 0 z.length 1 with
 | nil => have:Txt.find z y=-1:=by simp [Txt.find,ho]
          omega
 | cons i rest =>
   have e:Txt.find z y=i:=by simp [Txt.find,ho]
   rw [e] at q
   exact call_gives F.slot_str_index (typeIs_str _ _ _) F.entry_str_index (F.args_str_index_2 _ _) (gives_str_index z y t t' i rest ho) ⟨.int i,H,I.tok _,⟨_,rfl⟩,q⟩
end
end L2
namespace L2
open PySem PySem.Spec PyProof.Rows
theorem Zbh (is:List Int):∀ n,n≤is.length→preSum (fun i=>is.getD i 0) n=(is.take n).sum
 | 0,_=>by simp [preSum]
 | n + 1,h=>by
   have hn:n < is.length:=h
   have e:(is.take (n+1)).sum=(is.take n).sum+is[n]:=by
     rw [List.take_add_one,List.getElem?_eq_getElem hn,List.sum_append]
     show _+(is[n]+0)=_
     rw [Int.add_zero]
   rw [preSum,Zbh is n (by omega),e,List.getD_eq_getElem?_getD,List.getElem?_eq_getElem hn]
   rfl
theorem ZfC (is:List Int) (h:∀ i∈is,i.natAbs≤2 ^ 40):is.sum.natAbs≤is.length * 2 ^ 40:=by
 induction is with
 | nil=>simp
 | cons a r ih =>
   have h1:=h a List.mem_cons_self
   have h2:=ih fun i hi=>h i (List.mem_cons_of_mem _ hi)
   rw [List.sum_cons,List.length_cons]
   omega
theorem Zhm {is:List Int} {us:List Value} (r:Vals (is.map V.int) us) {i:Nat} {v:Value} (h:us[i]?=some v):∃ t,v=.int (is.getD i 0) t:=by
 have hl:=r.length
 rw [List.length_map] at hl
 have hi:i < is.length:=by
   have:=(List.getElem?_eq_some_iff.mp h).1
   omega
 obtain ⟨u,hu,ru⟩:=r.get (i:=i) (x:=V.int is[i]) (by simp [hi])
 rw [h] at hu
 cases hu
 obtain ⟨t,e⟩:=ru
 exact ⟨t,by rw [e,List.getD_eq_getElem?_getD,List.getElem?_eq_getElem hi];rfl⟩
section
variable {X:Cx}
theorem ZiA (hc:X.calm=true):Yv X (.builtin "sum") (fun xs H Q=>∃ (a:Addr) (is:List Int),xs=[.ref a]∧SqL X.K H a (is.map V.int)∧is.length≤1000∧(∀ i∈is,i.natAbs≤2 ^ 40)∧Q (.int is.sum) H):=by
 intro pins s σ H xs us Q I r h
 obtain ⟨a,is,rfl,hq,hn,hb,q⟩:=h
 obtain ⟨u,rfl,ru⟩:=Yr r
 cases ru
 obtain ⟨its,rv,p,hz⟩:=I.list hq
 have hlen:=rv.length
 rw [List.length_map] at hlen
 have hal:a < s.heap.objs.size:=by obtain ⟨_,e,_⟩:=p.isList;exact Heap.lt_size e
 refine call_sum_walk (wpAny_pyIter_list p.isList ⟨s.heap.objs.size,_,_,_,_,_,fun i=>is.getD i 0,rfl,Walks.list (A:=X.A.in1) (I.ok.hd hc) s.heap.objs.size a (Nat.ne_of_lt hal) its.toArray,⟨⟨_,Heap.get?_push_size _ rfl,rfl,rfl⟩,p.isList.push _⟩,?_,?_,?_,?_⟩)
 · intro b hb
   show b < (s.heap.push _).objs.size
   rw [Heap.size_push]
   rcases List.mem_cons.mp hb with e | hb
   · rw [e];exact Nat.lt_succ_self _
   · rw [List.mem_singleton.mp hb];exact Nat.lt_succ_of_lt hal
 · intro i v hv
   exact Zhm rv (by simpa using hv)
 · intro j hj
   have hj':j < is.length:=by rw [List.size_toArray] at hj;omega
   have b1:=hb is[j] (List.getElem_mem hj')
   have b2:=ZfC (is.take (j+1)) fun i hi=>hb i (List.mem_of_mem_take hi)
   rw [List.length_take] at b2
   rw [Zbh is (j+1) hj']
   have e0:is.getD j 0=is[j]:=by rw [List.getD_eq_getElem?_getD,List.getElem?_eq_getElem hj'];rfl
   constructor
   · show InLong (is.getD j 0)
     rw [e0]
     exact ⟨by omega,by omega⟩
   · have b3:(min (j+1) is.length) * 2 ^ 40≤1000 * 2 ^ 40:=Nat.mul_le_mul_right _ (by omega)
     exact ⟨by omega,by omega⟩
 · intro h' tk t' hk
   have e:preSum (fun i=>is.getD i 0) its.toArray.size=is.sum:=by
     rw [List.size_toArray,← hlen,Zbh is _ (Nat.le_refl _),List.take_length]
   rw [e]
   refine ⟨.int is.sum,H,I.kept (t':=tk) fun b o eb=>hk b o ?_ (Heap.get?_push_of_some _ eb),⟨_,rfl⟩,q⟩
   intro hm
   have:b=s.heap.objs.size:=by simpa using hm
   rw [this] at eb
   exact absurd (Heap.lt_size eb) (Nat.lt_irrefl _)
theorem Zbw {P:Program} {w:World}:∀ {kvs:List (Zj×V)} {vs:List (Zj×Value)},KV kvs vs→∀ (us:List Value),us.length=vs.length→(∀ (j:Nat) (v:Value),us[j]?=some v→∃ k x,vs[j]?=some (k,x)∧(Zu P w).is k v=true)→Vals (kvs.map fun p=>kV p.1) us
 | _,_,.nil,us,hl,_=>by
   have:us=[]:=List.eq_nil_of_length_eq_zero (by simpa using hl)
   subst this;exact .nil
 | _,_,.cons r t,us,hl,h=>by
   cases us with
   | nil=>simp at hl
   | cons u ur =>
     obtain ⟨k,x,e,hk⟩:=h 0 u rfl
     have e':_=(k,x):=Option.some.inj e
     refine .cons ?_ (Zbw t ur (by simpa using hl) fun j v hj=>h (j+1) v (by simpa using hj))
     have e2:=r.1
     rw [e'] at e2
     show RelV (kV _) u
     rw [e2]
     rw [ZaO] at hk
     rcases ZT hk with ⟨i,tt,rfl,rfl⟩ | ⟨y,tt,rfl,rfl⟩
     · exact ⟨tt,rfl⟩
     · exact ⟨tt,rfl⟩
theorem ZaY (hc:X.calm=true):Yv X (.type "list") (fun xs H Q=>∃ (d:Addr) (kvs:List (Zj×V)),xs=[.ref d]∧H d=some (.dK kvs)∧∀ l,H l=none→Q (.ref l) (upd H l (.lst (kvs.map fun p=>kV p.1)))):=by
 intro pins s σ H xs us Q I r h
 obtain ⟨d,kvs,rfl,e,q⟩:=h
 obtain ⟨u,rfl,ru⟩:=Yr r
 cases ru
 obtain ⟨hz,lo,vs,kv,o,es,ep,ho,r1,r2,r3,r4,r5⟩:=Uu I.hok e
 have hlen:vs.length=kvs.length:=(Paired.length kv).symm
 refine PySem.W.kdl_call (PySem.W.kdl_dict (knd:=Zu X.prog X.w) (kvs:=vs) (ep:=ep) lo) (I.ok.hd hc) ⟨o,es,ho,r1,r2,r3,r4,r5⟩ (by rw [hlen];exact hz) fun h' tk acc' c' hk hS hacc=>?_
 have rv:Vals (kvs.map fun p=>kV p.1) acc'.toList:=Zbw (P:=X.prog) (w:=X.w) kv acc'.toList (by rw [Array.length_toList];exact hacc.1) fun j v hj=>hacc.2 j v (by rw [← Array.getElem?_toList];exact hj)
 exact ⟨.ref s.heap.objs.size,_,I.laid (t':=tk) hk (Nat.le_refl _) (show ObjOk X.prog X.w _ h' _ (.lst (kvs.map fun p=>kV p.1)) from ⟨by rw [List.length_map];exact hz,acc'.toList,c',rv,by rw [Array.toArray_toList];exact hS⟩),rfl,q _ (I.hok.fresh (Nat.le_refl _))⟩
end
section
variable {X:Cx} {tg:Expr}
end
end L2
set_option maxHeartbeats 2000000
namespace L2
open PySem PySem.Spec PyProof.Rows
theorem Zax {prog:Program} {w:World} {A:Around} {it:Addr} {fp:List Addr} {n:Nat} {P:Nat→Value→Prop} {St:Nat→Heap→Prop} (D:Draws prog w A it fp n P St) :
   Draws prog w A it fp (n+1) (fun i v=>∃ j,i=j+1∧P j v) (fun i h=>∃ j,i=j+1∧St j h) where
 live:=fun i h ⟨j,_,st⟩=>D.live j h st
 frame:=fun i h h' ⟨j,e,st⟩ k=>⟨j,e,D.frame j h h' st k⟩
 item:=fun i s Q E hi ⟨j,e,st⟩ hQ=>by
   subst e
   exact D.item j s Q E (by omega) st fun x h' tk p st' sb=>hQ x h' tk ⟨j,rfl,p⟩ ⟨j+1,rfl,st'⟩ sb
 done:=fun s Q E ⟨j,e,st⟩ hE=>by
   have:n=j:=by omega
   subst this
   exact D.done s Q E st hE
section
variable {prog:Program} {w:World} {A:Around} {E:Value→Shared→Prop} {s:Shared}
theorem VS (x:Str) (t t1:Tok) :
   Meets (Builtin.«enumerate.__new__» ⟨[.type "enumerate",.str x t],[("start",.int 1 t1)]⟩) (fun _ R s =>
     R (.ok (.ret (.ref (s.heap.push { cls:=.type (strIterType x),data:=.fields #[.str x t,.int 0 0] }).objs.size)))
       { s with heap:=(s.heap.push { cls:=.type (strIterType x),data:=.fields #[.str x t,.int 0 0] }).push { cls:=.type "enumerate",data:=.fields #[.none,.bool false,.ref s.heap.objs.size,rawInt 1,.none,.none] } }) :=
 .of_wp fun prog w A R s h=>by
   obtain ⟨hp,g,d,tk,os⟩:=s
   have sub1:=sub_enumerate
   wp_walk
   refine wpAny_stack_any fun st=>wpAny_pure ?_
   split
   · rename_i c _ _ _ _ _
     cases (c == Value.type "enumerate") <;> (wp_walk using wpAny_pyIter_strU;exact ⟨_,rfl,h⟩)
   · wp_walk using wpAny_pyIter_strU
     exact ⟨_,rfl,h⟩
end
end L2
set_option maxHeartbeats 2000000
namespace L2
open PySem PySem.Spec PyProof.Rows
section
variable {prog:Program} {w:World} {A:Around} {E:Value→Shared→Prop} {s:Shared}
theorem ZaU {T newId:String} {self a:Value} {kw:List (Str×Value)} (hl:typeLookup (.type T) "__init__"=pure (some (.builtin "object.__init__")))
   (hm:Bind.madeBy (.type T)=pure (some newId)) (hne:(some newId != some "object.__new__")=true) :
   Meets (Builtin.«object.__init__» ⟨[self,a],kw⟩) (fun _ R s=>s.TypeIs self T∧R (.ok (.ret .none)) s):=by
 refine Meets.of_wp fun prog w A R s hs=>?_
 obtain ⟨hT,hq⟩:=hs
 repeat (any_goals first | assumption | wp_step)
 exact ⟨_,rfl,hq⟩
theorem Zcq {T newId initId:String} {Bn Bi:Builtin} {args:List Value} {kw:List (Str×Value)} {S:PySem.Spec} {Q Q₁:Value→Shared→Prop} (ft:TypeCalled T newId initId)
   (hct:checkTypeCall T ⟨args,kw⟩=pure ()) (hcn:checkBuiltinCall newId ⟨.type T::args,kw⟩=pure ())
   (entryN:entryFor table newId=some Bn) (entryI:entryFor table initId=some Bi) (g:Meets (Bn ⟨.type T::args,kw⟩) S) (h:S A.in1 (wants Q₁ E) s)
   (hnext:∀ obj s₁,Q₁ obj s₁→s₁.TypeIs obj T∧argsOk initId ⟨obj::args,kw⟩∧∃ Si,Meets (Bi ⟨obj::args,kw⟩) Si∧Si A.in1 (wants (fun r s₂=>r=.none∧Q obj s₂) E) s₁) :
   wpAny (model prog w) A (call (.type T) args kw) Q E s:=by
 obtain ⟨c,tl,hmro⟩:=ft.mro
 have q1:=ft.made
 have q2:=ft.sub
 refine wpAny_call (codeAny_of_tree (show wpAny _ _ (callAny (.type T) _) _ _ _ from wpAny_pure ⟨Code.quiet_builtin _ (by decide +kernel),codeAny_builtin F.entry_type_call ?_⟩))
 rw [Around.under_plain (weight_type_call_type T args kw) (units_type_call_type T args kw)]
 have q3:=ft.notType
 have q4:=ft.canCreate
 repeat (any_goals first | assumption | wp_step)
 refine codeAny_mono (codeAny_call_builtin ft.plain entryN (wpAny_of_eq hcn (g prog w A.in1 _ s h))) fun r s₁ hr=>?_
 rcases r with e | fl
 · exact hr
 · cases fl with
   | ret obj =>
     obtain ⟨hT,hok,Si,gi,hsi⟩:=hnext _ _ hr
     have q5:=ft.init.lookup
     have q6:=ft.init.bind obj
     repeat (any_goals first | assumption | wp_step)
     refine codeAny_mono (codeAny_call_builtin ft.init.plain entryI (ft.init.check _ _ _ _ _ _ _ _ hT hok (gi prog w A.in1 _ s₁ hsi))) fun r₂ s₂ hr₂=>?_
     rcases r₂ with e | fl₂
     · exact hr₂
     · cases fl₂ with
       | ret r =>
         obtain ⟨rfl,hq⟩:=hr₂
         repeat (any_goals first | assumption | wp_step)
       | _=>exact hr₂.elim
   | _=>exact hr.elim
theorem US (a b:Value):checkTypeCall "enumerate" ⟨[a],[("start",b)]⟩=pure ():=by kernel_rfl
theorem UX (a b:Value):checkBuiltinCall "enumerate.__new__" ⟨[.type "enumerate",a],[("start",b)]⟩=pure ():=by kernel_rfl
theorem ZaD (o a b:Value):argsOk "object.__init__" ⟨[o,a],[("start",b)]⟩:=by
 unfold argsOk
 rw [signature?_of (id:="object.__init__") (n:=['_','_','t','i','n','i','_','_']) (o:=['t','c','e','j','b','o']) (by kernel_rfl) F.owner_object]
 kernel_rfl
theorem ZaL {x:Str} {t t1:Tok} {Q:Value→Shared→Prop}
   (h:∀ h',IsEnum h' (s.heap.objs.size+1) s.heap.objs.size 1 .none→h'.IsStrIter s.heap.objs.size (strIterType x) x t 0→h'.objs.size=s.heap.objs.size+2 →
     (∀ b o,s.heap.get? b=some o→h'.get? b=some o)→Q (.ref (s.heap.objs.size+1)) { s with heap:=h' }) :
   wpAny (model prog w) A (call (.type "enumerate") [.str x t] [("start",.int 1 t1)]) Q E s:=by
 have ft:=F.called_enumerate
 refine Zcq (Q₁:=fun obj s₁=>s₁.TypeIs obj "enumerate"∧Q obj s₁) ft (US _ _) (UX _ _) F.entry_enumerate_new F.entry_object_init (VS x t t1) ?_
   (fun obj s₁ hq=>⟨hq.1,ZaD obj _ _,_,ZaU ft.init.lookup ft.made (by decide),hq.1,rfl,hq.2⟩)
 generalize hO:({ cls:=.type (strIterType x),data:=.fields #[.str x t,.int 0 0] }:Obj)=O
 have hz:(s.heap.push O).objs.size=s.heap.objs.size+1:=Heap.size_push ..
 generalize hO2:({ cls:=.type "enumerate",data:=.fields #[.none,.bool false,.ref s.heap.objs.size,rawInt 1,.none,.none] }:Obj)=O2
 have he:((s.heap.push O).push O2).get? (s.heap.objs.size+1)=some O2:=by
   have e:=Heap.get?_push_size (s.heap.push O) (o:=O2) (by rw [← hO2];rfl)
   rw [hz] at e;exact e
 have hi:((s.heap.push O).push O2).get? s.heap.objs.size=some O:=Heap.get?_push_of_some _ (Heap.get?_push_size _ (by rw [← hO];rfl))
 have key:Shared.TypeIs { s with heap:=(s.heap.push O).push O2 } (.ref (s.heap.objs.size+1)) "enumerate"∧Q (.ref (s.heap.objs.size+1)) { s with heap:=(s.heap.push O).push O2 }:=by
   refine ⟨⟨O2,he,by rw [← hO2]⟩,h _ (by rw [← hO2] at he ⊢;exact he) ⟨O,hi,by rw [← hO],by rw [← hO];rfl⟩ (by rw [Heap.size_push,hz]) fun b o y=>Heap.get?_push_of_some _ (Heap.get?_push_of_some _ y)⟩
 rw [← hz] at key
 exact key
end
end L2
set_option maxHeartbeats 2000000
namespace L2
open PySem PySem.Spec PyProof.Rows
theorem Inv.turned2 {X:Cx} {pins:List (Addr×Obj)} {σ:St} {H:Hp} {s:Shared} {h':Heap} {t':Nat} {fp:List Addr} (I:Inv X pins σ H s) (k:∀ b o,b ∉ fp→s.heap.get? b=some o→h'.get? b=some o) (hf:∀ b∈fp,Yo X pins H b) :
   Inv X pins σ H { s with heap:=h',toks:=t' }:=by
 have nit:∀ b u,H b=some u→b ∉ fp:=fun b u e z=>by rw [(hf b z).1] at e;cases e
 refine I.step (g':=s.gens) (d':=s.drawn) (ch:=fp) (fun b hb=>?_) (fun b o _ _ hc e _=>k b o hc e) (fun b o _ _ hc e _=>⟨o.slots,k b o hc e⟩) (fun _ _ _ _ n=>n)
   (fun b o hc e=>⟨o,k b o hc e⟩) (fun _ _ e=>e) (fun _ _ _ e=>e) (fun b ps e=>⟨#[],by rw [e];simp⟩) (fun m hm=>?_) (fun b u e=>?_) I.bare
 · obtain ⟨f0,f1,f2,f3,f4,f5⟩:=hf b hb
   exact ⟨f3,f1,f4,f5⟩
 · obtain ⟨o,es,ep,ho,r⟩:=hm
   exact ⟨o,es,ep,k _ o (fun z=>(hf _ z).2.1 rfl) ho,r⟩
 · refine (I.hok b u e).stay (fun c v hc q=>k c v ?_ q) (fun _ q=>q) fun _ _ q=>q
   rcases hc with z | z
   · rw [z];exact nit b u e
   · exact nit c _ z
theorem WN {prog:Program} {w:World} {A:Around} (hh:A.handled=none) (it:Addr) (x:Str) (t:Tok) :
   Draws prog w A it [it] x.cps.size (fun i v=>∃ c u,x.cps[i]?=some c∧v=.str ⟨#[c]⟩ u) (fun i h=>h.IsStrIter it (strIterType x) x t i):=by
 cases ha:x.cps.all (· < 128)
 · have e:strIterType x="str_iterator":=by simp [strIterType,ha]
   rw [e];exact Draws.strWide hh it x t
 · have e:strIterType x="str_ascii_iterator":=by simp [strIterType,ha]
   rw [e];exact Draws.strAscii hh it x t
def Ite (x:Str):It:=⟨fun i _=>i < x.cps.size,fun i H v H'=>∃ t c,H t=none∧x.cps[i]?=some c∧v=.ref t∧H'=upd H t (.tup [.int ((i:Int)+1),.str ⟨#[c]⟩]),fun i _=>x.cps.size≤i⟩
theorem Zgn {P:Program} {w:World} {K:PySem.W.Frag} {elts:List Expr} {x1:Nat} {tp:Pos} (x:Str) (t:Tok) (e it:Addr) (hne:e≠it) :
   Wz P w K (.Tuple elts x1 tp) (Ite x) [e,it] e (fun i h=>(∃ old,IsEnum h e it ((i:Int)+1) old)∧h.IsStrIter it (strIterType x) x t i∧i≤x.cps.size) where
 mem:=by simp
 obj:=fun i h st b hb=>by
   obtain ⟨⟨old,he⟩,⟨o,ho,c,d⟩,_⟩:=st
   rcases List.mem_cons.mp hb with q | hb
   · rw [q];exact ⟨_,he,fun v z=>by cases z⟩
   · rw [List.mem_singleton.mp hb];exact ⟨o,ho,fun v z=>by rw [d] at z;cases z⟩
 keep:=fun i h h' st k=>by
   obtain ⟨⟨old,he⟩,⟨o,ho,r⟩,hi⟩:=st
   exact ⟨⟨old,k e (by simp) _ he⟩,⟨o,k it (by simp) o ho,r⟩,hi⟩
 item:=by
   intro X hP hw hK hc i pins s σ H E I hf st hg
   subst hP hw hK
   obtain ⟨⟨old,he⟩,hs,hi⟩:=st
   have hlt:i < x.cps.size:=hg
   have D:=Zax (WN (prog:=X.prog) (w:=X.w) (A:=X.A.in1) (I.ok.hd hc) it x t)
   refine wpAny_pyNext_enum_itemD (i:=i+1) D (show IsEnum s.heap e it ((i+1:Nat):Int) old from he) ⟨i,rfl,hs⟩ (by omega) hne (by simpa using hne) fun v h' tk hP hOut hst hT hsz hk=>?_
   obtain ⟨j,ej,c,u,hcc,rfl⟩:=hP
   have ej':i=j:=by omega
   subst ej'
   obtain ⟨j,ej,hst⟩:=hst
   have ej':i+1=j:=by omega
   subst ej'
   have hel:e < s.heap.objs.size:=Heap.lt_size he
   have hil:it < s.heap.objs.size:=by obtain ⟨o,ho,_⟩:=hs;exact Heap.lt_size ho
   refine ⟨_,rfl,wpAny_letOwnedTupleGo_enum hOut fun h2 he2 hs2=>?_⟩
   generalize hO:({ cls:=.type "tuple",data:=.seq #[.int ((i+1:Nat):Int) tk,.str ⟨#[c]⟩ u] }:Obj)=O at hT
   have I1:Inv X pins σ (upd H s.heap.objs.size (.tup [.int ((i:Int)+1),.str ⟨#[c]⟩])) { s with heap:=s.heap.push O,toks:=tk+1 }:=by
     refine I.laid (t':=tk+1) (fun b o y=>Heap.get?_push_of_some _ y) (Nat.le_refl _) (show ObjOk X.prog X.w _ _ _ (.tup _) from ⟨by show 2≤sizeLine;decide,[.int ((i+1:Nat):Int) tk,.str ⟨#[c]⟩ u],.cons ⟨tk,rfl⟩ (.cons ⟨u,rfl⟩ .nil),?_⟩)
     rw [← hO];exact IsTup.new _ _
   have hfree:=I.hok.fresh (Nat.le_refl s.heap.objs.size)
   have hf2:∀ b∈[e,it],Yo X pins (upd H s.heap.objs.size (.tup [.int ((i:Int)+1),.str ⟨#[c]⟩])) b:=fun b hb=>by
     obtain ⟨f0,f1⟩:=hf b hb
     have hb':b≠s.heap.objs.size:=by
       rcases List.mem_cons.mp hb with q | hb
       · rw [q];exact Nat.ne_of_lt hel
       · rw [List.mem_singleton.mp hb];exact Nat.ne_of_lt hil
     exact ⟨by rw [Zk hb'];exact f0,f1⟩
   have I2:Inv X pins σ (upd H s.heap.objs.size (.tup [.int ((i:Int)+1),.str ⟨#[c]⟩])) { s with heap:=h2,toks:=tk+1 }:=by
     refine I1.turned2 (t':=tk+1) (h':=h2) (fun b o hb y=>?_) hf2
     have hbe:b≠e:=fun q=>hb (by simp [q])
     have hbi:b≠it:=fun q=>hb (by simp [q])
     rw [hs2.2 b hbe]
     rcases Heap.get?_push_cases y with ⟨q1,q2⟩ | y
     · rw [q1,q2];exact hT
     · exact hk b o hbe hbi y
   refine ⟨.ref s.heap.objs.size,_,I2,rfl,⟨s.heap.objs.size,c,hfree,hcc,rfl,rfl⟩,⟨⟨_,he2⟩,?_,hlt⟩,fun b hb=>(hf2 b hb).1⟩
   obtain ⟨o,ho,r⟩:=hst
   exact ⟨o,by rw [hs2.2 it hne.symm];exact ho,r⟩
 done:=by
   intro X hP hw hK hc i pins s σ H E I hf st hg
   subst hP hw hK
   obtain ⟨⟨old,he⟩,hs,hi⟩:=st
   have hle:x.cps.size≤i:=hg
   have D:=Zax (WN (prog:=X.prog) (w:=X.w) (A:=X.A.in1) (I.ok.hd hc) it x t)
   have ei:i=x.cps.size:=by omega
   rw [ei] at hs
   obtain ⟨f0,f1,f2,f3,f4,f5⟩:=hf it (by simp)
   exact wpAny_pyNext_enum_endD D he ⟨_,rfl,hs⟩ fun h' eb=>⟨rfl,I.turned (t':=s.toks) (fun b o hb y=>eb b o hb y) f0 f1 f3 f4 f5⟩
 self:=fun _ _ _ _ _ st h=>by
   obtain ⟨⟨old,he⟩,_⟩:=st
   exact wpAny_pyIter_enum he h
theorem VY {M:Model} {A:Around} {E:Value→Shared→Prop} {s:Shared} {pos:Pos} {T:String} {args:List (Bool×Sem Value)} {kws:List (Option Str×Sem Value)} {Q:Value→Shared→Prop}
   (h1:args.any (·.1)=false) (h2:kws.any (·.1.isNone)=false)
   (h:wpAny M A (evalArgs (.type T) true args kws) (fun a s₁=>wpAny M A (call (.type T) a.pos a.kw) Q E s₁) E s):wpAny M A (callWith pos (.type T) [] args kws) Q E s:=by
 unfold callWith
 refine wpAny_bind (wpAny_holding (Zm h fun a s₁ q=>wpAny_bind (wpAny_standAt ?_)))
 simp only [h1,h2,Bool.or_false]
 refine wpAny_bind (wpAny_pure (wpAny_bind (Zm q fun r s₂ hr=>?_)))
 exact wpAny_bind (wpAny_holding (wpAny_point (wpAny_pure hr)))
def ZkN (tl:TE):TI:=fun σ H R=>tl σ H fun v H1=>∃ x,[v]=[V.str x]∧R (Ite x) H1
section
variable {X:Cx}
theorem Zia {l:Expr} {tl:TE} {elts:List Expr} {x1 j:Nat} {tp p pos kp kpos:Pos} (hg:Gl X "enumerate") (hm:X.mg "enumerate"=none) (hl:PE X l tl)
   (he:starEach [l] X.env=[(false,eval l X.env)]:=by rfl):PI X (.Tuple elts x1 tp) (.Call (.Name "enumerate" p) [l] [⟨some "start",.Constant (.int 1) j kp,kpos⟩] pos) (ZkN tl):=by
 intro pins s σ H R I h
 have ha:PA X [l] (Xe tl XE):=Yw hl Za he
 have hk:PK X [⟨some "start",.Constant (.int 1) j kp,kpos⟩] (Xe (tC (.int 1)) XE):=Zjy Zb ZkB
 refine wpAny_Call_Name_kw (Wk I hg hm boot_enumerate (VY (by rw [he];rfl) rfl (evalArgs_kw2 rfl ?_ he)))
 refine Zm (ha pos pins s σ H (fun vs H1=>∃ x,vs=[V.str x]∧R (Ite x) H1) I h) fun us s1 ⟨vs,H1,I1,r1,x,e,q⟩=>?_
 subst e
 obtain ⟨u,rfl,t,rfl⟩:=Yr r1
 refine Zm (hk pos pins s1 σ H1 (fun vs H2=>vs=[V.int 1]∧H2=H1) I1 ⟨rfl,rfl⟩) fun ws s2 ⟨zs,H2,I2,r2,e1,e2⟩=>?_
 subst e1 e2
 obtain ⟨u',rfl,t',rfl⟩:=Yr r2
 refine ZaL fun h' hE hit hsz hkk=>wpAny_pyIter_enum hE ?_
 refine ⟨s2.heap.objs.size+1,[s2.heap.objs.size+1,s2.heap.objs.size],_,_,H2,rfl,I2.kept (t':=s2.toks) hkk,Zgn x t _ _ (Nat.succ_ne_self _),⟨⟨_,hE⟩,hit,Nat.zero_le _⟩,fun b hb=>?_,q⟩
 rcases List.mem_cons.mp hb with z | hb
 · rw [z];exact I2.fpOk (Nat.le_succ _) (I2.hok.fresh (Nat.le_succ _))
 · rw [List.mem_singleton.mp hb];exact I2.fpOk (Nat.le_refl _) (I2.hok.fresh (Nat.le_refl _))
end
theorem Zhi {x:Str} {g:TG} {tb:TS} {D:UY} {σ:St} {H:Hp} (Pv:Nat→St→Hp→Prop) (h0:Pv 0 σ H)
   (hs:∀ i c t σ H,x.cps[i]?=some c→H t=none→Pv i σ H→g (.ref t) σ (upd H t (.tup [.int ((i:Int)+1),.str ⟨#[c]⟩])) fun σ2 H2=>tb { D with nx:=Pv (i+1),ct:=Pv (i+1),bk:=D.nx } σ2 H2) (hd:∀ σ H,Pv x.cps.size σ H→D.nx σ H) :
   ∃ W:Nat→Nat→St→Hp→Prop,(∃ m,W 0 m σ H)∧∀ i m σ H,W i m σ H →
     ((Ite x).stop i H∧D.nx σ H)∨((Ite x).go i H∧∃ N:St→Hp→Prop,(∀ σ' H',N σ' H'→∃ m',m' < m∧W (i+1) m' σ' H')∧∀ y H',(Ite x).yld i H y H'→g y σ H' fun σ2 H2=>tb { D with nx:=N,ct:=N,bk:=D.nx } σ2 H2):=by
 refine ⟨fun i m σ H=>m=x.cps.size - i∧i≤x.cps.size∧Pv i σ H,⟨x.cps.size,by simp,Nat.zero_le _,h0⟩,?_⟩
 rintro i m σ H ⟨rfl,hi,p⟩
 by_cases hlt:i < x.cps.size
 · refine .inr ⟨hlt,Pv (i+1),fun σ' H' p'=>⟨x.cps.size - (i+1),by omega,rfl,hlt,p'⟩,fun y H' z=>?_⟩
   obtain ⟨t,c,e1,e2,e3,e4⟩:=z
   subst e3 e4
   exact hs i c t σ _ e2 e1 p
 · have e:i=x.cps.size:=by omega
   subst e
   exact .inl ⟨Nat.le_refl _,hd σ H p⟩
end L2
set_option maxHeartbeats 2000000
namespace L2
open PySem PySem.W PySem.Spec PyProof.Rows
def VH (ks:List Str) (vs out:List Value):Prop:=∃ ps:List (Str×Value),ps.Perm (ks.zip vs)∧out=ps.map (·.2)∧ps.Pairwise fun p q=>¬ (q.1.cps.toList < p.1.cps.toList)
theorem ZcE:∀ {keys:List Value} {ks:List Str} (_:StrsAre keys ks) (vs:List Value),(keys.zip vs).map (fun p=>(strOf p.1,p.2))=ks.zip vs
 | _,_,.nil,vs=>rfl
 | _,_,.cons x t h,[]=>rfl
 | _,_,.cons x t h,v::vs=>by
   rw [List.zip_cons_cons,List.map_cons,ZcE h vs];rfl
theorem Zip {keys:Array Value} {vs:List Value} {ks:List Str} (hk:StrsAre keys.toList ks) {xs:Array Keyed} (hp:xs.Perm (keys.zip vs.toArray)) (hs:SortedToK strKind xs xs.size):VH ks vs (xs.map (·.2)).toList:=by
 have hl:xs.toList.Perm (keys.toList.zip vs):=by
   have:=Array.perm_iff_toList_perm.mp hp
   rwa [ksk_zip] at this
 refine ⟨xs.toList.map fun p=>(strOf p.1,p.2),?_,?_,?_⟩
 · have:=hl.map fun p=>(strOf p.1,p.2)
   rwa [ZcE hk] at this
 · rw [Array.toList_map,List.map_map];rfl
 · rw [List.pairwise_map,List.pairwise_iff_getElem]
   intro i j hi hj hij
   have hi':i < xs.size:=by simpa using hi
   have hj':j < xs.size:=by simpa using hj
   have str_at:∀ m (hm:m < xs.size),KK strKind xs m=(strOf xs[m].1).cps.toList:=fun m hm=>by
     have hmem:xs[m]∈keys.toList.zip vs:=hl.mem_iff.mp (by simp)
     have h1:=(List.of_mem_zip (show (xs[m].1,xs[m].2)∈_ from hmem)).1
     obtain ⟨x,t,e⟩:=hk.all _ h1
     rw [KK_str hm (x:=x) (t:=t) (q:=xs[m].2) (by rw [← e])]
     rw [e];rfl
   have h:=hs i j (Nat.le_of_lt hij) hj'
   rw [str_at i hi',str_at j hj'] at h
   simpa [KeyOrd.kle] using h
theorem ZgB {keys:Array Value} {vs:List Value} {ks:List Str} (hk:StrsAre keys.toList ks):KeysOf strKind (keys.zip vs.toArray):=by
 intro p hp
 rw [ksk_zip] at hp
 obtain ⟨x,t,e⟩:=hk.all _ (List.of_mem_zip (show (p.1,p.2)∈_ from hp)).1
 exact ⟨x.cps.toList,by rw [e]⟩
theorem ZfS {keys:Array Value} {ks:List Str} (hk:StrsAre keys.toList ks) (h2:2≤keys.size):keyKind' keys=pure oneType':=by
 obtain ⟨l⟩:=keys
 match l,hk,h2 with
 | [],_,h2=>simp at h2
 | [_],_,h2=>simp at h2
 | v₁::v₂::r,hk,_=>exact keyKind_strs hk
theorem Zbr {x:Str} {t:Tok}:∀ {vs:List Value} {ss:List Str},StrsAre vs ss→StrsAre (vs++[.str x t]) (ss++[x])
 | _,_,.nil=>.cons x t .nil
 | _,_,.cons y u h=>.cons y u (Zbr h)
section
variable {prog:Program} {w:World} {A:Around} {E:Value→Shared→Prop} {s:Shared} {a kS:Addr} {vs:List Value} {ks:List Str} {keys:Array Value} {e e1:Nat} {P:PySem.Fin→Shared→Prop}
theorem Zay {st:SortSt} (nk:s.heap.get? kS=some (seqObj "list" keys e)) (na:s.heap.get? a=some (seqObj "list" #[] e1)) (hka:kS≠a) (hk:StrsAre keys.toList ks) (hlen:ks.length=vs.length) (h64:vs.length < 64)
   (hp:(arrOf st).Perm (keys.zip vs.toArray)) (hs:SortedToK strKind (arrOf st) (arrOf st).size) (hfl:failedOf st=none)
   (h:∀ h' tk out c,(∀ b o,b≠a→b≠kS→s.heap.get? b=some o→h'.get? b=some o)→h'.get? a=some (seqObj "list" out c)→VH ks vs out.toList→P (.done (.ret .none)) { s with heap:=h',toks:=tk }) :
   wpAny (model prog w) A (ksk_tail a false e1 (.ref kS) st) P E s:=by
 have hsz:keys.size=vs.length:=by have:=hk.length;rw [Array.length_toList] at this;omega
 have hsz2:(arrOf st).size=vs.length:=by rw [hp.size_eq,Array.size_zip,hsz,List.size_toArray,Nat.min_self]
 have s1:=Heap.SameBut.update s.heap kS (Obj.mapSeq fun _=>(#[]:Array Value))
 have na1:(s.heap.update kS (Obj.mapSeq fun _=>(#[]:Array Value))).get? a=some (seqObj "list" #[] e1):=(s1.2 a hka.symm).trans na
 have s2:=Heap.SameBut.update (s.heap.update kS (Obj.mapSeq fun _=>(#[]:Array Value))) a (Obj.mapSeq fun _=>(arrOf st).map (·.2))
 obtain ⟨c2,hc2⟩:∃ c2,((s.heap.update kS (Obj.mapSeq fun _=>(#[]:Array Value))).update a (Obj.mapSeq fun _=>(arrOf st).map (·.2))).get? a=some (seqObj "list" ((arrOf st).map (·.2)) c2):=⟨_,get?_update_seq na1 fun _=>(arrOf st).map (·.2)⟩
 unfold ksk_tail
 try dsimp only
 refine wpAny_bind (listUpdate_at nk rfl ?_ (by rw [hsz,sizeLine_eq];omega) (Nat.zero_le _))
 refine wpAny_bind (wpAny_letGo (wpAny_bind (seqEpoch_at na1 rfl ?_)))
 refine wpAny_bind (listUpdate_at na1 rfl ?_ (Nat.zero_le _) (Nat.le_trans (Nat.le_of_eq (show ((arrOf st).map (·.2)).size=vs.length by rw [Array.size_map];exact hsz2)) (by rw [sizeLine_eq];omega)))
 rw [hfl]
 simp only [bne_self_eq_false,Bool.false_eq_true,if_false]
 exact wpAny_pure (h _ _ _ c2 (fun b o hb1 hb2 y=>(s2.2 b hb1).trans ((s1.2 b hb2).trans y)) hc2 (Zip hk hp hs))
theorem ZfF (nk:s.heap.get? kS=some (seqObj "list" keys e)) (na:s.heap.get? a=some (seqObj "list" #[] e1)) (hka:kS≠a) (hk:StrsAre keys.toList ks) (hlen:ks.length=vs.length) (h64:vs.length < 64)
   (h:∀ h' tk out c,(∀ b o,b≠a→b≠kS→s.heap.get? b=some o→h'.get? b=some o)→h'.get? a=some (seqObj "list" out c)→VH ks vs out.toList→P (.done (.ret .none)) { s with heap:=h',toks:=tk }) :
   wpAny (model prog w) A (ksk_end a false vs.toArray e1 (.ref kS) keys) P E s:=by
 have hsz:keys.size=vs.length:=by have:=hk.length;rw [Array.length_toList] at this;omega
 have hzs:(keys.zip vs.toArray).size=vs.length:=by rw [Array.size_zip,hsz,List.size_toArray,Nat.min_self]
 unfold ksk_end
 simp only [Bool.false_eq_true,if_false]
 by_cases h2:vs.toArray.size < 2
 · rw [if_pos h2,if_pos h2]
   refine wpAny_bind (wpAny_pure ?_)
   rw [StateT.run_pure]
   refine wpAny_bind (wpAny_pure ?_)
   try dsimp only
   refine Zay (st:=SortSt.mk' general' (keys.zip vs.toArray) #[] 7 none) nk na hka hk hlen h64 (Array.Perm.refl _) ?_ rfl h
   intro i j hij hj
   have hj2:j < (keys.zip vs.toArray).size:=hj
   rw [hzs] at hj2
   rw [List.size_toArray] at h2
   have:i=j:=by omega
   subst this
   exact KeyOrd.kle_refl _
 · rw [if_neg h2,if_neg h2]
   rw [List.size_toArray] at h2
   rw [ZfS hk (by rw [hsz];omega)]
   refine wpAny_bind (wpAny_pure (wpAny_bind (wpAny_mono (wpS_sortRunsK (κ:=strKind) strKind_oneLt (a₀:=keys.zip vs.toArray) (st:=SortSt.mk' oneType' (keys.zip vs.toArray) #[] 7 none)
     (Q:=fun _ st'=>(arrOf st').Perm (keys.zip vs.toArray)∧failedOf st'=none∧SortedToK strKind (arrOf st') (keys.zip vs.toArray).size)
     (ZgB hk) ⟨Array.Perm.refl _,rfl,rfl,rfl⟩ (by rw [hzs];omega) (by rw [hzs];exact h64) fun st' a1 a2 a3=>⟨a1,a2,a3⟩) ?_ fun _ _ y=>y)))
   rintro ⟨⟨⟩,st'⟩ s' ⟨rfl,hp,hf,hs⟩
   try dsimp only
   exact Zay nk na hka hk hlen h64 hp (by rw [hp.size_eq];exact hs) hf h
def Zbe (prog:Program) (w:World) (A:Around) (s:Shared) (a:Addr) (f:Value) (vs:List Value) (ks:List Str):Prop :=
 ∀ (i:Nat) (v:Value) (k:Str),vs[i]?=some v→ks[i]?=some k→∀ (h:Heap) (tk:Nat),(∀ b o,b≠a→s.heap.get? b=some o→h.get? b=some o)→s.heap.objs.size≤h.objs.size→∀ Q':Value→Shared→Prop,
   (∀ h' tk' t,(∀ b o,h.get? b=some o→h'.get? b=some o)→h.objs.size≤h'.objs.size→Q' (.str k t) { s with heap:=h',toks:=tk' })→wpAny (model prog w) A (call f [v]) Q' (fun _ _=>False) { s with heap:=h,toks:=tk }
theorem Zfh {f:Value} {s0:Shared} (hs0:∃ tk,s={ s0 with heap:=s.heap,toks:=tk }) (k0:∀ b o,b≠a→s0.heap.get? b=some o→s.heap.get? b=some o) (z0:s0.heap.objs.size≤s.heap.objs.size) (hkn:s0.heap.objs.size≤kS)
   (nk:s.heap.get? kS=some (seqObj "list" #[] 0)) (na:s.heap.get? a=some (seqObj "list" #[] e1)) (hka:kS≠a) (hlen:ks.length=vs.length) (h64:vs.length < 64) (turn:Zbe prog w A s0 a f vs ks)
   (h:∀ h' tk out c,(∀ b o,b≠a→s0.heap.get? b=some o→h'.get? b=some o)→h'.get? a=some (seqObj "list" out c)→VH ks vs out.toList→P (.done (.ret .none)) { s0 with heap:=h',toks:=tk }) :
   wpAny (model prog w) A (ksk_rest a f false vs.toArray e1 (.ref kS)) P E s:=by
 obtain ⟨tk0,hs0⟩:=hs0
 unfold ksk_rest
 refine wpAny_bind (wpAny_rule ?_)
 first
   | rw [List.forIn_toArray]
   | (rw [← Array.forIn_toList];simp only [List.toList_toArray])
 refine wpAny_bind (ksk_fold (fun i s'=>∃ h' tk kA c,s'={ s0 with heap:=h',toks:=tk }∧(∀ b o,b≠a→s0.heap.get? b=some o→h'.get? b=some o)∧s0.heap.objs.size≤h'.objs.size∧h'.get? kS=some (seqObj "list" kA c)∧h'.get? a=some (seqObj "list" #[] e1)∧StrsAre kA.toList (ks.take i)) vs 0 s
   ⟨s.heap,tk0,#[],0,hs0,k0,z0,nk,na,by simpa using StrsAre.nil⟩ ?step ?done)
 case step =>
   rintro j x s' hx ⟨h',tk,kA,c,rfl,k1,z1,nk1,na1,hk⟩
   simp only [Nat.zero_add] at hk ⊢
   have hj:j < vs.length:=(List.getElem?_eq_some_iff.mp hx).1
   obtain ⟨k,hkj⟩:∃ k,ks[j]?=some k:=⟨_,List.getElem?_eq_getElem (by omega)⟩
   have hz:kA.size≤vs.length:=by
     have h1:=hk.length
     rw [Array.length_toList,List.length_take] at h1
     omega
   refine wpAny_bind (wpAny_attempt (wpAny_mono (turn j x k hx hkj h' tk k1 z1 (fun v s''=>∃ g tk2 t2,v=.str k t2∧s''={ s0 with heap:=g,toks:=tk2 }∧(∀ b o,h'.get? b=some o→g.get? b=some o)∧h'.objs.size≤g.objs.size) (fun g tk2 t2 q z=>⟨g,tk2,t2,rfl,rfl,q,z⟩)) (fun v s'' he=>?_) fun _ _ hF=>hF.elim))
   obtain ⟨g,tk2,t2,rfl,rfl,k2,z2⟩:=he
   try dsimp only
   have nk2:=k2 _ _ nk1
   have na2:=k2 _ _ na1
   have s1:=Heap.SameBut.update g kS (Obj.mapSeq (·.push (.str k t2)))
   obtain ⟨c2,hc2⟩:∃ c2,(g.update kS (Obj.mapSeq (·.push (.str k t2)))).get? kS=some (seqObj "list" (kA.push (.str k t2)) c2):=⟨_,get?_update_seq nk2 (·.push (.str k t2))⟩
   have ek:ks.take (j+1)=ks.take j++[k]:=by rw [List.take_add_one,hkj];simp
   have ea:(kA.push (Value.str k t2)).toList=kA.toList++[Value.str k t2]:=by simp
   refine wpAny_bind (listUpdate_at nk2 rfl ?_ (by rw [sizeLine_eq];omega) (Nat.le_trans (Nat.le_of_eq (Array.size_push ..)) (by rw [sizeLine_eq];omega)))
   refine wpAny_pure ⟨rfl,_,_,kA.push (.str k t2),c2,rfl,fun b o hb y=>?_,Nat.le_trans (Nat.le_trans z1 z2) (Nat.le_of_eq (Heap.size_update ..).symm),hc2,(s1.2 a hka.symm).trans na2,by rw [ea,ek];exact Zbr hk⟩
   exact (s1.2 b (fun z=>by rw [z] at y;exact absurd (Heap.lt_size y) (Nat.not_lt.mpr hkn))).trans (k2 _ _ (k1 b o hb y))
 case done =>
   rintro s' ⟨h',tk,kA,c,rfl,k1,z1,nk1,na1,hk⟩
   have hk':StrsAre kA.toList ks:=by
     have e3:ks.take (0+vs.length)=ks:=List.take_of_length_le (by omega)
     rw [e3] at hk
     exact hk
   try dsimp only
   refine wpAny_bind (listItems_at nk1 rfl ?_)
   refine ZfF nk1 na1 hka hk' hlen h64 fun h3 tk3 out c3 k3 a3 o3=>h h3 tk3 out c3 (fun b o hb y=>k3 b o hb (fun z=>?_) (k1 b o hb y)) a3 o3
   rw [z] at y
   exact absurd (Heap.lt_size y) (Nat.not_lt.mpr hkn)
theorem ZeU {f:Value} {n:Nat} (ho:s.heap.get? a=some (seqObj "list" vs.toArray n)) (hlen:ks.length=vs.length) (h64:vs.length < 64) (turn:Zbe prog w A s a f vs ks)
   (h:∀ h' tk out c,(∀ b o,b≠a→s.heap.get? b=some o→h'.get? b=some o)→h'.get? a=some (seqObj "list" out c)→VH ks vs out.toList→P (.done (.ret .none)) { s with heap:=h',toks:=tk }) :
   wpAny (model prog w) A (ksk_tree a f false) P E s:=by
 have ha:a < s.heap.objs.size:=Heap.lt_size ho
 have s1:=Heap.SameBut.update s.heap a (Obj.mapSeq fun _=>(#[]:Array Value))
 obtain ⟨e1,ho1⟩:∃ e1,(s.heap.update a (Obj.mapSeq fun _=>(#[]:Array Value))).get? a=some (seqObj "list" #[] e1):=⟨_,get?_update_seq ho fun _=>#[]⟩
 have hkS:((s.heap.update a (Obj.mapSeq fun _=>(#[]:Array Value))).push (seqObj "tuple" vs.toArray 0)).objs.size=s.heap.objs.size+1:=by rw [size_push',Heap.size_update]
 unfold ksk_tree
 refine wpAny_bind (listItems_at ho rfl ?_)
 refine wpAny_bind (listUpdate_at ho rfl ?_ (by rw [List.size_toArray,sizeLine_eq];omega) (Nat.zero_le _))
 refine wpAny_bind (seqEpoch_at ho1 rfl (wpAny_bind (wpAny_newTuple ?_ (by show vs.length≤_;rw [sizeLine_eq];omega))))
 refine wpAny_bind (wpAny_newList ?_ (Nat.zero_le _))
 refine wpAny_holding ?_
 refine Zfh (s0:=s) (s:={ s with heap:=((s.heap.update a (Obj.mapSeq fun _=>(#[]:Array Value))).push (seqObj "tuple" vs.toArray 0)).push (seqObj "list" #[] 0) }) (kS:=((s.heap.update a (Obj.mapSeq fun _=>(#[]:Array Value))).push (seqObj "tuple" vs.toArray 0)).objs.size)
   ⟨s.toks,rfl⟩ (fun b o hb y=>Heap.get?_push_of_some _ (Heap.get?_push_of_some _ ((s1.2 b hb).trans y))) ?_ (by rw [hkS];exact Nat.le_succ _) (Heap.get?_push_size _ rfl) (Heap.get?_push_of_some _ (Heap.get?_push_of_some _ ho1)) (by rw [hkS];exact Nat.ne_of_gt (Nat.lt_succ_of_lt ha)) hlen h64 turn h
 show s.heap.objs.size≤(((s.heap.update a _).push _).push _).objs.size
 rw [size_push',hkS];omega
theorem Zju {f:Value} {l:Addr} {Q:Value→Shared→Prop} (hl:s.heap.IsList l vs.toArray) (hlen:ks.length=vs.length) (h64:vs.length < 64) (ht:∀ x,Builtin.«list.sort» ⟨[.ref x],[(Str.ofString "key",f)]⟩=ksk_tree x f false)
   (turn:∀ (h1:Heap) (tk1:Nat),(∀ b o,s.heap.get? b=some o→h1.get? b=some o)→s.heap.objs.size≤h1.objs.size→Zbe prog w A.in1.in1 { s with heap:=h1,toks:=tk1 } (s.heap.objs.size+1) f vs ks)
   (h:∀ h' tk out c,(∀ b o,s.heap.get? b=some o→h'.get? b=some o)→h'.get? (s.heap.objs.size+1)=some (seqObj "list" out c)→VH ks vs out.toList→Q (.ref (s.heap.objs.size+1)) { s with heap:=h',toks:=tk }) :
   wpAny (model prog w) A (call (.builtin "sorted") [.ref l] [(Str.ofString "key",f)]) Q E s:=by
 refine call_function_entry_kw kind_sorted plain_sorted entry_sorted (ksk_s1 _ _) ?_
 unfold Builtin.«sorted»
 refine wpAny_bind (m:=checkCount "sorted" 1 1 _) (wpAny_pure ?_)
 refine wpAny_bind (collect_list hl ?_ (by rw [sizeLine_eq];omega))
 refine wpAny_bind (wpAny_newList ?_ (by rw [sizeLine_eq];omega))
 generalize hg:(s.heap.push (seqObj "list" #[] 0)).update s.heap.objs.size (Obj.mapSeq (·++vs.toArray))=g
 have hsz:g.objs.size=s.heap.objs.size+1:=by rw [← hg,Heap.size_update,size_push']
 have kg:∀ b o,s.heap.get? b=some o→(g.push (seqObj "list" vs.toArray 0)).get? b=some o:=fun b o q=>by
   have hlt:b < s.heap.objs.size:=Heap.lt_size q
   rw [Heap.get?_push_ne _ _ _ (by rw [hsz];exact Nat.ne_of_lt (Nat.lt_succ_of_lt hlt)),← hg,Heap.get?_update_ne _ _ _ _ (Nat.ne_of_lt hlt),Heap.get?_push_ne _ _ _ (Nat.ne_of_lt hlt)]
   exact q
 have hoL:(g.push (seqObj "list" vs.toArray 0)).get? (s.heap.objs.size+1)=some (seqObj "list" vs.toArray 0):=by rw [← hsz];exact Heap.get?_push_size _ rfl
 show wpAny _ _ _ _ _ { s with heap:=g.push (seqObj "list" vs.toArray 0) }
 rw [hsz]
 refine wpAny_bind (wpAny_holding (wpAny_call_entry_kw slot_list_sort ⟨_,hoL,rfl⟩ entry_list_sort ?body (ksk_l1 _ _)))
 show wpAny (model prog w) A.in1.in1 (Builtin.«list.sort» ⟨[.ref (s.heap.objs.size+1)],[(Str.ofString "key",f)]⟩) _ _ _
 rw [ht]
 have hz2:s.heap.objs.size≤(g.push (seqObj "list" vs.toArray 0)).objs.size:=by rw [size_push',hsz];omega
 refine ZeU (s:={ s with heap:=g.push (seqObj "list" vs.toArray 0) }) hoL hlen h64 (turn (g.push (seqObj "list" vs.toArray 0)) s.toks kg hz2) fun h' tk out c k3 a3 o3=>⟨_,rfl,?_⟩
 exact wpAny_pure ⟨_,rfl,h h' tk out c (fun b o y=>k3 b o (Nat.ne_of_lt (Nat.lt_succ_of_lt (Heap.lt_size y))) (kg b o y)) a3 o3⟩
end
end L2
set_option maxHeartbeats 2000000
namespace L2
open PySem PySem.W PySem.Spec PyProof.Rows
def UM (base:Heap) (mg:Str→Option Value):Prop:=∃ bm ob,mg "__builtins__"=some (.ref bm)∧bm≠builtinsNs∧base.get? bm=some ob∧ob.cls=.type "module"∧ob.dict=some builtinsNs∧ob.data=.plain
def Zev (ts:List Addr) (H:Hp):Prop:=∀ b,H b=none∨(∃ o xs,H b=some (.frz o (.lst xs)))∨(H b=some (.tbl #[])∧b∈ts)
theorem ZfN {P:Program} {w:World} {K:PySem.W.Frag} {mg mb:Str→Option Value} {CX:UR} {k:Nat} {fa a:Addr} {fd:FuncData} {x:Str} {sp:Sp} {s₁:Shared} {vs:List Value} {ns:List Int} {ts:List Addr}
   (KX:K.In s₁.heap) (hns:s₁.heap.Ns mainGlobals mg) (hb:s₁.heap.Ns builtinsNs mb) (hbb:∀ x:Str,x≠"__name__"→mb x=bootBuiltins x) (hlim:s₁.heap.NoLimit) (hg:s₁.gens=#[]) (hbm:UM s₁.heap mg)
   (ha:s₁.heap.get? a=some { cls:=.type "list",data:=.seq vs.toArray }) (hi:IntsAre vs ns) (hl:ns.length≤sizeLine) (hr:Room k callerA)
   (hts:∀ b∈ts,s₁.heap.get? b=some (tabObj #[])∧K.lookup b=none∧∃ c,CodeHd s₁.heap c b)
   (F:∀ base:Heap,K.In base→base.Ns mainGlobals mg→UM base mg→FnOk P w K mg base CX k fa fd [x] sp) (hbind:∀ (s:Shared) (u:Value),BindsTo s fd ⟨[u],[]⟩ [(x,u)])
   (hsp:∀ H:Hp,Zev ts H→SqL K H a (ns.map V.int)→(∀ b∈ts,H b=some (.tbl #[]))→sp [.ref a] H (fun v _=>v=.bl true) fun _ _ _=>False)
   (hCX:∀ H e s',CX [] H s₁ (fun _ _ _=>False) e s'→False) :
   codeAny (model P w) callerA (.call (.ref fa) ⟨[.ref a],[]⟩) (fun r s'=>r=.ok (.ret (.bool true))∧OldK s₁.heap s'.heap∧s'.os=s₁.os∧AllBare s'.gens) s₁:=by
 have rv:=Vc hi
 have lenV:=hi.length
 have nta:a ∉ ts:=fun z=>by
   have e:=(hts a z).1
   rw [ha] at e;cases e
 have core : ∀ H:Hp,Zev ts H→SqL K H a (ns.map V.int)→HOk P w H s₁.heap→(∀ b∈ts,H b=some (.tbl #[]))→(∀ b,H b≠none→b=a∨b∈ts)→(∀ b,H b≠none→K.lookup b=none) →
     codeAny (model P w) callerA (.call (.ref fa) ⟨[.ref a],[]⟩) (fun r s'=>r=.ok (.ret (.bool true))∧OldK s₁.heap s'.heap∧s'.os=s₁.os∧AllBare s'.gens) s₁:=by
   intro H hO hS hok hT hA hK
   have base_of:∀ {b:Addr} {o:Obj},s₁.heap.get? b=some o→H b=none→(WV s₁.heap H).get? b=some o:=fun y n=>ZhT y n
   have free:∀ {b:Addr} {o:Obj},s₁.heap.get? b=some o→(∀ its n,o.data≠.seq its n)→(∀ fs,o.data≠.fields fs)→H b=none:=fun {b o} y d1 d2=>by
     cases q:H b with
     | none=>rfl
     | some u =>
       rcases hA b (by rw [q];simp) with z | z
       · subst z
         rw [ha] at y;cases y
         exact absurd rfl (d1 _ _)
       · rw [(hts b z).1] at y;cases y
         exact absurd rfl (d2 _)
   have nsK:∀ {b:Addr} {m:Str→Option Value},s₁.heap.Ns b m→(WV s₁.heap H).Ns b m:=fun {b m} ⟨o,es,ep,y,d,r⟩=>⟨o,es,ep,base_of y (free y (fun its n z=>by rw [d] at z;cases z) fun fs z=>by rw [d] at z;cases z),d,r⟩
   have hKb:K.In (WV s₁.heap H):=fun b o y=>base_of (KX b o y) (by
     cases q:H b with
     | none=>rfl
     | some u=>rw [hK b (by rw [q];simp)] at y;cases y)
   have hBm:UM (WV s₁.heap H) mg:=by
     obtain ⟨bm,ob,h1,h2,h3,h4,h5,h6⟩:=hbm
     exact ⟨bm,ob,h1,h2,base_of h3 (free h3 (fun its n z=>by rw [h6] at z;cases z) fun fs z=>by rw [h6] at z;cases z),h4,h5,h6⟩
   have hM:Mod K mg (WV s₁.heap H):=⟨hKb,nsK hns,⟨mb,nsK hb,hbb⟩,let ⟨mc,h1,h2⟩:=hlim;⟨mc,nsK h1,h2⟩⟩
   have e0:Env0 P w K mg (WV s₁.heap H) callerA [] s₁ H:=⟨rfl,hM,fun b o e=>Zko e,Nat.le_of_eq (ZfZ _ _),trivial,fun b hb=>absurd (show b∈([]:List Addr) from hb) (by simp),hok,.of_eq hg⟩
   refine codeAny_mono ((F _ hKb (nsK hns) hBm).run callerA [] s₁ H ⟨[.ref a],[]⟩ [.ref a] [.ref a] _ _ hr e0 (hbind s₁ (.ref a)) (.cons rfl .nil) (hsp H hO hS hT)) fun r s' h=>?_
   cases r with
   | error e=>exact (hCX H e s' h).elim
   | ok fl =>
     cases fl with
     | next=>exact False.elim h
     | brk=>exact False.elim h
     | cont=>exact False.elim h
     | ret u =>
       obtain ⟨v,H',os,bare,un,hok',r',q⟩:=h
       have q':v=.bl true:=q
       subst q'
       obtain rfl:u=Value.bool true:=r'
       have key:∀ b o,s₁.heap.get? b=some o→s'.heap.get? b=some o∨(b∈ts∧∃ more:Array Value,s'.heap.get? b=some (tabObj (#[]++more))):=fun b o y=>by
         cases q:H b with
         | none=>exact .inl (un.keep b o y q (by intro z;exact absurd (show b∈([]:List Addr) from z) (by simp)) (by simp))
         | some u =>
           rcases hO b with z | ⟨ob,xs,z⟩ | ⟨z,zt⟩
           · rw [q] at z;cases z
           · have z2:=un.frzs b ob _ z
             obtain ⟨e1,_⟩:=hok b _ z
             obtain ⟨e2,_⟩:=hok' b _ z2
             rw [y] at e1;cases e1
             exact .inl e2
           · obtain ⟨more,z2⟩:=un.tbls b #[] z
             exact .inr ⟨zt,more,show s'.heap.get? b=some { cls:=.none,data:=.fields (#[]++more) } from hok' b _ z2⟩
       refine ⟨rfl,⟨fun b o y=>?_,fun b o y=>?_⟩,os,bare⟩
       · rcases key b o y with z | ⟨zt,more,z⟩
         · exact .inl z
         · obtain ⟨t1,_,c,t3⟩:=hts b zt
           rw [t1] at y;cases y
           exact .inr (.inl ⟨(t3.tab t1).isCodeTable,rfl,#[],more,rfl,z⟩)
       · rcases key b o y with z | ⟨zt,more,z⟩
         · exact ⟨_,z⟩
         · exact ⟨_,z⟩
 have okT:∀ (H:Hp) (b:Addr),b∈ts→ObjOk P w H s₁.heap b (.tbl #[]):=fun H b hb=>(hts b hb).1
 cases hk:K.lookup a with
 | some o =>
   have e:=KX a o hk
   rw [ha] at e
   cases e
   refine core (fun b=>if b∈ts then some (.tbl #[]) else none) (fun b=>?_) (.inr ⟨_,vs.toArray,_,hk,rfl,rfl,rfl,by rw [List.size_toArray,lenV];exact hl,by simpa using rv⟩) (fun b u z=>?_) (fun b hb=>if_pos hb) (fun b z=>?_) (fun b z=>?_)
   · by_cases hb:b∈ts
     · exact .inr (.inr ⟨if_pos hb,hb⟩)
     · exact .inl (if_neg hb)
   · by_cases hb:b∈ts
     · have z':=(if_pos hb).symm.trans z
       cases z'
       exact okT _ b hb
     · have z':=(if_neg hb).symm.trans z
       cases z'
   · by_cases hb:b∈ts
     · exact .inr hb
     · exact absurd (if_neg hb) z
   · by_cases hb:b∈ts
     · exact (hts b hb).2.1
     · exact absurd (if_neg hb) z
 | none =>
   refine core (fun b=>if b=a then some (.frz { cls:=.type "list",data:=.seq vs.toArray } (.lst (ns.map V.int))) else if b∈ts then some (.tbl #[]) else none) (fun b=>?_) (.inl (.inr ⟨{ cls:=.type "list",data:=.seq vs.toArray },if_pos rfl⟩)) (fun b u z=>?_)
     (fun b hb=>(if_neg (fun z:b=a=>nta (by rw [← z];exact hb))).trans (if_pos hb)) (fun b z=>?_) (fun b z=>?_)
   · by_cases h1:b=a
     · exact .inr (.inl ⟨_,_,if_pos h1⟩)
     · by_cases hb:b∈ts
       · exact .inr (.inr ⟨(if_neg h1).trans (if_pos hb),hb⟩)
       · exact .inl ((if_neg h1).trans (if_neg hb))
   · by_cases h1:b=a
     · have z':=(if_pos h1).symm.trans z
       cases z'
       subst h1
       exact ⟨ha,by rw [List.length_map];exact hl,vs,_,rv,ha⟩
     · have z1:=(if_neg h1).symm.trans z
       by_cases hb:b∈ts
       · have z':=(if_pos hb).symm.trans z1
         cases z'
         exact okT _ b hb
       · have z':=(if_neg hb).symm.trans z1
         cases z'
   · by_cases h1:b=a
     · exact .inl h1
     · by_cases hb:b∈ts
       · exact .inr hb
       · exact absurd ((if_neg h1).trans (if_neg hb)) z
   · by_cases h1:b=a
     · rw [h1];exact hk
     · by_cases hb:b∈ts
       · exact (hts b hb).2.1
       · exact absurd ((if_neg h1).trans (if_neg hb)) z
theorem walk_ofT {l:PySem.W.OpenLaw} {n k:Nat} {q:Program} {loose:List Str} {XP:(Str→Option Value)→Heap→Prop} {YP:World→Heap→Prop} {d:DefRec} {K:Params→PySem.W.Frag} {CX:World→UR} {sp:World→Sp} {x:Str} {ts:List Addr}
   (hn:l.most=some n) (hn2:n≤sizeLine) (hdf:d.params.defaults=[]) (hr:Room k callerA)
   (hY:∀ (w:World) (h:Heap),YP w h→(K w.params).In h∧∀ b∈ts,h.get? b=some (tabObj #[]))
   (hK:∀ (w:World) (b:Addr),b∈ts→(K w.params).lookup b=none∧∃ c,codeHdIn (K w.params) c b=true)
   (F:∀ (w:World) (mg:Str→Option Value) (fa:Addr) (h:Heap),(K w.params).In h→h.Ns mainGlobals mg→mg d.name=some (.ref fa) →
     ∃ fd:FuncData,(∀ (s:Shared) (u:Value),BindsTo s fd ⟨[u],[]⟩ [(x,u)]) ∧
       ∀ base:Heap,(K w.params).In base→base.Ns mainGlobals mg→UM base mg→FnOk l.prog w (K w.params) mg base (CX w) k fa fd [x] (sp w))
   (hsp:∀ (w:World) (H:Hp) (a:Addr) (ns:List Int),ns.length≤n→Zev ts H→SqL (K w.params) H a (ns.map V.int)→(∀ b∈ts,H b=some (.tbl #[]))→sp w [.ref a] H (fun v _=>v=.bl true) fun _ _ _=>False)
   (hCX:∀ (w:World) (H:Hp) (s:Shared) (e:Value) (s':Shared),CX w [] H s (fun _ _ _=>False) e s'→False) :
   PySem.W.WalkO q loose XP YP l.row.toRowW d [] (fun f vs=>PySem.call f vs):=by
 refine Att.attach_call hn hdf fun w s₀ s₁ mg mb fa o pm cd doc a vs ns G Y ho hd hcd hmg hobj hints hlen hg=>?_
 obtain ⟨KX,hT⟩:=hY w _ Y
 obtain ⟨fd,hb,hF⟩:=F w mg fa _ KX G.T.g hmg
 exact ZfN (ts:=ts) KX G.T.g G.T.b G.T.builtins G.T.nolimit hg G.T.bmain hobj hints (Nat.le_trans hlen hn2) hr (fun b hb'=>⟨hT b hb',(hK w b hb').1,let ⟨c,hc⟩:=(hK w b hb').2;⟨c,codeHd_of_K KX hc⟩⟩) hF hb (fun H hO hS hTb=>hsp w H a ns hlen hO hS hTb) fun H e s'=>hCX w H s₁ e s'
end L2
set_option maxHeartbeats 2000000
namespace L2
open PySem PySem.W PySem.Spec PyProof.Rows
abbrev Vv (apos:Pos):Arguments:={ posonlyargs:=[],args:=[{ arg:="pair",annotation:=none,pos:=apos }],vararg:=none,kwonlyargs:=[],kw_defaults:=[],kwarg:=none,defaults:=[] }
abbrev Ua (p1 p2 p3:Pos):Expr:=.Subscript (.Name "pair" p1) (.Constant (.int 0) 0 p2) p3
abbrev WE:Scope:={ kind:=.function,names:=[("pair",.local)],isGenerator:=false,isCoroutine:=false,more:=[] }
section
variable {prog:Program} {w:World} {A:Around} {E:Value→Shared→Prop} {s:Shared}
theorem Zhs {q t:Addr} {qual:Str} {apos p1 p2 p3:Pos} {pm cdv ct k:Value} {its:Array Value} {Q:Value→Shared→Prop}
   (ho:s.heap.get? q=some { cls:=.type "function",data:=.func (kla_fn "<lambda>" qual (Vv apos) (Ua p1 p2 p3) WE [] pm cdv ct) }) (hcd:s.heap.CodeRec cdv qual) (hlim:s.heap.NoLimit) (hroom:A.depth < recursionLimit)
   (ht:IsTup s.heap t its) (h0:its[0]?=some k)
   (hQ:∀ h' tk,(∀ b o,s.heap.get? b=some o→h'.get? b=some o)→s.heap.objs.size≤h'.objs.size→Q k { s with heap:=h',toks:=tk }) :
   wpAny (model prog w) A (call (.ref q) [.ref t]) Q E s:=by
 refine wpAny_call (kla_callFunE (body:=Ua p1 p2 p3) hroom ho rfl rfl rfl rfl hcd ?_)
 refine wpAny_of_eq (a:=[(Str.ofString "pair",Value.ref t)]) rfl ?_
 refine wpAny_newFunctionEnv_cells rfl (fun y hy=>?_) fun env he s₁ x=>⟨hlim.keeps x.toInCall.keep,kla_codeExpr ?_⟩
 · rw [List.mem_singleton.mp hy];exact .inl rfl
 have hns:=x.toInCall.ns
 obtain ⟨h1,tk1,e1⟩:=x.toInCall.same
 have hkeep:=x.toInCall.keep
 have hfr:=x.toInCall.fresh
 have hL:=hns.lt
 have hkind:env.kindOf "pair"=some .local:=by rw [he];rfl
 have hm:(bindL env.kindOf [(Str.ofString "pair",Value.ref t)] fun _=>none) "pair"=some (.ref t):=by
   rw [he];rfl
 have hsc:env.scope.kind=.function:=by rw [he];rfl
 clear x
 refine Subscript_ (wpAny_Name (wpAny_loadName_local hsc hkind hns hm (wpAny_Constant_int ?_)) (by decide))
 have ht1:IsTup s₁.heap t its:=by
   obtain ⟨o,e,r⟩:=ht
   exact ⟨o,hkeep _ _ e,r⟩
 have fin:Q k { s₁ with toks:=s₁.toks+1 }:=by
   subst e1
   exact hQ h1 (tk1+1) hkeep (Nat.le_of_lt (Nat.lt_of_le_of_lt hfr hL))
 have hsz:0 < its.size:=(Array.getElem?_eq_some_iff.mp h0).1
 have ht2:IsTup (Shared.heap { s₁ with toks:=s₁.toks+1 }) t its:=ht1
 exact subscriptTail_builtinR (x:=k) ht2.typeIs slot_tuple_getitem.lookup
   (getItem_tuple (j:=0) (Q:=fun r s'=>r=k∧(fun v s'=>(match (Except.ok (Flow.ret v):Result) with | .ok (.ret v)=>Q v s' | .ok _=>False | .error e=>E e s')) r s') ht2 (by decide) (by decide) (Zbf (n:=its.size) (i:=0) (j:=0) (by unfold Wi;rw [if_pos (by decide),if_pos (by omega)];rfl)).1 h0 ⟨rfl,fin⟩) rfl
theorem Zck:∀ {ts:List Addr} {us:List Value},Vals (ts.map V.ref) us→us=ts.map Value.ref
 | [],_,.nil=>rfl
 | t::ts,_,.cons r h=>by
   have e:=Zck h
   cases (show _=Value.ref t from r)
   rw [e];rfl
end
def ZeA (ks:List Str) (ts ts':List Addr):Prop:=∃ ps:List (Str×Addr),ps.Perm (ks.zip ts)∧ts'=ps.map (·.2)∧ps.Pairwise fun p q=>¬ (q.1.cps.toList < p.1.cps.toList)
def unR:Value→Addr
 | .ref a=>a
 | _=>0
theorem Zkp {ks:List Str} {ts:List Addr} {out:List Value} (h:VH ks (ts.map Value.ref) out):∃ ts',out=ts'.map Value.ref∧ZeA ks ts ts':=by
 obtain ⟨ps,hp,ho,hs⟩:=h
 have hmem:∀ p∈ps,p.2=Value.ref (unR p.2):=fun p hp'=>by
   have h1:=(List.of_mem_zip (show (p.1,p.2)∈_ from hp.mem_iff.mp hp')).2
   obtain ⟨t,_,e⟩:=List.mem_map.mp h1
   rw [← e];rfl
 refine ⟨ps.map fun p=>unR p.2,?_,ps.map (fun p=>(p.1,unR p.2)),?_,?_,?_⟩
 · rw [ho,List.map_map]
   exact List.map_congr_left hmem
 · have h1:=hp.map fun p:Str×Value=>(p.1,unR p.2)
   have h2:(ks.zip (ts.map Value.ref)).map (fun p:Str×Value=>(p.1,unR p.2))=ks.zip ts:=by
     rw [List.zip_map_right,List.map_map]
     have:((fun p:Str×Value=>(p.1,unR p.2)) ∘ Prod.map id Value.ref)=(id:Str×Addr→Str×Addr):=by funext p;rfl
     rw [this,List.map_id]
   rwa [h2] at h1
 · rw [List.map_map];rfl
 · rw [List.pairwise_map];exact hs
def ZeI (c:Addr) (qual:Str):Heap→Prop:=fun h=>h.CodeRec (.ref c) qual
def LamAt (H:Hp) (Pl:Addr) (lpos:Pos) (qual:Str):Prop :=
 H Pl=some (.tbl #[])∨∃ c,H Pl=some (.tbl #[rawInt lpos.line,rawInt lpos.col,.ref c])∧H c=some (.ext (ZeI c qual))
theorem ZjM {P:Program} {w:World} {H:Hp} {h:Heap} {c:Addr} {qual:Str} (e:h.CodeRec (.ref c) qual):ObjOk P w H h c (.ext (ZeI c qual)):=by
 obtain ⟨c',o,vs,t,z,g,r⟩:=id e
 cases z
 refine ⟨e,⟨o,g⟩,fun h1 h2 p k=>?_⟩
 obtain ⟨c',o,vs,t,z,g,r⟩:=p
 cases z
 exact ⟨_,o,vs,t,rfl,k _ g,r⟩
def Grown (Pl:Addr) (H H':Hp):Prop:=∀ b o,b≠Pl→H b=some o→H' b=some o
section
variable {X:Cx} {pins:List (Addr×Obj)} {σ:List (Option V)} {H:Hp} {s:Shared} {h':Heap}
theorem Inv.table {t':Nat} {Pl c:Addr} {ps:Array Value} {qual:Str} {lpos:Pos} (I:Inv X pins σ H s) (hP:H Pl=some (.tbl ps)) (k:∀ b o,b≠Pl→s.heap.get? b=some o→h'.get? b=some o)
   (hT:h'.get? Pl=some (tabObj (ps++#[rawInt lpos.line,rawInt lpos.col,.ref c]))) (hc:s.heap.objs.size≤c) (hr:h'.CodeRec (.ref c) qual) :
   Inv X pins σ (upd (upd H Pl (.tbl (ps++#[rawInt lpos.line,rawInt lpos.col,.ref c]))) c (.ext (ZeI c qual))) { s with heap:=h',toks:=t' }:=by
 have hcn:H c=none:=I.hok.fresh hc
 have hcP:c≠Pl:=fun z=>by rw [z,hP] at hcn;cases hcn
 have nP:∀ b,H b=none→b≠Pl:=fun b z e=>by rw [e,hP] at z;cases z
 have off:∀ b o,b≠Pl→H b=some o→upd (upd H Pl (.tbl (ps++#[rawInt lpos.line,rawInt lpos.col,.ref c]))) c (.ext (ZeI c qual)) b=some o:=fun b o h1 e=>by rw [Zk (Zt e hcn),Zk h1];exact e
 have nL:X.env.locals≠Pl:=nP _ I.free
 refine I.step (g':=s.gens) (d':=s.drawn) (ch:=[]) (fun _ z=>nomatch z) (fun b o _ _ _ e n=>k b o (nP b n) e) (fun b o _ _ _ e n=>⟨o.slots,k b o (nP b n) e⟩) (fun b o _ e n=>?_) (fun b o _ e=>?_)
   (fun b xs e=>off b _ (fun z=>by rw [z,hP] at e;cases e) e) (fun b o u e=>off b _ (fun z=>by rw [z,hP] at e;cases e) e) (fun b qs e=>?_) (fun m hm=>?_) (fun b u e=>?_) I.bare
 · rw [Zk (fun z=>by rw [z] at e;exact absurd (Heap.lt_size e) (Nat.not_lt.mpr hc)),Zk (nP b n)];exact n
 · by_cases hb:b=Pl
   · exact ⟨_,by rw [hb];exact hT⟩
   · exact ⟨o,k b o hb e⟩
 · by_cases hb:b=Pl
   · rw [hb,hP] at e
     cases e
     exact ⟨#[rawInt lpos.line,rawInt lpos.col,.ref c],by rw [hb,Zk hcP.symm,Zh]⟩
   · exact ⟨#[],by rw [off b _ hb e];simp⟩
 · obtain ⟨o,es,ep,ho,r⟩:=hm
   exact ⟨o,es,ep,k _ o nL ho,r⟩
 · by_cases h1:b=c
   · subst h1
     rw [Zh] at e
     cases e
     exact ZjM hr
   · rw [Zk h1] at e
     by_cases h2:b=Pl
     · subst h2
       rw [Zh] at e
       cases e
       exact hT
     · rw [Zk h2] at e
       refine (I.hok b u e).stay (fun d v hd y=>k d v ?_ y) (fun d y=>off d _ (fun z=>by rw [z,hP] at y;cases y) y) fun d xs y=>off d _ (fun z=>by rw [z,hP] at y;cases y) y
       rcases hd with z | z
       · rw [z];exact h2
       · exact fun z2=>by rw [z2,hP] at z;cases z
theorem Zhn {A:Around} {E:Value→Shared→Prop} {Q:Value→Shared→Prop} {c Pl:Addr} {apos p1 p2 p3 lpos:Pos} (I:Inv X pins σ H s) (hcode:X.env.code=.ref c) (C:codeHdIn X.K c Pl=true) (hBm:UM X.base X.mg) (hL:LamAt H Pl lpos (X.env.qual++"<lambda>"))
   (h:∀ (q:Addr) (H':Hp) (s':Shared) (pm cdv ct:Value),Inv X pins σ H' s'→Grown Pl H H'→LamAt H' Pl lpos (X.env.qual++"<lambda>")→s'.heap.get? q=some { cls:=.type "function",data:=.func (kla_fn "<lambda>" (X.env.qual++"<lambda>") (Vv apos) (Ua p1 p2 p3) WE [] pm cdv ct) } →
     s'.heap.CodeRec cdv (X.env.qual++"<lambda>")→Q (.ref q) s') :
   wpAny (model X.prog X.w) A (eval (.Lambda (Vv apos) (Ua p1 p2 p3) WE lpos) X.env) Q E s:=by
 rw [arm_eval_Lambda]
 refine wpAny_bind (m:=evalAll []) (wpAny_evalAll_nil (wpAny_bind (wpAny_holding (m:=evalAllOpt []) (wpAny_of_eq (a:=[]) rfl ?_))))
 have hcl:closureFor WE X.env=pure []:=rfl
 have hg:=I.mod.glob.keeps I.bk
 have CH:=codeHd_of_K I.kIn C
 have tab:∀ ps,H Pl=some (.tbl ps)→s.heap.get? Pl=some (tabObj ps):=fun ps e=>I.hok Pl _ e
 have bmAt:∀ ps,s.heap.get? Pl=some (tabObj ps)→s.heap.BuiltinsAt X.mg Pl∧mainGlobals≠Pl:=fun ps e=>by
   obtain ⟨bm,ob,b1,b2,b3,b4,b5,b6⟩:=hBm
   have b3':=I.bk _ _ b3
   have hmg:mainGlobals≠Pl:=fun z=>by
     obtain ⟨o,es,ep,y,hd,_⟩:=hg
     rw [z,e] at y;cases y;cases hd
   refine ⟨⟨bm,ob,b1,b2,fun z=>?_,(fun z=>by rw [z,e] at b3';cases b3';cases b4),b3',b4,b5,b6⟩,hmg⟩
   obtain ⟨o,es,ep,y,hd,_⟩:=hg
   rw [← z,b3'] at y;cases y
   rw [b6] at hd;cases hd
 rcases hL with e | ⟨c',e,ec⟩
 · have hP:=tab _ e
   obtain ⟨hb,hgP⟩:=bmAt _ hP
   refine kla_makeFunction (clos:=[]) hcl I.ok.glob hg hcode CH hP trivial rfl hgP hb fun c' ctv h' tk hx hge hlt hrec hT=>?_
   have I1:=I.table (t':=tk) (h':=h') (qual:=X.env.qual++"<lambda>") (lpos:=lpos) e (fun b o hb' y=>hx b o hb' y) hT hge hrec
   have hcn:H c'=none:=I.hok.fresh hge
   have hcP:c'≠Pl:=fun z=>by rw [z,e] at hcn;cases hcn
   refine h _ _ _ ((X.mg "__name__").getD .none) (.ref c') ctv (I1.kept (t':=tk) fun b o y=>Heap.get?_push_of_some _ y) (fun b o h1 y=>by rw [Zk (Zt y hcn),Zk h1];exact y) (.inr ⟨c',by rw [Zk hcP.symm,Zh];rfl,Zh⟩) (Heap.get?_push_size _ rfl) (hrec.push _)
 · have hP:=tab _ e
   obtain ⟨hb,hgP⟩:=bmAt _ hP
   have hrec:s.heap.CodeRec (.ref c') (X.env.qual++"<lambda>"):=(I.hok c' _ ec).1
   refine kla_makeFunctionHit (clos:=[]) (cv:=.ref c') hcl I.ok.glob hg hcode CH hP trivial (by simp [codeAmong,rawInt]) hb fun ctv h' tk hk hz=>?_
   exact h _ _ _ ((X.mg "__name__").getD .none) (.ref c') ctv ((I.kept (h':=h') (t':=tk) hk).kept (t':=tk) fun b o y=>Heap.get?_push_of_some _ y) (fun b o _ y=>y) (.inr ⟨c',e,ec⟩) (Heap.get?_push_size _ rfl) ((hrec.keeps hk).push _)
end
def Zmc (Pl:Addr) (lpos:Pos) (qual:Str) (te:TE):TE:=fun σ H Q=>te σ H fun x H1=>∃ (l:Addr) (ts:List Addr) (ks:List Str),[x]=[.ref l]∧H1 l=some (.lst (ts.map V.ref))∧ts.length < 64∧ks.length=ts.length ∧
 (∀ (i:Nat) (t:Addr) (k:Str),ts[i]?=some t→ks[i]?=some k→∃ vs,H1 t=some (.tup (.str k::vs)))∧LamAt H1 Pl lpos qual ∧
 ∀ (H2:Hp) (r:Addr) (ts':List Addr),Grown Pl H1 H2→LamAt H2 Pl lpos qual→H2 r=none→ZeA ks ts ts'→Q (.ref r) (upd H2 r (.lst (ts'.map V.ref)))
section
variable {X:Cx}
theorem ZiB {k:Nat} {e:Expr} {te:TE} {apos p1 p2 p3 lpos kpos p pos:Pos} {c Pl:Addr} (hg:Gl X "sorted") (hm:X.mg "sorted"=none) (he:PE X e te) (hr:Room k X.A) (hcode:X.env.code=.ref c) (C:codeHdIn X.K c Pl=true) (hBm:UM X.base X.mg)
   (hs:starEach [e] X.env=[(false,eval e X.env)]:=by rfl):PE X (.Call (.Name "sorted" p) [e] [⟨some "key",.Lambda (Vv apos) (Ua p1 p2 p3) WE lpos,kpos⟩] pos) (Zmc Pl lpos (X.env.qual++"<lambda>") te):=by
 intro pins s σ H Q I h
 have ha:PA X [e] (Xe te XE):=Yw he Za hs
 refine wpAny_Call_Name_kw (Wk I hg hm boot_sorted (callWith_kw ?_ (by rw [hs];rfl) (by rw [hs];rfl) rfl rfl))
 refine Zm (ha pos pins s σ H (fun xs H1=>∃ (l:Addr) (ts:List Addr) (ks:List Str),xs=[V.ref l]∧H1 l=some (.lst (ts.map V.ref))∧ts.length < 64∧ks.length=ts.length ∧
   (∀ (i:Nat) (t:Addr) (k:Str),ts[i]?=some t→ks[i]?=some k→∃ vs,H1 t=some (.tup (.str k::vs)))∧LamAt H1 Pl lpos (X.env.qual++"<lambda>") ∧
   ∀ (H2:Hp) (r:Addr) (ts':List Addr),Grown Pl H1 H2→LamAt H2 Pl lpos (X.env.qual++"<lambda>")→H2 r=none→ZeA ks ts ts'→Q (.ref r) (upd H2 r (.lst (ts'.map V.ref)))) I h) fun us s1 ⟨vs,H1,I1,r1,q1⟩=>?_
 obtain ⟨l,ts,ks,rfl,el,h64,hlen,htup,hL,q⟩:=q1
 obtain ⟨u,rfl,ru⟩:=Yr r1
 cases ru
 refine kws_cons (Zhn I1 hcode C hBm hL fun fq H2 s2 pm cdv ct I2 gr hL2 hfo hrec=>kws_nil ?_)
 have nl:l≠Pl:=fun z=>by
   rw [z] at el
   rcases hL with y | ⟨_,y,_⟩ <;> (rw [el] at y;cases y)
 have el2:=gr l _ nl el
 obtain ⟨its,rv,pl,hz⟩:=I2.list (SqL.of el2)
 have hits:=Zck rv
 subst hits
 have tupAt:∀ (i:Nat) (t:Addr) (k:Str),ts[i]?=some t→ks[i]?=some k→∃ its':Array Value,IsTup s2.heap t its'∧∃ tk,its'[0]?=some (.str k tk):=fun i t k h1 h2=>by
   obtain ⟨vs,ev⟩:=htup i t k h1 h2
   have nt:t≠Pl:=fun z=>by
     rw [z] at ev
     rcases hL with y | ⟨_,y,_⟩ <;> (rw [ev] at y;cases y)
   obtain ⟨_,itv,rv',pt⟩:=(show ObjOk X.prog X.w H2 s2.heap t (.tup (.str k::vs)) from I2.hok t _ (gr t _ nt ev))
   cases rv' with
   | cons r rr =>
     obtain ⟨tk,e⟩:=r
     exact ⟨_,pt,tk,by rw [e];rfl⟩
 refine Zju (vs:=ts.map Value.ref) (ks:=ks) pl.isList (by rw [List.length_map];exact hlen) (by rw [List.length_map];exact h64) (fun x=>ksk_t1 fq x) (fun h1 tk1 k1 z1=>?_) fun h' tk out cc k3 a3 o3=>?_
 · intro i v k hv hk h2 tk2 k2 z2 Q' hQ'
   rw [List.getElem?_map] at hv
   cases ht:ts[i]? with
   | none=>rw [ht] at hv;cases hv
   | some t =>
     rw [ht] at hv
     cases (show some (Value.ref t)=some v from hv)
     obtain ⟨its',pt,tk',e0⟩:=tupAt i t k ht hk
     have kp:∀ b o,s2.heap.get? b=some o→h2.get? b=some o:=fun b o y=>k2 b o (Nat.ne_of_lt (Nat.lt_succ_of_lt (Heap.lt_size y))) (k1 b o y)
     have pt2:IsTup h2 t its':=by
       obtain ⟨o,eo,r⟩:=pt
       exact ⟨o,kp _ _ eo,r⟩
     exact Zhs (s:={ s2 with heap:=h2,toks:=tk2 }) (kp _ _ hfo) (hrec.keeps kp) (I2.nolimit.keeps kp) (show X.A.depth < recursionLimit by have:=hr.dp;omega) pt2 e0 fun h3 tk3 k3 z3=>hQ' h3 tk3 tk' k3 z3
 · obtain ⟨ts',hout,hT⟩:=Zkp o3
   have rv2:Vals (ts'.map V.ref) out.toList:=by
     rw [hout]
     clear hout hT o3
     induction ts' with
     | nil=>exact .nil
     | cons t r ih=>exact .cons rfl ih
   have hl2:(ts'.map V.ref).length≤sizeLine:=by
     obtain ⟨ps,hp,e,_⟩:=hT
     have:=hp.length_eq
     rw [List.length_zip] at this
     rw [List.length_map,e,List.length_map,this]
     exact ZeS (by omega)
   exact ⟨.ref _,_,I2.laid (t':=tk) k3 (Nat.le_succ _) (show ObjOk X.prog X.w _ h' _ (.lst (ts'.map V.ref)) from ⟨hl2,out.toList,cc,rv2,by rw [Array.toArray_toList];exact a3⟩),rfl,q H2 _ ts' gr hL2 (I2.hok.fresh (Nat.le_succ _)) hT⟩
end
end L2
set_option maxHeartbeats 4000000
namespace L2
open PySem PySem.W PySem.Spec PyProof.Rows
theorem Zas:typeLookup (.type "tuple") "keys"=pure none:=am_miss_of_fast (by decide +kernel)
section
variable {prog:Program} {w:World} {A:Around} {E:Value→Shared→Prop} {s:Shared}
theorem ZgC {a:Addr} {xs:Array Value} {k:Nat} {sl:Array (Option Value)} {Q:Option Value→Shared→Prop} (hx:s.heap.get? a=some { cls:=.type "tuple",dict:=none,data:=.seq xs k,slots:=sl }) (hA:A.handled=none)
   (h:∀ h' tk,(∀ b o,s.heap.get? b=some o→h'.get? b=some o)→Q none { s with heap:=h',toks:=tk }):wpAny (model prog w) A (getAttr? (.ref a) "keys") Q E s:=by
 obtain ⟨hp,g,d,tk,os⟩:=s
 have hT:∀ tk',(⟨hp,g,d,tk',os⟩:Shared).TypeIs (.ref a) "tuple":=fun _=>⟨_,hx,rfl⟩
 have f1:=sub_AttributeError
 have f3:=F.slot_tuple_getattribute.lookup
 have f4:=F.slot_tuple_getattribute.bind (.ref a)
 have f5:=am_tuple_getattr_none
 unfold getAttr? getAttrBy? getAttrBy
 repeat (any_goals first | assumption | exact hT _ | ((with_reducible show wpAny _ _ (call (Value.builtin "tuple.__getattribute__") _ _) _ _ _);refine call_meets F.slot_tuple_getattribute (hT _) am_entry_tuple_getattribute (F.args_tuple_getattribute_2 _ _) (meets_getattribute_miss_tuple a xs k sl "keys" _ Zas (by decide) (by decide)) ⟨hx,hA,fun h' tk' e hx'=>?_⟩) | wp_step)
 obtain ⟨t',u',he⟩:=hx'.there
 show wpAny _ _ (getattributeRaised _ _ _ _ _ _ _) _ _ _
 unfold getattributeRaised
 repeat (any_goals first | assumption | wp_step)
 all_goals exact h _ _ hx'.keeps
theorem Ul:entryFor table "dict.update.loop"=some Builtin.«dict.update.loop»:=entryFor_of_tree (by kernel_rfl)
theorem Xw:plainId "dict.update.loop"=true:=by decide +kernel
end
section
variable {prog:Program} {w:World} {A:Around} {R:Result→Shared→Prop}
def PairAt (prog:Program) (w:World) (h:Heap) (v:Value) (p:Zj×Value):Prop:=∃ tt key,v=.ref tt∧IsTup h tt #[key,p.2]∧(Zu prog w).is p.1 key=true
theorem PairAt.keep {h h':Heap} {v:Value} {p:Zj×Value} (x:PairAt prog w h v p) (k:∀ b o,h.get? b=some o→h'.get? b=some o):PairAt prog w h' v p:=by
 obtain ⟨tt,key,e,⟨o,eo,r⟩,z⟩:=x
 exact ⟨tt,key,e,⟨o,k _ _ eo,r⟩,z⟩
theorem PairAt.but {h h':Heap} {v:Value} {p:Zj×Value} {d:Addr} {o:Obj} (x:PairAt prog w h v p) (hd:h.get? d=some o) (hc:o.cls≠.type "tuple") (k:∀ b o,b≠d→h.get? b=some o→h'.get? b=some o):PairAt prog w h' v p:=by
 obtain ⟨tt,key,e,⟨ot,eo,c,r⟩,z⟩:=x
 refine ⟨tt,key,e,⟨ot,k _ _ (fun y=>?_) eo,c,r⟩,z⟩
 rw [y,hd] at eo
 cases eo
 exact hc c
theorem Ziq {d I t:Addr} {its:Array Value} (ps:List (Zj×Value)) (hlen:ps.length=its.size) (hnd:(ps.map (·.1)).Nodup) (hsz:ps.length≤sizeLine) (hh:A.handled=none) (hIt:I≠t) (hId:I≠d) :
   ∀ (k i:Nat) (s:Shared) (n:Int) (tk:Tok),ps.length - i=k→i≤ps.length→s.heap.IsTupleIter I t i→s.heap.IsTuple t its→(∀ (j:Nat) (v:Value) (p:Zj×Value),its[j]?=some v→ps[j]?=some p→PairAt prog w s.heap v p)→s.heap.DictOf (Zu prog w) d (ps.take i) →
   (∀ h' tk',(∀ b o,b≠I→b≠d→s.heap.get? b=some o→h'.get? b=some o)→h'.DictOf (Zu prog w) d ps→R (.ok (.ret .none)) { s with heap:=h',toks:=tk' }) →
   codeAny (model prog w) A (.builtin "dict.update.loop" ⟨[.ref d,.ref I,.int n tk,.none],[]⟩) R s:=by
 have W:=Walks.tuple (prog:=prog) (w:=w) (A:=A.in1) hh I t hIt.symm its
 intro k
 induction k with
 | zero =>
   intro i s n tk hk hi hit htp hpr hd hR
   have hin:i=its.size:=by omega
   refine codeAny_builtin Ul ?_
   rw [Around.under_plainId Xw _]
   show wpAny _ A.in1 (pyNext (.ref I) >>= _) _ _ s
   refine wpAny_bind (W.done s _ _ ⟨by rw [← hin];exact hit,htp⟩ fun h' tk' kk=>?_)
   show wpAny _ _ (Builtin.Dict.addKeywords d [] >>= _) _ _ _
   refine wpAny_bind (wpAny_pure (wpAny_pure (hR h' tk' (fun b o h1 _ y=>kk b o (by simpa using h1) y) ?_)))
   rw [List.take_of_length_le (by omega)] at hd
   obtain ⟨o,es,ep,eo,r⟩:=hd
   exact ⟨o,es,ep,kk d o (by simpa using hId.symm) eo,r⟩
 | succ k ih =>
   intro i s n tk hk hi hit htp hpr hd hR
   have hlt:i < its.size:=by omega
   refine codeAny_builtin Ul ?_
   rw [Around.under_plainId Xw _]
   show wpAny _ A.in1 (pyNext (.ref I) >>= _) _ _ s
   refine wpAny_bind (W.item i s _ _ hlt ⟨hit,htp⟩ fun v h1 tk1 hv st1 kk=>?_)
   obtain ⟨hit1,htp1⟩:=st1
   have hI0:∃ o,s.heap.get? I=some o∧o.cls≠.type "tuple":=by
     obtain ⟨o,eo,c,_⟩:=hit
     exact ⟨o,eo,by rw [c];decide⟩
   have hpr1:∀ (j:Nat) (v:Value) (p:Zj×Value),its[j]?=some v→ps[j]?=some p→PairAt prog w h1 v p:=fun j v p a b=>by
     obtain ⟨o,eo,c⟩:=hI0
     exact (hpr j v p a b).but eo c fun b o hb y=>kk b o (by simpa using hb) y
   obtain ⟨p,hp⟩:∃ p,ps[i]?=some p:=⟨_,List.getElem?_eq_getElem (by omega)⟩
   have hv':its[i]?=some v:=hv
   obtain ⟨tt,key,rfl,⟨ot,eo,oc,on,od⟩,hkey⟩:=hpr1 i v p hv' hp
   have hd1:h1.DictOf (Zu prog w) d (ps.take i):=by
     obtain ⟨o,es,ep,eo,r⟩:=hd
     exact ⟨o,es,ep,kk d o (by simpa using hId.symm) eo,r⟩
   have hT:Shared.TypeIs { s with heap:=h1,toks:=tk1 } (.ref tt) "tuple":=⟨ot,eo,oc⟩
   have hnew:stored (ps.take i) p.1 p.2=ps.take (i+1):=by
     have hni:p.1 ∉ (ps.take i).map (·.1):=fun z=>by
       have e1:(ps.map (·.1))=(ps.take i).map (·.1)++(ps.drop i).map (·.1):=by rw [← List.map_append,List.take_append_drop]
       rw [e1,List.nodup_append] at hnd
       refine hnd.2.2 _ z _ (List.mem_map.mpr ⟨p,?_,rfl⟩) rfl
       exact List.mem_of_getElem? (i:=0) (by rw [List.getElem?_drop];simpa using hp)
     unfold stored
     rw [if_neg,List.take_add_one,hp]
     · rfl
     · intro z
       obtain ⟨q,hq,e⟩:=List.any_eq_true.mp z
       exact hni (List.mem_map.mpr ⟨q,hq,by simpa using e⟩)
   show wpAny _ A.in1 (holding [.ref tt] _ >>= _) _ _ _
   refine wpAny_bind (wpAny_holding ?_)
   refine wpAny_bind (wpAny_tryCatch ?_)
   unfold Builtin.Dict.pairItems
   refine wpAny_bind (wpAny_typeOf hT ?_)
   rw [if_pos (by decide)]
   refine wpAny_bind (wpAny_seqItems eo od (wpAny_pure ?_))
   show wpAny _ _ (holding [key,p.2] (dictSet d key p.2)) _ _ _
   refine wpAny_holding (wpAny_dictSet_pairs hkey hd1 (fun h2 hd2 hs2=>?_) (Nat.le_trans (by rw [List.length_take];omega) hsz))
   rw [hnew] at hd2
   refine wpAny_pure ⟨plainId_quiet Xw _,ih (i+1) _ (n+1) _ (by omega) (by omega) ?_ ?_ ?_ hd2 ?_⟩
   · obtain ⟨o,eo',r⟩:=hit1
     exact ⟨o,(hs2.2 I hId).trans eo',r⟩
   · obtain ⟨o,eo',r⟩:=htp1
     refine ⟨o,(hs2.2 t (fun z=>?_)).trans eo',r⟩
     obtain ⟨o',es,ep,eo2,c2,_⟩:=hd1
     rw [z,eo2] at eo'
     cases eo'
     rw [c2.1] at r
     exact absurd r.1 (by decide)
   · intro j v p a b
     obtain ⟨o',es,ep,eo2,c2,_⟩:=hd1
     exact (hpr1 j v p a b).but eo2 (by rw [c2.1];decide) fun b o hb y=>(hs2.2 b hb).trans y
   · intro h3 tk3 k3 hd3
     exact hR h3 tk3 (fun b o h4 h5 y=>k3 b o h4 h5 ((hs2.2 b h5).trans (kk b o (by simpa using h4) y))) hd3
end
section
variable {prog:Program} {w:World} {A:Around} {E:Value→Shared→Prop} {s:Shared}
theorem ZbR {t:Addr} {its:Array Value} {Q:Value→Shared→Prop} (ps:List (Zj×Value)) (ht:IsTup s.heap t its) (hnd0:∃ o,s.heap.get? t=some o∧o.dict=none) (hlen:ps.length=its.size) (hnd:(ps.map (·.1)).Nodup) (hsz:ps.length≤sizeLine) (hh:A.handled=none)
   (hpr:∀ (j:Nat) (v:Value) (p:Zj×Value),its[j]?=some v→ps[j]?=some p→PairAt prog w s.heap v p)
   (h:∀ h' tk',(∀ b o,s.heap.get? b=some o→h'.get? b=some o)→h'.DictOf (Zu prog w) s.heap.objs.size ps→Q (.ref s.heap.objs.size) { s with heap:=h',toks:=tk' }) :
   wpAny (model prog w) A (call (.type "dict") [.ref t]) Q E s:=by
 refine callType_codes (Q₁:=fun obj s₁=>obj=.ref s.heap.objs.size∧s₁={ s with heap:=s.heap.push { cls:=.type "dict",data:=.dict #[] } }) F.kt_called_dict (F.kt_typeCall_dict_1 _) F.entry_dict_init (kt_code_dict_new _ ⟨rfl,rfl⟩) ?_
 rintro obj s₁ ⟨rfl,rfl⟩
 have hnew:(s.heap.push { cls:=.type "dict",data:=.dict #[] }).DictOf (Zu prog w) s.heap.objs.size []:=Heap.DictOf.new s.heap
 have tlt:t < s.heap.objs.size:=by obtain ⟨o,eo,_⟩:=ht;exact Heap.lt_size eo
 obtain ⟨ot,eot,oct,on,odt⟩:=id ht
 obtain ⟨o2,eo2,hdict⟩:=hnd0
 rw [eot] at eo2
 cases eo2
 refine ⟨hnew.typeIs,F.args_dict_init_2 _ _,?_⟩
 unfold Builtin.«dict.__init__»
 refine wpAny_bind ?_
 unfold Builtin.Dict.selfAndRest
 refine wpAny_bind (wpAny_notOrdered_dict hnew.typeIs ?_)
 show wpAny _ _ (pure (s.heap.objs.size,[Value.ref t])) _ _ _
 refine wpAny_pure ?_
 show wpAny _ _ (Builtin.Dict.updateFrom "dict.__init__" s.heap.objs.size (.ref t) [] .none) _ _ _
 unfold Builtin.Dict.updateFrom
 have hT:Shared.TypeIs { s with heap:=s.heap.push { cls:=.type "dict",data:=.dict #[] } } (.ref t) "tuple":=⟨ot,Heap.get?_push_of_some _ eot,oct⟩
 refine wpAny_bind (wpAny_typeOf hT ?_)
 rw [if_pos (by decide)]
 obtain ⟨c0,d0,dt0,sl0⟩:=ot
 have e1:c0=.type "tuple":=oct
 have e2:d0=none:=hdict
 have e3:dt0=.seq its on:=odt
 subst e1 e2 e3
 refine wpAny_bind (ZgC (s:={ s with heap:=s.heap.push { cls:=.type "dict",data:=.dict #[] } }) (Heap.get?_push_of_some _ eot) hh fun h1 tk1 k1=>?_)
 rw [if_pos (show (none:Option Value).isNone=true from rfl)]
 have et1:=k1 _ _ (Heap.get?_push_of_some { cls:=.type "dict",data:=.dict #[] } eot)
 have hd1:h1.DictOf (Zu prog w) s.heap.objs.size []:=by
   obtain ⟨o,es,ep,eo,r⟩:=hnew
   exact ⟨o,es,ep,k1 _ _ eo,r⟩
 have dlt:s.heap.objs.size < h1.objs.size:=by obtain ⟨o,es,ep,eo,r⟩:=hd1;exact Heap.lt_size eo
 refine wpAny_bind (wpAny_rule (wpAny_bind (wpAny_pyIter_tuple (items:=its) ⟨_,et1,rfl,on,rfl⟩ ?_)))
 refine wpAny_pure ⟨plainId_quiet Xw _,Ziq (A:=A.in1) ps hlen hnd hsz hh (Nat.ne_of_gt (Heap.lt_size et1)) (Nat.ne_of_gt dlt) ps.length 0 _ 0 _ (by omega) (Nat.zero_le _) ⟨_,Heap.get?_push_size _ rfl,rfl,rfl⟩ ⟨_,Heap.get?_push_of_some _ et1,rfl,on,rfl⟩ ?_ ?_ ?_⟩
 · intro j v p a b
   exact (hpr j v p a b).keep fun b o y=>Heap.get?_push_of_some _ (k1 _ _ (Heap.get?_push_of_some _ y))
 · obtain ⟨o,es,ep,eo,r⟩:=hd1
   exact ⟨o,es,ep,Heap.get?_push_of_some _ eo,r⟩
 · intro h' tk' k3 hd3
   refine ⟨rfl,h h' tk' (fun b o y=>?_) hd3⟩
   have y1:=k1 _ _ (Heap.get?_push_of_some { cls:=.type "dict",data:=.dict #[] } y)
   exact k3 b o (Nat.ne_of_lt (Heap.lt_size y1)) (Nat.ne_of_lt (Heap.lt_size y)) (Heap.get?_push_of_some _ y1)
end
section
variable {X:Cx}
theorem WT (hc:X.calm=true):Yv X (.type "dict") (fun xs H Q=>∃ (t:Addr) (ts:List Addr) (kvs:List (Str×V)),xs=[.ref t]∧(∃ o,H t=some (.frz o (.tup (ts.map V.ref)))∧o.dict=none)∧ts.length=kvs.length∧kvs.length≤1000 ∧
   (∀ (i:Nat) (a:Addr) (p:Str×V),ts[i]?=some a→kvs[i]?=some p→H a=some (.tup [.str p.1,p.2]))∧(kvs.map (·.1)).Nodup∧∀ d,H d=none→Q (.ref d) (upd H d (.dK (kvs.map fun p=>(Sum.inr p.1,p.2))))):=by
 intro pins s σ H xs us Q I r h
 obtain ⟨t,ts,kvs,rfl,⟨ot0,hq0,hdn⟩,hlen,hsz,hp,hnd,q⟩:=h
 have hq:SqT X.K H t (ts.map V.ref):=.inl (.inr ⟨ot0,hq0⟩)
 have eo0:=(I.hok t _ hq0).1
 obtain ⟨u,rfl,ru⟩:=Yr r
 cases ru
 obtain ⟨its,rv,pt,hz⟩:=I.tuple hq
 have hits:=Zck rv
 subst hits
 have build:∀ (kvs:List (Str×V)) (ts:List Addr),ts.length=kvs.length→(∀ (i:Nat) (a:Addr) (p:Str×V),ts[i]?=some a→kvs[i]?=some p→H a=some (.tup [.str p.1,p.2])) →
     ∃ ps:List (Zj×Value),KV (kvs.map fun p=>((Sum.inr p.1:Zj),p.2)) ps∧ps.length=kvs.length∧ps.map (·.1)=kvs.map (fun p=>(Sum.inr p.1:Zj))∧∀ (j:Nat) (v:Value) (p:Zj×Value),(ts.map Value.ref)[j]?=some v→ps[j]?=some p→PairAt X.prog X.w s.heap v p:=by
   intro kvs
   induction kvs with
   | nil=>intro ts _ _;exact ⟨[],.nil,rfl,rfl,fun j v p _ e=>by simp at e⟩
   | cons kv r ih =>
     intro ts hl hh
     cases ts with
     | nil=>simp at hl
     | cons a ar =>
       obtain ⟨ps,k1,k2,k3,k4⟩:=ih ar (by simpa using hl) fun i b p e1 e2=>hh (i+1) b p (by simpa using e1) (by simpa using e2)
       obtain ⟨_,itv,rv',pa⟩:=(show ObjOk X.prog X.w H s.heap a (.tup [.str kv.1,kv.2]) from I.hok a _ (hh 0 a kv rfl rfl))
       cases rv' with
       | cons r1 rr =>
         cases rr with
         | cons r2 rr =>
           cases rr
           obtain ⟨tk,e⟩:=r1
           subst e
           rename_i u2
           refine ⟨(Sum.inr kv.1,u2)::ps,.cons ⟨rfl,r2⟩ k1,by rw [List.length_cons,List.length_cons,k2],by rw [List.map_cons,List.map_cons,k3],fun j v p e1 e2=>?_⟩
           cases j with
           | zero =>
             cases (show some (Value.ref a)=some v from e1)
             cases (show some ((Sum.inr kv.1:Zj),u2)=some p from e2)
             exact ⟨a,.str kv.1 tk,rfl,pa,VC _ _ _ _⟩
           | succ j=>exact k4 j v p (by simpa using e1) (by simpa using e2)
 obtain ⟨ps,k1,k2,k3,k4⟩:=build kvs ts hlen hp
 have hnd2:(ps.map (·.1)).Nodup:=by
   rw [k3]
   have:kvs.map (fun p=>(Sum.inr p.1:Zj))=(kvs.map (·.1)).map Sum.inr:=by rw [List.map_map];rfl
   rw [this]
   rw [List.Nodup,List.pairwise_map]
   exact hnd.imp fun h e=>h (by cases e;rfl)
 refine ZbR ps pt ⟨ot0,eo0,hdn⟩ (by rw [k2,List.size_toArray,List.length_map,hlen]) hnd2 (by rw [k2];exact ZeS hsz) (I.ok.hd hc) (fun j v p e1 e2=>k4 j v p (by simpa using e1) e2) fun h' tk' kk hd=>?_
 have hbig:=I.big
 refine ⟨.ref s.heap.objs.size,_,I.laid (t':=tk') kk (Nat.le_refl _) (show ObjOk X.prog X.w _ h' _ (.dK (kvs.map fun p=>((Sum.inr p.1:Zj),p.2))) from ⟨by rw [List.length_map];exact ZeS hsz,?_,ps,k1,hd⟩),rfl,q _ (I.hok.fresh (Nat.le_refl _))⟩
 exact beq_eq_false_iff_ne.mpr (Nat.ne_of_gt hbig)
end
end L2
set_option maxHeartbeats 2000000
namespace L2
open PySem PySem.W PySem.Spec PyProof.Rows
section
variable {X:Cx} {pins:List (Addr×Obj)} {σ:List (Option V)} {H H':Hp} {s:Shared} {h':Heap}
theorem Inv.many {t':Nat} (I:Inv X pins σ H s) (k:∀ b u,s.heap.get? b=some u→h'.get? b=some u) (ext:Same H H') (new:∀ b,b < s.heap.objs.size→H' b=H b) (hok:∀ b o,s.heap.objs.size≤b→H' b=some o→ObjOk X.prog X.w H' h' b o) :
   Inv X pins σ H' { s with heap:=h',toks:=t' }:=by
 refine I.step (g':=s.gens) (d':=s.drawn) (ch:=[]) (fun _ z=>nomatch z) (fun b o _ _ _ e _=>k b o e) (fun b o _ _ _ e _=>⟨o.slots,k b o e⟩) (fun b o _ e n=>by rw [new b (Heap.lt_size e)];exact n) (fun b o _ e=>⟨o,k b o e⟩)
   (fun b xs e=>ext b _ e) (fun b o u e=>ext b _ e) (fun b ps e=>⟨#[],by rw [ext b _ e];simp⟩) (fun m hm=>?_) (fun b u e=>?_) I.bare
 · obtain ⟨o,es,ep,ho,r⟩:=hm
   exact ⟨o,es,ep,k _ o ho,r⟩
 · by_cases hb:b < s.heap.objs.size
   · rw [new b hb] at e
     exact (I.hok b u e).stay (fun c v _ y=>k c v y) (fun c y=>ext c _ y) fun c xs y=>ext c _ y
   · exact hok b u (Nat.not_lt.mp hb) e
end
def Zae (v d:Addr):Heap→Prop:=fun h=>h.IsItemsView v d
def Ux (H:Hp):List (Addr×Zj×V)→Hp
 | []=>H
 | (a,k,v)::r=>upd (Ux H r) a (.tup [kV k,v])
theorem VJ {H:Hp} {b:Addr}:∀ {l:List (Addr×Zj×V)},b ∉ l.map (·.1)→Ux H l b=H b
 | [],_=>rfl
 | (a,k,v)::r,h=>by
   rw [List.map_cons,List.mem_cons,not_or] at h
   show upd (Ux H r) a _ b=_
   rw [Zk h.1];exact VJ h.2
theorem ZdJ {H:Hp} {a:Addr} {k:Zj} {v:V}:∀ {l:List (Addr×Zj×V)},(l.map (·.1)).Nodup→(a,k,v)∈l→Ux H l a=some (.tup [kV k,v])
 | (b,k',v')::r,hn,hm=>by
   rw [List.map_cons,List.nodup_cons] at hn
   show upd (Ux H r) b _ a=_
   rcases List.mem_cons.mp hm with e | hm
   · cases e;exact Zh
   · rw [Zk (fun z:a=b=>hn.1 (by show b∈_;rw [← z];exact List.mem_map.mpr ⟨_,hm,rfl⟩))]
     exact ZdJ hn.2 hm
theorem ZkX {kvs:List (Zj×V)} {vs:List (Zj×Value)} (r:KV kvs vs):∀ {j:Nat} {k:Zj} {x:Value},vs[j]?=some (k,x)→∃ v,kvs[j]?=some (k,v)∧RelV v x:=by
 induction r with
 | nil=>intro j k x e;simp at e
 | cons h t ih =>
   intro j k x e
   cases j with
   | zero =>
     cases (show some _=some (k,x) from e)
     rename_i a _ _
     refine ⟨a.2,?_,h.2⟩
     have e1:a.1=k:=h.1
     show some a=some (k,a.2)
     rw [← e1]
   | succ j=>exact ih (by simpa using e)
section
variable {X:Cx}
theorem ZiH:MtR X "dict.items" (fun x xs H Q=>∃ d kvs,x=.ref d∧xs=[]∧H d=some (.dK kvs)∧∀ v,H v=none→Q (.ref v) (upd H v (.ext (Zae v d)))):=by
 intro pins s σ H x xs v us Q I rx rv h
 obtain ⟨d,kvs,rfl,rfl,e,q⟩:=h
 cases rx
 cases rv
 obtain ⟨hz,lo,vs,kv,hd⟩:=Uu I.hok e
 refine call_meetsIn PySem.F.slot_dict_items hd.typeIs PySem.F.entry_dict_items (PySem.F.args_dict_items_1 _) (meets_dict_items (Zu X.prog X.w) d lo) ⟨⟨vs,hd⟩,?_⟩
 refine ⟨.ref s.heap.objs.size,_,I.laid (t':=s.toks) (fun b o y=>Heap.get?_push_of_some _ y) (Nat.le_refl _) (show ObjOk X.prog X.w _ _ _ (.ext (Zae s.heap.objs.size d)) from ⟨⟨_,Heap.get?_push_size _ rfl,rfl,rfl⟩,⟨_,Heap.get?_push_size _ rfl⟩,?_⟩),rfl,q _ (I.hok.fresh (Nat.le_refl _))⟩
 rintro h1 h2 ⟨o,eo,r⟩ k
 exact ⟨o,k _ eo,r⟩
theorem Zaf (hc:X.calm=true):Yv X (.type "list") (fun xs H Q=>∃ v d kvs,xs=[.ref v]∧H v=some (.ext (Zae v d))∧H d=some (.dK kvs) ∧
   ∀ (l:Addr) (ts:List Addr) (H2:Hp),H l=none→Same H H2→ts.length=kvs.length→(∀ a∈ts,H a=none)→(∀ (i:Nat) (a:Addr) (p:Zj×V),ts[i]?=some a→kvs[i]?=some p→H2 a=some (.tup [kV p.1,p.2]))→H2 l=some (.lst (ts.map V.ref))→Q (.ref l) H2):=by
 intro pins s σ H xs us Q I r h
 obtain ⟨v,d,kvs,rfl,ev,ed,q⟩:=h
 obtain ⟨u,rfl,ru⟩:=Yr r
 cases ru
 obtain ⟨hz,lo,vs,kv,o,es,ep,ho,r1,r2,r3,r4,r5⟩:=Uu I.hok ed
 have hlen:vs.length=kvs.length:=(Paired.length kv).symm
 refine kdx_call (knd:=Zu X.prog X.w) (kvs:=vs) (ep:=ep) (I.ok.hd hc) (I.hok v _ ev).1 ⟨o,es,ho,r1,r2,r3,r4,r5⟩ (by rw [hlen];exact hz) fun h' tk acc c as hk hS hl hG hacc=>?_
 have hl2:as.length=kvs.length:=by rw [hl,hlen]
 have hnd:as.Nodup:=hG.rise.imp fun h=>Nat.ne_of_lt h
 generalize hL:as.zip (kvs.map fun p=>p)=L
 have hm1:L.map (·.1)=as:=by
   rw [← hL,List.map_id']
   exact List.map_fst_zip (by omega)
 have at_j:∀ (j:Nat) (a:Addr) (p:Zj×V),as[j]?=some a→kvs[j]?=some p→(a,p.1,p.2)∈L:=fun j a p e1 e2=>by
   rw [← hL,List.map_id']
   exact List.mem_of_getElem? (i:=j) (by rw [List.getElem?_zip_eq_some];exact ⟨e1,e2⟩)
 have above:∀ a∈as,s.heap.objs.size < a:=hG.above
 have hfr:∀ b,s.heap.objs.size≤b→H b=none:=fun b hb=>I.hok.fresh hb
 have hnl:s.heap.objs.size ∉ L.map (·.1):=fun z=>by rw [hm1] at z;exact absurd (above _ z) (Nat.lt_irrefl _)
 have offA:∀ b,b < s.heap.objs.size→b ∉ L.map (·.1):=fun b hb z=>by rw [hm1] at z;exact absurd (Nat.lt_trans (above _ z) hb) (Nat.lt_irrefl _)
 have key:∀ b,b < s.heap.objs.size→upd (Ux H L) s.heap.objs.size (.lst (as.map V.ref)) b=H b:=fun b hb=>by rw [Zk (Nat.ne_of_lt hb),VJ (offA b hb)]
 have sm:Same H (upd (Ux H L) s.heap.objs.size (.lst (as.map V.ref))):=fun b o e=>by rw [key b (I.hok.lt e)];exact e
 have tup_at:∀ (j:Nat) (a:Addr) (p:Zj×V),as[j]?=some a→kvs[j]?=some p→upd (Ux H L) s.heap.objs.size (.lst (as.map V.ref)) a=some (.tup [kV p.1,p.2]):=fun j a p e1 e2=>by
   rw [Zk (Nat.ne_of_gt (above a (List.mem_of_getElem? e1)))]
   exact ZdJ (by rw [hm1];exact hnd) (at_j j a p e1 e2)
 have I2:Inv X pins σ (upd (Ux H L) s.heap.objs.size (.lst (as.map V.ref))) { s with heap:=h',toks:=tk }:=by
   refine I.many hk sm key fun b o hb e=>?_
   by_cases h0:b=s.heap.objs.size
   · subst h0
     rw [Zh] at e
     cases e
     refine ⟨by rw [List.length_map,hl2];exact hz,acc.toList,c,?_,by rw [Array.toArray_toList];exact hS⟩
     rw [hacc]
     clear hacc hl hG hl2 hnd hL hm1 at_j above hnl offA key sm tup_at
     induction as with
     | nil=>exact .nil
     | cons a r ih=>exact .cons rfl ih
   · rw [Zk h0] at e
     by_cases hm:b∈as
     · obtain ⟨j,hj⟩:=List.mem_iff_getElem?.mp hm
       obtain ⟨keyv,kk,x,e1,e2,e3⟩:=hG.pairs j b hj
       obtain ⟨vv,e4,rel⟩:=ZkX kv e1
       have e5:=tup_at j b (kk,vv) hj e4
       rw [Zk h0,e] at e5
       cases e5
       refine ⟨by show 2≤sizeLine;decide,[keyv,x],.cons ?_ (.cons rel .nil),⟨_,e3,rfl,_,rfl⟩⟩
       rw [ZaO] at e2
       rcases ZT e2 with ⟨i,tt,rfl,rfl⟩ | ⟨y,tt,rfl,rfl⟩
       · exact ⟨tt,rfl⟩
       · exact ⟨tt,rfl⟩
     · rw [VJ (by rw [hm1];exact hm),hfr b hb] at e
       cases e
 exact ⟨.ref s.heap.objs.size,_,I2,rfl,q _ as _ (hfr _ (Nat.le_refl _)) sm hl2 (fun a ha=>hfr a (Nat.le_of_lt (above a ha))) tup_at Zh⟩
def Zmp:TE:=fun _ H Q=>∀ p o,H p=none→o.dict=none→Q (.ref p) (upd H p (.frz o (.tup [])))
theorem Zeh {x1:Nat} {pos:Pos}:PE X (.Tuple [] x1 pos) Zmp:=by
 intro pins s σ H Q I hq
 refine wpAny_Tuple_spliced (Zm (Za pos pins s σ H (fun xs H1=>xs=[]∧H1=H) I ⟨rfl,rfl⟩) fun us s1 ⟨xs,H1,I1,r,e1,e2⟩=>?_)
 subst e1 e2
 cases r
 refine ⟨Nat.zero_le _,?_⟩
 have hf:H1 s1.heap.objs.size=none:=I1.hok.fresh (Nat.le_refl _)
 exact ⟨.ref s1.heap.objs.size,_,I1.laid (t':=s1.toks) (o:=.frz _ (.tup [])) (fun b u e=>Heap.get?_push_of_some _ e) (Nat.le_refl _) ⟨Heap.get?_push_size _ rfl,Nat.zero_le _,[],.nil,⟨_,Heap.get?_push_size _ rfl,rfl,_,rfl⟩⟩,rfl,hq _ _ hf rfl⟩
theorem VD:Yv X (.type "tuple") (fun xs H Q=>∃ p ys,xs=[.ref p]∧SqL X.K H p ys∧∀ l o,H l=none→o.dict=none→Q (.ref l) (upd H l (.frz o (.tup ys)))):=by
 intro pins s σ H xs us Q I r h
 obtain ⟨p,ys,rfl,hq,q⟩:=h
 obtain ⟨u,rfl,rx⟩:=Yr r
 cases rx
 obtain ⟨its,r',pl,hz⟩:=I.list hq
 have hlen:=r'.length
 refine call_tuple_list pl.isList (fun h' kp=>?_) (by simp only [List.size_toArray] <;> omega)
 have I1:Inv X pins σ H { s with heap:=h' }:=I.kept (t':=s.toks) kp
 have hg:(h'.push { cls:=.type "tuple",data:=.seq its.toArray }).get? h'.objs.size=some { cls:=.type "tuple",data:=.seq its.toArray }:=Heap.get?_push_size _ rfl
 exact ⟨.ref h'.objs.size,_,I1.laid (t':=s.toks) (o:=.frz { cls:=.type "tuple",data:=.seq its.toArray } (.tup ys)) (fun b o e=>Heap.get?_push_of_some _ e) (Nat.le_refl _) ⟨hg,hz,its,r',⟨_,hg,rfl,_,rfl⟩⟩,rfl,q _ _ (I1.hok.fresh (Nat.le_refl _)) rfl⟩
end
end L2
set_option maxHeartbeats 2000000
namespace L2
open PySem PySem.W PySem.Spec PyProof.Rows
structure FunC (K:PySem.W.Frag) (x qual:Str) (st:Stmt) (f:Addr) (fd:FuncData) (c Pl:Addr):Prop where
 ex:∃ (oc:Value) (od:Option Addr) (kV doc pm:Value) (an:Option Addr) (ct:Value) (osl:Array (Option Value)),
   fd=PySem.W.fnOf x qual (Vu st) (XI st) (Zl st) .none kV doc pm an (.ref c) ct∧K.lookup f=some ⟨oc,od,.func fd,osl⟩∧PySem.W.codeIn K (.ref c) qual=true
 kp:PySem.W.keepIn K (.ref f)=true
 hd:codeHdIn K c Pl=true
section
variable {P:Program} {w:World} {K:PySem.W.Frag} {mg:Str→Option Value} {base:Heap}
theorem FunC.ok {x qual:Str} {st:Stmt} {f c Pl:Addr} {fd:FuncData} {N ps:List Str} {k:Nat} {sp:Sp} (F:FunC K x qual st f fd c Pl) (S:Zs N ps (Zl st)) (len:∀ vs H Q E,sp vs H Q E→vs.length=ps.length)
   (hbody:∀ (A:Around) (outer:List Env) (s:Shared) (H:Hp) (vs:List V) (Q:VK) (E:XK),Room k (A.deeper (envOfC qual (Zl st) s.heap.objs.size f (.ref c)))→sp vs H Q E →
     ∃ t,PSs (VM ZH P w K mg base N qual (Zl st) f (.ref c) A outer s H E).nox (XI st) t∧t { nx:=fun _ H'=>Q .non H',rt:=Q } (start N vs) H):FnOk P w K mg base ZH (k+1) f fd ps sp:=by
 obtain ⟨oc,od,kV,doc,pm,an,ct,osl,rfl,lk,hcd⟩:=F.ex
 refine ZiN lk hcd S len fun A outer s H vs Q E hr hsp=>?_
 obtain ⟨t,h,q⟩:=hbody A outer s H vs Q E hr hsp
 exact ⟨t,h.nox,q⟩
theorem FunC.fn {x qual:Str} {st:Stmt} {f c Pl:Addr} {fd:FuncData} (F:FunC K x qual st f fd c Pl):Fun K x qual st f fd:=by
 obtain ⟨oc,od,kV,doc,pm,an,ct,osl,e,lk,hcd⟩:=F.ex
 exact ⟨⟨oc,od,kV,doc,pm,an,.ref c,ct,osl,e,lk,hcd⟩,F.kp⟩
end
theorem Zjh {X:Cx} {st:Stmt}:PS X st (fun _ _ _=>False):=fun _ _ _ _ _ _ h=>h.elim
structure TF (H H':Hp):Prop where
 tup:∀ b xs,H b=some (.tup xs)→H' b=some (.tup xs)
 frz:∀ b o u,H b=some (.frz o u)→H' b=some (.frz o u)
theorem TF.trans {H H1 H2:Hp} (a:TF H H1) (b:TF H1 H2):TF H H2:=⟨fun x xs h=>b.tup x xs (a.tup x xs h),fun x o u h=>b.frz x o u (a.frz x o u h)⟩
theorem Same.tf {H H':Hp} (h:Same H H'):TF H H':=⟨fun b _ e=>h b _ e,fun b _ _ e=>h b _ e⟩
theorem Grown.tf {Pl:Addr} {H H':Hp} {ps:Array Value} (h:Grown Pl H H') (e:H Pl=some (.tbl ps)):TF H H' :=
 ⟨fun b _ y=>h b _ (fun z=>by rw [z,e] at y;cases y) y,fun b _ _ y=>h b _ (fun z=>by rw [z,e] at y;cases y) y⟩
theorem LamAt.tbl {H:Hp} {Pl:Addr} {lpos:Pos} {qual:Str} (h:LamAt H Pl lpos qual):∃ ps,H Pl=some (.tbl ps):=by
 rcases h with h | ⟨_,h,_⟩
 · exact ⟨_,h⟩
 · exact ⟨_,h⟩
theorem Zdd {H:Hp} {l:Addr} {xs:List V} {o:HO} (h:H l=some (.lst xs)):TF H (upd H l o) :=
 ⟨fun b _ y=>by rw [Zk (fun z=>by rw [z,h] at y;cases y)];exact y,fun b _ _ y=>by rw [Zk (fun z=>by rw [z,h] at y;cases y)];exact y⟩
theorem Zkg {H:Hp} {l:Addr} {xs:List (Zj×V)} {o:HO} (h:H l=some (.dK xs)):TF H (upd H l o) :=
 ⟨fun b _ y=>by rw [Zk (fun z=>by rw [z,h] at y;cases y)];exact y,fun b _ _ y=>by rw [Zk (fun z=>by rw [z,h] at y;cases y)];exact y⟩
theorem SqT.tf {K:PySem.W.Frag} {H H':Hp} {a:Addr} {xs:List V} (h:SqT K H a xs) (t:TF H H'):SqT K H' a xs:=by
 rcases h with (h | ⟨o,h⟩) | h
 · exact .inl (.inl (t.tup _ _ h))
 · exact .inl (.inr ⟨o,t.frz _ _ _ h⟩)
 · exact .inr h
inductive Nd where
 | bare
 | leaf (m:Int) (ps:List (Str×V))
 | fork (qs:List Nat)
def Nd.parts:Nd→List Nat
 | .fork qs=>qs
 | _=>[]
def Nd.pairs:Nd→List (Str×V)
 | .leaf _ ps=>ps
 | _=>[]
def Nd.hasM (n:Int):Nd→Bool
 | .leaf m _=>decide (m=n)
 | _=>false
def PairT (H:Hp) (ts:List Addr) (ps:List (Str×V)):Prop:=ts.length=ps.length∧∀ (i:Nat) (a:Addr) (p:Str×V),ts[i]?=some a→ps[i]?=some p→H a=some (.tup [.str p.1,p.2])
def PairsAt (H:Hp) (t:Addr) (ps:List (Str×V)):Prop:=∃ o ts,H t=some (.frz o (.tup (ts.map V.ref)))∧o.dict=none∧PairT H ts ps
def NodeAt (K:PySem.W.Frag) (H:Hp) (a:Addr):Nd→Prop
 | .bare=>SqT K H a [.str "bare"]
 | .leaf m ps=>∃ t,SqT K H a [.str "leaf",.int m,.ref t]∧PairsAt H t ps
 | .fork qs=>∃ t,SqT K H a [.str "fork",.ref t]∧SqT K H t (qs.map fun q:Nat=>V.int (q:Int))∧qs.length=4
theorem PairT.tf {H H':Hp} {ts:List Addr} {ps:List (Str×V)} (h:PairT H ts ps) (t:TF H H'):PairT H' ts ps:=⟨h.1,fun i a p e1 e2=>t.tup _ _ (h.2 i a p e1 e2)⟩
theorem PairsAt.tf {H H':Hp} {t:Addr} {ps:List (Str×V)} (h:PairsAt H t ps) (f:TF H H'):PairsAt H' t ps:=by
 obtain ⟨o,ts,e,d,p⟩:=h
 exact ⟨o,ts,f.frz _ _ _ e,d,p.tf f⟩
theorem NodeAt.tf {K:PySem.W.Frag} {H H':Hp} {a:Addr} {n:Nd} (h:NodeAt K H a n) (f:TF H H'):NodeAt K H' a n:=by
 cases n with
 | bare=>exact SqT.tf h f
 | leaf m ps=>obtain ⟨t,e,p⟩:=h;exact ⟨t,e.tf f,p.tf f⟩
 | fork qs=>obtain ⟨t,e,p,l⟩:=h;exact ⟨t,e.tf f,p.tf f,l⟩
def Ue (K:PySem.W.Frag):Sp:=fun vs H Q _=>∃ (a:Addr) (n:Nd),vs=[.ref a]∧NodeAt K H a n∧∀ t H',Same H H'→SqT K H' t (n.parts.map fun q:Nat=>V.int (q:Int))→Q (.ref t) H'
def XV (K:PySem.W.Frag):Sp:=fun vs H Q _=>∃ (a:Addr) (n:Nd),vs=[.ref a]∧NodeAt K H a n∧∀ t H',Same H H'→PairsAt H' t n.pairs→Q (.ref t) H'
def Vi (K:PySem.W.Frag):Sp:=fun vs H Q _=>∃ (a:Addr) (n:Nd) (m:Int),vs=[.ref a,.int m]∧NodeAt K H a n∧Q (.bl (n.hasM m)) H
def WA (K:PySem.W.Frag):Sp:=fun vs H Q _=>∃ (l:Addr) (qs:List Nat),vs=[.ref l]∧H l=some (.lst (qs.map fun q:Nat=>V.int (q:Int)))∧qs.length=4∧∀ a H',Same H H'→NodeAt K H' a (.fork qs)→Q (.ref a) H'
end L2
set_option maxHeartbeats 1000000
namespace L2
open PySem
def YD:HO→Bool
 | .tup _=>false
 | .frz _ _=>false
 | .own _=>false
 | .met _ _=>false
 | .rng _ _=>false
 | .ext _=>false
 | _=>true
def WS (H h:Hp):Hp:=fun b=>match h b with
 | some o=>if YD o=true then none else H b
 | none=>H b
def one (p:Addr) (o:HO):Hp:=fun b=>if b=p then some o else none
theorem one_some {p b:Addr} {o u:HO}:one p o b=some u↔b=p∧o=u:=by
 unfold one
 by_cases h:b=p
 · rw [if_pos h];exact ⟨fun z=>⟨h,Option.some.inj z⟩,fun z=>by rw [z.2]⟩
 · rw [if_neg h];exact ⟨fun z=>(by cases z),fun z=>absurd z.1 h⟩
abbrev YL:=Addr→Hp→Prop
abbrev Rs:=List (Addr×YL)
def Sep:Rs→Hp→Prop
 | [],_=>True
 | (a,R)::Δ,H=>∃ h,Same h H∧R a h∧Sep Δ (WS H h)
theorem cut_some {H h:Hp} {b:Addr} {o:HO}:WS H h b=some o↔H b=some o∧∀ u,h b=some u→YD u=false:=by
 unfold WS
 cases e:h b with
 | none=>exact ⟨fun z=>⟨z,fun u q=>by cases q⟩,fun z=>z.1⟩
 | some v =>
   cases m:YD v with
   | true=>show (if YD v=true then none else H b)=some o↔_;rw [if_pos m];exact ⟨fun z=>(by cases z),fun z=>(by have:=z.2 v rfl;rw [m] at this;cases this)⟩
   | false=>show (if YD v=true then none else H b)=some o↔_;rw [if_neg (by rw [m];decide)];exact ⟨fun z=>⟨z,fun u q=>(by cases q;exact m)⟩,fun z=>z.1⟩
theorem ZaQ {H h:Hp}:Same (WS H h) H:=fun b o e=>(cut_some.mp e).1
theorem ZcQ {H H' h:Hp} (s:Same H H'):Same (WS H h) (WS H' h):=fun b o e=>let ⟨x,y⟩:=cut_some.mp e;cut_some.mpr ⟨s _ _ x,y⟩
theorem Sep.mono:∀ {Δ:Rs} {H H':Hp},Sep Δ H→Same H H'→Sep Δ H'
 | [],_,_,_,_=>trivial
 | (_,_)::_,_,_,⟨h,l,r,S⟩,s=>⟨h,l.trans s,r,S.mono (ZcQ s)⟩
theorem Sep.swap {a b:Addr} {R T:YL} {Δ:Rs} {H:Hp} (S:Sep ((a,R)::(b,T)::Δ) H):Sep ((b,T)::(a,R)::Δ) H:=by
 obtain ⟨h,l,r,g,m,t,S⟩:=S
 refine ⟨g,m.trans ZaQ,t,h,fun c o e=>cut_some.mpr ⟨l _ _ e,fun u q=>?_⟩,r,S.mono fun c o e=>?_⟩
 · obtain ⟨q1,q2⟩:=cut_some.mp (m _ _ q)
   have e2:=l _ _ e
   rw [q1] at e2;cases e2
   exact q2 _ e
 · obtain ⟨e1,e2⟩:=cut_some.mp e
   obtain ⟨e3,e4⟩:=cut_some.mp e1
   exact cut_some.mpr ⟨cut_some.mpr ⟨e3,e2⟩,e4⟩
theorem Sep.tail {a:Addr} {R:YL} {Δ:Rs} {H:Hp} (S:Sep ((a,R)::Δ) H):Sep Δ H:=by
 obtain ⟨h,l,r,S⟩:=S
 exact S.mono ZaQ
class Pull (a:Addr) (Δ:Rs) (R:outParam YL) (Δ':outParam Rs):Prop where
 out:∀ {H},Sep Δ H→Sep ((a,R)::Δ') H
instance (priority:=1000) Pull.here {a:Addr} {R:YL} {Δ:Rs}:Pull a ((a,R)::Δ) R Δ:=⟨fun S=>S⟩
instance (priority:=900) Pull.there {a b:Addr} {R T:YL} {Δ Δ':Rs} [P:Pull a Δ R Δ']:Pull a ((b,T)::Δ) R ((b,T)::Δ') :=
 ⟨fun S=>by
   obtain ⟨h,l,r,S⟩:=S
   exact Sep.swap ⟨h,l,r,P.out S⟩⟩
theorem Sep.pull {Δ Δ':Rs} {H:Hp} {R:YL} (S:Sep Δ H) (a:Addr) [P:Pull a Δ R Δ']:Sep ((a,R)::Δ') H:=P.out S
theorem Sep.drop {Δ Δ':Rs} {H:Hp} {R:YL} (S:Sep Δ H) (a:Addr) [P:Pull a Δ R Δ']:Sep Δ' H:=(P.out S).tail
class Up (R:YL):Prop where
 up:∀ {a:Addr} {H H':Hp},R a H→Same H H'→R a H'
theorem Sep.get {Δ Δ':Rs} {H:Hp} {R:YL} (S:Sep Δ H) (a:Addr) [P:Pull a Δ R Δ'] [U:Up R]:R a H:=by
 obtain ⟨h,l,r,_⟩:=P.out S
 exact U.up r l
def Pt (o:HO):YL:=fun a h=>h a=some o
abbrev ZI (xs:List V):YL:=Pt (.lst xs)
abbrev Dic (kv:List (Zj×V)):YL:=Pt (.dK kv)
abbrev Tup (xs:List V):YL:=Pt (.tup xs)
instance {o:HO}:Up (Pt o):=⟨fun h s=>s _ _ h⟩
theorem Sep.new {Δ:Rs} {H:Hp} (S:Sep Δ H) {p:Addr} (hp:H p=none) (o:HO):Sep ((p,Pt o)::Δ) (upd H p o):=by
 refine ⟨one p o,fun b u e=>?_,one_some.mpr ⟨rfl,rfl⟩,S.mono fun b u e=>?_⟩
 · obtain ⟨rfl,rfl⟩:=one_some.mp e;exact Zh
 · have hb:=Zt e hp
   exact cut_some.mpr ⟨by rw [Zk hb];exact e,fun v q=>absurd (one_some.mp q).1 hb⟩
theorem Sep.made {Δ:Rs} {H H':Hp} (S:Sep Δ H) (s:Same H H') {p:Addr} {o:HO} (hp:H p=none) (e:H' p=some o):Sep ((p,Pt o)::Δ) H':=by
 refine ⟨one p o,fun b u q=>?_,one_some.mpr ⟨rfl,rfl⟩,S.mono fun b u q=>?_⟩
 · obtain ⟨rfl,rfl⟩:=one_some.mp q;exact e
 · have hb:=Zt q hp
   exact cut_some.mpr ⟨s _ _ q,fun v q=>absurd (one_some.mp q).1 hb⟩
theorem Sep.put {Δ Δ':Rs} {H:Hp} {o:HO} (S:Sep Δ H) (a:Addr) (o':HO) [P:Pull a Δ (Pt o) Δ'] (m:YD o=true:=by rfl):Sep ((a,Pt o')::Δ') (upd H a o'):=by
 obtain ⟨h,l,r,S⟩:=P.out S
 refine ⟨one a o',fun b u q=>?_,one_some.mpr ⟨rfl,rfl⟩,S.mono fun b u q=>?_⟩
 · obtain ⟨rfl,rfl⟩:=one_some.mp q;exact Zh
 · obtain ⟨q1,q2⟩:=cut_some.mp q
   have hb:b≠a:=fun z=>by
     have:=q2 o (by rw [z];exact r)
     rw [m] at this;cases this
   exact cut_some.mpr ⟨by rw [Zk hb];exact q1,fun v q=>absurd (one_some.mp q).1 hb⟩
theorem Sep.say {Δ Δ':Rs} {H:Hp} {R:YL} (S:Sep Δ H) (a:Addr) (T:YL) [P:Pull a Δ R Δ'] (f:∀ h,R a h→T a h):Sep ((a,T)::Δ') H:=by
 obtain ⟨h,l,r,S⟩:=P.out S
 exact ⟨h,l,f h r,S⟩
theorem Sep.call {Δ:Rs} {H H':Hp} {a:Addr} {R T:YL} {L:List Addr} (S:Sep ((a,R)::Δ) H) (k:∀ b o,b ∉ L→H b=some o→H' b=some o)
   (f:∀ h,Same h H→R a h→(∀ b∈L,∃ o,h b=some o∧YD o=true)∧∃ h',Same h' H'∧T a h'∧∀ b o,h' b=some o→YD o=true→b∈L∨H b=none∨∃ u,h b=some u∧YD u=true):Sep ((a,T)::Δ) H':=by
 obtain ⟨h,l,r,S⟩:=S
 obtain ⟨f1,h',l',t,f2⟩:=f h l r
 refine ⟨h',l',t,S.mono fun b o e=>?_⟩
 obtain ⟨e1,e2⟩:=cut_some.mp e
 have hb:b ∉ L:=fun z=>by
   obtain ⟨u,q1,q2⟩:=f1 b z
   rw [e2 u q1] at q2;cases q2
 refine cut_some.mpr ⟨k b o hb e1,fun u q=>?_⟩
 cases m:YD u with
 | false=>rfl
 | true =>
   rcases f2 b u q m with z | z | ⟨v,z1,z2⟩
   · exact absurd z hb
   · rw [e1] at z;cases z
   · rw [e2 v z1] at z2;cases z2
abbrev Bx (n:Nat):YL:=fun a h=>BoxAt h a n
instance {n:Nat}:Up (Bx n):=⟨fun h s=>h.same s⟩
theorem Sep.box {Δ:Rs} {H H':Hp} {p:Addr} {n m:Nat} (S:Sep ((p,Bx n)::Δ) H) (k:Kp p H H') (B:BoxAt H' p m):Sep ((p,Bx m)::Δ) H':=by
 refine S.call (L:=[p]) (fun b o nb e=>k b o (fun z=>nb (by simp [z])) e) fun h l r=>⟨fun b hb=>?_,?_⟩
 · rw [List.mem_singleton.mp hb]
   obtain ⟨x,y,z,e,_⟩:=r
   exact ⟨_,e,rfl⟩
 · obtain ⟨x,y,z,e,w⟩:=B
   refine ⟨one p (.lst [.int x,.int y,.int z]),fun b u q=>?_,⟨x,y,z,one_some.mpr ⟨rfl,rfl⟩,w⟩,fun b o q _=>.inl (by simp [(one_some.mp q).1])⟩
   obtain ⟨rfl,rfl⟩:=one_some.mp q;exact e
def Zem (M:Int):Sp:=fun vs H Q _=>∃ (p:Addr) (n:Nat) (m:Int) (Δ:Rs),vs=[.ref p,.int m]∧Sep ((p,Bx n)::Δ) H∧n≤1000000∧0 < m∧m < M∧∀ (r:Int) (H':Hp),0≤r→r < m→Sep ((p,Bx (n+1))::Δ) H'→Q (.int r) H'
theorem ZkF {M:Int} {vs:List V} {H:Hp} {Q:VK} {E:XK} (h:Zem M vs H Q E):ZaG M vs H Q E:=by
 obtain ⟨p,n,m,Δ,e,S,h1,h2,h3,q⟩:=h
 exact ⟨p,n,m,e,S.get p,h1,h2,h3,fun r H' a b B k=>q r H' a b (S.box k B)⟩
end L2
namespace L2
open PySem
theorem Zew {x:V} {u:Value} (h:ZeP u=some x):RelV x u:=by
 cases u <;> first | (cases h;exact rfl) | (cases h;exact ⟨_,rfl⟩) | cases h
theorem Vz:∀ {xs:List V} {us:List Value},us.map ZeP=xs.map some→Vals xs us
 | [],[],_=>.nil
 | [],_::_,h=>by cases h
 | _::_,[],h=>by cases h
 | x::xs,u::us,h=>by
   rw [List.map_cons,List.map_cons,List.cons.injEq] at h
   exact .cons (Zew h.1) (Vz h.2)
def ZbY (K:PySem.W.Frag) (a:Addr) (vs:List V):Bool:=match K.lookup a with
 | some ⟨.type "tuple",_,.seq its _,_⟩=>decide (its.size≤100000) && decide (its.toList.map ZeP=vs.map some)
 | _=>false
theorem Zcm {K:PySem.W.Frag} {a:Addr} {vs:List V} (h:ZbY K a vs=true) (H:Hp):SqT K H a vs:=by
 unfold ZbY at h
 split at h
 · rename_i its n _ hk
   simp only [Bool.and_eq_true,decide_eq_true_eq] at h
   exact .inr ⟨_,its,n,hk,rfl,rfl,Nat.le_trans h.1 (by decide),Vz h.2⟩
 · cases h
end L2
set_option maxHeartbeats 2000000
namespace L2
open PySem
def ZaC (J:It) (tc:TT) (te:TE) (σ:St) (D:Addr) (Q:VK) (H1:Hp):Prop :=
 ∃ W : Nat→Nat→List V→Hp→Prop,(∃ m,W 0 m [] (upd H1 D (.lst [])))∧∀ i m ys H2,W i m ys H2 →
   (J.stop i H2∧Q (.ref D) H2)∨(J.go i H2∧∃ (N:VK) (M:Hp→Prop),(∀ y H4,N y H4→H4 D=some (.lst ys)∧ys.length < sizeLine∧∃ m',m' < m∧W (i+1) m' (ys++[y]) (upd H4 D (.lst (ys++[y]))))∧(∀ H4,M H4→∃ m',m' < m∧W (i+1) m' ys H4) ∧
     ∀ v H3,J.yld i H2 v H3→tc (σ++[some v]) H3 fun b H4=>if b=true then te (σ++[some v]) H4 N else M H4)
def Zlw (wi:TI) (tc:TT) (te:TE):TE:=fun σ H Q=>wi σ H fun J H1=>∀ D,H1 D=none→ZaC J tc te σ D Q H1
section
variable {X:Cx} {elt iter cnd:Expr} {x:Str} {px pos:Pos} {scope:Scope} {wi:TI} {te:TE} {tc:TT}
theorem XN {prog:Program} {w:World} {A:Around} {R:Result→Shared→Prop} {s:Shared} {elt target iter cnd:Expr} {scope:Scope} {pos:Pos} {it acc:Value} {env:Env} (I:Nat→Shared→Prop)
   (turn : ∀ n s,I n s→wpAny (model prog w) A (pyNext it) (fun r s₁=>match r with
     | none=>R (.ok .next) s₁
     | some v=>wpAny (model prog w) A (letOwnedTupleGo target it v) (fun _ s1'=>wpAny (model prog w) A (assign target env v) (fun _ s₂=>wpAny (model prog w) A (isTrue cnd env (eval cnd env)) (fun ok s2'=>if ok=true then wpAny (model prog w) A (eval elt env) (fun x s₃ =>
         wpAny (model prog w) A (call (.builtin "list.append") [acc,x]) (fun _ s₄=>∃ m,m < n∧I m s₄) (fun _ _=>False) s₃)
         (fun _ _=>False) s2' else ∃ m,m < n∧I m s2') (fun _ _=>False) s₂) (fun _ _=>False) s1') (fun _ _=>False) s₁) (fun _ _=>False) s)
   (n:Nat) (h:I n s) :
   codeAny (model prog w) A (.compLoop (.ListComp elt [⟨target,iter,[cnd],0⟩] scope pos) 0 it acc env) R s:=by
 refine codeAny_loop rfl I (fun n s hI=>?_) n h
 show wpAny _ _ ((compTurn (.ListComp elt [⟨target,iter,[cnd],0⟩] scope pos) 0 it acc env).onRaise (fun x=>do noteFrame x env;theTreesLotGoes x)) _ _ s
 refine wpAny_noted ?_
 rw [compTurn_list]
 refine wpAny_bind (wpAny_standAt (wpAny_bind (wpAny_mono (turn n s hI) (fun r s₁ h₁=>?_) fun _ _ h'=>h'.elim)))
 cases r with
 | none=>exact wpAny_pure h₁
 | some v =>
   refine wpAny_bind (wpAny_mono h₁ (fun _ s1' h1'=>?_) fun _ _ h'=>h'.elim)
   refine wpAny_bind (wpAny_mono h1' (fun _ s₂ h₂=>wpAny_bind (wpAny_tests_one (wpAny_mono h₂ (fun ok s₃ h₃=>?_) fun _ _ h'=>h'.elim))) fun _ _ h'=>h'.elim)
   cases ok with
   | false=>exact wpAny_pure ⟨rfl,h₃⟩
   | true =>
     exact wpAny_bind (wpAny_bind (wpAny_mono h₃ (fun x s₄ h₄=>wpAny_bind (wpAny_mono h₄ (fun _ s₅ h₅=>wpAny_pure (wpAny_pure ⟨rfl,h₅⟩)) fun _ _ h'=>h'.elim)) fun _ _ h'=>h'.elim))
theorem Zdo {pins:List (Addr×Obj)} {σ:St} {H2:Hp} {s₂:Shared} {J:It} {fp:List Addr} {it:Addr} {tn:Nat→Heap→Prop} {cl:List (Str×Addr)} {E:Value→Shared→Prop} {Q:VK} {RR:Value→Addr→Result→Shared→Prop}
   (O:CompOk X scope x) (hc:X.calm=true) (cl1:∀ y c,cl.lookup y=some c→X.env.cells.lookup y=some c) (cl2:∀ y∈scope.names,y.2=.free→cl.lookup y.1≠none)
   (hcn:∀ cl C s₀ H₀ fp,PT (ZY X scope x cl C s₀ H₀ fp) cnd tc) (he:∀ cl C s₀ H₀ fp,PE (ZY X scope x cl C s₀ H₀ fp) elt te)
   (I2:Inv X pins σ H2 s₂) (T:Wz X.prog X.w X.K (.Name x px) J fp it tn) (st:tn 0 s₂.heap) (f2:∀ b∈fp,Yo X pins H2 b)
   (h:∀ D,H2 D=none→ZaC J tc te σ D Q H2)
   (hRR:∀ D C H' s',Inv X pins σ H' s'→Yo X pins H' C→(∃ m,s'.heap.Ns C m)→Q (.ref D) H'→RR (.ref D) C (.ok .next) s') :
   wpAny (model X.prog X.w) X.A (newList []) (fun acc s₃=>wpAny (model X.prog X.w) X.A (newFunctionEnv scope X.env.globals cl [] X.env.qual none .none (some X.env)) (fun cenv s₄ =>
     codeAny (model X.prog X.w) X.A (.compStart (.ListComp elt [⟨.Name x px,iter,[cnd],0⟩] scope pos) 0 (.ref it) acc { cenv with scope:=relabel scope X.env }) (RR acc cenv.locals) s₄) E s₃) E s₂:=by
 have hD:H2 s₂.heap.objs.size=none:=I2.hok.fresh (Nat.le_refl _)
 refine wpAny_newObj_type ?_
 have I3:Inv X pins σ (upd H2 s₂.heap.objs.size (.lst [])) { s₂ with heap:=s₂.heap.push { cls:=.type "list",data:=.seq ([]:List Value).toArray } } :=
   I2.laid (t':=s₂.toks) (fun b u e=>Heap.get?_push_of_some _ e) (Nat.le_refl _) ⟨Nat.zero_le _,[],_,.nil,Heap.get?_push_size _ rfl⟩
 have f3:∀ b∈fp,Yo X pins (upd H2 s₂.heap.objs.size (.lst [])) b:=fun b hb=>by
   obtain ⟨g0,g1⟩:=f2 b hb
   obtain ⟨o,e,_⟩:=T.obj 0 _ st b hb
   exact ⟨by rw [Zk (Nat.ne_of_lt (Heap.lt_size e))];exact g0,g1⟩
 have st3:tn 0 (s₂.heap.push { cls:=.type "list",data:=.seq ([]:List Value).toArray }):=T.keep _ _ _ st fun b hb o e=>Heap.get?_push_of_some _ e
 obtain ⟨W,⟨m0,w0⟩,turn⟩:=h _ hD
 generalize hDe:s₂.heap.objs.size=D at I3 f3 w0 turn ⊢
 generalize hH3:upd H2 D (.lst [])=H3 at I3 f3 w0 turn ⊢
 generalize hs3:({ s₂ with heap:=s₂.heap.push { cls:=.type "list",data:=.seq ([]:List Value).toArray } }:Shared)=s₃ at I3
 have st3':tn 0 s₃.heap:=by rw [← hs3];exact st3
 have hobj:∀ b∈fp,b < s₃.heap.objs.size:=fun b hb=>by
   obtain ⟨o,e,_⟩:=T.obj 0 _ st3' b hb
   exact Heap.lt_size e
 refine wpAny_newFunctionEnv O.cell (by intro y hy;simp at hy) (fun h₁ hns₁ hsb₁=>?_) O.kind
 have old:∀ b o,s₃.heap.get? b=some o→h₁.get? b=some o:=fun b o e=>hsb₁.extBut b o (Nat.ne_of_lt (Heap.lt_size e)) (Heap.get?_push_of_some _ e)
 generalize hs4:({ s₃ with heap:=h₁,toks:=s₃.toks+([]:List (Str×Value)).length }:Shared)=s₄
 have h4:s₄.heap=h₁:=by rw [← hs4]
 have hX:∀ C,Yo X pins C s₃.heap.objs.size→True:=fun _ _=>trivial
 have ok':(ZY X scope x cl s₃.heap.objs.size s₃ H3 fp).Ok:=by
   refine ⟨I3.ok.mod,O.kind,I3.ok.glob,I3.ok.blt,Nat.le_refl _,?_,?_,?_,I3.ok.hd,I3.ok.frames,.inl rfl,?_,I3.bs,Nat.le_trans I3.ok.bsz I3.sz,?_,?_,I3.stack,I3.stkFree⟩
   · exact fun y z c e1 e2=>I3.ok.inj y z c (cl1 y c e1) (cl1 z c e2)
   · intro y hk
     have hf:scope.names.lookup y=some .free:=by
       rcases hk with hk | hk
       · rcases Zq O.cell hk with q | q
         · exact absurd rfl (O.cell _ (mem_of_lookup q))
         · exact q.1
       · rcases Zq O.cell hk with q | q
         · exact q
         · cases q.2
     have:=cl2 _ (mem_of_lookup hf) rfl
     cases e:cl.lookup y with
     | none=>exact absurd e this
     | some c=>exact ⟨c,e⟩
   · intro y c hf;cases hf
   · intro b hb
     obtain ⟨g0,g1,g2,g3,g4,g5⟩:=f3 b hb
     exact ⟨Nat.ne_of_lt (hobj b hb),fun y c e=>g4 y c (cl1 y c e)⟩
   · intro b o e hb
     obtain ⟨g0,g1,g2,g3,g4,g5⟩:=f3 b hb
     rcases g3 with g3 | g3
     · exact I3.ok.noex b o e g3
     · exact absurd (Heap.lt_size e) (Nat.not_lt.mpr (Nat.le_trans I3.ok.bsz g3))
   · intro b hb hs
     obtain ⟨g0,g1,g2,g3,g4,g5⟩:=f3 b hb
     rcases List.mem_cons.mp (I3.stkSub b hs) with e | e
     · exact g1 e
     · exact g2 e
 have I4 : Inv (ZY X scope x cl s₃.heap.objs.size s₃ H3 fp) [] (σ++[none]) H3 s₄:=by
   obtain ⟨m,hm,hl⟩:=I3.loc
   refine ⟨ok',by rw [← hs4];rfl,by rw [← hs4];exact I3.bare,by rw [h4];exact Un.kept old,⟨_,by rw [h4];exact hns₁,?_⟩,?_,I3.hok.fresh (Nat.le_refl _),fun y c e=>I3.freeC y c (cl1 y c e),?_,by rw [h4];exact I3.hok.kept old,?_⟩
   · intro i y v e1 e2 e3
     have hlt:i < σ.length:=by
       rcases Nat.lt_or_ge i σ.length with z | z
       · exact z
       · rw [List.getElem?_append_right z] at e2
         cases e:i - σ.length with
         | zero=>rw [e] at e2;simp at e2
         | succ k=>rw [e] at e2;simp at e2
     rw [List.getElem?_append_left hlt] at e2
     have hsm:∃ k,scope.names.lookup y=some k:=by
       rcases e3 with hk | hk | hk
       · rcases Zq O.cell hk with q | q
         · exact ⟨_,q⟩
         · exact ⟨_,q.1⟩
       · rcases Zq O.cell hk with q | q
         · exact ⟨_,q⟩
         · exact ⟨_,q.1⟩
       · rcases Zq O.cell hk with q | q
         · exact ⟨_,q⟩
         · exact ⟨_,q.1⟩
     obtain ⟨e1',hyx⟩:X.N[i]?=some y∧y≠x:=by
       have e1:(WM X.N x++[x])[i]?=some y:=e1
       rw [List.getElem?_append_left (by rw [XH,← I3.len];exact hlt)] at e1
       rcases Vr e1 with z | z
       · exact z
       · obtain ⟨k,hk⟩:=hsm
         rw [z,O.noh] at hk;cases hk
     have hy:y∈X.N:=List.mem_of_getElem? e1'
     have hf:scope.names.lookup y=some .free:=by
       rcases e3 with hk | hk | hk
       · rcases Zq O.cell hk with q | q
         · exact absurd q (O.own y hy hyx)
         · exact q.1
       · rcases Zq O.cell hk with q | q
         · exact absurd rfl (O.cell _ (mem_of_lookup q))
         · exact q.1
       · rcases Zq O.cell hk with q | q
         · exact q
         · exact q.1
     have hk:=O.clos _ (mem_of_lookup hf) rfl
     have hv:Vis X.env.scope y:=by rcases hk with z | z;exact .inr (.inl z);exact .inr (.inr z)
     obtain ⟨u,ru,lu⟩:=hl i y v e1' e2 hv
     refine ⟨u,ru,?_⟩
     have hkc:(compEnvC scope cl s₃.heap.objs.size X.env).kindOf y=some .cell∨(compEnvC scope cl s₃.heap.objs.size X.env).kindOf y=some .free:=by
       rcases e3 with q | q | q
       · rcases Zq O.cell q with z | z
         · exact absurd z (O.own y hy hyx)
         · cases z.2
       · exact .inl q
       · exact .inr q
     rcases lu with ⟨q,_⟩ | ⟨_,c,hcl,hcc⟩
     · rcases hk with z | z <;> (rw [q] at z;cases z)
     · refine .inr ⟨hkc,?_⟩
       cases e:cl.lookup y with
       | none=>exact absurd e (cl2 _ (mem_of_lookup hf) rfl)
       | some c' =>
         have:=cl1 y c' e
         rw [hcl] at this
         cases this
         refine ⟨c,e,?_⟩
         rw [h4]
         obtain ⟨oc,ho,hd⟩:=hcc
         exact ⟨oc,old _ _ ho,hd⟩
   · intro y c e
     obtain ⟨v,oc,ho,hd⟩:=I3.cell y c (cl1 y c e)
     exact ⟨v,oc,by rw [h4];exact old _ _ ho,hd⟩
   · intro p hp;cases hp
   · show (σ++[none]).length=(WM X.N x++[x]).length
     rw [List.length_append,List.length_append,XH,I3.len];rfl
 have st4:tn 0 s₄.heap:=by rw [h4];exact T.keep _ _ _ st3' fun b hb o e=>old b o e
 have fpok:∀ {H':Hp},(∀ b∈fp,H' b=none)→∀ b∈fp,Yo (ZY X scope x cl s₃.heap.objs.size s₃ H3 fp) [] H' b:=fun hn b hb=>by
   obtain ⟨g0,g1,g2,g3,g4,g5⟩:=f3 b hb
   refine ⟨hn b hb,Nat.ne_of_lt (hobj b hb),ok'.exfs b hb,.inl hb,fun y c e=>g4 y c (cl1 y c e),?_⟩
   intro p hp;cases hp
 have loop:codeAny (model X.prog X.w) X.A (.compLoop (.ListComp elt [⟨.Name x px,iter,[cnd],0⟩] scope pos) 0 (.ref it) (.ref D) (compEnvC scope cl s₃.heap.objs.size X.env)) (RR (.ref D) s₃.heap.objs.size) s₄:=by
   refine XN (fun n s'=>∃ i ys w' H',Inv (ZY X scope x cl s₃.heap.objs.size s₃ H3 fp) [] (σ++[w']) H' s'∧tn i s'.heap∧(∀ b∈fp,H' b=none)∧W i n ys H') ?_ m0 ⟨0,[],none,H3,I4,st4,fun b hb=>(f3 b hb).1,w0⟩
   rintro n s5 ⟨i,ys,w',H5,I5,st5,fr5,w5⟩
   rcases turn i n ys H5 w5 with ⟨stop,q⟩ | ⟨go,N,M,hN,hM,step⟩
   · refine Zm (T.done (ZY X scope x cl s₃.heap.objs.size s₃ H3 fp) rfl rfl rfl hc i [] s5 _ H5 _ I5 (fpok fr5) st5 stop) fun r s6 ⟨hr,I6⟩=>?_
     subst hr
     obtain ⟨m6,hn6,_⟩:=I6.loc
     have IX:Inv X pins σ H5 s6:=I3.call' (ch:=fp) I6.os I6.base I6.hok I6.bare fun b hb=>by
       obtain ⟨g0,g1,g2,g3,g4,g5⟩:=f3 b hb
       exact ⟨g3,g1,g4,g5⟩
     exact hRR D _ H5 s6 IX (I3.fpOk (Nat.le_refl _) I6.free) ⟨m6,hn6⟩ q
   · refine Zm (T.item (ZY X scope x cl s₃.heap.objs.size s₃ H3 fp) rfl rfl rfl hc i [] s5 _ H5 _ I5 (fpok fr5) st5 go) fun r s6 ⟨u,hr,h6⟩=>?_
     subst hr
     refine Zm h6 fun _ s7 ⟨v,H7,I7,r7,y7,st7,fr7⟩=>?_
     have I7':=I7.pinned (fpok fr7) (T.obj _ _ st7)
     have hixN:(ZY X scope x cl s₃.heap.objs.size s₃ H3 fp).N[σ.length]?=some x:=by
       show (WM X.N x++[x])[σ.length]?=some x
       rw [I3.len,← XH X.N x];simp
     refine Zm (ZN (X:=ZY X scope x cl s₃.heap.objs.size s₃ H3 fp) (pos:=px) O.nd hixN (.inl (lookup_relabel_local O.loc)) (.inr (lookup_relabel_local O.loc)) _ s7 _ H7 v u (fun σ' H'=>σ'=σ++[some v]∧H'=H7) I7' r7 ⟨by simp,rfl⟩) fun _ s8 ⟨σ8,H8,I8,e8,e8'⟩=>?_
     subst e8 e8'
     refine Zm (hcn cl s₃.heap.objs.size s₃ H3 fp _ s8 _ H8 _ I8 (step v H8 y7)) fun bb s8b ⟨H8b,I8b,q8b⟩=>?_
     cases bb with
     | false =>
       obtain ⟨m',hm',w9⟩:=hM H8b q8b
       refine ⟨m',hm',i+1,ys,some v,_,I8b.unpinned (pins:=[]),T.keep _ _ _ st7 fun b hb o e=>(I8b.pin (b,o) (List.mem_append_right _ (List.mem_append_right _ (Yb hb e)))).1,fun b hb=>?_,w9⟩
       obtain ⟨o,e,d⟩:=T.obj _ _ st7 b hb
       exact (I8b.pin (b,o) (List.mem_append_right _ (List.mem_append_right _ (Yb hb e)))).2.1
     | true =>
       refine Zm (he cl s₃.heap.objs.size s₃ H3 fp _ s8b _ H8b _ I8b q8b) fun uy s9 ⟨y,H9,I9,r9,n9⟩=>?_
       obtain ⟨hl9,hz9,m',hm',w9⟩:=hN y H9 n9
       refine Zm (Yt (X:=ZY X scope x cl s₃.heap.objs.size s₃ H3 fp) _ s9 _ H9 (.ref D) [y] (.ref D) [uy] (fun v H'=>H'=upd H9 D (.lst (ys++[y]))) I9 rfl (.cons r9 .nil) ⟨D,ys,y,rfl,rfl,hl9,hz9,rfl⟩) fun _ s10 ⟨_,H10,I10,_,e10⟩=>?_
       subst e10
       refine ⟨m',hm',i+1,ys++[y],some v,_,I10.unpinned (pins:=[]),T.keep _ _ _ st7 fun b hb o e=>(I10.pin (b,o) (List.mem_append_right _ (List.mem_append_right _ (Yb hb e)))).1,fun b hb=>?_,w9⟩
       obtain ⟨o,e,d⟩:=T.obj _ _ st7 b hb
       exact (I10.pin (b,o) (List.mem_append_right _ (List.mem_append_right _ (Yb hb e)))).2.1
 exact codeAny_compStart_list loop (T.self _ 0 _ _ _ st4 loop)
theorem WW {i:Nat} {y:Str} {py spos:Pos} (O:CompOk X scope x) (hc:X.calm=true) (hN:X.N.Nodup) (hiN:X.N[i]?=some y) (hy:Loc X.env.scope y) (hi:PI X (.Name x px) iter wi) (hcn:∀ cl C s₀ H₀ fp,PT (ZY X scope x cl C s₀ H₀ fp) cnd tc) (he:∀ cl C s₀ H₀ fp,PE (ZY X scope x cl C s₀ H₀ fp) elt te)
   (hsw:swapsWith (.ListComp elt [⟨.Name x px,iter,[cnd],0⟩] scope pos) (some (.Name y py)) spos.line X.env=pure true) (hf:X.fn y=true∨X.env.scope.names.lookup y=some .local:=by first | exact .inl rfl | exact .inr rfl | assumption)
   (hs:∀ v,foldedSetIterable iter X.env v=pure v:=by intro _;rfl):PS X (.Assign [.Name y py] (.ListComp elt [⟨.Name x px,iter,[cnd],0⟩] scope pos) spos) (ZhI (Zlw wi tc te) (Zey i)):=by
 intro pins s σ H D I h
 obtain ⟨cl,hcl,cl1,cl2⟩:=Wq (scope:=scope) (env:=X.env) fun y hy hf=>I.ok.has _ (O.clos y hy hf)
 rw [exec_Assign_Name_used _ _ _ _ hsw]
 refine wpAny_bind (wpAny_standAt (wpAny_bind ?_))
 show wpAny _ X.A (do let _ ← comprehension (.ListComp elt [⟨.Name x px,iter,[cnd],0⟩] scope pos) scope X.env _ (newList []) false (eval iter X.env) (some (assign (.Name y py) X.env))) _ _ s
 refine wpAny_bind (wpAny_mono (wpAny_comprehension_free (use:=some (assign (.Name y py) X.env)) (Q:=fun _ s'=>SP X pins D .next s') rfl hs hcl O.kind O.names
   (Zm (hi pins s σ H _ I h) fun v s1 h1=>Zm h1 fun itv s2 h2=>?_)) (fun _ s' hq=>wpAny_pure (wpAny_pure hq)) fun _ _ e=>e)
 obtain ⟨it,fp,tn,J,H2,e,I2,T,st2,f2,q⟩:=h2
 subst e
 refine Zdo (RR:=fun acc C=>compPost (model X.prog X.w) X.A X.xe (some (assign (.Name y py) X.env)) (fun _ s'=>SP X pins D .next s') acc C) O hc cl1 cl2 hcn he I2 T st2 f2 q ?_
 intro Dl C H' s' I' ⟨g0,g1,g2,g3,g4,g5⟩ ⟨m,hm⟩ hq
 show wpAny _ X.A (assign (.Name y py) X.env (.ref Dl)) _ _ _
 refine wpAny_assign_Name (Zby I' hN hiN hy (v:=.ref Dl) rfl (fun s'' I'' ⟨a,sb,ha⟩=>?_) hf)
 have haC:C≠a:=by
   rcases ha with z | z
   · rw [z];exact g1
   · exact fun z'=>g4 y a z z'.symm
 exact ⟨m,hm.sameBut sb haC,fun h' hs'=>⟨_,H',I''.turned (t':=s''.toks) (fun b o hb e=>(hs'.2 b hb).trans e) g0 g1 g3 g4 g5,hq⟩⟩
end
theorem Zgj {K:PySem.W.Frag} {a:Addr} {xs:List V} {tc:TT} {te:TE} {σ:St} {D:Addr} {Q:VK} {H:Hp} (hn:xs.length≤sizeLine) (Pv:Nat→List V→Hp→Prop) (h0:Pv 0 [] (upd H D (.lst [])))
   (hl:∀ i ys H,Pv i ys H→ys.length≤i∧SqT K H a xs)
   (hs:∀ i x ys H,xs[i]?=some x→Pv i ys H→tc (σ++[some x]) H fun b H3=>if b=true then te (σ++[some x]) H3 fun y H4=>H4 D=some (.lst ys)∧Pv (i+1) (ys++[y]) (upd H4 D (.lst (ys++[y]))) else Pv (i+1) ys H3) (hd:∀ ys H,Pv xs.length ys H→Q (.ref D) H):ZaC (Itt K a) tc te σ D Q H:=by
 refine ⟨fun i m ys H=>m=xs.length - i∧i≤xs.length∧Pv i ys H,⟨xs.length,by simp,Nat.zero_le _,h0⟩,?_⟩
 rintro i m ys H2 ⟨rfl,hi,p⟩
 obtain ⟨hlen,q⟩:=hl i ys _ p
 by_cases hlt:i < xs.length
 · refine .inr ⟨⟨xs,xs[i],q,by simp [hlt]⟩,_,_,fun y H4 (q:H4 D=some (.lst ys)∧Pv (i+1) (ys++[y]) (upd H4 D (.lst (ys++[y]))))=>⟨q.1,by omega,xs.length - (i+1),by omega,rfl,hlt,q.2⟩,fun H4 (q:Pv (i+1) ys H4)=>⟨xs.length - (i+1),by omega,rfl,hlt,q⟩,fun v H3 y=>?_⟩
   obtain ⟨e,y⟩:=y
   subst e
   exact hs i v ys _ (y xs q) p
 · have e:i=xs.length:=by omega
   subst e
   exact .inl ⟨⟨xs,q,Nat.le_refl _⟩,hd ys H2 p⟩
theorem ZeW {K:PySem.W.Frag} {a:Addr} {xs:List V} {tc:TT} {te:TE} {σ:St} {D:Addr} {Q:VK} {H:Hp} (hn:xs.length≤sizeLine) (Pv:Nat→List V→Hp→Prop) (h0:Pv 0 [] (upd H D (.lst [])))
   (hl:∀ i ys H,Pv i ys H→ys.length≤i∧SqL K H a xs)
   (hs:∀ i x ys H,xs[i]?=some x→Pv i ys H→tc (σ++[some x]) H fun b H3=>if b=true then te (σ++[some x]) H3 fun y H4=>H4 D=some (.lst ys)∧Pv (i+1) (ys++[y]) (upd H4 D (.lst (ys++[y]))) else Pv (i+1) ys H3) (hd:∀ ys H,Pv xs.length ys H→Q (.ref D) H):ZaC (Itl K a) tc te σ D Q H:=by
 refine ⟨fun i m ys H=>m=xs.length - i∧i≤xs.length∧Pv i ys H,⟨xs.length,by simp,Nat.zero_le _,h0⟩,?_⟩
 rintro i m ys H2 ⟨rfl,hi,p⟩
 obtain ⟨hlen,q⟩:=hl i ys _ p
 by_cases hlt:i < xs.length
 · refine .inr ⟨⟨xs,xs[i],q,by simp [hlt]⟩,_,_,fun y H4 (q:H4 D=some (.lst ys)∧Pv (i+1) (ys++[y]) (upd H4 D (.lst (ys++[y]))))=>⟨q.1,by omega,xs.length - (i+1),by omega,rfl,hlt,q.2⟩,fun H4 (q:Pv (i+1) ys H4)=>⟨xs.length - (i+1),by omega,rfl,hlt,q⟩,fun v H3 y=>?_⟩
   obtain ⟨e,y⟩:=y
   subst e
   exact hs i v ys _ (y xs q) p
 · have e:i=xs.length:=by omega
   subst e
   exact .inl ⟨⟨xs,q,Nat.le_refl _⟩,hd ys H2 p⟩
end L2
set_option maxHeartbeats 2000000
namespace L2
open PySem PySem.Spec PyProof.Rows
def XQ (N:List Str) (xa xb:Str):List Str:=WM (WM N xa) xb
theorem Uw (N:List Str) (xa xb:Str):(XQ N xa xb).length=N.length:=by unfold XQ;rw [XH,XH]
theorem Zcy {N:List Str} {xa xb y:Str} {i:Nat} (h:(XQ N xa xb)[i]?=some y):(N[i]?=some y∧¬ (y=xa∨y=xb))∨y="":=by
 rcases Vr h with ⟨h1,h2⟩ | h1
 · rcases Vr h1 with ⟨h3,h4⟩ | h3
   · exact .inl ⟨h3,fun z=>z.elim h4 h2⟩
   · exact .inr h3
 · exact .inr h1
def ZR (X:Cx) (scope:Scope) (xa xb:Str) (cl:List (Str×Addr)) (C:Addr) (s₀:Shared) (H₀:Hp) (fp:List Addr):Cx:={ ZY X scope xa cl C s₀ H₀ fp with N:=XQ X.N xa xb++[xa,xb] }
structure CompOkT (X:Cx) (scope:Scope) (xa xb:Str):Prop where
 nd:(XQ X.N xa xb++[xa,xb]).Nodup
 clos:∀ y∈scope.names,y.2=.free→X.env.kindOf y.1=some .cell∨X.env.kindOf y.1=some .free
 cell:∀ y∈scope.names,y.2≠.cell
 kind:scope.kind=.function
 names:∀ y∈scope.names,y.2=.local→scope.names.lookup y.1=some .local
 own:∀ y∈X.N,¬ (y=xa∨y=xb)→scope.names.lookup y≠some .local
 noh:scope.names.lookup ("":Str)=none
def Zfd (J:It) (g:TG) (te:TE) (σ:St) (D:Addr) (Q:VK) (H1:Hp):Prop :=
 ∃ W:Nat→Nat→List V→Hp→Prop,(∃ m,W 0 m [] (upd H1 D (.lst [])))∧∀ i m ys H2,W i m ys H2 →
   (J.stop i H2∧Q (.ref D) H2)∨(J.go i H2∧∃ N:VK,(∀ y H4,N y H4→H4 D=some (.lst ys)∧ys.length < sizeLine∧∃ m',m' < m∧W (i+1) m' (ys++[y]) (upd H4 D (.lst (ys++[y]))))∧∀ wa wb v H3,J.yld i H2 v H3→g v (σ++[wa,wb]) H3 fun σ' H'=>(∃ wa wb,σ'=σ++[wa,wb])∧te σ' H' N)
def ZlP (wi:TI) (g:TG) (te:TE):TE:=fun σ H Q=>wi σ H fun J H1=>∀ D,H1 D=none→Zfd J g te σ D Q H1
section
variable {X:Cx} {elt iter tg:Expr} {xa xb:Str} {pos:Pos} {scope:Scope} {wi:TI} {te:TE} {g:TG}
theorem Zdn {pins:List (Addr×Obj)} {σ:St} {H2:Hp} {s₂:Shared} {J:It} {fp:List Addr} {it:Addr} {tn:Nat→Heap→Prop} {cl:List (Str×Addr)} {E:Value→Shared→Prop} {Q:VK} {RR:Value→Addr→Result→Shared→Prop}
   (O:CompOkT X scope xa xb) (hc:X.calm=true) (cl1:∀ y c,cl.lookup y=some c→X.env.cells.lookup y=some c) (cl2:∀ y∈scope.names,y.2=.free→cl.lookup y.1≠none)
   (hg:∀ cl C s₀ H₀ fp,PG (ZR X scope xa xb cl C s₀ H₀ fp) tg g) (he:∀ cl C s₀ H₀ fp,PE (ZR X scope xa xb cl C s₀ H₀ fp) elt te)
   (I2:Inv X pins σ H2 s₂) (T:Wz X.prog X.w X.K tg J fp it tn) (st:tn 0 s₂.heap) (f2:∀ b∈fp,Yo X pins H2 b)
   (h:∀ D,H2 D=none→Zfd J g te σ D Q H2)
   (hRR:∀ D C H' s',Inv X pins σ H' s'→Yo X pins H' C→(∃ m,s'.heap.Ns C m)→Q (.ref D) H'→RR (.ref D) C (.ok .next) s') :
   wpAny (model X.prog X.w) X.A (newList []) (fun acc s₃=>wpAny (model X.prog X.w) X.A (newFunctionEnv scope X.env.globals cl [] X.env.qual none .none (some X.env)) (fun cenv s₄ =>
     codeAny (model X.prog X.w) X.A (.compStart (.ListComp elt [⟨tg,iter,[],0⟩] scope pos) 0 (.ref it) acc { cenv with scope:=relabel scope X.env }) (RR acc cenv.locals) s₄) E s₃) E s₂:=by
 have hD:H2 s₂.heap.objs.size=none:=I2.hok.fresh (Nat.le_refl _)
 refine wpAny_newObj_type ?_
 have I3:Inv X pins σ (upd H2 s₂.heap.objs.size (.lst [])) { s₂ with heap:=s₂.heap.push { cls:=.type "list",data:=.seq ([]:List Value).toArray } } :=
   I2.laid (t':=s₂.toks) (fun b u e=>Heap.get?_push_of_some _ e) (Nat.le_refl _) ⟨Nat.zero_le _,[],_,.nil,Heap.get?_push_size _ rfl⟩
 have f3:∀ b∈fp,Yo X pins (upd H2 s₂.heap.objs.size (.lst [])) b:=fun b hb=>by
   obtain ⟨g0,g1⟩:=f2 b hb
   obtain ⟨o,e,_⟩:=T.obj 0 _ st b hb
   exact ⟨by rw [Zk (Nat.ne_of_lt (Heap.lt_size e))];exact g0,g1⟩
 have st3:tn 0 (s₂.heap.push { cls:=.type "list",data:=.seq ([]:List Value).toArray }):=T.keep _ _ _ st fun b hb o e=>Heap.get?_push_of_some _ e
 obtain ⟨W,⟨m0,w0⟩,turn⟩:=h _ hD
 generalize hDe:s₂.heap.objs.size=D at I3 f3 w0 turn ⊢
 generalize hH3:upd H2 D (.lst [])=H3 at I3 f3 w0 turn ⊢
 generalize hs3:({ s₂ with heap:=s₂.heap.push { cls:=.type "list",data:=.seq ([]:List Value).toArray } }:Shared)=s₃ at I3
 have st3':tn 0 s₃.heap:=by rw [← hs3];exact st3
 have hobj:∀ b∈fp,b < s₃.heap.objs.size:=fun b hb=>by
   obtain ⟨o,e,_⟩:=T.obj 0 _ st3' b hb
   exact Heap.lt_size e
 refine wpAny_newFunctionEnv O.cell (by intro y hy;simp at hy) (fun h₁ hns₁ hsb₁=>?_) O.kind
 have old:∀ b o,s₃.heap.get? b=some o→h₁.get? b=some o:=fun b o e=>hsb₁.extBut b o (Nat.ne_of_lt (Heap.lt_size e)) (Heap.get?_push_of_some _ e)
 generalize hs4:({ s₃ with heap:=h₁,toks:=s₃.toks+([]:List (Str×Value)).length }:Shared)=s₄
 have h4:s₄.heap=h₁:=by rw [← hs4]
 have hX:∀ C,Yo X pins C s₃.heap.objs.size→True:=fun _ _=>trivial
 have ok':(ZR X scope xa xb cl s₃.heap.objs.size s₃ H3 fp).Ok:=by
   refine ⟨I3.ok.mod,O.kind,I3.ok.glob,I3.ok.blt,Nat.le_refl _,?_,?_,?_,I3.ok.hd,I3.ok.frames,.inl rfl,?_,I3.bs,Nat.le_trans I3.ok.bsz I3.sz,?_,?_,I3.stack,I3.stkFree⟩
   · exact fun y z c e1 e2=>I3.ok.inj y z c (cl1 y c e1) (cl1 z c e2)
   · intro y hk
     have hf:scope.names.lookup y=some .free:=by
       rcases hk with hk | hk
       · rcases Zq O.cell hk with q | q
         · exact absurd rfl (O.cell _ (mem_of_lookup q))
         · exact q.1
       · rcases Zq O.cell hk with q | q
         · exact q
         · cases q.2
     have:=cl2 _ (mem_of_lookup hf) rfl
     cases e:cl.lookup y with
     | none=>exact absurd e this
     | some c=>exact ⟨c,e⟩
   · intro y c hf;cases hf
   · intro b hb
     obtain ⟨g0,g1,g2,g3,g4,g5⟩:=f3 b hb
     exact ⟨Nat.ne_of_lt (hobj b hb),fun y c e=>g4 y c (cl1 y c e)⟩
   · intro b o e hb
     obtain ⟨g0,g1,g2,g3,g4,g5⟩:=f3 b hb
     rcases g3 with g3 | g3
     · exact I3.ok.noex b o e g3
     · exact absurd (Heap.lt_size e) (Nat.not_lt.mpr (Nat.le_trans I3.ok.bsz g3))
   · intro b hb hs
     obtain ⟨g0,g1,g2,g3,g4,g5⟩:=f3 b hb
     rcases List.mem_cons.mp (I3.stkSub b hs) with e | e
     · exact g1 e
     · exact g2 e
 have I4 : Inv (ZR X scope xa xb cl s₃.heap.objs.size s₃ H3 fp) [] (σ++[none,none]) H3 s₄:=by
   obtain ⟨m,hm,hl⟩:=I3.loc
   refine ⟨ok',by rw [← hs4];rfl,by rw [← hs4];exact I3.bare,by rw [h4];exact Un.kept old,⟨_,by rw [h4];exact hns₁,?_⟩,?_,I3.hok.fresh (Nat.le_refl _),fun y c e=>I3.freeC y c (cl1 y c e),?_,by rw [h4];exact I3.hok.kept old,?_⟩
   · intro i y v e1 e2 e3
     have hlt:i < σ.length:=by
       rcases Nat.lt_or_ge i σ.length with z | z
       · exact z
       · rw [List.getElem?_append_right z] at e2
         have:=List.mem_of_getElem? e2
         simp at this
     rw [List.getElem?_append_left hlt] at e2
     have hsm:∃ k,scope.names.lookup y=some k:=by
       rcases e3 with hk | hk | hk
       · rcases Zq O.cell hk with q | q
         · exact ⟨_,q⟩
         · exact ⟨_,q.1⟩
       · rcases Zq O.cell hk with q | q
         · exact ⟨_,q⟩
         · exact ⟨_,q.1⟩
       · rcases Zq O.cell hk with q | q
         · exact ⟨_,q⟩
         · exact ⟨_,q.1⟩
     obtain ⟨e1',hyx⟩:X.N[i]?=some y∧¬ (y=xa∨y=xb):=by
       have e1:(XQ X.N xa xb++[xa,xb])[i]?=some y:=e1
       rw [List.getElem?_append_left (by rw [Uw,← I3.len];exact hlt)] at e1
       rcases Zcy e1 with z | z
       · exact z
       · obtain ⟨k,hk⟩:=hsm
         rw [z,O.noh] at hk;cases hk
     have hy:y∈X.N:=List.mem_of_getElem? e1'
     have hf:scope.names.lookup y=some .free:=by
       rcases e3 with hk | hk | hk
       · rcases Zq O.cell hk with q | q
         · exact absurd q (O.own y hy hyx)
         · exact q.1
       · rcases Zq O.cell hk with q | q
         · exact absurd rfl (O.cell _ (mem_of_lookup q))
         · exact q.1
       · rcases Zq O.cell hk with q | q
         · exact q
         · exact q.1
     have hk:=O.clos _ (mem_of_lookup hf) rfl
     have hv:Vis X.env.scope y:=by rcases hk with z | z;exact .inr (.inl z);exact .inr (.inr z)
     obtain ⟨u,ru,lu⟩:=hl i y v e1' e2 hv
     refine ⟨u,ru,?_⟩
     have hkc:(compEnvC scope cl s₃.heap.objs.size X.env).kindOf y=some .cell∨(compEnvC scope cl s₃.heap.objs.size X.env).kindOf y=some .free:=by
       rcases e3 with q | q | q
       · rcases Zq O.cell q with z | z
         · exact absurd z (O.own y hy hyx)
         · cases z.2
       · exact .inl q
       · exact .inr q
     rcases lu with ⟨q,_⟩ | ⟨_,c,hcl,hcc⟩
     · rcases hk with z | z <;> (rw [q] at z;cases z)
     · refine .inr ⟨hkc,?_⟩
       cases e:cl.lookup y with
       | none=>exact absurd e (cl2 _ (mem_of_lookup hf) rfl)
       | some c' =>
         have:=cl1 y c' e
         rw [hcl] at this
         cases this
         refine ⟨c,e,?_⟩
         rw [h4]
         obtain ⟨oc,ho,hd⟩:=hcc
         exact ⟨oc,old _ _ ho,hd⟩
   · intro y c e
     obtain ⟨v,oc,ho,hd⟩:=I3.cell y c (cl1 y c e)
     exact ⟨v,oc,by rw [h4];exact old _ _ ho,hd⟩
   · intro p hp;cases hp
   · show (σ++[none,none]).length=(XQ X.N xa xb++[xa,xb]).length
     rw [List.length_append,List.length_append,Uw,I3.len];rfl
 have st4:tn 0 s₄.heap:=by rw [h4];exact T.keep _ _ _ st3' fun b hb o e=>old b o e
 have fpok:∀ {H':Hp},(∀ b∈fp,H' b=none)→∀ b∈fp,Yo (ZR X scope xa xb cl s₃.heap.objs.size s₃ H3 fp) [] H' b:=fun hn b hb=>by
   obtain ⟨g0,g1,g2,g3,g4,g5⟩:=f3 b hb
   refine ⟨hn b hb,Nat.ne_of_lt (hobj b hb),ok'.exfs b hb,.inl hb,fun y c e=>g4 y c (cl1 y c e),?_⟩
   intro p hp;cases hp
 have loop:codeAny (model X.prog X.w) X.A (.compLoop (.ListComp elt [⟨tg,iter,[],0⟩] scope pos) 0 (.ref it) (.ref D) (compEnvC scope cl s₃.heap.objs.size X.env)) (RR (.ref D) s₃.heap.objs.size) s₄:=by
   refine XS (fun n s'=>∃ i ys wa wb H',Inv (ZR X scope xa xb cl s₃.heap.objs.size s₃ H3 fp) [] (σ++[wa,wb]) H' s'∧tn i s'.heap∧(∀ b∈fp,H' b=none)∧W i n ys H') ?_ m0 ⟨0,[],none,none,H3,I4,st4,fun b hb=>(f3 b hb).1,w0⟩
   rintro n s5 ⟨i,ys,wa,wb,H5,I5,st5,fr5,w5⟩
   rcases turn i n ys H5 w5 with ⟨stop,q⟩ | ⟨go,N,hN,step⟩
   · refine Zm (T.done (ZR X scope xa xb cl s₃.heap.objs.size s₃ H3 fp) rfl rfl rfl hc i [] s5 _ H5 _ I5 (fpok fr5) st5 stop) fun r s6 ⟨hr,I6⟩=>?_
     subst hr
     obtain ⟨m6,hn6,_⟩:=I6.loc
     have IX:Inv X pins σ H5 s6:=I3.call' (ch:=fp) I6.os I6.base I6.hok I6.bare fun b hb=>by
       obtain ⟨g0,g1,g2,g3,g4,g5⟩:=f3 b hb
       exact ⟨g3,g1,g4,g5⟩
     exact hRR D _ H5 s6 IX (I3.fpOk (Nat.le_refl _) I6.free) ⟨m6,hn6⟩ q
   · refine Zm (T.item (ZR X scope xa xb cl s₃.heap.objs.size s₃ H3 fp) rfl rfl rfl hc i [] s5 _ H5 _ I5 (fpok fr5) st5 go) fun r s6 ⟨u,hr,h6⟩=>?_
     subst hr
     refine Zm h6 fun _ s7 ⟨v,H7,I7,r7,y7,st7,fr7⟩=>?_
     have I7':=I7.pinned (fpok fr7) (T.obj _ _ st7)
     refine Zm (hg cl s₃.heap.objs.size s₃ H3 fp _ s7 _ H7 v u _ I7' r7 (step wa wb v H7 y7)) fun _ s8 ⟨σ8,H8,I8,⟨wa',wb',e8⟩,q8⟩=>?_
     subst e8
     refine Zm (he cl s₃.heap.objs.size s₃ H3 fp _ s8 _ H8 _ I8 q8) fun uy s9 ⟨y,H9,I9,r9,n9⟩=>?_
     obtain ⟨hl9,hz9,m',hm',w9⟩:=hN y H9 n9
     refine Zm (Yt (X:=ZR X scope xa xb cl s₃.heap.objs.size s₃ H3 fp) _ s9 _ H9 (.ref D) [y] (.ref D) [uy] (fun v H'=>H'=upd H9 D (.lst (ys++[y]))) I9 rfl (.cons r9 .nil) ⟨D,ys,y,rfl,rfl,hl9,hz9,rfl⟩) fun _ s10 ⟨_,H10,I10,_,e10⟩=>?_
     subst e10
     refine ⟨m',hm',i+1,ys++[y],wa',wb',_,I10.unpinned (pins:=[]),T.keep _ _ _ st7 fun b hb o e=>(I10.pin (b,o) (List.mem_append_right _ (List.mem_append_right _ (Yb hb e)))).1,fun b hb=>?_,w9⟩
     obtain ⟨o,e,d⟩:=T.obj _ _ st7 b hb
     exact (I10.pin (b,o) (List.mem_append_right _ (List.mem_append_right _ (Yb hb e)))).2.1
 exact codeAny_compStart_list loop (T.self _ 0 _ _ _ st4 loop)
theorem Ziu (O:CompOkT X scope xa xb) (hc:X.calm=true) (hi:PI X tg iter wi) (hg:∀ cl C s₀ H₀ fp,PG (ZR X scope xa xb cl C s₀ H₀ fp) tg g) (he:∀ cl C s₀ H₀ fp,PE (ZR X scope xa xb cl C s₀ H₀ fp) elt te)
   (hs:∀ v,foldedSetIterable iter X.env v=pure v:=by intro _;rfl):PE X (.ListComp elt [⟨tg,iter,[],0⟩] scope pos) (ZlP wi g te):=by
 intro pins s σ H Q I h
 obtain ⟨cl,hcl,cl1,cl2⟩:=Wq (scope:=scope) (env:=X.env) fun y hy hf=>I.ok.has _ (O.clos y hy hf)
 rw [eval_ListComp]
 refine wpAny_comprehension_free (use:=none) rfl hs hcl O.kind O.names (Zm (hi pins s σ H _ I h) fun v s1 h1=>Zm h1 fun itv s2 h2=>?_)
 obtain ⟨it,fp,tn,J,H2,e,I2,T,st2,f2,q⟩:=h2
 subst e
 refine Zdn (RR:=fun acc C=>compPost (model X.prog X.w) X.A X.xe none (EP X pins σ Q) acc C) O hc cl1 cl2 hg he I2 T st2 f2 q ?_
 intro D C H' s' I' ⟨g0,g1,g2,g3,g4,g5⟩ ⟨m,hm⟩ hq
 exact ⟨m,hm,fun h' hs'=>⟨.ref D,H',I'.turned (t':=s'.toks) (fun b o hb e=>(hs'.2 b hb).trans e) g0 g1 g3 g4 g5,rfl,hq⟩⟩
end
end L2
set_option maxHeartbeats 2000000
namespace L2
open PySem PySem.Spec PyProof.Rows
end L2
namespace L2
open PySem
structure YB (mg:Str→Option Value):Prop where
 len:mg "len"=none
 abs:mg "abs"=none
 int:mg "int"=none
 range:mg "range"=none
 min:mg "min"=none
 max:mg "max"=none
 repr:mg "repr"=none
 enumerate:mg "enumerate"=none
 ord:mg "ord"=none
 list:mg "list"=none
 tuple:mg "tuple"=none
 dict:mg "dict"=none
 sorted:mg "sorted"=none
 sum:mg "sum"=none
 all:mg "all"=none
 any:mg "any"=none
 divmod:mg "divmod"=none
 str:mg "str"=none
 isinstance:mg "isinstance"=none
 set:mg "set"=none
 zip:mg "zip"=none
 reversed:mg "reversed"=none
 bool:mg "bool"=none
abbrev DTk (P:Program) (w:World) (K:PySem.W.Frag) (mg:Str→Option Value) (base:Heap) (k:Nat):Prop:=Def P w K mg base k "_law_take" ["_law_box_here","_law_many"] (Zem 4611686018427387904)
theorem FnOk.conv {P:Program} {w:World} {K:PySem.W.Frag} {mg:Str→Option Value} {base:Heap} {k:Nat} {f:Addr} {fd:FuncData} {ps:List Str} {sp sp':Sp} (F:FnOk P w K mg base ZH k f fd ps sp) (h:∀ vs H Q E,sp' vs H Q E→sp vs H Q E):FnOk P w K mg base ZH k f fd ps sp' :=
 ⟨fun vs H Q E z=>F.len vs H Q E (h vs H Q E z),fun A outer s H args us vs Q E hr he hb hv z=>F.run A outer s H args us vs Q E hr he hb hv (h vs H Q E z)⟩
theorem Def.conv {P:Program} {w:World} {K:PySem.W.Frag} {mg:Str→Option Value} {base:Heap} {k:Nat} {x:Str} {ps:List Str} {sp sp':Sp} (D:Def P w K mg base k x ps sp) (h:∀ vs H Q E,sp' vs H Q E→sp vs H Q E):Def P w K mg base k x ps sp' :=
 let ⟨f,fd,F,b,kp,m⟩:=D;⟨f,fd,F.conv h,b,kp,m⟩
theorem Zam {α:Type} {xs:List α} {r:Int} {v:α} (h0:0≤r) (h:xs[r.toNat]?=some v):YO xs r=some v:=by
 have z:YO xs ((r.toNat:Nat):Int)=some v:=Zv h
 rwa [show ((r.toNat:Nat):Int)=r by omega] at z
theorem YH {n m:Nat} (h:n≤m) (hm:m≤100000:=by decide):n≤sizeLine:=Nat.le_trans (Nat.le_trans h hm) (by decide)
theorem Xh {n m:Nat} (h:n≤m) (hm:m≤100000:=by decide):n < sizeLine:=Nat.lt_of_le_of_lt (Nat.le_trans h hm) (by decide)
end L2
set_option maxHeartbeats 2000000
namespace L2
open PySem
def DefM (P:Program) (w:World) (K:PySem.W.Frag) (mg:Str→Option Value) (base:Heap) (k:Nat) (C:Addr) (m:Str) (ps:List Str) (sp:Sp):Prop:=∃ f fd,FnOk P w K mg base ZH k f fd ps sp∧Binds K fd ps []∧Vh K C m f
theorem DefM.mono {P:Program} {w:World} {K:PySem.W.Frag} {mg:Str→Option Value} {base:Heap} {j k:Nat} {C:Addr} {m:Str} {ps:List Str} {sp:Sp} (D:DefM P w K mg base j C m ps sp) (h:j≤k):DefM P w K mg base k C m ps sp :=
 let ⟨f,fd,F,b,q⟩:=D;⟨f,fd,F.mono h,b,q⟩
section
variable {X:Cx} {k:Nat} {C:Addr} {m:Str} {ps:List Str} {sp:Sp} {pos apos:Pos} {o e:Expr} {es:List Expr} {ta:TE} {t:TA}
theorem Yy {pl:Sem Bool} (D:DefM X.prog X.w X.K X.mg X.base k C m ps sp) (c:Cls X.K C) (hr:Room k X.A) (he:PE X o ta) (ha:PA X (e::es) t)
   (hst:starEach (e::es) X.env=(false,eval e X.env)::starEach es X.env:=by rfl) (hpl:(backTo pos (starEach es X.env)).any (·.1)=false:=by rfl)
   (ht:eval (.Call (.Attribute o m apos) (e::es) [] pos) X.env=(do
     let ov ← eval o X.env
     standAt apos.atName
     let (f,first) ← holding [ov] (getMethod ov m pl)
     callWith pos f first (backTo pos (starEach (e::es) X.env)) (backToKw pos (keywordEach [] X.env))):=by rfl) :
   PE X (.Call (.Attribute o m apos) (e::es) [] pos) (Zca C m sp [] E0 ta t):=by
 obtain ⟨f,fd,F,b,q⟩:=D
 exact Zkb he c q F hr b .nil ZbW ha hst hpl ht
end
def Kq (S:List Addr) (H H':Hp):Prop:=∀ b o,b ∉ S→H b=some o→H' b=some o
theorem Kq.trans {S:List Addr} {H H1 H2:Hp} (a:Kq S H H1) (b:Kq S H1 H2):Kq S H H2:=fun x o n h=>b x o n (a x o n h)
theorem Kq.sub {S S':List Addr} {H H':Hp} (a:Kq S H H') (h:∀ b∈S,b∈S'):Kq S' H H':=fun x o n e=>a x o (fun z=>n (h x z)) e
theorem Same.kq {S:List Addr} {H H':Hp} (h:Same H H'):Kq S H H':=fun b o _ e=>h b o e
theorem ZaE {H:Hp} {a:Addr} {o:HO}:Kq [a] H (upd H a o):=fun b u n e=>by rw [Zk (fun z=>n (by simp [z]))];exact e
theorem tn:¬ (("nodes":Str)="tables"):=by decide +kernel
def VW (ln dt:Addr):List (Str×V):=Xl "tables" (.ref dt) (Xl "nodes" (.ref ln) [])
theorem XA (ln dt:Addr):(VW ln dt).lookup ("nodes":Str)=some (.ref ln):=by unfold VW;rw [YX,if_neg tn,YX,if_pos rfl]
theorem ZgO (ln dt:Addr):(VW ln dt).lookup ("tables":Str)=some (.ref dt):=by unfold VW;rw [YX,if_pos rfl]
theorem ZS (ln dt:Addr) {m:Str} (h1:¬ m="tables") (h2:¬ m="nodes"):(VW ln dt).lookup m=none:=by
 unfold VW
 rw [YX,if_neg h1,YX,if_neg h2]
 rfl
structure StoreAt (K:PySem.W.Frag) (C st ln dt:Addr) (H:Hp) (nds:List Nd) (tabs:List (Zj×V)):Prop where
 ob:∃ dx,H st=some (.ins C dx (VW ln dt))
 nl:∃ as:List Addr,H ln=some (.lst (as.map V.ref))∧as.length=nds.length∧∀ (i:Nat) (a:Addr) (n:Nd),as[i]?=some a→nds[i]?=some n→NodeAt K H a n
 tb:H dt=some (.dK tabs)
theorem StoreAt.keep {K:PySem.W.Frag} {C st ln dt:Addr} {H H':Hp} {nds:List Nd} {tabs:List (Zj×V)} (S:StoreAt K C st ln dt H nds tabs) (h:Same H H'):StoreAt K C st ln dt H' nds tabs:=by
 obtain ⟨⟨dx,e⟩,⟨as,e2,l,hn⟩,e3⟩:=S
 exact ⟨⟨dx,h _ _ e⟩,⟨as,h _ _ e2,l,fun i a n x y=>(hn i a n x y).tf h.tf⟩,h _ _ e3⟩
theorem StoreAt.kq {K:PySem.W.Frag} {C st ln dt:Addr} {H H':Hp} {nds:List Nd} {tabs:List (Zj×V)} {L:List Addr} (S:StoreAt K C st ln dt H nds tabs) (k:Kq L H H') (t:TF H H') (h1:st ∉ L) (h2:ln ∉ L) (h3:dt ∉ L):StoreAt K C st ln dt H' nds tabs:=by
 obtain ⟨⟨dx,e⟩,⟨as,e2,l,hn⟩,e3⟩:=S
 exact ⟨⟨dx,k _ _ h1 e⟩,⟨as,k _ _ h2 e2,l,fun i a n x y=>(hn i a n x y).tf t⟩,k _ _ h3 e3⟩
theorem Grown.kq {Pl:Addr} {H H':Hp} (g:Grown Pl H H'):Kq [Pl] H H':=fun b o n e=>g b o (fun z=>n (by simp [z])) e
theorem LamAt.kq {H H':Hp} {Pl:Addr} {lpos:Pos} {q:Str} {L:List Addr} (h:LamAt H Pl lpos q) (k:Kq L H H') (hL:∀ b∈L,∃ xs,H b=some (.lst xs)):LamAt H' Pl lpos q:=by
 rcases h with h | ⟨c,h,h2⟩
 · exact .inl (k _ _ (fun z=>by obtain ⟨_,e⟩:=hL _ z;rw [h] at e;cases e) h)
 · exact .inr ⟨c,k _ _ (fun z=>by obtain ⟨_,e⟩:=hL _ z;rw [h] at e;cases e) h,k _ _ (fun z=>by obtain ⟨_,e⟩:=hL _ z;rw [h2] at e;cases e) h2⟩
theorem ZaZ {α:Type} {xs:List α} {r:Int} (h0:0≤r) (h1:r < (xs.length:Int)):∃ v,YO xs r=some v∧v∈xs:=by
 have hk:r.toNat < xs.length:=by omega
 have z:YO xs ((r.toNat:Nat):Int)=some xs[r.toNat]:=Zv (List.getElem?_eq_getElem hk)
 have e:((r.toNat:Nat):Int)=r:=by omega
 rw [e] at z
 exact ⟨_,z,List.getElem_mem hk⟩
def YY:V→Prop
 | .int i=>i.natAbs≤10 ^ 31
 | .str x=>x.length≤41∧x.cps.toList.all sgn=true
 | _=>False
def Zat:V→Bool
 | .int i=>decide (i.natAbs≤10 ^ 31)
 | .str x=>decide (x.length≤41) && x.cps.toList.all sgn
 | _=>false
theorem UG {v:V} (h:Zat v=true):YY v:=by
 cases v with
 | int i=>exact of_decide_eq_true (p:=i.natAbs≤10 ^ 31) h
 | str x =>
   have h':(decide (x.length≤41) && x.cps.toList.all sgn)=true:=h
   simp only [Bool.and_eq_true,decide_eq_true_eq] at h'
   exact h'
 | _=>cases h
def Zei:Sp:=fun vs H Q _=>∃ (p:Addr) (n:Nat),vs=[.ref p]∧BoxAt H p n∧n≤900000∧∀ (v:V) (H':Hp),YY v→BoxAt H' p (n+50)→Kp p H H'→Q v H'
def Zjd:List Stmt→Str
 | .Assign _ (.Constant (.str x) _ _) _::_=>x
 | _::r=>Zjd r
 | []=>Str.empty
def ZcP (N:List Str) (names:List (Str×NameKind)) (scope:Scope) (xa xb:Str):Bool :=
 decide ((XQ N xa xb++[xa,xb]).Nodup) && scope.names.all (fun y=>(y.2 != .free || names.lookup y.1 == some .cell || names.lookup y.1 == some .free) && (y.2 != .cell && (y.2 != .local || scope.names.lookup y.1 == some .local))) &&
 (scope.kind == .function && N.all fun y=>(y == xa || y == xb) || scope.names.lookup y != some .local) && scope.names.lookup ("":Str) == none
theorem CompOkT.of {X:Cx} {scope:Scope} {xa xb:Str} (N:List Str) (st:Stmt) (hN:X.N=N) (hn:X.env.scope=Zl st) (chk:ZcP N (Zl st).names scope xa xb=true):CompOkT X scope xa xb:=by
 unfold ZcP at chk
 simp only [Bool.and_eq_true,decide_eq_true_eq,List.all_eq_true,Bool.or_eq_true,bne_iff_ne,beq_iff_eq] at chk
 obtain ⟨⟨⟨c1,c2⟩,c3,c5⟩,c6⟩:=chk
 refine ⟨by rw [hN];exact c1,fun y hy hf=>?_,fun y hy=>(c2 y hy).2.1,c3,fun y hy hl=>?_,fun y hy hx=>(c5 y (by rw [← hN];exact hy)).resolve_left hx,c6⟩
 · show X.env.scope.names.lookup y.1=_∨X.env.scope.names.lookup y.1=_
   rw [hn]
   rcases (c2 y hy).1 with (z | z) | z
   · exact absurd hf z
   · exact .inl z
   · exact .inr z
 · rcases (c2 y hy).2.2 with z | z
   · exact absurd hl z
   · exact z
theorem ZdC {X:Cx} {K:PySem.W.Frag} (hK:X.K=K) (hc:X.calm=true) {xa xb:Str} {pa pb tp:Pos} {j:Nat} {ga gb:TG} (ha:PG X (.Name xa pa) ga) (hb:PG X (.Name xb pb) gb):PG X (.Tuple [.Name xa pa,.Name xb pb] j tp) (gTup K 2 (Zfl ga (Zfl gb gNil))):=by
 subst hK
 exact Wm hc (Ya ha (Ya hb XL))
theorem FnOk.ex {P:Program} {w:World} {K:PySem.W.Frag} {mg:Str→Option Value} {base:Heap} {k:Nat} {f:Addr} {fd:FuncData} {ps:List Str} {ok:List Str→Prop} {sp:List Str→Sp} (F:∀ NS,ok NS→FnOk P w K mg base ZH k f fd ps (sp NS)) :
   FnOk P w K mg base ZH k f fd ps (fun vs H Q E=>∃ NS,ok NS∧sp NS vs H Q E) :=
 ⟨fun vs H Q E ⟨NS,N,h⟩=>(F NS N).len vs H Q E h,fun A outer s H args us vs Q E hr he hb hv ⟨NS,N,h⟩=>(F NS N).run A outer s H args us vs Q E hr he hb hv h⟩
def ZeJ (P:Program) (w:World) (K:PySem.W.Frag) (mg:Str→Option Value) (base:Heap) (k:Nat) (C:Addr) (x:Str) (ps:List Str) (sp:Sp):Prop:=∃ f fd,FnOk P w K mg base ZH k f fd ps sp∧Binds K fd ps []∧Mk K C f∧mg x=some (.ref C)
theorem ZiU {X:Cx} {k:Nat} {C:Addr} {x:Str} {ps:List Str} {sp:Sp} {p pos:Pos} (D:ZeJ X.prog X.w X.K X.mg X.base k C x ps sp) (hr:Room (k+1) X.A) (hg:Gl X x:=by rfl) (hdb:(x == ("__debug__":Str))=false:=by decide) :
   PE X (.Call (.Name x p) [] [] pos) (Zjk C sp [] E0 XE):=by
 obtain ⟨f,fd,F,b,M,m⟩:=D
 exact Zic M F hr hg m b .nil ZbW hdb
theorem SqL.obj {K:PySem.W.Frag} {H:Hp} {a:Addr} {xs:List V} (h:SqL K H a xs):(∀ H',SqL K H' a xs)∨∃ o,H a=some o∧(∀ tb,o≠.tbl tb)∧∀ H',H' a=some o→SqL K H' a xs:=by
 rcases h with (h | ⟨o,h⟩) | h
 · exact .inr ⟨_,h,(fun tb z=>by cases z),fun H' e=>.inl (.inl e)⟩
 · exact .inr ⟨_,h,(fun tb z=>by cases z),fun H' e=>.inl (.inr ⟨o,e⟩)⟩
 · exact .inl fun H'=>.inr h
theorem ZbE {H H':Hp} {a:Addr} (s:Same H H') (h:H' a=none):H a=none:=by
 cases e:H a with
 | none=>rfl
 | some o=>rw [s _ _ e] at h;cases h
end L2
set_option maxHeartbeats 4000000
namespace K20
open PySem L2
def top (i:Nat):Stmt:=PySem.Challenge.pw_roadsettings_k20_nodes_that_a_step_makes.main.body.getD i (.Pass ⟨0,0,0,0⟩)
abbrev s_alike:Stmt:=top 3
abbrev s_mark:Stmt:=top 4
abbrev s_digit:Stmt:=top 5
abbrev s_leaf_of:Stmt:=top 10
abbrev s_fork_of:Stmt:=top 11
abbrev s_parts_in:Stmt:=top 12
abbrev s_pairs_in:Stmt:=top 13
abbrev s_has_mark:Stmt:=top 14
abbrev c_Store___init__:Stmt:=ZZ (top 25) 0
abbrev c_Store_empty:Stmt:=ZZ (top 25) 1
abbrev c_Store_put:Stmt:=ZZ (top 25) 2
abbrev c_Store_without:Stmt:=ZZ (top 25) 3
abbrev c_Store_looked:Stmt:=ZZ (top 25) 4
abbrev c_Store_way:Stmt:=ZZ (top 25) 7
abbrev c_Store_made:Stmt:=ZZ (top 25) 9
abbrev c_Store_check_table:Stmt:=ZZ (top 25) 10
abbrev c_Store_keep:Stmt:=ZZ (top 25) 12
abbrev c_Store_as_table:Stmt:=ZZ (top 25) 13
abbrev c_Store_put_in:Stmt:=ZZ (top 25) 14
abbrev c_Store_fork_parts:Stmt:=ZZ (top 25) 15
abbrev c_Store_taken_from:Stmt:=ZZ (top 25) 16
abbrev c_Roads___init__:Stmt:=ZZ (top 27) 0
abbrev c_Roads_put:Stmt:=ZZ (top 27) 1
abbrev c_Roads_clear:Stmt:=ZZ (top 27) 2
abbrev c_Roads_store:Stmt:=ZZ (top 27) 10
abbrev c_Roads_table:Stmt:=ZZ (top 27) 11
abbrev c_Roads_cost:Stmt:=ZZ (top 27) 14
abbrev c_Roads_check_place:Stmt:=ZZ (top 27) 18
abbrev c_Roads_go_on:Stmt:=ZZ (top 27) 20
abbrev s_l_cell_at:Stmt:=top 29
abbrev s_l_box:Stmt:=top 30
abbrev s_l_take:Stmt:=top 31
abbrev s_l_names:Stmt:=top 32
abbrev s_l_value:Stmt:=top 33
abbrev s_l_pool:Stmt:=top 34
abbrev s_l_values:Stmt:=top 35
abbrev s_l_step:Stmt:=top 36
abbrev s_l_from:Stmt:=top 37
abbrev s_l_grown:Stmt:=top 38
abbrev s_l_road:Stmt:=top 39
abbrev s_l_all:Stmt:=top 40
abbrev s_l_alike:Stmt:=top 41
abbrev s_l_mark:Stmt:=top 42
abbrev s_l_way:Stmt:=top 43
abbrev s_l_cost:Stmt:=top 44
abbrev s_l_right:Stmt:=top 45
abbrev s_law:Stmt:=top 46
section
variable {P:Program} {w:World} {K:PySem.W.Frag} {mg:Str→Option Value} {base:Heap}
theorem scC:Zs ["_law_script","_law_k"] ["_law_script","_law_k"] (Zl s_l_cell_at):=⟨rfl,rfl,rfl,by decide +kernel,rfl,by decide +kernel,by decide +kernel⟩
theorem Zjz {f:Addr} {fd:FuncData} (F:Fun K "_law_cell_at" "_law_cell_at" s_l_cell_at f fd) (T:YB mg):FnOk P w K mg base ZH 1 f fd ["_law_script","_law_k"] (Zge K):=by
 refine F.ok scC (fun vs H Q E h=>?_) (fun cdv A outer s H vs Q E hr h=>?_)
 · obtain ⟨a,ns,k,rfl,_⟩:=h;rfl
 obtain ⟨a,ns,k,rfl,hS,h0,q⟩:=h
 refine ⟨_,Zd (Yk (ZL Vq (pv 1) (Zw ZG rfl T.len PySem.boot_len (Yw (pv 0) Za)) (ZE _)) (Zi (Zp (Zo Zy (pv 0) (pv 1) (fun _ _=>rfl)))) ZW)
   (Zi (Zp Zb)),?_⟩
 refine ⟨_,rfl,_,rfl,a,_,rfl,.inl hS,_,_,rfl,rfl,_,rfl,?_⟩
 refine Xs (fun c=>?_) (fun c=>?_)
 · have c':k < (((ns.map V.int).length:Nat):Int):=of_decide_eq_true c
   rw [List.length_map] at c'
   have hk:k.toNat < ns.length:=by omega
   have ek:k=((k.toNat:Nat):Int):=by omega
   have hat:YO (ns.map V.int) k=some (.int ns[k.toNat]):=by
     have z:YO (ns.map V.int) ((k.toNat:Nat):Int)=some (.int ns[k.toNat]):=Zv (by rw [List.getElem?_map,List.getElem?_eq_getElem hk];rfl)
     rwa [← ek] at z
   exact ⟨_,rfl,_,rfl,a,_,_,_,rfl,rfl,hS,hat,q _⟩
 · exact q 0
theorem scB:Zs ["_law_script","_law_k","_law_cell"] ["_law_script","_law_k"] (Zl s_l_box):=⟨rfl,rfl,rfl,by decide +kernel,rfl,by decide +kernel,by decide +kernel⟩
theorem ZlB {f:Addr} {fd:FuncData} (F:Fun K "_law_box" "_law_box" s_l_box f fd) (T:YB mg) (D:Def P w K mg base 1 "_law_cell_at" ["_law_script","_law_k"] (Zge K)):FnOk P w K mg base ZH 2 f fd ["_law_script","_law_k"] (ZiZ K):=by
 refine F.ok scB (fun vs H Q E h=>?_) (fun cdv A outer s H vs Q E hr h=>?_)
 · obtain ⟨a,ns,k,rfl,_⟩:=h;rfl
 obtain ⟨a,ns,k,rfl,hS,h0,h1,q⟩:=h
 refine ⟨_,Zd (Zx (i:=2) scB.nd rfl (Or.inl rfl) (Zz D hr (Yw (pv 0) (Yw (pv 1) Za))))
   (Zi (Zp (Yn (Yw (Zn XM (Zw Zcl rfl T.abs (by decide +kernel) (Yw (pv 2) Za)) (Yu UV rfl T.int (by decide +kernel) (Yw (YT ZiJ (Zw Zcl rfl T.abs (by decide +kernel) (Yw (pv 2) Za)) (Zn Zao Zb Zb) (ZE _)) Za)))
     (Yw (Zn Yi (Zn Yi (Zn Xj (pv 2) Zb) (Zn XM Zb (pv 1))) Zb) (Yw Zb Za)))))),?_⟩
 refine ⟨_,rfl,_,rfl,a,ns,k,rfl,hS,h0,fun r=>?_⟩
 refine ⟨_,rfl,_,rfl,⟨_,rfl,_,rfl,_,_,rfl,rfl,⟨by decide,by decide,by decide⟩,_,_,rfl,rfl,.inr ⟨_,rfl,?_⟩⟩⟩
 generalize hb:decide ((10:Int) ^ (Int.toNat 18)≤(if r < 0 then -r else r))=bb
 refine ⟨_,_,rfl,rfl,.inr (by cases bb <;> exact ⟨by decide,by decide⟩),_,rfl,_,_,rfl,rfl,(by show (0:Int) < _;decide),_,rfl,_,_,rfl,rfl,.inl ⟨by decide,by decide⟩,_,_,rfl,rfl,_,_,rfl,rfl,(by show 3≤sizeLine;decide),fun p hp=>?_⟩
 refine q p _ hp ⟨_,_,0,Zh,?_,by decide,by decide⟩ (ZB hp _)
 cases bb
 · simp
 · simp only [if_true,Int.mul_one];split <;> omega
theorem scT:Zs ["_law_box_here","_law_many","_law_found","_law_once","_law_twice"] ["_law_box_here","_law_many"] (Zl s_l_take):=⟨rfl,rfl,rfl,by decide +kernel,rfl,by decide +kernel,by decide +kernel⟩
theorem Zjn {f:Addr} {fd:FuncData} (F:Fun K "_law_take" "_law_take" s_l_take f fd):FnOk P w K mg base ZH 1 f fd ["_law_box_here","_law_many"] (ZaG 4611686018427387904):=by
 refine F.ok scT (fun vs H Q E h=>?_) (fun cdv A outer s H vs Q E hr h=>?_)
 · obtain ⟨p,n,m,rfl,_⟩:=h;rfl
 obtain ⟨p,n,m,rfl,⟨a,b,c,hp,ha,hc,hcn⟩,hn,hm0,hmM,q⟩:=h
 refine ⟨_,Zd (Yk (ZL ZeR (Zo Zy (pv 0) Zb (fun _ _=>rfl)) Zb (ZE _))
     (Zd (Zx (i:=2) scT.nd rfl (Or.inl rfl) (Zn Xj (Zo Zy (pv 0) Zb (fun _ _=>rfl)) (pv 1)))
       (Zd (Xz (Zn Zab (Zo Zy (pv 0) Zb (fun _ _=>rfl)) (pv 1)) (Zaw (pv 0) Zb UA)) (Zi (Zp (pv 2))))) ZW)
   (Zd (Xz (Zn Yi (Zo Zy (pv 0) Zb (fun _ _=>rfl)) Zb) (Zaw (pv 0) Zb UA))
   (Zd (Zx (i:=3) scT.nd rfl (Or.inl rfl) (Zn Xj (Zn XM (Zn Yi (Zo Zy (pv 0) Zb (fun _ _=>rfl)) (Zn XM Zb (Zo Zy (pv 0) Zb (fun _ _=>rfl)))) (Zn Yi Zb (Zo Zy (pv 0) Zb (fun _ _=>rfl)))) Zb))
   (Zd (Zx (i:=4) scT.nd rfl (Or.inl rfl) (Zn Xj (Zn XM (Zn Yi (pv 3) (Zo Zy (pv 0) Zb (fun _ _=>rfl))) (Zn Yi (Zn Xj (pv 3) Zb) Zb)) Zb))
   (Zi (Zp (Zn Xj (Zn Zes (Zn Xj (Zn Yi (Zn XM (pv 4) Zb) (pv 3)) Zb) Zb) (pv 1))))))),?_⟩
 refine ⟨_,rfl,p,_,_,_,rfl,rfl,SqL.of hp,rfl,_,_,rfl,rfl,_,rfl,?_⟩
 refine Xs (fun c'=>?_) (fun c'=>?_)
 · have h0:0 < a:=of_decide_eq_true c'
   refine ⟨_,rfl,p,_,_,_,rfl,rfl,SqL.of hp,rfl,_,rfl,_,_,rfl,rfl,hm0,?_⟩
   refine ⟨_,rfl,p,_,_,_,rfl,rfl,SqL.of hp,rfl,_,rfl,_,_,rfl,rfl,⟨hm0,by have h4:m < 4611686018427387904:=hmM;omega⟩,?_⟩
   refine ⟨_,rfl,p,_,_,_,rfl,rfl,hp,rfl,?_⟩
   refine ⟨_,rfl,?_⟩
   exact q _ _ (Int.emod_nonneg _ (by omega)) (Int.emod_lt_of_pos _ hm0) ⟨a / m,b,c,Zh,Int.ediv_nonneg ha (by omega),hc,by omega⟩ (Kp.upd _ _ _)
 · refine ⟨_,rfl,p,_,_,_,rfl,rfl,SqL.of hp,rfl,_,_,rfl,rfl,?_⟩
   refine ⟨_,rfl,p,_,_,_,rfl,rfl,hp,rfl,?_⟩
   have hp1:upd H p (.lst [.int a,.int b,.int (c+1)]) p=some (.lst [.int a,.int b,.int (c+1)]):=Zh
   refine ⟨_,rfl,p,_,_,_,rfl,rfl,SqL.of hp1,rfl,_,rfl,p,_,_,_,rfl,rfl,SqL.of hp1,rfl,_,_,rfl,rfl,.inl ⟨by decide,by decide⟩,_,_,rfl,rfl,_,rfl,p,_,_,_,rfl,rfl,SqL.of hp1,rfl,_,_,rfl,rfl,_,_,rfl,rfl,.inr ⟨by omega,by omega⟩,_,_,rfl,rfl,(by show (0:Int) < _;decide),?_⟩
   generalize hO:((b+48271 * (c+1)) * (39373+(c+1))) % 2147483647=once
   have hO0:0≤once:=by rw [← hO];exact Int.emod_nonneg _ (by decide)
   refine ⟨_,rfl,_,rfl,p,_,_,_,rfl,rfl,SqL.of hp1,rfl,_,_,rfl,rfl,_,rfl,_,_,rfl,rfl,(by show (0:Int) < _;decide),_,_,rfl,rfl,_,_,rfl,rfl,.inr ?_,_,_,rfl,rfl,(by show (0:Int) < _;decide),?_⟩
   · have:=Int.emod_nonneg once (show (40009:Int)≠0 by decide)
     have:=Int.emod_lt_of_pos once (show (0:Int) < 40009 by decide)
     exact ⟨by omega,by omega⟩
   generalize hW:((once+(c+1)) * (once % 40009+7)) % 2147483629=twice
   refine ⟨_,rfl,_,_,rfl,rfl,.inr ⟨by decide,by decide⟩,_,rfl,_,_,rfl,rfl,_,_,rfl,rfl,(by show (0:Int) < _;decide),_,_,rfl,rfl,⟨by decide,by decide⟩,_,rfl,_,_,rfl,rfl,hm0,?_⟩
   exact q _ _ (Int.emod_nonneg _ (by omega)) (Int.emod_lt_of_pos _ hm0) ⟨a,b,c+1,hp1,ha,by omega,by omega⟩ (Kp.upd _ _ _)
end
structure Txt (K:PySem.W.Frag) (mg:Str→Option Value):Prop extends YB mg where
 base:∃ t,mg "BASE"=some (.int 4 t)
 zero:∃ t,mg "BARE_NUMBER"=some (.int 0 t)
 bare:∃ a,mg "BARE"=some (.ref a)∧∀ H,SqT K H a [.str "bare"]
 figs:∃ a,mg "FIGURES"=some (.ref a)∧∀ H,SqT K H a [.int 0,.int 1,.int 2,.int 3]
section
variable {P:Program} {w:World} {K:PySem.W.Frag} {mg:Str→Option Value} {base:Heap}
def Xy (l:List Nat):Nat→Int
 | 0=>0
 | i+1=>Xy l i+((i:Int)+1) * (((l.getD i 0:Nat):Int) - 97+1)
def Wh:Sp:=fun vs H Q _=>∃ x:Str,vs=[.str x]∧x.length≤1000∧∀ H',Same H H'→Q (.int (Xy x.cps.toList x.length)) H'
def XW:Sp:=fun vs H Q _=>∃ (n:Int) (k:Nat),vs=[.int n,.int k]∧0≤n∧k≤1000∧Q (.int (n / 4 ^ k % 4)) H
theorem oa:(Str.ofString "a").cps.getD 0 0=97:=by decide +kernel
theorem scM:Zs ["name","total","place","letter"] ["name"] (Zl s_mark):=⟨rfl,rfl,rfl,by decide +kernel,rfl,by decide +kernel,by decide +kernel⟩
theorem Zke {f:Addr} {fd:FuncData} (F:Fun K "mark" "mark" s_mark f fd) (T:Txt K mg):FnOk P w K mg base ZH 1 f fd ["name"] Wh:=by
 refine F.ok scM (fun vs H Q E h=>?_) (fun cdv A outer s H vs Q E hr h=>?_)
 · obtain ⟨x,rfl,_⟩:=h;rfl
 obtain ⟨x,rfl,hx,q⟩:=h
 refine' ⟨?t,?h,?r⟩
 case h =>
   conv=>arg 2;whnf
   with_reducible refine' Zd ?a1 (Zd ?a2 (Zi ?a3))
   case a1=>exact Zx (i:=1) scM.nd rfl (Or.inl rfl) Zb
   case a2=>exact Uh PassesOwn.never rfl (Zia rfl T.enumerate (pv 0)) (Wm rfl (Ya (ZN (i:=2) scM.nd rfl (Or.inl rfl)) (Ya (ZN (i:=3) scM.nd rfl (Or.inl rfl)) XL))) (Zi (Zkz (i:=1) scM.nd rfl (Or.inl rfl) (Zn XM (pv 2) (Zn Yi (Zn Yx (Zw Zce rfl T.ord (by decide +kernel) (Zc (pv 3) Za)) (Zw Zce rfl T.ord (by decide +kernel) (Zc ZO Za))) Zb)) ZkG))
   case a3=>exact Zp (pv 1)
 refine ⟨_,rfl,x,rfl,?_⟩
 refine Zhi (fun i σ H'=>∃ y2 y3,σ=[some (.str x),some (.int (Xy x.cps.toList i)),y2,y3]∧Same H H'∧i≤x.cps.size) ⟨_,_,rfl,Same.refl H,Nat.zero_le _⟩ ?_ ?_
 · rintro i c t σ H1 hc ht ⟨y2,y3,rfl,s1,hi⟩
   have hi':i < x.cps.size:=(Array.getElem?_eq_some_iff.mp hc).1
   have hz:x.cps.size≤1000:=hx
   refine ⟨t,_,rfl,SqT.of Zh,rfl,_,_,rfl,_,_,rfl,rfl,?_⟩
   refine ⟨_,rfl,_,rfl,_,rfl,_,rfl,rfl,_,rfl,rfl,_,_,rfl,rfl,_,_,rfl,rfl,_,_,rfl,rfl,.inl ⟨by omega,by omega⟩,_,_,rfl,rfl,?_⟩
   have e:Xy x.cps.toList (i+1)=Xy x.cps.toList i+((i:Int)+1) * ((((⟨#[c]⟩:Str).cps.getD 0 0:Nat):Int) - (((Str.ofString "a").cps.getD 0 0:Nat):Int)+1):=by
     rw [oa]
     show Xy x.cps.toList i+((i:Int)+1) * (((x.cps.toList.getD i 0:Nat):Int) - 97+1)=Xy x.cps.toList i+((i:Int)+1) * ((c:Int) - 97+1)
     have e1:x.cps.toList.getD i 0=c:=by rw [List.getD_eq_getElem?_getD,Array.getElem?_toList,hc];rfl
     rw [e1]
   exact ⟨some (.int ((i:Int)+1)),some (.str ⟨#[c]⟩),by rw [e];rfl,s1.trans (ZB ht _),hi'⟩
 · rintro σ H1 ⟨y2,y3,rfl,s1,_⟩
   exact ⟨_,rfl,q H1 s1⟩
theorem scDg:Zs ["number","level","below"] ["number","level"] (Zl s_digit):=⟨rfl,rfl,rfl,by decide +kernel,rfl,by decide +kernel,by decide +kernel⟩
theorem Zif {f:Addr} {fd:FuncData} (F:Fun K "digit" "digit" s_digit f fd) (T:Txt K mg):FnOk P w K mg base ZH 1 f fd ["number","level"] XW:=by
 refine F.ok scDg (fun vs H Q E h=>?_) (fun cdv A outer s H vs Q E hr h=>?_)
 · obtain ⟨n,k,rfl,_⟩:=h;rfl
 obtain ⟨n,k,rfl,hn,hk,q⟩:=h
 obtain ⟨tb,hb⟩:=T.base
 refine' ⟨?t,?h,?r⟩
 case h =>
   conv=>arg 2;whnf
   with_reducible refine' Zd ?a1 (Zi ?a2)
   case a1=>exact Uh PassesOwn.never rfl (Xd rfl T.range (Zc (pv 1) Za)) (ZN (i:=2) scDg.nd rfl (Or.inl rfl)) (Zi (Zx (i:=0) scDg.nd rfl (Or.inl rfl) (Zn Zes (pv 0) (Xk rfl hb (v:=.int 4) ⟨_,rfl⟩))))
   case a2=>exact Zp (Zn Xj (pv 0) (Xk rfl hb (v:=.int 4) ⟨_,rfl⟩))
 refine ⟨_,rfl,k,rfl,by omega,by omega,?_⟩
 have ek:(k:Int).toNat=k:=by omega
 rw [ek]
 refine Va (fun i σ H'=>∃ y,σ=[some (.int (n / 4 ^ i)),some (.int k),y]∧H'=H) ⟨_,by rw [Int.pow_zero,Int.ediv_one];rfl,rfl⟩ ?_ ?_
 · rintro i σ H1 hi ⟨y,rfl,rfl⟩
   have e:n / 4 ^ (i+1)=n / 4 ^ i / 4:=by rw [Int.pow_succ,← Int.ediv_ediv_of_nonneg (Int.pow_nonneg (by decide))]
   exact ⟨_,rfl,_,_,rfl,rfl,⟨by decide,by decide⟩,some (.int (0+(i:Int))),by rw [e];rfl,rfl⟩
 · rintro σ H1 ⟨y,rfl,rfl⟩
   exact ⟨_,rfl,_,_,rfl,rfl,(by show (0:Int) < 4;decide),q⟩
theorem nbf:decide (V.str (Str.ofString "bare")=V.str (Str.ofString "fork"))=false:=by decide +kernel
theorem nlf:decide (V.str (Str.ofString "leaf")=V.str (Str.ofString "fork"))=false:=by decide +kernel
theorem nbl:decide (V.str (Str.ofString "bare")=V.str (Str.ofString "leaf"))=false:=by decide +kernel
theorem nfl:decide (V.str (Str.ofString "fork")=V.str (Str.ofString "leaf"))=false:=by decide +kernel
theorem scPi:Zs ["node"] ["node"] (Zl s_parts_in):=⟨rfl,rfl,rfl,by decide +kernel,rfl,by decide +kernel,by decide +kernel⟩
theorem ZhN {f:Addr} {fd:FuncData} (F:Fun K "parts_in" "parts_in" s_parts_in f fd):FnOk P w K mg base ZH 1 f fd ["node"] (Ue K):=by
 refine F.ok scPi (fun vs H Q E h=>?_) (fun cdv A outer s H vs Q E hr h=>?_)
 · obtain ⟨a,n,rfl,_⟩:=h;rfl
 obtain ⟨a,n,rfl,hn,q⟩:=h
 refine ⟨_,Zi (Zp (WH (ZL Yq (Zo ZQ (pv 0) Zb (fun _ _=>rfl)) ZO (ZE _)) (Zo ZQ (pv 0) Zb (fun _ _=>rfl)) Zeh)),?_⟩
 cases n with
 | bare =>
   refine ⟨_,rfl,a,_,_,_,rfl,rfl,hn,rfl,rfl,_,rfl,?_⟩
   rw [nbf]
   exact ZM fun p o hp hd=>q p _ (ZB hp _) (.inl (.inr ⟨o,Zh⟩))
 | leaf m ps =>
   obtain ⟨t,e,_⟩:=hn
   refine ⟨_,rfl,a,_,_,_,rfl,rfl,e,rfl,rfl,_,rfl,?_⟩
   rw [nlf]
   exact ZM fun p o hp hd=>q p _ (ZB hp _) (.inl (.inr ⟨o,Zh⟩))
 | fork qs =>
   obtain ⟨t,e,e2,_⟩:=hn
   refine ⟨_,rfl,a,_,_,_,rfl,rfl,e,rfl,rfl,_,rfl,?_⟩
   rw [decide_eq_true rfl]
   exact Yh ⟨_,rfl,a,_,_,_,rfl,rfl,e,rfl,q t H (Same.refl H) e2⟩
theorem scPr:Zs ["node"] ["node"] (Zl s_pairs_in):=⟨rfl,rfl,rfl,by decide +kernel,rfl,by decide +kernel,by decide +kernel⟩
theorem Zhb {f:Addr} {fd:FuncData} (F:Fun K "pairs_in" "pairs_in" s_pairs_in f fd):FnOk P w K mg base ZH 1 f fd ["node"] (XV K):=by
 refine F.ok scPr (fun vs H Q E h=>?_) (fun cdv A outer s H vs Q E hr h=>?_)
 · obtain ⟨a,n,rfl,_⟩:=h;rfl
 obtain ⟨a,n,rfl,hn,q⟩:=h
 refine ⟨_,Zi (Zp (WH (ZL Yq (Zo ZQ (pv 0) Zb (fun _ _=>rfl)) ZO (ZE _)) (Zo ZQ (pv 0) Zb (fun _ _=>rfl)) Zeh)),?_⟩
 have nil:∀ p o,H p=none→o.dict=none→PairsAt (upd H p (.frz o (.tup []))) p []:=fun p o hp hd=>⟨o,[],Zh,hd,rfl,fun i a p e=>by simp at e⟩
 cases n with
 | bare =>
   refine ⟨_,rfl,a,_,_,_,rfl,rfl,hn,rfl,rfl,_,rfl,?_⟩
   rw [nbl]
   exact ZM fun p o hp hd=>q p _ (ZB hp _) (nil p o hp hd)
 | fork qs =>
   obtain ⟨t,e,_⟩:=hn
   refine ⟨_,rfl,a,_,_,_,rfl,rfl,e,rfl,rfl,_,rfl,?_⟩
   rw [nfl]
   exact ZM fun p o hp hd=>q p _ (ZB hp _) (nil p o hp hd)
 | leaf m ps =>
   obtain ⟨t,e,e2⟩:=hn
   refine ⟨_,rfl,a,_,_,_,rfl,rfl,e,rfl,rfl,_,rfl,?_⟩
   rw [decide_eq_true rfl]
   exact Yh ⟨_,rfl,a,_,_,_,rfl,rfl,e,rfl,q t H (Same.refl H) e2⟩
theorem scHm:Zs ["node","number"] ["node","number"] (Zl s_has_mark):=⟨rfl,rfl,rfl,by decide +kernel,rfl,by decide +kernel,by decide +kernel⟩
theorem Zkh {f:Addr} {fd:FuncData} (F:Fun K "has_mark" "has_mark" s_has_mark f fd):FnOk P w K mg base ZH 1 f fd ["node","number"] (Vi K):=by
 refine F.ok scHm (fun vs H Q E h=>?_) (fun cdv A outer s H vs Q E hr h=>?_)
 · obtain ⟨a,n,m,rfl,_⟩:=h;rfl
 obtain ⟨a,n,m,rfl,hn,q⟩:=h
 refine ⟨_,Zi (Zp (Um (YT Yq (Zo ZQ (pv 0) Zb (fun _ _=>rfl)) ZO (ZE _)) (Zan (YT Yq (Zo ZQ (pv 0) Zb (fun _ _=>rfl)) (pv 1) (ZE _))))),?_⟩
 cases n with
 | bare =>
   refine ⟨_,rfl,a,_,_,_,rfl,rfl,hn,rfl,rfl,_,rfl,?_⟩
   rw [nbl]
   exact ZM q
 | fork qs =>
   obtain ⟨t,e,_⟩:=hn
   refine ⟨_,rfl,a,_,_,_,rfl,rfl,e,rfl,rfl,_,rfl,?_⟩
   rw [nfl]
   exact ZM q
 | leaf m' ps =>
   obtain ⟨t,e,e2⟩:=hn
   refine ⟨_,rfl,a,_,_,_,rfl,rfl,e,rfl,rfl,_,rfl,?_⟩
   rw [decide_eq_true rfl]
   refine Yh ⟨_,rfl,a,_,_,_,rfl,rfl,e,rfl,_,rfl,rfl,?_⟩
   have:decide (V.int m'=V.int m)=decide (m'=m):=by
     by_cases z:m'=m
     · subst z;rw [decide_eq_true rfl,decide_eq_true rfl]
     · rw [decide_eq_false z,decide_eq_false (fun y=>z (by cases y;rfl))]
   rw [this]
   exact q
theorem scFo:Zs ["parts"] ["parts"] (Zl s_fork_of):=⟨rfl,rfl,rfl,by decide +kernel,rfl,by decide +kernel,by decide +kernel⟩
theorem ZfM {f:Addr} {fd:FuncData} (F:Fun K "fork_of" "fork_of" s_fork_of f fd) (T:Txt K mg):FnOk P w K mg base ZH 1 f fd ["parts"] (WA K):=by
 refine F.ok scFo (fun vs H Q E h=>?_) (fun cdv A outer s H vs Q E hr h=>?_)
 · obtain ⟨l,qs,rfl,_⟩:=h;rfl
 obtain ⟨l,qs,rfl,el,h4,q⟩:=h
 refine ⟨_,Zi (Zp (Xa (Zc ZO (Zc (Yu ZbO rfl T.tuple (by decide +kernel) (Zc (pv 0) Za)) Za)))),?_⟩
 refine ⟨_,rfl,l,_,rfl,.inl ⟨SqL.of el,fun t ht=>⟨(by show 2≤sizeLine;decide),fun a ha=>?_⟩⟩⟩
 exact q a _ ((ZB ht _).trans (ZB ha _)) ⟨t,SqT.of Zh,SqT.of (ZB ha _ _ _ Zh),h4⟩
def pvl (H:Hp) (a:Addr):V:=match H a with
 | some (.tup [_,v])=>v
 | _=>.non
def Uk (ps:List (Str×V)):Prop:=ps.Pairwise fun p q=>¬ (q.1.cps.toList < p.1.cps.toList)
theorem ZfJ {H:Hp} {ts ts':List Addr} {ps:List (Str×V)} (h:PairT H ts ps) (o:ZeA (ps.map (·.1)) ts ts'):∃ ps',ps'.Perm ps∧Uk ps'∧PairT H ts' ps':=by
 obtain ⟨zs,hp,e,hs⟩:=o
 have val:∀ (i:Nat) (a:Addr) (p:Str×V),ts[i]?=some a→ps[i]?=some p→pvl H a=p.2:=fun i a p e1 e2=>by unfold pvl;rw [h.2 i a p e1 e2]
 have hz:((ps.map (·.1)).zip ts).map (fun z=>(z.1,pvl H z.2))=ps:=by
   apply List.ext_getElem?
   intro i
   rw [List.getElem?_map]
   cases e2:ps[i]? with
   | none =>
     have:((ps.map (·.1)).zip ts)[i]?=none:=by
       rw [List.getElem?_eq_none_iff] at e2 ⊢
       rw [List.length_zip,List.length_map];omega
     rw [this];rfl
   | some p =>
     have hi:i < ps.length:=(List.getElem?_eq_some_iff.mp e2).1
     obtain ⟨a,ea⟩:∃ a,ts[i]?=some a:=⟨_,List.getElem?_eq_getElem (by rw [h.1];exact hi)⟩
     have:((ps.map (·.1)).zip ts)[i]?=some (p.1,a):=by
       rw [List.getElem?_zip_eq_some]
       exact ⟨by rw [List.getElem?_map,e2];rfl,ea⟩
     rw [this]
     show some (p.1,pvl H a)=some p
     rw [val i a p ea e2]
 refine ⟨zs.map fun z=>(z.1,pvl H z.2),?_,?_,?_⟩
 · have:=hp.map fun z:Str×Addr=>(z.1,pvl H z.2)
   rwa [hz] at this
 · unfold Uk;rw [List.pairwise_map];exact hs
 · refine ⟨by rw [e,List.length_map,List.length_map],fun i a p e1 e2=>?_⟩
   rw [e,List.getElem?_map] at e1
   rw [List.getElem?_map] at e2
   cases ez:zs[i]? with
   | none=>rw [ez] at e1;cases e1
   | some z =>
     rw [ez] at e1 e2
     cases (show some z.2=some a from e1)
     cases (show some (z.1,pvl H z.2)=some p from e2)
     have hm:=hp.mem_iff.mp (List.mem_of_getElem? ez)
     obtain ⟨j,hj⟩:=List.mem_iff_getElem?.mp hm
     rw [List.getElem?_zip_eq_some] at hj
     obtain ⟨h1,h2⟩:=hj
     rw [List.getElem?_map] at h1
     cases e3:ps[j]? with
     | none=>rw [e3] at h1;cases h1
     | some pj =>
       rw [e3] at h1
       have h1':pj.1=z.1:=by simpa using h1
       have:=h.2 j z.2 pj h2 e3
       rw [this,val j z.2 pj h2 e3,h1']
def Zg (x:Str):Int:=Xy x.cps.toList x.length
def Xt:Str:=(("leaf_of":Str)++".<locals>.")++"<lambda>"
def UT (K:PySem.W.Frag) (Pl:Addr) (lpos:Pos):Sp:=fun vs H Q _=>∃ (l:Addr) (ts:List Addr) (ps:List (Str×V)),vs=[.ref l]∧H l=some (.lst (ts.map V.ref))∧PairT H ts ps∧ps≠[]∧ps.length < 64∧(∀ p∈ps,p.1.length≤1000)∧LamAt H Pl lpos Xt ∧
 ∀ (a:Addr) (H':Hp) (p1:Str×V) (pr:List (Str×V)),Grown Pl H H'→LamAt H' Pl lpos Xt→(p1::pr).Perm ps→Uk (p1::pr)→NodeAt K H' a (.leaf (Zg p1.1) (p1::pr))→Q (.ref a) H'
theorem Grown.trans' {Pl:Addr} {H H1 H2:Hp} (a:Grown Pl H H1) (b:Same H1 H2):Grown Pl H H2:=fun x o n h=>b _ _ (a x o n h)
theorem LamAt.same {H H':Hp} {Pl:Addr} {lpos:Pos} {q:Str} (h:LamAt H Pl lpos q) (s:Same H H'):LamAt H' Pl lpos q:=by
 rcases h with h | ⟨c,h,h2⟩
 · exact .inl (s _ _ h)
 · exact .inr ⟨c,s _ _ h,s _ _ h2⟩
theorem scLf:Zs ["pairs","rising","first_name"] ["pairs"] (Zl s_leaf_of):=⟨rfl,rfl,rfl,by decide +kernel,rfl,by decide +kernel,by decide +kernel⟩
def Zlt:Stmt→Pos
 | .Assign _ (.Call _ _ [⟨_,.Lambda _ _ _ p,_⟩] _) _=>p
 | _=>⟨0,0,0,0⟩
def YG:Pos:=Zlt ((XI s_leaf_of).getD 0 (.Pass ⟨0,0,0,0⟩))
theorem ZjK {f c Pl:Addr} {fd:FuncData} (F:FunC K "leaf_of" "leaf_of" s_leaf_of f fd c Pl) (T:Txt K mg) (hBm:UM base mg) (DM:Def P w K mg base 1 "mark" ["name"] Wh):FnOk P w K mg base ZH 2 f fd ["pairs"] (UT K Pl YG):=by
 refine F.ok scLf (fun vs H Q E h=>?_) (fun A outer s H vs Q E hr h=>?_)
 · obtain ⟨l,ts,ps,rfl,_⟩:=h;rfl
 obtain ⟨l,ts,ps,rfl,el,hpt,hne,h64,hnl,hL,q⟩:=h
 refine' ⟨?t,?h,?r⟩
 case h =>
   conv=>arg 2;whnf
   with_reducible refine' Zd ?a1 (Zd ?a2 (Zi ?a3))
   case a1=>exact Zx (i:=1) scLf.nd rfl (Or.inl rfl) (ZiB (c:=c) (Pl:=Pl) rfl T.sorted (pv 0) hr rfl F.hd hBm)
   case a2=>exact Zx (i:=2) scLf.nd rfl (Or.inl rfl) (Zo ZQ (Zo Zy (pv 1) Zb (fun _ _=>rfl)) Zb (fun _ _=>rfl))
   case a3=>exact Zp (Xa (Zc ZO (Zc (Zz DM hr (Zc (pv 2) Za)) (Zc (Yu VD rfl T.tuple (by decide +kernel) (Zc (pv 1) Za)) Za))))
 refine ⟨_,rfl,l,ts,ps.map (·.1),rfl,el,by rw [hpt.1];exact h64,by rw [List.length_map,hpt.1],fun i t k e1 e2=>?_,hL,fun H2 r ts' gr hL2 hr2 hT=>?_⟩
 · rw [List.getElem?_map] at e2
   cases e3:ps[i]? with
   | none=>rw [e3] at e2;cases e2
   | some p =>
     rw [e3] at e2
     have e4:p.1=k:=by simpa using e2
     rw [← e4]
     exact ⟨_,hpt.2 i t p e1 e3⟩
 obtain ⟨ps',hperm,hsort,hpt'⟩:=ZfJ hpt hT
 obtain ⟨tb,htb⟩:=hL.tbl
 have tf2:TF H H2:=gr.tf htb
 have hpt2:=hpt'.tf tf2
 cases ps' with
 | nil=>exact absurd (List.Perm.nil_eq hperm).symm hne
 | cons p1 pr =>
   cases ts' with
   | nil=>have:=hpt'.1;simp at this
   | cons t1 tr =>
     have e1:=hpt2.2 0 t1 p1 rfl rfl
     have s3:=ZB hr2 (.lst ((t1::tr).map V.ref))
     have hn1:p1.1.length≤1000:=hnl p1 (hperm.mem_iff.mp List.mem_cons_self)
     refine ⟨_,rfl,r,_,_,_,rfl,rfl,SqL.of Zh,(show YO ((t1::tr).map V.ref) ((0:Nat):Int)=some (V.ref t1) from Zv rfl),t1,_,_,_,rfl,rfl,SqT.of (s3 _ _ e1),rfl,?_⟩
     refine ⟨_,rfl,p1.1,rfl,hn1,fun H4 s4=>⟨_,rfl,r,_,rfl,SqL.of (s4 _ _ Zh),fun t o ht hd=>⟨(by show 3≤sizeLine;decide),fun a ha=>?_⟩⟩⟩
     have s5:=ZB ht (.frz o (.tup ((t1::tr).map V.ref)))
     have s6:=ZB ha (.tup [.str "leaf",.int (Zg p1.1),.ref t])
     have S:=((s3.trans s4).trans s5).trans s6
     refine q a _ p1 pr (Grown.trans' gr S) (LamAt.same hL2 S) hperm hsort ⟨t,SqT.of Zh,o,t1::tr,s6 _ _ Zh,hd,hpt2.tf S.tf⟩
end
end K20
set_option maxHeartbeats 4000000
namespace K20
open PySem L2
structure Xm (K:PySem.W.Frag) (C:Addr):Prop where
 cl:Cls K C
 nN:NoAttr K C "nodes"
 nT:NoAttr K C "tables"
section
variable {P:Program} {w:World} {K:PySem.W.Frag} {mg:Str→Option Value} {base:Heap} {C:Addr}
def ZfL (K:PySem.W.Frag) (C:Addr):Sp:=fun vs H Q _=>∃ (p dx:Addr),vs=[.ref p]∧H p=some (.ins C dx [])∧∀ (ln dt:Addr) (H':Hp),H ln=none→H dt=none→StoreAt K C p ln dt H' [.bare] [(Sum.inl 0,.bl true)]→Kq [p] H H'→Q .non H'
theorem scIn:Zs ["self"] ["self"] (Zl c_Store___init__):=⟨rfl,rfl,rfl,by decide +kernel,rfl,by decide +kernel,by decide +kernel⟩
theorem ZjB {f:Addr} {fd:FuncData} (F:Fun K "__init__" "Store.__init__" c_Store___init__ f fd) (T:Txt K mg) (TC:Xm K C):FnOk P w K mg base ZH 1 f fd ["self"] (ZfL K C):=by
 refine F.ok scIn (fun vs H Q E h=>?_) (fun cdv A outer s H vs Q E hr h=>?_)
 · obtain ⟨p,dx,rfl,_⟩:=h;rfl
 obtain ⟨p,dx,rfl,hp,q⟩:=h
 obtain ⟨ab,hb,hbt⟩:=T.bare
 obtain ⟨tz,hz⟩:=T.zero
 refine ⟨_,Zd (WB (pv 0) (Yn (Zc (Xk rfl hb (v:=.ref ab) rfl) Za)) rfl) (Zi (WB (pv 0) (ZjC (Zig (Xk rfl hz (v:=.int 0) ⟨_,rfl⟩) Vt Zkc) rfl rfl (by simp) (by decide)) rfl)),?_⟩
 refine ⟨(by show 1≤sizeLine;decide),fun ln hln=>?_⟩
 have npl:p≠ln:=Zt hp hln
 refine ⟨_,rfl,p,C,dx,[],rfl,(by rw [Zk npl];exact hp),TC.cl,TC.nN,(by show 0 < 1000;decide),?_⟩
 intro dt hdt
 have npd:p≠dt:=fun z=>by rw [← z,Zh] at hdt;cases hdt
 have nld:ln≠dt:=fun z=>by rw [← z,Zk npl.symm,Zh] at hdt;cases hdt
 have hdt0:H dt=none:=by rw [Zk npd.symm,Zk nld.symm] at hdt;exact hdt
 refine ⟨Zh,[(Sum.inl 0,.bl true)],rfl,by decide,_,rfl,p,C,dx,_,rfl,(by rw [Zk npd,Zk npd,Zh]),TC.cl,TC.nT,(by show 1 < 1000;decide),?_⟩
 refine q ln dt _ hln hdt0 ⟨⟨dx,Zh⟩,⟨[ab],?_,rfl,fun i a n e1 e2=>?_⟩,?_⟩ fun b o nb e=>?_
 · rw [Zk npl.symm,Zk nld,Zk nld,Zk npl.symm,Zh];rfl
 · cases i with
   | zero =>
     cases (show some ab=some a from e1)
     cases (show some Nd.bare=some n from e2)
     exact hbt _
   | succ i=>simp at e1
 · rw [Zk npd.symm,Zh];rfl
 · have nb':b≠p:=fun z=>nb (by simp [z])
   rw [Zk nb',Zk (Zt e hdt0),Zk (Zt e hdt0),Zk nb',Zk (Zt e hln)];exact e
def Vl (K:PySem.W.Frag) (C:Addr):Sp:=fun vs H Q _=>∃ (st ln dt a:Addr) (nds:List Nd) (tabs:List (Zj×V)) (n:Nd),vs=[.ref st,.ref a]∧StoreAt K C st ln dt H nds tabs∧NodeAt K H a n∧nds.length≤100000 ∧
 ∀ H',StoreAt K C st ln dt H' (nds++[n]) tabs→Kq [ln] H H'→TF H H'→Q (.int nds.length) H'
theorem scKe:Zs ["self","node"] ["self","node"] (Zl c_Store_keep):=⟨rfl,rfl,rfl,by decide +kernel,rfl,by decide +kernel,by decide +kernel⟩
theorem Zjv {f:Addr} {fd:FuncData} (F:Fun K "keep" "Store.keep" c_Store_keep f fd) (T:Txt K mg) (TC:Xm K C):FnOk P w K mg base ZH 1 f fd ["self","node"] (Vl K C):=by
 refine F.ok scKe (fun vs H Q E h=>?_) (fun cdv A outer s H vs Q E hr h=>?_)
 · obtain ⟨st,ln,dt,a,nds,tabs,n,rfl,_⟩:=h;rfl
 obtain ⟨st,ln,dt,a,nds,tabs,n,rfl,⟨⟨dx,ob⟩,⟨as,nl,hl,hn⟩,tb⟩,hna,hsz,q⟩:=h
 refine ⟨_,Zd (YC (Xg PySem.F.plainAttrs_list PySem.F.slot_list_append PySem.F.type_list_append Yt (ZU (pv 0) rfl) (Zc (pv 1) Za))) (Zi (Zp (Zn Yx (Zw ZG rfl T.len PySem.boot_len (Zc (ZU (pv 0) rfl) Za)) Zb))),?_⟩
 have e1:(as.map V.ref).length < sizeLine:=by rw [List.length_map,hl];exact Nat.lt_of_le_of_lt hsz (by decide)
 refine ⟨_,rfl,st,C,dx,_,_,rfl,ob,TC.cl,TC.nN,XA ln dt,.inl ⟨rfl,_,SqL.of nl⟩,_,rfl,ln,_,_,rfl,rfl,nl,e1,?_⟩
 have nsl:st≠ln:=Zah ob nl (by intro z;cases z)
 have ndl:dt≠ln:=Zah tb nl (by intro z;cases z)
 refine ⟨_,rfl,st,C,dx,_,_,rfl,(by rw [Zk nsl];exact ob),TC.cl,TC.nN,XA ln dt,ln,_,rfl,.inl (SqL.of Zh),_,_,rfl,rfl,?_⟩
 have tf:=Zdd (o:=.lst (as.map V.ref++[.ref a])) nl
 have e2:((((as.map V.ref++[V.ref a]).length:Nat):Int) - 1)=(nds.length:Int):=by rw [List.length_append,List.length_map,hl];show ((nds.length+1:Nat):Int) - 1=_;omega
 have fin:Q (.int (nds.length:Int)) (upd H ln (.lst (as.map V.ref++[.ref a]))):=by
   refine q _ ⟨⟨dx,by rw [Zk nsl];exact ob⟩,⟨as++[a],by rw [List.map_append];exact Zh,by rw [List.length_append,List.length_append,hl];rfl,fun i b m e3 e4=>?_⟩,by rw [Zk ndl];exact tb⟩ ZaE tf
   by_cases hi:i < as.length
   · rw [List.getElem?_append_left hi] at e3
     rw [List.getElem?_append_left (by rw [← hl];exact hi)] at e4
     exact (hn i b m e3 e4).tf tf
   · rw [List.getElem?_append_right (by omega)] at e3
     rw [List.getElem?_append_right (by omega)] at e4
     have h0:i - as.length=0:=by
       cases z:i - as.length with
       | zero=>rfl
       | succ j=>rw [z] at e3;simp at e3
     rw [h0] at e3
     rw [show i - nds.length=0 by omega] at e4
     cases (show some a=some b from e3)
     cases (show some n=some m from e4)
     exact hna.tf tf
 rw [← e2] at fin
 exact fin
def Zfo (K:PySem.W.Frag) (C:Addr):Sp:=fun vs H Q _=>∃ (st ln dt:Addr) (nds:List Nd) (tabs:List (Zj×V)) (n:Int),vs=[.ref st,.int n]∧StoreAt K C st ln dt H nds tabs∧tabs.length≤100000 ∧
 ∀ H',StoreAt K C st ln dt H' nds (Yp tabs (Sum.inl n) (.bl true))→Kq [dt] H H'→TF H H'→Q (.int n) H'
theorem scAs:Zs ["self","number"] ["self","number"] (Zl c_Store_as_table):=⟨rfl,rfl,rfl,by decide +kernel,rfl,by decide +kernel,by decide +kernel⟩
theorem Zls {f:Addr} {fd:FuncData} (F:Fun K "as_table" "Store.as_table" c_Store_as_table f fd) (TC:Xm K C):FnOk P w K mg base ZH 1 f fd ["self","number"] (Zfo K C):=by
 refine F.ok scAs (fun vs H Q E h=>?_) (fun cdv A outer s H vs Q E hr h=>?_)
 · obtain ⟨st,ln,dt,nds,tabs,n,rfl,_⟩:=h;rfl
 obtain ⟨st,ln,dt,nds,tabs,n,rfl,⟨⟨dx,ob⟩,⟨as,nl,hl,hn⟩,tb⟩,hsz,q⟩:=h
 refine ⟨_,Zd (Zbc (UI hr) (ZU (pv 0) rfl) (pv 1) Vt rfl) (Zi (Zp (pv 1))),?_⟩
 refine ⟨_,rfl,st,C,dx,_,_,rfl,ob,TC.cl,TC.nT,ZgO ln dt,_,rfl,dt,_,rfl,DPut.k (k:=Sum.inl n) tb (Nat.lt_of_le_of_lt hsz (by decide)),_,rfl,?_⟩
 have nsd:st≠dt:=Zah ob tb (by intro z;cases z)
 have nld:ln≠dt:=Zah nl tb (by intro z;cases z)
 have tf:=Zkg (o:=.dK (Yp tabs (Sum.inl n) (.bl true))) tb
 exact q _ ⟨⟨dx,by rw [Zk nsd];exact ob⟩,⟨as,by rw [Zk nld];exact nl,hl,fun i a m e1 e2=>(hn i a m e1 e2).tf tf⟩,Zh⟩ ZaE tf
def Zea (K:PySem.W.Frag) (C:Addr):Sp:=fun vs H Q _=>∃ (st ln dt:Addr) (nds:List Nd) (tabs:List (Zj×V)) (n:Int),vs=[.ref st,.int n]∧StoreAt K C st ln dt H nds tabs∧(ZJ tabs (Sum.inl n)).isSome=true∧Q .non H
theorem scCk:Zs ["self","table"] ["self","table"] (Zl c_Store_check_table):=⟨rfl,rfl,rfl,by decide +kernel,rfl,by decide +kernel,by decide +kernel⟩
theorem ZgX {f:Addr} {fd:FuncData} (F:Fun K "check_table" "Store.check_table" c_Store_check_table f fd) (TC:Xm K C):FnOk P w K mg base ZH 1 f fd ["self","table"] (Zea K C):=by
 refine F.ok scCk (fun vs H Q E h=>?_) (fun cdv A outer s H vs Q E hr h=>?_)
 · obtain ⟨st,ln,dt,nds,tabs,n,rfl,_⟩:=h;rfl
 obtain ⟨st,ln,dt,nds,tabs,n,rfl,⟨⟨dx,ob⟩,⟨as,nl,hl,hn⟩,tb⟩,hs,q⟩:=h
 refine ⟨_,Zi (Yk (ZgU (Zgr (UI hr) (pv 1) (ZU (pv 0) rfl))) (Zi Zjh) ZW),?_⟩
 refine ⟨_,rfl,_,rfl,st,C,dx,_,_,rfl,ob,TC.cl,TC.nT,ZgO ln dt,dt,_,rfl,DGet.k (k:=Sum.inl n) tb,_,rfl,?_⟩
 rw [hs]
 exact ZM q
end
end K20
set_option maxHeartbeats 4000000
namespace K20
open PySem L2
def Zr (n:Int) (k:Nat):Nat:=(n / 4 ^ k % 4).toNat
theorem XF (n:Int) (k:Nat):(Zr n k:Int)=n / 4 ^ k % 4:=Int.toNat_of_nonneg (Int.emod_nonneg _ (by decide))
theorem YR (n:Int) (k:Nat):Zr n k < 4:=by
 have h1:=XF n k
 have h2:=Int.emod_lt_of_pos (n / 4 ^ k) (show (0:Int) < 4 by decide)
 omega
def YI (nds:List Nd) (m:Int):Nat→Nat→Nat→Option (List Nat)
 | 0,_,_=>none
 | f+1,lev,num=>match nds[num]? with
   | none=>none
   | some (.fork qs)=>(qs[Zr m lev]?).bind fun q=>(YI nds m f (lev+1) q).map (num::·)
   | some _=>some [num]
def iN (n:Nat):V:=.int (n:Int)
section
variable {P:Program} {w:World} {K:PySem.W.Frag} {mg:Str→Option Value} {base:Heap} {C:Addr}
theorem _root_.L2.StoreAt.node {st ln dt:Addr} {H:Hp} {nds:List Nd} {tabs:List (Zj×V)} (S:StoreAt K C st ln dt H nds tabs) {i:Nat} {n:Nd} (h:nds[i]?=some n):∃ (as:List Addr) (a:Addr),H ln=some (.lst (as.map V.ref))∧as[i]?=some a∧NodeAt K H a n:=by
 obtain ⟨_,⟨as,e,l,hn⟩,_⟩:=S
 have hi:i < as.length:=by rw [l];exact (List.getElem?_eq_some_iff.mp h).1
 exact ⟨as,as[i],e,List.getElem?_eq_getElem hi,hn i _ n (List.getElem?_eq_getElem hi) h⟩
def ZiW (K:PySem.W.Frag) (C:Addr):Sp:=fun vs H Q _=>∃ (st ln dt:Addr) (nds:List Nd) (tabs:List (Zj×V)) (t:Nat) (x:Str) (f:Nat) (ws:List Nat),vs=[.ref st,iN t,.str x]∧StoreAt K C st ln dt H nds tabs∧(ZJ tabs (Sum.inl (t:Int))).isSome=true∧x.length≤1000∧0≤Zg x∧f≤1000 ∧
 YI nds (Zg x) f 0 t=some ws∧∀ r H',H r=none→Same H H'→H' r=some (.lst (ws.map iN))→Q (.ref r) H'
theorem scWa:Zs ["self","table","name","told","parts","part"] ["self","table","name"] (Zl c_Store_way):=⟨rfl,rfl,rfl,by decide +kernel,rfl,by decide +kernel,by decide +kernel⟩
theorem Zlb {f : Addr} {fd:FuncData} (F:Fun K "way" "Store.way" c_Store_way f fd) (T:Txt K mg) (TC:Xm K C) (DC:DefM P w K mg base 1 C "check_table" ["self","table"] (Zea K C)) (DP:Def P w K mg base 1 "parts_in" ["node"] (Ue K))
   (DM:Def P w K mg base 1 "mark" ["name"] Wh) (DG:Def P w K mg base 1 "digit" ["number","level"] XW):FnOk P w K mg base ZH 2 f fd ["self","table","name"] (ZiW K C):=by
 refine F.ok scWa (fun vs H Q E h=>?_) (fun cdv A outer s H vs Q E hr h=>?_)
 · obtain ⟨st,ln,dt,nds,tabs,t,x,f,ws,rfl,_⟩:=h;rfl
 obtain ⟨st,ln,dt,nds,tabs,t,x,fu,ws,rfl,S,htab,hx,hm,hfu,hway,q⟩:=h
 refine' ⟨?t,?h,?r⟩
 case h =>
   conv=>arg 2;whnf
   with_reducible refine' Zd ?a1 (Zd ?a2 (Zd ?a3 (Zd (VT ?w0 ?w1 (Zd ?b1 (Zd ?b2 (Zi ?b3)))) (Zi ?a5))))
   case a1=>exact YC (Yy DC TC.cl hr (pv 0) (Zc (pv 1) Za))
   case a2=>exact Zx (i:=3) scWa.nd rfl (Or.inl rfl) (Yn (Zc (pv 1) Za))
   case a3=>exact Zx (i:=4) scWa.nd rfl (Or.inl rfl) (Zz DP hr (Zc (Zo Zy (ZU (pv 0) rfl) (pv 1) (fun _ _=>rfl)) Za))
   case w0=>exact PassesOwn.never
   case w1=>exact UB (pv 4) (fun _=>rfl)
   case b1=>exact Zx (i:=5) scWa.nd rfl (Or.inl rfl) (Zo ZQ (pv 4) (Zz DG hr (Zc (Zz DM hr (Zc (pv 2) Za)) (Zc (Zn Yx (Zw ZG rfl T.len PySem.boot_len (Zc (pv 3) Za)) Zb) Za))) (fun _ _=>rfl))
   case b2=>exact YC (Xg PySem.F.plainAttrs_list PySem.F.slot_list_append PySem.F.type_list_append Yt (pv 3) (Zc (pv 5) Za))
   case b3=>exact Zx (i:=4) scWa.nd rfl (Or.inl rfl) (Zz DP hr (Zc (Zo Zy (ZU (pv 0) rfl) (pv 5) (fun _ _=>rfl)) Za))
   case a5=>exact Zp (pv 3)
 obtain ⟨dx,ob⟩:=S.ob
 refine ⟨_,rfl,st,dx,_,rfl,ob,ZS ln dt (by decide +kernel) (by decide +kernel),_,rfl,st,ln,dt,nds,tabs,t,rfl,S,htab,_,rfl,(by show 1≤sizeLine;decide),fun l hl=>?_⟩
 obtain ⟨n,hn⟩:∃ n,nds[t]?=some n:=by
   cases fu with
   | zero=>cases hway
   | succ fu =>
     cases e:nds[t]? with
     | none=>unfold YI at hway;rw [e] at hway;cases hway
     | some n=>exact ⟨n,rfl⟩
 have s1:=ZB hl (.lst [iN t])
 have S1:=S.keep s1
 obtain ⟨as,a,nl,ha,hna⟩:=S1.node hn
 obtain ⟨dx1,ob1⟩:=S1.ob
 refine ⟨_,rfl,st,C,dx1,_,_,rfl,ob1,TC.cl,TC.nN,XA ln dt,_,rfl,ln,_,_,_,rfl,rfl,SqL.of nl,Zv (by rw [List.getElem?_map,ha];rfl),a,n,rfl,hna,fun pt H2 s2 hpt=>?_⟩
 refine ⟨fun fl σ H'=>∃ (pre wr:List Nat) (num:Nat) (n:Nd) (pt:Addr) (y:Option V),σ=[some (.ref st),some (iN t),some (.str x),some (.ref l),some (.ref pt),y]∧Same H H'∧H' l=some (.lst ((pre++[num]).map iN))∧nds[num]?=some n∧SqT K H' pt (n.parts.map iN)∧YI nds (Zg x) fl pre.length num=some wr∧ws=pre++wr∧fl+pre.length≤1000,
   ⟨fu,[],ws,t,n,pt,_,rfl,s1.trans s2,s2 _ _ Zh,hn,hpt,hway,rfl,by simpa using hfu⟩,?_⟩
 rintro fl σ H3 ⟨pre,wr,num,n,pt,y,rfl,s3,hl3,hn3,hpt3,hw3,rfl,hfl⟩
 refine ⟨_,rfl,_,.inr (.inl ⟨_,hpt3,rfl⟩),?_⟩
 have stop:n.parts=[]→YI nds (Zg x) fl pre.length num=some [num]:=fun z=>by
   cases fl with
   | zero=>cases hw3
   | succ fl =>
     unfold YI at hw3 ⊢
     rw [hn3] at hw3 ⊢
     cases n with
     | bare=>rfl
     | leaf m ps=>rfl
     | fork qs =>
       have z':qs=[]:=z
       subst z'
       simp at hw3
 by_cases hz:n.parts=[]
 · rw [hz]
   refine ZM ⟨_,rfl,?_⟩
   have e:=stop hz
   rw [hw3] at e
   cases e
   exact q l H3 hl s3 hl3
 · have hk : (!(n.parts.map iN).isEmpty)=true:=by
     cases e:n.parts with
     | nil=>exact absurd e hz
     | cons _ _=>rfl
   rw [hk]
   cases n with
   | bare=>exact absurd rfl hz
   | leaf m ps=>exact absurd rfl hz
   | fork qs =>
     cases fl with
     | zero=>cases hw3
     | succ fl =>
       unfold YI at hw3
       rw [hn3] at hw3
       cases eq1:qs[Zr (Zg x) pre.length]? with
       | none=>simp [eq1] at hw3
       | some q1 =>
         have hw4:(YI nds (Zg x) fl (pre.length+1) q1).map (num::·)=some wr:=by simpa [eq1] using hw3
         cases eq2:YI nds (Zg x) fl (pre.length+1) q1 with
         | none=>rw [eq2] at hw4;cases hw4
         | some wr' =>
           rw [eq2] at hw4
           have ewr:num::wr'=wr:=by simpa using hw4
           obtain ⟨n',hn'⟩:∃ n',nds[q1]?=some n':=by
             cases fl with
             | zero=>cases eq2
             | succ fl =>
               cases e:nds[q1]? with
               | none=>unfold YI at eq2;rw [e] at eq2;cases eq2
               | some n=>exact ⟨n,rfl⟩
           have e2:((((pre++[num]).map iN).length:Nat):Int) - 1=(pre.length:Int):=by rw [List.length_map,List.length_append];show ((pre.length+1:Nat):Int) - 1=_;omega
           have hat:YO (qs.map iN) (Zg x / 4 ^ pre.length % 4)=some (iN q1):=by rw [← XF];exact Zv (by rw [List.getElem?_map,eq1];rfl)
           refine Yh ⟨_,fun σ' H' h=>⟨fl,Nat.lt_succ_self _,h⟩,_,rfl,_,rfl,x,rfl,hx,fun H4 s4=>?_⟩
           refine ⟨_,rfl,l,_,rfl,.inl (SqL.of (s4 _ _ hl3)),_,_,rfl,rfl,Zg x,pre.length,congrArg (fun z=>[V.int (Zg x),V.int z]) e2,hm,by omega,pt,_,_,_,rfl,rfl,hpt3.tf s4.tf,hat,?_⟩
           refine ⟨_,rfl,.inl ⟨rfl,_,SqL.of (s4 _ _ hl3)⟩,_,rfl,l,_,_,rfl,rfl,s4 _ _ hl3,(by rw [List.length_map,List.length_append];show pre.length+1 < sizeLine;exact Nat.lt_of_le_of_lt (show pre.length+1≤1001 by omega) (by decide)),?_⟩
           have s5:Same H (upd H4 l (.lst ((pre++[num]).map iN++[iN q1]))):=fun b o e=>by rw [Zk (Zt e hl)];exact s4 _ _ (s3 _ _ e)
           have S5:=S.keep s5
           obtain ⟨as5,a5,nl5,ha5,hna5⟩:=S5.node hn'
           obtain ⟨dx5,ob5⟩:=S5.ob
           refine ⟨_,rfl,st,C,dx5,_,_,rfl,ob5,TC.cl,TC.nN,XA ln dt,_,rfl,ln,_,_,_,rfl,rfl,SqL.of nl5,Zv (by rw [List.getElem?_map,ha5];rfl),a5,n',rfl,hna5,fun pt6 H6 s6 hpt6=>?_⟩
           refine ⟨pre++[num],wr',q1,n',pt6,_,rfl,s5.trans s6,?_,hn',hpt6,?_,?_,?_⟩
           · rw [List.map_append];exact s6 _ _ Zh
           · rw [List.length_append];exact eq2
           · rw [← ewr,List.append_assoc];rfl
           · rw [List.length_append];show fl+(pre.length+1)≤1000;omega
def lk (ps:List (Str×V)) (x:Str):Option V:=ZJ (ps.map fun p=>((Sum.inr p.1:Zj),p.2)) (Sum.inr x)
def VL (K:PySem.W.Frag) (C:Addr):Sp:=fun vs H Q _=>∃ (st ln dt:Addr) (nds:List Nd) (tabs:List (Zj×V)) (t:Nat) (x:Str) (f:Nat) (ws:List Nat) (e:Nat) (n:Nd),vs=[.ref st,iN t,.str x]∧StoreAt K C st ln dt H nds tabs∧(ZJ tabs (Sum.inl (t:Int))).isSome=true∧x.length≤1000∧0≤Zg x∧f≤1000 ∧
 YI nds (Zg x) f 0 t=some (ws++[e])∧nds[e]?=some n∧n.pairs.length≤1000∧(n.pairs.map (·.1)).Nodup∧∀ H',Same H H'→Q ((lk n.pairs x).getD .non) H'
theorem scLo:Zs ["self","table","name","end"] ["self","table","name"] (Zl c_Store_looked):=⟨rfl,rfl,rfl,by decide +kernel,rfl,by decide +kernel,by decide +kernel⟩
theorem Zgi {f:Addr} {fd:FuncData} (F:Fun K "looked" "Store.looked" c_Store_looked f fd) (T:Txt K mg) (TC:Xm K C) (DW:DefM P w K mg base 2 C "way" ["self","table","name"] (ZiW K C)) (DR:Def P w K mg base 1 "pairs_in" ["node"] (XV K)):FnOk P w K mg base ZH 3 f fd ["self","table","name"] (VL K C):=by
 refine F.ok scLo (fun vs H Q E h=>?_) (fun cdv A outer s H vs Q E hr h=>?_)
 · obtain ⟨st,ln,dt,nds,tabs,t,x,f,ws,e,n,rfl,_⟩:=h;rfl
 obtain ⟨st,ln,dt,nds,tabs,t,x,fu,ws,e,n,rfl,S,htab,hx,hm,hfu,hway,hn,hsz,hnd,q⟩:=h
 refine' ⟨?t,?h,?r⟩
 case h =>
   conv=>arg 2;whnf
   with_reducible refine' Zd ?a1 (Zi ?a2)
   case a1=>exact Zx (i:=3) scLo.nd rfl (Or.inl rfl) (Zo Zy (Yy DW TC.cl hr (pv 0) (Zc (pv 1) (Zc (pv 2) Za))) (ZiX Zgz Zb) (fun _ _=>rfl))
   case a2=>exact Zp (VQ (UI hr) (Yu (WT rfl) rfl T.dict (by decide +kernel) (Zc (Zz DR (hr.mono (by decide)) (Zc (Zo Zy (ZU (pv 0) rfl) (pv 3) (fun _ _=>rfl)) Za)) Za)) (pv 2) ⟨rfl,rfl,rfl,rfl⟩)
 obtain ⟨dx,ob⟩:=S.ob
 refine ⟨_,rfl,st,dx,_,rfl,ob,ZS ln dt (by decide +kernel) (by decide +kernel),_,rfl,_,rfl,st,ln,dt,nds,tabs,t,x,fu,_,rfl,S,htab,hx,hm,hfu,hway,fun r H1 hr1 s1 el=>?_⟩
 refine ⟨_,rfl,r,_,_,iN e,rfl,rfl,SqL.of el,(by rw [List.map_append];exact Ziy _ _),?_⟩
 have S1:=S.keep s1
 obtain ⟨as,a,nl,ha,hna⟩:=S1.node hn
 obtain ⟨dx1,ob1⟩:=S1.ob
 refine ⟨_,rfl,st,C,dx1,_,_,rfl,ob1,TC.cl,TC.nN,XA ln dt,_,rfl,ln,_,_,_,rfl,rfl,SqL.of nl,Zv (by rw [List.getElem?_map,ha];rfl),a,n,rfl,hna,fun pt H2 s2 hpt=>?_⟩
 obtain ⟨o,ts,ept,hod,hlen,hp⟩:=hpt
 refine ⟨pt,ts,n.pairs,rfl,⟨o,ept,hod⟩,hlen,hsz,hp,hnd,fun d hd=>⟨d,rfl,.inl ⟨_,.inl Zh⟩,_,rfl,_,DGet.k (k:=Sum.inr x) Zh,?_⟩⟩
 exact q _ ((s1.trans s2).trans (ZB hd _))
end
end K20
set_option maxHeartbeats 4000000
namespace K20
open PySem L2
def Ye (num lev:Nat):Nd→List Nat
 | .fork qs=>qs
 | .leaf m _=>[0,1,2,3].map fun g=>if g=Zr m lev then num else 0
 | .bare=>[]
def ZcK:Nd→Prop
 | .leaf m ps=>∃ p1 pr,ps=p1::pr∧Zg p1.1=m∧p1.1.length≤1000∧0≤m
 | _=>True
section
variable {P:Program} {w:World} {K:PySem.W.Frag} {mg:Str→Option Value} {base:Heap} {C:Addr}
def Ziw (K:PySem.W.Frag) (C:Addr):Sp:=fun vs H Q _=>∃ (st ln dt:Addr) (nds:List Nd) (tabs:List (Zj×V)) (num lev:Nat) (n:Nd),vs=[.ref st,iN num,iN lev]∧StoreAt K C st ln dt H nds tabs∧nds[num]?=some n∧n≠.bare∧ZcK n∧lev≤1000 ∧
 ∀ r H',H r=none→Same H H'→H' r=some (.lst ((Ye num lev n).map iN))→Q (.ref r) H'
abbrev nFp:List Str:=["self","number","level","node","first_name","at"]
theorem scFp:Zs nFp ["self","number","level"] (Zl c_Store_fork_parts):=⟨rfl,rfl,rfl,by decide +kernel,rfl,by decide +kernel,by decide +kernel⟩
theorem Zmg {f:Addr} {fd:FuncData} (F:Fun K "fork_parts" "Store.fork_parts" c_Store_fork_parts f fd) (T:Txt K mg) (TC:Xm K C) (DP:Def P w K mg base 1 "parts_in" ["node"] (Ue K)) (DR:Def P w K mg base 1 "pairs_in" ["node"] (XV K))
   (DM:Def P w K mg base 1 "mark" ["name"] Wh) (DG:Def P w K mg base 1 "digit" ["number","level"] XW):FnOk P w K mg base ZH 2 f fd ["self","number","level"] (Ziw K C):=by
 refine F.ok scFp (fun vs H Q E h=>?_) (fun cdv A outer s H vs Q E hr h=>?_)
 · obtain ⟨st,ln,dt,nds,tabs,num,lev,n,rfl,_⟩:=h;rfl
 obtain ⟨st,ln,dt,nds,tabs,num,lev,n,rfl,S,hn,hnb,hok,hlev,q⟩:=h
 obtain ⟨tz,hz⟩:=T.zero
 obtain ⟨af,hf,hft⟩:=T.figs
 refine' ⟨?t,?h,?r⟩
 case h =>
   conv=>arg 2;whnf
   with_reducible refine' Zd ?a1 (Zd ?a2 (Zd ?a3 (Zd ?a4 (Zi ?a5))))
   case a1=>exact Zx (i:=3) scFp.nd rfl (Or.inl rfl) (Zo Zy (ZU (pv 0) rfl) (pv 1) (fun _ _=>rfl))
   case a2=>exact Yk (UB (Zz DP hr (Zc (pv 3) Za)) (fun _=>rfl)) (Zi (Zp (Yu Ve rfl T.list (by decide +kernel) (Zc (Zz DP hr (Zc (pv 3) Za)) Za)))) ZW
   case a3=>exact Zx (i:=4) scFp.nd rfl (Or.inl rfl) (Zo ZQ (Zo ZQ (Zz DR hr (Zc (pv 3) Za)) Zb (fun _ _=>rfl)) Zb (fun _ _=>rfl))
   case a4=>exact Zx (i:=5) scFp.nd rfl (Or.inr rfl) (Zz DG hr (Zc (Zz DM hr (Zc (pv 4) Za)) (Zc (pv 2) Za)))
   case a5=>exact Zp (XY (CompOk.of nFp c_Store_fork_parts rfl rfl (by decide +kernel)) rfl (Zgo (Xk rfl hf (v:=.ref af) rfl)) (fun _ _ _ _ _=>WH (ZL Yq (pv 6) (pv 5) (ZE _)) (pv 1) (Xk rfl hz (v:=.int 0) ⟨_,rfl⟩)))
 obtain ⟨as,a,nl,ha,hna⟩:=S.node hn
 obtain ⟨dx,ob⟩:=S.ob
 refine ⟨_,rfl,st,C,dx,_,_,rfl,ob,TC.cl,TC.nN,XA ln dt,_,rfl,ln,_,_,_,rfl,rfl,SqL.of nl,Zv (by rw [List.getElem?_map,ha];rfl),?_⟩
 refine ⟨_,rfl,a,n,rfl,hna,fun pt H2 s2 hpt=>⟨_,.inr (.inl ⟨_,hpt,rfl⟩),?_⟩⟩
 cases n with
 | bare=>exact absurd rfl hnb
 | fork qs =>
   have h4:qs.length=4:=by obtain ⟨_,_,_,z⟩:=hna;exact z
   have hk:(!(((Nd.fork qs).parts).map (fun q:Nat=>V.int (q:Int))).isEmpty)=true:=by
     cases qs with
     | nil=>cases h4
     | cons _ _=>rfl
   rw [hk]
   refine Yh ⟨_,rfl,a,_,rfl,hna.tf s2.tf,fun pt3 H3 s3 hpt3=>⟨pt3,_,rfl,.inr hpt3,fun l hl=>?_⟩⟩
   have hl0:H l=none:=by
     cases e:H l with
     | none=>rfl
     | some o=>rw [s3 _ _ (s2 _ _ e)] at hl;cases hl
   exact q l _ hl0 ((s2.trans s3).trans (ZB hl _)) Zh
 | leaf m ps =>
   obtain ⟨p1,pr,rfl,hm1,hx1,hm0⟩:=hok
   refine ZM ⟨_,rfl,a,_,rfl,hna.tf s2.tf,fun pt3 H3 s3 hpt3=>?_⟩
   obtain ⟨o,ts,ept,hod,hlen,hp⟩:=hpt3
   cases ts with
   | nil=>simp [Nd.pairs] at hlen
   | cons t1 tr =>
     have et1:=hp 0 t1 p1 rfl rfl
     refine ⟨pt3,_,_,_,rfl,rfl,.inl (.inr ⟨o,ept⟩),(show YO ((t1::tr).map V.ref) ((0:Nat):Int)=some (V.ref t1) from Zv rfl),t1,_,_,_,rfl,rfl,SqT.of et1,rfl,?_⟩
     refine ⟨_,rfl,p1.1,rfl,hx1,fun H4 s4=>⟨_,rfl,Zg p1.1,lev,rfl,by rw [hm1];exact hm0,hlev,?_⟩⟩
     refine ⟨af,rfl,⟨_,hft _⟩,fun D hD=>?_⟩
     have s24:=(s2.trans s3).trans s4
     have hD0:H D=none:=by
       cases e:H D with
       | none=>rfl
       | some o=>rw [s24 _ _ e] at hD;cases hD
     refine Zhw (K:=K) (a:=af) (xs:=[.int 0,.int 1,.int 2,.int 3]) (by show 4≤sizeLine;decide) (fun i ys H'=>ys=(([0,1,2,3]:List Nat).take i).map (fun g=>iN (if g=Zr m lev then num else 0))∧i≤4∧H' D=some (.lst ys)∧Same H H') ?_ ?_ ?_ ?_
     · exact ⟨rfl,by decide,Zh,s24.trans (ZB hD _)⟩
     · rintro i ys H5 ⟨rfl,hi,_,_⟩
       exact ⟨by rw [List.length_map,List.length_take];show min i 4=i;omega,hft _⟩
     · rintro i x ys H5 hi ⟨rfl,hi4,hD5,s5⟩
       have hi':i < 4:=(List.getElem?_eq_some_iff.mp hi).1
       have ex:x=iN i:=by
         rcases i with _ | _ | _ | _ | i
         · cases hi;rfl
         · cases hi;rfl
         · cases hi;rfl
         · cases hi;rfl
         · omega
       subst ex
       have fin:∀ y,y=iN (if i=Zr m lev then num else 0)→H5 D=some (.lst ((([0,1,2,3]:List Nat).take i).map (fun g=>iN (if g=Zr m lev then num else 0))))∧(((([0,1,2,3]:List Nat).take i).map (fun g=>iN (if g=Zr m lev then num else 0))++[y])=(([0,1,2,3]:List Nat).take (i+1)).map (fun g=>iN (if g=Zr m lev then num else 0))∧i+1≤4∧upd H5 D (.lst ((([0,1,2,3]:List Nat).take i).map (fun g=>iN (if g=Zr m lev then num else 0))++[y])) D=some (.lst ((([0,1,2,3]:List Nat).take i).map (fun g=>iN (if g=Zr m lev then num else 0))++[y]))∧Same H (upd H5 D (.lst ((([0,1,2,3]:List Nat).take i).map (fun g=>iN (if g=Zr m lev then num else 0))++[y])))):=by
         intro y ey
         refine ⟨hD5,?_,by omega,Zh,fun b o e=>by rw [Zk (Zt e hD0)];exact s5 _ _ e⟩
         subst ey
         rcases i with _ | _ | _ | _ | i
         · rfl
         · rfl
         · rfl
         · rfl
         · omega
       have ed:decide (iN i=V.int (Zg p1.1 / 4 ^ lev % 4))=decide (i=Zr m lev):=by
         rw [hm1,← XF]
         by_cases z:i=Zr m lev
         · rw [decide_eq_true z,z];exact decide_eq_true rfl
         · rw [decide_eq_false z]
           exact decide_eq_false fun y=>z (by have:=V.int.inj y;omega)
       refine ⟨_,rfl,_,rfl,rfl,_,rfl,?_⟩
       rw [ed]
       by_cases z:i=Zr m lev
       · rw [decide_eq_true z]
         exact Yh ⟨_,rfl,fin _ (by rw [if_pos z])⟩
       · rw [decide_eq_false z]
         exact ZM (fin _ (by rw [if_neg z];rfl))
     · rintro ys H5 ⟨rfl,_,hD5,s5⟩
       refine q D H5 hD0 s5 ?_
       rw [hD5]
       rfl
end
end K20
set_option maxHeartbeats 4000000
namespace K20
open PySem L2
def gK (p:Str×V):Zj×V:=(Sum.inr p.1,p.2)
theorem ZkV (ps:List (Str×V)) (x:Str):lk ps x=ZJ (ps.map gK) (Sum.inr x):=rfl
theorem Zgg (x:Str):lk [] x=none:=rfl
theorem XJ (p:Str×V) (ps:List (Str×V)) (x:Str):lk (p::ps) x=if p.1=x then some p.2 else lk ps x:=by
 by_cases h:p.1=x
 · rw [if_pos h];exact YF (show (gK p).1=Sum.inr x by rw [← h];rfl)
 · rw [if_neg h];exact YE (show ¬ (gK p).1=Sum.inr x from fun z=>h (Sum.inr.inj z))
theorem Xo {ps:List (Str×V)} (hnd:(ps.map (·.1)).Nodup) {x:Str} {v:V}:lk ps x=some v↔(x,v)∈ps:=by
 induction ps with
 | nil=>simp [Zgg]
 | cons p ps ih =>
   rw [List.map_cons,List.nodup_cons] at hnd
   rw [XJ]
   by_cases h:p.1=x
   · rw [if_pos h]
     constructor
     · intro e
       cases e
       rw [← h];exact List.mem_cons_self
     · intro e
       rcases List.mem_cons.mp e with e | e
       · rw [← e]
       · exact absurd (h ▸ List.mem_map_of_mem (f:=(·.1)) e) hnd.1
   · rw [if_neg h,ih hnd.2,List.mem_cons]
     exact ⟨.inr,fun e=>e.resolve_left fun z=>h (by rw [← z])⟩
theorem Zec {ps:List (Str×V)} {x:Str} (h:∀ p∈ps,p.1≠x):lk ps x=none:=by
 induction ps with
 | nil=>rfl
 | cons p ps ih=>rw [XJ,if_neg (h p List.mem_cons_self)];exact ih fun q hq=>h q (List.mem_cons_of_mem _ hq)
theorem ZdG {ps qs:List (Str×V)} (h:ps.Perm qs) (hnd:(qs.map (·.1)).Nodup) (x:Str):lk ps x=lk qs x:=by
 have hnd':(ps.map (·.1)).Nodup:=(h.map (·.1)).nodup_iff.mpr hnd
 cases e:lk qs x with
 | some v=>exact (Xo hnd').mpr (h.mem_iff.mpr ((Xo hnd).mp e))
 | none =>
   cases e2:lk ps x with
   | none=>rfl
   | some v=>rw [(Xo hnd).mpr (h.mem_iff.mp ((Xo hnd').mp e2))] at e;cases e
def YZ (ps:List (Str×V)) (x:Str) (v:V):List (Str×V) :=
 if (ps.any fun p=>decide (p.1=x))=true then ps.map (fun p=>if p.1=x then (p.1,v) else p) else ps++[(x,v)]
theorem VX (ps:List (Str×V)) (x:Str) (v:V):Yp (ps.map gK) (Sum.inr x) v=(YZ ps x v).map gK:=by
 have e:∀ p:Str×V,decide ((gK p).1=Sum.inr x)=decide (p.1=x):=fun p=>by
   by_cases h:p.1=x
   · rw [decide_eq_true h];exact decide_eq_true (by rw [← h];rfl)
   · rw [decide_eq_false h];exact decide_eq_false fun z=>h (Sum.inr.inj z)
 have e1:((ps.map gK).any fun kv=>decide (kv.1=Sum.inr x))=ps.any fun p=>decide (p.1=x):=by
   rw [List.any_map];congr 1;funext p;exact e p
 unfold Yp YZ
 rw [e1]
 by_cases h:(ps.any fun p=>decide (p.1=x))=true
 · rw [if_pos h,if_pos h,List.map_map,List.map_map]
   congr 1
   funext p
   show (if (gK p).1=Sum.inr x then ((gK p).1,v) else gK p)=gK (if p.1=x then (p.1,v) else p)
   by_cases z:p.1=x
   · rw [if_pos z,if_pos (show (gK p).1=Sum.inr x by rw [← z];rfl)];rfl
   · rw [if_neg z,if_neg (show ¬ (gK p).1=Sum.inr x from fun y=>z (Sum.inr.inj y))]
 · rw [if_neg h,if_neg h,List.map_append];rfl
theorem Zbo (ps:List (Str×V)) (x:Str) (v:V):(YZ ps x v).map (·.1)=if x∈ps.map (·.1) then ps.map (·.1) else ps.map (·.1)++[x]:=by
 have e:(ps.any fun p=>decide (p.1=x))=true↔x∈ps.map (·.1):=by
   rw [List.any_eq_true,List.mem_map]
   exact ⟨fun ⟨p,h,z⟩=>⟨p,h,of_decide_eq_true z⟩,fun ⟨p,h,z⟩=>⟨p,h,decide_eq_true z⟩⟩
 unfold YZ
 by_cases h:(ps.any fun p=>decide (p.1=x))=true
 · rw [if_pos h,if_pos (e.mp h),List.map_map]
   apply List.map_congr_left
   intro p _
   show (if p.1=x then (p.1,v) else p).1=p.1
   split <;> rfl
 · rw [if_neg h,if_neg fun z=>h (e.mpr z),List.map_append];rfl
theorem Zed (ps:List (Str×V)) (x y:Str) (v:V):lk (YZ ps x v) y=if y=x then some v else lk ps y:=by
 rw [ZkV,← VX,WJ]
 by_cases h:y=x
 · rw [if_pos h,if_pos (by rw [h])]
 · rw [if_neg h,if_neg fun z=>h (Sum.inr.inj z)];rfl
structure Ym (NS:List Str):Prop where
 few:NS.length < 64
 len:∀ x∈NS,x.length≤1000
 lo:∀ x∈NS,0≤Zg x
 hi:∀ x∈NS,Zg x < 1024
structure LeafG (NS:List Str) (m:Int) (ps:List (Str×V)):Prop where
 ne:ps≠[]
 nd:(ps.map (·.1)).Nodup
 sub:∀ p∈ps,p.1∈NS
 mrk:∀ p∈ps,Zg p.1=m
def Yg (x:Str):Nat:=(Zg x).toNat
def TriE (NS:List Str) (nds:List Nd) (F:Str→Option V) (lev r num:Nat):Prop :=
 (num=0∧nds[num]?=some .bare∧∀ x∈NS,Yg x % 4 ^ lev=r→F x=none) ∨
 ∃ m ps,nds[num]?=some (.leaf m ps)∧LeafG NS m ps∧m.toNat % 4 ^ lev=r∧∀ x∈NS,Yg x % 4 ^ lev=r→F x=lk ps x
def Tri (NS:List Str) (nds:List Nd) (F:Str→Option V):Nat→Nat→Nat→Nat→Prop
 | 0,lev,r,num=>TriE NS nds F lev r num
 | d+1,lev,r,num=>TriE NS nds F lev r num∨∃ qs,nds[num]?=some (.fork qs)∧qs.length=4∧∀ i q,qs[i]?=some q→Tri NS nds F d (lev+1) (r+i * 4 ^ lev) q
def NEx (nds nds':List Nd):Prop:=∀ (i:Nat) (n:Nd),nds[i]?=some n→nds'[i]?=some n
theorem NEx.refl (nds:List Nd):NEx nds nds:=fun _ _ h=>h
theorem NEx.trans {a b c:List Nd} (h:NEx a b) (h':NEx b c):NEx a c:=fun i n e=>h' i n (h i n e)
theorem NEx.app (nds:List Nd) (n:Nd):NEx nds (nds++[n]):=fun i m e=>by rw [List.getElem?_append_left (List.getElem?_eq_some_iff.mp e).1];exact e
section
variable {NS:List Str} {nds nds':List Nd} {F F':Str→Option V}
theorem TriE.mono {lev r num:Nat} (h:TriE NS nds F lev r num) (e:NEx nds nds'):TriE NS nds' F lev r num:=by
 rcases h with ⟨h1,h2,h3⟩ | ⟨m,ps,h1,h2⟩
 · exact .inl ⟨h1,e _ _ h2,h3⟩
 · exact .inr ⟨m,ps,e _ _ h1,h2⟩
theorem Tri.mono:∀ (d:Nat) {lev r num:Nat},Tri NS nds F d lev r num→NEx nds nds'→Tri NS nds' F d lev r num
 | 0,_,_,_,h,e=>TriE.mono h e
 | d+1,_,_,_,.inl h,e=>.inl (TriE.mono h e)
 | d+1,_,_,_,.inr ⟨qs,h1,h2,h3⟩,e=>.inr ⟨qs,e _ _ h1,h2,fun i q hq=>Tri.mono d (h3 i q hq) e⟩
theorem TriE.congr {lev r num:Nat} (h:TriE NS nds F lev r num) (e:∀ x∈NS,Yg x % 4 ^ lev=r→F' x=F x):TriE NS nds F' lev r num:=by
 rcases h with ⟨h1,h2,h3⟩ | ⟨m,ps,h1,h2,h3,h4⟩
 · exact .inl ⟨h1,h2,fun x hx hr=>by rw [e x hx hr];exact h3 x hx hr⟩
 · exact .inr ⟨m,ps,h1,h2,h3,fun x hx hr=>by rw [e x hx hr];exact h4 x hx hr⟩
theorem Xv (n lev:Nat):n % 4 ^ (lev+1)=n % 4 ^ lev+(n / 4 ^ lev % 4) * 4 ^ lev:=by
 rw [Nat.pow_succ,Nat.mod_mul,Nat.mul_comm (4 ^ lev)]
theorem YN {n lev r i:Nat} (hr:r < 4 ^ lev) (h:n % 4 ^ (lev+1)=r+i * 4 ^ lev):n % 4 ^ lev=r∧n / 4 ^ lev % 4=i:=by
 rw [Xv] at h
 have hp:0 < 4 ^ lev:=Nat.pow_pos (by decide)
 have h1:=Nat.mod_lt n hp
 have e1:n % 4 ^ lev=r:=by
   have z:=congrArg (· % 4 ^ lev) h
   simp only [Nat.add_mul_mod_self_right] at z
   rwa [Nat.mod_mod,Nat.mod_eq_of_lt hr] at z
 refine ⟨e1,?_⟩
 rw [e1] at h
 exact Nat.eq_of_mul_eq_mul_right hp (Nat.add_left_cancel h)
theorem YU {lev r i:Nat} (hr:r < 4 ^ lev) (hi:i < 4):r+i * 4 ^ lev < 4 ^ (lev+1):=by
 rw [Nat.pow_succ]
 have:i * 4 ^ lev≤3 * 4 ^ lev:=Nat.mul_le_mul_right _ (by omega)
 omega
theorem Tri.congr:∀ (d:Nat) {lev r num:Nat},r < 4 ^ lev→Tri NS nds F d lev r num→(∀ x∈NS,Yg x % 4 ^ lev=r→F' x=F x)→Tri NS nds F' d lev r num
 | 0,_,_,_,_,h,e=>TriE.congr h e
 | d+1,_,_,_,_,.inl h,e=>.inl (TriE.congr h e)
 | d+1,_,_,_,hr,.inr ⟨qs,h1,h2,h3⟩,e=>.inr ⟨qs,h1,h2,fun i q hq=>Tri.congr d (YU hr (by rw [← h2];exact (List.getElem?_eq_some_iff.mp hq).1)) (h3 i q hq) fun x hx hz=>e x hx (YN hr hz).1⟩
theorem Ys {n:Int} (h:0≤n) (lev:Nat):Zr n lev=n.toNat / 4 ^ lev % 4:=by
 obtain ⟨k,rfl⟩:=Int.eq_ofNat_of_zero_le h
 unfold Zr
 have:((k:Int) / 4 ^ lev % 4)=((k / 4 ^ lev % 4:Nat):Int):=by norm_cast
 rw [this]
 rfl
theorem Zka (N:Ym NS):∀ (d:Nat) {lev r num:Nat} {x:Str},r < 4 ^ lev→Tri NS nds F d lev r num→x∈NS→Yg x % 4 ^ lev=r →
   ∃ ws e n,YI nds (Zg x) (d+1) lev num=some (ws++[e])∧nds[e]?=some n∧((e=0∧n=.bare∧F x=none)∨∃ m ps,n=.leaf m ps∧LeafG NS m ps∧F x=lk ps x):=by
 have end_:∀ {lev r num:Nat} {x:Str} (d:Nat),TriE NS nds F lev r num→x∈NS→Yg x % 4 ^ lev=r→∃ ws e n,YI nds (Zg x) (d+1) lev num=some (ws++[e])∧nds[e]?=some n∧((e=0∧n=.bare∧F x=none)∨∃ m ps,n=.leaf m ps∧LeafG NS m ps∧F x=lk ps x):=by
   intro lev r num x d h hx hr
   rcases h with ⟨h1,h2,h3⟩ | ⟨m,ps,h1,h2,h3,h4⟩
   · exact ⟨[],num,.bare,by unfold YI;rw [h2];rfl,h2,.inl ⟨h1,rfl,h3 x hx hr⟩⟩
   · exact ⟨[],num,.leaf m ps,by unfold YI;rw [h1];rfl,h1,.inr ⟨m,ps,rfl,h2,h4 x hx hr⟩⟩
 intro d
 induction d with
 | zero=>exact fun _ h hx hr=>end_ 0 h hx hr
 | succ d ih =>
   intro lev r num x hlt h hx hr
   rcases h with h | ⟨qs,h1,h2,h3⟩
   · exact end_ _ h hx hr
   · have hi:Zr (Zg x) lev < qs.length:=by rw [h2];exact YR _ _
     have hq:=List.getElem?_eq_getElem hi
     obtain ⟨ws,e,n,e1,e2,e3⟩:=ih (YU hlt (YR _ _)) (h3 _ _ hq) hx (by rw [Xv,hr,Ys (N.lo x hx)];rfl)
     refine ⟨num::ws,e,n,?_,e2,e3⟩
     unfold YI
     rw [h1]
     show ((qs[Zr (Zg x) lev]?).bind fun q=>(YI nds (Zg x) (d+1) (lev+1) q).map (num::·))=_
     rw [hq]
     show (YI nds (Zg x) (d+1) (lev+1) _).map (num::·)=_
     rw [e1]
     rfl
end
end K20
set_option maxHeartbeats 4000000
namespace K20
open PySem L2
theorem ZdU:∀ {l N:List Str},l.Nodup→(∀ x∈l,x∈N)→l.length≤N.length:=by
 intro l
 induction l with
 | nil=>intro N _ _;exact Nat.zero_le _
 | cons a l ih =>
   intro N hnd hs
   rw [List.nodup_cons] at hnd
   have ha:a∈N:=hs a List.mem_cons_self
   have:=ih (N:=N.erase a) hnd.2 fun x hx=>(List.mem_erase_of_ne (show x≠a from fun z=>hnd.1 (by rw [← z];exact hx))).mpr (hs x (List.mem_cons_of_mem _ hx))
   rw [List.length_erase_of_mem ha] at this
   have h1:0 < N.length:=List.length_pos_of_mem ha
   rw [List.length_cons];omega
section
variable {NS:List Str} {nds nds':List Nd} {F F':Str→Option V}
theorem LeafG.few {m:Int} {ps:List (Str×V)} (G:LeafG NS m ps):ps.length≤NS.length:=by
 have:=ZdU G.nd (N:=NS) fun x hx=>by obtain ⟨p,hp,rfl⟩:=List.mem_map.mp hx;exact G.sub p hp
 rwa [List.length_map] at this
theorem LeafG.perm {m:Int} {ps qs:List (Str×V)} (G:LeafG NS m ps) (h:qs.Perm ps):LeafG NS m qs :=
 ⟨fun z=>G.ne (by rw [z] at h;exact (List.Perm.nil_eq h).symm),(h.map (·.1)).nodup_iff.mpr G.nd,fun p hp=>G.sub p (h.mem_iff.mp hp),fun p hp=>G.mrk p (h.mem_iff.mp hp)⟩
theorem LeafG.ok {m:Int} {ps:List (Str×V)} (N:Ym NS) (G:LeafG NS m ps):ZcK (.leaf m ps):=by
 cases ps with
 | nil=>exact absurd rfl G.ne
 | cons p pr =>
   have h1:=G.mrk p List.mem_cons_self
   have h2:=G.sub p List.mem_cons_self
   exact ⟨p,pr,rfl,h1,N.len _ h2,by rw [← h1];exact N.lo _ h2⟩
theorem Zhj {ps:List (Str×V)} {x:Str} (v:V) (hx:x∈NS) (hnd:(ps.map (·.1)).Nodup) (hs:∀ p∈ps,p.1∈NS) (hm:∀ p∈ps,Zg p.1=Zg x):LeafG NS (Zg x) (YZ ps x v):=by
 have hk:=Zbo ps x v
 have hmem:∀ p∈YZ ps x v,p.1∈ps.map (·.1)∨p.1=x:=fun p hp=>by
   have h1:p.1∈(YZ ps x v).map (·.1):=List.mem_map_of_mem hp
   rw [hk] at h1
   by_cases h:x∈ps.map (·.1)
   · rw [if_pos h] at h1;exact .inl h1
   · rw [if_neg h] at h1
     rcases List.mem_append.mp h1 with z | z
     · exact .inl z
     · exact .inr (List.mem_singleton.mp z)
 refine ⟨fun z=>?_,?_,fun p hp=>?_,fun p hp=>?_⟩
 · rw [z] at hk
   by_cases h:x∈ps.map (·.1)
   · rw [if_pos h] at hk;rw [← hk] at h;cases h
   · rw [if_neg h] at hk;simp at hk
 · rw [hk]
   by_cases h:x∈ps.map (·.1)
   · rw [if_pos h];exact hnd
   · rw [if_neg h,List.nodup_append]
     exact ⟨hnd,by simp,fun a ha b hb e=>h (by rw [List.mem_singleton.mp hb] at e;rw [← e];exact ha)⟩
 · rcases hmem p hp with z | z
   · obtain ⟨q,hq,e⟩:=List.mem_map.mp z
     rw [← e];exact hs q hq
   · rw [z];exact hx
 · rcases hmem p hp with z | z
   · obtain ⟨q,hq,e⟩:=List.mem_map.mp z
     rw [← e];exact hm q hq
   · rw [z]
def upF (F:Str→Option V) (x:Str) (v:V):Str→Option V:=fun y=>if y=x then some v else F y
theorem Zhx {d lev r:Nat} {m:Int} {ps qs:List (Str×V)} {x:Str} {v:V} {num:Nat} (N:Ym NS) (hx:x∈NS) (hr:Yg x % 4 ^ lev=r) (hn:nds[num]?=some (.leaf m qs)) (hm:m=Zg x) (G:LeafG NS (Zg x) (YZ ps x v)) (hp:qs.Perm (YZ ps x v))
   (hF:∀ y∈NS,Yg y % 4 ^ lev=r→F y=lk ps y):Tri NS nds (upF F x v) d lev r num:=by
 subst hm
 have h:TriE NS nds (upF F x v) lev r num:=by
   refine .inr ⟨Zg x,qs,hn,G.perm hp,hr,fun y hy hry=>?_⟩
   rw [ZdG hp G.nd,Zed]
   unfold upF
   by_cases h:y=x
   · rw [if_pos h,if_pos h]
   · rw [if_neg h,if_neg h];exact hF y hy hry
 cases d with
 | zero=>exact h
 | succ d=>exact .inl h
theorem ZcL {d lev r num:Nat} {n:Nd} (N:Ym NS) (h0:nds[0]?=some .bare) (hr:r < 4 ^ lev) (h:Tri NS nds F (d+1) lev r num) (hn:nds[num]?=some n) (hnb:n≠.bare) :
   (Ye num lev n).length=4∧∀ (i q:Nat),(Ye num lev n)[i]?=some q→Tri NS nds F d (lev+1) (r+i * 4 ^ lev) q:=by
 have wrapE:∀ {r' q:Nat},TriE NS nds F (lev+1) r' q→Tri NS nds F d (lev+1) r' q:=fun g=>by
   cases d with
   | zero=>exact g
   | succ d=>exact .inl g
 rcases h with h | ⟨qs,h1,h2,h3⟩
 · rcases h with ⟨_,e,_⟩ | ⟨m,ps,e,G,hm,hF⟩
   · rw [hn] at e;cases e;exact absurd rfl hnb
   · rw [hn] at e;cases e
     obtain ⟨p1,pr,e1,e2,e3,e4⟩:=G.ok N
     refine ⟨rfl,fun i q hq=>?_⟩
     have hi:i < 4:=(List.getElem?_eq_some_iff.mp hq).1
     have hq':(if i=Zr m lev then num else 0)=q:=by
       rcases i with _ | _ | _ | _ | i
       · exact Option.some.inj hq
       · exact Option.some.inj hq
       · exact Option.some.inj hq
       · exact Option.some.inj hq
       · omega
     have hmm:m.toNat % 4 ^ (lev+1)=r+Zr m lev * 4 ^ lev:=by rw [Xv,hm,Ys e4]
     by_cases z:i=Zr m lev
     · rw [if_pos z] at hq'
       subst hq'
       exact wrapE (.inr ⟨m,ps,hn,G,by rw [hmm,z],fun y hy hry=>hF y hy (YN hr hry).1⟩)
     · rw [if_neg z] at hq'
       subst hq'
       refine wrapE (.inl ⟨rfl,h0,fun y hy hry=>?_⟩)
       rw [hF y hy (YN hr hry).1]
       refine Zec fun p hp e=>z ?_
       have:=(YN hr hry).2
       rw [← this,← e]
       unfold Yg
       rw [G.mrk p hp,Ys e4]
 · rw [hn] at h1;cases h1
   exact ⟨h2,h3⟩
theorem ZcR {r num:Nat} {n:Nd} {x:Str} (N:Ym NS) (h:Tri NS nds F 0 5 r num) (hn:nds[num]?=some n) (hnb:n≠.bare) (hx:x∈NS) (hr:Yg x % 4 ^ 5=r):n.hasM (Zg x)=true:=by
 rcases h with ⟨_,e,_⟩ | ⟨m,ps,e,G,hm,hF⟩
 · rw [hn] at e;cases e;exact absurd rfl hnb
 · rw [hn] at e;cases e
   refine decide_eq_true ?_
   obtain ⟨p1,pr,e1,e2,e3,e4⟩:=G.ok N
   have h1:Zg p1.1 < 1024:=N.hi _ (G.sub p1 (by rw [e1];exact List.mem_cons_self))
   have h2:=N.hi x hx
   have h3:=N.lo x hx
   rw [e2] at h1
   unfold Yg at hr
   have h4:m.toNat % 1024=r:=hm
   have h5:(Zg x).toNat % 1024=r:=hr
   rw [Nat.mod_eq_of_lt (by omega)] at h4 h5
   omega
theorem Zhl {d lev r num num':Nat} {qs:List Nat} {x:Str} {v:V} (N:Ym NS) (hr:r < 4 ^ lev) (hx:x∈NS) (hxr:Yg x % 4 ^ lev=r) (hl:qs.length=4) (hq:∀ (i q:Nat),qs[i]?=some q→Tri NS nds F d (lev+1) (r+i * 4 ^ lev) q)
   (e:NEx nds nds') (hn:Tri NS nds' F' d (lev+1) (r+Zr (Zg x) lev * 4 ^ lev) num') (hF:∀ y,y≠x→F' y=F y) (h:nds'[num]?=some (.fork (qs.set (Zr (Zg x) lev) num'))):Tri NS nds' F' (d+1) lev r num:=by
 refine .inr ⟨_,h,by rw [List.length_set,hl],fun i q hi=>?_⟩
 have hi4:i < 4:=by rw [← hl];have:=(List.getElem?_eq_some_iff.mp hi).1;rwa [List.length_set] at this
 rw [List.getElem?_set] at hi
 by_cases z:Zr (Zg x) lev=i
 · rw [if_pos z,if_pos (by rw [hl,z];exact hi4)] at hi
   cases hi
   rw [← z]
   exact hn
 · rw [if_neg z] at hi
   refine Tri.congr d (YU hr hi4) (Tri.mono d (hq i q hi) e) fun y hy hry=>hF y fun w=>z ?_
   rw [w] at hry
   rw [Ys (N.lo x hx)]
   exact (YN hr hry).2
end
end K20
set_option maxHeartbeats 4000000
namespace K20
open PySem L2
inductive PutR (x:Str) (v:V):List Nd→Nat→Nat→List Nd→Nat→Prop
 | leaf {nds:List Nd} {lev num:Nat} {n:Nd} {qs:List (Str×V)}:nds[num]?=some n→(num=0∨n.hasM (Zg x)=true)→qs.Perm (YZ n.pairs x v)→Uk qs→PutR x v nds lev num (nds++[.leaf (Zg x) qs]) nds.length
 | fork {nds nds1:List Nd} {lev num q1 num1:Nat} {n:Nd}:nds[num]?=some n→num≠0→n.hasM (Zg x)=false→(Ye num lev n)[Zr (Zg x) lev]?=some q1→PutR x v nds (lev+1) q1 nds1 num1→PutR x v nds lev num (nds1++[.fork ((Ye num lev n).set (Zr (Zg x) lev) num1)]) nds1.length
section
variable {P:Program} {w:World} {K:PySem.W.Frag} {mg:Str→Option Value} {base:Heap} {C Pl:Addr} {NS:List Str}
def Vg (K:PySem.W.Frag) (C Pl:Addr) (NS:List Str):Nat→Sp
 | 0=>fun _ _ _ _=>False
 | d+1=>fun vs H Q _=>∃ (st ln dt:Addr) (nds:List Nd) (tabs:List (Zj×V)) (num lev r:Nat) (x:Str) (v:V) (F:Str→Option V),vs=[.ref st,iN num,iN lev,.str x,v]∧StoreAt K C st ln dt H nds tabs∧nds[0]?=some .bare∧Tri NS nds F d lev r num∧r < 4 ^ lev∧lev+d=5∧x∈NS∧Yg x % 4 ^ lev=r∧nds.length+d+1≤100000∧LamAt H Pl YG Xt ∧
   ∀ (H':Hp) (nds':List Nd) (num':Nat),StoreAt K C st ln dt H' nds' tabs→NEx nds nds'→nds'.length≤nds.length+d+1→Tri NS nds' (upF F x v) d lev r num'→PutR x v nds lev num nds' num'→LamAt H' Pl YG Xt→Kq [ln,Pl] H H'→TF H H'→Q (iN num') H'
abbrev nPi:List Str:=["self","number","level","name","value"]
theorem scPI:Zs ["self","number","level","name","value","node","pairs","parts","figure"] nPi (Zl c_Store_put_in):=⟨rfl,rfl,rfl,by decide +kernel,rfl,by decide +kernel,by decide +kernel⟩
theorem VP {nds:List Nd} {F:Str→Option V}:∀ {d lev r num:Nat},Tri NS nds F d lev r num→∃ n,nds[num]?=some n∧(n=.bare→num=0):=by
 have e:∀ {lev r num:Nat},TriE NS nds F lev r num→∃ n,nds[num]?=some n∧(n=.bare→num=0):=fun h=>by
   rcases h with ⟨h1,h2,_⟩ | ⟨m,ps,h1,_⟩
   · exact ⟨_,h2,fun _=>h1⟩
   · exact ⟨_,h1,fun z=>by cases z⟩
 intro d lev r num h
 cases d with
 | zero=>exact e h
 | succ d =>
   rcases h with h | ⟨qs,h1,_⟩
   · exact e h
   · exact ⟨_,h1,fun z=>by cases z⟩
theorem ZhB {nds:List Nd} {F:Str→Option V} {d lev r num:Nat} {n:Nd} {x:Str} (h0:nds[0]?=some .bare) (h:Tri NS nds F d lev r num) (hn:nds[num]?=some n) (hc:num=0∨n.hasM (Zg x)=true) :
   (n.pairs.map (·.1)).Nodup∧(∀ p∈n.pairs,p.1∈NS)∧(∀ p∈n.pairs,Zg p.1=Zg x)∧(∀ y∈NS,Yg y % 4 ^ lev=r→F y=lk n.pairs y)∧n.pairs.length≤NS.length:=by
 have e:TriE NS nds F lev r num→(n.pairs.map (·.1)).Nodup∧(∀ p∈n.pairs,p.1∈NS)∧(∀ p∈n.pairs,Zg p.1=Zg x)∧(∀ y∈NS,Yg y % 4 ^ lev=r→F y=lk n.pairs y)∧n.pairs.length≤NS.length:=fun g=>by
   rcases g with ⟨h1,h2,h3⟩ | ⟨m,ps,h1,G,hm,hF⟩
   · rw [hn] at h2;cases h2
     exact ⟨List.nodup_nil,fun p hp=>(by cases hp),fun p hp=>(by cases hp),h3,Nat.zero_le _⟩
   · rw [hn] at h1;cases h1
     rcases hc with z | z
     · rw [z,h0] at hn;cases hn
     · have z':m=Zg x:=of_decide_eq_true z
       exact ⟨G.nd,G.sub,fun p hp=>by rw [G.mrk p hp,z'],hF,G.few⟩
 cases d with
 | zero=>exact e h
 | succ d =>
   rcases h with h | ⟨qs,h1,_⟩
   · exact e h
   · rw [hn] at h1;cases h1
     rcases hc with z | z
     · rw [z,h0] at hn;cases hn
     · cases z
theorem Zjt {f:Addr} {fd:FuncData} {d k:Nat} (N:Ym NS) (hk:2≤k) (F:Fun K "put_in" "Store.put_in" c_Store_put_in f fd) (T:Txt K mg) (TC:Xm K C)
   (DH:Def P w K mg base 1 "has_mark" ["node","number"] (Vi K)) (DR:Def P w K mg base 1 "pairs_in" ["node"] (XV K)) (DM:Def P w K mg base 1 "mark" ["name"] Wh) (DG:Def P w K mg base 1 "digit" ["number","level"] XW)
   (DL:Def P w K mg base 2 "leaf_of" ["pairs"] (UT K Pl YG)) (DO:Def P w K mg base 1 "fork_of" ["parts"] (WA K)) (DK:DefM P w K mg base 1 C "keep" ["self","node"] (Vl K C)) (DF:DefM P w K mg base 2 C "fork_parts" ["self","number","level"] (Ziw K C))
   (DI:DefM P w K mg base k C "put_in" nPi (Vg K C Pl NS d)):FnOk P w K mg base ZH (k+1) f fd nPi (Vg K C Pl NS (d+1)):=by
 refine F.ok scPI (fun vs H Q E h=>?_) (fun cdv A outer s H vs Q E hr h=>?_)
 · obtain ⟨st,ln,dt,nds,tabs,num,lev,r,x,v,F,rfl,_⟩:=h;rfl
 obtain ⟨st,ln,dt,nds,tabs,num,lev,r,x,v,Fm,rfl,S,h0,htri,hrl,hlev,hx,hxr,hlen,hL,q⟩:=h
 obtain ⟨tz,hz⟩:=T.zero
 have hr1:=hr.mono (show 1≤k by omega)
 have hr2:=hr.mono hk
 refine' ⟨?t,?h,?r⟩
 case h =>
   conv=>arg 2;whnf
   with_reducible refine' Zd ?a1 (Zd (Yk ?a2 (Zd ?c1 (Zd ?c2 (Zi ?c3))) ZW) (Zd ?a3 (Zd ?a4 (Zd ?a5 (Zi ?a6)))))
   case a1=>exact Zx (i:=5) scPI.nd rfl (Or.inl rfl) (Zo Zy (ZU (pv 0) rfl) (pv 1) (fun _ _=>rfl))
   case a2=>exact PW.pt (Zcb (ZL Yq (pv 1) (Xk rfl hz (v:=.int 0) ⟨_,rfl⟩) (ZE _)) (ZcI (Wn (Zz DH hr1 (Zc (pv 5) (Zc (Zz DM hr1 (Zc (pv 3) Za)) Za))))))
   case c1=>exact Zx (i:=6) scPI.nd rfl (Or.inl rfl) (Yu (WT rfl) rfl T.dict (by decide +kernel) (Zc (Zz DR hr1 (Zc (pv 5) Za)) Za))
   case c2=>exact Zbc (UI hr) (pv 6) (pv 3) (pv 4) rfl
   case c3=>exact Zp (Yy DK TC.cl hr1 (pv 0) (Zc (Zz DL hr2 (Zc (Yu (Zaf rfl) rfl T.list (by decide +kernel) (Zc (Zll PySem.F.plainAttrs_dict PySem.F.slot_dict_items PySem.F.type_dict_items ZiH (pv 6)) Za)) Za)) Za))
   case a3=>exact Zx (i:=7) scPI.nd rfl (Or.inl rfl) (Yy DF TC.cl hr2 (pv 0) (Zc (pv 1) (Zc (pv 2) Za)))
   case a4=>exact Zx (i:=8) scPI.nd rfl (Or.inl rfl) (Zz DG hr1 (Zc (Zz DM hr1 (Zc (pv 3) Za)) (Zc (pv 2) Za)))
   case a5=>exact Xz (Yy DI TC.cl hr (pv 0) (Zc (Zo Zy (pv 7) (pv 8) (fun _ _=>rfl)) (Zc (Zn Yi (pv 2) Zb) (Zc (pv 3) (Zc (pv 4) Za))))) (Zaw (pv 7) (pv 8) UA)
   case a6=>exact Zp (Yy DK TC.cl hr1 (pv 0) (Zc (Zz DO hr1 (Zc (pv 7) Za)) Za))
 obtain ⟨n,hn,hbare⟩:=VP htri
 obtain ⟨as,a,nl,ha,hna⟩:=S.node hn
 obtain ⟨dx,ob⟩:=S.ob
 obtain ⟨tb,htb⟩:=hL.tbl
 have hst:st ∉ [Pl]:=fun z=>by rw [List.mem_singleton.mp z,htb] at ob;cases ob
 have hln:ln ∉ [Pl]:=fun z=>by rw [List.mem_singleton.mp z,htb] at nl;cases nl
 have hdt:dt ∉ [Pl]:=fun z=>by have e:=S.tb;rw [List.mem_singleton.mp z,htb] at e;cases e
 refine ⟨_,rfl,st,C,dx,_,_,rfl,ob,TC.cl,TC.nN,XA ln dt,_,rfl,ln,_,_,_,rfl,rfl,SqL.of nl,Zv (by rw [List.getElem?_map,ha];rfl),?_⟩
 refine ⟨_,rfl,rfl,_,rfl,?_⟩
 have ed:decide (iN num=V.int 0)=decide (num=0):=by
   by_cases z:num=0
   · rw [decide_eq_true z,z];exact decide_eq_true rfl
   · rw [decide_eq_false z]
     exact decide_eq_false fun y=>z (by have:=V.int.inj y;omega)
 rw [ed]
 rcases Classical.em (num=0∨n.hasM (Zg x)=true) with hc | hc
 · obtain ⟨hnd,hsub,hmrk,hF,hfew⟩:=ZhB h0 htri hn hc
   by_cases z0:num=0
   rw [decide_eq_true z0]
   have s1:Same H H:=Same.refl H
   refine Yh (Yh ?_)
   rotate_left
   rw [decide_eq_false z0]
   refine ZM ⟨_,rfl,_,rfl,x,rfl,N.len x hx,fun H1 s1=>⟨a,n,Zg x,rfl,hna.tf s1.tf,_,rfl,?_⟩⟩
   rw [hc.resolve_left z0]
   refine Yh ?_
   all_goals
     have S1:=S.keep s1
     refine ⟨_,rfl,a,n,rfl,hna.tf s1.tf,fun pt H2 s2 hpt=>?_⟩
     obtain ⟨o,ts,ept,hod,hlts,hp⟩:=hpt
     have hfw:=N.few
     refine ⟨pt,ts,n.pairs,rfl,⟨o,ept,hod⟩,hlts,by omega,hp,hnd,fun dd hd=>?_⟩
     have hd0:H dd=none:=by
       cases e:H dd with
       | none=>rfl
       | some o=>rw [s2 _ _ (s1 _ _ e)] at hd;cases hd
     have s3:=ZB hd (.dK (n.pairs.map fun p=>((Sum.inr p.1:Zj),p.2)))
     refine ⟨_,rfl,_,rfl,_,rfl,dd,_,rfl,DPut.k (k:=Sum.inr x) Zh (by rw [List.length_map];exact Nat.lt_of_le_of_lt (show n.pairs.length≤64 by omega) (by decide)),?_⟩
     have s4:Same H (upd (upd H2 dd (.dK (n.pairs.map fun p=>((Sum.inr p.1:Zj),p.2)))) dd (.dK (Yp (n.pairs.map fun p=>((Sum.inr p.1:Zj),p.2)) (Sum.inr x) v))):=fun b o e=>by
       rw [Zk (Zt e hd0),Zk (Zt e hd0)];exact s2 _ _ (s1 _ _ e)
     have ed4:upd (upd H2 dd (.dK (n.pairs.map fun p=>((Sum.inr p.1:Zj),p.2)))) dd (.dK (Yp (n.pairs.map fun p=>((Sum.inr p.1:Zj),p.2)) (Sum.inr x) v)) dd=some (.dK ((YZ n.pairs x v).map gK)):=by
       rw [Zh,← VX];rfl
     generalize upd (upd H2 dd (.dK (n.pairs.map fun p=>((Sum.inr p.1:Zj),p.2)))) dd (.dK (Yp (n.pairs.map fun p=>((Sum.inr p.1:Zj),p.2)) (Sum.inr x) v))=H4 at *
     have S4:=S.keep s4
     obtain ⟨dx4,ob4⟩:=S4.ob
     refine ⟨_,rfl,st,dx4,_,rfl,ob4,ZS ln dt (by decide +kernel) (by decide +kernel),_,rfl,.inr (.inr (.inl ⟨rfl,.inl ⟨_,ed4⟩⟩)),dd,_,rfl,rfl,ed4,fun vv hvv=>?_⟩
     have s5:=ZB hvv (.ext (Zae vv dd))
     refine ⟨vv,dd,_,rfl,Zh,s5 _ _ ed4,fun l ts2 H5 hl5 s5b hlt2 hnone htup hlst=>?_⟩
     have s6:Same H H5:=(s4.trans s5).trans s5b
     have G:=Zhj (NS:=NS) v hx hnd hsub hmrk
     have hPT:PairT H5 ts2 (YZ n.pairs x v):=by
       refine ⟨by rw [hlt2,List.length_map],fun i b p e1 e2=>?_⟩
       exact htup i b (gK p) e1 (by rw [List.getElem?_map,e2];rfl)
     have hL5:=LamAt.same hL s6
     refine ⟨l,ts2,YZ n.pairs x v,rfl,hlst,hPT,G.ne,by have:=G.few;omega,fun p hp=>N.len _ (G.sub p hp),hL5,fun a6 H6 p1 pr g6 L6 perm6 sort6 node6=>?_⟩
     have tb5:H5 Pl=some (.tbl tb):=s6 _ _ htb
     have tf6:TF H5 H6:=g6.tf tb5
     have S6:=(S.keep s6).kq g6.kq tf6 hst hln hdt
     refine ⟨st,ln,dt,a6,nds,tabs,_,rfl,S6,node6,by omega,fun H7 S7 k7 tf7=>?_⟩
     have nl6:∃ xs,H6 ln=some (.lst xs):=by obtain ⟨as6,e6,_⟩:=S6.nl;exact ⟨_,e6⟩
     have hmk:Zg p1.1=Zg x:=(G.perm perm6).mrk p1 List.mem_cons_self
     rw [hmk] at S7
     refine q H7 _ nds.length S7 (NEx.app nds _) (by rw [List.length_append];show nds.length+1≤_;omega) ?_ (PutR.leaf hn hc perm6 sort6) (L6.kq k7 fun b hb=>by rw [List.mem_singleton.mp hb];exact nl6) ?_ ((s6.tf.trans tf6).trans tf7)
     · exact Zhx (ps:=n.pairs) N hx hxr (by rw [List.getElem?_append_right (Nat.le_refl _),Nat.sub_self];rfl) rfl G perm6 hF
     · exact (Same.kq s6).trans ((g6.kq.sub fun b hb=>by simp at hb ⊢;exact .inr hb).trans (k7.sub fun b hb=>by simp at hb ⊢;exact .inl hb))
 · have z0:num≠0:=fun z=>hc (.inl z)
   have zm:n.hasM (Zg x)=false:=by
     cases e:n.hasM (Zg x) with
     | false=>rfl
     | true=>exact absurd (.inr e) hc
   have hnb:n≠.bare:=fun z=>z0 (hbare z)
   rw [decide_eq_false z0]
   refine ZM ⟨_,rfl,_,rfl,x,rfl,N.len x hx,fun H1 s1=>⟨a,n,Zg x,rfl,hna.tf s1.tf,_,rfl,?_⟩⟩
   rw [zm]
   refine ZM ?_
   cases d with
   | zero =>
     have h5:lev=5:=by omega
     subst h5
     exact absurd (.inr (ZcR N htri hn hnb hx hxr)) hc
   | succ d =>
     obtain ⟨hf4,hft⟩:=ZcL N h0 hrl htri hn hnb
     have hok:ZcK n:=by
       rcases htri with htri | ⟨qs,h1,_⟩
       · rcases htri with ⟨z,_⟩ | ⟨m,ps,h1,G,_⟩
         · exact absurd z z0
         · rw [hn] at h1;cases h1;exact G.ok N
       · rw [hn] at h1;cases h1;exact trivial
     have S1:=S.keep s1
     obtain ⟨dx1,ob1⟩:=S1.ob
     refine ⟨_,rfl,st,dx1,_,rfl,ob1,ZS ln dt (by decide +kernel) (by decide +kernel),_,rfl,_,rfl,st,ln,dt,nds,tabs,num,lev,n,rfl,S1,hn,hnb,hok,by omega,fun rl H2 hrl1 s2 el=>?_⟩
     refine ⟨_,rfl,x,rfl,N.len x hx,fun H3 s3=>⟨_,rfl,Zg x,lev,rfl,N.lo x hx,by omega,?_⟩⟩
     have s13:Same H H3:=(s1.trans s2).trans s3
     have S3:=S.keep s13
     have hrl0:H rl=none:=by
       cases e:H rl with
       | none=>rfl
       | some o=>rw [s1 _ _ e] at hrl1;cases hrl1
     have el3:=s3 _ _ el
     have hdl:Zr (Zg x) lev < (Ye num lev n).length:=by rw [hf4];exact YR _ _
     have hq1:=List.getElem?_eq_getElem hdl
     generalize (Ye num lev n)[Zr (Zg x) lev]=q1 at hq1
     have hat:YO ((Ye num lev n).map iN) (Zg x / 4 ^ lev % 4)=some (iN q1):=by rw [← XF];exact Zv (by rw [List.getElem?_map,hq1];rfl)
     obtain ⟨dx3,ob3⟩:=S3.ob
     refine ⟨_,rfl,st,dx3,_,rfl,ob3,ZS ln dt (by decide +kernel) (by decide +kernel),_,rfl,_,rfl,rl,_,_,_,rfl,rfl,SqL.of el3,hat,_,rfl,_,_,rfl,rfl,_,rfl,_,rfl,?_⟩
     refine ⟨st,ln,dt,nds,tabs,q1,lev+1,_,x,v,Fm,rfl,S3,h0,hft _ _ hq1,YU hrl (YR _ _),by omega,hx,by rw [Xv,hxr,Ys (N.lo x hx)];rfl,by omega,LamAt.same hL s13,fun H5 nds5 num5 S5 ext5 len5 tri5 pr5 L5 kq5 tf5=>?_⟩
     have nrl:rl ∉ [ln,Pl]:=fun z=>by
       rcases List.mem_cons.mp z with z | z
       · rw [z,nl] at hrl0;cases hrl0
       · rw [List.mem_singleton.mp z,htb] at hrl0;cases hrl0
     have el5:=kq5 _ _ nrl el3
     have hix:Wi ((Ye num lev n).map iN).length (Zg x / 4 ^ lev % 4)=some (Zr (Zg x) lev):=by
       rw [← XF,List.length_map]
       unfold Wi
       rw [if_pos (by omega),if_pos (by omega)]
       rfl
     refine ⟨_,rfl,_,rfl,rl,_,_,_,rfl,rfl,el5,hix,?_⟩
     have tf6:=Zdd (o:=.lst (((Ye num lev n).map iN).set (Zr (Zg x) lev) (iN num5))) el5
     have k6:Kq [rl] H5 (upd H5 rl (.lst (((Ye num lev n).map iN).set (Zr (Zg x) lev) (iN num5)))):=ZaE
     have nst:st ∉ [rl]:=fun z=>by rw [← List.mem_singleton.mp z,ob] at hrl0;cases hrl0
     have nln:ln ∉ [rl]:=fun z=>by rw [← List.mem_singleton.mp z,nl] at hrl0;cases hrl0
     have ndt:dt ∉ [rl]:=fun z=>by rw [← List.mem_singleton.mp z,S.tb] at hrl0;cases hrl0
     have S6:=S5.kq k6 tf6 nst nln ndt
     have el6:upd H5 rl (.lst (((Ye num lev n).map iN).set (Zr (Zg x) lev) (iN num5))) rl=some (.lst (((Ye num lev n).set (Zr (Zg x) lev) num5).map iN)):=by rw [Zh,List.map_set]
     have L6:=L5.kq k6 fun b hb=>by rw [List.mem_singleton.mp hb];exact ⟨_,el5⟩
     have kh:Kq [ln,Pl] H (upd H5 rl (.lst (((Ye num lev n).map iN).set (Zr (Zg x) lev) (iN num5)))):=fun b o nb e=>by
       rw [Zk (Zt e hrl0)];exact kq5 _ _ nb (s13 _ _ e)
     generalize upd H5 rl (.lst (((Ye num lev n).map iN).set (Zr (Zg x) lev) (iN num5)))=H6 at *
     obtain ⟨dx6,ob6⟩:=S6.ob
     refine ⟨_,rfl,st,dx6,_,rfl,ob6,ZS ln dt (by decide +kernel) (by decide +kernel),_,rfl,rl,(Ye num lev n).set (Zr (Zg x) lev) num5,rfl,el6,by rw [List.length_set,hf4],fun a7 H7 s7 node7=>?_⟩
     have S7:=S6.keep s7
     refine ⟨st,ln,dt,a7,nds5,tabs,_,rfl,S7,node7,by omega,fun H8 S8 k8 tf8=>?_⟩
     have nl7:∃ xs,H7 ln=some (.lst xs):=by obtain ⟨as7,e7,_⟩:=S7.nl;exact ⟨_,e7⟩
     refine q H8 _ nds5.length S8 (ext5.trans (NEx.app nds5 _)) (by rw [List.length_append];show nds5.length+1≤_;omega) ?_ (PutR.fork hn z0 zm hq1 pr5) ((LamAt.same L6 s7).kq k8 fun b hb=>by rw [List.mem_singleton.mp hb];exact nl7) ?_ ((((s13.tf.trans tf5).trans tf6).trans s7.tf).trans tf8)
     · refine Zhl (v:=v) (num':=num5) (F:=Fm) (qs:=Ye num lev n) N hrl hx hxr hf4 hft (ext5.trans (NEx.app nds5 _)) (Tri.mono d tri5 (NEx.app nds5 _)) (fun y hy=>if_neg hy) ?_
       rw [List.getElem?_append_right (Nat.le_refl _),Nat.sub_self];rfl
     · exact (kh.trans (Same.kq s7)).trans (k8.sub fun b hb=>by simp at hb ⊢;exact .inl hb)
end
end K20
set_option maxHeartbeats 4000000
namespace K20
open PySem L2
section
variable {P:Program} {w:World} {K:PySem.W.Frag} {mg:Str→Option Value} {base:Heap} {C Pl:Addr} {NS:List Str}
theorem ZdZ {f:Addr} {fd:FuncData} (N:Ym NS) (F:Fun K "put_in" "Store.put_in" c_Store_put_in f fd) (T:Txt K mg) (TC:Xm K C)
   (DH:Def P w K mg base 1 "has_mark" ["node","number"] (Vi K)) (DR:Def P w K mg base 1 "pairs_in" ["node"] (XV K)) (DM:Def P w K mg base 1 "mark" ["name"] Wh) (DG:Def P w K mg base 1 "digit" ["number","level"] XW)
   (DL:Def P w K mg base 2 "leaf_of" ["pairs"] (UT K Pl YG)) (DO:Def P w K mg base 1 "fork_of" ["parts"] (WA K)) (DK:DefM P w K mg base 1 C "keep" ["self","node"] (Vl K C)) (DF:DefM P w K mg base 2 C "fork_parts" ["self","number","level"] (Ziw K C))
   (b:Binds K fd nPi []) (mt:Vh K C "put_in" f):∀ d,FnOk P w K mg base ZH (2+d) f fd nPi (Vg K C Pl NS d)
 | 0=>F.ok scPI (fun _ _ _ _ h=>h.elim) (fun _ _ _ _ _ _ _ _ _ h=>h.elim)
 | d+1=>Zjt N (Nat.le_add_right 2 d) F T TC DH DR DM DG DL DO DK DF ⟨f,fd,ZdZ N F T TC DH DR DM DG DL DO DK DF b mt d,b,mt⟩
def ZdR:Sp:=fun vs H Q _=>∃ u v,vs=[u,v]∧scal u v=true∧Q (.bl (decide (u=v))) H
theorem scAl:Zs ["one","other"] ["one","other"] (Zl s_alike):=⟨rfl,rfl,rfl,by decide +kernel,rfl,by decide +kernel,by decide +kernel⟩
theorem Zij {f:Addr} {fd:FuncData} (F:Fun K "alike" "alike" s_alike f fd):FnOk P w K mg base ZH 1 f fd ["one","other"] ZdR:=by
 refine F.ok scAl (fun vs H Q E h=>?_) (fun cdv A outer s H vs Q E hr h=>?_)
 · obtain ⟨u,v,rfl,_⟩:=h;rfl
 obtain ⟨u,v,rfl,hs,q⟩:=h
 exact ⟨_,Zi (Zp (YT Yq (pv 0) (pv 1) (ZE _))),⟨_,rfl,_,rfl,hs,q⟩⟩
def ValV:V→Prop
 | .int _=>True
 | .str _=>True
 | _=>False
theorem ValV.scal {o:Option V} {v:V} (h:ValV v) (ho:∀ u,o=some u→ValV u):scal (o.getD .non) v=true:=by
 cases o with
 | none=>cases v <;> first | rfl | exact h.elim
 | some u =>
   have hu:=ho u rfl
   cases u <;> first | exact hu.elim | (cases v <;> first | rfl | exact h.elim)
theorem ValV.ne {v:V} (h:ValV v):v≠.non:=fun z=>by subst z;exact h
theorem UL {nds:List Nd} {F:Str→Option V} {t:Nat} {x:Str} (N:Ym NS) (h:Tri NS nds F 5 0 0 t) (hx:x∈NS) :
   ∃ ws e n,YI nds (Zg x) 6 0 t=some (ws++[e])∧nds[e]?=some n∧n.pairs.length≤1000∧(n.pairs.map (·.1)).Nodup∧lk n.pairs x=F x:=by
 obtain ⟨ws,e,n,e1,e2,e3⟩:=Zka N 5 (by decide) h hx (by rw [Nat.pow_zero,Nat.mod_one])
 refine ⟨ws,e,n,e1,e2,?_⟩
 have hf:=N.few
 rcases e3 with ⟨_,rfl,z⟩ | ⟨m,ps,rfl,G,z⟩
 · exact ⟨Nat.zero_le _,List.nodup_nil,by rw [z];rfl⟩
 · exact ⟨by have:=G.few;show ps.length≤1000;omega,G.nd,z.symm⟩
def ZiP (K:PySem.W.Frag) (C Pl:Addr) (NS:List Str):Sp:=fun vs H Q _=>∃ (st ln dt:Addr) (nds:List Nd) (tabs:List (Zj×V)) (t:Nat) (x:Str) (v:V) (F:Str→Option V),vs=[.ref st,iN t,.str x,v]∧StoreAt K C st ln dt H nds tabs∧nds[0]?=some .bare∧(ZJ tabs (Sum.inl (t:Int))).isSome=true∧Tri NS nds F 5 0 0 t∧x∈NS∧ValV v∧(∀ u,F x=some u→ValV u)∧nds.length+6≤100000∧tabs.length≤100000∧LamAt H Pl YG Xt ∧
 ∀ (H':Hp) (nds':List Nd) (tabs':List (Zj×V)) (t':Nat),StoreAt K C st ln dt H' nds' tabs'→NEx nds nds'→nds'.length≤nds.length+6→tabs'.length≤tabs.length+1→(∀ k,(ZJ tabs k).isSome=true→(ZJ tabs' k).isSome=true)→(ZJ tabs' (Sum.inl (t':Int))).isSome=true→Tri NS nds' (upF F x v) 5 0 0 t'→((F x=some v∧t'=t∧nds'=nds∧tabs'=tabs)∨(F x≠some v∧PutR x v nds 0 t nds' t'∧tabs'=Yp tabs (Sum.inl (t':Int)) (.bl true)))→LamAt H' Pl YG Xt→Kq [ln,dt,Pl] H H'→TF H H'→Q (iN t') H'
theorem scPu:Zs ["self","table","name","value"] ["self","table","name","value"] (Zl c_Store_put):=⟨rfl,rfl,rfl,by decide +kernel,rfl,by decide +kernel,by decide +kernel⟩
theorem Zkw {f:Addr} {fd:FuncData} (N:Ym NS) (F:Fun K "put" "Store.put" c_Store_put f fd) (TC:Xm K C) (DA:Def P w K mg base 1 "alike" ["one","other"] ZdR) (DLk:DefM P w K mg base 3 C "looked" ["self","table","name"] (VL K C))
   (DAs:DefM P w K mg base 1 C "as_table" ["self","number"] (Zfo K C)) (DI:DefM P w K mg base 8 C "put_in" nPi (Vg K C Pl NS 6)):FnOk P w K mg base ZH 9 f fd ["self","table","name","value"] (ZiP K C Pl NS):=by
 refine F.ok scPu (fun vs H Q E h=>?_) (fun cdv A outer s H vs Q E hr h=>?_)
 · obtain ⟨st,ln,dt,nds,tabs,t,x,v,F,rfl,_⟩:=h;rfl
 obtain ⟨st,ln,dt,nds,tabs,t,x,v,Fm,rfl,S,h0,htab,htri,hx,hv,hFv,hlen,htl,hL,q⟩:=h
 have hr1:=hr.mono (show 1≤8 by decide)
 have hr3:=hr.mono (show 3≤8 by decide)
 refine' ⟨?t,?h,?r⟩
 case h =>
   conv=>arg 2;whnf
   with_reducible refine' Zd (Yk ?a1 (Zi ?a2) ZW) (Zi ?a3)
   case a1=>exact Wn (Zz DA hr1 (Zc (Yy DLk TC.cl hr3 (pv 0) (Zc (pv 1) (Zc (pv 2) Za))) (Zc (pv 3) Za)))
   case a2=>exact Zp (pv 1)
   case a3=>exact Zp (Yy DAs TC.cl hr1 (pv 0) (Zc (Yy DI TC.cl hr (pv 0) (Zc (pv 1) (Zc Zb (Zc (pv 2) (Zc (pv 3) Za))))) Za))
 obtain ⟨dx,ob⟩:=S.ob
 obtain ⟨ws,e,n,e1,e2,e3,e4,e5⟩:=UL N htri hx
 refine ⟨_,rfl,st,dx,_,rfl,ob,ZS ln dt (by decide +kernel) (by decide +kernel),_,rfl,_,rfl,st,ln,dt,nds,tabs,t,x,6,ws,e,n,rfl,S,htab,N.len x hx,N.lo x hx,by decide,e1,e2,e3,e4,fun H1 s1=>?_⟩
 rw [e5]
 refine ⟨_,rfl,_,_,rfl,hv.scal hFv,_,rfl,?_⟩
 have S1:=S.keep s1
 have hL1:=LamAt.same hL s1
 by_cases hc:(Fm x).getD .non=v
 · rw [decide_eq_true hc]
   refine Yh ⟨_,rfl,q H1 nds tabs t S1 (NEx.refl _) (by omega) (by omega) (fun _ h=>h) htab (Tri.congr 5 (by decide) htri fun y _ _=>?_) (.inl ⟨?_,rfl,rfl,rfl⟩) hL1 (Same.kq s1) s1.tf⟩
   rotate_left
   · cases eF:Fm x with
     | none=>rw [eF] at hc;exact absurd hc.symm hv.ne
     | some u=>rw [eF] at hc;exact congrArg some hc
   unfold upF
   by_cases z:y=x
   · rw [if_pos z,z]
     cases eF:Fm x with
     | none=>rw [eF] at hc;exact absurd hc.symm hv.ne
     | some u=>rw [eF] at hc;exact congrArg some hc.symm
   · rw [if_neg z]
 · rw [decide_eq_false hc]
   obtain ⟨dx1,ob1⟩:=S1.ob
   refine ZM ⟨_,rfl,st,dx1,_,rfl,ob1,ZS ln dt (by decide +kernel) (by decide +kernel),_,rfl,st,dx1,_,rfl,ob1,ZS ln dt (by decide +kernel) (by decide +kernel),_,rfl,_,rfl,_,rfl,?_⟩
   refine ⟨st,ln,dt,nds,tabs,t,0,0,x,v,Fm,rfl,S1,h0,htri,by decide,rfl,hx,by rw [Nat.pow_zero,Nat.mod_one],hlen,hL1,fun H2 nds2 num2 S2 ext2 len2 tri2 pr2 L2' kq2 tf2=>?_⟩
   refine ⟨st,ln,dt,nds2,tabs,num2,rfl,S2,by omega,fun H3 S3 k3 tf3=>?_⟩
   obtain ⟨tb,htb⟩:=L2'.tbl
   refine q H3 nds2 _ num2 S3 ext2 len2 (XB _ _ _) (fun k hk=>?_) (by rw [WJ,if_pos rfl];rfl) tri2 (.inr ⟨fun z=>hc (by rw [z];rfl),pr2,rfl⟩) ?_ ?_ ((s1.tf.trans tf2).trans tf3)
   · rw [WJ]
     by_cases z:k=Sum.inl (num2:Int)
     · rw [if_pos z];rfl
     · rw [if_neg z];exact hk
   · have hdl:∀ b∈[dt],∃ xs,H2 b=some (.dK xs):=fun b hb=>by rw [List.mem_singleton.mp hb];exact ⟨_,S2.tb⟩
     rcases L2' with h | ⟨c,h,h2⟩
     · exact .inl (k3 _ _ (fun z=>by obtain ⟨_,e⟩:=hdl _ z;rw [h] at e;cases e) h)
     · exact .inr ⟨c,k3 _ _ (fun z=>by obtain ⟨_,e⟩:=hdl _ z;rw [h] at e;cases e) h,k3 _ _ (fun z=>by obtain ⟨_,e⟩:=hdl _ z;rw [h2] at e;cases e) h2⟩
   · exact ((Same.kq s1).trans (kq2.sub fun b hb=>by simp at hb ⊢;rcases hb with z | z;exact .inl z;exact .inr (.inr z))).trans (k3.sub fun b hb=>by simp at hb ⊢;exact .inr (.inl hb))
end
end K20
set_option maxHeartbeats 4000000
namespace K20
open PySem L2
section
variable {NS:List Str} {nds nds':List Nd} {F F':Str→Option V}
def VA (F:Str→Option V) (x:Str):Str→Option V:=fun y=>if y=x then none else F y
def YJ (ps:List (Str×V)) (x:Str):List (Str×V):=ps.filter fun p=>!decide (p.1=x)
theorem Zbj (ps:List (Str×V)) (x y:Str):lk (YJ ps x) y=if y=x then none else lk ps y:=by
 induction ps with
 | nil => by_cases h:y=x
          · rw [if_pos h];rfl
          · rw [if_neg h];rfl
 | cons p ps ih =>
   unfold YJ at ih ⊢
   rw [List.filter_cons]
   by_cases hp:p.1=x
   · rw [decide_eq_true hp]
     show lk (ps.filter fun p=>!decide (p.1=x)) y=_
     rw [ih,XJ]
     by_cases h:y=x
     · rw [if_pos h,if_pos h]
     · rw [if_neg h,if_neg h,if_neg fun z=>h (by rw [← z,hp])]
   · rw [decide_eq_false hp]
     show lk (p::ps.filter fun p=>!decide (p.1=x)) y=_
     rw [XJ,ih,XJ]
     by_cases h:y=x
     · rw [if_pos h,if_pos h,if_neg fun z=>hp (by rw [z,h])]
     · rw [if_neg h,if_neg h]
theorem LeafG.but {m:Int} {ps:List (Str×V)} {x:Str} (G:LeafG NS m ps) (h:YJ ps x≠[]):LeafG NS m (YJ ps x):=by
 have hs:(YJ ps x).Sublist ps:=List.filter_sublist
 exact ⟨h,G.nd.sublist (hs.map (·.1)),fun p hp=>G.sub p (hs.subset hp),fun p hp=>G.mrk p (hs.subset hp)⟩
theorem ZbL {d lev r num:Nat} (h:TriE NS nds F lev r num):Tri NS nds F d lev r num:=by
 cases d with
 | zero=>exact h
 | succ d=>exact .inl h
theorem Zgc {d lev r num:Nat} {n:Nd} {x:Str} {v0:V} (h:Tri NS nds F d lev r num) (hn:nds[num]?=some n) (hx:x∈NS) (hxr:Yg x % 4 ^ lev=r) (hF:F x=some v0) :
   (∃ ps,n=.leaf (Zg x) ps∧LeafG NS (Zg x) ps∧∀ y∈NS,Yg y % 4 ^ lev=r→F y=lk ps y)∨∃ qs d',d=d'+1∧n=.fork qs∧qs.length=4∧∀ i q,qs[i]?=some q→Tri NS nds F d' (lev+1) (r+i * 4 ^ lev) q:=by
 have e:TriE NS nds F lev r num→∃ ps,n=.leaf (Zg x) ps∧LeafG NS (Zg x) ps∧∀ y∈NS,Yg y % 4 ^ lev=r→F y=lk ps y:=fun g=>by
   rcases g with ⟨_,_,h3⟩ | ⟨m,ps,h1,G,_,h4⟩
   · rw [h3 x hx hxr] at hF;cases hF
   · rw [hn] at h1;cases h1
     have hm:Zg x=m:=by
       rw [h4 x hx hxr] at hF
       exact G.mrk _ ((Xo G.nd).mp hF)
     subst hm
     exact ⟨ps,rfl,G,h4⟩
 cases d with
 | zero=>exact .inl (e h)
 | succ d =>
   rcases h with h | ⟨qs,h1,h2,h3⟩
   · exact .inl (e h)
   · rw [hn] at h1;cases h1
     exact .inr ⟨qs,d,rfl,rfl,h2,h3⟩
theorem ZhW {lev r num:Nat} {ps qs:List (Str×V)} {x:Str} (d:Nat) (hr:Yg x % 4 ^ lev=r) (hn:nds[num]?=some (.leaf (Zg x) qs)) (G:LeafG NS (Zg x) (YJ ps x)) (hp:qs.Perm (YJ ps x)) (hF:∀ y∈NS,Yg y % 4 ^ lev=r→F y=lk ps y):Tri NS nds (VA F x) d lev r num:=by
 refine ZbL (.inr ⟨Zg x,qs,hn,G.perm hp,hr,fun y hy hry=>?_⟩)
 rw [ZdG hp G.nd,Zbj]
 unfold VA
 by_cases h:y=x
 · rw [if_pos h,if_pos h]
 · rw [if_neg h,if_neg h];exact hF y hy hry
theorem Zha {lev r:Nat} {ps:List (Str×V)} {x:Str} (d:Nat) (h0:nds[0]?=some .bare) (hb:YJ ps x=[]) (hF:∀ y∈NS,Yg y % 4 ^ lev=r→F y=lk ps y):Tri NS nds (VA F x) d lev r 0:=by
 refine ZbL (.inl ⟨rfl,h0,fun y hy hry=>?_⟩)
 have:=Zbj ps x y
 rw [hb,Zgg] at this
 unfold VA
 by_cases h:y=x
 · rw [if_pos h]
 · rw [if_neg h] at this ⊢;rw [hF y hy hry];exact this.symm
theorem ZgS {d lev r num':Nat} {qs:List Nat} {x:Str} (N:Ym NS) (hr:r < 4 ^ lev) (hx:x∈NS) (hxr:Yg x % 4 ^ lev=r) (hl:qs.length=4) (hq:∀ (i q:Nat),qs[i]?=some q→Tri NS nds F d (lev+1) (r+i * 4 ^ lev) q)
   (e:NEx nds nds') (hn:Tri NS nds' F' d (lev+1) (r+Zr (Zg x) lev * 4 ^ lev) num') (hF:∀ y,y≠x→F' y=F y) (i q:Nat) (hi:(qs.set (Zr (Zg x) lev) num')[i]?=some q):Tri NS nds' F' d (lev+1) (r+i * 4 ^ lev) q:=by
 have hi4:i < 4:=by rw [← hl];have:=(List.getElem?_eq_some_iff.mp hi).1;rwa [List.length_set] at this
 rw [List.getElem?_set] at hi
 by_cases z:Zr (Zg x) lev=i
 · rw [if_pos z,if_pos (by rw [hl,z];exact hi4)] at hi
   cases hi
   rw [← z]
   exact hn
 · rw [if_neg z] at hi
   refine Tri.congr d (YU hr hi4) (Tri.mono d (hq i q hi) e) fun y hy hry=>hF y fun w=>z ?_
   rw [w] at hry
   rw [Ys (N.lo x hx)]
   exact (YN hr hry).2
theorem Zal {qs:List Nat} {q:Nat} (h:(qs.filter fun p=>!decide (p=0))=[q]):∃ i:Nat,qs[i]?=some q∧q≠0∧∀ (j p:Nat),qs[j]?=some p→j≠i→p=0:=by
 induction qs with
 | nil=>cases h
 | cons a qs ih =>
   rw [List.filter_cons] at h
   by_cases ha:a=0
   · rw [decide_eq_true ha] at h
     obtain ⟨i,h1,h2,h3⟩:=ih h
     refine ⟨i+1,h1,h2,fun j p hj hne=>?_⟩
     cases j with
     | zero=>cases hj;exact ha
     | succ j=>exact h3 j p hj fun z=>hne (by rw [z])
   · rw [decide_eq_false ha] at h
     have h':a::(qs.filter fun p=>!decide (p=0))=[q]:=h
     obtain ⟨e1,e2⟩:=List.cons.inj h'
     refine ⟨0,by rw [e1];rfl,by rw [← e1];exact ha,fun j p hj hne=>?_⟩
     cases j with
     | zero=>exact absurd rfl hne
     | succ j =>
       have hp:p∈qs:=List.mem_of_getElem? hj
       by_cases z:p=0
       · exact z
       · have:p∈qs.filter fun p=>!decide (p=0):=List.mem_filter.mpr ⟨hp,by rw [decide_eq_false z];rfl⟩
         rw [e2] at this;cases this
theorem ZlF {d lev r q:Nat} {qs:List Nat} {m:Int} {ps:List (Str×V)} (N:Ym NS) (h0:nds[0]?=some .bare) (hr:r < 4 ^ lev) (hl:qs.length=4) (hq:∀ (i q:Nat),qs[i]?=some q→Tri NS nds F d (lev+1) (r+i * 4 ^ lev) q)
   (h1:(qs.filter fun p=>!decide (p=0))=[q]) (hn:nds[q]?=some (.leaf m ps)):Tri NS nds F (d+1) lev r q:=by
 obtain ⟨i,hi,hq0,hoth⟩:=Zal h1
 have leafE:TriE NS nds F (lev+1) (r+i * 4 ^ lev) q:=by
   have:=hq i q hi
   cases d with
   | zero=>exact this
   | succ d =>
     rcases this with h | ⟨qs',h,_⟩
     · exact h
     · rw [hn] at h;cases h
 rcases leafE with ⟨z,_⟩ | ⟨m',ps',e,G,hm,hF⟩
 · exact absurd z hq0
 · rw [hn] at e;cases e
   obtain ⟨p1,pr,e1,e2,e3,e4⟩:=G.ok N
   obtain ⟨hm1,hm2⟩:=YN hr hm
   refine .inl (.inr ⟨m,ps,hn,G,hm1,fun y hy hry=>?_⟩)
   have hj:Zr (Zg y) lev < qs.length:=by rw [hl];exact YR _ _
   have hyr:Yg y % 4 ^ (lev+1)=r+Zr (Zg y) lev * 4 ^ lev:=by rw [Xv,hry,Ys (N.lo y hy)];rfl
   by_cases z:Zr (Zg y) lev=i
   · rw [z] at hyr;exact hF y hy hyr
   · have hz:=hoth _ _ (List.getElem?_eq_getElem hj) z
     have ht:=hq _ _ (List.getElem?_eq_getElem hj)
     rw [hz] at ht
     have hE:TriE NS nds F (lev+1) (r+Zr (Zg y) lev * 4 ^ lev) 0:=by
       cases d with
       | zero=>exact ht
       | succ d =>
         rcases ht with h | ⟨qs',h,_⟩
         · exact h
         · rw [h0] at h;cases h
     rcases hE with ⟨_,_,h3⟩ | ⟨m',ps',e,_⟩
     · rw [h3 y hy hyr]
       refine (Zec fun p hp e=>z ?_).symm
       rw [Ys (N.lo y hy),← hm2,← e,G.mrk p hp]
     · rw [h0] at e;cases e
theorem VR {d lev r num:Nat} {qs:List Nat} (hn:nds[num]?=some (.fork qs)) (hl:qs.length=4) (hq:∀ (i q:Nat),qs[i]?=some q→Tri NS nds F d (lev+1) (r+i * 4 ^ lev) q):Tri NS nds F (d+1) lev r num:=.inr ⟨qs,hn,hl,hq⟩
end
theorem ZjA {X:Cx} {K:PySem.W.Frag} (hK:X.K=K):IxR X (rIxT K):=by subst hK;exact ZQ
inductive TakR (x:Str):List Nd→Nat→Nat→List Nd→Nat→Prop
 | gone {nds:List Nd} {lev num:Nat} {ps:List (Str×V)}:nds[num]?=some (.leaf (Zg x) ps)→YJ ps x=[]→TakR x nds lev num nds 0
 | less {nds:List Nd} {lev num:Nat} {ps qs:List (Str×V)}:nds[num]?=some (.leaf (Zg x) ps)→YJ ps x≠[]→qs.Perm (YJ ps x)→Uk qs→TakR x nds lev num (nds++[.leaf (Zg x) qs]) nds.length
 | up {nds nds1:List Nd} {lev num q1 num1 q:Nat} {qs:List Nat} {m:Int} {ps:List (Str×V)}:nds[num]?=some (.fork qs)→qs[Zr (Zg x) lev]?=some q1→TakR x nds (lev+1) q1 nds1 num1→((qs.set (Zr (Zg x) lev) num1).filter fun p=>!decide (p=0))=[q]→nds1[q]?=some (.leaf m ps)→TakR x nds lev num nds1 q
 | fork {nds nds1:List Nd} {lev num q1 num1:Nat} {qs:List Nat}:nds[num]?=some (.fork qs)→qs[Zr (Zg x) lev]?=some q1→TakR x nds (lev+1) q1 nds1 num1→(∀ (q:Nat) (m:Int) (ps:List (Str×V)),((qs.set (Zr (Zg x) lev) num1).filter fun p=>!decide (p=0))=[q]→nds1[q]?≠some (.leaf m ps))→TakR x nds lev num (nds1++[.fork (qs.set (Zr (Zg x) lev) num1)]) nds1.length
section
variable {P:Program} {w:World} {K:PySem.W.Frag} {mg:Str→Option Value} {base:Heap} {C Pl:Addr} {NS:List Str}
def ZaM (K:PySem.W.Frag) (C Pl:Addr) (NS:List Str):Nat→Sp
 | 0=>fun _ _ _ _=>False
 | d+1=>fun vs H Q _=>∃ (st ln dt:Addr) (nds:List Nd) (tabs:List (Zj×V)) (num lev r:Nat) (x:Str) (v0:V) (F:Str→Option V),vs=[.ref st,iN num,iN lev,.str x]∧StoreAt K C st ln dt H nds tabs∧nds[0]?=some .bare∧Tri NS nds F d lev r num∧r < 4 ^ lev∧lev+d=5∧x∈NS∧Yg x % 4 ^ lev=r∧F x=some v0∧nds.length+d+1≤100000∧LamAt H Pl YG Xt ∧
   ∀ (H':Hp) (nds':List Nd) (num':Nat),StoreAt K C st ln dt H' nds' tabs→NEx nds nds'→nds'.length≤nds.length+d+1→Tri NS nds' (VA F x) d lev r num'→TakR x nds lev num nds' num'→LamAt H' Pl YG Xt→Kq [ln,Pl] H H'→TF H H'→Q (iN num') H'
abbrev nTk:List Str:=["self","number","level","name"]
abbrev nTa:List Str:=["self","number","level","name","node","left","parts","figure","filled"]
theorem scTk:Zs nTa nTk (Zl c_Store_taken_from):=⟨rfl,rfl,rfl,by decide +kernel,rfl,by decide +kernel,by decide +kernel⟩
theorem Zkt {f : Addr} {fd:FuncData} {d k:Nat} (N:Ym NS) (hk:2≤k) (F:Fun K "taken_from" "Store.taken_from" c_Store_taken_from f fd) (T:Txt K mg) (TC:Xm K C)
   (DH:Def P w K mg base 1 "has_mark" ["node","number"] (Vi K)) (DP:Def P w K mg base 1 "parts_in" ["node"] (Ue K)) (DR:Def P w K mg base 1 "pairs_in" ["node"] (XV K)) (DM:Def P w K mg base 1 "mark" ["name"] Wh) (DG:Def P w K mg base 1 "digit" ["number","level"] XW)
   (DL:Def P w K mg base 2 "leaf_of" ["pairs"] (UT K Pl YG)) (DO:Def P w K mg base 1 "fork_of" ["parts"] (WA K)) (DK:DefM P w K mg base 1 C "keep" ["self","node"] (Vl K C))
   (DI:DefM P w K mg base k C "taken_from" nTk (ZaM K C Pl NS d)):FnOk P w K mg base ZH (k+1) f fd nTk (ZaM K C Pl NS (d+1)):=by
 refine F.ok scTk (fun vs H Q E h=>?_) (fun cdv A outer s H vs Q E hr h=>?_)
 · obtain ⟨st,ln,dt,nds,tabs,num,lev,r,x,v0,F,rfl,_⟩:=h;rfl
 obtain ⟨st,ln,dt,nds,tabs,num,lev,r,x,v0,Fm,rfl,S,h0,htri,hrl,hlev,hx,hxr,hFx,hlen,hL,q⟩:=h
 obtain ⟨tz,hz⟩:=T.zero
 have hr1:=hr.mono (show 1≤k by omega)
 have hr2:=hr.mono hk
 refine' ⟨?t,?h,?r⟩
 case h =>
   conv=>arg 2;whnf
   with_reducible refine' Zd ?a1 (Zd (Yk ?a2 (Zd ?c1 (Zi ?c2)) ZW) (Zd ?a3 (Zd ?a4 (Zd ?a5 (Zd ?a6 (Zd (Yk ?a7 (Zi ?a8) ZW) (Zi ?a9)))))))
   case a1=>exact Zx (i:=4) scTk.nd rfl (Or.inl rfl) (Zo Zy (ZU (pv 0) rfl) (pv 1) (fun _ _=>rfl))
   case a2=>exact Wn (Zz DH hr1 (Zc (pv 4) (Zc (Zz DM hr1 (Zc (pv 3) Za)) Za)))
   case c1=>exact WW (i:=5) (CompOk.of nTa c_Store_taken_from rfl rfl (by decide +kernel)) rfl scTk.nd rfl (Or.inl rfl) (Zgo (Zz DR hr1 (Zc (pv 4) Za))) (fun _ _ _ _ _=>ZL Zac (Zo (ZjA (K:=K) rfl) (pv 9) Zb (fun _ _=>rfl)) (pv 3) (ZE _)) (fun _ _ _ _ _=>pv 9) rfl
   case c2=>exact Zp (WH (UB (pv 5) (fun _=>rfl)) (Yy DK TC.cl hr1 (pv 0) (Zc (Zz DL hr2 (Zc (pv 5) Za)) Za)) (Xk rfl hz (v:=.int 0) ⟨_,rfl⟩))
   case a3=>exact Zx (i:=6) scTk.nd rfl (Or.inl rfl) (Yu Ve rfl T.list (by decide +kernel) (Zc (Zz DP hr1 (Zc (pv 4) Za)) Za))
   case a4=>exact Zx (i:=7) scTk.nd rfl (Or.inl rfl) (Zz DG hr1 (Zc (Zz DM hr1 (Zc (pv 3) Za)) (Zc (pv 2) Za)))
   case a5=>exact Xz (Yy DI TC.cl hr (pv 0) (Zc (Zo Zy (pv 6) (pv 7) (fun _ _=>rfl)) (Zc (Zn Yi (pv 2) Zb) (Zc (pv 3) Za)))) (Zaw (pv 6) (pv 7) UA)
   case a6=>exact WW (i:=8) (CompOk.of nTa c_Store_taken_from rfl rfl (by decide +kernel)) rfl scTk.nd rfl (Or.inl rfl) (Ur (pv 6)) (fun _ _ _ _ _=>ZL Zac (pv 9) (Xk rfl hz (v:=.int 0) ⟨_,rfl⟩) (ZE _)) (fun _ _ _ _ _=>pv 9) rfl
   case a7=>exact PW.pt (ZfW (ZL Yq (Zw ZG rfl T.len PySem.boot_len (Zc (pv 8) Za)) Zb (ZE _)) (Zdy (UB (Zz DR hr1 (Zc (Zo Zy (ZU (pv 0) rfl) (Zo Zy (pv 8) Zb (fun _ _=>rfl)) (fun _ _=>rfl)) Za)) (fun _=>rfl))))
   case a8=>exact Zp (Zo Zy (pv 8) Zb (fun _ _=>rfl))
   case a9=>exact Zp (Yy DK TC.cl hr1 (pv 0) (Zc (Zz DO hr1 (Zc (pv 6) Za)) Za))
 obtain ⟨n,hn,hbare⟩:=VP htri
 obtain ⟨as,a,nl,ha,hna⟩:=S.node hn
 obtain ⟨dx,ob⟩:=S.ob
 obtain ⟨tb,htb⟩:=hL.tbl
 have hst:st ∉ [Pl]:=fun z=>by rw [List.mem_singleton.mp z,htb] at ob;cases ob
 have hln:ln ∉ [Pl]:=fun z=>by rw [List.mem_singleton.mp z,htb] at nl;cases nl
 have hdt:dt ∉ [Pl]:=fun z=>by have e:=S.tb;rw [List.mem_singleton.mp z,htb] at e;cases e
 refine ⟨_,rfl,st,C,dx,_,_,rfl,ob,TC.cl,TC.nN,XA ln dt,_,rfl,ln,_,_,_,rfl,rfl,SqL.of nl,Zv (by rw [List.getElem?_map,ha];rfl),?_⟩
 refine ⟨_,rfl,_,rfl,x,rfl,N.len x hx,fun H1 s1=>⟨a,n,Zg x,rfl,hna.tf s1.tf,_,rfl,?_⟩⟩
 rcases Zgc htri hn hx hxr hFx with ⟨ps,rfl,G,hF⟩ | ⟨qs,d',rfl,rfl,hq4,hqs⟩
 · rw [show (Nd.leaf (Zg x) ps).hasM (Zg x)=true from decide_eq_true rfl]
   refine Yh ?_
   refine ⟨_,rfl,a,_,rfl,hna.tf s1.tf,fun pt H2 s2 hpt=>?_⟩
   obtain ⟨o,ts,ept,hod,hlts,hp⟩:=hpt
   have hlts':ts.length=ps.length:=hlts
   have s12:=s1.trans s2
   have hfw:=N.few
   have hgf:=G.few
   refine ⟨pt,rfl,⟨_,.inl (.inr ⟨o,ept⟩)⟩,fun D hD=>?_⟩
   have hD0:H D=none:=by
     cases e:H D with
     | none=>rfl
     | some o=>rw [s12 _ _ e] at hD;cases hD
   have hzl:(ts.zip ps).length=ts.length:=by rw [List.length_zip,hlts',Nat.min_self]
   have hzs:(ts.zip ps).map (·.2)=ps:=List.map_snd_zip (by omega)
   refine Zgj (K:=K) (a:=pt) (xs:=ts.map V.ref) (by rw [List.length_map];exact Nat.le_trans (show ts.length≤64 by omega) (by decide))
     (fun i ys H'=>ys=(((ts.zip ps).take i).filter fun z=>!decide (z.2.1=x)).map (fun z=>V.ref z.1)∧H' D=some (.lst ys)∧Same H2 H') ⟨rfl,Zh,ZB hD _⟩ ?_ ?_ ?_
   · rintro i ys H' ⟨rfl,_,s'⟩
     refine ⟨?_,.inl (.inr ⟨o,s' _ _ ept⟩)⟩
     rw [List.length_map]
     exact Nat.le_trans (List.length_filter_le _ _) (by rw [List.length_take];exact Nat.min_le_left _ _)
   · rintro i v ys H' hi ⟨rfl,hDl,s'⟩
     have hit:i < ts.length:=by have:=(List.getElem?_eq_some_iff.mp hi).1;rwa [List.length_map] at this
     have et:=List.getElem?_eq_getElem hit
     have ep:=List.getElem?_eq_getElem (show i < ps.length by omega)
     generalize ts[i]=ti at et
     generalize ps[i]=pi at ep
     have hv:V.ref ti=v:=by rw [List.getElem?_map,et] at hi;exact Option.some.inj hi
     subst hv
     have ez:(ts.zip ps)[i]?=some (ti,pi):=List.getElem?_zip_eq_some.mpr ⟨et,ep⟩
     have htup:=s' _ _ (hp i ti pi et ep)
     have hts:=take_succ_filter (fun z:Addr×(Str×V)=>!decide (z.2.1=x)) (ts.zip ps) i (ti,pi) ez
     refine ⟨_,rfl,ti,_,_,_,rfl,rfl,SqT.of htup,rfl,_,rfl,rfl,_,rfl,?_⟩
     have edx:(!decide (V.str pi.1=V.str x))=!decide (pi.1=x):=by
       by_cases z:pi.1=x
       · rw [z,decide_eq_true rfl,decide_eq_true rfl]
       · rw [decide_eq_false z,decide_eq_false fun y=>z (V.str.inj y)]
     rw [edx]
     by_cases z:pi.1=x
     · rw [decide_eq_true z]
       refine ZM ⟨?_,hDl,s'⟩
       rw [hts]
       show _=List.map _ (_++if (!decide (pi.1=x))=true then [(ti,pi)] else [])
       rw [decide_eq_true z]
       simp
     · rw [decide_eq_false z]
       refine Yh ⟨_,rfl,hDl,?_,Zh,fun b u e=>by rw [Zk (Zt e hD)];exact s' _ _ e⟩
       rw [hts]
       show _=List.map _ (_++if (!decide (pi.1=x))=true then [(ti,pi)] else [])
       rw [decide_eq_false z]
       simp
   · rintro ys H5 ⟨rfl,hD5,s5⟩
     rw [List.length_map,← hzl,List.take_length] at hD5
     have hlp:((ts.zip ps).filter fun z=>!decide (z.2.1=x)).map (·.2)=YJ ps x:=by
       unfold YJ
       conv=>rhs;rw [← hzs]
       rw [List.filter_map];rfl
     have hlt:((ts.zip ps).filter fun z=>!decide (z.2.1=x)).map (fun z=>V.ref z.1)=(((ts.zip ps).filter fun z=>!decide (z.2.1=x)).map (·.1)).map V.ref:=by rw [List.map_map];rfl
     have s15:Same H H5:=s12.trans s5
     have hPT:PairT H5 (((ts.zip ps).filter fun z=>!decide (z.2.1=x)).map (·.1)) (YJ ps x):=by
       refine ⟨by rw [← hlp,List.length_map,List.length_map],fun i b p e1 e2=>?_⟩
       rw [← hlp,List.getElem?_map] at e2
       rw [List.getElem?_map] at e1
       cases ez:((ts.zip ps).filter fun z=>!decide (z.2.1=x))[i]? with
       | none=>rw [ez] at e1;cases e1
       | some z =>
         rw [ez] at e1 e2
         cases (show some z.1=some b from e1)
         cases (show some z.2=some p from e2)
         obtain ⟨j,hj⟩:=List.mem_iff_getElem?.mp (List.mem_filter.mp (List.mem_of_getElem? ez)).1
         obtain ⟨h1,h2⟩:=List.getElem?_zip_eq_some.mp hj
         exact s5 _ _ (hp j _ _ h1 h2)
     refine ⟨_,rfl,_,.inl ⟨_,SqL.of hD5,rfl⟩,?_⟩
     by_cases hb:YJ ps x=[]
     · have:((ts.zip ps).filter fun z=>!decide (z.2.1=x))=[]:=by
         have:=congrArg List.length hlp
         rw [hb,List.length_map] at this
         exact List.length_eq_zero_iff.mp this
       rw [this]
       exact ZM (q H5 nds 0 (S.keep s15) (NEx.refl _) (by omega) (Zha d h0 hb hF) (TakR.gone hn hb) (LamAt.same hL s15) (Same.kq s15) s15.tf)
     · have G2:=G.but hb
       have hne:(!(((ts.zip ps).filter fun z=>!decide (z.2.1=x)).map (fun z=>V.ref z.1)).isEmpty)=true:=by
         cases e:((ts.zip ps).filter fun z=>!decide (z.2.1=x)) with
         | nil=>rw [e] at hlp;exact absurd hlp.symm hb
         | cons _ _=>rfl
       rw [hne]
       have S5:=S.keep s15
       obtain ⟨dx5,ob5⟩:=S5.ob
       refine Yh ⟨_,rfl,st,dx5,_,rfl,ob5,ZS ln dt (by decide +kernel) (by decide +kernel),_,rfl,D,_,YJ ps x,rfl,by rw [hD5,hlt],hPT,hb,by have:=G2.few;omega,fun p hp=>N.len _ (G2.sub p hp),LamAt.same hL s15,fun a6 H6 p1 pr g6 L6 perm6 sort6 node6=>?_⟩
       have tb5:H5 Pl=some (.tbl tb):=s15 _ _ htb
       have tf6:TF H5 H6:=g6.tf tb5
       have S6:=S5.kq g6.kq tf6 hst hln hdt
       refine ⟨st,ln,dt,a6,nds,tabs,_,rfl,S6,node6,by omega,fun H7 S7 k7 tf7=>?_⟩
       have nl6:∃ xs,H6 ln=some (.lst xs):=by obtain ⟨as6,e6,_⟩:=S6.nl;exact ⟨_,e6⟩
       have hmk:Zg p1.1=Zg x:=(G2.perm perm6).mrk p1 List.mem_cons_self
       rw [hmk] at S7
       refine q H7 _ nds.length S7 (NEx.app nds _) (by rw [List.length_append];show nds.length+1≤_;omega) ?_ (TakR.less hn hb perm6 sort6) (L6.kq k7 fun b hb=>by rw [List.mem_singleton.mp hb];exact nl6) ?_ ((s15.tf.trans tf6).trans tf7)
       · exact ZhW d hxr (by rw [List.getElem?_append_right (Nat.le_refl _),Nat.sub_self];rfl) G2 perm6 hF
       · exact (Same.kq s15).trans ((g6.kq.sub fun b hb=>by simp at hb ⊢;exact .inr hb).trans (k7.sub fun b hb=>by simp at hb ⊢;exact .inl hb))
 · refine ZM ?_
   refine ⟨_,rfl,a,_,rfl,hna.tf s1.tf,fun pt H2 s2 hpt=>⟨pt,_,rfl,.inr hpt,fun rl hrl1=>?_⟩⟩
   have s12:=s1.trans s2
   have hrl0:H rl=none:=by
     cases e:H rl with
     | none=>rfl
     | some o=>rw [s12 _ _ e] at hrl1;cases hrl1
   refine ⟨_,rfl,x,rfl,N.len x hx,fun H3 s3=>⟨_,rfl,Zg x,lev,rfl,N.lo x hx,by omega,?_⟩⟩
   have el3:H3 rl=some (.lst (qs.map iN)):=s3 _ _ Zh
   have s13:Same H H3:=(s12.trans (ZB hrl1 _)).trans s3
   have S3:=S.keep s13
   have hdl:Zr (Zg x) lev < qs.length:=by rw [hq4];exact YR _ _
   have hq1:=List.getElem?_eq_getElem hdl
   generalize qs[Zr (Zg x) lev]=q1 at hq1
   have hat:YO (qs.map iN) (Zg x / 4 ^ lev % 4)=some (iN q1):=by rw [← XF];exact Zv (by rw [List.getElem?_map,hq1];rfl)
   obtain ⟨dx3,ob3⟩:=S3.ob
   refine ⟨_,rfl,st,dx3,_,rfl,ob3,ZS ln dt (by decide +kernel) (by decide +kernel),_,rfl,_,rfl,rl,_,_,_,rfl,rfl,SqL.of el3,hat,_,rfl,_,_,rfl,rfl,_,rfl,?_⟩
   refine ⟨st,ln,dt,nds,tabs,q1,lev+1,_,x,v0,Fm,rfl,S3,h0,hqs _ _ hq1,YU hrl (YR _ _),by omega,hx,by rw [Xv,hxr,Ys (N.lo x hx)];rfl,hFx,by omega,LamAt.same hL s13,fun H5 nds5 num5 S5 ext5 len5 tri5 pr5 L5 kq5 tf5=>?_⟩
   have nrl:rl ∉ [ln,Pl]:=fun z=>by
     rcases List.mem_cons.mp z with z | z
     · rw [z,nl] at hrl0;cases hrl0
     · rw [List.mem_singleton.mp z,htb] at hrl0;cases hrl0
   have el5:=kq5 _ _ nrl el3
   have hix:Wi (qs.map iN).length (Zg x / 4 ^ lev % 4)=some (Zr (Zg x) lev):=by
     rw [← XF,List.length_map]
     unfold Wi
     rw [if_pos (by omega),if_pos (by omega)]
     rfl
   refine ⟨_,rfl,_,rfl,rl,_,_,_,rfl,rfl,el5,hix,?_⟩
   have tf6:=Zdd (o:=.lst ((qs.map iN).set (Zr (Zg x) lev) (iN num5))) el5
   have k6:Kq [rl] H5 (upd H5 rl (.lst ((qs.map iN).set (Zr (Zg x) lev) (iN num5)))):=ZaE
   have nst:st ∉ [rl]:=fun z=>by rw [← List.mem_singleton.mp z,ob] at hrl0;cases hrl0
   have nln:ln ∉ [rl]:=fun z=>by rw [← List.mem_singleton.mp z,nl] at hrl0;cases hrl0
   have ndt:dt ∉ [rl]:=fun z=>by rw [← List.mem_singleton.mp z,S.tb] at hrl0;cases hrl0
   have S6:=S5.kq k6 tf6 nst nln ndt
   have el6:upd H5 rl (.lst ((qs.map iN).set (Zr (Zg x) lev) (iN num5))) rl=some (.lst ((qs.set (Zr (Zg x) lev) num5).map iN)):=by rw [Zh,List.map_set]
   have L6:=L5.kq k6 fun b hb=>by rw [List.mem_singleton.mp hb];exact ⟨_,el5⟩
   have kh:Kq [ln,Pl] H (upd H5 rl (.lst ((qs.map iN).set (Zr (Zg x) lev) (iN num5)))):=fun b o nb e=>by
     rw [Zk (Zt e hrl0)];exact kq5 _ _ nb (s13 _ _ e)
   generalize upd H5 rl (.lst ((qs.map iN).set (Zr (Zg x) lev) (iN num5)))=H6 at *
   have hps:∀ (i q:Nat),(qs.set (Zr (Zg x) lev) num5)[i]?=some q→Tri NS nds5 (VA Fm x) d' (lev+1) (r+i * 4 ^ lev) q:=fun i q hi=>ZgS N hrl hx hxr hq4 hqs ext5 tri5 (fun y hy=>if_neg hy) i q hi
   have hp4:(qs.set (Zr (Zg x) lev) num5).length=4:=by rw [List.length_set,hq4]
   generalize hqn:qs.set (Zr (Zg x) lev) num5=qn at *
   have mkF:(∀ (q:Nat) (m:Int) (ps:List (Str×V)),(qn.filter fun p=>!decide (p=0))=[q]→nds5[q]?≠some (.leaf m ps))→TakR x nds lev num (nds5++[.fork qn]) nds5.length:=fun z=>by
     rw [← hqn] at z ⊢
     exact TakR.fork hn hq1 pr5 z
   have h05:=ext5 _ _ h0
   have tfh:TF H H6:=(s13.tf.trans tf5).trans tf6
   refine ⟨_,rfl,rl,rfl,⟨_,SqL.of el6⟩,fun D hD=>?_⟩
   refine ZeW (K:=K) (a:=rl) (xs:=qn.map iN) (by rw [List.length_map,hp4];decide)
     (fun i ys H'=>ys=((qn.take i).filter fun p=>!decide (p=0)).map iN∧H' D=some (.lst ys)∧Same H6 H') ⟨rfl,Zh,ZB hD _⟩ ?_ ?_ ?_
   · rintro i ys H' ⟨rfl,_,s'⟩
     refine ⟨?_,SqL.of (s' _ _ el6)⟩
     rw [List.length_map]
     exact Nat.le_trans (List.length_filter_le _ _) (by rw [List.length_take];exact Nat.min_le_left _ _)
   · rintro i v ys H' hi ⟨rfl,hDl,s'⟩
     have hit:i < qn.length:=by have:=(List.getElem?_eq_some_iff.mp hi).1;rwa [List.length_map] at this
     have et:=List.getElem?_eq_getElem hit
     generalize qn[i]=qi at et
     have hv:iN qi=v:=by rw [List.getElem?_map,et] at hi;exact Option.some.inj hi
     subst hv
     have hts:=take_succ_filter (fun p:Nat=>!decide (p=0)) qn i qi et
     refine ⟨_,rfl,rfl,_,rfl,?_⟩
     have edx:(!decide (iN qi=V.int 0))=!decide (qi=0):=by
       by_cases z:qi=0
       · rw [z];rfl
       · rw [decide_eq_false z,decide_eq_false fun y=>z (by have:=V.int.inj y;omega)]
     rw [edx]
     by_cases z:qi=0
     · rw [decide_eq_true z]
       refine ZM ⟨?_,hDl,s'⟩
       rw [hts]
       show _=List.map _ (_++if (!decide (qi=0))=true then [qi] else [])
       rw [decide_eq_true z]
       simp
     · rw [decide_eq_false z]
       refine Yh ⟨_,rfl,hDl,?_,Zh,fun b u e=>by rw [Zk (Zt e hD)];exact s' _ _ e⟩
       rw [hts]
       show _=List.map _ (_++if (!decide (qi=0))=true then [qi] else [])
       rw [decide_eq_false z]
       simp
   · rintro ys H7 ⟨rfl,hD7,s7⟩
     rw [List.length_map,List.take_length] at hD7
     generalize hfl:(qn.filter fun p=>!decide (p=0))=fl at hD7
     have S7:=S6.keep s7
     refine ⟨_,rfl,D,_,rfl,.inl (SqL.of hD7),rfl,_,rfl,?_⟩
     by_cases h1:fl.length=1
     · obtain ⟨q8,rfl⟩:∃ q8,fl=[q8]:=by
         cases fl with
         | nil=>cases h1
         | cons b t=>cases t with
           | nil=>exact ⟨b,rfl⟩
           | cons _ _=>simp at h1
       obtain ⟨i8,hi8,hq80,_⟩:=Zal hfl
       obtain ⟨n8,hn8,_⟩:=VP (hps i8 q8 hi8)
       obtain ⟨as8,a8,nl8,ha8,hna8⟩:=S7.node hn8
       obtain ⟨dx8,ob8⟩:=S7.ob
       refine Yh ⟨_,rfl,st,C,dx8,_,_,rfl,ob8,TC.cl,TC.nN,XA ln dt,_,rfl,D,_,_,_,rfl,rfl,SqL.of hD7,(show YO ([q8].map iN) ((0:Nat):Int)=some (iN q8) from Zv rfl),ln,_,_,_,rfl,rfl,SqL.of nl8,Zv (by rw [List.getElem?_map,ha8];rfl),a8,n8,rfl,hna8,fun pt9 H9 s9 hpt9=>?_⟩
       obtain ⟨o9,ts9,ept9,_,hl9,_⟩:=hpt9
       refine ⟨_,.inr (.inl ⟨_,.inl (.inr ⟨o9,ept9⟩),rfl⟩),?_⟩
       have s79:=s7.trans s9
       cases n8 with
       | leaf m8 ps8 =>
         have hne:(!(ts9.map V.ref).isEmpty)=true:=by
           cases ts9 with
           | nil =>
             have hE:TriE NS nds5 (VA Fm x) (lev+1) (r+i8 * 4 ^ lev) q8:=by
               have:=hps i8 q8 hi8
               cases d' with
               | zero=>exact this
               | succ d' =>
                 rcases this with h | ⟨qs',h,_⟩
                 · exact h
                 · rw [hn8] at h;cases h
             rcases hE with ⟨z,_⟩ | ⟨m',ps',e,G,_⟩
             · exact absurd z hq80
             · rw [hn8] at e;cases e
               exact absurd (List.length_eq_zero_iff.mp (show ps8.length=0 from hl9.symm)) G.ne
           | cons _ _=>rfl
         rw [hne]
         refine Yh ⟨_,rfl,D,_,_,_,rfl,rfl,SqL.of (s9 _ _ hD7),(show YO ([q8].map iN) ((0:Nat):Int)=some (iN q8) from Zv rfl),?_⟩
         exact q H9 nds5 q8 (S6.keep s79) ext5 (by omega) (ZlF N h05 hrl hp4 hps hfl hn8) (TakR.up hn hq1 pr5 (by rw [hqn];exact hfl) hn8) (LamAt.same L6 s79) (kh.trans (Same.kq s79)) (tfh.trans s79.tf)
       | bare =>
         rw [List.length_eq_zero_iff.mp (show ts9.length=0 from hl9)]
         refine ZM ?_
         obtain ⟨dxA,obA⟩:=(S6.keep s79).ob
         refine ⟨_,rfl,st,dxA,_,rfl,obA,ZS ln dt (by decide +kernel) (by decide +kernel),_,rfl,rl,qn,rfl,s79 _ _ el6,hp4,fun aB HB sB nodeB=>?_⟩
         have SB:=(S6.keep s79).keep sB
         refine ⟨st,ln,dt,aB,nds5,tabs,_,rfl,SB,nodeB,by omega,fun HC SC kC tfC=>?_⟩
         have nlB:∃ xs,HB ln=some (.lst xs):=by obtain ⟨asB,eB,_⟩:=SB.nl;exact ⟨_,eB⟩
         refine q HC _ nds5.length SC (ext5.trans (NEx.app nds5 _)) (by rw [List.length_append];show nds5.length+1≤_;omega) ?_ (mkF fun q m ps e h=>by rw [hfl] at e;cases e;rw [hn8] at h;cases h) ((LamAt.same (LamAt.same L6 s79) sB).kq kC fun b hb=>by rw [List.mem_singleton.mp hb];exact nlB) ?_ (((tfh.trans s79.tf).trans sB.tf).trans tfC)
         · exact VR (by rw [List.getElem?_append_right (Nat.le_refl _),Nat.sub_self];rfl) hp4 fun i q hi=>Tri.mono d' (hps i q hi) (NEx.app nds5 _)
         · exact ((kh.trans (Same.kq s79)).trans (Same.kq sB)).trans (kC.sub fun b hb=>by simp at hb ⊢;exact .inl hb)
       | fork qs8 =>
         rw [List.length_eq_zero_iff.mp (show ts9.length=0 from hl9)]
         refine ZM ?_
         obtain ⟨dxA,obA⟩:=(S6.keep s79).ob
         refine ⟨_,rfl,st,dxA,_,rfl,obA,ZS ln dt (by decide +kernel) (by decide +kernel),_,rfl,rl,qn,rfl,s79 _ _ el6,hp4,fun aB HB sB nodeB=>?_⟩
         have SB:=(S6.keep s79).keep sB
         refine ⟨st,ln,dt,aB,nds5,tabs,_,rfl,SB,nodeB,by omega,fun HC SC kC tfC=>?_⟩
         have nlB:∃ xs,HB ln=some (.lst xs):=by obtain ⟨asB,eB,_⟩:=SB.nl;exact ⟨_,eB⟩
         refine q HC _ nds5.length SC (ext5.trans (NEx.app nds5 _)) (by rw [List.length_append];show nds5.length+1≤_;omega) ?_ (mkF fun q m ps e h=>by rw [hfl] at e;cases e;rw [hn8] at h;cases h) ((LamAt.same (LamAt.same L6 s79) sB).kq kC fun b hb=>by rw [List.mem_singleton.mp hb];exact nlB) ?_ (((tfh.trans s79.tf).trans sB.tf).trans tfC)
         · exact VR (by rw [List.getElem?_append_right (Nat.le_refl _),Nat.sub_self];rfl) hp4 fun i q hi=>Tri.mono d' (hps i q hi) (NEx.app nds5 _)
         · exact ((kh.trans (Same.kq s79)).trans (Same.kq sB)).trans (kC.sub fun b hb=>by simp at hb ⊢;exact .inl hb)
     · have hd1:decide (V.int (((fl.map iN).length:Nat):Int)=V.int 1)=false:=decide_eq_false fun z=>h1 (by have:=V.int.inj z;rw [List.length_map] at this;omega)
       rw [hd1]
       have s79:=s7
       refine ZM (ZM ?_)
       obtain ⟨dxA,obA⟩:=(S6.keep s79).ob
       refine ⟨_,rfl,st,dxA,_,rfl,obA,ZS ln dt (by decide +kernel) (by decide +kernel),_,rfl,rl,qn,rfl,s79 _ _ el6,hp4,fun aB HB sB nodeB=>?_⟩
       have SB:=(S6.keep s79).keep sB
       refine ⟨st,ln,dt,aB,nds5,tabs,_,rfl,SB,nodeB,by omega,fun HC SC kC tfC=>?_⟩
       have nlB:∃ xs,HB ln=some (.lst xs):=by obtain ⟨asB,eB,_⟩:=SB.nl;exact ⟨_,eB⟩
       refine q HC _ nds5.length SC (ext5.trans (NEx.app nds5 _)) (by rw [List.length_append];show nds5.length+1≤_;omega) ?_ (mkF fun q m ps e h=>h1 (by rw [← hfl,e];rfl)) ((LamAt.same (LamAt.same L6 s79) sB).kq kC fun b hb=>by rw [List.mem_singleton.mp hb];exact nlB) ?_ (((tfh.trans s79.tf).trans sB.tf).trans tfC)
       · exact VR (by rw [List.getElem?_append_right (Nat.le_refl _),Nat.sub_self];rfl) hp4 fun i q hi=>Tri.mono d' (hps i q hi) (NEx.app nds5 _)
       · exact ((kh.trans (Same.kq s79)).trans (Same.kq sB)).trans (kC.sub fun b hb=>by simp at hb ⊢;exact .inl hb)
theorem ZdX {f:Addr} {fd:FuncData} (N:Ym NS) (F:Fun K "taken_from" "Store.taken_from" c_Store_taken_from f fd) (T:Txt K mg) (TC:Xm K C)
   (DH:Def P w K mg base 1 "has_mark" ["node","number"] (Vi K)) (DP:Def P w K mg base 1 "parts_in" ["node"] (Ue K)) (DR:Def P w K mg base 1 "pairs_in" ["node"] (XV K)) (DM:Def P w K mg base 1 "mark" ["name"] Wh) (DG:Def P w K mg base 1 "digit" ["number","level"] XW)
   (DL:Def P w K mg base 2 "leaf_of" ["pairs"] (UT K Pl YG)) (DO:Def P w K mg base 1 "fork_of" ["parts"] (WA K)) (DK:DefM P w K mg base 1 C "keep" ["self","node"] (Vl K C))
   (b:Binds K fd nTk []) (mt:Vh K C "taken_from" f):∀ d,FnOk P w K mg base ZH (2+d) f fd nTk (ZaM K C Pl NS d)
 | 0=>F.ok scTk (fun _ _ _ _ h=>h.elim) (fun _ _ _ _ _ _ _ _ _ h=>h.elim)
 | d+1=>Zkt N (Nat.le_add_right 2 d) F T TC DH DP DR DM DG DL DO DK ⟨f,fd,ZdX N F T TC DH DP DR DM DG DL DO DK b mt d,b,mt⟩
def spWo (K:PySem.W.Frag) (C Pl:Addr) (NS:List Str):Sp:=fun vs H Q _=>∃ (st ln dt:Addr) (nds:List Nd) (tabs:List (Zj×V)) (t:Nat) (x:Str) (F:Str→Option V),vs=[.ref st,iN t,.str x]∧StoreAt K C st ln dt H nds tabs∧nds[0]?=some .bare∧(ZJ tabs (Sum.inl (t:Int))).isSome=true∧Tri NS nds F 5 0 0 t∧x∈NS∧(∀ u,F x=some u→ValV u)∧nds.length+6≤100000∧tabs.length≤100000∧LamAt H Pl YG Xt ∧
 ∀ (H':Hp) (nds':List Nd) (tabs':List (Zj×V)) (t':Nat),StoreAt K C st ln dt H' nds' tabs'→NEx nds nds'→nds'.length≤nds.length+6→tabs'.length≤tabs.length+1→(∀ k,(ZJ tabs k).isSome=true→(ZJ tabs' k).isSome=true)→(ZJ tabs' (Sum.inl (t':Int))).isSome=true→Tri NS nds' (VA F x) 5 0 0 t'→((F x=none∧t'=t∧nds'=nds∧tabs'=tabs)∨(F x≠none∧TakR x nds 0 t nds' t'∧tabs'=Yp tabs (Sum.inl (t':Int)) (.bl true)))→LamAt H' Pl YG Xt→Kq [ln,dt,Pl] H H'→TF H H'→Q (iN t') H'
theorem scWo:Zs ["self","table","name"] ["self","table","name"] (Zl c_Store_without):=⟨rfl,rfl,rfl,by decide +kernel,rfl,by decide +kernel,by decide +kernel⟩
theorem Zmi {f:Addr} {fd:FuncData} (N:Ym NS) (F:Fun K "without" "Store.without" c_Store_without f fd) (TC:Xm K C) (DLk:DefM P w K mg base 3 C "looked" ["self","table","name"] (VL K C))
   (DAs:DefM P w K mg base 1 C "as_table" ["self","number"] (Zfo K C)) (DI:DefM P w K mg base 8 C "taken_from" nTk (ZaM K C Pl NS 6)):FnOk P w K mg base ZH 9 f fd ["self","table","name"] (spWo K C Pl NS):=by
 refine F.ok scWo (fun vs H Q E h=>?_) (fun cdv A outer s H vs Q E hr h=>?_)
 · obtain ⟨st,ln,dt,nds,tabs,t,x,F,rfl,_⟩:=h;rfl
 obtain ⟨st,ln,dt,nds,tabs,t,x,Fm,rfl,S,h0,htab,htri,hx,hFv,hlen,htl,hL,q⟩:=h
 have hr1:=hr.mono (show 1≤8 by decide)
 have hr3:=hr.mono (show 3≤8 by decide)
 refine' ⟨?t,?h,?r⟩
 case h =>
   conv=>arg 2;whnf
   with_reducible refine' Zd (Yk ?a1 (Zi ?a2) ZW) (Zi ?a3)
   case a1=>exact ZgU (Zcd (Yy DLk TC.cl hr3 (pv 0) (Zc (pv 1) (Zc (pv 2) Za))))
   case a2=>exact Zp (pv 1)
   case a3=>exact Zp (Yy DAs TC.cl hr1 (pv 0) (Zc (Yy DI TC.cl hr (pv 0) (Zc (pv 1) (Zc Zb (Zc (pv 2) Za)))) Za))
 obtain ⟨dx,ob⟩:=S.ob
 obtain ⟨ws,e,n,e1,e2,e3,e4,e5⟩:=UL N htri hx
 refine ⟨_,rfl,st,dx,_,rfl,ob,ZS ln dt (by decide +kernel) (by decide +kernel),_,rfl,_,rfl,st,ln,dt,nds,tabs,t,x,6,ws,e,n,rfl,S,htab,N.len x hx,N.lo x hx,by decide,e1,e2,e3,e4,fun H1 s1=>?_⟩
 rw [e5]
 refine ⟨_,rfl,?_⟩
 have S1:=S.keep s1
 have hL1:=LamAt.same hL s1
 cases eF:Fm x with
 | none =>
   refine Yh ⟨_,rfl,q H1 nds tabs t S1 (NEx.refl _) (by omega) (by omega) (fun _ h=>h) htab (Tri.congr 5 (by decide) htri fun y _ _=>?_) (.inl ⟨eF,rfl,rfl,rfl⟩) hL1 (Same.kq s1) s1.tf⟩
   unfold VA
   by_cases z:y=x
   · rw [if_pos z,z,eF]
   · rw [if_neg z]
 | some u =>
   have hc:decide ((some u).getD .non=V.non)=false:=decide_eq_false (hFv u eF).ne
   rw [hc]
   obtain ⟨dx1,ob1⟩:=S1.ob
   refine ZM ⟨_,rfl,st,dx1,_,rfl,ob1,ZS ln dt (by decide +kernel) (by decide +kernel),_,rfl,st,dx1,_,rfl,ob1,ZS ln dt (by decide +kernel) (by decide +kernel),_,rfl,_,rfl,?_⟩
   refine ⟨st,ln,dt,nds,tabs,t,0,0,x,u,Fm,rfl,S1,h0,htri,by decide,rfl,hx,by rw [Nat.pow_zero,Nat.mod_one],eF,hlen,hL1,fun H2 nds2 num2 S2 ext2 len2 tri2 pr2 L2' kq2 tf2=>?_⟩
   refine ⟨st,ln,dt,nds2,tabs,num2,rfl,S2,by omega,fun H3 S3 k3 tf3=>?_⟩
   refine q H3 nds2 _ num2 S3 ext2 len2 (XB _ _ _) (fun k hk=>?_) (by rw [WJ,if_pos rfl];rfl) tri2 (.inr ⟨(fun z=>by rw [eF] at z;cases z),pr2,rfl⟩) ?_ ?_ ((s1.tf.trans tf2).trans tf3)
   · rw [WJ]
     by_cases z:k=Sum.inl (num2:Int)
     · rw [if_pos z];rfl
     · rw [if_neg z];exact hk
   · have hdl:∀ b∈[dt],∃ xs,H2 b=some (.dK xs):=fun b hb=>by rw [List.mem_singleton.mp hb];exact ⟨_,S2.tb⟩
     rcases L2' with h | ⟨c,h,h2⟩
     · exact .inl (k3 _ _ (fun z=>by obtain ⟨_,e⟩:=hdl _ z;rw [h] at e;cases e) h)
     · exact .inr ⟨c,k3 _ _ (fun z=>by obtain ⟨_,e⟩:=hdl _ z;rw [h] at e;cases e) h,k3 _ _ (fun z=>by obtain ⟨_,e⟩:=hdl _ z;rw [h2] at e;cases e) h2⟩
   · exact ((Same.kq s1).trans (kq2.sub fun b hb=>by simp at hb ⊢;rcases hb with z | z;exact .inl z;exact .inr (.inr z))).trans (k3.sub fun b hb=>by simp at hb ⊢;exact .inr (.inl hb))
end
end K20
set_option maxHeartbeats 2000000
namespace L2
open PySem PySem.Spec PyProof.Rows
def Zdf (J:It) (g:TG) (tc:TT) (te:TE) (σ:St) (D:Addr) (Q:VK) (H1:Hp):Prop :=
 ∃ W : Nat→Nat→List V→Hp→Prop,(∃ m,W 0 m [] (upd H1 D (.lst [])))∧∀ i m ys H2,W i m ys H2 →
   (J.stop i H2∧Q (.ref D) H2)∨(J.go i H2∧∃ (N:VK) (M:Hp→Prop),(∀ y H4,N y H4→H4 D=some (.lst ys)∧ys.length < sizeLine∧∃ m',m' < m∧W (i+1) m' (ys++[y]) (upd H4 D (.lst (ys++[y]))))∧(∀ H4,M H4→∃ m',m' < m∧W (i+1) m' ys H4) ∧
     ∀ wa wb v H3,J.yld i H2 v H3→g v (σ++[wa,wb]) H3 fun σ' H'=>(∃ wa wb,σ'=σ++[wa,wb])∧tc σ' H' fun b H4=>if b=true then te σ' H4 N else M H4)
def ZjI (wi:TI) (g:TG) (tc:TT) (te:TE):TE:=fun σ H Q=>wi σ H fun J H1=>∀ D,H1 D=none→Zdf J g tc te σ D Q H1
section
variable {X:Cx} {elt iter tg cnd:Expr} {xa xb:Str} {pos:Pos} {scope:Scope} {wi:TI} {te:TE} {tc:TT} {g:TG}
theorem ZcH {pins:List (Addr×Obj)} {σ:St} {H2:Hp} {s₂:Shared} {J:It} {fp:List Addr} {it:Addr} {tn:Nat→Heap→Prop} {cl:List (Str×Addr)} {E:Value→Shared→Prop} {Q:VK} {RR:Value→Addr→Result→Shared→Prop}
   (O:CompOkT X scope xa xb) (hc:X.calm=true) (cl1:∀ y c,cl.lookup y=some c→X.env.cells.lookup y=some c) (cl2:∀ y∈scope.names,y.2=.free→cl.lookup y.1≠none)
   (hg:∀ cl C s₀ H₀ fp,PG (ZR X scope xa xb cl C s₀ H₀ fp) tg g) (hcn:∀ cl C s₀ H₀ fp,PT (ZR X scope xa xb cl C s₀ H₀ fp) cnd tc) (he:∀ cl C s₀ H₀ fp,PE (ZR X scope xa xb cl C s₀ H₀ fp) elt te)
   (I2:Inv X pins σ H2 s₂) (T:Wz X.prog X.w X.K tg J fp it tn) (st:tn 0 s₂.heap) (f2:∀ b∈fp,Yo X pins H2 b)
   (h:∀ D,H2 D=none→Zdf J g tc te σ D Q H2)
   (hRR:∀ D C H' s',Inv X pins σ H' s'→Yo X pins H' C→(∃ m,s'.heap.Ns C m)→Q (.ref D) H'→RR (.ref D) C (.ok .next) s') :
   wpAny (model X.prog X.w) X.A (newList []) (fun acc s₃=>wpAny (model X.prog X.w) X.A (newFunctionEnv scope X.env.globals cl [] X.env.qual none .none (some X.env)) (fun cenv s₄ =>
     codeAny (model X.prog X.w) X.A (.compStart (.ListComp elt [⟨tg,iter,[cnd],0⟩] scope pos) 0 (.ref it) acc { cenv with scope:=relabel scope X.env }) (RR acc cenv.locals) s₄) E s₃) E s₂:=by
 have hD:H2 s₂.heap.objs.size=none:=I2.hok.fresh (Nat.le_refl _)
 refine wpAny_newObj_type ?_
 have I3:Inv X pins σ (upd H2 s₂.heap.objs.size (.lst [])) { s₂ with heap:=s₂.heap.push { cls:=.type "list",data:=.seq ([]:List Value).toArray } } :=
   I2.laid (t':=s₂.toks) (fun b u e=>Heap.get?_push_of_some _ e) (Nat.le_refl _) ⟨Nat.zero_le _,[],_,.nil,Heap.get?_push_size _ rfl⟩
 have f3:∀ b∈fp,Yo X pins (upd H2 s₂.heap.objs.size (.lst [])) b:=fun b hb=>by
   obtain ⟨g0,g1⟩:=f2 b hb
   obtain ⟨o,e,_⟩:=T.obj 0 _ st b hb
   exact ⟨by rw [Zk (Nat.ne_of_lt (Heap.lt_size e))];exact g0,g1⟩
 have st3:tn 0 (s₂.heap.push { cls:=.type "list",data:=.seq ([]:List Value).toArray }):=T.keep _ _ _ st fun b hb o e=>Heap.get?_push_of_some _ e
 obtain ⟨W,⟨m0,w0⟩,turn⟩:=h _ hD
 generalize hDe:s₂.heap.objs.size=D at I3 f3 w0 turn ⊢
 generalize hH3:upd H2 D (.lst [])=H3 at I3 f3 w0 turn ⊢
 generalize hs3:({ s₂ with heap:=s₂.heap.push { cls:=.type "list",data:=.seq ([]:List Value).toArray } }:Shared)=s₃ at I3
 have st3':tn 0 s₃.heap:=by rw [← hs3];exact st3
 have hobj:∀ b∈fp,b < s₃.heap.objs.size:=fun b hb=>by
   obtain ⟨o,e,_⟩:=T.obj 0 _ st3' b hb
   exact Heap.lt_size e
 refine wpAny_newFunctionEnv O.cell (by intro y hy;simp at hy) (fun h₁ hns₁ hsb₁=>?_) O.kind
 have old:∀ b o,s₃.heap.get? b=some o→h₁.get? b=some o:=fun b o e=>hsb₁.extBut b o (Nat.ne_of_lt (Heap.lt_size e)) (Heap.get?_push_of_some _ e)
 generalize hs4:({ s₃ with heap:=h₁,toks:=s₃.toks+([]:List (Str×Value)).length }:Shared)=s₄
 have h4:s₄.heap=h₁:=by rw [← hs4]
 have hX:∀ C,Yo X pins C s₃.heap.objs.size→True:=fun _ _=>trivial
 have ok':(ZR X scope xa xb cl s₃.heap.objs.size s₃ H3 fp).Ok:=by
   refine ⟨I3.ok.mod,O.kind,I3.ok.glob,I3.ok.blt,Nat.le_refl _,?_,?_,?_,I3.ok.hd,I3.ok.frames,.inl rfl,?_,I3.bs,Nat.le_trans I3.ok.bsz I3.sz,?_,?_,I3.stack,I3.stkFree⟩
   · exact fun y z c e1 e2=>I3.ok.inj y z c (cl1 y c e1) (cl1 z c e2)
   · intro y hk
     have hf:scope.names.lookup y=some .free:=by
       rcases hk with hk | hk
       · rcases Zq O.cell hk with q | q
         · exact absurd rfl (O.cell _ (mem_of_lookup q))
         · exact q.1
       · rcases Zq O.cell hk with q | q
         · exact q
         · cases q.2
     have:=cl2 _ (mem_of_lookup hf) rfl
     cases e:cl.lookup y with
     | none=>exact absurd e this
     | some c=>exact ⟨c,e⟩
   · intro y c hf;cases hf
   · intro b hb
     obtain ⟨g0,g1,g2,g3,g4,g5⟩:=f3 b hb
     exact ⟨Nat.ne_of_lt (hobj b hb),fun y c e=>g4 y c (cl1 y c e)⟩
   · intro b o e hb
     obtain ⟨g0,g1,g2,g3,g4,g5⟩:=f3 b hb
     rcases g3 with g3 | g3
     · exact I3.ok.noex b o e g3
     · exact absurd (Heap.lt_size e) (Nat.not_lt.mpr (Nat.le_trans I3.ok.bsz g3))
   · intro b hb hs
     obtain ⟨g0,g1,g2,g3,g4,g5⟩:=f3 b hb
     rcases List.mem_cons.mp (I3.stkSub b hs) with e | e
     · exact g1 e
     · exact g2 e
 have I4 : Inv (ZR X scope xa xb cl s₃.heap.objs.size s₃ H3 fp) [] (σ++[none,none]) H3 s₄:=by
   obtain ⟨m,hm,hl⟩:=I3.loc
   refine ⟨ok',by rw [← hs4];rfl,by rw [← hs4];exact I3.bare,by rw [h4];exact Un.kept old,⟨_,by rw [h4];exact hns₁,?_⟩,?_,I3.hok.fresh (Nat.le_refl _),fun y c e=>I3.freeC y c (cl1 y c e),?_,by rw [h4];exact I3.hok.kept old,?_⟩
   · intro i y v e1 e2 e3
     have hlt:i < σ.length:=by
       rcases Nat.lt_or_ge i σ.length with z | z
       · exact z
       · rw [List.getElem?_append_right z] at e2
         have:=List.mem_of_getElem? e2
         simp at this
     rw [List.getElem?_append_left hlt] at e2
     have hsm:∃ k,scope.names.lookup y=some k:=by
       rcases e3 with hk | hk | hk
       · rcases Zq O.cell hk with q | q
         · exact ⟨_,q⟩
         · exact ⟨_,q.1⟩
       · rcases Zq O.cell hk with q | q
         · exact ⟨_,q⟩
         · exact ⟨_,q.1⟩
       · rcases Zq O.cell hk with q | q
         · exact ⟨_,q⟩
         · exact ⟨_,q.1⟩
     obtain ⟨e1',hyx⟩:X.N[i]?=some y∧¬ (y=xa∨y=xb):=by
       have e1:(XQ X.N xa xb++[xa,xb])[i]?=some y:=e1
       rw [List.getElem?_append_left (by rw [Uw,← I3.len];exact hlt)] at e1
       rcases Zcy e1 with z | z
       · exact z
       · obtain ⟨k,hk⟩:=hsm
         rw [z,O.noh] at hk;cases hk
     have hy:y∈X.N:=List.mem_of_getElem? e1'
     have hf:scope.names.lookup y=some .free:=by
       rcases e3 with hk | hk | hk
       · rcases Zq O.cell hk with q | q
         · exact absurd q (O.own y hy hyx)
         · exact q.1
       · rcases Zq O.cell hk with q | q
         · exact absurd rfl (O.cell _ (mem_of_lookup q))
         · exact q.1
       · rcases Zq O.cell hk with q | q
         · exact q
         · exact q.1
     have hk:=O.clos _ (mem_of_lookup hf) rfl
     have hv:Vis X.env.scope y:=by rcases hk with z | z;exact .inr (.inl z);exact .inr (.inr z)
     obtain ⟨u,ru,lu⟩:=hl i y v e1' e2 hv
     refine ⟨u,ru,?_⟩
     have hkc:(compEnvC scope cl s₃.heap.objs.size X.env).kindOf y=some .cell∨(compEnvC scope cl s₃.heap.objs.size X.env).kindOf y=some .free:=by
       rcases e3 with q | q | q
       · rcases Zq O.cell q with z | z
         · exact absurd z (O.own y hy hyx)
         · cases z.2
       · exact .inl q
       · exact .inr q
     rcases lu with ⟨q,_⟩ | ⟨_,c,hcl,hcc⟩
     · rcases hk with z | z <;> (rw [q] at z;cases z)
     · refine .inr ⟨hkc,?_⟩
       cases e:cl.lookup y with
       | none=>exact absurd e (cl2 _ (mem_of_lookup hf) rfl)
       | some c' =>
         have:=cl1 y c' e
         rw [hcl] at this
         cases this
         refine ⟨c,e,?_⟩
         rw [h4]
         obtain ⟨oc,ho,hd⟩:=hcc
         exact ⟨oc,old _ _ ho,hd⟩
   · intro y c e
     obtain ⟨v,oc,ho,hd⟩:=I3.cell y c (cl1 y c e)
     exact ⟨v,oc,by rw [h4];exact old _ _ ho,hd⟩
   · intro p hp;cases hp
   · show (σ++[none,none]).length=(XQ X.N xa xb++[xa,xb]).length
     rw [List.length_append,List.length_append,Uw,I3.len];rfl
 have st4:tn 0 s₄.heap:=by rw [h4];exact T.keep _ _ _ st3' fun b hb o e=>old b o e
 have fpok:∀ {H':Hp},(∀ b∈fp,H' b=none)→∀ b∈fp,Yo (ZR X scope xa xb cl s₃.heap.objs.size s₃ H3 fp) [] H' b:=fun hn b hb=>by
   obtain ⟨g0,g1,g2,g3,g4,g5⟩:=f3 b hb
   refine ⟨hn b hb,Nat.ne_of_lt (hobj b hb),ok'.exfs b hb,.inl hb,fun y c e=>g4 y c (cl1 y c e),?_⟩
   intro p hp;cases hp
 have loop:codeAny (model X.prog X.w) X.A (.compLoop (.ListComp elt [⟨tg,iter,[cnd],0⟩] scope pos) 0 (.ref it) (.ref D) (compEnvC scope cl s₃.heap.objs.size X.env)) (RR (.ref D) s₃.heap.objs.size) s₄:=by
   refine XN (fun n s'=>∃ i ys wa wb H',Inv (ZR X scope xa xb cl s₃.heap.objs.size s₃ H3 fp) [] (σ++[wa,wb]) H' s'∧tn i s'.heap∧(∀ b∈fp,H' b=none)∧W i n ys H') ?_ m0 ⟨0,[],none,none,H3,I4,st4,fun b hb=>(f3 b hb).1,w0⟩
   rintro n s5 ⟨i,ys,wa,wb,H5,I5,st5,fr5,w5⟩
   rcases turn i n ys H5 w5 with ⟨stop,q⟩ | ⟨go,N,M,hN,hM,step⟩
   · refine Zm (T.done (ZR X scope xa xb cl s₃.heap.objs.size s₃ H3 fp) rfl rfl rfl hc i [] s5 _ H5 _ I5 (fpok fr5) st5 stop) fun r s6 ⟨hr,I6⟩=>?_
     subst hr
     obtain ⟨m6,hn6,_⟩:=I6.loc
     have IX:Inv X pins σ H5 s6:=I3.call' (ch:=fp) I6.os I6.base I6.hok I6.bare fun b hb=>by
       obtain ⟨g0,g1,g2,g3,g4,g5⟩:=f3 b hb
       exact ⟨g3,g1,g4,g5⟩
     exact hRR D _ H5 s6 IX (I3.fpOk (Nat.le_refl _) I6.free) ⟨m6,hn6⟩ q
   · refine Zm (T.item (ZR X scope xa xb cl s₃.heap.objs.size s₃ H3 fp) rfl rfl rfl hc i [] s5 _ H5 _ I5 (fpok fr5) st5 go) fun r s6 ⟨u,hr,h6⟩=>?_
     subst hr
     refine Zm h6 fun _ s7 ⟨v,H7,I7,r7,y7,st7,fr7⟩=>?_
     have I7':=I7.pinned (fpok fr7) (T.obj _ _ st7)
     refine Zm (hg cl s₃.heap.objs.size s₃ H3 fp _ s7 _ H7 v u _ I7' r7 (step wa wb v H7 y7)) fun _ s8 ⟨σ8,H8,I8,⟨wa',wb',e8⟩,q8⟩=>?_
     subst e8
     refine Zm (hcn cl s₃.heap.objs.size s₃ H3 fp _ s8 _ H8 _ I8 q8) fun bb s8b ⟨H8b,I8b,q8b⟩=>?_
     cases bb with
     | false =>
       obtain ⟨m',hm',w9⟩:=hM H8b q8b
       refine ⟨m',hm',i+1,ys,wa',wb',_,I8b.unpinned (pins:=[]),T.keep _ _ _ st7 fun b hb o e=>(I8b.pin (b,o) (List.mem_append_right _ (List.mem_append_right _ (Yb hb e)))).1,fun b hb=>?_,w9⟩
       obtain ⟨o,e,d⟩:=T.obj _ _ st7 b hb
       exact (I8b.pin (b,o) (List.mem_append_right _ (List.mem_append_right _ (Yb hb e)))).2.1
     | true =>
       refine Zm (he cl s₃.heap.objs.size s₃ H3 fp _ s8b _ H8b _ I8b q8b) fun uy s9 ⟨y,H9,I9,r9,n9⟩=>?_
       obtain ⟨hl9,hz9,m',hm',w9⟩:=hN y H9 n9
       refine Zm (Yt (X:=ZR X scope xa xb cl s₃.heap.objs.size s₃ H3 fp) _ s9 _ H9 (.ref D) [y] (.ref D) [uy] (fun v H'=>H'=upd H9 D (.lst (ys++[y]))) I9 rfl (.cons r9 .nil) ⟨D,ys,y,rfl,rfl,hl9,hz9,rfl⟩) fun _ s10 ⟨_,H10,I10,_,e10⟩=>?_
       subst e10
       refine ⟨m',hm',i+1,ys++[y],wa',wb',_,I10.unpinned (pins:=[]),T.keep _ _ _ st7 fun b hb o e=>(I10.pin (b,o) (List.mem_append_right _ (List.mem_append_right _ (Yb hb e)))).1,fun b hb=>?_,w9⟩
       obtain ⟨o,e,d⟩:=T.obj _ _ st7 b hb
       exact (I10.pin (b,o) (List.mem_append_right _ (List.mem_append_right _ (Yb hb e)))).2.1
 exact codeAny_compStart_list loop (T.self _ 0 _ _ _ st4 loop)
theorem ZgE (O:CompOkT X scope xa xb) (hc:X.calm=true) (hi:PI X tg iter wi) (hg:∀ cl C s₀ H₀ fp,PG (ZR X scope xa xb cl C s₀ H₀ fp) tg g) (hcn:∀ cl C s₀ H₀ fp,PT (ZR X scope xa xb cl C s₀ H₀ fp) cnd tc) (he:∀ cl C s₀ H₀ fp,PE (ZR X scope xa xb cl C s₀ H₀ fp) elt te)
   (hs:∀ v,foldedSetIterable iter X.env v=pure v:=by intro _;rfl):PE X (.ListComp elt [⟨tg,iter,[cnd],0⟩] scope pos) (ZjI wi g tc te):=by
 intro pins s σ H Q I h
 obtain ⟨cl,hcl,cl1,cl2⟩:=Wq (scope:=scope) (env:=X.env) fun y hy hf=>I.ok.has _ (O.clos y hy hf)
 rw [eval_ListComp]
 refine wpAny_comprehension_free (use:=none) rfl hs hcl O.kind O.names (Zm (hi pins s σ H _ I h) fun v s1 h1=>Zm h1 fun itv s2 h2=>?_)
 obtain ⟨it,fp,tn,J,H2,e,I2,T,st2,f2,q⟩:=h2
 subst e
 refine ZcH (RR:=fun acc C=>compPost (model X.prog X.w) X.A X.xe none (EP X pins σ Q) acc C) O hc cl1 cl2 hg hcn he I2 T st2 f2 q ?_
 intro D C H' s' I' ⟨g0,g1,g2,g3,g4,g5⟩ ⟨m,hm⟩ hq
 exact ⟨m,hm,fun h' hs'=>⟨.ref D,H',I'.turned (t':=s'.toks) (fun b o hb e=>(hs'.2 b hb).trans e) g0 g1 g3 g4 g5,rfl,hq⟩⟩
end
end L2
set_option maxHeartbeats 2000000
namespace L2
open PySem PySem.Spec PyProof.Rows
theorem Sep.nest {a:Addr} {Δ:Rs}:∀ {Γ:Rs} {H h:Hp},Same h H→Sep Γ h→Sep Δ (WS H h)→Sep (Γ++Δ) H
 | [],_,_,_,_,S=>S.mono ZaQ
 | (b,T)::Γ,H,h,l,⟨g,m,t,G⟩,S=>by
   refine ⟨g,m.trans l,t,Sep.nest (a:=a) (h:=WS h g) (ZcQ l) G (S.mono fun c o e=>?_)⟩
   obtain ⟨e1,e2⟩:=cut_some.mp e
   refine cut_some.mpr ⟨cut_some.mpr ⟨e1,fun u q=>e2 u (m _ _ q)⟩,fun u q=>e2 u (cut_some.mp q).1⟩
theorem Sep.pack' {Δ:Rs}:∀ {Γ:Rs} {H:Hp},Sep (Γ++Δ) H→∃ h,Same h H∧Sep Γ h∧Sep Δ (WS H h)
 | [],H,S=>⟨fun _=>none,fun b o e=>(by cases e),trivial,S.mono fun b o e=>cut_some.mpr ⟨e,fun u q=>(by cases q)⟩⟩
 | (b,T)::Γ,H,⟨g,m,t,S⟩=>by
   obtain ⟨h',l',G,S⟩:=Sep.pack' S
   refine ⟨fun c=>match g c with | some o=>some o | none=>h' c,fun c o e=>?_,⟨g,fun c o e=>?_,t,G.mono fun c o e=>?_⟩,S.mono fun c o e=>?_⟩
   · cases q:g c with
     | some u=>simp only [q] at e;cases e;exact m _ _ q
     | none=>simp only [q] at e;exact (cut_some.mp (l' _ _ e)).1
   · simp only [e]
   · obtain ⟨e1,e2⟩:=cut_some.mp (l' _ _ e)
     refine cut_some.mpr ⟨?_,e2⟩
     cases q:g c with
     | some u=>simp only [q];rw [m _ _ q] at e1;exact e1
     | none=>simp only [q];exact e
   · obtain ⟨e1,e2⟩:=cut_some.mp e
     obtain ⟨e3,e4⟩:=cut_some.mp e1
     refine cut_some.mpr ⟨e3,fun u q=>?_⟩
     cases z:g c with
     | some v=>simp only [z] at q;cases q;exact e4 _ z
     | none=>simp only [z] at q;exact e2 _ q
theorem Sep.pack {a:Addr} {Γ Δ:Rs} {H:Hp} {R:YL} (S:Sep (Γ++Δ) H) (f:∀ h,Sep Γ h→R a h):Sep ((a,R)::Δ) H:=by
 obtain ⟨h,l,G,S⟩:=Sep.pack' S
 exact ⟨h,l,f h G,S⟩
section
variable {X:Cx}
def rEqD:R2:=fun x y H Q=>∃ dx dy,DataOf H x dx∧DataOf H y dy∧dx.canLay0=true∧dy.canLay0=true∧dx.depth≤60∧Q (.bl (PyData.eqv dx dy)) H
theorem ZlR (hu:X.A.units+64 < cLine):Xc X (compareOp .Eq) rEqD:=by
 intro pins s σ H x y v u Q I rx ry h
 obtain ⟨dx,dy,d1,d2,c1,c2,hd,q⟩:=h
 obtain ⟨_,as,r1⟩:=DataOf.reads I.hok v d1 rx
 obtain ⟨_,bs,r2⟩:=DataOf.reads I.hok u d2 ry
 exact SeqAt.compareEq_reads r1 r2 c1 c2 (by omega) ⟨.bl _,H,I,rfl,q⟩
theorem ZhA {i:Nat} (h:i≤100000):¬ (!Builtin.List.listFitsIndex (i:Int))=true:=by
 have e:Builtin.List.listFitsIndex (i:Int)=true:=by
   unfold Builtin.List.listFitsIndex
   have h1:(-(2 ^ 63:Int))≤(i:Int):=Int.le_trans (by decide) (Int.natCast_nonneg i)
   have h2:(i:Int) < 2 ^ 63:=Int.lt_of_le_of_lt (Int.ofNat_le.mpr h) (by decide)
   rw [decide_eq_true h1,decide_eq_true h2];rfl
 rw [e];decide
theorem ZcM (l:Addr) (its:Array Value) (n i:Nat) (t:Tok) (y:Value) (hi:i≤100000) (hsz:its.size≤sizeLine) :
   ∃ S,Meets (Builtin.«list.insert» ⟨[.ref l,.int ((i:Nat):Int) t,y],[]⟩) S∧∀ A R s,s.heap.get? l=some { cls:=.type "list",dict:=none,data:=.seq its n,slots:=#[] } →
     R (.ok (.ret Value.none)) { s with heap:=s.heap.update l (Obj.mapSeq fun xs=>(xs.extract 0 (min i xs.size)).push y++xs.extract (min i xs.size)),toks:=s.toks }→S A R s:=by
 refine ⟨_,@PySem.AutoListH.list_insert_list_int_val_1 l its n ((i:Nat):Int) t y (ZhA hi) hsz,fun A R s h1 h2=>⟨h1,?_⟩⟩
 have e:(fun xs:Array Value=>(xs.extract 0 (min i xs.size)).push y++xs.extract (min i xs.size))=(fun xs:Array Value=>(xs.extract 0 (if ((i:Nat):Int) < 0 then (((i:Nat):Int)+((xs.size:Nat):Int)).toNat else min (((i:Nat):Int)).toNat xs.size)).push y++xs.extract (if ((i:Nat):Int) < 0 then (((i:Nat):Int)+((xs.size:Nat):Int)).toNat else min (((i:Nat):Int)).toNat xs.size)):=by
   funext xs
   rw [if_neg (by omega),Int.toNat_natCast]
 rw [e] at h2
 exact h2
def Zkf:V→List V→Hp→VK→Prop:=fun x vs H Q=>∃ l xs i y,x=.ref l∧vs=[.int (i:Nat),y]∧H l=some (.lst xs)∧xs.length < 100000∧i≤100000∧Q .non (upd H l (.lst (xs.take i++y::xs.drop i)))
theorem ZgW:MtM X "list.insert" Zkf:=by
 intro pins s σ H x vs v us Q I rx rv h
 obtain ⟨l,xs,i,y,rfl,rfl,hH,hz,hi,q⟩:=h
 cases rx
 obtain ⟨u1,u2,rfl,⟨t,rfl⟩,r2⟩:=Zad rv
 obtain ⟨z,its,n,r,hl,e⟩:=I.lstM hH
 have hll:=r.length
 have hsz:its.toArray.size≤sizeLine:=by rw [List.size_toArray,← hll];exact z
 obtain ⟨S,M,hS⟩:=ZcM l its.toArray n i t u2 hi hsz
 refine call_meets (self:=.ref l) (rest:=[.int ((i:Nat):Int) t,u2]) (S:=S) F.slot_list_insert ⟨_,e,rfl⟩ F.entry_list_insert (F.args_list_insert_3 _ _ _) ?M (hS _ _ _ e ?R)
 case M=>assumption
 refine ⟨.non,_,I.lset (its':=its.take i++u2::its.drop i) hH e ?_ ((r.take i).append (.cons r2 (r.drop i))) ?_,rfl,q⟩
 · apply Array.toList_inj.mp
   by_cases hi2:i≤its.length
   · have e1:min i its.length=i:=Nat.min_eq_left hi2
     simp [e1,List.take_of_length_le]
   · have e1:min i its.length=its.length:=Nat.min_eq_right (by omega)
     simp [e1,List.take_of_length_le (show its.length≤i by omega),List.drop_eq_nil_of_le (show its.length≤i by omega)]
 · rw [List.length_append,List.length_take,List.length_cons,List.length_drop]
   exact Nat.le_trans (show _≤100001 by omega) (by decide)
end
section
variable {X:Cx} {k:Nat} {C:Addr} {x m:Str} {ps:List Str} {sp:Sp} {p pos apos:Pos} {o:Expr} {ta:TE}
theorem ZaA {pl:Sem Bool} (D:DefM X.prog X.w X.K X.mg X.base k C m ps sp) (c:Cls X.K C) (hr:Room k X.A) (he:PE X o ta)
   (ht:eval (.Call (.Attribute o m apos) [] [] pos) X.env=(do
     let ov ← eval o X.env
     standAt apos.atName
     let (f,first) ← holding [ov] (getMethod ov m pl)
     callWith pos f first (backTo pos (starEach [] X.env)) (backToKw pos (keywordEach [] X.env))):=by rfl) :
   PE X (.Call (.Attribute o m apos) [] [] pos) (Zca C m sp [] E0 ta XE):=by
 obtain ⟨f,fd,F,b,q⟩:=D
 exact Zih he c q F hr b .nil ZbW ht
end
end L2
set_option maxHeartbeats 2000000
namespace L2
open PySem PySem.Spec PyProof.Rows
def ZeE (K:PySem.W.Frag) (a:Addr):It :=
 ⟨fun i H=>∃ xs x,SqL K H a xs∧xs[i]?=some x,fun i H v H'=>∃ t x,H t=none∧(∀ xs,SqL K H a xs→xs[i]?=some x)∧v=.ref t∧H'=upd H t (.tup [.int (i:Int),x]),fun i H=>∃ xs,SqL K H a xs∧xs.length≤i⟩
theorem Zfj {P:Program} {w:World} {K:PySem.W.Frag} {elts:List Expr} {x1:Nat} {tp:Pos} (a e it:Addr) (hne:e≠it) (hai:a≠it) (hae:a≠e) :
   Wz P w K (.Tuple elts x1 tp) (ZeE K a) [e,it] e (fun i h=>(∃ old,IsEnum h e it (i:Int) old)∧h.IsListIter it a i) where
 mem:=by simp
 obj:=fun i h st b hb=>by
   obtain ⟨⟨old,he⟩,⟨o,ho,c,d⟩⟩:=st
   rcases List.mem_cons.mp hb with q | hb
   · rw [q];exact ⟨_,he,fun v z=>by cases z⟩
   · rw [List.mem_singleton.mp hb];exact ⟨o,ho,fun v z=>by rw [d] at z;cases z⟩
 keep:=fun i h h' st k=>by
   obtain ⟨⟨old,he⟩,st⟩:=st
   exact ⟨⟨old,k e (by simp) _ he⟩,st.at fun o y=>k it (by simp) o y⟩
 item:=by
   intro X hP hw hK hc i pins s σ H E I hf st hg
   subst hP hw hK
   obtain ⟨⟨old,he⟩,hs⟩:=st
   obtain ⟨xs,x,hq,hx⟩:=hg
   obtain ⟨its,rv,p,hz⟩:=I.list hq
   obtain ⟨u,hu,ru⟩:=rv.get hx
   have hlt:i < its.toArray.size:=by
     have:=(List.getElem?_eq_some_iff.mp hu).1
     simpa using this
   have D:=Draws.list (prog:=X.prog) (w:=X.w) (A:=X.A.in1) (I.ok.hd hc) it a hai its.toArray
   refine wpAny_pyNext_enum_itemD (i:=i) D he ⟨hs,p.isList⟩ hlt hne (by simp [hne,Ne.symm hae]) fun v h' tk hP hOut hst hT hsz hk=>?_
   have ev:v=u:=by
     have:its[i]?=some v:=by simpa using hP
     rw [hu] at this;exact (Option.some.inj this).symm
   subst ev
   have hel:e < s.heap.objs.size:=Heap.lt_size he
   have hil:it < s.heap.objs.size:=by obtain ⟨o,ho,_⟩:=hs;exact Heap.lt_size ho
   refine ⟨_,rfl,wpAny_letOwnedTupleGo_enum hOut fun h2 he2 hs2=>?_⟩
   generalize hO:({ cls:=.type "tuple",data:=.seq #[.int ((i:Nat):Int) tk,v] }:Obj)=O at hT
   have I1:Inv X pins σ (upd H s.heap.objs.size (.tup [.int (i:Int),x])) { s with heap:=s.heap.push O,toks:=tk+1 }:=by
     refine I.laid (t':=tk+1) (fun b o y=>Heap.get?_push_of_some _ y) (Nat.le_refl _) (show ObjOk X.prog X.w _ _ _ (.tup _) from ⟨by show 2≤sizeLine;decide,[.int ((i:Nat):Int) tk,v],.cons ⟨tk,rfl⟩ (.cons ru .nil),?_⟩)
     rw [← hO];exact IsTup.new _ _
   have hfree:=I.hok.fresh (Nat.le_refl s.heap.objs.size)
   have hf2:∀ b∈[e,it],Yo X pins (upd H s.heap.objs.size (.tup [.int (i:Int),x])) b:=fun b hb=>by
     obtain ⟨f0,f1⟩:=hf b hb
     have hb':b≠s.heap.objs.size:=by
       rcases List.mem_cons.mp hb with q | hb
       · rw [q];exact Nat.ne_of_lt hel
       · rw [List.mem_singleton.mp hb];exact Nat.ne_of_lt hil
     exact ⟨by rw [Zk hb'];exact f0,f1⟩
   have I2:Inv X pins σ (upd H s.heap.objs.size (.tup [.int (i:Int),x])) { s with heap:=h2,toks:=tk+1 }:=by
     refine I1.turned2 (t':=tk+1) (h':=h2) (fun b o hb y=>?_) hf2
     have hbe:b≠e:=fun q=>hb (by simp [q])
     have hbi:b≠it:=fun q=>hb (by simp [q])
     rw [hs2.2 b hbe]
     rcases Heap.get?_push_cases y with ⟨q1,q2⟩ | y
     · rw [q1,q2];exact hT
     · exact hk b o hbe hbi y
   refine ⟨.ref s.heap.objs.size,_,I2,rfl,⟨s.heap.objs.size,x,hfree,fun ys hy=>by rw [I.list_inj hy hq];exact hx,rfl,rfl⟩,⟨⟨_,he2⟩,?_⟩,fun b hb=>(hf2 b hb).1⟩
   exact hst.1.at fun o y=>by rw [hs2.2 it hne.symm];exact y
 done:=by
   intro X hP hw hK hc i pins s σ H E I hf st hg
   subst hP hw hK
   obtain ⟨⟨old,he⟩,hs⟩:=st
   obtain ⟨xs,hq,hle⟩:=hg
   obtain ⟨its,rv,p,hz⟩:=I.list hq
   have hl:=rv.length
   obtain ⟨f0,f1,f2,f3,f4,f5⟩:=hf it (by simp)
   exact wpAny_pyNext_enum_end (I.ok.hd hc) he hs p.isList (by simp;omega) fun h' eb=>⟨rfl,I.turned (t':=s.toks) (fun b o hb y=>eb b o hb y) f0 f1 f3 f4 f5⟩
 self:=fun _ _ _ _ _ st h=>by
   obtain ⟨⟨old,he⟩,_⟩:=st
   exact wpAny_pyIter_enum he h
def Zlr (K:PySem.W.Frag) (tl:TE):TI:=fun σ H R=>tl σ H fun v H1=>∃ a xs,[v]=[V.ref a]∧H1 a=some (.lst xs)∧R (ZeE K a) H1
section
variable {X:Cx}
theorem Zhf {l:Expr} {tl:TE} {elts:List Expr} {x1:Nat} {tp p pos:Pos} (hg:Gl X "enumerate") (hm:X.mg "enumerate"=none) (hl:PE X l tl)
   (he:starEach [l] X.env=[(false,eval l X.env)]:=by rfl):PI X (.Tuple elts x1 tp) (.Call (.Name "enumerate" p) [l] [] pos) (Zlr X.K tl):=by
 intro pins s σ H R I h
 have ha:PA X [l] (Xe tl XE):=Yw hl Za he
 refine wpAny_Call_Name_kw (Wk I hg hm boot_enumerate ?_)
 refine PyProof.Rows.callWith_type1 (Zm (ha pos pins s σ H (fun vs H1=>∃ a xs,vs=[V.ref a]∧H1 a=some (.lst xs)∧R (ZeE X.K a) H1) I h) fun us s1 ⟨vs,H1,I1,r1,a,xs,e,ea,q⟩=>?_) he rfl
 subst e
 obtain ⟨u,rfl,r⟩:=Yr r1
 cases r
 obtain ⟨z,its,n,rv,hll,eo⟩:=I1.lstM ea
 have hal:a < s1.heap.objs.size:=Heap.lt_size eo
 refine call_enumerate_1 eo fun h' hE hit hsz hkk=>wpAny_pyIter_enum hE ?_
 refine ⟨s1.heap.objs.size+1,[s1.heap.objs.size+1,s1.heap.objs.size],_,_,H1,rfl,I1.kept (t':=s1.toks) hkk,Zfj a _ _ (Nat.succ_ne_self _) (Nat.ne_of_lt hal) (Nat.ne_of_lt (Nat.lt_succ_of_lt hal)),⟨⟨_,hE⟩,hit⟩,fun b hb=>?_,q⟩
 rcases List.mem_cons.mp hb with z | hb
 · rw [z];exact I1.fpOk (Nat.le_succ _) (I1.hok.fresh (Nat.le_succ _))
 · rw [List.mem_singleton.mp hb];exact I1.fpOk (Nat.le_refl _) (I1.hok.fresh (Nat.le_refl _))
end
end L2
set_option maxHeartbeats 2000000
namespace L2
open PySem PySem.Spec PyProof.Rows
def ZmA (i j k:Nat) (ta:TA):TS:=fun D σ H=>ta σ H fun vs H1=>∃ u v w,vs=[u,v,w]∧D.nx (((σ.set i (some u)).set j (some v)).set k (some w)) H1
theorem ZdT {X:Cx} {pos:Pos} {i j k:Nat} {x y z:Str} {a b c:Expr} {ta:TA} {px py pz pt:Pos} {kt k2 pt2} (hc:X.calm=true) (hN:X.N.Nodup) (hi:X.N[i]?=some x) (hj:X.N[j]?=some y) (hk:X.N[k]?=some z) (hij:i≠j) (hik:i≠k) (hjk:j≠k)
   (hx:X.env.scope.names.lookup x=some .local) (hy:X.env.scope.names.lookup y=some .local) (hz:X.env.scope.names.lookup z=some .local) (ha:PA X [a,b,c] ta)
   (hw:swappedStores [.Tuple [.Name x px,.Name y py,.Name z pz] kt pt] (.Tuple [a,b,c] k2 pt2) X.env=pure (some [x,y,z]))
   (hs:swapsWithSole [.Tuple [.Name x px,.Name y py,.Name z pz] kt pt] (.Tuple [a,b,c] k2 pt2) pos.line X.env=pure false:=by rfl) :
   PS X (.Assign [.Tuple [.Name x px,.Name y py,.Name z pz] kt pt] (.Tuple [a,b,c] k2 pt2) pos) (ZmA i j k ta):=by
 intro pins s σ H D I h
 rw [exec_Assign_arm]
 refine wpAny_bind (wpAny_standAt ?_)
 rw [hs]
 refine wpAny_bind (wpAny_pure ?_)
 rw [if_neg (by decide)]
 refine wpAny_bind (Tuple_ (Zm (ha _ pins s σ H _ I h) fun us s1 ⟨vs,H1,I1,r1,q1⟩=>?_))
 obtain ⟨v1,v2,v3,e1,q1⟩:=q1
 subst e1
 obtain ⟨u1,u2,u3,rfl,rv1,rv2,rv3⟩:∃ u1 u2 u3,us=[u1,u2,u3]∧RelV v1 u1∧RelV v2 u2∧RelV v3 u3:=by
   cases r1 with
   | cons p q =>
     cases q with
     | cons p' q' =>
       cases q' with
       | cons p'' q'' =>
         cases q''
         exact ⟨_,_,_,rfl,p,p',p''⟩
 refine wpAny_newObj_type ?_ (by show 3≤sizeLine;decide)
 have I2:Inv X pins σ H1 { s1 with heap:=s1.heap.push { cls:=.type "tuple",data:=.seq [u1,u2,u3].toArray } }:=I1.kept (t':=s1.toks) fun b o e=>Heap.get?_push_of_some _ e
 rw [hw]
 refine wpAny_bind (wpAny_pure ?_)
 show wpAny (model X.prog X.w) X.A (do rule "assign.swapped-stores";let items ← unpackItems (.ref s1.heap.objs.size) 3 none;assignInOrder [fun v=>bindName X.env z v,fun v=>bindName X.env y v,fun v=>bindName X.env x v] items.reverse;pure Flow.next) _ _ _
 refine wpAny_bind (wpAny_rule (wpAny_bind (unpackItems_tuple (items:=#[u1,u2,u3]) (I.ok.hd hc) (IsTup.new s1.heap _) fun h' hx'=>?_)))
 have I3:=I2.kept (h':=h') (t':=s1.toks) fun b o e=>hx' b o (Nat.ne_of_lt (Heap.lt_size e)) e
 show wpAny _ _ (assignInOrder [fun v=>bindName X.env z v,fun v=>bindName X.env y v,fun v=>bindName X.env x v] [u3,u2,u1] >>= fun _=>pure Flow.next) _ _ _
 refine wpAny_bind (assignInOrder_cons (wpAny_bindName (Xr I3 hN hk (.inl hz) rv3 (fun s2 I4=>?_) (.inr hz))))
 refine assignInOrder_cons (wpAny_bindName (Xr I4 hN hj (.inl hy) rv2 (fun s3 I5=>?_) (.inr hy)))
 refine assignInOrder_cons (wpAny_bindName (Xr I5 hN hi (.inl hx) rv1 (fun s4 I6=>assignInOrder_nil (wpAny_pure ?_)) (.inr hx)))
 rw [List.set_comm _ _ (Ne.symm hjk),List.set_comm _ _ (Ne.symm hik),List.set_comm _ _ (Ne.symm hij)] at I6
 exact ⟨_,H1,I6,q1⟩
theorem ZbP {X:Cx} {K:PySem.W.Frag} (hK:X.K=K):Xc X (compareOp .NotIn) (rIn K true):=by subst hK;exact Zco
theorem Zhr {X:Cx} {K:PySem.W.Frag} (hK:X.K=K):SlR X (rSlL K):=by subst hK;exact ZaW
end L2
set_option maxHeartbeats 2000000
namespace L2
open PySem PySem.Spec PyProof.Rows
section
variable {X:Cx}
end
end L2
set_option maxHeartbeats 2000000
namespace L2
open PySem
theorem Sep.newE {Δ:Rs} {H H2:Hp} {o:HO} (S:Sep Δ H) {p:Addr} (hp:H p=none) (e:upd H p o=H2):Sep ((p,Pt o)::Δ) H2:=e ▸ S.new hp o
theorem Sep.putE {Δ Δ':Rs} {H H2:Hp} {o o':HO} {a:Addr} (S:Sep Δ H) (e:upd H a o'=H2) [P:Pull a Δ (Pt o) Δ'] (m:YD o=true:=by rfl):Sep ((a,Pt o')::Δ') H2:=e ▸ S.put a o' m
theorem Wg {lo:Int} {n:Nat} {te:TE} {σ:St} {D:Addr} {Q:VK} {H:Hp} {Δ:Rs} (hn:n≤sizeLine) (S:Sep Δ H) (hD:H D=none) (J:Nat→List V→Rs→Prop) (h0:J 0 [] Δ)
   (hs:∀ i ys Δ H,i < n→ys.length=i→J i ys Δ→Sep ((D,ZI ys)::Δ) H→te (σ++[some (.int (lo+i))]) H fun y H4=>∃ Δ',J (i+1) (ys++[y]) Δ'∧Sep ((D,ZI ys)::Δ') H4)
   (hd:∀ ys Δ H,J n ys Δ→ys.length=n→Sep ((D,ZI ys)::Δ) H→Q (.ref D) H):Uv (Itr lo n) te σ D Q H:=by
 refine ⟨fun i m ys H=>m=n - i∧i≤n∧ys.length=i∧∃ Δ,J i ys Δ∧Sep ((D,ZI ys)::Δ) H,⟨n,by simp,Nat.zero_le _,rfl,Δ,h0,S.new hD _⟩,?_⟩
 rintro i m ys H2 ⟨rfl,hi,hl,Δ,j,S⟩
 by_cases hlt:i < n
 · refine .inr ⟨hlt,_,fun y H4 (q:∃ Δ',J (i+1) (ys++[y]) Δ'∧Sep ((D,ZI ys)::Δ') H4)=>?_,fun v H3 y=>?_⟩
   · obtain ⟨Δ',j',S'⟩:=q
     exact ⟨S'.get D,by omega,n - (i+1),by omega,rfl,hlt,by simp [hl],Δ',j',S'.put D _⟩
   · obtain ⟨e1,e2⟩:=y
     subst e1 e2
     exact hs i ys Δ _ hlt hl j S
 · have e:i=n:=by omega
   exact .inl ⟨by show n≤i;omega,hd ys Δ H2 (e ▸ j) (by omega) S⟩
theorem ZeB {K:PySem.W.Frag} {a:Addr} {xs:List V} {te:TE} {σ:St} {D:Addr} {Q:VK} {H:Hp} {Δ:Rs} (hn:xs.length≤sizeLine) (S:Sep Δ H) (hD:H D=none) (J:Nat→List V→Rs→Prop) (h0:J 0 [] Δ)
   (ha:∀ i ys Δ H,J i ys Δ→Sep ((D,ZI ys)::Δ) H→SqL K H a xs)
   (hs:∀ i x ys Δ H,xs[i]?=some x→ys.length=i→J i ys Δ→Sep ((D,ZI ys)::Δ) H→te (σ++[some x]) H fun y H4=>∃ Δ',J (i+1) (ys++[y]) Δ'∧Sep ((D,ZI ys)::Δ') H4)
   (hd:∀ ys Δ H,J xs.length ys Δ→ys.length=xs.length→Sep ((D,ZI ys)::Δ) H→Q (.ref D) H):Uv (Itl K a) te σ D Q H:=by
 refine ⟨fun i m ys H=>m=xs.length - i∧i≤xs.length∧ys.length=i∧∃ Δ,J i ys Δ∧Sep ((D,ZI ys)::Δ) H,⟨xs.length,by simp,Nat.zero_le _,rfl,Δ,h0,S.new hD _⟩,?_⟩
 rintro i m ys H2 ⟨rfl,hi,hl,Δ,j,S⟩
 have q:=ha i ys Δ H2 j S
 by_cases hlt:i < xs.length
 · refine .inr ⟨⟨xs,xs[i],q,by simp [hlt]⟩,_,fun y H4 (q:∃ Δ',J (i+1) (ys++[y]) Δ'∧Sep ((D,ZI ys)::Δ') H4)=>?_,fun v H3 y=>?_⟩
   · obtain ⟨Δ',j',S'⟩:=q
     exact ⟨S'.get D,by omega,xs.length - (i+1),by omega,rfl,hlt,by simp [hl],Δ',j',S'.put D _⟩
   · obtain ⟨e1,e2⟩:=y
     subst e1
     exact hs i v ys Δ _ (e2 xs q) hl j S
 · have e:i=xs.length:=by omega
   exact .inl ⟨⟨xs,q,by omega⟩,hd ys Δ H2 (e ▸ j) (by omega) S⟩
theorem Zdp {K:PySem.W.Frag} {a:Addr} {xs:List V} {tc:TT} {te:TE} {σ:St} {D:Addr} {Q:VK} {H:Hp} {Δ:Rs} (hn:xs.length≤sizeLine) (S:Sep Δ H) (hD:H D=none) (J:Nat→List V→Rs→Prop) (h0:J 0 [] Δ)
   (ha:∀ i ys Δ H,J i ys Δ→Sep ((D,ZI ys)::Δ) H→SqL K H a xs)
   (hs:∀ i x ys Δ H,xs[i]?=some x→ys.length≤i→J i ys Δ→Sep ((D,ZI ys)::Δ) H→tc (σ++[some x]) H fun b H3=>if b=true then te (σ++[some x]) H3 fun y H4=>∃ Δ',J (i+1) (ys++[y]) Δ'∧Sep ((D,ZI ys)::Δ') H4 else ∃ Δ',J (i+1) ys Δ'∧Sep ((D,ZI ys)::Δ') H3)
   (hd:∀ ys Δ H,J xs.length ys Δ→ys.length≤xs.length→Sep ((D,ZI ys)::Δ) H→Q (.ref D) H):ZaC (Itl K a) tc te σ D Q H:=by
 refine ⟨fun i m ys H=>m=xs.length - i∧i≤xs.length∧ys.length≤i∧∃ Δ,J i ys Δ∧Sep ((D,ZI ys)::Δ) H,⟨xs.length,by simp,Nat.zero_le _,Nat.le_refl _,Δ,h0,S.new hD _⟩,?_⟩
 rintro i m ys H2 ⟨rfl,hi,hl,Δ,j,S⟩
 have q:=ha i ys Δ H2 j S
 by_cases hlt:i < xs.length
 · refine .inr ⟨⟨xs,xs[i],q,by simp [hlt]⟩,_,_,fun y H4 (q:∃ Δ',J (i+1) (ys++[y]) Δ'∧Sep ((D,ZI ys)::Δ') H4)=>?_,fun H4 (q:∃ Δ',J (i+1) ys Δ'∧Sep ((D,ZI ys)::Δ') H4)=>?_,fun v H3 y=>?_⟩
   · obtain ⟨Δ',j',S'⟩:=q
     exact ⟨S'.get D,by omega,xs.length - (i+1),by omega,rfl,hlt,by simp;omega,Δ',j',S'.put D _⟩
   · obtain ⟨Δ',j',S'⟩:=q
     exact ⟨xs.length - (i+1),by omega,rfl,hlt,by omega,Δ',j',S'⟩
   · obtain ⟨e1,e2⟩:=y
     subst e1
     exact hs i v ys Δ _ (e2 xs q) hl j S
 · have e:i=xs.length:=by omega
   exact .inl ⟨⟨xs,q,by omega⟩,hd ys Δ H2 (e ▸ j) (by omega) S⟩
theorem ZcZ {K:PySem.W.Frag} {a:Addr} {xs:List V} {g:TG} {tc:TT} {te:TE} {σ:St} {D:Addr} {Q:VK} {H:Hp} {Δ:Rs} (hn:xs.length≤sizeLine) (S:Sep Δ H) (hD:H D=none) (J:Nat→List V→Rs→Prop) (h0:J 0 [] Δ)
   (ha:∀ i ys Δ H,J i ys Δ→Sep ((D,ZI ys)::Δ) H→SqL K H a xs)
   (hs:∀ i x t ys Δ H wa wb,xs[i]?=some x→ys.length≤i→J i ys Δ→Sep ((t,Tup [.int (i:Int),x])::(D,ZI ys)::Δ) H→g (.ref t) (σ++[wa,wb]) H fun σ' H'=>(∃ wa wb,σ'=σ++[wa,wb])∧tc σ' H' fun b H3=>if b=true then te σ' H3 fun y H4=>∃ Δ',J (i+1) (ys++[y]) Δ'∧Sep ((D,ZI ys)::Δ') H4 else ∃ Δ',J (i+1) ys Δ'∧Sep ((D,ZI ys)::Δ') H3)
   (hd:∀ ys Δ H,J xs.length ys Δ→ys.length≤xs.length→Sep ((D,ZI ys)::Δ) H→Q (.ref D) H):Zdf (ZeE K a) g tc te σ D Q H:=by
 refine ⟨fun i m ys H=>m=xs.length - i∧i≤xs.length∧ys.length≤i∧∃ Δ,J i ys Δ∧Sep ((D,ZI ys)::Δ) H,⟨xs.length,by simp,Nat.zero_le _,Nat.le_refl _,Δ,h0,S.new hD _⟩,?_⟩
 rintro i m ys H2 ⟨rfl,hi,hl,Δ,j,S⟩
 have q:=ha i ys Δ H2 j S
 by_cases hlt:i < xs.length
 · refine .inr ⟨⟨xs,xs[i],q,by simp [hlt]⟩,_,_,fun y H4 (q:∃ Δ',J (i+1) (ys++[y]) Δ'∧Sep ((D,ZI ys)::Δ') H4)=>?_,fun H4 (q:∃ Δ',J (i+1) ys Δ'∧Sep ((D,ZI ys)::Δ') H4)=>?_,fun wa wb v H3 y=>?_⟩
   · obtain ⟨Δ',j',S'⟩:=q
     exact ⟨S'.get D,by omega,xs.length - (i+1),by omega,rfl,hlt,by simp;omega,Δ',j',S'.put D _⟩
   · obtain ⟨Δ',j',S'⟩:=q
     exact ⟨xs.length - (i+1),by omega,rfl,hlt,by omega,Δ',j',S'⟩
   · obtain ⟨t,x,e1,e2,e3,e4⟩:=y
     subst e3 e4
     exact hs i x t ys Δ _ wa wb (e2 xs q) hl j (S.new e1 _)
 · have e:i=xs.length:=by omega
   exact .inl ⟨⟨xs,q,by omega⟩,hd ys Δ H2 (e ▸ j) (by omega) S⟩
end L2
set_option maxHeartbeats 2000000
namespace L2
open PySem
def Xq (x:Str):Prop:=1≤x.length∧x.length≤8∧x.cps.toList.all WX=true
theorem YM (c:Nat):(⟨#[c]⟩:Str).length=1:=rfl
theorem Zda {P:Nat→Bool}:∀ {l:List Str},(∀ z∈l,∃ c,z=⟨#[c]⟩∧P c=true)→(l.map (·.length)).sum=l.length∧(l.flatMap (·.cps.toList)).length=l.length∧(l.flatMap (·.cps.toList)).all P=true
 | [],_=>⟨rfl,rfl,rfl⟩
 | z :: r,h=>by
   obtain ⟨c,rfl,hc⟩:=h z List.mem_cons_self
   obtain ⟨g1,g2,g3⟩:=Zda (l:=r) fun y hy=>h y (List.mem_cons_of_mem _ hy)
   refine ⟨?_,?_,?_⟩
   · rw [List.map_cons,List.sum_cons,g1,List.length_cons];show 1+_=_;omega
   · have e0:((⟨#[c]⟩:Str)::r).flatMap (·.cps.toList)=c::r.flatMap (·.cps.toList):=rfl
     rw [e0,List.length_cons,List.length_cons,g2]
   · rw [List.flatMap_cons,List.all_append,g3];simp [hc]
theorem Zfz {P:Nat→Bool} {zs:List Str} (h:∀ z∈zs,∃ c,z=⟨#[c]⟩∧P c=true):(zs.map (·.length)).sum+zs.length * (Str.ofString "").length≤2 * zs.length∧(Txt.join (Str.ofString "") zs).length=zs.length∧(Txt.join (Str.ofString "") zs).cps.toList.all P=true:=by
 obtain ⟨g1,g2,g3⟩:=Zda h
 refine ⟨?_,?_,?_⟩
 · rw [g1];show _+_ * 0≤_;omega
 · rw [Yd,Wp,g2]
 · rw [Wp];exact g3
theorem WG {P:Nat→Bool} {x y:Str} (h1:x.cps.toList.all P=true) (h2:y.cps.toList.all P=true):(x++y).cps.toList.all P=true:=by
 rw [Vn,List.all_append,h1,h2];rfl
theorem UC {P:Nat→Bool} {c:Nat} (h:P c=true):(⟨#[c]⟩:Str).cps.toList.all P=true:=by
 show [c].all P=true;simp [h]
theorem UJ {P:Nat→Bool} {x:Str} {lo hi:Option Int} (h:x.cps.toList.all P=true):(Txt.slice x lo hi).cps.toList.all P=true:=by
 rw [We]
 rw [List.all_eq_true] at h ⊢
 exact fun c hc=>h c (List.mem_of_mem_drop (List.mem_of_mem_take hc))
theorem ZgF {x:Str} {k:Int} (h0:0≤k) (h1:k≤x.length):(Txt.slice x none (some k)).length+(Txt.slice x (some k) none).length=x.length:=by
 have hn:¬ k < 0:=by omega
 rw [Yd,Yd,We,We,Yd]
 rw [Yd] at h1
 have e1:HT.sIx x.cps.toList.length 0 none=0:=rfl
 have e2:HT.sIx x.cps.toList.length x.cps.toList.length none=x.cps.toList.length:=rfl
 have e3:∀ d,HT.sIx x.cps.toList.length d (some k)=k.toNat:=fun d=>by
   unfold HT.sIx
   simp only [hn,if_false]
   omega
 rw [e1,e2,e3,e3,List.length_take,List.length_take,List.length_drop,List.length_drop]
 omega
theorem XU {x:Str} {P:Nat→Bool} (ha:x.cps.toList.all P=true) {r:Int} (h0:0≤r) (h1:r < x.length):∃ c,YO x.cps.toList r=some c∧P c=true:=by
 have hl:r.toNat < x.cps.toList.length:=by rw [← Yd];omega
 exact ⟨_,Zam h0 (List.getElem?_eq_getElem hl),List.all_eq_true.mp ha _ (List.getElem_mem hl)⟩
def a26:Str:="abcdefghijklmnopqrstuvwxyz"
theorem Xb:a26.length=26:=by decide +kernel
theorem Uc:a26.cps.toList.all WX=true:=by decide +kernel
theorem Zga {α:Type} {f:α→V} {xs:List α} {r:Int} (h0:0≤r) (h1:r < (xs.length:Int)):∃ x∈xs,YO (xs.map f) r=some (f x):=by
 have hl:r.toNat < xs.length:=by omega
 exact ⟨_,List.getElem_mem hl,Zam h0 (by rw [List.getElem?_map,List.getElem?_eq_getElem hl];rfl)⟩
theorem Zen {xs:List V} {r:Int} (h0:0≤r) (h1:r < (xs.length:Int)):∃ x∈xs,YO xs r=some x:=by
 have hl:r.toNat < xs.length:=by omega
 exact ⟨_,List.getElem_mem hl,Zam h0 (List.getElem?_eq_getElem hl)⟩
theorem Sep.le {Δ:Rs} {H:Hp} {p:Addr} {n m:Nat} (S:Sep ((p,Bx n)::Δ) H) (h:n≤m):Sep ((p,Bx m)::Δ) H:=by
 obtain ⟨g,l,r,S⟩:=S
 exact ⟨g,l,BoxAt.le r h,S⟩
def VF:Sp:=fun vs H Q _=>∃ (p:Addr) (n:Nat) (Δ:Rs),vs=[.ref p]∧Sep ((p,Bx n)::Δ) H∧n≤900000∧∀ (v:V) (H':Hp),YY v→Sep ((p,Bx (n+50))::Δ) H'→Q v H'
theorem ZjT {vs:List V} {H:Hp} {Q:VK} {E:XK} (h:VF vs H Q E):Zei vs H Q E:=by
 obtain ⟨p,n,Δ,e,S,h1,q⟩:=h
 exact ⟨p,n,e,S.get p,h1,fun v H' hv B k=>q v H' hv (S.box k B)⟩
def Zde (K:PySem.W.Frag):Sp:=fun vs H Q _=>∃ (a:Addr) (ns:List Int) (k:Int) (Δ:Rs),vs=[.ref a,.int k]∧SqL K H a (ns.map V.int)∧Sep Δ H∧0≤k∧k≤1000∧∀ (p:Addr) (H':Hp),Same H H'→Sep ((p,Bx 0)::Δ) H'→Q (.ref p) H'
theorem ZlZ {K:PySem.W.Frag} {vs:List V} {H:Hp} {Q:VK} {E:XK} (h:Zde K vs H Q E):ZiZ K vs H Q E:=by
 obtain ⟨a,ns,k,Δ,e,hS,S,h1,h2,q⟩:=h
 refine ⟨a,ns,k,e,hS,h1,h2,fun p H' hp B s=>q p H' s ?_⟩
 obtain ⟨x,y,z,eb,w⟩:=B
 exact (S.made s hp eb).say p (Bx 0) fun h r=>⟨x,y,z,r,w⟩
theorem Zdc {xs:List V} {i:Nat}:UU xs none (some (i:Int))=xs.take i:=by
 unfold UU
 rw [HT.sIx_none,HT.sIx_nat,List.drop_zero,Nat.sub_zero]
 by_cases h:i≤xs.length
 · rw [Nat.min_eq_left h]
 · rw [Nat.min_eq_right (by omega),List.take_of_length_le (Nat.le_refl _),List.take_of_length_le (by omega)]
theorem ZjW {x:Str} {ys:List Str}:inV (.str x) (ys.map V.str)=decide (x∈ys):=by
 unfold inV
 induction ys with
 | nil=>rfl
 | cons y ys ih =>
   rw [List.map_cons,List.any_cons,ih]
   show ((y == x) || decide (x∈ys))=decide (x∈y::ys)
   by_cases h:y=x
   · subst h;simp
   · rw [show (y == x)=false from beq_eq_false_iff_ne.mpr h,Bool.false_or]
     congr 1
     simp [List.mem_cons,Ne.symm h]
theorem Zgt (ys:List Str):(ys.map V.str).all Ws=true:=by
 rw [List.all_eq_true]
 intro v hv
 obtain ⟨y,_,rfl⟩:=List.mem_map.mp hv
 rfl
theorem ZeH:(List.range 26).all (fun k=>decide (Txt.find a26 ⟨#[97+k]⟩=(k:Int)))=true:=by decide +kernel
theorem ZcW {c:Nat} (h:WX c=true):Txt.find a26 ⟨#[c]⟩=(c:Int) - 97∧97≤c∧c≤122:=by
 unfold WX at h
 simp only [Bool.and_eq_true,decide_eq_true_eq] at h
 have z:=of_decide_eq_true (List.all_eq_true.mp ZeH (c - 97) (List.mem_range.mpr (by omega)))
 rw [show 97+(c - 97)=c by omega] at z
 exact ⟨by rw [z];omega,h⟩
theorem ZiD {x:Str} {P:Nat→Bool} (ha:x.cps.toList.all P=true) {r:Int} (h0:-(x.length:Int)≤r) (h1:r < x.length):∃ c,YO x.cps.toList r=some c∧P c=true:=by
 by_cases h:0≤r
 · exact XU ha h h1
 · have hl:(r+x.cps.toList.length).toNat < x.cps.toList.length:=by rw [← Yd];omega
   refine ⟨x.cps.toList[(r+x.cps.toList.length).toNat],?_,List.all_eq_true.mp ha _ (List.getElem_mem hl)⟩
   unfold YO Wi
   rw [if_neg h,if_pos (by rw [← Yd];omega)]
   exact List.getElem?_eq_getElem hl
theorem Zim (b:Bool) (tw:Str):0≤(if b=true then (1:Int) else 0)∧(if b=true then (1:Int) else 0)≤1∧(List.replicate (if b=true then (1:Int) else 0).toNat [V.str tw]).flatten=(if b=true then [tw] else []).map V.str:=by
 cases b
 · exact ⟨by decide,by decide,rfl⟩
 · exact ⟨by decide,by decide,rfl⟩
def YA (xs:List Str):Nat→List Str
 | 0=>[]
 | i+1=>match xs[i]? with
   | some x=>if x∈xs.take i then YA xs i else YA xs i++[x]
   | none=>YA xs i
theorem Xf {xs:List Str}:∀ i {x},x∈YA xs i↔x∈xs.take i
 | 0,x=>by simp [YA]
 | i + 1,x=>by
   unfold YA
   rw [List.take_add_one]
   cases e:xs[i]? with
   | none=>simp [Xf i]
   | some y =>
     dsimp only
     by_cases h:y∈xs.take i
     · rw [if_pos h,Xf i]
       simp only [Option.toList_some,List.mem_append,List.mem_singleton]
       exact ⟨.inl,fun z=>z.elim id fun z=>z ▸ h⟩
     · rw [if_neg h]
       simp only [Option.toList_some,List.mem_append,List.mem_singleton,Xf i]
theorem WU {xs:List Str}:∀ i,(YA xs i).Nodup
 | 0=>List.nodup_nil
 | i + 1=>by
   unfold YA
   cases e:xs[i]? with
   | none=>exact WU i
   | some y =>
     dsimp only
     by_cases h:y∈xs.take i
     · rw [if_pos h];exact WU i
     · rw [if_neg h]
       refine List.nodup_append.mpr ⟨WU i,by simp,fun a ha b hb=>?_⟩
       rw [List.mem_singleton.mp hb]
       rintro rfl
       exact h ((Xf i).mp ha)
theorem Zdw {α:Type} {xs:List α} {n:Nat} {x:α} (h:x∈xs.take n):x∈xs:=List.mem_of_mem_take h
def ZcG:Sp:=fun vs H Q _=>∃ (p:Addr) (n:Nat) (Δ:Rs),vs=[.ref p]∧Sep ((p,Bx n)::Δ) H∧n≤800000∧∀ (l:Addr) (H':Hp) (us:List V),Sep ((l,ZI us)::(p,Bx (n+200))::Δ) H'→us.length=5→(∀ u∈us,YY u)→Q (.ref l) H'
inductive Stp where
 | set (x:Str) (v:V)
 | clr (x:Str)
def Stp.vs:Stp→List V
 | .set x v=>[.str "set",.str x,v]
 | .clr x=>[.str "clear",.str x]
def Stp.nm:Stp→Str
 | .set x _=>x
 | .clr x=>x
def Stp.ok (NS:List Str):Stp→Prop
 | .set x v=>x∈NS∧YY v
 | .clr x=>x∈NS
def ZfB:Sp:=fun vs H Q _=>∃ (p nl vl:Addr) (n:Nat) (NS:List Str) (us:List V) (Δ:Rs),vs=[.ref p,.ref nl,.ref vl]∧Sep ((p,Bx n)::(nl,ZI (NS.map V.str))::(vl,ZI us)::Δ) H∧NS≠[]∧us≠[]∧NS.length≤1000∧us.length≤1000∧(∀ u∈us,YY u)∧n≤900000 ∧
 ∀ (t:Addr) (H':Hp) (s:Stp),s.ok NS→Sep ((t,Tup s.vs)::(p,Bx (n+3))::(nl,ZI (NS.map V.str))::(vl,ZI us)::Δ) H'→Q (.ref t) H'
class IsLst (R:YL) (k:Nat):Prop where
 lst:∀ {a h},R a h→∃ xs,h a=some (.lst xs)∧xs.length=k
theorem Sep.isl {Δ Δ':Rs} {H:Hp} {R:YL} {k:Nat} (S:Sep Δ H) (a:Addr) (I:IsLst R k) [P:Pull a Δ R Δ']:∃ xs,H a=some (.lst xs)∧xs.length=k:=by
 obtain ⟨h,l,r,_⟩:=P.out S
 obtain ⟨xs,e,z⟩:=I.lst r
 exact ⟨xs,l _ _ e,z⟩
def ZfK:Sp:=fun vs H Q _=>∃ (p sl:Addr) (n k:Nat) (R:YL) (Δ:Rs),vs=[.ref p,.ref sl]∧Sep ((p,Bx n)::(sl,R)::Δ) H∧IsLst R k∧1≤k∧k≤10000∧n≤900000 ∧
 ∀ (r:Nat) (H':Hp),r < k→Sep ((p,Bx (n+3))::(sl,R)::Δ) H'→Q (.int (r:Int)) H'
end L2
set_option maxHeartbeats 2000000
namespace L2
open PySem
def WR (K:PySem.W.Frag) (C:Addr) (nds:List Nd) (tabs:List (Zj×V)):YL:=fun st h=>nds[0]?=some .bare∧∃ ln dt,StoreAt K C st ln dt h nds tabs
def Zis (lp:Pos) (q:Str):YL:=fun Pl h=>LamAt h Pl lp q
instance {K:PySem.W.Frag} {C:Addr} {nds:List Nd} {tabs:List (Zj×V)}:Up (WR K C nds tabs):=⟨fun ⟨h0,ln,dt,h⟩ s=>⟨h0,ln,dt,h.keep s⟩⟩
theorem LamAt.same' {H H':Hp} {Pl:Addr} {lp:Pos} {q:Str} (h:LamAt H Pl lp q) (s:Same H H'):LamAt H' Pl lp q:=by
 rcases h with h | ⟨c,h1,h2⟩
 · exact .inl (s _ _ h)
 · exact .inr ⟨c,s _ _ h1,s _ _ h2⟩
def some_of (H:Hp) (L:List Addr):Hp:=fun b=>if b∈L then H b else match H b with
 | some o=>if YD o=true then none else some o
 | none=>none
theorem Ww {H:Hp} {L:List Addr}:Same (some_of H L) H:=fun b o e=>by
 unfold some_of at e
 split at e
 · exact e
 · split at e
   · rename_i o' h'
     split at e
     · cases e
     · cases e;exact h'
   · cases e
theorem XG {H:Hp} {L:List Addr} {b:Addr} (h:b∈L):some_of H L b=H b:=by unfold some_of;rw [if_pos h]
theorem WZ {H:Hp} {L:List Addr} {b:Addr} {o:HO} (e:H b=some o) (m:YD o=false):some_of H L b=some o:=by
 unfold some_of
 split
 · exact e
 · simp only [e,m,Bool.false_eq_true,if_false]
theorem XZ {H:Hp} {L:List Addr} {b:Addr} {o:HO} (e:some_of H L b=some o) (m:YD o=true):b∈L:=by
 unfold some_of at e
 split at e
 · assumption
 · split at e
   · split at e
     · cases e
     · rename_i h;cases e;exact absurd m h
   · cases e
theorem Zeg {H:Hp} {L:List Addr}:TF H (some_of H L):=⟨fun b xs e=>WZ e rfl,fun b o u e=>WZ e rfl⟩
theorem Sep.stoLam {K:PySem.W.Frag} {C st Pl:Addr} {lp:Pos} {q:Str} {nds:List Nd} {tabs:List (Zj×V)} {Δ:Rs} {H:Hp} (S:Sep ((st,WR K C nds tabs)::(Pl,Zis lp q)::Δ) H) :
   ∃ ln dt,StoreAt K C st ln dt H nds tabs∧nds[0]?=some .bare∧LamAt H Pl lp q∧∀ H' nds' tabs',StoreAt K C st ln dt H' nds' tabs'→nds'[0]?=some .bare→LamAt H' Pl lp q→Kq [ln,dt,Pl] H H'→Sep ((st,WR K C nds' tabs')::(Pl,Zis lp q)::Δ) H':=by
 obtain ⟨h1,l1,⟨b0,ln,dt,r1⟩,h2,l2,r2,S⟩:=S
 have r2':LamAt h2 Pl lp q:=r2
 refine ⟨ln,dt,r1.keep l1,b0,(LamAt.same' r2' l2).same' ZaQ,fun H' nds' tabs' S' b0' L' kq=>?_⟩
 obtain ⟨tb,etb⟩:=r2'.tbl
 obtain ⟨tb',etb'⟩:=L'.tbl
 obtain ⟨dx,ob⟩:=r1.ob
 obtain ⟨as,nl,_⟩:=r1.nl
 obtain ⟨dx',ob'⟩:=S'.ob
 obtain ⟨as',nl',nlen',nod'⟩:=S'.nl
 have nPl:Pl ∉ [st,ln,dt]:=fun z=>by
   simp only [List.mem_cons,List.not_mem_nil,or_false] at z
   rcases z with z | z | z
   · rw [z,ob'] at etb';cases etb'
   · rw [z,nl'] at etb';cases etb'
   · rw [z,S'.tb] at etb';cases etb'
 refine ⟨some_of H' [st,ln,dt],Ww,⟨b0',ln,dt,⟨⟨dx',by rw [XG (by simp)];exact ob'⟩,⟨as',by rw [XG (by simp)];exact nl',nlen',fun i a n e1 e2=>(nod' i a n e1 e2).tf Zeg⟩,by rw [XG (by simp)];exact S'.tb⟩⟩,?_⟩
 have imm:∀ b o,H' b=some o→YD o=false→WS H' (some_of H' [st,ln,dt]) b=some o:=fun b o e m=>cut_some.mpr ⟨e,fun u z=>by have:=Ww _ _ z;rw [e] at this;cases this;exact m⟩
 refine ⟨some_of (WS H' (some_of H' [st,ln,dt])) [Pl],Ww,?_,S.mono fun b o e=>?_⟩
 · have ePl:some_of (WS H' (some_of H' [st,ln,dt])) [Pl] Pl=H' Pl:=by
     rw [XG (by simp)]
     have:WS H' (some_of H' [st,ln,dt]) Pl=some (.tbl tb'):=cut_some.mpr ⟨etb',fun u z=>by
       cases m:YD u with
       | false=>rfl
       | true=>exact absurd (XZ z m) nPl⟩
     rw [this,etb']
   rcases L' with z | ⟨c,z1,z2⟩
   · exact .inl (by rw [ePl];exact z)
   · refine .inr ⟨c,by rw [ePl];exact z1,?_⟩
     exact WZ (imm _ _ z2 rfl) rfl
 · obtain ⟨e1,e2⟩:=cut_some.mp e
   obtain ⟨e3,e4⟩:=cut_some.mp e1
   have n1:b≠ln:=fun z=>by have:=e4 _ (z ▸ nl);cases this
   have n2:b≠dt:=fun z=>by have:=e4 _ (z ▸ r1.tb);cases this
   have n3:b≠Pl:=fun z=>by have:=e2 _ (z ▸ etb);cases this
   have n4:b≠st:=fun z=>by have:=e4 _ (z ▸ ob);cases this
   have e5:=kq b o (by simp [n1,n2,n3]) e3
   refine cut_some.mpr ⟨cut_some.mpr ⟨e5,fun u z=>?_⟩,fun u z=>?_⟩
   · cases m:YD u with
     | false=>rfl
     | true=>have:=XZ z m;simp [n1,n2,n4] at this
   · cases m:YD u with
     | false=>rfl
     | true=>have:=XZ z m;simp [n3] at this
def VE (C:Addr) (fs:List (Str×V)):YL:=fun a h=>∃ dx,h a=some (.ins C dx fs)
instance {C:Addr} {fs:List (Str×V)}:Up (VE C fs):=⟨fun ⟨dx,h⟩ s=>⟨dx,s _ _ h⟩⟩
end L2
set_option maxHeartbeats 4000000
namespace K20
open PySem L2
def Yl (qs:List Nat):List Nat:=qs.filter fun p=>!decide (p=0)
def LeafAt (nds:List Nd) (num:Nat):Prop:=∃ m ps,nds[num]?=some (.leaf m ps)
def Big (nds:List Nd) (qs:List Nat):Prop:=2≤(Yl qs).length∨∃ q qs',Yl qs=[q]∧nds[q]?=some (.fork qs')
def Can (nds:List Nd):Nat→Nat→Prop
 | 0,num=>num=0∨LeafAt nds num
 | d+1,num=>(num=0∨LeafAt nds num)∨∃ qs,nds[num]?=some (.fork qs)∧(∀ q∈qs,Can nds d q)∧Big nds qs
theorem fil_mem {qs:List Nat} {q:Nat}:q∈Yl qs↔q∈qs∧q≠0:=by
 unfold Yl;rw [List.mem_filter];simp
theorem Wd (q:Nat) (qs:List Nat):(Yl (q::qs)).length=(Yl qs).length+if q=0 then 0 else 1:=by
 unfold Yl
 rw [List.filter_cons]
 by_cases z:q=0
 · simp [z]
 · simp [z]
theorem Zbk:∀ {qs:List Nat} {i q y:Nat},qs[i]?=some q→(Yl (qs.set i y)).length+(if q=0 then 0 else 1)=(Yl qs).length+if y=0 then 0 else 1
 | [],i,q,y,h=>by simp at h
 | a::qs,0,q,y,h=>by
   cases h
   rw [List.set_cons_zero,Wd,Wd];omega
 | a::qs,i+1,q,y,h=>by
   rw [List.set_cons_succ,Wd,Wd]
   have:=Zbk (qs:=qs) (i:=i) (q:=q) (y:=y) (by simpa using h)
   omega
theorem Zbm {qs:List Nat} {q:Nat} (hl:(Yl qs).length=1) (hq:q∈qs) (h0:q≠0):Yl qs=[q]:=by
 match e:Yl qs,hl with
 | [z],_ =>
   have:q∈Yl qs:=fil_mem.mpr ⟨hq,h0⟩
   rw [e] at this
   rw [List.mem_singleton.mp this]
theorem LeafAt.mono {nds nds':List Nd} {num:Nat} (h:LeafAt nds num) (e:NEx nds nds'):LeafAt nds' num:=let ⟨m,ps,z⟩:=h;⟨m,ps,e _ _ z⟩
theorem Big.mono {nds nds':List Nd} {qs:List Nat} (h:Big nds qs) (e:NEx nds nds'):Big nds' qs:=by
 rcases h with h | ⟨q,qs',h1,h2⟩
 · exact .inl h
 · exact .inr ⟨q,qs',h1,e _ _ h2⟩
theorem Can.mono {nds nds':List Nd} (e:NEx nds nds'):∀ {d num:Nat},Can nds d num→Can nds' d num
 | 0,_,h=>h.imp id fun z=>z.mono e
 | d+1,_,.inl h=>.inl (h.imp id fun z=>z.mono e)
 | d+1,_,.inr ⟨qs,h1,h2,h3⟩=>.inr ⟨qs,e _ _ h1,fun q hq=>Can.mono e (h2 q hq),h3.mono e⟩
theorem Can.low {nds:List Nd} {d num:Nat} (h:num=0∨LeafAt nds num):Can nds d num:=by
 cases d with
 | zero=>exact h
 | succ d=>exact .inl h
theorem Can.kind {nds:List Nd} {d num:Nat} (h:Can nds d num) (h0:num≠0):LeafAt nds num∨∃ qs,nds[num]?=some (.fork qs):=by
 cases d with
 | zero=>exact .inl (h.resolve_left h0)
 | succ d =>
   rcases h with h | ⟨qs,h1,_⟩
   · exact .inl (h.resolve_left h0)
   · exact .inr ⟨qs,h1⟩
theorem PutR.ext {x:Str} {v:V} {nds nds':List Nd} {lev num num':Nat} (h:PutR x v nds lev num nds' num'):NEx nds nds':=by
 induction h with
 | leaf=>exact NEx.app _ _
 | fork _ _ _ _ _ ih=>exact ih.trans (NEx.app _ _)
theorem TakR.ext {x:Str} {nds nds':List Nd} {lev num num':Nat} (h:TakR x nds lev num nds' num'):NEx nds nds':=by
 induction h with
 | gone=>exact NEx.refl _
 | less=>exact NEx.app _ _
 | up _ _ _ _ _ ih=>exact ih
 | fork _ _ _ _ ih=>exact ih.trans (NEx.app _ _)
theorem Ug (nds:List Nd) (n:Nd):(nds++[n])[nds.length]?=some n:=by rw [List.getElem?_append_right (Nat.le_refl _),Nat.sub_self];rfl
theorem Zie {NS:List Str} {nds:List Nd} {F:Str→Option V} (h0:nds[0]?=some .bare):∀ {d lev r num:Nat},Tri NS nds F d lev r num→Can nds d num→r < 4 ^ lev→(∀ x∈NS,Yg x % 4 ^ lev=r→F x=none)→num=0:=by
 have e:∀ {lev r num:Nat},TriE NS nds F lev r num→(∀ x∈NS,Yg x % 4 ^ lev=r→F x=none)→num=0:=fun {lev r num} h hF=>by
   rcases h with ⟨z,_⟩ | ⟨m,ps,h1,G,hm,h4⟩
   · exact z
   · cases ps with
     | nil=>exact absurd rfl G.ne
     | cons p pr =>
       have h2:=G.sub p List.mem_cons_self
       have h3:Yg p.1 % 4 ^ lev=r:=by unfold Yg;rw [G.mrk p List.mem_cons_self];exact hm
       have h5:=hF p.1 h2 h3
       rw [h4 p.1 h2 h3,XJ,if_pos rfl] at h5
       cases h5
 intro d
 induction d with
 | zero=>intro lev r num h _ _ hF;exact e h hF
 | succ d ih =>
   intro lev r num h c hr hF
   rcases h with h | ⟨qs,h1,h2,h3⟩
   · exact e h hF
   · rcases c with (z | ⟨m,ps,z⟩) | ⟨qs',z1,z2,z3⟩
     · exact z
     · rw [h1] at z;cases z
     · rw [h1] at z1;cases z1
       have all0:∀ q∈qs,q=0:=fun q hq=>by
         obtain ⟨i,hi⟩:=List.mem_iff_getElem?.mp hq
         have hi4:i < 4:=by rw [← h2];exact (List.getElem?_eq_some_iff.mp hi).1
         exact ih (h3 i q hi) (z2 q hq) (YU hr hi4) fun x hx hxr=>hF x hx (YN hr hxr).1
       have hn:Yl qs=[]:=by
         cases e5:Yl qs with
         | nil=>rfl
         | cons z r =>
           have:=fil_mem.mp (show z∈Yl qs by rw [e5];exact List.mem_cons_self)
           exact absurd (all0 z this.1) this.2
       rcases z3 with z | ⟨q,qs2,z,_⟩
       · rw [hn] at z;simp at z
       · rw [hn] at z;cases z
theorem PutR.can {NS:List Str} {x:Str} {v:V} {nds nds':List Nd} {lev num num':Nat} (N:Ym NS) (hx:x∈NS) (h0:nds[0]?=some .bare) (h:PutR x v nds lev num nds' num'):∀ {d r:Nat} {F:Str→Option V},Tri NS nds F d lev r num→r < 4 ^ lev→lev+d=5→Yg x % 4 ^ lev=r→Can nds d num →
   Can nds' d num'∧num'≠0∧((num≠0∧∀ n,nds[num]?=some n→n.hasM (Zg x)=false)→∃ qs,nds'[num']?=some (.fork qs)):=by
 have hpos:0 < nds.length:=(List.getElem?_eq_some_iff.mp h0).1
 induction h with
 | @leaf lev num n qs hn hc hp hs =>
   intro d r F _ _ _ _ _
   refine ⟨Can.low (.inr ⟨_,_,Ug _ _⟩),by omega,fun ⟨z1,z2⟩=>?_⟩
   rcases hc with z | z
   · exact absurd z z1
   · rw [z2 n hn] at z;cases z
 | @fork nds1 lev num q1 num1 n hn hnz hm hq hr ih =>
   intro d r F tri hrl hlev hxr can
   have ex1:=hr.ext
   have hpos1:0 < nds1.length:=(List.getElem?_eq_some_iff.mp (ex1 _ _ h0)).1
   have hnb:n≠.bare:=fun z=>by rw [z] at hq;simp [Ye] at hq
   cases d with
   | zero =>
     have h5:lev=5:=by omega
     subst h5
     rw [ZcR N tri hn hnb hx hxr] at hm;cases hm
   | succ d =>
     obtain ⟨hf4,hft⟩:=ZcL N h0 hrl tri hn hnb
     have hq1m:q1∈Ye num lev n:=List.mem_of_getElem? hq
     have parts:(∀ q∈Ye num lev n,Can nds d q)∧((∃ m ps,n=.leaf m ps)∨∃ qs,n=.fork qs∧Big nds qs):=by
       cases n with
       | bare=>exact absurd rfl hnb
       | leaf m ps =>
         refine ⟨fun q hq=>?_,.inl ⟨m,ps,rfl⟩⟩
         obtain ⟨g,_,rfl⟩:=List.mem_map.mp hq
         split
         · exact Can.low (.inr ⟨m,ps,hn⟩)
         · exact Can.low (.inl rfl)
       | fork qs =>
         rcases can with (z | ⟨m,ps,z⟩) | ⟨qs',z1,z2,z3⟩
         · exact absurd z hnz
         · rw [hn] at z;cases z
         · rw [hn] at z1;cases z1
           exact ⟨z2,.inr ⟨qs,rfl,z3⟩⟩
     obtain ⟨c1,c2,c3⟩:=ih (hft _ _ hq) (YU hrl (YR _ _)) (by omega) (by rw [Xv,hxr,Ys (N.lo x hx)];rfl) (parts.1 q1 hq1m)
     have exA:NEx nds1 (nds1++[.fork ((Ye num lev n).set (Zr (Zg x) lev) num1)]):=NEx.app _ _
     have hdl:Zr (Zg x) lev < (Ye num lev n).length:=by rw [hf4];exact YR _ _
     have hin:num1∈(Ye num lev n).set (Zr (Zg x) lev) num1:=List.mem_set hdl _
     have hcnt:=Zbk (y:=num1) hq
     rw [if_neg c2] at hcnt
     refine ⟨.inr ⟨_,Ug _ _,fun q hq'=>?_,?_⟩,by omega,fun _=>⟨_,Ug _ _⟩⟩
     · rcases List.mem_or_eq_of_mem_set hq' with z | z
       · exact Can.mono (ex1.trans exA) (parts.1 q z)
       · rw [z];exact Can.mono exA c1
     · rcases parts.2 with ⟨m,ps,rfl⟩ | ⟨qs,rfl,big⟩
       · have hone:(Yl (Ye num lev (.leaf m ps))).length=1:=by
           have hd:=YR m lev
           show (Yl ([0,1,2,3].map fun g=>if g=Zr m lev then num else 0)).length=1
           have h4:Zr m lev=0∨Zr m lev=1∨Zr m lev=2∨Zr m lev=3:=by omega
           rcases h4 with z | z | z | z <;> (rw [z];simp [Yl,hnz])
         by_cases zq:q1=0
         · rw [if_pos zq] at hcnt
           exact .inl (by omega)
         · rw [if_neg zq] at hcnt
           have eq:Yl (Ye num lev (.leaf m ps))=[q1]:=Zbm hone hq1m zq
           have hnum:q1=num:=by
             obtain ⟨g,_,e⟩:=List.mem_map.mp hq1m
             split at e
             · exact e.symm
             · exact absurd e.symm zq
           obtain ⟨qs3,e3⟩:=c3 ⟨zq,fun n' hn'=>by rw [hnum,hn] at hn';cases hn';exact hm⟩
           exact .inr ⟨num1,qs3,Zbm (by omega) hin c2,exA _ _ e3⟩
       · by_cases zq:q1=0
         · rw [if_pos zq] at hcnt
           have:1≤(Yl qs).length:=by
             rcases big with z | ⟨q,qs2,z,_⟩
             · omega
             · rw [z];exact Nat.le_refl 1
           have hcnt':(Yl (qs.set (Zr (Zg x) lev) num1)).length+0=(Yl qs).length+1:=hcnt
           exact .inl (by show 2≤(Yl (qs.set (Zr (Zg x) lev) num1)).length;omega)
         · rw [if_neg zq] at hcnt
           have hcnt':(Yl (qs.set (Zr (Zg x) lev) num1)).length+1=(Yl qs).length+1:=hcnt
           rcases big with z | ⟨q,qs2,z,e2⟩
           · exact .inl (by show 2≤(Yl (qs.set (Zr (Zg x) lev) num1)).length;omega)
           · have hq1q:q1=q:=by
               have:q1∈Yl qs:=fil_mem.mpr ⟨hq1m,zq⟩
               rw [z] at this;exact List.mem_singleton.mp this
             obtain ⟨qs3,e3⟩:=c3 ⟨zq,fun n' hn'=>by rw [hq1q,e2] at hn';cases hn';rfl⟩
             have hl1:(Yl qs).length=1:=by rw [z];rfl
             exact .inr ⟨num1,qs3,Zbm (show (Yl (qs.set (Zr (Zg x) lev) num1)).length=1 by omega) hin c2,exA _ _ e3⟩
theorem TakR.can {x:Str} {nds nds':List Nd} {lev num num':Nat} (h0:nds[0]?=some .bare) (h:TakR x nds lev num nds' num'):∀ {d:Nat},Can nds d num→Can nds' d num'∧((∃ qs,nds[num]?=some (.fork qs))→num'≠0)∧num≠0:=by
 have nz:∀ {k:Nat} {n:Nd},nds[k]?=some n→n≠.bare→k≠0:=fun e hb z=>by rw [z,h0] at e;exact hb (Option.some.inj e).symm
 induction h with
 | @gone lev num ps hn hb =>
   intro d _
   exact ⟨Can.low (.inl rfl),(fun ⟨qs,z⟩=>by rw [hn] at z;cases z),nz hn (by intro z;cases z)⟩
 | @less lev num ps qs hn hb hp hs =>
   intro d _
   exact ⟨Can.low (.inr ⟨_,_,Ug _ _⟩),(fun ⟨qs,z⟩=>by rw [hn] at z;cases z),nz hn (by intro z;cases z)⟩
 | @up nds1 lev num q1 num1 q qs m ps hn hq hr hf hl ih =>
   intro d can
   have hq0:q≠0:=(fil_mem.mp (show q∈Yl (qs.set (Zr (Zg x) lev) num1) by unfold Yl;rw [hf];exact List.mem_cons_self)).2
   exact ⟨Can.low (.inr ⟨m,ps,hl⟩),fun _=>hq0,nz hn (by intro z;cases z)⟩
 | @fork nds1 lev num q1 num1 qs hn hq hr hf ih =>
   intro d can
   have hnz:=nz hn (by intro z;cases z)
   have ex1:=hr.ext
   have hpos1:0 < nds1.length:=(List.getElem?_eq_some_iff.mp (ex1 _ _ h0)).1
   have exA:NEx nds1 (nds1++[.fork (qs.set (Zr (Zg x) lev) num1)]):=NEx.app _ _
   refine ⟨?_,fun _=>by omega,hnz⟩
   cases d with
   | zero =>
     rcases can with z | ⟨m,ps,z⟩
     · exact absurd z hnz
     · rw [hn] at z;cases z
   | succ d =>
     rcases can with (z | ⟨m,ps,z⟩) | ⟨qs',z1,z2,big⟩
     · exact absurd z hnz
     · rw [hn] at z;cases z
     · rw [hn] at z1;cases z1
       have hq1m:q1∈qs:=List.mem_of_getElem? hq
       obtain ⟨c1,c2,c3⟩:=ih (z2 q1 hq1m)
       have hdl:Zr (Zg x) lev < qs.length:=(List.getElem?_eq_some_iff.mp hq).1
       have hcnt:=Zbk (y:=num1) hq
       rw [if_neg c3] at hcnt
       have allC:∀ q∈qs.set (Zr (Zg x) lev) num1,Can nds1 d q:=fun q hq'=>by
         rcases List.mem_or_eq_of_mem_set hq' with z | z
         · exact Can.mono ex1 (z2 q z)
         · rw [z];exact c1
       refine .inr ⟨_,Ug _ _,fun q hq'=>Can.mono exA (allC q hq'),?_⟩
       have one:∀ z,Yl (qs.set (Zr (Zg x) lev) num1)=[z]→Big (nds1++[.fork (qs.set (Zr (Zg x) lev) num1)]) (qs.set (Zr (Zg x) lev) num1):=fun z e=>by
         have hz:=fil_mem.mp (show z∈Yl (qs.set (Zr (Zg x) lev) num1) by rw [e];exact List.mem_cons_self)
         rcases (allC z hz.1).kind hz.2 with ⟨m,ps,y⟩ | ⟨qs3,y⟩
         · exact absurd y (hf z m ps e)
         · exact .inr ⟨z,qs3,e,exA _ _ y⟩
       have ge1:1≤(Yl (qs.set (Zr (Zg x) lev) num1)).length:=by
         by_cases z:num1=0
         · rw [if_pos z] at hcnt
           rcases big with y | ⟨q,qs2,y,e2⟩
           · omega
           · have hq1q:q1=q:=by
               have:q1∈Yl qs:=fil_mem.mpr ⟨hq1m,c3⟩
               rw [y] at this;exact List.mem_singleton.mp this
             exact absurd z (c2 ⟨qs2,by rw [hq1q];exact e2⟩)
         · have:num1∈Yl (qs.set (Zr (Zg x) lev) num1):=fil_mem.mpr ⟨List.mem_set hdl _,z⟩
           exact List.length_pos_of_mem this
       match e:Yl (qs.set (Zr (Zg x) lev) num1),ge1 with
       | [z],_=>exact one z e
       | _::_::_,_=>exact .inl (by rw [e];simp)
end K20
set_option maxHeartbeats 4000000
namespace K20
open PySem L2
section
variable {P:Program} {w:World} {K:PySem.W.Frag} {mg:Str→Option Value} {base:Heap} {C Pl:Addr} {NS:List Str}
abbrev Xn:YL:=Zis YG Xt
def ZcO (K:PySem.W.Frag) (C Pl:Addr):Sp:=fun vs H Q _=>∃ (NS:List Str) (st:Addr) (nds:List Nd) (tabs:List (Zj×V)) (t:Nat) (x:Str) (v:V) (F:Str→Option V) (Δ:Rs),Ym NS∧vs=[.ref st,iN t,.str x,v]∧Sep ((st,WR K C nds tabs)::(Pl,Xn)::Δ) H∧(ZJ tabs (Sum.inl (t:Int))).isSome=true∧Tri NS nds F 5 0 0 t∧x∈NS∧ValV v∧(∀ u,F x=some u→ValV u)∧nds.length+6≤100000∧tabs.length≤100000 ∧
 ∀ (H':Hp) (nds':List Nd) (tabs':List (Zj×V)) (t':Nat),Sep ((st,WR K C nds' tabs')::(Pl,Xn)::Δ) H'→NEx nds nds'→nds'.length≤nds.length+6→tabs'.length≤tabs.length+1→(∀ k,(ZJ tabs k).isSome=true→(ZJ tabs' k).isSome=true)→(ZJ tabs' (Sum.inl (t':Int))).isSome=true→Tri NS nds' (upF F x v) 5 0 0 t'→((F x=some v∧t'=t∧nds'=nds∧tabs'=tabs)∨(F x≠some v∧PutR x v nds 0 t nds' t'∧tabs'=Yp tabs (Sum.inl (t':Int)) (.bl true)))→Q (iN t') H'
def Zfs (K:PySem.W.Frag) (C Pl:Addr):Sp:=fun vs H Q _=>∃ (NS:List Str) (st:Addr) (nds:List Nd) (tabs:List (Zj×V)) (t:Nat) (x:Str) (F:Str→Option V) (Δ:Rs),Ym NS∧vs=[.ref st,iN t,.str x]∧Sep ((st,WR K C nds tabs)::(Pl,Xn)::Δ) H∧(ZJ tabs (Sum.inl (t:Int))).isSome=true∧Tri NS nds F 5 0 0 t∧x∈NS∧(∀ u,F x=some u→ValV u)∧nds.length+6≤100000∧tabs.length≤100000 ∧
 ∀ (H':Hp) (nds':List Nd) (tabs':List (Zj×V)) (t':Nat),Sep ((st,WR K C nds' tabs')::(Pl,Xn)::Δ) H'→NEx nds nds'→nds'.length≤nds.length+6→tabs'.length≤tabs.length+1→(∀ k,(ZJ tabs k).isSome=true→(ZJ tabs' k).isSome=true)→(ZJ tabs' (Sum.inl (t':Int))).isSome=true→Tri NS nds' (VA F x) 5 0 0 t'→((F x=none∧t'=t∧nds'=nds∧tabs'=tabs)∨(F x≠none∧TakR x nds 0 t nds' t'∧tabs'=Yp tabs (Sum.inl (t':Int)) (.bl true)))→Q (iN t') H'
theorem Zmv {f:Addr} {fd:FuncData} {k:Nat} {ps:List Str} (h:∀ NS,Ym NS→FnOk P w K mg base ZH k f fd ps (ZiP K C Pl NS)):FnOk P w K mg base ZH k f fd ps (ZcO K C Pl) :=
 (FnOk.ex h).conv fun vs H Q E ⟨NS,st,nds,tabs,t,x,v,F,Δ,N,e,S,h1,h2,h3,h4,h5,h6,h7,q⟩=>by
   obtain ⟨ln,dt,SA,b0,L,back⟩:=S.stoLam
   exact ⟨NS,N,st,ln,dt,nds,tabs,t,x,v,F,e,SA,b0,h1,h2,h3,h4,h5,h6,h7,L,fun H' nds' tabs' t' S' ext len tl mono tok tri rel L' kq tf=>q H' nds' tabs' t' (back H' nds' tabs' S' (ext _ _ b0) L' kq) ext len tl mono tok tri rel⟩
theorem wo_S {f:Addr} {fd:FuncData} {k:Nat} {ps:List Str} (h:∀ NS,Ym NS→FnOk P w K mg base ZH k f fd ps (spWo K C Pl NS)):FnOk P w K mg base ZH k f fd ps (Zfs K C Pl) :=
 (FnOk.ex h).conv fun vs H Q E ⟨NS,st,nds,tabs,t,x,F,Δ,N,e,S,h1,h2,h3,h4,h5,h6,q⟩=>by
   obtain ⟨ln,dt,SA,b0,L,back⟩:=S.stoLam
   exact ⟨NS,N,st,ln,dt,nds,tabs,t,x,F,e,SA,b0,h1,h2,h3,h4,h5,h6,L,fun H' nds' tabs' t' S' ext len tl mono tok tri rel L' kq tf=>q H' nds' tabs' t' (back H' nds' tabs' S' (ext _ _ b0) L' kq) ext len tl mono tok tri rel⟩
def Zbi (K:PySem.W.Frag) (C:Addr):Sp:=fun vs H Q _=>∃ (p dx:Addr) (H0:Hp) (Δ:Rs),vs=[.ref p]∧H=upd (upd H0 dx (.own p)) p (.ins C dx [])∧H0 p=none∧H0 dx=none∧dx≠p∧Sep Δ H0∧∀ H',Same H0 H'→Sep ((p,WR K C [.bare] [(Sum.inl 0,.bl true)])::Δ) H'→Q .non H'
theorem Zku {vs:List V} {H:Hp} {Q:VK} {E:XK} (h:Zbi K C vs H Q E):ZfL K C vs H Q E:=by
 obtain ⟨p,dx,H0,Δ,e,rfl,h1,h2,h3,S,q⟩:=h
 refine ⟨p,dx,e,Zh,fun ln dt H' hln hdt SA kq=>?_⟩
 have sH:Same H0 (upd (upd H0 dx (.own p)) p (.ins C dx [])):=(ZB h2 _).trans (ZB (by rw [Zk h3.symm];exact h1) _)
 have s0:Same H0 H':=fun b o e=>kq b o (by simp only [List.mem_singleton];exact Zt e h1) (sH b o e)
 refine q H' s0 ?_
 have n1:=ZbE sH hln
 have n2:=ZbE sH hdt
 obtain ⟨dx',ob⟩:=SA.ob
 obtain ⟨as,nl,nlen,nod⟩:=SA.nl
 refine ⟨some_of H' [p,ln,dt],Ww,⟨rfl,ln,dt,⟨⟨dx',by rw [XG (by simp)];exact ob⟩,⟨as,by rw [XG (by simp)];exact nl,nlen,fun i a n e1 e2=>(nod i a n e1 e2).tf Zeg⟩,by rw [XG (by simp)];exact SA.tb⟩⟩,S.mono fun b o e=>cut_some.mpr ⟨s0 _ _ e,fun u z=>?_⟩⟩
 cases m:YD u with
 | false=>rfl
 | true =>
   have:=XZ z m
   simp only [List.mem_cons,List.not_mem_nil,or_false] at this
   rcases this with z | z | z
   · exact absurd z (Zt e h1)
   · exact absurd z (Zt e n1)
   · exact absurd z (Zt e n2)
def Zdh (K:PySem.W.Frag) (C:Addr):Sp:=fun vs H Q _=>∃ (st:Addr) (nds:List Nd) (tabs:List (Zj×V)),vs=[.ref st]∧WR K C nds tabs st H∧Q (.int (nds.length:Int)) H
theorem scMd:Zs ["self"] ["self"] (Zl c_Store_made):=⟨rfl,rfl,rfl,by decide +kernel,rfl,by decide +kernel,by decide +kernel⟩
theorem Zkq {f:Addr} {fd:FuncData} (F:Fun K "made" "Store.made" c_Store_made f fd) (T:Txt K mg) (TC:Xm K C):FnOk P w K mg base ZH 1 f fd ["self"] (Zdh K C):=by
 refine F.ok scMd (fun vs H Q E h=>?_) (fun cdv A outer s H vs Q E hr h=>?_)
 · obtain ⟨st,nds,tabs,rfl,_⟩:=h;rfl
 obtain ⟨st,nds,tabs,rfl,⟨b0,ln,dt,⟨⟨dx,ob⟩,⟨as,nl,hl,hn⟩,tb⟩⟩,q⟩:=h
 refine ⟨_,Zi (Zp (Zw ZG rfl T.len PySem.boot_len (Zc (ZU (pv 0) rfl) Za))),?_⟩
 refine ⟨_,rfl,st,C,dx,_,_,rfl,ob,TC.cl,TC.nN,XA ln dt,ln,_,rfl,.inl (SqL.of nl),?_⟩
 rw [List.length_map,hl];exact q
def Zeq (K:PySem.W.Frag) (C:Addr):Sp:=fun vs H Q _=>∃ v,vs=[v]∧Q (.int 0) H
theorem scEm:Zs ["self"] ["self"] (Zl c_Store_empty):=⟨rfl,rfl,rfl,by decide +kernel,rfl,by decide +kernel,by decide +kernel⟩
theorem Zhg {f:Addr} {fd:FuncData} (F:Fun K "empty" "Store.empty" c_Store_empty f fd) (T:Txt K mg):FnOk P w K mg base ZH 1 f fd ["self"] (Zeq K C):=by
 refine F.ok scEm (fun vs H Q E h=>?_) (fun cdv A outer s H vs Q E hr h=>?_)
 · obtain ⟨v,rfl,_⟩:=h;rfl
 obtain ⟨v,rfl,q⟩:=h
 obtain ⟨tz,hz⟩:=T.zero
 exact ⟨_,Zi (Zp (Xk rfl hz (v:=.int 0) ⟨_,rfl⟩)),q⟩
end
end K20
set_option maxHeartbeats 2000000
namespace L2
open PySem
structure ZK where
 ah:Nat
 st:Stp
 tb:Nat
 co:Nat
def Us (ss:List Stp):YL:=fun l h=>∃ as:List Addr,h l=some (.lst (V.non::as.map V.ref))∧as.length=ss.length∧∀ (i:Nat) (a:Addr) (s:Stp),as[i]?=some a→ss[i]?=some s→h a=some (.tup s.vs)
instance {ss:List Stp}:Up (Us ss):=⟨fun ⟨as,e,l,h⟩ s=>⟨as,s _ _ e,l,fun i a x e1 e2=>s _ _ (h i a x e1 e2)⟩⟩
abbrev WO (st la ls lt lc:Addr):List (Str×V):=[("kept",.ref st),("aheads",.ref la),("steps",.ref ls),("tables",.ref lt),("costs",.ref lc)]
abbrev Zhq (K:PySem.W.Frag) (CR CS:Addr) (pls:List ZK) (nds:List Nd) (tabs:List (Zj×V)) (r st la ls lt lc:Addr):Rs :=
 [(r,VE CR (WO st la ls lt lc)),(st,WR K CS nds tabs),(la,ZI (V.non::pls.map fun q=>V.int (q.ah:Int))),(ls,Us (pls.map (·.st))),(lt,ZI (V.int 0::pls.map fun q=>V.int (q.tb:Int))),(lc,ZI (V.int 0::pls.map fun q=>V.int (q.co:Int)))]
def Uq (K:PySem.W.Frag) (CR CS:Addr) (pls:List ZK) (nds:List Nd) (tabs:List (Zj×V)):YL:=fun r h=>∃ st la ls lt lc,Sep (Zhq K CR CS pls nds tabs r st la ls lt lc) h
instance {K:PySem.W.Frag} {CR CS:Addr} {pls:List ZK} {nds:List Nd} {tabs:List (Zj×V)}:Up (Uq K CR CS pls nds tabs):=⟨fun ⟨st,la,ls,lt,lc,S⟩ s=>⟨st,la,ls,lt,lc,S.mono s⟩⟩
theorem Sep.roaO {K:PySem.W.Frag} {CR CS r:Addr} {pls:List ZK} {nds:List Nd} {tabs:List (Zj×V)} {Δ:Rs} {H:Hp} (S:Sep ((r,Uq K CR CS pls nds tabs)::Δ) H):∃ st la ls lt lc,Sep ((r,VE CR (WO st la ls lt lc))::(st,WR K CS nds tabs)::(la,ZI (V.non::pls.map fun q=>V.int (q.ah:Int)))::(ls,Us (pls.map (·.st)))::(lt,ZI (V.int 0::pls.map fun q=>V.int (q.tb:Int)))::(lc,ZI (V.int 0::pls.map fun q=>V.int (q.co:Int)))::Δ) H:=by
 obtain ⟨h,l,⟨st,la,ls,lt,lc,G⟩,S⟩:=S
 exact ⟨st,la,ls,lt,lc,Sep.nest (a:=r) (Γ:=Zhq K CR CS pls nds tabs r st la ls lt lc) l G S⟩
theorem Sep.roaC {K:PySem.W.Frag} {CR CS r st la ls lt lc:Addr} {pls:List ZK} {nds:List Nd} {tabs:List (Zj×V)} {Δ:Rs} {H:Hp} (S:Sep ((r,VE CR (WO st la ls lt lc))::(st,WR K CS nds tabs)::(la,ZI (V.non::pls.map fun q=>V.int (q.ah:Int)))::(ls,Us (pls.map (·.st)))::(lt,ZI (V.int 0::pls.map fun q=>V.int (q.tb:Int)))::(lc,ZI (V.int 0::pls.map fun q=>V.int (q.co:Int)))::Δ) H):Sep ((r,Uq K CR CS pls nds tabs)::Δ) H :=
 Sep.pack (Γ:=Zhq K CR CS pls nds tabs r st la ls lt lc) S fun h G=>⟨st,la,ls,lt,lc,G⟩
theorem Sep.imm {Δ:Rs} {H:Hp} {a:Addr} {o:HO} (S:Sep Δ H) (e:H a=some o) (m:YD o=false):Sep ((a,Pt o)::Δ) H:=by
 refine ⟨one a o,fun b u q=>?_,one_some.mpr ⟨rfl,rfl⟩,S.mono fun b u q=>cut_some.mpr ⟨q,fun v z=>?_⟩⟩
 · obtain ⟨rfl,rfl⟩:=one_some.mp q;exact e
 · obtain ⟨rfl,rfl⟩:=one_some.mp z;exact m
theorem Sep.updR {Δ Δ':Rs} {H:Hp} {R T:YL} (S:Sep Δ H) (a:Addr) (o':HO) [P:Pull a Δ R Δ'] (m:∀ h,R a h→∃ o,h a=some o∧YD o=true)
   (f:∀ h,R a h→Same h H→∀ h',h' a=some o'→(∀ b o,b≠a→h b=some o→h' b=some o)→(∀ b o,b≠a→H b=some o→YD o=false→h' b=some o)→T a h'):Sep ((a,T)::Δ') (upd H a o'):=by
 obtain ⟨h,l,r,S⟩:=P.out S
 obtain ⟨o,ea,ma⟩:=m h r
 refine ⟨fun b=>if b=a then some o' else match h b with | some u=>some u | none=>some_of H [] b,fun b u e=>?_,f h r l _ (if_pos rfl) (fun b u nb e=>?_) (fun b u nb e mu=>?_),S.mono fun b u e=>?_⟩
 · dsimp only at e
   by_cases hb:b=a
   · rw [if_pos hb] at e;cases e;rw [hb];exact Zh
   · rw [if_neg hb] at e
     rw [Zk hb]
     cases q:h b with
     | some z=>rw [q] at e;cases e;exact l _ _ q
     | none=>rw [q] at e;exact Ww _ _ e
 · rw [if_neg nb,e]
 · rw [if_neg nb]
   cases q:h b with
   | some z=>have:=l _ _ q;rw [e] at this;cases this;rfl
   | none=>exact WZ e mu
 · obtain ⟨e1,e2⟩:=cut_some.mp e
   have hb:b≠a:=fun z=>by have:=e2 o (by rw [z];exact ea);rw [ma] at this;cases this
   refine cut_some.mpr ⟨by rw [Zk hb];exact e1,fun v q=>?_⟩
   simp only [if_neg hb] at q
   cases z:h b with
   | some x=>rw [z] at q;cases q;exact e2 _ z
   | none =>
     rw [z] at q
     cases mm:YD v with
     | false=>rfl
     | true=>have:=XZ q mm;cases this
theorem Sep.stepApp {Δ Δ':Rs} {H:Hp} {ss:List Stp} {s:Stp} {sa:Addr} {as:List Addr} (S:Sep Δ H) (l:Addr) [P:Pull l Δ (Us ss) Δ'] (e:H l=some (.lst (V.non::as.map V.ref))) (es:H sa=some (.tup s.vs)):Sep ((l,Us (ss++[s]))::Δ') (upd H l (.lst (V.non::as.map V.ref++[V.ref sa]))):=by
 refine S.updR l _ (fun h ⟨as,e,_⟩=>⟨_,e,rfl⟩) fun h r l' h' e1 e2 e3=>?_
 obtain ⟨as',e4,hl,hs⟩:=r
 have e5:=l' _ _ e4
 rw [e] at e5
 have e6:as.map V.ref=as'.map V.ref:=(List.cons.inj (HO.lst.inj (Option.some.inj e5))).2
 refine ⟨as'++[sa],?_,by rw [List.length_append,List.length_append,hl];rfl,fun i a x q1 q2=>?_⟩
 · rw [e1,List.map_append,e6];rfl
 · have nsa:sa≠l:=fun z=>by rw [z,e] at es;cases es
   by_cases hi:i < as'.length
   · rw [List.getElem?_append_left hi] at q1
     rw [List.getElem?_append_left (by omega)] at q2
     have q3:=hs i a x q1 q2
     exact e2 _ _ (fun z=>by rw [z,e4] at q3;cases q3) q3
   · rw [List.getElem?_append_right (by omega)] at q1 q2
     have h0:i - as'.length=0:=by
       cases z:i - as'.length with
       | zero=>rfl
       | succ j=>rw [z] at q1;simp at q1
     rw [h0] at q1
     rw [show i - ss.length=0 by omega] at q2
     cases (show some sa=some a from q1)
     cases (show some s=some x from q2)
     exact e3 _ _ nsa es rfl
def Stp.ap:Stp→(Str→Option V)→(Str→Option V)
 | .set x v,F=>fun y=>if y=x then some v else F y
 | .clr x,F=>fun y=>if y=x then none else F y
def envs (pls:List ZK):List (Str→Option V):=pls.foldl (fun es q=>es++[q.st.ap (es.getD q.ah fun _=>none)]) [fun _=>none]
theorem Xp (pls:List ZK) (q:ZK):envs (pls++[q])=envs pls++[q.st.ap ((envs pls).getD q.ah fun _=>none)]:=by
 unfold envs;rw [List.foldl_append];rfl
theorem Zbl {α:Type} {P:List α→Prop} (h0:P []) (hs:∀ l a,P l→P (l++[a])):∀ l,P l:=by
 have key:∀ n (l:List α),l.length=n→P l:=by
   intro n
   induction n with
   | zero=>intro l h;rw [List.eq_nil_of_length_eq_zero h];exact h0
   | succ n ih =>
     intro l h
     have hne:l≠[]:=fun z=>by rw [z] at h;cases h
     rw [← List.dropLast_concat_getLast hne]
     exact hs _ _ (ih _ (by rw [List.length_dropLast];omega))
 exact fun l=>key _ l rfl
theorem YV (pls:List ZK):(envs pls).length=pls.length+1:=by
 induction pls using Zbl with
 | h0=>rfl
 | hs l q ih=>rw [Xp,List.length_append,ih,List.length_append];rfl
end L2
set_option maxHeartbeats 4000000
namespace K20
open PySem L2
structure WI (K:PySem.W.Frag) (CR:Addr):Prop where
 cl:Cls K CR
 nk:NoAttr K CR "kept"
 na:NoAttr K CR "aheads"
 ns:NoAttr K CR "steps"
 nt:NoAttr K CR "tables"
 nc:NoAttr K CR "costs"
section
variable {P:Program} {w:World} {K:PySem.W.Frag} {mg:Str→Option Value} {base:Heap} {CR CS Pl:Addr} {NS:List Str}
theorem Zbg {st la ls lt lc:Addr}:(WO st la ls lt lc).lookup ("kept":Str)=some (V.ref st):=rfl
theorem ZcS {st la ls lt lc:Addr}:(WO st la ls lt lc).lookup ("aheads":Str)=some (V.ref la):=rfl
theorem rf_s {st la ls lt lc:Addr}:(WO st la ls lt lc).lookup ("steps":Str)=some (V.ref ls):=rfl
theorem Zio {st la ls lt lc:Addr}:(WO st la ls lt lc).lookup ("tables":Str)=some (V.ref lt):=rfl
theorem ZiE {st la ls lt lc:Addr}:(WO st la ls lt lc).lookup ("costs":Str)=some (V.ref lc):=rfl
theorem Wf {st la ls lt lc:Addr} {m:Str} (h:[("kept":Str),"aheads","steps","tables","costs"].all (fun k=>!(m == k))=true):(WO st la ls lt lc).lookup m=none:=by
 simp only [List.all_cons,List.all_nil,Bool.and_true,Bool.and_eq_true,Bool.not_eq_true'] at h
 obtain ⟨h1,h2,h3,h4,h5⟩:=h
 simp [WO,List.lookup,h1,h2,h3,h4,h5]
abbrev RdR (K:PySem.W.Frag) (CR CS:Addr) (r:Addr) (pls:List ZK) (nds:List Nd) (tabs:List (Zj×V)) (H:Hp):Prop:=Uq K CR CS pls nds tabs r H
def ZeT (K:PySem.W.Frag) (CR CS:Addr):Sp:=fun vs H Q _=>∃ (r:Addr) (pls:List ZK) (nds:List Nd) (tabs:List (Zj×V)) (k:Nat),vs=[.ref r,.int (k:Int)]∧RdR K CR CS r pls nds tabs H∧k≤pls.length∧Q .non H
abbrev nRCk:List Str:=["self","place"]
abbrev ZbX:List Str:=["self","place"]
theorem ZlX:Zs nRCk ZbX (Zl c_Roads_check_place):=⟨rfl,rfl,rfl,by decide +kernel,rfl,by decide +kernel,by decide +kernel⟩
theorem Zjw {f:Addr} {fd:FuncData} (F:Fun K "check_place" "Roads.check_place" c_Roads_check_place f fd) (T:YB mg) (TR:WI K CR):FnOk P w K mg base ZH 1 f fd ZbX (ZeT K CR CS):=by
 refine F.ok ZlX (fun vs H Q E h=>?_) (fun cdv A outer s H vs Q E hr h=>?_)
 · obtain ⟨r,pls,nds,tabs,k,rfl,_⟩:=h;rfl
 obtain ⟨r,pls,nds,tabs,k,rfl,⟨st,la,ls,lt,lc,S⟩,hk,q⟩:=h
 obtain ⟨dx,ob⟩:=S.get r
 refine' ⟨?t,?h,?r⟩
 case h =>
   conv=>arg 2;whnf
   with_reducible refine' (Zi (Yk ?h1 (Zi Zjh) ZW))
   case h1=>exact Zcp (ZgZ Zmh Vq Zb (pv 1) (Zw ZG rfl T.len PySem.boot_len (Zc (ZU (pv 0) rfl) Za)))
 refine ⟨_,rfl,_,_,rfl,rfl,_,rfl,?_⟩
 rw [decide_eq_true (show (0:Int)≤(k:Int) by omega)]
 refine Yh ⟨_,rfl,r,CR,dx,_,_,rfl,ob,TR.cl,TR.na,ZcS,la,_,rfl,.inl (SqL.of (S.get la)),_,_,rfl,rfl,_,rfl,?_⟩
 rw [decide_eq_true (show (k:Int) < (((V.non::pls.map fun q=>V.int (q.ah:Int)).length:Nat):Int) by rw [List.length_cons,List.length_map];omega)]
 exact ZM q
def ahV (pls:List ZK):Nat→V
 | 0=>.non
 | k+1=>.int (((pls.getD k ⟨0,.clr "",0,0⟩).ah:Nat):Int)
end
end K20
set_option maxHeartbeats 4000000
namespace K20
open PySem L2
def bk (pls:List ZK):Nat→Nat→List Nat
 | 0,_=>[]
 | _+1,0=>[0]
 | f+1,k+1=>(k+1)::bk pls f (pls.getD k ⟨0,.clr "",0,0⟩).ah
def WfP (pls:List ZK):Prop:=∀ (k:Nat) (q:ZK),pls[k]?=some q→q.ah≤k
theorem WfP.at {pls:List ZK} (h:WfP pls) {k:Nat} (hk:k < pls.length):(pls.getD k ⟨0,.clr "",0,0⟩).ah≤k:=by
 have e:=List.getElem?_eq_getElem hk
 rw [List.getD_eq_getElem?_getD,e]
 exact h k _ e
theorem ZfQ (pls:List ZK):∀ f k,(bk pls f k).length≤f
 | 0,_=>Nat.le_refl _
 | f+1,0=>by show 1≤f+1;omega
 | f+1,k+1=>by show (bk pls f _).length+1≤f+1;have:=ZfQ pls f (pls.getD k ⟨0,.clr "",0,0⟩).ah;omega
theorem ZdP {pls:List ZK} (h:WfP pls):∀ k,k≤pls.length→∀ f,k+1≤f→bk pls f k=bk pls (k+1) k:=by
 intro k
 induction k using Nat.strongRecOn with
 | ind k ih =>
   intro hk f hf
   cases k with
   | zero=>obtain ⟨g,rfl⟩:∃ g,f=g+1:=⟨f - 1,by omega⟩;rfl
   | succ k =>
     obtain ⟨g,rfl⟩:∃ g,f=g+1:=⟨f - 1,by omega⟩
     have ha:=h.at (show k < pls.length by omega)
     show (k+1)::bk pls g _=(k+1)::bk pls (k+1) _
     rw [ih _ (by omega) (by omega) g (by omega),ih _ (by omega) (by omega) (k+1) (by omega)]
section
variable {P:Program} {w:World} {K:PySem.W.Frag} {mg:Str→Option Value} {base:Heap} {CR CS Pl:Addr} {NS:List Str}
def StV (pls:List ZK) (k:Nat) (v:V) (H:Hp):Prop:=match k with
 | 0=>v=.non
 | k+1=>∃ a s,v=.ref a∧(pls.map (·.st))[k]?=some s∧H a=some (.tup s.vs)
def tbN (pls:List ZK):Nat→Nat
 | 0=>0
 | k+1=>(pls.getD k ⟨0,.clr "",0,0⟩).tb
theorem Ud {pls:List ZK} {k:Nat} (h:k≤pls.length):(0::pls.map (·.tb))[k]?=some (tbN pls k):=by
 cases k with
 | zero=>rfl
 | succ k =>
   rw [List.getElem?_cons_succ,List.getElem?_map,List.getElem?_eq_getElem (show k < pls.length by omega)]
   show some _=some (pls.getD k ⟨0,.clr "",0,0⟩).tb
   rw [List.getD_eq_getElem?_getD,List.getElem?_eq_getElem (show k < pls.length by omega)]
   rfl
theorem Zlq {pls:List ZK} {k:Nat} (h:k≤pls.length):(V.int 0::pls.map fun q=>V.int (q.tb:Int))[k]?=some (.int (tbN pls k:Int)):=by
 have e:(V.int 0::pls.map fun q=>V.int (q.tb:Int))=(0::pls.map (·.tb)).map fun n:Nat=>V.int (n:Int):=by rw [List.map_cons,List.map_map];rfl
 rw [e,List.getElem?_map,Ud h];rfl
def ZdB (K:PySem.W.Frag) (CR CS:Addr):Sp:=fun vs H Q _=>∃ (r:Addr) (pls:List ZK) (nds:List Nd) (tabs:List (Zj×V)) (k:Nat),vs=[.ref r,.int (k:Int)]∧RdR K CR CS r pls nds tabs H∧k≤pls.length∧Q (.int (tbN pls k:Int)) H
abbrev nRTa:List Str:=["self","place"]
abbrev Zfc:List Str:=["self","place"]
theorem Zml:Zs nRTa Zfc (Zl c_Roads_table):=⟨rfl,rfl,rfl,by decide +kernel,rfl,by decide +kernel,by decide +kernel⟩
theorem Zib {f:Addr} {fd:FuncData} (F:Fun K "table" "Roads.table" c_Roads_table f fd) (T:YB mg) (TR:WI K CR) (DR_check_place:DefM P w K mg base 1 CR "check_place" ZbX (ZeT K CR CS)):FnOk P w K mg base ZH 2 f fd Zfc (ZdB K CR CS):=by
 refine F.ok Zml (fun vs H Q E h=>?_) (fun cdv A outer s H vs Q E hr h=>?_)
 · obtain ⟨r,pls,nds,tabs,k,rfl,_⟩:=h;rfl
 obtain ⟨r,pls,nds,tabs,k,rfl,R,hk,q⟩:=h
 obtain ⟨st,la,ls,lt,lc,S⟩:=id R
 obtain ⟨dx,ob⟩:=S.get r
 refine' ⟨?t,?h,?r⟩
 case h =>
   conv=>arg 2;whnf
   with_reducible refine' (Zd ?h1 (Zi ?h2))
   case h1=>exact YC (Yy DR_check_place TR.cl hr (pv 0) (Zc (pv 1) Za))
   case h2=>exact Zp (Zo Zy (ZU (pv 0) rfl) (pv 1) (fun _ _=>rfl))
 refine ⟨_,rfl,r,dx,_,rfl,ob,Wf (by decide +kernel),_,rfl,r,pls,nds,tabs,k,rfl,R,hk,?_⟩
 exact ⟨_,rfl,r,CR,dx,_,_,rfl,ob,TR.cl,TR.nt,Zio,_,rfl,lt,_,_,_,rfl,rfl,SqL.of (S.get lt),Zv (Zlq hk),q⟩
def rd (pls:List ZK) (k:Nat):List Nat:=(bk pls (k+1) k).reverse
def nV (n:Nat):V:=.int (n:Int)
end
end K20
set_option maxHeartbeats 4000000
namespace K20
open PySem L2
inductive Way (nds:List Nd) (m:Int):Nat→Nat→List Nat→Prop
 | stop {lev num:Nat} {n:Nd}:nds[num]?=some n→(∀ qs,n≠.fork qs)→Way nds m lev num [num]
 | go {lev num q:Nat} {qs ws:List Nat}:nds[num]?=some (.fork qs)→qs[Zr m lev]?=some q→Way nds m (lev+1) q ws→Way nds m lev num (num::ws)
theorem Way.mono {nds nds':List Nd} {m:Int} {lev num:Nat} {ws:List Nat} (e:NEx nds nds') (h:Way nds m lev num ws):Way nds' m lev num ws:=by
 induction h with
 | stop h1 h2=>exact .stop (e _ _ h1) h2
 | go h1 h2 _ ih=>exact .go (e _ _ h1) h2 ih
theorem Way.ne {nds:List Nd} {m:Int} {lev num:Nat} {ws:List Nat} (h:Way nds m lev num ws):ws≠[]:=by
 cases h <;> exact List.cons_ne_nil _ _
theorem Way.at {nds:List Nd} {m:Int} {lev num:Nat} {ws:List Nat} {n:Nd} (h:Way nds m lev num ws) (e:nds[num]?=some n) (hn:∀ qs,n≠.fork qs):ws=[num]:=by
 cases h with
 | stop=>rfl
 | go h1=>rw [e] at h1;cases h1;exact absurd rfl (hn _)
theorem Way.fork {nds:List Nd} {m:Int} {lev num q:Nat} {qs ws:List Nat} (h:Way nds m lev num ws) (e:nds[num]?=some (.fork qs)) (hq:qs[Zr m lev]?=some q):∃ ws1,ws=num::ws1∧Way nds m (lev+1) q ws1:=by
 cases h with
 | stop h1 h2=>rw [e] at h1;cases h1;exact absurd rfl (h2 _)
 | go h1 h2 h3=>rw [e] at h1;cases h1;rw [hq] at h2;cases h2;exact ⟨_,rfl,h3⟩
theorem ZcD {nds:List Nd} {m:Int}:∀ {f lev num:Nat} {ws:List Nat},YI nds m f lev num=some ws→Way nds m lev num ws
 | 0,_,_,_,h=>by cases h
 | f + 1,lev,num,ws,h=>by
   unfold YI at h
   cases e:nds[num]? with
   | none=>rw [e] at h;cases h
   | some n =>
     rw [e] at h
     cases n with
     | fork qs =>
       have h':((qs[Zr m lev]?).bind fun q=>(YI nds m f (lev+1) q).map (num::·))=some ws:=h
       cases e2:qs[Zr m lev]? with
       | none=>rw [e2] at h';cases h'
       | some q =>
         rw [e2] at h'
         have h2:(YI nds m f (lev+1) q).map (num::·)=some ws:=h'
         cases e3:YI nds m f (lev+1) q with
         | none=>rw [e3] at h2;cases h2
         | some w1 =>
           rw [e3] at h2
           cases (show some (num::w1)=some ws from h2)
           exact .go e e2 (ZcD e3)
     | bare=>cases (show some [num]=some ws from h);exact .stop e (fun qs z=>by cases z)
     | leaf m' ps=>cases (show some [num]=some ws from h);exact .stop e (fun qs z=>by cases z)
def WY (ps:List Nat) (d:Nat):List Nat:=ps.take d++ps.drop (d+1)
theorem ZhK (ps:List Nat) (d v:Nat):WY (ps.set d v) d=WY ps d:=by
 unfold WY
 rw [List.take_set_of_le (Nat.le_refl _),List.drop_set_of_lt (Nat.lt_succ_self _)]
def OffW (nds:List Nd) (s lev:Nat) (m:Int) (ow:List Nat):Prop :=
 nds[s]?=some (.fork ow)∨∃ m' ps,nds[s]?=some (.leaf m' ps)∧ow=if Zr m' lev=Zr m lev then [0,0,0,0] else [0,0,0,0].set (Zr m' lev) s
theorem ZiG {num lev:Nat} {m m':Int} {ps:List (Str×V)}:WY (Ye num lev (.leaf m' ps)) (Zr m lev)=WY (if Zr m' lev=Zr m lev then [0,0,0,0] else [0,0,0,0].set (Zr m' lev) num) (Zr m lev):=by
 have h1:=YR m lev
 have h2:=YR m' lev
 show WY ([0,1,2,3].map fun g=>if g=Zr m' lev then num else 0) (Zr m lev)=_
 generalize Zr m lev=a at *
 generalize Zr m' lev=b at *
 have ha:a=0∨a=1∨a=2∨a=3:=by omega
 have hb:b=0∨b=1∨b=2∨b=3:=by omega
 rcases ha with rfl | rfl | rfl | rfl <;> rcases hb with rfl | rfl | rfl | rfl <;> rfl
def Md (x:Str) (nds nds':List Nd) (lev num':Nat) (os:List Nat):Prop:=∃ (ws:List Nat) (e:Nat) (n:Nd),Way nds' (Zg x) lev num' (ws++[e])∧nds'[e]?=some n∧(∀ qs,n≠.fork qs) ∧
 ws++(if n.hasM (Zg x)=true then [e] else [])=(List.range' nds.length (nds'.length - nds.length)).reverse∧nds.length≤nds'.length ∧
 ∀ (i w:Nat),ws[i]?=some w→∃ ps s ow,nds'[w]?=some (.fork ps)∧os[min i (os.length - 1)]?=some s∧OffW nds s (lev+i) (Zg x) ow∧WY ps (Zr (Zg x) (lev+i))=WY ow (Zr (Zg x) (lev+i))
theorem Zlu {L k:Nat} (h:L≤k):k::(List.range' L (k - L)).reverse=(List.range' L (k+1 - L)).reverse:=by
 rw [show k+1 - L=(k - L)+1 by omega,List.range'_1_concat,List.reverse_append]
 rw [show L+(k - L)=k by omega];rfl
theorem Md.up {x:Str} {nds nds1:List Nd} {lev num q num1:Nat} {ps fp:List Nat} {ow os os1:List Nat} (M:Md x nds nds1 (lev+1) num1 os1) (hq:fp[Zr (Zg x) lev]?=some q) (hs:os[0]?=some num) (ho:OffW nds num lev (Zg x) ow) (he:WY fp (Zr (Zg x) lev)=WY ow (Zr (Zg x) lev))
   (hos:∀ (i:Nat) (w s:Nat),(∃ ws e,Way nds1 (Zg x) (lev+1) num1 (ws++[e])∧ws[i]?=some w)→os1[min i (os1.length - 1)]?=some s→os[min (i+1) (os.length - 1)]?=some s):Md x nds (nds1++[.fork (fp.set (Zr (Zg x) lev) num1)]) lev nds1.length os:=by
 obtain ⟨ws,e,n,W,hn,hf,hr,hle,hp⟩:=M
 have ex:=NEx.app nds1 (.fork (fp.set (Zr (Zg x) lev) num1))
 have top:(nds1++[Nd.fork (fp.set (Zr (Zg x) lev) num1)])[nds1.length]?=some (.fork (fp.set (Zr (Zg x) lev) num1)):=by rw [List.getElem?_append_right (Nat.le_refl _),Nat.sub_self];rfl
 refine ⟨nds1.length::ws,e,n,.go top (by rw [List.getElem?_set_self (List.getElem?_eq_some_iff.mp hq).1]) (W.mono ex),ex _ _ hn,hf,?_,?_,fun i w hw=>?_⟩
 · rw [List.cons_append,hr,List.length_append];exact Zlu hle
 · rw [List.length_append];exact Nat.le_trans hle (Nat.le_add_right _ _)
 · cases i with
   | zero =>
     cases (show some nds1.length=some w from hw)
     exact ⟨_,num,ow,top,by rw [Nat.zero_min];exact hs,ho,by rw [Nat.add_zero,ZhK];exact he⟩
   | succ i =>
     have hw':ws[i]?=some w:=hw
     obtain ⟨ps,s,ow',h1,h2,h3,h4⟩:=hp i w hw'
     rw [show lev+(i+1)=lev+1+i by omega]
     exact ⟨ps,s,ow',ex _ _ h1,hos i w s ⟨ws,e,W,hw'⟩ h2,h3,h4⟩
theorem ZgM {os1:List Nat} {num i s:Nat} (hne:os1≠[]) (h:os1[min i (os1.length - 1)]?=some s):(num::os1)[min (i+1) ((num::os1).length - 1)]?=some s:=by
 have hl:=List.length_pos_iff.mpr hne
 rw [show min (i+1) ((num::os1).length - 1)=min i (os1.length - 1)+1 by rw [List.length_cons];omega]
 exact h
theorem PutR.made {x:Str} {v:V} {nds nds':List Nd} {lev num num':Nat} (h0:nds[0]?=some .bare) (h:PutR x v nds lev num nds' num'):∀ {os:List Nat},Way nds (Zg x) lev num os→Md x nds nds' lev num' os:=by
 induction h with
 | @leaf lev num n qs hn hc hp hs =>
   intro os _
   have top:(nds++[Nd.leaf (Zg x) qs])[nds.length]?=some (.leaf (Zg x) qs):=by rw [List.getElem?_append_right (Nat.le_refl _),Nat.sub_self];rfl
   refine ⟨[],nds.length,.leaf (Zg x) qs,.stop top (fun qs z=>by cases z),top,(fun qs z=>by cases z),?_,by rw [List.length_append];exact Nat.le_add_right _ _,fun i w h=>by simp at h⟩
   have hM:(Nd.leaf (Zg x) qs).hasM (Zg x)=true:=decide_eq_true rfl
   rw [if_pos hM,List.length_append,show nds.length+[Nd.leaf (Zg x) qs].length - nds.length=1 by simp];rfl
 | @fork nds1 lev num q1 num1 n hn hz hm hq hr ih =>
   intro os hw
   cases n with
   | bare=>simp [Ye] at hq
   | fork qs =>
     obtain ⟨os1,rfl,hw1⟩:=hw.fork hn hq
     exact Md.up (ps:=[]) (ih hw1) hq rfl (.inl hn) rfl fun i w s _ h=>ZgM hw1.ne h
   | leaf m' ps =>
     have hos:=hw.at hn (fun qs z=>by cases z)
     subst hos
     have hq':q1=num∨q1=0:=by
       have:=List.mem_of_getElem? hq
       obtain ⟨g,_,e⟩:=List.mem_map.mp this
       split at e
       · exact .inl e.symm
       · exact .inr e.symm
     refine Md.up (ps:=[]) (os1:=[q1]) (ih ?_) hq rfl (.inr ⟨m',ps,hn,rfl⟩) ZiG fun i w s hx h=>?_
     · rcases hq' with z | z
       · rw [z];exact .stop hn (fun qs z=>by cases z)
       · rw [z];exact .stop h0 (fun qs z=>by cases z)
     · rcases hq' with z | z
       · rw [z] at h
         rw [show min i ([num].length - 1)=0 by simp] at h
         rw [show min (i+1) ([num].length - 1)=0 by simp]
         exact h
       · obtain ⟨ws,e,W,hwi⟩:=hx
         rw [z] at hr
         cases hr with
         | leaf _ _ _ _ =>
           have:=W.at (n:=.leaf (Zg x) _) (by rw [List.getElem?_append_right (Nat.le_refl _),Nat.sub_self];rfl) (fun qs z=>by cases z)
           have:ws=[]:=by
             cases ws with
             | nil=>rfl
             | cons a r=>have h9:=congrArg List.length this;simp at h9
           rw [this] at hwi;simp at hwi
         | fork _ h2=>exact absurd rfl h2
theorem TakR.made {NS:List Str} {x:Str} {nds nds':List Nd} {lev num num':Nat} (N:Ym NS) (hx:x∈NS) (h0:nds[0]?=some .bare) (h:TakR x nds lev num nds' num'):∀ {d r:Nat} {F:Str→Option V},Tri NS nds F d lev r num→r < 4 ^ lev→Yg x % 4 ^ lev=r→∀ {os:List Nat},Way nds (Zg x) lev num os→Md x nds nds' lev num' os:=by
 induction h with
 | @gone lev num ps hn hb =>
   intro d r F _ _ _ os _
   exact ⟨[],0,.bare,.stop h0 (fun qs z=>by cases z),h0,(fun qs z=>by cases z),by rw [Nat.sub_self];rfl,Nat.le_refl _,fun i w h=>by simp at h⟩
 | @less lev num ps qs hn hb hp hs =>
   intro d r F _ _ _ os _
   have top:(nds++[Nd.leaf (Zg x) qs])[nds.length]?=some (.leaf (Zg x) qs):=by rw [List.getElem?_append_right (Nat.le_refl _),Nat.sub_self];rfl
   refine ⟨[],nds.length,.leaf (Zg x) qs,.stop top (fun qs z=>by cases z),top,(fun qs z=>by cases z),?_,by rw [List.length_append];exact Nat.le_add_right _ _,fun i w h=>by simp at h⟩
   have hM:(Nd.leaf (Zg x) qs).hasM (Zg x)=true:=decide_eq_true rfl
   rw [if_pos hM,List.length_append,show nds.length+[Nd.leaf (Zg x) qs].length - nds.length=1 by simp];rfl
 | @up nds1 lev num q1 num1 q qs m ps hn hq hr hf hl ih =>
   intro d r F tri hlt hmod os hw
   obtain ⟨qs',hn',hlen,parts,d',hd'⟩:∃ qs',nds[num]?=some (.fork qs')∧qs'.length=4∧∃ d',(∀ i q,qs'[i]?=some q→Tri NS nds F d' (lev+1) (r+i * 4 ^ lev) q)∧d=d'+1:=by
     cases d with
     | zero =>
       rcases tri with ⟨_,z,_⟩ | ⟨_,_,z,_⟩
       · rw [hn] at z;cases z
       · rw [hn] at z;cases z
     | succ d =>
       rcases tri with (⟨_,z,_⟩ | ⟨_,_,z,_⟩) | ⟨qs',h1,h2,h3⟩
       · rw [hn] at z;cases z
       · rw [hn] at z;cases z
       · exact ⟨qs',h1,h2,d,h3,rfl⟩
   rw [hn] at hn'
   cases hn'
   obtain ⟨os1,rfl,hw1⟩:=hw.fork hn hq
   have hmod1:Yg x % 4 ^ (lev+1)=r+Zr (Zg x) lev * 4 ^ lev:=by rw [Xv,hmod,Ys (N.lo x hx)];rfl
   obtain ⟨ws,e,n,W,hne,hnf,hrg,hle,hp⟩:=ih (d' _ _ hq) (YU hlt (YR _ _)) hmod1 hw1
   have hin:q∈qs.set (Zr (Zg x) lev) num1∧q≠0:=by
     have:q∈(qs.set (Zr (Zg x) lev) num1).filter fun p=>!decide (p=0):=by rw [hf];exact List.mem_cons_self
     obtain ⟨h1,h2⟩:=List.mem_filter.mp this
     exact ⟨h1,fun z=>by rw [z] at h2;simp at h2⟩
   by_cases hz:num1=0
   · subst hz
     have hb1:nds1[0]?=some .bare:=hr.ext _ _ h0
     have hW:=W.at hb1 (fun qs z=>by cases z)
     have hws:ws=[]∧e=0:=by
       cases ws with
       | nil=>exact ⟨rfl,by simpa using hW⟩
       | cons a r=>have h9:=congrArg List.length hW;simp at h9
     obtain ⟨rfl,rfl⟩:=hws
     rw [hb1] at hne
     cases hne
     have hlen0:nds1.length - nds.length=0:=by
       have h9:=congrArg List.length hrg
       rw [List.length_reverse,List.length_range'] at h9
       exact h9.symm
     obtain ⟨j,hj⟩:=List.mem_iff_getElem?.mp hin.1
     have hjd:j≠Zr (Zg x) lev:=fun z=>by
       rw [z,List.getElem?_set_self (List.getElem?_eq_some_iff.mp hq).1] at hj
       exact hin.2 (Option.some.inj hj).symm
     rw [List.getElem?_set_ne (fun z=>hjd z.symm)] at hj
     have hql:q < nds.length:=by have:=(List.getElem?_eq_some_iff.mp hl).1;omega
     have hlo:nds[q]?=some (.leaf m ps):=by
       have h8:=List.getElem?_eq_getElem hql
       have h9:=hr.ext _ _ h8
       rw [hl] at h9
       rw [h8];exact h9.symm
     have hmm:m≠Zg x:=fun z=>by
       have tj:=d' j q hj
       have key:∃ m2 ps2,nds[q]?=some (.leaf m2 ps2)∧m2.toNat % 4 ^ (lev+1)=r+j * 4 ^ lev:=by
         have te:TriE NS nds F (lev+1) (r+j * 4 ^ lev) q:=by
           cases parts with
           | zero=>exact tj
           | succ p =>
             rcases tj with tj | ⟨_,z2,_⟩
             · exact tj
             · rw [hlo] at z2;cases z2
         rcases te with ⟨_,z2,_⟩ | ⟨m2,ps2,z2,_,z3,_⟩
         · rw [hlo] at z2;cases z2
         · exact ⟨m2,ps2,z2,z3⟩
       obtain ⟨m2,ps2,z2,z3⟩:=key
       rw [hlo] at z2
       cases z2
       rw [z] at z3
       have z4:Yg x % 4 ^ (lev+1)=r+j * 4 ^ lev:=z3
       rw [hmod1] at z4
       have hp4:0 < 4 ^ lev:=Nat.pow_pos (by decide)
       have:Zr (Zg x) lev * 4 ^ lev=j * 4 ^ lev:=by omega
       exact hjd (Nat.eq_of_mul_eq_mul_right hp4 this).symm
     refine ⟨[],q,.leaf m ps,.stop hl (fun qs z=>by cases z),hl,(fun qs z=>by cases z),?_,hle,fun i w h=>by simp at h⟩
     have hM:¬ (Nd.leaf m ps).hasM (Zg x)=true:=fun z=>hmm (of_decide_eq_true z)
     rw [if_neg hM,hlen0];rfl
   · have hmem:num1∈(qs.set (Zr (Zg x) lev) num1).filter fun p=>!decide (p=0):=by
       rw [List.mem_filter]
       refine ⟨List.mem_of_getElem? (List.getElem?_set_self (List.getElem?_eq_some_iff.mp hq).1),by simp [hz]⟩
     rw [hf] at hmem
     have hqn:num1=q:=List.mem_singleton.mp hmem
     subst hqn
     have hW:=W.at hl (fun qs z=>by cases z)
     have hws:ws=[]∧e=num1:=by
       cases ws with
       | nil=>exact ⟨rfl,by simpa using hW⟩
       | cons a r=>have h9:=congrArg List.length hW;simp at h9
     obtain ⟨rfl,rfl⟩:=hws
     exact ⟨[],e,n,.stop hne hnf,hne,hnf,hrg,hle,fun i w h=>by simp at h⟩
 | @fork nds1 lev num q1 num1 qs hn hq hr hf ih =>
   intro d r F tri hlt hmod os hw
   obtain ⟨d',tq⟩:∃ d',Tri NS nds F d' (lev+1) (r+Zr (Zg x) lev * 4 ^ lev) q1:=by
     cases d with
     | zero =>
       rcases tri with ⟨_,z,_⟩ | ⟨_,_,z,_⟩
       · rw [hn] at z;cases z
       · rw [hn] at z;cases z
     | succ d =>
       rcases tri with (⟨_,z,_⟩ | ⟨_,_,z,_⟩) | ⟨qs',h1,h2,h3⟩
       · rw [hn] at z;cases z
       · rw [hn] at z;cases z
       · rw [hn] at h1;cases h1;exact ⟨d,h3 _ _ hq⟩
   obtain ⟨os1,rfl,hw1⟩:=hw.fork hn hq
   have hmod1:Yg x % 4 ^ (lev+1)=r+Zr (Zg x) lev * 4 ^ lev:=by rw [Xv,hmod,Ys (N.lo x hx)];rfl
   exact Md.up (ps:=[]) (ih tq (YU hlt (YR _ _)) hmod1 hw1) hq rfl (.inl hn) rfl fun i w s _ h=>ZgM hw1.ne h
end K20
set_option maxHeartbeats 4000000
namespace K20
open PySem L2
def WK (m:Int) (j:Nat):Int:=m / 4 ^ j % 4
def Xi (own:Int):Nat→Nat→List Int→Nat×List Int
 | 0,j,l=>(j,l)
 | f+1,j,l=>if 1 < l.length then Xi own f (j+1) (l.filter fun m=>decide (WK m j=WK own j)) else (j,l)
def Vs (NS:List Str) (F:Str→Option V) (lev r:Nat) (l:List Int):Prop:=l.Nodup∧∀ m:Int,m∈l↔∃ y∈NS,F y≠none∧Zg y=m∧Yg y % 4 ^ lev=r
theorem Zbt {NS:List Str} {nds:List Nd} {F:Str→Option V} {d lev r q:Nat} (h0:nds[0]?=some .bare) (t:Tri NS nds F d lev r q) (c:Can nds d q) (hr:r < 4 ^ lev) (hq:q≠0):∃ y∈NS,F y≠none∧Yg y % 4 ^ lev=r:=by
 apply Classical.byContradiction
 intro z
 refine hq (Zie h0 t c hr fun x hx hxr=>?_)
 apply Classical.byContradiction
 intro y
 exact z ⟨x,hx,y,hxr⟩
theorem ZlG {qs:List Nat} (h:2≤(Yl qs).length):∃ i j q q':Nat,i≠j∧qs[i]?=some q∧qs[j]?=some q'∧q≠0∧q'≠0:=by
 induction qs with
 | nil=>simp [Yl] at h
 | cons a r ih =>
   by_cases z:a=0
   · obtain ⟨i,j,q,q',h1,h2,h3,h4,h5⟩:=ih (by rw [Wd,if_pos z] at h;exact h)
     exact ⟨i+1,j+1,q,q',by omega,h2,h3,h4,h5⟩
   · have h1:1≤(Yl r).length:=by rw [Wd,if_neg z] at h;omega
     obtain ⟨q',hq'⟩:=List.exists_mem_of_length_pos h1
     obtain ⟨hm,h0⟩:=fil_mem.mp hq'
     obtain ⟨j,hj⟩:=List.mem_iff_getElem?.mp hm
     exact ⟨0,j+1,a,q',by omega,rfl,hj,z,h0⟩
theorem ZhV {NS:List Str} {nds:List Nd} {F:Str→Option V} (h0:nds[0]?=some .bare):∀ {d lev r num:Nat} {qs:List Nat},Tri NS nds F d lev r num→Can nds d num→r < 4 ^ lev→nds[num]?=some (.fork qs) →
   ∃ y∈NS,∃ y'∈NS,F y≠none∧F y'≠none∧Yg y % 4 ^ lev=r∧Yg y' % 4 ^ lev=r∧Zg y≠Zg y':=by
 intro d
 induction d with
 | zero =>
   intro lev r num qs t _ _ hf
   rcases t with ⟨_,h,_⟩ | ⟨m,ps,h,_⟩ <;> · rw [hf] at h;cases h
 | succ d ih =>
   intro lev r num qs t c hr hf
   rcases t with (⟨_,h,_⟩ | ⟨m,ps,h,_⟩) | ⟨qs',h1,h2,h3⟩
   · rw [hf] at h;cases h
   · rw [hf] at h;cases h
   · rw [hf] at h1;cases h1
     rcases c with (z | ⟨m,ps,z⟩) | ⟨qs',z1,z2,z3⟩
     · rw [z,h0] at hf;cases hf
     · rw [hf] at z;cases z
     · rw [hf] at z1;cases z1
       rcases z3 with z | ⟨q,qs2,z,hq2⟩
       · obtain ⟨i,j,q,q',hij,hi,hj,hq,hq'⟩:=ZlG z
         have hi4:i < 4:=by rw [← h2];exact (List.getElem?_eq_some_iff.mp hi).1
         have hj4:j < 4:=by rw [← h2];exact (List.getElem?_eq_some_iff.mp hj).1
         obtain ⟨y,hy,hyF,hyr⟩:=Zbt h0 (h3 i q hi) (z2 q (List.mem_of_getElem? hi)) (YU hr hi4) hq
         obtain ⟨y',hy',hyF',hyr'⟩:=Zbt h0 (h3 j q' hj) (z2 q' (List.mem_of_getElem? hj)) (YU hr hj4) hq'
         have e1:=YN hr hyr
         have e2:=YN hr hyr'
         refine ⟨y,hy,y',hy',hyF,hyF',e1.1,e2.1,fun e=>hij ?_⟩
         have:Yg y=Yg y':=by unfold Yg;rw [e]
         rw [← e1.2,← e2.2,this]
       · have hm:=fil_mem.mp (show q∈Yl qs by rw [z];exact List.mem_cons_self)
         obtain ⟨i,hi⟩:=List.mem_iff_getElem?.mp hm.1
         have hi4:i < 4:=by rw [← h2];exact (List.getElem?_eq_some_iff.mp hi).1
         obtain ⟨y,hy,y',hy',a1,a2,a3,a4,a5⟩:=ih (h3 i q hi) (z2 q hm.1) (YU hr hi4) hq2
         exact ⟨y,hy,y',hy',a1,a2,(YN hr a3).1,(YN hr a4).1,a5⟩
theorem UN {m:Int} (h:0≤m) (j:Nat):WK m j=((m.toNat / 4 ^ j % 4:Nat):Int):=by
 have:=XF m j
 rw [Ys h] at this
 exact this.symm
theorem Zkr {NS:List Str} {nds:List Nd} {F:Str→Option V} {x:Str} (N:Ym NS) (hx:x∈NS) (h0:nds[0]?=some .bare):∀ {d lev r num:Nat} {ws:List Nat} {e:Nat} {n:Nd} {l:List Int},Tri NS nds F d lev r num→Can nds d num→r < 4 ^ lev→Yg x % 4 ^ lev=r →
   Way nds (Zg x) lev num (ws++[e])→nds[e]?=some n→(∀ qs,n≠.fork qs)→Vs NS F lev r l→(Xi (Zg x) d lev l).1=lev+ws.length∧((Xi (Zg x) d lev l).2=[Zg x]↔n.hasM (Zg x)=true):=by
 have stop : ∀ {d lev r num:Nat} {ws:List Nat} {e:Nat} {n:Nd} {l:List Int},TriE NS nds F lev r num→Way nds (Zg x) lev num (ws++[e])→nds[e]?=some n→Vs NS F lev r l→(Xi (Zg x) d lev l).1=lev+ws.length∧((Xi (Zg x) d lev l).2=[Zg x]↔n.hasM (Zg x)=true):=by
   intro d lev r num ws e n l t W he hl
   have lone:l.length≤1→Xi (Zg x) d lev l=(lev,l):=fun hle=>by
     cases d with
     | zero=>rfl
     | succ d=>unfold Xi;rw [if_neg (by omega)]
   rcases t with ⟨z,hb,hF⟩ | ⟨m,ps,hb,G,hm,hF⟩
   · have hw:=W.at hb (fun qs z=>by cases z)
     have hws:ws=[]∧e=num:=by
       cases ws with
       | nil=>exact ⟨rfl,by simpa using hw⟩
       | cons a r=>simp at hw
     obtain ⟨rfl,rfl⟩:=hws
     rw [hb] at he;cases he
     have hl0:l=[]:=by
       cases l with
       | nil=>rfl
       | cons m r =>
         obtain ⟨y,hy,h1,_,h3⟩:=(hl.2 m).mp List.mem_cons_self
         exact absurd (hF y hy h3) h1
     subst hl0
     rw [lone (by simp)]
     exact ⟨rfl,fun z=>(by cases z),fun z=>(by cases z)⟩
   · have hw:=W.at hb (fun qs z=>by cases z)
     have hws:ws=[]∧e=num:=by
       cases ws with
       | nil=>exact ⟨rfl,by simpa using hw⟩
       | cons a r=>simp at hw
     obtain ⟨rfl,rfl⟩:=hws
     rw [hb] at he;cases he
     have key:∀ m',m'∈l↔m'=m:=fun m'=>by
       rw [hl.2 m']
       constructor
       · rintro ⟨y,hy,h1,rfl,h3⟩
         rw [hF y hy h3] at h1
         cases e9:lk ps y with
         | none=>exact absurd e9 h1
         | some v=>exact G.mrk (y,v) ((Xo G.nd).mp e9)
       · rintro rfl
         cases ps with
         | nil=>exact absurd rfl G.ne
         | cons p pr =>
           have h2:=G.sub p List.mem_cons_self
           have h3:=G.mrk p List.mem_cons_self
           have h4:Yg p.1 % 4 ^ lev=r:=by unfold Yg;rw [h3];exact hm
           refine ⟨p.1,h2,?_,h3,h4⟩
           rw [hF p.1 h2 h4,XJ,if_pos rfl]
           intro z;cases z
     have hl1:l=[m]:=by
       cases l with
       | nil=>exact absurd ((key m).mpr rfl) (by simp)
       | cons a r =>
         have ha:=(key a).mp List.mem_cons_self
         cases r with
         | nil=>rw [ha]
         | cons b r =>
           have hb:=(key b).mp (List.mem_cons_of_mem _ List.mem_cons_self)
           have:=hl.1
           rw [ha,hb] at this
           simp at this
     subst hl1
     rw [lone (by simp)]
     refine ⟨rfl,?_⟩
     show [m]=[Zg x]↔decide (m=Zg x)=true
     rw [decide_eq_true_eq]
     exact ⟨fun z=>by cases z;rfl,fun z=>by rw [z]⟩
 intro d
 induction d with
 | zero=>intro lev r num ws e n l t _ _ _ W he _ hl;exact stop t W he hl
 | succ d ih =>
   intro lev r num ws e n l t c hr hxr W he hn hl
   rcases id t with h | ⟨qs,h1,h2,h3⟩
   · exact stop h W he hl
   · obtain ⟨y,hy,y',hy',a1,a2,a3,a4,a5⟩:=ZhV h0 t c hr h1
     have hlen:1 < l.length:=by
       have m1:=(hl.2 (Zg y)).mpr ⟨y,hy,a1,rfl,a3⟩
       have m2:=(hl.2 (Zg y')).mpr ⟨y',hy',a2,rfl,a4⟩
       match l,m1,m2 with
       | [],m1,_=>simp at m1
       | [b],m1,m2=>exact absurd ((List.mem_singleton.mp m1).trans (List.mem_singleton.mp m2).symm) a5
       | _::_::_,_,_=>simp
     have hlo:=N.lo x hx
     have hd4:=YR (Zg x) lev
     obtain ⟨q,hq⟩:∃ q,qs[Zr (Zg x) lev]?=some q:=⟨_,List.getElem?_eq_getElem (by rw [h2];exact hd4)⟩
     obtain ⟨ws1,ew,W1⟩:=W.fork h1 hq
     obtain ⟨ws2,rfl,ew2⟩:∃ ws2,ws=num::ws2∧ws1=ws2++[e]:=by
       cases ws with
       | nil =>
         exfalso
         have:num=e:=by simpa using (List.cons.inj ew).1.symm
         rw [← this,h1] at he;cases he
         exact hn _ rfl
       | cons a r=>obtain ⟨rfl,e2⟩:=List.cons.inj ew;exact ⟨r,rfl,e2.symm⟩
     subst ew2
     have hr2:=YU hr hd4
     have hxd:Yg x % 4 ^ (lev+1)=r+Zr (Zg x) lev * 4 ^ lev:=by
       rw [Ys hlo,Nat.pow_succ,Nat.mod_mul,hxr]
       unfold Yg
       rw [Nat.mul_comm]
     rcases c with (z | ⟨m,ps,z⟩) | ⟨qs',z1,z2,z3⟩
     · rw [z,h0] at h1;cases h1
     · rw [h1] at z;cases z
     · rw [h1] at z1;cases z1
       have g:=ih (l:=l.filter fun m=>decide (WK m lev=WK (Zg x) lev)) (h3 _ q hq) (z2 q (List.mem_of_getElem? hq)) hr2 hxd W1 he hn ⟨hl.1.sublist List.filter_sublist,fun m=>?_⟩
       · have e5:Xi (Zg x) (d+1) lev l=Xi (Zg x) d (lev+1) (l.filter fun m=>decide (WK m lev=WK (Zg x) lev)):=by
           show (if 1 < l.length then _ else _)=_
           rw [if_pos hlen]
         rw [e5,g.1]
         exact ⟨by rw [List.length_cons];omega,g.2⟩
       · rw [List.mem_filter,hl.2 m,decide_eq_true_eq]
         constructor
         · rintro ⟨⟨u,hu,b1,rfl,b3⟩,b4⟩
           refine ⟨u,hu,b1,rfl,?_⟩
           have hlu:=N.lo u hu
           rw [UN hlu,UN hlo] at b4
           rw [Nat.pow_succ,Nat.mod_mul,b3,Ys hlo]
           show r+4 ^ lev * ((Zg u).toNat / 4 ^ lev % 4)=_
           rw [Int.ofNat.inj b4,Nat.mul_comm]
         · rintro ⟨u,hu,b1,rfl,b3⟩
           have hlu:=N.lo u hu
           obtain ⟨b5,b6⟩:=YN hr b3
           refine ⟨⟨u,hu,b1,rfl,b5⟩,?_⟩
           rw [UN hlu,UN hlo]
           rw [Ys hlo] at b6
           exact congrArg Int.ofNat b6
end K20
set_option maxHeartbeats 4000000
namespace K20
open PySem L2
def Zjf:Stp→(Str→Option V)→Prop
 | .set x v,F=>F x=some v
 | .clr x,F=>F x=none
theorem NEx.len {nds nds':List Nd} (h:NEx nds nds'):nds.length≤nds'.length:=by
 cases e:nds.length with
 | zero=>omega
 | succ n =>
   have hl:n < nds.length:=by omega
   have:=(List.getElem?_eq_some_iff.mp (h n _ (List.getElem?_eq_getElem hl))).1
   omega
def ZaP (NS:List Str) (s:Stp) (F:Str→Option V) (c:Nat):Prop:=∀ l,Vs NS (s.ap F) 0 0 l→c=if F s.nm=s.ap F s.nm then 0 else (Xi (Zg s.nm) 5 0 l).1+if (Xi (Zg s.nm) 5 0 l).2=[Zg s.nm] then 1 else 0
theorem Zej {NS:List Str} {s:Stp} {F:Str→Option V} {c:Nat} (h:F s.nm=s.ap F s.nm) (hc:c=0):ZaP NS s F c:=fun l _=>by rw [if_pos h];exact hc
theorem ZdI {NS:List Str} {s:Stp} {F:Str→Option V} {c:Nat} (h:¬ F s.nm=s.ap F s.nm) (hc:∀ l,Vs NS (s.ap F) 0 0 l→c=(Xi (Zg s.nm) 5 0 l).1+if (Xi (Zg s.nm) 5 0 l).2=[Zg s.nm] then 1 else 0):ZaP NS s F c:=fun l hl=>by rw [if_neg h];exact hc l hl
theorem ZdY {NS:List Str} {nds nds':List Nd} {F:Str→Option V} {x:Str} {t:Nat} {os l:List Int} {ow:List Nat} (N:Ym NS) (hx:x∈NS) (h0:nds'[0]?=some .bare) (tri:Tri NS nds' F 5 0 0 t) (can:Can nds' 5 t) (M:Md x nds nds' 0 t ow) (hl:Vs NS F 0 0 l) :
   nds'.length - nds.length=(Xi (Zg x) 5 0 l).1+if (Xi (Zg x) 5 0 l).2=[Zg x] then 1 else 0:=by
 obtain ⟨ws,e,n,W,hn,hf,hr,hle,_⟩:=M
 obtain ⟨g1,g2⟩:=Zkr N hx h0 tri can (by decide) (by rw [Nat.pow_zero,Nat.mod_one]) W hn hf hl
 have hlen:=congrArg List.length hr
 rw [List.length_append,List.length_reverse,List.length_range'] at hlen
 rw [g1,← hlen]
 by_cases z:n.hasM (Zg x)=true
 · rw [if_pos z,if_pos (g2.mpr z)];simp
 · rw [if_neg z,if_neg fun y=>z (g2.mp y)];simp
structure RInv (NS:List Str) (pls:List ZK) (nds:List Nd) (tabs:List (Zj×V)):Prop where
 wf:WfP pls
 cn:∀ (k t:Nat),(0::pls.map (·.tb))[k]?=some t→Can nds 5 t
 vt:∀ (k:Nat) (q:ZK) (F:Str→Option V) (t:Nat),pls[k]?=some q→(envs pls)[q.ah]?=some F→(0::pls.map (·.tb))[q.ah]?=some t→Zjf q.st F→q.tb=t
 tr:∀ (k:Nat) (F:Str→Option V) (t:Nat),(envs pls)[k]?=some F→(0::pls.map (·.tb))[k]?=some t→(ZJ tabs (Sum.inl (t:Int))).isSome=true∧Tri NS nds F 5 0 0 t∧∀ x u,F x=some u→YY u
 co:∀ (k:Nat) (q:ZK) (F:Str→Option V),pls[k]?=some q→(envs pls)[q.ah]?=some F→ZaP NS q.st F q.co
 nm:nds.length=1+(pls.map (·.co)).sum
theorem ZaX {v:V} (h:YY v):ValV v:=by
 cases v <;> first | trivial | exact h.elim
theorem RInv.app {NS:List Str} {pls:List ZK} {nds nds':List Nd} {tabs tabs':List (Zj×V)} (I:RInv NS pls nds tabs) {q:ZK} {F:Str→Option V} (hk:q.ah≤pls.length) (hF:(envs pls)[q.ah]?=some F) (ext:NEx nds nds')
   (mono:∀ k,(ZJ tabs k).isSome=true→(ZJ tabs' k).isSome=true) (ht:(ZJ tabs' (Sum.inl (q.tb:Int))).isSome=true) (tri:Tri NS nds' (q.st.ap F) 5 0 0 q.tb) (hv:∀ x v,q.st=.set x v→YY v) (hc:Can nds' 5 q.tb) (hvt:Zjf q.st F→q.tb=tbN pls q.ah) (hco:ZaP NS q.st F q.co) (hnm:nds'.length=nds.length+q.co):RInv NS (pls++[q]) nds' tabs':=by
 have hfv:=(I.tr q.ah F _ hF (Ud hk)).2.2
 have tbA:∀ {j t:Nat},j≤pls.length→(0::(pls++[q]).map (·.tb))[j]?=some t→(0::pls.map (·.tb))[j]?=some t:=fun {j t} hj e=>by
   rw [List.map_append,← List.cons_append,List.getElem?_append_left (by rw [List.length_cons,List.length_map];omega)] at e;exact e
 have envA:∀ {j:Nat} {G:Str→Option V},j≤pls.length→(envs (pls++[q]))[j]?=some G→(envs pls)[j]?=some G:=fun {j G} hj e=>by
   rw [Xp,List.getElem?_append_left (by rw [YV];omega)] at e;exact e
 have lastA:∀ {k:Nat} {p:ZK},¬ k < pls.length→(pls++[q])[k]?=some p→k=pls.length∧q=p:=fun {k p} h e=>by
   rw [List.getElem?_append_right (by omega)] at e
   have hz:k - pls.length=0:=by
     cases z:k - pls.length with
     | zero=>rfl
     | succ j=>rw [z] at e;simp at e
   rw [hz] at e
   exact ⟨by omega,Option.some.inj e⟩
 refine ⟨fun k p e=>?_,fun k t e=>?_,fun k p G t e1 e2 e3 hs=>?_,fun k G t e1 e2=>?_,fun k p G e1 e2=>?_,?_⟩
 case refine_5 =>
   by_cases h:k < pls.length
   · rw [List.getElem?_append_left h] at e1
     have hw:=I.wf k p e1
     exact I.co k p G e1 (envA (by omega) e2)
   · obtain ⟨_,rfl⟩:=lastA h e1
     have e2':=envA hk e2
     rw [hF] at e2'
     cases e2'
     exact hco
 case refine_6 =>
   rw [List.map_append,List.sum_append,hnm,I.nm]
   show _=1+(_+(q.co+0))
   omega
 case refine_2 =>
   by_cases h:k≤pls.length
   · exact Can.mono ext (I.cn k t (tbA h e))
   · have hk9:k=pls.length+1:=by
       have:=(List.getElem?_eq_some_iff.mp e).1
       rw [List.length_cons,List.length_map,List.length_append] at this
       have:k < pls.length+1+1:=this
       omega
     subst hk9
     have e':(pls++[q])[pls.length]?.map (·.tb)=some t:=by rw [← List.getElem?_map];exact e
     rw [List.getElem?_append_right (Nat.le_refl _),Nat.sub_self] at e'
     cases (show some q.tb=some t from e')
     exact hc
 case refine_3 =>
   by_cases h:k < pls.length
   · rw [List.getElem?_append_left h] at e1
     have hw:=I.wf k p e1
     exact I.vt k p G t e1 (envA (by omega) e2) (tbA (by omega) e3) hs
   · obtain ⟨_,rfl⟩:=lastA h e1
     have e2':=envA hk e2
     rw [hF] at e2'
     cases e2'
     have e3':=tbA hk e3
     rw [Ud hk] at e3'
     rw [hvt hs];exact Option.some.inj e3'
 · by_cases h:k < pls.length
   · rw [List.getElem?_append_left h] at e;exact I.wf k p e
   · rw [List.getElem?_append_right (by omega)] at e
     have:k - pls.length=0:=by
       cases z:k - pls.length with
       | zero=>rfl
       | succ j=>rw [z] at e;simp at e
     rw [this] at e
     cases (show some q=some p from e)
     omega
 · rw [Xp] at e1
   by_cases h:k < (envs pls).length
   · rw [List.getElem?_append_left h] at e1
     have e2':(0::pls.map (·.tb))[k]?=some t:=by
       rw [List.map_append,← List.cons_append,List.getElem?_append_left (by rw [List.length_cons,List.length_map];rw [YV] at h;exact h)] at e2
       exact e2
     obtain ⟨g1,g2,g3⟩:=I.tr k G t e1 e2'
     exact ⟨mono _ g1,Tri.mono 5 g2 ext,g3⟩
   · rw [List.getElem?_append_right (by omega)] at e1
     have hz:k - (envs pls).length=0:=by
       cases z:k - (envs pls).length with
       | zero=>rfl
       | succ j=>rw [z] at e1;simp at e1
     rw [hz] at e1
     have e1':q.st.ap ((envs pls).getD q.ah fun _=>none)=G:=Option.some.inj e1
     rw [List.getD_eq_getElem?_getD,hF] at e1'
     have ek:k=pls.length+1:=by rw [YV] at h hz;omega
     have e2':q.tb=t:=by
       rw [ek,List.getElem?_cons_succ,List.map_append,List.getElem?_append_right (by rw [List.length_map];omega),List.length_map,Nat.sub_self] at e2
       exact Option.some.inj e2
     subst e1' e2'
     refine ⟨ht,tri,fun x u hu=>?_⟩
     have hu:q.st.ap F x=some u:=hu
     cases es:q.st with
     | set y v =>
       rw [es] at hu
       have hu:(if x=y then some v else F x)=some u:=hu
       by_cases z:x=y
       · rw [if_pos z] at hu;cases hu;exact hv y _ es
       · rw [if_neg z] at hu;exact hfv x u hu
     | clr y =>
       rw [es] at hu
       have hu:(if x=y then none else F x)=some u:=hu
       by_cases z:x=y
       · rw [if_pos z] at hu;cases hu
       · rw [if_neg z] at hu;exact hfv x u hu
section
variable {P:Program} {w:World} {K:PySem.W.Frag} {mg:Str→Option Value} {base:Heap} {CR CS Pl:Addr}
def ZhM (K:PySem.W.Frag) (CR CS Pl:Addr):Sp:=fun vs H Q _=>∃ (NS:List Str) (r sa:Addr) (pls:List ZK) (nds:List Nd) (tabs:List (Zj×V)) (k:Nat) (s:Stp) (Δ:Rs),vs=[.ref r,.int (k:Int),.ref sa]∧Ym NS∧Sep ((r,Uq K CR CS pls nds tabs)::(Pl,Xn)::Δ) H∧H sa=some (.tup s.vs)∧RInv NS pls nds tabs∧s.ok NS∧k≤pls.length∧pls.length≤10000∧nds.length≤90000∧tabs.length≤90000 ∧
 ∀ (H':Hp) (nds':List Nd) (tabs':List (Zj×V)) (t':Nat),Sep ((r,Uq K CR CS (pls++[⟨k,s,t',nds'.length - nds.length⟩]) nds' tabs')::(Pl,Xn)::Δ) H'→RInv NS (pls++[⟨k,s,t',nds'.length - nds.length⟩]) nds' tabs'→NEx nds nds'→nds'.length≤nds.length+6→tabs'.length≤tabs.length+1→Q (.int ((pls.length+1:Nat):Int)) H'
abbrev nRGo:List Str:=["self","place","step","table","made_ahead"]
abbrev ZbV:List Str:=["self","place","step"]
theorem scRGo:Zs nRGo ZbV (Zl c_Roads_go_on):=⟨rfl,rfl,rfl,by decide +kernel,rfl,by decide +kernel,by decide +kernel⟩
theorem ZjL {f:Addr} {fd:FuncData} (F:Fun K "go_on" "Roads.go_on" c_Roads_go_on f fd) (T:YB mg) (TR:WI K CR) (TC:Xm K CS) (DR_table:DefM P w K mg base 9 CR "table" Zfc (ZdB K CR CS)) (DS_made:DefM P w K mg base 9 CS "made" ["self"] (Zdh K CS))
   (DS_put:DefM P w K mg base 9 CS "put" ["self","table","name","value"] (ZcO K CS Pl)) (DS_without:DefM P w K mg base 9 CS "without" ["self","table","name"] (Zfs K CS Pl)):FnOk P w K mg base ZH 10 f fd ZbV (ZhM K CR CS Pl):=by
 refine F.ok scRGo (fun vs H Q E h=>?_) (fun cdv A outer s H vs Q E hr h=>?_)
 · obtain ⟨NS,r,sa,pls,nds,tabs,k,s,Δ,rfl,_⟩:=h;rfl
 obtain ⟨NS,r,sa,pls,nds,tabs,k,s,Δ,rfl,N,S0,es,I,hs,hk,hpl,hnd,htb,q⟩:=h
 obtain ⟨st,la,ls,lt,lc,S⟩:=S0.roaO
 obtain ⟨dx,ob⟩:=S.get r
 obtain ⟨b0,ln,dt,SA⟩:=S.get st
 obtain ⟨dxs,obs⟩:=SA.ob
 obtain ⟨Fk,hFk⟩:∃ Fk,(envs pls)[k]?=some Fk:=⟨_,List.getElem?_eq_getElem (by rw [YV];omega)⟩
 obtain ⟨g1,g2,g3⟩:=I.tr k Fk _ hFk (Ud hk)
 obtain ⟨wsy,ey,ny,ewy,_⟩:=UL N g2 (show s.nm∈NS by cases s with | set x v=>exact hs.1 | clr x=>exact hs)
 have Wy:=ZcD ewy
 refine' ⟨?t,?h,?r⟩
 case h =>
   conv=>arg 2;whnf
   with_reducible refine' (Zd ?h1 (Zd ?h2 (Zd (Yk ?h3 (Zi ?h4) (Zi ?h5)) (Zd ?h6 (Zd ?h7 (Zd ?h8 (Zd ?h9 (Zi ?h10))))))))
   case h1=>exact Zx (i:=3) scRGo.nd rfl (Or.inl rfl) (Yy DR_table TR.cl hr (pv 0) (Zc (pv 1) Za))
   case h2=>exact Zx (i:=4) scRGo.nd rfl (Or.inl rfl) (ZaA DS_made TC.cl hr (ZU (pv 0) rfl))
   case h3=>exact ZL Yq (Zo ZQ (pv 2) Zb (fun _ _=>rfl)) ZO (ZE _)
   case h4=>exact Zx (i:=3) scRGo.nd rfl (Or.inl rfl) (Yy DS_put TC.cl hr (ZU (pv 0) rfl) (Zc (pv 3) (Zc (Zo ZQ (pv 2) Zb (fun _ _=>rfl)) (Zc (Zo ZQ (pv 2) Zb (fun _ _=>rfl)) Za))))
   case h5=>exact Zx (i:=3) scRGo.nd rfl (Or.inl rfl) (Yy DS_without TC.cl hr (ZU (pv 0) rfl) (Zc (pv 3) (Zc (Zo ZQ (pv 2) Zb (fun _ _=>rfl)) Za)))
   case h6=>exact YC (Xg PySem.F.plainAttrs_list PySem.F.slot_list_append PySem.F.type_list_append Yt (ZU (pv 0) rfl) (Zc (pv 1) Za))
   case h7=>exact YC (Xg PySem.F.plainAttrs_list PySem.F.slot_list_append PySem.F.type_list_append Yt (ZU (pv 0) rfl) (Zc (pv 2) Za))
   case h8=>exact YC (Xg PySem.F.plainAttrs_list PySem.F.slot_list_append PySem.F.type_list_append Yt (ZU (pv 0) rfl) (Zc (pv 3) Za))
   case h9=>exact YC (Xg PySem.F.plainAttrs_list PySem.F.slot_list_append PySem.F.type_list_append Yt (ZU (pv 0) rfl) (Zc (Zn Yx (ZaA DS_made TC.cl hr (ZU (pv 0) rfl)) (pv 4)) Za))
   case h10=>exact Zp (Zn Yx (Zw ZG rfl T.len PySem.boot_len (Zc (ZU (pv 0) rfl) Za)) Zb)
 refine ⟨_,rfl,r,dx,_,rfl,ob,Wf (by decide +kernel),_,rfl,r,pls,nds,tabs,k,rfl,S0.get r,hk,?_⟩
 refine ⟨_,rfl,r,CR,dx,_,_,rfl,ob,TR.cl,TR.nk,Zbg,st,dxs,_,rfl,obs,ZS ln dt (by decide +kernel) (by decide +kernel),st,nds,tabs,rfl,S.get st,?_⟩
 have S1:=((S.imm es rfl).pull Pl).pull st
 cases s with
 | set x v =>
   obtain ⟨hx,hv⟩:=hs
   refine ⟨_,rfl,sa,_,_,_,rfl,rfl,SqT.of es,Zv (j:=0) rfl,rfl,_,rfl,?_⟩
   rw [decide_eq_true rfl]
   refine Yh ⟨_,rfl,r,CR,dx,_,_,rfl,ob,TR.cl,TR.nk,Zbg,st,dxs,_,rfl,obs,ZS ln dt (by decide +kernel) (by decide +kernel),_,rfl,_,rfl,sa,_,_,_,rfl,rfl,SqT.of es,Zv (j:=1) rfl,_,rfl,sa,_,_,_,rfl,rfl,SqT.of es,Zv (j:=2) rfl,?_⟩
   refine ⟨NS,st,nds,tabs,tbN pls k,x,v,Fk,_,N,rfl,S1,g1,g2,hx,ZaX hv,fun u hu=>ZaX (g3 x u hu),by omega,by omega,fun H2 nds2 tabs2 t2 S2 ext2 len2 tl2 mono2 ht2 tri2 rel2=>?_⟩
   have hcan:=I.cn k _ (Ud hk)
   have I2:=RInv.app (q:=⟨k,.set x v,t2,nds2.length - nds.length⟩) I hk hFk ext2 mono2 ht2 tri2 (fun y u e=>by cases e;exact hv)
     (by
       rcases rel2 with ⟨_,e1,e2,_⟩ | ⟨_,r,_⟩
       · show Can nds2 5 t2;rw [e1,e2];exact hcan
       · exact (PutR.can N hx b0 r g2 (by decide) rfl (by rw [Nat.pow_zero,Nat.mod_one]) hcan).1)
     (fun hsm=>by
       rcases rel2 with ⟨_,e1,_,_⟩ | ⟨e1,_⟩
       · exact e1
       · exact absurd hsm e1)
     (by
       rcases rel2 with ⟨e0,e1,e2,_⟩ | ⟨e0,r,_⟩
       · exact Zej (s:=.set x v) (show Fk x=(if x=x then some v else Fk x) by rw [if_pos rfl];exact e0) (by show nds2.length - nds.length=0;rw [e2,Nat.sub_self])
       · refine ZdI (s:=.set x v) (show ¬ Fk x=(if x=x then some v else Fk x) by rw [if_pos rfl];exact e0) fun l hl=>?_
         have hcan2:Can nds2 5 t2:=by exact (PutR.can N hx b0 r g2 (by decide) rfl (by rw [Nat.pow_zero,Nat.mod_one]) hcan).1
         exact ZdY (os:=[]) N hx (ext2 _ _ b0) tri2 hcan2 (PutR.made b0 r Wy) hl)
     (by show nds2.length=nds.length+(nds2.length - nds.length);have:=NEx.len ext2;omega)
   revert S2 I2
   generalize Stp.set x v=s at *
   intro S2 I2
   obtain ⟨dx2,ob2⟩:=S2.get r
   refine ⟨_,rfl,r,CR,dx2,_,_,rfl,ob2,TR.cl,TR.na,ZcS,.inl ⟨rfl,_,SqL.of (S2.get la)⟩,_,rfl,la,_,_,rfl,rfl,S2.get la,Xh (show _≤20000 by rw [List.length_cons,List.length_map];omega),?_⟩
   generalize hE:upd H2 la _=H3
   have S3:=S2.putE hE
   clear hE
   obtain ⟨dx3,ob3⟩:=S3.get r
   obtain ⟨as3,els,hal,_⟩:=S3.get ls
   rw [List.length_map] at hal
   refine ⟨_,rfl,r,CR,dx3,_,_,rfl,ob3,TR.cl,TR.ns,rf_s,.inl ⟨rfl,_,SqL.of els⟩,_,rfl,ls,_,_,rfl,rfl,els,Xh (show _≤20000 by rw [List.length_cons,List.length_map];omega),?_⟩
   generalize hE:upd H3 ls _=H4
   have S4:=hE ▸ S3.stepApp ls els (S3.get sa)
   clear hE
   obtain ⟨dx4,ob4⟩:=S4.get r
   refine ⟨_,rfl,r,CR,dx4,_,_,rfl,ob4,TR.cl,TR.nt,Zio,.inl ⟨rfl,_,SqL.of (S4.get lt)⟩,_,rfl,lt,_,_,rfl,rfl,S4.get lt,Xh (show _≤20000 by rw [List.length_cons,List.length_map];omega),?_⟩
   generalize hE:upd H4 lt _=H5
   have S5:=S4.putE hE
   clear hE
   obtain ⟨dx5,ob5⟩:=S5.get r
   obtain ⟨_,ln5,dt5,SA5⟩:=S5.get st
   obtain ⟨dxs5,obs5⟩:=SA5.ob
   refine ⟨_,rfl,r,CR,dx5,_,_,rfl,ob5,TR.cl,TR.nc,ZiE,.inl ⟨rfl,_,SqL.of (S5.get lc)⟩,_,rfl,r,CR,dx5,_,_,rfl,ob5,TR.cl,TR.nk,Zbg,st,dxs5,_,rfl,obs5,ZS ln5 dt5 (by decide +kernel) (by decide +kernel),st,nds2,tabs2,rfl,S5.get st,_,rfl,_,_,rfl,rfl,lc,_,_,rfl,rfl,S5.get lc,Xh (show _≤20000 by rw [List.length_cons,List.length_map];omega),?_⟩
   generalize hE:upd H5 lc _=H6
   have S6:=S5.putE hE
   clear hE
   obtain ⟨dx6,ob6⟩:=S6.get r
   refine ⟨_,rfl,r,CR,dx6,_,_,rfl,ob6,TR.cl,TR.na,ZcS,la,_,rfl,.inl (SqL.of (S6.get la)),_,_,rfl,rfl,?_⟩
   have hle:=ext2.len
   have ec:V.int ((nds2.length:Int) - (nds.length:Int))=V.int ((nds2.length - nds.length:Nat):Int):=congrArg V.int (by omega)
   have S7:=(((((((S6.drop sa).pull Pl).pull lc).pull lt).pull ls).pull la).pull st).pull r
   have S8:Sep ((r,VE CR (WO st la ls lt lc))::(st,WR K CS nds2 tabs2)::(la,ZI (V.non::(pls++[(⟨k,s,t2,nds2.length - nds.length⟩:ZK)]).map fun q=>V.int (q.ah:Int)))::(ls,Us ((pls++[(⟨k,s,t2,nds2.length - nds.length⟩:ZK)]).map (·.st)))::(lt,ZI (V.int 0::(pls++[(⟨k,s,t2,nds2.length - nds.length⟩:ZK)]).map fun q=>V.int (q.tb:Int)))::(lc,ZI (V.int 0::(pls++[(⟨k,s,t2,nds2.length - nds.length⟩:ZK)]).map fun q=>V.int (q.co:Int)))::(Pl,Xn)::Δ) H6:=by
     rw [List.map_append,List.map_append,List.map_append,List.map_append]
     show Sep (_::_::_::_::_::(lc,ZI (V.int 0::(pls.map (fun q=>V.int (q.co:Int))++[V.int ((nds2.length - nds.length:Nat):Int)])))::_) _
     rw [← ec]
     exact S7
   have e9:(((V.non::pls.map fun q=>V.int (q.ah:Int))++[V.int (k:Int)]).length:Int) - 1=((pls.length+1:Nat):Int):=by rw [List.length_append,List.length_cons,List.length_map];show ((pls.length+1+1:Nat):Int) - 1=_;omega
   have:=q H6 nds2 tabs2 t2 S8.roaC I2 ext2 len2 tl2
   rw [← e9] at this
   exact this
 | clr x =>
   refine ⟨_,rfl,sa,_,_,_,rfl,rfl,SqT.of es,Zv (j:=0) rfl,rfl,_,rfl,?_⟩
   rw [show decide (V.str "clear"=V.str (Str.ofString "set"))=false by decide +kernel]
   refine ZM ⟨_,rfl,r,CR,dx,_,_,rfl,ob,TR.cl,TR.nk,Zbg,st,dxs,_,rfl,obs,ZS ln dt (by decide +kernel) (by decide +kernel),_,rfl,_,rfl,sa,_,_,_,rfl,rfl,SqT.of es,Zv (j:=1) rfl,?_⟩
   refine ⟨NS,st,nds,tabs,tbN pls k,x,Fk,_,N,rfl,S1,g1,g2,hs,fun u hu=>ZaX (g3 x u hu),by omega,by omega,fun H2 nds2 tabs2 t2 S2 ext2 len2 tl2 mono2 ht2 tri2 rel2=>?_⟩
   have hcan:=I.cn k _ (Ud hk)
   have I2:=RInv.app (q:=⟨k,.clr x,t2,nds2.length - nds.length⟩) I hk hFk ext2 mono2 ht2 tri2 (fun y u e=>by cases e)
     (by
       rcases rel2 with ⟨_,e1,e2,_⟩ | ⟨_,r,_⟩
       · show Can nds2 5 t2;rw [e1,e2];exact hcan
       · exact (TakR.can b0 r hcan).1)
     (fun hsm=>by
       rcases rel2 with ⟨_,e1,_,_⟩ | ⟨e1,_⟩
       · exact e1
       · exact absurd hsm e1)
     (by
       rcases rel2 with ⟨e0,e1,e2,_⟩ | ⟨e0,r,_⟩
       · exact Zej (s:=.clr x) (show Fk x=(if x=x then none else Fk x) by rw [if_pos rfl];exact e0) (by show nds2.length - nds.length=0;rw [e2,Nat.sub_self])
       · refine ZdI (s:=.clr x) (show ¬ Fk x=(if x=x then none else Fk x) by rw [if_pos rfl];exact e0) fun l hl=>?_
         have hcan2:Can nds2 5 t2:=by exact (TakR.can b0 r hcan).1
         exact ZdY (os:=[]) N hs (ext2 _ _ b0) tri2 hcan2 (TakR.made N hs b0 r g2 (by decide) (by rw [Nat.pow_zero,Nat.mod_one]) Wy) hl)
     (by show nds2.length=nds.length+(nds2.length - nds.length);have:=NEx.len ext2;omega)
   revert S2 I2
   generalize Stp.clr x=s at *
   intro S2 I2
   obtain ⟨dx2,ob2⟩:=S2.get r
   refine ⟨_,rfl,r,CR,dx2,_,_,rfl,ob2,TR.cl,TR.na,ZcS,.inl ⟨rfl,_,SqL.of (S2.get la)⟩,_,rfl,la,_,_,rfl,rfl,S2.get la,Xh (show _≤20000 by rw [List.length_cons,List.length_map];omega),?_⟩
   generalize hE:upd H2 la _=H3
   have S3:=S2.putE hE
   clear hE
   obtain ⟨dx3,ob3⟩:=S3.get r
   obtain ⟨as3,els,hal,_⟩:=S3.get ls
   rw [List.length_map] at hal
   refine ⟨_,rfl,r,CR,dx3,_,_,rfl,ob3,TR.cl,TR.ns,rf_s,.inl ⟨rfl,_,SqL.of els⟩,_,rfl,ls,_,_,rfl,rfl,els,Xh (show _≤20000 by rw [List.length_cons,List.length_map];omega),?_⟩
   generalize hE:upd H3 ls _=H4
   have S4:=hE ▸ S3.stepApp ls els (S3.get sa)
   clear hE
   obtain ⟨dx4,ob4⟩:=S4.get r
   refine ⟨_,rfl,r,CR,dx4,_,_,rfl,ob4,TR.cl,TR.nt,Zio,.inl ⟨rfl,_,SqL.of (S4.get lt)⟩,_,rfl,lt,_,_,rfl,rfl,S4.get lt,Xh (show _≤20000 by rw [List.length_cons,List.length_map];omega),?_⟩
   generalize hE:upd H4 lt _=H5
   have S5:=S4.putE hE
   clear hE
   obtain ⟨dx5,ob5⟩:=S5.get r
   obtain ⟨_,ln5,dt5,SA5⟩:=S5.get st
   obtain ⟨dxs5,obs5⟩:=SA5.ob
   refine ⟨_,rfl,r,CR,dx5,_,_,rfl,ob5,TR.cl,TR.nc,ZiE,.inl ⟨rfl,_,SqL.of (S5.get lc)⟩,_,rfl,r,CR,dx5,_,_,rfl,ob5,TR.cl,TR.nk,Zbg,st,dxs5,_,rfl,obs5,ZS ln5 dt5 (by decide +kernel) (by decide +kernel),st,nds2,tabs2,rfl,S5.get st,_,rfl,_,_,rfl,rfl,lc,_,_,rfl,rfl,S5.get lc,Xh (show _≤20000 by rw [List.length_cons,List.length_map];omega),?_⟩
   generalize hE:upd H5 lc _=H6
   have S6:=S5.putE hE
   clear hE
   obtain ⟨dx6,ob6⟩:=S6.get r
   refine ⟨_,rfl,r,CR,dx6,_,_,rfl,ob6,TR.cl,TR.na,ZcS,la,_,rfl,.inl (SqL.of (S6.get la)),_,_,rfl,rfl,?_⟩
   have hle:=ext2.len
   have ec:V.int ((nds2.length:Int) - (nds.length:Int))=V.int ((nds2.length - nds.length:Nat):Int):=congrArg V.int (by omega)
   have S7:=(((((((S6.drop sa).pull Pl).pull lc).pull lt).pull ls).pull la).pull st).pull r
   have S8:Sep ((r,VE CR (WO st la ls lt lc))::(st,WR K CS nds2 tabs2)::(la,ZI (V.non::(pls++[(⟨k,s,t2,nds2.length - nds.length⟩:ZK)]).map fun q=>V.int (q.ah:Int)))::(ls,Us ((pls++[(⟨k,s,t2,nds2.length - nds.length⟩:ZK)]).map (·.st)))::(lt,ZI (V.int 0::(pls++[(⟨k,s,t2,nds2.length - nds.length⟩:ZK)]).map fun q=>V.int (q.tb:Int)))::(lc,ZI (V.int 0::(pls++[(⟨k,s,t2,nds2.length - nds.length⟩:ZK)]).map fun q=>V.int (q.co:Int)))::(Pl,Xn)::Δ) H6:=by
     rw [List.map_append,List.map_append,List.map_append,List.map_append]
     show Sep (_::_::_::_::_::(lc,ZI (V.int 0::(pls.map (fun q=>V.int (q.co:Int))++[V.int ((nds2.length - nds.length:Nat):Int)])))::_) _
     rw [← ec]
     exact S7
   have e9:(((V.non::pls.map fun q=>V.int (q.ah:Int))++[V.int (k:Int)]).length:Int) - 1=((pls.length+1:Nat):Int):=by rw [List.length_append,List.length_cons,List.length_map];show ((pls.length+1+1:Nat):Int) - 1=_;omega
   have:=q H6 nds2 tabs2 t2 S8.roaC I2 ext2 len2 tl2
   rw [← e9] at this
   exact this
end
end K20
set_option maxHeartbeats 4000000
namespace K20
open PySem L2
section
variable {P:Program} {w:World} {K:PySem.W.Frag} {mg:Str→Option Value} {base:Heap} {CR CS Pl:Addr}
def GoP (K:PySem.W.Frag) (CR CS Pl:Addr) (NS:List Str) (r:Addr) (pls:List ZK) (nds:List Nd) (tabs:List (Zj×V)) (k:Nat) (s:Stp) (Δ:Rs) (H:Hp) (Q:VK):Prop :=
 Ym NS∧Sep ((r,Uq K CR CS pls nds tabs)::(Pl,Xn)::Δ) H∧RInv NS pls nds tabs∧s.ok NS∧k≤pls.length∧pls.length≤10000∧nds.length≤90000∧tabs.length≤90000 ∧
 ∀ (H':Hp) (nds':List Nd) (tabs':List (Zj×V)) (t':Nat),Sep ((r,Uq K CR CS (pls++[⟨k,s,t',nds'.length - nds.length⟩]) nds' tabs')::(Pl,Xn)::Δ) H'→RInv NS (pls++[⟨k,s,t',nds'.length - nds.length⟩]) nds' tabs'→nds'.length≤nds.length+6→tabs'.length≤tabs.length+1→Q (.int ((pls.length+1:Nat):Int)) H'
def Zgw (K:PySem.W.Frag) (CR CS Pl:Addr):Sp:=fun vs H Q _=>∃ (NS:List Str) (r:Addr) (pls:List ZK) (nds:List Nd) (tabs:List (Zj×V)) (k:Nat) (x:Str) (v:V) (Δ:Rs),vs=[.ref r,.int (k:Int),.str x,v]∧GoP K CR CS Pl NS r pls nds tabs k (.set x v) Δ H Q
def ZfU (K:PySem.W.Frag) (CR CS Pl:Addr):Sp:=fun vs H Q _=>∃ (NS:List Str) (r:Addr) (pls:List ZK) (nds:List Nd) (tabs:List (Zj×V)) (k:Nat) (x:Str) (Δ:Rs),vs=[.ref r,.int (k:Int),.str x]∧GoP K CR CS Pl NS r pls nds tabs k (.clr x) Δ H Q
abbrev nRPu:List Str:=["self","place","name","value"]
abbrev ZeL:List Str:=["self","place","name","value"]
theorem Zmk:Zs nRPu ZeL (Zl c_Roads_put):=⟨rfl,rfl,rfl,by decide +kernel,rfl,by decide +kernel,by decide +kernel⟩
theorem ZjZ {f:Addr} {fd:FuncData} (F:Fun K "put" "Roads.put" c_Roads_put f fd) (T:YB mg) (TR:WI K CR) (DR_go_on:DefM P w K mg base 10 CR "go_on" ZbV (ZhM K CR CS Pl)):FnOk P w K mg base ZH 11 f fd ZeL (Zgw K CR CS Pl):=by
 refine F.ok Zmk (fun vs H Q E h=>?_) (fun cdv A outer s H vs Q E hr h=>?_)
 · obtain ⟨NS,r,pls,nds,tabs,k,x,v,Δ,rfl,_⟩:=h;rfl
 obtain ⟨NS,r,pls,nds,tabs,k,x,v,Δ,rfl,N,S0,I,hs,hk,h1,h2,h3,q⟩:=h
 obtain ⟨st,la,ls,lt,lc,SR⟩:=S0.get r
 obtain ⟨dx,ob⟩:=SR.get r
 refine' ⟨?t,?h,?r⟩
 case h =>
   conv=>arg 2;whnf
   with_reducible refine' (Zi ?h1)
   case h1=>exact Zp (Yy DR_go_on TR.cl hr (pv 0) (Zc (pv 1) (Zc (Xa (Zc ZO (Zc (pv 2) (Zc (pv 3) Za)))) Za)))
 refine ⟨_,rfl,r,dx,_,rfl,ob,Wf (by decide +kernel),_,rfl,_,rfl,_,rfl,(by show 3≤sizeLine;decide),fun t ht=>?_⟩
 exact ⟨NS,r,t,pls,nds,tabs,k,.set x v,Δ,rfl,N,(S0.new ht _).drop t,Zh,I,hs,hk,h1,h2,h3,fun H' nds' tabs' t' S' I' _ l1 l2=>q H' nds' tabs' t' S' I' l1 l2⟩
abbrev nRCl:List Str:=["self","place","name"]
abbrev Zfr:List Str:=["self","place","name"]
theorem ZmE:Zs nRCl Zfr (Zl c_Roads_clear):=⟨rfl,rfl,rfl,by decide +kernel,rfl,by decide +kernel,by decide +kernel⟩
theorem ZjJ {f:Addr} {fd:FuncData} (F:Fun K "clear" "Roads.clear" c_Roads_clear f fd) (T:YB mg) (TR:WI K CR) (DR_go_on:DefM P w K mg base 10 CR "go_on" ZbV (ZhM K CR CS Pl)):FnOk P w K mg base ZH 11 f fd Zfr (ZfU K CR CS Pl):=by
 refine F.ok ZmE (fun vs H Q E h=>?_) (fun cdv A outer s H vs Q E hr h=>?_)
 · obtain ⟨NS,r,pls,nds,tabs,k,x,Δ,rfl,_⟩:=h;rfl
 obtain ⟨NS,r,pls,nds,tabs,k,x,Δ,rfl,N,S0,I,hs,hk,h1,h2,h3,q⟩:=h
 obtain ⟨st,la,ls,lt,lc,SR⟩:=S0.get r
 obtain ⟨dx,ob⟩:=SR.get r
 refine' ⟨?t,?h,?r⟩
 case h =>
   conv=>arg 2;whnf
   with_reducible refine' (Zi ?h1)
   case h1=>exact Zp (Yy DR_go_on TR.cl hr (pv 0) (Zc (pv 1) (Zc (Xa (Zc ZO (Zc (pv 2) Za))) Za)))
 refine ⟨_,rfl,r,dx,_,rfl,ob,Wf (by decide +kernel),_,rfl,_,rfl,(by show 2≤sizeLine;decide),fun t ht=>?_⟩
 exact ⟨NS,r,t,pls,nds,tabs,k,.clr x,Δ,rfl,N,(S0.new ht _).drop t,Zh,I,hs,hk,h1,h2,h3,fun H' nds' tabs' t' S' I' _ l1 l2=>q H' nds' tabs' t' S' I' l1 l2⟩
def Zef (K:PySem.W.Frag) (CR CS:Addr):Sp:=fun vs H Q _=>∃ (r dx:Addr) (H0:Hp) (Δ:Rs),vs=[.ref r]∧H=upd (upd H0 dx (.own r)) r (.ins CR dx [])∧H0 r=none∧H0 dx=none∧dx≠r∧Sep Δ H0∧∀ H',Sep ((r,Uq K CR CS [] [.bare] [(Sum.inl 0,.bl true)])::Δ) H'→Q .non H'
abbrev nRIn:List Str:=["self"]
abbrev ZeC:List Str:=["self"]
theorem Zms:Zs nRIn ZeC (Zl c_Roads___init__):=⟨rfl,rfl,rfl,by decide +kernel,rfl,by decide +kernel,by decide +kernel⟩
theorem Zii {f:Addr} {fd:FuncData} (F:Fun K "__init__" "Roads.__init__" c_Roads___init__ f fd) (T:YB mg) (TR:WI K CR) (TC:Xm K CS) (DSto:ZeJ P w K mg base 1 CS "Store" ["self"] (Zbi K CS)) (DS_empty:DefM P w K mg base 2 CS "empty" ["self"] (Zeq K CS)):FnOk P w K mg base ZH 3 f fd ZeC (Zef K CR CS):=by
 refine F.ok Zms (fun vs H Q E h=>?_) (fun cdv A outer s H vs Q E hr h=>?_)
 · obtain ⟨r,dx,H0,Δ,rfl,_⟩:=h;rfl
 obtain ⟨r,dx,H0,Δ,rfl,rfl,h1,h2,h3,S0,q⟩:=h
 have S:=((S0.new h2 (.own r)).new (p:=r) (by rw [Zk h3.symm];exact h1) (.ins CR dx [])).drop dx
 generalize upd (upd H0 dx (.own r)) r (.ins CR dx [])=H at *
 refine' ⟨?t,?h,?r⟩
 case h =>
   conv=>arg 2;whnf
   with_reducible refine' (Zd ?h1 (Zd ?h2 (Zd ?h3 (Zd ?h4 (Zi ?h5)))))
   case h1=>exact WB (pv 0) (ZiU DSto hr) rfl
   case h2=>exact WB (pv 0) (Yn (Zc Vb Za)) rfl
   case h3=>exact WB (pv 0) (Yn (Zc Vb Za)) rfl
   case h4=>exact WB (pv 0) (Yn (Zc (ZaA DS_empty TC.cl hr (ZU (pv 0) rfl)) Za)) rfl
   case h5=>exact WB (pv 0) (Yn (Zc Zb Za)) rfl
 intro st dx2 hst hdx2 hne
 refine ⟨st,dx2,_,_,rfl,rfl,hst,hdx2,hne,S,fun H1 _ S1=>⟨rfl,?_⟩⟩
 refine ⟨_,rfl,r,CR,dx,_,rfl,S1.get r,TR.cl,TR.nk,(by show 0 < 1000;decide),?_⟩
 generalize hE:upd H1 r _=H2
 have S2:=S1.putE hE
 clear hE
 refine ⟨(by show 1≤sizeLine;decide),fun la hla=>?_⟩
 generalize hE:upd H2 la _=H3
 have S3:=S2.newE hla hE
 clear hE
 refine ⟨_,rfl,r,CR,dx,_,rfl,S3.get r,TR.cl,TR.na,(by show 1 < 1000;decide),?_⟩
 generalize hE:upd H3 r _=H4
 have S4:=S3.putE hE
 clear hE
 refine ⟨(by show 1≤sizeLine;decide),fun ls hls=>?_⟩
 generalize hE:upd H4 ls _=H5
 have S5:=S4.newE hls hE
 clear hE
 refine ⟨_,rfl,r,CR,dx,_,rfl,S5.get r,TR.cl,TR.ns,(by show 2 < 1000;decide),?_⟩
 generalize hE:upd H5 r _=H6
 have S6:=S5.putE hE
 clear hE
 obtain ⟨b0,ln,dt,SA⟩:=S6.get st
 obtain ⟨dxs,obs⟩:=SA.ob
 refine ⟨_,rfl,r,CR,dx,_,_,rfl,S6.get r,TR.cl,TR.nk,rfl,st,dxs,_,rfl,obs,ZS ln dt (by decide +kernel) (by decide +kernel),_,rfl,(by show 1≤sizeLine;decide),fun lt hlt=>?_⟩
 generalize hE:upd H6 lt _=H7
 have S7:=S6.newE hlt hE
 clear hE
 refine ⟨_,rfl,r,CR,dx,_,rfl,S7.get r,TR.cl,TR.nt,(by show 3 < 1000;decide),?_⟩
 generalize hE:upd H7 r _=H8
 have S8:=S7.putE hE
 clear hE
 refine ⟨(by show 1≤sizeLine;decide),fun lc hlc=>?_⟩
 generalize hE:upd H8 lc _=H9
 have S9:=S8.newE hlc hE
 clear hE
 refine ⟨_,rfl,r,CR,dx,_,rfl,S9.get r,TR.cl,TR.nc,(by show 4 < 1000;decide),?_⟩
 generalize hE:upd H9 r _=H10
 have S10:=S9.putE hE
 clear hE
 have S11:=S10.say ls (Us []) fun h z=>⟨[],z,rfl,fun i a s e=>by simp at e⟩
 have S12:=S11.say r (VE CR (WO st la ls lt lc)) fun h z=>⟨dx,z⟩
 have S13:=(((((S12.pull lc).pull lt).pull ls).pull la).pull st).pull r
 exact q _ (Sep.roaC (pls:=[]) S13)
end
end K20
set_option maxHeartbeats 4000000
namespace K20
open PySem L2
def StopL (pls:List ZK):YL:=fun l h=>∃ as:List Addr,h l=some (.lst (as.map V.ref))∧as.length=pls.length+1∧(∀ a,as[0]?=some a→h a=some (.tup [.non,.non]))∧∀ (i:Nat) (a:Addr) (q:ZK),as[i+1]?=some a→pls[i]?=some q→∃ b,h a=some (.tup [.int (q.ah:Int),.ref b])∧h b=some (.tup q.st.vs)
instance {pls:List ZK}:Up (StopL pls):=⟨fun ⟨as,e,l,h0,h⟩ s=>⟨as,s _ _ e,l,fun a z=>s _ _ (h0 a z),fun i a q e1 e2=>let ⟨b,z1,z2⟩:=h i a q e1 e2;⟨b,s _ _ z1,s _ _ z2⟩⟩⟩
theorem Sep.stopApp {Δ Δ':Rs} {H:Hp} {pls:List ZK} {q:ZK} {a b:Addr} {as:List Addr} (S:Sep Δ H) (l:Addr) [P:Pull l Δ (StopL pls) Δ'] (e:H l=some (.lst (as.map V.ref))) (ea:H a=some (.tup [.int (q.ah:Int),.ref b])) (eb:H b=some (.tup q.st.vs)):Sep ((l,StopL (pls++[q]))::Δ') (upd H l (.lst (as.map V.ref++[V.ref a]))):=by
 refine S.updR l _ (fun h ⟨as,e,_⟩=>⟨_,e,rfl⟩) fun h r l' h' e1 e2 e3=>?_
 obtain ⟨as',e4,hl,h0,hs⟩:=r
 have e5:=l' _ _ e4
 rw [e] at e5
 have e6:as.map V.ref=as'.map V.ref:=HO.lst.inj (Option.some.inj e5)
 have im:∀ b o,h b=some (.tup o)→h' b=some (.tup o):=fun b o z=>e2 _ _ (fun y=>by rw [y,e4] at z;cases z) z
 refine ⟨as'++[a],?_,by rw [List.length_append,List.length_append,hl];rfl,fun c z=>?_,fun i c p q1 q2=>?_⟩
 · rw [e1,List.map_append,e6];rfl
 · rw [List.getElem?_append_left (by omega)] at z
   exact im _ _ (h0 c z)
 · by_cases hi:i < pls.length
   · rw [List.getElem?_append_left (by omega)] at q1
     rw [List.getElem?_append_left hi] at q2
     obtain ⟨d,z1,z2⟩:=hs i c p q1 q2
     exact ⟨d,im _ _ z1,im _ _ z2⟩
   · rw [List.getElem?_append_right (by omega)] at q1 q2
     have h0:i - pls.length=0:=by
       cases z:i - pls.length with
       | zero=>rfl
       | succ j=>rw [z] at q2;simp at q2
     rw [show i+1 - as'.length=0 by omega] at q1
     rw [h0] at q2
     cases (show some a=some c from q1)
     cases (show some q=some p from q2)
     exact ⟨b,e3 _ _ (fun y=>by rw [y,e] at ea;cases ea) ea rfl,e3 _ _ (fun y=>by rw [y,e] at eb;cases eb) eb rfl⟩
section
variable {P:Program} {w:World} {K:PySem.W.Frag} {mg:Str→Option Value} {base:Heap} {CR CS Pl:Addr}
def ZdO (K:PySem.W.Frag) (CR CS Pl:Addr):Sp:=fun vs H Q _=>∃ (NS:List Str) (r sl sa:Addr) (pls:List ZK) (nds:List Nd) (tabs:List (Zj×V)) (k:Nat) (s:Stp) (Δ:Rs),vs=[.ref r,.ref sl,.int (k:Int),.ref sa]∧Ym NS∧Sep ((r,Uq K CR CS pls nds tabs)::(Pl,Xn)::(sl,StopL pls)::Δ) H∧H sa=some (.tup s.vs)∧RInv NS pls nds tabs∧s.ok NS∧k≤pls.length∧pls.length≤10000∧nds.length≤90000∧tabs.length≤90000 ∧
 ∀ (H':Hp) (nds':List Nd) (tabs':List (Zj×V)) (q:ZK),Sep ((r,Uq K CR CS (pls++[q]) nds' tabs')::(Pl,Xn)::(sl,StopL (pls++[q]))::Δ) H'→RInv NS (pls++[q]) nds' tabs'→nds'.length≤nds.length+6→tabs'.length≤tabs.length+1→q.st.ok NS→Q (.bl true) H'
abbrev nGr:List Str:=["_law_roads","_law_stops","_law_place","_law_step_here","_law_told"]
abbrev Zix:List Str:=["_law_roads","_law_stops","_law_place","_law_step_here"]
theorem scGr:Zs nGr Zix (Zl s_l_grown):=⟨rfl,rfl,rfl,by decide +kernel,rfl,by decide +kernel,by decide +kernel⟩
theorem ZhD {f:Addr} {fd:FuncData} (F:Fun K "_law_grown" "_law_grown" s_l_grown f fd) (T:YB mg) (TR:WI K CR) (DR_put:DefM P w K mg base 11 CR "put" ZeL (Zgw K CR CS Pl)) (DR_clear:DefM P w K mg base 11 CR "clear" Zfr (ZfU K CR CS Pl)):FnOk P w K mg base ZH 12 f fd Zix (ZdO K CR CS Pl):=by
 refine F.ok scGr (fun vs H Q E h=>?_) (fun cdv A outer s H vs Q E hr h=>?_)
 · obtain ⟨NS,r,sl,sa,pls,nds,tabs,k,s,Δ,rfl,_⟩:=h;rfl
 obtain ⟨NS,r,sl,sa,pls,nds,tabs,k,s,Δ,rfl,N,S0,es,I,hs,hk,h1,h2,h3,q⟩:=h
 obtain ⟨st,la,ls,lt,lc,SR⟩:=S0.get r
 obtain ⟨dx,ob⟩:=SR.get r
 refine' ⟨?t,?h,?r⟩
 case h =>
   conv=>arg 2;whnf
   with_reducible refine' (Zd (Yk ?h1 (Zi ?h2) (Zi ?h3)) (Zd ?h4 (Zi ?h5)))
   case h1=>exact ZL Yq (Zo ZQ (pv 3) Zb (fun _ _=>rfl)) ZO (ZE _)
   case h2=>exact Zx (i:=4) scGr.nd rfl (Or.inl rfl) (Yy DR_put TR.cl hr (pv 0) (Zc (pv 2) (Zc (Zo ZQ (pv 3) Zb (fun _ _=>rfl)) (Zc (Zo ZQ (pv 3) Zb (fun _ _=>rfl)) Za))))
   case h3=>exact Zx (i:=4) scGr.nd rfl (Or.inl rfl) (Yy DR_clear TR.cl hr (pv 0) (Zc (pv 2) (Zc (Zo ZQ (pv 3) Zb (fun _ _=>rfl)) Za)))
   case h4=>exact YC (Xg PySem.F.plainAttrs_list PySem.F.slot_list_append PySem.F.type_list_append Yt (pv 1) (Zc (Xa (Zc (pv 2) (Zc (pv 3) Za))) Za))
   case h5=>exact Zp (Um (Zw XD rfl T.isinstance (by decide +kernel) (Zc (pv 4) (Zc (Wc rfl T.int (by decide +kernel) (v:=.ty "int") rfl) Za))) (Um (ZkT (Zw XD rfl T.isinstance (by decide +kernel) (Zc (pv 4) (Zc (Wc rfl T.bool (by decide +kernel) (v:=.ty "bool") rfl) Za)))) (Zan (YT Yq (pv 4) (Zn Yx (Zw ZG rfl T.len PySem.boot_len (Zc (pv 1) Za)) Zb) (ZE _)))))
 have S1:=((S0.imm es rfl).pull Pl).pull r
 cases s with
 | set x v =>
   refine ⟨_,rfl,sa,_,_,_,rfl,rfl,SqT.of es,Zv (j:=0) rfl,rfl,_,rfl,?_⟩
   rw [decide_eq_true rfl]
   refine Yh ⟨_,rfl,r,dx,_,rfl,ob,Wf (by decide +kernel),_,rfl,_,rfl,sa,_,_,_,rfl,rfl,SqT.of es,Zv (j:=1) rfl,_,rfl,sa,_,_,_,rfl,rfl,SqT.of es,Zv (j:=2) rfl,?_⟩
   refine ⟨NS,r,pls,nds,tabs,k,x,v,_,rfl,N,S1,I,hs,hk,h1,h2,h3,fun H2 nds2 tabs2 t2 S2 I2 l1 l2=>?_⟩
   obtain ⟨as,els,hal,_⟩:=S2.get sl
   refine ⟨_,rfl,.inl ⟨rfl,_,SqL.of els⟩,_,rfl,_,rfl,(by show 2≤sizeLine;decide),fun t ht=>?_⟩
   generalize hE:upd H2 t _=H3
   have S3:=S2.newE ht hE
   have els3:H3 sl=some (.lst (as.map V.ref)):=by rw [← hE,Zk (Zt els ht)];exact els
   clear hE
   refine ⟨sl,_,_,rfl,rfl,els3,Xh (show _≤20000 by rw [List.length_map];omega),?_⟩
   generalize hE:upd H3 sl _=H4
   have S4:=hE ▸ Sep.stopApp (q:=⟨k,.set x v,t2,nds2.length - nds.length⟩) S3 sl els3 (S3.get t) (S3.get sa)
   have els4:H4 sl=some (.lst (as.map V.ref++[V.ref t])):=by rw [← hE];exact Zh
   clear hE
   refine ⟨_,rfl,_,_,_,_,rfl,.int _,rfl,true,rfl,Yh ⟨_,rfl,_,_,_,_,rfl,.int _,rfl,false,rfl,true,rfl,Yh ?_⟩⟩
   refine ⟨_,rfl,_,rfl,sl,_,rfl,.inl (SqL.of els4),_,_,rfl,rfl,rfl,?_⟩
   rw [decide_eq_true (show V.int ((pls.length+1:Nat):Int)=V.int (((as.map V.ref++[V.ref t]).length:Nat) - 1:Int) from congrArg V.int (by rw [List.length_append,List.length_map,hal];show _=((pls.length+1+1:Nat):Int) - 1;omega))]
   exact q H4 nds2 tabs2 _ (((((S4.drop t).drop sa).pull sl).pull Pl).pull r) I2 l1 l2 hs
 | clr x =>
   refine ⟨_,rfl,sa,_,_,_,rfl,rfl,SqT.of es,Zv (j:=0) rfl,rfl,_,rfl,?_⟩
   rw [show decide (V.str "clear"=V.str (Str.ofString "set"))=false by decide +kernel]
   refine ZM ⟨_,rfl,r,dx,_,rfl,ob,Wf (by decide +kernel),_,rfl,_,rfl,sa,_,_,_,rfl,rfl,SqT.of es,Zv (j:=1) rfl,?_⟩
   refine ⟨NS,r,pls,nds,tabs,k,x,_,rfl,N,S1,I,hs,hk,h1,h2,h3,fun H2 nds2 tabs2 t2 S2 I2 l1 l2=>?_⟩
   obtain ⟨as,els,hal,_⟩:=S2.get sl
   refine ⟨_,rfl,.inl ⟨rfl,_,SqL.of els⟩,_,rfl,_,rfl,(by show 2≤sizeLine;decide),fun t ht=>?_⟩
   generalize hE:upd H2 t _=H3
   have S3:=S2.newE ht hE
   have els3:H3 sl=some (.lst (as.map V.ref)):=by rw [← hE,Zk (Zt els ht)];exact els
   clear hE
   refine ⟨sl,_,_,rfl,rfl,els3,Xh (show _≤20000 by rw [List.length_map];omega),?_⟩
   generalize hE:upd H3 sl _=H4
   have S4:=hE ▸ Sep.stopApp (q:=⟨k,.clr x,t2,nds2.length - nds.length⟩) S3 sl els3 (S3.get t) (S3.get sa)
   have els4:H4 sl=some (.lst (as.map V.ref++[V.ref t])):=by rw [← hE];exact Zh
   clear hE
   refine ⟨_,rfl,_,_,_,_,rfl,.int _,rfl,true,rfl,Yh ⟨_,rfl,_,_,_,_,rfl,.int _,rfl,false,rfl,true,rfl,Yh ?_⟩⟩
   refine ⟨_,rfl,_,rfl,sl,_,rfl,.inl (SqL.of els4),_,_,rfl,rfl,rfl,?_⟩
   rw [decide_eq_true (show V.int ((pls.length+1:Nat):Int)=V.int (((as.map V.ref++[V.ref t]).length:Nat) - 1:Int) from congrArg V.int (by rw [List.length_append,List.length_map,hal];show _=((pls.length+1+1:Nat):Int) - 1;omega))]
   exact q H4 nds2 tabs2 _ (((((S4.drop t).drop sa).pull sl).pull Pl).pull r) I2 l1 l2 hs
end
end K20
set_option maxHeartbeats 4000000
namespace K20
open PySem L2
section
variable {P:Program} {w:World} {K:PySem.W.Frag} {mg:Str→Option Value} {base:Heap} {CR CS Pl:Addr}
theorem StopL.at {pls:List ZK} {l:Addr} {H:Hp} {k:Nat} (h:StopL pls l H) (hk:k≤pls.length):∃ xs a x y,H l=some (.lst xs)∧xs[k]?=some (.ref a)∧H a=some (.tup [x,y])∧x=ahV pls k∧StV pls k y H∧xs.length=pls.length+1:=by
 obtain ⟨as,e,hl,h0,hs⟩:=h
 have ha:=List.getElem?_eq_getElem (show k < as.length by omega)
 refine ⟨as.map V.ref,as[k],?_⟩
 cases k with
 | zero=>exact ⟨_,_,e,by rw [List.getElem?_map,ha];rfl,h0 _ ha,rfl,rfl,by rw [List.length_map];exact hl⟩
 | succ k =>
   have hp:=List.getElem?_eq_getElem (show k < pls.length by omega)
   obtain ⟨b,z1,z2⟩:=hs k _ _ ha hp
   refine ⟨_,_,e,by rw [List.getElem?_map,ha];rfl,z1,?_,⟨b,_,rfl,by rw [List.getElem?_map,hp];rfl,z2⟩,by rw [List.length_map];exact hl⟩
   show _=V.int (((pls.getD k ⟨0,.clr "",0,0⟩).ah:Nat):Int)
   rw [List.getD_eq_getElem?_getD,hp];rfl
def ZdF:Sp:=fun vs H Q _=>∃ (sl:Addr) (pls:List ZK) (k:Nat),vs=[.ref sl,.int (k:Int)]∧StopL pls sl H∧WfP pls∧k≤pls.length∧pls.length≤10000∧∀ l H',Same H H'→H l=none→H' l=some (.lst ((rd pls k).map nV))→Q (.ref l) H'
abbrev nRo:List Str:=["_law_stops","_law_place","_law_found"]
abbrev ZhY:List Str:=["_law_stops","_law_place"]
theorem scRo:Zs nRo ZhY (Zl s_l_road):=⟨rfl,rfl,rfl,by decide +kernel,rfl,by decide +kernel,by decide +kernel⟩
theorem ZhH {f:Addr} {fd:FuncData} (F:Fun K "_law_road" "_law_road" s_l_road f fd) (T:YB mg):FnOk P w K mg base ZH 1 f fd ZhY ZdF:=by
 refine F.ok scRo (fun vs H Q E h=>?_) (fun cdv A outer s H vs Q E hr h=>?_)
 · obtain ⟨sl,pls,k,rfl,_⟩:=h;rfl
 obtain ⟨sl,pls,k,rfl,R,hw,hk,hpl,q⟩:=h
 refine' ⟨?t,?h,?r⟩
 case h =>
   conv=>arg 2;whnf
   with_reducible refine' (Zd ?h1 (Zd (VT ?h2 ?h3 (Zi ?h4)) (Zi ?h5)))
   case h1=>exact Zx (i:=2) scRo.nd rfl (Or.inl rfl) (Yn (Zc (pv 1) Za))
   case h2=>exact PassesOwn.never
   case h3=>exact ZL ZeR (Zo Zy (pv 2) Zb (fun _ _=>rfl)) Zb (ZE _)
   case h4=>exact YC (Xg PySem.F.plainAttrs_list PySem.F.slot_list_insert PySem.F.type_list_insert ZgW (pv 2) (Zc Zb (Zc (Zo ZQ (Zo Zy (pv 0) (Zo Zy (pv 2) Zb (fun _ _=>rfl)) (fun _ _=>rfl)) Zb (fun _ _=>rfl)) Za)))
   case h5=>exact Zp (pv 2)
 refine ⟨_,rfl,(by show 1≤sizeLine;decide),fun l hl=>?_⟩
 refine ⟨fun m σ H'=>∃ (bs:List Nat) (j:Nat),σ=[some (.ref sl),some (.int (k:Int)),some (.ref l)]∧Same H H'∧H' l=some (.lst ((j::bs).map nV))∧bs.length+j≤k∧j≤pls.length∧m=j∧bs.reverse++bk pls (j+1) j=bk pls (k+1) k,
   ⟨k,[],k,rfl,ZB hl _,Zh,by show 0+k≤k;omega,hk,rfl,rfl⟩,?_⟩
 rintro j σ H2 ⟨bs,j',rfl,s2,el,hm,hj,rfl,hbs⟩
 refine ⟨_,rfl,l,_,_,_,rfl,rfl,SqL.of el,Zv (j:=0) rfl,_,_,rfl,rfl,_,rfl,Xs (fun c=>?_) (fun c=>?_)⟩
 · have hj0:0 < j:=by have:=of_decide_eq_true c;omega
   obtain ⟨xs,a,x,y,e1,e2,e3,e4,_,_⟩:=StopL.at (Up.up R s2) hj
   refine ⟨_,fun σ' H' h=>h,_,rfl,.inl ⟨rfl,_,SqL.of el⟩,_,rfl,_,rfl,l,_,_,_,rfl,rfl,SqL.of el,Zv (j:=0) rfl,sl,_,_,_,rfl,rfl,SqL.of e1,Zv (j:=j) e2,a,_,_,_,rfl,rfl,SqT.of e3,Zv (j:=0) rfl,l,_,0,_,rfl,rfl,el,?_,by decide,?_⟩
   · rw [List.length_map,List.length_cons];omega
   obtain ⟨i,rfl⟩:∃ i,j=i+1:=⟨j - 1,by omega⟩
   have ha:=hw.at (show i < pls.length by omega)
   subst e4
   refine ⟨(pls.getD i ⟨0,.clr "",0,0⟩).ah,by omega,(i+1)::bs,_,rfl,fun b o e=>?_,Zh,by show bs.length+1+_≤k;omega,by omega,rfl,?_⟩
   · rw [Zk (Zt e hl)];exact s2 _ _ e
   · rw [List.reverse_cons,List.append_assoc,← hbs]
     show bs.reverse++(i+1)::bk pls _ _=bs.reverse++(i+1)::bk pls (i+1) _
     rw [ZdP hw _ (by omega) (i+1) (by omega)]
 · have hj0:j=0:=by have:¬ (0:Int) < (j:Int):=fun z=>c (decide_eq_true z);omega
   subst hj0
   refine ⟨_,rfl,q l H2 s2 hl ?_⟩
   rw [el]
   unfold rd
   rw [← hbs,List.reverse_append,List.reverse_reverse];rfl
end
end K20
set_option maxHeartbeats 4000000
namespace K20
open PySem L2
section
variable {P:Program} {w:World} {K:PySem.W.Frag} {mg:Str→Option Value} {base:Heap} {CR CS Pl:Addr}
def NvV (v:V):Prop:=v=.non∨YY v
theorem Zdk {v:V} (h:NvV v):v=.non∨(∃ i,v=.int i)∨∃ x,v=.str x:=by
 rcases h with h | h
 · exact .inl h
 · cases v <;> first | exact .inr (.inl ⟨_,rfl⟩) | exact .inr (.inr ⟨_,rfl⟩) | exact h.elim
end
end K20
set_option maxHeartbeats 2000000
namespace L2
open PySem PySem.W PySem.Spec PyProof.Rows
section
variable {O:KeyOrd} {key:Nat→O.α} {n:Nat} {s:Shared} {cmp:Nat→Nat→(Bool→Shared→Prop)→Shared→Prop}
end
end L2
set_option maxHeartbeats 2000000
namespace L2
open PySem PySem.W PySem.Spec PyProof.Rows
section
variable {prog:Program} {w:World} {A:Around} {E:Value→Shared→Prop} {s:Shared} {a:Addr} {as:List Addr} {ks:List Str} {P:PySem.Fin→Shared→Prop}
end
section
variable {X:Cx}
def kP (p:Str×V):Zj×V:=(Sum.inr p.1,p.2)
end
end L2
set_option maxHeartbeats 2000000
namespace L2
open PySem
structure Sml (d:PyData) (n k:Nat):Prop where
 sh:d.showable=true
 ln:d.shown.length≤n
 dp:d.depth≤k
end L2
set_option maxHeartbeats 2000000
namespace L2
open PySem
end L2
set_option maxHeartbeats 2000000
namespace L2
open PySem
end L2
set_option maxHeartbeats 2000000
namespace L2
open PySem PySem.Spec PyProof.Rows
section
variable {X:Cx}
end
end L2
set_option maxHeartbeats 2000000
namespace L2
open PySem PySem.Spec PyProof.Rows
mutual
inductive DatT (K:PySem.W.Frag) (H:Hp):V→PyData→Prop
 | non:DatT K H .non .none
 | int (i):DatT K H (.int i) (.int i)
 | str (x):DatT K H (.str x) (.str x)
 | tup {a xs ds}:SqT K H a xs→DatTs K H xs ds→DatT K H (.ref a) (.tuple ds)
inductive DatTs (K:PySem.W.Frag) (H:Hp):List V→List PyData→Prop
 | nil:DatTs K H [] []
 | cons {v d vs ds}:DatT K H v d→DatTs K H vs ds→DatTs K H (v::vs) (d::ds)
end
section
variable {X:Cx} {pins:List (Addr×Obj)} {σ:St} {H:Hp} {s:Shared}
mutual
theorem DatT.reads (I:Inv X pins σ H s):∀ {v d} (u:Value),DatT X.K H v d→RelV v u→d.hasDict=false∧∃ as,Reads s.heap u d as
 | _,_,u,.non,r=>by cases (show u=.none from r);exact ⟨rfl,_,.none⟩
 | _,_,u,.int i,r=>by obtain ⟨t,e⟩:=(show ∃ t,u=.int i t from r);subst e;exact ⟨rfl,_,.int i t⟩
 | _,_,u,.str x,r=>by obtain ⟨t,e⟩:=(show ∃ t,u=.str x t from r);subst e;exact ⟨rfl,_,.str x t⟩
 | _,_,u,.tup (a:=a) (xs:=xs) e q,r=>by
   cases (show u=.ref a from r)
   obtain ⟨its,rv,⟨o,g,c,n,d⟩,_⟩:=I.tuple e
   obtain ⟨nd,as,ra⟩:=DatTs.reads I its q rv
   exact ⟨by simpa [PyData.hasDict] using nd,_,.tuple g c d (by simpa using ra)⟩
theorem DatTs.reads (I:Inv X pins σ H s):∀ {vs ds} (us:List Value),DatTs X.K H vs ds→Vals vs us→PyData.hasDictAll ds=false∧∃ as,ReadsAll s.heap us ds as
 | _,_,_,.nil,.nil=>⟨rfl,_,.nil⟩
 | _,_,_,.cons r t,.cons rv tv=>by
   obtain ⟨n1,as,r1⟩:=DatT.reads I _ r rv
   obtain ⟨n2,bs,r2⟩:=DatTs.reads I _ t tv
   exact ⟨by simp [PyData.hasDictAll,n1,n2],_,.cons r1 r2⟩
end
end
end L2
set_option maxHeartbeats 2000000
namespace L2
open PySem
end L2
set_option maxHeartbeats 2000000
namespace L2
open PySem PySem.W PySem.Spec PyProof.Rows
section
variable {X:Cx}
end
end L2
set_option maxHeartbeats 2000000
namespace L2
open PySem
end L2
set_option maxHeartbeats 2000000
namespace L2
open PySem PySem.Spec PyProof.Rows
section
variable {X:Cx} {pins:List (Addr×Obj)} {σ:St} {H:Hp} {s:Shared} {d:Addr} {o:Obj} {kvs:List (Zj×V)}
end
section
variable {X:Cx} {tg:Expr}
end
end L2
set_option maxHeartbeats 2000000
namespace L2
open PySem PySem.W PySem.Spec PyProof.Rows
section
variable {X:Cx}
end
end L2
set_option maxHeartbeats 2000000
namespace L2
open PySem
end L2
set_option maxHeartbeats 2000000
namespace L2
open PySem PySem.W PySem.Spec PyProof.Rows
section
variable {X:Cx}
end
end L2
set_option maxHeartbeats 2000000
namespace L2
open PySem PySem.Spec PyProof.Rows
theorem Zbq {H:Hp} {a:Addr} {xs:List Int} (e:H a=some (.lst (xs.map V.int))):DataOf H (.ref a) (.list (xs.map PyData.int))∧(PyData.list (xs.map PyData.int)).canLay0=true∧(PyData.list (xs.map PyData.int)).depth≤60:=by
 have h1:∀ xs:List Int,DatasOf H (xs.map V.int) (xs.map PyData.int):=by
   intro xs
   induction xs with
   | nil=>exact .nil
   | cons x r ih=>exact .cons (.int x) ih
 have h2:∀ xs:List Int,PyData.canLayAll0 (xs.map PyData.int)=true:=by
   intro xs
   induction xs with
   | nil=>rfl
   | cons x r ih=>exact ih
 have h3:∀ xs:List Int,PyData.depthAll (xs.map PyData.int)=0:=by
   intro xs
   induction xs with
   | nil=>rfl
   | cons x r ih=>rw [List.map_cons,PyData.depthAll,ih];rfl
 refine ⟨.lst e (h1 xs),by rw [PyData.canLay0];exact h2 xs,?_⟩
 rw [PyData.depth,h3];decide
end L2
set_option maxHeartbeats 2000000
namespace L2
open PySem PySem.Spec PyProof.Rows
inductive Pg where
 | set (x:Str) (v:V) (s:Str)
 | look (x:Str)
 | slot (w s:Str)
 | pass
 | blk (w:Str) (ps:List Pg)
 | inn (s:Str) (ps:List Pg)
mutual
inductive UH (K:PySem.W.Frag) (H:Hp):V→Pg→Prop
 | set {a x v s}:SqT K H a [.str "set",.str x,v,.str s]→YY v→UH K H (.ref a) (.set x v s)
 | look {a x}:SqT K H a [.str "look",.str x]→UH K H (.ref a) (.look x)
 | slot {a w s}:SqT K H a [.str w,.str s]→w="back"∨w="copy"→UH K H (.ref a) (.slot w s)
 | pass {a}:SqT K H a [.str "pass"]→UH K H (.ref a) .pass
 | blk {a w t ps}:SqT K H a [.str w,t]→w="begin"∨w="late"→Zez K H t ps→UH K H (.ref a) (.blk w ps)
 | inn {a s t ps}:SqT K H a [.str "in",.str s,t]→Zez K H t ps→UH K H (.ref a) (.inn s ps)
inductive Zez (K:PySem.W.Frag) (H:Hp):V→List Pg→Prop
 | mk {a xs ps}:SqT K H a xs→ZaN K H xs ps→Zez K H (.ref a) ps
inductive ZaN (K:PySem.W.Frag) (H:Hp):List V→List Pg→Prop
 | nil:ZaN K H [] []
 | cons {v p vs ps}:UH K H v p→ZaN K H vs ps→ZaN K H (v::vs) (p::ps)
end
end L2
set_option maxHeartbeats 2000000
namespace L2
open PySem PySem.W PySem.Spec PyProof.Rows
section
variable {X:Cx}
end
end L2
set_option maxHeartbeats 4000000
namespace K20
open PySem L2
def foS:Stp→List (Str×V)→List (Str×V)
 | .set x v,ps=>YZ ps x v
 | .clr x,ps=>YJ ps x
theorem ZlJ (s:Stp) (ps:List (Str×V)):lk (foS s ps)=s.ap (lk ps):=by
 cases s with
 | set x v=>funext y;show lk (YZ ps x v) y=if y=x then some v else lk ps y;rw [Zed]
 | clr x=>funext y;show lk (YJ ps x) y=if y=x then none else lk ps y;rw [Zbj]
def foK (pls:List ZK) (ps:List (Str×V)) (j:Nat):List (Str×V):=foS (pls.getD (j - 1) ⟨0,.clr "",0,0⟩).st ps
theorem Zgm {pls:List ZK} (hw:WfP pls) {k:Nat} {q:ZK} {F:Str→Option V} (hq:pls[k]?=some q) (hF:(envs pls)[q.ah]?=some F):(envs pls)[k+1]?=some (q.st.ap F):=by
 revert hw hq hF
 induction pls using Zbl with
 | h0=>intro _ h _;simp at h
 | hs l a ih =>
   intro hw hq hF
   have hwl:WfP l:=fun j p e=>hw j p (by rw [List.getElem?_append_left (List.getElem?_eq_some_iff.mp e).1];exact e)
   have hqk:=hw k q hq
   by_cases h:k < l.length
   · rw [List.getElem?_append_left h] at hq
     rw [Xp,List.getElem?_append_left (by rw [YV];omega)] at hF
     rw [Xp,List.getElem?_append_left (by rw [YV];omega)]
     exact ih hwl hq hF
   · rw [List.getElem?_append_right (by omega)] at hq
     have hz:k - l.length=0:=by
       cases z:k - l.length with
       | zero=>rfl
       | succ j=>rw [z] at hq;simp at hq
     rw [hz] at hq
     cases (show some a=some q from hq)
     rw [Xp,List.getElem?_append_left (by rw [YV];omega)] at hF
     rw [Xp,List.getElem?_append_right (by rw [YV];omega),YV,show k+1 - (l.length+1)=0 by omega,List.getD_eq_getElem?_getD,hF]
     rfl
theorem ZiR {pls:List ZK} (hw:WfP pls) {k:Nat} {q:ZK} (hq:pls[k]?=some q):rd pls (k+1)=rd pls q.ah++[k+1]:=by
 have hk:=(List.getElem?_eq_some_iff.mp hq).1
 have hqk:=hw k q hq
 unfold rd
 show ((k+1)::bk pls (k+1) (pls.getD k ⟨0,.clr "",0,0⟩).ah).reverse=_
 rw [List.getD_eq_getElem?_getD,hq]
 show ((k+1)::bk pls (k+1) q.ah).reverse=_
 rw [List.reverse_cons,ZdP hw q.ah (by omega) (k+1) (by omega)]
theorem ZiT (pls:List ZK) (k:Nat):rd pls k≠[]:=fun z=>by
 have h9:=congrArg List.length z
 unfold rd at h9
 rw [List.length_reverse] at h9
 cases k <;> simp [bk] at h9
theorem env0 (pls:List ZK):(envs pls)[0]?=some fun _=>none:=by
 induction pls using Zbl with
 | h0=>rfl
 | hs l a ih=>rw [Xp,List.getElem?_append_left (by rw [YV];omega)];exact ih
theorem Zkk {pls:List ZK} (hw:WfP pls):∀ k,k≤pls.length→(envs pls)[k]?=some (lk ((rd pls k).tail.foldl (foK pls) [])):=by
 intro k
 induction k using Nat.strongRecOn with
 | ind k ih =>
   intro hk
   cases k with
   | zero =>
     exact env0 pls
   | succ k =>
     have hq:=List.getElem?_eq_getElem (show k < pls.length by omega)
     have hqk:=hw k _ hq
     have e:=ih pls[k].ah (by omega) (by omega)
     rw [Zgm hw hq e,ZiR hw hq]
     obtain ⟨r0,rt,er⟩:=List.exists_cons_of_ne_nil (ZiT pls pls[k].ah)
     rw [er]
     show some _=some (lk ((rt++[k+1]).foldl (foK pls) []))
     rw [List.foldl_append]
     show some (pls[k].st.ap (lk (rt.foldl (foK pls) [])))=some (lk (foS (pls.getD k ⟨0,.clr "",0,0⟩).st (rt.foldl (foK pls) [])))
     rw [ZlJ,List.getD_eq_getElem?_getD,hq];rfl
def HeldOk (NS:List Str) (ps:List (Str×V)):Prop:=(ps.map (·.1)).Nodup∧∀ p∈ps,p.1∈NS∧YY p.2
theorem HeldOk.few {NS:List Str} {ps:List (Str×V)} (h:HeldOk NS ps):ps.length≤NS.length:=by
 have:=ZdU h.1 (N:=NS) fun x hx=>by obtain ⟨p,hp,rfl⟩:=List.mem_map.mp hx;exact (h.2 p hp).1
 rwa [List.length_map] at this
theorem HeldOk.nv {NS:List Str} {ps:List (Str×V)} (h:HeldOk NS ps) (x:Str):NvV ((lk ps x).getD .non):=by
 cases e:lk ps x with
 | none=>exact .inl rfl
 | some v=>exact .inr (h.2 _ ((Xo h.1).mp e)).2
theorem Zit {ps:List (Str×V)} {x:Str} {v:V} {p:Str×V} (h:p∈YZ ps x v):p=(x,v)∨p∈ps:=by
 unfold YZ at h
 split at h
 · obtain ⟨r,hr,e⟩:=List.mem_map.mp h
   split at e
   · rename_i z;rw [← e,z];exact .inl rfl
   · rw [← e];exact .inr hr
 · rcases List.mem_append.mp h with h | h
   · exact .inr h
   · exact .inl (List.mem_singleton.mp h)
theorem HeldOk.put {NS:List Str} {ps:List (Str×V)} {x:Str} {v:V} (h:HeldOk NS ps) (hx:x∈NS) (hv:YY v):HeldOk NS (YZ ps x v):=by
 refine ⟨?_,fun p hp=>?_⟩
 · rw [Zbo]
   by_cases z:x∈ps.map (·.1)
   · rw [if_pos z];exact h.1
   · rw [if_neg z,List.nodup_append]
     exact ⟨h.1,by simp,fun a ha b hb e=>z (by rw [List.mem_singleton.mp hb] at e;rw [← e];exact ha)⟩
 · rcases Zit hp with rfl | z
   · exact ⟨hx,hv⟩
   · exact h.2 p z
theorem HeldOk.but {NS:List Str} {ps:List (Str×V)} {x:Str} (h:HeldOk NS ps):HeldOk NS (YJ ps x):=by
 have hs:(YJ ps x).Sublist ps:=List.filter_sublist
 exact ⟨h.1.sublist (hs.map (·.1)),fun p hp=>h.2 p (hs.subset hp)⟩
theorem Zik (ps:List (Str×V)) (x:Str):UK (ps.map kP) (Sum.inr x)=(YJ ps x).map kP:=by
 unfold UK YJ
 rw [List.filter_map]
 congr 1
 apply List.filter_congr
 intro p _
 show _=!decide (p.1=x)
 by_cases z:p.1=x
 · simp [kP,z]
 · simp [kP,z]
theorem ZhG {ps:List (Str×V)} {x:Str} (h:lk ps x=none):YJ ps x=ps:=by
 unfold YJ
 rw [List.filter_eq_self]
 intro p hp
 have:p.1≠x:=fun z=>by
   have h2:∀ {l:List (Str×V)},(∃ p∈l,p.1=x)→lk l x≠none:=by
     intro l
     induction l with
     | nil=>rintro ⟨_,h,_⟩;cases h
     | cons a l ih =>
       rintro ⟨p,hp,e⟩
       rw [XJ]
       by_cases z:a.1=x
       · rw [if_pos z];intro y;cases y
       · rw [if_neg z]
         rcases List.mem_cons.mp hp with y | y
         · rw [y] at e;exact absurd e z
         · exact ih ⟨p,y,e⟩
   exact h2 ⟨p,hp,z⟩ h
 simp [this]
section
variable {P:Program} {w:World} {K:PySem.W.Frag} {mg:Str→Option Value} {base:Heap} {CR CS Pl:Addr}
theorem Zid (xs:List V):UU xs (some 1) none=xs.tail:=by
 unfold UU
 rw [show (1:Int)=((1:Nat):Int) from rfl,HT.sIx_nat]
 show (xs.drop (min 1 xs.length)).take (xs.length - min 1 xs.length)=xs.tail
 cases xs with
 | nil=>rfl
 | cons x r=>rw [Nat.min_eq_left (by rw [List.length_cons];omega)];show r.take (r.length+1 - 1)=r;rw [Nat.add_sub_cancel,List.take_of_length_le (Nat.le_refl _)]
theorem ZmD {pls:List ZK} (hw:WfP pls):∀ k,k≤pls.length→∀ j∈(rd pls k).tail,∃ m q,j=m+1∧pls[m]?=some q:=by
 intro k
 induction k using Nat.strongRecOn with
 | ind k ih =>
   intro hk j hj
   cases k with
   | zero=>simp [rd,bk] at hj
   | succ k =>
     have hq:=List.getElem?_eq_getElem (show k < pls.length by omega)
     have hqk:=hw k _ hq
     rw [ZiR hw hq] at hj
     obtain ⟨r0,rt,er⟩:=List.exists_cons_of_ne_nil (ZiT pls pls[k].ah)
     rw [er] at hj
     rcases List.mem_append.mp (show j∈rt++[k+1] from hj) with z | z
     · exact ih pls[k].ah (by omega) (by omega) j (by rw [er];exact z)
     · exact ⟨k,_,List.mem_singleton.mp z,hq⟩
theorem ZkK {NS:List Str} {s:Stp} {ps:List (Str×V)} (h:HeldOk NS ps) (hs:s.ok NS):HeldOk NS (foS s ps):=by
 cases s with
 | set x v=>exact h.put hs.1 hs.2
 | clr x=>exact h.but
def ZiK:Sp:=fun vs H Q _=>∃ (sl:Addr) (pls:List ZK) (k:Nat) (NS:List Str) (Δ:Rs),vs=[.ref sl,.int (k:Int)]∧Sep ((sl,StopL pls)::Δ) H∧WfP pls∧k≤pls.length∧pls.length≤500∧(∀ q∈pls,q.st.ok NS)∧NS.length≤50 ∧
 ∀ (d:Addr) (H':Hp) (ps:List (Str×V)),Sep ((d,Dic (ps.map kP))::(sl,StopL pls)::Δ) H'→HeldOk NS ps→(envs pls)[k]?=some (lk ps)→Q (.ref d) H'
abbrev nLl:List Str:=["_law_stops","_law_place","_law_found","_law_spot","_law_step_here"]
abbrev Zhe:List Str:=["_law_stops","_law_place"]
theorem scLl:Zs nLl Zhe (Zl s_l_all):=⟨rfl,rfl,rfl,by decide +kernel,rfl,by decide +kernel,by decide +kernel⟩
theorem Zkx {f:Addr} {fd:FuncData} (F:Fun K "_law_all" "_law_all" s_l_all f fd) (T:YB mg) (DRo:Def P w K mg base 4 "_law_road" ZhY ZdF):FnOk P w K mg base ZH 5 f fd Zhe ZiK:=by
 refine F.ok scLl (fun vs H Q E h=>?_) (fun cdv A outer s H vs Q E hr h=>?_)
 · obtain ⟨sl,pls,k,NS,Δ,rfl,_⟩:=h;rfl
 obtain ⟨sl,pls,k,NS,Δ,rfl,S,hw,hk,hpl,hok,hNl,q⟩:=h
 refine' ⟨?t,?h,?r⟩
 case h =>
   conv=>arg 2;whnf
   with_reducible refine' (Zd ?h1 (Zd (Uh ?h2 ?h3 ?h4 ?h5 (Zd ?h6 (Zi (Yk ?h7 (Zi ?h8) (Zi ?h9)))) ?h10) (Zi ?h11)))
   case h1=>exact Zx (i:=2) scLl.nd rfl (Or.inl rfl) ZhJ
   case h2=>exact PassesOwn.never
   case h3=>exact rfl
   case h4=>exact Ur (Wa ZaW (Zz DRo hr (Zc (pv 0) (Zc (pv 1) Za))) (Wu Zb) Wv)
   case h5=>exact ZN (i:=3) scLl.nd rfl (Or.inl rfl)
   case h6=>exact Zx (i:=4) scLl.nd rfl (Or.inl rfl) (Zo ZQ (Zo Zy (pv 0) (pv 3) (fun _ _=>rfl)) Zb (fun _ _=>rfl))
   case h7=>exact ZL Yq (Zo ZQ (pv 4) Zb (fun _ _=>rfl)) ZO (ZE _)
   case h8=>exact Zbc (UI hr) (pv 2) (Zo ZQ (pv 4) Zb (fun _ _=>rfl)) (Zo ZQ (pv 4) Zb (fun _ _=>rfl)) rfl
   case h9=>exact YC (Zhh (pv 2) (Zo ZQ (pv 4) Zb (fun _ _=>rfl)) Vb ⟨rfl,rfl,rfl,rfl⟩)
   case h10=>exact fun _=>rfl
   case h11=>exact Zp (pv 2)
 refine fun d hd=>?_
 generalize hE:upd H d _=H1
 have S1:=S.newE hd hE
 clear hE
 refine ⟨_,rfl,_,rfl,sl,pls,k,rfl,S1.get sl,hw,hk,by omega,fun l H2 s2 hl2 el2=>?_⟩
 have S2:=S1.mono s2
 refine ⟨_,rfl,l,_,rfl,SqL.of el2,fun l3 hl3=>⟨l3,rfl,⟨_,SqL.of Zh⟩,?_⟩⟩
 rw [Zid]
 generalize hE:upd H2 l3 _=H3
 have S3:=S2.newE hl3 hE
 clear hE
 have hlen:(rd pls k).tail.length≤501:=by
   rw [List.length_tail]
   unfold rd
   rw [List.length_reverse]
   have:=ZfQ pls (k+1) k;omega
 refine ZcF (K:=K) (xs:=(rd pls k).tail.map nV) (fun i σ H'=>∃ x3 x4,σ=[some (.ref sl),some (.int (k:Int)),some (.ref d),x3,x4]∧Sep ((d,Dic ((((rd pls k).tail.take i).foldl (foK pls) []).map kP))::(sl,StopL pls)::(l3,ZI ((rd pls k).tail.map nV))::Δ) H'∧HeldOk NS (((rd pls k).tail.take i).foldl (foK pls) [])) ⟨_,_,rfl,?_,List.nodup_nil,fun _ h=>nomatch h⟩ (fun i σ H' _ h=>?_) ?_ ?_
 · have S4:Sep ((l3,ZI ((rd pls k).tail.map nV))::(d,Dic [])::(sl,StopL pls)::Δ) H3:=by rw [List.map_tail];exact S3
   exact (S4.pull sl).pull d
 · obtain ⟨_,_,_,S',_⟩:=h;exact SqL.of (S'.get l3)
 · rintro i v σ H4 hv ⟨x3,x4,rfl,S4,hh⟩
   rw [List.getElem?_map] at hv
   cases hj:(rd pls k).tail[i]? with
   | none=>rw [hj] at hv;cases hv
   | some j =>
     rw [hj] at hv
     cases (show some (nV j)=some v from hv)
     obtain ⟨m,q9,rfl,hq9⟩:=ZmD hw k hk j (List.mem_of_getElem? hj)
     have hm:=(List.getElem?_eq_some_iff.mp hq9).1
     obtain ⟨xs,a,y,z,esl,hxa,ea,_,⟨b,s9,rfl,hs9,eb⟩,_⟩:=StopL.at (S4.get sl) (show m+1≤pls.length by omega)
     rw [List.getElem?_map,hq9] at hs9
     cases (show some q9.st=some s9 from hs9)
     have hsok:=hok q9 (List.mem_of_getElem? hq9)
     have hfo:((rd pls k).tail.take (i+1)).foldl (foK pls) []=foS q9.st (((rd pls k).tail.take i).foldl (foK pls) []):=by
       rw [List.take_succ,hj,List.foldl_append]
       show foS (pls.getD m ⟨0,.clr "",0,0⟩).st _=_
       rw [List.getD_eq_getElem?_getD,hq9];rfl
     rw [hfo]
     generalize ((rd pls k).tail.take i).foldl (foK pls) []=ps at *
     have hps:ps.length≤50:=by have:=hh.few;omega
     refine ⟨_,rfl,_,rfl,sl,_,_,_,rfl,rfl,SqL.of esl,Zv hxa,a,_,_,_,rfl,rfl,SqT.of ea,rfl,?_⟩
     have hok2:=ZkK hh hsok
     generalize hst:q9.st=s9 at *
     have ed:=S4.get d
     cases s9 with
     | set x v =>
       refine ⟨_,rfl,b,_,_,_,rfl,rfl,SqT.of eb,Zv (j:=0) rfl,rfl,_,rfl,?_⟩
       rw [decide_eq_true rfl]
       refine Yh ⟨_,rfl,b,_,_,_,rfl,rfl,SqT.of eb,Zv (j:=2) rfl,_,rfl,_,rfl,b,_,_,_,rfl,rfl,SqT.of eb,Zv (j:=1) rfl,d,_,rfl,DPut.k (k:=Sum.inr x) ed (Xh (show _≤1000 by rw [List.length_map];omega)),?_⟩
       generalize hE:upd H4 d _=H5
       have S5:=S4.putE hE
       clear hE
       rw [show Yp (ps.map kP) (Sum.inr x) v=(YZ ps x v).map kP from VX ps x v] at S5
       exact ⟨_,_,rfl,S5,hok2⟩
     | clr x =>
       refine ⟨_,rfl,b,_,_,_,rfl,rfl,SqT.of eb,Zv (j:=0) rfl,rfl,_,rfl,?_⟩
       rw [show decide (V.str "clear"=V.str (Str.ofString "set"))=false by decide +kernel]
       refine ZM ⟨_,rfl,d,rfl,.inl ⟨_,.inl ed⟩,_,rfl,b,_,_,_,rfl,rfl,SqT.of eb,Zv (j:=1) rfl,_,Sum.inr x,ed,rfl,fun v ev=>?_,fun ev=>?_⟩
       · generalize hE:upd H4 d _=H5
         have S5:=S4.putE hE
         clear hE
         rw [Zik] at S5
         exact ⟨_,_,rfl,S5,hok2⟩
       · have e9:foS (.clr x) ps=ps:=ZhG (show lk ps x=none from ev)
         rw [e9]
         exact ⟨_,_,rfl,S4,hh⟩
 · rintro σ H4 ⟨x3,x4,rfl,S4,hh⟩
   rw [List.length_map,List.take_of_length_le (Nat.le_refl _)] at S4 hh
   exact ⟨_,rfl,q d H4 _ (S4.drop l3) hh (Zkk hw k hk)⟩
end
end K20
set_option maxHeartbeats 4000000
namespace K20
open PySem L2
section
variable {P:Program} {w:World} {K:PySem.W.Frag} {mg:Str→Option Value} {base:Heap} {CR CS Pl Pp:Addr}
def Zfp:Sp:=fun vs H Q _=>∃ u v,vs=[u,v]∧NvV u∧NvV v∧Q (.bl (decide (u=v))) H
abbrev nLA2:List Str:=["_law_one","_law_other"]
abbrev ZbU:List Str:=["_law_one","_law_other"]
theorem Zma:Zs nLA2 ZbU (Zl s_l_alike):=⟨rfl,rfl,rfl,by decide +kernel,rfl,by decide +kernel,by decide +kernel⟩
theorem ZeN {f:Addr} {fd:FuncData} (F:Fun K "_law_alike" "_law_alike" s_l_alike f fd) (T:YB mg):FnOk P w K mg base ZH 1 f fd ZbU Zfp:=by
 refine F.ok Zma (fun vs H Q E h=>?_) (fun cdv A outer s H vs Q E hr h=>?_)
 · obtain ⟨u,v,rfl,_⟩:=h;rfl
 obtain ⟨u,v,rfl,hu,hv,q⟩:=h
 refine' ⟨?t,?h,?r⟩
 case h =>
   conv=>arg 2;whnf
   with_reducible refine' (Zd (Yk ?h1 (Zi ?h2) ZW) (Zi ?h3))
   case h1=>exact PW.pt (Zcb (Wn (Zw XD rfl T.isinstance (by decide +kernel) (Zc (pv 0) (Zc (Wc rfl T.bool (by decide +kernel) (v:=.ty "bool") rfl) Za)))) (ZcI (ZL Zac (ZfT (Zcd (pv 0))) (ZfT (Zcd (pv 1))) (ZE _))))
   case h2=>exact Zp Vt
   case h3=>exact Zp (Um (YT Yq (Zw XD rfl T.isinstance (by decide +kernel) (Zc (pv 0) (Zc (Wc rfl T.str (by decide +kernel) (v:=.ty "str") rfl) Za))) (Zw XD rfl T.isinstance (by decide +kernel) (Zc (pv 1) (Zc (Wc rfl T.str (by decide +kernel) (v:=.ty "str") rfl) Za))) (ZE _)) (Zan (YT Yq (pv 0) (pv 1) (ZE _))))
 rcases Zdk hu with rfl | ⟨i,rfl⟩ | ⟨x,rfl⟩ <;> rcases Zdk hv with rfl | ⟨j,rfl⟩ | ⟨y,rfl⟩
 · refine ⟨_,rfl,_,_,_,_,rfl,.non,rfl,_,rfl,ZM ⟨_,rfl,_,rfl,rfl,_,rfl,?_⟩⟩
   refine ZM ⟨_,rfl,_,_,_,_,rfl,.non,rfl,_,rfl,_,_,_,_,rfl,.non,rfl,rfl,true,?_,Yh ⟨_,rfl,_,rfl,rfl,q⟩⟩
   rw [decide_eq_true rfl]
 · refine ⟨_,rfl,_,_,_,_,rfl,.non,rfl,_,rfl,ZM ⟨_,rfl,_,rfl,rfl,_,rfl,?_⟩⟩
   exact Yh (by rw [decide_eq_false (fun z=>by cases z)] at q;exact q)
 · refine ⟨_,rfl,_,_,_,_,rfl,.non,rfl,_,rfl,ZM ⟨_,rfl,_,rfl,rfl,_,rfl,?_⟩⟩
   exact Yh (by rw [decide_eq_false (fun z=>by cases z)] at q;exact q)
 · refine ⟨_,rfl,_,_,_,_,rfl,.int _,rfl,_,rfl,ZM ⟨_,rfl,_,rfl,rfl,_,rfl,?_⟩⟩
   exact Yh (by rw [decide_eq_false (fun z=>by cases z)] at q;exact q)
 · refine ⟨_,rfl,_,_,_,_,rfl,.int _,rfl,_,rfl,ZM ⟨_,rfl,_,rfl,rfl,_,rfl,?_⟩⟩
   refine ZM ⟨_,rfl,_,_,_,_,rfl,.int _,rfl,_,rfl,_,_,_,_,rfl,.int _,rfl,rfl,true,?_,Yh ⟨_,rfl,_,rfl,rfl,q⟩⟩
   rw [decide_eq_true rfl]
 · refine ⟨_,rfl,_,_,_,_,rfl,.int _,rfl,_,rfl,ZM ⟨_,rfl,_,rfl,rfl,_,rfl,?_⟩⟩
   refine ZM ⟨_,rfl,_,_,_,_,rfl,.int _,rfl,_,rfl,_,_,_,_,rfl,.str _,rfl,rfl,false,?_,ZM (by rw [decide_eq_false (fun z=>by cases z)] at q;exact q)⟩
   rw [decide_eq_false (fun z=>by cases z)]
 · refine ⟨_,rfl,_,_,_,_,rfl,.str _,rfl,_,rfl,ZM ⟨_,rfl,_,rfl,rfl,_,rfl,?_⟩⟩
   exact Yh (by rw [decide_eq_false (fun z=>by cases z)] at q;exact q)
 · refine ⟨_,rfl,_,_,_,_,rfl,.str _,rfl,_,rfl,ZM ⟨_,rfl,_,rfl,rfl,_,rfl,?_⟩⟩
   refine ZM ⟨_,rfl,_,_,_,_,rfl,.str _,rfl,_,rfl,_,_,_,_,rfl,.int _,rfl,rfl,false,?_,ZM (by rw [decide_eq_false (fun z=>by cases z)] at q;exact q)⟩
   rw [decide_eq_false (fun z=>by cases z)]
 · refine ⟨_,rfl,_,_,_,_,rfl,.str _,rfl,_,rfl,ZM ⟨_,rfl,_,rfl,rfl,_,rfl,?_⟩⟩
   refine ZM ⟨_,rfl,_,_,_,_,rfl,.str _,rfl,_,rfl,_,_,_,_,rfl,.str _,rfl,rfl,true,?_,Yh ⟨_,rfl,_,rfl,rfl,q⟩⟩
   rw [decide_eq_true rfl]
end
end K20
set_option maxHeartbeats 2000000
namespace L2
open PySem PySem.Spec PyProof.Rows
section
variable {X:Cx}
end
end L2
set_option maxHeartbeats 2000000
namespace L2
open PySem PySem.Spec PyProof.Rows
def ZeO (x:Str):It:=⟨fun i _=>i < x.cps.size,fun i H v H'=>∃ t c,H t=none∧x.cps[i]?=some c∧v=.ref t∧H'=upd H t (.tup [.int (i:Int),.str ⟨#[c]⟩]),fun i _=>x.cps.size≤i⟩
theorem Zfe {P:Program} {w:World} {K:PySem.W.Frag} {elts:List Expr} {x1:Nat} {tp:Pos} (x:Str) (t:Tok) (e it:Addr) (hne:e≠it) :
   Wz P w K (.Tuple elts x1 tp) (ZeO x) [e,it] e (fun i h=>(∃ old,IsEnum h e it (i:Int) old)∧h.IsStrIter it (strIterType x) x t i∧i≤x.cps.size) where
 mem:=by simp
 obj:=fun i h st b hb=>by
   obtain ⟨⟨old,he⟩,⟨o,ho,c,d⟩,_⟩:=st
   rcases List.mem_cons.mp hb with q | hb
   · rw [q];exact ⟨_,he,fun v z=>by cases z⟩
   · rw [List.mem_singleton.mp hb];exact ⟨o,ho,fun v z=>by rw [d] at z;cases z⟩
 keep:=fun i h h' st k=>by
   obtain ⟨⟨old,he⟩,⟨o,ho,r⟩,hi⟩:=st
   exact ⟨⟨old,k e (by simp) _ he⟩,⟨o,k it (by simp) o ho,r⟩,hi⟩
 item:=by
   intro X hP hw hK hc i pins s σ H E I hf st hg
   subst hP hw hK
   obtain ⟨⟨old,he⟩,hs,hi⟩:=st
   have hlt:i < x.cps.size:=hg
   have D:=WN (prog:=X.prog) (w:=X.w) (A:=X.A.in1) (I.ok.hd hc) it x t
   refine wpAny_pyNext_enum_itemD (i:=i) D he hs hlt hne (by simpa using hne) fun v h' tk hP hOut hst hT hsz hk=>?_
   obtain ⟨c,u,hcc,rfl⟩:=hP
   have hel:e < s.heap.objs.size:=Heap.lt_size he
   have hil:it < s.heap.objs.size:=by obtain ⟨o,ho,_⟩:=hs;exact Heap.lt_size ho
   refine ⟨_,rfl,wpAny_letOwnedTupleGo_enum hOut fun h2 he2 hs2=>?_⟩
   generalize hO:({ cls:=.type "tuple",data:=.seq #[.int ((i:Nat):Int) tk,.str ⟨#[c]⟩ u] }:Obj)=O at hT
   have I1:Inv X pins σ (upd H s.heap.objs.size (.tup [.int (i:Int),.str ⟨#[c]⟩])) { s with heap:=s.heap.push O,toks:=tk+1 }:=by
     refine I.laid (t':=tk+1) (fun b o y=>Heap.get?_push_of_some _ y) (Nat.le_refl _) (show ObjOk X.prog X.w _ _ _ (.tup _) from ⟨by show 2≤sizeLine;decide,[.int ((i:Nat):Int) tk,.str ⟨#[c]⟩ u],.cons ⟨tk,rfl⟩ (.cons ⟨u,rfl⟩ .nil),?_⟩)
     rw [← hO];exact IsTup.new _ _
   have hfree:=I.hok.fresh (Nat.le_refl s.heap.objs.size)
   have hf2:∀ b∈[e,it],Yo X pins (upd H s.heap.objs.size (.tup [.int (i:Int),.str ⟨#[c]⟩])) b:=fun b hb=>by
     obtain ⟨f0,f1⟩:=hf b hb
     have hb':b≠s.heap.objs.size:=by
       rcases List.mem_cons.mp hb with q | hb
       · rw [q];exact Nat.ne_of_lt hel
       · rw [List.mem_singleton.mp hb];exact Nat.ne_of_lt hil
     exact ⟨by rw [Zk hb'];exact f0,f1⟩
   have I2:Inv X pins σ (upd H s.heap.objs.size (.tup [.int (i:Int),.str ⟨#[c]⟩])) { s with heap:=h2,toks:=tk+1 }:=by
     refine I1.turned2 (t':=tk+1) (h':=h2) (fun b o hb y=>?_) hf2
     have hbe:b≠e:=fun q=>hb (by simp [q])
     have hbi:b≠it:=fun q=>hb (by simp [q])
     rw [hs2.2 b hbe]
     rcases Heap.get?_push_cases y with ⟨q1,q2⟩ | y
     · rw [q1,q2];exact hT
     · exact hk b o hbe hbi y
   refine ⟨.ref s.heap.objs.size,_,I2,rfl,⟨s.heap.objs.size,c,hfree,hcc,rfl,rfl⟩,⟨⟨_,he2⟩,?_,hlt⟩,fun b hb=>(hf2 b hb).1⟩
   obtain ⟨o,ho,r⟩:=hst
   exact ⟨o,by rw [hs2.2 it hne.symm];exact ho,r⟩
 done:=by
   intro X hP hw hK hc i pins s σ H E I hf st hg
   subst hP hw hK
   obtain ⟨⟨old,he⟩,hs,hi⟩:=st
   have hle:x.cps.size≤i:=hg
   have D:=WN (prog:=X.prog) (w:=X.w) (A:=X.A.in1) (I.ok.hd hc) it x t
   have ei:i=x.cps.size:=by omega
   rw [ei] at hs
   obtain ⟨f0,f1,f2,f3,f4,f5⟩:=hf it (by simp)
   exact wpAny_pyNext_enum_endD D he hs fun h' eb=>⟨rfl,I.turned (t':=s.toks) (fun b o hb y=>eb b o hb y) f0 f1 f3 f4 f5⟩
 self:=fun _ _ _ _ _ st h=>by
   obtain ⟨⟨old,he⟩,_⟩:=st
   exact wpAny_pyIter_enum he h
def ZkW (tl:TE):TI:=fun σ H R=>tl σ H fun v H1=>∃ x,[v]=[V.str x]∧R (ZeO x) H1
section
variable {X:Cx}
theorem ZhU {l:Expr} {tl:TE} {elts:List Expr} {x1:Nat} {tp p pos:Pos} (hg:Gl X "enumerate") (hm:X.mg "enumerate"=none) (hl:PE X l tl)
   (he:starEach [l] X.env=[(false,eval l X.env)]:=by rfl):PI X (.Tuple elts x1 tp) (.Call (.Name "enumerate" p) [l] [] pos) (ZkW tl):=by
 intro pins s σ H R I h
 have ha:PA X [l] (Xe tl XE):=Yw hl Za he
 refine wpAny_Call_Name_kw (Wk I hg hm boot_enumerate ?_)
 refine PyProof.Rows.callWith_type1 (Zm (ha pos pins s σ H (fun vs H1=>∃ x,vs=[V.str x]∧R (ZeO x) H1) I h) fun us s1 ⟨vs,H1,I1,r1,x,e,q⟩=>?_) he rfl
 subst e
 obtain ⟨u,rfl,t,rfl⟩:=Yr r1
 refine call_enumerate_str fun h' hE hit hsz hkk=>wpAny_pyIter_enum hE ?_
 refine ⟨s1.heap.objs.size+1,[s1.heap.objs.size+1,s1.heap.objs.size],_,_,H1,rfl,I1.kept (t':=s1.toks) hkk,Zfe x t _ _ (Nat.succ_ne_self _),⟨⟨_,hE⟩,hit,Nat.zero_le _⟩,fun b hb=>?_,q⟩
 rcases List.mem_cons.mp hb with z | hb
 · rw [z];exact I1.fpOk (Nat.le_succ _) (I1.hok.fresh (Nat.le_succ _))
 · rw [List.mem_singleton.mp hb];exact I1.fpOk (Nat.le_refl _) (I1.hok.fresh (Nat.le_refl _))
end
theorem Zdu {x:Str} {g:TG} {te:TE} {σ:St} {D:Addr} {Q:VK} {H:Hp} (hn:x.cps.size≤sizeLine) (Pv:Nat→List V→Hp→Prop) (h0:Pv 0 [] (upd H D (.lst []))) (hl:∀ i ys H,Pv i ys H→ys.length=i)
   (hs:∀ i c t ys H wa wb,x.cps[i]?=some c→H t=none→Pv i ys H→g (.ref t) (σ++[wa,wb]) (upd H t (.tup [.int (i:Int),.str ⟨#[c]⟩])) fun σ' H'=>(∃ wa wb,σ'=σ++[wa,wb])∧te σ' H' fun y H4=>H4 D=some (.lst ys)∧Pv (i+1) (ys++[y]) (upd H4 D (.lst (ys++[y]))))
   (hd:∀ ys H,Pv x.cps.size ys H→Q (.ref D) H):Zfd (ZeO x) g te σ D Q H:=by
 refine ⟨fun i m ys H=>m=x.cps.size - i∧i≤x.cps.size∧Pv i ys H,⟨x.cps.size,by simp,Nat.zero_le _,h0⟩,?_⟩
 rintro i m ys H2 ⟨rfl,hi,p⟩
 have hlen:=hl i ys _ p
 by_cases hlt:i < x.cps.size
 · refine .inr ⟨hlt,_,fun y H4 (q:H4 D=some (.lst ys)∧Pv (i+1) (ys++[y]) (upd H4 D (.lst (ys++[y]))))=>⟨q.1,by omega,x.cps.size - (i+1),by omega,rfl,hlt,q.2⟩,fun wa wb v H3 y=>?_⟩
   obtain ⟨t,c,e1,e2,e3,e4⟩:=y
   subst e3 e4
   exact hs i c t ys _ wa wb e2 e1 p
 · have e:i=x.cps.size:=by omega
   subst e
   exact .inl ⟨Nat.le_refl _,hd ys H2 p⟩
section
variable {X:Cx} {o e:Expr} {es:List Expr} {to:TE} {t:TA} {name:Str} {apos cpos:Pos} {T id:String} {r:V→List V→Hp→VK→Prop}
theorem Zlh {K:PySem.W.Frag} (hK:X.K=K) (pa:PlainAttrs T) (slot:Slot T name id) (hty:typeOf (.builtin id)=pure (.type "method_descriptor")) (hm:MtR X id r) (ho:PE X o to) (ha:PA X (e::es) t)
   (hbase:attributeBase o name X.env (eval o X.env)=eval o X.env:=by rfl)
   (hfew:((backTo cpos (starEach (e::es) X.env)).all (fun x=>!x.1) && (backToKw cpos (keywordEach [] X.env)).all (fun x=>x.1.isSome)
     && decide ((e::es).length+([]:List Keyword).length+(if ([]:List Keyword).isEmpty then 0 else 1) < 30))=true:=by rfl)
   (hline:(apos.endLine == cpos.line)=true:=by rfl) (hs:starEach (e::es) X.env=(false,eval e X.env)::starEach es X.env:=by rfl) (hplain:(backTo cpos (starEach es X.env)).any (·.1)=false:=by rfl) :
   PE X (.Call (.Attribute o name apos) (e::es) [] cpos) (tBM K T r to t):=by
 subst hK
 exact Xg pa slot hty hm ho ha hbase hfew hline hs hplain
end
end L2
set_option maxHeartbeats 2000000
namespace L2
open PySem
def Rz (xs:Array Nat):Prop:=xs.toList.Pairwise (· < ·)
theorem Rz.get {xs:Array Nat} (h:Rz xs) {i j:Nat} (hj:j < xs.size) (hij:i < j):xs[i]'(by omega) < xs[j]:=by
 have:=(List.pairwise_iff_getElem.mp h) i j (by rw [Array.length_toList];omega) (by rw [Array.length_toList];exact hj) hij
 simpa using this
theorem VN {xs:Array Nat} {j:Nat} (h:Rz xs):∀ (f lo hi:Nat),hi - lo≤f→lo≤hi→hi≤xs.size→(∀ i (hz:i < xs.size),i < lo→xs[i] < j)→(∀ i (hz:i < xs.size),hi≤i→j≤xs[i]) →
   SetTable.below.go xs j f lo hi≤xs.size∧(∀ i (hz:i < xs.size),i < SetTable.below.go xs j f lo hi→xs[i] < j)∧∀ i (hz:i < xs.size),SetTable.below.go xs j f lo hi≤i→j≤xs[i]
 | 0,lo,hi,hf,hl,hs,a,b=>by
   have:lo=hi:=by omega
   subst this
   exact ⟨hs,a,b⟩
 | f + 1,lo,hi,hf,hl,hs,a,b=>by
   unfold SetTable.below.go
   by_cases c:lo < hi
   · rw [if_pos c]
     have hm:(lo+hi) / 2 < xs.size:=by omega
     have e:xs.getD ((lo+hi) / 2) j=xs[(lo+hi) / 2]:=by simp [Array.getD,hm]
     dsimp only
     rw [e]
     by_cases d:xs[(lo+hi) / 2] < j
     · rw [if_pos d]
       refine VN h f ((lo+hi) / 2+1) hi (by omega) (by omega) hs (fun i hi9 hlt=>?_) b
       by_cases z:i=(lo+hi) / 2
       · subst z;exact d
       · exact Nat.lt_trans (h.get hm (by omega)) d
     · rw [if_neg d]
       refine VN h f lo ((lo+hi) / 2) (by omega) (by omega) (by omega) a fun i hz hle=>?_
       by_cases z:i=(lo+hi) / 2
       · subst z;omega
       · have:=h.get hz (show (lo+hi) / 2 < i by omega);omega
   · rw [if_neg c]
     have:lo=hi:=by omega
     subst this
     exact ⟨hs,a,b⟩
theorem Wr {xs:Array Nat} (h:Rz xs) (j:Nat):SetTable.below xs j≤xs.size∧(∀ i (hi:i < xs.size),i < SetTable.below xs j→xs[i] < j)∧∀ i (hz:i < xs.size),SetTable.below xs j≤i→j≤xs[i] :=
 VN h xs.size 0 xs.size (by omega) (by omega) (Nat.le_refl _) (fun i _ z=>absurd z (by omega)) (fun i hz z=>absurd hz (by omega))
theorem ZhF {xs:Array Nat} (h:Rz xs) {m:Nat} (hm:m < xs.size):SetTable.below xs xs[m]=m:=by
 obtain ⟨h1,h2,h3⟩:=Wr h xs[m]
 have a:SetTable.below xs xs[m]≤m:=by
   rcases Nat.lt_or_ge m (SetTable.below xs xs[m]) with z | z
   · have:=h2 m hm z;omega
   · exact z
 rcases Nat.lt_or_ge (SetTable.below xs xs[m]) m with z | z
 · have:=h3 _ (by omega) (Nat.le_refl _)
   have:=h.get hm z
   omega
 · omega
theorem Zfu {xs:Array Nat} (h:Rz xs) {m:Nat} (hm:m < xs.size):SetTable.below xs (xs[m]+1)=m+1:=by
 obtain ⟨h1,h2,h3⟩:=Wr h (xs[m]+1)
 have a:m < SetTable.below xs (xs[m]+1):=by
   rcases Nat.lt_or_ge m (SetTable.below xs (xs[m]+1)) with z | z
   · exact z
   · have:=h3 m hm z;omega
 rcases Nat.lt_or_ge (m+1) (SetTable.below xs (xs[m]+1)) with z | z
 · have:=h2 (m+1) (by omega) z
   have:=h.get (i:=m) (j:=m+1) (by omega) (by omega)
   omega
 · omega
theorem ZeG {xs:Array Nat} (h:Rz xs):SetTable.below xs 0=0:=by
 obtain ⟨h1,h2,h3⟩:=Wr h 0
 rcases Nat.lt_or_ge 0 (SetTable.below xs 0) with z | z
 · have:=h2 0 (by omega) z;omega
 · omega
theorem ZdH (j:Nat):SetTable.has #[] j=false:=by unfold SetTable.has;simp
theorem Zgx {t:SetTable} (h:Rz t.place) {j:Nat} (e:t.slot j=.empty):∀ i (hi:i < t.place.size),t.place[i]≠j:=by
 intro i hi z
 unfold SetTable.slot at e
 have:t.place[SetTable.below t.place j]?=some j:=by rw [← z,ZhF h hi,Array.getElem?_eq_getElem hi]
 simp [this] at e
theorem Zhu {t:SetTable} (h:t.dummies=#[]) (j:Nat):t.slot j≠.dummy:=by
 unfold SetTable.slot
 rw [h,ZdH]
 simp only [Bool.false_eq_true,if_false]
 split <;> intro z <;> cases z
theorem Zcf {t:SetTable} {ha:Nat→Int} {x:Int} (h:t.dummies=#[]):∀ (f:Nat) (p:SetTable.Probe) {j:Nat} {d:Option Nat},p.dummy=none→SetTable.probe.go t ha x f p=some (.empty j d)→t.slot j=.empty∧d=none
 | 0,_,_,_,_,e=>by simp [SetTable.probe.go] at e
 | f + 1,p,j,d,hp,e=>by
   unfold SetTable.probe.go at e
   cases z:t.slot p.j with
   | empty =>
     rw [z] at e
     simp only [Option.some.injEq,SetTable.Met.empty.injEq] at e
     obtain ⟨rfl,rfl⟩:=e
     exact ⟨z,hp⟩
   | dummy=>exact absurd z (Zhu h _)
   | live i =>
     rw [z] at e
     dsimp only at e
     split at e
     · cases e
     · refine Zcf h f _ ?_ e
       unfold SetTable.advance
       split
       · exact hp
       · exact hp
theorem Zgu {t:SetTable} (h:t.dummies=#[]) {x:Int} {j:Nat} {b:Bool} (e:t.freeSlot x=some (j,b)):t.slot j=.empty∧b=false:=by
 unfold SetTable.freeSlot SetTable.probe at e
 split at e
 · rename_i j' d e9
   obtain ⟨h1,rfl⟩:=Zcf h _ _ (by rfl) e9
   simp only [Option.some.injEq,Prod.mk.injEq] at e
   obtain ⟨rfl,rfl⟩:=e
   exact ⟨h1,rfl⟩
 · cases e
theorem ZgD {xs:Array Nat} (h:Rz xs) {j:Nat} (hj:∀ i (hi:i < xs.size),xs[i]≠j):Rz (SetTable.insertAt xs (SetTable.below xs j) j):=by
 obtain ⟨h1,h2,h3⟩:=Wr h j
 unfold Rz
 rw [SetTable.toList_insertAt,List.pairwise_append]
 refine ⟨List.Pairwise.sublist (List.take_sublist _ _) h,List.pairwise_cons.mpr ⟨fun y hy=>?_,List.Pairwise.sublist (List.drop_sublist _ _) h⟩,fun x hx y hy=>?_⟩
 · obtain ⟨i,hi,rfl⟩:=List.mem_iff_getElem.mp hy
   rw [List.length_drop,Array.length_toList] at hi
   rw [List.getElem_drop,Array.getElem_toList]
   have:=h3 (SetTable.below xs j+i) (by omega) (by omega)
   have:=hj (SetTable.below xs j+i) (by omega)
   omega
 · obtain ⟨i,hi,rfl⟩:=List.mem_iff_getElem.mp hx
   rw [List.length_take,Array.length_toList] at hi
   rw [List.getElem_take,Array.getElem_toList]
   have a:=h2 i (by omega) (by omega)
   rcases List.mem_cons.mp hy with rfl | hy
   · exact a
   · obtain ⟨m,hm,rfl⟩:=List.mem_iff_getElem.mp hy
     rw [List.length_drop,Array.length_toList] at hm
     rw [List.getElem_drop,Array.getElem_toList]
     have:=h3 (SetTable.below xs j+m) (by omega) (by omega)
     omega
theorem ZhR (n:Nat):Rz (Array.range n):=by
 unfold Rz
 rw [Array.toList_range]
 exact List.pairwise_lt_range
structure TOk (b:Bool) (t:SetTable):Prop where
 rz:Rz t.place
 du:t.dummies=#[]
 led:b=true∨t.led=true
theorem TOk.stand {b:Bool} {t:SetTable} (h:TOk b t) (n:Nat):TOk b (t.standIn n):=⟨ZhR n,rfl,h.led⟩
theorem TOk.or {b:Bool} {t:SetTable} (h:TOk b t) (n:Nat):TOk b (t.orStandIn n):=by
 unfold SetTable.orStandIn
 split
 · exact h
 · exact h.stand n
theorem TOk.off {b:Bool} {t:SetTable} (h:TOk b t):TOk b { t with plain:=false }:=⟨h.rz,h.du,h.led⟩
theorem TOk.put {b:Bool} {t:SetTable} (h:TOk b t) {j:Nat} (e:t.slot j=.empty):TOk b (t.put j).1:=by
 refine ⟨ZgD h.rz (Zgx h.rz e),?_,h.led⟩
 show (if SetTable.has t.dummies j then _ else t.dummies)=#[]
 rw [h.du,ZdH];rfl
theorem TOk.new {b:Bool} {t:SetTable} (h:TOk b t) (es:Array (Int×Value)) (x:Int) (v:Value):TOk b (layNew t es x v).2.1:=by
 unfold layNew
 split
 · rename_i j d e
   exact (h.put (Zgu h.du e).1).or _
 · exact h.stand _
theorem Zkm {R:Nat→Nat→Prop} {f:Nat→Option (Nat×Nat)} (hf:∀ j x,f j=some x→x.1=j):∀ {l:List Nat},l.Pairwise R→((l.filterMap f).map (·.1)).Pairwise R:=by
 intro l
 have mem:∀ {l:List Nat} {y:Nat},y∈(l.filterMap f).map (·.1)→y∈l:=fun {l y} hy=>by
   obtain ⟨x,hx,rfl⟩:=List.mem_map.mp hy
   obtain ⟨j,hj,e⟩:=List.mem_filterMap.mp hx
   rw [hf j x e];exact hj
 induction l with
 | nil=>intro _;exact .nil
 | cons a r ih =>
   intro h
   obtain ⟨h1,h2⟩:=List.pairwise_cons.mp h
   rw [List.filterMap_cons]
   cases e:f a with
   | none=>exact ih h2
   | some x =>
     refine List.pairwise_cons.mpr ⟨fun y hy=>?_,ih h2⟩
     show R x.1 y
     rw [show x.1=a from hf a x e]
     exact h1 y (mem hy)
theorem TOk.relay {b:Bool} {t:SetTable} (h:TOk b t) (es:Array (Int×Value)) (n:Nat):TOk b (relayAll t es n).2.1:=by
 unfold relayAll
 split
 · rename_i t' o e
   dsimp only
   split
   · unfold SetTable.relaid SetTable.laid at e
     cases z:SetTable.layClean (SetTable.sizeAbove n - 1) (es.map (·.1)) with
     | none=>rw [z] at e;cases e
     | some ow =>
       rw [z] at e
       have e:some (_,_)=some (t',o):=e
       cases e
       refine ⟨?_,rfl,h.led⟩
       show Rz (List.toArray _)
       unfold Rz
       rw [List.toList_toArray]
       refine Zkm (fun j x e=>?_) List.pairwise_lt_range
       cases y:ow.getD j none with
       | none=>rw [y] at e;cases e
       | some m=>rw [y] at e;cases e;rfl
   · exact h.stand _
 · exact h.stand _
end L2
set_option maxHeartbeats 2000000
namespace L2
open PySem PySem.Spec PyProof.Rows
def Xx (w:World):Bool:=w.params.followText "set-order"
def XC:Value→Zj
 | .int i _=>.inl i
 | .str x _=>.inr x
 | _=>.inl 0
theorem Uy {k:Zj} {v:Value} (h:YK k v=true):XC v=k:=by
 rcases ZT h with ⟨i,t,rfl,rfl⟩ | ⟨x,t,rfl,rfl⟩ <;> rfl
theorem ZjQ {k:Zj} {v:Value} (h:YK k v=true):v.scannable=true:=by
 rcases ZT h with ⟨i,t,rfl,rfl⟩ | ⟨x,t,rfl,rfl⟩ <;> rfl
def WQ (xs:Array (Int×Value)):List Zj:=xs.toList.map fun e=>XC e.2
def SetG (P:Program) (w:World) (h:Heap) (a:Addr) (ks:List Zj):Prop :=
 ∃ o xs ep t,h.get? a=some o∧o.ExactSet∧o.data=.set xs ep t∧ElemsOf (Zu P w) xs.toList∧(WQ xs).Perm ks∧ks.Nodup∧xs.size < scanBound∧t.fits xs.size=true∧TOk (Xx w) t
def YW (ks:List Zj) (k:Zj):List Zj:=if (ks.any fun j=>decide (j=k))=true then ks else ks++[k]
theorem any_mem {ks:List Zj} {k:Zj}:(ks.any fun j=>decide (j=k))=true↔k∈ks:=by
 rw [List.any_eq_true]
 exact ⟨fun ⟨x,hx,e⟩=>of_decide_eq_true e ▸ hx,fun h=>⟨k,h,decide_eq_true rfl⟩⟩
theorem Uz {ks:List Zj} {k:Zj} (h:ks.Nodup):(YW ks k).Nodup:=by
 unfold YW
 split
 · exact h
 · rename_i z
   rw [List.nodup_append]
   exact ⟨h,by simp,fun a ha b hb e=>z (any_mem.mpr <| by rw [← List.mem_singleton.mp hb,← e];exact ha)⟩
theorem ZhO {ks:List Zj} {k x:Zj}:x∈YW ks k↔x∈ks∨x=k:=by
 unfold YW
 split
 · rename_i z;exact ⟨.inl,fun h=>h.elim id fun e=>e ▸ any_mem.mp z⟩
 · rw [List.mem_append,List.mem_singleton]
theorem ZhZ (ks:List Zj) (k:Zj):(YW ks k).length≤ks.length+1:=by
 unfold YW
 split
 · omega
 · rw [List.length_append];exact Nat.le_refl _
section
variable {prog:Program} {w:World} {A:Around} {E:Value→Shared→Prop} {s:Shared}
theorem ZgK {xs:Array (Int×Value)} {k:Zj} (h:ElemsOf (Zu prog w) xs.toList):k∈WQ xs↔∃ e∈xs.toList,YK k e.2=true:=by
 unfold WQ
 rw [List.mem_map]
 constructor
 · rintro ⟨e,he,rfl⟩
   obtain ⟨⟨j,hj,_⟩,_⟩:=h e he
   refine ⟨e,he,?_⟩
   rw [Uy (k:=j) hj];exact hj
 · rintro ⟨e,he,hk⟩
   exact ⟨e,he,Uy hk⟩
theorem Zek {h:Heap} {a:Addr} {o:Obj} {xs ys:Array (Int×Value)} {ep:Nat} {t u:SetTable} (ho:h.get? a=some o) (hd:o.data=.set xs ep t) :
   (h.update a (Obj.putSet ys u)).get? a=some { o with data:=.set ys (ep+1) u }:=by
 have e:=putSet_of (o:=o) ys u hd
 have g:=Heap.get?_update_self (Obj.putSet ys u) ho (by rw [e];rfl)
 rwa [e] at g
theorem Zdi {g:Bool→Sem Unit} (hg:∀ (b:Bool) (s₁:Shared) (R:Unit→Shared→Prop),R () s₁→wpAny (model prog w) A (g b) R E s₁)
   {a:Addr} {o:Obj} {xs ys:Array (Int×Value)} {ep:Nat} {t u:SetTable} {ks:List Zj} (ho:s.heap.get? a=some o) (hx:o.ExactSet) (hd:o.data=.set xs ep t)
   (h1:ElemsOf (Zu prog w) ys.toList) (h2:(WQ ys).Perm ks) (h3:ks.Nodup) (h4:ys.size < scanBound) (h5:u.fits ys.size=true) (h6:TOk (Xx w) u) {d:Bool} {R:Option Bool→Shared→Prop}
   (q:∀ h',Heap.SameBut a s.heap h'→SetG prog w h' a ks→R (some true) { s with heap:=h' }) :
   wpAny (model prog w) A (do
       storeSet a ys u
       if (!d && u.tooFull)=true then do
           g (relayAll u ys (SetTable.grown ys.size)).2.2
           storeSet a (relayAll u ys (SetTable.grown ys.size)).1 (relayAll u ys (SetTable.grown ys.size)).2.1
           pure (some true)
         else pure (some true)) R E s:=by
 refine wpAny_bind (wpAny_storeSet_of ho hd ?_ (fits_of_scanBound h4))
 have o1:=Zek (ys:=ys) (u:=u) ho hd
 have s1:=Heap.SameBut.update s.heap a (Obj.putSet ys u)
 split
 · have p:=relayAll_perm u ys (SetTable.grown ys.size)
   have f:=relayAll_fits u ys (SetTable.grown ys.size)
   have k:=h6.relay ys (SetTable.grown ys.size)
   generalize relayAll u ys (SetTable.grown ys.size)=L at p f k ⊢
   obtain ⟨zs,v,gv⟩:=L
   dsimp only at p f k ⊢
   have z:zs.size=ys.size:=by rw [← Array.length_toList,p.length_eq,Array.length_toList]
   refine wpAny_bind (hg _ _ _ ?_)
   refine wpAny_bind (wpAny_storeSet_of o1 rfl ?_ (fits_of_scanBound (by rw [z];exact h4)))
   have o2:=Zek (ys:=zs) (u:=v) o1 rfl
   exact wpAny_pure (q _ (s1.trans (Heap.SameBut.update _ a _)) ⟨_,zs,_,v,o2,hx,rfl,h1.perm p,(p.map _).trans h2,h3,by rw [z];exact h4,f,k⟩)
 · exact wpAny_pure (q _ s1 ⟨_,ys,_,u,o1,hx,rfl,h1,h2,h3,h4,h5,h6⟩)
theorem Zkl {a:Addr} {ks:List Zj} {k:Zj} {x:Value} {Q:Bool→Shared→Prop} (hk:YK k x=true) (hS:SetG prog w s.heap a ks) (hr:ks.length+1 < scanBound)
   (q:∀ b h',Heap.SameBut a s.heap h'→SetG prog w h' a (YW ks k)→Q b { s with heap:=h' }):wpAny (model prog w) A (setAddHashed a x ((Zu prog w).hash k)) Q E s:=by
 obtain ⟨o,xs,ep,t,ho,hx,hd,h1,h2,h3,h4,h5,h6⟩:=hS
 have hsc:=ZjQ hk
 have hl:xs.size=ks.length:=by rw [← h2.length_eq];unfold WQ;rw [List.length_map,Array.length_toList]
 unfold setAddHashed setAddHashedIn
 refine wpAny_holding (wpAny_bind (wpAny_setState_of ho hd h5 ?_))
 dsimp only
 rw [byScan_of hsc h4 h1,if_pos rfl]
 unfold setAddByScan
 refine wpAny_bind (wpAny_bind (wpAny_rule (wpAny_bind (wpAny_setScan_of (knd:=Zu prog w) (k:=k) hk ho hd h5 h1 ?_))))
 have gw:∀ (b:Bool) (s₁:Shared) (R:Unit→Shared→Prop),R () s₁→wpAny (model prog w) A (match b with | true=>rule "set.scan.the-table-gave-way" | false=>pure ()) R E s₁:=fun b s₁ R z=>by
   cases b
   · exact wpAny_pure z
   · exact wpAny_rule z
 have hin:=ZgK (k:=k) h1
 cases hf:xs.toList.findIdx? (fun e=>(Zu prog w).is k e.2) with
 | some j =>
   obtain ⟨hj,hp,_⟩:=List.findIdx?_eq_some_iff_getElem.mp hf
   have hm:k∈ks:=h2.mem_iff.mp (hin.mpr ⟨xs.toList[j],List.getElem_mem hj,hp⟩)
   refine wpAny_pure (wpAny_pure (q _ s.heap (Heap.SameBut.refl a s.heap) ?_))
   unfold YW
   rw [if_pos (any_mem.mpr hm)]
   exact ⟨o,xs,ep,t,ho,hx,hd,h1,h2,h3,h4,h5,h6⟩
 | none =>
   have hm:k ∉ ks:=fun z=>by
     obtain ⟨e,he,hp⟩:=hin.mp (h2.mem_iff.mpr z)
     have y:=List.findIdx?_eq_none_iff.mp hf e he
     rw [show (Zu prog w).is k e.2=true from hp] at y
     cases y
   dsimp only
   have p:=layNew_perm t xs ((Zu prog w).hash k) x
   have f:=layNew_fits t xs ((Zu prog w).hash k) x
   have tk:=h6.new xs ((Zu prog w).hash k) x
   generalize layNew t xs ((Zu prog w).hash k) x=L at p f tk ⊢
   obtain ⟨ys,u,wd,gv⟩:=L
   dsimp only at p f tk ⊢
   rw [Array.toList_push] at p
   have e1:ElemsOf (Zu prog w) ys.toList:=(h1.push (k:=k) hk hsc).perm p
   have e2:(WQ ys).Perm (YW ks k):=by
     unfold YW
     rw [if_neg fun z=>hm (any_mem.mp z)]
     have:=p.map fun e=>XC e.2
     rw [List.map_append] at this
     refine this.trans ?_
     show ((xs.toList.map fun e=>XC e.2)++[XC x]).Perm _
     rw [Uy hk]
     exact h2.append_right _
   have e4:ys.size < scanBound:=by
     rw [← Array.length_toList,p.length_eq,List.length_append,Array.length_toList,hl];exact hr
   refine wpAny_bind (gw _ _ _ ?_)
   split
   · refine wpAny_bind ?_
     rw [hashByValue_scannable 8 hsc]
     refine wpAny_pure ?_
     refine Zdi gw ho hx hd e1 e2 (Uz h3) e4 ?_ ?_ fun h' sb G=>wpAny_pure (q _ h' sb G)
     · split
       · exact f
       · exact SetTable.fits_plain_off f
     · split
       · exact tk
       · exact tk.off
   · refine wpAny_bind (wpAny_pure ?_)
     exact Zdi gw ho hx hd e1 e2 (Uz h3) e4 (by simpa using f) (by simpa using tk) fun h' sb G=>wpAny_pure (q _ h' sb G)
end
end L2
set_option maxHeartbeats 4000000
namespace L2
open PySem PySem.Spec PyProof.Rows
theorem SetG.keep {P:Program} {w:World} {h h':Heap} {a:Addr} {ks:List Zj} (G:SetG P w h a ks) (k:∀ o,h.get? a=some o→h'.get? a=some o):SetG P w h' a ks:=by
 obtain ⟨o,xs,ep,t,ho,r⟩:=G
 exact ⟨o,xs,ep,t,k o ho,r⟩
def YS (ks:List Zj):List Zj:=ks.foldl YW []
theorem Zdb:∀ (l ks:List Zj),(l.foldl YW ks).length≤ks.length+l.length
 | [],_=>Nat.le_refl _
 | k::l,ks=>by
   have h1:=Zdb l (YW ks k)
   have h2:=ZhZ ks k
   show (l.foldl YW (YW ks k)).length≤ks.length+(l.length+1)
   omega
theorem ZcX {x:Zj}:∀ (l ks:List Zj),x∈l.foldl YW ks↔x∈ks∨x∈l
 | [],ks=>by simp
 | k::l,ks=>by
   show x∈l.foldl YW (YW ks k)↔_
   rw [ZcX l,ZhO,List.mem_cons,or_assoc]
theorem ZaK:∀ (l ks:List Zj),ks.Nodup→(l.foldl YW ks).Nodup
 | [],_,h=>h
 | k::l,ks,h=>ZaK l (YW ks k) (Uz h)
theorem ZbA (l:List Zj):(YS l).length≤l.length:=by
 have:=Zdb l []
 have e:([]:List Zj).length=0:=rfl
 unfold YS
 omega
theorem onceK_mem {x:Zj} {l:List Zj}:x∈YS l↔x∈l:=by unfold YS;rw [ZcX];simp
theorem Zdr (l:List Zj):(YS l).Nodup:=ZaK l [] .nil
theorem Zet (l:List Zj) (k:Zj):YS (l++[k])=YW (YS l) k:=by unfold YS;rw [List.foldl_append];rfl
section
variable {prog:Program} {w:World} {A:Around} {R:Result→Shared→Prop} {I:Addr} {fp wr:List Addr} {G:Array GenState→Array GenState→Prop} {n:Nat} {P:Nat→Value→Prop} {St:Nat→Shared→Prop}
theorem Zhc (W:WalksS prog w A.in1 I fp wr G n P St) (S:Addr) (hS:S ∉ fp) (vs:List Zj) (hn:vs.length=n) (hv:∀ i k v,vs[i]?=some k→P i v→YK k v=true) (hb:n+1 < scanBound) :
   ∀ (m i:Nat) (s:Shared),n - i=m→i≤n→St i s→SetG prog w s.heap S (YS (vs.take i)) →
     (∀ s',Moved (S::wr) G s s'→SetG prog w s'.heap S (YS vs)→R (.ok (.ret .none)) s')→codeAny (model prog w) A (.builtin "set.update.loop" ⟨[.ref S,.ref I],[]⟩) R s:=by
 have hw:S ∉ wr:=fun z=>hS (W.sub _ z)
 have up:∀ b∈wr,b∈S::wr:=fun b z=>List.mem_cons_of_mem _ z
 intro m
 induction m with
 | zero =>
   intro i s hk hi st hG q
   have e:i=n:=by omega
   subst e
   rw [List.take_of_length_le (by omega)] at hG
   refine codeAny_builtin F.entry_set_update_loop ?_
   rw [Around.under_plainId F.plain_set_update_loop _]
   refine wpAny_bind (m:=pyNext (.ref I)) (W.done s _ _ st fun s' mv=>?_)
   exact wpAny_pure (q s' (mv.mono up) (hG.keep fun o e=>mv.heap S o hw e))
 | succ m ih =>
   intro i s hk hi st hG q
   have hlt:i < n:=by omega
   have hki:=List.getElem?_eq_getElem (show i < vs.length by omega)
   refine codeAny_builtin F.entry_set_update_loop ?_
   rw [Around.under_plainId F.plain_set_update_loop _]
   refine wpAny_bind (m:=pyNext (.ref I)) (W.item i s _ _ hlt st fun v s' hP st' mv=>?_)
   have hkv:=hv i _ v hki hP
   have hG':=hG.keep fun o e=>mv.heap S o hw e
   show wpAny _ A.in1 (holding [v] (setAdd S v) >>= _) _ _ s'
   refine wpAny_bind (wpAny_holding ?_)
   unfold setAdd
   refine wpAny_holding (wpAny_bind ((Zu prog w).pyHash (k:=vs[i]) hkv ?_))
   have hl:(YS (vs.take i)).length+1 < scanBound:=by
     have:=ZbA (vs.take i)
     rw [List.length_take] at this
     omega
   refine Zkl (s:={ s' with toks:=s'.toks+1 }) hkv hG' hl fun b h' sb G2=>?_
   have G3:SetG prog w h' S (YS (vs.take (i+1))):=by rw [List.take_succ,hki,Option.toList_some,Zet];exact G2
   refine wpAny_pure ⟨plainId_quiet F.plain_set_update_loop _,ih (i+1) _ (by omega) hlt (W.frame _ s' _ _ st' (Nat.le_succ _) fun b hb o e=>?_) G3 fun s'' m2 G4=>?_⟩
   · exact (sb.2 b fun z=>hS (z ▸ hb)).trans e
   · refine q s'' (Moved.trans W.gtrans ((mv.mono up).then_heap (Nat.le_succ _) fun b o hb e=>?_) m2) G4
     exact (sb.2 b fun z=>hb (z ▸ List.mem_cons_self)).trans e
end
section
variable {prog:Program} {w:World} {A:Around} {E:Value→Shared→Prop} {s:Shared}
theorem newG {h:Heap}:SetG prog w (h.push { cls:=.type "set",dict:=none,data:=.set #[] 0 (.fresh 0 0 (!Xx w)) }) h.objs.size [] :=
 ⟨_,#[],0,_,Heap.get?_push_size _ rfl,⟨rfl,rfl,rfl⟩,rfl,fun e he=>by simp at he,.refl _,.nil,by decide,rfl,⟨.nil,rfl,by cases Xx w <;> simp [SetTable.fresh]⟩⟩
theorem Zki (a:Value) {Q:Value→Shared→Prop} (h:Q (.ref s.heap.objs.size) { s with heap:=s.heap.push { cls:=.type "set",dict:=none,data:=.set #[] 0 (.fresh 0 0 (!Xx w)) } }) :
   codeAny (model prog w) A (.call (.builtin "set.__new__") ⟨[.type "set",a],[]⟩) (wants Q E) s:=by
 refine codeAny_of_tree (wpAny_bind (m:=checkBuiltinCall "set.__new__" ⟨[.type "set",a],[]⟩) (wpAny_of_eq (PySem.F.newCall_set_1 a) (wpAny_pure ⟨plainId_quiet F.plain_set_new _,codeAny_builtin F.entry_set_new ?_⟩)))
 rw [Around.under_plainId F.plain_set_new _]
 have hz:=sub_set_self
 obtain ⟨hp,g,d,tk,os⟩:=s
 unfold Builtin.«set.__new__» Builtin.Frozenset.newClass
 dsimp only
 wp_walk
 refine wpAny_askSetting (wpAny_pure ?_)
 dsimp only
 simp only [newObj]
 exact wpAny_bind (wpAny_alloc (wpAny_pure (wpAny_pure h)))
end
end L2
set_option maxHeartbeats 4000000
namespace L2
open PySem PySem.Spec PyProof.Rows
theorem Zar:entryFor table "set.__iter__"=some Builtin.«frozenset.__iter__»:=entryFor_alias (id':="frozenset.__iter__") (by kernel_rfl) rfl (by decide +kernel) (by kernel_rfl)
theorem slot_seti_next:Slot "set_iterator" "__next__" "set_iterator.__next__" :=
 .of (owner:="set_iterator") (n:="__next__") (by rw [typeLookup_type,builtinLookup_eq_fast];kernel_rfl) (by decide +kernel) (by decide +kernel) (by decide +kernel) (by decide +kernel) (by rw [isSubtype_type];kernel_rfl)
theorem Uj:Slot "set_iterator" "__iter__" "set_iterator.__iter__" :=
 .of (owner:="set_iterator") (n:="__iter__") (by rw [typeLookup_type,builtinLookup_eq_fast];kernel_rfl) (by decide +kernel) (by decide +kernel) (by decide +kernel) (by decide +kernel) (by rw [isSubtype_type];kernel_rfl)
theorem WP:entryFor table "set_iterator.__next__"=some Builtin.«set_iterator.__next__»:=entryFor_of_tree (by kernel_rfl)
theorem Uo (a:Value):argsOk "set_iterator.__next__" ⟨[a],[]⟩:=by unfold argsOk;kernel_rfl
theorem Zbb (a:Value):argsOk "set_iterator.__iter__" ⟨[a],[]⟩:=by unfold argsOk;kernel_rfl
theorem ZaB {α:Type} {l:List α} {i:Nat} (h:i < l.length):(l[i]::l.eraseIdx i).Perm l:=by
 rw [List.eraseIdx_eq_take_drop_succ]
 refine List.perm_middle.symm.trans ?_
 rw [← List.drop_eq_getElem_cons h,List.take_append_drop]
section
variable {M:Model} {A:Around} {E:Value→Shared→Prop}
theorem Zgl {s:Shared} {src:Source} {n:Nat} {Q:Nat→Shared→Prop} (hn:n≠0) (h:∀ i d,i < n→Q i { s with drawn:=d }):wpAny M A (choose src n) Q E s :=
 fun _ _ _=>⟨hn,h _ _ (Nat.mod_lt _ (Nat.pos_of_ne_zero hn))⟩
theorem ZcT {α:Type}:∀ (n:Nat) (xs:List α) {s:Shared} {Q:List α→Shared→Prop},xs.length=n→(∀ ys d,ys.Perm xs→Q ys { s with drawn:=d })→wpAny M A (drawOrder n xs) Q E s
 | 0,[],s,Q,_,h=>wpAny_pure (h [] s.drawn (.refl _))
 | n+1,x::xs,s,Q,hl,h=>by
   unfold drawOrder
   refine wpAny_bind (Zgl (by simp) fun i d hi=>?_)
   rw [List.getElem?_eq_getElem hi]
   refine wpAny_bind (ZcT n ((x::xs).eraseIdx i) (by rw [List.length_eraseIdx_of_lt hi];omega) fun ys d' p=>wpAny_pure (h _ d' ?_))
   exact (p.cons _).trans (ZaB hi)
end
theorem ZdM {α:Type} (f:Nat→Nat):∀ (m k:Nat) (xs:List α) (out:Array α),xs.length≤m→(pickOrder.go f m k xs out).toList.Perm (out.toList++xs)
 | 0,k,xs,out,h=>by
   have:xs=[]:=List.eq_nil_of_length_eq_zero (by omega)
   subst this
   unfold pickOrder.go
   rw [List.append_nil]
 | m + 1,k,xs,out,h=>by
   unfold pickOrder.go
   cases xs with
   | nil=>simp
   | cons x r =>
     have hi:f k % (x::r).length < (x::r).length:=Nat.mod_lt _ (by simp)
     rw [List.getElem?_eq_getElem hi]
     have:=ZdM f m (k+1) ((x::r).eraseIdx (f k % (x::r).length)) (out.push (x::r)[f k % (x::r).length]) (by rw [List.length_eraseIdx_of_lt hi];omega)
     refine this.trans ?_
     rw [Array.toList_push,List.append_assoc]
     exact (ZaB hi).append_left _
theorem Zfy {α:Type} (f:Nat→Nat) (xs:Array α):(pickOrder f xs).toList.Perm xs.toList:=by
 have:=ZdM f xs.size 0 xs.toList #[] (by simp)
 unfold pickOrder
 simpa using this
def SetRw (h:Heap) (a:Addr) (xs:Array (Int×Value)) (ep:Nat) (t:SetTable):Prop:=∃ o,h.get? a=some o∧o.ExactSet∧o.data=.set xs ep t
section
variable {prog:Program} {w:World} {A:Around} {E:Value→Shared→Prop} {s:Shared} {I a:Addr} {first:Value} {i n ep:Nat} {xs:Array (Int×Value)} {t:SetTable}
theorem Zdt {Q:Value→Shared→Prop} (hR:SetRw s.heap a xs ep t) (hf:t.fits xs.size=true) (hb:xs.size < scanBound)
   (q1:(Xx w=true∨(!t.plain && decide (xs.size > 1))=false)→Q (.ref s.heap.objs.size) { s with heap:=s.heap.push { cls:=.type "set_iterator",data:=.fields #[rawInt 0,rawInt 0,.ref a,rawInt xs.size,rawInt ep] } })
   (q2:∀ (ys:List Nat) (d:Drawn),Xx w=false→ys.Perm (List.range xs.size)→Q (.ref (s.heap.objs.size+1)) { s with heap:=(s.heap.push { cls:=.type "tuple",data:=.seq (ys.map fun (i:Nat)=>rawInt i).toArray }).push { cls:=.type "set_iterator",data:=.fields #[.ref s.heap.objs.size,rawInt 0,.ref a,rawInt xs.size,rawInt ep] },drawn:=d }) :
   wpAny (model prog w) A (pyIter (.ref a)) Q E s:=by
 obtain ⟨o,ho,hx,hd⟩:=hR
 have hT:s.TypeIs (.ref a) "set":=⟨o,ho,hx.1⟩
 refine wpAny_pyIter_slot hT PySem.F.slot_set_iter (wpAny_call_entry PySem.F.slot_set_iter hT Zar ?_ (PySem.F.args_set_iter_1 _))
 unfold Builtin.«frozenset.__iter__»
 refine wpAny_bind (m:=Builtin.Frozenset.slot0 "__iter__" ⟨[.ref a],[]⟩) (wpAny_of_eq (a:=a) (by rfl) ?_)
 refine wpAny_bind (m:=Builtin.Frozenset.sizeOf a) (wpAny_bind (wpAny_setEntries_of ho hd hf (wpAny_pure ?_)))
 refine wpAny_bind (m:=setDrawn a) (wpAny_bind (wpAny_setState_of ho hd hf (wpAny_bind (m:=setsByText) (wpAny_bind (wpAny_askSetting (wpAny_pure (wpAny_pure ?_)))))))
 refine wpAny_ite_split (fun hc=>?_) (fun hc=>?_)
 · have hc':(!Xx w && (!t.plain && decide (xs.size > 1)))=true:=hc
   rw [Bool.and_eq_true] at hc'
   refine wpAny_bind (ZcT xs.size (List.range xs.size) List.length_range fun ys d p=>?_)
   have hl:ys.length=xs.size:=by rw [p.length_eq,List.length_range]
   refine wpAny_bind (m:=newTuple _) (wpAny_newObj_type ?_ ?_)
   · refine wpAny_bind (m:=setEpoch a) (wpAny_setEpoch_of (Heap.get?_push_of_some _ ho) hd hf ?_)
     refine wpAny_bind (m:=newFields _ _) (wpAny_newObj_type (wpAny_pure ⟨_,rfl,"set_iterator",_,⟨_,Heap.get?_push_size _ rfl,rfl⟩,slot_seti_next.lookup,?_⟩))
     have:=q2 ys d (by simpa using hc'.1) p
     rw [Heap.size_push]
     exact this
   · show (List.toArray _).size≤sizeLine
     rw [List.size_toArray,List.length_map,hl]
     exact fits_of_scanBound hb
 · refine wpAny_bind (wpAny_pure ?_)
   refine wpAny_bind (m:=setEpoch a) (wpAny_setEpoch_of ho hd hf ?_)
   refine wpAny_bind (m:=newFields _ _) (wpAny_newObj_type (wpAny_pure ⟨_,rfl,"set_iterator",_,⟨_,Heap.get?_push_size _ rfl,rfl⟩,slot_seti_next.lookup,?_⟩))
   refine q1 ?_
   have hc':¬ (!Xx w && (!t.plain && decide (xs.size > 1)))=true:=hc
   cases z:Xx w with
   | true=>exact .inl rfl
   | false=>rw [z] at hc';exact .inr (by simpa using hc')
end
end L2
set_option maxHeartbeats 4000000
namespace L2
open PySem PySem.Spec PyProof.Rows
section
variable {prog:Program} {w:World} {A:Around} {E:Value→Shared→Prop} {s:Shared} {I a:Addr} {first:Value} {i n ep:Nat} {xs:Array (Int×Value)} {t:SetTable}
def WC (w:World) (a:Addr) (ep:Nat) (xs:Array (Int×Value)):List Value:=if Xx w=true then (pickOrder (w.params.setOrder a ep) xs).toList.map (·.2) else xs.toList.map (·.2)
theorem ordE_perm:(WC w a ep xs).Perm (xs.toList.map (·.2)):=by
 unfold WC
 split
 · exact (Zfy _ _).map _
 · exact .refl _
theorem VG:(WC w a ep xs).length=xs.size:=by rw [ordE_perm.length_eq,List.length_map,Array.length_toList]
def Vf (w:World) (t:SetTable) (i slot:Nat):Prop:=Xx w=true∨SetTable.below t.place slot=i
theorem Zfa {slot:Nat} {Q:Option (Value×Nat)→Shared→Prop} (hR:SetRw s.heap a xs ep t) (hf:t.fits xs.size=true) (ht:TOk (Xx w) t) (hnd:Xx w=true∨(!t.plain && decide (xs.size > 1))=false) (hs:Vf w t i slot)
   (q1:∀ v slot',(WC w a ep xs)[i]?=some v→Vf w t (i+1) slot'→Q (some (v,slot')) s) (q2:(WC w a ep xs)[i]?=none→Q none s):wpAny (model prog w) A (setNext a slot i ep) Q E s:=by
 obtain ⟨o,ho,hx,hd⟩:=hR
 unfold setNext
 refine wpAny_bind (wpAny_setState_of ho hd hf ?_)
 refine wpAny_bind (m:=setsByText) (wpAny_bind (wpAny_askSetting (wpAny_pure ?_)))
 dsimp only
 refine wpAny_ite_split (fun hc=>?_) (fun hc=>?_)
 · have hc':Xx w=true:=hc
   rw [if_neg (by simp)]
   refine wpAny_bind (m:=setWalk a) ?_
   unfold setWalk
   refine wpAny_bind (wpAny_setState_of ho hd hf ?_)
   refine wpAny_bind (m:=setsByText) (wpAny_bind (wpAny_askSetting (wpAny_pure ?_)))
   dsimp only
   rw [if_pos hc]
   refine wpAny_bind (wpAny_askSetting (wpAny_pure (wpAny_pure ?_)))
   unfold WC at q1 q2
   rw [if_pos hc',List.getElem?_map,Array.getElem?_toList] at q2
   show Q (Option.map (fun e=>(e.2,slot)) (pickOrder (w.params.setOrder a ep) xs)[i]?) s
   cases e:(pickOrder (w.params.setOrder a ep) xs)[i]? with
   | none=>exact q2 (by rw [e];rfl)
   | some x =>
     refine q1 x.2 slot ?_ (.inl hc')
     rw [if_pos hc',List.getElem?_map,Array.getElem?_toList,e];rfl
 · have hc':Xx w=false:=by
     have:¬ Xx w=true:=hc
     simpa using this
   refine wpAny_ite_split (fun hz=>?_) (fun hz=>?_)
   · have hz':(!t.plain && decide (xs.size > 1))=true:=hz
     rcases hnd with y | y
     · rw [hc'] at y;cases y
     · rw [y] at hz';cases hz'
   · have hled:t.led=true:=by
       rcases ht.led with y | y
       · rw [hc'] at y;cases y
       · exact y
     have hpl:t.place.size=xs.size:=by
       unfold SetTable.fits at hf
       rw [Bool.and_eq_true,beq_iff_eq] at hf
       exact hf.1
     have hbe:SetTable.below t.place slot=i:=by
       rcases hs with y | y
       · rw [hc'] at y;cases y
       · exact y
     refine wpAny_bind (show wpAny (model prog w) A (if (!t.led && !xs.isEmpty)=true then unsupported "set:maker-not-led" else pure ()) _ E s from ?_)
     rw [hled,if_neg (by simp)]
     refine wpAny_pure (wpAny_pure ?_)
     unfold WC at q1 q2
     rw [if_neg (by rw [hc'];simp),List.getElem?_map,Array.getElem?_toList] at q2
     rw [hbe]
     by_cases hi:i < xs.size
     · have hip:i < t.place.size:=by omega
       rw [Array.getElem?_eq_getElem hi,Array.getElem?_eq_getElem hip]
       refine q1 _ _ ?_ (.inr (Zfu ht.rz hip))
       rw [if_neg (by rw [hc'];simp),List.getElem?_map,Array.getElem?_toList,Array.getElem?_eq_getElem hi];rfl
     · rw [Array.getElem?_eq_none (by omega)]
       exact q2 (by rw [Array.getElem?_eq_none (by omega)];rfl)
theorem Ut {x:Value} {j:Nat} {vs:Array Value} (ho:s.heap.get? I=some { cls:=.type "set_iterator",data:=.fields vs }):(s.heap.update I (Obj.mapFields (·.setIfInBounds j x))).get? I=some { cls:=.type "set_iterator",data:=.fields (vs.setIfInBounds j x) } :=
 Heap.get?_update_self (Obj.mapFields (·.setIfInBounds j x)) ho rfl
abbrev itO (f:Value) (i:Nat) (a:Addr) (n ep:Nat):Obj:={ cls:=.type "set_iterator",data:=.fields #[f,rawInt i,.ref a,rawInt n,rawInt ep] }
theorem Zcx {g:Shared} {Q:Option Value→Shared→Prop} (hh:A.handled=none) (q:∀ h',(∀ b o,g.heap.get? b=some o→h'.get? b=some o)→Q none { g with heap:=h' })
   {R:PySem.Fin→Shared→Prop} {E':Value→Shared→Prop} (hE:∀ e s',wpAny (model prog w) A (do if (← isInstance e (Value.type "StopIteration"))=true then pure none else throw e) Q E s'→E' e s'):wpAny (model prog w) A.in1 (do let e ← newExc (Value.type "StopIteration") [];raiseNew e) R E' g:=by
 refine wpAny_bind ?_
 simp only [newExc,newTuple]
 refine wpAny_bind (wpAny_newObj_type ?_ (by size_fits))
 refine wpAny_bind (m:=firstArgMember _ _) (wpAny_of_eq (a:=Value.none) (by first | rfl | (simp only [firstArgMember];rfl)) ?_)
 refine wpAny_newObj_type ?_ (by size_fits)
 simp only [raiseNew]
 refine wpAny_bind (wpAny_handled ?_)
 rw [show A.in1.handled=none from hh]
 refine wpAny_bind (wpAny_pure (wpAny_throw (hE _ _ ?_)))
 refine wpAny_bind (wpAny_isInstance (T:="StopIteration") (b:=true) ⟨_,Heap.get?_push_size _ rfl,rfl⟩ isSubtype_stop (wpAny_pure (q _ fun b o e=>?_)))
 exact Heap.get?_push_of_some _ (Heap.get?_push_of_some _ e)
theorem ZbC {slot:Nat} {Q:Option Value→Shared→Prop} (hI:s.heap.get? I=some (itO (rawInt slot) i a xs.size ep)) (hR:SetRw s.heap a xs ep t) (hf:t.fits xs.size=true) (ht:TOk (Xx w) t) (hnd:Xx w=true∨(!t.plain && decide (xs.size > 1))=false) (hs:Vf w t i slot) (hh:A.handled=none)
   (q1:∀ v slot' h',(WC w a ep xs)[i]?=some v→Vf w t (i+1) slot'→h'.get? I=some (itO (rawInt slot') (i+1) a xs.size ep)→Heap.ExtBut I s.heap h'→Q (some v) { s with heap:=h' })
   (q2:∀ h',(WC w a ep xs)[i]?=none→Heap.ExtBut I s.heap h'→Q none { s with heap:=h' }):wpAny (model prog w) A (pyNext (.ref I)) Q E s:=by
 have hT:s.TypeIs (.ref I) "set_iterator":=⟨_,hI,rfl⟩
 obtain ⟨o,ho,hx,hd⟩:=id hR
 unfold pyNext
 refine wpAny_bind (wpAny_attempt (wpAny_callSpecial?_slot (name:=Str.ofString "__next__") hT slot_seti_next (wpAny_call_entry slot_seti_next hT WP ?_ (Uo _))))
 unfold Builtin.«set_iterator.__next__»
 refine wpAny_bind (wpAny_pure (wpAny_bind (wpAny_fieldsOf hI rfl ?_)))
 show wpAny (model prog w) A.in1 (setEntries a >>= _) _ _ s
 refine wpAny_bind (wpAny_setEntries_of ho hd hf ?_)
 dsimp only
 rw [if_neg (by simp)]
 show wpAny (model prog w) A.in1 (setNext a (slot:Int).toNat (i:Int).toNat (ep:Int).toNat >>= _) _ _ s
 rw [Int.toNat_natCast,Int.toNat_natCast,Int.toNat_natCast]
 refine wpAny_bind (Zfa hR hf ht hnd hs (fun v slot' hv hs'=>?_) (fun hv=>?_))
 · dsimp only
   refine wpAny_bind (wpAny_setField hI rfl (by simp) ?_)
   have h1:=Ut (x:=rawInt slot') (j:=0) hI
   refine wpAny_bind (wpAny_setField (s:={ s with heap:=_ }) h1 rfl (by simp) ?_)
   have h2:=Ut (s:={ s with heap:=_ }) (x:=rawInt ((i:Int)+1)) (j:=1) h1
   exact wpAny_pure ⟨_,rfl,wpAny_pure (q1 v slot' _ hv hs' h2 (((Heap.SameBut.update ..).extBut).trans (Heap.SameBut.update ..).extBut))⟩
 · dsimp only
   refine wpAny_bind (wpAny_setField hI rfl (by simp) ?_)
   exact Zcx (g:={ s with heap:=s.heap.update I (Obj.mapFields (·.setIfInBounds 2 Value.none)) }) hh (fun h' k=>q2 h' hv fun b o nb e=>k b o ((Heap.SameBut.update s.heap I _).extBut b o nb e)) fun e s' z=>z
theorem Zaq {T:Addr} {ys:List Nat} {e0:Nat} {Q:Option Value→Shared→Prop} (hI:s.heap.get? I=some (itO (.ref T) i a xs.size ep)) (hT:s.heap.get? T=some { cls:=.type "tuple",data:=.seq (ys.map fun (i:Nat)=>rawInt i).toArray e0 }) (hR:SetRw s.heap a xs ep t) (hf:t.fits xs.size=true) (hy:∀ y∈ys,y < xs.size) (hh:A.handled=none)
   (q1:∀ (y:Nat) (v:Int×Value) h',ys[i]?=some y→xs[y]?=some v→h'.get? I=some (itO (.ref T) (i+1) a xs.size ep)→Heap.ExtBut I s.heap h'→Q (some v.2) { s with heap:=h' })
   (q2:∀ h',ys[i]?=none→Heap.ExtBut I s.heap h'→Q none { s with heap:=h' }):wpAny (model prog w) A (pyNext (.ref I)) Q E s:=by
 have hTI:s.TypeIs (.ref I) "set_iterator":=⟨_,hI,rfl⟩
 obtain ⟨o,ho,hx,hd⟩:=id hR
 unfold pyNext
 refine wpAny_bind (wpAny_attempt (wpAny_callSpecial?_slot (name:=Str.ofString "__next__") hTI slot_seti_next (wpAny_call_entry slot_seti_next hTI WP ?_ (Uo _))))
 unfold Builtin.«set_iterator.__next__»
 refine wpAny_bind (wpAny_pure (wpAny_bind (wpAny_fieldsOf hI rfl ?_)))
 show wpAny (model prog w) A.in1 (setEntries a >>= _) _ _ s
 refine wpAny_bind (wpAny_setEntries_of ho hd hf ?_)
 dsimp only
 rw [if_neg (by simp)]
 show wpAny (model prog w) A.in1 (seqItems? (.ref T) >>= _) _ _ s
 refine wpAny_bind (wpAny_bind (wpAny_load hT (wpAny_pure ?_)))
 dsimp only
 rw [Int.toNat_natCast,List.getElem?_toArray,List.getElem?_map]
 cases e:ys[i]? with
 | none =>
   dsimp only [Option.map_none]
   refine wpAny_bind (wpAny_setField hI rfl (by simp) ?_)
   have h1:=Ut (x:=rawInt 0) (j:=0) hI
   refine wpAny_bind (wpAny_setField (s:={ s with heap:=_ }) h1 rfl (by simp) ?_)
   refine Zcx (g:={ s with heap:=(s.heap.update I (Obj.mapFields (·.setIfInBounds 0 (rawInt 0)))).update I (Obj.mapFields (·.setIfInBounds 2 Value.none)) }) hh (fun h' k=>q2 h' e fun b o nb z=>k b o ?_) fun e s' z=>z
   exact (((Heap.SameBut.update ..).extBut).trans (Heap.SameBut.update ..).extBut) b o nb z
 | some y =>
   have hlt:=hy y (List.mem_of_getElem? e)
   show wpAny (model prog w) A.in1 (setNextDrawn a (y:Int).toNat (ep:Int).toNat >>= _) _ _ s
   rw [Int.toNat_natCast,Int.toNat_natCast]
   refine wpAny_bind ?_
   unfold setNextDrawn
   refine wpAny_bind (wpAny_setState_of ho hd hf ?_)
   dsimp only
   rw [if_neg (by simp),Array.getElem?_eq_getElem hlt]
   refine wpAny_pure ?_
   refine wpAny_bind (wpAny_setField hI rfl (by simp) ?_)
   have h1:=Ut (x:=rawInt ((i:Int)+1)) (j:=1) hI
   exact wpAny_pure ⟨_,rfl,wpAny_pure (q1 y _ _ e (Array.getElem?_eq_getElem hlt) h1 (Heap.SameBut.update ..).extBut)⟩
end
end L2
set_option maxHeartbeats 4000000
namespace L2
open PySem PySem.W PySem.Spec PyProof.Rows
theorem Zai:entryFor table "set_iterator.__iter__"=some Builtin.«dict_keyiterator.__iter__»:=entryFor_alias (id':="dict_keyiterator.__iter__") (by kernel_rfl) rfl (by decide +kernel) (by kernel_rfl)
theorem SetRw.keep {h h':Heap} {a:Addr} {xs:Array (Int×Value)} {ep:Nat} {t:SetTable} (r:SetRw h a xs ep t) (k:∀ o,h.get? a=some o→h'.get? a=some o):SetRw h' a xs ep t:=let ⟨o,ho,q⟩:=r;⟨o,k o ho,q⟩
section
variable {prog:Program} {w:World} {A:Around} {E:Value→Shared→Prop} {s:Shared} {I a T:Addr} {ep e0:Nat} {xs:Array (Int×Value)} {t:SetTable}
theorem Zbp {f:Value} {i n:Nat} {Q:Value→Shared→Prop} (hI:s.heap.get? I=some (itO f i a n ep)) (q:Q (.ref I) s):wpAny (model prog w) A (pyIter (.ref I)) Q E s:=by
 have hT:s.TypeIs (.ref I) "set_iterator":=⟨_,hI,rfl⟩
 refine wpAny_pyIter_slot hT Uj (wpAny_call_entry Uj hT Zai ?_ (Zbb _))
 exact wpAny_pure ⟨_,rfl,"set_iterator",_,hT,slot_seti_next.lookup,q⟩
theorem Zgh (hne:a≠I) (hf:t.fits xs.size=true) (ht:TOk (Xx w) t) (hnd:Xx w=true∨(!t.plain && decide (xs.size > 1))=false) (hh:A.handled=none) :
   Walks prog w A I [I,a] [I] xs.size (fun i v=>(WC w a ep xs)[i]?=some v) (fun i h=>(∃ slot:Nat,h.get? I=some (itO (rawInt slot) i a xs.size ep)∧Vf w t i slot)∧SetRw h a xs ep t) where
 sub:=fun b hb=>by simp at hb;simp [hb]
 frame:=fun i h h' ⟨⟨slot,h1,h2⟩,h3⟩ hk=>⟨⟨slot,hk I (by simp) _ h1,h2⟩,h3.keep fun o e=>hk a (by simp) o e⟩
 item:=fun i s Q E hi ⟨⟨slot,h1,h2⟩,h3⟩ hQ=>by
   refine ZbC h1 h3 hf ht hnd h2 hh (fun v slot' h' hv hs' hI' ex=>?_) fun h' hv _=>?_
   · exact hQ v h' s.toks hv ⟨⟨slot',hI',hs'⟩,h3.keep fun o e=>ex a o hne e⟩ fun b o hb e=>ex b o (fun z=>hb (by simp [z])) e
   · rw [List.getElem?_eq_getElem (by rw [VG];exact hi)] at hv;cases hv
 done:=fun s Q E ⟨⟨slot,h1,h2⟩,h3⟩ hQ=>by
   refine ZbC h1 h3 hf ht hnd h2 hh (fun v slot' h' hv hs' hI' ex=>?_) fun h' hv ex=>?_
   · rw [List.getElem?_eq_none (by rw [VG];exact Nat.le_refl _)] at hv;cases hv
   · exact hQ h' s.toks fun b o hb e=>ex b o (fun z=>hb (by simp [z])) e
 self:=fun i s Q E ⟨⟨slot,h1,_⟩,_⟩ q=>Zbp h1 q
theorem Zft {ys:List Nat} (hne:a≠I) (hnT:T≠I) (hf:t.fits xs.size=true) (hy:∀ y∈ys,y < xs.size) (hh:A.handled=none) :
   Walks prog w A I [I,a,T] [I] ys.length (fun i v=>∃ (y:Nat) (e:Int×Value),ys[i]?=some y∧xs[y]?=some e∧e.2=v) (fun i h=>h.get? I=some (itO (.ref T) i a xs.size ep)∧h.get? T=some { cls:=.type "tuple",data:=.seq (ys.map fun (i:Nat)=>rawInt i).toArray e0 }∧SetRw h a xs ep t) where
 sub:=fun b hb=>by simp at hb;simp [hb]
 frame:=fun i h h' ⟨h1,h2,h3⟩ hk=>⟨hk I (by simp) _ h1,hk T (by simp) _ h2,h3.keep fun o e=>hk a (by simp) o e⟩
 item:=fun i s Q E hi ⟨h1,h2,h3⟩ hQ=>by
   refine Zaq h1 h2 h3 hf hy hh (fun y v h' hyi hv hI' ex=>?_) fun h' hyi _=>?_
   · exact hQ v.2 h' s.toks ⟨y,v,hyi,hv,rfl⟩ ⟨hI',ex T _ hnT h2,h3.keep fun o e=>ex a o hne e⟩ fun b o hb e=>ex b o (fun z=>hb (by simp [z])) e
   · rw [List.getElem?_eq_getElem hi] at hyi;cases hyi
 done:=fun s Q E ⟨h1,h2,h3⟩ hQ=>by
   refine Zaq h1 h2 h3 hf hy hh (fun y v h' hyi hv hI' ex=>?_) fun h' hyi ex=>?_
   · rw [List.getElem?_eq_none (Nat.le_refl _)] at hyi;cases hyi
   · exact hQ h' s.toks fun b o hb e=>ex b o (fun z=>hb (by simp [z])) e
 self:=fun i s Q E ⟨h1,_,_⟩ q=>Zbp h1 q
theorem Zin {ks:List Zj} {Q:Value→Shared→Prop} (hh:A.handled=none) (G:SetG prog w s.heap a ks)
   (q:∀ (I:Addr) (h':Heap) (d:Drawn) (fp:List Addr) (n:Nat) (P:Nat→Value→Prop) (St:Nat→Heap→Prop),Walks prog w A I fp [I] n P St→St 0 h'→s.heap.objs.size≤I→(∀ b o,s.heap.get? b=some o→h'.get? b=some o)→(∀ b∈fp,b=a∨s.heap.objs.size≤b)→n=ks.length →
     (∀ acc:Array Value,ItemsOf P acc n→(acc.toList.map XC).Perm ks∧∀ v∈acc.toList,∃ k,YK k v=true)→Q (.ref I) { s with heap:=h',drawn:=d }):wpAny (model prog w) A (pyIter (.ref a)) Q E s:=by
 obtain ⟨o,xs,ep,t,ho,hx,hd,h1,h2,h3,h4,h5,h6⟩:=G
 have hR:SetRw s.heap a xs ep t:=⟨o,ho,hx,hd⟩
 have lt:=Heap.lt_size ho
 have hl:xs.size=ks.length:=by rw [← h2.length_eq];unfold WQ;rw [List.length_map,Array.length_toList]
 have fin:∀ l:List Value,l.Perm (xs.toList.map (·.2))→(l.map XC).Perm ks∧∀ v∈l,∃ k,YK k v=true:=fun l p=>by
   refine ⟨?_,fun v hv=>?_⟩
   · refine (p.map XC).trans ?_
     rw [List.map_map];exact h2
   · obtain ⟨e,he,rfl⟩:=List.mem_map.mp (p.mem_iff.mp hv)
     obtain ⟨⟨k,hk,_⟩,_⟩:=h1 e he
     exact ⟨k,hk⟩
 refine Zdt hR h5 h4 (fun hc=>?_) fun ys d hb p=>?_
 · refine q _ _ s.drawn _ _ _ _ (Zgh (ep:=ep) (Nat.ne_of_lt lt) h5 h6 hc hh) ⟨⟨0,Heap.get?_push_size _ rfl,.inr (ZeG h6.rz)⟩,hR.keep fun o e=>Heap.get?_push_of_some _ e⟩ (Nat.le_refl _) (fun b o e=>Heap.get?_push_of_some _ e) (fun b hb=>?_) hl fun acc hI=>?_
   · simp only [List.mem_cons,List.not_mem_nil,or_false] at hb
     rcases hb with rfl | rfl
     · exact .inr (Nat.le_refl _)
     · exact .inl rfl
   · refine fin _ ?_
     have e:acc.toList=WC w a ep xs:=by
       refine List.ext_getElem? fun j=>?_
       by_cases hj:j < acc.size
       · have hv:=Array.getElem?_eq_getElem hj
         rw [Array.getElem?_toList,hv,hI.2 j _ hv]
       · rw [Array.getElem?_toList,Array.getElem?_eq_none (by omega),List.getElem?_eq_none (by rw [VG,← hI.1];omega)]
     rw [e];exact ordE_perm
 · have hy : ∀ y∈ys,y < xs.size:=fun y hy=>List.mem_range.mp (p.mem_iff.mp hy)
   have hyl:ys.length=xs.size:=by rw [p.length_eq,List.length_range]
   refine q _ _ d _ _ _ _ (Zft (ep:=ep) (e0:=0) (T:=s.heap.objs.size) (ys:=ys) (Nat.ne_of_lt (Nat.lt_succ_of_lt lt)) (Nat.ne_of_lt (Nat.lt_succ_self _)) h5 hy hh) ⟨?_,?_,hR.keep fun o e=>Heap.get?_push_of_some _ (Heap.get?_push_of_some _ e)⟩ (Nat.le_succ _) (fun b o e=>Heap.get?_push_of_some _ (Heap.get?_push_of_some _ e)) (fun b hb=>?_) (hyl.trans hl) fun acc hI=>?_
   · have:=Heap.get?_push_size (s.heap.push { cls:=.type "tuple",data:=.seq (ys.map fun (i:Nat)=>rawInt i).toArray }) (o:=itO (.ref s.heap.objs.size) 0 a xs.size ep) rfl
     rw [Heap.size_push] at this
     exact this
   · exact Heap.get?_push_of_some _ (Heap.get?_push_size _ rfl)
   · simp only [List.mem_cons,List.not_mem_nil,or_false] at hb
     rcases hb with rfl | rfl | rfl
     · exact .inr (Nat.le_succ _)
     · exact .inl rfl
     · exact .inr (Nat.le_refl _)
   · refine fin _ ?_
     have e:acc.toList=ys.filterMap fun y=>(xs.toList.map (·.2))[y]?:=by
       have e2:∀ (l:List Nat) (vs:List Value),l.length=vs.length→(∀ (j:Nat) y v,l[j]?=some y→vs[j]?=some v→(xs.toList.map (·.2))[y]?=some v)→vs=l.filterMap fun y=>(xs.toList.map (·.2))[y]?:=by
         intro l
         induction l with
         | nil=>intro vs h _;cases vs with
           | nil=>rfl
           | cons _ _=>cases h
         | cons y l ih =>
           intro vs h hv
           cases vs with
           | nil=>cases h
           | cons v vs =>
             rw [List.filterMap_cons,hv 0 y v rfl rfl]
             exact congrArg (v::·) (ih vs (by simpa using h) fun j y' v' g1 g2=>hv (j+1) y' v' g1 g2)
       refine e2 ys _ (by rw [Array.length_toList];exact hI.1.symm) fun j y v g1 g2=>?_
       rw [Array.getElem?_toList] at g2
       obtain ⟨y',e',g3,g4,g5⟩:=hI.2 j v g2
       rw [g1] at g3;cases g3
       rw [List.getElem?_map,Array.getElem?_toList,g4];exact congrArg some g5
     rw [e]
     refine (p.filterMap _).trans ?_
     have:=PySem.List.filterMap_getElem?_range_length (xs.toList.map (·.2))
     rw [List.length_map,Array.length_toList] at this
     rw [this]
end
end L2
set_option maxHeartbeats 4000000
namespace L2
open PySem PySem.Spec PyProof.Rows
section
variable {prog:Program} {w:World} {A:Around} {E:Value→Shared→Prop} {s:Shared}
abbrev Vo (w:World):Obj:={ cls:=.type "set",dict:=none,data:=.set #[] 0 (.fresh 0 0 (!Xx w)) }
theorem ZfV {l:Addr} {items:Array Value} {ks:List Zj} {Q:Value→Shared→Prop} (hh:A.handled=none) (hl:s.heap.IsList l items) (hn:ks.length=items.size) (hi:∀ (i:Nat) (k:Zj) (v:Value),ks[i]?=some k→items[i]?=some v→YK k v=true) (hb:items.size+1 < scanBound)
   (q:∀ (h':Heap) (tk:Nat),SetG prog w h' s.heap.objs.size (YS ks)→(∀ b o,s.heap.get? b=some o→h'.get? b=some o)→Q (.ref s.heap.objs.size) { s with heap:=h',toks:=tk }) :
   wpAny (model prog w) A (call (.type "set") [.ref l]) Q E s:=by
 obtain ⟨c,tl,hmro⟩:=PySem.F.called_set.mro
 have hmade:=PySem.F.called_set.made
 have hsub:=PySem.F.called_set.sub
 have h1:=PySem.F.called_set.notType
 have h2:=PySem.F.called_set.canCreate
 have hct:=PySem.F.typeCall_set_1 (.ref l)
 refine wpAny_call (codeAny_of_tree ?_)
 refine wpAny_pure ⟨Code.quiet_builtin _ (by decide +kernel),codeAny_builtin PySem.F.entry_type_call ?_⟩
 rw [Around.under_plain (weight_type_call_type "set" [.ref l] []) rfl]
 (repeat (any_goals (first | assumption | wp_step)))
 refine codeAny_mono (Zki (.ref l) (E:=E) (Q:=fun v s₁=>v=.ref s.heap.objs.size∧s₁={ s with heap:=s.heap.push (Vo w) }) ⟨rfl,rfl⟩) fun r s₁ hr=>?_
 cases r with
 | error e=>exact hr
 | ok fl =>
   cases fl with
   | ret v =>
     obtain ⟨rfl,rfl⟩:=hr
     have hS:(s.heap.push (Vo w)).get? s.heap.objs.size=some (Vo w):=Heap.get?_push_size _ rfl
     have hT:Shared.TypeIs { s with heap:=s.heap.push (Vo w) } (.ref s.heap.objs.size) "set":=⟨_,hS,rfl⟩
     have hli:=PySem.F.called_set.init.lookup
     have hbi:=PySem.F.called_set.init.bind (.ref s.heap.objs.size)
     (repeat (any_goals (first | assumption | wp_step)))
     refine codeAny_mono (codeAny_call_builtin (R:=wants (fun r s₂=>r=.none∧∃ h' tk,s₂={ s with heap:=h',toks:=tk }∧SetG prog w h' s.heap.objs.size (YS ks)∧∀ b o,s.heap.get? b=some o→h'.get? b=some o) E) PySem.F.called_set.init.plain PySem.F.entry_set_init (check_set_init_1 hT ?_)) fun r₂ s₂ hr₂=>?_
     · obtain ⟨ol,hol,hcl,nl,hdl⟩:=hl
       obtain ⟨ocls,odict,odata,oslots⟩:=ol
       cases hcl;cases hdl
       have g1:(s.heap.push (Vo w)).get? l=some { cls:=.type "list",dict:=odict,data:=.seq items nl,slots:=oslots }:=Heap.get?_push_of_some _ hol
       have hsls:=PySem.F.sub_list_set
       have hslf:=PySem.F.sub_list_frozenset
       have hne:(Value.type "list" == Value.type "dict")=false:=by decide
       have hl1:(s.heap.push (Vo w)).IsList l items:=⟨_,g1,rfl,nl,rfl⟩
       unfold Builtin.«set.__init__» noKeywords Builtin.Frozenset.updateFrom
       generalize hPI:pyIter=PI
       wp_walk
       subst hPI
       refine wpAny_pyIter_list hl1 (wpAny_bind (wpAny_runValue ?_))
       have lt:=Heap.lt_size hol
       have noH:A.in1.in1.in1.handled=none:=by simp [hh]
       have ne1:l≠(s.heap.push (Vo w)).objs.size:=by rw [Heap.size_push];exact Nat.ne_of_lt (Nat.lt_succ_of_lt lt)
       have ne2:s.heap.objs.size ∉ [(s.heap.push (Vo w)).objs.size,l]:=by
         rw [Heap.size_push]
         simp only [List.mem_cons,List.not_mem_nil,or_false,not_or]
         exact ⟨Nat.ne_of_lt (Nat.lt_succ_self _),Nat.ne_of_gt lt⟩
       refine Zhc ((Walks.list noH _ l ne1 items).toS) s.heap.objs.size ne2 ks hn (fun i k v e1 e2=>hi i k v e1 e2) hb items.size 0 _ rfl (Nat.zero_le _) ⟨⟨_,Heap.get?_push_size _ rfl,rfl,rfl⟩,hl1.push _⟩ (newG.keep fun o e=>Heap.get?_push_of_some _ e) fun s' mv G=>?_
       obtain ⟨h',g',d',tk',os'⟩:=s'
       have eg:g'=s.gens:=mv.gens
       have ed:d'=s.drawn:=mv.drawn
       have eo:os'=s.os:=mv.os
       subst eg ed eo
       refine wpAny_pure (wpAny_pure ⟨rfl,h',tk',rfl,G,fun b o e=>mv.heap b o ?_ (Heap.get?_push_of_some _ (Heap.get?_push_of_some _ e))⟩)
       have lb:=Heap.lt_size e
       rw [Heap.size_push]
       simp only [List.mem_cons,List.not_mem_nil,or_false,not_or]
       exact ⟨Nat.ne_of_lt lb,Nat.ne_of_lt (Nat.lt_succ_of_lt lb)⟩
     · cases r₂ with
       | error e=>exact hr₂
       | ok fl₂ =>
         cases fl₂ with
         | ret r =>
           obtain ⟨rfl,h',tk,rfl,G,hk'⟩:=hr₂
           (repeat (any_goals (first | assumption | wp_step)))
           exact q _ _ G hk'
         | _=>exact hr₂.elim
   | _=>exact hr.elim
end
end L2
set_option maxHeartbeats 4000000
namespace L2
open PySem PySem.W PySem.Spec PyProof.Rows
section
variable {prog:Program} {w:World} {A:Around} {E:Value→Shared→Prop} {s:Shared} {a:Addr}
theorem Zhz {Q:Bool→Shared→Prop} (hT:s.TypeIs (.ref a) "set") (h:Q false s):wpAny (model prog w) A (Builtin.List.listLengthHint (.ref a)) Q E s:=by
 unfold Builtin.List.listLengthHint
 refine wpAny_bind (wpAny_specialOf hT PySem.F.slot_set_len.lookup ?_)
 generalize hz:("set.__len__":String)=z
 wp_delta
 rw [show splitId z=some ("set","__len__") from by subst hz;decide +kernel]
 subst hz
 refine wpAny_bind (wpAny_isInstance (T:="set") (b:=true) hT (by rw [isSubtype_type];kernel_rfl) ?_)
 refine wpAny_ite_split (fun y=>absurd y (by decide)) (fun _=>?_)
 refine wpAny_ite_split (fun _=>wpAny_bind (wpAny_typeOf hT (wpAny_pure h))) (fun y=>absurd (by decide +kernel) y)
theorem Zdq {ks:List Zj} {R:List Value→Shared→Prop} (hh:A.handled=none) (G:SetG prog w s.heap a ks)
   (k:∀ (h':Heap) (d:Drawn) (tk:Nat) (acc:Array Value),s.heap.objs.size < h'.objs.size→(∀ b o,s.heap.get? b=some o→h'.get? b=some o)→(acc.toList.map XC).Perm ks→(∀ v∈acc.toList,∃ k,YK k v=true)→R acc.toList { s with heap:=h',drawn:=d,toks:=tk }) :
   wpAny (model prog w) A (collect (.ref a)) R E s:=by
 have hks:ks.length≤sizeLine:=by
   obtain ⟨o,xs,ep,t,ho,hx,hd,h1,h2,h3,h4,h5,h6⟩:=G
   rw [← h2.length_eq];unfold WQ;rw [List.length_map,Array.length_toList];exact fits_of_scanBound h4
 have here:(s.heap.push { cls:=.type "list",data:=.seq ([]:List Value).toArray }).get? s.heap.objs.size=some { cls:=.type "list",data:=.seq #[] }:=Heap.get?_push_size _ rfl
 let Fn:Result→Shared→Prop:=fun q s'=>∃ (h':Heap) (d:Drawn) (tk:Nat) (its:Array Value) (c:Nat),(q=.ok (.ret (.ref s.heap.objs.size))∧s'={ s with heap:=h',drawn:=d,toks:=tk })∧(∀ b o,s.heap.get? b=some o→h'.get? b=some o)∧h'.get? s.heap.objs.size=some { cls:=.type "list",dict:=none,data:=.seq its c,slots:=#[] }∧(its.toList.map XC).Perm ks∧∀ v∈its.toList,∃ k,YK k v=true
 have fin:∀ s',Fn (.ok (.ret (.ref s.heap.objs.size))) s'→wpAny (model prog w) A (do match (← load s.heap.objs.size).data with | .seq xs _=>pure xs.toList | _=>unsupported "internal:collect") R E s':=by
   rintro s' ⟨h',d,tk,its,c,⟨_,rfl⟩,hk,hs,hp,hv⟩
   exact wpAny_bind (wpAny_load hs (wpAny_pure (k h' d tk its (Heap.lt_size hs) hk hp hv)))
 have G1:SetG prog w (s.heap.push { cls:=.type "list",data:=.seq ([]:List Value).toArray }) a ks:=G.keep fun o e=>Heap.get?_push_of_some _ e
 have hal:a < s.heap.objs.size:=by obtain ⟨o,_,_,_,ho,_⟩:=G;exact Heap.lt_size ho
 have hT:Shared.TypeIs { s with heap:=s.heap.push { cls:=.type "list",data:=.seq ([]:List Value).toArray } } (.ref a) "set":=by obtain ⟨o,_,_,_,ho,hx,_⟩:=G1;exact ⟨o,ho,hx.1⟩
 have run:wpAny (model prog w) A.in1 (Builtin.List.listExtendWith (.ref s.heap.objs.size) (.ref a) (.ref s.heap.objs.size))
     (fun fin s'=>match fin with | .done f=>Fn (.ok f) s' | .again c'=>c'.quiet=true∧codeAny (model prog w) A c' Fn s') (fun e s'=>Fn (.error e) s') { s with heap:=s.heap.push { cls:=.type "list",data:=.seq ([]:List Value).toArray } }:=by
   unfold Builtin.List.listExtendWith
   refine wpAny_bind (wpAny_typeOf (T:="set") hT ?_)
   have n1:Builtin.List.listSameRef (.ref s.heap.objs.size) (.ref a)=false:=by simp [Builtin.List.listSameRef,Nat.ne_of_gt hal]
   have n2:(Value.type "set" == Value.type "list")=false:=by decide
   have n3:(Value.type "set" == Value.type "tuple")=false:=by decide
   simp only [n1,n2,n3,Bool.or_false,Bool.false_eq_true,if_false]
   refine wpAny_bind (Zin (A:=A.in1) hh G1 fun I h1 d fp n P St W st hI hk hfp hn hP=>?_)
   rw [Heap.size_push] at hI hfp
   have ne1:s.heap.objs.size ∉ fp:=fun z=>by
     rcases hfp _ z with y | y
     · exact Nat.ne_of_gt hal y
     · exact absurd y (Nat.not_succ_le_self _)
   have key:∀ (h:Heap) (c:Nat),St 0 h→(∀ b o,s.heap.get? b=some o→h.get? b=some o)→h.get? s.heap.objs.size=some { cls:=.type "list",dict:=none,data:=.seq #[] c,slots:=#[] } →
       codeAny (model prog w) A (.builtin "list.extend.loop" ⟨[.ref s.heap.objs.size,.ref I,.ref s.heap.objs.size],[]⟩) Fn { s with heap:=h,drawn:=d }:=fun h c hst hkp hS=>by
     refine codeAny_extend_loopS W.toS (by rw [hn];exact hks) s.heap.objs.size ne1 (.ref s.heap.objs.size) n 0 _ #[] c rfl (Nat.zero_le _) hst hS (ItemsOf.nil _) fun s' acc c' mv hS' hacc=>?_
     obtain ⟨h2,g2,d2,tk2,os2⟩:=s'
     have eg:g2=s.gens:=mv.gens
     have ed:d2=d:=mv.drawn
     have eo:os2=s.os:=mv.os
     subst eg ed eo
     refine ⟨h2,d2,tk2,acc,c',⟨rfl,rfl⟩,fun b o e=>mv.heap b o (fun z=>?_) (hkp b o e),hS',hP acc hacc⟩
     have lb:=Heap.lt_size e
     rcases List.mem_cons.mp z with y | y
     · exact Nat.ne_of_lt lb y
     · rw [List.mem_singleton.mp y] at lb
       exact absurd (Nat.lt_of_lt_of_le lb (Nat.le_of_succ_le hI)) (Nat.lt_irrefl _)
   have hS1:=hk _ _ here
   have hkp:∀ b o,s.heap.get? b=some o→h1.get? b=some o:=fun b o e=>hk b o (Heap.get?_push_of_some _ e)
   have hT1:Shared.TypeIs { s with heap:=h1,drawn:=d } (.ref a) "set":=by obtain ⟨o,ho,hc⟩:=hT;exact ⟨o,hk _ _ ho,hc⟩
   refine wpAny_bind (wpAny_holding (Zhz (s:={ s with heap:=h1,drawn:=d }) hT1 ?_))
   refine wpAny_ite_split (fun _=>?_) (fun _=>wpAny_pure ⟨plainId_quiet PySem.F.plain_extend_loop _,key _ _ st hkp hS1⟩)
   refine wpAny_bind (wpAny_rule (wpAny_bind ?_))
   show wpAny _ _ (updateSeq s.heap.objs.size (·.push .none) >>= fun _=>updateSeq s.heap.objs.size (·.pop)) _ _ _
   refine wpAny_bind (wpAny_updateSeq hS1 rfl ?_)
   have hS2:=Heap.get?_update_self (Obj.mapSeq (·.push Value.none)) hS1 rfl
   refine wpAny_updateSeq (hz:=by seq_fits) hS2 rfl ?_
   have hS3:=Heap.get?_update_self (Obj.mapSeq (·.pop)) hS2 rfl
   have up:∀ b,b≠s.heap.objs.size→∀ o,h1.get? b=some o→((h1.update s.heap.objs.size (Obj.mapSeq (·.push Value.none))).update s.heap.objs.size (Obj.mapSeq (·.pop))).get? b=some o:=fun b nb o e =>
     (Heap.get?_update_other _ _ (Ne.symm nb)).trans ((Heap.get?_update_other _ _ (Ne.symm nb)).trans e)
   exact wpAny_pure ⟨plainId_quiet PySem.F.plain_extend_loop _,key _ _ (W.frame 0 _ _ st fun b hb o e=>up b (fun z=>ne1 (z ▸ hb)) o e) (fun b o e=>up b (Nat.ne_of_lt (Heap.lt_size e)) o (hkp b o e)) hS3⟩
 unfold collect
 refine wpAny_bind (wpAny_runValue (codeAny_builtin entry_proto_collect' ?_))
 rw [Around.under_plainId PySem.F.plain_proto_collect _]
 refine wpAny_bind (m:=newList []) (wpAny_newObj_type (wpAny_pure ⟨plainId_quiet PySem.F.plain_list_iadd _,codeAny_builtin entry_list_iadd' ?_⟩))
 rw [Around.under_plainId PySem.F.plain_list_iadd _]
 refine wpAny_mono run (fun f s' x=>?_) fun e s' x=>?_
 · cases f with
   | done f =>
     obtain ⟨h',d,tk,its,c,⟨e,e2⟩,r'⟩:=x
     cases e
     exact fin s' ⟨h',d,tk,its,c,⟨rfl,e2⟩,r'⟩
   | again c₁ =>
     refine ⟨x.1,codeAny_mono x.2 fun q s₂ y=>?_⟩
     obtain ⟨h',d,tk,its,c,⟨e,e2⟩,r'⟩:=y
     subst e
     exact fin s₂ ⟨h',d,tk,its,c,⟨rfl,e2⟩,r'⟩
 · obtain ⟨_,_,_,_,_,⟨e',_⟩,_⟩:=x
   cases e'
end
end L2
set_option maxHeartbeats 4000000
namespace L2
open PySem PySem.W PySem.Spec PyProof.Rows
def Zfk (P:Program) (w:World) (p:Addr) (ks:List Zj):Heap→Prop:=fun h=>SetG P w h p ks
theorem Zkn {k:Zj} {v:Value} (h:RelV (kV k) v):YK k v=true:=by
 cases k with
 | inl i=>obtain ⟨t,rfl⟩:=h;exact ZbB i t
 | inr x=>obtain ⟨t,rfl⟩:=h;exact Zbx x t
theorem Zeb:∀ {xs:List V} {us:List Value},Vals xs us→∀ (i:Nat) (x:V) (u:Value),xs[i]?=some x→us[i]?=some u→RelV x u
 | _,_,.nil,i,x,u,h,_=>by simp at h
 | _,_,.cons r t,0,x,u,h,g=>by cases h;cases g;exact r
 | _,_,.cons r t,i+1,x,u,h,g=>Zeb t i x u h g
section
variable {X:Cx}
theorem Inv.draw {pins:List (Addr×Obj)} {σ:St} {H:Hp} {s:Shared} (I:Inv X pins σ H s) (d:Drawn):Inv X pins σ H { s with drawn:=d } :=
 ⟨I.ok,I.os,I.bare,I.base,I.loc,I.cell,I.free,I.freeC,I.pin,I.hok,I.len⟩
theorem ZcV (hc:X.calm=true):Yv X (.type "set") (fun xs H Q=>∃ (l:Addr) (ks:List Zj),xs=[.ref l]∧SqL X.K H l (ks.map kV)∧ks.length≤1000 ∧
   ∀ p,H p=none→Q (.ref p) (upd H p (.ext (Zfk X.prog X.w p (YS ks))))):=by
 intro pins s σ H xs us Q I r h
 obtain ⟨l,ks,rfl,el,hk,q⟩:=h
 obtain ⟨u,rfl,ru⟩:=Yr r
 cases ru
 obtain ⟨its,rv,p,hz⟩:=I.list el
 have hl:its.length=ks.length:=by have:=rv.length;rw [List.length_map] at this;exact this.symm
 refine ZfV (items:=its.toArray) (ks:=ks) (I.ok.hd hc) p.isList (by rw [List.size_toArray];exact hl.symm) (fun i k v e1 e2=>?_) (by rw [List.size_toArray,hl];show _ < 4096;omega) fun h' tk G kp=>?_
 · rw [List.getElem?_toArray] at e2
   exact Zkn (Zeb rv i (kV k) v (by rw [List.getElem?_map,e1];rfl) e2)
 · have lt:∃ o,h'.get? s.heap.objs.size=some o:=by obtain ⟨o,_,_,_,ho,_⟩:=G;exact ⟨o,ho⟩
   exact ⟨.ref s.heap.objs.size,_,I.laid (t':=tk) kp (Nat.le_refl _) (show ObjOk X.prog X.w _ _ _ (.ext (Zfk X.prog X.w s.heap.objs.size (YS ks))) from ⟨G,lt,fun h1 h2 g k=>SetG.keep g k⟩),rfl,q _ (I.hok.fresh (Nat.le_refl _))⟩
theorem ZfO {l ns:List Int} (h:(l.map (Sum.inl:Int→Zj)).Perm (ns.map Sum.inl)):l.Perm ns:=by
 have e:∀ l:List Int,(l.map (Sum.inl:Int→Zj)).filterMap Sum.getLeft?=l:=fun l=>by
   induction l with
   | nil=>rfl
   | cons a r ih=>rw [List.map_cons,List.filterMap_cons];exact congrArg (a::·) ih
 have:=h.filterMap Sum.getLeft?
 rwa [e,e] at this
theorem Zbn:∀ {vs:List Value} {ns:List Int},(∀ v∈vs,∃ k,YK k v=true)→(∀ v∈vs,XC v∈ns.map (Sum.inl:Int→Zj))→∃ l,IntsAre vs l∧vs.map XC=l.map Sum.inl
 | [],_,_,_=>⟨[],.nil,rfl⟩
 | v :: vs,ns,h,g=>by
   obtain ⟨l,h1,h2⟩:=Zbn (vs:=vs) (ns:=ns) (fun u hu=>h u (List.mem_cons_of_mem _ hu)) (fun u hu=>g u (List.mem_cons_of_mem _ hu))
   obtain ⟨k,hk⟩:=h v List.mem_cons_self
   obtain ⟨i,_,e⟩:=List.mem_map.mp (g v List.mem_cons_self)
   rw [Uy hk] at e
   subst e
   obtain ⟨j,t,e1,rfl⟩ | ⟨x,t,e1,_⟩:=ZT hk
   · cases e1
     exact ⟨i::l,.cons i t h1,by rw [List.map_cons,List.map_cons,h2];rfl⟩
   · cases e1
theorem VU (hc:X.calm=true):Yv X (.builtin "sorted") (fun xs H Q=>∃ (p:Addr) (ns:List Int),xs=[.ref p]∧H p=some (.ext (Zfk X.prog X.w p (ns.map Sum.inl)))∧ns.length < 64 ∧
   ∀ (l:Addr) (ns':List Int),H l=none→ns'.Perm ns→ns'.Pairwise (·≤·)→Q (.ref l) (upd H l (.lst (ns'.map V.int)))):=by
 intro pins s σ H xs us Q I r h
 obtain ⟨p,ns,rfl,ep,h64,q⟩:=h
 obtain ⟨u,rfl,ru⟩:=Yr r
 cases ru
 obtain ⟨G,_,_⟩:=(show ObjOk X.prog X.w H s.heap p (.ext (Zfk X.prog X.w p (ns.map Sum.inl))) from I.hok p _ ep)
 refine PySem.Calls.call_function_entry kind_sorted plain_sorted entry_sorted (args_sorted1 _) ?_
 unfold Builtin.«sorted»
 refine wpAny_bind (m:=checkCount "sorted" 1 1 _) (wpAny_pure ?_)
 refine wpAny_bind (Zdq (A:=X.A.in1) (I.ok.hd hc) G fun h' d tk acc hgt hk hp hv=>?_)
 obtain ⟨l,hI,he⟩:=Zbn hv (fun v hv'=>hp.mem_iff.mp (List.mem_map.mpr ⟨v,hv',rfl⟩))
 rw [he] at hp
 have hln:=ZfO hp
 have hlen:acc.toList.length < 64:=by rw [hI.length,hln.length_eq];exact h64
 refine wpAny_bind (wpAny_newList ?_ (by rw [sizeLine_eq];omega))
 have hoL:(h'.push { cls:=.type "list",data:=.seq acc.toList.toArray }).get? h'.objs.size=some (seqObj "list" acc.toList.toArray 0):=Heap.get?_push_size _ rfl
 have keepg:∀ b o,h'.get? b=some o→(h'.push { cls:=.type "list",data:=.seq acc.toList.toArray }).get? b=some o:=fun b o e=>Heap.get?_push_of_some _ e
 have hsz:h'.objs.size < (h'.push { cls:=.type "list",data:=.seq acc.toList.toArray }).objs.size:=Heap.lt_size hoL
 show wpAny _ _ _ _ _ { s with heap:=h'.push { cls:=.type "list",data:=.seq acc.toList.toArray },drawn:=d,toks:=tk }
 generalize h'.push { cls:=.type "list",data:=.seq acc.toList.toArray }=g at hoL keepg hsz ⊢
 refine wpAny_bind (wpAny_holding (wpAny_call_entry slot_list_sort ⟨_,hoL,rfl⟩ entry_list_sort (list_sort_tree (s:={ s with heap:=g,drawn:=d,toks:=tk }) hoL hI hlen fun out ns' a1 a2 a3=>⟨_,rfl,wpAny_pure ⟨_,rfl,?_⟩⟩) (args_list_sort _)))
 obtain ⟨e,hat⟩:=sortedHeap_at (out:=out) hoL
 have hge:=Nat.le_of_lt hgt
 refine ⟨.ref h'.objs.size,_,(I.draw d).laid (t':=tk) (h':=sortedHeap g h'.objs.size acc.toList out) (o:=.lst (ns'.map V.int)) (fun b o hb=>?_) hge ⟨?_,out.toList,e,Vc a1,by rw [Array.toArray_toList];exact hat⟩,rfl,q _ ns' (I.hok.fresh hge) (a2.trans hln) a3⟩
 · have lb:=Heap.lt_size hb
   have ne:b≠h'.objs.size:=Nat.ne_of_lt (Nat.lt_of_lt_of_le lb hge)
   rw [sortedHeap_old ne (Nat.lt_trans (Nat.lt_of_lt_of_le lb hge) hsz)]
   exact keepg b o (hk b o hb)
 · rw [List.length_map,a2.length_eq,hln.length_eq,sizeLine_eq];omega
end
end L2
set_option maxHeartbeats 4000000
namespace K20
open PySem L2
section
variable {P:Program} {w:World} {K:PySem.W.Frag} {mg:Str→Option Value} {base:Heap} {CR CS Pl:Addr}
def coN (pls:List ZK):Nat→Nat
 | 0=>0
 | k+1=>(pls.getD k ⟨0,.clr "",0,0⟩).co
theorem ZkR {pls:List ZK} {k:Nat} (h:k≤pls.length):(V.int 0::pls.map fun q=>V.int (q.co:Int))[k]?=some (.int (coN pls k:Int)):=by
 cases k with
 | zero=>rfl
 | succ k =>
   rw [List.getElem?_cons_succ,List.getElem?_map,List.getElem?_eq_getElem (show k < pls.length by omega)]
   show _=some (V.int ((pls.getD k ⟨0,.clr "",0,0⟩).co:Int))
   rw [List.getD_eq_getElem?_getD,List.getElem?_eq_getElem (show k < pls.length by omega)];rfl
def ZgG (K:PySem.W.Frag) (CR CS:Addr):Sp:=fun vs H Q _=>∃ (r:Addr) (pls:List ZK) (nds:List Nd) (tabs:List (Zj×V)) (k:Nat),vs=[.ref r,.int (k:Int)]∧RdR K CR CS r pls nds tabs H∧k≤pls.length∧Q (.int (coN pls k:Int)) H
abbrev nRCo:List Str:=["self","place"]
abbrev ZeK:List Str:=["self","place"]
theorem Zmr:Zs nRCo ZeK (Zl c_Roads_cost):=⟨rfl,rfl,rfl,by decide +kernel,rfl,by decide +kernel,by decide +kernel⟩
theorem ZjY {f:Addr} {fd:FuncData} (F:Fun K "cost" "Roads.cost" c_Roads_cost f fd) (T:YB mg) (TR:WI K CR) (DR_check_place:DefM P w K mg base 1 CR "check_place" ZbX (ZeT K CR CS)):FnOk P w K mg base ZH 2 f fd ZeK (ZgG K CR CS):=by
 refine F.ok Zmr (fun vs H Q E h=>?_) (fun cdv A outer s H vs Q E hr h=>?_)
 · obtain ⟨r,pls,nds,tabs,k,rfl,_⟩:=h;rfl
 obtain ⟨r,pls,nds,tabs,k,rfl,R,hk,q⟩:=h
 obtain ⟨st,la,ls,lt,lc,S⟩:=id R
 obtain ⟨dx,ob⟩:=S.get r
 refine' ⟨?t,?h,?r⟩
 case h =>
   conv=>arg 2;whnf
   with_reducible refine' (Zd ?h1 (Zi ?h2))
   case h1=>exact YC (Yy DR_check_place TR.cl hr (pv 0) (Zc (pv 1) Za))
   case h2=>exact Zp (Zo Zy (ZU (pv 0) rfl) (pv 1) (fun _ _=>rfl))
 refine ⟨_,rfl,r,dx,_,rfl,ob,Wf (by decide +kernel),_,rfl,r,pls,nds,tabs,k,rfl,R,hk,?_⟩
 exact ⟨_,rfl,r,CR,dx,_,_,rfl,ob,TR.cl,TR.nc,ZiE,_,rfl,lc,_,_,_,rfl,rfl,SqL.of (S.get lc),Zv (ZkR hk),q⟩
def Vp (l:List Nat) (i:Nat):List Int:=(List.range i).map fun (j:Nat)=>((j:Int)+1) * (((l.getD j 0:Nat):Int) - 96)
theorem ZfX (l:List Nat):∀ i,(Vp l i).sum=Xy l i
 | 0=>rfl
 | i+1=>by
   unfold Vp
   rw [List.range_succ,List.map_append,List.sum_append]
   have:=ZfX l i
   unfold Vp at this
   rw [this]
   show Xy l i+(((i:Int)+1) * (((l.getD i 0:Nat):Int) - 96)+0)=Xy l i+((i:Int)+1) * (((l.getD i 0:Nat):Int) - 97+1)
   rw [show ((l.getD i 0:Nat):Int) - 97+1=((l.getD i 0:Nat):Int) - 96 by omega];omega
def ZiQ:Sp:=fun vs H Q _=>∃ x:Str,vs=[.str x]∧Xq x∧∀ H',Same H H'→Q (.int (Zg x)) H'
abbrev Zff:List Str:=["_law_name","_law_letters"]
abbrev Zfw:List Str:=["_law_name"]
theorem scLMk:Zs Zff Zfw (Zl s_l_mark):=⟨rfl,rfl,rfl,by decide +kernel,rfl,by decide +kernel,by decide +kernel⟩
theorem ZlE {f:Addr} {fd:FuncData} (F:Fun K "_law_mark" "_law_mark" s_l_mark f fd) (T:YB mg):FnOk P w K mg base ZH 1 f fd Zfw ZiQ:=by
 refine F.ok scLMk (fun vs H Q E h=>?_) (fun cdv A outer s H vs Q E hr h=>?_)
 · obtain ⟨x,rfl,_⟩:=h;rfl
 obtain ⟨x,rfl,hx,q⟩:=h
 have hz:x.cps.size≤100:=by have:=hx.2.1;show x.length≤100;omega
 have hall:=hx.2.2
 refine' ⟨?t,?h,?r⟩
 case h =>
   conv=>arg 2;whnf
   with_reducible refine' (Zd ?h1 (Zi ?h2))
   case h1=>exact Zx (i:=1) scLMk.nd rfl (Or.inr rfl) ZO
   case h2=>exact Zp (Zw (ZiA rfl) rfl T.sum (by decide +kernel) (Zc (Ziu (xa:="_law_place") (xb:="_law_sign") (CompOkT.of Zff s_l_mark rfl rfl (by decide +kernel)) rfl (ZhU rfl T.enumerate (pv 0)) (fun _ _ _ _ _=>ZdC (K:=K) rfl rfl (ZN (i:=2) (show (XQ Zff "_law_place" "_law_sign"++(["_law_place","_law_sign"]:List Str)).Nodup by decide +kernel) rfl (Or.inl rfl) (Or.inr rfl)) (ZN (i:=3) (show (XQ Zff "_law_place" "_law_sign"++(["_law_place","_law_sign"]:List Str)).Nodup by decide +kernel) rfl (Or.inl rfl) (Or.inr rfl)))  (fun _ _ _ _ _=>Zn XM (Zn Yi (pv 2) Zb) (Zn Yi (Zlh (K:=K) rfl PySem.F.plainAttrs_str PySem.F.slot_str_index PySem.F.type_str_index VZ (pv 1) (Zc (pv 3) Za)) Zb))) Za))
 refine ⟨_,rfl,x,rfl,fun D hD=>?_⟩
 refine Zdu (Nat.le_trans hz (by decide)) (fun i ys H'=>ys=(Vp x.cps.toList i).map V.int∧i≤x.cps.size∧H' D=some (.lst ys)∧Same H H') ⟨rfl,Nat.zero_le _,Zh,ZB hD _⟩ ?_ ?_ ?_
 · rintro i ys H' ⟨rfl,_⟩;unfold Vp;rw [List.length_map,List.length_map,List.length_range]
 · rintro i c t ys H1 wa wb hc ht ⟨rfl,hi,hD1,s1⟩
   have hi':i < x.cps.size:=(Array.getElem?_eq_some_iff.mp hc).1
   have htD:D≠t:=fun z=>by rw [z,ht] at hD1;cases hD1
   have hcl:WX c=true:=by
     have hlj:i < x.cps.toList.length:=by rw [Array.length_toList];exact hi'
     have:=List.all_eq_true.mp hall _ (List.getElem_mem hlj)
     rw [Array.getElem_toList] at this
     rw [Array.getElem?_eq_getElem hi'] at hc
     cases hc;exact this
   obtain ⟨f1,f2,f3⟩:=ZcW hcl
   refine ⟨t,_,rfl,SqT.of Zh,rfl,_,_,rfl,_,_,rfl,rfl,⟨_,_,rfl⟩,?_⟩
   refine ⟨_,rfl,_,_,rfl,rfl,_,rfl,rfl,_,rfl,a26,_,rfl,rfl,by rw [f1];omega,_,_,rfl,rfl,_,_,rfl,rfl,.inl ⟨by omega,by omega⟩,by rw [Zk htD];exact hD1,?_,hi',Zh,fun b o e=>by rw [Zk (Zt e hD)];exact (s1.trans (ZB ht _)) _ _ e⟩
   have e1:x.cps.toList.getD i 0=c:=by rw [List.getD_eq_getElem?_getD,Array.getElem?_toList,hc];rfl
   unfold Vp
   rw [List.range_succ,List.map_append,List.map_append]
   show _++[V.int (((i:Int)+1) * (Txt.find a26 ⟨#[c]⟩+1))]=_++[V.int (((i:Int)+1) * (((x.cps.toList.getD i 0:Nat):Int) - 96))]
   rw [e1,f1,show (c:Int) - 97+1=(c:Int) - 96 by omega]
 · rintro ys H1 ⟨rfl,_,hD1,s1⟩
   refine ⟨D,_,rfl,SqL.of hD1,?_,?_,?_⟩
   · unfold Vp;rw [List.length_map,List.length_range];omega
   · intro z hz'
     unfold Vp at hz'
     obtain ⟨j,hj,rfl⟩:=List.mem_map.mp hz'
     have hj':j < x.cps.size:=List.mem_range.mp hj
     have hlj:j < x.cps.toList.length:=by rw [Array.length_toList];exact hj'
     have hc:=List.all_eq_true.mp hall _ (List.getElem_mem hlj)
     have hg:x.cps.toList.getD j 0=x.cps.toList[j]:=by rw [List.getD_eq_getElem?_getD,List.getElem?_eq_getElem hlj];rfl
     rw [hg]
     generalize x.cps.toList[j]=c at hc
     unfold WX at hc
     simp only [Bool.and_eq_true,decide_eq_true_eq] at hc
     rw [Int.natAbs_mul]
     exact Nat.le_trans (Nat.mul_le_mul (show ((j:Int)+1).natAbs≤100 by omega) (show ((c:Int) - 96).natAbs≤26 by omega)) (by decide)
   · rw [ZfX];exact q H1 s1
theorem ZaI (ms:List Int):∃ ns:List Int,YS (ms.map Sum.inl)=ns.map Sum.inl∧ns.Nodup∧(∀ m,m∈ns↔m∈ms)∧ns.length≤ms.length:=by
 have lefts:∀ ks:List Zj,(∀ k∈ks,∃ m:Int,k=Sum.inl m)→∃ ns:List Int,ks=ns.map Sum.inl:=by
   intro ks
   induction ks with
   | nil=>intro _;exact ⟨[],rfl⟩
   | cons k r ih =>
     intro h
     obtain ⟨m,rfl⟩:=h k List.mem_cons_self
     obtain ⟨ns,rfl⟩:=ih fun k hk=>h k (List.mem_cons_of_mem _ hk)
     exact ⟨m::ns,rfl⟩
 obtain ⟨ns,e⟩:=lefts (YS (ms.map Sum.inl)) fun k hk=>by
   obtain ⟨m,_,rfl⟩:=List.mem_map.mp (onceK_mem.mp hk);exact ⟨m,rfl⟩
 have inj:∀ {m:Int} {l:List Int},(Sum.inl m:Zj)∈l.map Sum.inl↔m∈l:=fun {m l}=>by
   rw [List.mem_map];exact ⟨fun ⟨a,h,e⟩=>by cases e;exact h,fun h=>⟨m,h,rfl⟩⟩
 refine ⟨ns,e,?_,fun m=>?_,?_⟩
 · have:=Zdr (ms.map Sum.inl)
   rw [e] at this
   exact (List.pairwise_map.mp this).imp fun h z=>h (by rw [z])
 · rw [← inj (l:=ns),← e,onceK_mem,inj]
 · have:=ZbA (ms.map Sum.inl)
   rw [e,List.length_map,List.length_map] at this
   exact this
def spLW:Sp:=fun vs H Q _=>∃ (nl:Addr) (xs:List Str) (x:Str) (Δ:Rs),vs=[.ref nl,.str x]∧Sep ((nl,ZI (xs.map V.str))::Δ) H∧xs.length≤50∧(∀ y∈xs,Xq y)∧Xq x ∧
 ∀ (t:Addr) (H':Hp) (l:List Int),l.Nodup→(∀ m,m∈l↔m∈xs.map Zg)→H' t=some (.tup [.int ((Xi (Zg x) 5 0 l).1:Int),.bl (decide ((Xi (Zg x) 5 0 l).2=[Zg x]))])→Sep ((nl,ZI (xs.map V.str))::Δ) H'→Q (.ref t) H'
abbrev ZiC:List Str:=["_law_names_here","_law_name","_law_own","_law_left","_law_forks","_law_worth"]
abbrev ZeQ:List Str:=["_law_names_here","_law_name"]
theorem scLWy:Zs ZiC ZeQ (Zl s_l_way):=⟨rfl,rfl,rfl,by decide +kernel,rfl,by decide +kernel,by decide +kernel⟩
theorem ZjD {f:Addr} {fd:FuncData} (F:Fun K "_law_way" "_law_way" s_l_way f fd) (T:YB mg) (DLM:Def P w K mg base 1 "_law_mark" Zfw ZiQ):FnOk P w K mg base ZH 2 f fd ZeQ spLW:=by
 refine F.ok scLWy (fun vs H Q E h=>?_) (fun cdv A outer s H vs Q E hr h=>?_)
 · obtain ⟨nl,xs,x,Δ,rfl,_⟩:=h;rfl
 obtain ⟨nl,xs,x,Δ,rfl,S,hl,hxs,hx,q⟩:=h
 refine' ⟨?t,?h,?r⟩
 case h =>
   conv=>arg 2;whnf
   with_reducible refine' (Zd ?h1 (Zd (VT ?h2 ?h3 (Zd ?h4 (Zd ?h5 (Zi ?h6)))) (Zi ?h7)))
   case h1=>exact Xz (Xa (Zc (Zz DLM hr (Zc (pv 1) Za)) (Zc (Zw (VU rfl) rfl T.sorted (by decide +kernel) (Zc (Yu (ZcV rfl) rfl T.set (by decide +kernel) (Zc (XY (CompOk.of ZiC s_l_way rfl rfl (by decide +kernel)) rfl (Ur (pv 0))  (fun _ _ _ _ _=>Zz DLM hr (Zc (pv 6) Za))) Za)) Za)) (Zc Zb Za)))) (Wm rfl (Ya (ZN (i:=2) scLWy.nd rfl (Or.inr rfl)) (Ya (ZN (i:=3) scLWy.nd rfl (Or.inl rfl)) (Ya (ZN (i:=4) scLWy.nd rfl (Or.inl rfl)) XL))))
   case h2=>exact PassesOwn.never
   case h3=>exact PW.pt (ZfW (ZL ZeR (Zw ZG rfl T.len PySem.boot_len (Zc (pv 3) Za)) Zb (ZE _)) (Zdy (ZL Vq (pv 4) Zb (ZE _))))
   case h4=>exact Zx (i:=5) scLWy.nd rfl (Or.inr rfl) (Zo Zy (Yn (Zc Zb (Zc Zb (Zc Zb (Zc Zb (Zc Zb Za)))))) (pv 4) (fun _ _=>rfl))
   case h5=>exact WW (i:=3) (CompOk.of ZiC s_l_way rfl rfl (by decide +kernel)) rfl scLWy.nd rfl (Or.inl rfl) (Ur (pv 3)) (fun _ _ _ _ _=>ZL Yq (Zn Xj (Zn Zab (pv 6) (pv 5)) Zb) (Zn Xj (Zn Zab (pv 2) (pv 5)) Zb) (ZE _)) (fun _ _ _ _ _=>pv 6) rfl
   case h6=>exact Zx (i:=4) scLWy.nd rfl (Or.inl rfl) (Zn Yi (pv 4) Zb)
   case h7=>exact Zp (Xa (Zc (pv 4) (Zc (YT (ZlR hr.units) (pv 3) (Yn (Zc (pv 2) Za)) (ZE _)) Za)))
 refine ⟨_,rfl,x,rfl,hx,fun H1 s1=>?_⟩
 have S1:=S.mono s1
 refine ⟨_,rfl,nl,rfl,⟨_,SqL.of (S1.get nl)⟩,fun D hD=>?_⟩
 refine ZeB (K:=K) (xs:=xs.map V.str) (YH (show _≤1000 by rw [List.length_map];omega)) S1 hD (fun i ys Δ'=>ys=(xs.take i).map (fun y=>V.int (Zg y))∧Δ'=(nl,ZI (xs.map V.str))::Δ) ⟨rfl,rfl⟩ ?_ ?_ ?_
 · rintro i ys Δ' H' ⟨_,rfl⟩ S';exact SqL.of (S'.get nl)
 · rintro i v ys Δ' H' hv hyl ⟨rfl,rfl⟩ S'
   obtain ⟨y,hy,rfl⟩:∃ y,xs[i]?=some y∧V.str y=v:=by
     rw [List.getElem?_map] at hv
     cases e:xs[i]? with
     | none=>rw [e] at hv;cases hv
     | some y=>rw [e] at hv;exact ⟨y,rfl,Option.some.inj hv⟩
   refine ⟨_,rfl,y,rfl,hxs y (List.mem_of_getElem? hy),fun H2 s2=>⟨_,⟨?_,rfl⟩,S'.mono s2⟩⟩
   rw [List.take_succ,hy,List.map_append];rfl
 · rintro ys Δ' H2 ⟨rfl,rfl⟩ hyl S2
   rw [List.length_map,List.take_of_length_le (Nat.le_refl _)] at S2
   obtain ⟨ns,ens,hnd,hmem,hnl⟩:=ZaI (xs.map Zg)
   rw [List.length_map] at hnl
   have ek:((xs.map Zg).map (Sum.inl:Int→Zj)).map kV=xs.map fun y=>V.int (Zg y):=by rw [List.map_map,List.map_map];rfl
   refine ⟨D,(xs.map Zg).map Sum.inl,rfl,by rw [ek];exact SqL.of (S2.get D),by rw [List.length_map,List.length_map];omega,fun p hp=>?_⟩
   rw [ens]
   refine ⟨p,ns,rfl,Zh,by omega,fun lp l0 hlp hpm _=>⟨(by show 3≤sizeLine;decide),fun tt htt=>⟨tt,_,rfl,SqT.of Zh,rfl,_,_,rfl,_,_,rfl,_,_,rfl,rfl,?_⟩⟩⟩
   generalize hE:upd (upd (upd H2 p _) lp _) tt _=H3
   have S3:=((((S2.new hp _).new hlp _).newE htt hE).tail)
   clear hE
   have S4:=((S3.drop p).drop D)
   have hnd0:l0.Nodup:=hpm.nodup_iff.mpr hnd
   have hmem0:∀ m,m∈l0↔m∈xs.map Zg:=fun m=>by rw [hpm.mem_iff];exact hmem m
   have hl0:l0.length≤50:=by rw [hpm.length_eq];omega
   have done:∀ (j:Nat) (l:List Int) (lp:Addr) (x5:Option V) (H4:Hp),Sep ((lp,ZI (l.map V.int))::(nl,ZI (xs.map V.str))::Δ) H4→l.length≤50→(j,l)=Xi (Zg x) 5 0 l0 →
       tRet (tTup (Xe (UZ 4) (Xe (tOp rEqD (UZ 3) (tLst (Xe (UZ 2) XE))) XE))) { nx:=fun x H'=>Q V.non H',rt:=Q } [some (.ref nl),some (.str x),some (.int (Zg x)),some (.ref lp),some (.int (j:Int)),x5] H4:=by
     intro j l lp x5 H4 S5 hll hgo
     refine ⟨_,rfl,_,rfl,_,rfl,(by show 1≤sizeLine;decide),fun ol hol=>?_⟩
     generalize hE:upd H4 ol _=H5
     have S6:=S5.newE hol hE
     clear hE
     obtain ⟨z1,z2,z3⟩:=Zbq (S6.get lp)
     obtain ⟨y1,y2,_⟩:=Zbq (xs:=[Zg x]) (S6.get ol)
     refine ⟨_,_,z1,y1,z2,y2,z3,(by show 2≤sizeLine;decide),fun t2 ht2=>?_⟩
     generalize hE:upd H5 t2 _=H6
     have S7:=S6.newE ht2 hE
     clear hE
     have e7:=S7.get t2
     have S8:=((S7.drop t2).drop ol).drop lp
     refine q t2 H6 l0 hnd0 hmem0 ?_ S8
     rw [← hgo]
     have ed:PyData.eqv (.list (l.map PyData.int)) (.list ([Zg x].map PyData.int))=decide (l=[Zg x]):=by
       cases l with
       | nil=>rfl
       | cons a r =>
         cases r with
         | nil=>simp [PyData.eqv,PyData.eqvAll];rw [Bool.eq_iff_iff];simp
         | cons b r=>simp [PyData.eqv,PyData.eqvAll]
     rw [← ed];exact e7
   refine ⟨fun m σ H'=>∃ (j:Nat) (l:List Int) (lp:Addr) (x5:Option V),σ=[some (.ref nl),some (.str x),some (.int (Zg x)),some (.ref lp),some (.int (j:Int)),x5]∧Sep ((lp,ZI (l.map V.int))::(nl,ZI (xs.map V.str))::Δ) H'∧j≤5∧m=5 - j∧l.length≤50∧Xi (Zg x) (5 - j) j l=Xi (Zg x) 5 0 l0,
     ⟨5,0,l0,lp,_,rfl,S4,by decide,rfl,hl0,rfl⟩,?_⟩
   rintro m σ H4 ⟨j,l,lp,x5,rfl,S5,hj,rfl,hll,hgo⟩
   refine ⟨_,rfl,lp,_,rfl,.inl (SqL.of (S5.get lp)),_,_,rfl,rfl,_,rfl,Xs (fun c=>?_) (fun c=>?_)⟩
   · refine ⟨_,rfl,_,_,rfl,rfl,_,rfl,Xs (fun c2=>?_) (fun c2=>?_)⟩
     · have hj5:j < 5:=by have:=of_decide_eq_true c2;omega
       have hlen:1 < l.length:=by have:=of_decide_eq_true c;rw [List.length_map] at this;omega
       refine ⟨_,fun σ' H' h=>h,(by show 5≤sizeLine;decide),fun wl hwl=>?_⟩
       have hw5:∀ j < 5,([V.int 1,V.int 4,V.int 16,V.int 64,V.int 256]:List V)[j]?=some (V.int (4 ^ j)):=by decide
       refine ⟨_,rfl,wl,_,_,_,rfl,rfl,SqL.of Zh,Zv (hw5 j hj5),?_⟩
       generalize hE:upd H4 wl _=H5
       have S6:=(S5.newE hwl hE).tail
       clear hE
       have hp4:(0:Int) < 4 ^ j∧(4:Int) ^ j < 2 ^ 62:=by
         have:∀ j < 5,(0:Int) < 4 ^ j∧(4:Int) ^ j < 2 ^ 62:=by decide
         exact this j hj5
       refine ⟨_,rfl,lp,rfl,⟨_,SqL.of (S6.get lp)⟩,fun D2 hD2=>?_⟩
       refine Zdp (K:=K) (xs:=l.map V.int) (YH (show _≤1000 by rw [List.length_map];omega)) S6 hD2 (fun i ys Δ'=>ys=((l.take i).filter fun m=>decide (WK m j=WK (Zg x) j)).map V.int∧Δ'=(lp,ZI (l.map V.int))::(nl,ZI (xs.map V.str))::Δ) ⟨rfl,rfl⟩ ?_ ?_ ?_
       · rintro i ys Δ' H' ⟨_,rfl⟩ S';exact SqL.of (S'.get lp)
       · rintro i v ys Δ' H' hv hyl ⟨rfl,rfl⟩ S'
         obtain ⟨y,hy,rfl⟩:∃ y,l[i]?=some y∧V.int y=v:=by
           rw [List.getElem?_map] at hv
           cases e:l[i]? with
           | none=>rw [e] at hv;cases hv
           | some y=>rw [e] at hv;exact ⟨y,rfl,Option.some.inj hv⟩
         refine ⟨_,rfl,_,rfl,_,_,rfl,rfl,hp4,_,_,rfl,rfl,(by show (0:Int) < 4;decide),_,rfl,_,rfl,_,_,rfl,rfl,hp4,_,_,rfl,rfl,(by show (0:Int) < 4;decide),rfl,_,rfl,?_⟩
         have edec:decide (V.int (y / 4 ^ j % 4)=V.int (Zg x / 4 ^ j % 4))=decide (WK y j=WK (Zg x) j):=by
           rw [decide_eq_decide];exact ⟨fun z=>V.int.inj z,fun z=>congrArg V.int z⟩
         rw [edec]
         refine Xs (fun c=>?_) (fun c=>?_)
         · refine ⟨_,rfl,_,⟨?_,rfl⟩,S'⟩
           rw [List.take_succ,hy,List.filter_append,List.map_append]
           show _=_++(List.filter _ [y]).map V.int
           rw [List.filter_cons,if_pos c];rfl
         · refine ⟨_,⟨?_,rfl⟩,S'⟩
           rw [List.take_succ,hy,List.filter_append,List.map_append]
           show _=_++(List.filter _ [y]).map V.int
           rw [List.filter_cons,if_neg c];simp
       · rintro ys Δ' H6 ⟨rfl,rfl⟩ hyl S7
         rw [List.length_map,List.take_of_length_le (Nat.le_refl _)] at S7
         refine ⟨_,rfl,_,_,rfl,rfl,5 - (j+1),by omega,j+1,_,D2,_,rfl,S7.drop lp,by omega,rfl,Nat.le_trans (List.length_filter_le _ _) hll,?_⟩
         rw [← hgo,show 5 - j=(5 - (j+1))+1 by omega]
         show _=if 1 < l.length then _ else _
         rw [if_pos hlen]
     · have hj5:j=5:=by have:¬ (j:Int) < 5:=fun z=>c2 (decide_eq_true z);omega
       subst hj5
       exact done 5 l lp x5 H4 S5 hll hgo
   · refine ZM ?_
     refine done j l lp x5 H4 S5 hll ?_
     rw [← hgo]
     cases 5 - j with
     | zero=>rfl
     | succ f =>
       show (j,l)=if 1 < l.length then _ else _
       rw [if_neg fun z=>c (decide_eq_true (by rw [List.length_map];omega))]
end
end K20
set_option maxHeartbeats 4000000
namespace K20
open PySem L2
def ZaJ (NS:List Str) (pls:List ZK):Prop:=∀ q∈pls,q.st.ok NS
theorem ZgA {ps:List (Str×V)} (h:(ps.map (·.1)).Nodup) {y:Str}:lk ps y≠none↔y∈ps.map (·.1):=by
 constructor
 · intro z
   cases e:lk ps y with
   | none=>exact absurd e z
   | some v=>exact List.mem_map.mpr ⟨(y,v),(Xo h).mp e,rfl⟩
 · intro z e
   obtain ⟨p,hp,rfl⟩:=List.mem_map.mp z
   rw [(Xo h).mpr (show (p.1,p.2)∈ps from hp)] at e;cases e
section
variable {P:Program} {w:World} {K:PySem.W.Frag} {mg:Str→Option Value} {base:Heap} {CR CS Pl:Addr}
def spLC:Sp:=fun vs H Q _=>∃ (NS:List Str) (sl:Addr) (pls:List ZK) (nds:List Nd) (tabs:List (Zj×V)) (k:Nat) (Δ:Rs),vs=[.ref sl,.int (k:Int)]∧Ym NS∧(∀ x∈NS,Xq x)∧NS.length≤50∧Sep ((sl,StopL pls)::Δ) H∧RInv NS pls nds tabs∧ZaJ NS pls∧k≤pls.length∧pls.length≤500 ∧
 ∀ H',Sep ((sl,StopL pls)::Δ) H'→Q (.int (coN pls k:Int)) H'
abbrev nLCo:List Str:=["_law_stops","_law_place","_law_before","_law_behind","_law_step_here","_law_forks","_law_is_leaf_there"]
abbrev Zfm:List Str:=["_law_stops","_law_place"]
theorem scLCo:Zs nLCo Zfm (Zl s_l_cost):=⟨rfl,rfl,rfl,by decide +kernel,rfl,by decide +kernel,by decide +kernel⟩
theorem ZhP {f:Addr} {fd:FuncData} (F:Fun K "_law_cost" "_law_cost" s_l_cost f fd) (T:YB mg) (DAl:Def P w K mg base 5 "_law_all" Zhe ZiK) (DLA:Def P w K mg base 5 "_law_alike" ZbU Zfp) (DLW:Def P w K mg base 5 "_law_way" ZeQ spLW):FnOk P w K mg base ZH 6 f fd Zfm spLC:=by
 refine F.ok scLCo (fun vs H Q E h=>?_) (fun cdv A outer s H vs Q E hr h=>?_)
 · obtain ⟨NS,sl,pls,nds,tabs,k,Δ,rfl,_⟩:=h;rfl
 obtain ⟨NS,sl,pls,nds,tabs,k,Δ,rfl,N,hN,hNl,S,I,hok,hk,hpl,q⟩:=h
 refine' ⟨?t,?h,?r⟩
 case h =>
   conv=>arg 2;whnf
   with_reducible refine' (Zd (Yk ?h1 (Zi ?h2) ZW) (Zd ?h3 (Zd (Yk ?h4 (Zi ?h5) ZW) (Zd ?h6 (Zi ?h7)))))
   case h1=>exact ZL Yq (pv 1) Zb (ZE _)
   case h2=>exact Zp Zb
   case h3=>exact ZdT (i:=2) (j:=3) (k:=4) rfl scLCo.nd rfl rfl rfl (by decide) (by decide) (by decide) rfl rfl rfl (Zc (Zz DAl hr (Zc (pv 0) (Zc (Zo ZQ (Zo Zy (pv 0) (pv 1) (fun _ _=>rfl)) Zb (fun _ _=>rfl)) Za))) (Zc (Zz DAl hr (Zc (pv 0) (Zc (pv 1) Za))) (Zc (Zo ZQ (Zo Zy (pv 0) (pv 1) (fun _ _=>rfl)) Zb (fun _ _=>rfl)) Za))) rfl
   case h4=>exact Wn (Zz DLA hr (Zc (VQ (UI hr) (pv 2) (Zo ZQ (pv 4) Zb (fun _ _=>rfl)) ⟨rfl,rfl,rfl,rfl⟩) (Zc (VQ (UI hr) (pv 3) (Zo ZQ (pv 4) Zb (fun _ _=>rfl)) ⟨rfl,rfl,rfl,rfl⟩) Za)))
   case h5=>exact Zp Zb
   case h6=>exact Xz (Zz DLW hr (Zc (Yu (ZaY rfl) rfl T.list (by decide +kernel) (Zc (pv 3) Za)) (Zc (Zo ZQ (pv 4) Zb (fun _ _=>rfl)) Za))) (Wm rfl (Ya (ZN (i:=5) scLCo.nd rfl (Or.inl rfl)) (Ya (ZN (i:=6) scLCo.nd rfl (Or.inl rfl)) XL)))
   case h7=>exact Zp (Zn Yi (pv 5) (Yu UV rfl T.int (by decide +kernel) (Zc (pv 6) Za)))
 refine ⟨_,rfl,rfl,_,rfl,Xs (fun c=>?_) (fun c=>?_)⟩
 · have hk0:k=0:=by have:=V.int.inj (of_decide_eq_true c);omega
   subst hk0
   exact q H S
 · cases k with
   | zero=>exact absurd (decide_eq_true rfl) c
   | succ m =>
     have hq9:=List.getElem?_eq_getElem (show m < pls.length by omega)
     generalize pls[m]=q9 at hq9
     have hsok:=hok q9 (List.mem_of_getElem? hq9)
     have hqk:=I.wf m q9 hq9
     obtain ⟨xs,a,x,z,esl,hxa,ea,ex,⟨b,s9,rfl,hs9,eb⟩,_⟩:=StopL.at (S.get sl) hk
     rw [List.getElem?_map,hq9] at hs9
     cases (show some q9.st=some s9 from hs9)
     have ex2:x=.int (q9.ah:Int):=by
       rw [ex];show V.int (((pls.getD m ⟨0,.clr "",0,0⟩).ah:Nat):Int)=_
       rw [List.getD_eq_getElem?_getD,hq9];rfl
     subst ex2
     refine ⟨_,rfl,_,rfl,_,rfl,sl,_,_,_,rfl,rfl,SqL.of esl,Zv hxa,a,_,_,_,rfl,rfl,SqT.of ea,Zv (j:=0) rfl,sl,pls,q9.ah,NS,_,rfl,S,I.wf,by omega,hpl,hok,hNl,fun d1 H1 psB S1 hhB hFB=>?_⟩
     refine ⟨_,rfl,_,rfl,sl,pls,m+1,NS,_,rfl,S1.pull sl,I.wf,hk,hpl,hok,hNl,fun d2 H2 psA S2 hhA hFA=>?_⟩
     obtain ⟨xs2,a2,x2,z2,esl2,hxa2,ea2,_,⟨b2,s92,rfl,hs92,eb2⟩,_⟩:=StopL.at (S2.get sl) hk
     rw [List.getElem?_map,hq9] at hs92
     cases (show some q9.st=some s92 from hs92)
     refine ⟨_,rfl,_,rfl,sl,_,_,_,rfl,rfl,SqL.of esl2,Zv hxa2,a2,_,_,_,rfl,rfl,SqT.of ea2,Zv (j:=1) rfl,_,_,_,rfl,?_⟩
     have hap:lk psA=q9.st.ap (lk psB):=by
       have:=Zgm I.wf hq9 hFB
       rw [hFA] at this;exact Option.some.inj this
     have hco:=I.co m q9 _ hq9 hFB
     have hcoN:coN pls (m+1)=q9.co:=by
       show (pls.getD m ⟨0,.clr "",0,0⟩).co=_
       rw [List.getD_eq_getElem?_getD,hq9];rfl
     have e1at:YO q9.st.vs 1=some (.str q9.st.nm):=by cases q9.st <;> rfl
     have hnm:q9.st.nm∈NS:=by cases e:q9.st with
       | set x v=>rw [e] at hsok;exact hsok.1
       | clr x=>rw [e] at hsok;exact hsok
     have ed1:=S2.get d1
     have ed2:=S2.get d2
     refine ⟨_,rfl,d1,rfl,.inl ⟨_,.inl ed1⟩,_,rfl,b2,_,_,_,rfl,rfl,SqT.of eb2,e1at,_,DGet.k (k:=Sum.inr q9.st.nm) ed1,?_⟩
     refine ⟨_,rfl,d2,rfl,.inl ⟨_,.inl ed2⟩,_,rfl,b2,_,_,_,rfl,rfl,SqT.of eb2,e1at,_,DGet.k (k:=Sum.inr q9.st.nm) ed2,?_⟩
     refine ⟨_,_,rfl,hhB.nv _,hhA.nv _,_,rfl,?_⟩
     have hsame:decide ((ZJ (psB.map kP) (Sum.inr q9.st.nm)).getD V.non=(ZJ (psA.map kP) (Sum.inr q9.st.nm)).getD V.non)=decide (lk psB q9.st.nm=lk psA q9.st.nm):=by
       rw [decide_eq_decide]
       show (lk psB q9.st.nm).getD V.non=(lk psA q9.st.nm).getD V.non↔_
       constructor
       · intro z
         cases e1:lk psB q9.st.nm with
         | none =>
           rw [e1] at z
           cases e2:lk psA q9.st.nm with
           | none=>rfl
           | some v =>
             rw [e2] at z
             have h9:=(hhA.2 _ ((Xo hhA.1).mp e2)).2
             rw [← show V.non=v from z] at h9;exact h9.elim
         | some u =>
           rw [e1] at z
           cases e2:lk psA q9.st.nm with
           | none =>
             rw [e2] at z
             have h9:=(hhB.2 _ ((Xo hhB.1).mp e1)).2
             rw [show u=V.non from z] at h9;exact h9.elim
           | some v=>rw [e2] at z;exact congrArg some z
       · intro z;rw [z]
     rw [hsame]
     have hq2:∀ {H'},Sep ((sl,StopL pls)::Δ) H'→Q (.int (q9.co:Int)) H':=fun {H'} z=>by have:=q H' z;rwa [hcoN] at this
     have hlen:(psA.map (·.1)).length≤50:=by rw [List.length_map];have:=hhA.few;omega
     have hkn:∀ y∈psA.map (·.1),y∈NS:=fun y hy=>by obtain ⟨p,hp,rfl⟩:=List.mem_map.mp hy;exact (hhA.2 p hp).1
     have seen:∀ {l:List Int},l.Nodup→(∀ m,m∈l↔m∈(psA.map (·.1)).map Zg)→Vs NS (q9.st.ap (lk psB)) 0 0 l:=fun {l} h1 h2=>by
       refine ⟨h1,fun m=>?_⟩
       rw [h2 m,List.mem_map,← hap]
       constructor
       · rintro ⟨y,hy,e⟩
         exact ⟨y,hkn y hy,(ZgA hhA.1).mpr hy,e,by rw [Nat.pow_zero,Nat.mod_one]⟩
       · rintro ⟨y,_,h3,e,_⟩
         exact ⟨y,(ZgA hhA.1).mp h3,e⟩
     refine Xs (fun c2=>?_) (fun c2=>?_)
     · have hz:=hq2 (((S2.drop d2).pull sl).drop d1)
       obtain ⟨l,hl1,hl2⟩:∃ l:List Int,l.Nodup∧∀ m,m∈l↔m∈(psA.map (·.1)).map Zg:=by
         obtain ⟨ns,_,h1,h2,_⟩:=ZaI ((psA.map (·.1)).map Zg)
         exact ⟨ns,h1,h2⟩
       have:=hco l (seen hl1 hl2)
       rw [if_pos (by rw [← hap];exact of_decide_eq_true c2)] at this
       rw [this] at hz
       exact hz
     · refine ⟨_,rfl,d2,_,rfl,ed2,fun nl hnl=>?_⟩
       generalize hE:upd H2 nl _=H3
       have S3:=S2.newE hnl hE
       have eb4:H3 b2=some (.tup q9.st.vs):=by rw [← hE,Zk (Zt eb2 hnl)];exact eb2
       clear hE
       have ek:(psA.map kP).map (fun p=>kV p.1)=(psA.map (·.1)).map V.str:=by rw [List.map_map,List.map_map];rfl
       rw [ek] at S3
       refine ⟨_,rfl,b2,_,_,_,rfl,rfl,SqT.of eb4,e1at,nl,psA.map (·.1),q9.st.nm,_,rfl,S3,hlen,fun y hy=>hN y (hkn y hy),hN _ hnm,fun t H4 l hl1 hl2 et S4=>?_⟩
       refine ⟨t,_,rfl,SqT.of et,rfl,_,_,rfl,_,_,rfl,rfl,?_⟩
       refine ⟨_,rfl,_,rfl,.inr ⟨_,rfl,_,_,rfl,rfl,?_⟩⟩
       have hz:=hq2 ((((S4.drop nl).drop d2).pull sl).drop d1)
       have:=hco l (seen hl1 hl2)
       rw [if_neg (by rw [← hap];exact fun z=>c2 (decide_eq_true z))] at this
       rw [this] at hz
       have e8:(((Xi (Zg q9.st.nm) 5 0 l).1+if (Xi (Zg q9.st.nm) 5 0 l).2=[Zg q9.st.nm] then 1 else 0:Nat):Int)=((Xi (Zg q9.st.nm) 5 0 l).1:Int)+(if decide ((Xi (Zg q9.st.nm) 5 0 l).2=[Zg q9.st.nm])=true then 1 else 0):=by
         by_cases z:(Xi (Zg q9.st.nm) 5 0 l).2=[Zg q9.st.nm]
         · rw [if_pos z,if_pos (decide_eq_true z)];omega
         · rw [if_neg z,if_neg (fun y=>z (of_decide_eq_true y))];omega
       rw [e8] at hz
       exact hz
end
end K20
set_option maxHeartbeats 4000000
namespace K20
open PySem L2
theorem ZgJ {r:Int} (h0:0≤r) (h1:r < 26):YO a26.cps.toList r=some (97+r.toNat):=by
 have all:∀ k,k < 26→a26.cps.toList[k]?=some (97+k):=by decide +kernel
 exact Zam h0 (all r.toNat (by omega))
def nmZ (stem:Str) (at' z:Int):Str:=Txt.slice stem none (some at')++(⟨#[97+(z / 26).toNat]⟩:Str)++(⟨#[97+(z % 26).toNat]⟩:Str)++Txt.slice stem (some at') none
theorem Zjs {stem:Str} {at' y z:Int} (h:nmZ stem at' y=nmZ stem at' z) (y0:0≤y) (y1:y < 676) (z0:0≤z) (z1:z < 676):y=z:=by
 have e:(nmZ stem at' y).cps.toList=(nmZ stem at' z).cps.toList:=by rw [h]
 unfold nmZ at e
 simp only [Vn,List.append_assoc] at e
 have e2:=List.append_cancel_left e
 have e3:=(List.cons.inj (show (97+(y / 26).toNat)::(97+(y % 26).toNat)::_=(97+(z / 26).toNat)::(97+(z % 26).toNat)::_ from e2))
 have e4:=(List.cons.inj e3.2).1
 have e5:=e3.1
 omega
def Zcn:Sp:=fun vs H Q _=>∃ (p:Addr) (n:Nat) (many:Int) (Δ:Rs),vs=[.ref p,.int many]∧Sep ((p,Bx n)::Δ) H∧n≤900000∧0≤many∧many≤100 ∧
 ∀ (l:Addr) (H':Hp) (xs:List Str),Sep ((l,ZI (xs.map V.str))::(p,Bx (n+20))::Δ) H'→xs.length=many.toNat→(∀ x∈xs,Xq x∧2≤x.length)→(2≤many→∃ u v,u∈xs∧v∈xs∧u≠v)→Q (.ref l) H'
section
variable {P:Program} {w:World} {K:PySem.W.Frag} {mg:Str→Option Value} {base:Heap}
abbrev nNm:List Str:=["_law_box_here","_law_many","_law_letters","_law_size","_law_stem","_law_first","_law_step_here","_law_at","_law_found","_law_k","_law_one","_law_other"]
abbrev ZhC:List Str:=["_law_box_here","_law_many"]
theorem scNm:Zs nNm ZhC (Zl s_l_names):=⟨rfl,rfl,rfl,by decide +kernel,rfl,by decide +kernel,by decide +kernel⟩
theorem ZhL {f:Addr} {fd:FuncData} (F:Fun K "_law_names" "_law_names" s_l_names f fd) (T:YB mg) (DT:DTk P w K mg base 1):FnOk P w K mg base ZH 2 f fd ZhC Zcn:=by
 refine F.ok scNm (fun vs H Q E h=>?_) (fun cdv A outer s H vs Q E hr h=>?_)
 · obtain ⟨p,n,many,Δ,rfl,_⟩:=h;rfl
 obtain ⟨p,n,many,Δ,rfl,S,hn,h0,h1,q⟩:=h
 have hr1:=hr
 refine' ⟨?t,?h,?r⟩
 case h =>
   conv=>arg 2;whnf
   with_reducible refine' (Zd ?h1 (Zd ?h2 (Zd ?h3 (Zd ?h4 (Zd (Uh ?h5 ?h6 ?h7 ?h8 (Zd ?h9 (Zi ?h10)) ?h11) (Zi ?h12))))))
   case h1=>exact Xz (Xa (Zc ZO (Zc (Zn Yi Zb (Zz DT hr1 (Zc (pv 0) (Zc Zb Za)))) Za))) (Wm rfl (Ya (ZN (i:=2) scNm.nd rfl (Or.inr rfl)) (Ya (ZN (i:=3) scNm.nd rfl (Or.inl rfl)) XL)))
   case h2=>exact Zx (i:=4) scNm.nd rfl (Or.inl rfl) (Xg PySem.F.plainAttrs_str PySem.F.slot_str_join PySem.F.type_str_join Zee ZO (Zc (XY (CompOk.of nNm s_l_names rfl rfl (by decide +kernel)) rfl (Xd rfl T.range (Zc (Zn Yx (pv 3) Zb) Za))  (fun _ _ _ _ _=>Zo Wl (pv 2) (Zz DT hr1 (Zc (pv 0) (Zc Zb Za))) (fun _ _=>rfl))) Za))
   case h3=>exact ZdT (i:=5) (j:=6) (k:=7) rfl scNm.nd rfl rfl rfl (by decide) (by decide) (by decide) rfl rfl rfl (Zc (Zz DT hr1 (Zc (pv 0) (Zc Zb Za))) (Zc (Zo Zy (Yn (Zc Zb (Zc Zb (Zc Zb (Zc Zb Za))))) (Zz DT hr1 (Zc (pv 0) (Zc Zb Za))) (fun _ _=>rfl)) (Zc (Zz DT hr1 (Zc (pv 0) (Zc (Zn Yx (pv 3) Zb) Za))) Za))) rfl
   case h4=>exact Zx (i:=8) scNm.nd rfl (Or.inl rfl) (Yn Za)
   case h5=>exact PassesOwn.never
   case h6=>exact rfl
   case h7=>exact Xd rfl T.range (Zc (pv 1) Za)
   case h8=>exact ZN (i:=9) scNm.nd rfl (Or.inl rfl)
   case h9=>exact Xz (Zw Zdx rfl T.divmod (by decide +kernel) (Zc (Zn Xj (Zn Yi (pv 5) (Zn XM (pv 6) (pv 9))) Zb) (Zc Zb Za))) (Wm rfl (Ya (ZN (i:=10) scNm.nd rfl (Or.inl rfl)) (Ya (ZN (i:=11) scNm.nd rfl (Or.inl rfl)) XL)))
   case h10=>exact YC (Xg PySem.F.plainAttrs_list PySem.F.slot_list_append PySem.F.type_list_append Yt (pv 8) (Zc (Zn XO (Zn XO (Zn XO (Wa Zcj (pv 4) Wv (Wu (pv 7))) (Zo Wl (pv 2) (pv 10) (fun _ _=>rfl))) (Zo Wl (pv 2) (pv 11) (fun _ _=>rfl))) (Wa Zcj (pv 4) (Wu (pv 7)) Wv)) Za))
   case h11=>exact fun _=>rfl
   case h12=>exact Zp (pv 8)
 refine ⟨_,rfl,p,_,7,_,rfl,S,by omega,by decide,by decide,fun r1 H1 a0 a1 S1=>⟨_,_,rfl,rfl,(by show 2≤sizeLine;decide),fun t ht=>⟨t,_,rfl,SqT.of Zh,rfl,_,_,rfl,_,_,rfl,rfl,?_⟩⟩⟩
 generalize hE:upd H1 t _=H2
 have S2:=(S1.newE ht hE).tail
 clear hE
 refine ⟨rfl,_,rfl,_,_,rfl,rfl,_,rfl,by omega,by omega,fun D hD=>?_⟩
 have e1:(2+r1 - 2).toNat=r1.toNat:=by omega
 rw [e1]
 refine Wg (YH (show r1.toNat≤1000 by omega)) S2 hD (fun i ys Δ'=>∃ zs:List Str,ys=zs.map V.str∧(∀ z∈zs,∃ c,z=⟨#[c]⟩∧WX c=true)∧Δ'=(p,Bx (n+1+i))::Δ) ⟨[],rfl,(fun _ h=>nomatch h),rfl⟩ ?_ ?_
 · rintro i ys Δ' H' hi hl ⟨zs,rfl,hz,rfl⟩ S'
   refine ⟨_,rfl,_,rfl,p,_,26,_,rfl,S'.pull p,by omega,by decide,by decide,fun r3 H3 b0 b1 S3=>?_⟩
   obtain ⟨c,hc,hcl⟩:=XU (x:=a26) Uc b0 (by rw [Xb];exact b1)
   refine ⟨a26,r3,c,rfl,rfl,by rw [Xb];decide,hc,_,⟨zs++[⟨#[c]⟩],by rw [List.map_append];rfl,?_,rfl⟩,S3.pull D⟩
   intro z hz'
   rcases List.mem_append.mp hz' with h | h
   · exact hz z h
   · rw [List.mem_singleton.mp h];exact ⟨c,rfl,hcl⟩
 rintro ys Δ' H3 ⟨zs,rfl,hz,rfl⟩ hl S3
 rw [List.length_map] at hl
 obtain ⟨g1,g2,g3⟩:=Zfz hz
 refine ⟨_,D,zs,rfl,rfl,SqL.of (S3.get D),by omega,?_⟩
 have S4:=S3.tail
 generalize Txt.join (Str.ofString "") zs=stem at *
 refine ⟨_,rfl,p,_,676,_,rfl,S4,by omega,by decide,by decide,fun r5 H5 b0 b1 S5=>⟨(by show 4≤sizeLine;decide),fun l hl4=>?_⟩⟩
 generalize hE:upd H5 l _=H6
 have S6:=S5.newE hl4 hE
 clear hE
 refine ⟨_,rfl,p,_,4,_,rfl,S6.pull p,by omega,by decide,by decide,fun r7 H7 c0 c1 S7=>?_⟩
 obtain ⟨sv,hsm,hsv⟩:=Zen (xs:=[.int 1,.int 27,.int 5,.int 251]) c0 c1
 obtain ⟨stp,rfl,hst⟩:∃ z:Int,sv=.int z∧1≤z∧z≤251:=by
   simp only [List.mem_cons,List.not_mem_nil,or_false] at hsm
   rcases hsm with rfl | rfl | rfl | rfl <;> exact ⟨_,rfl,by decide,by decide⟩
 refine ⟨l,_,_,_,rfl,rfl,SqL.of (S7.get l),hsv,?_⟩
 have S8:=S7.drop l
 refine ⟨_,rfl,_,rfl,_,_,rfl,rfl,p,_,_,_,rfl,S8,by omega,by omega,by omega,fun r9 H9 d0 d1 S10=>⟨_,_,_,rfl,?_⟩⟩
 refine ⟨(by show 0≤sizeLine;decide),fun fl hfl=>?_⟩
 generalize hE:upd H9 fl _=H11
 have S11:=S10.newE hfl hE
 clear hE
 refine ⟨_,rfl,many,rfl,by omega,by omega,?_⟩
 refine Va (fun i σ H'=>∃ x9 x10 x11 xs,σ=[some (.ref p),some (.int many),some (.str a26),some (.int (2+r1)),some (.str stem),some (.int r5),some (.int stp),some (.int r9),some (.ref fl),x9,x10,x11]∧Sep ((fl,ZI (xs.map V.str))::(p,Bx (n+20))::Δ) H'∧xs.length=i∧(∀ x∈xs,Xq x∧2≤x.length)∧∀ j:Nat,j < i→xs[j]?=some (nmZ stem r9 ((r5+stp * (0+(j:Int))) % 676)))
   ⟨_,_,_,[],rfl,(S11.pull p).le (by omega) |>.pull fl,rfl,(fun _ h=>nomatch h),fun j h=>absurd h (by omega)⟩ ?_ ?_
 · rintro i σ H' hi ⟨x9,x10,x11,xs,rfl,S',hxl,hxs,hxj⟩
   have hb:0≤stp * (0+(i:Int)):=Int.mul_nonneg (by omega) (by omega)
   refine ⟨_,rfl,_,rfl,_,rfl,_,_,rfl,rfl,.inl ⟨by omega,by omega⟩,_,_,rfl,rfl,_,_,rfl,rfl,(by show (0:Int) < 676;decide),?_⟩
   obtain ⟨z,hz⟩:∃ z:Int,(r5+stp * (0+(i:Int))) % 676=z:=⟨_,rfl⟩
   have hz0:0≤z:=by rw [← hz];exact Int.emod_nonneg _ (by decide)
   have hz1:z < 676:=by rw [← hz];exact Int.emod_lt_of_pos _ (by decide)
   refine ⟨z,26,congrArg (fun y=>[V.int y,V.int 26]) hz,⟨by decide,by decide⟩,fun t2 ht2=>⟨t2,_,rfl,SqT.of Zh,rfl,_,_,rfl,_,_,rfl,rfl,?_⟩⟩
   generalize hE:upd H' t2 _=H12
   have S12:=(S'.newE ht2 hE).tail
   clear hE
   obtain ⟨c1',hc1,hcl1⟩:=XU (x:=a26) Uc (r:=z / 26) (by omega) (by rw [Xb];omega)
   obtain ⟨c2',hc2,hcl2⟩:=XU (x:=a26) Uc (r:=z % 26) (by omega) (by rw [Xb];omega)
   have ec1:c1'=97+(z / 26).toNat:=Option.some.inj (hc1.symm.trans (ZgJ (by omega) (by omega)))
   have ec2:c2'=97+(z % 26).toNat:=Option.some.inj (hc2.symm.trans (ZgJ (by omega) (by omega)))
   have enm:Txt.slice stem none (some r9)++(⟨#[c1']⟩:Str)++(⟨#[c2']⟩:Str)++Txt.slice stem (some r9) none=nmZ stem r9 z:=by rw [ec1,ec2];rfl
   have hsl:=ZgF (x:=stem) d0 (by omega)
   refine ⟨_,rfl,.inl ⟨rfl,_,SqL.of (S12.get fl)⟩,_,rfl,_,rfl,r9,rfl,stem,rfl,YH (show stem.length≤1000 by omega),_,rfl,_,rfl,a26,_,c1',rfl,rfl,by rw [Xb];decide,hc1,_,_,rfl,rfl,YH (show _≤1000 by rw [YM];omega),?_⟩
   refine ⟨_,rfl,_,rfl,a26,_,c2',rfl,rfl,by rw [Xb];decide,hc2,_,_,rfl,rfl,YH (show _≤1000 by rw [Xu,YM,YM];omega),_,rfl,_,rfl,r9,rfl,stem,rfl,YH (show stem.length≤1000 by omega),_,_,rfl,rfl,YH (show _≤1000 by rw [Xu,Xu,YM,YM];omega),?_⟩
   refine ⟨fl,_,_,rfl,rfl,S12.get fl,Xh (show _≤1000 by rw [List.length_map];omega),?_⟩
   have S13:=S12.put fl (.lst (xs.map V.str++[.str (Txt.slice stem none (some r9)++(⟨#[c1']⟩:Str)++(⟨#[c2']⟩:Str)++Txt.slice stem (some r9) none)]))
   refine ⟨_,_,_,xs++[Txt.slice stem none (some r9)++(⟨#[c1']⟩:Str)++(⟨#[c2']⟩:Str)++Txt.slice stem (some r9) none],rfl,by rw [List.map_append];exact S13,by simp [hxl],fun x hx=>?_,fun j hj=>?_⟩
   · rcases List.mem_append.mp hx with h | h
     · exact hxs x h
     · rw [List.mem_singleton.mp h]
       refine ⟨⟨?_,?_,WG (WG (WG (UJ g3) (UC hcl1)) (UC hcl2)) (UJ g3)⟩,?_⟩ <;> (rw [Xu,Xu,Xu,YM,YM];omega)
   · rw [enm]
     by_cases hji:j < i
     · rw [List.getElem?_append_left (by omega)];exact hxj j hji
     · have:j=i:=by omega
       subst this
       rw [List.getElem?_append_right (by omega),hxl,Nat.sub_self,hz];rfl
 · rintro σ H' ⟨x9,x10,x11,xs,rfl,S',hxl,hxs,hxj⟩
   refine ⟨_,rfl,q fl H' xs S' hxl hxs fun h2=>?_⟩
   have g0:=hxj 0 (by omega)
   have g1':=hxj 1 (by omega)
   refine ⟨_,_,List.mem_of_getElem? g0,List.mem_of_getElem? g1',fun z=>?_⟩
   have:=Zjs z (Int.emod_nonneg _ (by decide)) (Int.emod_lt_of_pos _ (by decide)) (Int.emod_nonneg _ (by decide)) (Int.emod_lt_of_pos _ (by decide))
   have e0:stp * (0+((0:Nat):Int))=0:=by simp
   have e1':stp * (0+((1:Nat):Int))=stp:=by simp
   rw [e0,e1'] at this
   omega
end
end K20
set_option maxHeartbeats 4000000
namespace K20
open PySem L2
def ZdD:Sp:=fun vs H Q _=>∃ (p:Addr) (n:Nat) (many:Int) (Δ:Rs),vs=[.ref p,.int many]∧Sep ((p,Bx n)::Δ) H∧n≤800000∧1≤many∧many≤40 ∧
 ∀ (l:Addr) (H':Hp) (xs:List Str),Sep ((l,ZI (xs.map V.str))::(p,Bx (n+100))::Δ) H'→1≤xs.length→(xs.length:Int)≤many→xs.Nodup→(∀ x∈xs,Xq x)→(2≤many→2≤xs.length)→Q (.ref l) H'
theorem Zkj {α:Type} {l:List α} {u v:α} (hu:u∈l) (hv:v∈l) (h:u≠v):2≤l.length:=by
 match l,hu,hv with
 | [a],hu,hv=>exact absurd ((List.mem_singleton.mp hu).trans (List.mem_singleton.mp hv).symm) h
 | _::_::_,_,_=>simp only [List.length_cons];omega
section
variable {P:Program} {w:World} {K:PySem.W.Frag} {mg:Str→Option Value} {base:Heap}
abbrev nPo:List Str:=["_law_box_here","_law_many","_law_letters","_law_found","_law_name","_law_one","_law_other","_law_twin"]
abbrev Zil:List Str:=["_law_box_here","_law_many"]
theorem scPo:Zs nPo Zil (Zl s_l_pool):=⟨rfl,rfl,rfl,by decide +kernel,rfl,by decide +kernel,by decide +kernel⟩
theorem Zjr {f:Addr} {fd:FuncData} (F:Fun K "_law_pool" "_law_pool" s_l_pool f fd) (T:YB mg) (DT:DTk P w K mg base 1) (DN:Def P w K mg base 2 "_law_names" ZhC Zcn):FnOk P w K mg base ZH 3 f fd Zil ZdD:=by
 refine F.ok scPo (fun vs H Q E h=>?_) (fun cdv A outer s H vs Q E hr h=>?_)
 · obtain ⟨p,n,many,Δ,rfl,_⟩:=h;rfl
 obtain ⟨p,n,many,Δ,rfl,S,hn,h0,h1,q⟩:=h
 have hr1:=hr.mono (show 1≤2 by decide)
 refine' ⟨?t,?h,?r⟩
 case h =>
   conv=>arg 2;whnf
   with_reducible refine' (Zd ?h1 (Zd (Uh ?h2 ?h3 ?h4 ?h5 (Zd ?h6 (Zd ?h7 (Zi ?h8))) ?h9) (Zi ?h10)))
   case h1=>exact Xz (Xa (Zc ZO (Zc (Yn Za) Za))) (Wm rfl (Ya (ZN (i:=2) scPo.nd rfl (Or.inl rfl)) (Ya (ZN (i:=3) scPo.nd rfl (Or.inr rfl)) XL)))
   case h2=>exact PassesOwn.never
   case h3=>exact rfl
   case h4=>exact Ur (Zz DN hr (Zc (pv 0) (Zc (pv 1) Za)))
   case h5=>exact ZN (i:=4) scPo.nd rfl (Or.inl rfl)
   case h6=>exact ZgR (i:=5) (j:=6) rfl scPo.nd rfl rfl (by decide) rfl rfl (Zc (Zn Yi (Xg PySem.F.plainAttrs_str PySem.F.slot_str_index PySem.F.type_str_index VZ (pv 2) (Zc (Zo Wl (pv 4) Zb (fun _ _=>rfl)) Za)) Zb) (Zc (Zn Yx (Xg PySem.F.plainAttrs_str PySem.F.slot_str_index PySem.F.type_str_index VZ (pv 2) (Zc (Zo Wl (pv 4) Zb (fun _ _=>rfl)) Za)) Zb) Za)) rfl
   case h7=>exact Zx (i:=7) scPo.nd rfl (Or.inl rfl) (Zn XO (Zn XO (Zo Wl (pv 2) (Zn Xj (pv 5) Zb) (fun _ _=>rfl)) (Zo Wl (pv 2) (pv 6) (fun _ _=>rfl))) (Wa Zcj (pv 4) (Wu Zb) Wv))
   case h8=>exact YC (Xg PySem.F.plainAttrs_list PySem.F.slot_list_extend PySem.F.type_list_extend Zgy (pv 3) (Zc (Zn Zct (Yn (Zc (pv 4) Za)) (Zn Zky (Yn (Zc (pv 7) Za)) (Yu UV rfl T.int (by decide +kernel) (Zc (Um (YT Vq (pv 5) Zb (ZE _)) (Um (YT ZiJ (pv 6) Zb (ZE _)) (Zan (YT Yq (Zz DT hr1 (Zc (pv 0) (Zc Zb Za))) Zb (ZE _))))) Za)))) Za))
   case h9=>exact fun _=>rfl
   case h10=>exact Zp (Wa ZaW (ZgE (xa:="_law_place") (xb:="_law_name") (CompOkT.of nPo s_l_pool rfl rfl (by decide +kernel)) rfl (Zhf rfl T.enumerate (pv 3)) (fun _ _ _ _ _=>ZdC (K:=K) rfl rfl (ZN (i:=8) (show (XQ nPo "_law_place" "_law_name"++(["_law_place","_law_name"]:List Str)).Nodup by decide +kernel) rfl (Or.inl rfl) (Or.inr rfl)) (ZN (i:=9) (show (XQ nPo "_law_place" "_law_name"++(["_law_place","_law_name"]:List Str)).Nodup by decide +kernel) rfl (Or.inl rfl) (Or.inr rfl))) (fun _ _ _ _ _=>ZL (ZbP (K:=K) rfl) (pv 9) (Wa (Zhr (K:=K) rfl) (pv 3) Wv (Wu (pv 8))) rfl) (fun _ _ _ _ _=>pv 9)) Wv (Wu (pv 1)))
 refine ⟨(by show 0≤sizeLine;decide),fun fl hfl=>⟨(by show 2≤sizeLine;decide),fun t ht=>⟨t,_,rfl,SqT.of Zh,rfl,_,_,rfl,_,_,rfl,rfl,?_⟩⟩⟩
 generalize hE:upd (upd H fl _) t _=H1
 have S1:=((S.new hfl _).newE ht hE).tail
 clear hE
 refine ⟨_,rfl,_,rfl,p,_,many,_,rfl,S1.pull p,by omega,by omega,by omega,fun l H2 xs S2 hxl hxs hx2=>?_⟩
 refine ⟨l,rfl,⟨_,SqL.of (S2.get l)⟩,ZcF (xs:=xs.map V.str) (fun j σ H'=>∃ x4 x5 x6 x7 fs,σ=[some (.ref p),some (.int many),some (.str a26),some (.ref fl),x4,x5,x6,x7]∧Sep ((fl,ZI (fs.map V.str))::(l,ZI (xs.map V.str))::(p,Bx (n+20+j))::Δ) H'∧fs.length≤2 * j∧(∀ y∈fs,Xq y)∧(∀ y∈xs.take j,y∈fs)∧j≤xs.length)
   ⟨_,_,_,_,[],rfl,(S2.pull l).pull fl,Nat.le_refl _,(fun _ h=>nomatch h),(fun y h=>by simp at h),Nat.zero_le _⟩ ?_ ?_ ?_⟩
 · rintro j σ H' _ ⟨_,_,_,_,fs,_,S',_⟩;exact SqL.of (S'.get l)
 · rintro j x σ H3 hx ⟨x4,x5,x6,x7,fs,rfl,S3,hfl2,hfs,hne,hj⟩
   have hjl:j < xs.length:=by have:=(List.getElem?_eq_some_iff.mp hx).1;rwa [List.length_map] at this
   obtain ⟨nm,hnm,rfl⟩:=List.mem_map.mp (List.mem_of_getElem? hx)
   obtain ⟨⟨hn1,hn8,hnl⟩,hn2⟩:=hxs nm hnm
   obtain ⟨c0,hc0,hl0⟩:=XU (x:=nm) hnl (r:=0) (by decide) (by omega)
   obtain ⟨c1,hc1,hl1⟩:=XU (x:=nm) hnl (r:=1) (by decide) (by omega)
   obtain ⟨f0,f01,f02⟩:=ZcW hl0
   obtain ⟨f1,f11,f12⟩:=ZcW hl1
   obtain ⟨one,hone⟩:∃ z:Int,(c0:Int) - 97+2=z:=⟨_,rfl⟩
   obtain ⟨oth,hoth⟩:∃ z:Int,(c1:Int) - 97 - 1=z:=⟨_,rfl⟩
   refine ⟨_,rfl,rfl,_,rfl,nm,0,c0,rfl,rfl,YH (show nm.length≤1000 by omega),hc0,a26,_,rfl,rfl,by omega,_,_,rfl,rfl,_,rfl,rfl,_,rfl,nm,1,c1,rfl,rfl,YH (show nm.length≤1000 by omega),hc1,a26,_,rfl,rfl,by omega,_,_,rfl,rfl,.int one,.int oth,(by show [V.int (Txt.find a26 ⟨#[c0]⟩+2),V.int (Txt.find a26 ⟨#[c1]⟩ - 1)]=_;rw [f0,f1,hone,hoth]),?_⟩
   obtain ⟨d0,hd0,hdl0⟩:=XU (x:=a26) Uc (r:=one % 26) (by omega) (by rw [Xb];omega)
   obtain ⟨d1,hd1,hdl1⟩:=ZiD (x:=a26) Uc (r:=oth) (by rw [Xb];omega) (by rw [Xb];omega)
   have hsl:(Txt.slice nm (some 2) none).length+2=nm.length:=by
     rw [Yd,We,Yd]
     have e3:HT.sIx nm.cps.toList.length 0 (some 2)=min 2 nm.cps.toList.length:=HT.sIx_nat _ _ 2
     have hh:2≤nm.cps.toList.length:=by rw [← Yd];exact hn2
     rw [e3,HT.sIx_none,List.length_take,List.length_drop]
     omega
   refine ⟨_,rfl,_,rfl,_,_,rfl,rfl,(by show (0:Int) < 26;decide),a26,_,d0,rfl,rfl,by rw [Xb];decide,hd0,_,rfl,_,rfl,a26,oth,d1,rfl,rfl,by rw [Xb];decide,hd1,_,_,rfl,rfl,YH (show _≤1000 by rw [YM,YM];decide),_,rfl,2,rfl,nm,rfl,YH (show nm.length≤1000 by omega),_,_,rfl,rfl,YH (show _≤1000 by rw [Xu,YM,YM];omega),?_⟩
   generalize htw:(⟨#[d0]⟩:Str)++(⟨#[d1]⟩:Str)++Txt.slice nm (some 2) none=tw
   have htk:Xq tw:=by
     rw [← htw]
     refine ⟨?_,?_,WG (WG (UC hdl0) (UC hdl1)) (UJ hnl)⟩ <;> (rw [Xu,Xu,YM,YM];omega)
   refine ⟨_,rfl,.inl ⟨rfl,_,SqL.of (S3.get fl)⟩,_,rfl,(by show 1≤sizeLine;decide),fun l1 hl1'=>⟨_,rfl,(by show 1≤sizeLine;decide),fun l2 hl2=>?_⟩⟩
   generalize hE:upd (upd H3 l1 _) l2 _=H4
   have S4:=(S3.new hl1' _).newE hl2 hE
   clear hE
   refine ⟨_,rfl,_,_,rfl,rfl,_,rfl,Xs (fun c=>?w1) (fun c=>?w2)⟩
   case' w1=>refine ⟨_,rfl,_,_,rfl,rfl,_,rfl,Xs (fun c=>?w3) (fun c=>?w4)⟩
   case' w3 =>
     refine ⟨_,rfl,p,_,2,_,rfl,S4.pull p,by omega,by decide,by decide,fun r5 H5 b0 b1 S5=>⟨rfl,?_⟩⟩
     obtain ⟨b,hb⟩:∃ b:Bool,decide (V.int r5=V.int 0)=b:=⟨_,rfl⟩
   case' w4 =>
     have S5:=(S4.pull p).le (show n+20+j≤n+20+j+1 by omega)
     obtain ⟨b,hb⟩:∃ b:Bool,false=b:=⟨_,rfl⟩
   case' w2 =>
     have S5:=(S4.pull p).le (show n+20+j≤n+20+j+1 by omega)
     obtain ⟨b,hb⟩:∃ b:Bool,false=b:=⟨_,rfl⟩
   all_goals
     refine .inr ⟨b,congrArg (fun z=>[V.bl z]) hb,?_⟩
     obtain ⟨k0,k1,k2⟩:=Zim b tw
     refine ⟨l2,_,_,rfl,rfl,S5.get l2,by omega,by omega,YH (show _≤1000 by show 1 * _≤1000;omega),fun l3 hl3=>?_⟩
     generalize hE:upd _ l3 _=H6
     have S6:=S5.newE hl3 hE
     clear hE
     rw [k2] at S6
     have lb:(if b=true then [tw] else []).length≤1:=by cases b <;> simp
     refine ⟨l1,l3,_,_,rfl,rfl,S6.get l1,S6.get l3,YH (show [V.str nm].length+((if b=true then [tw] else []).map V.str).length≤1000 by rw [List.length_map];show 1+_≤1000;omega),fun l4 hl4=>?_⟩
     generalize hE:upd _ l4 _=H7
     have S7:=S6.newE hl4 hE
     clear hE
     refine ⟨fl,l4,fs.map V.str,[V.str nm]++(if b=true then [tw] else []).map V.str,rfl,rfl,S7.get fl,S7.get l4,YH (show _≤1000 by rw [List.length_append,List.length_map,List.length_map];show _+(1+_)≤1000;omega),?_⟩
     have S8:=S7.put fl (.lst (fs.map V.str++([.str nm]++(if b=true then [tw] else []).map V.str)))
     have e8:fs.map V.str++([.str nm]++(if b=true then [tw] else []).map V.str)=(fs++(nm::if b=true then [tw] else [])).map V.str:=by rw [List.map_append];rfl
     refine ⟨_,_,_,_,fs++(nm::if b=true then [tw] else []),rfl,?_,?_,fun y hy=>?_,fun y hy=>?_,hjl⟩
     · rw [← e8];exact ((((S8.drop l4).drop l3).drop l2).drop l1).pull p |>.pull l |>.pull fl
     · rw [List.length_append,List.length_cons];omega
     · rcases List.mem_append.mp hy with z | z
       · exact hfs y z
       · rcases List.mem_cons.mp z with z | z
         · rw [z];exact ⟨hn1,hn8,hnl⟩
         · cases b
           · cases z
           · rw [List.mem_singleton.mp z];exact htk
     · rw [List.take_succ] at hy
       have hxj:xs[j]?=some nm:=by
         rw [List.getElem?_map] at hx
         cases e:xs[j]? with
         | none=>rw [e] at hx;cases hx
         | some w=>rw [e] at hx;cases hx;rfl
       rw [hxj] at hy
       rcases List.mem_append.mp hy with z | z
       · exact List.mem_append_left _ (hne y z)
       · rw [show y=nm from by simpa using z];exact List.mem_append_right _ List.mem_cons_self
 · rintro σ H3 ⟨x4,x5,x6,x7,fs,rfl,S3,hfl2,hfs,hne,hj⟩
   rw [List.length_map] at S3 hfl2 hne
   have S4:=S3.drop l
   refine ⟨_,rfl,fl,_,rfl,S4.get fl,fun D hD=>?_⟩
   refine ZcZ (K:=K) (a:=fl) (xs:=fs.map V.str) (YH (show _≤1000 by rw [List.length_map];omega)) S4 hD (fun i ys Δ'=>ys=(YA fs i).map V.str∧Δ'=(fl,ZI (fs.map V.str))::(p,Bx (n+20+xs.length))::Δ) ⟨rfl,rfl⟩ ?_ ?_ ?_
   · rintro i ys Δ' H' ⟨_,rfl⟩ S';exact SqL.of (S'.get fl)
   · rintro i x t' ys Δ' H' wa wb hx hyl ⟨rfl,rfl⟩ S'
     obtain ⟨y,hy,rfl⟩:∃ y,fs[i]?=some y∧V.str y=x:=by
       rw [List.getElem?_map] at hx
       cases e:fs[i]? with
       | none=>rw [e] at hx;cases hx
       | some y=>rw [e] at hx;exact ⟨y,rfl,Option.some.inj hx⟩
     refine ⟨t',_,rfl,SqT.of (S'.get t'),rfl,_,_,rfl,_,_,rfl,rfl,⟨_,_,rfl⟩,?_⟩
     refine ⟨_,rfl,_,rfl,_,rfl,_,rfl,fl,_,rfl,SqL.of (S'.get fl),fun sl hsl=>?_⟩
     generalize hE:upd _ sl _=H5
     have S5:=S'.newE hsl hE
     clear hE
     rw [Zdc,← List.map_take] at S5
     refine ⟨sl,_,rfl,.inl (SqL.of (S5.get sl)),rfl,Zgt _,_,rfl,?_⟩
     rw [ZjW]
     have S6:=(S5.drop sl).drop t'
     have ef:YA fs (i+1)=if y∈fs.take i then YA fs i else YA fs i++[y]:=by
       show (match fs[i]? with | some x=>if x∈fs.take i then YA fs i else YA fs i++[x] | none=>YA fs i)=_
       rw [hy]
     by_cases hm:y∈fs.take i
     · rw [decide_eq_true hm]
       rw [if_pos hm] at ef
       exact ZM ⟨_,⟨by rw [ef],rfl⟩,S6⟩
     · rw [decide_eq_false hm]
       rw [if_neg hm] at ef
       exact Yh ⟨_,rfl,_,⟨by rw [ef,List.map_append];rfl,rfl⟩,S6⟩
   · rintro ys Δ' H5 ⟨rfl,rfl⟩ hyl S5
     rw [List.length_map] at S5 hyl
     refine ⟨_,rfl,many,rfl,D,_,rfl,SqL.of (S5.get D),fun r hr'=>?_⟩
     generalize hE:upd _ r _=H6
     have S6:=((S5.newE hr' hE).drop D).drop fl
     clear hE
     rw [show many=((many.toNat:Nat):Int) by omega,Zdc,← List.map_take] at S6
     have hin:∀ y∈xs,y∈fs:=fun y hy=>hne y (by rw [List.take_of_length_le (Nat.le_refl _)];exact hy)
     have hfne:fs≠[]:=fun z=>by
       obtain ⟨y,hy⟩:=List.exists_mem_of_ne_nil xs (List.length_pos_iff.mp (by omega))
       have:=hin y hy
       rw [z] at this;cases this
     have hall:fs.take fs.length=fs:=List.take_of_length_le (Nat.le_refl _)
     have hf1:YA fs fs.length≠[]:=fun z=>by
       obtain ⟨y,hy⟩:=List.exists_mem_of_ne_nil _ hfne
       have:=(Xf (xs:=fs) fs.length (x:=y)).mpr (by rw [hall];exact hy)
       rw [z] at this;cases this
     refine q r H6 _ ((S6.pull p).le (by omega) |>.pull r) ?_ ?_ (List.Sublist.nodup (List.take_sublist _ _) (WU _)) (fun y hy=>hfs y ?_) fun h2=>?_
     · rw [List.length_take];have:=List.length_pos_iff.mpr hf1;omega
     · rw [List.length_take];omega
     · have:=(Xf fs.length).mp (Zdw hy)
       rw [hall] at this;exact this
     · obtain ⟨u,v,hu,hv,huv⟩:=hx2 h2
       have m:∀ y∈xs,y∈YA fs fs.length:=fun y hy=>(Xf (xs:=fs) fs.length (x:=y)).mpr (by rw [hall];exact hin y hy)
       have:=Zkj (m u hu) (m v hv) huv
       rw [List.length_take];omega
end
end K20
set_option maxHeartbeats 4000000
namespace K20
open PySem L2
section
variable {P:Program} {w:World} {K:PySem.W.Frag} {mg:Str→Option Value} {base:Heap}
abbrev nVs:List Str:=["_law_box_here"]
abbrev Ziv:List Str:=["_law_box_here"]
theorem scVs:Zs nVs Ziv (Zl s_l_values):=⟨rfl,rfl,rfl,by decide +kernel,rfl,by decide +kernel,by decide +kernel⟩
theorem ZfY {f:Addr} {fd:FuncData} (F:Fun K "_law_values" "_law_values" s_l_values f fd) (T:YB mg) (DV:Def P w K mg base 2 "_law_value" ["_law_box_here"] VF):FnOk P w K mg base ZH 3 f fd Ziv ZcG:=by
 refine F.ok scVs (fun vs H Q E h=>?_) (fun cdv A outer s H vs Q E hr h=>?_)
 · obtain ⟨p,n,Δ,rfl,_⟩:=h;rfl
 obtain ⟨p,n,Δ,rfl,S,hn,q⟩:=h
 refine' ⟨?t,?h,?r⟩
 case h =>
   conv=>arg 2;whnf
   with_reducible refine' (Zi ?h1)
   case h1=>exact Zp (Zn Zct (XY (CompOk.of nVs s_l_values rfl rfl (by decide +kernel)) rfl (Xd rfl T.range (Zc Zb Za))  (fun _ _ _ _ _=>Zz DV hr (Zc (pv 0) Za))) (Yn (Zc Zb (Zc ZO Za))))
 refine ⟨3,rfl,by decide,by decide,fun D hD=>?_⟩
 refine Wg (by decide) S hD (fun i ys Δ'=>(∀ u∈ys,YY u)∧Δ'=(p,Bx (n+50 * i))::Δ) ⟨(fun _ h=>nomatch h),rfl⟩ ?_ ?_
 · rintro i ys Δ' H' hi hl ⟨hy,rfl⟩ S'
   have hi3:i < 3:=hi
   refine ⟨_,rfl,p,_,_,rfl,S'.pull p,by omega,fun v H2 hv S2=>⟨_,⟨fun u hu=>?_,rfl⟩,(S2.le (by omega)).pull D⟩⟩
   rcases List.mem_append.mp hu with z | z
   · exact hy u z
   · rw [List.mem_singleton.mp z];exact hv
 · rintro ys Δ' H2 ⟨hy,rfl⟩ hl S2
   refine ⟨(by show 2≤sizeLine;decide),fun l1 hl1=>?_⟩
   generalize hE:upd _ l1 _=H3
   have S3:=S2.newE hl1 hE
   clear hE
   have hl3:ys.length=3:=hl
   refine ⟨D,l1,_,_,rfl,rfl,S3.get D,S3.get l1,YH (show ys.length+2≤1000 by omega),fun l2 hl2=>?_⟩
   generalize hE:upd _ l2 _=H4
   have S4:=S3.newE hl2 hE
   clear hE
   refine q l2 H4 _ ((((S4.drop l1).drop D).pull p).le (show n+50 * 3≤n+200 by omega) |>.pull l2) (by rw [List.length_append];show _+2=5;omega) fun u hu=>?_
   rcases List.mem_append.mp hu with z | z
   · exact hy u z
   · have all:([.int 1,.str "1"]:List V).all Zat=true:=by decide +kernel
     exact UG (List.all_eq_true.mp all u z)
abbrev nSp:List Str:=["_law_box_here","_law_names_here","_law_values_here","_law_name"]
abbrev Ziz:List Str:=["_law_box_here","_law_names_here","_law_values_here"]
theorem scSp:Zs nSp Ziz (Zl s_l_step):=⟨rfl,rfl,rfl,by decide +kernel,rfl,by decide +kernel,by decide +kernel⟩
theorem Zjm {f:Addr} {fd:FuncData} (F:Fun K "_law_step" "_law_step" s_l_step f fd) (T:YB mg) (DT:DTk P w K mg base 1):FnOk P w K mg base ZH 2 f fd Ziz ZfB:=by
 refine F.ok scSp (fun vs H Q E h=>?_) (fun cdv A outer s H vs Q E hr h=>?_)
 · obtain ⟨p,nl,vl,n,NS,us,Δ,rfl,_⟩:=h;rfl
 obtain ⟨p,nl,vl,n,NS,us,Δ,rfl,S,hNS,hus,hNl,hul,huv,hn,q⟩:=h
 have hr1:=hr
 have l1:=List.length_pos_iff.mpr hNS
 have l2:=List.length_pos_iff.mpr hus
 refine' ⟨?t,?h,?r⟩
 case h =>
   conv=>arg 2;whnf
   with_reducible refine' (Zd ?h1 (Zd (Yk ?h2 (Zi ?h3) ZW) (Zi ?h4)))
   case h1=>exact Zx (i:=3) scSp.nd rfl (Or.inl rfl) (Zo Zy (pv 1) (Zz DT hr1 (Zc (pv 0) (Zc (Zw ZG rfl T.len PySem.boot_len (Zc (pv 1) Za)) Za))) (fun _ _=>rfl))
   case h2=>exact ZL Yq (Zz DT hr1 (Zc (pv 0) (Zc Zb Za))) Zb (ZE _)
   case h3=>exact Zp (Xa (Zc ZO (Zc (pv 3) Za)))
   case h4=>exact Zp (Xa (Zc ZO (Zc (pv 3) (Zc (Zo Zy (pv 2) (Zz DT hr1 (Zc (pv 0) (Zc (Zw ZG rfl T.len PySem.boot_len (Zc (pv 2) Za)) Za))) (fun _ _=>rfl)) Za))))
 refine ⟨_,rfl,_,rfl,_,rfl,nl,_,rfl,.inl (SqL.of (S.get nl)),p,_,_,_,rfl,S,by omega,(by rw [List.length_map];omega),(by rw [List.length_map];omega),fun r1 H1 a0 a1 S1=>?_⟩
 rw [List.length_map] at a1
 obtain ⟨x,hx,hat⟩:=Zga (f:=V.str) a0 a1
 refine ⟨nl,_,_,_,rfl,rfl,SqL.of (S1.get nl),hat,?_⟩
 refine ⟨_,rfl,p,_,4,_,rfl,S1,by omega,by decide,by decide,fun r2 H2 b0 b1 S2=>⟨rfl,_,rfl,Xs (fun c=>?_) (fun c=>?_)⟩⟩
 · refine ⟨_,rfl,(by show 2≤sizeLine;decide),fun t ht=>?_⟩
   exact q t _ (.clr x) hx ((S2.new ht (.tup [.str "clear",.str x])).pull p |>.le (show n+2≤n+3 by omega) |>.pull t)
 · refine ⟨_,rfl,_,rfl,_,rfl,_,rfl,vl,_,rfl,.inl (SqL.of (S2.get vl)),p,_,_,_,rfl,S2,by omega,by omega,by omega,fun r3 H3 d0 d1 S3=>?_⟩
   obtain ⟨u,hu,hau⟩:=Zen (xs:=us) d0 d1
   refine ⟨vl,_,_,_,rfl,rfl,SqL.of (S3.get vl),hau,(by show 3≤sizeLine;decide),fun t ht=>?_⟩
   exact q t _ (.set x u) ⟨hx,huv u hu⟩ (S3.new ht (.tup [.str "set",.str x,u]))
abbrev nFr:List Str:=["_law_box_here","_law_stops","_law_way_here"]
abbrev ZhX:List Str:=["_law_box_here","_law_stops"]
theorem scFr:Zs nFr ZhX (Zl s_l_from):=⟨rfl,rfl,rfl,by decide +kernel,rfl,by decide +kernel,by decide +kernel⟩
theorem ZjG {f:Addr} {fd:FuncData} (F:Fun K "_law_from" "_law_from" s_l_from f fd) (T:YB mg) (DT:DTk P w K mg base 1):FnOk P w K mg base ZH 2 f fd ZhX ZfK:=by
 refine F.ok scFr (fun vs H Q E h=>?_) (fun cdv A outer s H vs Q E hr h=>?_)
 · obtain ⟨p,sl,n,k,R,Δ,rfl,_⟩:=h;rfl
 obtain ⟨p,sl,n,k,R,Δ,rfl,S,hR,hk1,hk2,hn,q⟩:=h
 have hr1:=hr
 refine' ⟨?t,?h,?r⟩
 case h =>
   conv=>arg 2;whnf
   with_reducible refine' (Zd ?h1 (Zd (Yk ?h2 (Zi ?h3) ZW) (Zd (Yk ?h4 (Zi ?h5) ZW) (Zi ?h6))))
   case h1=>exact Zx (i:=2) scFr.nd rfl (Or.inl rfl) (Zz DT hr1 (Zc (pv 0) (Zc Zb Za)))
   case h2=>exact ZL Vq (pv 2) Zb (ZE _)
   case h3=>exact Zp (Zn Yx (Zw ZG rfl T.len PySem.boot_len (Zc (pv 1) Za)) Zb)
   case h4=>exact ZL Yq (pv 2) Zb (ZE _)
   case h5=>exact Zp (Zw (ZfR rfl) rfl T.max (by decide +kernel) (Zc Zb (Zc (Zn Yx (Zn Yx (Zw ZG rfl T.len PySem.boot_len (Zc (pv 1) Za)) Zb) (Zz DT hr1 (Zc (pv 0) (Zc Zb Za)))) Za)))
   case h6=>exact Zp (Zz DT hr1 (Zc (pv 0) (Zc (Zw ZG rfl T.len PySem.boot_len (Zc (pv 1) Za)) Za)))
 refine ⟨_,rfl,p,_,4,_,rfl,S,by omega,by decide,by decide,fun r1 H1 a0 a1 S1=>⟨_,rfl,_,_,rfl,rfl,_,rfl,Xs (fun c=>?_) (fun c=>?_)⟩⟩
 · obtain ⟨xs,ex,hl⟩:=S1.isl sl hR
   refine ⟨_,rfl,sl,_,rfl,.inl (SqL.of ex),_,_,rfl,rfl,?_⟩
   have:=q (k - 1) H1 (by omega) (S1.le (by omega))
   rw [show ((k - 1:Nat):Int)=((xs.length:Nat):Int) - 1 by omega] at this
   exact this
 refine ⟨_,rfl,rfl,_,rfl,Xs (fun c=>?_) (fun c=>?_)⟩
 · obtain ⟨xs,ex,hl⟩:=S1.isl sl hR
   refine ⟨_,rfl,sl,_,rfl,.inl (SqL.of ex),_,_,rfl,rfl,_,rfl,p,_,6,_,rfl,S1,by omega,by decide,by decide,fun r2 H2 b0 b1 S2=>⟨_,_,rfl,rfl,_,_,rfl,?_⟩⟩
   by_cases hc:(0:Int) < (xs.length:Int) - 1 - r2
   · rw [if_pos hc]
     have:=q ((xs.length:Int) - 1 - r2).toNat H2 (by omega) (S2.le (by omega))
     rw [show ((((xs.length:Int) - 1 - r2).toNat:Nat):Int)=((xs.length:Nat):Int) - 1 - r2 by omega] at this
     exact this
   · rw [if_neg hc];exact q 0 H2 (by omega) (S2.le (by omega))
 · obtain ⟨xs,ex,hl⟩:=S1.isl sl hR
   refine ⟨_,rfl,_,rfl,sl,_,rfl,.inl (SqL.of ex),p,_,_,_,rfl,S1,by omega,by omega,by omega,fun r2 H2 b0 b1 S2=>?_⟩
   have:=q r2.toNat H2 (by omega) (S2.le (by omega))
   rw [show ((r2.toNat:Nat):Int)=r2 by omega] at this
   exact this
end
end K20
set_option maxHeartbeats 4000000
namespace K20
open PySem L2
def mkB:Nat→Int
 | 0=>0
 | i+1=>mkB i+((i:Int)+1) * 26
theorem Zgd {l:List Nat}:∀ i,i≤l.length→l.all WX=true→0≤Xy l i∧Xy l i≤mkB i
 | 0,_,_=>⟨Int.le_refl _,Int.le_refl _⟩
 | i+1,hi,ha=>by
   obtain ⟨h0,h1⟩:=Zgd i (by omega) ha
   have hlj:i < l.length:=hi
   have hc:=List.all_eq_true.mp ha _ (List.getElem_mem hlj)
   have hg:l.getD i 0=l[i]:=by rw [List.getD_eq_getElem?_getD,List.getElem?_eq_getElem hlj];rfl
   unfold WX at hc
   simp only [Bool.and_eq_true,decide_eq_true_eq] at hc
   show 0≤Xy l i+((i:Int)+1) * (((l.getD i 0:Nat):Int) - 97+1)∧Xy l i+((i:Int)+1) * (((l.getD i 0:Nat):Int) - 97+1)≤mkB i+((i:Int)+1) * 26
   rw [hg]
   have p0:(0:Int)≤((i:Int)+1) * (((l[i]:Nat):Int) - 97+1):=Int.mul_nonneg (by omega) (by omega)
   have p1:((i:Int)+1) * (((l[i]:Nat):Int) - 97+1)≤((i:Int)+1) * 26:=Int.mul_le_mul_of_nonneg_left (by omega) (by omega)
   omega
theorem Zmu {NS:List Str} (hl:NS.length≤50) (h:∀ x∈NS,Xq x):Ym NS:=by
 have b:∀ x∈NS,0≤Zg x∧Zg x < 1024:=fun x hx=>by
   obtain ⟨h1,h8,ha⟩:=h x hx
   obtain ⟨g0,g1⟩:=Zgd (l:=x.cps.toList) x.length (by rw [← Yd];exact Nat.le_refl _) ha
   have hB:∀ i,i≤8→mkB i < 1024:=by decide
   have:=hB x.length h8
   exact ⟨g0,by show Xy _ _ < _;omega⟩
 exact ⟨by omega,fun x hx=>by have:=(h x hx).2.1;omega,fun x hx=>(b x hx).1,fun x hx=>(b x hx).2⟩
theorem Zmd {NS:List Str}:RInv NS [] [.bare] [(Sum.inl 0,.bl true)]:=by
 refine ⟨fun k q e=>by simp at e,fun k t e=>?_,fun k q F t e=>by simp at e,fun k F t e1 e2=>?_,fun k q F e=>by simp at e,rfl⟩
 · cases k with
   | zero=>cases (show some 0=some t from e);exact .inl (.inl rfl)
   | succ k=>simp at e
 cases k with
 | zero =>
   cases (show some (fun _=>none)=some F from e1)
   cases (show some 0=some t from e2)
   exact ⟨rfl,.inl (.inl ⟨rfl,rfl,fun _ _ _=>rfl⟩),fun x u z=>by cases z⟩
 | succ k=>simp [envs] at e1
instance {pls:List ZK}:IsLst (StopL pls) (pls.length+1):=⟨fun ⟨as,e,hl,_⟩=>⟨_,e,by rw [List.length_map];exact hl⟩⟩
theorem Zfg {NS:List Str} {pls:List ZK} {q:ZK} (h:ZaJ NS pls) (hq:q.st.ok NS):ZaJ NS (pls++[q]):=fun z hz=>by
 rcases List.mem_append.mp hz with y | y
 · exact h z y
 · rw [List.mem_singleton.mp y];exact hq
theorem Zdl {x:Str} (h:Xq x):YY (.str x):=by
 refine ⟨by have:=h.2.1;omega,List.all_eq_true.mpr fun c hc=>?_⟩
 have:=List.all_eq_true.mp h.2.2 c hc
 unfold WX at this;unfold sgn
 simp only [Bool.and_eq_true,decide_eq_true_eq] at this ⊢
 omega
theorem ZgP {a b:Addr} {R:YL} [U:Up R] {o:HO} {Δ:Rs} {H:Hp} (S:Sep ((a,R)::Δ) H) (e:H b=some o) (m:YD o=false):Sep ((a,fun a h=>R a h∧h b=some o)::Δ) H:=by
 obtain ⟨h,l,r,S⟩:=S
 refine ⟨fun c=>match h c with | some u=>some u | none=>one b o c,fun c u z=>?_,⟨U.up r (fun c u z=>by simp only [z]),?_⟩,S.mono fun c u z=>?_⟩
 · cases q:h c with
   | some v=>simp only [q] at z;cases z;exact l _ _ q
   | none=>simp only [q] at z;obtain ⟨rfl,rfl⟩:=one_some.mp z;exact e
 · cases q:h b with
   | some v=>have:=l _ _ q;rw [e] at this;cases this;simp only [q]
   | none=>simp only [q];exact one_some.mpr ⟨rfl,rfl⟩
 · obtain ⟨z1,z2⟩:=cut_some.mp z
   refine cut_some.mpr ⟨z1,fun v y=>?_⟩
   cases q:h c with
   | some x=>simp only [q] at y;cases y;exact z2 _ q
   | none=>simp only [q] at y;obtain ⟨rfl,rfl⟩:=one_some.mp y;exact m
theorem ZkE {α:Type} {xs:List α} (h:xs≠[]):∃ x∈xs,YO xs (-1)=some x:=by
 have hl:=List.length_pos_iff.mpr h
 refine ⟨xs[xs.length - 1],List.getElem_mem _,?_⟩
 have hi:Wi xs.length (-1)=some (xs.length - 1):=by
   unfold Wi
   rw [if_neg (by decide),if_pos (by omega)]
   exact congrArg some (by omega)
 unfold YO
 rw [hi]
 exact List.getElem?_eq_getElem (by omega)
section
variable {P:Program} {w:World} {K:PySem.W.Frag} {mg:Str→Option Value} {base:Heap} {CR CS Pl:Addr}
theorem Zmb {p:Prop} [Decidable p] (h:p):¬ ((!decide p)=true):=by rw [decide_eq_true h];decide
theorem iteN {c A B:Prop} [Decidable c] (h:¬ c) (hb:B):if c then A else B:=by rw [if_neg h];exact hb
def ZdQ (Pl:Addr):Sp:=fun vs H Q _=>∃ (p:Addr) (Δ:Rs),vs=[.ref p]∧Sep ((p,Bx 0)::(Pl,Xn)::Δ) H∧∀ H',Sep ((Pl,Xn)::Δ) H'→Q (.bl true) H'
def ZiS (CR:Addr):Sp:=fun vs H Q _=>∃ (r st la ls lt lc dx:Addr),vs=[.ref r]∧H r=some (.ins CR dx (WO st la ls lt lc))∧Q (.ref st) H
abbrev nRSo:List Str:=["self"]
abbrev ZeX:List Str:=["self"]
theorem Zmf:Zs nRSo ZeX (Zl c_Roads_store):=⟨rfl,rfl,rfl,by decide +kernel,rfl,by decide +kernel,by decide +kernel⟩
theorem Zks {f:Addr} {fd:FuncData} (F:Fun K "store" "Roads.store" c_Roads_store f fd) (T:YB mg) (TR:WI K CR):FnOk P w K mg base ZH 1 f fd ZeX (ZiS CR):=by
 refine F.ok Zmf (fun vs H Q E h=>?_) (fun cdv A outer s H vs Q E hr h=>?_)
 · obtain ⟨r,st,la,ls,lt,lc,dx,rfl,_⟩:=h;rfl
 obtain ⟨r,st,la,ls,lt,lc,dx,rfl,ob,q⟩:=h
 refine' ⟨?t,?h,?r⟩
 case h =>
   conv=>arg 2;whnf
   with_reducible refine' (Zi ?h1)
   case h1=>exact Zp (ZU (pv 0) rfl)
 exact ⟨_,rfl,r,CR,dx,_,_,rfl,ob,TR.cl,TR.nk,Zbg,q⟩
abbrev nRi:List Str:=["_law_box_here","_law_names_here","_law_values_here","_law_roads","_law_stops","_law_all_made","_law_turn","_law_due","_law_found"]
abbrev Zhp:List Str:=["_law_box_here"]
theorem scRi:Zs nRi Zhp (Zl s_l_right):=⟨rfl,rfl,rfl,by decide +kernel,rfl,by decide +kernel,by decide +kernel⟩
theorem Zht {f:Addr} {fd:FuncData} (F:Fun K "_law_right" "_law_right" s_l_right f fd) (T:YB mg) (TR:WI K CR) (TC:Xm K CS) (DT:DTk P w K mg base 1) (DP:Def P w K mg base 12 "_law_pool" Zil ZdD) (DVs:Def P w K mg base 12 "_law_values" Ziv ZcG) (DRd:ZeJ P w K mg base 11 CR "Roads" ZeC (Zef K CR CS)) (DFr:Def P w K mg base 12 "_law_from" ZhX ZfK) (DSt:Def P w K mg base 12 "_law_step" Ziz ZfB) (DGr:Def P w K mg base 12 "_law_grown" Zix (ZdO K CR CS Pl))
   (DLC:Def P w K mg base 12 "_law_cost" Zfm spLC) (DR_cost:DefM P w K mg base 12 CR "cost" ZeK (ZgG K CR CS)) (DR_store:DefM P w K mg base 12 CR "store" ZeX (ZiS CR)) (DS_made:DefM P w K mg base 12 CS "made" ["self"] (Zdh K CS)):FnOk P w K mg base ZH 13 f fd Zhp (ZdQ Pl):=by
 refine F.ok scRi (fun vs H Q E h=>?_) (fun cdv A outer s H vs Q E hr h=>?_)
 · obtain ⟨p,Δ,rfl,_⟩:=h;rfl
 obtain ⟨p,Δ,rfl,S,q⟩:=h
 have hr1:=hr.mono (show 1≤12 by decide)
 refine' ⟨?t,?h,?r⟩
 case h =>
   conv=>arg 2;whnf
   with_reducible refine' (Zd ?h1 (Zd ?h2 (Zd ?h3 (Zd (Uh ?h4 ?h5 ?h6 ?h7 (Zd (Yk ?h8 (Zi ?h9) ZW) (Zd ?h10 (Zd ?h11 (Zd ?h12 (Zd (Yk ?h13 (Zi ?h14) ZW) (Zi (Yk ?h15 (Zi ?h16) ZW))))))) ?h17) (Zi ?h18)))))
   case h1=>exact ZgR (i:=1) (j:=2) rfl scRi.nd rfl rfl (by decide) rfl rfl (Zc (Zz DP hr (Zc (pv 0) (Zc (Zn Yi Zb (Zz DT hr1 (Zc (pv 0) (Zc Zb Za)))) Za))) (Zc (Zz DVs hr (Zc (pv 0) Za)) Za)) rfl
   case h2=>exact Zx (i:=2) scRi.nd rfl (Or.inl rfl) (Zn Zct (pv 2) (Yn (Zc (Zo Zy (pv 1) Zb (fun _ _=>rfl)) (Zc (Zo Zy (pv 1) (ZiX Zgz Zb) (fun _ _=>rfl)) (Zc ZO (Zc ZO Za))))))
   case h3=>exact Xz (Xa (Zc (ZiU DRd hr) (Zc (Yn (Zc (Xa (Zc Vb (Zc Vb Za))) Za)) (Zc Zb Za)))) (Wm rfl (Ya (ZN (i:=3) scRi.nd rfl (Or.inr rfl)) (Ya (ZN (i:=4) scRi.nd rfl (Or.inr rfl)) (Ya (ZN (i:=5) scRi.nd rfl (Or.inl rfl)) XL))))
   case h4=>exact PassesOwn.never
   case h5=>exact rfl
   case h6=>exact Xd rfl T.range (Zc (Zz DT hr1 (Zc (pv 0) (Zc Zb Za))) Za)
   case h7=>exact ZN (i:=6) scRi.nd rfl (Or.inl rfl)
   case h8=>exact Zcp (Wn (Zz DGr hr (Zc (pv 3) (Zc (pv 4) (Zc (Zz DFr hr (Zc (pv 0) (Zc (pv 4) Za))) (Zc (Zz DSt hr (Zc (pv 0) (Zc (pv 1) (Zc (pv 2) Za)))) Za))))))
   case h9=>exact Zp Vt
   case h10=>exact Zx (i:=7) scRi.nd rfl (Or.inl rfl) (Zz DLC hr (Zc (pv 4) (Zc (Zn Yx (Zw ZG rfl T.len PySem.boot_len (Zc (pv 4) Za)) Zb) Za)))
   case h11=>exact Zx (i:=5) scRi.nd rfl (Or.inl rfl) (Zn Yi (pv 5) (pv 7))
   case h12=>exact Zx (i:=8) scRi.nd rfl (Or.inl rfl) (Yy DR_cost TR.cl hr (pv 3) (Zc (Zn Yx (Zw ZG rfl T.len PySem.boot_len (Zc (pv 4) Za)) Zb) Za))
   case h13=>exact PW.pt (Zcb (Zcp (Wn (Zw XD rfl T.isinstance (by decide +kernel) (Zc (pv 8) (Zc (Wc rfl T.int (by decide +kernel) (v:=.ty "int") rfl) Za))))) (Zcb (Wn (Zw XD rfl T.isinstance (by decide +kernel) (Zc (pv 8) (Zc (Wc rfl T.bool (by decide +kernel) (v:=.ty "bool") rfl) Za)))) (ZcI (ZL Zac (pv 8) (pv 7) (ZE _)))))
   case h14=>exact Zp Vt
   case h15=>exact ZL Zac (ZaA DS_made TC.cl hr (ZaA DR_store TR.cl hr (pv 3))) (pv 5) (ZE _)
   case h16=>exact Zp Vt
   case h17=>exact fun _=>rfl
   case h18=>exact Zp (Zw (Zcr rfl) rfl T.all (by decide +kernel) (Zc (XY (CompOk.of nRi s_l_right rfl rfl (by decide +kernel)) rfl (Xd rfl T.range (Zc (Zw ZG rfl T.len PySem.boot_len (Zc (pv 4) Za)) Za))  (fun _ _ _ _ _=>YT Yq (Yy DR_cost TR.cl hr (pv 3) (Zc (pv 9) Za)) (Zz DLC hr (Zc (pv 4) (Zc (pv 9) Za))) (ZE _))) Za))
 refine ⟨_,rfl,_,rfl,p,0,24,_,rfl,S,by decide,by decide,by decide,fun r1 H1 a0 a1 S1=>⟨_,_,rfl,rfl,p,_,_,_,rfl,S1,by omega,by omega,by omega,fun nl H2 xs S2 hx1 hx2 hnd hnm h2=>?_⟩⟩
 refine ⟨_,rfl,p,_,_,rfl,S2.pull p,by omega,fun vl H3 us S3 hul huv=>⟨_,_,rfl,?_⟩⟩
 have hxn:xs≠[]:=List.length_pos_iff.mp (by omega)
 have N:Ym xs:=Zmu (by omega) hnm
 obtain ⟨z0,hz0,at0⟩:=Zga (f:=V.str) (xs:=xs) (r:=0) (by decide) (by omega)
 obtain ⟨v9,hv9,at9⟩:=ZkE (xs:=xs.map V.str) (fun z=>hxn (List.map_eq_nil_iff.mp z))
 obtain ⟨z9,hz9,rfl⟩:=List.mem_map.mp hv9
 refine ⟨_,rfl,_,rfl,nl,_,_,_,rfl,rfl,SqL.of (S3.get nl),at0,_,rfl,_,rfl,nl,_,_,_,rfl,rfl,SqL.of (S3.get nl),at9,(by show 4≤sizeLine;decide),fun l1 hl1=>?_⟩
 generalize hE:upd H3 l1 _=H4
 have S4:=S3.newE hl1 hE
 clear hE
 refine ⟨vl,l1,_,_,rfl,rfl,S4.get vl,S4.get l1,YH (show us.length+4≤1000 by omega),fun l2 hl2=>?_⟩
 generalize hE:upd H4 l2 _=H5
 have S5:=(((S4.newE hl2 hE).drop l1).drop vl)
 clear hE
 have hUv:∀ u∈us++[V.str z0,V.str z9,V.str "set",V.str "clear"],YY u:=fun u hu=>by
   rcases List.mem_append.mp hu with y | y
   · exact huv u y
   · rcases List.mem_cons.mp y with rfl | y
     · exact Zdl (hnm _ hz0)
     rcases List.mem_cons.mp y with rfl | y
     · exact Zdl (hnm _ hz9)
     · have all:([.str "set",.str "clear"]:List V).all Zat=true:=by decide +kernel
       exact UG (List.all_eq_true.mp all u y)
 have hUl:(us++[V.str z0,V.str z9,V.str "set",V.str "clear"]).length=9:=by rw [List.length_append,hul];rfl
 generalize hU:us++[V.str z0,V.str z9,V.str "set",V.str "clear"]=U at *
 intro r dx hrr hdx hne
 refine ⟨r,dx,_,_,rfl,rfl,hrr,hdx,hne,S5,fun H6 S6=>⟨rfl,(by show 2≤sizeLine;decide),fun t0 ht0=>⟨(by show 1≤sizeLine;decide),fun sl hsl=>⟨(by show 3≤sizeLine;decide),fun tt htt=>⟨tt,_,rfl,SqT.of Zh,rfl,_,_,rfl,_,_,rfl,_,_,rfl,rfl,?_⟩⟩⟩⟩⟩
 generalize hE:upd (upd (upd H6 t0 _) sl _) tt _=H7
 have S7:=(((S6.new ht0 _).new hsl _).newE htt hE).tail
 clear hE
 have S8:=((ZgP (S7.pull sl) (S7.get t0) rfl).say sl (StopL []) fun h ⟨z1,z2⟩=>⟨[t0],z1,rfl,fun a e=>by cases (show some t0=some a from e);exact z2,fun i a q e1 e2=>by simp at e2⟩).drop t0
 refine ⟨_,rfl,p,_,61,_,rfl,S8.pull p,by decide,by decide,by decide,fun m H9 m0 m1 S9=>⟨m,rfl,by omega,by omega,?_⟩⟩
 refine Va (fun i σ H'=>∃ x6 x7 x8 pls nds tabs n am,σ=[some (.ref p),some (.ref nl),some (.ref l2),some (.ref r),some (.ref sl),some (.int am),x6,x7,x8]∧am=(nds.length:Int)∧Sep ((p,Bx n)::(r,Uq K CR CS pls nds tabs)::(Pl,Xn)::(sl,StopL pls)::(nl,ZI (xs.map V.str))::(l2,ZI U)::Δ) H'∧RInv xs pls nds tabs∧ZaJ xs pls∧pls.length=i∧nds.length≤1+6 * i∧tabs.length≤1+i∧n≤1000+10 * i)
   ⟨_,_,_,[],[.bare],_,_,1,rfl,rfl,(((((S9.pull l2).pull nl).pull sl).pull Pl).pull r).pull p,Zmd,(fun _ h=>nomatch h),rfl,by decide,by decide,by decide⟩ ?_ ?_
 · rintro i σ H10 hi ⟨x6,x7,x8,pls,nds,tabs,n,am,rfl,ham,S10,I,hok,hpl,hnd,htb,hn⟩
   have hUn:U≠[]:=List.length_pos_iff.mp (by omega)
   refine ⟨_,rfl,_,rfl,_,rfl,_,rfl,p,sl,n,pls.length+1,StopL pls,_,rfl,(S10.pull sl).pull p,inferInstance,by omega,by omega,by omega,fun kk H11 hkk S11=>?_⟩
   refine ⟨_,rfl,_,rfl,_,rfl,p,nl,l2,_,xs,U,_,rfl,((S11.pull l2).pull nl).pull p,hxn,hUn,by omega,by omega,hUv,by omega,fun t H12 s hs S12=>?_⟩
   refine ⟨xs,r,sl,t,pls,nds,tabs,kk,s,_,rfl,N,((S12.pull sl).pull Pl).pull r,S12.get t,I,hs,by omega,by omega,by omega,by omega,fun H13 nds' tabs' q' S13 I13 l1' l2' hq=>⟨_,rfl,ZM ?_⟩⟩
   have S14:=((((((S13.drop t).pull l2).pull nl).pull sl).pull Pl).pull r).pull p
   have hok':=Zfg hok hq
   have hpl':(pls++[q']).length=i+1:=by rw [List.length_append,hpl];rfl
   have hA:am+(coN (pls++[q']) (pls++[q']).length:Int)=(nds'.length:Int):=by
     have e1:=I.nm
     have e2:=I13.nm
     rw [List.map_append,List.sum_append] at e2
     have e3:coN (pls++[q']) (pls++[q']).length=q'.co:=by
       rw [List.length_append]
       show ((pls++[q']).getD pls.length ⟨0,.clr "",0,0⟩).co=q'.co
       rw [List.getD_eq_getElem?_getD,List.getElem?_append_right (Nat.le_refl _),Nat.sub_self];rfl
     have e4:([q'].map (·.co)).sum=q'.co:=by show q'.co+0=q'.co;omega
     rw [e3];omega
   generalize hP:pls++[q']=pls' at *
   obtain ⟨ys,ey,hyl⟩:=S14.isl sl (inferInstance:IsLst (StopL pls') (pls'.length+1))
   have ey1:((ys.length:Nat):Int) - 1=((pls'.length:Nat):Int):=by omega
   refine ⟨_,rfl,_,rfl,sl,_,rfl,.inl (SqL.of ey),_,_,rfl,rfl,xs,sl,pls',nds',tabs',pls'.length,_,(by show [V.ref sl,V.int (((ys.length:Nat):Int) - 1)]=_;rw [ey1]),N,hnm,by omega,S14.pull sl,I13,hok',Nat.le_refl _,by omega,fun H15 S15=>?_⟩
   refine ⟨_,rfl,_,rfl,_,_,rfl,rfl,?_⟩
   obtain ⟨ys2,ey2,hyl2⟩:=S15.isl sl (inferInstance:IsLst (StopL pls') (pls'.length+1))
   have ey3:((ys2.length:Nat):Int) - 1=((pls'.length:Nat):Int):=by omega
   obtain ⟨st,la,ls,lt,lc,Sr⟩:=id (S15.get r)
   obtain ⟨dxr,obr⟩:=Sr.get r
   refine ⟨_,rfl,r,dxr,_,rfl,obr,Wf (by decide +kernel),_,rfl,sl,_,rfl,.inl (SqL.of ey2),_,_,rfl,rfl,r,pls',nds',tabs',pls'.length,(by show [V.ref r,V.int (((ys2.length:Nat):Int) - 1)]=_;rw [ey3]),S15.get r,Nat.le_refl _,?_⟩
   refine ⟨_,rfl,_,_,_,_,rfl,.int _,rfl,_,rfl,ZM ⟨_,rfl,_,_,_,_,rfl,.int _,rfl,_,rfl,ZM ⟨_,rfl,_,rfl,rfl,_,rfl,?_⟩⟩⟩
   rw [decide_eq_true rfl]
   refine ZM ?_
   obtain ⟨_,ln,dt,SA⟩:=Sr.get st
   obtain ⟨dxs,obs⟩:=SA.ob
   refine ⟨_,rfl,r,dxr,_,rfl,obr,Wf (by decide +kernel),r,st,la,ls,lt,lc,dxr,rfl,obr,st,dxs,_,rfl,obs,ZS ln dt (by decide +kernel) (by decide +kernel),st,nds',tabs',rfl,Sr.get st,_,rfl,rfl,_,rfl,?_⟩
   exact iteN (Zmb (congrArg V.int hA.symm)) ⟨_,_,_,pls',nds',tabs',_,_,rfl,hA,(((((S15.pull l2).pull nl).pull sl).pull Pl).pull r).pull p,I13,hok',hpl',by omega,by omega,by omega⟩
 · rintro σ H10 ⟨x6,x7,x8,pls,nds,tabs,n,am,rfl,ham,S10,I,hok,hpl,hnd,htb,hn⟩
   obtain ⟨ys,ey,hyl⟩:=S10.isl sl (inferInstance:IsLst (StopL pls) (pls.length+1))
   refine ⟨_,rfl,sl,_,rfl,.inl (SqL.of ey),((ys.length:Nat):Int),rfl,by omega,by omega,fun D hD=>?_⟩
   refine Wg (by exact Nat.le_trans (show _≤1000 by omega) (by decide)) S10 hD (fun i ys' Δ'=>ys'=(List.replicate i true).map V.bl∧Δ'=(p,Bx n)::(r,Uq K CR CS pls nds tabs)::(Pl,Xn)::(sl,StopL pls)::(nl,ZI (xs.map V.str))::(l2,ZI U)::Δ) ⟨rfl,rfl⟩ ?_ ?_
   · rintro i ys2 Δ' H' hi hl ⟨rfl,rfl⟩ S'
     have hi2:i≤pls.length:=by omega
     have e0:(0:Int)+(i:Int)=(i:Int):=by omega
     rw [e0]
     obtain ⟨_,_,_,_,_,Sr⟩:=id (S'.get r)
     obtain ⟨dxr,obr⟩:=Sr.get r
     refine ⟨_,rfl,r,dxr,_,rfl,obr,Wf (by decide +kernel),_,rfl,r,pls,nds,tabs,i,rfl,S'.get r,hi2,?_⟩
     refine ⟨_,rfl,_,rfl,xs,sl,pls,nds,tabs,i,_,rfl,N,hnm,by omega,S'.pull sl,I,hok,hi2,by omega,fun H16 S16=>⟨rfl,_,⟨?_,rfl⟩,((((((S16.pull l2).pull nl).pull sl).pull Pl).pull r).pull p).pull D⟩⟩
     rw [decide_eq_true rfl,List.replicate_succ',List.map_append];rfl
   · rintro ys2 Δ' H2 ⟨rfl,rfl⟩ hl S2
     refine ⟨D,_,rfl,SqL.of (S2.get D),?_⟩
     rw [show ∀ k,(List.replicate k true).all id=true from fun k=>by simp]
     exact q H2 ((((((S2.drop D).drop p).drop r).drop sl).drop nl).drop l2)
end
end K20
set_option maxHeartbeats 4000000
namespace K20
open PySem L2
def ScR (K:PySem.W.Frag) (ns:List Int):YL:=fun a h=>SqL K h a (ns.map V.int)
theorem Zmx {K:PySem.W.Frag} {H H':Hp} {a:Addr} {xs:List V} (h:SqL K H a xs) (s:Same H H'):SqL K H' a xs:=by
 rcases h with (h | ⟨o,h⟩) | h
 · exact .inl (.inl (s _ _ h))
 · exact .inl (.inr ⟨o,s _ _ h⟩)
 · exact .inr h
instance {K:PySem.W.Frag} {ns:List Int}:Up (ScR K ns):=⟨fun h s=>Zmx h s⟩
theorem ZgT {K:PySem.W.Frag} {H:Hp} {a Pl:Addr} {ns:List Int} (hS:SqL K H a (ns.map V.int)) (hL:LamAt H Pl YG Xt):Sep [(Pl,Xn),(a,ScR K ns)] H:=by
 obtain ⟨tb,etb⟩:=hL.tbl
 refine ⟨some_of H [Pl],Ww,?_,WS H (some_of H [Pl]),fun b o e=>e,?_,trivial⟩
 · have ePl:some_of H [Pl] Pl=H Pl:=XG (by simp)
   rcases hL with z | ⟨c,z1,z2⟩
   · exact .inl (by rw [ePl];exact z)
   · exact .inr ⟨c,by rw [ePl];exact z1,WZ z2 rfl⟩
 · rcases hS.obj with z | ⟨o,e,nt,z⟩
   · exact z _
   · refine z _ (cut_some.mpr ⟨e,fun u y=>?_⟩)
     cases m:YD u with
     | false=>rfl
     | true =>
       have:=XZ y m
       rw [List.mem_singleton.mp this,etb] at e
       cases e
       exact absurd rfl (nt _)
section
variable {P:Program} {w:World} {K:PySem.W.Frag} {mg:Str→Option Value} {base:Heap} {CR CS Pl:Addr}
def ZbT (K:PySem.W.Frag) (Pl:Addr):Sp:=fun vs H Q _=>∃ (a:Addr) (ns:List Int),vs=[.ref a]∧SqL K H a (ns.map V.int)∧ns.length≤63∧LamAt H Pl YG Xt∧∀ H',Q (.bl true) H'
abbrev nLw:List Str:=["_law_script"]
abbrev pnLw:List Str:=["_law_script"]
theorem scLw:Zs nLw pnLw (Zl s_law):=⟨rfl,rfl,rfl,by decide +kernel,rfl,by decide +kernel,by decide +kernel⟩
theorem Zlg {f:Addr} {fd:FuncData} (F:Fun K "law" "law" s_law f fd) (T:YB mg) (DB:Def P w K mg base 13 "_law_box" ["_law_script","_law_k"] (Zde K)) (DRi:Def P w K mg base 13 "_law_right" Zhp (ZdQ Pl)):FnOk P w K mg base ZH 14 f fd pnLw (ZbT K Pl):=by
 refine F.ok scLw (fun vs H Q E h=>?_) (fun cdv A outer s H vs Q E hr h=>?_)
 · obtain ⟨a,ns,rfl,_⟩:=h;rfl
 obtain ⟨a,ns,rfl,hS,h63,hL,q⟩:=h
 have S:=ZgT hS hL
 refine' ⟨?t,?h,?r⟩
 case h =>
   conv=>arg 2;whnf
   with_reducible refine' (Zi ?h1)
   case h1=>exact Zp (Zw (Zcr rfl) rfl T.all (by decide +kernel) (Zc (XY (CompOk.of nLw s_law rfl rfl (by decide +kernel)) rfl (Xd rfl T.range (Zc (Zn Yi Zb (Zw (Zgs rfl) rfl T.min (by decide +kernel) (Zc Zb (Zc (Zw ZG rfl T.len PySem.boot_len (Zc (pv 0) Za)) Za)))) Za))  (fun _ _ _ _ _=>Zz DRi hr (Zc (Zz DB hr (Zc (pv 0) (Zc (pv 1) Za))) Za))) Za))
 refine ⟨_,rfl,a,_,rfl,.inl hS,_,_,rfl,_,_,rfl,rfl,?_⟩
 rw [List.length_map]
 generalize hm:(1:Int)+(if ((ns.length:Nat):Int) < 3 then ((ns.length:Nat):Int) else 3)=m
 have hm9:0≤m∧m≤9:=by rw [← hm];split <;> omega
 refine ⟨m,congrArg (fun z=>[V.int z]) hm,by omega,by omega,fun D hD=>?_⟩
 refine Wg (by exact Nat.le_trans (show _≤1000 by omega) (by decide)) S hD (fun i ys' Δ'=>ys'=(List.replicate i true).map V.bl∧Δ'=[(Pl,Xn),(a,ScR K ns)]) ⟨rfl,rfl⟩ ?_ ?_
 · rintro i ys2 Δ' H' hi hl ⟨rfl,rfl⟩ S'
   refine ⟨_,rfl,_,rfl,a,ns,_,_,rfl,S'.get a,S',by omega,by omega,fun p H1 s1 S1=>?_⟩
   refine ⟨p,_,rfl,(S1.pull Pl).pull p,fun H2 S2=>⟨_,⟨?_,rfl⟩,(S2.pull D)⟩⟩
   rw [List.replicate_succ',List.map_append];rfl
 · rintro ys2 Δ' H2 ⟨rfl,rfl⟩ hl S2
   refine ⟨D,_,rfl,SqL.of (S2.get D),?_⟩
   rw [show ∀ k,(List.replicate k true).all id=true from fun k=>by simp]
   exact q H2
end
end K20
set_option maxHeartbeats 4000000
namespace K20
open PySem L2
abbrev Zjg (P:Program) (w:World) (K:PySem.W.Frag) (mg:Str→Option Value) (base:Heap):Prop:=Def P w K mg base 1 "_law_take" ["_law_box_here","_law_many"] (ZaG 4611686018427387904)
section
variable {P:Program} {w:World} {K:PySem.W.Frag} {mg:Str→Option Value} {base:Heap}
abbrev vSigns:Str:=Zjd (XI s_l_value)
theorem vs_len:vSigns.length=94:=by decide +kernel
theorem Zlo:vSigns.cps.toList.all sgn=true:=by decide +kernel
abbrev nVv:List Str:=["_law_box_here","_law_way_here","_law_signs"]
theorem scVal:Zs nVv ["_law_box_here"] (Zl s_l_value):=⟨rfl,rfl,rfl,by decide +kernel,rfl,by decide +kernel,by decide +kernel⟩
theorem ZhE {f:Addr} {fd:FuncData} (F:Fun K "_law_value" "_law_value" s_l_value f fd) (T:Txt K mg) (D:Zjg P w K mg base):FnOk P w K mg base ZH 2 f fd ["_law_box_here"] Zei:=by
 refine F.ok scVal (fun vs H Q E h=>?_) (fun cdv A outer s H vs Q E hr h=>?_)
 · obtain ⟨p,n,rfl,_⟩:=h;rfl
 obtain ⟨p,n,rfl,hB,hn,q⟩:=h
 refine ⟨_,Zd (Zx (i:=1) scVal.nd rfl (Or.inl rfl) (Zz D hr (Zc (pv 0) (Zc Zb Za))))
   (Zd (Yk (ZL Vq (pv 1) Zb (ZE _)) (Zi (Zp (Zn Yx (Zz D hr (Zc (pv 0) (Zc Zb Za))) Zb))) ZW)
   (Zd (Yk (ZL Yq (pv 1) Zb (ZE _)) (Zi (Zp (Zo Zy (Yn (UP (Zn Yx (Zn Zao Zb Zb) Zb) (UP (Zn Yx Zb (Zn Zao Zb Zb)) (UP (Zn Zao Zb Zb) (UP Zb Za rfl) rfl) rfl) rfl)) (Zz D hr (Zc (pv 0) (Zc Zb Za))) (fun _ _=>rfl)))) ZW)
   (Zd (Yk (ZL Yq (pv 1) Zb (ZE _)) (Zi (Zp (Zo Zy (Yn (UP ZO (UP ZO (UP ZO (UP ZO (UP ZO (UP ZO (UP ZO (UP ZO Za rfl) rfl) rfl) rfl) rfl) rfl) rfl) rfl)) (Zz D hr (Zc (pv 0) (Zc Zb Za))) (fun _ _=>rfl)))) ZW)
   (Zd (Zx (i:=2) scVal.nd rfl (Or.inr rfl) ZO)
   (Zi (Zp (Xg PySem.F.plainAttrs_str PySem.F.slot_str_join PySem.F.type_str_join Zee ZO (Zc (XY (CompOk.of nVv s_l_value rfl rfl (by decide +kernel)) rfl
     (Xd rfl T.range (Zc (Zz D hr (Zc (pv 0) (Zc (WH (ZL Yq (pv 1) Zb (ZE _)) Zb Zb) Za))) Za))
     (fun _ _ _ _ _=>Zo Wl (pv 2) (Zz D hr (Zc (pv 0) (Zc (Zw (Zgp (K:=K) rfl) rfl T.len PySem.boot_len (Zc (pv 2) Za)) Za))) (fun _ _=>rfl))) Za)))))))),?_⟩
 refine ⟨_,rfl,p,n,6,rfl,hB,by omega,by decide,by decide,fun r1 H1 a0 a1 B1 k1=>?_⟩
 refine ⟨_,rfl,_,_,rfl,rfl,_,rfl,Xs (fun c=>?_) (fun c=>?_)⟩
 · refine ⟨_,rfl,p,n+1,7,rfl,B1,by omega,by decide,by decide,fun r2 H2 b0 b1 B2 k2=>⟨_,_,rfl,rfl,?_⟩⟩
   exact q _ _ (by show (r2 - 3).natAbs≤10 ^ 31;omega) (B2.le (by omega)) (k1.trans k2)
 refine ⟨_,rfl,rfl,_,rfl,Xs (fun c2=>?_) (fun c2=>?_)⟩
 · refine ⟨_,_,rfl,rfl,⟨by decide,by decide,by decide⟩,_,_,rfl,rfl,_,_,rfl,rfl,⟨by decide,by decide,by decide⟩,_,_,rfl,rfl,_,_,rfl,rfl,⟨by decide,by decide,by decide⟩,(by show 4≤sizeLine;decide),fun l hl=>?_⟩
   have hne:l≠p:=fun e=>by obtain ⟨_,_,_,z,_⟩:=B1;rw [e,z] at hl;cases hl
   refine ⟨_,rfl,p,n+1,4,rfl,B1.same (ZB hl _),by omega,by decide,by decide,fun r2 H2 b0 b1 B2 k2=>?_⟩
   obtain ⟨v,hv,hm⟩:=ZaZ (xs:=([.int (10 ^ (30:Int).toNat - 1),.int (1 - 10 ^ (30:Int).toNat),.int (10 ^ (29:Int).toNat),.int 0]:List V)) b0 b1
   refine ⟨l,_,_,v,rfl,rfl,SqL.of (k2 l _ hne Zh),hv,q _ _ ?_ (B2.le (by omega)) (k1.trans ((ZB hl _).kp p |>.trans k2))⟩
   have all:(([.int (10 ^ (30:Int).toNat - 1),.int (1 - 10 ^ (30:Int).toNat),.int (10 ^ (29:Int).toNat),.int 0]:List V)).all Zat=true:=by decide +kernel
   exact UG (List.all_eq_true.mp all v hm)
 refine ⟨_,rfl,rfl,_,rfl,Xs (fun c3=>?_) (fun c3=>?_)⟩
 · refine ⟨(by show 8≤sizeLine;decide),fun l hl=>?_⟩
   have hne:l≠p:=fun e=>by obtain ⟨_,_,_,z,_⟩:=B1;rw [e,z] at hl;cases hl
   refine ⟨_,rfl,p,n+1,8,rfl,B1.same (ZB hl _),by omega,by decide,by decide,fun r2 H2 b0 b1 B2 k2=>?_⟩
   obtain ⟨v,hv,hm⟩:=ZaZ (xs:=([.str "",.str "0",.str "-1",.str "a",.str "none",.str "'",.str "\\", .str " "]:List V)) b0 b1
   refine ⟨l,_,_,v,rfl,rfl,SqL.of (k2 l _ hne Zh),hv,q _ _ ?_ (B2.le (by omega)) (k1.trans ((ZB hl _).kp p |>.trans k2))⟩
   have all:(([.str "",.str "0",.str "-1",.str "a",.str "none",.str "'",.str "\\", .str " "]:List V)).all Zat=true:=by decide +kernel
   exact UG (List.all_eq_true.mp all v hm)
 refine ⟨rfl,?_⟩
 have fin:∀ (r2:Int) (H2:Hp),0≤r2→r2 < 41→BoxAt H2 p (n+2)→Kp p H1 H2→∃ j:Int,[V.int r2]=[.int j]∧-(2 ^ 62)≤j∧j < 2 ^ 62∧∀ D,H2 D=none→Uv (Itr 0 j.toNat)
     (tOp rIxS (UZ 2) (ZeZ (ZaG 4611686018427387904) [] E0 (Xe (UZ 0) (Xe (tCB (fun xs H Q=>∃ x n,xs=[x]∧Zhk K x H n∧Q (.int n) H) (Xe (UZ 2) XE)) XE))))
     [some (.ref p),some (.int r1),some (.str vSigns)] D (fun x H3=>∃ sep a ys,V.str ""=.str sep∧[x]=[.ref a]∧SqL K H3 a (ys.map V.str)∧(ys.map (·.length)).sum+ys.length * sep.length≤16777216∧Q (.str (Txt.join sep ys)) H3) H2:=by
   intro r2 H2 b0 b1 B2 k2
   refine ⟨r2,rfl,by omega,by omega,fun Dl hD=>?_⟩
   have hne:Dl≠p:=fun e=>by obtain ⟨_,_,_,z,_⟩:=B2;rw [e,z] at hD;cases hD
   refine Zfn (Nat.le_trans (show r2.toNat≤1000 by omega) (ZeS (Nat.le_refl _)))
     (fun i ys H'=>∃ zs:List Str,ys=zs.map V.str∧zs.length=i∧(∀ z∈zs,∃ c,z=⟨#[c]⟩∧sgn c=true)∧H' Dl=some (.lst ys)∧BoxAt H' p (n+2+i)∧Kp p H1 H'∧i≤r2.toNat)
     ⟨[],rfl,rfl,(fun _ h=>nomatch h),Zh,B2.same (ZB hD _),k2.trans ((ZB hD _).kp p),Nat.zero_le _⟩ ?_ ?_ ?_
   · rintro i ys H' ⟨zs,rfl,hz,_⟩;rw [List.length_map];exact hz
   · rintro i ys H' hi ⟨zs,rfl,hz,hall,hDl,B',k',_⟩
     refine ⟨_,rfl,_,rfl,_,rfl,_,94,rfl,⟨by rw [vs_len];decide,vs_len.symm⟩,p,n+2+i,94,rfl,B',by omega,by decide,by decide,fun r3 H3 d0 d1 B3 k3=>?_⟩
     have hl:vSigns.cps.toList.length=94:=by rw [← Yd];exact vs_len
     obtain ⟨c,hc,hm⟩:=ZaZ (xs:=vSigns.cps.toList) d0 (by rw [hl];exact d1)
     refine ⟨vSigns,r3,c,rfl,rfl,(by rw [vs_len];decide),hc,k3 Dl _ hne hDl,zs++[⟨#[c]⟩],by rw [List.map_append];rfl,by rw [List.length_append,hz];rfl,?_,Zh,?_,fun b o nb e=>?_,hi⟩
     · intro z hz'
       rcases List.mem_append.mp hz' with h | h
       · exact hall z h
       · rw [List.mem_singleton.mp h];exact ⟨c,rfl,List.all_eq_true.mp Zlo c hm⟩
     · obtain ⟨x1,x2,x3,x4,x5⟩:=B3
       exact ⟨x1,x2,x3,by rw [Zk hne.symm];exact x4,x5⟩
     · rw [Zk (Zt (k2 b o nb e) hD)];exact k3 b o nb (k' b o nb e)
   · rintro ys H' ⟨zs,rfl,hz,hall,hDl,B',k',_⟩
     have ones:∀ l:List Str,(∀ z∈l,∃ c,z=⟨#[c]⟩∧sgn c=true)→(l.map (·.length)).sum=l.length∧(l.flatMap (·.cps.toList)).length=l.length∧(l.flatMap (·.cps.toList)).all sgn=true:=by
       intro l
       induction l with
       | nil=>intro _;exact ⟨rfl,rfl,rfl⟩
       | cons z r ih =>
         intro h
         obtain ⟨c,rfl,hc⟩:=h z List.mem_cons_self
         obtain ⟨g1,g2,g3⟩:=ih fun y hy=>h y (List.mem_cons_of_mem _ hy)
         refine ⟨?_,?_,?_⟩
         · rw [List.map_cons,List.sum_cons,g1,List.length_cons];show 1+_=_;omega
         · have e0:((⟨#[c]⟩:Str)::r).flatMap (·.cps.toList)=c::r.flatMap (·.cps.toList):=rfl
           rw [e0,List.length_cons,List.length_cons,g2]
         · rw [List.flatMap_cons,List.all_append,g3];simp [hc]
     obtain ⟨g1,g2,g3⟩:=ones zs hall
     refine ⟨_,Dl,zs,rfl,rfl,SqL.of hDl,?_,q _ _ ⟨?_,?_⟩ (B'.le (by omega)) (k1.trans k')⟩
     · rw [g1];show _+_ * 0≤_;omega
     · rw [Yd];show (Txt.join (Str.ofString "") zs).cps.toList.length≤41;rw [Wp,g2];omega
     · show (Txt.join (Str.ofString "") zs).cps.toList.all sgn=true;rw [Wp];exact g3
 refine ⟨_,rfl,_,rfl,rfl,_,rfl,Xs (fun c4=>?_) (fun c4=>?_)⟩
 · exact ⟨p,n+1,4,rfl,B1,by omega,by decide,by decide,fun r2 H2 b0 b1 B2 k2=>fin r2 H2 b0 (by omega) B2 k2⟩
 · exact ⟨p,n+1,41,rfl,B1,by omega,by decide,by decide,fun r2 H2 b0 b1 B2 k2=>fin r2 H2 b0 (by omega) B2 k2⟩
end
end K20
namespace L2
open PySem
structure FG (K:PySem.W.Frag) (x:Str) (st:Stmt) (f:Addr) (fd:FuncData):Prop where
 a:PySem.W.nsIn K mainGlobals x=some (some (.ref f))
 F:Fun K x x st f fd
structure FM (K:PySem.W.Frag) (C:Addr) (x q:Str) (st:Stmt) (f:Addr) (fd:FuncData):Prop where
 m:Vh K C x f
 F:Fun K x q st f fd
structure FGC (K:PySem.W.Frag) (x:Str) (st:Stmt) (f:Addr) (fd:FuncData) (c Pl:Addr):Prop where
 a:PySem.W.nsIn K mainGlobals x=some (some (.ref f))
 F:FunC K x x st f fd c Pl
structure FMC (K:PySem.W.Frag) (C:Addr) (x q:Str) (st:Stmt) (f:Addr) (fd:FuncData) (c Pl:Addr):Prop where
 m:Vh K C x f
 F:FunC K x q st f fd c Pl
structure CH (K:PySem.W.Frag) (x:Str) (C:Addr):Prop where
 a:PySem.W.nsIn K mainGlobals x=some (some (.ref C))
 c:Cls K C
 ms:PySem.W.makesIn K C=true
 kp:PySem.W.keepIn K (.ref C)=true
structure Bs (P:Program) (w:World) (K:PySem.W.Frag) (mg:Str→Option Value) (base h:Heap):Prop where
 X:K.In h
 G:h.Ns mainGlobals mg
section
variable {P:Program} {w:World} {K:PySem.W.Frag} {mg:Str→Option Value} {base h:Heap} {x q:Str} {st:Stmt} {f c Pl C:Addr} {fd:FuncData} {k:Nat} {ps:List Str} {sp:Sp} {p1 p2 p3 p4 p5:Str}
theorem FG.df (g:FG K x st f fd) (e:Bs P w K mg base h) (o:FnOk P w K mg base ZH k f fd ps sp) (b:Binds K fd ps []):Def P w K mg base k x ps sp:=⟨f,fd,o,b,g.F.kp,PySem.W.mg_of e.X e.G g.a⟩
theorem FGC.df (g:FGC K x st f fd c Pl) (e:Bs P w K mg base h) (o:FnOk P w K mg base ZH k f fd ps sp) (b:Binds K fd ps []):Def P w K mg base k x ps sp:=⟨f,fd,o,b,g.F.kp,PySem.W.mg_of e.X e.G g.a⟩
theorem FM.df (g:FM K C x q st f fd) (_:Bs P w K mg base h) (o:FnOk P w K mg base ZH k f fd ps sp) (b:Binds K fd ps []):DefM P w K mg base k C x ps sp:=⟨f,fd,o,b,g.m⟩
theorem FM.di {y:Str} (g:FM K C "__init__" q st f fd) (ch:CH K y C) (e:Bs P w K mg base h) (o:FnOk P w K mg base ZH k f fd ps sp) (b:Binds K fd ps []):ZeJ P w K mg base k C y ps sp:=⟨f,fd,o,b,⟨ch.ms,g.m.at_,g.m.fn,ch.kp⟩,PySem.W.mg_of e.X e.G ch.a⟩
abbrev BA (x q:Str) (st:Stmt) (us:List Value) (r:List (Str×Value)):Prop:=∀ (kV doc pm:Value) (an:Option Addr) (cdv ct:Value),bindArgs (PySem.W.fnOf x q (Vu st) (XI st) (Zl st) .none kV doc pm an cdv ct) ⟨us,[]⟩=pure r
theorem Fun.b1 (F:Fun K x q st f fd) (h:∀ u,BA x q st [u] [(p1,u)]):Binds K fd [p1] []:=F.binds fun a b c d e g us hl=>match us,hl with | [u],_=>h u a b c d e g
theorem Fun.b2 (F:Fun K x q st f fd) (h:∀ u v,BA x q st [u,v] [(p1,u),(p2,v)]):Binds K fd [p1,p2] []:=F.binds fun a b c d e g us hl=>match us,hl with | [u,v],_=>h u v a b c d e g
theorem Fun.b3 (F:Fun K x q st f fd) (h:∀ u v y,BA x q st [u,v,y] [(p1,u),(p2,v),(p3,y)]):Binds K fd [p1,p2,p3] []:=F.binds fun a b c d e g us hl=>match us,hl with | [u,v,y],_=>h u v y a b c d e g
theorem Fun.b4 (F:Fun K x q st f fd) (h:∀ u v y z,BA x q st [u,v,y,z] [(p1,u),(p2,v),(p3,y),(p4,z)]):Binds K fd [p1,p2,p3,p4] []:=F.binds fun a b c d e g us hl=>match us,hl with | [u,v,y,z],_=>h u v y z a b c d e g
theorem Fun.b5 (F:Fun K x q st f fd) (h:∀ u v y z z',BA x q st [u,v,y,z,z'] [(p1,u),(p2,v),(p3,y),(p4,z),(p5,z')]):Binds K fd [p1,p2,p3,p4,p5] []:=F.binds fun a b c d e g us hl=>match us,hl with | [u,v,y,z,z'],_=>h u v y z z' a b c d e g
theorem ZfE (F:Fun K x q st f fd) (h:∀ u,BA x q st [u] [(p1,u)]) (s:Shared) (v:Value):BindsTo s fd ⟨[v],[]⟩ [(p1,v)]:=by
 obtain ⟨oc,od,kV,doc,pm,an,cdv,ct,osl,rfl,lk,hcd⟩:=F.ex
 exact .of_eq (h v kV doc pm an cdv ct)
end
end L2
set_option maxHeartbeats 4000000
namespace K20
open PySem L2
open PySem.W in
theorem all_mk {l:PySem.W.OpenLaw} {w:World} {K:PySem.W.Frag} {h:Heap} {mg:Str→Option Value} {fa:Addr}
   {f_z0 f_z1 f_z2 f_z3 f_z4 f_z5 f_z6 f_z7 f_z8 f_z9 f_z10 f_z11 f_z12 f_z13 f_z14 f_z15 f_z16 f_z17 f_z18 f_z19 f_z20 f_z21 f_z22 f_z23 f_z24 f_z25 f_z26 f_z27 f_z28 f_z29 f_z30 f_z31 f_z32 f_z33 f_z34 f_z35 f_z36 f_z37 f_z38 f_z39 f_z40 f_z41 f_z42 f_z43 f_z44 f_z45 f_z46 C_Store C_Roads ca_z3 P_z3:Addr} {d_z0 d_z1 d_z2 d_z3 d_z4 d_z5 d_z6 d_z7 d_z8 d_z9 d_z10 d_z11 d_z12 d_z13 d_z14 d_z15 d_z16 d_z17 d_z18 d_z19 d_z20 d_z21 d_z22 d_z23 d_z24 d_z25 d_z26 d_z27 d_z28 d_z29 d_z30 d_z31 d_z32 d_z33 d_z34 d_z35 d_z36 d_z37 d_z38 d_z39 d_z40 d_z41 d_z42 d_z43 d_z44 d_z45 d_z46:FuncData} (X:K.In h) (G:h.Ns mainGlobals mg) (hfa:mg "law"=some (.ref fa))
   (ch_Store:CH K "Store" C_Store)
   (na_Store_nodes:PySem.W.findIn K (.ref C_Store) "nodes"=some none)
   (na_Store_tables:PySem.W.findIn K (.ref C_Store) "tables"=some none)
   (ch_Roads:CH K "Roads" C_Roads)
   (na_Roads_kept:PySem.W.findIn K (.ref C_Roads) "kept"=some none)
   (na_Roads_aheads:PySem.W.findIn K (.ref C_Roads) "aheads"=some none)
   (na_Roads_steps:PySem.W.findIn K (.ref C_Roads) "steps"=some none)
   (na_Roads_tables:PySem.W.findIn K (.ref C_Roads) "tables"=some none)
   (na_Roads_costs:PySem.W.findIn K (.ref C_Roads) "costs"=some none)
   (h_z0:FG K "alike" s_alike f_z0 d_z0)
   (h_z1:FG K "mark" s_mark f_z1 d_z1)
   (h_z2:FG K "digit" s_digit f_z2 d_z2)
   (h_z3:FGC K "leaf_of" s_leaf_of f_z3 d_z3 ca_z3 P_z3)
   (h_z4:FG K "fork_of" s_fork_of f_z4 d_z4)
   (h_z5:FG K "parts_in" s_parts_in f_z5 d_z5)
   (h_z6:FG K "pairs_in" s_pairs_in f_z6 d_z6)
   (h_z7:FG K "has_mark" s_has_mark f_z7 d_z7)
   (h_z8:FM K C_Store "__init__" "Store.__init__" c_Store___init__ f_z8 d_z8)
   (h_z9:FM K C_Store "empty" "Store.empty" c_Store_empty f_z9 d_z9)
   (h_z10:FM K C_Store "check_table" "Store.check_table" c_Store_check_table f_z10 d_z10)
   (h_z11:FM K C_Store "keep" "Store.keep" c_Store_keep f_z11 d_z11)
   (h_z12:FM K C_Store "as_table" "Store.as_table" c_Store_as_table f_z12 d_z12)
   (h_z13:FM K C_Store "way" "Store.way" c_Store_way f_z13 d_z13)
   (h_z14:FM K C_Store "looked" "Store.looked" c_Store_looked f_z14 d_z14)
   (h_z15:FM K C_Store "fork_parts" "Store.fork_parts" c_Store_fork_parts f_z15 d_z15)
   (h_z16:FM K C_Store "put_in" "Store.put_in" c_Store_put_in f_z16 d_z16)
   (h_z17:FM K C_Store "put" "Store.put" c_Store_put f_z17 d_z17)
   (h_z18:FM K C_Store "taken_from" "Store.taken_from" c_Store_taken_from f_z18 d_z18)
   (h_z19:FM K C_Store "without" "Store.without" c_Store_without f_z19 d_z19)
   (h_z20:FM K C_Store "made" "Store.made" c_Store_made f_z20 d_z20)
   (h_z21:FM K C_Roads "check_place" "Roads.check_place" c_Roads_check_place f_z21 d_z21)
   (h_z22:FM K C_Roads "table" "Roads.table" c_Roads_table f_z22 d_z22)
   (h_z23:FM K C_Roads "store" "Roads.store" c_Roads_store f_z23 d_z23)
   (h_z24:FM K C_Roads "cost" "Roads.cost" c_Roads_cost f_z24 d_z24)
   (h_z25:FM K C_Roads "go_on" "Roads.go_on" c_Roads_go_on f_z25 d_z25)
   (h_z26:FM K C_Roads "put" "Roads.put" c_Roads_put f_z26 d_z26)
   (h_z27:FM K C_Roads "clear" "Roads.clear" c_Roads_clear f_z27 d_z27)
   (h_z28:FM K C_Roads "__init__" "Roads.__init__" c_Roads___init__ f_z28 d_z28)
   (h_z29:FG K "_law_cell_at" s_l_cell_at f_z29 d_z29)
   (h_z30:FG K "_law_box" s_l_box f_z30 d_z30)
   (h_z31:FG K "_law_take" s_l_take f_z31 d_z31)
   (h_z32:FG K "_law_names" s_l_names f_z32 d_z32)
   (h_z33:FG K "_law_value" s_l_value f_z33 d_z33)
   (h_z34:FG K "_law_pool" s_l_pool f_z34 d_z34)
   (h_z35:FG K "_law_values" s_l_values f_z35 d_z35)
   (h_z36:FG K "_law_step" s_l_step f_z36 d_z36)
   (h_z37:FG K "_law_from" s_l_from f_z37 d_z37)
   (h_z38:FG K "_law_grown" s_l_grown f_z38 d_z38)
   (h_z39:FG K "_law_road" s_l_road f_z39 d_z39)
   (h_z40:FG K "_law_all" s_l_all f_z40 d_z40)
   (h_z41:FG K "_law_alike" s_l_alike f_z41 d_z41)
   (h_z42:FG K "_law_mark" s_l_mark f_z42 d_z42)
   (h_z43:FG K "_law_way" s_l_way f_z43 d_z43)
   (h_z44:FG K "_law_cost" s_l_cost f_z44 d_z44)
   (h_z45:FG K "_law_right" s_l_right f_z45 d_z45)
   (h_z46:FG K "law" s_law f_z46 d_z46)
   (z_len:PySem.W.nsIn K mainGlobals "len"=some none)
   (z_abs:PySem.W.nsIn K mainGlobals "abs"=some none)
   (z_int:PySem.W.nsIn K mainGlobals "int"=some none)
   (z_range:PySem.W.nsIn K mainGlobals "range"=some none)
   (z_min:PySem.W.nsIn K mainGlobals "min"=some none)
   (z_max:PySem.W.nsIn K mainGlobals "max"=some none)
   (z_repr:PySem.W.nsIn K mainGlobals "repr"=some none)
   (z_enumerate:PySem.W.nsIn K mainGlobals "enumerate"=some none)
   (z_ord:PySem.W.nsIn K mainGlobals "ord"=some none)
   (z_list:PySem.W.nsIn K mainGlobals "list"=some none)
   (z_tuple:PySem.W.nsIn K mainGlobals "tuple"=some none)
   (z_dict:PySem.W.nsIn K mainGlobals "dict"=some none)
   (z_sorted:PySem.W.nsIn K mainGlobals "sorted"=some none)
   (z_sum:PySem.W.nsIn K mainGlobals "sum"=some none)
   (z_all:PySem.W.nsIn K mainGlobals "all"=some none)
   (z_any:PySem.W.nsIn K mainGlobals "any"=some none)
   (z_divmod:PySem.W.nsIn K mainGlobals "divmod"=some none)
   (z_str:PySem.W.nsIn K mainGlobals "str"=some none)
   (z_isinstance:PySem.W.nsIn K mainGlobals "isinstance"=some none)
   (z_set:PySem.W.nsIn K mainGlobals "set"=some none)
   (z_zip:PySem.W.nsIn K mainGlobals "zip"=some none)
   (z_reversed:PySem.W.nsIn K mainGlobals "reversed"=some none)
   (z_bool:PySem.W.nsIn K mainGlobals "bool"=some none)
   {tb:Tok}
   (gBASE:PySem.W.nsIn K mainGlobals "BASE"=some (some (.int 4 tb)))
   {tz:Tok}
   (gZERO:PySem.W.nsIn K mainGlobals "BARE_NUMBER"=some (some (.int 0 tz)))
   {ab:Addr}
   (gBARE:PySem.W.nsIn K mainGlobals "BARE"=some (some (.ref ab)))
   (tBARE:ZbY K ab [.str "bare"]=true)
   {af:Addr}
   (gFIG:PySem.W.nsIn K mainGlobals "FIGURES"=some (some (.ref af)))
   (tFIG:ZbY K af [.int 0,.int 1,.int 2,.int 3]=true) :
   ∃ fd:FuncData,(∀ (s:Shared) (v:Value),BindsTo s fd ⟨[v],[]⟩ [("_law_script",v)])∧∀ base:Heap,K.In base→base.Ns mainGlobals mg→UM base mg→FnOk l.prog w K mg base ZH 14 fa fd ["_law_script"] (ZbT K P_z3):=by
 have e:=hfa.symm.trans (mg_of X G h_z46.a)
 cases e
 have n_len:=mg_none_of X G z_len
 have n_abs:=mg_none_of X G z_abs
 have n_int:=mg_none_of X G z_int
 have n_range:=mg_none_of X G z_range
 have n_min:=mg_none_of X G z_min
 have n_max:=mg_none_of X G z_max
 have n_repr:=mg_none_of X G z_repr
 have n_enumerate:=mg_none_of X G z_enumerate
 have n_ord:=mg_none_of X G z_ord
 have n_list:=mg_none_of X G z_list
 have n_tuple:=mg_none_of X G z_tuple
 have n_dict:=mg_none_of X G z_dict
 have n_sorted:=mg_none_of X G z_sorted
 have n_sum:=mg_none_of X G z_sum
 have n_all:=mg_none_of X G z_all
 have n_any:=mg_none_of X G z_any
 have n_divmod:=mg_none_of X G z_divmod
 have n_str:=mg_none_of X G z_str
 have n_isinstance:=mg_none_of X G z_isinstance
 have n_set:=mg_none_of X G z_set
 have n_zip:=mg_none_of X G z_zip
 have n_reversed:=mg_none_of X G z_reversed
 have n_bool:=mg_none_of X G z_bool
 have g_gBASE:=mg_of X G gBASE
 have g_gZERO:=mg_of X G gZERO
 have g_gBARE:=mg_of X G gBARE
 have g_gFIG:=mg_of X G gFIG
 have cl_Store:=ch_Store.c
 have cl_Roads:=ch_Roads.c
 have TB:YB mg:=⟨n_len,n_abs,n_int,n_range,n_min,n_max,n_repr,n_enumerate,n_ord,n_list,n_tuple,n_dict,n_sorted,n_sum,n_all,n_any,n_divmod,n_str,n_isinstance,n_set,n_zip,n_reversed,n_bool⟩
 have T:Txt K mg:=⟨TB,⟨_,g_gBASE⟩,⟨_,g_gZERO⟩,⟨_,g_gBARE,Zcm tBARE⟩,⟨_,g_gFIG,Zcm tFIG⟩⟩
 have TC:Xm K C_Store:=⟨cl_Store,na_Store_nodes,na_Store_tables⟩
 have TR:WI K C_Roads:=⟨cl_Roads,na_Roads_kept,na_Roads_aheads,na_Roads_steps,na_Roads_tables,na_Roads_costs⟩
 refine ⟨d_z46,fun s v=>ZfE h_z46.F (fun _ _ _ _ _ _ _=>rfl) s v,fun base _ _ hBm=>?_⟩
 have e:Bs l.prog w K mg base h:=⟨X,G⟩
 have D_z0:=h_z0.df e (Zij h_z0.F) (h_z0.F.b2 fun _ _ _ _ _ _ _ _=>rfl)
 have D_z1:=h_z1.df e (Zke h_z1.F T) (h_z1.F.b1 fun _ _ _ _ _ _ _=>rfl)
 have D_z2:=h_z2.df e (Zif h_z2.F T) (h_z2.F.b2 fun _ _ _ _ _ _ _ _=>rfl)
 have D_z3:=h_z3.df e (ZjK h_z3.F T hBm D_z1) (h_z3.F.fn.b1 fun _ _ _ _ _ _ _=>rfl)
 have D_z4:=h_z4.df e (ZfM h_z4.F T) (h_z4.F.b1 fun _ _ _ _ _ _ _=>rfl)
 have D_z5:=h_z5.df e (ZhN h_z5.F) (h_z5.F.b1 fun _ _ _ _ _ _ _=>rfl)
 have D_z6:=h_z6.df e (Zhb h_z6.F) (h_z6.F.b1 fun _ _ _ _ _ _ _=>rfl)
 have D_z7:=h_z7.df e (Zkh h_z7.F) (h_z7.F.b2 fun _ _ _ _ _ _ _ _=>rfl)
 have D_z8:=h_z8.di ch_Store e (FnOk.conv (sp':=Zbi K C_Store) (ZjB h_z8.F T TC) (fun _ _ _ _ h=>Zku h)) (h_z8.F.b1 fun _ _ _ _ _ _ _=>rfl)
 have D_z9:=h_z9.df e (Zhg (C:=C_Store) h_z9.F T) (h_z9.F.b1 fun _ _ _ _ _ _ _=>rfl)
 have D_z10:=h_z10.df e (ZgX h_z10.F TC) (h_z10.F.b2 fun _ _ _ _ _ _ _ _=>rfl)
 have D_z11:=h_z11.df e (Zjv h_z11.F T TC) (h_z11.F.b2 fun _ _ _ _ _ _ _ _=>rfl)
 have D_z12:=h_z12.df e (Zls h_z12.F TC) (h_z12.F.b2 fun _ _ _ _ _ _ _ _=>rfl)
 have D_z13:=h_z13.df e (Zlb h_z13.F T TC D_z10 D_z5 D_z1 D_z2) (h_z13.F.b3 fun _ _ _ _ _ _ _ _ _=>rfl)
 have D_z14:=h_z14.df e (Zgi h_z14.F T TC D_z13 D_z6) (h_z14.F.b3 fun _ _ _ _ _ _ _ _ _=>rfl)
 have D_z15:=h_z15.df e (Zmg h_z15.F T TC D_z5 D_z6 D_z1 D_z2) (h_z15.F.b3 fun _ _ _ _ _ _ _ _ _=>rfl)
 have b_z16:Binds K d_z16 ["self","number","level","name","value"] []:=h_z16.F.b5 fun _ _ _ _ _ _ _ _ _ _ _=>rfl
 have D_z16:∀ NS,Ym NS→DefM l.prog w K mg base 8 C_Store "put_in" nPi (Vg K C_Store P_z3 NS 6):=fun NS N=>⟨_,_,ZdZ N h_z16.F T TC D_z7 D_z6 D_z1 D_z2 D_z3 D_z4 D_z11 D_z15 b_z16 h_z16.m 6,b_z16,h_z16.m⟩
 have b_z17:Binds K d_z17 ["self","table","name","value"] []:=h_z17.F.b4 fun _ _ _ _ _ _ _ _ _ _=>rfl
 have D_z17:DefM l.prog w K mg base 9 C_Store "put" ["self","table","name","value"] (ZcO K C_Store P_z3):=⟨_,_,Zmv fun NS N=>Zkw N h_z17.F TC D_z0 D_z14 D_z12 (D_z16 NS N),b_z17,h_z17.m⟩
 have b_z18:Binds K d_z18 ["self","number","level","name"] []:=h_z18.F.b4 fun _ _ _ _ _ _ _ _ _ _=>rfl
 have D_z18:∀ NS,Ym NS→DefM l.prog w K mg base 8 C_Store "taken_from" nTk (ZaM K C_Store P_z3 NS 6):=fun NS N=>⟨_,_,ZdX N h_z18.F T TC D_z7 D_z5 D_z6 D_z1 D_z2 D_z3 D_z4 D_z11 b_z18 h_z18.m 6,b_z18,h_z18.m⟩
 have b_z19:Binds K d_z19 ["self","table","name"] []:=h_z19.F.b3 fun _ _ _ _ _ _ _ _ _=>rfl
 have D_z19:DefM l.prog w K mg base 9 C_Store "without" ["self","table","name"] (Zfs K C_Store P_z3):=⟨_,_,wo_S fun NS N=>Zmi N h_z19.F TC D_z14 D_z12 (D_z18 NS N),b_z19,h_z19.m⟩
 have D_z20:=h_z20.df e (Zkq h_z20.F T TC) (h_z20.F.b1 fun _ _ _ _ _ _ _=>rfl)
 have D_z21:=h_z21.df e (Zjw (CS:=C_Store) h_z21.F TB TR) (h_z21.F.b2 fun _ _ _ _ _ _ _ _=>rfl)
 have D_z22:=h_z22.df e (Zib h_z22.F TB TR D_z21) (h_z22.F.b2 fun _ _ _ _ _ _ _ _=>rfl)
 have D_z23:=h_z23.df e (Zks h_z23.F TB TR) (h_z23.F.b1 fun _ _ _ _ _ _ _=>rfl)
 have D_z24:=h_z24.df e (ZjY h_z24.F TB TR D_z21) (h_z24.F.b2 fun _ _ _ _ _ _ _ _=>rfl)
 have D_z25:=h_z25.df e (ZjL h_z25.F TB TR TC (D_z22.mono (by decide)) (D_z20.mono (by decide)) D_z17 D_z19) (h_z25.F.b3 fun _ _ _ _ _ _ _ _ _=>rfl)
 have D_z26:=h_z26.df e (ZjZ h_z26.F TB TR D_z25) (h_z26.F.b4 fun _ _ _ _ _ _ _ _ _ _=>rfl)
 have D_z27:=h_z27.df e (ZjJ h_z27.F TB TR D_z25) (h_z27.F.b3 fun _ _ _ _ _ _ _ _ _=>rfl)
 have D_z28:=h_z28.di ch_Roads e ((Zii h_z28.F TB TR TC D_z8 (D_z9.mono (by decide))).mono (show 3≤11 by decide)) (h_z28.F.b1 fun _ _ _ _ _ _ _=>rfl)
 have D_z29:=h_z29.df e (Zjz h_z29.F TB) (h_z29.F.b2 fun _ _ _ _ _ _ _ _=>rfl)
 have D_z30:=h_z30.df e (FnOk.conv (sp':=Zde K) (ZlB h_z30.F TB D_z29) (fun _ _ _ _ h=>ZlZ h)) (h_z30.F.b2 fun _ _ _ _ _ _ _ _=>rfl)
 have b_z31:Binds K d_z31 ["_law_box_here","_law_many"] []:=h_z31.F.b2 fun _ _ _ _ _ _ _ _=>rfl
 have DT0:Zjg l.prog w K mg base:=⟨_,_,Zjn h_z31.F,b_z31,h_z31.F.kp,(mg_of X G h_z31.a)⟩
 have D_z31:DTk l.prog w K mg base 1:=DT0.conv fun _ _ _ _ h=>ZkF h
 have D_z32:=h_z32.df e (ZhL h_z32.F TB D_z31) (h_z32.F.b2 fun _ _ _ _ _ _ _ _=>rfl)
 have D_z33:=h_z33.df e (FnOk.conv (sp':=VF) (ZhE h_z33.F T DT0) (fun _ _ _ _ h=>ZjT h)) (h_z33.F.b1 fun _ _ _ _ _ _ _=>rfl)
 have D_z34:=h_z34.df e (Zjr h_z34.F TB D_z31 D_z32) (h_z34.F.b2 fun _ _ _ _ _ _ _ _=>rfl)
 have D_z35:=h_z35.df e (ZfY h_z35.F TB D_z33) (h_z35.F.b1 fun _ _ _ _ _ _ _=>rfl)
 have D_z36:=h_z36.df e (Zjm h_z36.F TB D_z31) (h_z36.F.b3 fun _ _ _ _ _ _ _ _ _=>rfl)
 have D_z37:=h_z37.df e (ZjG h_z37.F TB D_z31) (h_z37.F.b2 fun _ _ _ _ _ _ _ _=>rfl)
 have D_z38:=h_z38.df e (ZhD h_z38.F TB TR D_z26 D_z27) (h_z38.F.b4 fun _ _ _ _ _ _ _ _ _ _=>rfl)
 have D_z39:=h_z39.df e (ZhH h_z39.F TB) (h_z39.F.b2 fun _ _ _ _ _ _ _ _=>rfl)
 have D_z40:=h_z40.df e (Zkx h_z40.F TB (D_z39.mono (by decide))) (h_z40.F.b2 fun _ _ _ _ _ _ _ _=>rfl)
 have b_z41:Binds K d_z41 ["_law_one","_law_other"] []:=h_z41.F.b2 fun _ _ _ _ _ _ _ _=>rfl
 have D_law_alike2:Def l.prog w K mg base 1 "_law_alike" ZbU Zfp:=⟨_,_,ZeN h_z41.F TB,b_z41,h_z41.F.kp,(mg_of X G h_z41.a)⟩
 have D_z42:=h_z42.df e (ZlE h_z42.F TB) (h_z42.F.b1 fun _ _ _ _ _ _ _=>rfl)
 have D_z43:=h_z43.df e (ZjD h_z43.F TB D_z42) (h_z43.F.b2 fun _ _ _ _ _ _ _ _=>rfl)
 have D_z44:=h_z44.df e (ZhP h_z44.F TB D_z40 (D_law_alike2.mono (by decide)) (D_z43.mono (by decide))) (h_z44.F.b2 fun _ _ _ _ _ _ _ _=>rfl)
 have D_z45:=h_z45.df e (Zht h_z45.F TB TR TC D_z31 (D_z34.mono (by decide)) (D_z35.mono (by decide)) D_z28 (D_z37.mono (by decide)) (D_z36.mono (by decide)) D_z38 (D_z44.mono (by decide)) (D_z24.mono (by decide)) (D_z23.mono (by decide)) (D_z20.mono (by decide))) (h_z45.F.b1 fun _ _ _ _ _ _ _=>rfl)
 exact Zlg h_z46.F TB (D_z30.mono (by decide)) D_z45
theorem walk {l:PySem.W.OpenLaw} {q:Program} {loose:List Str} {XP:(Str→Option Value)→Heap→Prop} {YP:World→Heap→Prop} {d:DefRec} {K:Params→PySem.W.Frag} {ts:List Addr} {P_z3:Addr} (hn:l.most=some 63) (hdf:d.params.defaults=[])
   (hY:∀ (w:World) (h:Heap),YP w h→(K w.params).In h∧∀ b∈ts,h.get? b=some (PySem.W.tabObj #[]))
   (hK:∀ (w:World) (b:Addr),b∈ts→(K w.params).lookup b=none∧∃ c,PySem.W.codeHdIn (K w.params) c b=true)
   (hP_leaf_of:P_z3∈ts) (F:∀ (w:World) (mg:Str→Option Value) (fa:Addr) (h:Heap),(K w.params).In h→h.Ns mainGlobals mg→mg d.name=some (.ref fa) →
     ∃ fd:FuncData,(∀ (s:Shared) (u:Value),BindsTo s fd ⟨[u],[]⟩ [("_law_script",u)])∧∀ base:Heap,(K w.params).In base→base.Ns mainGlobals mg→UM base mg→FnOk l.prog w (K w.params) mg base ZH 14 fa fd ["_law_script"] (ZbT (K w.params) P_z3)) :
   PySem.W.WalkO q loose XP YP l.row.toRowW d [] (fun f vs=>PySem.call f vs) :=
 L2.walk_ofT (n:=63) (k:=14) (x:="_law_script") (CX:=fun _=>ZH) (sp:=fun w=>ZbT (K w.params) P_z3) (ts:=ts) hn (by decide) hdf ⟨rfl,by decide,by decide,rfl⟩ hY hK F (fun w H a ns hl hO hS hT=>⟨a,ns,rfl,hS,hl,.inl (hT _ hP_leaf_of),fun _=>rfl⟩) fun _ _ _ _ _ z=>z
end K20
namespace PySem.W.Fast
def tw3084151583669791888 := 0
def tw1443195522196655681 := 0
def tw14070090681284076513 := 0
def tw9101228942734492273 := 0
def tw8523506560539004775 := 0
def tw11566813471780328618 := 0
def tw16959929816590245866 := 0
def tw10233193522906058684 := 0
def tw10359843606810535116 := 0
def tw644880225863320085 := 0
def tw9073600491757697818 := 0
def tw11034452751088068803 := 0
def tw11830671226404333261 := 0
def tw11798660488131162140 := 0
def tw18097917908937523966 := 0
def tw5581721351212852658 := 0
def tw6068784860690399942 := 0
def tw1073826898599904920 := 0
def tw11471518168448097268 := 0
def tw14117459385531662602 := 0
def tw17236737846116849496 := 0
def tw14066471007808011583 := 0
def tw718257752317868196 := 0
def tw225904007382296934 := 0
def tw13310961886349009277 := 0
def tw10593906015181147692 := 0
def tw9826348615100781382 := 0
def tw446469860511304118 := 0
def tw3343621171480511653 := 0
def tw11135319904847477856 := 0
def tw5449184381932662576 := 0
def tw15139701267879718666 := 0
def tw17486673917820043913 := 0
def tw12908799929311943704 := 0
def tw283613628988299620 := 0
def tw12457548771197614124 := 0
def tw14030450492417506707 := 0
def tw7069220778034642236 := 0
def tw8035358220130658159 := 0
def tw16148993146491421543 := 0
def tw6075283957070483120 := 0
def tw8899252766593124290 := 0
def tw13322297278578987153 := 0
def tw15592191266925713570 := 0
def tw12801962479474206286 := 0
def tw12536871498645972831 := 0
def tw10827774920284603789 := 0
def tw8440305002253620055 := 0
def tw925547350864093645 := 0
def tw1108470346340860791 := 0
def tw3148303916235758060 := 0
def tw14981783895430746274 := 0
def tw425709261183251741 := 0
def tw9717091023072182978 := 0
def tw8475611273980751352 := 0
def tw14568398787252074031 := 0
def tw16799142852878142490 := 0
def tw15285391474369346515 := 0
def tw7171233350797407663 := 0
def tw12435316539174502348 := 0
def tw5525012684560235166 := 0
def tw17194825485635367541 := 0
def tw10222649959826936452 := 0
def tw4760874697262158329 := 0
def tw15106464441801900899 := 0
def tw6870756481855495170 := 0
def tw14175153916727649996 := 0
def tw6673223467896156426 := 0
def tw8744952058883426762 := 0
def tw6704765775649050549 := 0
def tw17079521100507385429 := 0
def tw8633767807202104491 := 0
def tw13272125321047305864 := 0
def tw5761108662931051950 := 0
def tw9405569858239050514 := 0
def tw1087622849571475924 := 0
def tw11340282288643705111 := 0
def tw12487879808889129695 := 0
def tw7861761860104109698 := 0
def tw8934020715580851540 := 0
def tw14021993767795836193 := 0
def tw3839850862858259948 := 0
def tw4214316463549621396 := 0
def tw622439726237415301 := 0
def tw14558093443085905134 := 0
def tw11054638241031255920 := 0
def tw16959296061790807468 := 0
def tw1631396282414137096 := 0
def tw529095959188595103 := 0
def tw16657758900627826838 := 0
def tw7097213595268523692 := 0
def tw10917138102236147244 := 0
def tw6159985281363838670 := 0
def tw4685302297769918687 := 0
def tw8431505251089828455 := 0
def tw11766926174111716064 := 0
def tw8759558316388607264 := 0
def tw12640155751050230474 := 0
def tw18138484960354113088 := 0
def tw16878397796955379941 := 0
def tw15973314141158432215 := 0
def tw7871995476495695879 := 0
def tw11917143832341325902 := 0
def tw3770062863928997532 := 0
def tw16583423318822214783 := 0
def tw16402813847976208499 := 0
def tw10137336159746308683 := 0
def tw13417758576911048159 := 0
def tw6770231143779157319 := 0
def tw670394500773636774 := 0
def tw13859968952376554483 := 0
def tw15953432377405557025 := 0
def tw9884107087875448702 := 0
def tw14707567165473245053 := 0
def tw13177613603651047748 := 0
def tw10486124834913126849 := 0
def tw17955652054294196810 := 0
def tw4733912437144252007 := 0
def tw3958865667724886746 := 0
def tw9251186963630861652 := 0
def tw14028846990213392180 := 0
def tw15260556450745289736 := 0
def tw5587280539266876813 := 0
def tw13493164061266668726 := 0
def tw12365558590681753244 := 0
def tw806482386807731401 := 0
def tw2709804749178475930 := 0
def tw12011593317669051035 := 0
def tw8543995186250704993 := 0
def tw1880806286555618730 := 0
def tw16639249361960621860 := 0
def tw11931042278007274353 := 0
def tw18422547557551448167 := 0
def tw16434551927528421464 := 0
def tw4008158655953678400 := 0
def tw3845147975671110243 := 0
def tw13241840617699558609 := 0
def tw13529398183227940521 := 0
def tw1198911243705060289 := 0
def tw12886249296140033401 := 0
def tw4153899490429639620 := 0
def tw8957956732788889670 := 0
def tw13045333766429157646 := 0
def tw13078696298259803569 := 0
def tw11571293527110583748 := 0
def tw17805249602872483011 := 0
def tw738241476729866182 := 0
def tw2444858803373894366 := 0
def tw13778773017084922626 := 0
def tw8908660632482817989 := 0
def tw3058561979786707921 := 0
def tw8968633465175579936 := 0
def tw8851827255432369213 := 0
def tw5677212877686812105 := 0
def tw12058850069373506806 := 0
def tw9120018122967606916 := 0
def tw5869807823708328403 := 0
def tw130265846464349506 := 0
def tw12179161814749772211 := 0
def tw2827475905305700224 := 0
def tw14006377763150789763 := 0
def tw1605736375148380653 := 0
def tw5634398806063187299 := 0
def tw12738911248424476364 := 0
def tw15035886188129303779 := 0
def tw11017857019664834724 := 0
def tw2935468797289536910 := 0
def tw8459294754827505545 := 0
def tw6893172807425810342 := 0
def tw12435696346864772023 := 0
def tw15871783298074776024 := 0
def tw10533796602639983986 := 0
def tw774477261222078814 := 0
def tw4721632272445749433 := 0
def tw12263475078068179428 := 0
def tw10089039826516881536 := 0
def tw3281049044399594892 := 0
def tw8236007536986814453 := 0
def tw1152694096542098478 := 0
def tw15792616077000642351 := 0
def tw12368964882820386274 := 0
def tw12219683402864747985 := 0
def tw14439247360022189399 := 0
def tw13842465184884944528 := 0
def tw212271568497942940 := 0
def tw2894718322989063233 := 0
def tw14014887430143303429 := 0
def tw5178907354287983523 := 0
def tw419917098429447395 := 0
def tw16635229363664275268 := 0
def tw5013989463258589713 := 0
def tw15043714859403460895 := 0
def tw4698621158047600600 := 0
def tw8970793585860444042 := 0
def tw7496110958546757730 := 0
def tw3456957795369928020 := 0
def tw8377539612167850865 := 0
def tw16288094554941664360 := 0
def tw11039065600118156384 := 0
def tw5143070875201606910 := 0
def tw16881635575865095079 := 0
def tw16119640711886218334 := 0
def tw13355900641635555161 := 0
def tw12302800128453987347 := 0
def tw10625747624989637845 := 0
def tw11829044561049351195 := 0
def tw10038649699732166388 := 0
def tw6386930296927906445 := 0
def tw4504358344594679433 := 0
def tw3787445669811366752 := 0
def tw3224337671735548269 := 0
def tw6036387910249719604 := 0
def tw12553852648699467326 := 0
def tw16598136435286808766 := 0
def tw12461550448382123273 := 0
def tw5944108370667567820 := 0
def tw6020678911969484982 := 0
def tw9563335663580429844 := 0
def tw736551243273589806 := 0
def tw5928590813231813231 := 0
def tw263775590653189637 := 0
def tw2527193325428021787 := 0
def tw1932029435739414481 := 0
def tw13035733105416451478 := 0
def tw10592285846965254357 := 0
def tw17860396374547748326 := 0
def tw1340936967141437058 := 0
def tw960949855841310021 := 0
def tw9325028213876037717 := 0
def tw8185105655070972813 := 0
def tw7973093040004171932 := 0
def tw7431895418588043473 := 0
def tw7282221437248767469 := 0
def tw6423837730681140647 := 0
def tw5766523986612316415 := 0
def tw4034316937738744035 := 0
def tw18426168325097636260 := 0
def tw18351473250731723736 := 0
def tw18317011123470249863 := 0
def tw16679941390330331692 := 0
def tw16260386788283859669 := 0
def tw16188058206722604425 := 0
def tw15520014612683359307 := 0
def tw15400462857796949114 := 0
def tw15187520531178251186 := 0
def tw14786268720798336938 := 0
def tw14366219420523473315 := 0
def tw14318165560711578596 := 0
def tw14114331663673338145 := 0
def tw12816461526652708539 := 0
def tw12674880704254125274 := 0
def tw11480704871928761259 := 0
def tw10816563410204755436 := 0
def tw10493086196466461274 := 0
def tw6075721174814270227 := 0
def tw9836479729702978370 := 0
def tw6778409178141748695 := 0
def tw4703031703400882043 := 0
def tw14040158855436142223 := 0
def tw7843770725912675382 := 0
def tw2217688330461503971 := 0
def tw13356769240449359158 := 0
def tw12513682983687171347 := 0
def tw4493549406623012483 := 0
def tw9551152660803440015 := 0
def tw7653656783247989351 := 0
def tw7568495501641945716 := 0
def tw3927418087665593873 := 0
def tw1384496371606876891 := 0
def tw13725387039997969698 := 0
def tw13393432146207412158 := 0
def tw10298797442630677460 := 0
def tw11149163487265932595 := 0
def tw7309493239370187230 := 0
def tw13566348857052857309 := 0
def tw9559508868967483933 := 0
def tw8679288747772742357 := 0
def tw8635146504203538989 := 0
def tw8120146443667822182 := 0
def tw7874384440041211239 := 0
def tw12227509240421651646 := 0
def tw10380032585659147852 := 0
def tw3263157492133484447 := 0
def tw11718890324229564761 := 0
def tw10599049615295506919 := 0
def tw9981032014277893549 := 0
def tw893894652189345866 := 0
def tw7308960170777320991 := 0
def tw700279109444165376 := 0
def tw6299104070121375399 := 0
def tw6001352529212524556 := 0
def tw5823953862206382840 := 0
def tw5801868731497309183 := 0
def tw4203710979146607733 := 0
def tw2530761704418246157 := 0
def tw2195020128084454553 := 0
def tw1831767845376313947 := 0
def tw18316025005173841363 := 0
def tw17960476836075463053 := 0
def tw16630672218657564157 := 0
def tw15443510130454156785 := 0
def tw15442876784764258109 := 0
def tw15254120659943517532 := 0
def tw15151467256343536196 := 0
def tw15111312981997831987 := 0
def tw14669970521309013841 := 0
def tw11553527834791161877 := 0
def tw10318651902976985302 := 0
def tw12141432634884317265 := 0
def tw5424875107947663964 := 0
def tw9637941764247774792 := 0
def tw2863397404779523026 := 0
def tw15547835024932794313 := 0
def tw12564448263463173111 := 0
def tw15297687320074202862 := 0
def tw12304408766052451004 := 0
def tw7690709665265936147 := 0
def tw623932984174930311 := 0
def tw428699356092802869 := 0
def tw3718261383472304342 := 0
def tw2737108252813325049 := 0
def tw16996585709383859933 := 0
def tw14813677493997882796 := 0
def tw14704340466564158909 := 0
def tw14227555550224085810 := 0
def tw14008014176525096093 := 0
def tw12970835240795313487 := 0
def tw12309474993686419313 := 0
def tw16008550465461372623 := 0
def tw16174169659890862054 := 0
def tw2559360833748007691 := 0
def tw13453998815745134155 := 0
def tw10206199444484080817 := 0
def tw14507667758704445505 := 0
def tw6619971673568227848 := 0
def tw16122331970185843644 := 0
def tw9228050663209387355 := 0
def tw8022381652124476024 := 0
def tw9771706671211861902 := 0
def tw8788538822852238445 := 0
def tw8709494468619514565 := 0
def tw8364898607618547224 := 0
def tw7444348078703214452 := 0
def tw7243676518427442356 := 0
def tw6626291119172714738 := 0
def tw6290325874236395772 := 0
def tw3890705410220811651 := 0
def tw3285151812474824239 := 0
def tw1886623205707394462 := 0
def tw17431669007028703504 := 0
def tw13218019092097804759 := 0
def tw12543694233500016595 := 0
def tw960039935485515822 := 0
def tw8999195938981350146 := 0
def tw5560547528380130987 := 0
def tw3403183837413618356 := 0
def tw1240032412164064276 := 0
def tw9614496968643818534 := 0
def tw7798187306142124258 := 0
def tw1166228238788998675 := 0
def tw5207512735843000344 := 0
def tw13738402841928134039 := 0
def tw9819843626893402070 := 0
def tw2617719664264020691 := 0
def tw2318222340195243653 := 0
def tw16157561061487746389 := 0
def tw15533988392055970040 := 0
def tw1309287260360103417 := 0
def tw1124101789161153444 := 0
def tw17424673952913427634 := 0
def tw8518386967898438572 := 0
def tw8164589511605308535 := 0
def tw7960548636093126948 := 0
def tw7737478906497274933 := 0
def tw6324077691074689397 := 0
def tw4873192339222930389 := 0
def tw4090894673497204534 := 0
def tw17871585048009462716 := 0
def tw16644612626694468414 := 0
def tw16573659527855813088 := 0
def tw15664175402390703926 := 0
def tw15088716537683858119 := 0
def tw14355407000029081906 := 0
def tw12653685473010046103 := 0
def tw12214105160528161297 := 0
def tw9986066265591642782 := 0
def tw9528619364761013316 := 0
def tw9294132065135379437 := 0
def tw7737552251396270706 := 0
def tw762475505128622527 := 0
def tw7321079277828271547 := 0
def tw723927198481061526 := 0
def tw6581796938137818996 := 0
def tw6507722887857459809 := 0
def tw5986191006989267605 := 0
def tw4832745030954805015 := 0
def tw4232234956999159170 := 0
def tw3801773594379550232 := 0
def tw3204707089928234117 := 0
def tw17907018229194188212 := 0
def tw17641238543690364771 := 0
def tw17336125664918832180 := 0
def tw16643931458748033288 := 0
def tw15667751249812385537 := 0
def tw15134003203918097088 := 0
def tw13478274260420732414 := 0
def tw13391605640739497969 := 0
def tw13074918663485012820 := 0
def tw11226638812600378807 := 0
def tw11183180030845265477 := 0
def tw9960741098366630187 := 0
def tw9954475007820550017 := 0
def tw9902448526750036428 := 0
def tw979135464345345573 := 0
def tw9782292028086604499 := 0
def tw9760277042159895704 := 0
def tw9726166893139530059 := 0
def tw9668424388563614491 := 0
def tw9661009423628491018 := 0
def tw9586682912685679876 := 0
def tw9402902054427670702 := 0
def tw9393487414396347986 := 0
def tw9184676777273867711 := 0
def tw9177680847177929388 := 0
def tw9159910047021646491 := 0
def tw9129993683245260337 := 0
def tw9015613494156566220 := 0
def tw9013725458802356829 := 0
def tw9001937369796301097 := 0
def tw9000242675054691380 := 0
def tw8721148300640713196 := 0
def tw8640119505132330607 := 0
def tw8626422437266581799 := 0
def tw8604241276420967282 := 0
def tw8516104629780012062 := 0
def tw846133732716436174 := 0
def tw8435666828708524967 := 0
def tw8404513124342029007 := 0
def tw834263028522412348 := 0
def tw8204204282458304648 := 0
def tw788057206204361302 := 0
def tw775649745724560462 := 0
def tw7695497917166748346 := 0
def tw7579101215033059434 := 0
def tw756638508371195084 := 0
def tw7566089959019807730 := 0
def tw7559914743224574525 := 0
def tw750839934809646635 := 0
def tw7490476363797615406 := 0
def tw7484328842559464754 := 0
def tw7389631885492420787 := 0
def tw7365641667804318263 := 0
def tw7166750103428369633 := 0
def tw7070542607115901286 := 0
def tw7018271475437922024 := 0
def tw6951011422758010921 := 0
def tw6920452068843570690 := 0
def tw6853929888604080636 := 0
def tw683636465874141027 := 0
def tw6832762268380809287 := 0
def tw6684356133163105822 := 0
def tw6645495291318102433 := 0
def tw6500112607292706160 := 0
def tw6417377898028515207 := 0
def tw6416472471398371920 := 0
def tw6329850709949439039 := 0
def tw6258843977282775801 := 0
def tw6173217668910120227 := 0
def tw604583956511610912 := 0
def tw6033310329433363591 := 0
def tw597418321696641733 := 0
def tw597306408653322445 := 0
def tw5972738551937441380 := 0
def tw5868280928738221620 := 0
def tw5643399611222681797 := 0
def tw5611937698307738033 := 0
def tw5525979133068699769 := 0
def tw5465929898429308584 := 0
def tw5452360896263660909 := 0
def tw5437906365968838576 := 0
def tw5428733987677375589 := 0
def tw5412424639867139711 := 0
def tw5294953590432556810 := 0
def tw527849031286496800 := 0
def tw5234198385271487605 := 0
def tw5200483689377490426 := 0
def tw51367184075116442 := 0
def tw5121410520304026482 := 0
def tw5105216293356280318 := 0
def tw5048351729407077282 := 0
def tw4996587133035351337 := 0
def tw4962170122846629441 := 0
def tw4939235803457313952 := 0
def tw49134577830581612 := 0
def tw474832963903728312 := 0
def tw4741019276162387300 := 0
def tw4608964086421179002 := 0
def tw4552172532638568956 := 0
def tw4544568429574645502 := 0
def tw4377001477110167578 := 0
def tw4376982870500167773 := 0
def tw435001059372360392 := 0
def tw4340172940833053560 := 0
def tw4336437250319905164 := 0
def tw412930440655807713 := 0
def tw410739240505020598 := 0
def tw3998185548389787899 := 0
def tw390889405462333112 := 0
def tw3872788261106393370 := 0
def tw3842212605118106997 := 0
def tw3836291422949718999 := 0
def tw37770794774590732 := 0
def tw3735112315052674898 := 0
def tw3682849929644891911 := 0
def tw3672252717021314753 := 0
def tw361487839127387163 := 0
def tw3557728104205694270 := 0
def tw3548841718773764207 := 0
def tw3343362369123938258 := 0
def tw3208579868507755962 := 0
def tw3161082982806777727 := 0
def tw3153559779058942362 := 0
def tw3123030312526108197 := 0
def tw3110588188727801809 := 0
def tw3108013632110302625 := 0
def tw2981441894706895237 := 0
def tw2956100496437655153 := 0
def tw2929795444975566462 := 0
def tw2857648234775722392 := 0
def tw2853594740952280945 := 0
def tw2757890184619159035 := 0
def tw2548054555479957073 := 0
def tw2471972881780335501 := 0
def tw2417784024871134500 := 0
def tw2160320783087208348 := 0
def tw2050838314883876000 := 0
def tw1998676525192619226 := 0
def tw197878620418231353 := 0
def tw185856001370564919 := 0
def tw18369206766927252829 := 0
def tw18357033607664221471 := 0
def tw18233027474109032498 := 0
def tw18172052357801627987 := 0
def tw18071266693598905233 := 0
def tw18027723080424382208 := 0
def tw17995027505471639775 := 0
def tw17907533626154337330 := 0
def tw17896761349547849549 := 0
def tw17823678183137550622 := 0
def tw177630185535192247 := 0
def tw17661081944892568839 := 0
def tw17606397516902766419 := 0
def tw17449894029370699020 := 0
def tw17420318392843076297 := 0
def tw17377452878489782938 := 0
def tw17368657746160109790 := 0
def tw17365987629353793145 := 0
def tw17364658341313588810 := 0
def tw17291551173914045071 := 0
def tw17056976367737333133 := 0
def tw17015160641232607775 := 0
def tw17005959132132956780 := 0
def tw16996918551433321669 := 0
def tw16925182854784506429 := 0
def tw16828741833547571032 := 0
def tw16826583352878798846 := 0
def tw16804690036388661293 := 0
def tw16722639126394158807 := 0
def tw16694549020590366039 := 0
def tw16686295706496734621 := 0
def tw16680417829390126570 := 0
def tw16496474607937036795 := 0
def tw16358941304948747619 := 0
def tw16254346683463774033 := 0
def tw16253755623011318121 := 0
def tw16209185034848053655 := 0
def tw16205836667426304700 := 0
def tw16180567797405336006 := 0
def tw16156299666208121659 := 0
def tw16126721703910385437 := 0
def tw16081644351155633566 := 0
def tw16017154570341141442 := 0
def tw1579403306450541931 := 0
def tw15710409133465388251 := 0
def tw15701452922828111443 := 0
def tw15682601786005067307 := 0
def tw15567411897066072139 := 0
def tw15429560001324905177 := 0
def tw15395602957571380488 := 0
def tw15123699427008031930 := 0
def tw15059875102926528370 := 0
def tw14930702564314905900 := 0
def tw14811820256831528419 := 0
def tw1460827855853380803 := 0
def tw14513082665228932877 := 0
def tw14441129713866383065 := 0
def tw14417963420013768433 := 0
def tw14326969705667092815 := 0
def tw14317683524650298305 := 0
def tw14206023719642799805 := 0
def tw14180611396973631005 := 0
def tw14174622628832613819 := 0
def tw14166294175001497315 := 0
def tw14067806756429318963 := 0
def tw13869979355228209708 := 0
def tw13795087590432302747 := 0
def tw13502446602626545761 := 0
def tw13455103532560451366 := 0
def tw13446310615201617975 := 0
def tw13408698339967858440 := 0
def tw13314495330521585715 := 0
def tw13296275632098661625 := 0
def tw13137715707662928280 := 0
def tw13090575129437458434 := 0
def tw12829590677027874389 := 0
def tw12814300734335044682 := 0
def tw12638501603480806356 := 0
def tw12593720933476061943 := 0
def tw12512756922985150373 := 0
def tw12437011233759129293 := 0
def tw12204120050024279758 := 0
def tw12115649401522665377 := 0
def tw11997204028212047809 := 0
def tw11814315032887678145 := 0
def tw11805308360196765906 := 0
def tw11787725965437769711 := 0
def tw11766965514662094860 := 0
def tw11709320296217961185 := 0
def tw11502202391416459325 := 0
def tw11482346887980110962 := 0
def tw11354847978808529785 := 0
def tw11324888424622655111 := 0
def tw11319439896503250992 := 0
def tw11155668519569303597 := 0
def tw11099425447056241017 := 0
def tw11089504025324299401 := 0
def tw11010138412218996710 := 0
def tw10969851192734491792 := 0
def tw10920772026184955093 := 0
def tw10861989461861276291 := 0
def tw10840798685928847155 := 0
def tw10817281046364189532 := 0
def tw10805197401237305848 := 0
def tw10786130514178777279 := 0
def tw10718749968665649869 := 0
def tw10696082482246316251 := 0
def tw10689474937568748907 := 0
def tw10629441803992449535 := 0
def tw10578747379309729570 := 0
def tw10294796557353247780 := 0
def tw10237451214113043874 := 0
def tw10233080296891198947 := 0
def tw10094599315852407291 := 0
def tw10045357369099796965 := 0
def tw10007833836866098836 := 0
end PySem.W.Fast
open PySem PySem.W PyProof.Rows
set_option maxRecDepth 100000 in
set_option maxHeartbeats 0 in
theorem PySem.Challenge.cw_roadsettings_k20_nodes_that_a_step_makes_holds : PySem.Challenge.rw_roadsettings_k20_nodes_that_a_step_makes.Holds := by
  w_on; o_law; k_head; (case hw => w_witness2)
  k_fill
  refine' K20.walk (l := PySem.Challenge.rw_roadsettings_k20_nodes_that_a_step_makes) (P_z3 := 46) rfl rfl (fun w h Y => ⟨PySem.W.km_in_of Y, PySem.W.km_tabs_of Y⟩) ?hK ?hP0 ?F
  case hP0 => decide
  case hK =>
    intro w b hb
    simp only [List.mem_cons, List.not_mem_nil, or_false] at hb
    rcases hb with rfl | rfl
    · exact ⟨by kernel_rfl, 50, by kernel_rfl⟩
    · exact ⟨by kernel_rfl, 209, by kernel_rfl⟩
  case F =>
    intro w mg fa h KX G hmg
    refine' K20.all_mk KX G hmg ?_ ?_ ?_ ?_ ?_ ?_ ?_ ?_ ?_ ?_ ?_ ?_ ?_ ?_ ?_ ?_ ?_ ?_ ?_ ?_ ?_ ?_ ?_ ?_ ?_ ?_ ?_ ?_ ?_ ?_ ?_ ?_ ?_ ?_ ?_ ?_ ?_ ?_ ?_ ?_ ?_ ?_ ?_ ?_ ?_ ?_ ?_ ?_ ?_ ?_ ?_ ?_ ?_ ?_ ?_ ?_ ?_ ?_ ?_ ?_ ?_ ?_ ?_ ?_ ?_ ?_ ?_ ?_ ?_ ?_ ?_ ?_ ?_ ?_ ?_ ?_ ?_ ?_ ?_ ?_ ?_ ?_ ?_ ?_ ?_
    all_goals try (first | refine ⟨⟨by k_is, by k_is, by k_is⟩, ⟨_, _, _, _, _, _, _, _, _, rfl, by k_is, by k_is⟩, by k_is⟩ | refine ⟨by k_is, ⟨_, _, _, _, _, _, _, _, _, rfl, by k_is, by k_is⟩, by k_is⟩ | refine ⟨by k_is, ⟨by k_is, by k_is, by k_is, by k_is⟩, by k_is, by k_is⟩ | refine ⟨⟨by k_is, by k_is, by k_is⟩, ⟨_, _, _, _, _, _, _, _, rfl, by k_is, by k_is⟩, by k_is, by kernel_rfl⟩ | refine ⟨by k_is, ⟨_, _, _, _, _, _, _, _, rfl, by k_is, by k_is⟩, by k_is, by kernel_rfl⟩ | (show _ = _; first | k_is | kernel_rfl))
