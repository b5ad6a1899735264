import PyProof.Rows.All
import Wide.All
import OpenK.AllK
import Wide.FinOn
import Lean
import PyProof.EqAt
import PyProof.EqKinds
import PyProof.TupleCall
import PyProof.AutoListH
import PyProof.ExcBaseAll.ValueError
import PyProof.ExcAttrAll.ValueError
import PyProof.Rows.MinMaxN
import PySem.Challenge.RW_roadsettings_k45_watchers
set_option Elab.async false
set_option linter.all false
set_option maxRecDepth 100000
local macro_rules | `(tactic| omega) => `(tactic| lia)
namespace L2
open PySem PySem.Spec PyProof.Rows
abbrev Zo:=Sum Int Str
def Wi:Zo→Value→Bool
 | .inl k,v=>Value.isInt k v
 | .inr x,v=>Value.isStrOf x v
def keyH (w:World):Zo→Int
 | .inl k=>hashInt k
 | .inr x=>hashStr w x
theorem ZQ:∀{k:Zo}{v:Value},Wi k v=true→(∃ i t,k=Sum.inl i∧v=Value.int i t)∨(∃ x t,k=Sum.inr x∧v=Value.str x t)
 | .inl i,v,h=>by
   obtain ⟨t,e⟩:=Value.isInt_shape (k:=i) (v:=v) h
   exact .inl ⟨i,t,rfl,e⟩
 | .inr x,v,h=>by
   obtain ⟨t,e⟩:=Value.isStrOf_shape (x:=x) (v:=v) h
   exact .inr ⟨x,t,rfl,e⟩
theorem ZdU (i:Int)(t:Tok):Wi (.inl i) (.int i t)=true:=by simp [Wi,Value.isInt]
theorem ZdA (x:Str)(t:Tok):Wi (.inr x) (.str x t)=true:=by simp [Wi,Value.isStrOf]
theorem Zhi (a b:Int):decide ((Sum.inl a:Zo)=Sum.inl b)=(a == b):=by
 by_cases e:a=b
 · subst e;simp
 · have h:¬ (Sum.inl a:Zo)=Sum.inl b:=fun q=>e (Sum.inl.inj q)
   rw [decide_eq_false h]
   exact (beq_eq_false_iff_ne.mpr e).symm
theorem ZhI (a b:Str):decide ((Sum.inr a:Zo)=Sum.inr b)=decide (a=b):=by
 by_cases e:a=b
 · subst e;simp
 · have h:¬ (Sum.inr a:Zo)=Sum.inr b:=fun q=>e (Sum.inr.inj q)
   rw [decide_eq_false h,decide_eq_false e]
theorem ZhX (a:Int)(b:Str):decide ((Sum.inl a:Zo)=Sum.inr b)=false:=decide_eq_false (fun q=>nomatch q)
theorem ZhH (a:Str)(b:Int):decide ((Sum.inr a:Zo)=Sum.inl b)=false:=decide_eq_false (fun q=>nomatch q)
def ZD (prog:Program)(w:World):PySem.KeyKind prog w Zo where
 is:=Wi
 hash:=keyH w
 inj := fun v a b ha hb=>by
   rcases ZQ ha with ⟨i,t,rfl,rfl⟩ | ⟨x,t,rfl,rfl⟩
   · rcases ZQ hb with ⟨j,u,rfl,e⟩ | ⟨y,u,rfl,e⟩
     · injection e with e1 _;rw [e1]
     · exact nomatch e
   · rcases ZQ hb with ⟨j,u,rfl,e⟩ | ⟨y,u,rfl,e⟩
     · exact nomatch e
     · injection e with e1 _;rw [e1]
 byValue:=fun k v h=>by
   rcases ZQ h with ⟨i,t,rfl,rfl⟩ | ⟨x,t,rfl,rfl⟩<;>rfl
 pyHash:=fun hv h=>by
   rcases ZQ hv with ⟨i,t,rfl,rfl⟩ | ⟨x,t,rfl,rfl⟩
   · exact wpAny_pyHash_int h
   · exact wpAny_pyHash_str h
 eqBool:=fun hu hv h=>by
   rcases ZQ hu with ⟨i,t,rfl,rfl⟩ | ⟨x,t,rfl,rfl⟩
   · rcases ZQ hv with ⟨j,u,rfl,rfl⟩ | ⟨y,u,rfl,rfl⟩
     · rw [Zhi] at h;exact wpAny_eqBool_int h
     · rw [ZhX] at h;exact SeqAt.EqAt.int_str i t y u _ _ _ _ h
   · rcases ZQ hv with ⟨j,u,rfl,rfl⟩ | ⟨y,u,rfl,rfl⟩
     · rw [ZhH] at h;exact SeqAt.EqAt.str_int x t j u _ _ _ _ h
     · rw [ZhI] at h;exact wpAny_eqBool_str h
 «strs»:=fun k x t v h=>by
   rcases ZQ h with ⟨i,u,rfl,e⟩ | ⟨y,u,rfl,e⟩
   · exact nomatch e
   · injection e with e1 _
     subst e1
     cases v<;>rfl
theorem UV (prog:Program)(w:World)(k:Zo)(v:Value):(ZD prog w).is k v=Wi k v:=rfl
theorem Zbw (prog:Program)(w:World)(i:Int)(t:Tok):(ZD prog w).is (.inl i) (.int i t)=true:=ZdU i t
theorem Zbp (prog:Program)(w:World)(x:Str)(t:Tok):(ZD prog w).is (.inr x) (.str x t)=true:=ZdA x t
end L2
namespace L2
open PySem PySem.Spec PyProof.Rows
inductive V where
 | non | bl (b:Bool) | int (i:Int) | str (x:Str) | byt (b:Array UInt8) | flt (b:UInt64) | ref (a:Addr) | ty (n:String)
 deriving DecidableEq
def RelV:V→Value→Prop
 | .non,u=>u=Value.none
 | .bl b,u=>u=Value.bool b
 | .int i,u=>∃ t,u=Value.int i t
 | .str x,u=>∃ t,u=Value.str x t
 | .byt b,u=>∃ t,u=Value.bytes b t
 | .flt b,u=>∃ t,u=Value.float b t
 | .ref a,u=>u=Value.ref a
 | .ty n,u=>u=Value.type n
abbrev Vals:List V→List Value→Prop:=Paired RelV
theorem Vals.length {xs:List V}{us:List Value}(r:Vals xs us):xs.length=us.length:=Paired.length r
theorem Vals.get:∀{xs:List V}{us:List Value}{i:Nat}{x:V},Vals xs us→xs[i]?=some x→∃ u,us[i]?=some u∧RelV x u
 | _,_,_,_,.nil,e=>by simp at e
 | _,_,0,_,.cons r _,e=>by simp at e;subst e;exact ⟨_,rfl,r⟩
 | _,_,i+1,x,.cons _ t,e=>by
   obtain ⟨u,h1,h2⟩:=Vals.get (i:=i) (x:=x) t (by simpa using e)
   exact ⟨u,by simpa using h1,h2⟩
theorem Vals.set {x:V}{u:Value}(r:RelV x u):∀{xs:List V}{us:List Value}(i:Nat),Vals xs us→Vals (xs.set i x) (us.set i u)
 | _,_,_,.nil=>.nil
 | _,_,0,.cons _ t=>.cons r t
 | _,_,i+1,.cons q t=>.cons q (Vals.set r i t)
theorem Vals.append:∀{xs ys:List V}{us ws:List Value},Vals xs us→Vals ys ws→Vals (xs++ys) (us++ws)
 | _,_,_,_,.nil,s=>s
 | _,_,_,_,.cons r t,s=>.cons r (Vals.append t s)
def RelO:Option V→Option Value→Prop
 | some v,some u=>RelV v u
 | none,none=>True
 | _,_=>False
def KV {κ:Type}:List (κ×V)→List (κ×Value)→Prop:=Paired fun (p:κ×V) (q:κ×Value)=>p.1=q.1∧RelV p.2 q.2
def kV:Zo→V
 | .inl i=>.int i
 | .inr x=>.str x
inductive HO where
 | lst (xs:List V)
 | tup (xs:List V)
 | dK (kvs:List (Zo×V)) | dT (kvs:List (List Zo×V))
 | set (S:Int→Bool) (n:Nat)
 | ins (C dx:Addr) (fs:List (Str×V))
 | own (x:Addr)
 | xd (fs:List (Str×V))
 | met (f x:Addr)
 | rng (lo hi:Int)
 | frz (o:Obj) (u:HO)
 | tbl (ps:Array Value)
 | ext (φ:Heap→Prop)
abbrev Hp:=Addr→Option HO
def upd (H:Hp)(a:Addr)(o:HO):Hp:=fun b=>if b=a then some o else H b
theorem Zf {H:Hp}{a:Addr}{o:HO}:upd H a o a=some o:=by unfold upd;rw [if_pos rfl]
theorem Zb {H:Hp}{a b:Addr}{o:HO}(h:b≠a):upd H a o b=H b:=by unfold upd;rw [if_neg h]
theorem Ziw {H:Hp}{a b:Addr}{o u:HO}(h:H a=some o)(h':H b=some u)(d:o≠u):a≠b:=by
 intro e;subst e;rw [h] at h';exact d (Option.some.inj h')
theorem Zq {H:Hp}{a b:Addr}{o:HO}(h:H a=some o)(h':H b=none):a≠b:=by
 intro e;subst e;rw [h] at h';cases h'
section
variable (P:Program)(w:World)
def ObjOk (H:Hp)(h:Heap)(a:Addr):HO→Prop
 | .lst xs=>xs.length≤sizeLine∧∃ (its:List Value) (n:Nat),Vals xs its∧h.get? a=some { cls:=.type "list",data:=.seq its.toArray n }
 | .tup xs=>xs.length≤sizeLine∧∃ its:List Value,Vals xs its∧IsTup h a its.toArray
 | .dK kvs=>kvs.length≤sizeLine∧(a == sysModules)=false∧∃ vs,KV kvs vs∧h.DictOf (ZD P w) a vs
 | .dT kvs=>kvs.length≤sizeLine∧(a == sysModules)=false∧∃ xs:List (List Zo×Addr×Value),
     Paired (fun (p:List Zo×V) (q:List Zo×Addr×Value)=>p.1=q.1∧H q.2.1=some (.tup (p.1.map kV))∧RelV p.2 q.2.2) kvs xs ∧
     ∃ o es ep,h.get? a=some o∧o.ExactDict∧o.data=.dict es ep∧es.toList=xs.map (entryOfKey (tupleKind (ZD P w)))∧(xs.map (·.1)).Nodup
 | .set S n=>h.SetOf (intKind P w) a S n
 | .ins C dx fs=>H dx=some (.own a)∧fs.length≤1000∧dx≠a∧h.get? a=some (PySem.W.instObj C dx) ∧
     ∃ mA,h.Ns1 dx mA∧(∀ f,RelO (fs.lookup f) (mA f))∧PySem.Within mA (fs.map (·.1))
 | .own _=>∃ o,h.get? a=some o
 | .xd fs=>∃ mA,h.Ns1 a mA∧∀ f,RelO (fs.lookup f) (mA f)
 | .rng lo hi=>∃ t u v,h.get? a=some { cls:=.type "range",data:=.fields #[.int lo t,.int hi u,.int 1 v] }
 | .frz o u=>h.get? a=some o∧ObjOk H h a u
 | .tbl ps=>h.get? a=some { cls:=.none,data:=.fields ps }
 | .met f x=>h.get? a=some (PySem.W.methodObj (.ref f) (.ref x))
 | .ext φ=>φ h∧(∃ o,h.get? a=some o)∧∀ h1 h2:Heap,φ h1→(∀ o,h1.get? a=some o→h2.get? a=some o)→φ h2
def HOk (H:Hp)(h:Heap):Prop:=∀ a o,H a=some o→ObjOk P w H h a o
end
section
variable {P:Program}{w:World}{H H':Hp}{h h':Heap}{a:Addr}{o:HO}
theorem ObjOk.lt (x:ObjOk P w H h a o):a < h.objs.size:=by
 cases o with
 | lst xs=>obtain ⟨_,_,_,_,e⟩:=x;exact Heap.lt_size e
 | tup xs=>obtain ⟨_,_,_,p⟩:=x;exact p.lt
 | dK kvs=>obtain ⟨_,_,_,_,o,_,_,e,_⟩:=x;exact Heap.lt_size e
 | dT kvs=>obtain ⟨_,_,_,_,o,_,_,e,_⟩:=x;exact Heap.lt_size e
 | set S n=>obtain ⟨o,_,_,_,e,_⟩:=x;exact Heap.lt_size e
 | ins C dx fs=>obtain ⟨_,_,_,e,_⟩:=x;exact Heap.lt_size e
 | own y=>obtain ⟨_,e⟩:=x;exact Heap.lt_size e
 | xd fs=>obtain ⟨_,⟨_,_,_,e,_⟩,_⟩:=x;exact Heap.lt_size e
 | rng lo hi=>obtain ⟨_,_,_,e⟩:=x;exact Heap.lt_size e
 | frz ob u=>obtain ⟨e,_⟩:=x;exact Heap.lt_size e
 | tbl ps=>exact Heap.lt_size (show h.get? a=some _ from x)
 | met f y=>exact Heap.lt_size (show h.get? a=some _ from x)
 | ext φ=>obtain ⟨_,⟨_,e⟩,_⟩:=x;exact Heap.lt_size e
theorem Paired.mapP {α β:Type}{F G:α→β→Prop}:∀{l₁:List α}{l₂:List β},Paired F l₁ l₂→(∀ a b,F a b→G a b)→Paired G l₁ l₂
 | _,_,.nil,_=>.nil
 | _,_,.cons r t,f=>.cons (f _ _ r) (Paired.mapP t f)
theorem ObjOk.stay (x:ObjOk P w H h a o)(k:∀ b u,(b=a∨H b=some (.own a))→h.get? b=some u→h'.get? b=some u)
   (ho:∀ b,H b=some (.own a)→H' b=some (.own a)) (ht:∀ b xs,H b=some (.tup xs)→H' b=some (.tup xs)):ObjOk P w H' h' a o:=by
 induction o with
 | lst xs=>obtain ⟨z,its,n,r,e⟩:=x;exact ⟨z,its,n,r,k _ _ (.inl rfl) e⟩
 | tup xs=>obtain ⟨z,its,r,ob,e,c⟩:=x;exact ⟨z,its,r,ob,k _ _ (.inl rfl) e,c⟩
 | dK kvs=>obtain ⟨z,y,vs,r,ob,es,ep,e,c⟩:=x;exact ⟨z,y,vs,r,ob,es,ep,k _ _ (.inl rfl) e,c⟩
 | dT kvs =>
   obtain ⟨z,y,xs,r,ob,es,ep,e,c⟩:=x
   exact ⟨z,y,xs,Paired.mapP r fun p q z=>⟨z.1,ht _ _ z.2.1,z.2.2⟩,ob,es,ep,k _ _ (.inl rfl) e,c⟩
 | set S n=>obtain ⟨ob,es,ep,t,e,c⟩:=x;exact ⟨ob,es,ep,t,k _ _ (.inl rfl) e,c⟩
 | ins C dx fs =>
   obtain ⟨d,z,ne,e,mA,⟨od,es,ep,e2,c⟩,r⟩:=x
   exact ⟨ho _ d,z,ne,k _ _ (.inl rfl) e,mA,⟨od,es,ep,k _ _ (.inr d) e2,c⟩,r⟩
 | own y=>obtain ⟨ob,e⟩:=x;exact ⟨ob,k _ _ (.inl rfl) e⟩
 | xd fs=>obtain ⟨mA,⟨od,es,ep,e,c⟩,r⟩:=x;exact ⟨mA,⟨od,es,ep,k _ _ (.inl rfl) e,c⟩,r⟩
 | rng lo hi=>obtain ⟨t,u,v,e⟩:=x;exact ⟨t,u,v,k _ _ (.inl rfl) e⟩
 | frz ob u ih=>obtain ⟨e,q⟩:=x;exact ⟨k _ _ (.inl rfl) e,ih q⟩
 | tbl ps =>
   have e:h.get? a=some { cls:=.none,data:=.fields ps }:=x
   show h'.get? a=some { cls:=.none,data:=.fields ps }
   exact k a _ (.inl rfl) e
 | met f y =>
   have e:h.get? a=some (PySem.W.methodObj (.ref f) (.ref y)):=x
   show h'.get? a=some (PySem.W.methodObj (.ref f) (.ref y))
   exact k a _ (.inl rfl) e
 | ext φ=>obtain ⟨p,⟨o,e⟩,st⟩:=x;exact ⟨st _ _ p fun o q=>k _ _ (.inl rfl) q,⟨o,k _ _ (.inl rfl) e⟩,st⟩
theorem HOk.lt (x:HOk P w H h)(e:H a=some o):a < h.objs.size:=(x a o e).lt
theorem HOk.fresh (x:HOk P w H h)(e:h.objs.size≤a):H a=none:=by
 cases q:H a with
 | none=>rfl
 | some u=>exact absurd (Nat.lt_of_lt_of_le (x.lt q) e) (Nat.lt_irrefl _)
theorem HOk.kept (x:HOk P w H h)(k:∀ b u,h.get? b=some u→h'.get? b=some u):HOk P w H h':=fun a o e =>
 (x a o e).stay (fun b u _ q=>k b u q) (fun _ q=>q) fun _ _ q=>q
theorem HOk.laid (x:HOk P w H h)(k:∀ b u,h.get? b=some u→h'.get? b=some u)(hp:h.objs.size≤a)(new:ObjOk P w (upd H a o) h' a o):HOk P w (upd H a o) h':=fun b u e=>by
 have hn:=x.fresh hp
 by_cases hb:b=a
 · subst hb;rw [Zf] at e;cases e;exact new
 · rw [Zb hb] at e
   exact (x b u e).stay (fun c v _ q=>k c v q) (fun c q=>by rw [Zb (Zq q hn)];exact q) fun c xs q=>by rw [Zb (Zq q hn)];exact q
end
def Rd (H:Hp)(a:Addr)(u:HO):Prop:=H a=some u∨∃ o,H a=some (.frz o u)
theorem Rd.ok {P:Program}{w:World}{H:Hp}{h:Heap}{a:Addr}{u:HO}(r:Rd H a u)(x:HOk P w H h):ObjOk P w H h a u:=by
 rcases r with r | ⟨o,r⟩
 · exact x a u r
 · obtain ⟨_,q⟩:=x a _ r
   exact q
def Mut:Option HO→Prop
 | some (.lst _)=>True
 | some (.dK _)=>True
 | some (.dT _)=>True
 | some (.set _ _)=>True
 | some (.ins _ _ _)=>True
 | some (.ext _)=>True
 | _=>False
section
variable {P:Program}{w:World}{H:Hp}{h h':Heap}{x e:Addr}{o':HO}
theorem HOk.write (ok:HOk P w H h)(mu:Mut (H x))(he:e=x∨H e=some (.own x))(k:∀ b u,b≠e→h.get? b=some u→h'.get? b=some u)(heo:∃ u,h'.get? e=some u)
   (new:ObjOk P w (upd H x o') h' x o'):HOk P w (upd H x o') h':=fun b u q=>by
 have nown:∀ c y,H c=some (.own y)→c≠x:=fun c y r z=>by subst z;rw [r] at mu;exact mu
 have ntup:∀ c xs,H c=some (.tup xs)→c≠x:=fun c xs r z=>by subst z;rw [r] at mu;exact mu
 by_cases hb:b=x
 · subst hb;rw [Zf] at q;cases q;exact new
 · rw [Zb hb] at q
   by_cases hbe:b=e
   · have q':H b=some (.own x):=by
       rcases he with z | z
       · exact absurd (hbe.trans z) hb
       · rw [hbe];exact z
     rw [q] at q';cases q'
     obtain ⟨v,hv⟩:=heo
     exact ⟨v,by rw [hbe];exact hv⟩
   · refine (ok b u q).stay (fun c v hc r=>k c v ?_ r) (fun c r=>by rw [Zb (nown c b r)];exact r) fun c xs r=>by rw [Zb (ntup c xs r)];exact r
     rcases hc with rfl | hc
     · exact hbe
     · rintro rfl
       rcases he with z | z
       · exact nown c b hc z
       · rw [hc] at z;cases z;exact hb rfl
end
structure Un (fs ex:List Addr)(H H':Hp)(h h':Heap):Prop where
 keep:∀ b o,h.get? b=some o→H b=none→b ∉ fs→b ∉ ex→h'.get? b=some o
 slot:∀ b o,h.get? b=some o→H b=none→b∈fs→b ∉ ex→∃ sl,h'.get? b=some { o with slots:=sl }
 free:∀ b o,h.get? b=some o→H b=none→b ∉ ex→H' b=none
 there:∀ b o,h.get? b=some o→b ∉ ex→∃ o',h'.get? b=some o'
 tups:∀ b xs,H b=some (.tup xs)→H' b=some (.tup xs)
 frzs:∀ b o u,H b=some (.frz o u)→H' b=some (.frz o u)
 tbls:∀ b ps,H b=some (.tbl ps)→∃ more,H' b=some (.tbl (ps++more))
section
variable {fs fs' ex ex':List Addr}{H H1 H2:Hp}{h h1 h2 h':Heap}{a x e:Addr}{o:HO}
theorem Un.any (u:Un fs ex H H1 h h1){b:Addr}{ob:Obj}(q:h.get? b=some ob)(n:H b=none)(hx:b ∉ ex):∃ sl,h1.get? b=some { ob with slots:=sl }:=by
 by_cases hb:b∈fs
 · exact u.slot b ob q n hb hx
 · exact ⟨ob.slots,u.keep b ob q n hb hx⟩
theorem Un.kept (k:∀ b u,h.get? b=some u→h'.get? b=some u):Un fs ex H H h h' :=
 ⟨fun b ob q _ _ _=>k b ob q,fun b ob q _ _ _=>⟨ob.slots,k b ob q⟩,fun _ _ _ n _=>n,fun b ob q _=>⟨ob,k b ob q⟩,fun _ _ q=>q,fun _ _ _ q=>q,fun _ ps q=>⟨#[],by rw [q];simp⟩⟩
theorem Un.refl:Un fs ex H H h h:=Un.kept fun _ _ q=>q
theorem Un.laid (k:∀ b u,h.get? b=some u→h'.get? b=some u)(hp:h.objs.size≤a)(hn:H a=none):Un fs ex H (upd H a o) h h' where
 keep:=fun b u q _ _ _=>k b u q
 slot:=fun b u q _ _ _=>⟨u.slots,k b u q⟩
 free:=fun b u q n _=>by rw [Zb (Nat.ne_of_lt (Nat.lt_of_lt_of_le (Heap.lt_size q) hp))];exact n
 there:=fun b u q _=>⟨u,k b u q⟩
 tups:=fun b xs q=>by rw [Zb (Zq q hn)];exact q
 frzs:=fun b u xs q=>by rw [Zb (Zq q hn)];exact q
 tbls:=fun b ps q=>⟨#[],by rw [Zb (Zq q hn),q];simp⟩
theorem Un.write (mu:Mut (H x))(he:e=x∨H e=some (.own x))(k:∀ b u,b≠e→h.get? b=some u→h'.get? b=some u)(heo:∃ u,h'.get? e=some u):Un fs ex H (upd H x o) h h':=by
 have hx:∀ b,H b=none→b≠x:=fun b n z=>by subst z;rw [n] at mu;exact mu
 have hb:∀ b,H b=none→b≠e:=fun b n z=>by
   subst z
   rcases he with r | r
   · exact hx b n r
   · rw [n] at r;cases r
 have hm:∀ b u,H b=some u→¬ Mut (some u)→b≠x:=fun b u q nm z=>by subst z;rw [q] at mu;exact nm mu
 refine ⟨fun b u q n _ _=>k b u (hb b n) q,fun b u q n _ _=>⟨u.slots,k b u (hb b n) q⟩,fun b u q n _=>by rw [Zb (hx b n)];exact n,fun b u q _=>?_,
   fun b xs q=>by rw [Zb (hm b _ q fun z=>z)];exact q,fun b u xs q=>by rw [Zb (hm b _ q fun z=>z)];exact q,fun b ps q=>⟨#[],by rw [Zb (hm b _ q fun z=>z),q];simp⟩⟩
 by_cases hbe:b=e
 · subst hbe;exact heo
 · exact ⟨u,k b u hbe q⟩
end
def trk (h:Heap)(H:Hp):List Addr:=(List.range h.objs.size).filter fun a=>(H a).isSome
def XS (h:Heap)(H:Hp):Heap:=PySem.W.hideAll h (trk h H)
theorem ZdR (h:Heap)(H:Hp):(XS h H).objs.size=h.objs.size:=PySem.W.hideAll_size _ _
theorem ZeX {h:Heap}{H:Hp}{b:Addr}{o:Obj}(e:h.get? b=some o)(n:H b=none):(XS h H).get? b=some o :=
 PySem.W.hideAll_get _ e fun hm=>by
   have q:(H b).isSome=true:=(List.mem_filter.mp hm).2
   rw [n] at q;simp at q
theorem Zgh {h:Heap}{H:Hp}{b:Addr}{o:Obj}(e:(XS h H).get? b=some o):h.get? b=some o∧H b=none:=by
 have e':h.get? b=some o:=PySem.W.of_hideAll (trk h H) e
 refine ⟨e',?_⟩
 cases q:H b with
 | none=>rfl
 | some x =>
   have hm:b∈trk h H:=List.mem_filter.mpr ⟨List.mem_range.mpr (Heap.lt_size e'),by simp [q]⟩
   have z:(XS h H).get? b=none:=PySem.W.hideAll_none (trk h H) hm
   rw [z] at e;cases e
end L2
namespace L2
open PySem PySem.Spec PyProof.Rows
structure Mod (K:PySem.W.Frag)(mg:Str→Option Value)(base:Heap):Prop where
 kin:K.In base
 glob:base.Ns mainGlobals mg
 blt:∃ mb,base.Ns builtinsNs mb∧∀ x:Str,x≠"__name__"→mb x=bootBuiltins x
 nolimit:base.NoLimit
structure Cx where
 prog:Program
 w:World
 K:PySem.W.Frag
 mg:Str→Option Value
 base:Heap
 A:Around
 N:List Str
 s₀:Shared
 H₀:Hp
 env:Env
 outer:List Env
 stack:List Env
 ex:List Addr
 fn:Str→Bool
 calm:Bool
 pn:List (Addr×Obj)
 xe:Value→Shared→Prop
def Yy (l:List Env):List Addr:=l.filterMap (·.frame)
abbrev Cx.fs (X:Cx):List Addr:=Yy X.outer
def Vis (sc:Scope)(x:Str):Prop:=sc.names.lookup x=some .local∨sc.names.lookup x=some .cell∨sc.names.lookup x=some .free
def Loc (sc:Scope)(x:Str):Prop:=sc.names.lookup x=some .local∨sc.names.lookup x=some .cell
def Look (env:Env)(h:Heap)(m:Str→Option Value)(x:Str)(u:Value):Prop :=
 (env.kindOf x=some .local∧m x=some u)∨((env.kindOf x=some .cell∨env.kindOf x=some .free)∧∃ c,env.cells.lookup x=some c∧h.IsCell c (some u))
structure Cx.Ok (X:Cx):Prop where
 mod:Mod X.K X.mg X.base
 kind:X.env.scope.kind=.function
 glob:X.env.globals=mainGlobals
 blt:X.env.builtins=builtinsNs
 above:X.s₀.heap.objs.size≤X.env.locals
 inj:∀ x y c,X.env.cells.lookup x=some c→X.env.cells.lookup y=some c→x=y
 has:∀ x,(X.env.kindOf x=some .cell∨X.env.kindOf x=some .free)→∃ c,X.env.cells.lookup x=some c
 cab:∀ x c,X.fn x=true→X.env.cells.lookup x=some c→X.s₀.heap.objs.size≤c
 hd:X.calm=true→X.A.handled=none
 frames:X.A.frames=some X.stack
 stk:X.stack=X.outer∨(X.stack=X.env::X.outer∧X.env.frame=some X.env.locals)
 exf:∀ b∈X.ex,b≠X.env.locals∧∀ x c,X.env.cells.lookup x=some c→c≠b
 bs:∀ b o,X.base.get? b=some o→X.s₀.heap.get? b=some o∧X.H₀ b=none
 bsz:X.base.objs.size≤X.s₀.heap.objs.size
 noex:∀ b o,X.base.get? b=some o→b ∉ X.ex
 exfs:∀ b∈X.ex,b ∉ X.fs
 funs:X.s₀.heap.FunFrames X.base X.outer
 frf:∀ b∈X.fs,X.H₀ b=none
structure Inv (X:Cx)(pins:List (Addr×Obj))(σ:List (Option V))(H:Hp)(s:Shared):Prop where
 ok:X.Ok
 os:s.os=X.s₀.os
 bare:AllBare s.gens
 base:Un X.fs X.ex X.H₀ H X.s₀.heap s.heap
 loc:∃ m,s.heap.Ns X.env.locals m∧∀ (i:Nat) (x:Str) (v:V),X.N[i]?=some x→σ[i]?=some (some v)→Vis X.env.scope x→∃ u,RelV v u∧Look X.env s.heap m x u
 cell:∀ x c,X.env.cells.lookup x=some c→∃ v,s.heap.IsCell c v
 free:H X.env.locals=none
 freeC:∀ x c,X.env.cells.lookup x=some c→H c=none
 pin:∀ p∈X.pn++pins,s.heap.get? p.1=some p.2∧H p.1=none∧p.1≠X.env.locals∧p.1 ∉ X.fs∧∀ v,p.2.data≠.cell v
 hok:HOk X.prog X.w H s.heap
 len:σ.length=X.N.length
section
variable {X:Cx}{pins:List (Addr×Obj)}{σ:List (Option V)}{H H':Hp}{s:Shared}{h':Heap}
theorem Cx.Ok.nofr (ok:X.Ok){b:Addr}{o:Obj}(e:X.base.get? b=some o):b ∉ X.fs:=fun hb=>by
 have:=(ok.funs.mem hb).1
 rw [e] at this;cases this
theorem Inv.bs (I:Inv X pins σ H s):∀ b o,X.base.get? b=some o→s.heap.get? b=some o∧H b=none:=fun b o e =>
 ⟨I.base.keep b o (I.ok.bs b o e).1 (I.ok.bs b o e).2 (I.ok.nofr e) (I.ok.noex b o e),I.base.free b o (I.ok.bs b o e).1 (I.ok.bs b o e).2 (I.ok.noex b o e)⟩
theorem Inv.bk (I:Inv X pins σ H s):∀ b o,X.base.get? b=some o→s.heap.get? b=some o:=fun b o e=>(I.bs b o e).1
theorem Inv.mod (I:Inv X pins σ H s):Mod X.K X.mg X.base:=I.ok.mod
theorem Inv.kIn (I:Inv X pins σ H s):X.K.In s.heap:=I.ok.mod.kin.keeps I.bk
theorem Inv.lt (I:Inv X pins σ H s):X.env.locals < s.heap.objs.size:=let ⟨_,hn,_⟩:=I.loc;hn.lt
theorem Inv.sz (I:Inv X pins σ H s):X.s₀.heap.objs.size≤s.heap.objs.size:=Nat.le_trans I.ok.above (Nat.le_of_lt I.lt)
theorem Inv.nofs (I:Inv X pins σ H s){a:Addr}(h:s.heap.objs.size≤a):a ∉ X.fs:=fun hb=>by
 obtain ⟨_,o,ho,_⟩:=I.ok.funs.mem hb
 exact absurd (Nat.lt_of_lt_of_le (Heap.lt_size ho) (Nat.le_trans I.sz h)) (Nat.lt_irrefl _)
theorem Inv.cne (I:Inv X pins σ H s):∀ x c,X.env.cells.lookup x=some c→c≠X.env.locals:=fun x c e z=>by
 obtain ⟨v,o,ho,hd⟩:=I.cell x c e
 obtain ⟨m,⟨o',es,ep,ho',hd',_⟩,_⟩:=I.loc
 rw [z,ho'] at ho;cases ho;rw [hd'] at hd;cases hd
theorem Inv.funs (I:Inv X pins σ H s):s.heap.FunFrames X.base X.outer:=by
 have all:∀ (l:List Env),(∀ b∈Yy l,b∈X.fs)→X.s₀.heap.FunFrames X.base l→s.heap.FunFrames X.base l:=by
   intro l
   induction l with
   | nil=>intro _ _;trivial
   | cons env r ih =>
     intro hs hl
     obtain ⟨hk,⟨L,o,hf,hn,ho,hd⟩,hr⟩:=hl
     have hL:L∈X.fs:=hs L (by unfold Yy;rw [List.filterMap_cons,hf];exact List.mem_cons_self)
     obtain ⟨sl,e⟩:=I.base.slot L o ho (I.ok.frf L hL) hL fun z=>I.ok.exfs L z hL
     exact ⟨hk,⟨L,_,hf,hn,e,hd⟩,ih (fun b hb=>hs b (by unfold Yy;rw [List.filterMap_cons,hf];exact List.mem_cons_of_mem _ hb)) hr⟩
 exact all X.outer (fun _ hb=>hb) I.ok.funs
theorem Inv.stack (I:Inv X pins σ H s):s.heap.FunFrames X.base X.stack:=by
 rcases I.ok.stk with e | ⟨e,hf⟩
 · rw [e];exact I.funs
 · rw [e]
   obtain ⟨m,hn,_⟩:=I.loc
   refine .cons (by rw [I.ok.kind];decide) hf hn ?_ I.funs
   exact Heap.get?_none_of_le (Nat.le_trans I.ok.bsz I.ok.above)
theorem Inv.stkSub (I:Inv X pins σ H s):∀ b∈Yy X.stack,b∈X.env.locals::X.fs:=fun b hb=>by
 rcases I.ok.stk with e | ⟨e,hf⟩
 · rw [e] at hb;exact List.mem_cons_of_mem _ hb
 · rw [e] at hb
   unfold Yy at hb
   rw [List.filterMap_cons,hf] at hb
   exact hb
theorem Inv.stkFree (I:Inv X pins σ H s):∀ b∈Yy X.stack,H b=none:=fun b hb=>by
 rcases List.mem_cons.mp (I.stkSub b hb) with e | hb
 · rw [e];exact I.free
 · obtain ⟨_,o,ho,_⟩:=I.ok.funs.mem hb
   exact I.base.free b o ho (I.ok.frf b hb) fun z=>I.ok.exfs b z hb
theorem Inv.step {g':Array GenState}{t':Nat}{d':Drawn}{ch:List Addr}(I:Inv X pins σ H s)
   (hch:∀ b∈ch,(b∈X.ex∨X.s₀.heap.objs.size≤b)∧b≠X.env.locals∧(∀ x c,X.env.cells.lookup x=some c→c≠b)∧∀ p∈X.pn++pins,p.1≠b)
   (keep:∀ b o,b≠X.env.locals→b ∉ X.fs→b ∉ ch→s.heap.get? b=some o→H b=none→h'.get? b=some o)
   (slot:∀ b o,b≠X.env.locals→b∈X.fs→b ∉ ch→s.heap.get? b=some o→H b=none→∃ sl,h'.get? b=some { o with slots:=sl }) (free:∀ b o,b ∉ ch→s.heap.get? b=some o→H b=none→H' b=none)
   (there:∀ b o,b ∉ ch→s.heap.get? b=some o→∃ o',h'.get? b=some o')
   (tups:∀ b xs,H b=some (.tup xs)→H' b=some (.tup xs)) (frzs:∀ b o u,H b=some (.frz o u)→H' b=some (.frz o u)) (tbls:∀ b ps,H b=some (.tbl ps)→∃ more,H' b=some (.tbl (ps++more)))
   (ns:∀ m,s.heap.Ns X.env.locals m→h'.Ns X.env.locals m) (hok:HOk X.prog X.w H' h') (hg:AllBare g') :
   Inv X pins σ H' { s with heap:=h',gens:=g',drawn:=d',toks:=t' }:=by
 have neL:∀ b o,X.s₀.heap.get? b=some o→b≠X.env.locals:=fun b o e=>Nat.ne_of_lt (Nat.lt_of_lt_of_le (Heap.lt_size e) I.ok.above)
 have neC:∀ b o,X.s₀.heap.get? b=some o→b ∉ X.ex→b ∉ ch:=fun b o e hx hb=>by
   rcases (hch b hb).1 with z | z
   · exact hx z
   · exact absurd (Nat.lt_of_lt_of_le (Heap.lt_size e) z) (Nat.lt_irrefl _)
 have cellK:∀ x c,X.env.cells.lookup x=some c→∀ v,s.heap.IsCell c v→h'.IsCell c v:=fun x c e v ⟨o,ho,hd⟩=>by
   have nch:c ∉ ch:=fun z=>(hch c z).2.2.1 x c e rfl
   by_cases hc:c∈X.fs
   · obtain ⟨sl,q⟩:=slot c o (I.cne x c e) hc nch ho (I.freeC x c e)
     exact ⟨_,q,hd⟩
   · exact ⟨o,keep c o (I.cne x c e) hc nch ho (I.freeC x c e),hd⟩
 refine ⟨I.ok,I.os,hg,⟨fun b o e n hb hx=>?_,fun b o e n hb hx=>?_,fun b o e n hx=>?_,fun b o e hx=>?_,fun b xs e=>tups b xs (I.base.tups b xs e),fun b o xs e=>frzs b o xs (I.base.frzs b o xs e),fun b ps e=>?_⟩,?_,fun x c e=>?_,?_,fun x c e=>?_,fun p hp=>?_,hok,I.len⟩
 · exact keep b o (neL b o e) hb (neC b o e hx) (I.base.keep b o e n hb hx) (I.base.free b o e n hx)
 · obtain ⟨sl,e1⟩:=I.base.slot b o e n hb hx
   obtain ⟨sl',e2⟩:=slot b _ (neL b o e) hb (neC b o e hx) e1 (I.base.free b o e n hx)
   exact ⟨sl',e2⟩
 · obtain ⟨o',e1⟩:=I.base.there b o e hx
   exact free b o' (neC b o e hx) e1 (I.base.free b o e n hx)
 · obtain ⟨o',e1⟩:=I.base.there b o e hx
   exact there b o' (neC b o e hx) e1
 · obtain ⟨m1,e1⟩:=I.base.tbls b ps e
   obtain ⟨m2,e2⟩:=tbls b _ e1
   exact ⟨m1++m2,by rw [e2,Array.append_assoc]⟩
 · obtain ⟨m,hn,hl⟩:=I.loc
   refine ⟨m,ns m hn,fun i x v e1 e2 e3=>?_⟩
   obtain ⟨u,r,l⟩:=hl i x v e1 e2 e3
   refine ⟨u,r,?_⟩
   rcases l with l | ⟨k,c,e,z⟩
   · exact .inl l
   · exact .inr ⟨k,c,e,cellK x c e _ z⟩
 · obtain ⟨v,z⟩:=I.cell x c e
   exact ⟨v,cellK x c e v z⟩
 · obtain ⟨m,⟨o,_,_,ho,_⟩,_⟩:=I.loc
   exact free _ o (fun z=>(hch _ z).2.1 rfl) ho I.free
 · obtain ⟨v,o,ho,hd⟩:=I.cell x c e
   exact free c o (fun z=>(hch c z).2.2.1 x c e rfl) ho (I.freeC x c e)
 · obtain ⟨e,n,ne,nf,d⟩:=I.pin p hp
   have nch:p.1 ∉ ch:=fun z=>(hch p.1 z).2.2.2 p hp rfl
   exact ⟨keep p.1 p.2 ne nf nch e n,free p.1 p.2 nch e n,ne,nf,d⟩
theorem Inv.un {t':Nat}(I:Inv X pins σ H s)(u:Un X.fs [] H H' s.heap h')(hok:HOk X.prog X.w H' h'):Inv X pins σ H' { s with heap:=h',toks:=t' }:=by
 obtain ⟨m,⟨o,es,ep,ho,r⟩,_⟩:=id I.loc
 obtain ⟨sl,hL⟩:=u.any ho I.free (by simp)
 exact I.step (g':=s.gens) (d':=s.drawn) (ch:=[]) (fun _ z=>nomatch z) (fun b o _ hb _ e n=>u.keep b o e n hb (by simp)) (fun b o _ hb _ e n=>u.slot b o e n hb (by simp)) (fun b o _ e n=>u.free b o e n (by simp)) (fun b o _ e=>u.there b o e (by simp)) u.tups u.frzs u.tbls (fun m' hm=>by
   obtain ⟨o',es',ep',ho',r'⟩:=hm
   rw [ho] at ho';cases ho'
   exact ⟨_,es',ep',hL,r'⟩) hok I.bare
theorem Inv.call {g':Array GenState}{t':Nat}{d':Drawn}{ch:List Addr}(I:Inv X pins σ H s)(u:Un (Yy X.stack) ch H H' s.heap h')(hok:HOk X.prog X.w H' h')(hg:AllBare g')
   (hch:∀ b∈ch,(b∈X.ex∨X.s₀.heap.objs.size≤b)∧b≠X.env.locals∧(∀ x c,X.env.cells.lookup x=some c→c≠b)∧∀ p∈X.pn++pins,p.1≠b) :
   Inv X pins σ H' { s with heap:=h',gens:=g',drawn:=d',toks:=t' }:=by
 obtain ⟨m,⟨o,es,ep,ho,r⟩,_⟩:=id I.loc
 obtain ⟨sl,hL⟩:=u.any ho I.free fun z=>(hch _ z).2.1 rfl
 exact I.step (ch:=ch) hch (fun b o hL hb hc e n=>u.keep b o e n (fun z=>(List.mem_cons.mp (I.stkSub b z)).elim hL hb) hc) (fun b o _ _ hc e n=>u.any e n hc) (fun b o hc e n=>u.free b o e n hc) (fun b o hc e=>u.there b o e hc) u.tups u.frzs u.tbls (fun m' hm=>by
   obtain ⟨o',es',ep',ho',r'⟩:=hm
   rw [ho] at ho';cases ho'
   exact ⟨_,es',ep',hL,r'⟩) hok hg
theorem Inv.turned {t':Nat}{it:Addr}(I:Inv X pins σ H s)(k:∀ b o,b≠it→s.heap.get? b=some o→h'.get? b=some o)(hn:H it=none)(hL:it≠X.env.locals)
   (h1:it∈X.ex∨X.s₀.heap.objs.size≤it) (h2:∀ x c,X.env.cells.lookup x=some c→c≠it) (h3:∀ p∈X.pn++pins,p.1≠it):Inv X pins σ H { s with heap:=h',toks:=t' }:=by
 have nit:∀ b u,H b=some u→b≠it:=fun b u e z=>by rw [z,hn] at e;cases e
 refine I.step (g':=s.gens) (d':=s.drawn) (ch:=[it]) (fun b hb=>?_) (fun b o _ _ hc e _=>k b o (fun z=>hc (by simp [z])) e) (fun b o _ _ hc e _=>⟨o.slots,k b o (fun z=>hc (by simp [z])) e⟩) (fun _ _ _ _ n=>n)
   (fun b o hc e=>⟨o,k b o (fun z=>hc (by simp [z])) e⟩) (fun _ _ e=>e) (fun _ _ _ e=>e) (fun b ps e=>⟨#[],by rw [e];simp⟩) (fun m hm=>?_) (fun b u e=>?_) I.bare
 · have e:b=it:=by simpa using hb
   subst e
   exact ⟨h1,hL,h2,h3⟩
 · obtain ⟨o,es,ep,ho,r⟩:=hm
   exact ⟨o,es,ep,k _ o (Ne.symm hL) ho,r⟩
 · refine (I.hok b u e).stay (fun c v hc q=>k c v ?_ q) (fun _ q=>q) fun _ _ q=>q
   rcases hc with z | z
   · rw [z];exact nit b u e
   · exact nit c _ z
theorem Inv.tok (I:Inv X pins σ H s)(t:Nat):Inv X pins σ H { s with toks:=t }:=I.un (h':=s.heap) (t':=t) Un.refl I.hok
theorem Inv.kept {t':Nat}(I:Inv X pins σ H s)(k:∀ b u,s.heap.get? b=some u→h'.get? b=some u):Inv X pins σ H { s with heap:=h',toks:=t' }:=I.un (Un.kept k) (I.hok.kept k)
theorem Inv.laid {a:Addr}{o:HO}{t':Nat}(I:Inv X pins σ H s)(k:∀ b u,s.heap.get? b=some u→h'.get? b=some u)(hp:s.heap.objs.size≤a)(new:ObjOk X.prog X.w (upd H a o) h' a o) :
 Inv X pins σ (upd H a o) { s with heap:=h',toks:=t' }:=I.un (Un.laid k hp (I.hok.fresh hp)) (I.hok.laid k hp new)
theorem Inv.write {x e:Addr}{o:HO}{t':Nat}(I:Inv X pins σ H s)(mu:Mut (H x))(he:e=x∨H e=some (.own x))(k:∀ b u,b≠e→s.heap.get? b=some u→h'.get? b=some u)(heo:∃ u,h'.get? e=some u)
 (new:ObjOk X.prog X.w (upd H x o) h' x o):Inv X pins σ (upd H x o) { s with heap:=h',toks:=t' }:=I.un (Un.write mu he k heo) (I.hok.write mu he k heo new)
theorem Inv.pins_of {pins':List (Addr×Obj)}(I:Inv X pins σ H s)(h:∀ p∈pins',s.heap.get? p.1=some p.2∧H p.1=none∧p.1≠X.env.locals∧p.1 ∉ X.fs∧∀ v,p.2.data≠.cell v):Inv X pins' σ H s :=
 ⟨I.ok,I.os,I.bare,I.base,I.loc,I.cell,I.free,I.freeC,fun p hp=>(List.mem_append.mp hp).elim (fun z=>I.pin p (List.mem_append_left _ z)) (h p),I.hok,I.len⟩
theorem UB {N:List Str}(hN:N.Nodup){i j:Nat}{x:Str}(a:N[i]?=some x)(b:N[j]?=some x):i=j:=by
 obtain ⟨h1,e1⟩:=List.getElem?_eq_some_iff.mp a
 obtain ⟨h2,e2⟩:=List.getElem?_eq_some_iff.mp b
 exact (List.getElem_inj hN).mp (e1.trans e2.symm)
theorem VU {M:Model}{A:Around}{E:Value→Shared→Prop}{i:Nat}{x:Str}{v:V}{u:Value}{Q:Unit→Shared→Prop}(I:Inv X pins σ H s)(hN:X.N.Nodup)(hi:X.N[i]?=some x)(hx:Loc X.env.scope x)(r:RelV v u)
   (h:∀ s',Inv X pins (σ.set i (some v)) H s'→(∃ a,Heap.SameBut a s.heap s'.heap∧(a=X.env.locals∨X.env.cells.lookup x=some a))→Q () s') (hf:X.fn x=true∨X.env.scope.names.lookup x=some .local:=by first | exact .inl rfl | exact .inr rfl | assumption):wpAny M A (storeName X.env x u) Q E s:=by
 obtain ⟨m,hn,hl⟩:=id I.loc
 have hcls:(X.env.scope.kind == .class || (X.env.scope.kind == .module&&X.env.locals != X.env.globals))=false:=by rw [I.ok.kind];rfl
 have hiσ:i < σ.length:=by rw [I.len];exact (List.getElem?_eq_some_iff.mp hi).1
 have cne:=I.cne
 have tracked:∀ {a:Addr} {h':Heap},(∃ o,s.heap.get? a=some o∧H a=none)→Heap.SameBut a s.heap h'→HOk X.prog X.w H h':=fun {a h'} ha hs b ob e=>by
   obtain ⟨_,_,hfree⟩:=ha
   refine (I.hok b ob e).stay (fun c w' hc q=>(hs.2 c ?_).trans q) (fun _ q=>q) fun _ _ q=>q
   rintro rfl
   rcases hc with rfl | hc
   · rw [hfree] at e;cases e
   · rw [hfree] at hc;cases hc
 rcases hx with hk | hk
 · refine wpAny_storeName_local hk hn (fun h' hn' hs=>?_) hcls
   obtain ⟨oL,_,_,hoL,_⟩:=id hn
   refine h _ ⟨I.ok,I.os,I.bare,⟨fun b o e n hb hx=>?_,fun b o e n hb hx=>?_,I.base.free,fun b o e hx=>?_,I.base.tups,I.base.frzs,I.base.tbls⟩,⟨_,hn',fun j y v' e1 e2 e3=>?_⟩,fun y c e=>?_,I.free,I.freeC,fun p hp=>?_,tracked ⟨oL,hoL,I.free⟩ hs,by simpa using I.len⟩ ⟨_,hs,.inl rfl⟩
   · exact (hs.2 b (Nat.ne_of_lt (Nat.lt_of_lt_of_le (Heap.lt_size e) I.ok.above))).trans (I.base.keep b o e n hb hx)
   · obtain ⟨sl,e1⟩:=I.base.slot b o e n hb hx
     exact ⟨sl,(hs.2 b (Nat.ne_of_lt (Nat.lt_of_lt_of_le (Heap.lt_size e) I.ok.above))).trans e1⟩
   · obtain ⟨o',e1⟩:=I.base.there b o e hx
     exact ⟨o',(hs.2 b (Nat.ne_of_lt (Nat.lt_of_lt_of_le (Heap.lt_size e) I.ok.above))).trans e1⟩
   · by_cases hj:j=i
     · subst hj
       rw [hi] at e1;cases e1
       rw [List.getElem?_set_self hiσ] at e2
       cases e2
       exact ⟨u,r,.inl ⟨hk,by simp⟩⟩
     · rw [List.getElem?_set_ne (Ne.symm hj)] at e2
       obtain ⟨u',r',q⟩:=hl j y v' e1 e2 e3
       refine ⟨u',r',?_⟩
       rcases q with ⟨k,e⟩ | ⟨k,c,e,z⟩
       · refine .inl ⟨k,?_⟩
         have:y≠x:=fun e=>hj (UB hN e1 (e ▸ hi))
         simp [this,e]
       · exact .inr ⟨k,c,e,z.sameBut hs (cne y c e)⟩
   · obtain ⟨w',z⟩:=I.cell y c e
     exact ⟨w',z.sameBut hs (cne y c e)⟩
   · obtain ⟨e,n,ne,nf,d⟩:=I.pin p hp
     exact ⟨(hs.2 p.1 ne).trans e,n,ne,nf,d⟩
 · have hfn:X.fn x=true:=by
     rcases hf with z | z
     · exact z
     · rw [z] at hk;cases hk
   obtain ⟨c,hc⟩:=I.ok.has x (.inl hk)
   obtain ⟨w',z⟩:=I.cell x c hc
   refine wpAny_storeName_cell I.ok.kind hk hc z (fun h' hc' hs=>?_)
   obtain ⟨oc,hoc,hocd⟩:=id z
   refine h { s with heap:=h' } ⟨I.ok,I.os,I.bare,⟨fun b o e n hb hx=>?_,fun b o e n hb hx=>?_,I.base.free,fun b o e hx=>?_,I.base.tups,I.base.frzs,I.base.tbls⟩,⟨m,hn.sameBut hs (Ne.symm (cne x c hc)),fun j y v' e1 e2 e3=>?_⟩,fun y c' e=>?_,I.free,I.freeC,fun p hp=>?_,tracked ⟨oc,hoc,I.freeC x c hc⟩ hs,by simpa using I.len⟩ ⟨c,hs,.inr hc⟩
   · exact (hs.2 b (Nat.ne_of_lt (Nat.lt_of_lt_of_le (Heap.lt_size e) (I.ok.cab x c hfn hc)))).trans (I.base.keep b o e n hb hx)
   · obtain ⟨sl,e1⟩:=I.base.slot b o e n hb hx
     exact ⟨sl,(hs.2 b (Nat.ne_of_lt (Nat.lt_of_lt_of_le (Heap.lt_size e) (I.ok.cab x c hfn hc)))).trans e1⟩
   · obtain ⟨o',e1⟩:=I.base.there b o e hx
     exact ⟨o',(hs.2 b (Nat.ne_of_lt (Nat.lt_of_lt_of_le (Heap.lt_size e) (I.ok.cab x c hfn hc)))).trans e1⟩
   · by_cases hj:j=i
     · subst hj
       rw [hi] at e1;cases e1
       rw [List.getElem?_set_self hiσ] at e2
       cases e2
       exact ⟨u,r,.inr ⟨.inl hk,c,hc,hc'⟩⟩
     · rw [List.getElem?_set_ne (Ne.symm hj)] at e2
       obtain ⟨u',r',q⟩:=hl j y v' e1 e2 e3
       refine ⟨u',r',?_⟩
       rcases q with q | ⟨k,c',e,z'⟩
       · exact .inl q
       · refine .inr ⟨k,c',e,z'.sameBut hs ?_⟩
         rintro rfl
         exact hj (UB hN e1 (I.ok.inj _ _ _ e hc ▸ hi))
   · by_cases hcc:c'=c
     · subst hcc;exact ⟨_,hc'⟩
     · obtain ⟨w2,z2⟩:=I.cell y c' e
       exact ⟨w2,z2.sameBut hs hcc⟩
   · obtain ⟨e,n,ne,nf,d⟩:=I.pin p hp
     refine ⟨(hs.2 p.1 ?_).trans e,n,ne,nf,d⟩
     intro q
     rw [q,hoc] at e
     have q':oc=p.2:=Option.some.inj e
     exact d w' (by rw [← q'];exact hocd)
theorem YD {M:Model}{A:Around}{E:Value→Shared→Prop}{i:Nat}{x:Str}{v:V}{u:Value}{Q:Unit→Shared→Prop}(I:Inv X pins σ H s)(hN:X.N.Nodup)(hi:X.N[i]?=some x)(hx:Loc X.env.scope x)(r:RelV v u)
   (h:∀ s',Inv X pins (σ.set i (some v)) H s'→Q () s') (hf:X.fn x=true∨X.env.scope.names.lookup x=some .local:=by first | exact .inl rfl | exact .inr rfl | assumption):wpAny M A (storeName X.env x u) Q E s :=
 VU I hN hi hx r (fun s' I' _=>h s' I') hf
theorem Inv.call' {s':Shared}{ch:List Addr}(I:Inv X pins σ H s)(ho:s'.os=s.os)(u:Un (Yy X.stack) ch H H' s.heap s'.heap)(hok:HOk X.prog X.w H' s'.heap)(hg:AllBare s'.gens)
   (hch:∀ b∈ch,(b∈X.ex∨X.s₀.heap.objs.size≤b)∧b≠X.env.locals∧(∀ x c,X.env.cells.lookup x=some c→c≠b)∧∀ p∈X.pn++pins,p.1≠b):Inv X pins σ H' s':=by
 obtain ⟨h',g',d',t',o'⟩:=s'
 have e:o'=s.os:=ho
 subst e
 exact I.call (g':=g') (t':=t') (d':=d') u hok hg hch
end
abbrev XK:=Value→Option Addr→Hp→Prop
abbrev St:=List (Option V)
abbrev VK:=V→Hp→Prop
abbrev TE:=St→Hp→VK→Prop
abbrev TT:=St→Hp→(Bool→Hp→Prop)→Prop
abbrev TA:=St→Hp→(List V→Hp→Prop)→Prop
structure UE where
 nx:St→Hp→Prop
 rt:VK
 bk:St→Hp→Prop:=fun _ _=>False
 ct:St→Hp→Prop:=fun _ _=>False
abbrev TS:=UE→St→Hp→Prop
def EP (X:Cx)(pins:List (Addr×Obj))(σ:St)(Q:VK)(u:Value)(s':Shared):Prop:=∃ v H',Inv X pins σ H' s'∧RelV v u∧Q v H'
def TP (X:Cx)(pins:List (Addr×Obj))(σ:St)(Q:Bool→Hp→Prop)(b:Bool)(s':Shared):Prop:=∃ H',Inv X pins σ H' s'∧Q b H'
def AP (X:Cx)(pins:List (Addr×Obj))(σ:St)(Q:List V→Hp→Prop)(us:List Value)(s':Shared):Prop:=∃ vs H',Inv X pins σ H' s'∧Vals vs us∧Q vs H'
def SP (X:Cx)(pins:List (Addr×Obj))(D:UE)(f:Flow)(s':Shared):Prop :=
 match f with
 | .next=>∃ σ' H',Inv X pins σ' H' s'∧D.nx σ' H'
 | .brk=>∃ σ' H',Inv X pins σ' H' s'∧D.bk σ' H'
 | .cont=>∃ σ' H',Inv X pins σ' H' s'∧D.ct σ' H'
 | .ret u=>∃ v σ' H',Inv X pins σ' H' s'∧RelV v u∧D.rt v H'
def PE (X:Cx)(e:Expr)(t:TE):Prop :=
 ∀ (pins:List (Addr×Obj)) (s:Shared) (σ:St) (H:Hp) (Q:VK),Inv X pins σ H s→t σ H Q→wpAny (model X.prog X.w) X.A (eval e X.env) (EP X pins σ Q) X.xe s
def PT (X:Cx)(e:Expr)(t:TT):Prop :=
 ∀ (pins:List (Addr×Obj)) (s:Shared) (σ:St) (H:Hp) (Q:Bool→Hp→Prop),Inv X pins σ H s→t σ H Q→wpAny (model X.prog X.w) X.A (isTrue e X.env (eval e X.env)) (TP X pins σ Q) X.xe s
def PW (X:Cx)(e:Expr)(t:TT):Prop :=
 ∀ (whole:Sem Value) (pins:List (Addr×Obj)) (s:Shared) (σ:St) (H:Hp) (Q:Bool→Hp→Prop),Inv X pins σ H s→t σ H Q→wpAny (model X.prog X.w) X.A (isTrue e X.env whole) (TP X pins σ Q) X.xe s
theorem PW.pt {X:Cx}{e:Expr}{t:TT}(h:PW X e t):PT X e t:=h _
def PA (X:Cx)(es:List Expr)(t:TA):Prop :=
 ∀ (pos:Pos) (pins:List (Addr×Obj)) (s:Shared) (σ:St) (H:Hp) (Q:List V→Hp→Prop),Inv X pins σ H s→t σ H Q→wpAny (model X.prog X.w) X.A (spliced (backTo pos (starEach es X.env))) (AP X pins σ Q) X.xe s
def PS (X:Cx)(st:Stmt)(t:TS):Prop :=
 ∀ (pins:List (Addr×Obj)) (s:Shared) (σ:St) (H:Hp) (D:UE),Inv X pins σ H s→t D σ H→wpAny (model X.prog X.w) X.A (exec st X.env) (SP X pins D) X.xe s
def PSs (X:Cx)(st:List Stmt)(t:TS):Prop :=
 ∀ (pins:List (Addr×Obj)) (s:Shared) (σ:St) (H:Hp) (D:UE),Inv X pins σ H s→t D σ H→wpAny (model X.prog X.w) X.A (execs st X.env) (SP X pins D) X.xe s
theorem Zm {α:Type}{t:Sem α}{Q Q':α→Shared→Prop}{M:Model}{A:Around}{E:Value→Shared→Prop}{s:Shared}(h:wpAny M A t Q E s)(hQ:∀ a s,Q a s→Q' a s):wpAny M A t Q' E s:=wpAny_mono h hQ fun _ _ x=>x
end L2
namespace L2
open PySem PySem.Spec PyProof.Rows
section
variable {X:Cx}
def Zbj (i:Nat):TE:=fun σ H Q=>∃ v,σ[i]?=some (some v)∧Q v H
def tC (v:V):TE:=fun _ H Q=>Q v H
theorem Zhn {i:Nat}{x:Str}{pos:Pos}(hN:X.N[i]?=some x)(hv:Vis X.env.scope x)(hd:(x == ("__debug__":Str))=false:=by decide)(hcd:(x == ("__classdict__":Str))=false:=by decide):PE X (.Name x pos) (Zbj i):=by
 intro pins s σ H Q I h
 obtain ⟨v,e,h⟩:=h
 obtain ⟨m,hn,hl⟩:=I.loc
 obtain ⟨u,r,l⟩:=hl i x v hN e hv
 have fin:EP X pins σ Q u s:=⟨v,H,I,r,h⟩
 rcases l with ⟨hk,hm⟩ | ⟨hk,c,hc,hcell⟩
 · exact wpAny_Name (wpAny_loadName_local I.ok.kind hk hn hm fin) hd
 · rcases hk with hk | hk
   · exact wpAny_Name (wpAny_loadName_cell I.ok.kind hk hc hcell fin) hd
   · exact wpAny_Name (wpAny_loadName_free I.ok.kind hk hc hcell fin hcd) hd
theorem Ze {i j pos}:PE X (.Constant (.int i) j pos) (tC (.int i)):=fun _ _ _ H _ I h=>wpAny_Constant_int ⟨.int i,H,I.tok _,⟨_,rfl⟩,h⟩
theorem Wj {b j pos}:PE X (.Constant (.bool b) j pos) (tC (.bl b)):=fun _ _ _ H _ I h=>Constant_bool ⟨.bl b,H,I,rfl,h⟩
theorem YM {j pos}:PE X (.Constant .none j pos) (tC .non):=fun _ _ _ H _ I h=>Constant_none ⟨.non,H,I,rfl,h⟩
theorem ZE {x j pos}:PE X (.Constant (.str x) j pos) (tC (.str x)):=fun _ _ _ H _ I h=>Calls.Constant_str ⟨.str x,H,I.tok _,⟨_,rfl⟩,h⟩
def Gl (X:Cx)(x:Str):Prop:=X.env.kindOf x=some .globalImplicit
theorem Xw {E:Value→Shared→Prop}{pins:List (Addr×Obj)}{s:Shared}{σ:St}{H:Hp}{x:Str}{u:Value}{pos:Pos}{Q:Value→Shared→Prop}(I:Inv X pins σ H s)(hg:Gl X x)(hm:X.mg x=some u)(h:Q u s)
   (hd:(x == ("__debug__":Str))=false:=by decide):wpAny (model X.prog X.w) X.A (eval (.Name x pos) X.env) Q E s :=
 Calls.Name_function_global I.ok.kind hg (Calls.loadGlobal_global (by rw [I.ok.glob];exact I.mod.glob.keeps I.bk) hm h) hd
theorem XI {E:Value→Shared→Prop}{pins:List (Addr×Obj)}{s:Shared}{σ:St}{H:Hp}{x:Str}{u:Value}{pos:Pos}{Q:Value→Shared→Prop}(I:Inv X pins σ H s)(hg:Gl X x)(hm:X.mg x=none)(hv:bootBuiltins x=some u)(h:Q u s)
   (hn:x≠"__name__":=by decide) (hd:(x == ("__debug__":Str))=false:=by decide):wpAny (model X.prog X.w) X.A (eval (.Name x pos) X.env) Q E s:=by
 obtain ⟨mb,h1,h2⟩:=I.mod.blt
 exact Calls.Name_function_global I.ok.kind hg (Calls.loadGlobal_builtin (by rw [I.ok.glob];exact I.mod.glob.keeps I.bk) hm (by rw [I.ok.blt];exact h1.keeps I.bk) ((h2 x hn).trans hv) h) hd
theorem Ym {x:Str}{v:V}{u:Value}{pos:Pos}(hg:Gl X x)(hm:X.mg x=some u)(r:RelV v u)(hd:(x == ("__debug__":Str))=false:=by decide):PE X (.Name x pos) (tC v) :=
 fun _ _ _ H _ I h=>Xw I hg hm ⟨v,H,I,r,h⟩ hd
theorem Yj {x:Str}{v:V}{u:Value}{pos:Pos}(hg:Gl X x)(hm:X.mg x=none)(hv:bootBuiltins x=some u)(r:RelV v u)(hn:x≠"__name__":=by decide)(hd:(x == ("__debug__":Str))=false:=by decide):PE X (.Name x pos) (tC v) :=
 fun _ _ _ H _ I h=>XI I hg hm hv ⟨v,H,I,r,h⟩ hn hd
variable {a b:Expr}{ta tb:TE}{pos:Pos}
def PC (X:Cx)(op:CmpOp)(a b:Expr)(t:TE):Prop :=
 ∀ (pins:List (Addr×Obj)) (s:Shared) (σ:St) (H:Hp) (Q:VK),Inv X pins σ H s→t σ H Q →
   wpAny (model X.prog X.w) X.A (eval a X.env) (fun v s₁=>wpAny (model X.prog X.w) X.A (eval b X.env) (fun u s₂=>wpAny (model X.prog X.w) X.A (compareOp op v u) (EP X pins σ Q) X.xe s₂) X.xe s₁) X.xe s
theorem ZeJ (b:Expr){op:CmpOp}(h:op≠.In)(h2:op≠.NotIn):behindInMarks op b=false:=by
 have e1:(op == CmpOp.In)=false:=by cases op<;>first | rfl | exact absurd rfl h
 have e2:(op == CmpOp.NotIn)=false:=by cases op<;>first | rfl | exact absurd rfl h2
 cases b<;>simp [behindInMarks,e1,e2]
def tIsN (ta:TE):TE:=fun σ H Q=>ta σ H fun x H1=>Q (.bl (decide (x=.non))) H1
def ZiL (ta:TE):TE:=fun σ H Q=>ta σ H fun x H1=>Q (.bl (!decide (x=.non))) H1
theorem RelV.none_iff {x:V}{v:Value}(r:RelV x v):(v == Value.none)=decide (x=.non):=by
 cases x with
 | non=>cases r;rfl
 | bl _=>cases r;rfl
 | int _=>obtain ⟨t,rfl⟩:=r;rfl
 | str _=>obtain ⟨t,rfl⟩:=r;rfl
 | byt _=>obtain ⟨t,rfl⟩:=r;rfl
 | flt _=>obtain ⟨t,rfl⟩:=r;rfl
 | ref _=>cases r;rfl
 | ty _=>cases r;rfl
theorem ZaG {j pos'}(ha:PE X a ta):PC X .Is a (.Constant .none j pos') (tIsN ta):=by
 intro pins s σ H Q I h
 refine Zm (ha pins s σ H _ I h) fun v s1 ⟨x,H1,I1,r1,q1⟩=>?_
 exact Constant_none (is_none_gen ⟨.bl _,H1,I1,by rw [r1.none_iff];rfl,q1⟩)
theorem ZgD {j pos'}(ha:PE X a ta):PC X .IsNot a (.Constant .none j pos') (ZiL ta):=by
 intro pins s σ H Q I h
 refine Zm (ha pins s σ H _ I h) fun v s1 ⟨x,H1,I1,r1,q1⟩=>?_
 exact Constant_none (isnot_none_gen ⟨.bl _,H1,I1,by rw [r1.none_iff];rfl,q1⟩)
def tB (t:TE):TT:=fun σ H Q=>t σ H fun x H1=>∃ c,x=.bl c∧Q c H1
theorem XH {op:CmpOp}{t:TE}(h:PC X op a b t)(h1:behindInMarks op b=false:=by first | exact ZeJ _ (by decide) (by decide) | rfl):PT X (.Compare a [op] [b] pos) (tB t):=by
 intro pins s σ H Q I hw
 refine wpAny_isTrue_Compare1 (Zm (h pins s σ H _ I hw) fun v s1 h1=>Zm h1 fun u s2 h2=>Zm h2 fun c s3 ⟨x,H1,I1,r1,q1⟩=>?_) h1
 obtain ⟨d,rfl,q⟩:=q1
 cases r1
 exact wpAny_truthy_bool ⟨H1,I1,q⟩
theorem XA {e:Expr}{t:TE}(h:PE X e t)(he:∀ whole,isTrue e X.env whole=(do let v ← whole;standAt e.pos;holding [v] (truthy v)):=by intro _;rfl):PT X e (tB t):=by
 intro pins s σ H Q I hw
 refine isTrue_plain (Zm (h pins s σ H _ I hw) fun v s1 ⟨x,H1,I1,r1,q1⟩=>?_) (he _)
 obtain ⟨d,rfl,q⟩:=q1
 cases r1
 exact wpAny_truthy_bool ⟨H1,I1,q⟩
variable {tA tB':TT}{rest:List Expr}
def tAnd (t u:TT):TT:=fun σ H Q=>t σ H fun c H1=>if c=true then u σ H1 Q else Q false H1
def tOr (t u:TT):TT:=fun σ H Q=>t σ H fun c H1=>if c=true then Q true H1 else u σ H1 Q
def tNot (t:TT):TT:=fun σ H Q=>t σ H fun c H1=>Q (!c) H1
theorem WZ (ha:PT X a tA):PW X (.BoolOp .And [a] pos) tA:=by
 intro wh pins s σ H Q I h
 refine isTrue_and (Zm (ha pins s σ H Q I h) fun c s1 e=>?_)
 cases c with
 | true=>exact isTrue_and_nil e
 | false=>exact e
theorem Vg (ha:PT X a tA):PW X (.BoolOp .Or [a] pos) tA:=by
 intro wh pins s σ H Q I h
 refine isTrue_or (Zm (ha pins s σ H Q I h) fun c s1 e=>?_)
 cases c with
 | false=>exact isTrue_or_nil e
 | true=>exact e
theorem UR (ha:PT X a tA)(hb:PW X (.BoolOp .And (b::rest) pos) tB'):PW X (.BoolOp .And (a::b::rest) pos) (tAnd tA tB'):=by
 intro wh pins s σ H Q I h
 refine isTrue_and (Zm (ha pins s σ H _ I h) fun c s1 ⟨H1,I1,q1⟩=>?_)
 cases c with
 | true=>exact hb wh pins s1 σ H1 Q I1 q1
 | false=>exact ⟨H1,I1,q1⟩
theorem Zaj (ha:PT X a tA)(hb:PW X (.BoolOp .Or (b::rest) pos) tB'):PW X (.BoolOp .Or (a::b::rest) pos) (tOr tA tB'):=by
 intro wh pins s σ H Q I h
 refine isTrue_or (Zm (ha pins s σ H _ I h) fun c s1 ⟨H1,I1,q1⟩=>?_)
 cases c with
 | true=>exact ⟨H1,I1,q1⟩
 | false=>exact hb wh pins s1 σ H1 Q I1 q1
theorem WF (ha:PT X a tA):PT X (.UnaryOp .Not a pos) (tNot tA):=by
 intro pins s σ H Q I h
 exact isTrue_not (ha pins s σ H (fun c H1=>Q (!c) H1) I h)
def ZiC (ta tb:TE):TE:=fun σ H Q=>ta σ H fun x H1=>∃ c,x=.bl c∧if c=true then tb σ H1 Q else Q (.bl false) H1
def ZiV (ta:TE):TE:=fun σ H Q=>ta σ H fun x H1=>∃ c,x=.bl c∧Q (.bl (!c)) H1
theorem ZaF {op}{t:TE}(h:PE X a t):PE X (.BoolOp op [a] pos) t:=fun pins s σ H Q I hw=>BoolOp_one (h pins s σ H Q I hw)
theorem Vc (ha:PE X a ta)(hb:PE X (.BoolOp .And (b::rest) pos) tb):PE X (.BoolOp .And (a::b::rest) pos) (ZiC ta tb):=by
 intro pins s σ H Q I h
 refine BoolOp_and (Zm (ha pins s σ H _ I h) fun v s1 ⟨x,H1,I1,r1,q1⟩=>?_)
 obtain ⟨c,rfl,q1⟩:=q1
 cases r1
 refine wpAny_truthy_bool ?_
 cases c with
 | true=>exact hb pins s1 σ H1 Q I1 q1
 | false=>exact ⟨.bl false,H1,I1,rfl,q1⟩
theorem Zhz (ha:PE X a ta):PE X (.UnaryOp .Not a pos) (ZiV ta):=by
 intro pins s σ H Q I h
 refine UnaryOp_ (Zm (ha pins s σ H _ I h) fun v s1 ⟨x,H1,I1,r1,q1⟩=>?_)
 obtain ⟨c,rfl,q1⟩:=q1
 cases r1
 exact not_of (wpAny_truthy_bool ⟨.bl (!c),H1,I1,rfl,q1⟩)
def tIf (t:TT)(ta tb:TE):TE:=fun σ H Q=>t σ H fun c H1=>if c=true then ta σ H1 Q else tb σ H1 Q
theorem Xg {c:Expr}(hc:PT X c tA)(ha:PE X a ta)(hb:PE X b tb):PE X (.IfExp c a b pos) (tIf tA ta tb):=by
 intro pins s σ H Q I h
 refine wpAny_IfExp (Zm (hc pins s σ H _ I h) fun d s1 ⟨H1,I1,q1⟩=>?_)
 cases d with
 | true=>exact ha pins s1 σ H1 Q I1 q1
 | false=>exact hb pins s1 σ H1 Q I1 q1
end
end L2
namespace L2
open PySem PySem.Spec PyProof.Rows
def SqL (K:PySem.W.Frag)(H:Hp)(a:Addr)(xs:List V):Prop :=
 Rd H a (.lst xs) ∨
   ∃ (o:Obj) (its:Array Value) (n:Nat),K.lookup a=some o∧o.cls=.type "list"∧o.dict=none∧o.data=.seq its n∧its.size≤sizeLine∧Vals xs its.toList
def SqT (K:PySem.W.Frag)(H:Hp)(a:Addr)(xs:List V):Prop :=
 Rd H a (.tup xs) ∨
   ∃ (o:Obj) (its:Array Value) (n:Nat),K.lookup a=some o∧o.cls=.type "tuple"∧o.data=.seq its n∧its.size≤sizeLine∧Vals xs its.toList
def ZcM:Value→Option V
 | .none=>some .non
 | .bool b=>some (.bl b)
 | .int i _=>some (.int i)
 | .str x _=>some (.str x)
 | .bytes b _=>some (.byt b)
 | .float b _=>some (.flt b)
 | .ref a=>some (.ref a)
 | .type n=>some (.ty n)
 | _=>none
theorem RelV.abs {x:V}{u:Value}(r:RelV x u):ZcM u=some x:=by
 cases x with
 | non=>cases r;rfl
 | bl _=>cases r;rfl
 | int _=>obtain ⟨t,rfl⟩:=r;rfl
 | str _=>obtain ⟨t,rfl⟩:=r;rfl
 | byt _=>obtain ⟨t,rfl⟩:=r;rfl
 | flt _=>obtain ⟨t,rfl⟩:=r;rfl
 | ref _=>cases r;rfl
 | ty _=>cases r;rfl
theorem RelV.inj {x y:V}{u:Value}(r:RelV x u)(q:RelV y u):x=y:=Option.some.inj (r.abs.symm.trans q.abs)
theorem Vals.inj:∀{xs ys:List V}{us:List Value},Vals xs us→Vals ys us→xs=ys
 | _,_,_,.nil,.nil=>rfl
 | _,_,_,.cons r t,.cons r' t'=>by rw [r.inj r',Vals.inj t t']
section
variable {X:Cx}{pins:List (Addr×Obj)}{σ:St}{H:Hp}{s:Shared}{a:Addr}{xs ys:List V}
theorem SqL.of {K:PySem.W.Frag}(h:H a=some (.lst xs)):SqL K H a xs:=.inl (.inl h)
theorem SqT.of {K:PySem.W.Frag}(h:H a=some (.tup xs)):SqT K H a xs:=.inl (.inl h)
theorem Inv.list (I:Inv X pins σ H s)(h:SqL X.K H a xs):∃ its:List Value,Vals xs its∧PlainL s.heap a its.toArray∧xs.length≤sizeLine:=by
 rcases h with h | ⟨o,its,n,hk,hc,hd,hs,hz,r⟩
 · obtain ⟨z,its,n,r,e⟩:=h.ok I.hok
   exact ⟨its,r,⟨_,n,e,rfl,rfl,rfl⟩,z⟩
 · refine ⟨its.toList,r,⟨o,n,I.kIn a o hk,hc,hd,by simpa using hs⟩,?_⟩
   have e:=r.length
   simp only [Array.length_toList] at e
   omega
theorem Inv.tuple (I:Inv X pins σ H s)(h:SqT X.K H a xs):∃ its:List Value,Vals xs its∧IsTup s.heap a its.toArray∧xs.length≤sizeLine:=by
 rcases h with h | ⟨o,its,n,hk,hc,hs,hz,r⟩
 · obtain ⟨z,its,r,p⟩:=h.ok I.hok
   exact ⟨its,r,p,z⟩
 · refine ⟨its.toList,r,⟨o,I.kIn a o hk,hc,n,by simpa using hs⟩,?_⟩
   have e:=r.length
   simp only [Array.length_toList] at e
   omega
theorem Inv.list_inj (I:Inv X pins σ H s)(h:SqL X.K H a xs)(h':SqL X.K H a ys):xs=ys:=by
 obtain ⟨its,r,⟨o,n,e,_,_,d⟩,_⟩:=I.list h
 obtain ⟨its',r',⟨o',n',e',_,_,d'⟩,_⟩:=I.list h'
 rw [e] at e';cases e'
 rw [d] at d'
 injection d' with d1 _
 have:its=its':=by simpa using congrArg Array.toList d1
 subst this
 exact r.inj r'
theorem Inv.tuple_inj (I:Inv X pins σ H s)(h:SqT X.K H a xs)(h':SqT X.K H a ys):xs=ys:=by
 obtain ⟨its,r,⟨o,e,_,n,d⟩,_⟩:=I.tuple h
 obtain ⟨its',r',⟨o',e',_,n',d'⟩,_⟩:=I.tuple h'
 rw [e] at e';cases e'
 rw [d] at d'
 injection d' with d1 _
 have:its=its':=by simpa using congrArg Array.toList d1
 subst this
 exact r.inj r'
end
abbrev Cx.wish (X:Cx)(E:Value→Shared→Prop):Cx:={ X with xe:=E }
abbrev Cx.nox (X:Cx):Cx:=X.wish fun _ _=>False
theorem Cx.Ok.wish {X:Cx}(ok:X.Ok)(E:Value→Shared→Prop):(X.wish E).Ok :=
 ⟨ok.mod,ok.kind,ok.glob,ok.blt,ok.above,ok.inj,ok.has,ok.cab,ok.hd,ok.frames,ok.stk,ok.exf,ok.bs,ok.bsz,ok.noex,ok.exfs,ok.funs,ok.frf⟩
theorem Cx.Ok.unwish {X:Cx}{E:Value→Shared→Prop}(ok:(X.wish E).Ok):X.Ok :=
 ⟨ok.mod,ok.kind,ok.glob,ok.blt,ok.above,ok.inj,ok.has,ok.cab,ok.hd,ok.frames,ok.stk,ok.exf,ok.bs,ok.bsz,ok.noex,ok.exfs,ok.funs,ok.frf⟩
section
variable {X:Cx}{pins:List (Addr×Obj)}{σ:St}{H:Hp}{s:Shared}{E:Value→Shared→Prop}
theorem Inv.wish (I:Inv X pins σ H s)(E:Value→Shared→Prop):Inv (X.wish E) pins σ H s:=⟨I.ok.wish E,I.os,I.bare,I.base,I.loc,I.cell,I.free,I.freeC,I.pin,I.hok,I.len⟩
theorem Inv.unwish (I:Inv (X.wish E) pins σ H s):Inv X pins σ H s:=⟨I.ok.unwish,I.os,I.bare,I.base,I.loc,I.cell,I.free,I.freeC,I.pin,I.hok,I.len⟩
theorem SP.unwish {D:UE}{f:Flow}{s':Shared}(h:SP (X.wish E) pins D f s'):SP X pins D f s':=by
 cases f with
 | next=>obtain ⟨σ',H',I,q⟩:=h;exact ⟨σ',H',I.unwish,q⟩
 | brk=>obtain ⟨σ',H',I,q⟩:=h;exact ⟨σ',H',I.unwish,q⟩
 | cont=>obtain ⟨σ',H',I,q⟩:=h;exact ⟨σ',H',I.unwish,q⟩
 | ret u=>obtain ⟨v,σ',H',I,r,q⟩:=h;exact ⟨v,σ',H',I.unwish,r,q⟩
theorem PSs.nox {st:List Stmt}{t:TS}(h:PSs X.nox st t):PSs X st t:=fun pins s σ H D I hw =>
 wpAny_mono (h pins s σ H D (I.wish _) hw) (fun _ _ q=>q.unwish) fun _ _ z=>False.elim z
end
section
variable {X:Cx}{st:Stmt}{rest:List Stmt}{t u:TS}{e:Expr}{te:TE}{pos:Pos}
def Zja:TS:=fun D σ H=>D.nx σ H
def tSeq (t u:TS):TS:=fun D σ H=>t { D with nx:=u D } σ H
theorem ZH:PSs X [] Zja:=fun _ _ σ H _ I h=>wpAny_execs_nil ⟨σ,H,I,h⟩
theorem Zg (h1:PS X st t)(h2:PSs X rest u):PSs X (st::rest) (tSeq t u):=by
 intro pins s σ H D I h
 refine wpAny_execs_cons (Zm (h1 pins s σ H { D with nx:=u D } I h) fun f s1 q=>?_)
 cases f with
 | next =>
   obtain ⟨σ',H',I',q⟩:=q
   exact h2 pins s1 σ' H' D I' q
 | ret v=>exact q
 | brk=>exact q
 | cont=>exact q
theorem Zi (h1:PS X st t):PSs X [st] t:=by
 intro pins s σ H D I h
 refine wpAny_execs_cons (Zm (h1 pins s σ H D I h) fun f s1 q=>?_)
 cases f with
 | next=>exact wpAny_execs_nil q
 | ret v=>exact q
 | brk=>exact q
 | cont=>exact q
theorem Inv.quiet {pins:List (Addr×Obj)}{σ:St}{H:Hp}{s:Shared}(I:Inv X pins σ H s):interactive X.env=false:=by simp [interactive,I.ok.kind]
def Zjd (te:TE):TS:=fun D σ H=>te σ H fun _ H1=>D.nx σ H1
theorem YH (he:PE X e te)(hs:swapsWith e none pos.line X.env=pure false:=by rfl):PS X (.Expr e pos) (Zjd te):=by
 intro pins s σ H D I h
 exact wpAny_Expr_any (Zm (he pins s σ H _ I h) fun v s1 ⟨x,H1,I1,r1,q1⟩=>⟨σ,H1,I1,q1⟩) I.quiet hs
def tRet (te:TE):TS:=fun D σ H=>te σ H D.rt
theorem Zv (he:PE X e te):PS X (.Return (some e) pos) (tRet te):=by
 intro pins s σ H D I h
 exact wpAny_Return_some (Zm (he pins s σ H _ I h) fun v s1 ⟨x,H1,I1,r1,q1⟩=>⟨x,σ,H1,I1,r1,q1⟩)
def tIfS (c:TT)(t u:TS):TS:=fun D σ H=>c σ H fun b H1=>if b=true then t D σ H1 else u D σ H1
theorem Yb {c:Expr}{a b:List Stmt}{tc:TT}(hc:PT X c tc)(ha:PSs X a t)(hb:PSs X b u):PS X (.If c a b pos) (tIfS tc t u):=by
 intro pins s σ H D I h
 refine wpAny_If (Zm (hc pins s σ H _ I h) fun d s1 ⟨H1,I1,q1⟩=>?_)
 cases d with
 | true=>exact ha pins s1 σ H1 D I1 q1
 | false=>exact hb pins s1 σ H1 D I1 q1
end
abbrev TG:=V→St→Hp→(St→Hp→Prop)→Prop
abbrev TGs:=List V→St→Hp→(St→Hp→Prop)→Prop
def PG (X:Cx)(target:Expr)(t:TG):Prop :=
 ∀ (pins:List (Addr×Obj)) (s:Shared) (σ:St) (H:Hp) (v:V) (u:Value) (Q:St→Hp→Prop),Inv X pins σ H s→RelV v u→t v σ H Q →
   wpAny (model X.prog X.w) X.A (assign target X.env u) (fun _ s'=>∃ σ' H',Inv X pins σ' H' s'∧Q σ' H') X.xe s
def PGs (X:Cx)(ts:List Expr)(t:TGs):Prop :=
 ∀ (pins:List (Addr×Obj)) (s:Shared) (σ:St) (H:Hp) (vs:List V) (us:List Value) (Q:St→Hp→Prop),Inv X pins σ H s→Vals vs us→t vs σ H Q →
   wpAny (model X.prog X.w) X.A (assignInOrder ((assignEach ts X.env).map (·.2)) us) (fun _ s'=>∃ σ' H',Inv X pins σ' H' s'∧Q σ' H') X.xe s
abbrev ZeQ:=V→V→V→Hp→(Hp→Prop)→Prop
def PSet (X:Cx)(t:ZeQ):Prop :=
 ∀ (pins:List (Addr×Obj)) (s:Shared) (σ:St) (H:Hp) (o i v:V) (ov iv u:Value) (Q:Hp→Prop),Inv X pins σ H s→RelV o ov→RelV i iv→RelV v u→t o i v H Q →
   wpAny (model X.prog X.w) X.A (setItem ov iv u) (fun _ s'=>∃ H',Inv X pins σ H' s'∧Q H') X.xe s
section
variable {X:Cx}{pos:Pos}
def Ua (i:Nat):TG:=fun v σ H Q=>Q (σ.set i (some v)) H
theorem Zx {i:Nat}{x:Str}(hN:X.N.Nodup)(hi:X.N[i]?=some x)(hx:Loc X.env.scope x)(hf:X.fn x=true∨X.env.scope.names.lookup x=some .local:=by first | exact .inl rfl | exact .inr rfl | assumption):PG X (.Name x pos) (Ua i):=by
 intro pins s σ H v u Q I r h
 exact wpAny_assign_Name (YD I hN hi hx r (fun s' I'=>⟨_,H,I',h⟩) hf)
def gNil:TGs:=fun vs σ H Q=>vs=[]∧Q σ H
def ZcL (t:TG)(u:TGs):TGs:=fun vs σ H Q=>∃ v r,vs=v::r∧t v σ H fun σ' H'=>u r σ' H' Q
theorem Xf:PGs X [] gNil:=by
 intro pins s σ H vs us Q I r h
 obtain ⟨e,h⟩:=h
 subst e
 cases r
 exact assignInOrder_nil ⟨σ,H,I,h⟩
theorem ZM {e:Expr}{es:List Expr}{t:TG}{u:TGs}(h1:PG X e t)(h2:PGs X es u)
   (hs:(assignEach (e::es) X.env).map (·.2)=assign e X.env::(assignEach es X.env).map (·.2):=by rfl):PGs X (e::es) (ZcL t u):=by
 intro pins s σ H vs us Q I r h
 obtain ⟨v,vr,e1,h⟩:=h
 subst e1
 cases r with
 | cons r rr =>
   rw [hs]
   refine assignInOrder_cons (Zm (h1 pins s σ H _ _ _ I r h) fun _ s1 ⟨σ1,H1,I1,q1⟩=>?_)
   exact h2 pins s1 σ1 H1 _ _ Q I1 rr q1
def gTup (K:PySem.W.Frag)(n:Nat)(t:TGs):TG:=fun v σ H Q=>∃ a xs,v=.ref a∧SqT K H a xs∧xs.length=n∧t xs σ H Q
theorem XD {es:List Expr}{k:Nat}{t:TGs}{n:Nat}(hc:X.calm=true)(h:PGs X es t)
   (hn:(assignEach es X.env).length=n:=by rfl) (hst:(assignEach es X.env).findIdx? (·.1)=none:=by rfl):PG X (.Tuple es k pos) (gTup X.K n t):=by
 intro pins s σ H v u Q I r hw
 obtain ⟨a,xs,e1,hq,hl,hw⟩:=hw
 subst e1
 cases r
 obtain ⟨its,rv,ht,hz⟩:=I.tuple hq
 refine assign_Tuple_tuple (I.ok.hd hc) ht (by simp [hn,← hl,rv.length]) hst fun h' hx=>?_
 have I1:Inv X pins σ H { s with heap:=h' }:=I.kept (t':=s.toks) fun b o e=>hx b o (Nat.ne_of_lt (Heap.lt_size e)) e
 exact h pins _ σ H xs _ Q I1 (by simpa using rv) hw
def gSub (to ti:TE)(t:ZeQ):TG:=fun v σ H Q=>to σ H fun o H1=>ti σ H1 fun i H2=>t o i v H2 fun H3=>Q σ H3
theorem Zar {o i:Expr}{to ti:TE}{t:ZeQ}(ho:PE X o to)(hi:PE X i ti)(hs:PSet X t)
   (ha:∀ v,assign (.Subscript o i pos) X.env v=(do
     let ov ← holding [v] (eval o X.env)
     let iv ← holding [v,ov] (eval i X.env)
     standAt pos
     holding [v,ov,iv] (setItem ov iv v)
     release [v,ov,iv] []):=by intro _;rfl):PG X (.Subscript o i pos) (gSub to ti t):=by
 intro pins s σ H v u Q I r h
 rw [ha]
 refine wpAny_bind (wpAny_holding (Zm (ho pins s σ H _ I h) fun ov s1 ⟨x,H1,I1,r1,q1⟩=>?_))
 refine wpAny_bind (wpAny_holding (Zm (hi pins s1 σ H1 _ I1 q1) fun iv s2 ⟨y,H2,I2,r2,q2⟩=>?_))
 refine wpAny_bind (wpAny_standAt (wpAny_bind (wpAny_holding (Zm (hs pins s2 σ H2 x y v ov iv u _ I2 r1 r2 r q2) fun _ s3 ⟨H3,I3,q3⟩=>?_))))
 exact wpAny_release ⟨σ,H3,I3,q3⟩
def ZcC (te:TE)(g:TG):TS:=fun D σ H=>te σ H fun x H1=>g x σ H1 D.nx
theorem Xk {tg e:Expr}{te:TE}{g:TG}(he:PE X e te)(hg:PG X tg g)(hs:swapsWithSole [tg] e pos.line X.env=pure false:=by rfl)(hw:swappedStores [tg] e X.env=pure none:=by rfl)
   (h1:(assignEach [tg] X.env).map (·.2)=[assign tg X.env]:=by rfl):PS X (.Assign [tg] e pos) (ZcC te g):=by
 intro pins s σ H D I h
 refine wpAny_Assign_stores (Zm (he pins s σ H _ I h) fun v s1 ⟨x,H1,I1,r1,q1⟩=>?_) hs hw
 rw [h1]
 exact Zm (hg pins s1 σ H1 x v _ I1 r1 q1) fun _ s2 q=>q
theorem ZA {i:Nat}{x:Str}{e:Expr}{te:TE}{pos':Pos}(hN:X.N.Nodup)(hi:X.N[i]?=some x)(hx:Loc X.env.scope x)(he:PE X e te)(hs:swapsWith e (some (.Name x pos')) pos.line X.env=pure false:=by rfl)(hf:X.fn x=true∨X.env.scope.names.lookup x=some .local:=by first | exact .inl rfl | exact .inr rfl | assumption) :
   PS X (.Assign [.Name x pos'] e pos) (ZcC te (Ua i)):=by
 intro pins s σ H D I h
 refine wpAny_Assign_Name (Zm (he pins s σ H _ I h) fun v s1 ⟨y,H1,I1,r1,q1⟩=>?_) hs
 exact YD I1 hN hi hx r1 (fun s2 I2=>⟨_,H1,I2,q1⟩) hf
def tPar (i j:Nat)(ta:TA):TS:=fun D σ H=>ta σ H fun vs H1=>∃ v w,vs=[v,w]∧D.nx ((σ.set i (some v)).set j (some w)) H1
theorem Zav {i j:Nat}{x y:Str}{a b:Expr}{ta:TA}{px py pt:Pos}{kt k2 pt2}(hc:X.calm=true)(hN:X.N.Nodup)(hi:X.N[i]?=some x)(hj:X.N[j]?=some y)(hij:i≠j)
   (hx:X.env.scope.names.lookup x=some .local) (hy:X.env.scope.names.lookup y=some .local) (ha:PA X [a,b] ta)
   (hw:swappedStores [.Tuple [.Name x px,.Name y py] kt pt] (.Tuple [a,b] k2 pt2) X.env=pure (some [x,y]))
   (hs:swapsWithSole [.Tuple [.Name x px,.Name y py] kt pt] (.Tuple [a,b] k2 pt2) pos.line X.env=pure false:=by rfl) :
   PS X (.Assign [.Tuple [.Name x px,.Name y py] kt pt] (.Tuple [a,b] k2 pt2) pos) (tPar i j ta):=by
 intro pins s σ H D I h
 rw [exec_Assign_arm]
 refine wpAny_bind (wpAny_standAt ?_)
 rw [hs]
 refine wpAny_bind (wpAny_pure ?_)
 rw [if_neg (by decide)]
 refine wpAny_bind (Tuple_ (Zm (ha _ pins s σ H _ I h) fun us s1 ⟨vs,H1,I1,r1,q1⟩=>?_))
 obtain ⟨v,w,e1,q1⟩:=q1
 subst e1
 obtain ⟨u1,u2,rfl,rv,rw'⟩:∃ u1 u2,us=[u1,u2]∧RelV v u1∧RelV w u2:=by
   cases r1 with
   | cons p q =>
     cases q with
     | cons p' q' =>
       cases q'
       exact ⟨_,_,rfl,p,p'⟩
 refine wpAny_newObj_type ?_ (by show 2≤sizeLine;decide)
 have I2:Inv X pins σ H1 { s1 with heap:=s1.heap.push { cls:=.type "tuple",data:=.seq [u1,u2].toArray } }:=I1.kept (t':=s1.toks) fun b o e=>Heap.get?_push_of_some _ e
 rw [hw]
 refine wpAny_bind (wpAny_pure ?_)
 show wpAny (model X.prog X.w) X.A (do rule "assign.swapped-stores";let items ← unpackItems (.ref s1.heap.objs.size) 2 none;assignInOrder [fun v=>bindName X.env y v,fun v=>bindName X.env x v] items.reverse;pure Flow.next) _ _ _
 refine wpAny_bind (wpAny_rule (wpAny_bind (unpackItems_tuple (items:=#[u1,u2]) (I.ok.hd hc) (IsTup.new s1.heap _) fun h' hx'=>?_)))
 have I3:=I2.kept (h':=h') (t':=s1.toks) fun b o e=>hx' b o (Nat.ne_of_lt (Heap.lt_size e)) e
 show wpAny _ _ (assignInOrder [fun v=>bindName X.env y v,fun v=>bindName X.env x v] [u2,u1] >>= fun _=>pure Flow.next) _ _ _
 refine wpAny_bind (assignInOrder_cons (wpAny_bindName (YD I3 hN hj (.inl hy) rw' (fun s2 I4=>?_) (.inr hy))))
 refine assignInOrder_cons (wpAny_bindName (YD I4 hN hi (.inl hx) rv (fun s3 I5=>assignInOrder_nil (wpAny_pure ?_)) (.inr hx)))
 rw [List.set_comm _ _ (Ne.symm hij)] at I5
 exact ⟨_,H1,I5,q1⟩
end
section
variable {X:Cx}{pos:Pos}
end
structure It where
 go:Nat→Hp→Prop
 yld:Nat→Hp→V→Hp→Prop
 stop:Nat→Hp→Prop
def YC (X:Cx)(pins:List (Addr×Obj))(H:Hp)(b:Addr):Prop :=
 H b=none∧b≠X.env.locals∧b ∉ X.fs∧(b∈X.ex∨X.s₀.heap.objs.size≤b)∧(∀ x c,X.env.cells.lookup x=some c→c≠b)∧∀ p∈X.pn++pins,p.1≠b
theorem Inv.fpOk {X:Cx}{pins:List (Addr×Obj)}{σ:St}{H H':Hp}{s:Shared}{b:Addr}(I:Inv X pins σ H s)(hb:s.heap.objs.size≤b)(hn:H' b=none):YC X pins H' b:=by
 refine ⟨hn,Nat.ne_of_gt (Nat.lt_of_lt_of_le I.lt hb),I.nofs hb,.inr (Nat.le_trans I.sz hb),fun x c e z=>?_,fun p hp z=>?_⟩
 · obtain ⟨v,q⟩:=I.cell x c e
   exact absurd (Nat.lt_of_lt_of_le q.lt (by rw [z];exact hb)) (Nat.lt_irrefl _)
 · exact absurd (Nat.lt_of_lt_of_le (Heap.lt_size (I.pin p hp).1) (by rw [z];exact hb)) (Nat.lt_irrefl _)
structure WP (P:Program)(w:World)(K:PySem.W.Frag)(tg:Expr)(J:It)(fp:List Addr)(it:Addr)(tn:Nat→Heap→Prop):Prop where
 mem:it∈fp
 obj:∀ i h,tn i h→∀ b∈fp,∃ o,h.get? b=some o∧∀ v,o.data≠.cell v
 keep:∀ i h h',tn i h→(∀ b∈fp,∀ o,h.get? b=some o→h'.get? b=some o)→tn i h'
 item:∀ (X:Cx),X.prog=P→X.w=w→X.K=K→X.calm=true→∀ (i:Nat) (pins:List (Addr×Obj)) (s:Shared) (σ:St) (H:Hp) (E:Value→Shared→Prop),Inv X pins σ H s→(∀ b∈fp,YC X pins H b)→tn i s.heap→J.go i H →
   wpAny (model P w) X.A (pyNext (.ref it)) (fun r s1=>∃ u,r=some u ∧
     wpAny (model P w) X.A (letOwnedTupleGo tg (.ref it) u) (fun _ s2=>∃ x H',Inv X pins σ H' s2∧RelV x u∧J.yld i H x H'∧tn (i+1) s2.heap∧∀ b∈fp,H' b=none) E s1) E s
 done:∀ (X:Cx),X.prog=P→X.w=w→X.K=K→X.calm=true→∀ (i:Nat) (pins:List (Addr×Obj)) (s:Shared) (σ:St) (H:Hp) (E:Value→Shared→Prop),Inv X pins σ H s→(∀ b∈fp,YC X pins H b)→tn i s.heap→J.stop i H →
   wpAny (model P w) X.A (pyNext (.ref it)) (fun r s1=>r=none∧Inv X pins σ H s1) E s
 self:∀ (A:Around) (i:Nat) (s:Shared) (Q:Value→Shared→Prop) (E:Value→Shared→Prop),tn i s.heap→Q (.ref it) s→wpAny (model P w) A (pyIter (.ref it)) Q E s
abbrev TI:=St→Hp→(It→Hp→Prop)→Prop
def PIE (X:Cx)(pins:List (Addr×Obj))(σ:St)(tg:Expr)(R:It→Hp→Prop)(itv:Value)(s2:Shared):Prop :=
 ∃ (it:Addr) (fp:List Addr) (tn:Nat→Heap→Prop) (J:It) (H':Hp),itv=.ref it∧Inv X pins σ H' s2∧WP X.prog X.w X.K tg J fp it tn∧tn 0 s2.heap∧(∀ b∈fp,YC X pins H' b)∧R J H'
def PI (X:Cx)(tg iter:Expr)(wi:TI):Prop :=
 ∀ (pins:List (Addr×Obj)) (s:Shared) (σ:St) (H:Hp) (R:It→Hp→Prop),Inv X pins σ H s→wi σ H R →
   wpAny (model X.prog X.w) X.A (eval iter X.env) (fun v s1=>wpAny (model X.prog X.w) X.A (pyIter v) (PIE X pins σ tg R) X.xe s1) X.xe s
theorem ZcY {M:Model}{A:Around}{E:Value→Shared→Prop}{s:Shared}{tg:Expr}{it:Addr}{u:Value}{o:Obj}{n:String}{vs:Array Value}{Q:Unit→Shared→Prop}(ho:s.heap.get? it=some o)(hc:o.cls=.type n)(hd:o.data=.fields vs)
   (hn:["enumerate","zip","dict_itemiterator","dict_reverseitemiterator","odict_iterator","itertools.zip_longest","itertools.pairwise"].contains n=false) (hQ:Q () s):wpAny M A (letOwnedTupleGo tg (.ref it) u) Q E s:=by
 unfold letOwnedTupleGo
 cases tg <;> first
   | exact wpAny_pure hQ
   | (cases u<;>first
       | exact wpAny_pure hQ
       | (refine wpAny_bind (wpAny_load ho ?_)
          rw [hc,hd]
          show wpAny M A (if (["enumerate","zip","dict_itemiterator","dict_reverseitemiterator","odict_iterator","itertools.zip_longest","itertools.pairwise"].contains n&&vs[0]? == some (rawInt _))=true then _ else _) Q E s
          rw [if_neg (by intro h;rw [hn,Bool.false_and] at h;cases h)]
          exact wpAny_pure hQ))
def Itl (K:PySem.W.Frag)(a:Addr):It :=
 ⟨fun i H=>∃ xs x,SqL K H a xs∧xs[i]?=some x,fun i H x H'=>H'=H∧∀ xs,SqL K H a xs→xs[i]?=some x,fun i H=>∃ xs,SqL K H a xs∧xs.length≤i⟩
def Vf (lo:Int)(n:Nat):It:=⟨fun i _=>i < n,fun i H x H'=>H'=H∧x=.int (lo+i),fun i _=>n≤i⟩
theorem Zdi {P:Program}{w:World}{K:PySem.W.Frag}{tg:Expr}(a it:Addr):WP P w K tg (Itl K a) [it] it (fun i h=>h.IsListIter it a i) where
 mem:=by simp
 obj:=fun i h st b hb=>by
   have e:b=it:=by simpa using hb
   subst e
   obtain ⟨o,e,c,d⟩:=st
   exact ⟨o,e,fun v z=>by rw [d] at z;cases z⟩
 keep:=fun i h h' st k=>st.at fun o e=>k it (by simp) o e
 item:=by
   intro X hP hw hK hc i pins s σ H E I hf st hg
   subst hP hw hK
   obtain ⟨xs,x,hq,hx⟩:=hg
   obtain ⟨its,rv,p,hz⟩:=I.list hq
   obtain ⟨u,hu,ru⟩:=rv.get hx
   obtain ⟨f0,f1,f2,f3,f4,f5⟩:=hf it (by simp)
   refine wpAny_pyNext_list_item st p.isList (x:=u) (by simpa using hu) fun h' st' sb=>?_
   have I1:Inv X pins σ H { s with heap:=h' }:=I.turned (t':=s.toks) (fun b o hb e=>(sb.2 b hb).trans e) f0 f1 f3 f4 f5
   obtain ⟨o,e,c,d⟩:=id st'
   exact ⟨u,rfl,ZcY (s:={ s with heap:=h' }) e c d (by decide) ⟨x,H,I1,ru,⟨rfl,fun ys hy=>by rw [I.list_inj hy hq];exact hx⟩,st',fun b hb=>(hf b hb).1⟩⟩
 done:=by
   intro X hP hw hK hc i pins s σ H E I hf st hg
   subst hP hw hK
   obtain ⟨xs,hq,hx⟩:=hg
   obtain ⟨its,rv,p,hz⟩:=I.list hq
   obtain ⟨f0,f1,f2,f3,f4,f5⟩:=hf it (by simp)
   have hl:=rv.length
   exact wpAny_pyNext_list_end (I.ok.hd hc) st p.isList (by simp;omega) fun h' eb=>⟨rfl,I.turned (t':=s.toks) (fun b o hb e=>eb b o hb e) f0 f1 f3 f4 f5⟩
 self:=fun _ _ _ _ _ st h=>wpAny_pyIter_listiter st h
theorem ZcK {P:Program}{w:World}{K:PySem.W.Frag}{tg:Expr}(it:Addr)(lo:Int)(n:Nat):WP P w K tg (Vf lo n) [it] it (fun i h=>IsRangeIter h it (lo+(i:Nat) * 1) ((n:Int) - (i:Nat)) 1) where
 mem:=by simp
 obj := fun i h st b hb=>by
   have e:b=it:=by simpa using hb
   subst e
   exact ⟨_,st,fun v z=>by
     have z':Data.fields _=Data.cell v:=z
     cases z'⟩
 keep:=fun i h h' st k=>k it (by simp) _ st
 item:=by
   intro X hP hw hK hc i pins s σ H E I hf st hg
   subst hP hw hK
   obtain ⟨f0,f1,f2,f3,f4,f5⟩:=hf it (by simp)
   have W:=Walks.range (prog:=X.prog) (w:=X.w) (I.ok.hd hc) it lo 1 n
   refine W.item i s _ _ hg st fun v h' tk hv st' kk=>?_
   obtain ⟨t,rfl⟩:=hv
   have I1:Inv X pins σ H { s with heap:=h',toks:=tk }:=I.turned (fun b o hb e=>kk b o (by simpa using hb) e) f0 f1 f3 f4 f5
   refine ⟨_,rfl,ZcY (s:={ s with heap:=h',toks:=tk }) (n:="range_iterator") st' rfl rfl (by decide) ⟨.int (lo+i),H,I1,⟨t,?_⟩,⟨rfl,rfl⟩,st',fun b hb=>(hf b hb).1⟩⟩
   rw [Int.mul_one]
 done:=by
   intro X hP hw hK hc i pins s σ H E I hf st hg
   subst hP hw hK
   obtain ⟨f0,f1,f2,f3,f4,f5⟩:=hf it (by simp)
   exact wpAny_pyNext_range_end (I.ok.hd hc) st (by have:n≤i:=hg;omega) fun h' eb=>⟨rfl,I.turned (t':=s.toks) (fun b o hb e=>eb b o hb e) f0 f1 f3 f4 f5⟩
 self:=fun _ _ _ _ _ st h=>wpAny_pyIter_rangeiter st h
end L2
namespace L2
open PySem PySem.Spec PyProof.Rows
section
variable {X:Cx}{tg:Expr}
def ZiP (K:PySem.W.Frag)(tl:TE):TI:=fun σ H R=>tl σ H fun x H1=>∃ a,x=.ref a∧(∃ xs,SqL K H1 a xs)∧R (Itl K a) H1
theorem ZfY {l:Expr}{tl:TE}(hl:PE X l tl):PI X tg l (ZiP X.K tl):=by
 intro pins s σ H R I h
 refine Zm (hl pins s σ H _ I h) fun v s1 ⟨x,H1,I1,r1,q1⟩=>?_
 obtain ⟨a,e,⟨xs,hq⟩,q⟩:=q1
 subst e
 cases r1
 obtain ⟨its,rv,p,hz⟩:=I1.list hq
 refine wpAny_pyIter_list p.isList ?_
 refine ⟨s1.heap.objs.size,[s1.heap.objs.size],_,_,H1,rfl,I1.kept (t':=s1.toks) fun b o e=>Heap.get?_push_of_some _ e,Zdi a _,⟨_,Heap.get?_push_size _ rfl,rfl,rfl⟩,fun b hb=>?_,q⟩
 have e:b=s1.heap.objs.size:=by simpa using hb
 subst e
 exact I1.fpOk (Nat.le_refl _) (I1.hok.fresh (Nat.le_refl _))
theorem ZeI {pins:List (Addr×Obj)}{σ:St}{H:Hp}{s:Shared}{R:It→Hp→Prop}{E:Value→Shared→Prop}{lo hi:Int}{t u v:Tok}{tk:Nat}(I:Inv X pins σ H s)(h1:-(2 ^ 62)≤lo)(h2:lo < 2 ^ 62)(h3:-(2 ^ 62)≤hi)(h4:hi < 2 ^ 62)
   (q:R (Vf lo (hi - lo).toNat) H):wpAny (model X.prog X.w) X.A (pyIter (.ref s.heap.objs.size)) (PIE X pins σ tg R) E { s with heap:=s.heap.push { cls:=.type "range",data:=.fields #[.int lo t,.int hi u,.int 1 v] },toks:=tk }:=by
 refine wpAny_pyIter_range (IsRange.new ..) (small_one h1 h2 h3 h4) ?_
 have I1:Inv X pins σ H { s with heap:=s.heap.push { cls:=.type "range",data:=.fields #[.int lo t,.int hi u,.int 1 v] },toks:=tk }:=I.kept fun b o e=>Heap.get?_push_of_some _ e
 refine ⟨(s.heap.push { cls:=.type "range",data:=.fields #[.int lo t,.int hi u,.int 1 v] }).objs.size,[(s.heap.push { cls:=.type "range",data:=.fields #[.int lo t,.int hi u,.int 1 v] }).objs.size],_,_,H,rfl,
   I1.kept (t':=tk) fun b o e=>Heap.get?_push_of_some _ e,ZcK _ lo (hi - lo).toNat,?_,fun b hb=>?_,q⟩
 · have e1:lo+((0:Nat):Int) * 1=lo:=by simp
   have e2:(((hi - lo).toNat:Nat):Int) - ((0:Nat):Int)=Builtin.Range.rangeSize lo hi 1:=by rw [rangeSize_one];split<;>omega
   show IsRangeIter _ _ (lo+((0:Nat):Int) * 1) ((((hi - lo).toNat:Nat):Int) - ((0:Nat):Int)) 1
   rw [e1,e2]
   exact Heap.get?_push_size _ rfl
 · have e:b=(s.heap.push { cls:=.type "range",data:=.fields #[.int lo t,.int hi u,.int 1 v] }).objs.size:=by simpa using hb
   subst e
   exact I1.fpOk (Nat.le_refl _) (I1.hok.fresh (Nat.le_refl _))
def Ziv (ta:TA):TI:=fun σ H R=>ta σ H fun vs H1=>∃ j:Int,vs=[.int j]∧-(2 ^ 62)≤j∧j < 2 ^ 62∧R (Vf 0 j.toNat) H1
theorem YR {a:Expr}{ta:TA}{p pos:Pos}(hg:Gl X "range")(hm:X.mg "range"=none)(ha:PA X [a] ta)(hs:starEach [a] X.env=[(false,eval a X.env)]:=by rfl):PI X tg (.Call (.Name "range" p) [a] [] pos) (Ziv ta):=by
 intro pins s σ H R I h
 refine Call_ (XI I hg hm boot_range (PyProof.Rows.callWith_type1 (Zm (ha pos pins s σ H _ I h) fun us s1 ⟨vs,H1,I1,r1,q1⟩=>?_) hs rfl))
 obtain ⟨j,e,q1,q2,q⟩:=q1
 subst e
 cases r1 with
 | cons r rr =>
   cases rr
   obtain ⟨t,rfl⟩:=r
   exact call_range_1 (ZeI I1 (by omega) (by omega) q1 q2 (by simpa using q))
def tFor (wi:TI)(g:TG)(tb:TS):TS:=fun D σ H=>wi σ H fun J H1=>∃ W:Nat→Nat→St→Hp→Prop,(∃ m,W 0 m σ H1)∧∀ i m σ H,W i m σ H →
 (J.stop i H∧D.nx σ H)∨(J.go i H∧∃ N:St→Hp→Prop,(∀ σ' H',N σ' H'→∃ m',m' < m∧W (i+1) m' σ' H')∧∀ x H',J.yld i H x H'→g x σ H' fun σ2 H2=>tb { D with nx:=N,ct:=N,bk:=D.nx } σ2 H2)
def Ve (fp:List Addr)(h:Heap):List (Addr×Obj):=fp.filterMap fun b=>(h.get? b).map fun o=>(b,o)
theorem YF {fp:List Addr}{h:Heap}{b:Addr}{o:Obj}(hb:b∈fp)(e:h.get? b=some o):(b,o)∈Ve fp h:=List.mem_filterMap.mpr ⟨b,hb,by rw [e];rfl⟩
theorem ZdO {fp:List Addr}{h:Heap}{p:Addr×Obj}(hp:p∈Ve fp h):p.1∈fp∧h.get? p.1=some p.2:=by
 obtain ⟨b,hb,e⟩:=List.mem_filterMap.mp hp
 cases q:h.get? b with
 | none=>rw [q] at e;cases e
 | some o =>
   rw [q] at e
   have e':(b,o)=p:=Option.some.inj e
   subst e'
   exact ⟨hb,q⟩
theorem Inv.pinned {pins:List (Addr×Obj)}{σ:St}{H:Hp}{s:Shared}{fp:List Addr}(I:Inv X pins σ H s)(hf:∀ b∈fp,YC X pins H b)(ho:∀ b∈fp,∃ o,s.heap.get? b=some o∧∀ v,o.data≠.cell v):Inv X (pins++Ve fp s.heap) σ H s :=
 I.pins_of fun p hp=>(List.mem_append.mp hp).elim (fun z=>I.pin p (List.mem_append_right _ z)) fun z=>by
   obtain ⟨hb,e⟩:=ZdO z
   obtain ⟨f0,f1,f2,_⟩:=hf p.1 hb
   obtain ⟨o,e',d⟩:=ho p.1 hb
   rw [e] at e';cases e'
   exact ⟨e,f0,f1,f2,d⟩
theorem Inv.unpinned {pins pl:List (Addr×Obj)}{σ:St}{H:Hp}{s:Shared}(I:Inv X (pins++pl) σ H s):Inv X pins σ H s:=I.pins_of fun p hp=>I.pin p (List.mem_append_right _ (List.mem_append_left _ hp))
theorem WC {iter:Expr}{body:List Stmt}{wi:TI}{g:TG}{tb:TS}{pos:Pos}(hp:PassesOwn (model X.prog X.w) X.A X.env X.xe)(hc:X.calm=true)(hi:PI X tg iter wi)(hg:PG X tg g)(hb:PSs X body tb)
   (hs:∀ x,foldedSetIterable iter X.env x=pure x:=by intro _;rfl):PS X (.For tg iter body [] pos) (tFor wi g tb):=by
 intro pins s σ H D I h
 refine wpAny_For (Zm (hi pins s σ H _ I h) fun v s1 h1=>Zm h1 fun itv s2 h2=>?_) hs
 obtain ⟨it,fp,tn,J,H2,e,I2,T,st2,f2,W,⟨m0,w0⟩,turn⟩:=h2
 subst e
 have stat:∀ {H':Hp},(∀ b∈fp,H' b=none)→∀ b∈fp,YC X pins H' b:=fun hn b hb=>⟨hn b hb,(f2 b hb).2⟩
 refine codeAny_forLoop_any (fun n s'=>∃ i σ' H',Inv X pins σ' H' s'∧tn i s'.heap∧(∀ b∈fp,H' b=none)∧W i n σ' H') ?_ m0 ⟨0,σ,H2,I2,st2,fun b hb=>(f2 b hb).1,w0⟩
 rintro n s3 ⟨i,σ3,H3,I3,st3,fr3,w3⟩
 rcases turn i n σ3 H3 w3 with ⟨stop,qn⟩ | ⟨go,N,hN,step⟩
 · refine wpAny_passesOwn hp (Zm (T.done X rfl rfl rfl hc i pins s3 σ3 H3 X.xe I3 (stat fr3) st3 stop) fun r s4 ⟨hr,I4⟩=>?_)
   subst hr
   exact wpAny_execs_nil ⟨σ3,H3,I4,qn⟩
 · refine wpAny_passesOwn hp (Zm (T.item X rfl rfl rfl hc i pins s3 σ3 H3 X.xe I3 (stat fr3) st3 go) fun r s4 ⟨u,hr,h4⟩=>?_)
   subst hr
   refine wpAny_passesOwn hp (Zm h4 fun _ s5 ⟨x,H5,I5,r5,y5,st5,fr5⟩=>?_)
   have I5':=I5.pinned (stat fr5) (T.obj _ _ st5)
   refine wpAny_passesOwn hp (Zm (hg _ s5 σ3 H5 x u _ I5' r5 (step x H5 y5)) fun _ s6 ⟨σ6,H6,I6,q6⟩=>?_)
   refine wpAny_passesOwn hp (Zm (hb _ s6 σ6 H6 _ I6 q6) fun f s7 q7=>?_)
   have again:∀ {σ7:St} {H7:Hp},Inv X (pins++Ve fp s5.heap) σ7 H7 s7→N σ7 H7→∃ m,m < n∧∃ i σ' H',Inv X pins σ' H' s7∧tn i s7.heap∧(∀ b∈fp,H' b=none)∧W i m σ' H':=fun {σ7 H7} I7 n7=>by
     obtain ⟨m',hm,w7⟩:=hN σ7 H7 n7
     refine ⟨m',hm,i+1,σ7,H7,I7.unpinned,T.keep _ _ _ st5 fun b hb o e=>(I7.pin (b,o) (List.mem_append_right _ (List.mem_append_right _ (YF hb e)))).1,fun b hb=>?_,w7⟩
     obtain ⟨o,e,d⟩:=T.obj _ _ st5 b hb
     exact (I7.pin (b,o) (List.mem_append_right _ (List.mem_append_right _ (YF hb e)))).2.1
   cases f with
   | next=>obtain ⟨σ7,H7,I7,n7⟩:=q7;exact again I7 n7
   | cont=>obtain ⟨σ7,H7,I7,n7⟩:=q7;exact again I7 n7
   | brk=>obtain ⟨σ7,H7,I7,q7⟩:=q7;exact ⟨σ7,H7,I7.unpinned,q7⟩
   | ret v=>obtain ⟨x7,σ7,H7,I7,r7,q7⟩:=q7;exact ⟨x7,σ7,H7,I7.unpinned,r7,q7⟩
end
theorem XQ {lo:Int}{n:Nat}{g:TG}{tb:TS}{D:UE}{σ:St}{H:Hp}(Pv:Nat→St→Hp→Prop)(h0:Pv 0 σ H)
   (hs:∀ i σ H,i < n→Pv i σ H→g (.int (lo+i)) σ H fun σ2 H2=>tb { D with nx:=Pv (i+1),ct:=Pv (i+1),bk:=D.nx } σ2 H2) (hd:∀ σ H,Pv n σ H→D.nx σ H) :
   ∃ W:Nat→Nat→St→Hp→Prop,(∃ m,W 0 m σ H)∧∀ i m σ H,W i m σ H →
     ((Vf lo n).stop i H∧D.nx σ H)∨((Vf lo n).go i H∧∃ N:St→Hp→Prop,(∀ σ' H',N σ' H'→∃ m',m' < m∧W (i+1) m' σ' H')∧∀ x H',(Vf lo n).yld i H x H'→g x σ H' fun σ2 H2=>tb { D with nx:=N,ct:=N,bk:=D.nx } σ2 H2):=by
 refine ⟨fun i m σ H=>m=n - i∧i≤n∧Pv i σ H,⟨n,by simp,Nat.zero_le _,h0⟩,?_⟩
 rintro i m σ H ⟨rfl,hi,p⟩
 by_cases hlt:i < n
 · refine .inr ⟨hlt,Pv (i+1),fun σ' H' p'=>⟨n - (i+1),by omega,rfl,hlt,p'⟩,fun x H' y=>?_⟩
   obtain ⟨e,y⟩:=y
   subst e y
   exact hs i σ _ hlt p
 · have e:i=n:=by omega
   subst e
   exact .inl ⟨Nat.le_refl _,hd σ H p⟩
end L2
namespace L2
open PySem PySem.Spec PyProof.Rows
abbrev R2:=V→V→Hp→VK→Prop
def Yx (X:Cx)(f:Value→Value→Sem Value)(r:R2):Prop :=
 ∀ (pins:List (Addr×Obj)) (s:Shared) (σ:St) (H:Hp) (x y:V) (v u:Value) (Q:VK),Inv X pins σ H s→RelV x v→RelV y u→r x y H Q →
   wpAny (model X.prog X.w) X.A (f v u) (EP X pins σ Q) X.xe s
def Yr (X:Cx)(f:Value)(r:List V→Hp→VK→Prop):Prop :=
 ∀ (pins:List (Addr×Obj)) (s:Shared) (σ:St) (H:Hp) (xs:List V) (us:List Value) (Q:VK),Inv X pins σ H s→Vals xs us→r xs H Q →
   wpAny (model X.prog X.w) X.A (call f us) (EP X pins σ Q) X.xe s
def tOp (r:R2)(ta tb:TE):TE:=fun σ H Q=>ta σ H fun x H1=>tb σ H1 fun y H2=>r x y H2 Q
def rI (C:Int→Int→Prop)(g:Int→Int→V):R2:=fun x y H Q=>∃ i j,x=.int i∧y=.int j∧C i j∧Q (g i j) H
def VL (g:Int→Int→V):R2:=fun x y H Q=>∃ i j,x=.int i∧y=.int j∧Q (g i j) H
section
variable {X:Cx}{a b c:Expr}{ta tb tc:TE}{pos:Pos}
theorem ZeT (ha:PE X a ta)(hb:PE X b tb){pins:List (Addr×Obj)}{s:Shared}{σ:St}{H:Hp}{R:V→V→Hp→Prop}(I:Inv X pins σ H s)
   (h:ta σ H fun x H1=>tb σ H1 fun y H2=>R x y H2) {Q:Value→Shared→Prop} {f:Value→Value→Sem Value}
   (hf:∀ v u s2 x y H2,Inv X pins σ H2 s2→RelV x v→RelV y u→R x y H2→wpAny (model X.prog X.w) X.A (f v u) Q X.xe s2) :
   wpAny (model X.prog X.w) X.A (eval a X.env) (fun v s₁=>wpAny (model X.prog X.w) X.A (eval b X.env) (fun u s₂=>wpAny (model X.prog X.w) X.A (f v u) Q X.xe s₂) X.xe s₁) X.xe s:=by
 refine Zm (ha pins s σ H _ I h) fun v s1 ⟨x,H1,I1,r1,q1⟩=>?_
 refine Zm (hb pins s1 σ H1 _ I1 q1) fun u s2 ⟨y,H2,I2,r2,q2⟩=>?_
 exact hf v u s2 x y H2 I2 r1 r2 q2
theorem Zn {op:Operator}{r:R2}(ho:Yx X (binaryOp op) r)(ha:PE X a ta)(hb:PE X b tb):PE X (.BinOp a op b pos) (tOp r ta tb):=by
 intro pins s σ H Q I h
 exact wpAny_BinOp (ZeT ha hb I h fun v u s2 x y H2 I2 rx ry q=>ho pins s2 σ H2 x y v u Q I2 rx ry q)
theorem opI {f:Value→Value→Sem Value}{C:Int→Int→Prop}{g:Int→Int→Int}
   (rule:∀ (i j:Int) (t u:Tok) (s:Shared) (Q:Value→Shared→Prop) (E:Value→Shared→Prop),C i j→Q (.int (g i j) s.toks) { s with toks:=s.toks+1 }→wpAny (model X.prog X.w) X.A (f (.int i t) (.int j u)) Q E s) :
   Yx X f (rI C fun i j=>.int (g i j)):=by
 intro pins s σ H x y v u Q I rx ry h
 obtain ⟨i,j,rfl,rfl,hc,q⟩:=h
 obtain ⟨t,rfl⟩:=rx
 obtain ⟨t',rfl⟩:=ry
 exact rule i j t t' s _ _ hc ⟨.int (g i j),H,I.tok _,⟨_,rfl⟩,q⟩
theorem opI0 {f:Value→Value→Sem Value}{g:Int→Int→Int}
   (rule:∀ (i j:Int) (t u:Tok) (s:Shared) (Q:Value→Shared→Prop) (E:Value→Shared→Prop),Q (.int (g i j) s.toks) { s with toks:=s.toks+1 }→wpAny (model X.prog X.w) X.A (f (.int i t) (.int j u)) Q E s) :
   Yx X f (VL fun i j=>.int (g i j)):=by
 intro pins s σ H x y v u Q I rx ry h
 obtain ⟨i,j,rfl,rfl,q⟩:=h
 obtain ⟨t,rfl⟩:=rx
 obtain ⟨t',rfl⟩:=ry
 exact rule i j t t' s _ _ ⟨.int (g i j),H,I.tok _,⟨_,rfl⟩,q⟩
theorem Zcm {f:Value→Value→Sem Value}{g:Int→Int→Bool}
   (rule:∀ (i j:Int) (t u:Tok) (s:Shared) (Q:Value→Shared→Prop) (E:Value→Shared→Prop),Q (.bool (g i j)) s→wpAny (model X.prog X.w) X.A (f (.int i t) (.int j u)) Q E s) :
   Yx X f (VL fun i j=>.bl (g i j)):=by
 intro pins s σ H x y v u Q I rx ry h
 obtain ⟨i,j,rfl,rfl,q⟩:=h
 obtain ⟨t,rfl⟩:=rx
 obtain ⟨t',rfl⟩:=ry
 exact rule i j t t' s _ _ ⟨.bl (g i j),H,I,rfl,q⟩
def CDiv (i j:Int):Prop:=0 < j∧j < 1073741824
def CPow (i j:Int):Prop:=0≤j∧j≤1000000∧i.natAbs < 2 ^ 64
def CMul (i j:Int):Prop:=(-(2 ^ 64) < i∧i < 2 ^ 64)∨(-(2 ^ 64) < j∧j < 2 ^ 64)
theorem CMul.ok {i j:Int}(h:CMul i j):IntMulOk i j:=by
 rcases h with ⟨h1,h2⟩ | ⟨h1,h2⟩
 · exact .of_left (intBits_le_64 h1 h2)
 · exact .of_right (intBits_le_64 h1 h2)
theorem Yp:Yx X (binaryOp .Add) (VL fun i j=>.int (i+j)):=opI0 fun _ _ _ _ _ _ _ q=>add_int q
theorem Xb:Yx X (binaryOp .Sub) (VL fun i j=>.int (i - j)):=opI0 fun _ _ _ _ _ _ _ q=>sub_int q
theorem XC:Yx X (binaryOp .Mult) (rI CMul fun i j=>.int (i * j)):=opI fun _ _ _ _ _ _ _ hc q=>mul_int q hc.ok
theorem ZbJ:Yx X (binaryOp .FloorDiv) (rI CDiv fun i j=>.int (i / j)):=opI fun i j _ _ _ _ _ hc q=>by
 have h1:(0:Int) < j:=hc.1
 have h2:j < 1073741824:=hc.2
 exact floordiv_int (by omega) (by rw [Int.fdiv_eq_ediv_of_nonneg i (by omega)];exact q) (.inl (PyProof.noPylong_small (by omega)))
theorem YY:Yx X (binaryOp .Mod) (rI (fun _ j=>0 < j) fun i j=>.int (i % j)):=opI fun i j _ _ _ _ _ hc q=>by
 have h1:(0:Int) < j:=hc
 exact mod_int' (by omega) (by rw [Int.fmod_eq_emod_of_nonneg i (by omega)];exact q)
theorem UQ:Yx X (binaryOp .Pow) (rI CPow fun i j=>.int (i ^ j.toNat)):=opI fun _ _ _ _ _ _ _ hc q=>pow_int_small hc.1 hc.2.1 hc.2.2 q
end
def scal:V→V→Bool
 | .non,.non=>true | .non,.int _=>true | .int _,.non=>true | .non,.bl _=>true | .bl _,.non=>true | .non,.str _=>true | .str _,.non=>true
 | .int _,.int _=>true | .bl _,.bl _=>true | .str _,.str _=>true | .byt _,.byt _=>true
 | .int _,.str _=>true | .str _,.int _=>true | .bl _,.str _=>true | .str _,.bl _=>true
 | _,_=>false
def rEq:R2:=fun x y H Q=>scal x y=true∧Q (.bl (decide (x=y))) H
def rNe:R2:=fun x y H Q=>scal x y=true∧Q (.bl (!decide (x=y))) H
theorem Zcd {i j:Int}:decide (V.int i=V.int j)=(i == j):=by
 rw [Bool.eq_iff_iff]
 simp
theorem Zdh {i j:Bool}:decide (V.bl i=V.bl j)=(i == j):=by
 rw [Bool.eq_iff_iff]
 simp
theorem ZbI {i j:Str}:decide (V.str i=V.str j)=(i == j):=by
 rw [Bool.eq_iff_iff]
 simp
theorem ZbU {i j:Array UInt8}:decide (V.byt i=V.byt j)=(i.toList == j.toList):=by
 rw [Bool.eq_iff_iff]
 cases i
 cases j
 simp
section
variable {X:Cx}{a b c:Expr}{ta tb tc:TE}{pos:Pos}
theorem Zw {pins:List (Addr×Obj)}{σ:St}{H:Hp}{s:Shared}{Q:VK}{k k':Bool}(I:Inv X pins σ H s)(q:Q (.bl k) H)(e:k=k'):EP X pins σ Q (.bool k') s:=by
 subst e
 exact ⟨.bl k,H,I,rfl,q⟩
theorem YV:Yx X (compareOp .Eq) rEq:=by
 intro pins s σ H x y v u Q I rx ry h
 obtain ⟨hs,q⟩:=h
 cases x with
 | non =>
   cases rx
   cases y with
   | non=>cases ry;exact PySem.EqNone.eq_none_none (Zw I q (by simp))
   | bl j=>cases ry;exact PySem.EqNone.eq_none_bool (Zw I q (by simp))
   | int j=>obtain ⟨t',rfl⟩:=ry;exact PySem.EqNone.eq_none_int (Zw I q (by simp))
   | str j=>obtain ⟨t',rfl⟩:=ry;exact PySem.EqNone.eq_none_str (Zw I q (by simp))
   | _=>exact absurd (show false=true from hs) Bool.false_ne_true
 | bl i =>
   cases rx
   cases y with
   | non=>cases ry;exact PySem.EqNone.eq_bool_none (Zw I q (by simp))
   | bl j=>cases ry;exact eq_bool (Zw I q Zdh)
   | str j=>obtain ⟨t',rfl⟩:=ry;exact PySem.EqMixed.eq_bool_str (Zw I q (by simp))
   | _=>exact absurd (show false=true from hs) Bool.false_ne_true
 | int i =>
   obtain ⟨t,rfl⟩:=rx
   cases y with
   | non=>cases ry;exact PySem.EqNone.eq_int_none (Zw I q (by simp))
   | int j=>obtain ⟨t',rfl⟩:=ry;exact eq_int (Zw I q Zcd)
   | str j=>obtain ⟨t',rfl⟩:=ry;exact PySem.EqMixed.eq_int_str (Zw I q (by simp))
   | _=>exact absurd (show false=true from hs) Bool.false_ne_true
 | str i =>
   obtain ⟨t,rfl⟩:=rx
   cases y with
   | non=>cases ry;exact PySem.EqNone.eq_str_none (Zw I q (by simp))
   | bl j=>cases ry;exact PySem.EqMixed.eq_str_bool (Zw I q (by simp))
   | int j=>obtain ⟨t',rfl⟩:=ry;exact PySem.EqMixed.eq_str_int (Zw I q (by simp))
   | str j=>obtain ⟨t',rfl⟩:=ry;exact eq_str (Zw I q ZbI)
   | _=>exact absurd (show false=true from hs) Bool.false_ne_true
 | byt i =>
   obtain ⟨t,rfl⟩:=rx
   cases y with
   | byt j=>obtain ⟨t',rfl⟩:=ry;exact PySem.W.eq_bytes (Zw I q ZbU)
   | _=>exact absurd (show false=true from hs) Bool.false_ne_true
 | _=>cases y<;>exact absurd (show false=true from hs) Bool.false_ne_true
theorem Zcr:Yx X (compareOp .NotEq) rNe:=by
 intro pins s σ H x y v u Q I rx ry h
 obtain ⟨hs,q⟩:=h
 cases x with
 | non =>
   cases rx
   cases y with
   | non=>cases ry;exact PySem.EqNone.ne_none_none (Zw I q (by simp))
   | bl j=>cases ry;exact PySem.EqNone.ne_none_bool (Zw I q (by simp))
   | int j=>obtain ⟨t',rfl⟩:=ry;exact PySem.EqNone.ne_none_int (Zw I q (by simp))
   | str j=>obtain ⟨t',rfl⟩:=ry;exact PySem.EqNone.ne_none_str (Zw I q (by simp))
   | _=>exact absurd (show false=true from hs) Bool.false_ne_true
 | bl i =>
   cases rx
   cases y with
   | non=>cases ry;exact PySem.EqNone.ne_bool_none (Zw I q (by simp))
   | bl j=>cases ry;exact ne_bool (Zw I q (congrArg not Zdh))
   | str j=>obtain ⟨t',rfl⟩:=ry;exact PySem.EqMixed.ne_bool_str (Zw I q (by simp))
   | _=>exact absurd (show false=true from hs) Bool.false_ne_true
 | int i =>
   obtain ⟨t,rfl⟩:=rx
   cases y with
   | non=>cases ry;exact PySem.EqNone.ne_int_none (Zw I q (by simp))
   | int j=>obtain ⟨t',rfl⟩:=ry;exact ne_int (Zw I q (congrArg not Zcd))
   | str j=>obtain ⟨t',rfl⟩:=ry;exact PySem.EqMixed.ne_int_str (Zw I q (by simp))
   | _=>exact absurd (show false=true from hs) Bool.false_ne_true
 | str i =>
   obtain ⟨t,rfl⟩:=rx
   cases y with
   | non=>cases ry;exact PySem.EqNone.ne_str_none (Zw I q (by simp))
   | bl j=>cases ry;exact PySem.EqMixed.ne_str_bool (Zw I q (by simp))
   | int j=>obtain ⟨t',rfl⟩:=ry;exact PySem.EqMixed.ne_str_int (Zw I q (by simp))
   | str j=>obtain ⟨t',rfl⟩:=ry;exact ne_str (Zw I q (congrArg not ZbI))
   | _=>exact absurd (show false=true from hs) Bool.false_ne_true
 | byt i =>
   obtain ⟨t,rfl⟩:=rx
   cases y with
   | byt j=>obtain ⟨t',rfl⟩:=ry;exact PySem.W.ne_bytes (Zw I q (congrArg not ZbU))
   | _=>exact absurd (show false=true from hs) Bool.false_ne_true
 | _=>cases y<;>exact absurd (show false=true from hs) Bool.false_ne_true
theorem WX:Yx X (compareOp .Lt) (VL fun i j=>.bl (decide (i < j))):=Zcm fun _ _ _ _ _ _ _ q=>lt_int q
theorem Zis:Yx X (compareOp .LtE) (VL fun i j=>.bl (decide (i≤j))):=Zcm fun _ _ _ _ _ _ _ q=>le_int q
theorem Zab:Yx X (compareOp .Gt) (VL fun i j=>.bl (decide (j < i))):=Zcm fun _ _ _ _ _ _ _ q=>gt_int q
theorem ZiF:Yx X (compareOp .GtE) (VL fun i j=>.bl (decide (j≤i))):=Zcm fun _ _ _ _ _ _ _ q=>ge_int q
theorem ZF (b:Expr){op:CmpOp}(h:op≠.In:=by decide)(h2:op≠.NotIn:=by decide):behindInMarks op b=false:=by
 have e1:(op == CmpOp.In)=false:=by cases op<;>first | rfl | exact absurd rfl h
 have e2:(op == CmpOp.NotIn)=false:=by cases op<;>first | rfl | exact absurd rfl h2
 cases b<;>simp [behindInMarks,e1,e2]
theorem We {op:CmpOp}{r:R2}(ho:Yx X (compareOp op) r)(ha:PE X a ta)(hb:PE X b tb)(hm:behindInMarks op b=false):PE X (.Compare a [op] [b] pos) (tOp r ta tb):=by
 intro pins s σ H Q I h
 exact wpAny_Compare1 (ZeT ha hb I h fun v u s2 x y H2 I2 rx ry q=>ho pins s2 σ H2 x y v u Q I2 rx ry q) hm
def ZfJ (t:TE):TT:=fun σ H Q=>t σ H fun x H'=>∃ k,x=.bl k∧Q k H'
theorem ZC {op:CmpOp}{r:R2}(ho:Yx X (compareOp op) r)(ha:PE X a ta)(hb:PE X b tb)(hm:behindInMarks op b=false):PT X (.Compare a [op] [b] pos) (ZfJ (tOp r ta tb)):=by
 intro pins s σ H Q I h
 refine wpAny_isTrue_Compare1 (Zm (ha pins s σ H _ I h) fun v s1 ⟨x,H1,I1,r1,q1⟩=>Zm (hb pins s1 σ H1 _ I1 q1) fun u s2 ⟨y,H2,I2,r2,q2⟩ =>
   Zm (ho pins s2 σ H2 x y v u _ I2 r1 r2 q2) fun c s3 ⟨z,H3,I3,r3,k,e,q3⟩=>?_) hm
 subst e
 cases r3
 exact wpAny_truthy_bool ⟨H3,I3,q3⟩
def Zig (r r':R2)(ta tb tc:TE):TE:=fun σ H Q=>ta σ H fun x H1=>tb σ H1 fun y H2=>r x y H2 fun z H3=>∃ k,z=.bl k ∧
 (if k=true then tc σ H3 fun w' H4=>r' y w' H4 Q else Q (.bl false) H3)
theorem ZeY {op op':CmpOp}{r r':R2}(ho:Yx X (compareOp op) r)(ho':Yx X (compareOp op') r')(ha:PE X a ta)(hb:PE X b tb)(hc:PE X c tc)
   (hm:lastMarks [op,op'] [b,c]=false:=by with_unfolding_all rfl):PT X (.Compare a [op,op'] [b,c] pos) (ZfJ (Zig r r' ta tb tc)):=by
 intro pins s σ H Q I h
 refine isTrue_chain (Zm (ha pins s σ H _ I h) fun v s1 ⟨x,H1,I1,r1,q1⟩=>test_link (Zm (hb pins s1 σ H1 _ I1 q1) fun u s2 ⟨y,H2,I2,r2,q2⟩ =>
   Zm (ho pins s2 σ H2 x y v u _ I2 r1 r2 q2) fun d s3 ⟨z,H3,I3,r3,k,e,q3⟩=>?_)) hm
 subst e
 cases r3
 refine wpAny_truthy_bool ?_
 cases k with
 | false =>
   obtain ⟨k',e',q'⟩:=q3
   cases e'
   exact ite_ff ⟨H3,I3,q'⟩
 | true =>
   refine ite_tt (test_last (Zm (hc pins s3 σ H3 _ I3 q3) fun w' s4 ⟨z',H4,I4,r4,q4⟩=>Zm (ho' pins s4 σ H4 y z' u w' _ I4 r2 r4 q4) fun d' s5 ⟨z2,H5,I5,r5,k2,e2,q5⟩=>?_))
   subst e2
   cases r5
   exact wpAny_truthy_bool ⟨H5,I5,q5⟩
theorem Wg:(sizeLine:Nat) < 2 ^ 63:=by rw [sizeLine_eq];decide
theorem YW:Yx X (binaryOp .Add) (fun x y H Q=>∃ i j,x=.str i∧y=.str j∧i.length+j.length≤sizeLine∧Q (.str (i++j)) H):=by
 intro pins s σ H x y v u Q I rx ry h
 obtain ⟨i,j,rfl,rfl,hz,q⟩:=h
 obtain ⟨t,rfl⟩:=rx
 obtain ⟨t',rfl⟩:=ry
 exact add_str (fun t' tk=>⟨.str (i++j),H,I.tok _,⟨_,rfl⟩,q⟩) hz
theorem YN {x:V}{us:List Value}(r:Vals [x] us):∃ u,us=[u]∧RelV x u:=by
 cases r with
 | cons r1 r2=>cases r2;exact ⟨_,rfl,r1⟩
theorem WW {x y:V}{us:List Value}(r:Vals [x,y] us):∃ u w',us=[u,w']∧RelV x u∧RelV y w':=by
 cases r with
 | cons r1 r2 =>
   cases r2 with
   | cons r3 r4=>cases r4;exact ⟨_,_,rfl,r1,r3⟩
theorem Zbg:Yr X (.builtin "abs") (fun xs H Q=>∃ i,xs=[.int i]∧Q (.int (if i < 0 then -i else i)) H):=by
 intro pins s σ H xs us Q I r h
 obtain ⟨i,rfl,q⟩:=h
 obtain ⟨u,rfl,t,rfl⟩:=YN r
 exact call_abs_int fun u tk=>⟨.int (if i < 0 then -i else i),H,I.tok _,⟨_,rfl⟩,q⟩
theorem VP (hc:X.calm=true):Yr X (.builtin "max") (fun xs H Q=>∃ i j,xs=[.int i,.int j]∧Q (.int (if j > i then j else i)) H):=by
 intro pins s σ H xs us Q I r h
 obtain ⟨i,j,rfl,q⟩:=h
 obtain ⟨u,w',rfl,⟨t,rfl⟩,⟨t',rfl⟩⟩:=WW r
 refine max_two_ints (I.ok.hd hc) fun h' tk k=>⟨_,H,I.kept k,?_,q⟩
 by_cases hj:j > i
 · rw [if_pos hj,if_pos hj];exact ⟨_,rfl⟩
 · rw [if_neg hj,if_neg hj];exact ⟨_,rfl⟩
theorem ZdW (hc:X.calm=true):Yr X (.builtin "min") (fun xs H Q=>∃ i j,xs=[.int i,.int j]∧Q (.int (if j < i then j else i)) H):=by
 intro pins s σ H xs us Q I r h
 obtain ⟨i,j,rfl,q⟩:=h
 obtain ⟨u,w',rfl,⟨t,rfl⟩,⟨t',rfl⟩⟩:=WW r
 refine min_two_ints (I.ok.hd hc) fun h' tk k=>⟨_,H,I.kept k,?_,q⟩
 by_cases hj:j < i
 · rw [if_pos hj,if_pos hj];exact ⟨_,rfl⟩
 · rw [if_neg hj,if_neg hj];exact ⟨_,rfl⟩
theorem ZdF:Yr X (.type "int") (fun xs H Q=>(∃ i,xs=[.int i]∧Q (.int i) H)∨∃ k,xs=[.bl k]∧Q (.int (if k then 1 else 0)) H):=by
 intro pins s σ H xs us Q I r h
 rcases h with ⟨i,rfl,q⟩ | ⟨k,rfl,q⟩
 · obtain ⟨u,rfl,t,rfl⟩:=YN r
   exact call_int_int ⟨.int i,H,I,⟨_,rfl⟩,q⟩
 · obtain ⟨u,rfl,r1⟩:=YN r
   cases r1
   exact call_int_bool ⟨.int (if k then 1 else 0),H,I.tok _,⟨_,rfl⟩,q⟩
def Zel (K:PySem.W.Frag)(x:V)(H:Hp)(n:Nat):Prop :=
 match x with
 | .str y=>y.length≤sizeLine∧n=y.length
 | .byt y=>y.size≤sizeLine∧n=y.size
 | .ref p=>(∃ xs,SqL K H p xs∧n=xs.length)∨∃ xs,SqT K H p xs∧n=xs.length
 | _=>False
theorem ZeS:Yr X (.builtin "len") (fun xs H Q=>∃ x n,xs=[x]∧Zel X.K x H n∧Q (.int n) H):=by
 intro pins s σ H xs us Q I r h
 obtain ⟨x,n,rfl,e,q⟩:=h
 obtain ⟨u,rfl,rx⟩:=YN r
 have hl:=Wg
 have hs:sizeLine=16777216:=sizeLine_eq
 cases x with
 | str y =>
   obtain ⟨t,rfl⟩:=rx
   obtain ⟨hy,e'⟩:y.length≤sizeLine∧n=y.length:=e
   subst e'
   exact len_str (by omega) ⟨.int _,H,I.tok _,⟨_,rfl⟩,q⟩
 | byt y =>
   obtain ⟨t,rfl⟩:=rx
   obtain ⟨hy,e'⟩:y.size≤sizeLine∧n=y.size:=e
   subst e'
   exact PySem.W.len_bytes (by omega) ⟨.int _,H,I.tok _,⟨_,rfl⟩,q⟩
 | ref p =>
   cases rx
   have e':(∃ xs,SqL X.K H p xs∧n=xs.length)∨∃ xs,SqT X.K H p xs∧n=xs.length:=e
   rcases e' with ⟨xs,hx,e'⟩ | ⟨xs,hx,e'⟩
   · subst e'
     obtain ⟨its,r',pl,hz⟩:=I.list hx
     have hlen:=r'.length
     exact Calls.call_len_list pl.isList (by simp only [List.size_toArray];omega) ⟨.int xs.length,H,I.tok _,⟨_,by simp only [List.size_toArray];rw [hlen]⟩,q⟩
   · subst e'
     obtain ⟨its,r',pl,hz⟩:=I.tuple hx
     have hlen:=r'.length
     exact len_tuple pl (by simp only [List.size_toArray];omega) ⟨.int xs.length,H,I.tok _,⟨_,by simp only [List.size_toArray];rw [hlen]⟩,q⟩
 | _=>exact (show False from e).elim
theorem Zbu:Yr X (.builtin "divmod") (fun xs H Q=>∃ i j,xs=[.int i,.int j]∧CDiv i j∧∀ p,H p=none→Q (.ref p) (upd H p (.tup [.int (i / j),.int (i % j)]))):=by
 intro pins s σ H xs us Q I r h
 obtain ⟨i,j,rfl,⟨h1,h2⟩,q⟩:=h
 obtain ⟨u,w',rfl,⟨t,rfl⟩,⟨t',rfl⟩⟩:=WW r
 refine divmod_int (by omega) ?_ (.inl (PyProof.noPylong_small (by omega)))
 rw [Int.fdiv_eq_ediv_of_nonneg i (by omega),Int.fmod_eq_emod_of_nonneg i (by omega)]
 have hn:H s.heap.objs.size=none:=I.hok.fresh (Nat.le_refl _)
 refine ⟨.ref s.heap.objs.size,_,?_,rfl,q _ hn⟩
 refine I.laid (fun b o e=>Heap.get?_push_of_some _ e) (Nat.le_refl _) ⟨by simp only [List.length_cons,List.length_nil];rw [sizeLine_eq];decide,[.int (i / j) s.toks,.int (i % j) (s.toks+1)],.cons ⟨_,rfl⟩ (.cons ⟨_,rfl⟩ .nil),?_⟩
 exact ⟨_,Heap.get?_push_size s.heap rfl,rfl,0,rfl⟩
end
end L2
namespace L2
open PySem PySem.Spec PyProof.Rows
structure ObjM (h:Heap)(x dx C:Addr)(mA:Str→Option Value):Prop where
 obj:h.get? x=some (PySem.W.instObj C dx)
 ns:h.Ns1 dx mA
 ne:dx≠x
theorem Zec {h:Heap}{dx:Addr}{mA:Str→Option Value}(n:h.Ns1 dx mA):∃ od,h.get? dx=some od∧∀ name,PySem.W.lookIn name od=some (mA name):=by
 obtain ⟨o,es,ep,ho,hd,hk,_,hm⟩:=n
 refine ⟨o,ho,fun name=>?_⟩
 have e:=hm name
 unfold nsFind findBy at e
 rw [← Array.find?_toList] at e
 unfold PySem.W.lookIn
 rw [hd]
 dsimp only
 split
 · rename_i y q
   rw [q] at e
   exact congrArg some e
 · rename_i q
   rw [q] at e
   have a:es.toList.any (·.refKey)=false:=by
     rw [List.any_eq_false]
     intro y hy
     obtain ⟨z,t,hkey⟩:=hk y (Array.mem_toList_iff.mp hy)
     simp [DictEntry.refKey,hkey]
   have a':¬ es.toList.any (·.refKey)=true:=by rw [a];exact Bool.false_ne_true
   rw [if_neg a']
   exact congrArg some e
theorem ObjM.look {h:Heap}{x dx C:Addr}{mA:Str→Option Value}(I:ObjM h x dx C mA):∃ od,PySem.W.InstAt h x (PySem.W.instObj C dx) C (some od)∧∀ name,PySem.W.lookIn name od=some (mA name) :=
 let ⟨od,ho,hl⟩:=Zec I.ns
 ⟨od,⟨I.obj,rfl,rfl,ho⟩,hl⟩
section
variable {prog:Program}{w:World}{A:Around}{E:Value→Shared→Prop}{s:Shared}{K:PySem.W.Frag}{x dx C f:Addr}{mA:Str→Option Value}{name:Str}{v:Value}
theorem ZgE {expr:Bool}{Q:Value→Shared→Prop}(X:K.In s.heap)(I:ObjM s.heap x dx C mA)(hg:PySem.W.plainGet K C name=true)(hh:PySem.W.hasDictIn K C=true)
   (ha:PySem.W.findIn K (.ref C) name=some none) (hv:mA name=some v) (hv':PySem.W.handedIn v=true) (h:Q v { s with toks:=s.toks+1 }) :
   wpAny (model prog w) A (getAttr (.ref x) name expr) Q E s:=by
 obtain ⟨od,J,hl⟩:=I.look
 exact PySem.W.get_value X J (PySem.W.plainGet_of hg).1 (PySem.W.findObj_own hh ha rfl (by rw [hl,hv])) hv' h
theorem Zfs {pl:Sem Bool}{Q:Value×List Value→Shared→Prop}(X:K.In s.heap)(I:ObjM s.heap x dx C mA)(hg:PySem.W.plainGet K C name=true)
   (hf:PySem.W.findIn K (.ref C) name=some (some (.ref f))) (ht:PySem.W.isFn K (.ref f)=true) (hv:mA name=none) (h:Q (.ref f,[.ref x]) s) :
   wpAny (model prog w) A (getMethod (.ref x) name pl) Q E s:=by
 obtain ⟨od,J,hl⟩:=I.look
 exact PySem.W.method_fn X J (PySem.W.plainGet_of hg).1 (PySem.W.plainGet_of hg).2 hf (beq_iff_eq.mp ht) (by show (PySem.W.lookIn name od).map (·.isSome)=some false;rw [hl,hv];rfl) h
theorem Zgs {ns:List Str}{Q:Unit→Shared→Prop}(X:K.In s.heap)(I:ObjM s.heap x dx C mA)
   (hs:PySem.W.findIn K (.ref C) "__setattr__"=some (some (.builtin "object.__setattr__"))) (hp:PySem.W.plainOver K C=true) (ht:PySem.W.takerIn K C name=some none) (hh:PySem.W.hasDictIn K C=true)
   (hw:PySem.Within mA ns) (hsz:ns.length≤sizeLine)
   (h:∀ h',ObjM h' x dx C (fun y=>if y=name then some v else mA y)→Heap.SameBut dx s.heap h'→Q () { s with heap:=h',toks:=s.toks+2 }) :
   wpAny (model prog w) A (setAttr (.ref x) name v) Q E s:=by
 obtain ⟨od,J,hl⟩:=I.look
 refine PySem.W.set_plain X J hs (PySem.W.osa_open (s:={ s with toks:=s.toks+1 }) (r:=none) X J hp ht fun b=>?_)
 obtain ⟨cd,hc,hd'⟩:=PySem.W.any_some hh
 have hx:s.heap.get? x=some ⟨.ref C,some dx,.plain,#[]⟩:=I.obj
 refine wpAny_bind (wpAny_pure (wpAny_bind (wpAny_bind (wpAny_loadPart hx (wpAny_bind (PySem.W.Looks.here (s:={ s with toks:=s.toks+1 }) (PySem.W.looks_clsIn X hc) ?_))))))
 rw [hd']
 refine wpAny_pure (a:=some dx) (wpAny_bind (wpAny_pure (wpAny_bind ?_)))
 refine wpAny_nsSet1 (s:={ s with toks:=s.toks+1 }) I.ns fun h' hn2 hs2=>?_
 obtain ⟨oD,esD,epD,hoD,hdD,hcD⟩:=hn2.count (PySem.Within.cons name v hw)
 refine wpAny_bind (wpAny_lookBehind hoD (by rw [hdD];exact pastItsLine_dict (Nat.le_trans hcD (by rw [List.length_cons];omega))) ?_)
 exact wpAny_pure (h _ ⟨(hs2.2 _ (Ne.symm I.ne)).trans I.obj,hn2,I.ne⟩ hs2)
theorem Zei {R:Result→Shared→Prop}{vs:List Value}{kw:List (Str×Value)}(X:K.In s.heap)(hm:PySem.W.makesIn K C=true)
   (hi:PySem.W.findIn K (.ref C) "__init__"=some (some (.ref f))) (hf:PySem.W.typeIn K (.ref f)=some (.type "function"))
   (h:codeAny (model prog w) (A.under (.builtin "type.__call__" ⟨.ref C::vs,kw⟩)) (.call (.ref f) ⟨.ref (s.heap.objs.size+1)::vs,kw⟩) (PySem.W.InitBack (s.heap.objs.size+1) R)
     { s with heap:=(s.heap.push PySem.W.emptyDict).push (PySem.W.instObj C s.heap.objs.size) }) :
   codeAny (model prog w) A (.call (.ref C) ⟨vs,kw⟩) R s:=by
 obtain ⟨hh,g,d,t,os⟩:=s
 exact PySem.W.make_core (PySem.W.makes_of X hm) (PySem.W.looks_findIn X hi) (fun self=>PySem.W.bind_fn X self hf) (.inl rfl) h
end
def YA (f:Str)(v:V):List (Str×V)→List (Str×V)
 | []=>[(f,v)]
 | (g,x)::r=>if g=f then (g,v)::r else (g,x)::YA f v r
theorem Xj (f g:Str)(v:V):∀ fs:List (Str×V),(YA f v fs).lookup g=if g=f then some v else fs.lookup g
 | []=>by
   show List.lookup g [(f,v)]=_
   by_cases h:g=f
   · have hb:(g == f)=true:=beq_iff_eq.mpr h
     simp only [List.lookup,hb,if_pos h]
   · have hb:(g == f)=false:=beq_eq_false_iff_ne.mpr h
     simp only [List.lookup,hb,if_neg h]
 | (k, x)::r=>by
   have ih:=Xj f g v r
   rw [show YA f v ((k,x)::r)=(if k=f then (k,v)::r else (k,x)::YA f v r) from rfl]
   by_cases hk:k=f
   · rw [if_pos hk]
     by_cases h:g=k
     · have hb:(g == k)=true:=beq_iff_eq.mpr h
       simp only [List.lookup,hb,if_pos (h.trans hk)]
     · have hb:(g == k)=false:=beq_eq_false_iff_ne.mpr h
       simp only [List.lookup,hb,if_neg (fun e:g=f=>h (e.trans hk.symm))]
   · rw [if_neg hk]
     by_cases h:g=k
     · have hb:(g == k)=true:=beq_iff_eq.mpr h
       simp only [List.lookup,hb,if_neg (fun e:g=f=>hk (h.symm.trans e))]
     · have hb:(g == k)=false:=beq_eq_false_iff_ne.mpr h
       simp only [List.lookup,hb]
       exact ih
theorem WI (f:Str)(v:V):∀ fs:List (Str×V),f∈(YA f v fs).map (·.1)∧∀ g,g∈fs.map (·.1)→g∈(YA f v fs).map (·.1)
 | []=>⟨by simp [YA],fun g h=>by simp at h⟩
 | (k, x)::r=>by
   obtain ⟨i1,i2⟩:=WI f v r
   rw [show YA f v ((k,x)::r)=(if k=f then (k,v)::r else (k,x)::YA f v r) from rfl]
   by_cases hk:k=f
   · rw [if_pos hk]
     subst hk
     exact ⟨by simp,fun g h=>by simpa using h⟩
   · rw [if_neg hk]
     refine ⟨?_,fun g h=>?_⟩
     · rw [List.map_cons]
       exact List.mem_cons_of_mem _ i1
     · rw [List.map_cons] at h ⊢
       rcases List.mem_cons.mp h with e | e
       · exact List.mem_cons.mpr (.inl e)
       · exact List.mem_cons_of_mem _ (i2 g e)
theorem Um (f:Str)(v:V):∀ fs:List (Str×V),(YA f v fs).length≤fs.length+1
 | []=>by simp [YA]
 | (k,x)::r=>by
   have ih:=Um f v r
   rw [show YA f v ((k,x)::r)=(if k=f then (k,v)::r else (k,x)::YA f v r) from rfl]
   by_cases hk:k=f
   · rw [if_pos hk,List.length_cons,List.length_cons];omega
   · rw [if_neg hk,List.length_cons,List.length_cons];omega
theorem RelO.some_of {v:V}{o:Option Value}(r:RelO (some v) o):∃ u,o=some u∧RelV v u:=by
 cases o with
 | none=>exact (show False from r).elim
 | some u=>exact ⟨u,rfl,r⟩
theorem RelO.none_of {o:Option Value}(r:RelO none o):o=none:=by
 cases o with
 | none=>rfl
 | some u=>exact (show False from r).elim
theorem VG {v:V}{u:Value}(r:RelV v u):PySem.W.handedIn u=true:=by
 cases v with
 | non=>cases (show u=Value.none from r);rfl
 | bl b=>cases (show u=Value.bool b from r);rfl
 | int i=>obtain ⟨t,e⟩:=(show ∃ t,u=Value.int i t from r);cases e;rfl
 | str x=>obtain ⟨t,e⟩:=(show ∃ t,u=Value.str x t from r);cases e;rfl
 | byt b=>obtain ⟨t,e⟩:=(show ∃ t,u=Value.bytes b t from r);cases e;rfl
 | flt b=>obtain ⟨t,e⟩:=(show ∃ t,u=Value.float b t from r);cases e;rfl
 | ref a=>cases (show u=Value.ref a from r);rfl
 | ty n=>cases (show u=Value.type n from r);rfl
section
variable {P:Program}{w:World}{H H':Hp}{h h':Heap}{a C dx:Addr}{fs fs':List (Str×V)}
theorem XZ (hok:HOk P w H h)(e:H a=some (.ins C dx fs)):∃ mA,ObjM h a dx C mA∧(∀ f,RelO (fs.lookup f) (mA f))∧PySem.Within mA (fs.map (·.1))∧fs.length≤1000∧H dx=some (.own a):=by
 obtain ⟨d,z,ne,ob,mA,n,r,q⟩:=(show ObjOk P w H h a (.ins C dx fs) from hok a _ e)
 exact ⟨mA,⟨ob,n,ne⟩,r,q,z,d⟩
end
structure Cls (K:PySem.W.Frag)(C:Addr):Prop where
 pg:PySem.W.plainGet K C Str.empty=true
 hd:PySem.W.hasDictIn K C=true
 po:PySem.W.plainOver K C=true
 sa:PySem.W.findIn K (.ref C) "__setattr__"=some (some (.builtin "object.__setattr__"))
theorem Cls.get {K:PySem.W.Frag}{C:Addr}(c:Cls K C)(f:Str):PySem.W.plainGet K C f=true:=c.pg
def NoAttr (K:PySem.W.Frag)(C:Addr)(f:Str):Prop:=PySem.W.findIn K (.ref C) f=some none
theorem NoAttr.taker {K:PySem.W.Frag}{C:Addr}{f:Str}(n:NoAttr K C f):PySem.W.takerIn K C f=some none:=by
 unfold PySem.W.takerIn
 rw [show PySem.W.findIn K (.ref C) f=some none from n]
 rfl
structure Vs (K:PySem.W.Frag)(C:Addr)(m:Str)(f:Addr):Prop where
 at_:PySem.W.findIn K (.ref C) m=some (some (.ref f))
 fn:PySem.W.isFn K (.ref f)=true
 kp:PySem.W.keepIn K (.ref f)=true
section
variable {X:Cx}{pins:List (Addr×Obj)}{σ:St}{H:Hp}{s:Shared}{a C dx:Addr}{fs:List (Str×V)}{f:Str}{v:V}{A:Around}{E:Value→Shared→Prop}
theorem ZcH {b:Bool}{Q:Value→Shared→Prop}(I:Inv X pins σ H s)(e:H a=some (.ins C dx fs))(c:Cls X.K C)(n:NoAttr X.K C f)(l:fs.lookup f=some v)
   (h:∀ u s',Inv X pins σ H s'→RelV v u→Q u s'):wpAny (model X.prog X.w) A (getAttr (.ref a) f b) Q E s:=by
 obtain ⟨mA,O,r,_,_,_⟩:=XZ I.hok e
 obtain ⟨u,hu,ru⟩:=RelO.some_of (v:=v) (o:=mA f) (by rw [← l];exact r f)
 exact ZgE I.kIn O (c.get f) c.hd n hu (VG ru) (h u _ (I.tok _) ru)
theorem Wk {m:Str}{g:Addr}{pl:Sem Bool}{Q:Value×List Value→Shared→Prop}(I:Inv X pins σ H s)(e:H a=some (.ins C dx fs))(c:Cls X.K C)(k:Vs X.K C m g)(l:fs.lookup m=none)
   (h:Q (.ref g,[.ref a]) s):wpAny (model X.prog X.w) A (getMethod (.ref a) m pl) Q E s:=by
 obtain ⟨mA,O,r,_,_,_⟩:=XZ I.hok e
 have hn:mA m=none:=RelO.none_of (by rw [← l];exact r m)
 exact Zfs I.kIn O (c.get m) k.at_ k.fn hn h
theorem Zcy {y:V}{u:Value}{Q:Unit→Shared→Prop}(I:Inv X pins σ H s)(e:H a=some (.ins C dx fs))(c:Cls X.K C)(n:NoAttr X.K C f)(hl:fs.length < 1000)(ry:RelV y u)
   (h:∀ s',Inv X pins σ (upd H a (.ins C dx (YA f y fs))) s'→Q () s'):wpAny (model X.prog X.w) A (setAttr (.ref a) f u) Q E s:=by
 obtain ⟨mA,O,r,wi,_,ho⟩:=XZ I.hok e
 have hz:(fs.map (·.1)).length≤sizeLine:=by rw [List.length_map,sizeLine_eq];omega
 refine Zgs I.kIn O c.sa c.po n.taker c.hd wi hz fun h' O' sb=>h _ ?_
 have hd:∃ o,h'.get? dx=some o:=let ⟨o,_,_,e',_⟩:=O'.ns;⟨o,e'⟩
 refine I.write (x:=a) (e:=dx) (by rw [e];exact True.intro) (.inr ho) (fun b q hb z=>(sb.2 b hb).trans z) hd ?_
 refine ⟨by rw [Zb O.ne];exact ho,?_,O.ne,O'.obj,_,O'.ns,fun g=>?_,fun g hg=>?_⟩
 · have:=Um f y fs;omega
 · show RelO ((YA f y fs).lookup g) (if g=f then some u else mA g)
   rw [Xj]
   by_cases q:g=f
   · rw [if_pos q,if_pos q];exact ry
   · rw [if_neg q,if_neg q];exact r g
 · by_cases q:g=f
   · rw [q];exact (WI f y fs).1
   · refine (WI f y fs).2 g (wi g fun z=>hg ?_)
     show (if g=f then some u else mA g)=none
     rw [if_neg q];exact z
theorem Inv.made (I:Inv X pins σ H s):Inv X pins σ (upd (upd H s.heap.objs.size (.own (s.heap.objs.size+1))) (s.heap.objs.size+1) (.ins C s.heap.objs.size []))
   { s with heap:=(s.heap.push PySem.W.emptyDict).push (PySem.W.instObj C s.heap.objs.size) }:=by
 have e1:(s.heap.push PySem.W.emptyDict).get? s.heap.objs.size=some PySem.W.emptyDict:=Heap.get?_push_size s.heap rfl
 have e2:((s.heap.push PySem.W.emptyDict).push (PySem.W.instObj C s.heap.objs.size)).get? (s.heap.objs.size+1)=some (PySem.W.instObj C s.heap.objs.size):=by
   have:=Heap.get?_push_size (s.heap.push PySem.W.emptyDict) (o:=PySem.W.instObj C s.heap.objs.size) rfl
   rwa [Heap.size_push] at this
 have e3:(s.heap.push PySem.W.emptyDict).Ns s.heap.objs.size (fun _=>none):=⟨PySem.W.emptyDict,#[],_,e1,rfl,(fun e he=>absurd he (by simp)),fun _=>rfl⟩
 have I1:=I.laid (a:=s.heap.objs.size) (o:=.own (s.heap.objs.size+1)) (h':=s.heap.push PySem.W.emptyDict) (t':=s.toks) (fun b u q=>Heap.get?_push_of_some _ q) (Nat.le_refl _) ⟨_,e1⟩
 refine I1.laid (a:=s.heap.objs.size+1) (o:=.ins C s.heap.objs.size []) (t':=s.toks) (fun b u q=>Heap.get?_push_of_some _ q) (Nat.le_of_eq (Heap.size_push _ _)) ?_
 have ne:s.heap.objs.size≠s.heap.objs.size+1:=Nat.ne_of_lt (Nat.lt_succ_self _)
 refine ⟨by rw [Zb ne,Zf],Nat.zero_le _,ne,e2,fun _=>none,(Heap.Ns1.of_empty e3).at fun o q=>Heap.get?_push_of_some _ q,fun _=>True.intro,fun y hy=>absurd rfl hy⟩
theorem ZbX {prog:Program}{w:World}{env:Env}{e:Expr}{f:Str}{pos:Pos}{s:Shared}{Q:Value→Shared→Prop}(hb:attributeBase e f env (eval e env)=eval e env)
   (h:wpAny (model prog w) A (eval e env) (fun o s₁=>wpAny (model prog w) A (getAttr o f true) Q E s₁) E s):wpAny (model prog w) A (eval (.Attribute e f pos) env) Q E s :=
 Attribute_any_ h (by rw [arm_eval_Attribute,hb])
end
def tFld (K:PySem.W.Frag)(ta:TE)(f:Str):TE:=fun σ H Q=>ta σ H fun x H1=>∃ a C dx fs v,x=.ref a∧H1 a=some (.ins C dx fs)∧Cls K C∧NoAttr K C f∧fs.lookup f=some v∧Q v H1
def sFld (K:PySem.W.Frag)(ta tv:TE)(f:Str):TS:=fun D σ H=>tv σ H fun y H1=>ta σ H1 fun x H2=>∃ a C dx fs,x=.ref a∧H2 a=some (.ins C dx fs)∧Cls K C∧NoAttr K C f∧fs.length < 1000 ∧
 D.nx σ (upd H2 a (.ins C dx (YA f y fs)))
section
variable {X:Cx}{o e value:Expr}{f:Str}{pos pos' tpos:Pos}{ta tv:TE}
theorem Ys (he:PE X e ta)(hb:attributeBase e f X.env (eval e X.env)=eval e X.env):PE X (.Attribute e f pos) (tFld X.K ta f):=by
 intro pins s σ H Q I h
 refine ZbX hb (Zm (he pins s σ H _ I h) fun u s1 ⟨x,H1,I1,rx,a,C,dx,fs,v,ex,ea,c,n,l,q⟩=>?_)
 subst ex
 obtain rfl:u=Value.ref a:=rx
 exact ZcH I1 ea c n l fun u' s2 I2 ru=>⟨v,H1,I2,ru,q⟩
theorem ZW (ha:PE X o ta)(hv:PE X value tv)(hs:swapsWith value (some (.Attribute o f pos')) pos.line X.env=pure false):PS X (.Assign [.Attribute o f pos'] value pos) (sFld X.K ta tv f):=by
 intro pins s σ H D I h
 refine plainObj_wpAny_Assign_Attribute (Zm (hv pins s σ H _ I h) fun u s1 ⟨y,H1,I1,ry,q⟩=>Zm (ha pins s1 σ H1 _ I1 q) fun ov s2 ⟨x,H2,I2,rx,a,C,dx,fs,ex,ea,c,n,l,q2⟩=>?_) hs
 subst ex
 obtain rfl:ov=Value.ref a:=rx
 exact Zcy I2 ea c n l ry fun s3 I3=>⟨σ,_,I3,q2⟩
end
section
variable {X:Cx}{pins:List (Addr×Obj)}{σ:St}{H:Hp}{s:Shared}{A:Around}{E:Value→Shared→Prop}{Q:Value→Shared→Prop}{c:Value}{b:Bool}
inductive YX (K:PySem.W.Frag)(H:Hp):V→Value→Prop where
 | non:YX K H .non (.type "NoneType")
 | bl (x:Bool):YX K H (.bl x) (.type "bool")
 | int (i:Int):YX K H (.int i) (.type "int")
 | str (x:Str):YX K H (.str x) (.type "str")
 | flt (x:UInt64):YX K H (.flt x) (.type "float")
 | lst {a:Addr} {xs:List V} (e:H a=some (.lst xs)):YX K H (.ref a) (.type "list")
 | frz {a:Addr} {o:Obj} {xs:List V} (e:H a=some (.frz o (.lst xs))):YX K H (.ref a) (.type "list")
 | tup {a:Addr} {xs:List V} (e:H a=some (.tup xs)):YX K H (.ref a) (.type "tuple")
 | dK {a:Addr} {kvs:List (Zo×V)} (e:H a=some (.dK kvs)):YX K H (.ref a) (.type "dict")
 | dT {a:Addr} {kvs:List (List Zo×V)} (e:H a=some (.dT kvs)):YX K H (.ref a) (.type "dict")
 | ins {a C dx:Addr} {fs:List (Str×V)} (e:H a=some (.ins C dx fs)) (cl:Cls K C) (ha:PySem.W.findIn K (.ref C) "__class__"=some (some (.builtin "object.__class__")))
     (hn:PySem.W.specialIn K (.builtin "object.__class__") "__get__"=some (some (.builtin "getset_descriptor.__get__"))) (htk:PySem.W.takesIn K (.builtin "object.__class__")=some true)
     (hm:PySem.W.mroIn K C (.type "object")=some true):YX K H (.ref a) (.ref C)
theorem Zdw {x:V}{u t:Value}(I:Inv X pins σ H s)(rx:RelV x u)(ty:YX X.K H x t)(e:PySem.W.kitOne X.K t c=some b)(h:∀ tk,Q (.bool b) { s with toks:=tk }) :
   wpAny (model X.prog X.w) A (call (.builtin "isinstance") [u,c]) Q E s:=by
 cases ty with
 | non=>cases (show u=Value.none from rx);exact PySem.W.kia_one PySem.W.kitx_none I.kIn True.intro e (fun z=>nomatch z) h
 | bl y=>cases (show u=Value.bool y from rx);exact PySem.W.kia_one PySem.W.kitx_bool I.kIn True.intro e (fun z=>nomatch z) h
 | int i=>obtain ⟨t,q⟩:=(show ∃ t,u=Value.int i t from rx);cases q;exact PySem.W.kia_one PySem.W.kitx_int I.kIn True.intro e (fun z=>nomatch z) h
 | str y=>obtain ⟨t,q⟩:=(show ∃ t,u=Value.str y t from rx);cases q;exact PySem.W.kia_one PySem.W.kitx_str I.kIn True.intro e (fun z=>nomatch z) h
 | flt y=>obtain ⟨t,q⟩:=(show ∃ t,u=Value.float y t from rx);cases q;exact PySem.W.kia_one PySem.W.kitx_float I.kIn True.intro e (fun z=>nomatch z) h
 | @lst a xs ea =>
   cases (show u=Value.ref a from rx)
   obtain ⟨_,_,n,_,h1⟩:=(show ObjOk X.prog X.w H s.heap a (.lst xs) from I.hok a _ ea)
   exact PySem.W.kia_one PySem.W.kitx_list I.kIn ⟨_,h1,rfl⟩ e (fun z=>nomatch z) h
 | @frz a ob xs ea =>
   cases (show u=Value.ref a from rx)
   obtain ⟨_,_,_,n,_,h1⟩:=(show ObjOk X.prog X.w H s.heap a (.frz ob (.lst xs)) from I.hok a _ ea)
   exact PySem.W.kia_one PySem.W.kitx_list I.kIn ⟨_,h1,rfl⟩ e (fun z=>nomatch z) h
 | @tup a xs ea =>
   cases (show u=Value.ref a from rx)
   obtain ⟨_,_,_,p⟩:=(show ObjOk X.prog X.w H s.heap a (.tup xs) from I.hok a _ ea)
   obtain ⟨o,h1,h2,_⟩:=p
   exact PySem.W.kia_one PySem.W.kitx_tuple I.kIn ⟨o,h1,h2⟩ e (fun z=>nomatch z) h
 | @dK a kvs ea =>
   cases (show u=Value.ref a from rx)
   obtain ⟨_,_,vs,_,p⟩:=(show ObjOk X.prog X.w H s.heap a (.dK kvs) from I.hok a _ ea)
   obtain ⟨o,es,ep,h1,h2,_⟩:=p
   exact PySem.W.kia_one PySem.W.kitx_dict I.kIn ⟨o,h1,h2.1⟩ e (fun z=>nomatch z) h
 | @dT a kvs ea =>
   cases (show u=Value.ref a from rx)
   obtain ⟨_,_,xs,_,o,es,ep,h1,h2,_⟩:=(show ObjOk X.prog X.w H s.heap a (.dT kvs) from I.hok a _ ea)
   exact PySem.W.kia_one PySem.W.kitx_dict I.kIn ⟨o,h1,h2.1⟩ e (fun z=>nomatch z) h
 | @ins a C dx fs ea cl ha hn htk hm =>
   cases (show u=Value.ref a from rx)
   obtain ⟨mA,O,_⟩:=XZ I.hok ea
   obtain ⟨od,J,_⟩:=O.look
   exact PySem.W.kia_one (PySem.W.kitx_own (cl.get _) cl.hd ha hn htk hm) I.kIn J e (fun z=>nomatch z) h
end
end L2
namespace L2
open PySem PySem.Spec PyProof.Rows
structure Room (k:Nat)(A:Around):Prop where
 hd:A.handled=none
 dp:A.depth+3 * k+5 < recursionLimit
 un:A.units+16 * k+200 < cLine
 gd:A.guards=some []
theorem Room.mono {j k:Nat}{A:Around}(r:Room k A)(h:j≤k):Room j A:=⟨r.hd,by have:=r.dp;omega,by have:=r.un;omega,r.gd⟩
theorem Room.deeper {k:Nat}{A:Around}(r:Room (k+1) A)(env:Env):Room k (A.deeper env) :=
 ⟨r.hd,by have:=r.dp;show A.depth+1+3 * k+5 < _;omega,by have:=r.un;show A.units+3+16 * k+200 < _;omega,r.gd⟩
theorem Zcw {A:Around}{C:Addr}{us:List Value}{kw:List (Str×Value)}:(A.under (.builtin "type.__call__" ⟨.ref C::us,kw⟩)).depth=A.depth+1:=by
 first | rfl | simp [Around.under,Code.weight,Code.isCreation,Code.isGuard,Code.isCaller,Code.frames,Code.isFrame,guardIds]
theorem ZcN {A:Around}{C:Addr}{us:List Value}{kw:List (Str×Value)}:(A.under (.builtin "type.__call__" ⟨.ref C::us,kw⟩)).units=A.units+1:=by
 first | rfl | simp [Around.under,Code.cUnits,Code.frames,Code.isFrame]
theorem Room.make {k:Nat}{A:Around}(r:Room (k+1) A)(C:Addr)(us:List Value)(kw:List (Str×Value)):Room k (A.under (.builtin "type.__call__" ⟨.ref C::us,kw⟩)) :=
 ⟨r.hd,by have:=r.dp;rw [Zcw];omega,by have:=r.un;rw [ZcN];omega,by first | exact r.gd | simpa [Around.under,Code.isGuard,guardIds] using r.gd⟩
theorem Room.depth {k:Nat}{A:Around}(r:Room k A):A.depth < recursionLimit:=by have:=r.dp;omega
theorem Room.units {k:Nat}{A:Around}(r:Room k A):A.units+64 < cLine:=by have:=r.un;omega
def XU:TA:=fun _ H Q=>Q [] H
def Xa (ta:TE)(tr:TA):TA:=fun σ H Q=>ta σ H fun x H1=>tr σ H1 fun xs H2=>Q (x::xs) H2
section
variable {X:Cx}{e:Expr}{es:List Expr}{te:TE}{t:TA}{pos:Pos}
theorem Za:PA X [] XU:=fun _ _ _ _ H Q I h=>Calls.spliced_nil ⟨[],H,I,.nil,h⟩
theorem ZS (ha:PE X e te)(hr:PA X es t)(hs:starEach (e::es) X.env=(false,eval e X.env)::starEach es X.env:=by rfl):PA X (e::es) (Xa te t):=by
 intro pos pins s σ H Q I h
 rw [hs]
 show wpAny _ _ (spliced ((false,eval e X.env)::backTo pos (starEach es X.env))) _ _ s
 refine Calls.spliced_cons (Zm (ha pins s σ H _ I h) fun u s1 ⟨x,H1,I1,r1,q1⟩=>?_)
 exact Zm (hr pos pins s1 σ H1 _ I1 q1) fun us s2 ⟨xs,H2,I2,r2,q2⟩=>⟨x::xs,H2,I2,.cons r1 r2,q2⟩
def tTup (t:TA):TE:=fun σ H Q=>t σ H fun xs H1=>xs.length≤sizeLine∧∀ p,H1 p=none→Q (.ref p) (upd H1 p (.tup xs))
def tLst (t:TA):TE:=fun σ H Q=>t σ H fun xs H1=>xs.length≤sizeLine∧∀ p,H1 p=none→Q (.ref p) (upd H1 p (.lst xs))
theorem Yl {x1}(h:PA X es t):PE X (.Tuple es x1 pos) (tTup t):=by
 intro pins s σ H Q I hq
 refine wpAny_Tuple_spliced (Zm (h pos pins s σ H _ I hq) fun us s1 ⟨xs,H1,I1,r,z,q⟩=>⟨by rw [← r.length];exact z,?_⟩)
 have hf:H1 s1.heap.objs.size=none:=I1.hok.fresh (Nat.le_refl _)
 refine ⟨.ref s1.heap.objs.size,upd H1 s1.heap.objs.size (.tup xs),I1.laid (t':=s1.toks) (fun b u e=>Heap.get?_push_of_some _ e) (Nat.le_refl _) ?_,rfl,q _ hf⟩
 exact ⟨z,us,r,⟨_,Heap.get?_push_size _ rfl,rfl,_,rfl⟩⟩
theorem Zy (h:PA X es t):PE X (.List es pos) (tLst t):=by
 intro pins s σ H Q I hq
 refine wpAny_List_spliced (Zm (h pos pins s σ H _ I hq) fun us s1 ⟨xs,H1,I1,r,z,q⟩=>⟨by rw [← r.length];exact z,?_⟩)
 have hf:H1 s1.heap.objs.size=none:=I1.hok.fresh (Nat.le_refl _)
 refine ⟨.ref s1.heap.objs.size,upd H1 s1.heap.objs.size (.lst xs),I1.laid (t':=s1.toks) (fun b u e=>Heap.get?_push_of_some _ e) (Nat.le_refl _) ?_,rfl,q _ hf⟩
 exact ⟨z,us,0,r,Heap.get?_push_size _ rfl⟩
end
abbrev Sp:=List V→Hp→VK→XK→Prop
abbrev XJ:=List Env→Hp→Shared→XK→Value→Shared→Prop
structure Env0 (P:Program)(w:World)(K:PySem.W.Frag)(mg:Str→Option Value)(base:Heap)(A:Around)(outer:List Env)(s:Shared)(H:Hp):Prop where
 frames:A.frames=some outer
 mod:Mod K mg base
 bs:∀ b o,base.get? b=some o→s.heap.get? b=some o∧H b=none
 bsz:base.objs.size≤s.heap.objs.size
 funs:s.heap.FunFrames base outer
 frf:∀ b∈Yy outer,H b=none
 hok:HOk P w H s.heap
 bare:AllBare s.gens
def CE (outer:List Env)(P:Program)(w:World)(H:Hp)(s:Shared)(Q:VK)(u:Value)(s':Shared):Prop :=
 ∃ v H',s'.os=s.os∧AllBare s'.gens∧Un (Yy outer) [] H H' s.heap s'.heap∧HOk P w H' s'.heap∧RelV v u∧Q v H'
def CR (CX:XJ)(outer:List Env)(P:Program)(w:World)(H:Hp)(s:Shared)(Q:VK)(E:XK)(r:Result)(s':Shared):Prop :=
 match r with
 | .ok (.ret u)=>CE outer P w H s Q u s'
 | .ok _=>False
 | .error e=>CX outer H s E e s'
structure FnOk (P:Program)(w:World)(K:PySem.W.Frag)(mg:Str→Option Value)(base:Heap)(CX:XJ)(k:Nat)(f:Addr)(fd:FuncData)(ps:List Str)(sp:Sp):Prop where
 len:∀ vs H Q E,sp vs H Q E→vs.length=ps.length
 run:∀ (A:Around) (outer:List Env) (s:Shared) (H:Hp) (args:Args) (us:List Value) (vs:List V) (Q:VK) (E:XK),Room k A→Env0 P w K mg base A outer s H→BindsTo s fd args (ps.zip us)→Vals vs us→sp vs H Q E →
   codeAny (model P w) A (.call (.ref f) args) (CR CX outer P w H s Q E) s
theorem FnOk.mono {P:Program}{w:World}{K:PySem.W.Frag}{mg:Str→Option Value}{base:Heap}{CX:XJ}{j k:Nat}{f:Addr}{fd:FuncData}{ps:List Str}{sp:Sp}(F:FnOk P w K mg base CX j f fd ps sp)(h:j≤k) :
 FnOk P w K mg base CX k f fd ps sp:=⟨F.len,fun A outer s H args us vs Q E hr=>F.run A outer s H args us vs Q E (hr.mono h)⟩
theorem FnOk.imp {P:Program}{w:World}{K:PySem.W.Frag}{mg:Str→Option Value}{base:Heap}{CX:XJ}{k:Nat}{f:Addr}{fd:FuncData}{ps:List Str}{sp sp':Sp}(F:FnOk P w K mg base CX k f fd ps sp)
   (h:∀ vs H Q E,sp' vs H Q E→sp vs H Q E):FnOk P w K mg base CX k f fd ps sp' :=
 ⟨fun vs H Q E q=>F.len vs H Q E (h _ _ _ _ q),fun A outer s H args us vs Q E hr he hb hv hs=>F.run A outer s H args us vs Q E hr he hb hv (h _ _ _ _ hs)⟩
theorem Env0.make {P:Program}{w:World}{K:PySem.W.Frag}{mg:Str→Option Value}{base:Heap}{A:Around}{outer:List Env}{s:Shared}{H:Hp}(e:Env0 P w K mg base A outer s H)(C:Addr)(us:List Value)(kw:List (Str×Value)) :
 Env0 P w K mg base (A.under (.builtin "type.__call__" ⟨.ref C::us,kw⟩)) outer s H:=⟨by first | exact e.frames | (simpa [Around.under,Code.envs,Code.isFrame,pushEnvs] using e.frames),e.mod,e.bs,e.bsz,e.funs,e.frf,e.hok,e.bare⟩
section
variable {X:Cx}{pins:List (Addr×Obj)}{σ:St}{H:Hp}{s s':Shared}
theorem Inv.env0 (I:Inv X pins σ H s):Env0 X.prog X.w X.K X.mg X.base X.A X.stack s H :=
 ⟨I.ok.frames,I.ok.mod,I.bs,Nat.le_trans I.ok.bsz I.sz,I.stack,I.stkFree,I.hok,I.bare⟩
theorem Inv.after {Q:VK}{u:Value}(I:Inv X pins σ H s)(h:CE X.stack X.prog X.w H s Q u s'):EP X pins σ Q u s':=by
 obtain ⟨v,H',os,bare,un,hok,r,q⟩:=h
 obtain ⟨hh,g,d,t,os'⟩:=s'
 obtain rfl:os'=s.os:=os
 exact ⟨v,H',I.call (h':=hh) (g':=g) (d':=d) (t':=t) (ch:=[]) un hok bare (fun b z=>absurd z (by simp)),r,q⟩
end
def ZcB (sp:Sp)(dvs:List V)(E:XK)(t:TA):TE:=fun σ H Q=>t σ H fun vs H1=>sp (vs++dvs) H1 Q E
def Zaf (C:Addr)(m:Str)(sp:Sp)(dvs:List V)(E:XK)(ta:TE)(t:TA):TE:=fun σ H Q=>ta σ H fun x H1=>∃ a dx fs,x=.ref a∧H1 a=some (.ins C dx fs)∧fs.lookup m=none ∧
 t σ H1 fun vs H2=>sp (x::(vs++dvs)) H2 Q E
def Zad (C:Addr)(sp:Sp)(dvs:List V)(E:XK)(t:TA):TE:=fun σ H Q=>t σ H fun vs H1=>∀ x dx,H1 x=none→H1 dx=none→dx≠x →
 sp (.ref x::(vs++dvs)) (upd (upd H1 dx (.own x)) x (.ins C dx [])) (fun v H2=>v=.non∧Q (.ref x) H2) E
def Binds (K:PySem.W.Frag)(fd:FuncData)(ps:List Str)(ds:List Value):Prop :=
 ∀ (s:Shared) (us:List Value),K.In s.heap→(us++ds).length=ps.length→BindsTo s fd ⟨us,[]⟩ (ps.zip (us++ds))
theorem Binds.all {K:PySem.W.Frag}{fd:FuncData}{ps:List Str}(h:∀ us:List Value,us.length=ps.length→bindArgs fd ⟨us,[]⟩=pure (ps.zip us)):Binds K fd ps []:=fun s us _ hl=>by
 rw [List.append_nil] at hl ⊢
 exact .of_eq (h us hl)
def Xn (CX:XJ)(X:Cx)(E:XK):Prop:=∀(pins:List (Addr×Obj))(σ:St)(H:Hp)(s:Shared)(e:Value)(s':Shared),Inv X pins σ H s→CX X.stack H s E e s'→X.xe e s'
section
variable {X:Cx}{CX:XJ}{k:Nat}{f C:Addr}{fd:FuncData}{ps:List Str}{sp:Sp}{dvs:List V}{ds:List Value}{E:XK}{x m:Str}{p pos apos:Pos}{e o:Expr}{es:List Expr}{ta:TE}{t:TA}
theorem Zbc {pins:List (Addr×Obj)}{σ:St}{H:Hp}{s:Shared}{Q:VK}{us:List Value}{vs:List V}(F:FnOk X.prog X.w X.K X.mg X.base CX k f fd ps sp)(hr:Room k X.A)(hb:Binds X.K fd ps ds)(hd:Vals dvs ds)(hx:Xn CX X E)
   (I:Inv X pins σ H s) (r:Vals vs us) (h:sp (vs++dvs) H Q E):wpAny (model X.prog X.w) X.A (call (.ref f) us) (EP X pins σ Q) X.xe s:=by
 have r2:Vals (vs++dvs) (us++ds):=r.append hd
 have hl:(us++ds).length=ps.length:=by rw [← r2.length];exact F.len _ _ _ _ h
 refine wpAny_call (codeAny_mono (F.run X.A X.stack s H ⟨us,[]⟩ (us++ds) (vs++dvs) Q E hr I.env0 (hb s us I.kIn hl) r2 h) fun r s' hq=>?_)
 cases r with
 | error e=>exact hx pins σ H s e s' I hq
 | ok fl =>
   cases fl with
   | ret u=>exact I.after hq
   | next=>exact False.elim hq
   | brk=>exact False.elim hq
   | cont=>exact False.elim hq
theorem Zgy (F:FnOk X.prog X.w X.K X.mg X.base CX k f fd ps sp)(hr:Room k X.A)(hg:Gl X x)(hm:X.mg x=some (.ref f))(hk:PySem.W.keepIn X.K (.ref f)=true)(hb:Binds X.K fd ps ds)(hd:Vals dvs ds)(hx:Xn CX X E)
   (ha:PA X (e::es) t) (hdb:(x == ("__debug__":Str))=false:=by decide) (he:starEach (e::es) X.env=(false,eval e X.env)::starEach es X.env:=by rfl) (hpl:(backTo pos (starEach es X.env)).any (·.1)=false:=by rfl) :
   PE X (.Call (.Name x p) (e::es) [] pos) (ZcB sp dvs E t):=by
 intro pins s σ H Q I h
 refine wpAny_Call_Name_kw (Xw I hg hm ?_ hdb)
 refine PySem.W.callWith_K (h₀:=X.base) I.ok.mod.kin hk (Zm (ha pos pins s σ H _ I h) fun us s1 ⟨vs,H1,I1,r,q⟩=>⟨I1.kIn,?_⟩) he hpl
 exact Zbc F hr hb hd hx I1 r q
theorem ZfZ {pl:Sem Bool}(he:PE X o ta)(c:Cls X.K C)(hm:Vs X.K C m f)(F:FnOk X.prog X.w X.K X.mg X.base CX k f fd ps sp)(hr:Room k X.A)(hb:Binds X.K fd ps ds)(hd:Vals dvs ds)(hx:Xn CX X E)(ha:PA X (e::es) t)
   (hst:starEach (e::es) X.env=(false,eval e X.env)::starEach es X.env:=by rfl) (hpl:(backTo pos (starEach es X.env)).any (·.1)=false:=by rfl)
   (ht:eval (.Call (.Attribute o m apos) (e::es) [] pos) X.env=(do
     let ov ← eval o X.env
     standAt apos.atName
     let (f,first) ← holding [ov] (getMethod ov m pl)
     callWith pos f first (backTo pos (starEach (e::es) X.env)) (backToKw pos (keywordEach [] X.env))):=by rfl) :
   PE X (.Call (.Attribute o m apos) (e::es) [] pos) (Zaf C m sp dvs E ta t):=by
 intro pins s σ H Q I h
 refine PySem.W.methodCall_KW (pl:=pl) (Zm (he pins s σ H _ I h) fun u s1 ⟨x,H1,I1,rx,a,dx,fs,ex,ea,l,q⟩=>?_) ht
 subst ex
 obtain rfl:u=Value.ref a:=rx
 refine Wk I1 ea c hm l ?_
 refine PySem.W.callWith_K (first:=[.ref a]) (h₀:=X.base) I.ok.mod.kin hm.kp (Zm (ha pos pins s1 σ H1 _ I1 q) fun us s2 ⟨vs,H2,I2,r,q2⟩=>⟨I2.kIn,?_⟩) hst hpl
 exact Zbc (us:=.ref a::us) (vs:=.ref a::vs) F hr hb hd hx I2 (.cons rfl r) q2
theorem Zey {pl:Sem Bool}(he:PE X o ta)(c:Cls X.K C)(hm:Vs X.K C m f)(F:FnOk X.prog X.w X.K X.mg X.base CX k f fd ps sp)(hr:Room k X.A)(hb:Binds X.K fd ps ds)(hd:Vals dvs ds)(hx:Xn CX X E)
   (ht:eval (.Call (.Attribute o m apos) [] [] pos) X.env=(do
     let ov ← eval o X.env
     standAt apos.atName
     let (f,first) ← holding [ov] (getMethod ov m pl)
     callWith pos f first (backTo pos (starEach [] X.env)) (backToKw pos (keywordEach [] X.env))):=by rfl) :
   PE X (.Call (.Attribute o m apos) [] [] pos) (Zaf C m sp dvs E ta XU):=by
 intro pins s σ H Q I h
 refine PySem.W.methodCall_KW (pl:=pl) (Zm (he pins s σ H _ I h) fun u s1 ⟨x,H1,I1,rx,a,dx,fs,ex,ea,l,q⟩=>?_) ht
 subst ex
 obtain rfl:u=Value.ref a:=rx
 refine Wk I1 ea c hm l ?_
 exact PySem.W.callWith_K0 (first:=[.ref a]) I1.kIn hm.kp (Zbc (us:=[.ref a]) (vs:=[.ref a]) F hr hb hd hx I1 (.cons rfl .nil) q)
structure Mk (K:PySem.W.Frag)(C f:Addr):Prop where
 makes:PySem.W.makesIn K C=true
 init:PySem.W.findIn K (.ref C) "__init__"=some (some (.ref f))
 fn:PySem.W.isFn K (.ref f)=true
 kp:PySem.W.keepIn K (.ref C)=true
theorem ZaL {pins:List (Addr×Obj)}{σ:St}{H:Hp}{s:Shared}{Q:VK}{us:List Value}{vs:List V}(M:Mk X.K C f)(F:FnOk X.prog X.w X.K X.mg X.base CX k f fd ps sp)(hr:Room (k+1) X.A)(hb:Binds X.K fd ps ds)(hd:Vals dvs ds)
   (hx:Xn CX X E) (I:Inv X pins σ H s) (r:Vals vs us)
   (h:∀ x dx,H x=none→H dx=none→dx≠x→sp (.ref x::(vs++dvs)) (upd (upd H dx (.own x)) x (.ins C dx [])) (fun v H2=>v=.non∧Q (.ref x) H2) E) :
   wpAny (model X.prog X.w) X.A (call (.ref C) us) (EP X pins σ Q) X.xe s:=by
 have hq:=h (s.heap.objs.size+1) s.heap.objs.size (I.hok.fresh (Nat.le_succ _)) (I.hok.fresh (Nat.le_refl _)) (Nat.ne_of_lt (Nat.lt_succ_self _))
 have I2:=Inv.made (C:=C) I
 have r2:Vals (V.ref (s.heap.objs.size+1)::(vs++dvs)) (Value.ref (s.heap.objs.size+1)::(us++ds)):=.cons rfl (r.append hd)
 have hl:(Value.ref (s.heap.objs.size+1)::us++ds).length=ps.length:=by
   have e:=r2.length
   rw [F.len _ _ _ _ hq] at e
   exact e.symm
 refine wpAny_call (Zei (f:=f) I.kIn M.makes M.init (beq_iff_eq.mp M.fn) (codeAny_mono (F.run _ X.stack _ _ ⟨Value.ref (s.heap.objs.size+1)::us,[]⟩ (Value.ref (s.heap.objs.size+1)::(us++ds)) _ _ E (hr.make C us [])
   (I2.env0.make C us []) (hb _ (Value.ref (s.heap.objs.size+1)::us) I2.kIn hl) r2 hq) fun r s' hq'=>?_))
 cases r with
 | error e=>exact hx pins σ _ _ e s' I2 hq'
 | ok fl =>
   cases fl with
   | ret u =>
     obtain ⟨v,H',I3,rv,ev,q3⟩:=I2.after hq'
     subst ev
     exact ⟨rv,⟨V.ref (s.heap.objs.size+1),H',I3,rfl,q3⟩⟩
   | next=>exact False.elim hq'
   | brk=>exact False.elim hq'
   | cont=>exact False.elim hq'
theorem Zgb (M:Mk X.K C f)(F:FnOk X.prog X.w X.K X.mg X.base CX k f fd ps sp)(hr:Room (k+1) X.A)(hg:Gl X x)(hm:X.mg x=some (.ref C))(hb:Binds X.K fd ps ds)(hd:Vals dvs ds)(hx:Xn CX X E)
   (ha:PA X (e::es) t) (hdb:(x == ("__debug__":Str))=false:=by decide) (he:starEach (e::es) X.env=(false,eval e X.env)::starEach es X.env:=by rfl) (hpl:(backTo pos (starEach es X.env)).any (·.1)=false:=by rfl) :
   PE X (.Call (.Name x p) (e::es) [] pos) (Zad C sp dvs E t):=by
 intro pins s σ H Q I h
 refine wpAny_Call_Name_kw (Xw I hg hm ?_ hdb)
 refine PySem.W.callWith_K (h₀:=X.base) I.ok.mod.kin M.kp (Zm (ha pos pins s σ H _ I h) fun us s1 ⟨vs,H1,I1,r,q⟩=>⟨I1.kIn,?_⟩) he hpl
 exact ZaL M F hr hb hd hx I1 r q
theorem Zfa (M:Mk X.K C f)(F:FnOk X.prog X.w X.K X.mg X.base CX k f fd ps sp)(hr:Room (k+1) X.A)(hg:Gl X x)(hm:X.mg x=some (.ref C))(hb:Binds X.K fd ps ds)(hd:Vals dvs ds)(hx:Xn CX X E)
   (hdb:(x == ("__debug__":Str))=false:=by decide):PE X (.Call (.Name x p) [] [] pos) (Zad C sp dvs E XU):=by
 intro pins s σ H Q I h
 refine wpAny_Call_Name_kw (Xw I hg hm ?_ hdb)
 exact PySem.W.callWith_K0 I.kIn M.kp (ZaL (us:=[]) M F hr hb hd hx I .nil h)
end
section
variable {X:Cx}{CX:XJ}{k:Nat}{f C:Addr}{fd:FuncData}{ps ks:List Str}{sp:Sp}{E:XK}{x m:Str}{p pos apos kpos:Pos}{e o:Expr}{es:List Expr}{kws:List Keyword}{te ta:TE}{t tk:TA}{nm:Option Str}
variable {g:List Value→List Value→List Value}{gV:List V→List V→List V}
end
structure Zs (N P:List Str)(sc:Scope):Prop where
 kind:sc.kind=.function
 co:sc.isCoroutine=false
 gen:sc.isGenerator=false
 nd:N.Nodup
 pre:N.take P.length=P
 par:∀ x∈P,sc.names.lookup x=some .local∨sc.names.lookup x=some .cell
 nofree:∀ y∈sc.names,y.2≠.free
theorem VM {kindOf:Str→Option NameKind}{x:Str}:∀{binds:List (Str×Value)}{m:Str→Option Value},(∀ v,(x,v) ∉ binds)→bindL kindOf binds m x=m x
 | [],_,_=>rfl
 | (n,v)::r,m,h=>by
   unfold bindL
   rw [VM fun w hw=>h w (List.mem_cons_of_mem _ hw)]
   split
   · have:x≠n:=by rintro rfl;exact h v List.mem_cons_self
     simp [this]
   · rfl
theorem VO {kindOf:Str→Option NameKind}{x:Str}:∀{binds:List (Str×Value)}{m:Str→Option Value},(∀ v,(x,v) ∉ binds)→bindC kindOf binds m x=m x
 | [],_,_=>rfl
 | (n,v)::r,m,h=>by
   unfold bindC
   rw [VO fun w hw=>h w (List.mem_cons_of_mem _ hw)]
   split
   · rfl
   · have:x≠n:=by rintro rfl;exact h v List.mem_cons_self
     simp [this]
theorem VI {kindOf:Str→Option NameKind}{x:Str}{v:Value}:∀{P:List Str}{vs:List Value}{i:Nat}{m:Str→Option Value},P.Nodup→P[i]?=some x→vs[i]?=some v→kindOf x=some .local →
   bindL kindOf (P.zip vs) m x=some v
 | [],_,_,_,_,h,_,_=>by simp at h
 | _::_,[],_,_,_,_,h,_=>by simp at h
 | p::P,w::vs,0,m,nd,h1,h2,hk=>by
   simp at h1 h2;subst h1;subst h2
   show bindL kindOf ((p,w)::P.zip vs) m p=_
   unfold bindL
   rw [VM fun v hv=>(List.nodup_cons.mp nd).1 (List.of_mem_zip hv).1,if_pos hk]
   simp
 | p::P,w::vs,i+1,m,nd,h1,h2,hk=>by
   show bindL kindOf ((p,w)::P.zip vs) m x=_
   unfold bindL
   exact VI (i:=i) (List.nodup_cons.mp nd).2 (by simpa using h1) (by simpa using h2) hk
theorem VE {kindOf:Str→Option NameKind}{x:Str}{v:Value}:∀{P:List Str}{vs:List Value}{i:Nat}{m:Str→Option Value},P.Nodup→P[i]?=some x→vs[i]?=some v→kindOf x≠some .local →
   bindC kindOf (P.zip vs) m x=some v
 | [],_,_,_,_,h,_,_=>by simp at h
 | _::_,[],_,_,_,_,h,_=>by simp at h
 | p::P,w::vs,0,m,nd,h1,h2,hk=>by
   simp at h1 h2;subst h1;subst h2
   show bindC kindOf ((p,w)::P.zip vs) m p=_
   unfold bindC
   rw [VO fun v hv=>(List.nodup_cons.mp nd).1 (List.of_mem_zip hv).1,if_neg hk]
   simp
 | p::P,w::vs,i+1,m,nd,h1,h2,hk=>by
   show bindC kindOf ((p,w)::P.zip vs) m x=_
   unfold bindC
   exact VE (i:=i) (List.nodup_cons.mp nd).2 (by simpa using h1) (by simpa using h2) hk
def Xs (N:List Str)(vs:List V):St:=vs.map some++List.replicate (N.length - vs.length) none
def Wu (CX:XJ)(P:Program)(w:World)(K:PySem.W.Frag)(mg:Str→Option Value)(base:Heap)(N:List Str)(qual:Str)(scope:Scope)(f:Addr)(cd:Value)(A:Around)(outer:List Env)(s:Shared)(H:Hp)(E:XK):Cx where
 prog:=P
 w:=w
 K:=K
 mg:=mg
 base:=base
 A:=A.deeper (envOfC qual scope s.heap.objs.size f cd)
 N:=N
 s₀:=s
 H₀:=H
 env:=envOfC qual scope s.heap.objs.size f cd
 outer:=outer
 stack:=envOfC qual scope s.heap.objs.size f cd::outer
 ex:=[]
 calm:=true
 fn:=fun _=>true
 pn:=[]
 xe:=fun e s'=>wpAny (model P w) (A.deeper (envOfC qual scope s.heap.objs.size f cd)) (leaving (envOfC qual scope s.heap.objs.size f cd) e) (fun _ s''=>CX outer H s E e s'') (fun e' s''=>CX outer H s E e' s'') s'
theorem Zbl {sc:Scope}{n:Nat}{x:Str}(h:sc.names.lookup x=some .cell):∃ c,(cellsFrom n sc.names []).lookup x=some c:=by
 have q:=PySem.W.cellsFrom_some sc.names n [] (.inl h)
 exact Option.isSome_iff_exists.mp q
theorem Zdt {CX:XJ}{P:Program}{w:World}{K:PySem.W.Frag}{mg:Str→Option Value}{base:Heap}{N ps:List Str}{qual:Str}{scope:Scope}{f:Addr}{cd:Value}{A:Around}{outer:List Env}{s s1:Shared}{H:Hp}{E:XK}{us:List Value}{vs:List V}
   (S:Zs N ps scope) (hd:A.handled=none) (e0:Env0 P w K mg base A outer s H) (hl:vs.length=ps.length) (r:Vals vs us)
   (x:InCallC s s.heap.objs.size (bindL (envOfC qual scope s.heap.objs.size f cd).kindOf (ps.zip us) fun _=>none) (cellsFrom (s.heap.objs.size+1) scope.names []) (bindC (envOfC qual scope s.heap.objs.size f cd).kindOf (ps.zip us) fun _=>none) s1) :
   Inv (Wu CX P w K mg base N qual scope f cd A outer s H E) [] (Xs N vs) H s1:=by
 have hpl:ps.length≤N.length:=by have:=congrArg List.length S.pre;rw [List.length_take] at this;omega
 obtain ⟨h1,tk,rfl,hk⟩:=x.done
 have noA:∀ b:Addr,b ∉ (Wu CX P w K mg base N qual scope f cd A outer s H E).ex:=fun b z=>absurd (show b∈([]:List Addr) from z) (by simp)
 refine ⟨⟨e0.mod,S.kind,rfl,rfl,Nat.le_refl _,fun y z c h1 h2=>?_,fun y hy=>?_,fun y c _ h=>?_,fun _=>hd,Around.frames_deeper e0.frames,.inr ⟨rfl,rfl⟩,fun b z=>absurd z (noA b),e0.bs,e0.bsz,fun b _ _=>noA b,fun b z=>absurd z (noA b),e0.funs,e0.frf⟩,
   rfl,e0.bare,Un.kept hk,⟨_,x.toInCall.ns,fun i y v h1 h2 h3=>?_⟩,fun y c h=>⟨_,x.cell y c h⟩,e0.hok.fresh (Nat.le_refl _),fun y c h=>?_,fun p hp=>absurd (show p∈([]:List (Addr×Obj)) from hp) (by simp),e0.hok.kept hk,?_⟩
 · exact name_of_addr x.apart (PySem.mem_of_lookup h1) (PySem.mem_of_lookup h2)
 · have hy:scope.names.lookup y=some .cell∨scope.names.lookup y=some .free:=hy
   rcases hy with hy | hy
   · exact Zbl hy
   · exact absurd rfl (S.nofree _ (PySem.mem_of_lookup hy))
 · exact Nat.le_of_lt (x.above y c (PySem.mem_of_lookup h))
 · have hi:i < vs.length:=by
     unfold Xs at h2
     by_cases hi:i < vs.length
     · exact hi
     · rw [List.getElem?_append_right (by simpa using hi)] at h2
       rw [List.getElem?_replicate] at h2
       split at h2<;>cases h2
   have ha:vs[i]?=some v:=by
     unfold Xs at h2
     rw [List.getElem?_append_left (by simpa using hi),List.getElem?_map] at h2
     cases e:vs[i]? with
     | none=>rw [e] at h2;cases h2
     | some a=>rw [e] at h2;cases h2;rfl
   obtain ⟨u,hu,rv⟩:=r.get ha
   have hp:ps[i]?=some y:=by
     rw [← S.pre,List.getElem?_take_of_lt (by omega)];exact h1
   have ndP:ps.Nodup:=by rw [← S.pre];exact S.nd.sublist (List.take_sublist _ _)
   refine ⟨u,rv,?_⟩
   rcases S.par y (List.mem_of_getElem? hp) with k | k
   · exact .inl ⟨k,VI ndP hp hu k⟩
   · obtain ⟨c,e⟩:=Zbl (n:=s.heap.objs.size+1) k
     refine .inr ⟨.inl k,c,e,?_⟩
     have q:=x.cell y c e
     rw [VE ndP hp hu (by show scope.names.lookup y≠_;rw [k];decide)] at q
     exact q
 · exact e0.hok.fresh (Nat.le_of_lt (x.above y c (PySem.mem_of_lookup h)))
 · unfold Xs
   show _=N.length
   rw [List.length_append,List.length_map,List.length_replicate]
   omega
theorem ZfG {CX:XJ}{P:Program}{w:World}{K:PySem.W.Frag}{mg:Str→Option Value}{base:Heap}{k:Nat}{f:Addr}{name qual:Str}{params:Arguments}{body:List Stmt}{scope:Scope}{dV kV doc pm cdv ct oc:Value}{an od:Option Addr}
   {osl:Array (Option Value)} {N ps:List Str} {sp:Sp} (lk:K.lookup f=some ⟨oc,od,.func (PySem.W.fnOf name qual params body scope dV kV doc pm an cdv ct),osl⟩) (hcd:PySem.W.codeIn K cdv qual=true) (S:Zs N ps scope)
   (len:∀ vs H Q E,sp vs H Q E→vs.length=ps.length)
   (hbody:∀ (A:Around) (outer:List Env) (s:Shared) (H:Hp) (vs:List V) (Q:VK) (E:XK),Room k (A.deeper (envOfC qual scope s.heap.objs.size f cdv))→sp vs H Q E →
     ∃ t,PSs (Wu CX P w K mg base N qual scope f cdv A outer s H E) body t∧t { nx:=fun _ H'=>Q .non H',rt:=Q } (Xs N vs) H) :
   FnOk P w K mg base CX (k+1) f (PySem.W.fnOf name qual params body scope dV kV doc pm an cdv ct) ps sp:=by
 refine ⟨len,fun A outer s H args us vs Q E hr e0 hb r hsp=>?_⟩
 have hl:=len _ _ _ _ hsp
 have KX:K.In s.heap:=e0.mod.kin.keeps fun b o e=>(e0.bs b o e).1
 have lim:s.heap.NoLimit:=e0.mod.nolimit.keeps fun b o e=>(e0.bs b o e).1
 have hkind:∀ y∈ps.zip us,scope.names.lookup y.1=some .local∨(scope.names.lookup y.1=some .cell∧((cellsFrom (s.heap.objs.size+1) scope.names []).lookup y.1).isSome=true):=fun ⟨n,v⟩ hy=>by
   rcases S.par n (List.of_mem_zip hy).1 with q | q
   · exact .inl q
   · exact .inr ⟨q,PySem.W.cellsFrom_some _ _ _ (.inl q)⟩
 refine codeAny_call_function hr.depth (KX _ _ lk) rfl S.co S.gen rfl (PySem.W.codeRec_of KX hcd) (hb _ _ _ _ ?_)
 refine wpAny_newFunctionEnv_cells S.kind hkind fun env he s1 x=>?_
 subst he
 refine ⟨lim.keeps x.toInCall.keep,codeAny_func ?_⟩
 obtain ⟨t,ht,hq⟩:=hbody A outer s H vs Q E (hr.deeper _) hsp
 have I:Inv (Wu CX P w K mg base N qual scope f cdv A outer s H E) [] (Xs N vs) H s1:=Zdt S hr.hd e0 hl r x
 refine wpAny_mono (ht [] s1 (Xs N vs) H _ I hq) (fun fl s' hs=>?_) fun e s' hs=>hs
 have fin:∀ {σ':St} {H':Hp} {v:V} {u:Value},Inv (Wu CX P w K mg base N qual scope f cdv A outer s H E) [] σ' H' s'→RelV v u→Q v H'→CE outer P w H s Q u s' :=
   fun {σ' H' v u} J rv q=>⟨v,H',J.os,J.bare,J.base,J.hok,rv,q⟩
 cases fl with
 | ret u =>
   obtain ⟨v,σ',H',J,rv,q⟩:=hs
   exact fin J rv q
 | next =>
   obtain ⟨σ',H',J,q⟩:=hs
   exact fin (v:=V.non) (u:=Value.none) J rfl q
 | brk =>
   obtain ⟨_,_,_,q⟩:=hs
   exact False.elim q
 | cont =>
   obtain ⟨_,_,_,q⟩:=hs
   exact False.elim q
end L2
namespace L2
open PySem PySem.Spec PyProof.Rows
section
variable {X:Cx}{x:Str}{p pos:Pos}{e:Expr}{es:List Expr}{t:TA}{id T:String}{r:List V→Hp→VK→Prop}
def tCB (r:List V→Hp→VK→Prop)(t:TA):TE:=fun σ H Q=>t σ H fun vs H1=>r vs H1 Q
theorem Zl (hc:Yr X (.builtin id) r)(hg:Gl X x)(hm:X.mg x=none)(hv:bootBuiltins x=some (.builtin id))(ha:PA X (e::es) t)(hn:x≠"__name__":=by decide)(hdb:(x == ("__debug__":Str))=false:=by decide)
   (he:starEach (e::es) X.env=(false,eval e X.env)::starEach es X.env:=by rfl) (hpl:(backTo pos (starEach es X.env)).any (·.1)=false:=by rfl):PE X (.Call (.Name x p) (e::es) [] pos) (tCB r t):=by
 intro pins s σ H Q I h
 refine wpAny_Call_Name_kw (XI I hg hm hv ?_ hn hdb)
 exact PyProof.Rows.callWith_builtin1 (Zm (ha pos pins s σ H _ I h) fun us s1 ⟨vs,H1,I1,r1,q1⟩=>hc pins s1 σ H1 vs us Q I1 r1 q1) he hpl
theorem Zdg (hc:Yr X (.type T) r)(hg:Gl X x)(hm:X.mg x=none)(hv:bootBuiltins x=some (.type T))(ha:PA X (e::es) t)(hn:x≠"__name__":=by decide)(hdb:(x == ("__debug__":Str))=false:=by decide)
   (he:starEach (e::es) X.env=(false,eval e X.env)::starEach es X.env:=by rfl) (hpl:(backTo pos (starEach es X.env)).any (·.1)=false:=by rfl):PE X (.Call (.Name x p) (e::es) [] pos) (tCB r t):=by
 intro pins s σ H Q I h
 refine wpAny_Call_Name_kw (XI I hg hm hv ?_ hn hdb)
 exact PyProof.Rows.callWith_type1 (Zm (ha pos pins s σ H _ I h) fun us s1 ⟨vs,H1,I1,r1,q1⟩=>hc pins s1 σ H1 vs us Q I1 r1 q1) he hpl
end
end L2
namespace HT
open PySem PyProof.Rows
section
open PySem.SeqAt
open PySem.AutoSeq1 (wpAny_loadPart')
open PySem.MeetsSeq PySem.MeetsSeq2 PySem.MeetsSeq3
end
section
variable {prog:Program}{w:World}{A:Around}{E:Value→Shared→Prop}{s:Shared}
def sIx (n d:Nat):Option Int→Nat
 | none=>d
 | some v=>if v < 0 then (v+(n:Int)).toNat else min v.toNat n
theorem sIx_le (n d:Nat)(hd:d≤n)(o:Option Int):sIx n d o≤n:=by
 cases o with
 | none=>exact hd
 | some v =>
   show (if v < 0 then (v+(n:Int)).toNat else min v.toNat n)≤n
   by_cases hv:v < 0
   · rw [if_pos hv];omega
   · rw [if_neg hv];exact Nat.min_le_right _ _
end
end HT
namespace L2
open PySem PySem.Spec PyProof.Rows
abbrev TO:=St→Hp→(Option Int→Hp→Prop)→Prop
def PO (X:Cx)(e:Option Expr)(t:TO):Prop :=
 ∀ (pins:List (Addr×Obj)) (s:Shared) (σ:St) (H:Hp) (Q:Option Int→Hp→Prop),Inv X pins σ H s→t σ H Q →
   wpAny (model X.prog X.w) X.A (evalPart e X.env) (fun u s'=>∃ o H',Inv X pins σ H' s'∧IsPart u o∧Q o H') X.xe s
def ZgX:TO:=fun _ H Q=>Q none H
def ZiW (t:TE):TO:=fun σ H Q=>t σ H fun x H1=>∃ i,x=.int i∧Q (some i) H1
section
variable {X:Cx}{e:Expr}{te:TE}{lo hi:Option Expr}{tl th:TO}{pos p2:Pos}
theorem Vw:PO X none ZgX:=by
 intro pins s σ H Q I h
 rw [evalPart_none]
 exact wpAny_pure ⟨none,H,I,.none,h⟩
theorem Vu (h:PE X e te):PO X (some e) (ZiW te):=by
 intro pins s σ H Q I hw
 rw [evalPart_some]
 refine Zm (h pins s σ H _ I hw) fun u s1 ⟨x,H1,I1,r1,q1⟩=>?_
 obtain ⟨i,rfl,q⟩:=q1
 obtain ⟨t,rfl⟩:=r1
 exact ⟨some i,H1,I1,.int i t,q⟩
def SlR (X:Cx)(r:V→Option Int→Option Int→Hp→VK→Prop):Prop :=
 ∀ (pins:List (Addr×Obj)) (s:Shared) (σ:St) (H:Hp) (x:V) (v vl vu:Value) (lo hi:Option Int) (sl:Addr) (Q:VK),Inv X pins σ H s→RelV x v→s.heap.IsSliceOf sl vl vu .none→IsPart vl lo→IsPart vu hi→r x lo hi H Q →
   ∃ T id,typeLookup (.type T) "__getitem__"=pure (some (.builtin id))∧s.TypeIs v T∧wpAny (model X.prog X.w) X.A (getItem v (.ref sl)) (EP X pins σ Q) X.xe s
def tSl (r:V→Option Int→Option Int→Hp→VK→Prop)(te:TE)(tl th:TO):TE:=fun σ H Q=>te σ H fun x H1=>tl σ H1 fun l H2=>th σ H2 fun u H3=>r x l u H3 Q
theorem Ut {r:V→Option Int→Option Int→Hp→VK→Prop}(hr:SlR X r)(he:PE X e te)(hl:PO X lo tl)(hu:PO X hi th):PE X (.Subscript e (.Slice lo hi none p2) pos) (tSl r te tl th):=by
 intro pins s σ H Q I h
 refine Subscript_ (Zm (he pins s σ H _ I h) fun v s1 ⟨x,H1,I1,r1,q1⟩=>?_)
 refine wpAny_Slice (Zm (hl pins s1 σ H1 _ I1 q1) fun vl s2 ⟨l,H2,I2,pl,q2⟩=>Zm (hu pins s2 σ H2 _ I2 q2) fun vu s3 ⟨u,H3,I3,pu,q3⟩=>?_)
 rw [evalPart_none]
 refine wpAny_pure ?_
 have I4:Inv X pins σ H3 { s3 with heap:=s3.heap.push { cls:=.type "slice",data:=.fields #[vl,vu,.none] } }:=I3.kept (t':=s3.toks) fun b ob q=>Heap.get?_push_of_some _ q
 obtain ⟨T,id,hT,ht,hg⟩:=hr pins { s3 with heap:=s3.heap.push { cls:=.type "slice",data:=.fields #[vl,vu,.none] } } σ H3 x v vl vu l u s3.heap.objs.size Q I4 r1 (Heap.IsSliceOf.new ..) pl pu q3
 show wpAny (model X.prog X.w) X.A (subscriptTail e (.Slice lo hi none p2) v (.ref s3.heap.objs.size)) (EP X pins σ Q) X.xe { s3 with heap:=s3.heap.push { cls:=.type "slice",data:=.fields #[vl,vu,.none] } }
 exact tail_any (ops:=[.ref s3.heap.objs.size,v]) ht hT hg (by with_unfolding_all rfl)
end
end L2
namespace L2
open PySem PySem.Spec PyProof.Rows
def Ui (n:Nat)(i:Int):Option Nat:=if 0≤i then (if i < n then some i.toNat else none) else if -(n:Int)≤i then some (i+n).toNat else none
def Yg {α:Type}(xs:List α)(i:Int):Option α:=(Ui xs.length i).bind fun j=>xs[j]?
theorem ZbP {n:Nat}{i:Int}{j:Nat}(h:Ui n i=some j):seqIndex? i n=some j∧j < n∧-(n:Int)≤i∧i < n:=by
 unfold Ui at h
 by_cases h0:0≤i
 · rw [if_pos h0] at h
   by_cases h1:i < n
   · rw [if_pos h1] at h
     have e:i.toNat=j:=Option.some.inj h
     exact ⟨by rw [seqIndex_of h0 h1,e],by omega,by omega,h1⟩
   · rw [if_neg h1] at h;cases h
 · rw [if_neg h0] at h
   by_cases h1:-(n:Int)≤i
   · rw [if_pos h1] at h
     have e:(i+n).toNat=j:=Option.some.inj h
     exact ⟨by rw [seqIndex_neg (by omega) h1,e],by omega,h1,by omega⟩
   · rw [if_neg h1] at h;cases h
theorem Vo {α:Type}{xs:List α}{i:Int}{v:α}(h:Yg xs i=some v):∃ j,seqIndex? i xs.length=some j∧xs[j]?=some v∧j < xs.length∧-(xs.length:Int)≤i∧i < xs.length:=by
 unfold Yg at h
 cases e:Ui xs.length i with
 | none=>rw [e] at h;cases h
 | some j =>
   rw [e] at h
   obtain ⟨h1,h2,h3,h4⟩:=ZbP e
   exact ⟨j,h1,h,h2,h3,h4⟩
theorem YI {α:Type}{xs:List α}{j:Nat}{v:α}(h:xs[j]?=some v):Yg xs (j:Int)=some v:=by
 have hj:j < xs.length:=(List.getElem?_eq_some_iff.mp h).1
 have e:Ui xs.length (j:Int)=some j:=by
   unfold Ui
   rw [if_pos (by omega),if_pos (by omega)];simp
 unfold Yg;rw [e];exact h
def ZgC (b:Expr):Prop:=∀ o i,subscripted b false o i=operate [o,i] (getItem o i)
def IxR (X:Cx)(r:R2):Prop :=
 ∀ (value slice:Expr) (pins:List (Addr×Obj)) (s:Shared) (σ:St) (H:Hp) (x y:V) (v u:Value) (Q:VK),Inv X pins σ H s→RelV x v→RelV y u→r x y H Q →
   subscripted slice false v u=operate [v,u] (getItem v u)→wpAny (model X.prog X.w) X.A (subscriptTail value slice v u) (EP X pins σ Q) X.xe s
def MtR (X:Cx)(id:String)(r:V→List V→Hp→VK→Prop):Prop :=
 ∀ (pins:List (Addr×Obj)) (s:Shared) (σ:St) (H:Hp) (x:V) (xs:List V) (v:Value) (us:List Value) (Q:VK),Inv X pins σ H s→RelV x v→Vals xs us→r x xs H Q →
   wpAny (model X.prog X.w) X.A (call (.builtin id) (v::us)) (EP X pins σ Q) X.xe s
section
variable {X:Cx}{a b:Expr}{ta tb:TE}{pos:Pos}
theorem ZJ {r:R2}(hr:IxR X r)(ha:PE X a ta)(hb:PE X b tb)(hs:ZgC b):PE X (.Subscript a b pos) (tOp r ta tb):=by
 intro pins s σ H Q I h
 exact Subscript_ (ZeT ha hb I h fun v u s2 x y H2 I2 rx ry q=>hr a b pins s2 σ H2 x y v u Q I2 rx ry q (hs _ _))
def rIxL (K:PySem.W.Frag):R2:=fun x y H Q=>∃ p xs i v,x=.ref p∧y=.int i∧SqL K H p xs∧Yg xs i=some v∧Q v H
def rIxT (K:PySem.W.Frag):R2:=fun x y H Q=>∃ p xs i v,x=.ref p∧y=.int i∧SqT K H p xs∧Yg xs i=some v∧Q v H
def rIxS:R2:=fun x y H Q=>∃ z i c,x=.str z∧y=.int i∧z.length≤sizeLine∧Yg z.cps.toList i=some c∧Q (.str ⟨#[c]⟩) H
theorem ZL:IxR X (rIxL X.K):=by
 intro value slice pins s σ H x y v u Q I rx ry h hs
 obtain ⟨p,xs,i,z,rfl,rfl,hq,he,q⟩:=h
 cases rx
 obtain ⟨t,rfl⟩:=ry
 obtain ⟨its,r,pl,hz⟩:=I.list hq
 obtain ⟨j,h1,h2,h3,h4,h5⟩:=Vo he
 obtain ⟨w,ew,rw'⟩:=r.get h2
 have hl:=r.length
 have hn:=Wg
 have fin:EP X pins σ Q w s:=⟨z,H,I,rw',q⟩
 by_cases h0:0≤i
 · have hj:i.toNat=j:=by
     rw [seqIndex_of h0 h5] at h1
     exact Option.some.inj h1
   exact item_listR pl.isList h0 (by omega) (by rw [hj];simpa using ew) fin hs
 · have hj:(i+(its.toArray.size:Int)).toNat=j:=by
     rw [seqIndex_neg (by omega) h4] at h1
     rw [List.size_toArray,← hl]
     exact Option.some.inj h1
   exact subscriptTail_builtinR (x:=w) pl.isList.typeIs slot_list_getitem.lookup
     (wpAny_getItem_list_neg (Q:=fun r s'=>r=w∧EP X pins σ Q r s') pl.isList (by omega) (by rw [List.size_toArray]<;>omega) (by omega) (by rw [hj];simpa using ew) ⟨rfl,fin⟩) hs
theorem Zhx:IxR X (rIxT X.K):=by
 intro value slice pins s σ H x y v u Q I rx ry h hs
 obtain ⟨p,xs,i,z,rfl,rfl,hq,he,q⟩:=h
 cases rx
 obtain ⟨t,rfl⟩:=ry
 obtain ⟨its,r,pl,hz⟩:=I.tuple hq
 obtain ⟨j,h1,h2,h3,h4,h5⟩:=Vo he
 obtain ⟨w,ew,rw'⟩:=r.get h2
 have hl:=r.length
 have hn:=Wg
 have fin:EP X pins σ Q w s:=⟨z,H,I,rw',q⟩
 exact subscriptTail_builtinR (x:=w) pl.typeIs slot_tuple_getitem.lookup
   (getItem_tuple (j:=j) (Q:=fun r s'=>r=w∧EP X pins σ Q r s') pl (by omega) (by omega) (by rw [List.size_toArray,← hl];exact h1) (by simpa using ew) ⟨rfl,fin⟩) hs
theorem Xl:IxR X rIxS:=by
 intro value slice pins s σ H x y v u Q I rx ry h hs
 obtain ⟨z,i,c,rfl,rfl,hz,he,q⟩:=h
 obtain ⟨t,rfl⟩:=rx
 obtain ⟨t',rfl⟩:=ry
 obtain ⟨j,h1,h2,h3,h4,h5⟩:=Vo he
 have hl:z.cps.toList.length=z.length:=by simp [Str.length]
 rw [hl] at h1 h4 h5
 have hn:=Wg
 exact tail_any (typeIs_str s z t) slot_str_getitem.lookup (getItem_str (c:=c) (by
   have e1:decide (i < -(2 ^ 63:Int))=false:=decide_eq_false (by omega)
   have e2:decide (i ≥ 2 ^ 63)=false:=decide_eq_false (by omega)
   rw [e1,e2,Bool.or_false]) (by rw [h1];simpa using h2) ⟨.str ⟨#[c]⟩,H,I.tok _,⟨_,rfl⟩,q⟩) hs
theorem Zce (its:List Value)(n j:Nat)(u:Value):Obj.mapSeq (·.setIfInBounds j u) { cls:=.type "list",data:=.seq its.toArray n }={ cls:=.type "list",data:=.seq (its.set j u).toArray n }:=by
 simp [Obj.mapSeq]
theorem Inv.lst {pins:List (Addr×Obj)}{σ:St}{H:Hp}{s:Shared}{p:Addr}{xs:List V}(I:Inv X pins σ H s)(h:H p=some (.lst xs)) :
   ∃ (its:List Value) (n:Nat),Vals xs its∧s.heap.get? p=some { cls:=.type "list",data:=.seq its.toArray n }∧xs.length≤sizeLine:=by
 obtain ⟨z,its,n,r,e⟩:=I.hok p _ h
 exact ⟨its,n,r,e,z⟩
theorem Inv.lstUpd {pins:List (Addr×Obj)}{σ:St}{H:Hp}{s:Shared}{p:Addr}{xs ys:List V}{its its':List Value}{n n':Nat}{f:Obj→Obj}(I:Inv X pins σ H s)(h:H p=some (.lst xs))
   (ho:s.heap.get? p=some { cls:=.type "list",data:=.seq its.toArray n }) (hf:f { cls:=.type "list",data:=.seq its.toArray n }={ cls:=.type "list",data:=.seq its'.toArray n' }) (r:Vals ys its') (hz:ys.length≤sizeLine) (t:Nat) :
   Inv X pins σ (upd H p (.lst ys)) { s with heap:=s.heap.update p f,toks:=t }:=by
 have e:(s.heap.update p f).get? p=some { cls:=.type "list",data:=.seq its'.toArray n' }:=by
   rw [Heap.get?_update_self f ho (by rw [hf]<;>rfl),hf]
 refine I.write (x:=p) (e:=p) (by rw [h];trivial) (.inl rfl) (fun b u hb q=>(Heap.get?_update_other _ _ (Ne.symm hb)).trans q) ⟨_,e⟩ ?_
 exact ⟨hz,its',n',r,e⟩
def ZiI:V→V→V→Hp→(Hp→Prop)→Prop:=fun o i v H Q=>∃ p xs k j,o=.ref p∧i=.int k∧H p=some (.lst xs)∧Ui xs.length k=some j∧Q (upd H p (.lst (xs.set j v)))
theorem UH:PSet X ZiI:=by
 intro pins s σ H o i v ov iv u Q I ro ri rv h
 obtain ⟨p,xs,k,j,rfl,rfl,hp,hj,q⟩:=h
 cases ro
 obtain ⟨t,rfl⟩:=ri
 obtain ⟨its,n,r,ho,hz⟩:=I.lst hp
 obtain ⟨h1,h2,h3,h4⟩:=ZbP hj
 have hl:=r.length
 have hn:=Wg
 have I':Inv X pins σ (upd H p (.lst (xs.set j v))) { s with heap:=s.heap.update p (Obj.mapSeq (·.setIfInBounds j u)) } :=
   I.lstUpd hp ho (Zce its n j u) (r.set rv j) (by rw [List.length_set];exact hz) s.toks
 by_cases h0:0≤k
 · have hk:k.toNat=j:=by
     rw [seqIndex_of h0 h4] at h1
     exact Option.some.inj h1
   exact PySem.W.ki_setAt ho h0 (by omega) (by rw [List.size_toArray,← hl];exact h4) (by rw [hk];exact ⟨_,I',q⟩)
 · have hk:(k+(its.toArray.size:Int)).toNat=j:=by
     rw [seqIndex_neg (by omega) h3] at h1
     rw [List.size_toArray,← hl]
     exact Option.some.inj h1
   exact PySem.W.ki_setBack ho (by omega) (by rw [List.size_toArray,← hl];exact h3) (by omega) (by rw [hk];exact ⟨_,I',q⟩)
def Xq:V→Bool
 | .non=>true
 | .bl _=>true
 | .int _=>true
 | .str _=>true
 | _=>false
def VN:V→V→Bool
 | .non,.non=>true
 | .bl a,.bl b=>a == b
 | .bl a,.int b=>(if a then 1 else 0) == b
 | .int a,.bl b=>a == (if b then 1 else 0)
 | .int a,.int b=>a == b
 | .str a,.str b=>a == b
 | _,_=>false
theorem Zhf {A:Around}{s:Shared}{y x:V}{u v:Value}(ry:RelV y u)(rx:RelV x v)(fy:Xq y=true)(fx:Xq x=true):SeqAt.EqAt A s u v (VN y x):=by
 cases y with
 | non =>
   cases ry
   cases x with
   | non=>cases rx;exact SeqAt.EqAt.same _
   | bl b=>cases rx;exact SeqAt.EqAt.none_bool b
   | int b=>obtain ⟨t,rfl⟩:=rx;exact SeqAt.EqAt.none_int b t
   | str b=>obtain ⟨t,rfl⟩:=rx;exact SeqAt.EqAt.none_str b t
   | _=>exact absurd (show false=true from fx) Bool.false_ne_true
 | bl a =>
   cases ry
   cases x with
   | non=>cases rx;exact SeqAt.EqAt.bool_none a
   | bl b=>cases rx;exact SeqAt.EqAt.bool_bool a b
   | int b=>obtain ⟨t,rfl⟩:=rx;exact SeqAt.EqAt.bool_int a b t
   | str b=>obtain ⟨t,rfl⟩:=rx;exact SeqAt.EqAt.bool_str a b t
   | _=>exact absurd (show false=true from fx) Bool.false_ne_true
 | int a =>
   obtain ⟨t',rfl⟩:=ry
   cases x with
   | non=>cases rx;exact SeqAt.EqAt.int_none a t'
   | bl b=>cases rx;exact SeqAt.EqAt.int_bool a t' b
   | int b=>obtain ⟨t,rfl⟩:=rx;exact SeqAt.EqAt.int_int a t' b t
   | str b=>obtain ⟨t,rfl⟩:=rx;exact SeqAt.EqAt.int_str a t' b t
   | _=>exact absurd (show false=true from fx) Bool.false_ne_true
 | str a =>
   obtain ⟨t',rfl⟩:=ry
   cases x with
   | non=>cases rx;exact SeqAt.EqAt.str_none a t'
   | bl b=>cases rx;exact SeqAt.EqAt.str_bool a t' b
   | int b=>obtain ⟨t,rfl⟩:=rx;exact SeqAt.EqAt.str_int a t' b t
   | str b=>obtain ⟨t,rfl⟩:=rx;exact SeqAt.EqAt.str_str a t' b t
   | _=>exact absurd (show false=true from fx) Bool.false_ne_true
 | _=>exact absurd (show false=true from fy) Bool.false_ne_true
def Xy (x:V)(u:Value):Bool:=match u with
 | .none=>VN .non x
 | .bool b=>VN (.bl b) x
 | .int i _=>VN (.int i) x
 | .str z _=>VN (.str z) x
 | _=>false
theorem ZdG {x y:V}{u:Value}(r:RelV y u)(f:Xq y=true):Xy x u=VN y x:=by
 cases y with
 | non=>cases r;rfl
 | bl b=>cases r;rfl
 | int i=>obtain ⟨t,rfl⟩:=r;rfl
 | str z=>obtain ⟨t,rfl⟩:=r;rfl
 | _=>exact absurd (show false=true from f) Bool.false_ne_true
theorem Wc {x:V}:∀{xs:List V}{us:List Value},Vals xs us→xs.all Xq=true→us.any (Xy x)=xs.any fun y=>VN y x
 | _,_,.nil,_=>rfl
 | y::xs,u::us,.cons r t,f=>by
   rw [List.all_cons,Bool.and_eq_true] at f
   rw [List.any_cons,List.any_cons,ZdG r f.1,Wc t f.2]
theorem Xz {A:Around}{s:Shared}{x:V}{v:Value}(rx:RelV x v)(fx:Xq x=true):∀{xs:List V}{us:List Value},Vals xs us→xs.all Xq=true→∀ u∈us,SeqAt.EqAt A s u v (Xy x u)
 | _,_,.nil,_=>fun u hu=>by cases hu
 | y::xs,u::us,.cons r t,f=>fun u' hu=>by
   rw [List.all_cons,Bool.and_eq_true] at f
   rcases List.mem_cons.mp hu with rfl | hu
   · rw [ZdG r f.1];exact Zhf r rx f.1 fx
   · exact Xz rx fx t f.2 u' hu
def inV (x:V)(xs:List V):Bool:=xs.any fun y=>VN y x
def rIn (K:PySem.W.Frag)(neg:Bool):R2:=fun x y H Q=>∃ p xs,y=.ref p∧(SqL K H p xs∨SqT K H p xs)∧Xq x=true∧xs.all Xq=true∧Q (.bl (if neg then !inV x xs else inV x xs)) H
theorem VF:Yx X (compareOp .In) (rIn X.K false):=by
 intro pins s σ H x y v u Q I rx ry h
 obtain ⟨p,xs,rfl,hq,fx,fs,q⟩:=h
 cases ry
 rcases hq with hq | hq
 · obtain ⟨its,r,pl,hz⟩:=I.list hq
   refine SeqAt.in_listAt (Xy x) pl.isList (fun w hw=>Xz rx fx r fs w (by simpa using hw)) ⟨.bl _,H,I,rfl,?_⟩
   rw [show its.toArray.any (Xy x)=its.any (Xy x) by simp,Wc r fs]
   exact q
 · obtain ⟨its,r,pl,hz⟩:=I.tuple hq
   refine SeqAt.in_tupleAt (Xy x) pl (fun w hw=>Xz rx fx r fs w (by simpa using hw)) ⟨.bl _,H,I,rfl,?_⟩
   rw [show its.toArray.any (Xy x)=its.any (Xy x) by simp,Wc r fs]
   exact q
theorem ZaD:Yx X (compareOp .NotIn) (rIn X.K true):=by
 intro pins s σ H x y v u Q I rx ry h
 obtain ⟨p,xs,rfl,hq,fx,fs,q⟩:=h
 cases ry
 rcases hq with hq | hq
 · obtain ⟨its,r,pl,hz⟩:=I.list hq
   refine SeqAt.notIn_listAt (Xy x) pl.isList (fun w hw=>Xz rx fx r fs w (by simpa using hw)) ⟨.bl _,H,I,rfl,?_⟩
   rw [show its.toArray.any (Xy x)=its.any (Xy x) by simp,Wc r fs]
   exact q
 · obtain ⟨its,r,pl,hz⟩:=I.tuple hq
   refine SeqAt.notIn_tupleAt (Xy x) pl (fun w hw=>Xz rx fx r fs w (by simpa using hw)) ⟨.bl _,H,I,rfl,?_⟩
   rw [show its.toArray.any (Xy x)=its.any (Xy x) by simp,Wc r fs]
   exact q
theorem ZK:Yr X (.builtin "len") (fun xs H Q=>∃ p ys,xs=[.ref p]∧(SqL X.K H p ys∨SqT X.K H p ys)∧Q (.int ys.length) H):=by
 intro pins s σ H xs us Q I r h
 obtain ⟨p,ys,rfl,hq,q⟩:=h
 obtain ⟨u,rfl,rx⟩:=YN r
 cases rx
 have hn:=Wg
 rcases hq with hq | hq
 · obtain ⟨its,r',pl,hz⟩:=I.list hq
   have hlen:=r'.length
   exact Calls.call_len_list pl.isList (by simp only [List.size_toArray]<;>omega) ⟨.int ys.length,H,I.tok _,⟨s.toks+1,by rw [List.size_toArray,hlen]⟩,q⟩
 · obtain ⟨its,r',pl,hz⟩:=I.tuple hq
   have hlen:=r'.length
   exact len_tuple pl (by simp only [List.size_toArray]<;>omega) ⟨.int ys.length,H,I.tok _,⟨s.toks+1,by rw [List.size_toArray,hlen]⟩,q⟩
def tyV (K:PySem.W.Frag)(T:String)(x:V)(H:Hp):Prop:=match x with
 | .str _=>T="str"
 | .int _=>T="int"
 | .ref p=>(T="list"∧∃ xs,SqL K H p xs)∨(T="tuple"∧∃ o,K.lookup p=some o∧o.cls=.type "tuple"∧o.dict=none) ∨
     (T="dict"∧((∃ kvs,H p=some (.dK kvs))∨∃ kvs,H p=some (.dT kvs)))∨(T="set"∧∃ S n,H p=some (.set S n))
 | _=>False
theorem Zdu {pins:List (Addr×Obj)}{σ:St}{H:Hp}{s:Shared}{T:String}{x:V}{v:Value}(I:Inv X pins σ H s)(r:RelV x v)(ty:tyV X.K T x H) :
   s.TypeIs v T∧∀ a,v=.ref a→∃ ob,s.heap.get? a=some ob∧ob.dict=none:=by
 cases x with
 | str z =>
   obtain ⟨t,rfl⟩:=r
   cases (show T="str" from ty)
   exact ⟨typeIs_str s z t,fun _ e=>nomatch e⟩
 | int i =>
   obtain ⟨t,rfl⟩:=r
   cases (show T="int" from ty)
   exact ⟨typeIs_int s i t,fun _ e=>nomatch e⟩
 | ref p =>
   cases r
   rcases ty with ⟨rfl,xs,hq⟩ | ⟨rfl,o,hk,hc,hd⟩ | ⟨rfl,hk⟩ | ⟨rfl,S,n,hk⟩
   · obtain ⟨its,_,pl,_⟩:=I.list hq
     refine ⟨pl.isList.typeIs,fun a e=>?_⟩
     cases e
     obtain ⟨o,n,e,c,hd,_⟩:=pl
     exact ⟨o,e,hd⟩
   · refine ⟨⟨o,I.kIn p o hk,hc⟩,fun a e=>?_⟩
     cases e
     exact ⟨o,I.kIn _ o hk,hd⟩
   · have z:∃ o,s.heap.get? p=some o∧o.ExactDict:=by
       rcases hk with ⟨kvs,hk⟩ | ⟨kvs,hk⟩
       · obtain ⟨_,_,_,_,o,_,_,e,ex,_⟩:=I.hok p _ hk
         exact ⟨o,e,ex⟩
       · obtain ⟨_,_,_,_,o,_,_,e,ex,_⟩:=I.hok p _ hk
         exact ⟨o,e,ex⟩
     obtain ⟨o,e,ex⟩:=z
     refine ⟨⟨o,e,ex.1⟩,fun a e2=>?_⟩
     cases e2
     exact ⟨o,e,ex.2.1⟩
   · obtain ⟨o,_,_,_,e,ex,_⟩:=I.hok p _ hk
     refine ⟨⟨o,e,ex.1⟩,fun a e2=>?_⟩
     cases e2
     exact ⟨o,e,ex.2.1⟩
 | _=>exact False.elim ty
def tBM0 (K:PySem.W.Frag)(T:String)(r:V→List V→Hp→VK→Prop)(to:TE):TE:=fun σ H Q=>to σ H fun x H1=>tyV K T x H1∧r x [] H1 Q
def tBM (K:PySem.W.Frag)(T:String)(r:V→List V→Hp→VK→Prop)(to:TE)(t:TA):TE:=fun σ H Q=>to σ H fun x H1=>tyV K T x H1∧t σ H1 fun xs H2=>r x xs H2 Q
variable {o e:Expr}{es:List Expr}{to:TE}{t:TA}{name:Str}{apos cpos:Pos}{T id:String}{r:V→List V→Hp→VK→Prop}
theorem Zdk (pa:PlainAttrs T)(slot:Slot T name id)(hty:typeOf (.builtin id)=pure (.type "method_descriptor"))(hm:MtR X id r)(ho:PE X o to)
   (hbase:attributeBase o name X.env (eval o X.env)=eval o X.env:=by rfl) (hline:(apos.endLine == cpos.line)=true:=by rfl):PE X (.Call (.Attribute o name apos) [] [] cpos) (tBM0 X.K T r to):=by
 intro pins s σ H Q I h
 refine wpAny_Call_method0_late hbase hline (Zm (ho pins s σ H _ I h) fun v s1 ⟨x,H1,I1,r1,ty,q1⟩=>?_)
 obtain ⟨h1,h2⟩:=Zdu I1 r1 ty
 exact ⟨T,id,pa,slot,hty,h1,h2,Calls.callWith_builtin rfl (PySem.evalArgs_none (hm pins s1 σ H1 x [] v [] Q I1 r1 .nil q1))⟩
theorem Xp (pa:PlainAttrs T)(slot:Slot T name id)(hty:typeOf (.builtin id)=pure (.type "method_descriptor"))(hm:MtR X id r)(ho:PE X o to)(ha:PA X (e::es) t)
   (hbase:attributeBase o name X.env (eval o X.env)=eval o X.env:=by rfl)
   (hfew:((backTo cpos (starEach (e::es) X.env)).all (fun x=>!x.1)&&(backToKw cpos (keywordEach [] X.env)).all (fun x=>x.1.isSome)
     && decide ((e::es).length+([]:List Keyword).length+(if ([]:List Keyword).isEmpty then 0 else 1) < 30))=true:=by rfl)
   (hline:(apos.endLine == cpos.line)=true:=by rfl) (hs:starEach (e::es) X.env=(false,eval e X.env)::starEach es X.env:=by rfl) (hplain:(backTo cpos (starEach es X.env)).any (·.1)=false:=by rfl) :
   PE X (.Call (.Attribute o name apos) (e::es) [] cpos) (tBM X.K T r to t):=by
 intro pins s σ H Q I h
 refine wpAny_Call_method_late hbase hfew hline rfl (Zm (ho pins s σ H _ I h) fun v s1 ⟨x,H1,I1,r1,ty,q1⟩=>?_)
 obtain ⟨h1,h2⟩:=Zdu I1 r1 ty
 refine ⟨T,id,pa,slot,hty,h1,h2,?_⟩
 have hA:=ha cpos pins s1 σ H1 _ I1 q1
 rw [hs] at hA ⊢
 refine Calls.callWith_builtin (by show (false || (backTo cpos (starEach es X.env)).any (·.1))=false;rw [hplain]<;>rfl) (Calls.evalArgs_plain ?_)
 exact Zm hA fun us s2 ⟨vs,H2,I2,r2,q2⟩=>hm pins s2 σ H2 x vs v us Q I2 r1 r2 q2
end
end L2
namespace L2
open PySem PySem.Spec PyProof.Rows
def MtM (X:Cx)(id:String)(r:V→List V→Hp→VK→Prop):Prop :=
 ∀ (pins:List (Addr×Obj)) (s:Shared) (σ:St) (H:Hp) (x:V) (xs:List V) (v:Value) (us:List Value) (Q:VK),Inv X pins σ H s→RelV x v→Vals xs us→r x xs H Q →
   wpAny (model X.prog X.w) X.A (call (.builtin id) (v::us)) (EP X pins σ Q) X.xe s
theorem Vals.one:∀{x:V}{us:List Value},Vals [x] us→∃ u,us=[u]∧RelV x u
 | _,_,.cons r .nil=>⟨_,rfl,r⟩
theorem Vals.zero:∀{us:List Value},Vals [] us→us=[]
 | _,.nil=>rfl
theorem Vals.reverse {xs:List V}{us:List Value}(h:Vals xs us):Vals xs.reverse us.reverse:=by
 induction h with
 | nil=>exact .nil
 | cons r t ih=>rw [List.reverse_cons,List.reverse_cons];exact Vals.append ih (.cons r .nil)
section
variable {X:Cx}{pins:List (Addr×Obj)}{σ:St}{H:Hp}{s:Shared}{l b:Addr}{xs ys zs:List V}
theorem Inv.lset {its its':List Value}{n:Nat}{f:Array Value→Array Value}{t':Nat}(I:Inv X pins σ H s)(hH:H l=some (.lst xs))
   (e:s.heap.get? l=some { cls:=.type "list",data:=.seq its.toArray n }) (hf:f its.toArray=its'.toArray) (hv:Vals ys its') (hz:ys.length≤sizeLine) :
   Inv X pins σ (upd H l (.lst ys)) { s with heap:=s.heap.update l (Obj.mapSeq f),toks:=t' }:=by
 have q:=PySem.IsL.update e f
 rw [hf] at q
 refine I.write (x:=l) (e:=l) (by rw [hH];exact trivial) (.inl rfl) (fun b' u hb hu=>(Heap.get?_update_other s.heap (Obj.mapSeq f) (Ne.symm hb)).trans hu) ⟨_,q⟩ ?_
 exact ⟨hz,its',_,hv,q⟩
theorem Inv.lnew {its:List Value}{t':Nat}(I:Inv X pins σ H s)(hv:Vals ys its)(hz:ys.length≤sizeLine) :
   Inv X pins σ (upd H s.heap.objs.size (.lst ys)) { s with heap:=s.heap.push { cls:=.type "list",data:=.seq its.toArray },toks:=t' } :=
 I.laid (fun _ _ q=>Heap.get?_push_of_some _ q) (Nat.le_refl _) ⟨hz,its,0,hv,Heap.get?_push_size _ rfl⟩
theorem Inv.fresh (I:Inv X pins σ H s):H s.heap.objs.size=none:=I.hok.fresh (Nat.le_refl _)
theorem Inv.lstM (I:Inv X pins σ H s)(hH:H l=some (.lst xs)):xs.length≤sizeLine∧∃ (its:List Value) (n:Nat),Vals xs its∧xs.length=its.length∧s.heap.get? l=some { cls:=.type "list",data:=.seq its.toArray n }:=by
 obtain ⟨z,its,n,r,e⟩:=I.hok l _ hH
 exact ⟨z,its,n,r,r.length,e⟩
end
section
variable {X:Cx}
def Zgm:V→List V→Hp→VK→Prop:=fun x vs H Q=>∃ l xs y,x=.ref l∧vs=[y]∧H l=some (.lst xs)∧xs.length < sizeLine∧Q .non (upd H l (.lst (xs++[y])))
theorem YU:MtM X "list.append" Zgm:=by
 intro pins s σ H x vs v us Q I rx rv h
 obtain ⟨l,xs,y,rfl,rfl,hH,hz,q⟩:=h
 cases rx
 obtain ⟨u,rfl,ru⟩:=rv.one
 obtain ⟨z,its,n,r,hl,e⟩:=I.lstM hH
 refine call_meets F.slot_list_append ⟨_,e,rfl⟩ F.entry_list_append (F.args_list_append_2 _ _) (PySem.list_append l its.toArray n u (by rw [List.size_toArray];omega)) ⟨e,?_⟩
 refine ⟨.non,_,I.lset (its':=its++[u]) hH e (by simp) (r.append (.cons ru .nil)) ?_,rfl,q⟩
 rw [List.length_append,List.length_singleton]
 omega
def ZeA:V→List V→Hp→VK→Prop:=fun x vs H Q=>∃ l xs,x=.ref l∧vs=[]∧H l=some (.lst xs)∧Q .non (upd H l (.lst xs.reverse))
theorem ZcW:MtM X "list.reverse" ZeA:=by
 intro pins s σ H x vs v us Q I rx rv h
 obtain ⟨l,xs,rfl,rfl,hH,q⟩:=h
 cases rx
 have hus:=rv.zero
 subst hus
 obtain ⟨z,its,n,r,hl,e⟩:=I.lstM hH
 refine call_meets F.slot_list_reverse ⟨_,e,rfl⟩ F.entry_list_reverse (F.args_list_reverse_1 _) (AutoSeq1.list_reverse_list_0 l its.toArray n (by rw [List.size_toArray];omega)) ⟨e,?_⟩
 refine ⟨.non,_,I.lset (its':=its.reverse) hH e (by simp) r.reverse ?_,rfl,q⟩
 rw [List.length_reverse]
 omega
def rCat:R2:=fun x y H Q=>∃ l b xs zs,x=.ref l∧y=.ref b∧H l=some (.lst xs)∧H b=some (.lst zs)∧xs.length+zs.length≤sizeLine∧∀ p,H p=none→Q (.ref p) (upd H p (.lst (xs++zs)))
theorem UZ:Yx X (binaryOp .Add) rCat:=by
 intro pins s σ H x y v u Q I rx ry h
 obtain ⟨l,b,xs,zs,rfl,rfl,hH,hB,hz,q⟩:=h
 cases rx
 cases ry
 obtain ⟨z,its,n,r,hl,e⟩:=I.lstM hH
 obtain ⟨z2,its2,n2,r2,hl2,e2⟩:=I.lstM hB
 refine PySem.P.add_list e e2 ?_ (by rw [List.size_toArray,List.size_toArray];omega)
 have ea:its.toArray++its2.toArray=(its++its2).toArray:=by simp
 rw [ea]
 exact ⟨.ref _,_,I.lnew (t':=s.toks) (r.append r2) (by rw [List.length_append];omega),rfl,q _ I.fresh⟩
end
section
variable {prog:Program}{w:World}{A:Around}{E:Value→Shared→Prop}{s:Shared}
end
section
variable {X:Cx}
end
end L2
namespace Att
open PySem PySem.W PySem.Calls PyProof.Rows
theorem UW {P:Params}{h:Heap}:∀(ns:List Int)(vs:List Value),WellAll P h vs (ns.map WData.int)→IntsAre vs ns:=by
 intro ns
 induction ns with
 | nil =>
   intro vs w
   rw [List.map_nil] at w
   cases w
   exact .nil
 | cons n ns ih =>
   intro vs w
   rw [List.map_cons] at w
   cases w with
   | cons a b =>
     cases a
     exact .cons _ _ (ih _ b)
theorem Zds {l:OpenLaw}{n:Nat}(hn:l.most=some n){P:Params}{h:Heap}{args:List WData}{vals:List Value}
   (hpre:l.row.toRowW.claim.pre args=true) (hwl:WellAll P h vals args) :
   ∃ a vs ns,vals=[Value.ref a]∧args=[WData.list (ns.map WData.int)]∧h.get? a=some { cls:=.type "list",data:=.seq vs.toArray }∧IntsAre vs ns∧ns.length≤n:=by
 have hsh:WShape.hasAll [] args [.list .int]=true:=(pre_splitW hpre).1
 have hc:l.pre.holds [] { args:=args }=true:=(pre_splitW hpre).2
 obtain ⟨d,r,rfl,h1,h2⟩:=hasAllW_cons hsh
 obtain rfl:=hasAllW_nil h2
 obtain ⟨xs,rfl,h3⟩:=hasW_list h1
 obtain ⟨ns,rfl⟩:=items_int h3
 have hlen:ns.length≤n:=by
   unfold OpenLaw.pre at hc
   have h4:(WTm.not (.lt (.lit (.int (n:Int))) (.len (.arg 0)))).holds [] { args:=[.list (ns.map .int)] }=true:=by
     have h4:=(holds_andW hc).1
     rw [hn] at h4
     exact h4
   have h5:=condW_of h4 (w_not (w_lt w_lit (w_len_list (w_arg rfl))))
   rw [List.length_map] at h5
   refine Nat.le_of_not_lt fun q=>?_
   have q':(n:Int) < ((ns.length:Nat):Int):=by omega
   first
     | (rw [decide_eq_true q'] at h5;exact absurd h5 (by decide))
     | (simp at h5;omega)
 cases hwl with
 | cons w1 w2 =>
   cases w2
   cases w1 with
   | list ho hall=>exact ⟨_,_,ns,rfl,rfl,ho,UW ns _ hall,hlen⟩
theorem ZdE (l:OpenLaw)(args:List WData):l.row.toRowW.claim.post args (.bool true) args=true :=
 postW_of (r:=l.row.toRowW) (X:=(true == true))
   (show WShape.has [] (.bool true) .bool=true by first | rfl | decide | simp [WShape.has,WShape.arms,WShape.armsAll])
   (show (WTm.eq .res (.lit (.bool true))).value [] { args:=args,res:=some (.bool true),after:=args }=some (.bool (true == true)) from w_eq_bool (w_res rfl) w_lit) rfl
theorem attach_call {l:OpenLaw}{n:Nat}{q:Program}{loose:List Str}{XP:(Str→Option Value)→Heap→Prop}{YP:World→Heap→Prop}{d:DefRec}
   (hn:l.most=some n) (hdf:d.params.defaults=[])
   (call:∀ (w:World) (s₀ s₁:Shared) (mg mb:Str→Option Value) (fa:Addr) (o:Obj) (pm cd doc:Value) (a:Addr) (vs:List Value) (ns:List Int),
     Ground q loose [] XP w s₀ mg mb s₁.heap→YP w s₁.heap →
     s₁.heap.get? fa=some o→o.data=.func (docDef d.name d.params d.body d.scope pm cd doc)→s₁.heap.CodeRec cd d.name→mg d.name=some (.ref fa) →
     s₁.heap.get? a=some { cls:=.type "list",data:=.seq vs.toArray }→IntsAre vs ns→ns.length≤n→s₁.gens=#[] →
     codeAny (model l.prog w) callerA (.call (.ref fa) ⟨[.ref a],[]⟩) (fun r s'=>r=.ok (.ret (.bool true))∧OldK s₁.heap s'.heap∧s'.os=s₁.os∧AllBare s'.gens) s₁) :
   WalkO q loose XP YP l.row.toRowW d [] (fun f vs=>PySem.call f vs):=by
 intro w s₀ s₁ mg mb G Y fa o pm cd doc dV kV ho hd hcd hD hmg hg args vals as hpre hlay hrd hwl hlo
 obtain rfl:dV=.none:=Dflts.none hD hdf
 obtain rfl:kV=.none:=Dflts.noKw hD
 obtain ⟨a,vs,ns,rfl,rfl,hobj,hints,hlen⟩:=Zds hn hpre hwl
 refine enter_call (codeAny_mono (call w s₀ s₁ mg mb fa o pm cd doc a vs ns G Y ho (fd_plain hd) hcd hmg hobj hints hlen hg) fun r s' hq=>?_)
 obtain ⟨rfl,h2,h3,h4⟩:=hq
 exact ⟨.inl ⟨.bool true,.bool true,[],rfl,fun _=>rfl,.bool true,ZdE l _,fun _=>⟨List.Pairwise.nil,fun _ hm=>(nomatch hm)⟩⟩,h2,h3,h4⟩
section
variable {prog:Program}{w:World}{A:Around}{E:Value→Shared→Prop}{s:Shared}{K:Frag}
end
end Att
namespace L2
open PySem PySem.Spec PyProof.Rows
theorem VH:∀{vs:List Value}{ns:List Int},IntsAre vs ns→Vals (ns.map V.int) vs
 | _,_,.nil=>.nil
 | _,_,.cons n t h=>.cons ⟨t,rfl⟩ (VH h)
end L2
namespace L2
open PySem PySem.Spec PyProof.Rows
end L2
namespace L2
open PySem PySem.Spec PyProof.Rows
def Yd (s:Stmt)(j:Nat):Stmt:=match s with
 | .ClassDef _ _ _ body _ _ _ _ _ _ _=>body.getD j (.Pass ⟨0,0,0,0⟩)
 | _=>.Pass ⟨0,0,0,0⟩
def VC (s:Stmt):Arguments:=match s with
 | .FunctionDef _ a _ _ _ _ _ _ _ _=>a
 | _=>{ posonlyargs:=[],args:=[],vararg:=none,kwonlyargs:=[],kw_defaults:=[],kwarg:=none,defaults:=[] }
def Xt (s:Stmt):List Stmt:=match s with
 | .FunctionDef _ _ b _ _ _ _ _ _ _=>b
 | _=>[]
def Zj (s:Stmt):Scope:=match s with
 | .FunctionDef _ _ _ _ _ _ sc _ _ _=>sc
 | _=>{ kind:=.function,names:=[],isGenerator:=false,isCoroutine:=false }
abbrev ZU:XJ:=fun _ _ _ _ _ _=>False
abbrev E0:XK:=fun _ _ _=>False
theorem UL {X:Cx}:Xn ZU X E0:=fun _ _ _ _ _ _ _ h=>h.elim
structure Fun (K:PySem.W.Frag)(x qual:Str)(st:Stmt)(f:Addr)(fd:FuncData):Prop where
 ex:∃ (oc:Value) (od:Option Addr) (kV doc pm:Value) (an:Option Addr) (cdv ct:Value) (osl:Array (Option Value)),
   fd=PySem.W.fnOf x qual (VC st) (Xt st) (Zj st) .none kV doc pm an cdv ct∧K.lookup f=some ⟨oc,od,.func fd,osl⟩∧PySem.W.codeIn K cdv qual=true
 kp:PySem.W.keepIn K (.ref f)=true
section
variable {P:Program}{w:World}{K:PySem.W.Frag}{mg:Str→Option Value}{base:Heap}
theorem Fun.ok {x qual:Str}{st:Stmt}{f:Addr}{fd:FuncData}{N ps:List Str}{k:Nat}{sp:Sp}(F:Fun K x qual st f fd)(S:Zs N ps (Zj st))(len:∀ vs H Q E,sp vs H Q E→vs.length=ps.length)
   (hbody:∀ (cdv:Value) (A:Around) (outer:List Env) (s:Shared) (H:Hp) (vs:List V) (Q:VK) (E:XK),Room k (A.deeper (envOfC qual (Zj st) s.heap.objs.size f cdv))→sp vs H Q E →
     ∃ t,PSs (Wu ZU P w K mg base N qual (Zj st) f cdv A outer s H E).nox (Xt st) t∧t { nx:=fun _ H'=>Q .non H',rt:=Q } (Xs N vs) H):FnOk P w K mg base ZU (k+1) f fd ps sp:=by
 obtain ⟨oc,od,kV,doc,pm,an,cdv,ct,osl,rfl,lk,hcd⟩:=F.ex
 refine ZfG lk hcd S len fun A outer s H vs Q E hr hsp=>?_
 obtain ⟨t,h,q⟩:=hbody cdv A outer s H vs Q E hr hsp
 exact ⟨t,h.nox,q⟩
theorem Fun.binds {x qual:Str}{st:Stmt}{f:Addr}{fd:FuncData}{ps:List Str}(F:Fun K x qual st f fd)
   (h:∀ (kV doc pm:Value) (an:Option Addr) (cdv ct:Value) (us:List Value),us.length=ps.length→bindArgs (PySem.W.fnOf x qual (VC st) (Xt st) (Zj st) .none kV doc pm an cdv ct) ⟨us,[]⟩=pure (ps.zip us)):Binds K fd ps []:=by
 obtain ⟨oc,od,kV,doc,pm,an,cdv,ct,osl,rfl,lk,hcd⟩:=F.ex
 exact .all (h kV doc pm an cdv ct)
end
theorem US {A:Around}{k:Nat}(hr:Room k A):A.units+1 < cLine:=Nat.lt_of_le_of_lt (Nat.add_le_add_left (by decide:1≤64) _) hr.units
theorem Zee {n:Nat}(h:n≤1000):n < sizeLine:=Nat.lt_of_le_of_lt h (by decide)
section
variable {X:Cx}
theorem pv (i:Nat){x:Str}{pos:Pos}(hN:X.N[i]?=some x:=by rfl)(hv:Vis X.env.scope x:=by first | exact Or.inl rfl | exact Or.inr (Or.inl rfl) | exact Or.inr (Or.inr rfl))(hd:(x == ("__debug__":Str))=false:=by decide)
 (hcd:(x == ("__classdict__":Str))=false:=by decide):PE X (.Name x pos) (Zbj i):=Zhn hN hv hd hcd
end
theorem ZV {A B:Prop}(h:B):if false=true then A else B:=by
 rw [if_neg Bool.false_ne_true]
 exact h
theorem Yc {A B:Prop}(h:A):if true=true then A else B:=by
 rw [if_pos rfl]
 exact h
theorem Wp {c A B:Prop}[Decidable c](h1:c→A)(h2:¬ c→B):if c then A else B:=by
 by_cases h:c
 · rw [if_pos h]
   exact h1 h
 · rw [if_neg h]
   exact h2 h
def Same (H H':Hp):Prop:=∀ b o,H b=some o→H' b=some o
theorem Same.trans {H H1 H2:Hp}(a:Same H H1)(b:Same H1 H2):Same H H2:=fun c o h=>b c o (a c o h)
end L2
namespace L2
open PySem PySem.Spec PyProof.Rows
section
variable {κ:Type}[DecidableEq κ]
def ZB (kvs:List (κ×V))(k:κ):Option V:=(kvs.find? fun kv=>decide (kv.1=k)).map (·.2)
def Yz (kvs:List (κ×V))(k:κ)(v:V):List (κ×V) :=
 if (kvs.any fun kv=>decide (kv.1=k))=true then kvs.map (fun kv=>if kv.1=k then (kv.1,v) else kv) else kvs++[(k,v)]
def Ws (kvs:List (κ×V))(k:κ):List (κ×V):=kvs.filter fun kv=>decide (kv.1≠k)
theorem UA {p:κ×V}{r:List (κ×V)}{k:κ}(e:p.1=k):ZB (p::r) k=some p.2:=by simp [ZB,List.find?_cons,e]
theorem Uy {p:κ×V}{r:List (κ×V)}{k:κ}(e:¬ p.1=k):ZB (p::r) k=ZB r k:=by simp [ZB,List.find?_cons,e]
theorem UD (k:κ):∀ kvs:List (κ×V),(kvs.any fun kv=>decide (kv.1=k))=(ZB kvs k).isSome
 | []=>rfl
 | p::r=>by
   rw [List.any_cons]
   by_cases e:p.1=k
   · simp only [UA e,decide_eq_true e,Bool.true_or,Option.isSome_some]
   · rw [Uy e,decide_eq_false e,Bool.false_or];exact UD k r
theorem XV (kvs:List (κ×V))(k:κ)(v:V):(Yz kvs k v).length≤kvs.length+1:=by
 unfold Yz
 split
 · rw [List.length_map];omega
 · rw [List.length_append,List.length_cons,List.length_nil];omega
theorem Zex {kvs:List (κ×V)}{k:κ}(v:V)(h:ZB kvs k=none):Yz kvs k v=kvs++[(k,v)]:=by
 unfold Yz
 rw [UD,h]
 exact if_neg (by decide)
theorem RelO.isSome_eq {o:Option V}{u:Option Value}(r:RelO o u):o.isSome=u.isSome:=by
 cases o with
 | none=>cases u with
   | none=>rfl
   | some _=>exact (show False from r).elim
 | some _=>cases u with
   | none=>exact (show False from r).elim
   | some _=>rfl
theorem KV.val {kvs:List (κ×V)}{vs:List (κ×Value)}(r:KV kvs vs)(k:κ):RelO (ZB kvs k) (valueAt vs k):=by
 unfold KV at r
 induction r with
 | nil=>exact True.intro
 | @cons p q ps qs h t ih =>
   obtain ⟨h1,h2⟩:=h
   by_cases e:p.1=k
   · have e':q.1=k:=h1.symm.trans e
     have b:valueAt (q::qs) k=some q.2:=by simp [valueAt,List.find?_cons,e']
     rw [UA e,b];exact h2
   · have e':¬ q.1=k:=fun z=>e (h1.trans z)
     have b:valueAt (q::qs) k=valueAt qs k:=by simp [valueAt,List.find?_cons,e']
     rw [Uy e,b];exact ih
theorem KV.any {kvs:List (κ×V)}{vs:List (κ×Value)}(r:KV kvs vs)(k:κ):(kvs.any fun kv=>decide (kv.1=k))=vs.any fun kv=>decide (kv.1=k):=by
 unfold KV at r
 induction r with
 | nil=>rfl
 | cons h t ih=>rw [List.any_cons,List.any_cons,ih,h.1]
theorem KV.repl {kvs:List (κ×V)}{vs:List (κ×Value)}(r:KV kvs vs)(k:κ){y:V}{u:Value}(ry:RelV y u) :
   KV (kvs.map fun kv=>if kv.1=k then (kv.1,y) else kv) (vs.map fun kv=>if kv.1=k then (kv.1,u) else kv):=by
 unfold KV at r ⊢
 induction r with
 | nil=>exact .nil
 | @cons p q ps qs h t ih =>
   rw [List.map_cons,List.map_cons]
   refine .cons ?_ ih
   obtain ⟨h1,h2⟩:=h
   by_cases e:p.1=k
   · rw [if_pos e,if_pos (h1.symm.trans e)];exact ⟨h1,ry⟩
   · rw [if_neg e,if_neg (fun z=>e (h1.trans z))];exact ⟨h1,h2⟩
theorem KV.put {kvs:List (κ×V)}{vs:List (κ×Value)}(r:KV kvs vs)(k:κ){y:V}{u:Value}(ry:RelV y u):KV (Yz kvs k y) (stored vs k u):=by
 unfold Yz stored
 rw [r.any k]
 by_cases e:(vs.any fun kv=>decide (kv.1=k))=true
 · rw [if_pos e,if_pos e];exact r.repl k ry
 · rw [if_neg e,if_neg e];exact Paired.snoc r ⟨rfl,ry⟩
theorem KV.drop {kvs:List (κ×V)}{vs:List (κ×Value)}(r:KV kvs vs)(k:κ):KV (Ws kvs k) (without vs k):=by
 unfold KV at r ⊢
 unfold Ws without
 induction r with
 | nil=>exact .nil
 | @cons p q ps qs h t ih =>
   obtain ⟨h1,h2⟩:=h
   rw [List.filter_cons,List.filter_cons]
   by_cases e:p.1=k
   · have a:¬ decide (p.1≠k)=true:=by simp [e]
     have b:¬ decide (q.1≠k)=true:=by simp [h1.symm.trans e]
     rw [if_neg a,if_neg b];exact ih
   · have e':¬ q.1=k:=fun z=>e (h1.trans z)
     have a:decide (p.1≠k)=true:=by simp [e]
     have b:decide (q.1≠k)=true:=by simp [e']
     rw [if_pos a,if_pos b];exact .cons ⟨h1,h2⟩ ih
theorem KV.length {kvs:List (κ×V)}{vs:List (κ×Value)}(r:KV kvs vs):kvs.length=vs.length:=Paired.length r
theorem Zfn (kvs:List (κ×V))(k:κ):(Ws kvs k).length≤kvs.length:=List.length_filter_le _ _
end
theorem Wv {P:Program}{w:World}{k:Zo}{u:Value}(r:RelV (kV k) u):(ZD P w).is k u=true:=by
 cases k with
 | inl i=>obtain ⟨t,e⟩:=(show ∃ t,u=Value.int i t from r);subst e;exact Zbw P w i t
 | inr x=>obtain ⟨t,e⟩:=(show ∃ t,u=Value.str x t from r);subst e;exact Zbp P w x t
theorem VW {P:Program}{w:World}:∀{ks:List Zo}{us:List Value},Vals (ks.map kV) us→ItemsAre (ZD P w) ks us
 | [],_,r=>by rw [List.map_nil] at r;cases r;exact .nil
 | k::ks,_,r=>by
   rw [List.map_cons] at r
   cases r with
   | cons h t=>exact .cons (Wv h) (VW t)
abbrev KT (H:Hp):List (List Zo×V)→List (List Zo×Addr×Value)→Prop:=Paired fun p q=>p.1=q.1∧H q.2.1=some (.tup (p.1.map kV))∧RelV p.2 q.2.2
theorem KT.val {H:Hp}{kvs:List (List Zo×V)}{xs:List (List Zo×Addr×Value)}(r:KT H kvs xs)(k:List Zo):RelO (ZB kvs k) ((atKey xs k).map (·.2)):=by
 induction r with
 | nil=>exact True.intro
 | @cons p q ps qs h t ih =>
   obtain ⟨h1,_,h2⟩:=h
   by_cases e:p.1=k
   · have e':q.1=k:=h1.symm.trans e
     have b:atKey (q::qs) k=some q.2:=by simp [atKey,List.find?_cons,e']
     rw [UA e,b];exact h2
   · have e':¬ q.1=k:=fun z=>e (h1.trans z)
     have b:atKey (q::qs) k=atKey qs k:=by simp [atKey,List.find?_cons,e']
     rw [Uy e,b];exact ih
theorem KT.repl {H:Hp}{kvs:List (List Zo×V)}{xs:List (List Zo×Addr×Value)}(r:KT H kvs xs)(k:List Zo){y:V}{u:Value}(ry:RelV y u) :
   KT H (kvs.map fun kv=>if kv.1=k then (kv.1,y) else kv) (xs.map (putAt k u)):=by
 induction r with
 | nil=>exact .nil
 | @cons p q ps qs h t ih =>
   rw [List.map_cons,List.map_cons]
   refine .cons ?_ ih
   obtain ⟨h1,h2,h3⟩:=h
   unfold putAt
   by_cases e:p.1=k
   · rw [if_pos e,if_pos (h1.symm.trans e)];exact ⟨h1,h2,ry⟩
   · rw [if_neg e,if_neg (fun z=>e (h1.trans z))];exact ⟨h1,h2,h3⟩
theorem KT.put {H:Hp}{kvs:List (List Zo×V)}{xs:List (List Zo×Addr×Value)}(r:KT H kvs xs)(k:List Zo){b:Addr}{y:V}{u:Value}(hb:H b=some (.tup (k.map kV)))(ry:RelV y u) :
   KT H (Yz kvs k y) (storedH xs k b u):=by
 have e:(kvs.any fun kv=>decide (kv.1=k))=(atKey xs k).isSome:=by
   rw [UD,(r.val k).isSome_eq,Option.isSome_map]
 unfold Yz storedH
 rw [e]
 by_cases q:(atKey xs k).isSome=true
 · rw [if_pos q,if_pos q];exact r.repl k ry
 · rw [if_neg q,if_neg q];exact Paired.snoc r ⟨rfl,hb,ry⟩
theorem KT.keeps {H H':Hp}{kvs:List (List Zo×V)}{xs:List (List Zo×Addr×Value)}(r:KT H kvs xs)(ht:∀ b ys,H b=some (.tup ys)→H' b=some (.tup ys)):KT H' kvs xs :=
 Paired.mapP r fun _ _ z=>⟨z.1,ht _ _ z.2.1,z.2.2⟩
section
variable {P:Program}{w:World}{H:Hp}{h:Heap}{a:Addr}
theorem ZfB {u:HO}(ok:HOk P w H h)(e:Rd H a u):ObjOk P w H h a u:=e.ok ok
theorem Zam {kvs:List (Zo×V)}(ok:HOk P w H h)(e:Rd H a (.dK kvs)):kvs.length≤sizeLine∧(a == sysModules)=false∧∃ vs,KV kvs vs∧h.DictOf (ZD P w) a vs :=
 show ObjOk P w H h a (.dK kvs) from ZfB ok e
theorem Wr {kvs:List (Zo×V)}(ok:HOk P w H h)(e:H a=some (.dK kvs)):kvs.length≤sizeLine∧(a == sysModules)=false∧∃ vs,KV kvs vs∧h.DictOf (ZD P w) a vs:=Zam ok (.inl e)
theorem Vh {ks:List Zo}(ok:HOk P w H h)(e:H a=some (.tup (ks.map kV))):(tupleKind (ZD P w)).is h ks a:=by
 obtain ⟨_,its,r,o,h1,h2,n,h3⟩:=(show ObjOk P w H h a (.tup (ks.map kV)) from ok a _ e)
 exact ⟨o,its.toArray,n,h1,h2,h3,by simpa using VW r⟩
theorem VZ {kvs:List (List Zo×V)}(ok:HOk P w H h)(e:Rd H a (.dT kvs)):kvs.length≤sizeLine∧(a == sysModules)=false ∧
   ∃ xs,KT H kvs xs∧h.DictOfH (tupleKind (ZD P w)) a xs:=by
 obtain ⟨z,y,xs,r,o,es,ep,h1,h2,h3,h4,h5⟩:=(show ObjOk P w H h a (.dT kvs) from ZfB ok e)
 refine ⟨z,y,xs,r,o,es,ep,h1,h2,h3,h4,fun x hx=>?_,h5⟩
 have all:∀ {l:List (List Zo×V)} {m:List (List Zo×Addr×Value)},KT H l m→∀ x∈m,(tupleKind (ZD P w)).is h x.1 x.2.1:=by
   intro l m q
   induction q with
   | nil=>intro x hx;exact nomatch hx
   | @cons p q ps qs hq t ih =>
     intro x hx
     rcases List.mem_cons.mp hx with e | hx
     · subst e
       exact Vh ok (by rw [← hq.1];exact hq.2.1)
     · exact ih x hx
 exact all r x hx
theorem Ziz {kvs:List (List Zo×V)}(ok:HOk P w H h)(e:H a=some (.dT kvs)):kvs.length≤sizeLine∧(a == sysModules)=false ∧
 ∃ xs,KT H kvs xs∧h.DictOfH (tupleKind (ZD P w)) a xs:=VZ ok (.inl e)
end
def DGet (H:Hp)(a:Addr)(y:V)(r:Option V):Prop :=
 (∃ kvs k,Rd H a (.dK kvs)∧y=kV k∧r=ZB kvs k)∨∃ kvs k b,Rd H a (.dT kvs)∧y=.ref b∧H b=some (.tup (k.map kV))∧r=ZB kvs k
def DPut (H:Hp)(a:Addr)(y v:V)(H':Hp):Prop :=
 (∃ kvs k,H a=some (.dK kvs)∧y=kV k∧kvs.length < sizeLine∧H'=upd H a (.dK (Yz kvs k v))) ∨
 ∃ kvs k b,H a=some (.dT kvs)∧y=.ref b∧H b=some (.tup (k.map kV))∧kvs.length < sizeLine∧H'=upd H a (.dT (Yz kvs k v))
theorem DGet.k {H:Hp}{a:Addr}{kvs:List (Zo×V)}{k:Zo}(e:H a=some (.dK kvs)):DGet H a (kV k) (ZB kvs k):=.inl ⟨kvs,k,.inl e,rfl,rfl⟩
section
variable {X:Cx}{pins:List (Addr×Obj)}{σ:St}{H:Hp}{s:Shared}{a:Addr}{y v:V}{u r:Value}{o:Option V}{A:Around}{E:Value→Shared→Prop}
theorem Inv.big (I:Inv X pins σ H s):sysModules < s.heap.objs.size:=by
 have h:mainGlobals < s.heap.objs.size:=(I.mod.glob.keeps I.bk).lt
 exact Nat.lt_trans (by decide) h
theorem d_in {Q:Value→Shared→Prop}(hu:A.units+1 < cLine)(I:Inv X pins σ H s)(g:DGet H a y o)(ry:RelV y u)(h:∀ s',Inv X pins σ H s'→Q (.bool o.isSome) s') :
   wpAny (model X.prog X.w) A (compareOp .In u (.ref a)) Q E s:=by
 rcases g with ⟨kvs,k,e,ey,l⟩ | ⟨kvs,k,b,e,ey,eb,l⟩
 · subst ey
   obtain ⟨z,hd,vs,rel,dd⟩:=Zam I.hok e
   refine wpAny_in_of (Wv ry) hd dd.mapOf ?_
   rw [← (rel.val k).isSome_eq,← l]
   exact h _ (I.tok _)
 · subst ey
   cases (show u=Value.ref b from ry)
   obtain ⟨z,hd,xs,rel,dd⟩:=VZ I.hok e
   refine wpAny_in_heap (tupleKind_room_in1 hu) (Vh I.hok eb) hd dd ?_
   have q:=(rel.val k).isSome_eq
   rw [Option.isSome_map] at q
   rw [← q,← l]
   exact h _ (I.tok _)
theorem ZgF {Q:Value→Shared→Prop}(hu:A.units+1 < cLine)(I:Inv X pins σ H s)(g:DGet H a y o)(ry:RelV y u)(h:∀ s',Inv X pins σ H s'→Q (.bool (!o.isSome)) s') :
   wpAny (model X.prog X.w) A (compareOp .NotIn u (.ref a)) Q E s:=by
 rcases g with ⟨kvs,k,e,ey,l⟩ | ⟨kvs,k,b,e,ey,eb,l⟩
 · subst ey
   obtain ⟨z,hd,vs,rel,dd⟩:=Zam I.hok e
   refine wpAny_notIn_of (Wv ry) hd dd.mapOf ?_
   rw [← (rel.val k).isSome_eq,← l]
   exact h _ (I.tok _)
 · subst ey
   cases (show u=Value.ref b from ry)
   obtain ⟨z,hd,xs,rel,dd⟩:=VZ I.hok e
   refine wpAny_notIn_heap (tupleKind_room_in1 hu) (Vh I.hok eb) hd dd ?_
   have q:=(rel.val k).isSome_eq
   rw [Option.isSome_map] at q
   rw [← q,← l]
   exact h _ (I.tok _)
theorem WY {h':Heap}{t':Nat}{ob:HO}(I:Inv X pins σ H s)(mu:Mut (H a))(hs:Heap.SameBut a s.heap h')(he:∃ q,h'.get? a=some q)(new:ObjOk X.prog X.w (upd H a ob) h' a ob) :
   Inv X pins σ (upd H a ob) { s with heap:=h',toks:=t' } :=
 I.write (x:=a) (e:=a) mu (.inl rfl) (fun b q hb z=>(hs.2 b hb).trans z) he new
theorem Zaq {P:Program}{w:World}{H':Hp}{h':Heap}{kvs:List (Zo×V)}{vs:List (Zo×Value)}(z:kvs.length≤sizeLine)(hd:(a == sysModules)=false)(rel:KV kvs vs)(dd:h'.DictOf (ZD P w) a vs) :
 ObjOk P w H' h' a (.dK kvs):=⟨z,hd,vs,rel,dd⟩
theorem Zdv {H':Hp}{Q:Unit→Shared→Prop}(hu:A.units+1 < cLine)(I:Inv X pins σ H s)(g:DPut H a y v H')(ry:RelV y u)(rv:RelV v r)(h:∀ s',Inv X pins σ H' s'→Q () s') :
   wpAny (model X.prog X.w) A (setItem (.ref a) u r) Q E s:=by
 rcases g with ⟨kvs,k,e,ey,l,eH⟩ | ⟨kvs,k,b,e,ey,eb,l,eH⟩
 · subst ey eH
   obtain ⟨z,hd,vs,rel,dd⟩:=Wr I.hok e
   have hz:vs.length≤sizeLine:=by rw [← rel.length];exact z
   have hl:(Yz kvs k v).length≤sizeLine:=by have:=XV kvs k v;omega
   refine wpAny_setItem_pairs (hsz:=hz) (Wv ry) dd fun h' dd' hs=>h _ ?_
   have he:∃ q,h'.get? a=some q:=let ⟨q,_,_,hq,_⟩:=dd';⟨q,hq⟩
   exact WY I (by rw [e];exact True.intro) hs he (Zaq hl hd (rel.put k rv) dd')
 · subst ey eH
   cases (show u=Value.ref b from ry)
   obtain ⟨z,hd,xs,rel,dd⟩:=Ziz I.hok e
   have hz:xs.length≤sizeLine:=by rw [← Paired.length rel];exact z
   have hl:(Yz kvs k v).length≤sizeLine:=by have:=XV kvs k v;omega
   refine wpAny_setItem_heap (hsz:=hz) (tupleKind_room_in1 hu) (Vh I.hok eb) dd fun h' dd' hs=>h _ ?_
   obtain ⟨q,es,ep,hq,h2,h3,h4,_,h5⟩:=dd'
   refine WY I (by rw [e];exact True.intro) hs ⟨q,hq⟩ ⟨hl,hd,_,(rel.put k eb rv).keeps fun c ys ec=>?_,q,es,ep,hq,h2,h3,h4,h5⟩
   rw [Zb (Ziw ec e (fun z=>nomatch z))]
   exact ec
end
section
variable {X:Cx}{pins:List (Addr×Obj)}{σ:St}{H:Hp}{s:Shared}{a:Addr}{kvs:List (Zo×V)}{k:Zo}{u:Value}{A:Around}{E:Value→Shared→Prop}
theorem ZiE {v:V}{more:List Value}{Q:Value→Shared→Prop}(I:Inv X pins σ H s)(e:H a=some (.dK kvs))(ry:RelV (kV k) u)(l:ZB kvs k=some v)(hm:more=[]∨∃ x,more=[x])
   (h:∀ w' s',Inv X pins σ (upd H a (.dK (Ws kvs k))) s'→RelV v w'→Q w' s'):wpAny (model X.prog X.w) A (call (.builtin "dict.pop") (.ref a::u::more)) Q E s:=by
 obtain ⟨z,hd,vs,rel,dd⟩:=Wr I.hok e
 obtain ⟨w',hw,rw'⟩:=RelO.some_of (v:=v) (o:=valueAt vs k) (by rw [← l];exact rel.val k)
 have hp:(keyPart u).isSome=true:=by
   cases k with
   | inl i=>obtain ⟨t,q⟩:=(show ∃ t,u=Value.int i t from ry);subst q;rfl
   | inr x=>obtain ⟨t,q⟩:=(show ∃ t,u=Value.str x t from ry);subst q;rfl
 have ha:argsOk "dict.pop" ⟨.ref a::u::more,[]⟩:=by
   rcases hm with q | ⟨x,q⟩
   · subst q;exact PySem.F.args_dict_pop_2 _ _
   · subst q;exact PySem.F.args_dict_pop_3 _ _ _
 refine call_meetsIn PySem.F.slot_dict_pop dd.typeIs PySem.F.entry_dict_pop ha (meets_dict_pop_there (ZD X.prog X.w) a (Wv ry) more hm hp)
   ⟨vs,w',dd,by rw [← rel.length];exact z,hw,fun h' dd' hs=>h w' _ ?_ rw'⟩
 have he:∃ q,h'.get? a=some q:=let ⟨q,_,_,hq,_⟩:=dd';⟨q,hq⟩
 exact WY I (by rw [e];exact True.intro) hs he (Zaq (Nat.le_trans (Zfn kvs k) z) hd (rel.drop k) dd')
theorem Zib {r:Value}{Q:Value→Shared→Prop}(I:Inv X pins σ H s)(e:H a=some (.dK kvs))(ry:RelV (kV k) u)(l:ZB kvs k=none)(h:∀ s',Inv X pins σ H s'→Q r s') :
   wpAny (model X.prog X.w) A (call (.builtin "dict.pop") [.ref a,u,r]) Q E s:=by
 obtain ⟨z,hd,vs,rel,dd⟩:=Wr I.hok e
 have hn:valueAt vs k=none:=RelO.none_of (by rw [← l];exact rel.val k)
 have hp:(keyPart u).isSome=true:=by
   cases k with
   | inl i=>obtain ⟨t,q⟩:=(show ∃ t,u=Value.int i t from ry);subst q;rfl
   | inr x=>obtain ⟨t,q⟩:=(show ∃ t,u=Value.str x t from ry);subst q;rfl
 exact call_meetsIn PySem.F.slot_dict_pop dd.typeIs PySem.F.entry_dict_pop (PySem.F.args_dict_pop_3 _ _ _) (meets_dict_pop_default (ZD X.prog X.w) a (Wv ry) hd hp r) ⟨vs,dd,hn,h _ (I.tok _)⟩
end
def tDIn (ty td:TE):TE:=fun σ H Q=>ty σ H fun y H1=>td σ H1 fun x H2=>∃ a o,x=.ref a∧DGet H2 a y o∧Q (.bl o.isSome) H2
def ZgQ (ty td:TE):TE:=fun σ H Q=>ty σ H fun y H1=>td σ H1 fun x H2=>∃ a o,x=.ref a∧DGet H2 a y o∧Q (.bl (!o.isSome)) H2
def Ziq (td ty tv:TE):TS:=fun D σ H=>tv σ H fun v H1=>td σ H1 fun x H2=>ty σ H2 fun y H3=>∃ a H4,x=.ref a∧DPut H3 a y v H4∧D.nx σ H4
section
variable {X:Cx}{o i e value:Expr}{pos pos' tpos:Pos}{td ty tv:TE}
theorem Zdj (hu:X.A.units+1 < cLine)(hi:PE X i ty)(ho:PE X o td):PC X .In i o (tDIn ty td):=by
 intro pins s σ H Q I h
 refine Zm (hi pins s σ H _ I h) fun iv s1 ⟨y,H1,I1,ry,q1⟩=>Zm (ho pins s1 σ H1 _ I1 q1) fun u s2 ⟨x,H2,I2,rx,a,ov,ex,g,q2⟩=>?_
 subst ex
 obtain rfl:u=Value.ref a:=rx
 exact d_in hu I2 g ry fun s3 I3=>⟨.bl ov.isSome,H2,I3,rfl,q2⟩
theorem ZdP (hu:X.A.units+1 < cLine)(hi:PE X i ty)(ho:PE X o td):PC X .NotIn i o (ZgQ ty td):=by
 intro pins s σ H Q I h
 refine Zm (hi pins s σ H _ I h) fun iv s1 ⟨y,H1,I1,ry,q1⟩=>Zm (ho pins s1 σ H1 _ I1 q1) fun u s2 ⟨x,H2,I2,rx,a,ov,ex,g,q2⟩=>?_
 subst ex
 obtain rfl:u=Value.ref a:=rx
 exact ZgF hu I2 g ry fun s3 I3=>⟨.bl (!ov.isSome),H2,I3,rfl,q2⟩
theorem ZbM (hu:X.A.units+1 < cLine)(ho:PE X o td)(hi:PE X i ty)(hv:PE X value tv)(hs:swapsWith value (some (.Subscript o i pos')) pos.line X.env=pure false) :
   PS X (.Assign [.Subscript o i pos'] value pos) (Ziq td ty tv):=by
 intro pins s σ H D I h
 refine wpAny_Assign_Subscript (Zm (hv pins s σ H _ I h) fun r s1 ⟨v,H1,I1,rv,q1⟩=>Zm (ho pins s1 σ H1 _ I1 q1) fun u s2 ⟨x,H2,I2,rx,q2⟩=>Zm (hi pins s2 σ H2 _ I2 q2) fun iv s3 ⟨y,H3,I3,ry,a,H4,ex,g,q3⟩=>?_) hs
 subst ex
 obtain rfl:u=Value.ref a:=rx
 exact Zdv hu I3 g ry rv fun s4 I4=>⟨σ,H4,I4,q3⟩
end
theorem ZaY {P:Program}{w:World}{H:Hp}(h:Heap)(hb:sysModules < h.objs.size):ObjOk P w H (h.push { cls:=.type "dict",data:=.dict #[] }) h.objs.size (.dK []) :=
 ⟨Nat.zero_le _,beq_eq_false_iff_ne.mpr (Ne.symm (Nat.ne_of_lt hb)),[],.nil,Heap.DictOf.new h⟩
def ZhP:TE:=fun _ H Q=>∀ p,H p=none→Q (.ref p) (upd H p (.dK []))
section
variable {X:Cx}{pos:Pos}
theorem Zbh:PE X (.Dict [] [] pos) ZhP:=fun pins s σ H Q I h =>
 wpAny_Dict_empty ⟨.ref s.heap.objs.size,_,I.laid (a:=s.heap.objs.size) (o:=.dK []) (t':=s.toks) (fun _ _ q=>Heap.get?_push_of_some _ q) (Nat.le_refl _) (ZaY s.heap I.big),rfl,h _ (I.hok.fresh (Nat.le_refl _))⟩
end
def Zax:List (TE×TE)→St→Hp→(List (V×V)→Hp→Prop)→Prop
 | [],_,H,Q=>Q [] H
 | (tk,tv)::r,σ,H,Q=>tk σ H fun x H1=>tv σ H1 fun y H2=>Zax r σ H2 fun ps H3=>Q ((x,y)::ps) H3
abbrev VV:List (V×V)→List (Value×Value)→Prop:=Paired fun p q=>RelV p.1 q.1∧RelV p.2 q.2
def PPs (X:Cx)(pos:Pos)(keys:List (Option Expr))(values:List Expr)(trs:List (TE×TE)):Prop :=
 ∀ (pins:List (Addr×Obj)) (s:Shared) (σ:St) (H:Hp) (Q:List (V×V)→Hp→Prop),Inv X pins σ H s→Zax trs σ H Q →
   wpAny (model X.prog X.w) X.A (evalPairs (pairTrees keys values X.env pos)) (fun vs s'=>∃ ps H',Inv X pins σ H' s'∧VV ps vs∧Q ps H') X.xe s
theorem Zgr {X:Cx}{pos:Pos}:PPs X pos [] [] []:=fun pins s σ H Q I h=>pairTrees_nil_walk ⟨[],H,I,.nil,h⟩
theorem Zek {X:Cx}{pos:Pos}{k v:Expr}{ks:List (Option Expr)}{vs:List Expr}{tk tv:TE}{trs:List (TE×TE)}(hk:PE X k tk)(hv:PE X v tv)(hr:PPs X pos ks vs trs) :
   PPs X pos (some k::ks) (v::vs) ((tk,tv)::trs):=fun pins s σ H Q I h =>
 pairTrees_cons_walk (Zm (hk pins s σ H _ I h) fun u s1 ⟨x,H1,I1,rx,q1⟩=>Zm (hv pins s1 σ H1 _ I1 q1) fun w2 s2 ⟨y,H2,I2,ry,q2⟩ =>
   Zm (hr pins s2 σ H2 _ I2 q2) fun ws s3 ⟨ps,H3,I3,rel,q3⟩=>⟨(x,y)::ps,H3,I3,.cons ⟨rx,ry⟩ rel,q3⟩)
def WM (kvs more:List (Zo×V)):List (Zo×V):=more.foldl (fun acc kv=>Yz acc kv.1 kv.2) kvs
theorem KV.merge:∀{more:List (Zo×V)}{rs:List (Zo×Value)}{kvs:List (Zo×V)}{vs:List (Zo×Value)},KV more rs→KV kvs vs→KV (WM kvs more) (merged vs rs):=by
 intro more rs kvs vs r
 unfold KV at r
 induction r generalizing kvs vs with
 | nil=>intro q;exact q
 | @cons p q ps qs h t ih =>
   intro r0
   have e:KV (Yz kvs p.1 p.2) (stored vs q.1 q.2):=by
     have:=r0.put p.1 h.2
     rw [← h.1];exact this
   exact ih e
theorem Wx:∀(more kvs:List (Zo×V)),(WM kvs more).length≤kvs.length+more.length
 | [],kvs=>by show kvs.length≤kvs.length+0;omega
 | p::r,kvs=>by
   have h1:=Wx r (Yz kvs p.1 p.2)
   have h2:=XV kvs p.1 p.2
   show (WM (Yz kvs p.1 p.2) r).length≤_
   rw [List.length_cons];omega
theorem UM {P:Program}{w:World}:∀{kvs:List (Zo×V)}{ws:List (Value×Value)},VV (kvs.map fun kv=>(kV kv.1,kv.2)) ws→∃ rs,Carries (ZD P w) ws rs∧KV kvs rs
 | [],_,r=>by rw [List.map_nil] at r;cases r;exact ⟨[],True.intro,.nil⟩
 | p :: kvs,_,r=>by
   rw [List.map_cons] at r
   cases r with
   | @cons a b as bs h t =>
     obtain ⟨rs,c,q⟩:=UM (P:=P) (w:=w) t
     obtain ⟨b1,b2⟩:=b
     exact ⟨(p.1,b2)::rs,⟨Wv h.1,rfl,c⟩,.cons ⟨rfl,h.2⟩ q⟩
def ZiH (trs:List (TE×TE)):TE:=fun σ H Q=>∀ p,H p=none→Zax trs σ (upd H p (.dK [])) fun ps H2=>H2 p=some (.dK [])∧∃ kvs:List (Zo×V),ps=kvs.map (fun kv=>(kV kv.1,kv.2))∧kvs.length≤15∧Q (.ref p) (upd H2 p (.dK (WM [] kvs)))
theorem Zgx {X:Cx}{pos:Pos}{keys:List (Option Expr)}{values:List Expr}{trs:List (TE×TE)}(h:PPs X pos keys values trs)(hall:keys.all (·.isSome)=true)(hl:keys.length=values.length)(h0:keys≠[])
   (h15:keys.length≤15):PE X (.Dict keys values pos) (ZiH trs):=by
 intro pins s σ H Q I q
 have hn:=I.hok.fresh (Nat.le_refl s.heap.objs.size)
 have I1:=I.laid (a:=s.heap.objs.size) (o:=.dK []) (h':=s.heap.push { cls:=.type "dict",data:=.dict #[] }) (t':=s.toks) (fun _ _ q=>Heap.get?_push_of_some _ q) (Nat.le_refl _) (ZaY s.heap I.big)
 refine wpAny_Dict_walk (knd:=ZD X.prog X.w) hall hl h0 h15 (Zm (h pins _ σ _ _ I1 (q _ hn)) fun ws s2 ⟨ps,H2,I2,rel,e,kvs,ep,lk,q2⟩=>?_)
 subst ep
 obtain ⟨rs,c,rk⟩:=UM (P:=X.prog) (w:=X.w) rel
 obtain ⟨z,hd,vs0,r0,dd⟩:=Wr I2.hok e
 cases r0
 refine ⟨rs,c,dd,fun h' dd' hs=>⟨.ref s.heap.objs.size,_,?_,rfl,q2⟩⟩
 have hz:(WM [] kvs).length≤sizeLine:=by
   have h1:=Wx kvs []
   rw [List.length_nil] at h1
   rw [sizeLine_eq];omega
 have he:∃ q,h'.get? s.heap.objs.size=some q:=let ⟨q,_,_,hq,_⟩:=dd';⟨q,hq⟩
 exact WY I2 (by rw [e];exact True.intro) hs he (Zaq hz hd (rk.merge .nil) dd')
structure M2 (X:Cx)(o:Expr)(m:Str)(apos:Pos)(e f:Expr)(cpos:Pos):Prop where
 base:attributeBase o m X.env (eval o X.env)=eval o X.env
 few:((backTo cpos (starEach [e,f] X.env)).all (fun x=>!x.1)&&(backToKw cpos (keywordEach [] X.env)).all (fun x=>x.1.isSome)
   && decide (([e,f]:List Expr).length+([]:List Keyword).length+(if ([]:List Keyword).isEmpty then 0 else 1) < 30))=true
 line:(apos.endLine == cpos.line)=true
 trees:backTo cpos (starEach [e,f] X.env)=[(false,eval e X.env),(false,eval f X.env)]
def IsD (H:Hp)(a:Addr):Prop:=(∃ kvs,Rd H a (.dK kvs))∨∃ kvs,Rd H a (.dT kvs)
theorem Zih {X:Cx}{pins:List (Addr×Obj)}{σ:St}{H:Hp}{s:Shared}{a:Addr}(I:Inv X pins σ H s)(d:IsD H a) :
   s.TypeIs (.ref a) "dict"∧(∀ b,Value.ref a=.ref b→∃ ob,s.heap.get? b=some ob∧ob.dict=none)∧(a == sysModules)=false:=by
 rcases d with ⟨kvs,e⟩ | ⟨kvs,e⟩
 · obtain ⟨_,hd,vs,_,dd⟩:=Zam I.hok e
   refine ⟨dd.typeIs,fun b q=>?_,hd⟩
   cases q
   obtain ⟨ob,_,_,h1,h2,_⟩:=dd
   exact ⟨ob,h1,h2.2.1⟩
 · obtain ⟨_,hd,xs,_,dd⟩:=VZ I.hok e
   refine ⟨dd.typeIs,fun b q=>?_,hd⟩
   cases q
   obtain ⟨ob,_,_,h1,h2,_⟩:=dd
   exact ⟨ob,h1,h2.2.1⟩
section
variable {X:Cx}{pins:List (Addr×Obj)}{σ:St}{H:Hp}{s:Shared}{a:Addr}{y d:V}{u r:Value}{o:Option V}{A:Around}{E:Value→Shared→Prop}
end
def ZhB (td ty tx:TE):TE:=fun σ H Q=>td σ H fun x H1=>∃ a,x=.ref a∧IsD H1 a∧ty σ H1 fun y H2=>tx σ H2 fun z H3=>∃ kvs k,H3 a=some (.dK kvs)∧y=kV k ∧
 (∀ v,ZB kvs k=some v→Q v (upd H3 a (.dK (Ws kvs k))))∧(ZB kvs k=none→Q z H3)
section
variable {X:Cx}{o e f:Expr}{apos cpos:Pos}{td ty tx:TE}
theorem Zev (ho:PE X o td)(he:PE X e ty)(hf:PE X f tx)(m:M2 X o "pop" apos e f cpos):PE X (.Call (.Attribute o "pop" apos) [e,f] [] cpos) (ZhB td ty tx):=by
 intro pins s σ H Q I h
 refine wpAny_Call_method m.base m.few m.line PySem.F.plainAttrs_dict PySem.F.slot_dict_pop PySem.F.type_dict_pop (Zm (ho pins s σ H _ I h) fun u s1 ⟨x,H1,I1,rx,a,ex,d,q1⟩=>?_)
 subst ex
 obtain rfl:u=Value.ref a:=rx
 obtain ⟨t1,t2,_⟩:=Zih I1 d
 refine ⟨t1,t2,?_⟩
 rw [m.trees]
 refine Calls.callWith_builtin rfl (Calls.evalArgs_plain (Calls.spliced_cons (Zm (he pins s1 σ H1 _ I1 q1) fun iv s2 ⟨y,H2,I2,ry,q2⟩ =>
   Calls.spliced_cons (Zm (hf pins s2 σ H2 _ I2 q2) fun fv s3 ⟨z,H3,I3,rz,kvs,k,ea,ey,q3,q4⟩=>Calls.spliced_nil ?_))))
 subst ey
 cases l:ZB kvs k with
 | some v=>exact ZiE I3 ea ry l (.inr ⟨fv,rfl⟩) fun w' s4 I4 rw'=>⟨v,_,I4,rw',q3 v l⟩
 | none=>exact Zib I3 ea ry l fun s4 I4=>⟨z,H3,I4,rz,q4 l⟩
end
section
variable {X:Cx}{pins:List (Addr×Obj)}{σ:St}{H:Hp}{s:Shared}{a:Addr}{kvs:List (Zo×V)}{A:Around}{E:Value→Shared→Prop}
end
section
variable {X:Cx}{pins:List (Addr×Obj)}{σ:St}{H:Hp}{s:Shared}{a:Addr}{y:V}{u:Value}{A:Around}{E:Value→Shared→Prop}
end
end L2
namespace L2
open PySem PySem.Spec PyProof.Rows
section
variable {κ:Type}[DecidableEq κ]
end
end L2
namespace L2
open PySem PySem.Spec PyProof.Rows
theorem WQ {env:Env}(y:Str):∀ names:List (Str×NameKind),
   (names.map fun (n,k)=>if (k == NameKind.free&&env.scope.kind == .function&&env.kindOf n == some .cell) then (n,NameKind.cell) else (n,k)).lookup y =
     (names.lookup y).map fun k=>if (k == NameKind.free&&env.scope.kind == .function&&env.kindOf y == some .cell) then NameKind.cell else k
 | []=>rfl
 | (n, k)::r=>by
   have ih:=WQ (env:=env) y r
   rw [List.map_cons]
   cases hx:y == n with
   | true =>
     have e:y=n:=by simpa using hx
     subst e
     by_cases hc:(k == NameKind.free&&env.scope.kind == .function&&env.kindOf y == some .cell)=true
     · simp only [hc,if_true,List.lookup_cons,beq_self_eq_true,Option.map_some]
     · simp only [hc,List.lookup_cons,beq_self_eq_true,Option.map_some]
       simp [hc]
   | false =>
     by_cases hc:(k == NameKind.free&&env.scope.kind == .function&&env.kindOf n == some .cell)=true
     · simp only [hc,if_true,List.lookup_cons,hx];exact ih
     · simp only [hc,List.lookup_cons,hx,Bool.false_eq_true,if_false];exact ih
theorem Yf {scope:Scope}{env:Env}{y:Str}{k:NameKind}(hcell:∀ z∈scope.names,z.2≠.cell)(h:(relabel scope env).names.lookup y=some k) :
   scope.names.lookup y=some k∨(scope.names.lookup y=some .free∧k=.cell):=by
 unfold relabel at h
 rw [WQ] at h
 cases e:scope.names.lookup y with
 | none=>rw [e] at h;cases h
 | some k0 =>
   rw [e] at h
   simp only [Option.map_some,Option.some.injEq] at h
   by_cases hc:(k0 == NameKind.free&&env.scope.kind == .function&&env.kindOf y == some .cell)=true
   · rw [if_pos hc] at h
     right
     simp only [Bool.and_eq_true,beq_iff_eq] at hc
     exact ⟨by rw [hc.1.1],h.symm⟩
   · rw [if_neg hc] at h
     left;rw [h]
theorem mem_of_lookup {α:Type}{y:Str}{k:α}:∀{l:List (Str×α)},l.lookup y=some k→(y,k)∈l
 | [],h=>by cases h
 | (n,z)::r,h=>by
   cases hx:y == n with
   | true =>
     have e:y=n:=by simpa using hx
     subst e
     simp only [List.lookup_cons,beq_self_eq_true] at h
     cases h
     exact List.mem_cons_self
   | false =>
     simp only [List.lookup_cons,hx] at h
     exact List.mem_cons_of_mem _ (mem_of_lookup h)
theorem Wn {env:Env}:∀(names:List (Str×NameKind))(c0:List (Str×Addr)),(∀ y∈names,y.2=.free→∃ c,env.cells.lookup y.1=some c) →
   ∃ cl:List (Str×Addr),(forIn names c0 fun (x:Str×NameKind) (r:List (Str×Addr))=>(if x.2 == NameKind.free then (do let a ← cellOf env x.1;pure (ForInStep.yield ((x.1,a)::r))) else pure (ForInStep.yield r):Sem (ForInStep (List (Str×Addr)))))=pure cl ∧
     (∀ y c,cl.lookup y=some c→c0.lookup y=some c∨env.cells.lookup y=some c)∧(∀ y,c0.lookup y≠none→cl.lookup y≠none)∧∀ y∈names,y.2=.free→cl.lookup y.1≠none
 | [],c0,_=>⟨c0,rfl,fun _ _ h=>.inl h,fun _ h=>h,fun _ h=>(nomatch h)⟩
 | (n, k)::r,c0,h=>by
   by_cases hk:k=.free
   · subst hk
     obtain ⟨c,hc⟩:=h (n,.free) List.mem_cons_self rfl
     obtain ⟨cl,e,g1,g2,g3⟩:=Wn r ((n,c)::c0) fun y hy=>h y (List.mem_cons_of_mem _ hy)
     refine ⟨cl,?_,?_,?_,?_⟩
     · rw [List.forIn_cons]
       have hcell:cellOf env n=pure c:=by unfold cellOf;rw [hc]
       simp only [beq_self_eq_true,if_true,hcell,pure_bind]
       exact e
     · intro y d q
       rcases g1 y d q with q | q
       · cases hx:y == n with
         | true =>
           have e':y=n:=by simpa using hx
           subst e'
           simp only [List.lookup_cons,beq_self_eq_true] at q
           cases q
           exact .inr hc
         | false=>simp only [List.lookup_cons,hx] at q;exact .inl q
       · exact .inr q
     · intro y q
       apply g2
       cases hx:y == n with
       | true=>simp [List.lookup_cons,hx]
       | false=>simpa [List.lookup_cons,hx] using q
     · intro y hy hf
       rcases List.mem_cons.mp hy with e' | hy
       · subst e'
         apply g2
         simp [List.lookup_cons]
       · exact g3 y hy hf
   · obtain ⟨cl,e,g1,g2,g3⟩:=Wn r c0 fun y hy=>h y (List.mem_cons_of_mem _ hy)
     refine ⟨cl,?_,g1,g2,?_⟩
     · rw [List.forIn_cons]
       have hb:(k == NameKind.free)=false:=by simpa using hk
       simp only [hb,Bool.false_eq_true,if_false,pure_bind]
       exact e
     · intro y hy hf
       rcases List.mem_cons.mp hy with e' | hy
       · subst e';exact absurd hf hk
       · exact g3 y hy hf
theorem UU {scope:Scope}{env:Env}(h:∀ y∈scope.names,y.2=.free→∃ c,env.cells.lookup y.1=some c) :
   ∃ cl,closureFor scope env=pure cl∧(∀ y c,cl.lookup y=some c→env.cells.lookup y=some c)∧∀ y∈scope.names,y.2=.free→cl.lookup y.1≠none:=by
 obtain ⟨cl,e,g1,_,g3⟩:=Wn (env:=env) scope.names [] h
 refine ⟨cl,?_,fun y c q=>(g1 y c q).elim (fun z=>by cases z) fun z=>z,g3⟩
 simp only [closureFor]
 rw [← bind_pure (pure cl:Sem _),← e]
def XX (N xs:List Str):List Str:=N.map fun y=>if y∈xs then "" else y
theorem Uv (N xs:List Str):(XX N xs).length=N.length:=List.length_map ..
theorem Zfo {N xs:List Str}{y:Str}{i:Nat}(h:(XX N xs)[i]?=some y):(N[i]?=some y∧y ∉ xs)∨y="":=by
 unfold XX at h
 rw [List.getElem?_map] at h
 cases e:N[i]? with
 | none=>rw [e] at h;cases h
 | some z =>
   rw [e] at h
   have h:(if z∈xs then ("":Str) else z)=y:=Option.some.inj h
   by_cases q:z∈xs
   · rw [if_pos q] at h;exact .inr h.symm
   · rw [if_neg q] at h;subst h;exact .inl ⟨rfl,q⟩
abbrev Vy (N:List Str)(xa xb:Str):List Str:=XX N [xa,xb]
def ZI (X:Cx)(scope:Scope)(xs:List Str)(cl:List (Str×Addr))(C:Addr)(s₀:Shared)(H₀:Hp)(fp:List Addr):Cx :=
 { prog:=X.prog,w:=X.w,K:=X.K,mg:=X.mg,base:=X.base,A:=X.A,N:=XX X.N xs++xs,s₀:=s₀,H₀:=H₀,env:=compEnvC scope cl C X.env,outer:=X.stack,stack:=X.stack,
   ex:=fp,fn:=fun _=>false,calm:=X.calm,pn:=[],xe:=fun _ _=>False }
abbrev Zie (X:Cx)(scope:Scope)(x:Str):=ZI X scope [x]
abbrev YT (X:Cx)(scope:Scope)(xa xb:Str):=ZI X scope [xa,xb]
structure CompOkN (X:Cx)(scope:Scope)(xs:List Str):Prop where
 nd:(XX X.N xs++xs).Nodup
 clos:∀ y∈scope.names,y.2=.free→X.env.kindOf y.1=some .cell∨X.env.kindOf y.1=some .free
 cell:∀ y∈scope.names,y.2≠.cell
 kind:scope.kind=.function
 names:∀ y∈scope.names,y.2=.local→scope.names.lookup y.1=some .local
 loc:∀ x∈xs,scope.names.lookup x=some .local
 own:∀ y∈X.N,y ∉ xs→scope.names.lookup y≠some .local
 noh:scope.names.lookup ("":Str)=none
abbrev CompOk (X:Cx)(scope:Scope)(x:Str):=CompOkN X scope [x]
abbrev CompOkT (X:Cx)(scope:Scope)(xa xb:Str):=CompOkN X scope [xa,xb]
def Wq (N:List Str)(names:List (Str×NameKind))(scope:Scope)(xs:List Str):Bool :=
 decide ((XX N xs++xs).Nodup)&&scope.names.all (fun y=>(y.2 != .free || names.lookup y.1 == some .cell || names.lookup y.1 == some .free)&&(y.2 != .cell&&(y.2 != .local || scope.names.lookup y.1 == some .local))) &&
 ((scope.kind == .function&&xs.all fun x=>scope.names.lookup x == some .local)&&N.all fun y=>decide (y∈xs) || scope.names.lookup y != some .local)&&scope.names.lookup ("":Str) == none
theorem CompOkN.of {X:Cx}{scope:Scope}{xs:List Str}(N:List Str)(st:Stmt)(hN:X.N=N)(hn:X.env.scope=Zj st)(chk:Wq N (Zj st).names scope xs=true):CompOkN X scope xs:=by
 unfold Wq at chk
 simp only [Bool.and_eq_true,decide_eq_true_eq,List.all_eq_true,Bool.or_eq_true,bne_iff_ne,beq_iff_eq] at chk
 obtain ⟨⟨⟨c1,c2⟩,⟨c3,c4⟩,c5⟩,c6⟩:=chk
 refine ⟨by rw [hN];exact c1,fun y hy hf=>?_,fun y hy=>(c2 y hy).2.1,c3,fun y hy hl=>?_,c4,fun y hy hx=>(c5 y (by rw [← hN];exact hy)).resolve_left hx,c6⟩
 · show X.env.scope.names.lookup y.1=_∨X.env.scope.names.lookup y.1=_
   rw [hn]
   rcases (c2 y hy).1 with (z | z) | z
   · exact absurd hf z
   · exact .inl z
   · exact .inr z
 · rcases (c2 y hy).2.2 with z | z
   · exact absurd hl z
   · exact z
theorem CompOk.of {X:Cx}{scope:Scope}{x:Str}(N:List Str)(st:Stmt)(hN:X.N=N)(hn:X.env.scope=Zj st)(chk:Wq N (Zj st).names scope [x]=true):CompOk X scope x:=CompOkN.of N st hN hn chk
theorem CompOkT.of {X:Cx}{scope:Scope}{xa xb:Str}(N:List Str)(st:Stmt)(hN:X.N=N)(hn:X.env.scope=Zj st)(chk:Wq N (Zj st).names scope [xa,xb]=true):CompOkT X scope xa xb:=CompOkN.of N st hN hn chk
def Zfb:TT:=fun _ H k=>k true H
def PCs (X:Cx)(cs:List Expr)(tc:TT):Prop:=(cs=[]∧tc=Zfb)∨∃ c,cs=[c]∧PT X c tc
def Uf (J:It)(g:TG)(tc:TT)(te:TE)(n:Nat)(OK:St→St→Prop)(σ:St)(D:Addr)(Q:VK)(H1:Hp):Prop :=
 ∃ W : Nat→Nat→List V→Hp→Prop,(∃ m,W 0 m [] (upd H1 D (.lst [])))∧∀ i m ys H2,W i m ys H2 →
   (J.stop i H2∧Q (.ref D) H2)∨(J.go i H2∧∃ (N:VK) (M:Hp→Prop),(∀ y H4,N y H4→H4 D=some (.lst ys)∧ys.length < sizeLine∧∃ m',m' < m∧W (i+1) m' (ys++[y]) (upd H4 D (.lst (ys++[y]))))∧(∀ H4,M H4→∃ m',m' < m∧W (i+1) m' ys H4) ∧
     ∀ ws v H3,ws.length=n→J.yld i H2 v H3→g v (σ++ws) H3 fun σ' H'=>OK σ σ'∧tc σ' H' fun b H4=>if b=true then te σ' H4 N else M H4)
def tCW (wi:TI)(CW:It→St→Addr→VK→Hp→Prop):TE:=fun σ H Q=>wi σ H fun J H1=>∀ D,H1 D=none→CW J σ D Q H1
def CompW (J:It)(te:TE)(σ:St)(D:Addr)(Q:VK)(H1:Hp):Prop :=
 ∃ W:Nat→Nat→List V→Hp→Prop,(∃ m,W 0 m [] (upd H1 D (.lst [])))∧∀ i m ys H2,W i m ys H2 →
   (J.stop i H2∧Q (.ref D) H2)∨(J.go i H2∧∃ N:VK,(∀ y H4,N y H4→H4 D=some (.lst ys)∧ys.length < sizeLine∧∃ m',m' < m∧W (i+1) m' (ys++[y]) (upd H4 D (.lst (ys++[y]))))∧∀ v H3,J.yld i H2 v H3→te (σ++[some v]) H3 N)
def Zjc (wi:TI)(te:TE):TE:=fun σ H Q=>wi σ H fun J H1=>∀ D,H1 D=none→CompW J te σ D Q H1
section
variable {X:Cx}{elt iter tg:Expr}{cs:List Expr}{xs:List Str}{pos:Pos}{scope:Scope}{wi:TI}{te:TE}{tc:TT}{g:TG}{OK:St→St→Prop}{CW:It→St→Addr→VK→Hp→Prop}
theorem Wm {prog:Program}{w:World}{A:Around}{R:Result→Shared→Prop}{s:Shared}{elt target iter:Expr}{cs:List Expr}{scope:Scope}{pos:Pos}{it acc:Value}{env:Env}(I:Nat→Shared→Prop)
   (turn : ∀ n s,I n s→wpAny (model prog w) A (pyNext it) (fun r s₁=>match r with
     | none=>R (.ok .next) s₁
     | some v=>wpAny (model prog w) A (letOwnedTupleGo target it v) (fun _ s1'=>wpAny (model prog w) A (assign target env v) (fun _ s₂=>wpAny (model prog w) A (forIn cs true fun c r=>if r=true then do let ok ← isTrue c env (eval c env);pure (ForInStep.yield ok) else pure (ForInStep.yield r)) (fun ok s2'=>if ok=true then wpAny (model prog w) A (eval elt env) (fun x s₃ =>
         wpAny (model prog w) A (call (.builtin "list.append") [acc,x]) (fun _ s₄=>∃ m,m < n∧I m s₄) (fun _ _=>False) s₃)
         (fun _ _=>False) s2' else ∃ m,m < n∧I m s2') (fun _ _=>False) s₂) (fun _ _=>False) s1') (fun _ _=>False) s₁) (fun _ _=>False) s)
   (n:Nat) (h:I n s) :
   codeAny (model prog w) A (.compLoop (.ListComp elt [⟨target,iter,cs,0⟩] scope pos) 0 it acc env) R s:=by
 refine codeAny_loop rfl I (fun n s hI=>?_) n h
 show wpAny _ _ ((compTurn (.ListComp elt [⟨target,iter,cs,0⟩] scope pos) 0 it acc env).onRaise (fun x=>do noteFrame x env;theTreesLotGoes x)) _ _ s
 refine wpAny_noted ?_
 rw [compTurn_list]
 refine wpAny_bind (wpAny_standAt (wpAny_bind (wpAny_mono (turn n s hI) (fun r s₁ h₁=>?_) fun _ _ h'=>h'.elim)))
 cases r with
 | none=>exact wpAny_pure h₁
 | some v =>
   refine wpAny_bind (wpAny_mono h₁ (fun _ s1' h1'=>?_) fun _ _ h'=>h'.elim)
   refine wpAny_bind (wpAny_mono h1' (fun _ s₂ h₂=>wpAny_bind (wpAny_mono h₂ (fun ok s₃ h₃=>?_) fun _ _ h'=>h'.elim)) fun _ _ h'=>h'.elim)
   cases ok with
   | false=>exact wpAny_pure ⟨rfl,h₃⟩
   | true =>
     exact wpAny_bind (wpAny_bind (wpAny_mono h₃ (fun x s₄ h₄=>wpAny_bind (wpAny_mono h₄ (fun _ s₅ h₅=>wpAny_pure (wpAny_pure ⟨rfl,h₅⟩)) fun _ _ h'=>h'.elim)) fun _ _ h'=>h'.elim))
theorem PCs.go {X:Cx}{cs:List Expr}{tc:TT}(h:PCs X cs tc)(pins:List (Addr×Obj))(s:Shared)(σ:St)(H:Hp)(Q:Bool→Hp→Prop)(I:Inv X pins σ H s)(q:tc σ H Q) :
   wpAny (model X.prog X.w) X.A (forIn cs true fun c r=>if r=true then do let ok ← isTrue c X.env (eval c X.env);pure (ForInStep.yield ok) else pure (ForInStep.yield r)) (fun b s'=>∃ H',Inv X pins σ H' s'∧Q b H') X.xe s:=by
 rcases h with ⟨rfl,rfl⟩ | ⟨c,rfl,h⟩
 · exact wpAny_tests_nil ⟨H,I,q⟩
 · exact wpAny_tests_one (h pins s σ H Q I q)
theorem Ul {pins:List (Addr×Obj)}{σ:St}{H2:Hp}{s₂:Shared}{J:It}{fp:List Addr}{it:Addr}{tn:Nat→Heap→Prop}{cl:List (Str×Addr)}{E:Value→Shared→Prop}{Q:VK}{RR:Value→Addr→Result→Shared→Prop}
   (O:CompOkN X scope xs) (hc:X.calm=true) (cl1:∀ y c,cl.lookup y=some c→X.env.cells.lookup y=some c) (cl2:∀ y∈scope.names,y.2=.free→cl.lookup y.1≠none)
   (hOK:∀ σ σ',OK σ σ'→∃ ws:St,ws.length=xs.length∧σ'=σ++ws) (hg:∀ cl C s₀ H₀ fp,PG (ZI X scope xs cl C s₀ H₀ fp) tg g) (hcn:∀ cl C s₀ H₀ fp,PCs (ZI X scope xs cl C s₀ H₀ fp) cs tc) (he:∀ cl C s₀ H₀ fp,PE (ZI X scope xs cl C s₀ H₀ fp) elt te)
   (I2:Inv X pins σ H2 s₂) (T:WP X.prog X.w X.K tg J fp it tn) (st:tn 0 s₂.heap) (f2:∀ b∈fp,YC X pins H2 b)
   (h:∀ D,H2 D=none→Uf J g tc te xs.length OK σ D Q H2)
   (hRR:∀ D C H' s',Inv X pins σ H' s'→YC X pins H' C→(∃ m,s'.heap.Ns C m)→Q (.ref D) H'→RR (.ref D) C (.ok .next) s') :
   wpAny (model X.prog X.w) X.A (newList []) (fun acc s₃=>wpAny (model X.prog X.w) X.A (newFunctionEnv scope X.env.globals cl [] X.env.qual none .none (some X.env)) (fun cenv s₄ =>
     codeAny (model X.prog X.w) X.A (.compStart (.ListComp elt [⟨tg,iter,cs,0⟩] scope pos) 0 (.ref it) acc { cenv with scope:=relabel scope X.env }) (RR acc cenv.locals) s₄) E s₃) E s₂:=by
 have hD:H2 s₂.heap.objs.size=none:=I2.hok.fresh (Nat.le_refl _)
 refine wpAny_newObj_type ?_
 have I3:Inv X pins σ (upd H2 s₂.heap.objs.size (.lst [])) { s₂ with heap:=s₂.heap.push { cls:=.type "list",data:=.seq ([]:List Value).toArray } } :=
   I2.laid (t':=s₂.toks) (fun b u e=>Heap.get?_push_of_some _ e) (Nat.le_refl _) ⟨Nat.zero_le _,[],_,.nil,Heap.get?_push_size _ rfl⟩
 have f3:∀ b∈fp,YC X pins (upd H2 s₂.heap.objs.size (.lst [])) b:=fun b hb=>by
   obtain ⟨g0,g1⟩:=f2 b hb
   obtain ⟨o,e,_⟩:=T.obj 0 _ st b hb
   exact ⟨by rw [Zb (Nat.ne_of_lt (Heap.lt_size e))];exact g0,g1⟩
 have st3:tn 0 (s₂.heap.push { cls:=.type "list",data:=.seq ([]:List Value).toArray }):=T.keep _ _ _ st fun b hb o e=>Heap.get?_push_of_some _ e
 obtain ⟨W,⟨m0,w0⟩,turn⟩:=h _ hD
 generalize hDe:s₂.heap.objs.size=D at I3 f3 w0 turn ⊢
 generalize hH3:upd H2 D (.lst [])=H3 at I3 f3 w0 turn ⊢
 generalize hs3:({ s₂ with heap:=s₂.heap.push { cls:=.type "list",data:=.seq ([]:List Value).toArray } }:Shared)=s₃ at I3
 have st3':tn 0 s₃.heap:=by rw [← hs3];exact st3
 have hobj:∀ b∈fp,b < s₃.heap.objs.size:=fun b hb=>by
   obtain ⟨o,e,_⟩:=T.obj 0 _ st3' b hb
   exact Heap.lt_size e
 refine wpAny_newFunctionEnv O.cell (by intro y hy;simp at hy) (fun h₁ hns₁ hsb₁=>?_) O.kind
 have old:∀ b o,s₃.heap.get? b=some o→h₁.get? b=some o:=fun b o e=>hsb₁.extBut b o (Nat.ne_of_lt (Heap.lt_size e)) (Heap.get?_push_of_some _ e)
 generalize hs4:({ s₃ with heap:=h₁,toks:=s₃.toks+([]:List (Str×Value)).length }:Shared)=s₄
 have h4:s₄.heap=h₁:=by rw [← hs4]
 have hX:∀ C,YC X pins C s₃.heap.objs.size→True:=fun _ _=>trivial
 have ok':(ZI X scope xs cl s₃.heap.objs.size s₃ H3 fp).Ok:=by
   refine ⟨I3.ok.mod,O.kind,I3.ok.glob,I3.ok.blt,Nat.le_refl _,?_,?_,?_,I3.ok.hd,I3.ok.frames,.inl rfl,?_,I3.bs,Nat.le_trans I3.ok.bsz I3.sz,?_,?_,I3.stack,I3.stkFree⟩
   · exact fun y z c e1 e2=>I3.ok.inj y z c (cl1 y c e1) (cl1 z c e2)
   · intro y hk
     have hf:scope.names.lookup y=some .free:=by
       rcases hk with hk | hk
       · rcases Yf O.cell hk with q | q
         · exact absurd rfl (O.cell _ (mem_of_lookup q))
         · exact q.1
       · rcases Yf O.cell hk with q | q
         · exact q
         · cases q.2
     have:=cl2 _ (mem_of_lookup hf) rfl
     cases e:cl.lookup y with
     | none=>exact absurd e this
     | some c=>exact ⟨c,e⟩
   · intro y c hf;cases hf
   · intro b hb
     obtain ⟨g0,g1,g2,g3,g4,g5⟩:=f3 b hb
     exact ⟨Nat.ne_of_lt (hobj b hb),fun y c e=>g4 y c (cl1 y c e)⟩
   · intro b o e hb
     obtain ⟨g0,g1,g2,g3,g4,g5⟩:=f3 b hb
     rcases g3 with g3 | g3
     · exact I3.ok.noex b o e g3
     · exact absurd (Heap.lt_size e) (Nat.not_lt.mpr (Nat.le_trans I3.ok.bsz g3))
   · intro b hb hs
     obtain ⟨g0,g1,g2,g3,g4,g5⟩:=f3 b hb
     rcases List.mem_cons.mp (I3.stkSub b hs) with e | e
     · exact g1 e
     · exact g2 e
 have I4 : Inv (ZI X scope xs cl s₃.heap.objs.size s₃ H3 fp) [] (σ++List.replicate xs.length none) H3 s₄:=by
   obtain ⟨m,hm,hl⟩:=I3.loc
   refine ⟨ok',by rw [← hs4];rfl,by rw [← hs4];exact I3.bare,by rw [h4];exact Un.kept old,⟨_,by rw [h4];exact hns₁,?_⟩,?_,I3.hok.fresh (Nat.le_refl _),fun y c e=>I3.freeC y c (cl1 y c e),?_,by rw [h4];exact I3.hok.kept old,?_⟩
   · intro i y v e1 e2 e3
     have hlt:i < σ.length:=by
       rcases Nat.lt_or_ge i σ.length with z | z
       · exact z
       · rw [List.getElem?_append_right z] at e2
         have:=List.eq_of_mem_replicate (List.mem_of_getElem? e2)
         cases this
     rw [List.getElem?_append_left hlt] at e2
     have hsm:∃ k,scope.names.lookup y=some k:=by
       rcases e3 with hk | hk | hk
       · rcases Yf O.cell hk with q | q
         · exact ⟨_,q⟩
         · exact ⟨_,q.1⟩
       · rcases Yf O.cell hk with q | q
         · exact ⟨_,q⟩
         · exact ⟨_,q.1⟩
       · rcases Yf O.cell hk with q | q
         · exact ⟨_,q⟩
         · exact ⟨_,q.1⟩
     obtain ⟨e1',hyx⟩:X.N[i]?=some y∧y ∉ xs:=by
       have e1:(XX X.N xs++xs)[i]?=some y:=e1
       rw [List.getElem?_append_left (by rw [Uv,← I3.len];exact hlt)] at e1
       rcases Zfo e1 with z | z
       · exact z
       · obtain ⟨k,hk⟩:=hsm
         rw [z,O.noh] at hk;cases hk
     have hy:y∈X.N:=List.mem_of_getElem? e1'
     have hf:scope.names.lookup y=some .free:=by
       rcases e3 with hk | hk | hk
       · rcases Yf O.cell hk with q | q
         · exact absurd q (O.own y hy hyx)
         · exact q.1
       · rcases Yf O.cell hk with q | q
         · exact absurd rfl (O.cell _ (mem_of_lookup q))
         · exact q.1
       · rcases Yf O.cell hk with q | q
         · exact q
         · exact q.1
     have hk:=O.clos _ (mem_of_lookup hf) rfl
     have hv:Vis X.env.scope y:=by rcases hk with z | z;exact .inr (.inl z);exact .inr (.inr z)
     obtain ⟨u,ru,lu⟩:=hl i y v e1' e2 hv
     refine ⟨u,ru,?_⟩
     have hkc:(compEnvC scope cl s₃.heap.objs.size X.env).kindOf y=some .cell∨(compEnvC scope cl s₃.heap.objs.size X.env).kindOf y=some .free:=by
       rcases e3 with q | q | q
       · rcases Yf O.cell q with z | z
         · exact absurd z (O.own y hy hyx)
         · cases z.2
       · exact .inl q
       · exact .inr q
     rcases lu with ⟨q,_⟩ | ⟨_,c,hcl,hcc⟩
     · rcases hk with z | z<;>(rw [q] at z;cases z)
     · refine .inr ⟨hkc,?_⟩
       cases e:cl.lookup y with
       | none=>exact absurd e (cl2 _ (mem_of_lookup hf) rfl)
       | some c' =>
         have:=cl1 y c' e
         rw [hcl] at this
         cases this
         refine ⟨c,e,?_⟩
         rw [h4]
         obtain ⟨oc,ho,hd⟩:=hcc
         exact ⟨oc,old _ _ ho,hd⟩
   · intro y c e
     obtain ⟨v,oc,ho,hd⟩:=I3.cell y c (cl1 y c e)
     exact ⟨v,oc,by rw [h4];exact old _ _ ho,hd⟩
   · intro p hp;cases hp
   · show (σ++List.replicate xs.length none).length=(XX X.N xs++xs).length
     rw [List.length_append,List.length_append,Uv,I3.len,List.length_replicate]
 have st4:tn 0 s₄.heap:=by rw [h4];exact T.keep _ _ _ st3' fun b hb o e=>old b o e
 have fpok:∀ {H':Hp},(∀ b∈fp,H' b=none)→∀ b∈fp,YC (ZI X scope xs cl s₃.heap.objs.size s₃ H3 fp) [] H' b:=fun hn b hb=>by
   obtain ⟨g0,g1,g2,g3,g4,g5⟩:=f3 b hb
   refine ⟨hn b hb,Nat.ne_of_lt (hobj b hb),ok'.exfs b hb,.inl hb,fun y c e=>g4 y c (cl1 y c e),?_⟩
   intro p hp;cases hp
 have loop:codeAny (model X.prog X.w) X.A (.compLoop (.ListComp elt [⟨tg,iter,cs,0⟩] scope pos) 0 (.ref it) (.ref D) (compEnvC scope cl s₃.heap.objs.size X.env)) (RR (.ref D) s₃.heap.objs.size) s₄:=by
   refine Wm (fun n s'=>∃ i ys ws H',ws.length=xs.length∧Inv (ZI X scope xs cl s₃.heap.objs.size s₃ H3 fp) [] (σ++ws) H' s'∧tn i s'.heap∧(∀ b∈fp,H' b=none)∧W i n ys H') ?_ m0 ⟨0,[],_,H3,List.length_replicate,I4,st4,fun b hb=>(f3 b hb).1,w0⟩
   rintro n s5 ⟨i,ys,ws,H5,hws,I5,st5,fr5,w5⟩
   rcases turn i n ys H5 w5 with ⟨stop,q⟩ | ⟨go,N,M,hN,hM,step⟩
   · refine Zm (T.done (ZI X scope xs cl s₃.heap.objs.size s₃ H3 fp) rfl rfl rfl hc i [] s5 _ H5 _ I5 (fpok fr5) st5 stop) fun r s6 ⟨hr,I6⟩=>?_
     subst hr
     obtain ⟨m6,hn6,_⟩:=I6.loc
     have IX:Inv X pins σ H5 s6:=I3.call' (ch:=fp) I6.os I6.base I6.hok I6.bare fun b hb=>by
       obtain ⟨g0,g1,g2,g3,g4,g5⟩:=f3 b hb
       exact ⟨g3,g1,g4,g5⟩
     exact hRR D _ H5 s6 IX (I3.fpOk (Nat.le_refl _) I6.free) ⟨m6,hn6⟩ q
   · refine Zm (T.item (ZI X scope xs cl s₃.heap.objs.size s₃ H3 fp) rfl rfl rfl hc i [] s5 _ H5 _ I5 (fpok fr5) st5 go) fun r s6 ⟨u,hr,h6⟩=>?_
     subst hr
     refine Zm h6 fun _ s7 ⟨v,H7,I7,r7,y7,st7,fr7⟩=>?_
     have I7':=I7.pinned (fpok fr7) (T.obj _ _ st7)
     refine Zm (hg cl s₃.heap.objs.size s₃ H3 fp _ s7 _ H7 v u _ I7' r7 (step ws v H7 hws y7)) fun _ s8 ⟨σ8,H8,I8,o8,q8⟩=>?_
     obtain ⟨ws',hws',e8⟩:=hOK σ σ8 o8
     subst e8
     refine Zm (PCs.go (hcn cl s₃.heap.objs.size s₃ H3 fp) _ s8 _ H8 _ I8 q8) fun bb s8b ⟨H8b,I8b,q8b⟩=>?_
     cases bb with
     | false =>
       obtain ⟨m',hm',w9⟩:=hM H8b q8b
       refine ⟨m',hm',i+1,ys,ws',_,hws',I8b.unpinned (pins:=[]),T.keep _ _ _ st7 fun b hb o e=>(I8b.pin (b,o) (List.mem_append_right _ (List.mem_append_right _ (YF hb e)))).1,fun b hb=>?_,w9⟩
       obtain ⟨o,e,d⟩:=T.obj _ _ st7 b hb
       exact (I8b.pin (b,o) (List.mem_append_right _ (List.mem_append_right _ (YF hb e)))).2.1
     | true =>
       refine Zm (he cl s₃.heap.objs.size s₃ H3 fp _ s8b _ H8b _ I8b q8b) fun uy s9 ⟨y,H9,I9,r9,n9⟩=>?_
       obtain ⟨hl9,hz9,m',hm',w9⟩:=hN y H9 n9
       refine Zm (YU (X:=ZI X scope xs cl s₃.heap.objs.size s₃ H3 fp) _ s9 _ H9 (.ref D) [y] (.ref D) [uy] (fun v H'=>H'=upd H9 D (.lst (ys++[y]))) I9 rfl (.cons r9 .nil) ⟨D,ys,y,rfl,rfl,hl9,hz9,rfl⟩) fun _ s10 ⟨_,H10,I10,_,e10⟩=>?_
       subst e10
       refine ⟨m',hm',i+1,ys++[y],ws',_,hws',I10.unpinned (pins:=[]),T.keep _ _ _ st7 fun b hb o e=>(I10.pin (b,o) (List.mem_append_right _ (List.mem_append_right _ (YF hb e)))).1,fun b hb=>?_,w9⟩
       obtain ⟨o,e,d⟩:=T.obj _ _ st7 b hb
       exact (I10.pin (b,o) (List.mem_append_right _ (List.mem_append_right _ (YF hb e)))).2.1
 exact codeAny_compStart_list loop (T.self _ 0 _ _ _ st4 loop)
theorem UF (O:CompOkN X scope xs)(hc:X.calm=true)(hi:PI X tg iter wi)(conv:∀ J σ D Q H,σ.length=X.N.length→CW J σ D Q H→Uf J g tc te xs.length OK σ D Q H)(hOK:∀ σ σ',OK σ σ'→∃ ws:St,ws.length=xs.length∧σ'=σ++ws)(hg:∀ cl C s₀ H₀ fp,PG (ZI X scope xs cl C s₀ H₀ fp) tg g)(hcn:∀ cl C s₀ H₀ fp,PCs (ZI X scope xs cl C s₀ H₀ fp) cs tc)(he:∀ cl C s₀ H₀ fp,PE (ZI X scope xs cl C s₀ H₀ fp) elt te)
   (hs:∀ v,foldedSetIterable iter X.env v=pure v:=by intro _;rfl):PE X (.ListComp elt [⟨tg,iter,cs,0⟩] scope pos) (tCW wi CW):=by
 intro pins s σ H Q I h
 obtain ⟨cl,hcl,cl1,cl2⟩:=UU (scope:=scope) (env:=X.env) fun y hy hf=>I.ok.has _ (O.clos y hy hf)
 rw [eval_ListComp]
 refine wpAny_comprehension_free (use:=none) rfl hs hcl O.kind O.names (Zm (hi pins s σ H _ I h) fun v s1 h1=>Zm h1 fun itv s2 h2=>?_)
 obtain ⟨it,fp,tn,J,H2,e,I2,T,st2,f2,q⟩:=h2
 subst e
 refine Ul (RR:=fun acc C=>compPost (model X.prog X.w) X.A X.xe none (EP X pins σ Q) acc C) O hc cl1 cl2 hOK hg hcn he I2 T st2 f2 (fun z hz=>conv _ _ z _ _ I2.len (q z hz)) ?_
 intro D C H' s' I' ⟨g0,g1,g2,g3,g4,g5⟩ ⟨m,hm⟩ hq
 exact ⟨m,hm,fun h' hs'=>⟨.ref D,H',I'.turned (t':=s'.toks) (fun b o hb e=>(hs'.2 b hb).trans e) g0 g1 g3 g4 g5,rfl,hq⟩⟩
theorem Zbz {i:Nat}{y:Str}{py spos:Pos}(O:CompOkN X scope xs)(hc:X.calm=true)(hN:X.N.Nodup)(hiN:X.N[i]?=some y)(hy:Loc X.env.scope y)(hi:PI X tg iter wi)(conv:∀ J σ D Q H,σ.length=X.N.length→CW J σ D Q H→Uf J g tc te xs.length OK σ D Q H)(hOK:∀ σ σ',OK σ σ'→∃ ws:St,ws.length=xs.length∧σ'=σ++ws)(hg:∀ cl C s₀ H₀ fp,PG (ZI X scope xs cl C s₀ H₀ fp) tg g)(hcn:∀ cl C s₀ H₀ fp,PCs (ZI X scope xs cl C s₀ H₀ fp) cs tc)(he:∀ cl C s₀ H₀ fp,PE (ZI X scope xs cl C s₀ H₀ fp) elt te)
   (hsw:swapsWith (.ListComp elt [⟨tg,iter,cs,0⟩] scope pos) (some (.Name y py)) spos.line X.env=pure true) (hf:X.fn y=true∨X.env.scope.names.lookup y=some .local:=by first | exact .inl rfl | exact .inr rfl | assumption)
   (hs:∀ v,foldedSetIterable iter X.env v=pure v:=by intro _;rfl):PS X (.Assign [.Name y py] (.ListComp elt [⟨tg,iter,cs,0⟩] scope pos) spos) (ZcC (tCW wi CW) (Ua i)):=by
 intro pins s σ H D I h
 obtain ⟨cl,hcl,cl1,cl2⟩:=UU (scope:=scope) (env:=X.env) fun y hy hf=>I.ok.has _ (O.clos y hy hf)
 rw [exec_Assign_Name_used _ _ _ _ hsw]
 refine wpAny_bind (wpAny_standAt (wpAny_bind ?_))
 show wpAny _ X.A (do let _ ← comprehension (.ListComp elt [⟨tg,iter,cs,0⟩] scope pos) scope X.env _ (newList []) false (eval iter X.env) (some (assign (.Name y py) X.env))) _ _ s
 refine wpAny_bind (wpAny_mono (wpAny_comprehension_free (use:=some (assign (.Name y py) X.env)) (Q:=fun _ s'=>SP X pins D .next s') rfl hs hcl O.kind O.names
   (Zm (hi pins s σ H _ I h) fun v s1 h1=>Zm h1 fun itv s2 h2=>?_)) (fun _ s' hq=>wpAny_pure (wpAny_pure hq)) fun _ _ e=>e)
 obtain ⟨it,fp,tn,J,H2,e,I2,T,st2,f2,q⟩:=h2
 subst e
 refine Ul (RR:=fun acc C=>compPost (model X.prog X.w) X.A X.xe (some (assign (.Name y py) X.env)) (fun _ s'=>SP X pins D .next s') acc C) O hc cl1 cl2 hOK hg hcn he I2 T st2 f2 (fun z hz=>conv _ _ z _ _ I2.len (q z hz)) ?_
 intro Dl C H' s' I' ⟨g0,g1,g2,g3,g4,g5⟩ ⟨m,hm⟩ hq
 show wpAny _ X.A (assign (.Name y py) X.env (.ref Dl)) _ _ _
 refine wpAny_assign_Name (VU I' hN hiN hy (v:=.ref Dl) rfl (fun s'' I'' ⟨a,sb,ha⟩=>?_) hf)
 have haC:C≠a:=by
   rcases ha with z | z
   · rw [z];exact g1
   · exact fun z'=>g4 y a z z'.symm
 exact ⟨m,hm.sameBut sb haC,fun h' hs'=>⟨_,H',I''.turned (t':=s''.toks) (fun b o hb e=>(hs'.2 b hb).trans e) g0 g1 g3 g4 g5,hq⟩⟩
end
theorem ok1:∀ σ σ':St,(∃ w,σ'=σ++[w])→∃ ws:St,ws.length=[x].length∧σ'=σ++ws:=fun _ _ ⟨w,e⟩=>⟨[w],rfl,e⟩
theorem set1 {σ:St}{w v:Option V}{n:Nat}(h:σ.length=n):(σ++[w]).set n v=σ++[v]:=by subst h;simp
theorem CompW.n {J:It}{te:TE}{σ:St}{D:Addr}{Q:VK}{H:Hp}{n:Nat}(hn:σ.length=n)(h:CompW J te σ D Q H):Uf J (Ua n) Zfb te 1 (fun σ σ'=>∃ w,σ'=σ++[w]) σ D Q H:=by
 obtain ⟨W,w0,t⟩:=h
 refine ⟨W,w0,fun i m ys H2 w2=>(t i m ys H2 w2).imp (fun z=>z) fun ⟨go,N,hN,hy⟩=>⟨go,N,fun _=>False,hN,fun _ z=>z.elim,fun ws v H3 hl y=>?_⟩⟩
 match ws,hl with
 | [w],_ =>
   show (∃ w',(σ++[w]).set n (some v)=σ++[w'])∧te ((σ++[w]).set n (some v)) H3 N
   rw [set1 hn]
   exact ⟨⟨_,rfl⟩,hy v H3 y⟩
section
variable {X:Cx}{elt iter:Expr}{x:Str}{px pos:Pos}{scope:Scope}{wi:TI}{te:TE}
theorem Zhc (O:CompOk X scope x):∀ cl C s₀ H₀ fp,PG (ZI X scope [x] cl C s₀ H₀ fp) (.Name x px) (Ua X.N.length):=fun cl C s₀ H₀ fp =>
 Zx (X:=ZI X scope [x] cl C s₀ H₀ fp) O.nd (show (XX X.N [x]++[x])[X.N.length]?=some x by rw [← Uv X.N [x]];simp) (.inl (lookup_relabel_local (O.loc x (List.mem_cons_self ..)))) (.inr (lookup_relabel_local (O.loc x (List.mem_cons_self ..))))
theorem WV (O:CompOk X scope x)(hc:X.calm=true)(hi:PI X (.Name x px) iter wi)(he:∀ cl C s₀ H₀ fp,PE (Zie X scope x cl C s₀ H₀ fp) elt te)
   (hs:∀ v,foldedSetIterable iter X.env v=pure v:=by intro _;rfl):PE X (.ListComp elt [⟨.Name x px,iter,[],0⟩] scope pos) (Zjc wi te) :=
 UF (CW:=fun J σ D Q H=>CompW J te σ D Q H) O hc hi (fun _ _ _ _ _ hl h=>h.n hl) ok1 (Zhc O) (fun _ _ _ _ _=>.inl ⟨rfl,rfl⟩) he hs
end
theorem Zco {lo:Int}{n:Nat}{te:TE}{σ:St}{D:Addr}{Q:VK}{H:Hp}(hn:n≤sizeLine)(Pv:Nat→List V→Hp→Prop)(h0:Pv 0 [] (upd H D (.lst [])))
   (hl:∀ i ys H,Pv i ys H→ys.length=i)
   (hs:∀ i ys H,i < n→Pv i ys H→te (σ++[some (.int (lo+i))]) H fun y H4=>H4 D=some (.lst ys)∧Pv (i+1) (ys++[y]) (upd H4 D (.lst (ys++[y])))) (hd:∀ ys H,Pv n ys H→Q (.ref D) H):CompW (Vf lo n) te σ D Q H:=by
 refine ⟨fun i m ys H=>m=n - i∧i≤n∧Pv i ys H,⟨n,by simp,Nat.zero_le _,h0⟩,?_⟩
 rintro i m ys H2 ⟨rfl,hi,p⟩
 by_cases hlt:i < n
 · have hlen:=hl i ys _ p
   refine .inr ⟨hlt,_,fun y H4 (q:H4 D=some (.lst ys)∧Pv (i+1) (ys++[y]) (upd H4 D (.lst (ys++[y]))))=>⟨q.1,by omega,n - (i+1),by omega,rfl,hlt,q.2⟩,fun v H3 y=>?_⟩
   obtain ⟨e,e'⟩:=y
   subst e e'
   exact hs i ys _ hlt p
 · have e:i=n:=by omega
   subst e
   exact .inl ⟨Nat.le_refl _,hd ys H2 p⟩
theorem Zdm {K:PySem.W.Frag}{a:Addr}{xs:List V}{te:TE}{σ:St}{D:Addr}{Q:VK}{H:Hp}(hn:xs.length≤sizeLine)(Pv:Nat→List V→Hp→Prop)(h0:Pv 0 [] (upd H D (.lst [])))
   (hl:∀ i ys H,Pv i ys H→ys.length=i∧SqL K H a xs)
   (hs:∀ i x ys H,xs[i]?=some x→Pv i ys H→te (σ++[some x]) H fun y H4=>H4 D=some (.lst ys)∧Pv (i+1) (ys++[y]) (upd H4 D (.lst (ys++[y])))) (hd:∀ ys H,Pv xs.length ys H→Q (.ref D) H):CompW (Itl K a) te σ D Q H:=by
 refine ⟨fun i m ys H=>m=xs.length - i∧i≤xs.length∧Pv i ys H,⟨xs.length,by simp,Nat.zero_le _,h0⟩,?_⟩
 rintro i m ys H2 ⟨rfl,hi,p⟩
 obtain ⟨hlen,q⟩:=hl i ys _ p
 by_cases hlt:i < xs.length
 · refine .inr ⟨⟨xs,xs[i],q,by simp [hlt]⟩,_,fun y H4 (q:H4 D=some (.lst ys)∧Pv (i+1) (ys++[y]) (upd H4 D (.lst (ys++[y]))))=>⟨q.1,by omega,xs.length - (i+1),by omega,rfl,hlt,q.2⟩,fun v H3 y=>?_⟩
   obtain ⟨e,y⟩:=y
   subst e
   exact hs i v ys _ (y xs q) p
 · have e:i=xs.length:=by omega
   subst e
   exact .inl ⟨⟨xs,q,Nat.le_refl _⟩,hd ys H2 p⟩
end L2
namespace L2
open PySem PySem.Spec PyProof.Rows
section
variable {X:Cx}{tg:Expr}
end
section
variable {X:Cx}
theorem Zfd (hc:X.calm=true):Yr X (.builtin "all") (fun xs H Q=>∃ (a:Addr) (bs:List Bool),xs=[.ref a]∧SqL X.K H a (bs.map V.bl)∧Q (.bl (bs.all id)) H):=by
 intro pins s σ H xs us Q I r h
 obtain ⟨a,bs,rfl,hq,q⟩:=h
 obtain ⟨u,rfl,ru⟩:=YN r
 cases ru
 obtain ⟨its,rv,p,hz⟩:=I.list hq
 have hlen:=rv.length
 rw [List.length_map] at hlen
 have hal:a < s.heap.objs.size:=by obtain ⟨_,e,_⟩:=p.isList;exact Heap.lt_size e
 refine call_all_walk (wpAny_pyIter_list p.isList ⟨s.heap.objs.size,_,_,_,_,_,fun i=>bs.getD i false,rfl,Walks.list (A:=X.A.in1) (I.ok.hd hc) s.heap.objs.size a (Nat.ne_of_lt hal) its.toArray,⟨⟨_,Heap.get?_push_size _ rfl,rfl,rfl⟩,p.isList.push _⟩,?_,?_⟩)
 · intro i v s' Q' E' hv hQ'
   have hv':its[i]?=some v:=by simpa using hv
   have hi:i < bs.length:=by
     have:=(List.getElem?_eq_some_iff.mp hv').1
     omega
   obtain ⟨u,hu,ru⟩:=rv.get (i:=i) (x:=V.bl bs[i]) (by simp [hi])
   rw [hv'] at hu
   cases hu
   have e:v=Value.bool bs[i]:=ru
   subst e
   have hQ2:Q' (bs.getD i false) s':=hQ'
   rw [List.getD_eq_getElem?_getD,List.getElem?_eq_getElem hi] at hQ2
   exact wpAny_truthy_bool hQ2
 · intro h' tk hk
   have e:(List.range its.toArray.size).all (fun i=>bs.getD i false)=bs.all id:=by
     rw [List.size_toArray,← hlen]
     apply Bool.eq_iff_iff.mpr
     rw [List.all_eq_true,List.all_eq_true]
     constructor
     · intro z b hb
       obtain ⟨i,hi,rfl⟩:=List.mem_iff_getElem.mp hb
       have:=z i (List.mem_range.mpr hi)
       rwa [List.getD_eq_getElem?_getD,List.getElem?_eq_getElem hi] at this
     · intro z i hi
       have hi':=List.mem_range.mp hi
       rw [List.getD_eq_getElem?_getD,List.getElem?_eq_getElem hi']
       exact z _ (List.getElem_mem hi')
   rw [e]
   refine ⟨.bl (bs.all id),H,I.kept (t':=tk) fun b o eb=>hk b o ?_ (Heap.get?_push_of_some _ eb),rfl,q⟩
   intro hm
   have:b=s.heap.objs.size:=by simpa using hm
   rw [this] at eb
   exact absurd (Heap.lt_size eb) (Nat.lt_irrefl _)
theorem ZbC:∀{ys:List Str}{us:List Value},Vals (ys.map V.str) us→StrsAre us ys
 | [],_,.nil=>.nil
 | y::ys,_,.cons r t=>by obtain ⟨k,rfl⟩:=r;exact .cons _ _ (ZbC t)
theorem ZbY:MtR X "str.join" (fun x xs H Q=>∃ sep a ys,x=.str sep∧xs=[.ref a]∧SqL X.K H a (ys.map V.str)∧(ys.map (·.length)).sum+ys.length * sep.length≤16777216∧Q (.str (Txt.join sep ys)) H):=by
 intro pins s σ H x xs v us Q I rx rv h
 obtain ⟨sep,a,ys,rfl,rfl,hq,hz,q⟩:=h
 obtain ⟨t,rfl⟩:=rx
 obtain ⟨u,rfl,ru⟩:=YN rv
 cases ru
 obtain ⟨its,r,p,_⟩:=I.list hq
 exact join_list p.isList (by simpa using ZbC r) hz fun t' k=>⟨.str _,H,I.tok k,⟨_,rfl⟩,q⟩
theorem ZaB:SlR X (fun x lo hi H Q=>∃ z,x=.str z∧z.length≤sizeLine∧Q (.str (Txt.slice z lo hi)) H):=by
 intro pins s σ H x v vl vu lo hi sl Q I rx hs pl pu h
 obtain ⟨z,rfl,hz,q⟩:=h
 obtain ⟨t,rfl⟩:=rx
 refine ⟨"str",_,F.slot_str_getitem.lookup,typeIs_str _ _ _,?_⟩
 have fin:∀ (t':Tok) (k:Nat),EP X pins σ Q (.str (Txt.slice z lo hi) t') { s with toks:=k }:=fun t' k=>⟨.str _,H,I.tok k,⟨_,rfl⟩,q⟩
 obtain ⟨o,ho,hc,hd⟩:=hs
 cases pl<;>cases pu
 · exact wpAny_getItem_str_slice (l:=none) (u:=none) (st:=none) ⟨_,ho,hc,hd⟩ rfl (post_val_or_str ⟨Nat.le_trans (Txt.slice_le z _ _) hz,fin⟩)
 · rename_i j uj
   exact wpAny_getItem_str_slice (l:=none) (u:=some (j,uj)) (st:=none) ⟨_,ho,hc,hd⟩ rfl (post_val_or_str ⟨Nat.le_trans (Txt.slice_le z _ _) hz,fin⟩)
 · rename_i i ui
   exact wpAny_getItem_str_slice (l:=some (i,ui)) (u:=none) (st:=none) ⟨_,ho,hc,hd⟩ rfl (post_val_or_str ⟨Nat.le_trans (Txt.slice_le z _ _) hz,fin⟩)
 · rename_i i ui j uj
   exact wpAny_getItem_str_slice (l:=some (i,ui)) (u:=some (j,uj)) (st:=none) ⟨_,ho,hc,hd⟩ rfl (post_val_or_str ⟨Nat.le_trans (Txt.slice_le z _ _) hz,fin⟩)
end
section
variable {P:Program}{w:World}{H:Hp}{h:Heap}
end
section
variable {X:Cx}
end
end L2
namespace L2
open PySem PySem.Spec PyProof.Rows
def Def (P:Program)(w:World)(K:PySem.W.Frag)(mg:Str→Option Value)(base:Heap)(k:Nat)(x:Str)(ps:List Str)(sp:Sp):Prop :=
 ∃ f fd,FnOk P w K mg base ZU k f fd ps sp∧Binds K fd ps []∧PySem.W.keepIn K (.ref f)=true∧mg x=some (.ref f)
theorem Def.mono {P:Program}{w:World}{K:PySem.W.Frag}{mg:Str→Option Value}{base:Heap}{j k:Nat}{x:Str}{ps:List Str}{sp:Sp}(D:Def P w K mg base j x ps sp)(h:j≤k):Def P w K mg base k x ps sp :=
 let ⟨f,fd,F,b,kp,m⟩:=D;⟨f,fd,F.mono h,b,kp,m⟩
section
variable {X:Cx}{k:Nat}{x:Str}{ps:List Str}{sp:Sp}{p pos:Pos}{e:Expr}{es:List Expr}{t:TA}
theorem ZG (D:Def X.prog X.w X.K X.mg X.base k x ps sp)(hr:Room k X.A)(ha:PA X (e::es) t)(hg:Gl X x:=by rfl)(hdb:(x == ("__debug__":Str))=false:=by decide)
   (he:starEach (e::es) X.env=(false,eval e X.env)::starEach es X.env:=by rfl) (hpl:(backTo pos (starEach es X.env)).any (·.1)=false:=by rfl) :
   PE X (.Call (.Name x p) (e::es) [] pos) (ZcB sp [] E0 t):=by
 obtain ⟨f,fd,F,b,kp,m⟩:=D
 exact Zgy F hr hg m kp b .nil UL ha hdb he hpl
end
def Kp (p:Addr)(H H':Hp):Prop:=∀ q o,q≠p→H q=some o→H' q=some o
theorem Kp.trans {p:Addr}{H H1 H2:Hp}(a:Kp p H H1)(b:Kp p H1 H2):Kp p H H2:=fun q o n h=>b q o n (a q o n h)
theorem Kp.upd (p:Addr)(H:Hp)(o:HO):Kp p H (upd H p o):=fun q u n h=>by rw [Zb n];exact h
theorem Same.kp {H H':Hp}(a:Same H H')(p:Addr):Kp p H H':=fun q o _ h=>a q o h
theorem Zk {H:Hp}{p:Addr}(h:H p=none)(o:HO):Same H (upd H p o):=fun b u q=>by rw [Zb (Zq q h)];exact q
def BoxAt (H:Hp)(p:Addr)(n:Nat):Prop:=∃ a b c:Int,H p=some (.lst [.int a,.int b,.int c])∧0≤a∧0≤c∧c≤n
theorem BoxAt.same {H H':Hp}{p:Addr}{n:Nat}(h:BoxAt H p n)(s:Same H H'):BoxAt H' p n:=let ⟨a,b,c,e,r⟩:=h;⟨a,b,c,s _ _ e,r⟩
theorem BoxAt.le {H:Hp}{p:Addr}{n m:Nat}(h:BoxAt H p n)(l:n≤m):BoxAt H p m:=let ⟨a,b,c,e,h1,h2,h3⟩:=h;⟨a,b,c,e,h1,h2,by omega⟩
def UK (M:Int):Sp:=fun vs H Q _=>∃(p:Addr)(n:Nat)(m:Int),vs=[.ref p,.int m]∧BoxAt H p n∧n≤1000000∧0 < m∧m < M∧∀(r:Int)(H':Hp),0≤r→r < m→BoxAt H' p (n+1)→Kp p H H'→Q (.int r) H'
def ZdD (K:PySem.W.Frag):Sp:=fun vs H Q _=>∃(a:Addr)(ns:List Int)(k:Int),vs=[.ref a,.int k]∧SqL K H a (ns.map V.int)∧0≤k∧∀(r:Int),Q (.int r) H
def ZfQ (K:PySem.W.Frag):Sp:=fun vs H Q _=>∃(a:Addr)(ns:List Int)(k:Int),vs=[.ref a,.int k]∧SqL K H a (ns.map V.int)∧0≤k∧k≤1000∧∀(p:Addr)(H':Hp),H p=none→BoxAt H' p 0→Same H H'→Q (.ref p) H'
theorem len1 {n:Nat}(h:n≤1000):n≤sizeLine:=Nat.le_of_lt (Zee h)
end L2
namespace L2
open PySem PySem.Spec PyProof.Rows
theorem UO:∀ (rest:List Str) (acc:Array Nat),(rest.foldl (fun acc p=>acc++(Str.ofString "").cps++p.cps) acc).toList=acc.toList++rest.flatMap (·.cps.toList)
 | [],acc=>by simp
 | p::r,acc=>by
   have e:(Str.ofString "").cps=#[]:=by decide +kernel
   rw [List.foldl_cons,UO r,List.flatMap_cons,e]
   simp
theorem Xr:∀ ys:List Str,(Txt.join (Str.ofString "") ys).cps.toList=ys.flatMap (·.cps.toList)
 | []=>rfl
 | y::r=>by
   show (List.foldl (fun acc p=>acc++(Str.ofString "").cps++p.cps) y.cps r).toList=_
   rw [UO];rfl
theorem ZT (x:Str):x.length=x.cps.toList.length:=by simp [Str.length]
theorem Zdr (s e:Int)(i j:Nat)(hs:s=i)(he:e=j):sliceRange s e 1=(List.range (j - i)).map (i+·):=by
 subst hs he
 unfold sliceRange
 simp only [show (1:Int) > 0 by decide,if_true]
 have e3:(if (i:Int) < (j:Int) then ((j:Int) - i+1 - 1) / 1 else 0).toNat=j - i:=by
   split
   · rw [Int.ediv_one];omega
   · omega
 rw [e3]
 apply List.map_congr_left
 intro k hk
 omega
theorem Xi (z:Str)(lo hi:Option Int):(Txt.slice z lo hi).cps.toList=(z.cps.toList.drop (HT.sIx z.length 0 lo)).take (HT.sIx z.length z.length hi - HT.sIx z.length 0 lo):=by
 have key:Builtin.Str.strSliceIndices lo hi 1 z.length=(List.range (HT.sIx z.length z.length hi - HT.sIx z.length 0 lo)).map (HT.sIx z.length 0 lo+·):=by
   unfold Builtin.Str.strSliceIndices
   refine Zdr _ _ _ _ ?_ ?_
   · cases lo with
     | none=>rfl
     | some i=>simp only [HT.sIx,show (1:Int) > 0 by decide,if_true];split<;>omega
   · cases hi with
     | none=>rfl
     | some i=>simp only [HT.sIx,show (1:Int) > 0 by decide,if_true];split<;>omega
 have hj:HT.sIx z.length z.length hi≤z.length:=HT.sIx_le _ _ (Nat.le_refl _) hi
 unfold Txt.slice
 rw [key]
 split
 · rename_i h
   simp only [beq_self_eq_true,Bool.true_and,List.length_map,List.length_range,beq_iff_eq] at h
   have h0:HT.sIx z.length 0 lo=0∨z.length=0:=by omega
   rcases h0 with h0 | h0
   · rw [h0] at h ⊢
     rw [List.drop_zero,h,ZT,List.take_length]
   · have e:z.cps.toList=[]:=List.eq_nil_of_length_eq_zero (by rw [← ZT];exact h0)
     rw [e];simp
 · show (List.filterMap (fun k=>z.cps[k]?) ((List.range _).map _)).toArray.toList=_
   rw [List.filterMap_map]
   generalize HT.sIx z.length 0 lo=i at *
   generalize HT.sIx z.length z.length hi - i=n at *
   have gen:∀ (n i:Nat),List.filterMap ((fun k=>z.cps[k]?) ∘ (i+·)) (List.range n)=(z.cps.toList.drop i).take n:=by
     intro n
     induction n with
     | zero=>intro i;simp
     | succ n ih =>
       intro i
       rw [List.range_succ,List.filterMap_append,ih,List.take_add_one,List.getElem?_drop]
       congr 1
       simp only [List.filterMap_cons,List.filterMap_nil,Function.comp,Array.getElem?_toList]
       cases z.cps[i+n]?<;>rfl
   rw [gen]
theorem VX (x y:Str):(x++y).cps.toList=x.cps.toList++y.cps.toList:=by
 show (x.cps++y.cps).toList=_
 simp
theorem Yn (x y:Str):(x++y).length=x.length+y.length:=by rw [ZT,VX,List.length_append,← ZT,← ZT]
def WK (c:Nat):Bool:=decide (97≤c)&&decide (c≤122)
def VQ (c:Nat):Bool:=decide (32≤c)&&decide (c≤126)
theorem ZdZ {X:Cx}{K:PySem.W.Frag}(hK:X.K=K):Yr X (.builtin "len") (fun xs H Q=>∃ x n,xs=[x]∧Zel K x H n∧Q (.int n) H):=by subst hK;exact ZeS
theorem Zfp {X:Cx}{K:PySem.W.Frag}(hK:X.K=K):IxR X (rIxL K):=by subst hK;exact ZL
@[reducible] def notStar:Expr→Bool
 | .Starred ..=>false
 | _=>true
theorem ZfM {e:Expr}{es:List Expr}{env:Env}(h:notStar e=true):starEach (e::es) env=(false,eval e env)::starEach es env:=by
 cases e<;>first | rfl | cases h
section
variable {X:Cx}{k:Nat}{x:Str}{ps:List Str}{sp:Sp}{p pos:Pos}{e:Expr}{es:List Expr}{te:TE}{t:TA}
theorem YJ (ha:PE X e te)(hr:PA X es t)(h:notStar e=true):PA X (e::es) (Xa te t):=ZS ha hr (ZfM h)
theorem Zd (ha:PE X e te)(hr:PA X es t)(h:notStar e=true:=by rfl):PA X (e::es) (Xa te t):=ZS ha hr (ZfM h)
end
end L2
namespace L2
open PySem PySem.Spec PyProof.Rows
section
variable {X:Cx}
theorem Zbd:Yx X (binaryOp .FloorDiv) (rI (fun _ j=>0 < j∧j < 2 ^ 62) fun i j=>.int (i / j)):=opI fun i j _ _ _ _ _ hc q=>by
 have h1:(0:Int) < j:=hc.1
 have h2:j < 2 ^ 62:=hc.2
 refine floordiv_int (by omega) (by rw [Int.fdiv_eq_ediv_of_nonneg i (by omega)];exact q) (.inl (PyProof.noPylong_of_log2 ?_))
 have h3:j.natAbs≠0:=by omega
 have h4:j.natAbs < 2 ^ 9000:=Nat.lt_of_lt_of_le (show j.natAbs < 2 ^ 62 by omega) (Nat.pow_le_pow_right (by decide) (by decide))
 exact (Nat.log2_lt h3).mpr h4
theorem ZaT:MtR X "str.index" (fun x xs H Q=>∃ z y,x=.str z∧xs=[.str y]∧0≤Txt.find z y∧Q (.int (Txt.find z y)) H):=by
 intro pins s σ H x xs v us Q I rx rv h
 obtain ⟨z,y,rfl,rfl,hz,q⟩:=h
 obtain ⟨t,rfl⟩:=rx
 obtain ⟨u,rfl,ru⟩:=YN rv
 obtain ⟨t',rfl⟩:=ru
 cases ho:Builtin.Str.occurrences z y 0 z.length 1 with
 | nil => have:Txt.find z y=-1:=by simp [Txt.find,ho]
          omega
 | cons i rest =>
   have e:Txt.find z y=i:=by simp [Txt.find,ho]
   rw [e] at q
   exact call_gives F.slot_str_index (typeIs_str _ _ _) F.entry_str_index (F.args_str_index_2 _ _) (gives_str_index z y t t' i rest ho) ⟨.int i,H,I.tok _,⟨_,rfl⟩,q⟩
end
end L2
namespace L2
open PySem PySem.Spec PyProof.Rows
section
variable {X:Cx}
end
section
variable {X:Cx}{tg:Expr}
end
end L2
set_option maxHeartbeats 2000000
namespace L2
open PySem PySem.Spec PyProof.Rows
section
variable {prog:Program}{w:World}{A:Around}{E:Value→Shared→Prop}{s:Shared}
end
end L2
set_option maxHeartbeats 2000000
namespace L2
open PySem PySem.Spec PyProof.Rows
section
variable {prog:Program}{w:World}{A:Around}{E:Value→Shared→Prop}{s:Shared}
end
end L2
set_option maxHeartbeats 2000000
namespace L2
open PySem PySem.Spec PyProof.Rows
theorem Inv.turned2 {X:Cx}{pins:List (Addr×Obj)}{σ:St}{H:Hp}{s:Shared}{h':Heap}{t':Nat}{fp:List Addr}(I:Inv X pins σ H s)(k:∀ b o,b ∉ fp→s.heap.get? b=some o→h'.get? b=some o)(hf:∀ b∈fp,YC X pins H b) :
   Inv X pins σ H { s with heap:=h',toks:=t' }:=by
 have nit:∀ b u,H b=some u→b ∉ fp:=fun b u e z=>by rw [(hf b z).1] at e;cases e
 refine I.step (g':=s.gens) (d':=s.drawn) (ch:=fp) (fun b hb=>?_) (fun b o _ _ hc e _=>k b o hc e) (fun b o _ _ hc e _=>⟨o.slots,k b o hc e⟩) (fun _ _ _ _ n=>n)
   (fun b o hc e=>⟨o,k b o hc e⟩) (fun _ _ e=>e) (fun _ _ _ e=>e) (fun b ps e=>⟨#[],by rw [e];simp⟩) (fun m hm=>?_) (fun b u e=>?_) I.bare
 · obtain ⟨f0,f1,f2,f3,f4,f5⟩:=hf b hb
   exact ⟨f3,f1,f4,f5⟩
 · obtain ⟨o,es,ep,ho,r⟩:=hm
   exact ⟨o,es,ep,k _ o (fun z=>(hf _ z).2.1 rfl) ho,r⟩
 · refine (I.hok b u e).stay (fun c v hc q=>k c v ?_ q) (fun _ q=>q) fun _ _ q=>q
   rcases hc with z | z
   · rw [z];exact nit b u e
   · exact nit c _ z
section
variable {X:Cx}
end
end L2
set_option maxHeartbeats 2000000
namespace L2
open PySem PySem.W PySem.Spec PyProof.Rows
section
variable {prog:Program}{w:World}{A:Around}{E:Value→Shared→Prop}{s:Shared}{a kS:Addr}{vs:List Value}{ks:List Str}{keys:Array Value}{e e1:Nat}{P:PySem.Fin→Shared→Prop}
end
end L2
set_option maxHeartbeats 2000000
namespace L2
open PySem PySem.W PySem.Spec PyProof.Rows
def Vt (base:Heap)(mg:Str→Option Value):Prop:=∃ bm ob,mg "__builtins__"=some (.ref bm)∧bm≠builtinsNs∧base.get? bm=some ob∧ob.cls=.type "module"∧ob.dict=some builtinsNs∧ob.data=.plain
def ZcD (ts:List Addr)(H:Hp):Prop:=∀ b,H b=none∨(∃ o xs,H b=some (.frz o (.lst xs)))∨(H b=some (.tbl #[])∧b∈ts)
theorem Zdx {P:Program}{w:World}{K:PySem.W.Frag}{mg mb:Str→Option Value}{CX:XJ}{k:Nat}{fa a:Addr}{fd:FuncData}{x:Str}{sp:Sp}{s₁:Shared}{vs:List Value}{ns:List Int}{ts:List Addr}
   (KX:K.In s₁.heap) (hns:s₁.heap.Ns mainGlobals mg) (hb:s₁.heap.Ns builtinsNs mb) (hbb:∀ x:Str,x≠"__name__"→mb x=bootBuiltins x) (hlim:s₁.heap.NoLimit) (hg:s₁.gens=#[]) (hbm:Vt s₁.heap mg)
   (ha:s₁.heap.get? a=some { cls:=.type "list",data:=.seq vs.toArray }) (hi:IntsAre vs ns) (hl:ns.length≤sizeLine) (hr:Room k callerA)
   (hts:∀ b∈ts,s₁.heap.get? b=some (tabObj #[])∧K.lookup b=none∧∃ c,CodeHd s₁.heap c b)
   (F:∀ base:Heap,K.In base→base.Ns mainGlobals mg→Vt base mg→FnOk P w K mg base CX k fa fd [x] sp) (hbind:∀ (s:Shared) (u:Value),BindsTo s fd ⟨[u],[]⟩ [(x,u)])
   (hsp:∀ H:Hp,ZcD ts H→SqL K H a (ns.map V.int)→(∀ b∈ts,H b=some (.tbl #[]))→sp [.ref a] H (fun v _=>v=.bl true) fun _ _ _=>False)
   (hCX:∀ H e s',CX [] H s₁ (fun _ _ _=>False) e s'→False) :
   codeAny (model P w) callerA (.call (.ref fa) ⟨[.ref a],[]⟩) (fun r s'=>r=.ok (.ret (.bool true))∧OldK s₁.heap s'.heap∧s'.os=s₁.os∧AllBare s'.gens) s₁:=by
 have rv:=VH hi
 have lenV:=hi.length
 have nta:a ∉ ts:=fun z=>by
   have e:=(hts a z).1
   rw [ha] at e;cases e
 have core : ∀ H:Hp,ZcD ts H→SqL K H a (ns.map V.int)→HOk P w H s₁.heap→(∀ b∈ts,H b=some (.tbl #[]))→(∀ b,H b≠none→b=a∨b∈ts)→(∀ b,H b≠none→K.lookup b=none) →
     codeAny (model P w) callerA (.call (.ref fa) ⟨[.ref a],[]⟩) (fun r s'=>r=.ok (.ret (.bool true))∧OldK s₁.heap s'.heap∧s'.os=s₁.os∧AllBare s'.gens) s₁:=by
   intro H hO hS hok hT hA hK
   have base_of:∀ {b:Addr} {o:Obj},s₁.heap.get? b=some o→H b=none→(XS s₁.heap H).get? b=some o:=fun y n=>ZeX y n
   have free:∀ {b:Addr} {o:Obj},s₁.heap.get? b=some o→(∀ its n,o.data≠.seq its n)→(∀ fs,o.data≠.fields fs)→H b=none:=fun {b o} y d1 d2=>by
     cases q:H b with
     | none=>rfl
     | some u =>
       rcases hA b (by rw [q];simp) with z | z
       · subst z
         rw [ha] at y;cases y
         exact absurd rfl (d1 _ _)
       · rw [(hts b z).1] at y;cases y
         exact absurd rfl (d2 _)
   have nsK:∀ {b:Addr} {m:Str→Option Value},s₁.heap.Ns b m→(XS s₁.heap H).Ns b m:=fun {b m} ⟨o,es,ep,y,d,r⟩=>⟨o,es,ep,base_of y (free y (fun its n z=>by rw [d] at z;cases z) fun fs z=>by rw [d] at z;cases z),d,r⟩
   have hKb:K.In (XS s₁.heap H):=fun b o y=>base_of (KX b o y) (by
     cases q:H b with
     | none=>rfl
     | some u=>rw [hK b (by rw [q];simp)] at y;cases y)
   have hBm:Vt (XS s₁.heap H) mg:=by
     obtain ⟨bm,ob,h1,h2,h3,h4,h5,h6⟩:=hbm
     exact ⟨bm,ob,h1,h2,base_of h3 (free h3 (fun its n z=>by rw [h6] at z;cases z) fun fs z=>by rw [h6] at z;cases z),h4,h5,h6⟩
   have hM:Mod K mg (XS s₁.heap H):=⟨hKb,nsK hns,⟨mb,nsK hb,hbb⟩,let ⟨mc,h1,h2⟩:=hlim;⟨mc,nsK h1,h2⟩⟩
   have e0:Env0 P w K mg (XS s₁.heap H) callerA [] s₁ H:=⟨rfl,hM,fun b o e=>Zgh e,Nat.le_of_eq (ZdR _ _),trivial,fun b hb=>absurd (show b∈([]:List Addr) from hb) (by simp),hok,.of_eq hg⟩
   refine codeAny_mono ((F _ hKb (nsK hns) hBm).run callerA [] s₁ H ⟨[.ref a],[]⟩ [.ref a] [.ref a] _ _ hr e0 (hbind s₁ (.ref a)) (.cons rfl .nil) (hsp H hO hS hT)) fun r s' h=>?_
   cases r with
   | error e=>exact (hCX H e s' h).elim
   | ok fl =>
     cases fl with
     | next=>exact False.elim h
     | brk=>exact False.elim h
     | cont=>exact False.elim h
     | ret u =>
       obtain ⟨v,H',os,bare,un,hok',r',q⟩:=h
       have q':v=.bl true:=q
       subst q'
       obtain rfl:u=Value.bool true:=r'
       have key:∀ b o,s₁.heap.get? b=some o→s'.heap.get? b=some o∨(b∈ts∧∃ more:Array Value,s'.heap.get? b=some (tabObj (#[]++more))):=fun b o y=>by
         cases q:H b with
         | none=>exact .inl (un.keep b o y q (by intro z;exact absurd (show b∈([]:List Addr) from z) (by simp)) (by simp))
         | some u =>
           rcases hO b with z | ⟨ob,xs,z⟩ | ⟨z,zt⟩
           · rw [q] at z;cases z
           · have z2:=un.frzs b ob _ z
             obtain ⟨e1,_⟩:=hok b _ z
             obtain ⟨e2,_⟩:=hok' b _ z2
             rw [y] at e1;cases e1
             exact .inl e2
           · obtain ⟨more,z2⟩:=un.tbls b #[] z
             exact .inr ⟨zt,more,show s'.heap.get? b=some { cls:=.none,data:=.fields (#[]++more) } from hok' b _ z2⟩
       refine ⟨rfl,⟨fun b o y=>?_,fun b o y=>?_⟩,os,bare⟩
       · rcases key b o y with z | ⟨zt,more,z⟩
         · exact .inl z
         · obtain ⟨t1,_,c,t3⟩:=hts b zt
           rw [t1] at y;cases y
           exact .inr (.inl ⟨(t3.tab t1).isCodeTable,rfl,#[],more,rfl,z⟩)
       · rcases key b o y with z | ⟨zt,more,z⟩
         · exact ⟨_,z⟩
         · exact ⟨_,z⟩
 have okT:∀ (H:Hp) (b:Addr),b∈ts→ObjOk P w H s₁.heap b (.tbl #[]):=fun H b hb=>(hts b hb).1
 cases hk:K.lookup a with
 | some o =>
   have e:=KX a o hk
   rw [ha] at e
   cases e
   refine core (fun b=>if b∈ts then some (.tbl #[]) else none) (fun b=>?_) (.inr ⟨_,vs.toArray,_,hk,rfl,rfl,rfl,by rw [List.size_toArray,lenV];exact hl,by simpa using rv⟩) (fun b u z=>?_) (fun b hb=>if_pos hb) (fun b z=>?_) (fun b z=>?_)
   · by_cases hb:b∈ts
     · exact .inr (.inr ⟨if_pos hb,hb⟩)
     · exact .inl (if_neg hb)
   · by_cases hb:b∈ts
     · have z':=(if_pos hb).symm.trans z
       cases z'
       exact okT _ b hb
     · have z':=(if_neg hb).symm.trans z
       cases z'
   · by_cases hb:b∈ts
     · exact .inr hb
     · exact absurd (if_neg hb) z
   · by_cases hb:b∈ts
     · exact (hts b hb).2.1
     · exact absurd (if_neg hb) z
 | none =>
   refine core (fun b=>if b=a then some (.frz { cls:=.type "list",data:=.seq vs.toArray } (.lst (ns.map V.int))) else if b∈ts then some (.tbl #[]) else none) (fun b=>?_) (.inl (.inr ⟨{ cls:=.type "list",data:=.seq vs.toArray },if_pos rfl⟩)) (fun b u z=>?_)
     (fun b hb=>(if_neg (fun z:b=a=>nta (by rw [← z];exact hb))).trans (if_pos hb)) (fun b z=>?_) (fun b z=>?_)
   · by_cases h1:b=a
     · exact .inr (.inl ⟨_,_,if_pos h1⟩)
     · by_cases hb:b∈ts
       · exact .inr (.inr ⟨(if_neg h1).trans (if_pos hb),hb⟩)
       · exact .inl ((if_neg h1).trans (if_neg hb))
   · by_cases h1:b=a
     · have z':=(if_pos h1).symm.trans z
       cases z'
       subst h1
       exact ⟨ha,by rw [List.length_map];exact hl,vs,_,rv,ha⟩
     · have z1:=(if_neg h1).symm.trans z
       by_cases hb:b∈ts
       · have z':=(if_pos hb).symm.trans z1
         cases z'
         exact okT _ b hb
       · have z':=(if_neg hb).symm.trans z1
         cases z'
   · by_cases h1:b=a
     · exact .inl h1
     · by_cases hb:b∈ts
       · exact .inr hb
       · exact absurd ((if_neg h1).trans (if_neg hb)) z
   · by_cases h1:b=a
     · rw [h1];exact hk
     · by_cases hb:b∈ts
       · exact (hts b hb).2.1
       · exact absurd ((if_neg h1).trans (if_neg hb)) z
theorem walk_ofT {l:PySem.W.OpenLaw}{n k:Nat}{q:Program}{loose:List Str}{XP:(Str→Option Value)→Heap→Prop}{YP:World→Heap→Prop}{d:DefRec}{K:Params→PySem.W.Frag}{CX:World→XJ}{sp:World→Sp}{x:Str}{ts:List Addr}
   (hn:l.most=some n) (hn2:n≤sizeLine) (hdf:d.params.defaults=[]) (hr:Room k callerA)
   (hY:∀ (w:World) (h:Heap),YP w h→(K w.params).In h∧∀ b∈ts,h.get? b=some (tabObj #[]))
   (hK:∀ (w:World) (b:Addr),b∈ts→(K w.params).lookup b=none∧∃ c,codeHdIn (K w.params) c b=true)
   (F:∀ (w:World) (mg:Str→Option Value) (fa:Addr) (h:Heap),(K w.params).In h→h.Ns mainGlobals mg→mg d.name=some (.ref fa) →
     ∃ fd:FuncData,(∀ (s:Shared) (u:Value),BindsTo s fd ⟨[u],[]⟩ [(x,u)]) ∧
       ∀ base:Heap,(K w.params).In base→base.Ns mainGlobals mg→Vt base mg→FnOk l.prog w (K w.params) mg base (CX w) k fa fd [x] (sp w))
   (hsp:∀ (w:World) (H:Hp) (a:Addr) (ns:List Int),ns.length≤n→ZcD ts H→SqL (K w.params) H a (ns.map V.int)→(∀ b∈ts,H b=some (.tbl #[]))→sp w [.ref a] H (fun v _=>v=.bl true) fun _ _ _=>False)
   (hCX:∀ (w:World) (H:Hp) (s:Shared) (e:Value) (s':Shared),CX w [] H s (fun _ _ _=>False) e s'→False) :
   PySem.W.WalkO q loose XP YP l.row.toRowW d [] (fun f vs=>PySem.call f vs):=by
 refine Att.attach_call hn hdf fun w s₀ s₁ mg mb fa o pm cd doc a vs ns G Y ho hd hcd hmg hobj hints hlen hg=>?_
 obtain ⟨KX,hT⟩:=hY w _ Y
 obtain ⟨fd,hb,hF⟩:=F w mg fa _ KX G.T.g hmg
 exact Zdx (ts:=ts) KX G.T.g G.T.b G.T.builtins G.T.nolimit hg G.T.bmain hobj hints (Nat.le_trans hlen hn2) hr (fun b hb'=>⟨hT b hb',(hK w b hb').1,let ⟨c,hc⟩:=(hK w b hb').2;⟨c,codeHd_of_K KX hc⟩⟩) hF hb (fun H hO hS hTb=>hsp w H a ns hlen hO hS hTb) fun H e s'=>hCX w H s₁ e s'
end L2
set_option maxHeartbeats 2000000
namespace L2
open PySem PySem.W PySem.Spec PyProof.Rows
section
variable {prog:Program}{w:World}{A:Around}{E:Value→Shared→Prop}{s:Shared}
end
def unR:Value→Addr
 | .ref a=>a
 | _=>0
section
variable {X:Cx}{pins:List (Addr×Obj)}{σ:List (Option V)}{H:Hp}{s:Shared}{h':Heap}
end
section
variable {X:Cx}
end
end L2
set_option maxHeartbeats 4000000
namespace L2
open PySem PySem.W PySem.Spec PyProof.Rows
section
variable {prog:Program}{w:World}{A:Around}{E:Value→Shared→Prop}{s:Shared}
end
section
variable {prog:Program}{w:World}{A:Around}{R:Result→Shared→Prop}
end
section
variable {prog:Program}{w:World}{A:Around}{E:Value→Shared→Prop}{s:Shared}
end
section
variable {X:Cx}
end
end L2
set_option maxHeartbeats 2000000
namespace L2
open PySem PySem.W PySem.Spec PyProof.Rows
section
variable {X:Cx}{pins:List (Addr×Obj)}{σ:List (Option V)}{H H':Hp}{s:Shared}{h':Heap}
theorem Inv.many {t':Nat}(I:Inv X pins σ H s)(k:∀ b u,s.heap.get? b=some u→h'.get? b=some u)(ext:Same H H')(new:∀ b,b < s.heap.objs.size→H' b=H b)(hok:∀ b o,s.heap.objs.size≤b→H' b=some o→ObjOk X.prog X.w H' h' b o) :
   Inv X pins σ H' { s with heap:=h',toks:=t' }:=by
 refine I.step (g':=s.gens) (d':=s.drawn) (ch:=[]) (fun _ z=>nomatch z) (fun b o _ _ _ e _=>k b o e) (fun b o _ _ _ e _=>⟨o.slots,k b o e⟩) (fun b o _ e n=>by rw [new b (Heap.lt_size e)];exact n) (fun b o _ e=>⟨o,k b o e⟩)
   (fun b xs e=>ext b _ e) (fun b o u e=>ext b _ e) (fun b ps e=>⟨#[],by rw [ext b _ e];simp⟩) (fun m hm=>?_) (fun b u e=>?_) I.bare
 · obtain ⟨o,es,ep,ho,r⟩:=hm
   exact ⟨o,es,ep,k _ o ho,r⟩
 · by_cases hb:b < s.heap.objs.size
   · rw [new b hb] at e
     exact (I.hok b u e).stay (fun c v _ y=>k c v y) (fun c y=>ext c _ y) fun c xs y=>ext c _ y
   · exact hok b u (Nat.not_lt.mp hb) e
end
def UP (v d:Addr):Heap→Prop:=fun h=>h.IsItemsView v d
def XT (H:Hp):List (Addr×Zo×V)→Hp
 | []=>H
 | (a,k,v)::r=>upd (XT H r) a (.tup [kV k,v])
theorem Zas {H:Hp}{b:Addr}:∀{l:List (Addr×Zo×V)},b ∉ l.map (·.1)→XT H l b=H b
 | [],_=>rfl
 | (a,k,v)::r,h=>by
   rw [List.map_cons,List.mem_cons,not_or] at h
   show upd (XT H r) a _ b=_
   rw [Zb h.1];exact Zas h.2
theorem ZbO {H:Hp}{a:Addr}{k:Zo}{v:V}:∀{l:List (Addr×Zo×V)},(l.map (·.1)).Nodup→(a,k,v)∈l→XT H l a=some (.tup [kV k,v])
 | (b,k',v')::r,hn,hm=>by
   rw [List.map_cons,List.nodup_cons] at hn
   show upd (XT H r) b _ a=_
   rcases List.mem_cons.mp hm with e | hm
   · cases e;exact Zf
   · rw [Zb (fun z:a=b=>hn.1 (by show b∈_;rw [← z];exact List.mem_map.mpr ⟨_,hm,rfl⟩))]
     exact ZbO hn.2 hm
theorem Zde {kvs:List (Zo×V)}{vs:List (Zo×Value)}(r:KV kvs vs):∀{j:Nat}{k:Zo}{x:Value},vs[j]?=some (k,x)→∃ v,kvs[j]?=some (k,v)∧RelV v x:=by
 induction r with
 | nil=>intro j k x e;simp at e
 | cons h t ih =>
   intro j k x e
   cases j with
   | zero =>
     cases (show some _=some (k,x) from e)
     rename_i a _ _
     refine ⟨a.2,?_,h.2⟩
     have e1:a.1=k:=h.1
     show some a=some (k,a.2)
     rw [← e1]
   | succ j=>exact ih (by simpa using e)
section
variable {X:Cx}
theorem ZeC:MtR X "dict.items" (fun x xs H Q=>∃ d kvs,x=.ref d∧xs=[]∧H d=some (.dK kvs)∧∀ v,H v=none→Q (.ref v) (upd H v (.ext (UP v d)))):=by
 intro pins s σ H x xs v us Q I rx rv h
 obtain ⟨d,kvs,rfl,rfl,e,q⟩:=h
 cases rx
 cases rv
 obtain ⟨hz,lo,vs,kv,hd⟩:=Wr I.hok e
 refine call_meetsIn PySem.F.slot_dict_items hd.typeIs PySem.F.entry_dict_items (PySem.F.args_dict_items_1 _) (meets_dict_items (ZD X.prog X.w) d lo) ⟨⟨vs,hd⟩,?_⟩
 refine ⟨.ref s.heap.objs.size,_,I.laid (t':=s.toks) (fun b o y=>Heap.get?_push_of_some _ y) (Nat.le_refl _) (show ObjOk X.prog X.w _ _ _ (.ext (UP s.heap.objs.size d)) from ⟨⟨_,Heap.get?_push_size _ rfl,rfl,rfl⟩,⟨_,Heap.get?_push_size _ rfl⟩,?_⟩),rfl,q _ (I.hok.fresh (Nat.le_refl _))⟩
 rintro h1 h2 ⟨o,eo,r⟩ k
 exact ⟨o,k _ eo,r⟩
end
end L2
set_option maxHeartbeats 2000000
namespace L2
open PySem PySem.W PySem.Spec PyProof.Rows
section
variable {P:Program}{w:World}{K:PySem.W.Frag}{mg:Str→Option Value}{base:Heap}
end
structure TF (H H':Hp):Prop where
 tup:∀ b xs,H b=some (.tup xs)→H' b=some (.tup xs)
 frz:∀ b o u,H b=some (.frz o u)→H' b=some (.frz o u)
theorem Same.tf {H H':Hp}(h:Same H H'):TF H H':=⟨fun b _ e=>h b _ e,fun b _ _ e=>h b _ e⟩
theorem SqT.tf {K:PySem.W.Frag}{H H':Hp}{a:Addr}{xs:List V}(h:SqT K H a xs)(t:TF H H'):SqT K H' a xs:=by
 rcases h with (h | ⟨o,h⟩) | h
 · exact .inl (.inl (t.tup _ _ h))
 · exact .inl (.inr ⟨o,t.frz _ _ _ h⟩)
 · exact .inr h
inductive Nd where
 | bare
 | leaf (m:Int) (ps:List (Str×V))
 | fork (qs:List Nat)
def PairT (H:Hp)(ts:List Addr)(ps:List (Str×V)):Prop:=ts.length=ps.length∧∀(i:Nat)(a:Addr)(p:Str×V),ts[i]?=some a→ps[i]?=some p→H a=some (.tup [.str p.1,p.2])
def PairsAt (H:Hp)(t:Addr)(ps:List (Str×V)):Prop:=∃ o ts,H t=some (.frz o (.tup (ts.map V.ref)))∧o.dict=none∧PairT H ts ps
def NodeAt (K:PySem.W.Frag)(H:Hp)(a:Addr):Nd→Prop
 | .bare=>SqT K H a [.str "bare"]
 | .leaf m ps=>∃ t,SqT K H a [.str "leaf",.int m,.ref t]∧PairsAt H t ps
 | .fork qs=>∃ t,SqT K H a [.str "fork",.ref t]∧SqT K H t (qs.map fun q:Nat=>V.int (q:Int))∧qs.length=4
theorem PairT.tf {H H':Hp}{ts:List Addr}{ps:List (Str×V)}(h:PairT H ts ps)(t:TF H H'):PairT H' ts ps:=⟨h.1,fun i a p e1 e2=>t.tup _ _ (h.2 i a p e1 e2)⟩
theorem PairsAt.tf {H H':Hp}{t:Addr}{ps:List (Str×V)}(h:PairsAt H t ps)(f:TF H H'):PairsAt H' t ps:=by
 obtain ⟨o,ts,e,d,p⟩:=h
 exact ⟨o,ts,f.frz _ _ _ e,d,p.tf f⟩
theorem NodeAt.tf {K:PySem.W.Frag}{H H':Hp}{a:Addr}{n:Nd}(h:NodeAt K H a n)(f:TF H H'):NodeAt K H' a n:=by
 cases n with
 | bare=>exact SqT.tf h f
 | leaf m ps=>obtain ⟨t,e,p⟩:=h;exact ⟨t,e.tf f,p.tf f⟩
 | fork qs=>obtain ⟨t,e,p,l⟩:=h;exact ⟨t,e.tf f,p.tf f,l⟩
end L2
set_option maxHeartbeats 1000000
namespace L2
open PySem
def YB:HO→Bool
 | .tup _=>false
 | .frz _ _=>false
 | .own _=>false
 | .met _ _=>false
 | .rng _ _=>false
 | .ext _=>false
 | _=>true
def Vj (H h:Hp):Hp:=fun b=>match h b with
 | some o=>if YB o=true then none else H b
 | none=>H b
def one (p:Addr)(o:HO):Hp:=fun b=>if b=p then some o else none
theorem one_some {p b:Addr}{o u:HO}:one p o b=some u↔b=p∧o=u:=by
 unfold one
 by_cases h:b=p
 · rw [if_pos h];exact ⟨fun z=>⟨h,Option.some.inj z⟩,fun z=>by rw [z.2]⟩
 · rw [if_neg h];exact ⟨fun z=>(by cases z),fun z=>absurd z.1 h⟩
abbrev Yi:=Addr→Hp→Prop
abbrev Rs:=List (Addr×Yi)
def Sep:Rs→Hp→Prop
 | [],_=>True
 | (a,R)::Δ,H=>∃ h,Same h H∧R a h∧Sep Δ (Vj H h)
theorem cut_some {H h:Hp}{b:Addr}{o:HO}:Vj H h b=some o↔H b=some o∧∀ u,h b=some u→YB u=false:=by
 unfold Vj
 cases e:h b with
 | none=>exact ⟨fun z=>⟨z,fun u q=>by cases q⟩,fun z=>z.1⟩
 | some v =>
   cases m:YB v with
   | true=>show (if YB v=true then none else H b)=some o↔_;rw [if_pos m];exact ⟨fun z=>(by cases z),fun z=>(by have:=z.2 v rfl;rw [m] at this;cases this)⟩
   | false=>show (if YB v=true then none else H b)=some o↔_;rw [if_neg (by rw [m];decide)];exact ⟨fun z=>⟨z,fun u q=>(by cases q;exact m)⟩,fun z=>z.1⟩
theorem Zbi {H h:Hp}:Same (Vj H h) H:=fun b o e=>(cut_some.mp e).1
theorem Zbe {H H' h:Hp}(s:Same H H'):Same (Vj H h) (Vj H' h):=fun b o e=>let ⟨x,y⟩:=cut_some.mp e;cut_some.mpr ⟨s _ _ x,y⟩
theorem Sep.mono:∀{Δ:Rs}{H H':Hp},Sep Δ H→Same H H'→Sep Δ H'
 | [],_,_,_,_=>trivial
 | (_,_)::_,_,_,⟨h,l,r,S⟩,s=>⟨h,l.trans s,r,S.mono (Zbe s)⟩
theorem Sep.swap {a b:Addr}{R T:Yi}{Δ:Rs}{H:Hp}(S:Sep ((a,R)::(b,T)::Δ) H):Sep ((b,T)::(a,R)::Δ) H:=by
 obtain ⟨h,l,r,g,m,t,S⟩:=S
 refine ⟨g,m.trans Zbi,t,h,fun c o e=>cut_some.mpr ⟨l _ _ e,fun u q=>?_⟩,r,S.mono fun c o e=>?_⟩
 · obtain ⟨q1,q2⟩:=cut_some.mp (m _ _ q)
   have e2:=l _ _ e
   rw [q1] at e2;cases e2
   exact q2 _ e
 · obtain ⟨e1,e2⟩:=cut_some.mp e
   obtain ⟨e3,e4⟩:=cut_some.mp e1
   exact cut_some.mpr ⟨cut_some.mpr ⟨e3,e2⟩,e4⟩
theorem Sep.tail {a:Addr}{R:Yi}{Δ:Rs}{H:Hp}(S:Sep ((a,R)::Δ) H):Sep Δ H:=by
 obtain ⟨h,l,r,S⟩:=S
 exact S.mono Zbi
class Pull (a:Addr) (Δ:Rs) (R:outParam Yi) (Δ':outParam Rs):Prop where
 out:∀ {H},Sep Δ H→Sep ((a,R)::Δ') H
instance (priority:=1000) Pull.here {a:Addr} {R:Yi} {Δ:Rs}:Pull a ((a,R)::Δ) R Δ:=⟨fun S=>S⟩
instance (priority:=900) Pull.there {a b:Addr} {R T:Yi} {Δ Δ':Rs} [P:Pull a Δ R Δ']:Pull a ((b,T)::Δ) R ((b,T)::Δ') :=
 ⟨fun S=>by
   obtain ⟨h,l,r,S⟩:=S
   exact Sep.swap ⟨h,l,r,P.out S⟩⟩
theorem Sep.pull {Δ Δ':Rs}{H:Hp}{R:Yi}(S:Sep Δ H)(a:Addr)[P:Pull a Δ R Δ']:Sep ((a,R)::Δ') H:=P.out S
theorem Sep.drop {Δ Δ':Rs}{H:Hp}{R:Yi}(S:Sep Δ H)(a:Addr)[P:Pull a Δ R Δ']:Sep Δ' H:=(P.out S).tail
class Up (R:Yi):Prop where
 up:∀ {a:Addr} {H H':Hp},R a H→Same H H'→R a H'
theorem Sep.get {Δ Δ':Rs}{H:Hp}{R:Yi}(S:Sep Δ H)(a:Addr)[P:Pull a Δ R Δ'][U:Up R]:R a H:=by
 obtain ⟨h,l,r,_⟩:=P.out S
 exact U.up r l
def Pt (o:HO):Yi:=fun a h=>h a=some o
abbrev ZN (xs:List V):Yi:=Pt (.lst xs)
abbrev Wf (kv:List (Zo×V)):Yi:=Pt (.dK kv)
abbrev Tup (xs:List V):Yi:=Pt (.tup xs)
instance {o:HO}:Up (Pt o):=⟨fun h s=>s _ _ h⟩
theorem Sep.new {Δ:Rs}{H:Hp}(S:Sep Δ H){p:Addr}(hp:H p=none)(o:HO):Sep ((p,Pt o)::Δ) (upd H p o):=by
 refine ⟨one p o,fun b u e=>?_,one_some.mpr ⟨rfl,rfl⟩,S.mono fun b u e=>?_⟩
 · obtain ⟨rfl,rfl⟩:=one_some.mp e;exact Zf
 · have hb:=Zq e hp
   exact cut_some.mpr ⟨by rw [Zb hb];exact e,fun v q=>absurd (one_some.mp q).1 hb⟩
theorem Sep.made {Δ:Rs}{H H':Hp}(S:Sep Δ H)(s:Same H H'){p:Addr}{o:HO}(hp:H p=none)(e:H' p=some o):Sep ((p,Pt o)::Δ) H':=by
 refine ⟨one p o,fun b u q=>?_,one_some.mpr ⟨rfl,rfl⟩,S.mono fun b u q=>?_⟩
 · obtain ⟨rfl,rfl⟩:=one_some.mp q;exact e
 · have hb:=Zq q hp
   exact cut_some.mpr ⟨s _ _ q,fun v q=>absurd (one_some.mp q).1 hb⟩
theorem Sep.put {Δ Δ':Rs}{H:Hp}{o:HO}(S:Sep Δ H)(a:Addr)(o':HO)[P:Pull a Δ (Pt o) Δ'](m:YB o=true:=by rfl):Sep ((a,Pt o')::Δ') (upd H a o'):=by
 obtain ⟨h,l,r,S⟩:=P.out S
 refine ⟨one a o',fun b u q=>?_,one_some.mpr ⟨rfl,rfl⟩,S.mono fun b u q=>?_⟩
 · obtain ⟨rfl,rfl⟩:=one_some.mp q;exact Zf
 · obtain ⟨q1,q2⟩:=cut_some.mp q
   have hb:b≠a:=fun z=>by
     have:=q2 o (by rw [z];exact r)
     rw [m] at this;cases this
   exact cut_some.mpr ⟨by rw [Zb hb];exact q1,fun v q=>absurd (one_some.mp q).1 hb⟩
theorem Sep.say {Δ Δ':Rs}{H:Hp}{R:Yi}(S:Sep Δ H)(a:Addr)(T:Yi)[P:Pull a Δ R Δ'](f:∀ h,R a h→T a h):Sep ((a,T)::Δ') H:=by
 obtain ⟨h,l,r,S⟩:=P.out S
 exact ⟨h,l,f h r,S⟩
theorem Sep.call {Δ:Rs}{H H':Hp}{a:Addr}{R T:Yi}{L:List Addr}(S:Sep ((a,R)::Δ) H)(k:∀ b o,b ∉ L→H b=some o→H' b=some o)
   (f:∀ h,Same h H→R a h→(∀ b∈L,∃ o,h b=some o∧YB o=true)∧∃ h',Same h' H'∧T a h'∧∀ b o,h' b=some o→YB o=true→b∈L∨H b=none∨∃ u,h b=some u∧YB u=true):Sep ((a,T)::Δ) H':=by
 obtain ⟨h,l,r,S⟩:=S
 obtain ⟨f1,h',l',t,f2⟩:=f h l r
 refine ⟨h',l',t,S.mono fun b o e=>?_⟩
 obtain ⟨e1,e2⟩:=cut_some.mp e
 have hb:b ∉ L:=fun z=>by
   obtain ⟨u,q1,q2⟩:=f1 b z
   rw [e2 u q1] at q2;cases q2
 refine cut_some.mpr ⟨k b o hb e1,fun u q=>?_⟩
 cases m:YB u with
 | false=>rfl
 | true =>
   rcases f2 b u q m with z | z | ⟨v,z1,z2⟩
   · exact absurd z hb
   · rw [e1] at z;cases z
   · rw [e2 v z1] at z2;cases z2
abbrev Bx (n:Nat):Yi:=fun a h=>BoxAt h a n
instance {n:Nat}:Up (Bx n):=⟨fun h s=>h.same s⟩
theorem Sep.box {Δ:Rs}{H H':Hp}{p:Addr}{n m:Nat}(S:Sep ((p,Bx n)::Δ) H)(k:Kp p H H')(B:BoxAt H' p m):Sep ((p,Bx m)::Δ) H':=by
 refine S.call (L:=[p]) (fun b o nb e=>k b o (fun z=>nb (by simp [z])) e) fun h l r=>⟨fun b hb=>?_,?_⟩
 · rw [List.mem_singleton.mp hb]
   obtain ⟨x,y,z,e,_⟩:=r
   exact ⟨_,e,rfl⟩
 · obtain ⟨x,y,z,e,w⟩:=B
   refine ⟨one p (.lst [.int x,.int y,.int z]),fun b u q=>?_,⟨x,y,z,one_some.mpr ⟨rfl,rfl⟩,w⟩,fun b o q _=>.inl (by simp [(one_some.mp q).1])⟩
   obtain ⟨rfl,rfl⟩:=one_some.mp q;exact e
def Zca (M:Int):Sp:=fun vs H Q _=>∃(p:Addr)(n:Nat)(m:Int)(Δ:Rs),vs=[.ref p,.int m]∧Sep ((p,Bx n)::Δ) H∧n≤1000000∧0 < m∧m < M∧∀(r:Int)(H':Hp),0≤r→r < m→Sep ((p,Bx (n+1))::Δ) H'→Q (.int r) H'
theorem ZhC {M:Int}{vs:List V}{H:Hp}{Q:VK}{E:XK}(h:Zca M vs H Q E):UK M vs H Q E:=by
 obtain ⟨p,n,m,Δ,e,S,h1,h2,h3,q⟩:=h
 exact ⟨p,n,m,e,S.get p,h1,h2,h3,fun r H' a b B k=>q r H' a b (S.box k B)⟩
end L2
namespace L2
open PySem
theorem ZcP {x:V}{u:Value}(h:ZcM u=some x):RelV x u:=by
 cases u<;>first | (cases h;exact rfl) | (cases h;exact ⟨_,rfl⟩) | cases h
theorem Uk:∀{xs:List V}{us:List Value},us.map ZcM=xs.map some→Vals xs us
 | [],[],_=>.nil
 | [],_::_,h=>by cases h
 | _::_,[],h=>by cases h
 | x::xs,u::us,h=>by
   rw [List.map_cons,List.map_cons,List.cons.injEq] at h
   exact .cons (ZcP h.1) (Uk h.2)
def Zan (K:PySem.W.Frag)(a:Addr)(vs:List V):Bool:=match K.lookup a with
 | some ⟨.type "tuple",_,.seq its _,_⟩=>decide (its.size≤100000)&&decide (its.toList.map ZcM=vs.map some)
 | _=>false
theorem ZaV {K:PySem.W.Frag}{a:Addr}{vs:List V}(h:Zan K a vs=true)(H:Hp):SqT K H a vs:=by
 unfold Zan at h
 split at h
 · rename_i its n _ hk
   simp only [Bool.and_eq_true,decide_eq_true_eq] at h
   exact .inr ⟨_,its,n,hk,rfl,rfl,Nat.le_trans h.1 (by decide),Uk h.2⟩
 · cases h
end L2
set_option maxHeartbeats 2000000
namespace L2
open PySem
section
variable {X:Cx}{elt iter cnd:Expr}{x:Str}{px pos:Pos}{scope:Scope}{wi:TI}{te:TE}{tc:TT}
end
end L2
set_option maxHeartbeats 2000000
namespace L2
open PySem PySem.Spec PyProof.Rows
def CompT (J:It)(g:TG)(te:TE)(σ:St)(D:Addr)(Q:VK)(H1:Hp):Prop :=
 ∃ W:Nat→Nat→List V→Hp→Prop,(∃ m,W 0 m [] (upd H1 D (.lst [])))∧∀ i m ys H2,W i m ys H2 →
   (J.stop i H2∧Q (.ref D) H2)∨(J.go i H2∧∃ N:VK,(∀ y H4,N y H4→H4 D=some (.lst ys)∧ys.length < sizeLine∧∃ m',m' < m∧W (i+1) m' (ys++[y]) (upd H4 D (.lst (ys++[y]))))∧∀ wa wb v H3,J.yld i H2 v H3→g v (σ++[wa,wb]) H3 fun σ' H'=>(∃ wa wb,σ'=σ++[wa,wb])∧te σ' H' N)
def ZhY (wi:TI)(g:TG)(te:TE):TE:=fun σ H Q=>wi σ H fun J H1=>∀ D,H1 D=none→CompT J g te σ D Q H1
theorem ok2:∀ σ σ':St,(∃ wa wb,σ'=σ++[wa,wb])→∃ ws:St,ws.length=[xa,xb].length∧σ'=σ++ws:=fun _ _ ⟨wa,wb,e⟩=>⟨[wa,wb],rfl,e⟩
theorem CompT.n {J:It}{g:TG}{te:TE}{σ:St}{D:Addr}{Q:VK}{H:Hp}(h:CompT J g te σ D Q H):Uf J g Zfb te 2 (fun σ σ'=>∃ wa wb,σ'=σ++[wa,wb]) σ D Q H:=by
 obtain ⟨W,w0,t⟩:=h
 refine ⟨W,w0,fun i m ys H2 w2=>(t i m ys H2 w2).imp (fun z=>z) fun ⟨go,N,hN,hy⟩=>⟨go,N,fun _=>False,hN,fun _ z=>z.elim,fun ws v H3 hl y=>?_⟩⟩
 match ws,hl with
 | [wa,wb],_=>exact hy wa wb v H3 y
section
variable {X:Cx}{elt iter tg:Expr}{xa xb:Str}{pos:Pos}{scope:Scope}{wi:TI}{te:TE}{g:TG}
theorem ZeO (O:CompOkT X scope xa xb)(hc:X.calm=true)(hi:PI X tg iter wi)(hg:∀ cl C s₀ H₀ fp,PG (YT X scope xa xb cl C s₀ H₀ fp) tg g)(he:∀ cl C s₀ H₀ fp,PE (YT X scope xa xb cl C s₀ H₀ fp) elt te)
   (hs:∀ v,foldedSetIterable iter X.env v=pure v:=by intro _;rfl):PE X (.ListComp elt [⟨tg,iter,[],0⟩] scope pos) (ZhY wi g te) :=
 UF (CW:=fun J σ D Q H=>CompT J g te σ D Q H) O hc hi (fun _ _ _ _ _ _ h=>h.n) ok2 hg (fun _ _ _ _ _=>.inl ⟨rfl,rfl⟩) he hs
end
end L2
set_option maxHeartbeats 2000000
namespace L2
open PySem PySem.Spec PyProof.Rows
end L2
namespace L2
open PySem
structure Ye (mg:Str→Option Value):Prop where
 len:mg "len"=none
 abs:mg "abs"=none
 int:mg "int"=none
 range:mg "range"=none
 min:mg "min"=none
 max:mg "max"=none
 repr:mg "repr"=none
 enumerate:mg "enumerate"=none
 ord:mg "ord"=none
 list:mg "list"=none
 tuple:mg "tuple"=none
 dict:mg "dict"=none
 sorted:mg "sorted"=none
 sum:mg "sum"=none
 all:mg "all"=none
 any:mg "any"=none
 divmod:mg "divmod"=none
 str:mg "str"=none
 isinstance:mg "isinstance"=none
 set:mg "set"=none
 zip:mg "zip"=none
 reversed:mg "reversed"=none
 bool:mg "bool"=none
abbrev DTk (P:Program)(w:World)(K:PySem.W.Frag)(mg:Str→Option Value)(base:Heap)(k:Nat):Prop:=Def P w K mg base k "_law_take" ["_law_box_here","_law_many"] (Zca 4611686018427387904)
theorem FnOk.conv {P:Program}{w:World}{K:PySem.W.Frag}{mg:Str→Option Value}{base:Heap}{k:Nat}{f:Addr}{fd:FuncData}{ps:List Str}{sp sp':Sp}(F:FnOk P w K mg base ZU k f fd ps sp)(h:∀ vs H Q E,sp' vs H Q E→sp vs H Q E):FnOk P w K mg base ZU k f fd ps sp' :=
 ⟨fun vs H Q E z=>F.len vs H Q E (h vs H Q E z),fun A outer s H args us vs Q E hr he hb hv z=>F.run A outer s H args us vs Q E hr he hb hv (h vs H Q E z)⟩
theorem Def.conv {P:Program}{w:World}{K:PySem.W.Frag}{mg:Str→Option Value}{base:Heap}{k:Nat}{x:Str}{ps:List Str}{sp sp':Sp}(D:Def P w K mg base k x ps sp)(h:∀ vs H Q E,sp' vs H Q E→sp vs H Q E):Def P w K mg base k x ps sp' :=
 let ⟨f,fd,F,b,kp,m⟩:=D;⟨f,fd,F.conv h,b,kp,m⟩
theorem Zdo {α:Type}{xs:List α}{r:Int}{v:α}(h0:0≤r)(h:xs[r.toNat]?=some v):Yg xs r=some v:=by
 have z:Yg xs ((r.toNat:Nat):Int)=some v:=YI h
 rwa [show ((r.toNat:Nat):Int)=r by omega] at z
theorem Yv {n m:Nat}(h:n≤m)(hm:m≤100000:=by decide):n≤sizeLine:=Nat.le_trans (Nat.le_trans h hm) (by decide)
theorem Wa {n m:Nat}(h:n≤m)(hm:m≤100000:=by decide):n < sizeLine:=Nat.lt_of_le_of_lt (Nat.le_trans h hm) (by decide)
end L2
set_option maxHeartbeats 2000000
namespace L2
open PySem
def DefM (P:Program)(w:World)(K:PySem.W.Frag)(mg:Str→Option Value)(base:Heap)(k:Nat)(C:Addr)(m:Str)(ps:List Str)(sp:Sp):Prop:=∃ f fd,FnOk P w K mg base ZU k f fd ps sp∧Binds K fd ps []∧Vs K C m f
theorem DefM.mono {P:Program}{w:World}{K:PySem.W.Frag}{mg:Str→Option Value}{base:Heap}{j k:Nat}{C:Addr}{m:Str}{ps:List Str}{sp:Sp}(D:DefM P w K mg base j C m ps sp)(h:j≤k):DefM P w K mg base k C m ps sp :=
 let ⟨f,fd,F,b,q⟩:=D;⟨f,fd,F.mono h,b,q⟩
section
variable {X:Cx}{k:Nat}{C:Addr}{m:Str}{ps:List Str}{sp:Sp}{pos apos:Pos}{o e:Expr}{es:List Expr}{ta:TE}{t:TA}
theorem pe_m {pl:Sem Bool}(D:DefM X.prog X.w X.K X.mg X.base k C m ps sp)(c:Cls X.K C)(hr:Room k X.A)(he:PE X o ta)(ha:PA X (e::es) t)
   (hst:starEach (e::es) X.env=(false,eval e X.env)::starEach es X.env:=by rfl) (hpl:(backTo pos (starEach es X.env)).any (·.1)=false:=by rfl)
   (ht:eval (.Call (.Attribute o m apos) (e::es) [] pos) X.env=(do
     let ov ← eval o X.env
     standAt apos.atName
     let (f,first) ← holding [ov] (getMethod ov m pl)
     callWith pos f first (backTo pos (starEach (e::es) X.env)) (backToKw pos (keywordEach [] X.env))):=by rfl) :
   PE X (.Call (.Attribute o m apos) (e::es) [] pos) (Zaf C m sp [] E0 ta t):=by
 obtain ⟨f,fd,F,b,q⟩:=D
 exact ZfZ he c q F hr b .nil UL ha hst hpl ht
end
def Kq (S:List Addr)(H H':Hp):Prop:=∀ b o,b ∉ S→H b=some o→H' b=some o
def ZeB (ln dt:Addr):List (Str×V):=YA "tables" (.ref dt) (YA "nodes" (.ref ln) [])
theorem ZgG (ln dt:Addr){m:Str}(h1:¬ m="tables")(h2:¬ m="nodes"):(ZeB ln dt).lookup m=none:=by
 unfold ZeB
 rw [Xj,if_neg h1,Xj,if_neg h2]
 rfl
structure StoreAt (K:PySem.W.Frag)(C st ln dt:Addr)(H:Hp)(nds:List Nd)(tabs:List (Zo×V)):Prop where
 ob:∃ dx,H st=some (.ins C dx (ZeB ln dt))
 nl:∃ as:List Addr,H ln=some (.lst (as.map V.ref))∧as.length=nds.length∧∀ (i:Nat) (a:Addr) (n:Nd),as[i]?=some a→nds[i]?=some n→NodeAt K H a n
 tb:H dt=some (.dK tabs)
theorem StoreAt.keep {K:PySem.W.Frag}{C st ln dt:Addr}{H H':Hp}{nds:List Nd}{tabs:List (Zo×V)}(S:StoreAt K C st ln dt H nds tabs)(h:Same H H'):StoreAt K C st ln dt H' nds tabs:=by
 obtain ⟨⟨dx,e⟩,⟨as,e2,l,hn⟩,e3⟩:=S
 exact ⟨⟨dx,h _ _ e⟩,⟨as,h _ _ e2,l,fun i a n x y=>(hn i a n x y).tf h.tf⟩,h _ _ e3⟩
theorem Uc {α:Type}{xs:List α}{r:Int}(h0:0≤r)(h1:r < (xs.length:Int)):∃ v,Yg xs r=some v∧v∈xs:=by
 have hk:r.toNat < xs.length:=by omega
 have z:Yg xs ((r.toNat:Nat):Int)=some xs[r.toNat]:=YI (List.getElem?_eq_getElem hk)
 have e:((r.toNat:Nat):Int)=r:=by omega
 rw [e] at z
 exact ⟨_,z,List.getElem_mem hk⟩
def ZcQ:V→Prop
 | .int i=>i.natAbs < 10 ^ 30
 | .str x=>x.length≤40∧x.cps.toList.all VQ=true
 | _=>False
def Zcj:V→Bool
 | .int i=>decide (i.natAbs < 10 ^ 30)
 | .str x=>decide (x.length≤40)&&x.cps.toList.all VQ
 | _=>false
theorem ZaR {v:V}(h:Zcj v=true):ZcQ v:=by
 cases v with
 | int i=>exact of_decide_eq_true (p:=i.natAbs < 10 ^ 30) h
 | str x =>
   have h':(decide (x.length≤40)&&x.cps.toList.all VQ)=true:=h
   simp only [Bool.and_eq_true,decide_eq_true_eq] at h'
   exact h'
 | _=>cases h
def ZbQ:Sp:=fun vs H Q _=>∃(p:Addr)(n:Nat),vs=[.ref p]∧BoxAt H p n∧n≤900000∧∀(v:V)(H':Hp),ZcQ v→BoxAt H' p (n+50)→Kp p H H'→Q v H'
def Zfw:List Stmt→Str
 | .Assign _ (.Constant (.str x) _ _) _::_=>x
 | _::r=>Zfw r
 | []=>Str.empty
theorem VB {X:Cx}{K:PySem.W.Frag}(hK:X.K=K)(hc:X.calm=true){xa xb:Str}{pa pb tp:Pos}{j:Nat}{ga gb:TG}(ha:PG X (.Name xa pa) ga)(hb:PG X (.Name xb pb) gb):PG X (.Tuple [.Name xa pa,.Name xb pb] j tp) (gTup K 2 (ZcL ga (ZcL gb gNil))):=by
 subst hK
 exact XD hc (ZM ha (ZM hb Xf))
def WJ (P:Program)(w:World)(K:PySem.W.Frag)(mg:Str→Option Value)(base:Heap)(k:Nat)(C:Addr)(x:Str)(ps:List Str)(sp:Sp):Prop:=∃ f fd,FnOk P w K mg base ZU k f fd ps sp∧Binds K fd ps []∧Mk K C f∧mg x=some (.ref C)
theorem Zae {X:Cx}{k:Nat}{C:Addr}{x:Str}{ps:List Str}{sp:Sp}{p pos:Pos}(D:WJ X.prog X.w X.K X.mg X.base k C x ps sp)(hr:Room (k+1) X.A)(hg:Gl X x:=by rfl)(hdb:(x == ("__debug__":Str))=false:=by decide) :
   PE X (.Call (.Name x p) [] [] pos) (Zad C sp [] E0 XU):=by
 obtain ⟨f,fd,F,b,M,m⟩:=D
 exact Zfa M F hr hg m b .nil UL hdb
theorem WN {H H':Hp}{a:Addr}(s:Same H H')(h:H' a=none):H a=none:=by
 cases e:H a with
 | none=>rfl
 | some o=>rw [s _ _ e] at h;cases h
end L2
set_option maxHeartbeats 4000000
namespace K45
open PySem L2
def top (i:Nat):Stmt:=PySem.Challenge.pw_roadsettings_k45_watchers.main.body.getD i (.Pass ⟨0,0,0,0⟩)
abbrev c_RoadError___init__:Stmt:=Yd (top 20) 0
abbrev c_Lookout___init__:Stmt:=Yd (top 35) 0
abbrev c_Lookout_watch:Stmt:=Yd (top 35) 1
abbrev c_Lookout_unwatch:Stmt:=Yd (top 35) 2
abbrev c_Lookout_watched:Stmt:=Yd (top 35) 3
abbrev c_Lookout_news:Stmt:=Yd (top 35) 8
abbrev c_Lookout_looks:Stmt:=Yd (top 35) 9
abbrev c_Store___init__:Stmt:=Yd (top 37) 0
abbrev c_Store_empty:Stmt:=Yd (top 37) 1
abbrev c_Roads___init__:Stmt:=Yd (top 39) 0
abbrev c_Tokens___init__:Stmt:=Yd (top 41) 0
abbrev c_Hall___init__:Stmt:=Yd (top 43) 0
abbrev c_Hall_declare:Stmt:=Yd (top 43) 1
abbrev c_Hall_check_setting:Stmt:=Yd (top 43) 21
abbrev s_l_cell_at:Stmt:=top 45
abbrev s_l_box:Stmt:=top 46
abbrev s_l_take:Stmt:=top 47
abbrev s_l_names:Stmt:=top 48
abbrev s_l_value:Stmt:=top 49
abbrev s_l_twin:Stmt:=top 50
abbrev s_l_settings:Stmt:=top 51
abbrev s_l_same:Stmt:=top 52
abbrev s_l_refusal:Stmt:=top 53
abbrev s_l_told:Stmt:=top 54
abbrev s_l_rows_right:Stmt:=top 55
abbrev s_l_watch_right:Stmt:=top 56
abbrev s_law:Stmt:=top 57
section
variable {P:Program}{w:World}{K:PySem.W.Frag}{mg:Str→Option Value}{base:Heap}
theorem scC:Zs ["_law_script","_law_k"] ["_law_script","_law_k"] (Zj s_l_cell_at):=⟨rfl,rfl,rfl,by decide +kernel,rfl,by decide +kernel,by decide +kernel⟩
theorem Zgt {f:Addr}{fd:FuncData}(F:Fun K "_law_cell_at" "_law_cell_at" s_l_cell_at f fd)(T:Ye mg):FnOk P w K mg base ZU 1 f fd ["_law_script","_law_k"] (ZdD K):=by
 refine F.ok scC (fun vs H Q E h=>?_) (fun cdv A outer s H vs Q E hr h=>?_)
 · obtain ⟨a,ns,k,rfl,_⟩:=h;rfl
 obtain ⟨a,ns,k,rfl,hS,h0,q⟩:=h
 refine ⟨_,Zg (Yb (ZC WX (pv 1) (Zl ZK rfl T.len PySem.boot_len (ZS (pv 0) Za)) (ZF _)) (Zi (Zv (ZJ ZL (pv 0) (pv 1) (fun _ _=>rfl)))) ZH)
   (Zi (Zv Ze)),?_⟩
 refine ⟨_,rfl,_,rfl,a,_,rfl,.inl hS,_,_,rfl,rfl,_,rfl,?_⟩
 refine Wp (fun c=>?_) (fun c=>?_)
 · have c':k < (((ns.map V.int).length:Nat):Int):=of_decide_eq_true c
   rw [List.length_map] at c'
   have hk:k.toNat < ns.length:=by omega
   have ek:k=((k.toNat:Nat):Int):=by omega
   have hat:Yg (ns.map V.int) k=some (.int ns[k.toNat]):=by
     have z:Yg (ns.map V.int) ((k.toNat:Nat):Int)=some (.int ns[k.toNat]):=YI (by rw [List.getElem?_map,List.getElem?_eq_getElem hk];rfl)
     rwa [← ek] at z
   exact ⟨_,rfl,_,rfl,a,_,_,_,rfl,rfl,hS,hat,q _⟩
 · exact q 0
theorem scB:Zs ["_law_script","_law_k","_law_cell"] ["_law_script","_law_k"] (Zj s_l_box):=⟨rfl,rfl,rfl,by decide +kernel,rfl,by decide +kernel,by decide +kernel⟩
theorem Zin {f:Addr}{fd:FuncData}(F:Fun K "_law_box" "_law_box" s_l_box f fd)(T:Ye mg)(D:Def P w K mg base 1 "_law_cell_at" ["_law_script","_law_k"] (ZdD K)):FnOk P w K mg base ZU 2 f fd ["_law_script","_law_k"] (ZfQ K):=by
 refine F.ok scB (fun vs H Q E h=>?_) (fun cdv A outer s H vs Q E hr h=>?_)
 · obtain ⟨a,ns,k,rfl,_⟩:=h;rfl
 obtain ⟨a,ns,k,rfl,hS,h0,h1,q⟩:=h
 refine ⟨_,Zg (ZA (i:=2) scB.nd rfl (Or.inl rfl) (ZG D hr (ZS (pv 0) (ZS (pv 1) Za))))
   (Zi (Zv (Zy (ZS (Zn XC (Zl Zbg rfl T.abs (by decide +kernel) (ZS (pv 2) Za)) (Zdg ZdF rfl T.int (by decide +kernel) (ZS (We ZiF (Zl Zbg rfl T.abs (by decide +kernel) (ZS (pv 2) Za)) (Zn UQ Ze Ze) (ZF _)) Za)))
     (ZS (Zn Yp (Zn Yp (Zn YY (pv 2) Ze) (Zn XC Ze (pv 1))) Ze) (ZS Ze Za)))))),?_⟩
 refine ⟨_,rfl,_,rfl,a,ns,k,rfl,hS,h0,fun r=>?_⟩
 refine ⟨_,rfl,_,rfl,⟨_,rfl,_,rfl,_,_,rfl,rfl,⟨by decide,by decide,by decide⟩,_,_,rfl,rfl,.inr ⟨_,rfl,?_⟩⟩⟩
 generalize hb:decide ((10:Int) ^ (Int.toNat 18)≤(if r < 0 then -r else r))=bb
 refine ⟨_,_,rfl,rfl,.inr (by cases bb<;>exact ⟨by decide,by decide⟩),_,rfl,_,_,rfl,rfl,(by show (0:Int) < _;decide),_,rfl,_,_,rfl,rfl,.inl ⟨by decide,by decide⟩,_,_,rfl,rfl,_,_,rfl,rfl,(by show 3≤sizeLine;decide),fun p hp=>?_⟩
 refine q p _ hp ⟨_,_,0,Zf,?_,by decide,by decide⟩ (Zk hp _)
 cases bb
 · simp
 · simp only [if_true,Int.mul_one];split<;>omega
theorem scT:Zs ["_law_box_here","_law_many","_law_found","_law_once","_law_twice"] ["_law_box_here","_law_many"] (Zj s_l_take):=⟨rfl,rfl,rfl,by decide +kernel,rfl,by decide +kernel,by decide +kernel⟩
theorem Zgw {f:Addr}{fd:FuncData}(F:Fun K "_law_take" "_law_take" s_l_take f fd):FnOk P w K mg base ZU 1 f fd ["_law_box_here","_law_many"] (UK 4611686018427387904):=by
 refine F.ok scT (fun vs H Q E h=>?_) (fun cdv A outer s H vs Q E hr h=>?_)
 · obtain ⟨p,n,m,rfl,_⟩:=h;rfl
 obtain ⟨p,n,m,rfl,⟨a,b,c,hp,ha,hc,hcn⟩,hn,hm0,hmM,q⟩:=h
 refine ⟨_,Zg (Yb (ZC Zab (ZJ ZL (pv 0) Ze (fun _ _=>rfl)) Ze (ZF _))
     (Zg (ZA (i:=2) scT.nd rfl (Or.inl rfl) (Zn YY (ZJ ZL (pv 0) Ze (fun _ _=>rfl)) (pv 1)))
       (Zg (Xk (Zn Zbd (ZJ ZL (pv 0) Ze (fun _ _=>rfl)) (pv 1)) (Zar (pv 0) Ze UH)) (Zi (Zv (pv 2))))) ZH)
   (Zg (Xk (Zn Yp (ZJ ZL (pv 0) Ze (fun _ _=>rfl)) Ze) (Zar (pv 0) Ze UH))
   (Zg (ZA (i:=3) scT.nd rfl (Or.inl rfl) (Zn YY (Zn XC (Zn Yp (ZJ ZL (pv 0) Ze (fun _ _=>rfl)) (Zn XC Ze (ZJ ZL (pv 0) Ze (fun _ _=>rfl)))) (Zn Yp Ze (ZJ ZL (pv 0) Ze (fun _ _=>rfl)))) Ze))
   (Zg (ZA (i:=4) scT.nd rfl (Or.inl rfl) (Zn YY (Zn XC (Zn Yp (pv 3) (ZJ ZL (pv 0) Ze (fun _ _=>rfl))) (Zn Yp (Zn YY (pv 3) Ze) Ze)) Ze))
   (Zi (Zv (Zn YY (Zn ZbJ (Zn YY (Zn Yp (Zn XC (pv 4) Ze) (pv 3)) Ze) Ze) (pv 1))))))),?_⟩
 refine ⟨_,rfl,p,_,_,_,rfl,rfl,SqL.of hp,rfl,_,_,rfl,rfl,_,rfl,?_⟩
 refine Wp (fun c'=>?_) (fun c'=>?_)
 · have h0:0 < a:=of_decide_eq_true c'
   refine ⟨_,rfl,p,_,_,_,rfl,rfl,SqL.of hp,rfl,_,rfl,_,_,rfl,rfl,hm0,?_⟩
   refine ⟨_,rfl,p,_,_,_,rfl,rfl,SqL.of hp,rfl,_,rfl,_,_,rfl,rfl,⟨hm0,by have h4:m < 4611686018427387904:=hmM;omega⟩,?_⟩
   refine ⟨_,rfl,p,_,_,_,rfl,rfl,hp,rfl,?_⟩
   refine ⟨_,rfl,?_⟩
   exact q _ _ (Int.emod_nonneg _ (by omega)) (Int.emod_lt_of_pos _ hm0) ⟨a / m,b,c,Zf,Int.ediv_nonneg ha (by omega),hc,by omega⟩ (Kp.upd _ _ _)
 · refine ⟨_,rfl,p,_,_,_,rfl,rfl,SqL.of hp,rfl,_,_,rfl,rfl,?_⟩
   refine ⟨_,rfl,p,_,_,_,rfl,rfl,hp,rfl,?_⟩
   have hp1:upd H p (.lst [.int a,.int b,.int (c+1)]) p=some (.lst [.int a,.int b,.int (c+1)]):=Zf
   refine ⟨_,rfl,p,_,_,_,rfl,rfl,SqL.of hp1,rfl,_,rfl,p,_,_,_,rfl,rfl,SqL.of hp1,rfl,_,_,rfl,rfl,.inl ⟨by decide,by decide⟩,_,_,rfl,rfl,_,rfl,p,_,_,_,rfl,rfl,SqL.of hp1,rfl,_,_,rfl,rfl,_,_,rfl,rfl,.inr ⟨by omega,by omega⟩,_,_,rfl,rfl,(by show (0:Int) < _;decide),?_⟩
   generalize hO:((b+48271 * (c+1)) * (39373+(c+1))) % 2147483647=once
   have hO0:0≤once:=by rw [← hO];exact Int.emod_nonneg _ (by decide)
   refine ⟨_,rfl,_,rfl,p,_,_,_,rfl,rfl,SqL.of hp1,rfl,_,_,rfl,rfl,_,rfl,_,_,rfl,rfl,(by show (0:Int) < _;decide),_,_,rfl,rfl,_,_,rfl,rfl,.inr ?_,_,_,rfl,rfl,(by show (0:Int) < _;decide),?_⟩
   · have:=Int.emod_nonneg once (show (40009:Int)≠0 by decide)
     have:=Int.emod_lt_of_pos once (show (0:Int) < 40009 by decide)
     exact ⟨by omega,by omega⟩
   generalize hW:((once+(c+1)) * (once % 40009+7)) % 2147483629=twice
   refine ⟨_,rfl,_,_,rfl,rfl,.inr ⟨by decide,by decide⟩,_,rfl,_,_,rfl,rfl,_,_,rfl,rfl,(by show (0:Int) < _;decide),_,_,rfl,rfl,⟨by decide,by decide⟩,_,rfl,_,_,rfl,rfl,hm0,?_⟩
   exact q _ _ (Int.emod_nonneg _ (by omega)) (Int.emod_lt_of_pos _ hm0) ⟨a,b,c+1,hp1,ha,by omega,by omega⟩ (Kp.upd _ _ _)
end
structure Txt (K:PySem.W.Frag)(mg:Str→Option Value):Prop extends Ye mg where
 base:∃ t,mg "BASE"=some (.int 4 t)
 zero:∃ t,mg "BARE_NUMBER"=some (.int 0 t)
 bare:∃ a,mg "BARE"=some (.ref a)∧∀ H,SqT K H a [.str "bare"]
 figs:∃ a,mg "FIGURES"=some (.ref a)∧∀ H,SqT K H a [.int 0,.int 1,.int 2,.int 3]
section
variable {P:Program}{w:World}{K:PySem.W.Frag}{mg:Str→Option Value}{base:Heap}
end
end K45
set_option maxHeartbeats 4000000
namespace K45
open PySem L2
structure ZeN (K:PySem.W.Frag)(C:Addr):Prop where
 cl:Cls K C
 nN:NoAttr K C "nodes"
 nT:NoAttr K C "tables"
section
variable {P:Program}{w:World}{K:PySem.W.Frag}{mg:Str→Option Value}{base:Heap}{C:Addr}
def ZdM (K:PySem.W.Frag)(C:Addr):Sp:=fun vs H Q _=>∃(p dx:Addr),vs=[.ref p]∧H p=some (.ins C dx [])∧∀(ln dt:Addr)(H':Hp),H ln=none→H dt=none→StoreAt K C p ln dt H' [.bare] [(Sum.inl 0,.bl true)]→Kq [p] H H'→Q .non H'
theorem scIn:Zs ["self"] ["self"] (Zj c_Store___init__):=⟨rfl,rfl,rfl,by decide +kernel,rfl,by decide +kernel,by decide +kernel⟩
theorem ZgM {f:Addr}{fd:FuncData}(F:Fun K "__init__" "Store.__init__" c_Store___init__ f fd)(T:Txt K mg)(TC:ZeN K C):FnOk P w K mg base ZU 1 f fd ["self"] (ZdM K C):=by
 refine F.ok scIn (fun vs H Q E h=>?_) (fun cdv A outer s H vs Q E hr h=>?_)
 · obtain ⟨p,dx,rfl,_⟩:=h;rfl
 obtain ⟨p,dx,rfl,hp,q⟩:=h
 obtain ⟨ab,hb,hbt⟩:=T.bare
 obtain ⟨tz,hz⟩:=T.zero
 refine ⟨_,Zg (ZW (pv 0) (Zy (Zd (Ym rfl hb (v:=.ref ab) rfl) Za)) rfl) (Zi (ZW (pv 0) (Zgx (Zek (Ym rfl hz (v:=.int 0) ⟨_,rfl⟩) Wj Zgr) rfl rfl (by simp) (by decide)) rfl)),?_⟩
 refine ⟨(by show 1≤sizeLine;decide),fun ln hln=>?_⟩
 have npl:p≠ln:=Zq hp hln
 refine ⟨_,rfl,p,C,dx,[],rfl,(by rw [Zb npl];exact hp),TC.cl,TC.nN,(by show 0 < 1000;decide),?_⟩
 intro dt hdt
 have npd:p≠dt:=fun z=>by rw [← z,Zf] at hdt;cases hdt
 have nld:ln≠dt:=fun z=>by rw [← z,Zb npl.symm,Zf] at hdt;cases hdt
 have hdt0:H dt=none:=by rw [Zb npd.symm,Zb nld.symm] at hdt;exact hdt
 refine ⟨Zf,[(Sum.inl 0,.bl true)],rfl,by decide,_,rfl,p,C,dx,_,rfl,(by rw [Zb npd,Zb npd,Zf]),TC.cl,TC.nT,(by show 1 < 1000;decide),?_⟩
 refine q ln dt _ hln hdt0 ⟨⟨dx,Zf⟩,⟨[ab],?_,rfl,fun i a n e1 e2=>?_⟩,?_⟩ fun b o nb e=>?_
 · rw [Zb npl.symm,Zb nld,Zb nld,Zb npl.symm,Zf];rfl
 · cases i with
   | zero =>
     cases (show some ab=some a from e1)
     cases (show some Nd.bare=some n from e2)
     exact hbt _
   | succ i=>simp at e1
 · rw [Zb npd.symm,Zf];rfl
 · have nb':b≠p:=fun z=>nb (by simp [z])
   rw [Zb nb',Zb (Zq e hdt0),Zb (Zq e hdt0),Zb nb',Zb (Zq e hln)];exact e
end
end K45
set_option maxHeartbeats 4000000
namespace K45
open PySem L2
section
variable {P:Program}{w:World}{K:PySem.W.Frag}{mg:Str→Option Value}{base:Heap}{C:Addr}
end
end K45
set_option maxHeartbeats 4000000
namespace K45
open PySem L2
section
variable {P:Program}{w:World}{K:PySem.W.Frag}{mg:Str→Option Value}{base:Heap}{C:Addr}
end
end K45
set_option maxHeartbeats 4000000
namespace K45
open PySem L2
section
variable {NS:List Str}{nds nds':List Nd}{F F':Str→Option V}
end
end K45
set_option maxHeartbeats 4000000
namespace K45
open PySem L2
section
variable {NS:List Str}{nds nds':List Nd}{F F':Str→Option V}
end
end K45
set_option maxHeartbeats 4000000
namespace K45
open PySem L2
section
variable {P:Program}{w:World}{K:PySem.W.Frag}{mg:Str→Option Value}{base:Heap}{C Pl:Addr}{NS:List Str}
end
end K45
set_option maxHeartbeats 4000000
namespace K45
open PySem L2
section
variable {P:Program}{w:World}{K:PySem.W.Frag}{mg:Str→Option Value}{base:Heap}{C Pl:Addr}{NS:List Str}
end
end K45
set_option maxHeartbeats 4000000
namespace K45
open PySem L2
section
variable {NS:List Str}{nds nds':List Nd}{F F':Str→Option V}
end
section
variable {P:Program}{w:World}{K:PySem.W.Frag}{mg:Str→Option Value}{base:Heap}{C Pl:Addr}{NS:List Str}
end
end K45
set_option maxHeartbeats 2000000
namespace L2
open PySem PySem.Spec PyProof.Rows
def CompVT (J:It)(g:TG)(tc:TT)(te:TE)(σ:St)(D:Addr)(Q:VK)(H1:Hp):Prop :=
 ∃ W : Nat→Nat→List V→Hp→Prop,(∃ m,W 0 m [] (upd H1 D (.lst [])))∧∀ i m ys H2,W i m ys H2 →
   (J.stop i H2∧Q (.ref D) H2)∨(J.go i H2∧∃ (N:VK) (M:Hp→Prop),(∀ y H4,N y H4→H4 D=some (.lst ys)∧ys.length < sizeLine∧∃ m',m' < m∧W (i+1) m' (ys++[y]) (upd H4 D (.lst (ys++[y]))))∧(∀ H4,M H4→∃ m',m' < m∧W (i+1) m' ys H4) ∧
     ∀ wa wb v H3,J.yld i H2 v H3→g v (σ++[wa,wb]) H3 fun σ' H'=>(∃ wa wb,σ'=σ++[wa,wb])∧tc σ' H' fun b H4=>if b=true then te σ' H4 N else M H4)
def ZbR (wi:TI)(g:TG)(tc:TT)(te:TE):TE:=fun σ H Q=>wi σ H fun J H1=>∀ D,H1 D=none→CompVT J g tc te σ D Q H1
theorem CompVT.n {J:It}{g:TG}{tc:TT}{te:TE}{σ:St}{D:Addr}{Q:VK}{H:Hp}(h:CompVT J g tc te σ D Q H):Uf J g tc te 2 (fun σ σ'=>∃ wa wb,σ'=σ++[wa,wb]) σ D Q H:=by
 obtain ⟨W,w0,t⟩:=h
 refine ⟨W,w0,fun i m ys H2 w2=>(t i m ys H2 w2).imp (fun z=>z) fun ⟨go,N,M,hN,hM,hy⟩=>⟨go,N,M,hN,hM,fun ws v H3 hl y=>?_⟩⟩
 match ws,hl with
 | [wa,wb],_=>exact hy wa wb v H3 y
section
variable {X:Cx}{elt iter tg cnd:Expr}{xa xb:Str}{pos:Pos}{scope:Scope}{wi:TI}{te:TE}{tc:TT}{g:TG}
theorem ZdQ (O:CompOkT X scope xa xb)(hc:X.calm=true)(hi:PI X tg iter wi)(hg:∀ cl C s₀ H₀ fp,PG (YT X scope xa xb cl C s₀ H₀ fp) tg g)(hcn:∀ cl C s₀ H₀ fp,PT (YT X scope xa xb cl C s₀ H₀ fp) cnd tc)(he:∀ cl C s₀ H₀ fp,PE (YT X scope xa xb cl C s₀ H₀ fp) elt te)
   (hs:∀ v,foldedSetIterable iter X.env v=pure v:=by intro _;rfl):PE X (.ListComp elt [⟨tg,iter,[cnd],0⟩] scope pos) (ZbR wi g tc te) :=
 UF (CW:=fun J σ D Q H=>CompVT J g tc te σ D Q H) O hc hi (fun _ _ _ _ _ _ h=>h.n) ok2 hg (fun cl C s₀ H₀ fp=>.inr ⟨_,rfl,hcn cl C s₀ H₀ fp⟩) he hs
theorem Zat {i:Nat}{y:Str}{py spos:Pos}(O:CompOkT X scope xa xb)(hc:X.calm=true)(hN:X.N.Nodup)(hiN:X.N[i]?=some y)(hy:Loc X.env.scope y)(hi:PI X tg iter wi)(hg:∀ cl C s₀ H₀ fp,PG (YT X scope xa xb cl C s₀ H₀ fp) tg g)(hcn:∀ cl C s₀ H₀ fp,PT (YT X scope xa xb cl C s₀ H₀ fp) cnd tc)(he:∀ cl C s₀ H₀ fp,PE (YT X scope xa xb cl C s₀ H₀ fp) elt te)
   (hsw:swapsWith (.ListComp elt [⟨tg,iter,[cnd],0⟩] scope pos) (some (.Name y py)) spos.line X.env=pure true) (hf:X.fn y=true∨X.env.scope.names.lookup y=some .local:=by first | exact .inl rfl | exact .inr rfl | assumption)
   (hs:∀ v,foldedSetIterable iter X.env v=pure v:=by intro _;rfl):PS X (.Assign [.Name y py] (.ListComp elt [⟨tg,iter,[cnd],0⟩] scope pos) spos) (ZcC (ZbR wi g tc te) (Ua i)) :=
 Zbz (CW:=fun J σ D Q H=>CompVT J g tc te σ D Q H) O hc hN hiN hy hi (fun _ _ _ _ _ _ h=>h.n) ok2 hg (fun cl C s₀ H₀ fp=>.inr ⟨_,rfl,hcn cl C s₀ H₀ fp⟩) he hsw hf hs
end
end L2
set_option maxHeartbeats 2000000
namespace L2
open PySem PySem.Spec PyProof.Rows
theorem Sep.nest {a:Addr}{Δ:Rs}:∀{Γ:Rs}{H h:Hp},Same h H→Sep Γ h→Sep Δ (Vj H h)→Sep (Γ++Δ) H
 | [],_,_,_,_,S=>S.mono Zbi
 | (b,T)::Γ,H,h,l,⟨g,m,t,G⟩,S=>by
   refine ⟨g,m.trans l,t,Sep.nest (a:=a) (h:=Vj h g) (Zbe l) G (S.mono fun c o e=>?_)⟩
   obtain ⟨e1,e2⟩:=cut_some.mp e
   refine cut_some.mpr ⟨cut_some.mpr ⟨e1,fun u q=>e2 u (m _ _ q)⟩,fun u q=>e2 u (cut_some.mp q).1⟩
theorem Sep.pack' {Δ:Rs}:∀{Γ:Rs}{H:Hp},Sep (Γ++Δ) H→∃ h,Same h H∧Sep Γ h∧Sep Δ (Vj H h)
 | [],H,S=>⟨fun _=>none,fun b o e=>(by cases e),trivial,S.mono fun b o e=>cut_some.mpr ⟨e,fun u q=>(by cases q)⟩⟩
 | (b,T)::Γ,H,⟨g,m,t,S⟩=>by
   obtain ⟨h',l',G,S⟩:=Sep.pack' S
   refine ⟨fun c=>match g c with | some o=>some o | none=>h' c,fun c o e=>?_,⟨g,fun c o e=>?_,t,G.mono fun c o e=>?_⟩,S.mono fun c o e=>?_⟩
   · cases q:g c with
     | some u=>simp only [q] at e;cases e;exact m _ _ q
     | none=>simp only [q] at e;exact (cut_some.mp (l' _ _ e)).1
   · simp only [e]
   · obtain ⟨e1,e2⟩:=cut_some.mp (l' _ _ e)
     refine cut_some.mpr ⟨?_,e2⟩
     cases q:g c with
     | some u=>simp only [q];rw [m _ _ q] at e1;exact e1
     | none=>simp only [q];exact e
   · obtain ⟨e1,e2⟩:=cut_some.mp e
     obtain ⟨e3,e4⟩:=cut_some.mp e1
     refine cut_some.mpr ⟨e3,fun u q=>?_⟩
     cases z:g c with
     | some v=>simp only [z] at q;cases q;exact e4 _ z
     | none=>simp only [z] at q;exact e2 _ q
theorem Sep.pack {a:Addr}{Γ Δ:Rs}{H:Hp}{R:Yi}(S:Sep (Γ++Δ) H)(f:∀ h,Sep Γ h→R a h):Sep ((a,R)::Δ) H:=by
 obtain ⟨h,l,G,S⟩:=Sep.pack' S
 exact ⟨h,l,f h G,S⟩
section
variable {X:Cx}
end
section
variable {X:Cx}{k:Nat}{C:Addr}{x m:Str}{ps:List Str}{sp:Sp}{p pos apos:Pos}{o:Expr}{ta:TE}
theorem Zag {pl:Sem Bool}(D:DefM X.prog X.w X.K X.mg X.base k C m ps sp)(c:Cls X.K C)(hr:Room k X.A)(he:PE X o ta)
   (ht:eval (.Call (.Attribute o m apos) [] [] pos) X.env=(do
     let ov ← eval o X.env
     standAt apos.atName
     let (f,first) ← holding [ov] (getMethod ov m pl)
     callWith pos f first (backTo pos (starEach [] X.env)) (backToKw pos (keywordEach [] X.env))):=by rfl) :
   PE X (.Call (.Attribute o m apos) [] [] pos) (Zaf C m sp [] E0 ta XU):=by
 obtain ⟨f,fd,F,b,q⟩:=D
 exact Zey he c q F hr b .nil UL ht
end
end L2
set_option maxHeartbeats 2000000
namespace L2
open PySem PySem.Spec PyProof.Rows
def Ur (K:PySem.W.Frag)(a:Addr):It :=
 ⟨fun i H=>∃ xs x,SqL K H a xs∧xs[i]?=some x,fun i H v H'=>∃ t x,H t=none∧(∀ xs,SqL K H a xs→xs[i]?=some x)∧v=.ref t∧H'=upd H t (.tup [.int (i:Int),x]),fun i H=>∃ xs,SqL K H a xs∧xs.length≤i⟩
theorem ZcS {P:Program}{w:World}{K:PySem.W.Frag}{elts:List Expr}{x1:Nat}{tp:Pos}(a e it:Addr)(hne:e≠it)(hai:a≠it)(hae:a≠e) :
   WP P w K (.Tuple elts x1 tp) (Ur K a) [e,it] e (fun i h=>(∃ old,IsEnum h e it (i:Int) old)∧h.IsListIter it a i) where
 mem:=by simp
 obj:=fun i h st b hb=>by
   obtain ⟨⟨old,he⟩,⟨o,ho,c,d⟩⟩:=st
   rcases List.mem_cons.mp hb with q | hb
   · rw [q];exact ⟨_,he,fun v z=>by cases z⟩
   · rw [List.mem_singleton.mp hb];exact ⟨o,ho,fun v z=>by rw [d] at z;cases z⟩
 keep:=fun i h h' st k=>by
   obtain ⟨⟨old,he⟩,st⟩:=st
   exact ⟨⟨old,k e (by simp) _ he⟩,st.at fun o y=>k it (by simp) o y⟩
 item:=by
   intro X hP hw hK hc i pins s σ H E I hf st hg
   subst hP hw hK
   obtain ⟨⟨old,he⟩,hs⟩:=st
   obtain ⟨xs,x,hq,hx⟩:=hg
   obtain ⟨its,rv,p,hz⟩:=I.list hq
   obtain ⟨u,hu,ru⟩:=rv.get hx
   have hlt:i < its.toArray.size:=by
     have:=(List.getElem?_eq_some_iff.mp hu).1
     simpa using this
   have D:=Draws.list (prog:=X.prog) (w:=X.w) (A:=X.A.in1) (I.ok.hd hc) it a hai its.toArray
   refine wpAny_pyNext_enum_itemD (i:=i) D he ⟨hs,p.isList⟩ hlt hne (by simp [hne,Ne.symm hae]) fun v h' tk hP hOut hst hT hsz hk=>?_
   have ev:v=u:=by
     have:its[i]?=some v:=by simpa using hP
     rw [hu] at this;exact (Option.some.inj this).symm
   subst ev
   have hel:e < s.heap.objs.size:=Heap.lt_size he
   have hil:it < s.heap.objs.size:=by obtain ⟨o,ho,_⟩:=hs;exact Heap.lt_size ho
   refine ⟨_,rfl,wpAny_letOwnedTupleGo_enum hOut fun h2 he2 hs2=>?_⟩
   generalize hO:({ cls:=.type "tuple",data:=.seq #[.int ((i:Nat):Int) tk,v] }:Obj)=O at hT
   have I1:Inv X pins σ (upd H s.heap.objs.size (.tup [.int (i:Int),x])) { s with heap:=s.heap.push O,toks:=tk+1 }:=by
     refine I.laid (t':=tk+1) (fun b o y=>Heap.get?_push_of_some _ y) (Nat.le_refl _) (show ObjOk X.prog X.w _ _ _ (.tup _) from ⟨by show 2≤sizeLine;decide,[.int ((i:Nat):Int) tk,v],.cons ⟨tk,rfl⟩ (.cons ru .nil),?_⟩)
     rw [← hO];exact IsTup.new _ _
   have hfree:=I.hok.fresh (Nat.le_refl s.heap.objs.size)
   have hf2:∀ b∈[e,it],YC X pins (upd H s.heap.objs.size (.tup [.int (i:Int),x])) b:=fun b hb=>by
     obtain ⟨f0,f1⟩:=hf b hb
     have hb':b≠s.heap.objs.size:=by
       rcases List.mem_cons.mp hb with q | hb
       · rw [q];exact Nat.ne_of_lt hel
       · rw [List.mem_singleton.mp hb];exact Nat.ne_of_lt hil
     exact ⟨by rw [Zb hb'];exact f0,f1⟩
   have I2:Inv X pins σ (upd H s.heap.objs.size (.tup [.int (i:Int),x])) { s with heap:=h2,toks:=tk+1 }:=by
     refine I1.turned2 (t':=tk+1) (h':=h2) (fun b o hb y=>?_) hf2
     have hbe:b≠e:=fun q=>hb (by simp [q])
     have hbi:b≠it:=fun q=>hb (by simp [q])
     rw [hs2.2 b hbe]
     rcases Heap.get?_push_cases y with ⟨q1,q2⟩ | y
     · rw [q1,q2];exact hT
     · exact hk b o hbe hbi y
   refine ⟨.ref s.heap.objs.size,_,I2,rfl,⟨s.heap.objs.size,x,hfree,fun ys hy=>by rw [I.list_inj hy hq];exact hx,rfl,rfl⟩,⟨⟨_,he2⟩,?_⟩,fun b hb=>(hf2 b hb).1⟩
   exact hst.1.at fun o y=>by rw [hs2.2 it hne.symm];exact y
 done:=by
   intro X hP hw hK hc i pins s σ H E I hf st hg
   subst hP hw hK
   obtain ⟨⟨old,he⟩,hs⟩:=st
   obtain ⟨xs,hq,hle⟩:=hg
   obtain ⟨its,rv,p,hz⟩:=I.list hq
   have hl:=rv.length
   obtain ⟨f0,f1,f2,f3,f4,f5⟩:=hf it (by simp)
   exact wpAny_pyNext_enum_end (I.ok.hd hc) he hs p.isList (by simp;omega) fun h' eb=>⟨rfl,I.turned (t':=s.toks) (fun b o hb y=>eb b o hb y) f0 f1 f3 f4 f5⟩
 self:=fun _ _ _ _ _ st h=>by
   obtain ⟨⟨old,he⟩,_⟩:=st
   exact wpAny_pyIter_enum he h
def Zhh (K:PySem.W.Frag)(tl:TE):TI:=fun σ H R=>tl σ H fun v H1=>∃ a xs,[v]=[V.ref a]∧H1 a=some (.lst xs)∧R (Ur K a) H1
section
variable {X:Cx}
theorem Zaw {l:Expr}{tl:TE}{elts:List Expr}{x1:Nat}{tp p pos:Pos}(hg:Gl X "enumerate")(hm:X.mg "enumerate"=none)(hl:PE X l tl)
   (he:starEach [l] X.env=[(false,eval l X.env)]:=by rfl):PI X (.Tuple elts x1 tp) (.Call (.Name "enumerate" p) [l] [] pos) (Zhh X.K tl):=by
 intro pins s σ H R I h
 have ha:PA X [l] (Xa tl XU):=ZS hl Za he
 refine wpAny_Call_Name_kw (XI I hg hm boot_enumerate ?_)
 refine PyProof.Rows.callWith_type1 (Zm (ha pos pins s σ H (fun vs H1=>∃ a xs,vs=[V.ref a]∧H1 a=some (.lst xs)∧R (Ur X.K a) H1) I h) fun us s1 ⟨vs,H1,I1,r1,a,xs,e,ea,q⟩=>?_) he rfl
 subst e
 obtain ⟨u,rfl,r⟩:=YN r1
 cases r
 obtain ⟨z,its,n,rv,hll,eo⟩:=I1.lstM ea
 have hal:a < s1.heap.objs.size:=Heap.lt_size eo
 refine call_enumerate_1 eo fun h' hE hit hsz hkk=>wpAny_pyIter_enum hE ?_
 refine ⟨s1.heap.objs.size+1,[s1.heap.objs.size+1,s1.heap.objs.size],_,_,H1,rfl,I1.kept (t':=s1.toks) hkk,ZcS a _ _ (Nat.succ_ne_self _) (Nat.ne_of_lt hal) (Nat.ne_of_lt (Nat.lt_succ_of_lt hal)),⟨⟨_,hE⟩,hit⟩,fun b hb=>?_,q⟩
 rcases List.mem_cons.mp hb with z | hb
 · rw [z];exact I1.fpOk (Nat.le_succ _) (I1.hok.fresh (Nat.le_succ _))
 · rw [List.mem_singleton.mp hb];exact I1.fpOk (Nat.le_refl _) (I1.hok.fresh (Nat.le_refl _))
end
theorem Zbm {K:PySem.W.Frag}{a:Addr}{xs:List V}{g:TG}{tc:TT}{te:TE}{σ:St}{D:Addr}{Q:VK}{H:Hp}(hn:xs.length≤sizeLine)(Pv:Nat→List V→Hp→Prop)(h0:Pv 0 [] (upd H D (.lst [])))
   (hl:∀ i ys H,Pv i ys H→ys.length≤i∧SqL K H a xs)
   (hs:∀ i x t ys H wa wb,xs[i]?=some x→H t=none→Pv i ys H→g (.ref t) (σ++[wa,wb]) (upd H t (.tup [.int (i:Int),x])) fun σ' H'=>(∃ wa wb,σ'=σ++[wa,wb])∧tc σ' H' fun b H3=>if b=true then te σ' H3 fun y H4=>H4 D=some (.lst ys)∧Pv (i+1) (ys++[y]) (upd H4 D (.lst (ys++[y]))) else Pv (i+1) ys H3)
   (hd:∀ ys H,Pv xs.length ys H→Q (.ref D) H):CompVT (Ur K a) g tc te σ D Q H:=by
 refine ⟨fun i m ys H=>m=xs.length - i∧i≤xs.length∧Pv i ys H,⟨xs.length,by simp,Nat.zero_le _,h0⟩,?_⟩
 rintro i m ys H2 ⟨rfl,hi,p⟩
 obtain ⟨hlen,q⟩:=hl i ys _ p
 by_cases hlt:i < xs.length
 · refine .inr ⟨⟨xs,xs[i],q,by simp [hlt]⟩,_,_,fun y H4 (q:H4 D=some (.lst ys)∧Pv (i+1) (ys++[y]) (upd H4 D (.lst (ys++[y]))))=>⟨q.1,by omega,xs.length - (i+1),by omega,rfl,hlt,q.2⟩,fun H4 (q:Pv (i+1) ys H4)=>⟨xs.length - (i+1),by omega,rfl,hlt,q⟩,fun wa wb v H3 y=>?_⟩
   obtain ⟨t,x,e1,e2,e3,e4⟩:=y
   subst e3 e4
   exact hs i x t ys _ wa wb (e2 xs q) e1 p
 · have e:i=xs.length:=by omega
   subst e
   exact .inl ⟨⟨xs,q,Nat.le_refl _⟩,hd ys H2 p⟩
end L2
set_option maxHeartbeats 2000000
namespace L2
open PySem PySem.Spec PyProof.Rows
def ZiZ (i j k:Nat)(ta:TA):TS:=fun D σ H=>ta σ H fun vs H1=>∃ u v w,vs=[u,v,w]∧D.nx (((σ.set i (some u)).set j (some v)).set k (some w)) H1
theorem ZgT {X:Cx}{pos:Pos}{i j k:Nat}{x y z:Str}{a b c:Expr}{ta:TA}{px py pz pt:Pos}{kt k2 pt2}(hc:X.calm=true)(hN:X.N.Nodup)(hi:X.N[i]?=some x)(hj:X.N[j]?=some y)(hk:X.N[k]?=some z)(hij:i≠j)(hik:i≠k)(hjk:j≠k)
   (hx:X.env.scope.names.lookup x=some .local) (hy:X.env.scope.names.lookup y=some .local) (hz:X.env.scope.names.lookup z=some .local) (ha:PA X [a,b,c] ta)
   (hw:swappedStores [.Tuple [.Name x px,.Name y py,.Name z pz] kt pt] (.Tuple [a,b,c] k2 pt2) X.env=pure (some [x,y,z]))
   (hs:swapsWithSole [.Tuple [.Name x px,.Name y py,.Name z pz] kt pt] (.Tuple [a,b,c] k2 pt2) pos.line X.env=pure false:=by rfl) :
   PS X (.Assign [.Tuple [.Name x px,.Name y py,.Name z pz] kt pt] (.Tuple [a,b,c] k2 pt2) pos) (ZiZ i j k ta):=by
 intro pins s σ H D I h
 rw [exec_Assign_arm]
 refine wpAny_bind (wpAny_standAt ?_)
 rw [hs]
 refine wpAny_bind (wpAny_pure ?_)
 rw [if_neg (by decide)]
 refine wpAny_bind (Tuple_ (Zm (ha _ pins s σ H _ I h) fun us s1 ⟨vs,H1,I1,r1,q1⟩=>?_))
 obtain ⟨v1,v2,v3,e1,q1⟩:=q1
 subst e1
 obtain ⟨u1,u2,u3,rfl,rv1,rv2,rv3⟩:∃ u1 u2 u3,us=[u1,u2,u3]∧RelV v1 u1∧RelV v2 u2∧RelV v3 u3:=by
   cases r1 with
   | cons p q =>
     cases q with
     | cons p' q' =>
       cases q' with
       | cons p'' q'' =>
         cases q''
         exact ⟨_,_,_,rfl,p,p',p''⟩
 refine wpAny_newObj_type ?_ (by show 3≤sizeLine;decide)
 have I2:Inv X pins σ H1 { s1 with heap:=s1.heap.push { cls:=.type "tuple",data:=.seq [u1,u2,u3].toArray } }:=I1.kept (t':=s1.toks) fun b o e=>Heap.get?_push_of_some _ e
 rw [hw]
 refine wpAny_bind (wpAny_pure ?_)
 show wpAny (model X.prog X.w) X.A (do rule "assign.swapped-stores";let items ← unpackItems (.ref s1.heap.objs.size) 3 none;assignInOrder [fun v=>bindName X.env z v,fun v=>bindName X.env y v,fun v=>bindName X.env x v] items.reverse;pure Flow.next) _ _ _
 refine wpAny_bind (wpAny_rule (wpAny_bind (unpackItems_tuple (items:=#[u1,u2,u3]) (I.ok.hd hc) (IsTup.new s1.heap _) fun h' hx'=>?_)))
 have I3:=I2.kept (h':=h') (t':=s1.toks) fun b o e=>hx' b o (Nat.ne_of_lt (Heap.lt_size e)) e
 show wpAny _ _ (assignInOrder [fun v=>bindName X.env z v,fun v=>bindName X.env y v,fun v=>bindName X.env x v] [u3,u2,u1] >>= fun _=>pure Flow.next) _ _ _
 refine wpAny_bind (assignInOrder_cons (wpAny_bindName (YD I3 hN hk (.inl hz) rv3 (fun s2 I4=>?_) (.inr hz))))
 refine assignInOrder_cons (wpAny_bindName (YD I4 hN hj (.inl hy) rv2 (fun s3 I5=>?_) (.inr hy)))
 refine assignInOrder_cons (wpAny_bindName (YD I5 hN hi (.inl hx) rv1 (fun s4 I6=>assignInOrder_nil (wpAny_pure ?_)) (.inr hx)))
 rw [List.set_comm _ _ (Ne.symm hjk),List.set_comm _ _ (Ne.symm hik),List.set_comm _ _ (Ne.symm hij)] at I6
 exact ⟨_,H1,I6,q1⟩
end L2
set_option maxHeartbeats 2000000
namespace L2
open PySem PySem.Spec PyProof.Rows
section
variable {X:Cx}
end
end L2
set_option maxHeartbeats 2000000
namespace L2
open PySem
theorem Sep.newE {Δ:Rs}{H H2:Hp}{o:HO}(S:Sep Δ H){p:Addr}(hp:H p=none)(e:upd H p o=H2):Sep ((p,Pt o)::Δ) H2:=e ▸ S.new hp o
theorem Sep.putE {Δ Δ':Rs}{H H2:Hp}{o o':HO}{a:Addr}(S:Sep Δ H)(e:upd H a o'=H2)[P:Pull a Δ (Pt o) Δ'](m:YB o=true:=by rfl):Sep ((a,Pt o')::Δ') H2:=e ▸ S.put a o' m
theorem Zby {lo:Int}{n:Nat}{te:TE}{σ:St}{D:Addr}{Q:VK}{H:Hp}{Δ:Rs}(hn:n≤sizeLine)(S:Sep Δ H)(hD:H D=none)(J:Nat→List V→Rs→Prop)(h0:J 0 [] Δ)
   (hs:∀ i ys Δ H,i < n→ys.length=i→J i ys Δ→Sep ((D,ZN ys)::Δ) H→te (σ++[some (.int (lo+i))]) H fun y H4=>∃ Δ',J (i+1) (ys++[y]) Δ'∧Sep ((D,ZN ys)::Δ') H4)
   (hd:∀ ys Δ H,J n ys Δ→ys.length=n→Sep ((D,ZN ys)::Δ) H→Q (.ref D) H):CompW (Vf lo n) te σ D Q H:=by
 refine ⟨fun i m ys H=>m=n - i∧i≤n∧ys.length=i∧∃ Δ,J i ys Δ∧Sep ((D,ZN ys)::Δ) H,⟨n,by simp,Nat.zero_le _,rfl,Δ,h0,S.new hD _⟩,?_⟩
 rintro i m ys H2 ⟨rfl,hi,hl,Δ,j,S⟩
 by_cases hlt:i < n
 · refine .inr ⟨hlt,_,fun y H4 (q:∃ Δ',J (i+1) (ys++[y]) Δ'∧Sep ((D,ZN ys)::Δ') H4)=>?_,fun v H3 y=>?_⟩
   · obtain ⟨Δ',j',S'⟩:=q
     exact ⟨S'.get D,by omega,n - (i+1),by omega,rfl,hlt,by simp [hl],Δ',j',S'.put D _⟩
   · obtain ⟨e1,e2⟩:=y
     subst e1 e2
     exact hs i ys Δ _ hlt hl j S
 · have e:i=n:=by omega
   exact .inl ⟨by show n≤i;omega,hd ys Δ H2 (e ▸ j) (by omega) S⟩
end L2
set_option maxHeartbeats 2000000
namespace L2
open PySem
def Vb (x:Str):Prop:=1≤x.length∧x.length≤8∧x.cps.toList.all WK=true
theorem ZY (c:Nat):(⟨#[c]⟩:Str).length=1:=rfl
theorem ZaA {P:Nat→Bool}:∀{l:List Str},(∀ z∈l,∃ c,z=⟨#[c]⟩∧P c=true)→(l.map (·.length)).sum=l.length∧(l.flatMap (·.cps.toList)).length=l.length∧(l.flatMap (·.cps.toList)).all P=true
 | [],_=>⟨rfl,rfl,rfl⟩
 | z :: r,h=>by
   obtain ⟨c,rfl,hc⟩:=h z List.mem_cons_self
   obtain ⟨g1,g2,g3⟩:=ZaA (l:=r) fun y hy=>h y (List.mem_cons_of_mem _ hy)
   refine ⟨?_,?_,?_⟩
   · rw [List.map_cons,List.sum_cons,g1,List.length_cons];show 1+_=_;omega
   · have e0:((⟨#[c]⟩:Str)::r).flatMap (·.cps.toList)=c::r.flatMap (·.cps.toList):=rfl
     rw [e0,List.length_cons,List.length_cons,g2]
   · rw [List.flatMap_cons,List.all_append,g3];simp [hc]
theorem ZdV {P:Nat→Bool}{zs:List Str}(h:∀ z∈zs,∃ c,z=⟨#[c]⟩∧P c=true):(zs.map (·.length)).sum+zs.length * (Str.ofString "").length≤2 * zs.length∧(Txt.join (Str.ofString "") zs).length=zs.length∧(Txt.join (Str.ofString "") zs).cps.toList.all P=true:=by
 obtain ⟨g1,g2,g3⟩:=ZaA h
 refine ⟨?_,?_,?_⟩
 · rw [g1];show _+_ * 0≤_;omega
 · rw [ZT,Xr,g2]
 · rw [Xr];exact g3
theorem Xx {P:Nat→Bool}{x y:Str}(h1:x.cps.toList.all P=true)(h2:y.cps.toList.all P=true):(x++y).cps.toList.all P=true:=by
 rw [VX,List.all_append,h1,h2];rfl
theorem Wt {P:Nat→Bool}{c:Nat}(h:P c=true):(⟨#[c]⟩:Str).cps.toList.all P=true:=by
 show [c].all P=true;simp [h]
theorem Wo {P:Nat→Bool}{x:Str}{lo hi:Option Int}(h:x.cps.toList.all P=true):(Txt.slice x lo hi).cps.toList.all P=true:=by
 rw [Xi]
 rw [List.all_eq_true] at h ⊢
 exact fun c hc=>h c (List.mem_of_mem_drop (List.mem_of_mem_take hc))
theorem ZdS {x:Str}{k:Int}(h0:0≤k)(h1:k≤x.length):(Txt.slice x none (some k)).length+(Txt.slice x (some k) none).length=x.length:=by
 have hn:¬ k < 0:=by omega
 rw [ZT,ZT,Xi,Xi,ZT]
 rw [ZT] at h1
 have e1:HT.sIx x.cps.toList.length 0 none=0:=rfl
 have e2:HT.sIx x.cps.toList.length x.cps.toList.length none=x.cps.toList.length:=rfl
 have e3:∀ d,HT.sIx x.cps.toList.length d (some k)=k.toNat:=fun d=>by
   unfold HT.sIx
   simp only [hn,if_false]
   omega
 rw [e1,e2,e3,e3,List.length_take,List.length_take,List.length_drop,List.length_drop]
 omega
theorem Vr {x:Str}{P:Nat→Bool}(ha:x.cps.toList.all P=true){r:Int}(h0:0≤r)(h1:r < x.length):∃ c,Yg x.cps.toList r=some c∧P c=true:=by
 have hl:r.toNat < x.cps.toList.length:=by rw [← ZT];omega
 exact ⟨_,Zdo h0 (List.getElem?_eq_getElem hl),List.all_eq_true.mp ha _ (List.getElem_mem hl)⟩
def a26:Str:="abcdefghijklmnopqrstuvwxyz"
theorem Xv:a26.length=26:=by decide +kernel
theorem Vk:a26.cps.toList.all WK=true:=by decide +kernel
theorem Zgk {xs:List V}{r:Int}(h0:0≤r)(h1:r < (xs.length:Int)):∃ x∈xs,Yg xs r=some x:=by
 have hl:r.toNat < xs.length:=by omega
 exact ⟨_,List.getElem_mem hl,Zdo h0 (List.getElem?_eq_getElem hl)⟩
theorem Sep.le {Δ:Rs}{H:Hp}{p:Addr}{n m:Nat}(S:Sep ((p,Bx n)::Δ) H)(h:n≤m):Sep ((p,Bx m)::Δ) H:=by
 obtain ⟨g,l,r,S⟩:=S
 exact ⟨g,l,BoxAt.le r h,S⟩
def Uw:Sp:=fun vs H Q _=>∃(p:Addr)(n:Nat)(Δ:Rs),vs=[.ref p]∧Sep ((p,Bx n)::Δ) H∧n≤900000∧∀(v:V)(H':Hp),ZcQ v→Sep ((p,Bx (n+50))::Δ) H'→Q v H'
theorem Zgq {vs:List V}{H:Hp}{Q:VK}{E:XK}(h:Uw vs H Q E):ZbQ vs H Q E:=by
 obtain ⟨p,n,Δ,e,S,h1,q⟩:=h
 exact ⟨p,n,e,S.get p,h1,fun v H' hv B k=>q v H' hv (S.box k B)⟩
def Zbf (K:PySem.W.Frag):Sp:=fun vs H Q _=>∃(a:Addr)(ns:List Int)(k:Int)(Δ:Rs),vs=[.ref a,.int k]∧SqL K H a (ns.map V.int)∧Sep Δ H∧0≤k∧k≤1000∧∀(p:Addr)(H':Hp),Same H H'→Sep ((p,Bx 0)::Δ) H'→Q (.ref p) H'
theorem Ziu {K:PySem.W.Frag}{vs:List V}{H:Hp}{Q:VK}{E:XK}(h:Zbf K vs H Q E):ZfQ K vs H Q E:=by
 obtain ⟨a,ns,k,Δ,e,hS,S,h1,h2,q⟩:=h
 refine ⟨a,ns,k,e,hS,h1,h2,fun p H' hp B s=>q p H' s ?_⟩
 obtain ⟨x,y,z,eb,w⟩:=B
 exact (S.made s hp eb).say p (Bx 0) fun h r=>⟨x,y,z,r,w⟩
theorem Vm {x:Str}{ys:List Str}:inV (.str x) (ys.map V.str)=decide (x∈ys):=by
 unfold inV
 induction ys with
 | nil=>rfl
 | cons y ys ih =>
   rw [List.map_cons,List.any_cons,ih]
   show ((y == x) || decide (x∈ys))=decide (x∈y::ys)
   by_cases h:y=x
   · subst h;simp
   · rw [show (y == x)=false from beq_eq_false_iff_ne.mpr h,Bool.false_or]
     congr 1
     simp [List.mem_cons,Ne.symm h]
inductive Stp where
 | set (x:Str) (v:V)
 | clr (x:Str)
def Stp.vs:Stp→List V
 | .set x v=>[.str "set",.str x,v]
 | .clr x=>[.str "clear",.str x]
class IsLst (R:Yi) (k:Nat):Prop where
 lst:∀ {a h},R a h→∃ xs,h a=some (.lst xs)∧xs.length=k
end L2
set_option maxHeartbeats 2000000
namespace L2
open PySem
def Sto (K:PySem.W.Frag)(C:Addr)(nds:List Nd)(tabs:List (Zo×V)):Yi:=fun st h=>nds[0]?=some .bare∧∃ ln dt,StoreAt K C st ln dt h nds tabs
instance {K:PySem.W.Frag} {C:Addr} {nds:List Nd} {tabs:List (Zo×V)}:Up (Sto K C nds tabs):=⟨fun ⟨h0,ln,dt,h⟩ s=>⟨h0,ln,dt,h.keep s⟩⟩
def some_of (H:Hp)(L:List Addr):Hp:=fun b=>if b∈L then H b else match H b with
 | some o=>if YB o=true then none else some o
 | none=>none
theorem Zcb {H:Hp}{L:List Addr}:Same (some_of H L) H:=fun b o e=>by
 unfold some_of at e
 split at e
 · exact e
 · split at e
   · rename_i o' h'
     split at e
     · cases e
     · cases e;exact h'
   · cases e
theorem VA {H:Hp}{L:List Addr}{b:Addr}(h:b∈L):some_of H L b=H b:=by unfold some_of;rw [if_pos h]
theorem Vz {H:Hp}{L:List Addr}{b:Addr}{o:HO}(e:H b=some o)(m:YB o=false):some_of H L b=some o:=by
 unfold some_of
 split
 · exact e
 · simp only [e,m,Bool.false_eq_true,if_false]
theorem ZaI {H:Hp}{L:List Addr}{b:Addr}{o:HO}(e:some_of H L b=some o)(m:YB o=true):b∈L:=by
 unfold some_of at e
 split at e
 · assumption
 · split at e
   · split at e
     · cases e
     · rename_i h;cases e;exact absurd m h
   · cases e
theorem ZgL {H:Hp}{L:List Addr}:TF H (some_of H L):=⟨fun b xs e=>Vz e rfl,fun b o u e=>Vz e rfl⟩
def Yt (C:Addr)(fs:List (Str×V)):Yi:=fun a h=>∃ dx,h a=some (.ins C dx fs)
instance {C:Addr} {fs:List (Str×V)}:Up (Yt C fs):=⟨fun ⟨dx,h⟩ s=>⟨dx,s _ _ h⟩⟩
end L2
set_option maxHeartbeats 4000000
namespace K45
open PySem L2
section
variable {P:Program}{w:World}{K:PySem.W.Frag}{mg:Str→Option Value}{base:Heap}{C Pl:Addr}{NS:List Str}
def Vl (K:PySem.W.Frag)(C:Addr):Sp:=fun vs H Q _=>∃(p dx:Addr)(H0:Hp)(Δ:Rs),vs=[.ref p]∧H=upd (upd H0 dx (.own p)) p (.ins C dx [])∧H0 p=none∧H0 dx=none∧dx≠p∧Sep Δ H0∧∀ H',Same H0 H'→Sep ((p,Sto K C [.bare] [(Sum.inl 0,.bl true)])::Δ) H'→Q .non H'
theorem ZhE {vs:List V}{H:Hp}{Q:VK}{E:XK}(h:Vl K C vs H Q E):ZdM K C vs H Q E:=by
 obtain ⟨p,dx,H0,Δ,e,rfl,h1,h2,h3,S,q⟩:=h
 refine ⟨p,dx,e,Zf,fun ln dt H' hln hdt SA kq=>?_⟩
 have sH:Same H0 (upd (upd H0 dx (.own p)) p (.ins C dx [])):=(Zk h2 _).trans (Zk (by rw [Zb h3.symm];exact h1) _)
 have s0:Same H0 H':=fun b o e=>kq b o (by simp only [List.mem_singleton];exact Zq e h1) (sH b o e)
 refine q H' s0 ?_
 have n1:=WN sH hln
 have n2:=WN sH hdt
 obtain ⟨dx',ob⟩:=SA.ob
 obtain ⟨as,nl,nlen,nod⟩:=SA.nl
 refine ⟨some_of H' [p,ln,dt],Zcb,⟨rfl,ln,dt,⟨⟨dx',by rw [VA (by simp)];exact ob⟩,⟨as,by rw [VA (by simp)];exact nl,nlen,fun i a n e1 e2=>(nod i a n e1 e2).tf ZgL⟩,by rw [VA (by simp)];exact SA.tb⟩⟩,S.mono fun b o e=>cut_some.mpr ⟨s0 _ _ e,fun u z=>?_⟩⟩
 cases m:YB u with
 | false=>rfl
 | true =>
   have:=ZaI z m
   simp only [List.mem_cons,List.not_mem_nil,or_false] at this
   rcases this with z | z | z
   · exact absurd z (Zq e h1)
   · exact absurd z (Zq e n1)
   · exact absurd z (Zq e n2)
def ZbA (K:PySem.W.Frag)(C:Addr):Sp:=fun vs H Q _=>∃ v,vs=[v]∧Q (.int 0) H
theorem scEm:Zs ["self"] ["self"] (Zj c_Store_empty):=⟨rfl,rfl,rfl,by decide +kernel,rfl,by decide +kernel,by decide +kernel⟩
theorem ZeZ {f:Addr}{fd:FuncData}(F:Fun K "empty" "Store.empty" c_Store_empty f fd)(T:Txt K mg):FnOk P w K mg base ZU 1 f fd ["self"] (ZbA K C):=by
 refine F.ok scEm (fun vs H Q E h=>?_) (fun cdv A outer s H vs Q E hr h=>?_)
 · obtain ⟨v,rfl,_⟩:=h;rfl
 obtain ⟨v,rfl,q⟩:=h
 obtain ⟨tz,hz⟩:=T.zero
 exact ⟨_,Zi (Zv (Ym rfl hz (v:=.int 0) ⟨_,rfl⟩)),q⟩
end
end K45
set_option maxHeartbeats 2000000
namespace L2
open PySem
structure Plc where
 ah:Nat
 st:Stp
 tb:Nat
 co:Nat
def Zfg (ss:List Stp):Yi:=fun l h=>∃ as:List Addr,h l=some (.lst (V.non::as.map V.ref))∧as.length=ss.length∧∀(i:Nat)(a:Addr)(s:Stp),as[i]?=some a→ss[i]?=some s→h a=some (.tup s.vs)
abbrev rFl (st la ls lt lc:Addr):List (Str×V):=[("kept",.ref st),("aheads",.ref la),("steps",.ref ls),("tables",.ref lt),("costs",.ref lc)]
abbrev RoaL (K:PySem.W.Frag)(CR CS:Addr)(pls:List Plc)(nds:List Nd)(tabs:List (Zo×V))(r st la ls lt lc:Addr):Rs :=
 [(r,Yt CR (rFl st la ls lt lc)),(st,Sto K CS nds tabs),(la,ZN (V.non::pls.map fun q=>V.int (q.ah:Int))),(ls,Zfg (pls.map (·.st))),(lt,ZN (V.int 0::pls.map fun q=>V.int (q.tb:Int))),(lc,ZN (V.int 0::pls.map fun q=>V.int (q.co:Int)))]
def Roa (K:PySem.W.Frag)(CR CS:Addr)(pls:List Plc)(nds:List Nd)(tabs:List (Zo×V)):Yi:=fun r h=>∃ st la ls lt lc,Sep (RoaL K CR CS pls nds tabs r st la ls lt lc) h
theorem Sep.roaC {K:PySem.W.Frag}{CR CS r st la ls lt lc:Addr}{pls:List Plc}{nds:List Nd}{tabs:List (Zo×V)}{Δ:Rs}{H:Hp}(S:Sep ((r,Yt CR (rFl st la ls lt lc))::(st,Sto K CS nds tabs)::(la,ZN (V.non::pls.map fun q=>V.int (q.ah:Int)))::(ls,Zfg (pls.map (·.st)))::(lt,ZN (V.int 0::pls.map fun q=>V.int (q.tb:Int)))::(lc,ZN (V.int 0::pls.map fun q=>V.int (q.co:Int)))::Δ) H):Sep ((r,Roa K CR CS pls nds tabs)::Δ) H :=
 Sep.pack (Γ:=RoaL K CR CS pls nds tabs r st la ls lt lc) S fun h G=>⟨st,la,ls,lt,lc,G⟩
end L2
set_option maxHeartbeats 4000000
namespace K45
open PySem L2
structure TxtR (K:PySem.W.Frag)(CR:Addr):Prop where
 cl:Cls K CR
 nk:NoAttr K CR "kept"
 na:NoAttr K CR "aheads"
 ns:NoAttr K CR "steps"
 nt:NoAttr K CR "tables"
 nc:NoAttr K CR "costs"
section
variable {P:Program}{w:World}{K:PySem.W.Frag}{mg:Str→Option Value}{base:Heap}{CR CS Pl:Addr}{NS:List Str}
end
end K45
set_option maxHeartbeats 4000000
namespace K45
open PySem L2
section
variable {P:Program}{w:World}{K:PySem.W.Frag}{mg:Str→Option Value}{base:Heap}{CR CS Pl:Addr}{NS:List Str}
end
end K45
set_option maxHeartbeats 4000000
namespace K45
open PySem L2
section
variable {P:Program}{w:World}{K:PySem.W.Frag}{mg:Str→Option Value}{base:Heap}{CR CS Pl:Addr}
end
end K45
set_option maxHeartbeats 4000000
namespace K45
open PySem L2
section
variable {P:Program}{w:World}{K:PySem.W.Frag}{mg:Str→Option Value}{base:Heap}{CR CS Pl:Addr}
def ZbT (K:PySem.W.Frag)(CR CS:Addr):Sp:=fun vs H Q _=>∃(r dx:Addr)(H0:Hp)(Δ:Rs),vs=[.ref r]∧H=upd (upd H0 dx (.own r)) r (.ins CR dx [])∧H0 r=none∧H0 dx=none∧dx≠r∧Sep Δ H0∧∀ H',Sep ((r,Roa K CR CS [] [.bare] [(Sum.inl 0,.bl true)])::Δ) H'→Q .non H'
abbrev nRIn:List Str:=["self"]
abbrev ZfS:List Str:=["self"]
theorem ZiR:Zs nRIn ZfS (Zj c_Roads___init__):=⟨rfl,rfl,rfl,by decide +kernel,rfl,by decide +kernel,by decide +kernel⟩
theorem Zfi {f:Addr}{fd:FuncData}(F:Fun K "__init__" "Roads.__init__" c_Roads___init__ f fd)(T:Ye mg)(TR:TxtR K CR)(TC:ZeN K CS)(DSto:WJ P w K mg base 1 CS "Store" ["self"] (Vl K CS))(DS_empty:DefM P w K mg base 2 CS "empty" ["self"] (ZbA K CS)):FnOk P w K mg base ZU 3 f fd ZfS (ZbT K CR CS):=by
 refine F.ok ZiR (fun vs H Q E h=>?_) (fun cdv A outer s H vs Q E hr h=>?_)
 · obtain ⟨r,dx,H0,Δ,rfl,_⟩:=h;rfl
 obtain ⟨r,dx,H0,Δ,rfl,rfl,h1,h2,h3,S0,q⟩:=h
 have S:=((S0.new h2 (.own r)).new (p:=r) (by rw [Zb h3.symm];exact h1) (.ins CR dx [])).drop dx
 generalize upd (upd H0 dx (.own r)) r (.ins CR dx [])=H at *
 refine' ⟨?t,?h,?r⟩
 case h =>
   conv=>arg 2;whnf
   with_reducible refine' (Zg ?h1 (Zg ?h2 (Zg ?h3 (Zg ?h4 (Zi ?h5)))))
   case h1=>exact ZW (pv 0) (Zae DSto hr) rfl
   case h2=>exact ZW (pv 0) (Zy (Zd YM Za)) rfl
   case h3=>exact ZW (pv 0) (Zy (Zd YM Za)) rfl
   case h4=>exact ZW (pv 0) (Zy (Zd (Zag DS_empty TC.cl hr (Ys (pv 0) rfl)) Za)) rfl
   case h5=>exact ZW (pv 0) (Zy (Zd Ze Za)) rfl
 intro st dx2 hst hdx2 hne
 refine ⟨st,dx2,_,_,rfl,rfl,hst,hdx2,hne,S,fun H1 _ S1=>⟨rfl,?_⟩⟩
 refine ⟨_,rfl,r,CR,dx,_,rfl,S1.get r,TR.cl,TR.nk,(by show 0 < 1000;decide),?_⟩
 generalize hE:upd H1 r _=H2
 have S2:=S1.putE hE
 clear hE
 refine ⟨(by show 1≤sizeLine;decide),fun la hla=>?_⟩
 generalize hE:upd H2 la _=H3
 have S3:=S2.newE hla hE
 clear hE
 refine ⟨_,rfl,r,CR,dx,_,rfl,S3.get r,TR.cl,TR.na,(by show 1 < 1000;decide),?_⟩
 generalize hE:upd H3 r _=H4
 have S4:=S3.putE hE
 clear hE
 refine ⟨(by show 1≤sizeLine;decide),fun ls hls=>?_⟩
 generalize hE:upd H4 ls _=H5
 have S5:=S4.newE hls hE
 clear hE
 refine ⟨_,rfl,r,CR,dx,_,rfl,S5.get r,TR.cl,TR.ns,(by show 2 < 1000;decide),?_⟩
 generalize hE:upd H5 r _=H6
 have S6:=S5.putE hE
 clear hE
 obtain ⟨b0,ln,dt,SA⟩:=S6.get st
 obtain ⟨dxs,obs⟩:=SA.ob
 refine ⟨_,rfl,r,CR,dx,_,_,rfl,S6.get r,TR.cl,TR.nk,rfl,st,dxs,_,rfl,obs,ZgG ln dt (by decide +kernel) (by decide +kernel),_,rfl,(by show 1≤sizeLine;decide),fun lt hlt=>?_⟩
 generalize hE:upd H6 lt _=H7
 have S7:=S6.newE hlt hE
 clear hE
 refine ⟨_,rfl,r,CR,dx,_,rfl,S7.get r,TR.cl,TR.nt,(by show 3 < 1000;decide),?_⟩
 generalize hE:upd H7 r _=H8
 have S8:=S7.putE hE
 clear hE
 refine ⟨(by show 1≤sizeLine;decide),fun lc hlc=>?_⟩
 generalize hE:upd H8 lc _=H9
 have S9:=S8.newE hlc hE
 clear hE
 refine ⟨_,rfl,r,CR,dx,_,rfl,S9.get r,TR.cl,TR.nc,(by show 4 < 1000;decide),?_⟩
 generalize hE:upd H9 r _=H10
 have S10:=S9.putE hE
 clear hE
 have S11:=S10.say ls (Zfg []) fun h z=>⟨[],z,rfl,fun i a s e=>by simp at e⟩
 have S12:=S11.say r (Yt CR (rFl st la ls lt lc)) fun h z=>⟨dx,z⟩
 have S13:=(((((S12.pull lc).pull lt).pull ls).pull la).pull st).pull r
 exact q _ (Sep.roaC (pls:=[]) S13)
end
end K45
set_option maxHeartbeats 1000000
namespace L2
open PySem PySem.Spec PyProof.Rows
abbrev vMro:List Value:=[.type "ValueError",.type "Exception",.type "BaseException",.type "object"]
inductive VT:List Value→Prop
 | base:VT vMro
 | own {a:Addr} {r:List Value}:VT r→VT (.ref a::r)
def ZcO:List Value→Bool
 | .ref _::r=>ZcO r
 | l=>decide (l=vMro)
theorem VT.of:∀{l:List Value},ZcO l=true→VT l
 | [],h=>nomatch (of_decide_eq_true h:([]:List Value)=vMro)
 | v::r,h=>by cases v<;>first | exact .own (VT.of h) | (have e:=of_decide_eq_true h;rw [e];exact .base)
theorem VT.has {l:List Value}(T:VT l){x:String}{b:Bool}(hb:vMro.contains (.type x)=b):l.contains (.type x)=b:=by
 induction T with
 | base=>exact hb
 | own _ ih=>rw [List.contains_cons,ih];rfl
theorem VT.refuse {l:List Value}(T:VT l)(self:Value):refuseLoop self "__setattr__" l=pure ():=by
 induction T with
 | base=>exact PySem.F.store_ValueError.passes self
 | own _ ih=>rw [refuseLoop_ref];exact ih
def ZaQ (K:PySem.W.Frag)(C:Addr):Bool:=match K.lookup C with
 | some ⟨.type "type",_,.cls cd,sl⟩=>(match cd.mro,sl.toList with
   | .ref C'::bm,[_,_,_,_,some (.builtin n),_]=>C' == C&&!cd.hasDel&&cd.hasDict&&n == "ValueError.__new__"&&ZcO bm
   | _,_=>false)
 | _=>false
theorem Ub {K:PySem.W.Frag}{h:Heap}{C:Addr}(X:K.In h)(q:ZaQ K C=true):∃ nm qn N bs bm sn sub ab col dd k0 k1 k2 k3 k5,
   h.get? C=some (excClassObj nm qn C N bs bm true sn sub ab col dd k0 k1 k2 k3 k5 "ValueError.__new__")∧VT bm:=by
 unfold ZaQ at q
 split at q
 · rename_i dd cd sl ho
   split at q
   · rename_i C' bm k0 k1 k2 k3 n k5 hm hs
     simp only [Bool.and_eq_true,beq_iff_eq,Bool.not_eq_true'] at q
     obtain ⟨⟨⟨⟨rfl,hdel⟩,hdi⟩,rfl⟩,ht⟩:=q
     obtain ⟨nm,bs,mro,ns,qn,hd,sn,sub,ab,col,VR⟩:=cd
     dsimp only at hm hdel hdi
     subst hm hdel hdi
     have hsl:sl=#[k0,k1,k2,k3,some (.builtin "ValueError.__new__"),k5]:=by
       obtain ⟨l⟩:=sl
       simp only at hs
       rw [hs]
     subst hsl
     exact ⟨nm,qn,ns,bs,bm,sn,sub,ab,col,dd,k0,k1,k2,k3,k5,X _ _ ho,.of ht⟩
   · cases q
 · cases q
section
variable {prog:Program}{w:World}{A:Around}{E:Value→Shared→Prop}{h:Heap}{g:Array GenState}{d:Drawn}{t:Nat}{os:OsState}
variable {nm q:Str}{C N:Addr}{bs bm:List Value}{sn:List Str}{sub:List Value}{ab:Bool}{col:Option Bool}{dd:Option Addr}{k0 k1 k2 k3 k5:Option Value}
theorem Zbv {M:Model}(T:VT bm){rest:List Value}{Q:Unit→Shared→Prop}(hC:h.get? C=some (excClassObj nm q C N bs bm true sn sub ab col dd k0 k1 k2 k3 k5 "ValueError.__new__"))
   (hq:Q () ⟨h,g,d,t,os⟩):wpAny M A (checkBuiltinCall "ValueError.__new__" ⟨.ref C::rest,[]⟩) Q E ⟨h,g,d,t,os⟩:=by
 have F:=PySem.F.excBase_ValueError
 have hcont:(Value.ref C::bm).contains (.type "ValueError")=true:=by rw [List.contains_cons,T.has F.hasB,Bool.or_true]
 have hstar:=F.noStar
 simp only [checkBuiltinCall,F.newKind,F.newSplit,F.newRow]
 repeat (first | refine wpAny_loadPart_at hC ?_ | (refine wpAny_isSubtype_exc hC ?_;rw [hcont]) | refine wpAny_staticBase_exc hC ?_ | refine wpAny_madeBy_exc hC ?_ | simp only [bne_self_eq_false,Bool.false_eq_true,if_false] | wp_step)
 exact hq
theorem ZiB {R:Result→Shared→Prop}(T:VT bm){rest:List Value}(hC:h.get? C=some (excClassObj nm q C N bs bm true sn sub ab col dd k0 k1 k2 k3 k5 "ValueError.__new__"))
   (hq:R (.ok (.ret (.ref (h.objs.size+1)))) ⟨(h.push { cls:=.type "tuple",data:=.seq rest.toArray }).push
     { cls:=.ref C,data:=.fields #[.ref h.objs.size,.none,.none,.none,.bool false,.none] },g,d,t,os⟩) (hrest:rest.length≤sizeLine) :
   codeAny (model prog w) A (.builtin "ValueError.__new__" ⟨.ref C::rest,[]⟩) R ⟨h,g,d,t,os⟩:=by
 have F:=PySem.F.excBase_ValueError
 have hends:=F.ends
 have hcB:(Value.ref C::bm).contains (.type "ValueError")=true:=by rw [List.contains_cons,T.has F.hasB,Bool.or_true]
 have hcA:(Value.ref C::bm).contains (.type "AttributeError")=false:=by rw [List.contains_cons,T.has F.noAttr];rfl
 have hcN:(Value.ref C::bm).contains (.type "NameError")=false:=by rw [List.contains_cons,T.has F.noName];rfl
 refine codeAny_builtinAt F.entry ?_
 unfold Builtin.«BaseException.__new__»
 refine PySem.wpAt_bind ?_
 show PySem.wpAt _ _ _ (stack >>= _) _ _ _
 refine PySem.wpAt_bind (PySem.wpAt_stack fun p below=>PySem.wpAt_of_wpAny ?_)
 wp_walk
 refine PySem.wpAt_of_wpAny ?_
 rw [F.owner]
 repeat (first | with_reducible refine wpAny_madeHere_exc F.canon hC ?_ | with_reducible refine wpAny_loadPart_at hC ?_ | (with_reducible refine wpAny_isSubtype_exc hC ?_;first | rw [hcB] | rw [hcA] | rw [hcN]) | wp_step)
 show R _ _
 rw [Heap.size_push]
 exact hq
theorem Zbs (T:VT bm){rest:List Value}{fI:Addr}{oI:Obj}{Q:Fin→Shared→Prop}
   (hC:h.get? C=some (excClassObj nm q C N bs bm true sn sub ab col dd k0 k1 k2 k3 k5 "ValueError.__new__")) (LI:PySem.W.Looks (model prog w) h (typeLookup (.ref C) "__init__") (some (.ref fI)))
   (hfI:h.get? fI=some oI) (hfc:oI.cls=.type "function")
   (hq:∀ h' e,Heap.MadeExcOf h h' e (.ref C) rest→h.objs.size≤e →
     wpAny (model prog w) A (call (.ref fI) (.ref e::rest)) (fun r s'=>r=.none∧Q (.done (.ret (.ref e))) s') E ⟨h',g,d,t,os⟩) (hrest:rest.length≤sizeLine) :
   wpAny (model prog w) A (Builtin.«type.__call__» ⟨.ref C::rest,[]⟩) Q E ⟨h,g,d,t,os⟩:=by
 have F:=PySem.F.excBase_ValueError
 repeat (first | with_reducible refine wpAny_loadPart_at hC ?_ | with_reducible refine wpAny_madeBy_exc hC ?_ | wp_step)
 refine codeAny_call_builtin_code (Code.quiet_builtin _ F.quiet) (Zbv T hC ?_)
 refine ZiB T hC ?_ hrest
 show wpAny _ _ _ _ _ _
 have hC₁:=Heap.get?_push_of_some { cls:=.ref C,data:=.fields #[.ref h.objs.size,.none,.none,.none,.bool false,.none] }
   (Heap.get?_push_of_some { cls:=.type "tuple",data:=.seq rest.toArray } hC)
 have hfI₁:=Heap.get?_push_of_some { cls:=.ref C,data:=.fields #[.ref h.objs.size,.none,.none,.none,.bool false,.none] }
   (Heap.get?_push_of_some { cls:=.type "tuple",data:=.seq rest.toArray } hfI)
 have hget:((h.push { cls:=.type "tuple",data:=.seq rest.toArray }).push
     { cls:=.ref C,data:=.fields #[.ref h.objs.size,.none,.none,.none,.bool false,.none] }).get? (h.objs.size+1)=some
     { cls:=.ref C,data:=.fields #[.ref h.objs.size,.none,.none,.none,.bool false,.none] }:=by heap_get
 have hcC:(Value.ref C::bm).contains (.ref C)=true:=by simp
 unfold isInstance
 repeat (first | with_reducible refine wpAny_loadPart_at hget ?_ | (with_reducible refine wpAny_isSubtype_exc hC₁ ?_;rw [hcC]) | wp_step)
 show wpAny _ _ (typeLookup (.ref C) _) _ _ _
 refine (LI.keeps (h':=(h.push { cls:=.type "tuple",data:=.seq rest.toArray }).push { cls:=.ref C,data:=.fields #[.ref h.objs.size,.none,.none,.none,.bool false,.none] }) fun b o e=>Heap.get?_push_of_some _ (Heap.get?_push_of_some _ e)) _ _ _ _ (fun _ _ e=>e) ?_
 refine wpAny_holding (wpAny_bind ?_)
 unfold bindSpecial
 refine wpAny_bind (wpAny_typeOf (T:="function") ⟨_,hfI₁,hfc⟩ ?_)
 rw [if_pos (by decide)]
 refine wpAny_pure (wpAny_bind (wpAny_mono (hq _ (h.objs.size+1) ⟨fun b o hb=>Heap.get?_push_of_some _ (Heap.get?_push_of_some _ hb),Heap.get?_none_of_le (Nat.le_succ _),h.objs.size,hget,Heap.get?_none_of_le (Nat.le_refl _),?_⟩ (Nat.le_succ _)) (fun r s' hr=>?_) fun _ _ x=>x))
 · exact Heap.get?_push_of_some _ (Heap.get?_push_at rfl rfl)
 · obtain ⟨rfl,hQ⟩:=hr
   wp_walk
   exact hQ
theorem ZhM (T:VT bm){rest:List Value}{fI:Addr}{oI:Obj}{Q:Value→Shared→Prop}
   (hC:h.get? C=some (excClassObj nm q C N bs bm true sn sub ab col dd k0 k1 k2 k3 k5 "ValueError.__new__")) (LI:PySem.W.Looks (model prog w) h (typeLookup (.ref C) "__init__") (some (.ref fI)))
   (hfI:h.get? fI=some oI) (hfc:oI.cls=.type "function")
   (hq:∀ h' e,Heap.MadeExcOf h h' e (.ref C) rest→h.objs.size≤e →
     wpAny (model prog w) (A.under (.builtin "type.__call__" ⟨.ref C::rest,[]⟩)) (call (.ref fI) (.ref e::rest)) (fun r s'=>r=.none∧Q (.ref e) s') E ⟨h',g,d,t,os⟩) (hrest:rest.length≤sizeLine) :
   wpAny (model prog w) A (call (.ref C) rest) Q E ⟨h,g,d,t,os⟩:=by
 have f1:=tc_lookup
 have f2:=tc_bind (.ref C)
 have hT:(⟨h,g,d,t,os⟩:Shared).TypeIs (.ref C) "type":=⟨_,hC,rfl⟩
 refine wpAny_call (codeAny_of_tree ?_)
 show wpAny _ _ (callAny (.ref C) _) _ _ _
 repeat (any_goals (first | assumption | with_reducible refine wpAny_loadPart_at hC ?_ | wp_step))
 refine ⟨rfl,?_⟩
 refine codeAny_call_builtin_at (Code.quiet_builtin _ (by decide +kernel)) entry_typeCall (wpAny_check_type_call_sub hC (Zbs T hC LI hfI hfc (fun h' e hm hle=>?_) hrest))
 exact hq h' e hm hle
theorem ZgW {M:Model}{env:Env}{s:Shared}{x:Sem Value}{Q:Flow→Shared→Prop}(T:VT bm)(hh:A.handled=none)
   (h:wpAny M A x (fun v s₁=>∃ e oe vs,v=.ref e∧s₁.heap.get? C=some (excClassObj nm q C N bs bm true sn sub ab col dd k0 k1 k2 k3 k5 "ValueError.__new__") ∧
     s₁.heap.get? e=some oe∧oe.cls=.ref C∧oe.data=.fields vs∧vs[1]?=some .none∧E (.ref e) s₁) E s) :
   wpAny M A (raiseStmt env (some x) none) Q E s:=by
 have hcB:(Value.ref C::bm).contains (.type "BaseException")=true:=by rw [List.contains_cons,T.has PySem.F.excBase_ValueError.hasBase,Bool.or_true]
 unfold raiseStmt
 refine wpAny_bind (wpAny_mono h (fun v s₁ h₁=>?_) fun _ _ x=>x)
 obtain ⟨e,oe,vs,rfl,hC,he,hcl,hd,h1,hE⟩:=h₁
 obtain ⟨oc,odi,oda,osl⟩:=oe
 dsimp only at hcl hd
 subst hcl hd
 obtain ⟨hp,g,d,tk,os⟩:=s₁
 repeat (first | with_reducible refine wpAny_loadPart_at he ?_ | with_reducible refine wpAny_loadPart_at hC ?_ | (with_reducible refine wpAny_isSubtype_exc hC ?_;rw [hcB]) | with_reducible refine wpAny_field he rfl h1 ?_ | wp_step)
 exact wpAny_raiseNew_none hh hE
end
end L2
set_option maxHeartbeats 1000000
namespace L2
open PySem PySem.Spec PyProof.Rows
section
variable {prog:Program}{w:World}{A:Around}{E:Value→Shared→Prop}{h:Heap}{g:Array GenState}{d:Drawn}{t:Nat}{os:OsState}
variable {nm q:Str}{C N x:Addr}{bs bm:List Value}{sn:List Str}{sub:List Value}{ab:Bool}{col:Option Bool}{dd:Option Addr}{k0 k1 k2 k3 k5:Option Value}{name:Str}{v:Value}{o:Obj}
theorem ZcG {M:Model}{nameV:Value}{Q:Unit→Shared→Prop}(T:VT bm)
   (hC:h.get? C=some (excClassObj nm q C N bs bm true sn sub ab col dd k0 k1 k2 k3 k5 "ValueError.__new__")) (hx:h.get? x=some o) (hc:o.cls=.ref C) (hq:Q () ⟨h,g,d,t,os⟩) :
   wpAny M A (checkBuiltinCall "object.__setattr__" ⟨[.ref x,nameV,v],[]⟩) Q E ⟨h,g,d,t,os⟩:=by
 have SF:=PySem.F.store_ValueError
 have hcB:(Value.ref C::bm).contains (.type "object")=true:=by rw [List.contains_cons,T.has SF.hasOwner,Bool.or_true]
 have ha:=SF.args (.ref x) nameV v
 simp only [checkBuiltinCall,SF.kind,SF.split]
 refine wpAny_bind ?_
 · unfold isInstance
   repeat (first | (with_reducible refine wpAny_loadPart_at hx ?_;rw [hc]) | (with_reducible refine wpAny_isSubtype_exc hC ?_;rw [hcB]) | wp_step)
   exact hq
theorem Zgj {Q:Unit→Shared→Prop}(T:VT bm)(hC:h.get? C=some (excClassObj nm q C N bs bm true sn sub ab col dd k0 k1 k2 k3 k5 "ValueError.__new__"))
   (LS:PySem.W.Looks (model prog w) h (typeLookup (.ref C) "__setattr__") (some (.builtin "object.__setattr__"))) (LN:PySem.W.Looks (model prog w) h (typeLookup (.ref C) name) none)
   (hx:h.get? x=some o) (hc:o.cls=.ref C) (hdn:o.dict=none) (hnc:∀ c,o.data≠.cls c)
   (hq:∀ h' tk',h'.get? x=some { o with dict:=some h.objs.size }→h'.Ns1 h.objs.size (fun y=>if y=name then some v else none)→(∀ b ob,b≠x→h.get? b=some ob→h'.get? b=some ob)→Q () ⟨h',g,d,tk',os⟩) :
   wpAny (model prog w) A (setAttr (.ref x) name v) Q E ⟨h,g,d,t,os⟩:=by
 have SF:=PySem.F.store_ValueError
 have f3:=SF.slot.bind (.ref x)
 unfold setAttr callSpecial? specialOf
 have LS':∀ {tk:Nat} {A:Around} {Q:Option Value→Shared→Prop} {E:Value→Shared→Prop},Q (some (.builtin "object.__setattr__")) ⟨h,g,d,tk,os⟩→wpAny (model prog w) A (typeLookup (.ref C) "__setattr__") Q E ⟨h,g,d,tk,os⟩:=fun q=>LS _ _ _ _ (fun _ _ e=>e) q
 have LN':∀ {tk:Nat} {A:Around} {Q:Option Value→Shared→Prop} {E:Value→Shared→Prop},Q none ⟨h,g,d,tk,os⟩→wpAny (model prog w) A (typeLookup (.ref C) name) Q E ⟨h,g,d,tk,os⟩:=fun q=>LN _ _ _ _ (fun _ _ e=>e) q
 repeat (any_goals (first | assumption | (with_reducible refine wpAny_loadPart_at hx ?_;rw [hc]) | (with_reducible refine LS' ?_) | wp_step))
 refine codeAny_call_builtin SF.slot.plain SF.entry (ZcG T hC hx hc ?_)
 have hpass:=T.refuse (.ref x)
 unfold Builtin.«object.__setattr__»
 repeat (first | rw [refuse_eq] | (rw [refuseLoop_ref,hpass]) | (with_reducible refine wpAny_loadPart_at hx ?_;rw [hc]) | with_reducible refine wpAny_mroOf_exc hC ?_ | (with_reducible refine LN' ?_) | wp_step)
 rw [hdn,if_neg (by simp [typeHasDict])]
 split
 · rename_i hcd
   cases hcd
 split
 · rename_i c hcd
   exact absurd hcd (hnc c)
 · have hx₁:(h.push { cls:=.type "dict",data:=.dict #[] }).get? x=some o:=Heap.get?_push_of_some _ hx
   have hxs:x≠h.objs.size:=Nat.ne_of_lt (Heap.lt_size hx)
   refine wpAny_bind (wpAny_alloc' ?_)
   refine wpAny_bind (wpAny_update' hx₁ ?_)
   refine wpAny_pure ?_
   have hgd:((h.push { cls:=.type "dict",data:=.dict #[] }).update x fun o=>{ cls:=o.cls,dict:=some h.objs.size,data:=o.data,slots:=o.slots }).get? h.objs.size
       = some { cls:=.type "dict",data:=.dict #[] } :=
     (Heap.get?_update_ne _ _ _ _ hxs.symm).trans (Heap.get?_push_at rfl rfl)
   have hnd:((h.push { cls:=.type "dict",data:=.dict #[] }).update x fun o=>{ cls:=o.cls,dict:=some h.objs.size,data:=o.data,slots:=o.slots }).Ns h.objs.size (fun _=>none) :=
     ⟨_,#[],_,hgd,rfl,fun e he=>absurd he (by simp),fun _=>rfl⟩
   show wpAny _ _ (Builtin.ObjectAttr.storeInDict h.objs.size (.str name _) name v) _ _ _
   unfold Builtin.ObjectAttr.storeInDict Builtin.ObjectAttr.newKeyGuard
   refine wpAny_bind (wpAny_pure (wpAny_bind (wpAny_nsSet1 (Heap.Ns1.of_empty hnd) fun h' hn' hs=>?_)))
   obtain ⟨oD,esD,epD,hoD,hdD,hcD⟩:=hn'.count (Within.cons name v Within.nil)
   refine wpAny_bind (wpAny_lookBehind hoD (by rw [hdD];exact pastItsLine_dict (Nat.le_trans hcD (by rw [List.length_cons,List.length_nil,sizeLine_eq];omega))) ?_)
   wp_walk
   have hx':h'.get? x=some { cls:=o.cls,dict:=some h.objs.size,data:=o.data,slots:=o.slots }:=by
     refine (hs.2 x hxs).trans (Heap.get?_update_self _ hx₁ ?_)
     have hfr:=(Heap.get?_some_iff.mp hx).2
     obtain ⟨oc,od,odt,osl⟩:=o
     cases odt<;>first | rfl | exact hfr
   repeat (any_goals (first | assumption | wp_step))
   exact hq h' _ hx' hn' fun b ob hbx hb=>(hs.2 b (Nat.ne_of_lt (Heap.lt_size hb))).trans ((Heap.get?_update_ne _ _ _ _ hbx).trans (Heap.get?_push_of_some _ hb))
end
end L2
set_option maxHeartbeats 1000000
namespace L2
open PySem PySem.Spec PyProof.Rows
def TbAt (base:Heap)(n:Nat)(H:Hp)(h:Heap)(ea:Addr)(vs:Array Value):Option Value→Prop
 | none=>vs[1]?=some .none
 | some fl=>∃ T oT ts,vs[1]?=some (.ref T)∧T≠ea∧base.get? T=none∧H T=none∧n≤T∧h.get? T=some oT∧oT.data=.fields ts∧ts[3]?=some fl
def ExcAt (base:Heap)(n:Nat)(H:Hp)(ea C dx:Addr)(fl:Option Value)(h:Heap):Prop :=
 base.get? ea=none∧H ea=none∧n≤ea∧∃ oe vs,h.get? ea=some oe∧oe.cls=.ref C∧oe.dict=some dx∧oe.data=.fields vs∧TbAt base n H h ea vs fl
def Keep (fs:List Addr)(n:Nat)(H:Hp)(h h':Heap):Prop :=
 (∀ b o,h.get? b=some o→b∈fs→∃ sl,h'.get? b=some { o with slots:=sl })∧(∀ b o,h.get? b=some o→b ∉ fs→(H b≠none∨b < n)→h'.get? b=some o) ∧
 (∀ b m,h.Ns b m→h'.Ns b m)∧(∀ b v,h.IsCell b v→h'.IsCell b v)∧h.objs.size≤h'.objs.size
theorem Keep.trans {fs:List Addr}{n:Nat}{H:Hp}{h h1 h2:Heap}(a:Keep fs n H h h1)(b:Keep fs n H h1 h2):Keep fs n H h h2:=by
 refine ⟨fun c o e m=>?_,fun c o e m k=>b.2.1 c o (a.2.1 c o e m k) m k,fun c m x=>b.2.2.1 c m (a.2.2.1 c m x),fun c v x=>b.2.2.2.1 c v (a.2.2.2.1 c v x),Nat.le_trans a.2.2.2.2 b.2.2.2.2⟩
 obtain ⟨sl,e1⟩:=a.1 c o e m
 obtain ⟨sl2,e2⟩:=b.1 c _ e1 m
 exact ⟨sl2,e2⟩
theorem ZcV {h h':Heap}(k:∀ b o,h.get? b=some o→(∀ vs,o.data≠.fields vs)→∃ sl,h'.get? b=some { o with slots:=sl }){b:Addr}{m:Str→Option Value}(x:h.Ns b m):h'.Ns b m:=by
 obtain ⟨o,es,ep,ho,hd,r⟩:=x
 obtain ⟨sl,hs⟩:=k b o ho fun vs q=>by rw [hd] at q;cases q
 exact ⟨_,es,ep,hs,hd,r⟩
theorem Vn {h h':Heap}(k:∀ b o,h.get? b=some o→(∀ vs,o.data≠.fields vs)→∃ sl,h'.get? b=some { o with slots:=sl }){b:Addr}{v:Option Value}(x:h.IsCell b v):h'.IsCell b v:=by
 obtain ⟨o,ho,hd⟩:=x
 obtain ⟨sl,hs⟩:=k b o ho fun vs q=>by rw [hd] at q;cases q
 exact ⟨_,hs,hd⟩
section
variable {M:Model}{A:Around}{E:Value→Shared→Prop}{s:Shared}{base:Heap}{n:Nat}{H:Hp}{env:Env}{outer:List Env}{L ea C dx:Addr}
theorem UX {oe:Obj}{vs:Array Value}{head:Value}{hadNext:Bool}{Q:Unit→Shared→Prop}
   (hfr:A.frames=some (env::outer)) (hl:s.heap.FunFrames base (env::outer)) (hf:env.frame=some L)
   (he:s.heap.get? ea=some oe) (hkb:base.StaysIn s.heap) (hen:base.get? ea=none) (hHe:H ea=none) (hne:n≤ea) (hcl:oe.cls=.ref C) (hdi:oe.dict=some dx) (hd:oe.data=.fields vs) (hsz:1 < vs.size) (hH:∀ b,s.heap.objs.size≤b→H b=none)
   (h:∀ h',base.StaysIn h'→h'.FunFrames base (env::outer)→ExcAt base n H ea C dx (some (rawInt L)) h'→Keep (Yy (env::outer)) n H s.heap h'→Q () { s with heap:=h' }) :
   wpAny M A (do let a ← frameOf env;let pl ← entryPlaceOf L hadNext;let b ← EntryCells.newEntry head a .none (rawInt L) .none pl;setField (.ref ea) 1 b) Q E s:=by
 have hene:ea ∉ (env::outer).filterMap (·.frame):=fun hm=>by
   obtain ⟨_,o,ho,hnf⟩:=hl.mem hm
   rw [he] at ho;injection ho with ho;subst ho;exact hnf vs hd
 refine wpAny_bind (wpAny_frameOf_fun hfr hl hf fun h₁ hs₁=>?_)
 refine wpAny_bind (wpAny_entryPlaceOf fun pl hpl=>?_)
 unfold EntryCells.newEntry newFields
 refine wpAny_bind (wpAny_newObj_type ?_ (hpl.sizeOk5 _ _ _ _ _))
 have he₁:h₁.get? ea=some oe:=(hs₁.2.1 ea hene).trans he
 have kb₁:base.StaysIn h₁:=fun b o hbo=>(hs₁.2.1 b fun hm=>by rw [(hl.mem hm).1] at hbo;cases hbo).trans (hkb b o hbo)
 have he₂:=Heap.get?_push_of_some (h:=h₁) { cls:=.type "traceback",dict:=none,data:=.fields ([head,.ref L,.none,rawInt L,.none]++(if pl.isEmpty then List.replicate 6 Value.none else pl)).toArray } he₁
 refine wpAny_setField he₂ hd hsz ?_
 have hTe:h₁.objs.size≠ea:=Nat.ne_of_gt (Heap.lt_size he₁)
 have hd₃:=Obj.data_mapFields hd (·.setIfInBounds 1 (Value.ref h₁.objs.size))
 have he₃:=Heap.get?_update_self (Obj.mapFields (·.setIfInBounds 1 (Value.ref h₁.objs.size))) he₂ (Obj.isFreed_of_fields hd₃)
 have hT₃:=(Heap.get?_update_other (h₁.push { cls:=.type "traceback",dict:=none,data:=.fields ([head,.ref L,.none,rawInt L,.none]++(if pl.isEmpty then List.replicate 6 Value.none else pl)).toArray })
   (Obj.mapFields (·.setIfInBounds 1 (Value.ref h₁.objs.size))) (Ne.symm hTe)).trans (Heap.get?_push_size h₁ rfl)
 have keep:∀ b o,b≠ea→h₁.get? b=some o →
     ((h₁.push { cls:=.type "traceback",dict:=none,data:=.fields ([head,.ref L,.none,rawInt L,.none]++(if pl.isEmpty then List.replicate 6 Value.none else pl)).toArray }).update ea (Obj.mapFields (·.setIfInBounds 1 (Value.ref h₁.objs.size)))).get? b=some o :=
   fun b o hbe hb=>by
     rw [Heap.get?_update_other _ _ (Ne.symm hbe)]
     exact Heap.get?_push_of_some _ hb
 have noRecord:∀ b o,s.heap.get? b=some o→(∀ vs,o.data≠.fields vs)→b≠ea:=fun b o hb hnf q=>by
   rw [q,he] at hb;injection hb with hb;subst hb;exact hnf vs hd
 have up:∀ b o,s.heap.get? b=some o→(∀ vs,o.data≠.fields vs)→∃ sl,((h₁.push { cls:=.type "traceback",dict:=none,data:=.fields ([head,.ref L,.none,rawInt L,.none]++(if pl.isEmpty then List.replicate 6 Value.none else pl)).toArray }).update ea (Obj.mapFields (·.setIfInBounds 1 (Value.ref h₁.objs.size)))).get? b=some { o with slots:=sl }:=fun b o hb hnf=>by
   obtain ⟨sl,hs⟩:=hs₁.2.2 b o hb
   exact ⟨sl,keep b _ (noRecord b o hb hnf) hs⟩
 have hmap:∀ {o:Obj} {f:Array Value→Array Value},(o.mapFields f).dict=o.dict:=fun {o f}=>by unfold Obj.mapFields;split<;>rfl
 refine h _ (fun b o hbo=>keep b o (fun q=>by rw [q,hen] at hbo;cases hbo) (kb₁ b o hbo)) (hl.of_keeps fun b o hb hnf=>let ⟨sl,e⟩:=up b o hb hnf;⟨_,e,rfl⟩) ?_ ?_
 · refine ⟨hen,hHe,hne,_,_,he₃,(Obj.cls_mapFields _ _).trans hcl,hmap.trans hdi,hd₃,h₁.objs.size,_,_,by simp [hsz],hTe,kb₁.fresh,hH _ (by rw [hs₁.1];exact Nat.le_refl _),?_,hT₃,rfl,by first | (simp;done) | (rcases hpl with rfl | ⟨_,_,_,_,_,_,_,rfl⟩<;>simp)⟩
   exact Nat.le_trans hne (Nat.le_of_lt (Heap.lt_size he₁))
 · refine ⟨fun b o hb hm=>?_,fun b o hb hm k=>?_,fun b m x=>ZcV up x,fun b v x=>Vn up x,?_⟩
   · obtain ⟨sl,hs⟩:=hs₁.2.2 b o hb
     exact ⟨sl,keep b _ (fun q=>hene (by rw [← q];exact hm)) hs⟩
   · refine keep b o (fun q=>?_) ((hs₁.2.1 b hm).trans hb)
     rcases k with k | k
     · exact k (by rw [q];exact hHe)
     · rw [q] at k;exact absurd k (Nat.not_lt.mpr hne)
   · rw [Heap.size_after_update,Heap.size_push,hs₁.1];exact Nat.le_succ _
theorem ZbG {fl:Option Value}{Q:Unit→Shared→Prop}(hfl:fl=none∨fl=some .none)
   (hfr:A.frames=some (env::outer)) (hl:s.heap.FunFrames base (env::outer)) (hf:env.frame=some L) (hkb:base.StaysIn s.heap) (x:ExcAt base n H ea C dx fl s.heap) (hH:∀ b,s.heap.objs.size≤b→H b=none)
   (h:∀ h',base.StaysIn h'→h'.FunFrames base (env::outer)→ExcAt base n H ea C dx (some (rawInt L)) h'→Keep (Yy (env::outer)) n H s.heap h'→Q () { s with heap:=h' }) :
   wpAny M A (noteFrame (.ref ea) env) Q E s:=by
 obtain ⟨hen,hHe,hne,oe,vs,he,hcl,hdi,hd,tb⟩:=x
 unfold noteFrame
 simp only [hf]
 rcases hfl with rfl | rfl
 · have h1:vs[1]?=some .none:=tb
   refine wpAny_bind (wpAny_field he hd h1 ?_)
   rw [if_neg (by decide)]
   exact UX hfr hl hf he hkb hen hHe hne hcl hdi hd (Array.getElem?_eq_some_iff.mp h1).1 hH h
 · obtain ⟨T,oT,ts,h1,hTe,hnT,hHT,hnT2,hT,hdT,h3⟩:=tb
   refine wpAny_bind (wpAny_field he hd h1 ?_)
   rw [if_pos (show (Value.ref T != Value.none)=true from by simp)]
   refine wpAny_bind (wpAny_field hT hdT h3 ?_)
   rw [if_neg (show ¬ ((Value.none == rawInt L)=true) from by simp [rawInt])]
   refine wpAny_bind (wpAny_setField hT hdT (Array.getElem?_eq_some_iff.mp h3).1 ?_)
   have other:∀ b,b≠T→(s.heap.update T (Obj.mapFields (·.setIfInBounds 3 Value.none))).get? b=s.heap.get? b:=fun b hb=>Heap.get?_update_other _ _ (Ne.symm hb)
   have noRecord:∀ b o,s.heap.get? b=some o→(∀ vs,o.data≠.fields vs)→b≠T:=fun b o hb hnf q=>by
     rw [q,hT] at hb;injection hb with hb;subst hb;exact hnf ts hdT
   have up:∀ b o,s.heap.get? b=some o→(∀ vs,o.data≠.fields vs)→∃ sl,(s.heap.update T (Obj.mapFields (·.setIfInBounds 3 Value.none))).get? b=some { o with slots:=sl }:=fun b o hb hnf=>⟨o.slots,(other b (noRecord b o hb hnf)).trans hb⟩
   have hsz:(s.heap.update T (Obj.mapFields (·.setIfInBounds 3 Value.none))).objs.size=s.heap.objs.size:=Heap.size_after_update ..
   have kp:Keep (Yy (env::outer)) n H s.heap (s.heap.update T (Obj.mapFields (·.setIfInBounds 3 Value.none))):=by
     refine ⟨fun b o hb hm=>⟨o.slots,(other b fun q=>?_).trans hb⟩,fun b o hb hm k=>(other b fun q=>?_).trans hb,fun b m x=>ZcV up x,fun b v x=>Vn up x,Nat.le_of_eq hsz.symm⟩
     · obtain ⟨_,o',ho',hnf⟩:=hl.mem hm
       rw [q,hT] at ho';cases ho';exact hnf ts hdT
     · rcases k with k | k
       · exact k (by rw [q];exact hHT)
       · rw [q] at k;exact absurd k (Nat.not_lt.mpr hnT2)
   exact UX (s:={ s with heap:=s.heap.update T (Obj.mapFields (·.setIfInBounds 3 Value.none)) }) hfr (hl.of_keeps fun b o hb hnf=>⟨o,(other b (noRecord b o hb hnf)).trans hb,rfl⟩) hf ((other ea (Ne.symm hTe)).trans he)
     (fun b o hbo=>(other b fun q=>by rw [q,hnT] at hbo;cases hbo).trans (hkb b o hbo)) hen hHe hne hcl hdi hd (Array.getElem?_eq_some_iff.mp h1).1 (fun b hb=>hH b (by rw [← hsz];exact hb))
     fun h' x1 x2 x3 x4=>h h' x1 x2 x3 (kp.trans x4)
theorem WT {l:List Env}{fl:Value}{Q:Unit→Shared→Prop}(hkb:base.StaysIn s.heap)(hl:s.heap.FunFrames base l)(x:ExcAt base n H ea C dx (some fl) s.heap)
   (h:∀ h',base.StaysIn h'→h'.FunFrames base l→ExcAt base n H ea C dx (some .none) h'→(∀ fs,(∀ b∈fs,∃ o,s.heap.get? b=some o∧∀ vs,o.data≠.fields vs)→Keep fs n H s.heap h')→Q () { s with heap:=h' }) :
   wpAny M A (setFlight (.ref ea) none) Q E s:=by
 obtain ⟨hen,hHe,hne,oe,vs,he,hcl,hdi,hd,T,oT,ts,h1,hTe,hnT,hHT,hnT2,hT,hdT,h3⟩:=x
 have hsz3:3 < ts.size:=(Array.getElem?_eq_some_iff.mp h3).1
 have other:∀ b,b≠T→(s.heap.update T (Obj.mapFields (·.setIfInBounds 3 ((none:Option Addr).elim Value.none fun f=>rawInt f)))).get? b=s.heap.get? b :=
   fun b hb=>Heap.get?_update_other _ _ (Ne.symm hb)
 have noRecord:∀ b o,s.heap.get? b=some o→(∀ vs,o.data≠.fields vs)→b≠T:=fun b o hb hnf q=>by
   rw [q,hT] at hb;injection hb with hb;subst hb;exact hnf ts hdT
 have up:∀ b o,s.heap.get? b=some o→(∀ vs,o.data≠.fields vs)→∃ sl,(s.heap.update T (Obj.mapFields (·.setIfInBounds 3 ((none:Option Addr).elim Value.none fun f=>rawInt f)))).get? b=some { o with slots:=sl }:=fun b o hb hnf=>⟨o.slots,(other b (noRecord b o hb hnf)).trans hb⟩
 unfold setFlight
 refine wpAny_bind (wpAny_field he hd h1 ?_)
 rw [if_pos (show (Value.ref T != Value.none)=true from by simp)]
 refine wpAny_setField hT hdT hsz3 (h _ (fun b o hbo=>(other b fun q=>by rw [q,hnT] at hbo;cases hbo).trans (hkb b o hbo))
   (hl.of_keeps fun b o hb hnf=>⟨o,(other b (noRecord b o hb hnf)).trans hb,rfl⟩) ?_ fun fs hfs=>?_)
 · exact ⟨hen,hHe,hne,oe,vs,(other ea (Ne.symm hTe)).trans he,hcl,hdi,hd,T,_,_,h1,hTe,hnT,hHT,hnT2,Heap.get?_update_self _ hT (Obj.isFreed_of_fields (Obj.data_mapFields hdT _)),Obj.data_mapFields hdT _,by simp [hsz3]⟩
 · refine ⟨fun b o hb hm=>⟨o.slots,(other b fun q=>?_).trans hb⟩,fun b o hb hm k=>(other b fun q=>?_).trans hb,fun b m x=>ZcV up x,fun b v x=>Vn up x,Nat.le_of_eq (Heap.size_after_update ..).symm⟩
   · obtain ⟨o',ho',hnf⟩:=hfs b hm
     rw [q,hT] at ho';cases ho';exact hnf ts hdT
   · rcases k with k | k
     · exact k (by rw [q];exact hHT)
     · rw [q] at k;exact absurd k (Nat.not_lt.mpr hnT2)
theorem Zeu {fl:Option Value}{Q:Unit→Shared→Prop}(hfl:fl=none∨fl=some .none)
   (hfr:A.frames=some (env::outer)) (hl:s.heap.FunFrames base (env::outer)) (hf:env.frame=some L) (hkb:base.StaysIn s.heap) (x:ExcAt base n H ea C dx fl s.heap) (hH:∀ b,s.heap.objs.size≤b→H b=none)
   (h:∀ h',base.StaysIn h'→h'.FunFrames base outer→ExcAt base n H ea C dx (some .none) h'→Keep (Yy (env::outer)) n H s.heap h'→Q () { s with heap:=h' }) :
   wpAny M A (leaving env (.ref ea)) Q E s:=by
 unfold leaving
 refine wpAny_bind (ZbG hfl hfr hl hf hkb x hH fun h1 b1 f1 x1 k1=>?_)
 refine WT b1 f1 x1 fun h2 b2 f2 x2 k2=>h h2 b2 f2.2.2 x2 (k1.trans (k2 _ fun b hb=>?_))
 obtain ⟨_,o,ho,hnf⟩:=f1.mem hb
 exact ⟨o,ho,hnf⟩
end
end L2
set_option maxHeartbeats 1000000
namespace L2
open PySem PySem.Spec PyProof.Rows
theorem Keep.hok {P:Program}{w:World}{fs:List Addr}{n:Nat}{H:Hp}{h h':Heap}(x:HOk P w H h)(hf:∀ b∈fs,H b=none)(k:Keep fs n H h h'):HOk P w H h':=fun a o e=>by
 have tr:∀ b,b=a∨H b=some (.own a)→H b≠none:=fun b hb z=>by
   rcases hb with rfl | hb
   · rw [e] at z;cases z
   · rw [hb] at z;cases z
 exact (x a o e).stay (fun b u hb q=>k.2.1 b u q (fun m=>tr b hb (hf b m)) (.inl (tr b hb))) (fun _ q=>q) (fun _ _ q=>q)
theorem ExcAt.le {base:Heap}{n n':Nat}{H:Hp}{ea C dx:Addr}{fl:Option Value}{h:Heap}(x:ExcAt base n' H ea C dx fl h)(l:n≤n'):ExcAt base n H ea C dx fl h:=by
 obtain ⟨a,b,c,oe,vs,e1,e2,e3,e4,tb⟩:=x
 refine ⟨a,b,Nat.le_trans l c,oe,vs,e1,e2,e3,e4,?_⟩
 cases fl with
 | none=>exact tb
 | some f=>obtain ⟨T,oT,ts,t1,t2,t3,t4,t5,t6⟩:=tb;exact ⟨T,oT,ts,t1,t2,t3,t4,Nat.le_trans l t5,t6⟩
section
variable {X:Cx}{pins:List (Addr×Obj)}{σ:St}{H H1 H2:Hp}{s s1 s2:Shared}{h':Heap}
def Zcv (n:Nat)(H:Hp)(h:Heap):List Addr:=(List.range h.objs.size).filter fun b=>(H b).isNone&&decide (n≤b)
theorem Inv.flown {t':Nat}(I1:Inv X pins σ H1 s1)(I2:Inv X pins σ H2 s2)(k:Keep (Yy X.stack) s1.heap.objs.size H2 s2.heap h'):Inv X pins σ H2 { s2 with heap:=h',toks:=t' }:=by
 have mem:∀ b,b∈Zcv s1.heap.objs.size H2 s2.heap→s1.heap.objs.size≤b:=fun b hb=>by
   have:=(List.mem_filter.mp hb).2
   simp only [Bool.and_eq_true,decide_eq_true_eq] at this
   exact this.2
 have out:∀ b o,s2.heap.get? b=some o→b ∉ Zcv s1.heap.objs.size H2 s2.heap→H2 b≠none∨b < s1.heap.objs.size:=fun b o e hb=>by
   by_cases z:H2 b=none
   · refine .inr (Nat.lt_of_not_le fun l=>hb (List.mem_filter.mpr ⟨List.mem_range.mpr (Heap.lt_size e),?_⟩))
     rw [z];simp [l]
   · exact .inl z
 refine I2.call (g':=s2.gens) (d':=s2.drawn) (ch:=Zcv s1.heap.objs.size H2 s2.heap) ⟨fun b o e hn hf hc=>k.2.1 b o e hf (out b o e hc),fun b o e hn hf hc=>k.1 b o e hf,fun b o e hn hc=>hn,fun b o e hc=>?_,fun _ _ e=>e,fun _ _ _ e=>e,fun _ ps e=>⟨#[],by rw [e];simp⟩⟩ (k.hok I2.hok I2.stkFree) I2.bare fun b hb=>?_
 · by_cases m:b∈Yy X.stack
   · obtain ⟨sl,q⟩:=k.1 b o e m;exact ⟨_,q⟩
   · exact ⟨o,k.2.1 b o e m (out b o e hc)⟩
 · have hb':=mem b hb
   refine ⟨.inr (Nat.le_trans I1.sz hb'),fun z=>?_,fun x c hx z=>?_,fun p hp z=>?_⟩
   · have:=I1.lt;rw [← z] at this;exact absurd this (Nat.not_lt.mpr hb')
   · obtain ⟨v,o,e,_⟩:=I1.cell x c hx
     have:=Heap.lt_size e;rw [z] at this;exact absurd this (Nat.not_lt.mpr hb')
   · have:=Heap.lt_size (I1.pin p hp).1;rw [z] at this;exact absurd this (Nat.not_lt.mpr hb')
structure Cx.Old (X:Cx)(a:Addr):Prop where
 t:∀ xs,X.H₀ a≠some (.tup xs)
 f:∀ o u,X.H₀ a≠some (.frz o u)
 b:∀ ps,X.H₀ a≠some (.tbl ps)
theorem Inv.old {a:Addr}(I:Inv X pins σ H s)(h:H a=none):X.Old a where
 t:=fun xs e=>(by have:=I.base.tups a xs e;rw [h] at this;cases this)
 f:=fun o u e=>(by have:=I.base.frzs a o u e;rw [h] at this;cases this)
 b:=fun ps e=>(by obtain ⟨m,q⟩:=I.base.tbls a ps e;rw [h] at q;cases q)
theorem Cx.Old.nt {a b:Addr}(O:X.Old a){xs:List V}(e:X.H₀ b=some (.tup xs)):b≠a:=fun z=>O.t xs (by rw [← z];exact e)
theorem Cx.Old.nf {a b:Addr}(O:X.Old a){o:Obj}{u:HO}(e:X.H₀ b=some (.frz o u)):b≠a:=fun z=>O.f o u (by rw [← z];exact e)
theorem Cx.Old.nb {a b:Addr}(O:X.Old a){ps:Array Value}(e:X.H₀ b=some (.tbl ps)):b≠a:=fun z=>O.b ps (by rw [← z];exact e)
theorem Inv.track {a:Addr}{o:HO}(I:Inv X pins σ H s)(hn:H a=none)(h0:X.s₀.heap.objs.size≤a)(hL:a≠X.env.locals)(hC:∀ x c,X.env.cells.lookup x=some c→c≠a)(hp:∀ p∈X.pn++pins,p.1≠a)
   (new:ObjOk X.prog X.w (upd H a o) s.heap a o):Inv X pins σ (upd H a o) s:=by
 have old:∀ b u,X.s₀.heap.get? b=some u→b≠a:=fun b u e z=>by
   have:=Heap.lt_size e;rw [z] at this;exact absurd this (Nat.not_lt.mpr h0)
 refine ⟨I.ok,I.os,I.bare,⟨I.base.keep,I.base.slot,fun b u e n hx=>?_,I.base.there,fun b xs e=>?_,fun b u xs e=>?_,fun b ps e=>?_⟩,I.loc,I.cell,?_,fun x c hx=>?_,fun p hp'=>?_,fun b u e=>?_,I.len⟩
 · rw [Zb (old b u e)];exact I.base.free b u e n hx
 · rw [Zb ((I.old hn).nt e)];exact I.base.tups b xs e
 · rw [Zb ((I.old hn).nf e)];exact I.base.frzs b u xs e
 · rw [Zb ((I.old hn).nb e)];exact I.base.tbls b ps e
 · rw [Zb (Ne.symm hL)];exact I.free
 · rw [Zb (hC x c hx)];exact I.freeC x c hx
 · obtain ⟨e1,e2,e3⟩:=I.pin p hp'
   exact ⟨e1,by rw [Zb (hp p hp')];exact e2,e3⟩
 · by_cases z:b=a
   · subst z;rw [Zf] at e;cases e;exact new
   · rw [Zb z] at e
     exact (I.hok b u e).stay (fun _ _ _ q=>q) (fun c q=>by rw [Zb (Zq q hn)];exact q) (fun c xs q=>by rw [Zb (Zq q hn)];exact q)
end
def WR (P:Program)(w:World)(base:Heap):XJ:=fun outer H s E e s'=>∃(ea C dx:Addr)(H':Hp),e=.ref ea∧base.StaysIn s'.heap∧s'.heap.FunFrames base outer∧ExcAt base s.heap.objs.size H' ea C dx (some .none) s'.heap∧s'.os=s.os∧AllBare s'.gens ∧
 Un (Yy outer) [] H H' s.heap s'.heap∧HOk P w H' s'.heap∧E (.ref C) (some dx) H'
section
variable {P:Program}{w:World}{K:PySem.W.Frag}{mg:Str→Option Value}{base:Heap}{k:Nat}{f:Addr}{fd:FuncData}{ps:List Str}{sp sp':Sp}{CX:XJ}
def Ue (X:Cx)(EE:St→XK):Prop:=∀(pins:List (Addr×Obj))(σ:St)(H1 H2:Hp)(s1 s2:Shared)(ea C dx:Addr)(fl:Option Value),Inv X pins σ H1 s1→Inv X pins σ H2 s2→(fl=none∨fl=some .none)→ExcAt X.base s1.heap.objs.size H2 ea C dx fl s2.heap→EE σ (.ref C) (some dx) H2→X.xe (.ref ea) s2
theorem ZdI {N:List Str}{qual:Str}{scope:Scope}{cd:Value}{A:Around}{outer:List Env}{s:Shared}{H:Hp}{E:XK}:Ue (Wu (WR P w base) P w K mg base N qual scope f cd A outer s H E) (fun _=>E):=by
 intro pins σ H1 H2 s1 s2 ea C dx fl I1 I2 hfl x q
 have hsz:s.heap.objs.size≤s1.heap.objs.size:=I1.sz
 have hok2:HOk P w H2 s2.heap:=I2.hok
 refine Zeu (base:=base) (n:=s.heap.objs.size) (H:=H2) (outer:=outer) (L:=s.heap.objs.size) hfl I2.ok.frames I2.stack rfl I2.bk (x.le hsz) (fun b hb=>hok2.fresh hb) fun h' b1 f1 x1 k1=>?_
 have un:Un (Yy outer) [] H H2 s.heap s2.heap:=I2.base
 have nL:∀ b o,s.heap.get? b=some o→b ∉ Yy outer→b ∉ Yy (envOfC qual scope s.heap.objs.size f cd::outer):=fun b o e hf m=>by
   rcases List.mem_filterMap.mp m with ⟨v,hv,ev⟩
   rcases List.mem_cons.mp hv with rfl | hv
   · cases (show some s.heap.objs.size=some b from ev);exact absurd (Heap.lt_size e) (Nat.lt_irrefl _)
   · exact hf (List.mem_filterMap.mpr ⟨v,hv,ev⟩)
 have inL:∀ b,b∈Yy outer→b∈Yy (envOfC qual scope s.heap.objs.size f cd::outer):=fun b m=>by
   obtain ⟨v,hv,ev⟩:=List.mem_filterMap.mp m
   exact List.mem_filterMap.mpr ⟨v,List.mem_cons_of_mem _ hv,ev⟩
 refine ⟨ea,C,dx,H2,rfl,b1,f1,x1,I2.os,I2.bare,⟨fun b o e hn hf hx=>k1.2.1 b o (un.keep b o e hn hf hx) (nL b o e hf) (.inr (Heap.lt_size e)),fun b o e hn hf hx=>?_,un.free,fun b o e hx=>?_,un.tups,un.frzs,un.tbls⟩,k1.hok hok2 I2.stkFree,q⟩
 · obtain ⟨sl,e1⟩:=un.slot b o e hn hf hx
   obtain ⟨sl2,e2⟩:=k1.1 b _ e1 (inL b hf)
   exact ⟨sl2,e2⟩
 · obtain ⟨o',e1⟩:=un.there b o e hx
   by_cases m:b∈Yy (envOfC qual scope s.heap.objs.size f cd::outer)
   · obtain ⟨sl,e2⟩:=k1.1 b o' e1 m;exact ⟨_,e2⟩
   · exact ⟨o',k1.2.1 b o' e1 m (.inr (Heap.lt_size e))⟩
end
end L2
set_option maxHeartbeats 1000000
namespace L2
open PySem PySem.Spec PyProof.Rows
abbrev Cx.tryc (X:Cx)(pn:List (Addr×Obj))(Z:Value→Shared→Prop):Cx:={ X with pn:=pn,xe:=Z }
abbrev Cx.marked (X:Cx)(ea:Addr)(Z:Value→Shared→Prop):Cx:={ X with A:=X.A.mark (some (.ref ea)),calm:=false,xe:=Z }
def XO (ea C dx:Addr):HO:=.ext fun h=>∃ oe vs,h.get? ea=some oe∧oe.cls=.ref C∧oe.dict=some dx∧oe.data=.fields vs
section
variable {X:Cx}{pins:List (Addr×Obj)}{σ:St}{H:Hp}{s:Shared}
theorem Inv.tryc (I:Inv X pins σ H s)(Z:Value→Shared→Prop):Inv (X.tryc (X.pn++pins) Z) [] σ H s :=
 ⟨⟨I.ok.mod,I.ok.kind,I.ok.glob,I.ok.blt,I.ok.above,I.ok.inj,I.ok.has,I.ok.cab,I.ok.hd,I.ok.frames,I.ok.stk,I.ok.exf,I.ok.bs,I.ok.bsz,I.ok.noex,I.ok.exfs,I.ok.funs,I.ok.frf⟩,I.os,I.bare,I.base,I.loc,I.cell,I.free,I.freeC,fun p hp=>I.pin p (by rw [List.append_nil] at hp;exact hp),I.hok,I.len⟩
theorem Inv.untryc {pins':List (Addr×Obj)}{Z:Value→Shared→Prop}(I:Inv (X.tryc (X.pn++pins) Z) pins' σ H s):Inv X pins σ H s :=
 ⟨⟨I.ok.mod,I.ok.kind,I.ok.glob,I.ok.blt,I.ok.above,I.ok.inj,I.ok.has,I.ok.cab,I.ok.hd,I.ok.frames,I.ok.stk,I.ok.exf,I.ok.bs,I.ok.bsz,I.ok.noex,I.ok.exfs,I.ok.funs,I.ok.frf⟩,I.os,I.bare,I.base,I.loc,I.cell,I.free,I.freeC,fun p hp=>I.pin p (List.mem_append_left _ hp),I.hok,I.len⟩
theorem Inv.mark (I:Inv X pins σ H s)(ea:Addr)(Z:Value→Shared→Prop):Inv (X.marked ea Z) pins σ H s :=
 ⟨⟨I.ok.mod,I.ok.kind,I.ok.glob,I.ok.blt,I.ok.above,I.ok.inj,I.ok.has,I.ok.cab,(fun z=>by cases z),I.ok.frames,I.ok.stk,I.ok.exf,I.ok.bs,I.ok.bsz,I.ok.noex,I.ok.exfs,I.ok.funs,I.ok.frf⟩,I.os,I.bare,I.base,I.loc,I.cell,I.free,I.freeC,I.pin,I.hok,I.len⟩
theorem Inv.unmark {ea:Addr}{Z:Value→Shared→Prop}(I:Inv (X.marked ea Z) pins σ H s)(hd:X.calm=true→X.A.handled=none):Inv X pins σ H s :=
 ⟨⟨I.ok.mod,I.ok.kind,I.ok.glob,I.ok.blt,I.ok.above,I.ok.inj,I.ok.has,I.ok.cab,hd,I.ok.frames,I.ok.stk,I.ok.exf,I.ok.bs,I.ok.bsz,I.ok.noex,I.ok.exfs,I.ok.funs,I.ok.frf⟩,I.os,I.bare,I.base,I.loc,I.cell,I.free,I.freeC,I.pin,I.hok,I.len⟩
theorem ZgU {M:Model}{A:Around}{E:Value→Shared→Prop}{i:Nat}{x:Str}{pos:Pos}{Q:Unit→Shared→Prop}(I:Inv X pins σ H s)(hN:X.N.Nodup)(hi:X.N[i]?=some x)(hk:X.env.kindOf x=some .local)
   (h:∀ s',Inv X pins (σ.set i none) H s'→Q () s'):wpAny M A (do bindName X.env x .none;unbindBehindTheSuite X.env x pos) Q E s:=by
 obtain ⟨m,hn,hl⟩:=id I.loc
 have hcls:(X.env.scope.kind == .class || (X.env.scope.kind == .module&&X.env.locals != X.env.globals))=false:=by rw [I.ok.kind];rfl
 have cne:=I.cne
 refine wpAny_nameGoes_keeps hk hn hcls fun h' v hn' hs=>?_
 obtain ⟨oL,_,_,hoL,_⟩:=id hn
 refine h _ ⟨I.ok,I.os,I.bare,⟨fun b o e n hb hx=>?_,fun b o e n hb hx=>?_,I.base.free,fun b o e hx=>?_,I.base.tups,I.base.frzs,I.base.tbls⟩,⟨_,hn',fun j y v' e1 e2 e3=>?_⟩,fun y c e=>?_,I.free,I.freeC,fun p hp=>?_,fun b ob e=>?_,by simpa using I.len⟩
 · exact (hs.2 b (Nat.ne_of_lt (Nat.lt_of_lt_of_le (Heap.lt_size e) I.ok.above))).trans (I.base.keep b o e n hb hx)
 · obtain ⟨sl,e1⟩:=I.base.slot b o e n hb hx
   exact ⟨sl,(hs.2 b (Nat.ne_of_lt (Nat.lt_of_lt_of_le (Heap.lt_size e) I.ok.above))).trans e1⟩
 · obtain ⟨o',e1⟩:=I.base.there b o e hx
   exact ⟨o',(hs.2 b (Nat.ne_of_lt (Nat.lt_of_lt_of_le (Heap.lt_size e) I.ok.above))).trans e1⟩
 · by_cases hj:j=i
   · subst hj
     rw [List.getElem?_set] at e2
     split at e2
     · split at e2<;>cases e2
     · rename_i z;exact absurd rfl z
   · rw [List.getElem?_set_ne (Ne.symm hj)] at e2
     obtain ⟨u',r',q⟩:=hl j y v' e1 e2 e3
     refine ⟨u',r',?_⟩
     rcases q with ⟨k,e⟩ | ⟨k,c,e,z⟩
     · refine .inl ⟨k,?_⟩
       have:y≠x:=fun e=>hj (UB hN e1 (e ▸ hi))
       simp [this,e]
     · exact .inr ⟨k,c,e,z.sameBut hs (cne y c e)⟩
 · obtain ⟨w',z⟩:=I.cell y c e
   exact ⟨w',z.sameBut hs (cne y c e)⟩
 · obtain ⟨e,n,ne,nf,d⟩:=I.pin p hp
   exact ⟨(hs.2 p.1 ne).trans e,n,ne,nf,d⟩
 · refine (I.hok b ob e).stay (fun c w' hc q=>(hs.2 c ?_).trans q) (fun _ q=>q) fun _ _ q=>q
   rintro rfl
   rcases hc with rfl | hc
   · rw [I.free] at e;cases e
   · rw [I.free] at hc;cases hc
end
def ZgY (K:PySem.W.Frag)(C0:Addr)(i:Nat)(tb:(St→XK)→TS)(th:TS):TS:=fun D σ H =>
 tb (fun σ' Cv dO H'=>∃ C dx,Cv=.ref C∧dO=some dx∧PySem.W.exmOne K (.ref C) (.ref C0)=some true∧∀ ea,H' ea=none →
   th { nx:=fun σ2 H2=>D.nx (σ2.set i none) H2,rt:=D.rt,bk:=fun σ2 H2=>D.bk (σ2.set i none) H2,ct:=fun σ2 H2=>D.ct (σ2.set i none) H2 } (σ'.set i (some (.ref ea))) (upd H' ea (XO ea C dx))) D σ H
section
variable {X:Cx}{body suite:List Stmt}{b0:Stmt}{C0:Addr}{x0 n:Str}{i:Nat}{tb:(St→XK)→TS}{th:TS}{p0 hp pos:Pos}
theorem ZeG (hcalm:X.calm=true)(hst:X.stack=X.env::X.outer)(hfr:X.env.frame=some X.env.locals)(hN:X.N.Nodup)(hi:X.N[i]?=some n)(hk:X.env.kindOf n=some .local)(hg:Gl X x0)(hm:X.mg x0=some (.ref C0))(hdb:(x0 == ("__debug__":Str))=false)
   (hb:∀ pn Z EE,Ue (X.tryc pn Z) EE→PSs (X.tryc pn Z) body (tb EE)) (hh:∀ ea Z,PSs (X.marked ea Z) (b0::suite) th) :
   PS X (.Try body [.ExceptHandler (some (.Name x0 p0)) (some n) (b0::suite) hp] [] [] pos) (ZgY X.K C0 i tb th):=by
 intro pins s σ H D I h
 rw [arm_exec_Try]
 refine wpAny_bind (wpAny_standAt (wpAny_tryStmt_except ?_))
 refine wpAny_mono (hb (X.pn++pins) _ _ ?W [] s σ H D (I.tryc _) h) (fun f s1 hs=>?_) (fun e s1 z=>z)
 case W =>
   intro pins' σ1 H1 H2 s1 s2 ea C dx fl I1 I2 hfl x q
   have J1:=I1.untryc
   have J2:=I2.untryc
   obtain ⟨C',dx',e1,e2,hex,hq⟩:=q
   cases e1
   cases e2
   have fr:X.A.frames=some (X.env::X.outer):=by rw [← hst];exact J2.ok.frames
   have ff:s2.heap.FunFrames X.base (X.env::X.outer):=by rw [← hst];exact J2.stack
   have off:∀ {h:Heap},h.FunFrames X.base (X.env::X.outer)→∀ b∈Yy (X.env::X.outer),∃ o,h.get? b=some o∧∀ vs,o.data≠.fields vs:=fun f b hb=>(f.mem hb).2
   refine ZbG (base:=X.base) (n:=s1.heap.objs.size) (H:=H2) hfl fr ff hfr J2.bk x (fun b hb=>J2.hok.fresh hb) fun h3 b3 f3 x3 k3=>?_
   refine WT b3 f3 x3 fun h4 b4 f4 x4 k4=>?_
   have k34:=k3.trans (k4 _ (off f3))
   have J4:Inv X pins σ1 H2 { s2 with heap:=h4 }:=J1.flown (t':=s2.toks) J2 (by rw [hst];exact k34)
   refine wpAny_handleBy_cons (codeAny_handlers_test ?_) (by intro q;cases q)
   refine Xw (X:=X.marked ea X.xe) (J4.mark ea X.xe) hg hm ?_ hdb
   have LT:PySem.W.Looks (model X.prog X.w) h4 (typeOf (.ref ea)) (.ref C):=by
     obtain ⟨_,_,_,oe,vs,he,hc,_⟩:=x4
     rw [← hc];exact (PySem.W.Looks.ld he).andThen .now
   refine (PySem.W.exm_one (h:=h4) J4.kIn LT hex) _ _ _ _ (fun _ _ e=>e) ?_
   refine codeAny_handlers_suite_as ?_
   refine WT b4 f4 x4 fun h5 b5 f5 x5 k5=>?_
   have k45:=k34.trans (k5 _ (off f4))
   have J5:Inv X pins σ1 H2 { s2 with heap:=h5 }:=J1.flown (t':=s2.toks) J2 (by rw [hst];exact k45)
   obtain ⟨hen,hHe,hne,oe,vs,he,hc,hdi,hd,_⟩:=id x5
   have lt1:∀ b,b < s1.heap.objs.size→b≠ea:=fun b hb z=>by rw [z] at hb;exact absurd hb (Nat.not_lt.mpr hne)
   have J6:Inv X pins σ1 (upd H2 ea (XO ea C dx)) { s2 with heap:=h5 }:=by
     refine J5.track hHe (Nat.le_trans J1.sz hne) (fun z=>lt1 _ J1.lt z.symm) (fun y c hy=>?_) (fun p hp=>lt1 _ (Heap.lt_size (J1.pin p hp).1)) ?_
     · obtain ⟨v,o,e,_⟩:=J1.cell y c hy
       exact lt1 _ (Heap.lt_size e)
     · exact ⟨⟨oe,vs,he,hc,hdi,hd⟩,⟨oe,he⟩,fun h1 h2 ⟨oe,vs,e,r⟩ k=>⟨oe,vs,k _ e,r⟩⟩
   refine YD (X:=X) J6 hN hi (.inl hk) (v:=.ref ea) rfl (fun s6 J8=>?_) (.inr hk)
   refine wpAny_mono (hh ea _ pins s6 _ _ _ (J8.mark ea _) (hq ea hHe)) (fun f s7 hs=>?_) (fun _ _ z=>z)
   have back:∀ {Z:Value→Shared→Prop} {σ':St} {H':Hp} {Q:Unit→Shared→Prop},Inv (X.marked ea Z) pins σ' H' s7→(∀ s',Inv X pins (σ'.set i none) H' s'→Q () s')→wpAny (model X.prog X.w) X.A (do bindName X.env n .none;unbindBehindTheSuite X.env n hp) Q X.xe s7:=fun J q=>ZgU (J.unmark J1.ok.hd) hN hi hk q
   cases f with
   | next=>obtain ⟨σ',H',J,q⟩:=hs;exact back J fun s' J'=>⟨_,H',J',q⟩
   | brk=>obtain ⟨σ',H',J,q⟩:=hs;exact back J fun s' J'=>⟨_,H',J',q⟩
   | cont=>obtain ⟨σ',H',J,q⟩:=hs;exact back J fun s' J'=>⟨_,H',J',q⟩
   | ret u=>obtain ⟨v,σ',H',J,r,q⟩:=hs;exact back J fun s' J'=>⟨v,_,H',J',r,q⟩
 · cases f with
   | next=>obtain ⟨σ',H',J,q⟩:=hs;exact wpAny_pure ⟨σ',H',J.untryc,q⟩
   | brk=>obtain ⟨σ',H',J,q⟩:=hs;exact ⟨σ',H',J.untryc,q⟩
   | cont=>obtain ⟨σ',H',J,q⟩:=hs;exact ⟨σ',H',J.untryc,q⟩
   | ret u=>obtain ⟨v,σ',H',J,r,q⟩:=hs;exact ⟨v,σ',H',J.untryc,r,q⟩
end
end L2
set_option maxHeartbeats 1000000
namespace L2
open PySem PySem.Spec PyProof.Rows
def Wl (P:Program)(w:World)(K:PySem.W.Frag)(mg:Str→Option Value)(base:Heap)(k:Nat)(C:Addr)(m:Str)(ps:List Str)(sp:Sp):Prop:=∃ f fd,FnOk P w K mg base (WR P w base) k f fd ps sp∧Binds K fd ps []∧Vs K C m f
section
variable {P:Program}{w:World}{K:PySem.W.Frag}{mg:Str→Option Value}{base:Heap}{j k:Nat}{C:Addr}{x m:Str}{ps:List Str}{sp:Sp}
end
def ZhZ (C:Addr)(m:Str)(sp:Sp)(EE:St→XK)(ta:TE)(t:TA):TE:=fun σ H Q=>ta σ H fun x H1=>∃ a dx fs,x=.ref a∧H1 a=some (.ins C dx fs)∧fs.lookup m=none∧t σ H1 fun vs H2=>sp (x::vs) H2 Q (EE σ)
section
variable {X:Cx}{EE:St→XK}{k:Nat}{f C:Addr}{fd:FuncData}{ps:List Str}{sp:Sp}{x m:Str}{p pos apos:Pos}{e o:Expr}{es:List Expr}{ta:TE}{t:TA}
theorem ZgB {pins:List (Addr×Obj)}{σ:St}{H:Hp}{s:Shared}{Q:VK}{us:List Value}{vs:List V}(W:Ue X EE)(F:FnOk X.prog X.w X.K X.mg X.base (WR X.prog X.w X.base) k f fd ps sp)(hr:Room k X.A)(hb:Binds X.K fd ps [])
   (I:Inv X pins σ H s) (r:Vals vs us) (h:sp vs H Q (EE σ)):wpAny (model X.prog X.w) X.A (call (.ref f) us) (EP X pins σ Q) X.xe s:=by
 have hl:(us++[]).length=ps.length:=by rw [List.append_nil,← r.length];exact F.len _ _ _ _ h
 have hb':=hb s us I.kIn hl
 rw [List.append_nil] at hb'
 refine wpAny_call (codeAny_mono (F.run X.A X.stack s H ⟨us,[]⟩ us vs Q (EE σ) hr I.env0 hb' r h) fun r s' hq=>?_)
 cases r with
 | error e =>
   obtain ⟨ea,C,dx,H',rfl,kb,ff,x,os,gb,un,hok,q⟩:=hq
   exact W pins σ H H' s s' ea C dx _ I (I.call' os un hok gb fun b z=>absurd z (by simp)) (.inr rfl) x q
 | ok fl =>
   cases fl with
   | ret u=>exact I.after hq
   | next=>exact False.elim hq
   | brk=>exact False.elim hq
   | cont=>exact False.elim hq
theorem Zcx {pl:Sem Bool}(W:Ue X EE)(D:Wl X.prog X.w X.K X.mg X.base k C m ps sp)(c:Cls X.K C)(hr:Room k X.A)(he:PE X o ta)(ha:PA X (e::es) t)
   (hst:starEach (e::es) X.env=(false,eval e X.env)::starEach es X.env:=by rfl) (hpl:(backTo pos (starEach es X.env)).any (·.1)=false:=by rfl)
   (ht:eval (.Call (.Attribute o m apos) (e::es) [] pos) X.env=(do
     let ov ← eval o X.env
     standAt apos.atName
     let (f,first) ← holding [ov] (getMethod ov m pl)
     callWith pos f first (backTo pos (starEach (e::es) X.env)) (backToKw pos (keywordEach [] X.env))):=by rfl) :
   PE X (.Call (.Attribute o m apos) (e::es) [] pos) (ZhZ C m sp EE ta t):=by
 obtain ⟨f,fd,F,b,hm⟩:=D
 intro pins s σ H Q I h
 refine PySem.W.methodCall_KW (pl:=pl) (Zm (he pins s σ H _ I h) fun u s1 ⟨x,H1,I1,rx,a,dx,fs,ex,ea,l,q⟩=>?_) ht
 subst ex
 obtain rfl:u=Value.ref a:=rx
 refine Wk I1 ea c hm l ?_
 refine PySem.W.callWith_K (h₀:=X.base) (first:=[.ref a]) I1.ok.mod.kin hm.kp (Zm (ha pos pins s1 σ H1 _ I1 q) fun us s2 ⟨vs,H2,I2,r,q2⟩=>⟨I2.kIn,?_⟩) hst hpl
 exact ZgB (us:=.ref a::us) (vs:=.ref a::vs) W F hr b I2 (.cons rfl r) q2
end
theorem Fun.okX {P:Program}{w:World}{K:PySem.W.Frag}{mg:Str→Option Value}{base:Heap}{x qual:Str}{st:Stmt}{f:Addr}{fd:FuncData}{N ps:List Str}{k:Nat}{sp:Sp}(F:Fun K x qual st f fd)(S:Zs N ps (Zj st))(len:∀ vs H Q E,sp vs H Q E→vs.length=ps.length)
   (hbody:∀ (cdv:Value) (A:Around) (outer:List Env) (s:Shared) (H:Hp) (vs:List V) (Q:VK) (E:XK),Room k (A.deeper (envOfC qual (Zj st) s.heap.objs.size f cdv))→sp vs H Q E →
     Ue (Wu (WR P w base) P w K mg base N qual (Zj st) f cdv A outer s H E) (fun _=>E) →
     ∃ t,PSs (Wu (WR P w base) P w K mg base N qual (Zj st) f cdv A outer s H E) (Xt st) t∧t { nx:=fun _ H'=>Q .non H',rt:=Q } (Xs N vs) H):FnOk P w K mg base (WR P w base) (k+1) f fd ps sp:=by
 obtain ⟨oc,od,kV,doc,pm,an,cdv,ct,osl,rfl,lk,hcd⟩:=F.ex
 exact ZfG lk hcd S len fun A outer s H vs Q E hr hsp=>hbody cdv A outer s H vs Q E hr hsp ZdI
end L2
set_option maxHeartbeats 1000000
namespace L2
open PySem PySem.Spec PyProof.Rows
def XN (ea C:Addr):HO:=.ext fun h=>∃ t:Addr,h.get? ea=some { cls:=.ref C,data:=.fields #[.ref t,.none,.none,.none,.bool false,.none] }
def XW (ea C dx:Addr):HO:=.ext fun h=>∃ t:Addr,h.get? ea=some { cls:=.ref C,dict:=some dx,data:=.fields #[.ref t,.none,.none,.none,.bool false,.none] }
structure XF (K:PySem.W.Frag)(C fI:Addr):Prop where
 xc:ZaQ K C=true
 init:PySem.W.findIn K (.ref C) "__init__"=some (some (.ref fI))
 sa:PySem.W.findIn K (.ref C) "__setattr__"=some (some (.builtin "object.__setattr__"))
 nw:PySem.W.findIn K (.ref C) "what"=some none
 fn:PySem.W.isFn K (.ref fI)=true
 kp:PySem.W.keepIn K (.ref C)=true
def ZiO (K:PySem.W.Frag)(ta tv:TE):TS:=fun D σ H=>tv σ H fun y H1=>ta σ H1 fun x H2=>∃ ea C fI,x=.ref ea∧H2 ea=some (XN ea C)∧XF K C fI∧∀ dx,H2 dx=none→dx≠ea→D.nx σ (upd (upd H2 dx (.xd [("what",y)])) ea (XW ea C dx))
section
variable {X:Cx}{o value:Expr}{pos pos':Pos}{ta tv:TE}
theorem ZgS (ha:PE X o ta)(hv:PE X value tv)(hs:swapsWith value (some (.Attribute o "what" pos')) pos.line X.env=pure false):PS X (.Assign [.Attribute o "what" pos'] value pos) (ZiO X.K ta tv):=by
 intro pins s σ H D I h
 refine plainObj_wpAny_Assign_Attribute (Zm (hv pins s σ H _ I h) fun u s1 ⟨y,H1,I1,ry,q⟩=>Zm (ha pins s1 σ H1 _ I1 q) fun ov s2 ⟨x,H2,I2,rx,ea,C,fI,ex,hea,xf,q2⟩=>?_) hs
 subst ex
 obtain rfl:ov=Value.ref ea:=rx
 obtain ⟨⟨t,hx⟩,_,_⟩:=(show ObjOk X.prog X.w H2 s2.heap ea (XN ea C) from I2.hok ea _ hea)
 obtain ⟨nm,qn,N,bs,bm,sn,sub,ab,col,dd,k0,k1,k2,k3,k5,hC,T⟩:=Ub I2.kIn xf.xc
 obtain ⟨hh,g,d,tk,os⟩:=s2
 have hdn:H2 hh.objs.size=none:=I2.hok.fresh (Nat.le_refl _)
 have hne:hh.objs.size≠ea:=Nat.ne_of_gt (Heap.lt_size hx)
 refine Zgj T hC (PySem.W.looks_findIn I2.kIn xf.sa) (PySem.W.looks_findIn I2.kIn xf.nw) hx rfl rfl (fun c z=>by cases z) fun h' tk' hx' hns hk=>⟨σ,_,?_,q2 _ hdn hne⟩
 have nea:∀ b,H2 b=none→b≠ea:=fun b e z=>by rw [z,hea] at e;cases e
 have ndx:∀ b ob,hh.get? b=some ob→b≠hh.objs.size:=fun b ob e=>Nat.ne_of_lt (Heap.lt_size e)
 refine I2.un (h':=h') (t':=tk') ⟨fun b ob e n _ _=>hk b ob (nea b n) e,fun b ob e n _ _=>⟨ob.slots,hk b ob (nea b n) e⟩,fun b ob e n _=>by rw [Zb (nea b n),Zb (ndx b ob e)];exact n,fun b ob e _=>?_,fun b xs e=>?_,fun b w xs e=>?_,fun b ps e=>?_⟩ fun b w e=>?_
 · by_cases z:b=ea
   · rw [z];exact ⟨_,hx'⟩
   · exact ⟨ob,hk b ob z e⟩
 · rw [Zb (fun z=>by rw [z,hea] at e;cases e),Zb (Zq e hdn)];exact e
 · rw [Zb (fun z=>by rw [z,hea] at e;cases e),Zb (Zq e hdn)];exact e
 · exact ⟨#[],by rw [Zb (fun z=>by rw [z,hea] at e;cases e),Zb (Zq e hdn),e];simp⟩
 · by_cases z:b=ea
   · subst z;rw [Zf] at e;cases e
     exact ⟨⟨t,hx'⟩,⟨_,hx'⟩,fun h1 h2 ⟨t,e⟩ k=>⟨t,k _ e⟩⟩
   · rw [Zb z] at e
     by_cases z2:b=hh.objs.size
     · subst z2;rw [Zf] at e;cases e
       refine ⟨_,hns,fun f=>?_⟩
       show RelO (List.lookup f [("what",y)]) (if f="what" then some u else none)
       by_cases hf:f="what"
       · rw [if_pos hf,hf];exact ry
       · rw [if_neg hf]
         have hb:(f == ("what":Str))=false:=beq_eq_false_iff_ne.mpr hf
         simp only [List.lookup,hb];exact True.intro
     · rw [Zb z2] at e
       refine (I2.hok b w e).stay (fun c u hc q=>?_) (fun c q=>?_) (fun c xs q=>?_)
       · refine hk c u (fun y=>?_) q
         rcases hc with rfl | hc
         · exact z y
         · rw [y,hea] at hc;cases hc
       · rw [Zb (fun y=>by rw [y,hea] at q;cases q),Zb (Zq q hdn)];exact q
       · rw [Zb (fun y=>by rw [y,hea] at q;cases q),Zb (Zq q hdn)];exact q
end
def Zej (K:PySem.W.Frag):Sp:=fun vs H Q _=>∃ (ea C fI:Addr) (v:V),vs=[.ref ea,v]∧H ea=some (XN ea C)∧XF K C fI∧∀ dx,H dx=none→dx≠ea→Q .non (upd (upd H dx (.xd [("what",v)])) ea (XW ea C dx))
def Uq (P:Program)(w:World)(K:PySem.W.Frag)(mg:Str→Option Value)(base:Heap)(k:Nat)(C:Addr)(x:Str):Prop :=
 ∃ fI fd,FnOk P w K mg base ZU k fI fd ["self","what"] (Zej K)∧Binds K fd ["self","what"] []∧XF K C fI∧mg x=some (.ref C)
def ZhN (C:Addr)(EE:St→XK)(t:TA):TS:=fun _ σ H=>t σ H fun vs H1=>∃ v,vs=[v]∧∀ dx,H1 dx=none→EE σ (.ref C) (some dx) (upd H1 dx (.xd [("what",v)]))
section
variable {X:Cx}{pins:List (Addr×Obj)}{σ:St}{H:Hp}{s:Shared}
def VR (H:Hp)(a:Addr):Hp:=fun b=>if b=a then none else H b
theorem XE {a b:Addr}(h:b≠a):VR H a b=H b:=if_neg h
theorem Inv.untrack {a:Addr}{φ:Heap→Prop}(I:Inv X pins σ H s)(e:H a=some (.ext φ))(O:X.Old a):Inv X pins σ (VR H a) s:=by
 have off:∀ b,H b=none→VR H a b=none:=fun b n=>by unfold VR;split;rfl;exact n
 refine ⟨I.ok,I.os,I.bare,⟨I.base.keep,I.base.slot,fun b u q n hx=>off b (I.base.free b u q n hx),I.base.there,fun b xs q=>?_,fun b u xs q=>?_,fun b ps q=>?_⟩,I.loc,I.cell,off _ I.free,fun x c hx=>off _ (I.freeC x c hx),fun p hp=>?_,fun b u q=>?_,I.len⟩
 · rw [XE (O.nt q)];exact I.base.tups b xs q
 · rw [XE (O.nf q)];exact I.base.frzs b u xs q
 · rw [XE (O.nb q)];exact I.base.tbls b ps q
 · obtain ⟨e1,e2,e3⟩:=I.pin p hp
   exact ⟨e1,off _ e2,e3⟩
 · by_cases z:b=a
   · subst z;unfold VR at q;rw [if_pos rfl] at q;cases q
   · rw [XE z] at q
     exact (I.hok b u q).stay (fun _ _ _ y=>y) (fun c y=>by rw [XE (fun z=>by rw [z,e] at y;cases y)];exact y) (fun c xs y=>by rw [XE (fun z=>by rw [z,e] at y;cases y)];exact y)
end
section
variable {X:Cx}{EE:St→XK}{k:Nat}{C:Addr}{x:Str}{np cpos pos:Pos}{e:Expr}{t:TA}
theorem Uz (W:Ue X EE)(D:Uq X.prog X.w X.K X.mg X.base k C x)(hr:Room (k+1) X.A)(hcalm:X.calm=true)(ha:PA X [e] t)(hg:Gl X x:=by rfl)(hdb:(x == ("__debug__":Str))=false:=by decide)
   (he:starEach [e] X.env=(false,eval e X.env)::starEach [] X.env:=by rfl) (hpl:(backTo cpos (starEach [] X.env)).any (·.1)=false:=by rfl):PS X (.Raise (some (.Call (.Name x np) [e] [] cpos)) none pos) (ZhN C EE t):=by
 obtain ⟨fI,fd,F,hb,xf,hm⟩:=D
 intro pins s σ H D I h
 rw [arm_exec_Raise]
 obtain ⟨nm,qn,N,bs,bm,sn,sub,ab,col,dd,k0,k1,k2,k3,k5,hCb,T⟩:=Ub I.ok.mod.kin xf.xc
 refine wpAny_bind (wpAny_standAt (ZgW (C:=C) (nm:=nm) (q:=qn) (N:=N) (bs:=bs) (sn:=sn) (sub:=sub) (ab:=ab) (col:=col) (dd:=dd) (k0:=k0) (k1:=k1) (k2:=k2) (k3:=k3) (k5:=k5) T (I.ok.hd hcalm) (wpAny_bind ?_)))
 refine wpAny_mono (Q:=fun v s₁=>∃ e oe vs,v=.ref e∧s₁.heap.get? C=some (excClassObj nm qn C N bs bm true sn sub ab col dd k0 k1 k2 k3 k5 "ValueError.__new__")∧s₁.heap.get? e=some oe∧oe.cls=.ref C∧oe.data=.fields vs∧vs[1]?=some .none∧X.xe (.ref e) s₁) ?_ (fun v s1 h1=>wpAny_bind (wpAny_standAt (wpAny_pure h1))) fun _ _ x=>x
 refine wpAny_Call_Name_kw (Xw I hg hm ?_ hdb)
 refine PySem.W.callWith_K (h₀:=X.base) I.ok.mod.kin xf.kp (Zm (ha cpos pins s σ H _ I h) fun us s1 ⟨vs,H1,I1,r,v,ev,q⟩=>⟨I1.kIn,?_⟩) he hpl
 subst ev
 obtain ⟨u,rfl,ru⟩:=YN r
 obtain ⟨hh,g,d,tk,os⟩:=s1
 have hC1:=I1.bk _ _ hCb
 obtain ⟨oI,hoI,hoc⟩:∃ oI,hh.get? fI=some oI∧oI.cls=.type "function":=by
   obtain ⟨oI,ho,hc⟩:=Option.map_eq_some_iff.mp (show (X.K.lookup fI).map (·.cls)=some (.type "function") from beq_iff_eq.mp xf.fn)
   exact ⟨oI,I1.kIn _ _ ho,hc⟩
 refine ZhM T hC1 (PySem.W.looks_findIn I1.kIn xf.init) hoI hoc (fun h' ea hm' hle=>?_) (by show 1≤sizeLine;decide)
 obtain ⟨t0,h0,h1,h2⟩:=hm'.there
 have hH1:H1 ea=none:=I1.hok.fresh hle
 have I2:Inv X pins σ (upd H1 ea (XN ea C)) ⟨h',g,d,tk,os⟩:=I1.laid (a:=ea) (o:=XN ea C) (h':=h') (t':=tk) hm'.keeps hle ⟨⟨t0,h0⟩,⟨_,h0⟩,fun h1 h2 ⟨t,e⟩ k=>⟨t,k _ e⟩⟩
 have hsp:Zej X.K [.ref ea,v] (upd H1 ea (XN ea C)) (fun w H'=>w=.non∧∃ dx,H1 dx=none∧dx≠ea∧H'=upd (upd (upd H1 ea (XN ea C)) dx (.xd [("what",v)])) ea (XW ea C dx)) E0 :=
   ⟨ea,C,fI,v,rfl,Zf,xf,fun dx h1 h2=>⟨rfl,dx,by rw [Zb h2] at h1;exact h1,h2,rfl⟩⟩
 have r2:Vals [V.ref ea,v] [Value.ref ea,u]:=.cons rfl (.cons ru .nil)
 refine wpAny_call (codeAny_mono (F.run _ X.stack _ _ ⟨[.ref ea,u],[]⟩ [.ref ea,u] _ _ E0 (hr.make C [u] []) (I2.env0.make C [u] []) (hb _ [.ref ea,u] I2.kIn rfl) r2 hsp) fun r s' hq=>?_)
 cases r with
 | error e=>exact hq.elim
 | ok fl =>
   cases fl with
   | next=>exact False.elim hq
   | brk=>exact False.elim hq
   | cont=>exact False.elim hq
   | ret u' =>
     obtain ⟨w,H3,I3,rw',⟨ew,dx,hdx,hde,eH⟩⟩:=I2.after hq
     subst ew eH
     refine ⟨rw',?_⟩
     have at3:upd (upd (upd H1 ea (XN ea C)) dx (.xd [("what",v)])) ea (XW ea C dx) ea=some (XW ea C dx):=Zf
     obtain ⟨⟨t3,hx3⟩,_,_⟩:=(show ObjOk X.prog X.w _ s'.heap ea (XW ea C dx) from I3.hok ea _ at3)
     have I4:=I3.untrack at3 (I1.old hH1)
     have eq4:VR (upd (upd (upd H1 ea (XN ea C)) dx (.xd [("what",v)])) ea (XW ea C dx)) ea=upd H1 dx (.xd [("what",v)]):=by
       funext b
       by_cases z:b=ea
       · subst z;unfold VR;rw [if_pos rfl,Zb (Ne.symm hde)];exact hH1.symm
       · rw [XE z,Zb z]
         by_cases z2:b=dx
         · subst z2;rw [Zf,Zf]
         · rw [Zb z2,Zb z2,Zb z]
     rw [eq4] at I4
     refine ⟨ea,_,_,rfl,I3.bk _ _ hCb,hx3,rfl,rfl,rfl,?_⟩
     refine W pins σ H1 _ ⟨hh,g,d,tk,os⟩ s' ea C dx none I1 I4 (.inl rfl) ⟨?_,by rw [Zb (Ne.symm hde)];exact hH1,hle,_,_,hx3,rfl,rfl,rfl,rfl⟩ (q dx hdx)
     cases qb:X.base.get? ea with
     | none=>rfl
     | some ob=>have:=I1.bk _ _ qb;rw [hm'.new] at this;cases this
end
end L2
set_option maxHeartbeats 1000000
namespace L2
open PySem PySem.Spec PyProof.Rows
open PySem.Builtin PySem.Builtin.ObjectAttr
section
variable {prog:Program}{w:World}{A:Around}{E:Value→Shared→Prop}{h:Heap}{g:Array GenState}{d:Drawn}{t:Nat}{os:OsState}
variable {nm q:Str}{C N a dx:Addr}{bs bm:List Value}{sn:List Str}{sub:List Value}{ab:Bool}{col:Option Bool}{dd:Option Addr}{k0 k1 k2 k3 k5:Option Value}{name:Str}{v:Value}{o:Obj}{vs:Array Value}{mA:Str→Option Value}
abbrev UT (h:Heap)(nm q:Str)(C N:Addr)(bs bm:List Value)(sn:List Str)(sub:List Value)(ab:Bool)(col:Option Bool)(dd:Option Addr)(k0 k1 k2 k3 k5:Option Value):Prop:=h.get? C=some (excClassObj nm q C N bs bm true sn sub ab col dd k0 k1 k2 k3 k5 "ValueError.__new__")
theorem Zcs {M:Model}{nameV:Value}{Q:Unit→Shared→Prop}(T:VT bm)(hC:UT h nm q C N bs bm sn sub ab col dd k0 k1 k2 k3 k5)
   (hx:h.get? a=some o) (hc:o.cls=.ref C) (hq:Q () ⟨h,g,d,t,os⟩):wpAny M A (checkBuiltinCall "BaseException.__getattribute__" ⟨[.ref a,nameV],[]⟩) Q E ⟨h,g,d,t,os⟩:=by
 have hk:builtinKind "BaseException.__getattribute__"=some .slot:=by decide +kernel
 have hsplit:splitId "BaseException.__getattribute__"=some ("BaseException","__getattribute__"):=by decide +kernel
 have hcB:(Value.ref C::bm).contains (.type "BaseException")=true:=by rw [List.contains_cons,T.has PySem.F.attrBase_ValueError.hasBase];rfl
 have ha:=PySem.F.args_bexc_ga (.ref a) nameV
 simp only [checkBuiltinCall,hk,hsplit]
 refine wpAny_bind ?_
 · unfold isInstance
   repeat (first | (with_reducible refine wpAny_loadPart_at hx ?_;rw [hc]) | (with_reducible refine wpAny_isSubtype_exc hC ?_;rw [hcB]) | wp_step)
   exact hq
theorem x_by {tk:Tok}{fill expr:Bool}{Q:Value→Shared→Prop}(T:VT bm)(hC:UT h nm q C N bs bm sn sub ab col dd k0 k1 k2 k3 k5)
   (LG:PySem.W.Looks (model prog w) h (typeLookup (.ref C) "__getattribute__") (some (.builtin "BaseException.__getattribute__"))) (LA:PySem.W.Looks (model prog w) h (typeLookup (.ref C) "__getattr__") none)
   (hx:h.get? a=some o) (hc:o.cls=.ref C) (hh:handedOut v=pure v)
   (he:∀ (A:Around) (R:PySem.Fin→Shared→Prop) (E:Value→Shared→Prop),R (.done (.ret v)) ⟨h,g,d,t,os⟩→wpAny (model prog w) A (Builtin.«object.__getattribute__» ⟨[.ref a,.str name tk],[]⟩) R E ⟨h,g,d,t,os⟩) (hq:Q v ⟨h,g,d,t,os⟩) :
   wpAny (model prog w) A (getAttrBy (.ref a) (.str name tk) fill expr) Q E ⟨h,g,d,t,os⟩:=by
 have FB:=PySem.F.attrBase_ValueError
 have f3:=FB.ga.bind (.ref a)
 have hx0:(expr&&onTheHeap (Value.builtin "BaseException.__getattribute__"))=false:=by cases expr<;>rfl
 have hx2:(Value.builtin "BaseException.__getattribute__" == Value.builtin "object.__getattribute__")=false:=by decide +kernel
 have hx1:(onTheHeap (Value.ref C)&&Value.builtin "BaseException.__getattribute__" == Value.builtin "object.__getattribute__")=false:=by rw [hx2];rfl
 have LG':∀ {A:Around} {Q:Option Value→Shared→Prop} {E:Value→Shared→Prop},Q (some (.builtin "BaseException.__getattribute__")) ⟨h,g,d,t,os⟩→wpAny (model prog w) A (typeLookup (.ref C) "__getattribute__") Q E ⟨h,g,d,t,os⟩:=fun q=>LG _ _ _ _ (fun _ _ e=>e) q
 have LA':∀ {A:Around} {Q:Option Value→Shared→Prop} {E:Value→Shared→Prop},Q none ⟨h,g,d,t,os⟩→wpAny (model prog w) A (typeLookup (.ref C) "__getattr__") Q E ⟨h,g,d,t,os⟩:=fun q=>LA _ _ _ _ (fun _ _ e=>e) q
 repeat (any_goals (first | assumption | (with_reducible refine wpAny_loadPart_at hx ?_;rw [hc]) | with_reducible refine LG' ?_ | with_reducible refine LA' ?_ | wp_step))
 refine codeAny_call_builtin FB.ga.plain PySem.F.entry_bexc_ga (Zcs T hC hx hc (he _ _ _ ?_))
 show wpAny _ _ (handedOut v) _ _ _
 rw [hh]
 exact wpAny_pure hq
theorem Zhq {tk:Tok}{Q:PySem.Fin→Shared→Prop}(hC:UT h nm q C N bs bm sn sub ab col dd k0 k1 k2 k3 k5)(LN:PySem.W.Looks (model prog w) h (typeLookup (.ref C) name) none)
   (hx:h.get? a=some o) (hc:o.cls=.ref C) (hdi:o.dict=some dx) (hd:o.data=.fields vs) (hns:h.Ns1 dx mA) (hv:mA name=some v) (hq:Q (.done (.ret v)) ⟨h,g,d,t,os⟩) :
   wpAny (model prog w) A (Builtin.«object.__getattribute__» ⟨[.ref a,.str name tk],[]⟩) Q E ⟨h,g,d,t,os⟩:=by
 have LN':∀ {A:Around} {Q:Option Value→Shared→Prop} {E:Value→Shared→Prop},Q none ⟨h,g,d,t,os⟩→wpAny (model prog w) A (typeLookup (.ref C) name) Q E ⟨h,g,d,t,os⟩:=fun q=>LN _ _ _ _ (fun _ _ e=>e) q
 unfold Builtin.«object.__getattribute__»
 repeat (first | (with_reducible refine wpAny_loadPart_at hx ?_;rw [hc]) | (with_reducible refine LN' ?_) | wp_step)
 split
 · rename_i c hcd
   rw [hd] at hcd;cases hcd
 unfold instanceDict
 repeat (first | (with_reducible refine wpAny_loadPart_at hx ?_;rw [hc]) | with_reducible refine wpAny_loadPart_at hC ?_ | wp_step)
 rw [hdi]
 repeat (first | (with_reducible refine wpAny_nsGet hns.ns ?_;rw [hv]) | wp_step)
 exact hq
theorem Zbr {R:Result→Shared→Prop}(T:VT bm)(hC:UT h nm q C N bs bm sn sub ab col dd k0 k1 k2 k3 k5)(hx:h.get? a=some o)(hc:o.cls=.ref C)(hq:R (.ok (.ret (.ref C))) ⟨h,g,d,t,os⟩) :
   codeAny (model prog w) A (.call (.builtin "getset_descriptor.__get__") ⟨[.builtin "object.__class__",.ref a,.ref C],[]⟩) R ⟨h,g,d,t,os⟩:=by
 have hT5:(⟨h,g,d,t,os⟩:Shared).TypeIs (.builtin "object.__class__") "getset_descriptor":=PySem.F.typeOf_object_class
 have hcB:(Value.ref C::bm).contains (.type (".".intercalate ("object.__class__".cutAt '.').dropLast))=true:=by
   rw [PySem.F.owner_object_class,List.contains_cons,T.has (b:=true) (by decide +kernel)];rfl
 refine codeAny_call_builtin PySem.F.slot_gs_get.plain PySem.F.entry_gs_get (PySem.F.slot_gs_get.check _ _ _ _ _ _ _ _ hT5 (PySem.F.args_gs_get _ _ _) ?_)
 repeat (any_goals (first | assumption | (with_reducible refine wpAny_loadPart_at hx ?_;rw [hc]) | (with_reducible refine wpAny_isSubtype_exc hC ?_;rw [hcB]) | wp_step))
 refine ⟨Code.quiet_builtin _ (by decide +kernel),codeAny_builtin PySem.F.entry_object_class ?_⟩
 repeat (any_goals (first | assumption | (with_reducible refine wpAny_loadPart_at hx ?_;rw [hc]) | wp_step))
theorem Zgo {tk:Tok}{Q:PySem.Fin→Shared→Prop}(T:VT bm)(hC:UT h nm q C N bs bm sn sub ab col dd k0 k1 k2 k3 k5)(LC:PySem.W.Looks (model prog w) h (typeLookup (.ref C) "__class__") (some (.builtin "object.__class__")))
   (hx:h.get? a=some o) (hc:o.cls=.ref C) (hq:Q (.done (.ret (.ref C))) ⟨h,g,d,t,os⟩) :
   wpAny (model prog w) A (Builtin.«object.__getattribute__» ⟨[.ref a,.str "__class__" tk],[]⟩) Q E ⟨h,g,d,t,os⟩:=by
 have LC':∀ {A:Around} {Q:Option Value→Shared→Prop} {E:Value→Shared→Prop},Q (some (.builtin "object.__class__")) ⟨h,g,d,t,os⟩→wpAny (model prog w) A (typeLookup (.ref C) "__class__") Q E ⟨h,g,d,t,os⟩:=fun q=>LC _ _ _ _ (fun _ _ e=>e) q
 have hT5:(⟨h,g,d,t,os⟩:Shared).TypeIs (.builtin "object.__class__") "getset_descriptor":=PySem.F.typeOf_object_class
 have f5:=PySem.F.typeOf_object_class
 have f6:=PySem.F.slot_gs_get.lookup
 have f7:=PySem.F.slot_gs_set.lookup
 repeat (any_goals (first | assumption | (with_reducible refine wpAny_loadPart_at hx ?_;rw [hc]) | (with_reducible refine LC' ?_) | wp_step))
 refine Zbr T hC hx hc ?_
 repeat (any_goals (first | assumption | wp_step))
end
structure XG (K:PySem.W.Frag)(C:Addr):Prop where
 xc:ZaQ K C=true
 nw:PySem.W.findIn K (.ref C) "what"=some none
 ga:PySem.W.findIn K (.ref C) "__getattribute__"=some (some (.builtin "BaseException.__getattribute__"))
 gh:PySem.W.findIn K (.ref C) "__getattr__"=some none
 gc:PySem.W.findIn K (.ref C) "__class__"=some (some (.builtin "object.__class__"))
theorem Zfc {K:PySem.W.Frag}{C ea:Addr}(G:XG K C):PySem.W.KitX K (.ref ea) (.ref C) (fun h=>∃ o,h.get? ea=some o∧o.cls=.ref C) where
 ty:=fun M h _ p=>by obtain ⟨o,h1,h2⟩:=p;exact h2 ▸ (PySem.W.Looks.ld h1).andThen .now
 it:=fun M h X p=>by
   obtain ⟨nm,qn,N,bs,bm,sn,sub,ab,col,dd,k0,k1,k2,k3,k5,hC,T⟩:=Ub X G.xc
   intro A' Q' E' s' k q
   unfold isType loadHead
   exact wpAny_bind (wpAny_loadPart (k _ _ hC) (wpAny_pure q))
 ne:=fun h tp dd its n sl X htp=>by
   obtain ⟨nm,qn,N,bs,bm,sn,sub,ab,col,dd,k0,k1,k2,k3,k5,hC,T⟩:=Ub X G.xc
   refine Bool.eq_false_iff.mpr fun q=>?_
   have e:C=tp:=Value.ref.inj (beq_iff_eq.mp q)
   subst e
   have z:=congrArg Obj.cls (Option.some.inj (hC.symm.trans htp))
   exact absurd (Value.type.inj z) (by decide)
 ca:=fun {prog w A E Q s} X p k=>by
   obtain ⟨nm,qn,N,bs,bm,sn,sub,ab,col,dd,k0,k1,k2,k3,k5,hC,T⟩:=Ub X G.xc
   obtain ⟨o,h1,h2⟩:=p
   obtain ⟨h,g,d,t,os⟩:=s
   have by':∀ {tk:Tok} {Q:Value→Shared→Prop} {E:Value→Shared→Prop} {A:Around},Q (.ref C) ⟨h,g,d,t+1,os⟩→wpAny (model prog w) A (getAttrBy (.ref ea) (.str "__class__" tk) false) Q E ⟨h,g,d,t+1,os⟩:=fun q =>
     x_by T hC (PySem.W.looks_findIn X G.ga) (PySem.W.looks_findIn X G.gh) h1 h2 rfl (fun A R E r=>Zgo T hC (PySem.W.looks_findIn X G.gc) h1 h2 r) q
   unfold getAttr? getAttrBy?
   repeat (any_goals (first | assumption | with_reducible apply by' | wp_step))
end L2
set_option maxHeartbeats 2000000
namespace L2
open PySem PySem.W PySem.Spec PyProof.Rows
section
variable {O:KeyOrd}{key:Nat→O.α}{n:Nat}{s:Shared}{cmp:Nat→Nat→(Bool→Shared→Prop)→Shared→Prop}
def KP (key:Nat→O.α)(p:Array Nat)(i:Nat):O.α:=key (p.getD i 0)
def Xo (key:Nat→O.α)(p:Array Nat)(k:Nat):Prop:=∀ i j,i≤j→j < k→O.kle (KP key p i) (KP key p j)
def ZaH (key:Nat→O.α)(p:Array Nat)(k:Nat):Prop:=∀ i j,i≤j→j < k→O.kle (KP key p j) (KP key p i)
def YG (key:Nat→O.α)(n:Nat)(s:Shared)(cmp:Nat→Nat→(Bool→Shared→Prop)→Shared→Prop):Prop:=∀ i j C,i < n→j < n→i≠j→C (O.blt (key i) (key j)) s→cmp i j C s
def PB (n:Nat)(p:Array Nat):Prop:=p.Perm (List.toArray (List.range n))
theorem PB.size {p:Array Nat}(h:PB n p):p.size=n:=by have:=h.size_eq;simpa using this
theorem PB.lt {p:Array Nat}(h:PB n p){i:Nat}(hi:i < n):p.getD i 0 < n:=by
 have hs:=h.size
 have hm:p[i]'(by omega)∈List.range n:=(Array.perm_iff_toList_perm.mp h).mem_iff.mp (by simp)
 have e:p.getD i 0=p[i]'(by omega):=by simp [Array.getD,show i < p.size by omega]
 rw [e];exact List.mem_range.mp hm
theorem UN {α:Type}{l:List α}(h:l.Nodup){i j:Nat}{hi:i < l.length}{hj:j < l.length}(e:l[i]=l[j]):i=j:=by
 have p:=List.pairwise_iff_getElem.mp h
 rcases Nat.lt_trichotomy i j with z | z | z
 · exact absurd e (p i j hi hj z)
 · exact z
 · exact absurd e.symm (p j i hj hi z)
theorem PB.ne {p:Array Nat}(h:PB n p){i j:Nat}(hi:i < n)(hj:j < n)(hij:i≠j):p.getD i 0≠p.getD j 0:=by
 have hs:=h.size
 have hnd:p.toList.Nodup:=(Array.perm_iff_toList_perm.mp h).nodup_iff.mpr List.nodup_range
 have e:∀ k,k < n→p.getD k 0=p.toList.getD k 0:=fun k hk=>by simp [Array.getD,show k < p.size by omega,List.getD_eq_getElem?_getD]
 have e2:∀ k (hk:k < n),p.toList.getD k 0=p.toList[k]'(by rw [Array.length_toList];omega):=fun k hk=>by simp [List.getD_eq_getElem?_getD,show k < p.size by omega]
 rw [e i hi,e j hj,e2 i hi,e2 j hj]
 intro z
 exact hij (UN hnd z)
theorem PB.mir {p:Array Nat}(h:PB n p)(i j:Nat):PB n (kas_rev p i j):=(mirror_perm _ _ _ _).trans h
theorem XB {p q:Array Nat}{i j:Nat}(h:p[i]?=q[j]?):KP key p i=KP key q j:=by
 unfold KP;rw [Array.getD_eq_getD_getElem?,Array.getD_eq_getD_getElem?,h]
theorem VD {p:Array Nat}{src d:Nat}(hs:src < p.size)(hd:d≤src)(k:Nat) :
   KP key (bubble p src d) k=if k=src - d then KP key p src else if src - d < k∧k≤src then KP key p (k - 1) else KP key p k:=by
 have e:=getElem?_bubble hs d hd k
 by_cases h1:k=src - d
 · rw [if_pos h1] at e ⊢;exact XB e
 · rw [if_neg h1] at e ⊢
   by_cases h2:src - d < k∧k≤src
   · rw [if_pos h2] at e ⊢;exact XB e
   · rw [if_neg h2] at e ⊢;exact XB e
theorem WE {p:Array Nat}{i j:Nat}(hj:j≤p.size)(k:Nat):KP key (kas_rev p i j) k=if i≤k∧k < j then KP key p (i+j - 1 - k) else KP key p k:=by
 have e:=getElem?_mirror_all (xs:=p) (i:=i) hj k
 unfold kas_rev
 by_cases h1:i≤k∧k < j
 · rw [if_pos h1] at e ⊢;exact XB e
 · rw [if_neg h1] at e ⊢;exact XB e
theorem Yo {p:Array Nat}{i j:Nat}(hj:j≤p.size)(heq:∀ k,i≤k→k < j→KP key p k=KP key p (j - 1))(k:Nat):KP key (kas_rev p i j) k=KP key p k:=by
 rw [WE hj]
 split
 · rw [heq _ (by omega) (by omega),heq k (by omega) (by omega)]
 · rfl
theorem Zba (cm:YG key n s cmp){nrem:Nat}(hn:nrem≤n){p:Array Nat}(B:PB n p){Q:Nat→Shared→Prop}:∀(f a:Nat),1≤a→a+f=nrem→Xo key p a →
   (∀ m,a≤m→m≤nrem→Xo key p m→(m=nrem∨O.klt (KP key p m) (KP key p (m - 1)))→Q m s)→(kas_asc p f a).kasWp cmp Q s
 | 0,a,h1,e,hs,h=>h a (Nat.le_refl _) (by omega) hs (.inl (by omega))
 | f + 1,a,h1,e,hs,h=>by
   refine cm _ _ _ (B.lt (by omega)) (B.lt (by omega)) (B.ne (by omega) (by omega) (by omega)) ?_
   cases hl:O.blt (key (p.getD a 0)) (key (p.getD (a - 1) 0)) with
   | true=>(try dsimp only);rw [if_pos rfl];exact h a (Nat.le_refl _) (by omega) hs (.inr hl)
   | false =>
     try dsimp only
     rw [if_neg (show ¬ (false=true) by decide)]
     refine Zba cm hn B f (a+1) (by omega) (by omega) (fun i j hij hj=>?_) fun m hm=>h m (by omega)
     by_cases hjx:j < a
     · exact hs i j hij hjx
     · have hj':j=a:=by omega
       subst hj'
       by_cases hi':i=j
       · subst hi';exact KeyOrd.kle_refl _
       · exact KeyOrd.kle_trans (hs i (j - 1) (by omega) (by omega)) hl
theorem ZaK (cm:YG key n s cmp){m nrem:Nat}(hn:nrem≤n)(h1:1≤m)(hm:m≤nrem){p:Array Nat}(B:PB n p)(hs:ZaH key p m){Q:Nat×Array Nat→Shared→Prop}
   (h:∀ k q,PB n q→1≤k→k≤nrem→Xo key q k→Q (k,q) s):(kas_tail3 m nrem p).kasWp cmp Q s:=by
 unfold kas_tail3
 rw [KasT.kasWp_bind]
 have hsz:m≤p.size:=by rw [B.size];omega
 refine Zba cm hn (B.mir 0 m) _ _ h1 (by omega) (fun i j hij hj=>?_) fun k hk1 hk2 hk3 _=>h k _ (B.mir 0 m) (by omega) hk2 hk3
 rw [WE hsz,WE hsz,if_pos (by omega),if_pos (by omega)]
 exact hs _ _ (by omega) (by omega)
theorem Ud (cm:YG key n s cmp){nrem:Nat}(hn:nrem≤n){Q:Array Nat×Nat×Nat→Shared→Prop}
   (h:∀ q m neq,PB n q→1≤m→m≤nrem→ZaH key q m→neq+1≤m→(∀ i,m - (neq+1)≤i→i < m→KP key q i=KP key q (m - 1))→Q (q,m,neq) s) :
   ∀ (f:Nat) (p:Array Nat) (x neq:Nat),PB n p→1≤x→x+f=nrem→ZaH key p x→neq+1≤x→(∀ i,x - (neq+1)≤i→i < x→KP key p i=KP key p (x - 1))→(kas_desc f p x neq).kasWp cmp Q s
 | 0,p,x,neq,B,h1,e,hs,hq,he=>h p x neq B h1 (by omega) hs hq he
 | f + 1,p,x,neq,B,h1,e,hs,hq,he=>by
   have hsz:x≤p.size:=by rw [B.size];omega
   refine cm _ _ _ (B.lt (by omega)) (B.lt (by omega)) (B.ne (by omega) (by omega) (by omega)) ?_
   cases hl:O.blt (key (p.getD x 0)) (key (p.getD (x - 1) 0)) with
   | true =>
     try dsimp only
     rw [if_pos rfl]
     have step1:∀ q:Array Nat,(∀ k,KP key q k=KP key p k)→ZaH key q (x+1):=by
       intro q hk i j hij hj
       rw [hk,hk]
       by_cases hjx:j < x
       · exact hs i j hij hjx
       · have hj':j=x:=by omega
         subst hj'
         by_cases hi':i=j
         · subst hi';exact KeyOrd.kle_refl _
         · exact KeyOrd.kle_trans (KeyOrd.kle_of_klt (show O.klt (KP key p j) (KP key p (j - 1)) from hl)) (hs i (j - 1) (by omega) (by omega))
     by_cases hneq:neq > 0
     · rw [if_pos hneq]
       exact Ud cm hn h f _ _ _ (B.mir _ _) (by omega) (by omega) (step1 _ (Yo hsz he)) (by omega) (fun i h1 h2=>by congr 1;omega)
     · rw [if_neg hneq]
       exact Ud cm hn h f _ _ _ B (by omega) (by omega) (step1 _ (fun _=>rfl)) (by omega) (fun i h1 h2=>by congr 1;omega)
   | false =>
     try dsimp only
     rw [if_neg (show ¬ (false=true) by decide)]
     refine cm _ _ _ (B.lt (by omega)) (B.lt (by omega)) (B.ne (by omega) (by omega) (by omega)) ?_
     cases hg:O.blt (key (p.getD (x - 1) 0)) (key (p.getD x 0)) with
     | true=>(try dsimp only);rw [if_pos rfl];exact h p x neq B h1 (by omega) hs hq he
     | false =>
       try dsimp only
       rw [if_neg (show ¬ (false=true) by decide)]
       have heqx:KP key p x=KP key p (x - 1):=KeyOrd.kle_antisymm hg hl
       refine Ud cm hn h f _ _ _ B (by omega) (by omega) (fun i j hij hj=>?_) (by omega) (fun i h1 h2=>?_)
       · by_cases hjx:j < x
         · exact hs i j hij hjx
         · have hj':j=x:=by omega
           subst hj'
           by_cases hi':i=j
           · subst hi';exact KeyOrd.kle_refl _
           · rw [heqx];exact hs i (j - 1) (by omega) (by omega)
       · rw [show x+1 - 1=x by omega]
         by_cases hix:i=x
         · subst hix;rfl
         · rw [heqx];exact he i (by omega) (by omega)
theorem Uj (cm:YG key n s cmp){m nrem:Nat}(hn:nrem≤n)(hm:m+1≤nrem){p:Array Nat}(B:PB n p)(hs:ZaH key p (m+1)){Q:Nat×Array Nat→Shared→Prop}
   (h:∀ k q,PB n q→1≤k→k≤nrem→Xo key q k→Q (k,q) s):(kas_descPart m nrem p).kasWp cmp Q s:=by
 unfold kas_descPart
 rw [KasT.kasWp_bind]
 refine Ud cm hn (fun q k neq B' h1 h2 hs' hq he=>?_) _ _ _ _ B (by omega) (by omega) hs (by omega) (fun i h1 h2=>by congr 1;omega)
 have hsz:k≤q.size:=by rw [B'.size];omega
 by_cases hneq:neq > 0
 · rw [if_pos hneq]
   refine ZaK cm hn h1 h2 (B'.mir _ _) (fun i j hij hj=>?_) h
   rw [Yo hsz he,Yo hsz he]
   exact hs' i j hij hj
 · rw [if_neg hneq]
   exact ZaK cm hn h1 h2 B' hs' h
theorem Zes (cm:YG key n s cmp){nrem:Nat}(hn:nrem≤n)(h1:1≤nrem){p:Array Nat}(B:PB n p){Q:Nat×Array Nat→Shared→Prop}
   (h:∀ k q,PB n q→1≤k→k≤nrem→Xo key q k→Q (k,q) s):(kas_count nrem p).kasWp cmp Q s:=by
 unfold kas_count
 rw [KasT.kasWp_bind]
 refine Zba cm hn B _ _ (Nat.le_refl 1) (by omega) (fun i j hij hj=>by have:i=j:=(by omega);subst this;exact KeyOrd.kle_refl _) fun m hm1 hm2 hsm hor=>?_
 by_cases hnn:m=nrem
 · rw [if_pos (by simpa using hnn)]
   exact h m p B hm1 hm2 hsm
 · rw [if_neg (by simpa using hnn)]
   have hlt:O.klt (KP key p m) (KP key p (m - 1)):=hor.resolve_left hnn
   by_cases hgt:m > 1
   · rw [if_pos hgt]
     refine cm _ _ _ (B.lt (by omega)) (B.lt (by omega)) (B.ne (by omega) (by omega) (by omega)) ?_
     cases hr:O.blt (key (p.getD 0 0)) (key (p.getD (m - 1) 0)) with
     | true=>(try dsimp only);rw [if_pos rfl];exact h m p B hm1 hm2 hsm
     | false =>
       try dsimp only
       rw [if_neg (show ¬ (false=true) by decide)]
       have hsz:m≤p.size:=by rw [B.size];omega
       have hall:∀ k,0≤k→k < m→KP key p k=KP key p (m - 1):=by
         intro k _ hk
         have a1:=hsm 0 k (by omega) hk
         have a2:=hsm k (m - 1) (by omega) (by omega)
         exact KeyOrd.kle_antisymm a2 (KeyOrd.kle_trans hr a1)
       refine Uj cm hn (by omega) (B.mir 0 m) (fun i j hij hj=>?_) h
       rw [Yo hsz hall,Yo hsz hall]
       by_cases hjn:j < m
       · rw [hall i (by omega) (by omega),hall j (by omega) hjn];exact KeyOrd.kle_refl _
       · have hj':j=m:=by omega
         subst hj'
         by_cases hi':i=j
         · subst hi';exact KeyOrd.kle_refl _
         · rw [hall i (by omega) (by omega)];exact KeyOrd.kle_of_klt hlt
   · rw [if_neg hgt]
     have hn1':m=1:=by omega
     subst hn1'
     refine Uj cm hn (by omega) B (fun i j hij hj=>?_) h
     by_cases hi':i=j
     · subst hi';exact KeyOrd.kle_refl _
     · have hi0:i=0:=by omega
       have hj1:j=1:=by omega
       subst hi0;subst hj1
       exact KeyOrd.kle_of_klt hlt
theorem Ux (cm:YG key n s cmp){p:Array Nat}(B:PB n p){k:Nat}(hk:k < n)(hs:Xo key p k){Q:Nat→Shared→Prop}
   (h:∀ l,l≤k→(∀ i,i < l→O.kle (KP key p i) (KP key p k))→(∀ i,l≤i→i < k→O.klt (KP key p k) (KP key p i))→Q l s) :
   ∀ (f l r:Nat),l≤r→r≤k→r - l≤f→(∀ i,i < l→O.kle (KP key p i) (KP key p k))→(∀ i,r≤i→i < k→O.klt (KP key p k) (KP key p i))→(kas_place p k f l r).kasWp cmp Q s
 | 0,l,r,hlr,hrk,hf,hlo,hhi=>h l (by omega) hlo fun i h1 h2=>hhi i (by omega) h2
 | f + 1,l,r,hlr,hrk,hf,hlo,hhi=>by
   unfold kas_place
   by_cases hge:l ≥ r
   · rw [if_pos hge];exact h l (by omega) hlo fun i h1 h2=>hhi i (by omega) h2
   · rw [if_neg hge]
     refine cm _ _ _ (B.lt hk) (B.lt (by omega)) (B.ne hk (by omega) (by omega)) ?_
     cases hl:O.blt (key (p.getD k 0)) (key (p.getD ((l+r) / 2) 0)) with
     | true =>
       try dsimp only
       rw [if_pos rfl]
       refine Ux cm B hk hs h f _ _ (by omega) (by omega) (by omega) hlo fun i h1 h2=>?_
       exact KeyOrd.klt_of_klt_of_kle (show O.klt (KP key p k) (KP key p ((l+r) / 2)) from hl) (hs _ _ h1 h2)
     | false =>
       try dsimp only
       rw [if_neg (show ¬ (false=true) by decide)]
       refine Ux cm B hk hs h f _ _ (by omega) (by omega) (by omega) (fun i h1=>?_) hhi
       exact KeyOrd.kle_trans (hs i ((l+r) / 2) (by omega) (by omega)) (show O.kle (KP key p ((l+r) / 2)) (KP key p k) from hl)
theorem Zdd (cm:YG key n s cmp){Q:Array Nat→Shared→Prop}(h:∀ q,PB n q→Xo key q n→Q q s):∀(f:Nat)(p:Array Nat)(k:Nat),PB n p→k+f=n→Xo key p k→(kas_bin f p k).kasWp cmp Q s
 | 0,p,k,B,e,hs=>h p B (by rw [← show k=n by omega];exact hs)
 | f + 1,p,k,B,e,hs=>by
   unfold kas_bin
   rw [KasT.kasWp_bind]
   have hk:k < n:=by omega
   have hks:k < p.size:=by rw [B.size];exact hk
   refine Ux cm B hk hs (fun l hl hlo hhi=>?_) _ _ _ (Nat.zero_le _) (Nat.le_refl _) (by omega) (fun i hi=>by omega) fun i h1 h2=>by omega
   refine Zdd cm h f _ _ ((bubble_perm _ _ _).trans B) (by omega) fun i j hij hj=>?_
   rw [VD hks (by omega),VD hks (by omega),show k - (k - l)=l by omega]
   repeat' split
   all_goals first
     | (exfalso;omega)
     | exact KeyOrd.kle_refl _
     | exact hlo _ (by omega)
     | exact KeyOrd.kle_of_klt (hhi _ (by omega) (by omega))
     | exact hs _ _ (by omega) (by omega)
theorem ZgK (cm:YG key n s cmp)(h1:1≤n){Q:Array Nat→Shared→Prop}(h:∀ q,PB n q→Xo key q n→Q q s):(kas_sort n).kasWp cmp Q s:=by
 unfold kas_sort
 rw [KasT.kasWp_bind]
 refine Zes cm (Nat.le_refl _) h1 (Array.Perm.refl _) fun k q B hk1 hk2 hs=>?_
 dsimp only
 by_cases hlt:k < n
 · rw [if_pos hlt,show max k 1=k by omega]
   exact Zdd cm h _ _ _ B (by omega) hs
 · rw [if_neg hlt]
   exact h q B (by rw [← show k=n by omega];exact hs)
end
end L2
set_option maxHeartbeats 2000000
namespace L2
open PySem PySem.W PySem.Spec PyProof.Rows
section
variable {prog:Program}{w:World}{A:Around}{E:Value→Shared→Prop}{s:Shared}{a:Addr}{as:List Addr}{ks:List Str}{P:PySem.Fin→Shared→Prop}
end
theorem VY {prog:Program}{w:World}{Ky:Type}[DecidableEq Ky]{knd:PySem.KeyKind prog w Ky}{A:Around}{E:Value→Shared→Prop}{s:Shared}{r d:Addr}{kvs:List (Ky×Value)}{ep:Nat}{R:List Value→Shared→Prop}(noH:A.handled=none)(vw:s.heap.IsItemsView r d)(dm:s.heap.DictAt knd d kvs ep)(few:kvs.length≤sizeLine)
   (k:∀ (h':Heap) (tk:Nat) (as:List Addr),s.heap.objs.size < h'.objs.size→(∀ b o,s.heap.get? b=some o→h'.get? b=some o)→as.length=kvs.length→KdxG knd kvs s.heap.objs.size h' as→R (as.map Value.ref) { s with heap:=h',toks:=tk }) :
   wpAny (model prog w) A (collect (.ref r)) R E s:=by
 have lr:r < s.heap.objs.size:=by obtain ⟨_,z,_⟩:=vw;exact Heap.lt_size z
 have ld:d < s.heap.objs.size:=dm.lt_size
 have vw':(s.heap.push { cls:=.type "list",data:=.seq ([]:List Value).toArray }).IsItemsView r d:=by obtain ⟨o,z,y⟩:=vw;exact ⟨o,Heap.get?_push_of_some _ z,y⟩
 have here:(s.heap.push { cls:=.type "list",data:=.seq ([]:List Value).toArray }).get? s.heap.objs.size=some { cls:=.type "list",data:=.seq #[] }:=Heap.get?_push_size _ rfl
 let Fin':Result→Shared→Prop:=fun q s'=>∃ (h':Heap) (tk:Nat) (its:Array Value) (c:Nat) (as:List Addr),(q=.ok (.ret (.ref s.heap.objs.size))∧s'={ s with heap:=h',toks:=tk })∧((∀ b o,s.heap.get? b=some o→h'.get? b=some o)∧h'.get? s.heap.objs.size=some { cls:=.type "list",dict:=none,data:=.seq its c,slots:=#[] })∧(as.length=kvs.length∧KdxG knd kvs s.heap.objs.size h' as)∧its.toList=as.map Value.ref
 have run:=kdx_extend (A:=A) (s:={ s with heap:=s.heap.push { cls:=.type "list",data:=.seq ([]:List Value).toArray } }) (kvs:=kvs) (knd:=knd) (ep:=ep) (R:=Fin') noH vw' (dm.push _) s.heap.objs.size (Nat.ne_of_gt lr) (Nat.ne_of_lt ld) (.ref s.heap.objs.size) 0 here
   (fun h' tk its c as hk hs hl hg ha=>⟨h',tk,its,c,as,⟨rfl,rfl⟩,⟨fun b o e=>hk b o (Nat.ne_of_lt (Heap.lt_size e)) (Heap.get?_push_of_some _ e),hs⟩,⟨hl,hg.low (Nat.le_trans (Nat.le_succ _) (Nat.le_of_eq (size_push' _ _).symm))⟩,ha⟩) few
 have fin:∀ s',Fin' (.ok (.ret (.ref s.heap.objs.size))) s'→wpAny (model prog w) A (do match (← load s.heap.objs.size).data with | .seq xs _=>pure xs.toList | _=>unsupported "internal:collect") R E s':=by
   rintro s' ⟨h',tk,its,c,as,⟨_,rfl⟩,⟨hk,hs⟩,⟨hl,hg⟩,ha⟩
   refine wpAny_bind (wpAny_load hs ?_)
   refine wpAny_pure (show R its.toList _ from ?_)
   rw [ha]
   exact k h' tk as (Heap.lt_size hs) hk hl hg
 unfold collect
 refine wpAny_bind (wpAny_runValue (codeAny_builtin entry_proto_collect' ?_))
 rw [Around.under_plainId PySem.F.plain_proto_collect _]
 refine wpAny_bind (m:=newList []) (wpAny_newObj_type (wpAny_pure ⟨plainId_quiet PySem.F.plain_list_iadd _,codeAny_builtin entry_list_iadd' ?_⟩))
 rw [Around.under_plainId PySem.F.plain_list_iadd _]
 refine wpAny_mono run (fun f s' x=>?_) fun e s' x=>?_
 · cases f with
   | done f =>
     obtain ⟨h',tk,its,c,as,⟨e,e2⟩,r'⟩:=x
     cases e
     exact fin s' ⟨h',tk,its,c,as,⟨rfl,e2⟩,r'⟩
   | again c₁ =>
     refine ⟨x.1,codeAny_mono x.2 fun q s₂ y=>?_⟩
     obtain ⟨h',tk,its,c,as,⟨e,e2⟩,r'⟩:=y
     subst e
     exact fin s₂ ⟨h',tk,its,c,as,⟨rfl,e2⟩,r'⟩
 · obtain ⟨_,_,_,_,_,⟨e',_⟩,_⟩:=x
   cases e'
def Us (H:Hp)(a:Addr):V:=match H a with
 | some (.tup [_,v])=>v
 | _=>.non
section
variable {X:Cx}
end
end L2
set_option maxHeartbeats 2000000
namespace L2
open PySem
end L2
set_option maxHeartbeats 2000000
namespace L2
open PySem
theorem Sep.im {Δ:Rs}{H:Hp}{a:Addr}{R T:Yi}[U:Up R](S:Sep ((a,R)::Δ) H)(f:∀ h,R a h→Same h H→(∀ b o,H b=some o→YB o=false→h b=some o)→T a h):Sep ((a,T)::Δ) H:=by
 obtain ⟨h,l,r,S⟩:=S
 have s1:Same h fun b=>match h b with | some o=>some o | none=>some_of H [] b:=fun b o e=>by simp only [e]
 have le:Same (fun b=>match h b with | some o=>some o | none=>some_of H [] b) H:=fun b o e=>by
   dsimp only at e
   cases q:h b with
   | some z=>rw [q] at e;cases e;exact l _ _ q
   | none=>rw [q] at e;exact Zcb _ _ e
 refine ⟨_,le,f _ (U.up r s1) le fun b o e m=>?_,S.mono fun b o e=>?_⟩
 · cases q:h b with
   | some z=>have:=l _ _ q;rw [e] at this;cases this;rfl
   | none=>exact Vz e m
 · obtain ⟨e1,e2⟩:=cut_some.mp e
   refine cut_some.mpr ⟨e1,fun u q=>?_⟩
   try dsimp only at q
   cases z:h b with
   | some x=>rw [z] at q;cases q;exact e2 _ z
   | none =>
     rw [z] at q
     cases mm:YB u with
     | false=>rfl
     | true=>have:=ZaI q mm;cases this
def PLs (ps:List (Str×V)):Yi:=fun l h=>∃ ts:List Addr,h l=some (.lst (ts.map V.ref))∧PairT h ts ps
instance {ps:List (Str×V)}:Up (PLs ps):=⟨fun ⟨ts,e,p⟩ s=>⟨ts,s _ _ e,p.tf s.tf⟩⟩
end L2
set_option maxHeartbeats 2000000
namespace L2
open PySem
end L2
set_option maxHeartbeats 2000000
namespace L2
open PySem PySem.Spec PyProof.Rows
def Itz (K:PySem.W.Frag)(l1 l2:Addr):It :=
 ⟨fun i H=>∃ xs ys x y,SqL K H l1 xs∧SqL K H l2 ys∧xs[i]?=some x∧ys[i]?=some y,
  fun i H v H'=>∃ t x y,H t=none∧(∀ xs,SqL K H l1 xs→xs[i]?=some x)∧(∀ ys,SqL K H l2 ys→ys[i]?=some y)∧v=.ref t∧H'=upd H t (.tup [x,y]),
  fun i H=>∃ xs ys,SqL K H l1 xs∧SqL K H l2 ys∧(xs.length≤i∨ys.length≤i)⟩
theorem Zfr {P:Program}{w:World}{K:PySem.W.Frag}{elts:List Expr}{x1:Nat}{tp:Pos}{z TI TO i1 i2 l1 l2:Addr}(D:ZipApart z TI TO i1 i2 l1 l2)(hTl1:l1≠TI)(hTl2:l2≠TI) :
   WP P w K (.Tuple elts x1 tp) (Itz K l1 l2) [z,TI,TO,i1,i2] z (fun i h=>IsZip h z TI TO .none∧IsPair h TI (.ref i1) (.ref i2)∧(∃ a b,IsPair h TO a b)∧h.IsListIter i1 l1 i∧h.IsListIter i2 l2 i) where
 mem:=by simp
 obj:=fun i h st b hb=>by
   obtain ⟨hz,hTI,⟨a,c,hTO⟩,⟨o1,ho1,c1,d1⟩,⟨o2,ho2,c2,d2⟩⟩:=st
   simp only [List.mem_cons,List.not_mem_nil,or_false] at hb
   rcases hb with q | q | q | q | q
   · rw [q];exact ⟨_,hz,fun v z=>by cases z⟩
   · rw [q];exact ⟨_,hTI,fun v z=>by cases z⟩
   · rw [q];exact ⟨_,hTO,fun v z=>by cases z⟩
   · rw [q];exact ⟨o1,ho1,fun v z=>by rw [d1] at z;cases z⟩
   · rw [q];exact ⟨o2,ho2,fun v z=>by rw [d2] at z;cases z⟩
 keep:=fun i h h' st k=>by
   obtain ⟨hz,hTI,⟨a,c,hTO⟩,h1,h2⟩:=st
   exact ⟨k z (by simp) _ hz,k TI (by simp) _ hTI,⟨a,c,k TO (by simp) _ hTO⟩,h1.at fun o y=>k i1 (by simp) o y,h2.at fun o y=>k i2 (by simp) o y⟩
 item:=by
   intro X hP hw hK hc i pins s σ H E I hf st hg
   subst hP hw hK
   obtain ⟨hz,hTI,⟨a,b,hTO⟩,h1,h2⟩:=st
   obtain ⟨xs,ys,x,y,hq1,hq2,hx,hy⟩:=hg
   obtain ⟨its1,rv1,p1,hz1⟩:=I.list hq1
   obtain ⟨its2,rv2,p2,hz2⟩:=I.list hq2
   obtain ⟨u1,hu1,ru1⟩:=rv1.get hx
   obtain ⟨u2,hu2,ru2⟩:=rv2.get hy
   refine wpAny_pyNext_zip_item D hz hTI hTO h1 h2 p1.isList p2.isList (by simpa using hu1) (by simpa using hu2) fun h' g1 g2 g3 g4 g5 g6 g7=>?_
   refine ⟨_,rfl,wpAny_letOwnedTupleGo_zip g1 fun h2' g1' hs2=>?_⟩
   have hzl:z < s.heap.objs.size:=Heap.lt_size hz
   have hTIl:TI < s.heap.objs.size:=Heap.lt_size hTI
   have hTOl:TO < s.heap.objs.size:=Heap.lt_size hTO
   have hi1l:i1 < s.heap.objs.size:=by obtain ⟨o,ho,_⟩:=h1;exact Heap.lt_size ho
   have hi2l:i2 < s.heap.objs.size:=by obtain ⟨o,ho,_⟩:=h2;exact Heap.lt_size ho
   have g5':h'.get? s.heap.objs.size=some ({ cls:=.type "tuple",data:=.seq #[u1,u2] }:Obj):=g5
   generalize hO:({ cls:=.type "tuple",data:=.seq #[u1,u2] }:Obj)=O at g5'
   have I1:Inv X pins σ (upd H s.heap.objs.size (.tup [x,y])) { s with heap:=s.heap.push O,toks:=s.toks }:=by
     refine I.laid (t':=s.toks) (fun b o y=>Heap.get?_push_of_some _ y) (Nat.le_refl _) (show ObjOk X.prog X.w _ _ _ (.tup _) from ⟨by show 2≤sizeLine;decide,[u1,u2],.cons ru1 (.cons ru2 .nil),?_⟩)
     rw [← hO];exact IsTup.new _ _
   have hfree:=I.hok.fresh (Nat.le_refl s.heap.objs.size)
   have hf2:∀ b∈[z,TI,TO,i1,i2],YC X pins (upd H s.heap.objs.size (.tup [x,y])) b:=fun b hb=>by
     obtain ⟨f0,f1⟩:=hf b hb
     have hb':b≠s.heap.objs.size:=by
       simp only [List.mem_cons,List.not_mem_nil,or_false] at hb
       rcases hb with q | q | q | q | q<;>(rw [q];exact Nat.ne_of_lt (by assumption))
     exact ⟨by rw [Zb hb'];exact f0,f1⟩
   have I2:Inv X pins σ (upd H s.heap.objs.size (.tup [x,y])) { s with heap:=h2',toks:=s.toks }:=by
     refine I1.turned2 (t':=s.toks) (h':=h2') (fun b o hb y=>?_) hf2
     have n1:b≠z:=fun q=>hb (by simp [q])
     have n2:b≠TO:=fun q=>hb (by simp [q])
     have n3:b≠i1:=fun q=>hb (by simp [q])
     have n4:b≠i2:=fun q=>hb (by simp [q])
     rw [hs2.2 b n1]
     rcases Heap.get?_push_cases y with ⟨q1,q2⟩ | y
     · rw [q1,q2];exact g5'
     · exact g7 b o n1 n2 n3 n4 y
   refine ⟨.ref s.heap.objs.size,_,I2,rfl,⟨s.heap.objs.size,x,y,hfree,fun ys hy'=>by rw [I.list_inj hy' hq1];exact hx,fun ys' hy'=>by rw [I.list_inj hy' hq2];exact hy,rfl,rfl⟩,⟨g1',?_,⟨u1,u2,?_⟩,?_,?_⟩,fun b hb=>(hf2 b hb).1⟩
   · show h2'.get? TI=_
     rw [hs2.2 TI D.TIz];exact g7 TI _ D.TIz D.TITO D.TIi1 D.TIi2 hTI
   · show h2'.get? TO=_
     rw [hs2.2 TO D.TOz];exact g2
   · exact g3.at fun o y=>by rw [hs2.2 i1 D.i1z];exact y
   · exact g4.at fun o y=>by rw [hs2.2 i2 D.i2z];exact y
 done:=by
   intro X hP hw hK hc i pins s σ H E I hf st hg
   subst hP hw hK
   obtain ⟨hz,hTI,⟨a,b,hTO⟩,h1,h2⟩:=st
   obtain ⟨xs,ys,hq1,hq2,hle⟩:=hg
   obtain ⟨its1,rv1,p1,hz1⟩:=I.list hq1
   obtain ⟨its2,rv2,p2,hz2⟩:=I.list hq2
   have l1:=rv1.length
   have l2:=rv2.length
   refine wpAny_pyNext_zip_end (I.ok.hd hc) D hz hTI hTO h1 h2 p1.isList p2.isList ?_ fun h' eb=>⟨rfl,I.turned2 (t':=s.toks) (fp:=[z,TI,TO,i1,i2]) (fun b o hb y=>eb b o (fun q=>hb (by simp [q])) (fun q=>hb (by simp [q])) (fun q=>hb (by simp [q])) (fun q=>hb (by simp [q])) y) hf⟩
   rcases hle with q | q
   · exact .inl (Array.getElem?_eq_none (by simp;omega))
   · exact .inr (Array.getElem?_eq_none (by simp;omega))
 self:=fun _ _ _ _ _ st h=>wpAny_pyIter_zip st.1 h
def iZip (K:PySem.W.Frag)(ta tb:TE):TI:=fun σ H R=>ta σ H fun v H1=>tb σ H1 fun u H2=>∃ a b xs ys,[v,u]=[V.ref a,V.ref b]∧H2 a=some (.lst xs)∧H2 b=some (.lst ys)∧R (Itz K a b) H2
section
variable {X:Cx}
theorem ZaM:bootBuiltins "zip"=some (.type "zip"):=by decide +kernel
theorem ZdH {l m:Expr}{ta tb:TE}{elts:List Expr}{x1:Nat}{tp p pos:Pos}(hg:Gl X "zip")(hm:X.mg "zip"=none)(hl:PE X l ta)(hr:PE X m tb)
   (he:starEach [l,m] X.env=(false,eval l X.env)::starEach [m] X.env:=by rfl) (he2:starEach [m] X.env=[(false,eval m X.env)]:=by rfl) (hpl:(backTo pos (starEach [m] X.env)).any (·.1)=false:=by rfl):PI X (.Tuple elts x1 tp) (.Call (.Name "zip" p) [l,m] [] pos) (iZip X.K ta tb):=by
 intro pins s σ H R I h
 have ha:PA X [l,m] (Xa ta (Xa tb XU)):=ZS hl (ZS hr Za he2) he
 refine wpAny_Call_Name_kw (XI I hg hm ZaM ?_)
 refine PyProof.Rows.callWith_type1 (Zm (ha pos pins s σ H (fun vs H2=>∃ a b xs ys,vs=[V.ref a,V.ref b]∧H2 a=some (.lst xs)∧H2 b=some (.lst ys)∧R (Itz X.K a b) H2) I h) fun us s1 ⟨vs,H1,I1,r1,a,b,xs,ys,e,ea,eb,q⟩=>?_) he hpl
 subst e
 obtain ⟨u1,u2,rfl,r2,r3⟩:∃ u1 u2,us=[u1,u2]∧RelV (V.ref a) u1∧RelV (V.ref b) u2:=by
   cases r1 with
   | cons p t=>cases t with
     | cons p2 t2=>cases t2;exact ⟨_,_,rfl,p,p2⟩
 cases r2
 cases r3
 obtain ⟨z1,its1,n1,rv1,hl1,eo1⟩:=I1.lstM ea
 obtain ⟨z2,its2,n2,rv2,hl2,eo2⟩:=I1.lstM eb
 have ha1:a < s1.heap.objs.size:=Heap.lt_size eo1
 have hb1:b < s1.heap.objs.size:=Heap.lt_size eo2
 refine call_zip_2 ⟨_,eo1,rfl,n1,rfl⟩ ⟨_,eo2,rfl,n2,rfl⟩ fun h' g1 g2 g3 g4 g5 g6 g7=>wpAny_pyIter_zip g1 ?_
 refine ⟨s1.heap.objs.size+4,[s1.heap.objs.size+4,s1.heap.objs.size+2,s1.heap.objs.size+3,s1.heap.objs.size,s1.heap.objs.size+1],_,_,H1,rfl,I1.kept (t':=s1.toks) g7,Zfr (l1:=a) (l2:=b) ⟨?_,?_,?_,?_,?_,?_,?_,?_,?_,?_,?_,?_,?_,?_,?_,?_,?_,?_⟩ ?_ ?_,⟨g1,g2,⟨_,_,g3⟩,g4,g5⟩,fun c hc=>?_,q⟩
 rotate_right
 · simp only [List.mem_cons,List.not_mem_nil,or_false] at hc
   have up:∀ k,YC X pins H1 (s1.heap.objs.size+k):=fun k=>I1.fpOk (Nat.le_add_right _ k) (I1.hok.fresh (Nat.le_add_right _ k))
   rcases hc with q | q | q | q | q
   · rw [q];exact up 4
   · rw [q];exact up 2
   · rw [q];exact up 3
   · rw [q];exact up 0
   · rw [q];exact up 1
 all_goals
   first
     | exact Nat.ne_of_lt (by first | (apply Nat.lt_of_lt_of_le (by assumption);omega) | (simp only [Nat.add_lt_add_iff_left];decide) | (show _ < _+_;exact Nat.lt_add_of_pos_right (by decide)))
     | exact Nat.ne_of_gt (by first | (simp only [Nat.add_lt_add_iff_left];decide) | exact Nat.lt_add_of_pos_right (by decide))
end
end L2
set_option maxHeartbeats 1000000
namespace L2
open PySem PySem.Spec PyProof.Rows
def Zjh (K:PySem.W.Frag)(ta:TE):TE:=fun σ H Q=>ta σ H fun x H1=>∃ (ea C dx:Addr) (fs:List (Str×V)) (v:V),x=.ref ea∧H1 ea=some (XO ea C dx)∧H1 dx=some (.xd fs)∧XG K C∧fs.lookup ("what":Str)=some v∧Q v H1
def TyX (K:PySem.W.Frag)(H:Hp)(x:V)(t:Value):Prop:=YX K H x t∨∃ ea C dx,x=.ref ea∧t=.ref C∧H ea=some (XO ea C dx)∧XG K C
def rIsi (K:PySem.W.Frag):List V→Hp→VK→Prop:=fun xs H Q=>∃ x c t b,xs=[x,c]∧TyX K H x t∧((∃ D,c=.ref D∧PySem.W.kitOne K t (.ref D)=some b)∨(∃ T,c=.ty T∧PySem.W.kitOne K t (.type T)=some b))∧Q (.bl b) H
section
variable {X:Cx}{e:Expr}{pos:Pos}{ta:TE}
theorem Zgu (he:PE X e ta)(hb:attributeBase e "what" X.env (eval e X.env)=eval e X.env):PE X (.Attribute e "what" pos) (Zjh X.K ta):=by
 intro pins s σ H Q I h
 refine ZbX hb (Zm (he pins s σ H _ I h) fun u s1 ⟨x,H1,I1,rx,ea,C,dx,fs,v,ex,hea,hdx,G,l,q⟩=>?_)
 subst ex
 obtain rfl:u=Value.ref ea:=rx
 obtain ⟨⟨oe,vs,he1,he2,he3,he4⟩,_,_⟩:=(show ObjOk X.prog X.w H1 s1.heap ea (XO ea C dx) from I1.hok ea _ hea)
 obtain ⟨mA,hns,hr⟩:=(show ObjOk X.prog X.w H1 s1.heap dx (.xd fs) from I1.hok dx _ hdx)
 obtain ⟨u,hu,ru⟩:=RelO.some_of (v:=v) (o:=mA "what") (by rw [← l];exact hr "what")
 obtain ⟨nm,qn,N,bs,bm,sn,sub,ab,col,dd,k0,k1,k2,k3,k5,hC,T⟩:=Ub I1.kIn G.xc
 have hK:=I1.kIn
 have I2:=I1.tok (s1.toks+1)
 obtain ⟨hh,g,d,tk,os⟩:=s1
 refine wpAny_bind (wpAny_mkText ?_)
 exact x_by T hC (PySem.W.looks_findIn hK G.ga) (PySem.W.looks_findIn hK G.gh) he1 he2 (PySem.W.handedOut_of (VG ru)) (fun A R E r=>Zhq hC (PySem.W.looks_findIn hK G.nw) he1 he2 he3 he4 hns hu r) ⟨v,H1,I2,ru,q⟩
theorem Zcc {pins:List (Addr×Obj)}{σ:St}{H:Hp}{s:Shared}{A:Around}{E:Value→Shared→Prop}{Q:Value→Shared→Prop}{c:Value}{b:Bool}{x:V}{u t:Value}(I:Inv X pins σ H s)(rx:RelV x u)(ty:TyX X.K H x t)(e:PySem.W.kitOne X.K t c=some b)(h:∀ tk,Q (.bool b) { s with toks:=tk }) :
   wpAny (model X.prog X.w) A (call (.builtin "isinstance") [u,c]) Q E s:=by
 rcases ty with ty | ⟨ea,C,dx,rfl,rfl,hea,G⟩
 · exact Zdw I rx ty e h
 · cases (show u=Value.ref ea from rx)
   obtain ⟨⟨oe,vs,he1,he2,_⟩,_,_⟩:=(show ObjOk X.prog X.w H s.heap ea (XO ea C dx) from I.hok ea _ hea)
   exact PySem.W.kia_one (Zfc G) I.kIn ⟨oe,he1,he2⟩ e (fun z=>nomatch z) h
theorem Yh:Yr X (.builtin "isinstance") (rIsi X.K):=by
 intro pins s σ H xs us Q I r h
 obtain ⟨x,c,t,b,rfl,ty,hc,q⟩:=h
 obtain ⟨u,u',rfl,ru,ru'⟩:=WW r
 rcases hc with ⟨D,rfl,e⟩ | ⟨T,rfl,e⟩
 · cases (show u'=Value.ref D from ru')
   exact Zcc I ru ty e fun tk=>⟨.bl b,H,I.tok tk,rfl,q⟩
 · cases (show u'=Value.type T from ru')
   exact Zcc I ru ty e fun tk=>⟨.bl b,H,I.tok tk,rfl,q⟩
end
section
variable {X:Cx}
end
theorem ZcA {K:PySem.W.Frag}{a b:Addr}{xs zs:List V}{g:TG}{tc:TT}{te:TE}{σ:St}{D:Addr}{Q:VK}{H:Hp}(hn:xs.length≤sizeLine)(Pv:Nat→List V→Hp→Prop)(h0:Pv 0 [] (upd H D (.lst [])))
   (hl:∀ i ys H,Pv i ys H→ys.length≤i∧SqL K H a xs∧SqL K H b zs)
   (hs:∀ i x z t ys H wa wb,xs[i]?=some x→zs[i]?=some z→H t=none→Pv i ys H→g (.ref t) (σ++[wa,wb]) (upd H t (.tup [x,z])) fun σ' H'=>(∃ wa wb,σ'=σ++[wa,wb])∧tc σ' H' fun b H3=>if b=true then te σ' H3 fun y H4=>H4 D=some (.lst ys)∧Pv (i+1) (ys++[y]) (upd H4 D (.lst (ys++[y]))) else Pv (i+1) ys H3)
   (hd:∀ ys H,Pv (min xs.length zs.length) ys H→Q (.ref D) H):CompVT (Itz K a b) g tc te σ D Q H:=by
 refine ⟨fun i m ys H=>m=xs.length - i∧i≤min xs.length zs.length∧Pv i ys H,⟨xs.length,by simp,Nat.zero_le _,h0⟩,?_⟩
 rintro i m ys H2 ⟨rfl,hi,p⟩
 obtain ⟨hlen,q1,q2⟩:=hl i ys _ p
 by_cases hlt:i < min xs.length zs.length
 · have h1:i < xs.length:=by omega
   have h2:i < zs.length:=by omega
   refine .inr ⟨⟨xs,zs,xs[i],zs[i],q1,q2,by simp [h1],by simp [h2]⟩,_,_,fun y H4 (q:H4 D=some (.lst ys)∧Pv (i+1) (ys++[y]) (upd H4 D (.lst (ys++[y]))))=>⟨q.1,by omega,xs.length - (i+1),by omega,rfl,hlt,q.2⟩,fun H4 (q:Pv (i+1) ys H4)=>⟨xs.length - (i+1),by omega,rfl,hlt,q⟩,fun wa wb v H3 y=>?_⟩
   obtain ⟨t,x,z,ht,hx,hz,rfl,rfl⟩:=y
   exact hs i x z t ys H2 wa wb (hx xs q1) (hz zs q2) ht p
 · have e:i=min xs.length zs.length:=by omega
   subst e
   exact .inl ⟨⟨xs,zs,q1,q2,by omega⟩,hd ys H2 p⟩
end L2
set_option maxHeartbeats 2000000
namespace L2
open PySem PySem.Spec PyProof.Rows
section
variable {X:Cx}{pins:List (Addr×Obj)}{σ:St}{H:Hp}{s:Shared}
end
end L2
set_option maxHeartbeats 2000000
namespace L2
open PySem
end L2
set_option maxHeartbeats 2000000
namespace L2
open PySem PySem.W PySem.Spec PyProof.Rows
section
variable {X:Cx}
end
end L2
set_option maxHeartbeats 2000000
namespace L2
open PySem
def tCut (t u:TS):TS:=fun D σ H=>∃ I:St→Hp→Prop,t { D with nx:=I } σ H∧∀ σ' H',I σ' H'→u D σ' H'
theorem Xe {X:Cx}{st:Stmt}{rest:List Stmt}{t u:TS}(h1:PS X st t)(h2:PSs X rest u):PSs X (st::rest) (tCut t u):=by
 intro pins s σ H D I h
 obtain ⟨J,h,g⟩:=h
 refine wpAny_execs_cons (Zm (h1 pins s σ H { D with nx:=J } I h) fun f s1 q=>?_)
 cases f with
 | next =>
   obtain ⟨σ',H',I',q⟩:=q
   exact h2 pins s1 σ' H' D I' (g _ _ q)
 | ret v=>exact q
 | brk=>exact q
 | cont=>exact q
end L2
set_option maxHeartbeats 2000000
namespace L2
open PySem PySem.Spec PyProof.Rows
def Zcg (X:Cx)(d:Addr):Prop:=∀ o u,X.H₀ d≠some (.frz o u)
section
variable {X:Cx}{pins:List (Addr×Obj)}{σ:St}{H:Hp}{s:Shared}{d:Addr}{o:Obj}{kvs:List (Zo×V)}
theorem Inv.freeze (I:Inv X pins σ H s)(e:H d=some (.dK kvs))(ho:s.heap.get? d=some o):Inv X pins σ (upd H d (.frz o (.dK kvs))) s :=
 I.write (x:=d) (e:=d) (o:=.frz o (.dK kvs)) (t':=s.toks) (h':=s.heap) (by rw [e];trivial) (.inl rfl) (fun b u _ q=>q) ⟨o,ho⟩ ⟨ho,show ObjOk X.prog X.w H s.heap d (.dK kvs) from I.hok d _ e⟩
theorem Inv.nofz (I:Inv X pins σ H s)(e:H d=some (.dK kvs)):Zcg X d:=fun o u z=>by
 have:=I.base.frzs d o u z
 rw [e] at this;cases this
theorem Inv.melt (I:Inv X pins σ H s)(e:H d=some (.frz o (.dK kvs)))(nf:Zcg X d):Inv X pins σ (upd H d (.dK kvs)) s:=by
 have hne:∀ {b},H b=none→b≠d:=fun n z=>by rw [z,e] at n;cases n
 refine ⟨I.ok,I.os,I.bare,⟨I.base.keep,I.base.slot,fun b ob q n hx=>?_,I.base.there,fun b xs q=>?_,fun b ob u q=>?_,fun b ps q=>?_⟩,I.loc,I.cell,?_,fun x c q=>?_,fun p hp=>?_,fun b u q=>?_,I.len⟩
 · have:=I.base.free b ob q n hx
   rw [Zb (hne this)];exact this
 · have:=I.base.tups b xs q
   rw [Zb (fun z=>by rw [z,e] at this;cases this)];exact this
 · rw [Zb (fun z=>by rw [z] at q;exact nf _ _ q)];exact I.base.frzs b ob u q
 · obtain ⟨more,this⟩:=I.base.tbls b ps q
   exact ⟨more,by rw [Zb (fun z=>by rw [z,e] at this;cases this)];exact this⟩
 · rw [Zb (hne I.free)];exact I.free
 · have:=I.freeC x c q
   rw [Zb (hne this)];exact this
 · obtain ⟨p1,p2,p3⟩:=I.pin p hp
   exact ⟨p1,by rw [Zb (hne p2)];exact p2,p3⟩
 · by_cases z:b=d
   · subst z
     rw [Zf] at q
     cases q
     exact (show ObjOk X.prog X.w H s.heap b (.dK kvs) from (show ObjOk X.prog X.w H s.heap b (.frz o (.dK kvs)) from I.hok b _ e).2)
   · rw [Zb z] at q
     exact (I.hok b u q).stay (fun _ _ _ q=>q) (fun c r=>by rw [Zb (fun z=>by rw [z,e] at r;cases r)];exact r) fun c xs r=>by rw [Zb (fun z=>by rw [z,e] at r;cases r)];exact r
end
def Itd (o:Obj)(d:Addr)(kvs:List (Zo×V)):It :=
 ⟨fun i H=>H d=some (.frz o (.dK kvs))∧i < kvs.length,fun i H v H'=>H'=H∧∃ p,kvs[i]?=some p∧v=kV p.1,fun i H=>H d=some (.frz o (.dK kvs))∧kvs.length≤i⟩
theorem ZaC {P:Program}{w:World}{H:Hp}{h:Heap}{d:Addr}{o:Obj}{kvs:List (Zo×V)}{es:Array DictEntry}{ep:Nat}(ok:HOk P w H h)(hd:o.data=.dict es ep)(e:H d=some (.frz o (.dK kvs))):∃ vs,KV kvs vs∧Heap.DictAt (ZD P w) h d vs ep:=by
 obtain ⟨hg,hz,lo,vs,kv,o',es',ep',ho,r1,r2,r3,r4,r5⟩:=(show ObjOk P w H h d (.frz o (.dK kvs)) from ok d _ e)
 rw [hg] at ho
 cases ho
 rw [hd] at r2
 cases r2
 exact ⟨vs,kv,o,es,hg,r1,hd,r3,r4,r5⟩
theorem Zdz {P:Program}{w:World}{K:PySem.W.Frag}{tg:Expr}{o:Obj}{es:Array DictEntry}{ep:Nat}{kvs:List (Zo×V)}(hd:o.data=.dict es ep)(d it:Addr):WP P w K tg (Itd o d kvs) [it] it (fun i h=>h.IsKeyIter it d i kvs.length ep) where
 mem:=by simp
 obj:=fun i h st b hb=>by
   have e:b=it:=by simpa using hb
   subst e
   obtain ⟨o,e,c,d⟩:=st
   exact ⟨o,e,fun v z=>by rw [d] at z;cases z⟩
 keep:=fun i h h' st k=>st.at fun o e=>k it (by simp) o e
 item:=by
   intro X hP hw hK hc i pins s σ H E I hf st hg
   subst hP hw hK
   obtain ⟨e,hi⟩:=hg
   obtain ⟨vs,kv,D⟩:=ZaC I.hok hd e
   have hlen:kvs.length=vs.length:=Paired.length kv
   obtain ⟨f0,f1,f2,f3,f4,f5⟩:=hf it (by simp)
   have hv:=List.getElem?_eq_getElem (l:=vs) (i:=i) (by omega)
   generalize vs[i]=pv at hv
   obtain ⟨pk,px⟩:=pv
   obtain ⟨vv,hkv,_⟩:=Zde kv hv
   refine wpAny_pyNext_dict_item (hlen ▸ st) D hv fun key h' hk st' sb=>?_
   have I1:Inv X pins σ H { s with heap:=h' }:=I.turned (t':=s.toks) (fun b o hb e=>(sb.2 b hb).trans e) f0 f1 f3 f4 f5
   have rk:RelV (kV pk) key:=by
     rw [UV] at hk
     rcases ZQ hk with ⟨j,t,e1,e2⟩ | ⟨y,t,e1,e2⟩
     · rw [e1,e2];exact ⟨t,rfl⟩
     · rw [e1,e2];exact ⟨t,rfl⟩
   obtain ⟨o9,e9,c9,d9⟩:=id st'
   exact ⟨key,rfl,ZcY (s:={ s with heap:=h' }) e9 c9 d9 (by decide) ⟨_,H,I1,rk,⟨rfl,_,hkv,rfl⟩,hlen ▸ st',fun b hb=>(hf b hb).1⟩⟩
 done:=by
   intro X hP hw hK hc i pins s σ H E I hf st hg
   subst hP hw hK
   obtain ⟨e,hi⟩:=hg
   obtain ⟨vs,kv,D⟩:=ZaC I.hok hd e
   have hlen:kvs.length=vs.length:=Paired.length kv
   obtain ⟨f0,f1,f2,f3,f4,f5⟩:=hf it (by simp)
   exact wpAny_pyNext_dict_end (I.ok.hd hc) (hlen ▸ st) D (List.getElem?_eq_none (by omega)) fun h' eb=>⟨rfl,I.turned (t':=s.toks) (fun b o hb e=>eb b o hb e) f0 f1 f3 f4 f5⟩
 self:=fun _ _ _ _ _ st h=>wpAny_pyIter_keyiter st h
def ZiG (X:Cx)(td:TE):TI:=fun σ H R=>td σ H fun x H1=>∃ d kvs,x=.ref d∧H1 d=some (.dK kvs)∧∀ o,Zcg X d→R (Itd o d kvs) (upd H1 d (.frz o (.dK kvs)))
def Zjg (X:Cx)(te:TE):TE:=fun σ H Q=>te σ H fun v H2=>∃ d o kvs,H2 d=some (.frz o (.dK kvs))∧Zcg X d∧Q v (upd H2 d (.dK kvs))
section
variable {X:Cx}{tg:Expr}
theorem Zgz {l:Expr}{tl:TE}(hl:PE X l tl):PI X tg l (ZiG X tl):=by
 intro pins s σ H R I h
 refine Zm (hl pins s σ H _ I h) fun v s1 ⟨x,H1,I1,r1,q1⟩=>?_
 obtain ⟨d,kvs,e,ed,q⟩:=q1
 subst e
 cases r1
 obtain ⟨hz,lo,vs,kv,o,es,ep,ho,r1,r2,r3,r4,r5⟩:=Wr I1.hok ed
 have hlen:kvs.length=vs.length:=Paired.length kv
 refine wpAny_pyIter_dict (knd:=ZD X.prog X.w) (kvs:=vs) (ep:=ep) lo ⟨o,es,ho,r1,r2,r3,r4,r5⟩ ?_
 have I2:=I1.freeze ed ho
 refine ⟨s1.heap.objs.size,[s1.heap.objs.size],_,_,_,rfl,I2.kept (t':=s1.toks) fun b o e=>Heap.get?_push_of_some _ e,Zdz (kvs:=kvs) r2 d _,⟨_,Heap.get?_push_size _ rfl,rfl,by rw [hlen];rfl⟩,fun b hb=>?_,q o (I1.nofz ed)⟩
 have e:b=s1.heap.objs.size:=by simpa using hb
 subst e
 exact I2.fpOk (Nat.le_refl _) (I2.hok.fresh (Nat.le_refl _))
theorem Zgl {e:Expr}{te:TE}(h:PE X e te):PE X e (Zjg X te):=by
 intro pins s σ H Q I z
 refine Zm (h pins s σ H _ I z) fun v s1 ⟨x,H1,I1,r1,q1⟩=>?_
 obtain ⟨d,o,kvs,e,nf,q⟩:=q1
 exact ⟨x,_,I1.melt e nf,r1,q⟩
end
end L2
set_option maxHeartbeats 2000000
namespace L2
open PySem PySem.W PySem.Spec PyProof.Rows
section
variable {X:Cx}
end
end L2
set_option maxHeartbeats 2000000
namespace L2
open PySem
end L2
set_option maxHeartbeats 2000000
namespace L2
open PySem PySem.W PySem.Spec PyProof.Rows
section
variable {X:Cx}
end
end L2
set_option maxHeartbeats 2000000
namespace L2
open PySem PySem.Spec PyProof.Rows
theorem ZdB {K:PySem.W.Frag}{a:Addr}{xs:List V}{g:TG}{tb:TS}{D:UE}{σ:St}{H:Hp}(Pv:Nat→St→Hp→Prop)(h0:Pv 0 σ H)(hl:∀ i σ H,i≤xs.length→Pv i σ H→SqL K H a xs)
   (hs:∀ i x t σ H,xs[i]?=some x→H t=none→Pv i σ H→g (.ref t) σ (upd H t (.tup [.int (i:Int),x])) fun σ2 H2=>tb { D with nx:=Pv (i+1),ct:=Pv (i+1),bk:=D.nx } σ2 H2) (hd:∀ σ H,Pv xs.length σ H→D.nx σ H) :
   ∃ W:Nat→Nat→St→Hp→Prop,(∃ m,W 0 m σ H)∧∀ i m σ H,W i m σ H →
     ((Ur K a).stop i H∧D.nx σ H)∨((Ur K a).go i H∧∃ N:St→Hp→Prop,(∀ σ' H',N σ' H'→∃ m',m' < m∧W (i+1) m' σ' H')∧∀ y H',(Ur K a).yld i H y H'→g y σ H' fun σ2 H2=>tb { D with nx:=N,ct:=N,bk:=D.nx } σ2 H2):=by
 refine ⟨fun i m σ H=>m=xs.length - i∧i≤xs.length∧Pv i σ H,⟨xs.length,by simp,Nat.zero_le _,h0⟩,?_⟩
 rintro i m σ H ⟨rfl,hi,p⟩
 have q:=hl i σ H hi p
 by_cases hlt:i < xs.length
 · refine .inr ⟨⟨xs,xs[i],q,by simp [hlt]⟩,Pv (i+1),fun σ' H' z=>⟨xs.length - (i+1),by omega,rfl,hlt,z⟩,fun y H' hy=>?_⟩
   obtain ⟨t,x,ht,hx,rfl,rfl⟩:=hy
   exact hs i x t σ H (hx xs q) ht p
 · have e:i=xs.length:=by omega
   subst e
   exact .inl ⟨⟨xs,q,Nat.le_refl _⟩,hd σ H p⟩
end L2
set_option maxHeartbeats 2000000
namespace L2
open PySem PySem.Spec PyProof.Rows
end L2
set_option maxHeartbeats 2000000
namespace L2
open PySem PySem.W PySem.Spec PyProof.Rows
section
variable {X:Cx}
end
end L2
set_option maxHeartbeats 1000000
namespace L2
open PySem PySem.Spec PyProof.Rows
section
variable {X:Cx}
end
end L2
set_option maxHeartbeats 2000000
namespace L2
open PySem PySem.W PySem.Spec PyProof.Rows
section
variable {X:Cx}{pins:List (Addr×Obj)}{σ:List (Option V)}{H:Hp}{s:Shared}
end
end L2
set_option maxHeartbeats 2000000
namespace L2
open PySem PySem.W PySem.Spec PyProof.Rows
section
variable {cs:Pn}{H H' H2:Hp}{h h':Heap}{b:Addr}{o:Obj}{P:Program}{w:World}{fs:List Addr}
end
end L2
set_option maxHeartbeats 2000000
namespace L2
open PySem PySem.W PySem.Spec PyProof.Rows
section
variable {P:Program}{w:World}{K:PySem.W.Frag}{mg:Str→Option Value}{base:Heap}{N:List Str}
end
end L2
set_option maxHeartbeats 2000000
namespace L2
open PySem PySem.W PySem.Spec PyProof.Rows
section
variable {X:Cx}{EE:St→XK}{k i:Nat}{x:Str}{p pos:Pos}
end
section
variable {X:Cx}{k j:Nat}{f:Str}{pn:Str}{sp:Sp}{p0 lpos pos:Pos}{args:Arguments}{body:Expr}{sc:Scope}{te:(St→XK)→TE}{c Pl:Addr}
end
end L2
set_option maxHeartbeats 2000000
namespace L2
open PySem PySem.W PySem.Spec PyProof.Rows
section
variable {X:Cx}
end
section
variable {P:Program}{w:World}{K:PySem.W.Frag}{mg:Str→Option Value}{base:Heap}{k:Nat}{RK:Addr→Str→Prop}{Pl:Addr}{qual:Str}{te:(St→XK)→TE}{σ:St}{H:Hp}{Q:VK}
end
section
variable {X:Cx}{k j:Nat}{RK:Addr→Str→Prop}{f:Str}{pn:Str}{p0 lpos pos:Pos}{args:Arguments}{body:Expr}{sc:Scope}{te:(St→XK)→TE}{c Pl:Addr}
end
end L2
set_option maxHeartbeats 2000000
namespace L2
open PySem
structure Fnd where
 wd:Nat
 nm:Str
 ol:V
def Fnd.vs (f:Fnd):List V:=[.int (f.wd:Int),.str f.nm,f.ol]
def ZcU (fs:List Fnd):Yi:=fun l h=>∃ as:List Addr,h l=some (.lst (as.map V.ref))∧as.length=fs.length∧∀(i:Nat)(a:Addr)(f:Fnd),as[i]?=some a→fs[i]?=some f→h a=some (.tup f.vs)
abbrev tFl (lf lu:Addr):List (Str×V):=[("finds",.ref lf),("unused",.ref lu)]
def Tks (CT:Addr)(fs:List Fnd)(us:List Bool):Yi:=fun t h=>∃ lf lu,Sep [(t,Yt CT (tFl lf lu)),(lf,ZcU fs),(lu,ZN (us.map V.bl))] h
structure Hs where
 dfs:List (Zo×V)
 pls:List Plc
 nds:List Nd
 tabs:List (Zo×V)
 spots:List Nat
 ins:List Nat
 fds:List Fnd
 us:List Bool
abbrev nI (n:Nat):V:=.int (n:Int)
abbrev hFl (d r sp i t:Addr):List (Str×V):=[("defaults",.ref d),("ways",.ref r),("spots",.ref sp),("inside",.ref i),("held",.ref t)]
abbrev Zet (K:PySem.W.Frag)(CH CR CS CT:Addr)(s:Hs)(h d r sp i t:Addr):Rs :=
 [(h,Yt CH (hFl d r sp i t)),(d,Wf s.dfs),(r,Roa K CR CS s.pls s.nds s.tabs),(sp,ZN (s.spots.map nI)),(i,ZN (s.ins.map nI)),(t,Tks CT s.fds s.us)]
def Xm (K:PySem.W.Frag)(CH CR CS CT:Addr)(s:Hs):Yi:=fun h hp=>∃ d r sp i t,Sep (Zet K CH CR CS CT s h d r sp i t) hp
section
variable {K:PySem.W.Frag}{CH CR CS CT h d r sp i t lf lu:Addr}{s:Hs}{fs:List Fnd}{us:List Bool}{Δ:Rs}{H:Hp}
instance:Up (Xm K CH CR CS CT s):=⟨fun ⟨d,r,sp,i,t,S⟩ e=>⟨d,r,sp,i,t,S.mono e⟩⟩
theorem Sep.halO (S:Sep ((h,Xm K CH CR CS CT s)::Δ) H):∃ d r sp i t,Sep ((h,Yt CH (hFl d r sp i t))::(d,Wf s.dfs)::(r,Roa K CR CS s.pls s.nds s.tabs)::(sp,ZN (s.spots.map nI))::(i,ZN (s.ins.map nI))::(t,Tks CT s.fds s.us)::Δ) H:=by
 obtain ⟨h',l,⟨d,r,sp,i,t,G⟩,S⟩:=S
 exact ⟨d,r,sp,i,t,Sep.nest (a:=h) (Γ:=Zet K CH CR CS CT s h d r sp i t) l G S⟩
theorem Sep.halC (S:Sep ((h,Yt CH (hFl d r sp i t))::(d,Wf s.dfs)::(r,Roa K CR CS s.pls s.nds s.tabs)::(sp,ZN (s.spots.map nI))::(i,ZN (s.ins.map nI))::(t,Tks CT s.fds s.us)::Δ) H):Sep ((h,Xm K CH CR CS CT s)::Δ) H :=
 Sep.pack (Γ:=Zet K CH CR CS CT s h d r sp i t) S fun h' G=>⟨d,r,sp,i,t,G⟩
theorem Sep.tksC (S:Sep ((t,Yt CT (tFl lf lu))::(lf,ZcU fs)::(lu,ZN (us.map V.bl))::Δ) H):Sep ((t,Tks CT fs us)::Δ) H :=
 Sep.pack (Γ:=[(t,Yt CT (tFl lf lu)),(lf,ZcU fs),(lu,ZN (us.map V.bl))]) S fun h' G=>⟨lf,lu,G⟩
theorem Zft:(hFl d r sp i t).lookup ("defaults":Str)=some (V.ref d):=rfl
theorem ZfH {m:Str}(h:[("defaults":Str),"ways","spots","inside","held"].all (fun k=>!(m == k))=true):(hFl d r sp i t).lookup m=none:=by
 simp only [List.all_cons,List.all_nil,Bool.and_true,Bool.and_eq_true,Bool.not_eq_true'] at h
 obtain ⟨h1,h2,h3,h4,h5⟩:=h
 simp [hFl,List.lookup,h1,h2,h3,h4,h5]
end
structure Vx (K:PySem.W.Frag)(CH:Addr):Prop where
 cl:Cls K CH
 nd:NoAttr K CH "defaults"
 nw:NoAttr K CH "ways"
 ns:NoAttr K CH "spots"
 ni:NoAttr K CH "inside"
 nh:NoAttr K CH "held"
structure TxtT (K:PySem.W.Frag)(CT:Addr):Prop where
 cl:Cls K CT
 nf:NoAttr K CT "finds"
 nu:NoAttr K CT "unused"
end L2
set_option maxHeartbeats 4000000
namespace K45
open PySem L2
section
variable {P:Program}{w:World}{K:PySem.W.Frag}{mg:Str→Option Value}{base:Heap}{CH CR CS CT:Addr}
def ZbV (CT:Addr):Sp:=fun vs H Q _=>∃(t dx:Addr)(H0:Hp)(Δ:Rs),vs=[.ref t]∧H=upd (upd H0 dx (.own t)) t (.ins CT dx [])∧H0 t=none∧H0 dx=none∧dx≠t∧Sep Δ H0∧∀ H',Sep ((t,Tks CT [] [])::Δ) H'→Q .non H'
abbrev nTIn:List Str:=["self"]
abbrev ZfO:List Str:=["self"]
theorem ZiK:Zs nTIn ZfO (Zj c_Tokens___init__):=⟨rfl,rfl,rfl,by decide +kernel,rfl,by decide +kernel,by decide +kernel⟩
theorem Zeq {f:Addr}{fd:FuncData}(F:Fun K "__init__" "Tokens.__init__" c_Tokens___init__ f fd)(T:Ye mg)(TT:TxtT K CT):FnOk P w K mg base ZU 1 f fd ZfO (ZbV CT):=by
 refine F.ok ZiK (fun vs H Q E h=>?_) (fun cdv A outer s H vs Q E hr h=>?_)
 · obtain ⟨t,dx,H0,Δ,rfl,_⟩:=h;rfl
 obtain ⟨t,dx,H0,Δ,rfl,rfl,h1,h2,h3,S0,q⟩:=h
 have S:=((S0.new h2 (.own t)).new (p:=t) (by rw [Zb h3.symm];exact h1) (.ins CT dx [])).drop dx
 generalize upd (upd H0 dx (.own t)) t (.ins CT dx [])=H at *
 refine' ⟨?t,?h,?r⟩
 case h =>
   conv=>arg 2;whnf
   with_reducible refine' (Zg ?h1 (Zi ?h2))
   case h1=>exact ZW (pv 0) (Zy Za) rfl
   case h2=>exact ZW (pv 0) (Zy Za) rfl
 refine ⟨(by show 0≤sizeLine;decide),fun lf hlf=>?_⟩
 generalize hE:upd H lf _=H2
 have S2:=S.newE hlf hE
 clear hE
 refine ⟨_,rfl,t,CT,dx,_,rfl,S2.get t,TT.cl,TT.nf,(by show 0 < 1000;decide),?_⟩
 generalize hE:upd H2 t _=H3
 have S3:=S2.putE hE
 clear hE
 refine ⟨(by show 0≤sizeLine;decide),fun lu hlu=>?_⟩
 generalize hE:upd H3 lu _=H4
 have S4:=S3.newE hlu hE
 clear hE
 refine ⟨_,rfl,t,CT,dx,_,rfl,S4.get t,TT.cl,TT.nu,(by show 1 < 1000;decide),?_⟩
 generalize hE:upd H4 t _=H5
 have S5:=S4.putE hE
 clear hE
 have S6:=S5.say lf (ZcU []) fun h z=>⟨[],z,rfl,fun i a s e=>by simp at e⟩
 have S7:=S6.say t (Yt CT (tFl lf lu)) fun h z=>⟨dx,z⟩
 exact q _ (Sep.tksC (us:=[]) (((S7.pull lu).pull lf).pull t))
def hs0:Hs:=⟨[],[],[.bare],[(Sum.inl 0,.bl true)],[0],[0],[],[]⟩
def ZbW (K:PySem.W.Frag)(CH CR CS CT:Addr):Sp:=fun vs H Q _=>∃(p dx:Addr)(H0:Hp)(Δ:Rs),vs=[.ref p]∧H=upd (upd H0 dx (.own p)) p (.ins CH dx [])∧H0 p=none∧H0 dx=none∧dx≠p∧Sep Δ H0∧∀ H',Sep ((p,Xm K CH CR CS CT hs0)::Δ) H'→Q .non H'
abbrev nHIn:List Str:=["self"]
abbrev Zfv:List Str:=["self"]
theorem Zjb:Zs nHIn Zfv (Zj c_Hall___init__):=⟨rfl,rfl,rfl,by decide +kernel,rfl,by decide +kernel,by decide +kernel⟩
theorem Zfh {f:Addr}{fd:FuncData}(F:Fun K "__init__" "Hall.__init__" c_Hall___init__ f fd)(T:Ye mg)(TH:Vx K CH)(DRd:WJ P w K mg base 11 CR "Roads" ["self"] (ZbT K CR CS))(DTk:WJ P w K mg base 1 CT "Tokens" ["self"] (ZbV CT)):FnOk P w K mg base ZU 13 f fd Zfv (ZbW K CH CR CS CT):=by
 refine F.ok Zjb (fun vs H Q E h=>?_) (fun cdv A outer s H vs Q E hr h=>?_)
 · obtain ⟨t,dx,H0,Δ,rfl,_⟩:=h;rfl
 obtain ⟨p,dx,H0,Δ,rfl,rfl,h1,h2,h3,S0,q⟩:=h
 have S:=((S0.new h2 (.own p)).new (p:=p) (by rw [Zb h3.symm];exact h1) (.ins CH dx [])).drop dx
 generalize upd (upd H0 dx (.own p)) p (.ins CH dx [])=H at *
 have hr2:=hr.mono (show 2≤12 by decide)
 refine' ⟨?t,?h,?r⟩
 case h =>
   conv=>arg 2;whnf
   with_reducible refine' (Zg ?h1 (Zg ?h2 (Zg ?h3 (Zg ?h4 (Zi ?h5)))))
   case h1=>exact ZW (pv 0) Zbh rfl
   case h2=>exact ZW (pv 0) (Zae DRd hr) rfl
   case h3=>exact ZW (pv 0) (Zy (Zd Ze Za)) rfl
   case h4=>exact ZW (pv 0) (Zy (Zd Ze Za)) rfl
   case h5=>exact ZW (pv 0) (Zae DTk hr2) rfl
 intro d hd
 generalize hE:upd H d _=H1
 have S1:=S.newE hd hE
 clear hE
 refine ⟨_,rfl,p,CH,dx,_,rfl,S1.get p,TH.cl,TH.nd,(by show 0 < 1000;decide),?_⟩
 generalize hE:upd H1 p _=H2
 have S2:=S1.putE hE
 clear hE
 intro r dr hr1 hdr hne
 refine ⟨r,dr,_,_,rfl,rfl,hr1,hdr,hne,S2,fun H3 S3=>⟨rfl,?_⟩⟩
 refine ⟨_,rfl,p,CH,dx,_,rfl,S3.get p,TH.cl,TH.nw,(by show 1 < 1000;decide),?_⟩
 generalize hE:upd H3 p _=H4
 have S4:=S3.putE hE
 clear hE
 refine ⟨(by show 1≤sizeLine;decide),fun sp hsp=>?_⟩
 generalize hE:upd H4 sp _=H5
 have S5:=S4.newE hsp hE
 clear hE
 refine ⟨_,rfl,p,CH,dx,_,rfl,S5.get p,TH.cl,TH.ns,(by show 2 < 1000;decide),?_⟩
 generalize hE:upd H5 p _=H6
 have S6:=S5.putE hE
 clear hE
 refine ⟨(by show 1≤sizeLine;decide),fun i hi=>?_⟩
 generalize hE:upd H6 i _=H7
 have S7:=S6.newE hi hE
 clear hE
 refine ⟨_,rfl,p,CH,dx,_,rfl,S7.get p,TH.cl,TH.ni,(by show 3 < 1000;decide),?_⟩
 generalize hE:upd H7 p _=H8
 have S8:=S7.putE hE
 clear hE
 intro t dt ht1 hdt hnt
 refine ⟨t,dt,_,_,rfl,rfl,ht1,hdt,hnt,S8,fun H9 S9=>⟨rfl,?_⟩⟩
 refine ⟨_,rfl,p,CH,dx,_,rfl,S9.get p,TH.cl,TH.nh,(by show 4 < 1000;decide),?_⟩
 generalize hE:upd H9 p _=H10
 have S10:=S9.putE hE
 clear hE
 have S11:=S10.say p (Yt CH (hFl d r sp i t)) fun h z=>⟨dx,z⟩
 exact q _ (Sep.halC (s:=hs0) (((((S11.pull t).pull i).pull sp).pull r).pull d |>.pull p))
abbrev RdH (K:PySem.W.Frag)(CH CR CS CT h:Addr)(s:Hs)(H:Hp):Prop:=Xm K CH CR CS CT s h H
end
end K45
set_option maxHeartbeats 2000000
namespace L2
open PySem PySem.W
def Vd (v:Option (Option Value))(x:String):Bool:=match v with
 | some (some (.builtin b))=>b == x
 | _=>false
def Zah (v:Option (Option Value)):Bool:=match v with
 | some none=>true
 | _=>false
def Vi (K:PySem.W.Frag)(CRo C fI:Addr)(cs n1 n2:List Addr)(j:Nat):Bool :=
 ((ZaQ K C&&Zah (findIn K (.ref C) "what"))&&(Vd (findIn K (.ref C) "__getattribute__") "BaseException.__getattribute__"&&(Zah (findIn K (.ref C) "__getattr__")&&Vd (findIn K (.ref C) "__class__") "object.__class__"))) &&
 (((match findIn K (.ref C) "__init__" with | some (some (.ref a))=>a == fI | _=>false)&&Vd (findIn K (.ref C) "__setattr__") "object.__setattr__")&&keepIn K (.ref C)) &&
 ((exmOne K (.ref C) (.ref CRo) == some true&&kitOne K (.ref C) (.type "ValueError") == some true) &&
  (((List.range cs.length).all fun i=>kitOne K (.ref C) (.ref (cs.getD i 0)) == some (decide (i=j)))&&(kitAny K (.ref C) (n1.map Value.ref) == some false&&kitAny K (.ref C) (n2.map Value.ref) == some false)))
structure RefK (K:PySem.W.Frag)(CRo:Addr)(cs n1 n2:List Addr)(C:Addr)(j:Nat):Prop where
 g:XG K C
 cat:exmOne K (.ref C) (.ref CRo)=some true
 ve:kitOne K (.ref C) (.type "ValueError")=some true
 is:∀ i,i < cs.length→kitOne K (.ref C) (.ref (cs.getD i 0))=some (decide (i=j))
 no1:kitAny K (.ref C) (n1.map Value.ref)=some false
 no2:kitAny K (.ref C) (n2.map Value.ref)=some false
theorem Zbo {v:Option (Option Value)}{x:String}(h:Vd v x=true):v=some (some (.builtin x)):=by
 unfold Vd at h
 split at h
 · rw [beq_iff_eq.mp h]
 · cases h
theorem ZaN {v:Option (Option Value)}(h:Zah v=true):v=some none:=by
 unfold Zah at h
 split at h
 · rfl
 · cases h
theorem WD {K:PySem.W.Frag}{CRo C fI:Addr}{cs n1 n2:List Addr}{j:Nat}(h:Vi K CRo C fI cs n1 n2 j=true):RefK K CRo cs n1 n2 C j∧(isFn K (.ref fI)=true→XF K C fI):=by
 unfold Vi at h
 simp only [Bool.and_eq_true,beq_iff_eq,List.all_eq_true,List.mem_range] at h
 obtain ⟨⟨⟨⟨a1,a2⟩,a3,a4,a5⟩,⟨b1,b2⟩,b3⟩,⟨c1,c2⟩,c3,c4,c5⟩:=h
 have g:XG K C:=⟨a1,ZaN a2,Zbo a3,ZaN a4,Zbo a5⟩
 refine ⟨⟨g,c1,c2,c3,c4,c5⟩,fun hf=>?_⟩
 have i1:findIn K (.ref C) "__init__"=some (some (.ref fI)):=by
   split at b1
   · rename_i e;rw [e,beq_iff_eq.mp b1]
   · cases b1
 exact ⟨a1,i1,Zbo b2,ZaN a2,hf,b3⟩
end L2
set_option maxHeartbeats 2000000
namespace L2
open PySem PySem.Spec PyProof.Rows PyProof.Rows.KTD
section
variable {δ:Type}{Rr:δ→Value→Prop}{prog:Program}{w:World}{A:Around}{E:Value→Shared→Prop}{s:Shared}{a:Addr}{D:List (Str×δ)}{k:Str}{tk:Tok}
end
section
variable {X:Cx}{o e:Expr}{apos cpos:Pos}{te:TE}{d:Addr}{D:List (Str×List V)}
end
end L2
set_option maxHeartbeats 2000000
namespace L2
open PySem PySem.Spec PyProof.Rows
section
variable {X:Cx}
end
end L2
set_option maxHeartbeats 2000000
namespace L2
open PySem PySem.Spec PyProof.Rows
section
variable {X:Cx}
end
section
variable {prog:Program}{w:World}{A:Around}{E:Value→Shared→Prop}{s:Shared}
end
section
variable {X:Cx}
end
end L2
set_option maxHeartbeats 2000000
namespace L2
open PySem PySem.Spec PyProof.Rows
end L2
set_option maxHeartbeats 2000000
namespace L2
open PySem PySem.Spec PyProof.Rows
section
variable {prog:Program}{w:World}{A:Around}{E:Value→Shared→Prop}{s:Shared}
theorem Uo {i t:Addr}{k:Nat}{its:Array Value}{x:Value}{Q:Value→Shared→Prop}(hi:s.heap.IsTupleIter i t k)(ht:s.heap.IsTuple t its)(hx:its[k]?=some x)
   (q:∀ h',h'.IsTupleIter i t (k+1)→Heap.SameBut i s.heap h'→Q x { s with heap:=h' }):wpAny (model prog w) A (Builtin.SmallTypes.nextOf (.ref i)) Q E s:=by
 obtain ⟨o,eo,oc,od⟩:=id hi
 obtain ⟨u,eu,_,n,du⟩:=ht
 unfold Builtin.SmallTypes.nextOf
 refine wpAny_bind (wpAny_callSpecial?_slot (name:=Str.ofString "__next__") hi.typeIs F.slot_tuple_iterator_next (wpAny_call_entry F.slot_tuple_iterator_next hi.typeIs F.entry_tuple_iterator_next ?_ (F.args_tuple_iterator_next_1 _)))
 refine wpAny_bind (m:=field (.ref i) 0) (wpAny_field eo od (x:=.ref t) rfl ?_)
 show wpAny _ _ (if (Value.ref t == Value.none)=true then _ else _) _ _ s
 rw [if_neg (by exact Bool.false_ne_true)]
 refine wpAny_bind (m:=field (.ref i) 1) (wpAny_field eo od (x:=.int k 0) rfl ?_)
 refine wpAny_bind (m:=seqItems? (.ref t)) (wpAny_seqItems eu du ?_)
 simp only [Int.toNat_natCast,hx]
 exact wpAny_bind (wpAny_setField eo od (by simp) (wpAny_pure ⟨x,rfl,wpAny_pure (q _ ⟨_,Heap.get?_update_self _ eo (Obj.isFreed_of_fields (Obj.data_mapFields od _)),(Obj.cls_mapFields ..).trans oc,by rw [Obj.data_mapFields od];simp [rawInt]⟩ (Heap.SameBut.update ..))⟩))
theorem ZcE {i t:Addr}{k:Nat}{its:Array Value}{Q:Value→Shared→Prop}(hh:A.handled=none)(hi:s.heap.IsTupleIter i t k)(ht:s.heap.IsTuple t its)(hx:its[k]?=none)
   (q:∀ h' e,Heap.ExtBut i s.heap h'→(∃ o,h'.get? e=some o∧o.cls=.type "StopIteration")→E (.ref e) { s with heap:=h' }):wpAny (model prog w) A (Builtin.SmallTypes.nextOf (.ref i)) Q E s:=by
 obtain ⟨o,eo,oc,od⟩:=id hi
 obtain ⟨u,eu,_,n,du⟩:=ht
 unfold Builtin.SmallTypes.nextOf
 refine wpAny_bind (wpAny_callSpecial?_slot (name:=Str.ofString "__next__") hi.typeIs F.slot_tuple_iterator_next (wpAny_call_entry F.slot_tuple_iterator_next hi.typeIs F.entry_tuple_iterator_next ?_ (F.args_tuple_iterator_next_1 _)))
 refine wpAny_bind (m:=field (.ref i) 0) (wpAny_field eo od (x:=.ref t) rfl ?_)
 show wpAny _ _ (if (Value.ref t == Value.none)=true then _ else _) _ _ s
 rw [if_neg (by exact Bool.false_ne_true)]
 refine wpAny_bind (m:=field (.ref i) 1) (wpAny_field eo od (x:=.int k 0) rfl ?_)
 refine wpAny_bind (m:=seqItems? (.ref t)) (wpAny_seqItems eu du ?_)
 simp only [Int.toNat_natCast,hx]
 refine wpAny_bind (wpAny_rule (wpAny_bind (wpAny_setField eo od (by simp) ?_)))
 refine wpAny_bind (m:=newExc (.type "StopIteration") []) ?_
 simp only [newExc,newTuple]
 refine wpAny_bind (wpAny_newObj_type ?_ (by size_fits))
 refine wpAny_bind (m:=firstArgMember _ _) (wpAny_of_eq (a:=Value.none) (by first | rfl | (simp only [firstArgMember];rfl)) ?_)
 refine wpAny_newObj_type ?_ (by size_fits)
 simp only [raiseNew]
 refine wpAny_bind (wpAny_handled ?_)
 first | rw [show A.in1.handled=none from hh] | rw [hh]
 exact wpAny_bind (wpAny_pure (wpAny_throw (q _ _ (((Heap.SameBut.update ..).extBut.push _).push _) ⟨_,Heap.get?_push_size _ rfl,rfl⟩)))
theorem Zfq {z TI TO i1 i2 l1 l2:Addr}{k:Nat}{xs ys:Array Value}{x y a b:Value}{Q:Option Value→Shared→Prop}(D:ZipApart z TI TO i1 i2 l1 l2)(hz:IsZip s.heap z TI TO .none)(hTI:IsPair s.heap TI (.ref i1) (.ref i2))(hTO:IsPair s.heap TO a b)
   (h1:s.heap.IsTupleIter i1 l1 k) (h2:s.heap.IsTupleIter i2 l2 k) (t1:s.heap.IsTuple l1 xs) (t2:s.heap.IsTuple l2 ys) (hx:xs[k]?=some x) (hy:ys[k]?=some y)
   (q:∀ h',IsZip h' z TI TO (rawInt s.heap.objs.size)→IsPair h' TO x y→h'.IsTupleIter i1 l1 (k+1)→h'.IsTupleIter i2 l2 (k+1)→IsPair h' s.heap.objs.size x y→h'.objs.size=s.heap.objs.size+1 →
     (∀ c o,c≠z→c≠TO→c≠i1→c≠i2→s.heap.get? c=some o→h'.get? c=some o)→Q (some (.ref s.heap.objs.size)) { s with heap:=h' }):wpAny (model prog w) A (pyNext (.ref z)) Q E s:=by
 have hT:s.TypeIs (.ref z) "zip":=⟨_,hz,rfl⟩
 unfold pyNext
 refine wpAny_bind (wpAny_attempt (wpAny_callSpecial?_slot (name:=Str.ofString "__next__") hT F.slot_zip_next (wpAny_call_entry F.slot_zip_next hT F.entry_zip_next ?_ (F.args_zip_next_1 _))))
 refine wpAny_bind (m:=field (.ref z) 2) (wpAny_field hz rfl (x:=.bool false) rfl ?_)
 refine wpAny_bind (m:=field (.ref z) 3) (wpAny_field hz rfl (x:=.ref TI) rfl ?_)
 refine wpAny_bind (wpAny_seqItems hTI rfl ?_)
 refine wpAny_bind (m:=Builtin.SmallTypes.ownedTupleIsFree (.ref z)) ?_
 unfold Builtin.SmallTypes.ownedTupleIsFree
 refine wpAny_bind (wpAny_field hz rfl (x:=.none) rfl (wpAny_pure ?_))
 simp only [if_true]
 refine wpAny_bind (wpAny_rule ?_)
 refine wpAny_bind (wpAny_field hz rfl (x:=.ref TO) rfl ?_)
 refine wpAny_bind (wpAny_setField_rec hz (by simp) fun ha hza sa=>?_)
 replace hza:IsZip ha z TI TO .ellipsis:=hza
 refine wpAny_bind ?_
 simp only [List.zipIdx_cons,List.zipIdx_nil,List.forIn_cons,List.forIn_nil]
 have Ea:=sa.extBut
 refine wpAny_bind (wpAny_bind (wpAny_onRaise ?_))
 refine wpAny_bind (m:=Builtin.SmallTypes.nextOf (.ref i1)) (Uo (h1.extBut Ea D.i1z) (t1.extBut Ea D.l1z) hx fun hb i1b sb=>wpAny_pure ?_)
 have Eb:=sb.extBut
 have TOb:IsPair hb TO a b:=Eb _ _ D.TOi1 (Ea _ _ D.TOz hTO)
 refine wpAny_bind (wpAny_seqItems TOb rfl ?_)
 refine wpAny_bind (wpAny_updateSeq_pair TOb fun hc TOc sc=>?_)
 replace TOc:IsPair hc TO x b:=TOc
 have Ec:=sc.extBut
 refine wpAny_bind (wpAny_letGo (wpAny_pure ?_))
 refine wpAny_bind (wpAny_bind (wpAny_onRaise ?_))
 refine wpAny_bind (m:=Builtin.SmallTypes.nextOf (.ref i2)) (Uo (((h2.extBut Ea D.i2z).extBut Eb D.i12.symm).extBut Ec D.TOi2.symm) (((t2.extBut Ea D.l2z).extBut Eb D.l2i1).extBut Ec D.l2TO) hy fun hd i2d sd=>wpAny_pure ?_)
 have Ed:=sd.extBut
 have TOd:IsPair hd TO x b:=Ed _ _ D.TOi2 TOc
 refine wpAny_bind (wpAny_seqItems TOd rfl ?_)
 refine wpAny_bind (wpAny_updateSeq_pair TOd fun he TOe se=>?_)
 replace TOe:IsPair he TO x y:=TOe
 have Ee:=se.extBut
 refine wpAny_bind (wpAny_letGo (wpAny_pure (wpAny_pure ?_)))
 refine wpAny_bind (wpAny_seqItems TOe rfl ?_)
 refine wpAny_bind (wpAny_newTuple ?_)
 have hsz:he.objs.size=s.heap.objs.size:=by rw [se.1,sd.1,sc.1,sb.1,sa.1]
 have all:∀ c o,c≠z→c≠TO→c≠i1→c≠i2→s.heap.get? c=some o→he.get? c=some o:=fun c o c1 c2 c3 c4 e=>Ee _ _ c2 (Ed _ _ c4 (Ec _ _ c2 (Eb _ _ c3 (Ea _ _ c1 e))))
 have ze:IsZip he z TI TO .ellipsis:=Ee _ _ D.TOz.symm (Ed _ _ D.i2z.symm (Ec _ _ D.TOz.symm (Eb _ _ D.i1z.symm hza)))
 have i1e:he.IsTupleIter i1 l1 (k+1):=((i1b.extBut Ec D.TOi1.symm).extBut Ed D.i12).extBut Ee D.TOi1.symm
 have i2e:he.IsTupleIter i2 l2 (k+1):=i2d.extBut Ee D.TOi2.symm
 have zl:z < he.objs.size:=Heap.lt_size ze
 refine wpAny_bind (m:=Builtin.SmallTypes.ownedTupleHandOut (.ref z) (.ref he.objs.size)) ?_
 unfold Builtin.SmallTypes.ownedTupleHandOut
 refine wpAny_bind (wpAny_setField_rec (show IsZip (he.push { cls:=.type "tuple",data:=.seq #[x,y] }) z TI TO .ellipsis from Heap.get?_push_of_some _ ze) (by simp) fun hf zf sf=>?_)
 replace zf:IsZip hf z TI TO (rawInt he.objs.size):=zf
 refine wpAny_setField_rec zf (by simp) fun hg zg sg=>?_
 replace zg:IsZip hg z TI TO (rawInt he.objs.size):=zg
 have up:∀ c o,c≠z→he.get? c=some o→hg.get? c=some o:=fun c o c1 e=>sg.extBut _ _ c1 (sf.extBut _ _ c1 (Heap.get?_push_of_some _ e))
 have new:IsPair hg he.objs.size x y:=sg.extBut _ _ (Nat.ne_of_gt zl) (sf.extBut _ _ (Nat.ne_of_gt zl) (Heap.get?_push_size _ rfl))
 have sz:hg.objs.size=he.objs.size+1:=by rw [sg.1,sf.1,Heap.size_push]
 rw [hsz] at zg new sz
 refine wpAny_pure ⟨_,rfl,?_⟩
 show wpAny _ _ (pure (some (Value.ref he.objs.size))) _ _ _
 rw [hsz]
 refine wpAny_pure (q hg zg (up _ _ D.TOz TOe) ?_ ?_ new sz fun c o c1 c2 c3 c4 e=>up c o c1 (all c o c1 c2 c3 c4 e))
 · obtain ⟨o,eo,r⟩:=i1e;exact ⟨o,up _ _ D.i1z eo,r⟩
 · obtain ⟨o,eo,r⟩:=i2e;exact ⟨o,up _ _ D.i2z eo,r⟩
theorem Zgf {z TI TO i1 i2 l1 l2:Addr}{k:Nat}{xs:Array Value}{a b:Value}{Q:Option Value→Shared→Prop}(hh:A.handled=none)(D:ZipApart z TI TO i1 i2 l1 l2)(hz:IsZip s.heap z TI TO .none)(hTI:IsPair s.heap TI (.ref i1) (.ref i2))(hTO:IsPair s.heap TO a b)
   (h1:s.heap.IsTupleIter i1 l1 k) (t1:s.heap.IsTuple l1 xs) (hx:xs[k]?=none)
   (q:∀ h',(∀ c o,c≠z→c≠TO→c≠i1→c≠i2→s.heap.get? c=some o→h'.get? c=some o)→Q none { s with heap:=h' }):wpAny (model prog w) A (pyNext (.ref z)) Q E s:=by
 have hT:s.TypeIs (.ref z) "zip":=⟨_,hz,rfl⟩
 unfold pyNext
 refine wpAny_bind (wpAny_attempt (wpAny_callSpecial?_slot (name:=Str.ofString "__next__") hT F.slot_zip_next (wpAny_call_entry F.slot_zip_next hT F.entry_zip_next ?_ (F.args_zip_next_1 _))))
 refine wpAny_bind (m:=field (.ref z) 2) (wpAny_field hz rfl (x:=.bool false) rfl ?_)
 refine wpAny_bind (m:=field (.ref z) 3) (wpAny_field hz rfl (x:=.ref TI) rfl ?_)
 refine wpAny_bind (wpAny_seqItems hTI rfl ?_)
 refine wpAny_bind (m:=Builtin.SmallTypes.ownedTupleIsFree (.ref z)) ?_
 unfold Builtin.SmallTypes.ownedTupleIsFree
 refine wpAny_bind (wpAny_field hz rfl (x:=.none) rfl (wpAny_pure ?_))
 simp only [if_true]
 refine wpAny_bind (wpAny_rule ?_)
 refine wpAny_bind (wpAny_field hz rfl (x:=.ref TO) rfl ?_)
 refine wpAny_bind (wpAny_setField_rec hz (by simp) fun ha hza sa=>?_)
 replace hza:IsZip ha z TI TO .ellipsis:=hza
 refine wpAny_bind ?_
 simp only [List.zipIdx_cons,List.zipIdx_nil,List.forIn_cons,List.forIn_nil]
 refine wpAny_bind (wpAny_bind (wpAny_onRaise ?_))
 refine wpAny_bind (m:=Builtin.SmallTypes.nextOf (.ref i1)) (ZcE hh (h1.extBut sa.extBut D.i1z) (t1.extBut sa.extBut D.l1z) hx fun hb e Eb he=>?_)
 obtain ⟨oe,eoe,ce⟩:=he
 have zb:IsZip hb z TI TO .ellipsis:=Eb _ _ D.i1z.symm hza
 have ez:e≠z:=fun x=>by subst x;rw [zb] at eoe;cases eoe;simp at ce
 refine wpAny_setField_rec zb (by simp) fun hc _ sc=>?_
 refine wpAny_bind (wpAny_isInstance (T:="StopIteration") (b:=true) ⟨oe,sc.extBut _ _ ez eoe,ce⟩ isSubtype_stop ?_)
 exact wpAny_pure (q _ fun c o c1 _ c3 _ x=>sc.extBut _ _ c1 (Eb _ _ c3 (sa.extBut _ _ c1 x)))
end
abbrev Ya (l:Addr):Obj:={ cls:=.type "tuple_iterator",data:=.fields #[.ref l,.int 0 0] }
abbrev Vq (h:Heap)(l1 l2:Addr):Heap:=((((h.push (Ya l1)).push (Ya l2)).push { cls:=.type "tuple",data:=.seq #[.ref h.objs.size,.ref (h.push (Ya l1)).objs.size] }).push { cls:=.type "tuple",data:=.seq #[.none,.none] })
theorem ZgO (l1 l2:Addr)(xs ys:Array Value):Meets (Builtin.«zip.__new__» ⟨[.type "zip",.ref l1,.ref l2],[]⟩) (fun _ R s=>s.heap.IsTuple l1 xs∧s.heap.IsTuple l2 ys ∧
     R (.ok (.ret (.ref (Vq s.heap l1 l2).objs.size))) { s with heap:=(Vq s.heap l1 l2).push { cls:=.type "zip",data:=.fields #[.none,.bool false,.bool false,.ref ((s.heap.push (Ya l1)).push (Ya l2)).objs.size,.ref (((s.heap.push (Ya l1)).push (Ya l2)).push { cls:=.type "tuple",data:=.seq #[.ref s.heap.objs.size,.ref (s.heap.push (Ya l1)).objs.size] }).objs.size] } }) :=
 .of_wp fun prog w A R s h=>by
   obtain ⟨hp,g,d,tk,os⟩:=s;obtain ⟨hl1,hl2,h⟩:=h
   have hsub:=sub_zip
   have hL1:Heap.IsTuple (Shared.heap ⟨hp,g,d,tk,os⟩) l1 xs:=hl1
   have hL2:Heap.IsTuple (Shared.heap ⟨hp.push (Ya l1),g,d,tk,os⟩) l2 ys:=Heap.IsTuple.push hl2 _
   wp_walk using wpAny_pyIter_tuple hL1,wpAny_pyIter_tuple hL2
   exact ⟨_,rfl,h⟩
section
variable {prog:Program}{w:World}{A:Around}{E:Value→Shared→Prop}{s:Shared}
theorem Zem {l1 l2:Addr}{xs ys:Array Value}{Q:Value→Shared→Prop}(hl1:s.heap.IsTuple l1 xs)(hl2:s.heap.IsTuple l2 ys)
   (h:∀ h',IsZip h' (s.heap.objs.size+4) (s.heap.objs.size+2) (s.heap.objs.size+3) .none→IsPair h' (s.heap.objs.size+2) (.ref s.heap.objs.size) (.ref (s.heap.objs.size+1)) →
     IsPair h' (s.heap.objs.size+3) .none .none→h'.IsTupleIter s.heap.objs.size l1 0→h'.IsTupleIter (s.heap.objs.size+1) l2 0→h'.objs.size=s.heap.objs.size+5 →
     (∀ c o,s.heap.get? c=some o→h'.get? c=some o)→Q (.ref (s.heap.objs.size+4)) { s with heap:=h' }):wpAny (model prog w) A (call (.type "zip") [.ref l1,.ref l2]) Q E s:=by
 refine callType_new F.called_zip (by decide) (F.typeCall_zip_2 _ _) (F.newCall_zip_2 _ _) (fun obj=>F.args_object_init_3 obj _ _) F.entry_zip_new (ZgO l1 l2 xs ys) ⟨hl1,hl2,?_⟩
 have z1:(s.heap.push (Ya l1)).objs.size=s.heap.objs.size+1:=Heap.size_push ..
 have z2:((s.heap.push (Ya l1)).push (Ya l2)).objs.size=s.heap.objs.size+2:=by rw [Heap.size_push,z1]
 have z3:(((s.heap.push (Ya l1)).push (Ya l2)).push { cls:=.type "tuple",data:=.seq #[.ref s.heap.objs.size,.ref (s.heap.push (Ya l1)).objs.size] }).objs.size=s.heap.objs.size+3:=by rw [Heap.size_push,z2]
 have z4:(Vq s.heap l1 l2).objs.size=s.heap.objs.size+4:=by rw [Heap.size_push,z3]
 show _∧_
 rw [z4,z3,z2]
 have up:∀ {h:Heap} {o:Obj} {c:Addr} {u:Obj},h.get? c=some u→(h.push o).get? c=some u:=fun e=>Heap.get?_push_of_some _ e
 have g5:((Vq s.heap l1 l2).push { cls:=.type "zip",data:=.fields #[.none,.bool false,.bool false,.ref (s.heap.objs.size+2),.ref (s.heap.objs.size+3)] }).get? (Vq s.heap l1 l2).objs.size=some _:=Heap.get?_push_size _ rfl
 have g4:(Vq s.heap l1 l2).get? _=some _:=Heap.get?_push_size _ rfl
 have g3:(((s.heap.push (Ya l1)).push (Ya l2)).push { cls:=.type "tuple",data:=.seq #[.ref s.heap.objs.size,.ref (s.heap.push (Ya l1)).objs.size] }).get? _=some _:=Heap.get?_push_size _ rfl
 have g2:((s.heap.push (Ya l1)).push (Ya l2)).get? _=some _:=Heap.get?_push_size _ rfl
 have g1:(s.heap.push (Ya l1)).get? _=some _:=Heap.get?_push_size _ rfl
 rw [z4] at g5
 rw [z3] at g4
 rw [z2] at g3
 rw [z1] at g2
 conv at g3=>rhs;rw [z1]
 exact ⟨⟨_,g5,rfl⟩,h _ g5 (up (up g3)) (up g4) ⟨_,up (up (up (up g1))),rfl,rfl⟩ ⟨_,up (up (up g2)),rfl,rfl⟩ (by rw [Heap.size_push,z4]) fun c o x=>up (up (up (up (up x))))⟩
end
def ZcJ (K:PySem.W.Frag)(l1 l2:Addr):It :=
 ⟨fun i H=>∃ xs ys x y,SqT K H l1 xs∧SqT K H l2 ys∧xs[i]?=some x∧ys[i]?=some y,
  fun i H v H'=>∃ t x y,H t=none∧(∀ xs,SqT K H l1 xs→xs[i]?=some x)∧(∀ ys,SqT K H l2 ys→ys[i]?=some y)∧v=.ref t∧H'=upd H t (.tup [x,y]),
  fun i H=>∃ xs ys,SqT K H l1 xs∧SqT K H l2 ys∧xs.length≤i⟩
theorem Zdc {P:Program}{w:World}{K:PySem.W.Frag}{elts:List Expr}{x1:Nat}{tp:Pos}{z TI TO i1 i2 l1 l2:Addr}(D:ZipApart z TI TO i1 i2 l1 l2)(hTl1:l1≠TI)(hTl2:l2≠TI) :
   WP P w K (.Tuple elts x1 tp) (ZcJ K l1 l2) [z,TI,TO,i1,i2] z (fun i h=>IsZip h z TI TO .none∧IsPair h TI (.ref i1) (.ref i2)∧(∃ a b,IsPair h TO a b)∧h.IsTupleIter i1 l1 i∧h.IsTupleIter i2 l2 i) where
 mem:=by simp
 obj:=fun i h st b hb=>by
   obtain ⟨hz,hTI,⟨a,c,hTO⟩,⟨o1,ho1,c1,d1⟩,⟨o2,ho2,c2,d2⟩⟩:=st
   simp only [List.mem_cons,List.not_mem_nil,or_false] at hb
   rcases hb with q | q | q | q | q
   · rw [q];exact ⟨_,hz,fun v z=>by cases z⟩
   · rw [q];exact ⟨_,hTI,fun v z=>by cases z⟩
   · rw [q];exact ⟨_,hTO,fun v z=>by cases z⟩
   · rw [q];exact ⟨o1,ho1,fun v z=>by rw [d1] at z;cases z⟩
   · rw [q];exact ⟨o2,ho2,fun v z=>by rw [d2] at z;cases z⟩
 keep:=fun i h h' st k=>by
   obtain ⟨hz,hTI,⟨a,c,hTO⟩,h1,h2⟩:=st
   exact ⟨k z (by simp) _ hz,k TI (by simp) _ hTI,⟨a,c,k TO (by simp) _ hTO⟩,h1.at fun o y=>k i1 (by simp) o y,h2.at fun o y=>k i2 (by simp) o y⟩
 item:=by
   intro X hP hw hK hc i pins s σ H E I hf st hg
   subst hP hw hK
   obtain ⟨hz,hTI,⟨a,b,hTO⟩,h1,h2⟩:=st
   obtain ⟨xs,ys,x,y,hq1,hq2,hx,hy⟩:=hg
   obtain ⟨its1,rv1,p1,hz1⟩:=I.tuple hq1
   obtain ⟨its2,rv2,p2,hz2⟩:=I.tuple hq2
   obtain ⟨u1,hu1,ru1⟩:=rv1.get hx
   obtain ⟨u2,hu2,ru2⟩:=rv2.get hy
   refine Zfq D hz hTI hTO h1 h2 p1 p2 (by simpa using hu1) (by simpa using hu2) fun h' g1 g2 g3 g4 g5 g6 g7=>?_
   refine ⟨_,rfl,wpAny_letOwnedTupleGo_zip g1 fun h2' g1' hs2=>?_⟩
   have hzl:z < s.heap.objs.size:=Heap.lt_size hz
   have hTIl:TI < s.heap.objs.size:=Heap.lt_size hTI
   have hTOl:TO < s.heap.objs.size:=Heap.lt_size hTO
   have hi1l:i1 < s.heap.objs.size:=by obtain ⟨o,ho,_⟩:=h1;exact Heap.lt_size ho
   have hi2l:i2 < s.heap.objs.size:=by obtain ⟨o,ho,_⟩:=h2;exact Heap.lt_size ho
   have g5':h'.get? s.heap.objs.size=some ({ cls:=.type "tuple",data:=.seq #[u1,u2] }:Obj):=g5
   generalize hO:({ cls:=.type "tuple",data:=.seq #[u1,u2] }:Obj)=O at g5'
   have I1:Inv X pins σ (upd H s.heap.objs.size (.tup [x,y])) { s with heap:=s.heap.push O,toks:=s.toks }:=by
     refine I.laid (t':=s.toks) (fun b o y=>Heap.get?_push_of_some _ y) (Nat.le_refl _) (show ObjOk X.prog X.w _ _ _ (.tup _) from ⟨by show 2≤sizeLine;decide,[u1,u2],.cons ru1 (.cons ru2 .nil),?_⟩)
     rw [← hO];exact IsTup.new _ _
   have hfree:=I.hok.fresh (Nat.le_refl s.heap.objs.size)
   have hf2:∀ b∈[z,TI,TO,i1,i2],YC X pins (upd H s.heap.objs.size (.tup [x,y])) b:=fun b hb=>by
     obtain ⟨f0,f1⟩:=hf b hb
     have hb':b≠s.heap.objs.size:=by
       simp only [List.mem_cons,List.not_mem_nil,or_false] at hb
       rcases hb with q | q | q | q | q<;>(rw [q];exact Nat.ne_of_lt (by assumption))
     exact ⟨by rw [Zb hb'];exact f0,f1⟩
   have I2:Inv X pins σ (upd H s.heap.objs.size (.tup [x,y])) { s with heap:=h2',toks:=s.toks }:=by
     refine I1.turned2 (t':=s.toks) (h':=h2') (fun b o hb y=>?_) hf2
     have n1:b≠z:=fun q=>hb (by simp [q])
     have n2:b≠TO:=fun q=>hb (by simp [q])
     have n3:b≠i1:=fun q=>hb (by simp [q])
     have n4:b≠i2:=fun q=>hb (by simp [q])
     rw [hs2.2 b n1]
     rcases Heap.get?_push_cases y with ⟨q1,q2⟩ | y
     · rw [q1,q2];exact g5'
     · exact g7 b o n1 n2 n3 n4 y
   refine ⟨.ref s.heap.objs.size,_,I2,rfl,⟨s.heap.objs.size,x,y,hfree,fun ys hy'=>by rw [I.tuple_inj hy' hq1];exact hx,fun ys' hy'=>by rw [I.tuple_inj hy' hq2];exact hy,rfl,rfl⟩,⟨g1',?_,⟨u1,u2,?_⟩,?_,?_⟩,fun b hb=>(hf2 b hb).1⟩
   · show h2'.get? TI=_
     rw [hs2.2 TI D.TIz];exact g7 TI _ D.TIz D.TITO D.TIi1 D.TIi2 hTI
   · show h2'.get? TO=_
     rw [hs2.2 TO D.TOz];exact g2
   · exact g3.at fun o y=>by rw [hs2.2 i1 D.i1z];exact y
   · exact g4.at fun o y=>by rw [hs2.2 i2 D.i2z];exact y
 done:=by
   intro X hP hw hK hc i pins s σ H E I hf st hg
   subst hP hw hK
   obtain ⟨hz,hTI,⟨a,b,hTO⟩,h1,h2⟩:=st
   obtain ⟨xs,ys,hq1,hq2,hle⟩:=hg
   obtain ⟨its1,rv1,p1,hz1⟩:=I.tuple hq1
   obtain ⟨its2,rv2,p2,hz2⟩:=I.tuple hq2
   have l1:=rv1.length
   have l2:=rv2.length
   exact Zgf (I.ok.hd hc) D hz hTI hTO h1 p1 (Array.getElem?_eq_none (by simp;omega)) fun h' eb=>⟨rfl,I.turned2 (t':=s.toks) (fp:=[z,TI,TO,i1,i2]) (fun b o hb y=>eb b o (fun q=>hb (by simp [q])) (fun q=>hb (by simp [q])) (fun q=>hb (by simp [q])) (fun q=>hb (by simp [q])) y) hf⟩
 self:=fun _ _ _ _ _ st h=>wpAny_pyIter_zip st.1 h
def ZiS (K:PySem.W.Frag)(ta tb:TE):TI:=fun σ H R=>ta σ H fun v H1=>tb σ H1 fun u H2=>∃ a b xs ys,[v,u]=[V.ref a,V.ref b]∧SqT K H2 a xs∧SqT K H2 b ys∧R (ZcJ K a b) H2
section
variable {X:Cx}
theorem Zgv {l m:Expr}{ta tb:TE}{elts:List Expr}{x1:Nat}{tp p pos:Pos}(hg:Gl X "zip")(hm:X.mg "zip"=none)(hl:PE X l ta)(hr:PE X m tb)
   (he:starEach [l,m] X.env=(false,eval l X.env)::starEach [m] X.env:=by rfl) (he2:starEach [m] X.env=[(false,eval m X.env)]:=by rfl) (hpl:(backTo pos (starEach [m] X.env)).any (·.1)=false:=by rfl):PI X (.Tuple elts x1 tp) (.Call (.Name "zip" p) [l,m] [] pos) (ZiS X.K ta tb):=by
 intro pins s σ H R I h
 have ha:PA X [l,m] (Xa ta (Xa tb XU)):=ZS hl (ZS hr Za he2) he
 refine wpAny_Call_Name_kw (XI I hg hm ZaM ?_)
 refine PyProof.Rows.callWith_type1 (Zm (ha pos pins s σ H (fun vs H2=>∃ a b xs ys,vs=[V.ref a,V.ref b]∧SqT X.K H2 a xs∧SqT X.K H2 b ys∧R (ZcJ X.K a b) H2) I h) fun us s1 ⟨vs,H1,I1,r1,a,b,xs,ys,e,ea,eb,q⟩=>?_) he hpl
 subst e
 obtain ⟨u1,u2,rfl,r2,r3⟩:∃ u1 u2,us=[u1,u2]∧RelV (V.ref a) u1∧RelV (V.ref b) u2:=by
   cases r1 with
   | cons p t=>cases t with
     | cons p2 t2=>cases t2;exact ⟨_,_,rfl,p,p2⟩
 cases r2
 cases r3
 obtain ⟨its1,rv1,⟨o1,eo1,c1,n1,d1⟩,_⟩:=I1.tuple ea
 obtain ⟨its2,rv2,⟨o2,eo2,c2,n2,d2⟩,_⟩:=I1.tuple eb
 have ha1:a < s1.heap.objs.size:=Heap.lt_size eo1
 have hb1:b < s1.heap.objs.size:=Heap.lt_size eo2
 refine Zem ⟨_,eo1,c1,n1,d1⟩ ⟨_,eo2,c2,n2,d2⟩ fun h' g1 g2 g3 g4 g5 g6 g7=>wpAny_pyIter_zip g1 ?_
 refine ⟨s1.heap.objs.size+4,[s1.heap.objs.size+4,s1.heap.objs.size+2,s1.heap.objs.size+3,s1.heap.objs.size,s1.heap.objs.size+1],_,_,H1,rfl,I1.kept (t':=s1.toks) g7,Zdc (l1:=a) (l2:=b) ⟨?_,?_,?_,?_,?_,?_,?_,?_,?_,?_,?_,?_,?_,?_,?_,?_,?_,?_⟩ ?_ ?_,⟨g1,g2,⟨_,_,g3⟩,g4,g5⟩,fun c hc=>?_,q⟩
 rotate_right
 · simp only [List.mem_cons,List.not_mem_nil,or_false] at hc
   have up:∀ k,YC X pins H1 (s1.heap.objs.size+k):=fun k=>I1.fpOk (Nat.le_add_right _ k) (I1.hok.fresh (Nat.le_add_right _ k))
   rcases hc with q | q | q | q | q
   · rw [q];exact up 4
   · rw [q];exact up 2
   · rw [q];exact up 3
   · rw [q];exact up 0
   · rw [q];exact up 1
 all_goals
   first
     | exact Nat.ne_of_lt (by first | (apply Nat.lt_of_lt_of_le (by assumption);omega) | (simp only [Nat.add_lt_add_iff_left];decide) | (show _ < _+_;exact Nat.lt_add_of_pos_right (by decide)))
     | exact Nat.ne_of_gt (by first | (simp only [Nat.add_lt_add_iff_left];decide) | exact Nat.lt_add_of_pos_right (by decide))
end
end L2
set_option maxHeartbeats 2000000
namespace L2
open PySem PySem.Spec PyProof.Rows
def TyS (K:PySem.W.Frag)(H:Hp)(x:V)(t:Value):Prop:=YX K H x t∨∃ a xs,x=.ref a∧t=.type "tuple"∧SqT K H a xs
section
variable {X:Cx}{pins:List (Addr×Obj)}{σ:St}{H:Hp}{s:Shared}
theorem ZbE {x:V}{u t:Value}(I:Inv X pins σ H s)(rx:RelV x u)(ty:TyS X.K H x t):∃ Hh:Heap→Prop,PySem.W.KitX X.K u t Hh∧Hh s.heap∧u≠.builtin "__main__.__loader__#opaque":=by
 rcases ty with ty | ⟨a,xs,rfl,rfl,h⟩
 · cases ty with
   | non=>cases (show u=Value.none from rx);exact ⟨_,PySem.W.kitx_none,True.intro,fun z=>nomatch z⟩
   | bl y=>cases (show u=Value.bool y from rx);exact ⟨_,PySem.W.kitx_bool,True.intro,fun z=>nomatch z⟩
   | int i=>obtain ⟨t,q⟩:=(show ∃ t,u=Value.int i t from rx);cases q;exact ⟨_,PySem.W.kitx_int,True.intro,fun z=>nomatch z⟩
   | str y=>obtain ⟨t,q⟩:=(show ∃ t,u=Value.str y t from rx);cases q;exact ⟨_,PySem.W.kitx_str,True.intro,fun z=>nomatch z⟩
   | flt y=>obtain ⟨t,q⟩:=(show ∃ t,u=Value.float y t from rx);cases q;exact ⟨_,PySem.W.kitx_float,True.intro,fun z=>nomatch z⟩
   | @lst a xs ea =>
     cases (show u=Value.ref a from rx)
     obtain ⟨_,_,n,_,h1⟩:=(show ObjOk X.prog X.w H s.heap a (.lst xs) from I.hok a _ ea)
     exact ⟨_,PySem.W.kitx_list,⟨_,h1,rfl⟩,fun z=>nomatch z⟩
   | @frz a ob xs ea =>
     cases (show u=Value.ref a from rx)
     obtain ⟨_,_,_,n,_,h1⟩:=(show ObjOk X.prog X.w H s.heap a (.frz ob (.lst xs)) from I.hok a _ ea)
     exact ⟨_,PySem.W.kitx_list,⟨_,h1,rfl⟩,fun z=>nomatch z⟩
   | @tup a xs ea =>
     cases (show u=Value.ref a from rx)
     obtain ⟨_,_,_,p⟩:=(show ObjOk X.prog X.w H s.heap a (.tup xs) from I.hok a _ ea)
     obtain ⟨o,h1,h2,_⟩:=p
     exact ⟨_,PySem.W.kitx_tuple,⟨o,h1,h2⟩,fun z=>nomatch z⟩
   | @dK a kvs ea =>
     cases (show u=Value.ref a from rx)
     obtain ⟨_,_,vs,_,p⟩:=(show ObjOk X.prog X.w H s.heap a (.dK kvs) from I.hok a _ ea)
     obtain ⟨o,es,ep,h1,h2,_⟩:=p
     exact ⟨_,PySem.W.kitx_dict,⟨o,h1,h2.1⟩,fun z=>nomatch z⟩
   | @dT a kvs ea =>
     cases (show u=Value.ref a from rx)
     obtain ⟨_,_,xs,_,o,es,ep,h1,h2,_⟩:=(show ObjOk X.prog X.w H s.heap a (.dT kvs) from I.hok a _ ea)
     exact ⟨_,PySem.W.kitx_dict,⟨o,h1,h2.1⟩,fun z=>nomatch z⟩
   | @ins a C dx fs ea cl ha hn htk hm =>
     cases (show u=Value.ref a from rx)
     obtain ⟨mA,O,_⟩:=XZ I.hok ea
     obtain ⟨od,J,_⟩:=O.look
     exact ⟨_,PySem.W.kitx_own (cl.get _) cl.hd ha hn htk hm,J,fun z=>nomatch z⟩
 · cases (show u=Value.ref a from rx)
   obtain ⟨its,_,⟨o,h1,h2,_⟩,_⟩:=I.tuple h
   exact ⟨_,PySem.W.kitx_tuple,⟨o,h1,h2⟩,fun z=>nomatch z⟩
theorem Yu {K:PySem.W.Frag}(hK:X.K=K):Yr X (.builtin "isinstance") (fun xs H Q=>∃ x c t b,xs=[x,.ty c]∧TyS K H x t∧PySem.W.kitOne K t (.type c)=some b∧Q (.bl b) H):=by
 subst hK
 intro pins s σ H xs us Q I r h
 obtain ⟨x,c,t,b,rfl,ty,e,q⟩:=h
 obtain ⟨u,u',rfl,ru,ru'⟩:=WW r
 cases (show u'=Value.type c from ru')
 obtain ⟨Hh,Z,p,hx⟩:=ZbE I ru ty
 exact PySem.W.kia_one Z I.kIn p e hx fun tk=>⟨.bl b,H,I.tok tk,rfl,q⟩
theorem VJ:∀{Ts:List String}{us:List Value},Vals (Ts.map V.ty) us→us=Ts.map Value.type
 | [],_,h=>by cases h;rfl
 | D::Ds,_,h=>by
   cases h with
   | cons r t=>rw [VJ t,show _=Value.type D from r];rfl
theorem VS {K:PySem.W.Frag}(hK:X.K=K):Yr X (.builtin "isinstance") (fun xs H Q=>∃ (x:V) (tp:Addr) (Ts:List String) (t:Value) (b:Bool),xs=[x,.ref tp]∧TyS K H x t∧H tp=some (.tup (Ts.map V.ty))∧PySem.W.kitAny K t (Ts.map Value.type)=some b∧Q (.bl b) H):=by
 subst hK
 intro pins s σ H xs us Q I r h
 obtain ⟨x,tp,Ts,t,b,rfl,ty,htp,e,q⟩:=h
 obtain ⟨u,u',rfl,ru,ru'⟩:=WW r
 cases (show u'=Value.ref tp from ru')
 obtain ⟨Hh,Z,p,hx⟩:=ZbE I ru ty
 obtain ⟨_,its,rv,pt⟩:=(show ObjOk X.prog X.w H s.heap tp (.tup (Ts.map V.ty)) from I.hok tp _ htp)
 obtain ⟨⟨oc,odi,oda,osl⟩,h1,h2,n,h3⟩:=pt
 dsimp only at h2 h3
 subst h2 h3
 rw [VJ rv] at h1
 exact PySem.W.kia_tup Z I.kIn p h1 e hx fun tk=>⟨.bl b,H,I.tok tk,rfl,q⟩
end
theorem PI.or {X:Cx}{tg e:Expr}{t u:TI}(h1:PI X tg e t)(h2:PI X tg e u):PI X tg e (fun σ H R=>t σ H R∨u σ H R):=by
 intro pins s σ H R I h
 rcases h with h | h
 · exact h1 pins s σ H R I h
 · exact h2 pins s σ H R I h
theorem ZdX {K:PySem.W.Frag}{a b:Addr}{xs zs:List V}{g:TG}{te:TE}{σ:St}{D:Addr}{Q:VK}{H:Hp}(hn:xs.length≤sizeLine)(hz:zs.length=xs.length)(Pv:Nat→List V→Hp→Prop)(h0:Pv 0 [] (upd H D (.lst [])))
   (hl:∀ i ys H,Pv i ys H→ys.length=i∧SqL K H a xs∧SqL K H b zs)
   (hs:∀ i x z t ys H wa wb,xs[i]?=some x→zs[i]?=some z→H t=none→Pv i ys H→g (.ref t) (σ++[wa,wb]) (upd H t (.tup [x,z])) fun σ' H'=>(∃ wa wb,σ'=σ++[wa,wb])∧te σ' H' fun y H4=>H4 D=some (.lst ys)∧Pv (i+1) (ys++[y]) (upd H4 D (.lst (ys++[y]))))
   (hd:∀ ys H,Pv xs.length ys H→Q (.ref D) H):CompT (Itz K a b) g te σ D Q H:=by
 refine ⟨fun i m ys H=>m=xs.length - i∧i≤xs.length∧Pv i ys H,⟨xs.length,by simp,Nat.zero_le _,h0⟩,?_⟩
 rintro i m ys H2 ⟨rfl,hi,p⟩
 obtain ⟨hlen,q1,q2⟩:=hl i ys _ p
 by_cases hlt:i < xs.length
 · have h2:i < zs.length:=by omega
   refine .inr ⟨⟨xs,zs,xs[i],zs[i],q1,q2,by simp [hlt],by simp [h2]⟩,_,fun y H4 (q:H4 D=some (.lst ys)∧Pv (i+1) (ys++[y]) (upd H4 D (.lst (ys++[y]))))=>⟨q.1,by omega,xs.length - (i+1),by omega,rfl,hlt,q.2⟩,fun wa wb v H3 y=>?_⟩
   obtain ⟨t,x,z,ht,hx,hz,rfl,rfl⟩:=y
   exact hs i x z t ys H2 wa wb (hx xs q1) (hz zs q2) ht p
 · have e:i=xs.length:=by omega
   subst e
   exact .inl ⟨⟨xs,zs,q1,q2,by omega⟩,hd ys H2 p⟩
theorem Zct {K:PySem.W.Frag}{a b:Addr}{xs zs:List V}{g:TG}{te:TE}{σ:St}{D:Addr}{Q:VK}{H:Hp}(hn:xs.length≤sizeLine)(hz:zs.length=xs.length)(Pv:Nat→List V→Hp→Prop)(h0:Pv 0 [] (upd H D (.lst [])))
   (hl:∀ i ys H,Pv i ys H→ys.length=i∧SqT K H a xs∧SqT K H b zs)
   (hs:∀ i x z t ys H wa wb,xs[i]?=some x→zs[i]?=some z→H t=none→Pv i ys H→g (.ref t) (σ++[wa,wb]) (upd H t (.tup [x,z])) fun σ' H'=>(∃ wa wb,σ'=σ++[wa,wb])∧te σ' H' fun y H4=>H4 D=some (.lst ys)∧Pv (i+1) (ys++[y]) (upd H4 D (.lst (ys++[y]))))
   (hd:∀ ys H,Pv xs.length ys H→Q (.ref D) H):CompT (ZcJ K a b) g te σ D Q H:=by
 refine ⟨fun i m ys H=>m=xs.length - i∧i≤xs.length∧Pv i ys H,⟨xs.length,by simp,Nat.zero_le _,h0⟩,?_⟩
 rintro i m ys H2 ⟨rfl,hi,p⟩
 obtain ⟨hlen,q1,q2⟩:=hl i ys _ p
 by_cases hlt:i < xs.length
 · have h2:i < zs.length:=by omega
   refine .inr ⟨⟨xs,zs,xs[i],zs[i],q1,q2,by simp [hlt],by simp [h2]⟩,_,fun y H4 (q:H4 D=some (.lst ys)∧Pv (i+1) (ys++[y]) (upd H4 D (.lst (ys++[y]))))=>⟨q.1,by omega,xs.length - (i+1),by omega,rfl,hlt,q.2⟩,fun wa wb v H3 y=>?_⟩
   obtain ⟨t,x,z,ht,hx,hz,rfl,rfl⟩:=y
   exact hs i x z t ys H2 wa wb (hx xs q1) (hz zs q2) ht p
 · have e:i=xs.length:=by omega
   subst e
   exact .inl ⟨⟨xs,zs,q1,q2,by omega⟩,hd ys H2 p⟩
end L2
namespace L2
open PySem
structure FG (K:PySem.W.Frag)(x:Str)(st:Stmt)(f:Addr)(fd:FuncData):Prop where
 a:PySem.W.nsIn K mainGlobals x=some (some (.ref f))
 F:Fun K x x st f fd
structure FM (K:PySem.W.Frag)(C:Addr)(x q:Str)(st:Stmt)(f:Addr)(fd:FuncData):Prop where
 m:Vs K C x f
 F:Fun K x q st f fd
structure CH (K:PySem.W.Frag)(x:Str)(C:Addr):Prop where
 a:PySem.W.nsIn K mainGlobals x=some (some (.ref C))
 c:Cls K C
 ms:PySem.W.makesIn K C=true
 kp:PySem.W.keepIn K (.ref C)=true
structure Bs (P:Program)(w:World)(K:PySem.W.Frag)(mg:Str→Option Value)(base h:Heap):Prop where
 X:K.In h
 G:h.Ns mainGlobals mg
section
variable {P:Program}{w:World}{K:PySem.W.Frag}{mg:Str→Option Value}{base h:Heap}{x q:Str}{st:Stmt}{f c Pl C:Addr}{fd:FuncData}{k:Nat}{ps:List Str}{sp:Sp}{p1 p2 p3 p4 p5:Str}
theorem FG.df (g:FG K x st f fd)(e:Bs P w K mg base h)(o:FnOk P w K mg base ZU k f fd ps sp)(b:Binds K fd ps []):Def P w K mg base k x ps sp:=⟨f,fd,o,b,g.F.kp,PySem.W.mg_of e.X e.G g.a⟩
theorem FM.df (g:FM K C x q st f fd)(_:Bs P w K mg base h)(o:FnOk P w K mg base ZU k f fd ps sp)(b:Binds K fd ps []):DefM P w K mg base k C x ps sp:=⟨f,fd,o,b,g.m⟩
theorem FM.di {y:Str}(g:FM K C "__init__" q st f fd)(ch:CH K y C)(e:Bs P w K mg base h)(o:FnOk P w K mg base ZU k f fd ps sp)(b:Binds K fd ps []):WJ P w K mg base k C y ps sp:=⟨f,fd,o,b,⟨ch.ms,g.m.at_,g.m.fn,ch.kp⟩,PySem.W.mg_of e.X e.G ch.a⟩
abbrev BA (x q:Str)(st:Stmt)(us:List Value)(r:List (Str×Value)):Prop:=∀(kV doc pm:Value)(an:Option Addr)(cdv ct:Value),bindArgs (PySem.W.fnOf x q (VC st) (Xt st) (Zj st) .none kV doc pm an cdv ct) ⟨us,[]⟩=pure r
theorem Fun.b1 (F:Fun K x q st f fd)(h:∀ u,BA x q st [u] [(p1,u)]):Binds K fd [p1] []:=F.binds fun a b c d e g us hl=>match us,hl with | [u],_=>h u a b c d e g
theorem Fun.b2 (F:Fun K x q st f fd)(h:∀ u v,BA x q st [u,v] [(p1,u),(p2,v)]):Binds K fd [p1,p2] []:=F.binds fun a b c d e g us hl=>match us,hl with | [u,v],_=>h u v a b c d e g
theorem Fun.b3 (F:Fun K x q st f fd)(h:∀ u v y,BA x q st [u,v,y] [(p1,u),(p2,v),(p3,y)]):Binds K fd [p1,p2,p3] []:=F.binds fun a b c d e g us hl=>match us,hl with | [u,v,y],_=>h u v y a b c d e g
theorem Zdn (F:Fun K x q st f fd)(h:∀ u,BA x q st [u] [(p1,u)])(s:Shared)(v:Value):BindsTo s fd ⟨[v],[]⟩ [(p1,v)]:=by
 obtain ⟨oc,od,kV,doc,pm,an,cdv,ct,osl,rfl,lk,hcd⟩:=F.ex
 exact .of_eq (h v kV doc pm an cdv ct)
end
end L2
set_option maxHeartbeats 2000000
namespace L2
open PySem PySem.Spec PyProof.Rows
def Zez:Expr→Option V
 | .Constant (.int i) _ _=>some (.int i)
 | .Constant (.str x) _ _=>some (.str x)
 | .Constant (.bool b) _ _=>some (.bl b)
 | .Constant .none _ _=>some .non
 | _=>none
def ZcX:List Expr→Option (List V)
 | []=>some []
 | e::es=>match Zez e,ZcX es with
   | some v,some vs=>some (v::vs)
   | _,_=>none
section
variable {X:Cx}
theorem Zho {e:Expr}{v:V}(h:Zez e=some v):PE X e (tC v)∧∀ es,starEach (e::es) X.env=(false,eval e X.env)::starEach es X.env:=by
 unfold Zez at h
 split at h<;>cases h
 · exact ⟨Ze,fun _=>rfl⟩
 · exact ⟨ZE,fun _=>rfl⟩
 · exact ⟨Wj,fun _=>rfl⟩
 · exact ⟨YM,fun _=>rfl⟩
def ZiQ (vs:List V):TA:=fun _ H Q=>Q vs H
theorem ZbD:∀{es:List Expr}{vs:List V},ZcX es=some vs→PA X es (ZiQ vs)
 | [],_,h=>by cases h;exact Za
 | e :: es,vs,h=>by
   rw [ZcX] at h
   split at h
   · rename_i v ws h1 h2
     cases h
     obtain ⟨p,s⟩:=Zho (X:=X) h1
     exact ZS p (ZbD h2) (s es)
   · cases h
end
section
variable {X:Cx}
end
section
variable {K:PySem.W.Frag}{x q:Str}{st:Stmt}{f:Addr}{fd:FuncData}{p1 p2 p3 p4 p5 p6 p7:Str}
theorem Fun.b6 (F:Fun K x q st f fd)(h:∀ u v y z z' u',BA x q st [u,v,y,z,z',u'] [(p1,u),(p2,v),(p3,y),(p4,z),(p5,z'),(p6,u')]):Binds K fd [p1,p2,p3,p4,p5,p6] []:=F.binds fun a b c d e g us hl=>match us,hl with | [u,v,y,z,z',u'],_=>h u v y z z' u' a b c d e g
end
section
variable {X:Cx}
end
end L2
set_option maxHeartbeats 2000000
namespace L2
open PySem
def ScR (K:PySem.W.Frag)(ns:List Int):Yi:=fun a h=>SqL K h a (ns.map V.int)
theorem ZiA {K:PySem.W.Frag}{H H':Hp}{a:Addr}{xs:List V}(h:SqL K H a xs)(s:Same H H'):SqL K H' a xs:=by
 rcases h with (h | ⟨o,h⟩) | h
 · exact .inl (.inl (s _ _ h))
 · exact .inl (.inr ⟨o,s _ _ h⟩)
 · exact .inr h
instance {K:PySem.W.Frag} {ns:List Int}:Up (ScR K ns):=⟨fun h s=>ZiA h s⟩
end L2
set_option maxHeartbeats 2000000
namespace L2
open PySem
def Xc (qs:List (Str×V)):List (Zo×V):=qs.map fun p=>(Sum.inr p.1,p.2)
theorem Zgg (qs rs:List (Str×V)):Xc (qs++rs)=Xc qs++Xc rs:=List.map_append
theorem WU (x:Str):∀ qs:List (Str×V),ZB (Xc qs) (Sum.inr x)=(qs.find? fun p=>decide (p.1=x)).map (·.2)
 | []=>rfl
 | p :: r=>by
   unfold Xc ZB
   rw [List.map_cons,List.find?_cons,List.find?_cons]
   by_cases h:p.1=x
   · rw [decide_eq_true (show (Sum.inr p.1:Zo)=Sum.inr x by rw [h]),decide_eq_true h];rfl
   · rw [decide_eq_false (show ¬ (Sum.inr p.1:Zo)=Sum.inr x from fun z=>h (Sum.inr.inj z)),decide_eq_false h]
     exact WU x r
theorem Zbk {x:Str}{qs:List (Str×V)}(h:x ∉ qs.map (·.1)):ZB (Xc qs) (Sum.inr x)=none:=by
 rw [WU]
 have:(qs.find? fun p=>decide (p.1=x))=none:=List.find?_eq_none.mpr fun p hp z=>h (List.mem_map.mpr ⟨p,hp,by simpa using z⟩)
 rw [this];rfl
theorem ZgN {x:Str}{v:V}{qs:List (Str×V)}(h:x ∉ qs.map (·.1)):Yz (Xc qs) (Sum.inr x) v=Xc (qs++[(x,v)]):=by
 unfold Yz
 rw [if_neg,Zgg];rfl
 simp only [Xc,List.any_map,List.any_eq_true,Function.comp,decide_eq_true_eq,not_exists,not_and]
 exact fun p hp z=>h (List.mem_map.mpr ⟨p,hp,Sum.inr.inj z⟩)
end L2
set_option maxHeartbeats 4000000
namespace K45
open PySem L2
section
variable {P:Program}{w:World}{K:PySem.W.Frag}{mg:Str→Option Value}{base:Heap}{CH CR CS CT:Addr}{C:Addr}
def ZcI (K:PySem.W.Frag)(CH CR CS CT CX:Addr):Sp:=fun vs H Q E=>∃ (h:Addr) (s:Hs) (x:Str),vs=[.ref h,.str x]∧RdH K CH CR CS CT h s H∧((ZB s.dfs (Sum.inr x)).isSome=true→Q .non H)∧(ZB s.dfs (Sum.inr x)=none→∀ dx H',Same H H'→H' dx=some (.xd [("what",.str x)])→E (.ref CX) (some dx) H')
abbrev nHCs:List Str:=["self","name"]
abbrev Zac:List Str:=["self","name"]
theorem ZiM:Zs nHCs Zac (Zj c_Hall_check_setting):=⟨rfl,rfl,rfl,by decide +kernel,rfl,by decide +kernel,by decide +kernel⟩
theorem Zha {CX:Addr}{f:Addr}{fd:FuncData}(F:Fun K "check_setting" "Hall.check_setting" c_Hall_check_setting f fd)(T:Ye mg)(TH:Vx K CH)(DE:Uq P w K mg base 1 CX "NoSetting"):FnOk P w K mg base (WR P w base) 3 f fd Zac (ZcI K CH CR CS CT CX):=by
 refine F.okX ZiM (fun vs H Q E h=>?_) (fun cdv A outer s H vs Q E hr h W=>?_)
 · obtain ⟨h,s,x,rfl,_⟩:=h;rfl
 obtain ⟨h,s,x,rfl,⟨d,r,sp,i,t,S⟩,q1,q2⟩:=h
 obtain ⟨dx,ob⟩:=S.get h
 refine' ⟨?t,?h,?r⟩
 case h =>
   conv=>arg 2;whnf
   with_reducible refine' (Zi (Yb ?h1 (Zi ?h2) ZH))
   case h1=>exact XH (ZdP (US hr) (pv 1) (Ys (pv 0) rfl))
   case h2=>exact Uz W DE hr rfl (Zd (pv 1) Za)
 refine ⟨_,rfl,_,rfl,h,CH,dx,_,_,rfl,ob,TH.cl,TH.nd,Zft,d,_,rfl,DGet.k (k:=Sum.inr x) (S.get d),_,rfl,?_⟩
 cases e:ZB s.dfs (Sum.inr x) with
 | none=>exact Yc ⟨_,rfl,_,rfl,fun d hd=>q2 e d _ (Zk hd _) Zf⟩
 | some v=>exact ZV (q1 (by rw [e];rfl))
def ZfI (K:PySem.W.Frag)(CH CR CS CT CX:Addr):Sp:=fun vs H Q E=>∃ (h:Addr) (s:Hs) (qs:List (Str×V)) (x:Str) (v:V) (Δ:Rs),vs=[.ref h,.str x,v]∧Sep ((h,Xm K CH CR CS CT s)::Δ) H∧s.dfs=Xc qs∧qs.length≤1000∧(x∈qs.map (·.1)→∀ dx H',Same H H'→H' dx=some (.xd [("what",.str x)])→E (.ref CX) (some dx) H') ∧
 (x ∉ qs.map (·.1)→∀ H',Sep ((h,Xm K CH CR CS CT { s with dfs:=Xc (qs++[(x,v)]) })::Δ) H'→Q .non H')
abbrev nHDe:List Str:=["self","name","default"]
abbrev Zao:List Str:=["self","name","default"]
theorem ZiU:Zs nHDe Zao (Zj c_Hall_declare):=⟨rfl,rfl,rfl,by decide +kernel,rfl,by decide +kernel,by decide +kernel⟩
theorem Zhg {CX:Addr}{f:Addr}{fd:FuncData}(F:Fun K "declare" "Hall.declare" c_Hall_declare f fd)(T:Ye mg)(TH:Vx K CH)(DE:Uq P w K mg base 1 CX "Known"):FnOk P w K mg base (WR P w base) 3 f fd Zao (ZfI K CH CR CS CT CX):=by
 refine F.okX ZiU (fun vs H Q E h=>?_) (fun cdv A outer s H vs Q E hr h W=>?_)
 · obtain ⟨h,s,qs,x,v,Δ,rfl,_⟩:=h;rfl
 obtain ⟨h,s,qs,x,v,Δ,rfl,S0,hqs,hl,q1,q2⟩:=h
 obtain ⟨d,r,sp,i,t,S⟩:=S0.halO
 obtain ⟨dx,ob⟩:=S.get h
 refine' ⟨?t,?h,?r⟩
 case h =>
   conv=>arg 2;whnf
   with_reducible refine' (Zg (Yb ?h1 (Zi ?h2) ZH) (Zi ?h3))
   case h1=>exact XH (Zdj (US hr) (pv 1) (Ys (pv 0) rfl))
   case h2=>exact Uz W DE hr rfl (Zd (pv 1) Za)
   case h3=>exact ZbM (US hr) (Ys (pv 0) rfl) (pv 1) (pv 2) rfl
 refine ⟨_,rfl,_,rfl,h,CH,dx,_,_,rfl,ob,TH.cl,TH.nd,Zft,d,_,rfl,DGet.k (k:=Sum.inr x) (S.get d),_,rfl,?_⟩
 by_cases hm:x∈qs.map (·.1)
 · have e:(ZB s.dfs (Sum.inr x)).isSome=true:=by
     rw [hqs,WU]
     obtain ⟨p,hp,rfl⟩:=List.mem_map.mp hm
     cases z:qs.find? fun q=>decide (q.1=p.1) with
     | none=>exact absurd (decide_eq_true rfl) (List.find?_eq_none.mp z p hp)
     | some v=>rfl
   rw [e]
   exact Yc ⟨_,rfl,_,rfl,fun d hd=>q1 hm d _ (Zk hd _) Zf⟩
 · have e:ZB s.dfs (Sum.inr x)=none:=by rw [hqs];exact Zbk hm
   rw [e]
   refine ZV ⟨_,rfl,_,rfl,h,CH,dx,_,_,rfl,ob,TH.cl,TH.nd,Zft,_,rfl,d,_,rfl,.inl ⟨_,Sum.inr x,S.get d,rfl,Wa (show _≤1000 by rw [hqs];unfold Xc;rw [List.length_map];exact hl),rfl⟩,?_⟩
   generalize hE:upd H d _=H2
   have S2:=S.putE hE
   clear hE
   rw [hqs,ZgN hm] at S2
   exact q2 hm _ (Sep.halC (s:={ s with dfs:=Xc (qs++[(x,v)]) }) (d:=d) (r:=r) (sp:=sp) (i:=i) (t:=t) (S2.pull h))
end
end K45
set_option maxHeartbeats 2000000
namespace L2
open PySem PySem.W PySem.Spec PyProof PyProof.Rows
theorem ZaZ:∀{is:List Int}{its:List Value},Vals (is.map V.int) its→IntsAre its is
 | [],[],_=>.nil
 | i::is,_::_,.cons r h=>by
   obtain ⟨t,rfl⟩:=r
   exact .cons i t (ZaZ h)
section
variable {X:Cx}
theorem Zeb (hc:X.calm=true):Yr X (.builtin "max") (fun xs H Q=>∃ (a:Addr) (is:List Int),xs=[.ref a]∧SqL X.K H a (is.map V.int)∧is≠[]∧∀ M,M∈is→(∀ j∈is,j≤M)→Q (.int M) H):=by
 intro pins s σ H xs us Q I r h
 obtain ⟨a,is,rfl,hq,hne,q⟩:=h
 obtain ⟨u,rfl,ru⟩:=YN r
 cases ru
 obtain ⟨its,rv,p,hz⟩:=I.list hq
 have hi:=ZaZ rv
 obtain ⟨xs,e⟩:=hi.allInts.items
 have hns:is=xs.toList.map (·.1):=by rw [← hi.numsOf,← nums_intItems,← e]
 have hsz:0 < xs.size:=by
   have h3:=List.length_pos_iff.mpr hne
   rw [hns,List.length_map,Array.length_toList] at h3;exact h3
 have hl:=p.isList
 rw [e] at hl
 refine max_intList (I.ok.hd hc) hl hsz fun v h' tk hv hk=>?_
 obtain ⟨t,rfl⟩:=intItems_at hv
 obtain ⟨h1,h2⟩:=argBest_gt (numAt xs) (xs.size - 1)
 refine ⟨.int (numAt xs (argBest (fun i j=>decide (numAt xs i > numAt xs j)) (xs.size - 1))),H,I.kept hk,⟨t,rfl⟩,q _ ?_ fun j hj=>?_⟩
 · rw [hns,numAt_eq];exact getD_mem (by rw [List.length_map,Array.length_toList];omega)
 · rw [hns] at hj
   obtain ⟨k,hk',rfl⟩:=mem_getD hj
   rw [List.length_map,Array.length_toList] at hk'
   rw [← numAt_eq];exact h2 k (by omega)
end
end L2
set_option maxHeartbeats 2000000
namespace L2
open PySem PySem.W PySem.Spec PyProof.Rows
@[reducible] def intK:PyProof.Rows.KeyKind where
 α:=Int
 blt a b:=decide (a < b)
 irrefl a:=by simp
 trans a b c h1 h2:=by simp only [decide_eq_true_eq] at *;omega
 negTrans a b c h:=by simp only [decide_eq_true_eq] at *;omega
 total a b h1 h2:=by simp only [decide_eq_false_iff_not] at *;omega
 keyOf v:=match v with | .int x _=>some x | _=>none
 dflt:=0
theorem Zcl:intK.OneLt:=by
 intro prog w A E s x y a b Q ha hb h
 cases x<;>simp only [intK,reduceCtorEq,Option.some.injEq] at ha
 cases y<;>simp only [intK,reduceCtorEq,Option.some.injEq] at hb
 cases ha;cases hb
 exact oneLt_int h
def Zaa (ks:List Int)(vs out:List Value):Prop:=∃ ps:List (Int×Value),ps.Perm (ks.zip vs)∧out=ps.map (·.2)∧ps.Pairwise fun p q=>¬ (q.1 < p.1)
def ZfK (ks:List Int)(ts ts':List Addr):Prop:=∃ ps:List (Int×Addr),ps.Perm (ks.zip ts)∧ts'=ps.map (·.2)∧ps.Pairwise fun p q=>¬ (q.1 < p.1)
def YZ (H:Hp)(ts:List Addr)(ps:List (Int×V)):Prop:=ts.length=ps.length∧∀(i:Nat)(a:Addr)(p:Int×V),ts[i]?=some a→ps[i]?=some p→H a=some (.tup [.int p.1,p.2])
theorem Zfl {ks:List Int}{ts:List Addr}{out:List Value}(h:Zaa ks (ts.map Value.ref) out):∃ ts',out=ts'.map Value.ref∧ZfK ks ts ts':=by
 obtain ⟨ps,hp,ho,hs⟩:=h
 have hmem:∀ p∈ps,p.2=Value.ref (unR p.2):=fun p hp'=>by
   have h1:=(List.of_mem_zip (show (p.1,p.2)∈_ from hp.mem_iff.mp hp')).2
   obtain ⟨t,_,e⟩:=List.mem_map.mp h1
   rw [← e];rfl
 refine ⟨ps.map fun p=>unR p.2,?_,ps.map (fun p=>(p.1,unR p.2)),?_,?_,?_⟩
 · rw [ho,List.map_map]
   exact List.map_congr_left hmem
 · have h1:=hp.map fun p:Int×Value=>(p.1,unR p.2)
   have h2:(ks.zip (ts.map Value.ref)).map (fun p:Int×Value=>(p.1,unR p.2))=ks.zip ts:=by
     rw [List.zip_map_right,List.map_map]
     have:((fun p:Int×Value=>(p.1,unR p.2)) ∘ Prod.map id Value.ref)=(id:Int×Addr→Int×Addr):=by funext p;rfl
     rw [this,List.map_id]
   rwa [h2] at h1
 · rw [List.map_map];rfl
 · rw [List.pairwise_map];exact hs
section
variable {prog:Program}{w:World}{A:Around}{E:Value→Shared→Prop}{s:Shared}{a:Addr}{as:List Addr}{ks:List Int}{P:PySem.Fin→Shared→Prop}
def Xu (h:Heap)(as:List Addr)(ks:List Int):Prop:=∀ (i:Nat) (b:Addr) (k:Int),as[i]?=some b→ks[i]?=some k→∃ o t x n,h.get? b=some o∧o.cls=.type "tuple"∧o.data=.seq #[.int k t,x] n
theorem WL {h:Heap}:∀{as:List Addr}{ks:List Int},as.length=ks.length→Xu h as ks→∃ fs,KatTups h (as.map Value.ref) fs∧fs.length=as.length∧∀ v∈fs,∃ k t,v=Value.int k t
 | [],[],_,_=>⟨[],KatTups.nil,rfl,fun _ h=>nomatch h⟩
 | [],_::_,e,_=>by cases e
 | _::_,[],e,_=>by cases e
 | b::as,k::ks,e,T=>by
   obtain ⟨o,t,x,n,ho,hc,hdd⟩:=T 0 b k rfl rfl
   obtain ⟨fs,h1,h2,h3⟩:=WL (as:=as) (ks:=ks) (by simpa using e) fun i b k e1 e2=>T (i+1) b k e1 e2
   refine ⟨.int k t::fs,KatTups.cons ho hc hdd rfl h1,by rw [List.length_cons,List.length_cons,h2],fun v hv=>?_⟩
   rcases List.mem_cons.mp hv with rfl | hv
   · exact ⟨k,t,rfl⟩
   · exact h3 v hv
theorem ZcT (hl:as.length=ks.length)(h2:2≤as.length)(T:Xu s.heap as ks){Q:SortKind→Shared→Prop}(h:Q (tuples' true) s):wpAny (model prog w) A (keyKind' (as.map Value.ref).toArray) Q E s:=by
 obtain ⟨fs,h1,h3,h4⟩:=WL hl T
 refine kat_kind (T:=.type "int") h1 (by omega) (fun v hv=>?_) (by decide) h
 obtain ⟨k,t,rfl⟩:=h4 v hv
 exact .now
def Ww (ks:List Int)(i:Nat):Int:=ks.getD i 0
theorem ZdK (hl:as.length=ks.length)(hnd:ks.Nodup)(T:Xu s.heap as ks):YG (O:=intK.toKeyOrd) (Ww ks) as.length s (kas_ask prog w A (tuples' true) (as.map Value.ref)):=by
 intro i j C hi hj hij hC
 unfold kas_ask
 have gi:∀ k (hk:k < as.length),(as.map Value.ref).getD k Value.none=.ref as[k]:=fun k hk=>by simp [List.getD_eq_getElem?_getD,hk]
 have kg:∀ k (hk:k < as.length),ks.getD k 0=ks[k]'(by omega):=fun k hk=>by simp [List.getD_eq_getElem?_getD,show k < ks.length by omega]
 rw [gi i hi,gi j hj]
 obtain ⟨_,ti,xi,_,oi,_,di⟩:=T i as[i] (ks[i]'(by omega)) (List.getElem?_eq_getElem hi) (List.getElem?_eq_getElem (by omega))
 obtain ⟨_,tj,xj,_,oj,_,dj⟩:=T j as[j] (ks[j]'(by omega)) (List.getElem?_eq_getElem hj) (List.getElem?_eq_getElem (by omega))
 refine kat_lt oi di oj dj ?_
 refine kat_cons (wpAny_eqBool_int ?_)
 rw [show ((ks[i]'(by omega)) == (ks[j]'(by omega)))=false from beq_false_of_ne (fun z=>hij (UN hnd z))]
 refine kat_no ?_
 refine Zcl prog w A _ s _ _ _ _ rfl rfl ?_
 unfold Ww at hC
 rw [kg i hi,kg j hj] at hC
 exact hC
theorem ZcZ (hl:as.length=ks.length){q:Array Nat}(B:PB as.length q)(S:Xo (O:=intK.toKeyOrd) (Ww ks) q as.length):Zaa ks (as.map Value.ref) (q.toList.map fun i=>(as.map Value.ref).getD i Value.none):=by
 refine ⟨q.toList.map fun i=>(ks.getD i 0,(as.map Value.ref).getD i Value.none),?_,?_,?_⟩
 · have h1:=(Array.perm_iff_toList_perm.mp B).map fun i=>(ks.getD i 0,(as.map Value.ref).getD i Value.none)
   refine h1.trans (List.Perm.of_eq ?_)
   apply List.ext_getElem?
   intro i
   show ((List.range as.length).map _)[i]?=_
   rw [List.getElem?_map]
   by_cases hi:i < as.length
   · rw [List.getElem?_range hi]
     have:(ks.zip (as.map Value.ref))[i]?=some (ks[i]'(by omega),Value.ref as[i]):=by
       rw [List.getElem?_zip_eq_some]
       exact ⟨List.getElem?_eq_getElem (by omega),by rw [List.getElem?_map,List.getElem?_eq_getElem hi];rfl⟩
     rw [this]
     simp [List.getD_eq_getElem?_getD,hi,show i < ks.length by omega]
   · have e1:(List.range as.length)[i]?=none:=List.getElem?_eq_none (by simpa using Nat.le_of_not_lt hi)
     have e2:(ks.zip (as.map Value.ref))[i]?=none:=List.getElem?_eq_none (by rw [List.length_zip,List.length_map];omega)
     rw [e1,e2];rfl
 · rw [List.map_map];rfl
 · rw [List.pairwise_map,List.pairwise_iff_getElem]
   intro i j hi hj hij
   have hs:=B.size
   have hi':i < q.size:=by simpa using hi
   have hj':j < q.size:=by simpa using hj
   have h:=S i j (Nat.le_of_lt hij) (by omega)
   have e:∀ k (hk:k < q.size),KP (O:=intK.toKeyOrd) (Ww ks) q k=ks.getD q[k] 0:=fun k hk=>by
     unfold KP Ww
     rw [show q.getD k 0=q[k] by simp [Array.getD,hk]]
   rw [e i hi',e j hj'] at h
   simpa [KeyOrd.kle] using h
theorem Zbq {n:Nat}(ho:s.heap.get? a=some (seqObj "list" (as.map Value.ref).toArray n))(hl:as.length=ks.length)(h64:as.length < 64)(hnd:ks.Nodup)(ha:a ∉ as)(T:Xu s.heap as ks)
   (h:∀ h' tk out c,(∀ b o,b≠a→s.heap.get? b=some o→h'.get? b=some o)→h'.get? a=some (seqObj "list" out c)→Zaa ks (as.map Value.ref) out.toList→P (.done (.ret .none)) { s with heap:=h',toks:=tk }) :
   wpAny (model prog w) A (Builtin.«list.sort» ⟨[.ref a],[]⟩) P E s:=by
 have hsz:(as.map Value.ref).toArray.size=as.length:=by simp
 have s1:=Heap.SameBut.update s.heap a (Obj.mapSeq fun _=>(#[]:Array Value))
 obtain ⟨e1,ho1⟩:∃ e1,(s.heap.update a (Obj.mapSeq fun _=>(#[]:Array Value))).get? a=some (seqObj "list" #[] e1):=⟨_,get?_update_seq ho fun _=>#[]⟩
 have k1:∀ b o,b≠a→s.heap.get? b=some o→(((s.heap.update a (Obj.mapSeq fun _=>(#[]:Array Value))).push (seqObj "tuple" (as.map Value.ref).toArray 0)).push (seqObj "list" #[] 0)).get? b=some o:=fun b o hb y=>Heap.get?_push_of_some _ (Heap.get?_push_of_some _ ((s1.2 b hb).trans y))
 have T1:Xu (((s.heap.update a (Obj.mapSeq fun _=>(#[]:Array Value))).push (seqObj "tuple" (as.map Value.ref).toArray 0)).push (seqObj "list" #[] 0)) as ks:=fun i b k e1 e2=>by
   obtain ⟨o9,t,x,n9,ob,z1,z2⟩:=T i b k e1 e2
   exact ⟨o9,t,x,n9,k1 b _ (fun z=>ha (by rw [← z];exact List.mem_of_getElem? e1)) ob,z1,z2⟩
 have ho2:(((s.heap.update a (Obj.mapSeq fun _=>(#[]:Array Value))).push (seqObj "tuple" (as.map Value.ref).toArray 0)).push (seqObj "list" #[] 0)).get? a=some (seqObj "list" #[] e1):=Heap.get?_push_of_some _ (Heap.get?_push_of_some _ ho1)
 rw [list_sort_plain]
 refine wpAny_bind (listItems_at ho rfl ?_)
 refine wpAny_bind (listUpdate_at ho rfl ?_ (by rw [hsz,sizeLine_eq];omega) (Nat.zero_le _))
 refine wpAny_bind (seqEpoch_at ho1 rfl ?_)
 refine wpAny_bind (wpAny_newTuple ?_ (by show (as.map Value.ref).length≤_;rw [List.length_map,sizeLine_eq];omega))
 refine wpAny_bind (wpAny_newList ?_ (Nat.zero_le _))
 refine wpAny_holding ?_
 show wpAny (model prog w) A _ P E { s with heap:=((s.heap.update a (Obj.mapSeq fun _=>(#[]:Array Value))).push (seqObj "tuple" (as.map Value.ref).toArray 0)).push (seqObj "list" #[] 0) }
 generalize hh1:((s.heap.update a (Obj.mapSeq fun _=>(#[]:Array Value))).push (seqObj "tuple" (as.map Value.ref).toArray 0)).push (seqObj "list" #[] 0)=h1 at *
 dsimp only
 have tail:∀ (st:SortSt) (out:List Value),(arrOf st).map (·.2)=out.toArray→failedOf st=none→out.length=as.length→Zaa ks (as.map Value.ref) out →
     wpAny (model prog w) A (do
       let touched:=(← seqEpoch a) != e1
       Builtin.List.listUpdate (.ref a) fun _=>(arrOf st).map (·.2)
       if let some e:=failedOf st then rule "list.sort.comparison-raised";throw e
       if touched then rule "list.sort.modified";raiseError "ValueError" "list modified during sort"
       ret .none) P E { s with heap:=h1 }:=by
   intro st out hout hf hlen hO
   have s2:=Heap.SameBut.update h1 a (Obj.mapSeq fun _=>out.toArray)
   obtain ⟨c2,hc2⟩:∃ c2,(h1.update a (Obj.mapSeq fun _=>out.toArray)).get? a=some (seqObj "list" out.toArray c2):=⟨_,get?_update_seq ho2 fun _=>out.toArray⟩
   rw [hout,hf]
   refine wpAny_bind (seqEpoch_at (s:={ s with heap:=h1 }) ho2 rfl ?_)
   refine wpAny_bind (listUpdate_at (s:={ s with heap:=h1 }) ho2 rfl ?_ (Nat.zero_le _) (by rw [List.size_toArray,hlen,sizeLine_eq];omega))
   simp only [bne_self_eq_false,Bool.false_eq_true,if_false]
   exact wpAny_pure (h _ _ _ c2 (fun b o hb y=>(s2.2 b hb).trans (k1 b o hb y)) hc2 hO)
 by_cases h2:(as.map Value.ref).toArray.size < 2
 · rw [if_pos h2,if_pos h2]
   refine wpAny_bind (wpAny_pure ?_)
   rw [StateT.run_pure]
   refine wpAny_bind (wpAny_pure ?_)
   have hz:((as.map Value.ref).toArray.zip (as.map Value.ref).toArray).map (·.2)=(as.map Value.ref).toArray:=by
     apply Array.toList_inj.mp
     rw [Array.toList_map,ksk_zip]
     exact List.map_snd_zip (by simp)
   rw [hsz] at h2
   refine tail (SortSt.mk' general' ((as.map Value.ref).toArray.zip (as.map Value.ref).toArray) #[] 7 none) (as.map Value.ref) hz rfl (List.length_map _) ⟨ks.zip (as.map Value.ref),List.Perm.refl _,(List.map_snd_zip (by rw [List.length_map];omega)).symm,?_⟩
   have:(ks.zip (as.map Value.ref)).length < 2:=by rw [List.length_zip,List.length_map];omega
   match hzz:ks.zip (as.map Value.ref),this with
   | [],_=>exact List.Pairwise.nil
   | [x],_=>exact List.pairwise_singleton _ _
   | _::_::_,h=>exact absurd h (by rw [List.length_cons,List.length_cons];omega)
 · rw [if_neg h2,if_neg h2]
   rw [hsz] at h2
   refine wpAny_bind (ZcT (s:={ s with heap:=h1 }) hl (by omega) T1 ?_)
   refine wpAny_bind (wpAny_mono (kat_run (ks:=as.map Value.ref) (vs:=as.map Value.ref) (Q:=fun st' s'=>s'={ s with heap:=h1 }∧∃ q:Array Nat,PB as.length q∧Xo (O:=intK.toKeyOrd) (Ww ks) q as.length∧arrOf st'=q.map (kas_item ((as.map Value.ref).toArray.zip (as.map Value.ref).toArray))∧failedOf st'=none)
     (G:=fun q s'=>s'={ s with heap:=h1 }∧PB as.length q∧Xo (O:=intK.toKeyOrd) (Ww ks) q as.length)
     rfl (by rw [List.length_map];omega) (by rw [List.length_map];exact h64) (fun q st' s' a1 a2 a3 a4=>⟨a4.1,q,a4.2.1,a4.2.2,a2,a3⟩) ?_) ?_ fun _ _ e=>e)
   · rw [List.length_map]
     exact ZgK (ZdK (s:={ s with heap:=h1 }) hl hnd T1) (by omega) fun q B S=>⟨rfl,B,S⟩
   · rintro ⟨⟨⟩,st'⟩ s' ⟨rfl,q,B,S,har,hf⟩
     have hs:=B.size
     exact tail st' _ (kat_snds rfl har) hf (by rw [List.length_map,Array.length_toList,hs]) (ZcZ hl B S)
end
def YS (ps:List (Int×V)):Prop:=ps.Pairwise fun p q=>¬ (q.1 < p.1)
theorem Zbt {H:Hp}{ts ts':List Addr}{ps:List (Int×V)}(h:YZ H ts ps)(o:ZfK (ps.map (·.1)) ts ts'):∃ ps',ps'.Perm ps∧YS ps'∧YZ H ts' ps':=by
 obtain ⟨zs,hp,e,hs⟩:=o
 have val:∀ (i:Nat) (a:Addr) (p:Int×V),ts[i]?=some a→ps[i]?=some p→Us H a=p.2:=fun i a p e1 e2=>by unfold Us;rw [h.2 i a p e1 e2]
 have hz:((ps.map (·.1)).zip ts).map (fun z=>(z.1,Us H z.2))=ps:=by
   apply List.ext_getElem?
   intro i
   rw [List.getElem?_map]
   cases e2:ps[i]? with
   | none =>
     have:((ps.map (·.1)).zip ts)[i]?=none:=by
       rw [List.getElem?_eq_none_iff] at e2 ⊢
       rw [List.length_zip,List.length_map];omega
     rw [this];rfl
   | some p =>
     have hi:i < ps.length:=(List.getElem?_eq_some_iff.mp e2).1
     obtain ⟨a,ea⟩:∃ a,ts[i]?=some a:=⟨_,List.getElem?_eq_getElem (by rw [h.1];exact hi)⟩
     have:((ps.map (·.1)).zip ts)[i]?=some (p.1,a):=by
       rw [List.getElem?_zip_eq_some]
       exact ⟨by rw [List.getElem?_map,e2];rfl,ea⟩
     rw [this]
     show some (p.1,Us H a)=some p
     rw [val i a p ea e2]
 refine ⟨zs.map fun z=>(z.1,Us H z.2),?_,?_,?_⟩
 · have:=hp.map fun z:Int×Addr=>(z.1,Us H z.2)
   rwa [hz] at this
 · unfold YS;rw [List.pairwise_map];exact hs
 · refine ⟨by rw [e,List.length_map,List.length_map],fun i a p e1 e2=>?_⟩
   rw [e,List.getElem?_map] at e1
   rw [List.getElem?_map] at e2
   cases ez:zs[i]? with
   | none=>rw [ez] at e1;cases e1
   | some z =>
     rw [ez] at e1 e2
     cases (show some z.2=some a from e1)
     cases (show some (z.1,Us H z.2)=some p from e2)
     have hm:=hp.mem_iff.mp (List.mem_of_getElem? ez)
     obtain ⟨j,hj⟩:=List.mem_iff_getElem?.mp hm
     rw [List.getElem?_zip_eq_some] at hj
     obtain ⟨h1,h2⟩:=hj
     rw [List.getElem?_map] at h1
     cases e3:ps[j]? with
     | none=>rw [e3] at h1;cases h1
     | some pj =>
       rw [e3] at h1
       have h1':pj.1=z.1:=by simpa using h1
       have:=h.2 j z.2 pj h2 e3
       rw [this,val j z.2 pj h2 e3,h1']
section
variable {X:Cx}
def YE (p:Int×V):Zo×V:=(Sum.inl p.1,p.2)
theorem WH (hc:X.calm=true):Yr X (.builtin "sorted") (fun xs H Q=>∃ v d ps,xs=[.ref v]∧H v=some (.ext (UP v d))∧H d=some (.dK (ps.map YE))∧ps.length < 64 ∧
   ∀ (l:Addr) (ts':List Addr) (ps':List (Int×V)) (H2:Hp),H l=none→Same H H2→(ps.map (·.1)).Nodup→ps'.Perm ps→YS ps'→YZ H2 ts' ps'→(∀ a∈ts',H a=none)→H2 l=some (.lst (ts'.map V.ref))→Q (.ref l) H2):=by
 intro pins s σ H xs us Q I r h
 obtain ⟨v,d,ps,rfl,ev,ed,h64,q⟩:=h
 obtain ⟨u,rfl,ru⟩:=YN r
 cases ru
 obtain ⟨hz,lo,vs,kv,o,es,ep,ho,r1,r2,r3,r4,r5⟩:=Wr I.hok ed
 have hlen:vs.length=ps.length:=by have:=(Paired.length kv).symm;rwa [List.length_map] at this
 have hkeys:vs.map (·.1)=ps.map fun p=>(Sum.inl p.1:Zo):=by
   have:∀ {l:List (Int×V)} {m:List (Zo×Value)},KV (l.map YE) m→m.map (·.1)=l.map fun p=>(Sum.inl p.1:Zo):=by
     intro l
     induction l with
     | nil=>intro m h;cases h;rfl
     | cons p l ih =>
       intro m h
       cases h with
       | cons e t=>rw [List.map_cons,List.map_cons,ih t,← e.1];rfl
   exact this kv
 have hnd:(ps.map (·.1)).Nodup:=by
   have h1:(vs.map (·.1)).Nodup:=r5
   rw [hkeys] at h1
   have h2:(ps.map fun p=>(Sum.inl p.1:Zo))=(ps.map (·.1)).map fun x=>(Sum.inl x:Zo):=by rw [List.map_map];rfl
   rw [h2] at h1
   exact List.Pairwise.imp (fun h z=>h (by rw [z])) (List.pairwise_map.mp h1)
 refine PySem.Calls.call_function_entry kind_sorted plain_sorted entry_sorted (args_sorted1 _) ?_
 unfold Builtin.«sorted»
 refine wpAny_bind (m:=checkCount "sorted" 1 1 _) (wpAny_pure ?_)
 refine wpAny_bind (VY (A:=X.A.in1) (knd:=ZD X.prog X.w) (kvs:=vs) (ep:=ep) (I.ok.hd hc) (I.hok v _ ev).1 ⟨o,es,ho,r1,r2,r3,r4,r5⟩ (by rw [hlen];rw [List.length_map] at hz;exact hz) fun h' tk as hgt hk hl hG=>?_)
 have hl2:as.length=ps.length:=by rw [hl,hlen]
 have lift:∀ (j:Nat) (a:Addr) (p:Int×V),as[j]?=some a→ps[j]?=some p→∃ t x,h'.get? a=some { cls:=.type "tuple",data:=.seq #[.int p.1 t,x] }∧RelV p.2 x:=fun j a p e1 e2=>by
   obtain ⟨keyv,kk,x,e3,e4,e5⟩:=hG.pairs j a e1
   obtain ⟨vv,e6,rel⟩:=Zde kv e3
   rw [List.getElem?_map,e2] at e6
   cases (show some (YE p)=some (kk,vv) from e6)
   rw [UV] at e4
   rcases ZQ e4 with ⟨i,tt,z1,z2⟩ | ⟨y,tt,z1,z2⟩
   · cases z1
     subst z2
     exact ⟨tt,x,e5,rel⟩
   · cases z1
 have T:Xu h' as (ps.map (·.1)):=fun i b k e1 e2=>by
   rw [List.getElem?_map] at e2
   cases e3:ps[i]? with
   | none=>rw [e3] at e2;cases e2
   | some p =>
     rw [e3] at e2
     cases (show some p.1=some k from e2)
     obtain ⟨t,x,z,_⟩:=lift i b p e1 e3
     exact ⟨_,t,x,0,z,rfl,rfl⟩
 refine wpAny_bind (wpAny_newList ?_ (by rw [List.length_map,hl2,sizeLine_eq];omega))
 have hoL:(h'.push { cls:=.type "list",data:=.seq (as.map Value.ref).toArray }).get? h'.objs.size=some (seqObj "list" (as.map Value.ref).toArray 0):=Heap.get?_push_size _ rfl
 have nB:h'.objs.size ∉ as:=fun z=>Nat.lt_irrefl _ (hG.there z)
 have hge:s.heap.objs.size≤h'.objs.size:=Nat.le_of_lt hgt
 refine wpAny_bind (wpAny_holding (wpAny_call_entry slot_list_sort ⟨_,hoL,rfl⟩ entry_list_sort ?body (args_list_sort _)))
 case body =>
   refine Zbq (s:={ s with heap:=h'.push { cls:=.type "list",data:=.seq (as.map Value.ref).toArray },toks:=tk }) (ks:=ps.map (·.1)) hoL (by rw [hl2,List.length_map]) (by rw [hl2];exact h64) hnd nB (fun i b k e1 e2=>by obtain ⟨o9,t,x,n9,z,z1,z2⟩:=T i b k e1 e2;exact ⟨o9,t,x,n9,Heap.get?_push_of_some _ z,z1,z2⟩) fun h3 tk3 out c3 k3 a3 o3=>⟨_,rfl,wpAny_pure ⟨_,rfl,?_⟩⟩
   obtain ⟨ts',hout,hT⟩:=Zfl o3
   have above:∀ a∈as,s.heap.objs.size < a:=hG.above
   have hfr:∀ b,s.heap.objs.size≤b→H b=none:=fun b hb=>I.hok.fresh hb
   have hasnd:as.Nodup:=hG.rise.imp fun h=>Nat.ne_of_lt h
   generalize hL:as.zip (ps.map YE)=L
   have hm1:L.map (·.1)=as:=by rw [← hL];exact List.map_fst_zip (by rw [List.length_map];omega)
   have offA:∀ b,b ∉ as→XT H L b=H b:=fun b hb=>Zas (by rw [hm1];exact hb)
   have tup_at:∀ (j:Nat) (a:Addr) (p:Int×V),as[j]?=some a→ps[j]?=some p→XT H L a=some (.tup [.int p.1,p.2]):=fun j a p e1 e2=>by
     refine ZbO (k:=Sum.inl p.1) (v:=p.2) (by rw [hm1];exact hasnd) ?_
     rw [← hL]
     exact List.mem_of_getElem? (i:=j) (by rw [List.getElem?_zip_eq_some];exact ⟨e1,by rw [List.getElem?_map,e2];rfl⟩)
   have PT0:YZ (XT H L) as ps:=⟨hl2,tup_at⟩
   obtain ⟨ps',hp1,hp2,hp3⟩:=Zbt PT0 hT
   have hsub:∀ a∈ts',a∈as:=by
     obtain ⟨zs,z1,z2,_⟩:=hT
     intro a ha
     rw [z2] at ha
     obtain ⟨z,hz1,hz2⟩:=List.mem_map.mp ha
     have:=(List.of_mem_zip (show (z.1,z.2)∈_ from z1.mem_iff.mp hz1)).2
     rw [← hz2];exact this
   have hlow:∀ b,b < s.heap.objs.size→upd (XT H L) h'.objs.size (.lst (ts'.map V.ref)) b=H b:=fun b hb=>by
     rw [Zb (Nat.ne_of_lt (Nat.lt_of_lt_of_le hb hge)),offA b fun z=>Nat.lt_irrefl _ (Nat.lt_trans (above b z) hb)]
   have sm:Same H (upd (XT H L) h'.objs.size (.lst (ts'.map V.ref))):=fun b o e=>by rw [hlow b (I.hok.lt e)];exact e
   have hk3:∀ b o,s.heap.get? b=some o→h3.get? b=some o:=fun b o e=>k3 b o (Nat.ne_of_lt (Nat.lt_of_lt_of_le (Heap.lt_size e) hge)) (Heap.get?_push_of_some _ (hk b o e))
   refine ⟨.ref h'.objs.size,_,I.many (t':=tk3) hk3 sm hlow (fun b o hb e=>?_),rfl,q _ ts' ps' _ (hfr _ hge) sm hnd hp1 hp2 ⟨hp3.1,fun i a p e1 e2=>?_⟩ (fun a ha=>hfr a (Nat.le_of_lt (above a (hsub a ha)))) Zf⟩
   · by_cases h0:b=h'.objs.size
     · subst h0
       rw [Zf] at e
       cases e
       refine ⟨?_,out.toList,c3,?_,by rw [Array.toArray_toList];exact a3⟩
       · obtain ⟨zs,z1,z2,_⟩:=hT
         have:=z1.length_eq
         rw [List.length_zip,List.length_map] at this
         rw [List.length_map,z2,List.length_map,this,sizeLine_eq];omega
       · rw [hout]
         clear hout hT hp3 hsub hlow sm q a3 o3
         induction ts' with
         | nil=>exact .nil
         | cons a r ih=>exact .cons rfl ih
     · rw [Zb h0] at e
       by_cases hm:b∈as
       · obtain ⟨j,hj⟩:=List.mem_iff_getElem?.mp hm
         have hjl:j < ps.length:=by have:=(List.getElem?_eq_some_iff.mp hj).1;omega
         obtain ⟨t,x,e5,rel⟩:=lift j b _ hj (List.getElem?_eq_getElem hjl)
         rw [tup_at j b _ hj (List.getElem?_eq_getElem hjl)] at e
         cases e
         exact ⟨by show 2≤sizeLine;decide,[.int _ t,x],.cons ⟨t,rfl⟩ (.cons rel .nil),⟨_,k3 b _ h0 (Heap.get?_push_of_some _ e5),rfl,_,rfl⟩⟩
       · rw [offA b hm,hfr b hb] at e
         cases e
   · rw [Zb (fun z=>nB (by rw [← z];exact hsub a (List.mem_of_getElem? e1)))]
     exact hp3.2 i a p e1 e2
end
end L2
set_option maxHeartbeats 2000000
namespace L2
open PySem
theorem pe_i {X:Cx}{k:Nat}{C:Addr}{x:Str}{ps:List Str}{sp:Sp}{p pos:Pos}{e:Expr}{es:List Expr}{t:TA}(D:WJ X.prog X.w X.K X.mg X.base k C x ps sp)(hr:Room (k+1) X.A)(ha:PA X (e::es) t)(hg:Gl X x:=by rfl)(hdb:(x == ("__debug__":Str))=false:=by decide)
   (he:starEach (e::es) X.env=(false,eval e X.env)::starEach es X.env:=by rfl) (hpl:(backTo pos (starEach es X.env)).any (·.1)=false:=by rfl) :
   PE X (.Call (.Name x p) (e::es) [] pos) (Zad C sp [] E0 t):=by
 obtain ⟨f,fd,F,b,M,m⟩:=D
 exact Zgb M F hr hg m b .nil UL ha hdb he hpl
theorem Sep.insPt {C e:Addr}{fs:List (Str×V)}{Δ:Rs}{H:Hp}(S:Sep ((e,Yt C fs)::Δ) H):∃ dx,Sep ((e,Pt (.ins C dx fs))::Δ) H:=by
 obtain ⟨h,l,⟨dx,z⟩,S⟩:=S
 exact ⟨dx,h,l,z,S⟩
abbrev Wb (h ln lu:Addr)(n:Int):List (Str×V):=[("hall",.ref h),("names",.ref ln),("unheard",.ref lu),("looks_done",.int n)]
def YL (CL h:Addr)(ns us:List V)(n:Int):Yi:=fun e hp=>∃ ln lu,Sep [(e,Yt CL (Wb h ln lu n)),(ln,ZN ns),(lu,ZN us)] hp
section
variable {CL h e ln lu:Addr}{ns us:List V}{n:Int}{Δ:Rs}{H:Hp}
instance:Up (YL CL h ns us n):=⟨fun ⟨ln,lu,S⟩ s=>⟨ln,lu,S.mono s⟩⟩
theorem Sep.eyeO (S:Sep ((e,YL CL h ns us n)::Δ) H):∃ ln lu,Sep ((e,Yt CL (Wb h ln lu n))::(ln,ZN ns)::(lu,ZN us)::Δ) H:=by
 obtain ⟨h',l,⟨ln,lu,G⟩,S⟩:=S
 exact ⟨ln,lu,Sep.nest (a:=e) (Γ:=[(e,Yt CL (Wb h ln lu n)),(ln,ZN ns),(lu,ZN us)]) l G S⟩
theorem Sep.eyeC (S:Sep ((e,Yt CL (Wb h ln lu n))::(ln,ZN ns)::(lu,ZN us)::Δ) H):Sep ((e,YL CL h ns us n)::Δ) H :=
 Sep.pack (Γ:=[(e,Yt CL (Wb h ln lu n)),(ln,ZN ns),(lu,ZN us)]) S fun h' G=>⟨ln,lu,G⟩
theorem ef_h:(Wb h ln lu n).lookup ("hall":Str)=some (V.ref h):=rfl
theorem Vp:(Wb h ln lu n).lookup ("names":Str)=some (V.ref ln):=rfl
theorem ef_u:(Wb h ln lu n).lookup ("unheard":Str)=some (V.ref lu):=rfl
theorem ef_l:(Wb h ln lu n).lookup ("looks_done":Str)=some (V.int n):=rfl
theorem Va {m:Str}(h:[("hall":Str),"names","unheard","looks_done"].all (fun k=>!(m == k))=true):(Wb h' ln lu n).lookup m=none:=by
 simp only [List.all_cons,List.all_nil,Bool.and_true,Bool.and_eq_true,Bool.not_eq_true'] at h
 obtain ⟨h1,h2,h3,h4⟩:=h
 simp [Wb,List.lookup,h1,h2,h3,h4]
end
structure Wh (K:PySem.W.Frag)(CL:Addr):Prop where
 cl:Cls K CL
 nh:NoAttr K CL "hall"
 nn:NoAttr K CL "names"
 nu:NoAttr K CL "unheard"
 nl:NoAttr K CL "looks_done"
end L2
set_option maxHeartbeats 4000000
namespace K45
open PySem L2
section
variable {P:Program}{w:World}{K:PySem.W.Frag}{mg:Str→Option Value}{base:Heap}{CH CR CS CT CL:Addr}
def ZbN (CL:Addr):Sp:=fun vs H Q _=>∃(t dx h:Addr)(H0:Hp)(Δ:Rs),vs=[.ref t,.ref h]∧H=upd (upd H0 dx (.own t)) t (.ins CL dx [])∧H0 t=none∧H0 dx=none∧dx≠t∧Sep Δ H0∧∀ H',Sep ((t,YL CL h [] [] 0)::Δ) H'→Q .non H'
abbrev nLIn:List Str:=["self","hall"]
abbrev Zcq:List Str:=["self","hall"]
theorem Zir:Zs nLIn Zcq (Zj c_Lookout___init__):=⟨rfl,rfl,rfl,by decide +kernel,rfl,by decide +kernel,by decide +kernel⟩
theorem Zfm {f:Addr}{fd:FuncData}(F:Fun K "__init__" "Lookout.__init__" c_Lookout___init__ f fd)(T:Ye mg)(TLo:Wh K CL):FnOk P w K mg base ZU 1 f fd Zcq (ZbN CL):=by
 refine F.ok Zir (fun vs H Q E h=>?_) (fun cdv A outer s H vs Q E hr h=>?_)
 · obtain ⟨t,dx,h,H0,Δ,rfl,_⟩:=h;rfl
 obtain ⟨t,dx,h,H0,Δ,rfl,rfl,h1,h2,h3,S0,q⟩:=h
 have S:=((S0.new h2 (.own t)).new (p:=t) (by rw [Zb h3.symm];exact h1) (.ins CL dx [])).drop dx
 generalize upd (upd H0 dx (.own t)) t (.ins CL dx [])=H at *
 refine' ⟨?t,?h,?r⟩
 case h =>
   conv=>arg 2;whnf
   with_reducible refine' (Zg ?h1 (Zg ?h2 (Zg ?h3 (Zi ?h4))))
   case h1=>exact ZW (pv 0) (pv 1) rfl
   case h2=>exact ZW (pv 0) (Zy Za) rfl
   case h3=>exact ZW (pv 0) (Zy Za) rfl
   case h4=>exact ZW (pv 0) Ze rfl
 refine ⟨_,rfl,_,rfl,t,CL,dx,_,rfl,S.get t,TLo.cl,TLo.nh,(by show 0 < 1000;decide),?_⟩
 generalize hE:upd H t _=H1
 have S1:=S.putE hE
 clear hE
 refine ⟨(by show 0≤sizeLine;decide),fun ln hln=>?_⟩
 generalize hE:upd H1 ln _=H2
 have S2:=S1.newE hln hE
 clear hE
 refine ⟨_,rfl,t,CL,dx,_,rfl,S2.get t,TLo.cl,TLo.nn,(by show 1 < 1000;decide),?_⟩
 generalize hE:upd H2 t _=H3
 have S3:=S2.putE hE
 clear hE
 refine ⟨(by show 0≤sizeLine;decide),fun lu hlu=>?_⟩
 generalize hE:upd H3 lu _=H4
 have S4:=S3.newE hlu hE
 clear hE
 refine ⟨_,rfl,t,CL,dx,_,rfl,S4.get t,TLo.cl,TLo.nu,(by show 2 < 1000;decide),?_⟩
 generalize hE:upd H4 t _=H5
 have S5:=S4.putE hE
 clear hE
 refine ⟨_,rfl,t,CL,dx,_,rfl,S5.get t,TLo.cl,TLo.nl,(by show 3 < 1000;decide),?_⟩
 generalize hE:upd H5 t _=H6
 have S6:=S5.putE hE
 clear hE
 have S7:=S6.say t (Yt CL (Wb h ln lu 0)) fun h z=>⟨dx,z⟩
 exact q _ (Sep.eyeC (((S7.pull lu).pull ln).pull t))
def ZbK (CL:Addr):Sp:=fun vs H Q _=>∃(e h:Addr)(ns us:List V)(n:Int),vs=[.ref e]∧YL CL h ns us n e H∧Q (.int n) H
abbrev nLLk:List Str:=["self"]
abbrev Zci:List Str:=["self"]
theorem Zip:Zs nLLk Zci (Zj c_Lookout_looks):=⟨rfl,rfl,rfl,by decide +kernel,rfl,by decide +kernel,by decide +kernel⟩
theorem ZeW {f:Addr}{fd:FuncData}(F:Fun K "looks" "Lookout.looks" c_Lookout_looks f fd)(T:Ye mg)(TLo:Wh K CL):FnOk P w K mg base ZU 1 f fd Zci (ZbK CL):=by
 refine F.ok Zip (fun vs H Q E h=>?_) (fun cdv A outer s H vs Q E hr h=>?_)
 · obtain ⟨e,h,ns,us,n,rfl,_⟩:=h;rfl
 obtain ⟨e,h,ns,us,n,rfl,⟨ln,lu,S⟩,q⟩:=h
 obtain ⟨dx,ob⟩:=S.get e
 refine' ⟨?t,?h,?r⟩
 case h =>
   conv=>arg 2;whnf
   with_reducible refine' (Zi ?h1)
   case h1=>exact Zv (Ys (pv 0) rfl)
 exact ⟨_,rfl,e,CL,dx,_,_,rfl,ob,TLo.cl,TLo.nl,ef_l,q⟩
def ZdC (CL:Addr):Sp:=fun vs H Q _=>∃(e h:Addr)(ns us:List V)(n:Int)(Δ:Rs),vs=[.ref e]∧Sep ((e,YL CL h ns us n)::Δ) H∧∀(l:Addr)(H':Hp),Sep ((e,YL CL h ns [] n)::(l,ZN us)::Δ) H'→Q (.ref l) H'
abbrev nLNw:List Str:=["self","told"]
abbrev ZcF:List Str:=["self"]
theorem scLNw:Zs nLNw ZcF (Zj c_Lookout_news):=⟨rfl,rfl,rfl,by decide +kernel,rfl,by decide +kernel,by decide +kernel⟩
theorem Zgp {f:Addr}{fd:FuncData}(F:Fun K "news" "Lookout.news" c_Lookout_news f fd)(T:Ye mg)(TLo:Wh K CL):FnOk P w K mg base ZU 1 f fd ZcF (ZdC CL):=by
 refine F.ok scLNw (fun vs H Q E h=>?_) (fun cdv A outer s H vs Q E hr h=>?_)
 · obtain ⟨e,h,ns,us,n,Δ,rfl,_⟩:=h;rfl
 obtain ⟨e,h,ns,us,n,Δ,rfl,S0,q⟩:=h
 obtain ⟨ln,lu,S⟩:=S0.eyeO
 obtain ⟨dx,ob⟩:=S.get e
 refine' ⟨?t,?h,?r⟩
 case h =>
   conv=>arg 2;whnf
   with_reducible refine' (Zg ?h1 (Zg ?h2 (Zi ?h3)))
   case h1=>exact ZA (i:=1) scLNw.nd rfl (Or.inl rfl) (Ys (pv 0) rfl)
   case h2=>exact ZW (pv 0) (Zy Za) rfl
   case h3=>exact Zv (pv 1)
 refine ⟨_,rfl,e,CL,dx,_,_,rfl,ob,TLo.cl,TLo.nu,ef_u,?_⟩
 refine ⟨(by show 0≤sizeLine;decide),fun l hl=>?_⟩
 generalize hE:upd H l _=H2
 have S2:=S.newE hl hE
 clear hE
 obtain ⟨dx2,S3⟩:=(S2.pull e).insPt
 refine ⟨_,rfl,e,CL,dx2,_,rfl,S3.get e,TLo.cl,TLo.nu,(by show 4 < 1000;decide),?_⟩
 generalize hE:upd H2 e _=H4
 have S4:=S3.putE hE
 clear hE
 have S5:=S4.say e (Yt CL (Wb h ln l n)) fun h z=>⟨dx2,z⟩
 refine ⟨_,rfl,q lu H4 ?_⟩
 exact Sep.eyeC ((((S5.pull lu).pull l).pull ln).pull e)
def Zcn (K:PySem.W.Frag)(CH CR CS CT CL CX:Addr):Sp:=fun vs H Q E=>∃ (e h:Addr) (ns us:List V) (n:Int) (s:Hs) (x:Str) (Δ:Rs),vs=[.ref e,.str x]∧Sep ((e,YL CL h ns us n)::(h,Xm K CH CR CS CT s)::Δ) H∧ns.length≤1000∧(ZB s.dfs (Sum.inr x)=none→∀ dx H',Same H H'→H' dx=some (.xd [("what",.str x)])→E (.ref CX) (some dx) H') ∧
 ((ZB s.dfs (Sum.inr x)).isSome=true→∀ H',Sep ((e,YL CL h (ns++[.str x]) us n)::(h,Xm K CH CR CS CT s)::Δ) H'→Q (.int (ns.length:Int)) H')
abbrev nLWa:List Str:=["self","name"]
abbrev Zai:List Str:=["self","name"]
theorem Zje:Zs nLWa Zai (Zj c_Lookout_watch):=⟨rfl,rfl,rfl,by decide +kernel,rfl,by decide +kernel,by decide +kernel⟩
theorem Zhs {CX:Addr}{f:Addr}{fd:FuncData}(F:Fun K "watch" "Lookout.watch" c_Lookout_watch f fd)(T:Ye mg)(TLo:Wh K CL)(TH:Vx K CH)(DH_check_setting:Wl P w K mg base 3 CH "check_setting" Zac (ZcI K CH CR CS CT CX)):FnOk P w K mg base (WR P w base) 4 f fd Zai (Zcn K CH CR CS CT CL CX):=by
 refine F.okX Zje (fun vs H Q E h=>?_) (fun cdv A outer s H vs Q E hr h W=>?_)
 · obtain ⟨e,h,ns,us,n,s,x,Δ,rfl,_⟩:=h;rfl
 obtain ⟨e,h,ns,us,n,s,x,Δ,rfl,S0,hl,q1,q2⟩:=h
 obtain ⟨ln,lu,S⟩:=S0.eyeO
 obtain ⟨dx,ob⟩:=S.get e
 have R:RdH K CH CR CS CT h s H:=S.get h
 obtain ⟨d,r,sp,i,t,SR⟩:=id R
 obtain ⟨dxh,obh⟩:=SR.get h
 refine' ⟨?t,?h,?r⟩
 case h =>
   conv=>arg 2;whnf
   with_reducible refine' (Zg ?h1 (Zg ?h2 (Zi ?h3)))
   case h1=>exact YH (Zcx W DH_check_setting TH.cl hr (Ys (pv 0) rfl) (Zd (pv 1) Za))
   case h2=>exact YH (Xp PySem.F.plainAttrs_list PySem.F.slot_list_append PySem.F.type_list_append YU (Ys (pv 0) rfl) (Zd (pv 1) Za))
   case h3=>exact Zv (Zn Xb (Zl ZK rfl T.len PySem.boot_len (Zd (Ys (pv 0) rfl) Za)) Ze)
 refine ⟨_,rfl,e,CL,dx,_,_,rfl,ob,TLo.cl,TLo.nh,ef_h,h,dxh,_,rfl,obh,ZfH (by decide +kernel),_,rfl,h,s,x,rfl,R,fun hd=>?_,q1⟩
 refine ⟨_,rfl,e,CL,dx,_,_,rfl,ob,TLo.cl,TLo.nn,Vp,.inl ⟨rfl,_,SqL.of (S.get ln)⟩,_,rfl,ln,_,_,rfl,rfl,S.get ln,Wa hl,?_⟩
 generalize hE:upd H ln _=H2
 have S2:=S.putE hE
 clear hE
 obtain ⟨dx2,ob2⟩:=S2.get e
 refine ⟨_,rfl,e,CL,dx2,_,_,rfl,ob2,TLo.cl,TLo.nn,Vp,ln,_,rfl,.inl (SqL.of (S2.get ln)),_,_,rfl,rfl,?_⟩
 rw [List.length_append,List.length_singleton]
 show Q (.int (((ns.length+1:Nat):Int) - 1)) H2
 rw [show ((ns.length+1:Nat):Int) - 1=(ns.length:Int) by omega]
 exact q2 hd _ (Sep.eyeC (((S2.pull lu).pull ln).pull e))
def Zch (CL CX:Addr):Sp:=fun vs H Q E=>∃(e h:Addr)(ns us:List V)(n:Int)(k:Int)(Δ:Rs),vs=[.ref e,.int k]∧Sep ((e,YL CL h ns us n)::Δ) H∧(∀ v∈ns,v=.non∨∃ x,v=.str x) ∧
 ((k < 0∨ns[k.toNat]?=none∨ns[k.toNat]?=some .non)→∀ dx H',Same H H'→H' dx=some (.xd [("what",.int k)])→E (.ref CX) (some dx) H') ∧
 (0≤k→(∃ x,ns[k.toNat]?=some (.str x))→∀ H',Sep ((e,YL CL h (ns.set k.toNat .non) us n)::Δ) H'→Q .non H')
abbrev nLUn:List Str:=["self","watcher"]
abbrev Zal:List Str:=["self","watcher"]
theorem Zix:Zs nLUn Zal (Zj c_Lookout_unwatch):=⟨rfl,rfl,rfl,by decide +kernel,rfl,by decide +kernel,by decide +kernel⟩
theorem Zia {CX:Addr}{f:Addr}{fd:FuncData}(F:Fun K "unwatch" "Lookout.unwatch" c_Lookout_unwatch f fd)(T:Ye mg)(TLo:Wh K CL)(DE:Uq P w K mg base 1 CX "NoWatcher"):FnOk P w K mg base (WR P w base) 3 f fd Zal (Zch CL CX):=by
 refine F.okX Zix (fun vs H Q E h=>?_) (fun cdv A outer s H vs Q E hr h W=>?_)
 · obtain ⟨e,h,ns,us,n,k,Δ,rfl,_⟩:=h;rfl
 obtain ⟨e,h,ns,us,n,k,Δ,rfl,S0,hv,q1,q2⟩:=h
 obtain ⟨ln,lu,S⟩:=S0.eyeO
 obtain ⟨dx,ob⟩:=S.get e
 refine' ⟨?t,?h,?r⟩
 case h =>
   conv=>arg 2;whnf
   with_reducible refine' (Zg (Yb ?h1 (Zi ?h2) ZH) (Zi ?h3))
   case h1=>exact PW.pt (Zaj (WF (ZeY Zis WX Ze (pv 1) (Zl ZK rfl T.len PySem.boot_len (Zd (Ys (pv 0) rfl) Za)))) (Vg (XH (ZaG (ZJ ZL (Ys (pv 0) rfl) (pv 1) (fun _ _=>rfl))))))
   case h2=>exact Uz W DE hr rfl (Zd (pv 1) Za)
   case h3=>exact Xk YM (Zar (Ys (pv 0) rfl) (pv 1) UH)
 have bad:(k < 0∨ns[k.toNat]?=none∨ns[k.toNat]?=some .non)→∀ dx,H dx=none→E (.ref CX) (some dx) (upd H dx (.xd [("what",.int k)])):=fun z d hd=>q1 z d _ (Zk hd _) Zf
 refine ⟨_,rfl,_,_,rfl,rfl,_,rfl,?_⟩
 by_cases h0:0≤k
 · rw [decide_eq_true h0]
   refine Yc ⟨_,rfl,e,CL,dx,_,_,rfl,ob,TLo.cl,TLo.nn,Vp,ln,_,rfl,.inl (SqL.of (S.get ln)),_,_,rfl,rfl,_,rfl,?_⟩
   by_cases h1:k < (ns.length:Int)
   · rw [decide_eq_true h1]
     have hlt:k.toNat < ns.length:=by omega
     have hat:Yg ns k=some ns[k.toNat]:=by
       have z:Yg ns ((k.toNat:Nat):Int)=some ns[k.toNat]:=YI (List.getElem?_eq_getElem hlt)
       rwa [show ((k.toNat:Nat):Int)=k by omega] at z
     refine ZV ⟨_,rfl,e,CL,dx,_,_,rfl,ob,TLo.cl,TLo.nn,Vp,_,rfl,ln,_,_,_,rfl,rfl,SqL.of (S.get ln),hat,_,rfl,?_⟩
     rcases hv _ (List.getElem_mem hlt) with hn | ⟨x,hx⟩
     · rw [hn]
       exact Yc ⟨_,rfl,_,rfl,fun d hd=>bad (.inr (.inr (by rw [List.getElem?_eq_getElem hlt,hn]))) d hd⟩
     · rw [hx]
       refine ZV ⟨_,rfl,e,CL,dx,_,_,rfl,ob,TLo.cl,TLo.nn,Vp,_,rfl,ln,_,_,k.toNat,rfl,rfl,S.get ln,(by unfold Ui;rw [if_pos h0,if_pos h1]),?_⟩
       generalize hE:upd H ln _=H2
       have S2:=S.putE hE
       clear hE
       exact q2 h0 ⟨x,by rw [List.getElem?_eq_getElem hlt,hx]⟩ _ (Sep.eyeC (((S2.pull lu).pull ln).pull e))
   · rw [decide_eq_false h1]
     exact Yc (Yc ⟨_,rfl,_,rfl,fun d hd=>bad (.inr (.inl (List.getElem?_eq_none (by omega)))) d hd⟩)
 · rw [decide_eq_false h0]
   exact ZV ⟨_,rfl,Yc (Yc ⟨_,rfl,_,rfl,fun d hd=>bad (.inl (by omega)) d hd⟩)⟩
def Zz (ns:List V)(i:Nat):List (Int×V):=((List.range i).filter fun j=>!decide (ns.getD j .non=.non)).map fun j:Nat=>((j:Int),ns.getD j .non)
theorem WO {ns:List V}{i:Nat}:Zz ns (i+1)=if ns.getD i .non=.non then Zz ns i else Zz ns i++[((i:Int),ns.getD i .non)]:=by
 unfold Zz
 rw [List.range_succ,List.filter_append,List.map_append]
 by_cases h:ns.getD i .non=.non
 · rw [if_pos h,List.filter_cons_of_neg (by rw [decide_eq_true h];decide),List.filter_nil,List.map_nil,List.append_nil]
 · rw [if_neg h,List.filter_cons_of_pos (by rw [decide_eq_false h];rfl),List.filter_nil];rfl
def ZfR (CL:Addr):Sp:=fun vs H Q _=>∃(e h:Addr)(ns us:List V)(n:Int),vs=[.ref e]∧YL CL h ns us n e H∧ns.length≤1000∧∀(l:Addr)(as:List Addr)(H':Hp),Same H H'→H l=none→H' l=some (.lst (as.map V.ref))→YZ H' as (Zz ns ns.length)→(∀ a∈as,H a=none)→Q (.ref l) H'
abbrev Zcu:List Str:=["self"]
abbrev Zck:List Str:=["self"]
theorem ZiY:Zs Zcu Zck (Zj c_Lookout_watched):=⟨rfl,rfl,rfl,by decide +kernel,rfl,by decide +kernel,by decide +kernel⟩
theorem Zhw {f:Addr}{fd:FuncData}(F:Fun K "watched" "Lookout.watched" c_Lookout_watched f fd)(T:Ye mg)(TLo:Wh K CL):FnOk P w K mg base ZU 1 f fd Zck (ZfR CL):=by
 refine F.ok ZiY (fun vs H Q E h=>?_) (fun cdv A outer s H vs Q E hr h=>?_)
 · obtain ⟨e,h,ns,us,n,rfl,_⟩:=h;rfl
 obtain ⟨e,h,ns,us,n,rfl,⟨ln,lu,S⟩,hl,q⟩:=h
 obtain ⟨dx,ob⟩:=S.get e
 refine' ⟨?t,?h,?r⟩
 case h =>
   conv=>arg 2;whnf
   with_reducible refine' (Zi ?h1)
   case h1=>exact Zv (ZdQ (xa:="watcher") (xb:="name") (CompOkT.of Zcu c_Lookout_watched rfl rfl (by decide +kernel)) rfl (Zaw rfl T.enumerate (Ys (pv 0) rfl)) (fun _ _ _ _ _=>VB (K:=K) rfl rfl (Zx (i:=1) (show (Vy Zcu "watcher" "name"++(["watcher","name"]:List Str)).Nodup by decide +kernel) rfl (Or.inl rfl) (Or.inr rfl)) (Zx (i:=2) (show (Vy Zcu "watcher" "name"++(["watcher","name"]:List Str)).Nodup by decide +kernel) rfl (Or.inl rfl) (Or.inr rfl))) (fun _ _ _ _ _=>XH (ZgD (pv 2))) (fun _ _ _ _ _=>Yl (Zd (pv 1) (Zd (pv 2) Za))))
 refine ⟨_,rfl,e,CL,dx,_,_,rfl,ob,TLo.cl,TLo.nn,Vp,ln,_,rfl,S.get ln,fun D hD=>?_⟩
 refine Zbm (K:=K) (xs:=ns) (Yv hl) (fun i ys H'=>∃ as:List Addr,Same H H'∧H' D=some (.lst ys)∧ys=as.map V.ref∧YZ H' as (Zz ns i)∧(∀ a∈as,H a=none∧a≠D)) ⟨[],Zk hD _,Zf,rfl,⟨rfl,fun i a p e=>by simp at e⟩,fun a ha=>by cases ha⟩ ?_ ?_ ?_
 · rintro i ys H' ⟨as,s1,_,rfl,pt,_⟩
   refine ⟨?_,SqL.of (s1 _ _ (S.get ln))⟩
   rw [List.length_map,pt.1]
   unfold Zz
   rw [List.length_map]
   exact Nat.le_trans (List.length_filter_le _ _) (by rw [List.length_range];exact Nat.le_refl _)
 · rintro i x t ys H' wa wb ex ht ⟨as,s1,eD,rfl,pt,hn⟩
   have hx:ns.getD i .non=x:=by rw [List.getD_eq_getElem?_getD,ex];rfl
   have s2:=s1.trans (Zk ht (.tup [.int (i:Int),x]))
   refine ⟨t,_,rfl,SqT.of Zf,rfl,_,_,rfl,_,_,rfl,rfl,⟨_,_,rfl⟩,?_⟩
   have eD2:=(Zk ht (.tup [.int (i:Int),x])) _ _ eD
   have pt2:YZ (upd H' t (.tup [.int (i:Int),x])) as (Zz ns i):=⟨pt.1,fun j a p e1 e2=>Zk ht _ _ _ (pt.2 j a p e1 e2)⟩
   generalize upd H' t (.tup [.int (i:Int),x])=H2 at s2 eD2 pt2 ⊢
   refine ⟨_,rfl,_,rfl,?_⟩
   show if (!decide (x=V.non))=true then _ else _
   by_cases hN:x=V.non
   · rw [decide_eq_true hN]
     exact ZV ⟨as,s2,eD2,rfl,by rw [WO,hx,if_pos hN];exact pt2,hn⟩
   · rw [decide_eq_false hN]
     refine Yc ⟨_,rfl,_,rfl,(by show 2≤sizeLine;decide),fun p hp=>?_⟩
     have hpD:p≠D:=fun z=>by rw [z,eD2] at hp;cases hp
     have hpH:H p=none:=WN s2 hp
     refine ⟨by rw [Zb hpD.symm];exact eD2,as++[p],?_,Zf,(by rw [List.map_append];rfl),?_,?_⟩
     · intro b o eb
       rw [Zb (fun z=>by rw [z,hD] at eb;cases eb),Zb (fun z=>by rw [z,hpH] at eb;cases eb)]
       exact s2 _ _ eb
     · rw [WO,hx,if_neg hN]
       refine ⟨by rw [List.length_append,List.length_append,pt2.1];rfl,fun j a r e1 e2=>?_⟩
       have hne:∀ b,H b=none∧b≠D→b≠D:=fun b z=>z.2
       by_cases hj:j < as.length
       · rw [List.getElem?_append_left hj] at e1
         rw [List.getElem?_append_left (by rw [← pt2.1];exact hj)] at e2
         have z:=pt2.2 j a r e1 e2
         rw [Zb (hn a (List.mem_of_getElem? e1)).2,Zb (fun y=>by rw [y,hp] at z;cases z)]
         exact z
       · rw [List.getElem?_append_right (by omega)] at e1
         rw [List.getElem?_append_right (by rw [← pt2.1];omega),← pt2.1] at e2
         have:j - as.length=0:=by
           cases y:j - as.length with
           | zero=>rfl
           | succ m=>rw [y] at e1;cases e1
         rw [this] at e1 e2
         cases e1;cases e2
         rw [Zb hpD];exact Zf
     · intro a ha
       rcases List.mem_append.mp ha with z | z
       · exact hn a z
       · rw [List.mem_singleton.mp z];exact ⟨hpH,hpD⟩
 · rintro ys H' ⟨as,s1,eD,rfl,pt,hn⟩
   exact q D as H' s1 hD eD pt fun a ha=>(hn a ha).1
end
end K45
set_option maxHeartbeats 2000000
namespace L2
open PySem PySem.Spec PyProof.Rows
mutual
inductive DatA (K:PySem.W.Frag)(H:Hp):V→PyData→Prop
 | non:DatA K H .non .none
 | bl (b):DatA K H (.bl b) (.bool b)
 | int (i):DatA K H (.int i) (.int i)
 | str (x):DatA K H (.str x) (.str x)
 | lst {a xs ds}:H a=some (.lst xs)→xs.length≤20000→DatAs K H xs ds→DatA K H (.ref a) (.list ds)
 | tup {a xs ds}:SqT K H a xs→xs.length≤20000→DatAs K H xs ds→DatA K H (.ref a) (.tuple ds)
inductive DatAs (K:PySem.W.Frag)(H:Hp):List V→List PyData→Prop
 | nil:DatAs K H [] []
 | cons {v d vs ds}:DatA K H v d→DatAs K H vs ds→DatAs K H (v::vs) (d::ds)
end
mutual
theorem DatA.same {K:PySem.W.Frag}{H H':Hp}(s:Same H H'):∀{v d},DatA K H v d→DatA K H' v d
 | _,_,.non=>.non
 | _,_,.bl b=>.bl b
 | _,_,.int i=>.int i
 | _,_,.str x=>.str x
 | _,_,.lst e h q=>.lst (s _ _ e) h (DatAs.same s q)
 | _,_,.tup e h q=>.tup (e.tf s.tf) h (DatAs.same s q)
theorem DatAs.same {K:PySem.W.Frag}{H H':Hp}(s:Same H H'):∀{vs ds},DatAs K H vs ds→DatAs K H' vs ds
 | _,_,.nil=>.nil
 | _,_,.cons r t=>.cons (DatA.same s r) (DatAs.same s t)
end
theorem DatAs.len {K:PySem.W.Frag}{H:Hp}:∀{vs ds},DatAs K H vs ds→vs.length=ds.length
 | _,_,.nil=>rfl
 | _,_,.cons q t=>by rw [List.length_cons,List.length_cons,DatAs.len t]
theorem DatAs.at {K:PySem.W.Frag}{H:Hp}:∀{vs ds}{i:Nat}{v:V},DatAs K H vs ds→vs[i]?=some v→∃ d,ds[i]?=some d∧DatA K H v d
 | _,_,_,_,.nil,h=>by simp at h
 | _,_,0,_,.cons a _,h=>by cases h;exact ⟨_,rfl,a⟩
 | _,_,i+1,_,.cons _ b,h=>DatAs.at (i:=i) b h
theorem Uu:∀{ds:List PyData}{i:Nat}{d:PyData},ds[i]?=some d→d.depth≤PyData.depthAll ds
 | [],_,_,h=>by simp at h
 | q::ds,0,_,h=>by cases h;rw [PyData.depthAll];exact Nat.le_max_left _ _
 | q::ds,i+1,p,h=>by rw [PyData.depthAll];exact Nat.le_trans (Uu (ds:=ds) (i:=i) h) (Nat.le_max_right _ _)
section
variable {X:Cx}{pins:List (Addr×Obj)}{σ:St}{H:Hp}{s:Shared}
end
section
variable {X:Cx}
end
section
variable {X:Cx}
end
end L2
set_option maxHeartbeats 4000000
namespace K45
open PySem L2
theorem ifT {b:Bool}{p q:Prop}(h:b=true)(x:p):if b=true then p else q:=by subst h;exact x
theorem ifF {b:Bool}{p q:Prop}(h:b=false)(x:q):if b=true then p else q:=by subst h;exact x
mutual
def nb:PyData→Bool
 | .bool _=>false
 | .list ds=>XR ds
 | .tuple ds=>XR ds
 | .none=>true
 | .int _=>true
 | .str _=>true
 | .dict _=>false
def XR:List PyData→Bool
 | []=>true
 | d::ds=>nb d&&XR ds
end
theorem ZaJ:∀{ds:List PyData}{i:Nat}{d:PyData},XR ds=true→ds[i]?=some d→nb d=true
 | [],_,_,_,h=>by simp at h
 | q::ds,0,_,n,h=>by cases h;rw [XR,Bool.and_eq_true] at n;exact n.1
 | q::ds,i+1,d,n,h=>by rw [XR,Bool.and_eq_true] at n;exact ZaJ (ds:=ds) (i:=i) n.2 h
section
variable {P:Program}{w:World}{K:PySem.W.Frag}{mg:Str→Option Value}{base:Heap}
def Wd (K:PySem.W.Frag)(n:Nat):Sp:=fun vs H Q _=>∃(x y:V)(d:PyData),vs=[x,y]∧DatA K H x d∧DatA K H y d∧nb d=true∧d.depth < n∧∀ H',Same H H'→Q (.bl true) H'
abbrev nSa:List Str:=["_law_found","_law_due"]
abbrev WG:List Str:=["_law_found","_law_due"]
theorem scSa:Zs nSa WG (Zj s_l_same):=⟨rfl,rfl,rfl,by decide +kernel,rfl,by decide +kernel,by decide +kernel⟩
theorem ZaX {f:Addr}{fd:FuncData}{n k:Nat}(F:Fun K "_law_same" "_law_same" s_l_same f fd)(T:Ye mg)(DSa:Def P w K mg base k "_law_same" WG (fun vs H Q E=>∃ m,m < n∧Wd K m vs H Q E)):FnOk P w K mg base ZU (k+1) f fd WG (Wd K n):=by
 refine F.ok scSa (fun vs H Q E h=>?_) (fun cdv A outer s H vs Q E hr h=>?_)
 · obtain ⟨x,y,d,rfl,_⟩:=h;rfl
 obtain ⟨x,y,d,rfl,dx,dy,hb,hn,q⟩:=h
 refine' ⟨?t,?h,?r⟩
 case h =>
   conv=>arg 2;whnf
   with_reducible refine' (Zg (Yb ?h1 (Zg (Yb ?h2 (Zi ?h3) ZH) (Zi ?h4)) ZH) (Zg (Yb ?h5 (Zi ?h6) ZH) (Zi ?h7)))
   case h1=>exact XA (Zl (VS (K:=K) rfl) rfl T.isinstance (by decide +kernel) (Zd (pv 1) (Zd (Yl (YJ (Yj rfl T.list (by decide +kernel) (v:=.ty "list") rfl) (YJ (Yj rfl T.tuple (by decide +kernel) (v:=.ty "tuple") rfl) Za rfl) rfl)) Za)))
   case h2=>exact PW.pt (Zaj (ZC Zcr (Zl (Yu (K:=K) rfl) rfl T.isinstance (by decide +kernel) (Zd (pv 0) (Zd (Yj rfl T.list (by decide +kernel) (v:=.ty "list") rfl) Za))) (Zl (Yu (K:=K) rfl) rfl T.isinstance (by decide +kernel) (Zd (pv 1) (Zd (Yj rfl T.list (by decide +kernel) (v:=.ty "list") rfl) Za))) (ZF _)) (Vg (ZC Zcr (Zl (Yu (K:=K) rfl) rfl T.isinstance (by decide +kernel) (Zd (pv 0) (Zd (Yj rfl T.tuple (by decide +kernel) (v:=.ty "tuple") rfl) Za))) (Zl (Yu (K:=K) rfl) rfl T.isinstance (by decide +kernel) (Zd (pv 1) (Zd (Yj rfl T.tuple (by decide +kernel) (v:=.ty "tuple") rfl) Za))) (ZF _))))
   case h3=>exact Zv Wj
   case h4=>exact Zv (Vc (We YV (Zl ZK rfl T.len PySem.boot_len (Zd (pv 0) Za)) (Zl ZK rfl T.len PySem.boot_len (Zd (pv 1) Za)) (ZF _)) (ZaF (Zl (Zfd rfl) rfl T.all (by decide +kernel) (Zd (ZeO (xa:="_law_one") (xb:="_law_other") (CompOkT.of nSa s_l_same rfl rfl (by decide +kernel)) rfl (PI.or (ZdH rfl T.zip (pv 0) (pv 1)) (Zgv rfl T.zip (pv 0) (pv 1))) (fun _ _ _ _ _=>VB (K:=K) rfl rfl (Zx (i:=2) (show (Vy nSa "_law_one" "_law_other"++(["_law_one","_law_other"]:List Str)).Nodup by decide +kernel) rfl (Or.inl rfl) (Or.inr rfl)) (Zx (i:=3) (show (Vy nSa "_law_one" "_law_other"++(["_law_one","_law_other"]:List Str)).Nodup by decide +kernel) rfl (Or.inl rfl) (Or.inr rfl)))  (fun _ _ _ _ _=>ZG DSa hr (Zd (pv 2) (Zd (pv 3) Za)))) Za))))
   case h5=>exact PW.pt (Zaj (XH (ZaG (pv 1))) (Vg (XA (Zl (VS (K:=K) rfl) rfl T.isinstance (by decide +kernel) (Zd (pv 1) (Zd (Yl (YJ (Yj rfl T.bool (by decide +kernel) (v:=.ty "bool") rfl) (YJ (Yj rfl T.str (by decide +kernel) (v:=.ty "str") rfl) Za rfl) rfl)) Za))))))
   case h6=>exact Zv (Vc (We YV (pv 0) (pv 1) (ZF _)) (ZaF (We YV (Zl (Yu (K:=K) rfl) rfl T.isinstance (by decide +kernel) (Zd (pv 0) (Zd (Yj rfl T.bool (by decide +kernel) (v:=.ty "bool") rfl) Za))) (Zl (Yu (K:=K) rfl) rfl T.isinstance (by decide +kernel) (Zd (pv 1) (Zd (Yj rfl T.bool (by decide +kernel) (v:=.ty "bool") rfl) Za))) (ZF _))))
   case h7=>exact Zv (Vc (Zl (Yu (K:=K) rfl) rfl T.isinstance (by decide +kernel) (Zd (pv 0) (Zd (Yj rfl T.int (by decide +kernel) (v:=.ty "int") rfl) Za))) (Vc (Zhz (Zl (Yu (K:=K) rfl) rfl T.isinstance (by decide +kernel) (Zd (pv 0) (Zd (Yj rfl T.bool (by decide +kernel) (v:=.ty "bool") rfl) Za)))) (ZaF (We YV (pv 0) (pv 1) (ZF _)))))
 have tyx:∀ {z:V} {d:PyData} {H':Hp},DatA K H' z d→∃ t,TyS K H' z t∧PySem.W.kitOne K t (.type "list")=some (match d with | .list _=>true | _=>false)∧PySem.W.kitOne K t (.type "tuple")=some (match d with | .tuple _=>true | _=>false)∧PySem.W.kitOne K t (.type "bool")=some (match d with | .bool _=>true | _=>false)∧PySem.W.kitOne K t (.type "str")=some (match d with | .str _=>true | _=>false)∧PySem.W.kitOne K t (.type "int")=some (match d with | .int _=>true | .bool _=>true | _=>false)∧PySem.W.kitAny K t [.type "list",.type "tuple"]=some (match d with | .list _=>true | .tuple _=>true | _=>false):=by
   intro z d H' h
   cases h with
   | non=>exact ⟨_,.inl .non,rfl,rfl,rfl,rfl,rfl,rfl⟩
   | bl b=>exact ⟨_,.inl (.bl b),rfl,rfl,rfl,rfl,rfl,rfl⟩
   | int i=>exact ⟨_,.inl (.int i),rfl,rfl,rfl,rfl,rfl,rfl⟩
   | str x=>exact ⟨_,.inl (.str x),rfl,rfl,rfl,rfl,rfl,rfl⟩
   | lst e _ _=>exact ⟨_,.inl (.lst e),rfl,rfl,rfl,rfl,rfl,rfl⟩
   | tup e _ _=>exact ⟨_,.inr ⟨_,_,rfl,rfl,e⟩,rfl,rfl,rfl,rfl,rfl,rfl⟩
 refine ⟨_,rfl,(show 2≤sizeLine by decide),fun tp htp=>?_⟩
 have s1:=Zk htp (.tup [.ty "list",.ty "tuple"])
 have etp:upd H tp (.tup [.ty "list",.ty "tuple"]) tp=some (.tup ((["list","tuple"]:List String).map V.ty)):=Zf
 replace dx:=DatA.same s1 dx
 replace dy:=DatA.same s1 dy
 generalize upd H tp (.tup [.ty "list",.ty "tuple"])=H1 at *
 obtain ⟨t1,ty1,l1,p1,b1,w1,i1,a1⟩:=tyx dx
 obtain ⟨t2,ty2,l2,p2,b2,w2,i2,a2⟩:=tyx dy
 refine ⟨y,tp,_,t2,_,rfl,ty2,etp,a2,_,rfl,?_⟩
 cases dx with
 | bl i=>exact absurd (show false=true from hb) (by decide)
 | non =>
   cases dy
   refine ZV ⟨_,rfl,_,rfl,ifT rfl ?_⟩
   refine ⟨_,rfl,_,rfl,rfl,_,rfl,ifT (decide_eq_true rfl) ?_⟩
   refine ⟨_,rfl,_,_,_,_,rfl,ty1,b1,_,rfl,_,_,_,_,rfl,ty2,b2,rfl,?_⟩
   rw [decide_eq_true rfl];exact q H1 s1
 | int i =>
   cases dy
   refine ZV ⟨_,rfl,_,rfl,ifF rfl ?_⟩
   refine ⟨_,rfl,(show 2≤sizeLine by decide),fun tq htq=>?_⟩
   have s2:=s1.trans (Zk htq (.tup [.ty "bool",.ty "str"]))
   have etq:upd H1 tq (.tup [.ty "bool",.ty "str"]) tq=some (.tup ((["bool","str"]:List String).map V.ty)):=Zf
   generalize upd H1 tq (.tup [.ty "bool",.ty "str"])=H2 at s2 etq ⊢
   refine ⟨_,tq,_,_,_,rfl,.inl (.int i),etq,rfl,_,rfl,ZV ?_⟩
   refine ⟨_,rfl,_,_,_,_,rfl,.inl (.int i),rfl,_,rfl,Yc ?_⟩
   refine ⟨_,rfl,_,_,_,_,rfl,.inl (.int i),rfl,_,rfl,_,rfl,ifT rfl ?_⟩
   refine ⟨_,rfl,_,rfl,rfl,?_⟩
   rw [decide_eq_true rfl];exact q H2 s2
 | str i =>
   cases dy
   refine ZV ⟨_,rfl,_,rfl,ifF rfl ?_⟩
   refine ⟨_,rfl,(show 2≤sizeLine by decide),fun tq htq=>?_⟩
   have s2:=s1.trans (Zk htq (.tup [.ty "bool",.ty "str"]))
   have etq:upd H1 tq (.tup [.ty "bool",.ty "str"]) tq=some (.tup ((["bool","str"]:List String).map V.ty)):=Zf
   generalize upd H1 tq (.tup [.ty "bool",.ty "str"])=H2 at s2 etq ⊢
   refine ⟨_,tq,_,_,_,rfl,.inl (.str i),etq,rfl,_,rfl,Yc ?_⟩
   refine ⟨_,rfl,_,rfl,rfl,_,rfl,ifT (decide_eq_true rfl) ?_⟩
   refine ⟨_,rfl,_,_,_,_,rfl,.inl (.str i),rfl,_,rfl,_,_,_,_,rfl,.inl (.str i),rfl,rfl,?_⟩
   rw [decide_eq_true rfl];exact q H2 s2
 | lst e1 h1 q1 =>
   cases dy with
   | lst e2 h2 q2 =>
   rename_i av1 xs1 ds av2 xs2
   have hnb:XR ds=true:=hb
   have hl1:=q1.len
   have hl2:=q2.len
   refine Yc ⟨_,rfl,_,_,_,_,rfl,ty1,l1,_,rfl,_,_,_,_,rfl,ty2,l2,rfl,_,rfl,ifF rfl ?_⟩
   refine ⟨_,rfl,_,_,_,_,rfl,ty1,p1,_,rfl,_,_,_,_,rfl,ty2,p2,rfl,_,rfl,ifF rfl ?_⟩
   refine ⟨_,rfl,_,xs1,rfl,.inl (SqL.of e1),_,rfl,_,xs2,rfl,.inl (SqL.of e2),rfl,_,rfl,ifT (decide_eq_true (by rw [hl1,hl2])) ?_⟩
   refine .inl ⟨_,rfl,_,rfl,_,_,xs1,xs2,rfl,e1,e2,fun D hD=>?_⟩
   refine ZdX (K:=K) (xs:=xs1) (zs:=xs2) (Yv (show xs1.length≤20000 from h1)) (by omega) (fun i ys H'=>Same H1 H'∧H' D=some (.lst ys)∧ys=(List.replicate i true).map V.bl) ⟨Zk hD _,Zf,rfl⟩ ?_ ?_ ?_
   · rintro i ys H' ⟨s4,_,rfl⟩;exact ⟨by simp,SqL.of (s4 _ _ e1),SqL.of (s4 _ _ e2)⟩
   · rintro i x z t ys H' wa wb hx hz ht ⟨s4,eD,rfl⟩
     obtain ⟨d1,ed1,dd1⟩:=q1.at hx
     obtain ⟨d2,ed2,dd2⟩:=q2.at hz
     cases (ed1.symm.trans ed2)
     have s5:=s4.trans (Zk ht (.tup [x,z]))
     refine ⟨t,_,rfl,SqT.of Zf,rfl,_,_,rfl,_,_,rfl,rfl,⟨_,_,rfl⟩,?_⟩
     refine ⟨_,rfl,_,rfl,d1.depth+1,by have h3:=Uu ed1;have h4:(PyData.list ds).depth < n:=hn;rw [PyData.depth] at h4;omega,x,z,d1,rfl,dd1.same s5,dd2.same s5,ZaJ hnb ed1,Nat.lt_succ_self _,fun H2 s6=>⟨s6 _ _ (Zk ht (.tup [x,z]) _ _ eD),fun b o q=>?_,Zf,?_⟩⟩
     · rw [Zb (Zq q hD)];exact s6 _ _ (s5 _ _ q)
     · rw [List.replicate_succ',List.map_append];rfl
   · rintro ys H3 ⟨s3,eD,rfl⟩
     refine ⟨D,_,rfl,SqL.of eD,?_⟩
     rw [show ∀ k,(List.replicate k true).all id=true from fun k=>by simp]
     exact q H3 (s1.trans s3)
 | tup e1 h1 q1 =>
   cases dy with
   | tup e2 h2 q2 =>
   rename_i av1 xs1 ds av2 xs2
   have hnb:XR ds=true:=hb
   have hl1:=q1.len
   have hl2:=q2.len
   refine Yc ⟨_,rfl,_,_,_,_,rfl,ty1,l1,_,rfl,_,_,_,_,rfl,ty2,l2,rfl,_,rfl,ifF rfl ?_⟩
   refine ⟨_,rfl,_,_,_,_,rfl,ty1,p1,_,rfl,_,_,_,_,rfl,ty2,p2,rfl,_,rfl,ifF rfl ?_⟩
   refine ⟨_,rfl,_,xs1,rfl,.inr e1,_,rfl,_,xs2,rfl,.inr e2,rfl,_,rfl,ifT (decide_eq_true (by rw [hl1,hl2])) ?_⟩
   refine .inr ⟨_,rfl,_,rfl,_,_,xs1,xs2,rfl,e1,e2,fun D hD=>?_⟩
   refine Zct (K:=K) (xs:=xs1) (zs:=xs2) (Yv (show xs1.length≤20000 from h1)) (by omega) (fun i ys H'=>Same H1 H'∧H' D=some (.lst ys)∧ys=(List.replicate i true).map V.bl) ⟨Zk hD _,Zf,rfl⟩ ?_ ?_ ?_
   · rintro i ys H' ⟨s4,_,rfl⟩;exact ⟨by simp,e1.tf s4.tf,e2.tf s4.tf⟩
   · rintro i x z t ys H' wa wb hx hz ht ⟨s4,eD,rfl⟩
     obtain ⟨d1,ed1,dd1⟩:=q1.at hx
     obtain ⟨d2,ed2,dd2⟩:=q2.at hz
     cases (ed1.symm.trans ed2)
     have s5:=s4.trans (Zk ht (.tup [x,z]))
     refine ⟨t,_,rfl,SqT.of Zf,rfl,_,_,rfl,_,_,rfl,rfl,⟨_,_,rfl⟩,?_⟩
     refine ⟨_,rfl,_,rfl,d1.depth+1,by have h3:=Uu ed1;have h4:(PyData.tuple ds).depth < n:=hn;rw [PyData.depth] at h4;omega,x,z,d1,rfl,dd1.same s5,dd2.same s5,ZaJ hnb ed1,Nat.lt_succ_self _,fun H2 s6=>⟨s6 _ _ (Zk ht (.tup [x,z]) _ _ eD),fun b o q=>?_,Zf,?_⟩⟩
     · rw [Zb (Zq q hD)];exact s6 _ _ (s5 _ _ q)
     · rw [List.replicate_succ',List.map_append];rfl
   · rintro ys H3 ⟨s3,eD,rfl⟩
     refine ⟨D,_,rfl,SqL.of eD,?_⟩
     rw [show ∀ k,(List.replicate k true).all id=true from fun k=>by simp]
     exact q H3 (s1.trans s3)
theorem ZbZ {f:Addr}{fd:FuncData}(F:Fun K "_law_same" "_law_same" s_l_same f fd)(T:Ye mg)(b:Binds K fd WG [])(kp:PySem.W.keepIn K (.ref f)=true)(m:mg "_law_same"=some (.ref f)):∀ n,FnOk P w K mg base ZU (n+1) f fd WG (Wd K n)
 | 0=>ZaX F T ⟨_,_,⟨fun vs H Q E ⟨_,h,_⟩=>absurd h (Nat.not_lt_zero _),fun _ _ _ _ _ _ _ _ _ _ _ _ _ ⟨_,h,_⟩=>absurd h (Nat.not_lt_zero _)⟩,b,kp,m⟩
 | n+1=>ZaX F T ⟨_,_,(ZbZ F T b kp m n).imp fun vs H Q E ⟨j,h,x,y,d,a1,a2,a3,a4,a5,a6⟩=>⟨x,y,d,a1,a2,a3,a4,by omega,a6⟩,b,kp,m⟩
end
end K45
set_option maxHeartbeats 4000000
namespace K45
open PySem L2
abbrev xN9:List Str:=["NoSetting","NoToken","Used","Elsewhere","OutOfTurn","NoWorld","Busy","AtHome","NoWatcher"]
structure Zff (K:PySem.W.Frag)(mg:Str→Option Value)(CRo:Addr)(cs:List Addr):Prop where
 road:mg "RoadError"=some (.ref CRo)
 ve:mg "ValueError"=none
 ex:∀ (i:Nat) {x:Str},xN9[i]?=some x→mg x=some (.ref (cs.getD i 0))
theorem ZgR {K:PySem.W.Frag}{mg:Str→Option Value}{CRo c0 c1 c2 c3 c4 c5 c6 c7 c8:Addr}(hr:mg "RoadError"=some (.ref CRo))(hv:mg "ValueError"=none)(h0:mg "NoSetting"=some (.ref c0))(h1:mg "NoToken"=some (.ref c1))(h2:mg "Used"=some (.ref c2))(h3:mg "Elsewhere"=some (.ref c3))(h4:mg "OutOfTurn"=some (.ref c4))(h5:mg "NoWorld"=some (.ref c5))(h6:mg "Busy"=some (.ref c6))(h7:mg "AtHome"=some (.ref c7))(h8:mg "NoWatcher"=some (.ref c8)):Zff K mg CRo [c0,c1,c2,c3,c4,c5,c6,c7,c8]:=⟨hr,hv,fun i x h=>match i,h with
 | 0,h=>by cases h;exact h0
 | 1,h=>by cases h;exact h1
 | 2,h=>by cases h;exact h2
 | 3,h=>by cases h;exact h3
 | 4,h=>by cases h;exact h4
 | 5,h=>by cases h;exact h5
 | 6,h=>by cases h;exact h6
 | 7,h=>by cases h;exact h7
 | 8,h=>by cases h;exact h8
 | n+9,h=>by simp [xN9] at h⟩
def RK (K:PySem.W.Frag)(CRo:Addr)(cs:List Addr)(C:Addr)(word:Str):Prop:=∃ j,RefK K CRo [cs.getD 0 0,cs.getD 1 0,cs.getD 2 0,cs.getD 3 0,cs.getD 4 0,cs.getD 5 0,cs.getD 6 0,cs.getD 7 0,cs.getD 8 0] [] [] C j∧xN9[j]?=some word
abbrev kBs (j:Nat):List Bool:=[decide (0=j),decide (1=j),decide (2=j),decide (3=j),decide (4=j),decide (5=j),decide (6=j),decide (7=j),decide (8=j)]
theorem Zii {j:Nat}:∀(i:Nat){b:Bool},(kBs j)[i]?=some b→b=decide (i=j)
 | 0,_,h=>by cases h;rfl
 | 1,_,h=>by cases h;rfl
 | 2,_,h=>by cases h;rfl
 | 3,_,h=>by cases h;rfl
 | 4,_,h=>by cases h;rfl
 | 5,_,h=>by cases h;rfl
 | 6,_,h=>by cases h;rfl
 | 7,_,h=>by cases h;rfl
 | 8,_,h=>by cases h;rfl
 | n+9,_,h=>by simp [kBs] at h
section
variable {P:Program}{w:World}{K:PySem.W.Frag}{mg:Str→Option Value}{base:Heap}{CRo:Addr}{cs:List Addr}{kk:Nat}
def ZfD (K:PySem.W.Frag)(CRo:Addr)(cs:List Addr):Sp:=fun vs H Q _=>∃ (ea C dx:Addr) (word:Str) (what:V),vs=[.ref ea]∧H ea=some (XO ea C dx)∧H dx=some (.xd [("what",what)])∧RK K CRo cs C word∧∀ a H',Same H H'→H' a=some (.tup [.str word,what])→Q (.ref a) H'
abbrev nRf:List Str:=["_law_error","_law_words","_law_told_here","_law_found"]
abbrev Zfe:List Str:=["_law_error"]
theorem scRf:Zs nRf Zfe (Zj s_l_refusal):=⟨rfl,rfl,rfl,by decide +kernel,rfl,by decide +kernel,by decide +kernel⟩
theorem Zic {f:Addr}{fd:FuncData}(F:Fun K "_law_refusal" "_law_refusal" s_l_refusal f fd)(T:Ye mg)(TE:Zff K mg CRo cs):FnOk P w K mg base ZU (kk+1) f fd Zfe (ZfD K CRo cs):=by
 refine F.ok scRf (fun vs H Q E h=>?_) (fun cdv A outer s H vs Q E hr h=>?_)
 · obtain ⟨ea,C,dx,word,what,rfl,_⟩:=h;rfl
 obtain ⟨ea,C,dx,word,what,rfl,eea,ed,⟨j,R,hw⟩,q⟩:=h
 have ty:∀ H',Same H H'→TyX K H' (.ref ea) (.ref C):=fun H' s=>.inr ⟨ea,C,dx,rfl,rfl,s _ _ eea,R.g⟩
 refine' ⟨?t,?h,?r⟩
 case h =>
   conv=>arg 2;whnf
   with_reducible refine' (Zg (ZA (i:=1) ?h1 ?h2 ?h3 (Zy ?h4) ?h5 ?h6) (Zg ?h7 (Zg ?h8 (Zg ?h9 (Zg ?h10 (Zg (Yb ?h11 (Zi ?h12) ZH) (Zi ?h13)))))))
   case h1=>exact scRf.nd
   case h2=>exact rfl
   case h3=>exact (Or.inl rfl)
   case h4=>(refine' ZbD (vs:=[.str "NoSetting",.str "NoToken",.str "Used",.str "Elsewhere",.str "OutOfTurn",.str "NoWorld",.str "Busy",.str "AtHome",.str "NoWatcher"]) ?zz;case zz=>decide +kernel)
   case h5=>exact rfl
   case h6=>exact (by first | exact .inl rfl | exact .inr rfl)
   case h7=>exact ZA (i:=2) scRf.nd rfl (Or.inl rfl) (Zy (Zd (Zl Yh rfl T.isinstance (by decide +kernel) (Zd (pv 0) (Zd (Ym (v:=.ref _) rfl (TE.ex 0 rfl) rfl) Za))) (Zd (Zl Yh rfl T.isinstance (by decide +kernel) (Zd (pv 0) (Zd (Ym (v:=.ref _) rfl (TE.ex 1 rfl) rfl) Za))) (Zd (Zl Yh rfl T.isinstance (by decide +kernel) (Zd (pv 0) (Zd (Ym (v:=.ref _) rfl (TE.ex 2 rfl) rfl) Za))) Za))))
   case h8=>exact ZA (i:=2) scRf.nd rfl (Or.inl rfl) (Zn UZ (pv 2) (Zy (Zd (Zl Yh rfl T.isinstance (by decide +kernel) (Zd (pv 0) (Zd (Ym (v:=.ref _) rfl (TE.ex 3 rfl) rfl) Za))) (Zd (Zl Yh rfl T.isinstance (by decide +kernel) (Zd (pv 0) (Zd (Ym (v:=.ref _) rfl (TE.ex 4 rfl) rfl) Za))) (Zd (Zl Yh rfl T.isinstance (by decide +kernel) (Zd (pv 0) (Zd (Ym (v:=.ref _) rfl (TE.ex 5 rfl) rfl) Za))) Za)))))
   case h9=>exact ZA (i:=2) scRf.nd rfl (Or.inl rfl) (Zn UZ (pv 2) (Zy (Zd (Zl Yh rfl T.isinstance (by decide +kernel) (Zd (pv 0) (Zd (Ym (v:=.ref _) rfl (TE.ex 6 rfl) rfl) Za))) (Zd (Zl Yh rfl T.isinstance (by decide +kernel) (Zd (pv 0) (Zd (Ym (v:=.ref _) rfl (TE.ex 7 rfl) rfl) Za))) (Zd (Zl Yh rfl T.isinstance (by decide +kernel) (Zd (pv 0) (Zd (Ym (v:=.ref _) rfl (TE.ex 8 rfl) rfl) Za))) Za)))))
   case h10=>exact Zat (i:=3) (xa:="_law_word") (xb:="_law_right") (CompOkT.of nRf s_l_refusal rfl rfl (by decide +kernel)) rfl scRf.nd rfl (Or.inl rfl) (ZdH rfl T.zip (pv 1) (pv 2)) (fun _ _ _ _ _=>VB (K:=K) rfl rfl (Zx (i:=4) (show (Vy nRf "_law_word" "_law_right"++(["_law_word","_law_right"]:List Str)).Nodup by decide +kernel) rfl (Or.inl rfl) (Or.inr rfl)) (Zx (i:=5) (show (Vy nRf "_law_word" "_law_right"++(["_law_word","_law_right"]:List Str)).Nodup by decide +kernel) rfl (Or.inl rfl) (Or.inr rfl))) (fun _ _ _ _ _=>XA (pv 5)) (fun _ _ _ _ _=>pv 4) rfl
   case h11=>exact PW.pt (Zaj (ZC Zcr (Zl ZK rfl T.len PySem.boot_len (Zd (pv 3) Za)) Ze (ZF _)) (Vg (WF (XA (Zl Yh rfl T.isinstance (by decide +kernel) (Zd (pv 0) (Zd (Yj rfl TE.ve (by decide +kernel) (v:=.ty "ValueError") rfl) Za)))))))
   case h12=>exact Zv (Yl (Zd ZE (Zd YM Za)))
   case h13=>exact Zv (Yl (Zd (ZJ ZL (pv 3) Ze (fun _ _=>rfl)) (Zd (Zgu (pv 0) rfl) Za)))
 refine ⟨(by show 9≤sizeLine;decide),fun lw hlw=>?_⟩
 generalize hE:upd H lw _=H2
 have s2:Same H H2:=by rw [← hE];exact Zk hlw _
 have ew:H2 lw=some (.lst (xN9.map V.str)):=by rw [← hE];exact Zf
 clear hE
 refine ⟨_,rfl,_,_,_,_,rfl,ty _ s2,.inl ⟨_,rfl,R.is 0 (show 0 < 9 by decide)⟩,_,rfl,_,_,_,_,rfl,ty _ s2,.inl ⟨_,rfl,R.is 1 (show 1 < 9 by decide)⟩,_,rfl,_,_,_,_,rfl,ty _ s2,.inl ⟨_,rfl,R.is 2 (show 2 < 9 by decide)⟩,(by show 3≤sizeLine;decide),fun l1 hl1=>?_⟩
 generalize hE:upd H2 l1 _=H3
 have s23:Same H2 H3:=by rw [← hE];exact Zk hl1 _
 have s3:=s2.trans s23
 have e3:H3 l1=some (.lst [.bl (decide (0=j)),.bl (decide (1=j)),.bl (decide (2=j))]):=by rw [← hE];exact Zf
 clear hE
 refine ⟨_,rfl,_,rfl,_,_,_,_,rfl,ty _ (s3),.inl ⟨_,rfl,R.is 3 (show 3 < 9 by decide)⟩,_,rfl,_,_,_,_,rfl,ty _ (s3),.inl ⟨_,rfl,R.is 4 (show 4 < 9 by decide)⟩,_,rfl,_,_,_,_,rfl,ty _ (s3),.inl ⟨_,rfl,R.is 5 (show 5 < 9 by decide)⟩,(by show 3≤sizeLine;decide),fun l6 hl6=>⟨l1,l6,_,_,rfl,rfl,Zk hl6 _ _ _ e3,Zf,Yv (show 6≤1000 by decide),fun l7 hl7=>?_⟩⟩
 generalize hE:upd (upd H3 l6 _) l7 _=H4
 have s34:Same H3 H4:=by rw [← hE];exact (Zk hl6 _).trans (Zk hl7 _)
 have s4:=s3.trans s34
 have e4:H4 l7=some (.lst [.bl (decide (0=j)),.bl (decide (1=j)),.bl (decide (2=j)),.bl (decide (3=j)),.bl (decide (4=j)),.bl (decide (5=j))]):=by rw [← hE];exact Zf
 clear hE
 refine ⟨_,rfl,_,rfl,_,_,_,_,rfl,ty _ (s4),.inl ⟨_,rfl,R.is 6 (show 6 < 9 by decide)⟩,_,rfl,_,_,_,_,rfl,ty _ (s4),.inl ⟨_,rfl,R.is 7 (show 7 < 9 by decide)⟩,_,rfl,_,_,_,_,rfl,ty _ (s4),.inl ⟨_,rfl,R.is 8 (show 8 < 9 by decide)⟩,(by show 3≤sizeLine;decide),fun l8 hl8=>⟨l7,l8,_,_,rfl,rfl,Zk hl8 _ _ _ e4,Zf,Yv (show 9≤1000 by decide),fun l9 hl9=>?_⟩⟩
 generalize hE:upd (upd H4 l8 _) l9 _=H5
 have s45:Same H4 H5:=by rw [← hE];exact (Zk hl8 _).trans (Zk hl9 _)
 have s5:=s4.trans s45
 have e5:H5 l9=some (.lst ((kBs j).map V.bl)):=by rw [← hE];exact Zf
 clear hE
 have ew5:=s45 _ _ (s34 _ _ (s23 _ _ ew))
 have hj:j < 9:=(List.getElem?_eq_some_iff.mp hw).1
 refine ⟨_,rfl,_,rfl,lw,l9,_,_,rfl,ew5,e5,fun D hD=>?_⟩
 refine ZcA (K:=K) (xs:=xN9.map V.str) (zs:=(kBs j).map V.bl) (by show 9≤sizeLine;decide) (fun i ys H'=>Same H5 H'∧H' D=some (.lst ys)∧ys=(if j < i then [V.str word] else [])) ⟨Zk hD _,Zf,rfl⟩ ?_ ?_ ?_
 · rintro i ys H' ⟨s6,_,rfl⟩
   refine ⟨?_,SqL.of (s6 _ _ ew5),SqL.of (s6 _ _ e5)⟩
   by_cases h:j < i
   · rw [if_pos h];show 1≤i;omega
   · rw [if_neg h];exact Nat.zero_le _
 · rintro i x z t ys H' wa wb hx hz ht ⟨s6,eD,rfl⟩
   have s7:=s6.trans (Zk ht (.tup [x,z]))
   refine ⟨t,_,rfl,SqT.of Zf,rfl,_,_,rfl,_,_,rfl,rfl,⟨_,_,rfl⟩,?_⟩
   have eD2:=(Zk ht (.tup [x,z])) _ _ eD
   generalize upd H' t (.tup [x,z])=H6 at s7 eD2 ⊢
   rw [List.getElem?_map] at hx hz
   obtain ⟨x,hx',rfl⟩:=Option.map_eq_some_iff.mp hx
   obtain ⟨b,hb,rfl⟩:=Option.map_eq_some_iff.mp hz
   have hb:=Zii i hb
   subst hb
   refine ⟨_,rfl,_,rfl,?_⟩
   show if decide (i=j)=true then _ else _
   by_cases hij:i=j
   · subst hij
     cases (hx'.symm.trans hw)
     rw [decide_eq_true rfl,if_neg (Nat.lt_irrefl _)] at *
     refine Yc ⟨_,rfl,?_⟩
     refine ⟨eD2,fun b o e=>?_,Zf,?_⟩
     · rw [Zb (fun z=>by rw [z,hD] at e;cases e)];exact s7 _ _ e
     · rw [if_pos (Nat.lt_succ_self _)];rfl
   · rw [decide_eq_false hij]
     refine ZV ⟨s7,eD2,?_⟩
     by_cases h:j < i
     · rw [if_pos h,if_pos (by omega)]
     · rw [if_neg h,if_neg (by omega)]
 · rintro ys H6 ⟨s6,eD,rfl⟩
   rw [if_pos (show j < min (xN9.map V.str).length ((kBs j).map V.bl).length from hj)] at eD
   have s56:=s5.trans s6
   refine ⟨_,rfl,D,_,rfl,.inl (SqL.of eD),rfl,_,rfl,ZV ?_⟩
   refine ⟨_,rfl,_,_,_,true,rfl,ty _ s56,.inr ⟨_,rfl,R.ve⟩,_,rfl,ZV ?_⟩
   refine ⟨_,rfl,D,_,_,_,rfl,rfl,SqL.of eD,rfl,?_⟩
   refine ⟨_,rfl,ea,C,dx,_,_,rfl,s56 _ _ eea,s56 _ _ ed,R.g,rfl,(by show 2≤sizeLine;decide),fun a ha=>?_⟩
   exact q a _ (s56.trans (Zk ha _)) Zf
end
end K45
set_option maxHeartbeats 4000000
namespace K45
open PySem L2
section
variable {P:Program}{w:World}{K:PySem.W.Frag}{mg:Str→Option Value}{base:Heap}{CRo:Addr}{cs:List Addr}{kk:Nat}{CH CR CS CT CL CX CY:Addr}
def spTo (K:PySem.W.Frag)(CH CR CS CT CL:Addr):Sp:=fun vs H Q _=>∃(e h:Addr)(ns us:List V)(n:Int)(s:Hs)(wd:Str)(v:V)(Δ:Rs),vs=[.ref e,.str wd,v]∧Sep ((e,YL CL h ns us n)::(h,Xm K CH CR CS CT s)::Δ) H∧ns.length≤1000∧(∀ v∈ns,v=.non∨∃ x,v=.str x) ∧
 ((∃ x:Str,wd="watch"∧v=.str x ∧
     (ZB s.dfs (Sum.inr x)=none→∀ a H',Sep ((e,YL CL h ns us n)::(h,Xm K CH CR CS CT s)::Δ) H'→H' a=some (.tup [.str "NoSetting",.str x])→Q (.ref a) H') ∧
     ((ZB s.dfs (Sum.inr x)).isSome=true→∀ a H',Sep ((e,YL CL h (ns++[.str x]) us n)::(h,Xm K CH CR CS CT s)::Δ) H'→H' a=some (.tup [.str "told",.int (ns.length:Int)])→Q (.ref a) H')) ∨
  (∃ k:Int,wd="unwatch"∧v=.int k ∧
     ((k < 0∨ns[k.toNat]?=none∨ns[k.toNat]?=some .non)→∀ a H',Sep ((e,YL CL h ns us n)::(h,Xm K CH CR CS CT s)::Δ) H'→H' a=some (.tup [.str "NoWatcher",.int k])→Q (.ref a) H') ∧
     (0≤k→(∃ x,ns[k.toNat]?=some (.str x))→∀ a H',Sep ((e,YL CL h (ns.set k.toNat .non) us n)::(h,Xm K CH CR CS CT s)::Δ) H'→H' a=some (.tup [.str "told",.non])→Q (.ref a) H')))
abbrev nTo:List Str:=["_law_eye","_law_word","_law_thing","_law_found","_law_caught","_law_error"]
abbrev Zen:List Str:=["_law_eye","_law_word","_law_thing"]
theorem scTo:Zs nTo Zen (Zj s_l_told):=⟨rfl,rfl,rfl,by decide +kernel,rfl,by decide +kernel,by decide +kernel⟩
theorem ZgV {f:Addr}{fd:FuncData}(F:Fun K "_law_told" "_law_told" s_l_told f fd)(T:Ye mg)(TLo:Wh K CL)(TE:Zff K mg CRo cs)(DL_watch:Wl P w K mg base kk CL "watch" Zai (Zcn K CH CR CS CT CL CX))(DL_unwatch:Wl P w K mg base kk CL "unwatch" Zal (Zch CL CY))(DRf:Def P w K mg base kk "_law_refusal" Zfe (ZfD K CRo cs))(rX:RK K CRo cs CX "NoSetting")(rY:RK K CRo cs CY "NoWatcher"):FnOk P w K mg base ZU (kk+1) f fd Zen (spTo K CH CR CS CT CL):=by
 refine F.ok scTo (fun vs H Q E h=>?_) (fun cdv A outer s H vs Q E hr h=>?_)
 · obtain ⟨e,h,ns,us,n,s,wd,v,Δ,rfl,_⟩:=h;rfl
 obtain ⟨e,h,ns,us,n,s,wd,v,Δ,rfl,S,hl,hv,hq⟩:=h
 refine' ⟨?t,?h,?r⟩
 case h =>
   conv=>arg 2;whnf
   with_reducible refine' (Zg ?h1 (Zg (ZeG (i:=5) ?h2 ?h3 ?h4 ?h5 ?h6 ?h7 ?h8 ?h9 ?h10 (fun pn Z EE W=>(Zi (Yb ?h11 (Zi ?h12) (Zi ?h13)))) (fun ea Z=>(Zi ?h14))) (Zi ?h15)))
   case h1=>exact Xk (Yl (Zd YM (Zd YM Za))) (XD rfl (ZM (Zx (i:=3) scTo.nd rfl (Or.inl rfl)) (ZM (Zx (i:=4) scTo.nd rfl (Or.inl rfl)) Xf)))
   case h2=>exact rfl
   case h3=>exact rfl
   case h4=>exact rfl
   case h5=>exact scTo.nd
   case h6=>exact rfl
   case h7=>exact rfl
   case h8=>exact rfl
   case h9=>exact TE.road
   case h10=>exact (by decide)
   case h11=>exact ZC YV (pv 1) ZE (ZF _)
   case h12=>exact ZA (i:=3) scTo.nd rfl (Or.inl rfl) (Zcx W DL_watch TLo.cl hr (pv 0) (Zd (pv 2) Za))
   case h13=>exact ZA (i:=3) scTo.nd rfl (Or.inl rfl) (Zcx W DL_unwatch TLo.cl hr (pv 0) (Zd (pv 2) Za))
   case h14=>exact ZA (i:=4) scTo.nd rfl (Or.inl rfl) (pv 5)
   case h15=>exact Zv (Xg (XH (ZaG (pv 4))) (Yl (Zd ZE (Zd (pv 3) Za))) (ZG DRf hr (Zd (pv 4) Za)))
 refine ⟨(by decide),fun t0 ht0=>⟨t0,_,rfl,SqT.of Zf,rfl,_,_,rfl,_,_,rfl,rfl,?_⟩⟩
 generalize hE:upd H t0 _=H0
 have S:=S.newE ht0 hE |>.drop t0
 clear hE
 rcases hq with ⟨x,rfl,rfl,q1,q2⟩ | ⟨k,rfl,rfl,q1,q2⟩
 · obtain ⟨ln,lu,SO⟩:=S.eyeO
   obtain ⟨dx,ob⟩:=SO.get e
   refine ⟨_,rfl,rfl,_,rfl,ifT (decide_eq_true rfl) ?_⟩
   refine ⟨_,rfl,e,dx,_,rfl,ob,Va (by decide +kernel),_,rfl,e,h,ns,us,n,s,x,Δ,rfl,S,hl,fun hn d H1 s1 ed=>?_,fun hs H1 S1=>?_⟩
   · obtain ⟨j,R,hw⟩:=rX
     refine ⟨CX,d,rfl,rfl,R.cat,fun ea hea=>?_⟩
     have s2:=Zk hea (XO ea CX d)
     have eea:upd H1 ea (XO ea CX d) ea=some (XO ea CX d):=Zf
     generalize upd H1 ea (XO ea CX d)=H2 at s2 eea ⊢
     refine ⟨_,rfl,_,rfl,_,rfl,ZV ?_⟩
     exact ⟨_,rfl,ea,CX,d,_,_,rfl,eea,s2 _ _ ed,⟨j,R,hw⟩,fun a H3 s3 e3=>q1 hn a H3 (S.mono ((s1.trans s2).trans s3)) e3⟩
   · exact ⟨_,rfl,_,rfl,Yc ⟨_,rfl,(by show 2≤sizeLine;decide),fun a ha=>q2 hs a _ (S1.mono (Zk ha _)) Zf⟩⟩
 · obtain ⟨ln,lu,SO⟩:=S.eyeO
   obtain ⟨dx,ob⟩:=SO.get e
   refine ⟨_,rfl,rfl,_,rfl,ifF (decide_eq_false (by decide)) ?_⟩
   refine ⟨_,rfl,e,dx,_,rfl,ob,Va (by decide +kernel),_,rfl,e,h,ns,us,n,k,_,rfl,S,hv,fun hn d H1 s1 ed=>?_,fun h0 hs H1 S1=>?_⟩
   · obtain ⟨j,R,hw⟩:=rY
     refine ⟨CY,d,rfl,rfl,R.cat,fun ea hea=>?_⟩
     have s2:=Zk hea (XO ea CY d)
     have eea:upd H1 ea (XO ea CY d) ea=some (XO ea CY d):=Zf
     generalize upd H1 ea (XO ea CY d)=H2 at s2 eea ⊢
     refine ⟨_,rfl,_,rfl,_,rfl,ZV ?_⟩
     exact ⟨_,rfl,ea,CY,d,_,_,rfl,eea,s2 _ _ ed,⟨j,R,hw⟩,fun a H3 s3 e3=>q1 hn a H3 (S.mono ((s1.trans s2).trans s3)) e3⟩
   · exact ⟨_,rfl,_,rfl,Yc ⟨_,rfl,(by show 2≤sizeLine;decide),fun a ha=>q2 h0 hs a _ (S1.mono (Zk ha _)) Zf⟩⟩
end
end K45
set_option maxHeartbeats 4000000
namespace K45
open PySem L2
theorem ZaS {ps qs:List (Int×V)}(hp:YS ps)(hq:YS qs)(nq:(qs.map (·.1)).Nodup)(P:ps.Perm qs):ps=qs:=by
 refine P.eq_of_pairwise (le:=fun (p q:Int×V)=>¬ (q.1 < p.1)) (fun a b ha hb h1 h2=>?_) (show ps.Pairwise _ from hp) (show qs.Pairwise _ from hq)
 have e:a.1=b.1:=by omega
 have inj:∀ {l:List (Int×V)},(l.map (·.1)).Nodup→∀ a∈l,∀ b∈l,a.1=b.1→a=b:=by
   intro l hl a ha b hb e
   obtain ⟨i,hi,ea⟩:=List.mem_iff_getElem.mp ha
   obtain ⟨j,hj,eb⟩:=List.mem_iff_getElem.mp hb
   have:i=j:=UN (l:=l.map (·.1)) (i:=i) (j:=j) (hi:=by rw [List.length_map];exact hi) (hj:=by rw [List.length_map];exact hj) hl (by rw [List.getElem_map,List.getElem_map,ea,eb,e])
   subst this
   rw [← ea,← eb]
 exact inj nq a (P.mem_iff.mp ha) b hb e
theorem ZbF {ns:List V}{i:Nat}:(Zz ns i).Pairwise fun p q=>p.1 < q.1:=by
 unfold Zz
 rw [List.pairwise_map]
 exact ((List.pairwise_lt_range (n:=i)).filter _).imp fun h=>by simpa using h
theorem ZeV {ns:List V}{i:Nat}:YS (Zz ns i):=(ZbF (ns:=ns) (i:=i)).imp fun h=>by omega
theorem ZfX {ns:List V}{i:Nat}:((Zz ns i).map (·.1)).Nodup:=List.pairwise_map.mpr ((ZbF (ns:=ns) (i:=i)).imp fun h=>by omega)
def vD:V→PyData
 | .str x=>.str x
 | .int i=>.int i
 | _=>.none
def pD (p:Int×V):PyData:=.tuple [.int p.1,vD p.2]
theorem UJ {K:PySem.W.Frag}{H:Hp}:∀{ts:List Addr}{ps:List (Int×V)},YZ H ts ps→(∀ p∈ps,∃ x,p.2=.str x)→DatAs K H (ts.map V.ref) (ps.map pD)
 | [],[],_,_=>.nil
 | [],_::_,h,_=>by cases h.1
 | _::_,[],h,_=>by cases h.1
 | t::ts,p::ps,h,hv=>.cons (.tup (SqT.of (h.2 0 t p rfl rfl)) (by show 2≤20000;decide) (.cons (.int _) (.cons (by obtain ⟨x,e⟩:=hv p List.mem_cons_self;rw [e];exact .str x) .nil))) (UJ ⟨by simpa using h.1,fun i a q e1 e2=>h.2 (i+1) a q e1 e2⟩ fun q hq=>hv q (List.mem_cons_of_mem _ hq))
theorem Zda:∀ ps:List (Int×V),XR (ps.map pD)=true
 | []=>rfl
 | p::ps=>by
   rw [List.map_cons,XR,Zda ps,Bool.and_true]
   show XR [.int p.1,vD p.2]=true
   rw [XR,XR,XR]
   cases p.2<;>rfl
theorem ZbH:∀ ps:List (Int×V),PyData.depthAll (ps.map pD)≤1
 | []=>by simp [PyData.depthAll]
 | p :: ps=>by
   rw [List.map_cons,PyData.depthAll]
   have:=ZbH ps
   have h2:(pD p).depth≤1:=by
     unfold pD
     rw [PyData.depth,PyData.depthAll,PyData.depthAll,PyData.depthAll]
     cases p.2<;>simp [vD,PyData.depth]
   omega
section
variable {P:Program}{w:World}{K:PySem.W.Frag}{mg:Str→Option Value}{base:Heap}{CRo:Addr}{cs:List Addr}{kk:Nat}{CH CR CS CT CL CX CY:Addr}
def spRw (CL:Addr):Sp:=fun vs H Q _=>∃(e h r:Addr)(ns:List V)(ps:List (Int×V))(Δ:Rs),vs=[.ref e,.ref r]∧Sep ((e,YL CL h ns [] 0)::(r,Wf (ps.map YE))::Δ) H∧ps.Perm (Zz ns ns.length)∧ns.length≤60∧(∀ v∈ns,v=.non∨∃ x,v=.str x)∧∀ H',Sep ((e,YL CL h ns [] 0)::(r,Wf (ps.map YE))::Δ) H'→Q (.bl true) H'
abbrev nRw:List Str:=["_law_eye","_law_rows","_law_turn","_law_found"]
abbrev Zer:List Str:=["_law_eye","_law_rows"]
theorem scRw:Zs nRw Zer (Zj s_l_rows_right):=⟨rfl,rfl,rfl,by decide +kernel,rfl,by decide +kernel,by decide +kernel⟩
theorem Zgc {f:Addr}{fd:FuncData}(F:Fun K "_law_rows_right" "_law_rows_right" s_l_rows_right f fd)(T:Ye mg)(TLo:Wh K CL)(DL_watched:DefM P w K mg base kk CL "watched" Zck (ZfR CL))(DL_news:DefM P w K mg base kk CL "news" ZcF (ZdC CL))(DL_looks:DefM P w K mg base kk CL "looks" Zci (ZbK CL))(DSa:Def P w K mg base kk "_law_same" WG (Wd K 5)):FnOk P w K mg base ZU (kk+1) f fd Zer (spRw CL):=by
 refine F.ok scRw (fun vs H Q E h=>?_) (fun cdv A outer s H vs Q E hr h=>?_)
 · obtain ⟨e,h,r,ns,ps,Δ,rfl,_⟩:=h;rfl
 obtain ⟨e,h,r,ns,ps,Δ,rfl,S,hp,hl,hv,q⟩:=h
 refine' ⟨?t,?h,?r⟩
 case h =>
   conv=>arg 2;whnf
   with_reducible refine' (Zg (WC ?h1 ?h2 ?h3 ?h4 (Zg ?h5 (Zg (Yb ?h6 (Zi ?h7) ZH) (Zg ?h8 (Zi ?h9)))) ?h10) (Zi ?h11))
   case h1=>exact PassesOwn.never
   case h2=>exact rfl
   case h3=>exact YR rfl T.range (Zd Ze Za)
   case h4=>exact Zx (i:=2) scRw.nd rfl (Or.inl rfl)
   case h5=>exact ZA (i:=3) scRw.nd rfl (Or.inl rfl) (Zag DL_watched TLo.cl hr (pv 0))
   case h6=>exact WF (XA (ZG DSa hr (Zd (pv 3) (Zd (Zl (WH rfl) rfl T.sorted (by decide +kernel) (Zd (Zdk PySem.F.plainAttrs_dict PySem.F.slot_dict_items PySem.F.type_dict_items ZeC (pv 1)) Za)) Za))))
   case h7=>exact Zv Wj
   case h8=>exact YH (Xp PySem.F.plainAttrs_list PySem.F.slot_list_append PySem.F.type_list_append YU (pv 3) (Zd (Yl (Zd Ze (Zd ZE Za))) Za))
   case h9=>exact YH (Zdk PySem.F.plainAttrs_list PySem.F.slot_list_reverse PySem.F.type_list_reverse ZcW (pv 3))
   case h10=>exact fun _=>rfl
   case h11=>exact Zv (ZG DSa hr (Zd (Zy (Zd (Zag DL_news TLo.cl hr (pv 0)) (Zd (Zag DL_looks TLo.cl hr (pv 0)) Za))) (Zd (Zy (Zd (Zy Za) (Zd Ze Za))) Za)))
 have hrl:(Zz ns ns.length).length≤ns.length:=by
   unfold Zz
   rw [List.length_map]
   exact Nat.le_trans (List.length_filter_le _ _) (by rw [List.length_range];exact Nat.le_refl _)
 have hps:ps.length≤60:=by rw [hp.length_eq];omega
 have hst:∀ p∈Zz ns ns.length,∃ x,p.2=.str x:=fun p hp=>by
   unfold Zz at hp
   obtain ⟨j,hj,rfl⟩:=List.mem_map.mp hp
   have hj2:=(List.mem_filter.mp hj).2
   have hlt:j < ns.length:=List.mem_range.mp (List.mem_filter.mp hj).1
   have e:ns.getD j .non=ns[j]:=by rw [List.getD_eq_getElem?_getD,List.getElem?_eq_getElem hlt];rfl
   show ∃ x,ns.getD j .non=.str x
   rw [e] at hj2 ⊢
   rcases hv _ (List.getElem_mem hlt) with z | z
   · rw [z] at hj2;exact absurd hj2 (by decide)
   · exact z
 refine ⟨2,rfl,(by decide),(by decide),?_⟩
 refine XQ (fun i σ H'=>∃ x2 x3,σ=[some (.ref e),some (.ref r),x2,x3]∧Sep ((e,YL CL h ns [] 0)::(r,Wf (ps.map YE))::Δ) H') ⟨_,_,rfl,S⟩ ?_ ?_
 · rintro i σ H1 hi ⟨x2,x3,rfl,S1⟩
   obtain ⟨ln,lu,SO⟩:=S1.eyeO
   obtain ⟨dx,ob⟩:=SO.get e
   refine ⟨_,rfl,e,dx,_,rfl,ob,Va (by decide +kernel),e,h,ns,[],0,rfl,S1.get e,(by omega),fun l as H2 s2 hl2 el pt hn=>?_⟩
   have S2:=S1.made s2 hl2 el
   have hdr:H2 r=some (.dK (ps.map YE)):=S2.get r
   refine ⟨_,rfl,_,rfl,.inr (.inr (.inl ⟨rfl,.inl ⟨_,hdr⟩⟩)),r,_,rfl,rfl,hdr,fun v hvn=>?_⟩
   generalize hE:upd H2 v _=H3
   have s3:Same H2 H3:=by rw [← hE];exact Zk hvn _
   have ev:H3 v=some (.ext (UP v r)):=by rw [← hE];exact Zf
   clear hE
   refine ⟨v,r,ps,rfl,ev,s3 _ _ hdr,by omega,fun l2 ts ps' H4 hl4 s4 hnd hpp hso pt4 _ el4=>?_⟩
   have eps:ps'=Zz ns ns.length:=ZaS hso ZeV ZfX (hpp.trans hp)
   subst eps
   have s24:=s3.trans s4
   have hlen:∀ {H:Hp} {as:List Addr},YZ H as (Zz ns ns.length)→(as.map V.ref).length≤20000:=fun z=>by rw [List.length_map,z.1];omega
   refine ⟨_,_,.list ((Zz ns ns.length).map pD),rfl,.lst (s24 _ _ el) (hlen pt) (DatAs.same s24 (UJ pt hst)),.lst el4 (hlen pt4) (UJ pt4 hst),Zda _,(by have:=ZbH (Zz ns ns.length);rw [PyData.depth];omega),fun H5 s5=>⟨_,rfl,ZV ?_⟩⟩
   have S5:=S2.mono (s24.trans s5)
   refine ⟨_,rfl,.inl ⟨rfl,_,SqL.of (S5.get l)⟩,(by show 2≤sizeLine;decide),fun t ht=>?_⟩
   generalize hE:upd H5 t _=H6
   have S6:=(S5.newE ht hE).drop t
   clear hE
   refine ⟨l,_,_,rfl,rfl,S6.get l,Nat.lt_of_le_of_lt (hlen pt) (by decide),?_⟩
   generalize hE:upd H6 l _=H7
   have S7:=S6.putE hE
   clear hE
   refine ⟨_,rfl,.inl ⟨rfl,_,SqL.of (S7.get l)⟩,l,_,rfl,rfl,S7.get l,?_⟩
   generalize hE:upd H7 l _=H8
   have S8:=S7.putE hE
   clear hE
   exact ⟨_,_,rfl,S8.drop l⟩
 · rintro σ H1 ⟨x2,x3,rfl,S1⟩
   obtain ⟨ln,lu,SO⟩:=S1.eyeO
   obtain ⟨dx,ob⟩:=SO.get e
   refine ⟨_,rfl,e,dx,_,rfl,ob,Va (by decide +kernel),e,h,ns,[],0,_,rfl,S1,fun l H2 S2=>?_⟩
   obtain ⟨ln2,lu2,SO2⟩:=S2.eyeO
   obtain ⟨dx2,ob2⟩:=SO2.get e
   refine ⟨_,rfl,e,dx2,_,rfl,ob2,Va (by decide +kernel),e,h,ns,[],0,rfl,S2.get e,?_⟩
   refine ⟨(by show 2≤sizeLine;decide),fun p1 hp1=>?_⟩
   generalize hE:upd H2 p1 _=H3
   have S3:=S2.newE hp1 hE
   clear hE
   refine ⟨(by show 0≤sizeLine;decide),fun p2 hp2=>?_⟩
   generalize hE:upd H3 p2 _=H4
   have S4:=S3.newE hp2 hE
   clear hE
   refine ⟨(by show 2≤sizeLine;decide),fun p3 hp3=>?_⟩
   generalize hE:upd H4 p3 _=H5
   have S5:=S4.newE hp3 hE
   clear hE
   refine ⟨_,_,.list [.list [],.int 0],rfl,.lst (S5.get p1) (by show 2≤20000;decide) (.cons (.lst (S5.get l) (by show 0≤20000;decide) .nil) (.cons (.int 0) .nil)),.lst (S5.get p3) (by show 2≤20000;decide) (.cons (.lst (S5.get p2) (by show 0≤20000;decide) .nil) (.cons (.int 0) .nil)),rfl,(by decide),fun H6 s6=>q H6 ?_⟩
   exact ((((S5.drop p3).drop p2).drop p1).drop l).mono s6
end
end K45
set_option maxHeartbeats 2000000
namespace L2
open PySem
end L2
set_option maxHeartbeats 2000000
namespace L2
open PySem
def Fz (d:Addr)(o:Obj)(kvs:List (Zo×V))(Δ:Rs)(H:Hp):Prop:=∃ H1,H=upd H1 d (.frz o (.dK kvs))∧Sep ((d,Wf kvs)::Δ) H1
section
variable {d:Addr}{o:Obj}{kvs:List (Zo×V)}{Δ Δ':Rs}{H H':Hp}
theorem Fz.mk (S:Sep ((d,Wf kvs)::Δ) H):Fz d o kvs Δ (upd H d (.frz o (.dK kvs))):=⟨H,rfl,S⟩
theorem Fz.sep (F:Fz d o kvs Δ H):Sep Δ H:=by
 obtain ⟨H1,rfl,S⟩:=F
 exact (S.put d (.frz o (.dK kvs))).tail
theorem Fz.at (F:Fz d o kvs Δ H):H d=some (.frz o (.dK kvs)):=by
 obtain ⟨H1,rfl,S⟩:=F
 exact Zf
theorem Fz.melt (F:Fz d o kvs Δ H):Sep ((d,Wf kvs)::Δ) (upd H d (.dK kvs)):=by
 obtain ⟨H1,rfl,S⟩:=F
 have e:upd (upd H1 d (.frz o (.dK kvs))) d (.dK kvs)=H1:=by
   funext b
   by_cases hb:b=d
   · rw [hb,Zf];exact (S.get d).symm
   · rw [Zb hb,Zb hb]
 rw [e];exact S
theorem Fz.go (F:Fz d o kvs Δ H)(hd:H' d=some (.frz o (.dK kvs)))(f:∀ H1 H2,(∀ b,b≠d→H1 b=H b)→(∀ b,b≠d→H2 b=H' b)→H1 d=some (.dK kvs)→H2 d=some (.dK kvs)→Sep ((d,Wf kvs)::Δ) H1→Sep ((d,Wf kvs)::Δ') H2):Fz d o kvs Δ' H':=by
 obtain ⟨H1,rfl,S⟩:=F
 refine ⟨upd H' d (.dK kvs),?_,f H1 _ (fun b hb=>(Zb hb).symm) (fun b hb=>Zb hb) (S.get d) Zf S⟩
 funext b
 by_cases hb:b=d
 · rw [hb,Zf,hd]
 · rw [Zb hb,Zb hb]
end
def ZiD (t:TT):TT:=fun σ H Q=>∃ I:Bool→Hp→Prop,t σ H I∧∀ b H',I b H'→Q b H'
theorem ZhD {X:Cx}{e:Expr}{t:TT}(h:PT X e t):PT X e (ZiD t):=by
 intro pins s σ H Q I z
 obtain ⟨J,z,g⟩:=z
 refine Zm (h pins s σ H J I z) fun b s1 ⟨H',I',q⟩=>⟨H',I',g _ _ q⟩
end L2
set_option maxHeartbeats 2000000
namespace L2
open PySem
end L2
set_option maxHeartbeats 2000000
namespace L2
open PySem
end L2
set_option maxHeartbeats 4000000
namespace K45
open PySem L2
theorem UG {ns:List V}{p:Int×V}(h:p∈Zz ns ns.length):∃ j:Nat,j < ns.length∧p=((j:Int),ns.getD j .non)∧ns.getD j .non≠.non:=by
 unfold Zz at h
 obtain ⟨j,hj,rfl⟩:=List.mem_map.mp h
 exact ⟨j,List.mem_range.mp (List.mem_filter.mp hj).1,rfl,by have:=(List.mem_filter.mp hj).2;simpa using this⟩
theorem ZaO {ns:List V}{x:Str}:Zz (ns++[.str x]) (ns++[V.str x]).length=Zz ns ns.length++[((ns.length:Int),.str x)]:=by
 rw [List.length_append,List.length_singleton,WO]
 have e:(ns++[V.str x]).getD ns.length .non=.str x:=by rw [List.getD_eq_getElem?_getD,List.getElem?_append_right (Nat.le_refl _)];simp
 rw [e,if_neg (by intro z;cases z)]
 have:Zz (ns++[V.str x]) ns.length=Zz ns ns.length:=by
   unfold Zz
   have g:∀ j∈List.range ns.length,(ns++[V.str x]).getD j .non=ns.getD j .non:=fun j hj=>by
     rw [List.getD_eq_getElem?_getD,List.getD_eq_getElem?_getD,List.getElem?_append_left (List.mem_range.mp hj)]
   rw [List.filter_congr (fun j hj=>by rw [g j hj])]
   exact List.map_congr_left fun j hj=>by rw [g j (List.mem_filter.mp hj).1]
 rw [this]
theorem Zeg {ns:List V}{ps:List (Int×V)}(hp:ps.Perm (Zz ns ns.length)):ZB (ps.map YE) (Sum.inl (ns.length:Int))=none:=by
 unfold ZB
 rw [List.find?_eq_none.mpr]
 · rfl
 intro k hk
 obtain ⟨p,hp2,rfl⟩:=List.mem_map.mp hk
 obtain ⟨j,hj,rfl,_⟩:=UG (hp.mem_iff.mp hp2)
 simp [YE];omega
theorem ZeF {ns:List V}{ps:List (Int×V)}{k:Int}{v:V}(hp:ps.Perm (Zz ns ns.length))(h:ZB (ps.map YE) (Sum.inl k)=some v):∃ j:Nat,j < ns.length∧k=(j:Int)∧ns.getD j .non≠.non:=by
 unfold ZB at h
 obtain ⟨q,hq,rfl⟩:=Option.map_eq_some_iff.mp h
 obtain ⟨p,hp2,rfl⟩:=List.mem_map.mp (List.mem_of_find?_eq_some hq)
 have hk:=List.find?_some hq
 obtain ⟨j,hj,rfl,hn⟩:=UG (hp.mem_iff.mp hp2)
 exact ⟨j,hj,(by have z:(j:Int)=k:=(by simpa [YE] using hk);exact z.symm),hn⟩
theorem ZgA {ns:List V}{ps:List (Int×V)}{k:Int}(hp:ps.Perm (Zz ns ns.length))(h:ZB (ps.map YE) (Sum.inl k)=none):∀ j:Nat,j < ns.length→(j:Int)=k→ns.getD j .non=.non:=by
 intro j hj ek
 refine Classical.byContradiction fun hn=>?_
 have hm:((j:Int),ns.getD j .non)∈Zz ns ns.length:=by
   unfold Zz
   exact List.mem_map.mpr ⟨j,List.mem_filter.mpr ⟨List.mem_range.mpr hj,by simpa using hn⟩,rfl⟩
 unfold ZB at h
 have h2:=List.find?_eq_none.mp (Option.map_eq_none_iff.mp h) _ (List.mem_map.mpr ⟨_,hp.mem_iff.mpr hm,rfl⟩)
 exact h2 (by simp [YE,ek])
theorem Zeo {ns:List V}{j:Nat}:Zz (ns.set j .non) (ns.set j V.non).length=(Zz ns ns.length).filter fun p=>decide (p.1≠(j:Int)):=by
 have g:∀ i,(ns.set j .non).getD i .non=if i=j then .non else ns.getD i .non:=fun i=>by
   rw [List.getD_eq_getElem?_getD,List.getD_eq_getElem?_getD,List.getElem?_set]
   by_cases h:j=i
   · subst h
     rw [if_pos rfl,if_pos rfl]
     split<;>rfl
   · rw [if_neg h,if_neg (fun z=>h z.symm)]
 rw [List.length_set]
 unfold Zz
 rw [List.filter_map,List.filter_filter]
 have h1:(List.range ns.length).filter (fun i=>!decide ((ns.set j .non).getD i .non=.non))=(List.range ns.length).filter (fun i=>((fun p:Int×V=>decide (p.1≠(j:Int))) ∘ fun i:Nat=>((i:Int),ns.getD i .non)) i&&!decide (ns.getD i .non=.non)):=by
   refine List.filter_congr fun i _=>?_
   rw [g i]
   by_cases h:i=j
   · subst h;simp
   · rw [if_neg h]
     have:¬ (i:Int)=(j:Int):=by omega
     simp [this]
 rw [h1]
 refine List.map_congr_left fun i hi=>?_
 rw [g i,if_neg]
 intro z
 subst z
 have:=(List.mem_filter.mp hi).2
 simp at this
theorem ZdT {ps:List (Int×V)}{k:Int}:Ws (ps.map YE) (Sum.inl k)=(ps.filter fun p=>decide (p.1≠k)).map YE:=by
 unfold Ws
 rw [List.filter_map]
 congr 1
 refine List.filter_congr fun p _=>?_
 simp [YE]
theorem WS (xs:List Str):(xs.map V.str).all Xq=true:=List.all_eq_true.mpr fun v hv=>by obtain ⟨x,_,rfl⟩:=List.mem_map.mp hv;rfl
section
variable {P:Program}{w:World}{K:PySem.W.Frag}{mg:Str→Option Value}{base:Heap}{CRo:Addr}{cs:List Addr}{kk:Nat}{CH CR CS CT CL CX CY:Addr}
abbrev UY (K:PySem.W.Frag)(CH CR CS CT CL p e h sl nl r:Addr)(n:Nat)(ns:List V)(s:Hs)(qs:List (Str×V))(xs:List Str)(ps:List (Int×V))(Δ:Rs):Rs:=(p,Bx n)::(e,YL CL h ns [] 0)::(h,Xm K CH CR CS CT s)::(sl,PLs qs)::(nl,ZN (xs.map V.str))::(r,Wf (ps.map YE))::Δ
def spWr (K:PySem.W.Frag)(CH CR CS CT CL:Addr):Sp:=fun vs H Q _=>∃(p e h sl nl r:Addr)(n:Nat)(ns:List V)(s:Hs)(qs:List (Str×V))(xs:List Str)(ps:List (Int×V))(Δ:Rs),vs=[.ref p,.ref e,.ref sl,.ref nl,.ref r,.int (ns.length:Int)]∧Sep (UY K CH CR CS CT CL p e h sl nl r n ns s qs xs ps Δ) H∧n≤100000∧ns.length≤20∧(∀ v∈ns,v=.non∨∃ x,v=.str x)∧ps.Perm (Zz ns ns.length)∧qs≠[]∧qs.length≤60∧xs.length≤60∧(∀ x,(ZB s.dfs (Sum.inr x)).isSome=decide (x∈xs)) ∧
 ∀ (n':Nat) (ns':List V) (ps':List (Int×V)) (H':Hp),n'≤n+60→ns'.length≤20→(∀ v∈ns',v=.non∨∃ x,v=.str x)→ps'.Perm (Zz ns' ns'.length)→(ns'.length=ns.length∨∃ x,ns'=ns++[.str x])→Sep (UY K CH CR CS CT CL p e h sl nl r n' ns' s qs xs ps' Δ) H'→Q (.bl true) H'
abbrev nWr:List Str:=["_law_box_here","_law_eye","_law_settings_here","_law_names_here","_law_rows","_law_made","_law_name","_law_due","_law_watcher"]
abbrev ZeK:List Str:=["_law_box_here","_law_eye","_law_settings_here","_law_names_here","_law_rows","_law_made"]
theorem scWr:Zs nWr ZeK (Zj s_l_watch_right):=⟨rfl,rfl,rfl,by decide +kernel,rfl,by decide +kernel,by decide +kernel⟩
theorem Ziy {f:Addr}{fd:FuncData}(F:Fun K "_law_watch_right" "_law_watch_right" s_l_watch_right f fd)(T:Ye mg)(DT:DTk P w K mg base kk)(DTo:Def P w K mg base kk "_law_told" Zen (spTo K CH CR CS CT CL))(DSa:Def P w K mg base kk "_law_same" WG (Wd K 5)):FnOk P w K mg base ZU (kk+1) f fd ZeK (spWr K CH CR CS CT CL):=by
 refine F.ok scWr (fun vs H Q E h=>?_) (fun cdv A outer s H vs Q E hr h=>?_)
 · obtain ⟨p,e,h,sl,nl,r,n,ns,s,qs,xs,ps,Δ,rfl,_⟩:=h;rfl
 obtain ⟨p,e,h,sl,nl,r,n,ns,s,qs,xs,ps,Δ,rfl,S,hn,hl,hv,hp,hq0,hq1,hx1,hd,q⟩:=h
 have hr1:=hr
 refine' ⟨?t,?h,?r⟩
 case h =>
   conv=>arg 2;whnf
   with_reducible refine' (Zg (Yb ?h1 (Xe ?h2 (Xe (Yb ?h3 (Zi ?h4) ZH) (Xe ?h5 (Zg (Yb ?h6 (Zi ?h7) ZH) (Zi ?h8))))) ZH) (Zg ?h9 (Xe ?h10 (Zg ?h11 (Zi ?h12)))))
   case h1=>exact ZhD (PW.pt (UR (ZC Zab (ZG DT hr1 (Zd (pv 0) (Zd Ze Za))) Ze (ZF _)) (WZ (ZC WX (pv 5) Ze (ZF _)))))
   case h2=>exact ZA (i:=6) scWr.nd rfl (Or.inl rfl) (ZJ Zhx (ZJ ZL (pv 2) (ZG DT hr1 (Zd (pv 0) (Zd (Zl ZK rfl T.len PySem.boot_len (Zd (pv 2) Za)) Za))) (fun _ _=>rfl)) Ze (fun _ _=>rfl))
   case h3=>exact ZC YV (ZG DT hr1 (Zd (pv 0) (Zd Ze Za))) Ze (ZF _)
   case h4=>exact ZA (i:=6) scWr.nd rfl (Or.inl rfl) ZE
   case h5=>exact ZA (i:=7) scWr.nd rfl (Or.inl rfl) (Xg (ZC VF (pv 6) (pv 3) rfl) (Yl (Zd ZE (Zd (pv 5) Za))) (Yl (Zd ZE (Zd (pv 6) Za))))
   case h6=>exact ZC VF (pv 6) (pv 3) rfl
   case h7=>exact ZbM (US hr) (pv 4) (pv 5) (pv 6) rfl
   case h8=>exact Zv (ZG DSa hr (Zd (ZG DTo hr (Zd (pv 1) (Zd ZE (Zd (pv 6) Za)))) (Zd (pv 7) Za)))
   case h9=>exact ZA (i:=8) scWr.nd rfl (Or.inl rfl) (Zn Xb (ZG DT hr1 (Zd (pv 0) (Zd (Zn Yp (pv 5) Ze) Za))) Ze)
   case h10=>exact ZA (i:=7) scWr.nd rfl (Or.inl rfl) (Xg (XH (Zdj (US hr) (pv 8) (pv 4))) (Yl (Zd ZE (Zd YM Za))) (Yl (Zd ZE (Zd (pv 8) Za))))
   case h11=>exact YH (Zev (pv 4) (pv 8) YM ⟨rfl,rfl,rfl,rfl⟩)
   case h12=>exact Zv (ZG DSa hr (Zd (ZG DTo hr (Zd (pv 1) (Zd ZE (Zd (pv 8) Za)))) (Zd (pv 7) Za)))
 refine ⟨fun b H'=>∃ n1,n1≤n+1∧(b=true→ns.length < 20)∧Sep (UY K CH CR CS CT CL p e h sl nl r n1 ns s qs xs ps Δ) H',?_,?_⟩
 · refine ⟨_,rfl,p,n,3,_,rfl,S,by omega,by decide,by decide,fun r1 H1 a0 a1 S1=>⟨_,_,rfl,rfl,_,rfl,?_⟩⟩
   by_cases h1:0 < r1
   · rw [decide_eq_true h1]
     exact Yc ⟨_,rfl,_,_,rfl,rfl,_,rfl,_,Nat.le_refl _,fun z=>by have:=of_decide_eq_true z;omega,S1⟩
   · rw [decide_eq_false h1]
     exact ZV ⟨_,Nat.le_refl _,(fun z=>by cases z),S1⟩
 rintro b H1 ⟨n1,hn1,hb,S1⟩
 cases b with
 | true =>
   refine Yc ⟨fun σ H'=>∃ x n2,σ=[some (.ref p),some (.ref e),some (.ref sl),some (.ref nl),some (.ref r),some (.int (ns.length:Int)),some (.str x),none,none]∧n2≤n1+1∧Sep (UY K CH CR CS CT CL p e h sl nl r n2 ns s qs xs ps Δ) H',?_,?_⟩
   · obtain ⟨ts,et,pt⟩:=S1.get sl
     have hq:0 < qs.length:=List.length_pos_iff.mpr hq0
     refine ⟨_,rfl,_,rfl,_,rfl,sl,_,rfl,.inl (SqL.of et),p,n1,_,_,rfl,S1,by omega,by rw [List.length_map,pt.1];omega,by rw [List.length_map,pt.1];omega,fun r2 H2 b0 b1 S2=>?_⟩
     obtain ⟨ts2,et2,pt2⟩:=S2.get sl
     rw [List.length_map,pt.1] at b1
     have hlt:r2.toNat < qs.length:=by omega
     have hlt2:r2.toNat < ts2.length:=by rw [pt2.1];exact hlt
     have hat:Yg (ts2.map V.ref) r2=some (.ref ts2[r2.toNat]):=by
       have z:Yg (ts2.map V.ref) ((r2.toNat:Nat):Int)=some (.ref ts2[r2.toNat]):=YI (by rw [List.getElem?_map,List.getElem?_eq_getElem hlt2];rfl)
       rwa [show ((r2.toNat:Nat):Int)=r2 by omega] at z
     have etp:=pt2.2 r2.toNat _ _ (List.getElem?_eq_getElem hlt2) (List.getElem?_eq_getElem hlt)
     exact ⟨sl,_,_,_,rfl,rfl,SqL.of et2,hat,_,_,_,_,rfl,rfl,SqT.of etp,rfl,_,_,rfl,Nat.le_refl _,S2⟩
   rintro _ H2 ⟨x,n2,rfl,hn2,S2⟩
   refine ⟨fun σ H'=>∃ x n3,σ=[some (.ref p),some (.ref e),some (.ref sl),some (.ref nl),some (.ref r),some (.int (ns.length:Int)),some (.str x),none,none]∧n3≤n2+1∧Sep (UY K CH CR CS CT CL p e h sl nl r n3 ns s qs xs ps Δ) H',?_,?_⟩
   · refine ⟨_,rfl,p,n2,9,_,rfl,S2,by omega,by decide,by decide,fun r3 H3 c0 c1 S3=>⟨rfl,_,rfl,?_⟩⟩
     by_cases h3:V.int r3=V.int 0
     · rw [decide_eq_true h3];exact Yc ⟨_,_,rfl,Nat.le_refl _,S3⟩
     · rw [decide_eq_false h3];exact ZV ⟨_,_,rfl,Nat.le_refl _,S3⟩
   clear x
   rintro _ H3 ⟨x,n3,rfl,hn3,S3⟩
   have hkey:n3≤n+60:=by omega
   refine ⟨fun σ H'=>∃ t,σ=[some (.ref p),some (.ref e),some (.ref sl),some (.ref nl),some (.ref r),some (.int (ns.length:Int)),some (.str x),some (.ref t),none]∧Sep ((t,Tup (if x∈xs then [.str "told",.int (ns.length:Int)] else [.str "NoSetting",.str x]))::UY K CH CR CS CT CL p e h sl nl r n3 ns s qs xs ps Δ) H',?_,?_⟩
   · refine ⟨_,rfl,_,rfl,nl,_,rfl,.inl (SqL.of (S3.get nl)),rfl,WS xs,_,rfl,?_⟩
     show if inV (.str x) (xs.map V.str)=true then _ else _
     rw [Vm]
     by_cases hx:x∈xs
     · rw [decide_eq_true hx]
       refine Yc ⟨_,rfl,(by show 2≤sizeLine;decide),fun t ht=>⟨t,rfl,?_⟩⟩
       rw [if_pos hx];exact S3.new ht _
     · rw [decide_eq_false hx]
       refine ZV ⟨_,rfl,(by show 2≤sizeLine;decide),fun t ht=>⟨t,rfl,?_⟩⟩
       rw [if_neg hx];exact S3.new ht _
   rintro _ H4 ⟨t,rfl,S4⟩
   have ds:=hd x
   refine ⟨_,rfl,_,rfl,nl,_,rfl,.inl (SqL.of (S4.get nl)),rfl,WS xs,_,rfl,?_⟩
   show if inV (.str x) (xs.map V.str)=true then _ else _
   rw [Vm]
   by_cases hx:x∈xs
   · rw [if_pos hx] at S4
     rw [decide_eq_true hx] at ds ⊢
     refine Yc ⟨_,rfl,_,rfl,_,rfl,r,_,rfl,.inl ⟨_,Sum.inl (ns.length:Int),S4.get r,rfl,Wa (show _≤1000 by rw [List.length_map,hp.length_eq];have:(Zz ns ns.length).length≤ns.length:=(by unfold Zz;rw [List.length_map];exact Nat.le_trans (List.length_filter_le _ _) (by rw [List.length_range];exact Nat.le_refl _));omega),rfl⟩,?_⟩
     generalize hE:upd H4 r _=H5
     have S5:=S4.putE hE
     clear hE
     rw [Zex _ (Zeg hp),show (ps.map YE++[((Sum.inl (ns.length:Int):Zo),V.str x)])=(ps++[((ns.length:Int),V.str x)]).map YE from by rw [List.map_append];rfl] at S5
     have hlt:=hb rfl
     refine ⟨_,rfl,_,rfl,e,h,ns,[],0,s,"watch",.str x,_,rfl,(S5.pull h).pull e,by omega,hv,.inl ⟨x,rfl,rfl,(fun z=>by rw [z] at ds;cases ds),fun _ a H6 S6 ea=>?_⟩⟩
     refine ⟨_,rfl,.ref a,.ref t,.tuple [.str "told",.int (ns.length:Int)],rfl,.tup (SqT.of ea) (by show 2≤20000;decide) (.cons (.str _) (.cons (.int _) .nil)),.tup (SqT.of (S6.get t)) (by show 2≤20000;decide) (.cons (.str _) (.cons (.int _) .nil)),rfl,(by show 1 < 5;decide),fun H7 s7=>q n3 (ns++[.str x]) (ps++[((ns.length:Int),.str x)]) H7 hkey (by rw [List.length_append];show ns.length+1≤20;omega) ?_ ?_ (.inr ⟨x,rfl⟩) ?_⟩
     · intro v hv2
       rcases List.mem_append.mp hv2 with z | z
       · exact hv v z
       · exact .inr ⟨x,List.mem_singleton.mp z⟩
     · rw [ZaO];exact hp.append_right _
     · exact ((((((S6.drop t).mono s7).pull r).pull nl).pull sl).pull h |>.pull e).pull p
   · rw [if_neg hx] at S4
     rw [decide_eq_false hx] at ds ⊢
     refine ZV ?_
     refine ⟨_,rfl,_,rfl,e,h,ns,[],0,s,"watch",.str x,_,rfl,(S4.pull h).pull e,by omega,hv,.inl ⟨x,rfl,rfl,fun _ a H6 S6 ea=>?_,(fun z=>by rw [z] at ds;cases ds)⟩⟩
     refine ⟨_,rfl,.ref a,.ref t,.tuple [.str "NoSetting",.str x],rfl,.tup (SqT.of ea) (by show 2≤20000;decide) (.cons (.str _) (.cons (.str _) .nil)),.tup (SqT.of (S6.get t)) (by show 2≤20000;decide) (.cons (.str _) (.cons (.str _) .nil)),rfl,(by show 1 < 5;decide),fun H7 s7=>q n3 ns ps H7 hkey hl hv hp (.inl rfl) ?_⟩
     exact ((((((S6.drop t).mono s7).pull r).pull nl).pull sl).pull h |>.pull e).pull p
 | false =>
   refine ZV ?_
   refine ⟨_,rfl,_,rfl,_,_,rfl,rfl,p,n1,_,_,rfl,S1,by omega,by omega,by omega,fun r2 H2 b0 b1 S2=>⟨_,_,rfl,rfl,?_⟩⟩
   have hkey:n1+1≤n+60:=by omega
   refine ⟨fun σ H'=>∃ t,σ=[some (.ref p),some (.ref e),some (.ref sl),some (.ref nl),some (.ref r),some (.int (ns.length:Int)),none,some (.ref t),some (.int (r2 - 1))]∧Sep ((t,Tup (if (ZB (ps.map YE) (Sum.inl (r2 - 1))).isSome=true then [.str "told",.non] else [.str "NoWatcher",.int (r2 - 1)]))::UY K CH CR CS CT CL p e h sl nl r (n1+1) ns s qs xs ps Δ) H',?_,?_⟩
   · refine ⟨_,rfl,_,rfl,r,_,rfl,DGet.k (k:=Sum.inl (r2 - 1)) (S2.get r),_,rfl,?_⟩
     cases hz:(ZB (ps.map YE) (Sum.inl (r2 - 1))).isSome with
     | true=>exact Yc ⟨(by show 2≤sizeLine;decide),fun t ht=>⟨t,rfl,S2.new ht _⟩⟩
     | false=>exact ZV ⟨_,rfl,(by show 2≤sizeLine;decide),fun t ht=>⟨t,rfl,S2.new ht _⟩⟩
   rintro _ H3 ⟨t,rfl,S3⟩
   generalize r2 - 1=k at S3 ⊢
   refine ⟨_,rfl,r,rfl,.inl ⟨_,.inl (S3.get r)⟩,_,rfl,_,Sum.inl k,S3.get r,rfl,fun v hv2=>?_,fun hz=>?_⟩
   · obtain ⟨j,hj,rfl,hjn⟩:=ZeF hp hv2
     rw [hv2] at S3
     generalize hE:upd H3 r _=H4
     have S4:=S3.putE hE
     clear hE
     rw [ZdT] at S4
     have hg:ns.getD j .non=ns[j]:=by rw [List.getD_eq_getElem?_getD,List.getElem?_eq_getElem hj];rfl
     have hstr:∃ x,ns[((j:Int)).toNat]?=some (.str x):=by
       rw [Int.toNat_natCast,List.getElem?_eq_getElem hj]
       rcases hv _ (List.getElem_mem hj) with z | ⟨x,z⟩
       · rw [hg] at hjn;exact absurd z hjn
       · exact ⟨x,by rw [z]⟩
     refine ⟨_,rfl,_,rfl,e,h,ns,[],0,s,"unwatch",.int (j:Int),_,rfl,(S4.pull h).pull e,by omega,hv,.inr ⟨(j:Int),rfl,rfl,fun z=>?_,fun _ _ a H5 S5 ea=>?_⟩⟩
     · obtain ⟨x,hx⟩:=hstr
       rcases z with z | z | z
       · omega
       · rw [hx] at z;cases z
       · rw [hx] at z;cases z
     refine ⟨_,rfl,.ref a,.ref t,.tuple [.str "told",.none],rfl,.tup (SqT.of ea) (by show 2≤20000;decide) (.cons (.str _) (.cons .non .nil)),.tup (SqT.of (S5.get t)) (by show 2≤20000;decide) (.cons (.str _) (.cons .non .nil)),rfl,(by show 1 < 5;decide),fun H7 s7=>q (n1+1) (ns.set ((j:Int)).toNat .non) _ H7 hkey (by rw [List.length_set];exact hl) ?_ ?_ (.inl (by rw [List.length_set])) ((((((S5.drop t).mono s7).pull r).pull nl).pull sl).pull h |>.pull e |>.pull p)⟩
     · intro v hv3
       rcases List.mem_or_eq_of_mem_set hv3 with z | z
       · exact hv v z
       · exact .inl z
     · rw [Int.toNat_natCast,Zeo];exact hp.filter _
   · have hno:=ZgA hp hz
     rw [hz] at S3
     refine ⟨_,rfl,_,rfl,e,h,ns,[],0,s,"unwatch",.int k,_,rfl,(S3.pull h).pull e,by omega,hv,.inr ⟨k,rfl,rfl,fun _ a H5 S5 ea=>?_,fun h0 ⟨x,hx⟩=>?_⟩⟩
     · refine ⟨_,rfl,.ref a,.ref t,.tuple [.str "NoWatcher",.int k],rfl,.tup (SqT.of ea) (by show 2≤20000;decide) (.cons (.str _) (.cons (.int _) .nil)),.tup (SqT.of (S5.get t)) (by show 2≤20000;decide) (.cons (.str _) (.cons (.int _) .nil)),rfl,(by show 1 < 5;decide),fun H7 s7=>q (n1+1) ns ps H7 hkey hl hv hp (.inl rfl) ((((((S5.drop t).mono s7).pull r).pull nl).pull sl).pull h |>.pull e |>.pull p)⟩
     · have hlt:=(List.getElem?_eq_some_iff.mp hx).1
       have:=hno k.toNat hlt (by omega)
       rw [List.getD_eq_getElem?_getD,hx] at this
       cases this
end
end K45
set_option maxHeartbeats 2000000
namespace L2
open PySem
def Zcz (pre post:Str)(z:Int)(x:Str):Prop:=∃ c1 c2,x=pre++(⟨#[c1]⟩:Str)++(⟨#[c2]⟩:Str)++post∧Yg a26.cps.toList (z / 26)=some c1∧Yg a26.cps.toList (z % 26)=some c2
theorem ZgJ:∀ i j:_root_.Fin 26,a26.cps.toList[i.val]?=a26.cps.toList[j.val]?→i=j:=by decide +kernel
theorem ZdJ {xs:List Nat}{r:Int}{c:Nat}(h0:0≤r)(h:Yg xs r=some c):xs[r.toNat]?=some c:=by
 unfold Yg Ui at h
 rw [if_pos h0] at h
 split at h
 · exact h
 · cases h
theorem Zea {r r':Int}{c:Nat}(h0:0≤r)(h1:r < 26)(h2:0≤r')(h3:r' < 26)(e:Yg a26.cps.toList r=some c)(e':Yg a26.cps.toList r'=some c):r=r':=by
 have:=ZgJ ⟨r.toNat,by omega⟩ ⟨r'.toNat,by omega⟩ ((ZdJ h0 e).trans (ZdJ h2 e').symm)
 have:=congrArg Fin.val this
 simp only at this
 omega
theorem ZgI (x y:Str):(x++y).cps.toList=x.cps.toList++y.cps.toList:=by
 show (x.cps++y.cps).toList=_
 simp
theorem Zif {pre post:Str}{z z':Int}{x:Str}(h0:0≤z)(h1:z < 676)(h2:0≤z')(h3:z' < 676)(h:Zcz pre post z x)(h':Zcz pre post z' x):z=z':=by
 obtain ⟨c1,c2,rfl,e1,e2⟩:=h
 obtain ⟨d1,d2,e,f1,f2⟩:=h'
 have e:=congrArg (fun s:Str=>s.cps.toList) e
 simp only [ZgI,List.append_assoc] at e
 have e:=List.append_cancel_left e
 simp at e
 obtain ⟨rfl,rfl⟩:=e
 have g1:=Zea (by omega) (by omega) (by omega) (by omega) e1 f1
 have g2:=Zea (by omega) (by omega) (by omega) (by omega) e2 f2
 omega
theorem ZgH {r5 stp:Int}{i j:Nat}(hs:stp=1∨stp=27∨stp=5∨stp=251)(hij:i < j)(hj:j≤100)(e:(r5+stp * (0+(i:Int))) % 676=(r5+stp * (0+(j:Int))) % 676):False:=by
 rcases hs with rfl | rfl | rfl | rfl<;>omega
theorem Zdq {pre post:Str}{r5 stp:Int}{xs:List Str}(hs:stp=1∨stp=27∨stp=5∨stp=251)(hl:xs.length≤100)(h:∀(j:Nat)(x:Str),xs[j]?=some x→Zcz pre post ((r5+stp * (0+(j:Int))) % 676) x):xs.Nodup:=by
 refine List.pairwise_iff_getElem.mpr fun i j hi hj hij e=>?_
 have a:=h i _ (List.getElem?_eq_getElem hi)
 have b:=h j _ (List.getElem?_eq_getElem hj)
 rw [e] at a
 exact ZgH hs hij (by omega) (Zif (Int.emod_nonneg _ (by decide)) (Int.emod_lt_of_pos _ (by decide)) (Int.emod_nonneg _ (by decide)) (Int.emod_lt_of_pos _ (by decide)) a b)
end L2
set_option maxHeartbeats 4000000
namespace K45
open PySem L2
section
variable {P:Program}{w:World}{K:PySem.W.Frag}{mg:Str→Option Value}{base:Heap}
def ZaE:Sp:=fun vs H Q _=>∃(p:Addr)(n:Nat)(many:Int)(Δ:Rs),vs=[.ref p,.int many]∧Sep ((p,Bx n)::Δ) H∧n≤900000∧0≤many∧many≤100 ∧
 ∀ (l:Addr) (H':Hp) (xs:List Str),Sep ((l,ZN (xs.map V.str))::(p,Bx (n+20))::Δ) H'→xs.length=many.toNat→(∀ x∈xs,Vb x)→(∀ x∈xs,2≤x.length)→xs.Nodup→Q (.ref l) H'
abbrev nNm:List Str:=["_law_box_here","_law_many","_law_letters","_law_size","_law_stem","_law_first","_law_step","_law_at","_law_found","_law_k","_law_one","_law_other"]
abbrev ZeU:List Str:=["_law_box_here","_law_many"]
theorem scNm:Zs nNm ZeU (Zj s_l_names):=⟨rfl,rfl,rfl,by decide +kernel,rfl,by decide +kernel,by decide +kernel⟩
theorem ZeP {f:Addr}{fd:FuncData}(F:Fun K "_law_names" "_law_names" s_l_names f fd)(T:Ye mg)(DT:DTk P w K mg base 1):FnOk P w K mg base ZU 2 f fd ZeU ZaE:=by
 refine F.ok scNm (fun vs H Q E h=>?_) (fun cdv A outer s H vs Q E hr h=>?_)
 · obtain ⟨p,n,many,Δ,rfl,_⟩:=h;rfl
 obtain ⟨p,n,many,Δ,rfl,S,hn,h0,h1,q⟩:=h
 have hr1:=hr
 refine' ⟨?t,?h,?r⟩
 case h =>
   conv=>arg 2;whnf
   with_reducible refine' (Zg ?h1 (Zg ?h2 (Zg ?h3 (Zg ?h4 (Zg (WC ?h5 ?h6 ?h7 ?h8 (Zg ?h9 (Zi ?h10)) ?h11) (Zi ?h12))))))
   case h1=>exact Xk (Yl (Zd ZE (Zd (Zn Yp Ze (ZG DT hr1 (Zd (pv 0) (Zd Ze Za)))) Za))) (XD rfl (ZM (Zx (i:=2) scNm.nd rfl (Or.inr rfl)) (ZM (Zx (i:=3) scNm.nd rfl (Or.inl rfl)) Xf)))
   case h2=>exact ZA (i:=4) scNm.nd rfl (Or.inl rfl) (Xp PySem.F.plainAttrs_str PySem.F.slot_str_join PySem.F.type_str_join ZbY ZE (Zd (WV (CompOk.of nNm s_l_names rfl rfl (by decide +kernel)) rfl (YR rfl T.range (Zd (Zn Xb (pv 3) Ze) Za))  (fun _ _ _ _ _=>ZJ Xl (pv 2) (ZG DT hr1 (Zd (pv 0) (Zd Ze Za))) (fun _ _=>rfl))) Za))
   case h3=>exact ZgT (i:=5) (j:=6) (k:=7) rfl scNm.nd rfl rfl rfl (by decide) (by decide) (by decide) rfl rfl rfl (Zd (ZG DT hr1 (Zd (pv 0) (Zd Ze Za))) (Zd (ZJ ZL (Zy (Zd Ze (Zd Ze (Zd Ze (Zd Ze Za))))) (ZG DT hr1 (Zd (pv 0) (Zd Ze Za))) (fun _ _=>rfl)) (Zd (ZG DT hr1 (Zd (pv 0) (Zd (Zn Xb (pv 3) Ze) Za))) Za))) rfl
   case h4=>exact ZA (i:=8) scNm.nd rfl (Or.inl rfl) (Zy Za)
   case h5=>exact PassesOwn.never
   case h6=>exact rfl
   case h7=>exact YR rfl T.range (Zd (pv 1) Za)
   case h8=>exact Zx (i:=9) scNm.nd rfl (Or.inl rfl)
   case h9=>exact Xk (Zl Zbu rfl T.divmod (by decide +kernel) (Zd (Zn YY (Zn Yp (pv 5) (Zn XC (pv 6) (pv 9))) Ze) (Zd Ze Za))) (XD rfl (ZM (Zx (i:=10) scNm.nd rfl (Or.inl rfl)) (ZM (Zx (i:=11) scNm.nd rfl (Or.inl rfl)) Xf)))
   case h10=>exact YH (Xp PySem.F.plainAttrs_list PySem.F.slot_list_append PySem.F.type_list_append YU (pv 8) (Zd (Zn YW (Zn YW (Zn YW (Ut ZaB (pv 4) Vw (Vu (pv 7))) (ZJ Xl (pv 2) (pv 10) (fun _ _=>rfl))) (ZJ Xl (pv 2) (pv 11) (fun _ _=>rfl))) (Ut ZaB (pv 4) (Vu (pv 7)) Vw)) Za))
   case h11=>exact fun _=>rfl
   case h12=>exact Zv (pv 8)
 refine ⟨_,rfl,p,_,7,_,rfl,S,by omega,by decide,by decide,fun r1 H1 a0 a1 S1=>⟨_,_,rfl,rfl,(by show 2≤sizeLine;decide),fun t ht=>⟨t,_,rfl,SqT.of Zf,rfl,_,_,rfl,_,_,rfl,rfl,?_⟩⟩⟩
 generalize hE:upd H1 t _=H2
 have S2:=(S1.newE ht hE).tail
 clear hE
 refine ⟨rfl,_,rfl,_,_,rfl,rfl,_,rfl,by omega,by omega,fun D hD=>?_⟩
 have e1:(2+r1 - 2).toNat=r1.toNat:=by omega
 rw [e1]
 refine Zby (Yv (show r1.toNat≤1000 by omega)) S2 hD (fun i ys Δ'=>∃ zs:List Str,ys=zs.map V.str∧(∀ z∈zs,∃ c,z=⟨#[c]⟩∧WK c=true)∧Δ'=(p,Bx (n+1+i))::Δ) ⟨[],rfl,(fun _ h=>nomatch h),rfl⟩ ?_ ?_
 · rintro i ys Δ' H' hi hl ⟨zs,rfl,hz,rfl⟩ S'
   refine ⟨_,rfl,_,rfl,p,_,26,_,rfl,S'.pull p,by omega,by decide,by decide,fun r3 H3 b0 b1 S3=>?_⟩
   obtain ⟨c,hc,hcl⟩:=Vr (x:=a26) Vk b0 (by rw [Xv];exact b1)
   refine ⟨a26,r3,c,rfl,rfl,by rw [Xv];decide,hc,_,⟨zs++[⟨#[c]⟩],by rw [List.map_append];rfl,?_,rfl⟩,S3.pull D⟩
   intro z hz'
   rcases List.mem_append.mp hz' with h | h
   · exact hz z h
   · rw [List.mem_singleton.mp h];exact ⟨c,rfl,hcl⟩
 rintro ys Δ' H3 ⟨zs,rfl,hz,rfl⟩ hl S3
 rw [List.length_map] at hl
 obtain ⟨g1,g2,g3⟩:=ZdV hz
 refine ⟨_,D,zs,rfl,rfl,SqL.of (S3.get D),by omega,?_⟩
 have S4:=S3.tail
 generalize Txt.join (Str.ofString "") zs=stem at *
 refine ⟨_,rfl,p,_,676,_,rfl,S4,by omega,by decide,by decide,fun r5 H5 b0 b1 S5=>⟨(by show 4≤sizeLine;decide),fun l hl4=>?_⟩⟩
 generalize hE:upd H5 l _=H6
 have S6:=S5.newE hl4 hE
 clear hE
 refine ⟨_,rfl,p,_,4,_,rfl,S6.pull p,by omega,by decide,by decide,fun r7 H7 c0 c1 S7=>?_⟩
 obtain ⟨sv,hsm,hsv⟩:=Zgk (xs:=[.int 1,.int 27,.int 5,.int 251]) c0 c1
 obtain ⟨stp,rfl,hst,hst4⟩:∃ z:Int,sv=.int z∧(0≤z∧z≤251)∧(z=1∨z=27∨z=5∨z=251):=by
   simp only [List.mem_cons,List.not_mem_nil,or_false] at hsm
   rcases hsm with rfl | rfl | rfl | rfl<;>exact ⟨_,rfl,⟨by decide,by decide⟩,by decide⟩
 refine ⟨l,_,_,_,rfl,rfl,SqL.of (S7.get l),hsv,?_⟩
 have S8:=S7.drop l
 refine ⟨_,rfl,_,rfl,_,_,rfl,rfl,p,_,_,_,rfl,S8,by omega,by omega,by omega,fun r9 H9 d0 d1 S10=>⟨_,_,_,rfl,?_⟩⟩
 refine ⟨(by show 0≤sizeLine;decide),fun fl hfl=>?_⟩
 generalize hE:upd H9 fl _=H11
 have S11:=S10.newE hfl hE
 clear hE
 refine ⟨_,rfl,many,rfl,by omega,by omega,?_⟩
 refine XQ (fun i σ H'=>∃ x9 x10 x11 xs,σ=[some (.ref p),some (.int many),some (.str a26),some (.int (2+r1)),some (.str stem),some (.int r5),some (.int stp),some (.int r9),some (.ref fl),x9,x10,x11]∧Sep ((fl,ZN (xs.map V.str))::(p,Bx (n+20))::Δ) H'∧xs.length=i∧(∀ x∈xs,Vb x)∧∀ (j:Nat) (x:Str),xs[j]?=some x→Zcz (Txt.slice stem none (some r9)) (Txt.slice stem (some r9) none) ((r5+stp * (0+(j:Int))) % 676) x)
   ⟨_,_,_,[],rfl,(S11.pull p).le (by omega) |>.pull fl,rfl,(fun _ h=>nomatch h),fun _ _ h=>nomatch h⟩ ?_ ?_
 · rintro i σ H' hi ⟨x9,x10,x11,xs,rfl,S',hxl,hxs,hnm⟩
   have hb:0≤stp * (0+(i:Int)):=Int.mul_nonneg hst.1 (by omega)
   refine ⟨_,rfl,_,rfl,_,rfl,_,_,rfl,rfl,.inl ⟨by omega,by omega⟩,_,_,rfl,rfl,_,_,rfl,rfl,(by show (0:Int) < 676;decide),?_⟩
   obtain ⟨z,hz⟩:∃ z:Int,(r5+stp * (0+(i:Int))) % 676=z:=⟨_,rfl⟩
   have hz0:0≤z:=by rw [← hz];exact Int.emod_nonneg _ (by decide)
   have hz1:z < 676:=by rw [← hz];exact Int.emod_lt_of_pos _ (by decide)
   refine ⟨z,26,congrArg (fun y=>[V.int y,V.int 26]) hz,⟨by decide,by decide⟩,fun t2 ht2=>⟨t2,_,rfl,SqT.of Zf,rfl,_,_,rfl,_,_,rfl,rfl,?_⟩⟩
   generalize hE:upd H' t2 _=H12
   have S12:=(S'.newE ht2 hE).tail
   clear hE
   obtain ⟨c1',hc1,hcl1⟩:=Vr (x:=a26) Vk (r:=z / 26) (by omega) (by rw [Xv];omega)
   obtain ⟨c2',hc2,hcl2⟩:=Vr (x:=a26) Vk (r:=z % 26) (by omega) (by rw [Xv];omega)
   have hsl:=ZdS (x:=stem) d0 (by omega)
   refine ⟨_,rfl,.inl ⟨rfl,_,SqL.of (S12.get fl)⟩,_,rfl,_,rfl,r9,rfl,stem,rfl,Yv (show stem.length≤1000 by omega),_,rfl,_,rfl,a26,_,c1',rfl,rfl,by rw [Xv];decide,hc1,_,_,rfl,rfl,Yv (show _≤1000 by rw [ZY];omega),?_⟩
   refine ⟨_,rfl,_,rfl,a26,_,c2',rfl,rfl,by rw [Xv];decide,hc2,_,_,rfl,rfl,Yv (show _≤1000 by rw [Yn,ZY,ZY];omega),_,rfl,_,rfl,r9,rfl,stem,rfl,Yv (show stem.length≤1000 by omega),_,_,rfl,rfl,Yv (show _≤1000 by rw [Yn,Yn,ZY,ZY];omega),?_⟩
   refine ⟨fl,_,_,rfl,rfl,S12.get fl,Wa (show _≤1000 by rw [List.length_map];omega),?_⟩
   have S13:=S12.put fl (.lst (xs.map V.str++[.str (Txt.slice stem none (some r9)++(⟨#[c1']⟩:Str)++(⟨#[c2']⟩:Str)++Txt.slice stem (some r9) none)]))
   refine ⟨_,_,_,xs++[Txt.slice stem none (some r9)++(⟨#[c1']⟩:Str)++(⟨#[c2']⟩:Str)++Txt.slice stem (some r9) none],rfl,by rw [List.map_append];exact S13,by simp [hxl],fun x hx=>?_,fun j x hx=>?_⟩
   · rcases List.mem_append.mp hx with h | h
     · exact hxs x h
     · rw [List.mem_singleton.mp h]
       refine ⟨?_,?_,Xx (Xx (Xx (Wo g3) (Wt hcl1)) (Wt hcl2)) (Wo g3)⟩<;>(rw [Yn,Yn,Yn,ZY,ZY];omega)
   · by_cases hj:j < xs.length
     · rw [List.getElem?_append_left hj] at hx;exact hnm j x hx
     · have hj2:j=i:=by
         have:=(List.getElem?_eq_some_iff.mp hx).1
         rw [List.length_append,List.length_singleton] at this;omega
       subst hj2
       rw [List.getElem?_append_right (by omega),show j - xs.length=0 by omega] at hx
       cases (show some _=some x from hx)
       rw [hz];exact ⟨c1',c2',rfl,hc1,hc2⟩
 · rintro σ H' ⟨x9,x10,x11,xs,rfl,S',hxl,hxs,hnm⟩
   exact ⟨_,rfl,q fl H' xs S' hxl hxs (fun x hx=>by obtain ⟨j,hj⟩:=List.mem_iff_getElem?.mp hx;obtain ⟨c1,c2,e,_⟩:=hnm j x hj;rw [e,Yn,Yn,Yn,ZY,ZY];omega) (Zdq hst4 (by omega) hnm)⟩
end
end K45
set_option maxHeartbeats 4000000
namespace K45
open PySem L2
theorem ZiX:∀ i:_root_.Fin 26,0≤Txt.find a26 ⟨#[97+i.val]⟩∧Txt.find a26 ⟨#[97+i.val]⟩ < 26:=by decide +kernel
theorem Zay {c:Nat}(h:WK c=true):0≤Txt.find a26 ⟨#[c]⟩∧Txt.find a26 ⟨#[c]⟩ < 26:=by
 unfold WK at h
 simp only [Bool.and_eq_true,decide_eq_true_eq] at h
 have:=ZiX ⟨c - 97,by omega⟩
 rwa [show 97+(c - 97)=c by omega] at this
theorem Zeh:∀ i:_root_.Fin 26,∃ c,a26.cps.toList[i.val]?=some c∧WK c=true:=by decide +kernel
theorem ZbB {k:Int}(h0:0≤k)(h1:k < 26):∃ c,Yg a26.cps.toList k=some c∧WK c=true:=by
 obtain ⟨c,e,l⟩:=Zeh ⟨k.toNat,by omega⟩
 refine ⟨c,?_,l⟩
 have z:Yg a26.cps.toList ((k.toNat:Nat):Int)=some c:=YI e
 rwa [show ((k.toNat:Nat):Int)=k by omega] at z
theorem ZcR {x:Str}{k:Int}(h0:0≤k)(h1:k≤x.length):(Txt.slice x (some k) none).length=x.length - k.toNat:=by
 have hn:¬ k < 0:=by omega
 rw [ZT,Xi,ZT]
 rw [ZT] at h1
 have e2:HT.sIx x.cps.toList.length x.cps.toList.length none=x.cps.toList.length:=rfl
 have e3:HT.sIx x.cps.toList.length 0 (some k)=k.toNat:=by
   unfold HT.sIx
   simp only [hn,if_false]
   omega
 rw [e2,e3,List.length_take,List.length_drop];omega
section
variable {P:Program}{w:World}{K:PySem.W.Frag}{mg:Str→Option Value}{base:Heap}{kk:Nat}
def spTw:Sp:=fun vs H Q _=>∃ x:Str,vs=[.str x]∧Vb x∧2≤x.length∧∀ y,Vb y→2≤y.length→Q (.str y) H
abbrev nTw:List Str:=["_law_name","_law_letters","_law_one","_law_other"]
abbrev ZeR:List Str:=["_law_name"]
theorem scTw:Zs nTw ZeR (Zj s_l_twin):=⟨rfl,rfl,rfl,by decide +kernel,rfl,by decide +kernel,by decide +kernel⟩
theorem Zgi {f:Addr}{fd:FuncData}(F:Fun K "_law_twin" "_law_twin" s_l_twin f fd)(T:Ye mg):FnOk P w K mg base ZU (kk+1) f fd ZeR spTw:=by
 refine F.ok scTw (fun vs H Q E h=>?_) (fun cdv A outer s H vs Q E hr h=>?_)
 · obtain ⟨x,rfl,_⟩:=h;rfl
 obtain ⟨x,rfl,hx,h2,q⟩:=h
 refine' ⟨?t,?h,?r⟩
 case h =>
   conv=>arg 2;whnf
   with_reducible refine' (Zg ?h1 (Zg ?h2 (Zg (Yb ?h3 (Zi ?h4) ZH) (Zi ?h5))))
   case h1=>exact ZA (i:=1) scTw.nd rfl (Or.inl rfl) ZE
   case h2=>exact Zav (i:=2) (j:=3) rfl scTw.nd rfl rfl (by decide) rfl rfl (Zd (Xp PySem.F.plainAttrs_str PySem.F.slot_str_index PySem.F.type_str_index ZaT (pv 1) (Zd (ZJ Xl (pv 0) Ze (fun _ _=>rfl)) Za)) (Zd (Xp PySem.F.plainAttrs_str PySem.F.slot_str_index PySem.F.type_str_index ZaT (pv 1) (Zd (ZJ Xl (pv 0) Ze (fun _ _=>rfl)) Za)) Za)) rfl
   case h3=>exact PW.pt (UR (ZC WX (pv 2) Ze (ZF _)) (WZ (ZC Zab (pv 3) Ze (ZF _))))
   case h4=>exact Zv (Zn YW (Zn YW (ZJ Xl (pv 1) (Zn Yp (pv 2) Ze) (fun _ _=>rfl)) (ZJ Xl (pv 1) (Zn Xb (pv 3) Ze) (fun _ _=>rfl))) (Ut ZaB (pv 0) (Vu Ze) Vw))
   case h5=>exact Zv (pv 0)
 have hl:=ZT x
 have sz:x.length≤sizeLine:=Nat.le_trans hx.2.1 (by decide)
 have g:∀ k:Nat,k < 2→∃ c,Yg x.cps.toList (k:Int)=some c∧WK c=true:=fun k hk=>by
   have hlt:k < x.cps.toList.length:=by omega
   exact ⟨_,YI (List.getElem?_eq_getElem hlt),List.all_eq_true.mp hx.2.2 _ (List.getElem_mem hlt)⟩
 obtain ⟨c0,e0,l0⟩:=g 0 (by decide)
 obtain ⟨c1,e1,l1⟩:=g 1 (by decide)
 obtain ⟨f0,f0'⟩:=Zay l0
 obtain ⟨f1,f1'⟩:=Zay l1
 refine ⟨_,rfl,rfl,_,rfl,x,0,c0,rfl,rfl,sz,e0,a26,_,rfl,rfl,f0,_,rfl,rfl,_,rfl,x,1,c1,rfl,rfl,sz,e1,a26,_,rfl,rfl,f1,?_⟩
 generalize Txt.find a26 ⟨#[c0]⟩=i0 at *
 generalize Txt.find a26 ⟨#[c1]⟩=i1 at *
 refine ⟨_,_,rfl,?_⟩
 refine ⟨_,rfl,_,_,rfl,rfl,_,rfl,?_⟩
 by_cases h24:i0 < 24
 · rw [decide_eq_true h24]
   refine Yc ⟨_,rfl,_,_,rfl,rfl,_,rfl,?_⟩
   by_cases h0:0 < i1
   · rw [decide_eq_true h0]
     obtain ⟨d0,g0,m0⟩:=ZbB (k:=i0+2) (by omega) (by omega)
     obtain ⟨d1,g1,m1⟩:=ZbB (k:=i1 - 1) (by omega) (by omega)
     have hs:=ZcR (x:=x) (k:=2) (by decide) (by omega)
     have h8:=hx.2.1
     have b8:(8:Nat)≤sizeLine:=by decide
     refine Yc ⟨_,rfl,_,rfl,_,_,rfl,rfl,a26,_,d0,rfl,rfl,(by decide),g0,_,rfl,_,rfl,_,_,rfl,rfl,a26,_,d1,rfl,rfl,(by decide),g1,_,_,rfl,rfl,(by rw [ZY,ZY];omega),?_⟩
     refine ⟨_,rfl,_,rfl,x,rfl,sz,_,_,rfl,rfl,(by rw [Yn,ZY,ZY,hs];omega),q _ ⟨?_,?_,Xx (Xx (Wt m0) (Wt m1)) (Wo hx.2.2)⟩ ?_⟩<;>(rw [Yn,Yn,ZY,ZY,hs];omega)
   · rw [decide_eq_false h0]
     exact ZV ⟨_,rfl,q x hx h2⟩
 · rw [decide_eq_false h24]
   exact ZV (ZV ⟨_,rfl,q x hx h2⟩)
end
end K45
set_option maxHeartbeats 4000000
namespace K45
open PySem L2
theorem Zfk {xs:List Str}{i:Nat}(h:i < xs.length):∃ y∈xs,Yg (xs.map V.str) ((i:Int) - 1)=some (.str y):=by
 have hl:(xs.map V.str).length=xs.length:=List.length_map ..
 cases i with
 | zero =>
   refine ⟨xs[xs.length - 1],List.getElem_mem (by omega),?_⟩
   unfold Yg Ui
   rw [hl,if_neg (by omega),if_pos (by omega),show (((0:Nat):Int) - 1+(xs.length:Int)).toNat=xs.length - 1 by omega]
   show (xs.map V.str)[xs.length - 1]?=_
   rw [List.getElem?_map,List.getElem?_eq_getElem (by omega)];rfl
 | succ j =>
   refine ⟨xs[j],List.getElem_mem (by omega),?_⟩
   rw [show (((j+1:Nat):Int) - 1)=(j:Int) by omega]
   exact YI (by rw [List.getElem?_map,List.getElem?_eq_getElem (by omega)];rfl)
def PLt (ts:List Addr)(qs:List (Str×V)):Yi:=fun l h=>h l=some (.lst (ts.map V.ref))∧PairT h ts qs
instance {ts:List Addr} {qs:List (Str×V)}:Up (PLt ts qs):=⟨fun ⟨e,p⟩ s=>⟨s _ _ e,p.tf s.tf⟩⟩
section
variable {P:Program}{w:World}{K:PySem.W.Frag}{mg:Str→Option Value}{base:Heap}{kk:Nat}
def spSe:Sp:=fun vs H Q _=>∃(p:Addr)(n:Nat)(many:Int)(Δ:Rs),vs=[.ref p,.int many]∧Sep ((p,Bx n)::Δ) H∧n≤100000∧1≤many∧many≤60∧∀(l:Addr)(H':Hp)(qs:List (Str×V)),Sep ((l,PLs qs)::(p,Bx (n+10000))::Δ) H'→qs.length=many.toNat→(qs.map (·.1)).Nodup→Q (.ref l) H'
abbrev nSe:List Str:=["_law_box_here","_law_many","_law_names_here","_law_found","_law_k","_law_name","_law_own"]
abbrev ZeM:List Str:=["_law_box_here","_law_many"]
theorem scSe:Zs nSe ZeM (Zj s_l_settings):=⟨rfl,rfl,rfl,by decide +kernel,rfl,by decide +kernel,by decide +kernel⟩
theorem Zbx {f:Addr}{fd:FuncData}(F:Fun K "_law_settings" "_law_settings" s_l_settings f fd)(T:Ye mg)(DT:DTk P w K mg base kk)(DN:Def P w K mg base kk "_law_names" ZeU ZaE)(DTw:Def P w K mg base kk "_law_twin" ZeR spTw)(DV:Def P w K mg base kk "_law_value" ["_law_box_here"] Uw):FnOk P w K mg base ZU (kk+1) f fd ZeM spSe:=by
 refine F.ok scSe (fun vs H Q E h=>?_) (fun cdv A outer s H vs Q E hr h=>?_)
 · obtain ⟨p,n,many,Δ,rfl,_⟩:=h;rfl
 obtain ⟨p,n,many,Δ,rfl,S,hn,hm0,hm1,q⟩:=h
 have hr1:=hr
 refine' ⟨?t,?h,?r⟩
 case h =>
   conv=>arg 2;whnf
   with_reducible refine' (Zg ?h1 (Zg (WC ?h2 ?h3 ?h4 ?h5 (Zg ?h6 (Zi ?h7)) ?h8) (Zi ?h9)))
   case h1=>exact Zav (i:=2) (j:=3) rfl scSe.nd rfl rfl (by decide) rfl rfl (Zd (ZG DN hr (Zd (pv 0) (Zd (pv 1) Za))) (Zd (Zy Za) Za)) rfl
   case h2=>exact PassesOwn.never
   case h3=>exact rfl
   case h4=>exact Zaw rfl T.enumerate (pv 2)
   case h5=>exact XD rfl (ZM (Zx (i:=4) scSe.nd rfl (Or.inl rfl)) (ZM (Zx (i:=5) scSe.nd rfl (Or.inl rfl)) Xf))
   case h6=>exact ZA (i:=6) scSe.nd rfl (Or.inl rfl) (ZG DTw hr (Zd (ZJ ZL (pv 2) (Zn Xb (pv 4) Ze) (fun _ _=>rfl)) Za))
   case h7=>exact YH (Xp PySem.F.plainAttrs_list PySem.F.slot_list_append PySem.F.type_list_append YU (pv 3) (Zd (Xg (PW.pt (UR (ZC YV (Zn YY (pv 4) Ze) Ze (ZF _)) (WZ (ZC ZaD (pv 6) (Zn UZ (pv 2) (pv 3)) rfl)))) (pv 6) (pv 5)) Za))
   case h8=>exact fun _=>rfl
   case h9=>exact Zv (WV (CompOk.of nSe s_l_settings rfl rfl (by decide +kernel)) rfl (ZfY (pv 3))  (fun _ _ _ _ _=>Yl (Zd (pv 7) (Zd (ZJ (Zfp (K:=K) rfl) (Zy (Zd YM (Zd (ZG DV hr (Zd (pv 0) Za)) Za))) (ZG DT hr1 (Zd (pv 0) (Zd Ze Za))) (fun _ _=>rfl)) Za))))
 refine ⟨_,rfl,_,rfl,p,n,many,_,rfl,S,by omega,by omega,by omega,fun nl H1 xs S1 hxl hok h2 hnd=>?_⟩
 refine ⟨(by show 0≤sizeLine;decide),fun fl hfl=>?_⟩
 generalize hE:upd H1 fl _=H2
 have S2:=S1.newE hfl hE
 clear hE
 refine ⟨_,_,rfl,?_⟩
 refine ⟨_,rfl,nl,_,rfl,S2.get nl,?_⟩
 refine ZdB (K:=K) (xs:=xs.map V.str) (fun i σ H'=>∃ x4 x5 x6 ys,σ=[some (.ref p),some (.int many),some (.ref nl),some (.ref fl),x4,x5,x6]∧Sep ((fl,ZN (ys.map V.str))::(nl,ZN (xs.map V.str))::(p,Bx (n+20))::Δ) H'∧ys.length=i∧ys.Nodup∧∀ y∈ys,y∈xs.take i∨y ∉ xs) ⟨_,_,_,[],rfl,S2,rfl,List.nodup_nil,fun y hy=>nomatch hy⟩ ?_ ?_ ?_
 · rintro i σ H' _ ⟨x4,x5,x6,ys,rfl,S',_⟩
   exact SqL.of (S'.get nl)
 · rintro i v t σ H3 hv ht ⟨x4,x5,x6,ys,rfl,S3,hyl,hyn,hyt⟩
   rw [List.getElem?_map] at hv
   obtain ⟨x,hx,rfl⟩:=Option.map_eq_some_iff.mp hv
   have hi:=(List.getElem?_eq_some_iff.mp hx).1
   refine ⟨t,_,rfl,SqT.of Zf,rfl,_,_,rfl,_,_,rfl,rfl,?_⟩
   generalize hE:upd H3 t _=H4
   have S4:=(S3.newE ht hE).tail
   clear hE
   obtain ⟨b,hb,eb⟩:=Zfk hi
   refine ⟨_,rfl,_,rfl,_,_,rfl,rfl,nl,_,_,_,rfl,rfl,SqL.of (S4.get nl),eb,b,rfl,hok b hb,h2 b hb,fun own _ _=>?_⟩
   have hxt:x∈xs.take (i+1):=List.mem_of_getElem? (i:=i) (by rw [List.getElem?_take,if_pos (Nat.lt_succ_self _)];exact hx)
   have hxy:x ∉ ys:=fun z=>by
     rcases hyt x z with y | y
     · obtain ⟨j,hj⟩:=List.mem_iff_getElem?.mp y
       rw [List.getElem?_take] at hj
       split at hj
       · rename_i hji
         have hj1:=(List.getElem?_eq_some_iff.mp hj).1
         exact absurd (UN (l:=xs) (i:=j) (j:=i) (hi:=hj1) (hj:=hi) hnd (by rw [(List.getElem?_eq_some_iff.mp hj).2,(List.getElem?_eq_some_iff.mp hx).2])) (by omega)
       · cases hj
     · exact y (List.mem_of_getElem? hx)
   have fin:∀ (z:Str) (H5:Hp),Sep ((fl,ZN (ys.map V.str))::(nl,ZN (xs.map V.str))::(p,Bx (n+20))::Δ) H5→z ∉ ys→(z∈xs.take (i+1)∨z ∉ xs)→H5 fl=some (.lst (ys.map V.str))∧(ys.map V.str).length < sizeLine∧∃ (x4 x5 x6:Option V) (ys':List Str),[some (V.ref p),some (V.int many),some (V.ref nl),some (V.ref fl),some (V.int (i:Int)),some (V.str x),some (V.str own)]=[some (V.ref p),some (V.int many),some (V.ref nl),some (V.ref fl),x4,x5,x6]∧Sep ((fl,ZN (ys'.map V.str))::(nl,ZN (xs.map V.str))::(p,Bx (n+20))::Δ) (upd H5 fl (.lst (ys.map V.str++[V.str z])))∧ys'.length=i+1∧ys'.Nodup∧∀ y∈ys',y∈xs.take (i+1)∨y ∉ xs:=fun z H5 S5 hz hzt=>by
     refine ⟨S5.get fl,Wa (show _≤1000 by rw [List.length_map];omega),_,_,_,ys++[z],rfl,?_,by rw [List.length_append,hyl];rfl,?_,?_⟩
     · rw [List.map_append];exact S5.put fl _
     · exact List.nodup_append.mpr ⟨hyn,List.nodup_cons.mpr ⟨by simp,List.nodup_nil⟩,fun a ha b hb e=>hz (by rw [← List.mem_singleton.mp hb,← e];exact ha)⟩
     · intro y hy
       rcases List.mem_append.mp hy with w | w
       · rcases hyt y w with u | u
         · exact .inl (List.take_subset_take_left xs (Nat.le_succ i) u)
         · exact .inr u
       · rw [List.mem_singleton.mp w];exact hzt
   refine ⟨_,rfl,.inl ⟨rfl,_,SqL.of (S4.get fl)⟩,?_⟩
   refine ⟨_,rfl,_,_,rfl,rfl,(show (0:Int) < 3 by decide),rfl,_,rfl,?_⟩
   show if decide (V.int ((i:Int) % 3)=V.int 2)=true then _ else _
   by_cases h3:V.int ((i:Int) % 3)=V.int 2
   · rw [decide_eq_true h3]
     refine Yc ⟨_,rfl,_,rfl,_,rfl,nl,fl,_,_,rfl,rfl,S4.get nl,S4.get fl,Yv (show _≤1000 by rw [List.length_map,List.length_map];omega),fun c hc=>?_⟩
     generalize hE:upd H4 c _=H5
     have S5:=S4.newE hc hE
     have ec:H5 c=some (.lst (xs.map V.str++ys.map V.str)):=S5.get c
     clear hE
     rw [← List.map_append] at ec
     refine ⟨c,_,rfl,.inl (SqL.of ec),rfl,WS _,_,rfl,?_⟩
     show if (!inV (.str own) ((xs++ys).map V.str))=true then _ else _
     rw [Vm]
     by_cases ho:own∈xs++ys
     · rw [decide_eq_true ho]
       exact ZV ⟨_,rfl,fl,_,_,rfl,rfl,fin x H5 S5.tail hxy (.inl hxt)⟩
     · rw [decide_eq_false ho]
       exact Yc ⟨_,rfl,fl,_,_,rfl,rfl,fin own H5 S5.tail (fun z=>ho (List.mem_append_right _ z)) (.inr fun z=>ho (List.mem_append_left _ z))⟩
   · rw [decide_eq_false h3]
     exact ZV ⟨_,rfl,fl,_,_,rfl,rfl,fin x H4 S4 hxy (.inl hxt)⟩
 · rintro σ H3 ⟨x4,x5,x6,ys,rfl,S3,hyl,hyn,hyt⟩
   rw [List.length_map] at hyl
   refine ⟨_,rfl,fl,rfl,⟨_,SqL.of (S3.get fl)⟩,fun D hD=>?_⟩
   refine Zdm (K:=K) (xs:=ys.map V.str) (Yv (show _≤1000 by rw [List.length_map];omega)) (fun i vs H'=>∃ (ts:List Addr) (qs:List (Str×V)),vs=ts.map V.ref∧Sep ((D,PLt ts qs)::(p,Bx (n+20+51 * i))::(fl,ZN (ys.map V.str))::(nl,ZN (xs.map V.str))::Δ) H'∧ts.length=i∧qs.map (·.1)=ys.take i) ⟨[],[],rfl,?_,rfl,rfl⟩ ?_ ?_ ?_
   · have S4:=((S3.new hD (.lst [])).say D (PLt [] []) fun h z=>⟨z,rfl,fun i a p e=>by simp at e⟩).pull p
     exact S4.pull D
   · rintro i vs H' ⟨ts,qs,rfl,S4,hl,_⟩
     exact ⟨by rw [List.length_map,hl],SqL.of (S4.get fl)⟩
   · rintro i vv vs H' hvv ⟨ts,qs,rfl,S4,hl,hq⟩
     rw [List.getElem?_map] at hvv
     obtain ⟨y,hy,rfl⟩:=Option.map_eq_some_iff.mp hvv
     have hiy:=(List.getElem?_eq_some_iff.mp hy).1
     refine ⟨_,rfl,_,rfl,p,_,_,rfl,S4.pull p,by omega,fun v H5 hv S5=>⟨(by show 2≤sizeLine;decide),fun c hc=>?_⟩⟩
     generalize hE:upd H5 c _=H6
     have S6:=S5.newE hc hE
     clear hE
     refine ⟨_,rfl,p,_,2,_,rfl,S6.pull p,by omega,by decide,by decide,fun r H7 a0 a1 S7=>?_⟩
     obtain ⟨u,hu⟩:∃ u,Yg [V.non,v] r=some u:=by
       obtain ⟨u,hu,_⟩:=Uc (xs:=[V.non,v]) a0 (by show r < 2;exact a1)
       exact ⟨u,hu⟩
     refine ⟨c,_,_,u,rfl,rfl,SqL.of (S7.get c),hu,(by show 2≤sizeLine;decide),fun t ht=>?_⟩
     generalize hE:upd H7 t _=H8
     have S8:=S7.newE ht hE
     clear hE
     have et:H8 t=some (.tup [.str y,u]):=S8.get t
     obtain ⟨eD,pt⟩:=S8.get D
     have S9:=(S8.say D (ZN (ts.map V.ref)) fun h z=>z.1).put D (.lst (ts.map V.ref++[.ref t]))
     have tD:t≠D:=fun z=>by rw [z,eD] at et;cases et
     have pt9:PairT (upd H8 D (.lst (ts.map V.ref++[.ref t]))) (ts++[t]) (qs++[(y,u)]):=by
       refine ⟨by rw [List.length_append,List.length_append,pt.1];rfl,fun j a z e1 e2=>?_⟩
       by_cases hj:j < ts.length
       · rw [List.getElem?_append_left hj] at e1
         rw [List.getElem?_append_left (by rw [← pt.1];exact hj)] at e2
         have w:=pt.2 j a z e1 e2
         rw [Zb (fun y=>by rw [y,eD] at w;cases w)];exact w
       · rw [List.getElem?_append_right (by omega)] at e1
         rw [List.getElem?_append_right (by rw [← pt.1];omega),← pt.1] at e2
         have:j - ts.length=0:=by
           cases w:j - ts.length with
           | zero=>rfl
           | succ m=>rw [w] at e1;cases e1
         rw [this] at e1 e2
         cases e1;cases e2
         rw [Zb tD];exact et
     refine ⟨eD,ts++[t],qs++[(y,u)],by rw [List.map_append];rfl,?_,by rw [List.length_append,hl];rfl,?_⟩
     · have S10:Sep ((D,PLt (ts++[t]) (qs++[(y,u)]))::_) _:=S9.im fun g e _ im=>⟨by rw [List.map_append];exact e,pt9.1,fun i a z e1 e2=>im _ _ (pt9.2 i a z e1 e2) rfl⟩
       have S11:=(((S10.drop t).drop c).pull p).le (show _≤n+20+51 * (i+1) by omega)
       exact S11.pull D
     · rw [List.map_append,hq,List.take_succ,hy];rfl
   · rintro vs H' ⟨ts,qs,rfl,S4,hl,hq⟩
     rw [List.length_map] at hl hq S4
     rw [List.take_length] at hq
     have S5:=(S4.say D (PLs qs) fun h z=>⟨ts,z.1,z.2⟩).drop fl |>.drop nl
     refine q D H' qs ?_ ?_ (by rw [hq];exact hyn)
     · exact ((S5.pull p).le (show _≤n+10000 by omega)).pull D
     · have:=congrArg List.length hq
       rw [List.length_map] at this
       omega
end
end K45
set_option maxHeartbeats 4000000
namespace K45
open PySem L2
end K45
set_option maxHeartbeats 4000000
namespace K45
open PySem L2
abbrev ZfN (P:Program)(w:World)(K:PySem.W.Frag)(mg:Str→Option Value)(base:Heap):Prop:=Def P w K mg base 1 "_law_take" ["_law_box_here","_law_many"] (UK 4611686018427387904)
section
variable {P:Program}{w:World}{K:PySem.W.Frag}{mg:Str→Option Value}{base:Heap}
abbrev vSigns:Str:=Zfw (Xt s_l_value)
theorem vs_len:vSigns.length=94:=by decide +kernel
theorem ZgZ:vSigns.cps.toList.all VQ=true:=by decide +kernel
abbrev nVv:List Str:=["_law_box_here","_law_way","_law_signs"]
theorem scVal:Zs nVv ["_law_box_here"] (Zj s_l_value):=⟨rfl,rfl,rfl,by decide +kernel,rfl,by decide +kernel,by decide +kernel⟩
theorem ZeD {f:Addr}{fd:FuncData}(F:Fun K "_law_value" "_law_value" s_l_value f fd)(T:Txt K mg)(D:ZfN P w K mg base):FnOk P w K mg base ZU 2 f fd ["_law_box_here"] ZbQ:=by
 refine F.ok scVal (fun vs H Q E h=>?_) (fun cdv A outer s H vs Q E hr h=>?_)
 · obtain ⟨p,n,rfl,_⟩:=h;rfl
 obtain ⟨p,n,rfl,hB,hn,q⟩:=h
 refine ⟨_,Zg (ZA (i:=1) scVal.nd rfl (Or.inl rfl) (ZG D hr (Zd (pv 0) (Zd Ze Za))))
   (Zg (Yb (ZC WX (pv 1) Ze (ZF _)) (Zi (Zv (Zn Xb (ZG D hr (Zd (pv 0) (Zd Ze Za))) Ze))) ZH)
   (Zg (Yb (ZC YV (pv 1) Ze (ZF _)) (Zi (Zv (ZJ ZL (Zy (YJ (Zn Xb (Zn UQ Ze Ze) Ze) (YJ (Zn Xb Ze (Zn UQ Ze Ze)) (YJ (Zn UQ Ze Ze) (YJ Ze Za rfl) rfl) rfl) rfl)) (ZG D hr (Zd (pv 0) (Zd Ze Za))) (fun _ _=>rfl)))) ZH)
   (Zg (Yb (ZC YV (pv 1) Ze (ZF _)) (Zi (Zv (ZJ ZL (Zy (YJ ZE (YJ ZE (YJ ZE (YJ ZE (YJ ZE (YJ ZE (YJ ZE (YJ ZE Za rfl) rfl) rfl) rfl) rfl) rfl) rfl) rfl)) (ZG D hr (Zd (pv 0) (Zd Ze Za))) (fun _ _=>rfl)))) ZH)
   (Zg (ZA (i:=2) scVal.nd rfl (Or.inr rfl) ZE)
   (Zi (Zv (Xp PySem.F.plainAttrs_str PySem.F.slot_str_join PySem.F.type_str_join ZbY ZE (Zd (WV (CompOk.of nVv s_l_value rfl rfl (by decide +kernel)) rfl
     (YR rfl T.range (Zd (ZG D hr (Zd (pv 0) (Zd (Xg (ZC YV (pv 1) Ze (ZF _)) Ze Ze) Za))) Za))
     (fun _ _ _ _ _=>ZJ Xl (pv 2) (ZG D hr (Zd (pv 0) (Zd (Zl (ZdZ (K:=K) rfl) rfl T.len PySem.boot_len (Zd (pv 2) Za)) Za))) (fun _ _=>rfl))) Za)))))))),?_⟩
 refine ⟨_,rfl,p,n,6,rfl,hB,by omega,by decide,by decide,fun r1 H1 a0 a1 B1 k1=>?_⟩
 refine ⟨_,rfl,_,_,rfl,rfl,_,rfl,Wp (fun c=>?_) (fun c=>?_)⟩
 · refine ⟨_,rfl,p,n+1,7,rfl,B1,by omega,by decide,by decide,fun r2 H2 b0 b1 B2 k2=>⟨_,_,rfl,rfl,?_⟩⟩
   exact q _ _ (by show (r2 - 3).natAbs < 10 ^ 30;omega) (B2.le (by omega)) (k1.trans k2)
 refine ⟨_,rfl,rfl,_,rfl,Wp (fun c2=>?_) (fun c2=>?_)⟩
 · refine ⟨_,_,rfl,rfl,⟨by decide,by decide,by decide⟩,_,_,rfl,rfl,_,_,rfl,rfl,⟨by decide,by decide,by decide⟩,_,_,rfl,rfl,_,_,rfl,rfl,⟨by decide,by decide,by decide⟩,(by show 4≤sizeLine;decide),fun l hl=>?_⟩
   have hne:l≠p:=fun e=>by obtain ⟨_,_,_,z,_⟩:=B1;rw [e,z] at hl;cases hl
   refine ⟨_,rfl,p,n+1,4,rfl,B1.same (Zk hl _),by omega,by decide,by decide,fun r2 H2 b0 b1 B2 k2=>?_⟩
   obtain ⟨v,hv,hm⟩:=Uc (xs:=([.int (10 ^ (30:Int).toNat - 1),.int (1 - 10 ^ (30:Int).toNat),.int (10 ^ (29:Int).toNat),.int 0]:List V)) b0 b1
   refine ⟨l,_,_,v,rfl,rfl,SqL.of (k2 l _ hne Zf),hv,q _ _ ?_ (B2.le (by omega)) (k1.trans ((Zk hl _).kp p |>.trans k2))⟩
   have all:(([.int (10 ^ (30:Int).toNat - 1),.int (1 - 10 ^ (30:Int).toNat),.int (10 ^ (29:Int).toNat),.int 0]:List V)).all Zcj=true:=by decide +kernel
   exact ZaR (List.all_eq_true.mp all v hm)
 refine ⟨_,rfl,rfl,_,rfl,Wp (fun c3=>?_) (fun c3=>?_)⟩
 · refine ⟨(by show 8≤sizeLine;decide),fun l hl=>?_⟩
   have hne:l≠p:=fun e=>by obtain ⟨_,_,_,z,_⟩:=B1;rw [e,z] at hl;cases hl
   refine ⟨_,rfl,p,n+1,8,rfl,B1.same (Zk hl _),by omega,by decide,by decide,fun r2 H2 b0 b1 B2 k2=>?_⟩
   obtain ⟨v,hv,hm⟩:=Uc (xs:=([.str "",.str "0",.str "-1",.str "a",.str "none",.str "'",.str "\\", .str " "]:List V)) b0 b1
   refine ⟨l,_,_,v,rfl,rfl,SqL.of (k2 l _ hne Zf),hv,q _ _ ?_ (B2.le (by omega)) (k1.trans ((Zk hl _).kp p |>.trans k2))⟩
   have all:(([.str "",.str "0",.str "-1",.str "a",.str "none",.str "'",.str "\\", .str " "]:List V)).all Zcj=true:=by decide +kernel
   exact ZaR (List.all_eq_true.mp all v hm)
 refine ⟨rfl,?_⟩
 have fin:∀ (r2:Int) (H2:Hp),0≤r2→r2 < 41→BoxAt H2 p (n+2)→Kp p H1 H2→∃ j:Int,[V.int r2]=[.int j]∧-(2 ^ 62)≤j∧j < 2 ^ 62∧∀ D,H2 D=none→CompW (Vf 0 j.toNat)
     (tOp rIxS (Zbj 2) (ZcB (UK 4611686018427387904) [] E0 (Xa (Zbj 0) (Xa (tCB (fun xs H Q=>∃ x n,xs=[x]∧Zel K x H n∧Q (.int n) H) (Xa (Zbj 2) XU)) XU))))
     [some (.ref p),some (.int r1),some (.str vSigns)] D (fun x H3=>∃ sep a ys,V.str ""=.str sep∧[x]=[.ref a]∧SqL K H3 a (ys.map V.str)∧(ys.map (·.length)).sum+ys.length * sep.length≤16777216∧Q (.str (Txt.join sep ys)) H3) H2:=by
   intro r2 H2 b0 b1 B2 k2
   refine ⟨r2,rfl,by omega,by omega,fun Dl hD=>?_⟩
   have hne:Dl≠p:=fun e=>by obtain ⟨_,_,_,z,_⟩:=B2;rw [e,z] at hD;cases hD
   refine Zco (Nat.le_trans (show r2.toNat≤1000 by omega) (len1 (Nat.le_refl _)))
     (fun i ys H'=>∃ zs:List Str,ys=zs.map V.str∧zs.length=i∧(∀ z∈zs,∃ c,z=⟨#[c]⟩∧VQ c=true)∧H' Dl=some (.lst ys)∧BoxAt H' p (n+2+i)∧Kp p H1 H'∧i≤r2.toNat)
     ⟨[],rfl,rfl,(fun _ h=>nomatch h),Zf,B2.same (Zk hD _),k2.trans ((Zk hD _).kp p),Nat.zero_le _⟩ ?_ ?_ ?_
   · rintro i ys H' ⟨zs,rfl,hz,_⟩;rw [List.length_map];exact hz
   · rintro i ys H' hi ⟨zs,rfl,hz,hall,hDl,B',k',_⟩
     refine ⟨_,rfl,_,rfl,_,rfl,_,94,rfl,⟨by rw [vs_len];decide,vs_len.symm⟩,p,n+2+i,94,rfl,B',by omega,by decide,by decide,fun r3 H3 d0 d1 B3 k3=>?_⟩
     have hl:vSigns.cps.toList.length=94:=by rw [← ZT];exact vs_len
     obtain ⟨c,hc,hm⟩:=Uc (xs:=vSigns.cps.toList) d0 (by rw [hl];exact d1)
     refine ⟨vSigns,r3,c,rfl,rfl,(by rw [vs_len];decide),hc,k3 Dl _ hne hDl,zs++[⟨#[c]⟩],by rw [List.map_append];rfl,by rw [List.length_append,hz];rfl,?_,Zf,?_,fun b o nb e=>?_,hi⟩
     · intro z hz'
       rcases List.mem_append.mp hz' with h | h
       · exact hall z h
       · rw [List.mem_singleton.mp h];exact ⟨c,rfl,List.all_eq_true.mp ZgZ c hm⟩
     · obtain ⟨x1,x2,x3,x4,x5⟩:=B3
       exact ⟨x1,x2,x3,by rw [Zb hne.symm];exact x4,x5⟩
     · rw [Zb (Zq (k2 b o nb e) hD)];exact k3 b o nb (k' b o nb e)
   · rintro ys H' ⟨zs,rfl,hz,hall,hDl,B',k',_⟩
     have ones:∀ l:List Str,(∀ z∈l,∃ c,z=⟨#[c]⟩∧VQ c=true)→(l.map (·.length)).sum=l.length∧(l.flatMap (·.cps.toList)).length=l.length∧(l.flatMap (·.cps.toList)).all VQ=true:=by
       intro l
       induction l with
       | nil=>intro _;exact ⟨rfl,rfl,rfl⟩
       | cons z r ih =>
         intro h
         obtain ⟨c,rfl,hc⟩:=h z List.mem_cons_self
         obtain ⟨g1,g2,g3⟩:=ih fun y hy=>h y (List.mem_cons_of_mem _ hy)
         refine ⟨?_,?_,?_⟩
         · rw [List.map_cons,List.sum_cons,g1,List.length_cons];show 1+_=_;omega
         · have e0:((⟨#[c]⟩:Str)::r).flatMap (·.cps.toList)=c::r.flatMap (·.cps.toList):=rfl
           rw [e0,List.length_cons,List.length_cons,g2]
         · rw [List.flatMap_cons,List.all_append,g3];simp [hc]
     obtain ⟨g1,g2,g3⟩:=ones zs hall
     refine ⟨_,Dl,zs,rfl,rfl,SqL.of hDl,?_,q _ _ ⟨?_,?_⟩ (B'.le (by omega)) (k1.trans k')⟩
     · rw [g1];show _+_ * 0≤_;omega
     · rw [ZT];show (Txt.join (Str.ofString "") zs).cps.toList.length≤40;rw [Xr,g2];omega
     · show (Txt.join (Str.ofString "") zs).cps.toList.all VQ=true;rw [Xr];exact g3
 refine ⟨_,rfl,_,rfl,rfl,_,rfl,Wp (fun c4=>?_) (fun c4=>?_)⟩
 · exact ⟨p,n+1,4,rfl,B1,by omega,by decide,by decide,fun r2 H2 b0 b1 B2 k2=>fin r2 H2 b0 (by omega) B2 k2⟩
 · exact ⟨p,n+1,41,rfl,B1,by omega,by decide,by decide,fun r2 H2 b0 b1 B2 k2=>fin r2 H2 b0 (by omega) B2 k2⟩
end
end K45
set_option maxHeartbeats 2000000
namespace L2
open PySem
theorem Zdp {o:Obj}{d:Addr}{kvs:List (Zo×V)}{te:TE}{σ:St}{D:Addr}{Q:VK}{H:Hp}(hn:kvs.length≤sizeLine)(Pv:Nat→List V→Hp→Prop)(h0:Pv 0 [] (upd H D (.lst [])))
   (hl:∀ i ys H,Pv i ys H→ys.length≤i∧H d=some (.frz o (.dK kvs)))
   (hs:∀ i p ys H,kvs[i]?=some p→Pv i ys H→te (σ++[some (kV p.1)]) H fun y H4=>H4 D=some (.lst ys)∧Pv (i+1) (ys++[y]) (upd H4 D (.lst (ys++[y])))) (hd:∀ ys H,Pv kvs.length ys H→Q (.ref D) H):CompW (Itd o d kvs) te σ D Q H:=by
 refine ⟨fun i m ys H=>m=kvs.length - i∧i≤kvs.length∧Pv i ys H,⟨kvs.length,by simp,Nat.zero_le _,h0⟩,?_⟩
 rintro i m ys H2 ⟨rfl,hi,p⟩
 obtain ⟨hlen,q⟩:=hl i ys _ p
 by_cases hlt:i < kvs.length
 · refine .inr ⟨⟨q,hlt⟩,_,fun y H4 (q:H4 D=some (.lst ys)∧Pv (i+1) (ys++[y]) (upd H4 D (.lst (ys++[y]))))=>⟨q.1,by omega,kvs.length - (i+1),by omega,rfl,hlt,q.2⟩,fun v H3 y=>?_⟩
   obtain ⟨e,pp,hp,ev⟩:=y
   subst e ev
   exact hs i pp ys _ hp p
 · have e:i=kvs.length:=by omega
   subst e
   exact .inl ⟨⟨q,Nat.le_refl _⟩,hd ys H2 p⟩
section
variable {d:Addr}{o:Obj}{kvs:List (Zo×V)}{Δ Δ':Rs}{H H':Hp}
theorem Fz.new (F:Fz d o kvs Δ H){p:Addr}(hp:H p=none)(u:HO):Fz d o kvs ((p,Pt u)::Δ) (upd H p u):=by
 have hd:d≠p:=fun z=>by have:=F.at;rw [z,hp] at this;cases this
 refine F.go (by rw [Zb hd];exact F.at) fun H1 H2 h1 h2 e1 e2 S=>?_
 have hp1:H1 p=none:=by rw [h1 p hd.symm];exact hp
 have e:H2=upd H1 p u:=by
   funext b
   by_cases hb:b=d
   · rw [hb,e2,Zb hd,e1]
   · rw [h2 b hb]
     by_cases hbp:b=p
     · rw [hbp,Zf,Zf]
     · rw [Zb hbp,Zb hbp,h1 b hb]
 rw [e];exact (S.new hp1 u).swap
theorem Fz.put {u:HO}(F:Fz d o kvs Δ H)(a:Addr)(u':HO)[P:Pull a Δ (Pt u) Δ'](m:YB u=true:=by rfl):Fz d o kvs ((a,Pt u')::Δ') (upd H a u'):=by
 obtain ⟨H1,rfl,S⟩:=F
 have S1:Sep ((a,Pt u)::(d,Wf kvs)::Δ') H1:=by
   obtain ⟨h,l,r,S⟩:=S
   exact Sep.swap ⟨h,l,r,P.out S⟩
 have hd:d≠a:=fun z=>by
   obtain ⟨h,l,r,S⟩:=S1
   obtain ⟨h2,l2,r2,_⟩:=S
   have:=(cut_some.mp (l2 _ _ r2)).2 u (by rw [z];exact r)
   rw [m] at this;cases this
 refine ⟨upd H1 a u',?_,(S1.put a u' m).swap⟩
 funext b
 by_cases hb:b=d
 · rw [hb,Zb hd,Zf,Zf]
 · by_cases hba:b=a
   · rw [hba,Zf,Zb hd.symm,Zf]
   · rw [Zb hba,Zb hb,Zb hb,Zb hba]
end
end L2
namespace L2
open PySem PySem.Spec PyProof.Rows
section
variable {P:Program}{w:World}{K:PySem.W.Frag}{mg:Str→Option Value}{base:Heap}{k:Nat}{f:Addr}{fd:FuncData}{ps:List Str}{sp sp':Sp}
theorem FnOk.low (F:FnOk P w K mg base (WR P w base) k f fd ps sp)(h:∀ vs H Q E,sp' vs H Q E→sp vs H Q (fun _ _ _=>False)):FnOk P w K mg base ZU k f fd ps sp' :=
 ⟨fun vs H Q E z=>F.len vs H Q _ (h vs H Q E z),fun A outer s H args us vs Q E hr e b v q=>codeAny_mono (F.run A outer s H args us vs Q _ hr e b v (h vs H Q E q)) fun r s' z=>by
   cases r with
   | error e=>obtain ⟨_,_,_,_,_,_,_,_,_,_,_,_,z⟩:=z;exact z.elim
   | ok fl=>cases fl<;>exact z⟩
end
end L2
set_option maxHeartbeats 4000000
namespace K45
open PySem L2
def ZeL (qs:List (Str×V))(j:Nat)(vs:List V)(ps:List (Int×V)):Prop:=j≤qs.length∧vs.length≤20∧(∀ v∈vs,v=.non∨∃ x,v=.str x)∧ps.Perm (Zz vs vs.length)
abbrev lwL (K:PySem.W.Frag)(CH CR CS CT CL p e h sl nl r:Addr)(n:Nat)(vs:List V)(qs:List (Str×V))(j:Nat)(ps:List (Int×V))(a:Addr)(ns:List Int):Rs:=UY K CH CR CS CT CL p e h sl nl r n vs { hs0 with dfs:=Xc (qs.take j) } qs ((qs.take j).map (·.1)) ps [(a,ScR K ns)]
theorem Zfj {qs:List (Str×V)}{j:Nat}(nd:(qs.map (·.1)).Nodup)(hj:j < qs.length):qs[j].1 ∉ (qs.take j).map (·.1):=fun z=>by
 rw [List.map_take] at z
 obtain ⟨i,hi,e⟩:=List.mem_take_iff_getElem.mp z
 have hl:(qs.map (·.1)).length=qs.length:=List.length_map ..
 have:=(List.pairwise_iff_getElem.mp nd) i j (by omega) (by omega) (by omega)
 exact this (e.trans (by rw [List.getElem_map]))
theorem Zhr {qs:List (Str×V)}{j:Nat}(x:Str):(ZB ({ hs0 with dfs:=Xc (qs.take j) }:Hs).dfs (Sum.inr x)).isSome=decide (x∈(qs.take j).map (·.1)):=by
 show (ZB (Xc (qs.take j)) (Sum.inr x)).isSome=_
 generalize qs.take j=rs
 by_cases h:x∈rs.map (·.1)
 · rw [decide_eq_true h,WU,Option.isSome_map]
   obtain ⟨p,hp,e⟩:=List.mem_map.mp h
   exact List.find?_isSome.mpr ⟨p,hp,decide_eq_true e⟩
 · rw [decide_eq_false h,Zbk h];rfl
theorem ZeE (vs:List V):(Zz vs vs.length).length≤vs.length:=by
 unfold Zz
 rw [List.length_map]
 exact Nat.le_trans (List.length_filter_le _ _) (by rw [List.length_range];exact Nat.le_refl _)
theorem ZgP {vs vs2:List V}{ps:List (Int×V)}{M:Int}(hp:ps.Perm (Zz vs2 vs2.length))(hg:vs2.length=vs.length∨∃ x,vs2=vs++[.str x])(hM:M∈(vs.length:Int)::ps.map (fun q=>q.1+1))(h:∀ i∈(vs.length:Int)::ps.map (fun q=>q.1+1),i≤M):M=(vs2.length:Int):=by
 have h1:M≤vs2.length:=by
   rcases List.mem_cons.mp hM with z | z
   · rcases hg with w | ⟨x,w⟩
     · omega
     · rw [w,List.length_append];simp;omega
   · obtain ⟨q,hq,rfl⟩:=List.mem_map.mp z
     obtain ⟨j,hj,rfl,_⟩:=UG (hp.mem_iff.mp hq)
     show (j:Int)+1≤_
     omega
 have h2:(vs2.length:Int)≤M:=by
   rcases hg with w | ⟨x,w⟩
   · have:=h _ List.mem_cons_self;omega
   · have hm:((vs.length:Int),V.str x)∈ps:=hp.mem_iff.mpr (by rw [w,ZaO];simp)
     have:=h _ (List.mem_cons_of_mem _ (List.mem_map.mpr ⟨_,hm,rfl⟩))
     rw [w,List.length_append];simp at this ⊢;omega
 omega
section
variable {P:Program}{w:World}{K:PySem.W.Frag}{mg:Str→Option Value}{base:Heap}{CH CR CS CT CL:Addr}
def Zak (K:PySem.W.Frag):Sp:=fun vs H Q _=>∃(a:Addr)(ns:List Int),vs=[.ref a]∧SqL K H a (ns.map V.int)∧ns.length≤63∧∀ H',Q (.bl true) H'
def Zbn (K:PySem.W.Frag)(CH CR CS CT:Addr):Sp:=fun vs H Q _=>∃(h:Addr)(s:Hs)(qs:List (Str×V))(x:Str)(v:V)(Δ:Rs),vs=[.ref h,.str x,v]∧Sep ((h,Xm K CH CR CS CT s)::Δ) H∧s.dfs=Xc qs∧qs.length≤1000∧x ∉ qs.map (·.1)∧∀ H',Sep ((h,Xm K CH CR CS CT { s with dfs:=Xc (qs++[(x,v)]) })::Δ) H'→Q .non H'
theorem ZiJ {K:PySem.W.Frag}{CH CR CS CT CX:Addr}{vs:List V}{H:Hp}{Q:VK}{E E':XK}(z:Zbn K CH CR CS CT vs H Q E):ZfI K CH CR CS CT CX vs H Q E':=by
 obtain ⟨h,s,qs,x,v,Δ,rfl,S,hs,hl,hn,q⟩:=z
 exact ⟨h,s,qs,x,v,Δ,rfl,S,hs,hl,fun y=>absurd y hn,fun _=>q⟩
abbrev nLaw:List Str:=["_law_script","_law_box_here","_law_settings_here","_law_hall","_law_names_here","_law_rows","_law_made","_law_eye","_law_cells","_law_k","_law_turn","_law_name","_law_default"]
abbrev ZfE:List Str:=["_law_script"]
theorem scLaw:Zs nLaw ZfE (Zj s_law):=⟨rfl,rfl,rfl,by decide +kernel,rfl,by decide +kernel,by decide +kernel⟩
theorem Zil {f:Addr}{fd:FuncData}(F:Fun K "law" "law" s_law f fd)(T:Ye mg)(TH:Vx K CH)(DT:DTk P w K mg base 1)(DB:Def P w K mg base 17 "_law_box" ["_law_script","_law_k"] (Zbf K))(DSe:Def P w K mg base 17 "_law_settings" ZeM spSe)(DHl:WJ P w K mg base 16 CH "Hall" ["self"] (ZbW K CH CR CS CT))(DLo:WJ P w K mg base 16 CL "Lookout" Zcq (ZbN CL))
   (DH_declare:DefM P w K mg base 17 CH "declare" Zao (Zbn K CH CR CS CT)) (DWr:Def P w K mg base 17 "_law_watch_right" ZeK (spWr K CH CR CS CT CL)) (DRw:Def P w K mg base 17 "_law_rows_right" Zer (spRw CL)):FnOk P w K mg base ZU 18 f fd ZfE (Zak K):=by
 refine F.ok scLaw (fun vs H Q E h=>?_) (fun cdv A outer s H vs Q E hr h=>?_)
 · obtain ⟨a,ns,rfl,_⟩:=h;rfl
 obtain ⟨a,ns,rfl,hS,hl,q⟩:=h
 have hr1:=hr.mono (show 1≤17 by decide)
 refine' ⟨?t,?h,?r⟩
 case h =>
   conv=>arg 2;whnf
   with_reducible refine' (Zg ?h1 (Zg ?h2 (Zg ?h3 (Zg ?h4 (Zg (WC ?h5 ?h6 ?h7 ?h8 (Xe ?h9 (Zi (WC ?h10 ?h11 ?h12 ?h13 (Xe (Yb ?h14 (Zg ?h15 (Zg ?h16 (Zi ?h17))) ZH) (Zg (Yb ?h18 (Zi ?h19) ZH) (Xe ?h20 (Zi (Yb ?h21 (Zi ?h22) ZH))))) ?h23))) ?h24) (Zi ?h25))))))
   case h1=>exact ZA (i:=1) scLaw.nd rfl (Or.inl rfl) (ZG DB hr (Zd (pv 0) (Zd Ze Za)))
   case h2=>exact ZA (i:=2) scLaw.nd rfl (Or.inl rfl) (ZG DSe hr (Zd (pv 1) (Zd (Zn Yp Ze (ZG DT hr1 (Zd (pv 1) (Zd (ZJ ZL (Zy (Zd Ze (Zd Ze Za))) (Zn ZbJ (ZG DT hr1 (Zd (pv 1) (Zd Ze Za))) Ze) (fun _ _=>rfl)) Za)))) Za)))
   case h3=>exact Xk (Yl (Zd (Zae DHl hr) (Zd (Zy Za) (Zd Zbh (Zd Ze Za))))) (XD rfl (ZM (Zx (i:=3) scLaw.nd rfl (Or.inl rfl)) (ZM (Zx (i:=4) scLaw.nd rfl (Or.inl rfl)) (ZM (Zx (i:=5) scLaw.nd rfl (Or.inl rfl)) (ZM (Zx (i:=6) scLaw.nd rfl (Or.inl rfl)) Xf)))))
   case h4=>exact Zav (i:=7) (j:=8) rfl scLaw.nd rfl rfl (by decide) rfl rfl (Zd (pe_i DLo hr (Zd (pv 3) Za)) (Zd (Zl (VP rfl) rfl T.max (by decide +kernel) (Zd Ze (Zd (Zl (ZdW rfl) rfl T.min (by decide +kernel) (Zd (Zl ZK rfl T.len PySem.boot_len (Zd (pv 0) Za)) (Zd Ze Za))) Za))) Za)) rfl
   case h5=>exact PassesOwn.never
   case h6=>exact rfl
   case h7=>exact YR rfl T.range (Zd (pv 8) Za)
   case h8=>exact Zx (i:=9) scLaw.nd rfl (Or.inl rfl)
   case h9=>exact ZA (i:=1) scLaw.nd rfl (Or.inl rfl) (Xg (ZC Zab (pv 9) Ze (ZF _)) (ZG DB hr (Zd (pv 0) (Zd (pv 9) Za))) (pv 1))
   case h10=>exact PassesOwn.never
   case h11=>exact rfl
   case h12=>exact YR rfl T.range (Zd (Zl (VP rfl) rfl T.max (by decide +kernel) (Zd Ze (Zd (Zn Zbd Ze (pv 8)) Za))) Za)
   case h13=>exact Zx (i:=10) scLaw.nd rfl (Or.inl rfl)
   case h14=>exact PW.pt (UR (ZC WX (Zl ZK rfl T.len PySem.boot_len (Zd (pv 4) Za)) (Zl ZK rfl T.len PySem.boot_len (Zd (pv 2) Za)) (ZF _)) (WZ (ZC YV (ZG DT hr1 (Zd (pv 1) (Zd Ze Za))) Ze (ZF _))))
   case h15=>exact Xk (ZJ ZL (pv 2) (Zl ZK rfl T.len PySem.boot_len (Zd (pv 4) Za)) (fun _ _=>rfl)) (XD rfl (ZM (Zx (i:=11) scLaw.nd rfl (Or.inl rfl)) (ZM (Zx (i:=12) scLaw.nd rfl (Or.inl rfl)) Xf)))
   case h16=>exact YH (pe_m DH_declare TH.cl hr (pv 3) (Zd (pv 11) (Zd (pv 12) Za)))
   case h17=>exact YH (Xp PySem.F.plainAttrs_list PySem.F.slot_list_append PySem.F.type_list_append YU (pv 4) (Zd (pv 11) Za))
   case h18=>exact WF (XA (ZG DWr hr (YJ (pv 1) (YJ (pv 7) (YJ (pv 2) (YJ (pv 4) (YJ (pv 5) (YJ (pv 6) Za rfl) rfl) rfl) rfl) rfl) rfl)))
   case h19=>exact Zv Wj
   case h20=>exact ZA (i:=6) scLaw.nd rfl (Or.inl rfl) (Zl (Zeb rfl) rfl T.max (by decide +kernel) (Zd (Zn UZ (Zy (Zd (pv 6) Za)) (Zgl (WV (CompOk.of nLaw s_law rfl rfl (by decide +kernel)) rfl (Zgz (pv 5))  (fun _ _ _ _ _=>Zn Yp (pv 13) Ze)))) Za))
   case h21=>exact WF (XA (ZG DRw hr (Zd (pv 7) (Zd (pv 5) Za))))
   case h22=>exact Zv Wj
   case h23=>exact fun _=>rfl
   case h24=>exact fun _=>rfl
   case h25=>exact Zv Wj
 have S:Sep [(a,ScR K ns)] H:=⟨H,fun _ _ e=>e,hS,trivial⟩
 refine ⟨_,rfl,a,ns,_,_,rfl,hS,S,by decide,by decide,fun p H1 s1 S1=>?_⟩
 refine ⟨_,rfl,_,rfl,(by show 2≤sizeLine;decide),fun c hc=>?_⟩
 generalize hE:upd H1 c _=H2
 have S2:=S1.newE hc hE
 clear hE
 refine ⟨_,rfl,p,_,8,_,rfl,S2.pull p,by decide,by decide,by decide,fun r0 H3 a0 a1 S3=>?_⟩
 obtain ⟨m,em,hm0,hm1⟩:∃ m:Int,Yg [V.int 9,V.int 60] (r0 / 7)=some (V.int m)∧9≤m∧m≤60:=by
   rcases (show r0 / 7=0∨r0 / 7=1 by omega) with z | z
   · rw [z];exact ⟨9,rfl,by decide,by decide⟩
   · rw [z];exact ⟨60,rfl,by decide,by decide⟩
 refine ⟨_,_,rfl,rfl,⟨by decide,by decide⟩,c,_,_,_,rfl,rfl,SqL.of (S3.get c),em,p,_,m,_,rfl,(S3.drop c).pull p,by omega,by omega,by omega,fun r1 H4 b0 b1 S4=>⟨_,_,rfl,rfl,?_⟩⟩
 refine ⟨p,_,_,_,rfl,S4,by omega,by omega,by omega,fun sl H5 qs S5 hql hqn=>?_⟩
 have hq0:qs≠[]:=fun z=>by rw [z] at hql;simp at hql;omega
 have hq1:qs.length≤60:=by omega
 intro h dx hh hdx hne
 refine ⟨h,dx,_,_,rfl,rfl,hh,hdx,hne,S5,fun H6 S6=>⟨rfl,(by show 0≤sizeLine;decide),fun nl hnl=>fun r hr'=>⟨(by show 4≤sizeLine;decide),fun t0 ht0=>?_⟩⟩⟩
 generalize hE:upd (upd (upd H6 nl _) r _) t0 _=H7
 have S7:=((S6.new hnl _).new hr' _).newE ht0 hE
 clear hE
 refine ⟨t0,_,rfl,SqT.of (S7.get t0),rfl,_,_,rfl,_,_,rfl,_,_,rfl,_,_,rfl,rfl,?_⟩
 have S8:=S7.drop t0
 refine ⟨_,rfl,fun e dx2 he hdx2 hne2=>⟨e,dx2,h,_,_,rfl,rfl,he,hdx2,hne2,S8,fun H9 S9=>⟨rfl,?_⟩⟩⟩
 refine ⟨_,rfl,a,_,rfl,.inl (S9.get a),_,_,rfl,_,_,rfl,_,_,rfl,?_⟩
 generalize hm2:(if (if (30:Int) < (((ns.map V.int).length:Nat):Int) then (30:Int) else (((ns.map V.int).length:Nat):Int)) > 1 then (if (30:Int) < (((ns.map V.int).length:Nat):Int) then (30:Int) else (((ns.map V.int).length:Nat):Int)) else 1)=cells
 have hc1:1≤cells∧cells≤30:=by rw [← hm2];split<;>split<;>omega
 clear hm2
 refine ⟨_,rfl,cells,rfl,by omega,by omega,?_⟩
 have S10:Sep (lwL K CH CR CS CT CL p e h sl nl r _ [] qs 0 [] a ns) H9:=(((((S9.pull r).pull nl).pull sl).pull h).pull e).pull p
 refine XQ (fun i σ H'=>∃ p n vs j ps x9 x10 x11 x12,σ=[some (.ref a),some (.ref p),some (.ref sl),some (.ref h),some (.ref nl),some (.ref r),some (.int (vs.length:Int)),some (.ref e),some (.int cells),x9,x10,x11,x12]∧n≤20000+2000 * i∧ZeL qs j vs ps∧Sep (lwL K CH CR CS CT CL p e h sl nl r n vs qs j ps a ns) H')
   ⟨p,_,[],0,[],_,_,_,_,rfl,by omega,⟨Nat.zero_le _,Nat.zero_le _,(fun _ h=>nomatch h),List.Perm.nil⟩,S10⟩ ?_ (fun σ H' _=>q H')
 clear S10 S9 S8 S7 S6 S5 S4 S3 S2 S1
 rintro i σ H1 hi ⟨p,n,vs,j,ps,x9,x10,x11,x12,rfl,hn,O,S1⟩
 refine ⟨fun σ' H'=>∃ p n,σ'=[some (.ref a),some (.ref p),some (.ref sl),some (.ref h),some (.ref nl),some (.ref r),some (.int (vs.length:Int)),some (.ref e),some (.int cells),some (.int (0+(i:Int))),x10,x11,x12]∧n≤20000+2000 * i∧Sep (lwL K CH CR CS CT CL p e h sl nl r n vs qs j ps a ns) H',?_,?_⟩
 · refine ⟨_,rfl,_,_,rfl,rfl,_,rfl,Wp (fun c=>?_) (fun c=>?_)⟩
   · exact ⟨_,rfl,_,rfl,a,ns,_,_,rfl,S1.get a,S1.drop p,by omega,by omega,fun p' H2 s2 S2=>⟨p',0,rfl,by omega,S2⟩⟩
   · exact ⟨_,rfl,p,n,rfl,hn,S1⟩
 clear S1 hn p n
 rintro σ H1 ⟨p,n,rfl,hn,S1⟩
 have hd24:24 / cells≤24:=Int.ediv_le_self _ (by decide)
 refine ⟨_,rfl,_,_,rfl,rfl,⟨by omega,by omega⟩,_,_,rfl,_,rfl,by split<;>omega,by split<;>omega,?_⟩
 generalize hmm:(if 24 / cells > 2 then 24 / cells else 2)=mm
 have hmm1:mm≤24:=by rw [← hmm];split<;>omega
 clear hmm
 refine XQ (fun t σ H'=>∃ n vs j ps x10 x11 x12,σ=[some (.ref a),some (.ref p),some (.ref sl),some (.ref h),some (.ref nl),some (.ref r),some (.int (vs.length:Int)),some (.ref e),some (.int cells),some (.int (0+(i:Int))),x10,x11,x12]∧n≤20000+2000 * i+62 * t∧ZeL qs j vs ps∧Sep (lwL K CH CR CS CT CL p e h sl nl r n vs qs j ps a ns) H')
   ⟨n,vs,j,ps,_,_,_,rfl,by omega,O,S1⟩ ?_ ?_
 rotate_left
 · rintro σ H2 ⟨n,vs,j,ps,x10,x11,x12,rfl,hn,O,S2⟩
   exact ⟨p,n,vs,j,ps,_,_,_,_,rfl,by omega,O,S2⟩
 clear S1 hn O n vs j ps
 rintro t σ H1 ht ⟨n,vs,j,ps,x10,x11,x12,rfl,hn,O,S1⟩
 refine ⟨fun σ' H'=>∃ n2 j x11 x12,σ'=[some (.ref a),some (.ref p),some (.ref sl),some (.ref h),some (.ref nl),some (.ref r),some (.int (vs.length:Int)),some (.ref e),some (.int cells),some (.int (0+(i:Int))),some (.int (0+(t:Int))),x11,x12]∧n2≤n+1∧ZeL qs j vs ps∧Sep (lwL K CH CR CS CT CL p e h sl nl r n2 vs qs j ps a ns) H',?_,?_⟩
 · obtain ⟨ts,et,pt⟩:=S1.get sl
   refine ⟨_,rfl,nl,_,rfl,.inl (SqL.of (S1.get nl)),_,rfl,sl,_,rfl,.inl (SqL.of et),_,_,rfl,rfl,_,rfl,Wp (fun c=>?_) (fun c=>?_)⟩
   · have hj:j < qs.length:=by
       have:=of_decide_eq_true c
       rw [List.length_map,List.length_map,List.length_map,List.length_take,pt.1] at this
       omega
     refine ⟨_,rfl,p,n,3,_,rfl,S1,by omega,by decide,by decide,fun r3 H2 c0 c1 S2=>⟨rfl,_,rfl,Wp (fun c3=>?_) (fun c3=>?_)⟩⟩
     · obtain ⟨ts2,et2,pt2⟩:=S2.get sl
       have hjt:j < ts2.length:=by rw [pt2.1];exact hj
       have etp:=pt2.2 j _ _ (List.getElem?_eq_getElem hjt) (List.getElem?_eq_getElem hj)
       have hlen:(((qs.take j).map (·.1)).map V.str).length=j:=by rw [List.length_map,List.length_map,List.length_take];omega
       refine ⟨_,rfl,_,rfl,nl,_,rfl,.inl (SqL.of (S2.get nl)),sl,_,_,_,rfl,rfl,SqL.of et2,by rw [hlen];exact YI (by rw [List.getElem?_map,List.getElem?_eq_getElem hjt];rfl),_,_,rfl,SqT.of etp,rfl,_,_,rfl,_,_,rfl,rfl,?_⟩
       obtain ⟨d,rr,sp,il,tk,Sh⟩:=(S2.get h)
       obtain ⟨dx4,ob4⟩:=Sh.get h
       have hjq:qs[j]?=some qs[j]:=List.getElem?_eq_getElem hj
       have htk:qs.take (j+1)=qs.take j++[qs[j]]:=by rw [List.take_succ,hjq];rfl
       refine ⟨_,rfl,h,dx4,_,rfl,ob4,ZfH (by decide +kernel),_,rfl,_,rfl,h,_,qs.take j,_,_,_,rfl,S2.pull h,rfl,by rw [List.length_take];omega,Zfj hqn hj,fun H3 S3=>?_⟩
       refine ⟨_,rfl,.inl ⟨rfl,_,SqL.of (S3.get nl)⟩,_,rfl,nl,_,_,rfl,rfl,S3.get nl,Wa (show _≤1000 by rw [hlen];omega),?_⟩
       generalize hE:upd H3 nl _=H4
       have S4:=S3.putE hE
       clear hE
       refine ⟨n+1,j+1,_,_,rfl,Nat.le_refl _,⟨hj,O.2.1,O.2.2.1,O.2.2.2⟩,?_⟩
       have S5:=(((((S4.pull r).pull nl).pull sl).pull h).pull e).pull p
       unfold lwL
       rw [htk,List.map_append]
       unfold UY
       rw [List.map_append]
       exact S5
     · exact ⟨n+1,j,_,_,rfl,Nat.le_refl _,O,S2⟩
   · exact ⟨n,j,_,_,rfl,Nat.le_succ _,O,S1⟩
 have hn0:=hn
 clear S1 hn O j
 rintro σ H1 ⟨n,j,x11,x12,rfl,hn,O,S1⟩
 have hO:=O
 obtain ⟨hj,hvl,hv,hp⟩:=O
 refine ⟨_,rfl,_,rfl,_,rfl,_,rfl,_,rfl,_,rfl,p,e,h,sl,nl,r,n,vs,_,qs,_,ps,_,rfl,S1,by omega,hvl,hv,hp,hq0,hq1,by rw [List.length_map,List.length_take];omega,Zhr,fun n2 vs2 ps2 H2 hn2 hvl2 hv2 hp2 hgo S2=>⟨_,rfl,ZV ?_⟩⟩
 refine ⟨fun σ' H'=>σ'=[some (.ref a),some (.ref p),some (.ref sl),some (.ref h),some (.ref nl),some (.ref r),some (.int (vs2.length:Int)),some (.ref e),some (.int cells),some (.int (0+(i:Int))),some (.int (0+(t:Int))),x11,x12]∧Sep (lwL K CH CR CS CT CL p e h sl nl r n2 vs2 qs j ps2 a ns) H',?_,?_⟩
 · refine ⟨_,rfl,(by show 1≤sizeLine;decide),fun c hc=>?_⟩
   generalize hE:upd H2 c _=H3
   have S3:=(S2.newE hc hE).pull r
   clear hE
   have hrl:ps2.length≤20:=by rw [hp2.length_eq];exact Nat.le_trans (ZeE _) hvl2
   refine ⟨_,rfl,r,_,rfl,S3.get r,fun o nf=>fun D hD=>?_⟩
   have F3:=Fz.mk (o:=o) S3
   refine Zdp (Yv (show _≤1000 by rw [List.length_map];omega)) (fun i ys H'=>ys=(ps2.take i).map (fun q=>V.int (q.1+1))∧Fz r o (ps2.map YE) ((D,ZN ys)::_) H') ⟨rfl,F3.new hD _⟩ ?_ ?_ ?_
   · rintro i ys H' ⟨rfl,F⟩
     exact ⟨by rw [List.length_map,List.length_take];omega,F.at⟩
   · rintro i kp ys H' hkp ⟨rfl,F⟩
     rw [List.getElem?_map] at hkp
     obtain ⟨pp,hpp,rfl⟩:=Option.map_eq_some_iff.mp hkp
     refine ⟨_,rfl,_,_,rfl,rfl,F.sep.get D,?_,F.put D _⟩
     rw [List.take_succ,hpp,List.map_append];rfl
   · rintro ys H' ⟨rfl,F⟩
     rw [List.length_map,List.take_length] at F
     refine ⟨r,o,_,F.at,nf,?_⟩
     have S4:=F.melt
     refine ⟨c,D,_,_,rfl,rfl,S4.get c,S4.get D,Yv (show _≤1000 by simp;omega),fun l hl=>?_⟩
     generalize hE:upd (upd H' r _) l _=H4
     have S5:=S4.newE hl hE
     clear hE
     have el:H4 l=some (.lst (((vs.length:Int)::ps2.map (fun q=>q.1+1)).map V.int)):=by
       have:=S5.get l
       rw [List.map_cons,List.map_map];exact this
     refine ⟨l,_,rfl,SqL.of el,List.cons_ne_nil _ _,fun M hM hall=>?_⟩
     have e2:=ZgP hp2 hgo hM hall
     subst e2
     exact ⟨rfl,((((((((S5.drop l).drop D).drop c).pull r).pull nl).pull sl).pull h).pull e).pull p⟩
 rintro σ H3 ⟨rfl,S3⟩
 refine ⟨_,rfl,_,rfl,e,h,r,vs2,ps2,_,rfl,(S3.pull r).pull e,hp2,by omega,hv2,fun H4 S4=>⟨_,rfl,ZV ?_⟩⟩
 exact ⟨n2,vs2,j,ps2,_,_,_,rfl,by omega,⟨hj,hvl2,hv2,hp2⟩,(((((S4.pull r).pull nl).pull sl).pull h).pull e).pull p⟩
end
end K45
set_option maxHeartbeats 4000000
namespace K45
open PySem L2
section
variable {P:Program}{w:World}{K:PySem.W.Frag}{mg:Str→Option Value}{base:Heap}
theorem scXi:Zs ["self","what"] ["self","what"] (Zj c_RoadError___init__):=⟨rfl,rfl,rfl,by decide +kernel,rfl,by decide +kernel,by decide +kernel⟩
theorem UI {f:Addr}{fd:FuncData}(F:Fun K "__init__" "RoadError.__init__" c_RoadError___init__ f fd):FnOk P w K mg base ZU 1 f fd ["self","what"] (Zej K):=by
 refine F.ok scXi (fun vs H Q E h=>?_) (fun cdv A outer s H vs Q E hr h=>?_)
 · obtain ⟨ea,C,fI,v,rfl,_⟩:=h;rfl
 obtain ⟨ea,C,fI,v,rfl,hea,xf,q⟩:=h
 refine' ⟨?t,?h,?r⟩
 case h =>
   conv=>arg 2;whnf
   with_reducible refine' (Zi ?h1)
   case h1=>exact ZgS (pv 0) (pv 1) rfl
 exact ⟨_,rfl,_,rfl,ea,C,fI,rfl,hea,xf,fun dx h1 h2=>q dx h1 h2⟩
end
end K45
set_option maxHeartbeats 4000000
namespace K45
open PySem L2
open PySem.W in
theorem all_mk {l:PySem.W.OpenLaw}{w:World}{K:PySem.W.Frag}{h:Heap}{mg:Str→Option Value}{fa:Addr}
   {f_z0 f_z1 f_z2 f_z3 f_z4 f_z5 f_z6 f_z7 f_z8 f_z9 f_z10 f_z11 f_z12 f_z13 f_z14 f_z15 f_z16 f_z17 f_z18 f_z19 f_z20 f_z21 f_z22 f_z23 f_z24 f_z25 f_z26 C_Store C_Roads C_Tokens C_Hall C_Lookout C_RoadError C_NoSetting C_NoToken C_Used C_Elsewhere C_OutOfTurn C_NoWorld C_Busy C_AtHome C_NoWatcher C_Known:Addr} {d_z0 d_z1 d_z2 d_z3 d_z4 d_z5 d_z6 d_z7 d_z8 d_z9 d_z10 d_z11 d_z12 d_z13 d_z14 d_z15 d_z16 d_z17 d_z18 d_z19 d_z20 d_z21 d_z22 d_z23 d_z24 d_z25 d_z26:FuncData} (X:K.In h) (G:h.Ns mainGlobals mg) (hfa:mg "law"=some (.ref fa))
   (ch_Store:CH K "Store" C_Store)
   (na_Store_nodes:PySem.W.findIn K (.ref C_Store) "nodes"=some none)
   (na_Store_tables:PySem.W.findIn K (.ref C_Store) "tables"=some none)
   (ch_Roads:CH K "Roads" C_Roads)
   (na_Roads_kept:PySem.W.findIn K (.ref C_Roads) "kept"=some none)
   (na_Roads_aheads:PySem.W.findIn K (.ref C_Roads) "aheads"=some none)
   (na_Roads_steps:PySem.W.findIn K (.ref C_Roads) "steps"=some none)
   (na_Roads_tables:PySem.W.findIn K (.ref C_Roads) "tables"=some none)
   (na_Roads_costs:PySem.W.findIn K (.ref C_Roads) "costs"=some none)
   (ch_Tokens:CH K "Tokens" C_Tokens)
   (na_Tokens_finds:PySem.W.findIn K (.ref C_Tokens) "finds"=some none)
   (na_Tokens_unused:PySem.W.findIn K (.ref C_Tokens) "unused"=some none)
   (ch_Hall:CH K "Hall" C_Hall)
   (na_Hall_defaults:PySem.W.findIn K (.ref C_Hall) "defaults"=some none)
   (na_Hall_ways:PySem.W.findIn K (.ref C_Hall) "ways"=some none)
   (na_Hall_spots:PySem.W.findIn K (.ref C_Hall) "spots"=some none)
   (na_Hall_inside:PySem.W.findIn K (.ref C_Hall) "inside"=some none)
   (na_Hall_held:PySem.W.findIn K (.ref C_Hall) "held"=some none)
   (ch_Lookout:CH K "Lookout" C_Lookout)
   (na_Lookout_hall:PySem.W.findIn K (.ref C_Lookout) "hall"=some none)
   (na_Lookout_names:PySem.W.findIn K (.ref C_Lookout) "names"=some none)
   (na_Lookout_unheard:PySem.W.findIn K (.ref C_Lookout) "unheard"=some none)
   (na_Lookout_looks_done:PySem.W.findIn K (.ref C_Lookout) "looks_done"=some none)
   (gx_RoadError:PySem.W.nsIn K mainGlobals "RoadError"=some (some (.ref C_RoadError)))
   (gx_NoSetting:PySem.W.nsIn K mainGlobals "NoSetting"=some (some (.ref C_NoSetting)))
   (gx_NoToken:PySem.W.nsIn K mainGlobals "NoToken"=some (some (.ref C_NoToken)))
   (gx_Used:PySem.W.nsIn K mainGlobals "Used"=some (some (.ref C_Used)))
   (gx_Elsewhere:PySem.W.nsIn K mainGlobals "Elsewhere"=some (some (.ref C_Elsewhere)))
   (gx_OutOfTurn:PySem.W.nsIn K mainGlobals "OutOfTurn"=some (some (.ref C_OutOfTurn)))
   (gx_NoWorld:PySem.W.nsIn K mainGlobals "NoWorld"=some (some (.ref C_NoWorld)))
   (gx_Busy:PySem.W.nsIn K mainGlobals "Busy"=some (some (.ref C_Busy)))
   (gx_AtHome:PySem.W.nsIn K mainGlobals "AtHome"=some (some (.ref C_AtHome)))
   (gx_NoWatcher:PySem.W.nsIn K mainGlobals "NoWatcher"=some (some (.ref C_NoWatcher)))
   (gx_Known:PySem.W.nsIn K mainGlobals "Known"=some (some (.ref C_Known)))
   (h_z0:FM K C_RoadError "__init__" "RoadError.__init__" c_RoadError___init__ f_z0 d_z0)
   (h_z1:FM K C_Store "__init__" "Store.__init__" c_Store___init__ f_z1 d_z1)
   (h_z2:FM K C_Store "empty" "Store.empty" c_Store_empty f_z2 d_z2)
   (h_z3:FM K C_Roads "__init__" "Roads.__init__" c_Roads___init__ f_z3 d_z3)
   (h_z4:FM K C_Tokens "__init__" "Tokens.__init__" c_Tokens___init__ f_z4 d_z4)
   (h_z5:FM K C_Hall "check_setting" "Hall.check_setting" c_Hall_check_setting f_z5 d_z5)
   (h_z6:FM K C_Hall "declare" "Hall.declare" c_Hall_declare f_z6 d_z6)
   (h_z7:FM K C_Hall "__init__" "Hall.__init__" c_Hall___init__ f_z7 d_z7)
   (h_z8:FM K C_Lookout "__init__" "Lookout.__init__" c_Lookout___init__ f_z8 d_z8)
   (h_z9:FM K C_Lookout "watch" "Lookout.watch" c_Lookout_watch f_z9 d_z9)
   (h_z10:FM K C_Lookout "unwatch" "Lookout.unwatch" c_Lookout_unwatch f_z10 d_z10)
   (h_z11:FM K C_Lookout "watched" "Lookout.watched" c_Lookout_watched f_z11 d_z11)
   (h_z12:FM K C_Lookout "news" "Lookout.news" c_Lookout_news f_z12 d_z12)
   (h_z13:FM K C_Lookout "looks" "Lookout.looks" c_Lookout_looks f_z13 d_z13)
   (h_z14:FG K "_law_cell_at" s_l_cell_at f_z14 d_z14)
   (h_z15:FG K "_law_box" s_l_box f_z15 d_z15)
   (h_z16:FG K "_law_take" s_l_take f_z16 d_z16)
   (h_z17:FG K "_law_names" s_l_names f_z17 d_z17)
   (h_z18:FG K "_law_value" s_l_value f_z18 d_z18)
   (h_z19:FG K "_law_twin" s_l_twin f_z19 d_z19)
   (h_z20:FG K "_law_settings" s_l_settings f_z20 d_z20)
   (h_z21:FG K "_law_same" s_l_same f_z21 d_z21)
   (h_z22:FG K "_law_refusal" s_l_refusal f_z22 d_z22)
   (h_z23:FG K "_law_told" s_l_told f_z23 d_z23)
   (h_z24:FG K "_law_rows_right" s_l_rows_right f_z24 d_z24)
   (h_z25:FG K "_law_watch_right" s_l_watch_right f_z25 d_z25)
   (h_z26:FG K "law" s_law f_z26 d_z26)
   (z_len:PySem.W.nsIn K mainGlobals "len"=some none)
   (z_abs:PySem.W.nsIn K mainGlobals "abs"=some none)
   (z_int:PySem.W.nsIn K mainGlobals "int"=some none)
   (z_range:PySem.W.nsIn K mainGlobals "range"=some none)
   (z_min:PySem.W.nsIn K mainGlobals "min"=some none)
   (z_max:PySem.W.nsIn K mainGlobals "max"=some none)
   (z_repr:PySem.W.nsIn K mainGlobals "repr"=some none)
   (z_enumerate:PySem.W.nsIn K mainGlobals "enumerate"=some none)
   (z_ord:PySem.W.nsIn K mainGlobals "ord"=some none)
   (z_list:PySem.W.nsIn K mainGlobals "list"=some none)
   (z_tuple:PySem.W.nsIn K mainGlobals "tuple"=some none)
   (z_dict:PySem.W.nsIn K mainGlobals "dict"=some none)
   (z_sorted:PySem.W.nsIn K mainGlobals "sorted"=some none)
   (z_sum:PySem.W.nsIn K mainGlobals "sum"=some none)
   (z_all:PySem.W.nsIn K mainGlobals "all"=some none)
   (z_any:PySem.W.nsIn K mainGlobals "any"=some none)
   (z_divmod:PySem.W.nsIn K mainGlobals "divmod"=some none)
   (z_str:PySem.W.nsIn K mainGlobals "str"=some none)
   (z_isinstance:PySem.W.nsIn K mainGlobals "isinstance"=some none)
   (z_set:PySem.W.nsIn K mainGlobals "set"=some none)
   (z_zip:PySem.W.nsIn K mainGlobals "zip"=some none)
   (z_reversed:PySem.W.nsIn K mainGlobals "reversed"=some none)
   (z_bool:PySem.W.nsIn K mainGlobals "bool"=some none)
   {tb:Tok}
   (gBASE:PySem.W.nsIn K mainGlobals "BASE"=some (some (.int 4 tb)))
   {tz:Tok}
   (gZERO:PySem.W.nsIn K mainGlobals "BARE_NUMBER"=some (some (.int 0 tz)))
   {ab:Addr}
   (gBARE:PySem.W.nsIn K mainGlobals "BARE"=some (some (.ref ab)))
   (tBARE:Zan K ab [.str "bare"]=true)
   {af:Addr}
   (gFIG:PySem.W.nsIn K mainGlobals "FIGURES"=some (some (.ref af)))
   (tFIG:Zan K af [.int 0,.int 1,.int 2,.int 3]=true)
   (zVE:PySem.W.nsIn K mainGlobals "ValueError"=some none)
   (x_Known:Vi K C_RoadError C_Known f_z0 [C_NoSetting,C_NoToken,C_Used,C_Elsewhere,C_OutOfTurn,C_NoWorld,C_Busy,C_AtHome,C_NoWatcher] [] [] 9=true)
   (x_NoSetting:Vi K C_RoadError C_NoSetting f_z0 [C_NoSetting,C_NoToken,C_Used,C_Elsewhere,C_OutOfTurn,C_NoWorld,C_Busy,C_AtHome,C_NoWatcher] [] [] 0=true)
   (x_NoWatcher:Vi K C_RoadError C_NoWatcher f_z0 [C_NoSetting,C_NoToken,C_Used,C_Elsewhere,C_OutOfTurn,C_NoWorld,C_Busy,C_AtHome,C_NoWatcher] [] [] 8=true) :
   ∃ fd:FuncData,(∀ (s:Shared) (v:Value),BindsTo s fd ⟨[v],[]⟩ [("_law_script",v)])∧∀ base:Heap,K.In base→base.Ns mainGlobals mg→Vt base mg→FnOk l.prog w K mg base ZU 18 fa fd ["_law_script"] (Zak K):=by
 have e:=hfa.symm.trans (mg_of X G h_z26.a)
 cases e
 have n_len:=mg_none_of X G z_len
 have n_abs:=mg_none_of X G z_abs
 have n_int:=mg_none_of X G z_int
 have n_range:=mg_none_of X G z_range
 have n_min:=mg_none_of X G z_min
 have n_max:=mg_none_of X G z_max
 have n_repr:=mg_none_of X G z_repr
 have n_enumerate:=mg_none_of X G z_enumerate
 have n_ord:=mg_none_of X G z_ord
 have n_list:=mg_none_of X G z_list
 have n_tuple:=mg_none_of X G z_tuple
 have n_dict:=mg_none_of X G z_dict
 have n_sorted:=mg_none_of X G z_sorted
 have n_sum:=mg_none_of X G z_sum
 have n_all:=mg_none_of X G z_all
 have n_any:=mg_none_of X G z_any
 have n_divmod:=mg_none_of X G z_divmod
 have n_str:=mg_none_of X G z_str
 have n_isinstance:=mg_none_of X G z_isinstance
 have n_set:=mg_none_of X G z_set
 have n_zip:=mg_none_of X G z_zip
 have n_reversed:=mg_none_of X G z_reversed
 have n_bool:=mg_none_of X G z_bool
 have g_gBASE:=mg_of X G gBASE
 have g_gZERO:=mg_of X G gZERO
 have g_gBARE:=mg_of X G gBARE
 have g_gFIG:=mg_of X G gFIG
 have g_RoadError:=mg_of X G gx_RoadError
 have g_NoSetting:=mg_of X G gx_NoSetting
 have g_NoToken:=mg_of X G gx_NoToken
 have g_Used:=mg_of X G gx_Used
 have g_Elsewhere:=mg_of X G gx_Elsewhere
 have g_OutOfTurn:=mg_of X G gx_OutOfTurn
 have g_NoWorld:=mg_of X G gx_NoWorld
 have g_Busy:=mg_of X G gx_Busy
 have g_AtHome:=mg_of X G gx_AtHome
 have g_NoWatcher:=mg_of X G gx_NoWatcher
 have g_Known:=mg_of X G gx_Known
 have cl_Store:=ch_Store.c
 have cl_Roads:=ch_Roads.c
 have cl_Tokens:=ch_Tokens.c
 have cl_Hall:=ch_Hall.c
 have cl_Lookout:=ch_Lookout.c
 have TB:Ye mg:=⟨n_len,n_abs,n_int,n_range,n_min,n_max,n_repr,n_enumerate,n_ord,n_list,n_tuple,n_dict,n_sorted,n_sum,n_all,n_any,n_divmod,n_str,n_isinstance,n_set,n_zip,n_reversed,n_bool⟩
 have T:Txt K mg:=⟨TB,⟨_,g_gBASE⟩,⟨_,g_gZERO⟩,⟨_,g_gBARE,ZaV tBARE⟩,⟨_,g_gFIG,ZaV tFIG⟩⟩
 have TC:ZeN K C_Store:=⟨cl_Store,na_Store_nodes,na_Store_tables⟩
 have TR:TxtR K C_Roads:=⟨cl_Roads,na_Roads_kept,na_Roads_aheads,na_Roads_steps,na_Roads_tables,na_Roads_costs⟩
 have TT:TxtT K C_Tokens:=⟨cl_Tokens,na_Tokens_finds,na_Tokens_unused⟩
 have TH:Vx K C_Hall:=⟨cl_Hall,na_Hall_defaults,na_Hall_ways,na_Hall_spots,na_Hall_inside,na_Hall_held⟩
 have n_VE:=mg_none_of X G zVE
 have TE:=ZgR (K:=K) g_RoadError n_VE g_NoSetting g_NoToken g_Used g_Elsewhere g_OutOfTurn g_NoWorld g_Busy g_AtHome g_NoWatcher
 have TLo:Wh K C_Lookout:=⟨cl_Lookout,na_Lookout_hall,na_Lookout_names,na_Lookout_unheard,na_Lookout_looks_done⟩
 have r_NoSetting:RK K C_RoadError [C_NoSetting,C_NoToken,C_Used,C_Elsewhere,C_OutOfTurn,C_NoWorld,C_Busy,C_AtHome,C_NoWatcher] C_NoSetting "NoSetting":=⟨0,(WD x_NoSetting).1,rfl⟩
 have r_NoWatcher:RK K C_RoadError [C_NoSetting,C_NoToken,C_Used,C_Elsewhere,C_OutOfTurn,C_NoWorld,C_Busy,C_AtHome,C_NoWatcher] C_NoWatcher "NoWatcher":=⟨8,(WD x_NoWatcher).1,rfl⟩
 refine ⟨d_z26,fun s v=>Zdn h_z26.F (fun _ _ _ _ _ _ _=>rfl) s v,fun base _ _ hBm=>?_⟩
 have e:Bs l.prog w K mg base h:=⟨X,G⟩
 have b_z0:Binds K d_z0 ["self","what"] []:=h_z0.F.b2 fun _ _ _ _ _ _ _ _=>rfl
 have D_Known:Uq l.prog w K mg base 1 C_Known "Known":=⟨_,_,(UI h_z0.F).mono (by decide),b_z0,(WD x_Known).2 h_z0.m.fn,g_Known⟩
 have D_NoSetting:Uq l.prog w K mg base 1 C_NoSetting "NoSetting":=⟨_,_,(UI h_z0.F).mono (by decide),b_z0,(WD x_NoSetting).2 h_z0.m.fn,g_NoSetting⟩
 have D_NoWatcher:Uq l.prog w K mg base 1 C_NoWatcher "NoWatcher":=⟨_,_,(UI h_z0.F).mono (by decide),b_z0,(WD x_NoWatcher).2 h_z0.m.fn,g_NoWatcher⟩
 have D_z1:=h_z1.di ch_Store e (FnOk.conv (sp':=Vl K C_Store) (ZgM h_z1.F T TC) (fun _ _ _ _ h=>ZhE h)) (h_z1.F.b1 fun _ _ _ _ _ _ _=>rfl)
 have D_z2:=h_z2.df e (ZeZ (C:=C_Store) h_z2.F T) (h_z2.F.b1 fun _ _ _ _ _ _ _=>rfl)
 have D_z3:=h_z3.di ch_Roads e ((Zfi h_z3.F TB TR TC D_z1 (D_z2.mono (by decide))).mono (show 3≤11 by decide)) (h_z3.F.b1 fun _ _ _ _ _ _ _=>rfl)
 have D_z4:=h_z4.di ch_Tokens e (Zeq h_z4.F TB TT) (h_z4.F.b1 fun _ _ _ _ _ _ _=>rfl)
 have b_z5:Binds K d_z5 ["self","name"] []:=h_z5.F.b2 fun _ _ _ _ _ _ _ _=>rfl
 have D_z5:Wl l.prog w K mg base 3 C_Hall "check_setting" Zac (ZcI K C_Hall C_Roads C_Store C_Tokens C_NoSetting):=⟨_,_,(Zha h_z5.F TB TH D_NoSetting).mono (by decide),b_z5,h_z5.m⟩
 have b_z6:Binds K d_z6 ["self","name","default"] []:=h_z6.F.b3 fun _ _ _ _ _ _ _ _ _=>rfl
 have D_z6:DefM l.prog w K mg base 3 C_Hall "declare" Zao (Zbn K C_Hall C_Roads C_Store C_Tokens):=⟨_,_,FnOk.low (Zhg h_z6.F TB TH D_Known) fun _ _ _ _ z=>ZiJ z,b_z6,h_z6.m⟩
 have D_z7:=h_z7.di ch_Hall e ((Zfh h_z7.F TB TH D_z3 D_z4).mono (show 13≤16 by decide)) (h_z7.F.b1 fun _ _ _ _ _ _ _=>rfl)
 have D_z8:=h_z8.di ch_Lookout e ((Zfm h_z8.F TB TLo).mono (show 1≤16 by decide)) (h_z8.F.b2 fun _ _ _ _ _ _ _ _=>rfl)
 have b_z9:Binds K d_z9 ["self","name"] []:=h_z9.F.b2 fun _ _ _ _ _ _ _ _=>rfl
 have D_z9:Wl l.prog w K mg base 4 C_Lookout "watch" Zai (Zcn K C_Hall C_Roads C_Store C_Tokens C_Lookout C_NoSetting):=⟨_,_,Zhs h_z9.F TB TLo TH D_z5,b_z9,h_z9.m⟩
 have b_z10:Binds K d_z10 ["self","watcher"] []:=h_z10.F.b2 fun _ _ _ _ _ _ _ _=>rfl
 have D_z10:Wl l.prog w K mg base 4 C_Lookout "unwatch" Zal (Zch C_Lookout C_NoWatcher):=⟨_,_,(Zia h_z10.F TB TLo D_NoWatcher).mono (by decide),b_z10,h_z10.m⟩
 have D_z11:=h_z11.df e (Zhw h_z11.F TB TLo) (h_z11.F.b1 fun _ _ _ _ _ _ _=>rfl)
 have D_z12:=h_z12.df e (Zgp h_z12.F TB TLo) (h_z12.F.b1 fun _ _ _ _ _ _ _=>rfl)
 have D_z13:=h_z13.df e (ZeW h_z13.F TB TLo) (h_z13.F.b1 fun _ _ _ _ _ _ _=>rfl)
 have D_z14:=h_z14.df e (Zgt h_z14.F TB) (h_z14.F.b2 fun _ _ _ _ _ _ _ _=>rfl)
 have D_z15:=h_z15.df e (FnOk.conv (sp':=Zbf K) (Zin h_z15.F TB D_z14) (fun _ _ _ _ h=>Ziu h)) (h_z15.F.b2 fun _ _ _ _ _ _ _ _=>rfl)
 have b_z16:Binds K d_z16 ["_law_box_here","_law_many"] []:=h_z16.F.b2 fun _ _ _ _ _ _ _ _=>rfl
 have DT0:ZfN l.prog w K mg base:=⟨_,_,Zgw h_z16.F,b_z16,h_z16.F.kp,(mg_of X G h_z16.a)⟩
 have D_z16:DTk l.prog w K mg base 1:=DT0.conv fun _ _ _ _ h=>ZhC h
 have D_z17:=h_z17.df e (ZeP h_z17.F TB D_z16) (h_z17.F.b2 fun _ _ _ _ _ _ _ _=>rfl)
 have D_z18:=h_z18.df e (FnOk.conv (sp':=Uw) (ZeD h_z18.F T DT0) (fun _ _ _ _ h=>Zgq h)) (h_z18.F.b1 fun _ _ _ _ _ _ _=>rfl)
 have D_z19:=h_z19.df e (Zgi (kk:=0) h_z19.F TB) (h_z19.F.b1 fun _ _ _ _ _ _ _=>rfl)
 have D_z20:=h_z20.df e (Zbx (kk:=2) h_z20.F TB (D_z16.mono (by decide)) D_z17 (D_z19.mono (by decide)) D_z18) (h_z20.F.b2 fun _ _ _ _ _ _ _ _=>rfl)
 have b_z21:Binds K d_z21 ["_law_found","_law_due"] []:=h_z21.F.b2 fun _ _ _ _ _ _ _ _=>rfl
 have D_z21:Def l.prog w K mg base 6 "_law_same" WG (Wd K 5):=⟨_,_,ZbZ h_z21.F TB b_z21 h_z21.F.kp (mg_of X G h_z21.a) 5,b_z21,h_z21.F.kp,(mg_of X G h_z21.a)⟩
 have D_z22:=h_z22.df e (Zic (kk:=0) h_z22.F TB TE) (h_z22.F.b1 fun _ _ _ _ _ _ _=>rfl)
 have D_z23:=h_z23.df e (ZgV (kk:=4) h_z23.F TB TLo TE D_z9 D_z10 (D_z22.mono (by decide)) r_NoSetting r_NoWatcher) (h_z23.F.b3 fun _ _ _ _ _ _ _ _ _=>rfl)
 have D_z24:=h_z24.df e (Zgc (kk:=6) h_z24.F TB TLo (D_z11.mono (by decide)) (D_z12.mono (by decide)) (D_z13.mono (by decide)) D_z21) (h_z24.F.b2 fun _ _ _ _ _ _ _ _=>rfl)
 have D_z25:=h_z25.df e (Ziy (kk:=6) h_z25.F TB (D_z16.mono (by decide)) (D_z23.mono (by decide)) D_z21) (h_z25.F.b6 fun _ _ _ _ _ _ _ _ _ _ _ _=>rfl)
 exact Zil h_z26.F TB TH D_z16 (D_z15.mono (by decide)) (D_z20.mono (by decide)) D_z7 D_z8 (D_z6.mono (by decide)) (D_z25.mono (by decide)) (D_z24.mono (by decide))
theorem walk {l:PySem.W.OpenLaw}{q:Program}{loose:List Str}{XP:(Str→Option Value)→Heap→Prop}{YP:World→Heap→Prop}{d:DefRec}{K:Params→PySem.W.Frag}{ts:List Addr}(hn:l.most=some 63)(hdf:d.params.defaults=[])
   (hY:∀ (w:World) (h:Heap),YP w h→(K w.params).In h∧∀ b∈ts,h.get? b=some (PySem.W.tabObj #[]))
   (hK:∀ (w:World) (b:Addr),b∈ts→(K w.params).lookup b=none∧∃ c,PySem.W.codeHdIn (K w.params) c b=true)
   (F:∀ (w:World) (mg:Str→Option Value) (fa:Addr) (h:Heap),(K w.params).In h→h.Ns mainGlobals mg→mg d.name=some (.ref fa) →
     ∃ fd:FuncData,(∀ (s:Shared) (u:Value),BindsTo s fd ⟨[u],[]⟩ [("_law_script",u)])∧∀ base:Heap,(K w.params).In base→base.Ns mainGlobals mg→Vt base mg→FnOk l.prog w (K w.params) mg base ZU 18 fa fd ["_law_script"] (Zak (K w.params))) :
   PySem.W.WalkO q loose XP YP l.row.toRowW d [] (fun f vs=>PySem.call f vs) :=
 L2.walk_ofT (n:=63) (k:=18) (x:="_law_script") (CX:=fun _=>ZU) (sp:=fun w=>Zak (K w.params)) (ts:=ts) hn (by decide) hdf ⟨rfl,by decide,by decide,rfl⟩ hY hK F (fun w H a ns hl hO hS hT=>⟨a,ns,rfl,hS,hl,fun _=>rfl⟩) fun _ _ _ _ _ z=>z
end K45
namespace PySem.W.Fast
def tw13357388296609363849:=0
def tw1558254016939784247:=0
def tw2165384505773520214:=0
def tw11482708709803835899:=0
def tw8093731590473596949:=0
def tw6408179836333825089:=0
def tw714781182776822432:=0
def tw13960601738208867136:=0
def tw11705417181419449567:=0
def tw5125362781226761859:=0
def tw10851690414665714857:=0
def tw518927975490570669:=0
def tw8329732956100750678:=0
def tw11442311161580730352:=0
def tw3512944875257505992:=0
def tw16098734164021770309:=0
def tw18364085582462195302:=0
def tw12692861635972901982:=0
def tw4103870454815971391:=0
def tw1979011035098290334:=0
def tw4637320643025496854:=0
def tw5696088849342911475:=0
def tw17717455282041619812:=0
def tw18011494919067673088:=0
def tw651029524582799448:=0
def tw9659964391751013723:=0
def tw1017506960183087776:=0
def tw12011021557638082405:=0
def tw8884236470001790385:=0
def tw5261263268658175529:=0
def tw12275607057841333828:=0
def tw6520650925642532812:=0
def tw1649171893580447692:=0
def tw13016932199893642574:=0
def tw10711199264043055253:=0
def tw8409381950295032113:=0
def tw9666210525120066990:=0
def tw14242094529416458871:=0
def tw4669383128211917074:=0
def tw13746322426295865502:=0
def tw459164004325648710:=0
def tw10580827296157848160:=0
def tw6543541967835538050:=0
def tw11900672803080148850:=0
def tw18389996894043567119:=0
def tw3296643381112678354:=0
def tw703991636350281973:=0
def tw2069682844344175706:=0
def tw1397652791546733439:=0
def tw18246218305407635276:=0
def tw7807599906073158904:=0
def tw17371866821172380971:=0
def tw17467265132268369272:=0
def tw14735116865581643631:=0
def tw14571914239000721509:=0
def tw3285444220425799184:=0
def tw6760030741293627398:=0
def tw15052089971864054922:=0
def tw14269573965928300658:=0
def tw17094670399619011461:=0
def tw10943459504390116750:=0
def tw18231498114903145389:=0
def tw1406257865039043417:=0
def tw880615789423938679:=0
def tw16572481596032830628:=0
def tw4524859113280973770:=0
def tw9062811992358416186:=0
def tw7725063560781225167:=0
def tw1190260258419103730:=0
def tw15453774852696548416:=0
def tw13839065521229854944:=0
def tw8643782822805529516:=0
def tw15410735107910407466:=0
def tw9715422730174450558:=0
def tw4810019985186518849:=0
def tw13999257126282214042:=0
def tw15313397627417000402:=0
def tw10573559559560377069:=0
def tw13295022212982851819:=0
def tw8487031621127240645:=0
def tw1039650308439146024:=0
def tw17677347197685641941:=0
def tw1193825342896014517:=0
def tw542886904336887014:=0
def tw56713304018294890:=0
def tw14884439392653796892:=0
def tw8594945225636446964:=0
def tw17373950664246926664:=0
def tw7459560546407191545:=0
def tw10587881410948499315:=0
def tw13892365745349518824:=0
def tw7245056587963200957:=0
def tw3902321529252074089:=0
def tw2240760754918419443:=0
def tw1014138519569320307:=0
def tw16380896913238886135:=0
def tw17741389987747352744:=0
def tw7722274568852219423:=0
def tw5854663686501853724:=0
def tw7703703111644556919:=0
def tw12404439048867766997:=0
def tw14916074949225743642:=0
def tw15816977105654497990:=0
def tw10299393899362854770:=0
def tw13092733757384608808:=0
def tw10144135781615276954:=0
def tw2478906945004155198:=0
def tw13619917549997449887:=0
def tw15509182909961408688:=0
def tw7915894011368311789:=0
def tw3203859487839383562:=0
def tw5045363567755724603:=0
def tw14546605617719629670:=0
def tw12005108702456382606:=0
def tw3421920075073900599:=0
def tw15096913907856684791:=0
def tw12240306837159171386:=0
def tw668083857484491606:=0
def tw3301785436363880290:=0
def tw11750883740537233377:=0
def tw6084944674717370919:=0
def tw8854031182418768477:=0
def tw9018261079949561147:=0
def tw17951599003262956569:=0
def tw2849646572878562070:=0
def tw5527762316682234039:=0
def tw13712833377790559649:=0
def tw9675238912615482550:=0
def tw529350812206309730:=0
def tw3876298881045726144:=0
def tw15358729475479527969:=0
def tw8118596477187515374:=0
def tw16209410177374531374:=0
def tw7419842145357904559:=0
def tw17957381737416757128:=0
def tw16742945829499496511:=0
def tw17860762811649188153:=0
def tw5710976542893185279:=0
def tw16457522430578288102:=0
def tw6216829446284867757:=0
def tw17597940609004250615:=0
def tw12565749202583149220:=0
def tw11175887876659849026:=0
def tw917721307876258695:=0
def tw8584625670342823828:=0
def tw7488357880550686437:=0
def tw1731737374420509648:=0
def tw16652911134804304336:=0
def tw16513070279650840420:=0
def tw15020002277613028989:=0
def tw12846455366290845357:=0
def tw3259330360473311924:=0
def tw4288439580947525209:=0
def tw16907496746833279304:=0
def tw6145384454169853381:=0
def tw17277281002176580604:=0
def tw15252131825636054639:=0
def tw1272230298902963060:=0
def tw16212636147745569597:=0
def tw12367125392519864827:=0
def tw13023718589035749893:=0
def tw2241082736307378179:=0
def tw10139096529941359276:=0
def tw875536959425558203:=0
def tw16382195675745715941:=0
def tw15851562323393724096:=0
def tw12389111280344854735:=0
def tw10677264318519941227:=0
def tw2612456743375216696:=0
def tw8180499105221161248:=0
def tw6160232906767379512:=0
def tw15700984267972089776:=0
def tw1835194765775069992:=0
def tw17417655748929126666:=0
def tw10494654558846829934:=0
def tw16056264533621004239:=0
def tw15504123913163037243:=0
def tw6868997562385883754:=0
def tw18001753942298114089:=0
def tw17926048481008556400:=0
def tw15602299950030630390:=0
def tw5137477394829684982:=0
def tw6604622156679895050:=0
def tw475536147383618725:=0
def tw7851555057377664761:=0
def tw4809273151697575971:=0
def tw16257698344351229563:=0
def tw11848717680589709096:=0
def tw17913504356989059507:=0
def tw7765905296068109876:=0
def tw3425912317677041543:=0
def tw10781737159169649696:=0
def tw15089853471026519334:=0
def tw10069842935417709863:=0
def tw7717568521976267500:=0
def tw1788113688637756609:=0
def tw6602628013906269701:=0
def tw12018606244921263202:=0
def tw9240466901380732336:=0
def tw9645234405073515831:=0
def tw564700520042233716:=0
def tw3814244523051241798:=0
def tw1045997471289301713:=0
def tw17145546007822723677:=0
def tw17339064300527435131:=0
def tw17661519174823181154:=0
def tw2911919693263252449:=0
def tw1844318222613667465:=0
def tw4656943033454713416:=0
def tw6454678366284958323:=0
def tw8964989502546496583:=0
def tw17575992756784688105:=0
def tw2182521945860851452:=0
def tw7291073461434570496:=0
def tw15070121290613385217:=0
def tw2652095139331744412:=0
def tw8837492182653162726:=0
def tw16860478925567583611:=0
def tw7498503703529249888:=0
def tw2593415911287671412:=0
def tw11992548685191986401:=0
def tw11836010926856324405:=0
def tw1060532577068647323:=0
def tw9213237432850231017:=0
def tw4275624643610103166:=0
def tw861373112123537507:=0
def tw7323781644115270095:=0
def tw12301127892010541529:=0
def tw14457974105355759009:=0
def tw14398790533149704260:=0
def tw173964122026454605:=0
def tw11445126891723877876:=0
def tw17184844177614122691:=0
def tw1978379551464466262:=0
def tw16224546498303267609:=0
def tw13711692711120983670:=0
def tw14410655207703394663:=0
def tw18058596201235748154:=0
def tw1155788426459434091:=0
def tw5772368726863635263:=0
def tw9823158269346613114:=0
def tw2852689206931931382:=0
def tw10594863879599410138:=0
def tw4117650294262936040:=0
def tw12833807617902304805:=0
def tw12768240456965625945:=0
def tw17157396438720441662:=0
def tw1303710578243073622:=0
def tw11879492351968273410:=0
def tw16931281776251693976:=0
def tw5904144632126025877:=0
def tw5402460893483264287:=0
def tw6437241489817323682:=0
def tw4086590339836445519:=0
def tw18400650956987525807:=0
def tw12073716362617568998:=0
def tw9720235195085509467:=0
def tw6803297637774297867:=0
def tw14907280882580286475:=0
def tw11369994266272437994:=0
def tw1539615909629644977:=0
def tw13176036258996755982:=0
def tw9876167936956927917:=0
def tw16555739644770124343:=0
def tw10013107691359354420:=0
def tw4202120601750046985:=0
def tw3965958116228842741:=0
def tw3083105401880191923:=0
def tw4595969306085832747:=0
def tw5762341859767985949:=0
def tw6938319358783876053:=0
def tw2336983628651065767:=0
def tw14662018852660992159:=0
def tw4945896273846073383:=0
def tw14810258947931951674:=0
def tw903903373025956968:=0
def tw5298273001804546856:=0
def tw4447147636462891974:=0
def tw9045762804789616725:=0
def tw2462634257495439806:=0
def tw6983408156066816495:=0
def tw6122070961066330148:=0
def tw11478345892081589373:=0
def tw16981986704856928455:=0
def tw15978442744697370075:=0
def tw15081659932132580579:=0
def tw9101706696313853192:=0
def tw8879238113419549026:=0
def tw2010561077878412816:=0
def tw817461487447741789:=0
def tw6143794743719399425:=0
def tw7628701658161697651:=0
def tw4125431238586423353:=0
def tw15283050893954641801:=0
def tw9134064460403054674:=0
def tw9085371748635012754:=0
def tw18133752728832454066:=0
def tw17899397427644742244:=0
def tw17606033390525690838:=0
def tw14031436315758289581:=0
def tw6542037723166990504:=0
def tw5366980519275856359:=0
def tw9087338720673400986:=0
def tw690022938679389050:=0
def tw17959475042892591695:=0
def tw18395891202709229688:=0
def tw16634602376479758955:=0
def tw3211443401727975302:=0
def tw4996143191341836902:=0
def tw3095885347487135902:=0
def tw2666065663898284189:=0
def tw10575522369261045471:=0
def tw14138698518524263717:=0
def tw2509015037438111248:=0
def tw17274475379939898301:=0
def tw16045589702151189303:=0
def tw15608058114415247389:=0
def tw9534560736944930628:=0
def tw7305606715534614608:=0
def tw5725629912765811481:=0
def tw448400986071528793:=0
def tw1524414527710024328:=0
def tw12236760581912324292:=0
def tw7143604528364968048:=0
def tw11528995377534902508:=0
def tw11765564627459988532:=0
def tw18371261371621210159:=0
def tw7410726850631590770:=0
def tw8286883405868436664:=0
def tw6993844706419295824:=0
def tw9810851279361634053:=0
def tw9683509899024820112:=0
def tw7832121953856622624:=0
def tw16005582278807979281:=0
def tw11847970647461651329:=0
def tw13810498563431227913:=0
def tw6973270156807212708:=0
def tw15004770917327643630:=0
def tw7267923944610739475:=0
def tw3945314499960574439:=0
def tw15839138995798650066:=0
def tw11444857940828568484:=0
def tw9071618942593927777:=0
def tw8808251366344622305:=0
def tw8183724216431330070:=0
def tw1898328304146952073:=0
def tw12041880633782407733:=0
def tw11821341045284898456:=0
def tw942853943387955555:=0
def tw6859943771329126548:=0
def tw4656181367509890664:=0
def tw3464864336616358246:=0
def tw15712353718648971387:=0
def tw14662988563617391102:=0
def tw6924173000833359783:=0
def tw8871982917230476271:=0
def tw9945370861723509548:=0
def tw3726989899020446009:=0
def tw2137666466887108087:=0
def tw13897597360267130574:=0
def tw8924805055413111526:=0
def tw7640180817476685867:=0
def tw6564027982801358584:=0
def tw8964817100771423234:=0
def tw3827213750736927686:=0
def tw2710549405883477692:=0
def tw6574217886905998028:=0
def tw17760599565577259947:=0
def tw12110094210986956808:=0
def tw15352648927125450217:=0
def tw8467448478670463005:=0
def tw7983491241135020646:=0
def tw455586754331221127:=0
def tw1473278377496071700:=0
def tw12115865757337680570:=0
def tw11858291001321931979:=0
def tw14763136402294676791:=0
def tw8753470322785061418:=0
def tw6430403322597021030:=0
def tw4455630955121862234:=0
def tw14343040648938760210:=0
def tw11227597880943000343:=0
def tw7082692585498861318:=0
def tw13639203289753907288:=0
def tw18266093138187567307:=0
def tw15578504386217545463:=0
def tw18089719301717615916:=0
def tw188275915140079538:=0
def tw14508233508819243455:=0
def tw6452882105762822961:=0
def tw13194716125287434197:=0
def tw2600834045319894743:=0
def tw13720837744080172403:=0
def tw7749496236051538790:=0
def tw8635293934162603260:=0
def tw435215231360159846:=0
def tw890932904197411053:=0
def tw1408231499209784730:=0
def tw9058456454112905848:=0
def tw3962598832894257981:=0
def tw2589370041743722716:=0
def tw6146890046077557467:=0
def tw16819935045057344187:=0
def tw13715967151232211596:=0
def tw12427419984618063465:=0
def tw6041181099147206278:=0
def tw16602474474833721510:=0
def tw11967435366260876435:=0
def tw17242170947325693542:=0
def tw9826142508874825432:=0
def tw7721635162046721671:=0
def tw11642866951249762690:=0
def tw7078128338509214483:=0
def tw5612465425585656398:=0
def tw6123811730633200902:=0
def tw7906137266136577307:=0
def tw10730511291099252844:=0
def tw5358414372141514834:=0
def tw4635006358259595115:=0
def tw2727265177665830767:=0
def tw2306130012530481497:=0
def tw4115489299393953635:=0
def tw17880996824921912443:=0
def tw17518118609086325031:=0
def tw2201902562033817815:=0
def tw7735073882732285667:=0
def tw7329915394640601481:=0
def tw18079246577183585249:=0
def tw17666539059226360020:=0
def tw15998921708908797251:=0
def tw14165753055489632905:=0
def tw8294424040486249299:=0
def tw5344493257266045682:=0
def tw4726601417440600176:=0
def tw3099513922563772702:=0
def tw1176323425975014545:=0
def tw5569254539627608646:=0
def tw7322983770243350519:=0
def tw7069343164798509381:=0
def tw5867678073410582938:=0
def tw2591283355375740634:=0
def tw1807827263104536279:=0
def tw17475387194718335947:=0
def tw16145555200154232219:=0
def tw15431483111332062301:=0
def tw14123316880856707102:=0
def tw12067030080714039496:=0
def tw11171862970021299262:=0
def tw10924562378886209241:=0
def tw10187668797180712922:=0
def tw9725110768777922795:=0
def tw8673851850233903173:=0
def tw807998154461945031:=0
def tw8016431119052232685:=0
def tw753315285257216744:=0
def tw6674626022579122929:=0
def tw6377473356995979557:=0
def tw5631179176174765801:=0
def tw5308142977170666500:=0
def tw5209847249736234702:=0
def tw4299705610856832060:=0
def tw3957386984688393253:=0
def tw3768276731701826905:=0
def tw2660972977290243843:=0
def tw2435368351247534678:=0
def tw1906563186499310569:=0
def tw18400182058179918206:=0
def tw18218220970102574121:=0
def tw17146139807951011821:=0
def tw16458907188010270089:=0
def tw15567520305258002968:=0
def tw15541562173400268788:=0
def tw14548159026645120535:=0
def tw12938475376663548188:=0
def tw1287978709989037622:=0
def tw12190903896458533002:=0
def tw11947650423817798597:=0
def tw1116663471695512103:=0
def tw10925272223744265167:=0
def tw3576383419438322605:=0
def tw11853872330270967837:=0
def tw7159021641938403981:=0
def tw542846365731407263:=0
def tw3420767170415727084:=0
def tw122463973314110587:=0
def tw5998836666841598547:=0
def tw3094177767816364299:=0
def tw18123553365709890846:=0
def tw12805123860740892332:=0
def tw2611408889481128488:=0
def tw15439163771513193326:=0
def tw7730065671379792992:=0
def tw4127338031947577951:=0
def tw14654154702162971133:=0
def tw13167740335577385022:=0
def tw8218578976979958532:=0
def tw9729656720463700040:=0
def tw6839272568533534411:=0
def tw6725848971865105066:=0
def tw6187523331002949913:=0
def tw6117888587457747548:=0
def tw584483325221773208:=0
def tw4925861627642917095:=0
def tw2982010454489628333:=0
def tw11598576525199021422:=0
def tw16238729469267041675:=0
def tw9801380579595652953:=0
def tw526090821898004454:=0
def tw1279358541027503712:=0
def tw8510308041764570111:=0
def tw7093919205451048950:=0
def tw681680383885855255:=0
def tw5077253649856326866:=0
def tw3949104316158651449:=0
def tw3939627237000721637:=0
def tw16220251031565683386:=0
def tw1108885917824200087:=0
def tw7246239422465892518:=0
def tw16724729209804178645:=0
def tw12132343380936314544:=0
def tw9817255040932555527:=0
def tw6541255271251606215:=0
def tw4912635836247682820:=0
def tw3659295133624303809:=0
def tw3613477118713773126:=0
def tw2609569705444752407:=0
def tw237199542960676609:=0
def tw18324428203157907235:=0
def tw16865364713431567536:=0
def tw1631409949028095719:=0
def tw15550745119252475281:=0
def tw15003931957513033713:=0
def tw14119246569052592993:=0
def tw13535121445982860550:=0
def tw13019218588932771588:=0
def tw11156066979305813105:=0
def tw105627840260521423:=0
def tw1046998803108248500:=0
def tw7702073159864388346:=0
def tw13700467578698426185:=0
def tw1008857352432390383:=0
def tw7276069573993715185:=0
def tw1390142058770303982:=0
def tw11508200845728963896:=0
def tw10202507772427811166:=0
def tw7529443773193045305:=0
def tw12009788908936949313:=0
def tw7780416449062200047:=0
def tw4719424221671001230:=0
def tw16697953468413770928:=0
def tw16261954316926752450:=0
def tw15975952605612222667:=0
def tw8315329687835743292:=0
def tw500936835430151099:=0
def tw3904748644894070685:=0
def tw2401023162627226861:=0
def tw12002329392066805892:=0
def tw15216766075092540769:=0
def tw9744265268494509633:=0
def tw8868542778766158423:=0
def tw6415284328864286574:=0
def tw6304685170220217381:=0
def tw5781940287129442477:=0
def tw4152183061763546308:=0
def tw3260213637897380520:=0
def tw2190227324177277788:=0
def tw1887507262711047236:=0
def tw154900615174630383:=0
def tw15268984233712751317:=0
def tw14883436083204928499:=0
def tw13801345427087131508:=0
def tw12911655724213080050:=0
def tw12673170585878830727:=0
def tw1156609486502748128:=0
def tw10883365078173360708:=0
def tw7738058744303106644:=0
def tw3817982518701750060:=0
def tw157475290619271104:=0
def tw13683554161885111157:=0
def tw10200594292582523025:=0
def tw944102880005434033:=0
def tw8302541723955561823:=0
def tw7180599776891535760:=0
def tw4726474996593474759:=0
def tw24892730907074352:=0
def tw13096297148022887724:=0
def tw12081383186287531282:=0
def tw11675887760754767337:=0
def tw8014732913824582646:=0
def tw13049181071949359505:=0
def tw11886975063147626918:=0
def tw11542718535090360817:=0
def tw5011312706175276392:=0
def tw16303362977876660854:=0
def tw14010528449406498587:=0
def tw14836842264582944763:=0
def tw13023883436788042070:=0
def tw5146452167579359326:=0
def tw8176708998165809640:=0
def tw5659357735834471848:=0
def tw16345188233860933130:=0
def tw6512245762297368055:=0
def tw16913815013779996760:=0
def tw16440827708697951665:=0
def tw1228372298455122735:=0
def tw4112682331776087321:=0
def tw8758296653579744338:=0
def tw12055567358252881393:=0
def tw11191942483851537280:=0
def tw807192053631656038:=0
def tw16302774285497702866:=0
def tw9505083517931304940:=0
def tw8738906045319575335:=0
def tw838907748135844598:=0
def tw8142078645798802555:=0
def tw7984346045127026130:=0
def tw7861169986453380086:=0
def tw6934053964101333089:=0
def tw6026930360873719577:=0
def tw547247087085665244:=0
def tw5329682572493673542:=0
def tw5167452972646528895:=0
def tw4863432968359950798:=0
def tw4821745641467003651:=0
def tw4237775830142570852:=0
def tw4212117363244670319:=0
def tw2605376382939732899:=0
def tw2464329362134815992:=0
def tw1963190716525197729:=0
def tw14588641693149071331:=0
def tw13980088400412166521:=0
def tw4846061859200098109:=0
def tw15597656653327964413:=0
def tw15046989433135333646:=0
def tw14613344894550621464:=0
def tw15788501910110641937:=0
def tw13051674284324743697:=0
def tw9565674457791868383:=0
def tw9177142769282002471:=0
def tw801945961115154230:=0
def tw6786437829746281862:=0
def tw597901426489932461:=0
def tw5855652209063059677:=0
def tw3354174085985600756:=0
def tw2910334551670252148:=0
def tw16594220729965727662:=0
def tw16351994741821210969:=0
def tw13155082343103736099:=0
def tw12221516405099489274:=0
def tw10023826334073715576:=0
def tw8990838558525688213:=0
def tw7627518318798485659:=0
def tw5994832811635765654:=0
def tw5456395196250929032:=0
def tw408890111823507052:=0
def tw3084022886626023072:=0
def tw15001273476290962968:=0
def tw14260115708132858807:=0
def tw12897327613875019668:=0
def tw1173725088047820242:=0
def tw7731894549598054817:=0
def tw5849116286661583303:=0
def tw2661188028756675254:=0
def tw9207110937795103135:=0
def tw7638567974372592141:=0
def tw17622016228326129645:=0
def tw10127792906451454275:=0
def tw9328324825466942201:=0
def tw7128841763565742879:=0
def tw6836093772629468956:=0
def tw682447612128365943:=0
def tw6243798994452054123:=0
def tw5519290958657463321:=0
def tw2944240981653724402:=0
def tw2739502756646750527:=0
def tw218094367471967549:=0
def tw14476553887264628751:=0
def tw12679373830910410995:=0
def tw12205535060249568765:=0
def tw1123772562121083785:=0
def tw10267313438367975378:=0
def tw10191121438800002287:=0
def tw18153108111997713188:=0
def tw6628185599303072660:=0
def tw9842034180292169933:=0
def tw8953958359399402411:=0
def tw8713626683995355463:=0
def tw8605161010465714154:=0
def tw8524310731270545496:=0
def tw8524126330610203808:=0
def tw8484394002629382160:=0
def tw8338685331079002589:=0
def tw7491126243993194643:=0
def tw7139608743996567742:=0
def tw7028375755340692376:=0
def tw5480681812143483679:=0
def tw5383938030601653773:=0
def tw4572144658536973916:=0
def tw4526193458511156464:=0
def tw4436207064919529518:=0
def tw3897308539920993953:=0
def tw3886957054229090631:=0
def tw3217526236839504735:=0
def tw3135517019160912427:=0
def tw3086761015689005959:=0
def tw2955275259122710378:=0
def tw2253609827590505875:=0
def tw2215450308262111481:=0
def tw18363728634030852175:=0
def tw17852070377209876773:=0
def tw17692294878563215545:=0
def tw17081810919861881618:=0
def tw16973391141526025223:=0
def tw16968438367358957544:=0
def tw16956270478745239489:=0
def tw15415631303456798213:=0
def tw14934869626112522856:=0
def tw14687853150830886882:=0
def tw14226132332229464136:=0
def tw1374817972111520396:=0
def tw12993408760198328357:=0
def tw12962955413437116011:=0
def tw12264056081681944118:=0
def tw11704895999177991875:=0
def tw11004683174286976976:=0
def tw10885707951547951644:=0
def tw10765518849437157448:=0
def tw9723442312695550673:=0
def tw8539432530406689179:=0
def tw8435537330794275767:=0
def tw7550016704504044410:=0
def tw7370343952733014181:=0
def tw5496166725907742172:=0
def tw4465482989209108349:=0
def tw44101219198920070:=0
def tw4149757725114204799:=0
def tw3968208456196312527:=0
def tw3925381676193402988:=0
def tw3665845332350550573:=0
def tw3289854695390394822:=0
def tw2548282744620964635:=0
def tw2546271885834505962:=0
def tw254011956764785594:=0
def tw2486409151678248718:=0
def tw2196248192824183067:=0
def tw2182582558791611334:=0
def tw1849780200464326535:=0
def tw18243458219999635606:=0
def tw1781349511840487862:=0
def tw16273555086905792662:=0
def tw16249977988854415992:=0
def tw16158061919293547224:=0
def tw15980354028514963076:=0
def tw15867658269554087952:=0
def tw15541912086115429463:=0
def tw15302965813086306090:=0
def tw14717847417811620894:=0
def tw14710486391691669901:=0
def tw14039207659966680144:=0
def tw13210606294630830542:=0
def tw13202686989531435239:=0
def tw13169784033014750075:=0
def tw12437435228159604938:=0
def tw11785594161461982159:=0
def tw11649981854777719086:=0
def tw1140409378522031710:=0
def tw10407856711519144721:=0
def tw9995425497540270605:=0
def tw9868166150491833424:=0
def tw9861340857630388313:=0
def tw9805640845173680184:=0
def tw97327009564270256:=0
def tw9732265700362387191:=0
def tw9563816812369927532:=0
def tw9551230618817439811:=0
def tw947837360237337844:=0
def tw9417162806298250271:=0
def tw9376583466469854350:=0
def tw9371685585544559179:=0
def tw9337400526533584907:=0
def tw931514344526136319:=0
def tw9308221616109202063:=0
def tw9220803159043938896:=0
def tw9160960685136739261:=0
def tw9158116071093323565:=0
def tw9154568883167345532:=0
def tw9106371376767987604:=0
def tw9101766203247370783:=0
def tw9075638140359306942:=0
def tw9075632739286483456:=0
def tw9016673846440898655:=0
def tw8979092100067326656:=0
def tw8905430299162801920:=0
def tw8904702109826416295:=0
def tw8843592543256384805:=0
def tw882807936373296804:=0
def tw8788768477359764259:=0
def tw8753931488196888168:=0
def tw8726789008245553227:=0
def tw8716630596714305988:=0
def tw8577905020725312732:=0
def tw856991811497993052:=0
def tw8536579390773945183:=0
def tw8503143348925452198:=0
def tw8335764003444807038:=0
def tw8281256066300627109:=0
def tw8272497854554863594:=0
def tw8135083413181869370:=0
def tw8080563984833097686:=0
def tw8077473764035532041:=0
def tw8077417894871511005:=0
def tw8010920283117100312:=0
def tw7829336045375774993:=0
def tw7787985556993564018:=0
def tw7672052336530208618:=0
def tw7647250223999604618:=0
def tw7641483523265692635:=0
def tw7617793295573765422:=0
def tw760906642423112242:=0
def tw7520132741821925984:=0
def tw7479433283844152226:=0
def tw7259903926180789668:=0
def tw7247576055187407352:=0
def tw7222168422476449246:=0
def tw7220782537873714899:=0
def tw7155488194147239040:=0
def tw7134153616180218624:=0
def tw7058037574420896316:=0
def tw7056123837221656447:=0
def tw6972997883847219517:=0
def tw6964145072521020867:=0
def tw6961179871375932819:=0
def tw694631505174040052:=0
def tw6925210168334271918:=0
def tw691151931226464538:=0
def tw6910874497894441979:=0
def tw689516168822614653:=0
def tw6753030953431426106:=0
def tw6718624499691757474:=0
def tw6717023437935624305:=0
def tw6659428635994858257:=0
def tw6645288832619013409:=0
def tw6644016275494145765:=0
def tw6625842862782236280:=0
def tw6606734774943244350:=0
def tw6546959446194681891:=0
def tw6490077040909281793:=0
def tw646260653572357872:=0
def tw6437848967793469479:=0
def tw6417156882360833335:=0
def tw6397855779032284787:=0
def tw6310509967355815326:=0
def tw610048328886823844:=0
def tw6038985021193229929:=0
def tw6023668268484341864:=0
def tw5994130958576645323:=0
def tw5975287429984617872:=0
def tw5972229652218481338:=0
def tw5960884300832503975:=0
def tw5937311338064426888:=0
def tw5927761852423990591:=0
def tw5874530583550984794:=0
def tw5828533348015177278:=0
def tw5794339434871911352:=0
def tw5715398354246415191:=0
def tw5703016801897902054:=0
def tw5673285307441221683:=0
def tw552426683006195595:=0
def tw5495496821065323457:=0
def tw5492957164804120015:=0
def tw5398632506767251664:=0
def tw5394783998344026581:=0
def tw5272937101309209283:=0
def tw5263971390876556544:=0
def tw5246746801834237693:=0
def tw5175172369707012015:=0
def tw5090526912363263663:=0
def tw5062282384465078805:=0
def tw5045143298713248082:=0
def tw500981204822428269:=0
def tw4986387903154366761:=0
def tw4877701661410579603:=0
def tw4858901982609705668:=0
def tw4841886935097554233:=0
def tw4800015585209908210:=0
def tw4705439377515387280:=0
def tw4652214128399213997:=0
def tw4646102632883320827:=0
def tw4590388014955859332:=0
def tw4590155100893850615:=0
def tw457504322420520286:=0
def tw4551128018368532754:=0
def tw4541907598220185455:=0
def tw4337945405604785483:=0
def tw4322333950229890830:=0
def tw4213151620464170115:=0
def tw4168578290351126318:=0
def tw4159166306548634935:=0
def tw4149045370357574029:=0
def tw4130735761746244948:=0
def tw4084577735977900820:=0
def tw396106712320339768:=0
def tw394203558119684011:=0
def tw3916720632380503615:=0
def tw387158945556682324:=0
def tw3811458957590807765:=0
def tw3771527268912508886:=0
def tw3751876357204116939:=0
def tw3713263644404335362:=0
def tw3623368436785478356:=0
def tw3602093915274271848:=0
def tw3516191377400724397:=0
def tw3448835960091553275:=0
def tw3326807052858841218:=0
def tw331361910028558054:=0
def tw3225173224162133783:=0
def tw3224296985824090517:=0
def tw3214760547519389557:=0
def tw3033891550895132056:=0
def tw293356155733062208:=0
def tw2923032407790163558:=0
def tw2916901126630373059:=0
def tw2846275746691873488:=0
def tw2845595419535326897:=0
def tw2821335356684831925:=0
def tw2653475415684015963:=0
def tw264002137447847483:=0
def tw2630961621408703749:=0
def tw24718974117927652:=0
def tw2467930514245235425:=0
def tw2456886830291059549:=0
def tw2447918086789538010:=0
def tw2433133694434496888:=0
def tw2326637271391746382:=0
def tw2254777818746334186:=0
def tw2197991617175258664:=0
def tw2184810924453642607:=0
def tw2167984922399752171:=0
def tw2162710119048633165:=0
def tw2125992949105502110:=0
def tw2078197837822429191:=0
def tw2034571228199563153:=0
def tw1965335904129509928:=0
def tw1929110462320630217:=0
def tw1928431706342289412:=0
def tw1907939097936595378:=0
def tw18420614663122371079:=0
def tw18342628447180137822:=0
def tw18339406548797930906:=0
def tw18304966872917998674:=0
def tw18172032493740347602:=0
def tw18169642458219466377:=0
def tw18070026985169970747:=0
def tw18012320102069899250:=0
def tw17996995935227285401:=0
def tw17957786321287049857:=0
def tw17932611300995426155:=0
def tw17903822078018540097:=0
def tw17880639429215126003:=0
def tw17733442296974750354:=0
def tw17729537555540521796:=0
def tw17694365523746532644:=0
def tw17648621559032095317:=0
def tw17644857828938290971:=0
def tw17636130836636162507:=0
def tw17561085952746315891:=0
def tw17473933404999466528:=0
def tw17367667637592674139:=0
def tw17345093092267320297:=0
def tw1732550126902378642:=0
def tw17304367375083611763:=0
def tw17253171118819534884:=0
def tw17239612435646630799:=0
def tw17223098295324701158:=0
def tw17158371253926130063:=0
def tw17153067796776994373:=0
def tw17063208931531472383:=0
def tw17052218109013459272:=0
def tw17043963853098860864:=0
def tw17042914234605036577:=0
def tw16951518018613151068:=0
def tw16908856123100400557:=0
def tw1688796598926338536:=0
def tw16824574587736153233:=0
def tw16791332968981277788:=0
def tw16748619070622280553:=0
def tw16724118325140813003:=0
def tw16671086387617642649:=0
def tw16668741072690759881:=0
def tw16568538542529452494:=0
def tw16551403695214668364:=0
def tw16396213940036908441:=0
def tw16368408457433137478:=0
def tw16306158438785012771:=0
def tw16290222061512767971:=0
def tw16274948076397786426:=0
def tw16264839971164813350:=0
def tw16211243945994654861:=0
def tw16205558743356865697:=0
def tw16193247548788467458:=0
def tw16188551889448951049:=0
def tw16163292833047694549:=0
def tw16078385631880338980:=0
def tw16005651123854915347:=0
def tw1595483576018079453:=0
def tw15924091511649208753:=0
def tw1592263543428541533:=0
def tw15908041908891922885:=0
def tw1587822393783799772:=0
def tw15876858928287610128:=0
def tw15869762140472843610:=0
def tw15857650584645760830:=0
def tw15856437714064415032:=0
def tw15846719980110640113:=0
def tw15752874755135405946:=0
def tw15676652997782345071:=0
def tw15639004141140158518:=0
def tw1561059339905816590:=0
def tw15599123829055952348:=0
def tw15583141179424698921:=0
def tw15556501173170394278:=0
def tw15550924660524760973:=0
def tw1544409965645700178:=0
def tw15391661762935108823:=0
def tw15384934521769557792:=0
def tw15326102412672778444:=0
def tw15207938717942658367:=0
def tw15144448988011686474:=0
def tw15138003191328658495:=0
def tw15094309515430848963:=0
def tw15070076267234666765:=0
def tw15062424086975024504:=0
def tw15047356310434823194:=0
def tw15034408596347006649:=0
def tw15002951035197842108:=0
def tw14997098273694931080:=0
def tw14991828293086522297:=0
def tw14917345368669340756:=0
def tw14906788352722721645:=0
def tw14873429291895443675:=0
def tw14842592894405243682:=0
def tw1483566875086176803:=0
def tw14832524721686416998:=0
def tw14772774271837000812:=0
def tw146903375918852686:=0
def tw1464633082950958383:=0
def tw14609013367369208043:=0
def tw14524715244292262192:=0
def tw14388974784606310731:=0
def tw14355985178365985823:=0
def tw14271947307478650509:=0
def tw14268334956712981200:=0
def tw14254697388727065047:=0
def tw14249379278490936741:=0
def tw14208768554469428518:=0
def tw14146741660370881529:=0
def tw14074144800727447090:=0
def tw14069539368081635081:=0
def tw14021746381207131604:=0
def tw14011155054585498342:=0
def tw13982725639765038440:=0
def tw13924199982040190765:=0
def tw13898491248320942569:=0
def tw13846222728010043583:=0
def tw13817541155566320070:=0
def tw13785290808673024693:=0
def tw13782328891292386452:=0
def tw13718577421226483440:=0
def tw13649055854123897540:=0
def tw13562564332591201404:=0
def tw13493330709455177434:=0
def tw13469398133339074652:=0
def tw13447064277746016145:=0
def tw13419138658288187875:=0
def tw13399893187748299129:=0
def tw13197139788882245802:=0
def tw13099822765445311173:=0
def tw1302437643374232400:=0
def tw13015064466667557335:=0
def tw12961462116586308591:=0
def tw12912342313708458634:=0
def tw12882374233253764432:=0
def tw12859264430587554422:=0
def tw12856702850846323027:=0
def tw12826533534908104027:=0
def tw12821145478439367600:=0
def tw12781833511076146642:=0
def tw12680419350918654710:=0
def tw12664226090393652647:=0
def tw1264895028212668217:=0
def tw1261954520733171265:=0
def tw12605263690787757833:=0
def tw12570211570301510989:=0
def tw12480628420546064390:=0
def tw12452657217768167256:=0
def tw12378124924789886602:=0
def tw12343749493074421502:=0
def tw12336901301285608760:=0
def tw12318292742322666313:=0
def tw12303947983251149881:=0
def tw123009872609306852:=0
def tw1228337258591293931:=0
def tw12260891209863263296:=0
def tw12237184852086977415:=0
def tw12206356890066809793:=0
def tw12185672030873899521:=0
def tw12158312716638372516:=0
def tw12071470951682508001:=0
def tw12027758580610296684:=0
def tw12026933255705997664:=0
def tw12016071409748672996:=0
def tw11933740590961258879:=0
def tw11920426543035379825:=0
def tw11909426382214135916:=0
def tw11891218882128427227:=0
def tw11891138301842039136:=0
def tw11870564203647040086:=0
def tw11833682384521230532:=0
def tw11760032290484594491:=0
def tw11758059932799054068:=0
def tw11685967275898358386:=0
def tw11627602413680413245:=0
def tw11470307867866167018:=0
def tw11454709318102216314:=0
def tw11453967356714163233:=0
def tw11438656057386799586:=0
def tw11421831653541591607:=0
def tw11400828600936472190:=0
def tw11387399365859025541:=0
def tw11293043044550918138:=0
def tw11292337948448459461:=0
def tw11193341774300447262:=0
def tw1119094314354365985:=0
def tw11158998932728631620:=0
def tw11117657317674043734:=0
def tw11113469843643689791:=0
def tw11084708431065845128:=0
def tw11045121011906567355:=0
def tw11039080651443388969:=0
def tw10954474687436856628:=0
def tw10946218121090300779:=0
def tw10932048792594356726:=0
def tw10923344401734259558:=0
def tw10851144454980606501:=0
def tw10788119801647084557:=0
def tw10737167029491983033:=0
def tw10673922910361064571:=0
def tw10621356661705052700:=0
def tw10536645540626357876:=0
def tw10461046961484503038:=0
def tw10456105188098338810:=0
def tw10419600837865927787:=0
def tw10398817452861756295:=0
def tw10392351441554168089:=0
def tw10372330404096604455:=0
def tw10317165062937739150:=0
def tw10301368717756810605:=0
def tw10296922307622445254:=0
def tw10296746933259571678:=0
def tw10262053322715366599:=0
def tw10147521630010124955:=0
def tw10143594850120068412:=0
def tw10087969724804777087:=0
def tw10076910511222871180:=0
def tw10070747993382815321:=0
def tw10070106148284660583:=0
end PySem.W.Fast
open PySem PySem.W PyProof.Rows
set_option maxRecDepth 100000 in
set_option maxHeartbeats 0 in
theorem PySem.Challenge.cw_roadsettings_k45_watchers_holds : PySem.Challenge.rw_roadsettings_k45_watchers.Holds := by
  w_on; o_law; k_head; (case hw => w_witness2)
  k_fill
  refine' K45.walk (l := PySem.Challenge.rw_roadsettings_k45_watchers)  rfl rfl (fun w h Y => ⟨PySem.W.km_in_of Y, PySem.W.km_tabs_of Y⟩) ?hK  ?F
  case hK =>
    intro w b hb
    simp only [List.mem_cons, List.not_mem_nil, or_false] at hb
    rcases hb with rfl | rfl
    · exact ⟨by kernel_rfl, 50, by kernel_rfl⟩
    · exact ⟨by kernel_rfl, 428, by kernel_rfl⟩
  case F =>
    intro w mg fa h KX G hmg
    refine' K45.all_mk KX G hmg ?_ ?_ ?_ ?_ ?_ ?_ ?_ ?_ ?_ ?_ ?_ ?_ ?_ ?_ ?_ ?_ ?_ ?_ ?_ ?_ ?_ ?_ ?_ ?_ ?_ ?_ ?_ ?_ ?_ ?_ ?_ ?_ ?_ ?_ ?_ ?_ ?_ ?_ ?_ ?_ ?_ ?_ ?_ ?_ ?_ ?_ ?_ ?_ ?_ ?_ ?_ ?_ ?_ ?_ ?_ ?_ ?_ ?_ ?_ ?_ ?_ ?_ ?_ ?_ ?_ ?_ ?_ ?_ ?_ ?_ ?_ ?_ ?_ ?_ ?_ ?_ ?_ ?_ ?_ ?_ ?_ ?_ ?_ ?_ ?_ ?_ ?_ ?_ ?_ ?_ ?_ ?_ ?_ ?_
    all_goals try (first | refine ⟨⟨by k_is, by k_is, by k_is⟩, ⟨_, _, _, _, _, _, _, _, _, rfl, by k_is, by k_is⟩, by k_is⟩ | refine ⟨by k_is, ⟨_, _, _, _, _, _, _, _, _, rfl, by k_is, by k_is⟩, by k_is⟩ | refine ⟨by k_is, ⟨by k_is, by k_is, by k_is, by k_is⟩, by k_is, by k_is⟩ | refine ⟨⟨by k_is, by k_is, by k_is⟩, ⟨_, _, _, _, _, _, _, _, rfl, by k_is, by k_is⟩, by k_is, by kernel_rfl⟩ | refine ⟨by k_is, ⟨_, _, _, _, _, _, _, _, rfl, by k_is, by k_is⟩, by k_is, by kernel_rfl⟩ | (show _ = _; first | k_is | kernel_rfl))
