import PyProof.Rows.All
import Wide.All
import OpenK.AllK
import Wide.FinOn
import Lean
import PyProof.EqAt
import PyProof.EqKinds
import PyProof.TupleCall
import PyProof.AutoListH
import PyProof.ExcBaseAll.ValueError
import PyProof.ExcAttrAll.ValueError
import PyProof.Logic
import PyProof.StrReplace2
import PySem.Challenge.RW_roadsettings_k67_programs_written
set_option Elab.async false
set_option linter.all false
set_option maxRecDepth 100000
namespace L2
open PySem PySem.Spec PyProof.Rows
abbrev Yw:=Sum Int Str
def ZcY:Yw→Value→Bool
 | .inl k,v=>Value.isInt k v
 | .inr x,v=>Value.isStrOf x v
def keyH (w:World):Yw→Int
 | .inl k=>hashInt k
 | .inr x=>hashStr w x
theorem ZN:∀{k:Yw}{v:Value},ZcY k v=true→(∃ i t,k=Sum.inl i∧v=Value.int i t)∨(∃ x t,k=Sum.inr x∧v=Value.str x t)
 | .inl i,v,h=>by
   obtain ⟨t,e⟩:=Value.isInt_shape (k:=i) (v:=v) h
   exact .inl ⟨i,t,rfl,e⟩
 | .inr x,v,h=>by
   obtain ⟨t,e⟩:=Value.isStrOf_shape (x:=x) (v:=v) h
   exact .inr ⟨x,t,rfl,e⟩
theorem Zeb (a b:Int):decide ((Sum.inl a:Yw)=Sum.inl b)=(a == b):=by
 by_cases e:a=b
 · subst e;simp
 · have h:¬ (Sum.inl a:Yw)=Sum.inl b:=fun q=>e (Sum.inl.inj q)
   rw [decide_eq_false h]
   exact (beq_eq_false_iff_ne.mpr e).symm
theorem ZeJ (a b:Str):decide ((Sum.inr a:Yw)=Sum.inr b)=decide (a=b):=by
 by_cases e:a=b
 · subst e;simp
 · have h:¬ (Sum.inr a:Yw)=Sum.inr b:=fun q=>e (Sum.inr.inj q)
   rw [decide_eq_false h,decide_eq_false e]
theorem ZeU (a:Int)(b:Str):decide ((Sum.inl a:Yw)=Sum.inr b)=false:=decide_eq_false (fun q=>nomatch q)
theorem Zeo (a:Str)(b:Int):decide ((Sum.inr a:Yw)=Sum.inl b)=false:=decide_eq_false (fun q=>nomatch q)
def VX (prog:Program)(w:World):PySem.KeyKind prog w Yw where
 is:=ZcY
 hash:=keyH w
 inj := fun v a b ha hb=>by
   rcases ZN ha with ⟨i,t,rfl,rfl⟩ | ⟨x,t,rfl,rfl⟩
   · rcases ZN hb with ⟨j,u,rfl,e⟩ | ⟨y,u,rfl,e⟩
     · injection e with e1 _;rw [e1]
     · exact nomatch e
   · rcases ZN hb with ⟨j,u,rfl,e⟩ | ⟨y,u,rfl,e⟩
     · exact nomatch e
     · injection e with e1 _;rw [e1]
 byValue:=fun k v h=>by
   rcases ZN h with ⟨i,t,rfl,rfl⟩ | ⟨x,t,rfl,rfl⟩<;>rfl
 pyHash:=fun hv h=>by
   rcases ZN hv with ⟨i,t,rfl,rfl⟩ | ⟨x,t,rfl,rfl⟩
   · exact wpAny_pyHash_int h
   · exact wpAny_pyHash_str h
 eqBool:=fun hu hv h=>by
   rcases ZN hu with ⟨i,t,rfl,rfl⟩ | ⟨x,t,rfl,rfl⟩
   · rcases ZN hv with ⟨j,u,rfl,rfl⟩ | ⟨y,u,rfl,rfl⟩
     · rw [Zeb] at h;exact wpAny_eqBool_int h
     · rw [ZeU] at h;exact SeqAt.EqAt.int_str i t y u _ _ _ _ h
   · rcases ZN hv with ⟨j,u,rfl,rfl⟩ | ⟨y,u,rfl,rfl⟩
     · rw [Zeo] at h;exact SeqAt.EqAt.str_int x t j u _ _ _ _ h
     · rw [ZeJ] at h;exact wpAny_eqBool_str h
 «strs»:=fun k x t v h=>by
   rcases ZN h with ⟨i,u,rfl,e⟩ | ⟨y,u,rfl,e⟩
   · exact nomatch e
   · injection e with e1 _
     subst e1
     cases v<;>rfl
end L2
namespace L2
open PySem PySem.Spec PyProof.Rows
inductive V where
 | non | bl (b:Bool) | int (i:Int) | str (x:Str) | byt (b:Array UInt8) | flt (b:UInt64) | ref (a:Addr) | ty (n:String)
 deriving DecidableEq
def RelV:V→Value→Prop
 | .non,u=>u=Value.none
 | .bl b,u=>u=Value.bool b
 | .int i,u=>∃ t,u=Value.int i t
 | .str x,u=>∃ t,u=Value.str x t
 | .byt b,u=>∃ t,u=Value.bytes b t
 | .flt b,u=>∃ t,u=Value.float b t
 | .ref a,u=>u=Value.ref a
 | .ty n,u=>u=Value.type n
abbrev Vals:List V→List Value→Prop:=Paired RelV
theorem Vals.length {xs:List V}{us:List Value}(r:Vals xs us):xs.length=us.length:=Paired.length r
theorem Vals.get:∀{xs:List V}{us:List Value}{i:Nat}{x:V},Vals xs us→xs[i]?=some x→∃ u,us[i]?=some u∧RelV x u
 | _,_,_,_,.nil,e=>by simp at e
 | _,_,0,_,.cons r _,e=>by simp at e;subst e;exact ⟨_,rfl,r⟩
 | _,_,i+1,x,.cons _ t,e=>by
   obtain ⟨u,h1,h2⟩:=Vals.get (i:=i) (x:=x) t (by simpa using e)
   exact ⟨u,by simpa using h1,h2⟩
theorem Vals.set {x:V}{u:Value}(r:RelV x u):∀{xs:List V}{us:List Value}(i:Nat),Vals xs us→Vals (xs.set i x) (us.set i u)
 | _,_,_,.nil=>.nil
 | _,_,0,.cons _ t=>.cons r t
 | _,_,i+1,.cons q t=>.cons q (Vals.set r i t)
theorem Vals.append:∀{xs ys:List V}{us ws:List Value},Vals xs us→Vals ys ws→Vals (xs++ys) (us++ws)
 | _,_,_,_,.nil,s=>s
 | _,_,_,_,.cons r t,s=>.cons r (Vals.append t s)
theorem Vals.take:∀{xs:List V}{us:List Value}(n:Nat),Vals xs us→Vals (xs.take n) (us.take n)
 | _,_,0,_=>.nil
 | _,_,_+1,.nil=>.nil
 | _,_,n+1,.cons r t=>.cons r (Vals.take n t)
theorem Vals.drop:∀{xs:List V}{us:List Value}(n:Nat),Vals xs us→Vals (xs.drop n) (us.drop n)
 | _,_,0,r=>r
 | _,_,_+1,.nil=>.nil
 | _,_,n+1,.cons _ t=>Vals.drop n t
def Zcw:Option V→Option Value→Prop
 | some v,some u=>RelV v u
 | none,none=>True
 | _,_=>False
def KV {κ:Type}:List (κ×V)→List (κ×Value)→Prop:=Paired fun (p:κ×V) (q:κ×Value)=>p.1=q.1∧RelV p.2 q.2
def kV:Yw→V
 | .inl i=>.int i
 | .inr x=>.str x
inductive HO where
 | lst (xs:List V)
 | tup (xs:List V)
 | dK (kvs:List (Yw×V)) | dT (kvs:List (List Yw×V))
 | set (S:Int→Bool) (n:Nat)
 | ins (C dx:Addr) (fs:List (Str×V))
 | own (x:Addr)
 | xd (fs:List (Str×V))
 | met (f x:Addr)
 | rng (lo hi:Int)
 | frz (o:Obj) (u:HO)
 | tbl (ps:Array Value)
 | ext (φ:Heap→Prop)
abbrev Hp:=Addr→Option HO
def upd (H:Hp)(a:Addr)(o:HO):Hp:=fun b=>if b=a then some o else H b
theorem Zh {H:Hp}{a:Addr}{o:HO}:upd H a o a=some o:=by unfold upd;rw [if_pos rfl]
theorem Zp {H:Hp}{a b:Addr}{o:HO}(h:b≠a):upd H a o b=H b:=by unfold upd;rw [if_neg h]
theorem WT {H:Hp}{a b:Addr}{o u:HO}(h:H a=some o)(h':H b=some u)(d:o≠u):a≠b:=by
 intro e;subst e;rw [h] at h';exact d (Option.some.inj h')
theorem Zz {H:Hp}{a b:Addr}{o:HO}(h:H a=some o)(h':H b=none):a≠b:=by
 intro e;subst e;rw [h] at h';cases h'
section
variable (P:Program)(w:World)
def ObjOk (H:Hp)(h:Heap)(a:Addr):HO→Prop
 | .lst xs=>xs.length≤sizeLine∧∃ (its:List Value) (n:Nat),Vals xs its∧h.get? a=some { cls:=.type "list",data:=.seq its.toArray n }
 | .tup xs=>xs.length≤sizeLine∧∃ its:List Value,Vals xs its∧IsTup h a its.toArray
 | .dK kvs=>kvs.length≤sizeLine∧(a == sysModules)=false∧∃ vs,KV kvs vs∧h.DictOf (VX P w) a vs
 | .dT kvs=>kvs.length≤sizeLine∧(a == sysModules)=false∧∃ xs:List (List Yw×Addr×Value),
     Paired (fun (p:List Yw×V) (q:List Yw×Addr×Value)=>p.1=q.1∧H q.2.1=some (.tup (p.1.map kV))∧RelV p.2 q.2.2) kvs xs ∧
     ∃ o es ep,h.get? a=some o∧o.ExactDict∧o.data=.dict es ep∧es.toList=xs.map (entryOfKey (tupleKind (VX P w)))∧(xs.map (·.1)).Nodup
 | .set S n=>h.SetOf (intKind P w) a S n
 | .ins C dx fs=>H dx=some (.own a)∧fs.length≤1000∧dx≠a∧h.get? a=some (PySem.W.instObj C dx) ∧
     ∃ mA,h.Ns1 dx mA∧(∀ f,Zcw (fs.lookup f) (mA f))∧PySem.Within mA (fs.map (·.1))
 | .own _=>∃ o,h.get? a=some o
 | .xd fs=>∃ mA,h.Ns1 a mA∧∀ f,Zcw (fs.lookup f) (mA f)
 | .rng lo hi=>∃ t u v,h.get? a=some { cls:=.type "range",data:=.fields #[.int lo t,.int hi u,.int 1 v] }
 | .frz o u=>h.get? a=some o∧ObjOk H h a u
 | .tbl ps=>h.get? a=some { cls:=.none,data:=.fields ps }
 | .met f x=>h.get? a=some (PySem.W.methodObj (.ref f) (.ref x))
 | .ext φ=>φ h∧(∃ o,h.get? a=some o)∧∀ h1 h2:Heap,φ h1→(∀ o,h1.get? a=some o→h2.get? a=some o)→φ h2
def HOk (H:Hp)(h:Heap):Prop:=∀ a o,H a=some o→ObjOk P w H h a o
end
section
variable {P:Program}{w:World}{H H':Hp}{h h':Heap}{a:Addr}{o:HO}
theorem ObjOk.lt (x:ObjOk P w H h a o):a < h.objs.size:=by
 cases o with
 | lst xs=>obtain ⟨_,_,_,_,e⟩:=x;exact Heap.lt_size e
 | tup xs=>obtain ⟨_,_,_,p⟩:=x;exact p.lt
 | dK kvs=>obtain ⟨_,_,_,_,o,_,_,e,_⟩:=x;exact Heap.lt_size e
 | dT kvs=>obtain ⟨_,_,_,_,o,_,_,e,_⟩:=x;exact Heap.lt_size e
 | set S n=>obtain ⟨o,_,_,_,e,_⟩:=x;exact Heap.lt_size e
 | ins C dx fs=>obtain ⟨_,_,_,e,_⟩:=x;exact Heap.lt_size e
 | own y=>obtain ⟨_,e⟩:=x;exact Heap.lt_size e
 | xd fs=>obtain ⟨_,⟨_,_,_,e,_⟩,_⟩:=x;exact Heap.lt_size e
 | rng lo hi=>obtain ⟨_,_,_,e⟩:=x;exact Heap.lt_size e
 | frz ob u=>obtain ⟨e,_⟩:=x;exact Heap.lt_size e
 | tbl ps=>exact Heap.lt_size (show h.get? a=some _ from x)
 | met f y=>exact Heap.lt_size (show h.get? a=some _ from x)
 | ext φ=>obtain ⟨_,⟨_,e⟩,_⟩:=x;exact Heap.lt_size e
theorem Paired.mapP {α β:Type}{F G:α→β→Prop}:∀{l₁:List α}{l₂:List β},Paired F l₁ l₂→(∀ a b,F a b→G a b)→Paired G l₁ l₂
 | _,_,.nil,_=>.nil
 | _,_,.cons r t,f=>.cons (f _ _ r) (Paired.mapP t f)
theorem ObjOk.stay (x:ObjOk P w H h a o)(k:∀ b u,(b=a∨H b=some (.own a))→h.get? b=some u→h'.get? b=some u)
   (ho:∀ b,H b=some (.own a)→H' b=some (.own a)) (ht:∀ b xs,H b=some (.tup xs)→H' b=some (.tup xs)):ObjOk P w H' h' a o:=by
 induction o with
 | lst xs=>obtain ⟨z,its,n,r,e⟩:=x;exact ⟨z,its,n,r,k _ _ (.inl rfl) e⟩
 | tup xs=>obtain ⟨z,its,r,ob,e,c⟩:=x;exact ⟨z,its,r,ob,k _ _ (.inl rfl) e,c⟩
 | dK kvs=>obtain ⟨z,y,vs,r,ob,es,ep,e,c⟩:=x;exact ⟨z,y,vs,r,ob,es,ep,k _ _ (.inl rfl) e,c⟩
 | dT kvs =>
   obtain ⟨z,y,xs,r,ob,es,ep,e,c⟩:=x
   exact ⟨z,y,xs,Paired.mapP r fun p q z=>⟨z.1,ht _ _ z.2.1,z.2.2⟩,ob,es,ep,k _ _ (.inl rfl) e,c⟩
 | set S n=>obtain ⟨ob,es,ep,t,e,c⟩:=x;exact ⟨ob,es,ep,t,k _ _ (.inl rfl) e,c⟩
 | ins C dx fs =>
   obtain ⟨d,z,ne,e,mA,⟨od,es,ep,e2,c⟩,r⟩:=x
   exact ⟨ho _ d,z,ne,k _ _ (.inl rfl) e,mA,⟨od,es,ep,k _ _ (.inr d) e2,c⟩,r⟩
 | own y=>obtain ⟨ob,e⟩:=x;exact ⟨ob,k _ _ (.inl rfl) e⟩
 | xd fs=>obtain ⟨mA,⟨od,es,ep,e,c⟩,r⟩:=x;exact ⟨mA,⟨od,es,ep,k _ _ (.inl rfl) e,c⟩,r⟩
 | rng lo hi=>obtain ⟨t,u,v,e⟩:=x;exact ⟨t,u,v,k _ _ (.inl rfl) e⟩
 | frz ob u ih=>obtain ⟨e,q⟩:=x;exact ⟨k _ _ (.inl rfl) e,ih q⟩
 | tbl ps =>
   have e:h.get? a=some { cls:=.none,data:=.fields ps }:=x
   show h'.get? a=some { cls:=.none,data:=.fields ps }
   exact k a _ (.inl rfl) e
 | met f y =>
   have e:h.get? a=some (PySem.W.methodObj (.ref f) (.ref y)):=x
   show h'.get? a=some (PySem.W.methodObj (.ref f) (.ref y))
   exact k a _ (.inl rfl) e
 | ext φ=>obtain ⟨p,⟨o,e⟩,st⟩:=x;exact ⟨st _ _ p fun o q=>k _ _ (.inl rfl) q,⟨o,k _ _ (.inl rfl) e⟩,st⟩
theorem HOk.lt (x:HOk P w H h)(e:H a=some o):a < h.objs.size:=(x a o e).lt
theorem HOk.fresh (x:HOk P w H h)(e:h.objs.size≤a):H a=none:=by
 cases q:H a with
 | none=>rfl
 | some u=>exact absurd (Nat.lt_of_lt_of_le (x.lt q) e) (Nat.lt_irrefl _)
theorem HOk.kept (x:HOk P w H h)(k:∀ b u,h.get? b=some u→h'.get? b=some u):HOk P w H h':=fun a o e =>
 (x a o e).stay (fun b u _ q=>k b u q) (fun _ q=>q) fun _ _ q=>q
theorem HOk.laid (x:HOk P w H h)(k:∀ b u,h.get? b=some u→h'.get? b=some u)(hp:h.objs.size≤a)(new:ObjOk P w (upd H a o) h' a o):HOk P w (upd H a o) h':=fun b u e=>by
 have hn:=x.fresh hp
 by_cases hb:b=a
 · subst hb;rw [Zh] at e;cases e;exact new
 · rw [Zp hb] at e
   exact (x b u e).stay (fun c v _ q=>k c v q) (fun c q=>by rw [Zp (Zz q hn)];exact q) fun c xs q=>by rw [Zp (Zz q hn)];exact q
end
def Rd (H:Hp)(a:Addr)(u:HO):Prop:=H a=some u∨∃ o,H a=some (.frz o u)
theorem Rd.ok {P:Program}{w:World}{H:Hp}{h:Heap}{a:Addr}{u:HO}(r:Rd H a u)(x:HOk P w H h):ObjOk P w H h a u:=by
 rcases r with r | ⟨o,r⟩
 · exact x a u r
 · obtain ⟨_,q⟩:=x a _ r
   exact q
def Mut:Option HO→Prop
 | some (.lst _)=>True
 | some (.dK _)=>True
 | some (.dT _)=>True
 | some (.set _ _)=>True
 | some (.ins _ _ _)=>True
 | some (.ext _)=>True
 | _=>False
section
variable {P:Program}{w:World}{H:Hp}{h h':Heap}{x e:Addr}{o':HO}
theorem HOk.write (ok:HOk P w H h)(mu:Mut (H x))(he:e=x∨H e=some (.own x))(k:∀ b u,b≠e→h.get? b=some u→h'.get? b=some u)(heo:∃ u,h'.get? e=some u)
   (new:ObjOk P w (upd H x o') h' x o'):HOk P w (upd H x o') h':=fun b u q=>by
 have nown:∀ c y,H c=some (.own y)→c≠x:=fun c y r z=>by subst z;rw [r] at mu;exact mu
 have ntup:∀ c xs,H c=some (.tup xs)→c≠x:=fun c xs r z=>by subst z;rw [r] at mu;exact mu
 by_cases hb:b=x
 · subst hb;rw [Zh] at q;cases q;exact new
 · rw [Zp hb] at q
   by_cases hbe:b=e
   · have q':H b=some (.own x):=by
       rcases he with z | z
       · exact absurd (hbe.trans z) hb
       · rw [hbe];exact z
     rw [q] at q';cases q'
     obtain ⟨v,hv⟩:=heo
     exact ⟨v,by rw [hbe];exact hv⟩
   · refine (ok b u q).stay (fun c v hc r=>k c v ?_ r) (fun c r=>by rw [Zp (nown c b r)];exact r) fun c xs r=>by rw [Zp (ntup c xs r)];exact r
     rcases hc with rfl | hc
     · exact hbe
     · rintro rfl
       rcases he with z | z
       · exact nown c b hc z
       · rw [hc] at z;cases z;exact hb rfl
end
structure Un (fs ex:List Addr)(H H':Hp)(h h':Heap):Prop where
 keep:∀ b o,h.get? b=some o→H b=none→b ∉ fs→b ∉ ex→h'.get? b=some o
 slot:∀ b o,h.get? b=some o→H b=none→b∈fs→b ∉ ex→∃ sl,h'.get? b=some { o with slots:=sl }
 free:∀ b o,h.get? b=some o→H b=none→b ∉ ex→H' b=none
 there:∀ b o,h.get? b=some o→b ∉ ex→∃ o',h'.get? b=some o'
 tups:∀ b xs,H b=some (.tup xs)→H' b=some (.tup xs)
 frzs:∀ b o u,H b=some (.frz o u)→H' b=some (.frz o u)
 tbls:∀ b ps,H b=some (.tbl ps)→∃ more,H' b=some (.tbl (ps++more))
section
variable {fs fs' ex ex':List Addr}{H H1 H2:Hp}{h h1 h2 h':Heap}{a x e:Addr}{o:HO}
theorem Un.any (u:Un fs ex H H1 h h1){b:Addr}{ob:Obj}(q:h.get? b=some ob)(n:H b=none)(hx:b ∉ ex):∃ sl,h1.get? b=some { ob with slots:=sl }:=by
 by_cases hb:b∈fs
 · exact u.slot b ob q n hb hx
 · exact ⟨ob.slots,u.keep b ob q n hb hx⟩
theorem Un.kept (k:∀ b u,h.get? b=some u→h'.get? b=some u):Un fs ex H H h h' :=
 ⟨fun b ob q _ _ _=>k b ob q,fun b ob q _ _ _=>⟨ob.slots,k b ob q⟩,fun _ _ _ n _=>n,fun b ob q _=>⟨ob,k b ob q⟩,fun _ _ q=>q,fun _ _ _ q=>q,fun _ ps q=>⟨#[],by rw [q];simp⟩⟩
theorem Un.refl:Un fs ex H H h h:=Un.kept fun _ _ q=>q
theorem Un.laid (k:∀ b u,h.get? b=some u→h'.get? b=some u)(hp:h.objs.size≤a)(hn:H a=none):Un fs ex H (upd H a o) h h' where
 keep:=fun b u q _ _ _=>k b u q
 slot:=fun b u q _ _ _=>⟨u.slots,k b u q⟩
 free:=fun b u q n _=>by rw [Zp (Nat.ne_of_lt (Nat.lt_of_lt_of_le (Heap.lt_size q) hp))];exact n
 there:=fun b u q _=>⟨u,k b u q⟩
 tups:=fun b xs q=>by rw [Zp (Zz q hn)];exact q
 frzs:=fun b u xs q=>by rw [Zp (Zz q hn)];exact q
 tbls:=fun b ps q=>⟨#[],by rw [Zp (Zz q hn),q];simp⟩
theorem Un.write (mu:Mut (H x))(he:e=x∨H e=some (.own x))(k:∀ b u,b≠e→h.get? b=some u→h'.get? b=some u)(heo:∃ u,h'.get? e=some u):Un fs ex H (upd H x o) h h':=by
 have hx:∀ b,H b=none→b≠x:=fun b n z=>by subst z;rw [n] at mu;exact mu
 have hb:∀ b,H b=none→b≠e:=fun b n z=>by
   subst z
   rcases he with r | r
   · exact hx b n r
   · rw [n] at r;cases r
 have hm:∀ b u,H b=some u→¬ Mut (some u)→b≠x:=fun b u q nm z=>by subst z;rw [q] at mu;exact nm mu
 refine ⟨fun b u q n _ _=>k b u (hb b n) q,fun b u q n _ _=>⟨u.slots,k b u (hb b n) q⟩,fun b u q n _=>by rw [Zp (hx b n)];exact n,fun b u q _=>?_,
   fun b xs q=>by rw [Zp (hm b _ q fun z=>z)];exact q,fun b u xs q=>by rw [Zp (hm b _ q fun z=>z)];exact q,fun b ps q=>⟨#[],by rw [Zp (hm b _ q fun z=>z),q];simp⟩⟩
 by_cases hbe:b=e
 · subst hbe;exact heo
 · exact ⟨u,k b u hbe q⟩
end
def trk (h:Heap)(H:Hp):List Addr:=(List.range h.objs.size).filter fun a=>(H a).isSome
def XD (h:Heap)(H:Hp):Heap:=PySem.W.hideAll h (trk h H)
theorem ZbO (h:Heap)(H:Hp):(XD h H).objs.size=h.objs.size:=PySem.W.hideAll_size _ _
theorem ZcF {h:Heap}{H:Hp}{b:Addr}{o:Obj}(e:h.get? b=some o)(n:H b=none):(XD h H).get? b=some o :=
 PySem.W.hideAll_get _ e fun hm=>by
   have q:(H b).isSome=true:=(List.mem_filter.mp hm).2
   rw [n] at q;simp at q
theorem ZdE {h:Heap}{H:Hp}{b:Addr}{o:Obj}(e:(XD h H).get? b=some o):h.get? b=some o∧H b=none:=by
 have e':h.get? b=some o:=PySem.W.of_hideAll (trk h H) e
 refine ⟨e',?_⟩
 cases q:H b with
 | none=>rfl
 | some x =>
   have hm:b∈trk h H:=List.mem_filter.mpr ⟨List.mem_range.mpr (Heap.lt_size e'),by simp [q]⟩
   have z:(XD h H).get? b=none:=PySem.W.hideAll_none (trk h H) hm
   rw [z] at e;cases e
end L2
namespace L2
open PySem PySem.Spec PyProof.Rows
structure Mod (K:PySem.W.Frag)(mg:Str→Option Value)(base:Heap):Prop where
 kin:K.In base
 glob:base.Ns mainGlobals mg
 blt:∃ mb,base.Ns builtinsNs mb∧∀ x:Str,x≠"__name__"→mb x=bootBuiltins x
 nolimit:base.NoLimit
structure Cx where
 prog:Program
 w:World
 K:PySem.W.Frag
 mg:Str→Option Value
 base:Heap
 A:Around
 N:List Str
 s₀:Shared
 H₀:Hp
 env:Env
 outer:List Env
 stack:List Env
 ex:List Addr
 fn:Str→Bool
 calm:Bool
 pn:List (Addr×Obj)
 xe:Value→Shared→Prop
def Wf (l:List Env):List Addr:=l.filterMap (·.frame)
abbrev Cx.fs (X:Cx):List Addr:=Wf X.outer
def Vis (sc:Scope)(x:Str):Prop:=sc.names.lookup x=some .local∨sc.names.lookup x=some .cell∨sc.names.lookup x=some .free
def Loc (sc:Scope)(x:Str):Prop:=sc.names.lookup x=some .local∨sc.names.lookup x=some .cell
def Look (env:Env)(h:Heap)(m:Str→Option Value)(x:Str)(u:Value):Prop :=
 (env.kindOf x=some .local∧m x=some u)∨((env.kindOf x=some .cell∨env.kindOf x=some .free)∧∃ c,env.cells.lookup x=some c∧h.IsCell c (some u))
structure Cx.Ok (X:Cx):Prop where
 mod:Mod X.K X.mg X.base
 kind:X.env.scope.kind=.function
 glob:X.env.globals=mainGlobals
 blt:X.env.builtins=builtinsNs
 above:X.s₀.heap.objs.size≤X.env.locals
 inj:∀ x y c,X.env.cells.lookup x=some c→X.env.cells.lookup y=some c→x=y
 has:∀ x,(X.env.kindOf x=some .cell∨X.env.kindOf x=some .free)→∃ c,X.env.cells.lookup x=some c
 cab:∀ x c,X.fn x=true→X.env.cells.lookup x=some c→X.s₀.heap.objs.size≤c
 hd:X.calm=true→X.A.handled=none
 frames:X.A.frames=some X.stack
 stk:X.stack=X.outer∨(X.stack=X.env::X.outer∧X.env.frame=some X.env.locals)
 exf:∀ b∈X.ex,b≠X.env.locals∧∀ x c,X.env.cells.lookup x=some c→c≠b
 bs:∀ b o,X.base.get? b=some o→X.s₀.heap.get? b=some o∧X.H₀ b=none
 bsz:X.base.objs.size≤X.s₀.heap.objs.size
 noex:∀ b o,X.base.get? b=some o→b ∉ X.ex
 exfs:∀ b∈X.ex,b ∉ X.fs
 funs:X.s₀.heap.FunFrames X.base X.outer
 frf:∀ b∈X.fs,X.H₀ b=none
structure Inv (X:Cx)(pins:List (Addr×Obj))(σ:List (Option V))(H:Hp)(s:Shared):Prop where
 ok:X.Ok
 os:s.os=X.s₀.os
 bare:AllBare s.gens
 base:Un X.fs X.ex X.H₀ H X.s₀.heap s.heap
 loc:∃ m,s.heap.Ns X.env.locals m∧∀ (i:Nat) (x:Str) (v:V),X.N[i]?=some x→σ[i]?=some (some v)→Vis X.env.scope x→∃ u,RelV v u∧Look X.env s.heap m x u
 cell:∀ x c,X.env.cells.lookup x=some c→∃ v,s.heap.IsCell c v
 free:H X.env.locals=none
 freeC:∀ x c,X.env.cells.lookup x=some c→H c=none
 pin:∀ p∈X.pn++pins,s.heap.get? p.1=some p.2∧H p.1=none∧p.1≠X.env.locals∧p.1 ∉ X.fs∧∀ v,p.2.data≠.cell v
 hok:HOk X.prog X.w H s.heap
 len:σ.length=X.N.length
section
variable {X:Cx}{pins:List (Addr×Obj)}{σ:List (Option V)}{H H':Hp}{s:Shared}{h':Heap}
theorem Cx.Ok.nofr (ok:X.Ok){b:Addr}{o:Obj}(e:X.base.get? b=some o):b ∉ X.fs:=fun hb=>by
 have:=(ok.funs.mem hb).1
 rw [e] at this;cases this
theorem Inv.bs (I:Inv X pins σ H s):∀ b o,X.base.get? b=some o→s.heap.get? b=some o∧H b=none:=fun b o e =>
 ⟨I.base.keep b o (I.ok.bs b o e).1 (I.ok.bs b o e).2 (I.ok.nofr e) (I.ok.noex b o e),I.base.free b o (I.ok.bs b o e).1 (I.ok.bs b o e).2 (I.ok.noex b o e)⟩
theorem Inv.bk (I:Inv X pins σ H s):∀ b o,X.base.get? b=some o→s.heap.get? b=some o:=fun b o e=>(I.bs b o e).1
theorem Inv.mod (I:Inv X pins σ H s):Mod X.K X.mg X.base:=I.ok.mod
theorem Inv.kIn (I:Inv X pins σ H s):X.K.In s.heap:=I.ok.mod.kin.keeps I.bk
theorem Inv.nolimit (I:Inv X pins σ H s):s.heap.NoLimit:=I.ok.mod.nolimit.keeps I.bk
theorem Inv.lt (I:Inv X pins σ H s):X.env.locals < s.heap.objs.size:=let ⟨_,hn,_⟩:=I.loc;hn.lt
theorem Inv.sz (I:Inv X pins σ H s):X.s₀.heap.objs.size≤s.heap.objs.size:=Nat.le_trans I.ok.above (Nat.le_of_lt I.lt)
theorem Inv.nofs (I:Inv X pins σ H s){a:Addr}(h:s.heap.objs.size≤a):a ∉ X.fs:=fun hb=>by
 obtain ⟨_,o,ho,_⟩:=I.ok.funs.mem hb
 exact absurd (Nat.lt_of_lt_of_le (Heap.lt_size ho) (Nat.le_trans I.sz h)) (Nat.lt_irrefl _)
theorem Inv.cne (I:Inv X pins σ H s):∀ x c,X.env.cells.lookup x=some c→c≠X.env.locals:=fun x c e z=>by
 obtain ⟨v,o,ho,hd⟩:=I.cell x c e
 obtain ⟨m,⟨o',es,ep,ho',hd',_⟩,_⟩:=I.loc
 rw [z,ho'] at ho;cases ho;rw [hd'] at hd;cases hd
theorem Inv.funs (I:Inv X pins σ H s):s.heap.FunFrames X.base X.outer:=by
 have all:∀ (l:List Env),(∀ b∈Wf l,b∈X.fs)→X.s₀.heap.FunFrames X.base l→s.heap.FunFrames X.base l:=by
   intro l
   induction l with
   | nil=>intro _ _;trivial
   | cons env r ih =>
     intro hs hl
     obtain ⟨hk,⟨L,o,hf,hn,ho,hd⟩,hr⟩:=hl
     have hL:L∈X.fs:=hs L (by unfold Wf;rw [List.filterMap_cons,hf];exact List.mem_cons_self)
     obtain ⟨sl,e⟩:=I.base.slot L o ho (I.ok.frf L hL) hL fun z=>I.ok.exfs L z hL
     exact ⟨hk,⟨L,_,hf,hn,e,hd⟩,ih (fun b hb=>hs b (by unfold Wf;rw [List.filterMap_cons,hf];exact List.mem_cons_of_mem _ hb)) hr⟩
 exact all X.outer (fun _ hb=>hb) I.ok.funs
theorem Inv.stack (I:Inv X pins σ H s):s.heap.FunFrames X.base X.stack:=by
 rcases I.ok.stk with e | ⟨e,hf⟩
 · rw [e];exact I.funs
 · rw [e]
   obtain ⟨m,hn,_⟩:=I.loc
   refine .cons (by rw [I.ok.kind];decide) hf hn ?_ I.funs
   exact Heap.get?_none_of_le (Nat.le_trans I.ok.bsz I.ok.above)
theorem Inv.stkSub (I:Inv X pins σ H s):∀ b∈Wf X.stack,b∈X.env.locals::X.fs:=fun b hb=>by
 rcases I.ok.stk with e | ⟨e,hf⟩
 · rw [e] at hb;exact List.mem_cons_of_mem _ hb
 · rw [e] at hb
   unfold Wf at hb
   rw [List.filterMap_cons,hf] at hb
   exact hb
theorem Inv.stkFree (I:Inv X pins σ H s):∀ b∈Wf X.stack,H b=none:=fun b hb=>by
 rcases List.mem_cons.mp (I.stkSub b hb) with e | hb
 · rw [e];exact I.free
 · obtain ⟨_,o,ho,_⟩:=I.ok.funs.mem hb
   exact I.base.free b o ho (I.ok.frf b hb) fun z=>I.ok.exfs b z hb
theorem Inv.step {g':Array GenState}{t':Nat}{d':Drawn}{ch:List Addr}(I:Inv X pins σ H s)
   (hch:∀ b∈ch,(b∈X.ex∨X.s₀.heap.objs.size≤b)∧b≠X.env.locals∧(∀ x c,X.env.cells.lookup x=some c→c≠b)∧∀ p∈X.pn++pins,p.1≠b)
   (keep:∀ b o,b≠X.env.locals→b ∉ X.fs→b ∉ ch→s.heap.get? b=some o→H b=none→h'.get? b=some o)
   (slot:∀ b o,b≠X.env.locals→b∈X.fs→b ∉ ch→s.heap.get? b=some o→H b=none→∃ sl,h'.get? b=some { o with slots:=sl }) (free:∀ b o,b ∉ ch→s.heap.get? b=some o→H b=none→H' b=none)
   (there:∀ b o,b ∉ ch→s.heap.get? b=some o→∃ o',h'.get? b=some o')
   (tups:∀ b xs,H b=some (.tup xs)→H' b=some (.tup xs)) (frzs:∀ b o u,H b=some (.frz o u)→H' b=some (.frz o u)) (tbls:∀ b ps,H b=some (.tbl ps)→∃ more,H' b=some (.tbl (ps++more)))
   (ns:∀ m,s.heap.Ns X.env.locals m→h'.Ns X.env.locals m) (hok:HOk X.prog X.w H' h') (hg:AllBare g') :
   Inv X pins σ H' { s with heap:=h',gens:=g',drawn:=d',toks:=t' }:=by
 have neL:∀ b o,X.s₀.heap.get? b=some o→b≠X.env.locals:=fun b o e=>Nat.ne_of_lt (Nat.lt_of_lt_of_le (Heap.lt_size e) I.ok.above)
 have neC:∀ b o,X.s₀.heap.get? b=some o→b ∉ X.ex→b ∉ ch:=fun b o e hx hb=>by
   rcases (hch b hb).1 with z | z
   · exact hx z
   · exact absurd (Nat.lt_of_lt_of_le (Heap.lt_size e) z) (Nat.lt_irrefl _)
 have cellK:∀ x c,X.env.cells.lookup x=some c→∀ v,s.heap.IsCell c v→h'.IsCell c v:=fun x c e v ⟨o,ho,hd⟩=>by
   have nch:c ∉ ch:=fun z=>(hch c z).2.2.1 x c e rfl
   by_cases hc:c∈X.fs
   · obtain ⟨sl,q⟩:=slot c o (I.cne x c e) hc nch ho (I.freeC x c e)
     exact ⟨_,q,hd⟩
   · exact ⟨o,keep c o (I.cne x c e) hc nch ho (I.freeC x c e),hd⟩
 refine ⟨I.ok,I.os,hg,⟨fun b o e n hb hx=>?_,fun b o e n hb hx=>?_,fun b o e n hx=>?_,fun b o e hx=>?_,fun b xs e=>tups b xs (I.base.tups b xs e),fun b o xs e=>frzs b o xs (I.base.frzs b o xs e),fun b ps e=>?_⟩,?_,fun x c e=>?_,?_,fun x c e=>?_,fun p hp=>?_,hok,I.len⟩
 · exact keep b o (neL b o e) hb (neC b o e hx) (I.base.keep b o e n hb hx) (I.base.free b o e n hx)
 · obtain ⟨sl,e1⟩:=I.base.slot b o e n hb hx
   obtain ⟨sl',e2⟩:=slot b _ (neL b o e) hb (neC b o e hx) e1 (I.base.free b o e n hx)
   exact ⟨sl',e2⟩
 · obtain ⟨o',e1⟩:=I.base.there b o e hx
   exact free b o' (neC b o e hx) e1 (I.base.free b o e n hx)
 · obtain ⟨o',e1⟩:=I.base.there b o e hx
   exact there b o' (neC b o e hx) e1
 · obtain ⟨m1,e1⟩:=I.base.tbls b ps e
   obtain ⟨m2,e2⟩:=tbls b _ e1
   exact ⟨m1++m2,by rw [e2,Array.append_assoc]⟩
 · obtain ⟨m,hn,hl⟩:=I.loc
   refine ⟨m,ns m hn,fun i x v e1 e2 e3=>?_⟩
   obtain ⟨u,r,l⟩:=hl i x v e1 e2 e3
   refine ⟨u,r,?_⟩
   rcases l with l | ⟨k,c,e,z⟩
   · exact .inl l
   · exact .inr ⟨k,c,e,cellK x c e _ z⟩
 · obtain ⟨v,z⟩:=I.cell x c e
   exact ⟨v,cellK x c e v z⟩
 · obtain ⟨m,⟨o,_,_,ho,_⟩,_⟩:=I.loc
   exact free _ o (fun z=>(hch _ z).2.1 rfl) ho I.free
 · obtain ⟨v,o,ho,hd⟩:=I.cell x c e
   exact free c o (fun z=>(hch c z).2.2.1 x c e rfl) ho (I.freeC x c e)
 · obtain ⟨e,n,ne,nf,d⟩:=I.pin p hp
   have nch:p.1 ∉ ch:=fun z=>(hch p.1 z).2.2.2 p hp rfl
   exact ⟨keep p.1 p.2 ne nf nch e n,free p.1 p.2 nch e n,ne,nf,d⟩
theorem Inv.un {t':Nat}(I:Inv X pins σ H s)(u:Un X.fs [] H H' s.heap h')(hok:HOk X.prog X.w H' h'):Inv X pins σ H' { s with heap:=h',toks:=t' }:=by
 obtain ⟨m,⟨o,es,ep,ho,r⟩,_⟩:=id I.loc
 obtain ⟨sl,hL⟩:=u.any ho I.free (by simp)
 exact I.step (g':=s.gens) (d':=s.drawn) (ch:=[]) (fun _ z=>nomatch z) (fun b o _ hb _ e n=>u.keep b o e n hb (by simp)) (fun b o _ hb _ e n=>u.slot b o e n hb (by simp)) (fun b o _ e n=>u.free b o e n (by simp)) (fun b o _ e=>u.there b o e (by simp)) u.tups u.frzs u.tbls (fun m' hm=>by
   obtain ⟨o',es',ep',ho',r'⟩:=hm
   rw [ho] at ho';cases ho'
   exact ⟨_,es',ep',hL,r'⟩) hok I.bare
theorem Inv.call {g':Array GenState}{t':Nat}{d':Drawn}{ch:List Addr}(I:Inv X pins σ H s)(u:Un (Wf X.stack) ch H H' s.heap h')(hok:HOk X.prog X.w H' h')(hg:AllBare g')
   (hch:∀ b∈ch,(b∈X.ex∨X.s₀.heap.objs.size≤b)∧b≠X.env.locals∧(∀ x c,X.env.cells.lookup x=some c→c≠b)∧∀ p∈X.pn++pins,p.1≠b) :
   Inv X pins σ H' { s with heap:=h',gens:=g',drawn:=d',toks:=t' }:=by
 obtain ⟨m,⟨o,es,ep,ho,r⟩,_⟩:=id I.loc
 obtain ⟨sl,hL⟩:=u.any ho I.free fun z=>(hch _ z).2.1 rfl
 exact I.step (ch:=ch) hch (fun b o hL hb hc e n=>u.keep b o e n (fun z=>(List.mem_cons.mp (I.stkSub b z)).elim hL hb) hc) (fun b o _ _ hc e n=>u.any e n hc) (fun b o hc e n=>u.free b o e n hc) (fun b o hc e=>u.there b o e hc) u.tups u.frzs u.tbls (fun m' hm=>by
   obtain ⟨o',es',ep',ho',r'⟩:=hm
   rw [ho] at ho';cases ho'
   exact ⟨_,es',ep',hL,r'⟩) hok hg
theorem Inv.turned {t':Nat}{it:Addr}(I:Inv X pins σ H s)(k:∀ b o,b≠it→s.heap.get? b=some o→h'.get? b=some o)(hn:H it=none)(hL:it≠X.env.locals)
   (h1:it∈X.ex∨X.s₀.heap.objs.size≤it) (h2:∀ x c,X.env.cells.lookup x=some c→c≠it) (h3:∀ p∈X.pn++pins,p.1≠it):Inv X pins σ H { s with heap:=h',toks:=t' }:=by
 have nit:∀ b u,H b=some u→b≠it:=fun b u e z=>by rw [z,hn] at e;cases e
 refine I.step (g':=s.gens) (d':=s.drawn) (ch:=[it]) (fun b hb=>?_) (fun b o _ _ hc e _=>k b o (fun z=>hc (by simp [z])) e) (fun b o _ _ hc e _=>⟨o.slots,k b o (fun z=>hc (by simp [z])) e⟩) (fun _ _ _ _ n=>n)
   (fun b o hc e=>⟨o,k b o (fun z=>hc (by simp [z])) e⟩) (fun _ _ e=>e) (fun _ _ _ e=>e) (fun b ps e=>⟨#[],by rw [e];simp⟩) (fun m hm=>?_) (fun b u e=>?_) I.bare
 · have e:b=it:=by simpa using hb
   subst e
   exact ⟨h1,hL,h2,h3⟩
 · obtain ⟨o,es,ep,ho,r⟩:=hm
   exact ⟨o,es,ep,k _ o (Ne.symm hL) ho,r⟩
 · refine (I.hok b u e).stay (fun c v hc q=>k c v ?_ q) (fun _ q=>q) fun _ _ q=>q
   rcases hc with z | z
   · rw [z];exact nit b u e
   · exact nit c _ z
theorem Inv.tok (I:Inv X pins σ H s)(t:Nat):Inv X pins σ H { s with toks:=t }:=I.un (h':=s.heap) (t':=t) Un.refl I.hok
theorem Inv.kept {t':Nat}(I:Inv X pins σ H s)(k:∀ b u,s.heap.get? b=some u→h'.get? b=some u):Inv X pins σ H { s with heap:=h',toks:=t' }:=I.un (Un.kept k) (I.hok.kept k)
theorem Inv.laid {a:Addr}{o:HO}{t':Nat}(I:Inv X pins σ H s)(k:∀ b u,s.heap.get? b=some u→h'.get? b=some u)(hp:s.heap.objs.size≤a)(new:ObjOk X.prog X.w (upd H a o) h' a o) :
 Inv X pins σ (upd H a o) { s with heap:=h',toks:=t' }:=I.un (Un.laid k hp (I.hok.fresh hp)) (I.hok.laid k hp new)
theorem Inv.write {x e:Addr}{o:HO}{t':Nat}(I:Inv X pins σ H s)(mu:Mut (H x))(he:e=x∨H e=some (.own x))(k:∀ b u,b≠e→s.heap.get? b=some u→h'.get? b=some u)(heo:∃ u,h'.get? e=some u)
 (new:ObjOk X.prog X.w (upd H x o) h' x o):Inv X pins σ (upd H x o) { s with heap:=h',toks:=t' }:=I.un (Un.write mu he k heo) (I.hok.write mu he k heo new)
theorem Inv.pins_of {pins':List (Addr×Obj)}(I:Inv X pins σ H s)(h:∀ p∈pins',s.heap.get? p.1=some p.2∧H p.1=none∧p.1≠X.env.locals∧p.1 ∉ X.fs∧∀ v,p.2.data≠.cell v):Inv X pins' σ H s :=
 ⟨I.ok,I.os,I.bare,I.base,I.loc,I.cell,I.free,I.freeC,fun p hp=>(List.mem_append.mp hp).elim (fun z=>I.pin p (List.mem_append_left _ z)) (h p),I.hok,I.len⟩
theorem Vm {N:List Str}(hN:N.Nodup){i j:Nat}{x:Str}(a:N[i]?=some x)(b:N[j]?=some x):i=j:=by
 obtain ⟨h1,e1⟩:=List.getElem?_eq_some_iff.mp a
 obtain ⟨h2,e2⟩:=List.getElem?_eq_some_iff.mp b
 exact (List.getElem_inj hN).mp (e1.trans e2.symm)
theorem UH {M:Model}{A:Around}{E:Value→Shared→Prop}{i:Nat}{x:Str}{v:V}{u:Value}{Q:Unit→Shared→Prop}(I:Inv X pins σ H s)(hN:X.N.Nodup)(hi:X.N[i]?=some x)(hx:Loc X.env.scope x)(r:RelV v u)
   (h:∀ s',Inv X pins (σ.set i (some v)) H s'→(∃ a,Heap.SameBut a s.heap s'.heap∧(a=X.env.locals∨X.env.cells.lookup x=some a))→Q () s') (hf:X.fn x=true∨X.env.scope.names.lookup x=some .local:=by first | exact .inl rfl | exact .inr rfl | assumption):wpAny M A (storeName X.env x u) Q E s:=by
 obtain ⟨m,hn,hl⟩:=id I.loc
 have hcls:(X.env.scope.kind == .class || (X.env.scope.kind == .module&&X.env.locals != X.env.globals))=false:=by rw [I.ok.kind];rfl
 have hiσ:i < σ.length:=by rw [I.len];exact (List.getElem?_eq_some_iff.mp hi).1
 have cne:=I.cne
 have tracked:∀ {a:Addr} {h':Heap},(∃ o,s.heap.get? a=some o∧H a=none)→Heap.SameBut a s.heap h'→HOk X.prog X.w H h':=fun {a h'} ha hs b ob e=>by
   obtain ⟨_,_,hfree⟩:=ha
   refine (I.hok b ob e).stay (fun c w' hc q=>(hs.2 c ?_).trans q) (fun _ q=>q) fun _ _ q=>q
   rintro rfl
   rcases hc with rfl | hc
   · rw [hfree] at e;cases e
   · rw [hfree] at hc;cases hc
 rcases hx with hk | hk
 · refine wpAny_storeName_local hk hn (fun h' hn' hs=>?_) hcls
   obtain ⟨oL,_,_,hoL,_⟩:=id hn
   refine h _ ⟨I.ok,I.os,I.bare,⟨fun b o e n hb hx=>?_,fun b o e n hb hx=>?_,I.base.free,fun b o e hx=>?_,I.base.tups,I.base.frzs,I.base.tbls⟩,⟨_,hn',fun j y v' e1 e2 e3=>?_⟩,fun y c e=>?_,I.free,I.freeC,fun p hp=>?_,tracked ⟨oL,hoL,I.free⟩ hs,by simpa using I.len⟩ ⟨_,hs,.inl rfl⟩
   · exact (hs.2 b (Nat.ne_of_lt (Nat.lt_of_lt_of_le (Heap.lt_size e) I.ok.above))).trans (I.base.keep b o e n hb hx)
   · obtain ⟨sl,e1⟩:=I.base.slot b o e n hb hx
     exact ⟨sl,(hs.2 b (Nat.ne_of_lt (Nat.lt_of_lt_of_le (Heap.lt_size e) I.ok.above))).trans e1⟩
   · obtain ⟨o',e1⟩:=I.base.there b o e hx
     exact ⟨o',(hs.2 b (Nat.ne_of_lt (Nat.lt_of_lt_of_le (Heap.lt_size e) I.ok.above))).trans e1⟩
   · by_cases hj:j=i
     · subst hj
       rw [hi] at e1;cases e1
       rw [List.getElem?_set_self hiσ] at e2
       cases e2
       exact ⟨u,r,.inl ⟨hk,by simp⟩⟩
     · rw [List.getElem?_set_ne (Ne.symm hj)] at e2
       obtain ⟨u',r',q⟩:=hl j y v' e1 e2 e3
       refine ⟨u',r',?_⟩
       rcases q with ⟨k,e⟩ | ⟨k,c,e,z⟩
       · refine .inl ⟨k,?_⟩
         have:y≠x:=fun e=>hj (Vm hN e1 (e ▸ hi))
         simp [this,e]
       · exact .inr ⟨k,c,e,z.sameBut hs (cne y c e)⟩
   · obtain ⟨w',z⟩:=I.cell y c e
     exact ⟨w',z.sameBut hs (cne y c e)⟩
   · obtain ⟨e,n,ne,nf,d⟩:=I.pin p hp
     exact ⟨(hs.2 p.1 ne).trans e,n,ne,nf,d⟩
 · have hfn:X.fn x=true:=by
     rcases hf with z | z
     · exact z
     · rw [z] at hk;cases hk
   obtain ⟨c,hc⟩:=I.ok.has x (.inl hk)
   obtain ⟨w',z⟩:=I.cell x c hc
   refine wpAny_storeName_cell I.ok.kind hk hc z (fun h' hc' hs=>?_)
   obtain ⟨oc,hoc,hocd⟩:=id z
   refine h { s with heap:=h' } ⟨I.ok,I.os,I.bare,⟨fun b o e n hb hx=>?_,fun b o e n hb hx=>?_,I.base.free,fun b o e hx=>?_,I.base.tups,I.base.frzs,I.base.tbls⟩,⟨m,hn.sameBut hs (Ne.symm (cne x c hc)),fun j y v' e1 e2 e3=>?_⟩,fun y c' e=>?_,I.free,I.freeC,fun p hp=>?_,tracked ⟨oc,hoc,I.freeC x c hc⟩ hs,by simpa using I.len⟩ ⟨c,hs,.inr hc⟩
   · exact (hs.2 b (Nat.ne_of_lt (Nat.lt_of_lt_of_le (Heap.lt_size e) (I.ok.cab x c hfn hc)))).trans (I.base.keep b o e n hb hx)
   · obtain ⟨sl,e1⟩:=I.base.slot b o e n hb hx
     exact ⟨sl,(hs.2 b (Nat.ne_of_lt (Nat.lt_of_lt_of_le (Heap.lt_size e) (I.ok.cab x c hfn hc)))).trans e1⟩
   · obtain ⟨o',e1⟩:=I.base.there b o e hx
     exact ⟨o',(hs.2 b (Nat.ne_of_lt (Nat.lt_of_lt_of_le (Heap.lt_size e) (I.ok.cab x c hfn hc)))).trans e1⟩
   · by_cases hj:j=i
     · subst hj
       rw [hi] at e1;cases e1
       rw [List.getElem?_set_self hiσ] at e2
       cases e2
       exact ⟨u,r,.inr ⟨.inl hk,c,hc,hc'⟩⟩
     · rw [List.getElem?_set_ne (Ne.symm hj)] at e2
       obtain ⟨u',r',q⟩:=hl j y v' e1 e2 e3
       refine ⟨u',r',?_⟩
       rcases q with q | ⟨k,c',e,z'⟩
       · exact .inl q
       · refine .inr ⟨k,c',e,z'.sameBut hs ?_⟩
         rintro rfl
         exact hj (Vm hN e1 (I.ok.inj _ _ _ e hc ▸ hi))
   · by_cases hcc:c'=c
     · subst hcc;exact ⟨_,hc'⟩
     · obtain ⟨w2,z2⟩:=I.cell y c' e
       exact ⟨w2,z2.sameBut hs hcc⟩
   · obtain ⟨e,n,ne,nf,d⟩:=I.pin p hp
     refine ⟨(hs.2 p.1 ?_).trans e,n,ne,nf,d⟩
     intro q
     rw [q,hoc] at e
     have q':oc=p.2:=Option.some.inj e
     exact d w' (by rw [← q'];exact hocd)
theorem Yp {M:Model}{A:Around}{E:Value→Shared→Prop}{i:Nat}{x:Str}{v:V}{u:Value}{Q:Unit→Shared→Prop}(I:Inv X pins σ H s)(hN:X.N.Nodup)(hi:X.N[i]?=some x)(hx:Loc X.env.scope x)(r:RelV v u)
   (h:∀ s',Inv X pins (σ.set i (some v)) H s'→Q () s') (hf:X.fn x=true∨X.env.scope.names.lookup x=some .local:=by first | exact .inl rfl | exact .inr rfl | assumption):wpAny M A (storeName X.env x u) Q E s :=
 UH I hN hi hx r (fun s' I' _=>h s' I') hf
theorem Inv.call' {s':Shared}{ch:List Addr}(I:Inv X pins σ H s)(ho:s'.os=s.os)(u:Un (Wf X.stack) ch H H' s.heap s'.heap)(hok:HOk X.prog X.w H' s'.heap)(hg:AllBare s'.gens)
   (hch:∀ b∈ch,(b∈X.ex∨X.s₀.heap.objs.size≤b)∧b≠X.env.locals∧(∀ x c,X.env.cells.lookup x=some c→c≠b)∧∀ p∈X.pn++pins,p.1≠b):Inv X pins σ H' s':=by
 obtain ⟨h',g',d',t',o'⟩:=s'
 have e:o'=s.os:=ho
 subst e
 exact I.call (g':=g') (t':=t') (d':=d') u hok hg hch
end
abbrev XK:=Value→Option Addr→Hp→Prop
abbrev St:=List (Option V)
abbrev VK:=V→Hp→Prop
abbrev TE:=St→Hp→VK→Prop
abbrev TT:=St→Hp→(Bool→Hp→Prop)→Prop
abbrev TA:=St→Hp→(List V→Hp→Prop)→Prop
structure Wa where
 nx:St→Hp→Prop
 rt:VK
 bk:St→Hp→Prop:=fun _ _=>False
 ct:St→Hp→Prop:=fun _ _=>False
abbrev TS:=Wa→St→Hp→Prop
def EP (X:Cx)(pins:List (Addr×Obj))(σ:St)(Q:VK)(u:Value)(s':Shared):Prop:=∃ v H',Inv X pins σ H' s'∧RelV v u∧Q v H'
def TP (X:Cx)(pins:List (Addr×Obj))(σ:St)(Q:Bool→Hp→Prop)(b:Bool)(s':Shared):Prop:=∃ H',Inv X pins σ H' s'∧Q b H'
def AP (X:Cx)(pins:List (Addr×Obj))(σ:St)(Q:List V→Hp→Prop)(us:List Value)(s':Shared):Prop:=∃ vs H',Inv X pins σ H' s'∧Vals vs us∧Q vs H'
def SP (X:Cx)(pins:List (Addr×Obj))(D:Wa)(f:Flow)(s':Shared):Prop :=
 match f with
 | .next=>∃ σ' H',Inv X pins σ' H' s'∧D.nx σ' H'
 | .brk=>∃ σ' H',Inv X pins σ' H' s'∧D.bk σ' H'
 | .cont=>∃ σ' H',Inv X pins σ' H' s'∧D.ct σ' H'
 | .ret u=>∃ v σ' H',Inv X pins σ' H' s'∧RelV v u∧D.rt v H'
def PE (X:Cx)(e:Expr)(t:TE):Prop :=
 ∀ (pins:List (Addr×Obj)) (s:Shared) (σ:St) (H:Hp) (Q:VK),Inv X pins σ H s→t σ H Q→wpAny (model X.prog X.w) X.A (eval e X.env) (EP X pins σ Q) X.xe s
def PT (X:Cx)(e:Expr)(t:TT):Prop :=
 ∀ (pins:List (Addr×Obj)) (s:Shared) (σ:St) (H:Hp) (Q:Bool→Hp→Prop),Inv X pins σ H s→t σ H Q→wpAny (model X.prog X.w) X.A (isTrue e X.env (eval e X.env)) (TP X pins σ Q) X.xe s
def PW (X:Cx)(e:Expr)(t:TT):Prop :=
 ∀ (whole:Sem Value) (pins:List (Addr×Obj)) (s:Shared) (σ:St) (H:Hp) (Q:Bool→Hp→Prop),Inv X pins σ H s→t σ H Q→wpAny (model X.prog X.w) X.A (isTrue e X.env whole) (TP X pins σ Q) X.xe s
theorem PW.pt {X:Cx}{e:Expr}{t:TT}(h:PW X e t):PT X e t:=h _
def PA (X:Cx)(es:List Expr)(t:TA):Prop :=
 ∀ (pos:Pos) (pins:List (Addr×Obj)) (s:Shared) (σ:St) (H:Hp) (Q:List V→Hp→Prop),Inv X pins σ H s→t σ H Q→wpAny (model X.prog X.w) X.A (spliced (backTo pos (starEach es X.env))) (AP X pins σ Q) X.xe s
def PS (X:Cx)(st:Stmt)(t:TS):Prop :=
 ∀ (pins:List (Addr×Obj)) (s:Shared) (σ:St) (H:Hp) (D:Wa),Inv X pins σ H s→t D σ H→wpAny (model X.prog X.w) X.A (exec st X.env) (SP X pins D) X.xe s
def PSs (X:Cx)(st:List Stmt)(t:TS):Prop :=
 ∀ (pins:List (Addr×Obj)) (s:Shared) (σ:St) (H:Hp) (D:Wa),Inv X pins σ H s→t D σ H→wpAny (model X.prog X.w) X.A (execs st X.env) (SP X pins D) X.xe s
theorem Zm {α:Type}{t:Sem α}{Q Q':α→Shared→Prop}{M:Model}{A:Around}{E:Value→Shared→Prop}{s:Shared}(h:wpAny M A t Q E s)(hQ:∀ a s,Q a s→Q' a s):wpAny M A t Q' E s:=wpAny_mono h hQ fun _ _ x=>x
end L2
namespace L2
open PySem PySem.Spec PyProof.Rows
section
variable {X:Cx}
def Vu (i:Nat):TE:=fun σ H Q=>∃ v,σ[i]?=some (some v)∧Q v H
def tC (v:V):TE:=fun _ H Q=>Q v H
theorem ZeW {i:Nat}{x:Str}{pos:Pos}(hN:X.N[i]?=some x)(hv:Vis X.env.scope x)(hd:(x == ("__debug__":Str))=false:=by decide)(hcd:(x == ("__classdict__":Str))=false:=by decide):PE X (.Name x pos) (Vu i):=by
 intro pins s σ H Q I h
 obtain ⟨v,e,h⟩:=h
 obtain ⟨m,hn,hl⟩:=I.loc
 obtain ⟨u,r,l⟩:=hl i x v hN e hv
 have fin:EP X pins σ Q u s:=⟨v,H,I,r,h⟩
 rcases l with ⟨hk,hm⟩ | ⟨hk,c,hc,hcell⟩
 · exact wpAny_Name (wpAny_loadName_local I.ok.kind hk hn hm fin) hd
 · rcases hk with hk | hk
   · exact wpAny_Name (wpAny_loadName_cell I.ok.kind hk hc hcell fin) hd
   · exact wpAny_Name (wpAny_loadName_free I.ok.kind hk hc hcell fin hcd) hd
theorem Zb {i j pos}:PE X (.Constant (.int i) j pos) (tC (.int i)):=fun _ _ _ H _ I h=>wpAny_Constant_int ⟨.int i,H,I.tok _,⟨_,rfl⟩,h⟩
theorem Zdf {b j pos}:PE X (.Constant (.bool b) j pos) (tC (.bl b)):=fun _ _ _ H _ I h=>Constant_bool ⟨.bl b,H,I,rfl,h⟩
theorem Zeh {j pos}:PE X (.Constant .none j pos) (tC .non):=fun _ _ _ H _ I h=>Constant_none ⟨.non,H,I,rfl,h⟩
theorem Zk {x j pos}:PE X (.Constant (.str x) j pos) (tC (.str x)):=fun _ _ _ H _ I h=>Calls.Constant_str ⟨.str x,H,I.tok _,⟨_,rfl⟩,h⟩
def Gl (X:Cx)(x:Str):Prop:=X.env.kindOf x=some .globalImplicit
theorem Ug {E:Value→Shared→Prop}{pins:List (Addr×Obj)}{s:Shared}{σ:St}{H:Hp}{x:Str}{u:Value}{pos:Pos}{Q:Value→Shared→Prop}(I:Inv X pins σ H s)(hg:Gl X x)(hm:X.mg x=some u)(h:Q u s)
   (hd:(x == ("__debug__":Str))=false:=by decide):wpAny (model X.prog X.w) X.A (eval (.Name x pos) X.env) Q E s :=
 Calls.Name_function_global I.ok.kind hg (Calls.loadGlobal_global (by rw [I.ok.glob];exact I.mod.glob.keeps I.bk) hm h) hd
theorem Wn {E:Value→Shared→Prop}{pins:List (Addr×Obj)}{s:Shared}{σ:St}{H:Hp}{x:Str}{u:Value}{pos:Pos}{Q:Value→Shared→Prop}(I:Inv X pins σ H s)(hg:Gl X x)(hm:X.mg x=none)(hv:bootBuiltins x=some u)(h:Q u s)
   (hn:x≠"__name__":=by decide) (hd:(x == ("__debug__":Str))=false:=by decide):wpAny (model X.prog X.w) X.A (eval (.Name x pos) X.env) Q E s:=by
 obtain ⟨mb,h1,h2⟩:=I.mod.blt
 exact Calls.Name_function_global I.ok.kind hg (Calls.loadGlobal_builtin (by rw [I.ok.glob];exact I.mod.glob.keeps I.bk) hm (by rw [I.ok.blt];exact h1.keeps I.bk) ((h2 x hn).trans hv) h) hd
theorem Zac {x:Str}{v:V}{u:Value}{pos:Pos}(hg:Gl X x)(hm:X.mg x=some u)(r:RelV v u)(hd:(x == ("__debug__":Str))=false:=by decide):PE X (.Name x pos) (tC v) :=
 fun _ _ _ H _ I h=>Ug I hg hm ⟨v,H,I,r,h⟩ hd
theorem XJ {x:Str}{v:V}{u:Value}{pos:Pos}(hg:Gl X x)(hm:X.mg x=none)(hv:bootBuiltins x=some u)(r:RelV v u)(hn:x≠"__name__":=by decide)(hd:(x == ("__debug__":Str))=false:=by decide):PE X (.Name x pos) (tC v) :=
 fun _ _ _ H _ I h=>Wn I hg hm hv ⟨v,H,I,r,h⟩ hn hd
variable {a b:Expr}{ta tb:TE}{pos:Pos}
def tB (t:TE):TT:=fun σ H Q=>t σ H fun x H1=>∃ c,x=.bl c∧Q c H1
theorem WM {e:Expr}{t:TE}(h:PE X e t)(he:∀ whole,isTrue e X.env whole=(do let v ← whole;standAt e.pos;holding [v] (truthy v)):=by intro _;rfl):PT X e (tB t):=by
 intro pins s σ H Q I hw
 refine isTrue_plain (Zm (h pins s σ H _ I hw) fun v s1 ⟨x,H1,I1,r1,q1⟩=>?_) (he _)
 obtain ⟨d,rfl,q⟩:=q1
 cases r1
 exact wpAny_truthy_bool ⟨H1,I1,q⟩
variable {tA tB':TT}{rest:List Expr}
def tAnd (t u:TT):TT:=fun σ H Q=>t σ H fun c H1=>if c=true then u σ H1 Q else Q false H1
def tOr (t u:TT):TT:=fun σ H Q=>t σ H fun c H1=>if c=true then Q true H1 else u σ H1 Q
theorem ZdW (ha:PT X a tA):PW X (.BoolOp .And [a] pos) tA:=by
 intro wh pins s σ H Q I h
 refine isTrue_and (Zm (ha pins s σ H Q I h) fun c s1 e=>?_)
 cases c with
 | true=>exact isTrue_and_nil e
 | false=>exact e
theorem ZeB (ha:PT X a tA):PW X (.BoolOp .Or [a] pos) tA:=by
 intro wh pins s σ H Q I h
 refine isTrue_or (Zm (ha pins s σ H Q I h) fun c s1 e=>?_)
 cases c with
 | false=>exact isTrue_or_nil e
 | true=>exact e
theorem ZeS (ha:PT X a tA)(hb:PW X (.BoolOp .And (b::rest) pos) tB'):PW X (.BoolOp .And (a::b::rest) pos) (tAnd tA tB'):=by
 intro wh pins s σ H Q I h
 refine isTrue_and (Zm (ha pins s σ H _ I h) fun c s1 ⟨H1,I1,q1⟩=>?_)
 cases c with
 | true=>exact hb wh pins s1 σ H1 Q I1 q1
 | false=>exact ⟨H1,I1,q1⟩
theorem Zdb (ha:PT X a tA)(hb:PW X (.BoolOp .Or (b::rest) pos) tB'):PW X (.BoolOp .Or (a::b::rest) pos) (tOr tA tB'):=by
 intro wh pins s σ H Q I h
 refine isTrue_or (Zm (ha pins s σ H _ I h) fun c s1 ⟨H1,I1,q1⟩=>?_)
 cases c with
 | true=>exact ⟨H1,I1,q1⟩
 | false=>exact hb wh pins s1 σ H1 Q I1 q1
def Zfa (ta tb:TE):TE:=fun σ H Q=>ta σ H fun x H1=>∃ c,x=.bl c∧if c=true then tb σ H1 Q else Q (.bl false) H1
def ZfE (ta:TE):TE:=fun σ H Q=>ta σ H fun x H1=>∃ c,x=.bl c∧Q (.bl (!c)) H1
theorem Zer {op}{t:TE}(h:PE X a t):PE X (.BoolOp op [a] pos) t:=fun pins s σ H Q I hw=>BoolOp_one (h pins s σ H Q I hw)
theorem Zes (ha:PE X a ta)(hb:PE X (.BoolOp .And (b::rest) pos) tb):PE X (.BoolOp .And (a::b::rest) pos) (Zfa ta tb):=by
 intro pins s σ H Q I h
 refine BoolOp_and (Zm (ha pins s σ H _ I h) fun v s1 ⟨x,H1,I1,r1,q1⟩=>?_)
 obtain ⟨c,rfl,q1⟩:=q1
 cases r1
 refine wpAny_truthy_bool ?_
 cases c with
 | true=>exact hb pins s1 σ H1 Q I1 q1
 | false=>exact ⟨.bl false,H1,I1,rfl,q1⟩
theorem Zej (ha:PE X a ta):PE X (.UnaryOp .Not a pos) (ZfE ta):=by
 intro pins s σ H Q I h
 refine UnaryOp_ (Zm (ha pins s σ H _ I h) fun v s1 ⟨x,H1,I1,r1,q1⟩=>?_)
 obtain ⟨c,rfl,q1⟩:=q1
 cases r1
 exact not_of (wpAny_truthy_bool ⟨.bl (!c),H1,I1,rfl,q1⟩)
def tIf (t:TT)(ta tb:TE):TE:=fun σ H Q=>t σ H fun c H1=>if c=true then ta σ H1 Q else tb σ H1 Q
theorem XY {c:Expr}(hc:PT X c tA)(ha:PE X a ta)(hb:PE X b tb):PE X (.IfExp c a b pos) (tIf tA ta tb):=by
 intro pins s σ H Q I h
 refine wpAny_IfExp (Zm (hc pins s σ H _ I h) fun d s1 ⟨H1,I1,q1⟩=>?_)
 cases d with
 | true=>exact ha pins s1 σ H1 Q I1 q1
 | false=>exact hb pins s1 σ H1 Q I1 q1
end
end L2
namespace L2
open PySem PySem.Spec PyProof.Rows
def SqL (K:PySem.W.Frag)(H:Hp)(a:Addr)(xs:List V):Prop :=
 Rd H a (.lst xs) ∨
   ∃ (o:Obj) (its:Array Value) (n:Nat),K.lookup a=some o∧o.cls=.type "list"∧o.dict=none∧o.data=.seq its n∧its.size≤sizeLine∧Vals xs its.toList
def SqT (K:PySem.W.Frag)(H:Hp)(a:Addr)(xs:List V):Prop :=
 Rd H a (.tup xs) ∨
   ∃ (o:Obj) (its:Array Value) (n:Nat),K.lookup a=some o∧o.cls=.type "tuple"∧o.data=.seq its n∧its.size≤sizeLine∧Vals xs its.toList
def absV:Value→Option V
 | .none=>some .non
 | .bool b=>some (.bl b)
 | .int i _=>some (.int i)
 | .str x _=>some (.str x)
 | .bytes b _=>some (.byt b)
 | .float b _=>some (.flt b)
 | .ref a=>some (.ref a)
 | .type n=>some (.ty n)
 | _=>none
theorem RelV.abs {x:V}{u:Value}(r:RelV x u):absV u=some x:=by
 cases x with
 | non=>cases r;rfl
 | bl _=>cases r;rfl
 | int _=>obtain ⟨t,rfl⟩:=r;rfl
 | str _=>obtain ⟨t,rfl⟩:=r;rfl
 | byt _=>obtain ⟨t,rfl⟩:=r;rfl
 | flt _=>obtain ⟨t,rfl⟩:=r;rfl
 | ref _=>cases r;rfl
 | ty _=>cases r;rfl
theorem RelV.inj {x y:V}{u:Value}(r:RelV x u)(q:RelV y u):x=y:=Option.some.inj (r.abs.symm.trans q.abs)
theorem Vals.inj:∀{xs ys:List V}{us:List Value},Vals xs us→Vals ys us→xs=ys
 | _,_,_,.nil,.nil=>rfl
 | _,_,_,.cons r t,.cons r' t'=>by rw [r.inj r',Vals.inj t t']
section
variable {X:Cx}{pins:List (Addr×Obj)}{σ:St}{H:Hp}{s:Shared}{a:Addr}{xs ys:List V}
theorem SqL.of {K:PySem.W.Frag}(h:H a=some (.lst xs)):SqL K H a xs:=.inl (.inl h)
theorem SqT.of {K:PySem.W.Frag}(h:H a=some (.tup xs)):SqT K H a xs:=.inl (.inl h)
theorem Inv.list (I:Inv X pins σ H s)(h:SqL X.K H a xs):∃ its:List Value,Vals xs its∧PlainL s.heap a its.toArray∧xs.length≤sizeLine:=by
 rcases h with h | ⟨o,its,n,hk,hc,hd,hs,hz,r⟩
 · obtain ⟨z,its,n,r,e⟩:=h.ok I.hok
   exact ⟨its,r,⟨_,n,e,rfl,rfl,rfl⟩,z⟩
 · refine ⟨its.toList,r,⟨o,n,I.kIn a o hk,hc,hd,by simpa using hs⟩,?_⟩
   have e:=r.length
   simp only [Array.length_toList] at e
   omega
theorem Inv.tuple (I:Inv X pins σ H s)(h:SqT X.K H a xs):∃ its:List Value,Vals xs its∧IsTup s.heap a its.toArray∧xs.length≤sizeLine:=by
 rcases h with h | ⟨o,its,n,hk,hc,hs,hz,r⟩
 · obtain ⟨z,its,r,p⟩:=h.ok I.hok
   exact ⟨its,r,p,z⟩
 · refine ⟨its.toList,r,⟨o,I.kIn a o hk,hc,n,by simpa using hs⟩,?_⟩
   have e:=r.length
   simp only [Array.length_toList] at e
   omega
theorem Inv.list_inj (I:Inv X pins σ H s)(h:SqL X.K H a xs)(h':SqL X.K H a ys):xs=ys:=by
 obtain ⟨its,r,⟨o,n,e,_,_,d⟩,_⟩:=I.list h
 obtain ⟨its',r',⟨o',n',e',_,_,d'⟩,_⟩:=I.list h'
 rw [e] at e';cases e'
 rw [d] at d'
 injection d' with d1 _
 have:its=its':=by simpa using congrArg Array.toList d1
 subst this
 exact r.inj r'
theorem Inv.tuple_inj (I:Inv X pins σ H s)(h:SqT X.K H a xs)(h':SqT X.K H a ys):xs=ys:=by
 obtain ⟨its,r,⟨o,e,_,n,d⟩,_⟩:=I.tuple h
 obtain ⟨its',r',⟨o',e',_,n',d'⟩,_⟩:=I.tuple h'
 rw [e] at e';cases e'
 rw [d] at d'
 injection d' with d1 _
 have:its=its':=by simpa using congrArg Array.toList d1
 subst this
 exact r.inj r'
end
abbrev Cx.wish (X:Cx)(E:Value→Shared→Prop):Cx:={ X with xe:=E }
abbrev Cx.nox (X:Cx):Cx:=X.wish fun _ _=>False
theorem Cx.Ok.wish {X:Cx}(ok:X.Ok)(E:Value→Shared→Prop):(X.wish E).Ok :=
 ⟨ok.mod,ok.kind,ok.glob,ok.blt,ok.above,ok.inj,ok.has,ok.cab,ok.hd,ok.frames,ok.stk,ok.exf,ok.bs,ok.bsz,ok.noex,ok.exfs,ok.funs,ok.frf⟩
theorem Cx.Ok.unwish {X:Cx}{E:Value→Shared→Prop}(ok:(X.wish E).Ok):X.Ok :=
 ⟨ok.mod,ok.kind,ok.glob,ok.blt,ok.above,ok.inj,ok.has,ok.cab,ok.hd,ok.frames,ok.stk,ok.exf,ok.bs,ok.bsz,ok.noex,ok.exfs,ok.funs,ok.frf⟩
section
variable {X:Cx}{pins:List (Addr×Obj)}{σ:St}{H:Hp}{s:Shared}{E:Value→Shared→Prop}
theorem Inv.wish (I:Inv X pins σ H s)(E:Value→Shared→Prop):Inv (X.wish E) pins σ H s:=⟨I.ok.wish E,I.os,I.bare,I.base,I.loc,I.cell,I.free,I.freeC,I.pin,I.hok,I.len⟩
theorem Inv.unwish (I:Inv (X.wish E) pins σ H s):Inv X pins σ H s:=⟨I.ok.unwish,I.os,I.bare,I.base,I.loc,I.cell,I.free,I.freeC,I.pin,I.hok,I.len⟩
theorem SP.unwish {D:Wa}{f:Flow}{s':Shared}(h:SP (X.wish E) pins D f s'):SP X pins D f s':=by
 cases f with
 | next=>obtain ⟨σ',H',I,q⟩:=h;exact ⟨σ',H',I.unwish,q⟩
 | brk=>obtain ⟨σ',H',I,q⟩:=h;exact ⟨σ',H',I.unwish,q⟩
 | cont=>obtain ⟨σ',H',I,q⟩:=h;exact ⟨σ',H',I.unwish,q⟩
 | ret u=>obtain ⟨v,σ',H',I,r,q⟩:=h;exact ⟨v,σ',H',I.unwish,r,q⟩
theorem PSs.nox {st:List Stmt}{t:TS}(h:PSs X.nox st t):PSs X st t:=fun pins s σ H D I hw =>
 wpAny_mono (h pins s σ H D (I.wish _) hw) (fun _ _ q=>q.unwish) fun _ _ z=>False.elim z
end
section
variable {X:Cx}{st:Stmt}{rest:List Stmt}{t u:TS}{e:Expr}{te:TE}{pos:Pos}
def Zde:TS:=fun D σ H=>D.nx σ H
def Zcu (t u:TS):TS:=fun D σ H=>t { D with nx:=u D } σ H
theorem Yh:PSs X [] Zde:=fun _ _ σ H _ I h=>wpAny_execs_nil ⟨σ,H,I,h⟩
theorem Zf (h1:PS X st t)(h2:PSs X rest u):PSs X (st::rest) (Zcu t u):=by
 intro pins s σ H D I h
 refine wpAny_execs_cons (Zm (h1 pins s σ H { D with nx:=u D } I h) fun f s1 q=>?_)
 cases f with
 | next =>
   obtain ⟨σ',H',I',q⟩:=q
   exact h2 pins s1 σ' H' D I' q
 | ret v=>exact q
 | brk=>exact q
 | cont=>exact q
theorem Zj (h1:PS X st t):PSs X [st] t:=by
 intro pins s σ H D I h
 refine wpAny_execs_cons (Zm (h1 pins s σ H D I h) fun f s1 q=>?_)
 cases f with
 | next=>exact wpAny_execs_nil q
 | ret v=>exact q
 | brk=>exact q
 | cont=>exact q
theorem Inv.quiet {pins:List (Addr×Obj)}{σ:St}{H:Hp}{s:Shared}(I:Inv X pins σ H s):interactive X.env=false:=by simp [interactive,I.ok.kind]
def Zfg (te:TE):TS:=fun D σ H=>te σ H fun _ H1=>D.nx σ H1
theorem Yt (he:PE X e te)(hs:swapsWith e none pos.line X.env=pure false:=by rfl):PS X (.Expr e pos) (Zfg te):=by
 intro pins s σ H D I h
 exact wpAny_Expr_any (Zm (he pins s σ H _ I h) fun v s1 ⟨x,H1,I1,r1,q1⟩=>⟨σ,H1,I1,q1⟩) I.quiet hs
def tRet (te:TE):TS:=fun D σ H=>te σ H D.rt
theorem Zs (he:PE X e te):PS X (.Return (some e) pos) (tRet te):=by
 intro pins s σ H D I h
 exact wpAny_Return_some (Zm (he pins s σ H _ I h) fun v s1 ⟨x,H1,I1,r1,q1⟩=>⟨x,σ,H1,I1,r1,q1⟩)
def tIfS (c:TT)(t u:TS):TS:=fun D σ H=>c σ H fun b H1=>if b=true then t D σ H1 else u D σ H1
theorem YB {c:Expr}{a b:List Stmt}{tc:TT}(hc:PT X c tc)(ha:PSs X a t)(hb:PSs X b u):PS X (.If c a b pos) (tIfS tc t u):=by
 intro pins s σ H D I h
 refine wpAny_If (Zm (hc pins s σ H _ I h) fun d s1 ⟨H1,I1,q1⟩=>?_)
 cases d with
 | true=>exact ha pins s1 σ H1 D I1 q1
 | false=>exact hb pins s1 σ H1 D I1 q1
end
abbrev TG:=V→St→Hp→(St→Hp→Prop)→Prop
abbrev Vd:=List V→St→Hp→(St→Hp→Prop)→Prop
def PG (X:Cx)(target:Expr)(t:TG):Prop :=
 ∀ (pins:List (Addr×Obj)) (s:Shared) (σ:St) (H:Hp) (v:V) (u:Value) (Q:St→Hp→Prop),Inv X pins σ H s→RelV v u→t v σ H Q →
   wpAny (model X.prog X.w) X.A (assign target X.env u) (fun _ s'=>∃ σ' H',Inv X pins σ' H' s'∧Q σ' H') X.xe s
def PGs (X:Cx)(ts:List Expr)(t:Vd):Prop :=
 ∀ (pins:List (Addr×Obj)) (s:Shared) (σ:St) (H:Hp) (vs:List V) (us:List Value) (Q:St→Hp→Prop),Inv X pins σ H s→Vals vs us→t vs σ H Q →
   wpAny (model X.prog X.w) X.A (assignInOrder ((assignEach ts X.env).map (·.2)) us) (fun _ s'=>∃ σ' H',Inv X pins σ' H' s'∧Q σ' H') X.xe s
abbrev ZcK:=V→V→V→Hp→(Hp→Prop)→Prop
def PSet (X:Cx)(t:ZcK):Prop :=
 ∀ (pins:List (Addr×Obj)) (s:Shared) (σ:St) (H:Hp) (o i v:V) (ov iv u:Value) (Q:Hp→Prop),Inv X pins σ H s→RelV o ov→RelV i iv→RelV v u→t o i v H Q →
   wpAny (model X.prog X.w) X.A (setItem ov iv u) (fun _ s'=>∃ H',Inv X pins σ H' s'∧Q H') X.xe s
section
variable {X:Cx}{pos:Pos}
def Vb (i:Nat):TG:=fun v σ H Q=>Q (σ.set i (some v)) H
theorem ZV {i:Nat}{x:Str}(hN:X.N.Nodup)(hi:X.N[i]?=some x)(hx:Loc X.env.scope x)(hf:X.fn x=true∨X.env.scope.names.lookup x=some .local:=by first | exact .inl rfl | exact .inr rfl | assumption):PG X (.Name x pos) (Vb i):=by
 intro pins s σ H v u Q I r h
 exact wpAny_assign_Name (Yp I hN hi hx r (fun s' I'=>⟨_,H,I',h⟩) hf)
def gNil:Vd:=fun vs σ H Q=>vs=[]∧Q σ H
def Zff (t:TG)(u:Vd):Vd:=fun vs σ H Q=>∃ v r,vs=v::r∧t v σ H fun σ' H'=>u r σ' H' Q
theorem Ui:PGs X [] gNil:=by
 intro pins s σ H vs us Q I r h
 obtain ⟨e,h⟩:=h
 subst e
 cases r
 exact assignInOrder_nil ⟨σ,H,I,h⟩
theorem YM {e:Expr}{es:List Expr}{t:TG}{u:Vd}(h1:PG X e t)(h2:PGs X es u)
   (hs:(assignEach (e::es) X.env).map (·.2)=assign e X.env::(assignEach es X.env).map (·.2):=by rfl):PGs X (e::es) (Zff t u):=by
 intro pins s σ H vs us Q I r h
 obtain ⟨v,vr,e1,h⟩:=h
 subst e1
 cases r with
 | cons r rr =>
   rw [hs]
   refine assignInOrder_cons (Zm (h1 pins s σ H _ _ _ I r h) fun _ s1 ⟨σ1,H1,I1,q1⟩=>?_)
   exact h2 pins s1 σ1 H1 _ _ Q I1 rr q1
def gTup (K:PySem.W.Frag)(n:Nat)(t:Vd):TG:=fun v σ H Q=>∃ a xs,v=.ref a∧SqT K H a xs∧xs.length=n∧t xs σ H Q
theorem Vn {es:List Expr}{k:Nat}{t:Vd}{n:Nat}(hc:X.calm=true)(h:PGs X es t)
   (hn:(assignEach es X.env).length=n:=by rfl) (hst:(assignEach es X.env).findIdx? (·.1)=none:=by rfl):PG X (.Tuple es k pos) (gTup X.K n t):=by
 intro pins s σ H v u Q I r hw
 obtain ⟨a,xs,e1,hq,hl,hw⟩:=hw
 subst e1
 cases r
 obtain ⟨its,rv,ht,hz⟩:=I.tuple hq
 refine assign_Tuple_tuple (I.ok.hd hc) ht (by simp [hn,← hl,rv.length]) hst fun h' hx=>?_
 have I1:Inv X pins σ H { s with heap:=h' }:=I.kept (t':=s.toks) fun b o e=>hx b o (Nat.ne_of_lt (Heap.lt_size e)) e
 exact h pins _ σ H xs _ Q I1 (by simpa using rv) hw
def gSub (to ti:TE)(t:ZcK):TG:=fun v σ H Q=>to σ H fun o H1=>ti σ H1 fun i H2=>t o i v H2 fun H3=>Q σ H3
theorem Zbd {o i:Expr}{to ti:TE}{t:ZcK}(ho:PE X o to)(hi:PE X i ti)(hs:PSet X t)
   (ha:∀ v,assign (.Subscript o i pos) X.env v=(do
     let ov ← holding [v] (eval o X.env)
     let iv ← holding [v,ov] (eval i X.env)
     standAt pos
     holding [v,ov,iv] (setItem ov iv v)
     release [v,ov,iv] []):=by intro _;rfl):PG X (.Subscript o i pos) (gSub to ti t):=by
 intro pins s σ H v u Q I r h
 rw [ha]
 refine wpAny_bind (wpAny_holding (Zm (ho pins s σ H _ I h) fun ov s1 ⟨x,H1,I1,r1,q1⟩=>?_))
 refine wpAny_bind (wpAny_holding (Zm (hi pins s1 σ H1 _ I1 q1) fun iv s2 ⟨y,H2,I2,r2,q2⟩=>?_))
 refine wpAny_bind (wpAny_standAt (wpAny_bind (wpAny_holding (Zm (hs pins s2 σ H2 x y v ov iv u _ I2 r1 r2 r q2) fun _ s3 ⟨H3,I3,q3⟩=>?_))))
 exact wpAny_release ⟨σ,H3,I3,q3⟩
def ZaX (te:TE)(g:TG):TS:=fun D σ H=>te σ H fun x H1=>g x σ H1 D.nx
theorem Ua {tg e:Expr}{te:TE}{g:TG}(he:PE X e te)(hg:PG X tg g)(hs:swapsWithSole [tg] e pos.line X.env=pure false:=by rfl)(hw:swappedStores [tg] e X.env=pure none:=by rfl)
   (h1:(assignEach [tg] X.env).map (·.2)=[assign tg X.env]:=by rfl):PS X (.Assign [tg] e pos) (ZaX te g):=by
 intro pins s σ H D I h
 refine wpAny_Assign_stores (Zm (he pins s σ H _ I h) fun v s1 ⟨x,H1,I1,r1,q1⟩=>?_) hs hw
 rw [h1]
 exact Zm (hg pins s1 σ H1 x v _ I1 r1 q1) fun _ s2 q=>q
theorem ZC {i:Nat}{x:Str}{e:Expr}{te:TE}{pos':Pos}(hN:X.N.Nodup)(hi:X.N[i]?=some x)(hx:Loc X.env.scope x)(he:PE X e te)(hs:swapsWith e (some (.Name x pos')) pos.line X.env=pure false:=by rfl)(hf:X.fn x=true∨X.env.scope.names.lookup x=some .local:=by first | exact .inl rfl | exact .inr rfl | assumption) :
   PS X (.Assign [.Name x pos'] e pos) (ZaX te (Vb i)):=by
 intro pins s σ H D I h
 refine wpAny_Assign_Name (Zm (he pins s σ H _ I h) fun v s1 ⟨y,H1,I1,r1,q1⟩=>?_) hs
 exact Yp I1 hN hi hx r1 (fun s2 I2=>⟨_,H1,I2,q1⟩) hf
def tPar (i j:Nat)(ta:TA):TS:=fun D σ H=>ta σ H fun vs H1=>∃ v w,vs=[v,w]∧D.nx ((σ.set i (some v)).set j (some w)) H1
theorem YZ {i j:Nat}{x y:Str}{a b:Expr}{ta:TA}{px py pt:Pos}{kt k2 pt2}(hc:X.calm=true)(hN:X.N.Nodup)(hi:X.N[i]?=some x)(hj:X.N[j]?=some y)(hij:i≠j)
   (hx:X.env.scope.names.lookup x=some .local) (hy:X.env.scope.names.lookup y=some .local) (ha:PA X [a,b] ta)
   (hw:swappedStores [.Tuple [.Name x px,.Name y py] kt pt] (.Tuple [a,b] k2 pt2) X.env=pure (some [x,y]))
   (hs:swapsWithSole [.Tuple [.Name x px,.Name y py] kt pt] (.Tuple [a,b] k2 pt2) pos.line X.env=pure false:=by rfl) :
   PS X (.Assign [.Tuple [.Name x px,.Name y py] kt pt] (.Tuple [a,b] k2 pt2) pos) (tPar i j ta):=by
 intro pins s σ H D I h
 rw [exec_Assign_arm]
 refine wpAny_bind (wpAny_standAt ?_)
 rw [hs]
 refine wpAny_bind (wpAny_pure ?_)
 rw [if_neg (by decide)]
 refine wpAny_bind (Tuple_ (Zm (ha _ pins s σ H _ I h) fun us s1 ⟨vs,H1,I1,r1,q1⟩=>?_))
 obtain ⟨v,w,e1,q1⟩:=q1
 subst e1
 obtain ⟨u1,u2,rfl,rv,rw'⟩:∃ u1 u2,us=[u1,u2]∧RelV v u1∧RelV w u2:=by
   cases r1 with
   | cons p q =>
     cases q with
     | cons p' q' =>
       cases q'
       exact ⟨_,_,rfl,p,p'⟩
 refine wpAny_newObj_type ?_ (by show 2≤sizeLine;decide)
 have I2:Inv X pins σ H1 { s1 with heap:=s1.heap.push { cls:=.type "tuple",data:=.seq [u1,u2].toArray } }:=I1.kept (t':=s1.toks) fun b o e=>Heap.get?_push_of_some _ e
 rw [hw]
 refine wpAny_bind (wpAny_pure ?_)
 show wpAny (model X.prog X.w) X.A (do rule "assign.swapped-stores";let items ← unpackItems (.ref s1.heap.objs.size) 2 none;assignInOrder [fun v=>bindName X.env y v,fun v=>bindName X.env x v] items.reverse;pure Flow.next) _ _ _
 refine wpAny_bind (wpAny_rule (wpAny_bind (unpackItems_tuple (items:=#[u1,u2]) (I.ok.hd hc) (IsTup.new s1.heap _) fun h' hx'=>?_)))
 have I3:=I2.kept (h':=h') (t':=s1.toks) fun b o e=>hx' b o (Nat.ne_of_lt (Heap.lt_size e)) e
 show wpAny _ _ (assignInOrder [fun v=>bindName X.env y v,fun v=>bindName X.env x v] [u2,u1] >>= fun _=>pure Flow.next) _ _ _
 refine wpAny_bind (assignInOrder_cons (wpAny_bindName (Yp I3 hN hj (.inl hy) rw' (fun s2 I4=>?_) (.inr hy))))
 refine assignInOrder_cons (wpAny_bindName (Yp I4 hN hi (.inl hx) rv (fun s3 I5=>assignInOrder_nil (wpAny_pure ?_)) (.inr hx)))
 rw [List.set_comm _ _ (Ne.symm hij)] at I5
 exact ⟨_,H1,I5,q1⟩
end
section
variable {X:Cx}{pos:Pos}
def ZeF (c:TT)(tb:TS):TS:=fun D σ H=>∃ W:Nat→St→Hp→Prop,(∃ m,W m σ H)∧∀ m σ H,W m σ H →
 c σ H fun b H1=>if b=true then ∃ N:St→Hp→Prop,(∀ σ' H',N σ' H'→∃ m',m' < m∧W m' σ' H')∧tb { D with nx:=N,ct:=N,bk:=D.nx } σ H1 else D.nx σ H1
theorem Zcc {c:Expr}{body:List Stmt}{tc:TT}{tb:TS}(hp:PassesOwn (model X.prog X.w) X.A X.env X.xe)(hc:PT X c tc)(hb:PSs X body tb):PS X (.While c body [] pos) (ZeF tc tb):=by
 intro pins s σ H D I h
 obtain ⟨W,⟨m0,w0⟩,turn⟩:=h
 refine wpAny_While (codeAny_whileLoop (fun n s'=>∃ σ' H',Inv X pins σ' H' s'∧W n σ' H') ?_ m0 ⟨σ,H,I,w0⟩)
 rintro n s1 ⟨σ1,H1,I1,w1⟩
 refine wpAny_passesOwn hp (Zm (hc pins s1 σ1 H1 _ I1 (turn n σ1 H1 w1)) fun b s2 ⟨H2,I2,q2⟩=>?_)
 cases b with
 | true =>
   obtain ⟨N,hN,q2⟩:=q2
   rw [if_pos rfl]
   refine wpAny_passesOwn hp (Zm (hb pins s2 σ1 H2 _ I2 q2) fun f s3 q3=>?_)
   cases f with
   | next =>
     obtain ⟨σ3,H3,I3,n3⟩:=q3
     obtain ⟨m',hm,w3⟩:=hN σ3 H3 n3
     exact ⟨m',hm,σ3,H3,I3,w3⟩
   | cont =>
     obtain ⟨σ3,H3,I3,n3⟩:=q3
     obtain ⟨m',hm,w3⟩:=hN σ3 H3 n3
     exact ⟨m',hm,σ3,H3,I3,w3⟩
   | brk=>exact q3
   | ret v=>exact q3
 | false =>
   rw [if_neg Bool.false_ne_true]
   exact wpAny_execs_nil ⟨σ1,H2,I2,q2⟩
end
structure It where
 go:Nat→Hp→Prop
 yld:Nat→Hp→V→Hp→Prop
 stop:Nat→Hp→Prop
def Yi (X:Cx)(pins:List (Addr×Obj))(H:Hp)(b:Addr):Prop :=
 H b=none∧b≠X.env.locals∧b ∉ X.fs∧(b∈X.ex∨X.s₀.heap.objs.size≤b)∧(∀ x c,X.env.cells.lookup x=some c→c≠b)∧∀ p∈X.pn++pins,p.1≠b
theorem Inv.fpOk {X:Cx}{pins:List (Addr×Obj)}{σ:St}{H H':Hp}{s:Shared}{b:Addr}(I:Inv X pins σ H s)(hb:s.heap.objs.size≤b)(hn:H' b=none):Yi X pins H' b:=by
 refine ⟨hn,Nat.ne_of_gt (Nat.lt_of_lt_of_le I.lt hb),I.nofs hb,.inr (Nat.le_trans I.sz hb),fun x c e z=>?_,fun p hp z=>?_⟩
 · obtain ⟨v,q⟩:=I.cell x c e
   exact absurd (Nat.lt_of_lt_of_le q.lt (by rw [z];exact hb)) (Nat.lt_irrefl _)
 · exact absurd (Nat.lt_of_lt_of_le (Heap.lt_size (I.pin p hp).1) (by rw [z];exact hb)) (Nat.lt_irrefl _)
structure XT (P:Program)(w:World)(K:PySem.W.Frag)(tg:Expr)(J:It)(fp:List Addr)(it:Addr)(tn:Nat→Heap→Prop):Prop where
 mem:it∈fp
 obj:∀ i h,tn i h→∀ b∈fp,∃ o,h.get? b=some o∧∀ v,o.data≠.cell v
 keep:∀ i h h',tn i h→(∀ b∈fp,∀ o,h.get? b=some o→h'.get? b=some o)→tn i h'
 item:∀ (X:Cx),X.prog=P→X.w=w→X.K=K→X.calm=true→∀ (i:Nat) (pins:List (Addr×Obj)) (s:Shared) (σ:St) (H:Hp) (E:Value→Shared→Prop),Inv X pins σ H s→(∀ b∈fp,Yi X pins H b)→tn i s.heap→J.go i H →
   wpAny (model P w) X.A (pyNext (.ref it)) (fun r s1=>∃ u,r=some u ∧
     wpAny (model P w) X.A (letOwnedTupleGo tg (.ref it) u) (fun _ s2=>∃ x H',Inv X pins σ H' s2∧RelV x u∧J.yld i H x H'∧tn (i+1) s2.heap∧∀ b∈fp,H' b=none) E s1) E s
 done:∀ (X:Cx),X.prog=P→X.w=w→X.K=K→X.calm=true→∀ (i:Nat) (pins:List (Addr×Obj)) (s:Shared) (σ:St) (H:Hp) (E:Value→Shared→Prop),Inv X pins σ H s→(∀ b∈fp,Yi X pins H b)→tn i s.heap→J.stop i H →
   wpAny (model P w) X.A (pyNext (.ref it)) (fun r s1=>r=none∧Inv X pins σ H s1) E s
 self:∀ (A:Around) (i:Nat) (s:Shared) (Q:Value→Shared→Prop) (E:Value→Shared→Prop),tn i s.heap→Q (.ref it) s→wpAny (model P w) A (pyIter (.ref it)) Q E s
abbrev TI:=St→Hp→(It→Hp→Prop)→Prop
def PIE (X:Cx)(pins:List (Addr×Obj))(σ:St)(tg:Expr)(R:It→Hp→Prop)(itv:Value)(s2:Shared):Prop :=
 ∃ (it:Addr) (fp:List Addr) (tn:Nat→Heap→Prop) (J:It) (H':Hp),itv=.ref it∧Inv X pins σ H' s2∧XT X.prog X.w X.K tg J fp it tn∧tn 0 s2.heap∧(∀ b∈fp,Yi X pins H' b)∧R J H'
def PI (X:Cx)(tg iter:Expr)(wi:TI):Prop :=
 ∀ (pins:List (Addr×Obj)) (s:Shared) (σ:St) (H:Hp) (R:It→Hp→Prop),Inv X pins σ H s→wi σ H R →
   wpAny (model X.prog X.w) X.A (eval iter X.env) (fun v s1=>wpAny (model X.prog X.w) X.A (pyIter v) (PIE X pins σ tg R) X.xe s1) X.xe s
theorem WQ {M:Model}{A:Around}{E:Value→Shared→Prop}{s:Shared}{tg:Expr}{it:Addr}{u:Value}{o:Obj}{n:String}{vs:Array Value}{Q:Unit→Shared→Prop}(ho:s.heap.get? it=some o)(hc:o.cls=.type n)(hd:o.data=.fields vs)
   (hn:["enumerate","zip","dict_itemiterator","dict_reverseitemiterator","odict_iterator","itertools.zip_longest","itertools.pairwise"].contains n=false) (hQ:Q () s):wpAny M A (letOwnedTupleGo tg (.ref it) u) Q E s:=by
 unfold letOwnedTupleGo
 cases tg <;> first
   | exact wpAny_pure hQ
   | (cases u<;>first
       | exact wpAny_pure hQ
       | (refine wpAny_bind (wpAny_load ho ?_)
          rw [hc,hd]
          show wpAny M A (if (["enumerate","zip","dict_itemiterator","dict_reverseitemiterator","odict_iterator","itertools.zip_longest","itertools.pairwise"].contains n&&vs[0]? == some (rawInt _))=true then _ else _) Q E s
          rw [if_neg (by intro h;rw [hn,Bool.false_and] at h;cases h)]
          exact wpAny_pure hQ))
def Itl (K:PySem.W.Frag)(a:Addr):It :=
 ⟨fun i H=>∃ xs x,SqL K H a xs∧xs[i]?=some x,fun i H x H'=>H'=H∧∀ xs,SqL K H a xs→xs[i]?=some x,fun i H=>∃ xs,SqL K H a xs∧xs.length≤i⟩
def Itt (K:PySem.W.Frag)(a:Addr):It :=
 ⟨fun i H=>∃ xs x,SqT K H a xs∧xs[i]?=some x,fun i H x H'=>H'=H∧∀ xs,SqT K H a xs→xs[i]?=some x,fun i H=>∃ xs,SqT K H a xs∧xs.length≤i⟩
def WU (lo:Int)(n:Nat):It:=⟨fun i _=>i < n,fun i H x H'=>H'=H∧x=.int (lo+i),fun i _=>n≤i⟩
theorem ZbD {P:Program}{w:World}{K:PySem.W.Frag}{tg:Expr}(a it:Addr):XT P w K tg (Itl K a) [it] it (fun i h=>h.IsListIter it a i) where
 mem:=by simp
 obj:=fun i h st b hb=>by
   have e:b=it:=by simpa using hb
   subst e
   obtain ⟨o,e,c,d⟩:=st
   exact ⟨o,e,fun v z=>by rw [d] at z;cases z⟩
 keep:=fun i h h' st k=>st.at fun o e=>k it (by simp) o e
 item:=by
   intro X hP hw hK hc i pins s σ H E I hf st hg
   subst hP hw hK
   obtain ⟨xs,x,hq,hx⟩:=hg
   obtain ⟨its,rv,p,hz⟩:=I.list hq
   obtain ⟨u,hu,ru⟩:=rv.get hx
   obtain ⟨f0,f1,f2,f3,f4,f5⟩:=hf it (by simp)
   refine wpAny_pyNext_list_item st p.isList (x:=u) (by simpa using hu) fun h' st' sb=>?_
   have I1:Inv X pins σ H { s with heap:=h' }:=I.turned (t':=s.toks) (fun b o hb e=>(sb.2 b hb).trans e) f0 f1 f3 f4 f5
   obtain ⟨o,e,c,d⟩:=id st'
   exact ⟨u,rfl,WQ (s:={ s with heap:=h' }) e c d (by decide) ⟨x,H,I1,ru,⟨rfl,fun ys hy=>by rw [I.list_inj hy hq];exact hx⟩,st',fun b hb=>(hf b hb).1⟩⟩
 done:=by
   intro X hP hw hK hc i pins s σ H E I hf st hg
   subst hP hw hK
   obtain ⟨xs,hq,hx⟩:=hg
   obtain ⟨its,rv,p,hz⟩:=I.list hq
   obtain ⟨f0,f1,f2,f3,f4,f5⟩:=hf it (by simp)
   have hl:=rv.length
   exact wpAny_pyNext_list_end (I.ok.hd hc) st p.isList (by simp;omega) fun h' eb=>⟨rfl,I.turned (t':=s.toks) (fun b o hb e=>eb b o hb e) f0 f1 f3 f4 f5⟩
 self:=fun _ _ _ _ _ st h=>wpAny_pyIter_listiter st h
theorem ZaK {P:Program}{w:World}{K:PySem.W.Frag}{tg:Expr}(a it:Addr):XT P w K tg (Itt K a) [it] it (fun i h=>h.IsTupleIter it a i) where
 mem:=by simp
 obj:=fun i h st b hb=>by
   have e:b=it:=by simpa using hb
   subst e
   obtain ⟨o,e,c,d⟩:=st
   exact ⟨o,e,fun v z=>by rw [d] at z;cases z⟩
 keep:=fun i h h' st k=>st.at fun o e=>k it (by simp) o e
 item:=by
   intro X hP hw hK hc i pins s σ H E I hf st hg
   subst hP hw hK
   obtain ⟨xs,x,hq,hx⟩:=hg
   obtain ⟨its,rv,p,hz⟩:=I.tuple hq
   obtain ⟨u,hu,ru⟩:=rv.get hx
   obtain ⟨f0,f1,f2,f3,f4,f5⟩:=hf it (by simp)
   refine wpAny_pyNext_tuple_item st (show s.heap.IsTuple a its.toArray from p) (x:=u) (by simpa using hu) fun h' st' sb=>?_
   have I1:Inv X pins σ H { s with heap:=h' }:=I.turned (t':=s.toks) (fun b o hb e=>(sb.2 b hb).trans e) f0 f1 f3 f4 f5
   obtain ⟨o,e,c,d⟩:=id st'
   exact ⟨u,rfl,WQ (s:={ s with heap:=h' }) e c d (by decide) ⟨x,H,I1,ru,⟨rfl,fun ys hy=>by rw [I.tuple_inj hy hq];exact hx⟩,st',fun b hb=>(hf b hb).1⟩⟩
 done:=by
   intro X hP hw hK hc i pins s σ H E I hf st hg
   subst hP hw hK
   obtain ⟨xs,hq,hx⟩:=hg
   obtain ⟨its,rv,p,hz⟩:=I.tuple hq
   obtain ⟨f0,f1,f2,f3,f4,f5⟩:=hf it (by simp)
   have hl:=rv.length
   exact wpAny_pyNext_tuple_end (I.ok.hd hc) st (show s.heap.IsTuple a its.toArray from p) (by simp;omega) fun h' eb=>⟨rfl,I.turned (t':=s.toks) (fun b o hb e=>eb b o hb e) f0 f1 f3 f4 f5⟩
 self:=fun _ _ _ _ _ st h=>wpAny_pyIter_tupleiter st h
theorem ZaT {P:Program}{w:World}{K:PySem.W.Frag}{tg:Expr}(it:Addr)(lo:Int)(n:Nat):XT P w K tg (WU lo n) [it] it (fun i h=>IsRangeIter h it (lo+(i:Nat) * 1) ((n:Int) - (i:Nat)) 1) where
 mem:=by simp
 obj := fun i h st b hb=>by
   have e:b=it:=by simpa using hb
   subst e
   exact ⟨_,st,fun v z=>by
     have z':Data.fields _=Data.cell v:=z
     cases z'⟩
 keep:=fun i h h' st k=>k it (by simp) _ st
 item:=by
   intro X hP hw hK hc i pins s σ H E I hf st hg
   subst hP hw hK
   obtain ⟨f0,f1,f2,f3,f4,f5⟩:=hf it (by simp)
   have W:=Walks.range (prog:=X.prog) (w:=X.w) (I.ok.hd hc) it lo 1 n
   refine W.item i s _ _ hg st fun v h' tk hv st' kk=>?_
   obtain ⟨t,rfl⟩:=hv
   have I1:Inv X pins σ H { s with heap:=h',toks:=tk }:=I.turned (fun b o hb e=>kk b o (by simpa using hb) e) f0 f1 f3 f4 f5
   refine ⟨_,rfl,WQ (s:={ s with heap:=h',toks:=tk }) (n:="range_iterator") st' rfl rfl (by decide) ⟨.int (lo+i),H,I1,⟨t,?_⟩,⟨rfl,rfl⟩,st',fun b hb=>(hf b hb).1⟩⟩
   rw [Int.mul_one]
 done:=by
   intro X hP hw hK hc i pins s σ H E I hf st hg
   subst hP hw hK
   obtain ⟨f0,f1,f2,f3,f4,f5⟩:=hf it (by simp)
   exact wpAny_pyNext_range_end (I.ok.hd hc) st (by have:n≤i:=hg;omega) fun h' eb=>⟨rfl,I.turned (t':=s.toks) (fun b o hb e=>eb b o hb e) f0 f1 f3 f4 f5⟩
 self:=fun _ _ _ _ _ st h=>wpAny_pyIter_rangeiter st h
end L2
namespace L2
open PySem PySem.Spec PyProof.Rows
section
variable {X:Cx}{tg:Expr}
def ZeY (K:PySem.W.Frag)(tl:TE):TI:=fun σ H R=>tl σ H fun x H1=>∃ a,x=.ref a∧(∃ xs,SqL K H1 a xs)∧R (Itl K a) H1
def iTup (K:PySem.W.Frag)(tl:TE):TI:=fun σ H R=>tl σ H fun x H1=>∃ a,x=.ref a∧(∃ xs,SqT K H1 a xs)∧R (Itt K a) H1
theorem VT {l:Expr}{tl:TE}(hl:PE X l tl):PI X tg l (ZeY X.K tl):=by
 intro pins s σ H R I h
 refine Zm (hl pins s σ H _ I h) fun v s1 ⟨x,H1,I1,r1,q1⟩=>?_
 obtain ⟨a,e,⟨xs,hq⟩,q⟩:=q1
 subst e
 cases r1
 obtain ⟨its,rv,p,hz⟩:=I1.list hq
 refine wpAny_pyIter_list p.isList ?_
 refine ⟨s1.heap.objs.size,[s1.heap.objs.size],_,_,H1,rfl,I1.kept (t':=s1.toks) fun b o e=>Heap.get?_push_of_some _ e,ZbD a _,⟨_,Heap.get?_push_size _ rfl,rfl,rfl⟩,fun b hb=>?_,q⟩
 have e:b=s1.heap.objs.size:=by simpa using hb
 subst e
 exact I1.fpOk (Nat.le_refl _) (I1.hok.fresh (Nat.le_refl _))
theorem Uc {l:Expr}{tl:TE}(hl:PE X l tl):PI X tg l (iTup X.K tl):=by
 intro pins s σ H R I h
 refine Zm (hl pins s σ H _ I h) fun v s1 ⟨x,H1,I1,r1,q1⟩=>?_
 obtain ⟨a,e,⟨xs,hq⟩,q⟩:=q1
 subst e
 cases r1
 obtain ⟨its,rv,p,hz⟩:=I1.tuple hq
 refine wpAny_pyIter_tuple (show s1.heap.IsTuple a its.toArray from p) ?_
 refine ⟨s1.heap.objs.size,[s1.heap.objs.size],_,_,H1,rfl,I1.kept (t':=s1.toks) fun b o e=>Heap.get?_push_of_some _ e,ZaK a _,⟨_,Heap.get?_push_size _ rfl,rfl,rfl⟩,fun b hb=>?_,q⟩
 have e:b=s1.heap.objs.size:=by simpa using hb
 subst e
 exact I1.fpOk (Nat.le_refl _) (I1.hok.fresh (Nat.le_refl _))
theorem ZcM {pins:List (Addr×Obj)}{σ:St}{H:Hp}{s:Shared}{R:It→Hp→Prop}{E:Value→Shared→Prop}{lo hi:Int}{t u v:Tok}{tk:Nat}(I:Inv X pins σ H s)(h1:-(2 ^ 62)≤lo)(h2:lo < 2 ^ 62)(h3:-(2 ^ 62)≤hi)(h4:hi < 2 ^ 62)
   (q:R (WU lo (hi - lo).toNat) H):wpAny (model X.prog X.w) X.A (pyIter (.ref s.heap.objs.size)) (PIE X pins σ tg R) E { s with heap:=s.heap.push { cls:=.type "range",data:=.fields #[.int lo t,.int hi u,.int 1 v] },toks:=tk }:=by
 refine wpAny_pyIter_range (IsRange.new ..) (small_one h1 h2 h3 h4) ?_
 have I1:Inv X pins σ H { s with heap:=s.heap.push { cls:=.type "range",data:=.fields #[.int lo t,.int hi u,.int 1 v] },toks:=tk }:=I.kept fun b o e=>Heap.get?_push_of_some _ e
 refine ⟨(s.heap.push { cls:=.type "range",data:=.fields #[.int lo t,.int hi u,.int 1 v] }).objs.size,[(s.heap.push { cls:=.type "range",data:=.fields #[.int lo t,.int hi u,.int 1 v] }).objs.size],_,_,H,rfl,
   I1.kept (t':=tk) fun b o e=>Heap.get?_push_of_some _ e,ZaT _ lo (hi - lo).toNat,?_,fun b hb=>?_,q⟩
 · have e1:lo+((0:Nat):Int) * 1=lo:=by simp
   have e2:(((hi - lo).toNat:Nat):Int) - ((0:Nat):Int)=Builtin.Range.rangeSize lo hi 1:=by rw [rangeSize_one];split<;>omega
   show IsRangeIter _ _ (lo+((0:Nat):Int) * 1) ((((hi - lo).toNat:Nat):Int) - ((0:Nat):Int)) 1
   rw [e1,e2]
   exact Heap.get?_push_size _ rfl
 · have e:b=(s.heap.push { cls:=.type "range",data:=.fields #[.int lo t,.int hi u,.int 1 v] }).objs.size:=by simpa using hb
   subst e
   exact I1.fpOk (Nat.le_refl _) (I1.hok.fresh (Nat.le_refl _))
def Zfo (ta:TA):TI:=fun σ H R=>ta σ H fun vs H1=>∃ j:Int,vs=[.int j]∧-(2 ^ 62)≤j∧j < 2 ^ 62∧R (WU 0 j.toNat) H1
theorem YY {a:Expr}{ta:TA}{p pos:Pos}(hg:Gl X "range")(hm:X.mg "range"=none)(ha:PA X [a] ta)(hs:starEach [a] X.env=[(false,eval a X.env)]:=by rfl):PI X tg (.Call (.Name "range" p) [a] [] pos) (Zfo ta):=by
 intro pins s σ H R I h
 refine Call_ (Wn I hg hm boot_range (PyProof.Rows.callWith_type1 (Zm (ha pos pins s σ H _ I h) fun us s1 ⟨vs,H1,I1,r1,q1⟩=>?_) hs rfl))
 obtain ⟨j,e,q1,q2,q⟩:=q1
 subst e
 cases r1 with
 | cons r rr =>
   cases rr
   obtain ⟨t,rfl⟩:=r
   exact call_range_1 (ZcM I1 (by omega) (by omega) q1 q2 (by simpa using q))
def tFor (wi:TI)(g:TG)(tb:TS):TS:=fun D σ H=>wi σ H fun J H1=>∃ W:Nat→Nat→St→Hp→Prop,(∃ m,W 0 m σ H1)∧∀ i m σ H,W i m σ H →
 (J.stop i H∧D.nx σ H)∨(J.go i H∧∃ N:St→Hp→Prop,(∀ σ' H',N σ' H'→∃ m',m' < m∧W (i+1) m' σ' H')∧∀ x H',J.yld i H x H'→g x σ H' fun σ2 H2=>tb { D with nx:=N,ct:=N,bk:=D.nx } σ2 H2)
def WW (fp:List Addr)(h:Heap):List (Addr×Obj):=fp.filterMap fun b=>(h.get? b).map fun o=>(b,o)
theorem Yb {fp:List Addr}{h:Heap}{b:Addr}{o:Obj}(hb:b∈fp)(e:h.get? b=some o):(b,o)∈WW fp h:=List.mem_filterMap.mpr ⟨b,hb,by rw [e];rfl⟩
theorem Zbl {fp:List Addr}{h:Heap}{p:Addr×Obj}(hp:p∈WW fp h):p.1∈fp∧h.get? p.1=some p.2:=by
 obtain ⟨b,hb,e⟩:=List.mem_filterMap.mp hp
 cases q:h.get? b with
 | none=>rw [q] at e;cases e
 | some o =>
   rw [q] at e
   have e':(b,o)=p:=Option.some.inj e
   subst e'
   exact ⟨hb,q⟩
theorem Inv.pinned {pins:List (Addr×Obj)}{σ:St}{H:Hp}{s:Shared}{fp:List Addr}(I:Inv X pins σ H s)(hf:∀ b∈fp,Yi X pins H b)(ho:∀ b∈fp,∃ o,s.heap.get? b=some o∧∀ v,o.data≠.cell v):Inv X (pins++WW fp s.heap) σ H s :=
 I.pins_of fun p hp=>(List.mem_append.mp hp).elim (fun z=>I.pin p (List.mem_append_right _ z)) fun z=>by
   obtain ⟨hb,e⟩:=Zbl z
   obtain ⟨f0,f1,f2,_⟩:=hf p.1 hb
   obtain ⟨o,e',d⟩:=ho p.1 hb
   rw [e] at e';cases e'
   exact ⟨e,f0,f1,f2,d⟩
theorem Inv.unpinned {pins pl:List (Addr×Obj)}{σ:St}{H:Hp}{s:Shared}(I:Inv X (pins++pl) σ H s):Inv X pins σ H s:=I.pins_of fun p hp=>I.pin p (List.mem_append_right _ (List.mem_append_left _ hp))
theorem XF {iter:Expr}{body:List Stmt}{wi:TI}{g:TG}{tb:TS}{pos:Pos}(hp:PassesOwn (model X.prog X.w) X.A X.env X.xe)(hc:X.calm=true)(hi:PI X tg iter wi)(hg:PG X tg g)(hb:PSs X body tb)
   (hs:∀ x,foldedSetIterable iter X.env x=pure x:=by intro _;rfl):PS X (.For tg iter body [] pos) (tFor wi g tb):=by
 intro pins s σ H D I h
 refine wpAny_For (Zm (hi pins s σ H _ I h) fun v s1 h1=>Zm h1 fun itv s2 h2=>?_) hs
 obtain ⟨it,fp,tn,J,H2,e,I2,T,st2,f2,W,⟨m0,w0⟩,turn⟩:=h2
 subst e
 have stat:∀ {H':Hp},(∀ b∈fp,H' b=none)→∀ b∈fp,Yi X pins H' b:=fun hn b hb=>⟨hn b hb,(f2 b hb).2⟩
 refine codeAny_forLoop_any (fun n s'=>∃ i σ' H',Inv X pins σ' H' s'∧tn i s'.heap∧(∀ b∈fp,H' b=none)∧W i n σ' H') ?_ m0 ⟨0,σ,H2,I2,st2,fun b hb=>(f2 b hb).1,w0⟩
 rintro n s3 ⟨i,σ3,H3,I3,st3,fr3,w3⟩
 rcases turn i n σ3 H3 w3 with ⟨stop,qn⟩ | ⟨go,N,hN,step⟩
 · refine wpAny_passesOwn hp (Zm (T.done X rfl rfl rfl hc i pins s3 σ3 H3 X.xe I3 (stat fr3) st3 stop) fun r s4 ⟨hr,I4⟩=>?_)
   subst hr
   exact wpAny_execs_nil ⟨σ3,H3,I4,qn⟩
 · refine wpAny_passesOwn hp (Zm (T.item X rfl rfl rfl hc i pins s3 σ3 H3 X.xe I3 (stat fr3) st3 go) fun r s4 ⟨u,hr,h4⟩=>?_)
   subst hr
   refine wpAny_passesOwn hp (Zm h4 fun _ s5 ⟨x,H5,I5,r5,y5,st5,fr5⟩=>?_)
   have I5':=I5.pinned (stat fr5) (T.obj _ _ st5)
   refine wpAny_passesOwn hp (Zm (hg _ s5 σ3 H5 x u _ I5' r5 (step x H5 y5)) fun _ s6 ⟨σ6,H6,I6,q6⟩=>?_)
   refine wpAny_passesOwn hp (Zm (hb _ s6 σ6 H6 _ I6 q6) fun f s7 q7=>?_)
   have again:∀ {σ7:St} {H7:Hp},Inv X (pins++WW fp s5.heap) σ7 H7 s7→N σ7 H7→∃ m,m < n∧∃ i σ' H',Inv X pins σ' H' s7∧tn i s7.heap∧(∀ b∈fp,H' b=none)∧W i m σ' H':=fun {σ7 H7} I7 n7=>by
     obtain ⟨m',hm,w7⟩:=hN σ7 H7 n7
     refine ⟨m',hm,i+1,σ7,H7,I7.unpinned,T.keep _ _ _ st5 fun b hb o e=>(I7.pin (b,o) (List.mem_append_right _ (List.mem_append_right _ (Yb hb e)))).1,fun b hb=>?_,w7⟩
     obtain ⟨o,e,d⟩:=T.obj _ _ st5 b hb
     exact (I7.pin (b,o) (List.mem_append_right _ (List.mem_append_right _ (Yb hb e)))).2.1
   cases f with
   | next=>obtain ⟨σ7,H7,I7,n7⟩:=q7;exact again I7 n7
   | cont=>obtain ⟨σ7,H7,I7,n7⟩:=q7;exact again I7 n7
   | brk=>obtain ⟨σ7,H7,I7,q7⟩:=q7;exact ⟨σ7,H7,I7.unpinned,q7⟩
   | ret v=>obtain ⟨x7,σ7,H7,I7,r7,q7⟩:=q7;exact ⟨x7,σ7,H7,I7.unpinned,r7,q7⟩
end
theorem Zak {K:PySem.W.Frag}{a:Addr}{xs:List V}{g:TG}{tb:TS}{D:Wa}{σ:St}{H:Hp}(Pv:Nat→St→Hp→Prop)(h0:Pv 0 σ H)(hl:∀ i σ H,i≤xs.length→Pv i σ H→SqT K H a xs)
   (hs:∀ i x σ H,xs[i]?=some x→Pv i σ H→g x σ H fun σ2 H2=>tb { D with nx:=Pv (i+1),ct:=Pv (i+1),bk:=D.nx } σ2 H2) (hd:∀ σ H,Pv xs.length σ H→D.nx σ H) :
   ∃ W:Nat→Nat→St→Hp→Prop,(∃ m,W 0 m σ H)∧∀ i m σ H,W i m σ H →
     ((Itt K a).stop i H∧D.nx σ H)∨((Itt K a).go i H∧∃ N:St→Hp→Prop,(∀ σ' H',N σ' H'→∃ m',m' < m∧W (i+1) m' σ' H')∧∀ x H',(Itt K a).yld i H x H'→g x σ H' fun σ2 H2=>tb { D with nx:=N,ct:=N,bk:=D.nx } σ2 H2):=by
 refine ⟨fun i m σ H=>m=xs.length - i∧i≤xs.length∧Pv i σ H,⟨xs.length,by simp,Nat.zero_le _,h0⟩,?_⟩
 rintro i m σ H ⟨rfl,hi,p⟩
 have q:=hl i σ H hi p
 by_cases hlt:i < xs.length
 · refine .inr ⟨⟨xs,xs[i],q,by simp [hlt]⟩,Pv (i+1),fun σ' H' p'=>⟨xs.length - (i+1),by omega,rfl,hlt,p'⟩,fun x H' y=>?_⟩
   obtain ⟨e,y⟩:=y
   subst e
   exact hs i x σ _ (y xs q) p
 · have e:i=xs.length:=by omega
   subst e
   exact .inl ⟨⟨xs,q,Nat.le_refl _⟩,hd σ H p⟩
theorem Wj {lo:Int}{n:Nat}{g:TG}{tb:TS}{D:Wa}{σ:St}{H:Hp}(Pv:Nat→St→Hp→Prop)(h0:Pv 0 σ H)
   (hs:∀ i σ H,i < n→Pv i σ H→g (.int (lo+i)) σ H fun σ2 H2=>tb { D with nx:=Pv (i+1),ct:=Pv (i+1),bk:=D.nx } σ2 H2) (hd:∀ σ H,Pv n σ H→D.nx σ H) :
   ∃ W:Nat→Nat→St→Hp→Prop,(∃ m,W 0 m σ H)∧∀ i m σ H,W i m σ H →
     ((WU lo n).stop i H∧D.nx σ H)∨((WU lo n).go i H∧∃ N:St→Hp→Prop,(∀ σ' H',N σ' H'→∃ m',m' < m∧W (i+1) m' σ' H')∧∀ x H',(WU lo n).yld i H x H'→g x σ H' fun σ2 H2=>tb { D with nx:=N,ct:=N,bk:=D.nx } σ2 H2):=by
 refine ⟨fun i m σ H=>m=n - i∧i≤n∧Pv i σ H,⟨n,by simp,Nat.zero_le _,h0⟩,?_⟩
 rintro i m σ H ⟨rfl,hi,p⟩
 by_cases hlt:i < n
 · refine .inr ⟨hlt,Pv (i+1),fun σ' H' p'=>⟨n - (i+1),by omega,rfl,hlt,p'⟩,fun x H' y=>?_⟩
   obtain ⟨e,y⟩:=y
   subst e y
   exact hs i σ _ hlt p
 · have e:i=n:=by omega
   subst e
   exact .inl ⟨Nat.le_refl _,hd σ H p⟩
end L2
namespace L2
open PySem PySem.Spec PyProof.Rows
abbrev R2:=V→V→Hp→VK→Prop
def Ye (X:Cx)(f:Value→Value→Sem Value)(r:R2):Prop :=
 ∀ (pins:List (Addr×Obj)) (s:Shared) (σ:St) (H:Hp) (x y:V) (v u:Value) (Q:VK),Inv X pins σ H s→RelV x v→RelV y u→r x y H Q →
   wpAny (model X.prog X.w) X.A (f v u) (EP X pins σ Q) X.xe s
def UnR (X:Cx)(f:Value→Sem Value)(r:V→Hp→VK→Prop):Prop :=
 ∀ (pins:List (Addr×Obj)) (s:Shared) (σ:St) (H:Hp) (x:V) (v:Value) (Q:VK),Inv X pins σ H s→RelV x v→r x H Q →
   wpAny (model X.prog X.w) X.A (f v) (EP X pins σ Q) X.xe s
def Yj (X:Cx)(f:Value)(r:List V→Hp→VK→Prop):Prop :=
 ∀ (pins:List (Addr×Obj)) (s:Shared) (σ:St) (H:Hp) (xs:List V) (us:List Value) (Q:VK),Inv X pins σ H s→Vals xs us→r xs H Q →
   wpAny (model X.prog X.w) X.A (call f us) (EP X pins σ Q) X.xe s
def tOp (r:R2)(ta tb:TE):TE:=fun σ H Q=>ta σ H fun x H1=>tb σ H1 fun y H2=>r x y H2 Q
def tUn (r:V→Hp→VK→Prop)(ta:TE):TE:=fun σ H Q=>ta σ H fun x H1=>r x H1 Q
def rI (C:Int→Int→Prop)(g:Int→Int→V):R2:=fun x y H Q=>∃ i j,x=.int i∧y=.int j∧C i j∧Q (g i j) H
def Ve (g:Int→Int→V):R2:=fun x y H Q=>∃ i j,x=.int i∧y=.int j∧Q (g i j) H
def rU (g:Int→V):V→Hp→VK→Prop:=fun x H Q=>∃ i,x=.int i∧Q (g i) H
section
variable {X:Cx}{a b c:Expr}{ta tb tc:TE}{pos:Pos}
theorem ZcG (ha:PE X a ta)(hb:PE X b tb){pins:List (Addr×Obj)}{s:Shared}{σ:St}{H:Hp}{R:V→V→Hp→Prop}(I:Inv X pins σ H s)
   (h:ta σ H fun x H1=>tb σ H1 fun y H2=>R x y H2) {Q:Value→Shared→Prop} {f:Value→Value→Sem Value}
   (hf:∀ v u s2 x y H2,Inv X pins σ H2 s2→RelV x v→RelV y u→R x y H2→wpAny (model X.prog X.w) X.A (f v u) Q X.xe s2) :
   wpAny (model X.prog X.w) X.A (eval a X.env) (fun v s₁=>wpAny (model X.prog X.w) X.A (eval b X.env) (fun u s₂=>wpAny (model X.prog X.w) X.A (f v u) Q X.xe s₂) X.xe s₁) X.xe s:=by
 refine Zm (ha pins s σ H _ I h) fun v s1 ⟨x,H1,I1,r1,q1⟩=>?_
 refine Zm (hb pins s1 σ H1 _ I1 q1) fun u s2 ⟨y,H2,I2,r2,q2⟩=>?_
 exact hf v u s2 x y H2 I2 r1 r2 q2
theorem Zi {op:Operator}{r:R2}(ho:Ye X (binaryOp op) r)(ha:PE X a ta)(hb:PE X b tb):PE X (.BinOp a op b pos) (tOp r ta tb):=by
 intro pins s σ H Q I h
 exact wpAny_BinOp (ZcG ha hb I h fun v u s2 x y H2 I2 rx ry q=>ho pins s2 σ H2 x y v u Q I2 rx ry q)
theorem ZaV {op:UnaryOp}{r:V→Hp→VK→Prop}(ho:UnR X (unaryOp op) r)(ha:PE X a ta):PE X (.UnaryOp op a pos) (tUn r ta):=by
 intro pins s σ H Q I h
 exact UnaryOp_ (Zm (ha pins s σ H _ I h) fun v s1 ⟨x,H1,I1,r1,q1⟩=>ho pins s1 σ H1 x v Q I1 r1 q1)
theorem opI {f:Value→Value→Sem Value}{C:Int→Int→Prop}{g:Int→Int→Int}
   (rule:∀ (i j:Int) (t u:Tok) (s:Shared) (Q:Value→Shared→Prop) (E:Value→Shared→Prop),C i j→Q (.int (g i j) s.toks) { s with toks:=s.toks+1 }→wpAny (model X.prog X.w) X.A (f (.int i t) (.int j u)) Q E s) :
   Ye X f (rI C fun i j=>.int (g i j)):=by
 intro pins s σ H x y v u Q I rx ry h
 obtain ⟨i,j,rfl,rfl,hc,q⟩:=h
 obtain ⟨t,rfl⟩:=rx
 obtain ⟨t',rfl⟩:=ry
 exact rule i j t t' s _ _ hc ⟨.int (g i j),H,I.tok _,⟨_,rfl⟩,q⟩
theorem opI0 {f:Value→Value→Sem Value}{g:Int→Int→Int}
   (rule:∀ (i j:Int) (t u:Tok) (s:Shared) (Q:Value→Shared→Prop) (E:Value→Shared→Prop),Q (.int (g i j) s.toks) { s with toks:=s.toks+1 }→wpAny (model X.prog X.w) X.A (f (.int i t) (.int j u)) Q E s) :
   Ye X f (Ve fun i j=>.int (g i j)):=by
 intro pins s σ H x y v u Q I rx ry h
 obtain ⟨i,j,rfl,rfl,q⟩:=h
 obtain ⟨t,rfl⟩:=rx
 obtain ⟨t',rfl⟩:=ry
 exact rule i j t t' s _ _ ⟨.int (g i j),H,I.tok _,⟨_,rfl⟩,q⟩
theorem Zcp {f:Value→Value→Sem Value}{g:Int→Int→Bool}
   (rule:∀ (i j:Int) (t u:Tok) (s:Shared) (Q:Value→Shared→Prop) (E:Value→Shared→Prop),Q (.bool (g i j)) s→wpAny (model X.prog X.w) X.A (f (.int i t) (.int j u)) Q E s) :
   Ye X f (Ve fun i j=>.bl (g i j)):=by
 intro pins s σ H x y v u Q I rx ry h
 obtain ⟨i,j,rfl,rfl,q⟩:=h
 obtain ⟨t,rfl⟩:=rx
 obtain ⟨t',rfl⟩:=ry
 exact rule i j t t' s _ _ ⟨.bl (g i j),H,I,rfl,q⟩
def CDiv (i j:Int):Prop:=0 < j∧j < 1073741824
def CPow (i j:Int):Prop:=0≤j∧j≤1000000∧i.natAbs < 2 ^ 64
def CMul (i j:Int):Prop:=(-(2 ^ 64) < i∧i < 2 ^ 64)∨(-(2 ^ 64) < j∧j < 2 ^ 64)
theorem CMul.ok {i j:Int}(h:CMul i j):IntMulOk i j:=by
 rcases h with ⟨h1,h2⟩ | ⟨h1,h2⟩
 · exact .of_left (intBits_le_64 h1 h2)
 · exact .of_right (intBits_le_64 h1 h2)
theorem ZU:Ye X (binaryOp .Add) (Ve fun i j=>.int (i+j)):=opI0 fun _ _ _ _ _ _ _ q=>add_int q
theorem Yq:Ye X (binaryOp .Sub) (Ve fun i j=>.int (i - j)):=opI0 fun _ _ _ _ _ _ _ q=>sub_int q
theorem Xp:Ye X (binaryOp .Mult) (rI CMul fun i j=>.int (i * j)):=opI fun _ _ _ _ _ _ _ hc q=>mul_int q hc.ok
theorem ZdR:Ye X (binaryOp .FloorDiv) (rI CDiv fun i j=>.int (i / j)):=opI fun i j _ _ _ _ _ hc q=>by
 have h1:(0:Int) < j:=hc.1
 have h2:j < 1073741824:=hc.2
 exact floordiv_int (by omega) (by rw [Int.fdiv_eq_ediv_of_nonneg i (by omega)];exact q) (.inl (PyProof.noPylong_small (by omega)))
theorem YK:Ye X (binaryOp .Mod) (rI (fun _ j=>0 < j) fun i j=>.int (i % j)):=opI fun i j _ _ _ _ _ hc q=>by
 have h1:(0:Int) < j:=hc
 exact mod_int' (by omega) (by rw [Int.fmod_eq_emod_of_nonneg i (by omega)];exact q)
theorem Ud:Ye X (binaryOp .Pow) (rI CPow fun i j=>.int (i ^ j.toNat)):=opI fun _ _ _ _ _ _ _ hc q=>pow_int_small hc.1 hc.2.1 hc.2.2 q
theorem unI {f:Value→Sem Value}{g:Int→Int}
   (rule:∀ (i:Int) (t:Tok) (s:Shared) (Q:Value→Shared→Prop) (E:Value→Shared→Prop),Q (.int (g i) s.toks) { s with toks:=s.toks+1 }→wpAny (model X.prog X.w) X.A (f (.int i t)) Q E s) :
   UnR X f (rU fun i=>.int (g i)):=by
 intro pins s σ H x v Q I rx h
 obtain ⟨i,rfl,q⟩:=h
 obtain ⟨t,rfl⟩:=rx
 exact rule i t s _ _ ⟨.int (g i),H,I.tok _,⟨_,rfl⟩,q⟩
theorem Vs:UnR X (unaryOp .USub) (rU fun i=>.int (-i)):=unI fun _ _ _ _ _ q=>neg_int q
end
def ZaF:V→V→Bool
 | .non,.non=>true | .non,.int _=>true | .int _,.non=>true | .non,.bl _=>true | .bl _,.non=>true | .non,.str _=>true | .str _,.non=>true
 | .int _,.int _=>true | .bl _,.bl _=>true | .str _,.str _=>true | .byt _,.byt _=>true
 | .int _,.str _=>true | .str _,.int _=>true | .bl _,.str _=>true | .str _,.bl _=>true
 | _,_=>false
def rEq:R2:=fun x y H Q=>ZaF x y=true∧Q (.bl (decide (x=y))) H
def rNe:R2:=fun x y H Q=>ZaF x y=true∧Q (.bl (!decide (x=y))) H
theorem Zal {i j:Int}:decide (V.int i=V.int j)=(i == j):=by
 rw [Bool.eq_iff_iff]
 simp
theorem ZbT {i j:Bool}:decide (V.bl i=V.bl j)=(i == j):=by
 rw [Bool.eq_iff_iff]
 simp
theorem VU {i j:Str}:decide (V.str i=V.str j)=(i == j):=by
 rw [Bool.eq_iff_iff]
 simp
theorem Zaq {i j:Array UInt8}:decide (V.byt i=V.byt j)=(i.toList == j.toList):=by
 rw [Bool.eq_iff_iff]
 cases i
 cases j
 simp
section
variable {X:Cx}{a b c:Expr}{ta tb tc:TE}{pos:Pos}
theorem Zw {pins:List (Addr×Obj)}{σ:St}{H:Hp}{s:Shared}{Q:VK}{k k':Bool}(I:Inv X pins σ H s)(q:Q (.bl k) H)(e:k=k'):EP X pins σ Q (.bool k') s:=by
 subst e
 exact ⟨.bl k,H,I,rfl,q⟩
theorem Xw:Ye X (compareOp .Eq) rEq:=by
 intro pins s σ H x y v u Q I rx ry h
 obtain ⟨hs,q⟩:=h
 cases x with
 | non =>
   cases rx
   cases y with
   | non=>cases ry;exact PySem.EqNone.eq_none_none (Zw I q (by simp))
   | bl j=>cases ry;exact PySem.EqNone.eq_none_bool (Zw I q (by simp))
   | int j=>obtain ⟨t',rfl⟩:=ry;exact PySem.EqNone.eq_none_int (Zw I q (by simp))
   | str j=>obtain ⟨t',rfl⟩:=ry;exact PySem.EqNone.eq_none_str (Zw I q (by simp))
   | _=>exact absurd (show false=true from hs) Bool.false_ne_true
 | bl i =>
   cases rx
   cases y with
   | non=>cases ry;exact PySem.EqNone.eq_bool_none (Zw I q (by simp))
   | bl j=>cases ry;exact eq_bool (Zw I q ZbT)
   | str j=>obtain ⟨t',rfl⟩:=ry;exact PySem.EqMixed.eq_bool_str (Zw I q (by simp))
   | _=>exact absurd (show false=true from hs) Bool.false_ne_true
 | int i =>
   obtain ⟨t,rfl⟩:=rx
   cases y with
   | non=>cases ry;exact PySem.EqNone.eq_int_none (Zw I q (by simp))
   | int j=>obtain ⟨t',rfl⟩:=ry;exact eq_int (Zw I q Zal)
   | str j=>obtain ⟨t',rfl⟩:=ry;exact PySem.EqMixed.eq_int_str (Zw I q (by simp))
   | _=>exact absurd (show false=true from hs) Bool.false_ne_true
 | str i =>
   obtain ⟨t,rfl⟩:=rx
   cases y with
   | non=>cases ry;exact PySem.EqNone.eq_str_none (Zw I q (by simp))
   | bl j=>cases ry;exact PySem.EqMixed.eq_str_bool (Zw I q (by simp))
   | int j=>obtain ⟨t',rfl⟩:=ry;exact PySem.EqMixed.eq_str_int (Zw I q (by simp))
   | str j=>obtain ⟨t',rfl⟩:=ry;exact eq_str (Zw I q VU)
   | _=>exact absurd (show false=true from hs) Bool.false_ne_true
 | byt i =>
   obtain ⟨t,rfl⟩:=rx
   cases y with
   | byt j=>obtain ⟨t',rfl⟩:=ry;exact PySem.W.eq_bytes (Zw I q Zaq)
   | _=>exact absurd (show false=true from hs) Bool.false_ne_true
 | _=>cases y<;>exact absurd (show false=true from hs) Bool.false_ne_true
theorem UY:Ye X (compareOp .NotEq) rNe:=by
 intro pins s σ H x y v u Q I rx ry h
 obtain ⟨hs,q⟩:=h
 cases x with
 | non =>
   cases rx
   cases y with
   | non=>cases ry;exact PySem.EqNone.ne_none_none (Zw I q (by simp))
   | bl j=>cases ry;exact PySem.EqNone.ne_none_bool (Zw I q (by simp))
   | int j=>obtain ⟨t',rfl⟩:=ry;exact PySem.EqNone.ne_none_int (Zw I q (by simp))
   | str j=>obtain ⟨t',rfl⟩:=ry;exact PySem.EqNone.ne_none_str (Zw I q (by simp))
   | _=>exact absurd (show false=true from hs) Bool.false_ne_true
 | bl i =>
   cases rx
   cases y with
   | non=>cases ry;exact PySem.EqNone.ne_bool_none (Zw I q (by simp))
   | bl j=>cases ry;exact ne_bool (Zw I q (congrArg not ZbT))
   | str j=>obtain ⟨t',rfl⟩:=ry;exact PySem.EqMixed.ne_bool_str (Zw I q (by simp))
   | _=>exact absurd (show false=true from hs) Bool.false_ne_true
 | int i =>
   obtain ⟨t,rfl⟩:=rx
   cases y with
   | non=>cases ry;exact PySem.EqNone.ne_int_none (Zw I q (by simp))
   | int j=>obtain ⟨t',rfl⟩:=ry;exact ne_int (Zw I q (congrArg not Zal))
   | str j=>obtain ⟨t',rfl⟩:=ry;exact PySem.EqMixed.ne_int_str (Zw I q (by simp))
   | _=>exact absurd (show false=true from hs) Bool.false_ne_true
 | str i =>
   obtain ⟨t,rfl⟩:=rx
   cases y with
   | non=>cases ry;exact PySem.EqNone.ne_str_none (Zw I q (by simp))
   | bl j=>cases ry;exact PySem.EqMixed.ne_str_bool (Zw I q (by simp))
   | int j=>obtain ⟨t',rfl⟩:=ry;exact PySem.EqMixed.ne_str_int (Zw I q (by simp))
   | str j=>obtain ⟨t',rfl⟩:=ry;exact ne_str (Zw I q (congrArg not VU))
   | _=>exact absurd (show false=true from hs) Bool.false_ne_true
 | byt i =>
   obtain ⟨t,rfl⟩:=rx
   cases y with
   | byt j=>obtain ⟨t',rfl⟩:=ry;exact PySem.W.ne_bytes (Zw I q (congrArg not Zaq))
   | _=>exact absurd (show false=true from hs) Bool.false_ne_true
 | _=>cases y<;>exact absurd (show false=true from hs) Bool.false_ne_true
theorem UU:Ye X (compareOp .Lt) (Ve fun i j=>.bl (decide (i < j))):=Zcp fun _ _ _ _ _ _ _ q=>lt_int q
theorem Zav:Ye X (compareOp .Gt) (Ve fun i j=>.bl (decide (j < i))):=Zcp fun _ _ _ _ _ _ _ q=>gt_int q
theorem ZfB:Ye X (compareOp .GtE) (Ve fun i j=>.bl (decide (j≤i))):=Zcp fun _ _ _ _ _ _ _ q=>ge_int q
theorem ZG (b:Expr){op:CmpOp}(h:op≠.In:=by decide)(h2:op≠.NotIn:=by decide):behindInMarks op b=false:=by
 have e1:(op == CmpOp.In)=false:=by cases op<;>first | rfl | exact absurd rfl h
 have e2:(op == CmpOp.NotIn)=false:=by cases op<;>first | rfl | exact absurd rfl h2
 cases b<;>simp [behindInMarks,e1,e2]
theorem Ws {op:CmpOp}{r:R2}(ho:Ye X (compareOp op) r)(ha:PE X a ta)(hb:PE X b tb)(hm:behindInMarks op b=false):PE X (.Compare a [op] [b] pos) (tOp r ta tb):=by
 intro pins s σ H Q I h
 exact wpAny_Compare1 (ZcG ha hb I h fun v u s2 x y H2 I2 rx ry q=>ho pins s2 σ H2 x y v u Q I2 rx ry q) hm
def Zfw (t:TE):TT:=fun σ H Q=>t σ H fun x H'=>∃ k,x=.bl k∧Q k H'
theorem ZD {op:CmpOp}{r:R2}(ho:Ye X (compareOp op) r)(ha:PE X a ta)(hb:PE X b tb)(hm:behindInMarks op b=false):PT X (.Compare a [op] [b] pos) (Zfw (tOp r ta tb)):=by
 intro pins s σ H Q I h
 refine wpAny_isTrue_Compare1 (Zm (ha pins s σ H _ I h) fun v s1 ⟨x,H1,I1,r1,q1⟩=>Zm (hb pins s1 σ H1 _ I1 q1) fun u s2 ⟨y,H2,I2,r2,q2⟩ =>
   Zm (ho pins s2 σ H2 x y v u _ I2 r1 r2 q2) fun c s3 ⟨z,H3,I3,r3,k,e,q3⟩=>?_) hm
 subst e
 cases r3
 exact wpAny_truthy_bool ⟨H3,I3,q3⟩
theorem XH:(sizeLine:Nat) < 2 ^ 63:=by rw [sizeLine_eq];decide
theorem ZP:Ye X (binaryOp .Add) (fun x y H Q=>∃ i j,x=.str i∧y=.str j∧i.length+j.length≤sizeLine∧Q (.str (i++j)) H):=by
 intro pins s σ H x y v u Q I rx ry h
 obtain ⟨i,j,rfl,rfl,hz,q⟩:=h
 obtain ⟨t,rfl⟩:=rx
 obtain ⟨t',rfl⟩:=ry
 exact add_str (fun t' tk=>⟨.str (i++j),H,I.tok _,⟨_,rfl⟩,q⟩) hz
theorem YT {x:V}{us:List Value}(r:Vals [x] us):∃ u,us=[u]∧RelV x u:=by
 cases r with
 | cons r1 r2=>cases r2;exact ⟨_,rfl,r1⟩
theorem UX {x y:V}{us:List Value}(r:Vals [x,y] us):∃ u w',us=[u,w']∧RelV x u∧RelV y w':=by
 cases r with
 | cons r1 r2 =>
   cases r2 with
   | cons r3 r4=>cases r4;exact ⟨_,_,rfl,r1,r3⟩
theorem VB:Yj X (.builtin "abs") (fun xs H Q=>∃ i,xs=[.int i]∧Q (.int (if i < 0 then -i else i)) H):=by
 intro pins s σ H xs us Q I r h
 obtain ⟨i,rfl,q⟩:=h
 obtain ⟨u,rfl,t,rfl⟩:=YT r
 exact call_abs_int fun u tk=>⟨.int (if i < 0 then -i else i),H,I.tok _,⟨_,rfl⟩,q⟩
theorem UK (hc:X.calm=true):Yj X (.builtin "max") (fun xs H Q=>∃ i j,xs=[.int i,.int j]∧Q (.int (if j > i then j else i)) H):=by
 intro pins s σ H xs us Q I r h
 obtain ⟨i,j,rfl,q⟩:=h
 obtain ⟨u,w',rfl,⟨t,rfl⟩,⟨t',rfl⟩⟩:=UX r
 refine max_two_ints (I.ok.hd hc) fun h' tk k=>⟨_,H,I.kept k,?_,q⟩
 by_cases hj:j > i
 · rw [if_pos hj,if_pos hj];exact ⟨_,rfl⟩
 · rw [if_neg hj,if_neg hj];exact ⟨_,rfl⟩
theorem Zbr (hc:X.calm=true):Yj X (.builtin "min") (fun xs H Q=>∃ i j,xs=[.int i,.int j]∧Q (.int (if j < i then j else i)) H):=by
 intro pins s σ H xs us Q I r h
 obtain ⟨i,j,rfl,q⟩:=h
 obtain ⟨u,w',rfl,⟨t,rfl⟩,⟨t',rfl⟩⟩:=UX r
 refine min_two_ints (I.ok.hd hc) fun h' tk k=>⟨_,H,I.kept k,?_,q⟩
 by_cases hj:j < i
 · rw [if_pos hj,if_pos hj];exact ⟨_,rfl⟩
 · rw [if_neg hj,if_neg hj];exact ⟨_,rfl⟩
theorem UG:Yj X (.type "int") (fun xs H Q=>(∃ i,xs=[.int i]∧Q (.int i) H)∨∃ k,xs=[.bl k]∧Q (.int (if k then 1 else 0)) H):=by
 intro pins s σ H xs us Q I r h
 rcases h with ⟨i,rfl,q⟩ | ⟨k,rfl,q⟩
 · obtain ⟨u,rfl,t,rfl⟩:=YT r
   exact call_int_int ⟨.int i,H,I,⟨_,rfl⟩,q⟩
 · obtain ⟨u,rfl,r1⟩:=YT r
   cases r1
   exact call_int_bool ⟨.int (if k then 1 else 0),H,I.tok _,⟨_,rfl⟩,q⟩
theorem VN:Yj X (.type "str") (fun xs H Q=>∃ i,xs=[.int i]∧i.natAbs.log2 < 1920∧Q (.str (toString i)) H):=by
 intro pins s σ H xs us Q I r h
 obtain ⟨i,rfl,hz,q⟩:=h
 obtain ⟨u,rfl,t,rfl⟩:=YT r
 exact PySem.P.str_of_int hz ⟨.str _,H,I.tok _,⟨_,rfl⟩,q⟩
def ZbX (K:PySem.W.Frag)(x:V)(H:Hp)(n:Nat):Prop :=
 match x with
 | .str y=>y.length≤sizeLine∧n=y.length
 | .byt y=>y.size≤sizeLine∧n=y.size
 | .ref p=>(∃ xs,SqL K H p xs∧n=xs.length)∨∃ xs,SqT K H p xs∧n=xs.length
 | _=>False
theorem ZcH:Yj X (.builtin "len") (fun xs H Q=>∃ x n,xs=[x]∧ZbX X.K x H n∧Q (.int n) H):=by
 intro pins s σ H xs us Q I r h
 obtain ⟨x,n,rfl,e,q⟩:=h
 obtain ⟨u,rfl,rx⟩:=YT r
 have hl:=XH
 have hs:sizeLine=16777216:=sizeLine_eq
 cases x with
 | str y =>
   obtain ⟨t,rfl⟩:=rx
   obtain ⟨hy,e'⟩:y.length≤sizeLine∧n=y.length:=e
   subst e'
   exact len_str (by omega) ⟨.int _,H,I.tok _,⟨_,rfl⟩,q⟩
 | byt y =>
   obtain ⟨t,rfl⟩:=rx
   obtain ⟨hy,e'⟩:y.size≤sizeLine∧n=y.size:=e
   subst e'
   exact PySem.W.len_bytes (by omega) ⟨.int _,H,I.tok _,⟨_,rfl⟩,q⟩
 | ref p =>
   cases rx
   have e':(∃ xs,SqL X.K H p xs∧n=xs.length)∨∃ xs,SqT X.K H p xs∧n=xs.length:=e
   rcases e' with ⟨xs,hx,e'⟩ | ⟨xs,hx,e'⟩
   · subst e'
     obtain ⟨its,r',pl,hz⟩:=I.list hx
     have hlen:=r'.length
     exact Calls.call_len_list pl.isList (by simp only [List.size_toArray];omega) ⟨.int xs.length,H,I.tok _,⟨_,by simp only [List.size_toArray];rw [hlen]⟩,q⟩
   · subst e'
     obtain ⟨its,r',pl,hz⟩:=I.tuple hx
     have hlen:=r'.length
     exact len_tuple pl (by simp only [List.size_toArray];omega) ⟨.int xs.length,H,I.tok _,⟨_,by simp only [List.size_toArray];rw [hlen]⟩,q⟩
 | _=>exact (show False from e).elim
theorem VR:Yj X (.builtin "divmod") (fun xs H Q=>∃ i j,xs=[.int i,.int j]∧CDiv i j∧∀ p,H p=none→Q (.ref p) (upd H p (.tup [.int (i / j),.int (i % j)]))):=by
 intro pins s σ H xs us Q I r h
 obtain ⟨i,j,rfl,⟨h1,h2⟩,q⟩:=h
 obtain ⟨u,w',rfl,⟨t,rfl⟩,⟨t',rfl⟩⟩:=UX r
 refine divmod_int (by omega) ?_ (.inl (PyProof.noPylong_small (by omega)))
 rw [Int.fdiv_eq_ediv_of_nonneg i (by omega),Int.fmod_eq_emod_of_nonneg i (by omega)]
 have hn:H s.heap.objs.size=none:=I.hok.fresh (Nat.le_refl _)
 refine ⟨.ref s.heap.objs.size,_,?_,rfl,q _ hn⟩
 refine I.laid (fun b o e=>Heap.get?_push_of_some _ e) (Nat.le_refl _) ⟨by simp only [List.length_cons,List.length_nil];rw [sizeLine_eq];decide,[.int (i / j) s.toks,.int (i % j) (s.toks+1)],.cons ⟨_,rfl⟩ (.cons ⟨_,rfl⟩ .nil),?_⟩
 exact ⟨_,Heap.get?_push_size s.heap rfl,rfl,0,rfl⟩
end
end L2
namespace L2
open PySem PySem.Spec PyProof.Rows
structure ObjM (h:Heap)(x dx C:Addr)(mA:Str→Option Value):Prop where
 obj:h.get? x=some (PySem.W.instObj C dx)
 ns:h.Ns1 dx mA
 ne:dx≠x
theorem Zbt {h:Heap}{dx:Addr}{mA:Str→Option Value}(n:h.Ns1 dx mA):∃ od,h.get? dx=some od∧∀ name,PySem.W.lookIn name od=some (mA name):=by
 obtain ⟨o,es,ep,ho,hd,hk,_,hm⟩:=n
 refine ⟨o,ho,fun name=>?_⟩
 have e:=hm name
 unfold nsFind findBy at e
 rw [← Array.find?_toList] at e
 unfold PySem.W.lookIn
 rw [hd]
 dsimp only
 split
 · rename_i y q
   rw [q] at e
   exact congrArg some e
 · rename_i q
   rw [q] at e
   have a:es.toList.any (·.refKey)=false:=by
     rw [List.any_eq_false]
     intro y hy
     obtain ⟨z,t,hkey⟩:=hk y (Array.mem_toList_iff.mp hy)
     simp [DictEntry.refKey,hkey]
   have a':¬ es.toList.any (·.refKey)=true:=by rw [a];exact Bool.false_ne_true
   rw [if_neg a']
   exact congrArg some e
theorem ObjM.look {h:Heap}{x dx C:Addr}{mA:Str→Option Value}(I:ObjM h x dx C mA):∃ od,PySem.W.InstAt h x (PySem.W.instObj C dx) C (some od)∧∀ name,PySem.W.lookIn name od=some (mA name) :=
 let ⟨od,ho,hl⟩:=Zbt I.ns
 ⟨od,⟨I.obj,rfl,rfl,ho⟩,hl⟩
section
variable {prog:Program}{w:World}{A:Around}{E:Value→Shared→Prop}{s:Shared}{K:PySem.W.Frag}{x dx C f:Addr}{mA:Str→Option Value}{name:Str}{v:Value}
end
section
variable {P:Program}{w:World}{H H':Hp}{h h':Heap}{a C dx:Addr}{fs fs':List (Str×V)}
theorem ZdV (hok:HOk P w H h)(e:H a=some (.ins C dx fs)):∃ mA,ObjM h a dx C mA∧(∀ f,Zcw (fs.lookup f) (mA f))∧PySem.Within mA (fs.map (·.1))∧fs.length≤1000∧H dx=some (.own a):=by
 obtain ⟨d,z,ne,ob,mA,n,r,q⟩:=(show ObjOk P w H h a (.ins C dx fs) from hok a _ e)
 exact ⟨mA,⟨ob,n,ne⟩,r,q,z,d⟩
end
structure Cls (K:PySem.W.Frag)(C:Addr):Prop where
 pg:PySem.W.plainGet K C Str.empty=true
 hd:PySem.W.hasDictIn K C=true
 po:PySem.W.plainOver K C=true
 sa:PySem.W.findIn K (.ref C) "__setattr__"=some (some (.builtin "object.__setattr__"))
theorem Cls.get {K:PySem.W.Frag}{C:Addr}(c:Cls K C)(f:Str):PySem.W.plainGet K C f=true:=c.pg
section
variable {X:Cx}{pins:List (Addr×Obj)}{σ:St}{H:Hp}{s:Shared}{a C dx:Addr}{fs:List (Str×V)}{f:Str}{v:V}{A:Around}{E:Value→Shared→Prop}
end
section
variable {X:Cx}{o e value:Expr}{f:Str}{pos pos' tpos:Pos}{ta tv:TE}
end
section
variable {X:Cx}{pins:List (Addr×Obj)}{σ:St}{H:Hp}{s:Shared}{A:Around}{E:Value→Shared→Prop}{Q:Value→Shared→Prop}{c:Value}{b:Bool}
inductive Xe (K:PySem.W.Frag)(H:Hp):V→Value→Prop where
 | non:Xe K H .non (.type "NoneType")
 | bl (x:Bool):Xe K H (.bl x) (.type "bool")
 | int (i:Int):Xe K H (.int i) (.type "int")
 | str (x:Str):Xe K H (.str x) (.type "str")
 | flt (x:UInt64):Xe K H (.flt x) (.type "float")
 | lst {a:Addr} {xs:List V} (e:H a=some (.lst xs)):Xe K H (.ref a) (.type "list")
 | frz {a:Addr} {o:Obj} {xs:List V} (e:H a=some (.frz o (.lst xs))):Xe K H (.ref a) (.type "list")
 | tup {a:Addr} {xs:List V} (e:H a=some (.tup xs)):Xe K H (.ref a) (.type "tuple")
 | dK {a:Addr} {kvs:List (Yw×V)} (e:H a=some (.dK kvs)):Xe K H (.ref a) (.type "dict")
 | dT {a:Addr} {kvs:List (List Yw×V)} (e:H a=some (.dT kvs)):Xe K H (.ref a) (.type "dict")
 | ins {a C dx:Addr} {fs:List (Str×V)} (e:H a=some (.ins C dx fs)) (cl:Cls K C) (ha:PySem.W.findIn K (.ref C) "__class__"=some (some (.builtin "object.__class__")))
     (hn:PySem.W.specialIn K (.builtin "object.__class__") "__get__"=some (some (.builtin "getset_descriptor.__get__"))) (htk:PySem.W.takesIn K (.builtin "object.__class__")=some true)
     (hm:PySem.W.mroIn K C (.type "object")=some true):Xe K H (.ref a) (.ref C)
end
end L2
namespace L2
open PySem PySem.Spec PyProof.Rows
structure Room (k:Nat)(A:Around):Prop where
 hd:A.handled=none
 dp:A.depth+3 * k+5 < recursionLimit
 un:A.units+16 * k+200 < cLine
 gd:A.guards=some []
theorem Room.mono {j k:Nat}{A:Around}(r:Room k A)(h:j≤k):Room j A:=⟨r.hd,by have:=r.dp;omega,by have:=r.un;omega,r.gd⟩
theorem Room.deeper {k:Nat}{A:Around}(r:Room (k+1) A)(env:Env):Room k (A.deeper env) :=
 ⟨r.hd,by have:=r.dp;show A.depth+1+3 * k+5 < _;omega,by have:=r.un;show A.units+3+16 * k+200 < _;omega,r.gd⟩
theorem Room.depth {k:Nat}{A:Around}(r:Room k A):A.depth < recursionLimit:=by have:=r.dp;omega
theorem Room.units {k:Nat}{A:Around}(r:Room k A):A.units+64 < cLine:=by have:=r.un;omega
def Vr:TA:=fun _ H Q=>Q [] H
def Xg (ta:TE)(tr:TA):TA:=fun σ H Q=>ta σ H fun x H1=>tr σ H1 fun xs H2=>Q (x::xs) H2
section
variable {X:Cx}{e:Expr}{es:List Expr}{te:TE}{t:TA}{pos:Pos}
theorem Za:PA X [] Vr:=fun _ _ _ _ H Q I h=>Calls.spliced_nil ⟨[],H,I,.nil,h⟩
theorem ZS (ha:PE X e te)(hr:PA X es t)(hs:starEach (e::es) X.env=(false,eval e X.env)::starEach es X.env:=by rfl):PA X (e::es) (Xg te t):=by
 intro pos pins s σ H Q I h
 rw [hs]
 show wpAny _ _ (spliced ((false,eval e X.env)::backTo pos (starEach es X.env))) _ _ s
 refine Calls.spliced_cons (Zm (ha pins s σ H _ I h) fun u s1 ⟨x,H1,I1,r1,q1⟩=>?_)
 exact Zm (hr pos pins s1 σ H1 _ I1 q1) fun us s2 ⟨xs,H2,I2,r2,q2⟩=>⟨x::xs,H2,I2,.cons r1 r2,q2⟩
def tTup (t:TA):TE:=fun σ H Q=>t σ H fun xs H1=>xs.length≤sizeLine∧∀ p,H1 p=none→Q (.ref p) (upd H1 p (.tup xs))
def tLst (t:TA):TE:=fun σ H Q=>t σ H fun xs H1=>xs.length≤sizeLine∧∀ p,H1 p=none→Q (.ref p) (upd H1 p (.lst xs))
theorem ZJ {x1}(h:PA X es t):PE X (.Tuple es x1 pos) (tTup t):=by
 intro pins s σ H Q I hq
 refine wpAny_Tuple_spliced (Zm (h pos pins s σ H _ I hq) fun us s1 ⟨xs,H1,I1,r,z,q⟩=>⟨by rw [← r.length];exact z,?_⟩)
 have hf:H1 s1.heap.objs.size=none:=I1.hok.fresh (Nat.le_refl _)
 refine ⟨.ref s1.heap.objs.size,upd H1 s1.heap.objs.size (.tup xs),I1.laid (t':=s1.toks) (fun b u e=>Heap.get?_push_of_some _ e) (Nat.le_refl _) ?_,rfl,q _ hf⟩
 exact ⟨z,us,r,⟨_,Heap.get?_push_size _ rfl,rfl,_,rfl⟩⟩
theorem ZF (h:PA X es t):PE X (.List es pos) (tLst t):=by
 intro pins s σ H Q I hq
 refine wpAny_List_spliced (Zm (h pos pins s σ H _ I hq) fun us s1 ⟨xs,H1,I1,r,z,q⟩=>⟨by rw [← r.length];exact z,?_⟩)
 have hf:H1 s1.heap.objs.size=none:=I1.hok.fresh (Nat.le_refl _)
 refine ⟨.ref s1.heap.objs.size,upd H1 s1.heap.objs.size (.lst xs),I1.laid (t':=s1.toks) (fun b u e=>Heap.get?_push_of_some _ e) (Nat.le_refl _) ?_,rfl,q _ hf⟩
 exact ⟨z,us,0,r,Heap.get?_push_size _ rfl⟩
end
abbrev Sp:=List V→Hp→VK→XK→Prop
abbrev Xy:=List Env→Hp→Shared→XK→Value→Shared→Prop
structure Vh (P:Program)(w:World)(K:PySem.W.Frag)(mg:Str→Option Value)(base:Heap)(A:Around)(outer:List Env)(s:Shared)(H:Hp):Prop where
 frames:A.frames=some outer
 mod:Mod K mg base
 bs:∀ b o,base.get? b=some o→s.heap.get? b=some o∧H b=none
 bsz:base.objs.size≤s.heap.objs.size
 funs:s.heap.FunFrames base outer
 frf:∀ b∈Wf outer,H b=none
 hok:HOk P w H s.heap
 bare:AllBare s.gens
def CE (outer:List Env)(P:Program)(w:World)(H:Hp)(s:Shared)(Q:VK)(u:Value)(s':Shared):Prop :=
 ∃ v H',s'.os=s.os∧AllBare s'.gens∧Un (Wf outer) [] H H' s.heap s'.heap∧HOk P w H' s'.heap∧RelV v u∧Q v H'
def CR (CX:Xy)(outer:List Env)(P:Program)(w:World)(H:Hp)(s:Shared)(Q:VK)(E:XK)(r:Result)(s':Shared):Prop :=
 match r with
 | .ok (.ret u)=>CE outer P w H s Q u s'
 | .ok _=>False
 | .error e=>CX outer H s E e s'
structure FnOk (P:Program)(w:World)(K:PySem.W.Frag)(mg:Str→Option Value)(base:Heap)(CX:Xy)(k:Nat)(f:Addr)(fd:FuncData)(ps:List Str)(sp:Sp):Prop where
 len:∀ vs H Q E,sp vs H Q E→vs.length=ps.length
 run:∀ (A:Around) (outer:List Env) (s:Shared) (H:Hp) (args:Args) (us:List Value) (vs:List V) (Q:VK) (E:XK),Room k A→Vh P w K mg base A outer s H→BindsTo s fd args (ps.zip us)→Vals vs us→sp vs H Q E →
   codeAny (model P w) A (.call (.ref f) args) (CR CX outer P w H s Q E) s
theorem FnOk.mono {P:Program}{w:World}{K:PySem.W.Frag}{mg:Str→Option Value}{base:Heap}{CX:Xy}{j k:Nat}{f:Addr}{fd:FuncData}{ps:List Str}{sp:Sp}(F:FnOk P w K mg base CX j f fd ps sp)(h:j≤k) :
 FnOk P w K mg base CX k f fd ps sp:=⟨F.len,fun A outer s H args us vs Q E hr=>F.run A outer s H args us vs Q E (hr.mono h)⟩
theorem FnOk.imp {P:Program}{w:World}{K:PySem.W.Frag}{mg:Str→Option Value}{base:Heap}{CX:Xy}{k:Nat}{f:Addr}{fd:FuncData}{ps:List Str}{sp sp':Sp}(F:FnOk P w K mg base CX k f fd ps sp)
   (h:∀ vs H Q E,sp' vs H Q E→sp vs H Q E):FnOk P w K mg base CX k f fd ps sp' :=
 ⟨fun vs H Q E q=>F.len vs H Q E (h _ _ _ _ q),fun A outer s H args us vs Q E hr he hb hv hs=>F.run A outer s H args us vs Q E hr he hb hv (h _ _ _ _ hs)⟩
section
variable {X:Cx}{pins:List (Addr×Obj)}{σ:St}{H:Hp}{s s':Shared}
theorem Inv.env0 (I:Inv X pins σ H s):Vh X.prog X.w X.K X.mg X.base X.A X.stack s H :=
 ⟨I.ok.frames,I.ok.mod,I.bs,Nat.le_trans I.ok.bsz I.sz,I.stack,I.stkFree,I.hok,I.bare⟩
theorem Inv.after {Q:VK}{u:Value}(I:Inv X pins σ H s)(h:CE X.stack X.prog X.w H s Q u s'):EP X pins σ Q u s':=by
 obtain ⟨v,H',os,bare,un,hok,r,q⟩:=h
 obtain ⟨hh,g,d,t,os'⟩:=s'
 obtain rfl:os'=s.os:=os
 exact ⟨v,H',I.call (h':=hh) (g':=g) (d':=d) (t':=t) (ch:=[]) un hok bare (fun b z=>absurd z (by simp)),r,q⟩
end
def UV (sp:Sp)(dvs:List V)(E:XK)(t:TA):TE:=fun σ H Q=>t σ H fun vs H1=>sp (vs++dvs) H1 Q E
def Binds (K:PySem.W.Frag)(fd:FuncData)(ps:List Str)(ds:List Value):Prop :=
 ∀ (s:Shared) (us:List Value),K.In s.heap→(us++ds).length=ps.length→BindsTo s fd ⟨us,[]⟩ (ps.zip (us++ds))
theorem Binds.all {K:PySem.W.Frag}{fd:FuncData}{ps:List Str}(h:∀ us:List Value,us.length=ps.length→bindArgs fd ⟨us,[]⟩=pure (ps.zip us)):Binds K fd ps []:=fun s us _ hl=>by
 rw [List.append_nil] at hl ⊢
 exact .of_eq (h us hl)
def VG (CX:Xy)(X:Cx)(E:XK):Prop:=∀(pins:List (Addr×Obj))(σ:St)(H:Hp)(s:Shared)(e:Value)(s':Shared),Inv X pins σ H s→CX X.stack H s E e s'→X.xe e s'
section
variable {X:Cx}{CX:Xy}{k:Nat}{f C:Addr}{fd:FuncData}{ps:List Str}{sp:Sp}{dvs:List V}{ds:List Value}{E:XK}{x m:Str}{p pos apos:Pos}{e o:Expr}{es:List Expr}{ta:TE}{t:TA}
theorem Zex {pins:List (Addr×Obj)}{σ:St}{H:Hp}{s:Shared}{Q:VK}{us:List Value}{vs:List V}(F:FnOk X.prog X.w X.K X.mg X.base CX k f fd ps sp)(hr:Room k X.A)(hb:Binds X.K fd ps ds)(hd:Vals dvs ds)(hx:VG CX X E)
   (I:Inv X pins σ H s) (r:Vals vs us) (h:sp (vs++dvs) H Q E):wpAny (model X.prog X.w) X.A (call (.ref f) us) (EP X pins σ Q) X.xe s:=by
 have r2:Vals (vs++dvs) (us++ds):=r.append hd
 have hl:(us++ds).length=ps.length:=by rw [← r2.length];exact F.len _ _ _ _ h
 refine wpAny_call (codeAny_mono (F.run X.A X.stack s H ⟨us,[]⟩ (us++ds) (vs++dvs) Q E hr I.env0 (hb s us I.kIn hl) r2 h) fun r s' hq=>?_)
 cases r with
 | error e=>exact hx pins σ H s e s' I hq
 | ok fl =>
   cases fl with
   | ret u=>exact I.after hq
   | next=>exact False.elim hq
   | brk=>exact False.elim hq
   | cont=>exact False.elim hq
theorem ZdP (F:FnOk X.prog X.w X.K X.mg X.base CX k f fd ps sp)(hr:Room k X.A)(hg:Gl X x)(hm:X.mg x=some (.ref f))(hk:PySem.W.keepIn X.K (.ref f)=true)(hb:Binds X.K fd ps ds)(hd:Vals dvs ds)(hx:VG CX X E)
   (ha:PA X (e::es) t) (hdb:(x == ("__debug__":Str))=false:=by decide) (he:starEach (e::es) X.env=(false,eval e X.env)::starEach es X.env:=by rfl) (hpl:(backTo pos (starEach es X.env)).any (·.1)=false:=by rfl) :
   PE X (.Call (.Name x p) (e::es) [] pos) (UV sp dvs E t):=by
 intro pins s σ H Q I h
 refine wpAny_Call_Name_kw (Ug I hg hm ?_ hdb)
 refine PySem.W.callWith_K (h₀:=X.base) I.ok.mod.kin hk (Zm (ha pos pins s σ H _ I h) fun us s1 ⟨vs,H1,I1,r,q⟩=>⟨I1.kIn,?_⟩) he hpl
 exact Zex F hr hb hd hx I1 r q
end
section
variable {X:Cx}{CX:Xy}{k:Nat}{f C:Addr}{fd:FuncData}{ps ks:List Str}{sp:Sp}{E:XK}{x m:Str}{p pos apos kpos:Pos}{e o:Expr}{es:List Expr}{kws:List Keyword}{te ta:TE}{t tk:TA}{nm:Option Str}
variable {g:List Value→List Value→List Value}{gV:List V→List V→List V}
end
structure Zt (N P:List Str)(sc:Scope):Prop where
 kind:sc.kind=.function
 co:sc.isCoroutine=false
 gen:sc.isGenerator=false
 nd:N.Nodup
 pre:N.take P.length=P
 par:∀ x∈P,sc.names.lookup x=some .local∨sc.names.lookup x=some .cell
 nofree:∀ y∈sc.names,y.2≠.free
theorem UA {kindOf:Str→Option NameKind}{x:Str}:∀{binds:List (Str×Value)}{m:Str→Option Value},(∀ v,(x,v) ∉ binds)→bindL kindOf binds m x=m x
 | [],_,_=>rfl
 | (n,v)::r,m,h=>by
   unfold bindL
   rw [UA fun w hw=>h w (List.mem_cons_of_mem _ hw)]
   split
   · have:x≠n:=by rintro rfl;exact h v List.mem_cons_self
     simp [this]
   · rfl
theorem UD {kindOf:Str→Option NameKind}{x:Str}:∀{binds:List (Str×Value)}{m:Str→Option Value},(∀ v,(x,v) ∉ binds)→bindC kindOf binds m x=m x
 | [],_,_=>rfl
 | (n,v)::r,m,h=>by
   unfold bindC
   rw [UD fun w hw=>h w (List.mem_cons_of_mem _ hw)]
   split
   · rfl
   · have:x≠n:=by rintro rfl;exact h v List.mem_cons_self
     simp [this]
theorem UB {kindOf:Str→Option NameKind}{x:Str}{v:Value}:∀{P:List Str}{vs:List Value}{i:Nat}{m:Str→Option Value},P.Nodup→P[i]?=some x→vs[i]?=some v→kindOf x=some .local →
   bindL kindOf (P.zip vs) m x=some v
 | [],_,_,_,_,h,_,_=>by simp at h
 | _::_,[],_,_,_,_,h,_=>by simp at h
 | p::P,w::vs,0,m,nd,h1,h2,hk=>by
   simp at h1 h2;subst h1;subst h2
   show bindL kindOf ((p,w)::P.zip vs) m p=_
   unfold bindL
   rw [UA fun v hv=>(List.nodup_cons.mp nd).1 (List.of_mem_zip hv).1,if_pos hk]
   simp
 | p::P,w::vs,i+1,m,nd,h1,h2,hk=>by
   show bindL kindOf ((p,w)::P.zip vs) m x=_
   unfold bindL
   exact UB (i:=i) (List.nodup_cons.mp nd).2 (by simpa using h1) (by simpa using h2) hk
theorem UM {kindOf:Str→Option NameKind}{x:Str}{v:Value}:∀{P:List Str}{vs:List Value}{i:Nat}{m:Str→Option Value},P.Nodup→P[i]?=some x→vs[i]?=some v→kindOf x≠some .local →
   bindC kindOf (P.zip vs) m x=some v
 | [],_,_,_,_,h,_,_=>by simp at h
 | _::_,[],_,_,_,_,h,_=>by simp at h
 | p::P,w::vs,0,m,nd,h1,h2,hk=>by
   simp at h1 h2;subst h1;subst h2
   show bindC kindOf ((p,w)::P.zip vs) m p=_
   unfold bindC
   rw [UD fun v hv=>(List.nodup_cons.mp nd).1 (List.of_mem_zip hv).1,if_neg hk]
   simp
 | p::P,w::vs,i+1,m,nd,h1,h2,hk=>by
   show bindC kindOf ((p,w)::P.zip vs) m x=_
   unfold bindC
   exact UM (i:=i) (List.nodup_cons.mp nd).2 (by simpa using h1) (by simpa using h2) hk
def YJ (N:List Str)(vs:List V):St:=vs.map some++List.replicate (N.length - vs.length) none
def XE (CX:Xy)(P:Program)(w:World)(K:PySem.W.Frag)(mg:Str→Option Value)(base:Heap)(N:List Str)(qual:Str)(scope:Scope)(f:Addr)(cd:Value)(A:Around)(outer:List Env)(s:Shared)(H:Hp)(E:XK):Cx where
 prog:=P
 w:=w
 K:=K
 mg:=mg
 base:=base
 A:=A.deeper (envOfC qual scope s.heap.objs.size f cd)
 N:=N
 s₀:=s
 H₀:=H
 env:=envOfC qual scope s.heap.objs.size f cd
 outer:=outer
 stack:=envOfC qual scope s.heap.objs.size f cd::outer
 ex:=[]
 calm:=true
 fn:=fun _=>true
 pn:=[]
 xe:=fun e s'=>wpAny (model P w) (A.deeper (envOfC qual scope s.heap.objs.size f cd)) (leaving (envOfC qual scope s.heap.objs.size f cd) e) (fun _ s''=>CX outer H s E e s'') (fun e' s''=>CX outer H s E e' s'') s'
theorem Vc {sc:Scope}{n:Nat}{x:Str}(h:sc.names.lookup x=some .cell):∃ c,(cellsFrom n sc.names []).lookup x=some c:=by
 have q:=PySem.W.cellsFrom_some sc.names n [] (.inl h)
 exact Option.isSome_iff_exists.mp q
theorem Zbw {CX:Xy}{P:Program}{w:World}{K:PySem.W.Frag}{mg:Str→Option Value}{base:Heap}{N ps:List Str}{qual:Str}{scope:Scope}{f:Addr}{cd:Value}{A:Around}{outer:List Env}{s s1:Shared}{H:Hp}{E:XK}{us:List Value}{vs:List V}
   (S:Zt N ps scope) (hd:A.handled=none) (e0:Vh P w K mg base A outer s H) (hl:vs.length=ps.length) (r:Vals vs us)
   (x:InCallC s s.heap.objs.size (bindL (envOfC qual scope s.heap.objs.size f cd).kindOf (ps.zip us) fun _=>none) (cellsFrom (s.heap.objs.size+1) scope.names []) (bindC (envOfC qual scope s.heap.objs.size f cd).kindOf (ps.zip us) fun _=>none) s1) :
   Inv (XE CX P w K mg base N qual scope f cd A outer s H E) [] (YJ N vs) H s1:=by
 have hpl:ps.length≤N.length:=by have:=congrArg List.length S.pre;rw [List.length_take] at this;omega
 obtain ⟨h1,tk,rfl,hk⟩:=x.done
 have noA:∀ b:Addr,b ∉ (XE CX P w K mg base N qual scope f cd A outer s H E).ex:=fun b z=>absurd (show b∈([]:List Addr) from z) (by simp)
 refine ⟨⟨e0.mod,S.kind,rfl,rfl,Nat.le_refl _,fun y z c h1 h2=>?_,fun y hy=>?_,fun y c _ h=>?_,fun _=>hd,Around.frames_deeper e0.frames,.inr ⟨rfl,rfl⟩,fun b z=>absurd z (noA b),e0.bs,e0.bsz,fun b _ _=>noA b,fun b z=>absurd z (noA b),e0.funs,e0.frf⟩,
   rfl,e0.bare,Un.kept hk,⟨_,x.toInCall.ns,fun i y v h1 h2 h3=>?_⟩,fun y c h=>⟨_,x.cell y c h⟩,e0.hok.fresh (Nat.le_refl _),fun y c h=>?_,fun p hp=>absurd (show p∈([]:List (Addr×Obj)) from hp) (by simp),e0.hok.kept hk,?_⟩
 · exact name_of_addr x.apart (PySem.mem_of_lookup h1) (PySem.mem_of_lookup h2)
 · have hy:scope.names.lookup y=some .cell∨scope.names.lookup y=some .free:=hy
   rcases hy with hy | hy
   · exact Vc hy
   · exact absurd rfl (S.nofree _ (PySem.mem_of_lookup hy))
 · exact Nat.le_of_lt (x.above y c (PySem.mem_of_lookup h))
 · have hi:i < vs.length:=by
     unfold YJ at h2
     by_cases hi:i < vs.length
     · exact hi
     · rw [List.getElem?_append_right (by simpa using hi)] at h2
       rw [List.getElem?_replicate] at h2
       split at h2<;>cases h2
   have ha:vs[i]?=some v:=by
     unfold YJ at h2
     rw [List.getElem?_append_left (by simpa using hi),List.getElem?_map] at h2
     cases e:vs[i]? with
     | none=>rw [e] at h2;cases h2
     | some a=>rw [e] at h2;cases h2;rfl
   obtain ⟨u,hu,rv⟩:=r.get ha
   have hp:ps[i]?=some y:=by
     rw [← S.pre,List.getElem?_take_of_lt (by omega)];exact h1
   have ndP:ps.Nodup:=by rw [← S.pre];exact S.nd.sublist (List.take_sublist _ _)
   refine ⟨u,rv,?_⟩
   rcases S.par y (List.mem_of_getElem? hp) with k | k
   · exact .inl ⟨k,UB ndP hp hu k⟩
   · obtain ⟨c,e⟩:=Vc (n:=s.heap.objs.size+1) k
     refine .inr ⟨.inl k,c,e,?_⟩
     have q:=x.cell y c e
     rw [UM ndP hp hu (by show scope.names.lookup y≠_;rw [k];decide)] at q
     exact q
 · exact e0.hok.fresh (Nat.le_of_lt (x.above y c (PySem.mem_of_lookup h)))
 · unfold YJ
   show _=N.length
   rw [List.length_append,List.length_map,List.length_replicate]
   omega
theorem Zfp {CX:Xy}{P:Program}{w:World}{K:PySem.W.Frag}{mg:Str→Option Value}{base:Heap}{k:Nat}{f:Addr}{name qual:Str}{params:Arguments}{body:List Stmt}{scope:Scope}{dV kV doc pm cdv ct oc:Value}{an od:Option Addr}
   {osl:Array (Option Value)} {N ps:List Str} {sp:Sp} (lk:K.lookup f=some ⟨oc,od,.func (PySem.W.fnOf name qual params body scope dV kV doc pm an cdv ct),osl⟩) (hcd:PySem.W.codeIn K cdv qual=true) (S:Zt N ps scope)
   (len:∀ vs H Q E,sp vs H Q E→vs.length=ps.length)
   (hbody:∀ (A:Around) (outer:List Env) (s:Shared) (H:Hp) (vs:List V) (Q:VK) (E:XK),Room k (A.deeper (envOfC qual scope s.heap.objs.size f cdv))→sp vs H Q E →
     ∃ t,PSs (XE CX P w K mg base N qual scope f cdv A outer s H E) body t∧t { nx:=fun _ H'=>Q .non H',rt:=Q } (YJ N vs) H) :
   FnOk P w K mg base CX (k+1) f (PySem.W.fnOf name qual params body scope dV kV doc pm an cdv ct) ps sp:=by
 refine ⟨len,fun A outer s H args us vs Q E hr e0 hb r hsp=>?_⟩
 have hl:=len _ _ _ _ hsp
 have KX:K.In s.heap:=e0.mod.kin.keeps fun b o e=>(e0.bs b o e).1
 have lim:s.heap.NoLimit:=e0.mod.nolimit.keeps fun b o e=>(e0.bs b o e).1
 have hkind:∀ y∈ps.zip us,scope.names.lookup y.1=some .local∨(scope.names.lookup y.1=some .cell∧((cellsFrom (s.heap.objs.size+1) scope.names []).lookup y.1).isSome=true):=fun ⟨n,v⟩ hy=>by
   rcases S.par n (List.of_mem_zip hy).1 with q | q
   · exact .inl q
   · exact .inr ⟨q,PySem.W.cellsFrom_some _ _ _ (.inl q)⟩
 refine codeAny_call_function hr.depth (KX _ _ lk) rfl S.co S.gen rfl (PySem.W.codeRec_of KX hcd) (hb _ _ _ _ ?_)
 refine wpAny_newFunctionEnv_cells S.kind hkind fun env he s1 x=>?_
 subst he
 refine ⟨lim.keeps x.toInCall.keep,codeAny_func ?_⟩
 obtain ⟨t,ht,hq⟩:=hbody A outer s H vs Q E (hr.deeper _) hsp
 have I:Inv (XE CX P w K mg base N qual scope f cdv A outer s H E) [] (YJ N vs) H s1:=Zbw S hr.hd e0 hl r x
 refine wpAny_mono (ht [] s1 (YJ N vs) H _ I hq) (fun fl s' hs=>?_) fun e s' hs=>hs
 have fin:∀ {σ':St} {H':Hp} {v:V} {u:Value},Inv (XE CX P w K mg base N qual scope f cdv A outer s H E) [] σ' H' s'→RelV v u→Q v H'→CE outer P w H s Q u s' :=
   fun {σ' H' v u} J rv q=>⟨v,H',J.os,J.bare,J.base,J.hok,rv,q⟩
 cases fl with
 | ret u =>
   obtain ⟨v,σ',H',J,rv,q⟩:=hs
   exact fin J rv q
 | next =>
   obtain ⟨σ',H',J,q⟩:=hs
   exact fin (v:=V.non) (u:=Value.none) J rfl q
 | brk =>
   obtain ⟨_,_,_,q⟩:=hs
   exact False.elim q
 | cont =>
   obtain ⟨_,_,_,q⟩:=hs
   exact False.elim q
end L2
namespace L2
open PySem PySem.Spec PyProof.Rows
section
variable {X:Cx}{x:Str}{p pos:Pos}{e:Expr}{es:List Expr}{t:TA}{id T:String}{r:List V→Hp→VK→Prop}
def tCB (r:List V→Hp→VK→Prop)(t:TA):TE:=fun σ H Q=>t σ H fun vs H1=>r vs H1 Q
theorem ZA (hc:Yj X (.builtin id) r)(hg:Gl X x)(hm:X.mg x=none)(hv:bootBuiltins x=some (.builtin id))(ha:PA X (e::es) t)(hn:x≠"__name__":=by decide)(hdb:(x == ("__debug__":Str))=false:=by decide)
   (he:starEach (e::es) X.env=(false,eval e X.env)::starEach es X.env:=by rfl) (hpl:(backTo pos (starEach es X.env)).any (·.1)=false:=by rfl):PE X (.Call (.Name x p) (e::es) [] pos) (tCB r t):=by
 intro pins s σ H Q I h
 refine wpAny_Call_Name_kw (Wn I hg hm hv ?_ hn hdb)
 exact PyProof.Rows.callWith_builtin1 (Zm (ha pos pins s σ H _ I h) fun us s1 ⟨vs,H1,I1,r1,q1⟩=>hc pins s1 σ H1 vs us Q I1 r1 q1) he hpl
theorem YX (hc:Yj X (.type T) r)(hg:Gl X x)(hm:X.mg x=none)(hv:bootBuiltins x=some (.type T))(ha:PA X (e::es) t)(hn:x≠"__name__":=by decide)(hdb:(x == ("__debug__":Str))=false:=by decide)
   (he:starEach (e::es) X.env=(false,eval e X.env)::starEach es X.env:=by rfl) (hpl:(backTo pos (starEach es X.env)).any (·.1)=false:=by rfl):PE X (.Call (.Name x p) (e::es) [] pos) (tCB r t):=by
 intro pins s σ H Q I h
 refine wpAny_Call_Name_kw (Wn I hg hm hv ?_ hn hdb)
 exact PyProof.Rows.callWith_type1 (Zm (ha pos pins s σ H _ I h) fun us s1 ⟨vs,H1,I1,r1,q1⟩=>hc pins s1 σ H1 vs us Q I1 r1 q1) he hpl
end
end L2
namespace HT
open PySem PyProof.Rows
section
open PySem.SeqAt
open PySem.AutoSeq1 (wpAny_loadPart')
open PySem.MeetsSeq PySem.MeetsSeq2 PySem.MeetsSeq3
end
section
variable {prog:Program}{w:World}{A:Around}{E:Value→Shared→Prop}{s:Shared}
theorem cat_tup {t b:Addr}{vs ws:List Value}{Q:Value→Shared→Prop}(ht:IsTup s.heap t vs.toArray)(hb:IsTup s.heap b ws.toArray)(hv:vs≠[])
   (h1:ws=[]→Q (.ref t) s) (h2:ws≠[]→Q (.ref s.heap.objs.size) { s with heap:=s.heap.push { cls:=.type "tuple",data:=.seq (vs++ws).toArray } })
   (hsz:vs.length+ws.length≤sizeLine):wpAny (model prog w) A (binaryOp .Add (.ref t) (.ref b)) Q E s:=by
 obtain ⟨⟨cls,dd,data,sl⟩,ho,hc,n,hd⟩:=id ht
 obtain ⟨⟨cls2,dd2,data2,Xf⟩,ho2,hc2,n2,hd2⟩:=id hb
 simp only at hc hd hc2 hd2
 subst hc hd hc2 hd2
 have e:vs.toArray++ws.toArray=(vs++ws).toArray:=by simp
 by_cases hw:ws=[]
 · exact concat_meets ⟨_,ho,rfl⟩ ⟨_,ho2,rfl⟩ noFill_tuple_add seq_tuple_add PySem.F.slot_tuple_add PySem.F.entry_tuple_add (PySem.F.args_tuple_add_2 _ _)
     (tuple_addW1 t b vs.toArray ws.toArray n n2 dd dd2 sl Xf (by simpa using hv) (by simp [hw])) ⟨ho,ho2,h1 hw⟩
 · refine concat_meets ⟨_,ho,rfl⟩ ⟨_,ho2,rfl⟩ noFill_tuple_add seq_tuple_add PySem.F.slot_tuple_add PySem.F.entry_tuple_add (PySem.F.args_tuple_add_2 _ _)
     (tuple_addW2 t b vs.toArray ws.toArray n n2 dd dd2 sl Xf (by simpa using hv) (by simpa using hw) (by rw [List.size_toArray,List.size_toArray];exact hsz)) ⟨ho,ho2,?_⟩
   rw [e]
   exact h2 hw
def sIx (n d:Nat):Option Int→Nat
 | none=>d
 | some v=>if v < 0 then (v+(n:Int)).toNat else min v.toNat n
theorem sIx_none (n d:Nat):sIx n d none=d:=rfl
theorem sIx_nat (n d k:Nat):sIx n d (some (k:Int))=min k n:=by
 show (if (k:Int) < 0 then ((k:Int)+(n:Int)).toNat else min (k:Int).toNat n)=min k n
 rw [if_neg (by omega),Int.toNat_natCast]
theorem sIx_le (n d:Nat)(hd:d≤n)(o:Option Int):sIx n d o≤n:=by
 cases o with
 | none=>exact hd
 | some v =>
   show (if v < 0 then (v+(n:Int)).toNat else min v.toNat n)≤n
   by_cases hv:v < 0
   · rw [if_pos hv];omega
   · rw [if_neg hv];exact Nat.min_le_right _ _
theorem Zai (v:Int)(n d:Nat):(if v < 0 then max (v+(n:Int)) 0 else min v (n:Int))=((sIx n d (some v):Nat):Int):=by
 show (if v < 0 then max (v+(n:Int)) 0 else min v (n:Int))=(((if v < 0 then (v+(n:Int)).toNat else min v.toNat n):Nat):Int)
 by_cases hv:v < 0
 · simp only [if_pos hv];omega
 · simp only [if_neg hv];omega
theorem ZaB (lo hi:Option Int)(n:Nat):Builtin.Slice.sliceAdjust lo hi 1 (n:Int)=(((sIx n 0 lo:Nat):Int),((sIx n n hi:Nat):Int)):=by
 have h1:¬ ((1:Int) < 0):=by omega
 unfold Builtin.Slice.sliceAdjust
 simp only [h1,if_false]
 refine Prod.ext ?_ ?_
 · cases lo with
   | none=>rfl
   | some v=>exact Zai v n 0
 · cases hi with
   | none=>rfl
   | some v=>exact Zai v n n
theorem ZaS (i j:Nat):Builtin.Slice.slicePlaces (i:Int) (j:Int) 1=j - i:=by
 unfold Builtin.Slice.slicePlaces
 have h1:(1:Int) > 0:=by omega
 simp only [h1,if_true,Int.ediv_one]
 split<;>omega
theorem WY {v:Value}{o:Option Int}{Q:Option Int→Shared→Prop}(p:IsPart v o)(h:Q o s):wpAny (model prog w) A (Builtin.Slice.slicePartIndex v) Q E s:=by
 cases p with
 | none=>exact slicePart_none h
 | int i t=>exact slicePart_int h
theorem sliceApplied_gen {sl:Addr}{vl vu:Value}{lo hi:Option Int}{n:Nat}{Q:Int×Int×Nat→Shared→Prop}(hs:s.heap.IsSliceOf sl vl vu .none)(pl:IsPart vl lo)(pu:IsPart vu hi)
   (h:Q (((sIx n 0 lo:Nat):Int),1,sIx n n hi - sIx n 0 lo) s):wpAny (model prog w) A (Builtin.Slice.sliceApplied (.ref sl) (pure (n:Int))) Q E s:=by
 obtain ⟨os,hos,hcs,hds⟩:=id hs
 unfold Builtin.Slice.sliceApplied Builtin.Slice.sliceFields
 refine wpAny_bind (wpAny_bind (wpAny_field hos hds (x:=vl) rfl (wpAny_bind (wpAny_field hos hds (x:=vu) rfl (wpAny_bind (wpAny_field hos hds (x:=.none) rfl (wpAny_pure ?_)))))))
 refine wpAny_bind (slicePart_none ?_)
 show wpAny _ _ (if ((1:Int) == 0)=true then _ else _) _ _ s
 rw [if_neg (by decide)]
 refine wpAny_bind (WY pl (wpAny_bind (WY pu (wpAny_bind (wpAny_pure ?_)))))
 show wpAny _ _ (match Builtin.Slice.sliceAdjust lo hi 1 (n:Int) with | (lo,hi)=>pure (lo,(1:Int),Builtin.Slice.slicePlaces lo hi 1)) _ _ s
 rw [ZaB lo hi n]
 show wpAny _ _ (pure (((sIx n 0 lo:Nat):Int),(1:Int),Builtin.Slice.slicePlaces ((sIx n 0 lo:Nat):Int) ((sIx n n hi:Nat):Int) 1)) _ _ s
 rw [ZaS]
 exact wpAny_pure h
theorem ZcI (xs:Array Value)(i k:Nat):((List.range k).filterMap fun (m:Nat)=>xs[((i:Int)+(m:Int) * 1).toNat]?).toArray=((xs.toList.drop i).take k).toArray:=by
 have e:(fun (m:Nat)=>xs[((i:Int)+(m:Int) * 1).toNat]?)=fun m=>xs[i+m]?:=by
   funext m
   have:((i:Int)+(m:Int) * 1).toNat=i+m:=by omega
   rw [this]
 rw [e]
 have:=pick_run xs i k
 rw [List.filterMap_map] at this
 have e2:((fun x=>xs[x]?) ∘ fun x=>i+x)=fun m=>xs[i+m]?:=rfl
 rw [e2] at this
 rw [this]
theorem getItem_tuple_cut {t sl:Addr}{items:Array Value}{vl vu:Value}{lo hi:Option Int}{Q:Value→Shared→Prop}(ht:IsTup s.heap t items)(hs:s.heap.IsSliceOf sl vl vu .none)(pl:IsPart vl lo)(pu:IsPart vu hi)
   (hw:¬ (sIx items.size 0 lo=0∧sIx items.size items.size hi=items.size))
   (h:Q (.ref s.heap.objs.size) { s with heap:=s.heap.push { cls:=.type "tuple",data:=.seq ((items.toList.drop (sIx items.size 0 lo)).take (sIx items.size items.size hi - sIx items.size 0 lo)).toArray } })
   (hsz:items.size≤sizeLine):wpAny (model prog w) A (getItem (.ref t) (.ref sl)) Q E s:=by
 have htake:sizeOk (.seq ((items.toList.drop (sIx items.size 0 lo)).take (sIx items.size items.size hi - sIx items.size 0 lo)).toArray):=by
   show ((items.toList.drop (sIx items.size 0 lo)).take (sIx items.size items.size hi - sIx items.size 0 lo)).toArray.size≤sizeLine
   rw [List.size_toArray,List.length_take,List.length_drop,Array.length_toList]
   omega
 have hj:sIx items.size items.size hi≤items.size:=sIx_le _ _ (Nat.le_refl _) hi
 obtain ⟨os,hos,hcs,hds⟩:=id hs
 have hTs:s.TypeIs (.ref sl) "slice":=⟨os,hos,hcs⟩
 unfold getItem
 try with_reducible refine wpAny_holding ?_
 first | refine wpAny_bind (wpAny_pure ?_) | skip
 refine wpAny_bind (wpAny_sequenceKey ht.typeIs (by decide) ?_)
 refine wpAny_bind (wpAny_callSpecial?_slot (name:=Str.ofString "__getitem__") ht.typeIs PyProof.Rows.slot_tuple_getitem
   (wpAny_call_entry PyProof.Rows.slot_tuple_getitem ht.typeIs entry_tuple_getitem ?_ (args_tuple_getitem _ _)))
 show wpAny _ _ (Builtin.Tuple.tupleItemsOf (.ref t) >>= _) _ _ s
 refine wpAny_bind (tupleItemsOf_ ht ?_)
 refine wpAny_bind (wpAny_typeOf hTs ?_)
 rw [if_pos (by decide)]
 refine wpAny_bind (sliceApplied_gen hs pl pu ?_)
 have hno:¬ ((((sIx items.size 0 lo:Nat):Int) == 0&&(1:Int) == 1&&(sIx items.size items.size hi - sIx items.size 0 lo) == items.size)=true):=by
   intro q
   rw [Bool.and_eq_true,Bool.and_eq_true] at q
   have q1:((sIx items.size 0 lo:Nat):Int)=0:=eq_of_beq q.1.1
   have q2:sIx items.size items.size hi - sIx items.size 0 lo=items.size:=eq_of_beq q.2
   exact hw ⟨by omega,by omega⟩
 show wpAny _ _ (if (((sIx items.size 0 lo:Nat):Int) == 0&&(1:Int) == 1&&(sIx items.size items.size hi - sIx items.size 0 lo) == items.size)=true then _ else _) _ _ s
 rw [if_neg hno,ZcI]
 first
   | exact wpAny_bind (m:=Builtin.Tuple.tupleExact _) (wpAny_newObj_type (wpAny_pure ⟨_,rfl,wpAny_pure h⟩) htake)
   | exact wpAny_bind (m:=Builtin.Tuple.tupleExact _) (wpAny_newObj_type (wpAny_bind (wpAny_pure (wpAny_pure ⟨_,rfl,wpAny_pure h⟩))) htake)
   | exact wpAny_bind (wpAny_bind (m:=Builtin.Tuple.tupleExact _) (wpAny_newObj_type (wpAny_pure (wpAny_pure ⟨_,rfl,wpAny_pure h⟩)) htake))
   | exact wpAny_bind (wpAny_bind (m:=Builtin.Tuple.tupleExact _) (wpAny_newObj_type (wpAny_pure ⟨_,rfl,wpAny_pure h⟩) htake))
end
end HT
namespace L2
open PySem PySem.Spec PyProof.Rows
abbrev TO:=St→Hp→(Option Int→Hp→Prop)→Prop
def PO (X:Cx)(e:Option Expr)(t:TO):Prop :=
 ∀ (pins:List (Addr×Obj)) (s:Shared) (σ:St) (H:Hp) (Q:Option Int→Hp→Prop),Inv X pins σ H s→t σ H Q →
   wpAny (model X.prog X.w) X.A (evalPart e X.env) (fun u s'=>∃ o H',Inv X pins σ H' s'∧IsPart u o∧Q o H') X.xe s
def Wt:TO:=fun _ H Q=>Q none H
def Zfj (t:TE):TO:=fun σ H Q=>t σ H fun x H1=>∃ i,x=.int i∧Q (some i) H1
section
variable {X:Cx}{e:Expr}{te:TE}{lo hi:Option Expr}{tl th:TO}{pos p2:Pos}
theorem Yk:PO X none Wt:=by
 intro pins s σ H Q I h
 rw [evalPart_none]
 exact wpAny_pure ⟨none,H,I,.none,h⟩
theorem Yl (h:PE X e te):PO X (some e) (Zfj te):=by
 intro pins s σ H Q I hw
 rw [evalPart_some]
 refine Zm (h pins s σ H _ I hw) fun u s1 ⟨x,H1,I1,r1,q1⟩=>?_
 obtain ⟨i,rfl,q⟩:=q1
 obtain ⟨t,rfl⟩:=r1
 exact ⟨some i,H1,I1,.int i t,q⟩
def SlR (X:Cx)(r:V→Option Int→Option Int→Hp→VK→Prop):Prop :=
 ∀ (pins:List (Addr×Obj)) (s:Shared) (σ:St) (H:Hp) (x:V) (v vl vu:Value) (lo hi:Option Int) (sl:Addr) (Q:VK),Inv X pins σ H s→RelV x v→s.heap.IsSliceOf sl vl vu .none→IsPart vl lo→IsPart vu hi→r x lo hi H Q →
   ∃ T id,typeLookup (.type T) "__getitem__"=pure (some (.builtin id))∧s.TypeIs v T∧wpAny (model X.prog X.w) X.A (getItem v (.ref sl)) (EP X pins σ Q) X.xe s
def tSl (r:V→Option Int→Option Int→Hp→VK→Prop)(te:TE)(tl th:TO):TE:=fun σ H Q=>te σ H fun x H1=>tl σ H1 fun l H2=>th σ H2 fun u H3=>r x l u H3 Q
theorem Yc {r:V→Option Int→Option Int→Hp→VK→Prop}(hr:SlR X r)(he:PE X e te)(hl:PO X lo tl)(hu:PO X hi th):PE X (.Subscript e (.Slice lo hi none p2) pos) (tSl r te tl th):=by
 intro pins s σ H Q I h
 refine Subscript_ (Zm (he pins s σ H _ I h) fun v s1 ⟨x,H1,I1,r1,q1⟩=>?_)
 refine wpAny_Slice (Zm (hl pins s1 σ H1 _ I1 q1) fun vl s2 ⟨l,H2,I2,pl,q2⟩=>Zm (hu pins s2 σ H2 _ I2 q2) fun vu s3 ⟨u,H3,I3,pu,q3⟩=>?_)
 rw [evalPart_none]
 refine wpAny_pure ?_
 have I4:Inv X pins σ H3 { s3 with heap:=s3.heap.push { cls:=.type "slice",data:=.fields #[vl,vu,.none] } }:=I3.kept (t':=s3.toks) fun b ob q=>Heap.get?_push_of_some _ q
 obtain ⟨T,id,hT,ht,hg⟩:=hr pins { s3 with heap:=s3.heap.push { cls:=.type "slice",data:=.fields #[vl,vu,.none] } } σ H3 x v vl vu l u s3.heap.objs.size Q I4 r1 (Heap.IsSliceOf.new ..) pl pu q3
 show wpAny (model X.prog X.w) X.A (subscriptTail e (.Slice lo hi none p2) v (.ref s3.heap.objs.size)) (EP X pins σ Q) X.xe { s3 with heap:=s3.heap.push { cls:=.type "slice",data:=.fields #[vl,vu,.none] } }
 exact tail_any (ops:=[.ref s3.heap.objs.size,v]) ht hT hg (by with_unfolding_all rfl)
def YS (xs:List V)(lo hi:Option Int):List V:=(xs.drop (HT.sIx xs.length 0 lo)).take (HT.sIx xs.length xs.length hi - HT.sIx xs.length 0 lo)
theorem Wz (xs:List V)(lo hi:Option Int):(YS xs lo hi).length≤xs.length:=by
 unfold YS
 rw [List.length_take,List.length_drop]
 omega
def rSlT (K:PySem.W.Frag):V→Option Int→Option Int→Hp→VK→Prop:=fun x lo hi H Q=>∃ a xs,x=.ref a∧SqT K H a xs ∧
 ¬ (HT.sIx xs.length 0 lo=0∧HT.sIx xs.length xs.length hi=xs.length)∧∀ p,H p=none→Q (.ref p) (upd H p (.tup (YS xs lo hi)))
theorem Zbg:SlR X (rSlT X.K):=by
 intro pins s σ H x v vl vu lo hi sl Q I rx hs pl pu h
 obtain ⟨a,xs,rfl,hx,hw,q⟩:=h
 cases rx
 obtain ⟨its,r,ht,hz⟩:=I.tuple hx
 have hlen:its.toArray.size=xs.length:=by rw [List.size_toArray];exact r.length.symm
 refine ⟨"tuple",_,PyProof.Rows.slot_tuple_getitem.lookup,ht.typeIs,?_⟩
 refine HT.getItem_tuple_cut ht hs pl pu (by rw [hlen];exact hw) ?_ (by rw [hlen];exact hz)
 rw [hlen]
 refine ⟨.ref s.heap.objs.size,_,I.laid (t':=s.toks) (o:=.tup (YS xs lo hi)) (fun b ob q=>Heap.get?_push_of_some _ q) (Nat.le_refl _) ?_,rfl,q _ (I.hok.fresh (Nat.le_refl _))⟩
 exact ⟨Nat.le_trans (Wz xs lo hi) hz,_,(r.drop (HT.sIx xs.length 0 lo)).take (HT.sIx xs.length xs.length hi - HT.sIx xs.length 0 lo),IsTup.new _ _⟩
def Zft (K:PySem.W.Frag):R2:=fun x y H Q=>∃ a b xs ys,x=.ref a∧y=.ref b∧SqT K H a xs∧SqT K H b ys∧xs≠[]∧xs.length+ys.length≤sizeLine ∧
 (ys=[]→Q (.ref a) H)∧(ys≠[]→∀ p,H p=none→Q (.ref p) (upd H p (.tup (xs++ys))))
theorem Vals.nil_iff {xs:List V}{us:List Value}(r:Vals xs us):us=[]↔xs=[]:=by
 cases r with
 | nil=>simp
 | cons _ _=>simp
theorem Zaj:Ye X (binaryOp .Add) (Zft X.K):=by
 intro pins s σ H x y v u Q I rx ry h
 obtain ⟨a,b,xs,ys,rfl,rfl,ha,hb,hx,hz,q1,q2⟩:=h
 cases rx
 cases ry
 obtain ⟨its,r1,p1,_⟩:=I.tuple ha
 obtain ⟨its2,r2,p2,_⟩:=I.tuple hb
 refine HT.cat_tup p1 p2 (fun z=>hx (r1.nil_iff.mp z)) (fun z=>⟨.ref a,H,I,rfl,q1 (r2.nil_iff.mp z)⟩) (fun z=>?_) (by rw [← r1.length,← r2.length];exact hz)
 refine ⟨.ref s.heap.objs.size,_,I.laid (t':=s.toks) (o:=.tup (xs++ys)) (fun b ob q=>Heap.get?_push_of_some _ q) (Nat.le_refl _) ?_,rfl,q2 (fun w=>z (r2.nil_iff.mpr w)) _ (I.hok.fresh (Nat.le_refl _))⟩
 exact ⟨by rw [List.length_append];exact hz,_,r1.append r2,IsTup.new _ _⟩
end
end L2
namespace L2
open PySem PySem.Spec PyProof.Rows
def Wx (n:Nat)(i:Int):Option Nat:=if 0≤i then (if i < n then some i.toNat else none) else if -(n:Int)≤i then some (i+n).toNat else none
def ZX {α:Type}(xs:List α)(i:Int):Option α:=(Wx xs.length i).bind fun j=>xs[j]?
theorem Zaf {n:Nat}{i:Int}{j:Nat}(h:Wx n i=some j):seqIndex? i n=some j∧j < n∧-(n:Int)≤i∧i < n:=by
 unfold Wx at h
 by_cases h0:0≤i
 · rw [if_pos h0] at h
   by_cases h1:i < n
   · rw [if_pos h1] at h
     have e:i.toNat=j:=Option.some.inj h
     exact ⟨by rw [seqIndex_of h0 h1,e],by omega,by omega,h1⟩
   · rw [if_neg h1] at h;cases h
 · rw [if_neg h0] at h
   by_cases h1:-(n:Int)≤i
   · rw [if_pos h1] at h
     have e:(i+n).toNat=j:=Option.some.inj h
     exact ⟨by rw [seqIndex_neg (by omega) h1,e],by omega,h1,by omega⟩
   · rw [if_neg h1] at h;cases h
theorem Uv {α:Type}{xs:List α}{i:Int}{v:α}(h:ZX xs i=some v):∃ j,seqIndex? i xs.length=some j∧xs[j]?=some v∧j < xs.length∧-(xs.length:Int)≤i∧i < xs.length:=by
 unfold ZX at h
 cases e:Wx xs.length i with
 | none=>rw [e] at h;cases h
 | some j =>
   rw [e] at h
   obtain ⟨h1,h2,h3,h4⟩:=Zaf e
   exact ⟨j,h1,h,h2,h3,h4⟩
theorem Zq {α:Type}{xs:List α}{j:Nat}{v:α}(h:xs[j]?=some v):ZX xs (j:Int)=some v:=by
 have hj:j < xs.length:=(List.getElem?_eq_some_iff.mp h).1
 have e:Wx xs.length (j:Int)=some j:=by
   unfold Wx
   rw [if_pos (by omega),if_pos (by omega)];simp
 unfold ZX;rw [e];exact h
def ZdH (b:Expr):Prop:=∀ o i,subscripted b false o i=operate [o,i] (getItem o i)
def IxR (X:Cx)(r:R2):Prop :=
 ∀ (value slice:Expr) (pins:List (Addr×Obj)) (s:Shared) (σ:St) (H:Hp) (x y:V) (v u:Value) (Q:VK),Inv X pins σ H s→RelV x v→RelV y u→r x y H Q →
   subscripted slice false v u=operate [v,u] (getItem v u)→wpAny (model X.prog X.w) X.A (subscriptTail value slice v u) (EP X pins σ Q) X.xe s
def MtR (X:Cx)(id:String)(r:V→List V→Hp→VK→Prop):Prop :=
 ∀ (pins:List (Addr×Obj)) (s:Shared) (σ:St) (H:Hp) (x:V) (xs:List V) (v:Value) (us:List Value) (Q:VK),Inv X pins σ H s→RelV x v→Vals xs us→r x xs H Q →
   wpAny (model X.prog X.w) X.A (call (.builtin id) (v::us)) (EP X pins σ Q) X.xe s
section
variable {X:Cx}{a b:Expr}{ta tb:TE}{pos:Pos}
theorem Zu {r:R2}(hr:IxR X r)(ha:PE X a ta)(hb:PE X b tb)(hs:ZdH b):PE X (.Subscript a b pos) (tOp r ta tb):=by
 intro pins s σ H Q I h
 exact Subscript_ (ZcG ha hb I h fun v u s2 x y H2 I2 rx ry q=>hr a b pins s2 σ H2 x y v u Q I2 rx ry q (hs _ _))
def rIxL (K:PySem.W.Frag):R2:=fun x y H Q=>∃ p xs i v,x=.ref p∧y=.int i∧SqL K H p xs∧ZX xs i=some v∧Q v H
def rIxT (K:PySem.W.Frag):R2:=fun x y H Q=>∃ p xs i v,x=.ref p∧y=.int i∧SqT K H p xs∧ZX xs i=some v∧Q v H
def rIxS:R2:=fun x y H Q=>∃ z i c,x=.str z∧y=.int i∧z.length≤sizeLine∧ZX z.cps.toList i=some c∧Q (.str ⟨#[c]⟩) H
theorem Zy:IxR X (rIxL X.K):=by
 intro value slice pins s σ H x y v u Q I rx ry h hs
 obtain ⟨p,xs,i,z,rfl,rfl,hq,he,q⟩:=h
 cases rx
 obtain ⟨t,rfl⟩:=ry
 obtain ⟨its,r,pl,hz⟩:=I.list hq
 obtain ⟨j,h1,h2,h3,h4,h5⟩:=Uv he
 obtain ⟨w,ew,rw'⟩:=r.get h2
 have hl:=r.length
 have hn:=XH
 have fin:EP X pins σ Q w s:=⟨z,H,I,rw',q⟩
 by_cases h0:0≤i
 · have hj:i.toNat=j:=by
     rw [seqIndex_of h0 h5] at h1
     exact Option.some.inj h1
   exact item_listR pl.isList h0 (by omega) (by rw [hj];simpa using ew) fin hs
 · have hj:(i+(its.toArray.size:Int)).toNat=j:=by
     rw [seqIndex_neg (by omega) h4] at h1
     rw [List.size_toArray,← hl]
     exact Option.some.inj h1
   exact subscriptTail_builtinR (x:=w) pl.isList.typeIs slot_list_getitem.lookup
     (wpAny_getItem_list_neg (Q:=fun r s'=>r=w∧EP X pins σ Q r s') pl.isList (by omega) (by rw [List.size_toArray]<;>omega) (by omega) (by rw [hj];simpa using ew) ⟨rfl,fin⟩) hs
theorem Yy:IxR X (rIxT X.K):=by
 intro value slice pins s σ H x y v u Q I rx ry h hs
 obtain ⟨p,xs,i,z,rfl,rfl,hq,he,q⟩:=h
 cases rx
 obtain ⟨t,rfl⟩:=ry
 obtain ⟨its,r,pl,hz⟩:=I.tuple hq
 obtain ⟨j,h1,h2,h3,h4,h5⟩:=Uv he
 obtain ⟨w,ew,rw'⟩:=r.get h2
 have hl:=r.length
 have hn:=XH
 have fin:EP X pins σ Q w s:=⟨z,H,I,rw',q⟩
 exact subscriptTail_builtinR (x:=w) pl.typeIs slot_tuple_getitem.lookup
   (getItem_tuple (j:=j) (Q:=fun r s'=>r=w∧EP X pins σ Q r s') pl (by omega) (by omega) (by rw [List.size_toArray,← hl];exact h1) (by simpa using ew) ⟨rfl,fin⟩) hs
theorem WR:IxR X rIxS:=by
 intro value slice pins s σ H x y v u Q I rx ry h hs
 obtain ⟨z,i,c,rfl,rfl,hz,he,q⟩:=h
 obtain ⟨t,rfl⟩:=rx
 obtain ⟨t',rfl⟩:=ry
 obtain ⟨j,h1,h2,h3,h4,h5⟩:=Uv he
 have hl:z.cps.toList.length=z.length:=by simp [Str.length]
 rw [hl] at h1 h4 h5
 have hn:=XH
 exact tail_any (typeIs_str s z t) slot_str_getitem.lookup (getItem_str (c:=c) (by
   have e1:decide (i < -(2 ^ 63:Int))=false:=decide_eq_false (by omega)
   have e2:decide (i ≥ 2 ^ 63)=false:=decide_eq_false (by omega)
   rw [e1,e2,Bool.or_false]) (by rw [h1];simpa using h2) ⟨.str ⟨#[c]⟩,H,I.tok _,⟨_,rfl⟩,q⟩) hs
theorem ZaM (its:List Value)(n j:Nat)(u:Value):Obj.mapSeq (·.setIfInBounds j u) { cls:=.type "list",data:=.seq its.toArray n }={ cls:=.type "list",data:=.seq (its.set j u).toArray n }:=by
 simp [Obj.mapSeq]
theorem Inv.lst {pins:List (Addr×Obj)}{σ:St}{H:Hp}{s:Shared}{p:Addr}{xs:List V}(I:Inv X pins σ H s)(h:H p=some (.lst xs)) :
   ∃ (its:List Value) (n:Nat),Vals xs its∧s.heap.get? p=some { cls:=.type "list",data:=.seq its.toArray n }∧xs.length≤sizeLine:=by
 obtain ⟨z,its,n,r,e⟩:=I.hok p _ h
 exact ⟨its,n,r,e,z⟩
theorem Inv.lstUpd {pins:List (Addr×Obj)}{σ:St}{H:Hp}{s:Shared}{p:Addr}{xs ys:List V}{its its':List Value}{n n':Nat}{f:Obj→Obj}(I:Inv X pins σ H s)(h:H p=some (.lst xs))
   (ho:s.heap.get? p=some { cls:=.type "list",data:=.seq its.toArray n }) (hf:f { cls:=.type "list",data:=.seq its.toArray n }={ cls:=.type "list",data:=.seq its'.toArray n' }) (r:Vals ys its') (hz:ys.length≤sizeLine) (t:Nat) :
   Inv X pins σ (upd H p (.lst ys)) { s with heap:=s.heap.update p f,toks:=t }:=by
 have e:(s.heap.update p f).get? p=some { cls:=.type "list",data:=.seq its'.toArray n' }:=by
   rw [Heap.get?_update_self f ho (by rw [hf]<;>rfl),hf]
 refine I.write (x:=p) (e:=p) (by rw [h];trivial) (.inl rfl) (fun b u hb q=>(Heap.get?_update_other _ _ (Ne.symm hb)).trans q) ⟨_,e⟩ ?_
 exact ⟨hz,its',n',r,e⟩
def Zfb:V→V→V→Hp→(Hp→Prop)→Prop:=fun o i v H Q=>∃ p xs k j,o=.ref p∧i=.int k∧H p=some (.lst xs)∧Wx xs.length k=some j∧Q (upd H p (.lst (xs.set j v)))
theorem VC:PSet X Zfb:=by
 intro pins s σ H o i v ov iv u Q I ro ri rv h
 obtain ⟨p,xs,k,j,rfl,rfl,hp,hj,q⟩:=h
 cases ro
 obtain ⟨t,rfl⟩:=ri
 obtain ⟨its,n,r,ho,hz⟩:=I.lst hp
 obtain ⟨h1,h2,h3,h4⟩:=Zaf hj
 have hl:=r.length
 have hn:=XH
 have I':Inv X pins σ (upd H p (.lst (xs.set j v))) { s with heap:=s.heap.update p (Obj.mapSeq (·.setIfInBounds j u)) } :=
   I.lstUpd hp ho (ZaM its n j u) (r.set rv j) (by rw [List.length_set];exact hz) s.toks
 by_cases h0:0≤k
 · have hk:k.toNat=j:=by
     rw [seqIndex_of h0 h4] at h1
     exact Option.some.inj h1
   exact PySem.W.ki_setAt ho h0 (by omega) (by rw [List.size_toArray,← hl];exact h4) (by rw [hk];exact ⟨_,I',q⟩)
 · have hk:(k+(its.toArray.size:Int)).toNat=j:=by
     rw [seqIndex_neg (by omega) h3] at h1
     rw [List.size_toArray,← hl]
     exact Option.some.inj h1
   exact PySem.W.ki_setBack ho (by omega) (by rw [List.size_toArray,← hl];exact h3) (by omega) (by rw [hk];exact ⟨_,I',q⟩)
theorem Vg (lo hi:Option Int)(n:Nat):(sliceBounds lo hi none n).1=((HT.sIx n 0 lo:Nat):Int)∧(sliceBounds lo hi none n).2.1=((HT.sIx n n hi:Nat):Int)∧(sliceBounds lo hi none n).2.2=1:=by
 refine ⟨?_,?_,rfl⟩
 · cases lo with
   | none=>simp [sliceBounds,HT.sIx]
   | some i =>
     simp only [sliceBounds,HT.sIx,Option.getD_none,show (1:Int) > 0 by decide,if_true]
     by_cases h:i < 0
     · simp only [h,if_true]<;>omega
     · simp only [h,if_false]<;>omega
 · cases hi with
   | none=>simp [sliceBounds,HT.sIx]
   | some i =>
     simp only [sliceBounds,HT.sIx,Option.getD_none,show (1:Int) > 0 by decide,if_true]
     by_cases h:i < 0
     · simp only [h,if_true]<;>omega
     · simp only [h,if_false]<;>omega
theorem UR (its:List Value)(lo hi:Option Int):slicePick its.toArray lo hi none=((its.drop (HT.sIx its.length 0 lo)).take (HT.sIx its.length its.length hi - HT.sIx its.length 0 lo)).toArray:=by
 obtain ⟨h1,h2,h3⟩:=Vg lo hi its.toArray.size
 unfold slicePick
 rw [h1,h2,h3]
 simp only [sliceRange_one,pick_run,List.size_toArray]<;>rfl
def rSlL (K:PySem.W.Frag):V→Option Int→Option Int→Hp→VK→Prop:=fun x lo hi H Q=>∃ a xs,x=.ref a∧SqL K H a xs∧∀ p,H p=none→Q (.ref p) (upd H p (.lst (YS xs lo hi)))
theorem XG:SlR X (rSlL X.K):=by
 intro pins s σ H x v vl vu lo hi sl Q I rx hs pl pu h
 obtain ⟨a,xs,rfl,hx,q⟩:=h
 cases rx
 obtain ⟨its,r,ht,hz⟩:=I.list hx
 have hlen:=r.length
 refine ⟨"list",_,slot_list_getitem.lookup,ht.isList.typeIs,?_⟩
 refine wpAny_getItem_list_slice ht.isList hs pl pu .none (by simp) ?_ (by rw [List.size_toArray]<;>omega)
 rw [UR,← hlen]
 refine ⟨.ref s.heap.objs.size,_,I.laid (t':=s.toks) (o:=.lst (YS xs lo hi)) (fun b ob q=>Heap.get?_push_of_some _ q) (Nat.le_refl _) ?_,rfl,q _ (I.hok.fresh (Nat.le_refl _))⟩
 exact ⟨Nat.le_trans (Wz xs lo hi) hz,_,0,(r.drop (HT.sIx xs.length 0 lo)).take (HT.sIx xs.length xs.length hi - HT.sIx xs.length 0 lo),Heap.get?_push_size _ rfl⟩
def YU:V→Bool
 | .non=>true
 | .bl _=>true
 | .int _=>true
 | .str _=>true
 | _=>false
def Ww:V→V→Bool
 | .non,.non=>true
 | .bl a,.bl b=>a == b
 | .bl a,.int b=>(if a then 1 else 0) == b
 | .int a,.bl b=>a == (if b then 1 else 0)
 | .int a,.int b=>a == b
 | .str a,.str b=>a == b
 | _,_=>false
theorem Zew {A:Around}{s:Shared}{y x:V}{u v:Value}(ry:RelV y u)(rx:RelV x v)(fy:YU y=true)(fx:YU x=true):SeqAt.EqAt A s u v (Ww y x):=by
 cases y with
 | non =>
   cases ry
   cases x with
   | non=>cases rx;exact SeqAt.EqAt.same _
   | bl b=>cases rx;exact SeqAt.EqAt.none_bool b
   | int b=>obtain ⟨t,rfl⟩:=rx;exact SeqAt.EqAt.none_int b t
   | str b=>obtain ⟨t,rfl⟩:=rx;exact SeqAt.EqAt.none_str b t
   | _=>exact absurd (show false=true from fx) Bool.false_ne_true
 | bl a =>
   cases ry
   cases x with
   | non=>cases rx;exact SeqAt.EqAt.bool_none a
   | bl b=>cases rx;exact SeqAt.EqAt.bool_bool a b
   | int b=>obtain ⟨t,rfl⟩:=rx;exact SeqAt.EqAt.bool_int a b t
   | str b=>obtain ⟨t,rfl⟩:=rx;exact SeqAt.EqAt.bool_str a b t
   | _=>exact absurd (show false=true from fx) Bool.false_ne_true
 | int a =>
   obtain ⟨t',rfl⟩:=ry
   cases x with
   | non=>cases rx;exact SeqAt.EqAt.int_none a t'
   | bl b=>cases rx;exact SeqAt.EqAt.int_bool a t' b
   | int b=>obtain ⟨t,rfl⟩:=rx;exact SeqAt.EqAt.int_int a t' b t
   | str b=>obtain ⟨t,rfl⟩:=rx;exact SeqAt.EqAt.int_str a t' b t
   | _=>exact absurd (show false=true from fx) Bool.false_ne_true
 | str a =>
   obtain ⟨t',rfl⟩:=ry
   cases x with
   | non=>cases rx;exact SeqAt.EqAt.str_none a t'
   | bl b=>cases rx;exact SeqAt.EqAt.str_bool a t' b
   | int b=>obtain ⟨t,rfl⟩:=rx;exact SeqAt.EqAt.str_int a t' b t
   | str b=>obtain ⟨t,rfl⟩:=rx;exact SeqAt.EqAt.str_str a t' b t
   | _=>exact absurd (show false=true from fx) Bool.false_ne_true
 | _=>exact absurd (show false=true from fy) Bool.false_ne_true
def Xn (x:V)(u:Value):Bool:=match u with
 | .none=>Ww .non x
 | .bool b=>Ww (.bl b) x
 | .int i _=>Ww (.int i) x
 | .str z _=>Ww (.str z) x
 | _=>false
theorem ZbQ {x y:V}{u:Value}(r:RelV y u)(f:YU y=true):Xn x u=Ww y x:=by
 cases y with
 | non=>cases r;rfl
 | bl b=>cases r;rfl
 | int i=>obtain ⟨t,rfl⟩:=r;rfl
 | str z=>obtain ⟨t,rfl⟩:=r;rfl
 | _=>exact absurd (show false=true from f) Bool.false_ne_true
theorem XI {x:V}:∀{xs:List V}{us:List Value},Vals xs us→xs.all YU=true→us.any (Xn x)=xs.any fun y=>Ww y x
 | _,_,.nil,_=>rfl
 | y::xs,u::us,.cons r t,f=>by
   rw [List.all_cons,Bool.and_eq_true] at f
   rw [List.any_cons,List.any_cons,ZbQ r f.1,XI t f.2]
theorem Xo {A:Around}{s:Shared}{x:V}{v:Value}(rx:RelV x v)(fx:YU x=true):∀{xs:List V}{us:List Value},Vals xs us→xs.all YU=true→∀ u∈us,SeqAt.EqAt A s u v (Xn x u)
 | _,_,.nil,_=>fun u hu=>by cases hu
 | y::xs,u::us,.cons r t,f=>fun u' hu=>by
   rw [List.all_cons,Bool.and_eq_true] at f
   rcases List.mem_cons.mp hu with rfl | hu
   · rw [ZbQ r f.1];exact Zew r rx f.1 fx
   · exact Xo rx fx t f.2 u' hu
def Wm (x:V)(xs:List V):Bool:=xs.any fun y=>Ww y x
def rIn (K:PySem.W.Frag)(neg:Bool):R2:=fun x y H Q=>∃ p xs,y=.ref p∧(SqL K H p xs∨SqT K H p xs)∧YU x=true∧xs.all YU=true∧Q (.bl (if neg then !Wm x xs else Wm x xs)) H
theorem UQ:Ye X (compareOp .In) (rIn X.K false):=by
 intro pins s σ H x y v u Q I rx ry h
 obtain ⟨p,xs,rfl,hq,fx,fs,q⟩:=h
 cases ry
 rcases hq with hq | hq
 · obtain ⟨its,r,pl,hz⟩:=I.list hq
   refine SeqAt.in_listAt (Xn x) pl.isList (fun w hw=>Xo rx fx r fs w (by simpa using hw)) ⟨.bl _,H,I,rfl,?_⟩
   rw [show its.toArray.any (Xn x)=its.any (Xn x) by simp,XI r fs]
   exact q
 · obtain ⟨its,r,pl,hz⟩:=I.tuple hq
   refine SeqAt.in_tupleAt (Xn x) pl (fun w hw=>Xo rx fx r fs w (by simpa using hw)) ⟨.bl _,H,I,rfl,?_⟩
   rw [show its.toArray.any (Xn x)=its.any (Xn x) by simp,XI r fs]
   exact q
theorem Vl:Ye X (compareOp .NotIn) (rIn X.K true):=by
 intro pins s σ H x y v u Q I rx ry h
 obtain ⟨p,xs,rfl,hq,fx,fs,q⟩:=h
 cases ry
 rcases hq with hq | hq
 · obtain ⟨its,r,pl,hz⟩:=I.list hq
   refine SeqAt.notIn_listAt (Xn x) pl.isList (fun w hw=>Xo rx fx r fs w (by simpa using hw)) ⟨.bl _,H,I,rfl,?_⟩
   rw [show its.toArray.any (Xn x)=its.any (Xn x) by simp,XI r fs]
   exact q
 · obtain ⟨its,r,pl,hz⟩:=I.tuple hq
   refine SeqAt.notIn_tupleAt (Xn x) pl (fun w hw=>Xo rx fx r fs w (by simpa using hw)) ⟨.bl _,H,I,rfl,?_⟩
   rw [show its.toArray.any (Xn x)=its.any (Xn x) by simp,XI r fs]
   exact q
theorem Yf:Yj X (.builtin "len") (fun xs H Q=>∃ p ys,xs=[.ref p]∧(SqL X.K H p ys∨SqT X.K H p ys)∧Q (.int ys.length) H):=by
 intro pins s σ H xs us Q I r h
 obtain ⟨p,ys,rfl,hq,q⟩:=h
 obtain ⟨u,rfl,rx⟩:=YT r
 cases rx
 have hn:=XH
 rcases hq with hq | hq
 · obtain ⟨its,r',pl,hz⟩:=I.list hq
   have hlen:=r'.length
   exact Calls.call_len_list pl.isList (by simp only [List.size_toArray]<;>omega) ⟨.int ys.length,H,I.tok _,⟨s.toks+1,by rw [List.size_toArray,hlen]⟩,q⟩
 · obtain ⟨its,r',pl,hz⟩:=I.tuple hq
   have hlen:=r'.length
   exact len_tuple pl (by simp only [List.size_toArray]<;>omega) ⟨.int ys.length,H,I.tok _,⟨s.toks+1,by rw [List.size_toArray,hlen]⟩,q⟩
theorem UT:Yj X (.type "tuple") (fun xs H Q=>∃ p ys,xs=[.ref p]∧((SqL X.K H p ys∧∀ l,H l=none→Q (.ref l) (upd H l (.tup ys)))∨(SqT X.K H p ys∧Q (.ref p) H))):=by
 intro pins s σ H xs us Q I r h
 obtain ⟨p,ys,rfl,h⟩:=h
 obtain ⟨u,rfl,rx⟩:=YT r
 cases rx
 rcases h with ⟨hq,q⟩ | ⟨hq,q⟩
 · obtain ⟨its,r',pl,hz⟩:=I.list hq
   have hlen:=r'.length
   refine call_tuple_list pl.isList (fun h' kp=>?_) (by simp only [List.size_toArray]<;>omega)
   have I1:Inv X pins σ H { s with heap:=h' }:=I.kept (t':=s.toks) kp
   have I2:Inv X pins σ (upd H h'.objs.size (.tup ys)) { s with heap:=h'.push { cls:=.type "tuple",data:=.seq its.toArray } } :=
     I1.laid (t':=s.toks) (fun b o e=>Heap.get?_push_of_some _ e) (Nat.le_refl _) (show ObjOk X.prog X.w _ _ _ (.tup ys) from ⟨hz,its,r',IsTup.new _ _⟩)
   exact ⟨.ref h'.objs.size,_,I2,rfl,q _ (I1.hok.fresh (Nat.le_refl _))⟩
 · obtain ⟨its,r',pl,hz⟩:=I.tuple hq
   exact call_tuple_same pl ⟨.ref p,H,I,rfl,q⟩
def tyV (K:PySem.W.Frag)(T:String)(x:V)(H:Hp):Prop:=match x with
 | .str _=>T="str"
 | .int _=>T="int"
 | .ref p=>(T="list"∧∃ xs,SqL K H p xs)∨(T="tuple"∧∃ o,K.lookup p=some o∧o.cls=.type "tuple"∧o.dict=none) ∨
     (T="dict"∧((∃ kvs,H p=some (.dK kvs))∨∃ kvs,H p=some (.dT kvs)))∨(T="set"∧∃ S n,H p=some (.set S n))
 | _=>False
theorem ZbS {pins:List (Addr×Obj)}{σ:St}{H:Hp}{s:Shared}{T:String}{x:V}{v:Value}(I:Inv X pins σ H s)(r:RelV x v)(ty:tyV X.K T x H) :
   s.TypeIs v T∧∀ a,v=.ref a→∃ ob,s.heap.get? a=some ob∧ob.dict=none:=by
 cases x with
 | str z =>
   obtain ⟨t,rfl⟩:=r
   cases (show T="str" from ty)
   exact ⟨typeIs_str s z t,fun _ e=>nomatch e⟩
 | int i =>
   obtain ⟨t,rfl⟩:=r
   cases (show T="int" from ty)
   exact ⟨typeIs_int s i t,fun _ e=>nomatch e⟩
 | ref p =>
   cases r
   rcases ty with ⟨rfl,xs,hq⟩ | ⟨rfl,o,hk,hc,hd⟩ | ⟨rfl,hk⟩ | ⟨rfl,S,n,hk⟩
   · obtain ⟨its,_,pl,_⟩:=I.list hq
     refine ⟨pl.isList.typeIs,fun a e=>?_⟩
     cases e
     obtain ⟨o,n,e,c,hd,_⟩:=pl
     exact ⟨o,e,hd⟩
   · refine ⟨⟨o,I.kIn p o hk,hc⟩,fun a e=>?_⟩
     cases e
     exact ⟨o,I.kIn _ o hk,hd⟩
   · have z:∃ o,s.heap.get? p=some o∧o.ExactDict:=by
       rcases hk with ⟨kvs,hk⟩ | ⟨kvs,hk⟩
       · obtain ⟨_,_,_,_,o,_,_,e,ex,_⟩:=I.hok p _ hk
         exact ⟨o,e,ex⟩
       · obtain ⟨_,_,_,_,o,_,_,e,ex,_⟩:=I.hok p _ hk
         exact ⟨o,e,ex⟩
     obtain ⟨o,e,ex⟩:=z
     refine ⟨⟨o,e,ex.1⟩,fun a e2=>?_⟩
     cases e2
     exact ⟨o,e,ex.2.1⟩
   · obtain ⟨o,_,_,_,e,ex,_⟩:=I.hok p _ hk
     refine ⟨⟨o,e,ex.1⟩,fun a e2=>?_⟩
     cases e2
     exact ⟨o,e,ex.2.1⟩
 | _=>exact False.elim ty
def tBM (K:PySem.W.Frag)(T:String)(r:V→List V→Hp→VK→Prop)(to:TE)(t:TA):TE:=fun σ H Q=>to σ H fun x H1=>tyV K T x H1∧t σ H1 fun xs H2=>r x xs H2 Q
variable {o e:Expr}{es:List Expr}{to:TE}{t:TA}{name:Str}{apos cpos:Pos}{T id:String}{r:V→List V→Hp→VK→Prop}
theorem Yd (pa:PlainAttrs T)(slot:Slot T name id)(hty:typeOf (.builtin id)=pure (.type "method_descriptor"))(hm:MtR X id r)(ho:PE X o to)(ha:PA X (e::es) t)
   (hbase:attributeBase o name X.env (eval o X.env)=eval o X.env:=by rfl)
   (hfew:((backTo cpos (starEach (e::es) X.env)).all (fun x=>!x.1)&&(backToKw cpos (keywordEach [] X.env)).all (fun x=>x.1.isSome)
     && decide ((e::es).length+([]:List Keyword).length+(if ([]:List Keyword).isEmpty then 0 else 1) < 30))=true:=by rfl)
   (hline:(apos.endLine == cpos.line)=true:=by rfl) (hs:starEach (e::es) X.env=(false,eval e X.env)::starEach es X.env:=by rfl) (hplain:(backTo cpos (starEach es X.env)).any (·.1)=false:=by rfl) :
   PE X (.Call (.Attribute o name apos) (e::es) [] cpos) (tBM X.K T r to t):=by
 intro pins s σ H Q I h
 refine wpAny_Call_method_late hbase hfew hline rfl (Zm (ho pins s σ H _ I h) fun v s1 ⟨x,H1,I1,r1,ty,q1⟩=>?_)
 obtain ⟨h1,h2⟩:=ZbS I1 r1 ty
 refine ⟨T,id,pa,slot,hty,h1,h2,?_⟩
 have hA:=ha cpos pins s1 σ H1 _ I1 q1
 rw [hs] at hA ⊢
 refine Calls.callWith_builtin (by show (false || (backTo cpos (starEach es X.env)).any (·.1))=false;rw [hplain]<;>rfl) (Calls.evalArgs_plain ?_)
 exact Zm hA fun us s2 ⟨vs,H2,I2,r2,q2⟩=>hm pins s2 σ H2 x vs v us Q I2 r1 r2 q2
end
end L2
namespace L2
open PySem PySem.Spec PyProof.Rows
def MtM (X:Cx)(id:String)(r:V→List V→Hp→VK→Prop):Prop :=
 ∀ (pins:List (Addr×Obj)) (s:Shared) (σ:St) (H:Hp) (x:V) (xs:List V) (v:Value) (us:List Value) (Q:VK),Inv X pins σ H s→RelV x v→Vals xs us→r x xs H Q →
   wpAny (model X.prog X.w) X.A (call (.builtin id) (v::us)) (EP X pins σ Q) X.xe s
theorem Vals.one:∀{x:V}{us:List Value},Vals [x] us→∃ u,us=[u]∧RelV x u
 | _,_,.cons r .nil=>⟨_,rfl,r⟩
section
variable {X:Cx}{pins:List (Addr×Obj)}{σ:St}{H:Hp}{s:Shared}{l b:Addr}{xs ys zs:List V}
theorem Inv.lset {its its':List Value}{n:Nat}{f:Array Value→Array Value}{t':Nat}(I:Inv X pins σ H s)(hH:H l=some (.lst xs))
   (e:s.heap.get? l=some { cls:=.type "list",data:=.seq its.toArray n }) (hf:f its.toArray=its'.toArray) (hv:Vals ys its') (hz:ys.length≤sizeLine) :
   Inv X pins σ (upd H l (.lst ys)) { s with heap:=s.heap.update l (Obj.mapSeq f),toks:=t' }:=by
 have q:=PySem.IsL.update e f
 rw [hf] at q
 refine I.write (x:=l) (e:=l) (by rw [hH];exact trivial) (.inl rfl) (fun b' u hb hu=>(Heap.get?_update_other s.heap (Obj.mapSeq f) (Ne.symm hb)).trans hu) ⟨_,q⟩ ?_
 exact ⟨hz,its',_,hv,q⟩
theorem Inv.lnew {its:List Value}{t':Nat}(I:Inv X pins σ H s)(hv:Vals ys its)(hz:ys.length≤sizeLine) :
   Inv X pins σ (upd H s.heap.objs.size (.lst ys)) { s with heap:=s.heap.push { cls:=.type "list",data:=.seq its.toArray },toks:=t' } :=
 I.laid (fun _ _ q=>Heap.get?_push_of_some _ q) (Nat.le_refl _) ⟨hz,its,0,hv,Heap.get?_push_size _ rfl⟩
theorem Inv.fresh (I:Inv X pins σ H s):H s.heap.objs.size=none:=I.hok.fresh (Nat.le_refl _)
theorem Inv.lstM (I:Inv X pins σ H s)(hH:H l=some (.lst xs)):xs.length≤sizeLine∧∃ (its:List Value) (n:Nat),Vals xs its∧xs.length=its.length∧s.heap.get? l=some { cls:=.type "list",data:=.seq its.toArray n }:=by
 obtain ⟨z,its,n,r,e⟩:=I.hok l _ hH
 exact ⟨z,its,n,r,r.length,e⟩
theorem ZcC {n:Nat}(h:n≤sizeLine):Builtin.List.listTooLong n=false:=by
 unfold Builtin.List.listTooLong
 exact decide_eq_false (by omega)
end
section
variable {X:Cx}
def ZdJ:V→List V→Hp→VK→Prop:=fun x vs H Q=>∃ l xs y,x=.ref l∧vs=[y]∧H l=some (.lst xs)∧xs.length < sizeLine∧Q .non (upd H l (.lst (xs++[y])))
theorem Ya:MtM X "list.append" ZdJ:=by
 intro pins s σ H x vs v us Q I rx rv h
 obtain ⟨l,xs,y,rfl,rfl,hH,hz,q⟩:=h
 cases rx
 obtain ⟨u,rfl,ru⟩:=rv.one
 obtain ⟨z,its,n,r,hl,e⟩:=I.lstM hH
 refine call_meets F.slot_list_append ⟨_,e,rfl⟩ F.entry_list_append (F.args_list_append_2 _ _) (PySem.list_append l its.toArray n u (by rw [List.size_toArray];omega)) ⟨e,?_⟩
 refine ⟨.non,_,I.lset (its':=its++[u]) hH e (by simp) (r.append (.cons ru .nil)) ?_,rfl,q⟩
 rw [List.length_append,List.length_singleton]
 omega
def Zds:V→List V→Hp→VK→Prop:=fun x vs H Q=>∃ l b xs zs,x=.ref l∧vs=[.ref b]∧H l=some (.lst xs)∧H b=some (.lst zs)∧xs.length+zs.length≤sizeLine∧Q .non (upd H l (.lst (xs++zs)))
theorem Uz:MtM X "list.extend" Zds:=by
 intro pins s σ H x vs v us Q I rx rv h
 obtain ⟨l,b,xs,zs,rfl,rfl,hH,hB,hz,q⟩:=h
 cases rx
 obtain ⟨u,rfl,ru⟩:=rv.one
 cases ru
 obtain ⟨z,its,n,r,hl,e⟩:=I.lstM hH
 obtain ⟨z2,its2,n2,r2,hl2,e2⟩:=I.lstM hB
 have hsz:its.toArray.size+its2.toArray.size≤sizeLine:=by rw [List.size_toArray,List.size_toArray];omega
 have hlong:¬ (!its.toArray.isEmpty&&Builtin.List.listTooLong (its.toArray.size+its2.toArray.size))=true:=by
   rw [ZcC hsz,Bool.and_false]
   exact Bool.false_ne_true
 refine call_meets F.slot_list_extend ⟨_,e,rfl⟩ F.entry_list_extend (F.args_list_extend_2 _ _)
   (AutoSeq1.list_extend_list_list_0 l its.toArray n b its2.toArray n2 hlong (by rw [List.size_toArray];omega) (by omega)) ⟨e,e2,?_⟩
 refine ⟨.non,_,I.lset (its':=its++its2) hH e (by simp) (r.append r2) ?_,rfl,q⟩
 rw [List.length_append]
 omega
def rCat:R2:=fun x y H Q=>∃ l b xs zs,x=.ref l∧y=.ref b∧H l=some (.lst xs)∧H b=some (.lst zs)∧xs.length+zs.length≤sizeLine∧∀ p,H p=none→Q (.ref p) (upd H p (.lst (xs++zs)))
theorem VE:Ye X (binaryOp .Add) rCat:=by
 intro pins s σ H x y v u Q I rx ry h
 obtain ⟨l,b,xs,zs,rfl,rfl,hH,hB,hz,q⟩:=h
 cases rx
 cases ry
 obtain ⟨z,its,n,r,hl,e⟩:=I.lstM hH
 obtain ⟨z2,its2,n2,r2,hl2,e2⟩:=I.lstM hB
 refine PySem.P.add_list e e2 ?_ (by rw [List.size_toArray,List.size_toArray];omega)
 have ea:its.toArray++its2.toArray=(its++its2).toArray:=by simp
 rw [ea]
 exact ⟨.ref _,_,I.lnew (t':=s.toks) (r.append r2) (by rw [List.length_append];omega),rfl,q _ I.fresh⟩
end
section
variable {prog:Program}{w:World}{A:Around}{E:Value→Shared→Prop}{s:Shared}
end
section
variable {X:Cx}
end
end L2
namespace Att
open PySem PySem.W PySem.Calls PyProof.Rows
theorem WN {P:Params}{h:Heap}:∀(ns:List Int)(vs:List Value),WellAll P h vs (ns.map WData.int)→IntsAre vs ns:=by
 intro ns
 induction ns with
 | nil =>
   intro vs w
   rw [List.map_nil] at w
   cases w
   exact .nil
 | cons n ns ih =>
   intro vs w
   rw [List.map_cons] at w
   cases w with
   | cons a b =>
     cases a
     exact .cons _ _ (ih _ b)
theorem Zbu {l:OpenLaw}{n:Nat}(hn:l.most=some n){P:Params}{h:Heap}{args:List WData}{vals:List Value}
   (hpre:l.row.toRowW.claim.pre args=true) (hwl:WellAll P h vals args) :
   ∃ a vs ns,vals=[Value.ref a]∧args=[WData.list (ns.map WData.int)]∧h.get? a=some { cls:=.type "list",data:=.seq vs.toArray }∧IntsAre vs ns∧ns.length≤n:=by
 have hsh:WShape.hasAll [] args [.list .int]=true:=(pre_splitW hpre).1
 have hc:l.pre.holds [] { args:=args }=true:=(pre_splitW hpre).2
 obtain ⟨d,r,rfl,h1,h2⟩:=hasAllW_cons hsh
 obtain rfl:=hasAllW_nil h2
 obtain ⟨xs,rfl,h3⟩:=hasW_list h1
 obtain ⟨ns,rfl⟩:=items_int h3
 have hlen:ns.length≤n:=by
   unfold OpenLaw.pre at hc
   have h4:(WTm.not (.lt (.lit (.int (n:Int))) (.len (.arg 0)))).holds [] { args:=[.list (ns.map .int)] }=true:=by
     have h4:=(holds_andW hc).1
     rw [hn] at h4
     exact h4
   have h5:=condW_of h4 (w_not (w_lt w_lit (w_len_list (w_arg rfl))))
   rw [List.length_map] at h5
   refine Nat.le_of_not_lt fun q=>?_
   have q':(n:Int) < ((ns.length:Nat):Int):=by omega
   first
     | (rw [decide_eq_true q'] at h5;exact absurd h5 (by decide))
     | (simp at h5;omega)
 cases hwl with
 | cons w1 w2 =>
   cases w2
   cases w1 with
   | list ho hall=>exact ⟨_,_,ns,rfl,rfl,ho,WN ns _ hall,hlen⟩
theorem ZbN (l:OpenLaw)(args:List WData):l.row.toRowW.claim.post args (.bool true) args=true :=
 postW_of (r:=l.row.toRowW) (X:=(true == true))
   (show WShape.has [] (.bool true) .bool=true by first | rfl | decide | simp [WShape.has,WShape.arms,WShape.armsAll])
   (show (WTm.eq .res (.lit (.bool true))).value [] { args:=args,res:=some (.bool true),after:=args }=some (.bool (true == true)) from w_eq_bool (w_res rfl) w_lit) rfl
theorem attach_call {l:OpenLaw}{n:Nat}{q:Program}{loose:List Str}{XP:(Str→Option Value)→Heap→Prop}{YP:World→Heap→Prop}{d:DefRec}
   (hn:l.most=some n) (hdf:d.params.defaults=[])
   (call:∀ (w:World) (s₀ s₁:Shared) (mg mb:Str→Option Value) (fa:Addr) (o:Obj) (pm cd doc:Value) (a:Addr) (vs:List Value) (ns:List Int),
     Ground q loose [] XP w s₀ mg mb s₁.heap→YP w s₁.heap →
     s₁.heap.get? fa=some o→o.data=.func (docDef d.name d.params d.body d.scope pm cd doc)→s₁.heap.CodeRec cd d.name→mg d.name=some (.ref fa) →
     s₁.heap.get? a=some { cls:=.type "list",data:=.seq vs.toArray }→IntsAre vs ns→ns.length≤n→s₁.gens=#[] →
     codeAny (model l.prog w) callerA (.call (.ref fa) ⟨[.ref a],[]⟩) (fun r s'=>r=.ok (.ret (.bool true))∧OldK s₁.heap s'.heap∧s'.os=s₁.os∧AllBare s'.gens) s₁) :
   WalkO q loose XP YP l.row.toRowW d [] (fun f vs=>PySem.call f vs):=by
 intro w s₀ s₁ mg mb G Y fa o pm cd doc dV kV ho hd hcd hD hmg hg args vals as hpre hlay hrd hwl hlo
 obtain rfl:dV=.none:=Dflts.none hD hdf
 obtain rfl:kV=.none:=Dflts.noKw hD
 obtain ⟨a,vs,ns,rfl,rfl,hobj,hints,hlen⟩:=Zbu hn hpre hwl
 refine enter_call (codeAny_mono (call w s₀ s₁ mg mb fa o pm cd doc a vs ns G Y ho (fd_plain hd) hcd hmg hobj hints hlen hg) fun r s' hq=>?_)
 obtain ⟨rfl,h2,h3,h4⟩:=hq
 exact ⟨.inl ⟨.bool true,.bool true,[],rfl,fun _=>rfl,.bool true,ZbN l _,fun _=>⟨List.Pairwise.nil,fun _ hm=>(nomatch hm)⟩⟩,h2,h3,h4⟩
section
variable {prog:Program}{w:World}{A:Around}{E:Value→Shared→Prop}{s:Shared}{K:Frag}
end
end Att
namespace L2
open PySem PySem.Spec PyProof.Rows
theorem UI:∀{vs:List Value}{ns:List Int},IntsAre vs ns→Vals (ns.map V.int) vs
 | _,_,.nil=>.nil
 | _,_,.cons n t h=>.cons ⟨t,rfl⟩ (UI h)
end L2
namespace L2
open PySem PySem.Spec PyProof.Rows
end L2
namespace L2
open PySem PySem.Spec PyProof.Rows
def Uk (s:Stmt):Arguments:=match s with
 | .FunctionDef _ a _ _ _ _ _ _ _ _=>a
 | _=>{ posonlyargs:=[],args:=[],vararg:=none,kwonlyargs:=[],kw_defaults:=[],kwarg:=none,defaults:=[] }
def Xj (s:Stmt):List Stmt:=match s with
 | .FunctionDef _ _ b _ _ _ _ _ _ _=>b
 | _=>[]
def Zg (s:Stmt):Scope:=match s with
 | .FunctionDef _ _ _ _ _ _ sc _ _ _=>sc
 | _=>{ kind:=.function,names:=[],isGenerator:=false,isCoroutine:=false }
abbrev ZI:Xy:=fun _ _ _ _ _ _=>False
abbrev E0:XK:=fun _ _ _=>False
theorem Zfd {X:Cx}:VG ZI X E0:=fun _ _ _ _ _ _ _ h=>h.elim
structure Fun (K:PySem.W.Frag)(x qual:Str)(st:Stmt)(f:Addr)(fd:FuncData):Prop where
 ex:∃ (oc:Value) (od:Option Addr) (kV doc pm:Value) (an:Option Addr) (cdv ct:Value) (osl:Array (Option Value)),
   fd=PySem.W.fnOf x qual (Uk st) (Xj st) (Zg st) .none kV doc pm an cdv ct∧K.lookup f=some ⟨oc,od,.func fd,osl⟩∧PySem.W.codeIn K cdv qual=true
 kp:PySem.W.keepIn K (.ref f)=true
section
variable {P:Program}{w:World}{K:PySem.W.Frag}{mg:Str→Option Value}{base:Heap}
theorem Fun.ok {x qual:Str}{st:Stmt}{f:Addr}{fd:FuncData}{N ps:List Str}{k:Nat}{sp:Sp}(F:Fun K x qual st f fd)(S:Zt N ps (Zg st))(len:∀ vs H Q E,sp vs H Q E→vs.length=ps.length)
   (hbody:∀ (cdv:Value) (A:Around) (outer:List Env) (s:Shared) (H:Hp) (vs:List V) (Q:VK) (E:XK),Room k (A.deeper (envOfC qual (Zg st) s.heap.objs.size f cdv))→sp vs H Q E →
     ∃ t,PSs (XE ZI P w K mg base N qual (Zg st) f cdv A outer s H E).nox (Xj st) t∧t { nx:=fun _ H'=>Q .non H',rt:=Q } (YJ N vs) H):FnOk P w K mg base ZI (k+1) f fd ps sp:=by
 obtain ⟨oc,od,kV,doc,pm,an,cdv,ct,osl,rfl,lk,hcd⟩:=F.ex
 refine Zfp lk hcd S len fun A outer s H vs Q E hr hsp=>?_
 obtain ⟨t,h,q⟩:=hbody cdv A outer s H vs Q E hr hsp
 exact ⟨t,h.nox,q⟩
theorem Fun.binds {x qual:Str}{st:Stmt}{f:Addr}{fd:FuncData}{ps:List Str}(F:Fun K x qual st f fd)
   (h:∀ (kV doc pm:Value) (an:Option Addr) (cdv ct:Value) (us:List Value),us.length=ps.length→bindArgs (PySem.W.fnOf x qual (Uk st) (Xj st) (Zg st) .none kV doc pm an cdv ct) ⟨us,[]⟩=pure (ps.zip us)):Binds K fd ps []:=by
 obtain ⟨oc,od,kV,doc,pm,an,cdv,ct,osl,rfl,lk,hcd⟩:=F.ex
 exact .all (h kV doc pm an cdv ct)
end
theorem ZbU {n:Nat}(h:n≤1000):n < sizeLine:=Nat.lt_of_le_of_lt h (by decide)
section
variable {X:Cx}
theorem pv (i:Nat){x:Str}{pos:Pos}(hN:X.N[i]?=some x:=by rfl)(hv:Vis X.env.scope x:=by first | exact Or.inl rfl | exact Or.inr (Or.inl rfl) | exact Or.inr (Or.inr rfl))(hd:(x == ("__debug__":Str))=false:=by decide)
 (hcd:(x == ("__classdict__":Str))=false:=by decide):PE X (.Name x pos) (Vu i):=ZeW hN hv hd hcd
end
theorem Xb {A B:Prop}(h:B):if false=true then A else B:=by
 rw [if_neg Bool.false_ne_true]
 exact h
theorem XA {A B:Prop}(h:A):if true=true then A else B:=by
 rw [if_pos rfl]
 exact h
theorem Xc {c A B:Prop}[Decidable c](h1:c→A)(h2:¬ c→B):if c then A else B:=by
 by_cases h:c
 · rw [if_pos h]
   exact h1 h
 · rw [if_neg h]
   exact h2 h
def Same (H H':Hp):Prop:=∀ b o,H b=some o→H' b=some o
theorem Same.refl (H:Hp):Same H H:=fun _ _ h=>h
theorem Same.trans {H H1 H2:Hp}(a:Same H H1)(b:Same H1 H2):Same H H2:=fun c o h=>b c o (a c o h)
end L2
namespace L2
open PySem PySem.Spec PyProof.Rows
section
variable {κ:Type}[DecidableEq κ]
end
section
variable {P:Program}{w:World}{H:Hp}{h:Heap}{a:Addr}
end
section
variable {X:Cx}{pins:List (Addr×Obj)}{σ:St}{H:Hp}{s:Shared}{a:Addr}{y v:V}{u r:Value}{o:Option V}{A:Around}{E:Value→Shared→Prop}
end
section
variable {X:Cx}{pins:List (Addr×Obj)}{σ:St}{H:Hp}{s:Shared}{a:Addr}{kvs:List (Yw×V)}{k:Yw}{u:Value}{A:Around}{E:Value→Shared→Prop}
end
section
variable {X:Cx}{o i e value:Expr}{pos pos' tpos:Pos}{td ty tv:TE}
end
section
variable {X:Cx}{pos:Pos}
end
structure M1 (X:Cx)(o:Expr)(m:Str)(apos:Pos)(e:Expr)(cpos:Pos):Prop where
 base:attributeBase o m X.env (eval o X.env)=eval o X.env
 few:((backTo cpos (starEach [e] X.env)).all (fun x=>!x.1)&&(backToKw cpos (keywordEach [] X.env)).all (fun x=>x.1.isSome)
   && decide (([e]:List Expr).length+([]:List Keyword).length+(if ([]:List Keyword).isEmpty then 0 else 1) < 30))=true
 line:(apos.endLine == cpos.line)=true
 trees:backTo cpos (starEach [e] X.env)=[(false,eval e X.env)]
section
variable {X:Cx}{pins:List (Addr×Obj)}{σ:St}{H:Hp}{s:Shared}{a:Addr}{y d:V}{u r:Value}{o:Option V}{A:Around}{E:Value→Shared→Prop}
end
section
variable {X:Cx}{o e f:Expr}{apos cpos:Pos}{td ty tx:TE}
end
section
variable {X:Cx}{pins:List (Addr×Obj)}{σ:St}{H:Hp}{s:Shared}{a:Addr}{kvs:List (Yw×V)}{A:Around}{E:Value→Shared→Prop}
end
section
variable {X:Cx}{pins:List (Addr×Obj)}{σ:St}{H:Hp}{s:Shared}{a:Addr}{y:V}{u:Value}{A:Around}{E:Value→Shared→Prop}
end
end L2
namespace L2
open PySem PySem.Spec PyProof.Rows
section
variable {κ:Type}[DecidableEq κ]
end
end L2
namespace L2
open PySem PySem.Spec PyProof.Rows
theorem Wg {env:Env}(y:Str):∀ names:List (Str×NameKind),
   (names.map fun (n,k)=>if (k == NameKind.free&&env.scope.kind == .function&&env.kindOf n == some .cell) then (n,NameKind.cell) else (n,k)).lookup y =
     (names.lookup y).map fun k=>if (k == NameKind.free&&env.scope.kind == .function&&env.kindOf y == some .cell) then NameKind.cell else k
 | []=>rfl
 | (n, k)::r=>by
   have ih:=Wg (env:=env) y r
   rw [List.map_cons]
   cases hx:y == n with
   | true =>
     have e:y=n:=by simpa using hx
     subst e
     by_cases hc:(k == NameKind.free&&env.scope.kind == .function&&env.kindOf y == some .cell)=true
     · simp only [hc,if_true,List.lookup_cons,beq_self_eq_true,Option.map_some]
     · simp only [hc,List.lookup_cons,beq_self_eq_true,Option.map_some]
       simp [hc]
   | false =>
     by_cases hc:(k == NameKind.free&&env.scope.kind == .function&&env.kindOf n == some .cell)=true
     · simp only [hc,if_true,List.lookup_cons,hx];exact ih
     · simp only [hc,List.lookup_cons,hx,Bool.false_eq_true,if_false];exact ih
theorem Zv {scope:Scope}{env:Env}{y:Str}{k:NameKind}(hcell:∀ z∈scope.names,z.2≠.cell)(h:(relabel scope env).names.lookup y=some k) :
   scope.names.lookup y=some k∨(scope.names.lookup y=some .free∧k=.cell):=by
 unfold relabel at h
 rw [Wg] at h
 cases e:scope.names.lookup y with
 | none=>rw [e] at h;cases h
 | some k0 =>
   rw [e] at h
   simp only [Option.map_some,Option.some.injEq] at h
   by_cases hc:(k0 == NameKind.free&&env.scope.kind == .function&&env.kindOf y == some .cell)=true
   · rw [if_pos hc] at h
     right
     simp only [Bool.and_eq_true,beq_iff_eq] at hc
     exact ⟨by rw [hc.1.1],h.symm⟩
   · rw [if_neg hc] at h
     left;rw [h]
theorem mem_of_lookup {α:Type}{y:Str}{k:α}:∀{l:List (Str×α)},l.lookup y=some k→(y,k)∈l
 | [],h=>by cases h
 | (n,z)::r,h=>by
   cases hx:y == n with
   | true =>
     have e:y=n:=by simpa using hx
     subst e
     simp only [List.lookup_cons,beq_self_eq_true] at h
     cases h
     exact List.mem_cons_self
   | false =>
     simp only [List.lookup_cons,hx] at h
     exact List.mem_cons_of_mem _ (mem_of_lookup h)
theorem XS {env:Env}:∀(names:List (Str×NameKind))(c0:List (Str×Addr)),(∀ y∈names,y.2=.free→∃ c,env.cells.lookup y.1=some c) →
   ∃ cl:List (Str×Addr),(forIn names c0 fun (x:Str×NameKind) (r:List (Str×Addr))=>(if x.2 == NameKind.free then (do let a ← cellOf env x.1;pure (ForInStep.yield ((x.1,a)::r))) else pure (ForInStep.yield r):Sem (ForInStep (List (Str×Addr)))))=pure cl ∧
     (∀ y c,cl.lookup y=some c→c0.lookup y=some c∨env.cells.lookup y=some c)∧(∀ y,c0.lookup y≠none→cl.lookup y≠none)∧∀ y∈names,y.2=.free→cl.lookup y.1≠none
 | [],c0,_=>⟨c0,rfl,fun _ _ h=>.inl h,fun _ h=>h,fun _ h=>(nomatch h)⟩
 | (n, k)::r,c0,h=>by
   by_cases hk:k=.free
   · subst hk
     obtain ⟨c,hc⟩:=h (n,.free) List.mem_cons_self rfl
     obtain ⟨cl,e,g1,g2,g3⟩:=XS r ((n,c)::c0) fun y hy=>h y (List.mem_cons_of_mem _ hy)
     refine ⟨cl,?_,?_,?_,?_⟩
     · rw [List.forIn_cons]
       have hcell:cellOf env n=pure c:=by unfold cellOf;rw [hc]
       simp only [beq_self_eq_true,if_true,hcell,pure_bind]
       exact e
     · intro y d q
       rcases g1 y d q with q | q
       · cases hx:y == n with
         | true =>
           have e':y=n:=by simpa using hx
           subst e'
           simp only [List.lookup_cons,beq_self_eq_true] at q
           cases q
           exact .inr hc
         | false=>simp only [List.lookup_cons,hx] at q;exact .inl q
       · exact .inr q
     · intro y q
       apply g2
       cases hx:y == n with
       | true=>simp [List.lookup_cons,hx]
       | false=>simpa [List.lookup_cons,hx] using q
     · intro y hy hf
       rcases List.mem_cons.mp hy with e' | hy
       · subst e'
         apply g2
         simp [List.lookup_cons]
       · exact g3 y hy hf
   · obtain ⟨cl,e,g1,g2,g3⟩:=XS r c0 fun y hy=>h y (List.mem_cons_of_mem _ hy)
     refine ⟨cl,?_,g1,g2,?_⟩
     · rw [List.forIn_cons]
       have hb:(k == NameKind.free)=false:=by simpa using hk
       simp only [hb,Bool.false_eq_true,if_false,pure_bind]
       exact e
     · intro y hy hf
       rcases List.mem_cons.mp hy with e' | hy
       · subst e';exact absurd hf hk
       · exact g3 y hy hf
theorem XL {scope:Scope}{env:Env}(h:∀ y∈scope.names,y.2=.free→∃ c,env.cells.lookup y.1=some c) :
   ∃ cl,closureFor scope env=pure cl∧(∀ y c,cl.lookup y=some c→env.cells.lookup y=some c)∧∀ y∈scope.names,y.2=.free→cl.lookup y.1≠none:=by
 obtain ⟨cl,e,g1,_,g3⟩:=XS (env:=env) scope.names [] h
 refine ⟨cl,?_,fun y c q=>(g1 y c q).elim (fun z=>by cases z) fun z=>z,g3⟩
 simp only [closureFor]
 rw [← bind_pure (pure cl:Sem _),← e]
def Xu (N:List Str)(x:Str):List Str:=N.map fun y=>if y=x then "" else y
theorem Xk (N:List Str)(x:Str):(Xu N x).length=N.length:=List.length_map ..
theorem VW {N:List Str}{x y:Str}{i:Nat}(h:(Xu N x)[i]?=some y):(N[i]?=some y∧y≠x)∨y="":=by
 unfold Xu at h
 rw [List.getElem?_map] at h
 cases e:N[i]? with
 | none=>rw [e] at h;cases h
 | some z =>
   rw [e] at h
   have h:(if z=x then ("":Str) else z)=y:=Option.some.inj h
   by_cases q:z=x
   · rw [if_pos q] at h;exact .inr h.symm
   · rw [if_neg q] at h;subst h;exact .inl ⟨rfl,q⟩
def ZB (X:Cx)(scope:Scope)(x:Str)(cl:List (Str×Addr))(C:Addr)(s₀:Shared)(H₀:Hp)(fp:List Addr):Cx :=
 { prog:=X.prog,w:=X.w,K:=X.K,mg:=X.mg,base:=X.base,A:=X.A,N:=Xu X.N x++[x],s₀:=s₀,H₀:=H₀,env:=compEnvC scope cl C X.env,outer:=X.stack,stack:=X.stack,
   ex:=fp,fn:=fun _=>false,calm:=X.calm,pn:=[],xe:=fun _ _=>False }
def XR (J:It)(te:TE)(σ:St)(D:Addr)(Q:VK)(H1:Hp):Prop :=
 ∃ W:Nat→Nat→List V→Hp→Prop,(∃ m,W 0 m [] (upd H1 D (.lst [])))∧∀ i m ys H2,W i m ys H2 →
   (J.stop i H2∧Q (.ref D) H2)∨(J.go i H2∧∃ N:VK,(∀ y H4,N y H4→H4 D=some (.lst ys)∧ys.length < sizeLine∧∃ m',m' < m∧W (i+1) m' (ys++[y]) (upd H4 D (.lst (ys++[y]))))∧∀ v H3,J.yld i H2 v H3→te (σ++[some v]) H3 N)
def Zfn (wi:TI)(te:TE):TE:=fun σ H Q=>wi σ H fun J H1=>∀ D,H1 D=none→XR J te σ D Q H1
section
variable {X:Cx}{elt iter:Expr}{x:Str}{px pos:Pos}{scope:Scope}{wi:TI}{te:TE}
theorem We {prog:Program}{w:World}{A:Around}{R:Result→Shared→Prop}{s:Shared}{elt target iter:Expr}{scope:Scope}{pos:Pos}{it acc:Value}{env:Env}(I:Nat→Shared→Prop)
   (turn : ∀ n s,I n s→wpAny (model prog w) A (pyNext it) (fun r s₁=>match r with
     | none=>R (.ok .next) s₁
     | some v=>wpAny (model prog w) A (letOwnedTupleGo target it v) (fun _ s1'=>wpAny (model prog w) A (assign target env v) (fun _ s₂=>wpAny (model prog w) A (eval elt env) (fun x s₃ =>
         wpAny (model prog w) A (call (.builtin "list.append") [acc,x]) (fun _ s₄=>∃ m,m < n∧I m s₄) (fun _ _=>False) s₃)
         (fun _ _=>False) s₂) (fun _ _=>False) s1') (fun _ _=>False) s₁) (fun _ _=>False) s)
   (n:Nat) (h:I n s) :
   codeAny (model prog w) A (.compLoop (.ListComp elt [⟨target,iter,[],0⟩] scope pos) 0 it acc env) R s:=by
 refine codeAny_loop rfl I (fun n s hI=>?_) n h
 show wpAny _ _ ((compTurn (.ListComp elt [⟨target,iter,[],0⟩] scope pos) 0 it acc env).onRaise (fun x=>do noteFrame x env;theTreesLotGoes x)) _ _ s
 refine wpAny_noted ?_
 rw [compTurn_list1]
 refine wpAny_bind (wpAny_standAt (wpAny_bind (wpAny_mono (turn n s hI) (fun r s₁ h₁=>?_) fun _ _ h'=>h'.elim)))
 cases r with
 | none=>exact wpAny_pure h₁
 | some v =>
   refine wpAny_bind (wpAny_mono h₁ (fun _ s1' h1'=>?_) fun _ _ h'=>h'.elim)
   exact wpAny_bind (wpAny_mono h1' (fun _ s₂ h₂=>wpAny_bind (wpAny_bind (wpAny_mono h₂ (fun x s₃ h₃=>wpAny_bind (wpAny_mono h₃
     (fun _ s₄ h₄=>wpAny_pure (wpAny_pure ⟨rfl,h₄⟩)) fun _ _ h'=>h'.elim)) fun _ _ h'=>h'.elim))) fun _ _ h'=>h'.elim)
structure CompOk (X:Cx)(scope:Scope)(x:Str):Prop where
 nd:(Xu X.N x++[x]).Nodup
 clos:∀ y∈scope.names,y.2=.free→X.env.kindOf y.1=some .cell∨X.env.kindOf y.1=some .free
 cell:∀ y∈scope.names,y.2≠.cell
 kind:scope.kind=.function
 names:∀ y∈scope.names,y.2=.local→scope.names.lookup y.1=some .local
 loc:scope.names.lookup x=some .local
 own:∀ y∈X.N,y≠x→scope.names.lookup y≠some .local
 noh:scope.names.lookup ("":Str)=none
theorem ZaC {pins:List (Addr×Obj)}{σ:St}{H2:Hp}{s₂:Shared}{J:It}{fp:List Addr}{it:Addr}{tn:Nat→Heap→Prop}{cl:List (Str×Addr)}{E:Value→Shared→Prop}{Q:VK}{RR:Value→Addr→Result→Shared→Prop}
   (O:CompOk X scope x) (hc:X.calm=true) (cl1:∀ y c,cl.lookup y=some c→X.env.cells.lookup y=some c) (cl2:∀ y∈scope.names,y.2=.free→cl.lookup y.1≠none)
   (he:∀ cl C s₀ H₀ fp,PE (ZB X scope x cl C s₀ H₀ fp) elt te)
   (I2:Inv X pins σ H2 s₂) (T:XT X.prog X.w X.K (.Name x px) J fp it tn) (st:tn 0 s₂.heap) (f2:∀ b∈fp,Yi X pins H2 b)
   (h:∀ D,H2 D=none→XR J te σ D Q H2)
   (hRR:∀ D C H' s',Inv X pins σ H' s'→Yi X pins H' C→(∃ m,s'.heap.Ns C m)→Q (.ref D) H'→RR (.ref D) C (.ok .next) s') :
   wpAny (model X.prog X.w) X.A (newList []) (fun acc s₃=>wpAny (model X.prog X.w) X.A (newFunctionEnv scope X.env.globals cl [] X.env.qual none .none (some X.env)) (fun cenv s₄ =>
     codeAny (model X.prog X.w) X.A (.compStart (.ListComp elt [⟨.Name x px,iter,[],0⟩] scope pos) 0 (.ref it) acc { cenv with scope:=relabel scope X.env }) (RR acc cenv.locals) s₄) E s₃) E s₂:=by
 have hD:H2 s₂.heap.objs.size=none:=I2.hok.fresh (Nat.le_refl _)
 refine wpAny_newObj_type ?_
 have I3:Inv X pins σ (upd H2 s₂.heap.objs.size (.lst [])) { s₂ with heap:=s₂.heap.push { cls:=.type "list",data:=.seq ([]:List Value).toArray } } :=
   I2.laid (t':=s₂.toks) (fun b u e=>Heap.get?_push_of_some _ e) (Nat.le_refl _) ⟨Nat.zero_le _,[],_,.nil,Heap.get?_push_size _ rfl⟩
 have f3:∀ b∈fp,Yi X pins (upd H2 s₂.heap.objs.size (.lst [])) b:=fun b hb=>by
   obtain ⟨g0,g1⟩:=f2 b hb
   obtain ⟨o,e,_⟩:=T.obj 0 _ st b hb
   exact ⟨by rw [Zp (Nat.ne_of_lt (Heap.lt_size e))];exact g0,g1⟩
 have st3:tn 0 (s₂.heap.push { cls:=.type "list",data:=.seq ([]:List Value).toArray }):=T.keep _ _ _ st fun b hb o e=>Heap.get?_push_of_some _ e
 obtain ⟨W,⟨m0,w0⟩,turn⟩:=h _ hD
 generalize hDe:s₂.heap.objs.size=D at I3 f3 w0 turn ⊢
 generalize hH3:upd H2 D (.lst [])=H3 at I3 f3 w0 turn ⊢
 generalize hs3:({ s₂ with heap:=s₂.heap.push { cls:=.type "list",data:=.seq ([]:List Value).toArray } }:Shared)=s₃ at I3
 have st3':tn 0 s₃.heap:=by rw [← hs3];exact st3
 have hobj:∀ b∈fp,b < s₃.heap.objs.size:=fun b hb=>by
   obtain ⟨o,e,_⟩:=T.obj 0 _ st3' b hb
   exact Heap.lt_size e
 refine wpAny_newFunctionEnv O.cell (by intro y hy;simp at hy) (fun h₁ hns₁ hsb₁=>?_) O.kind
 have old:∀ b o,s₃.heap.get? b=some o→h₁.get? b=some o:=fun b o e=>hsb₁.extBut b o (Nat.ne_of_lt (Heap.lt_size e)) (Heap.get?_push_of_some _ e)
 generalize hs4:({ s₃ with heap:=h₁,toks:=s₃.toks+([]:List (Str×Value)).length }:Shared)=s₄
 have h4:s₄.heap=h₁:=by rw [← hs4]
 have hX:∀ C,Yi X pins C s₃.heap.objs.size→True:=fun _ _=>trivial
 have ok':(ZB X scope x cl s₃.heap.objs.size s₃ H3 fp).Ok:=by
   refine ⟨I3.ok.mod,O.kind,I3.ok.glob,I3.ok.blt,Nat.le_refl _,?_,?_,?_,I3.ok.hd,I3.ok.frames,.inl rfl,?_,I3.bs,Nat.le_trans I3.ok.bsz I3.sz,?_,?_,I3.stack,I3.stkFree⟩
   · exact fun y z c e1 e2=>I3.ok.inj y z c (cl1 y c e1) (cl1 z c e2)
   · intro y hk
     have hf:scope.names.lookup y=some .free:=by
       rcases hk with hk | hk
       · rcases Zv O.cell hk with q | q
         · exact absurd rfl (O.cell _ (mem_of_lookup q))
         · exact q.1
       · rcases Zv O.cell hk with q | q
         · exact q
         · cases q.2
     have:=cl2 _ (mem_of_lookup hf) rfl
     cases e:cl.lookup y with
     | none=>exact absurd e this
     | some c=>exact ⟨c,e⟩
   · intro y c hf;cases hf
   · intro b hb
     obtain ⟨g0,g1,g2,g3,g4,g5⟩:=f3 b hb
     exact ⟨Nat.ne_of_lt (hobj b hb),fun y c e=>g4 y c (cl1 y c e)⟩
   · intro b o e hb
     obtain ⟨g0,g1,g2,g3,g4,g5⟩:=f3 b hb
     rcases g3 with g3 | g3
     · exact I3.ok.noex b o e g3
     · exact absurd (Heap.lt_size e) (Nat.not_lt.mpr (Nat.le_trans I3.ok.bsz g3))
   · intro b hb hs
     obtain ⟨g0,g1,g2,g3,g4,g5⟩:=f3 b hb
     rcases List.mem_cons.mp (I3.stkSub b hs) with e | e
     · exact g1 e
     · exact g2 e
 have I4 : Inv (ZB X scope x cl s₃.heap.objs.size s₃ H3 fp) [] (σ++[none]) H3 s₄:=by
   obtain ⟨m,hm,hl⟩:=I3.loc
   refine ⟨ok',by rw [← hs4];rfl,by rw [← hs4];exact I3.bare,by rw [h4];exact Un.kept old,⟨_,by rw [h4];exact hns₁,?_⟩,?_,I3.hok.fresh (Nat.le_refl _),fun y c e=>I3.freeC y c (cl1 y c e),?_,by rw [h4];exact I3.hok.kept old,?_⟩
   · intro i y v e1 e2 e3
     have hlt:i < σ.length:=by
       rcases Nat.lt_or_ge i σ.length with z | z
       · exact z
       · rw [List.getElem?_append_right z] at e2
         cases e:i - σ.length with
         | zero=>rw [e] at e2;simp at e2
         | succ k=>rw [e] at e2;simp at e2
     rw [List.getElem?_append_left hlt] at e2
     have hsm:∃ k,scope.names.lookup y=some k:=by
       rcases e3 with hk | hk | hk
       · rcases Zv O.cell hk with q | q
         · exact ⟨_,q⟩
         · exact ⟨_,q.1⟩
       · rcases Zv O.cell hk with q | q
         · exact ⟨_,q⟩
         · exact ⟨_,q.1⟩
       · rcases Zv O.cell hk with q | q
         · exact ⟨_,q⟩
         · exact ⟨_,q.1⟩
     obtain ⟨e1',hyx⟩:X.N[i]?=some y∧y≠x:=by
       have e1:(Xu X.N x++[x])[i]?=some y:=e1
       rw [List.getElem?_append_left (by rw [Xk,← I3.len];exact hlt)] at e1
       rcases VW e1 with z | z
       · exact z
       · obtain ⟨k,hk⟩:=hsm
         rw [z,O.noh] at hk;cases hk
     have hy:y∈X.N:=List.mem_of_getElem? e1'
     have hf:scope.names.lookup y=some .free:=by
       rcases e3 with hk | hk | hk
       · rcases Zv O.cell hk with q | q
         · exact absurd q (O.own y hy hyx)
         · exact q.1
       · rcases Zv O.cell hk with q | q
         · exact absurd rfl (O.cell _ (mem_of_lookup q))
         · exact q.1
       · rcases Zv O.cell hk with q | q
         · exact q
         · exact q.1
     have hk:=O.clos _ (mem_of_lookup hf) rfl
     have hv:Vis X.env.scope y:=by rcases hk with z | z;exact .inr (.inl z);exact .inr (.inr z)
     obtain ⟨u,ru,lu⟩:=hl i y v e1' e2 hv
     refine ⟨u,ru,?_⟩
     have hkc:(compEnvC scope cl s₃.heap.objs.size X.env).kindOf y=some .cell∨(compEnvC scope cl s₃.heap.objs.size X.env).kindOf y=some .free:=by
       rcases e3 with q | q | q
       · rcases Zv O.cell q with z | z
         · exact absurd z (O.own y hy hyx)
         · cases z.2
       · exact .inl q
       · exact .inr q
     rcases lu with ⟨q,_⟩ | ⟨_,c,hcl,hcc⟩
     · rcases hk with z | z<;>(rw [q] at z;cases z)
     · refine .inr ⟨hkc,?_⟩
       cases e:cl.lookup y with
       | none=>exact absurd e (cl2 _ (mem_of_lookup hf) rfl)
       | some c' =>
         have:=cl1 y c' e
         rw [hcl] at this
         cases this
         refine ⟨c,e,?_⟩
         rw [h4]
         obtain ⟨oc,ho,hd⟩:=hcc
         exact ⟨oc,old _ _ ho,hd⟩
   · intro y c e
     obtain ⟨v,oc,ho,hd⟩:=I3.cell y c (cl1 y c e)
     exact ⟨v,oc,by rw [h4];exact old _ _ ho,hd⟩
   · intro p hp;cases hp
   · show (σ++[none]).length=(Xu X.N x++[x]).length
     rw [List.length_append,List.length_append,Xk,I3.len];rfl
 have st4:tn 0 s₄.heap:=by rw [h4];exact T.keep _ _ _ st3' fun b hb o e=>old b o e
 have fpok:∀ {H':Hp},(∀ b∈fp,H' b=none)→∀ b∈fp,Yi (ZB X scope x cl s₃.heap.objs.size s₃ H3 fp) [] H' b:=fun hn b hb=>by
   obtain ⟨g0,g1,g2,g3,g4,g5⟩:=f3 b hb
   refine ⟨hn b hb,Nat.ne_of_lt (hobj b hb),ok'.exfs b hb,.inl hb,fun y c e=>g4 y c (cl1 y c e),?_⟩
   intro p hp;cases hp
 have loop:codeAny (model X.prog X.w) X.A (.compLoop (.ListComp elt [⟨.Name x px,iter,[],0⟩] scope pos) 0 (.ref it) (.ref D) (compEnvC scope cl s₃.heap.objs.size X.env)) (RR (.ref D) s₃.heap.objs.size) s₄:=by
   refine We (fun n s'=>∃ i ys w' H',Inv (ZB X scope x cl s₃.heap.objs.size s₃ H3 fp) [] (σ++[w']) H' s'∧tn i s'.heap∧(∀ b∈fp,H' b=none)∧W i n ys H') ?_ m0 ⟨0,[],none,H3,I4,st4,fun b hb=>(f3 b hb).1,w0⟩
   rintro n s5 ⟨i,ys,w',H5,I5,st5,fr5,w5⟩
   rcases turn i n ys H5 w5 with ⟨stop,q⟩ | ⟨go,N,hN,step⟩
   · refine Zm (T.done (ZB X scope x cl s₃.heap.objs.size s₃ H3 fp) rfl rfl rfl hc i [] s5 _ H5 _ I5 (fpok fr5) st5 stop) fun r s6 ⟨hr,I6⟩=>?_
     subst hr
     obtain ⟨m6,hn6,_⟩:=I6.loc
     have IX:Inv X pins σ H5 s6:=I3.call' (ch:=fp) I6.os I6.base I6.hok I6.bare fun b hb=>by
       obtain ⟨g0,g1,g2,g3,g4,g5⟩:=f3 b hb
       exact ⟨g3,g1,g4,g5⟩
     exact hRR D _ H5 s6 IX (I3.fpOk (Nat.le_refl _) I6.free) ⟨m6,hn6⟩ q
   · refine Zm (T.item (ZB X scope x cl s₃.heap.objs.size s₃ H3 fp) rfl rfl rfl hc i [] s5 _ H5 _ I5 (fpok fr5) st5 go) fun r s6 ⟨u,hr,h6⟩=>?_
     subst hr
     refine Zm h6 fun _ s7 ⟨v,H7,I7,r7,y7,st7,fr7⟩=>?_
     have I7':=I7.pinned (fpok fr7) (T.obj _ _ st7)
     have hixN:(ZB X scope x cl s₃.heap.objs.size s₃ H3 fp).N[σ.length]?=some x:=by
       show (Xu X.N x++[x])[σ.length]?=some x
       rw [I3.len,← Xk X.N x];simp
     refine Zm (ZV (X:=ZB X scope x cl s₃.heap.objs.size s₃ H3 fp) (pos:=px) O.nd hixN (.inl (lookup_relabel_local O.loc)) (.inr (lookup_relabel_local O.loc)) _ s7 _ H7 v u (fun σ' H'=>σ'=σ++[some v]∧H'=H7) I7' r7 ⟨by simp,rfl⟩) fun _ s8 ⟨σ8,H8,I8,e8,e8'⟩=>?_
     subst e8 e8'
     refine Zm (he cl s₃.heap.objs.size s₃ H3 fp _ s8 _ H8 _ I8 (step v H8 y7)) fun uy s9 ⟨y,H9,I9,r9,n9⟩=>?_
     obtain ⟨hl9,hz9,m',hm',w9⟩:=hN y H9 n9
     refine Zm (Ya (X:=ZB X scope x cl s₃.heap.objs.size s₃ H3 fp) _ s9 _ H9 (.ref D) [y] (.ref D) [uy] (fun v H'=>H'=upd H9 D (.lst (ys++[y]))) I9 rfl (.cons r9 .nil) ⟨D,ys,y,rfl,rfl,hl9,hz9,rfl⟩) fun _ s10 ⟨_,H10,I10,_,e10⟩=>?_
     subst e10
     refine ⟨m',hm',i+1,ys++[y],some v,_,I10.unpinned (pins:=[]),T.keep _ _ _ st7 fun b hb o e=>(I10.pin (b,o) (List.mem_append_right _ (List.mem_append_right _ (Yb hb e)))).1,fun b hb=>?_,w9⟩
     obtain ⟨o,e,d⟩:=T.obj _ _ st7 b hb
     exact (I10.pin (b,o) (List.mem_append_right _ (List.mem_append_right _ (Yb hb e)))).2.1
 exact codeAny_compStart_list loop (T.self _ 0 _ _ _ st4 loop)
theorem Wr (O:CompOk X scope x)(hc:X.calm=true)(hi:PI X (.Name x px) iter wi)(he:∀ cl C s₀ H₀ fp,PE (ZB X scope x cl C s₀ H₀ fp) elt te)
   (hs:∀ v,foldedSetIterable iter X.env v=pure v:=by intro _;rfl):PE X (.ListComp elt [⟨.Name x px,iter,[],0⟩] scope pos) (Zfn wi te):=by
 intro pins s σ H Q I h
 obtain ⟨cl,hcl,cl1,cl2⟩:=XL (scope:=scope) (env:=X.env) fun y hy hf=>I.ok.has _ (O.clos y hy hf)
 rw [eval_ListComp]
 refine wpAny_comprehension_free (use:=none) rfl hs hcl O.kind O.names (Zm (hi pins s σ H _ I h) fun v s1 h1=>Zm h1 fun itv s2 h2=>?_)
 obtain ⟨it,fp,tn,J,H2,e,I2,T,st2,f2,q⟩:=h2
 subst e
 refine ZaC (RR:=fun acc C=>compPost (model X.prog X.w) X.A X.xe none (EP X pins σ Q) acc C) O hc cl1 cl2 he I2 T st2 f2 q ?_
 intro D C H' s' I' ⟨g0,g1,g2,g3,g4,g5⟩ ⟨m,hm⟩ hq
 exact ⟨m,hm,fun h' hs'=>⟨.ref D,H',I'.turned (t':=s'.toks) (fun b o hb e=>(hs'.2 b hb).trans e) g0 g1 g3 g4 g5,rfl,hq⟩⟩
end
theorem ZaR {lo:Int}{n:Nat}{te:TE}{σ:St}{D:Addr}{Q:VK}{H:Hp}(hn:n≤sizeLine)(Pv:Nat→List V→Hp→Prop)(h0:Pv 0 [] (upd H D (.lst [])))
   (hl:∀ i ys H,Pv i ys H→ys.length=i)
   (hs:∀ i ys H,i < n→Pv i ys H→te (σ++[some (.int (lo+i))]) H fun y H4=>H4 D=some (.lst ys)∧Pv (i+1) (ys++[y]) (upd H4 D (.lst (ys++[y])))) (hd:∀ ys H,Pv n ys H→Q (.ref D) H):XR (WU lo n) te σ D Q H:=by
 refine ⟨fun i m ys H=>m=n - i∧i≤n∧Pv i ys H,⟨n,by simp,Nat.zero_le _,h0⟩,?_⟩
 rintro i m ys H2 ⟨rfl,hi,p⟩
 by_cases hlt:i < n
 · have hlen:=hl i ys _ p
   refine .inr ⟨hlt,_,fun y H4 (q:H4 D=some (.lst ys)∧Pv (i+1) (ys++[y]) (upd H4 D (.lst (ys++[y]))))=>⟨q.1,by omega,n - (i+1),by omega,rfl,hlt,q.2⟩,fun v H3 y=>?_⟩
   obtain ⟨e,e'⟩:=y
   subst e e'
   exact hs i ys _ hlt p
 · have e:i=n:=by omega
   subst e
   exact .inl ⟨Nat.le_refl _,hd ys H2 p⟩
theorem Zbc {K:PySem.W.Frag}{a:Addr}{xs:List V}{te:TE}{σ:St}{D:Addr}{Q:VK}{H:Hp}(hn:xs.length≤sizeLine)(Pv:Nat→List V→Hp→Prop)(h0:Pv 0 [] (upd H D (.lst [])))
   (hl:∀ i ys H,Pv i ys H→ys.length=i∧SqL K H a xs)
   (hs:∀ i x ys H,xs[i]?=some x→Pv i ys H→te (σ++[some x]) H fun y H4=>H4 D=some (.lst ys)∧Pv (i+1) (ys++[y]) (upd H4 D (.lst (ys++[y])))) (hd:∀ ys H,Pv xs.length ys H→Q (.ref D) H):XR (Itl K a) te σ D Q H:=by
 refine ⟨fun i m ys H=>m=xs.length - i∧i≤xs.length∧Pv i ys H,⟨xs.length,by simp,Nat.zero_le _,h0⟩,?_⟩
 rintro i m ys H2 ⟨rfl,hi,p⟩
 obtain ⟨hlen,q⟩:=hl i ys _ p
 by_cases hlt:i < xs.length
 · refine .inr ⟨⟨xs,xs[i],q,by simp [hlt]⟩,_,fun y H4 (q:H4 D=some (.lst ys)∧Pv (i+1) (ys++[y]) (upd H4 D (.lst (ys++[y]))))=>⟨q.1,by omega,xs.length - (i+1),by omega,rfl,hlt,q.2⟩,fun v H3 y=>?_⟩
   obtain ⟨e,y⟩:=y
   subst e
   exact hs i v ys _ (y xs q) p
 · have e:i=xs.length:=by omega
   subst e
   exact .inl ⟨⟨xs,q,Nat.le_refl _⟩,hd ys H2 p⟩
end L2
namespace L2
open PySem PySem.Spec PyProof.Rows
def Its (x:Str):It:=⟨fun i _=>i < x.cps.size,fun i H v H'=>H'=H∧∃ c,x.cps[i]?=some c∧v=.str ⟨#[c]⟩,fun i _=>x.cps.size≤i⟩
theorem ZaI {P:Program}{w:World}{K:PySem.W.Frag}{tg:Expr}(x:Str)(t:Tok)(it:Addr):XT P w K tg (Its x) [it] it (fun i h=>h.IsStrIter it "str_ascii_iterator" x t i) where
 mem:=by simp
 obj:=fun i h st b hb=>by
   have e:b=it:=by simpa using hb
   subst e
   obtain ⟨o,e,c,d⟩:=st
   exact ⟨o,e,fun v z=>by rw [d] at z;cases z⟩
 keep:=fun i h h' st k=>let ⟨o,ho,r⟩:=st;⟨o,k it (by simp) o ho,r⟩
 item:=by
   intro X hP hw hK hc i pins s σ H E I hf st hg
   subst hP hw hK
   obtain ⟨f0,f1,f2,f3,f4,f5⟩:=hf it (by simp)
   have hlt:i < x.cps.size:=hg
   refine wpAny_pyNext_ascii_item st (c:=x.cps[i]) (by simp [hlt]) fun h' st' sb=>?_
   have I1:Inv X pins σ H { s with heap:=h',toks:=s.toks+1 }:=I.turned (t':=s.toks+1) (fun b o hb e=>(sb.2 b hb).trans e) f0 f1 f3 f4 f5
   obtain ⟨o,e,c,d⟩:=id st'
   exact ⟨_,rfl,WQ (s:={ s with heap:=h',toks:=s.toks+1 }) e c d (by decide) ⟨.str ⟨#[x.cps[i]]⟩,H,I1,⟨_,rfl⟩,⟨rfl,x.cps[i],by simp [hlt],rfl⟩,st',fun b hb=>(hf b hb).1⟩⟩
 done:=by
   intro X hP hw hK hc i pins s σ H E I hf st hg
   subst hP hw hK
   obtain ⟨f0,f1,f2,f3,f4,f5⟩:=hf it (by simp)
   have hle:x.cps.size≤i:=hg
   exact wpAny_pyNext_ascii_end (I.ok.hd hc) st (by simp [hle]) fun h' eb=>⟨rfl,I.turned (t':=s.toks) (fun b o hb e=>eb b o hb e) f0 f1 f3 f4 f5⟩
 self:=fun _ _ _ _ _ st h=>wpAny_pyIter_striter_ascii st h
theorem Zbf {P:Program}{w:World}{K:PySem.W.Frag}{tg:Expr}(x:Str)(t:Tok)(it:Addr):XT P w K tg (Its x) [it] it (fun i h=>h.IsStrIter it "str_iterator" x t i) where
 mem:=by simp
 obj:=fun i h st b hb=>by
   have e:b=it:=by simpa using hb
   subst e
   obtain ⟨o,e,c,d⟩:=st
   exact ⟨o,e,fun v z=>by rw [d] at z;cases z⟩
 keep:=fun i h h' st k=>let ⟨o,ho,r⟩:=st;⟨o,k it (by simp) o ho,r⟩
 item:=by
   intro X hP hw hK hc i pins s σ H E I hf st hg
   subst hP hw hK
   obtain ⟨f0,f1,f2,f3,f4,f5⟩:=hf it (by simp)
   have hlt:i < x.cps.size:=hg
   refine wpAny_pyNext_wide_item st (c:=x.cps[i]) (by simp [hlt]) fun h' st' sb=>?_
   have I1:Inv X pins σ H { s with heap:=h',toks:=s.toks+1 }:=I.turned (t':=s.toks+1) (fun b o hb e=>(sb.2 b hb).trans e) f0 f1 f3 f4 f5
   obtain ⟨o,e,c,d⟩:=id st'
   exact ⟨_,rfl,WQ (s:={ s with heap:=h',toks:=s.toks+1 }) e c d (by decide) ⟨.str ⟨#[x.cps[i]]⟩,H,I1,⟨_,rfl⟩,⟨rfl,x.cps[i],by simp [hlt],rfl⟩,st',fun b hb=>(hf b hb).1⟩⟩
 done:=by
   intro X hP hw hK hc i pins s σ H E I hf st hg
   subst hP hw hK
   obtain ⟨f0,f1,f2,f3,f4,f5⟩:=hf it (by simp)
   have hle:x.cps.size≤i:=hg
   exact wpAny_pyNext_wide_end (I.ok.hd hc) st (by simp [hle]) fun h' eb=>⟨rfl,I.turned (t':=s.toks) (fun b o hb e=>eb b o hb e) f0 f1 f3 f4 f5⟩
 self:=fun _ _ _ _ _ st h=>wpAny_pyIter_striter_wide st h
def iStr (tl:TE):TI:=fun σ H R=>tl σ H fun v H1=>∃ x,v=.str x∧R (Its x) H1
section
variable {X:Cx}{tg:Expr}
theorem ZeE {l:Expr}{tl:TE}(hl:PE X l tl):PI X tg l (iStr tl):=by
 intro pins s σ H R I h
 refine Zm (hl pins s σ H _ I h) fun v s1 ⟨z,H1,I1,r1,q1⟩=>?_
 obtain ⟨x,e,q⟩:=q1
 subst e
 obtain ⟨t,rfl⟩:=r1
 have fin:∀ b,b∈[s1.heap.objs.size]→Yi X pins H1 b:=fun b hb=>by
   have e:b=s1.heap.objs.size:=by simpa using hb
   subst e
   exact I1.fpOk (Nat.le_refl _) (I1.hok.fresh (Nat.le_refl _))
 cases ha:x.cps.all (· < 128)
 · exact wpAny_pyIter_wide ha ⟨s1.heap.objs.size,[s1.heap.objs.size],_,_,H1,rfl,I1.kept (t':=s1.toks) fun b o e=>Heap.get?_push_of_some _ e,Zbf x t _,⟨_,Heap.get?_push_size _ rfl,rfl,rfl⟩,fin,q⟩
 · exact wpAny_pyIter_ascii ha ⟨s1.heap.objs.size,[s1.heap.objs.size],_,_,H1,rfl,I1.kept (t':=s1.toks) fun b o e=>Heap.get?_push_of_some _ e,ZaI x t _,⟨_,Heap.get?_push_size _ rfl,rfl,rfl⟩,fin,q⟩
end
theorem Zcq {x:Str}{te:TE}{σ:St}{D:Addr}{Q:VK}{H:Hp}(hn:x.length≤sizeLine)(Pv:Nat→List V→Hp→Prop)(h0:Pv 0 [] (upd H D (.lst [])))
   (hl:∀ i ys H,Pv i ys H→ys.length=i)
   (hs:∀ i c ys H,x.cps[i]?=some c→Pv i ys H→te (σ++[some (.str ⟨#[c]⟩)]) H fun y H4=>H4 D=some (.lst ys)∧Pv (i+1) (ys++[y]) (upd H4 D (.lst (ys++[y])))) (hd:∀ ys H,Pv x.cps.size ys H→Q (.ref D) H):XR (Its x) te σ D Q H:=by
 have hn':x.cps.size≤sizeLine:=hn
 refine ⟨fun i m ys H=>m=x.cps.size - i∧i≤x.cps.size∧Pv i ys H,⟨x.cps.size,by simp,Nat.zero_le _,h0⟩,?_⟩
 rintro i m ys H2 ⟨rfl,hi,p⟩
 have hlen:=hl i ys _ p
 by_cases hlt:i < x.cps.size
 · refine .inr ⟨hlt,_,fun y H4 (q:H4 D=some (.lst ys)∧Pv (i+1) (ys++[y]) (upd H4 D (.lst (ys++[y]))))=>⟨q.1,by omega,x.cps.size - (i+1),by omega,rfl,hlt,q.2⟩,fun v H3 y=>?_⟩
   obtain ⟨e,c,hc,e'⟩:=y
   subst e e'
   exact hs i c ys _ hc p
 · have e:i=x.cps.size:=by omega
   subst e
   exact .inl ⟨Nat.le_refl _,hd ys H2 p⟩
section
variable {X:Cx}
theorem VZ:∀{ys:List Str}{us:List Value},Vals (ys.map V.str) us→StrsAre us ys
 | [],_,.nil=>.nil
 | y::ys,_,.cons r t=>by obtain ⟨k,rfl⟩:=r;exact .cons _ _ (VZ t)
theorem YN:MtR X "str.join" (fun x xs H Q=>∃ sep a ys,x=.str sep∧xs=[.ref a]∧SqL X.K H a (ys.map V.str)∧(ys.map (·.length)).sum+ys.length * sep.length≤16777216∧Q (.str (Txt.join sep ys)) H):=by
 intro pins s σ H x xs v us Q I rx rv h
 obtain ⟨sep,a,ys,rfl,rfl,hq,hz,q⟩:=h
 obtain ⟨t,rfl⟩:=rx
 obtain ⟨u,rfl,ru⟩:=YT rv
 cases ru
 obtain ⟨its,r,p,_⟩:=I.list hq
 exact join_list p.isList (by simpa using VZ r) hz fun t' k=>⟨.str _,H,I.tok k,⟨_,rfl⟩,q⟩
theorem Zba:SlR X (fun x lo hi H Q=>∃ z,x=.str z∧z.length≤sizeLine∧Q (.str (Txt.slice z lo hi)) H):=by
 intro pins s σ H x v vl vu lo hi sl Q I rx hs pl pu h
 obtain ⟨z,rfl,hz,q⟩:=h
 obtain ⟨t,rfl⟩:=rx
 refine ⟨"str",_,F.slot_str_getitem.lookup,typeIs_str _ _ _,?_⟩
 have fin:∀ (t':Tok) (k:Nat),EP X pins σ Q (.str (Txt.slice z lo hi) t') { s with toks:=k }:=fun t' k=>⟨.str _,H,I.tok k,⟨_,rfl⟩,q⟩
 obtain ⟨o,ho,hc,hd⟩:=hs
 cases pl<;>cases pu
 · exact wpAny_getItem_str_slice (l:=none) (u:=none) (st:=none) ⟨_,ho,hc,hd⟩ rfl (post_val_or_str ⟨Nat.le_trans (Txt.slice_le z _ _) hz,fin⟩)
 · rename_i j uj
   exact wpAny_getItem_str_slice (l:=none) (u:=some (j,uj)) (st:=none) ⟨_,ho,hc,hd⟩ rfl (post_val_or_str ⟨Nat.le_trans (Txt.slice_le z _ _) hz,fin⟩)
 · rename_i i ui
   exact wpAny_getItem_str_slice (l:=some (i,ui)) (u:=none) (st:=none) ⟨_,ho,hc,hd⟩ rfl (post_val_or_str ⟨Nat.le_trans (Txt.slice_le z _ _) hz,fin⟩)
 · rename_i i ui j uj
   exact wpAny_getItem_str_slice (l:=some (i,ui)) (u:=some (j,uj)) (st:=none) ⟨_,ho,hc,hd⟩ rfl (post_val_or_str ⟨Nat.le_trans (Txt.slice_le z _ _) hz,fin⟩)
theorem WX:Ye X (binaryOp .Mult) (fun x y H Q=>∃ i n,x=.str i∧y=.int n∧MulOk i n∧Q (.str (Txt.mul i n)) H):=by
 intro pins s σ H x y v u Q I rx ry h
 obtain ⟨i,n,rfl,rfl,hok,q⟩:=h
 obtain ⟨t,rfl⟩:=rx
 obtain ⟨t',rfl⟩:=ry
 exact SB.mul hok fun t' k=>⟨.str _,H,I.tok k,⟨_,rfl⟩,q⟩
theorem UF:Yj X (.type "str") (fun xs H Q=>(∃ i,xs=[.int i]∧i.natAbs.log2 < 1920∧Q (.str (toString i)) H)∨∃ z,xs=[.str z]∧Q (.str z) H):=by
 intro pins s σ H xs us Q I r h
 rcases h with h | ⟨z,rfl,q⟩
 · exact VN pins s σ H xs us Q I r h
 · obtain ⟨u,rfl,t,rfl⟩:=YT r
   exact PySem.P.str_of_str ⟨.str _,H,I,⟨_,rfl⟩,q⟩
end
mutual
inductive DataOf (H:Hp):V→PyData→Prop
 | non:DataOf H .non .none
 | bl (b):DataOf H (.bl b) (.bool b)
 | int (i):DataOf H (.int i) (.int i)
 | str (x):DataOf H (.str x) (.str x)
 | lst {a xs ds}:H a=some (.lst xs)→DatasOf H xs ds→DataOf H (.ref a) (.list ds)
 | tup {a xs ds}:H a=some (.tup xs)→DatasOf H xs ds→DataOf H (.ref a) (.tuple ds)
inductive DatasOf (H:Hp):List V→List PyData→Prop
 | nil:DatasOf H [] []
 | cons {v d vs ds}:DataOf H v d→DatasOf H vs ds→DatasOf H (v::vs) (d::ds)
end
section
variable {P:Program}{w:World}{H:Hp}{h:Heap}
mutual
theorem DataOf.reads (hok:HOk P w H h):∀{v d}(u:Value),DataOf H v d→RelV v u→d.hasDict=false∧∃ as,Reads h u d as
 | _,_,u,.non,r=>by cases (show u=.none from r);exact ⟨rfl,_,.none⟩
 | _,_,u,.bl b,r=>by cases (show u=.bool b from r);exact ⟨rfl,_,.bool b⟩
 | _,_,u,.int i,r=>by obtain ⟨t,e⟩:=(show ∃ t,u=.int i t from r);subst e;exact ⟨rfl,_,.int i t⟩
 | _,_,u,.str x,r=>by obtain ⟨t,e⟩:=(show ∃ t,u=.str x t from r);subst e;exact ⟨rfl,_,.str x t⟩
 | _,_,u,.lst (a:=a) (xs:=xs) e q,r=>by
   cases (show u=.ref a from r)
   obtain ⟨_,its,n,rv,g⟩:=(show ObjOk P w H h a (.lst xs) from hok a _ e)
   obtain ⟨nd,as,ra⟩:=DatasOf.reads hok its q rv
   exact ⟨by simpa [PyData.hasDict] using nd,_,.list g rfl rfl (by simpa using ra)⟩
 | _,_,u,.tup (a:=a) (xs:=xs) e q,r=>by
   cases (show u=.ref a from r)
   obtain ⟨_,its,rv,o,g,c,n,d⟩:=(show ObjOk P w H h a (.tup xs) from hok a _ e)
   obtain ⟨nd,as,ra⟩:=DatasOf.reads hok its q rv
   exact ⟨by simpa [PyData.hasDict] using nd,_,.tuple g c d (by simpa using ra)⟩
theorem DatasOf.reads (hok:HOk P w H h):∀{vs ds}(us:List Value),DatasOf H vs ds→Vals vs us→PyData.hasDictAll ds=false∧∃ as,ReadsAll h us ds as
 | _,_,_,.nil,.nil=>⟨rfl,_,.nil⟩
 | _,_,_,.cons r t,.cons rv tv=>by
   obtain ⟨n1,as,r1⟩:=DataOf.reads hok _ r rv
   obtain ⟨n2,bs,r2⟩:=DatasOf.reads hok _ t tv
   exact ⟨by simp [PyData.hasDictAll,n1,n2],_,.cons r1 r2⟩
end
end
section
variable {X:Cx}
end
end L2
namespace L2
open PySem PySem.Spec PyProof.Rows
def Def (P:Program)(w:World)(K:PySem.W.Frag)(mg:Str→Option Value)(base:Heap)(k:Nat)(x:Str)(ps:List Str)(sp:Sp):Prop :=
 ∃ f fd,FnOk P w K mg base ZI k f fd ps sp∧Binds K fd ps []∧PySem.W.keepIn K (.ref f)=true∧mg x=some (.ref f)
theorem Def.mono {P:Program}{w:World}{K:PySem.W.Frag}{mg:Str→Option Value}{base:Heap}{j k:Nat}{x:Str}{ps:List Str}{sp:Sp}(D:Def P w K mg base j x ps sp)(h:j≤k):Def P w K mg base k x ps sp :=
 let ⟨f,fd,F,b,kp,m⟩:=D;⟨f,fd,F.mono h,b,kp,m⟩
section
variable {X:Cx}{k:Nat}{x:Str}{ps:List Str}{sp:Sp}{p pos:Pos}{e:Expr}{es:List Expr}{t:TA}
theorem Zn (D:Def X.prog X.w X.K X.mg X.base k x ps sp)(hr:Room k X.A)(ha:PA X (e::es) t)(hg:Gl X x:=by rfl)(hdb:(x == ("__debug__":Str))=false:=by decide)
   (he:starEach (e::es) X.env=(false,eval e X.env)::starEach es X.env:=by rfl) (hpl:(backTo pos (starEach es X.env)).any (·.1)=false:=by rfl) :
   PE X (.Call (.Name x p) (e::es) [] pos) (UV sp [] E0 t):=by
 obtain ⟨f,fd,F,b,kp,m⟩:=D
 exact ZdP F hr hg m kp b .nil Zfd ha hdb he hpl
end
def Kp (p:Addr)(H H':Hp):Prop:=∀ q o,q≠p→H q=some o→H' q=some o
theorem Kp.trans {p:Addr}{H H1 H2:Hp}(a:Kp p H H1)(b:Kp p H1 H2):Kp p H H2:=fun q o n h=>b q o n (a q o n h)
theorem Kp.upd (p:Addr)(H:Hp)(o:HO):Kp p H (upd H p o):=fun q u n h=>by rw [Zp n];exact h
theorem Same.kp {H H':Hp}(a:Same H H')(p:Addr):Kp p H H':=fun q o _ h=>a q o h
theorem Zl {H:Hp}{p:Addr}(h:H p=none)(o:HO):Same H (upd H p o):=fun b u q=>by rw [Zp (Zz q h)];exact q
def BoxAt (H:Hp)(p:Addr)(n:Nat):Prop:=∃ a b c:Int,H p=some (.lst [.int a,.int b,.int c])∧0≤a∧0≤c∧c≤n
theorem BoxAt.same {H H':Hp}{p:Addr}{n:Nat}(h:BoxAt H p n)(s:Same H H'):BoxAt H' p n:=let ⟨a,b,c,e,r⟩:=h;⟨a,b,c,s _ _ e,r⟩
theorem BoxAt.le {H:Hp}{p:Addr}{n m:Nat}(h:BoxAt H p n)(l:n≤m):BoxAt H p m:=let ⟨a,b,c,e,h1,h2,h3⟩:=h;⟨a,b,c,e,h1,h2,by omega⟩
def Ub (M:Int):Sp:=fun vs H Q _=>∃(p:Addr)(n:Nat)(m:Int),vs=[.ref p,.int m]∧BoxAt H p n∧n≤1000000∧0 < m∧m < M∧∀(r:Int)(H':Hp),0≤r→r < m→BoxAt H' p (n+1)→Kp p H H'→Q (.int r) H'
def ZbR (K:PySem.W.Frag):Sp:=fun vs H Q _=>∃(a:Addr)(ns:List Int)(k:Int),vs=[.ref a,.int k]∧SqL K H a (ns.map V.int)∧0≤k∧∀(r:Int),Q (.int r) H
def ZcZ (K:PySem.W.Frag):Sp:=fun vs H Q _=>∃(a:Addr)(ns:List Int)(k:Int),vs=[.ref a,.int k]∧SqL K H a (ns.map V.int)∧0≤k∧k≤1000∧∀(p:Addr)(H':Hp),H p=none→BoxAt H' p 0→Same H H'→Q (.ref p) H'
theorem len1 {n:Nat}(h:n≤1000):n≤sizeLine:=Nat.le_of_lt (ZbU h)
end L2
namespace L2
open PySem PySem.Spec PyProof.Rows
def Zar (N:List Str)(names:List (Str×NameKind))(scope:Scope)(x:Str):Bool :=
 decide ((Xu N x++[x]).Nodup)&&scope.names.all (fun y=>(y.2 != .free || names.lookup y.1 == some .cell || names.lookup y.1 == some .free)&&(y.2 != .cell&&(y.2 != .local || scope.names.lookup y.1 == some .local))) &&
 ((scope.kind == .function&&scope.names.lookup x == some .local)&&N.all fun y=>y == x || scope.names.lookup y != some .local)&&scope.names.lookup ("":Str) == none
theorem CompOk.of {X:Cx}{scope:Scope}{x:Str}(N:List Str)(st:Stmt)(hN:X.N=N)(hn:X.env.scope=Zg st)(chk:Zar N (Zg st).names scope x=true):CompOk X scope x:=by
 unfold Zar at chk
 simp only [Bool.and_eq_true,decide_eq_true_eq,List.all_eq_true,Bool.or_eq_true,bne_iff_ne,beq_iff_eq] at chk
 obtain ⟨⟨⟨c1,c2⟩,⟨c3,c4⟩,c5⟩,c6⟩:=chk
 refine ⟨by rw [hN];exact c1,fun y hy hf=>?_,fun y hy=>(c2 y hy).2.1,c3,fun y hy hl=>?_,c4,fun y hy hx=>(c5 y (by rw [← hN];exact hy)).resolve_left hx,c6⟩
 · show X.env.scope.names.lookup y.1=_∨X.env.scope.names.lookup y.1=_
   rw [hn]
   rcases (c2 y hy).1 with (z | z) | z
   · exact absurd hf z
   · exact .inl z
   · exact .inr z
 · rcases (c2 y hy).2.2 with z | z
   · exact absurd hl z
   · exact z
theorem WV:∀ (rest:List Str) (acc:Array Nat),(rest.foldl (fun acc p=>acc++(Str.ofString "").cps++p.cps) acc).toList=acc.toList++rest.flatMap (·.cps.toList)
 | [],acc=>by simp
 | p::r,acc=>by
   have e:(Str.ofString "").cps=#[]:=by decide +kernel
   rw [List.foldl_cons,WV r,List.flatMap_cons,e]
   simp
theorem Xi:∀ ys:List Str,(Txt.join (Str.ofString "") ys).cps.toList=ys.flatMap (·.cps.toList)
 | []=>rfl
 | y::r=>by
   show (List.foldl (fun acc p=>acc++(Str.ofString "").cps++p.cps) y.cps r).toList=_
   rw [WV];rfl
theorem ZL (x:Str):x.length=x.cps.toList.length:=by simp [Str.length]
theorem Xl {x y:Str}(h:x.cps.toList=y.cps.toList):x=y:=by
 cases x;cases y;simp at h;simp [h]
theorem Zbo (s e:Int)(i j:Nat)(hs:s=i)(he:e=j):sliceRange s e 1=(List.range (j - i)).map (i+·):=by
 subst hs he
 unfold sliceRange
 simp only [show (1:Int) > 0 by decide,if_true]
 have e3:(if (i:Int) < (j:Int) then ((j:Int) - i+1 - 1) / 1 else 0).toNat=j - i:=by
   split
   · rw [Int.ediv_one];omega
   · omega
 rw [e3]
 apply List.map_congr_left
 intro k hk
 omega
theorem XB (z:Str)(lo hi:Option Int):(Txt.slice z lo hi).cps.toList=(z.cps.toList.drop (HT.sIx z.length 0 lo)).take (HT.sIx z.length z.length hi - HT.sIx z.length 0 lo):=by
 have key:Builtin.Str.strSliceIndices lo hi 1 z.length=(List.range (HT.sIx z.length z.length hi - HT.sIx z.length 0 lo)).map (HT.sIx z.length 0 lo+·):=by
   unfold Builtin.Str.strSliceIndices
   refine Zbo _ _ _ _ ?_ ?_
   · cases lo with
     | none=>rfl
     | some i=>simp only [HT.sIx,show (1:Int) > 0 by decide,if_true];split<;>omega
   · cases hi with
     | none=>rfl
     | some i=>simp only [HT.sIx,show (1:Int) > 0 by decide,if_true];split<;>omega
 have hj:HT.sIx z.length z.length hi≤z.length:=HT.sIx_le _ _ (Nat.le_refl _) hi
 unfold Txt.slice
 rw [key]
 split
 · rename_i h
   simp only [beq_self_eq_true,Bool.true_and,List.length_map,List.length_range,beq_iff_eq] at h
   have h0:HT.sIx z.length 0 lo=0∨z.length=0:=by omega
   rcases h0 with h0 | h0
   · rw [h0] at h ⊢
     rw [List.drop_zero,h,ZL,List.take_length]
   · have e:z.cps.toList=[]:=List.eq_nil_of_length_eq_zero (by rw [← ZL];exact h0)
     rw [e];simp
 · show (List.filterMap (fun k=>z.cps[k]?) ((List.range _).map _)).toArray.toList=_
   rw [List.filterMap_map]
   generalize HT.sIx z.length 0 lo=i at *
   generalize HT.sIx z.length z.length hi - i=n at *
   have gen:∀ (n i:Nat),List.filterMap ((fun k=>z.cps[k]?) ∘ (i+·)) (List.range n)=(z.cps.toList.drop i).take n:=by
     intro n
     induction n with
     | zero=>intro i;simp
     | succ n ih =>
       intro i
       rw [List.range_succ,List.filterMap_append,ih,List.take_add_one,List.getElem?_drop]
       congr 1
       simp only [List.filterMap_cons,List.filterMap_nil,Function.comp,Array.getElem?_toList]
       cases z.cps[i+n]?<;>rfl
   rw [gen]
theorem UP (x y:Str):(x++y).cps.toList=x.cps.toList++y.cps.toList:=by
 show (x.cps++y.cps).toList=_
 simp
theorem YH (x y:Str):(x++y).length=x.length+y.length:=by rw [ZL,UP,List.length_append,← ZL,← ZL]
def ZaE (c:Nat):Bool:=decide (97≤c)&&decide (c≤122)
def WS (c:Nat):Bool:=decide (32≤c)&&decide (c≤126)
theorem Zbq {X:Cx}{K:PySem.W.Frag}(hK:X.K=K):Yj X (.builtin "len") (fun xs H Q=>∃ x n,xs=[x]∧ZbX K x H n∧Q (.int n) H):=by subst hK;exact ZcH
@[reducible] def notStar:Expr→Bool
 | .Starred ..=>false
 | _=>true
theorem ZcR {e:Expr}{es:List Expr}{env:Env}(h:notStar e=true):starEach (e::es) env=(false,eval e env)::starEach es env:=by
 cases e<;>first | rfl | cases h
section
variable {X:Cx}{k:Nat}{x:Str}{ps:List Str}{sp:Sp}{p pos:Pos}{e:Expr}{es:List Expr}{te:TE}{t:TA}
theorem YL (ha:PE X e te)(hr:PA X es t)(h:notStar e=true):PA X (e::es) (Xg te t):=ZS ha hr (ZcR h)
theorem Zc (ha:PE X e te)(hr:PA X es t)(h:notStar e=true:=by rfl):PA X (e::es) (Xg te t):=ZS ha hr (ZcR h)
end
end L2
namespace L2
open PySem PySem.Spec PyProof.Rows
section
variable {X:Cx}
theorem Zcz:Ye X (binaryOp .FloorDiv) (rI (fun _ j=>0 < j∧j < 2 ^ 62) fun i j=>.int (i / j)):=opI fun i j _ _ _ _ _ hc q=>by
 have h1:(0:Int) < j:=hc.1
 have h2:j < 2 ^ 62:=hc.2
 refine floordiv_int (by omega) (by rw [Int.fdiv_eq_ediv_of_nonneg i (by omega)];exact q) (.inl (PyProof.noPylong_of_log2 ?_))
 have h3:j.natAbs≠0:=by omega
 have h4:j.natAbs < 2 ^ 9000:=Nat.lt_of_lt_of_le (show j.natAbs < 2 ^ 62 by omega) (Nat.pow_le_pow_right (by decide) (by decide))
 exact (Nat.log2_lt h3).mpr h4
end
end L2
namespace L2
open PySem PySem.Spec PyProof.Rows
section
variable {X:Cx}
end
section
variable {X:Cx}{tg:Expr}
end
end L2
set_option maxHeartbeats 2000000
namespace L2
open PySem PySem.Spec PyProof.Rows
section
variable {prog:Program}{w:World}{A:Around}{E:Value→Shared→Prop}{s:Shared}
end
end L2
set_option maxHeartbeats 2000000
namespace L2
open PySem PySem.Spec PyProof.Rows
section
variable {prog:Program}{w:World}{A:Around}{E:Value→Shared→Prop}{s:Shared}
end
end L2
set_option maxHeartbeats 2000000
namespace L2
open PySem PySem.Spec PyProof.Rows
theorem Inv.turned2 {X:Cx}{pins:List (Addr×Obj)}{σ:St}{H:Hp}{s:Shared}{h':Heap}{t':Nat}{fp:List Addr}(I:Inv X pins σ H s)(k:∀ b o,b ∉ fp→s.heap.get? b=some o→h'.get? b=some o)(hf:∀ b∈fp,Yi X pins H b) :
   Inv X pins σ H { s with heap:=h',toks:=t' }:=by
 have nit:∀ b u,H b=some u→b ∉ fp:=fun b u e z=>by rw [(hf b z).1] at e;cases e
 refine I.step (g':=s.gens) (d':=s.drawn) (ch:=fp) (fun b hb=>?_) (fun b o _ _ hc e _=>k b o hc e) (fun b o _ _ hc e _=>⟨o.slots,k b o hc e⟩) (fun _ _ _ _ n=>n)
   (fun b o hc e=>⟨o,k b o hc e⟩) (fun _ _ e=>e) (fun _ _ _ e=>e) (fun b ps e=>⟨#[],by rw [e];simp⟩) (fun m hm=>?_) (fun b u e=>?_) I.bare
 · obtain ⟨f0,f1,f2,f3,f4,f5⟩:=hf b hb
   exact ⟨f3,f1,f4,f5⟩
 · obtain ⟨o,es,ep,ho,r⟩:=hm
   exact ⟨o,es,ep,k _ o (fun z=>(hf _ z).2.1 rfl) ho,r⟩
 · refine (I.hok b u e).stay (fun c v hc q=>k c v ?_ q) (fun _ q=>q) fun _ _ q=>q
   rcases hc with z | z
   · rw [z];exact nit b u e
   · exact nit c _ z
section
variable {X:Cx}
end
end L2
set_option maxHeartbeats 2000000
namespace L2
open PySem PySem.W PySem.Spec PyProof.Rows
section
variable {prog:Program}{w:World}{A:Around}{E:Value→Shared→Prop}{s:Shared}{a kS:Addr}{vs:List Value}{ks:List Str}{keys:Array Value}{e e1:Nat}{P:PySem.Fin→Shared→Prop}
end
end L2
set_option maxHeartbeats 2000000
namespace L2
open PySem PySem.W PySem.Spec PyProof.Rows
def Uq (base:Heap)(mg:Str→Option Value):Prop:=∃ bm ob,mg "__builtins__"=some (.ref bm)∧bm≠builtinsNs∧base.get? bm=some ob∧ob.cls=.type "module"∧ob.dict=some builtinsNs∧ob.data=.plain
def ZaH (ts:List Addr)(H:Hp):Prop:=∀ b,H b=none∨(∃ o xs,H b=some (.frz o (.lst xs)))∨(H b=some (.tbl #[])∧b∈ts)
theorem ZbG {P:Program}{w:World}{K:PySem.W.Frag}{mg mb:Str→Option Value}{CX:Xy}{k:Nat}{fa a:Addr}{fd:FuncData}{x:Str}{sp:Sp}{s₁:Shared}{vs:List Value}{ns:List Int}{ts:List Addr}
   (KX:K.In s₁.heap) (hns:s₁.heap.Ns mainGlobals mg) (hb:s₁.heap.Ns builtinsNs mb) (hbb:∀ x:Str,x≠"__name__"→mb x=bootBuiltins x) (hlim:s₁.heap.NoLimit) (hg:s₁.gens=#[]) (hbm:Uq s₁.heap mg)
   (ha:s₁.heap.get? a=some { cls:=.type "list",data:=.seq vs.toArray }) (hi:IntsAre vs ns) (hl:ns.length≤sizeLine) (hr:Room k callerA)
   (hts:∀ b∈ts,s₁.heap.get? b=some (tabObj #[])∧K.lookup b=none∧∃ c,CodeHd s₁.heap c b)
   (F:∀ base:Heap,K.In base→base.Ns mainGlobals mg→Uq base mg→FnOk P w K mg base CX k fa fd [x] sp) (hbind:∀ (s:Shared) (u:Value),BindsTo s fd ⟨[u],[]⟩ [(x,u)])
   (hsp:∀ H:Hp,ZaH ts H→SqL K H a (ns.map V.int)→(∀ b∈ts,H b=some (.tbl #[]))→sp [.ref a] H (fun v _=>v=.bl true) fun _ _ _=>False)
   (hCX:∀ H e s',CX [] H s₁ (fun _ _ _=>False) e s'→False) :
   codeAny (model P w) callerA (.call (.ref fa) ⟨[.ref a],[]⟩) (fun r s'=>r=.ok (.ret (.bool true))∧OldK s₁.heap s'.heap∧s'.os=s₁.os∧AllBare s'.gens) s₁:=by
 have rv:=UI hi
 have lenV:=hi.length
 have nta:a ∉ ts:=fun z=>by
   have e:=(hts a z).1
   rw [ha] at e;cases e
 have core : ∀ H:Hp,ZaH ts H→SqL K H a (ns.map V.int)→HOk P w H s₁.heap→(∀ b∈ts,H b=some (.tbl #[]))→(∀ b,H b≠none→b=a∨b∈ts)→(∀ b,H b≠none→K.lookup b=none) →
     codeAny (model P w) callerA (.call (.ref fa) ⟨[.ref a],[]⟩) (fun r s'=>r=.ok (.ret (.bool true))∧OldK s₁.heap s'.heap∧s'.os=s₁.os∧AllBare s'.gens) s₁:=by
   intro H hO hS hok hT hA hK
   have base_of:∀ {b:Addr} {o:Obj},s₁.heap.get? b=some o→H b=none→(XD s₁.heap H).get? b=some o:=fun y n=>ZcF y n
   have free:∀ {b:Addr} {o:Obj},s₁.heap.get? b=some o→(∀ its n,o.data≠.seq its n)→(∀ fs,o.data≠.fields fs)→H b=none:=fun {b o} y d1 d2=>by
     cases q:H b with
     | none=>rfl
     | some u =>
       rcases hA b (by rw [q];simp) with z | z
       · subst z
         rw [ha] at y;cases y
         exact absurd rfl (d1 _ _)
       · rw [(hts b z).1] at y;cases y
         exact absurd rfl (d2 _)
   have nsK:∀ {b:Addr} {m:Str→Option Value},s₁.heap.Ns b m→(XD s₁.heap H).Ns b m:=fun {b m} ⟨o,es,ep,y,d,r⟩=>⟨o,es,ep,base_of y (free y (fun its n z=>by rw [d] at z;cases z) fun fs z=>by rw [d] at z;cases z),d,r⟩
   have hKb:K.In (XD s₁.heap H):=fun b o y=>base_of (KX b o y) (by
     cases q:H b with
     | none=>rfl
     | some u=>rw [hK b (by rw [q];simp)] at y;cases y)
   have hBm:Uq (XD s₁.heap H) mg:=by
     obtain ⟨bm,ob,h1,h2,h3,h4,h5,h6⟩:=hbm
     exact ⟨bm,ob,h1,h2,base_of h3 (free h3 (fun its n z=>by rw [h6] at z;cases z) fun fs z=>by rw [h6] at z;cases z),h4,h5,h6⟩
   have hM:Mod K mg (XD s₁.heap H):=⟨hKb,nsK hns,⟨mb,nsK hb,hbb⟩,let ⟨mc,h1,h2⟩:=hlim;⟨mc,nsK h1,h2⟩⟩
   have e0:Vh P w K mg (XD s₁.heap H) callerA [] s₁ H:=⟨rfl,hM,fun b o e=>ZdE e,Nat.le_of_eq (ZbO _ _),trivial,fun b hb=>absurd (show b∈([]:List Addr) from hb) (by simp),hok,.of_eq hg⟩
   refine codeAny_mono ((F _ hKb (nsK hns) hBm).run callerA [] s₁ H ⟨[.ref a],[]⟩ [.ref a] [.ref a] _ _ hr e0 (hbind s₁ (.ref a)) (.cons rfl .nil) (hsp H hO hS hT)) fun r s' h=>?_
   cases r with
   | error e=>exact (hCX H e s' h).elim
   | ok fl =>
     cases fl with
     | next=>exact False.elim h
     | brk=>exact False.elim h
     | cont=>exact False.elim h
     | ret u =>
       obtain ⟨v,H',os,bare,un,hok',r',q⟩:=h
       have q':v=.bl true:=q
       subst q'
       obtain rfl:u=Value.bool true:=r'
       have key:∀ b o,s₁.heap.get? b=some o→s'.heap.get? b=some o∨(b∈ts∧∃ more:Array Value,s'.heap.get? b=some (tabObj (#[]++more))):=fun b o y=>by
         cases q:H b with
         | none=>exact .inl (un.keep b o y q (by intro z;exact absurd (show b∈([]:List Addr) from z) (by simp)) (by simp))
         | some u =>
           rcases hO b with z | ⟨ob,xs,z⟩ | ⟨z,zt⟩
           · rw [q] at z;cases z
           · have z2:=un.frzs b ob _ z
             obtain ⟨e1,_⟩:=hok b _ z
             obtain ⟨e2,_⟩:=hok' b _ z2
             rw [y] at e1;cases e1
             exact .inl e2
           · obtain ⟨more,z2⟩:=un.tbls b #[] z
             exact .inr ⟨zt,more,show s'.heap.get? b=some { cls:=.none,data:=.fields (#[]++more) } from hok' b _ z2⟩
       refine ⟨rfl,⟨fun b o y=>?_,fun b o y=>?_⟩,os,bare⟩
       · rcases key b o y with z | ⟨zt,more,z⟩
         · exact .inl z
         · obtain ⟨t1,_,c,t3⟩:=hts b zt
           rw [t1] at y;cases y
           exact .inr (.inl ⟨(t3.tab t1).isCodeTable,rfl,#[],more,rfl,z⟩)
       · rcases key b o y with z | ⟨zt,more,z⟩
         · exact ⟨_,z⟩
         · exact ⟨_,z⟩
 have okT:∀ (H:Hp) (b:Addr),b∈ts→ObjOk P w H s₁.heap b (.tbl #[]):=fun H b hb=>(hts b hb).1
 cases hk:K.lookup a with
 | some o =>
   have e:=KX a o hk
   rw [ha] at e
   cases e
   refine core (fun b=>if b∈ts then some (.tbl #[]) else none) (fun b=>?_) (.inr ⟨_,vs.toArray,_,hk,rfl,rfl,rfl,by rw [List.size_toArray,lenV];exact hl,by simpa using rv⟩) (fun b u z=>?_) (fun b hb=>if_pos hb) (fun b z=>?_) (fun b z=>?_)
   · by_cases hb:b∈ts
     · exact .inr (.inr ⟨if_pos hb,hb⟩)
     · exact .inl (if_neg hb)
   · by_cases hb:b∈ts
     · have z':=(if_pos hb).symm.trans z
       cases z'
       exact okT _ b hb
     · have z':=(if_neg hb).symm.trans z
       cases z'
   · by_cases hb:b∈ts
     · exact .inr hb
     · exact absurd (if_neg hb) z
   · by_cases hb:b∈ts
     · exact (hts b hb).2.1
     · exact absurd (if_neg hb) z
 | none =>
   refine core (fun b=>if b=a then some (.frz { cls:=.type "list",data:=.seq vs.toArray } (.lst (ns.map V.int))) else if b∈ts then some (.tbl #[]) else none) (fun b=>?_) (.inl (.inr ⟨{ cls:=.type "list",data:=.seq vs.toArray },if_pos rfl⟩)) (fun b u z=>?_)
     (fun b hb=>(if_neg (fun z:b=a=>nta (by rw [← z];exact hb))).trans (if_pos hb)) (fun b z=>?_) (fun b z=>?_)
   · by_cases h1:b=a
     · exact .inr (.inl ⟨_,_,if_pos h1⟩)
     · by_cases hb:b∈ts
       · exact .inr (.inr ⟨(if_neg h1).trans (if_pos hb),hb⟩)
       · exact .inl ((if_neg h1).trans (if_neg hb))
   · by_cases h1:b=a
     · have z':=(if_pos h1).symm.trans z
       cases z'
       subst h1
       exact ⟨ha,by rw [List.length_map];exact hl,vs,_,rv,ha⟩
     · have z1:=(if_neg h1).symm.trans z
       by_cases hb:b∈ts
       · have z':=(if_pos hb).symm.trans z1
         cases z'
         exact okT _ b hb
       · have z':=(if_neg hb).symm.trans z1
         cases z'
   · by_cases h1:b=a
     · exact .inl h1
     · by_cases hb:b∈ts
       · exact .inr hb
       · exact absurd ((if_neg h1).trans (if_neg hb)) z
   · by_cases h1:b=a
     · rw [h1];exact hk
     · by_cases hb:b∈ts
       · exact (hts b hb).2.1
       · exact absurd ((if_neg h1).trans (if_neg hb)) z
theorem walk_ofT {l:PySem.W.OpenLaw}{n k:Nat}{q:Program}{loose:List Str}{XP:(Str→Option Value)→Heap→Prop}{YP:World→Heap→Prop}{d:DefRec}{K:Params→PySem.W.Frag}{CX:World→Xy}{sp:World→Sp}{x:Str}{ts:List Addr}
   (hn:l.most=some n) (hn2:n≤sizeLine) (hdf:d.params.defaults=[]) (hr:Room k callerA)
   (hY:∀ (w:World) (h:Heap),YP w h→(K w.params).In h∧∀ b∈ts,h.get? b=some (tabObj #[]))
   (hK:∀ (w:World) (b:Addr),b∈ts→(K w.params).lookup b=none∧∃ c,codeHdIn (K w.params) c b=true)
   (F:∀ (w:World) (mg:Str→Option Value) (fa:Addr) (h:Heap),(K w.params).In h→h.Ns mainGlobals mg→mg d.name=some (.ref fa) →
     ∃ fd:FuncData,(∀ (s:Shared) (u:Value),BindsTo s fd ⟨[u],[]⟩ [(x,u)]) ∧
       ∀ base:Heap,(K w.params).In base→base.Ns mainGlobals mg→Uq base mg→FnOk l.prog w (K w.params) mg base (CX w) k fa fd [x] (sp w))
   (hsp:∀ (w:World) (H:Hp) (a:Addr) (ns:List Int),ns.length≤n→ZaH ts H→SqL (K w.params) H a (ns.map V.int)→(∀ b∈ts,H b=some (.tbl #[]))→sp w [.ref a] H (fun v _=>v=.bl true) fun _ _ _=>False)
   (hCX:∀ (w:World) (H:Hp) (s:Shared) (e:Value) (s':Shared),CX w [] H s (fun _ _ _=>False) e s'→False) :
   PySem.W.WalkO q loose XP YP l.row.toRowW d [] (fun f vs=>PySem.call f vs):=by
 refine Att.attach_call hn hdf fun w s₀ s₁ mg mb fa o pm cd doc a vs ns G Y ho hd hcd hmg hobj hints hlen hg=>?_
 obtain ⟨KX,hT⟩:=hY w _ Y
 obtain ⟨fd,hb,hF⟩:=F w mg fa _ KX G.T.g hmg
 exact ZbG (ts:=ts) KX G.T.g G.T.b G.T.builtins G.T.nolimit hg G.T.bmain hobj hints (Nat.le_trans hlen hn2) hr (fun b hb'=>⟨hT b hb',(hK w b hb').1,let ⟨c,hc⟩:=(hK w b hb').2;⟨c,codeHd_of_K KX hc⟩⟩) hF hb (fun H hO hS hTb=>hsp w H a ns hlen hO hS hTb) fun H e s'=>hCX w H s₁ e s'
end L2
set_option maxHeartbeats 2000000
namespace L2
open PySem PySem.W PySem.Spec PyProof.Rows
section
variable {prog:Program}{w:World}{A:Around}{E:Value→Shared→Prop}{s:Shared}
end
section
variable {X:Cx}{pins:List (Addr×Obj)}{σ:List (Option V)}{H:Hp}{s:Shared}{h':Heap}
end
section
variable {X:Cx}
end
end L2
set_option maxHeartbeats 4000000
namespace L2
open PySem PySem.W PySem.Spec PyProof.Rows
section
variable {prog:Program}{w:World}{A:Around}{E:Value→Shared→Prop}{s:Shared}
end
section
variable {prog:Program}{w:World}{A:Around}{R:Result→Shared→Prop}
end
section
variable {prog:Program}{w:World}{A:Around}{E:Value→Shared→Prop}{s:Shared}
end
section
variable {X:Cx}
end
end L2
set_option maxHeartbeats 2000000
namespace L2
open PySem PySem.W PySem.Spec PyProof.Rows
section
variable {X:Cx}{pins:List (Addr×Obj)}{σ:List (Option V)}{H H':Hp}{s:Shared}{h':Heap}
end
section
variable {X:Cx}
end
end L2
set_option maxHeartbeats 2000000
namespace L2
open PySem PySem.W PySem.Spec PyProof.Rows
section
variable {O:KeyOrd}{key:Nat→O.α}{n:Nat}{s:Shared}{cmp:Nat→Nat→(Bool→Shared→Prop)→Shared→Prop}
end
end L2
set_option maxHeartbeats 2000000
namespace L2
open PySem PySem.W PySem.Spec PyProof.Rows
section
variable {P:Program}{w:World}{K:PySem.W.Frag}{mg:Str→Option Value}{base:Heap}
end
structure TF (H H':Hp):Prop where
 tup:∀ b xs,H b=some (.tup xs)→H' b=some (.tup xs)
 frz:∀ b o u,H b=some (.frz o u)→H' b=some (.frz o u)
theorem Same.tf {H H':Hp}(h:Same H H'):TF H H':=⟨fun b _ e=>h b _ e,fun b _ _ e=>h b _ e⟩
theorem SqT.tf {K:PySem.W.Frag}{H H':Hp}{a:Addr}{xs:List V}(h:SqT K H a xs)(t:TF H H'):SqT K H' a xs:=by
 rcases h with (h | ⟨o,h⟩) | h
 · exact .inl (.inl (t.tup _ _ h))
 · exact .inl (.inr ⟨o,t.frz _ _ _ h⟩)
 · exact .inr h
end L2
set_option maxHeartbeats 2000000
namespace L2
open PySem
def UW (J:It)(tc:TT)(te:TE)(σ:St)(D:Addr)(Q:VK)(H1:Hp):Prop :=
 ∃ W : Nat→Nat→List V→Hp→Prop,(∃ m,W 0 m [] (upd H1 D (.lst [])))∧∀ i m ys H2,W i m ys H2 →
   (J.stop i H2∧Q (.ref D) H2)∨(J.go i H2∧∃ (N:VK) (M:Hp→Prop),(∀ y H4,N y H4→H4 D=some (.lst ys)∧ys.length < sizeLine∧∃ m',m' < m∧W (i+1) m' (ys++[y]) (upd H4 D (.lst (ys++[y]))))∧(∀ H4,M H4→∃ m',m' < m∧W (i+1) m' ys H4) ∧
     ∀ v H3,J.yld i H2 v H3→tc (σ++[some v]) H3 fun b H4=>if b=true then te (σ++[some v]) H4 N else M H4)
def Zbn (wi:TI)(tc:TT)(te:TE):TE:=fun σ H Q=>wi σ H fun J H1=>∀ D,H1 D=none→UW J tc te σ D Q H1
section
variable {X:Cx}{elt iter cnd:Expr}{x:Str}{px pos:Pos}{scope:Scope}{wi:TI}{te:TE}{tc:TT}
theorem XZ {prog:Program}{w:World}{A:Around}{R:Result→Shared→Prop}{s:Shared}{elt target iter cnd:Expr}{scope:Scope}{pos:Pos}{it acc:Value}{env:Env}(I:Nat→Shared→Prop)
   (turn : ∀ n s,I n s→wpAny (model prog w) A (pyNext it) (fun r s₁=>match r with
     | none=>R (.ok .next) s₁
     | some v=>wpAny (model prog w) A (letOwnedTupleGo target it v) (fun _ s1'=>wpAny (model prog w) A (assign target env v) (fun _ s₂=>wpAny (model prog w) A (isTrue cnd env (eval cnd env)) (fun ok s2'=>if ok=true then wpAny (model prog w) A (eval elt env) (fun x s₃ =>
         wpAny (model prog w) A (call (.builtin "list.append") [acc,x]) (fun _ s₄=>∃ m,m < n∧I m s₄) (fun _ _=>False) s₃)
         (fun _ _=>False) s2' else ∃ m,m < n∧I m s2') (fun _ _=>False) s₂) (fun _ _=>False) s1') (fun _ _=>False) s₁) (fun _ _=>False) s)
   (n:Nat) (h:I n s) :
   codeAny (model prog w) A (.compLoop (.ListComp elt [⟨target,iter,[cnd],0⟩] scope pos) 0 it acc env) R s:=by
 refine codeAny_loop rfl I (fun n s hI=>?_) n h
 show wpAny _ _ ((compTurn (.ListComp elt [⟨target,iter,[cnd],0⟩] scope pos) 0 it acc env).onRaise (fun x=>do noteFrame x env;theTreesLotGoes x)) _ _ s
 refine wpAny_noted ?_
 rw [compTurn_list]
 refine wpAny_bind (wpAny_standAt (wpAny_bind (wpAny_mono (turn n s hI) (fun r s₁ h₁=>?_) fun _ _ h'=>h'.elim)))
 cases r with
 | none=>exact wpAny_pure h₁
 | some v =>
   refine wpAny_bind (wpAny_mono h₁ (fun _ s1' h1'=>?_) fun _ _ h'=>h'.elim)
   refine wpAny_bind (wpAny_mono h1' (fun _ s₂ h₂=>wpAny_bind (wpAny_tests_one (wpAny_mono h₂ (fun ok s₃ h₃=>?_) fun _ _ h'=>h'.elim))) fun _ _ h'=>h'.elim)
   cases ok with
   | false=>exact wpAny_pure ⟨rfl,h₃⟩
   | true =>
     exact wpAny_bind (wpAny_bind (wpAny_mono h₃ (fun x s₄ h₄=>wpAny_bind (wpAny_mono h₄ (fun _ s₅ h₅=>wpAny_pure (wpAny_pure ⟨rfl,h₅⟩)) fun _ _ h'=>h'.elim)) fun _ _ h'=>h'.elim))
theorem WD {pins:List (Addr×Obj)}{σ:St}{H2:Hp}{s₂:Shared}{J:It}{fp:List Addr}{it:Addr}{tn:Nat→Heap→Prop}{cl:List (Str×Addr)}{E:Value→Shared→Prop}{Q:VK}{RR:Value→Addr→Result→Shared→Prop}
   (O:CompOk X scope x) (hc:X.calm=true) (cl1:∀ y c,cl.lookup y=some c→X.env.cells.lookup y=some c) (cl2:∀ y∈scope.names,y.2=.free→cl.lookup y.1≠none)
   (hcn:∀ cl C s₀ H₀ fp,PT (ZB X scope x cl C s₀ H₀ fp) cnd tc) (he:∀ cl C s₀ H₀ fp,PE (ZB X scope x cl C s₀ H₀ fp) elt te)
   (I2:Inv X pins σ H2 s₂) (T:XT X.prog X.w X.K (.Name x px) J fp it tn) (st:tn 0 s₂.heap) (f2:∀ b∈fp,Yi X pins H2 b)
   (h:∀ D,H2 D=none→UW J tc te σ D Q H2)
   (hRR:∀ D C H' s',Inv X pins σ H' s'→Yi X pins H' C→(∃ m,s'.heap.Ns C m)→Q (.ref D) H'→RR (.ref D) C (.ok .next) s') :
   wpAny (model X.prog X.w) X.A (newList []) (fun acc s₃=>wpAny (model X.prog X.w) X.A (newFunctionEnv scope X.env.globals cl [] X.env.qual none .none (some X.env)) (fun cenv s₄ =>
     codeAny (model X.prog X.w) X.A (.compStart (.ListComp elt [⟨.Name x px,iter,[cnd],0⟩] scope pos) 0 (.ref it) acc { cenv with scope:=relabel scope X.env }) (RR acc cenv.locals) s₄) E s₃) E s₂:=by
 have hD:H2 s₂.heap.objs.size=none:=I2.hok.fresh (Nat.le_refl _)
 refine wpAny_newObj_type ?_
 have I3:Inv X pins σ (upd H2 s₂.heap.objs.size (.lst [])) { s₂ with heap:=s₂.heap.push { cls:=.type "list",data:=.seq ([]:List Value).toArray } } :=
   I2.laid (t':=s₂.toks) (fun b u e=>Heap.get?_push_of_some _ e) (Nat.le_refl _) ⟨Nat.zero_le _,[],_,.nil,Heap.get?_push_size _ rfl⟩
 have f3:∀ b∈fp,Yi X pins (upd H2 s₂.heap.objs.size (.lst [])) b:=fun b hb=>by
   obtain ⟨g0,g1⟩:=f2 b hb
   obtain ⟨o,e,_⟩:=T.obj 0 _ st b hb
   exact ⟨by rw [Zp (Nat.ne_of_lt (Heap.lt_size e))];exact g0,g1⟩
 have st3:tn 0 (s₂.heap.push { cls:=.type "list",data:=.seq ([]:List Value).toArray }):=T.keep _ _ _ st fun b hb o e=>Heap.get?_push_of_some _ e
 obtain ⟨W,⟨m0,w0⟩,turn⟩:=h _ hD
 generalize hDe:s₂.heap.objs.size=D at I3 f3 w0 turn ⊢
 generalize hH3:upd H2 D (.lst [])=H3 at I3 f3 w0 turn ⊢
 generalize hs3:({ s₂ with heap:=s₂.heap.push { cls:=.type "list",data:=.seq ([]:List Value).toArray } }:Shared)=s₃ at I3
 have st3':tn 0 s₃.heap:=by rw [← hs3];exact st3
 have hobj:∀ b∈fp,b < s₃.heap.objs.size:=fun b hb=>by
   obtain ⟨o,e,_⟩:=T.obj 0 _ st3' b hb
   exact Heap.lt_size e
 refine wpAny_newFunctionEnv O.cell (by intro y hy;simp at hy) (fun h₁ hns₁ hsb₁=>?_) O.kind
 have old:∀ b o,s₃.heap.get? b=some o→h₁.get? b=some o:=fun b o e=>hsb₁.extBut b o (Nat.ne_of_lt (Heap.lt_size e)) (Heap.get?_push_of_some _ e)
 generalize hs4:({ s₃ with heap:=h₁,toks:=s₃.toks+([]:List (Str×Value)).length }:Shared)=s₄
 have h4:s₄.heap=h₁:=by rw [← hs4]
 have hX:∀ C,Yi X pins C s₃.heap.objs.size→True:=fun _ _=>trivial
 have ok':(ZB X scope x cl s₃.heap.objs.size s₃ H3 fp).Ok:=by
   refine ⟨I3.ok.mod,O.kind,I3.ok.glob,I3.ok.blt,Nat.le_refl _,?_,?_,?_,I3.ok.hd,I3.ok.frames,.inl rfl,?_,I3.bs,Nat.le_trans I3.ok.bsz I3.sz,?_,?_,I3.stack,I3.stkFree⟩
   · exact fun y z c e1 e2=>I3.ok.inj y z c (cl1 y c e1) (cl1 z c e2)
   · intro y hk
     have hf:scope.names.lookup y=some .free:=by
       rcases hk with hk | hk
       · rcases Zv O.cell hk with q | q
         · exact absurd rfl (O.cell _ (mem_of_lookup q))
         · exact q.1
       · rcases Zv O.cell hk with q | q
         · exact q
         · cases q.2
     have:=cl2 _ (mem_of_lookup hf) rfl
     cases e:cl.lookup y with
     | none=>exact absurd e this
     | some c=>exact ⟨c,e⟩
   · intro y c hf;cases hf
   · intro b hb
     obtain ⟨g0,g1,g2,g3,g4,g5⟩:=f3 b hb
     exact ⟨Nat.ne_of_lt (hobj b hb),fun y c e=>g4 y c (cl1 y c e)⟩
   · intro b o e hb
     obtain ⟨g0,g1,g2,g3,g4,g5⟩:=f3 b hb
     rcases g3 with g3 | g3
     · exact I3.ok.noex b o e g3
     · exact absurd (Heap.lt_size e) (Nat.not_lt.mpr (Nat.le_trans I3.ok.bsz g3))
   · intro b hb hs
     obtain ⟨g0,g1,g2,g3,g4,g5⟩:=f3 b hb
     rcases List.mem_cons.mp (I3.stkSub b hs) with e | e
     · exact g1 e
     · exact g2 e
 have I4 : Inv (ZB X scope x cl s₃.heap.objs.size s₃ H3 fp) [] (σ++[none]) H3 s₄:=by
   obtain ⟨m,hm,hl⟩:=I3.loc
   refine ⟨ok',by rw [← hs4];rfl,by rw [← hs4];exact I3.bare,by rw [h4];exact Un.kept old,⟨_,by rw [h4];exact hns₁,?_⟩,?_,I3.hok.fresh (Nat.le_refl _),fun y c e=>I3.freeC y c (cl1 y c e),?_,by rw [h4];exact I3.hok.kept old,?_⟩
   · intro i y v e1 e2 e3
     have hlt:i < σ.length:=by
       rcases Nat.lt_or_ge i σ.length with z | z
       · exact z
       · rw [List.getElem?_append_right z] at e2
         cases e:i - σ.length with
         | zero=>rw [e] at e2;simp at e2
         | succ k=>rw [e] at e2;simp at e2
     rw [List.getElem?_append_left hlt] at e2
     have hsm:∃ k,scope.names.lookup y=some k:=by
       rcases e3 with hk | hk | hk
       · rcases Zv O.cell hk with q | q
         · exact ⟨_,q⟩
         · exact ⟨_,q.1⟩
       · rcases Zv O.cell hk with q | q
         · exact ⟨_,q⟩
         · exact ⟨_,q.1⟩
       · rcases Zv O.cell hk with q | q
         · exact ⟨_,q⟩
         · exact ⟨_,q.1⟩
     obtain ⟨e1',hyx⟩:X.N[i]?=some y∧y≠x:=by
       have e1:(Xu X.N x++[x])[i]?=some y:=e1
       rw [List.getElem?_append_left (by rw [Xk,← I3.len];exact hlt)] at e1
       rcases VW e1 with z | z
       · exact z
       · obtain ⟨k,hk⟩:=hsm
         rw [z,O.noh] at hk;cases hk
     have hy:y∈X.N:=List.mem_of_getElem? e1'
     have hf:scope.names.lookup y=some .free:=by
       rcases e3 with hk | hk | hk
       · rcases Zv O.cell hk with q | q
         · exact absurd q (O.own y hy hyx)
         · exact q.1
       · rcases Zv O.cell hk with q | q
         · exact absurd rfl (O.cell _ (mem_of_lookup q))
         · exact q.1
       · rcases Zv O.cell hk with q | q
         · exact q
         · exact q.1
     have hk:=O.clos _ (mem_of_lookup hf) rfl
     have hv:Vis X.env.scope y:=by rcases hk with z | z;exact .inr (.inl z);exact .inr (.inr z)
     obtain ⟨u,ru,lu⟩:=hl i y v e1' e2 hv
     refine ⟨u,ru,?_⟩
     have hkc:(compEnvC scope cl s₃.heap.objs.size X.env).kindOf y=some .cell∨(compEnvC scope cl s₃.heap.objs.size X.env).kindOf y=some .free:=by
       rcases e3 with q | q | q
       · rcases Zv O.cell q with z | z
         · exact absurd z (O.own y hy hyx)
         · cases z.2
       · exact .inl q
       · exact .inr q
     rcases lu with ⟨q,_⟩ | ⟨_,c,hcl,hcc⟩
     · rcases hk with z | z<;>(rw [q] at z;cases z)
     · refine .inr ⟨hkc,?_⟩
       cases e:cl.lookup y with
       | none=>exact absurd e (cl2 _ (mem_of_lookup hf) rfl)
       | some c' =>
         have:=cl1 y c' e
         rw [hcl] at this
         cases this
         refine ⟨c,e,?_⟩
         rw [h4]
         obtain ⟨oc,ho,hd⟩:=hcc
         exact ⟨oc,old _ _ ho,hd⟩
   · intro y c e
     obtain ⟨v,oc,ho,hd⟩:=I3.cell y c (cl1 y c e)
     exact ⟨v,oc,by rw [h4];exact old _ _ ho,hd⟩
   · intro p hp;cases hp
   · show (σ++[none]).length=(Xu X.N x++[x]).length
     rw [List.length_append,List.length_append,Xk,I3.len];rfl
 have st4:tn 0 s₄.heap:=by rw [h4];exact T.keep _ _ _ st3' fun b hb o e=>old b o e
 have fpok:∀ {H':Hp},(∀ b∈fp,H' b=none)→∀ b∈fp,Yi (ZB X scope x cl s₃.heap.objs.size s₃ H3 fp) [] H' b:=fun hn b hb=>by
   obtain ⟨g0,g1,g2,g3,g4,g5⟩:=f3 b hb
   refine ⟨hn b hb,Nat.ne_of_lt (hobj b hb),ok'.exfs b hb,.inl hb,fun y c e=>g4 y c (cl1 y c e),?_⟩
   intro p hp;cases hp
 have loop:codeAny (model X.prog X.w) X.A (.compLoop (.ListComp elt [⟨.Name x px,iter,[cnd],0⟩] scope pos) 0 (.ref it) (.ref D) (compEnvC scope cl s₃.heap.objs.size X.env)) (RR (.ref D) s₃.heap.objs.size) s₄:=by
   refine XZ (fun n s'=>∃ i ys w' H',Inv (ZB X scope x cl s₃.heap.objs.size s₃ H3 fp) [] (σ++[w']) H' s'∧tn i s'.heap∧(∀ b∈fp,H' b=none)∧W i n ys H') ?_ m0 ⟨0,[],none,H3,I4,st4,fun b hb=>(f3 b hb).1,w0⟩
   rintro n s5 ⟨i,ys,w',H5,I5,st5,fr5,w5⟩
   rcases turn i n ys H5 w5 with ⟨stop,q⟩ | ⟨go,N,M,hN,hM,step⟩
   · refine Zm (T.done (ZB X scope x cl s₃.heap.objs.size s₃ H3 fp) rfl rfl rfl hc i [] s5 _ H5 _ I5 (fpok fr5) st5 stop) fun r s6 ⟨hr,I6⟩=>?_
     subst hr
     obtain ⟨m6,hn6,_⟩:=I6.loc
     have IX:Inv X pins σ H5 s6:=I3.call' (ch:=fp) I6.os I6.base I6.hok I6.bare fun b hb=>by
       obtain ⟨g0,g1,g2,g3,g4,g5⟩:=f3 b hb
       exact ⟨g3,g1,g4,g5⟩
     exact hRR D _ H5 s6 IX (I3.fpOk (Nat.le_refl _) I6.free) ⟨m6,hn6⟩ q
   · refine Zm (T.item (ZB X scope x cl s₃.heap.objs.size s₃ H3 fp) rfl rfl rfl hc i [] s5 _ H5 _ I5 (fpok fr5) st5 go) fun r s6 ⟨u,hr,h6⟩=>?_
     subst hr
     refine Zm h6 fun _ s7 ⟨v,H7,I7,r7,y7,st7,fr7⟩=>?_
     have I7':=I7.pinned (fpok fr7) (T.obj _ _ st7)
     have hixN:(ZB X scope x cl s₃.heap.objs.size s₃ H3 fp).N[σ.length]?=some x:=by
       show (Xu X.N x++[x])[σ.length]?=some x
       rw [I3.len,← Xk X.N x];simp
     refine Zm (ZV (X:=ZB X scope x cl s₃.heap.objs.size s₃ H3 fp) (pos:=px) O.nd hixN (.inl (lookup_relabel_local O.loc)) (.inr (lookup_relabel_local O.loc)) _ s7 _ H7 v u (fun σ' H'=>σ'=σ++[some v]∧H'=H7) I7' r7 ⟨by simp,rfl⟩) fun _ s8 ⟨σ8,H8,I8,e8,e8'⟩=>?_
     subst e8 e8'
     refine Zm (hcn cl s₃.heap.objs.size s₃ H3 fp _ s8 _ H8 _ I8 (step v H8 y7)) fun bb s8b ⟨H8b,I8b,q8b⟩=>?_
     cases bb with
     | false =>
       obtain ⟨m',hm',w9⟩:=hM H8b q8b
       refine ⟨m',hm',i+1,ys,some v,_,I8b.unpinned (pins:=[]),T.keep _ _ _ st7 fun b hb o e=>(I8b.pin (b,o) (List.mem_append_right _ (List.mem_append_right _ (Yb hb e)))).1,fun b hb=>?_,w9⟩
       obtain ⟨o,e,d⟩:=T.obj _ _ st7 b hb
       exact (I8b.pin (b,o) (List.mem_append_right _ (List.mem_append_right _ (Yb hb e)))).2.1
     | true =>
       refine Zm (he cl s₃.heap.objs.size s₃ H3 fp _ s8b _ H8b _ I8b q8b) fun uy s9 ⟨y,H9,I9,r9,n9⟩=>?_
       obtain ⟨hl9,hz9,m',hm',w9⟩:=hN y H9 n9
       refine Zm (Ya (X:=ZB X scope x cl s₃.heap.objs.size s₃ H3 fp) _ s9 _ H9 (.ref D) [y] (.ref D) [uy] (fun v H'=>H'=upd H9 D (.lst (ys++[y]))) I9 rfl (.cons r9 .nil) ⟨D,ys,y,rfl,rfl,hl9,hz9,rfl⟩) fun _ s10 ⟨_,H10,I10,_,e10⟩=>?_
       subst e10
       refine ⟨m',hm',i+1,ys++[y],some v,_,I10.unpinned (pins:=[]),T.keep _ _ _ st7 fun b hb o e=>(I10.pin (b,o) (List.mem_append_right _ (List.mem_append_right _ (Yb hb e)))).1,fun b hb=>?_,w9⟩
       obtain ⟨o,e,d⟩:=T.obj _ _ st7 b hb
       exact (I10.pin (b,o) (List.mem_append_right _ (List.mem_append_right _ (Yb hb e)))).2.1
 exact codeAny_compStart_list loop (T.self _ 0 _ _ _ st4 loop)
theorem VM (O:CompOk X scope x)(hc:X.calm=true)(hi:PI X (.Name x px) iter wi)(hcn:∀ cl C s₀ H₀ fp,PT (ZB X scope x cl C s₀ H₀ fp) cnd tc)(he:∀ cl C s₀ H₀ fp,PE (ZB X scope x cl C s₀ H₀ fp) elt te)
   (hs:∀ v,foldedSetIterable iter X.env v=pure v:=by intro _;rfl):PE X (.ListComp elt [⟨.Name x px,iter,[cnd],0⟩] scope pos) (Zbn wi tc te):=by
 intro pins s σ H Q I h
 obtain ⟨cl,hcl,cl1,cl2⟩:=XL (scope:=scope) (env:=X.env) fun y hy hf=>I.ok.has _ (O.clos y hy hf)
 rw [eval_ListComp]
 refine wpAny_comprehension_free (use:=none) rfl hs hcl O.kind O.names (Zm (hi pins s σ H _ I h) fun v s1 h1=>Zm h1 fun itv s2 h2=>?_)
 obtain ⟨it,fp,tn,J,H2,e,I2,T,st2,f2,q⟩:=h2
 subst e
 refine WD (RR:=fun acc C=>compPost (model X.prog X.w) X.A X.xe none (EP X pins σ Q) acc C) O hc cl1 cl2 hcn he I2 T st2 f2 q ?_
 intro D C H' s' I' ⟨g0,g1,g2,g3,g4,g5⟩ ⟨m,hm⟩ hq
 exact ⟨m,hm,fun h' hs'=>⟨.ref D,H',I'.turned (t':=s'.toks) (fun b o hb e=>(hs'.2 b hb).trans e) g0 g1 g3 g4 g5,rfl,hq⟩⟩
theorem VP {i:Nat}{y:Str}{py spos:Pos}(O:CompOk X scope x)(hc:X.calm=true)(hN:X.N.Nodup)(hiN:X.N[i]?=some y)(hy:Loc X.env.scope y)(hi:PI X (.Name x px) iter wi)(hcn:∀ cl C s₀ H₀ fp,PT (ZB X scope x cl C s₀ H₀ fp) cnd tc)(he:∀ cl C s₀ H₀ fp,PE (ZB X scope x cl C s₀ H₀ fp) elt te)
   (hsw:swapsWith (.ListComp elt [⟨.Name x px,iter,[cnd],0⟩] scope pos) (some (.Name y py)) spos.line X.env=pure true) (hf:X.fn y=true∨X.env.scope.names.lookup y=some .local:=by first | exact .inl rfl | exact .inr rfl | assumption)
   (hs:∀ v,foldedSetIterable iter X.env v=pure v:=by intro _;rfl):PS X (.Assign [.Name y py] (.ListComp elt [⟨.Name x px,iter,[cnd],0⟩] scope pos) spos) (ZaX (Zbn wi tc te) (Vb i)):=by
 intro pins s σ H D I h
 obtain ⟨cl,hcl,cl1,cl2⟩:=XL (scope:=scope) (env:=X.env) fun y hy hf=>I.ok.has _ (O.clos y hy hf)
 rw [exec_Assign_Name_used _ _ _ _ hsw]
 refine wpAny_bind (wpAny_standAt (wpAny_bind ?_))
 show wpAny _ X.A (do let _ ← comprehension (.ListComp elt [⟨.Name x px,iter,[cnd],0⟩] scope pos) scope X.env _ (newList []) false (eval iter X.env) (some (assign (.Name y py) X.env))) _ _ s
 refine wpAny_bind (wpAny_mono (wpAny_comprehension_free (use:=some (assign (.Name y py) X.env)) (Q:=fun _ s'=>SP X pins D .next s') rfl hs hcl O.kind O.names
   (Zm (hi pins s σ H _ I h) fun v s1 h1=>Zm h1 fun itv s2 h2=>?_)) (fun _ s' hq=>wpAny_pure (wpAny_pure hq)) fun _ _ e=>e)
 obtain ⟨it,fp,tn,J,H2,e,I2,T,st2,f2,q⟩:=h2
 subst e
 refine WD (RR:=fun acc C=>compPost (model X.prog X.w) X.A X.xe (some (assign (.Name y py) X.env)) (fun _ s'=>SP X pins D .next s') acc C) O hc cl1 cl2 hcn he I2 T st2 f2 q ?_
 intro Dl C H' s' I' ⟨g0,g1,g2,g3,g4,g5⟩ ⟨m,hm⟩ hq
 show wpAny _ X.A (assign (.Name y py) X.env (.ref Dl)) _ _ _
 refine wpAny_assign_Name (UH I' hN hiN hy (v:=.ref Dl) rfl (fun s'' I'' ⟨a,sb,ha⟩=>?_) hf)
 have haC:C≠a:=by
   rcases ha with z | z
   · rw [z];exact g1
   · exact fun z'=>g4 y a z z'.symm
 exact ⟨m,hm.sameBut sb haC,fun h' hs'=>⟨_,H',I''.turned (t':=s''.toks) (fun b o hb e=>(hs'.2 b hb).trans e) g0 g1 g3 g4 g5,hq⟩⟩
end
theorem UN {K:PySem.W.Frag}{a:Addr}{xs:List V}{tc:TT}{te:TE}{σ:St}{D:Addr}{Q:VK}{H:Hp}(hn:xs.length≤sizeLine)(Pv:Nat→List V→Hp→Prop)(h0:Pv 0 [] (upd H D (.lst [])))
   (hl:∀ i ys H,Pv i ys H→ys.length≤i∧SqT K H a xs)
   (hs:∀ i x ys H,xs[i]?=some x→Pv i ys H→tc (σ++[some x]) H fun b H3=>if b=true then te (σ++[some x]) H3 fun y H4=>H4 D=some (.lst ys)∧Pv (i+1) (ys++[y]) (upd H4 D (.lst (ys++[y]))) else Pv (i+1) ys H3) (hd:∀ ys H,Pv xs.length ys H→Q (.ref D) H):UW (Itt K a) tc te σ D Q H:=by
 refine ⟨fun i m ys H=>m=xs.length - i∧i≤xs.length∧Pv i ys H,⟨xs.length,by simp,Nat.zero_le _,h0⟩,?_⟩
 rintro i m ys H2 ⟨rfl,hi,p⟩
 obtain ⟨hlen,q⟩:=hl i ys _ p
 by_cases hlt:i < xs.length
 · refine .inr ⟨⟨xs,xs[i],q,by simp [hlt]⟩,_,_,fun y H4 (q:H4 D=some (.lst ys)∧Pv (i+1) (ys++[y]) (upd H4 D (.lst (ys++[y]))))=>⟨q.1,by omega,xs.length - (i+1),by omega,rfl,hlt,q.2⟩,fun H4 (q:Pv (i+1) ys H4)=>⟨xs.length - (i+1),by omega,rfl,hlt,q⟩,fun v H3 y=>?_⟩
   obtain ⟨e,y⟩:=y
   subst e
   exact hs i v ys _ (y xs q) p
 · have e:i=xs.length:=by omega
   subst e
   exact .inl ⟨⟨xs,q,Nat.le_refl _⟩,hd ys H2 p⟩
theorem ZaW {K:PySem.W.Frag}{a:Addr}{xs:List V}{tc:TT}{te:TE}{σ:St}{D:Addr}{Q:VK}{H:Hp}(hn:xs.length≤sizeLine)(Pv:Nat→List V→Hp→Prop)(h0:Pv 0 [] (upd H D (.lst [])))
   (hl:∀ i ys H,Pv i ys H→ys.length≤i∧SqL K H a xs)
   (hs:∀ i x ys H,xs[i]?=some x→Pv i ys H→tc (σ++[some x]) H fun b H3=>if b=true then te (σ++[some x]) H3 fun y H4=>H4 D=some (.lst ys)∧Pv (i+1) (ys++[y]) (upd H4 D (.lst (ys++[y]))) else Pv (i+1) ys H3) (hd:∀ ys H,Pv xs.length ys H→Q (.ref D) H):UW (Itl K a) tc te σ D Q H:=by
 refine ⟨fun i m ys H=>m=xs.length - i∧i≤xs.length∧Pv i ys H,⟨xs.length,by simp,Nat.zero_le _,h0⟩,?_⟩
 rintro i m ys H2 ⟨rfl,hi,p⟩
 obtain ⟨hlen,q⟩:=hl i ys _ p
 by_cases hlt:i < xs.length
 · refine .inr ⟨⟨xs,xs[i],q,by simp [hlt]⟩,_,_,fun y H4 (q:H4 D=some (.lst ys)∧Pv (i+1) (ys++[y]) (upd H4 D (.lst (ys++[y]))))=>⟨q.1,by omega,xs.length - (i+1),by omega,rfl,hlt,q.2⟩,fun H4 (q:Pv (i+1) ys H4)=>⟨xs.length - (i+1),by omega,rfl,hlt,q⟩,fun v H3 y=>?_⟩
   obtain ⟨e,y⟩:=y
   subst e
   exact hs i v ys _ (y xs q) p
 · have e:i=xs.length:=by omega
   subst e
   exact .inl ⟨⟨xs,q,Nat.le_refl _⟩,hd ys H2 p⟩
end L2
set_option maxHeartbeats 2000000
namespace L2
open PySem PySem.Spec PyProof.Rows
def hid2 (N:List Str)(xa xb:Str):List Str:=Xu (Xu N xa) xb
section
variable {X:Cx}{elt iter tg:Expr}{xa xb:Str}{pos:Pos}{scope:Scope}{wi:TI}{te:TE}{g:TG}
end
end L2
set_option maxHeartbeats 2000000
namespace L2
open PySem PySem.Spec PyProof.Rows
end L2
set_option maxHeartbeats 2000000
namespace L2
open PySem PySem.Spec PyProof.Rows
section
variable {X:Cx}{elt iter tg cnd:Expr}{xa xb:Str}{pos:Pos}{scope:Scope}{wi:TI}{te:TE}{tc:TT}{g:TG}
end
end L2
set_option maxHeartbeats 1000000
namespace L2
open PySem
def ZQ:HO→Bool
 | .tup _=>false
 | .frz _ _=>false
 | .own _=>false
 | .met _ _=>false
 | .rng _ _=>false
 | .ext _=>false
 | _=>true
def UE (H h:Hp):Hp:=fun b=>match h b with
 | some o=>if ZQ o=true then none else H b
 | none=>H b
def one (p:Addr)(o:HO):Hp:=fun b=>if b=p then some o else none
theorem one_some {p b:Addr}{o u:HO}:one p o b=some u↔b=p∧o=u:=by
 unfold one
 by_cases h:b=p
 · rw [if_pos h];exact ⟨fun z=>⟨h,Option.some.inj z⟩,fun z=>by rw [z.2]⟩
 · rw [if_neg h];exact ⟨fun z=>(by cases z),fun z=>absurd z.1 h⟩
abbrev Yn:=Addr→Hp→Prop
abbrev Rs:=List (Addr×Yn)
def Sep:Rs→Hp→Prop
 | [],_=>True
 | (a,R)::Δ,H=>∃ h,Same h H∧R a h∧Sep Δ (UE H h)
theorem cut_some {H h:Hp}{b:Addr}{o:HO}:UE H h b=some o↔H b=some o∧∀ u,h b=some u→ZQ u=false:=by
 unfold UE
 cases e:h b with
 | none=>exact ⟨fun z=>⟨z,fun u q=>by cases q⟩,fun z=>z.1⟩
 | some v =>
   cases m:ZQ v with
   | true=>show (if ZQ v=true then none else H b)=some o↔_;rw [if_pos m];exact ⟨fun z=>(by cases z),fun z=>(by have:=z.2 v rfl;rw [m] at this;cases this)⟩
   | false=>show (if ZQ v=true then none else H b)=some o↔_;rw [if_neg (by rw [m];decide)];exact ⟨fun z=>⟨z,fun u q=>(by cases q;exact m)⟩,fun z=>z.1⟩
theorem Zbz {H h:Hp}:Same (UE H h) H:=fun b o e=>(cut_some.mp e).1
theorem Zcl {H H' h:Hp}(s:Same H H'):Same (UE H h) (UE H' h):=fun b o e=>let ⟨x,y⟩:=cut_some.mp e;cut_some.mpr ⟨s _ _ x,y⟩
theorem Sep.mono:∀{Δ:Rs}{H H':Hp},Sep Δ H→Same H H'→Sep Δ H'
 | [],_,_,_,_=>trivial
 | (_,_)::_,_,_,⟨h,l,r,S⟩,s=>⟨h,l.trans s,r,S.mono (Zcl s)⟩
theorem Sep.swap {a b:Addr}{R T:Yn}{Δ:Rs}{H:Hp}(S:Sep ((a,R)::(b,T)::Δ) H):Sep ((b,T)::(a,R)::Δ) H:=by
 obtain ⟨h,l,r,g,m,t,S⟩:=S
 refine ⟨g,m.trans Zbz,t,h,fun c o e=>cut_some.mpr ⟨l _ _ e,fun u q=>?_⟩,r,S.mono fun c o e=>?_⟩
 · obtain ⟨q1,q2⟩:=cut_some.mp (m _ _ q)
   have e2:=l _ _ e
   rw [q1] at e2;cases e2
   exact q2 _ e
 · obtain ⟨e1,e2⟩:=cut_some.mp e
   obtain ⟨e3,e4⟩:=cut_some.mp e1
   exact cut_some.mpr ⟨cut_some.mpr ⟨e3,e2⟩,e4⟩
theorem Sep.tail {a:Addr}{R:Yn}{Δ:Rs}{H:Hp}(S:Sep ((a,R)::Δ) H):Sep Δ H:=by
 obtain ⟨h,l,r,S⟩:=S
 exact S.mono Zbz
class Pull (a:Addr) (Δ:Rs) (R:outParam Yn) (Δ':outParam Rs):Prop where
 out:∀ {H},Sep Δ H→Sep ((a,R)::Δ') H
instance (priority:=1000) Pull.here {a:Addr} {R:Yn} {Δ:Rs}:Pull a ((a,R)::Δ) R Δ:=⟨fun S=>S⟩
instance (priority:=900) Pull.there {a b:Addr} {R T:Yn} {Δ Δ':Rs} [P:Pull a Δ R Δ']:Pull a ((b,T)::Δ) R ((b,T)::Δ') :=
 ⟨fun S=>by
   obtain ⟨h,l,r,S⟩:=S
   exact Sep.swap ⟨h,l,r,P.out S⟩⟩
theorem Sep.pull {Δ Δ':Rs}{H:Hp}{R:Yn}(S:Sep Δ H)(a:Addr)[P:Pull a Δ R Δ']:Sep ((a,R)::Δ') H:=P.out S
theorem Sep.drop {Δ Δ':Rs}{H:Hp}{R:Yn}(S:Sep Δ H)(a:Addr)[P:Pull a Δ R Δ']:Sep Δ' H:=(P.out S).tail
class Up (R:Yn):Prop where
 up:∀ {a:Addr} {H H':Hp},R a H→Same H H'→R a H'
theorem Sep.get {Δ Δ':Rs}{H:Hp}{R:Yn}(S:Sep Δ H)(a:Addr)[P:Pull a Δ R Δ'][U:Up R]:R a H:=by
 obtain ⟨h,l,r,_⟩:=P.out S
 exact U.up r l
def Pt (o:HO):Yn:=fun a h=>h a=some o
abbrev Wy (xs:List V):Yn:=Pt (.lst xs)
instance {o:HO}:Up (Pt o):=⟨fun h s=>s _ _ h⟩
theorem Sep.new {Δ:Rs}{H:Hp}(S:Sep Δ H){p:Addr}(hp:H p=none)(o:HO):Sep ((p,Pt o)::Δ) (upd H p o):=by
 refine ⟨one p o,fun b u e=>?_,one_some.mpr ⟨rfl,rfl⟩,S.mono fun b u e=>?_⟩
 · obtain ⟨rfl,rfl⟩:=one_some.mp e;exact Zh
 · have hb:=Zz e hp
   exact cut_some.mpr ⟨by rw [Zp hb];exact e,fun v q=>absurd (one_some.mp q).1 hb⟩
theorem Sep.made {Δ:Rs}{H H':Hp}(S:Sep Δ H)(s:Same H H'){p:Addr}{o:HO}(hp:H p=none)(e:H' p=some o):Sep ((p,Pt o)::Δ) H':=by
 refine ⟨one p o,fun b u q=>?_,one_some.mpr ⟨rfl,rfl⟩,S.mono fun b u q=>?_⟩
 · obtain ⟨rfl,rfl⟩:=one_some.mp q;exact e
 · have hb:=Zz q hp
   exact cut_some.mpr ⟨s _ _ q,fun v q=>absurd (one_some.mp q).1 hb⟩
theorem Sep.put {Δ Δ':Rs}{H:Hp}{o:HO}(S:Sep Δ H)(a:Addr)(o':HO)[P:Pull a Δ (Pt o) Δ'](m:ZQ o=true:=by rfl):Sep ((a,Pt o')::Δ') (upd H a o'):=by
 obtain ⟨h,l,r,S⟩:=P.out S
 refine ⟨one a o',fun b u q=>?_,one_some.mpr ⟨rfl,rfl⟩,S.mono fun b u q=>?_⟩
 · obtain ⟨rfl,rfl⟩:=one_some.mp q;exact Zh
 · obtain ⟨q1,q2⟩:=cut_some.mp q
   have hb:b≠a:=fun z=>by
     have:=q2 o (by rw [z];exact r)
     rw [m] at this;cases this
   exact cut_some.mpr ⟨by rw [Zp hb];exact q1,fun v q=>absurd (one_some.mp q).1 hb⟩
theorem Sep.say {Δ Δ':Rs}{H:Hp}{R:Yn}(S:Sep Δ H)(a:Addr)(T:Yn)[P:Pull a Δ R Δ'](f:∀ h,R a h→T a h):Sep ((a,T)::Δ') H:=by
 obtain ⟨h,l,r,S⟩:=P.out S
 exact ⟨h,l,f h r,S⟩
theorem Sep.call {Δ:Rs}{H H':Hp}{a:Addr}{R T:Yn}{L:List Addr}(S:Sep ((a,R)::Δ) H)(k:∀ b o,b ∉ L→H b=some o→H' b=some o)
   (f:∀ h,Same h H→R a h→(∀ b∈L,∃ o,h b=some o∧ZQ o=true)∧∃ h',Same h' H'∧T a h'∧∀ b o,h' b=some o→ZQ o=true→b∈L∨H b=none∨∃ u,h b=some u∧ZQ u=true):Sep ((a,T)::Δ) H':=by
 obtain ⟨h,l,r,S⟩:=S
 obtain ⟨f1,h',l',t,f2⟩:=f h l r
 refine ⟨h',l',t,S.mono fun b o e=>?_⟩
 obtain ⟨e1,e2⟩:=cut_some.mp e
 have hb:b ∉ L:=fun z=>by
   obtain ⟨u,q1,q2⟩:=f1 b z
   rw [e2 u q1] at q2;cases q2
 refine cut_some.mpr ⟨k b o hb e1,fun u q=>?_⟩
 cases m:ZQ u with
 | false=>rfl
 | true =>
   rcases f2 b u q m with z | z | ⟨v,z1,z2⟩
   · exact absurd z hb
   · rw [e1] at z;cases z
   · rw [e2 v z1] at z2;cases z2
abbrev Bx (n:Nat):Yn:=fun a h=>BoxAt h a n
instance {n:Nat}:Up (Bx n):=⟨fun h s=>h.same s⟩
theorem Sep.box {Δ:Rs}{H H':Hp}{p:Addr}{n m:Nat}(S:Sep ((p,Bx n)::Δ) H)(k:Kp p H H')(B:BoxAt H' p m):Sep ((p,Bx m)::Δ) H':=by
 refine S.call (L:=[p]) (fun b o nb e=>k b o (fun z=>nb (by simp [z])) e) fun h l r=>⟨fun b hb=>?_,?_⟩
 · rw [List.mem_singleton.mp hb]
   obtain ⟨x,y,z,e,_⟩:=r
   exact ⟨_,e,rfl⟩
 · obtain ⟨x,y,z,e,w⟩:=B
   refine ⟨one p (.lst [.int x,.int y,.int z]),fun b u q=>?_,⟨x,y,z,one_some.mpr ⟨rfl,rfl⟩,w⟩,fun b o q _=>.inl (by simp [(one_some.mp q).1])⟩
   obtain ⟨rfl,rfl⟩:=one_some.mp q;exact e
def Zad (M:Int):Sp:=fun vs H Q _=>∃(p:Addr)(n:Nat)(m:Int)(Δ:Rs),vs=[.ref p,.int m]∧Sep ((p,Bx n)::Δ) H∧n≤1000000∧0 < m∧m < M∧∀(r:Int)(H':Hp),0≤r→r < m→Sep ((p,Bx (n+1))::Δ) H'→Q (.int r) H'
theorem ZeL {M:Int}{vs:List V}{H:Hp}{Q:VK}{E:XK}(h:Zad M vs H Q E):Ub M vs H Q E:=by
 obtain ⟨p,n,m,Δ,e,S,h1,h2,h3,q⟩:=h
 exact ⟨p,n,m,e,S.get p,h1,h2,h3,fun r H' a b B k=>q r H' a b (S.box k B)⟩
end L2
namespace L2
open PySem
end L2
namespace L2
open PySem
structure ZY (mg:Str→Option Value):Prop where
 len:mg "len"=none
 abs:mg "abs"=none
 int:mg "int"=none
 range:mg "range"=none
 min:mg "min"=none
 max:mg "max"=none
 repr:mg "repr"=none
 enumerate:mg "enumerate"=none
 ord:mg "ord"=none
 list:mg "list"=none
 tuple:mg "tuple"=none
 dict:mg "dict"=none
 sorted:mg "sorted"=none
 sum:mg "sum"=none
 all:mg "all"=none
 any:mg "any"=none
 divmod:mg "divmod"=none
 str:mg "str"=none
 isinstance:mg "isinstance"=none
 set:mg "set"=none
 zip:mg "zip"=none
 reversed:mg "reversed"=none
 bool:mg "bool"=none
abbrev UL (P:Program)(w:World)(K:PySem.W.Frag)(mg:Str→Option Value)(base:Heap)(k:Nat):Prop:=Def P w K mg base k "_law_take" ["_law_box_here","_law_many"] (Zad 4611686018427387904)
theorem FnOk.conv {P:Program}{w:World}{K:PySem.W.Frag}{mg:Str→Option Value}{base:Heap}{k:Nat}{f:Addr}{fd:FuncData}{ps:List Str}{sp sp':Sp}(F:FnOk P w K mg base ZI k f fd ps sp)(h:∀ vs H Q E,sp' vs H Q E→sp vs H Q E):FnOk P w K mg base ZI k f fd ps sp' :=
 ⟨fun vs H Q E z=>F.len vs H Q E (h vs H Q E z),fun A outer s H args us vs Q E hr he hb hv z=>F.run A outer s H args us vs Q E hr he hb hv (h vs H Q E z)⟩
theorem Def.conv {P:Program}{w:World}{K:PySem.W.Frag}{mg:Str→Option Value}{base:Heap}{k:Nat}{x:Str}{ps:List Str}{sp sp':Sp}(D:Def P w K mg base k x ps sp)(h:∀ vs H Q E,sp' vs H Q E→sp vs H Q E):Def P w K mg base k x ps sp' :=
 let ⟨f,fd,F,b,kp,m⟩:=D;⟨f,fd,F.conv h,b,kp,m⟩
theorem Vk {α:Type}{xs:List α}{r:Int}{v:α}(h0:0≤r)(h:xs[r.toNat]?=some v):ZX xs r=some v:=by
 have z:ZX xs ((r.toNat:Nat):Int)=some v:=Zq h
 rwa [show ((r.toNat:Nat):Int)=r by omega] at z
theorem ZH {n m:Nat}(h:n≤m)(hm:m≤100000:=by decide):n≤sizeLine:=Nat.le_trans (Nat.le_trans h hm) (by decide)
theorem Wp {n m:Nat}(h:n≤m)(hm:m≤100000:=by decide):n < sizeLine:=Nat.lt_of_le_of_lt (Nat.le_trans h hm) (by decide)
end L2
set_option maxHeartbeats 2000000
namespace L2
open PySem
section
variable {X:Cx}{k:Nat}{C:Addr}{m:Str}{ps:List Str}{sp:Sp}{pos apos:Pos}{o e:Expr}{es:List Expr}{ta:TE}{t:TA}
end
theorem Uf {α:Type}{xs:List α}{r:Int}(h0:0≤r)(h1:r < (xs.length:Int)):∃ v,ZX xs r=some v∧v∈xs:=by
 have hk:r.toNat < xs.length:=by omega
 have z:ZX xs ((r.toNat:Nat):Int)=some xs[r.toNat]:=Zq (List.getElem?_eq_getElem hk)
 have e:((r.toNat:Nat):Int)=r:=by omega
 rw [e] at z
 exact ⟨_,z,List.getElem_mem hk⟩
def ZW:V→Prop
 | .int i=>i.natAbs≤10 ^ 31
 | .str x=>x.length≤41∧x.cps.toList.all WS=true
 | _=>False
def ZaY:V→Bool
 | .int i=>decide (i.natAbs≤10 ^ 31)
 | .str x=>decide (x.length≤41)&&x.cps.toList.all WS
 | _=>false
theorem VL {v:V}(h:ZaY v=true):ZW v:=by
 cases v with
 | int i=>exact of_decide_eq_true (p:=i.natAbs≤10 ^ 31) h
 | str x =>
   have h':(decide (x.length≤41)&&x.cps.toList.all WS)=true:=h
   simp only [Bool.and_eq_true,decide_eq_true_eq] at h'
   exact h'
 | _=>cases h
def Zah:Sp:=fun vs H Q _=>∃(p:Addr)(n:Nat),vs=[.ref p]∧BoxAt H p n∧n≤900000∧∀(v:V)(H':Hp),ZW v→BoxAt H' p (n+50)→Kp p H H'→Q v H'
def Zdh:List Stmt→Str
 | .Assign _ (.Constant (.str x) _ _) _::_=>x
 | _::r=>Zdh r
 | []=>Str.empty
end L2
set_option maxHeartbeats 2000000
namespace L2
open PySem PySem.Spec PyProof.Rows
section
variable {X:Cx}
end
section
variable {X:Cx}{k:Nat}{C:Addr}{x m:Str}{ps:List Str}{sp:Sp}{p pos apos:Pos}{o:Expr}{ta:TE}
end
end L2
set_option maxHeartbeats 2000000
namespace L2
open PySem PySem.Spec PyProof.Rows
section
variable {X:Cx}
end
end L2
set_option maxHeartbeats 2000000
namespace L2
open PySem PySem.Spec PyProof.Rows
def Zfh (i j k:Nat)(ta:TA):TS:=fun D σ H=>ta σ H fun vs H1=>∃ u v w,vs=[u,v,w]∧D.nx (((σ.set i (some u)).set j (some v)).set k (some w)) H1
theorem Zdr {X:Cx}{pos:Pos}{i j k:Nat}{x y z:Str}{a b c:Expr}{ta:TA}{px py pz pt:Pos}{kt k2 pt2}(hc:X.calm=true)(hN:X.N.Nodup)(hi:X.N[i]?=some x)(hj:X.N[j]?=some y)(hk:X.N[k]?=some z)(hij:i≠j)(hik:i≠k)(hjk:j≠k)
   (hx:X.env.scope.names.lookup x=some .local) (hy:X.env.scope.names.lookup y=some .local) (hz:X.env.scope.names.lookup z=some .local) (ha:PA X [a,b,c] ta)
   (hw:swappedStores [.Tuple [.Name x px,.Name y py,.Name z pz] kt pt] (.Tuple [a,b,c] k2 pt2) X.env=pure (some [x,y,z]))
   (hs:swapsWithSole [.Tuple [.Name x px,.Name y py,.Name z pz] kt pt] (.Tuple [a,b,c] k2 pt2) pos.line X.env=pure false:=by rfl) :
   PS X (.Assign [.Tuple [.Name x px,.Name y py,.Name z pz] kt pt] (.Tuple [a,b,c] k2 pt2) pos) (Zfh i j k ta):=by
 intro pins s σ H D I h
 rw [exec_Assign_arm]
 refine wpAny_bind (wpAny_standAt ?_)
 rw [hs]
 refine wpAny_bind (wpAny_pure ?_)
 rw [if_neg (by decide)]
 refine wpAny_bind (Tuple_ (Zm (ha _ pins s σ H _ I h) fun us s1 ⟨vs,H1,I1,r1,q1⟩=>?_))
 obtain ⟨v1,v2,v3,e1,q1⟩:=q1
 subst e1
 obtain ⟨u1,u2,u3,rfl,rv1,rv2,rv3⟩:∃ u1 u2 u3,us=[u1,u2,u3]∧RelV v1 u1∧RelV v2 u2∧RelV v3 u3:=by
   cases r1 with
   | cons p q =>
     cases q with
     | cons p' q' =>
       cases q' with
       | cons p'' q'' =>
         cases q''
         exact ⟨_,_,_,rfl,p,p',p''⟩
 refine wpAny_newObj_type ?_ (by show 3≤sizeLine;decide)
 have I2:Inv X pins σ H1 { s1 with heap:=s1.heap.push { cls:=.type "tuple",data:=.seq [u1,u2,u3].toArray } }:=I1.kept (t':=s1.toks) fun b o e=>Heap.get?_push_of_some _ e
 rw [hw]
 refine wpAny_bind (wpAny_pure ?_)
 show wpAny (model X.prog X.w) X.A (do rule "assign.swapped-stores";let items ← unpackItems (.ref s1.heap.objs.size) 3 none;assignInOrder [fun v=>bindName X.env z v,fun v=>bindName X.env y v,fun v=>bindName X.env x v] items.reverse;pure Flow.next) _ _ _
 refine wpAny_bind (wpAny_rule (wpAny_bind (unpackItems_tuple (items:=#[u1,u2,u3]) (I.ok.hd hc) (IsTup.new s1.heap _) fun h' hx'=>?_)))
 have I3:=I2.kept (h':=h') (t':=s1.toks) fun b o e=>hx' b o (Nat.ne_of_lt (Heap.lt_size e)) e
 show wpAny _ _ (assignInOrder [fun v=>bindName X.env z v,fun v=>bindName X.env y v,fun v=>bindName X.env x v] [u3,u2,u1] >>= fun _=>pure Flow.next) _ _ _
 refine wpAny_bind (assignInOrder_cons (wpAny_bindName (Yp I3 hN hk (.inl hz) rv3 (fun s2 I4=>?_) (.inr hz))))
 refine assignInOrder_cons (wpAny_bindName (Yp I4 hN hj (.inl hy) rv2 (fun s3 I5=>?_) (.inr hy)))
 refine assignInOrder_cons (wpAny_bindName (Yp I5 hN hi (.inl hx) rv1 (fun s4 I6=>assignInOrder_nil (wpAny_pure ?_)) (.inr hx)))
 rw [List.set_comm _ _ (Ne.symm hjk),List.set_comm _ _ (Ne.symm hik),List.set_comm _ _ (Ne.symm hij)] at I6
 exact ⟨_,H1,I6,q1⟩
theorem ZaD {X:Cx}{K:PySem.W.Frag}(hK:X.K=K):Ye X (compareOp .In) (rIn K false):=by subst hK;exact UQ
theorem US {X:Cx}{K:PySem.W.Frag}(hK:X.K=K):Ye X (compareOp .NotIn) (rIn K true):=by subst hK;exact Vl
end L2
set_option maxHeartbeats 2000000
namespace L2
open PySem PySem.Spec PyProof.Rows
section
variable {X:Cx}
end
end L2
set_option maxHeartbeats 2000000
namespace L2
open PySem
theorem Sep.newE {Δ:Rs}{H H2:Hp}{o:HO}(S:Sep Δ H){p:Addr}(hp:H p=none)(e:upd H p o=H2):Sep ((p,Pt o)::Δ) H2:=e ▸ S.new hp o
theorem VQ {lo:Int}{n:Nat}{te:TE}{σ:St}{D:Addr}{Q:VK}{H:Hp}{Δ:Rs}(hn:n≤sizeLine)(S:Sep Δ H)(hD:H D=none)(J:Nat→List V→Rs→Prop)(h0:J 0 [] Δ)
   (hs:∀ i ys Δ H,i < n→ys.length=i→J i ys Δ→Sep ((D,Wy ys)::Δ) H→te (σ++[some (.int (lo+i))]) H fun y H4=>∃ Δ',J (i+1) (ys++[y]) Δ'∧Sep ((D,Wy ys)::Δ') H4)
   (hd:∀ ys Δ H,J n ys Δ→ys.length=n→Sep ((D,Wy ys)::Δ) H→Q (.ref D) H):XR (WU lo n) te σ D Q H:=by
 refine ⟨fun i m ys H=>m=n - i∧i≤n∧ys.length=i∧∃ Δ,J i ys Δ∧Sep ((D,Wy ys)::Δ) H,⟨n,by simp,Nat.zero_le _,rfl,Δ,h0,S.new hD _⟩,?_⟩
 rintro i m ys H2 ⟨rfl,hi,hl,Δ,j,S⟩
 by_cases hlt:i < n
 · refine .inr ⟨hlt,_,fun y H4 (q:∃ Δ',J (i+1) (ys++[y]) Δ'∧Sep ((D,Wy ys)::Δ') H4)=>?_,fun v H3 y=>?_⟩
   · obtain ⟨Δ',j',S'⟩:=q
     exact ⟨S'.get D,by omega,n - (i+1),by omega,rfl,hlt,by simp [hl],Δ',j',S'.put D _⟩
   · obtain ⟨e1,e2⟩:=y
     subst e1 e2
     exact hs i ys Δ _ hlt hl j S
 · have e:i=n:=by omega
   exact .inl ⟨by show n≤i;omega,hd ys Δ H2 (e ▸ j) (by omega) S⟩
end L2
set_option maxHeartbeats 2000000
namespace L2
open PySem PySem.W PySem.Spec PyProof.Rows
section
variable {prog:Program}{w:World}{A:Around}{E:Value→Shared→Prop}{s:Shared}{a:Addr}{as:List Addr}{ks:List Str}{P:PySem.Fin→Shared→Prop}
end
section
variable {X:Cx}
end
end L2
set_option maxHeartbeats 2000000
namespace L2
open PySem
def ZK (x:Str):Prop:=1≤x.length∧x.length≤8∧x.cps.toList.all ZaE=true
theorem YF (c:Nat):(⟨#[c]⟩:Str).length=1:=rfl
theorem Vy {P:Nat→Bool}:∀{l:List Str},(∀ z∈l,∃ c,z=⟨#[c]⟩∧P c=true)→(l.map (·.length)).sum=l.length∧(l.flatMap (·.cps.toList)).length=l.length∧(l.flatMap (·.cps.toList)).all P=true
 | [],_=>⟨rfl,rfl,rfl⟩
 | z :: r,h=>by
   obtain ⟨c,rfl,hc⟩:=h z List.mem_cons_self
   obtain ⟨g1,g2,g3⟩:=Vy (l:=r) fun y hy=>h y (List.mem_cons_of_mem _ hy)
   refine ⟨?_,?_,?_⟩
   · rw [List.map_cons,List.sum_cons,g1,List.length_cons];show 1+_=_;omega
   · have e0:((⟨#[c]⟩:Str)::r).flatMap (·.cps.toList)=c::r.flatMap (·.cps.toList):=rfl
     rw [e0,List.length_cons,List.length_cons,g2]
   · rw [List.flatMap_cons,List.all_append,g3];simp [hc]
theorem ZbH {P:Nat→Bool}{zs:List Str}(h:∀ z∈zs,∃ c,z=⟨#[c]⟩∧P c=true):(zs.map (·.length)).sum+zs.length * (Str.ofString "").length≤2 * zs.length∧(Txt.join (Str.ofString "") zs).length=zs.length∧(Txt.join (Str.ofString "") zs).cps.toList.all P=true:=by
 obtain ⟨g1,g2,g3⟩:=Vy h
 refine ⟨?_,?_,?_⟩
 · rw [g1];show _+_ * 0≤_;omega
 · rw [ZL,Xi,g2]
 · rw [Xi];exact g3
theorem WK {P:Nat→Bool}{x y:Str}(h1:x.cps.toList.all P=true)(h2:y.cps.toList.all P=true):(x++y).cps.toList.all P=true:=by
 rw [UP,List.all_append,h1,h2];rfl
theorem Vq {P:Nat→Bool}{c:Nat}(h:P c=true):(⟨#[c]⟩:Str).cps.toList.all P=true:=by
 show [c].all P=true;simp [h]
theorem Ue {P:Nat→Bool}{x:Str}{lo hi:Option Int}(h:x.cps.toList.all P=true):(Txt.slice x lo hi).cps.toList.all P=true:=by
 rw [XB]
 rw [List.all_eq_true] at h ⊢
 exact fun c hc=>h c (List.mem_of_mem_drop (List.mem_of_mem_take hc))
theorem ZbP {x:Str}{k:Int}(h0:0≤k)(h1:k≤x.length):(Txt.slice x none (some k)).length+(Txt.slice x (some k) none).length=x.length:=by
 have hn:¬ k < 0:=by omega
 rw [ZL,ZL,XB,XB,ZL]
 rw [ZL] at h1
 have e1:HT.sIx x.cps.toList.length 0 none=0:=rfl
 have e2:HT.sIx x.cps.toList.length x.cps.toList.length none=x.cps.toList.length:=rfl
 have e3:∀ d,HT.sIx x.cps.toList.length d (some k)=k.toNat:=fun d=>by
   unfold HT.sIx
   simp only [hn,if_false]
   omega
 rw [e1,e2,e3,e3,List.length_take,List.length_take,List.length_drop,List.length_drop]
 omega
theorem Um {x:Str}{P:Nat→Bool}(ha:x.cps.toList.all P=true){r:Int}(h0:0≤r)(h1:r < x.length):∃ c,ZX x.cps.toList r=some c∧P c=true:=by
 have hl:r.toNat < x.cps.toList.length:=by rw [← ZL];omega
 exact ⟨_,Vk h0 (List.getElem?_eq_getElem hl),List.all_eq_true.mp ha _ (List.getElem_mem hl)⟩
def a26:Str:="abcdefghijklmnopqrstuvwxyz"
theorem Xm:a26.length=26:=by decide +kernel
theorem Uu:a26.cps.toList.all ZaE=true:=by decide +kernel
theorem Xa {α:Type}{f:α→V}{xs:List α}{r:Int}(h0:0≤r)(h1:r < (xs.length:Int)):∃ x∈xs,ZX (xs.map f) r=some (f x):=by
 have hl:r.toNat < xs.length:=by omega
 exact ⟨_,List.getElem_mem hl,Vk h0 (by rw [List.getElem?_map,List.getElem?_eq_getElem hl];rfl)⟩
theorem ZdG {xs:List V}{r:Int}(h0:0≤r)(h1:r < (xs.length:Int)):∃ x∈xs,ZX xs r=some x:=by
 have hl:r.toNat < xs.length:=by omega
 exact ⟨_,List.getElem_mem hl,Vk h0 (List.getElem?_eq_getElem hl)⟩
theorem Sep.le {Δ:Rs}{H:Hp}{p:Addr}{n m:Nat}(S:Sep ((p,Bx n)::Δ) H)(h:n≤m):Sep ((p,Bx m)::Δ) H:=by
 obtain ⟨g,l,r,S⟩:=S
 exact ⟨g,l,BoxAt.le r h,S⟩
def WF:Sp:=fun vs H Q _=>∃(p:Addr)(n:Nat)(Δ:Rs),vs=[.ref p]∧Sep ((p,Bx n)::Δ) H∧n≤900000∧∀(v:V)(H':Hp),ZW v→Sep ((p,Bx (n+50))::Δ) H'→Q v H'
theorem Zdo {vs:List V}{H:Hp}{Q:VK}{E:XK}(h:WF vs H Q E):Zah vs H Q E:=by
 obtain ⟨p,n,Δ,e,S,h1,q⟩:=h
 exact ⟨p,n,e,S.get p,h1,fun v H' hv B k=>q v H' hv (S.box k B)⟩
def VO (K:PySem.W.Frag):Sp:=fun vs H Q _=>∃(a:Addr)(ns:List Int)(k:Int)(Δ:Rs),vs=[.ref a,.int k]∧SqL K H a (ns.map V.int)∧Sep Δ H∧0≤k∧k≤1000∧∀(p:Addr)(H':Hp),Same H H'→Sep ((p,Bx 0)::Δ) H'→Q (.ref p) H'
theorem Zfv {K:PySem.W.Frag}{vs:List V}{H:Hp}{Q:VK}{E:XK}(h:VO K vs H Q E):ZcZ K vs H Q E:=by
 obtain ⟨a,ns,k,Δ,e,hS,S,h1,h2,q⟩:=h
 refine ⟨a,ns,k,e,hS,h1,h2,fun p H' hp B s=>q p H' s ?_⟩
 obtain ⟨x,y,z,eb,w⟩:=B
 exact (S.made s hp eb).say p (Bx 0) fun h r=>⟨x,y,z,r,w⟩
theorem Vx {xs:List V}{i:Nat}:YS xs none (some (i:Int))=xs.take i:=by
 unfold YS
 rw [HT.sIx_none,HT.sIx_nat,List.drop_zero,Nat.sub_zero]
 by_cases h:i≤xs.length
 · rw [Nat.min_eq_left h]
 · rw [Nat.min_eq_right (by omega),List.take_of_length_le (Nat.le_refl _),List.take_of_length_le (by omega)]
theorem VA {xs:List V}{i:Nat}:YS xs (some (i:Int)) none=xs.drop i:=by
 unfold YS
 rw [HT.sIx_none,HT.sIx_nat]
 by_cases h:i≤xs.length
 · rw [Nat.min_eq_left h,List.take_of_length_le (by rw [List.length_drop];omega)]
 · rw [Nat.min_eq_right (by omega),Nat.sub_self,List.take_zero,List.drop_eq_nil_of_le (by omega)]
theorem ZdB {x:Str}{ys:List Str}:Wm (.str x) (ys.map V.str)=decide (x∈ys):=by
 unfold Wm
 induction ys with
 | nil=>rfl
 | cons y ys ih =>
   rw [List.map_cons,List.any_cons,ih]
   show ((y == x) || decide (x∈ys))=decide (x∈y::ys)
   by_cases h:y=x
   · subst h;simp
   · rw [show (y == x)=false from beq_eq_false_iff_ne.mpr h,Bool.false_or]
     congr 1
     simp [List.mem_cons,Ne.symm h]
class IsLst (R:Yn) (k:Nat):Prop where
 lst:∀ {a h},R a h→∃ xs,h a=some (.lst xs)∧xs.length=k
end L2
set_option maxHeartbeats 2000000
namespace L2
open PySem
theorem Wu {i:Int}(h:i.natAbs≤10 ^ 31):i.natAbs.log2 < 1920∧(Str.ofString (toString i)).length≤40:=by
 constructor
 · by_cases z:i.natAbs=0
   · rw [z];decide
   · exact (Nat.log2_lt z).mpr (Nat.lt_of_le_of_lt h (by decide +kernel))
 · have e:=int_text_length_le10 (a:=i) (k:=32) (by decide) (Nat.lt_of_le_of_lt h (by decide))
   rw [ZL,PyProof.Rows.signs_ofString,List.length_map,String.length_toList]
   omega
theorem VF (q c:Nat)(h:c < 128):(Builtin.Str.reprChar q c).length≤4:=by
 by_cases e:(c == q || c == 92)=true
 · unfold Builtin.Str.reprChar;simp only [e,if_true];show 2≤4;decide
 · have e2:(c == 200 || c == 92)=false:=by
     simp only [Bool.or_eq_true,not_or,beq_iff_eq] at e
     simp only [Bool.or_eq_false_iff,beq_eq_false_iff_ne]
     exact ⟨by omega,e.2⟩
   have z:Builtin.Str.reprChar q c=Builtin.Str.reprChar 200 c:=by
     unfold Builtin.Str.reprChar
     simp only [Bool.not_eq_true] at e
     simp only [e,e2]
   rw [z]
   have all:∀ c:_root_.Fin 128,(Builtin.Str.reprChar 200 c.val).length≤4:=by decide +kernel
   exact all ⟨c,h⟩
theorem Zcv {x:Str}(h:∀ c∈x.cps.toList,c < 128):(reprText x).length≤2+4 * x.length:=by
 rw [← reprLen_eq,← Array.foldl_toList,ZL]
 have gen:∀ (l:List Nat) (n:Nat),(∀ c∈l,c < 128)→l.foldl (fun n c=>n+(Builtin.Str.reprChar (reprQuote x) c).length) n≤n+4 * l.length:=by
   intro l
   induction l with
   | nil=>intro n _;simp
   | cons c r ih =>
     intro n hc
     have h1:=VF (reprQuote x) c (hc c List.mem_cons_self)
     have h2:=ih (n+(Builtin.Str.reprChar (reprQuote x) c).length) fun d hd=>hc d (List.mem_cons_of_mem _ hd)
     rw [List.foldl_cons,List.length_cons]
     omega
 exact gen _ _ h
def NvV (v:V):Prop:=v=.non∨ZW v
def XM:V→PyData
 | .int i=>.int i
 | .str x=>.str x
 | _=>.none
structure Sml (d:PyData)(n k:Nat):Prop where
 sh:d.showable=true
 ln:d.shown.length≤n
 dp:d.depth≤k
theorem VV {x:Str}{n:Nat}(h:∀ c∈x.cps.toList,c < 128)(hl:2+4 * x.length≤n)(k:Nat):Sml (.str x) n k:=⟨rfl,Nat.le_trans (Zcv h) hl,Nat.zero_le _⟩
theorem Zei {v:V}(h:NvV v)(k:Nat):Sml (XM v) 200 k:=by
 rcases h with rfl | h
 · exact ⟨rfl,by show 4≤200;decide,Nat.zero_le _⟩
 · cases v with
   | int i =>
     obtain ⟨h1,h2⟩:=Wu (show i.natAbs≤10 ^ 31 from h)
     exact ⟨decide_eq_true h1,Nat.le_trans h2 (by decide),Nat.zero_le _⟩
   | str x =>
     refine VV (fun c hc=>?_) (by have:x.length≤41:=h.1;omega) k
     have:=List.all_eq_true.mp h.2 c hc
     unfold WS at this
     simp only [Bool.and_eq_true,decide_eq_true_eq] at this
     omega
   | _=>exact h.elim
theorem YR {x:Str}(h:ZK x)(k:Nat):Sml (.str x) 40 k:=by
 refine VV (fun c hc=>?_) (by have:=h.2.1;omega) k
 have:=List.all_eq_true.mp h.2.2 c hc
 unfold ZaE at this
 simp only [Bool.and_eq_true,decide_eq_true_eq] at this
 omega
theorem Wi:∀ ds:List PyData,PyData.shownAll ds=ds.map PyData.shown
 | []=>rfl
 | d::r=>by rw [PyData.shownAll,Wi r];rfl
theorem ZM:∀{ds:List PyData},(∀ d∈ds,d.showable=true)→PyData.showableAll ds=true
 | [],_=>rfl
 | d::r,h=>by rw [PyData.showableAll,h d List.mem_cons_self,ZM fun e he=>h e (List.mem_cons_of_mem _ he)];rfl
end L2
set_option maxHeartbeats 2000000
namespace L2
open PySem
def Yu (H:Hp)(L:List Addr):Hp:=fun b=>if b∈L then H b else match H b with
 | some o=>if ZQ o=true then none else some o
 | none=>none
theorem Zag {H:Hp}{L:List Addr}:Same (Yu H L) H:=fun b o e=>by
 unfold Yu at e
 split at e
 · exact e
 · split at e
   · rename_i o' h'
     split at e
     · cases e
     · cases e;exact h'
   · cases e
theorem VY {H:Hp}{L:List Addr}{b:Addr}{o:HO}(e:H b=some o)(m:ZQ o=false):Yu H L b=some o:=by
 unfold Yu
 split
 · exact e
 · simp only [e,m,Bool.false_eq_true,if_false]
theorem Vj {H:Hp}{L:List Addr}{b:Addr}{o:HO}(e:Yu H L b=some o)(m:ZQ o=true):b∈L:=by
 unfold Yu at e
 split at e
 · assumption
 · split at e
   · split at e
     · cases e
     · rename_i h;cases e;exact absurd m h
   · cases e
end L2
set_option maxHeartbeats 2000000
namespace L2
open PySem
theorem Sep.updR {Δ Δ':Rs}{H:Hp}{R T:Yn}(S:Sep Δ H)(a:Addr)(o':HO)[P:Pull a Δ R Δ'](m:∀ h,R a h→∃ o,h a=some o∧ZQ o=true)
   (f:∀ h,R a h→Same h H→∀ h',h' a=some o'→(∀ b o,b≠a→h b=some o→h' b=some o)→(∀ b o,b≠a→H b=some o→ZQ o=false→h' b=some o)→T a h'):Sep ((a,T)::Δ') (upd H a o'):=by
 obtain ⟨h,l,r,S⟩:=P.out S
 obtain ⟨o,ea,ma⟩:=m h r
 refine ⟨fun b=>if b=a then some o' else match h b with | some u=>some u | none=>Yu H [] b,fun b u e=>?_,f h r l _ (if_pos rfl) (fun b u nb e=>?_) (fun b u nb e mu=>?_),S.mono fun b u e=>?_⟩
 · dsimp only at e
   by_cases hb:b=a
   · rw [if_pos hb] at e;cases e;rw [hb];exact Zh
   · rw [if_neg hb] at e
     rw [Zp hb]
     cases q:h b with
     | some z=>rw [q] at e;cases e;exact l _ _ q
     | none=>rw [q] at e;exact Zag _ _ e
 · rw [if_neg nb,e]
 · rw [if_neg nb]
   cases q:h b with
   | some z=>have:=l _ _ q;rw [e] at this;cases this;rfl
   | none=>exact VY e mu
 · obtain ⟨e1,e2⟩:=cut_some.mp e
   have hb:b≠a:=fun z=>by have:=e2 o (by rw [z];exact ea);rw [ma] at this;cases this
   refine cut_some.mpr ⟨by rw [Zp hb];exact e1,fun v q=>?_⟩
   simp only [if_neg hb] at q
   cases z:h b with
   | some x=>rw [z] at q;cases q;exact e2 _ z
   | none =>
     rw [z] at q
     cases mm:ZQ v with
     | false=>rfl
     | true=>have:=Vj q mm;cases this
end L2
set_option maxHeartbeats 2000000
namespace L2
open PySem
theorem Sep.im {Δ:Rs}{H:Hp}{a:Addr}{R T:Yn}[U:Up R](S:Sep ((a,R)::Δ) H)(f:∀ h,R a h→Same h H→(∀ b o,H b=some o→ZQ o=false→h b=some o)→T a h):Sep ((a,T)::Δ) H:=by
 obtain ⟨h,l,r,S⟩:=S
 have s1:Same h fun b=>match h b with | some o=>some o | none=>Yu H [] b:=fun b o e=>by simp only [e]
 have le:Same (fun b=>match h b with | some o=>some o | none=>Yu H [] b) H:=fun b o e=>by
   dsimp only at e
   cases q:h b with
   | some z=>rw [q] at e;cases e;exact l _ _ q
   | none=>rw [q] at e;exact Zag _ _ e
 refine ⟨_,le,f _ (U.up r s1) le fun b o e m=>?_,S.mono fun b o e=>?_⟩
 · cases q:h b with
   | some z=>have:=l _ _ q;rw [e] at this;cases this;rfl
   | none=>exact VY e m
 · obtain ⟨e1,e2⟩:=cut_some.mp e
   refine cut_some.mpr ⟨e1,fun u q=>?_⟩
   try dsimp only at q
   cases z:h b with
   | some x=>rw [z] at q;cases q;exact e2 _ z
   | none =>
     rw [z] at q
     cases mm:ZQ u with
     | false=>rfl
     | true=>have:=Vj q mm;cases this
end L2
set_option maxHeartbeats 2000000
namespace L2
open PySem
end L2
set_option maxHeartbeats 2000000
namespace L2
open PySem PySem.Spec PyProof.Rows
section
variable {X:Cx}
theorem ZbZ:bootBuiltins "zip"=some (.type "zip"):=by decide +kernel
end
end L2
set_option maxHeartbeats 2000000
namespace L2
open PySem PySem.Spec PyProof.Rows
mutual
inductive DatT (K:PySem.W.Frag)(H:Hp):V→PyData→Prop
 | non:DatT K H .non .none
 | int (i):DatT K H (.int i) (.int i)
 | str (x):DatT K H (.str x) (.str x)
 | tup {a xs ds}:SqT K H a xs→DatTs K H xs ds→DatT K H (.ref a) (.tuple ds)
inductive DatTs (K:PySem.W.Frag)(H:Hp):List V→List PyData→Prop
 | nil:DatTs K H [] []
 | cons {v d vs ds}:DatT K H v d→DatTs K H vs ds→DatTs K H (v::vs) (d::ds)
end
section
variable {X:Cx}{pins:List (Addr×Obj)}{σ:St}{H:Hp}{s:Shared}
mutual
theorem DatT.reads (I:Inv X pins σ H s):∀{v d}(u:Value),DatT X.K H v d→RelV v u→d.hasDict=false∧∃ as,Reads s.heap u d as
 | _,_,u,.non,r=>by cases (show u=.none from r);exact ⟨rfl,_,.none⟩
 | _,_,u,.int i,r=>by obtain ⟨t,e⟩:=(show ∃ t,u=.int i t from r);subst e;exact ⟨rfl,_,.int i t⟩
 | _,_,u,.str x,r=>by obtain ⟨t,e⟩:=(show ∃ t,u=.str x t from r);subst e;exact ⟨rfl,_,.str x t⟩
 | _,_,u,.tup (a:=a) (xs:=xs) e q,r=>by
   cases (show u=.ref a from r)
   obtain ⟨its,rv,⟨o,g,c,n,d⟩,_⟩:=I.tuple e
   obtain ⟨nd,as,ra⟩:=DatTs.reads I its q rv
   exact ⟨by simpa [PyData.hasDict] using nd,_,.tuple g c d (by simpa using ra)⟩
theorem DatTs.reads (I:Inv X pins σ H s):∀{vs ds}(us:List Value),DatTs X.K H vs ds→Vals vs us→PyData.hasDictAll ds=false∧∃ as,ReadsAll s.heap us ds as
 | _,_,_,.nil,.nil=>⟨rfl,_,.nil⟩
 | _,_,_,.cons r t,.cons rv tv=>by
   obtain ⟨n1,as,r1⟩:=DatT.reads I _ r rv
   obtain ⟨n2,bs,r2⟩:=DatTs.reads I _ t tv
   exact ⟨by simp [PyData.hasDictAll,n1,n2],_,.cons r1 r2⟩
end
end
theorem WO {X:Cx}{K:PySem.W.Frag}(hK:X.K=K)(hg:X.A.guards=some [])(hu:X.A.units+64 < cLine):Yj X (.builtin "repr") (fun xs H Q=>∃ x d,xs=[x]∧DatT K H x d∧d.showable=true∧d.shown.length≤sizeLine∧d.depth≤60∧Q (.str d.shown) H):=by
 subst hK
 intro pins s σ H xs us Q I r h
 obtain ⟨x,d,rfl,dd,hs,hz,hd,q⟩:=h
 obtain ⟨u,rfl,ru⟩:=YT r
 have fin:∀ (t':Tok) (k:Nat),EP X pins σ Q (.str d.shown t') { s with toks:=k }:=fun t' k=>⟨.str _,H,I.tok k,⟨_,rfl⟩,q⟩
 obtain ⟨nd,as,rd⟩:=DatT.reads I u dd ru
 cases rd with
 | none=>exact PySem.P.repr_of_none (fin _ _)
 | bool b=>exact PySem.P.repr_of_bool (fin _ _)
 | int i t=>exact PySem.P.repr_of_int (by simpa [PyData.showable] using hs) (fin _ _)
 | str x t=>exact PySem.P.repr_of_str (fin _ _) hz
 | list h1 h2 h3 h4=>exact repr_of_reads' (Reads.list h1 h2 h3 h4) hs (fun z=>by rw [nd] at z;cases z) hg (by omega) (fun _ _ e=>e) (fun h' t' k hk=>⟨.str _,H,I.kept (t':=k) hk,⟨_,rfl⟩,q⟩) hz
 | tuple h1 h2 h3 h4=>exact repr_of_reads' (Reads.tuple h1 h2 h3 h4) hs (fun z=>by rw [nd] at z;cases z) hg (by omega) (fun _ _ e=>e) (fun h' t' k hk=>⟨.str _,H,I.kept (t':=k) hk,⟨_,rfl⟩,q⟩) hz
 | _=>exact absurd nd (by simp [PyData.hasDict])
theorem Sml.le {d:PyData}{n m k j:Nat}(h:Sml d n k)(h1:n≤m)(h2:k≤j):Sml d m j:=⟨h.sh,Nat.le_trans h.ln h1,Nat.le_trans h.dp h2⟩
end L2
set_option maxHeartbeats 2000000
namespace L2
open PySem
end L2
set_option maxHeartbeats 2000000
namespace L2
open PySem PySem.W PySem.Spec PyProof.Rows
section
variable {X:Cx}
end
end L2
set_option maxHeartbeats 2000000
namespace L2
open PySem
def tCut (t u:TS):TS:=fun D σ H=>∃ I:St→Hp→Prop,t { D with nx:=I } σ H∧∀ σ' H',I σ' H'→u D σ' H'
theorem Zdz {X:Cx}{st:Stmt}{rest:List Stmt}{t u:TS}(h1:PS X st t)(h2:PSs X rest u):PSs X (st::rest) (tCut t u):=by
 intro pins s σ H D I h
 obtain ⟨J,h,g⟩:=h
 refine wpAny_execs_cons (Zm (h1 pins s σ H { D with nx:=J } I h) fun f s1 q=>?_)
 cases f with
 | next =>
   obtain ⟨σ',H',I',q⟩:=q
   exact h2 pins s1 σ' H' D I' (g _ _ q)
 | ret v=>exact q
 | brk=>exact q
 | cont=>exact q
end L2
set_option maxHeartbeats 2000000
namespace L2
open PySem PySem.Spec PyProof.Rows
section
variable {X:Cx}{pins:List (Addr×Obj)}{σ:St}{H:Hp}{s:Shared}{d:Addr}{o:Obj}{kvs:List (Yw×V)}
end
section
variable {X:Cx}{tg:Expr}
end
end L2
set_option maxHeartbeats 2000000
namespace L2
open PySem PySem.W PySem.Spec PyProof.Rows
section
variable {X:Cx}
end
end L2
set_option maxHeartbeats 2000000
namespace L2
open PySem
end L2
set_option maxHeartbeats 2000000
namespace L2
open PySem PySem.W PySem.Spec PyProof.Rows
section
variable {X:Cx}
end
end L2
set_option maxHeartbeats 2000000
namespace L2
open PySem PySem.Spec PyProof.Rows
end L2
set_option maxHeartbeats 2000000
namespace L2
open PySem PySem.Spec PyProof.Rows
inductive Pg where
 | set (x:Str) (v:V) (s:Str)
 | look (x:Str)
 | slot (w s:Str)
 | pass
 | blk (w:Str) (ps:List Pg)
 | inn (s:Str) (ps:List Pg)
def Pg.word:Pg→Str
 | .set _ _ _=>"set"
 | .look _=>"look"
 | .slot w _=>w
 | .pass=>"pass"
 | .blk w _=>w
 | .inn _ _=>"in"
def Pg.inner:Pg→List Pg
 | .blk _ ps=>ps
 | .inn _ ps=>ps
 | _=>[]
mutual
def Pg.many:Pg→Nat
 | .blk _ ps=>1+Pg.manys ps
 | .inn _ ps=>1+Pg.manys ps
 | _=>1
def Pg.manys:List Pg→Nat
 | []=>0
 | p::ps=>p.many+Pg.manys ps
end
theorem Pg.many_eq (p:Pg):p.many=1+Pg.manys p.inner:=by
 cases p<;>rfl
end L2
set_option maxHeartbeats 2000000
namespace L2
open PySem PySem.Spec PyProof.Rows PyProof.Rows.KTD
def KTup (K:PySem.W.Frag)(b:Addr)(xs:List V):Prop:=∃ (o:Obj) (its:Array Value) (n:Nat),K.lookup b=some o∧o.cls=.type "tuple"∧o.data=.seq its n∧its.size≤sizeLine∧Vals xs its.toList
theorem KTup.sq {K:PySem.W.Frag}{b:Addr}{xs:List V}{H:Hp}(h:KTup K b xs):SqT K H b xs:=.inr h
def KDic (K:PySem.W.Frag)(d:Addr)(D:List (Str×List V)):Prop:=(d == sysModules)=false∧∃ o es ep,K.lookup d=some o∧o.ExactDict∧o.data=.dict es ep∧KTD.Rows (fun xs v=>∃ b,v=Value.ref b∧KTup K b xs) es.toList D
theorem KDic.tab {K:PySem.W.Frag}{d:Addr}{D:List (Str×List V)}{h:Heap}(T:KDic K d D)(k:K.In h):KTD.TabOf (fun xs v=>∃ b,v=Value.ref b∧KTup K b xs) h d D:=let ⟨a,o,es,ep,e,r⟩:=T;⟨a,o,es,ep,k _ _ e,r⟩
section
variable {δ:Type}{Rr:δ→Value→Prop}{prog:Program}{w:World}{A:Around}{E:Value→Shared→Prop}{s:Shared}{a:Addr}{D:List (Str×δ)}{k:Str}{tk:Tok}
theorem Zcf {Q:Option Value→Shared→Prop}(T:TabOf Rr s.heap a D)(h1:∀ d v,datumAt k D=some d→Rr d v→Q (some v) { s with toks:=s.toks+1 })(h2:datumAt k D=none→Q none { s with toks:=s.toks+1 }) :
   wpAny (model prog w) A (dictGet a (.str k tk)) Q E s:=by
 obtain ⟨_,o,es,ep,ho,hc,hd,hr⟩:=T
 unfold dictGet
 try with_reducible refine wpAny_holding ?_
 refine wpAny_bind (wpAny_pyHash_str (wpAny_bind (kt_dictFind_strs (s:={ s with toks:=s.toks+1 }) ho hd (by obtain ⟨l⟩:=es;simpa using hr.exact) ?_)))
 have hq:Q (findBy (fun k v=>v.isStr k) es k) { s with toks:=s.toks+1 }:=by
   have hf:findBy (fun k v=>v.isStr k) es k=(es.toList.find? fun e=>e.key.isStr k).map (·.val):=by
     obtain ⟨l⟩:=es
     simp [findBy]
   rw [hf]
   cases hat:datumAt k D with
   | some d=>obtain ⟨v,hv,hfl⟩:=hr.find_some hat;rw [hv];exact h1 d v hat hfl
   | none=>rw [hr.find_none hat];exact h2 hat
 rw [findBy_of_findIdx?] at hq
 cases hi:es.findIdx? fun e=>e.key.isStr k with
 | none=>rw [hi] at hq;exact wpAny_pure hq
 | some i=>rw [hi] at hq;exact wpAny_bind (wpAny_dictEntries (s:={ s with toks:=s.toks+1 }) ho hd (wpAny_pure hq))
theorem Zau:MeetsIn prog w (Builtin.«dict.get» ⟨[.ref a,.str k tk],[]⟩) (fun _ R s=>TabOf Rr s.heap a D∧(∀ d v,datumAt k D=some d→Rr d v→R (.ok (.ret v)) { s with toks:=s.toks+1 })∧(datumAt k D=none→R (.ok (.ret .none)) { s with toks:=s.toks+1 })) :=
 .of_wp fun A R s ⟨T,h1,h2⟩=>by
   show wpAny _ _ (dictGet a (.str k tk) >>= _) _ _ s
   refine wpAny_bind (Zcf T (fun d v ha hv=>wpAny_pure ⟨v,rfl,h1 d v ha hv⟩) fun hn=>?_)
   show wpAny _ _ (Builtin.Dict.missed a (.str k tk) >>= _) _ _ _
   exact wpAny_bind (wpAny_missed_other T.1 (wpAny_pure ⟨.none,rfl,h2 hn⟩))
end
def Zdj (K:PySem.W.Frag)(D:List (Str×List V))(te:TE):TE:=fun σ H Q=>te σ H fun y H1=>∃ x,y=.str x∧(∀ b xs,datumAt x D=some xs→SqT K H1 b xs→Q (.ref b) H1)∧(datumAt x D=none→Q .non H1)
section
variable {X:Cx}{o e:Expr}{apos cpos:Pos}{te:TE}{d:Addr}{D:List (Str×List V)}
theorem Zdq (T:KDic X.K d D)(ho:PE X o (tC (.ref d)))(he:PE X e te)(m:M1 X o "get" apos e cpos):PE X (.Call (.Attribute o "get" apos) [e] [] cpos) (Zdj X.K D te):=by
 intro pins s σ H Q I h
 refine wpAny_Call_method m.base m.few m.line PySem.F.plainAttrs_dict PySem.F.slot_dict_get PySem.F.type_dict_get (Zm (ho pins s σ H (fun v H1=>v=.ref d∧Zdj X.K D te σ H1 Q) I ⟨rfl,h⟩) fun u s1 ⟨x,H1,I1,rx,ex,q1⟩=>?_)
 subst ex
 obtain rfl:u=Value.ref d:=rx
 obtain ⟨o',es,ep,lk,hc,_⟩:=T.2
 refine ⟨⟨o',I1.kIn _ _ lk,hc.1⟩,fun b e=>by injection e with e;subst e;exact ⟨o',I1.kIn _ _ lk,hc.2.1⟩,?_⟩
 rw [m.trees]
 refine Calls.callWith_builtin rfl (Calls.evalArgs_plain (Calls.spliced_cons (Zm (he pins s1 σ H1 _ I1 q1) fun iv s2 ⟨y,H2,I2,ry,x,ey,q2,q3⟩=>Calls.spliced_nil ?_)))
 subst ey
 obtain ⟨t,rfl⟩:=ry
 refine call_meetsIn PySem.F.slot_dict_get ⟨o',I2.kIn _ _ lk,hc.1⟩ PySem.F.entry_dict_get (PySem.F.args_dict_get_2 _ _) (Zau (D:=D) (Rr:=fun xs v=>∃ b,v=Value.ref b∧KTup X.K b xs)) ⟨T.tab I2.kIn,fun xs v ha hv=>?_,fun hn=>⟨.non,H2,I2.tok _,rfl,q3 hn⟩⟩
 obtain ⟨b,rfl,kt⟩:=hv
 exact ⟨.ref b,H2,I2.tok _,rfl,q2 b xs ha kt.sq⟩
end
end L2
set_option maxHeartbeats 2000000
namespace L2
open PySem PySem.Spec PyProof.Rows
section
variable {X:Cx}
end
mutual
theorem DatT.same {K:PySem.W.Frag}{H H':Hp}(s:Same H H'):∀{v d},DatT K H v d→DatT K H' v d
 | _,_,.non=>.non
 | _,_,.int i=>.int i
 | _,_,.str x=>.str x
 | _,_,.tup e q=>.tup (e.tf s.tf) (DatTs.same s q)
theorem DatTs.same {K:PySem.W.Frag}{H H':Hp}(s:Same H H'):∀{vs ds},DatTs K H vs ds→DatTs K H' vs ds
 | _,_,.nil=>.nil
 | _,_,.cons r t=>.cons (DatT.same s r) (DatTs.same s t)
end
mutual
theorem DatT.tf {K:PySem.W.Frag}{H H':Hp}(s:TF H H'):∀{v d},DatT K H v d→DatT K H' v d
 | _,_,.non=>.non
 | _,_,.int i=>.int i
 | _,_,.str x=>.str x
 | _,_,.tup e q=>.tup (SqT.tf e s) (DatTs.tf s q)
theorem DatTs.tf {K:PySem.W.Frag}{H H':Hp}(s:TF H H'):∀{vs ds},DatTs K H vs ds→DatTs K H' vs ds
 | _,_,.nil=>.nil
 | _,_,.cons r t=>.cons (DatT.tf s r) (DatTs.tf s t)
end
theorem DatTs.len {K:PySem.W.Frag}{H:Hp}:∀{vs ds},DatTs K H vs ds→vs.length=ds.length
 | _,_,.nil=>rfl
 | _,_,.cons q t=>by rw [List.length_cons,List.length_cons,DatTs.len t]
theorem YG {α:Type}{xs:List α}{n:Nat}{x:α}(h:xs.length=n+1)(e:xs[n]?=some x):ZX xs (-1)=some x:=by
 have hi:Wx xs.length (-1)=some n:=by
   unfold Wx
   rw [if_neg (by decide),if_pos (by omega)]
   exact congrArg some (by omega)
 unfold ZX
 rw [hi];exact e
end L2
set_option maxHeartbeats 1000000
namespace L2
open PySem PySem.Spec PyProof.Rows
section
variable {prog:Program}{w:World}{A:Around}{E:Value→Shared→Prop}{h:Heap}{g:Array GenState}{d:Drawn}{t:Nat}{os:OsState}
variable {nm q:Str}{C N:Addr}{bs bm:List Value}{sn:List Str}{sub:List Value}{ab:Bool}{col:Option Bool}{dd:Option Addr}{k0 k1 k2 k3 k5:Option Value}
end
end L2
set_option maxHeartbeats 1000000
namespace L2
open PySem PySem.Spec PyProof.Rows
section
variable {prog:Program}{w:World}{A:Around}{E:Value→Shared→Prop}{h:Heap}{g:Array GenState}{d:Drawn}{t:Nat}{os:OsState}
variable {nm q:Str}{C N x:Addr}{bs bm:List Value}{sn:List Str}{sub:List Value}{ab:Bool}{col:Option Bool}{dd:Option Addr}{k0 k1 k2 k3 k5:Option Value}{name:Str}{v:Value}{o:Obj}
end
end L2
set_option maxHeartbeats 1000000
namespace L2
open PySem PySem.Spec PyProof.Rows
section
variable {M:Model}{A:Around}{E:Value→Shared→Prop}{s:Shared}{base:Heap}{n:Nat}{H:Hp}{env:Env}{outer:List Env}{L ea C dx:Addr}
end
end L2
set_option maxHeartbeats 1000000
namespace L2
open PySem PySem.Spec PyProof.Rows
section
variable {X:Cx}{pins:List (Addr×Obj)}{σ:St}{H H1 H2:Hp}{s s1 s2:Shared}{h':Heap}
end
section
variable {P:Program}{w:World}{K:PySem.W.Frag}{mg:Str→Option Value}{base:Heap}{k:Nat}{f:Addr}{fd:FuncData}{ps:List Str}{sp sp':Sp}{CX:Xy}
end
end L2
set_option maxHeartbeats 1000000
namespace L2
open PySem PySem.Spec PyProof.Rows
section
variable {X:Cx}{pins:List (Addr×Obj)}{σ:St}{H:Hp}{s:Shared}
end
section
variable {X:Cx}{body suite:List Stmt}{b0:Stmt}{C0:Addr}{x0 n:Str}{i:Nat}{tb:(St→XK)→TS}{th:TS}{p0 hp pos:Pos}
end
end L2
set_option maxHeartbeats 1000000
namespace L2
open PySem PySem.Spec PyProof.Rows
section
variable {P:Program}{w:World}{K:PySem.W.Frag}{mg:Str→Option Value}{base:Heap}{j k:Nat}{C:Addr}{x m:Str}{ps:List Str}{sp:Sp}
end
section
variable {X:Cx}{EE:St→XK}{k:Nat}{f C:Addr}{fd:FuncData}{ps:List Str}{sp:Sp}{x m:Str}{p pos apos:Pos}{e o:Expr}{es:List Expr}{ta:TE}{t:TA}
end
end L2
set_option maxHeartbeats 1000000
namespace L2
open PySem PySem.Spec PyProof.Rows
section
variable {X:Cx}{o value:Expr}{pos pos':Pos}{ta tv:TE}
end
section
variable {X:Cx}{pins:List (Addr×Obj)}{σ:St}{H:Hp}{s:Shared}
end
section
variable {X:Cx}{EE:St→XK}{k:Nat}{C:Addr}{x:Str}{np cpos pos:Pos}{e:Expr}{t:TA}
end
end L2
set_option maxHeartbeats 1000000
namespace L2
open PySem PySem.Spec PyProof.Rows
open PySem.Builtin PySem.Builtin.ObjectAttr
section
variable {prog:Program}{w:World}{A:Around}{E:Value→Shared→Prop}{h:Heap}{g:Array GenState}{d:Drawn}{t:Nat}{os:OsState}
variable {nm q:Str}{C N a dx:Addr}{bs bm:List Value}{sn:List Str}{sub:List Value}{ab:Bool}{col:Option Bool}{dd:Option Addr}{k0 k1 k2 k3 k5:Option Value}{name:Str}{v:Value}{o:Obj}{vs:Array Value}{mA:Str→Option Value}
end
end L2
set_option maxHeartbeats 1000000
namespace L2
open PySem PySem.Spec PyProof.Rows
section
variable {X:Cx}{e:Expr}{pos:Pos}{ta:TE}
end
section
variable {X:Cx}
end
section
variable {X:Cx}{elt iter tg cnd:Expr}{xa xb:Str}{pos:Pos}{scope:Scope}{wi:TI}{te:TE}{tc:TT}{g:TG}
end
end L2
set_option maxHeartbeats 2000000
namespace L2
open PySem PySem.Spec PyProof.Rows
section
variable {X:Cx}
end
section
variable {prog:Program}{w:World}{A:Around}{E:Value→Shared→Prop}{s:Shared}
end
section
variable {X:Cx}
end
end L2
set_option maxHeartbeats 2000000
namespace L2
open PySem PySem.Spec PyProof.Rows
mutual
def Pg.dat:Pg→PyData
 | .set x v s=>.tuple [.str "set",.str x,XM v,.str s]
 | .look x=>.tuple [.str "look",.str x]
 | .slot w s=>.tuple [.str w,.str s]
 | .pass=>.tuple [.str "pass"]
 | .blk w ps=>.tuple [.str w,.tuple (Pg.dats ps)]
 | .inn s ps=>.tuple [.str "in",.str s,.tuple (Pg.dats ps)]
def Pg.dats:List Pg→List PyData
 | []=>[]
 | p::ps=>p.dat::Pg.dats ps
end
mutual
def Pg.ok:Pg→Prop
 | .set x v s=>ZK x∧ZW v∧ZK s
 | .look x=>ZK x
 | .slot w s=>(w="back"∨w="copy")∧ZK s
 | .pass=>True
 | .blk w ps=>(w="begin"∨w="late")∧Pg.oks ps
 | .inn s ps=>ZK s∧Pg.oks ps
def Pg.oks:List Pg→Prop
 | []=>True
 | p::ps=>p.ok∧Pg.oks ps
end
mutual
def Pg.hgt:Pg→Nat
 | .blk _ ps=>Pg.hgts ps+1
 | .inn _ ps=>Pg.hgts ps+1
 | _=>0
def Pg.hgts:List Pg→Nat
 | []=>0
 | p::ps=>max p.hgt (Pg.hgts ps)
end
def Pg.isB:Pg→Bool
 | .blk _ _=>true
 | .inn _ _=>true
 | _=>false
def Pg.nam:Pg→Option Str
 | .set x _ _=>some x
 | .look x=>some x
 | _=>none
theorem Pg.oks_at:∀{ps:List Pg}{i:Nat}{p:Pg},Pg.oks ps→ps[i]?=some p→p.ok
 | [],_,_,_,h=>by simp at h
 | q::ps,0,_,o,h=>by cases h;exact o.1
 | q::ps,i+1,p,o,h=>Pg.oks_at (ps:=ps) (i:=i) o.2 h
theorem Pg.hgts_at:∀{ps:List Pg}{i:Nat}{p:Pg},ps[i]?=some p→p.hgt≤Pg.hgts ps
 | [],_,_,h=>by simp at h
 | q::ps,0,_,h=>by cases h;exact Nat.le_max_left _ _
 | q::ps,i+1,p,h=>Nat.le_trans (Pg.hgts_at (ps:=ps) (i:=i) h) (Nat.le_max_right _ _)
theorem Pg.manys_app:∀ ps qs:List Pg,Pg.manys (ps++qs)=Pg.manys ps+Pg.manys qs
 | [],qs=>by show Pg.manys qs=0+Pg.manys qs;omega
 | p::ps,qs=>by
   have:=Pg.manys_app ps qs
   show p.many+Pg.manys (ps++qs)=p.many+Pg.manys ps+_
   omega
theorem Pg.dats_app:∀ ps qs:List Pg,Pg.dats (ps++qs)=Pg.dats ps++Pg.dats qs
 | [],qs=>rfl
 | p::ps,qs=>by show p.dat::Pg.dats (ps++qs)=p.dat::(Pg.dats ps++Pg.dats qs);rw [Pg.dats_app ps qs]
theorem Pg.dats_map:∀ ps:List Pg,Pg.dats ps=ps.map Pg.dat
 | []=>rfl
 | p::ps=>by show p.dat::Pg.dats ps=p.dat::ps.map Pg.dat;rw [Pg.dats_map ps]
theorem Pg.oks_app:∀{ps qs:List Pg},Pg.oks ps→Pg.oks qs→Pg.oks (ps++qs)
 | [],_,_,h=>h
 | _::_,_,o,h=>⟨o.1,Pg.oks_app o.2 h⟩
theorem Pg.hgts_app:∀{ps qs:List Pg}{n:Nat},Pg.hgts ps≤n→Pg.hgts qs≤n→Pg.hgts (ps++qs)≤n
 | [],_,_,_,h=>h
 | p::ps,qs,n,a,h=>by
   have a':max p.hgt (Pg.hgts ps)≤n:=a
   have:=Pg.hgts_app (ps:=ps) (qs:=qs) (n:=n) (by omega) h
   show max p.hgt (Pg.hgts (ps++qs))≤n
   omega
theorem Pg.many_pos:∀ p:Pg,1≤p.many:=fun p=>by rw [Pg.many_eq];omega
theorem Pg.len_manys:∀ ps:List Pg,ps.length≤Pg.manys ps
 | []=>Nat.zero_le _
 | p::ps=>by
   have h1:=Pg.many_pos p
   have h2:=Pg.len_manys ps
   show ps.length+1≤p.many+Pg.manys ps
   omega
theorem Pg.inner_ok {p:Pg}(h:p.ok):Pg.oks p.inner:=by cases p<;>first | exact trivial | exact h.2
theorem Pg.inner_hgt {p:Pg}{n:Nat}(h:p.hgt≤n+1):Pg.hgts p.inner≤n:=by
 cases p<;>first | exact Nat.zero_le _ | exact Nat.le_of_succ_le_succ h
theorem Pg.inner_none {p:Pg}(h:p.isB=false):p.inner=[]:=by cases p<;>first | rfl | exact nomatch h
def Pg.rk:List Pg→Nat
 | []=>0
 | p::ps=>Pg.hgts (p::ps)+1
theorem Pg.rk_inner (p:Pg):Pg.rk p.inner≤p.hgt:=by
 cases p with
 | blk w ps=>cases ps<;>first | exact Nat.zero_le _ | exact Nat.le_refl _
 | inn s ps=>cases ps<;>first | exact Nat.zero_le _ | exact Nat.le_refl _
 | _=>exact Nat.zero_le _
theorem Pg.rk_at {ps:List Pg}{i:Nat}{p:Pg}(h:ps[i]?=some p):Pg.rk p.inner < Pg.rk ps:=by
 have h1:=Pg.rk_inner p
 have h2:=Pg.hgts_at h
 cases ps with
 | nil=>simp at h
 | cons q ps=>show _ < Pg.hgts (q::ps)+1;omega
theorem Pg.rk_le (ps:List Pg):Pg.rk ps≤Pg.hgts ps+1:=by cases ps<;>first | exact Nat.zero_le _ | exact Nat.le_refl _
theorem Pg.inner_many {p:Pg}:p.many=1+Pg.manys p.inner:=Pg.many_eq p
theorem Pg.manys_take {ps:List Pg}{i:Nat}{p:Pg}(h:ps[i]?=some p):Pg.manys (ps.take (i+1))=Pg.manys (ps.take i)+p.many:=by
 rw [List.take_add_one,h,Pg.manys_app]
 show _+(p.many+0)=_;omega
theorem Pg.manys_le {ps:List Pg}(i:Nat):Pg.manys (ps.take i)≤Pg.manys ps:=by
 have:=Pg.manys_app (ps.take i) (ps.drop i)
 rw [List.take_append_drop] at this;omega
theorem DatT.tupI {K:PySem.W.Frag}{H:Hp}{v:V}{ds:List PyData}(h:DatT K H v (.tuple ds)):∃ a xs,v=.ref a∧SqT K H a xs∧DatTs K H xs ds:=by
 cases h with
 | tup e q=>exact ⟨_,_,rfl,e,q⟩
theorem DatTs.at' {K:PySem.W.Frag}{H:Hp}:∀{vs ds}{i:Nat}{v:V},DatTs K H vs ds→vs[i]?=some v→∃ d,ds[i]?=some d∧DatT K H v d
 | _,_,_,_,.nil,h=>by simp at h
 | _,_,0,_,.cons a _,h=>by cases h;exact ⟨_,rfl,a⟩
 | _,_,i+1,_,.cons _ b,h=>DatTs.at' (i:=i) b h
theorem DatTs.append {K:PySem.W.Frag}{H:Hp}:∀{vs ds ws es},DatTs K H vs ds→DatTs K H ws es→DatTs K H (vs++ws) (ds++es)
 | _,_,_,_,.nil,h=>h
 | _,_,_,_,.cons a b,h=>.cons a (DatTs.append b h)
theorem DatTs.pg {K:PySem.W.Frag}{H:Hp}{vs:List V}{ps:List Pg}{i:Nat}{v:V}(h:DatTs K H vs (Pg.dats ps))(e:vs[i]?=some v):∃ p,ps[i]?=some p∧DatT K H v p.dat:=by
 obtain ⟨d,e1,e2⟩:=DatTs.at' h e
 rw [Pg.dats_map,List.getElem?_map] at e1
 obtain ⟨p,e3,rfl⟩:=Option.map_eq_some_iff.mp e1
 exact ⟨p,e3,e2⟩
theorem DatTs.pgs {K:PySem.W.Frag}{H:Hp}{vs:List V}{ps:List Pg}(h:DatTs K H vs (Pg.dats ps)):vs.length=ps.length:=by
 rw [DatTs.len h,Pg.dats_map,List.length_map]
theorem Zcj {K:PySem.W.Frag}{H:Hp}{v:V}{p:Pg}(h:DatT K H v p.dat):∃ a xs,v=.ref a∧SqT K H a xs∧1≤xs.length∧xs[0]?=some (.str p.word)∧(∀ x,p.nam=some x→xs[1]?=some (.str x))∧(p.isB=true→∃ t,ZX xs (-1)=some t∧DatT K H t (.tuple (Pg.dats p.inner))):=by
 cases p with
 | set x v s =>
   obtain ⟨a,xs,rfl,e,q⟩:=DatT.tupI h
   obtain _ | ⟨q1,q2⟩:=q
   cases q1;obtain _ | ⟨q3,q4⟩:=q2;cases q3
   exact ⟨a,_,rfl,e,by simp,rfl,fun y hy=>by cases hy;rfl,fun z=>(nomatch z)⟩
 | look x =>
   obtain ⟨a,xs,rfl,e,q⟩:=DatT.tupI h
   obtain _ | ⟨q1,q2⟩:=q
   cases q1;obtain _ | ⟨q3,q4⟩:=q2;cases q3
   exact ⟨a,_,rfl,e,by simp,rfl,fun y hy=>by cases hy;rfl,fun z=>(nomatch z)⟩
 | slot w s =>
   obtain ⟨a,xs,rfl,e,q⟩:=DatT.tupI h
   obtain _ | ⟨q1,q2⟩:=q
   cases q1
   exact ⟨a,_,rfl,e,by simp,rfl,fun y hy=>(nomatch hy),fun z=>(nomatch z)⟩
 | pass =>
   obtain ⟨a,xs,rfl,e,q⟩:=DatT.tupI h
   obtain _ | ⟨q1,q2⟩:=q
   cases q1
   exact ⟨a,_,rfl,e,by simp,rfl,fun y hy=>(nomatch hy),fun z=>(nomatch z)⟩
 | blk w ps =>
   obtain ⟨a,xs,rfl,e,q⟩:=DatT.tupI h
   obtain _ | ⟨q1,q2⟩:=q
   cases q1;obtain _ | ⟨q3,q4⟩:=q2;cases q4
   exact ⟨a,_,rfl,e,by simp,rfl,fun y hy=>(nomatch hy),fun z=>⟨_,YG (n:=1) rfl rfl,q3⟩⟩
 | inn s ps =>
   obtain ⟨a,xs,rfl,e,q⟩:=DatT.tupI h
   obtain _ | ⟨q1,q2⟩:=q
   cases q1;obtain _ | ⟨q3,q4⟩:=q2;obtain _ | ⟨q5,q6⟩:=q4;cases q6
   exact ⟨a,_,rfl,e,by simp,rfl,fun y hy=>(nomatch hy),fun z=>⟨_,YG (n:=2) rfl rfl,q5⟩⟩
theorem ZbW (v:V):(XM v).depth=0:=by cases v<;>rfl
mutual
theorem Pg.deep:∀(p:Pg),p.dat.depth≤2 * p.hgt+1
 | .set x v s=>by
   show (PyData.tuple [.str "set",.str x,XM v,.str s]).depth≤1
   simp only [PyData.depth,PyData.depthAll,ZbW];omega
 | .look x=>by show (PyData.tuple [.str "look",.str x]).depth≤1;simp only [PyData.depth,PyData.depthAll];omega
 | .slot w s=>by show (PyData.tuple [.str w,.str s]).depth≤1;simp only [PyData.depth,PyData.depthAll];omega
 | .pass=>by decide
 | .blk w ps=>by
   have:=Pg.deeps ps
   show (PyData.tuple [.str w,.tuple (Pg.dats ps)]).depth≤2 * (Pg.hgts ps+1)+1
   simp only [PyData.depth,PyData.depthAll];omega
 | .inn s ps=>by
   have:=Pg.deeps ps
   show (PyData.tuple [.str "in",.str s,.tuple (Pg.dats ps)]).depth≤2 * (Pg.hgts ps+1)+1
   simp only [PyData.depth,PyData.depthAll];omega
theorem Pg.deeps:∀(ps:List Pg),PyData.depthAll (Pg.dats ps)≤2 * Pg.hgts ps+1
 | []=>by show 0≤_;omega
 | p::ps=>by
   have h1:=Pg.deep p
   have h2:=Pg.deeps ps
   show max p.dat.depth (PyData.depthAll (Pg.dats ps))≤2 * max p.hgt (Pg.hgts ps)+1
   omega
end
end L2
set_option maxHeartbeats 4000000
namespace K67
open PySem L2
def top (i:Nat):Stmt:=PySem.Challenge.pw_roadsettings_k67_programs_written.main.body.getD i (.Pass ⟨0,0,0,0⟩)
abbrev s_is_number:Stmt:=top 1
abbrev s_kinds_of:Stmt:=top 4
abbrev s_has_within:Stmt:=top 5
abbrev s_program_within:Stmt:=top 6
abbrev s_value_text:Stmt:=top 8
abbrev s_kinds_in_row:Stmt:=top 9
abbrev s_step_row:Stmt:=top 10
abbrev s_program_text:Stmt:=top 13
abbrev s_program_rows:Stmt:=top 14
abbrev s_moved_in:Stmt:=top 15
abbrev s_l_cell_at:Stmt:=top 17
abbrev s_l_box:Stmt:=top 18
abbrev s_l_take:Stmt:=top 19
abbrev s_l_names:Stmt:=top 20
abbrev s_l_value:Stmt:=top 21
abbrev s_l_called:Stmt:=top 22
abbrev s_l_worth:Stmt:=top 23
abbrev s_l_program:Stmt:=top 24
abbrev s_l_deep:Stmt:=top 25
abbrev s_l_written:Stmt:=top 26
abbrev s_l_rows:Stmt:=top 27
abbrev s_l_drawn:Stmt:=top 28
abbrev s_law:Stmt:=top 29
section
variable {P:Program}{w:World}{K:PySem.W.Frag}{mg:Str→Option Value}{base:Heap}
theorem scC:Zt ["_law_script","_law_k"] ["_law_script","_law_k"] (Zg s_l_cell_at):=⟨rfl,rfl,rfl,by decide +kernel,rfl,by decide +kernel,by decide +kernel⟩
theorem ZdX {f:Addr}{fd:FuncData}(F:Fun K "_law_cell_at" "_law_cell_at" s_l_cell_at f fd)(T:ZY mg):FnOk P w K mg base ZI 1 f fd ["_law_script","_law_k"] (ZbR K):=by
 refine F.ok scC (fun vs H Q E h=>?_) (fun cdv A outer s H vs Q E hr h=>?_)
 · obtain ⟨a,ns,k,rfl,_⟩:=h;rfl
 obtain ⟨a,ns,k,rfl,hS,h0,q⟩:=h
 refine ⟨_,Zf (YB (ZD UU (pv 1) (ZA Yf rfl T.len PySem.boot_len (ZS (pv 0) Za)) (ZG _)) (Zj (Zs (Zu Zy (pv 0) (pv 1) (fun _ _=>rfl)))) Yh)
   (Zj (Zs Zb)),?_⟩
 refine ⟨_,rfl,_,rfl,a,_,rfl,.inl hS,_,_,rfl,rfl,_,rfl,?_⟩
 refine Xc (fun c=>?_) (fun c=>?_)
 · have c':k < (((ns.map V.int).length:Nat):Int):=of_decide_eq_true c
   rw [List.length_map] at c'
   have hk:k.toNat < ns.length:=by omega
   have ek:k=((k.toNat:Nat):Int):=by omega
   have hat:ZX (ns.map V.int) k=some (.int ns[k.toNat]):=by
     have z:ZX (ns.map V.int) ((k.toNat:Nat):Int)=some (.int ns[k.toNat]):=Zq (by rw [List.getElem?_map,List.getElem?_eq_getElem hk];rfl)
     rwa [← ek] at z
   exact ⟨_,rfl,_,rfl,a,_,_,_,rfl,rfl,hS,hat,q _⟩
 · exact q 0
theorem scB:Zt ["_law_script","_law_k","_law_cell"] ["_law_script","_law_k"] (Zg s_l_box):=⟨rfl,rfl,rfl,by decide +kernel,rfl,by decide +kernel,by decide +kernel⟩
theorem Zec {f:Addr}{fd:FuncData}(F:Fun K "_law_box" "_law_box" s_l_box f fd)(T:ZY mg)(D:Def P w K mg base 1 "_law_cell_at" ["_law_script","_law_k"] (ZbR K)):FnOk P w K mg base ZI 2 f fd ["_law_script","_law_k"] (ZcZ K):=by
 refine F.ok scB (fun vs H Q E h=>?_) (fun cdv A outer s H vs Q E hr h=>?_)
 · obtain ⟨a,ns,k,rfl,_⟩:=h;rfl
 obtain ⟨a,ns,k,rfl,hS,h0,h1,q⟩:=h
 refine ⟨_,Zf (ZC (i:=2) scB.nd rfl (Or.inl rfl) (Zn D hr (ZS (pv 0) (ZS (pv 1) Za))))
   (Zj (Zs (ZF (ZS (Zi Xp (ZA VB rfl T.abs (by decide +kernel) (ZS (pv 2) Za)) (YX UG rfl T.int (by decide +kernel) (ZS (Ws ZfB (ZA VB rfl T.abs (by decide +kernel) (ZS (pv 2) Za)) (Zi Ud Zb Zb) (ZG _)) Za)))
     (ZS (Zi ZU (Zi ZU (Zi YK (pv 2) Zb) (Zi Xp Zb (pv 1))) Zb) (ZS Zb Za)))))),?_⟩
 refine ⟨_,rfl,_,rfl,a,ns,k,rfl,hS,h0,fun r=>?_⟩
 refine ⟨_,rfl,_,rfl,⟨_,rfl,_,rfl,_,_,rfl,rfl,⟨by decide,by decide,by decide⟩,_,_,rfl,rfl,.inr ⟨_,rfl,?_⟩⟩⟩
 generalize hb:decide ((10:Int) ^ (Int.toNat 18)≤(if r < 0 then -r else r))=bb
 refine ⟨_,_,rfl,rfl,.inr (by cases bb<;>exact ⟨by decide,by decide⟩),_,rfl,_,_,rfl,rfl,(by show (0:Int) < _;decide),_,rfl,_,_,rfl,rfl,.inl ⟨by decide,by decide⟩,_,_,rfl,rfl,_,_,rfl,rfl,(by show 3≤sizeLine;decide),fun p hp=>?_⟩
 refine q p _ hp ⟨_,_,0,Zh,?_,by decide,by decide⟩ (Zl hp _)
 cases bb
 · simp
 · simp only [if_true,Int.mul_one];split<;>omega
theorem scT:Zt ["_law_box_here","_law_many","_law_found","_law_once","_law_twice"] ["_law_box_here","_law_many"] (Zg s_l_take):=⟨rfl,rfl,rfl,by decide +kernel,rfl,by decide +kernel,by decide +kernel⟩
theorem ZdO {f:Addr}{fd:FuncData}(F:Fun K "_law_take" "_law_take" s_l_take f fd):FnOk P w K mg base ZI 1 f fd ["_law_box_here","_law_many"] (Ub 4611686018427387904):=by
 refine F.ok scT (fun vs H Q E h=>?_) (fun cdv A outer s H vs Q E hr h=>?_)
 · obtain ⟨p,n,m,rfl,_⟩:=h;rfl
 obtain ⟨p,n,m,rfl,⟨a,b,c,hp,ha,hc,hcn⟩,hn,hm0,hmM,q⟩:=h
 refine ⟨_,Zf (YB (ZD Zav (Zu Zy (pv 0) Zb (fun _ _=>rfl)) Zb (ZG _))
     (Zf (ZC (i:=2) scT.nd rfl (Or.inl rfl) (Zi YK (Zu Zy (pv 0) Zb (fun _ _=>rfl)) (pv 1)))
       (Zf (Ua (Zi Zcz (Zu Zy (pv 0) Zb (fun _ _=>rfl)) (pv 1)) (Zbd (pv 0) Zb VC)) (Zj (Zs (pv 2))))) Yh)
   (Zf (Ua (Zi ZU (Zu Zy (pv 0) Zb (fun _ _=>rfl)) Zb) (Zbd (pv 0) Zb VC))
   (Zf (ZC (i:=3) scT.nd rfl (Or.inl rfl) (Zi YK (Zi Xp (Zi ZU (Zu Zy (pv 0) Zb (fun _ _=>rfl)) (Zi Xp Zb (Zu Zy (pv 0) Zb (fun _ _=>rfl)))) (Zi ZU Zb (Zu Zy (pv 0) Zb (fun _ _=>rfl)))) Zb))
   (Zf (ZC (i:=4) scT.nd rfl (Or.inl rfl) (Zi YK (Zi Xp (Zi ZU (pv 3) (Zu Zy (pv 0) Zb (fun _ _=>rfl))) (Zi ZU (Zi YK (pv 3) Zb) Zb)) Zb))
   (Zj (Zs (Zi YK (Zi ZdR (Zi YK (Zi ZU (Zi Xp (pv 4) Zb) (pv 3)) Zb) Zb) (pv 1))))))),?_⟩
 refine ⟨_,rfl,p,_,_,_,rfl,rfl,SqL.of hp,rfl,_,_,rfl,rfl,_,rfl,?_⟩
 refine Xc (fun c'=>?_) (fun c'=>?_)
 · have h0:0 < a:=of_decide_eq_true c'
   refine ⟨_,rfl,p,_,_,_,rfl,rfl,SqL.of hp,rfl,_,rfl,_,_,rfl,rfl,hm0,?_⟩
   refine ⟨_,rfl,p,_,_,_,rfl,rfl,SqL.of hp,rfl,_,rfl,_,_,rfl,rfl,⟨hm0,by have h4:m < 4611686018427387904:=hmM;omega⟩,?_⟩
   refine ⟨_,rfl,p,_,_,_,rfl,rfl,hp,rfl,?_⟩
   refine ⟨_,rfl,?_⟩
   exact q _ _ (Int.emod_nonneg _ (by omega)) (Int.emod_lt_of_pos _ hm0) ⟨a / m,b,c,Zh,Int.ediv_nonneg ha (by omega),hc,by omega⟩ (Kp.upd _ _ _)
 · refine ⟨_,rfl,p,_,_,_,rfl,rfl,SqL.of hp,rfl,_,_,rfl,rfl,?_⟩
   refine ⟨_,rfl,p,_,_,_,rfl,rfl,hp,rfl,?_⟩
   have hp1:upd H p (.lst [.int a,.int b,.int (c+1)]) p=some (.lst [.int a,.int b,.int (c+1)]):=Zh
   refine ⟨_,rfl,p,_,_,_,rfl,rfl,SqL.of hp1,rfl,_,rfl,p,_,_,_,rfl,rfl,SqL.of hp1,rfl,_,_,rfl,rfl,.inl ⟨by decide,by decide⟩,_,_,rfl,rfl,_,rfl,p,_,_,_,rfl,rfl,SqL.of hp1,rfl,_,_,rfl,rfl,_,_,rfl,rfl,.inr ⟨by omega,by omega⟩,_,_,rfl,rfl,(by show (0:Int) < _;decide),?_⟩
   generalize hO:((b+48271 * (c+1)) * (39373+(c+1))) % 2147483647=once
   have hO0:0≤once:=by rw [← hO];exact Int.emod_nonneg _ (by decide)
   refine ⟨_,rfl,_,rfl,p,_,_,_,rfl,rfl,SqL.of hp1,rfl,_,_,rfl,rfl,_,rfl,_,_,rfl,rfl,(by show (0:Int) < _;decide),_,_,rfl,rfl,_,_,rfl,rfl,.inr ?_,_,_,rfl,rfl,(by show (0:Int) < _;decide),?_⟩
   · have:=Int.emod_nonneg once (show (40009:Int)≠0 by decide)
     have:=Int.emod_lt_of_pos once (show (0:Int) < 40009 by decide)
     exact ⟨by omega,by omega⟩
   generalize hW:((once+(c+1)) * (once % 40009+7)) % 2147483629=twice
   refine ⟨_,rfl,_,_,rfl,rfl,.inr ⟨by decide,by decide⟩,_,rfl,_,_,rfl,rfl,_,_,rfl,rfl,(by show (0:Int) < _;decide),_,_,rfl,rfl,⟨by decide,by decide⟩,_,rfl,_,_,rfl,rfl,hm0,?_⟩
   exact q _ _ (Int.emod_nonneg _ (by omega)) (Int.emod_lt_of_pos _ hm0) ⟨a,b,c+1,hp1,ha,by omega,by omega⟩ (Kp.upd _ _ _)
end
end K67
set_option maxHeartbeats 2000000
namespace L2
open PySem
def Zaz (pre post:Str)(z:Int)(x:Str):Prop:=∃ c1 c2,x=pre++(⟨#[c1]⟩:Str)++(⟨#[c2]⟩:Str)++post∧ZX a26.cps.toList (z / 26)=some c1∧ZX a26.cps.toList (z % 26)=some c2
theorem ZdL:∀ i j:_root_.Fin 26,a26.cps.toList[i.val]?=a26.cps.toList[j.val]?→i=j:=by decide +kernel
theorem Zbp {xs:List Nat}{r:Int}{c:Nat}(h0:0≤r)(h:ZX xs r=some c):xs[r.toNat]?=some c:=by
 unfold ZX Wx at h
 rw [if_pos h0] at h
 split at h
 · exact h
 · cases h
theorem ZbE {r r':Int}{c:Nat}(h0:0≤r)(h1:r < 26)(h2:0≤r')(h3:r' < 26)(e:ZX a26.cps.toList r=some c)(e':ZX a26.cps.toList r'=some c):r=r':=by
 have:=ZdL ⟨r.toNat,by omega⟩ ⟨r'.toNat,by omega⟩ ((Zbp h0 e).trans (Zbp h2 e').symm)
 have:=congrArg Fin.val this
 simp only at this
 omega
theorem ZdU (x y:Str):(x++y).cps.toList=x.cps.toList++y.cps.toList:=by
 show (x.cps++y.cps).toList=_
 simp
theorem Zeq {pre post:Str}{z z':Int}{x:Str}(h0:0≤z)(h1:z < 676)(h2:0≤z')(h3:z' < 676)(h:Zaz pre post z x)(h':Zaz pre post z' x):z=z':=by
 obtain ⟨c1,c2,rfl,e1,e2⟩:=h
 obtain ⟨d1,d2,e,f1,f2⟩:=h'
 have e:=congrArg (fun s:Str=>s.cps.toList) e
 simp only [ZdU,List.append_assoc] at e
 have e:=List.append_cancel_left e
 simp at e
 obtain ⟨rfl,rfl⟩:=e
 have g1:=ZbE (by omega) (by omega) (by omega) (by omega) e1 f1
 have g2:=ZbE (by omega) (by omega) (by omega) (by omega) e2 f2
 omega
theorem ZdT {r5 stp:Int}{i j:Nat}(hs:stp=1∨stp=27∨stp=5∨stp=251)(hij:i < j)(hj:j≤100)(e:(r5+stp * (0+(i:Int))) % 676=(r5+stp * (0+(j:Int))) % 676):False:=by
 rcases hs with rfl | rfl | rfl | rfl<;>omega
theorem ZbV {pre post:Str}{r5 stp:Int}{xs:List Str}(hs:stp=1∨stp=27∨stp=5∨stp=251)(hl:xs.length≤100)(h:∀(j:Nat)(x:Str),xs[j]?=some x→Zaz pre post ((r5+stp * (0+(j:Int))) % 676) x):xs.Nodup:=by
 refine List.pairwise_iff_getElem.mpr fun i j hi hj hij e=>?_
 have a:=h i _ (List.getElem?_eq_getElem hi)
 have b:=h j _ (List.getElem?_eq_getElem hj)
 rw [e] at a
 exact ZdT hs hij (by omega) (Zeq (Int.emod_nonneg _ (by decide)) (Int.emod_lt_of_pos _ (by decide)) (Int.emod_nonneg _ (by decide)) (Int.emod_lt_of_pos _ (by decide)) a b)
def VJ:Sp:=fun vs H Q _=>∃(p:Addr)(n:Nat)(many:Int)(Δ:Rs),vs=[.ref p,.int many]∧Sep ((p,Bx n)::Δ) H∧n≤900000∧0≤many∧many≤100 ∧
 ∀ (l:Addr) (H':Hp) (xs:List Str),Sep ((l,Wy (xs.map V.str))::(p,Bx (n+20))::Δ) H'→xs.length=many.toNat→(∀ x∈xs,ZK x)→xs.Nodup→Q (.ref l) H'
end L2
set_option maxHeartbeats 4000000
namespace K67
open PySem L2
section
variable {P:Program}{w:World}{K:PySem.W.Frag}{mg:Str→Option Value}{base:Heap}
abbrev nNm:List Str:=["_law_box_here","_law_many","_law_letters","_law_size","_law_stem","_law_first","_law_step","_law_at","_law_found","_law_k","_law_one","_law_other"]
abbrev pnNm:List Str:=["_law_box_here","_law_many"]
theorem scNm:Zt nNm pnNm (Zg s_l_names):=⟨rfl,rfl,rfl,by decide +kernel,rfl,by decide +kernel,by decide +kernel⟩
theorem Zcr {f:Addr}{fd:FuncData}(F:Fun K "_law_names" "_law_names" s_l_names f fd)(T:ZY mg)(DT:UL P w K mg base 1):FnOk P w K mg base ZI 2 f fd pnNm VJ:=by
 refine F.ok scNm (fun vs H Q E h=>?_) (fun cdv A outer s H vs Q E hr h=>?_)
 · obtain ⟨p,n,many,Δ,rfl,_⟩:=h;rfl
 obtain ⟨p,n,many,Δ,rfl,S,hn,h0,h1,q⟩:=h
 have hr1:=hr
 refine' ⟨?t,?h,?r⟩
 case h =>
   conv=>arg 2;whnf
   with_reducible refine' (Zf ?h1 (Zf ?h2 (Zf ?h3 (Zf ?h4 (Zf (XF ?h5 ?h6 ?h7 ?h8 (Zf ?h9 (Zj ?h10)) ?h11) (Zj ?h12))))))
   case h1=>exact Ua (ZJ (Zc Zk (Zc (Zi ZU Zb (Zn DT hr1 (Zc (pv 0) (Zc Zb Za)))) Za))) (Vn rfl (YM (ZV (i:=2) scNm.nd rfl (Or.inr rfl)) (YM (ZV (i:=3) scNm.nd rfl (Or.inl rfl)) Ui)))
   case h2=>exact ZC (i:=4) scNm.nd rfl (Or.inl rfl) (Yd PySem.F.plainAttrs_str PySem.F.slot_str_join PySem.F.type_str_join YN Zk (Zc (Wr (CompOk.of nNm s_l_names rfl rfl (by decide +kernel)) rfl (YY rfl T.range (Zc (Zi Yq (pv 3) Zb) Za))  (fun _ _ _ _ _=>Zu WR (pv 2) (Zn DT hr1 (Zc (pv 0) (Zc Zb Za))) (fun _ _=>rfl))) Za))
   case h3=>exact Zdr (i:=5) (j:=6) (k:=7) rfl scNm.nd rfl rfl rfl (by decide) (by decide) (by decide) rfl rfl rfl (Zc (Zn DT hr1 (Zc (pv 0) (Zc Zb Za))) (Zc (Zu Zy (ZF (Zc Zb (Zc Zb (Zc Zb (Zc Zb Za))))) (Zn DT hr1 (Zc (pv 0) (Zc Zb Za))) (fun _ _=>rfl)) (Zc (Zn DT hr1 (Zc (pv 0) (Zc (Zi Yq (pv 3) Zb) Za))) Za))) rfl
   case h4=>exact ZC (i:=8) scNm.nd rfl (Or.inl rfl) (ZF Za)
   case h5=>exact PassesOwn.never
   case h6=>exact rfl
   case h7=>exact YY rfl T.range (Zc (pv 1) Za)
   case h8=>exact ZV (i:=9) scNm.nd rfl (Or.inl rfl)
   case h9=>exact Ua (ZA VR rfl T.divmod (by decide +kernel) (Zc (Zi YK (Zi ZU (pv 5) (Zi Xp (pv 6) (pv 9))) Zb) (Zc Zb Za))) (Vn rfl (YM (ZV (i:=10) scNm.nd rfl (Or.inl rfl)) (YM (ZV (i:=11) scNm.nd rfl (Or.inl rfl)) Ui)))
   case h10=>exact Yt (Yd PySem.F.plainAttrs_list PySem.F.slot_list_append PySem.F.type_list_append Ya (pv 8) (Zc (Zi ZP (Zi ZP (Zi ZP (Yc Zba (pv 4) Yk (Yl (pv 7))) (Zu WR (pv 2) (pv 10) (fun _ _=>rfl))) (Zu WR (pv 2) (pv 11) (fun _ _=>rfl))) (Yc Zba (pv 4) (Yl (pv 7)) Yk)) Za))
   case h11=>exact fun _=>rfl
   case h12=>exact Zs (pv 8)
 refine ⟨_,rfl,p,_,7,_,rfl,S,by omega,by decide,by decide,fun r1 H1 a0 a1 S1=>⟨_,_,rfl,rfl,(by show 2≤sizeLine;decide),fun t ht=>⟨t,_,rfl,SqT.of Zh,rfl,_,_,rfl,_,_,rfl,rfl,?_⟩⟩⟩
 generalize hE:upd H1 t _=H2
 have S2:=(S1.newE ht hE).tail
 clear hE
 refine ⟨rfl,_,rfl,_,_,rfl,rfl,_,rfl,by omega,by omega,fun D hD=>?_⟩
 have e1:(2+r1 - 2).toNat=r1.toNat:=by omega
 rw [e1]
 refine VQ (ZH (show r1.toNat≤1000 by omega)) S2 hD (fun i ys Δ'=>∃ zs:List Str,ys=zs.map V.str∧(∀ z∈zs,∃ c,z=⟨#[c]⟩∧ZaE c=true)∧Δ'=(p,Bx (n+1+i))::Δ) ⟨[],rfl,(fun _ h=>nomatch h),rfl⟩ ?_ ?_
 · rintro i ys Δ' H' hi hl ⟨zs,rfl,hz,rfl⟩ S'
   refine ⟨_,rfl,_,rfl,p,_,26,_,rfl,S'.pull p,by omega,by decide,by decide,fun r3 H3 b0 b1 S3=>?_⟩
   obtain ⟨c,hc,hcl⟩:=Um (x:=a26) Uu b0 (by rw [Xm];exact b1)
   refine ⟨a26,r3,c,rfl,rfl,by rw [Xm];decide,hc,_,⟨zs++[⟨#[c]⟩],by rw [List.map_append];rfl,?_,rfl⟩,S3.pull D⟩
   intro z hz'
   rcases List.mem_append.mp hz' with h | h
   · exact hz z h
   · rw [List.mem_singleton.mp h];exact ⟨c,rfl,hcl⟩
 rintro ys Δ' H3 ⟨zs,rfl,hz,rfl⟩ hl S3
 rw [List.length_map] at hl
 obtain ⟨g1,g2,g3⟩:=ZbH hz
 refine ⟨_,D,zs,rfl,rfl,SqL.of (S3.get D),by omega,?_⟩
 have S4:=S3.tail
 generalize Txt.join (Str.ofString "") zs=stem at *
 refine ⟨_,rfl,p,_,676,_,rfl,S4,by omega,by decide,by decide,fun r5 H5 b0 b1 S5=>⟨(by show 4≤sizeLine;decide),fun l hl4=>?_⟩⟩
 generalize hE:upd H5 l _=H6
 have S6:=S5.newE hl4 hE
 clear hE
 refine ⟨_,rfl,p,_,4,_,rfl,S6.pull p,by omega,by decide,by decide,fun r7 H7 c0 c1 S7=>?_⟩
 obtain ⟨sv,hsm,hsv⟩:=ZdG (xs:=[.int 1,.int 27,.int 5,.int 251]) c0 c1
 obtain ⟨stp,rfl,hst,hst4⟩:∃ z:Int,sv=.int z∧(0≤z∧z≤251)∧(z=1∨z=27∨z=5∨z=251):=by
   simp only [List.mem_cons,List.not_mem_nil,or_false] at hsm
   rcases hsm with rfl | rfl | rfl | rfl<;>exact ⟨_,rfl,⟨by decide,by decide⟩,by decide⟩
 refine ⟨l,_,_,_,rfl,rfl,SqL.of (S7.get l),hsv,?_⟩
 have S8:=S7.drop l
 refine ⟨_,rfl,_,rfl,_,_,rfl,rfl,p,_,_,_,rfl,S8,by omega,by omega,by omega,fun r9 H9 d0 d1 S10=>⟨_,_,_,rfl,?_⟩⟩
 refine ⟨(by show 0≤sizeLine;decide),fun fl hfl=>?_⟩
 generalize hE:upd H9 fl _=H11
 have S11:=S10.newE hfl hE
 clear hE
 refine ⟨_,rfl,many,rfl,by omega,by omega,?_⟩
 refine Wj (fun i σ H'=>∃ x9 x10 x11 xs,σ=[some (.ref p),some (.int many),some (.str a26),some (.int (2+r1)),some (.str stem),some (.int r5),some (.int stp),some (.int r9),some (.ref fl),x9,x10,x11]∧Sep ((fl,Wy (xs.map V.str))::(p,Bx (n+20))::Δ) H'∧xs.length=i∧(∀ x∈xs,ZK x)∧∀ (j:Nat) (x:Str),xs[j]?=some x→Zaz (Txt.slice stem none (some r9)) (Txt.slice stem (some r9) none) ((r5+stp * (0+(j:Int))) % 676) x)
   ⟨_,_,_,[],rfl,(S11.pull p).le (by omega) |>.pull fl,rfl,(fun _ h=>nomatch h),fun _ _ h=>nomatch h⟩ ?_ ?_
 · rintro i σ H' hi ⟨x9,x10,x11,xs,rfl,S',hxl,hxs,hnm⟩
   have hb:0≤stp * (0+(i:Int)):=Int.mul_nonneg hst.1 (by omega)
   refine ⟨_,rfl,_,rfl,_,rfl,_,_,rfl,rfl,.inl ⟨by omega,by omega⟩,_,_,rfl,rfl,_,_,rfl,rfl,(by show (0:Int) < 676;decide),?_⟩
   obtain ⟨z,hz⟩:∃ z:Int,(r5+stp * (0+(i:Int))) % 676=z:=⟨_,rfl⟩
   have hz0:0≤z:=by rw [← hz];exact Int.emod_nonneg _ (by decide)
   have hz1:z < 676:=by rw [← hz];exact Int.emod_lt_of_pos _ (by decide)
   refine ⟨z,26,congrArg (fun y=>[V.int y,V.int 26]) hz,⟨by decide,by decide⟩,fun t2 ht2=>⟨t2,_,rfl,SqT.of Zh,rfl,_,_,rfl,_,_,rfl,rfl,?_⟩⟩
   generalize hE:upd H' t2 _=H12
   have S12:=(S'.newE ht2 hE).tail
   clear hE
   obtain ⟨c1',hc1,hcl1⟩:=Um (x:=a26) Uu (r:=z / 26) (by omega) (by rw [Xm];omega)
   obtain ⟨c2',hc2,hcl2⟩:=Um (x:=a26) Uu (r:=z % 26) (by omega) (by rw [Xm];omega)
   have hsl:=ZbP (x:=stem) d0 (by omega)
   refine ⟨_,rfl,.inl ⟨rfl,_,SqL.of (S12.get fl)⟩,_,rfl,_,rfl,r9,rfl,stem,rfl,ZH (show stem.length≤1000 by omega),_,rfl,_,rfl,a26,_,c1',rfl,rfl,by rw [Xm];decide,hc1,_,_,rfl,rfl,ZH (show _≤1000 by rw [YF];omega),?_⟩
   refine ⟨_,rfl,_,rfl,a26,_,c2',rfl,rfl,by rw [Xm];decide,hc2,_,_,rfl,rfl,ZH (show _≤1000 by rw [YH,YF,YF];omega),_,rfl,_,rfl,r9,rfl,stem,rfl,ZH (show stem.length≤1000 by omega),_,_,rfl,rfl,ZH (show _≤1000 by rw [YH,YH,YF,YF];omega),?_⟩
   refine ⟨fl,_,_,rfl,rfl,S12.get fl,Wp (show _≤1000 by rw [List.length_map];omega),?_⟩
   have S13:=S12.put fl (.lst (xs.map V.str++[.str (Txt.slice stem none (some r9)++(⟨#[c1']⟩:Str)++(⟨#[c2']⟩:Str)++Txt.slice stem (some r9) none)]))
   refine ⟨_,_,_,xs++[Txt.slice stem none (some r9)++(⟨#[c1']⟩:Str)++(⟨#[c2']⟩:Str)++Txt.slice stem (some r9) none],rfl,by rw [List.map_append];exact S13,by simp [hxl],fun x hx=>?_,fun j x hx=>?_⟩
   · rcases List.mem_append.mp hx with h | h
     · exact hxs x h
     · rw [List.mem_singleton.mp h]
       refine ⟨?_,?_,WK (WK (WK (Ue g3) (Vq hcl1)) (Vq hcl2)) (Ue g3)⟩<;>(rw [YH,YH,YH,YF,YF];omega)
   · by_cases hj:j < xs.length
     · rw [List.getElem?_append_left hj] at hx;exact hnm j x hx
     · have hj2:j=i:=by
         have:=(List.getElem?_eq_some_iff.mp hx).1
         rw [List.length_append,List.length_singleton] at this;omega
       subst hj2
       rw [List.getElem?_append_right (by omega),show j - xs.length=0 by omega] at hx
       cases (show some _=some x from hx)
       rw [hz];exact ⟨c1',c2',rfl,hc1,hc2⟩
 · rintro σ H' ⟨x9,x10,x11,xs,rfl,S',hxl,hxs,hnm⟩
   exact ⟨_,rfl,q fl H' xs S' hxl hxs (ZbV hst4 (by omega) hnm)⟩
end
end K67
namespace L2
open PySem
theorem Wh {M:Model}{Γ:Ctx}{p:Pos}{t:Sem Fin}{fs:List Frame}{s s':Shared}{e:End}(h:Runs M Γ p t fs s e s'):s.toks≤s'.toks:=by
 induction h<;>first
   | exact Nat.le_refl _
   | assumption
   | (rename_i ih;exact Nat.le_trans (Nat.le_succ _) ih)
   | (rename_i ih1 ih2;exact Nat.le_trans ih1 ih2)
   | (simp only [Shared.setGen] at *;omega)
theorem Zas {M:Model}{Γ:Ctx}{p:Pos}{g:Nat}{r:Resume}{s s':Shared}{res:GenResult}(h:Wakes M Γ p g r s res s'):s.toks≤s'.toks:=by
 unfold Wakes at h
 split at h
 · exact h.elim
 · split at h
   · obtain ⟨e1,s1,h1,_,_,rfl⟩:=h;have:=Wh h1;exact this
   · rw [h.2];exact Nat.le_refl _
   · rw [h.2];exact Nat.le_refl _
 · obtain ⟨e1,s1,h1,_,_,rfl⟩:=h;have:=Wh h1;exact this
 · rw [h.2];exact Nat.le_refl _
 · rw [h.2];exact Nat.le_refl _
theorem Zdv {α:Type}{M:Model}{Γ:Ctx}(n:Nat):∀(t:Sem α){Q:α→Pos→Shared→Prop}{E:Value→Pos→Shared→Prop}{p:Pos}{s:Shared},n≤s.toks→Sem.wp M Γ t Q E p s→Sem.wp M Γ t (fun a p' s'=>n≤s'.toks∧Q a p' s') (fun a p' s'=>n≤s'.toks∧E a p' s') p s:=by
 intro t
 induction t with
 | pure a=>intro Q E p s h w;rw [Sem.wp] at w ⊢;exact ⟨h,w⟩
 | raise a=>intro Q E p s h w;rw [Sem.wp] at w ⊢;exact ⟨h,w⟩
 | call c hd g l k ih =>
   intro Q E p s h w
   rw [Sem.wp] at w ⊢
   obtain ⟨r,s1,h1,h2⟩:=w
   exact ⟨r,s1,h1,ih r (Nat.le_trans h (Wh h1)) h2⟩
 | resume g r l k ih =>
   intro Q E p s h w
   rw [Sem.wp] at w ⊢
   obtain ⟨res,s1,h1,h2⟩:=w
   exact ⟨res,s1,h1,ih res (Nat.le_trans h (Zas h1)) h2⟩
 | fresh k ih=>intro Q E p s h w;rw [Sem.wp] at w ⊢;exact ih _ (Nat.le_succ_of_le h) w
 | load a b k ih=>intro Q E p s h w;rw [Sem.wp] at w ⊢;obtain ⟨o,h1,h2⟩:=w;exact ⟨o,h1,ih _ h h2⟩
 | update a b f k ih=>intro Q E p s h w;rw [Sem.wp] at w ⊢;exact ⟨w.1,ih _ h w.2⟩
 | choose a b k ih=>intro Q E p s h w;rw [Sem.wp] at w ⊢;exact ⟨w.1,ih _ h w.2⟩
 | genState g k ih=>intro Q E p s h w;rw [Sem.wp] at w ⊢;obtain ⟨o,h1,h2⟩:=w;exact ⟨o,h1,ih _ h h2⟩
 | _=>intro Q E p s h w;rw [Sem.wp] at w ⊢;first | exact w.elim | (rename_i ih;exact ih _ h w)
theorem Xh {α:Type}{M:Model}{A:Around}{t:Sem α}{Q:α→Shared→Prop}{E:Value→Shared→Prop}{s:Shared}{n:Nat}(h:n≤s.toks)(w:wpAny M A t Q E s):wpAny M A t (fun a s'=>n≤s'.toks∧Q a s') (fun a s'=>n≤s'.toks∧E a s') s :=
 fun Γ p hΓ=>Zdv n t h (w Γ p hΓ)
end L2
set_option maxHeartbeats 2000000
namespace L2
open PySem PySem.W PySem.Spec PyProof.Rows
def CR1 (outer:List Env)(P:Program)(w:World)(H:Hp)(s:Shared)(Q:VK)(r:Result)(s':Shared):Prop:=1≤s'.toks∧CR ZI outer P w H s Q (fun _ _ _=>False) r s'
def Fn1 (P:Program)(w:World)(K:PySem.W.Frag)(mg:Str→Option Value)(base:Heap)(k:Nat)(f:Addr)(fd:FuncData)(px:Str)(sp:Sp):Prop :=
 ∀ (A:Around) (outer:List Env) (s:Shared) (H:Hp) (args:Args) (u:Value) (v:V) (Q:VK),Room k A→Vh P w K mg base A outer s H→BindsTo s fd args [(px,u)]→RelV v u→sp [v] H Q (fun _ _ _=>False) →
   codeAny (model P w) A (.call (.ref f) args) (CR1 outer P w H s Q) s
section
variable {P:Program}{w:World}{K:PySem.W.Frag}{mg:Str→Option Value}{base:Heap}
theorem Fun.ok1 {x qual px:Str}{st:Stmt}{f:Addr}{fd:FuncData}{k:Nat}{sp:Sp}(F:Fun K x qual st f fd)(S:Zt [px] [px] (Zg st))(hc:∀ y∈(Zg st).names,y.2≠.cell)(hce:∀ n,cellsFrom n (Zg st).names []=[])(hl:(Zg st).names.lookup px=some .local)
   (hbody:∀ (cdv:Value) (A:Around) (outer:List Env) (s:Shared) (H:Hp) (vs:List V) (Q:VK) (E:XK),Room k (A.deeper (envOfC qual (Zg st) s.heap.objs.size f cdv))→sp vs H Q E →
     ∃ t,PSs (XE ZI P w K mg base [px] qual (Zg st) f cdv A outer s H E).nox (Xj st) t∧t { nx:=fun _ H'=>Q .non H',rt:=Q } (YJ [px] vs) H):Fn1 P w K mg base (k+1) f fd px sp:=by
 obtain ⟨oc,od,kV,doc,pm,an,cdv,ct,osl,rfl,lk,hcd⟩:=F.ex
 intro A outer s H args u v Q hr e0 hb r hsp
 have KX:K.In s.heap:=e0.mod.kin.keeps fun b o e=>(e0.bs b o e).1
 have lim:s.heap.NoLimit:=e0.mod.nolimit.keeps fun b o e=>(e0.bs b o e).1
 refine codeAny_call_function hr.depth (KX _ _ lk) rfl S.co S.gen rfl (PySem.W.codeRec_of KX hcd) (hb _ _ _ _ ?_)
 refine wpAny_newFunctionEnv hc (fun y hy=>by rw [List.mem_singleton.mp hy];exact hl) (fun h₁ hns₁ hsb₁=>?_) S.kind
 have old:∀ b o,s.heap.get? b=some o→h₁.get? b=some o:=fun b o e=>hsb₁.extBut b o (Nat.ne_of_lt (Heap.lt_size e)) (Heap.get?_push_of_some _ e)
 refine ⟨lim.keeps old,codeAny_func ?_⟩
 have henv:newEnv (Zg st) s.heap.objs.size mainGlobals [] (qual++".<locals>.") (some f) cdv none builtinsNs=envOfC qual (Zg st) s.heap.objs.size f cdv:=by unfold newEnv envOfC;rw [hce]
 obtain ⟨t,ht,hq⟩:=hbody cdv A outer s H [v] Q (fun _ _ _=>False) (hr.deeper _) hsp
 have I:Inv (XE ZI P w K mg base [px] qual (Zg st) f cdv A outer s H (fun _ _ _=>False)).nox [] (YJ [px] [v]) H { s with heap:=h₁,toks:=s.toks+1 }:=by
   have nocell:∀ (y:Str) (c:Addr),¬ (cellsFrom (s.heap.objs.size+1) (Zg st).names []).lookup y=some c:=fun y c z=>by rw [hce] at z;cases z
   refine ⟨⟨e0.mod,S.kind,rfl,rfl,Nat.le_refl _,fun y z c h1 h2=>absurd h1 (nocell y c),fun y hy=>?_,fun y c _ h=>absurd h (nocell y c),fun _=>hr.hd,Around.frames_deeper e0.frames,.inr ⟨rfl,rfl⟩,(fun b z=>nomatch z),e0.bs,e0.bsz,(fun _ _ _ z=>nomatch z),(fun _ z=>nomatch z),e0.funs,e0.frf⟩,
     rfl,e0.bare,Un.kept old,⟨_,hns₁,fun i y z h1 h2 h3=>?_⟩,fun y c h=>absurd h (nocell y c),e0.hok.fresh (Nat.le_refl _),fun y c h=>absurd h (nocell y c),(fun p hp=>nomatch hp),e0.hok.kept old,rfl⟩
   · have hy:(Zg st).names.lookup y=some .cell∨(Zg st).names.lookup y=some .free:=hy
     rcases hy with hy | hy
     · exact absurd rfl (hc _ (PySem.mem_of_lookup hy))
     · exact absurd rfl (S.nofree _ (PySem.mem_of_lookup hy))
   · cases i with
     | zero =>
       cases (show some px=some y from h1)
       cases (show some (some v)=some (some z) from h2)
       exact ⟨u,r,.inl ⟨hl,by show ([(px,u)].reverse).lookup px=some u;simp⟩⟩
     | succ i=>exact absurd h1 (by simp [XE])
 rw [henv]
 refine wpAny_mono (Xh (n:=1) (by show 1≤s.toks+1;omega) (ht [] _ (YJ [px] [v]) H _ I hq)) (fun fl s' hs=>?_) fun e s' hs=>False.elim hs.2
 obtain ⟨hk,hs⟩:=hs
 have fin:∀ {σ':St} {H':Hp} {v:V} {u:Value},Inv (XE ZI P w K mg base [px] qual (Zg st) f cdv A outer s H (fun _ _ _=>False)).nox [] σ' H' s'→RelV v u→Q v H'→CE outer P w H s Q u s' :=
   fun {σ' H' v u} J rv q=>⟨v,H',J.os,J.bare,J.base,J.hok,rv,q⟩
 cases fl with
 | ret u=>obtain ⟨v,σ',H',J,rv,q⟩:=hs;exact ⟨hk,fin J rv q⟩
 | next=>obtain ⟨σ',H',J,q⟩:=hs;exact ⟨hk,fin (v:=V.non) (u:=Value.none) J rfl q⟩
 | brk=>obtain ⟨_,_,_,q⟩:=hs;exact False.elim q
 | cont=>obtain ⟨_,_,_,q⟩:=hs;exact False.elim q
end
end L2
set_option maxHeartbeats 2000000
namespace L2
open PySem PySem.W PySem.Spec PyProof.Rows
def Zco (P:Program)(w:World)(K:PySem.W.Frag)(mg:Str→Option Value)(base:Heap)(k:Nat)(x:Str)(px:Str)(sp:Sp):Prop :=
 ∃ f fd,Fn1 P w K mg base k f fd px sp∧Binds K fd [px] []∧PySem.W.keepIn K (.ref f)=true∧mg x=some (.ref f)
def PE3 (X:Cx)(e:Expr)(t:TE):Prop :=
 ∀ (pins:List (Addr×Obj)) (s:Shared) (σ:St) (H:Hp) (Q:VK),Inv X pins σ H s→1≤s.toks→t σ H Q→wpAny (model X.prog X.w) X.A (eval e X.env) (EP X pins σ Q) X.xe s
def PSs3 (X:Cx)(st:List Stmt)(t:TS):Prop :=
 ∀ (pins:List (Addr×Obj)) (s:Shared) (σ:St) (H:Hp) (D:Wa),Inv X pins σ H s→1≤s.toks→t D σ H→wpAny (model X.prog X.w) X.A (execs st X.env) (SP X pins D) X.xe s
theorem PE.three {X:Cx}{e:Expr}{t:TE}(h:PE X e t):PE3 X e t:=fun pins s σ H Q I _ q=>h pins s σ H Q I q
def NBk (K:PySem.W.Frag):Prop:=PySem.W.nsIn K cStatics sharingNotToldKey=some none
theorem Zdu {K:PySem.W.Frag}{h:Heap}{a:Addr}{m:Str→Option Value}{n:Str}(X:K.In h)(G:h.Ns a m)(e:nsIn K a n=some none):m n=none:=by
 obtain ⟨o,es,ep,ho,hd,_,hf⟩:=G
 unfold nsIn at e
 split at e
 · rename_i c d es' n' sl q
   have:=X _ _ q
   rw [ho] at this
   cases this
   simp only at hd
   cases hd
   split at e
   · cases e
   · rename_i z
     rw [← hf];unfold nsFind findBy;rw [← Array.find?_toList,z];rfl
 · cases e
theorem ZdC {K:PySem.W.Frag}{h:Heap}(B:NBk K)(X:K.In h)(l:h.NoLimit):NoneBooked h:=by
 obtain ⟨mc,g,_⟩:=l
 exact ⟨mc,g,Zdu X g B⟩
def ZfA (to:TE)(y z:Str):TE:=fun σ H Q=>to σ H fun x H1=>∃ a,x=.str a∧a.length≤4095∧Q (.str (Txt.replace a y z)) H1
section
variable {X:Cx}{o:Expr}{to:TE}{y z:Str}{apos cpos p1 p2:Pos}
theorem Zam {j1 j2}(B:NBk X.K)(hz:z.length≤4095)(ho:PE3 X o to)
   (hbase:attributeBase o "replace" X.env (eval o X.env)=eval o X.env:=by rfl)
   (hfew:((backTo cpos (starEach [.Constant (.str y) j1 p1,.Constant (.str z) j2 p2] X.env)).all (fun x=>!x.1)&&(backToKw cpos (keywordEach [] X.env)).all (fun x=>x.1.isSome)
     && decide (([.Constant (.str y) j1 p1,.Constant (.str z) j2 p2]:List Expr).length+([]:List Keyword).length+(if ([]:List Keyword).isEmpty then 0 else 1) < 30))=true:=by rfl)
   (hline:(apos.endLine == cpos.line)=true:=by rfl) :
   PE3 X (.Call (.Attribute o "replace" apos) [.Constant (.str y) j1 p1,.Constant (.str z) j2 p2] [] cpos) (ZfA to y z):=by
 intro pins s σ H Q I hk h
 refine wpAny_Call_method_late hbase hfew hline rfl (Zm (wpAny_mono (Xh hk (ho pins s σ H _ I hk h)) (fun _ _ q=>q) fun _ _ q=>q.2) fun v s1 ⟨hk1,x,H1,I1,r1,a,ex,ha,q1⟩=>?_)
 subst ex
 obtain ⟨h1,h2⟩:=ZbS (T:="str") I1 r1 rfl
 obtain ⟨t,rfl⟩:=(show ∃ t,v=Value.str a t from r1)
 refine ⟨"str","str.replace",PySem.F.plainAttrs_str,PySem.F.slot_str_replace,PySem.F.type_str_replace,h1,h2,?_⟩
 refine Calls.callWith_builtin rfl (Calls.evalArgs_plain ?_)
 show wpAny _ _ (spliced ((false,eval (.Constant (.str y) j1 p1) X.env)::backTo cpos (starEach [.Constant (.str z) j2 p2] X.env))) _ _ s1
 refine Calls.spliced_cons (wpAny_Constant_str ?_)
 show wpAny _ _ (spliced ((false,eval (.Constant (.str z) j2 p2) X.env)::backTo cpos (starEach [] X.env))) _ _ _
 refine Calls.spliced_cons (wpAny_Constant_str (Calls.spliced_nil ?_))
 have I2:Inv X pins σ H1 { s1 with toks:=s1.toks+1+1 }:=I1.tok _
 have nb:NoneBooked ({ s1 with toks:=s1.toks+1+1 }:Shared).heap:=ZdC B I2.kIn I2.nolimit
 refine SC.replaceW2 4095 4095 (by decide) ?_ ?_ ?_ ha hz (fun t' k=>⟨.str (Txt.replace a y z),H1,I2.tok k,⟨_,rfl⟩,q1⟩) nb
 · show s1.toks≠0;omega
 · show s1.toks+1≠0;omega
 · show s1.toks≠s1.toks+1;omega
theorem ZbJ {i:Nat}{x:Str}{e:Expr}{te:TE}{pos pos':Pos}{rest:List Stmt}{u:TS}(hN:X.N.Nodup)(hi:X.N[i]?=some x)(hx:Loc X.env.scope x)(he:PE3 X e te)(h2:PSs X rest u)(hs:swapsWith e (some (.Name x pos')) pos.line X.env=pure false:=by rfl)(hf:X.fn x=true∨X.env.scope.names.lookup x=some .local:=by first | exact .inl rfl | exact .inr rfl) :
   PSs3 X (.Assign [.Name x pos'] e pos::rest) (Zcu (ZaX te (Vb i)) u):=by
 intro pins s σ H D I hk h
 refine wpAny_execs_cons (wpAny_Assign_Name (Zm (he pins s σ H _ I hk h) fun v s1 ⟨y,H1,I1,r1,q1⟩=>?_) hs)
 exact Yp I1 hN hi hx r1 (fun s2 I2=>h2 pins s2 _ _ D I2 q1) hf
theorem ZdS {k:Nat}{f px:Str}{sp:Sp}{arg:Expr}{te:TE}{body rest:List Stmt}{tb u:TS}{p pos pos2:Pos}(D1:Zco X.prog X.w X.K X.mg X.base k f px sp)(hr:Room k X.A)(ha:PE X arg te)(hb:PSs X body tb)(h3:PSs3 X rest u)
   (hg:Gl X f:=by rfl) (hdb:(f == ("__debug__":Str))=false:=by decide) (hst:starEach [arg] X.env=(false,eval arg X.env)::starEach [] X.env:=by rfl)
   (hit:∀ whole,isTrue (.Call (.Name f p) [arg] [] pos) X.env whole=(do let v ← whole;standAt (Expr.Call (.Name f p) [arg] [] pos).pos;holding [v] (truthy v)):=by intro _;rfl) :
   PSs X (.If (.Call (.Name f p) [arg] [] pos) body [] pos2::rest) (Zcu (tIfS (tB (UV sp [] E0 (Xg te Vr))) tb Zde) u):=by
 obtain ⟨fa,fd,F,hbd,kp,hm⟩:=D1
 intro pins s σ H D I h
 have W:wpAny (model X.prog X.w) X.A (exec (.If (.Call (.Name f p) [arg] [] pos) body [] pos2) X.env) (fun fl s1=>1≤s1.toks∧SP X pins { D with nx:=u D } fl s1) X.xe s:=by
   refine wpAny_If (isTrue_plain ?_ (hit _))
   refine wpAny_Call_Name_kw (Ug I hg hm ?_ hdb)
   refine PySem.W.callWith_K (h₀:=X.base) I.ok.mod.kin kp ?_ hst rfl
   rw [hst]
   show wpAny _ _ (spliced ((false,eval arg X.env)::backTo pos (starEach [] X.env))) _ _ s
   refine Calls.spliced_cons (Zm (ha pins s σ H _ I h) fun v s1 ⟨x,H1,I1,r1,q1⟩=>Calls.spliced_nil ⟨I1.kIn,?_⟩)
   refine wpAny_call (codeAny_mono (F X.A X.stack s1 H1 ⟨[v],[]⟩ v x _ hr I1.env0 (hbd s1 [v] I1.kIn rfl) r1 q1) fun r s' hq=>?_)
   cases r with
   | error e=>exact False.elim hq.2
   | ok fl =>
     cases fl with
     | next=>exact False.elim hq.2
     | brk=>exact False.elim hq.2
     | cont=>exact False.elim hq.2
     | ret w2 =>
       obtain ⟨hk,hq⟩:=hq
       obtain ⟨v2,H2,I2,rv,d,e,q⟩:=I1.after hq
       subst e
       cases rv
       refine wpAny_truthy_bool ?_
       cases d with
       | true=>exact wpAny_mono (Xh hk (hb pins s' σ H2 _ I2 q)) (fun _ _ z=>z) fun _ _ z=>z.2
       | false=>exact wpAny_mono (Xh hk (Yh (X:=X) pins s' σ H2 _ I2 q)) (fun _ _ z=>z) fun _ _ z=>z.2
 refine wpAny_execs_cons (Zm W fun fl s1 ⟨hk,q⟩=>?_)
 cases fl with
 | next=>obtain ⟨σ',H',I',q⟩:=q;exact h3 pins s1 σ' H' D I' hk q
 | ret v=>exact q
 | brk=>exact q
 | cont=>exact q
end
end L2
set_option maxHeartbeats 2000000
namespace L2
open PySem PySem.Spec PyProof.Rows
def Ym (c:Nat)(zs:List Nat)(l:List Nat):List Nat:=l.flatMap fun k=>if k=c then zs else [k]
theorem Ur (c:Nat)(zs a b:List Nat):Ym c zs (a++b)=Ym c zs a++Ym c zs b:=List.flatMap_append
theorem WG (c:Nat)(zs:List Nat):∀ l:List Nat,c ∉ l→Ym c zs l=l
 | [],_=>rfl
 | k::r,h=>by
   have h1:¬ k=c:=fun e=>h (e ▸ List.mem_cons_self ..)
   have ih:=WG c zs r fun m=>h (List.mem_cons_of_mem _ m)
   unfold Ym at ih ⊢
   rw [List.flatMap_cons,if_neg h1,ih];rfl
theorem Vv (c:Nat)(zs:List Nat):∀ parts:List Str,(∀ p∈parts,c ∉ p.cps.toList)→Ym c zs (Str.join ⟨#[c]⟩ parts).cps.toList=(Str.join ⟨zs.toArray⟩ parts).cps.toList
 | [],_=>rfl
 | [p],h=>WG c zs _ (h p (List.mem_singleton.mpr rfl))
 | p::q::r,h=>by
   have ih:=Vv c zs (q::r) fun a ha=>h a (List.mem_cons_of_mem _ ha)
   show Ym c zs (p++⟨#[c]⟩++Str.join ⟨#[c]⟩ (q::r)).cps.toList=(p++⟨zs.toArray⟩++Str.join ⟨zs.toArray⟩ (q::r)).cps.toList
   simp only [Str.cps_append,Array.toList_append]
   rw [Ur,Ur,ih,WG c zs _ (h p (List.mem_cons_self ..))]
   have:Ym c zs [c]=zs:=by simp [Ym]
   rw [this]
theorem XX (x:Str)(c:Nat)(zs:List Nat):(Txt.replace x ⟨#[c]⟩ ⟨zs.toArray⟩).cps.toList=Ym c zs x.cps.toList:=by
 rw [StrLaws.replace_one,← Vv c zs _ (StrLaws.split_free x c),StrLaws.join_split]
def Wk (l:List Nat):List Nat:=l.flatMap fun k=>if k=39∨k=92 then [92,k] else [k]
theorem Zaa:∀ l:List Nat,Ym 39 [92,39] (Ym 92 [92,92] l)=Wk l
 | []=>rfl
 | k :: r=>by
   have ih:=Zaa r
   have e:Ym 92 [92,92] (k::r)=(if k=92 then [92,92] else [k])++Ym 92 [92,92] r:=rfl
   rw [e,Ur,ih]
   show _=(if k=39∨k=92 then [92,k] else [k])++Wk r
   congr 1
   by_cases h:k=92
   · subst h;rfl
   · by_cases h2:k=39
     · subst h2;rfl
     · rw [if_neg h,if_neg (by omega)];simp [Ym,h2]
def Xz:V→Str
 | .int i=>Str.ofString (toString i)
 | .str x=>⟨(39::Wk x.cps.toList++[39]).toArray⟩
 | _=>""
theorem Uh:∀ l:List Nat,(Wk l).length≤2 * l.length
 | []=>by decide
 | k::r=>by
   have ih:=Uh r
   have e:Wk (k::r)=(if k=39∨k=92 then [92,k] else [k])++Wk r:=rfl
   have h2:(if k=39∨k=92 then [92,k] else [k]).length≤2:=by split<;>simp
   rw [e,List.length_append,List.length_cons]
   omega
theorem WL (c:Nat)(z:Nat)(w:Nat):∀ l:List Nat,(Ym c [z,w] l).length≤2 * l.length
 | []=>Nat.le_refl _
 | k::r=>by
   have ih:=WL c z w r
   have e:Ym c [z,w] (k::r)=(if k=c then [z,w] else [k])++Ym c [z,w] r:=rfl
   have h2:(if k=c then [z,w] else [k]).length≤2:=by split<;>simp
   rw [e,List.length_append,List.length_cons]
   omega
section
variable {X:Cx}
end
theorem tj (s:Str)(l:List Str):Txt.join s l=Str.join s l:=by unfold Txt.join;rw [StrLaws.glued_eq_join]
theorem UC:∀ zs:List Str,(Str.join "" zs).cps.toList=zs.flatMap fun z=>z.cps.toList
 | []=>rfl
 | [z]=>by show z.cps.toList=_;simp
 | p::q::r=>by
   have ih:=UC (q::r)
   show (p++(Str.ofString "")++Str.join "" (q::r)).cps.toList=_
   simp only [Str.cps_append,Array.toList_append]
   rw [ih]
   show p.cps.toList++[]++_=p.cps.toList++_
   rw [List.append_nil];rfl
theorem Zcg (zs:List Str):(Txt.join "" zs).cps.toList=zs.flatMap fun z=>z.cps.toList:=by rw [tj];exact UC zs
def XW (c:Nat):Str:=⟨(if c=39∨c=92 then [92,c] else [c]).toArray⟩
theorem UJ (l:List Nat):(Txt.join "" (l.map XW)).cps.toList=Wk l:=by
 rw [Zcg,List.flatMap_map];rfl
theorem ZcP (c:Nat):Txt.mul "\\" (if (if false = true then !Wm (.str ⟨#[c]⟩) [.str "'", .str "\\"] else Wm (.str ⟨#[c]⟩) [.str "'", .str "\\"])=true then 1 else 0)++(⟨#[c]⟩:Str)=XW c:=by
 have e:Wm (.str ⟨#[c]⟩) [.str "'",.str "\\"]=decide (c=39∨c=92):=by
   have h1:Ww (.str "'") (.str ⟨#[c]⟩)=decide (c=39):=by
     show decide ((Str.ofString "'")=(⟨#[c]⟩:Str))=_
     by_cases h:c=39
     · subst h;rw [decide_eq_true rfl,decide_eq_true (by decide +kernel)]
     · rw [decide_eq_false h,decide_eq_false fun z=>h (by have:=congrArg (fun s:Str=>s.cps.toList) z;simpa [show (Str.ofString "'").cps.toList=[39] by decide +kernel] using this.symm)]
   have h2:Ww (.str "\\") (.str ⟨#[c]⟩)=decide (c=92):=by
     show decide ((Str.ofString "\\")=(⟨#[c]⟩:Str))=_
     by_cases h:c=92
     · subst h;rw [decide_eq_true rfl,decide_eq_true (by decide +kernel)]
     · rw [decide_eq_false h,decide_eq_false fun z=>h (by have:=congrArg (fun s:Str=>s.cps.toList) z;simpa [show (Str.ofString "\\").cps.toList=[92] by decide +kernel] using this.symm)]
   unfold Wm
   rw [List.any_cons,List.any_cons,List.any_nil,h1,h2,Bool.or_false]
   by_cases a:c=39<;>by_cases b:c=92<;>simp [a,b]
 rw [e,if_neg (show ¬ (false=true) by decide)]
 unfold XW
 by_cases h:c=39∨c=92
 · rw [decide_eq_true h,if_pos rfl,if_pos h]
   apply Xl
   simp only [Str.cps_append,Array.toList_append]
   show (Str.ofString "\\").cps.toList++[c]=[92,c]
   rw [show (Str.ofString "\\").cps.toList=[92] by decide +kernel];rfl
 · rw [decide_eq_false h,if_neg (by decide),if_neg h]
   apply Xl
   simp only [Str.cps_append,Array.toList_append]
   show []++[c]=[c]
   rfl
theorem ZfD (b:Bool):MulOk "\\" (if b=true then 1 else 0):=by
 cases b
 · exact ⟨by decide,fun h=>absurd (by decide) h,fun h=>absurd (by decide) h⟩
 · exact ⟨by decide,(fun _ h=>absurd h (by decide)),fun _ h=>absurd h (by decide)⟩
theorem Zed (b:Bool):(Txt.mul "\\" (if b=true then 1 else 0)).length≤1:=by cases b<;>decide +kernel
theorem Zcm (c:Nat):(XW c).length≤2:=by
 show (if c=39∨c=92 then [92,c] else [c]).toArray.size≤2
 split<;>simp
theorem VH:∀ l:List Nat,((l.map XW).map (·.length)).sum≤2 * l.length
 | []=>by decide
 | c::r=>by
   have h1:=VH r
   have h2:=Zcm c
   rw [List.map_cons,List.map_cons,List.sum_cons,List.length_cons];omega
theorem ZcE (x:Str):(Str.ofString "'"++Txt.join "" (x.cps.toList.map XW))++Str.ofString "'"=Xz (.str x):=by
 apply Xl
 simp only [Str.cps_append,Array.toList_append]
 rw [UJ,show (Str.ofString "'").cps.toList=[39] by decide +kernel];rfl
theorem Zbm (x:Str):(Str.ofString "'"++Txt.replace (Txt.replace x "\\" "\\\\") "'" "\\'") ++ Str.ofString "'"=Xz (.str x):=by
 apply Xl
 simp only [Str.cps_append,Array.toList_append]
 have e1:(Str.ofString "\\")=⟨#[92]⟩:=by decide +kernel
 have e2:(Str.ofString "\\\\")=⟨([92,92]:List Nat).toArray⟩:=by decide +kernel
 have e3:(Str.ofString "'")=⟨#[39]⟩:=by decide +kernel
 have e4:(Str.ofString "\\'")=⟨([92,39]:List Nat).toArray⟩:=by decide +kernel
 rw [e1,e2,e3,e4,XX,XX,Zaa];rfl
theorem Zcx (x:Str):(Txt.replace x "\\" "\\\\").length≤2 * x.length:=by
 have e1:(Str.ofString "\\")=⟨#[92]⟩:=by decide +kernel
 have e2:(Str.ofString "\\\\")=⟨([92,92]:List Nat).toArray⟩:=by decide +kernel
 rw [e1,e2]
 have:=WL 92 92 92 x.cps.toList
 rw [← XX] at this
 show (Txt.replace x _ _).cps.size≤2 * x.cps.size
 rw [← Array.length_toList,← Array.length_toList];exact this
theorem ZcN {v:V}(h:ZW v):(Xz v).length≤100:=by
 cases v with
 | int i=>exact Nat.le_trans (Wu h).2 (by decide)
 | str x =>
   have:=Uh x.cps.toList
   have h1:x.cps.toList.length≤41:=by rw [Array.length_toList];exact h.1
   show (39::Wk x.cps.toList++[39]).toArray.size≤100
   simp;omega
 | _=>exact h.elim
theorem YO (x y:Str):(x++y).length=x.length+y.length:=by
 show (x.cps++y.cps).size=_
 rw [Array.size_append];rfl
end L2
set_option maxHeartbeats 2000000
namespace L2
open PySem PySem.Spec PyProof.Rows
section
variable {prog:Program}{w:World}{A:Around}{E:Value→Shared→Prop}{s:Shared}
theorem WC {i t:Addr}{k:Nat}{its:Array Value}{x:Value}{Q:Value→Shared→Prop}(hi:s.heap.IsTupleIter i t k)(ht:s.heap.IsTuple t its)(hx:its[k]?=some x)
   (q:∀ h',h'.IsTupleIter i t (k+1)→Heap.SameBut i s.heap h'→Q x { s with heap:=h' }):wpAny (model prog w) A (Builtin.SmallTypes.nextOf (.ref i)) Q E s:=by
 obtain ⟨o,eo,oc,od⟩:=id hi
 obtain ⟨u,eu,_,n,du⟩:=ht
 unfold Builtin.SmallTypes.nextOf
 refine wpAny_bind (wpAny_callSpecial?_slot (name:=Str.ofString "__next__") hi.typeIs F.slot_tuple_iterator_next (wpAny_call_entry F.slot_tuple_iterator_next hi.typeIs F.entry_tuple_iterator_next ?_ (F.args_tuple_iterator_next_1 _)))
 refine wpAny_bind (m:=field (.ref i) 0) (wpAny_field eo od (x:=.ref t) rfl ?_)
 show wpAny _ _ (if (Value.ref t == Value.none)=true then _ else _) _ _ s
 rw [if_neg (by exact Bool.false_ne_true)]
 refine wpAny_bind (m:=field (.ref i) 1) (wpAny_field eo od (x:=.int k 0) rfl ?_)
 refine wpAny_bind (m:=seqItems? (.ref t)) (wpAny_seqItems eu du ?_)
 simp only [Int.toNat_natCast,hx]
 exact wpAny_bind (wpAny_setField eo od (by simp) (wpAny_pure ⟨x,rfl,wpAny_pure (q _ ⟨_,Heap.get?_update_self _ eo (Obj.isFreed_of_fields (Obj.data_mapFields od _)),(Obj.cls_mapFields ..).trans oc,by rw [Obj.data_mapFields od];simp [rawInt]⟩ (Heap.SameBut.update ..))⟩))
theorem ZaU {i t:Addr}{k:Nat}{its:Array Value}{Q:Value→Shared→Prop}(hh:A.handled=none)(hi:s.heap.IsTupleIter i t k)(ht:s.heap.IsTuple t its)(hx:its[k]?=none)
   (q:∀ h' e,Heap.ExtBut i s.heap h'→(∃ o,h'.get? e=some o∧o.cls=.type "StopIteration")→E (.ref e) { s with heap:=h' }):wpAny (model prog w) A (Builtin.SmallTypes.nextOf (.ref i)) Q E s:=by
 obtain ⟨o,eo,oc,od⟩:=id hi
 obtain ⟨u,eu,_,n,du⟩:=ht
 unfold Builtin.SmallTypes.nextOf
 refine wpAny_bind (wpAny_callSpecial?_slot (name:=Str.ofString "__next__") hi.typeIs F.slot_tuple_iterator_next (wpAny_call_entry F.slot_tuple_iterator_next hi.typeIs F.entry_tuple_iterator_next ?_ (F.args_tuple_iterator_next_1 _)))
 refine wpAny_bind (m:=field (.ref i) 0) (wpAny_field eo od (x:=.ref t) rfl ?_)
 show wpAny _ _ (if (Value.ref t == Value.none)=true then _ else _) _ _ s
 rw [if_neg (by exact Bool.false_ne_true)]
 refine wpAny_bind (m:=field (.ref i) 1) (wpAny_field eo od (x:=.int k 0) rfl ?_)
 refine wpAny_bind (m:=seqItems? (.ref t)) (wpAny_seqItems eu du ?_)
 simp only [Int.toNat_natCast,hx]
 refine wpAny_bind (wpAny_rule (wpAny_bind (wpAny_setField eo od (by simp) ?_)))
 refine wpAny_bind (m:=newExc (.type "StopIteration") []) ?_
 simp only [newExc,newTuple]
 refine wpAny_bind (wpAny_newObj_type ?_ (by size_fits))
 refine wpAny_bind (m:=firstArgMember _ _) (wpAny_of_eq (a:=Value.none) (by first | rfl | (simp only [firstArgMember];rfl)) ?_)
 refine wpAny_newObj_type ?_ (by size_fits)
 simp only [raiseNew]
 refine wpAny_bind (wpAny_handled ?_)
 first | rw [show A.in1.handled=none from hh] | rw [hh]
 exact wpAny_bind (wpAny_pure (wpAny_throw (q _ _ (((Heap.SameBut.update ..).extBut.push _).push _) ⟨_,Heap.get?_push_size _ rfl,rfl⟩)))
end
abbrev Yo (l:Addr):Obj:={ cls:=.type "tuple_iterator",data:=.fields #[.ref l,.int 0 0] }
section
variable {prog:Program}{w:World}{A:Around}{E:Value→Shared→Prop}{s:Shared}
end
section
variable {X:Cx}
end
end L2
set_option maxHeartbeats 2000000
namespace L2
open PySem PySem.Spec PyProof.Rows
def TyS (K:PySem.W.Frag)(H:Hp)(x:V)(t:Value):Prop:=Xe K H x t∨∃ a xs,x=.ref a∧t=.type "tuple"∧SqT K H a xs
section
variable {X:Cx}{pins:List (Addr×Obj)}{σ:St}{H:Hp}{s:Shared}
theorem ZdF {x:V}{u t:Value}(I:Inv X pins σ H s)(rx:RelV x u)(ty:TyS X.K H x t):∃ Hh:Heap→Prop,PySem.W.KitX X.K u t Hh∧Hh s.heap∧u≠.builtin "__main__.__loader__#opaque":=by
 rcases ty with ty | ⟨a,xs,rfl,rfl,h⟩
 · cases ty with
   | non=>cases (show u=Value.none from rx);exact ⟨_,PySem.W.kitx_none,True.intro,fun z=>nomatch z⟩
   | bl y=>cases (show u=Value.bool y from rx);exact ⟨_,PySem.W.kitx_bool,True.intro,fun z=>nomatch z⟩
   | int i=>obtain ⟨t,q⟩:=(show ∃ t,u=Value.int i t from rx);cases q;exact ⟨_,PySem.W.kitx_int,True.intro,fun z=>nomatch z⟩
   | str y=>obtain ⟨t,q⟩:=(show ∃ t,u=Value.str y t from rx);cases q;exact ⟨_,PySem.W.kitx_str,True.intro,fun z=>nomatch z⟩
   | flt y=>obtain ⟨t,q⟩:=(show ∃ t,u=Value.float y t from rx);cases q;exact ⟨_,PySem.W.kitx_float,True.intro,fun z=>nomatch z⟩
   | @lst a xs ea =>
     cases (show u=Value.ref a from rx)
     obtain ⟨_,_,n,_,h1⟩:=(show ObjOk X.prog X.w H s.heap a (.lst xs) from I.hok a _ ea)
     exact ⟨_,PySem.W.kitx_list,⟨_,h1,rfl⟩,fun z=>nomatch z⟩
   | @frz a ob xs ea =>
     cases (show u=Value.ref a from rx)
     obtain ⟨_,_,_,n,_,h1⟩:=(show ObjOk X.prog X.w H s.heap a (.frz ob (.lst xs)) from I.hok a _ ea)
     exact ⟨_,PySem.W.kitx_list,⟨_,h1,rfl⟩,fun z=>nomatch z⟩
   | @tup a xs ea =>
     cases (show u=Value.ref a from rx)
     obtain ⟨_,_,_,p⟩:=(show ObjOk X.prog X.w H s.heap a (.tup xs) from I.hok a _ ea)
     obtain ⟨o,h1,h2,_⟩:=p
     exact ⟨_,PySem.W.kitx_tuple,⟨o,h1,h2⟩,fun z=>nomatch z⟩
   | @dK a kvs ea =>
     cases (show u=Value.ref a from rx)
     obtain ⟨_,_,vs,_,p⟩:=(show ObjOk X.prog X.w H s.heap a (.dK kvs) from I.hok a _ ea)
     obtain ⟨o,es,ep,h1,h2,_⟩:=p
     exact ⟨_,PySem.W.kitx_dict,⟨o,h1,h2.1⟩,fun z=>nomatch z⟩
   | @dT a kvs ea =>
     cases (show u=Value.ref a from rx)
     obtain ⟨_,_,xs,_,o,es,ep,h1,h2,_⟩:=(show ObjOk X.prog X.w H s.heap a (.dT kvs) from I.hok a _ ea)
     exact ⟨_,PySem.W.kitx_dict,⟨o,h1,h2.1⟩,fun z=>nomatch z⟩
   | @ins a C dx fs ea cl ha hn htk hm =>
     cases (show u=Value.ref a from rx)
     obtain ⟨mA,O,_⟩:=ZdV I.hok ea
     obtain ⟨od,J,_⟩:=O.look
     exact ⟨_,PySem.W.kitx_own (cl.get _) cl.hd ha hn htk hm,J,fun z=>nomatch z⟩
 · cases (show u=Value.ref a from rx)
   obtain ⟨its,_,⟨o,h1,h2,_⟩,_⟩:=I.tuple h
   exact ⟨_,PySem.W.kitx_tuple,⟨o,h1,h2⟩,fun z=>nomatch z⟩
theorem YW {K:PySem.W.Frag}(hK:X.K=K):Yj X (.builtin "isinstance") (fun xs H Q=>∃ x c t b,xs=[x,.ty c]∧TyS K H x t∧PySem.W.kitOne K t (.type c)=some b∧Q (.bl b) H):=by
 subst hK
 intro pins s σ H xs us Q I r h
 obtain ⟨x,c,t,b,rfl,ty,e,q⟩:=h
 obtain ⟨u,u',rfl,ru,ru'⟩:=UX r
 cases (show u'=Value.type c from ru')
 obtain ⟨Hh,Z,p,hx⟩:=ZdF I ru ty
 exact PySem.W.kia_one Z I.kIn p e hx fun tk=>⟨.bl b,H,I.tok tk,rfl,q⟩
end
end L2
set_option maxHeartbeats 4000000
namespace K67
open PySem L2
section
variable {P:Program}{w:World}{K:PySem.W.Frag}{mg:Str→Option Value}{base:Heap}
def isI:V→Bool
 | .int _=>true
 | _=>false
def UZ:Sp:=fun vs H Q _=>∃ v,vs=[v]∧ZW v∧Q (.bl (isI v)) H
abbrev nNu:List Str:=["thing"]
abbrev pnNu:List Str:=["thing"]
theorem scNu:Zt nNu pnNu (Zg s_is_number):=⟨rfl,rfl,rfl,by decide +kernel,rfl,by decide +kernel,by decide +kernel⟩
theorem ZeC {f:Addr}{fd:FuncData}(F:Fun K "is_number" "is_number" s_is_number f fd)(T:ZY mg):Fn1 P w K mg base 1 f fd "thing" UZ:=by
 refine F.ok1 scNu (by decide +kernel) (fun _=>rfl) rfl (fun cdv A outer s H vs Q E hr h=>?_)
 obtain ⟨v,rfl,hv,q⟩:=h
 refine' ⟨?t,?h,?r⟩
 case h =>
   conv=>arg 2;whnf
   with_reducible refine' (Zj ?h1)
   case h1=>exact Zs (Zes (ZA (YW (K:=K) rfl) rfl T.isinstance (by decide +kernel) (Zc (pv 0) (Zc (XJ rfl T.int (by decide +kernel) (v:=.ty "int") rfl) Za))) (Zer (Zej (ZA (YW (K:=K) rfl) rfl T.isinstance (by decide +kernel) (Zc (pv 0) (Zc (XJ rfl T.bool (by decide +kernel) (v:=.ty "bool") rfl) Za))))))
 cases v with
 | int i=>exact ⟨_,rfl,_,_,_,true,rfl,.inl (.int _),rfl,_,rfl,XA ⟨_,rfl,_,_,_,false,rfl,.inl (.int _),rfl,_,rfl,q⟩⟩
 | str x=>exact ⟨_,rfl,_,_,_,false,rfl,.inl (.str _),rfl,_,rfl,Xb q⟩
 | _=>exact hv.elim
def spVT:Sp:=fun vs H Q _=>∃ v,vs=[v]∧ZW v∧Q (.str (Xz v)) H
abbrev nWr:List Str:=["_law_value_here"]
abbrev ZaQ:List Str:=["_law_value_here"]
theorem scWr:Zt nWr ZaQ (Zg s_l_written):=⟨rfl,rfl,rfl,by decide +kernel,rfl,by decide +kernel,by decide +kernel⟩
theorem ZaZ {f:Addr}{fd:FuncData}(F:Fun K "_law_written" "_law_written" s_l_written f fd)(T:ZY mg):FnOk P w K mg base ZI 1 f fd ZaQ (fun vs H Q E=>∃ v,vs=[v]∧ZW v∧∀ H',Same H H'→Q (.str (Xz v)) H'):=by
 refine F.ok scWr (fun vs H Q E h=>?_) (fun cdv A outer s H vs Q E hr h=>?_)
 · obtain ⟨v,rfl,_⟩:=h;rfl
 obtain ⟨v,rfl,hv,q⟩:=h
 refine' ⟨?t,?h,?r⟩
 case h =>
   conv=>arg 2;whnf
   with_reducible refine' (Zf (YB ?h1 (Zj ?h2) Yh) (Zj ?h3))
   case h1=>exact WM (ZA (YW (K:=K) rfl) rfl T.isinstance (by decide +kernel) (Zc (pv 0) (Zc (XJ rfl T.int (by decide +kernel) (v:=.ty "int") rfl) Za)))
   case h2=>exact Zs (YX UF rfl T.str (by decide +kernel) (Zc (pv 0) Za))
   case h3=>exact Zs (Zi ZP (Zi ZP Zk (Yd PySem.F.plainAttrs_str PySem.F.slot_str_join PySem.F.type_str_join YN Zk (Zc (Wr (CompOk.of nWr s_l_written rfl rfl (by decide +kernel)) rfl (ZeE (pv 0))  (fun _ _ _ _ _=>Zi ZP (Zi WX Zk (YX UG rfl T.int (by decide +kernel) (Zc (Ws (ZaD (K:=K) rfl) (pv 1) (ZJ (Zc Zk (Zc Zk Za))) rfl) Za))) (pv 1))) Za))) Zk)
 cases v with
 | int i=>exact ⟨_,rfl,_,_,_,true,rfl,.inl (.int _),rfl,_,rfl,XA ⟨_,rfl,.inl ⟨i,rfl,(Wu hv).1,q H (Same.refl H)⟩⟩⟩
 | str x =>
   refine ⟨_,rfl,_,_,_,false,rfl,.inl (.str _),rfl,_,rfl,Xb ?_⟩
   have hx:x.length≤41:=hv.1
   refine ⟨rfl,_,rfl,x,rfl,fun D hD=>?_⟩
   refine Zcq (ZH (show x.length≤1000 by omega)) (fun i ys H'=>Same H H'∧H' D=some (.lst ys)∧ys=((x.cps.toList.take i).map XW).map V.str∧i≤x.cps.size) ⟨Zl hD _,Zh,rfl,Nat.zero_le _⟩ ?_ ?_ ?_
   · rintro i ys H' ⟨_,_,rfl,hi⟩
     rw [List.length_map,List.length_map,List.length_take,Array.length_toList];omega
   · rintro i c ys H' hc ⟨s1,eD,rfl,hi⟩
     refine ⟨_,rfl,(by show 2≤sizeLine;decide),fun tp htp=>⟨tp,_,rfl,.inr (SqT.of Zh),rfl,rfl,.inr ⟨_,rfl,_,_,rfl,rfl,?_,_,rfl,_,_,rfl,rfl,?_,?_⟩⟩⟩
     · exact ZfD _
     · have:=Zed (if false=true then !Wm (.str ⟨#[c]⟩) [.str "'",.str "\\"] else Wm (.str ⟨#[c]⟩) [.str "'", .str "\\"])
       exact ZH (show _≤1000 by rw [YF];omega)
     · dsimp only
       rw [ZcP]
       have s2:=Zl htp (.tup [.str "'",.str "\\"])
       refine ⟨s2 _ _ eD,fun b o e=>?_,Zh,?_,?_⟩
       · rw [Zp (Zz e hD)];exact s2 _ _ (s1 _ _ e)
       · have hc':x.cps.toList[i]?=some c:=by rw [Array.getElem?_toList];exact hc
         rw [List.take_succ,hc',List.map_append,List.map_append];rfl
       · have:=(Array.getElem?_eq_some_iff.mp hc).1;omega
   · rintro ys H2 ⟨s2,eD,rfl,_⟩
     rw [show x.cps.toList.take x.cps.size=x.cps.toList by rw [← Array.length_toList,List.take_length]] at eD
     have hsz:x.cps.toList.length≤41:=by rw [Array.length_toList];exact hx
     have w1:=VH x.cps.toList
     have w2:(Txt.join "" (x.cps.toList.map XW)).length≤100:=by
       have:=Uh x.cps.toList
       rw [← UJ] at this
       show (Txt.join "" _).cps.size≤100
       rw [← Array.length_toList];omega
     refine ⟨"",D,x.cps.toList.map XW,rfl,rfl,SqL.of eD,?_,_,_,rfl,rfl,?_,_,_,rfl,rfl,?_,?_⟩
     · rw [show (Str.ofString "").length=0 by decide +kernel];omega
     · exact ZH (show _≤1000 by rw [show (Str.ofString "'").length=1 by decide +kernel];omega)
     · exact ZH (show _≤1000 by rw [YH,show (Str.ofString "'").length=1 by decide +kernel];omega)
     · rw [ZcE];exact q H2 s2
 | _=>exact hv.elim
abbrev nVt:List Str:=["value","slashed"]
abbrev ZcO:List Str:=["value"]
theorem scVt:Zt nVt ZcO (Zg s_value_text):=⟨rfl,rfl,rfl,by decide +kernel,rfl,by decide +kernel,by decide +kernel⟩
theorem Zfx {f:Addr}{fd:FuncData}(F:Fun K "value_text" "value_text" s_value_text f fd)(T:ZY mg)(B:NBk K)(DNu:Zco P w K mg base 1 "is_number" "thing" UZ):FnOk P w K mg base ZI 2 f fd ZcO spVT:=by
 refine F.ok scVt (fun vs H Q E h=>?_) (fun cdv A outer s H vs Q E hr h=>?_)
 · obtain ⟨v,rfl,_⟩:=h;rfl
 obtain ⟨v,rfl,hv,q⟩:=h
 refine' ⟨?t,?h,?r⟩
 case h =>
   conv=>arg 2;whnf
   with_reducible refine' ZdS (px:="thing") (sp:=UZ) ?a1 ?a2 ?a3 ?a4 (ZbJ (i:=1) ?b1 ?b2 ?b3 ?b4 ?b5 ?b6 ?b7) ?g1 ?g2 ?g3 ?g4
   case g1=>exact rfl
   case g2=>decide
   case g3=>exact rfl
   case g4=>intro _;rfl
   case b6=>exact rfl
   case b7=>exact .inl rfl
   case a1=>exact DNu
   case a2=>exact hr
   case a3=>exact pv 0
   case a4=>exact Zj (Zs (YX UF rfl T.str (by decide +kernel) (Zc (pv 0) Za)))
   case b1=>exact scVt.nd
   case b2=>exact rfl
   case b3=>exact Or.inl rfl
   case b4=>exact Zam B (by decide +kernel) (Zam B (by decide +kernel) (PE.three (pv 0)))
   case b5=>exact Zj (Zs (Zi ZP (Zi ZP Zk (pv 1)) Zk))
 cases v with
 | int i=>exact ⟨_,rfl,_,rfl,hv,_,rfl,XA ⟨_,rfl,.inl ⟨i,rfl,(Wu hv).1,q⟩⟩⟩
 | str x =>
   have hx:x.length≤41:=hv.1
   have h1:=Zcx x
   have h3:(Txt.replace (Txt.replace x "\\" "\\\\") "'" "\\'").length≤200:=by
     have e3:(Str.ofString "'")=⟨#[39]⟩:=by decide +kernel
     have e4:(Str.ofString "\\'")=⟨([92,39]:List Nat).toArray⟩:=by decide +kernel
     rw [e3,e4]
     have:=WL 39 92 39 (Txt.replace x "\\" "\\\\").cps.toList
     rw [← XX,Array.length_toList,Array.length_toList] at this
     have h1':(Txt.replace x "\\" "\\\\").cps.size≤2 * x.length:=h1
     show (Txt.replace _ _ _).cps.size≤200
     omega
   refine ⟨_,rfl,_,rfl,hv,_,rfl,Xb ⟨_,rfl,x,rfl,by omega,_,rfl,by omega,?_⟩⟩
   refine ⟨_,rfl,_,_,rfl,rfl,ZH (show _≤1000 by rw [show (Str.ofString "'").length=1 by decide +kernel];omega),_,_,rfl,rfl,ZH (show _≤1000 by rw [YH,show (Str.ofString "'").length=1 by decide +kernel];omega),?_⟩
   rw [Zbm];exact q
 | _=>exact hv.elim
end
end K67
set_option maxHeartbeats 4000000
namespace K67
open PySem L2
theorem ifF {c:Bool}{A B:Prop}(h:c=false)(b:B):if c=true then A else B:=by rw [h];exact Xb b
theorem ifT {c:Bool}{A B:Prop}(h:c=true)(a:A):if c=true then A else B:=by rw [h];exact XA a
def Yz:List (Str×List V):=[("set",[.str "name",.str "value",.str "slot"]),("look",[.str "name"]),("back",[.str "slot"]),("begin",[.str "program"]),("late",[.str "program"]),("copy",[.str "slot"]),("in",[.str "slot",.str "program"]),("pass",[])]
def Xd (x:Str):Option Bool:=(PyProof.Rows.KTD.datumAt x Yz).map fun xs=>Wm (.str "program") xs
theorem ZaP {x:Str}{xs:List V}(h:PyProof.Rows.KTD.datumAt x Yz=some xs):xs.all YU=true:=by
 have:∀ p∈Yz,p.2.all YU=true:=by decide +kernel
 have mem:∀ (D:List (Str×List V)),PyProof.Rows.KTD.datumAt x D=some xs→∃ p∈D,p.2=xs:=by
   intro D
   induction D with
   | nil=>intro h;cases h
   | cons p D ih =>
     intro h
     rw [PyProof.Rows.KTD.datumAt] at h
     split at h
     · cases h;exact ⟨p,List.mem_cons_self,rfl⟩
     · obtain ⟨q,hq,e⟩:=ih h;exact ⟨q,List.mem_cons_of_mem _ hq,e⟩
 obtain ⟨p,hp,rfl⟩:=mem _ h
 exact this p hp
theorem Zdy {p:Pg}(h:p.ok):Xd p.word=some p.isB:=by
 cases p with
 | slot w s =>
   rcases h.1 with rfl | rfl
   · exact (show Xd "back"=some false by decide +kernel)
   · exact (show Xd "copy"=some false by decide +kernel)
 | blk w ps =>
   rcases h.1 with rfl | rfl
   · exact (show Xd "begin"=some true by decide +kernel)
   · exact (show Xd "late"=some true by decide +kernel)
 | inn s ps=>show Xd "in"=some true;decide +kernel
 | set x v s=>show Xd "set"=some false;decide +kernel
 | look x=>show Xd "look"=some false;decide +kernel
 | pass=>show Xd "pass"=some false;decide +kernel
section
variable {P:Program}{w:World}{K:PySem.W.Frag}{mg:Str→Option Value}{base:Heap}{dk:Addr}
def Uw (K:PySem.W.Frag):Sp:=fun vs H Q _=>∃ x:Str,vs=[.str x]∧(∀ b xs,PyProof.Rows.KTD.datumAt x Yz=some xs→SqT K H b xs→Q (.ref b) H)∧(PyProof.Rows.KTD.datumAt x Yz=none→Q .non H)
abbrev nKi:List Str:=["word"]
abbrev Zay:List Str:=["word"]
theorem scKi:Zt nKi Zay (Zg s_kinds_of):=⟨rfl,rfl,rfl,by decide +kernel,rfl,by decide +kernel,by decide +kernel⟩
theorem Zcd {f:Addr}{fd:FuncData}(F:Fun K "kinds_of" "kinds_of" s_kinds_of f fd)(TK:KDic K dk Yz)(hK:mg "KINDS"=some (.ref dk)):FnOk P w K mg base ZI 1 f fd Zay (Uw K):=by
 refine F.ok scKi (fun vs H Q E h=>?_) (fun cdv A outer s H vs Q E hr h=>?_)
 · obtain ⟨x,rfl,_⟩:=h;rfl
 obtain ⟨x,rfl,q1,q2⟩:=h
 refine' ⟨?t,?h,?r⟩
 case h =>
   conv=>arg 2;whnf
   with_reducible refine' (Zj ?h1)
   case h1=>exact Zs (Zdq TK (Zac (v:=.ref _) rfl hK rfl) (pv 0) ⟨rfl,rfl,rfl,rfl⟩)
 exact ⟨_,rfl,x,rfl,fun b xs e1 e2=>q1 b xs e1 e2,fun e=>q2 e⟩
def Zbb:Sp:=fun vs H Q _=>∃(x:Str)(b:Bool),vs=[.str x]∧Xd x=some b∧Q (.bl b) H
abbrev nHw:List Str:=["word"]
abbrev Zci:List Str:=["word"]
theorem scHw:Zt nHw Zci (Zg s_has_within):=⟨rfl,rfl,rfl,by decide +kernel,rfl,by decide +kernel,by decide +kernel⟩
theorem ZdN {f:Addr}{fd:FuncData}(F:Fun K "has_within" "has_within" s_has_within f fd)(DKi:Def P w K mg base 1 "kinds_of" Zay (Uw K)):FnOk P w K mg base ZI 2 f fd Zci Zbb:=by
 refine F.ok scHw (fun vs H Q E h=>?_) (fun cdv A outer s H vs Q E hr h=>?_)
 · obtain ⟨x,b,rfl,_⟩:=h;rfl
 obtain ⟨x,b,rfl,hb,q⟩:=h
 refine' ⟨?t,?h,?r⟩
 case h =>
   conv=>arg 2;whnf
   with_reducible refine' (Zj ?h1)
   case h1=>exact Zs (Ws UQ Zk (Zn DKi hr (Zc (pv 0) Za)) rfl)
 refine ⟨_,rfl,x,rfl,fun d xs e1 e2=>?_,fun e=>?_⟩
 · unfold Xd at hb
   rw [e1] at hb
   cases hb
   exact ⟨d,xs,rfl,.inr e2,rfl,ZaP e1,q⟩
 · unfold Xd at hb
   rw [e] at hb
   cases hb
def WE (K:PySem.W.Frag):Sp:=fun vs H Q _=>∃(v:V)(p:Pg),vs=[v]∧DatT K H v p.dat∧p.ok∧∀ t H',Same H H'→DatT K H' t (.tuple (Pg.dats p.inner))→Q t H'
abbrev nPw:List Str:=["step"]
abbrev Zaw:List Str:=["step"]
theorem scPw:Zt nPw Zaw (Zg s_program_within):=⟨rfl,rfl,rfl,by decide +kernel,rfl,by decide +kernel,by decide +kernel⟩
theorem ZbI {f:Addr}{fd:FuncData}(F:Fun K "program_within" "program_within" s_program_within f fd)(DHw:Def P w K mg base 2 "has_within" Zci Zbb):FnOk P w K mg base ZI 3 f fd Zaw (WE K):=by
 refine F.ok scPw (fun vs H Q E h=>?_) (fun cdv A outer s H vs Q E hr h=>?_)
 · obtain ⟨v,p,rfl,_⟩:=h;rfl
 obtain ⟨v,p,rfl,hp,ho,q⟩:=h
 obtain ⟨a,xs,rfl,e,_,e0,_,e3⟩:=Zcj hp
 refine' ⟨?t,?h,?r⟩
 case h =>
   conv=>arg 2;whnf
   with_reducible refine' (Zj ?h1)
   case h1=>exact Zs (XY (WM (Zn DHw hr (Zc (Zu Yy (pv 0) Zb (fun _ _=>rfl)) Za))) (Zu Yy (pv 0) (ZaV Vs Zb) (fun _ _=>rfl)) (ZJ Za))
 refine ⟨_,rfl,a,xs,_,_,rfl,rfl,e,Zq (j:=0) e0,_,p.isB,rfl,Zdy ho,_,rfl,?_⟩
 cases hb:p.isB with
 | true =>
   obtain ⟨t,e4,e5⟩:=e3 hb
   exact XA ⟨_,rfl,_,rfl,a,xs,_,_,rfl,rfl,e,e4,q t H (Same.refl H) e5⟩
 | false =>
   refine Xb ⟨(by decide),fun t ht=>q _ _ (Zl ht _) ?_⟩
   rw [Pg.inner_none hb]
   exact .tup (SqT.of Zh) .nil
end
end K67
set_option maxHeartbeats 2000000
namespace L2
open PySem PySem.Spec PyProof.Rows
section
variable {prog:Program}{w:World}{A:Around}{E:Value→Shared→Prop}{s:Shared}
theorem Zcn {z TI TO i1 i2 l1 l2:Addr}{k:Nat}{xs ys:Array Value}{x y a b:Value}{Q:Option Value→Shared→Prop}(D:ZipApart z TI TO i1 i2 l1 l2)(hz:IsZip s.heap z TI TO .none)(hTI:IsPair s.heap TI (.ref i1) (.ref i2))(hTO:IsPair s.heap TO a b)
   (h1:s.heap.IsTupleIter i1 l1 k) (h2:s.heap.IsListIter i2 l2 k) (t1:s.heap.IsTuple l1 xs) (t2:s.heap.IsList l2 ys) (hx:xs[k]?=some x) (hy:ys[k]?=some y)
   (q:∀ h',IsZip h' z TI TO (rawInt s.heap.objs.size)→IsPair h' TO x y→h'.IsTupleIter i1 l1 (k+1)→h'.IsListIter i2 l2 (k+1)→IsPair h' s.heap.objs.size x y→h'.objs.size=s.heap.objs.size+1 →
     (∀ c o,c≠z→c≠TO→c≠i1→c≠i2→s.heap.get? c=some o→h'.get? c=some o)→Q (some (.ref s.heap.objs.size)) { s with heap:=h' }):wpAny (model prog w) A (pyNext (.ref z)) Q E s:=by
 have hT:s.TypeIs (.ref z) "zip":=⟨_,hz,rfl⟩
 unfold pyNext
 refine wpAny_bind (wpAny_attempt (wpAny_callSpecial?_slot (name:=Str.ofString "__next__") hT F.slot_zip_next (wpAny_call_entry F.slot_zip_next hT F.entry_zip_next ?_ (F.args_zip_next_1 _))))
 refine wpAny_bind (m:=field (.ref z) 2) (wpAny_field hz rfl (x:=.bool false) rfl ?_)
 refine wpAny_bind (m:=field (.ref z) 3) (wpAny_field hz rfl (x:=.ref TI) rfl ?_)
 refine wpAny_bind (wpAny_seqItems hTI rfl ?_)
 refine wpAny_bind (m:=Builtin.SmallTypes.ownedTupleIsFree (.ref z)) ?_
 unfold Builtin.SmallTypes.ownedTupleIsFree
 refine wpAny_bind (wpAny_field hz rfl (x:=.none) rfl (wpAny_pure ?_))
 simp only [if_true]
 refine wpAny_bind (wpAny_rule ?_)
 refine wpAny_bind (wpAny_field hz rfl (x:=.ref TO) rfl ?_)
 refine wpAny_bind (wpAny_setField_rec hz (by simp) fun ha hza sa=>?_)
 replace hza:IsZip ha z TI TO .ellipsis:=hza
 refine wpAny_bind ?_
 simp only [List.zipIdx_cons,List.zipIdx_nil,List.forIn_cons,List.forIn_nil]
 have Ea:=sa.extBut
 refine wpAny_bind (wpAny_bind (wpAny_onRaise ?_))
 refine wpAny_bind (m:=Builtin.SmallTypes.nextOf (.ref i1)) (WC (h1.extBut Ea D.i1z) (t1.extBut Ea D.l1z) hx fun hb i1b sb=>wpAny_pure ?_)
 have Eb:=sb.extBut
 have TOb:IsPair hb TO a b:=Eb _ _ D.TOi1 (Ea _ _ D.TOz hTO)
 refine wpAny_bind (wpAny_seqItems TOb rfl ?_)
 refine wpAny_bind (wpAny_updateSeq_pair TOb fun hc TOc sc=>?_)
 replace TOc:IsPair hc TO x b:=TOc
 have Ec:=sc.extBut
 refine wpAny_bind (wpAny_letGo (wpAny_pure ?_))
 refine wpAny_bind (wpAny_bind (wpAny_onRaise ?_))
 refine wpAny_bind (m:=Builtin.SmallTypes.nextOf (.ref i2)) (wpAny_nextOf_list_item (((h2.extBut Ea D.i2z).extBut Eb D.i12.symm).extBut Ec D.TOi2.symm) (((t2.extBut Ea D.l2z).extBut Eb D.l2i1).extBut Ec D.l2TO) hy fun hd i2d sd=>wpAny_pure ?_)
 have Ed:=sd.extBut
 have TOd:IsPair hd TO x b:=Ed _ _ D.TOi2 TOc
 refine wpAny_bind (wpAny_seqItems TOd rfl ?_)
 refine wpAny_bind (wpAny_updateSeq_pair TOd fun he TOe se=>?_)
 replace TOe:IsPair he TO x y:=TOe
 have Ee:=se.extBut
 refine wpAny_bind (wpAny_letGo (wpAny_pure (wpAny_pure ?_)))
 refine wpAny_bind (wpAny_seqItems TOe rfl ?_)
 refine wpAny_bind (wpAny_newTuple ?_)
 have hsz:he.objs.size=s.heap.objs.size:=by rw [se.1,sd.1,sc.1,sb.1,sa.1]
 have all:∀ c o,c≠z→c≠TO→c≠i1→c≠i2→s.heap.get? c=some o→he.get? c=some o:=fun c o c1 c2 c3 c4 e=>Ee _ _ c2 (Ed _ _ c4 (Ec _ _ c2 (Eb _ _ c3 (Ea _ _ c1 e))))
 have ze:IsZip he z TI TO .ellipsis:=Ee _ _ D.TOz.symm (Ed _ _ D.i2z.symm (Ec _ _ D.TOz.symm (Eb _ _ D.i1z.symm hza)))
 have i1e:he.IsTupleIter i1 l1 (k+1):=((i1b.extBut Ec D.TOi1.symm).extBut Ed D.i12).extBut Ee D.TOi1.symm
 have i2e:he.IsListIter i2 l2 (k+1):=i2d.extBut Ee D.TOi2.symm
 have zl:z < he.objs.size:=Heap.lt_size ze
 refine wpAny_bind (m:=Builtin.SmallTypes.ownedTupleHandOut (.ref z) (.ref he.objs.size)) ?_
 unfold Builtin.SmallTypes.ownedTupleHandOut
 refine wpAny_bind (wpAny_setField_rec (show IsZip (he.push { cls:=.type "tuple",data:=.seq #[x,y] }) z TI TO .ellipsis from Heap.get?_push_of_some _ ze) (by simp) fun hf zf sf=>?_)
 replace zf:IsZip hf z TI TO (rawInt he.objs.size):=zf
 refine wpAny_setField_rec zf (by simp) fun hg zg sg=>?_
 replace zg:IsZip hg z TI TO (rawInt he.objs.size):=zg
 have up:∀ c o,c≠z→he.get? c=some o→hg.get? c=some o:=fun c o c1 e=>sg.extBut _ _ c1 (sf.extBut _ _ c1 (Heap.get?_push_of_some _ e))
 have new:IsPair hg he.objs.size x y:=sg.extBut _ _ (Nat.ne_of_gt zl) (sf.extBut _ _ (Nat.ne_of_gt zl) (Heap.get?_push_size _ rfl))
 have sz:hg.objs.size=he.objs.size+1:=by rw [sg.1,sf.1,Heap.size_push]
 rw [hsz] at zg new sz
 refine wpAny_pure ⟨_,rfl,?_⟩
 show wpAny _ _ (pure (some (Value.ref he.objs.size))) _ _ _
 rw [hsz]
 refine wpAny_pure (q hg zg (up _ _ D.TOz TOe) ?_ ?_ new sz fun c o c1 c2 c3 c4 e=>up c o c1 (all c o c1 c2 c3 c4 e))
 · obtain ⟨o,eo,r⟩:=i1e;exact ⟨o,up _ _ D.i1z eo,r⟩
 · obtain ⟨o,eo,r⟩:=i2e;exact ⟨o,up _ _ D.i2z eo,r⟩
theorem Zdn {z TI TO i1 i2 l1 l2:Addr}{k:Nat}{xs:Array Value}{a b:Value}{Q:Option Value→Shared→Prop}(hh:A.handled=none)(D:ZipApart z TI TO i1 i2 l1 l2)(hz:IsZip s.heap z TI TO .none)(hTI:IsPair s.heap TI (.ref i1) (.ref i2))(hTO:IsPair s.heap TO a b)
   (h1:s.heap.IsTupleIter i1 l1 k) (t1:s.heap.IsTuple l1 xs) (hx:xs[k]?=none)
   (q:∀ h',(∀ c o,c≠z→c≠TO→c≠i1→c≠i2→s.heap.get? c=some o→h'.get? c=some o)→Q none { s with heap:=h' }):wpAny (model prog w) A (pyNext (.ref z)) Q E s:=by
 have hT:s.TypeIs (.ref z) "zip":=⟨_,hz,rfl⟩
 unfold pyNext
 refine wpAny_bind (wpAny_attempt (wpAny_callSpecial?_slot (name:=Str.ofString "__next__") hT F.slot_zip_next (wpAny_call_entry F.slot_zip_next hT F.entry_zip_next ?_ (F.args_zip_next_1 _))))
 refine wpAny_bind (m:=field (.ref z) 2) (wpAny_field hz rfl (x:=.bool false) rfl ?_)
 refine wpAny_bind (m:=field (.ref z) 3) (wpAny_field hz rfl (x:=.ref TI) rfl ?_)
 refine wpAny_bind (wpAny_seqItems hTI rfl ?_)
 refine wpAny_bind (m:=Builtin.SmallTypes.ownedTupleIsFree (.ref z)) ?_
 unfold Builtin.SmallTypes.ownedTupleIsFree
 refine wpAny_bind (wpAny_field hz rfl (x:=.none) rfl (wpAny_pure ?_))
 simp only [if_true]
 refine wpAny_bind (wpAny_rule ?_)
 refine wpAny_bind (wpAny_field hz rfl (x:=.ref TO) rfl ?_)
 refine wpAny_bind (wpAny_setField_rec hz (by simp) fun ha hza sa=>?_)
 replace hza:IsZip ha z TI TO .ellipsis:=hza
 refine wpAny_bind ?_
 simp only [List.zipIdx_cons,List.zipIdx_nil,List.forIn_cons,List.forIn_nil]
 refine wpAny_bind (wpAny_bind (wpAny_onRaise ?_))
 refine wpAny_bind (m:=Builtin.SmallTypes.nextOf (.ref i1)) (ZaU hh (h1.extBut sa.extBut D.i1z) (t1.extBut sa.extBut D.l1z) hx fun hb e Eb he=>?_)
 obtain ⟨oe,eoe,ce⟩:=he
 have zb:IsZip hb z TI TO .ellipsis:=Eb _ _ D.i1z.symm hza
 have ez:e≠z:=fun x=>by subst x;rw [zb] at eoe;cases eoe;simp at ce
 refine wpAny_setField_rec zb (by simp) fun hc _ sc=>?_
 refine wpAny_bind (wpAny_isInstance (T:="StopIteration") (b:=true) ⟨oe,sc.extBut _ _ ez eoe,ce⟩ isSubtype_stop ?_)
 exact wpAny_pure (q _ fun c o c1 _ c3 _ x=>sc.extBut _ _ c1 (Eb _ _ c3 (sa.extBut _ _ c1 x)))
theorem ZcD {z TI TO i1 i2 l1 l2:Addr}{k:Nat}{xs ys:Array Value}{x a b:Value}{Q:Option Value→Shared→Prop}(hh:A.handled=none)(D:ZipApart z TI TO i1 i2 l1 l2)(hz:IsZip s.heap z TI TO .none)(hTI:IsPair s.heap TI (.ref i1) (.ref i2))(hTO:IsPair s.heap TO a b)
   (h1:s.heap.IsTupleIter i1 l1 k) (h2:s.heap.IsListIter i2 l2 k) (t1:s.heap.IsTuple l1 xs) (t2:s.heap.IsList l2 ys) (hx:xs[k]?=some x) (hy:ys[k]?=none)
   (q:∀ h',(∀ c o,c≠z→c≠TO→c≠i1→c≠i2→s.heap.get? c=some o→h'.get? c=some o)→Q none { s with heap:=h' }):wpAny (model prog w) A (pyNext (.ref z)) Q E s:=by
 have hT:s.TypeIs (.ref z) "zip":=⟨_,hz,rfl⟩
 unfold pyNext
 refine wpAny_bind (wpAny_attempt (wpAny_callSpecial?_slot (name:=Str.ofString "__next__") hT F.slot_zip_next (wpAny_call_entry F.slot_zip_next hT F.entry_zip_next ?_ (F.args_zip_next_1 _))))
 refine wpAny_bind (m:=field (.ref z) 2) (wpAny_field hz rfl (x:=.bool false) rfl ?_)
 refine wpAny_bind (m:=field (.ref z) 3) (wpAny_field hz rfl (x:=.ref TI) rfl ?_)
 refine wpAny_bind (wpAny_seqItems hTI rfl ?_)
 refine wpAny_bind (m:=Builtin.SmallTypes.ownedTupleIsFree (.ref z)) ?_
 unfold Builtin.SmallTypes.ownedTupleIsFree
 refine wpAny_bind (wpAny_field hz rfl (x:=.none) rfl (wpAny_pure ?_))
 simp only [if_true]
 refine wpAny_bind (wpAny_rule ?_)
 refine wpAny_bind (wpAny_field hz rfl (x:=.ref TO) rfl ?_)
 refine wpAny_bind (wpAny_setField_rec hz (by simp) fun ha hza sa=>?_)
 replace hza:IsZip ha z TI TO .ellipsis:=hza
 refine wpAny_bind ?_
 simp only [List.zipIdx_cons,List.zipIdx_nil,List.forIn_cons,List.forIn_nil]
 have Ea:=sa.extBut
 refine wpAny_bind (wpAny_bind (wpAny_onRaise ?_))
 refine wpAny_bind (m:=Builtin.SmallTypes.nextOf (.ref i1)) (WC (h1.extBut Ea D.i1z) (t1.extBut Ea D.l1z) hx fun hb i1b sb=>wpAny_pure ?_)
 have Eb:=sb.extBut
 have TOb:IsPair hb TO a b:=Eb _ _ D.TOi1 (Ea _ _ D.TOz hTO)
 refine wpAny_bind (wpAny_seqItems TOb rfl ?_)
 refine wpAny_bind (wpAny_updateSeq_pair TOb fun hc TOc sc=>?_)
 have Ec:=sc.extBut
 refine wpAny_bind (wpAny_letGo (wpAny_pure ?_))
 refine wpAny_bind (wpAny_bind (wpAny_onRaise ?_))
 refine wpAny_bind (m:=Builtin.SmallTypes.nextOf (.ref i2)) (wpAny_nextOf_list_end hh (((h2.extBut Ea D.i2z).extBut Eb D.i12.symm).extBut Ec D.TOi2.symm) (((t2.extBut Ea D.l2z).extBut Eb D.l2i1).extBut Ec D.l2TO) hy fun hd e Ed he=>?_)
 obtain ⟨oe,eoe,ce⟩:=he
 have zb:IsZip hd z TI TO .ellipsis:=Ed _ _ D.i2z.symm (Ec _ _ D.TOz.symm (Eb _ _ D.i1z.symm hza))
 have ez:e≠z:=fun x=>by subst x;rw [zb] at eoe;cases eoe;simp at ce
 refine wpAny_setField_rec zb (by simp) fun hf _ sf=>?_
 refine wpAny_bind (wpAny_isInstance (T:="StopIteration") (b:=true) ⟨oe,sf.extBut _ _ ez eoe,ce⟩ isSubtype_stop ?_)
 exact wpAny_pure (q _ fun c o c1 c2 c3 c4 x=>sf.extBut _ _ c1 (Ed _ _ c4 (Ec _ _ c2 (Eb _ _ c3 (Ea _ _ c1 x)))))
end
abbrev XU (l:Addr):Obj:={ cls:=.type "list_iterator",data:=.fields #[.ref l,.int 0 0] }
abbrev Ux (h:Heap)(l1 l2:Addr):Heap:=((((h.push (Yo l1)).push (XU l2)).push { cls:=.type "tuple",data:=.seq #[.ref h.objs.size,.ref (h.push (Yo l1)).objs.size] }).push { cls:=.type "tuple",data:=.seq #[.none,.none] })
theorem ZdD (l1 l2:Addr)(xs ys:Array Value):Meets (Builtin.«zip.__new__» ⟨[.type "zip",.ref l1,.ref l2],[]⟩) (fun _ R s=>s.heap.IsTuple l1 xs∧s.heap.IsList l2 ys ∧
     R (.ok (.ret (.ref (Ux s.heap l1 l2).objs.size))) { s with heap:=(Ux s.heap l1 l2).push { cls:=.type "zip",data:=.fields #[.none,.bool false,.bool false,.ref ((s.heap.push (Yo l1)).push (XU l2)).objs.size,.ref (((s.heap.push (Yo l1)).push (XU l2)).push { cls:=.type "tuple",data:=.seq #[.ref s.heap.objs.size,.ref (s.heap.push (Yo l1)).objs.size] }).objs.size] } }) :=
 .of_wp fun prog w A R s h=>by
   obtain ⟨hp,g,d,tk,os⟩:=s;obtain ⟨hl1,hl2,h⟩:=h
   have hsub:=sub_zip
   have hL1:Heap.IsTuple (Shared.heap ⟨hp,g,d,tk,os⟩) l1 xs:=hl1
   have hL2:Heap.IsList (Shared.heap ⟨hp.push (Yo l1),g,d,tk,os⟩) l2 ys:=Heap.IsList.push hl2 _
   wp_walk using wpAny_pyIter_tuple hL1,wpAny_pyIter_list hL2
   exact ⟨_,rfl,h⟩
section
variable {prog:Program}{w:World}{A:Around}{E:Value→Shared→Prop}{s:Shared}
theorem Zch {l1 l2:Addr}{xs ys:Array Value}{Q:Value→Shared→Prop}(hl1:s.heap.IsTuple l1 xs)(hl2:s.heap.IsList l2 ys)
   (h:∀ h',IsZip h' (s.heap.objs.size+4) (s.heap.objs.size+2) (s.heap.objs.size+3) .none→IsPair h' (s.heap.objs.size+2) (.ref s.heap.objs.size) (.ref (s.heap.objs.size+1)) →
     IsPair h' (s.heap.objs.size+3) .none .none→h'.IsTupleIter s.heap.objs.size l1 0→h'.IsListIter (s.heap.objs.size+1) l2 0→h'.objs.size=s.heap.objs.size+5 →
     (∀ c o,s.heap.get? c=some o→h'.get? c=some o)→Q (.ref (s.heap.objs.size+4)) { s with heap:=h' }):wpAny (model prog w) A (call (.type "zip") [.ref l1,.ref l2]) Q E s:=by
 refine callType_new F.called_zip (by decide) (F.typeCall_zip_2 _ _) (F.newCall_zip_2 _ _) (fun obj=>F.args_object_init_3 obj _ _) F.entry_zip_new (ZdD l1 l2 xs ys) ⟨hl1,hl2,?_⟩
 have z1:(s.heap.push (Yo l1)).objs.size=s.heap.objs.size+1:=Heap.size_push ..
 have z2:((s.heap.push (Yo l1)).push (XU l2)).objs.size=s.heap.objs.size+2:=by rw [Heap.size_push,z1]
 have z3:(((s.heap.push (Yo l1)).push (XU l2)).push { cls:=.type "tuple",data:=.seq #[.ref s.heap.objs.size,.ref (s.heap.push (Yo l1)).objs.size] }).objs.size=s.heap.objs.size+3:=by rw [Heap.size_push,z2]
 have z4:(Ux s.heap l1 l2).objs.size=s.heap.objs.size+4:=by rw [Heap.size_push,z3]
 show _∧_
 rw [z4,z3,z2]
 have up:∀ {h:Heap} {o:Obj} {c:Addr} {u:Obj},h.get? c=some u→(h.push o).get? c=some u:=fun e=>Heap.get?_push_of_some _ e
 have g5:((Ux s.heap l1 l2).push { cls:=.type "zip",data:=.fields #[.none,.bool false,.bool false,.ref (s.heap.objs.size+2),.ref (s.heap.objs.size+3)] }).get? (Ux s.heap l1 l2).objs.size=some _:=Heap.get?_push_size _ rfl
 have g4:(Ux s.heap l1 l2).get? _=some _:=Heap.get?_push_size _ rfl
 have g3:(((s.heap.push (Yo l1)).push (XU l2)).push { cls:=.type "tuple",data:=.seq #[.ref s.heap.objs.size,.ref (s.heap.push (Yo l1)).objs.size] }).get? _=some _:=Heap.get?_push_size _ rfl
 have g2:((s.heap.push (Yo l1)).push (XU l2)).get? _=some _:=Heap.get?_push_size _ rfl
 have g1:(s.heap.push (Yo l1)).get? _=some _:=Heap.get?_push_size _ rfl
 rw [z4] at g5
 rw [z3] at g4
 rw [z2] at g3
 rw [z1] at g2
 conv at g3=>rhs;rw [z1]
 exact ⟨⟨_,g5,rfl⟩,h _ g5 (up (up g3)) (up g4) ⟨_,up (up (up (up g1))),rfl,rfl⟩ ⟨_,up (up (up g2)),rfl,rfl⟩ (by rw [Heap.size_push,z4]) fun c o x=>up (up (up (up (up x))))⟩
end
def Wq (K:PySem.W.Frag)(l1 l2:Addr):It :=
 ⟨fun i H=>∃ xs ys x y,SqT K H l1 xs∧SqL K H l2 ys∧xs[i]?=some x∧ys[i]?=some y,
  fun i H v H'=>∃ t x y,H t=none∧(∀ xs,SqT K H l1 xs→xs[i]?=some x)∧(∀ ys,SqL K H l2 ys→ys[i]?=some y)∧v=.ref t∧H'=upd H t (.tup [x,y]),
  fun i H=>∃ xs ys,SqT K H l1 xs∧SqL K H l2 ys∧(xs.length≤i∨ys.length≤i)⟩
theorem Zat {P:Program}{w:World}{K:PySem.W.Frag}{elts:List Expr}{x1:Nat}{tp:Pos}{z TI TO i1 i2 l1 l2:Addr}(D:ZipApart z TI TO i1 i2 l1 l2)(hTl1:l1≠TI)(hTl2:l2≠TI) :
   XT P w K (.Tuple elts x1 tp) (Wq K l1 l2) [z,TI,TO,i1,i2] z (fun i h=>IsZip h z TI TO .none∧IsPair h TI (.ref i1) (.ref i2)∧(∃ a b,IsPair h TO a b)∧h.IsTupleIter i1 l1 i∧h.IsListIter i2 l2 i) where
 mem:=by simp
 obj:=fun i h st b hb=>by
   obtain ⟨hz,hTI,⟨a,c,hTO⟩,⟨o1,ho1,c1,d1⟩,⟨o2,ho2,c2,d2⟩⟩:=st
   simp only [List.mem_cons,List.not_mem_nil,or_false] at hb
   rcases hb with q | q | q | q | q
   · rw [q];exact ⟨_,hz,fun v z=>by cases z⟩
   · rw [q];exact ⟨_,hTI,fun v z=>by cases z⟩
   · rw [q];exact ⟨_,hTO,fun v z=>by cases z⟩
   · rw [q];exact ⟨o1,ho1,fun v z=>by rw [d1] at z;cases z⟩
   · rw [q];exact ⟨o2,ho2,fun v z=>by rw [d2] at z;cases z⟩
 keep:=fun i h h' st k=>by
   obtain ⟨hz,hTI,⟨a,c,hTO⟩,h1,h2⟩:=st
   exact ⟨k z (by simp) _ hz,k TI (by simp) _ hTI,⟨a,c,k TO (by simp) _ hTO⟩,h1.at fun o y=>k i1 (by simp) o y,h2.at fun o y=>k i2 (by simp) o y⟩
 item:=by
   intro X hP hw hK hc i pins s σ H E I hf st hg
   subst hP hw hK
   obtain ⟨hz,hTI,⟨a,b,hTO⟩,h1,h2⟩:=st
   obtain ⟨xs,ys,x,y,hq1,hq2,hx,hy⟩:=hg
   obtain ⟨its1,rv1,p1,hz1⟩:=I.tuple hq1
   obtain ⟨its2,rv2,p2,hz2⟩:=I.list hq2
   obtain ⟨u1,hu1,ru1⟩:=rv1.get hx
   obtain ⟨u2,hu2,ru2⟩:=rv2.get hy
   refine Zcn D hz hTI hTO h1 h2 p1 p2.isList (by simpa using hu1) (by simpa using hu2) fun h' g1 g2 g3 g4 g5 g6 g7=>?_
   refine ⟨_,rfl,wpAny_letOwnedTupleGo_zip g1 fun h2' g1' hs2=>?_⟩
   have hzl:z < s.heap.objs.size:=Heap.lt_size hz
   have hTIl:TI < s.heap.objs.size:=Heap.lt_size hTI
   have hTOl:TO < s.heap.objs.size:=Heap.lt_size hTO
   have hi1l:i1 < s.heap.objs.size:=by obtain ⟨o,ho,_⟩:=h1;exact Heap.lt_size ho
   have hi2l:i2 < s.heap.objs.size:=by obtain ⟨o,ho,_⟩:=h2;exact Heap.lt_size ho
   have g5':h'.get? s.heap.objs.size=some ({ cls:=.type "tuple",data:=.seq #[u1,u2] }:Obj):=g5
   generalize hO:({ cls:=.type "tuple",data:=.seq #[u1,u2] }:Obj)=O at g5'
   have I1:Inv X pins σ (upd H s.heap.objs.size (.tup [x,y])) { s with heap:=s.heap.push O,toks:=s.toks }:=by
     refine I.laid (t':=s.toks) (fun b o y=>Heap.get?_push_of_some _ y) (Nat.le_refl _) (show ObjOk X.prog X.w _ _ _ (.tup _) from ⟨by show 2≤sizeLine;decide,[u1,u2],.cons ru1 (.cons ru2 .nil),?_⟩)
     rw [← hO];exact IsTup.new _ _
   have hfree:=I.hok.fresh (Nat.le_refl s.heap.objs.size)
   have hf2:∀ b∈[z,TI,TO,i1,i2],Yi X pins (upd H s.heap.objs.size (.tup [x,y])) b:=fun b hb=>by
     obtain ⟨f0,f1⟩:=hf b hb
     have hb':b≠s.heap.objs.size:=by
       simp only [List.mem_cons,List.not_mem_nil,or_false] at hb
       rcases hb with q | q | q | q | q<;>(rw [q];exact Nat.ne_of_lt (by assumption))
     exact ⟨by rw [Zp hb'];exact f0,f1⟩
   have I2:Inv X pins σ (upd H s.heap.objs.size (.tup [x,y])) { s with heap:=h2',toks:=s.toks }:=by
     refine I1.turned2 (t':=s.toks) (h':=h2') (fun b o hb y=>?_) hf2
     have n1:b≠z:=fun q=>hb (by simp [q])
     have n2:b≠TO:=fun q=>hb (by simp [q])
     have n3:b≠i1:=fun q=>hb (by simp [q])
     have n4:b≠i2:=fun q=>hb (by simp [q])
     rw [hs2.2 b n1]
     rcases Heap.get?_push_cases y with ⟨q1,q2⟩ | y
     · rw [q1,q2];exact g5'
     · exact g7 b o n1 n2 n3 n4 y
   refine ⟨.ref s.heap.objs.size,_,I2,rfl,⟨s.heap.objs.size,x,y,hfree,fun ys hy'=>by rw [I.tuple_inj hy' hq1];exact hx,fun ys' hy'=>by rw [I.list_inj hy' hq2];exact hy,rfl,rfl⟩,⟨g1',?_,⟨u1,u2,?_⟩,?_,?_⟩,fun b hb=>(hf2 b hb).1⟩
   · show h2'.get? TI=_
     rw [hs2.2 TI D.TIz];exact g7 TI _ D.TIz D.TITO D.TIi1 D.TIi2 hTI
   · show h2'.get? TO=_
     rw [hs2.2 TO D.TOz];exact g2
   · exact g3.at fun o y=>by rw [hs2.2 i1 D.i1z];exact y
   · exact g4.at fun o y=>by rw [hs2.2 i2 D.i2z];exact y
 done:=by
   intro X hP hw hK hc i pins s σ H E I hf st hg
   subst hP hw hK
   obtain ⟨hz,hTI,⟨a,b,hTO⟩,h1,h2⟩:=st
   obtain ⟨xs,ys,hq1,hq2,hle⟩:=hg
   obtain ⟨its1,rv1,p1,hz1⟩:=I.tuple hq1
   obtain ⟨its2,rv2,p2,hz2⟩:=I.list hq2
   have l1:=rv1.length
   have l2:=rv2.length
   have fin:∀ h':Heap,(∀ c o,c≠z→c≠TO→c≠i1→c≠i2→s.heap.get? c=some o→h'.get? c=some o)→Inv X pins σ H { s with heap:=h',toks:=s.toks }:=fun h' eb=>I.turned2 (t':=s.toks) (fp:=[z,TI,TO,i1,i2]) (fun b o hb y=>eb b o (fun q=>hb (by simp [q])) (fun q=>hb (by simp [q])) (fun q=>hb (by simp [q])) (fun q=>hb (by simp [q])) y) hf
   by_cases hlt:xs.length≤i
   · exact Zdn (I.ok.hd hc) D hz hTI hTO h1 p1 (Array.getElem?_eq_none (by simp;omega)) fun h' eb=>⟨rfl,fin h' eb⟩
   · exact ZcD (I.ok.hd hc) D hz hTI hTO h1 h2 p1 p2.isList (x:=its1[i]'(by omega)) (by simp [show i < its1.length by omega]) (Array.getElem?_eq_none (by simp;omega)) fun h' eb=>⟨rfl,fin h' eb⟩
 self:=fun _ _ _ _ _ st h=>wpAny_pyIter_zip st.1 h
def ZeH (K:PySem.W.Frag)(ta tb:TE):TI:=fun σ H R=>ta σ H fun v H1=>tb σ H1 fun u H2=>∃ a b xs ys,[v,u]=[V.ref a,V.ref b]∧SqT K H2 a xs∧H2 b=some (.lst ys)∧R (Wq K a b) H2
section
variable {X:Cx}
theorem ZcJ {l m:Expr}{ta tb:TE}{elts:List Expr}{x1:Nat}{tp p pos:Pos}(hg:Gl X "zip")(hm:X.mg "zip"=none)(hl:PE X l ta)(hr:PE X m tb)
   (he:starEach [l,m] X.env=(false,eval l X.env)::starEach [m] X.env:=by rfl) (he2:starEach [m] X.env=[(false,eval m X.env)]:=by rfl) (hpl:(backTo pos (starEach [m] X.env)).any (·.1)=false:=by rfl):PI X (.Tuple elts x1 tp) (.Call (.Name "zip" p) [l,m] [] pos) (ZeH X.K ta tb):=by
 intro pins s σ H R I h
 have ha:PA X [l,m] (Xg ta (Xg tb Vr)):=ZS hl (ZS hr Za he2) he
 refine wpAny_Call_Name_kw (Wn I hg hm ZbZ ?_)
 refine PyProof.Rows.callWith_type1 (Zm (ha pos pins s σ H (fun vs H2=>∃ a b xs ys,vs=[V.ref a,V.ref b]∧SqT X.K H2 a xs∧H2 b=some (.lst ys)∧R (Wq X.K a b) H2) I h) fun us s1 ⟨vs,H1,I1,r1,a,b,xs,ys,e,ea,eb,q⟩=>?_) he hpl
 subst e
 obtain ⟨u1,u2,rfl,r2,r3⟩:∃ u1 u2,us=[u1,u2]∧RelV (V.ref a) u1∧RelV (V.ref b) u2:=by
   cases r1 with
   | cons p t=>cases t with
     | cons p2 t2=>cases t2;exact ⟨_,_,rfl,p,p2⟩
 cases r2
 cases r3
 obtain ⟨its1,rv1,⟨o1,eo1,c1,n1,d1⟩,_⟩:=I1.tuple ea
 obtain ⟨z2,its2,n2,rv2,hl2,eo2⟩:=I1.lstM eb
 have ha1:a < s1.heap.objs.size:=Heap.lt_size eo1
 have hb1:b < s1.heap.objs.size:=Heap.lt_size eo2
 refine Zch ⟨_,eo1,c1,n1,d1⟩ ⟨_,eo2,rfl,n2,rfl⟩ fun h' g1 g2 g3 g4 g5 g6 g7=>wpAny_pyIter_zip g1 ?_
 refine ⟨s1.heap.objs.size+4,[s1.heap.objs.size+4,s1.heap.objs.size+2,s1.heap.objs.size+3,s1.heap.objs.size,s1.heap.objs.size+1],_,_,H1,rfl,I1.kept (t':=s1.toks) g7,Zat (l1:=a) (l2:=b) ⟨?_,?_,?_,?_,?_,?_,?_,?_,?_,?_,?_,?_,?_,?_,?_,?_,?_,?_⟩ ?_ ?_,⟨g1,g2,⟨_,_,g3⟩,g4,g5⟩,fun c hc=>?_,q⟩
 rotate_right
 · simp only [List.mem_cons,List.not_mem_nil,or_false] at hc
   have up:∀ k,Yi X pins H1 (s1.heap.objs.size+k):=fun k=>I1.fpOk (Nat.le_add_right _ k) (I1.hok.fresh (Nat.le_add_right _ k))
   rcases hc with q | q | q | q | q
   · rw [q];exact up 4
   · rw [q];exact up 2
   · rw [q];exact up 3
   · rw [q];exact up 0
   · rw [q];exact up 1
 all_goals
   first
     | exact Nat.ne_of_lt (by first | (apply Nat.lt_of_lt_of_le (by assumption);omega) | (simp only [Nat.add_lt_add_iff_left];decide) | (show _ < _+_;exact Nat.lt_add_of_pos_right (by decide)))
     | exact Nat.ne_of_gt (by first | (simp only [Nat.add_lt_add_iff_left];decide) | exact Nat.lt_add_of_pos_right (by decide))
end
theorem Zbx {K:PySem.W.Frag}{a b:Addr}{xs ys:List V}{g:TG}{tb:TS}{D:Wa}{σ:St}{H:Hp}(hlen:ys.length≤xs.length)(Pv:Nat→St→Hp→Prop)(h0:Pv 0 σ H)(hl:∀ i σ H,i≤ys.length→Pv i σ H→SqT K H a xs∧SqL K H b ys)
   (hs:∀ i x y t σ H,xs[i]?=some x→ys[i]?=some y→H t=none→Pv i σ H→g (.ref t) σ (upd H t (.tup [x,y])) fun σ2 H2=>tb { D with nx:=Pv (i+1),ct:=Pv (i+1),bk:=D.nx } σ2 H2) (hd:∀ σ H,Pv ys.length σ H→D.nx σ H) :
   ∃ W:Nat→Nat→St→Hp→Prop,(∃ m,W 0 m σ H)∧∀ i m σ H,W i m σ H →
     ((Wq K a b).stop i H∧D.nx σ H)∨((Wq K a b).go i H∧∃ N:St→Hp→Prop,(∀ σ' H',N σ' H'→∃ m',m' < m∧W (i+1) m' σ' H')∧∀ x H',(Wq K a b).yld i H x H'→g x σ H' fun σ2 H2=>tb { D with nx:=N,ct:=N,bk:=D.nx } σ2 H2):=by
 refine ⟨fun i m σ H=>m=ys.length - i∧i≤ys.length∧Pv i σ H,⟨ys.length,by simp,Nat.zero_le _,h0⟩,?_⟩
 rintro i m σ H ⟨rfl,hi,p⟩
 obtain ⟨q1,q2⟩:=hl i σ H hi p
 by_cases hlt:i < ys.length
 · refine .inr ⟨⟨xs,ys,xs[i]'(by omega),ys[i],q1,q2,by simp [show i < xs.length by omega],by simp [hlt]⟩,Pv (i+1),fun σ' H' p'=>⟨ys.length - (i+1),by omega,rfl,hlt,p'⟩,fun x H' y=>?_⟩
   obtain ⟨t,x',y',e1,e2,e3,e4,e5⟩:=y
   subst e4 e5
   exact hs i x' y' t σ _ (e2 xs q1) (e3 ys q2) e1 p
 · have e:i=ys.length:=by omega
   subst e
   exact .inl ⟨⟨xs,ys,q1,q2,.inr (Nat.le_refl _)⟩,hd σ H p⟩
end L2
namespace L2
open PySem
structure FG (K:PySem.W.Frag)(x:Str)(st:Stmt)(f:Addr)(fd:FuncData):Prop where
 a:PySem.W.nsIn K mainGlobals x=some (some (.ref f))
 F:Fun K x x st f fd
structure Bs (P:Program)(w:World)(K:PySem.W.Frag)(mg:Str→Option Value)(base h:Heap):Prop where
 X:K.In h
 G:h.Ns mainGlobals mg
section
variable {P:Program}{w:World}{K:PySem.W.Frag}{mg:Str→Option Value}{base h:Heap}{x q:Str}{st:Stmt}{f c Pl C:Addr}{fd:FuncData}{k:Nat}{ps:List Str}{sp:Sp}{p1 p2 p3 p4 p5:Str}
theorem FG.df (g:FG K x st f fd)(e:Bs P w K mg base h)(o:FnOk P w K mg base ZI k f fd ps sp)(b:Binds K fd ps []):Def P w K mg base k x ps sp:=⟨f,fd,o,b,g.F.kp,PySem.W.mg_of e.X e.G g.a⟩
abbrev BA (x q:Str)(st:Stmt)(us:List Value)(r:List (Str×Value)):Prop:=∀(kV doc pm:Value)(an:Option Addr)(cdv ct:Value),bindArgs (PySem.W.fnOf x q (Uk st) (Xj st) (Zg st) .none kV doc pm an cdv ct) ⟨us,[]⟩=pure r
theorem Fun.b1 (F:Fun K x q st f fd)(h:∀ u,BA x q st [u] [(p1,u)]):Binds K fd [p1] []:=F.binds fun a b c d e g us hl=>match us,hl with | [u],_=>h u a b c d e g
theorem Fun.b2 (F:Fun K x q st f fd)(h:∀ u v,BA x q st [u,v] [(p1,u),(p2,v)]):Binds K fd [p1,p2] []:=F.binds fun a b c d e g us hl=>match us,hl with | [u,v],_=>h u v a b c d e g
theorem Fun.b4 (F:Fun K x q st f fd)(h:∀ u v y z,BA x q st [u,v,y,z] [(p1,u),(p2,v),(p3,y),(p4,z)]):Binds K fd [p1,p2,p3,p4] []:=F.binds fun a b c d e g us hl=>match us,hl with | [u,v,y,z],_=>h u v y z a b c d e g
theorem Fun.b5 (F:Fun K x q st f fd)(h:∀ u v y z z',BA x q st [u,v,y,z,z'] [(p1,u),(p2,v),(p3,y),(p4,z),(p5,z')]):Binds K fd [p1,p2,p3,p4,p5] []:=F.binds fun a b c d e g us hl=>match us,hl with | [u,v,y,z,z'],_=>h u v y z z' a b c d e g
theorem Zbi (F:Fun K x q st f fd)(h:∀ u,BA x q st [u] [(p1,u)])(s:Shared)(v:Value):BindsTo s fd ⟨[v],[]⟩ [(p1,v)]:=by
 obtain ⟨oc,od,kV,doc,pm,an,cdv,ct,osl,rfl,lk,hcd⟩:=F.ex
 exact .of_eq (h v kV doc pm an cdv ct)
end
end L2
set_option maxHeartbeats 2000000
namespace L2
open PySem PySem.Spec PyProof.Rows
def Zcb:Expr→Option V
 | .Constant (.int i) _ _=>some (.int i)
 | .Constant (.str x) _ _=>some (.str x)
 | .Constant (.bool b) _ _=>some (.bl b)
 | .Constant .none _ _=>some .non
 | _=>none
def ZaG:List Expr→Option (List V)
 | []=>some []
 | e::es=>match Zcb e,ZaG es with
   | some v,some vs=>some (v::vs)
   | _,_=>none
section
variable {X:Cx}
theorem Zem {e:Expr}{v:V}(h:Zcb e=some v):PE X e (tC v)∧∀ es,starEach (e::es) X.env=(false,eval e X.env)::starEach es X.env:=by
 unfold Zcb at h
 split at h<;>cases h
 · exact ⟨Zb,fun _=>rfl⟩
 · exact ⟨Zk,fun _=>rfl⟩
 · exact ⟨Zdf,fun _=>rfl⟩
 · exact ⟨Zeh,fun _=>rfl⟩
def Zfm (vs:List V):TA:=fun _ H Q=>Q vs H
theorem Uo:∀{es:List Expr}{vs:List V},ZaG es=some vs→PA X es (Zfm vs)
 | [],_,h=>by cases h;exact Za
 | e :: es,vs,h=>by
   rw [ZaG] at h
   split at h
   · rename_i v ws h1 h2
     cases h
     obtain ⟨p,s⟩:=Zem (X:=X) h1
     exact ZS p (Uo h2) (s es)
   · cases h
end
section
variable {X:Cx}
end
section
variable {K:PySem.W.Frag}{x q:Str}{st:Stmt}{f:Addr}{fd:FuncData}{p1 p2 p3 p4 p5 p6 p7:Str}
end
section
variable {X:Cx}
end
end L2
set_option maxHeartbeats 4000000
namespace K67
open PySem L2
def _root_.L2.Pg.ws:Pg→List Str
 | .set x v s=>[x,Xz v,s]
 | .look x=>[x]
 | .slot _ s=>[s]
 | .pass=>[]
 | .blk _ _=>[]
 | .inn s _=>[s]
def _root_.L2.Pg.srow (p:Pg):Str:=Txt.join " " (p.word::p.ws)
def _root_.L2.Pg.ks:Pg→List Str
 | .set _ _ _=>["name","value","slot"]
 | .look _=>["name"]
 | .slot _ _=>["slot"]
 | .pass=>[]
 | .blk _ _=>[]
 | .inn _ _=>["slot"]
def Fit:List V→List Str→List Str→Prop
 | u::us,k::ks,y::ws=>((k="value"∧ZW u∧y=Xz u)∨(k≠"value"∧u=.str y))∧Fit us ks ws
 | _,[],[]=>True
 | _,_,_=>False
theorem Fit.at:∀ {us:List V} {ks ws:List Str} {i:Nat} {k:Str},Fit us ks ws→ks[i]?=some k→∃ u y,us[i]?=some u∧ws[i]?=some y∧((k="value"∧ZW u∧y=Xz u)∨(k≠"value"∧u=.str y))
 | u::us,k::ks,y::ws,0,_,h,e=>by cases e;exact ⟨u,y,rfl,rfl,h.1⟩
 | u::us,k::ks,y::ws,i+1,_,h,e=>by simpa using Fit.at (i:=i) h.2 e
 | _,[],_,_,_,_,e=>by simp at e
 | [],_::_,_,_,_,h,_=>by simp [Fit] at h
 | _::_,_::_,[],_,_,h,_=>by simp [Fit] at h
theorem Fit.len:∀{us:List V}{ks ws:List Str},Fit us ks ws→ks.length≤us.length∧ws.length=ks.length
 | u::us,k::ks,y::ws,h=>by have:=Fit.len h.2;simp only [List.length_cons];omega
 | _,[],[],_=>⟨Nat.zero_le _,rfl⟩
 | _,[],_::_,h=>by simp [Fit] at h
 | [],_::_,_,h=>by simp [Fit] at h
 | _::_,_::_,[],h=>by simp [Fit] at h
theorem Zap {K:PySem.W.Frag}{H:Hp}{u v:V}(h:DatT K H u (XM v))(hv:ZW v):u=v:=by
 cases v with
 | int i=>cases h;rfl
 | str x=>cases h;rfl
 | _=>exact hv.elim
def Wb (x:Str):Option (List V):=(PyProof.Rows.KTD.datumAt x Yz).map fun xs=>xs.filter fun v=>!decide (v=.str "program")
theorem Zby {K:PySem.W.Frag}{H:Hp}{v:V}{p:Pg}(h:DatT K H v p.dat)(ho:p.ok):∃ a xs,v=.ref a∧SqT K H a (.str p.word::xs)∧xs.length≤3∧Wb p.word=some (p.ks.map V.str)∧Fit xs p.ks p.ws:=by
 have nv:∀ x:Str,x="name"∨x="slot"→x≠"value":=by
   intro x hx;rcases hx with rfl | rfl<;>decide +kernel
 cases p with
 | set x v s =>
   obtain ⟨a,xs,rfl,e,q⟩:=DatT.tupI h
   obtain _ | ⟨q1,q2⟩:=q
   cases q1;obtain _ | ⟨q3,q4⟩:=q2;cases q3;obtain _ | ⟨q5,q6⟩:=q4;obtain _ | ⟨q7,q8⟩:=q6;cases q7;cases q8
   have e5:=Zap q5 ho.2.1
   subst e5
   exact ⟨a,_,rfl,e,by simp,(show Wb "set"=some ((["name","value","slot"]:List Str).map V.str) by decide +kernel),.inr ⟨nv _ (.inl rfl),rfl⟩,.inl ⟨rfl,ho.2.1,rfl⟩,.inr ⟨nv _ (.inr rfl),rfl⟩,trivial⟩
 | look x =>
   obtain ⟨a,xs,rfl,e,q⟩:=DatT.tupI h
   obtain _ | ⟨q1,q2⟩:=q
   cases q1;obtain _ | ⟨q3,q4⟩:=q2;cases q3;cases q4
   exact ⟨a,_,rfl,e,by simp,(show Wb "look"=some ((["name"]:List Str).map V.str) by decide +kernel),.inr ⟨nv _ (.inl rfl),rfl⟩,trivial⟩
 | slot w s =>
   obtain ⟨a,xs,rfl,e,q⟩:=DatT.tupI h
   obtain _ | ⟨q1,q2⟩:=q
   cases q1;obtain _ | ⟨q3,q4⟩:=q2;cases q3;cases q4
   refine ⟨a,_,rfl,e,by simp,?_,.inr ⟨nv _ (.inr rfl),rfl⟩,trivial⟩
   rcases ho.1 with rfl | rfl
   · exact (show Wb "back"=some ((["slot"]:List Str).map V.str) by decide +kernel)
   · exact (show Wb "copy"=some ((["slot"]:List Str).map V.str) by decide +kernel)
 | pass =>
   obtain ⟨a,xs,rfl,e,q⟩:=DatT.tupI h
   obtain _ | ⟨q1,q2⟩:=q
   cases q1;cases q2
   exact ⟨a,_,rfl,e,by simp,(show Wb "pass"=some (([]:List Str).map V.str) by decide +kernel),trivial⟩
 | blk w ps =>
   obtain ⟨a,xs,rfl,e,q⟩:=DatT.tupI h
   obtain _ | ⟨q1,q2⟩:=q
   cases q1;obtain _ | ⟨q3,q4⟩:=q2;cases q4
   refine ⟨a,_,rfl,e,by simp,?_,trivial⟩
   rcases ho.1 with rfl | rfl
   · exact (show Wb "begin"=some (([]:List Str).map V.str) by decide +kernel)
   · exact (show Wb "late"=some (([]:List Str).map V.str) by decide +kernel)
 | inn s ps =>
   obtain ⟨a,xs,rfl,e,q⟩:=DatT.tupI h
   obtain _ | ⟨q1,q2⟩:=q
   cases q1;obtain _ | ⟨q3,q4⟩:=q2;cases q3;obtain _ | ⟨q5,q6⟩:=q4;cases q6
   exact ⟨a,_,rfl,e,by simp,(show Wb "in"=some ((["slot"]:List Str).map V.str) by decide +kernel),.inr ⟨nv _ (.inr rfl),rfl⟩,trivial⟩
theorem Vi {p:Pg}(h:p.ok):p.word.length≤5∧(∀ y∈p.ws,y.length≤100)∧p.ws.length≤3:=by
 cases p with
 | set x v s =>
   have h1:=h.1.2.1
   have h2:=ZcN h.2.1
   have h3:=h.2.2.2.1
   refine ⟨(show (Str.ofString "set").length≤5 by decide +kernel),fun y hy=>?_,by simp [Pg.ws]⟩
   simp only [Pg.ws,List.mem_cons,List.not_mem_nil,or_false] at hy
   rcases hy with rfl | rfl | rfl<;>omega
 | look x =>
   have h1:=(show ZK x from h).2.1
   refine ⟨(show (Str.ofString "look").length≤5 by decide +kernel),fun y hy=>?_,by simp [Pg.ws]⟩
   simp only [Pg.ws,List.mem_cons,List.not_mem_nil,or_false] at hy
   rw [hy];omega
 | slot w s =>
   have h1:=h.2.2.1
   refine ⟨?_,fun y hy=>?_,by simp [Pg.ws]⟩
   · rcases h.1 with rfl | rfl
     · exact (show (Str.ofString "back").length≤5 by decide +kernel)
     · exact (show (Str.ofString "copy").length≤5 by decide +kernel)
   · simp only [Pg.ws,List.mem_cons,List.not_mem_nil,or_false] at hy
     rw [hy];omega
 | pass=>exact ⟨(show (Str.ofString "pass").length≤5 by decide +kernel),fun y hy=>(nomatch hy),Nat.zero_le _⟩
 | blk w ps =>
   refine ⟨?_,fun y hy=>(nomatch hy),Nat.zero_le _⟩
   rcases h.1 with rfl | rfl
   · exact (show (Str.ofString "begin").length≤5 by decide +kernel)
   · exact (show (Str.ofString "late").length≤5 by decide +kernel)
 | inn s ps =>
   have h1:=h.1.2.1
   refine ⟨(show (Str.ofString "in").length≤5 by decide +kernel),fun y hy=>?_,Nat.succ_le_succ (Nat.zero_le _)⟩
   simp only [Pg.ws,List.mem_cons,List.not_mem_nil,or_false] at hy
   rw [hy];omega
theorem ZaL {x:Str}{xs:List V}(h:PyProof.Rows.KTD.datumAt x Yz=some xs):xs.length≤3∧∀ v∈xs,ZaF v (.str "program")=true:=by
 have:∀ p∈Yz,p.2.length≤3∧∀ v∈p.2,ZaF v (.str "program")=true:=by decide +kernel
 have mem:∀ (D:List (Str×List V)),PyProof.Rows.KTD.datumAt x D=some xs→∃ p∈D,p.2=xs:=by
   intro D
   induction D with
   | nil=>intro h;cases h
   | cons p D ih =>
     intro h
     rw [PyProof.Rows.KTD.datumAt] at h
     split at h
     · cases h;exact ⟨p,List.mem_cons_self,rfl⟩
     · obtain ⟨q,hq,e⟩:=ih h;exact ⟨q,List.mem_cons_of_mem _ hq,e⟩
 obtain ⟨p,hp,rfl⟩:=mem _ h
 exact this p hp
theorem Xr {H H':Hp}{d:Addr}{o:HO}(s:Same H H')(h:H d=none):Same H (upd H' d o):=fun b u q=>by rw [Zp (Zz q h)];exact s _ _ q
theorem WP {n:Nat}:∀ zs:List Str,(∀ y∈zs,y.length≤n)→(zs.map (·.length)).sum≤n * zs.length:=fun zs=>by
 induction zs with
 | nil=>intro _;simp
 | cons z r ih =>
   intro hz
   have h1:=hz z List.mem_cons_self
   have h2:=ih fun y hy=>hz y (List.mem_cons_of_mem _ hy)
   rw [List.map_cons,List.sum_cons,List.length_cons,Nat.mul_add];omega
section
variable {P:Program}{w:World}{K:PySem.W.Frag}{mg:Str→Option Value}{base:Heap}
def spKR (K:PySem.W.Frag):Sp:=fun vs H Q _=>∃(x:Str)(xs:List V),vs=[.str x]∧Wb x=some xs∧∀ l H',Same H H'→H l=none→H' l=some (.lst xs)→Q (.ref l) H'
abbrev nKR:List Str:=["word"]
abbrev Zck:List Str:=["word"]
theorem scKR:Zt nKR Zck (Zg s_kinds_in_row):=⟨rfl,rfl,rfl,by decide +kernel,rfl,by decide +kernel,by decide +kernel⟩
theorem Zfr {f:Addr}{fd:FuncData}(F:Fun K "kinds_in_row" "kinds_in_row" s_kinds_in_row f fd)(T:ZY mg)(DKi:Def P w K mg base 1 "kinds_of" Zay (Uw K)):FnOk P w K mg base ZI 2 f fd Zck (spKR K):=by
 refine F.ok scKR (fun vs H Q E h=>?_) (fun cdv A outer s H vs Q E hr h=>?_)
 · obtain ⟨x,xs,rfl,_⟩:=h;rfl
 obtain ⟨x,xs,rfl,hx,q⟩:=h
 refine' ⟨?t,?h,?r⟩
 case h =>
   conv=>arg 2;whnf
   with_reducible refine' (Zj ?h1)
   case h1=>exact Zs (VM (CompOk.of nKR s_kinds_in_row rfl rfl (by decide +kernel)) rfl (Uc (Zn DKi hr (Zc (pv 0) Za))) (fun _ _ _ _ _=>ZD UY (pv 1) Zk (ZG _)) (fun _ _ _ _ _=>pv 1))
 refine ⟨_,rfl,x,rfl,fun b ys e1 e2=>?_,fun e=>by unfold Wb at hx;rw [e] at hx;cases hx⟩
 unfold Wb at hx
 rw [e1] at hx
 cases hx
 obtain ⟨hl,hs⟩:=ZaL e1
 refine ⟨b,rfl,⟨_,e2⟩,fun D hD=>?_⟩
 refine UN (K:=K) (xs:=ys) (ZH (show ys.length≤1000 by omega)) (fun i zs H'=>Same H H'∧H' D=some (.lst zs)∧i≤ys.length∧zs=(ys.take i).filter fun v=>!decide (v=.str "program")) ⟨Zl hD _,Zh,Nat.zero_le _,rfl⟩ ?_ ?_ ?_
 · rintro i zs H' ⟨s1,_,hi,rfl⟩
   refine ⟨?_,e2.tf s1.tf⟩
   have:=List.length_filter_le (fun v=>!decide (v=V.str "program")) (ys.take i)
   rw [List.length_take] at this;omega
 · rintro i v zs H' hv ⟨s1,eD,hi,rfl⟩
   have hv2:=(List.getElem?_eq_some_iff.mp hv).1
   refine ⟨_,rfl,hs v (List.mem_of_getElem? hv),_,rfl,?_⟩
   have et:ys.take (i+1)=ys.take i++[v]:=by rw [List.take_add_one,hv];rfl
   cases hc:decide (v=V.str "program") with
   | true=>exact Xb ⟨s1,eD,hv2,by rw [et,List.filter_append,List.filter_cons,hc];simp⟩
   | false=>exact XA ⟨_,rfl,eD,fun b o e=>by rw [Zp (Zz e hD)];exact s1 _ _ e,Zh,hv2,by rw [et,List.filter_append,List.filter_cons,hc];simp⟩
 · rintro zs H' ⟨s1,eD,_,rfl⟩
   rw [List.take_length] at eD
   exact q D H' s1 hD eD
def ZbY (K:PySem.W.Frag):Sp:=fun vs H Q _=>∃(v:V)(p:Pg),vs=[v]∧DatT K H v p.dat∧p.ok∧∀ H',Same H H'→Q (.str p.srow) H'
abbrev nSR:List Str:=["step","words","part","kind"]
abbrev ZaO:List Str:=["step"]
theorem scSR:Zt nSR ZaO (Zg s_step_row):=⟨rfl,rfl,rfl,by decide +kernel,rfl,by decide +kernel,by decide +kernel⟩
theorem ZeX {f:Addr}{fd:FuncData}(F:Fun K "step_row" "step_row" s_step_row f fd)(T:ZY mg)(DVT:Def P w K mg base 2 "value_text" ZcO spVT)(DKR:Def P w K mg base 2 "kinds_in_row" Zck (spKR K)):FnOk P w K mg base ZI 3 f fd ZaO (ZbY K):=by
 refine F.ok scSR (fun vs H Q E h=>?_) (fun cdv A outer s H vs Q E hr h=>?_)
 · obtain ⟨v,p,rfl,_⟩:=h;rfl
 obtain ⟨v,p,rfl,hp,ho,q⟩:=h
 obtain ⟨a,xs,rfl,e,hxl,hk,hf⟩:=Zby hp ho
 obtain ⟨hw,hws,hwl⟩:=Vi ho
 obtain ⟨hl1,hl2⟩:=hf.len
 refine' ⟨?t,?h,?r⟩
 case h =>
   conv=>arg 2;whnf
   with_reducible refine' (Zf ?h1 (Zf (XF ?h2 ?h3 ?h4 ?h5 (Zj ?h6) ?h7) (Zj ?h8)))
   case h1=>exact ZC (i:=1) scSR.nd rfl (Or.inl rfl) (ZF (Zc (Zu Yy (pv 0) Zb (fun _ _=>rfl)) Za))
   case h2=>exact PassesOwn.never
   case h3=>exact rfl
   case h4=>exact ZcJ rfl T.zip (Yc Zbg (pv 0) (Yl Zb) Yk) (Zn DKR hr (Zc (Zu Yy (pv 0) Zb (fun _ _=>rfl)) Za))
   case h5=>exact Vn rfl (YM (ZV (i:=2) scSR.nd rfl (Or.inl rfl)) (YM (ZV (i:=3) scSR.nd rfl (Or.inl rfl)) Ui))
   case h6=>exact Yt (Yd PySem.F.plainAttrs_list PySem.F.slot_list_append PySem.F.type_list_append Ya (pv 1) (Zc (XY (ZD Xw (pv 3) Zk (ZG _)) (Zn DVT hr (Zc (pv 2) Za)) (pv 2)) Za))
   case h7=>exact fun _=>rfl
   case h8=>exact Zs (Yd PySem.F.plainAttrs_str PySem.F.slot_str_join PySem.F.type_str_join YN Zk (Zc (pv 1) Za))
 refine ⟨_,rfl,a,_,_,_,rfl,rfl,e,Zq (j:=0) rfl,(by show 1≤sizeLine;decide),fun l hl=>?_⟩
 have s1:=Zl hl (.lst [.str p.word])
 refine ⟨_,rfl,1,rfl,a,_,rfl,e.tf s1.tf,?_,fun t ht=>?_⟩
 · rintro ⟨h1,_⟩
   rw [show (1:Int)=((1:Nat):Int) from rfl,HT.sIx_nat,List.length_cons] at h1
   omega
 rw [show (1:Int)=((1:Nat):Int) from rfl,VA,List.drop_succ_cons,List.drop_zero]
 have s2:=Zl ht (.tup xs)
 have e2:(upd (upd H l (.lst [.str p.word])) t (.tup xs)) t=some (.tup xs):=Zh
 have el2:=s2 _ _ (show (upd H l (.lst [.str p.word])) l=_ from Zh)
 have s12:=s1.trans s2
 generalize upd (upd H l (.lst [.str p.word])) t (.tup xs)=H2 at *
 refine ⟨_,rfl,a,_,_,_,rfl,rfl,e.tf s12.tf,Zq (j:=0) rfl,p.word,_,rfl,hk,fun k H3 s3 hk0 ek=>?_⟩
 refine ⟨t,k,xs,_,rfl,SqT.of (s3 _ _ e2),ek,?_⟩
 have hkl:k≠l:=Ne.symm (Zz el2 hk0)
 have el3:=s3 _ _ el2
 refine Zbx (xs:=xs) (ys:=p.ks.map V.str) (by rw [List.length_map];exact hl1) (fun i σ H'=>∃ x2 x3,σ=[some (.ref a),some (.ref l),x2,x3]∧Same H H'∧H' l=some (.lst ((p.word::p.ws.take i).map V.str))∧H' t=some (.tup xs)∧H' k=some (.lst (p.ks.map V.str))) ⟨_,_,rfl,s12.trans s3,el3,s3 _ _ e2,ek⟩ (fun i σ H' _ ⟨_,_,_,_,_,e5,e6⟩=>⟨SqT.of e5,SqL.of e6⟩) ?_ ?_
 · rintro i u kv tt σ H4 hu hkv htt ⟨x2,x3,rfl,s4,el4,et4,ek4⟩
   rw [List.getElem?_map] at hkv
   obtain ⟨kk,ekk,rfl⟩:=Option.map_eq_some_iff.mp hkv
   obtain ⟨u',y,eu,ey,hc⟩:=hf.at ekk
   rw [hu] at eu
   cases eu
   have s5:=Zl htt (.tup [u,.str kk])
   refine ⟨tt,_,rfl,SqT.of Zh,rfl,_,_,rfl,_,_,rfl,rfl,?_⟩
   have hlen:(p.ws.take i).length≤3:=by rw [List.length_take];omega
   have fin:∀ H6,H6=upd (upd H4 tt (.tup [u,.str kk])) l (.lst ((p.word::p.ws.take i).map V.str++[.str y]))→∃ x2 x3,([some (.ref a),some (.ref l),some u,some (.str kk)]:St)=[some (.ref a),some (.ref l),x2,x3]∧Same H H6∧H6 l=some (.lst ((p.word::p.ws.take (i+1)).map V.str))∧H6 t=some (.tup xs)∧H6 k=some (.lst (p.ks.map V.str)):=by
     rintro H6 rfl
     have el5:=s5 _ _ el4
     refine ⟨_,_,rfl,Xr (s4.trans s5) hl,?_,?_,?_⟩
     · rw [Zh,List.take_add_one,ey];simp
     · rw [Zp (WT (s5 _ _ et4) el5 (fun z=>nomatch z))];exact s5 _ _ et4
     · rw [Zp hkl];exact s5 _ _ ek4
   have hsz:((p.word::p.ws.take i).map V.str).length < sizeLine:=Wp (show _≤1000 by rw [List.length_map,List.length_cons];omega)
   rcases hc with ⟨rfl,hv,rfl⟩ | ⟨hne,rfl⟩
   · exact ⟨_,rfl,.inl ⟨rfl,_,SqL.of (s5 _ _ el4)⟩,_,rfl,rfl,_,rfl,XA ⟨_,rfl,u,rfl,hv,l,_,_,rfl,rfl,s5 _ _ el4,hsz,fin _ rfl⟩⟩
   · have hd:decide (V.str kk=V.str (Str.ofString "value"))=false:=decide_eq_false fun z=>hne (by injection z)
     exact ⟨_,rfl,.inl ⟨rfl,_,SqL.of (s5 _ _ el4)⟩,_,rfl,rfl,_,rfl,ifF hd ⟨_,rfl,l,_,_,rfl,rfl,s5 _ _ el4,hsz,fin _ rfl⟩⟩
 · rintro σ H4 ⟨x2,x3,rfl,s4,el4,_,_⟩
   rw [List.length_map,← hl2,List.take_length] at el4
   refine ⟨rfl,_,rfl," ",l,p.word::p.ws,rfl,rfl,SqL.of el4,?_,q H4 s4⟩
   have:=WP (n:=100) (p.word::p.ws) (fun y hy=>by rcases List.mem_cons.mp hy with rfl | hy;omega;exact hws y hy)
   rw [show (Str.ofString " ").length=1 by decide +kernel]
   rw [List.length_cons] at this ⊢;omega
end
end K67
set_option maxHeartbeats 4000000
namespace K67
open PySem L2
def WZ (x:Str):Str:=Str.ofString "  "++x
mutual
def WB:Pg→List Str
 | .blk w ps=>Pg.srow (.blk w ps)::(Zr ps).map WZ
 | .inn s ps=>Pg.srow (.inn s ps)::(Zr ps).map WZ
 | .set x v s=>[Pg.srow (.set x v s)]
 | .look x=>[Pg.srow (.look x)]
 | .slot w s=>[Pg.srow (.slot w s)]
 | .pass=>[Pg.srow .pass]
def Zr:List Pg→List Str
 | []=>[]
 | p::ps=>(WB p)++Zr ps
end
theorem YI (p:Pg):WB p=p.srow::(Zr p.inner).map WZ:=by
 cases p<;>simp [WB,Pg.inner,Zr]
theorem VI:∀ ps qs:List Pg,Zr (ps++qs)=Zr ps++Zr qs
 | [],qs=>rfl
 | p::ps,qs=>by show (WB p)++Zr (ps++qs)=(WB p)++Zr ps++_;rw [VI ps qs,List.append_assoc]
theorem UO {ps:List Pg}{i:Nat}{p:Pg}(h:ps[i]?=some p):Zr (ps.take (i+1))=Zr (ps.take i)++(p.srow::(Zr p.inner).map WZ):=by
 rw [List.take_add_one,h,VI,← YI]
 show _++((WB p)++[])=_;rw [List.append_nil]
mutual
theorem Zdw:∀ p:Pg,(WB p).length=p.many
 | .blk w ps=>by
   have:=Yr ps
   have h2:=Pg.many_eq (.blk w ps)
   rw [YI,List.length_cons,List.length_map,h2];show (Zr ps).length+1=1+Pg.manys ps;omega
 | .inn s ps=>by
   have:=Yr ps
   have h2:=Pg.many_eq (.inn s ps)
   rw [YI,List.length_cons,List.length_map,h2];show (Zr ps).length+1=1+Pg.manys ps;omega
 | .set x v s=>by rw [Pg.many_eq];rfl
 | .look x=>by rw [Pg.many_eq];rfl
 | .slot w s=>by rw [Pg.many_eq];rfl
 | .pass=>by rw [Pg.many_eq];rfl
theorem Yr:∀ ps:List Pg,(Zr ps).length=Pg.manys ps
 | []=>rfl
 | p::ps=>by
   have h1:=Zdw p
   have h2:=Yr ps
   show ((WB p)++Zr ps).length=p.many+Pg.manys ps
   rw [List.length_append,h1,h2]
end
theorem Wl (s:Str):∀ zs:List Str,(Str.join s zs).length≤(zs.map (·.length)).sum+zs.length * s.length
 | []=>by show 0≤_;omega
 | [z]=>by show z.length≤_;simp
 | p::q::r=>by
   have ih:=Wl s (q::r)
   show (p++s++Str.join s (q::r)).length≤_
   rw [YO,YO,List.map_cons,List.sum_cons,List.length_cons,Nat.add_mul];omega
theorem YE {p:Pg}(h:p.ok):p.srow.length≤500:=by
 obtain ⟨h1,h2,h3⟩:=Vi h
 have:=WP (n:=100) (p.word::p.ws) (fun y hy=>by rcases List.mem_cons.mp hy with rfl | hy;omega;exact h2 y hy)
 have j:=Wl " " (p.word::p.ws)
 unfold Pg.srow
 rw [tj]
 rw [show (Str.ofString " ").length=1 by decide +kernel] at j
 rw [List.length_cons] at this j
 omega
mutual
theorem Zdx:∀{p:Pg},p.ok→∀ r∈(WB p),r.length≤500+2 * p.hgt
 | .blk w ps,h,r,hr=>by
   rw [YI] at hr
   rcases List.mem_cons.mp hr with rfl | hr
   · have:=YE h;omega
   · obtain ⟨x,hx,rfl⟩:=List.mem_map.mp hr
     have:=Xq h.2 x hx
     show (Str.ofString "  "++x).length≤500+2 * (Pg.hgts ps+1)
     rw [YO,show (Str.ofString "  ").length=2 by decide +kernel];omega
 | .inn s ps,h,r,hr=>by
   rw [YI] at hr
   rcases List.mem_cons.mp hr with rfl | hr
   · have:=YE h;omega
   · obtain ⟨x,hx,rfl⟩:=List.mem_map.mp hr
     have:=Xq h.2 x hx
     show (Str.ofString "  "++x).length≤500+2 * (Pg.hgts ps+1)
     rw [YO,show (Str.ofString "  ").length=2 by decide +kernel];omega
 | .set x v s,h,r,hr=>by rw [YI] at hr;rcases List.mem_cons.mp hr with rfl | hr;(have:=YE h;omega);exact absurd hr (by simp [Pg.inner,Zr])
 | .look x,h,r,hr=>by rw [YI] at hr;rcases List.mem_cons.mp hr with rfl | hr;(have:=YE h;omega);exact absurd hr (by simp [Pg.inner,Zr])
 | .slot w s,h,r,hr=>by rw [YI] at hr;rcases List.mem_cons.mp hr with rfl | hr;(have:=YE h;omega);exact absurd hr (by simp [Pg.inner,Zr])
 | .pass,h,r,hr=>by rw [YI] at hr;rcases List.mem_cons.mp hr with rfl | hr;(have:=YE h;omega);exact absurd hr (by simp [Pg.inner,Zr])
theorem Xq:∀{ps:List Pg},Pg.oks ps→∀ r∈Zr ps,r.length≤500+2 * Pg.hgts ps
 | [],_,r,hr=>(nomatch hr)
 | p::ps,h,r,hr=>by
   have e:Pg.hgts (p::ps)=max p.hgt (Pg.hgts ps):=rfl
   rcases List.mem_append.mp (show r∈(WB p)++Zr ps from hr) with hr | hr
   · have:=Zdx h.1 r hr;omega
   · have:=Xq h.2 r hr;omega
end
section
variable {P:Program}{w:World}{K:PySem.W.Frag}{mg:Str→Option Value}{base:Heap}{tk:Tok}
def ZcB:Sp:=fun vs H Q _=>∃(l:Addr)(rs:List Str),vs=[.ref l]∧H l=some (.lst (rs.map V.str))∧rs.length≤1000∧(∀ r∈rs,r.length≤1000)∧∀ m H',Same H H'→H m=none→H' m=some (.lst ((rs.map WZ).map V.str))→Q (.ref m) H'
abbrev nMI:List Str:=["rows"]
abbrev Zax:List Str:=["rows"]
theorem scMI:Zt nMI Zax (Zg s_moved_in):=⟨rfl,rfl,rfl,by decide +kernel,rfl,by decide +kernel,by decide +kernel⟩
theorem ZfC {f:Addr}{fd:FuncData}(F:Fun K "moved_in" "moved_in" s_moved_in f fd)(hFI:mg "FURTHER_IN"=some (.str "  " tk)):FnOk P w K mg base ZI 1 f fd Zax ZcB:=by
 refine F.ok scMI (fun vs H Q E h=>?_) (fun cdv A outer s H vs Q E hr h=>?_)
 · obtain ⟨l,rs,rfl,_⟩:=h;rfl
 obtain ⟨l,rs,rfl,el,hl,hb,q⟩:=h
 refine' ⟨?t,?h,?r⟩
 case h =>
   conv=>arg 2;whnf
   with_reducible refine' (Zj ?h1)
   case h1=>exact Zs (Wr (CompOk.of nMI s_moved_in rfl rfl (by decide +kernel)) rfl (VT (pv 0))  (fun _ _ _ _ _=>Zi ZP (Zac rfl hFI (v:=.str "  ") ⟨_,rfl⟩) (pv 1)))
 refine ⟨_,rfl,l,rfl,⟨_,SqL.of el⟩,fun D hD=>?_⟩
 refine Zbc (K:=K) (xs:=rs.map V.str) (ZH (show _≤1000 by rw [List.length_map];omega)) (fun i ys H'=>Same H H'∧H' D=some (.lst ys)∧ys=((rs.take i).map WZ).map V.str∧i≤rs.length) ⟨Zl hD _,Zh,rfl,Nat.zero_le _⟩ ?_ ?_ ?_
 · rintro i ys H' ⟨s1,_,rfl,hi⟩
   exact ⟨by rw [List.length_map,List.length_map,List.length_take];omega,SqL.of (s1 _ _ el)⟩
 · rintro i v ys H' hv ⟨s1,eD,rfl,hi⟩
   rw [List.getElem?_map] at hv
   obtain ⟨r,er,rfl⟩:=Option.map_eq_some_iff.mp hv
   have hrl:=hb r (List.mem_of_getElem? er)
   refine ⟨_,rfl,_,_,rfl,rfl,ZH (show _≤2000 by rw [show (Str.ofString "  ").length=2 by decide +kernel];omega),eD,fun b o e=>?_,Zh,?_,(List.getElem?_eq_some_iff.mp er).1⟩
   · rw [Zp (Zz e hD)];exact s1 _ _ e
   · rw [List.take_succ,er,List.map_append,List.map_append];rfl
 · rintro ys H2 ⟨s2,eD,rfl,_⟩
   rw [List.length_map,List.take_length] at eD
   exact q D H2 s2 hD eD
def Vw (K:PySem.W.Frag)(n:Nat):Sp:=fun vs H Q _=>∃(v:V)(ps:List Pg),vs=[v]∧DatT K H v (.tuple (Pg.dats ps))∧Pg.oks ps∧Pg.rk ps≤n∧Pg.hgts ps≤100∧Pg.manys ps≤1000∧∀ l H',Same H H'→H l=none→H' l=some (.lst ((Zr ps).map V.str))→Q (.ref l) H'
abbrev nPR:List Str:=["program","rows","step"]
abbrev WJ:List Str:=["program"]
theorem scPR:Zt nPR WJ (Zg s_program_rows):=⟨rfl,rfl,rfl,by decide +kernel,rfl,by decide +kernel,by decide +kernel⟩
theorem Zbe {f:Addr}{fd:FuncData}{n k:Nat}(F:Fun K "program_rows" "program_rows" s_program_rows f fd)(T:ZY mg)(DPw:Def P w K mg base k "program_within" Zaw (WE K))(DSR:Def P w K mg base k "step_row" ZaO (ZbY K))(DMI:Def P w K mg base k "moved_in" Zax ZcB)(DPR:Def P w K mg base k "program_rows" WJ (fun vs H Q E=>∃ m,m < n∧Vw K m vs H Q E)):FnOk P w K mg base ZI (k+1) f fd WJ (Vw K n):=by
 refine F.ok scPR (fun vs H Q E h=>?_) (fun cdv A outer s H vs Q E hr h=>?_)
 · obtain ⟨v,ps,rfl,_⟩:=h;rfl
 obtain ⟨v,ps,rfl,hp,ho,hn,hh,hm,q⟩:=h
 obtain ⟨a,xs,rfl,e,hd⟩:=DatT.tupI hp
 have hl:=hd.pgs
 refine' ⟨?t,?h,?r⟩
 case h =>
   conv=>arg 2;whnf
   with_reducible refine' (Zf ?h1 (Zf (XF ?h2 ?h3 ?h4 ?h5 (Zf ?h6 (Zj ?h7)) ?h8) (Zj ?h9)))
   case h1=>exact ZC (i:=1) scPR.nd rfl (Or.inl rfl) (ZF Za)
   case h2=>exact PassesOwn.never
   case h3=>exact rfl
   case h4=>exact Uc (pv 0)
   case h5=>exact ZV (i:=2) scPR.nd rfl (Or.inl rfl)
   case h6=>exact Yt (Yd PySem.F.plainAttrs_list PySem.F.slot_list_append PySem.F.type_list_append Ya (pv 1) (Zc (Zn DSR hr (Zc (pv 2) Za)) Za))
   case h7=>exact Yt (Yd PySem.F.plainAttrs_list PySem.F.slot_list_extend PySem.F.type_list_extend Uz (pv 1) (Zc (Zn DMI hr (Zc (Zn DPR hr (Zc (Zn DPw hr (Zc (pv 2) Za)) Za)) Za)) Za))
   case h8=>exact fun _=>rfl
   case h9=>exact Zs (pv 1)
 have hlm:=Pg.len_manys ps
 refine ⟨(by show 0≤sizeLine;decide),fun l hl0=>?_⟩
 refine ⟨_,rfl,a,rfl,⟨_,e.tf (Zl hl0 _).tf⟩,?_⟩
 refine Zak (xs:=xs) (fun i σ H'=>∃ x2,σ=[some (.ref a),some (.ref l),x2]∧Same H H'∧H' l=some (.lst ((Zr (ps.take i)).map V.str))) ⟨_,rfl,Zl hl0 _,by rw [List.take_zero];exact Zh⟩ (fun i σ H' _ ⟨_,_,s',_⟩=>e.tf s'.tf) ?_ ?_
 · rintro i v σ H' hv ⟨x2,rfl,s',el⟩
   obtain ⟨p,ep,dp⟩:=hd.pg hv
   have hop:=Pg.oks_at ho ep
   have hml:=Pg.manys_le (ps:=ps) i
   have hml1:=Pg.manys_le (ps:=ps) (i+1)
   have hmt:=Pg.manys_take ep
   have hmp:=Pg.inner_many (p:=p)
   have hlr:=Yr (ps.take i)
   have hli:=Yr p.inner
   have hhp:=Pg.hgts_at ep
   have hhi:Pg.hgts p.inner≤100:=Pg.inner_hgt (n:=100) (by omega)
   refine ⟨_,rfl,.inl ⟨rfl,_,SqL.of el⟩,_,rfl,v,p,rfl,dp.same s',hop,fun H1 s1=>?_⟩
   refine ⟨l,_,_,rfl,rfl,s1 _ _ el,Wp (show _≤1000 by rw [List.length_map];omega),?_⟩
   have el1:upd H1 l (.lst ((Zr (ps.take i)).map V.str++[.str p.srow])) l=some (.lst ((Zr (ps.take i)).map V.str++[.str p.srow])):=Zh
   have s2:Same H (upd H1 l (.lst ((Zr (ps.take i)).map V.str++[.str p.srow]))):=Xr (s'.trans s1) hl0
   generalize upd H1 l (.lst ((Zr (ps.take i)).map V.str++[.str p.srow]))=H2 at *
   refine ⟨_,rfl,.inl ⟨rfl,_,SqL.of el1⟩,_,rfl,v,p,rfl,dp.same s2,hop,fun t H3 s3 dt=>?_⟩
   refine ⟨Pg.rk p.inner,Nat.lt_of_lt_of_le (Pg.rk_at ep) hn,t,p.inner,rfl,dt,Pg.inner_ok hop,Nat.le_refl _,hhi,by omega,fun m H4 s4 hm0 em=>?_⟩
   refine ⟨m,Zr p.inner,rfl,em,by omega,fun r hr=>by have:=Xq (Pg.inner_ok hop) r hr;omega,fun m2 H5 s5 hm2 em2=>?_⟩
   have el5:=((s3.trans s4).trans s5) _ _ el1
   refine ⟨l,m2,_,_,rfl,rfl,el5,em2,ZH (show _≤5000 by rw [List.length_append,List.length_map,List.length_map,List.length_map,List.length_singleton];omega),?_⟩
   refine ⟨_,rfl,Xr (((s2.trans s3).trans s4).trans s5) hl0,?_⟩
   rw [Zh,UO ep];simp
 · rintro σ H' ⟨x2,rfl,s',el⟩
   rw [hl,List.take_length] at el
   exact ⟨_,rfl,q l H' s' hl0 el⟩
theorem ZcV {f:Addr}{fd:FuncData}(F:Fun K "program_rows" "program_rows" s_program_rows f fd)(T:ZY mg)(b:Binds K fd WJ [])(kp:PySem.W.keepIn K (.ref f)=true)(m:mg "program_rows"=some (.ref f))(DPw:Def P w K mg base 3 "program_within" Zaw (WE K))(DSR:Def P w K mg base 3 "step_row" ZaO (ZbY K))(DMI:Def P w K mg base 3 "moved_in" Zax ZcB):∀ n,FnOk P w K mg base ZI (4+n) f fd WJ (Vw K n)
 | 0=>Zbe F T DPw DSR DMI ⟨_,_,⟨fun vs H Q E ⟨_,h,_⟩=>absurd h (Nat.not_lt_zero _),fun _ _ _ _ _ _ _ _ _ _ _ _ _ ⟨_,h,_⟩=>absurd h (Nat.not_lt_zero _)⟩,b,kp,m⟩
 | n+1=>Zbe F T (DPw.mono (show 3≤4+n by omega)) (DSR.mono (show 3≤4+n by omega)) (DMI.mono (show 3≤4+n by omega)) ⟨_,_,(ZcV F T b kp m DPw DSR DMI n).imp fun vs H Q E ⟨j,h,v,ps,a1,a2,a3,a4,a5⟩=>⟨v,ps,a1,a2,a3,by omega,a5⟩,b,kp,m⟩
def ptx (ps:List Pg):Str:=Txt.join "\n" (Zr ps)
def spPT (K:PySem.W.Frag)(n:Nat):Sp:=fun vs H Q _=>∃(v:V)(ps:List Pg),vs=[v]∧DatT K H v (.tuple (Pg.dats ps))∧Pg.oks ps∧Pg.rk ps≤n∧Pg.hgts ps≤100∧Pg.manys ps≤1000∧∀ H',Same H H'→Q (.str (ptx ps)) H'
theorem Vt {ps:List Pg}(ho:Pg.oks ps)(hh:Pg.hgts ps≤100)(hm:Pg.manys ps≤1000):((Zr ps).map (·.length)).sum+(Zr ps).length * (Str.ofString "\n").length≤16777216:=by
 have h1:=WP (n:=1000) (Zr ps) (fun y hy=>by have:=Xq ho y hy;omega)
 rw [Yr] at h1 ⊢
 rw [show (Str.ofString "\n").length=1 by decide +kernel];omega
abbrev nPT:List Str:=["program"]
abbrev ZcQ:List Str:=["program"]
theorem scPT:Zt nPT ZcQ (Zg s_program_text):=⟨rfl,rfl,rfl,by decide +kernel,rfl,by decide +kernel,by decide +kernel⟩
theorem Zfs {f:Addr}{fd:FuncData}{n k:Nat}(F:Fun K "program_text" "program_text" s_program_text f fd)(T:ZY mg)(DPR:Def P w K mg base k "program_rows" WJ (Vw K n)):FnOk P w K mg base ZI (k+1) f fd ZcQ (spPT K n):=by
 refine F.ok scPT (fun vs H Q E h=>?_) (fun cdv A outer s H vs Q E hr h=>?_)
 · obtain ⟨v,ps,rfl,_⟩:=h;rfl
 obtain ⟨v,ps,rfl,hp,ho,hn,hh,hm,q⟩:=h
 refine' ⟨?t,?h,?r⟩
 case h =>
   conv=>arg 2;whnf
   with_reducible refine' (Zj ?h1)
   case h1=>exact Zs (Yd PySem.F.plainAttrs_str PySem.F.slot_str_join PySem.F.type_str_join YN Zk (Zc (Zn DPR hr (Zc (pv 0) Za)) Za))
 exact ⟨rfl,_,rfl,v,ps,rfl,hp,ho,hn,hh,hm,fun l H' s' hl0 el=>⟨"\n",l,Zr ps,rfl,rfl,SqL.of el,Vt ho hh hm,q H' s'⟩⟩
end
end K67
set_option maxHeartbeats 4000000
namespace K67
open PySem L2
def VD:V→Bool
 | .str _=>true
 | _=>false
def isRV:V→Bool
 | .ref _=>true
 | _=>false
def _root_.L2.Pg.isSet:Pg→Bool
 | .set _ _ _=>true
 | _=>false
theorem Zbh {K:PySem.W.Frag}{H:Hp}{v:V}{d:PyData}(h:DatT K H v d):∃ t,TyS K H v t∧PySem.W.kitOne K t (.type "str")=some (VD v)∧PySem.W.kitOne K t (.type "tuple")=some (isRV v):=by
 cases h with
 | non=>exact ⟨_,.inl .non,rfl,rfl⟩
 | int i=>exact ⟨_,.inl (.int i),rfl,rfl⟩
 | str x=>exact ⟨_,.inl (.str x),rfl,rfl⟩
 | tup e q=>exact ⟨_,.inr ⟨_,_,rfl,rfl,e⟩,rfl,rfl⟩
theorem YD {K:PySem.W.Frag}{H:Hp}:∀{vs:List V}{ds:List PyData},DatTs K H vs ds→∀ v∈vs,∃ d,DatT K H v d
 | _,_,.nil,_,h=>(nomatch h)
 | _,_,.cons a b,v,h=>by
   rcases List.mem_cons.mp h with rfl | h
   · exact ⟨_,a⟩
   · exact YD b v h
theorem Zdp {K:PySem.W.Frag}{H:Hp}{v:V}{p:Pg}(h:DatT K H v p.dat)(ho:p.ok):∃ a xs,v=.ref a∧SqT K H a xs∧xs.length≤4∧xs[0]?=some (.str p.word)∧(∀ e∈xs,∃ d,DatT K H e d)∧(p.isSet=false→xs.filter VD=(p.word::p.ws).map V.str)∧(∀ x v s,p=.set x v s→xs=[.str "set",.str x,v,.str s])∧∃ t d,ZX xs (-1)=some t∧isRV t=p.isB∧DatT K H t d∧(p.isB=true→DatT K H t (.tuple (Pg.dats p.inner))):=by
 cases p with
 | set x v s =>
   obtain ⟨a,xs,rfl,e,q⟩:=DatT.tupI h
   have al:=YD q
   obtain _ | ⟨q1,q2⟩:=q
   cases q1;obtain _ | ⟨q3,q4⟩:=q2;cases q3;obtain _ | ⟨q5,q6⟩:=q4;obtain _ | ⟨q7,q8⟩:=q6;cases q7;cases q8
   have e5:=Zap q5 ho.2.1
   subst e5
   exact ⟨a,_,rfl,e,by simp,rfl,al,fun z=>(nomatch z),fun x v s z=>by cases z;rfl,_,_,YG (n:=3) rfl rfl,rfl,.str _,fun z=>(nomatch z)⟩
 | look x =>
   obtain ⟨a,xs,rfl,e,q⟩:=DatT.tupI h
   have al:=YD q
   obtain _ | ⟨q1,q2⟩:=q
   cases q1;obtain _ | ⟨q3,q4⟩:=q2;cases q3;cases q4
   exact ⟨a,_,rfl,e,by simp,rfl,al,fun _=>rfl,fun x v s z=>(nomatch z),_,_,YG (n:=1) rfl rfl,rfl,.str _,fun z=>(nomatch z)⟩
 | slot w s =>
   obtain ⟨a,xs,rfl,e,q⟩:=DatT.tupI h
   have al:=YD q
   obtain _ | ⟨q1,q2⟩:=q
   cases q1;obtain _ | ⟨q3,q4⟩:=q2;cases q3;cases q4
   exact ⟨a,_,rfl,e,by simp,rfl,al,fun _=>rfl,fun x v s z=>(nomatch z),_,_,YG (n:=1) rfl rfl,rfl,.str _,fun z=>(nomatch z)⟩
 | pass =>
   obtain ⟨a,xs,rfl,e,q⟩:=DatT.tupI h
   have al:=YD q
   obtain _ | ⟨q1,q2⟩:=q
   cases q1;cases q2
   exact ⟨a,_,rfl,e,by simp,rfl,al,fun _=>rfl,fun x v s z=>(nomatch z),_,_,YG (n:=0) rfl rfl,rfl,.str _,fun z=>(nomatch z)⟩
 | blk w ps =>
   obtain ⟨a,xs,rfl,e,q⟩:=DatT.tupI h
   have al:=YD q
   obtain _ | ⟨q1,q2⟩:=q
   cases q1;obtain _ | ⟨q3,q4⟩:=q2;cases q4
   have q3':=q3
   obtain ⟨b,ys,rfl,_,_⟩:=DatT.tupI q3
   exact ⟨a,_,rfl,e,by simp,rfl,al,fun _=>rfl,fun x v s z=>(nomatch z),_,_,YG (n:=1) rfl rfl,rfl,q3',fun _=>q3'⟩
 | inn s ps =>
   obtain ⟨a,xs,rfl,e,q⟩:=DatT.tupI h
   have al:=YD q
   obtain _ | ⟨q1,q2⟩:=q
   cases q1;obtain _ | ⟨q3,q4⟩:=q2;cases q3;obtain _ | ⟨q5,q6⟩:=q4;cases q6
   have q5':=q5
   obtain ⟨b,ys,rfl,_,_⟩:=DatT.tupI q5
   exact ⟨a,_,rfl,e,by simp,rfl,al,fun _=>rfl,fun x v s z=>(nomatch z),_,_,YG (n:=2) rfl rfl,rfl,q5',fun _=>q5'⟩
def Yv (b:Nat):Str:=Txt.mul " " (b:Int)
theorem Vz (c:Nat):∀(n:Nat)(A:Array Nat),((List.replicate n (#[c]:Array Nat)).foldl (·++·) A).toList=A.toList++List.replicate n c
 | 0,A=>by simp
 | n+1,A=>by
   rw [List.replicate_succ,List.foldl_cons,Vz c n]
   simp [List.replicate_succ]
theorem Xv (b:Nat):(Yv b).cps.toList=List.replicate b 32:=by
 unfold Yv Txt.mul
 match b with
 | 0=>rfl
 | 1=>rfl
 | n+2 =>
   rw [if_neg (by omega),if_neg (by rw [show ((((n+2:Nat)):Int) == 1)=false from decide_eq_false (by omega)];decide +kernel)]
   have:=Vz 32 (n+2) #[]
   rw [show ((((n+2:Nat)):Int)).toNat=n+2 by omega]
   exact this
theorem Zdt (b:Nat):(Yv b).length=b:=by
 show (Yv b).cps.size=b
 rw [← Array.length_toList,Xv,List.length_replicate]
theorem ZdA (b:Nat)(x:Str):Yv (b+2)++x=Yv b++WZ x:=by
 apply Xl
 unfold WZ
 simp only [Str.cps_append,Array.toList_append]
 rw [Xv,Xv,show (Str.ofString "  ").cps.toList=[32,32] by decide +kernel,show List.replicate (b+2) 32=List.replicate b 32++[32,32] by rw [List.replicate_succ',List.replicate_succ',List.append_assoc];rfl,List.append_assoc]
theorem Zfc (x:Str):Yv 0++x=x:=by
 apply Xl
 simp only [Str.cps_append,Array.toList_append]
 rw [Xv];rfl
theorem ZdZ {b:Nat}(h:b≤1000):MulOk " " (b:Int):=by
 refine ⟨?_,fun h1 _=>?_,fun h1 _=>?_⟩
 · rw [Bool.or_eq_false_iff];exact ⟨decide_eq_false (by omega),decide_eq_false (by omega)⟩
 · rw [show (Str.ofString " ").length=1 by decide +kernel]
   have:(1000:Int)≤(2 ^ 63 - 1) / (b:Int):=by
     rw [Int.le_ediv_iff_mul_le (by omega)]
     omega
   omega
 · rw [show (Str.ofString " ").length=1 by decide +kernel]
   have:1000≤sizeLine:=by decide
   exact decide_eq_false (by omega)
section
variable {P:Program}{w:World}{K:PySem.W.Frag}{mg:Str→Option Value}{base:Heap}
def Vp (K:PySem.W.Frag)(n:Nat):Sp:=fun vs H Q _=>∃(v:V)(b:Nat)(ps:List Pg),vs=[v,.int (b:Int)]∧DatT K H v (.tuple (Pg.dats ps))∧Pg.oks ps∧Pg.rk ps≤n∧b+2 * Pg.hgts ps≤200∧Pg.manys ps≤1000∧∀ l H',Same H H'→H l=none→H' l=some (.lst (((Zr ps).map (Yv b++·)).map V.str))→Q (.ref l) H'
abbrev nRo:List Str:=["_law_program_here","_law_blanks","_law_rows_here","_law_step","_law_words"]
abbrev WH:List Str:=["_law_program_here","_law_blanks"]
theorem scRo:Zt nRo WH (Zg s_l_rows):=⟨rfl,rfl,rfl,by decide +kernel,rfl,by decide +kernel,by decide +kernel⟩
theorem ZbC {f:Addr}{fd:FuncData}{n k:Nat}(F:Fun K "_law_rows" "_law_rows" s_l_rows f fd)(T:ZY mg)(DWr:Def P w K mg base k "_law_written" ZaQ (fun vs H Q E=>∃ v,vs=[v]∧ZW v∧∀ H',Same H H'→Q (.str (Xz v)) H'))(DRo:Def P w K mg base k "_law_rows" WH (fun vs H Q E=>∃ m,m < n∧Vp K m vs H Q E)):FnOk P w K mg base ZI (k+1) f fd WH (Vp K n):=by
 refine F.ok scRo (fun vs H Q E h=>?_) (fun cdv A outer s H vs Q E hr h=>?_)
 · obtain ⟨v,b,ps,rfl,_⟩:=h;rfl
 obtain ⟨v,b,ps,rfl,hp,ho,hn,hb,hm,q⟩:=h
 obtain ⟨a,xs,rfl,e,hd⟩:=DatT.tupI hp
 have hl:=hd.pgs
 have hlm:=Pg.len_manys ps
 refine' ⟨?t,?h,?r⟩
 case h =>
   conv=>arg 2;whnf
   with_reducible refine' (Zf ?h1 (Zf (XF ?h2 ?h3 ?h4 ?h5 (Zf ?h6 (Zdz (YB ?h7 (Zj ?h8) Yh) (Zf ?h9 (Zj (YB ?h10 (Zj ?h11) Yh))))) ?h12) (Zj ?h13)))
   case h1=>exact ZC (i:=2) scRo.nd rfl (Or.inl rfl) (ZF Za)
   case h2=>exact PassesOwn.never
   case h3=>exact rfl
   case h4=>exact Uc (pv 0)
   case h5=>exact ZV (i:=3) scRo.nd rfl (Or.inl rfl)
   case h6=>exact VP (i:=4) (CompOk.of nRo s_l_rows rfl rfl (by decide +kernel)) rfl scRo.nd rfl (Or.inl rfl) (Uc (pv 3)) (fun _ _ _ _ _=>WM (ZA (YW (K:=K) rfl) rfl T.isinstance (by decide +kernel) (Zc (pv 5) (Zc (XJ rfl T.str (by decide +kernel) (v:=.ty "str") rfl) Za)))) (fun _ _ _ _ _=>pv 5) rfl
   case h7=>exact ZD Xw (Zu Yy (pv 3) Zb (fun _ _=>rfl)) Zk (ZG _)
   case h8=>exact ZC (i:=4) scRo.nd rfl (Or.inl rfl) (ZF (Zc Zk (Zc (Zu Yy (pv 3) Zb (fun _ _=>rfl)) (Zc (Zn DWr hr (Zc (Zu Yy (pv 3) Zb (fun _ _=>rfl)) Za)) (Zc (Zu Yy (pv 3) Zb (fun _ _=>rfl)) Za)))))
   case h9=>exact Yt (Yd PySem.F.plainAttrs_list PySem.F.slot_list_append PySem.F.type_list_append Ya (pv 2) (Zc (Zi ZP (Zi WX Zk (pv 1)) (Yd PySem.F.plainAttrs_str PySem.F.slot_str_join PySem.F.type_str_join YN Zk (Zc (pv 4) Za))) Za))
   case h10=>exact WM (ZA (YW (K:=K) rfl) rfl T.isinstance (by decide +kernel) (Zc (Zu Yy (pv 3) (ZaV Vs Zb) (fun _ _=>rfl)) (Zc (XJ rfl T.tuple (by decide +kernel) (v:=.ty "tuple") rfl) Za)))
   case h11=>exact Yt (Yd PySem.F.plainAttrs_list PySem.F.slot_list_extend PySem.F.type_list_extend Uz (pv 2) (Zc (Zn DRo hr (Zc (Zu Yy (pv 3) (ZaV Vs Zb) (fun _ _=>rfl)) (Zc (Zi ZU (pv 1) Zb) Za))) Za))
   case h12=>exact fun _=>rfl
   case h13=>exact Zs (pv 2)
 refine ⟨(by show 0≤sizeLine;decide),fun l hl0=>?_⟩
 refine ⟨_,rfl,a,rfl,⟨_,e.tf (Zl hl0 _).tf⟩,?_⟩
 refine Zak (xs:=xs) (fun i σ H'=>∃ x3 x4,σ=[some (.ref a),some (.int (b:Int)),some (.ref l),x3,x4]∧Same H H'∧H' l=some (.lst (((Zr (ps.take i)).map (Yv b++·)).map V.str))) ⟨_,_,rfl,Zl hl0 _,by rw [List.take_zero];exact Zh⟩ (fun i σ H' _ ⟨_,_,_,s',_⟩=>e.tf s'.tf) ?_ ?_
 · rintro i v σ H' hv ⟨x3,x4,rfl,s',el⟩
   obtain ⟨p,ep,dp⟩:=hd.pg hv
   have hop:=Pg.oks_at ho ep
   have hml:=Pg.manys_le (ps:=ps) i
   have hml1:=Pg.manys_le (ps:=ps) (i+1)
   have hmt:=Pg.manys_take ep
   have hmp:=Pg.inner_many (p:=p)
   have hlr:=Yr (ps.take i)
   have hli:=Yr p.inner
   have hhp:=Pg.hgts_at ep
   obtain ⟨c,es,rfl,ec,hes,e0,al,hfil,hset,t,dt,et,ht,dtt,hin⟩:=Zdp (dp.same s') hop
   obtain ⟨hw1,hw2,hw3⟩:=Vi hop
   refine ⟨_,rfl,c,rfl,⟨_,ec⟩,fun D hD=>?_⟩
   refine UN (K:=K) (xs:=es) (ZH (show es.length≤1000 by omega)) (fun j zs H2=>Same H' H2∧H2 D=some (.lst zs)∧j≤es.length∧zs=(es.take j).filter VD) ⟨Zl hD _,Zh,Nat.zero_le _,rfl⟩ ?_ ?_ ?_
   · rintro j zs H2 ⟨s1,_,hj,rfl⟩
     refine ⟨?_,ec.tf s1.tf⟩
     have:=List.length_filter_le VD (es.take j)
     rw [List.length_take] at this;omega
   · rintro j u zs H2 hu ⟨s1,eD,hj,rfl⟩
     have hu2:=(List.getElem?_eq_some_iff.mp hu).1
     obtain ⟨d,du⟩:=al u (List.mem_of_getElem? hu)
     obtain ⟨ty,t1,t2,_⟩:=Zbh (du.same s1)
     refine ⟨_,rfl,_,_,_,_,rfl,t1,t2,_,rfl,?_⟩
     have et:es.take (j+1)=es.take j++[u]:=by rw [List.take_add_one,hu];rfl
     cases hc:VD u with
     | false=>exact Xb ⟨s1,eD,hu2,by rw [et,List.filter_append,List.filter_cons,hc];simp⟩
     | true=>exact XA ⟨_,rfl,eD,fun b o e=>by rw [Zp (Zz e hD)];exact s1 _ _ e,Zh,hu2,by rw [et,List.filter_append,List.filter_cons,hc];simp⟩
   rintro zs H2 ⟨s2,eD,_,rfl⟩
   rw [List.take_length] at eD
   have el2:=s2 _ _ el
   refine ⟨fun σ3 H3=>∃ wl:Addr,σ3=[some (.ref a),some (.int (b:Int)),some (.ref l),some (.ref c),some (.ref wl)]∧Same H2 H3∧H3 wl=some (.lst ((p.word::p.ws).map V.str)),?_,?_⟩
   · refine ⟨_,rfl,c,es,_,_,rfl,rfl,ec.tf s2.tf,Zq (j:=0) e0,rfl,_,rfl,?_⟩
     cases hs:p.isSet with
     | true =>
       cases p with
       | set x v s =>
         have hes2:=hset x v s rfl
         subst hes2
         refine XA ⟨_,rfl,c,_,_,_,rfl,rfl,ec.tf s2.tf,Zq (j:=1) rfl,_,rfl,c,_,_,_,rfl,rfl,ec.tf s2.tf,Zq (j:=2) rfl,v,rfl,hop.2.1,fun H3 s3=>?_⟩
         refine ⟨_,rfl,c,_,_,_,rfl,rfl,(ec.tf s2.tf).tf s3.tf,Zq (j:=3) rfl,(by show 4≤sizeLine;decide),fun wl hwl=>⟨wl,rfl,s3.trans (Zl hwl _),Zh⟩⟩
       | _=>exact nomatch hs
     | false =>
       have hne:decide (V.str p.word=V.str (Str.ofString "set"))=false:=by
         refine decide_eq_false fun z=>?_
         injection z with z
         cases p with
         | set x v s=>exact nomatch hs
         | look x=>exact absurd z (show (Str.ofString "look")≠Str.ofString "set" by decide +kernel)
         | pass=>exact absurd z (show (Str.ofString "pass")≠Str.ofString "set" by decide +kernel)
         | inn s ps=>exact absurd z (show (Str.ofString "in")≠Str.ofString "set" by decide +kernel)
         | slot w s=>rcases hop.1 with rfl | rfl<;>exact absurd z (by show Str.ofString _≠_;decide +kernel)
         | blk w s=>rcases hop.1 with rfl | rfl<;>exact absurd z (by show Str.ofString _≠_;decide +kernel)
       rw [hfil hs] at eD
       exact ifF hne ⟨D,rfl,Same.refl _,eD⟩
   rintro σ3 H3 ⟨wl,rfl,s3,ew⟩
   have el3:=s3 _ _ el2
   have s03:=(s'.trans s2).trans s3
   have hjb:((p.word::p.ws).map (·.length)).sum+(p.word::p.ws).length * (Str.ofString " ").length≤16777216:=by
     have:=WP (n:=100) (p.word::p.ws) (fun y hy=>by rcases List.mem_cons.mp hy with rfl | hy;omega;exact hw2 y hy)
     rw [show (Str.ofString " ").length=1 by decide +kernel]
     rw [List.length_cons] at this ⊢;omega
   have hsl:=YE hop
   refine ⟨_,rfl,.inl ⟨rfl,_,SqL.of el3⟩,_,rfl,_,_,rfl,rfl,ZdZ (b:=b) (by omega),rfl,_,rfl," ",wl,p.word::p.ws,rfl,rfl,SqL.of ew,hjb,_,_,rfl,rfl,ZH (show _≤5000 by have:=Zdt b;show (Yv b).length+p.srow.length≤5000;omega),?_⟩
   refine ⟨l,_,_,rfl,rfl,el3,Wp (show _≤1000 by rw [List.length_map,List.length_map];omega),?_⟩
   have el4:upd H3 l (.lst (((Zr (ps.take i)).map (Yv b++·)).map V.str++[.str (Yv b++p.srow)])) l=some (.lst (((Zr (ps.take i)).map (Yv b++·)).map V.str++[.str (Yv b++p.srow)])):=Zh
   have s4:Same H (upd H3 l (.lst (((Zr (ps.take i)).map (Yv b++·)).map V.str++[.str (Yv b++p.srow)]))):=Xr s03 hl0
   have tf4:TF H' (upd H3 l (.lst (((Zr (ps.take i)).map (Yv b++·)).map V.str++[.str (Yv b++p.srow)]))):=⟨fun b ys q=>by rw [Zp (WT (s3 _ _ (s2 _ _ q)) el3 (fun z=>nomatch z))];exact s3 _ _ (s2 _ _ q),fun b o u q=>by rw [Zp (WT (s3 _ _ (s2 _ _ q)) el3 (fun z=>nomatch z))];exact s3 _ _ (s2 _ _ q)⟩
   obtain ⟨ty,t1,_,t3⟩:=Zbh (dtt.tf tf4)
   refine ⟨_,rfl,_,rfl,c,es,_,_,rfl,rfl,ec.tf tf4,et,_,_,ty,_,rfl,t1,t3,_,rfl,?_⟩
   have etk:=UO ep
   cases hB:p.isB with
   | false =>
     refine ifF (ht.trans hB) ⟨_,_,rfl,s4,?_⟩
     rw [etk,Pg.inner_none hB]
     refine el4.trans ?_
     simp [Zr]
   | true =>
     have hge:1+Pg.hgts p.inner≤p.hgt:=by
       cases p with
       | blk w ps=>show 1+Pg.hgts ps≤Pg.hgts ps+1;omega
       | inn s ps=>show 1+Pg.hgts ps≤Pg.hgts ps+1;omega
       | _=>exact nomatch hB
     refine ifT (ht.trans hB) ⟨_,rfl,.inl ⟨rfl,_,SqL.of el4⟩,_,rfl,_,rfl,c,es,_,_,rfl,rfl,ec.tf tf4,et,_,rfl,_,_,rfl,rfl,Pg.rk p.inner,Nat.lt_of_lt_of_le (Pg.rk_at ep) hn,t,b+2,p.inner,rfl,(hin hB).tf tf4,Pg.inner_ok hop,Nat.le_refl _,by omega,by omega,fun m H5 s5 hm0 em=>?_⟩
     have el5:=s5 _ _ el4
     refine ⟨l,m,_,_,rfl,rfl,el5,em,ZH (show _≤5000 by rw [List.length_append,List.length_map,List.length_map,List.length_map,List.length_map,List.length_singleton];omega),?_⟩
     refine ⟨_,_,rfl,Xr (s4.trans s5) hl0,?_⟩
     rw [Zh,etk,List.map_append,List.map_append,List.map_cons,List.map_cons,List.map_map,show ((Zr p.inner).map (Yv (b+2)++·))=(Zr p.inner).map ((Yv b++·) ∘ WZ) from List.map_congr_left fun x _=>ZdA b x,List.append_assoc]
     simp only [List.map_map,List.singleton_append]
 · rintro σ H' ⟨x3,x4,rfl,s',el⟩
   rw [hl,List.take_length] at el
   exact ⟨_,rfl,q l H' s' hl0 el⟩
theorem Zda {f:Addr}{fd:FuncData}(F:Fun K "_law_rows" "_law_rows" s_l_rows f fd)(T:ZY mg)(b:Binds K fd WH [])(kp:PySem.W.keepIn K (.ref f)=true)(m:mg "_law_rows"=some (.ref f))(DWr:Def P w K mg base 1 "_law_written" ZaQ (fun vs H Q E=>∃ v,vs=[v]∧ZW v∧∀ H',Same H H'→Q (.str (Xz v)) H')):∀ n,FnOk P w K mg base ZI (2+n) f fd WH (Vp K n)
 | 0=>ZbC F T DWr ⟨_,_,⟨fun vs H Q E ⟨_,h,_⟩=>absurd h (Nat.not_lt_zero _),fun _ _ _ _ _ _ _ _ _ _ _ _ _ ⟨_,h,_⟩=>absurd h (Nat.not_lt_zero _)⟩,b,kp,m⟩
 | n+1=>ZbC F T (DWr.mono (show 1≤2+n by omega)) ⟨_,_,(Zda F T b kp m DWr n).imp fun vs H Q E ⟨j,h,v,c,ps,a1,a2,a3,a4,a5⟩=>⟨v,c,ps,a1,a2,a3,by omega,a5⟩,b,kp,m⟩
end
end K67
set_option maxHeartbeats 4000000
namespace K67
open PySem L2
section
variable {P:Program}{w:World}{K:PySem.W.Frag}{mg:Str→Option Value}{base:Heap}
def ZaN:Sp:=fun vs H Q _=>∃(p:Addr)(n:Nat)(Δ:Rs),vs=[.ref p]∧Sep ((p,Bx n)::Δ) H∧n≤890000∧∀(v:V)(H':Hp),ZW v→Sep ((p,Bx (n+52))::Δ) H'→Q v H'
def wordsW:List Str:=["begin","x in y","late "," in","a begin b","in","set a 5 b","weave 3"]
instance (v:V):Decidable (ZW v):=by unfold ZW;cases v<;>infer_instance
theorem ZbM:∀ x∈wordsW,ZW (.str x):=by decide +kernel
abbrev nWo:List Str:=["_law_box_here","_law_words"]
abbrev ZaA:List Str:=["_law_box_here"]
theorem scWo:Zt nWo ZaA (Zg s_l_worth):=⟨rfl,rfl,rfl,by decide +kernel,rfl,by decide +kernel,by decide +kernel⟩
theorem Zfk {f:Addr}{fd:FuncData}(F:Fun K "_law_worth" "_law_worth" s_l_worth f fd)(T:ZY mg)(DT:UL P w K mg base 2)(DV:Def P w K mg base 2 "_law_value" ["_law_box_here"] WF):FnOk P w K mg base ZI 3 f fd ZaA ZaN:=by
 refine F.ok scWo (fun vs H Q E h=>?_) (fun cdv A outer s H vs Q E hr h=>?_)
 · obtain ⟨p,N,Δ,rfl,_⟩:=h;rfl
 have hr1:=hr
 obtain ⟨p,N,Δ,rfl,S,hN,q⟩:=h
 refine' ⟨?t,?h,?r⟩
 case h =>
   conv=>arg 2;whnf
   with_reducible refine' (Zf (ZC (i:=1) ?h1 ?h2 ?h3 (ZF ?h4) ?h5 ?h6) (Zj ?h7))
   case h1=>exact scWo.nd
   case h2=>exact rfl
   case h3=>exact (Or.inl rfl)
   case h4=>(refine' Uo (vs:=[.str "begin",.str "x in y",.str "late ",.str " in",.str "a begin b",.str "in",.str "set a 5 b",.str "weave 3"]) ?zz;case zz=>decide +kernel)
   case h5=>exact rfl
   case h6=>exact (by first | exact .inl rfl | exact .inr rfl)
   case h7=>exact Zs (XY (ZD Xw (Zn DT hr1 (Zc (pv 0) (Zc Zb Za))) Zb (ZG _)) (Zu Zy (pv 1) (Zn DT hr1 (Zc (pv 0) (Zc Zb Za))) (fun _ _=>rfl)) (Zn DV hr (Zc (pv 0) Za)))
 refine ⟨(show 8≤sizeLine by decide),fun l hl=>?_⟩
 have S0:=S.new hl (.lst (wordsW.map V.str))
 refine ⟨_,rfl,p,N,8,_,rfl,S0.pull p,by omega,by decide,by decide,fun r1 H1 a0 a1 S1=>⟨rfl,_,rfl,?_⟩⟩
 refine Xc (fun c=>?_) (fun c=>?_)
 · refine ⟨_,rfl,_,rfl,p,N+1,8,_,rfl,S1,by omega,by decide,by decide,fun r2 H2 b0 b1 S2=>?_⟩
   obtain ⟨x,hx,he⟩:=Xa (f:=V.str) (xs:=wordsW) b0 b1
   have el:=S2.get l
   exact ⟨l,_,_,_,rfl,rfl,SqL.of el,he,q _ _ (ZbM x hx) ((S2.drop l).le (by omega))⟩
 · exact ⟨_,rfl,p,_,_,rfl,S1,by omega,fun v H2 hv S2=>q v H2 hv ((S2.drop l).le (by omega))⟩
def wordsC:List Str:=["begin","late","in","set","look","back","copy","pass","weave","setting","task"]
instance (x:Str):Decidable (ZK x):=by unfold ZK;infer_instance
theorem ZbK:∀ x∈wordsC,ZK x:=by decide +kernel
def spCa:Sp:=fun vs H Q _=>∃(p:Addr)(n many:Nat)(Δ:Rs),vs=[.ref p,.int (many:Int)]∧Sep ((p,Bx n)::Δ) H∧n≤890000∧1≤many∧many≤100∧∀(l:Addr)(H':Hp)(xs:List Str),Sep ((l,Wy (xs.map V.str))::(p,Bx (n+30))::Δ) H'→xs≠[]→xs.length≤200→(∀ x∈xs,ZK x)→Q (.ref l) H'
theorem XO (ws:List Str)(lo hi:Option Int):∃ zs:List Str,YS (ws.map V.str) lo hi=zs.map V.str∧(∀ z∈zs,z∈ws)∧zs.length≤ws.length:=by
 unfold YS
 refine ⟨(ws.drop _).take _,by rw [List.map_take,List.map_drop],fun z hz=>List.mem_of_mem_drop (List.mem_of_mem_take hz),?_⟩
 rw [List.length_take,List.length_drop];omega
abbrev nCa:List Str:=["_law_box_here","_law_many","_law_words","_law_at","_law_some","_law_first"]
abbrev Zcy:List Str:=["_law_box_here","_law_many"]
theorem scCa:Zt nCa Zcy (Zg s_l_called):=⟨rfl,rfl,rfl,by decide +kernel,rfl,by decide +kernel,by decide +kernel⟩
theorem Zfl {f:Addr}{fd:FuncData}(F:Fun K "_law_called" "_law_called" s_l_called f fd)(T:ZY mg)(DT:UL P w K mg base 2)(DN:Def P w K mg base 2 "_law_names" ["_law_box_here","_law_many"] VJ):FnOk P w K mg base ZI 3 f fd Zcy spCa:=by
 refine F.ok scCa (fun vs H Q E h=>?_) (fun cdv A outer s H vs Q E hr h=>?_)
 · obtain ⟨p,N,many,Δ,rfl,_⟩:=h;rfl
 have hr1:=hr
 obtain ⟨p,N,many,Δ,rfl,S,hN,hm1,hm2,q⟩:=h
 refine' ⟨?t,?h,?r⟩
 case h =>
   conv=>arg 2;whnf
   with_reducible refine' (Zf (ZC (i:=2) ?h1 ?h2 ?h3 (ZF ?h4) ?h5 ?h6) (Zf ?h7 (Zf ?h8 (Zj ?h9))))
   case h1=>exact scCa.nd
   case h2=>exact rfl
   case h3=>exact (Or.inl rfl)
   case h4=>(refine' Uo (vs:=[.str "begin",.str "late",.str "in",.str "set",.str "look",.str "back",.str "copy",.str "pass",.str "weave",.str "setting",.str "task"]) ?zz;case zz=>decide +kernel)
   case h5=>exact rfl
   case h6=>exact (by first | exact .inl rfl | exact .inr rfl)
   case h7=>exact YZ (i:=3) (j:=4) rfl scCa.nd rfl rfl (by decide) rfl rfl (Zc (Zn DT hr1 (Zc (pv 0) (Zc Zb Za))) (Zc (Zu Zy (ZF (Zc Zb (Zc Zb (Zc (Zn DT hr1 (Zc (pv 0) (Zc Zb Za))) Za)))) (Zn DT hr1 (Zc (pv 0) (Zc Zb Za))) (fun _ _=>rfl)) Za)) rfl
   case h8=>exact ZC (i:=5) scCa.nd rfl (Or.inr rfl) (Yc XG (Zi VE (Yc XG (pv 2) (Yl (pv 3)) Yk) (Yc XG (pv 2) Yk (Yl (pv 3)))) Yk (Yl (pv 4)))
   case h9=>exact Zs (Yc XG (Zi VE (pv 5) (VM (CompOk.of nCa s_l_called rfl rfl (by decide +kernel)) rfl (VT (Zn DN hr (Zc (pv 0) (Zc (pv 1) Za)))) (fun _ _ _ _ _=>ZD (US (K:=K) rfl) (pv 6) (pv 5) rfl) (fun _ _ _ _ _=>pv 6))) Yk (Yl (pv 1)))
 refine ⟨(show 11≤sizeLine by decide),fun l hl=>?_⟩
 have S0:=S.new hl (.lst (wordsC.map V.str))
 refine ⟨_,rfl,p,N,11,_,rfl,S0.pull p,by omega,by decide,by decide,fun r1 H1 a0 a1 S1=>?_⟩
 refine ⟨_,rfl,p,N+1,5,_,rfl,S1,by omega,by decide,by decide,fun r2 H2 b0 b1 S2=>⟨(show 3≤sizeLine by decide),fun t ht=>?_⟩⟩
 have S3:=S2.new ht (.lst [.int 0,.int 0,.int r2])
 refine ⟨_,rfl,p,N+2,3,_,rfl,S3.pull p,by omega,by decide,by decide,fun r3 H3 c0 c1 S4=>?_⟩
 obtain ⟨sm,hsm,hse⟩:=Xa (f:=V.int) (xs:=[0,0,r2]) c0 c1
 have et:=S4.get t
 refine ⟨t,_,_,_,rfl,rfl,SqL.of et,hse,?_⟩
 have S5:=S4.drop t
 have hs4:0≤sm∧sm≤4:=by
   simp only [List.mem_cons,List.not_mem_nil,or_false] at hsm
   rcases hsm with rfl | rfl | rfl<;>omega
 refine ⟨_,_,rfl,?_⟩
 have el:=S5.get l
 refine ⟨_,rfl,_,rfl,_,rfl,l,_,rfl,SqL.of el,fun d1 hd1=>?_⟩
 obtain ⟨z1,e1,m1,n1⟩:=XO wordsC (some r1) none
 rw [e1]
 have S6:=S5.new hd1 (.lst (z1.map V.str))
 have el6:=S6.get l
 refine ⟨_,rfl,_,rfl,_,rfl,l,_,rfl,SqL.of el6,fun d2 hd2=>?_⟩
 obtain ⟨z2,e2,m2,n2⟩:=XO wordsC none (some r1)
 rw [e2]
 have S7:=S6.new hd2 (.lst (z2.map V.str))
 have hwc:wordsC.length=11:=rfl
 refine ⟨d1,d2,_,_,rfl,rfl,S7.get d1,S7.get d2,ZH (show _≤1000 by rw [List.length_map,List.length_map];omega),fun d3 hd3=>?_⟩
 have S8:=S7.new hd3 (.lst (z1.map V.str++z2.map V.str))
 refine ⟨_,rfl,_,rfl,d3,_,rfl,SqL.of (S8.get d3),fun d4 hd4=>?_⟩
 obtain ⟨fs,e4,m4,n4⟩:=XO (z1++z2) none (some sm)
 rw [List.map_append] at e4
 rw [e4]
 have S9:=(((((S8.new hd4 (.lst (fs.map V.str))).drop d3).drop d2).drop d1).drop l)
 rw [List.length_append] at n4
 have mF:∀ x∈fs,ZK x:=fun x hx=>ZbK x (by
   rcases List.mem_append.mp (m4 x hx) with h | h
   · exact m1 x h
   · exact m2 x h)
 generalize upd _ d4 _=H9 at *
 refine ⟨_,rfl,_,rfl,_,rfl,p,N+3,(many:Int),_,rfl,S9.pull p,by omega,by omega,by omega,fun nl H10 xs S10 hxl hxn hnd=>?_⟩
 have hxl2:xs.length=many:=by rw [hxl];exact Int.toNat_natCast many
 have enl:=S10.get nl
 have ed4:=S10.get d4
 refine ⟨nl,rfl,⟨_,SqL.of enl⟩,fun D hD=>?_⟩
 refine ZaW (K:=K) (xs:=xs.map V.str) (ZH (show _≤1000 by rw [List.length_map];omega)) (fun i ys H'=>Same H10 H'∧H' D=some (.lst ys)∧i≤xs.length∧ys=((xs.take i).filter fun x=>!decide (x∈fs)).map V.str) ⟨Zl hD _,Zh,Nat.zero_le _,rfl⟩ ?_ ?_ ?_
 · rintro i ys H' ⟨s1,_,hi,rfl⟩
   refine ⟨?_,SqL.of (s1 _ _ enl)⟩
   have:=List.length_filter_le (fun x=>!decide (x∈fs)) (xs.take i)
   rw [List.length_take] at this
   rw [List.length_map];omega
 · rintro i v ys H' hv ⟨s1,eD,hi,rfl⟩
   rw [List.getElem?_map] at hv
   obtain ⟨x,ex,rfl⟩:=Option.map_eq_some_iff.mp hv
   have hx2:=(List.getElem?_eq_some_iff.mp ex).1
   refine ⟨_,rfl,_,rfl,d4,_,rfl,.inl (SqL.of (s1 _ _ ed4)),rfl,(by rw [List.all_map];exact List.all_eq_true.mpr fun _ _=>rfl),_,rfl,?_⟩
   dsimp only
   rw [if_pos rfl,ZdB]
   have et:xs.take (i+1)=xs.take i++[x]:=by rw [List.take_add_one,ex];rfl
   cases hc:decide (x∈fs) with
   | true=>exact Xb ⟨s1,eD,hx2,by rw [et,List.filter_append,List.filter_cons,hc];simp⟩
   | false=>exact XA ⟨_,rfl,eD,fun b o e=>by rw [Zp (Zz e hD)];exact s1 _ _ e,Zh,hx2,by rw [et,List.filter_append,List.filter_cons,hc,List.map_append];simp⟩
 · rintro ys H' ⟨s1,eD,_,rfl⟩
   rw [List.length_map,List.take_length] at eD
   have S11:=S10.made s1 hD eD
   generalize hgs:(xs.filter fun x=>!decide (x∈fs))=gs at *
   have hgl:gs.length≤xs.length:=by rw [← hgs];exact List.length_filter_le _ _
   refine ⟨d4,D,_,_,rfl,rfl,S11.get d4,eD,ZH (show _≤1000 by rw [List.length_map,List.length_map];omega),fun d5 hd5=>?_⟩
   rw [← List.map_append]
   have S12:=S11.new hd5 (.lst ((fs++gs).map V.str))
   refine ⟨_,rfl,_,rfl,d5,_,rfl,SqL.of (S12.get d5),fun d6 hd6=>?_⟩
   rw [Vx,← List.map_take]
   have S13:=(((((S12.new hd6 (.lst (((fs++gs).take many).map V.str))).drop d5).drop D).drop nl).drop d4)
   have S14:Sep ((p,Bx (N+30))::_) _:=(S13.pull p).le (by omega)
   refine q d6 _ ((fs++gs).take many) (S14.pull d6) ?_ (by rw [List.length_take,List.length_append];omega) (fun x hx=>?_)
   · intro z
     have h0:=congrArg List.length z
     rw [List.length_take,List.length_append,List.length_nil] at h0
     have hf0:fs=[]:=List.eq_nil_of_length_eq_zero (by omega)
     rw [hf0] at hgs
     have:gs=xs:=by rw [← hgs];exact List.filter_eq_self.mpr fun _ _=>rfl
     rw [this,hf0] at h0
     simp only [List.length_nil] at h0
     omega
   · rcases List.mem_append.mp (List.mem_of_mem_take hx) with h | h
     · exact mF x h
     · rw [← hgs] at h;exact hxn x (List.mem_filter.mp h).1
end
end K67
set_option maxHeartbeats 4000000
namespace K67
open PySem L2
def Uj (K:PySem.W.Frag)(ps:List Pg):Yn:=fun a h=>DatT K h (.ref a) (.tuple (Pg.dats ps))
def Yg (K:PySem.W.Frag)(p:Pg):Yn:=fun a h=>DatT K h (.ref a) p.dat
def Wo (K:PySem.W.Frag)(ps:List Pg):Yn:=fun a h=>∃ vs,h a=some (.lst vs)∧DatTs K h vs (Pg.dats ps)
instance {K:PySem.W.Frag} {ps:List Pg}:Up (Uj K ps):=⟨fun h s=>DatT.same s h⟩
instance {K:PySem.W.Frag} {p:Pg}:Up (Yg K p):=⟨fun h s=>DatT.same s h⟩
instance {K:PySem.W.Frag} {ps:List Pg}:Up (Wo K ps):=⟨fun ⟨vs,e,d⟩ s=>⟨vs,s _ _ e,DatTs.same s d⟩⟩
theorem Zfq {K:PySem.W.Frag}{Δ Δ':Rs}{H:Hp}{ps qs:List Pg}(S:Sep Δ H)(l:Addr)[P:Pull l Δ (Wo K ps) Δ'](vs':List V)(d:DatTs K H vs' (Pg.dats qs)):Sep ((l,Wo K qs)::Δ') (upd H l (.lst vs')):=by
 obtain ⟨vs,el,_⟩:=S.get l
 refine S.updR l _ (fun h ⟨vs,e,_⟩=>⟨_,e,rfl⟩) fun h r l' h' e1 e2 e3=>⟨vs',e1,DatTs.tf ⟨fun b xs q=>e3 b _ (WT q el (fun z=>nomatch z)) q rfl,fun b o u q=>e3 b _ (WT q el (fun z=>nomatch z)) q rfl⟩ d⟩
structure RO (Δ:Rs)(nl sl:Addr)(NS SS:List Str):Prop where
 rd:∀ H,Sep Δ H→H nl=some (.lst (NS.map V.str))∧H sl=some (.lst (SS.map V.str))
 n0:NS≠[]
 s0:SS≠[]
 nl:NS.length≤1000
 sl:SS.length≤1000
 nk:∀ x∈NS,ZK x
 sk:∀ x∈SS,ZK x
section
variable {P:Program}{w:World}{K:PySem.W.Frag}{mg:Str→Option Value}{base:Heap}
def XQ (K:PySem.W.Frag)(n:Nat):Sp:=fun vs H Q _=>∃(p nl sl:Addr)(N many blocks:Nat)(NS SS:List Str)(Δ:Rs),vs=[.ref p,.ref nl,.ref sl,.int (many:Int),.int (blocks:Int)]∧Sep ((p,Bx N)::Δ) H∧RO Δ nl sl NS SS∧blocks≤n∧many≤200∧N+100 * many≤800000 ∧
 ∀ (t:Addr) (H':Hp) (ps:List Pg),Pg.manys ps=many→Pg.oks ps→Pg.hgts ps≤blocks→Sep ((t,Uj K ps)::(p,Bx (N+100 * many))::Δ) H'→Q (.ref t) H'
abbrev nPr:List Str:=["_law_box_here","_law_names_here","_law_slots","_law_many","_law_blocks","_law_steps","_law_way","_law_name","_law_slot","_law_inner","_law_within","_law_rows_here"]
abbrev XV:List Str:=["_law_box_here","_law_names_here","_law_slots","_law_many","_law_blocks"]
theorem scPr:Zt nPr XV (Zg s_l_program):=⟨rfl,rfl,rfl,by decide +kernel,rfl,by decide +kernel,by decide +kernel⟩
theorem ZbA {f:Addr}{fd:FuncData}{n k:Nat}(F:Fun K "_law_program" "_law_program" s_l_program f fd)(T:ZY mg)(DT:UL P w K mg base k)(DWo:Def P w K mg base k "_law_worth" ZaA ZaN)(DPr:Def P w K mg base k "_law_program" XV (fun vs H Q E=>∃ m,m < n∧XQ K m vs H Q E)):FnOk P w K mg base ZI (k+1) f fd XV (XQ K n):=by
 refine F.ok scPr (fun vs H Q E h=>?_) (fun cdv A outer s H vs Q E hr h=>?_)
 · obtain ⟨p,nl,sl,N,many,blocks,NS,SS,Δ,rfl,_⟩:=h;rfl
 obtain ⟨p,nl,sl,N,many,blocks,NS,SS,Δ,rfl,S,RO,hbn,hm,hN,q⟩:=h
 have hr1:=hr
 refine' ⟨?t,?h,?r⟩
 case h =>
   conv=>arg 2;whnf
   with_reducible refine' (Zf ?h1 (Zf (Zcc ?h2 ?h3 (Zf ?h4 (Zf ?h5 (Zj (YB ?h6 (Zf ?h7 (Zf ?h8 (Zj ?h9))) (Zj (YB ?h10 (Zj ?h11) (Zf ?h12 (Zj ?h13))))))))) (Zj ?h14)))
   case h1=>exact ZC (i:=5) scPr.nd rfl (Or.inl rfl) (ZF Za)
   case h2=>exact PassesOwn.never
   case h3=>exact ZD Zav (pv 3) Zb (ZG _)
   case h4=>exact YZ (i:=6) (j:=3) rfl scPr.nd rfl rfl (by decide) rfl rfl (Zc (Zn DT hr1 (Zc (pv 0) (Zc Zb Za))) (Zc (Zi Yq (pv 3) Zb) Za)) rfl
   case h5=>exact YZ (i:=7) (j:=8) rfl scPr.nd rfl rfl (by decide) rfl rfl (Zc (Zu Zy (pv 1) (Zn DT hr1 (Zc (pv 0) (Zc (ZA Yf rfl T.len PySem.boot_len (Zc (pv 1) Za)) Za))) (fun _ _=>rfl)) (Zc (Zu Zy (pv 2) (Zn DT hr1 (Zc (pv 0) (Zc (ZA Yf rfl T.len PySem.boot_len (Zc (pv 2) Za)) Za))) (fun _ _=>rfl)) Za)) rfl
   case h6=>exact PW.pt (ZeS (ZD UU (pv 6) Zb (ZG _)) (ZdW (ZD Zav (pv 4) Zb (ZG _))))
   case h7=>exact ZC (i:=9) scPr.nd rfl (Or.inl rfl) (Zn DT hr1 (Zc (pv 0) (Zc (Zi ZU (pv 3) Zb) Za)))
   case h8=>exact YZ (i:=10) (j:=3) rfl scPr.nd rfl rfl (by decide) rfl rfl (Zc (Zn DPr hr (Zc (pv 0) (Zc (pv 1) (Zc (pv 2) (Zc (pv 9) (Zc (Zi Yq (pv 4) Zb) Za)))))) (Zc (Zi Yq (pv 3) (pv 9)) Za)) rfl
   case h9=>exact Yt (Yd PySem.F.plainAttrs_list PySem.F.slot_list_append PySem.F.type_list_append Ya (pv 5) (Zc (Zu Zy (ZF (Zc (ZJ (Zc Zk (Zc (pv 10) Za))) (Zc (ZJ (Zc Zk (Zc (pv 10) Za))) (Zc (ZJ (Zc Zk (Zc (pv 8) (Zc (pv 10) Za)))) Za)))) (Zu Zy (ZF (Zc Zb (Zc Zb (Zc Zb (Zc Zb (Zc Zb Za)))))) (pv 6) (fun _ _=>rfl)) (fun _ _=>rfl)) Za))
   case h10=>exact ZD UU (pv 6) Zb (ZG _)
   case h11=>exact Yt (Yd PySem.F.plainAttrs_list PySem.F.slot_list_append PySem.F.type_list_append Ya (pv 5) (Zc (ZJ (Zc Zk (Zc (pv 7) (Zc (Zn DWo hr (Zc (pv 0) Za)) (Zc (pv 8) Za))))) Za))
   case h12=>exact ZC (i:=11) scPr.nd rfl (Or.inl rfl) (ZF (YL (ZJ (Zc Zk (Zc (pv 7) Za))) (YL (ZJ (Zc Zk (Zc (pv 7) Za))) (YL (ZJ (Zc Zk (Zc (pv 8) Za))) (YL (ZJ (Zc Zk (Zc (pv 8) Za))) (YL (ZJ (Zc Zk (Zc (pv 8) Za))) (YL (ZJ (Zc Zk Za)) Za rfl) rfl) rfl) rfl) rfl) rfl))
   case h13=>exact Yt (Yd PySem.F.plainAttrs_list PySem.F.slot_list_append PySem.F.type_list_append Ya (pv 5) (Zc (Zu Zy (pv 11) (Zi YK (Zi Yq (pv 6) Zb) Zb) (fun _ _=>rfl)) Za))
   case h14=>exact Zs (YX UT rfl T.tuple (by decide +kernel) (Zc (pv 5) Za))
 have hn0:=List.length_pos_iff.mpr RO.n0
 have hs0:=List.length_pos_iff.mpr RO.s0
 have hnl:=RO.nl
 have hsl:=RO.sl
 refine ⟨(show 0≤sizeLine by decide),fun l hl=>?_⟩
 have S0:=(S.new hl (.lst [])).say l (Wo K []) fun h e=>⟨[],e,.nil⟩
 refine ⟨fun m σ H'=>∃ ps y6 y7 y8 y9 y10 y11,σ=[some (.ref p),some (.ref nl),some (.ref sl),some (.int (m:Int)),some (.int (blocks:Int)),some (.ref l),y6,y7,y8,y9,y10,y11]∧Pg.manys ps+m=many∧Pg.oks ps∧Pg.hgts ps≤blocks∧Sep ((p,Bx (N+100 * (many - m)))::(l,Wo K ps)::Δ) H',⟨many,[],_,_,_,_,_,_,rfl,(show 0+many=many by omega),trivial,Nat.zero_le _,(S0.pull p).le (by omega)⟩,?_⟩
 rintro m σ H' ⟨ps,y6,y7,y8,y9,y10,y11,rfl,hps,hok,hh,S'⟩
 refine ⟨_,rfl,_,_,rfl,rfl,_,rfl,Xc (fun c=>?_) (fun c=>?_)⟩
 · have hc:(0:Int) < (m:Int):=of_decide_eq_true c
   refine ⟨_,fun σ' H2 h=>h,?_⟩
   have lsz:∀ (vs:List V) (Hx:Hp),Wo K ps l Hx→Hx l=some (.lst vs)→vs.length < sizeLine:=by
     rintro vs Hx ⟨vs',e1,d1⟩ e2
     rw [e1] at e2
     cases e2
     exact Wp (show vs.length≤1000 by rw [d1.pgs];have:=Pg.len_manys ps;omega)
   have fin:∀ (pg:Pg) (t:Addr) (Hx:Hp) (vs:List V) (j:Nat) (ji:Int) (y6 y7 y8 y9 y10 y11:Option V),ji=(j:Int)→pg.ok→pg.hgt≤blocks→pg.many+j=m→Sep ((t,Yg K pg)::(p,Bx (N+100 * (many - j)))::(l,Wo K ps)::Δ) Hx→Hx l=some (.lst vs)→∃ m',m' < m∧∃ ps' z6 z7 z8 z9 z10 z11,([some (.ref p),some (.ref nl),some (.ref sl),some (.int ji),some (.int (blocks:Int)),some (.ref l),y6,y7,y8,y9,y10,y11]:St)=[some (.ref p),some (.ref nl),some (.ref sl),some (.int (m':Int)),some (.int (blocks:Int)),some (.ref l),z6,z7,z8,z9,z10,z11]∧Pg.manys ps'+m'=many∧Pg.oks ps'∧Pg.hgts ps'≤blocks∧Sep ((p,Bx (N+100 * (many - m')))::(l,Wo K ps')::Δ) (upd Hx l (.lst (vs++[.ref t]))):=by
     rintro pg t Hx vs j ji y6 y7 y8 y9 y10 y11 rfl hpo hph hpm Sx elx
     obtain ⟨vs',e1,d1⟩:=Sx.get l
     rw [elx] at e1
     cases e1
     have dt:DatT K Hx (.ref t) pg.dat:=Sx.get t
     have S3:=(Zfq Sx l (qs:=ps++[pg]) (vs++[.ref t]) (by rw [Pg.dats_app];exact d1.append (.cons dt .nil))).drop t
     have hmp:=Pg.many_pos pg
     refine ⟨j,by omega,ps++[pg],_,_,_,_,_,_,rfl,?_,Pg.oks_app hok ⟨hpo,trivial⟩,Pg.hgts_app hh (by show max pg.hgt 0≤blocks;omega),S3.pull p⟩
     rw [Pg.manys_app]
     show Pg.manys ps+(pg.many+0)+j=many
     omega
   refine ⟨_,rfl,p,_,14,_,rfl,S',by omega,by decide,by decide,fun r1 H1 a0 a1 S1=>⟨_,rfl,_,_,rfl,rfl,_,_,rfl,?_⟩⟩
   refine ⟨_,rfl,_,rfl,_,rfl,nl,_,rfl,.inl (SqL.of (RO.rd _ S1.tail.tail).1),p,_,_,_,rfl,S1,by omega,by rw [List.length_map];omega,by rw [List.length_map];omega,fun r2 H2 b0 b1 S2=>?_⟩
   rw [List.length_map] at b1
   obtain ⟨x,hxm,hxe⟩:=Xa (f:=V.str) (xs:=NS) b0 b1
   refine ⟨nl,_,_,_,rfl,rfl,SqL.of (RO.rd _ S2.tail.tail).1,hxe,?_⟩
   refine ⟨_,rfl,_,rfl,_,rfl,sl,_,rfl,.inl (SqL.of (RO.rd _ S2.tail.tail).2),p,_,_,_,rfl,S2,by omega,by rw [List.length_map];omega,by rw [List.length_map];omega,fun r3 H3 d0 d1 S3=>?_⟩
   rw [List.length_map] at d1
   obtain ⟨y,hym,hye⟩:=Xa (f:=V.str) (xs:=SS) d0 d1
   refine ⟨sl,_,_,_,rfl,rfl,SqL.of (RO.rd _ S3.tail.tail).2,hye,_,_,rfl,?_⟩
   obtain ⟨vs3,el3,_⟩:=S3.get l
   refine ⟨_,rfl,_,_,rfl,rfl,_,rfl,Xc (fun c1=>?_) (fun c1=>?_)⟩
   · have h5:r1 < 5:=of_decide_eq_true c1
     refine ⟨_,rfl,_,_,rfl,rfl,_,rfl,Xc (fun c2=>?_) (fun c2=>?_)⟩
     · have hb1:(0:Int) < (blocks:Int):=of_decide_eq_true c2
       refine ⟨_,rfl,_,rfl,_,_,rfl,rfl,p,_,_,_,rfl,S3,by omega,by omega,by omega,fun r4 H4 f0 f1 S4=>?_⟩
       refine ⟨_,rfl,_,rfl,_,rfl,_,rfl,_,rfl,_,_,rfl,rfl,blocks - 1,by omega,p,nl,sl,_,r4.toNat,blocks - 1,NS,SS,(l,Wo K ps)::Δ,by rw [show ((blocks - 1:Nat):Int)=(blocks:Int) - 1 by omega,show ((r4.toNat:Nat):Int)=r4 by omega];rfl,S4,⟨fun H z=>RO.rd H z.tail,RO.n0,RO.s0,RO.nl,RO.sl,RO.nk,RO.sk⟩,by omega,by omega,by omega,fun ti H5 qs hq1 hq2 hq3 S5=>?_⟩
       refine ⟨_,rfl,_,rfl,_,_,rfl,rfl,_,_,rfl,?_⟩
       obtain ⟨vs5,el5,_⟩:=S5.get l
       refine ⟨_,rfl,.inl ⟨rfl,_,SqL.of el5⟩,_,rfl,(show 2≤sizeLine by decide),fun t1 ht1=>?_⟩
       have V1:=S5.new ht1 (.tup [.str "begin",.ref ti])
       have e1:DatT K _ (.ref ti) (.tuple (Pg.dats qs)):=V1.get ti
       have V1:=V1.im (T:=Yg K (.blk "begin" qs)) fun h e _ im=>DatT.tup (SqT.of e) (.cons (.str _) (.cons (e1.tf ⟨fun x xs q=>im _ _ q rfl,fun x o u q=>im _ _ q rfl⟩) .nil))
       refine ⟨_,rfl,(show 2≤sizeLine by decide),fun t2 ht2=>?_⟩
       have V2:=V1.new ht2 (.tup [.str "late",.ref ti])
       have e2:DatT K _ (.ref ti) (.tuple (Pg.dats qs)):=V2.get ti
       have V2:=V2.im (T:=Yg K (.blk "late" qs)) fun h e _ im=>DatT.tup (SqT.of e) (.cons (.str _) (.cons (e2.tf ⟨fun x xs q=>im _ _ q rfl,fun x o u q=>im _ _ q rfl⟩) .nil))
       refine ⟨_,rfl,_,rfl,(show 3≤sizeLine by decide),fun t3 ht3=>?_⟩
       have V3:=V2.new ht3 (.tup [.str "in",.str y,.ref ti])
       have e3:DatT K _ (.ref ti) (.tuple (Pg.dats qs)):=V3.get ti
       have V3:=V3.im (T:=Yg K (.inn y qs)) fun h e _ im=>DatT.tup (SqT.of e) (.cons (.str _) (.cons (.str _) (.cons (e3.tf ⟨fun x xs q=>im _ _ q rfl,fun x o u q=>im _ _ q rfl⟩) .nil)))
       refine ⟨(show 3≤sizeLine by decide),fun lr hlr=>?_⟩
       have V4:=V3.new hlr (.lst [.ref t1,.ref t2,.ref t3])
       refine ⟨(show 5≤sizeLine by decide),fun lk hlk=>?_⟩
       have V5:=V4.new hlk (.lst [.int 0,.int 0,.int 1,.int 2,.int 2])
       generalize upd _ lk _=Hx at *
       obtain ⟨vs7,el7,_⟩:=V5.get l
       have pick:∃ (kk:Int) (tk:Addr) (pg:Pg),ZX [V.int 0,.int 0,.int 1,.int 2,.int 2] r1=some (.int kk)∧ZX [V.ref t1,.ref t2,.ref t3] kk=some (.ref tk)∧pg.ok∧pg.hgt≤blocks∧pg.many=1+Pg.manys qs∧Sep ((tk,Yg K pg)::(p,Bx (N+100 * (many - (m - 1 - r4.toNat))))::(l,Wo K ps)::Δ) Hx:=by
         have U:=(V5.drop lk).drop lr
         rcases (show r1=0∨r1=1∨r1=2∨r1=3∨r1=4 by omega) with rfl | rfl | rfl | rfl | rfl
         · exact ⟨0,t1,.blk "begin" qs,Zq (j:=0) rfl,Zq (j:=0) rfl,⟨.inl rfl,hq2⟩,(by show Pg.hgts qs+1≤blocks;omega),rfl,(((((U.drop t3).drop t2).drop ti).pull p).le (by omega)).pull t1⟩
         · exact ⟨0,t1,.blk "begin" qs,Zq (j:=1) rfl,Zq (j:=0) rfl,⟨.inl rfl,hq2⟩,(by show Pg.hgts qs+1≤blocks;omega),rfl,(((((U.drop t3).drop t2).drop ti).pull p).le (by omega)).pull t1⟩
         · exact ⟨1,t2,.blk "late" qs,Zq (j:=2) rfl,Zq (j:=1) rfl,⟨.inr rfl,hq2⟩,(by show Pg.hgts qs+1≤blocks;omega),rfl,(((((U.drop t3).drop t1).drop ti).pull p).le (by omega)).pull t2⟩
         · exact ⟨2,t3,.inn y qs,Zq (j:=3) rfl,Zq (j:=2) rfl,⟨RO.sk y hym,hq2⟩,(by show Pg.hgts qs+1≤blocks;omega),rfl,(((((U.drop t2).drop t1).drop ti).pull p).le (by omega)).pull t3⟩
         · exact ⟨2,t3,.inn y qs,Zq (j:=4) rfl,Zq (j:=2) rfl,⟨RO.sk y hym,hq2⟩,(by show Pg.hgts qs+1≤blocks;omega),rfl,(((((U.drop t2).drop t1).drop ti).pull p).le (by omega)).pull t3⟩
       obtain ⟨kk,tk,pg,k1,k2,p1,p2,p3,p4⟩:=pick
       exact ⟨_,rfl,lk,_,_,_,rfl,rfl,SqL.of (V5.get lk),k1,lr,_,_,_,rfl,rfl,SqL.of (V5.get lr),k2,l,vs7,_,rfl,rfl,el7,lsz _ _ (V5.get l) el7,fin pg tk _ vs7 (m - 1 - r4.toNat) _ _ _ _ _ _ _ (by omega) p1 p2 (by omega) p4 el7⟩
     · refine ⟨_,rfl,_,_,rfl,rfl,_,rfl,ifT (decide_eq_true (by omega)) ?_⟩
       refine ⟨_,rfl,.inl ⟨rfl,_,SqL.of el3⟩,_,rfl,_,rfl,p,_,_,rfl,S3,by omega,fun v H4 hv S4=>⟨_,rfl,(show 4≤sizeLine by decide),fun t ht=>?_⟩⟩
       have S5:=(S4.new ht (.tup [.str "set",.str x,v,.str y])).say t (Yg K (.set x v y)) fun h e=>DatT.tup (SqT.of e) (.cons (.str _) (.cons (.str _) (.cons (by cases v<;>first | exact .int _ | exact .str _ | exact hv.elim) (.cons (.str _) .nil))))
       obtain ⟨vs5,el5,_⟩:=S5.get l
       exact ⟨l,vs5,_,rfl,rfl,el5,lsz _ _ (S5.get l) el5,fin (.set x v y) t _ vs5 (m - 1) _ _ _ _ _ _ _ (by omega) ⟨RO.nk x hxm,hv,RO.sk y hym⟩ (Nat.zero_le _) (by show 1+(m - 1)=m;omega) (((S5.pull p).le (by omega)).pull t) el5⟩
   · refine Xb ⟨_,rfl,_,_,rfl,rfl,_,rfl,Xc (fun c2=>?_) (fun c2=>?_)⟩
     · refine ⟨_,rfl,.inl ⟨rfl,_,SqL.of el3⟩,_,rfl,_,rfl,p,_,_,rfl,S3,by omega,fun v H4 hv S4=>⟨_,rfl,(show 4≤sizeLine by decide),fun t ht=>?_⟩⟩
       have S5:=(S4.new ht (.tup [.str "set",.str x,v,.str y])).say t (Yg K (.set x v y)) fun h e=>DatT.tup (SqT.of e) (.cons (.str _) (.cons (.str _) (.cons (by cases v<;>first | exact .int _ | exact .str _ | exact hv.elim) (.cons (.str _) .nil))))
       obtain ⟨vs5,el5,_⟩:=S5.get l
       exact ⟨l,vs5,_,rfl,rfl,el5,lsz _ _ (S5.get l) el5,fin (.set x v y) t _ vs5 (m - 1) _ _ _ _ _ _ _ (by omega) ⟨RO.nk x hxm,hv,RO.sk y hym⟩ (Nat.zero_le _) (by show 1+(m - 1)=m;omega) (((S5.pull p).le (by omega)).pull t) el5⟩
     · have h5:¬ r1 < 5:=fun z=>c1 (decide_eq_true z)
       have h8:¬ r1 < 8:=fun z=>c2 (decide_eq_true z)
       refine ⟨_,rfl,(show 2≤sizeLine by decide),fun t1 ht1=>?_⟩
       have T1:=(S3.new ht1 (.tup [.str "look",.str x])).say t1 (Yg K (.look x)) fun h e=>DatT.tup (SqT.of e) (.cons (.str _) (.cons (.str _) .nil))
       refine ⟨_,rfl,(show 2≤sizeLine by decide),fun t2 ht2=>?_⟩
       have T2:=(T1.new ht2 (.tup [.str "look",.str x])).say t2 (Yg K (.look x)) fun h e=>DatT.tup (SqT.of e) (.cons (.str _) (.cons (.str _) .nil))
       refine ⟨_,rfl,(show 2≤sizeLine by decide),fun t3 ht3=>?_⟩
       have T3:=(T2.new ht3 (.tup [.str "back",.str y])).say t3 (Yg K (.slot "back" y)) fun h e=>DatT.tup (SqT.of e) (.cons (.str _) (.cons (.str _) .nil))
       refine ⟨_,rfl,(show 2≤sizeLine by decide),fun t4 ht4=>?_⟩
       have T4:=(T3.new ht4 (.tup [.str "copy",.str y])).say t4 (Yg K (.slot "copy" y)) fun h e=>DatT.tup (SqT.of e) (.cons (.str _) (.cons (.str _) .nil))
       refine ⟨_,rfl,(show 2≤sizeLine by decide),fun t5 ht5=>?_⟩
       have T5:=(T4.new ht5 (.tup [.str "copy",.str y])).say t5 (Yg K (.slot "copy" y)) fun h e=>DatT.tup (SqT.of e) (.cons (.str _) (.cons (.str _) .nil))
       refine ⟨(show 1≤sizeLine by decide),fun t6 ht6=>?_⟩
       have T6:=(T5.new ht6 (.tup [.str "pass"])).say t6 (Yg K .pass) fun h e=>DatT.tup (SqT.of e) (.cons (.str _) .nil)
       refine ⟨(show 6≤sizeLine by decide),fun lr hlr=>?_⟩
       have T7:=T6.new hlr (.lst [.ref t1,.ref t2,.ref t3,.ref t4,.ref t5,.ref t6])
       generalize upd _ lr _=Hx at *
       obtain ⟨vs7,el7,_⟩:=T7.get l
       have pick:∃ (tk:Addr) (pg:Pg),ZX [V.ref t1,.ref t2,.ref t3,.ref t4,.ref t5,.ref t6] ((r1 - 8) % 6)=some (.ref tk)∧pg.ok∧pg.hgt≤blocks∧pg.many=1∧Sep ((tk,Yg K pg)::(p,Bx (N+100 * (many - (m - 1))))::(l,Wo K ps)::Δ) Hx:=by
         have U:=T7.drop lr
         rcases (show r1=8∨r1=9∨r1=10∨r1=11∨r1=12∨r1=13 by omega) with rfl | rfl | rfl | rfl | rfl | rfl
         · exact ⟨t1,.look x,Zq (j:=0) rfl,RO.nk x hxm,Nat.zero_le _,rfl,((((((((U.drop t6).drop t5).drop t4).drop t3).drop t2)).pull p).le (by omega)).pull t1⟩
         · exact ⟨t2,.look x,Zq (j:=1) rfl,RO.nk x hxm,Nat.zero_le _,rfl,((((((((U.drop t6).drop t5).drop t4).drop t3).drop t1)).pull p).le (by omega)).pull t2⟩
         · exact ⟨t3,.slot "back" y,Zq (j:=2) rfl,⟨.inl rfl,RO.sk y hym⟩,Nat.zero_le _,rfl,((((((((U.drop t6).drop t5).drop t4).drop t2).drop t1)).pull p).le (by omega)).pull t3⟩
         · exact ⟨t4,.slot "copy" y,Zq (j:=3) rfl,⟨.inr rfl,RO.sk y hym⟩,Nat.zero_le _,rfl,((((((((U.drop t6).drop t5).drop t3).drop t2).drop t1)).pull p).le (by omega)).pull t4⟩
         · exact ⟨t5,.slot "copy" y,Zq (j:=4) rfl,⟨.inr rfl,RO.sk y hym⟩,Nat.zero_le _,rfl,((((((((U.drop t6).drop t4).drop t3).drop t2).drop t1)).pull p).le (by omega)).pull t5⟩
         · exact ⟨t6,.pass,Zq (j:=5) rfl,trivial,Nat.zero_le _,rfl,((((((((U.drop t5).drop t4).drop t3).drop t2).drop t1)).pull p).le (by omega)).pull t6⟩
       obtain ⟨tk,pg,hk,p1,p2,p3,p4⟩:=pick
       exact ⟨_,rfl,.inl ⟨rfl,_,SqL.of el7⟩,_,rfl,_,rfl,_,_,rfl,rfl,_,_,rfl,rfl,(show (0:Int) < 6 by decide),lr,_,_,_,rfl,rfl,SqL.of (T7.get lr),hk,l,vs7,_,rfl,rfl,el7,lsz _ _ (T7.get l) el7,fin pg tk _ vs7 (m - 1) _ _ _ _ _ _ _ (by omega) p1 p2 (by omega) p4 el7⟩
 · have hc:m=0:=by
     have:¬ (0:Int) < (m:Int):=fun z=>c (decide_eq_true z)
     omega
   subst hc
   obtain ⟨vs1,el1,dl1⟩:=S'.get l
   refine ⟨_,rfl,l,vs1,rfl,.inl ⟨SqL.of el1,fun t ht=>?_⟩⟩
   have S1:=S'.new ht (.tup vs1)
   have dl2:=DatTs.same (Zl ht (.tup vs1)) dl1
   refine q t _ ps (by omega) hok hh ?_
   exact (S1.im (T:=Uj K ps) fun h e _ im=>DatT.tup (SqT.of e) (DatTs.tf ⟨fun x xs q=>im _ _ q rfl,fun x o u q=>im _ _ q rfl⟩ dl2)).drop l
end
end K67
set_option maxHeartbeats 2000000
namespace L2
open PySem PySem.Spec PyProof.Rows
mutual
inductive DatA (K:PySem.W.Frag)(H:Hp):V→PyData→Prop
 | non:DatA K H .non .none
 | bl (b):DatA K H (.bl b) (.bool b)
 | int (i):DatA K H (.int i) (.int i)
 | str (x):DatA K H (.str x) (.str x)
 | lst {a xs ds}:H a=some (.lst xs)→xs.length≤20000→DatAs K H xs ds→DatA K H (.ref a) (.list ds)
 | tup {a xs ds}:SqT K H a xs→xs.length≤20000→DatAs K H xs ds→DatA K H (.ref a) (.tuple ds)
inductive DatAs (K:PySem.W.Frag)(H:Hp):List V→List PyData→Prop
 | nil:DatAs K H [] []
 | cons {v d vs ds}:DatA K H v d→DatAs K H vs ds→DatAs K H (v::vs) (d::ds)
end
mutual
theorem DatA.same {K:PySem.W.Frag}{H H':Hp}(s:Same H H'):∀{v d},DatA K H v d→DatA K H' v d
 | _,_,.non=>.non
 | _,_,.bl b=>.bl b
 | _,_,.int i=>.int i
 | _,_,.str x=>.str x
 | _,_,.lst e h q=>.lst (s _ _ e) h (DatAs.same s q)
 | _,_,.tup e h q=>.tup (e.tf s.tf) h (DatAs.same s q)
theorem DatAs.same {K:PySem.W.Frag}{H H':Hp}(s:Same H H'):∀{vs ds},DatAs K H vs ds→DatAs K H' vs ds
 | _,_,.nil=>.nil
 | _,_,.cons r t=>.cons (DatA.same s r) (DatAs.same s t)
end
section
variable {X:Cx}{pins:List (Addr×Obj)}{σ:St}{H:Hp}{s:Shared}
mutual
theorem DatA.reads (I:Inv X pins σ H s):∀{v d}(u:Value),DatA X.K H v d→RelV v u→d.hasDict=false∧∃ as,Reads s.heap u d as
 | _,_,u,.non,r=>by cases (show u=.none from r);exact ⟨rfl,_,.none⟩
 | _,_,u,.bl b,r=>by cases (show u=.bool b from r);exact ⟨rfl,_,.bool b⟩
 | _,_,u,.int i,r=>by obtain ⟨t,e⟩:=(show ∃ t,u=.int i t from r);subst e;exact ⟨rfl,_,.int i t⟩
 | _,_,u,.str x,r=>by obtain ⟨t,e⟩:=(show ∃ t,u=.str x t from r);subst e;exact ⟨rfl,_,.str x t⟩
 | _,_,u,.lst (a:=a) (xs:=xs) e _ q,r=>by
   cases (show u=.ref a from r)
   obtain ⟨_,its,n,rv,g⟩:=(show ObjOk X.prog X.w H s.heap a (.lst xs) from I.hok a _ e)
   obtain ⟨nd,as,ra⟩:=DatAs.reads I its q rv
   exact ⟨by simpa [PyData.hasDict] using nd,_,.list g rfl rfl (by simpa using ra)⟩
 | _,_,u,.tup (a:=a) (xs:=xs) e _ q,r=>by
   cases (show u=.ref a from r)
   obtain ⟨its,rv,⟨o,g,c,n,d⟩,_⟩:=I.tuple e
   obtain ⟨nd,as,ra⟩:=DatAs.reads I its q rv
   exact ⟨by simpa [PyData.hasDict] using nd,_,.tuple g c d (by simpa using ra)⟩
theorem DatAs.reads (I:Inv X pins σ H s):∀{vs ds}(us:List Value),DatAs X.K H vs ds→Vals vs us→PyData.hasDictAll ds=false∧∃ as,ReadsAll s.heap us ds as
 | _,_,_,.nil,.nil=>⟨rfl,_,.nil⟩
 | _,_,_,.cons r t,.cons rv tv=>by
   obtain ⟨n1,as,r1⟩:=DatA.reads I _ r rv
   obtain ⟨n2,bs,r2⟩:=DatAs.reads I _ t tv
   exact ⟨by simp [PyData.hasDictAll,n1,n2],_,.cons r1 r2⟩
end
end
section
variable {X:Cx}
def Zdl (K:PySem.W.Frag):R2:=fun x y H Q=>∃ a b xs ys,x=.ref a∧y=.ref b∧SqT K H a xs∧SqT K H b ys∧xs.length+ys.length≤sizeLine ∧
 ((xs=[]∧Q (.ref b) H)∨(xs≠[]∧ys=[]∧Q (.ref a) H)∨(xs≠[]∧ys≠[]∧∀ p,H p=none→Q (.ref p) (upd H p (.tup (xs++ys)))))
theorem Zao {K:PySem.W.Frag}(hK:X.K=K):Ye X (binaryOp .Add) (Zdl K):=by
 subst hK
 intro pins s σ H x y v u Q I rx ry h
 obtain ⟨a,b,xs,ys,rfl,rfl,ha,hb,hz,h⟩:=h
 rcases h with ⟨hx,q⟩ | ⟨hx,hy,q⟩ | ⟨hx,hy,q⟩
 · cases rx;cases ry
   obtain ⟨its,r1,p1,_⟩:=I.tuple ha
   obtain ⟨its2,r2,p2,_⟩:=I.tuple hb
   obtain ⟨⟨cls,dd,data,sl⟩,ho,hc,n,hd⟩:=id p1
   obtain ⟨⟨cls2,dd2,data2,Xf⟩,ho2,hc2,n2,hd2⟩:=id p2
   simp only at hc hd hc2 hd2
   subst hc hd hc2 hd2
   exact concat_meets ⟨_,ho,rfl⟩ ⟨_,ho2,rfl⟩ noFill_tuple_add seq_tuple_add PySem.F.slot_tuple_add PySem.F.entry_tuple_add (PySem.F.args_tuple_add_2 _ _)
     (tuple_addW0 a b its.toArray its2.toArray n n2 dd dd2 sl Xf (by simp [r1.nil_iff.mpr hx])) ⟨ho,ho2,⟨.ref b,H,I,rfl,q⟩⟩
 · exact Zaj pins s σ H _ _ v u Q I rx ry ⟨a,b,xs,ys,rfl,rfl,ha,hb,hx,hz,fun _=>q,fun z=>absurd hy z⟩
 · exact Zaj pins s σ H _ _ v u Q I rx ry ⟨a,b,xs,ys,rfl,rfl,ha,hb,hx,hz,fun z=>absurd z hy,fun _=>q⟩
def Zce (K:PySem.W.Frag):V→Option Int→Option Int→Hp→VK→Prop:=fun x lo hi H Q=>∃ a xs,x=.ref a∧SqT K H a xs ∧
 ((HT.sIx xs.length 0 lo=0∧HT.sIx xs.length xs.length hi=xs.length∧Q (.ref a) H)∨(¬ (HT.sIx xs.length 0 lo=0∧HT.sIx xs.length xs.length hi=xs.length)∧∀ p,H p=none→Q (.ref p) (upd H p (.tup (YS xs lo hi)))))
theorem VS {K:PySem.W.Frag}(hK:X.K=K):SlR X (Zce K):=by
 subst hK
 intro pins s σ H x v vl vu lo hi sl Q I rx hs pl pu h
 obtain ⟨a,xs,rfl,hx,h⟩:=h
 rcases h with ⟨w1,w2,q⟩ | ⟨hw,q⟩
 · cases rx
   obtain ⟨its,r,ht,hz⟩:=I.tuple hx
   have hlen:its.toArray.size=xs.length:=by rw [List.size_toArray];exact r.length.symm
   refine ⟨"tuple",_,PyProof.Rows.slot_tuple_getitem.lookup,ht.typeIs,?_⟩
   obtain ⟨os,hos,hcs,hds⟩:=id hs
   have hTs:s.TypeIs (.ref sl) "slice":=⟨os,hos,hcs⟩
   obtain ⟨⟨cls,dd,data,sl'⟩,ho,hc,n,hd⟩:=id ht
   simp only at hc hd
   subst hc hd
   unfold getItem
   try with_reducible refine wpAny_holding ?_
   first | refine wpAny_bind (wpAny_pure ?_) | skip
   refine wpAny_bind (wpAny_sequenceKey ht.typeIs (by decide) ?_)
   refine wpAny_bind (wpAny_callSpecial?_slot (name:=Str.ofString "__getitem__") ht.typeIs PyProof.Rows.slot_tuple_getitem
     (wpAny_call_entry PyProof.Rows.slot_tuple_getitem ht.typeIs entry_tuple_getitem ?_ (args_tuple_getitem _ _)))
   show wpAny _ _ (Builtin.Tuple.tupleItemsOf (.ref a) >>= _) _ _ s
   refine wpAny_bind (tupleItemsOf_ ht ?_)
   refine wpAny_bind (wpAny_typeOf hTs ?_)
   rw [if_pos (by decide)]
   refine wpAny_bind (HT.sliceApplied_gen hs pl pu ?_)
   rw [hlen,w1,w2]
   dsimp only
   rw [if_pos (by simp)]
   unfold Builtin.Tuple.tupleIsExact
   refine wpAny_bind (wpAny_bind (wpAny_typeOf ht.typeIs (wpAny_pure ?_)))
   rw [if_pos (by decide)]
   exact wpAny_bind (wpAny_rule (wpAny_pure ⟨_,rfl,wpAny_pure ⟨.ref a,H,I,rfl,q⟩⟩))
 · exact Zbg pins s σ H _ v vl vu lo hi sl Q I rx hs pl pu ⟨a,xs,rfl,hx,hw,q⟩
end
section
variable {X:Cx}
end
end L2
set_option maxHeartbeats 4000000
namespace K67
open PySem L2
def DtR (K:PySem.W.Frag)(v:V)(d:PyData):Yn:=fun _ h=>DatT K h v d
theorem ZdK {K:PySem.W.Frag}{Δ:Rs}{H:Hp}{v:V}{d:PyData}(z:Addr)(S:Sep Δ H)(h:DatT K H v d):Sep ((z,DtR K v d)::Δ) H:=by
 let h0:Hp:=fun x=>match H x with
   | some o=>if ZQ o=true then none else some o
   | none=>none
 have s0:Same h0 H:=fun b o e=>by
   show H b=some o
   have e:(match H b with | some o=>if ZQ o=true then none else some o | none=>none)=some o:=e
   split at e
   · split at e
     · cases e
     · rename_i eb _;rw [eb];exact e
   · cases e
 have k0:∀ b o,H b=some o→ZQ o=false→h0 b=some o:=fun b o e m=>by
   show (match H b with | some o=>if ZQ o=true then none else some o | none=>none)=some o
   rw [e];show (if ZQ o=true then none else some o)=some o;rw [m];rfl
 have ec : UE H h0=H:=funext fun b=>by
   cases eb:H b with
   | none=>cases ec:UE H h0 b with
     | none=>rfl
     | some o=>have:=(cut_some.mp ec).1;rw [eb] at this;cases this
   | some o=>exact cut_some.mpr ⟨eb,fun u hu=>by
       have hu':(match H b with | some o=>if ZQ o=true then none else some o | none=>none)=some u:=hu
       rw [eb] at hu'
       have hu2:(if ZQ o=true then none else some o)=some u:=hu'
       split at hu2
       · cases hu2
       · rename_i hm;cases hu2;cases h9:ZQ o with
         | true=>exact absurd h9 hm
         | false=>rfl⟩
 refine ⟨h0,s0,DatT.tf ⟨fun b xs e=>k0 b _ e rfl,fun b o u e=>k0 b _ e rfl⟩ h,by rw [ec];exact S⟩
theorem DatTs.drop {K:PySem.W.Frag}{H:Hp}:∀(i:Nat){vs ds},DatTs K H vs ds→DatTs K H (vs.drop i) (ds.drop i)
 | 0,_,_,h=>h
 | _+1,_,_,.nil=>.nil
 | i+1,_,_,.cons _ b=>DatTs.drop i b
theorem DatTs.take {K:PySem.W.Frag}{H:Hp}:∀(i:Nat){vs ds},DatTs K H vs ds→DatTs K H (vs.take i) (ds.take i)
 | 0,_,_,_=>.nil
 | _+1,_,_,.nil=>.nil
 | i+1,_,_,.cons a b=>.cons a (DatTs.take i b)
theorem slT {K:PySem.W.Frag}{H:Hp}{a:Addr}{ps:List Pg}{Q:VK}(h:DatT K H (.ref a) (.tuple (Pg.dats ps)))(q:∀ b H',Same H H'→DatT K H' (.ref b) (.tuple (Pg.dats (ps.take 1)))→Q (.ref b) H'):Zce K (.ref a) none (some 1) H Q:=by
 cases h with
 | @tup _ xs _ e hq =>
   have hl:=hq.pgs
   refine ⟨a,xs,rfl,e,?_⟩
   have hd:=DatTs.take 1 hq
   rw [Pg.dats_map,← List.map_take,← Pg.dats_map] at hd
   by_cases c:HT.sIx xs.length 0 none=0∧HT.sIx xs.length xs.length (some 1)=xs.length
   · refine .inl ⟨c.1,c.2,q a H (Same.refl H) (.tup e ?_)⟩
     have h2:=c.2
     rw [show (1:Int)=((1:Nat):Int) from rfl,HT.sIx_nat] at h2
     rw [List.take_of_length_le (by omega)] at hd
     exact hd
   · refine .inr ⟨c,fun p hp=>q p _ (Zl hp _) (.tup (SqT.of Zh) (DatTs.same (Zl hp _) ?_))⟩
     rw [show (1:Int)=((1:Nat):Int) from rfl,Vx];exact hd
theorem slD {K:PySem.W.Frag}{H:Hp}{a:Addr}{ps:List Pg}{Q:VK}(h:DatT K H (.ref a) (.tuple (Pg.dats ps)))(q:∀ b H',Same H H'→DatT K H' (.ref b) (.tuple (Pg.dats (ps.drop 1)))→Q (.ref b) H'):Zce K (.ref a) (some 1) none H Q:=by
 cases h with
 | @tup _ xs _ e hq =>
   have hl:=hq.pgs
   refine ⟨a,xs,rfl,e,?_⟩
   have hd:=DatTs.drop 1 hq
   rw [Pg.dats_map,← List.map_drop,← Pg.dats_map] at hd
   by_cases c:HT.sIx xs.length 0 (some 1)=0∧HT.sIx xs.length xs.length none=xs.length
   · refine .inl ⟨c.1,c.2,q a H (Same.refl H) (.tup e ?_)⟩
     have h2:=c.1
     rw [show (1:Int)=((1:Nat):Int) from rfl,HT.sIx_nat] at h2
     have:xs=[]:=List.eq_nil_of_length_eq_zero (by omega)
     rw [this,List.drop_nil] at hd
     rw [this];exact hd
   · refine .inr ⟨c,fun p hp=>q p _ (Zl hp _) (.tup (SqT.of Zh) (DatTs.same (Zl hp _) ?_))⟩
     rw [show (1:Int)=((1:Nat):Int) from rfl,VA];exact hd
theorem catT {K:PySem.W.Frag}{H:Hp}{a b:Addr}{ps qs:List Pg}{Q:VK}(h1:DatT K H (.ref a) (.tuple (Pg.dats ps)))(h2:DatT K H (.ref b) (.tuple (Pg.dats qs)))(hl:ps.length+qs.length≤20000)(q:∀ c H',Same H H'→DatT K H' (.ref c) (.tuple (Pg.dats (ps++qs)))→Q (.ref c) H'):Zdl K (.ref a) (.ref b) H Q:=by
 cases h1 with
 | @tup _ xs _ e1 q1 =>
   cases h2 with
   | @tup _ ys _ e2 q2 =>
     have k1:=q1.pgs
     have k2:=q2.pgs
     have hd:=DatTs.append q1 q2
     rw [← Pg.dats_app] at hd
     refine ⟨a,b,xs,ys,rfl,rfl,e1,e2,ZH (show xs.length+ys.length≤20000 by omega),?_⟩
     by_cases c1:xs=[]
     · refine .inl ⟨c1,q b H (Same.refl H) (.tup e2 ?_)⟩
       rw [c1] at hd;exact hd
     · by_cases c2:ys=[]
       · refine .inr (.inl ⟨c1,c2,q a H (Same.refl H) (.tup e1 ?_)⟩)
         rw [c2,List.append_nil] at hd;exact hd
       · exact .inr (.inr ⟨c1,c2,fun p hp=>q p _ (Zl hp _) (.tup (SqT.of Zh) (DatTs.same (Zl hp _) hd))⟩)
section
variable {P:Program}{w:World}{K:PySem.W.Frag}{mg:Str→Option Value}{base:Heap}
theorem Zbj:∀{ps:List Pg},(∀ p∈ps,p.ok)→Pg.oks ps
 | [],_=>trivial
 | p::ps,h=>⟨h p List.mem_cons_self,Zbj fun q hq=>h q (List.mem_cons_of_mem _ hq)⟩
theorem Vf:∀{ps:List Pg},Pg.oks ps→∀ p∈ps,p.ok
 | _::_,h,_,hp=>by
   rcases List.mem_cons.mp hp with rfl | hp
   · exact h.1
   · exact Vf h.2 _ hp
theorem Zan {n:Nat}:∀{ps:List Pg},(∀ p∈ps,p.hgt≤n)→Pg.hgts ps≤n
 | [],_=>Nat.zero_le _
 | p::ps,h=>by
   have h1:=h p List.mem_cons_self
   have h2:=Zan fun q hq=>h q (List.mem_cons_of_mem _ hq)
   show max p.hgt (Pg.hgts ps)≤n
   omega
theorem Ut {n:Nat}:∀{ps:List Pg},Pg.hgts ps≤n→∀ p∈ps,p.hgt≤n
 | q::ps,h,_,hp=>by
   have h':max q.hgt (Pg.hgts ps)≤n:=h
   rcases List.mem_cons.mp hp with rfl | hp
   · omega
   · exact Ut (by omega) _ hp
theorem ZdQ {n m:Nat}(h:n≤m){vs:List V}{H:Hp}{Q:VK}{E:XK}(z:XQ K n vs H Q E):XQ K m vs H Q E:=by
 obtain ⟨p,nl,sl,N,many,blocks,NS,SS,Δ,e,S,RO,hb,z⟩:=z
 exact ⟨p,nl,sl,N,many,blocks,NS,SS,Δ,e,S,RO,by omega,z⟩
theorem ZcS {f:Addr}{fd:FuncData}(F:Fun K "_law_program" "_law_program" s_l_program f fd)(T:ZY mg)(b:Binds K fd XV [])(kp:PySem.W.keepIn K (.ref f)=true)(m:mg "_law_program"=some (.ref f))(DT:UL P w K mg base 3)(DWo:Def P w K mg base 3 "_law_worth" ZaA ZaN):∀ n,FnOk P w K mg base ZI (4+n) f fd XV (XQ K n)
 | 0=>ZbA F T DT DWo ⟨_,_,⟨fun vs H Q E ⟨_,h,_⟩=>absurd h (Nat.not_lt_zero _),fun _ _ _ _ _ _ _ _ _ _ _ _ _ ⟨_,h,_⟩=>absurd h (Nat.not_lt_zero _)⟩,b,kp,m⟩
 | n+1=>ZbA F T (DT.mono (show 3≤4+n by omega)) (DWo.mono (show 3≤4+n by omega)) ⟨_,_,(ZcS F T b kp m DT DWo n).imp fun vs H Q E ⟨j,h,z⟩=>ZdQ (by omega) z,b,kp,m⟩
def spDe (K:PySem.W.Frag):Sp:=fun vs H Q _=>∃(p nl sl:Addr)(N many:Nat)(NS SS:List Str)(Δ:Rs),vs=[.ref p,.ref nl,.ref sl,.int (many:Int)]∧Sep ((p,Bx N)::Δ) H∧RO Δ nl sl NS SS∧many≤200∧N≤10000 ∧
 ∀ (t:Addr) (H':Hp) (ps:List Pg) (N':Nat),Pg.manys ps≤300→Pg.oks ps→Pg.hgts ps≤6→Sep ((t,Uj K ps)::(p,Bx N')::Δ) H'→Q (.ref t) H'
abbrev nDe:List Str:=["_law_box_here","_law_names_here","_law_slots","_law_many","_law_program_here","_law_block","_law_slot","_law_at","_law_step","_law_more"]
abbrev Zca:List Str:=["_law_box_here","_law_names_here","_law_slots","_law_many"]
theorem scDe:Zt nDe Zca (Zg s_l_deep):=⟨rfl,rfl,rfl,by decide +kernel,rfl,by decide +kernel,by decide +kernel⟩
theorem Zfu {f:Addr}{fd:FuncData}{k:Nat}(F:Fun K "_law_deep" "_law_deep" s_l_deep f fd)(T:ZY mg)(DT:UL P w K mg base k)(DPr:Def P w K mg base k "_law_program" XV (XQ K 0)):FnOk P w K mg base ZI (k+1) f fd Zca (spDe K):=by
 refine F.ok scDe (fun vs H Q E h=>?_) (fun cdv A outer s H vs Q E hr h=>?_)
 · obtain ⟨p,nl,sl,N,many,NS,SS,Δ,rfl,_⟩:=h;rfl
 obtain ⟨p,nl,sl,N,many,NS,SS,Δ,rfl,S,RO,hm,hN,q⟩:=h
 have hr1:=hr
 refine' ⟨?t,?h,?r⟩
 case h =>
   conv=>arg 2;whnf
   with_reducible refine' (Zf ?h1 (Zf (XF ?h2 ?h3 ?h4 ?h5 (Zf ?h6 (Zf ?h7 (Zf ?h8 (Zj ?h9)))) ?h10) (Zj ?h11)))
   case h1=>exact ZC (i:=4) scDe.nd rfl (Or.inl rfl) (Zn DPr hr (Zc (pv 0) (Zc (pv 1) (Zc (pv 2) (Zc (ZA (UK rfl) rfl T.max (by decide +kernel) (Zc Zb (Zc (Zi Yq (pv 3) Zb) Za))) (Zc Zb Za))))))
   case h2=>exact PassesOwn.never
   case h3=>exact rfl
   case h4=>exact YY rfl T.range (Zc Zb Za)
   case h5=>exact ZV (i:=5) scDe.nd rfl (Or.inl rfl)
   case h6=>exact YZ (i:=6) (j:=7) rfl scDe.nd rfl rfl (by decide) rfl rfl (Zc (Zu Zy (pv 2) (Zn DT hr1 (Zc (pv 0) (Zc (ZA Yf rfl T.len PySem.boot_len (Zc (pv 2) Za)) Za))) (fun _ _=>rfl)) (Zc (Zn DT hr1 (Zc (pv 0) (Zc (Zi ZU (ZA Yf rfl T.len PySem.boot_len (Zc (pv 4) Za)) Zb) Za))) Za)) rfl
   case h7=>exact ZC (i:=8) scDe.nd rfl (Or.inl rfl) (Zu Zy (ZF (Zc (ZJ (Zc Zk (Zc (pv 4) Za))) (Zc (ZJ (Zc Zk (Zc (pv 4) Za))) (Zc (ZJ (Zc Zk (Zc (pv 6) (Zc (pv 4) Za)))) Za)))) (Zn DT hr1 (Zc (pv 0) (Zc Zb Za))) (fun _ _=>rfl))
   case h8=>exact ZC (i:=9) scDe.nd rfl (Or.inl rfl) (Zn DPr hr (Zc (pv 0) (Zc (pv 1) (Zc (pv 2) (Zc (Zn DT hr1 (Zc (pv 0) (Zc Zb Za))) (Zc Zb Za))))))
   case h9=>exact ZC (i:=4) scDe.nd rfl (Or.inl rfl) (Zi (Zao (K:=K) rfl) (Zi (Zao (K:=K) rfl) (Yc (VS (K:=K) rfl) (pv 9) Yk (Yl Zb)) (ZJ (Zc (pv 8) Za))) (Yc (VS (K:=K) rfl) (pv 9) (Yl Zb) Yk))
   case h10=>exact fun _=>rfl
   case h11=>exact Zs (pv 4)
 have hs0:=List.length_pos_iff.mpr RO.s0
 have hsl:=RO.sl
 refine ⟨_,rfl,_,rfl,_,rfl,_,rfl,_,_,rfl,rfl,_,_,rfl,p,nl,sl,N,many - 18,0,NS,SS,Δ,by rw [show (if (many:Int) - 18 > 0 then (many:Int) - 18 else 0)=((many - 18:Nat):Int) by split<;>omega];rfl,S,RO,Nat.le_refl _,by omega,by omega,fun t0 H0 ps0 h1 h2 h3 S0=>?_⟩
 refine ⟨6,rfl,by decide,by decide,?_⟩
 refine Wj (fun i σ H'=>∃ t ps N' y5 y6 y7 y8 y9,σ=[some (.ref p),some (.ref nl),some (.ref sl),some (.int (many:Int)),some (.ref t),y5,y6,y7,y8,y9]∧Pg.manys ps≤200+4 * i∧Pg.oks ps∧Pg.hgts ps≤i∧N'≤40000+1000 * i∧Sep ((p,Bx N')::(t,Uj K ps)::Δ) H') ⟨t0,ps0,N+100 * (many - 18),_,_,_,_,_,rfl,by omega,h2,h3,by omega,S0.pull p⟩ ?_ ?_
 · rintro i σ H' hi ⟨t, ps, N',y5,y6,y7,y8,y9,rfl,hm1,hok,hh,hN',S'⟩
   replace hi : i < 6 := by have:(i:Int) < 6:=by first | exact_mod_cast hi | omega
                            omega
   refine ⟨_,rfl,_,rfl,_,rfl,sl,_,rfl,.inl (SqL.of (RO.rd _ S'.tail.tail).2),p,_,_,_,rfl,S',by omega,by rw [List.length_map];omega,by rw [List.length_map];omega,fun r1 H1 a0 a1 S1=>?_⟩
   rw [List.length_map] at a1
   obtain ⟨y,hym,hye⟩:=Xa (f:=V.str) (xs:=SS) a0 a1
   obtain ⟨ta,xs,eta,et1,dt1⟩:=DatT.tupI (show DatT K H1 (.ref t) _ from S1.get t)
   cases eta
   have hxl:=dt1.pgs
   have hlm:=Pg.len_manys ps
   refine ⟨sl,_,_,_,rfl,rfl,SqL.of (RO.rd _ S1.tail.tail).2,hye,_,rfl,_,rfl,t,xs,rfl,.inr et1,_,_,rfl,rfl,p,_,_,_,rfl,S1,by omega,by omega,by omega,fun r2 H2 b0 b1 S2=>⟨_,_,rfl,?_⟩⟩
   refine ⟨_,rfl,(show 2≤sizeLine by decide),fun t1 ht1=>?_⟩
   have V1:=S2.new ht1 (.tup [.str "begin",.ref t])
   have e1:DatT K _ (.ref t) (.tuple (Pg.dats ps)):=V1.get t
   have V1:=V1.im (T:=Yg K (.blk "begin" ps)) fun h e _ im=>DatT.tup (SqT.of e) (.cons (.str _) (.cons (e1.tf ⟨fun x xs q=>im _ _ q rfl,fun x o u q=>im _ _ q rfl⟩) .nil))
   refine ⟨_,rfl,(show 2≤sizeLine by decide),fun t2 ht2=>?_⟩
   have V2:=V1.new ht2 (.tup [.str "late",.ref t])
   have e2:DatT K _ (.ref t) (.tuple (Pg.dats ps)):=V2.get t
   have V2:=V2.im (T:=Yg K (.blk "late" ps)) fun h e _ im=>DatT.tup (SqT.of e) (.cons (.str _) (.cons (e2.tf ⟨fun x xs q=>im _ _ q rfl,fun x o u q=>im _ _ q rfl⟩) .nil))
   refine ⟨_,rfl,_,rfl,(show 3≤sizeLine by decide),fun t3 ht3=>?_⟩
   have V3:=V2.new ht3 (.tup [.str "in",.str y,.ref t])
   have e3:DatT K _ (.ref t) (.tuple (Pg.dats ps)):=V3.get t
   have V3:=V3.im (T:=Yg K (.inn y ps)) fun h e _ im=>DatT.tup (SqT.of e) (.cons (.str _) (.cons (.str _) (.cons (e3.tf ⟨fun x xs q=>im _ _ q rfl,fun x o u q=>im _ _ q rfl⟩) .nil)))
   refine ⟨(show 3≤sizeLine by decide),fun lr hlr=>?_⟩
   have V4:=V3.new hlr (.lst [.ref t1,.ref t2,.ref t3])
   refine ⟨_,rfl,p,_,3,_,rfl,V4.pull p,by omega,by decide,by decide,fun r3 H3 c0 c1 S3=>?_⟩
   have pick:∃ (tk:Addr) (pg:Pg),ZX [V.ref t1,.ref t2,.ref t3] r3=some (.ref tk)∧pg.ok∧pg.hgt≤i+1∧pg.many=1+Pg.manys ps∧Sep ((p,Bx (N'+1+1+1))::(tk,Yg K pg)::Δ) H3:=by
     have U:=S3.drop lr
     rcases (show r3=0∨r3=1∨r3=2 by omega) with rfl | rfl | rfl
     · exact ⟨t1,.blk "begin" ps,Zq (j:=0) rfl,⟨.inl rfl,hok⟩,(by show Pg.hgts ps+1≤i+1;omega),rfl,(((U.drop t3).drop t2).drop t)⟩
     · exact ⟨t2,.blk "late" ps,Zq (j:=1) rfl,⟨.inr rfl,hok⟩,(by show Pg.hgts ps+1≤i+1;omega),rfl,(((U.drop t3).drop t1).drop t)⟩
     · exact ⟨t3,.inn y ps,Zq (j:=2) rfl,⟨RO.sk y hym,hok⟩,(by show Pg.hgts ps+1≤i+1;omega),rfl,(((U.drop t2).drop t1).drop t)⟩
   obtain ⟨tk,pg,k1,p1,p2,p3,S4⟩:=pick
   refine ⟨lr,_,_,_,rfl,rfl,SqL.of (S3.get lr),k1,?_⟩
   refine ⟨_,rfl,_,rfl,_,rfl,_,rfl,p,_,3,_,rfl,S4,by omega,by decide,by decide,fun r4 H4 f0 f1 S5=>?_⟩
   refine ⟨p,nl,sl,_,r4.toNat,0,NS,SS,(tk,Yg K pg)::Δ,by rw [show ((r4.toNat:Nat):Int)=r4 by omega];rfl,S5,⟨fun H z=>RO.rd H z.tail,RO.n0,RO.s0,RO.nl,RO.sl,RO.nk,RO.sk⟩,Nat.le_refl _,by omega,by omega,fun tm H5 qs hq1 hq2 hq3 S6=>?_⟩
   have dm:DatT K H5 (.ref tm) (.tuple (Pg.dats qs)):=S6.get tm
   have dk:DatT K H5 (.ref tk) pg.dat:=S6.get tk
   have hql:=Pg.len_manys qs
   refine ⟨_,rfl,?_⟩
   dsimp only [Wt]
   refine ⟨1,rfl,slT dm fun b1 H6 s6 d6=>?_⟩
   refine ⟨_,rfl,(show 1≤sizeLine by decide),fun b2 hb2=>?_⟩
   have s7:=Zl hb2 (.tup [.ref tk])
   have d7:DatT K (upd H6 b2 (.tup [.ref tk])) (.ref b2) (.tuple (Pg.dats [pg])):=.tup (SqT.of Zh) (.cons (dk.same (s6.trans s7)) .nil)
   refine catT (d6.same s7) d7 (by rw [List.length_take];simp;omega) fun b3 H8 s8 d8=>?_
   refine ⟨_,rfl,1,rfl,?_⟩
   dsimp only [Wt]
   refine slD (dm.same ((s6.trans s7).trans s8)) fun b4 H9 s9 d9=>?_
   refine catT (d8.same s9) d9 (by simp;omega) fun c H10 s10 d10=>?_
   have S7:=((S6.drop tm).mono ((((s6.trans s7).trans s8).trans s9).trans s10)).drop tk
   have hmt:Pg.manys (qs.take 1)+Pg.manys (qs.drop 1)=Pg.manys qs:=by rw [← Pg.manys_app,List.take_append_drop]
   refine ⟨c,qs.take 1++[pg]++qs.drop 1,_,_,_,_,_,_,rfl,?_,?_,?_,?_,(ZdK c S7 d10).pull p⟩
   · rw [Pg.manys_app,Pg.manys_app]
     show Pg.manys (qs.take 1)+(pg.many+0)+Pg.manys (qs.drop 1)≤_
     omega
   · refine Zbj fun z hz=>?_
     rcases List.mem_append.mp hz with hz | hz
     · rcases List.mem_append.mp hz with hz | hz
       · exact Vf hq2 z (List.mem_of_mem_take hz)
       · rw [List.mem_singleton.mp hz];exact p1
     · exact Vf hq2 z (List.mem_of_mem_drop hz)
   · refine Zan fun z hz=>?_
     rcases List.mem_append.mp hz with hz | hz
     · rcases List.mem_append.mp hz with hz | hz
       · exact Nat.le_trans (Ut hq3 z (List.mem_of_mem_take hz)) (Nat.zero_le _)
       · rw [List.mem_singleton.mp hz];exact p2
     · exact Nat.le_trans (Ut hq3 z (List.mem_of_mem_drop hz)) (Nat.zero_le _)
   · omega
 · rintro σ H' ⟨t,ps,N',y5,y6,y7,y8,y9,rfl,hm1,hok,hh,hN',S'⟩
   exact ⟨_,rfl,q t H' ps N' (by omega) hok hh (S'.pull t)⟩
def spDr (K:PySem.W.Frag):Sp:=fun vs H Q _=>∃(p:Addr)(N most:Nat)(Δ:Rs),vs=[.ref p,.int (most:Int)]∧Sep ((p,Bx N)::Δ) H∧most≤200∧N≤1000 ∧
 ∀ (t:Addr) (H':Hp) (ps:List Pg),Pg.manys ps≤300→Pg.oks ps→Pg.hgts ps≤6→Sep ((t,Uj K ps)::Δ) H'→Q (.ref t) H'
abbrev nDr:List Str:=["_law_box_here","_law_most","_law_names_here","_law_slots","_law_way","_law_many"]
abbrev ZcL:List Str:=["_law_box_here","_law_most"]
theorem scDr:Zt nDr ZcL (Zg s_l_drawn):=⟨rfl,rfl,rfl,by decide +kernel,rfl,by decide +kernel,by decide +kernel⟩
theorem ZeZ {f:Addr}{fd:FuncData}{k:Nat}(F:Fun K "_law_drawn" "_law_drawn" s_l_drawn f fd)(T:ZY mg)(DT:UL P w K mg base k)(DCa:Def P w K mg base k "_law_called" Zcy spCa)(DPr:Def P w K mg base k "_law_program" XV (XQ K 6))(DDe:Def P w K mg base k "_law_deep" Zca (spDe K)):FnOk P w K mg base ZI (k+1) f fd ZcL (spDr K):=by
 refine F.ok scDr (fun vs H Q E h=>?_) (fun cdv A outer s H vs Q E hr h=>?_)
 · obtain ⟨p,N,most,Δ,rfl,_⟩:=h;rfl
 obtain ⟨p,N,most,Δ,rfl,S,hm,hN,q⟩:=h
 have hr1:=hr
 refine' ⟨?t,?h,?r⟩
 case h =>
   conv=>arg 2;whnf
   with_reducible refine' (Zf ?h1 (Zf ?h2 (Zf ?h3 (Zf (YB ?h4 (Zj ?h5) Yh) (Zj ?h6)))))
   case h1=>exact YZ (i:=2) (j:=3) rfl scDr.nd rfl rfl (by decide) rfl rfl (Zc (Zn DCa hr (Zc (pv 0) (Zc (Zi ZU Zb (Zn DT hr1 (Zc (pv 0) (Zc Zb Za)))) Za))) (Zc (Zn DCa hr (Zc (pv 0) (Zc (Zi ZU Zb (Zn DT hr1 (Zc (pv 0) (Zc Zb Za)))) Za))) Za)) rfl
   case h2=>exact ZC (i:=3) scDr.nd rfl (Or.inl rfl) (Zi VE (pv 3) (Yc XG (pv 2) Yk (Yl (Zn DT hr1 (Zc (pv 0) (Zc Zb Za))))))
   case h3=>exact YZ (i:=4) (j:=5) rfl scDr.nd rfl rfl (by decide) rfl rfl (Zc (Zn DT hr1 (Zc (pv 0) (Zc Zb Za))) (Zc (Zu Zy (ZF (Zc (pv 1) (Zc (Zn DT hr1 (Zc (pv 0) (Zc (Zi ZU (pv 1) Zb) Za))) Za))) (Zn DT hr1 (Zc (pv 0) (Zc Zb Za))) (fun _ _=>rfl)) Za)) rfl
   case h4=>exact ZD Xw (pv 4) Zb (ZG _)
   case h5=>exact Zs (Zn DDe hr (Zc (pv 0) (Zc (pv 2) (Zc (pv 3) (Zc (pv 5) Za)))))
   case h6=>exact Zs (Zn DPr hr (Zc (pv 0) (Zc (pv 2) (Zc (pv 3) (Zc (pv 5) (Zc (Zu Zy (ZF (Zc Zb (Zc Zb Za))) (Zi Yq (pv 4) Zb) (fun _ _=>rfl)) Za))))))
 refine ⟨_,rfl,_,rfl,p,N,6,_,rfl,S,by omega,by decide,by decide,fun r1 H1 a0 a1 S1=>⟨_,_,rfl,rfl,?_⟩⟩
 refine ⟨p,N+1,(1+r1).toNat,_,by rw [show (((1+r1).toNat:Nat):Int)=1+r1 by omega];rfl,S1,by omega,by omega,by omega,fun nl H2 NS S2 n0 n1 n2=>?_⟩
 refine ⟨_,rfl,_,rfl,p,_,4,_,rfl,S2.pull p,by omega,by decide,by decide,fun r2 H3 b0 b1 S3=>⟨_,_,rfl,rfl,?_⟩⟩
 refine ⟨p,_,(1+r2).toNat,_,by rw [show (((1+r2).toNat:Nat):Int)=1+r2 by omega];rfl,S3,by omega,by omega,by omega,fun sl H4 SS S4 s0 s1 s2=>?_⟩
 refine ⟨_,_,rfl,?_⟩
 refine ⟨_,rfl,_,rfl,?_⟩
 dsimp only [Wt]
 refine ⟨_,rfl,p,_,2,_,rfl,S4.pull p,by omega,by decide,by decide,fun r3 H5 c0 c1 S5=>⟨_,rfl,nl,_,rfl,SqL.of (S5.get nl),fun d1 hd1=>?_⟩⟩
 obtain ⟨zs,ez,mz,lz⟩:=XO NS none (some r3)
 rw [ez]
 have S6:=S5.new hd1 (.lst (zs.map V.str))
 refine ⟨sl,d1,_,_,rfl,rfl,S6.get sl,S6.get d1,ZH (show _≤1000 by rw [List.length_map,List.length_map];omega),fun d2 hd2=>?_⟩
 rw [← List.map_append]
 have S7:=((S6.new hd2 (.lst ((SS++zs).map V.str))).drop d1).drop sl
 generalize upd _ d2 _=H7 at *
 refine ⟨_,rfl,p,_,3,_,rfl,S7.pull p,by omega,by decide,by decide,fun r4 H8 e0 e1 S8=>?_⟩
 refine ⟨_,rfl,_,rfl,_,rfl,_,_,rfl,rfl,p,_,_,_,rfl,S8,by omega,by omega,by omega,fun r5 H9 f0 f1 S9=>⟨(show 2≤sizeLine by decide),fun l5 hl5=>?_⟩⟩
 have S10:=S9.new hl5 (.lst [.int (most:Int),.int r5])
 refine ⟨_,rfl,p,_,2,_,rfl,S10.pull p,by omega,by decide,by decide,fun r6 H10 g0 g1 S11=>?_⟩
 obtain ⟨mm,hmm,hme⟩:=Xa (f:=V.int) (xs:=[(most:Int),r5]) g0 g1
 refine ⟨l5,_,_,_,rfl,rfl,SqL.of (S11.get l5),hme,_,_,rfl,?_⟩
 have hmb:0≤mm∧mm≤(most:Int):=by
   simp only [List.mem_cons,List.not_mem_nil,or_false] at hmm
   rcases hmm with rfl | rfl<;>omega
 have S12:=S11.drop l5
 have R:RO ((d2,Wy ((SS++zs).map V.str))::(nl,Wy (NS.map V.str))::Δ) nl d2 NS (SS++zs):=⟨fun H z=>⟨z.get nl,z.get d2⟩,n0,fun z=>s0 (List.append_eq_nil_iff.mp z).1,by omega,by rw [List.length_append];omega,n2,fun x hx=>by
   rcases List.mem_append.mp hx with h | h
   · exact s2 x h
   · exact n2 x (mz x h)⟩
 refine ⟨_,rfl,rfl,_,rfl,Xc (fun c=>?_) (fun c=>?_)⟩
 · exact ⟨_,rfl,_,rfl,_,rfl,_,rfl,p,nl,d2,_,mm.toNat,NS,SS++zs,_,by rw [show ((mm.toNat:Nat):Int)=mm by omega];rfl,S12,R,by omega,by omega,fun t H' ps N' h1 h2 h3 S13=>q t H' ps h1 h2 h3 (((S13.drop p).drop d2).drop nl)⟩
 · have hr4:¬ r4=0:=fun z=>c (decide_eq_true (by rw [z]))
   refine ⟨_,rfl,_,rfl,_,rfl,_,rfl,(show 2≤sizeLine by decide),fun l6 hl6=>?_⟩
   have S13:=S12.new hl6 (.lst [.int 6,.int 2])
   obtain ⟨bb,hbb,hbe⟩:=Xa (f:=V.int) (xs:=[6,2]) (show 0≤r4 - 1 by omega) (show r4 - 1 < 2 by omega)
   have hb6:0≤bb∧bb≤6:=by
     simp only [List.mem_cons,List.not_mem_nil,or_false] at hbb
     rcases hbb with rfl | rfl<;>omega
   refine ⟨_,rfl,_,_,rfl,rfl,l6,_,_,_,rfl,rfl,SqL.of (S13.get l6),hbe,?_⟩
   exact ⟨p,nl,d2,_,mm.toNat,bb.toNat,NS,SS++zs,_,by rw [show ((mm.toNat:Nat):Int)=mm by omega,show ((bb.toNat:Nat):Int)=bb by omega];rfl,S13.drop l6,R,by omega,by omega,by omega,fun t H' ps h1 h2 h3 S14=>q t H' ps (by omega) h2 (by omega) (((S14.drop p).drop d2).drop nl)⟩
end
end K67
set_option maxHeartbeats 4000000
namespace K67
open PySem L2
def Xf (ds:List PyData):Nat:=(ds.map fun d=>d.shown.length+2).sum
theorem Zbv:∀ ds:List PyData,((ds.map PyData.shown).map (·.length)).sum+(ds.map PyData.shown).length * 2=Xf ds
 | []=>rfl
 | d::r=>by
   have:=Zbv r
   show d.shown.length+((r.map PyData.shown).map (·.length)).sum+((r.map PyData.shown).length+1) * 2=d.shown.length+2+Xf r
   omega
theorem ZZ (ds:List PyData):(PyData.tuple ds).shown.length≤3+Xf ds:=by
 show (tupleText (PyData.shownAll ds)).length≤_
 rw [Wi]
 have z2:(Str.ofString (if (ds.map PyData.shown).length == 1 then ",)" else ")":String)).length≤2:=by split<;>decide
 have j:=Wl ", " (ds.map PyData.shown)
 rw [show (Str.ofString ", ").length=2 by decide +kernel,Zbv] at j
 show (Str.ofString "("++Str.join ", " (ds.map PyData.shown)++Str.ofString (if (ds.map PyData.shown).length == 1 then ",)" else ")":String)).length≤_
 rw [YO,YO]
 have z1:(Str.ofString "(").length=1:=by decide
 omega
theorem YQ {x:Str}(h:x∈(["set","look","back","copy","pass","begin","late","in"]:List Str)):Sml (.str x) 200 0:=by
 have:∀ y∈(["set","look","back","copy","pass","begin","late","in"]:List Str),ZK y:=by decide +kernel
 exact (YR (this x h) 0).le (by decide) (Nat.le_refl _)
theorem WA {ds:List PyData}(h:PyData.showableAll ds=true):(PyData.tuple ds).showable=true:=h
mutual
theorem Zct:∀{p:Pg},p.ok→p.dat.showable=true∧p.dat.shown.length+2≤1000 * p.many
 | .set x v s,h=>by
   have w:=YQ (x:="set") (by decide +kernel)
   have a:=YR h.1 0
   have b:=Zei (.inr h.2.1) 0
   have c:=YR h.2.2 0
   refine ⟨WA (ZM fun d hd=>?_),?_⟩
   · simp only [List.mem_cons,List.not_mem_nil,or_false] at hd
     rcases hd with rfl | rfl | rfl | rfl
     · exact w.sh
     · exact a.sh
     · exact b.sh
     · exact c.sh
   · have z:=ZZ [.str "set",.str x,XM v,.str s]
     have e:Xf [.str "set",.str x,XM v,.str s]=(PyData.str "set").shown.length+2+((PyData.str x).shown.length+2+((XM v).shown.length+2+((PyData.str s).shown.length+2+0))):=rfl
     have:=w.ln;have:=a.ln;have:=b.ln;have:=c.ln
     rw [Pg.many_eq]
     show (PyData.tuple [.str "set",.str x,XM v,.str s]).shown.length+2≤_
     omega
 | .look x,h=>by
   have w:=YQ (x:="look") (by decide +kernel)
   have a:=YR (show ZK x from h) 0
   refine ⟨WA (ZM fun d hd=>?_),?_⟩
   · simp only [List.mem_cons,List.not_mem_nil,or_false] at hd
     rcases hd with rfl | rfl
     · exact w.sh
     · exact a.sh
   · have z:=ZZ [.str "look",.str x]
     have e:Xf [.str "look",.str x]=(PyData.str "look").shown.length+2+((PyData.str x).shown.length+2+0):=rfl
     have:=w.ln;have:=a.ln
     rw [Pg.many_eq]
     show (PyData.tuple [.str "look",.str x]).shown.length+2≤_
     omega
 | .slot k s,h=>by
   have w:Sml (.str k) 200 0:=YQ (by rcases h.1 with rfl | rfl<;>decide +kernel)
   have a:=YR h.2 0
   refine ⟨WA (ZM fun d hd=>?_),?_⟩
   · simp only [List.mem_cons,List.not_mem_nil,or_false] at hd
     rcases hd with rfl | rfl
     · exact w.sh
     · exact a.sh
   · have z:=ZZ [.str k,.str s]
     have e:Xf [.str k,.str s]=(PyData.str k).shown.length+2+((PyData.str s).shown.length+2+0):=rfl
     have:=w.ln;have:=a.ln
     rw [Pg.many_eq]
     show (PyData.tuple [.str k,.str s]).shown.length+2≤_
     omega
 | .pass,h=>by
   have w:=YQ (x:="pass") (by decide +kernel)
   refine ⟨WA (ZM fun d hd=>?_),?_⟩
   · rw [List.mem_singleton.mp hd];exact w.sh
   · have z:=ZZ [.str "pass"]
     have e:Xf [.str "pass"]=(PyData.str "pass").shown.length+2+0:=rfl
     have:=w.ln
     rw [Pg.many_eq]
     show (PyData.tuple [.str "pass"]).shown.length+2≤_
     omega
 | .blk k ps,h=>by
   have w:Sml (.str k) 200 0:=YQ (by rcases h.1 with rfl | rfl<;>decide +kernel)
   obtain ⟨q1,q2⟩:=Xx h.2
   refine ⟨WA (ZM fun d hd=>?_),?_⟩
   · simp only [List.mem_cons,List.not_mem_nil,or_false] at hd
     rcases hd with rfl | rfl
     · exact w.sh
     · exact WA q1
   · have z:=ZZ [.str k,.tuple (Pg.dats ps)]
     have z2:=ZZ (Pg.dats ps)
     have e:Xf [.str k,.tuple (Pg.dats ps)]=(PyData.str k).shown.length+2+((PyData.tuple (Pg.dats ps)).shown.length+2+0):=rfl
     have:=w.ln
     rw [Pg.many_eq]
     show (PyData.tuple [.str k,.tuple (Pg.dats ps)]).shown.length+2≤1000 * (1+Pg.manys ps)
     omega
 | .inn s ps,h=>by
   have w:=YQ (x:="in") (by decide +kernel)
   have a:=YR h.1 0
   obtain ⟨q1,q2⟩:=Xx h.2
   refine ⟨WA (ZM fun d hd=>?_),?_⟩
   · simp only [List.mem_cons,List.not_mem_nil,or_false] at hd
     rcases hd with rfl | rfl | rfl
     · exact w.sh
     · exact a.sh
     · exact WA q1
   · have z:=ZZ [.str "in",.str s,.tuple (Pg.dats ps)]
     have z2:=ZZ (Pg.dats ps)
     have e:Xf [.str "in",.str s,.tuple (Pg.dats ps)]=(PyData.str "in").shown.length+2+((PyData.str s).shown.length+2+((PyData.tuple (Pg.dats ps)).shown.length+2+0)):=rfl
     have:=w.ln;have:=a.ln
     rw [Pg.many_eq]
     show (PyData.tuple [.str "in",.str s,.tuple (Pg.dats ps)]).shown.length+2≤1000 * (1+Pg.manys ps)
     omega
theorem Xx:∀{ps:List Pg},Pg.oks ps→PyData.showableAll (Pg.dats ps)=true∧Xf (Pg.dats ps)≤1000 * Pg.manys ps
 | [],_=>⟨rfl,Nat.le_refl _⟩
 | p :: ps,h=>by
   obtain ⟨a,b⟩:=Zct h.1
   obtain ⟨c,d⟩:=Xx h.2
   refine ⟨?_,?_⟩
   · show (p.dat.showable&&PyData.showableAll (Pg.dats ps))=true
     rw [a,c];rfl
   · show p.dat.shown.length+2+Xf (Pg.dats ps)≤1000 * (p.many+Pg.manys ps)
     omega
end
theorem Ul (x:Str):(!decide (V.str x=V.str x))=false:=by simp
section
variable {P:Program}{w:World}{K:PySem.W.Frag}{mg:Str→Option Value}{base:Heap}
theorem Zfy {K:PySem.W.Frag}{H H':Hp}{a:Addr}{xs:List V}(h:SqL K H a xs)(s:Same H H'):SqL K H' a xs:=by
 rcases h with (h | ⟨o,h⟩) | h
 · exact .inl (.inl (s _ _ h))
 · exact .inl (.inr ⟨o,s _ _ h⟩)
 · exact .inr h
def Va (K:PySem.W.Frag):Sp:=fun vs H Q _=>∃(a:Addr)(ns:List Int),vs=[.ref a]∧SqL K H a (ns.map V.int)∧ns.length≤63∧∀ H',Q (.bl true) H'
def ScQ (K:PySem.W.Frag)(ns:List Int):Yn:=fun a h=>SqL K h a (ns.map V.int)
instance {K:PySem.W.Frag} {ns:List Int}:Up (ScQ K ns):=⟨fun h s=>Zfy h s⟩
abbrev nLw:List Str:=["_law_script","_law_k","_law_program_here","_law_kept","_law_due"]
abbrev pnLw:List Str:=["_law_script"]
theorem scLw:Zt nLw pnLw (Zg s_law):=⟨rfl,rfl,rfl,by decide +kernel,rfl,by decide +kernel,by decide +kernel⟩
theorem Zep {f:Addr}{fd:FuncData}{k:Nat}(F:Fun K "law" "law" s_law f fd)(T:ZY mg)(DB:Def P w K mg base k "_law_box" ["_law_script","_law_k"] (VO K))(DDr:Def P w K mg base k "_law_drawn" ZcL (spDr K))(DRo:Def P w K mg base k "_law_rows" WH (Vp K 10))(DPT:Def P w K mg base k "program_text" ZcQ (spPT K 10)):FnOk P w K mg base ZI (k+1) f fd pnLw (Va K):=by
 refine F.ok scLw (fun vs H Q E h=>?_) (fun cdv A outer s H vs Q E hr h=>?_)
 · obtain ⟨a,ns,rfl,_⟩:=h;rfl
 obtain ⟨a,ns,rfl,hS,h63,q⟩:=h
 have hr1:=hr
 refine' ⟨?t,?h,?r⟩
 case h =>
   conv=>arg 2;whnf
   with_reducible refine' (Zf (XF ?h1 ?h2 ?h3 ?h4 (Zf ?h5 (Zf ?h6 (Zj (YB ?h7 (Zj ?h8) Yh)))) ?h9) (Zj ?h10))
   case h1=>exact PassesOwn.never
   case h2=>exact rfl
   case h3=>exact YY rfl T.range (Zc (ZA (UK rfl) rfl T.max (by decide +kernel) (Zc Zb (Zc (ZA (Zbr rfl) rfl T.min (by decide +kernel) (Zc (ZA Yf rfl T.len PySem.boot_len (Zc (pv 0) Za)) (Zc Zb Za))) Za))) Za)
   case h4=>exact ZV (i:=1) scLw.nd rfl (Or.inl rfl)
   case h5=>exact ZC (i:=2) scLw.nd rfl (Or.inl rfl) (Zn DDr hr (Zc (Zn DB hr (Zc (pv 0) (Zc (pv 1) Za))) (Zc (Zu Zy (ZF (Zc Zb (Zc Zb (Zc Zb Za)))) (pv 1) (fun _ _=>rfl)) Za)))
   case h6=>exact YZ (i:=3) (j:=4) rfl scLw.nd rfl rfl (by decide) rfl rfl (Zc (ZA (WO (K:=K) rfl hr.gd hr.units) rfl T.repr (by decide +kernel) (Zc (pv 2) Za)) (Zc (Yd PySem.F.plainAttrs_str PySem.F.slot_str_join PySem.F.type_str_join YN Zk (Zc (Zn DRo hr (Zc (pv 2) (Zc Zb Za))) Za)) Za)) rfl
   case h7=>exact PW.pt (Zdb (ZD UY (Zn DPT hr (Zc (pv 2) Za)) (pv 4) (ZG _)) (Zdb (ZD UY (Zn DPT hr (Zc (pv 2) Za)) (pv 4) (ZG _)) (ZeB (ZD UY (ZA (WO (K:=K) rfl hr.gd hr.units) rfl T.repr (by decide +kernel) (Zc (pv 2) Za)) (pv 3) (ZG _)))))
   case h8=>exact Zs Zdf
   case h9=>exact fun _=>rfl
   case h10=>exact Zs (Ws Xw (Zn DPT hr (Zc (ZJ Za) Za)) Zk (ZG _))
 have S:Sep [(a,ScQ K ns)] H:=⟨H,fun _ _ e=>e,hS,trivial⟩
 refine ⟨_,rfl,a,_,rfl,.inl hS,_,_,rfl,_,_,rfl,?_⟩
 rw [List.length_map]
 generalize hm:(if (if (3:Int) < ((ns.length:Nat):Int) then 3 else ((ns.length:Nat):Int)) > 1 then (if (3:Int) < ((ns.length:Nat):Int) then 3 else ((ns.length:Nat):Int)) else 1)=m
 have hm9:0≤m∧m≤3:=by rw [← hm];split<;>(try split)<;>omega
 refine ⟨m,rfl,by omega,by omega,?_⟩
 refine Wj (fun i σ H'=>∃ x1 x2 x3 x4,σ=[some (.ref a),x1,x2,x3,x4]∧Sep [(a,ScQ K ns)] H') ⟨_,_,_,_,rfl,S⟩ ?_ ?_
 · rintro i σ H0 hi ⟨x1,x2,x3,x4,rfl,S0⟩
   refine ⟨_,rfl,_,rfl,a,ns,_,_,rfl,S0.get a,S0,by omega,by omega,fun p H1 s1 S1=>?_⟩
   refine ⟨(by show 3≤sizeLine;decide),fun l hl=>?_⟩
   have S2:=S1.new hl (.lst [.int 150,.int 40,.int 10])
   obtain ⟨mo,hmo,hme⟩:=Xa (f:=V.int) (xs:=[150,40,10]) (show (0:Int)≤0+(i:Int) by omega) (show (0+(i:Int)) < 3 by omega)
   have hmb:0≤mo∧mo≤200:=by
     simp only [List.mem_cons,List.not_mem_nil,or_false] at hmo
     rcases hmo with rfl | rfl | rfl<;>omega
   refine ⟨_,rfl,l,_,_,_,rfl,rfl,SqL.of (S2.get l),hme,?_⟩
   refine ⟨p,0,mo.toNat,_,by rw [show ((mo.toNat:Nat):Int)=mo by omega];rfl,(S2.drop l).pull p,by omega,by omega,fun t H3 ps h1 h2 h3 S3=>?_⟩
   have dt:DatT K H3 (.ref t) (.tuple (Pg.dats ps)):=S3.get t
   have hrk:=Pg.rk_le ps
   have hdp:=Pg.deeps ps
   obtain ⟨w1,w2⟩:=Xx h2
   have w3:=ZZ (Pg.dats ps)
   have w4:(PyData.tuple (Pg.dats ps)).shown.length≤sizeLine:=Nat.le_trans (show _≤1000000 by omega) (by decide)
   have w5:(PyData.tuple (Pg.dats ps)).depth≤60:=by show PyData.depthAll (Pg.dats ps)+1≤60;omega
   have hrw:(Zr ps).map (Yv 0++·)=Zr ps:=by
     rw [show (fun x=>Yv 0++x)=id from funext Zfc,List.map_id]
   refine ⟨_,rfl,_,_,rfl,dt,WA w1,w4,w5,rfl,_,rfl,.ref t,0,ps,rfl,dt,h2,by omega,by omega,by omega,fun rl H4 s4 hrl erl=>?_⟩
   rw [hrw] at erl
   refine ⟨"\n",rl,Zr ps,rfl,rfl,SqL.of erl,Vt h2 (by omega) (by omega),_,_,rfl,?_⟩
   refine ⟨_,rfl,.ref t,ps,rfl,dt.same s4,h2,by omega,by omega,by omega,fun H5 s5=>⟨_,rfl,rfl,_,rfl,?_⟩⟩
   rw [show (!decide (V.str (ptx ps)=V.str (Txt.join "\n" (Zr ps))))=false from Ul _]
   refine Xb ⟨_,rfl,.ref t,ps,rfl,(dt.same s4).same s5,h2,by omega,by omega,by omega,fun H6 s6=>⟨_,rfl,rfl,_,rfl,?_⟩⟩
   rw [show (!decide (V.str (ptx ps)=V.str (Txt.join "\n" (Zr ps))))=false from Ul _]
   refine Xb ⟨_,rfl,_,_,rfl,((dt.same s4).same s5).same s6,WA w1,w4,w5,_,rfl,rfl,_,rfl,?_⟩
   rw [Ul]
   exact Xb ⟨_,_,_,_,rfl,((S3.mono ((s4.trans s5).trans s6)).drop t)⟩
 · rintro σ H0 ⟨x1,x2,x3,x4,rfl,S0⟩
   refine ⟨(by show 0≤sizeLine;decide),fun t ht=>⟨.ref t,[],rfl,.tup (SqT.of Zh) .nil,trivial,by decide,by decide,by decide,fun H' s'=>⟨rfl,?_⟩⟩⟩
   rw [show decide (V.str (ptx [])=V.str (Str.ofString ""))=true by decide +kernel]
   exact q H'
end
end K67
set_option maxHeartbeats 4000000
namespace K67
open PySem L2
abbrev ZcX (P:Program)(w:World)(K:PySem.W.Frag)(mg:Str→Option Value)(base:Heap):Prop:=Def P w K mg base 1 "_law_take" ["_law_box_here","_law_many"] (Ub 4611686018427387904)
section
variable {P:Program}{w:World}{K:PySem.W.Frag}{mg:Str→Option Value}{base:Heap}
abbrev vSigns:Str:=Zdh (Xj s_l_value)
theorem vs_len:vSigns.length=94:=by decide +kernel
theorem Zez:vSigns.cps.toList.all WS=true:=by decide +kernel
abbrev nVv:List Str:=["_law_box_here","_law_way","_law_signs"]
theorem scVal:Zt nVv ["_law_box_here"] (Zg s_l_value):=⟨rfl,rfl,rfl,by decide +kernel,rfl,by decide +kernel,by decide +kernel⟩
theorem Zcs {f:Addr}{fd:FuncData}(F:Fun K "_law_value" "_law_value" s_l_value f fd)(T:ZY mg)(D:ZcX P w K mg base):FnOk P w K mg base ZI 2 f fd ["_law_box_here"] Zah:=by
 refine F.ok scVal (fun vs H Q E h=>?_) (fun cdv A outer s H vs Q E hr h=>?_)
 · obtain ⟨p,n,rfl,_⟩:=h;rfl
 obtain ⟨p,n,rfl,hB,hn,q⟩:=h
 refine ⟨_,Zf (ZC (i:=1) scVal.nd rfl (Or.inl rfl) (Zn D hr (Zc (pv 0) (Zc Zb Za))))
   (Zf (YB (ZD UU (pv 1) Zb (ZG _)) (Zj (Zs (Zi Yq (Zn D hr (Zc (pv 0) (Zc Zb Za))) Zb))) Yh)
   (Zf (YB (ZD Xw (pv 1) Zb (ZG _)) (Zj (Zs (Zu Zy (ZF (YL (Zi Yq (Zi Ud Zb Zb) Zb) (YL (Zi Yq Zb (Zi Ud Zb Zb)) (YL (Zi Ud Zb Zb) (YL Zb Za rfl) rfl) rfl) rfl)) (Zn D hr (Zc (pv 0) (Zc Zb Za))) (fun _ _=>rfl)))) Yh)
   (Zf (YB (ZD Xw (pv 1) Zb (ZG _)) (Zj (Zs (Zu Zy (ZF (YL Zk (YL Zk (YL Zk (YL Zk (YL Zk (YL Zk (YL Zk (YL Zk Za rfl) rfl) rfl) rfl) rfl) rfl) rfl) rfl)) (Zn D hr (Zc (pv 0) (Zc Zb Za))) (fun _ _=>rfl)))) Yh)
   (Zf (ZC (i:=2) scVal.nd rfl (Or.inr rfl) Zk)
   (Zj (Zs (Yd PySem.F.plainAttrs_str PySem.F.slot_str_join PySem.F.type_str_join YN Zk (Zc (Wr (CompOk.of nVv s_l_value rfl rfl (by decide +kernel)) rfl
     (YY rfl T.range (Zc (Zn D hr (Zc (pv 0) (Zc (XY (ZD Xw (pv 1) Zb (ZG _)) Zb Zb) Za))) Za))
     (fun _ _ _ _ _=>Zu WR (pv 2) (Zn D hr (Zc (pv 0) (Zc (ZA (Zbq (K:=K) rfl) rfl T.len PySem.boot_len (Zc (pv 2) Za)) Za))) (fun _ _=>rfl))) Za)))))))),?_⟩
 refine ⟨_,rfl,p,n,6,rfl,hB,by omega,by decide,by decide,fun r1 H1 a0 a1 B1 k1=>?_⟩
 refine ⟨_,rfl,_,_,rfl,rfl,_,rfl,Xc (fun c=>?_) (fun c=>?_)⟩
 · refine ⟨_,rfl,p,n+1,7,rfl,B1,by omega,by decide,by decide,fun r2 H2 b0 b1 B2 k2=>⟨_,_,rfl,rfl,?_⟩⟩
   exact q _ _ (by show (r2 - 3).natAbs≤10 ^ 31;omega) (B2.le (by omega)) (k1.trans k2)
 refine ⟨_,rfl,rfl,_,rfl,Xc (fun c2=>?_) (fun c2=>?_)⟩
 · refine ⟨_,_,rfl,rfl,⟨by decide,by decide,by decide⟩,_,_,rfl,rfl,_,_,rfl,rfl,⟨by decide,by decide,by decide⟩,_,_,rfl,rfl,_,_,rfl,rfl,⟨by decide,by decide,by decide⟩,(by show 4≤sizeLine;decide),fun l hl=>?_⟩
   have hne:l≠p:=fun e=>by obtain ⟨_,_,_,z,_⟩:=B1;rw [e,z] at hl;cases hl
   refine ⟨_,rfl,p,n+1,4,rfl,B1.same (Zl hl _),by omega,by decide,by decide,fun r2 H2 b0 b1 B2 k2=>?_⟩
   obtain ⟨v,hv,hm⟩:=Uf (xs:=([.int (10 ^ (30:Int).toNat - 1),.int (1 - 10 ^ (30:Int).toNat),.int (10 ^ (29:Int).toNat),.int 0]:List V)) b0 b1
   refine ⟨l,_,_,v,rfl,rfl,SqL.of (k2 l _ hne Zh),hv,q _ _ ?_ (B2.le (by omega)) (k1.trans ((Zl hl _).kp p |>.trans k2))⟩
   have all:(([.int (10 ^ (30:Int).toNat - 1),.int (1 - 10 ^ (30:Int).toNat),.int (10 ^ (29:Int).toNat),.int 0]:List V)).all ZaY=true:=by decide +kernel
   exact VL (List.all_eq_true.mp all v hm)
 refine ⟨_,rfl,rfl,_,rfl,Xc (fun c3=>?_) (fun c3=>?_)⟩
 · refine ⟨(by show 8≤sizeLine;decide),fun l hl=>?_⟩
   have hne:l≠p:=fun e=>by obtain ⟨_,_,_,z,_⟩:=B1;rw [e,z] at hl;cases hl
   refine ⟨_,rfl,p,n+1,8,rfl,B1.same (Zl hl _),by omega,by decide,by decide,fun r2 H2 b0 b1 B2 k2=>?_⟩
   obtain ⟨v,hv,hm⟩:=Uf (xs:=([.str "",.str "0",.str "-1",.str "a",.str "none",.str "'",.str "\\", .str " "]:List V)) b0 b1
   refine ⟨l,_,_,v,rfl,rfl,SqL.of (k2 l _ hne Zh),hv,q _ _ ?_ (B2.le (by omega)) (k1.trans ((Zl hl _).kp p |>.trans k2))⟩
   have all:(([.str "",.str "0",.str "-1",.str "a",.str "none",.str "'",.str "\\", .str " "]:List V)).all ZaY=true:=by decide +kernel
   exact VL (List.all_eq_true.mp all v hm)
 refine ⟨rfl,?_⟩
 have fin:∀ (r2:Int) (H2:Hp),0≤r2→r2 < 41→BoxAt H2 p (n+2)→Kp p H1 H2→∃ j:Int,[V.int r2]=[.int j]∧-(2 ^ 62)≤j∧j < 2 ^ 62∧∀ D,H2 D=none→XR (WU 0 j.toNat)
     (tOp rIxS (Vu 2) (UV (Ub 4611686018427387904) [] E0 (Xg (Vu 0) (Xg (tCB (fun xs H Q=>∃ x n,xs=[x]∧ZbX K x H n∧Q (.int n) H) (Xg (Vu 2) Vr)) Vr))))
     [some (.ref p),some (.int r1),some (.str vSigns)] D (fun x H3=>∃ sep a ys,V.str ""=.str sep∧[x]=[.ref a]∧SqL K H3 a (ys.map V.str)∧(ys.map (·.length)).sum+ys.length * sep.length≤16777216∧Q (.str (Txt.join sep ys)) H3) H2:=by
   intro r2 H2 b0 b1 B2 k2
   refine ⟨r2,rfl,by omega,by omega,fun Dl hD=>?_⟩
   have hne:Dl≠p:=fun e=>by obtain ⟨_,_,_,z,_⟩:=B2;rw [e,z] at hD;cases hD
   refine ZaR (Nat.le_trans (show r2.toNat≤1000 by omega) (len1 (Nat.le_refl _)))
     (fun i ys H'=>∃ zs:List Str,ys=zs.map V.str∧zs.length=i∧(∀ z∈zs,∃ c,z=⟨#[c]⟩∧WS c=true)∧H' Dl=some (.lst ys)∧BoxAt H' p (n+2+i)∧Kp p H1 H'∧i≤r2.toNat)
     ⟨[],rfl,rfl,(fun _ h=>nomatch h),Zh,B2.same (Zl hD _),k2.trans ((Zl hD _).kp p),Nat.zero_le _⟩ ?_ ?_ ?_
   · rintro i ys H' ⟨zs,rfl,hz,_⟩;rw [List.length_map];exact hz
   · rintro i ys H' hi ⟨zs,rfl,hz,hall,hDl,B',k',_⟩
     refine ⟨_,rfl,_,rfl,_,rfl,_,94,rfl,⟨by rw [vs_len];decide,vs_len.symm⟩,p,n+2+i,94,rfl,B',by omega,by decide,by decide,fun r3 H3 d0 d1 B3 k3=>?_⟩
     have hl:vSigns.cps.toList.length=94:=by rw [← ZL];exact vs_len
     obtain ⟨c,hc,hm⟩:=Uf (xs:=vSigns.cps.toList) d0 (by rw [hl];exact d1)
     refine ⟨vSigns,r3,c,rfl,rfl,(by rw [vs_len];decide),hc,k3 Dl _ hne hDl,zs++[⟨#[c]⟩],by rw [List.map_append];rfl,by rw [List.length_append,hz];rfl,?_,Zh,?_,fun b o nb e=>?_,hi⟩
     · intro z hz'
       rcases List.mem_append.mp hz' with h | h
       · exact hall z h
       · rw [List.mem_singleton.mp h];exact ⟨c,rfl,List.all_eq_true.mp Zez c hm⟩
     · obtain ⟨x1,x2,x3,x4,x5⟩:=B3
       exact ⟨x1,x2,x3,by rw [Zp hne.symm];exact x4,x5⟩
     · rw [Zp (Zz (k2 b o nb e) hD)];exact k3 b o nb (k' b o nb e)
   · rintro ys H' ⟨zs,rfl,hz,hall,hDl,B',k',_⟩
     have ones:∀ l:List Str,(∀ z∈l,∃ c,z=⟨#[c]⟩∧WS c=true)→(l.map (·.length)).sum=l.length∧(l.flatMap (·.cps.toList)).length=l.length∧(l.flatMap (·.cps.toList)).all WS=true:=by
       intro l
       induction l with
       | nil=>intro _;exact ⟨rfl,rfl,rfl⟩
       | cons z r ih =>
         intro h
         obtain ⟨c,rfl,hc⟩:=h z List.mem_cons_self
         obtain ⟨g1,g2,g3⟩:=ih fun y hy=>h y (List.mem_cons_of_mem _ hy)
         refine ⟨?_,?_,?_⟩
         · rw [List.map_cons,List.sum_cons,g1,List.length_cons];show 1+_=_;omega
         · have e0:((⟨#[c]⟩:Str)::r).flatMap (·.cps.toList)=c::r.flatMap (·.cps.toList):=rfl
           rw [e0,List.length_cons,List.length_cons,g2]
         · rw [List.flatMap_cons,List.all_append,g3];simp [hc]
     obtain ⟨g1,g2,g3⟩:=ones zs hall
     refine ⟨_,Dl,zs,rfl,rfl,SqL.of hDl,?_,q _ _ ⟨?_,?_⟩ (B'.le (by omega)) (k1.trans k')⟩
     · rw [g1];show _+_ * 0≤_;omega
     · rw [ZL];show (Txt.join (Str.ofString "") zs).cps.toList.length≤41;rw [Xi,g2];omega
     · show (Txt.join (Str.ofString "") zs).cps.toList.all WS=true;rw [Xi];exact g3
 refine ⟨_,rfl,_,rfl,rfl,_,rfl,Xc (fun c4=>?_) (fun c4=>?_)⟩
 · exact ⟨p,n+1,4,rfl,B1,by omega,by decide,by decide,fun r2 H2 b0 b1 B2 k2=>fin r2 H2 b0 (by omega) B2 k2⟩
 · exact ⟨p,n+1,41,rfl,B1,by omega,by decide,by decide,fun r2 H2 b0 b1 B2 k2=>fin r2 H2 b0 (by omega) B2 k2⟩
end
end K67
set_option maxHeartbeats 4000000
namespace K67
open PySem L2
open PySem.W in
theorem all_mk {l:PySem.W.OpenLaw}{w:World}{K:PySem.W.Frag}{h:Heap}{mg:Str→Option Value}{fa:Addr}
   {f_z0 f_z1 f_z2 f_z3 f_z4 f_z5 f_z6 f_z7 f_z8 f_z9 f_z10 f_z11 f_z12 f_z13 f_z14 f_z15 f_z16 f_z17 f_z18 f_z19 f_z20 f_z21 f_z22:Addr} {d_z0 d_z1 d_z2 d_z3 d_z4 d_z5 d_z6 d_z7 d_z8 d_z9 d_z10 d_z11 d_z12 d_z13 d_z14 d_z15 d_z16 d_z17 d_z18 d_z19 d_z20 d_z21 d_z22:FuncData} (X:K.In h) (G:h.Ns mainGlobals mg) (hfa:mg "law"=some (.ref fa))
   (h_z0:FG K "kinds_of" s_kinds_of f_z0 d_z0)
   (h_z1:FG K "has_within" s_has_within f_z1 d_z1)
   (h_z2:FG K "program_within" s_program_within f_z2 d_z2)
   (h_z3:FG K "is_number" s_is_number f_z3 d_z3)
   (h_z4:FG K "value_text" s_value_text f_z4 d_z4)
   (h_z5:FG K "kinds_in_row" s_kinds_in_row f_z5 d_z5)
   (h_z6:FG K "step_row" s_step_row f_z6 d_z6)
   (h_z7:FG K "moved_in" s_moved_in f_z7 d_z7)
   (h_z8:FG K "program_rows" s_program_rows f_z8 d_z8)
   (h_z9:FG K "program_text" s_program_text f_z9 d_z9)
   (h_z10:FG K "_law_cell_at" s_l_cell_at f_z10 d_z10)
   (h_z11:FG K "_law_box" s_l_box f_z11 d_z11)
   (h_z12:FG K "_law_take" s_l_take f_z12 d_z12)
   (h_z13:FG K "_law_names" s_l_names f_z13 d_z13)
   (h_z14:FG K "_law_value" s_l_value f_z14 d_z14)
   (h_z15:FG K "_law_called" s_l_called f_z15 d_z15)
   (h_z16:FG K "_law_worth" s_l_worth f_z16 d_z16)
   (h_z17:FG K "_law_program" s_l_program f_z17 d_z17)
   (h_z18:FG K "_law_deep" s_l_deep f_z18 d_z18)
   (h_z19:FG K "_law_written" s_l_written f_z19 d_z19)
   (h_z20:FG K "_law_rows" s_l_rows f_z20 d_z20)
   (h_z21:FG K "_law_drawn" s_l_drawn f_z21 d_z21)
   (h_z22:FG K "law" s_law f_z22 d_z22)
   (z_len:PySem.W.nsIn K mainGlobals "len"=some none)
   (z_abs:PySem.W.nsIn K mainGlobals "abs"=some none)
   (z_int:PySem.W.nsIn K mainGlobals "int"=some none)
   (z_range:PySem.W.nsIn K mainGlobals "range"=some none)
   (z_min:PySem.W.nsIn K mainGlobals "min"=some none)
   (z_max:PySem.W.nsIn K mainGlobals "max"=some none)
   (z_repr:PySem.W.nsIn K mainGlobals "repr"=some none)
   (z_enumerate:PySem.W.nsIn K mainGlobals "enumerate"=some none)
   (z_ord:PySem.W.nsIn K mainGlobals "ord"=some none)
   (z_list:PySem.W.nsIn K mainGlobals "list"=some none)
   (z_tuple:PySem.W.nsIn K mainGlobals "tuple"=some none)
   (z_dict:PySem.W.nsIn K mainGlobals "dict"=some none)
   (z_sorted:PySem.W.nsIn K mainGlobals "sorted"=some none)
   (z_sum:PySem.W.nsIn K mainGlobals "sum"=some none)
   (z_all:PySem.W.nsIn K mainGlobals "all"=some none)
   (z_any:PySem.W.nsIn K mainGlobals "any"=some none)
   (z_divmod:PySem.W.nsIn K mainGlobals "divmod"=some none)
   (z_str:PySem.W.nsIn K mainGlobals "str"=some none)
   (z_isinstance:PySem.W.nsIn K mainGlobals "isinstance"=some none)
   (z_set:PySem.W.nsIn K mainGlobals "set"=some none)
   (z_zip:PySem.W.nsIn K mainGlobals "zip"=some none)
   (z_reversed:PySem.W.nsIn K mainGlobals "reversed"=some none)
   (z_bool:PySem.W.nsIn K mainGlobals "bool"=some none)
   {dk:Addr}
   (kd:PySem.W.nsIn K mainGlobals "KINDS"=some (some (.ref dk)))
   {kb0 kb1 kb2 kb3 kb4 kb5 kb6 kb7:Addr} {kh0 kh1 kh2 kh3 kh4 kh5 kh6 kh7:Int} {kt0 kt1 kt2 kt3 kt4 kt5 kt6 kt7:Tok} {kep:Nat}
   (kl:K.lookup dk=some ⟨.type "dict",none,.dict #[⟨kh0,.str "set" kt0,.ref kb0⟩,⟨kh1,.str "look" kt1,.ref kb1⟩,⟨kh2,.str "back" kt2,.ref kb2⟩,⟨kh3,.str "begin" kt3,.ref kb3⟩,⟨kh4,.str "late" kt4,.ref kb4⟩,⟨kh5,.str "copy" kt5,.ref kb5⟩,⟨kh6,.str "in" kt6,.ref kb6⟩,⟨kh7,.str "pass" kt7,.ref kb7⟩] kep,#[]⟩)
   (ks:(dk == PySem.sysModules)=false)
   {ku0_0 ku0_1 ku0_2:Tok} {kn0:Nat} {kq0:Option Addr} {ko0:Array (Option Value)}
   (km0:K.lookup kb0=some ⟨.type "tuple",kq0,.seq #[.str "name" ku0_0,.str "value" ku0_1,.str "slot" ku0_2] kn0,ko0⟩)
   {ku1_0:Tok} {kn1:Nat} {kq1:Option Addr} {ko1:Array (Option Value)}
   (km1:K.lookup kb1=some ⟨.type "tuple",kq1,.seq #[.str "name" ku1_0] kn1,ko1⟩)
   {ku2_0:Tok} {kn2:Nat} {kq2:Option Addr} {ko2:Array (Option Value)}
   (km2:K.lookup kb2=some ⟨.type "tuple",kq2,.seq #[.str "slot" ku2_0] kn2,ko2⟩)
   {ku3_0:Tok} {kn3:Nat} {kq3:Option Addr} {ko3:Array (Option Value)}
   (km3:K.lookup kb3=some ⟨.type "tuple",kq3,.seq #[.str "program" ku3_0] kn3,ko3⟩)
   {ku4_0:Tok} {kn4:Nat} {kq4:Option Addr} {ko4:Array (Option Value)}
   (km4:K.lookup kb4=some ⟨.type "tuple",kq4,.seq #[.str "program" ku4_0] kn4,ko4⟩)
   {ku5_0:Tok} {kn5:Nat} {kq5:Option Addr} {ko5:Array (Option Value)}
   (km5:K.lookup kb5=some ⟨.type "tuple",kq5,.seq #[.str "slot" ku5_0] kn5,ko5⟩)
   {ku6_0 ku6_1:Tok} {kn6:Nat} {kq6:Option Addr} {ko6:Array (Option Value)}
   (km6:K.lookup kb6=some ⟨.type "tuple",kq6,.seq #[.str "slot" ku6_0,.str "program" ku6_1] kn6,ko6⟩)
   {kn7:Nat} {kq7:Option Addr} {ko7:Array (Option Value)}
   (km7:K.lookup kb7=some ⟨.type "tuple",kq7,.seq #[] kn7,ko7⟩)
   (zNB:PySem.W.nsIn K PySem.cStatics PySem.sharingNotToldKey=some none)
   {tf:Tok}
   (gFI:PySem.W.nsIn K mainGlobals "FURTHER_IN"=some (some (.str "  " tf))) :
   ∃ fd:FuncData,(∀ (s:Shared) (v:Value),BindsTo s fd ⟨[v],[]⟩ [("_law_script",v)])∧∀ base:Heap,K.In base→base.Ns mainGlobals mg→Uq base mg→FnOk l.prog w K mg base ZI 16 fa fd ["_law_script"] (Va K):=by
 have e:=hfa.symm.trans (mg_of X G h_z22.a)
 cases e
 have n_len:=mg_none_of X G z_len
 have n_abs:=mg_none_of X G z_abs
 have n_int:=mg_none_of X G z_int
 have n_range:=mg_none_of X G z_range
 have n_min:=mg_none_of X G z_min
 have n_max:=mg_none_of X G z_max
 have n_repr:=mg_none_of X G z_repr
 have n_enumerate:=mg_none_of X G z_enumerate
 have n_ord:=mg_none_of X G z_ord
 have n_list:=mg_none_of X G z_list
 have n_tuple:=mg_none_of X G z_tuple
 have n_dict:=mg_none_of X G z_dict
 have n_sorted:=mg_none_of X G z_sorted
 have n_sum:=mg_none_of X G z_sum
 have n_all:=mg_none_of X G z_all
 have n_any:=mg_none_of X G z_any
 have n_divmod:=mg_none_of X G z_divmod
 have n_str:=mg_none_of X G z_str
 have n_isinstance:=mg_none_of X G z_isinstance
 have n_set:=mg_none_of X G z_set
 have n_zip:=mg_none_of X G z_zip
 have n_reversed:=mg_none_of X G z_reversed
 have n_bool:=mg_none_of X G z_bool
 have g_kd:=mg_of X G kd
 have g_gFI:=mg_of X G gFI
 have TB:ZY mg:=⟨n_len,n_abs,n_int,n_range,n_min,n_max,n_repr,n_enumerate,n_ord,n_list,n_tuple,n_dict,n_sorted,n_sum,n_all,n_any,n_divmod,n_str,n_isinstance,n_set,n_zip,n_reversed,n_bool⟩
 have TK:KDic K dk Yz:=⟨ks,_,_,_,kl,⟨rfl,rfl,rfl⟩,rfl,(.cons rfl ⟨_,rfl,_,_,_,km0,rfl,rfl,(show 3≤PySem.sizeLine by decide),(.cons ⟨_,rfl⟩ (.cons ⟨_,rfl⟩ (.cons ⟨_,rfl⟩ .nil)))⟩ (.cons rfl ⟨_,rfl,_,_,_,km1,rfl,rfl,(show 1≤PySem.sizeLine by decide),(.cons ⟨_,rfl⟩ .nil)⟩ (.cons rfl ⟨_,rfl,_,_,_,km2,rfl,rfl,(show 1≤PySem.sizeLine by decide),(.cons ⟨_,rfl⟩ .nil)⟩ (.cons rfl ⟨_,rfl,_,_,_,km3,rfl,rfl,(show 1≤PySem.sizeLine by decide),(.cons ⟨_,rfl⟩ .nil)⟩ (.cons rfl ⟨_,rfl,_,_,_,km4,rfl,rfl,(show 1≤PySem.sizeLine by decide),(.cons ⟨_,rfl⟩ .nil)⟩ (.cons rfl ⟨_,rfl,_,_,_,km5,rfl,rfl,(show 1≤PySem.sizeLine by decide),(.cons ⟨_,rfl⟩ .nil)⟩ (.cons rfl ⟨_,rfl,_,_,_,km6,rfl,rfl,(show 2≤PySem.sizeLine by decide),(.cons ⟨_,rfl⟩ (.cons ⟨_,rfl⟩ .nil))⟩ (.cons rfl ⟨_,rfl,_,_,_,km7,rfl,rfl,(show 0≤PySem.sizeLine by decide),.nil⟩ .nil))))))))⟩
 refine ⟨d_z22,fun s v=>Zbi h_z22.F (fun _ _ _ _ _ _ _=>rfl) s v,fun base _ _ hBm=>?_⟩
 have e:Bs l.prog w K mg base h:=⟨X,G⟩
 have D_z0:=h_z0.df e (Zcd h_z0.F TK g_kd) (h_z0.F.b1 fun _ _ _ _ _ _ _=>rfl)
 have D_z1:=h_z1.df e (ZdN h_z1.F D_z0) (h_z1.F.b1 fun _ _ _ _ _ _ _=>rfl)
 have D_z2:=h_z2.df e (ZbI h_z2.F D_z1) (h_z2.F.b1 fun _ _ _ _ _ _ _=>rfl)
 have b_z3:Binds K d_z3 ["thing"] []:=h_z3.F.b1 fun _ _ _ _ _ _ _=>rfl
 have DNu1:Zco l.prog w K mg base 1 "is_number" "thing" UZ:=⟨_,_,ZeC h_z3.F TB,b_z3,h_z3.F.kp,(mg_of X G h_z3.a)⟩
 have D_z4:=h_z4.df e (Zfx h_z4.F TB zNB DNu1) (h_z4.F.b1 fun _ _ _ _ _ _ _=>rfl)
 have D_z5:=h_z5.df e (Zfr h_z5.F TB D_z0) (h_z5.F.b1 fun _ _ _ _ _ _ _=>rfl)
 have D_z6:=h_z6.df e (ZeX h_z6.F TB D_z4 D_z5) (h_z6.F.b1 fun _ _ _ _ _ _ _=>rfl)
 have D_z7:=h_z7.df e (ZfC h_z7.F g_gFI) (h_z7.F.b1 fun _ _ _ _ _ _ _=>rfl)
 have b_z8:Binds K d_z8 ["program"] []:=h_z8.F.b1 fun _ _ _ _ _ _ _=>rfl
 have D_z8:Def l.prog w K mg base 14 "program_rows" WJ (Vw K 10):=⟨_,_,ZcV h_z8.F TB b_z8 h_z8.F.kp (mg_of X G h_z8.a) D_z2 D_z6 (D_z7.mono (by decide)) 10,b_z8,h_z8.F.kp,(mg_of X G h_z8.a)⟩
 have D_z9:=h_z9.df e (Zfs h_z9.F TB D_z8) (h_z9.F.b1 fun _ _ _ _ _ _ _=>rfl)
 have D_z10:=h_z10.df e (ZdX h_z10.F TB) (h_z10.F.b2 fun _ _ _ _ _ _ _ _=>rfl)
 have D_z11:=h_z11.df e (FnOk.conv (sp':=VO K) (Zec h_z11.F TB D_z10) (fun _ _ _ _ h=>Zfv h)) (h_z11.F.b2 fun _ _ _ _ _ _ _ _=>rfl)
 have b_z12:Binds K d_z12 ["_law_box_here","_law_many"] []:=h_z12.F.b2 fun _ _ _ _ _ _ _ _=>rfl
 have DT0:ZcX l.prog w K mg base:=⟨_,_,ZdO h_z12.F,b_z12,h_z12.F.kp,(mg_of X G h_z12.a)⟩
 have D_z12:UL l.prog w K mg base 1:=DT0.conv fun _ _ _ _ h=>ZeL h
 have D_z13:=h_z13.df e (Zcr h_z13.F TB D_z12) (h_z13.F.b2 fun _ _ _ _ _ _ _ _=>rfl)
 have D_z14:=h_z14.df e (FnOk.conv (sp':=WF) (Zcs h_z14.F TB DT0) (fun _ _ _ _ h=>Zdo h)) (h_z14.F.b1 fun _ _ _ _ _ _ _=>rfl)
 have D_z15:=h_z15.df e (Zfl h_z15.F TB (D_z12.mono (by decide)) D_z13) (h_z15.F.b2 fun _ _ _ _ _ _ _ _=>rfl)
 have D_z16:=h_z16.df e (Zfk h_z16.F TB (D_z12.mono (by decide)) D_z14) (h_z16.F.b1 fun _ _ _ _ _ _ _=>rfl)
 have b_z17:Binds K d_z17 ["_law_box_here","_law_names_here","_law_slots","_law_many","_law_blocks"] []:=h_z17.F.b5 fun _ _ _ _ _ _ _ _ _ _ _=>rfl
 have OPG:=ZcS h_z17.F TB b_z17 h_z17.F.kp (mg_of X G h_z17.a) (D_z12.mono (by decide)) D_z16
 have D_z17:Def l.prog w K mg base 10 "_law_program" XV (XQ K 6):=⟨_,_,OPG 6,b_z17,h_z17.F.kp,(mg_of X G h_z17.a)⟩
 have D_law_program0:Def l.prog w K mg base 4 "_law_program" XV (XQ K 0):=⟨_,_,OPG 0,b_z17,h_z17.F.kp,(mg_of X G h_z17.a)⟩
 have D_z18:=h_z18.df e (Zfu h_z18.F TB (D_z12.mono (by decide)) D_law_program0) (h_z18.F.b4 fun _ _ _ _ _ _ _ _ _ _=>rfl)
 have D_z19:=h_z19.df e (ZaZ h_z19.F TB) (h_z19.F.b1 fun _ _ _ _ _ _ _=>rfl)
 have b_z20:Binds K d_z20 ["_law_program_here","_law_blanks"] []:=h_z20.F.b2 fun _ _ _ _ _ _ _ _=>rfl
 have D_z20:Def l.prog w K mg base 12 "_law_rows" WH (Vp K 10):=⟨_,_,Zda h_z20.F TB b_z20 h_z20.F.kp (mg_of X G h_z20.a) D_z19 10,b_z20,h_z20.F.kp,(mg_of X G h_z20.a)⟩
 have D_z21:=h_z21.df e (ZeZ (k:=10) h_z21.F TB (D_z12.mono (by decide)) (D_z15.mono (by decide)) (D_z17.mono (by decide)) (D_z18.mono (by decide))) (h_z21.F.b2 fun _ _ _ _ _ _ _ _=>rfl)
 exact Zep (k:=15) h_z22.F TB (D_z11.mono (by decide)) (D_z21.mono (by decide)) (D_z20.mono (by decide)) (D_z9.mono (by decide))
theorem walk {l:PySem.W.OpenLaw}{q:Program}{loose:List Str}{XP:(Str→Option Value)→Heap→Prop}{YP:World→Heap→Prop}{d:DefRec}{K:Params→PySem.W.Frag}{ts:List Addr}(hn:l.most=some 63)(hdf:d.params.defaults=[])
   (hY:∀ (w:World) (h:Heap),YP w h→(K w.params).In h∧∀ b∈ts,h.get? b=some (PySem.W.tabObj #[]))
   (hK:∀ (w:World) (b:Addr),b∈ts→(K w.params).lookup b=none∧∃ c,PySem.W.codeHdIn (K w.params) c b=true)
   (F:∀ (w:World) (mg:Str→Option Value) (fa:Addr) (h:Heap),(K w.params).In h→h.Ns mainGlobals mg→mg d.name=some (.ref fa) →
     ∃ fd:FuncData,(∀ (s:Shared) (u:Value),BindsTo s fd ⟨[u],[]⟩ [("_law_script",u)])∧∀ base:Heap,(K w.params).In base→base.Ns mainGlobals mg→Uq base mg→FnOk l.prog w (K w.params) mg base ZI 16 fa fd ["_law_script"] (Va (K w.params))) :
   PySem.W.WalkO q loose XP YP l.row.toRowW d [] (fun f vs=>PySem.call f vs) :=
 L2.walk_ofT (n:=63) (k:=16) (x:="_law_script") (CX:=fun _=>ZI) (sp:=fun w=>Va (K w.params)) (ts:=ts) hn (by decide) hdf ⟨rfl,by decide,by decide,rfl⟩ hY hK F (fun w H a ns hl hO hS hT=>⟨a,ns,rfl,hS,hl,fun _=>rfl⟩) fun _ _ _ _ _ z=>z
end K67
namespace PySem.W.Fast
end PySem.W.Fast
open PySem PySem.W PyProof.Rows
set_option maxRecDepth 100000 in
set_option maxHeartbeats 0 in
theorem PySem.Challenge.cw_roadsettings_k67_programs_written_holds : PySem.Challenge.rw_roadsettings_k67_programs_written.Holds := by
  w_on; o_law; k_head; (case hw => w_witness2)
  k_fill
  refine' K67.walk (l := PySem.Challenge.rw_roadsettings_k67_programs_written) (ts := []) rfl rfl (fun w h Y => ⟨PySem.W.kIn_of Y, fun b hb => absurd hb (by simp)⟩) ?hK  ?F
  case hK =>
    intro w b hb
    exact absurd hb (by simp)
  case F =>
    intro w mg fa h KX G hmg
    refine' K67.all_mk KX G hmg ?_ ?_ ?_ ?_ ?_ ?_ ?_ ?_ ?_ ?_ ?_ ?_ ?_ ?_ ?_ ?_ ?_ ?_ ?_ ?_ ?_ ?_ ?_ ?_ ?_ ?_ ?_ ?_ ?_ ?_ ?_ ?_ ?_ ?_ ?_ ?_ ?_ ?_ ?_ ?_ ?_ ?_ ?_ ?_ ?_ ?_ ?_ ?_ ?_ ?_ ?_ ?_ ?_ ?_ ?_ ?_ ?_ ?_ ?_
    all_goals try (first | refine ⟨⟨by k_is, by k_is, by k_is⟩, ⟨_, _, _, _, _, _, _, _, _, rfl, by k_is, by k_is⟩, by k_is⟩ | refine ⟨by k_is, ⟨_, _, _, _, _, _, _, _, _, rfl, by k_is, by k_is⟩, by k_is⟩ | refine ⟨by k_is, ⟨by k_is, by k_is, by k_is, by k_is⟩, by k_is, by k_is⟩ | refine ⟨⟨by k_is, by k_is, by k_is⟩, ⟨_, _, _, _, _, _, _, _, rfl, by k_is, by k_is⟩, by k_is, by kernel_rfl⟩ | refine ⟨by k_is, ⟨_, _, _, _, _, _, _, _, rfl, by k_is, by k_is⟩, by k_is, by kernel_rfl⟩ | (show _ = _; first | k_is | kernel_rfl))
