import PyProof.Rows.All
import Wide.All
import OpenK.AllK
import Wide.FinOn
import Lean
import PyProof.EqAt
import PyProof.EqKinds
import PyProof.TupleCall
import PyProof.AutoListH
import PyProof.ExcBaseAll.ValueError
import PyProof.ExcAttrAll.ValueError
import PySem.Challenge.RW_roadsettings_k54_programs_or_not
set_option Elab.async false
set_option linter.all false
set_option maxRecDepth 100000
namespace L2
open PySem PySem.Spec PyProof.Rows
abbrev YR:=Sum Int Str
def Zdh:YR→Value→Bool
 | .inl k,v=>Value.isInt k v
 | .inr x,v=>Value.isStrOf x v
def keyH (w:World):YR→Int
 | .inl k=>hashInt k
 | .inr x=>hashStr w x
theorem Yc:∀{k:YR}{v:Value},Zdh k v=true→(∃ i t,k=Sum.inl i∧v=Value.int i t)∨(∃ x t,k=Sum.inr x∧v=Value.str x t)
 | .inl i,v,h=>by
   obtain ⟨t,e⟩:=Value.isInt_shape (k:=i) (v:=v) h
   exact .inl ⟨i,t,rfl,e⟩
 | .inr x,v,h=>by
   obtain ⟨t,e⟩:=Value.isStrOf_shape (x:=x) (v:=v) h
   exact .inr ⟨x,t,rfl,e⟩
theorem Zeu (a b:Int):decide ((Sum.inl a:YR)=Sum.inl b)=(a == b):=by
 by_cases e:a=b
 · subst e;simp
 · have h:¬ (Sum.inl a:YR)=Sum.inl b:=fun q=>e (Sum.inl.inj q)
   rw [decide_eq_false h]
   exact (beq_eq_false_iff_ne.mpr e).symm
theorem ZeF (a b:Str):decide ((Sum.inr a:YR)=Sum.inr b)=decide (a=b):=by
 by_cases e:a=b
 · subst e;simp
 · have h:¬ (Sum.inr a:YR)=Sum.inr b:=fun q=>e (Sum.inr.inj q)
   rw [decide_eq_false h,decide_eq_false e]
theorem Zed (a:Int)(b:Str):decide ((Sum.inl a:YR)=Sum.inr b)=false:=decide_eq_false (fun q=>nomatch q)
theorem Zej (a:Str)(b:Int):decide ((Sum.inr a:YR)=Sum.inl b)=false:=decide_eq_false (fun q=>nomatch q)
def Ux (prog:Program)(w:World):PySem.KeyKind prog w YR where
 is:=Zdh
 hash:=keyH w
 inj := fun v a b ha hb=>by
   rcases Yc ha with ⟨i,t,rfl,rfl⟩ | ⟨x,t,rfl,rfl⟩
   · rcases Yc hb with ⟨j,u,rfl,e⟩ | ⟨y,u,rfl,e⟩
     · injection e with e1 _;rw [e1]
     · exact nomatch e
   · rcases Yc hb with ⟨j,u,rfl,e⟩ | ⟨y,u,rfl,e⟩
     · exact nomatch e
     · injection e with e1 _;rw [e1]
 byValue:=fun k v h=>by
   rcases Yc h with ⟨i,t,rfl,rfl⟩ | ⟨x,t,rfl,rfl⟩<;>rfl
 pyHash:=fun hv h=>by
   rcases Yc hv with ⟨i,t,rfl,rfl⟩ | ⟨x,t,rfl,rfl⟩
   · exact wpAny_pyHash_int h
   · exact wpAny_pyHash_str h
 eqBool:=fun hu hv h=>by
   rcases Yc hu with ⟨i,t,rfl,rfl⟩ | ⟨x,t,rfl,rfl⟩
   · rcases Yc hv with ⟨j,u,rfl,rfl⟩ | ⟨y,u,rfl,rfl⟩
     · rw [Zeu] at h;exact wpAny_eqBool_int h
     · rw [Zed] at h;exact SeqAt.EqAt.int_str i t y u _ _ _ _ h
   · rcases Yc hv with ⟨j,u,rfl,rfl⟩ | ⟨y,u,rfl,rfl⟩
     · rw [Zej] at h;exact SeqAt.EqAt.str_int x t j u _ _ _ _ h
     · rw [ZeF] at h;exact wpAny_eqBool_str h
 «strs»:=fun k x t v h=>by
   rcases Yc h with ⟨i,u,rfl,e⟩ | ⟨y,u,rfl,e⟩
   · exact nomatch e
   · injection e with e1 _
     subst e1
     cases v<;>rfl
end L2
namespace L2
open PySem PySem.Spec PyProof.Rows
inductive V where
 | non | bl (b:Bool) | int (i:Int) | str (x:Str) | byt (b:Array UInt8) | flt (b:UInt64) | ref (a:Addr) | ty (n:String)
 deriving DecidableEq
def RelV:V→Value→Prop
 | .non,u=>u=Value.none
 | .bl b,u=>u=Value.bool b
 | .int i,u=>∃ t,u=Value.int i t
 | .str x,u=>∃ t,u=Value.str x t
 | .byt b,u=>∃ t,u=Value.bytes b t
 | .flt b,u=>∃ t,u=Value.float b t
 | .ref a,u=>u=Value.ref a
 | .ty n,u=>u=Value.type n
abbrev Vals:List V→List Value→Prop:=Paired RelV
theorem Vals.length {xs:List V}{us:List Value}(r:Vals xs us):xs.length=us.length:=Paired.length r
theorem Vals.get:∀{xs:List V}{us:List Value}{i:Nat}{x:V},Vals xs us→xs[i]?=some x→∃ u,us[i]?=some u∧RelV x u
 | _,_,_,_,.nil,e=>by simp at e
 | _,_,0,_,.cons r _,e=>by simp at e;subst e;exact ⟨_,rfl,r⟩
 | _,_,i+1,x,.cons _ t,e=>by
   obtain ⟨u,h1,h2⟩:=Vals.get (i:=i) (x:=x) t (by simpa using e)
   exact ⟨u,by simpa using h1,h2⟩
theorem Vals.set {x:V}{u:Value}(r:RelV x u):∀{xs:List V}{us:List Value}(i:Nat),Vals xs us→Vals (xs.set i x) (us.set i u)
 | _,_,_,.nil=>.nil
 | _,_,0,.cons _ t=>.cons r t
 | _,_,i+1,.cons q t=>.cons q (Vals.set r i t)
theorem Vals.append:∀{xs ys:List V}{us ws:List Value},Vals xs us→Vals ys ws→Vals (xs++ys) (us++ws)
 | _,_,_,_,.nil,s=>s
 | _,_,_,_,.cons r t,s=>.cons r (Vals.append t s)
theorem Vals.take:∀{xs:List V}{us:List Value}(n:Nat),Vals xs us→Vals (xs.take n) (us.take n)
 | _,_,0,_=>.nil
 | _,_,_+1,.nil=>.nil
 | _,_,n+1,.cons r t=>.cons r (Vals.take n t)
theorem Vals.drop:∀{xs:List V}{us:List Value}(n:Nat),Vals xs us→Vals (xs.drop n) (us.drop n)
 | _,_,0,r=>r
 | _,_,_+1,.nil=>.nil
 | _,_,n+1,.cons _ t=>Vals.drop n t
def ZcF:Option V→Option Value→Prop
 | some v,some u=>RelV v u
 | none,none=>True
 | _,_=>False
def KV {κ:Type}:List (κ×V)→List (κ×Value)→Prop:=Paired fun (p:κ×V) (q:κ×Value)=>p.1=q.1∧RelV p.2 q.2
def kV:YR→V
 | .inl i=>.int i
 | .inr x=>.str x
inductive HO where
 | lst (xs:List V)
 | tup (xs:List V)
 | dK (kvs:List (YR×V)) | dT (kvs:List (List YR×V))
 | set (S:Int→Bool) (n:Nat)
 | ins (C dx:Addr) (fs:List (Str×V))
 | own (x:Addr)
 | xd (fs:List (Str×V))
 | met (f x:Addr)
 | rng (lo hi:Int)
 | frz (o:Obj) (u:HO)
 | tbl (ps:Array Value)
 | ext (φ:Heap→Prop)
abbrev Hp:=Addr→Option HO
def upd (H:Hp)(a:Addr)(o:HO):Hp:=fun b=>if b=a then some o else H b
theorem Zh {H:Hp}{a:Addr}{o:HO}:upd H a o a=some o:=by unfold upd;rw [if_pos rfl]
theorem ZA {H:Hp}{a b:Addr}{o:HO}(h:b≠a):upd H a o b=H b:=by unfold upd;rw [if_neg h]
theorem ZdV {H:Hp}{a:Addr}{o u:HO}:upd (upd H a o) a u=upd H a u:=by
 funext b;unfold upd;split<;>rfl
theorem Zds {H:Hp}{a b:Addr}{o u:HO}(h:H a=some o)(h':H b=some u)(d:o≠u):a≠b:=by
 intro e;subst e;rw [h] at h';exact d (Option.some.inj h')
theorem ZL {H:Hp}{a b:Addr}{o:HO}(h:H a=some o)(h':H b=none):a≠b:=by
 intro e;subst e;rw [h] at h';cases h'
section
variable (P:Program)(w:World)
def ObjOk (H:Hp)(h:Heap)(a:Addr):HO→Prop
 | .lst xs=>xs.length≤sizeLine∧∃ (its:List Value) (n:Nat),Vals xs its∧h.get? a=some { cls:=.type "list",data:=.seq its.toArray n }
 | .tup xs=>xs.length≤sizeLine∧∃ its:List Value,Vals xs its∧IsTup h a its.toArray
 | .dK kvs=>kvs.length≤sizeLine∧(a == sysModules)=false∧∃ vs,KV kvs vs∧h.DictOf (Ux P w) a vs
 | .dT kvs=>kvs.length≤sizeLine∧(a == sysModules)=false∧∃ xs:List (List YR×Addr×Value),
     Paired (fun (p:List YR×V) (q:List YR×Addr×Value)=>p.1=q.1∧H q.2.1=some (.tup (p.1.map kV))∧RelV p.2 q.2.2) kvs xs ∧
     ∃ o es ep,h.get? a=some o∧o.ExactDict∧o.data=.dict es ep∧es.toList=xs.map (entryOfKey (tupleKind (Ux P w)))∧(xs.map (·.1)).Nodup
 | .set S n=>h.SetOf (intKind P w) a S n
 | .ins C dx fs=>H dx=some (.own a)∧fs.length≤1000∧dx≠a∧h.get? a=some (PySem.W.instObj C dx) ∧
     ∃ mA,h.Ns1 dx mA∧(∀ f,ZcF (fs.lookup f) (mA f))∧PySem.Within mA (fs.map (·.1))
 | .own _=>∃ o,h.get? a=some o
 | .xd fs=>∃ mA,h.Ns1 a mA∧∀ f,ZcF (fs.lookup f) (mA f)
 | .rng lo hi=>∃ t u v,h.get? a=some { cls:=.type "range",data:=.fields #[.int lo t,.int hi u,.int 1 v] }
 | .frz o u=>h.get? a=some o∧ObjOk H h a u
 | .tbl ps=>h.get? a=some { cls:=.none,data:=.fields ps }
 | .met f x=>h.get? a=some (PySem.W.methodObj (.ref f) (.ref x))
 | .ext φ=>φ h∧(∃ o,h.get? a=some o)∧∀ h1 h2:Heap,φ h1→(∀ o,h1.get? a=some o→h2.get? a=some o)→φ h2
def HOk (H:Hp)(h:Heap):Prop:=∀ a o,H a=some o→ObjOk P w H h a o
end
section
variable {P:Program}{w:World}{H H':Hp}{h h':Heap}{a:Addr}{o:HO}
theorem ObjOk.lt (x:ObjOk P w H h a o):a < h.objs.size:=by
 cases o with
 | lst xs=>obtain ⟨_,_,_,_,e⟩:=x;exact Heap.lt_size e
 | tup xs=>obtain ⟨_,_,_,p⟩:=x;exact p.lt
 | dK kvs=>obtain ⟨_,_,_,_,o,_,_,e,_⟩:=x;exact Heap.lt_size e
 | dT kvs=>obtain ⟨_,_,_,_,o,_,_,e,_⟩:=x;exact Heap.lt_size e
 | set S n=>obtain ⟨o,_,_,_,e,_⟩:=x;exact Heap.lt_size e
 | ins C dx fs=>obtain ⟨_,_,_,e,_⟩:=x;exact Heap.lt_size e
 | own y=>obtain ⟨_,e⟩:=x;exact Heap.lt_size e
 | xd fs=>obtain ⟨_,⟨_,_,_,e,_⟩,_⟩:=x;exact Heap.lt_size e
 | rng lo hi=>obtain ⟨_,_,_,e⟩:=x;exact Heap.lt_size e
 | frz ob u=>obtain ⟨e,_⟩:=x;exact Heap.lt_size e
 | tbl ps=>exact Heap.lt_size (show h.get? a=some _ from x)
 | met f y=>exact Heap.lt_size (show h.get? a=some _ from x)
 | ext φ=>obtain ⟨_,⟨_,e⟩,_⟩:=x;exact Heap.lt_size e
theorem Paired.mapP {α β:Type}{F G:α→β→Prop}:∀{l₁:List α}{l₂:List β},Paired F l₁ l₂→(∀ a b,F a b→G a b)→Paired G l₁ l₂
 | _,_,.nil,_=>.nil
 | _,_,.cons r t,f=>.cons (f _ _ r) (Paired.mapP t f)
theorem ObjOk.stay (x:ObjOk P w H h a o)(k:∀ b u,(b=a∨H b=some (.own a))→h.get? b=some u→h'.get? b=some u)
   (ho:∀ b,H b=some (.own a)→H' b=some (.own a)) (ht:∀ b xs,H b=some (.tup xs)→H' b=some (.tup xs)):ObjOk P w H' h' a o:=by
 induction o with
 | lst xs=>obtain ⟨z,its,n,r,e⟩:=x;exact ⟨z,its,n,r,k _ _ (.inl rfl) e⟩
 | tup xs=>obtain ⟨z,its,r,ob,e,c⟩:=x;exact ⟨z,its,r,ob,k _ _ (.inl rfl) e,c⟩
 | dK kvs=>obtain ⟨z,y,vs,r,ob,es,ep,e,c⟩:=x;exact ⟨z,y,vs,r,ob,es,ep,k _ _ (.inl rfl) e,c⟩
 | dT kvs =>
   obtain ⟨z,y,xs,r,ob,es,ep,e,c⟩:=x
   exact ⟨z,y,xs,Paired.mapP r fun p q z=>⟨z.1,ht _ _ z.2.1,z.2.2⟩,ob,es,ep,k _ _ (.inl rfl) e,c⟩
 | set S n=>obtain ⟨ob,es,ep,t,e,c⟩:=x;exact ⟨ob,es,ep,t,k _ _ (.inl rfl) e,c⟩
 | ins C dx fs =>
   obtain ⟨d,z,ne,e,mA,⟨od,es,ep,e2,c⟩,r⟩:=x
   exact ⟨ho _ d,z,ne,k _ _ (.inl rfl) e,mA,⟨od,es,ep,k _ _ (.inr d) e2,c⟩,r⟩
 | own y=>obtain ⟨ob,e⟩:=x;exact ⟨ob,k _ _ (.inl rfl) e⟩
 | xd fs=>obtain ⟨mA,⟨od,es,ep,e,c⟩,r⟩:=x;exact ⟨mA,⟨od,es,ep,k _ _ (.inl rfl) e,c⟩,r⟩
 | rng lo hi=>obtain ⟨t,u,v,e⟩:=x;exact ⟨t,u,v,k _ _ (.inl rfl) e⟩
 | frz ob u ih=>obtain ⟨e,q⟩:=x;exact ⟨k _ _ (.inl rfl) e,ih q⟩
 | tbl ps =>
   have e:h.get? a=some { cls:=.none,data:=.fields ps }:=x
   show h'.get? a=some { cls:=.none,data:=.fields ps }
   exact k a _ (.inl rfl) e
 | met f y =>
   have e:h.get? a=some (PySem.W.methodObj (.ref f) (.ref y)):=x
   show h'.get? a=some (PySem.W.methodObj (.ref f) (.ref y))
   exact k a _ (.inl rfl) e
 | ext φ=>obtain ⟨p,⟨o,e⟩,st⟩:=x;exact ⟨st _ _ p fun o q=>k _ _ (.inl rfl) q,⟨o,k _ _ (.inl rfl) e⟩,st⟩
theorem HOk.lt (x:HOk P w H h)(e:H a=some o):a < h.objs.size:=(x a o e).lt
theorem HOk.fresh (x:HOk P w H h)(e:h.objs.size≤a):H a=none:=by
 cases q:H a with
 | none=>rfl
 | some u=>exact absurd (Nat.lt_of_lt_of_le (x.lt q) e) (Nat.lt_irrefl _)
theorem HOk.kept (x:HOk P w H h)(k:∀ b u,h.get? b=some u→h'.get? b=some u):HOk P w H h':=fun a o e =>
 (x a o e).stay (fun b u _ q=>k b u q) (fun _ q=>q) fun _ _ q=>q
theorem HOk.laid (x:HOk P w H h)(k:∀ b u,h.get? b=some u→h'.get? b=some u)(hp:h.objs.size≤a)(new:ObjOk P w (upd H a o) h' a o):HOk P w (upd H a o) h':=fun b u e=>by
 have hn:=x.fresh hp
 by_cases hb:b=a
 · subst hb;rw [Zh] at e;cases e;exact new
 · rw [ZA hb] at e
   exact (x b u e).stay (fun c v _ q=>k c v q) (fun c q=>by rw [ZA (ZL q hn)];exact q) fun c xs q=>by rw [ZA (ZL q hn)];exact q
end
def Rd (H:Hp)(a:Addr)(u:HO):Prop:=H a=some u∨∃ o,H a=some (.frz o u)
theorem Rd.ok {P:Program}{w:World}{H:Hp}{h:Heap}{a:Addr}{u:HO}(r:Rd H a u)(x:HOk P w H h):ObjOk P w H h a u:=by
 rcases r with r | ⟨o,r⟩
 · exact x a u r
 · obtain ⟨_,q⟩:=x a _ r
   exact q
def Mut:Option HO→Prop
 | some (.lst _)=>True
 | some (.dK _)=>True
 | some (.dT _)=>True
 | some (.set _ _)=>True
 | some (.ins _ _ _)=>True
 | some (.ext _)=>True
 | _=>False
section
variable {P:Program}{w:World}{H:Hp}{h h':Heap}{x e:Addr}{o':HO}
theorem HOk.write (ok:HOk P w H h)(mu:Mut (H x))(he:e=x∨H e=some (.own x))(k:∀ b u,b≠e→h.get? b=some u→h'.get? b=some u)(heo:∃ u,h'.get? e=some u)
   (new:ObjOk P w (upd H x o') h' x o'):HOk P w (upd H x o') h':=fun b u q=>by
 have nown:∀ c y,H c=some (.own y)→c≠x:=fun c y r z=>by subst z;rw [r] at mu;exact mu
 have ntup:∀ c xs,H c=some (.tup xs)→c≠x:=fun c xs r z=>by subst z;rw [r] at mu;exact mu
 by_cases hb:b=x
 · subst hb;rw [Zh] at q;cases q;exact new
 · rw [ZA hb] at q
   by_cases hbe:b=e
   · have q':H b=some (.own x):=by
       rcases he with z | z
       · exact absurd (hbe.trans z) hb
       · rw [hbe];exact z
     rw [q] at q';cases q'
     obtain ⟨v,hv⟩:=heo
     exact ⟨v,by rw [hbe];exact hv⟩
   · refine (ok b u q).stay (fun c v hc r=>k c v ?_ r) (fun c r=>by rw [ZA (nown c b r)];exact r) fun c xs r=>by rw [ZA (ntup c xs r)];exact r
     rcases hc with rfl | hc
     · exact hbe
     · rintro rfl
       rcases he with z | z
       · exact nown c b hc z
       · rw [hc] at z;cases z;exact hb rfl
end
structure Un (fs ex:List Addr)(H H':Hp)(h h':Heap):Prop where
 keep:∀ b o,h.get? b=some o→H b=none→b ∉ fs→b ∉ ex→h'.get? b=some o
 slot:∀ b o,h.get? b=some o→H b=none→b∈fs→b ∉ ex→∃ sl,h'.get? b=some { o with slots:=sl }
 free:∀ b o,h.get? b=some o→H b=none→b ∉ ex→H' b=none
 there:∀ b o,h.get? b=some o→b ∉ ex→∃ o',h'.get? b=some o'
 tups:∀ b xs,H b=some (.tup xs)→H' b=some (.tup xs)
 frzs:∀ b o u,H b=some (.frz o u)→H' b=some (.frz o u)
 tbls:∀ b ps,H b=some (.tbl ps)→∃ more,H' b=some (.tbl (ps++more))
section
variable {fs fs' ex ex':List Addr}{H H1 H2:Hp}{h h1 h2 h':Heap}{a x e:Addr}{o:HO}
theorem Un.any (u:Un fs ex H H1 h h1){b:Addr}{ob:Obj}(q:h.get? b=some ob)(n:H b=none)(hx:b ∉ ex):∃ sl,h1.get? b=some { ob with slots:=sl }:=by
 by_cases hb:b∈fs
 · exact u.slot b ob q n hb hx
 · exact ⟨ob.slots,u.keep b ob q n hb hx⟩
theorem Un.kept (k:∀ b u,h.get? b=some u→h'.get? b=some u):Un fs ex H H h h' :=
 ⟨fun b ob q _ _ _=>k b ob q,fun b ob q _ _ _=>⟨ob.slots,k b ob q⟩,fun _ _ _ n _=>n,fun b ob q _=>⟨ob,k b ob q⟩,fun _ _ q=>q,fun _ _ _ q=>q,fun _ ps q=>⟨#[],by rw [q];simp⟩⟩
theorem Un.refl:Un fs ex H H h h:=Un.kept fun _ _ q=>q
theorem Un.laid (k:∀ b u,h.get? b=some u→h'.get? b=some u)(hp:h.objs.size≤a)(hn:H a=none):Un fs ex H (upd H a o) h h' where
 keep:=fun b u q _ _ _=>k b u q
 slot:=fun b u q _ _ _=>⟨u.slots,k b u q⟩
 free:=fun b u q n _=>by rw [ZA (Nat.ne_of_lt (Nat.lt_of_lt_of_le (Heap.lt_size q) hp))];exact n
 there:=fun b u q _=>⟨u,k b u q⟩
 tups:=fun b xs q=>by rw [ZA (ZL q hn)];exact q
 frzs:=fun b u xs q=>by rw [ZA (ZL q hn)];exact q
 tbls:=fun b ps q=>⟨#[],by rw [ZA (ZL q hn),q];simp⟩
theorem Un.write (mu:Mut (H x))(he:e=x∨H e=some (.own x))(k:∀ b u,b≠e→h.get? b=some u→h'.get? b=some u)(heo:∃ u,h'.get? e=some u):Un fs ex H (upd H x o) h h':=by
 have hx:∀ b,H b=none→b≠x:=fun b n z=>by subst z;rw [n] at mu;exact mu
 have hb:∀ b,H b=none→b≠e:=fun b n z=>by
   subst z
   rcases he with r | r
   · exact hx b n r
   · rw [n] at r;cases r
 have hm:∀ b u,H b=some u→¬ Mut (some u)→b≠x:=fun b u q nm z=>by subst z;rw [q] at mu;exact nm mu
 refine ⟨fun b u q n _ _=>k b u (hb b n) q,fun b u q n _ _=>⟨u.slots,k b u (hb b n) q⟩,fun b u q n _=>by rw [ZA (hx b n)];exact n,fun b u q _=>?_,
   fun b xs q=>by rw [ZA (hm b _ q fun z=>z)];exact q,fun b u xs q=>by rw [ZA (hm b _ q fun z=>z)];exact q,fun b ps q=>⟨#[],by rw [ZA (hm b _ q fun z=>z),q];simp⟩⟩
 by_cases hbe:b=e
 · subst hbe;exact heo
 · exact ⟨u,k b u hbe q⟩
end
def trk (h:Heap)(H:Hp):List Addr:=(List.range h.objs.size).filter fun a=>(H a).isSome
def XU (h:Heap)(H:Hp):Heap:=PySem.W.hideAll h (trk h H)
theorem Zca (h:Heap)(H:Hp):(XU h H).objs.size=h.objs.size:=PySem.W.hideAll_size _ _
theorem ZcL {h:Heap}{H:Hp}{b:Addr}{o:Obj}(e:h.get? b=some o)(n:H b=none):(XU h H).get? b=some o :=
 PySem.W.hideAll_get _ e fun hm=>by
   have q:(H b).isSome=true:=(List.mem_filter.mp hm).2
   rw [n] at q;simp at q
theorem ZdD {h:Heap}{H:Hp}{b:Addr}{o:Obj}(e:(XU h H).get? b=some o):h.get? b=some o∧H b=none:=by
 have e':h.get? b=some o:=PySem.W.of_hideAll (trk h H) e
 refine ⟨e',?_⟩
 cases q:H b with
 | none=>rfl
 | some x =>
   have hm:b∈trk h H:=List.mem_filter.mpr ⟨List.mem_range.mpr (Heap.lt_size e'),by simp [q]⟩
   have z:(XU h H).get? b=none:=PySem.W.hideAll_none (trk h H) hm
   rw [z] at e;cases e
end L2
namespace L2
open PySem PySem.Spec PyProof.Rows
structure Mod (K:PySem.W.Frag)(mg:Str→Option Value)(base:Heap):Prop where
 kin:K.In base
 glob:base.Ns mainGlobals mg
 blt:∃ mb,base.Ns builtinsNs mb∧∀ x:Str,x≠"__name__"→mb x=bootBuiltins x
 nolimit:base.NoLimit
structure Cx where
 prog:Program
 w:World
 K:PySem.W.Frag
 mg:Str→Option Value
 base:Heap
 A:Around
 N:List Str
 s₀:Shared
 H₀:Hp
 env:Env
 outer:List Env
 stack:List Env
 ex:List Addr
 fn:Str→Bool
 calm:Bool
 pn:List (Addr×Obj)
 xe:Value→Shared→Prop
def WB (l:List Env):List Addr:=l.filterMap (·.frame)
abbrev Cx.fs (X:Cx):List Addr:=WB X.outer
def Vis (sc:Scope)(x:Str):Prop:=sc.names.lookup x=some .local∨sc.names.lookup x=some .cell∨sc.names.lookup x=some .free
def Loc (sc:Scope)(x:Str):Prop:=sc.names.lookup x=some .local∨sc.names.lookup x=some .cell
def Look (env:Env)(h:Heap)(m:Str→Option Value)(x:Str)(u:Value):Prop :=
 (env.kindOf x=some .local∧m x=some u)∨((env.kindOf x=some .cell∨env.kindOf x=some .free)∧∃ c,env.cells.lookup x=some c∧h.IsCell c (some u))
structure Cx.Ok (X:Cx):Prop where
 mod:Mod X.K X.mg X.base
 kind:X.env.scope.kind=.function
 glob:X.env.globals=mainGlobals
 blt:X.env.builtins=builtinsNs
 above:X.s₀.heap.objs.size≤X.env.locals
 inj:∀ x y c,X.env.cells.lookup x=some c→X.env.cells.lookup y=some c→x=y
 has:∀ x,(X.env.kindOf x=some .cell∨X.env.kindOf x=some .free)→∃ c,X.env.cells.lookup x=some c
 cab:∀ x c,X.fn x=true→X.env.cells.lookup x=some c→X.s₀.heap.objs.size≤c
 hd:X.calm=true→X.A.handled=none
 frames:X.A.frames=some X.stack
 stk:X.stack=X.outer∨(X.stack=X.env::X.outer∧X.env.frame=some X.env.locals)
 exf:∀ b∈X.ex,b≠X.env.locals∧∀ x c,X.env.cells.lookup x=some c→c≠b
 bs:∀ b o,X.base.get? b=some o→X.s₀.heap.get? b=some o∧X.H₀ b=none
 bsz:X.base.objs.size≤X.s₀.heap.objs.size
 noex:∀ b o,X.base.get? b=some o→b ∉ X.ex
 exfs:∀ b∈X.ex,b ∉ X.fs
 funs:X.s₀.heap.FunFrames X.base X.outer
 frf:∀ b∈X.fs,X.H₀ b=none
structure Inv (X:Cx)(pins:List (Addr×Obj))(σ:List (Option V))(H:Hp)(s:Shared):Prop where
 ok:X.Ok
 os:s.os=X.s₀.os
 bare:AllBare s.gens
 base:Un X.fs X.ex X.H₀ H X.s₀.heap s.heap
 loc:∃ m,s.heap.Ns X.env.locals m∧∀ (i:Nat) (x:Str) (v:V),X.N[i]?=some x→σ[i]?=some (some v)→Vis X.env.scope x→∃ u,RelV v u∧Look X.env s.heap m x u
 cell:∀ x c,X.env.cells.lookup x=some c→∃ v,s.heap.IsCell c v
 free:H X.env.locals=none
 freeC:∀ x c,X.env.cells.lookup x=some c→H c=none
 pin:∀ p∈X.pn++pins,s.heap.get? p.1=some p.2∧H p.1=none∧p.1≠X.env.locals∧p.1 ∉ X.fs∧∀ v,p.2.data≠.cell v
 hok:HOk X.prog X.w H s.heap
 len:σ.length=X.N.length
section
variable {X:Cx}{pins:List (Addr×Obj)}{σ:List (Option V)}{H H':Hp}{s:Shared}{h':Heap}
theorem Cx.Ok.nofr (ok:X.Ok){b:Addr}{o:Obj}(e:X.base.get? b=some o):b ∉ X.fs:=fun hb=>by
 have:=(ok.funs.mem hb).1
 rw [e] at this;cases this
theorem Inv.bs (I:Inv X pins σ H s):∀ b o,X.base.get? b=some o→s.heap.get? b=some o∧H b=none:=fun b o e =>
 ⟨I.base.keep b o (I.ok.bs b o e).1 (I.ok.bs b o e).2 (I.ok.nofr e) (I.ok.noex b o e),I.base.free b o (I.ok.bs b o e).1 (I.ok.bs b o e).2 (I.ok.noex b o e)⟩
theorem Inv.bk (I:Inv X pins σ H s):∀ b o,X.base.get? b=some o→s.heap.get? b=some o:=fun b o e=>(I.bs b o e).1
theorem Inv.mod (I:Inv X pins σ H s):Mod X.K X.mg X.base:=I.ok.mod
theorem Inv.kIn (I:Inv X pins σ H s):X.K.In s.heap:=I.ok.mod.kin.keeps I.bk
theorem Inv.lt (I:Inv X pins σ H s):X.env.locals < s.heap.objs.size:=let ⟨_,hn,_⟩:=I.loc;hn.lt
theorem Inv.sz (I:Inv X pins σ H s):X.s₀.heap.objs.size≤s.heap.objs.size:=Nat.le_trans I.ok.above (Nat.le_of_lt I.lt)
theorem Inv.nofs (I:Inv X pins σ H s){a:Addr}(h:s.heap.objs.size≤a):a ∉ X.fs:=fun hb=>by
 obtain ⟨_,o,ho,_⟩:=I.ok.funs.mem hb
 exact absurd (Nat.lt_of_lt_of_le (Heap.lt_size ho) (Nat.le_trans I.sz h)) (Nat.lt_irrefl _)
theorem Inv.cne (I:Inv X pins σ H s):∀ x c,X.env.cells.lookup x=some c→c≠X.env.locals:=fun x c e z=>by
 obtain ⟨v,o,ho,hd⟩:=I.cell x c e
 obtain ⟨m,⟨o',es,ep,ho',hd',_⟩,_⟩:=I.loc
 rw [z,ho'] at ho;cases ho;rw [hd'] at hd;cases hd
theorem Inv.funs (I:Inv X pins σ H s):s.heap.FunFrames X.base X.outer:=by
 have all:∀ (l:List Env),(∀ b∈WB l,b∈X.fs)→X.s₀.heap.FunFrames X.base l→s.heap.FunFrames X.base l:=by
   intro l
   induction l with
   | nil=>intro _ _;trivial
   | cons env r ih =>
     intro hs hl
     obtain ⟨hk,⟨L,o,hf,hn,ho,hd⟩,hr⟩:=hl
     have hL:L∈X.fs:=hs L (by unfold WB;rw [List.filterMap_cons,hf];exact List.mem_cons_self)
     obtain ⟨sl,e⟩:=I.base.slot L o ho (I.ok.frf L hL) hL fun z=>I.ok.exfs L z hL
     exact ⟨hk,⟨L,_,hf,hn,e,hd⟩,ih (fun b hb=>hs b (by unfold WB;rw [List.filterMap_cons,hf];exact List.mem_cons_of_mem _ hb)) hr⟩
 exact all X.outer (fun _ hb=>hb) I.ok.funs
theorem Inv.stack (I:Inv X pins σ H s):s.heap.FunFrames X.base X.stack:=by
 rcases I.ok.stk with e | ⟨e,hf⟩
 · rw [e];exact I.funs
 · rw [e]
   obtain ⟨m,hn,_⟩:=I.loc
   refine .cons (by rw [I.ok.kind];decide) hf hn ?_ I.funs
   exact Heap.get?_none_of_le (Nat.le_trans I.ok.bsz I.ok.above)
theorem Inv.stkSub (I:Inv X pins σ H s):∀ b∈WB X.stack,b∈X.env.locals::X.fs:=fun b hb=>by
 rcases I.ok.stk with e | ⟨e,hf⟩
 · rw [e] at hb;exact List.mem_cons_of_mem _ hb
 · rw [e] at hb
   unfold WB at hb
   rw [List.filterMap_cons,hf] at hb
   exact hb
theorem Inv.stkFree (I:Inv X pins σ H s):∀ b∈WB X.stack,H b=none:=fun b hb=>by
 rcases List.mem_cons.mp (I.stkSub b hb) with e | hb
 · rw [e];exact I.free
 · obtain ⟨_,o,ho,_⟩:=I.ok.funs.mem hb
   exact I.base.free b o ho (I.ok.frf b hb) fun z=>I.ok.exfs b z hb
theorem Inv.step {g':Array GenState}{t':Nat}{d':Drawn}{ch:List Addr}(I:Inv X pins σ H s)
   (hch:∀ b∈ch,(b∈X.ex∨X.s₀.heap.objs.size≤b)∧b≠X.env.locals∧(∀ x c,X.env.cells.lookup x=some c→c≠b)∧∀ p∈X.pn++pins,p.1≠b)
   (keep:∀ b o,b≠X.env.locals→b ∉ X.fs→b ∉ ch→s.heap.get? b=some o→H b=none→h'.get? b=some o)
   (slot:∀ b o,b≠X.env.locals→b∈X.fs→b ∉ ch→s.heap.get? b=some o→H b=none→∃ sl,h'.get? b=some { o with slots:=sl }) (free:∀ b o,b ∉ ch→s.heap.get? b=some o→H b=none→H' b=none)
   (there:∀ b o,b ∉ ch→s.heap.get? b=some o→∃ o',h'.get? b=some o')
   (tups:∀ b xs,H b=some (.tup xs)→H' b=some (.tup xs)) (frzs:∀ b o u,H b=some (.frz o u)→H' b=some (.frz o u)) (tbls:∀ b ps,H b=some (.tbl ps)→∃ more,H' b=some (.tbl (ps++more)))
   (ns:∀ m,s.heap.Ns X.env.locals m→h'.Ns X.env.locals m) (hok:HOk X.prog X.w H' h') (hg:AllBare g') :
   Inv X pins σ H' { s with heap:=h',gens:=g',drawn:=d',toks:=t' }:=by
 have neL:∀ b o,X.s₀.heap.get? b=some o→b≠X.env.locals:=fun b o e=>Nat.ne_of_lt (Nat.lt_of_lt_of_le (Heap.lt_size e) I.ok.above)
 have neC:∀ b o,X.s₀.heap.get? b=some o→b ∉ X.ex→b ∉ ch:=fun b o e hx hb=>by
   rcases (hch b hb).1 with z | z
   · exact hx z
   · exact absurd (Nat.lt_of_lt_of_le (Heap.lt_size e) z) (Nat.lt_irrefl _)
 have cellK:∀ x c,X.env.cells.lookup x=some c→∀ v,s.heap.IsCell c v→h'.IsCell c v:=fun x c e v ⟨o,ho,hd⟩=>by
   have nch:c ∉ ch:=fun z=>(hch c z).2.2.1 x c e rfl
   by_cases hc:c∈X.fs
   · obtain ⟨sl,q⟩:=slot c o (I.cne x c e) hc nch ho (I.freeC x c e)
     exact ⟨_,q,hd⟩
   · exact ⟨o,keep c o (I.cne x c e) hc nch ho (I.freeC x c e),hd⟩
 refine ⟨I.ok,I.os,hg,⟨fun b o e n hb hx=>?_,fun b o e n hb hx=>?_,fun b o e n hx=>?_,fun b o e hx=>?_,fun b xs e=>tups b xs (I.base.tups b xs e),fun b o xs e=>frzs b o xs (I.base.frzs b o xs e),fun b ps e=>?_⟩,?_,fun x c e=>?_,?_,fun x c e=>?_,fun p hp=>?_,hok,I.len⟩
 · exact keep b o (neL b o e) hb (neC b o e hx) (I.base.keep b o e n hb hx) (I.base.free b o e n hx)
 · obtain ⟨sl,e1⟩:=I.base.slot b o e n hb hx
   obtain ⟨sl',e2⟩:=slot b _ (neL b o e) hb (neC b o e hx) e1 (I.base.free b o e n hx)
   exact ⟨sl',e2⟩
 · obtain ⟨o',e1⟩:=I.base.there b o e hx
   exact free b o' (neC b o e hx) e1 (I.base.free b o e n hx)
 · obtain ⟨o',e1⟩:=I.base.there b o e hx
   exact there b o' (neC b o e hx) e1
 · obtain ⟨m1,e1⟩:=I.base.tbls b ps e
   obtain ⟨m2,e2⟩:=tbls b _ e1
   exact ⟨m1++m2,by rw [e2,Array.append_assoc]⟩
 · obtain ⟨m,hn,hl⟩:=I.loc
   refine ⟨m,ns m hn,fun i x v e1 e2 e3=>?_⟩
   obtain ⟨u,r,l⟩:=hl i x v e1 e2 e3
   refine ⟨u,r,?_⟩
   rcases l with l | ⟨k,c,e,z⟩
   · exact .inl l
   · exact .inr ⟨k,c,e,cellK x c e _ z⟩
 · obtain ⟨v,z⟩:=I.cell x c e
   exact ⟨v,cellK x c e v z⟩
 · obtain ⟨m,⟨o,_,_,ho,_⟩,_⟩:=I.loc
   exact free _ o (fun z=>(hch _ z).2.1 rfl) ho I.free
 · obtain ⟨v,o,ho,hd⟩:=I.cell x c e
   exact free c o (fun z=>(hch c z).2.2.1 x c e rfl) ho (I.freeC x c e)
 · obtain ⟨e,n,ne,nf,d⟩:=I.pin p hp
   have nch:p.1 ∉ ch:=fun z=>(hch p.1 z).2.2.2 p hp rfl
   exact ⟨keep p.1 p.2 ne nf nch e n,free p.1 p.2 nch e n,ne,nf,d⟩
theorem Inv.un {t':Nat}(I:Inv X pins σ H s)(u:Un X.fs [] H H' s.heap h')(hok:HOk X.prog X.w H' h'):Inv X pins σ H' { s with heap:=h',toks:=t' }:=by
 obtain ⟨m,⟨o,es,ep,ho,r⟩,_⟩:=id I.loc
 obtain ⟨sl,hL⟩:=u.any ho I.free (by simp)
 exact I.step (g':=s.gens) (d':=s.drawn) (ch:=[]) (fun _ z=>nomatch z) (fun b o _ hb _ e n=>u.keep b o e n hb (by simp)) (fun b o _ hb _ e n=>u.slot b o e n hb (by simp)) (fun b o _ e n=>u.free b o e n (by simp)) (fun b o _ e=>u.there b o e (by simp)) u.tups u.frzs u.tbls (fun m' hm=>by
   obtain ⟨o',es',ep',ho',r'⟩:=hm
   rw [ho] at ho';cases ho'
   exact ⟨_,es',ep',hL,r'⟩) hok I.bare
theorem Inv.call {g':Array GenState}{t':Nat}{d':Drawn}{ch:List Addr}(I:Inv X pins σ H s)(u:Un (WB X.stack) ch H H' s.heap h')(hok:HOk X.prog X.w H' h')(hg:AllBare g')
   (hch:∀ b∈ch,(b∈X.ex∨X.s₀.heap.objs.size≤b)∧b≠X.env.locals∧(∀ x c,X.env.cells.lookup x=some c→c≠b)∧∀ p∈X.pn++pins,p.1≠b) :
   Inv X pins σ H' { s with heap:=h',gens:=g',drawn:=d',toks:=t' }:=by
 obtain ⟨m,⟨o,es,ep,ho,r⟩,_⟩:=id I.loc
 obtain ⟨sl,hL⟩:=u.any ho I.free fun z=>(hch _ z).2.1 rfl
 exact I.step (ch:=ch) hch (fun b o hL hb hc e n=>u.keep b o e n (fun z=>(List.mem_cons.mp (I.stkSub b z)).elim hL hb) hc) (fun b o _ _ hc e n=>u.any e n hc) (fun b o hc e n=>u.free b o e n hc) (fun b o hc e=>u.there b o e hc) u.tups u.frzs u.tbls (fun m' hm=>by
   obtain ⟨o',es',ep',ho',r'⟩:=hm
   rw [ho] at ho';cases ho'
   exact ⟨_,es',ep',hL,r'⟩) hok hg
theorem Inv.turned {t':Nat}{it:Addr}(I:Inv X pins σ H s)(k:∀ b o,b≠it→s.heap.get? b=some o→h'.get? b=some o)(hn:H it=none)(hL:it≠X.env.locals)
   (h1:it∈X.ex∨X.s₀.heap.objs.size≤it) (h2:∀ x c,X.env.cells.lookup x=some c→c≠it) (h3:∀ p∈X.pn++pins,p.1≠it):Inv X pins σ H { s with heap:=h',toks:=t' }:=by
 have nit:∀ b u,H b=some u→b≠it:=fun b u e z=>by rw [z,hn] at e;cases e
 refine I.step (g':=s.gens) (d':=s.drawn) (ch:=[it]) (fun b hb=>?_) (fun b o _ _ hc e _=>k b o (fun z=>hc (by simp [z])) e) (fun b o _ _ hc e _=>⟨o.slots,k b o (fun z=>hc (by simp [z])) e⟩) (fun _ _ _ _ n=>n)
   (fun b o hc e=>⟨o,k b o (fun z=>hc (by simp [z])) e⟩) (fun _ _ e=>e) (fun _ _ _ e=>e) (fun b ps e=>⟨#[],by rw [e];simp⟩) (fun m hm=>?_) (fun b u e=>?_) I.bare
 · have e:b=it:=by simpa using hb
   subst e
   exact ⟨h1,hL,h2,h3⟩
 · obtain ⟨o,es,ep,ho,r⟩:=hm
   exact ⟨o,es,ep,k _ o (Ne.symm hL) ho,r⟩
 · refine (I.hok b u e).stay (fun c v hc q=>k c v ?_ q) (fun _ q=>q) fun _ _ q=>q
   rcases hc with z | z
   · rw [z];exact nit b u e
   · exact nit c _ z
theorem Inv.tok (I:Inv X pins σ H s)(t:Nat):Inv X pins σ H { s with toks:=t }:=I.un (h':=s.heap) (t':=t) Un.refl I.hok
theorem Inv.kept {t':Nat}(I:Inv X pins σ H s)(k:∀ b u,s.heap.get? b=some u→h'.get? b=some u):Inv X pins σ H { s with heap:=h',toks:=t' }:=I.un (Un.kept k) (I.hok.kept k)
theorem Inv.laid {a:Addr}{o:HO}{t':Nat}(I:Inv X pins σ H s)(k:∀ b u,s.heap.get? b=some u→h'.get? b=some u)(hp:s.heap.objs.size≤a)(new:ObjOk X.prog X.w (upd H a o) h' a o) :
 Inv X pins σ (upd H a o) { s with heap:=h',toks:=t' }:=I.un (Un.laid k hp (I.hok.fresh hp)) (I.hok.laid k hp new)
theorem Inv.write {x e:Addr}{o:HO}{t':Nat}(I:Inv X pins σ H s)(mu:Mut (H x))(he:e=x∨H e=some (.own x))(k:∀ b u,b≠e→s.heap.get? b=some u→h'.get? b=some u)(heo:∃ u,h'.get? e=some u)
 (new:ObjOk X.prog X.w (upd H x o) h' x o):Inv X pins σ (upd H x o) { s with heap:=h',toks:=t' }:=I.un (Un.write mu he k heo) (I.hok.write mu he k heo new)
theorem Inv.pins_of {pins':List (Addr×Obj)}(I:Inv X pins σ H s)(h:∀ p∈pins',s.heap.get? p.1=some p.2∧H p.1=none∧p.1≠X.env.locals∧p.1 ∉ X.fs∧∀ v,p.2.data≠.cell v):Inv X pins' σ H s :=
 ⟨I.ok,I.os,I.bare,I.base,I.loc,I.cell,I.free,I.freeC,fun p hp=>(List.mem_append.mp hp).elim (fun z=>I.pin p (List.mem_append_left _ z)) (h p),I.hok,I.len⟩
theorem Vs {N:List Str}(hN:N.Nodup){i j:Nat}{x:Str}(a:N[i]?=some x)(b:N[j]?=some x):i=j:=by
 obtain ⟨h1,e1⟩:=List.getElem?_eq_some_iff.mp a
 obtain ⟨h2,e2⟩:=List.getElem?_eq_some_iff.mp b
 exact (List.getElem_inj hN).mp (e1.trans e2.symm)
theorem Zbw {M:Model}{A:Around}{E:Value→Shared→Prop}{i:Nat}{x:Str}{v:V}{u:Value}{Q:Unit→Shared→Prop}(I:Inv X pins σ H s)(hN:X.N.Nodup)(hi:X.N[i]?=some x)(hx:Loc X.env.scope x)(r:RelV v u)
   (h:∀ s',Inv X pins (σ.set i (some v)) H s'→(∃ a,Heap.SameBut a s.heap s'.heap∧(a=X.env.locals∨X.env.cells.lookup x=some a))→Q () s') (hf:X.fn x=true∨X.env.scope.names.lookup x=some .local:=by first | exact .inl rfl | exact .inr rfl | assumption):wpAny M A (storeName X.env x u) Q E s:=by
 obtain ⟨m,hn,hl⟩:=id I.loc
 have hcls:(X.env.scope.kind == .class || (X.env.scope.kind == .module&&X.env.locals != X.env.globals))=false:=by rw [I.ok.kind];rfl
 have hiσ:i < σ.length:=by rw [I.len];exact (List.getElem?_eq_some_iff.mp hi).1
 have cne:=I.cne
 have tracked:∀ {a:Addr} {h':Heap},(∃ o,s.heap.get? a=some o∧H a=none)→Heap.SameBut a s.heap h'→HOk X.prog X.w H h':=fun {a h'} ha hs b ob e=>by
   obtain ⟨_,_,hfree⟩:=ha
   refine (I.hok b ob e).stay (fun c w' hc q=>(hs.2 c ?_).trans q) (fun _ q=>q) fun _ _ q=>q
   rintro rfl
   rcases hc with rfl | hc
   · rw [hfree] at e;cases e
   · rw [hfree] at hc;cases hc
 rcases hx with hk | hk
 · refine wpAny_storeName_local hk hn (fun h' hn' hs=>?_) hcls
   obtain ⟨oL,_,_,hoL,_⟩:=id hn
   refine h _ ⟨I.ok,I.os,I.bare,⟨fun b o e n hb hx=>?_,fun b o e n hb hx=>?_,I.base.free,fun b o e hx=>?_,I.base.tups,I.base.frzs,I.base.tbls⟩,⟨_,hn',fun j y v' e1 e2 e3=>?_⟩,fun y c e=>?_,I.free,I.freeC,fun p hp=>?_,tracked ⟨oL,hoL,I.free⟩ hs,by simpa using I.len⟩ ⟨_,hs,.inl rfl⟩
   · exact (hs.2 b (Nat.ne_of_lt (Nat.lt_of_lt_of_le (Heap.lt_size e) I.ok.above))).trans (I.base.keep b o e n hb hx)
   · obtain ⟨sl,e1⟩:=I.base.slot b o e n hb hx
     exact ⟨sl,(hs.2 b (Nat.ne_of_lt (Nat.lt_of_lt_of_le (Heap.lt_size e) I.ok.above))).trans e1⟩
   · obtain ⟨o',e1⟩:=I.base.there b o e hx
     exact ⟨o',(hs.2 b (Nat.ne_of_lt (Nat.lt_of_lt_of_le (Heap.lt_size e) I.ok.above))).trans e1⟩
   · by_cases hj:j=i
     · subst hj
       rw [hi] at e1;cases e1
       rw [List.getElem?_set_self hiσ] at e2
       cases e2
       exact ⟨u,r,.inl ⟨hk,by simp⟩⟩
     · rw [List.getElem?_set_ne (Ne.symm hj)] at e2
       obtain ⟨u',r',q⟩:=hl j y v' e1 e2 e3
       refine ⟨u',r',?_⟩
       rcases q with ⟨k,e⟩ | ⟨k,c,e,z⟩
       · refine .inl ⟨k,?_⟩
         have:y≠x:=fun e=>hj (Vs hN e1 (e ▸ hi))
         simp [this,e]
       · exact .inr ⟨k,c,e,z.sameBut hs (cne y c e)⟩
   · obtain ⟨w',z⟩:=I.cell y c e
     exact ⟨w',z.sameBut hs (cne y c e)⟩
   · obtain ⟨e,n,ne,nf,d⟩:=I.pin p hp
     exact ⟨(hs.2 p.1 ne).trans e,n,ne,nf,d⟩
 · have hfn:X.fn x=true:=by
     rcases hf with z | z
     · exact z
     · rw [z] at hk;cases hk
   obtain ⟨c,hc⟩:=I.ok.has x (.inl hk)
   obtain ⟨w',z⟩:=I.cell x c hc
   refine wpAny_storeName_cell I.ok.kind hk hc z (fun h' hc' hs=>?_)
   obtain ⟨oc,hoc,hocd⟩:=id z
   refine h { s with heap:=h' } ⟨I.ok,I.os,I.bare,⟨fun b o e n hb hx=>?_,fun b o e n hb hx=>?_,I.base.free,fun b o e hx=>?_,I.base.tups,I.base.frzs,I.base.tbls⟩,⟨m,hn.sameBut hs (Ne.symm (cne x c hc)),fun j y v' e1 e2 e3=>?_⟩,fun y c' e=>?_,I.free,I.freeC,fun p hp=>?_,tracked ⟨oc,hoc,I.freeC x c hc⟩ hs,by simpa using I.len⟩ ⟨c,hs,.inr hc⟩
   · exact (hs.2 b (Nat.ne_of_lt (Nat.lt_of_lt_of_le (Heap.lt_size e) (I.ok.cab x c hfn hc)))).trans (I.base.keep b o e n hb hx)
   · obtain ⟨sl,e1⟩:=I.base.slot b o e n hb hx
     exact ⟨sl,(hs.2 b (Nat.ne_of_lt (Nat.lt_of_lt_of_le (Heap.lt_size e) (I.ok.cab x c hfn hc)))).trans e1⟩
   · obtain ⟨o',e1⟩:=I.base.there b o e hx
     exact ⟨o',(hs.2 b (Nat.ne_of_lt (Nat.lt_of_lt_of_le (Heap.lt_size e) (I.ok.cab x c hfn hc)))).trans e1⟩
   · by_cases hj:j=i
     · subst hj
       rw [hi] at e1;cases e1
       rw [List.getElem?_set_self hiσ] at e2
       cases e2
       exact ⟨u,r,.inr ⟨.inl hk,c,hc,hc'⟩⟩
     · rw [List.getElem?_set_ne (Ne.symm hj)] at e2
       obtain ⟨u',r',q⟩:=hl j y v' e1 e2 e3
       refine ⟨u',r',?_⟩
       rcases q with q | ⟨k,c',e,z'⟩
       · exact .inl q
       · refine .inr ⟨k,c',e,z'.sameBut hs ?_⟩
         rintro rfl
         exact hj (Vs hN e1 (I.ok.inj _ _ _ e hc ▸ hi))
   · by_cases hcc:c'=c
     · subst hcc;exact ⟨_,hc'⟩
     · obtain ⟨w2,z2⟩:=I.cell y c' e
       exact ⟨w2,z2.sameBut hs hcc⟩
   · obtain ⟨e,n,ne,nf,d⟩:=I.pin p hp
     refine ⟨(hs.2 p.1 ?_).trans e,n,ne,nf,d⟩
     intro q
     rw [q,hoc] at e
     have q':oc=p.2:=Option.some.inj e
     exact d w' (by rw [← q'];exact hocd)
theorem YU {M:Model}{A:Around}{E:Value→Shared→Prop}{i:Nat}{x:Str}{v:V}{u:Value}{Q:Unit→Shared→Prop}(I:Inv X pins σ H s)(hN:X.N.Nodup)(hi:X.N[i]?=some x)(hx:Loc X.env.scope x)(r:RelV v u)
   (h:∀ s',Inv X pins (σ.set i (some v)) H s'→Q () s') (hf:X.fn x=true∨X.env.scope.names.lookup x=some .local:=by first | exact .inl rfl | exact .inr rfl | assumption):wpAny M A (storeName X.env x u) Q E s :=
 Zbw I hN hi hx r (fun s' I' _=>h s' I') hf
theorem Inv.call' {s':Shared}{ch:List Addr}(I:Inv X pins σ H s)(ho:s'.os=s.os)(u:Un (WB X.stack) ch H H' s.heap s'.heap)(hok:HOk X.prog X.w H' s'.heap)(hg:AllBare s'.gens)
   (hch:∀ b∈ch,(b∈X.ex∨X.s₀.heap.objs.size≤b)∧b≠X.env.locals∧(∀ x c,X.env.cells.lookup x=some c→c≠b)∧∀ p∈X.pn++pins,p.1≠b):Inv X pins σ H' s':=by
 obtain ⟨h',g',d',t',o'⟩:=s'
 have e:o'=s.os:=ho
 subst e
 exact I.call (g':=g') (t':=t') (d':=d') u hok hg hch
end
abbrev XK:=Value→Option Addr→Hp→Prop
abbrev St:=List (Option V)
abbrev VK:=V→Hp→Prop
abbrev TE:=St→Hp→VK→Prop
abbrev TT:=St→Hp→(Bool→Hp→Prop)→Prop
abbrev TA:=St→Hp→(List V→Hp→Prop)→Prop
structure WT where
 nx:St→Hp→Prop
 rt:VK
 bk:St→Hp→Prop:=fun _ _=>False
 ct:St→Hp→Prop:=fun _ _=>False
abbrev TS:=WT→St→Hp→Prop
def EP (X:Cx)(pins:List (Addr×Obj))(σ:St)(Q:VK)(u:Value)(s':Shared):Prop:=∃ v H',Inv X pins σ H' s'∧RelV v u∧Q v H'
def TP (X:Cx)(pins:List (Addr×Obj))(σ:St)(Q:Bool→Hp→Prop)(b:Bool)(s':Shared):Prop:=∃ H',Inv X pins σ H' s'∧Q b H'
def AP (X:Cx)(pins:List (Addr×Obj))(σ:St)(Q:List V→Hp→Prop)(us:List Value)(s':Shared):Prop:=∃ vs H',Inv X pins σ H' s'∧Vals vs us∧Q vs H'
def SP (X:Cx)(pins:List (Addr×Obj))(D:WT)(f:Flow)(s':Shared):Prop :=
 match f with
 | .next=>∃ σ' H',Inv X pins σ' H' s'∧D.nx σ' H'
 | .brk=>∃ σ' H',Inv X pins σ' H' s'∧D.bk σ' H'
 | .cont=>∃ σ' H',Inv X pins σ' H' s'∧D.ct σ' H'
 | .ret u=>∃ v σ' H',Inv X pins σ' H' s'∧RelV v u∧D.rt v H'
def PE (X:Cx)(e:Expr)(t:TE):Prop :=
 ∀ (pins:List (Addr×Obj)) (s:Shared) (σ:St) (H:Hp) (Q:VK),Inv X pins σ H s→t σ H Q→wpAny (model X.prog X.w) X.A (eval e X.env) (EP X pins σ Q) X.xe s
def PT (X:Cx)(e:Expr)(t:TT):Prop :=
 ∀ (pins:List (Addr×Obj)) (s:Shared) (σ:St) (H:Hp) (Q:Bool→Hp→Prop),Inv X pins σ H s→t σ H Q→wpAny (model X.prog X.w) X.A (isTrue e X.env (eval e X.env)) (TP X pins σ Q) X.xe s
def PW (X:Cx)(e:Expr)(t:TT):Prop :=
 ∀ (whole:Sem Value) (pins:List (Addr×Obj)) (s:Shared) (σ:St) (H:Hp) (Q:Bool→Hp→Prop),Inv X pins σ H s→t σ H Q→wpAny (model X.prog X.w) X.A (isTrue e X.env whole) (TP X pins σ Q) X.xe s
theorem PW.pt {X:Cx}{e:Expr}{t:TT}(h:PW X e t):PT X e t:=h _
def PA (X:Cx)(es:List Expr)(t:TA):Prop :=
 ∀ (pos:Pos) (pins:List (Addr×Obj)) (s:Shared) (σ:St) (H:Hp) (Q:List V→Hp→Prop),Inv X pins σ H s→t σ H Q→wpAny (model X.prog X.w) X.A (spliced (backTo pos (starEach es X.env))) (AP X pins σ Q) X.xe s
def PS (X:Cx)(st:Stmt)(t:TS):Prop :=
 ∀ (pins:List (Addr×Obj)) (s:Shared) (σ:St) (H:Hp) (D:WT),Inv X pins σ H s→t D σ H→wpAny (model X.prog X.w) X.A (exec st X.env) (SP X pins D) X.xe s
def PSs (X:Cx)(st:List Stmt)(t:TS):Prop :=
 ∀ (pins:List (Addr×Obj)) (s:Shared) (σ:St) (H:Hp) (D:WT),Inv X pins σ H s→t D σ H→wpAny (model X.prog X.w) X.A (execs st X.env) (SP X pins D) X.xe s
theorem Zn {α:Type}{t:Sem α}{Q Q':α→Shared→Prop}{M:Model}{A:Around}{E:Value→Shared→Prop}{s:Shared}(h:wpAny M A t Q E s)(hQ:∀ a s,Q a s→Q' a s):wpAny M A t Q' E s:=wpAny_mono h hQ fun _ _ x=>x
end L2
namespace L2
open PySem PySem.Spec PyProof.Rows
section
variable {X:Cx}
def VR (i:Nat):TE:=fun σ H Q=>∃ v,σ[i]?=some (some v)∧Q v H
def tC (v:V):TE:=fun _ H Q=>Q v H
theorem Zem {i:Nat}{x:Str}{pos:Pos}(hN:X.N[i]?=some x)(hv:Vis X.env.scope x)(hd:(x == ("__debug__":Str))=false:=by decide)(hcd:(x == ("__classdict__":Str))=false:=by decide):PE X (.Name x pos) (VR i):=by
 intro pins s σ H Q I h
 obtain ⟨v,e,h⟩:=h
 obtain ⟨m,hn,hl⟩:=I.loc
 obtain ⟨u,r,l⟩:=hl i x v hN e hv
 have fin:EP X pins σ Q u s:=⟨v,H,I,r,h⟩
 rcases l with ⟨hk,hm⟩ | ⟨hk,c,hc,hcell⟩
 · exact wpAny_Name (wpAny_loadName_local I.ok.kind hk hn hm fin) hd
 · rcases hk with hk | hk
   · exact wpAny_Name (wpAny_loadName_cell I.ok.kind hk hc hcell fin) hd
   · exact wpAny_Name (wpAny_loadName_free I.ok.kind hk hc hcell fin hcd) hd
theorem Zb {i j pos}:PE X (.Constant (.int i) j pos) (tC (.int i)):=fun _ _ _ H _ I h=>wpAny_Constant_int ⟨.int i,H,I.tok _,⟨_,rfl⟩,h⟩
theorem Xb {b j pos}:PE X (.Constant (.bool b) j pos) (tC (.bl b)):=fun _ _ _ H _ I h=>Constant_bool ⟨.bl b,H,I,rfl,h⟩
theorem ZbC {j pos}:PE X (.Constant .none j pos) (tC .non):=fun _ _ _ H _ I h=>Constant_none ⟨.non,H,I,rfl,h⟩
theorem Zl {x j pos}:PE X (.Constant (.str x) j pos) (tC (.str x)):=fun _ _ _ H _ I h=>Calls.Constant_str ⟨.str x,H,I.tok _,⟨_,rfl⟩,h⟩
def Gl (X:Cx)(x:Str):Prop:=X.env.kindOf x=some .globalImplicit
theorem Zaj {E:Value→Shared→Prop}{pins:List (Addr×Obj)}{s:Shared}{σ:St}{H:Hp}{x:Str}{u:Value}{pos:Pos}{Q:Value→Shared→Prop}(I:Inv X pins σ H s)(hg:Gl X x)(hm:X.mg x=some u)(h:Q u s)
   (hd:(x == ("__debug__":Str))=false:=by decide):wpAny (model X.prog X.w) X.A (eval (.Name x pos) X.env) Q E s :=
 Calls.Name_function_global I.ok.kind hg (Calls.loadGlobal_global (by rw [I.ok.glob];exact I.mod.glob.keeps I.bk) hm h) hd
theorem Wd {E:Value→Shared→Prop}{pins:List (Addr×Obj)}{s:Shared}{σ:St}{H:Hp}{x:Str}{u:Value}{pos:Pos}{Q:Value→Shared→Prop}(I:Inv X pins σ H s)(hg:Gl X x)(hm:X.mg x=none)(hv:bootBuiltins x=some u)(h:Q u s)
   (hn:x≠"__name__":=by decide) (hd:(x == ("__debug__":Str))=false:=by decide):wpAny (model X.prog X.w) X.A (eval (.Name x pos) X.env) Q E s:=by
 obtain ⟨mb,h1,h2⟩:=I.mod.blt
 exact Calls.Name_function_global I.ok.kind hg (Calls.loadGlobal_builtin (by rw [I.ok.glob];exact I.mod.glob.keeps I.bk) hm (by rw [I.ok.blt];exact h1.keeps I.bk) ((h2 x hn).trans hv) h) hd
theorem Zar {x:Str}{v:V}{u:Value}{pos:Pos}(hg:Gl X x)(hm:X.mg x=some u)(r:RelV v u)(hd:(x == ("__debug__":Str))=false:=by decide):PE X (.Name x pos) (tC v) :=
 fun _ _ _ H _ I h=>Zaj I hg hm ⟨v,H,I,r,h⟩ hd
theorem ZW {x:Str}{v:V}{u:Value}{pos:Pos}(hg:Gl X x)(hm:X.mg x=none)(hv:bootBuiltins x=some u)(r:RelV v u)(hn:x≠"__name__":=by decide)(hd:(x == ("__debug__":Str))=false:=by decide):PE X (.Name x pos) (tC v) :=
 fun _ _ _ H _ I h=>Wd I hg hm hv ⟨v,H,I,r,h⟩ hn hd
variable {a b:Expr}{ta tb:TE}{pos:Pos}
def PC (X:Cx)(op:CmpOp)(a b:Expr)(t:TE):Prop :=
 ∀ (pins:List (Addr×Obj)) (s:Shared) (σ:St) (H:Hp) (Q:VK),Inv X pins σ H s→t σ H Q →
   wpAny (model X.prog X.w) X.A (eval a X.env) (fun v s₁=>wpAny (model X.prog X.w) X.A (eval b X.env) (fun u s₂=>wpAny (model X.prog X.w) X.A (compareOp op v u) (EP X pins σ Q) X.xe s₂) X.xe s₁) X.xe s
theorem ZcJ (b:Expr){op:CmpOp}(h:op≠.In)(h2:op≠.NotIn):behindInMarks op b=false:=by
 have e1:(op == CmpOp.In)=false:=by cases op<;>first | rfl | exact absurd rfl h
 have e2:(op == CmpOp.NotIn)=false:=by cases op<;>first | rfl | exact absurd rfl h2
 cases b<;>simp [behindInMarks,e1,e2]
def tIsN (ta:TE):TE:=fun σ H Q=>ta σ H fun x H1=>Q (.bl (decide (x=.non))) H1
theorem RelV.none_iff {x:V}{v:Value}(r:RelV x v):(v == Value.none)=decide (x=.non):=by
 cases x with
 | non=>cases r;rfl
 | bl _=>cases r;rfl
 | int _=>obtain ⟨t,rfl⟩:=r;rfl
 | str _=>obtain ⟨t,rfl⟩:=r;rfl
 | byt _=>obtain ⟨t,rfl⟩:=r;rfl
 | flt _=>obtain ⟨t,rfl⟩:=r;rfl
 | ref _=>cases r;rfl
 | ty _=>cases r;rfl
theorem ZeG {j pos'}(ha:PE X a ta):PC X .Is a (.Constant .none j pos') (tIsN ta):=by
 intro pins s σ H Q I h
 refine Zn (ha pins s σ H _ I h) fun v s1 ⟨x,H1,I1,r1,q1⟩=>?_
 exact Constant_none (is_none_gen ⟨.bl _,H1,I1,by rw [r1.none_iff];rfl,q1⟩)
def tB (t:TE):TT:=fun σ H Q=>t σ H fun x H1=>∃ c,x=.bl c∧Q c H1
theorem ZeK {op:CmpOp}{t:TE}(h:PC X op a b t)(h1:behindInMarks op b=false:=by first | exact ZcJ _ (by decide) (by decide) | rfl):PT X (.Compare a [op] [b] pos) (tB t):=by
 intro pins s σ H Q I hw
 refine wpAny_isTrue_Compare1 (Zn (h pins s σ H _ I hw) fun v s1 h1=>Zn h1 fun u s2 h2=>Zn h2 fun c s3 ⟨x,H1,I1,r1,q1⟩=>?_) h1
 obtain ⟨d,rfl,q⟩:=q1
 cases r1
 exact wpAny_truthy_bool ⟨H1,I1,q⟩
theorem YC {e:Expr}{t:TE}(h:PE X e t)(he:∀ whole,isTrue e X.env whole=(do let v ← whole;standAt e.pos;holding [v] (truthy v)):=by intro _;rfl):PT X e (tB t):=by
 intro pins s σ H Q I hw
 refine isTrue_plain (Zn (h pins s σ H _ I hw) fun v s1 ⟨x,H1,I1,r1,q1⟩=>?_) (he _)
 obtain ⟨d,rfl,q⟩:=q1
 cases r1
 exact wpAny_truthy_bool ⟨H1,I1,q⟩
variable {tA tB':TT}{rest:List Expr}
def tAnd (t u:TT):TT:=fun σ H Q=>t σ H fun c H1=>if c=true then u σ H1 Q else Q false H1
def tOr (t u:TT):TT:=fun σ H Q=>t σ H fun c H1=>if c=true then Q true H1 else u σ H1 Q
def tNot (t:TT):TT:=fun σ H Q=>t σ H fun c H1=>Q (!c) H1
theorem Wh (ha:PT X a tA):PW X (.BoolOp .And [a] pos) tA:=by
 intro wh pins s σ H Q I h
 refine isTrue_and (Zn (ha pins s σ H Q I h) fun c s1 e=>?_)
 cases c with
 | true=>exact isTrue_and_nil e
 | false=>exact e
theorem WF (ha:PT X a tA):PW X (.BoolOp .Or [a] pos) tA:=by
 intro wh pins s σ H Q I h
 refine isTrue_or (Zn (ha pins s σ H Q I h) fun c s1 e=>?_)
 cases c with
 | false=>exact isTrue_or_nil e
 | true=>exact e
theorem Wt (ha:PT X a tA)(hb:PW X (.BoolOp .And (b::rest) pos) tB'):PW X (.BoolOp .And (a::b::rest) pos) (tAnd tA tB'):=by
 intro wh pins s σ H Q I h
 refine isTrue_and (Zn (ha pins s σ H _ I h) fun c s1 ⟨H1,I1,q1⟩=>?_)
 cases c with
 | true=>exact hb wh pins s1 σ H1 Q I1 q1
 | false=>exact ⟨H1,I1,q1⟩
theorem XO (ha:PT X a tA)(hb:PW X (.BoolOp .Or (b::rest) pos) tB'):PW X (.BoolOp .Or (a::b::rest) pos) (tOr tA tB'):=by
 intro wh pins s σ H Q I h
 refine isTrue_or (Zn (ha pins s σ H _ I h) fun c s1 ⟨H1,I1,q1⟩=>?_)
 cases c with
 | true=>exact ⟨H1,I1,q1⟩
 | false=>exact hb wh pins s1 σ H1 Q I1 q1
theorem YE (ha:PT X a tA):PT X (.UnaryOp .Not a pos) (tNot tA):=by
 intro pins s σ H Q I h
 exact isTrue_not (ha pins s σ H (fun c H1=>Q (!c) H1) I h)
def ZeR (ta tb:TE):TE:=fun σ H Q=>ta σ H fun x H1=>∃ c,x=.bl c∧if c=true then tb σ H1 Q else Q (.bl false) H1
def Zfl (ta:TE):TE:=fun σ H Q=>ta σ H fun x H1=>∃ c,x=.bl c∧Q (.bl (!c)) H1
theorem YZ {op}{t:TE}(h:PE X a t):PE X (.BoolOp op [a] pos) t:=fun pins s σ H Q I hw=>BoolOp_one (h pins s σ H Q I hw)
theorem YS (ha:PE X a ta)(hb:PE X (.BoolOp .And (b::rest) pos) tb):PE X (.BoolOp .And (a::b::rest) pos) (ZeR ta tb):=by
 intro pins s σ H Q I h
 refine BoolOp_and (Zn (ha pins s σ H _ I h) fun v s1 ⟨x,H1,I1,r1,q1⟩=>?_)
 obtain ⟨c,rfl,q1⟩:=q1
 cases r1
 refine wpAny_truthy_bool ?_
 cases c with
 | true=>exact hb pins s1 σ H1 Q I1 q1
 | false=>exact ⟨.bl false,H1,I1,rfl,q1⟩
theorem ZbG (ha:PE X a ta):PE X (.UnaryOp .Not a pos) (Zfl ta):=by
 intro pins s σ H Q I h
 refine UnaryOp_ (Zn (ha pins s σ H _ I h) fun v s1 ⟨x,H1,I1,r1,q1⟩=>?_)
 obtain ⟨c,rfl,q1⟩:=q1
 cases r1
 exact not_of (wpAny_truthy_bool ⟨.bl (!c),H1,I1,rfl,q1⟩)
def tIf (t:TT)(ta tb:TE):TE:=fun σ H Q=>t σ H fun c H1=>if c=true then ta σ H1 Q else tb σ H1 Q
theorem Vz {c:Expr}(hc:PT X c tA)(ha:PE X a ta)(hb:PE X b tb):PE X (.IfExp c a b pos) (tIf tA ta tb):=by
 intro pins s σ H Q I h
 refine wpAny_IfExp (Zn (hc pins s σ H _ I h) fun d s1 ⟨H1,I1,q1⟩=>?_)
 cases d with
 | true=>exact ha pins s1 σ H1 Q I1 q1
 | false=>exact hb pins s1 σ H1 Q I1 q1
end
end L2
namespace L2
open PySem PySem.Spec PyProof.Rows
def SqL (K:PySem.W.Frag)(H:Hp)(a:Addr)(xs:List V):Prop :=
 Rd H a (.lst xs) ∨
   ∃ (o:Obj) (its:Array Value) (n:Nat),K.lookup a=some o∧o.cls=.type "list"∧o.dict=none∧o.data=.seq its n∧its.size≤sizeLine∧Vals xs its.toList
def SqT (K:PySem.W.Frag)(H:Hp)(a:Addr)(xs:List V):Prop :=
 Rd H a (.tup xs) ∨
   ∃ (o:Obj) (its:Array Value) (n:Nat),K.lookup a=some o∧o.cls=.type "tuple"∧o.data=.seq its n∧its.size≤sizeLine∧Vals xs its.toList
def absV:Value→Option V
 | .none=>some .non
 | .bool b=>some (.bl b)
 | .int i _=>some (.int i)
 | .str x _=>some (.str x)
 | .bytes b _=>some (.byt b)
 | .float b _=>some (.flt b)
 | .ref a=>some (.ref a)
 | .type n=>some (.ty n)
 | _=>none
theorem RelV.abs {x:V}{u:Value}(r:RelV x u):absV u=some x:=by
 cases x with
 | non=>cases r;rfl
 | bl _=>cases r;rfl
 | int _=>obtain ⟨t,rfl⟩:=r;rfl
 | str _=>obtain ⟨t,rfl⟩:=r;rfl
 | byt _=>obtain ⟨t,rfl⟩:=r;rfl
 | flt _=>obtain ⟨t,rfl⟩:=r;rfl
 | ref _=>cases r;rfl
 | ty _=>cases r;rfl
theorem RelV.inj {x y:V}{u:Value}(r:RelV x u)(q:RelV y u):x=y:=Option.some.inj (r.abs.symm.trans q.abs)
theorem Vals.inj:∀{xs ys:List V}{us:List Value},Vals xs us→Vals ys us→xs=ys
 | _,_,_,.nil,.nil=>rfl
 | _,_,_,.cons r t,.cons r' t'=>by rw [r.inj r',Vals.inj t t']
section
variable {X:Cx}{pins:List (Addr×Obj)}{σ:St}{H:Hp}{s:Shared}{a:Addr}{xs ys:List V}
theorem SqL.of {K:PySem.W.Frag}(h:H a=some (.lst xs)):SqL K H a xs:=.inl (.inl h)
theorem SqT.of {K:PySem.W.Frag}(h:H a=some (.tup xs)):SqT K H a xs:=.inl (.inl h)
theorem Inv.list (I:Inv X pins σ H s)(h:SqL X.K H a xs):∃ its:List Value,Vals xs its∧PlainL s.heap a its.toArray∧xs.length≤sizeLine:=by
 rcases h with h | ⟨o,its,n,hk,hc,hd,hs,hz,r⟩
 · obtain ⟨z,its,n,r,e⟩:=h.ok I.hok
   exact ⟨its,r,⟨_,n,e,rfl,rfl,rfl⟩,z⟩
 · refine ⟨its.toList,r,⟨o,n,I.kIn a o hk,hc,hd,by simpa using hs⟩,?_⟩
   have e:=r.length
   simp only [Array.length_toList] at e
   omega
theorem Inv.tuple (I:Inv X pins σ H s)(h:SqT X.K H a xs):∃ its:List Value,Vals xs its∧IsTup s.heap a its.toArray∧xs.length≤sizeLine:=by
 rcases h with h | ⟨o,its,n,hk,hc,hs,hz,r⟩
 · obtain ⟨z,its,r,p⟩:=h.ok I.hok
   exact ⟨its,r,p,z⟩
 · refine ⟨its.toList,r,⟨o,I.kIn a o hk,hc,n,by simpa using hs⟩,?_⟩
   have e:=r.length
   simp only [Array.length_toList] at e
   omega
theorem Inv.list_inj (I:Inv X pins σ H s)(h:SqL X.K H a xs)(h':SqL X.K H a ys):xs=ys:=by
 obtain ⟨its,r,⟨o,n,e,_,_,d⟩,_⟩:=I.list h
 obtain ⟨its',r',⟨o',n',e',_,_,d'⟩,_⟩:=I.list h'
 rw [e] at e';cases e'
 rw [d] at d'
 injection d' with d1 _
 have:its=its':=by simpa using congrArg Array.toList d1
 subst this
 exact r.inj r'
theorem Inv.tuple_inj (I:Inv X pins σ H s)(h:SqT X.K H a xs)(h':SqT X.K H a ys):xs=ys:=by
 obtain ⟨its,r,⟨o,e,_,n,d⟩,_⟩:=I.tuple h
 obtain ⟨its',r',⟨o',e',_,n',d'⟩,_⟩:=I.tuple h'
 rw [e] at e';cases e'
 rw [d] at d'
 injection d' with d1 _
 have:its=its':=by simpa using congrArg Array.toList d1
 subst this
 exact r.inj r'
end
abbrev Cx.wish (X:Cx)(E:Value→Shared→Prop):Cx:={ X with xe:=E }
abbrev Cx.nox (X:Cx):Cx:=X.wish fun _ _=>False
theorem Cx.Ok.wish {X:Cx}(ok:X.Ok)(E:Value→Shared→Prop):(X.wish E).Ok :=
 ⟨ok.mod,ok.kind,ok.glob,ok.blt,ok.above,ok.inj,ok.has,ok.cab,ok.hd,ok.frames,ok.stk,ok.exf,ok.bs,ok.bsz,ok.noex,ok.exfs,ok.funs,ok.frf⟩
theorem Cx.Ok.unwish {X:Cx}{E:Value→Shared→Prop}(ok:(X.wish E).Ok):X.Ok :=
 ⟨ok.mod,ok.kind,ok.glob,ok.blt,ok.above,ok.inj,ok.has,ok.cab,ok.hd,ok.frames,ok.stk,ok.exf,ok.bs,ok.bsz,ok.noex,ok.exfs,ok.funs,ok.frf⟩
section
variable {X:Cx}{pins:List (Addr×Obj)}{σ:St}{H:Hp}{s:Shared}{E:Value→Shared→Prop}
theorem Inv.wish (I:Inv X pins σ H s)(E:Value→Shared→Prop):Inv (X.wish E) pins σ H s:=⟨I.ok.wish E,I.os,I.bare,I.base,I.loc,I.cell,I.free,I.freeC,I.pin,I.hok,I.len⟩
theorem Inv.unwish (I:Inv (X.wish E) pins σ H s):Inv X pins σ H s:=⟨I.ok.unwish,I.os,I.bare,I.base,I.loc,I.cell,I.free,I.freeC,I.pin,I.hok,I.len⟩
theorem SP.unwish {D:WT}{f:Flow}{s':Shared}(h:SP (X.wish E) pins D f s'):SP X pins D f s':=by
 cases f with
 | next=>obtain ⟨σ',H',I,q⟩:=h;exact ⟨σ',H',I.unwish,q⟩
 | brk=>obtain ⟨σ',H',I,q⟩:=h;exact ⟨σ',H',I.unwish,q⟩
 | cont=>obtain ⟨σ',H',I,q⟩:=h;exact ⟨σ',H',I.unwish,q⟩
 | ret u=>obtain ⟨v,σ',H',I,r,q⟩:=h;exact ⟨v,σ',H',I.unwish,r,q⟩
theorem PSs.nox {st:List Stmt}{t:TS}(h:PSs X.nox st t):PSs X st t:=fun pins s σ H D I hw =>
 wpAny_mono (h pins s σ H D (I.wish _) hw) (fun _ _ q=>q.unwish) fun _ _ z=>False.elim z
end
section
variable {X:Cx}{st:Stmt}{rest:List Stmt}{t u:TS}{e:Expr}{te:TE}{pos:Pos}
def ZeU:TS:=fun D σ H=>D.nx σ H
def tSeq (t u:TS):TS:=fun D σ H=>t { D with nx:=u D } σ H
theorem Zq:PSs X [] ZeU:=fun _ _ σ H _ I h=>wpAny_execs_nil ⟨σ,H,I,h⟩
theorem Ze (h1:PS X st t)(h2:PSs X rest u):PSs X (st::rest) (tSeq t u):=by
 intro pins s σ H D I h
 refine wpAny_execs_cons (Zn (h1 pins s σ H { D with nx:=u D } I h) fun f s1 q=>?_)
 cases f with
 | next =>
   obtain ⟨σ',H',I',q⟩:=q
   exact h2 pins s1 σ' H' D I' q
 | ret v=>exact q
 | brk=>exact q
 | cont=>exact q
theorem Zi (h1:PS X st t):PSs X [st] t:=by
 intro pins s σ H D I h
 refine wpAny_execs_cons (Zn (h1 pins s σ H D I h) fun f s1 q=>?_)
 cases f with
 | next=>exact wpAny_execs_nil q
 | ret v=>exact q
 | brk=>exact q
 | cont=>exact q
theorem Inv.quiet {pins:List (Addr×Obj)}{σ:St}{H:Hp}{s:Shared}(I:Inv X pins σ H s):interactive X.env=false:=by simp [interactive,I.ok.kind]
def Zfa (te:TE):TS:=fun D σ H=>te σ H fun _ H1=>D.nx σ H1
theorem Zal (he:PE X e te)(hs:swapsWith e none pos.line X.env=pure false:=by rfl):PS X (.Expr e pos) (Zfa te):=by
 intro pins s σ H D I h
 exact wpAny_Expr_any (Zn (he pins s σ H _ I h) fun v s1 ⟨x,H1,I1,r1,q1⟩=>⟨σ,H1,I1,q1⟩) I.quiet hs
def tRet (te:TE):TS:=fun D σ H=>te σ H D.rt
theorem Zm (he:PE X e te):PS X (.Return (some e) pos) (tRet te):=by
 intro pins s σ H D I h
 exact wpAny_Return_some (Zn (he pins s σ H _ I h) fun v s1 ⟨x,H1,I1,r1,q1⟩=>⟨x,σ,H1,I1,r1,q1⟩)
def tIfS (c:TT)(t u:TS):TS:=fun D σ H=>c σ H fun b H1=>if b=true then t D σ H1 else u D σ H1
theorem ZF {c:Expr}{a b:List Stmt}{tc:TT}(hc:PT X c tc)(ha:PSs X a t)(hb:PSs X b u):PS X (.If c a b pos) (tIfS tc t u):=by
 intro pins s σ H D I h
 refine wpAny_If (Zn (hc pins s σ H _ I h) fun d s1 ⟨H1,I1,q1⟩=>?_)
 cases d with
 | true=>exact ha pins s1 σ H1 D I1 q1
 | false=>exact hb pins s1 σ H1 D I1 q1
end
abbrev TG:=V→St→Hp→(St→Hp→Prop)→Prop
abbrev Vm:=List V→St→Hp→(St→Hp→Prop)→Prop
def PG (X:Cx)(target:Expr)(t:TG):Prop :=
 ∀ (pins:List (Addr×Obj)) (s:Shared) (σ:St) (H:Hp) (v:V) (u:Value) (Q:St→Hp→Prop),Inv X pins σ H s→RelV v u→t v σ H Q →
   wpAny (model X.prog X.w) X.A (assign target X.env u) (fun _ s'=>∃ σ' H',Inv X pins σ' H' s'∧Q σ' H') X.xe s
def PGs (X:Cx)(ts:List Expr)(t:Vm):Prop :=
 ∀ (pins:List (Addr×Obj)) (s:Shared) (σ:St) (H:Hp) (vs:List V) (us:List Value) (Q:St→Hp→Prop),Inv X pins σ H s→Vals vs us→t vs σ H Q →
   wpAny (model X.prog X.w) X.A (assignInOrder ((assignEach ts X.env).map (·.2)) us) (fun _ s'=>∃ σ' H',Inv X pins σ' H' s'∧Q σ' H') X.xe s
abbrev ZcW:=V→V→V→Hp→(Hp→Prop)→Prop
def PSet (X:Cx)(t:ZcW):Prop :=
 ∀ (pins:List (Addr×Obj)) (s:Shared) (σ:St) (H:Hp) (o i v:V) (ov iv u:Value) (Q:Hp→Prop),Inv X pins σ H s→RelV o ov→RelV i iv→RelV v u→t o i v H Q →
   wpAny (model X.prog X.w) X.A (setItem ov iv u) (fun _ s'=>∃ H',Inv X pins σ H' s'∧Q H') X.xe s
section
variable {X:Cx}{pos:Pos}
def ZcZ (i:Nat):TG:=fun v σ H Q=>Q (σ.set i (some v)) H
theorem Yn {i:Nat}{x:Str}(hN:X.N.Nodup)(hi:X.N[i]?=some x)(hx:Loc X.env.scope x)(hf:X.fn x=true∨X.env.scope.names.lookup x=some .local:=by first | exact .inl rfl | exact .inr rfl | assumption):PG X (.Name x pos) (ZcZ i):=by
 intro pins s σ H v u Q I r h
 exact wpAny_assign_Name (YU I hN hi hx r (fun s' I'=>⟨_,H,I',h⟩) hf)
def gNil:Vm:=fun vs σ H Q=>vs=[]∧Q σ H
def Zbp (t:TG)(u:Vm):Vm:=fun vs σ H Q=>∃ v r,vs=v::r∧t v σ H fun σ' H'=>u r σ' H' Q
theorem UJ:PGs X [] gNil:=by
 intro pins s σ H vs us Q I r h
 obtain ⟨e,h⟩:=h
 subst e
 cases r
 exact assignInOrder_nil ⟨σ,H,I,h⟩
theorem Xg {e:Expr}{es:List Expr}{t:TG}{u:Vm}(h1:PG X e t)(h2:PGs X es u)
   (hs:(assignEach (e::es) X.env).map (·.2)=assign e X.env::(assignEach es X.env).map (·.2):=by rfl):PGs X (e::es) (Zbp t u):=by
 intro pins s σ H vs us Q I r h
 obtain ⟨v,vr,e1,h⟩:=h
 subst e1
 cases r with
 | cons r rr =>
   rw [hs]
   refine assignInOrder_cons (Zn (h1 pins s σ H _ _ _ I r h) fun _ s1 ⟨σ1,H1,I1,q1⟩=>?_)
   exact h2 pins s1 σ1 H1 _ _ Q I1 rr q1
def gTup (K:PySem.W.Frag)(n:Nat)(t:Vm):TG:=fun v σ H Q=>∃ a xs,v=.ref a∧SqT K H a xs∧xs.length=n∧t xs σ H Q
theorem Vn {es:List Expr}{k:Nat}{t:Vm}{n:Nat}(hc:X.calm=true)(h:PGs X es t)
   (hn:(assignEach es X.env).length=n:=by rfl) (hst:(assignEach es X.env).findIdx? (·.1)=none:=by rfl):PG X (.Tuple es k pos) (gTup X.K n t):=by
 intro pins s σ H v u Q I r hw
 obtain ⟨a,xs,e1,hq,hl,hw⟩:=hw
 subst e1
 cases r
 obtain ⟨its,rv,ht,hz⟩:=I.tuple hq
 refine assign_Tuple_tuple (I.ok.hd hc) ht (by simp [hn,← hl,rv.length]) hst fun h' hx=>?_
 have I1:Inv X pins σ H { s with heap:=h' }:=I.kept (t':=s.toks) fun b o e=>hx b o (Nat.ne_of_lt (Heap.lt_size e)) e
 exact h pins _ σ H xs _ Q I1 (by simpa using rv) hw
def gSub (to ti:TE)(t:ZcW):TG:=fun v σ H Q=>to σ H fun o H1=>ti σ H1 fun i H2=>t o i v H2 fun H3=>Q σ H3
theorem VF {o i:Expr}{to ti:TE}{t:ZcW}(ho:PE X o to)(hi:PE X i ti)(hs:PSet X t)
   (ha:∀ v,assign (.Subscript o i pos) X.env v=(do
     let ov ← holding [v] (eval o X.env)
     let iv ← holding [v,ov] (eval i X.env)
     standAt pos
     holding [v,ov,iv] (setItem ov iv v)
     release [v,ov,iv] []):=by intro _;rfl):PG X (.Subscript o i pos) (gSub to ti t):=by
 intro pins s σ H v u Q I r h
 rw [ha]
 refine wpAny_bind (wpAny_holding (Zn (ho pins s σ H _ I h) fun ov s1 ⟨x,H1,I1,r1,q1⟩=>?_))
 refine wpAny_bind (wpAny_holding (Zn (hi pins s1 σ H1 _ I1 q1) fun iv s2 ⟨y,H2,I2,r2,q2⟩=>?_))
 refine wpAny_bind (wpAny_standAt (wpAny_bind (wpAny_holding (Zn (hs pins s2 σ H2 x y v ov iv u _ I2 r1 r2 r q2) fun _ s3 ⟨H3,I3,q3⟩=>?_))))
 exact wpAny_release ⟨σ,H3,I3,q3⟩
def tAsg (te:TE)(g:TG):TS:=fun D σ H=>te σ H fun x H1=>g x σ H1 D.nx
theorem WG {tg e:Expr}{te:TE}{g:TG}(he:PE X e te)(hg:PG X tg g)(hs:swapsWithSole [tg] e pos.line X.env=pure false:=by rfl)(hw:swappedStores [tg] e X.env=pure none:=by rfl)
   (h1:(assignEach [tg] X.env).map (·.2)=[assign tg X.env]:=by rfl):PS X (.Assign [tg] e pos) (tAsg te g):=by
 intro pins s σ H D I h
 refine wpAny_Assign_stores (Zn (he pins s σ H _ I h) fun v s1 ⟨x,H1,I1,r1,q1⟩=>?_) hs hw
 rw [h1]
 exact Zn (hg pins s1 σ H1 x v _ I1 r1 q1) fun _ s2 q=>q
theorem Zy {i:Nat}{x:Str}{e:Expr}{te:TE}{pos':Pos}(hN:X.N.Nodup)(hi:X.N[i]?=some x)(hx:Loc X.env.scope x)(he:PE X e te)(hs:swapsWith e (some (.Name x pos')) pos.line X.env=pure false:=by rfl)(hf:X.fn x=true∨X.env.scope.names.lookup x=some .local:=by first | exact .inl rfl | exact .inr rfl | assumption) :
   PS X (.Assign [.Name x pos'] e pos) (tAsg te (ZcZ i)):=by
 intro pins s σ H D I h
 refine wpAny_Assign_Name (Zn (he pins s σ H _ I h) fun v s1 ⟨y,H1,I1,r1,q1⟩=>?_) hs
 exact YU I1 hN hi hx r1 (fun s2 I2=>⟨_,H1,I2,q1⟩) hf
def tPar (i j:Nat)(ta:TA):TS:=fun D σ H=>ta σ H fun vs H1=>∃ v w,vs=[v,w]∧D.nx ((σ.set i (some v)).set j (some w)) H1
theorem ZbI {i j:Nat}{x y:Str}{a b:Expr}{ta:TA}{px py pt:Pos}{kt k2 pt2}(hc:X.calm=true)(hN:X.N.Nodup)(hi:X.N[i]?=some x)(hj:X.N[j]?=some y)(hij:i≠j)
   (hx:X.env.scope.names.lookup x=some .local) (hy:X.env.scope.names.lookup y=some .local) (ha:PA X [a,b] ta)
   (hw:swappedStores [.Tuple [.Name x px,.Name y py] kt pt] (.Tuple [a,b] k2 pt2) X.env=pure (some [x,y]))
   (hs:swapsWithSole [.Tuple [.Name x px,.Name y py] kt pt] (.Tuple [a,b] k2 pt2) pos.line X.env=pure false:=by rfl) :
   PS X (.Assign [.Tuple [.Name x px,.Name y py] kt pt] (.Tuple [a,b] k2 pt2) pos) (tPar i j ta):=by
 intro pins s σ H D I h
 rw [exec_Assign_arm]
 refine wpAny_bind (wpAny_standAt ?_)
 rw [hs]
 refine wpAny_bind (wpAny_pure ?_)
 rw [if_neg (by decide)]
 refine wpAny_bind (Tuple_ (Zn (ha _ pins s σ H _ I h) fun us s1 ⟨vs,H1,I1,r1,q1⟩=>?_))
 obtain ⟨v,w,e1,q1⟩:=q1
 subst e1
 obtain ⟨u1,u2,rfl,rv,rw'⟩:∃ u1 u2,us=[u1,u2]∧RelV v u1∧RelV w u2:=by
   cases r1 with
   | cons p q =>
     cases q with
     | cons p' q' =>
       cases q'
       exact ⟨_,_,rfl,p,p'⟩
 refine wpAny_newObj_type ?_ (by show 2≤sizeLine;decide)
 have I2:Inv X pins σ H1 { s1 with heap:=s1.heap.push { cls:=.type "tuple",data:=.seq [u1,u2].toArray } }:=I1.kept (t':=s1.toks) fun b o e=>Heap.get?_push_of_some _ e
 rw [hw]
 refine wpAny_bind (wpAny_pure ?_)
 show wpAny (model X.prog X.w) X.A (do rule "assign.swapped-stores";let items ← unpackItems (.ref s1.heap.objs.size) 2 none;assignInOrder [fun v=>bindName X.env y v,fun v=>bindName X.env x v] items.reverse;pure Flow.next) _ _ _
 refine wpAny_bind (wpAny_rule (wpAny_bind (unpackItems_tuple (items:=#[u1,u2]) (I.ok.hd hc) (IsTup.new s1.heap _) fun h' hx'=>?_)))
 have I3:=I2.kept (h':=h') (t':=s1.toks) fun b o e=>hx' b o (Nat.ne_of_lt (Heap.lt_size e)) e
 show wpAny _ _ (assignInOrder [fun v=>bindName X.env y v,fun v=>bindName X.env x v] [u2,u1] >>= fun _=>pure Flow.next) _ _ _
 refine wpAny_bind (assignInOrder_cons (wpAny_bindName (YU I3 hN hj (.inl hy) rw' (fun s2 I4=>?_) (.inr hy))))
 refine assignInOrder_cons (wpAny_bindName (YU I4 hN hi (.inl hx) rv (fun s3 I5=>assignInOrder_nil (wpAny_pure ?_)) (.inr hx)))
 rw [List.set_comm _ _ (Ne.symm hij)] at I5
 exact ⟨_,H1,I5,q1⟩
end
section
variable {X:Cx}{pos:Pos}
end
structure It where
 go:Nat→Hp→Prop
 yld:Nat→Hp→V→Hp→Prop
 stop:Nat→Hp→Prop
def Yp (X:Cx)(pins:List (Addr×Obj))(H:Hp)(b:Addr):Prop :=
 H b=none∧b≠X.env.locals∧b ∉ X.fs∧(b∈X.ex∨X.s₀.heap.objs.size≤b)∧(∀ x c,X.env.cells.lookup x=some c→c≠b)∧∀ p∈X.pn++pins,p.1≠b
theorem Inv.fpOk {X:Cx}{pins:List (Addr×Obj)}{σ:St}{H H':Hp}{s:Shared}{b:Addr}(I:Inv X pins σ H s)(hb:s.heap.objs.size≤b)(hn:H' b=none):Yp X pins H' b:=by
 refine ⟨hn,Nat.ne_of_gt (Nat.lt_of_lt_of_le I.lt hb),I.nofs hb,.inr (Nat.le_trans I.sz hb),fun x c e z=>?_,fun p hp z=>?_⟩
 · obtain ⟨v,q⟩:=I.cell x c e
   exact absurd (Nat.lt_of_lt_of_le q.lt (by rw [z];exact hb)) (Nat.lt_irrefl _)
 · exact absurd (Nat.lt_of_lt_of_le (Heap.lt_size (I.pin p hp).1) (by rw [z];exact hb)) (Nat.lt_irrefl _)
structure XT (P:Program)(w:World)(K:PySem.W.Frag)(tg:Expr)(J:It)(fp:List Addr)(it:Addr)(tn:Nat→Heap→Prop):Prop where
 mem:it∈fp
 obj:∀ i h,tn i h→∀ b∈fp,∃ o,h.get? b=some o∧∀ v,o.data≠.cell v
 keep:∀ i h h',tn i h→(∀ b∈fp,∀ o,h.get? b=some o→h'.get? b=some o)→tn i h'
 item:∀ (X:Cx),X.prog=P→X.w=w→X.K=K→X.calm=true→∀ (i:Nat) (pins:List (Addr×Obj)) (s:Shared) (σ:St) (H:Hp) (E:Value→Shared→Prop),Inv X pins σ H s→(∀ b∈fp,Yp X pins H b)→tn i s.heap→J.go i H →
   wpAny (model P w) X.A (pyNext (.ref it)) (fun r s1=>∃ u,r=some u ∧
     wpAny (model P w) X.A (letOwnedTupleGo tg (.ref it) u) (fun _ s2=>∃ x H',Inv X pins σ H' s2∧RelV x u∧J.yld i H x H'∧tn (i+1) s2.heap∧∀ b∈fp,H' b=none) E s1) E s
 done:∀ (X:Cx),X.prog=P→X.w=w→X.K=K→X.calm=true→∀ (i:Nat) (pins:List (Addr×Obj)) (s:Shared) (σ:St) (H:Hp) (E:Value→Shared→Prop),Inv X pins σ H s→(∀ b∈fp,Yp X pins H b)→tn i s.heap→J.stop i H →
   wpAny (model P w) X.A (pyNext (.ref it)) (fun r s1=>r=none∧Inv X pins σ H s1) E s
 self:∀ (A:Around) (i:Nat) (s:Shared) (Q:Value→Shared→Prop) (E:Value→Shared→Prop),tn i s.heap→Q (.ref it) s→wpAny (model P w) A (pyIter (.ref it)) Q E s
abbrev TI:=St→Hp→(It→Hp→Prop)→Prop
def PIE (X:Cx)(pins:List (Addr×Obj))(σ:St)(tg:Expr)(R:It→Hp→Prop)(itv:Value)(s2:Shared):Prop :=
 ∃ (it:Addr) (fp:List Addr) (tn:Nat→Heap→Prop) (J:It) (H':Hp),itv=.ref it∧Inv X pins σ H' s2∧XT X.prog X.w X.K tg J fp it tn∧tn 0 s2.heap∧(∀ b∈fp,Yp X pins H' b)∧R J H'
def PI (X:Cx)(tg iter:Expr)(wi:TI):Prop :=
 ∀ (pins:List (Addr×Obj)) (s:Shared) (σ:St) (H:Hp) (R:It→Hp→Prop),Inv X pins σ H s→wi σ H R →
   wpAny (model X.prog X.w) X.A (eval iter X.env) (fun v s1=>wpAny (model X.prog X.w) X.A (pyIter v) (PIE X pins σ tg R) X.xe s1) X.xe s
theorem Us {M:Model}{A:Around}{E:Value→Shared→Prop}{s:Shared}{tg:Expr}{it:Addr}{u:Value}{o:Obj}{n:String}{vs:Array Value}{Q:Unit→Shared→Prop}(ho:s.heap.get? it=some o)(hc:o.cls=.type n)(hd:o.data=.fields vs)
   (hn:["enumerate","zip","dict_itemiterator","dict_reverseitemiterator","odict_iterator","itertools.zip_longest","itertools.pairwise"].contains n=false) (hQ:Q () s):wpAny M A (letOwnedTupleGo tg (.ref it) u) Q E s:=by
 unfold letOwnedTupleGo
 cases tg <;> first
   | exact wpAny_pure hQ
   | (cases u<;>first
       | exact wpAny_pure hQ
       | (refine wpAny_bind (wpAny_load ho ?_)
          rw [hc,hd]
          show wpAny M A (if (["enumerate","zip","dict_itemiterator","dict_reverseitemiterator","odict_iterator","itertools.zip_longest","itertools.pairwise"].contains n&&vs[0]? == some (rawInt _))=true then _ else _) Q E s
          rw [if_neg (by intro h;rw [hn,Bool.false_and] at h;cases h)]
          exact wpAny_pure hQ))
def Itl (K:PySem.W.Frag)(a:Addr):It :=
 ⟨fun i H=>∃ xs x,SqL K H a xs∧xs[i]?=some x,fun i H x H'=>H'=H∧∀ xs,SqL K H a xs→xs[i]?=some x,fun i H=>∃ xs,SqL K H a xs∧xs.length≤i⟩
def Itt (K:PySem.W.Frag)(a:Addr):It :=
 ⟨fun i H=>∃ xs x,SqT K H a xs∧xs[i]?=some x,fun i H x H'=>H'=H∧∀ xs,SqT K H a xs→xs[i]?=some x,fun i H=>∃ xs,SqT K H a xs∧xs.length≤i⟩
def Ud (lo:Int)(n:Nat):It:=⟨fun i _=>i < n,fun i H x H'=>H'=H∧x=.int (lo+i),fun i _=>n≤i⟩
theorem ZbP {P:Program}{w:World}{K:PySem.W.Frag}{tg:Expr}(a it:Addr):XT P w K tg (Itl K a) [it] it (fun i h=>h.IsListIter it a i) where
 mem:=by simp
 obj:=fun i h st b hb=>by
   have e:b=it:=by simpa using hb
   subst e
   obtain ⟨o,e,c,d⟩:=st
   exact ⟨o,e,fun v z=>by rw [d] at z;cases z⟩
 keep:=fun i h h' st k=>st.at fun o e=>k it (by simp) o e
 item:=by
   intro X hP hw hK hc i pins s σ H E I hf st hg
   subst hP hw hK
   obtain ⟨xs,x,hq,hx⟩:=hg
   obtain ⟨its,rv,p,hz⟩:=I.list hq
   obtain ⟨u,hu,ru⟩:=rv.get hx
   obtain ⟨f0,f1,f2,f3,f4,f5⟩:=hf it (by simp)
   refine wpAny_pyNext_list_item st p.isList (x:=u) (by simpa using hu) fun h' st' sb=>?_
   have I1:Inv X pins σ H { s with heap:=h' }:=I.turned (t':=s.toks) (fun b o hb e=>(sb.2 b hb).trans e) f0 f1 f3 f4 f5
   obtain ⟨o,e,c,d⟩:=id st'
   exact ⟨u,rfl,Us (s:={ s with heap:=h' }) e c d (by decide) ⟨x,H,I1,ru,⟨rfl,fun ys hy=>by rw [I.list_inj hy hq];exact hx⟩,st',fun b hb=>(hf b hb).1⟩⟩
 done:=by
   intro X hP hw hK hc i pins s σ H E I hf st hg
   subst hP hw hK
   obtain ⟨xs,hq,hx⟩:=hg
   obtain ⟨its,rv,p,hz⟩:=I.list hq
   obtain ⟨f0,f1,f2,f3,f4,f5⟩:=hf it (by simp)
   have hl:=rv.length
   exact wpAny_pyNext_list_end (I.ok.hd hc) st p.isList (by simp;omega) fun h' eb=>⟨rfl,I.turned (t':=s.toks) (fun b o hb e=>eb b o hb e) f0 f1 f3 f4 f5⟩
 self:=fun _ _ _ _ _ st h=>wpAny_pyIter_listiter st h
theorem Zbe {P:Program}{w:World}{K:PySem.W.Frag}{tg:Expr}(a it:Addr):XT P w K tg (Itt K a) [it] it (fun i h=>h.IsTupleIter it a i) where
 mem:=by simp
 obj:=fun i h st b hb=>by
   have e:b=it:=by simpa using hb
   subst e
   obtain ⟨o,e,c,d⟩:=st
   exact ⟨o,e,fun v z=>by rw [d] at z;cases z⟩
 keep:=fun i h h' st k=>st.at fun o e=>k it (by simp) o e
 item:=by
   intro X hP hw hK hc i pins s σ H E I hf st hg
   subst hP hw hK
   obtain ⟨xs,x,hq,hx⟩:=hg
   obtain ⟨its,rv,p,hz⟩:=I.tuple hq
   obtain ⟨u,hu,ru⟩:=rv.get hx
   obtain ⟨f0,f1,f2,f3,f4,f5⟩:=hf it (by simp)
   refine wpAny_pyNext_tuple_item st (show s.heap.IsTuple a its.toArray from p) (x:=u) (by simpa using hu) fun h' st' sb=>?_
   have I1:Inv X pins σ H { s with heap:=h' }:=I.turned (t':=s.toks) (fun b o hb e=>(sb.2 b hb).trans e) f0 f1 f3 f4 f5
   obtain ⟨o,e,c,d⟩:=id st'
   exact ⟨u,rfl,Us (s:={ s with heap:=h' }) e c d (by decide) ⟨x,H,I1,ru,⟨rfl,fun ys hy=>by rw [I.tuple_inj hy hq];exact hx⟩,st',fun b hb=>(hf b hb).1⟩⟩
 done:=by
   intro X hP hw hK hc i pins s σ H E I hf st hg
   subst hP hw hK
   obtain ⟨xs,hq,hx⟩:=hg
   obtain ⟨its,rv,p,hz⟩:=I.tuple hq
   obtain ⟨f0,f1,f2,f3,f4,f5⟩:=hf it (by simp)
   have hl:=rv.length
   exact wpAny_pyNext_tuple_end (I.ok.hd hc) st (show s.heap.IsTuple a its.toArray from p) (by simp;omega) fun h' eb=>⟨rfl,I.turned (t':=s.toks) (fun b o hb e=>eb b o hb e) f0 f1 f3 f4 f5⟩
 self:=fun _ _ _ _ _ st h=>wpAny_pyIter_tupleiter st h
theorem ZaX {P:Program}{w:World}{K:PySem.W.Frag}{tg:Expr}(it:Addr)(lo:Int)(n:Nat):XT P w K tg (Ud lo n) [it] it (fun i h=>IsRangeIter h it (lo+(i:Nat) * 1) ((n:Int) - (i:Nat)) 1) where
 mem:=by simp
 obj := fun i h st b hb=>by
   have e:b=it:=by simpa using hb
   subst e
   exact ⟨_,st,fun v z=>by
     have z':Data.fields _=Data.cell v:=z
     cases z'⟩
 keep:=fun i h h' st k=>k it (by simp) _ st
 item:=by
   intro X hP hw hK hc i pins s σ H E I hf st hg
   subst hP hw hK
   obtain ⟨f0,f1,f2,f3,f4,f5⟩:=hf it (by simp)
   have W:=Walks.range (prog:=X.prog) (w:=X.w) (I.ok.hd hc) it lo 1 n
   refine W.item i s _ _ hg st fun v h' tk hv st' kk=>?_
   obtain ⟨t,rfl⟩:=hv
   have I1:Inv X pins σ H { s with heap:=h',toks:=tk }:=I.turned (fun b o hb e=>kk b o (by simpa using hb) e) f0 f1 f3 f4 f5
   refine ⟨_,rfl,Us (s:={ s with heap:=h',toks:=tk }) (n:="range_iterator") st' rfl rfl (by decide) ⟨.int (lo+i),H,I1,⟨t,?_⟩,⟨rfl,rfl⟩,st',fun b hb=>(hf b hb).1⟩⟩
   rw [Int.mul_one]
 done:=by
   intro X hP hw hK hc i pins s σ H E I hf st hg
   subst hP hw hK
   obtain ⟨f0,f1,f2,f3,f4,f5⟩:=hf it (by simp)
   exact wpAny_pyNext_range_end (I.ok.hd hc) st (by have:n≤i:=hg;omega) fun h' eb=>⟨rfl,I.turned (t':=s.toks) (fun b o hb e=>eb b o hb e) f0 f1 f3 f4 f5⟩
 self:=fun _ _ _ _ _ st h=>wpAny_pyIter_rangeiter st h
end L2
namespace L2
open PySem PySem.Spec PyProof.Rows
section
variable {X:Cx}{tg:Expr}
def Zfi (K:PySem.W.Frag)(tl:TE):TI:=fun σ H R=>tl σ H fun x H1=>∃ a,x=.ref a∧(∃ xs,SqL K H1 a xs)∧R (Itl K a) H1
def iTup (K:PySem.W.Frag)(tl:TE):TI:=fun σ H R=>tl σ H fun x H1=>∃ a,x=.ref a∧(∃ xs,SqT K H1 a xs)∧R (Itt K a) H1
theorem ZdH {l:Expr}{tl:TE}(hl:PE X l tl):PI X tg l (Zfi X.K tl):=by
 intro pins s σ H R I h
 refine Zn (hl pins s σ H _ I h) fun v s1 ⟨x,H1,I1,r1,q1⟩=>?_
 obtain ⟨a,e,⟨xs,hq⟩,q⟩:=q1
 subst e
 cases r1
 obtain ⟨its,rv,p,hz⟩:=I1.list hq
 refine wpAny_pyIter_list p.isList ?_
 refine ⟨s1.heap.objs.size,[s1.heap.objs.size],_,_,H1,rfl,I1.kept (t':=s1.toks) fun b o e=>Heap.get?_push_of_some _ e,ZbP a _,⟨_,Heap.get?_push_size _ rfl,rfl,rfl⟩,fun b hb=>?_,q⟩
 have e:b=s1.heap.objs.size:=by simpa using hb
 subst e
 exact I1.fpOk (Nat.le_refl _) (I1.hok.fresh (Nat.le_refl _))
theorem Uc {l:Expr}{tl:TE}(hl:PE X l tl):PI X tg l (iTup X.K tl):=by
 intro pins s σ H R I h
 refine Zn (hl pins s σ H _ I h) fun v s1 ⟨x,H1,I1,r1,q1⟩=>?_
 obtain ⟨a,e,⟨xs,hq⟩,q⟩:=q1
 subst e
 cases r1
 obtain ⟨its,rv,p,hz⟩:=I1.tuple hq
 refine wpAny_pyIter_tuple (show s1.heap.IsTuple a its.toArray from p) ?_
 refine ⟨s1.heap.objs.size,[s1.heap.objs.size],_,_,H1,rfl,I1.kept (t':=s1.toks) fun b o e=>Heap.get?_push_of_some _ e,Zbe a _,⟨_,Heap.get?_push_size _ rfl,rfl,rfl⟩,fun b hb=>?_,q⟩
 have e:b=s1.heap.objs.size:=by simpa using hb
 subst e
 exact I1.fpOk (Nat.le_refl _) (I1.hok.fresh (Nat.le_refl _))
theorem ZcM {pins:List (Addr×Obj)}{σ:St}{H:Hp}{s:Shared}{R:It→Hp→Prop}{E:Value→Shared→Prop}{lo hi:Int}{t u v:Tok}{tk:Nat}(I:Inv X pins σ H s)(h1:-(2 ^ 62)≤lo)(h2:lo < 2 ^ 62)(h3:-(2 ^ 62)≤hi)(h4:hi < 2 ^ 62)
   (q:R (Ud lo (hi - lo).toNat) H):wpAny (model X.prog X.w) X.A (pyIter (.ref s.heap.objs.size)) (PIE X pins σ tg R) E { s with heap:=s.heap.push { cls:=.type "range",data:=.fields #[.int lo t,.int hi u,.int 1 v] },toks:=tk }:=by
 refine wpAny_pyIter_range (IsRange.new ..) (small_one h1 h2 h3 h4) ?_
 have I1:Inv X pins σ H { s with heap:=s.heap.push { cls:=.type "range",data:=.fields #[.int lo t,.int hi u,.int 1 v] },toks:=tk }:=I.kept fun b o e=>Heap.get?_push_of_some _ e
 refine ⟨(s.heap.push { cls:=.type "range",data:=.fields #[.int lo t,.int hi u,.int 1 v] }).objs.size,[(s.heap.push { cls:=.type "range",data:=.fields #[.int lo t,.int hi u,.int 1 v] }).objs.size],_,_,H,rfl,
   I1.kept (t':=tk) fun b o e=>Heap.get?_push_of_some _ e,ZaX _ lo (hi - lo).toNat,?_,fun b hb=>?_,q⟩
 · have e1:lo+((0:Nat):Int) * 1=lo:=by simp
   have e2:(((hi - lo).toNat:Nat):Int) - ((0:Nat):Int)=Builtin.Range.rangeSize lo hi 1:=by rw [rangeSize_one];split<;>omega
   show IsRangeIter _ _ (lo+((0:Nat):Int) * 1) ((((hi - lo).toNat:Nat):Int) - ((0:Nat):Int)) 1
   rw [e1,e2]
   exact Heap.get?_push_size _ rfl
 · have e:b=(s.heap.push { cls:=.type "range",data:=.fields #[.int lo t,.int hi u,.int 1 v] }).objs.size:=by simpa using hb
   subst e
   exact I1.fpOk (Nat.le_refl _) (I1.hok.fresh (Nat.le_refl _))
def ZeT (ta:TA):TI:=fun σ H R=>ta σ H fun vs H1=>∃ j:Int,vs=[.int j]∧-(2 ^ 62)≤j∧j < 2 ^ 62∧R (Ud 0 j.toNat) H1
theorem YH {a:Expr}{ta:TA}{p pos:Pos}(hg:Gl X "range")(hm:X.mg "range"=none)(ha:PA X [a] ta)(hs:starEach [a] X.env=[(false,eval a X.env)]:=by rfl):PI X tg (.Call (.Name "range" p) [a] [] pos) (ZeT ta):=by
 intro pins s σ H R I h
 refine Call_ (Wd I hg hm boot_range (PyProof.Rows.callWith_type1 (Zn (ha pos pins s σ H _ I h) fun us s1 ⟨vs,H1,I1,r1,q1⟩=>?_) hs rfl))
 obtain ⟨j,e,q1,q2,q⟩:=q1
 subst e
 cases r1 with
 | cons r rr =>
   cases rr
   obtain ⟨t,rfl⟩:=r
   exact call_range_1 (ZcM I1 (by omega) (by omega) q1 q2 (by simpa using q))
def tFor (wi:TI)(g:TG)(tb:TS):TS:=fun D σ H=>wi σ H fun J H1=>∃ W:Nat→Nat→St→Hp→Prop,(∃ m,W 0 m σ H1)∧∀ i m σ H,W i m σ H →
 (J.stop i H∧D.nx σ H)∨(J.go i H∧∃ N:St→Hp→Prop,(∀ σ' H',N σ' H'→∃ m',m' < m∧W (i+1) m' σ' H')∧∀ x H',J.yld i H x H'→g x σ H' fun σ2 H2=>tb { D with nx:=N,ct:=N,bk:=D.nx } σ2 H2)
def Ul (fp:List Addr)(h:Heap):List (Addr×Obj):=fp.filterMap fun b=>(h.get? b).map fun o=>(b,o)
theorem YM {fp:List Addr}{h:Heap}{b:Addr}{o:Obj}(hb:b∈fp)(e:h.get? b=some o):(b,o)∈Ul fp h:=List.mem_filterMap.mpr ⟨b,hb,by rw [e];rfl⟩
theorem Zcc {fp:List Addr}{h:Heap}{p:Addr×Obj}(hp:p∈Ul fp h):p.1∈fp∧h.get? p.1=some p.2:=by
 obtain ⟨b,hb,e⟩:=List.mem_filterMap.mp hp
 cases q:h.get? b with
 | none=>rw [q] at e;cases e
 | some o =>
   rw [q] at e
   have e':(b,o)=p:=Option.some.inj e
   subst e'
   exact ⟨hb,q⟩
theorem Inv.pinned {pins:List (Addr×Obj)}{σ:St}{H:Hp}{s:Shared}{fp:List Addr}(I:Inv X pins σ H s)(hf:∀ b∈fp,Yp X pins H b)(ho:∀ b∈fp,∃ o,s.heap.get? b=some o∧∀ v,o.data≠.cell v):Inv X (pins++Ul fp s.heap) σ H s :=
 I.pins_of fun p hp=>(List.mem_append.mp hp).elim (fun z=>I.pin p (List.mem_append_right _ z)) fun z=>by
   obtain ⟨hb,e⟩:=Zcc z
   obtain ⟨f0,f1,f2,_⟩:=hf p.1 hb
   obtain ⟨o,e',d⟩:=ho p.1 hb
   rw [e] at e';cases e'
   exact ⟨e,f0,f1,f2,d⟩
theorem Inv.unpinned {pins pl:List (Addr×Obj)}{σ:St}{H:Hp}{s:Shared}(I:Inv X (pins++pl) σ H s):Inv X pins σ H s:=I.pins_of fun p hp=>I.pin p (List.mem_append_right _ (List.mem_append_left _ hp))
theorem Wb {iter:Expr}{body:List Stmt}{wi:TI}{g:TG}{tb:TS}{pos:Pos}(hp:PassesOwn (model X.prog X.w) X.A X.env X.xe)(hc:X.calm=true)(hi:PI X tg iter wi)(hg:PG X tg g)(hb:PSs X body tb)
   (hs:∀ x,foldedSetIterable iter X.env x=pure x:=by intro _;rfl):PS X (.For tg iter body [] pos) (tFor wi g tb):=by
 intro pins s σ H D I h
 refine wpAny_For (Zn (hi pins s σ H _ I h) fun v s1 h1=>Zn h1 fun itv s2 h2=>?_) hs
 obtain ⟨it,fp,tn,J,H2,e,I2,T,st2,f2,W,⟨m0,w0⟩,turn⟩:=h2
 subst e
 have stat:∀ {H':Hp},(∀ b∈fp,H' b=none)→∀ b∈fp,Yp X pins H' b:=fun hn b hb=>⟨hn b hb,(f2 b hb).2⟩
 refine codeAny_forLoop_any (fun n s'=>∃ i σ' H',Inv X pins σ' H' s'∧tn i s'.heap∧(∀ b∈fp,H' b=none)∧W i n σ' H') ?_ m0 ⟨0,σ,H2,I2,st2,fun b hb=>(f2 b hb).1,w0⟩
 rintro n s3 ⟨i,σ3,H3,I3,st3,fr3,w3⟩
 rcases turn i n σ3 H3 w3 with ⟨stop,qn⟩ | ⟨go,N,hN,step⟩
 · refine wpAny_passesOwn hp (Zn (T.done X rfl rfl rfl hc i pins s3 σ3 H3 X.xe I3 (stat fr3) st3 stop) fun r s4 ⟨hr,I4⟩=>?_)
   subst hr
   exact wpAny_execs_nil ⟨σ3,H3,I4,qn⟩
 · refine wpAny_passesOwn hp (Zn (T.item X rfl rfl rfl hc i pins s3 σ3 H3 X.xe I3 (stat fr3) st3 go) fun r s4 ⟨u,hr,h4⟩=>?_)
   subst hr
   refine wpAny_passesOwn hp (Zn h4 fun _ s5 ⟨x,H5,I5,r5,y5,st5,fr5⟩=>?_)
   have I5':=I5.pinned (stat fr5) (T.obj _ _ st5)
   refine wpAny_passesOwn hp (Zn (hg _ s5 σ3 H5 x u _ I5' r5 (step x H5 y5)) fun _ s6 ⟨σ6,H6,I6,q6⟩=>?_)
   refine wpAny_passesOwn hp (Zn (hb _ s6 σ6 H6 _ I6 q6) fun f s7 q7=>?_)
   have again:∀ {σ7:St} {H7:Hp},Inv X (pins++Ul fp s5.heap) σ7 H7 s7→N σ7 H7→∃ m,m < n∧∃ i σ' H',Inv X pins σ' H' s7∧tn i s7.heap∧(∀ b∈fp,H' b=none)∧W i m σ' H':=fun {σ7 H7} I7 n7=>by
     obtain ⟨m',hm,w7⟩:=hN σ7 H7 n7
     refine ⟨m',hm,i+1,σ7,H7,I7.unpinned,T.keep _ _ _ st5 fun b hb o e=>(I7.pin (b,o) (List.mem_append_right _ (List.mem_append_right _ (YM hb e)))).1,fun b hb=>?_,w7⟩
     obtain ⟨o,e,d⟩:=T.obj _ _ st5 b hb
     exact (I7.pin (b,o) (List.mem_append_right _ (List.mem_append_right _ (YM hb e)))).2.1
   cases f with
   | next=>obtain ⟨σ7,H7,I7,n7⟩:=q7;exact again I7 n7
   | cont=>obtain ⟨σ7,H7,I7,n7⟩:=q7;exact again I7 n7
   | brk=>obtain ⟨σ7,H7,I7,q7⟩:=q7;exact ⟨σ7,H7,I7.unpinned,q7⟩
   | ret v=>obtain ⟨x7,σ7,H7,I7,r7,q7⟩:=q7;exact ⟨x7,σ7,H7,I7.unpinned,r7,q7⟩
end
theorem ZdS {K:PySem.W.Frag}{a:Addr}{xs:List V}{g:TG}{tb:TS}{D:WT}{σ:St}{H:Hp}(Pv:Nat→St→Hp→Prop)(h0:Pv 0 σ H)(hl:∀ i σ H,i≤xs.length→Pv i σ H→SqT K H a xs)
   (hs:∀ i x σ H,xs[i]?=some x→Pv i σ H→g x σ H fun σ2 H2=>tb { D with nx:=Pv (i+1),ct:=Pv (i+1),bk:=D.nx } σ2 H2) (hd:∀ σ H,Pv xs.length σ H→D.nx σ H) :
   ∃ W:Nat→Nat→St→Hp→Prop,(∃ m,W 0 m σ H)∧∀ i m σ H,W i m σ H →
     ((Itt K a).stop i H∧D.nx σ H)∨((Itt K a).go i H∧∃ N:St→Hp→Prop,(∀ σ' H',N σ' H'→∃ m',m' < m∧W (i+1) m' σ' H')∧∀ x H',(Itt K a).yld i H x H'→g x σ H' fun σ2 H2=>tb { D with nx:=N,ct:=N,bk:=D.nx } σ2 H2):=by
 refine ⟨fun i m σ H=>m=xs.length - i∧i≤xs.length∧Pv i σ H,⟨xs.length,by simp,Nat.zero_le _,h0⟩,?_⟩
 rintro i m σ H ⟨rfl,hi,p⟩
 have q:=hl i σ H hi p
 by_cases hlt:i < xs.length
 · refine .inr ⟨⟨xs,xs[i],q,by simp [hlt]⟩,Pv (i+1),fun σ' H' p'=>⟨xs.length - (i+1),by omega,rfl,hlt,p'⟩,fun x H' y=>?_⟩
   obtain ⟨e,y⟩:=y
   subst e
   exact hs i x σ _ (y xs q) p
 · have e:i=xs.length:=by omega
   subst e
   exact .inl ⟨⟨xs,q,Nat.le_refl _⟩,hd σ H p⟩
theorem Xp {lo:Int}{n:Nat}{g:TG}{tb:TS}{D:WT}{σ:St}{H:Hp}(Pv:Nat→St→Hp→Prop)(h0:Pv 0 σ H)
   (hs:∀ i σ H,i < n→Pv i σ H→g (.int (lo+i)) σ H fun σ2 H2=>tb { D with nx:=Pv (i+1),ct:=Pv (i+1),bk:=D.nx } σ2 H2) (hd:∀ σ H,Pv n σ H→D.nx σ H) :
   ∃ W:Nat→Nat→St→Hp→Prop,(∃ m,W 0 m σ H)∧∀ i m σ H,W i m σ H →
     ((Ud lo n).stop i H∧D.nx σ H)∨((Ud lo n).go i H∧∃ N:St→Hp→Prop,(∀ σ' H',N σ' H'→∃ m',m' < m∧W (i+1) m' σ' H')∧∀ x H',(Ud lo n).yld i H x H'→g x σ H' fun σ2 H2=>tb { D with nx:=N,ct:=N,bk:=D.nx } σ2 H2):=by
 refine ⟨fun i m σ H=>m=n - i∧i≤n∧Pv i σ H,⟨n,by simp,Nat.zero_le _,h0⟩,?_⟩
 rintro i m σ H ⟨rfl,hi,p⟩
 by_cases hlt:i < n
 · refine .inr ⟨hlt,Pv (i+1),fun σ' H' p'=>⟨n - (i+1),by omega,rfl,hlt,p'⟩,fun x H' y=>?_⟩
   obtain ⟨e,y⟩:=y
   subst e y
   exact hs i σ _ hlt p
 · have e:i=n:=by omega
   subst e
   exact .inl ⟨Nat.le_refl _,hd σ H p⟩
end L2
namespace L2
open PySem PySem.Spec PyProof.Rows
abbrev R2:=V→V→Hp→VK→Prop
def Yh (X:Cx)(f:Value→Value→Sem Value)(r:R2):Prop :=
 ∀ (pins:List (Addr×Obj)) (s:Shared) (σ:St) (H:Hp) (x y:V) (v u:Value) (Q:VK),Inv X pins σ H s→RelV x v→RelV y u→r x y H Q →
   wpAny (model X.prog X.w) X.A (f v u) (EP X pins σ Q) X.xe s
def UnR (X:Cx)(f:Value→Sem Value)(r:V→Hp→VK→Prop):Prop :=
 ∀ (pins:List (Addr×Obj)) (s:Shared) (σ:St) (H:Hp) (x:V) (v:Value) (Q:VK),Inv X pins σ H s→RelV x v→r x H Q →
   wpAny (model X.prog X.w) X.A (f v) (EP X pins σ Q) X.xe s
def YG (X:Cx)(f:Value)(r:List V→Hp→VK→Prop):Prop :=
 ∀ (pins:List (Addr×Obj)) (s:Shared) (σ:St) (H:Hp) (xs:List V) (us:List Value) (Q:VK),Inv X pins σ H s→Vals xs us→r xs H Q →
   wpAny (model X.prog X.w) X.A (call f us) (EP X pins σ Q) X.xe s
def TruR (X:Cx)(r:V→Hp→(Bool→Hp→Prop)→Prop):Prop :=
 ∀ (pins:List (Addr×Obj)) (s:Shared) (σ:St) (H:Hp) (x:V) (v:Value) (Q:Bool→Hp→Prop),Inv X pins σ H s→RelV x v→r x H Q →
   wpAny (model X.prog X.w) X.A (truthy v) (TP X pins σ Q) X.xe s
def tOp (r:R2)(ta tb:TE):TE:=fun σ H Q=>ta σ H fun x H1=>tb σ H1 fun y H2=>r x y H2 Q
def tUn (r:V→Hp→VK→Prop)(ta:TE):TE:=fun σ H Q=>ta σ H fun x H1=>r x H1 Q
def rI (C:Int→Int→Prop)(g:Int→Int→V):R2:=fun x y H Q=>∃ i j,x=.int i∧y=.int j∧C i j∧Q (g i j) H
def US (g:Int→Int→V):R2:=fun x y H Q=>∃ i j,x=.int i∧y=.int j∧Q (g i j) H
def rU (g:Int→V):V→Hp→VK→Prop:=fun x H Q=>∃ i,x=.int i∧Q (g i) H
section
variable {X:Cx}{a b c:Expr}{ta tb tc:TE}{pos:Pos}
theorem ZcO (ha:PE X a ta)(hb:PE X b tb){pins:List (Addr×Obj)}{s:Shared}{σ:St}{H:Hp}{R:V→V→Hp→Prop}(I:Inv X pins σ H s)
   (h:ta σ H fun x H1=>tb σ H1 fun y H2=>R x y H2) {Q:Value→Shared→Prop} {f:Value→Value→Sem Value}
   (hf:∀ v u s2 x y H2,Inv X pins σ H2 s2→RelV x v→RelV y u→R x y H2→wpAny (model X.prog X.w) X.A (f v u) Q X.xe s2) :
   wpAny (model X.prog X.w) X.A (eval a X.env) (fun v s₁=>wpAny (model X.prog X.w) X.A (eval b X.env) (fun u s₂=>wpAny (model X.prog X.w) X.A (f v u) Q X.xe s₂) X.xe s₁) X.xe s:=by
 refine Zn (ha pins s σ H _ I h) fun v s1 ⟨x,H1,I1,r1,q1⟩=>?_
 refine Zn (hb pins s1 σ H1 _ I1 q1) fun u s2 ⟨y,H2,I2,r2,q2⟩=>?_
 exact hf v u s2 x y H2 I2 r1 r2 q2
theorem Zk {op:Operator}{r:R2}(ho:Yh X (binaryOp op) r)(ha:PE X a ta)(hb:PE X b tb):PE X (.BinOp a op b pos) (tOp r ta tb):=by
 intro pins s σ H Q I h
 exact wpAny_BinOp (ZcO ha hb I h fun v u s2 x y H2 I2 rx ry q=>ho pins s2 σ H2 x y v u Q I2 rx ry q)
theorem Zfq {op:UnaryOp}{r:V→Hp→VK→Prop}(ho:UnR X (unaryOp op) r)(ha:PE X a ta):PE X (.UnaryOp op a pos) (tUn r ta):=by
 intro pins s σ H Q I h
 exact UnaryOp_ (Zn (ha pins s σ H _ I h) fun v s1 ⟨x,H1,I1,r1,q1⟩=>ho pins s1 σ H1 x v Q I1 r1 q1)
theorem opI {f:Value→Value→Sem Value}{C:Int→Int→Prop}{g:Int→Int→Int}
   (rule:∀ (i j:Int) (t u:Tok) (s:Shared) (Q:Value→Shared→Prop) (E:Value→Shared→Prop),C i j→Q (.int (g i j) s.toks) { s with toks:=s.toks+1 }→wpAny (model X.prog X.w) X.A (f (.int i t) (.int j u)) Q E s) :
   Yh X f (rI C fun i j=>.int (g i j)):=by
 intro pins s σ H x y v u Q I rx ry h
 obtain ⟨i,j,rfl,rfl,hc,q⟩:=h
 obtain ⟨t,rfl⟩:=rx
 obtain ⟨t',rfl⟩:=ry
 exact rule i j t t' s _ _ hc ⟨.int (g i j),H,I.tok _,⟨_,rfl⟩,q⟩
theorem opI0 {f:Value→Value→Sem Value}{g:Int→Int→Int}
   (rule:∀ (i j:Int) (t u:Tok) (s:Shared) (Q:Value→Shared→Prop) (E:Value→Shared→Prop),Q (.int (g i j) s.toks) { s with toks:=s.toks+1 }→wpAny (model X.prog X.w) X.A (f (.int i t) (.int j u)) Q E s) :
   Yh X f (US fun i j=>.int (g i j)):=by
 intro pins s σ H x y v u Q I rx ry h
 obtain ⟨i,j,rfl,rfl,q⟩:=h
 obtain ⟨t,rfl⟩:=rx
 obtain ⟨t',rfl⟩:=ry
 exact rule i j t t' s _ _ ⟨.int (g i j),H,I.tok _,⟨_,rfl⟩,q⟩
theorem Zbd {f:Value→Value→Sem Value}{g:Int→Int→Bool}
   (rule:∀ (i j:Int) (t u:Tok) (s:Shared) (Q:Value→Shared→Prop) (E:Value→Shared→Prop),Q (.bool (g i j)) s→wpAny (model X.prog X.w) X.A (f (.int i t) (.int j u)) Q E s) :
   Yh X f (US fun i j=>.bl (g i j)):=by
 intro pins s σ H x y v u Q I rx ry h
 obtain ⟨i,j,rfl,rfl,q⟩:=h
 obtain ⟨t,rfl⟩:=rx
 obtain ⟨t',rfl⟩:=ry
 exact rule i j t t' s _ _ ⟨.bl (g i j),H,I,rfl,q⟩
def CDiv (i j:Int):Prop:=0 < j∧j < 1073741824
def CPow (i j:Int):Prop:=0≤j∧j≤1000000∧i.natAbs < 2 ^ 64
def CMul (i j:Int):Prop:=(-(2 ^ 64) < i∧i < 2 ^ 64)∨(-(2 ^ 64) < j∧j < 2 ^ 64)
theorem CMul.ok {i j:Int}(h:CMul i j):IntMulOk i j:=by
 rcases h with ⟨h1,h2⟩ | ⟨h1,h2⟩
 · exact .of_left (intBits_le_64 h1 h2)
 · exact .of_right (intBits_le_64 h1 h2)
theorem ZU:Yh X (binaryOp .Add) (US fun i j=>.int (i+j)):=opI0 fun _ _ _ _ _ _ _ q=>add_int q
theorem XD:Yh X (binaryOp .Sub) (US fun i j=>.int (i - j)):=opI0 fun _ _ _ _ _ _ _ q=>sub_int q
theorem Xm:Yh X (binaryOp .Mult) (rI CMul fun i j=>.int (i * j)):=opI fun _ _ _ _ _ _ _ hc q=>mul_int q hc.ok
theorem ZdW:Yh X (binaryOp .FloorDiv) (rI CDiv fun i j=>.int (i / j)):=opI fun i j _ _ _ _ _ hc q=>by
 have h1:(0:Int) < j:=hc.1
 have h2:j < 1073741824:=hc.2
 exact floordiv_int (by omega) (by rw [Int.fdiv_eq_ediv_of_nonneg i (by omega)];exact q) (.inl (PyProof.noPylong_small (by omega)))
theorem Xc:Yh X (binaryOp .Mod) (rI (fun _ j=>0 < j) fun i j=>.int (i % j)):=opI fun i j _ _ _ _ _ hc q=>by
 have h1:(0:Int) < j:=hc
 exact mod_int' (by omega) (by rw [Int.fmod_eq_emod_of_nonneg i (by omega)];exact q)
theorem Wv:Yh X (binaryOp .Pow) (rI CPow fun i j=>.int (i ^ j.toNat)):=opI fun _ _ _ _ _ _ _ hc q=>pow_int_small hc.1 hc.2.1 hc.2.2 q
theorem unI {f:Value→Sem Value}{g:Int→Int}
   (rule:∀ (i:Int) (t:Tok) (s:Shared) (Q:Value→Shared→Prop) (E:Value→Shared→Prop),Q (.int (g i) s.toks) { s with toks:=s.toks+1 }→wpAny (model X.prog X.w) X.A (f (.int i t)) Q E s) :
   UnR X f (rU fun i=>.int (g i)):=by
 intro pins s σ H x v Q I rx h
 obtain ⟨i,rfl,q⟩:=h
 obtain ⟨t,rfl⟩:=rx
 exact rule i t s _ _ ⟨.int (g i),H,I.tok _,⟨_,rfl⟩,q⟩
theorem ZeI:UnR X (unaryOp .USub) (rU fun i=>.int (-i)):=unI fun _ _ _ _ _ q=>neg_int q
end
def scal:V→V→Bool
 | .non,.non=>true | .non,.int _=>true | .int _,.non=>true | .non,.bl _=>true | .bl _,.non=>true | .non,.str _=>true | .str _,.non=>true
 | .int _,.int _=>true | .bl _,.bl _=>true | .str _,.str _=>true | .byt _,.byt _=>true
 | .int _,.str _=>true | .str _,.int _=>true | .bl _,.str _=>true | .str _,.bl _=>true
 | _,_=>false
def rEq:R2:=fun x y H Q=>scal x y=true∧Q (.bl (decide (x=y))) H
def rNe:R2:=fun x y H Q=>scal x y=true∧Q (.bl (!decide (x=y))) H
theorem Zaz {i j:Int}:decide (V.int i=V.int j)=(i == j):=by
 rw [Bool.eq_iff_iff]
 simp
theorem Zbv {i j:Bool}:decide (V.bl i=V.bl j)=(i == j):=by
 rw [Bool.eq_iff_iff]
 simp
theorem Zax {i j:Str}:decide (V.str i=V.str j)=(i == j):=by
 rw [Bool.eq_iff_iff]
 simp
theorem Zag {i j:Array UInt8}:decide (V.byt i=V.byt j)=(i.toList == j.toList):=by
 rw [Bool.eq_iff_iff]
 cases i
 cases j
 simp
section
variable {X:Cx}{a b c:Expr}{ta tb tc:TE}{pos:Pos}
theorem Zw {pins:List (Addr×Obj)}{σ:St}{H:Hp}{s:Shared}{Q:VK}{k k':Bool}(I:Inv X pins σ H s)(q:Q (.bl k) H)(e:k=k'):EP X pins σ Q (.bool k') s:=by
 subst e
 exact ⟨.bl k,H,I,rfl,q⟩
theorem ZV:Yh X (compareOp .Eq) rEq:=by
 intro pins s σ H x y v u Q I rx ry h
 obtain ⟨hs,q⟩:=h
 cases x with
 | non =>
   cases rx
   cases y with
   | non=>cases ry;exact PySem.EqNone.eq_none_none (Zw I q (by simp))
   | bl j=>cases ry;exact PySem.EqNone.eq_none_bool (Zw I q (by simp))
   | int j=>obtain ⟨t',rfl⟩:=ry;exact PySem.EqNone.eq_none_int (Zw I q (by simp))
   | str j=>obtain ⟨t',rfl⟩:=ry;exact PySem.EqNone.eq_none_str (Zw I q (by simp))
   | _=>exact absurd (show false=true from hs) Bool.false_ne_true
 | bl i =>
   cases rx
   cases y with
   | non=>cases ry;exact PySem.EqNone.eq_bool_none (Zw I q (by simp))
   | bl j=>cases ry;exact eq_bool (Zw I q Zbv)
   | str j=>obtain ⟨t',rfl⟩:=ry;exact PySem.EqMixed.eq_bool_str (Zw I q (by simp))
   | _=>exact absurd (show false=true from hs) Bool.false_ne_true
 | int i =>
   obtain ⟨t,rfl⟩:=rx
   cases y with
   | non=>cases ry;exact PySem.EqNone.eq_int_none (Zw I q (by simp))
   | int j=>obtain ⟨t',rfl⟩:=ry;exact eq_int (Zw I q Zaz)
   | str j=>obtain ⟨t',rfl⟩:=ry;exact PySem.EqMixed.eq_int_str (Zw I q (by simp))
   | _=>exact absurd (show false=true from hs) Bool.false_ne_true
 | str i =>
   obtain ⟨t,rfl⟩:=rx
   cases y with
   | non=>cases ry;exact PySem.EqNone.eq_str_none (Zw I q (by simp))
   | bl j=>cases ry;exact PySem.EqMixed.eq_str_bool (Zw I q (by simp))
   | int j=>obtain ⟨t',rfl⟩:=ry;exact PySem.EqMixed.eq_str_int (Zw I q (by simp))
   | str j=>obtain ⟨t',rfl⟩:=ry;exact eq_str (Zw I q Zax)
   | _=>exact absurd (show false=true from hs) Bool.false_ne_true
 | byt i =>
   obtain ⟨t,rfl⟩:=rx
   cases y with
   | byt j=>obtain ⟨t',rfl⟩:=ry;exact PySem.W.eq_bytes (Zw I q Zag)
   | _=>exact absurd (show false=true from hs) Bool.false_ne_true
 | _=>cases y<;>exact absurd (show false=true from hs) Bool.false_ne_true
theorem Zfc:Yh X (compareOp .NotEq) rNe:=by
 intro pins s σ H x y v u Q I rx ry h
 obtain ⟨hs,q⟩:=h
 cases x with
 | non =>
   cases rx
   cases y with
   | non=>cases ry;exact PySem.EqNone.ne_none_none (Zw I q (by simp))
   | bl j=>cases ry;exact PySem.EqNone.ne_none_bool (Zw I q (by simp))
   | int j=>obtain ⟨t',rfl⟩:=ry;exact PySem.EqNone.ne_none_int (Zw I q (by simp))
   | str j=>obtain ⟨t',rfl⟩:=ry;exact PySem.EqNone.ne_none_str (Zw I q (by simp))
   | _=>exact absurd (show false=true from hs) Bool.false_ne_true
 | bl i =>
   cases rx
   cases y with
   | non=>cases ry;exact PySem.EqNone.ne_bool_none (Zw I q (by simp))
   | bl j=>cases ry;exact ne_bool (Zw I q (congrArg not Zbv))
   | str j=>obtain ⟨t',rfl⟩:=ry;exact PySem.EqMixed.ne_bool_str (Zw I q (by simp))
   | _=>exact absurd (show false=true from hs) Bool.false_ne_true
 | int i =>
   obtain ⟨t,rfl⟩:=rx
   cases y with
   | non=>cases ry;exact PySem.EqNone.ne_int_none (Zw I q (by simp))
   | int j=>obtain ⟨t',rfl⟩:=ry;exact ne_int (Zw I q (congrArg not Zaz))
   | str j=>obtain ⟨t',rfl⟩:=ry;exact PySem.EqMixed.ne_int_str (Zw I q (by simp))
   | _=>exact absurd (show false=true from hs) Bool.false_ne_true
 | str i =>
   obtain ⟨t,rfl⟩:=rx
   cases y with
   | non=>cases ry;exact PySem.EqNone.ne_str_none (Zw I q (by simp))
   | bl j=>cases ry;exact PySem.EqMixed.ne_str_bool (Zw I q (by simp))
   | int j=>obtain ⟨t',rfl⟩:=ry;exact PySem.EqMixed.ne_str_int (Zw I q (by simp))
   | str j=>obtain ⟨t',rfl⟩:=ry;exact ne_str (Zw I q (congrArg not Zax))
   | _=>exact absurd (show false=true from hs) Bool.false_ne_true
 | byt i =>
   obtain ⟨t,rfl⟩:=rx
   cases y with
   | byt j=>obtain ⟨t',rfl⟩:=ry;exact PySem.W.ne_bytes (Zw I q (congrArg not Zag))
   | _=>exact absurd (show false=true from hs) Bool.false_ne_true
 | _=>cases y<;>exact absurd (show false=true from hs) Bool.false_ne_true
theorem Zbn:Yh X (compareOp .Lt) (US fun i j=>.bl (decide (i < j))):=Zbd fun _ _ _ _ _ _ _ q=>lt_int q
theorem Ve:Yh X (compareOp .LtE) (US fun i j=>.bl (decide (i≤j))):=Zbd fun _ _ _ _ _ _ _ q=>le_int q
theorem Zdj:Yh X (compareOp .Gt) (US fun i j=>.bl (decide (j < i))):=Zbd fun _ _ _ _ _ _ _ q=>gt_int q
theorem Zfj:Yh X (compareOp .GtE) (US fun i j=>.bl (decide (j≤i))):=Zbd fun _ _ _ _ _ _ _ q=>ge_int q
theorem ZbT:Yh X (compareOp .In) (fun x y H Q=>∃ i j,x=.str i∧y=.str j∧Q (.bl (!(Builtin.Str.occurrences j i 0 j.length 1).isEmpty)) H):=by
 intro pins s σ H x y v u Q I rx ry h
 obtain ⟨i,j,rfl,rfl,q⟩:=h
 obtain ⟨t,rfl⟩:=rx
 obtain ⟨t',rfl⟩:=ry
 exact in_str (Zw I q rfl)
theorem Zt (b:Expr){op:CmpOp}(h:op≠.In:=by decide)(h2:op≠.NotIn:=by decide):behindInMarks op b=false:=by
 have e1:(op == CmpOp.In)=false:=by cases op<;>first | rfl | exact absurd rfl h
 have e2:(op == CmpOp.NotIn)=false:=by cases op<;>first | rfl | exact absurd rfl h2
 cases b<;>simp [behindInMarks,e1,e2]
theorem Xy {op:CmpOp}{r:R2}(ho:Yh X (compareOp op) r)(ha:PE X a ta)(hb:PE X b tb)(hm:behindInMarks op b=false):PE X (.Compare a [op] [b] pos) (tOp r ta tb):=by
 intro pins s σ H Q I h
 exact wpAny_Compare1 (ZcO ha hb I h fun v u s2 x y H2 I2 rx ry q=>ho pins s2 σ H2 x y v u Q I2 rx ry q) hm
def Zdi (t:TE):TT:=fun σ H Q=>t σ H fun x H'=>∃ k,x=.bl k∧Q k H'
theorem Zp {op:CmpOp}{r:R2}(ho:Yh X (compareOp op) r)(ha:PE X a ta)(hb:PE X b tb)(hm:behindInMarks op b=false):PT X (.Compare a [op] [b] pos) (Zdi (tOp r ta tb)):=by
 intro pins s σ H Q I h
 refine wpAny_isTrue_Compare1 (Zn (ha pins s σ H _ I h) fun v s1 ⟨x,H1,I1,r1,q1⟩=>Zn (hb pins s1 σ H1 _ I1 q1) fun u s2 ⟨y,H2,I2,r2,q2⟩ =>
   Zn (ho pins s2 σ H2 x y v u _ I2 r1 r2 q2) fun c s3 ⟨z,H3,I3,r3,k,e,q3⟩=>?_) hm
 subst e
 cases r3
 exact wpAny_truthy_bool ⟨H3,I3,q3⟩
def ZbM (r r':R2)(ta tb tc:TE):TE:=fun σ H Q=>ta σ H fun x H1=>tb σ H1 fun y H2=>r x y H2 fun z H3=>∃ k,z=.bl k ∧
 (if k=true then tc σ H3 fun w' H4=>r' y w' H4 Q else Q (.bl false) H3)
theorem Wm {op op':CmpOp}{r r':R2}(ho:Yh X (compareOp op) r)(ho':Yh X (compareOp op') r')(ha:PE X a ta)(hb:PE X b tb)(hc:PE X c tc)
   (hm:lastMarks [op,op'] [b,c]=false:=by with_unfolding_all rfl):PE X (.Compare a [op,op'] [b,c] pos) (ZbM r r' ta tb tc):=by
 intro pins s σ H Q I h
 refine Compare_chain (Zn (ha pins s σ H _ I h) fun v s1 ⟨x,H1,I1,r1,q1⟩=>chain_link (Zn (hb pins s1 σ H1 _ I1 q1) fun u s2 ⟨y,H2,I2,r2,q2⟩ =>
   Zn (ho pins s2 σ H2 x y v u _ I2 r1 r2 q2) fun d s3 ⟨z,H3,I3,r3,k,e,q3⟩=>?_)) hm
 subst e
 cases r3
 refine wpAny_truthy_bool ?_
 cases k with
 | false=>exact ite_ff ⟨.bl false,H3,I3,rfl,q3⟩
 | true=>exact ite_tt (chain_last (Zn (hc pins s3 σ H3 _ I3 q3) fun w' s4 ⟨z',H4,I4,r4,q4⟩=>ho' pins s4 σ H4 y z' u w' Q I4 r2 r4 q4))
theorem ZcG {op op':CmpOp}{r r':R2}(ho:Yh X (compareOp op) r)(ho':Yh X (compareOp op') r')(ha:PE X a ta)(hb:PE X b tb)(hc:PE X c tc)
   (hm:lastMarks [op,op'] [b,c]=false:=by with_unfolding_all rfl):PT X (.Compare a [op,op'] [b,c] pos) (Zdi (ZbM r r' ta tb tc)):=by
 intro pins s σ H Q I h
 refine isTrue_chain (Zn (ha pins s σ H _ I h) fun v s1 ⟨x,H1,I1,r1,q1⟩=>test_link (Zn (hb pins s1 σ H1 _ I1 q1) fun u s2 ⟨y,H2,I2,r2,q2⟩ =>
   Zn (ho pins s2 σ H2 x y v u _ I2 r1 r2 q2) fun d s3 ⟨z,H3,I3,r3,k,e,q3⟩=>?_)) hm
 subst e
 cases r3
 refine wpAny_truthy_bool ?_
 cases k with
 | false =>
   obtain ⟨k',e',q'⟩:=q3
   cases e'
   exact ite_ff ⟨H3,I3,q'⟩
 | true =>
   refine ite_tt (test_last (Zn (hc pins s3 σ H3 _ I3 q3) fun w' s4 ⟨z',H4,I4,r4,q4⟩=>Zn (ho' pins s4 σ H4 y z' u w' _ I4 r2 r4 q4) fun d' s5 ⟨z2,H5,I5,r5,k2,e2,q5⟩=>?_))
   subst e2
   cases r5
   exact wpAny_truthy_bool ⟨H5,I5,q5⟩
def TruV (K:PySem.W.Frag)(x:V)(H:Hp)(k:Bool):Prop :=
 match x with
 | .non=>k=false
 | .bl b=>k=b
 | .int i=>k=(i != 0)
 | .str y=>y.length≤sizeLine∧k=((y.length:Int) != 0)
 | .byt y=>y.size≤sizeLine∧k=((y.size:Int) != 0)
 | .ref p=>(∃ xs,SqL K H p xs∧k=!xs.isEmpty)∨(∃ xs,SqT K H p xs∧k=!xs.isEmpty)∨∃ kvs,H p=some (.dK kvs)∧k=!kvs.isEmpty
 | _=>False
theorem Zbi {κ:Type}{kvs:List (κ×V)}{vs:List (κ×Value)}(r:KV kvs vs):(!vs.isEmpty)=!kvs.isEmpty:=by
 cases r<;>rfl
theorem Uk {xs:List V}{its:List Value}(r:Vals xs its):(!its.toArray.isEmpty)=!xs.isEmpty:=by
 cases r<;>simp
theorem Xo:(sizeLine:Nat) < 2 ^ 63:=by rw [sizeLine_eq];decide
theorem ZeP:TruR X (fun x H Q=>∃ k,TruV X.K x H k∧Q k H):=by
 intro pins s σ H x v Q I rx h
 obtain ⟨k,e,q⟩:=h
 have hl:=Xo
 have hs:sizeLine=16777216:=sizeLine_eq
 cases x with
 | non =>
   cases rx
   have e':k=false:=e
   subst e'
   exact truthy_none ⟨H,I,q⟩
 | bl b =>
   cases rx
   have e':k=b:=e
   subst e'
   exact wpAny_truthy_bool ⟨H,I,q⟩
 | int i =>
   obtain ⟨t,rfl⟩:=rx
   have e':k=(i != 0):=e
   subst e'
   exact PySem.P.truthy_int ⟨H,I,q⟩
 | str y =>
   obtain ⟨t,rfl⟩:=rx
   obtain ⟨hy,e'⟩:y.length≤sizeLine∧k=((y.length:Int) != 0):=e
   subst e'
   exact PySem.P.truthy_str (by omega) ⟨H,I.tok _,q⟩
 | byt y =>
   obtain ⟨t,rfl⟩:=rx
   obtain ⟨hy,e'⟩:y.size≤sizeLine∧k=((y.size:Int) != 0):=e
   subst e'
   exact PySem.W.truthy_bytes (by omega) ⟨H,I.tok _,q⟩
 | ref p =>
   cases rx
   have e':(∃ xs,SqL X.K H p xs∧k=!xs.isEmpty)∨(∃ xs,SqT X.K H p xs∧k=!xs.isEmpty)∨∃ kvs,H p=some (.dK kvs)∧k=!kvs.isEmpty:=e
   rcases e' with ⟨xs,hx,e'⟩ | ⟨xs,hx,e'⟩ | ⟨kvs,hx,e'⟩
   · subst e'
     obtain ⟨its,r,pl,hz⟩:=I.list hx
     have hlen:=r.length
     exact wpAny_truthy_list pl.isList (by simp only [List.size_toArray];omega) ⟨H,I.tok _,by rw [Uk r];exact q⟩
   · subst e'
     obtain ⟨its,r,pl,hz⟩:=I.tuple hx
     have hlen:=r.length
     exact truthy_tuple pl (by simp only [List.size_toArray];omega) ⟨H,I.tok _,by rw [Uk r];exact q⟩
   · subst e'
     obtain ⟨hz,hS,vs,r,m⟩:kvs.length≤sizeLine∧(p == sysModules)=false∧∃ vs,KV kvs vs∧s.heap.DictOf (Ux X.prog X.w) p vs:=I.hok p _ hx
     have hlen:kvs.length=vs.length:=Paired.length r
     exact wpAny_truthy_dict hS m (by omega) ⟨H,I.tok _,by rw [Zbi r];exact q⟩
 | _=>exact (show False from e).elim
theorem Zcv (ha:PE X a ta)(he:∀ whole,isTrue a X.env whole=(do let v ← whole;standAt a.pos;holding [v] (truthy v))) :
   PT X a (fun σ H Q=>ta σ H fun x H'=>∃ k,TruV X.K x H' k∧Q k H'):=by
 intro pins s σ H Q I h
 exact isTrue_plain (Zn (ha pins s σ H _ I h) fun v s1 ⟨x,H1,I1,r1,q1⟩=>ZeP pins s1 σ H1 x v Q I1 r1 q1) (he _)
theorem Wp:Yh X (binaryOp .Add) (fun x y H Q=>∃ i j,x=.str i∧y=.str j∧i.length+j.length≤sizeLine∧Q (.str (i++j)) H):=by
 intro pins s σ H x y v u Q I rx ry h
 obtain ⟨i,j,rfl,rfl,hz,q⟩:=h
 obtain ⟨t,rfl⟩:=rx
 obtain ⟨t',rfl⟩:=ry
 exact add_str (fun t' tk=>⟨.str (i++j),H,I.tok _,⟨_,rfl⟩,q⟩) hz
theorem Xj {x:V}{us:List Value}(r:Vals [x] us):∃ u,us=[u]∧RelV x u:=by
 cases r with
 | cons r1 r2=>cases r2;exact ⟨_,rfl,r1⟩
theorem ZaS {x y:V}{us:List Value}(r:Vals [x,y] us):∃ u w',us=[u,w']∧RelV x u∧RelV y w':=by
 cases r with
 | cons r1 r2 =>
   cases r2 with
   | cons r3 r4=>cases r4;exact ⟨_,_,rfl,r1,r3⟩
theorem Vl:YG X (.builtin "abs") (fun xs H Q=>∃ i,xs=[.int i]∧Q (.int (if i < 0 then -i else i)) H):=by
 intro pins s σ H xs us Q I r h
 obtain ⟨i,rfl,q⟩:=h
 obtain ⟨u,rfl,t,rfl⟩:=Xj r
 exact call_abs_int fun u tk=>⟨.int (if i < 0 then -i else i),H,I.tok _,⟨_,rfl⟩,q⟩
theorem ZbK (hc:X.calm=true):YG X (.builtin "min") (fun xs H Q=>∃ i j,xs=[.int i,.int j]∧Q (.int (if j < i then j else i)) H):=by
 intro pins s σ H xs us Q I r h
 obtain ⟨i,j,rfl,q⟩:=h
 obtain ⟨u,w',rfl,⟨t,rfl⟩,⟨t',rfl⟩⟩:=ZaS r
 refine min_two_ints (I.ok.hd hc) fun h' tk k=>⟨_,H,I.kept k,?_,q⟩
 by_cases hj:j < i
 · rw [if_pos hj,if_pos hj];exact ⟨_,rfl⟩
 · rw [if_neg hj,if_neg hj];exact ⟨_,rfl⟩
theorem UV:YG X (.type "int") (fun xs H Q=>(∃ i,xs=[.int i]∧Q (.int i) H)∨∃ k,xs=[.bl k]∧Q (.int (if k then 1 else 0)) H):=by
 intro pins s σ H xs us Q I r h
 rcases h with ⟨i,rfl,q⟩ | ⟨k,rfl,q⟩
 · obtain ⟨u,rfl,t,rfl⟩:=Xj r
   exact call_int_int ⟨.int i,H,I,⟨_,rfl⟩,q⟩
 · obtain ⟨u,rfl,r1⟩:=Xj r
   cases r1
   exact call_int_bool ⟨.int (if k then 1 else 0),H,I.tok _,⟨_,rfl⟩,q⟩
def ZcB (K:PySem.W.Frag)(x:V)(H:Hp)(n:Nat):Prop :=
 match x with
 | .str y=>y.length≤sizeLine∧n=y.length
 | .byt y=>y.size≤sizeLine∧n=y.size
 | .ref p=>(∃ xs,SqL K H p xs∧n=xs.length)∨∃ xs,SqT K H p xs∧n=xs.length
 | _=>False
theorem Zcz:YG X (.builtin "len") (fun xs H Q=>∃ x n,xs=[x]∧ZcB X.K x H n∧Q (.int n) H):=by
 intro pins s σ H xs us Q I r h
 obtain ⟨x,n,rfl,e,q⟩:=h
 obtain ⟨u,rfl,rx⟩:=Xj r
 have hl:=Xo
 have hs:sizeLine=16777216:=sizeLine_eq
 cases x with
 | str y =>
   obtain ⟨t,rfl⟩:=rx
   obtain ⟨hy,e'⟩:y.length≤sizeLine∧n=y.length:=e
   subst e'
   exact len_str (by omega) ⟨.int _,H,I.tok _,⟨_,rfl⟩,q⟩
 | byt y =>
   obtain ⟨t,rfl⟩:=rx
   obtain ⟨hy,e'⟩:y.size≤sizeLine∧n=y.size:=e
   subst e'
   exact PySem.W.len_bytes (by omega) ⟨.int _,H,I.tok _,⟨_,rfl⟩,q⟩
 | ref p =>
   cases rx
   have e':(∃ xs,SqL X.K H p xs∧n=xs.length)∨∃ xs,SqT X.K H p xs∧n=xs.length:=e
   rcases e' with ⟨xs,hx,e'⟩ | ⟨xs,hx,e'⟩
   · subst e'
     obtain ⟨its,r',pl,hz⟩:=I.list hx
     have hlen:=r'.length
     exact Calls.call_len_list pl.isList (by simp only [List.size_toArray];omega) ⟨.int xs.length,H,I.tok _,⟨_,by simp only [List.size_toArray];rw [hlen]⟩,q⟩
   · subst e'
     obtain ⟨its,r',pl,hz⟩:=I.tuple hx
     have hlen:=r'.length
     exact len_tuple pl (by simp only [List.size_toArray];omega) ⟨.int xs.length,H,I.tok _,⟨_,by simp only [List.size_toArray];rw [hlen]⟩,q⟩
 | _=>exact (show False from e).elim
theorem VY:YG X (.builtin "divmod") (fun xs H Q=>∃ i j,xs=[.int i,.int j]∧CDiv i j∧∀ p,H p=none→Q (.ref p) (upd H p (.tup [.int (i / j),.int (i % j)]))):=by
 intro pins s σ H xs us Q I r h
 obtain ⟨i,j,rfl,⟨h1,h2⟩,q⟩:=h
 obtain ⟨u,w',rfl,⟨t,rfl⟩,⟨t',rfl⟩⟩:=ZaS r
 refine divmod_int (by omega) ?_ (.inl (PyProof.noPylong_small (by omega)))
 rw [Int.fdiv_eq_ediv_of_nonneg i (by omega),Int.fmod_eq_emod_of_nonneg i (by omega)]
 have hn:H s.heap.objs.size=none:=I.hok.fresh (Nat.le_refl _)
 refine ⟨.ref s.heap.objs.size,_,?_,rfl,q _ hn⟩
 refine I.laid (fun b o e=>Heap.get?_push_of_some _ e) (Nat.le_refl _) ⟨by simp only [List.length_cons,List.length_nil];rw [sizeLine_eq];decide,[.int (i / j) s.toks,.int (i % j) (s.toks+1)],.cons ⟨_,rfl⟩ (.cons ⟨_,rfl⟩ .nil),?_⟩
 exact ⟨_,Heap.get?_push_size s.heap rfl,rfl,0,rfl⟩
end
end L2
namespace L2
open PySem PySem.Spec PyProof.Rows
structure ObjM (h:Heap)(x dx C:Addr)(mA:Str→Option Value):Prop where
 obj:h.get? x=some (PySem.W.instObj C dx)
 ns:h.Ns1 dx mA
 ne:dx≠x
theorem ZbL {h:Heap}{dx:Addr}{mA:Str→Option Value}(n:h.Ns1 dx mA):∃ od,h.get? dx=some od∧∀ name,PySem.W.lookIn name od=some (mA name):=by
 obtain ⟨o,es,ep,ho,hd,hk,_,hm⟩:=n
 refine ⟨o,ho,fun name=>?_⟩
 have e:=hm name
 unfold nsFind findBy at e
 rw [← Array.find?_toList] at e
 unfold PySem.W.lookIn
 rw [hd]
 dsimp only
 split
 · rename_i y q
   rw [q] at e
   exact congrArg some e
 · rename_i q
   rw [q] at e
   have a:es.toList.any (·.refKey)=false:=by
     rw [List.any_eq_false]
     intro y hy
     obtain ⟨z,t,hkey⟩:=hk y (Array.mem_toList_iff.mp hy)
     simp [DictEntry.refKey,hkey]
   have a':¬ es.toList.any (·.refKey)=true:=by rw [a];exact Bool.false_ne_true
   rw [if_neg a']
   exact congrArg some e
theorem ObjM.look {h:Heap}{x dx C:Addr}{mA:Str→Option Value}(I:ObjM h x dx C mA):∃ od,PySem.W.InstAt h x (PySem.W.instObj C dx) C (some od)∧∀ name,PySem.W.lookIn name od=some (mA name) :=
 let ⟨od,ho,hl⟩:=ZbL I.ns
 ⟨od,⟨I.obj,rfl,rfl,ho⟩,hl⟩
section
variable {prog:Program}{w:World}{A:Around}{E:Value→Shared→Prop}{s:Shared}{K:PySem.W.Frag}{x dx C f:Addr}{mA:Str→Option Value}{name:Str}{v:Value}
end
section
variable {P:Program}{w:World}{H H':Hp}{h h':Heap}{a C dx:Addr}{fs fs':List (Str×V)}
theorem ZdO (hok:HOk P w H h)(e:H a=some (.ins C dx fs)):∃ mA,ObjM h a dx C mA∧(∀ f,ZcF (fs.lookup f) (mA f))∧PySem.Within mA (fs.map (·.1))∧fs.length≤1000∧H dx=some (.own a):=by
 obtain ⟨d,z,ne,ob,mA,n,r,q⟩:=(show ObjOk P w H h a (.ins C dx fs) from hok a _ e)
 exact ⟨mA,⟨ob,n,ne⟩,r,q,z,d⟩
end
structure Cls (K:PySem.W.Frag)(C:Addr):Prop where
 pg:PySem.W.plainGet K C Str.empty=true
 hd:PySem.W.hasDictIn K C=true
 po:PySem.W.plainOver K C=true
 sa:PySem.W.findIn K (.ref C) "__setattr__"=some (some (.builtin "object.__setattr__"))
theorem Cls.get {K:PySem.W.Frag}{C:Addr}(c:Cls K C)(f:Str):PySem.W.plainGet K C f=true:=c.pg
section
variable {X:Cx}{pins:List (Addr×Obj)}{σ:St}{H:Hp}{s:Shared}{a C dx:Addr}{fs:List (Str×V)}{f:Str}{v:V}{A:Around}{E:Value→Shared→Prop}
end
section
variable {X:Cx}{o e value:Expr}{f:Str}{pos pos' tpos:Pos}{ta tv:TE}
end
section
variable {X:Cx}{pins:List (Addr×Obj)}{σ:St}{H:Hp}{s:Shared}{A:Around}{E:Value→Shared→Prop}{Q:Value→Shared→Prop}{c:Value}{b:Bool}
inductive Xq (K:PySem.W.Frag)(H:Hp):V→Value→Prop where
 | non:Xq K H .non (.type "NoneType")
 | bl (x:Bool):Xq K H (.bl x) (.type "bool")
 | int (i:Int):Xq K H (.int i) (.type "int")
 | str (x:Str):Xq K H (.str x) (.type "str")
 | flt (x:UInt64):Xq K H (.flt x) (.type "float")
 | lst {a:Addr} {xs:List V} (e:H a=some (.lst xs)):Xq K H (.ref a) (.type "list")
 | frz {a:Addr} {o:Obj} {xs:List V} (e:H a=some (.frz o (.lst xs))):Xq K H (.ref a) (.type "list")
 | tup {a:Addr} {xs:List V} (e:H a=some (.tup xs)):Xq K H (.ref a) (.type "tuple")
 | dK {a:Addr} {kvs:List (YR×V)} (e:H a=some (.dK kvs)):Xq K H (.ref a) (.type "dict")
 | dT {a:Addr} {kvs:List (List YR×V)} (e:H a=some (.dT kvs)):Xq K H (.ref a) (.type "dict")
 | ins {a C dx:Addr} {fs:List (Str×V)} (e:H a=some (.ins C dx fs)) (cl:Cls K C) (ha:PySem.W.findIn K (.ref C) "__class__"=some (some (.builtin "object.__class__")))
     (hn:PySem.W.specialIn K (.builtin "object.__class__") "__get__"=some (some (.builtin "getset_descriptor.__get__"))) (htk:PySem.W.takesIn K (.builtin "object.__class__")=some true)
     (hm:PySem.W.mroIn K C (.type "object")=some true):Xq K H (.ref a) (.ref C)
end
end L2
namespace L2
open PySem PySem.Spec PyProof.Rows
structure Room (k:Nat)(A:Around):Prop where
 hd:A.handled=none
 dp:A.depth+3 * k+5 < recursionLimit
 un:A.units+16 * k+200 < cLine
 gd:A.guards=some []
theorem Room.mono {j k:Nat}{A:Around}(r:Room k A)(h:j≤k):Room j A:=⟨r.hd,by have:=r.dp;omega,by have:=r.un;omega,r.gd⟩
theorem Room.deeper {k:Nat}{A:Around}(r:Room (k+1) A)(env:Env):Room k (A.deeper env) :=
 ⟨r.hd,by have:=r.dp;show A.depth+1+3 * k+5 < _;omega,by have:=r.un;show A.units+3+16 * k+200 < _;omega,r.gd⟩
theorem Room.depth {k:Nat}{A:Around}(r:Room k A):A.depth < recursionLimit:=by have:=r.dp;omega
theorem Room.units {k:Nat}{A:Around}(r:Room k A):A.units+64 < cLine:=by have:=r.un;omega
def Uw:TA:=fun _ H Q=>Q [] H
def Xl (ta:TE)(tr:TA):TA:=fun σ H Q=>ta σ H fun x H1=>tr σ H1 fun xs H2=>Q (x::xs) H2
section
variable {X:Cx}{e:Expr}{es:List Expr}{te:TE}{t:TA}{pos:Pos}
theorem Za:PA X [] Uw:=fun _ _ _ _ H Q I h=>Calls.spliced_nil ⟨[],H,I,.nil,h⟩
theorem ZT (ha:PE X e te)(hr:PA X es t)(hs:starEach (e::es) X.env=(false,eval e X.env)::starEach es X.env:=by rfl):PA X (e::es) (Xl te t):=by
 intro pos pins s σ H Q I h
 rw [hs]
 show wpAny _ _ (spliced ((false,eval e X.env)::backTo pos (starEach es X.env))) _ _ s
 refine Calls.spliced_cons (Zn (ha pins s σ H _ I h) fun u s1 ⟨x,H1,I1,r1,q1⟩=>?_)
 exact Zn (hr pos pins s1 σ H1 _ I1 q1) fun us s2 ⟨xs,H2,I2,r2,q2⟩=>⟨x::xs,H2,I2,.cons r1 r2,q2⟩
def tTup (t:TA):TE:=fun σ H Q=>t σ H fun xs H1=>xs.length≤sizeLine∧∀ p,H1 p=none→Q (.ref p) (upd H1 p (.tup xs))
def tLst (t:TA):TE:=fun σ H Q=>t σ H fun xs H1=>xs.length≤sizeLine∧∀ p,H1 p=none→Q (.ref p) (upd H1 p (.lst xs))
theorem Zx {x1}(h:PA X es t):PE X (.Tuple es x1 pos) (tTup t):=by
 intro pins s σ H Q I hq
 refine wpAny_Tuple_spliced (Zn (h pos pins s σ H _ I hq) fun us s1 ⟨xs,H1,I1,r,z,q⟩=>⟨by rw [← r.length];exact z,?_⟩)
 have hf:H1 s1.heap.objs.size=none:=I1.hok.fresh (Nat.le_refl _)
 refine ⟨.ref s1.heap.objs.size,upd H1 s1.heap.objs.size (.tup xs),I1.laid (t':=s1.toks) (fun b u e=>Heap.get?_push_of_some _ e) (Nat.le_refl _) ?_,rfl,q _ hf⟩
 exact ⟨z,us,r,⟨_,Heap.get?_push_size _ rfl,rfl,_,rfl⟩⟩
theorem YI (h:PA X es t):PE X (.List es pos) (tLst t):=by
 intro pins s σ H Q I hq
 refine wpAny_List_spliced (Zn (h pos pins s σ H _ I hq) fun us s1 ⟨xs,H1,I1,r,z,q⟩=>⟨by rw [← r.length];exact z,?_⟩)
 have hf:H1 s1.heap.objs.size=none:=I1.hok.fresh (Nat.le_refl _)
 refine ⟨.ref s1.heap.objs.size,upd H1 s1.heap.objs.size (.lst xs),I1.laid (t':=s1.toks) (fun b u e=>Heap.get?_push_of_some _ e) (Nat.le_refl _) ?_,rfl,q _ hf⟩
 exact ⟨z,us,0,r,Heap.get?_push_size _ rfl⟩
end
abbrev Sp:=List V→Hp→VK→XK→Prop
abbrev XR:=List Env→Hp→Shared→XK→Value→Shared→Prop
structure ZaP (P:Program)(w:World)(K:PySem.W.Frag)(mg:Str→Option Value)(base:Heap)(A:Around)(outer:List Env)(s:Shared)(H:Hp):Prop where
 frames:A.frames=some outer
 mod:Mod K mg base
 bs:∀ b o,base.get? b=some o→s.heap.get? b=some o∧H b=none
 bsz:base.objs.size≤s.heap.objs.size
 funs:s.heap.FunFrames base outer
 frf:∀ b∈WB outer,H b=none
 hok:HOk P w H s.heap
 bare:AllBare s.gens
def CE (outer:List Env)(P:Program)(w:World)(H:Hp)(s:Shared)(Q:VK)(u:Value)(s':Shared):Prop :=
 ∃ v H',s'.os=s.os∧AllBare s'.gens∧Un (WB outer) [] H H' s.heap s'.heap∧HOk P w H' s'.heap∧RelV v u∧Q v H'
def CR (CX:XR)(outer:List Env)(P:Program)(w:World)(H:Hp)(s:Shared)(Q:VK)(E:XK)(r:Result)(s':Shared):Prop :=
 match r with
 | .ok (.ret u)=>CE outer P w H s Q u s'
 | .ok _=>False
 | .error e=>CX outer H s E e s'
structure FnOk (P:Program)(w:World)(K:PySem.W.Frag)(mg:Str→Option Value)(base:Heap)(CX:XR)(k:Nat)(f:Addr)(fd:FuncData)(ps:List Str)(sp:Sp):Prop where
 len:∀ vs H Q E,sp vs H Q E→vs.length=ps.length
 run:∀ (A:Around) (outer:List Env) (s:Shared) (H:Hp) (args:Args) (us:List Value) (vs:List V) (Q:VK) (E:XK),Room k A→ZaP P w K mg base A outer s H→BindsTo s fd args (ps.zip us)→Vals vs us→sp vs H Q E →
   codeAny (model P w) A (.call (.ref f) args) (CR CX outer P w H s Q E) s
theorem FnOk.mono {P:Program}{w:World}{K:PySem.W.Frag}{mg:Str→Option Value}{base:Heap}{CX:XR}{j k:Nat}{f:Addr}{fd:FuncData}{ps:List Str}{sp:Sp}(F:FnOk P w K mg base CX j f fd ps sp)(h:j≤k) :
 FnOk P w K mg base CX k f fd ps sp:=⟨F.len,fun A outer s H args us vs Q E hr=>F.run A outer s H args us vs Q E (hr.mono h)⟩
theorem FnOk.imp {P:Program}{w:World}{K:PySem.W.Frag}{mg:Str→Option Value}{base:Heap}{CX:XR}{k:Nat}{f:Addr}{fd:FuncData}{ps:List Str}{sp sp':Sp}(F:FnOk P w K mg base CX k f fd ps sp)
   (h:∀ vs H Q E,sp' vs H Q E→sp vs H Q E):FnOk P w K mg base CX k f fd ps sp' :=
 ⟨fun vs H Q E q=>F.len vs H Q E (h _ _ _ _ q),fun A outer s H args us vs Q E hr he hb hv hs=>F.run A outer s H args us vs Q E hr he hb hv (h _ _ _ _ hs)⟩
section
variable {X:Cx}{pins:List (Addr×Obj)}{σ:St}{H:Hp}{s s':Shared}
theorem Inv.env0 (I:Inv X pins σ H s):ZaP X.prog X.w X.K X.mg X.base X.A X.stack s H :=
 ⟨I.ok.frames,I.ok.mod,I.bs,Nat.le_trans I.ok.bsz I.sz,I.stack,I.stkFree,I.hok,I.bare⟩
theorem Inv.after {Q:VK}{u:Value}(I:Inv X pins σ H s)(h:CE X.stack X.prog X.w H s Q u s'):EP X pins σ Q u s':=by
 obtain ⟨v,H',os,bare,un,hok,r,q⟩:=h
 obtain ⟨hh,g,d,t,os'⟩:=s'
 obtain rfl:os'=s.os:=os
 exact ⟨v,H',I.call (h':=hh) (g':=g) (d':=d) (t':=t) (ch:=[]) un hok bare (fun b z=>absurd z (by simp)),r,q⟩
end
def Zbo (sp:Sp)(dvs:List V)(E:XK)(t:TA):TE:=fun σ H Q=>t σ H fun vs H1=>sp (vs++dvs) H1 Q E
def Binds (K:PySem.W.Frag)(fd:FuncData)(ps:List Str)(ds:List Value):Prop :=
 ∀ (s:Shared) (us:List Value),K.In s.heap→(us++ds).length=ps.length→BindsTo s fd ⟨us,[]⟩ (ps.zip (us++ds))
theorem Binds.all {K:PySem.W.Frag}{fd:FuncData}{ps:List Str}(h:∀ us:List Value,us.length=ps.length→bindArgs fd ⟨us,[]⟩=pure (ps.zip us)):Binds K fd ps []:=fun s us _ hl=>by
 rw [List.append_nil] at hl ⊢
 exact .of_eq (h us hl)
def VA (CX:XR)(X:Cx)(E:XK):Prop:=∀(pins:List (Addr×Obj))(σ:St)(H:Hp)(s:Shared)(e:Value)(s':Shared),Inv X pins σ H s→CX X.stack H s E e s'→X.xe e s'
section
variable {X:Cx}{CX:XR}{k:Nat}{f C:Addr}{fd:FuncData}{ps:List Str}{sp:Sp}{dvs:List V}{ds:List Value}{E:XK}{x m:Str}{p pos apos:Pos}{e o:Expr}{es:List Expr}{ta:TE}{t:TA}
theorem ZeH {pins:List (Addr×Obj)}{σ:St}{H:Hp}{s:Shared}{Q:VK}{us:List Value}{vs:List V}(F:FnOk X.prog X.w X.K X.mg X.base CX k f fd ps sp)(hr:Room k X.A)(hb:Binds X.K fd ps ds)(hd:Vals dvs ds)(hx:VA CX X E)
   (I:Inv X pins σ H s) (r:Vals vs us) (h:sp (vs++dvs) H Q E):wpAny (model X.prog X.w) X.A (call (.ref f) us) (EP X pins σ Q) X.xe s:=by
 have r2:Vals (vs++dvs) (us++ds):=r.append hd
 have hl:(us++ds).length=ps.length:=by rw [← r2.length];exact F.len _ _ _ _ h
 refine wpAny_call (codeAny_mono (F.run X.A X.stack s H ⟨us,[]⟩ (us++ds) (vs++dvs) Q E hr I.env0 (hb s us I.kIn hl) r2 h) fun r s' hq=>?_)
 cases r with
 | error e=>exact hx pins σ H s e s' I hq
 | ok fl =>
   cases fl with
   | ret u=>exact I.after hq
   | next=>exact False.elim hq
   | brk=>exact False.elim hq
   | cont=>exact False.elim hq
theorem ZdP (F:FnOk X.prog X.w X.K X.mg X.base CX k f fd ps sp)(hr:Room k X.A)(hg:Gl X x)(hm:X.mg x=some (.ref f))(hk:PySem.W.keepIn X.K (.ref f)=true)(hb:Binds X.K fd ps ds)(hd:Vals dvs ds)(hx:VA CX X E)
   (ha:PA X (e::es) t) (hdb:(x == ("__debug__":Str))=false:=by decide) (he:starEach (e::es) X.env=(false,eval e X.env)::starEach es X.env:=by rfl) (hpl:(backTo pos (starEach es X.env)).any (·.1)=false:=by rfl) :
   PE X (.Call (.Name x p) (e::es) [] pos) (Zbo sp dvs E t):=by
 intro pins s σ H Q I h
 refine wpAny_Call_Name_kw (Zaj I hg hm ?_ hdb)
 refine PySem.W.callWith_K (h₀:=X.base) I.ok.mod.kin hk (Zn (ha pos pins s σ H _ I h) fun us s1 ⟨vs,H1,I1,r,q⟩=>⟨I1.kIn,?_⟩) he hpl
 exact ZeH F hr hb hd hx I1 r q
end
section
variable {X:Cx}{CX:XR}{k:Nat}{f C:Addr}{fd:FuncData}{ps ks:List Str}{sp:Sp}{E:XK}{x m:Str}{p pos apos kpos:Pos}{e o:Expr}{es:List Expr}{kws:List Keyword}{te ta:TE}{t tk:TA}{nm:Option Str}
variable {g:List Value→List Value→List Value}{gV:List V→List V→List V}
end
structure ZD (N P:List Str)(sc:Scope):Prop where
 kind:sc.kind=.function
 co:sc.isCoroutine=false
 gen:sc.isGenerator=false
 nd:N.Nodup
 pre:N.take P.length=P
 par:∀ x∈P,sc.names.lookup x=some .local∨sc.names.lookup x=some .cell
 nofree:∀ y∈sc.names,y.2≠.free
theorem Va {kindOf:Str→Option NameKind}{x:Str}:∀{binds:List (Str×Value)}{m:Str→Option Value},(∀ v,(x,v) ∉ binds)→bindL kindOf binds m x=m x
 | [],_,_=>rfl
 | (n,v)::r,m,h=>by
   unfold bindL
   rw [Va fun w hw=>h w (List.mem_cons_of_mem _ hw)]
   split
   · have:x≠n:=by rintro rfl;exact h v List.mem_cons_self
     simp [this]
   · rfl
theorem UT {kindOf:Str→Option NameKind}{x:Str}:∀{binds:List (Str×Value)}{m:Str→Option Value},(∀ v,(x,v) ∉ binds)→bindC kindOf binds m x=m x
 | [],_,_=>rfl
 | (n,v)::r,m,h=>by
   unfold bindC
   rw [UT fun w hw=>h w (List.mem_cons_of_mem _ hw)]
   split
   · rfl
   · have:x≠n:=by rintro rfl;exact h v List.mem_cons_self
     simp [this]
theorem UY {kindOf:Str→Option NameKind}{x:Str}{v:Value}:∀{P:List Str}{vs:List Value}{i:Nat}{m:Str→Option Value},P.Nodup→P[i]?=some x→vs[i]?=some v→kindOf x=some .local →
   bindL kindOf (P.zip vs) m x=some v
 | [],_,_,_,_,h,_,_=>by simp at h
 | _::_,[],_,_,_,_,h,_=>by simp at h
 | p::P,w::vs,0,m,nd,h1,h2,hk=>by
   simp at h1 h2;subst h1;subst h2
   show bindL kindOf ((p,w)::P.zip vs) m p=_
   unfold bindL
   rw [Va fun v hv=>(List.nodup_cons.mp nd).1 (List.of_mem_zip hv).1,if_pos hk]
   simp
 | p::P,w::vs,i+1,m,nd,h1,h2,hk=>by
   show bindL kindOf ((p,w)::P.zip vs) m x=_
   unfold bindL
   exact UY (i:=i) (List.nodup_cons.mp nd).2 (by simpa using h1) (by simpa using h2) hk
theorem UU {kindOf:Str→Option NameKind}{x:Str}{v:Value}:∀{P:List Str}{vs:List Value}{i:Nat}{m:Str→Option Value},P.Nodup→P[i]?=some x→vs[i]?=some v→kindOf x≠some .local →
   bindC kindOf (P.zip vs) m x=some v
 | [],_,_,_,_,h,_,_=>by simp at h
 | _::_,[],_,_,_,_,h,_=>by simp at h
 | p::P,w::vs,0,m,nd,h1,h2,hk=>by
   simp at h1 h2;subst h1;subst h2
   show bindC kindOf ((p,w)::P.zip vs) m p=_
   unfold bindC
   rw [UT fun v hv=>(List.nodup_cons.mp nd).1 (List.of_mem_zip hv).1,if_neg hk]
   simp
 | p::P,w::vs,i+1,m,nd,h1,h2,hk=>by
   show bindC kindOf ((p,w)::P.zip vs) m x=_
   unfold bindC
   exact UU (i:=i) (List.nodup_cons.mp nd).2 (by simpa using h1) (by simpa using h2) hk
def XL (N:List Str)(vs:List V):St:=vs.map some++List.replicate (N.length - vs.length) none
def UQ (CX:XR)(P:Program)(w:World)(K:PySem.W.Frag)(mg:Str→Option Value)(base:Heap)(N:List Str)(qual:Str)(scope:Scope)(f:Addr)(cd:Value)(A:Around)(outer:List Env)(s:Shared)(H:Hp)(E:XK):Cx where
 prog:=P
 w:=w
 K:=K
 mg:=mg
 base:=base
 A:=A.deeper (envOfC qual scope s.heap.objs.size f cd)
 N:=N
 s₀:=s
 H₀:=H
 env:=envOfC qual scope s.heap.objs.size f cd
 outer:=outer
 stack:=envOfC qual scope s.heap.objs.size f cd::outer
 ex:=[]
 calm:=true
 fn:=fun _=>true
 pn:=[]
 xe:=fun e s'=>wpAny (model P w) (A.deeper (envOfC qual scope s.heap.objs.size f cd)) (leaving (envOfC qual scope s.heap.objs.size f cd) e) (fun _ s''=>CX outer H s E e s'') (fun e' s''=>CX outer H s E e' s'') s'
theorem VJ {sc:Scope}{n:Nat}{x:Str}(h:sc.names.lookup x=some .cell):∃ c,(cellsFrom n sc.names []).lookup x=some c:=by
 have q:=PySem.W.cellsFrom_some sc.names n [] (.inl h)
 exact Option.isSome_iff_exists.mp q
theorem Zbt {CX:XR}{P:Program}{w:World}{K:PySem.W.Frag}{mg:Str→Option Value}{base:Heap}{N ps:List Str}{qual:Str}{scope:Scope}{f:Addr}{cd:Value}{A:Around}{outer:List Env}{s s1:Shared}{H:Hp}{E:XK}{us:List Value}{vs:List V}
   (S:ZD N ps scope) (hd:A.handled=none) (e0:ZaP P w K mg base A outer s H) (hl:vs.length=ps.length) (r:Vals vs us)
   (x:InCallC s s.heap.objs.size (bindL (envOfC qual scope s.heap.objs.size f cd).kindOf (ps.zip us) fun _=>none) (cellsFrom (s.heap.objs.size+1) scope.names []) (bindC (envOfC qual scope s.heap.objs.size f cd).kindOf (ps.zip us) fun _=>none) s1) :
   Inv (UQ CX P w K mg base N qual scope f cd A outer s H E) [] (XL N vs) H s1:=by
 have hpl:ps.length≤N.length:=by have:=congrArg List.length S.pre;rw [List.length_take] at this;omega
 obtain ⟨h1,tk,rfl,hk⟩:=x.done
 have noA:∀ b:Addr,b ∉ (UQ CX P w K mg base N qual scope f cd A outer s H E).ex:=fun b z=>absurd (show b∈([]:List Addr) from z) (by simp)
 refine ⟨⟨e0.mod,S.kind,rfl,rfl,Nat.le_refl _,fun y z c h1 h2=>?_,fun y hy=>?_,fun y c _ h=>?_,fun _=>hd,Around.frames_deeper e0.frames,.inr ⟨rfl,rfl⟩,fun b z=>absurd z (noA b),e0.bs,e0.bsz,fun b _ _=>noA b,fun b z=>absurd z (noA b),e0.funs,e0.frf⟩,
   rfl,e0.bare,Un.kept hk,⟨_,x.toInCall.ns,fun i y v h1 h2 h3=>?_⟩,fun y c h=>⟨_,x.cell y c h⟩,e0.hok.fresh (Nat.le_refl _),fun y c h=>?_,fun p hp=>absurd (show p∈([]:List (Addr×Obj)) from hp) (by simp),e0.hok.kept hk,?_⟩
 · exact name_of_addr x.apart (PySem.mem_of_lookup h1) (PySem.mem_of_lookup h2)
 · have hy:scope.names.lookup y=some .cell∨scope.names.lookup y=some .free:=hy
   rcases hy with hy | hy
   · exact VJ hy
   · exact absurd rfl (S.nofree _ (PySem.mem_of_lookup hy))
 · exact Nat.le_of_lt (x.above y c (PySem.mem_of_lookup h))
 · have hi:i < vs.length:=by
     unfold XL at h2
     by_cases hi:i < vs.length
     · exact hi
     · rw [List.getElem?_append_right (by simpa using hi)] at h2
       rw [List.getElem?_replicate] at h2
       split at h2<;>cases h2
   have ha:vs[i]?=some v:=by
     unfold XL at h2
     rw [List.getElem?_append_left (by simpa using hi),List.getElem?_map] at h2
     cases e:vs[i]? with
     | none=>rw [e] at h2;cases h2
     | some a=>rw [e] at h2;cases h2;rfl
   obtain ⟨u,hu,rv⟩:=r.get ha
   have hp:ps[i]?=some y:=by
     rw [← S.pre,List.getElem?_take_of_lt (by omega)];exact h1
   have ndP:ps.Nodup:=by rw [← S.pre];exact S.nd.sublist (List.take_sublist _ _)
   refine ⟨u,rv,?_⟩
   rcases S.par y (List.mem_of_getElem? hp) with k | k
   · exact .inl ⟨k,UY ndP hp hu k⟩
   · obtain ⟨c,e⟩:=VJ (n:=s.heap.objs.size+1) k
     refine .inr ⟨.inl k,c,e,?_⟩
     have q:=x.cell y c e
     rw [UU ndP hp hu (by show scope.names.lookup y≠_;rw [k];decide)] at q
     exact q
 · exact e0.hok.fresh (Nat.le_of_lt (x.above y c (PySem.mem_of_lookup h)))
 · unfold XL
   show _=N.length
   rw [List.length_append,List.length_map,List.length_replicate]
   omega
theorem Zfh {CX:XR}{P:Program}{w:World}{K:PySem.W.Frag}{mg:Str→Option Value}{base:Heap}{k:Nat}{f:Addr}{name qual:Str}{params:Arguments}{body:List Stmt}{scope:Scope}{dV kV doc pm cdv ct oc:Value}{an od:Option Addr}
   {osl:Array (Option Value)} {N ps:List Str} {sp:Sp} (lk:K.lookup f=some ⟨oc,od,.func (PySem.W.fnOf name qual params body scope dV kV doc pm an cdv ct),osl⟩) (hcd:PySem.W.codeIn K cdv qual=true) (S:ZD N ps scope)
   (len:∀ vs H Q E,sp vs H Q E→vs.length=ps.length)
   (hbody:∀ (A:Around) (outer:List Env) (s:Shared) (H:Hp) (vs:List V) (Q:VK) (E:XK),Room k (A.deeper (envOfC qual scope s.heap.objs.size f cdv))→sp vs H Q E →
     ∃ t,PSs (UQ CX P w K mg base N qual scope f cdv A outer s H E) body t∧t { nx:=fun _ H'=>Q .non H',rt:=Q } (XL N vs) H) :
   FnOk P w K mg base CX (k+1) f (PySem.W.fnOf name qual params body scope dV kV doc pm an cdv ct) ps sp:=by
 refine ⟨len,fun A outer s H args us vs Q E hr e0 hb r hsp=>?_⟩
 have hl:=len _ _ _ _ hsp
 have KX:K.In s.heap:=e0.mod.kin.keeps fun b o e=>(e0.bs b o e).1
 have lim:s.heap.NoLimit:=e0.mod.nolimit.keeps fun b o e=>(e0.bs b o e).1
 have hkind:∀ y∈ps.zip us,scope.names.lookup y.1=some .local∨(scope.names.lookup y.1=some .cell∧((cellsFrom (s.heap.objs.size+1) scope.names []).lookup y.1).isSome=true):=fun ⟨n,v⟩ hy=>by
   rcases S.par n (List.of_mem_zip hy).1 with q | q
   · exact .inl q
   · exact .inr ⟨q,PySem.W.cellsFrom_some _ _ _ (.inl q)⟩
 refine codeAny_call_function hr.depth (KX _ _ lk) rfl S.co S.gen rfl (PySem.W.codeRec_of KX hcd) (hb _ _ _ _ ?_)
 refine wpAny_newFunctionEnv_cells S.kind hkind fun env he s1 x=>?_
 subst he
 refine ⟨lim.keeps x.toInCall.keep,codeAny_func ?_⟩
 obtain ⟨t,ht,hq⟩:=hbody A outer s H vs Q E (hr.deeper _) hsp
 have I:Inv (UQ CX P w K mg base N qual scope f cdv A outer s H E) [] (XL N vs) H s1:=Zbt S hr.hd e0 hl r x
 refine wpAny_mono (ht [] s1 (XL N vs) H _ I hq) (fun fl s' hs=>?_) fun e s' hs=>hs
 have fin:∀ {σ':St} {H':Hp} {v:V} {u:Value},Inv (UQ CX P w K mg base N qual scope f cdv A outer s H E) [] σ' H' s'→RelV v u→Q v H'→CE outer P w H s Q u s' :=
   fun {σ' H' v u} J rv q=>⟨v,H',J.os,J.bare,J.base,J.hok,rv,q⟩
 cases fl with
 | ret u =>
   obtain ⟨v,σ',H',J,rv,q⟩:=hs
   exact fin J rv q
 | next =>
   obtain ⟨σ',H',J,q⟩:=hs
   exact fin (v:=V.non) (u:=Value.none) J rfl q
 | brk =>
   obtain ⟨_,_,_,q⟩:=hs
   exact False.elim q
 | cont =>
   obtain ⟨_,_,_,q⟩:=hs
   exact False.elim q
end L2
namespace L2
open PySem PySem.Spec PyProof.Rows
section
variable {X:Cx}{x:Str}{p pos:Pos}{e:Expr}{es:List Expr}{t:TA}{id T:String}{r:List V→Hp→VK→Prop}
def tCB (r:List V→Hp→VK→Prop)(t:TA):TE:=fun σ H Q=>t σ H fun vs H1=>r vs H1 Q
theorem Zj (hc:YG X (.builtin id) r)(hg:Gl X x)(hm:X.mg x=none)(hv:bootBuiltins x=some (.builtin id))(ha:PA X (e::es) t)(hn:x≠"__name__":=by decide)(hdb:(x == ("__debug__":Str))=false:=by decide)
   (he:starEach (e::es) X.env=(false,eval e X.env)::starEach es X.env:=by rfl) (hpl:(backTo pos (starEach es X.env)).any (·.1)=false:=by rfl):PE X (.Call (.Name x p) (e::es) [] pos) (tCB r t):=by
 intro pins s σ H Q I h
 refine wpAny_Call_Name_kw (Wd I hg hm hv ?_ hn hdb)
 exact PyProof.Rows.callWith_builtin1 (Zn (ha pos pins s σ H _ I h) fun us s1 ⟨vs,H1,I1,r1,q1⟩=>hc pins s1 σ H1 vs us Q I1 r1 q1) he hpl
theorem XM (hc:YG X (.type T) r)(hg:Gl X x)(hm:X.mg x=none)(hv:bootBuiltins x=some (.type T))(ha:PA X (e::es) t)(hn:x≠"__name__":=by decide)(hdb:(x == ("__debug__":Str))=false:=by decide)
   (he:starEach (e::es) X.env=(false,eval e X.env)::starEach es X.env:=by rfl) (hpl:(backTo pos (starEach es X.env)).any (·.1)=false:=by rfl):PE X (.Call (.Name x p) (e::es) [] pos) (tCB r t):=by
 intro pins s σ H Q I h
 refine wpAny_Call_Name_kw (Wd I hg hm hv ?_ hn hdb)
 exact PyProof.Rows.callWith_type1 (Zn (ha pos pins s σ H _ I h) fun us s1 ⟨vs,H1,I1,r1,q1⟩=>hc pins s1 σ H1 vs us Q I1 r1 q1) he hpl
end
end L2
namespace HT
open PySem PyProof.Rows
section
open PySem.SeqAt
open PySem.AutoSeq1 (wpAny_loadPart')
open PySem.MeetsSeq PySem.MeetsSeq2 PySem.MeetsSeq3
end
section
variable {prog:Program}{w:World}{A:Around}{E:Value→Shared→Prop}{s:Shared}
theorem cat_tup {t b:Addr}{vs ws:List Value}{Q:Value→Shared→Prop}(ht:IsTup s.heap t vs.toArray)(hb:IsTup s.heap b ws.toArray)(hv:vs≠[])
   (h1:ws=[]→Q (.ref t) s) (h2:ws≠[]→Q (.ref s.heap.objs.size) { s with heap:=s.heap.push { cls:=.type "tuple",data:=.seq (vs++ws).toArray } })
   (hsz:vs.length+ws.length≤sizeLine):wpAny (model prog w) A (binaryOp .Add (.ref t) (.ref b)) Q E s:=by
 obtain ⟨⟨cls,dd,data,sl⟩,ho,hc,n,hd⟩:=id ht
 obtain ⟨⟨cls2,dd2,data2,sl2⟩,ho2,hc2,n2,hd2⟩:=id hb
 simp only at hc hd hc2 hd2
 subst hc hd hc2 hd2
 have e:vs.toArray++ws.toArray=(vs++ws).toArray:=by simp
 by_cases hw:ws=[]
 · exact concat_meets ⟨_,ho,rfl⟩ ⟨_,ho2,rfl⟩ noFill_tuple_add seq_tuple_add PySem.F.slot_tuple_add PySem.F.entry_tuple_add (PySem.F.args_tuple_add_2 _ _)
     (tuple_addW1 t b vs.toArray ws.toArray n n2 dd dd2 sl sl2 (by simpa using hv) (by simp [hw])) ⟨ho,ho2,h1 hw⟩
 · refine concat_meets ⟨_,ho,rfl⟩ ⟨_,ho2,rfl⟩ noFill_tuple_add seq_tuple_add PySem.F.slot_tuple_add PySem.F.entry_tuple_add (PySem.F.args_tuple_add_2 _ _)
     (tuple_addW2 t b vs.toArray ws.toArray n n2 dd dd2 sl sl2 (by simpa using hv) (by simpa using hw) (by rw [List.size_toArray,List.size_toArray];exact hsz)) ⟨ho,ho2,?_⟩
   rw [e]
   exact h2 hw
def sIx (n d:Nat):Option Int→Nat
 | none=>d
 | some v=>if v < 0 then (v+(n:Int)).toNat else min v.toNat n
theorem sIx_none (n d:Nat):sIx n d none=d:=rfl
theorem sIx_nat (n d k:Nat):sIx n d (some (k:Int))=min k n:=by
 show (if (k:Int) < 0 then ((k:Int)+(n:Int)).toNat else min (k:Int).toNat n)=min k n
 rw [if_neg (by omega),Int.toNat_natCast]
theorem sIx_le (n d:Nat)(hd:d≤n)(o:Option Int):sIx n d o≤n:=by
 cases o with
 | none=>exact hd
 | some v =>
   show (if v < 0 then (v+(n:Int)).toNat else min v.toNat n)≤n
   by_cases hv:v < 0
   · rw [if_pos hv];omega
   · rw [if_neg hv];exact Nat.min_le_right _ _
theorem Zau (v:Int)(n d:Nat):(if v < 0 then max (v+(n:Int)) 0 else min v (n:Int))=((sIx n d (some v):Nat):Int):=by
 show (if v < 0 then max (v+(n:Int)) 0 else min v (n:Int))=(((if v < 0 then (v+(n:Int)).toNat else min v.toNat n):Nat):Int)
 by_cases hv:v < 0
 · simp only [if_pos hv];omega
 · simp only [if_neg hv];omega
theorem Zba (lo hi:Option Int)(n:Nat):Builtin.Slice.sliceAdjust lo hi 1 (n:Int)=(((sIx n 0 lo:Nat):Int),((sIx n n hi:Nat):Int)):=by
 have h1:¬ ((1:Int) < 0):=by omega
 unfold Builtin.Slice.sliceAdjust
 simp only [h1,if_false]
 refine Prod.ext ?_ ?_
 · cases lo with
   | none=>rfl
   | some v=>exact Zau v n 0
 · cases hi with
   | none=>rfl
   | some v=>exact Zau v n n
theorem ZaQ (i j:Nat):Builtin.Slice.slicePlaces (i:Int) (j:Int) 1=j - i:=by
 unfold Builtin.Slice.slicePlaces
 have h1:(1:Int) > 0:=by omega
 simp only [h1,if_true,Int.ediv_one]
 split<;>omega
theorem Uo {v:Value}{o:Option Int}{Q:Option Int→Shared→Prop}(p:IsPart v o)(h:Q o s):wpAny (model prog w) A (Builtin.Slice.slicePartIndex v) Q E s:=by
 cases p with
 | none=>exact slicePart_none h
 | int i t=>exact slicePart_int h
theorem sliceApplied_gen {sl:Addr}{vl vu:Value}{lo hi:Option Int}{n:Nat}{Q:Int×Int×Nat→Shared→Prop}(hs:s.heap.IsSliceOf sl vl vu .none)(pl:IsPart vl lo)(pu:IsPart vu hi)
   (h:Q (((sIx n 0 lo:Nat):Int),1,sIx n n hi - sIx n 0 lo) s):wpAny (model prog w) A (Builtin.Slice.sliceApplied (.ref sl) (pure (n:Int))) Q E s:=by
 obtain ⟨os,hos,hcs,hds⟩:=id hs
 unfold Builtin.Slice.sliceApplied Builtin.Slice.sliceFields
 refine wpAny_bind (wpAny_bind (wpAny_field hos hds (x:=vl) rfl (wpAny_bind (wpAny_field hos hds (x:=vu) rfl (wpAny_bind (wpAny_field hos hds (x:=.none) rfl (wpAny_pure ?_)))))))
 refine wpAny_bind (slicePart_none ?_)
 show wpAny _ _ (if ((1:Int) == 0)=true then _ else _) _ _ s
 rw [if_neg (by decide)]
 refine wpAny_bind (Uo pl (wpAny_bind (Uo pu (wpAny_bind (wpAny_pure ?_)))))
 show wpAny _ _ (match Builtin.Slice.sliceAdjust lo hi 1 (n:Int) with | (lo,hi)=>pure (lo,(1:Int),Builtin.Slice.slicePlaces lo hi 1)) _ _ s
 rw [Zba lo hi n]
 show wpAny _ _ (pure (((sIx n 0 lo:Nat):Int),(1:Int),Builtin.Slice.slicePlaces ((sIx n 0 lo:Nat):Int) ((sIx n n hi:Nat):Int) 1)) _ _ s
 rw [ZaQ]
 exact wpAny_pure h
theorem ZcV (xs:Array Value)(i k:Nat):((List.range k).filterMap fun (m:Nat)=>xs[((i:Int)+(m:Int) * 1).toNat]?).toArray=((xs.toList.drop i).take k).toArray:=by
 have e:(fun (m:Nat)=>xs[((i:Int)+(m:Int) * 1).toNat]?)=fun m=>xs[i+m]?:=by
   funext m
   have:((i:Int)+(m:Int) * 1).toNat=i+m:=by omega
   rw [this]
 rw [e]
 have:=pick_run xs i k
 rw [List.filterMap_map] at this
 have e2:((fun x=>xs[x]?) ∘ fun x=>i+x)=fun m=>xs[i+m]?:=rfl
 rw [e2] at this
 rw [this]
theorem getItem_tuple_cut {t sl:Addr}{items:Array Value}{vl vu:Value}{lo hi:Option Int}{Q:Value→Shared→Prop}(ht:IsTup s.heap t items)(hs:s.heap.IsSliceOf sl vl vu .none)(pl:IsPart vl lo)(pu:IsPart vu hi)
   (hw:¬ (sIx items.size 0 lo=0∧sIx items.size items.size hi=items.size))
   (h:Q (.ref s.heap.objs.size) { s with heap:=s.heap.push { cls:=.type "tuple",data:=.seq ((items.toList.drop (sIx items.size 0 lo)).take (sIx items.size items.size hi - sIx items.size 0 lo)).toArray } })
   (hsz:items.size≤sizeLine):wpAny (model prog w) A (getItem (.ref t) (.ref sl)) Q E s:=by
 have htake:sizeOk (.seq ((items.toList.drop (sIx items.size 0 lo)).take (sIx items.size items.size hi - sIx items.size 0 lo)).toArray):=by
   show ((items.toList.drop (sIx items.size 0 lo)).take (sIx items.size items.size hi - sIx items.size 0 lo)).toArray.size≤sizeLine
   rw [List.size_toArray,List.length_take,List.length_drop,Array.length_toList]
   omega
 have hj:sIx items.size items.size hi≤items.size:=sIx_le _ _ (Nat.le_refl _) hi
 obtain ⟨os,hos,hcs,hds⟩:=id hs
 have hTs:s.TypeIs (.ref sl) "slice":=⟨os,hos,hcs⟩
 unfold getItem
 try with_reducible refine wpAny_holding ?_
 first | refine wpAny_bind (wpAny_pure ?_) | skip
 refine wpAny_bind (wpAny_sequenceKey ht.typeIs (by decide) ?_)
 refine wpAny_bind (wpAny_callSpecial?_slot (name:=Str.ofString "__getitem__") ht.typeIs PyProof.Rows.slot_tuple_getitem
   (wpAny_call_entry PyProof.Rows.slot_tuple_getitem ht.typeIs entry_tuple_getitem ?_ (args_tuple_getitem _ _)))
 show wpAny _ _ (Builtin.Tuple.tupleItemsOf (.ref t) >>= _) _ _ s
 refine wpAny_bind (tupleItemsOf_ ht ?_)
 refine wpAny_bind (wpAny_typeOf hTs ?_)
 rw [if_pos (by decide)]
 refine wpAny_bind (sliceApplied_gen hs pl pu ?_)
 have hno:¬ ((((sIx items.size 0 lo:Nat):Int) == 0&&(1:Int) == 1&&(sIx items.size items.size hi - sIx items.size 0 lo) == items.size)=true):=by
   intro q
   rw [Bool.and_eq_true,Bool.and_eq_true] at q
   have q1:((sIx items.size 0 lo:Nat):Int)=0:=eq_of_beq q.1.1
   have q2:sIx items.size items.size hi - sIx items.size 0 lo=items.size:=eq_of_beq q.2
   exact hw ⟨by omega,by omega⟩
 show wpAny _ _ (if (((sIx items.size 0 lo:Nat):Int) == 0&&(1:Int) == 1&&(sIx items.size items.size hi - sIx items.size 0 lo) == items.size)=true then _ else _) _ _ s
 rw [if_neg hno,ZcV]
 first
   | exact wpAny_bind (m:=Builtin.Tuple.tupleExact _) (wpAny_newObj_type (wpAny_pure ⟨_,rfl,wpAny_pure h⟩) htake)
   | exact wpAny_bind (m:=Builtin.Tuple.tupleExact _) (wpAny_newObj_type (wpAny_bind (wpAny_pure (wpAny_pure ⟨_,rfl,wpAny_pure h⟩))) htake)
   | exact wpAny_bind (wpAny_bind (m:=Builtin.Tuple.tupleExact _) (wpAny_newObj_type (wpAny_pure (wpAny_pure ⟨_,rfl,wpAny_pure h⟩)) htake))
   | exact wpAny_bind (wpAny_bind (m:=Builtin.Tuple.tupleExact _) (wpAny_newObj_type (wpAny_pure ⟨_,rfl,wpAny_pure h⟩) htake))
end
end HT
namespace L2
open PySem PySem.Spec PyProof.Rows
abbrev TO:=St→Hp→(Option Int→Hp→Prop)→Prop
def PO (X:Cx)(e:Option Expr)(t:TO):Prop :=
 ∀ (pins:List (Addr×Obj)) (s:Shared) (σ:St) (H:Hp) (Q:Option Int→Hp→Prop),Inv X pins σ H s→t σ H Q →
   wpAny (model X.prog X.w) X.A (evalPart e X.env) (fun u s'=>∃ o H',Inv X pins σ H' s'∧IsPart u o∧Q o H') X.xe s
def Xw:TO:=fun _ H Q=>Q none H
def Zfn (t:TE):TO:=fun σ H Q=>t σ H fun x H1=>∃ i,x=.int i∧Q (some i) H1
section
variable {X:Cx}{e:Expr}{te:TE}{lo hi:Option Expr}{tl th:TO}{pos p2:Pos}
theorem ZZ:PO X none Xw:=by
 intro pins s σ H Q I h
 rw [evalPart_none]
 exact wpAny_pure ⟨none,H,I,.none,h⟩
theorem ZP (h:PE X e te):PO X (some e) (Zfn te):=by
 intro pins s σ H Q I hw
 rw [evalPart_some]
 refine Zn (h pins s σ H _ I hw) fun u s1 ⟨x,H1,I1,r1,q1⟩=>?_
 obtain ⟨i,rfl,q⟩:=q1
 obtain ⟨t,rfl⟩:=r1
 exact ⟨some i,H1,I1,.int i t,q⟩
def SlR (X:Cx)(r:V→Option Int→Option Int→Hp→VK→Prop):Prop :=
 ∀ (pins:List (Addr×Obj)) (s:Shared) (σ:St) (H:Hp) (x:V) (v vl vu:Value) (lo hi:Option Int) (sl:Addr) (Q:VK),Inv X pins σ H s→RelV x v→s.heap.IsSliceOf sl vl vu .none→IsPart vl lo→IsPart vu hi→r x lo hi H Q →
   ∃ T id,typeLookup (.type T) "__getitem__"=pure (some (.builtin id))∧s.TypeIs v T∧wpAny (model X.prog X.w) X.A (getItem v (.ref sl)) (EP X pins σ Q) X.xe s
def tSl (r:V→Option Int→Option Int→Hp→VK→Prop)(te:TE)(tl th:TO):TE:=fun σ H Q=>te σ H fun x H1=>tl σ H1 fun l H2=>th σ H2 fun u H3=>r x l u H3 Q
theorem ZO {r:V→Option Int→Option Int→Hp→VK→Prop}(hr:SlR X r)(he:PE X e te)(hl:PO X lo tl)(hu:PO X hi th):PE X (.Subscript e (.Slice lo hi none p2) pos) (tSl r te tl th):=by
 intro pins s σ H Q I h
 refine Subscript_ (Zn (he pins s σ H _ I h) fun v s1 ⟨x,H1,I1,r1,q1⟩=>?_)
 refine wpAny_Slice (Zn (hl pins s1 σ H1 _ I1 q1) fun vl s2 ⟨l,H2,I2,pl,q2⟩=>Zn (hu pins s2 σ H2 _ I2 q2) fun vu s3 ⟨u,H3,I3,pu,q3⟩=>?_)
 rw [evalPart_none]
 refine wpAny_pure ?_
 have I4:Inv X pins σ H3 { s3 with heap:=s3.heap.push { cls:=.type "slice",data:=.fields #[vl,vu,.none] } }:=I3.kept (t':=s3.toks) fun b ob q=>Heap.get?_push_of_some _ q
 obtain ⟨T,id,hT,ht,hg⟩:=hr pins { s3 with heap:=s3.heap.push { cls:=.type "slice",data:=.fields #[vl,vu,.none] } } σ H3 x v vl vu l u s3.heap.objs.size Q I4 r1 (Heap.IsSliceOf.new ..) pl pu q3
 show wpAny (model X.prog X.w) X.A (subscriptTail e (.Slice lo hi none p2) v (.ref s3.heap.objs.size)) (EP X pins σ Q) X.xe { s3 with heap:=s3.heap.push { cls:=.type "slice",data:=.fields #[vl,vu,.none] } }
 exact tail_any (ops:=[.ref s3.heap.objs.size,v]) ht hT hg (by with_unfolding_all rfl)
def XX (xs:List V)(lo hi:Option Int):List V:=(xs.drop (HT.sIx xs.length 0 lo)).take (HT.sIx xs.length xs.length hi - HT.sIx xs.length 0 lo)
theorem VX (xs:List V)(lo hi:Option Int):(XX xs lo hi).length≤xs.length:=by
 unfold XX
 rw [List.length_take,List.length_drop]
 omega
def rSlT (K:PySem.W.Frag):V→Option Int→Option Int→Hp→VK→Prop:=fun x lo hi H Q=>∃ a xs,x=.ref a∧SqT K H a xs ∧
 ¬ (HT.sIx xs.length 0 lo=0∧HT.sIx xs.length xs.length hi=xs.length)∧∀ p,H p=none→Q (.ref p) (upd H p (.tup (XX xs lo hi)))
theorem VP:SlR X (rSlT X.K):=by
 intro pins s σ H x v vl vu lo hi sl Q I rx hs pl pu h
 obtain ⟨a,xs,rfl,hx,hw,q⟩:=h
 cases rx
 obtain ⟨its,r,ht,hz⟩:=I.tuple hx
 have hlen:its.toArray.size=xs.length:=by rw [List.size_toArray];exact r.length.symm
 refine ⟨"tuple",_,PyProof.Rows.slot_tuple_getitem.lookup,ht.typeIs,?_⟩
 refine HT.getItem_tuple_cut ht hs pl pu (by rw [hlen];exact hw) ?_ (by rw [hlen];exact hz)
 rw [hlen]
 refine ⟨.ref s.heap.objs.size,_,I.laid (t':=s.toks) (o:=.tup (XX xs lo hi)) (fun b ob q=>Heap.get?_push_of_some _ q) (Nat.le_refl _) ?_,rfl,q _ (I.hok.fresh (Nat.le_refl _))⟩
 exact ⟨Nat.le_trans (VX xs lo hi) hz,_,(r.drop (HT.sIx xs.length 0 lo)).take (HT.sIx xs.length xs.length hi - HT.sIx xs.length 0 lo),IsTup.new _ _⟩
def ZeZ (K:PySem.W.Frag):R2:=fun x y H Q=>∃ a b xs ys,x=.ref a∧y=.ref b∧SqT K H a xs∧SqT K H b ys∧xs≠[]∧xs.length+ys.length≤sizeLine ∧
 (ys=[]→Q (.ref a) H)∧(ys≠[]→∀ p,H p=none→Q (.ref p) (upd H p (.tup (xs++ys))))
theorem Vals.nil_iff {xs:List V}{us:List Value}(r:Vals xs us):us=[]↔xs=[]:=by
 cases r with
 | nil=>simp
 | cons _ _=>simp
theorem UE:Yh X (binaryOp .Add) (ZeZ X.K):=by
 intro pins s σ H x y v u Q I rx ry h
 obtain ⟨a,b,xs,ys,rfl,rfl,ha,hb,hx,hz,q1,q2⟩:=h
 cases rx
 cases ry
 obtain ⟨its,r1,p1,_⟩:=I.tuple ha
 obtain ⟨its2,r2,p2,_⟩:=I.tuple hb
 refine HT.cat_tup p1 p2 (fun z=>hx (r1.nil_iff.mp z)) (fun z=>⟨.ref a,H,I,rfl,q1 (r2.nil_iff.mp z)⟩) (fun z=>?_) (by rw [← r1.length,← r2.length];exact hz)
 refine ⟨.ref s.heap.objs.size,_,I.laid (t':=s.toks) (o:=.tup (xs++ys)) (fun b ob q=>Heap.get?_push_of_some _ q) (Nat.le_refl _) ?_,rfl,q2 (fun w=>z (r2.nil_iff.mpr w)) _ (I.hok.fresh (Nat.le_refl _))⟩
 exact ⟨by rw [List.length_append];exact hz,_,r1.append r2,IsTup.new _ _⟩
end
end L2
namespace L2
open PySem PySem.Spec PyProof.Rows
def VE (n:Nat)(i:Int):Option Nat:=if 0≤i then (if i < n then some i.toNat else none) else if -(n:Int)≤i then some (i+n).toNat else none
def Xr {α:Type}(xs:List α)(i:Int):Option α:=(VE xs.length i).bind fun j=>xs[j]?
theorem Zas {n:Nat}{i:Int}{j:Nat}(h:VE n i=some j):seqIndex? i n=some j∧j < n∧-(n:Int)≤i∧i < n:=by
 unfold VE at h
 by_cases h0:0≤i
 · rw [if_pos h0] at h
   by_cases h1:i < n
   · rw [if_pos h1] at h
     have e:i.toNat=j:=Option.some.inj h
     exact ⟨by rw [seqIndex_of h0 h1,e],by omega,by omega,h1⟩
   · rw [if_neg h1] at h;cases h
 · rw [if_neg h0] at h
   by_cases h1:-(n:Int)≤i
   · rw [if_pos h1] at h
     have e:(i+n).toNat=j:=Option.some.inj h
     exact ⟨by rw [seqIndex_neg (by omega) h1,e],by omega,h1,by omega⟩
   · rw [if_neg h1] at h;cases h
theorem UR {α:Type}{xs:List α}{i:Int}{v:α}(h:Xr xs i=some v):∃ j,seqIndex? i xs.length=some j∧xs[j]?=some v∧j < xs.length∧-(xs.length:Int)≤i∧i < xs.length:=by
 unfold Xr at h
 cases e:VE xs.length i with
 | none=>rw [e] at h;cases h
 | some j =>
   rw [e] at h
   obtain ⟨h1,h2,h3,h4⟩:=Zas e
   exact ⟨j,h1,h,h2,h3,h4⟩
theorem ZX {α:Type}{xs:List α}{j:Nat}{v:α}(h:xs[j]?=some v):Xr xs (j:Int)=some v:=by
 have hj:j < xs.length:=(List.getElem?_eq_some_iff.mp h).1
 have e:VE xs.length (j:Int)=some j:=by
   unfold VE
   rw [if_pos (by omega),if_pos (by omega)];simp
 unfold Xr;rw [e];exact h
def ZdI (b:Expr):Prop:=∀ o i,subscripted b false o i=operate [o,i] (getItem o i)
def IxR (X:Cx)(r:R2):Prop :=
 ∀ (value slice:Expr) (pins:List (Addr×Obj)) (s:Shared) (σ:St) (H:Hp) (x y:V) (v u:Value) (Q:VK),Inv X pins σ H s→RelV x v→RelV y u→r x y H Q →
   subscripted slice false v u=operate [v,u] (getItem v u)→wpAny (model X.prog X.w) X.A (subscriptTail value slice v u) (EP X pins σ Q) X.xe s
def MtR (X:Cx)(id:String)(r:V→List V→Hp→VK→Prop):Prop :=
 ∀ (pins:List (Addr×Obj)) (s:Shared) (σ:St) (H:Hp) (x:V) (xs:List V) (v:Value) (us:List Value) (Q:VK),Inv X pins σ H s→RelV x v→Vals xs us→r x xs H Q →
   wpAny (model X.prog X.w) X.A (call (.builtin id) (v::us)) (EP X pins σ Q) X.xe s
section
variable {X:Cx}{a b:Expr}{ta tb:TE}{pos:Pos}
theorem Zz {r:R2}(hr:IxR X r)(ha:PE X a ta)(hb:PE X b tb)(hs:ZdI b):PE X (.Subscript a b pos) (tOp r ta tb):=by
 intro pins s σ H Q I h
 exact Subscript_ (ZcO ha hb I h fun v u s2 x y H2 I2 rx ry q=>hr a b pins s2 σ H2 x y v u Q I2 rx ry q (hs _ _))
def rIxL (K:PySem.W.Frag):R2:=fun x y H Q=>∃ p xs i v,x=.ref p∧y=.int i∧SqL K H p xs∧Xr xs i=some v∧Q v H
def rIxT (K:PySem.W.Frag):R2:=fun x y H Q=>∃ p xs i v,x=.ref p∧y=.int i∧SqT K H p xs∧Xr xs i=some v∧Q v H
def rIxS:R2:=fun x y H Q=>∃ z i c,x=.str z∧y=.int i∧z.length≤sizeLine∧Xr z.cps.toList i=some c∧Q (.str ⟨#[c]⟩) H
theorem ZH:IxR X (rIxL X.K):=by
 intro value slice pins s σ H x y v u Q I rx ry h hs
 obtain ⟨p,xs,i,z,rfl,rfl,hq,he,q⟩:=h
 cases rx
 obtain ⟨t,rfl⟩:=ry
 obtain ⟨its,r,pl,hz⟩:=I.list hq
 obtain ⟨j,h1,h2,h3,h4,h5⟩:=UR he
 obtain ⟨w,ew,rw'⟩:=r.get h2
 have hl:=r.length
 have hn:=Xo
 have fin:EP X pins σ Q w s:=⟨z,H,I,rw',q⟩
 by_cases h0:0≤i
 · have hj:i.toNat=j:=by
     rw [seqIndex_of h0 h5] at h1
     exact Option.some.inj h1
   exact item_listR pl.isList h0 (by omega) (by rw [hj];simpa using ew) fin hs
 · have hj:(i+(its.toArray.size:Int)).toNat=j:=by
     rw [seqIndex_neg (by omega) h4] at h1
     rw [List.size_toArray,← hl]
     exact Option.some.inj h1
   exact subscriptTail_builtinR (x:=w) pl.isList.typeIs slot_list_getitem.lookup
     (wpAny_getItem_list_neg (Q:=fun r s'=>r=w∧EP X pins σ Q r s') pl.isList (by omega) (by rw [List.size_toArray]<;>omega) (by omega) (by rw [hj];simpa using ew) ⟨rfl,fin⟩) hs
theorem YB:IxR X (rIxT X.K):=by
 intro value slice pins s σ H x y v u Q I rx ry h hs
 obtain ⟨p,xs,i,z,rfl,rfl,hq,he,q⟩:=h
 cases rx
 obtain ⟨t,rfl⟩:=ry
 obtain ⟨its,r,pl,hz⟩:=I.tuple hq
 obtain ⟨j,h1,h2,h3,h4,h5⟩:=UR he
 obtain ⟨w,ew,rw'⟩:=r.get h2
 have hl:=r.length
 have hn:=Xo
 have fin:EP X pins σ Q w s:=⟨z,H,I,rw',q⟩
 exact subscriptTail_builtinR (x:=w) pl.typeIs slot_tuple_getitem.lookup
   (getItem_tuple (j:=j) (Q:=fun r s'=>r=w∧EP X pins σ Q r s') pl (by omega) (by omega) (by rw [List.size_toArray,← hl];exact h1) (by simpa using ew) ⟨rfl,fin⟩) hs
theorem Uq:IxR X rIxS:=by
 intro value slice pins s σ H x y v u Q I rx ry h hs
 obtain ⟨z,i,c,rfl,rfl,hz,he,q⟩:=h
 obtain ⟨t,rfl⟩:=rx
 obtain ⟨t',rfl⟩:=ry
 obtain ⟨j,h1,h2,h3,h4,h5⟩:=UR he
 have hl:z.cps.toList.length=z.length:=by simp [Str.length]
 rw [hl] at h1 h4 h5
 have hn:=Xo
 exact tail_any (typeIs_str s z t) slot_str_getitem.lookup (getItem_str (c:=c) (by
   have e1:decide (i < -(2 ^ 63:Int))=false:=decide_eq_false (by omega)
   have e2:decide (i ≥ 2 ^ 63)=false:=decide_eq_false (by omega)
   rw [e1,e2,Bool.or_false]) (by rw [h1];simpa using h2) ⟨.str ⟨#[c]⟩,H,I.tok _,⟨_,rfl⟩,q⟩) hs
theorem ZaF (its:List Value)(n j:Nat)(u:Value):Obj.mapSeq (·.setIfInBounds j u) { cls:=.type "list",data:=.seq its.toArray n }={ cls:=.type "list",data:=.seq (its.set j u).toArray n }:=by
 simp [Obj.mapSeq]
theorem Inv.lst {pins:List (Addr×Obj)}{σ:St}{H:Hp}{s:Shared}{p:Addr}{xs:List V}(I:Inv X pins σ H s)(h:H p=some (.lst xs)) :
   ∃ (its:List Value) (n:Nat),Vals xs its∧s.heap.get? p=some { cls:=.type "list",data:=.seq its.toArray n }∧xs.length≤sizeLine:=by
 obtain ⟨z,its,n,r,e⟩:=I.hok p _ h
 exact ⟨its,n,r,e,z⟩
theorem Inv.lstUpd {pins:List (Addr×Obj)}{σ:St}{H:Hp}{s:Shared}{p:Addr}{xs ys:List V}{its its':List Value}{n n':Nat}{f:Obj→Obj}(I:Inv X pins σ H s)(h:H p=some (.lst xs))
   (ho:s.heap.get? p=some { cls:=.type "list",data:=.seq its.toArray n }) (hf:f { cls:=.type "list",data:=.seq its.toArray n }={ cls:=.type "list",data:=.seq its'.toArray n' }) (r:Vals ys its') (hz:ys.length≤sizeLine) (t:Nat) :
   Inv X pins σ (upd H p (.lst ys)) { s with heap:=s.heap.update p f,toks:=t }:=by
 have e:(s.heap.update p f).get? p=some { cls:=.type "list",data:=.seq its'.toArray n' }:=by
   rw [Heap.get?_update_self f ho (by rw [hf]<;>rfl),hf]
 refine I.write (x:=p) (e:=p) (by rw [h];trivial) (.inl rfl) (fun b u hb q=>(Heap.get?_update_other _ _ (Ne.symm hb)).trans q) ⟨_,e⟩ ?_
 exact ⟨hz,its',n',r,e⟩
def Zfe:V→V→V→Hp→(Hp→Prop)→Prop:=fun o i v H Q=>∃ p xs k j,o=.ref p∧i=.int k∧H p=some (.lst xs)∧VE xs.length k=some j∧Q (upd H p (.lst (xs.set j v)))
theorem WR:PSet X Zfe:=by
 intro pins s σ H o i v ov iv u Q I ro ri rv h
 obtain ⟨p,xs,k,j,rfl,rfl,hp,hj,q⟩:=h
 cases ro
 obtain ⟨t,rfl⟩:=ri
 obtain ⟨its,n,r,ho,hz⟩:=I.lst hp
 obtain ⟨h1,h2,h3,h4⟩:=Zas hj
 have hl:=r.length
 have hn:=Xo
 have I':Inv X pins σ (upd H p (.lst (xs.set j v))) { s with heap:=s.heap.update p (Obj.mapSeq (·.setIfInBounds j u)) } :=
   I.lstUpd hp ho (ZaF its n j u) (r.set rv j) (by rw [List.length_set];exact hz) s.toks
 by_cases h0:0≤k
 · have hk:k.toNat=j:=by
     rw [seqIndex_of h0 h4] at h1
     exact Option.some.inj h1
   exact PySem.W.ki_setAt ho h0 (by omega) (by rw [List.size_toArray,← hl];exact h4) (by rw [hk];exact ⟨_,I',q⟩)
 · have hk:(k+(its.toArray.size:Int)).toNat=j:=by
     rw [seqIndex_neg (by omega) h3] at h1
     rw [List.size_toArray,← hl]
     exact Option.some.inj h1
   exact PySem.W.ki_setBack ho (by omega) (by rw [List.size_toArray,← hl];exact h3) (by omega) (by rw [hk];exact ⟨_,I',q⟩)
def XJ:V→Bool
 | .non=>true
 | .bl _=>true
 | .int _=>true
 | .str _=>true
 | _=>false
def WO:V→V→Bool
 | .non,.non=>true
 | .bl a,.bl b=>a == b
 | .bl a,.int b=>(if a then 1 else 0) == b
 | .int a,.bl b=>a == (if b then 1 else 0)
 | .int a,.int b=>a == b
 | .str a,.str b=>a == b
 | _,_=>false
theorem Zew {A:Around}{s:Shared}{y x:V}{u v:Value}(ry:RelV y u)(rx:RelV x v)(fy:XJ y=true)(fx:XJ x=true):SeqAt.EqAt A s u v (WO y x):=by
 cases y with
 | non =>
   cases ry
   cases x with
   | non=>cases rx;exact SeqAt.EqAt.same _
   | bl b=>cases rx;exact SeqAt.EqAt.none_bool b
   | int b=>obtain ⟨t,rfl⟩:=rx;exact SeqAt.EqAt.none_int b t
   | str b=>obtain ⟨t,rfl⟩:=rx;exact SeqAt.EqAt.none_str b t
   | _=>exact absurd (show false=true from fx) Bool.false_ne_true
 | bl a =>
   cases ry
   cases x with
   | non=>cases rx;exact SeqAt.EqAt.bool_none a
   | bl b=>cases rx;exact SeqAt.EqAt.bool_bool a b
   | int b=>obtain ⟨t,rfl⟩:=rx;exact SeqAt.EqAt.bool_int a b t
   | str b=>obtain ⟨t,rfl⟩:=rx;exact SeqAt.EqAt.bool_str a b t
   | _=>exact absurd (show false=true from fx) Bool.false_ne_true
 | int a =>
   obtain ⟨t',rfl⟩:=ry
   cases x with
   | non=>cases rx;exact SeqAt.EqAt.int_none a t'
   | bl b=>cases rx;exact SeqAt.EqAt.int_bool a t' b
   | int b=>obtain ⟨t,rfl⟩:=rx;exact SeqAt.EqAt.int_int a t' b t
   | str b=>obtain ⟨t,rfl⟩:=rx;exact SeqAt.EqAt.int_str a t' b t
   | _=>exact absurd (show false=true from fx) Bool.false_ne_true
 | str a =>
   obtain ⟨t',rfl⟩:=ry
   cases x with
   | non=>cases rx;exact SeqAt.EqAt.str_none a t'
   | bl b=>cases rx;exact SeqAt.EqAt.str_bool a t' b
   | int b=>obtain ⟨t,rfl⟩:=rx;exact SeqAt.EqAt.str_int a t' b t
   | str b=>obtain ⟨t,rfl⟩:=rx;exact SeqAt.EqAt.str_str a t' b t
   | _=>exact absurd (show false=true from fx) Bool.false_ne_true
 | _=>exact absurd (show false=true from fy) Bool.false_ne_true
def Ue (x:V)(u:Value):Bool:=match u with
 | .none=>WO .non x
 | .bool b=>WO (.bl b) x
 | .int i _=>WO (.int i) x
 | .str z _=>WO (.str z) x
 | _=>false
theorem Zby {x y:V}{u:Value}(r:RelV y u)(f:XJ y=true):Ue x u=WO y x:=by
 cases y with
 | non=>cases r;rfl
 | bl b=>cases r;rfl
 | int i=>obtain ⟨t,rfl⟩:=r;rfl
 | str z=>obtain ⟨t,rfl⟩:=r;rfl
 | _=>exact absurd (show false=true from f) Bool.false_ne_true
theorem UK {x:V}:∀{xs:List V}{us:List Value},Vals xs us→xs.all XJ=true→us.any (Ue x)=xs.any fun y=>WO y x
 | _,_,.nil,_=>rfl
 | y::xs,u::us,.cons r t,f=>by
   rw [List.all_cons,Bool.and_eq_true] at f
   rw [List.any_cons,List.any_cons,Zby r f.1,UK t f.2]
theorem WP {A:Around}{s:Shared}{x:V}{v:Value}(rx:RelV x v)(fx:XJ x=true):∀{xs:List V}{us:List Value},Vals xs us→xs.all XJ=true→∀ u∈us,SeqAt.EqAt A s u v (Ue x u)
 | _,_,.nil,_=>fun u hu=>by cases hu
 | y::xs,u::us,.cons r t,f=>fun u' hu=>by
   rw [List.all_cons,Bool.and_eq_true] at f
   rcases List.mem_cons.mp hu with rfl | hu
   · rw [Zby r f.1];exact Zew r rx f.1 fx
   · exact WP rx fx t f.2 u' hu
def We (x:V)(xs:List V):Bool:=xs.any fun y=>WO y x
def rIn (K:PySem.W.Frag)(neg:Bool):R2:=fun x y H Q=>∃ p xs,y=.ref p∧(SqL K H p xs∨SqT K H p xs)∧XJ x=true∧xs.all XJ=true∧Q (.bl (if neg then !We x xs else We x xs)) H
theorem XS:Yh X (compareOp .In) (rIn X.K false):=by
 intro pins s σ H x y v u Q I rx ry h
 obtain ⟨p,xs,rfl,hq,fx,fs,q⟩:=h
 cases ry
 rcases hq with hq | hq
 · obtain ⟨its,r,pl,hz⟩:=I.list hq
   refine SeqAt.in_listAt (Ue x) pl.isList (fun w hw=>WP rx fx r fs w (by simpa using hw)) ⟨.bl _,H,I,rfl,?_⟩
   rw [show its.toArray.any (Ue x)=its.any (Ue x) by simp,UK r fs]
   exact q
 · obtain ⟨its,r,pl,hz⟩:=I.tuple hq
   refine SeqAt.in_tupleAt (Ue x) pl (fun w hw=>WP rx fx r fs w (by simpa using hw)) ⟨.bl _,H,I,rfl,?_⟩
   rw [show its.toArray.any (Ue x)=its.any (Ue x) by simp,UK r fs]
   exact q
theorem Zv:YG X (.builtin "len") (fun xs H Q=>∃ p ys,xs=[.ref p]∧(SqL X.K H p ys∨SqT X.K H p ys)∧Q (.int ys.length) H):=by
 intro pins s σ H xs us Q I r h
 obtain ⟨p,ys,rfl,hq,q⟩:=h
 obtain ⟨u,rfl,rx⟩:=Xj r
 cases rx
 have hn:=Xo
 rcases hq with hq | hq
 · obtain ⟨its,r',pl,hz⟩:=I.list hq
   have hlen:=r'.length
   exact Calls.call_len_list pl.isList (by simp only [List.size_toArray]<;>omega) ⟨.int ys.length,H,I.tok _,⟨s.toks+1,by rw [List.size_toArray,hlen]⟩,q⟩
 · obtain ⟨its,r',pl,hz⟩:=I.tuple hq
   have hlen:=r'.length
   exact len_tuple pl (by simp only [List.size_toArray]<;>omega) ⟨.int ys.length,H,I.tok _,⟨s.toks+1,by rw [List.size_toArray,hlen]⟩,q⟩
theorem WA:YG X (.builtin "len") (fun xs H Q=>∃ z,xs=[.str z]∧z.length≤sizeLine∧Q (.int z.length) H):=by
 intro pins s σ H xs us Q I r h
 obtain ⟨z,rfl,hz,q⟩:=h
 obtain ⟨u,rfl,t,rfl⟩:=Xj r
 have hn:=Xo
 exact len_str (by omega) ⟨.int z.length,H,I.tok _,⟨_,rfl⟩,q⟩
theorem VD:YG X (.type "list") (fun xs H Q=>∃ p ys,xs=[.ref p]∧(SqL X.K H p ys∨SqT X.K H p ys)∧∀ l,H l=none→Q (.ref l) (upd H l (.lst ys))):=by
 intro pins s σ H xs us Q I r h
 obtain ⟨p,ys,rfl,hq,q⟩:=h
 obtain ⟨u,rfl,rx⟩:=Xj r
 cases rx
 have fin:∀ (its:List Value),Vals ys its→ys.length≤sizeLine→∀ (h':Heap) (c':Nat),(∀ b o',s.heap.get? b=some o'→h'.get? b=some o') →
     h'.get? s.heap.objs.size=some { cls:=.type "list",dict:=none,data:=.seq its.toArray c',slots:=#[] }→EP X pins σ Q (.ref s.heap.objs.size) { s with heap:=h' }:=fun its r' hz h' c' kp e =>
   ⟨.ref s.heap.objs.size,_,I.laid (t':=s.toks) kp (Nat.le_refl _) (show ObjOk X.prog X.w _ h' _ (.lst ys) from ⟨hz,its,c',r',e⟩),rfl,q _ (I.hok.fresh (Nat.le_refl _))⟩
 rcases hq with hq | hq
 · obtain ⟨its,r',pl,hz⟩:=I.list hq
   have hlen:=r'.length
   obtain ⟨o,ho,hc,n,hd⟩:=pl.isList
   exact call_list_seq p (.inl rfl) ho hc hd (fun h' c' kp e=>fin its r' hz h' c' kp e) (by simp only [List.size_toArray]<;>omega)
 · obtain ⟨its,r',pl,hz⟩:=I.tuple hq
   have hlen:=r'.length
   obtain ⟨o,ho,hc,n,hd⟩:=pl
   exact call_list_seq p (.inr rfl) ho hc hd (fun h' c' kp e=>fin its r' hz h' c' kp e) (by simp only [List.size_toArray]<;>omega)
theorem Vd:YG X (.type "tuple") (fun xs H Q=>∃ p ys,xs=[.ref p]∧((SqL X.K H p ys∧∀ l,H l=none→Q (.ref l) (upd H l (.tup ys)))∨(SqT X.K H p ys∧Q (.ref p) H))):=by
 intro pins s σ H xs us Q I r h
 obtain ⟨p,ys,rfl,h⟩:=h
 obtain ⟨u,rfl,rx⟩:=Xj r
 cases rx
 rcases h with ⟨hq,q⟩ | ⟨hq,q⟩
 · obtain ⟨its,r',pl,hz⟩:=I.list hq
   have hlen:=r'.length
   refine call_tuple_list pl.isList (fun h' kp=>?_) (by simp only [List.size_toArray]<;>omega)
   have I1:Inv X pins σ H { s with heap:=h' }:=I.kept (t':=s.toks) kp
   have I2:Inv X pins σ (upd H h'.objs.size (.tup ys)) { s with heap:=h'.push { cls:=.type "tuple",data:=.seq its.toArray } } :=
     I1.laid (t':=s.toks) (fun b o e=>Heap.get?_push_of_some _ e) (Nat.le_refl _) (show ObjOk X.prog X.w _ _ _ (.tup ys) from ⟨hz,its,r',IsTup.new _ _⟩)
   exact ⟨.ref h'.objs.size,_,I2,rfl,q _ (I1.hok.fresh (Nat.le_refl _))⟩
 · obtain ⟨its,r',pl,hz⟩:=I.tuple hq
   exact call_tuple_same pl ⟨.ref p,H,I,rfl,q⟩
def tyV (K:PySem.W.Frag)(T:String)(x:V)(H:Hp):Prop:=match x with
 | .str _=>T="str"
 | .int _=>T="int"
 | .ref p=>(T="list"∧∃ xs,SqL K H p xs)∨(T="tuple"∧∃ o,K.lookup p=some o∧o.cls=.type "tuple"∧o.dict=none) ∨
     (T="dict"∧((∃ kvs,H p=some (.dK kvs))∨∃ kvs,H p=some (.dT kvs)))∨(T="set"∧∃ S n,H p=some (.set S n))
 | _=>False
theorem ZdY {pins:List (Addr×Obj)}{σ:St}{H:Hp}{s:Shared}{T:String}{x:V}{v:Value}(I:Inv X pins σ H s)(r:RelV x v)(ty:tyV X.K T x H) :
   s.TypeIs v T∧∀ a,v=.ref a→∃ ob,s.heap.get? a=some ob∧ob.dict=none:=by
 cases x with
 | str z =>
   obtain ⟨t,rfl⟩:=r
   cases (show T="str" from ty)
   exact ⟨typeIs_str s z t,fun _ e=>nomatch e⟩
 | int i =>
   obtain ⟨t,rfl⟩:=r
   cases (show T="int" from ty)
   exact ⟨typeIs_int s i t,fun _ e=>nomatch e⟩
 | ref p =>
   cases r
   rcases ty with ⟨rfl,xs,hq⟩ | ⟨rfl,o,hk,hc,hd⟩ | ⟨rfl,hk⟩ | ⟨rfl,S,n,hk⟩
   · obtain ⟨its,_,pl,_⟩:=I.list hq
     refine ⟨pl.isList.typeIs,fun a e=>?_⟩
     cases e
     obtain ⟨o,n,e,c,hd,_⟩:=pl
     exact ⟨o,e,hd⟩
   · refine ⟨⟨o,I.kIn p o hk,hc⟩,fun a e=>?_⟩
     cases e
     exact ⟨o,I.kIn _ o hk,hd⟩
   · have z:∃ o,s.heap.get? p=some o∧o.ExactDict:=by
       rcases hk with ⟨kvs,hk⟩ | ⟨kvs,hk⟩
       · obtain ⟨_,_,_,_,o,_,_,e,ex,_⟩:=I.hok p _ hk
         exact ⟨o,e,ex⟩
       · obtain ⟨_,_,_,_,o,_,_,e,ex,_⟩:=I.hok p _ hk
         exact ⟨o,e,ex⟩
     obtain ⟨o,e,ex⟩:=z
     refine ⟨⟨o,e,ex.1⟩,fun a e2=>?_⟩
     cases e2
     exact ⟨o,e,ex.2.1⟩
   · obtain ⟨o,_,_,_,e,ex,_⟩:=I.hok p _ hk
     refine ⟨⟨o,e,ex.1⟩,fun a e2=>?_⟩
     cases e2
     exact ⟨o,e,ex.2.1⟩
 | _=>exact False.elim ty
def tBM (K:PySem.W.Frag)(T:String)(r:V→List V→Hp→VK→Prop)(to:TE)(t:TA):TE:=fun σ H Q=>to σ H fun x H1=>tyV K T x H1∧t σ H1 fun xs H2=>r x xs H2 Q
variable {o e:Expr}{es:List Expr}{to:TE}{t:TA}{name:Str}{apos cpos:Pos}{T id:String}{r:V→List V→Hp→VK→Prop}
theorem Vf (pa:PlainAttrs T)(slot:Slot T name id)(hty:typeOf (.builtin id)=pure (.type "method_descriptor"))(hm:MtR X id r)(ho:PE X o to)(ha:PA X (e::es) t)
   (hbase:attributeBase o name X.env (eval o X.env)=eval o X.env:=by rfl)
   (hfew:((backTo cpos (starEach (e::es) X.env)).all (fun x=>!x.1)&&(backToKw cpos (keywordEach [] X.env)).all (fun x=>x.1.isSome)
     && decide ((e::es).length+([]:List Keyword).length+(if ([]:List Keyword).isEmpty then 0 else 1) < 30))=true:=by rfl)
   (hline:(apos.endLine == cpos.line)=true:=by rfl) (hs:starEach (e::es) X.env=(false,eval e X.env)::starEach es X.env:=by rfl) (hplain:(backTo cpos (starEach es X.env)).any (·.1)=false:=by rfl) :
   PE X (.Call (.Attribute o name apos) (e::es) [] cpos) (tBM X.K T r to t):=by
 intro pins s σ H Q I h
 refine wpAny_Call_method_late hbase hfew hline rfl (Zn (ho pins s σ H _ I h) fun v s1 ⟨x,H1,I1,r1,ty,q1⟩=>?_)
 obtain ⟨h1,h2⟩:=ZdY I1 r1 ty
 refine ⟨T,id,pa,slot,hty,h1,h2,?_⟩
 have hA:=ha cpos pins s1 σ H1 _ I1 q1
 rw [hs] at hA ⊢
 refine Calls.callWith_builtin (by show (false || (backTo cpos (starEach es X.env)).any (·.1))=false;rw [hplain]<;>rfl) (Calls.evalArgs_plain ?_)
 exact Zn hA fun us s2 ⟨vs,H2,I2,r2,q2⟩=>hm pins s2 σ H2 x vs v us Q I2 r1 r2 q2
end
end L2
namespace L2
open PySem PySem.Spec PyProof.Rows
def MtM (X:Cx)(id:String)(r:V→List V→Hp→VK→Prop):Prop :=
 ∀ (pins:List (Addr×Obj)) (s:Shared) (σ:St) (H:Hp) (x:V) (xs:List V) (v:Value) (us:List Value) (Q:VK),Inv X pins σ H s→RelV x v→Vals xs us→r x xs H Q →
   wpAny (model X.prog X.w) X.A (call (.builtin id) (v::us)) (EP X pins σ Q) X.xe s
theorem Vals.one:∀{x:V}{us:List Value},Vals [x] us→∃ u,us=[u]∧RelV x u
 | _,_,.cons r .nil=>⟨_,rfl,r⟩
theorem Vals.rep {xs:List V}{us:List Value}(h:Vals xs us):∀ k:Nat,Vals (List.replicate k xs).flatten (List.replicate k us).flatten
 | 0=>.nil
 | k+1=>by
   rw [List.replicate_succ,List.replicate_succ,List.flatten_cons,List.flatten_cons]
   exact Vals.append h (Vals.rep h k)
theorem Vc (its:List Value):∀(k:Nat)(acc:List Value),
   List.foldl (fun x1 x2=>x1++x2) acc.toArray (List.replicate k its.toArray)=(acc++(List.replicate k its).flatten).toArray
 | 0,acc=>by simp
 | k + 1,acc=>by
   have e:acc.toArray++its.toArray=(acc++its).toArray:=by simp
   have e2:(acc++its)++(List.replicate k its).flatten=acc++(List.replicate (k+1) its).flatten:=by
     rw [List.replicate_succ,List.flatten_cons,List.append_assoc]
   rw [← e2,← Vc its k (acc++its),← e,List.replicate_succ,List.foldl_cons]
section
variable {X:Cx}{pins:List (Addr×Obj)}{σ:St}{H:Hp}{s:Shared}{l b:Addr}{xs ys zs:List V}
theorem Inv.lset {its its':List Value}{n:Nat}{f:Array Value→Array Value}{t':Nat}(I:Inv X pins σ H s)(hH:H l=some (.lst xs))
   (e:s.heap.get? l=some { cls:=.type "list",data:=.seq its.toArray n }) (hf:f its.toArray=its'.toArray) (hv:Vals ys its') (hz:ys.length≤sizeLine) :
   Inv X pins σ (upd H l (.lst ys)) { s with heap:=s.heap.update l (Obj.mapSeq f),toks:=t' }:=by
 have q:=PySem.IsL.update e f
 rw [hf] at q
 refine I.write (x:=l) (e:=l) (by rw [hH];exact trivial) (.inl rfl) (fun b' u hb hu=>(Heap.get?_update_other s.heap (Obj.mapSeq f) (Ne.symm hb)).trans hu) ⟨_,q⟩ ?_
 exact ⟨hz,its',_,hv,q⟩
theorem Inv.lnew {its:List Value}{t':Nat}(I:Inv X pins σ H s)(hv:Vals ys its)(hz:ys.length≤sizeLine) :
   Inv X pins σ (upd H s.heap.objs.size (.lst ys)) { s with heap:=s.heap.push { cls:=.type "list",data:=.seq its.toArray },toks:=t' } :=
 I.laid (fun _ _ q=>Heap.get?_push_of_some _ q) (Nat.le_refl _) ⟨hz,its,0,hv,Heap.get?_push_size _ rfl⟩
theorem Inv.fresh (I:Inv X pins σ H s):H s.heap.objs.size=none:=I.hok.fresh (Nat.le_refl _)
theorem Inv.lstM (I:Inv X pins σ H s)(hH:H l=some (.lst xs)):xs.length≤sizeLine∧∃ (its:List Value) (n:Nat),Vals xs its∧xs.length=its.length∧s.heap.get? l=some { cls:=.type "list",data:=.seq its.toArray n }:=by
 obtain ⟨z,its,n,r,e⟩:=I.hok l _ hH
 exact ⟨z,its,n,r,r.length,e⟩
end
section
variable {X:Cx}
def Zdv:V→List V→Hp→VK→Prop:=fun x vs H Q=>∃ l xs y,x=.ref l∧vs=[y]∧H l=some (.lst xs)∧xs.length < sizeLine∧Q .non (upd H l (.lst (xs++[y])))
theorem XQ:MtM X "list.append" Zdv:=by
 intro pins s σ H x vs v us Q I rx rv h
 obtain ⟨l,xs,y,rfl,rfl,hH,hz,q⟩:=h
 cases rx
 obtain ⟨u,rfl,ru⟩:=rv.one
 obtain ⟨z,its,n,r,hl,e⟩:=I.lstM hH
 refine call_meets F.slot_list_append ⟨_,e,rfl⟩ F.entry_list_append (F.args_list_append_2 _ _) (PySem.list_append l its.toArray n u (by rw [List.size_toArray];omega)) ⟨e,?_⟩
 refine ⟨.non,_,I.lset (its':=its++[u]) hH e (by simp) (r.append (.cons ru .nil)) ?_,rfl,q⟩
 rw [List.length_append,List.length_singleton]
 omega
def rCat:R2:=fun x y H Q=>∃ l b xs zs,x=.ref l∧y=.ref b∧H l=some (.lst xs)∧H b=some (.lst zs)∧xs.length+zs.length≤sizeLine∧∀ p,H p=none→Q (.ref p) (upd H p (.lst (xs++zs)))
theorem Wj:Yh X (binaryOp .Add) rCat:=by
 intro pins s σ H x y v u Q I rx ry h
 obtain ⟨l,b,xs,zs,rfl,rfl,hH,hB,hz,q⟩:=h
 cases rx
 cases ry
 obtain ⟨z,its,n,r,hl,e⟩:=I.lstM hH
 obtain ⟨z2,its2,n2,r2,hl2,e2⟩:=I.lstM hB
 refine PySem.P.add_list e e2 ?_ (by rw [List.size_toArray,List.size_toArray];omega)
 have ea:its.toArray++its2.toArray=(its++its2).toArray:=by simp
 rw [ea]
 exact ⟨.ref _,_,I.lnew (t':=s.toks) (r.append r2) (by rw [List.length_append];omega),rfl,q _ I.fresh⟩
theorem Zan {α:Type}(xs:List α)(k:Nat):(List.replicate k xs).flatten.length=k * xs.length:=by
 induction k with
 | zero=>simp
 | succ k ih=>rw [List.replicate_succ,List.flatten_cons,List.length_append,ih,Nat.succ_mul,Nat.add_comm]
end
section
variable {prog:Program}{w:World}{A:Around}{E:Value→Shared→Prop}{s:Shared}
end
section
variable {X:Cx}
end
end L2
namespace Att
open PySem PySem.W PySem.Calls PyProof.Rows
theorem Ut {P:Params}{h:Heap}:∀(ns:List Int)(vs:List Value),WellAll P h vs (ns.map WData.int)→IntsAre vs ns:=by
 intro ns
 induction ns with
 | nil =>
   intro vs w
   rw [List.map_nil] at w
   cases w
   exact .nil
 | cons n ns ih =>
   intro vs w
   rw [List.map_cons] at w
   cases w with
   | cons a b =>
     cases a
     exact .cons _ _ (ih _ b)
theorem ZbS {l:OpenLaw}{n:Nat}(hn:l.most=some n){P:Params}{h:Heap}{args:List WData}{vals:List Value}
   (hpre:l.row.toRowW.claim.pre args=true) (hwl:WellAll P h vals args) :
   ∃ a vs ns,vals=[Value.ref a]∧args=[WData.list (ns.map WData.int)]∧h.get? a=some { cls:=.type "list",data:=.seq vs.toArray }∧IntsAre vs ns∧ns.length≤n:=by
 have hsh:WShape.hasAll [] args [.list .int]=true:=(pre_splitW hpre).1
 have hc:l.pre.holds [] { args:=args }=true:=(pre_splitW hpre).2
 obtain ⟨d,r,rfl,h1,h2⟩:=hasAllW_cons hsh
 obtain rfl:=hasAllW_nil h2
 obtain ⟨xs,rfl,h3⟩:=hasW_list h1
 obtain ⟨ns,rfl⟩:=items_int h3
 have hlen:ns.length≤n:=by
   unfold OpenLaw.pre at hc
   have h4:(WTm.not (.lt (.lit (.int (n:Int))) (.len (.arg 0)))).holds [] { args:=[.list (ns.map .int)] }=true:=by
     have h4:=(holds_andW hc).1
     rw [hn] at h4
     exact h4
   have h5:=condW_of h4 (w_not (w_lt w_lit (w_len_list (w_arg rfl))))
   rw [List.length_map] at h5
   refine Nat.le_of_not_lt fun q=>?_
   have q':(n:Int) < ((ns.length:Nat):Int):=by omega
   first
     | (rw [decide_eq_true q'] at h5;exact absurd h5 (by decide))
     | (simp at h5;omega)
 cases hwl with
 | cons w1 w2 =>
   cases w2
   cases w1 with
   | list ho hall=>exact ⟨_,_,ns,rfl,rfl,ho,Ut ns _ hall,hlen⟩
theorem Zcb (l:OpenLaw)(args:List WData):l.row.toRowW.claim.post args (.bool true) args=true :=
 postW_of (r:=l.row.toRowW) (X:=(true == true))
   (show WShape.has [] (.bool true) .bool=true by first | rfl | decide | simp [WShape.has,WShape.arms,WShape.armsAll])
   (show (WTm.eq .res (.lit (.bool true))).value [] { args:=args,res:=some (.bool true),after:=args }=some (.bool (true == true)) from w_eq_bool (w_res rfl) w_lit) rfl
theorem attach_call {l:OpenLaw}{n:Nat}{q:Program}{loose:List Str}{XP:(Str→Option Value)→Heap→Prop}{YP:World→Heap→Prop}{d:DefRec}
   (hn:l.most=some n) (hdf:d.params.defaults=[])
   (call:∀ (w:World) (s₀ s₁:Shared) (mg mb:Str→Option Value) (fa:Addr) (o:Obj) (pm cd doc:Value) (a:Addr) (vs:List Value) (ns:List Int),
     Ground q loose [] XP w s₀ mg mb s₁.heap→YP w s₁.heap →
     s₁.heap.get? fa=some o→o.data=.func (docDef d.name d.params d.body d.scope pm cd doc)→s₁.heap.CodeRec cd d.name→mg d.name=some (.ref fa) →
     s₁.heap.get? a=some { cls:=.type "list",data:=.seq vs.toArray }→IntsAre vs ns→ns.length≤n→s₁.gens=#[] →
     codeAny (model l.prog w) callerA (.call (.ref fa) ⟨[.ref a],[]⟩) (fun r s'=>r=.ok (.ret (.bool true))∧OldK s₁.heap s'.heap∧s'.os=s₁.os∧AllBare s'.gens) s₁) :
   WalkO q loose XP YP l.row.toRowW d [] (fun f vs=>PySem.call f vs):=by
 intro w s₀ s₁ mg mb G Y fa o pm cd doc dV kV ho hd hcd hD hmg hg args vals as hpre hlay hrd hwl hlo
 obtain rfl:dV=.none:=Dflts.none hD hdf
 obtain rfl:kV=.none:=Dflts.noKw hD
 obtain ⟨a,vs,ns,rfl,rfl,hobj,hints,hlen⟩:=ZbS hn hpre hwl
 refine enter_call (codeAny_mono (call w s₀ s₁ mg mb fa o pm cd doc a vs ns G Y ho (fd_plain hd) hcd hmg hobj hints hlen hg) fun r s' hq=>?_)
 obtain ⟨rfl,h2,h3,h4⟩:=hq
 exact ⟨.inl ⟨.bool true,.bool true,[],rfl,fun _=>rfl,.bool true,Zcb l _,fun _=>⟨List.Pairwise.nil,fun _ hm=>(nomatch hm)⟩⟩,h2,h3,h4⟩
section
variable {prog:Program}{w:World}{A:Around}{E:Value→Shared→Prop}{s:Shared}{K:Frag}
end
end Att
namespace L2
open PySem PySem.Spec PyProof.Rows
theorem UW:∀{vs:List Value}{ns:List Int},IntsAre vs ns→Vals (ns.map V.int) vs
 | _,_,.nil=>.nil
 | _,_,.cons n t h=>.cons ⟨t,rfl⟩ (UW h)
end L2
namespace L2
open PySem PySem.Spec PyProof.Rows
end L2
namespace L2
open PySem PySem.Spec PyProof.Rows
def UA (s:Stmt):Arguments:=match s with
 | .FunctionDef _ a _ _ _ _ _ _ _ _=>a
 | _=>{ posonlyargs:=[],args:=[],vararg:=none,kwonlyargs:=[],kw_defaults:=[],kwarg:=none,defaults:=[] }
def Wi (s:Stmt):List Stmt:=match s with
 | .FunctionDef _ _ b _ _ _ _ _ _ _=>b
 | _=>[]
def Zo (s:Stmt):Scope:=match s with
 | .FunctionDef _ _ _ _ _ _ sc _ _ _=>sc
 | _=>{ kind:=.function,names:=[],isGenerator:=false,isCoroutine:=false }
abbrev Yb:XR:=fun _ _ _ _ _ _=>False
abbrev E0:XK:=fun _ _ _=>False
theorem Zfk {X:Cx}:VA Yb X E0:=fun _ _ _ _ _ _ _ h=>h.elim
structure Fun (K:PySem.W.Frag)(x qual:Str)(st:Stmt)(f:Addr)(fd:FuncData):Prop where
 ex:∃ (oc:Value) (od:Option Addr) (kV doc pm:Value) (an:Option Addr) (cdv ct:Value) (osl:Array (Option Value)),
   fd=PySem.W.fnOf x qual (UA st) (Wi st) (Zo st) .none kV doc pm an cdv ct∧K.lookup f=some ⟨oc,od,.func fd,osl⟩∧PySem.W.codeIn K cdv qual=true
 kp:PySem.W.keepIn K (.ref f)=true
section
variable {P:Program}{w:World}{K:PySem.W.Frag}{mg:Str→Option Value}{base:Heap}
theorem Fun.ok {x qual:Str}{st:Stmt}{f:Addr}{fd:FuncData}{N ps:List Str}{k:Nat}{sp:Sp}(F:Fun K x qual st f fd)(S:ZD N ps (Zo st))(len:∀ vs H Q E,sp vs H Q E→vs.length=ps.length)
   (hbody:∀ (cdv:Value) (A:Around) (outer:List Env) (s:Shared) (H:Hp) (vs:List V) (Q:VK) (E:XK),Room k (A.deeper (envOfC qual (Zo st) s.heap.objs.size f cdv))→sp vs H Q E →
     ∃ t,PSs (UQ Yb P w K mg base N qual (Zo st) f cdv A outer s H E).nox (Wi st) t∧t { nx:=fun _ H'=>Q .non H',rt:=Q } (XL N vs) H):FnOk P w K mg base Yb (k+1) f fd ps sp:=by
 obtain ⟨oc,od,kV,doc,pm,an,cdv,ct,osl,rfl,lk,hcd⟩:=F.ex
 refine Zfh lk hcd S len fun A outer s H vs Q E hr hsp=>?_
 obtain ⟨t,h,q⟩:=hbody cdv A outer s H vs Q E hr hsp
 exact ⟨t,h.nox,q⟩
theorem Fun.binds {x qual:Str}{st:Stmt}{f:Addr}{fd:FuncData}{ps:List Str}(F:Fun K x qual st f fd)
   (h:∀ (kV doc pm:Value) (an:Option Addr) (cdv ct:Value) (us:List Value),us.length=ps.length→bindArgs (PySem.W.fnOf x qual (UA st) (Wi st) (Zo st) .none kV doc pm an cdv ct) ⟨us,[]⟩=pure (ps.zip us)):Binds K fd ps []:=by
 obtain ⟨oc,od,kV,doc,pm,an,cdv,ct,osl,rfl,lk,hcd⟩:=F.ex
 exact .all (h kV doc pm an cdv ct)
end
theorem Zck {n:Nat}(h:n≤1000):n < sizeLine:=Nat.lt_of_le_of_lt h (by decide)
section
variable {X:Cx}
theorem pv (i:Nat){x:Str}{pos:Pos}(hN:X.N[i]?=some x:=by rfl)(hv:Vis X.env.scope x:=by first | exact Or.inl rfl | exact Or.inr (Or.inl rfl) | exact Or.inr (Or.inr rfl))(hd:(x == ("__debug__":Str))=false:=by decide)
 (hcd:(x == ("__classdict__":Str))=false:=by decide):PE X (.Name x pos) (VR i):=Zem hN hv hd hcd
end
theorem ZJ {A B:Prop}(h:B):if false=true then A else B:=by
 rw [if_neg Bool.false_ne_true]
 exact h
theorem ZG {A B:Prop}(h:A):if true=true then A else B:=by
 rw [if_pos rfl]
 exact h
theorem Wk {c A B:Prop}[Decidable c](h1:c→A)(h2:¬ c→B):if c then A else B:=by
 by_cases h:c
 · rw [if_pos h]
   exact h1 h
 · rw [if_neg h]
   exact h2 h
def Same (H H':Hp):Prop:=∀ b o,H b=some o→H' b=some o
theorem Same.refl (H:Hp):Same H H:=fun _ _ h=>h
theorem Same.trans {H H1 H2:Hp}(a:Same H H1)(b:Same H1 H2):Same H H2:=fun c o h=>b c o (a c o h)
end L2
namespace L2
open PySem PySem.Spec PyProof.Rows
section
variable {κ:Type}[DecidableEq κ]
end
section
variable {P:Program}{w:World}{H:Hp}{h:Heap}{a:Addr}
end
section
variable {X:Cx}{pins:List (Addr×Obj)}{σ:St}{H:Hp}{s:Shared}{a:Addr}{y v:V}{u r:Value}{o:Option V}{A:Around}{E:Value→Shared→Prop}
end
section
variable {X:Cx}{pins:List (Addr×Obj)}{σ:St}{H:Hp}{s:Shared}{a:Addr}{kvs:List (YR×V)}{k:YR}{u:Value}{A:Around}{E:Value→Shared→Prop}
end
section
variable {X:Cx}{o i e value:Expr}{pos pos' tpos:Pos}{td ty tv:TE}
end
section
variable {X:Cx}{pos:Pos}
end
structure M1 (X:Cx)(o:Expr)(m:Str)(apos:Pos)(e:Expr)(cpos:Pos):Prop where
 base:attributeBase o m X.env (eval o X.env)=eval o X.env
 few:((backTo cpos (starEach [e] X.env)).all (fun x=>!x.1)&&(backToKw cpos (keywordEach [] X.env)).all (fun x=>x.1.isSome)
   && decide (([e]:List Expr).length+([]:List Keyword).length+(if ([]:List Keyword).isEmpty then 0 else 1) < 30))=true
 line:(apos.endLine == cpos.line)=true
 trees:backTo cpos (starEach [e] X.env)=[(false,eval e X.env)]
section
variable {X:Cx}{pins:List (Addr×Obj)}{σ:St}{H:Hp}{s:Shared}{a:Addr}{y d:V}{u r:Value}{o:Option V}{A:Around}{E:Value→Shared→Prop}
end
section
variable {X:Cx}{o e f:Expr}{apos cpos:Pos}{td ty tx:TE}
end
section
variable {X:Cx}{pins:List (Addr×Obj)}{σ:St}{H:Hp}{s:Shared}{a:Addr}{kvs:List (YR×V)}{A:Around}{E:Value→Shared→Prop}
end
section
variable {X:Cx}{pins:List (Addr×Obj)}{σ:St}{H:Hp}{s:Shared}{a:Addr}{y:V}{u:Value}{A:Around}{E:Value→Shared→Prop}
end
end L2
namespace L2
open PySem PySem.Spec PyProof.Rows
section
variable {κ:Type}[DecidableEq κ]
end
end L2
namespace L2
open PySem PySem.Spec PyProof.Rows
theorem Wy {env:Env}(y:Str):∀ names:List (Str×NameKind),
   (names.map fun (n,k)=>if (k == NameKind.free&&env.scope.kind == .function&&env.kindOf n == some .cell) then (n,NameKind.cell) else (n,k)).lookup y =
     (names.lookup y).map fun k=>if (k == NameKind.free&&env.scope.kind == .function&&env.kindOf y == some .cell) then NameKind.cell else k
 | []=>rfl
 | (n, k)::r=>by
   have ih:=Wy (env:=env) y r
   rw [List.map_cons]
   cases hx:y == n with
   | true =>
     have e:y=n:=by simpa using hx
     subst e
     by_cases hc:(k == NameKind.free&&env.scope.kind == .function&&env.kindOf y == some .cell)=true
     · simp only [hc,if_true,List.lookup_cons,beq_self_eq_true,Option.map_some]
     · simp only [hc,List.lookup_cons,beq_self_eq_true,Option.map_some]
       simp [hc]
   | false =>
     by_cases hc:(k == NameKind.free&&env.scope.kind == .function&&env.kindOf n == some .cell)=true
     · simp only [hc,if_true,List.lookup_cons,hx];exact ih
     · simp only [hc,List.lookup_cons,hx,Bool.false_eq_true,if_false];exact ih
theorem ZB {scope:Scope}{env:Env}{y:Str}{k:NameKind}(hcell:∀ z∈scope.names,z.2≠.cell)(h:(relabel scope env).names.lookup y=some k) :
   scope.names.lookup y=some k∨(scope.names.lookup y=some .free∧k=.cell):=by
 unfold relabel at h
 rw [Wy] at h
 cases e:scope.names.lookup y with
 | none=>rw [e] at h;cases h
 | some k0 =>
   rw [e] at h
   simp only [Option.map_some,Option.some.injEq] at h
   by_cases hc:(k0 == NameKind.free&&env.scope.kind == .function&&env.kindOf y == some .cell)=true
   · rw [if_pos hc] at h
     right
     simp only [Bool.and_eq_true,beq_iff_eq] at hc
     exact ⟨by rw [hc.1.1],h.symm⟩
   · rw [if_neg hc] at h
     left;rw [h]
theorem mem_of_lookup {α:Type}{y:Str}{k:α}:∀{l:List (Str×α)},l.lookup y=some k→(y,k)∈l
 | [],h=>by cases h
 | (n,z)::r,h=>by
   cases hx:y == n with
   | true =>
     have e:y=n:=by simpa using hx
     subst e
     simp only [List.lookup_cons,beq_self_eq_true] at h
     cases h
     exact List.mem_cons_self
   | false =>
     simp only [List.lookup_cons,hx] at h
     exact List.mem_cons_of_mem _ (mem_of_lookup h)
theorem Wo {env:Env}:∀(names:List (Str×NameKind))(c0:List (Str×Addr)),(∀ y∈names,y.2=.free→∃ c,env.cells.lookup y.1=some c) →
   ∃ cl:List (Str×Addr),(forIn names c0 fun (x:Str×NameKind) (r:List (Str×Addr))=>(if x.2 == NameKind.free then (do let a ← cellOf env x.1;pure (ForInStep.yield ((x.1,a)::r))) else pure (ForInStep.yield r):Sem (ForInStep (List (Str×Addr)))))=pure cl ∧
     (∀ y c,cl.lookup y=some c→c0.lookup y=some c∨env.cells.lookup y=some c)∧(∀ y,c0.lookup y≠none→cl.lookup y≠none)∧∀ y∈names,y.2=.free→cl.lookup y.1≠none
 | [],c0,_=>⟨c0,rfl,fun _ _ h=>.inl h,fun _ h=>h,fun _ h=>(nomatch h)⟩
 | (n, k)::r,c0,h=>by
   by_cases hk:k=.free
   · subst hk
     obtain ⟨c,hc⟩:=h (n,.free) List.mem_cons_self rfl
     obtain ⟨cl,e,g1,g2,g3⟩:=Wo r ((n,c)::c0) fun y hy=>h y (List.mem_cons_of_mem _ hy)
     refine ⟨cl,?_,?_,?_,?_⟩
     · rw [List.forIn_cons]
       have hcell:cellOf env n=pure c:=by unfold cellOf;rw [hc]
       simp only [beq_self_eq_true,if_true,hcell,pure_bind]
       exact e
     · intro y d q
       rcases g1 y d q with q | q
       · cases hx:y == n with
         | true =>
           have e':y=n:=by simpa using hx
           subst e'
           simp only [List.lookup_cons,beq_self_eq_true] at q
           cases q
           exact .inr hc
         | false=>simp only [List.lookup_cons,hx] at q;exact .inl q
       · exact .inr q
     · intro y q
       apply g2
       cases hx:y == n with
       | true=>simp [List.lookup_cons,hx]
       | false=>simpa [List.lookup_cons,hx] using q
     · intro y hy hf
       rcases List.mem_cons.mp hy with e' | hy
       · subst e'
         apply g2
         simp [List.lookup_cons]
       · exact g3 y hy hf
   · obtain ⟨cl,e,g1,g2,g3⟩:=Wo r c0 fun y hy=>h y (List.mem_cons_of_mem _ hy)
     refine ⟨cl,?_,g1,g2,?_⟩
     · rw [List.forIn_cons]
       have hb:(k == NameKind.free)=false:=by simpa using hk
       simp only [hb,Bool.false_eq_true,if_false,pure_bind]
       exact e
     · intro y hy hf
       rcases List.mem_cons.mp hy with e' | hy
       · subst e';exact absurd hf hk
       · exact g3 y hy hf
theorem Ug {scope:Scope}{env:Env}(h:∀ y∈scope.names,y.2=.free→∃ c,env.cells.lookup y.1=some c) :
   ∃ cl,closureFor scope env=pure cl∧(∀ y c,cl.lookup y=some c→env.cells.lookup y=some c)∧∀ y∈scope.names,y.2=.free→cl.lookup y.1≠none:=by
 obtain ⟨cl,e,g1,_,g3⟩:=Wo (env:=env) scope.names [] h
 refine ⟨cl,?_,fun y c q=>(g1 y c q).elim (fun z=>by cases z) fun z=>z,g3⟩
 simp only [closureFor]
 rw [← bind_pure (pure cl:Sem _),← e]
def WD (N:List Str)(x:Str):List Str:=N.map fun y=>if y=x then "" else y
theorem Wc (N:List Str)(x:Str):(WD N x).length=N.length:=List.length_map ..
theorem UO {N:List Str}{x y:Str}{i:Nat}(h:(WD N x)[i]?=some y):(N[i]?=some y∧y≠x)∨y="":=by
 unfold WD at h
 rw [List.getElem?_map] at h
 cases e:N[i]? with
 | none=>rw [e] at h;cases h
 | some z =>
   rw [e] at h
   have h:(if z=x then ("":Str) else z)=y:=Option.some.inj h
   by_cases q:z=x
   · rw [if_pos q] at h;exact .inr h.symm
   · rw [if_neg q] at h;subst h;exact .inl ⟨rfl,q⟩
def YA (X:Cx)(scope:Scope)(x:Str)(cl:List (Str×Addr))(C:Addr)(s₀:Shared)(H₀:Hp)(fp:List Addr):Cx :=
 { prog:=X.prog,w:=X.w,K:=X.K,mg:=X.mg,base:=X.base,A:=X.A,N:=WD X.N x++[x],s₀:=s₀,H₀:=H₀,env:=compEnvC scope cl C X.env,outer:=X.stack,stack:=X.stack,
   ex:=fp,fn:=fun _=>false,calm:=X.calm,pn:=[],xe:=fun _ _=>False }
def Xu (J:It)(te:TE)(σ:St)(D:Addr)(Q:VK)(H1:Hp):Prop :=
 ∃ W:Nat→Nat→List V→Hp→Prop,(∃ m,W 0 m [] (upd H1 D (.lst [])))∧∀ i m ys H2,W i m ys H2 →
   (J.stop i H2∧Q (.ref D) H2)∨(J.go i H2∧∃ N:VK,(∀ y H4,N y H4→H4 D=some (.lst ys)∧ys.length < sizeLine∧∃ m',m' < m∧W (i+1) m' (ys++[y]) (upd H4 D (.lst (ys++[y]))))∧∀ v H3,J.yld i H2 v H3→te (σ++[some v]) H3 N)
def Zfr (wi:TI)(te:TE):TE:=fun σ H Q=>wi σ H fun J H1=>∀ D,H1 D=none→Xu J te σ D Q H1
section
variable {X:Cx}{elt iter:Expr}{x:Str}{px pos:Pos}{scope:Scope}{wi:TI}{te:TE}
theorem Xd {prog:Program}{w:World}{A:Around}{R:Result→Shared→Prop}{s:Shared}{elt target iter:Expr}{scope:Scope}{pos:Pos}{it acc:Value}{env:Env}(I:Nat→Shared→Prop)
   (turn : ∀ n s,I n s→wpAny (model prog w) A (pyNext it) (fun r s₁=>match r with
     | none=>R (.ok .next) s₁
     | some v=>wpAny (model prog w) A (letOwnedTupleGo target it v) (fun _ s1'=>wpAny (model prog w) A (assign target env v) (fun _ s₂=>wpAny (model prog w) A (eval elt env) (fun x s₃ =>
         wpAny (model prog w) A (call (.builtin "list.append") [acc,x]) (fun _ s₄=>∃ m,m < n∧I m s₄) (fun _ _=>False) s₃)
         (fun _ _=>False) s₂) (fun _ _=>False) s1') (fun _ _=>False) s₁) (fun _ _=>False) s)
   (n:Nat) (h:I n s) :
   codeAny (model prog w) A (.compLoop (.ListComp elt [⟨target,iter,[],0⟩] scope pos) 0 it acc env) R s:=by
 refine codeAny_loop rfl I (fun n s hI=>?_) n h
 show wpAny _ _ ((compTurn (.ListComp elt [⟨target,iter,[],0⟩] scope pos) 0 it acc env).onRaise (fun x=>do noteFrame x env;theTreesLotGoes x)) _ _ s
 refine wpAny_noted ?_
 rw [compTurn_list1]
 refine wpAny_bind (wpAny_standAt (wpAny_bind (wpAny_mono (turn n s hI) (fun r s₁ h₁=>?_) fun _ _ h'=>h'.elim)))
 cases r with
 | none=>exact wpAny_pure h₁
 | some v =>
   refine wpAny_bind (wpAny_mono h₁ (fun _ s1' h1'=>?_) fun _ _ h'=>h'.elim)
   exact wpAny_bind (wpAny_mono h1' (fun _ s₂ h₂=>wpAny_bind (wpAny_bind (wpAny_mono h₂ (fun x s₃ h₃=>wpAny_bind (wpAny_mono h₃
     (fun _ s₄ h₄=>wpAny_pure (wpAny_pure ⟨rfl,h₄⟩)) fun _ _ h'=>h'.elim)) fun _ _ h'=>h'.elim))) fun _ _ h'=>h'.elim)
structure CompOk (X:Cx)(scope:Scope)(x:Str):Prop where
 nd:(WD X.N x++[x]).Nodup
 clos:∀ y∈scope.names,y.2=.free→X.env.kindOf y.1=some .cell∨X.env.kindOf y.1=some .free
 cell:∀ y∈scope.names,y.2≠.cell
 kind:scope.kind=.function
 names:∀ y∈scope.names,y.2=.local→scope.names.lookup y.1=some .local
 loc:scope.names.lookup x=some .local
 own:∀ y∈X.N,y≠x→scope.names.lookup y≠some .local
 noh:scope.names.lookup ("":Str)=none
theorem ZaW {pins:List (Addr×Obj)}{σ:St}{H2:Hp}{s₂:Shared}{J:It}{fp:List Addr}{it:Addr}{tn:Nat→Heap→Prop}{cl:List (Str×Addr)}{E:Value→Shared→Prop}{Q:VK}{RR:Value→Addr→Result→Shared→Prop}
   (O:CompOk X scope x) (hc:X.calm=true) (cl1:∀ y c,cl.lookup y=some c→X.env.cells.lookup y=some c) (cl2:∀ y∈scope.names,y.2=.free→cl.lookup y.1≠none)
   (he:∀ cl C s₀ H₀ fp,PE (YA X scope x cl C s₀ H₀ fp) elt te)
   (I2:Inv X pins σ H2 s₂) (T:XT X.prog X.w X.K (.Name x px) J fp it tn) (st:tn 0 s₂.heap) (f2:∀ b∈fp,Yp X pins H2 b)
   (h:∀ D,H2 D=none→Xu J te σ D Q H2)
   (hRR:∀ D C H' s',Inv X pins σ H' s'→Yp X pins H' C→(∃ m,s'.heap.Ns C m)→Q (.ref D) H'→RR (.ref D) C (.ok .next) s') :
   wpAny (model X.prog X.w) X.A (newList []) (fun acc s₃=>wpAny (model X.prog X.w) X.A (newFunctionEnv scope X.env.globals cl [] X.env.qual none .none (some X.env)) (fun cenv s₄ =>
     codeAny (model X.prog X.w) X.A (.compStart (.ListComp elt [⟨.Name x px,iter,[],0⟩] scope pos) 0 (.ref it) acc { cenv with scope:=relabel scope X.env }) (RR acc cenv.locals) s₄) E s₃) E s₂:=by
 have hD:H2 s₂.heap.objs.size=none:=I2.hok.fresh (Nat.le_refl _)
 refine wpAny_newObj_type ?_
 have I3:Inv X pins σ (upd H2 s₂.heap.objs.size (.lst [])) { s₂ with heap:=s₂.heap.push { cls:=.type "list",data:=.seq ([]:List Value).toArray } } :=
   I2.laid (t':=s₂.toks) (fun b u e=>Heap.get?_push_of_some _ e) (Nat.le_refl _) ⟨Nat.zero_le _,[],_,.nil,Heap.get?_push_size _ rfl⟩
 have f3:∀ b∈fp,Yp X pins (upd H2 s₂.heap.objs.size (.lst [])) b:=fun b hb=>by
   obtain ⟨g0,g1⟩:=f2 b hb
   obtain ⟨o,e,_⟩:=T.obj 0 _ st b hb
   exact ⟨by rw [ZA (Nat.ne_of_lt (Heap.lt_size e))];exact g0,g1⟩
 have st3:tn 0 (s₂.heap.push { cls:=.type "list",data:=.seq ([]:List Value).toArray }):=T.keep _ _ _ st fun b hb o e=>Heap.get?_push_of_some _ e
 obtain ⟨W,⟨m0,w0⟩,turn⟩:=h _ hD
 generalize hDe:s₂.heap.objs.size=D at I3 f3 w0 turn ⊢
 generalize hH3:upd H2 D (.lst [])=H3 at I3 f3 w0 turn ⊢
 generalize hs3:({ s₂ with heap:=s₂.heap.push { cls:=.type "list",data:=.seq ([]:List Value).toArray } }:Shared)=s₃ at I3
 have st3':tn 0 s₃.heap:=by rw [← hs3];exact st3
 have hobj:∀ b∈fp,b < s₃.heap.objs.size:=fun b hb=>by
   obtain ⟨o,e,_⟩:=T.obj 0 _ st3' b hb
   exact Heap.lt_size e
 refine wpAny_newFunctionEnv O.cell (by intro y hy;simp at hy) (fun h₁ hns₁ hsb₁=>?_) O.kind
 have old:∀ b o,s₃.heap.get? b=some o→h₁.get? b=some o:=fun b o e=>hsb₁.extBut b o (Nat.ne_of_lt (Heap.lt_size e)) (Heap.get?_push_of_some _ e)
 generalize hs4:({ s₃ with heap:=h₁,toks:=s₃.toks+([]:List (Str×Value)).length }:Shared)=s₄
 have h4:s₄.heap=h₁:=by rw [← hs4]
 have hX:∀ C,Yp X pins C s₃.heap.objs.size→True:=fun _ _=>trivial
 have ok':(YA X scope x cl s₃.heap.objs.size s₃ H3 fp).Ok:=by
   refine ⟨I3.ok.mod,O.kind,I3.ok.glob,I3.ok.blt,Nat.le_refl _,?_,?_,?_,I3.ok.hd,I3.ok.frames,.inl rfl,?_,I3.bs,Nat.le_trans I3.ok.bsz I3.sz,?_,?_,I3.stack,I3.stkFree⟩
   · exact fun y z c e1 e2=>I3.ok.inj y z c (cl1 y c e1) (cl1 z c e2)
   · intro y hk
     have hf:scope.names.lookup y=some .free:=by
       rcases hk with hk | hk
       · rcases ZB O.cell hk with q | q
         · exact absurd rfl (O.cell _ (mem_of_lookup q))
         · exact q.1
       · rcases ZB O.cell hk with q | q
         · exact q
         · cases q.2
     have:=cl2 _ (mem_of_lookup hf) rfl
     cases e:cl.lookup y with
     | none=>exact absurd e this
     | some c=>exact ⟨c,e⟩
   · intro y c hf;cases hf
   · intro b hb
     obtain ⟨g0,g1,g2,g3,g4,g5⟩:=f3 b hb
     exact ⟨Nat.ne_of_lt (hobj b hb),fun y c e=>g4 y c (cl1 y c e)⟩
   · intro b o e hb
     obtain ⟨g0,g1,g2,g3,g4,g5⟩:=f3 b hb
     rcases g3 with g3 | g3
     · exact I3.ok.noex b o e g3
     · exact absurd (Heap.lt_size e) (Nat.not_lt.mpr (Nat.le_trans I3.ok.bsz g3))
   · intro b hb hs
     obtain ⟨g0,g1,g2,g3,g4,g5⟩:=f3 b hb
     rcases List.mem_cons.mp (I3.stkSub b hs) with e | e
     · exact g1 e
     · exact g2 e
 have I4 : Inv (YA X scope x cl s₃.heap.objs.size s₃ H3 fp) [] (σ++[none]) H3 s₄:=by
   obtain ⟨m,hm,hl⟩:=I3.loc
   refine ⟨ok',by rw [← hs4];rfl,by rw [← hs4];exact I3.bare,by rw [h4];exact Un.kept old,⟨_,by rw [h4];exact hns₁,?_⟩,?_,I3.hok.fresh (Nat.le_refl _),fun y c e=>I3.freeC y c (cl1 y c e),?_,by rw [h4];exact I3.hok.kept old,?_⟩
   · intro i y v e1 e2 e3
     have hlt:i < σ.length:=by
       rcases Nat.lt_or_ge i σ.length with z | z
       · exact z
       · rw [List.getElem?_append_right z] at e2
         cases e:i - σ.length with
         | zero=>rw [e] at e2;simp at e2
         | succ k=>rw [e] at e2;simp at e2
     rw [List.getElem?_append_left hlt] at e2
     have hsm:∃ k,scope.names.lookup y=some k:=by
       rcases e3 with hk | hk | hk
       · rcases ZB O.cell hk with q | q
         · exact ⟨_,q⟩
         · exact ⟨_,q.1⟩
       · rcases ZB O.cell hk with q | q
         · exact ⟨_,q⟩
         · exact ⟨_,q.1⟩
       · rcases ZB O.cell hk with q | q
         · exact ⟨_,q⟩
         · exact ⟨_,q.1⟩
     obtain ⟨e1',hyx⟩:X.N[i]?=some y∧y≠x:=by
       have e1:(WD X.N x++[x])[i]?=some y:=e1
       rw [List.getElem?_append_left (by rw [Wc,← I3.len];exact hlt)] at e1
       rcases UO e1 with z | z
       · exact z
       · obtain ⟨k,hk⟩:=hsm
         rw [z,O.noh] at hk;cases hk
     have hy:y∈X.N:=List.mem_of_getElem? e1'
     have hf:scope.names.lookup y=some .free:=by
       rcases e3 with hk | hk | hk
       · rcases ZB O.cell hk with q | q
         · exact absurd q (O.own y hy hyx)
         · exact q.1
       · rcases ZB O.cell hk with q | q
         · exact absurd rfl (O.cell _ (mem_of_lookup q))
         · exact q.1
       · rcases ZB O.cell hk with q | q
         · exact q
         · exact q.1
     have hk:=O.clos _ (mem_of_lookup hf) rfl
     have hv:Vis X.env.scope y:=by rcases hk with z | z;exact .inr (.inl z);exact .inr (.inr z)
     obtain ⟨u,ru,lu⟩:=hl i y v e1' e2 hv
     refine ⟨u,ru,?_⟩
     have hkc:(compEnvC scope cl s₃.heap.objs.size X.env).kindOf y=some .cell∨(compEnvC scope cl s₃.heap.objs.size X.env).kindOf y=some .free:=by
       rcases e3 with q | q | q
       · rcases ZB O.cell q with z | z
         · exact absurd z (O.own y hy hyx)
         · cases z.2
       · exact .inl q
       · exact .inr q
     rcases lu with ⟨q,_⟩ | ⟨_,c,hcl,hcc⟩
     · rcases hk with z | z<;>(rw [q] at z;cases z)
     · refine .inr ⟨hkc,?_⟩
       cases e:cl.lookup y with
       | none=>exact absurd e (cl2 _ (mem_of_lookup hf) rfl)
       | some c' =>
         have:=cl1 y c' e
         rw [hcl] at this
         cases this
         refine ⟨c,e,?_⟩
         rw [h4]
         obtain ⟨oc,ho,hd⟩:=hcc
         exact ⟨oc,old _ _ ho,hd⟩
   · intro y c e
     obtain ⟨v,oc,ho,hd⟩:=I3.cell y c (cl1 y c e)
     exact ⟨v,oc,by rw [h4];exact old _ _ ho,hd⟩
   · intro p hp;cases hp
   · show (σ++[none]).length=(WD X.N x++[x]).length
     rw [List.length_append,List.length_append,Wc,I3.len];rfl
 have st4:tn 0 s₄.heap:=by rw [h4];exact T.keep _ _ _ st3' fun b hb o e=>old b o e
 have fpok:∀ {H':Hp},(∀ b∈fp,H' b=none)→∀ b∈fp,Yp (YA X scope x cl s₃.heap.objs.size s₃ H3 fp) [] H' b:=fun hn b hb=>by
   obtain ⟨g0,g1,g2,g3,g4,g5⟩:=f3 b hb
   refine ⟨hn b hb,Nat.ne_of_lt (hobj b hb),ok'.exfs b hb,.inl hb,fun y c e=>g4 y c (cl1 y c e),?_⟩
   intro p hp;cases hp
 have loop:codeAny (model X.prog X.w) X.A (.compLoop (.ListComp elt [⟨.Name x px,iter,[],0⟩] scope pos) 0 (.ref it) (.ref D) (compEnvC scope cl s₃.heap.objs.size X.env)) (RR (.ref D) s₃.heap.objs.size) s₄:=by
   refine Xd (fun n s'=>∃ i ys w' H',Inv (YA X scope x cl s₃.heap.objs.size s₃ H3 fp) [] (σ++[w']) H' s'∧tn i s'.heap∧(∀ b∈fp,H' b=none)∧W i n ys H') ?_ m0 ⟨0,[],none,H3,I4,st4,fun b hb=>(f3 b hb).1,w0⟩
   rintro n s5 ⟨i,ys,w',H5,I5,st5,fr5,w5⟩
   rcases turn i n ys H5 w5 with ⟨stop,q⟩ | ⟨go,N,hN,step⟩
   · refine Zn (T.done (YA X scope x cl s₃.heap.objs.size s₃ H3 fp) rfl rfl rfl hc i [] s5 _ H5 _ I5 (fpok fr5) st5 stop) fun r s6 ⟨hr,I6⟩=>?_
     subst hr
     obtain ⟨m6,hn6,_⟩:=I6.loc
     have IX:Inv X pins σ H5 s6:=I3.call' (ch:=fp) I6.os I6.base I6.hok I6.bare fun b hb=>by
       obtain ⟨g0,g1,g2,g3,g4,g5⟩:=f3 b hb
       exact ⟨g3,g1,g4,g5⟩
     exact hRR D _ H5 s6 IX (I3.fpOk (Nat.le_refl _) I6.free) ⟨m6,hn6⟩ q
   · refine Zn (T.item (YA X scope x cl s₃.heap.objs.size s₃ H3 fp) rfl rfl rfl hc i [] s5 _ H5 _ I5 (fpok fr5) st5 go) fun r s6 ⟨u,hr,h6⟩=>?_
     subst hr
     refine Zn h6 fun _ s7 ⟨v,H7,I7,r7,y7,st7,fr7⟩=>?_
     have I7':=I7.pinned (fpok fr7) (T.obj _ _ st7)
     have hixN:(YA X scope x cl s₃.heap.objs.size s₃ H3 fp).N[σ.length]?=some x:=by
       show (WD X.N x++[x])[σ.length]?=some x
       rw [I3.len,← Wc X.N x];simp
     refine Zn (Yn (X:=YA X scope x cl s₃.heap.objs.size s₃ H3 fp) (pos:=px) O.nd hixN (.inl (lookup_relabel_local O.loc)) (.inr (lookup_relabel_local O.loc)) _ s7 _ H7 v u (fun σ' H'=>σ'=σ++[some v]∧H'=H7) I7' r7 ⟨by simp,rfl⟩) fun _ s8 ⟨σ8,H8,I8,e8,e8'⟩=>?_
     subst e8 e8'
     refine Zn (he cl s₃.heap.objs.size s₃ H3 fp _ s8 _ H8 _ I8 (step v H8 y7)) fun uy s9 ⟨y,H9,I9,r9,n9⟩=>?_
     obtain ⟨hl9,hz9,m',hm',w9⟩:=hN y H9 n9
     refine Zn (XQ (X:=YA X scope x cl s₃.heap.objs.size s₃ H3 fp) _ s9 _ H9 (.ref D) [y] (.ref D) [uy] (fun v H'=>H'=upd H9 D (.lst (ys++[y]))) I9 rfl (.cons r9 .nil) ⟨D,ys,y,rfl,rfl,hl9,hz9,rfl⟩) fun _ s10 ⟨_,H10,I10,_,e10⟩=>?_
     subst e10
     refine ⟨m',hm',i+1,ys++[y],some v,_,I10.unpinned (pins:=[]),T.keep _ _ _ st7 fun b hb o e=>(I10.pin (b,o) (List.mem_append_right _ (List.mem_append_right _ (YM hb e)))).1,fun b hb=>?_,w9⟩
     obtain ⟨o,e,d⟩:=T.obj _ _ st7 b hb
     exact (I10.pin (b,o) (List.mem_append_right _ (List.mem_append_right _ (YM hb e)))).2.1
 exact codeAny_compStart_list loop (T.self _ 0 _ _ _ st4 loop)
theorem YF (O:CompOk X scope x)(hc:X.calm=true)(hi:PI X (.Name x px) iter wi)(he:∀ cl C s₀ H₀ fp,PE (YA X scope x cl C s₀ H₀ fp) elt te)
   (hs:∀ v,foldedSetIterable iter X.env v=pure v:=by intro _;rfl):PE X (.ListComp elt [⟨.Name x px,iter,[],0⟩] scope pos) (Zfr wi te):=by
 intro pins s σ H Q I h
 obtain ⟨cl,hcl,cl1,cl2⟩:=Ug (scope:=scope) (env:=X.env) fun y hy hf=>I.ok.has _ (O.clos y hy hf)
 rw [eval_ListComp]
 refine wpAny_comprehension_free (use:=none) rfl hs hcl O.kind O.names (Zn (hi pins s σ H _ I h) fun v s1 h1=>Zn h1 fun itv s2 h2=>?_)
 obtain ⟨it,fp,tn,J,H2,e,I2,T,st2,f2,q⟩:=h2
 subst e
 refine ZaW (RR:=fun acc C=>compPost (model X.prog X.w) X.A X.xe none (EP X pins σ Q) acc C) O hc cl1 cl2 he I2 T st2 f2 q ?_
 intro D C H' s' I' ⟨g0,g1,g2,g3,g4,g5⟩ ⟨m,hm⟩ hq
 exact ⟨m,hm,fun h' hs'=>⟨.ref D,H',I'.turned (t':=s'.toks) (fun b o hb e=>(hs'.2 b hb).trans e) g0 g1 g3 g4 g5,rfl,hq⟩⟩
end
theorem Zbk {lo:Int}{n:Nat}{te:TE}{σ:St}{D:Addr}{Q:VK}{H:Hp}(hn:n≤sizeLine)(Pv:Nat→List V→Hp→Prop)(h0:Pv 0 [] (upd H D (.lst [])))
   (hl:∀ i ys H,Pv i ys H→ys.length=i)
   (hs:∀ i ys H,i < n→Pv i ys H→te (σ++[some (.int (lo+i))]) H fun y H4=>H4 D=some (.lst ys)∧Pv (i+1) (ys++[y]) (upd H4 D (.lst (ys++[y])))) (hd:∀ ys H,Pv n ys H→Q (.ref D) H):Xu (Ud lo n) te σ D Q H:=by
 refine ⟨fun i m ys H=>m=n - i∧i≤n∧Pv i ys H,⟨n,by simp,Nat.zero_le _,h0⟩,?_⟩
 rintro i m ys H2 ⟨rfl,hi,p⟩
 by_cases hlt:i < n
 · have hlen:=hl i ys _ p
   refine .inr ⟨hlt,_,fun y H4 (q:H4 D=some (.lst ys)∧Pv (i+1) (ys++[y]) (upd H4 D (.lst (ys++[y]))))=>⟨q.1,by omega,n - (i+1),by omega,rfl,hlt,q.2⟩,fun v H3 y=>?_⟩
   obtain ⟨e,e'⟩:=y
   subst e e'
   exact hs i ys _ hlt p
 · have e:i=n:=by omega
   subst e
   exact .inl ⟨Nat.le_refl _,hd ys H2 p⟩
theorem Zce {K:PySem.W.Frag}{a:Addr}{xs:List V}{te:TE}{σ:St}{D:Addr}{Q:VK}{H:Hp}(hn:xs.length≤sizeLine)(Pv:Nat→List V→Hp→Prop)(h0:Pv 0 [] (upd H D (.lst [])))
   (hl:∀ i ys H,Pv i ys H→ys.length=i∧SqL K H a xs)
   (hs:∀ i x ys H,xs[i]?=some x→Pv i ys H→te (σ++[some x]) H fun y H4=>H4 D=some (.lst ys)∧Pv (i+1) (ys++[y]) (upd H4 D (.lst (ys++[y])))) (hd:∀ ys H,Pv xs.length ys H→Q (.ref D) H):Xu (Itl K a) te σ D Q H:=by
 refine ⟨fun i m ys H=>m=xs.length - i∧i≤xs.length∧Pv i ys H,⟨xs.length,by simp,Nat.zero_le _,h0⟩,?_⟩
 rintro i m ys H2 ⟨rfl,hi,p⟩
 obtain ⟨hlen,q⟩:=hl i ys _ p
 by_cases hlt:i < xs.length
 · refine .inr ⟨⟨xs,xs[i],q,by simp [hlt]⟩,_,fun y H4 (q:H4 D=some (.lst ys)∧Pv (i+1) (ys++[y]) (upd H4 D (.lst (ys++[y]))))=>⟨q.1,by omega,xs.length - (i+1),by omega,rfl,hlt,q.2⟩,fun v H3 y=>?_⟩
   obtain ⟨e,y⟩:=y
   subst e
   exact hs i v ys _ (y xs q) p
 · have e:i=xs.length:=by omega
   subst e
   exact .inl ⟨⟨xs,q,Nat.le_refl _⟩,hd ys H2 p⟩
theorem WX {K:PySem.W.Frag}{a:Addr}{xs:List V}{te:TE}{σ:St}{D:Addr}{Q:VK}{H:Hp}(hn:xs.length≤sizeLine)(Pv:Nat→List V→Hp→Prop)(h0:Pv 0 [] (upd H D (.lst [])))
   (hl:∀ i ys H,Pv i ys H→ys.length=i∧SqT K H a xs)
   (hs:∀ i x ys H,xs[i]?=some x→Pv i ys H→te (σ++[some x]) H fun y H4=>H4 D=some (.lst ys)∧Pv (i+1) (ys++[y]) (upd H4 D (.lst (ys++[y])))) (hd:∀ ys H,Pv xs.length ys H→Q (.ref D) H):Xu (Itt K a) te σ D Q H:=by
 refine ⟨fun i m ys H=>m=xs.length - i∧i≤xs.length∧Pv i ys H,⟨xs.length,by simp,Nat.zero_le _,h0⟩,?_⟩
 rintro i m ys H2 ⟨rfl,hi,p⟩
 obtain ⟨hlen,q⟩:=hl i ys _ p
 by_cases hlt:i < xs.length
 · refine .inr ⟨⟨xs,xs[i],q,by simp [hlt]⟩,_,fun y H4 (q:H4 D=some (.lst ys)∧Pv (i+1) (ys++[y]) (upd H4 D (.lst (ys++[y]))))=>⟨q.1,by omega,xs.length - (i+1),by omega,rfl,hlt,q.2⟩,fun v H3 y=>?_⟩
   obtain ⟨e,y⟩:=y
   subst e
   exact hs i v ys _ (y xs q) p
 · have e:i=xs.length:=by omega
   subst e
   exact .inl ⟨⟨xs,q,Nat.le_refl _⟩,hd ys H2 p⟩
end L2
namespace L2
open PySem PySem.Spec PyProof.Rows
def Its (x:Str):It:=⟨fun i _=>i < x.cps.size,fun i H v H'=>H'=H∧∃ c,x.cps[i]?=some c∧v=.str ⟨#[c]⟩,fun i _=>x.cps.size≤i⟩
theorem Zbc {P:Program}{w:World}{K:PySem.W.Frag}{tg:Expr}(x:Str)(t:Tok)(it:Addr):XT P w K tg (Its x) [it] it (fun i h=>h.IsStrIter it "str_ascii_iterator" x t i) where
 mem:=by simp
 obj:=fun i h st b hb=>by
   have e:b=it:=by simpa using hb
   subst e
   obtain ⟨o,e,c,d⟩:=st
   exact ⟨o,e,fun v z=>by rw [d] at z;cases z⟩
 keep:=fun i h h' st k=>let ⟨o,ho,r⟩:=st;⟨o,k it (by simp) o ho,r⟩
 item:=by
   intro X hP hw hK hc i pins s σ H E I hf st hg
   subst hP hw hK
   obtain ⟨f0,f1,f2,f3,f4,f5⟩:=hf it (by simp)
   have hlt:i < x.cps.size:=hg
   refine wpAny_pyNext_ascii_item st (c:=x.cps[i]) (by simp [hlt]) fun h' st' sb=>?_
   have I1:Inv X pins σ H { s with heap:=h',toks:=s.toks+1 }:=I.turned (t':=s.toks+1) (fun b o hb e=>(sb.2 b hb).trans e) f0 f1 f3 f4 f5
   obtain ⟨o,e,c,d⟩:=id st'
   exact ⟨_,rfl,Us (s:={ s with heap:=h',toks:=s.toks+1 }) e c d (by decide) ⟨.str ⟨#[x.cps[i]]⟩,H,I1,⟨_,rfl⟩,⟨rfl,x.cps[i],by simp [hlt],rfl⟩,st',fun b hb=>(hf b hb).1⟩⟩
 done:=by
   intro X hP hw hK hc i pins s σ H E I hf st hg
   subst hP hw hK
   obtain ⟨f0,f1,f2,f3,f4,f5⟩:=hf it (by simp)
   have hle:x.cps.size≤i:=hg
   exact wpAny_pyNext_ascii_end (I.ok.hd hc) st (by simp [hle]) fun h' eb=>⟨rfl,I.turned (t':=s.toks) (fun b o hb e=>eb b o hb e) f0 f1 f3 f4 f5⟩
 self:=fun _ _ _ _ _ st h=>wpAny_pyIter_striter_ascii st h
theorem ZbR {P:Program}{w:World}{K:PySem.W.Frag}{tg:Expr}(x:Str)(t:Tok)(it:Addr):XT P w K tg (Its x) [it] it (fun i h=>h.IsStrIter it "str_iterator" x t i) where
 mem:=by simp
 obj:=fun i h st b hb=>by
   have e:b=it:=by simpa using hb
   subst e
   obtain ⟨o,e,c,d⟩:=st
   exact ⟨o,e,fun v z=>by rw [d] at z;cases z⟩
 keep:=fun i h h' st k=>let ⟨o,ho,r⟩:=st;⟨o,k it (by simp) o ho,r⟩
 item:=by
   intro X hP hw hK hc i pins s σ H E I hf st hg
   subst hP hw hK
   obtain ⟨f0,f1,f2,f3,f4,f5⟩:=hf it (by simp)
   have hlt:i < x.cps.size:=hg
   refine wpAny_pyNext_wide_item st (c:=x.cps[i]) (by simp [hlt]) fun h' st' sb=>?_
   have I1:Inv X pins σ H { s with heap:=h',toks:=s.toks+1 }:=I.turned (t':=s.toks+1) (fun b o hb e=>(sb.2 b hb).trans e) f0 f1 f3 f4 f5
   obtain ⟨o,e,c,d⟩:=id st'
   exact ⟨_,rfl,Us (s:={ s with heap:=h',toks:=s.toks+1 }) e c d (by decide) ⟨.str ⟨#[x.cps[i]]⟩,H,I1,⟨_,rfl⟩,⟨rfl,x.cps[i],by simp [hlt],rfl⟩,st',fun b hb=>(hf b hb).1⟩⟩
 done:=by
   intro X hP hw hK hc i pins s σ H E I hf st hg
   subst hP hw hK
   obtain ⟨f0,f1,f2,f3,f4,f5⟩:=hf it (by simp)
   have hle:x.cps.size≤i:=hg
   exact wpAny_pyNext_wide_end (I.ok.hd hc) st (by simp [hle]) fun h' eb=>⟨rfl,I.turned (t':=s.toks) (fun b o hb e=>eb b o hb e) f0 f1 f3 f4 f5⟩
 self:=fun _ _ _ _ _ st h=>wpAny_pyIter_striter_wide st h
def iStr (tl:TE):TI:=fun σ H R=>tl σ H fun v H1=>∃ x,v=.str x∧R (Its x) H1
section
variable {X:Cx}{tg:Expr}
theorem Uh {l:Expr}{tl:TE}(hl:PE X l tl):PI X tg l (iStr tl):=by
 intro pins s σ H R I h
 refine Zn (hl pins s σ H _ I h) fun v s1 ⟨z,H1,I1,r1,q1⟩=>?_
 obtain ⟨x,e,q⟩:=q1
 subst e
 obtain ⟨t,rfl⟩:=r1
 have fin:∀ b,b∈[s1.heap.objs.size]→Yp X pins H1 b:=fun b hb=>by
   have e:b=s1.heap.objs.size:=by simpa using hb
   subst e
   exact I1.fpOk (Nat.le_refl _) (I1.hok.fresh (Nat.le_refl _))
 cases ha:x.cps.all (· < 128)
 · exact wpAny_pyIter_wide ha ⟨s1.heap.objs.size,[s1.heap.objs.size],_,_,H1,rfl,I1.kept (t':=s1.toks) fun b o e=>Heap.get?_push_of_some _ e,ZbR x t _,⟨_,Heap.get?_push_size _ rfl,rfl,rfl⟩,fin,q⟩
 · exact wpAny_pyIter_ascii ha ⟨s1.heap.objs.size,[s1.heap.objs.size],_,_,H1,rfl,I1.kept (t':=s1.toks) fun b o e=>Heap.get?_push_of_some _ e,Zbc x t _,⟨_,Heap.get?_push_size _ rfl,rfl,rfl⟩,fin,q⟩
end
theorem Zcs {x:Str}{te:TE}{σ:St}{D:Addr}{Q:VK}{H:Hp}(hn:x.length≤sizeLine)(Pv:Nat→List V→Hp→Prop)(h0:Pv 0 [] (upd H D (.lst [])))
   (hl:∀ i ys H,Pv i ys H→ys.length=i)
   (hs:∀ i c ys H,x.cps[i]?=some c→Pv i ys H→te (σ++[some (.str ⟨#[c]⟩)]) H fun y H4=>H4 D=some (.lst ys)∧Pv (i+1) (ys++[y]) (upd H4 D (.lst (ys++[y])))) (hd:∀ ys H,Pv x.cps.size ys H→Q (.ref D) H):Xu (Its x) te σ D Q H:=by
 have hn':x.cps.size≤sizeLine:=hn
 refine ⟨fun i m ys H=>m=x.cps.size - i∧i≤x.cps.size∧Pv i ys H,⟨x.cps.size,by simp,Nat.zero_le _,h0⟩,?_⟩
 rintro i m ys H2 ⟨rfl,hi,p⟩
 have hlen:=hl i ys _ p
 by_cases hlt:i < x.cps.size
 · refine .inr ⟨hlt,_,fun y H4 (q:H4 D=some (.lst ys)∧Pv (i+1) (ys++[y]) (upd H4 D (.lst (ys++[y]))))=>⟨q.1,by omega,x.cps.size - (i+1),by omega,rfl,hlt,q.2⟩,fun v H3 y=>?_⟩
   obtain ⟨e,c,hc,e'⟩:=y
   subst e e'
   exact hs i c ys _ hc p
 · have e:i=x.cps.size:=by omega
   subst e
   exact .inl ⟨Nat.le_refl _,hd ys H2 p⟩
section
variable {X:Cx}
theorem YY:Yh X (compareOp .LtE) (fun x y H Q=>∃ i j,x=.str i∧y=.str j∧Q (.bl (!(decide (j.cps.toList < i.cps.toList)))) H):=by
 intro pins s σ H x y v u Q I rx ry h
 obtain ⟨i,j,rfl,rfl,q⟩:=h
 obtain ⟨t,rfl⟩:=rx
 obtain ⟨t',rfl⟩:=ry
 exact PySem.P.le_str (Zw I q rfl)
theorem Yx (hc:X.calm=true):YG X (.builtin "all") (fun xs H Q=>∃ (a:Addr) (bs:List Bool),xs=[.ref a]∧SqL X.K H a (bs.map V.bl)∧Q (.bl (bs.all id)) H):=by
 intro pins s σ H xs us Q I r h
 obtain ⟨a,bs,rfl,hq,q⟩:=h
 obtain ⟨u,rfl,ru⟩:=Xj r
 cases ru
 obtain ⟨its,rv,p,hz⟩:=I.list hq
 have hlen:=rv.length
 rw [List.length_map] at hlen
 have hal:a < s.heap.objs.size:=by obtain ⟨_,e,_⟩:=p.isList;exact Heap.lt_size e
 refine call_all_walk (wpAny_pyIter_list p.isList ⟨s.heap.objs.size,_,_,_,_,_,fun i=>bs.getD i false,rfl,Walks.list (A:=X.A.in1) (I.ok.hd hc) s.heap.objs.size a (Nat.ne_of_lt hal) its.toArray,⟨⟨_,Heap.get?_push_size _ rfl,rfl,rfl⟩,p.isList.push _⟩,?_,?_⟩)
 · intro i v s' Q' E' hv hQ'
   have hv':its[i]?=some v:=by simpa using hv
   have hi:i < bs.length:=by
     have:=(List.getElem?_eq_some_iff.mp hv').1
     omega
   obtain ⟨u,hu,ru⟩:=rv.get (i:=i) (x:=V.bl bs[i]) (by simp [hi])
   rw [hv'] at hu
   cases hu
   have e:v=Value.bool bs[i]:=ru
   subst e
   have hQ2:Q' (bs.getD i false) s':=hQ'
   rw [List.getD_eq_getElem?_getD,List.getElem?_eq_getElem hi] at hQ2
   exact wpAny_truthy_bool hQ2
 · intro h' tk hk
   have e:(List.range its.toArray.size).all (fun i=>bs.getD i false)=bs.all id:=by
     rw [List.size_toArray,← hlen]
     apply Bool.eq_iff_iff.mpr
     rw [List.all_eq_true,List.all_eq_true]
     constructor
     · intro z b hb
       obtain ⟨i,hi,rfl⟩:=List.mem_iff_getElem.mp hb
       have:=z i (List.mem_range.mpr hi)
       rwa [List.getD_eq_getElem?_getD,List.getElem?_eq_getElem hi] at this
     · intro z i hi
       have hi':=List.mem_range.mp hi
       rw [List.getD_eq_getElem?_getD,List.getElem?_eq_getElem hi']
       exact z _ (List.getElem_mem hi')
   rw [e]
   refine ⟨.bl (bs.all id),H,I.kept (t':=tk) fun b o eb=>hk b o ?_ (Heap.get?_push_of_some _ eb),rfl,q⟩
   intro hm
   have:b=s.heap.objs.size:=by simpa using hm
   rw [this] at eb
   exact absurd (Heap.lt_size eb) (Nat.lt_irrefl _)
theorem ZaC:∀{ys:List Str}{us:List Value},Vals (ys.map V.str) us→StrsAre us ys
 | [],_,.nil=>.nil
 | y::ys,_,.cons r t=>by obtain ⟨k,rfl⟩:=r;exact .cons _ _ (ZaC t)
theorem Zac:MtR X "str.join" (fun x xs H Q=>∃ sep a ys,x=.str sep∧xs=[.ref a]∧SqL X.K H a (ys.map V.str)∧(ys.map (·.length)).sum+ys.length * sep.length≤16777216∧Q (.str (Txt.join sep ys)) H):=by
 intro pins s σ H x xs v us Q I rx rv h
 obtain ⟨sep,a,ys,rfl,rfl,hq,hz,q⟩:=h
 obtain ⟨t,rfl⟩:=rx
 obtain ⟨u,rfl,ru⟩:=Xj rv
 cases ru
 obtain ⟨its,r,p,_⟩:=I.list hq
 exact join_list p.isList (by simpa using ZaC r) hz fun t' k=>⟨.str _,H,I.tok k,⟨_,rfl⟩,q⟩
theorem Zci:SlR X (fun x lo hi H Q=>∃ z,x=.str z∧z.length≤sizeLine∧Q (.str (Txt.slice z lo hi)) H):=by
 intro pins s σ H x v vl vu lo hi sl Q I rx hs pl pu h
 obtain ⟨z,rfl,hz,q⟩:=h
 obtain ⟨t,rfl⟩:=rx
 refine ⟨"str",_,F.slot_str_getitem.lookup,typeIs_str _ _ _,?_⟩
 have fin:∀ (t':Tok) (k:Nat),EP X pins σ Q (.str (Txt.slice z lo hi) t') { s with toks:=k }:=fun t' k=>⟨.str _,H,I.tok k,⟨_,rfl⟩,q⟩
 obtain ⟨o,ho,hc,hd⟩:=hs
 cases pl<;>cases pu
 · exact wpAny_getItem_str_slice (l:=none) (u:=none) (st:=none) ⟨_,ho,hc,hd⟩ rfl (post_val_or_str ⟨Nat.le_trans (Txt.slice_le z _ _) hz,fin⟩)
 · rename_i j uj
   exact wpAny_getItem_str_slice (l:=none) (u:=some (j,uj)) (st:=none) ⟨_,ho,hc,hd⟩ rfl (post_val_or_str ⟨Nat.le_trans (Txt.slice_le z _ _) hz,fin⟩)
 · rename_i i ui
   exact wpAny_getItem_str_slice (l:=some (i,ui)) (u:=none) (st:=none) ⟨_,ho,hc,hd⟩ rfl (post_val_or_str ⟨Nat.le_trans (Txt.slice_le z _ _) hz,fin⟩)
 · rename_i i ui j uj
   exact wpAny_getItem_str_slice (l:=some (i,ui)) (u:=some (j,uj)) (st:=none) ⟨_,ho,hc,hd⟩ rfl (post_val_or_str ⟨Nat.le_trans (Txt.slice_le z _ _) hz,fin⟩)
theorem ZaM:Yh X (binaryOp .Mult) (fun x y H Q=>∃ i n,x=.str i∧y=.int n∧MulOk i n∧Q (.str (Txt.mul i n)) H):=by
 intro pins s σ H x y v u Q I rx ry h
 obtain ⟨i,n,rfl,rfl,hok,q⟩:=h
 obtain ⟨t,rfl⟩:=rx
 obtain ⟨t',rfl⟩:=ry
 exact SB.mul hok fun t' k=>⟨.str _,H,I.tok k,⟨_,rfl⟩,q⟩
end
mutual
inductive DataOf (H:Hp):V→PyData→Prop
 | non:DataOf H .non .none
 | bl (b):DataOf H (.bl b) (.bool b)
 | int (i):DataOf H (.int i) (.int i)
 | str (x):DataOf H (.str x) (.str x)
 | lst {a xs ds}:H a=some (.lst xs)→DatasOf H xs ds→DataOf H (.ref a) (.list ds)
 | tup {a xs ds}:H a=some (.tup xs)→DatasOf H xs ds→DataOf H (.ref a) (.tuple ds)
inductive DatasOf (H:Hp):List V→List PyData→Prop
 | nil:DatasOf H [] []
 | cons {v d vs ds}:DataOf H v d→DatasOf H vs ds→DatasOf H (v::vs) (d::ds)
end
section
variable {P:Program}{w:World}{H:Hp}{h:Heap}
mutual
theorem DataOf.reads (hok:HOk P w H h):∀{v d}(u:Value),DataOf H v d→RelV v u→d.hasDict=false∧∃ as,Reads h u d as
 | _,_,u,.non,r=>by cases (show u=.none from r);exact ⟨rfl,_,.none⟩
 | _,_,u,.bl b,r=>by cases (show u=.bool b from r);exact ⟨rfl,_,.bool b⟩
 | _,_,u,.int i,r=>by obtain ⟨t,e⟩:=(show ∃ t,u=.int i t from r);subst e;exact ⟨rfl,_,.int i t⟩
 | _,_,u,.str x,r=>by obtain ⟨t,e⟩:=(show ∃ t,u=.str x t from r);subst e;exact ⟨rfl,_,.str x t⟩
 | _,_,u,.lst (a:=a) (xs:=xs) e q,r=>by
   cases (show u=.ref a from r)
   obtain ⟨_,its,n,rv,g⟩:=(show ObjOk P w H h a (.lst xs) from hok a _ e)
   obtain ⟨nd,as,ra⟩:=DatasOf.reads hok its q rv
   exact ⟨by simpa [PyData.hasDict] using nd,_,.list g rfl rfl (by simpa using ra)⟩
 | _,_,u,.tup (a:=a) (xs:=xs) e q,r=>by
   cases (show u=.ref a from r)
   obtain ⟨_,its,rv,o,g,c,n,d⟩:=(show ObjOk P w H h a (.tup xs) from hok a _ e)
   obtain ⟨nd,as,ra⟩:=DatasOf.reads hok its q rv
   exact ⟨by simpa [PyData.hasDict] using nd,_,.tuple g c d (by simpa using ra)⟩
theorem DatasOf.reads (hok:HOk P w H h):∀{vs ds}(us:List Value),DatasOf H vs ds→Vals vs us→PyData.hasDictAll ds=false∧∃ as,ReadsAll h us ds as
 | _,_,_,.nil,.nil=>⟨rfl,_,.nil⟩
 | _,_,_,.cons r t,.cons rv tv=>by
   obtain ⟨n1,as,r1⟩:=DataOf.reads hok _ r rv
   obtain ⟨n2,bs,r2⟩:=DatasOf.reads hok _ t tv
   exact ⟨by simp [PyData.hasDictAll,n1,n2],_,.cons r1 r2⟩
end
end
section
variable {X:Cx}
end
end L2
namespace L2
open PySem PySem.Spec PyProof.Rows
def Def (P:Program)(w:World)(K:PySem.W.Frag)(mg:Str→Option Value)(base:Heap)(k:Nat)(x:Str)(ps:List Str)(sp:Sp):Prop :=
 ∃ f fd,FnOk P w K mg base Yb k f fd ps sp∧Binds K fd ps []∧PySem.W.keepIn K (.ref f)=true∧mg x=some (.ref f)
theorem Def.mono {P:Program}{w:World}{K:PySem.W.Frag}{mg:Str→Option Value}{base:Heap}{j k:Nat}{x:Str}{ps:List Str}{sp:Sp}(D:Def P w K mg base j x ps sp)(h:j≤k):Def P w K mg base k x ps sp :=
 let ⟨f,fd,F,b,kp,m⟩:=D;⟨f,fd,F.mono h,b,kp,m⟩
section
variable {X:Cx}{k:Nat}{x:Str}{ps:List Str}{sp:Sp}{p pos:Pos}{e:Expr}{es:List Expr}{t:TA}
theorem Zr (D:Def X.prog X.w X.K X.mg X.base k x ps sp)(hr:Room k X.A)(ha:PA X (e::es) t)(hg:Gl X x:=by rfl)(hdb:(x == ("__debug__":Str))=false:=by decide)
   (he:starEach (e::es) X.env=(false,eval e X.env)::starEach es X.env:=by rfl) (hpl:(backTo pos (starEach es X.env)).any (·.1)=false:=by rfl) :
   PE X (.Call (.Name x p) (e::es) [] pos) (Zbo sp [] E0 t):=by
 obtain ⟨f,fd,F,b,kp,m⟩:=D
 exact ZdP F hr hg m kp b .nil Zfk ha hdb he hpl
end
def Kp (p:Addr)(H H':Hp):Prop:=∀ q o,q≠p→H q=some o→H' q=some o
theorem Kp.trans {p:Addr}{H H1 H2:Hp}(a:Kp p H H1)(b:Kp p H1 H2):Kp p H H2:=fun q o n h=>b q o n (a q o n h)
theorem Kp.upd (p:Addr)(H:Hp)(o:HO):Kp p H (upd H p o):=fun q u n h=>by rw [ZA n];exact h
theorem Same.kp {H H':Hp}(a:Same H H')(p:Addr):Kp p H H':=fun q o _ h=>a q o h
theorem Zf {H:Hp}{p:Addr}(h:H p=none)(o:HO):Same H (upd H p o):=fun b u q=>by rw [ZA (ZL q h)];exact q
def BoxAt (H:Hp)(p:Addr)(n:Nat):Prop:=∃ a b c:Int,H p=some (.lst [.int a,.int b,.int c])∧0≤a∧0≤c∧c≤n
theorem BoxAt.same {H H':Hp}{p:Addr}{n:Nat}(h:BoxAt H p n)(s:Same H H'):BoxAt H' p n:=let ⟨a,b,c,e,r⟩:=h;⟨a,b,c,s _ _ e,r⟩
theorem BoxAt.le {H:Hp}{p:Addr}{n m:Nat}(h:BoxAt H p n)(l:n≤m):BoxAt H p m:=let ⟨a,b,c,e,h1,h2,h3⟩:=h;⟨a,b,c,e,h1,h2,by omega⟩
def Wx (M:Int):Sp:=fun vs H Q _=>∃(p:Addr)(n:Nat)(m:Int),vs=[.ref p,.int m]∧BoxAt H p n∧n≤1000000∧0 < m∧m < M∧∀(r:Int)(H':Hp),0≤r→r < m→BoxAt H' p (n+1)→Kp p H H'→Q (.int r) H'
def Zbz (K:PySem.W.Frag):Sp:=fun vs H Q _=>∃(a:Addr)(ns:List Int)(k:Int),vs=[.ref a,.int k]∧SqL K H a (ns.map V.int)∧0≤k∧∀(r:Int),Q (.int r) H
def Zdn (K:PySem.W.Frag):Sp:=fun vs H Q _=>∃(a:Addr)(ns:List Int)(k:Int),vs=[.ref a,.int k]∧SqL K H a (ns.map V.int)∧0≤k∧k≤1000∧∀(p:Addr)(H':Hp),H p=none→BoxAt H' p 0→Same H H'→Q (.ref p) H'
theorem WQ {n:Nat}(h:n≤1000):n≤sizeLine:=Nat.le_of_lt (Zck h)
end L2
namespace L2
open PySem PySem.Spec PyProof.Rows
def ZaB (N:List Str)(names:List (Str×NameKind))(scope:Scope)(x:Str):Bool :=
 decide ((WD N x++[x]).Nodup)&&scope.names.all (fun y=>(y.2 != .free || names.lookup y.1 == some .cell || names.lookup y.1 == some .free)&&(y.2 != .cell&&(y.2 != .local || scope.names.lookup y.1 == some .local))) &&
 ((scope.kind == .function&&scope.names.lookup x == some .local)&&N.all fun y=>y == x || scope.names.lookup y != some .local)&&scope.names.lookup ("":Str) == none
theorem CompOk.of {X:Cx}{scope:Scope}{x:Str}(N:List Str)(st:Stmt)(hN:X.N=N)(hn:X.env.scope=Zo st)(chk:ZaB N (Zo st).names scope x=true):CompOk X scope x:=by
 unfold ZaB at chk
 simp only [Bool.and_eq_true,decide_eq_true_eq,List.all_eq_true,Bool.or_eq_true,bne_iff_ne,beq_iff_eq] at chk
 obtain ⟨⟨⟨c1,c2⟩,⟨c3,c4⟩,c5⟩,c6⟩:=chk
 refine ⟨by rw [hN];exact c1,fun y hy hf=>?_,fun y hy=>(c2 y hy).2.1,c3,fun y hy hl=>?_,c4,fun y hy hx=>(c5 y (by rw [← hN];exact hy)).resolve_left hx,c6⟩
 · show X.env.scope.names.lookup y.1=_∨X.env.scope.names.lookup y.1=_
   rw [hn]
   rcases (c2 y hy).1 with (z | z) | z
   · exact absurd hf z
   · exact .inl z
   · exact .inr z
 · rcases (c2 y hy).2.2 with z | z
   · exact absurd hl z
   · exact z
theorem Xa {x:Str}{te:TE}{σ:St}{D:Addr}{Q:VK}{H:Hp}(hn:x.length≤sizeLine)(g:Nat→V)(hs:∀ c (H':Hp) (R:VK),c∈x.cps.toList→R (g c) H'→te (σ++[some (.str ⟨#[c]⟩)]) H' R)
   (hd:Q (.ref D) (upd H D (.lst (x.cps.toList.map g)))):Xu (Its x) te σ D Q H:=by
 refine Zcs hn (fun i ys H'=>ys=(x.cps.toList.take i).map g∧H'=upd H D (.lst ys)∧i≤x.cps.size) ⟨rfl,rfl,Nat.zero_le _⟩ ?_ ?_ ?_
 · rintro i ys H' ⟨rfl,_,hi⟩
   rw [List.length_map,List.length_take]
   simp;omega
 · rintro i c ys H' hc ⟨rfl,rfl,hi⟩
   have hc':x.cps.toList[i]?=some c:=by simpa using hc
   refine hs c _ _ (List.mem_of_getElem? hc') ⟨Zh,?_,ZdV,(Array.getElem?_eq_some_iff.mp hc).1⟩
   rw [List.take_add_one,hc',List.map_append];rfl
 · rintro ys H' ⟨rfl,rfl,_⟩
   rw [List.take_of_length_le (by simp)]
   exact hd
theorem Uj:∀ (rest:List Str) (acc:Array Nat),(rest.foldl (fun acc p=>acc++(Str.ofString "").cps++p.cps) acc).toList=acc.toList++rest.flatMap (·.cps.toList)
 | [],acc=>by simp
 | p::r,acc=>by
   have e:(Str.ofString "").cps=#[]:=by decide +kernel
   rw [List.foldl_cons,Uj r,List.flatMap_cons,e]
   simp
theorem Xt:∀ ys:List Str,(Txt.join (Str.ofString "") ys).cps.toList=ys.flatMap (·.cps.toList)
 | []=>rfl
 | y::r=>by
   show (List.foldl (fun acc p=>acc++(Str.ofString "").cps++p.cps) y.cps r).toList=_
   rw [Uj];rfl
theorem Yl (x:Str):x.length=x.cps.toList.length:=by simp [Str.length]
theorem ZbD (s e:Int)(i j:Nat)(hs:s=i)(he:e=j):sliceRange s e 1=(List.range (j - i)).map (i+·):=by
 subst hs he
 unfold sliceRange
 simp only [show (1:Int) > 0 by decide,if_true]
 have e3:(if (i:Int) < (j:Int) then ((j:Int) - i+1 - 1) / 1 else 0).toNat=j - i:=by
   split
   · rw [Int.ediv_one];omega
   · omega
 rw [e3]
 apply List.map_congr_left
 intro k hk
 omega
theorem Wa (z:Str)(lo hi:Option Int):(Txt.slice z lo hi).cps.toList=(z.cps.toList.drop (HT.sIx z.length 0 lo)).take (HT.sIx z.length z.length hi - HT.sIx z.length 0 lo):=by
 have key:Builtin.Str.strSliceIndices lo hi 1 z.length=(List.range (HT.sIx z.length z.length hi - HT.sIx z.length 0 lo)).map (HT.sIx z.length 0 lo+·):=by
   unfold Builtin.Str.strSliceIndices
   refine ZbD _ _ _ _ ?_ ?_
   · cases lo with
     | none=>rfl
     | some i=>simp only [HT.sIx,show (1:Int) > 0 by decide,if_true];split<;>omega
   · cases hi with
     | none=>rfl
     | some i=>simp only [HT.sIx,show (1:Int) > 0 by decide,if_true];split<;>omega
 have hj:HT.sIx z.length z.length hi≤z.length:=HT.sIx_le _ _ (Nat.le_refl _) hi
 unfold Txt.slice
 rw [key]
 split
 · rename_i h
   simp only [beq_self_eq_true,Bool.true_and,List.length_map,List.length_range,beq_iff_eq] at h
   have h0:HT.sIx z.length 0 lo=0∨z.length=0:=by omega
   rcases h0 with h0 | h0
   · rw [h0] at h ⊢
     rw [List.drop_zero,h,Yl,List.take_length]
   · have e:z.cps.toList=[]:=List.eq_nil_of_length_eq_zero (by rw [← Yl];exact h0)
     rw [e];simp
 · show (List.filterMap (fun k=>z.cps[k]?) ((List.range _).map _)).toArray.toList=_
   rw [List.filterMap_map]
   generalize HT.sIx z.length 0 lo=i at *
   generalize HT.sIx z.length z.length hi - i=n at *
   have gen:∀ (n i:Nat),List.filterMap ((fun k=>z.cps[k]?) ∘ (i+·)) (List.range n)=(z.cps.toList.drop i).take n:=by
     intro n
     induction n with
     | zero=>intro i;simp
     | succ n ih =>
       intro i
       rw [List.range_succ,List.filterMap_append,ih,List.take_add_one,List.getElem?_drop]
       congr 1
       simp only [List.filterMap_cons,List.filterMap_nil,Function.comp,Array.getElem?_toList]
       cases z.cps[i+n]?<;>rfl
   rw [gen]
theorem UZ (x y:Str):(x++y).cps.toList=x.cps.toList++y.cps.toList:=by
 show (x.cps++y.cps).toList=_
 simp
theorem Xz (x y:Str):(x++y).length=x.length+y.length:=by rw [Yl,UZ,List.length_append,← Yl,← Yl]
def Yf (c:Nat):Bool:=decide (97≤c)&&decide (c≤122)
def Yv (c:Nat):Bool:=decide (32≤c)&&decide (c≤126)
theorem XA (c d:Nat):decide ([c] < [d])=decide (c < d):=by
 simp [List.cons_lt_cons_iff]
theorem Uf (f:Nat→Bool)(l:List Nat):l.map (fun c=>V.bl (f c))=(l.map f).map V.bl:=by rw [List.map_map];rfl
theorem ZbW {X:Cx}{K:PySem.W.Frag}(hK:X.K=K):YG X (.builtin "len") (fun xs H Q=>∃ x n,xs=[x]∧ZcB K x H n∧Q (.int n) H):=by subst hK;exact Zcz
@[reducible] def notStar:Expr→Bool
 | .Starred ..=>false
 | _=>true
theorem ZaJ {e:Expr}{es:List Expr}{env:Env}(h:notStar e=true):starEach (e::es) env=(false,eval e env)::starEach es env:=by
 cases e<;>first | rfl | cases h
section
variable {X:Cx}{k:Nat}{x:Str}{ps:List Str}{sp:Sp}{p pos:Pos}{e:Expr}{es:List Expr}{te:TE}{t:TA}
theorem Yk (ha:PE X e te)(hr:PA X es t)(h:notStar e=true):PA X (e::es) (Xl te t):=ZT ha hr (ZaJ h)
theorem Zc (ha:PE X e te)(hr:PA X es t)(h:notStar e=true:=by rfl):PA X (e::es) (Xl te t):=ZT ha hr (ZaJ h)
end
end L2
namespace L2
open PySem PySem.Spec PyProof.Rows
section
variable {X:Cx}
theorem Zcx:Yh X (binaryOp .FloorDiv) (rI (fun _ j=>0 < j∧j < 2 ^ 62) fun i j=>.int (i / j)):=opI fun i j _ _ _ _ _ hc q=>by
 have h1:(0:Int) < j:=hc.1
 have h2:j < 2 ^ 62:=hc.2
 refine floordiv_int (by omega) (by rw [Int.fdiv_eq_ediv_of_nonneg i (by omega)];exact q) (.inl (PyProof.noPylong_of_log2 ?_))
 have h3:j.natAbs≠0:=by omega
 have h4:j.natAbs < 2 ^ 9000:=Nat.lt_of_lt_of_le (show j.natAbs < 2 ^ 62 by omega) (Nat.pow_le_pow_right (by decide) (by decide))
 exact (Nat.log2_lt h3).mpr h4
end
end L2
namespace L2
open PySem PySem.Spec PyProof.Rows
section
variable {X:Cx}
end
section
variable {X:Cx}{tg:Expr}
end
end L2
set_option maxHeartbeats 2000000
namespace L2
open PySem PySem.Spec PyProof.Rows
section
variable {prog:Program}{w:World}{A:Around}{E:Value→Shared→Prop}{s:Shared}
end
end L2
set_option maxHeartbeats 2000000
namespace L2
open PySem PySem.Spec PyProof.Rows
section
variable {prog:Program}{w:World}{A:Around}{E:Value→Shared→Prop}{s:Shared}
end
end L2
set_option maxHeartbeats 2000000
namespace L2
open PySem PySem.Spec PyProof.Rows
theorem Inv.turned2 {X:Cx}{pins:List (Addr×Obj)}{σ:St}{H:Hp}{s:Shared}{h':Heap}{t':Nat}{fp:List Addr}(I:Inv X pins σ H s)(k:∀ b o,b ∉ fp→s.heap.get? b=some o→h'.get? b=some o)(hf:∀ b∈fp,Yp X pins H b) :
   Inv X pins σ H { s with heap:=h',toks:=t' }:=by
 have nit:∀ b u,H b=some u→b ∉ fp:=fun b u e z=>by rw [(hf b z).1] at e;cases e
 refine I.step (g':=s.gens) (d':=s.drawn) (ch:=fp) (fun b hb=>?_) (fun b o _ _ hc e _=>k b o hc e) (fun b o _ _ hc e _=>⟨o.slots,k b o hc e⟩) (fun _ _ _ _ n=>n)
   (fun b o hc e=>⟨o,k b o hc e⟩) (fun _ _ e=>e) (fun _ _ _ e=>e) (fun b ps e=>⟨#[],by rw [e];simp⟩) (fun m hm=>?_) (fun b u e=>?_) I.bare
 · obtain ⟨f0,f1,f2,f3,f4,f5⟩:=hf b hb
   exact ⟨f3,f1,f4,f5⟩
 · obtain ⟨o,es,ep,ho,r⟩:=hm
   exact ⟨o,es,ep,k _ o (fun z=>(hf _ z).2.1 rfl) ho,r⟩
 · refine (I.hok b u e).stay (fun c v hc q=>k c v ?_ q) (fun _ q=>q) fun _ _ q=>q
   rcases hc with z | z
   · rw [z];exact nit b u e
   · exact nit c _ z
section
variable {X:Cx}
end
end L2
set_option maxHeartbeats 2000000
namespace L2
open PySem PySem.W PySem.Spec PyProof.Rows
section
variable {prog:Program}{w:World}{A:Around}{E:Value→Shared→Prop}{s:Shared}{a kS:Addr}{vs:List Value}{ks:List Str}{keys:Array Value}{e e1:Nat}{P:PySem.Fin→Shared→Prop}
end
end L2
set_option maxHeartbeats 2000000
namespace L2
open PySem PySem.W PySem.Spec PyProof.Rows
def UP (base:Heap)(mg:Str→Option Value):Prop:=∃ bm ob,mg "__builtins__"=some (.ref bm)∧bm≠builtinsNs∧base.get? bm=some ob∧ob.cls=.type "module"∧ob.dict=some builtinsNs∧ob.data=.plain
def Zbl (ts:List Addr)(H:Hp):Prop:=∀ b,H b=none∨(∃ o xs,H b=some (.frz o (.lst xs)))∨(H b=some (.tbl #[])∧b∈ts)
theorem ZbB {P:Program}{w:World}{K:PySem.W.Frag}{mg mb:Str→Option Value}{CX:XR}{k:Nat}{fa a:Addr}{fd:FuncData}{x:Str}{sp:Sp}{s₁:Shared}{vs:List Value}{ns:List Int}{ts:List Addr}
   (KX:K.In s₁.heap) (hns:s₁.heap.Ns mainGlobals mg) (hb:s₁.heap.Ns builtinsNs mb) (hbb:∀ x:Str,x≠"__name__"→mb x=bootBuiltins x) (hlim:s₁.heap.NoLimit) (hg:s₁.gens=#[]) (hbm:UP s₁.heap mg)
   (ha:s₁.heap.get? a=some { cls:=.type "list",data:=.seq vs.toArray }) (hi:IntsAre vs ns) (hl:ns.length≤sizeLine) (hr:Room k callerA)
   (hts:∀ b∈ts,s₁.heap.get? b=some (tabObj #[])∧K.lookup b=none∧∃ c,CodeHd s₁.heap c b)
   (F:∀ base:Heap,K.In base→base.Ns mainGlobals mg→UP base mg→FnOk P w K mg base CX k fa fd [x] sp) (hbind:∀ (s:Shared) (u:Value),BindsTo s fd ⟨[u],[]⟩ [(x,u)])
   (hsp:∀ H:Hp,Zbl ts H→SqL K H a (ns.map V.int)→(∀ b∈ts,H b=some (.tbl #[]))→sp [.ref a] H (fun v _=>v=.bl true) fun _ _ _=>False)
   (hCX:∀ H e s',CX [] H s₁ (fun _ _ _=>False) e s'→False) :
   codeAny (model P w) callerA (.call (.ref fa) ⟨[.ref a],[]⟩) (fun r s'=>r=.ok (.ret (.bool true))∧OldK s₁.heap s'.heap∧s'.os=s₁.os∧AllBare s'.gens) s₁:=by
 have rv:=UW hi
 have lenV:=hi.length
 have nta:a ∉ ts:=fun z=>by
   have e:=(hts a z).1
   rw [ha] at e;cases e
 have core : ∀ H:Hp,Zbl ts H→SqL K H a (ns.map V.int)→HOk P w H s₁.heap→(∀ b∈ts,H b=some (.tbl #[]))→(∀ b,H b≠none→b=a∨b∈ts)→(∀ b,H b≠none→K.lookup b=none) →
     codeAny (model P w) callerA (.call (.ref fa) ⟨[.ref a],[]⟩) (fun r s'=>r=.ok (.ret (.bool true))∧OldK s₁.heap s'.heap∧s'.os=s₁.os∧AllBare s'.gens) s₁:=by
   intro H hO hS hok hT hA hK
   have base_of:∀ {b:Addr} {o:Obj},s₁.heap.get? b=some o→H b=none→(XU s₁.heap H).get? b=some o:=fun y n=>ZcL y n
   have free:∀ {b:Addr} {o:Obj},s₁.heap.get? b=some o→(∀ its n,o.data≠.seq its n)→(∀ fs,o.data≠.fields fs)→H b=none:=fun {b o} y d1 d2=>by
     cases q:H b with
     | none=>rfl
     | some u =>
       rcases hA b (by rw [q];simp) with z | z
       · subst z
         rw [ha] at y;cases y
         exact absurd rfl (d1 _ _)
       · rw [(hts b z).1] at y;cases y
         exact absurd rfl (d2 _)
   have nsK:∀ {b:Addr} {m:Str→Option Value},s₁.heap.Ns b m→(XU s₁.heap H).Ns b m:=fun {b m} ⟨o,es,ep,y,d,r⟩=>⟨o,es,ep,base_of y (free y (fun its n z=>by rw [d] at z;cases z) fun fs z=>by rw [d] at z;cases z),d,r⟩
   have hKb:K.In (XU s₁.heap H):=fun b o y=>base_of (KX b o y) (by
     cases q:H b with
     | none=>rfl
     | some u=>rw [hK b (by rw [q];simp)] at y;cases y)
   have hBm:UP (XU s₁.heap H) mg:=by
     obtain ⟨bm,ob,h1,h2,h3,h4,h5,h6⟩:=hbm
     exact ⟨bm,ob,h1,h2,base_of h3 (free h3 (fun its n z=>by rw [h6] at z;cases z) fun fs z=>by rw [h6] at z;cases z),h4,h5,h6⟩
   have hM:Mod K mg (XU s₁.heap H):=⟨hKb,nsK hns,⟨mb,nsK hb,hbb⟩,let ⟨mc,h1,h2⟩:=hlim;⟨mc,nsK h1,h2⟩⟩
   have e0:ZaP P w K mg (XU s₁.heap H) callerA [] s₁ H:=⟨rfl,hM,fun b o e=>ZdD e,Nat.le_of_eq (Zca _ _),trivial,fun b hb=>absurd (show b∈([]:List Addr) from hb) (by simp),hok,.of_eq hg⟩
   refine codeAny_mono ((F _ hKb (nsK hns) hBm).run callerA [] s₁ H ⟨[.ref a],[]⟩ [.ref a] [.ref a] _ _ hr e0 (hbind s₁ (.ref a)) (.cons rfl .nil) (hsp H hO hS hT)) fun r s' h=>?_
   cases r with
   | error e=>exact (hCX H e s' h).elim
   | ok fl =>
     cases fl with
     | next=>exact False.elim h
     | brk=>exact False.elim h
     | cont=>exact False.elim h
     | ret u =>
       obtain ⟨v,H',os,bare,un,hok',r',q⟩:=h
       have q':v=.bl true:=q
       subst q'
       obtain rfl:u=Value.bool true:=r'
       have key:∀ b o,s₁.heap.get? b=some o→s'.heap.get? b=some o∨(b∈ts∧∃ more:Array Value,s'.heap.get? b=some (tabObj (#[]++more))):=fun b o y=>by
         cases q:H b with
         | none=>exact .inl (un.keep b o y q (by intro z;exact absurd (show b∈([]:List Addr) from z) (by simp)) (by simp))
         | some u =>
           rcases hO b with z | ⟨ob,xs,z⟩ | ⟨z,zt⟩
           · rw [q] at z;cases z
           · have z2:=un.frzs b ob _ z
             obtain ⟨e1,_⟩:=hok b _ z
             obtain ⟨e2,_⟩:=hok' b _ z2
             rw [y] at e1;cases e1
             exact .inl e2
           · obtain ⟨more,z2⟩:=un.tbls b #[] z
             exact .inr ⟨zt,more,show s'.heap.get? b=some { cls:=.none,data:=.fields (#[]++more) } from hok' b _ z2⟩
       refine ⟨rfl,⟨fun b o y=>?_,fun b o y=>?_⟩,os,bare⟩
       · rcases key b o y with z | ⟨zt,more,z⟩
         · exact .inl z
         · obtain ⟨t1,_,c,t3⟩:=hts b zt
           rw [t1] at y;cases y
           exact .inr (.inl ⟨(t3.tab t1).isCodeTable,rfl,#[],more,rfl,z⟩)
       · rcases key b o y with z | ⟨zt,more,z⟩
         · exact ⟨_,z⟩
         · exact ⟨_,z⟩
 have okT:∀ (H:Hp) (b:Addr),b∈ts→ObjOk P w H s₁.heap b (.tbl #[]):=fun H b hb=>(hts b hb).1
 cases hk:K.lookup a with
 | some o =>
   have e:=KX a o hk
   rw [ha] at e
   cases e
   refine core (fun b=>if b∈ts then some (.tbl #[]) else none) (fun b=>?_) (.inr ⟨_,vs.toArray,_,hk,rfl,rfl,rfl,by rw [List.size_toArray,lenV];exact hl,by simpa using rv⟩) (fun b u z=>?_) (fun b hb=>if_pos hb) (fun b z=>?_) (fun b z=>?_)
   · by_cases hb:b∈ts
     · exact .inr (.inr ⟨if_pos hb,hb⟩)
     · exact .inl (if_neg hb)
   · by_cases hb:b∈ts
     · have z':=(if_pos hb).symm.trans z
       cases z'
       exact okT _ b hb
     · have z':=(if_neg hb).symm.trans z
       cases z'
   · by_cases hb:b∈ts
     · exact .inr hb
     · exact absurd (if_neg hb) z
   · by_cases hb:b∈ts
     · exact (hts b hb).2.1
     · exact absurd (if_neg hb) z
 | none =>
   refine core (fun b=>if b=a then some (.frz { cls:=.type "list",data:=.seq vs.toArray } (.lst (ns.map V.int))) else if b∈ts then some (.tbl #[]) else none) (fun b=>?_) (.inl (.inr ⟨{ cls:=.type "list",data:=.seq vs.toArray },if_pos rfl⟩)) (fun b u z=>?_)
     (fun b hb=>(if_neg (fun z:b=a=>nta (by rw [← z];exact hb))).trans (if_pos hb)) (fun b z=>?_) (fun b z=>?_)
   · by_cases h1:b=a
     · exact .inr (.inl ⟨_,_,if_pos h1⟩)
     · by_cases hb:b∈ts
       · exact .inr (.inr ⟨(if_neg h1).trans (if_pos hb),hb⟩)
       · exact .inl ((if_neg h1).trans (if_neg hb))
   · by_cases h1:b=a
     · have z':=(if_pos h1).symm.trans z
       cases z'
       subst h1
       exact ⟨ha,by rw [List.length_map];exact hl,vs,_,rv,ha⟩
     · have z1:=(if_neg h1).symm.trans z
       by_cases hb:b∈ts
       · have z':=(if_pos hb).symm.trans z1
         cases z'
         exact okT _ b hb
       · have z':=(if_neg hb).symm.trans z1
         cases z'
   · by_cases h1:b=a
     · exact .inl h1
     · by_cases hb:b∈ts
       · exact .inr hb
       · exact absurd ((if_neg h1).trans (if_neg hb)) z
   · by_cases h1:b=a
     · rw [h1];exact hk
     · by_cases hb:b∈ts
       · exact (hts b hb).2.1
       · exact absurd ((if_neg h1).trans (if_neg hb)) z
theorem walk_ofT {l:PySem.W.OpenLaw}{n k:Nat}{q:Program}{loose:List Str}{XP:(Str→Option Value)→Heap→Prop}{YP:World→Heap→Prop}{d:DefRec}{K:Params→PySem.W.Frag}{CX:World→XR}{sp:World→Sp}{x:Str}{ts:List Addr}
   (hn:l.most=some n) (hn2:n≤sizeLine) (hdf:d.params.defaults=[]) (hr:Room k callerA)
   (hY:∀ (w:World) (h:Heap),YP w h→(K w.params).In h∧∀ b∈ts,h.get? b=some (tabObj #[]))
   (hK:∀ (w:World) (b:Addr),b∈ts→(K w.params).lookup b=none∧∃ c,codeHdIn (K w.params) c b=true)
   (F:∀ (w:World) (mg:Str→Option Value) (fa:Addr) (h:Heap),(K w.params).In h→h.Ns mainGlobals mg→mg d.name=some (.ref fa) →
     ∃ fd:FuncData,(∀ (s:Shared) (u:Value),BindsTo s fd ⟨[u],[]⟩ [(x,u)]) ∧
       ∀ base:Heap,(K w.params).In base→base.Ns mainGlobals mg→UP base mg→FnOk l.prog w (K w.params) mg base (CX w) k fa fd [x] (sp w))
   (hsp:∀ (w:World) (H:Hp) (a:Addr) (ns:List Int),ns.length≤n→Zbl ts H→SqL (K w.params) H a (ns.map V.int)→(∀ b∈ts,H b=some (.tbl #[]))→sp w [.ref a] H (fun v _=>v=.bl true) fun _ _ _=>False)
   (hCX:∀ (w:World) (H:Hp) (s:Shared) (e:Value) (s':Shared),CX w [] H s (fun _ _ _=>False) e s'→False) :
   PySem.W.WalkO q loose XP YP l.row.toRowW d [] (fun f vs=>PySem.call f vs):=by
 refine Att.attach_call hn hdf fun w s₀ s₁ mg mb fa o pm cd doc a vs ns G Y ho hd hcd hmg hobj hints hlen hg=>?_
 obtain ⟨KX,hT⟩:=hY w _ Y
 obtain ⟨fd,hb,hF⟩:=F w mg fa _ KX G.T.g hmg
 exact ZbB (ts:=ts) KX G.T.g G.T.b G.T.builtins G.T.nolimit hg G.T.bmain hobj hints (Nat.le_trans hlen hn2) hr (fun b hb'=>⟨hT b hb',(hK w b hb').1,let ⟨c,hc⟩:=(hK w b hb').2;⟨c,codeHd_of_K KX hc⟩⟩) hF hb (fun H hO hS hTb=>hsp w H a ns hlen hO hS hTb) fun H e s'=>hCX w H s₁ e s'
end L2
set_option maxHeartbeats 2000000
namespace L2
open PySem PySem.W PySem.Spec PyProof.Rows
section
variable {prog:Program}{w:World}{A:Around}{E:Value→Shared→Prop}{s:Shared}
end
section
variable {X:Cx}{pins:List (Addr×Obj)}{σ:List (Option V)}{H:Hp}{s:Shared}{h':Heap}
end
section
variable {X:Cx}
end
end L2
set_option maxHeartbeats 4000000
namespace L2
open PySem PySem.W PySem.Spec PyProof.Rows
section
variable {prog:Program}{w:World}{A:Around}{E:Value→Shared→Prop}{s:Shared}
end
section
variable {prog:Program}{w:World}{A:Around}{R:Result→Shared→Prop}
end
section
variable {prog:Program}{w:World}{A:Around}{E:Value→Shared→Prop}{s:Shared}
end
section
variable {X:Cx}
end
end L2
set_option maxHeartbeats 2000000
namespace L2
open PySem PySem.W PySem.Spec PyProof.Rows
section
variable {X:Cx}{pins:List (Addr×Obj)}{σ:List (Option V)}{H H':Hp}{s:Shared}{h':Heap}
end
section
variable {X:Cx}
def Zfm:TE:=fun _ H Q=>∀ p o,H p=none→o.dict=none→Q (.ref p) (upd H p (.frz o (.tup [])))
theorem UI {x1:Nat}{pos:Pos}:PE X (.Tuple [] x1 pos) Zfm:=by
 intro pins s σ H Q I hq
 refine wpAny_Tuple_spliced (Zn (Za pos pins s σ H (fun xs H1=>xs=[]∧H1=H) I ⟨rfl,rfl⟩) fun us s1 ⟨xs,H1,I1,r,e1,e2⟩=>?_)
 subst e1 e2
 cases r
 refine ⟨Nat.zero_le _,?_⟩
 have hf:H1 s1.heap.objs.size=none:=I1.hok.fresh (Nat.le_refl _)
 exact ⟨.ref s1.heap.objs.size,_,I1.laid (t':=s1.toks) (o:=.frz _ (.tup [])) (fun b u e=>Heap.get?_push_of_some _ e) (Nat.le_refl _) ⟨Heap.get?_push_size _ rfl,Nat.zero_le _,[],.nil,⟨_,Heap.get?_push_size _ rfl,rfl,_,rfl⟩⟩,rfl,hq _ _ hf rfl⟩
end
end L2
set_option maxHeartbeats 2000000
namespace L2
open PySem PySem.W PySem.Spec PyProof.Rows
section
variable {O:KeyOrd}{key:Nat→O.α}{n:Nat}{s:Shared}{cmp:Nat→Nat→(Bool→Shared→Prop)→Shared→Prop}
end
end L2
set_option maxHeartbeats 2000000
namespace L2
open PySem PySem.W PySem.Spec PyProof.Rows
section
variable {P:Program}{w:World}{K:PySem.W.Frag}{mg:Str→Option Value}{base:Heap}
end
structure TF (H H':Hp):Prop where
 tup:∀ b xs,H b=some (.tup xs)→H' b=some (.tup xs)
 frz:∀ b o u,H b=some (.frz o u)→H' b=some (.frz o u)
theorem Same.tf {H H':Hp}(h:Same H H'):TF H H':=⟨fun b _ e=>h b _ e,fun b _ _ e=>h b _ e⟩
theorem SqT.tf {K:PySem.W.Frag}{H H':Hp}{a:Addr}{xs:List V}(h:SqT K H a xs)(t:TF H H'):SqT K H' a xs:=by
 rcases h with (h | ⟨o,h⟩) | h
 · exact .inl (.inl (t.tup _ _ h))
 · exact .inl (.inr ⟨o,t.frz _ _ _ h⟩)
 · exact .inr h
end L2
set_option maxHeartbeats 2000000
namespace L2
open PySem
section
variable {X:Cx}{elt iter cnd:Expr}{x:Str}{px pos:Pos}{scope:Scope}{wi:TI}{te:TE}{tc:TT}
end
end L2
set_option maxHeartbeats 2000000
namespace L2
open PySem PySem.Spec PyProof.Rows
def XW (N:List Str)(xa xb:Str):List Str:=WD (WD N xa) xb
theorem Vw (N:List Str)(xa xb:Str):(XW N xa xb).length=N.length:=by unfold XW;rw [Wc,Wc]
theorem ZcP {N:List Str}{xa xb y:Str}{i:Nat}(h:(XW N xa xb)[i]?=some y):(N[i]?=some y∧¬ (y=xa∨y=xb))∨y="":=by
 rcases UO h with ⟨h1,h2⟩ | h1
 · rcases UO h1 with ⟨h3,h4⟩ | h3
   · exact .inl ⟨h3,fun z=>z.elim h4 h2⟩
   · exact .inr h3
 · exact .inr h1
def Yr (X:Cx)(scope:Scope)(xa xb:Str)(cl:List (Str×Addr))(C:Addr)(s₀:Shared)(H₀:Hp)(fp:List Addr):Cx:={ YA X scope xa cl C s₀ H₀ fp with N:=XW X.N xa xb++[xa,xb] }
structure CompOkT (X:Cx)(scope:Scope)(xa xb:Str):Prop where
 nd:(XW X.N xa xb++[xa,xb]).Nodup
 clos:∀ y∈scope.names,y.2=.free→X.env.kindOf y.1=some .cell∨X.env.kindOf y.1=some .free
 cell:∀ y∈scope.names,y.2≠.cell
 kind:scope.kind=.function
 names:∀ y∈scope.names,y.2=.local→scope.names.lookup y.1=some .local
 own:∀ y∈X.N,¬ (y=xa∨y=xb)→scope.names.lookup y≠some .local
 noh:scope.names.lookup ("":Str)=none
def Zbh (J:It)(g:TG)(te:TE)(σ:St)(D:Addr)(Q:VK)(H1:Hp):Prop :=
 ∃ W:Nat→Nat→List V→Hp→Prop,(∃ m,W 0 m [] (upd H1 D (.lst [])))∧∀ i m ys H2,W i m ys H2 →
   (J.stop i H2∧Q (.ref D) H2)∨(J.go i H2∧∃ N:VK,(∀ y H4,N y H4→H4 D=some (.lst ys)∧ys.length < sizeLine∧∃ m',m' < m∧W (i+1) m' (ys++[y]) (upd H4 D (.lst (ys++[y]))))∧∀ wa wb v H3,J.yld i H2 v H3→g v (σ++[wa,wb]) H3 fun σ' H'=>(∃ wa wb,σ'=σ++[wa,wb])∧te σ' H' N)
def Zef (wi:TI)(g:TG)(te:TE):TE:=fun σ H Q=>wi σ H fun J H1=>∀ D,H1 D=none→Zbh J g te σ D Q H1
section
variable {X:Cx}{elt iter tg:Expr}{xa xb:Str}{pos:Pos}{scope:Scope}{wi:TI}{te:TE}{g:TG}
theorem Zaa {pins:List (Addr×Obj)}{σ:St}{H2:Hp}{s₂:Shared}{J:It}{fp:List Addr}{it:Addr}{tn:Nat→Heap→Prop}{cl:List (Str×Addr)}{E:Value→Shared→Prop}{Q:VK}{RR:Value→Addr→Result→Shared→Prop}
   (O:CompOkT X scope xa xb) (hc:X.calm=true) (cl1:∀ y c,cl.lookup y=some c→X.env.cells.lookup y=some c) (cl2:∀ y∈scope.names,y.2=.free→cl.lookup y.1≠none)
   (hg:∀ cl C s₀ H₀ fp,PG (Yr X scope xa xb cl C s₀ H₀ fp) tg g) (he:∀ cl C s₀ H₀ fp,PE (Yr X scope xa xb cl C s₀ H₀ fp) elt te)
   (I2:Inv X pins σ H2 s₂) (T:XT X.prog X.w X.K tg J fp it tn) (st:tn 0 s₂.heap) (f2:∀ b∈fp,Yp X pins H2 b)
   (h:∀ D,H2 D=none→Zbh J g te σ D Q H2)
   (hRR:∀ D C H' s',Inv X pins σ H' s'→Yp X pins H' C→(∃ m,s'.heap.Ns C m)→Q (.ref D) H'→RR (.ref D) C (.ok .next) s') :
   wpAny (model X.prog X.w) X.A (newList []) (fun acc s₃=>wpAny (model X.prog X.w) X.A (newFunctionEnv scope X.env.globals cl [] X.env.qual none .none (some X.env)) (fun cenv s₄ =>
     codeAny (model X.prog X.w) X.A (.compStart (.ListComp elt [⟨tg,iter,[],0⟩] scope pos) 0 (.ref it) acc { cenv with scope:=relabel scope X.env }) (RR acc cenv.locals) s₄) E s₃) E s₂:=by
 have hD:H2 s₂.heap.objs.size=none:=I2.hok.fresh (Nat.le_refl _)
 refine wpAny_newObj_type ?_
 have I3:Inv X pins σ (upd H2 s₂.heap.objs.size (.lst [])) { s₂ with heap:=s₂.heap.push { cls:=.type "list",data:=.seq ([]:List Value).toArray } } :=
   I2.laid (t':=s₂.toks) (fun b u e=>Heap.get?_push_of_some _ e) (Nat.le_refl _) ⟨Nat.zero_le _,[],_,.nil,Heap.get?_push_size _ rfl⟩
 have f3:∀ b∈fp,Yp X pins (upd H2 s₂.heap.objs.size (.lst [])) b:=fun b hb=>by
   obtain ⟨g0,g1⟩:=f2 b hb
   obtain ⟨o,e,_⟩:=T.obj 0 _ st b hb
   exact ⟨by rw [ZA (Nat.ne_of_lt (Heap.lt_size e))];exact g0,g1⟩
 have st3:tn 0 (s₂.heap.push { cls:=.type "list",data:=.seq ([]:List Value).toArray }):=T.keep _ _ _ st fun b hb o e=>Heap.get?_push_of_some _ e
 obtain ⟨W,⟨m0,w0⟩,turn⟩:=h _ hD
 generalize hDe:s₂.heap.objs.size=D at I3 f3 w0 turn ⊢
 generalize hH3:upd H2 D (.lst [])=H3 at I3 f3 w0 turn ⊢
 generalize hs3:({ s₂ with heap:=s₂.heap.push { cls:=.type "list",data:=.seq ([]:List Value).toArray } }:Shared)=s₃ at I3
 have st3':tn 0 s₃.heap:=by rw [← hs3];exact st3
 have hobj:∀ b∈fp,b < s₃.heap.objs.size:=fun b hb=>by
   obtain ⟨o,e,_⟩:=T.obj 0 _ st3' b hb
   exact Heap.lt_size e
 refine wpAny_newFunctionEnv O.cell (by intro y hy;simp at hy) (fun h₁ hns₁ hsb₁=>?_) O.kind
 have old:∀ b o,s₃.heap.get? b=some o→h₁.get? b=some o:=fun b o e=>hsb₁.extBut b o (Nat.ne_of_lt (Heap.lt_size e)) (Heap.get?_push_of_some _ e)
 generalize hs4:({ s₃ with heap:=h₁,toks:=s₃.toks+([]:List (Str×Value)).length }:Shared)=s₄
 have h4:s₄.heap=h₁:=by rw [← hs4]
 have hX:∀ C,Yp X pins C s₃.heap.objs.size→True:=fun _ _=>trivial
 have ok':(Yr X scope xa xb cl s₃.heap.objs.size s₃ H3 fp).Ok:=by
   refine ⟨I3.ok.mod,O.kind,I3.ok.glob,I3.ok.blt,Nat.le_refl _,?_,?_,?_,I3.ok.hd,I3.ok.frames,.inl rfl,?_,I3.bs,Nat.le_trans I3.ok.bsz I3.sz,?_,?_,I3.stack,I3.stkFree⟩
   · exact fun y z c e1 e2=>I3.ok.inj y z c (cl1 y c e1) (cl1 z c e2)
   · intro y hk
     have hf:scope.names.lookup y=some .free:=by
       rcases hk with hk | hk
       · rcases ZB O.cell hk with q | q
         · exact absurd rfl (O.cell _ (mem_of_lookup q))
         · exact q.1
       · rcases ZB O.cell hk with q | q
         · exact q
         · cases q.2
     have:=cl2 _ (mem_of_lookup hf) rfl
     cases e:cl.lookup y with
     | none=>exact absurd e this
     | some c=>exact ⟨c,e⟩
   · intro y c hf;cases hf
   · intro b hb
     obtain ⟨g0,g1,g2,g3,g4,g5⟩:=f3 b hb
     exact ⟨Nat.ne_of_lt (hobj b hb),fun y c e=>g4 y c (cl1 y c e)⟩
   · intro b o e hb
     obtain ⟨g0,g1,g2,g3,g4,g5⟩:=f3 b hb
     rcases g3 with g3 | g3
     · exact I3.ok.noex b o e g3
     · exact absurd (Heap.lt_size e) (Nat.not_lt.mpr (Nat.le_trans I3.ok.bsz g3))
   · intro b hb hs
     obtain ⟨g0,g1,g2,g3,g4,g5⟩:=f3 b hb
     rcases List.mem_cons.mp (I3.stkSub b hs) with e | e
     · exact g1 e
     · exact g2 e
 have I4 : Inv (Yr X scope xa xb cl s₃.heap.objs.size s₃ H3 fp) [] (σ++[none,none]) H3 s₄:=by
   obtain ⟨m,hm,hl⟩:=I3.loc
   refine ⟨ok',by rw [← hs4];rfl,by rw [← hs4];exact I3.bare,by rw [h4];exact Un.kept old,⟨_,by rw [h4];exact hns₁,?_⟩,?_,I3.hok.fresh (Nat.le_refl _),fun y c e=>I3.freeC y c (cl1 y c e),?_,by rw [h4];exact I3.hok.kept old,?_⟩
   · intro i y v e1 e2 e3
     have hlt:i < σ.length:=by
       rcases Nat.lt_or_ge i σ.length with z | z
       · exact z
       · rw [List.getElem?_append_right z] at e2
         have:=List.mem_of_getElem? e2
         simp at this
     rw [List.getElem?_append_left hlt] at e2
     have hsm:∃ k,scope.names.lookup y=some k:=by
       rcases e3 with hk | hk | hk
       · rcases ZB O.cell hk with q | q
         · exact ⟨_,q⟩
         · exact ⟨_,q.1⟩
       · rcases ZB O.cell hk with q | q
         · exact ⟨_,q⟩
         · exact ⟨_,q.1⟩
       · rcases ZB O.cell hk with q | q
         · exact ⟨_,q⟩
         · exact ⟨_,q.1⟩
     obtain ⟨e1',hyx⟩:X.N[i]?=some y∧¬ (y=xa∨y=xb):=by
       have e1:(XW X.N xa xb++[xa,xb])[i]?=some y:=e1
       rw [List.getElem?_append_left (by rw [Vw,← I3.len];exact hlt)] at e1
       rcases ZcP e1 with z | z
       · exact z
       · obtain ⟨k,hk⟩:=hsm
         rw [z,O.noh] at hk;cases hk
     have hy:y∈X.N:=List.mem_of_getElem? e1'
     have hf:scope.names.lookup y=some .free:=by
       rcases e3 with hk | hk | hk
       · rcases ZB O.cell hk with q | q
         · exact absurd q (O.own y hy hyx)
         · exact q.1
       · rcases ZB O.cell hk with q | q
         · exact absurd rfl (O.cell _ (mem_of_lookup q))
         · exact q.1
       · rcases ZB O.cell hk with q | q
         · exact q
         · exact q.1
     have hk:=O.clos _ (mem_of_lookup hf) rfl
     have hv:Vis X.env.scope y:=by rcases hk with z | z;exact .inr (.inl z);exact .inr (.inr z)
     obtain ⟨u,ru,lu⟩:=hl i y v e1' e2 hv
     refine ⟨u,ru,?_⟩
     have hkc:(compEnvC scope cl s₃.heap.objs.size X.env).kindOf y=some .cell∨(compEnvC scope cl s₃.heap.objs.size X.env).kindOf y=some .free:=by
       rcases e3 with q | q | q
       · rcases ZB O.cell q with z | z
         · exact absurd z (O.own y hy hyx)
         · cases z.2
       · exact .inl q
       · exact .inr q
     rcases lu with ⟨q,_⟩ | ⟨_,c,hcl,hcc⟩
     · rcases hk with z | z<;>(rw [q] at z;cases z)
     · refine .inr ⟨hkc,?_⟩
       cases e:cl.lookup y with
       | none=>exact absurd e (cl2 _ (mem_of_lookup hf) rfl)
       | some c' =>
         have:=cl1 y c' e
         rw [hcl] at this
         cases this
         refine ⟨c,e,?_⟩
         rw [h4]
         obtain ⟨oc,ho,hd⟩:=hcc
         exact ⟨oc,old _ _ ho,hd⟩
   · intro y c e
     obtain ⟨v,oc,ho,hd⟩:=I3.cell y c (cl1 y c e)
     exact ⟨v,oc,by rw [h4];exact old _ _ ho,hd⟩
   · intro p hp;cases hp
   · show (σ++[none,none]).length=(XW X.N xa xb++[xa,xb]).length
     rw [List.length_append,List.length_append,Vw,I3.len];rfl
 have st4:tn 0 s₄.heap:=by rw [h4];exact T.keep _ _ _ st3' fun b hb o e=>old b o e
 have fpok:∀ {H':Hp},(∀ b∈fp,H' b=none)→∀ b∈fp,Yp (Yr X scope xa xb cl s₃.heap.objs.size s₃ H3 fp) [] H' b:=fun hn b hb=>by
   obtain ⟨g0,g1,g2,g3,g4,g5⟩:=f3 b hb
   refine ⟨hn b hb,Nat.ne_of_lt (hobj b hb),ok'.exfs b hb,.inl hb,fun y c e=>g4 y c (cl1 y c e),?_⟩
   intro p hp;cases hp
 have loop:codeAny (model X.prog X.w) X.A (.compLoop (.ListComp elt [⟨tg,iter,[],0⟩] scope pos) 0 (.ref it) (.ref D) (compEnvC scope cl s₃.heap.objs.size X.env)) (RR (.ref D) s₃.heap.objs.size) s₄:=by
   refine Xd (fun n s'=>∃ i ys wa wb H',Inv (Yr X scope xa xb cl s₃.heap.objs.size s₃ H3 fp) [] (σ++[wa,wb]) H' s'∧tn i s'.heap∧(∀ b∈fp,H' b=none)∧W i n ys H') ?_ m0 ⟨0,[],none,none,H3,I4,st4,fun b hb=>(f3 b hb).1,w0⟩
   rintro n s5 ⟨i,ys,wa,wb,H5,I5,st5,fr5,w5⟩
   rcases turn i n ys H5 w5 with ⟨stop,q⟩ | ⟨go,N,hN,step⟩
   · refine Zn (T.done (Yr X scope xa xb cl s₃.heap.objs.size s₃ H3 fp) rfl rfl rfl hc i [] s5 _ H5 _ I5 (fpok fr5) st5 stop) fun r s6 ⟨hr,I6⟩=>?_
     subst hr
     obtain ⟨m6,hn6,_⟩:=I6.loc
     have IX:Inv X pins σ H5 s6:=I3.call' (ch:=fp) I6.os I6.base I6.hok I6.bare fun b hb=>by
       obtain ⟨g0,g1,g2,g3,g4,g5⟩:=f3 b hb
       exact ⟨g3,g1,g4,g5⟩
     exact hRR D _ H5 s6 IX (I3.fpOk (Nat.le_refl _) I6.free) ⟨m6,hn6⟩ q
   · refine Zn (T.item (Yr X scope xa xb cl s₃.heap.objs.size s₃ H3 fp) rfl rfl rfl hc i [] s5 _ H5 _ I5 (fpok fr5) st5 go) fun r s6 ⟨u,hr,h6⟩=>?_
     subst hr
     refine Zn h6 fun _ s7 ⟨v,H7,I7,r7,y7,st7,fr7⟩=>?_
     have I7':=I7.pinned (fpok fr7) (T.obj _ _ st7)
     refine Zn (hg cl s₃.heap.objs.size s₃ H3 fp _ s7 _ H7 v u _ I7' r7 (step wa wb v H7 y7)) fun _ s8 ⟨σ8,H8,I8,⟨wa',wb',e8⟩,q8⟩=>?_
     subst e8
     refine Zn (he cl s₃.heap.objs.size s₃ H3 fp _ s8 _ H8 _ I8 q8) fun uy s9 ⟨y,H9,I9,r9,n9⟩=>?_
     obtain ⟨hl9,hz9,m',hm',w9⟩:=hN y H9 n9
     refine Zn (XQ (X:=Yr X scope xa xb cl s₃.heap.objs.size s₃ H3 fp) _ s9 _ H9 (.ref D) [y] (.ref D) [uy] (fun v H'=>H'=upd H9 D (.lst (ys++[y]))) I9 rfl (.cons r9 .nil) ⟨D,ys,y,rfl,rfl,hl9,hz9,rfl⟩) fun _ s10 ⟨_,H10,I10,_,e10⟩=>?_
     subst e10
     refine ⟨m',hm',i+1,ys++[y],wa',wb',_,I10.unpinned (pins:=[]),T.keep _ _ _ st7 fun b hb o e=>(I10.pin (b,o) (List.mem_append_right _ (List.mem_append_right _ (YM hb e)))).1,fun b hb=>?_,w9⟩
     obtain ⟨o,e,d⟩:=T.obj _ _ st7 b hb
     exact (I10.pin (b,o) (List.mem_append_right _ (List.mem_append_right _ (YM hb e)))).2.1
 exact codeAny_compStart_list loop (T.self _ 0 _ _ _ st4 loop)
theorem Zcy (O:CompOkT X scope xa xb)(hc:X.calm=true)(hi:PI X tg iter wi)(hg:∀ cl C s₀ H₀ fp,PG (Yr X scope xa xb cl C s₀ H₀ fp) tg g)(he:∀ cl C s₀ H₀ fp,PE (Yr X scope xa xb cl C s₀ H₀ fp) elt te)
   (hs:∀ v,foldedSetIterable iter X.env v=pure v:=by intro _;rfl):PE X (.ListComp elt [⟨tg,iter,[],0⟩] scope pos) (Zef wi g te):=by
 intro pins s σ H Q I h
 obtain ⟨cl,hcl,cl1,cl2⟩:=Ug (scope:=scope) (env:=X.env) fun y hy hf=>I.ok.has _ (O.clos y hy hf)
 rw [eval_ListComp]
 refine wpAny_comprehension_free (use:=none) rfl hs hcl O.kind O.names (Zn (hi pins s σ H _ I h) fun v s1 h1=>Zn h1 fun itv s2 h2=>?_)
 obtain ⟨it,fp,tn,J,H2,e,I2,T,st2,f2,q⟩:=h2
 subst e
 refine Zaa (RR:=fun acc C=>compPost (model X.prog X.w) X.A X.xe none (EP X pins σ Q) acc C) O hc cl1 cl2 hg he I2 T st2 f2 q ?_
 intro D C H' s' I' ⟨g0,g1,g2,g3,g4,g5⟩ ⟨m,hm⟩ hq
 exact ⟨m,hm,fun h' hs'=>⟨.ref D,H',I'.turned (t':=s'.toks) (fun b o hb e=>(hs'.2 b hb).trans e) g0 g1 g3 g4 g5,rfl,hq⟩⟩
end
end L2
set_option maxHeartbeats 2000000
namespace L2
open PySem PySem.Spec PyProof.Rows
end L2
set_option maxHeartbeats 2000000
namespace L2
open PySem PySem.Spec PyProof.Rows
section
variable {X:Cx}{elt iter tg cnd:Expr}{xa xb:Str}{pos:Pos}{scope:Scope}{wi:TI}{te:TE}{tc:TT}{g:TG}
end
end L2
set_option maxHeartbeats 1000000
namespace L2
open PySem
def Yg:HO→Bool
 | .tup _=>false
 | .frz _ _=>false
 | .own _=>false
 | .met _ _=>false
 | .rng _ _=>false
 | .ext _=>false
 | _=>true
def Wr (H h:Hp):Hp:=fun b=>match h b with
 | some o=>if Yg o=true then none else H b
 | none=>H b
def one (p:Addr)(o:HO):Hp:=fun b=>if b=p then some o else none
theorem one_some {p b:Addr}{o u:HO}:one p o b=some u↔b=p∧o=u:=by
 unfold one
 by_cases h:b=p
 · rw [if_pos h];exact ⟨fun z=>⟨h,Option.some.inj z⟩,fun z=>by rw [z.2]⟩
 · rw [if_neg h];exact ⟨fun z=>(by cases z),fun z=>absurd z.1 h⟩
abbrev Yu:=Addr→Hp→Prop
abbrev Rs:=List (Addr×Yu)
def Sep:Rs→Hp→Prop
 | [],_=>True
 | (a,R)::Δ,H=>∃ h,Same h H∧R a h∧Sep Δ (Wr H h)
theorem cut_some {H h:Hp}{b:Addr}{o:HO}:Wr H h b=some o↔H b=some o∧∀ u,h b=some u→Yg u=false:=by
 unfold Wr
 cases e:h b with
 | none=>exact ⟨fun z=>⟨z,fun u q=>by cases q⟩,fun z=>z.1⟩
 | some v =>
   cases m:Yg v with
   | true=>show (if Yg v=true then none else H b)=some o↔_;rw [if_pos m];exact ⟨fun z=>(by cases z),fun z=>(by have:=z.2 v rfl;rw [m] at this;cases this)⟩
   | false=>show (if Yg v=true then none else H b)=some o↔_;rw [if_neg (by rw [m];decide)];exact ⟨fun z=>⟨z,fun u q=>(by cases q;exact m)⟩,fun z=>z.1⟩
theorem ZbV {H h:Hp}:Same (Wr H h) H:=fun b o e=>(cut_some.mp e).1
theorem Zcq {H H' h:Hp}(s:Same H H'):Same (Wr H h) (Wr H' h):=fun b o e=>let ⟨x,y⟩:=cut_some.mp e;cut_some.mpr ⟨s _ _ x,y⟩
theorem Sep.mono:∀{Δ:Rs}{H H':Hp},Sep Δ H→Same H H'→Sep Δ H'
 | [],_,_,_,_=>trivial
 | (_,_)::_,_,_,⟨h,l,r,S⟩,s=>⟨h,l.trans s,r,S.mono (Zcq s)⟩
theorem Sep.swap {a b:Addr}{R T:Yu}{Δ:Rs}{H:Hp}(S:Sep ((a,R)::(b,T)::Δ) H):Sep ((b,T)::(a,R)::Δ) H:=by
 obtain ⟨h,l,r,g,m,t,S⟩:=S
 refine ⟨g,m.trans ZbV,t,h,fun c o e=>cut_some.mpr ⟨l _ _ e,fun u q=>?_⟩,r,S.mono fun c o e=>?_⟩
 · obtain ⟨q1,q2⟩:=cut_some.mp (m _ _ q)
   have e2:=l _ _ e
   rw [q1] at e2;cases e2
   exact q2 _ e
 · obtain ⟨e1,e2⟩:=cut_some.mp e
   obtain ⟨e3,e4⟩:=cut_some.mp e1
   exact cut_some.mpr ⟨cut_some.mpr ⟨e3,e2⟩,e4⟩
theorem Sep.tail {a:Addr}{R:Yu}{Δ:Rs}{H:Hp}(S:Sep ((a,R)::Δ) H):Sep Δ H:=by
 obtain ⟨h,l,r,S⟩:=S
 exact S.mono ZbV
class Pull (a:Addr) (Δ:Rs) (R:outParam Yu) (Δ':outParam Rs):Prop where
 out:∀ {H},Sep Δ H→Sep ((a,R)::Δ') H
instance (priority:=1000) Pull.here {a:Addr} {R:Yu} {Δ:Rs}:Pull a ((a,R)::Δ) R Δ:=⟨fun S=>S⟩
instance (priority:=900) Pull.there {a b:Addr} {R T:Yu} {Δ Δ':Rs} [P:Pull a Δ R Δ']:Pull a ((b,T)::Δ) R ((b,T)::Δ') :=
 ⟨fun S=>by
   obtain ⟨h,l,r,S⟩:=S
   exact Sep.swap ⟨h,l,r,P.out S⟩⟩
theorem Sep.pull {Δ Δ':Rs}{H:Hp}{R:Yu}(S:Sep Δ H)(a:Addr)[P:Pull a Δ R Δ']:Sep ((a,R)::Δ') H:=P.out S
theorem Sep.drop {Δ Δ':Rs}{H:Hp}{R:Yu}(S:Sep Δ H)(a:Addr)[P:Pull a Δ R Δ']:Sep Δ' H:=(P.out S).tail
class Up (R:Yu):Prop where
 up:∀ {a:Addr} {H H':Hp},R a H→Same H H'→R a H'
theorem Sep.get {Δ Δ':Rs}{H:Hp}{R:Yu}(S:Sep Δ H)(a:Addr)[P:Pull a Δ R Δ'][U:Up R]:R a H:=by
 obtain ⟨h,l,r,_⟩:=P.out S
 exact U.up r l
def Pt (o:HO):Yu:=fun a h=>h a=some o
abbrev YW (xs:List V):Yu:=Pt (.lst xs)
abbrev Tup (xs:List V):Yu:=Pt (.tup xs)
instance {o:HO}:Up (Pt o):=⟨fun h s=>s _ _ h⟩
theorem Sep.new {Δ:Rs}{H:Hp}(S:Sep Δ H){p:Addr}(hp:H p=none)(o:HO):Sep ((p,Pt o)::Δ) (upd H p o):=by
 refine ⟨one p o,fun b u e=>?_,one_some.mpr ⟨rfl,rfl⟩,S.mono fun b u e=>?_⟩
 · obtain ⟨rfl,rfl⟩:=one_some.mp e;exact Zh
 · have hb:=ZL e hp
   exact cut_some.mpr ⟨by rw [ZA hb];exact e,fun v q=>absurd (one_some.mp q).1 hb⟩
theorem Sep.made {Δ:Rs}{H H':Hp}(S:Sep Δ H)(s:Same H H'){p:Addr}{o:HO}(hp:H p=none)(e:H' p=some o):Sep ((p,Pt o)::Δ) H':=by
 refine ⟨one p o,fun b u q=>?_,one_some.mpr ⟨rfl,rfl⟩,S.mono fun b u q=>?_⟩
 · obtain ⟨rfl,rfl⟩:=one_some.mp q;exact e
 · have hb:=ZL q hp
   exact cut_some.mpr ⟨s _ _ q,fun v q=>absurd (one_some.mp q).1 hb⟩
theorem Sep.put {Δ Δ':Rs}{H:Hp}{o:HO}(S:Sep Δ H)(a:Addr)(o':HO)[P:Pull a Δ (Pt o) Δ'](m:Yg o=true:=by rfl):Sep ((a,Pt o')::Δ') (upd H a o'):=by
 obtain ⟨h,l,r,S⟩:=P.out S
 refine ⟨one a o',fun b u q=>?_,one_some.mpr ⟨rfl,rfl⟩,S.mono fun b u q=>?_⟩
 · obtain ⟨rfl,rfl⟩:=one_some.mp q;exact Zh
 · obtain ⟨q1,q2⟩:=cut_some.mp q
   have hb:b≠a:=fun z=>by
     have:=q2 o (by rw [z];exact r)
     rw [m] at this;cases this
   exact cut_some.mpr ⟨by rw [ZA hb];exact q1,fun v q=>absurd (one_some.mp q).1 hb⟩
theorem Sep.say {Δ Δ':Rs}{H:Hp}{R:Yu}(S:Sep Δ H)(a:Addr)(T:Yu)[P:Pull a Δ R Δ'](f:∀ h,R a h→T a h):Sep ((a,T)::Δ') H:=by
 obtain ⟨h,l,r,S⟩:=P.out S
 exact ⟨h,l,f h r,S⟩
theorem Sep.call {Δ:Rs}{H H':Hp}{a:Addr}{R T:Yu}{L:List Addr}(S:Sep ((a,R)::Δ) H)(k:∀ b o,b ∉ L→H b=some o→H' b=some o)
   (f:∀ h,Same h H→R a h→(∀ b∈L,∃ o,h b=some o∧Yg o=true)∧∃ h',Same h' H'∧T a h'∧∀ b o,h' b=some o→Yg o=true→b∈L∨H b=none∨∃ u,h b=some u∧Yg u=true):Sep ((a,T)::Δ) H':=by
 obtain ⟨h,l,r,S⟩:=S
 obtain ⟨f1,h',l',t,f2⟩:=f h l r
 refine ⟨h',l',t,S.mono fun b o e=>?_⟩
 obtain ⟨e1,e2⟩:=cut_some.mp e
 have hb:b ∉ L:=fun z=>by
   obtain ⟨u,q1,q2⟩:=f1 b z
   rw [e2 u q1] at q2;cases q2
 refine cut_some.mpr ⟨k b o hb e1,fun u q=>?_⟩
 cases m:Yg u with
 | false=>rfl
 | true =>
   rcases f2 b u q m with z | z | ⟨v,z1,z2⟩
   · exact absurd z hb
   · rw [e1] at z;cases z
   · rw [e2 v z1] at z2;cases z2
abbrev Bx (n:Nat):Yu:=fun a h=>BoxAt h a n
instance {n:Nat}:Up (Bx n):=⟨fun h s=>h.same s⟩
theorem Sep.box {Δ:Rs}{H H':Hp}{p:Addr}{n m:Nat}(S:Sep ((p,Bx n)::Δ) H)(k:Kp p H H')(B:BoxAt H' p m):Sep ((p,Bx m)::Δ) H':=by
 refine S.call (L:=[p]) (fun b o nb e=>k b o (fun z=>nb (by simp [z])) e) fun h l r=>⟨fun b hb=>?_,?_⟩
 · rw [List.mem_singleton.mp hb]
   obtain ⟨x,y,z,e,_⟩:=r
   exact ⟨_,e,rfl⟩
 · obtain ⟨x,y,z,e,w⟩:=B
   refine ⟨one p (.lst [.int x,.int y,.int z]),fun b u q=>?_,⟨x,y,z,one_some.mpr ⟨rfl,rfl⟩,w⟩,fun b o q _=>.inl (by simp [(one_some.mp q).1])⟩
   obtain ⟨rfl,rfl⟩:=one_some.mp q;exact e
def Uv (M:Int):Sp:=fun vs H Q _=>∃(p:Addr)(n:Nat)(m:Int)(Δ:Rs),vs=[.ref p,.int m]∧Sep ((p,Bx n)::Δ) H∧n≤1000000∧0 < m∧m < M∧∀(r:Int)(H':Hp),0≤r→r < m→Sep ((p,Bx (n+1))::Δ) H'→Q (.int r) H'
theorem ZeD {M:Int}{vs:List V}{H:Hp}{Q:VK}{E:XK}(h:Uv M vs H Q E):Wx M vs H Q E:=by
 obtain ⟨p,n,m,Δ,e,S,h1,h2,h3,q⟩:=h
 exact ⟨p,n,m,e,S.get p,h1,h2,h3,fun r H' a b B k=>q r H' a b (S.box k B)⟩
end L2
namespace L2
open PySem
end L2
namespace L2
open PySem
structure Yj (mg:Str→Option Value):Prop where
 len:mg "len"=none
 abs:mg "abs"=none
 int:mg "int"=none
 range:mg "range"=none
 min:mg "min"=none
 max:mg "max"=none
 repr:mg "repr"=none
 enumerate:mg "enumerate"=none
 ord:mg "ord"=none
 list:mg "list"=none
 tuple:mg "tuple"=none
 dict:mg "dict"=none
 sorted:mg "sorted"=none
 sum:mg "sum"=none
 all:mg "all"=none
 any:mg "any"=none
 divmod:mg "divmod"=none
 str:mg "str"=none
 isinstance:mg "isinstance"=none
 set:mg "set"=none
 zip:mg "zip"=none
 reversed:mg "reversed"=none
 bool:mg "bool"=none
abbrev UX (P:Program)(w:World)(K:PySem.W.Frag)(mg:Str→Option Value)(base:Heap)(k:Nat):Prop:=Def P w K mg base k "_law_take" ["_law_box_here","_law_many"] (Uv 4611686018427387904)
theorem FnOk.conv {P:Program}{w:World}{K:PySem.W.Frag}{mg:Str→Option Value}{base:Heap}{k:Nat}{f:Addr}{fd:FuncData}{ps:List Str}{sp sp':Sp}(F:FnOk P w K mg base Yb k f fd ps sp)(h:∀ vs H Q E,sp' vs H Q E→sp vs H Q E):FnOk P w K mg base Yb k f fd ps sp' :=
 ⟨fun vs H Q E z=>F.len vs H Q E (h vs H Q E z),fun A outer s H args us vs Q E hr he hb hv z=>F.run A outer s H args us vs Q E hr he hb hv (h vs H Q E z)⟩
theorem Def.conv {P:Program}{w:World}{K:PySem.W.Frag}{mg:Str→Option Value}{base:Heap}{k:Nat}{x:Str}{ps:List Str}{sp sp':Sp}(D:Def P w K mg base k x ps sp)(h:∀ vs H Q E,sp' vs H Q E→sp vs H Q E):Def P w K mg base k x ps sp' :=
 let ⟨f,fd,F,b,kp,m⟩:=D;⟨f,fd,F.conv h,b,kp,m⟩
theorem Vr {α:Type}{xs:List α}{r:Int}{v:α}(h0:0≤r)(h:xs[r.toNat]?=some v):Xr xs r=some v:=by
 have z:Xr xs ((r.toNat:Nat):Int)=some v:=ZX h
 rwa [show ((r.toNat:Nat):Int)=r by omega] at z
theorem Yw {n m:Nat}(h:n≤m)(hm:m≤100000:=by decide):n≤sizeLine:=Nat.le_trans (Nat.le_trans h hm) (by decide)
theorem Zcg {n m:Nat}(h:n≤m)(hm:m≤100000:=by decide):n < sizeLine:=Nat.lt_of_le_of_lt (Nat.le_trans h hm) (by decide)
end L2
set_option maxHeartbeats 2000000
namespace L2
open PySem
section
variable {X:Cx}{k:Nat}{C:Addr}{m:Str}{ps:List Str}{sp:Sp}{pos apos:Pos}{o e:Expr}{es:List Expr}{ta:TE}{t:TA}
end
theorem Uy {α:Type}{xs:List α}{r:Int}(h0:0≤r)(h1:r < (xs.length:Int)):∃ v,Xr xs r=some v∧v∈xs:=by
 have hk:r.toNat < xs.length:=by omega
 have z:Xr xs ((r.toNat:Nat):Int)=some xs[r.toNat]:=ZX (List.getElem?_eq_getElem hk)
 have e:((r.toNat:Nat):Int)=r:=by omega
 rw [e] at z
 exact ⟨_,z,List.getElem_mem hk⟩
def WH:V→Prop
 | .int i=>i.natAbs≤10 ^ 31
 | .str x=>x.length≤41∧x.cps.toList.all Yv=true
 | _=>False
def ZaI:V→Bool
 | .int i=>decide (i.natAbs≤10 ^ 31)
 | .str x=>decide (x.length≤41)&&x.cps.toList.all Yv
 | _=>false
theorem VB {v:V}(h:ZaI v=true):WH v:=by
 cases v with
 | int i=>exact of_decide_eq_true (p:=i.natAbs≤10 ^ 31) h
 | str x =>
   have h':(decide (x.length≤41)&&x.cps.toList.all Yv)=true:=h
   simp only [Bool.and_eq_true,decide_eq_true_eq] at h'
   exact h'
 | _=>cases h
def Zat:Sp:=fun vs H Q _=>∃(p:Addr)(n:Nat),vs=[.ref p]∧BoxAt H p n∧n≤900000∧∀(v:V)(H':Hp),WH v→BoxAt H' p (n+50)→Kp p H H'→Q v H'
def Zdl:List Stmt→Str
 | .Assign _ (.Constant (.str x) _ _) _::_=>x
 | _::r=>Zdl r
 | []=>Str.empty
def Vo (N:List Str)(names:List (Str×NameKind))(scope:Scope)(xa xb:Str):Bool :=
 decide ((XW N xa xb++[xa,xb]).Nodup)&&scope.names.all (fun y=>(y.2 != .free || names.lookup y.1 == some .cell || names.lookup y.1 == some .free)&&(y.2 != .cell&&(y.2 != .local || scope.names.lookup y.1 == some .local))) &&
 (scope.kind == .function&&N.all fun y=>(y == xa || y == xb) || scope.names.lookup y != some .local)&&scope.names.lookup ("":Str) == none
theorem CompOkT.of {X:Cx}{scope:Scope}{xa xb:Str}(N:List Str)(st:Stmt)(hN:X.N=N)(hn:X.env.scope=Zo st)(chk:Vo N (Zo st).names scope xa xb=true):CompOkT X scope xa xb:=by
 unfold Vo at chk
 simp only [Bool.and_eq_true,decide_eq_true_eq,List.all_eq_true,Bool.or_eq_true,bne_iff_ne,beq_iff_eq] at chk
 obtain ⟨⟨⟨c1,c2⟩,c3,c5⟩,c6⟩:=chk
 refine ⟨by rw [hN];exact c1,fun y hy hf=>?_,fun y hy=>(c2 y hy).2.1,c3,fun y hy hl=>?_,fun y hy hx=>(c5 y (by rw [← hN];exact hy)).resolve_left hx,c6⟩
 · show X.env.scope.names.lookup y.1=_∨X.env.scope.names.lookup y.1=_
   rw [hn]
   rcases (c2 y hy).1 with (z | z) | z
   · exact absurd hf z
   · exact .inl z
   · exact .inr z
 · rcases (c2 y hy).2.2 with z | z
   · exact absurd hl z
   · exact z
theorem ZdT {X:Cx}{K:PySem.W.Frag}(hK:X.K=K)(hc:X.calm=true){xa xb:Str}{pa pb tp:Pos}{j:Nat}{ga gb:TG}(ha:PG X (.Name xa pa) ga)(hb:PG X (.Name xb pb) gb):PG X (.Tuple [.Name xa pa,.Name xb pb] j tp) (gTup K 2 (Zbp ga (Zbp gb gNil))):=by
 subst hK
 exact Vn hc (Xg ha (Xg hb UJ))
end L2
set_option maxHeartbeats 2000000
namespace L2
open PySem PySem.Spec PyProof.Rows
section
variable {X:Cx}
end
section
variable {X:Cx}{k:Nat}{C:Addr}{x m:Str}{ps:List Str}{sp:Sp}{p pos apos:Pos}{o:Expr}{ta:TE}
end
end L2
set_option maxHeartbeats 2000000
namespace L2
open PySem PySem.Spec PyProof.Rows
section
variable {X:Cx}
end
end L2
set_option maxHeartbeats 2000000
namespace L2
open PySem PySem.Spec PyProof.Rows
def Zfp (i j k:Nat)(ta:TA):TS:=fun D σ H=>ta σ H fun vs H1=>∃ u v w,vs=[u,v,w]∧D.nx (((σ.set i (some u)).set j (some v)).set k (some w)) H1
theorem ZdM {X:Cx}{pos:Pos}{i j k:Nat}{x y z:Str}{a b c:Expr}{ta:TA}{px py pz pt:Pos}{kt k2 pt2}(hc:X.calm=true)(hN:X.N.Nodup)(hi:X.N[i]?=some x)(hj:X.N[j]?=some y)(hk:X.N[k]?=some z)(hij:i≠j)(hik:i≠k)(hjk:j≠k)
   (hx:X.env.scope.names.lookup x=some .local) (hy:X.env.scope.names.lookup y=some .local) (hz:X.env.scope.names.lookup z=some .local) (ha:PA X [a,b,c] ta)
   (hw:swappedStores [.Tuple [.Name x px,.Name y py,.Name z pz] kt pt] (.Tuple [a,b,c] k2 pt2) X.env=pure (some [x,y,z]))
   (hs:swapsWithSole [.Tuple [.Name x px,.Name y py,.Name z pz] kt pt] (.Tuple [a,b,c] k2 pt2) pos.line X.env=pure false:=by rfl) :
   PS X (.Assign [.Tuple [.Name x px,.Name y py,.Name z pz] kt pt] (.Tuple [a,b,c] k2 pt2) pos) (Zfp i j k ta):=by
 intro pins s σ H D I h
 rw [exec_Assign_arm]
 refine wpAny_bind (wpAny_standAt ?_)
 rw [hs]
 refine wpAny_bind (wpAny_pure ?_)
 rw [if_neg (by decide)]
 refine wpAny_bind (Tuple_ (Zn (ha _ pins s σ H _ I h) fun us s1 ⟨vs,H1,I1,r1,q1⟩=>?_))
 obtain ⟨v1,v2,v3,e1,q1⟩:=q1
 subst e1
 obtain ⟨u1,u2,u3,rfl,rv1,rv2,rv3⟩:∃ u1 u2 u3,us=[u1,u2,u3]∧RelV v1 u1∧RelV v2 u2∧RelV v3 u3:=by
   cases r1 with
   | cons p q =>
     cases q with
     | cons p' q' =>
       cases q' with
       | cons p'' q'' =>
         cases q''
         exact ⟨_,_,_,rfl,p,p',p''⟩
 refine wpAny_newObj_type ?_ (by show 3≤sizeLine;decide)
 have I2:Inv X pins σ H1 { s1 with heap:=s1.heap.push { cls:=.type "tuple",data:=.seq [u1,u2,u3].toArray } }:=I1.kept (t':=s1.toks) fun b o e=>Heap.get?_push_of_some _ e
 rw [hw]
 refine wpAny_bind (wpAny_pure ?_)
 show wpAny (model X.prog X.w) X.A (do rule "assign.swapped-stores";let items ← unpackItems (.ref s1.heap.objs.size) 3 none;assignInOrder [fun v=>bindName X.env z v,fun v=>bindName X.env y v,fun v=>bindName X.env x v] items.reverse;pure Flow.next) _ _ _
 refine wpAny_bind (wpAny_rule (wpAny_bind (unpackItems_tuple (items:=#[u1,u2,u3]) (I.ok.hd hc) (IsTup.new s1.heap _) fun h' hx'=>?_)))
 have I3:=I2.kept (h':=h') (t':=s1.toks) fun b o e=>hx' b o (Nat.ne_of_lt (Heap.lt_size e)) e
 show wpAny _ _ (assignInOrder [fun v=>bindName X.env z v,fun v=>bindName X.env y v,fun v=>bindName X.env x v] [u3,u2,u1] >>= fun _=>pure Flow.next) _ _ _
 refine wpAny_bind (assignInOrder_cons (wpAny_bindName (YU I3 hN hk (.inl hz) rv3 (fun s2 I4=>?_) (.inr hz))))
 refine assignInOrder_cons (wpAny_bindName (YU I4 hN hj (.inl hy) rv2 (fun s3 I5=>?_) (.inr hy)))
 refine assignInOrder_cons (wpAny_bindName (YU I5 hN hi (.inl hx) rv1 (fun s4 I6=>assignInOrder_nil (wpAny_pure ?_)) (.inr hx)))
 rw [List.set_comm _ _ (Ne.symm hjk),List.set_comm _ _ (Ne.symm hik),List.set_comm _ _ (Ne.symm hij)] at I6
 exact ⟨_,H1,I6,q1⟩
end L2
set_option maxHeartbeats 2000000
namespace L2
open PySem PySem.Spec PyProof.Rows
section
variable {X:Cx}
end
end L2
set_option maxHeartbeats 2000000
namespace L2
open PySem
theorem Sep.newE {Δ:Rs}{H H2:Hp}{o:HO}(S:Sep Δ H){p:Addr}(hp:H p=none)(e:upd H p o=H2):Sep ((p,Pt o)::Δ) H2:=e ▸ S.new hp o
theorem VZ {lo:Int}{n:Nat}{te:TE}{σ:St}{D:Addr}{Q:VK}{H:Hp}{Δ:Rs}(hn:n≤sizeLine)(S:Sep Δ H)(hD:H D=none)(J:Nat→List V→Rs→Prop)(h0:J 0 [] Δ)
   (hs:∀ i ys Δ H,i < n→ys.length=i→J i ys Δ→Sep ((D,YW ys)::Δ) H→te (σ++[some (.int (lo+i))]) H fun y H4=>∃ Δ',J (i+1) (ys++[y]) Δ'∧Sep ((D,YW ys)::Δ') H4)
   (hd:∀ ys Δ H,J n ys Δ→ys.length=n→Sep ((D,YW ys)::Δ) H→Q (.ref D) H):Xu (Ud lo n) te σ D Q H:=by
 refine ⟨fun i m ys H=>m=n - i∧i≤n∧ys.length=i∧∃ Δ,J i ys Δ∧Sep ((D,YW ys)::Δ) H,⟨n,by simp,Nat.zero_le _,rfl,Δ,h0,S.new hD _⟩,?_⟩
 rintro i m ys H2 ⟨rfl,hi,hl,Δ,j,S⟩
 by_cases hlt:i < n
 · refine .inr ⟨hlt,_,fun y H4 (q:∃ Δ',J (i+1) (ys++[y]) Δ'∧Sep ((D,YW ys)::Δ') H4)=>?_,fun v H3 y=>?_⟩
   · obtain ⟨Δ',j',S'⟩:=q
     exact ⟨S'.get D,by omega,n - (i+1),by omega,rfl,hlt,by simp [hl],Δ',j',S'.put D _⟩
   · obtain ⟨e1,e2⟩:=y
     subst e1 e2
     exact hs i ys Δ _ hlt hl j S
 · have e:i=n:=by omega
   exact .inl ⟨by show n≤i;omega,hd ys Δ H2 (e ▸ j) (by omega) S⟩
end L2
set_option maxHeartbeats 2000000
namespace L2
open PySem PySem.W PySem.Spec PyProof.Rows
section
variable {prog:Program}{w:World}{A:Around}{E:Value→Shared→Prop}{s:Shared}{a:Addr}{as:List Addr}{ks:List Str}{P:PySem.Fin→Shared→Prop}
end
section
variable {X:Cx}
end
end L2
set_option maxHeartbeats 2000000
namespace L2
open PySem
def YD (x:Str):Prop:=1≤x.length∧x.length≤8∧x.cps.toList.all Yf=true
theorem Xf (c:Nat):(⟨#[c]⟩:Str).length=1:=rfl
theorem VS {P:Nat→Bool}:∀{l:List Str},(∀ z∈l,∃ c,z=⟨#[c]⟩∧P c=true)→(l.map (·.length)).sum=l.length∧(l.flatMap (·.cps.toList)).length=l.length∧(l.flatMap (·.cps.toList)).all P=true
 | [],_=>⟨rfl,rfl,rfl⟩
 | z :: r,h=>by
   obtain ⟨c,rfl,hc⟩:=h z List.mem_cons_self
   obtain ⟨g1,g2,g3⟩:=VS (l:=r) fun y hy=>h y (List.mem_cons_of_mem _ hy)
   refine ⟨?_,?_,?_⟩
   · rw [List.map_cons,List.sum_cons,g1,List.length_cons];show 1+_=_;omega
   · have e0:((⟨#[c]⟩:Str)::r).flatMap (·.cps.toList)=c::r.flatMap (·.cps.toList):=rfl
     rw [e0,List.length_cons,List.length_cons,g2]
   · rw [List.flatMap_cons,List.all_append,g3];simp [hc]
theorem Zcd {P:Nat→Bool}{zs:List Str}(h:∀ z∈zs,∃ c,z=⟨#[c]⟩∧P c=true):(zs.map (·.length)).sum+zs.length * (Str.ofString "").length≤2 * zs.length∧(Txt.join (Str.ofString "") zs).length=zs.length∧(Txt.join (Str.ofString "") zs).cps.toList.all P=true:=by
 obtain ⟨g1,g2,g3⟩:=VS h
 refine ⟨?_,?_,?_⟩
 · rw [g1];show _+_ * 0≤_;omega
 · rw [Yl,Xt,g2]
 · rw [Xt];exact g3
theorem WV {P:Nat→Bool}{x y:Str}(h1:x.cps.toList.all P=true)(h2:y.cps.toList.all P=true):(x++y).cps.toList.all P=true:=by
 rw [UZ,List.all_append,h1,h2];rfl
theorem VI {P:Nat→Bool}{c:Nat}(h:P c=true):(⟨#[c]⟩:Str).cps.toList.all P=true:=by
 show [c].all P=true;simp [h]
theorem Ub {P:Nat→Bool}{x:Str}{lo hi:Option Int}(h:x.cps.toList.all P=true):(Txt.slice x lo hi).cps.toList.all P=true:=by
 rw [Wa]
 rw [List.all_eq_true] at h ⊢
 exact fun c hc=>h c (List.mem_of_mem_drop (List.mem_of_mem_take hc))
theorem Zch {x:Str}{k:Int}(h0:0≤k)(h1:k≤x.length):(Txt.slice x none (some k)).length+(Txt.slice x (some k) none).length=x.length:=by
 have hn:¬ k < 0:=by omega
 rw [Yl,Yl,Wa,Wa,Yl]
 rw [Yl] at h1
 have e1:HT.sIx x.cps.toList.length 0 none=0:=rfl
 have e2:HT.sIx x.cps.toList.length x.cps.toList.length none=x.cps.toList.length:=rfl
 have e3:∀ d,HT.sIx x.cps.toList.length d (some k)=k.toNat:=fun d=>by
   unfold HT.sIx
   simp only [hn,if_false]
   omega
 rw [e1,e2,e3,e3,List.length_take,List.length_take,List.length_drop,List.length_drop]
 omega
theorem UN {x:Str}{P:Nat→Bool}(ha:x.cps.toList.all P=true){r:Int}(h0:0≤r)(h1:r < x.length):∃ c,Xr x.cps.toList r=some c∧P c=true:=by
 have hl:r.toNat < x.cps.toList.length:=by rw [← Yl];omega
 exact ⟨_,Vr h0 (List.getElem?_eq_getElem hl),List.all_eq_true.mp ha _ (List.getElem_mem hl)⟩
def a26:Str:="abcdefghijklmnopqrstuvwxyz"
theorem YX:a26.length=26:=by decide +kernel
theorem UL:a26.cps.toList.all Yf=true:=by decide +kernel
theorem XG {α:Type}{f:α→V}{xs:List α}{r:Int}(h0:0≤r)(h1:r < (xs.length:Int)):∃ x∈xs,Xr (xs.map f) r=some (f x):=by
 have hl:r.toNat < xs.length:=by omega
 exact ⟨_,List.getElem_mem hl,Vr h0 (by rw [List.getElem?_map,List.getElem?_eq_getElem hl];rfl)⟩
theorem WI {xs:List V}{r:Int}(h0:0≤r)(h1:r < (xs.length:Int)):∃ x∈xs,Xr xs r=some x:=by
 have hl:r.toNat < xs.length:=by omega
 exact ⟨_,List.getElem_mem hl,Vr h0 (List.getElem?_eq_getElem hl)⟩
theorem Sep.le {Δ:Rs}{H:Hp}{p:Addr}{n m:Nat}(S:Sep ((p,Bx n)::Δ) H)(h:n≤m):Sep ((p,Bx m)::Δ) H:=by
 obtain ⟨g,l,r,S⟩:=S
 exact ⟨g,l,BoxAt.le r h,S⟩
def Wn:Sp:=fun vs H Q _=>∃(p:Addr)(n:Nat)(Δ:Rs),vs=[.ref p]∧Sep ((p,Bx n)::Δ) H∧n≤900000∧∀(v:V)(H':Hp),WH v→Sep ((p,Bx (n+50))::Δ) H'→Q v H'
theorem ZdJ {vs:List V}{H:Hp}{Q:VK}{E:XK}(h:Wn vs H Q E):Zat vs H Q E:=by
 obtain ⟨p,n,Δ,e,S,h1,q⟩:=h
 exact ⟨p,n,e,S.get p,h1,fun v H' hv B k=>q v H' hv (S.box k B)⟩
def VQ (K:PySem.W.Frag):Sp:=fun vs H Q _=>∃(a:Addr)(ns:List Int)(k:Int)(Δ:Rs),vs=[.ref a,.int k]∧SqL K H a (ns.map V.int)∧Sep Δ H∧0≤k∧k≤1000∧∀(p:Addr)(H':Hp),Same H H'→Sep ((p,Bx 0)::Δ) H'→Q (.ref p) H'
theorem ZeX {K:PySem.W.Frag}{vs:List V}{H:Hp}{Q:VK}{E:XK}(h:VQ K vs H Q E):Zdn K vs H Q E:=by
 obtain ⟨a,ns,k,Δ,e,hS,S,h1,h2,q⟩:=h
 refine ⟨a,ns,k,e,hS,h1,h2,fun p H' hp B s=>q p H' s ?_⟩
 obtain ⟨x,y,z,eb,w⟩:=B
 exact (S.made s hp eb).say p (Bx 0) fun h r=>⟨x,y,z,r,w⟩
def VM:Sp:=fun vs H Q _=>∃(p:Addr)(n:Nat)(many:Int)(Δ:Rs),vs=[.ref p,.int many]∧Sep ((p,Bx n)::Δ) H∧n≤900000∧0≤many∧many≤100 ∧
 ∀ (l:Addr) (H':Hp) (xs:List Str),Sep ((l,YW (xs.map V.str))::(p,Bx (n+20))::Δ) H'→xs.length=many.toNat→(∀ x∈xs,YD x∧2≤x.length)→Q (.ref l) H'
theorem VO {xs:List V}{i:Nat}:XX xs (some (i:Int)) none=xs.drop i:=by
 unfold XX
 rw [HT.sIx_none,HT.sIx_nat]
 by_cases h:i≤xs.length
 · rw [Nat.min_eq_left h,List.take_of_length_le (by rw [List.length_drop];omega)]
 · rw [Nat.min_eq_right (by omega),Nat.sub_self,List.take_zero,List.drop_eq_nil_of_le (by omega)]
theorem Zdt {x:Str}{ys:List Str}:We (.str x) (ys.map V.str)=decide (x∈ys):=by
 unfold We
 induction ys with
 | nil=>rfl
 | cons y ys ih =>
   rw [List.map_cons,List.any_cons,ih]
   show ((y == x) || decide (x∈ys))=decide (x∈y::ys)
   by_cases h:y=x
   · subst h;simp
   · rw [show (y == x)=false from beq_eq_false_iff_ne.mpr h,Bool.false_or]
     congr 1
     simp [List.mem_cons,Ne.symm h]
class IsLst (R:Yu) (k:Nat):Prop where
 lst:∀ {a h},R a h→∃ xs,h a=some (.lst xs)∧xs.length=k
end L2
set_option maxHeartbeats 2000000
namespace L2
open PySem
def WC:V→PyData
 | .int i=>.int i
 | .str x=>.str x
 | _=>.none
end L2
set_option maxHeartbeats 2000000
namespace L2
open PySem
def YO (H:Hp)(L:List Addr):Hp:=fun b=>if b∈L then H b else match H b with
 | some o=>if Yg o=true then none else some o
 | none=>none
theorem Zai {H:Hp}{L:List Addr}:Same (YO H L) H:=fun b o e=>by
 unfold YO at e
 split at e
 · exact e
 · split at e
   · rename_i o' h'
     split at e
     · cases e
     · cases e;exact h'
   · cases e
theorem Zay {H:Hp}{L:List Addr}{b:Addr}{o:HO}(e:H b=some o)(m:Yg o=false):YO H L b=some o:=by
 unfold YO
 split
 · exact e
 · simp only [e,m,Bool.false_eq_true,if_false]
theorem VL {H:Hp}{L:List Addr}{b:Addr}{o:HO}(e:YO H L b=some o)(m:Yg o=true):b∈L:=by
 unfold YO at e
 split at e
 · assumption
 · split at e
   · split at e
     · cases e
     · rename_i h;cases e;exact absurd m h
   · cases e
end L2
set_option maxHeartbeats 2000000
namespace L2
open PySem
theorem Sep.updR {Δ Δ':Rs}{H:Hp}{R T:Yu}(S:Sep Δ H)(a:Addr)(o':HO)[P:Pull a Δ R Δ'](m:∀ h,R a h→∃ o,h a=some o∧Yg o=true)
   (f:∀ h,R a h→Same h H→∀ h',h' a=some o'→(∀ b o,b≠a→h b=some o→h' b=some o)→(∀ b o,b≠a→H b=some o→Yg o=false→h' b=some o)→T a h'):Sep ((a,T)::Δ') (upd H a o'):=by
 obtain ⟨h,l,r,S⟩:=P.out S
 obtain ⟨o,ea,ma⟩:=m h r
 refine ⟨fun b=>if b=a then some o' else match h b with | some u=>some u | none=>YO H [] b,fun b u e=>?_,f h r l _ (if_pos rfl) (fun b u nb e=>?_) (fun b u nb e mu=>?_),S.mono fun b u e=>?_⟩
 · dsimp only at e
   by_cases hb:b=a
   · rw [if_pos hb] at e;cases e;rw [hb];exact Zh
   · rw [if_neg hb] at e
     rw [ZA hb]
     cases q:h b with
     | some z=>rw [q] at e;cases e;exact l _ _ q
     | none=>rw [q] at e;exact Zai _ _ e
 · rw [if_neg nb,e]
 · rw [if_neg nb]
   cases q:h b with
   | some z=>have:=l _ _ q;rw [e] at this;cases this;rfl
   | none=>exact Zay e mu
 · obtain ⟨e1,e2⟩:=cut_some.mp e
   have hb:b≠a:=fun z=>by have:=e2 o (by rw [z];exact ea);rw [ma] at this;cases this
   refine cut_some.mpr ⟨by rw [ZA hb];exact e1,fun v q=>?_⟩
   simp only [if_neg hb] at q
   cases z:h b with
   | some x=>rw [z] at q;cases q;exact e2 _ z
   | none =>
     rw [z] at q
     cases mm:Yg v with
     | false=>rfl
     | true=>have:=VL q mm;cases this
end L2
set_option maxHeartbeats 2000000
namespace L2
open PySem
theorem Sep.im {Δ:Rs}{H:Hp}{a:Addr}{R T:Yu}[U:Up R](S:Sep ((a,R)::Δ) H)(f:∀ h,R a h→Same h H→(∀ b o,H b=some o→Yg o=false→h b=some o)→T a h):Sep ((a,T)::Δ) H:=by
 obtain ⟨h,l,r,S⟩:=S
 have s1:Same h fun b=>match h b with | some o=>some o | none=>YO H [] b:=fun b o e=>by simp only [e]
 have le:Same (fun b=>match h b with | some o=>some o | none=>YO H [] b) H:=fun b o e=>by
   dsimp only at e
   cases q:h b with
   | some z=>rw [q] at e;cases e;exact l _ _ q
   | none=>rw [q] at e;exact Zai _ _ e
 refine ⟨_,le,f _ (U.up r s1) le fun b o e m=>?_,S.mono fun b o e=>?_⟩
 · cases q:h b with
   | some z=>have:=l _ _ q;rw [e] at this;cases this;rfl
   | none=>exact Zay e m
 · obtain ⟨e1,e2⟩:=cut_some.mp e
   refine cut_some.mpr ⟨e1,fun u q=>?_⟩
   try dsimp only at q
   cases z:h b with
   | some x=>rw [z] at q;cases q;exact e2 _ z
   | none =>
     rw [z] at q
     cases mm:Yg u with
     | false=>rfl
     | true=>have:=VL q mm;cases this
end L2
set_option maxHeartbeats 2000000
namespace L2
open PySem
end L2
set_option maxHeartbeats 2000000
namespace L2
open PySem PySem.Spec PyProof.Rows
def Itz (K:PySem.W.Frag)(l1 l2:Addr):It :=
 ⟨fun i H=>∃ xs ys x y,SqL K H l1 xs∧SqL K H l2 ys∧xs[i]?=some x∧ys[i]?=some y,
  fun i H v H'=>∃ t x y,H t=none∧(∀ xs,SqL K H l1 xs→xs[i]?=some x)∧(∀ ys,SqL K H l2 ys→ys[i]?=some y)∧v=.ref t∧H'=upd H t (.tup [x,y]),
  fun i H=>∃ xs ys,SqL K H l1 xs∧SqL K H l2 ys∧(xs.length≤i∨ys.length≤i)⟩
theorem Zcp {P:Program}{w:World}{K:PySem.W.Frag}{elts:List Expr}{x1:Nat}{tp:Pos}{z TI TO i1 i2 l1 l2:Addr}(D:ZipApart z TI TO i1 i2 l1 l2)(hTl1:l1≠TI)(hTl2:l2≠TI) :
   XT P w K (.Tuple elts x1 tp) (Itz K l1 l2) [z,TI,TO,i1,i2] z (fun i h=>IsZip h z TI TO .none∧IsPair h TI (.ref i1) (.ref i2)∧(∃ a b,IsPair h TO a b)∧h.IsListIter i1 l1 i∧h.IsListIter i2 l2 i) where
 mem:=by simp
 obj:=fun i h st b hb=>by
   obtain ⟨hz,hTI,⟨a,c,hTO⟩,⟨o1,ho1,c1,d1⟩,⟨o2,ho2,c2,d2⟩⟩:=st
   simp only [List.mem_cons,List.not_mem_nil,or_false] at hb
   rcases hb with q | q | q | q | q
   · rw [q];exact ⟨_,hz,fun v z=>by cases z⟩
   · rw [q];exact ⟨_,hTI,fun v z=>by cases z⟩
   · rw [q];exact ⟨_,hTO,fun v z=>by cases z⟩
   · rw [q];exact ⟨o1,ho1,fun v z=>by rw [d1] at z;cases z⟩
   · rw [q];exact ⟨o2,ho2,fun v z=>by rw [d2] at z;cases z⟩
 keep:=fun i h h' st k=>by
   obtain ⟨hz,hTI,⟨a,c,hTO⟩,h1,h2⟩:=st
   exact ⟨k z (by simp) _ hz,k TI (by simp) _ hTI,⟨a,c,k TO (by simp) _ hTO⟩,h1.at fun o y=>k i1 (by simp) o y,h2.at fun o y=>k i2 (by simp) o y⟩
 item:=by
   intro X hP hw hK hc i pins s σ H E I hf st hg
   subst hP hw hK
   obtain ⟨hz,hTI,⟨a,b,hTO⟩,h1,h2⟩:=st
   obtain ⟨xs,ys,x,y,hq1,hq2,hx,hy⟩:=hg
   obtain ⟨its1,rv1,p1,hz1⟩:=I.list hq1
   obtain ⟨its2,rv2,p2,hz2⟩:=I.list hq2
   obtain ⟨u1,hu1,ru1⟩:=rv1.get hx
   obtain ⟨u2,hu2,ru2⟩:=rv2.get hy
   refine wpAny_pyNext_zip_item D hz hTI hTO h1 h2 p1.isList p2.isList (by simpa using hu1) (by simpa using hu2) fun h' g1 g2 g3 g4 g5 g6 g7=>?_
   refine ⟨_,rfl,wpAny_letOwnedTupleGo_zip g1 fun h2' g1' hs2=>?_⟩
   have hzl:z < s.heap.objs.size:=Heap.lt_size hz
   have hTIl:TI < s.heap.objs.size:=Heap.lt_size hTI
   have hTOl:TO < s.heap.objs.size:=Heap.lt_size hTO
   have hi1l:i1 < s.heap.objs.size:=by obtain ⟨o,ho,_⟩:=h1;exact Heap.lt_size ho
   have hi2l:i2 < s.heap.objs.size:=by obtain ⟨o,ho,_⟩:=h2;exact Heap.lt_size ho
   have g5':h'.get? s.heap.objs.size=some ({ cls:=.type "tuple",data:=.seq #[u1,u2] }:Obj):=g5
   generalize hO:({ cls:=.type "tuple",data:=.seq #[u1,u2] }:Obj)=O at g5'
   have I1:Inv X pins σ (upd H s.heap.objs.size (.tup [x,y])) { s with heap:=s.heap.push O,toks:=s.toks }:=by
     refine I.laid (t':=s.toks) (fun b o y=>Heap.get?_push_of_some _ y) (Nat.le_refl _) (show ObjOk X.prog X.w _ _ _ (.tup _) from ⟨by show 2≤sizeLine;decide,[u1,u2],.cons ru1 (.cons ru2 .nil),?_⟩)
     rw [← hO];exact IsTup.new _ _
   have hfree:=I.hok.fresh (Nat.le_refl s.heap.objs.size)
   have hf2:∀ b∈[z,TI,TO,i1,i2],Yp X pins (upd H s.heap.objs.size (.tup [x,y])) b:=fun b hb=>by
     obtain ⟨f0,f1⟩:=hf b hb
     have hb':b≠s.heap.objs.size:=by
       simp only [List.mem_cons,List.not_mem_nil,or_false] at hb
       rcases hb with q | q | q | q | q<;>(rw [q];exact Nat.ne_of_lt (by assumption))
     exact ⟨by rw [ZA hb'];exact f0,f1⟩
   have I2:Inv X pins σ (upd H s.heap.objs.size (.tup [x,y])) { s with heap:=h2',toks:=s.toks }:=by
     refine I1.turned2 (t':=s.toks) (h':=h2') (fun b o hb y=>?_) hf2
     have n1:b≠z:=fun q=>hb (by simp [q])
     have n2:b≠TO:=fun q=>hb (by simp [q])
     have n3:b≠i1:=fun q=>hb (by simp [q])
     have n4:b≠i2:=fun q=>hb (by simp [q])
     rw [hs2.2 b n1]
     rcases Heap.get?_push_cases y with ⟨q1,q2⟩ | y
     · rw [q1,q2];exact g5'
     · exact g7 b o n1 n2 n3 n4 y
   refine ⟨.ref s.heap.objs.size,_,I2,rfl,⟨s.heap.objs.size,x,y,hfree,fun ys hy'=>by rw [I.list_inj hy' hq1];exact hx,fun ys' hy'=>by rw [I.list_inj hy' hq2];exact hy,rfl,rfl⟩,⟨g1',?_,⟨u1,u2,?_⟩,?_,?_⟩,fun b hb=>(hf2 b hb).1⟩
   · show h2'.get? TI=_
     rw [hs2.2 TI D.TIz];exact g7 TI _ D.TIz D.TITO D.TIi1 D.TIi2 hTI
   · show h2'.get? TO=_
     rw [hs2.2 TO D.TOz];exact g2
   · exact g3.at fun o y=>by rw [hs2.2 i1 D.i1z];exact y
   · exact g4.at fun o y=>by rw [hs2.2 i2 D.i2z];exact y
 done:=by
   intro X hP hw hK hc i pins s σ H E I hf st hg
   subst hP hw hK
   obtain ⟨hz,hTI,⟨a,b,hTO⟩,h1,h2⟩:=st
   obtain ⟨xs,ys,hq1,hq2,hle⟩:=hg
   obtain ⟨its1,rv1,p1,hz1⟩:=I.list hq1
   obtain ⟨its2,rv2,p2,hz2⟩:=I.list hq2
   have l1:=rv1.length
   have l2:=rv2.length
   refine wpAny_pyNext_zip_end (I.ok.hd hc) D hz hTI hTO h1 h2 p1.isList p2.isList ?_ fun h' eb=>⟨rfl,I.turned2 (t':=s.toks) (fp:=[z,TI,TO,i1,i2]) (fun b o hb y=>eb b o (fun q=>hb (by simp [q])) (fun q=>hb (by simp [q])) (fun q=>hb (by simp [q])) (fun q=>hb (by simp [q])) y) hf⟩
   rcases hle with q | q
   · exact .inl (Array.getElem?_eq_none (by simp;omega))
   · exact .inr (Array.getElem?_eq_none (by simp;omega))
 self:=fun _ _ _ _ _ st h=>wpAny_pyIter_zip st.1 h
def iZip (K:PySem.W.Frag)(ta tb:TE):TI:=fun σ H R=>ta σ H fun v H1=>tb σ H1 fun u H2=>∃ a b xs ys,[v,u]=[V.ref a,V.ref b]∧H2 a=some (.lst xs)∧H2 b=some (.lst ys)∧R (Itz K a b) H2
section
variable {X:Cx}
theorem Vp:bootBuiltins "zip"=some (.type "zip"):=by decide +kernel
theorem Zec {l m:Expr}{ta tb:TE}{elts:List Expr}{x1:Nat}{tp p pos:Pos}(hg:Gl X "zip")(hm:X.mg "zip"=none)(hl:PE X l ta)(hr:PE X m tb)
   (he:starEach [l,m] X.env=(false,eval l X.env)::starEach [m] X.env:=by rfl) (he2:starEach [m] X.env=[(false,eval m X.env)]:=by rfl) (hpl:(backTo pos (starEach [m] X.env)).any (·.1)=false:=by rfl):PI X (.Tuple elts x1 tp) (.Call (.Name "zip" p) [l,m] [] pos) (iZip X.K ta tb):=by
 intro pins s σ H R I h
 have ha:PA X [l,m] (Xl ta (Xl tb Uw)):=ZT hl (ZT hr Za he2) he
 refine wpAny_Call_Name_kw (Wd I hg hm Vp ?_)
 refine PyProof.Rows.callWith_type1 (Zn (ha pos pins s σ H (fun vs H2=>∃ a b xs ys,vs=[V.ref a,V.ref b]∧H2 a=some (.lst xs)∧H2 b=some (.lst ys)∧R (Itz X.K a b) H2) I h) fun us s1 ⟨vs,H1,I1,r1,a,b,xs,ys,e,ea,eb,q⟩=>?_) he hpl
 subst e
 obtain ⟨u1,u2,rfl,r2,r3⟩:∃ u1 u2,us=[u1,u2]∧RelV (V.ref a) u1∧RelV (V.ref b) u2:=by
   cases r1 with
   | cons p t=>cases t with
     | cons p2 t2=>cases t2;exact ⟨_,_,rfl,p,p2⟩
 cases r2
 cases r3
 obtain ⟨z1,its1,n1,rv1,hl1,eo1⟩:=I1.lstM ea
 obtain ⟨z2,its2,n2,rv2,hl2,eo2⟩:=I1.lstM eb
 have ha1:a < s1.heap.objs.size:=Heap.lt_size eo1
 have hb1:b < s1.heap.objs.size:=Heap.lt_size eo2
 refine call_zip_2 ⟨_,eo1,rfl,n1,rfl⟩ ⟨_,eo2,rfl,n2,rfl⟩ fun h' g1 g2 g3 g4 g5 g6 g7=>wpAny_pyIter_zip g1 ?_
 refine ⟨s1.heap.objs.size+4,[s1.heap.objs.size+4,s1.heap.objs.size+2,s1.heap.objs.size+3,s1.heap.objs.size,s1.heap.objs.size+1],_,_,H1,rfl,I1.kept (t':=s1.toks) g7,Zcp (l1:=a) (l2:=b) ⟨?_,?_,?_,?_,?_,?_,?_,?_,?_,?_,?_,?_,?_,?_,?_,?_,?_,?_⟩ ?_ ?_,⟨g1,g2,⟨_,_,g3⟩,g4,g5⟩,fun c hc=>?_,q⟩
 rotate_right
 · simp only [List.mem_cons,List.not_mem_nil,or_false] at hc
   have up:∀ k,Yp X pins H1 (s1.heap.objs.size+k):=fun k=>I1.fpOk (Nat.le_add_right _ k) (I1.hok.fresh (Nat.le_add_right _ k))
   rcases hc with q | q | q | q | q
   · rw [q];exact up 4
   · rw [q];exact up 2
   · rw [q];exact up 3
   · rw [q];exact up 0
   · rw [q];exact up 1
 all_goals
   first
     | exact Nat.ne_of_lt (by first | (apply Nat.lt_of_lt_of_le (by assumption);omega) | (simp only [Nat.add_lt_add_iff_left];decide) | (show _ < _+_;exact Nat.lt_add_of_pos_right (by decide)))
     | exact Nat.ne_of_gt (by first | (simp only [Nat.add_lt_add_iff_left];decide) | exact Nat.lt_add_of_pos_right (by decide))
end
end L2
set_option maxHeartbeats 2000000
namespace L2
open PySem PySem.Spec PyProof.Rows
mutual
inductive DatT (K:PySem.W.Frag)(H:Hp):V→PyData→Prop
 | non:DatT K H .non .none
 | int (i):DatT K H (.int i) (.int i)
 | str (x):DatT K H (.str x) (.str x)
 | tup {a xs ds}:SqT K H a xs→DatTs K H xs ds→DatT K H (.ref a) (.tuple ds)
inductive DatTs (K:PySem.W.Frag)(H:Hp):List V→List PyData→Prop
 | nil:DatTs K H [] []
 | cons {v d vs ds}:DatT K H v d→DatTs K H vs ds→DatTs K H (v::vs) (d::ds)
end
section
variable {X:Cx}{pins:List (Addr×Obj)}{σ:St}{H:Hp}{s:Shared}
mutual
theorem DatT.reads (I:Inv X pins σ H s):∀{v d}(u:Value),DatT X.K H v d→RelV v u→d.hasDict=false∧∃ as,Reads s.heap u d as
 | _,_,u,.non,r=>by cases (show u=.none from r);exact ⟨rfl,_,.none⟩
 | _,_,u,.int i,r=>by obtain ⟨t,e⟩:=(show ∃ t,u=.int i t from r);subst e;exact ⟨rfl,_,.int i t⟩
 | _,_,u,.str x,r=>by obtain ⟨t,e⟩:=(show ∃ t,u=.str x t from r);subst e;exact ⟨rfl,_,.str x t⟩
 | _,_,u,.tup (a:=a) (xs:=xs) e q,r=>by
   cases (show u=.ref a from r)
   obtain ⟨its,rv,⟨o,g,c,n,d⟩,_⟩:=I.tuple e
   obtain ⟨nd,as,ra⟩:=DatTs.reads I its q rv
   exact ⟨by simpa [PyData.hasDict] using nd,_,.tuple g c d (by simpa using ra)⟩
theorem DatTs.reads (I:Inv X pins σ H s):∀{vs ds}(us:List Value),DatTs X.K H vs ds→Vals vs us→PyData.hasDictAll ds=false∧∃ as,ReadsAll s.heap us ds as
 | _,_,_,.nil,.nil=>⟨rfl,_,.nil⟩
 | _,_,_,.cons r t,.cons rv tv=>by
   obtain ⟨n1,as,r1⟩:=DatT.reads I _ r rv
   obtain ⟨n2,bs,r2⟩:=DatTs.reads I _ t tv
   exact ⟨by simp [PyData.hasDictAll,n1,n2],_,.cons r1 r2⟩
end
end
end L2
set_option maxHeartbeats 2000000
namespace L2
open PySem
end L2
set_option maxHeartbeats 2000000
namespace L2
open PySem PySem.W PySem.Spec PyProof.Rows
section
variable {X:Cx}
end
end L2
set_option maxHeartbeats 2000000
namespace L2
open PySem
def tCut (t u:TS):TS:=fun D σ H=>∃ I:St→Hp→Prop,t { D with nx:=I } σ H∧∀ σ' H',I σ' H'→u D σ' H'
theorem Xx {X:Cx}{st:Stmt}{rest:List Stmt}{t u:TS}(h1:PS X st t)(h2:PSs X rest u):PSs X (st::rest) (tCut t u):=by
 intro pins s σ H D I h
 obtain ⟨J,h,g⟩:=h
 refine wpAny_execs_cons (Zn (h1 pins s σ H { D with nx:=J } I h) fun f s1 q=>?_)
 cases f with
 | next =>
   obtain ⟨σ',H',I',q⟩:=q
   exact h2 pins s1 σ' H' D I' (g _ _ q)
 | ret v=>exact q
 | brk=>exact q
 | cont=>exact q
end L2
set_option maxHeartbeats 2000000
namespace L2
open PySem PySem.Spec PyProof.Rows
section
variable {X:Cx}{pins:List (Addr×Obj)}{σ:St}{H:Hp}{s:Shared}{d:Addr}{o:Obj}{kvs:List (YR×V)}
end
section
variable {X:Cx}{tg:Expr}
end
end L2
set_option maxHeartbeats 2000000
namespace L2
open PySem PySem.W PySem.Spec PyProof.Rows
section
variable {X:Cx}
end
end L2
set_option maxHeartbeats 2000000
namespace L2
open PySem
end L2
set_option maxHeartbeats 2000000
namespace L2
open PySem PySem.W PySem.Spec PyProof.Rows
section
variable {X:Cx}
end
end L2
set_option maxHeartbeats 2000000
namespace L2
open PySem PySem.Spec PyProof.Rows
end L2
set_option maxHeartbeats 2000000
namespace L2
open PySem PySem.Spec PyProof.Rows
inductive Pg where
 | set (x:Str) (v:V) (s:Str)
 | look (x:Str)
 | slot (w s:Str)
 | pass
 | blk (w:Str) (ps:List Pg)
 | inn (s:Str) (ps:List Pg)
def Pg.inner:Pg→List Pg
 | .blk _ ps=>ps
 | .inn _ ps=>ps
 | _=>[]
mutual
def Pg.many:Pg→Nat
 | .blk _ ps=>1+Pg.manys ps
 | .inn _ ps=>1+Pg.manys ps
 | _=>1
def Pg.manys:List Pg→Nat
 | []=>0
 | p::ps=>p.many+Pg.manys ps
end
theorem Pg.many_eq (p:Pg):p.many=1+Pg.manys p.inner:=by
 cases p<;>rfl
end L2
set_option maxHeartbeats 2000000
namespace L2
open PySem PySem.Spec PyProof.Rows PyProof.Rows.KTD
def KTup (K:PySem.W.Frag)(b:Addr)(xs:List V):Prop:=∃ (o:Obj) (its:Array Value) (n:Nat),K.lookup b=some o∧o.cls=.type "tuple"∧o.data=.seq its n∧its.size≤sizeLine∧Vals xs its.toList
theorem KTup.sq {K:PySem.W.Frag}{b:Addr}{xs:List V}{H:Hp}(h:KTup K b xs):SqT K H b xs:=.inr h
def KDic (K:PySem.W.Frag)(d:Addr)(D:List (Str×List V)):Prop:=(d == sysModules)=false∧∃ o es ep,K.lookup d=some o∧o.ExactDict∧o.data=.dict es ep∧KTD.Rows (fun xs v=>∃ b,v=Value.ref b∧KTup K b xs) es.toList D
theorem KDic.tab {K:PySem.W.Frag}{d:Addr}{D:List (Str×List V)}{h:Heap}(T:KDic K d D)(k:K.In h):KTD.TabOf (fun xs v=>∃ b,v=Value.ref b∧KTup K b xs) h d D:=let ⟨a,o,es,ep,e,r⟩:=T;⟨a,o,es,ep,k _ _ e,r⟩
section
variable {δ:Type}{Rr:δ→Value→Prop}{prog:Program}{w:World}{A:Around}{E:Value→Shared→Prop}{s:Shared}{a:Addr}{D:List (Str×δ)}{k:Str}{tk:Tok}
theorem ZcS {Q:Option Value→Shared→Prop}(T:TabOf Rr s.heap a D)(h1:∀ d v,datumAt k D=some d→Rr d v→Q (some v) { s with toks:=s.toks+1 })(h2:datumAt k D=none→Q none { s with toks:=s.toks+1 }) :
   wpAny (model prog w) A (dictGet a (.str k tk)) Q E s:=by
 obtain ⟨_,o,es,ep,ho,hc,hd,hr⟩:=T
 unfold dictGet
 try with_reducible refine wpAny_holding ?_
 refine wpAny_bind (wpAny_pyHash_str (wpAny_bind (kt_dictFind_strs (s:={ s with toks:=s.toks+1 }) ho hd (by obtain ⟨l⟩:=es;simpa using hr.exact) ?_)))
 have hq:Q (findBy (fun k v=>v.isStr k) es k) { s with toks:=s.toks+1 }:=by
   have hf:findBy (fun k v=>v.isStr k) es k=(es.toList.find? fun e=>e.key.isStr k).map (·.val):=by
     obtain ⟨l⟩:=es
     simp [findBy]
   rw [hf]
   cases hat:datumAt k D with
   | some d=>obtain ⟨v,hv,hfl⟩:=hr.find_some hat;rw [hv];exact h1 d v hat hfl
   | none=>rw [hr.find_none hat];exact h2 hat
 rw [findBy_of_findIdx?] at hq
 cases hi:es.findIdx? fun e=>e.key.isStr k with
 | none=>rw [hi] at hq;exact wpAny_pure hq
 | some i=>rw [hi] at hq;exact wpAny_bind (wpAny_dictEntries (s:={ s with toks:=s.toks+1 }) ho hd (wpAny_pure hq))
theorem ZaK:MeetsIn prog w (Builtin.«dict.get» ⟨[.ref a,.str k tk],[]⟩) (fun _ R s=>TabOf Rr s.heap a D∧(∀ d v,datumAt k D=some d→Rr d v→R (.ok (.ret v)) { s with toks:=s.toks+1 })∧(datumAt k D=none→R (.ok (.ret .none)) { s with toks:=s.toks+1 })) :=
 .of_wp fun A R s ⟨T,h1,h2⟩=>by
   show wpAny _ _ (dictGet a (.str k tk) >>= _) _ _ s
   refine wpAny_bind (ZcS T (fun d v ha hv=>wpAny_pure ⟨v,rfl,h1 d v ha hv⟩) fun hn=>?_)
   show wpAny _ _ (Builtin.Dict.missed a (.str k tk) >>= _) _ _ _
   exact wpAny_bind (wpAny_missed_other T.1 (wpAny_pure ⟨.none,rfl,h2 hn⟩))
end
def Zdk (K:PySem.W.Frag)(D:List (Str×List V))(te:TE):TE:=fun σ H Q=>te σ H fun y H1=>∃ x,y=.str x∧(∀ b xs,datumAt x D=some xs→SqT K H1 b xs→Q (.ref b) H1)∧(datumAt x D=none→Q .non H1)
section
variable {X:Cx}{o e:Expr}{apos cpos:Pos}{te:TE}{d:Addr}{D:List (Str×List V)}
theorem ZdR (T:KDic X.K d D)(ho:PE X o (tC (.ref d)))(he:PE X e te)(m:M1 X o "get" apos e cpos):PE X (.Call (.Attribute o "get" apos) [e] [] cpos) (Zdk X.K D te):=by
 intro pins s σ H Q I h
 refine wpAny_Call_method m.base m.few m.line PySem.F.plainAttrs_dict PySem.F.slot_dict_get PySem.F.type_dict_get (Zn (ho pins s σ H (fun v H1=>v=.ref d∧Zdk X.K D te σ H1 Q) I ⟨rfl,h⟩) fun u s1 ⟨x,H1,I1,rx,ex,q1⟩=>?_)
 subst ex
 obtain rfl:u=Value.ref d:=rx
 obtain ⟨o',es,ep,lk,hc,_⟩:=T.2
 refine ⟨⟨o',I1.kIn _ _ lk,hc.1⟩,fun b e=>by injection e with e;subst e;exact ⟨o',I1.kIn _ _ lk,hc.2.1⟩,?_⟩
 rw [m.trees]
 refine Calls.callWith_builtin rfl (Calls.evalArgs_plain (Calls.spliced_cons (Zn (he pins s1 σ H1 _ I1 q1) fun iv s2 ⟨y,H2,I2,ry,x,ey,q2,q3⟩=>Calls.spliced_nil ?_)))
 subst ey
 obtain ⟨t,rfl⟩:=ry
 refine call_meetsIn PySem.F.slot_dict_get ⟨o',I2.kIn _ _ lk,hc.1⟩ PySem.F.entry_dict_get (PySem.F.args_dict_get_2 _ _) (ZaK (D:=D) (Rr:=fun xs v=>∃ b,v=Value.ref b∧KTup X.K b xs)) ⟨T.tab I2.kIn,fun xs v ha hv=>?_,fun hn=>⟨.non,H2,I2.tok _,rfl,q3 hn⟩⟩
 obtain ⟨b,rfl,kt⟩:=hv
 exact ⟨.ref b,H2,I2.tok _,rfl,q2 b xs ha kt.sq⟩
end
end L2
set_option maxHeartbeats 2000000
namespace L2
open PySem PySem.Spec PyProof.Rows
section
variable {X:Cx}
end
mutual
theorem DatT.same {K:PySem.W.Frag}{H H':Hp}(s:Same H H'):∀{v d},DatT K H v d→DatT K H' v d
 | _,_,.non=>.non
 | _,_,.int i=>.int i
 | _,_,.str x=>.str x
 | _,_,.tup e q=>.tup (e.tf s.tf) (DatTs.same s q)
theorem DatTs.same {K:PySem.W.Frag}{H H':Hp}(s:Same H H'):∀{vs ds},DatTs K H vs ds→DatTs K H' vs ds
 | _,_,.nil=>.nil
 | _,_,.cons r t=>.cons (DatT.same s r) (DatTs.same s t)
end
mutual
theorem DatT.tf {K:PySem.W.Frag}{H H':Hp}(s:TF H H'):∀{v d},DatT K H v d→DatT K H' v d
 | _,_,.non=>.non
 | _,_,.int i=>.int i
 | _,_,.str x=>.str x
 | _,_,.tup e q=>.tup (SqT.tf e s) (DatTs.tf s q)
theorem DatTs.tf {K:PySem.W.Frag}{H H':Hp}(s:TF H H'):∀{vs ds},DatTs K H vs ds→DatTs K H' vs ds
 | _,_,.nil=>.nil
 | _,_,.cons r t=>.cons (DatT.tf s r) (DatTs.tf s t)
end
theorem DatTs.len {K:PySem.W.Frag}{H:Hp}:∀{vs ds},DatTs K H vs ds→vs.length=ds.length
 | _,_,.nil=>rfl
 | _,_,.cons q t=>by rw [List.length_cons,List.length_cons,DatTs.len t]
theorem Vb {P:Nat→Bool}{x:Str}(h:x.cps.toList.all P=true)(hP:∀ c,P c=true→c < 1114112):PyData.strOk x=true:=by
 show x.cps.all (fun c=>decide (c < 1114112))=true
 rw [← Array.all_toList,List.all_eq_true]
 exact fun c hc=>decide_eq_true (hP c (List.all_eq_true.mp h c hc))
theorem ZbN {v:V}(h:WH v):(WC v).canLay0=true:=by
 cases v<;>first | rfl | exact Vb h.2 (fun c hc=>by unfold Yv at hc;simp at hc;omega) | exact h.elim
end L2
set_option maxHeartbeats 1000000
namespace L2
open PySem PySem.Spec PyProof.Rows
section
variable {prog:Program}{w:World}{A:Around}{E:Value→Shared→Prop}{h:Heap}{g:Array GenState}{d:Drawn}{t:Nat}{os:OsState}
variable {nm q:Str}{C N:Addr}{bs bm:List Value}{sn:List Str}{sub:List Value}{ab:Bool}{col:Option Bool}{dd:Option Addr}{k0 k1 k2 k3 k5:Option Value}
end
end L2
set_option maxHeartbeats 1000000
namespace L2
open PySem PySem.Spec PyProof.Rows
section
variable {prog:Program}{w:World}{A:Around}{E:Value→Shared→Prop}{h:Heap}{g:Array GenState}{d:Drawn}{t:Nat}{os:OsState}
variable {nm q:Str}{C N x:Addr}{bs bm:List Value}{sn:List Str}{sub:List Value}{ab:Bool}{col:Option Bool}{dd:Option Addr}{k0 k1 k2 k3 k5:Option Value}{name:Str}{v:Value}{o:Obj}
end
end L2
set_option maxHeartbeats 1000000
namespace L2
open PySem PySem.Spec PyProof.Rows
section
variable {M:Model}{A:Around}{E:Value→Shared→Prop}{s:Shared}{base:Heap}{n:Nat}{H:Hp}{env:Env}{outer:List Env}{L ea C dx:Addr}
end
end L2
set_option maxHeartbeats 1000000
namespace L2
open PySem PySem.Spec PyProof.Rows
section
variable {X:Cx}{pins:List (Addr×Obj)}{σ:St}{H H1 H2:Hp}{s s1 s2:Shared}{h':Heap}
end
section
variable {P:Program}{w:World}{K:PySem.W.Frag}{mg:Str→Option Value}{base:Heap}{k:Nat}{f:Addr}{fd:FuncData}{ps:List Str}{sp sp':Sp}{CX:XR}
end
end L2
set_option maxHeartbeats 1000000
namespace L2
open PySem PySem.Spec PyProof.Rows
section
variable {X:Cx}{pins:List (Addr×Obj)}{σ:St}{H:Hp}{s:Shared}
end
section
variable {X:Cx}{body suite:List Stmt}{b0:Stmt}{C0:Addr}{x0 n:Str}{i:Nat}{tb:(St→XK)→TS}{th:TS}{p0 hp pos:Pos}
end
end L2
set_option maxHeartbeats 1000000
namespace L2
open PySem PySem.Spec PyProof.Rows
section
variable {P:Program}{w:World}{K:PySem.W.Frag}{mg:Str→Option Value}{base:Heap}{j k:Nat}{C:Addr}{x m:Str}{ps:List Str}{sp:Sp}
end
section
variable {X:Cx}{EE:St→XK}{k:Nat}{f C:Addr}{fd:FuncData}{ps:List Str}{sp:Sp}{x m:Str}{p pos apos:Pos}{e o:Expr}{es:List Expr}{ta:TE}{t:TA}
end
end L2
set_option maxHeartbeats 1000000
namespace L2
open PySem PySem.Spec PyProof.Rows
section
variable {X:Cx}{o value:Expr}{pos pos':Pos}{ta tv:TE}
end
section
variable {X:Cx}{pins:List (Addr×Obj)}{σ:St}{H:Hp}{s:Shared}
end
section
variable {X:Cx}{EE:St→XK}{k:Nat}{C:Addr}{x:Str}{np cpos pos:Pos}{e:Expr}{t:TA}
end
end L2
set_option maxHeartbeats 1000000
namespace L2
open PySem PySem.Spec PyProof.Rows
open PySem.Builtin PySem.Builtin.ObjectAttr
section
variable {prog:Program}{w:World}{A:Around}{E:Value→Shared→Prop}{h:Heap}{g:Array GenState}{d:Drawn}{t:Nat}{os:OsState}
variable {nm q:Str}{C N a dx:Addr}{bs bm:List Value}{sn:List Str}{sub:List Value}{ab:Bool}{col:Option Bool}{dd:Option Addr}{k0 k1 k2 k3 k5:Option Value}{name:Str}{v:Value}{o:Obj}{vs:Array Value}{mA:Str→Option Value}
end
end L2
set_option maxHeartbeats 1000000
namespace L2
open PySem PySem.Spec PyProof.Rows
section
variable {X:Cx}{e:Expr}{pos:Pos}{ta:TE}
end
section
variable {X:Cx}
end
section
variable {X:Cx}{elt iter tg cnd:Expr}{xa xb:Str}{pos:Pos}{scope:Scope}{wi:TI}{te:TE}{tc:TT}{g:TG}
end
end L2
set_option maxHeartbeats 2000000
namespace L2
open PySem PySem.Spec PyProof.Rows
section
variable {X:Cx}
end
section
variable {prog:Program}{w:World}{A:Around}{E:Value→Shared→Prop}{s:Shared}
end
section
variable {X:Cx}
end
end L2
set_option maxHeartbeats 2000000
namespace L2
open PySem PySem.Spec PyProof.Rows
mutual
def Pg.dat:Pg→PyData
 | .set x v s=>.tuple [.str "set",.str x,WC v,.str s]
 | .look x=>.tuple [.str "look",.str x]
 | .slot w s=>.tuple [.str w,.str s]
 | .pass=>.tuple [.str "pass"]
 | .blk w ps=>.tuple [.str w,.tuple (Pg.dats ps)]
 | .inn s ps=>.tuple [.str "in",.str s,.tuple (Pg.dats ps)]
def Pg.dats:List Pg→List PyData
 | []=>[]
 | p::ps=>p.dat::Pg.dats ps
end
mutual
def Pg.ok:Pg→Prop
 | .set x v s=>YD x∧WH v∧YD s
 | .look x=>YD x
 | .slot w s=>(w="back"∨w="copy")∧YD s
 | .pass=>True
 | .blk w ps=>(w="begin"∨w="late")∧Pg.oks ps
 | .inn s ps=>YD s∧Pg.oks ps
def Pg.oks:List Pg→Prop
 | []=>True
 | p::ps=>p.ok∧Pg.oks ps
end
mutual
def Pg.hgt:Pg→Nat
 | .blk _ ps=>Pg.hgts ps+1
 | .inn _ ps=>Pg.hgts ps+1
 | _=>0
def Pg.hgts:List Pg→Nat
 | []=>0
 | p::ps=>max p.hgt (Pg.hgts ps)
end
theorem Pg.manys_app:∀ ps qs:List Pg,Pg.manys (ps++qs)=Pg.manys ps+Pg.manys qs
 | [],qs=>by show Pg.manys qs=0+Pg.manys qs;omega
 | p::ps,qs=>by
   have:=Pg.manys_app ps qs
   show p.many+Pg.manys (ps++qs)=p.many+Pg.manys ps+_
   omega
theorem Pg.dats_app:∀ ps qs:List Pg,Pg.dats (ps++qs)=Pg.dats ps++Pg.dats qs
 | [],qs=>rfl
 | p::ps,qs=>by show p.dat::Pg.dats (ps++qs)=p.dat::(Pg.dats ps++Pg.dats qs);rw [Pg.dats_app ps qs]
theorem Pg.dats_map:∀ ps:List Pg,Pg.dats ps=ps.map Pg.dat
 | []=>rfl
 | p::ps=>by show p.dat::Pg.dats ps=p.dat::ps.map Pg.dat;rw [Pg.dats_map ps]
theorem Pg.oks_app:∀{ps qs:List Pg},Pg.oks ps→Pg.oks qs→Pg.oks (ps++qs)
 | [],_,_,h=>h
 | _::_,_,o,h=>⟨o.1,Pg.oks_app o.2 h⟩
theorem Pg.hgts_app:∀{ps qs:List Pg}{n:Nat},Pg.hgts ps≤n→Pg.hgts qs≤n→Pg.hgts (ps++qs)≤n
 | [],_,_,_,h=>h
 | p::ps,qs,n,a,h=>by
   have a':max p.hgt (Pg.hgts ps)≤n:=a
   have:=Pg.hgts_app (ps:=ps) (qs:=qs) (n:=n) (by omega) h
   show max p.hgt (Pg.hgts (ps++qs))≤n
   omega
theorem Pg.many_pos:∀ p:Pg,1≤p.many:=fun p=>by rw [Pg.many_eq];omega
theorem Pg.len_manys:∀ ps:List Pg,ps.length≤Pg.manys ps
 | []=>Nat.zero_le _
 | p::ps=>by
   have h1:=Pg.many_pos p
   have h2:=Pg.len_manys ps
   show ps.length+1≤p.many+Pg.manys ps
   omega
theorem DatT.tupI {K:PySem.W.Frag}{H:Hp}{v:V}{ds:List PyData}(h:DatT K H v (.tuple ds)):∃ a xs,v=.ref a∧SqT K H a xs∧DatTs K H xs ds:=by
 cases h with
 | tup e q=>exact ⟨_,_,rfl,e,q⟩
theorem DatTs.append {K:PySem.W.Frag}{H:Hp}:∀{vs ds ws es},DatTs K H vs ds→DatTs K H ws es→DatTs K H (vs++ws) (ds++es)
 | _,_,_,_,.nil,h=>h
 | _,_,_,_,.cons a b,h=>.cons a (DatTs.append b h)
theorem DatTs.pgs {K:PySem.W.Frag}{H:Hp}{vs:List V}{ps:List Pg}(h:DatTs K H vs (Pg.dats ps)):vs.length=ps.length:=by
 rw [DatTs.len h,Pg.dats_map,List.length_map]
theorem ZcA {x:Str}(h:YD x):PyData.strOk x=true:=Vb h.2.2 (fun c hc=>by unfold Yf at hc;simp at hc;omega)
theorem ZbA (v:V):(WC v).depth=0:=by cases v<;>rfl
mutual
theorem Pg.deep:∀(p:Pg),p.dat.depth≤2 * p.hgt+1
 | .set x v s=>by
   show (PyData.tuple [.str "set",.str x,WC v,.str s]).depth≤1
   simp only [PyData.depth,PyData.depthAll,ZbA];omega
 | .look x=>by show (PyData.tuple [.str "look",.str x]).depth≤1;simp only [PyData.depth,PyData.depthAll];omega
 | .slot w s=>by show (PyData.tuple [.str w,.str s]).depth≤1;simp only [PyData.depth,PyData.depthAll];omega
 | .pass=>by decide
 | .blk w ps=>by
   have:=Pg.deeps ps
   show (PyData.tuple [.str w,.tuple (Pg.dats ps)]).depth≤2 * (Pg.hgts ps+1)+1
   simp only [PyData.depth,PyData.depthAll];omega
 | .inn s ps=>by
   have:=Pg.deeps ps
   show (PyData.tuple [.str "in",.str s,.tuple (Pg.dats ps)]).depth≤2 * (Pg.hgts ps+1)+1
   simp only [PyData.depth,PyData.depthAll];omega
theorem Pg.deeps:∀(ps:List Pg),PyData.depthAll (Pg.dats ps)≤2 * Pg.hgts ps+1
 | []=>by show 0≤_;omega
 | p::ps=>by
   have h1:=Pg.deep p
   have h2:=Pg.deeps ps
   show max p.dat.depth (PyData.depthAll (Pg.dats ps))≤2 * max p.hgt (Pg.hgts ps)+1
   omega
end
end L2
set_option maxHeartbeats 4000000
namespace K54
open PySem L2
def top (i:Nat):Stmt:=PySem.Challenge.pw_roadsettings_k54_programs_or_not.main.body.getD i (.Pass ⟨0,0,0,0⟩)
abbrev s_is_name:Stmt:=top 2
abbrev s_is_number:Stmt:=top 3
abbrev s_is_value:Stmt:=top 4
abbrev s_kinds_of:Stmt:=top 7
abbrev s_is_program:Stmt:=top 8
abbrev s_is_step:Stmt:=top 9
abbrev s_is_of_kind:Stmt:=top 10
abbrev s_l_cell_at:Stmt:=top 12
abbrev s_l_box:Stmt:=top 13
abbrev s_l_take:Stmt:=top 14
abbrev s_l_names:Stmt:=top 15
abbrev s_l_value:Stmt:=top 16
abbrev s_l_step:Stmt:=top 17
abbrev s_l_program:Stmt:=top 18
abbrev s_l_is_name:Stmt:=top 19
abbrev s_l_is_value:Stmt:=top 20
abbrev s_l_is_step:Stmt:=top 21
abbrev s_l_is_program:Stmt:=top 22
abbrev s_l_odd:Stmt:=top 23
abbrev s_l_bent:Stmt:=top 24
abbrev s_l_right:Stmt:=top 25
abbrev s_law:Stmt:=top 26
section
variable {P:Program}{w:World}{K:PySem.W.Frag}{mg:Str→Option Value}{base:Heap}
theorem scC:ZD ["_law_script","_law_k"] ["_law_script","_law_k"] (Zo s_l_cell_at):=⟨rfl,rfl,rfl,by decide +kernel,rfl,by decide +kernel,by decide +kernel⟩
theorem Zdz {f:Addr}{fd:FuncData}(F:Fun K "_law_cell_at" "_law_cell_at" s_l_cell_at f fd)(T:Yj mg):FnOk P w K mg base Yb 1 f fd ["_law_script","_law_k"] (Zbz K):=by
 refine F.ok scC (fun vs H Q E h=>?_) (fun cdv A outer s H vs Q E hr h=>?_)
 · obtain ⟨a,ns,k,rfl,_⟩:=h;rfl
 obtain ⟨a,ns,k,rfl,hS,h0,q⟩:=h
 refine ⟨_,Ze (ZF (Zp Zbn (pv 1) (Zj Zv rfl T.len PySem.boot_len (ZT (pv 0) Za)) (Zt _)) (Zi (Zm (Zz ZH (pv 0) (pv 1) (fun _ _=>rfl)))) Zq)
   (Zi (Zm Zb)),?_⟩
 refine ⟨_,rfl,_,rfl,a,_,rfl,.inl hS,_,_,rfl,rfl,_,rfl,?_⟩
 refine Wk (fun c=>?_) (fun c=>?_)
 · have c':k < (((ns.map V.int).length:Nat):Int):=of_decide_eq_true c
   rw [List.length_map] at c'
   have hk:k.toNat < ns.length:=by omega
   have ek:k=((k.toNat:Nat):Int):=by omega
   have hat:Xr (ns.map V.int) k=some (.int ns[k.toNat]):=by
     have z:Xr (ns.map V.int) ((k.toNat:Nat):Int)=some (.int ns[k.toNat]):=ZX (by rw [List.getElem?_map,List.getElem?_eq_getElem hk];rfl)
     rwa [← ek] at z
   exact ⟨_,rfl,_,rfl,a,_,_,_,rfl,rfl,hS,hat,q _⟩
 · exact q 0
theorem scB:ZD ["_law_script","_law_k","_law_cell"] ["_law_script","_law_k"] (Zo s_l_box):=⟨rfl,rfl,rfl,by decide +kernel,rfl,by decide +kernel,by decide +kernel⟩
theorem Zeb {f:Addr}{fd:FuncData}(F:Fun K "_law_box" "_law_box" s_l_box f fd)(T:Yj mg)(D:Def P w K mg base 1 "_law_cell_at" ["_law_script","_law_k"] (Zbz K)):FnOk P w K mg base Yb 2 f fd ["_law_script","_law_k"] (Zdn K):=by
 refine F.ok scB (fun vs H Q E h=>?_) (fun cdv A outer s H vs Q E hr h=>?_)
 · obtain ⟨a,ns,k,rfl,_⟩:=h;rfl
 obtain ⟨a,ns,k,rfl,hS,h0,h1,q⟩:=h
 refine ⟨_,Ze (Zy (i:=2) scB.nd rfl (Or.inl rfl) (Zr D hr (ZT (pv 0) (ZT (pv 1) Za))))
   (Zi (Zm (YI (ZT (Zk Xm (Zj Vl rfl T.abs (by decide +kernel) (ZT (pv 2) Za)) (XM UV rfl T.int (by decide +kernel) (ZT (Xy Zfj (Zj Vl rfl T.abs (by decide +kernel) (ZT (pv 2) Za)) (Zk Wv Zb Zb) (Zt _)) Za)))
     (ZT (Zk ZU (Zk ZU (Zk Xc (pv 2) Zb) (Zk Xm Zb (pv 1))) Zb) (ZT Zb Za)))))),?_⟩
 refine ⟨_,rfl,_,rfl,a,ns,k,rfl,hS,h0,fun r=>?_⟩
 refine ⟨_,rfl,_,rfl,⟨_,rfl,_,rfl,_,_,rfl,rfl,⟨by decide,by decide,by decide⟩,_,_,rfl,rfl,.inr ⟨_,rfl,?_⟩⟩⟩
 generalize hb:decide ((10:Int) ^ (Int.toNat 18)≤(if r < 0 then -r else r))=bb
 refine ⟨_,_,rfl,rfl,.inr (by cases bb<;>exact ⟨by decide,by decide⟩),_,rfl,_,_,rfl,rfl,(by show (0:Int) < _;decide),_,rfl,_,_,rfl,rfl,.inl ⟨by decide,by decide⟩,_,_,rfl,rfl,_,_,rfl,rfl,(by show 3≤sizeLine;decide),fun p hp=>?_⟩
 refine q p _ hp ⟨_,_,0,Zh,?_,by decide,by decide⟩ (Zf hp _)
 cases bb
 · simp
 · simp only [if_true,Int.mul_one];split<;>omega
theorem scT:ZD ["_law_box_here","_law_many","_law_found","_law_once","_law_twice"] ["_law_box_here","_law_many"] (Zo s_l_take):=⟨rfl,rfl,rfl,by decide +kernel,rfl,by decide +kernel,by decide +kernel⟩
theorem Zdy {f:Addr}{fd:FuncData}(F:Fun K "_law_take" "_law_take" s_l_take f fd):FnOk P w K mg base Yb 1 f fd ["_law_box_here","_law_many"] (Wx 4611686018427387904):=by
 refine F.ok scT (fun vs H Q E h=>?_) (fun cdv A outer s H vs Q E hr h=>?_)
 · obtain ⟨p,n,m,rfl,_⟩:=h;rfl
 obtain ⟨p,n,m,rfl,⟨a,b,c,hp,ha,hc,hcn⟩,hn,hm0,hmM,q⟩:=h
 refine ⟨_,Ze (ZF (Zp Zdj (Zz ZH (pv 0) Zb (fun _ _=>rfl)) Zb (Zt _))
     (Ze (Zy (i:=2) scT.nd rfl (Or.inl rfl) (Zk Xc (Zz ZH (pv 0) Zb (fun _ _=>rfl)) (pv 1)))
       (Ze (WG (Zk Zcx (Zz ZH (pv 0) Zb (fun _ _=>rfl)) (pv 1)) (VF (pv 0) Zb WR)) (Zi (Zm (pv 2))))) Zq)
   (Ze (WG (Zk ZU (Zz ZH (pv 0) Zb (fun _ _=>rfl)) Zb) (VF (pv 0) Zb WR))
   (Ze (Zy (i:=3) scT.nd rfl (Or.inl rfl) (Zk Xc (Zk Xm (Zk ZU (Zz ZH (pv 0) Zb (fun _ _=>rfl)) (Zk Xm Zb (Zz ZH (pv 0) Zb (fun _ _=>rfl)))) (Zk ZU Zb (Zz ZH (pv 0) Zb (fun _ _=>rfl)))) Zb))
   (Ze (Zy (i:=4) scT.nd rfl (Or.inl rfl) (Zk Xc (Zk Xm (Zk ZU (pv 3) (Zz ZH (pv 0) Zb (fun _ _=>rfl))) (Zk ZU (Zk Xc (pv 3) Zb) Zb)) Zb))
   (Zi (Zm (Zk Xc (Zk ZdW (Zk Xc (Zk ZU (Zk Xm (pv 4) Zb) (pv 3)) Zb) Zb) (pv 1))))))),?_⟩
 refine ⟨_,rfl,p,_,_,_,rfl,rfl,SqL.of hp,rfl,_,_,rfl,rfl,_,rfl,?_⟩
 refine Wk (fun c'=>?_) (fun c'=>?_)
 · have h0:0 < a:=of_decide_eq_true c'
   refine ⟨_,rfl,p,_,_,_,rfl,rfl,SqL.of hp,rfl,_,rfl,_,_,rfl,rfl,hm0,?_⟩
   refine ⟨_,rfl,p,_,_,_,rfl,rfl,SqL.of hp,rfl,_,rfl,_,_,rfl,rfl,⟨hm0,by have h4:m < 4611686018427387904:=hmM;omega⟩,?_⟩
   refine ⟨_,rfl,p,_,_,_,rfl,rfl,hp,rfl,?_⟩
   refine ⟨_,rfl,?_⟩
   exact q _ _ (Int.emod_nonneg _ (by omega)) (Int.emod_lt_of_pos _ hm0) ⟨a / m,b,c,Zh,Int.ediv_nonneg ha (by omega),hc,by omega⟩ (Kp.upd _ _ _)
 · refine ⟨_,rfl,p,_,_,_,rfl,rfl,SqL.of hp,rfl,_,_,rfl,rfl,?_⟩
   refine ⟨_,rfl,p,_,_,_,rfl,rfl,hp,rfl,?_⟩
   have hp1:upd H p (.lst [.int a,.int b,.int (c+1)]) p=some (.lst [.int a,.int b,.int (c+1)]):=Zh
   refine ⟨_,rfl,p,_,_,_,rfl,rfl,SqL.of hp1,rfl,_,rfl,p,_,_,_,rfl,rfl,SqL.of hp1,rfl,_,_,rfl,rfl,.inl ⟨by decide,by decide⟩,_,_,rfl,rfl,_,rfl,p,_,_,_,rfl,rfl,SqL.of hp1,rfl,_,_,rfl,rfl,_,_,rfl,rfl,.inr ⟨by omega,by omega⟩,_,_,rfl,rfl,(by show (0:Int) < _;decide),?_⟩
   generalize hO:((b+48271 * (c+1)) * (39373+(c+1))) % 2147483647=once
   have hO0:0≤once:=by rw [← hO];exact Int.emod_nonneg _ (by decide)
   refine ⟨_,rfl,_,rfl,p,_,_,_,rfl,rfl,SqL.of hp1,rfl,_,_,rfl,rfl,_,rfl,_,_,rfl,rfl,(by show (0:Int) < _;decide),_,_,rfl,rfl,_,_,rfl,rfl,.inr ?_,_,_,rfl,rfl,(by show (0:Int) < _;decide),?_⟩
   · have:=Int.emod_nonneg once (show (40009:Int)≠0 by decide)
     have:=Int.emod_lt_of_pos once (show (0:Int) < 40009 by decide)
     exact ⟨by omega,by omega⟩
   generalize hW:((once+(c+1)) * (once % 40009+7)) % 2147483629=twice
   refine ⟨_,rfl,_,_,rfl,rfl,.inr ⟨by decide,by decide⟩,_,rfl,_,_,rfl,rfl,_,_,rfl,rfl,(by show (0:Int) < _;decide),_,_,rfl,rfl,⟨by decide,by decide⟩,_,rfl,_,_,rfl,rfl,hm0,?_⟩
   exact q _ _ (Int.emod_nonneg _ (by omega)) (Int.emod_lt_of_pos _ hm0) ⟨a,b,c+1,hp1,ha,by omega,by omega⟩ (Kp.upd _ _ _)
end
end K54
set_option maxHeartbeats 4000000
namespace K54
open PySem L2
theorem ZI {c:Bool}{A B:Prop}(h:c=false)(b:B):if c=true then A else B:=by rw [h];exact ZJ b
theorem ZM {c:Bool}{A B:Prop}(h:c=true)(a:A):if c=true then A else B:=by rw [h];exact ZG a
def Yo:List (Str×List V):=[("set",[.str "name",.str "value",.str "slot"]),("look",[.str "name"]),("back",[.str "slot"]),("begin",[.str "program"]),("late",[.str "program"]),("copy",[.str "slot"]),("in",[.str "slot",.str "program"]),("pass",[])]
section
variable {P:Program}{w:World}{K:PySem.W.Frag}{mg:Str→Option Value}{base:Heap}{dk:Addr}
def UH (K:PySem.W.Frag):Sp:=fun vs H Q _=>∃ x:Str,vs=[.str x]∧(∀ b xs,PyProof.Rows.KTD.datumAt x Yo=some xs→SqT K H b xs→Q (.ref b) H)∧(PyProof.Rows.KTD.datumAt x Yo=none→Q .non H)
abbrev nKi:List Str:=["word"]
abbrev ZaN:List Str:=["word"]
theorem scKi:ZD nKi ZaN (Zo s_kinds_of):=⟨rfl,rfl,rfl,by decide +kernel,rfl,by decide +kernel,by decide +kernel⟩
theorem ZcU {f:Addr}{fd:FuncData}(F:Fun K "kinds_of" "kinds_of" s_kinds_of f fd)(TK:KDic K dk Yo)(hK:mg "KINDS"=some (.ref dk)):FnOk P w K mg base Yb 1 f fd ZaN (UH K):=by
 refine F.ok scKi (fun vs H Q E h=>?_) (fun cdv A outer s H vs Q E hr h=>?_)
 · obtain ⟨x,rfl,_⟩:=h;rfl
 obtain ⟨x,rfl,q1,q2⟩:=h
 refine' ⟨?t,?h,?r⟩
 case h =>
   conv=>arg 2;whnf
   with_reducible refine' (Zi ?h1)
   case h1=>exact Zm (ZdR TK (Zar (v:=.ref _) rfl hK rfl) (pv 0) ⟨rfl,rfl,rfl,rfl⟩)
 exact ⟨_,rfl,x,rfl,fun b xs e1 e2=>q1 b xs e1 e2,fun e=>q2 e⟩
end
end K54
set_option maxHeartbeats 2000000
namespace L2
open PySem PySem.Spec PyProof.Rows
section
variable {prog:Program}{w:World}{A:Around}{E:Value→Shared→Prop}{s:Shared}
theorem WM {i t:Addr}{k:Nat}{its:Array Value}{x:Value}{Q:Value→Shared→Prop}(hi:s.heap.IsTupleIter i t k)(ht:s.heap.IsTuple t its)(hx:its[k]?=some x)
   (q:∀ h',h'.IsTupleIter i t (k+1)→Heap.SameBut i s.heap h'→Q x { s with heap:=h' }):wpAny (model prog w) A (Builtin.SmallTypes.nextOf (.ref i)) Q E s:=by
 obtain ⟨o,eo,oc,od⟩:=id hi
 obtain ⟨u,eu,_,n,du⟩:=ht
 unfold Builtin.SmallTypes.nextOf
 refine wpAny_bind (wpAny_callSpecial?_slot (name:=Str.ofString "__next__") hi.typeIs F.slot_tuple_iterator_next (wpAny_call_entry F.slot_tuple_iterator_next hi.typeIs F.entry_tuple_iterator_next ?_ (F.args_tuple_iterator_next_1 _)))
 refine wpAny_bind (m:=field (.ref i) 0) (wpAny_field eo od (x:=.ref t) rfl ?_)
 show wpAny _ _ (if (Value.ref t == Value.none)=true then _ else _) _ _ s
 rw [if_neg (by exact Bool.false_ne_true)]
 refine wpAny_bind (m:=field (.ref i) 1) (wpAny_field eo od (x:=.int k 0) rfl ?_)
 refine wpAny_bind (m:=seqItems? (.ref t)) (wpAny_seqItems eu du ?_)
 simp only [Int.toNat_natCast,hx]
 exact wpAny_bind (wpAny_setField eo od (by simp) (wpAny_pure ⟨x,rfl,wpAny_pure (q _ ⟨_,Heap.get?_update_self _ eo (Obj.isFreed_of_fields (Obj.data_mapFields od _)),(Obj.cls_mapFields ..).trans oc,by rw [Obj.data_mapFields od];simp [rawInt]⟩ (Heap.SameBut.update ..))⟩))
theorem Zbf {i t:Addr}{k:Nat}{its:Array Value}{Q:Value→Shared→Prop}(hh:A.handled=none)(hi:s.heap.IsTupleIter i t k)(ht:s.heap.IsTuple t its)(hx:its[k]?=none)
   (q:∀ h' e,Heap.ExtBut i s.heap h'→(∃ o,h'.get? e=some o∧o.cls=.type "StopIteration")→E (.ref e) { s with heap:=h' }):wpAny (model prog w) A (Builtin.SmallTypes.nextOf (.ref i)) Q E s:=by
 obtain ⟨o,eo,oc,od⟩:=id hi
 obtain ⟨u,eu,_,n,du⟩:=ht
 unfold Builtin.SmallTypes.nextOf
 refine wpAny_bind (wpAny_callSpecial?_slot (name:=Str.ofString "__next__") hi.typeIs F.slot_tuple_iterator_next (wpAny_call_entry F.slot_tuple_iterator_next hi.typeIs F.entry_tuple_iterator_next ?_ (F.args_tuple_iterator_next_1 _)))
 refine wpAny_bind (m:=field (.ref i) 0) (wpAny_field eo od (x:=.ref t) rfl ?_)
 show wpAny _ _ (if (Value.ref t == Value.none)=true then _ else _) _ _ s
 rw [if_neg (by exact Bool.false_ne_true)]
 refine wpAny_bind (m:=field (.ref i) 1) (wpAny_field eo od (x:=.int k 0) rfl ?_)
 refine wpAny_bind (m:=seqItems? (.ref t)) (wpAny_seqItems eu du ?_)
 simp only [Int.toNat_natCast,hx]
 refine wpAny_bind (wpAny_rule (wpAny_bind (wpAny_setField eo od (by simp) ?_)))
 refine wpAny_bind (m:=newExc (.type "StopIteration") []) ?_
 simp only [newExc,newTuple]
 refine wpAny_bind (wpAny_newObj_type ?_ (by size_fits))
 refine wpAny_bind (m:=firstArgMember _ _) (wpAny_of_eq (a:=Value.none) (by first | rfl | (simp only [firstArgMember];rfl)) ?_)
 refine wpAny_newObj_type ?_ (by size_fits)
 simp only [raiseNew]
 refine wpAny_bind (wpAny_handled ?_)
 first | rw [show A.in1.handled=none from hh] | rw [hh]
 exact wpAny_bind (wpAny_pure (wpAny_throw (q _ _ (((Heap.SameBut.update ..).extBut.push _).push _) ⟨_,Heap.get?_push_size _ rfl,rfl⟩)))
theorem ZcT {z TI TO i1 i2 l1 l2:Addr}{k:Nat}{xs ys:Array Value}{x y a b:Value}{Q:Option Value→Shared→Prop}(D:ZipApart z TI TO i1 i2 l1 l2)(hz:IsZip s.heap z TI TO .none)(hTI:IsPair s.heap TI (.ref i1) (.ref i2))(hTO:IsPair s.heap TO a b)
   (h1:s.heap.IsTupleIter i1 l1 k) (h2:s.heap.IsTupleIter i2 l2 k) (t1:s.heap.IsTuple l1 xs) (t2:s.heap.IsTuple l2 ys) (hx:xs[k]?=some x) (hy:ys[k]?=some y)
   (q:∀ h',IsZip h' z TI TO (rawInt s.heap.objs.size)→IsPair h' TO x y→h'.IsTupleIter i1 l1 (k+1)→h'.IsTupleIter i2 l2 (k+1)→IsPair h' s.heap.objs.size x y→h'.objs.size=s.heap.objs.size+1 →
     (∀ c o,c≠z→c≠TO→c≠i1→c≠i2→s.heap.get? c=some o→h'.get? c=some o)→Q (some (.ref s.heap.objs.size)) { s with heap:=h' }):wpAny (model prog w) A (pyNext (.ref z)) Q E s:=by
 have hT:s.TypeIs (.ref z) "zip":=⟨_,hz,rfl⟩
 unfold pyNext
 refine wpAny_bind (wpAny_attempt (wpAny_callSpecial?_slot (name:=Str.ofString "__next__") hT F.slot_zip_next (wpAny_call_entry F.slot_zip_next hT F.entry_zip_next ?_ (F.args_zip_next_1 _))))
 refine wpAny_bind (m:=field (.ref z) 2) (wpAny_field hz rfl (x:=.bool false) rfl ?_)
 refine wpAny_bind (m:=field (.ref z) 3) (wpAny_field hz rfl (x:=.ref TI) rfl ?_)
 refine wpAny_bind (wpAny_seqItems hTI rfl ?_)
 refine wpAny_bind (m:=Builtin.SmallTypes.ownedTupleIsFree (.ref z)) ?_
 unfold Builtin.SmallTypes.ownedTupleIsFree
 refine wpAny_bind (wpAny_field hz rfl (x:=.none) rfl (wpAny_pure ?_))
 simp only [if_true]
 refine wpAny_bind (wpAny_rule ?_)
 refine wpAny_bind (wpAny_field hz rfl (x:=.ref TO) rfl ?_)
 refine wpAny_bind (wpAny_setField_rec hz (by simp) fun ha hza sa=>?_)
 replace hza:IsZip ha z TI TO .ellipsis:=hza
 refine wpAny_bind ?_
 simp only [List.zipIdx_cons,List.zipIdx_nil,List.forIn_cons,List.forIn_nil]
 have Ea:=sa.extBut
 refine wpAny_bind (wpAny_bind (wpAny_onRaise ?_))
 refine wpAny_bind (m:=Builtin.SmallTypes.nextOf (.ref i1)) (WM (h1.extBut Ea D.i1z) (t1.extBut Ea D.l1z) hx fun hb i1b sb=>wpAny_pure ?_)
 have Eb:=sb.extBut
 have TOb:IsPair hb TO a b:=Eb _ _ D.TOi1 (Ea _ _ D.TOz hTO)
 refine wpAny_bind (wpAny_seqItems TOb rfl ?_)
 refine wpAny_bind (wpAny_updateSeq_pair TOb fun hc TOc sc=>?_)
 replace TOc:IsPair hc TO x b:=TOc
 have Ec:=sc.extBut
 refine wpAny_bind (wpAny_letGo (wpAny_pure ?_))
 refine wpAny_bind (wpAny_bind (wpAny_onRaise ?_))
 refine wpAny_bind (m:=Builtin.SmallTypes.nextOf (.ref i2)) (WM (((h2.extBut Ea D.i2z).extBut Eb D.i12.symm).extBut Ec D.TOi2.symm) (((t2.extBut Ea D.l2z).extBut Eb D.l2i1).extBut Ec D.l2TO) hy fun hd i2d sd=>wpAny_pure ?_)
 have Ed:=sd.extBut
 have TOd:IsPair hd TO x b:=Ed _ _ D.TOi2 TOc
 refine wpAny_bind (wpAny_seqItems TOd rfl ?_)
 refine wpAny_bind (wpAny_updateSeq_pair TOd fun he TOe se=>?_)
 replace TOe:IsPair he TO x y:=TOe
 have Ee:=se.extBut
 refine wpAny_bind (wpAny_letGo (wpAny_pure (wpAny_pure ?_)))
 refine wpAny_bind (wpAny_seqItems TOe rfl ?_)
 refine wpAny_bind (wpAny_newTuple ?_)
 have hsz:he.objs.size=s.heap.objs.size:=by rw [se.1,sd.1,sc.1,sb.1,sa.1]
 have all:∀ c o,c≠z→c≠TO→c≠i1→c≠i2→s.heap.get? c=some o→he.get? c=some o:=fun c o c1 c2 c3 c4 e=>Ee _ _ c2 (Ed _ _ c4 (Ec _ _ c2 (Eb _ _ c3 (Ea _ _ c1 e))))
 have ze:IsZip he z TI TO .ellipsis:=Ee _ _ D.TOz.symm (Ed _ _ D.i2z.symm (Ec _ _ D.TOz.symm (Eb _ _ D.i1z.symm hza)))
 have i1e:he.IsTupleIter i1 l1 (k+1):=((i1b.extBut Ec D.TOi1.symm).extBut Ed D.i12).extBut Ee D.TOi1.symm
 have i2e:he.IsTupleIter i2 l2 (k+1):=i2d.extBut Ee D.TOi2.symm
 have zl:z < he.objs.size:=Heap.lt_size ze
 refine wpAny_bind (m:=Builtin.SmallTypes.ownedTupleHandOut (.ref z) (.ref he.objs.size)) ?_
 unfold Builtin.SmallTypes.ownedTupleHandOut
 refine wpAny_bind (wpAny_setField_rec (show IsZip (he.push { cls:=.type "tuple",data:=.seq #[x,y] }) z TI TO .ellipsis from Heap.get?_push_of_some _ ze) (by simp) fun hf zf sf=>?_)
 replace zf:IsZip hf z TI TO (rawInt he.objs.size):=zf
 refine wpAny_setField_rec zf (by simp) fun hg zg sg=>?_
 replace zg:IsZip hg z TI TO (rawInt he.objs.size):=zg
 have up:∀ c o,c≠z→he.get? c=some o→hg.get? c=some o:=fun c o c1 e=>sg.extBut _ _ c1 (sf.extBut _ _ c1 (Heap.get?_push_of_some _ e))
 have new:IsPair hg he.objs.size x y:=sg.extBut _ _ (Nat.ne_of_gt zl) (sf.extBut _ _ (Nat.ne_of_gt zl) (Heap.get?_push_size _ rfl))
 have sz:hg.objs.size=he.objs.size+1:=by rw [sg.1,sf.1,Heap.size_push]
 rw [hsz] at zg new sz
 refine wpAny_pure ⟨_,rfl,?_⟩
 show wpAny _ _ (pure (some (Value.ref he.objs.size))) _ _ _
 rw [hsz]
 refine wpAny_pure (q hg zg (up _ _ D.TOz TOe) ?_ ?_ new sz fun c o c1 c2 c3 c4 e=>up c o c1 (all c o c1 c2 c3 c4 e))
 · obtain ⟨o,eo,r⟩:=i1e;exact ⟨o,up _ _ D.i1z eo,r⟩
 · obtain ⟨o,eo,r⟩:=i2e;exact ⟨o,up _ _ D.i2z eo,r⟩
theorem Zdw {z TI TO i1 i2 l1 l2:Addr}{k:Nat}{xs:Array Value}{a b:Value}{Q:Option Value→Shared→Prop}(hh:A.handled=none)(D:ZipApart z TI TO i1 i2 l1 l2)(hz:IsZip s.heap z TI TO .none)(hTI:IsPair s.heap TI (.ref i1) (.ref i2))(hTO:IsPair s.heap TO a b)
   (h1:s.heap.IsTupleIter i1 l1 k) (t1:s.heap.IsTuple l1 xs) (hx:xs[k]?=none)
   (q:∀ h',(∀ c o,c≠z→c≠TO→c≠i1→c≠i2→s.heap.get? c=some o→h'.get? c=some o)→Q none { s with heap:=h' }):wpAny (model prog w) A (pyNext (.ref z)) Q E s:=by
 have hT:s.TypeIs (.ref z) "zip":=⟨_,hz,rfl⟩
 unfold pyNext
 refine wpAny_bind (wpAny_attempt (wpAny_callSpecial?_slot (name:=Str.ofString "__next__") hT F.slot_zip_next (wpAny_call_entry F.slot_zip_next hT F.entry_zip_next ?_ (F.args_zip_next_1 _))))
 refine wpAny_bind (m:=field (.ref z) 2) (wpAny_field hz rfl (x:=.bool false) rfl ?_)
 refine wpAny_bind (m:=field (.ref z) 3) (wpAny_field hz rfl (x:=.ref TI) rfl ?_)
 refine wpAny_bind (wpAny_seqItems hTI rfl ?_)
 refine wpAny_bind (m:=Builtin.SmallTypes.ownedTupleIsFree (.ref z)) ?_
 unfold Builtin.SmallTypes.ownedTupleIsFree
 refine wpAny_bind (wpAny_field hz rfl (x:=.none) rfl (wpAny_pure ?_))
 simp only [if_true]
 refine wpAny_bind (wpAny_rule ?_)
 refine wpAny_bind (wpAny_field hz rfl (x:=.ref TO) rfl ?_)
 refine wpAny_bind (wpAny_setField_rec hz (by simp) fun ha hza sa=>?_)
 replace hza:IsZip ha z TI TO .ellipsis:=hza
 refine wpAny_bind ?_
 simp only [List.zipIdx_cons,List.zipIdx_nil,List.forIn_cons,List.forIn_nil]
 refine wpAny_bind (wpAny_bind (wpAny_onRaise ?_))
 refine wpAny_bind (m:=Builtin.SmallTypes.nextOf (.ref i1)) (Zbf hh (h1.extBut sa.extBut D.i1z) (t1.extBut sa.extBut D.l1z) hx fun hb e Eb he=>?_)
 obtain ⟨oe,eoe,ce⟩:=he
 have zb:IsZip hb z TI TO .ellipsis:=Eb _ _ D.i1z.symm hza
 have ez:e≠z:=fun x=>by subst x;rw [zb] at eoe;cases eoe;simp at ce
 refine wpAny_setField_rec zb (by simp) fun hc _ sc=>?_
 refine wpAny_bind (wpAny_isInstance (T:="StopIteration") (b:=true) ⟨oe,sc.extBut _ _ ez eoe,ce⟩ isSubtype_stop ?_)
 exact wpAny_pure (q _ fun c o c1 _ c3 _ x=>sc.extBut _ _ c1 (Eb _ _ c3 (sa.extBut _ _ c1 x)))
end
abbrev Yd (l:Addr):Obj:={ cls:=.type "tuple_iterator",data:=.fields #[.ref l,.int 0 0] }
abbrev UG (h:Heap)(l1 l2:Addr):Heap:=((((h.push (Yd l1)).push (Yd l2)).push { cls:=.type "tuple",data:=.seq #[.ref h.objs.size,.ref (h.push (Yd l1)).objs.size] }).push { cls:=.type "tuple",data:=.seq #[.none,.none] })
theorem ZdQ (l1 l2:Addr)(xs ys:Array Value):Meets (Builtin.«zip.__new__» ⟨[.type "zip",.ref l1,.ref l2],[]⟩) (fun _ R s=>s.heap.IsTuple l1 xs∧s.heap.IsTuple l2 ys ∧
     R (.ok (.ret (.ref (UG s.heap l1 l2).objs.size))) { s with heap:=(UG s.heap l1 l2).push { cls:=.type "zip",data:=.fields #[.none,.bool false,.bool false,.ref ((s.heap.push (Yd l1)).push (Yd l2)).objs.size,.ref (((s.heap.push (Yd l1)).push (Yd l2)).push { cls:=.type "tuple",data:=.seq #[.ref s.heap.objs.size,.ref (s.heap.push (Yd l1)).objs.size] }).objs.size] } }) :=
 .of_wp fun prog w A R s h=>by
   obtain ⟨hp,g,d,tk,os⟩:=s;obtain ⟨hl1,hl2,h⟩:=h
   have hsub:=sub_zip
   have hL1:Heap.IsTuple (Shared.heap ⟨hp,g,d,tk,os⟩) l1 xs:=hl1
   have hL2:Heap.IsTuple (Shared.heap ⟨hp.push (Yd l1),g,d,tk,os⟩) l2 ys:=Heap.IsTuple.push hl2 _
   wp_walk using wpAny_pyIter_tuple hL1,wpAny_pyIter_tuple hL2
   exact ⟨_,rfl,h⟩
section
variable {prog:Program}{w:World}{A:Around}{E:Value→Shared→Prop}{s:Shared}
theorem Zco {l1 l2:Addr}{xs ys:Array Value}{Q:Value→Shared→Prop}(hl1:s.heap.IsTuple l1 xs)(hl2:s.heap.IsTuple l2 ys)
   (h:∀ h',IsZip h' (s.heap.objs.size+4) (s.heap.objs.size+2) (s.heap.objs.size+3) .none→IsPair h' (s.heap.objs.size+2) (.ref s.heap.objs.size) (.ref (s.heap.objs.size+1)) →
     IsPair h' (s.heap.objs.size+3) .none .none→h'.IsTupleIter s.heap.objs.size l1 0→h'.IsTupleIter (s.heap.objs.size+1) l2 0→h'.objs.size=s.heap.objs.size+5 →
     (∀ c o,s.heap.get? c=some o→h'.get? c=some o)→Q (.ref (s.heap.objs.size+4)) { s with heap:=h' }):wpAny (model prog w) A (call (.type "zip") [.ref l1,.ref l2]) Q E s:=by
 refine callType_new F.called_zip (by decide) (F.typeCall_zip_2 _ _) (F.newCall_zip_2 _ _) (fun obj=>F.args_object_init_3 obj _ _) F.entry_zip_new (ZdQ l1 l2 xs ys) ⟨hl1,hl2,?_⟩
 have z1:(s.heap.push (Yd l1)).objs.size=s.heap.objs.size+1:=Heap.size_push ..
 have z2:((s.heap.push (Yd l1)).push (Yd l2)).objs.size=s.heap.objs.size+2:=by rw [Heap.size_push,z1]
 have z3:(((s.heap.push (Yd l1)).push (Yd l2)).push { cls:=.type "tuple",data:=.seq #[.ref s.heap.objs.size,.ref (s.heap.push (Yd l1)).objs.size] }).objs.size=s.heap.objs.size+3:=by rw [Heap.size_push,z2]
 have z4:(UG s.heap l1 l2).objs.size=s.heap.objs.size+4:=by rw [Heap.size_push,z3]
 show _∧_
 rw [z4,z3,z2]
 have up:∀ {h:Heap} {o:Obj} {c:Addr} {u:Obj},h.get? c=some u→(h.push o).get? c=some u:=fun e=>Heap.get?_push_of_some _ e
 have g5:((UG s.heap l1 l2).push { cls:=.type "zip",data:=.fields #[.none,.bool false,.bool false,.ref (s.heap.objs.size+2),.ref (s.heap.objs.size+3)] }).get? (UG s.heap l1 l2).objs.size=some _:=Heap.get?_push_size _ rfl
 have g4:(UG s.heap l1 l2).get? _=some _:=Heap.get?_push_size _ rfl
 have g3:(((s.heap.push (Yd l1)).push (Yd l2)).push { cls:=.type "tuple",data:=.seq #[.ref s.heap.objs.size,.ref (s.heap.push (Yd l1)).objs.size] }).get? _=some _:=Heap.get?_push_size _ rfl
 have g2:((s.heap.push (Yd l1)).push (Yd l2)).get? _=some _:=Heap.get?_push_size _ rfl
 have g1:(s.heap.push (Yd l1)).get? _=some _:=Heap.get?_push_size _ rfl
 rw [z4] at g5
 rw [z3] at g4
 rw [z2] at g3
 rw [z1] at g2
 conv at g3=>rhs;rw [z1]
 exact ⟨⟨_,g5,rfl⟩,h _ g5 (up (up g3)) (up g4) ⟨_,up (up (up (up g1))),rfl,rfl⟩ ⟨_,up (up (up g2)),rfl,rfl⟩ (by rw [Heap.size_push,z4]) fun c o x=>up (up (up (up (up x))))⟩
end
def ZaO (K:PySem.W.Frag)(l1 l2:Addr):It :=
 ⟨fun i H=>∃ xs ys x y,SqT K H l1 xs∧SqT K H l2 ys∧xs[i]?=some x∧ys[i]?=some y,
  fun i H v H'=>∃ t x y,H t=none∧(∀ xs,SqT K H l1 xs→xs[i]?=some x)∧(∀ ys,SqT K H l2 ys→ys[i]?=some y)∧v=.ref t∧H'=upd H t (.tup [x,y]),
  fun i H=>∃ xs ys,SqT K H l1 xs∧SqT K H l2 ys∧xs.length≤i⟩
theorem Zbu {P:Program}{w:World}{K:PySem.W.Frag}{elts:List Expr}{x1:Nat}{tp:Pos}{z TI TO i1 i2 l1 l2:Addr}(D:ZipApart z TI TO i1 i2 l1 l2)(hTl1:l1≠TI)(hTl2:l2≠TI) :
   XT P w K (.Tuple elts x1 tp) (ZaO K l1 l2) [z,TI,TO,i1,i2] z (fun i h=>IsZip h z TI TO .none∧IsPair h TI (.ref i1) (.ref i2)∧(∃ a b,IsPair h TO a b)∧h.IsTupleIter i1 l1 i∧h.IsTupleIter i2 l2 i) where
 mem:=by simp
 obj:=fun i h st b hb=>by
   obtain ⟨hz,hTI,⟨a,c,hTO⟩,⟨o1,ho1,c1,d1⟩,⟨o2,ho2,c2,d2⟩⟩:=st
   simp only [List.mem_cons,List.not_mem_nil,or_false] at hb
   rcases hb with q | q | q | q | q
   · rw [q];exact ⟨_,hz,fun v z=>by cases z⟩
   · rw [q];exact ⟨_,hTI,fun v z=>by cases z⟩
   · rw [q];exact ⟨_,hTO,fun v z=>by cases z⟩
   · rw [q];exact ⟨o1,ho1,fun v z=>by rw [d1] at z;cases z⟩
   · rw [q];exact ⟨o2,ho2,fun v z=>by rw [d2] at z;cases z⟩
 keep:=fun i h h' st k=>by
   obtain ⟨hz,hTI,⟨a,c,hTO⟩,h1,h2⟩:=st
   exact ⟨k z (by simp) _ hz,k TI (by simp) _ hTI,⟨a,c,k TO (by simp) _ hTO⟩,h1.at fun o y=>k i1 (by simp) o y,h2.at fun o y=>k i2 (by simp) o y⟩
 item:=by
   intro X hP hw hK hc i pins s σ H E I hf st hg
   subst hP hw hK
   obtain ⟨hz,hTI,⟨a,b,hTO⟩,h1,h2⟩:=st
   obtain ⟨xs,ys,x,y,hq1,hq2,hx,hy⟩:=hg
   obtain ⟨its1,rv1,p1,hz1⟩:=I.tuple hq1
   obtain ⟨its2,rv2,p2,hz2⟩:=I.tuple hq2
   obtain ⟨u1,hu1,ru1⟩:=rv1.get hx
   obtain ⟨u2,hu2,ru2⟩:=rv2.get hy
   refine ZcT D hz hTI hTO h1 h2 p1 p2 (by simpa using hu1) (by simpa using hu2) fun h' g1 g2 g3 g4 g5 g6 g7=>?_
   refine ⟨_,rfl,wpAny_letOwnedTupleGo_zip g1 fun h2' g1' hs2=>?_⟩
   have hzl:z < s.heap.objs.size:=Heap.lt_size hz
   have hTIl:TI < s.heap.objs.size:=Heap.lt_size hTI
   have hTOl:TO < s.heap.objs.size:=Heap.lt_size hTO
   have hi1l:i1 < s.heap.objs.size:=by obtain ⟨o,ho,_⟩:=h1;exact Heap.lt_size ho
   have hi2l:i2 < s.heap.objs.size:=by obtain ⟨o,ho,_⟩:=h2;exact Heap.lt_size ho
   have g5':h'.get? s.heap.objs.size=some ({ cls:=.type "tuple",data:=.seq #[u1,u2] }:Obj):=g5
   generalize hO:({ cls:=.type "tuple",data:=.seq #[u1,u2] }:Obj)=O at g5'
   have I1:Inv X pins σ (upd H s.heap.objs.size (.tup [x,y])) { s with heap:=s.heap.push O,toks:=s.toks }:=by
     refine I.laid (t':=s.toks) (fun b o y=>Heap.get?_push_of_some _ y) (Nat.le_refl _) (show ObjOk X.prog X.w _ _ _ (.tup _) from ⟨by show 2≤sizeLine;decide,[u1,u2],.cons ru1 (.cons ru2 .nil),?_⟩)
     rw [← hO];exact IsTup.new _ _
   have hfree:=I.hok.fresh (Nat.le_refl s.heap.objs.size)
   have hf2:∀ b∈[z,TI,TO,i1,i2],Yp X pins (upd H s.heap.objs.size (.tup [x,y])) b:=fun b hb=>by
     obtain ⟨f0,f1⟩:=hf b hb
     have hb':b≠s.heap.objs.size:=by
       simp only [List.mem_cons,List.not_mem_nil,or_false] at hb
       rcases hb with q | q | q | q | q<;>(rw [q];exact Nat.ne_of_lt (by assumption))
     exact ⟨by rw [ZA hb'];exact f0,f1⟩
   have I2:Inv X pins σ (upd H s.heap.objs.size (.tup [x,y])) { s with heap:=h2',toks:=s.toks }:=by
     refine I1.turned2 (t':=s.toks) (h':=h2') (fun b o hb y=>?_) hf2
     have n1:b≠z:=fun q=>hb (by simp [q])
     have n2:b≠TO:=fun q=>hb (by simp [q])
     have n3:b≠i1:=fun q=>hb (by simp [q])
     have n4:b≠i2:=fun q=>hb (by simp [q])
     rw [hs2.2 b n1]
     rcases Heap.get?_push_cases y with ⟨q1,q2⟩ | y
     · rw [q1,q2];exact g5'
     · exact g7 b o n1 n2 n3 n4 y
   refine ⟨.ref s.heap.objs.size,_,I2,rfl,⟨s.heap.objs.size,x,y,hfree,fun ys hy'=>by rw [I.tuple_inj hy' hq1];exact hx,fun ys' hy'=>by rw [I.tuple_inj hy' hq2];exact hy,rfl,rfl⟩,⟨g1',?_,⟨u1,u2,?_⟩,?_,?_⟩,fun b hb=>(hf2 b hb).1⟩
   · show h2'.get? TI=_
     rw [hs2.2 TI D.TIz];exact g7 TI _ D.TIz D.TITO D.TIi1 D.TIi2 hTI
   · show h2'.get? TO=_
     rw [hs2.2 TO D.TOz];exact g2
   · exact g3.at fun o y=>by rw [hs2.2 i1 D.i1z];exact y
   · exact g4.at fun o y=>by rw [hs2.2 i2 D.i2z];exact y
 done:=by
   intro X hP hw hK hc i pins s σ H E I hf st hg
   subst hP hw hK
   obtain ⟨hz,hTI,⟨a,b,hTO⟩,h1,h2⟩:=st
   obtain ⟨xs,ys,hq1,hq2,hle⟩:=hg
   obtain ⟨its1,rv1,p1,hz1⟩:=I.tuple hq1
   obtain ⟨its2,rv2,p2,hz2⟩:=I.tuple hq2
   have l1:=rv1.length
   have l2:=rv2.length
   exact Zdw (I.ok.hd hc) D hz hTI hTO h1 p1 (Array.getElem?_eq_none (by simp;omega)) fun h' eb=>⟨rfl,I.turned2 (t':=s.toks) (fp:=[z,TI,TO,i1,i2]) (fun b o hb y=>eb b o (fun q=>hb (by simp [q])) (fun q=>hb (by simp [q])) (fun q=>hb (by simp [q])) (fun q=>hb (by simp [q])) y) hf⟩
 self:=fun _ _ _ _ _ st h=>wpAny_pyIter_zip st.1 h
def Zfb (K:PySem.W.Frag)(ta tb:TE):TI:=fun σ H R=>ta σ H fun v H1=>tb σ H1 fun u H2=>∃ a b xs ys,[v,u]=[V.ref a,V.ref b]∧SqT K H2 a xs∧SqT K H2 b ys∧R (ZaO K a b) H2
section
variable {X:Cx}
theorem ZdF {l m:Expr}{ta tb:TE}{elts:List Expr}{x1:Nat}{tp p pos:Pos}(hg:Gl X "zip")(hm:X.mg "zip"=none)(hl:PE X l ta)(hr:PE X m tb)
   (he:starEach [l,m] X.env=(false,eval l X.env)::starEach [m] X.env:=by rfl) (he2:starEach [m] X.env=[(false,eval m X.env)]:=by rfl) (hpl:(backTo pos (starEach [m] X.env)).any (·.1)=false:=by rfl):PI X (.Tuple elts x1 tp) (.Call (.Name "zip" p) [l,m] [] pos) (Zfb X.K ta tb):=by
 intro pins s σ H R I h
 have ha:PA X [l,m] (Xl ta (Xl tb Uw)):=ZT hl (ZT hr Za he2) he
 refine wpAny_Call_Name_kw (Wd I hg hm Vp ?_)
 refine PyProof.Rows.callWith_type1 (Zn (ha pos pins s σ H (fun vs H2=>∃ a b xs ys,vs=[V.ref a,V.ref b]∧SqT X.K H2 a xs∧SqT X.K H2 b ys∧R (ZaO X.K a b) H2) I h) fun us s1 ⟨vs,H1,I1,r1,a,b,xs,ys,e,ea,eb,q⟩=>?_) he hpl
 subst e
 obtain ⟨u1,u2,rfl,r2,r3⟩:∃ u1 u2,us=[u1,u2]∧RelV (V.ref a) u1∧RelV (V.ref b) u2:=by
   cases r1 with
   | cons p t=>cases t with
     | cons p2 t2=>cases t2;exact ⟨_,_,rfl,p,p2⟩
 cases r2
 cases r3
 obtain ⟨its1,rv1,⟨o1,eo1,c1,n1,d1⟩,_⟩:=I1.tuple ea
 obtain ⟨its2,rv2,⟨o2,eo2,c2,n2,d2⟩,_⟩:=I1.tuple eb
 have ha1:a < s1.heap.objs.size:=Heap.lt_size eo1
 have hb1:b < s1.heap.objs.size:=Heap.lt_size eo2
 refine Zco ⟨_,eo1,c1,n1,d1⟩ ⟨_,eo2,c2,n2,d2⟩ fun h' g1 g2 g3 g4 g5 g6 g7=>wpAny_pyIter_zip g1 ?_
 refine ⟨s1.heap.objs.size+4,[s1.heap.objs.size+4,s1.heap.objs.size+2,s1.heap.objs.size+3,s1.heap.objs.size,s1.heap.objs.size+1],_,_,H1,rfl,I1.kept (t':=s1.toks) g7,Zbu (l1:=a) (l2:=b) ⟨?_,?_,?_,?_,?_,?_,?_,?_,?_,?_,?_,?_,?_,?_,?_,?_,?_,?_⟩ ?_ ?_,⟨g1,g2,⟨_,_,g3⟩,g4,g5⟩,fun c hc=>?_,q⟩
 rotate_right
 · simp only [List.mem_cons,List.not_mem_nil,or_false] at hc
   have up:∀ k,Yp X pins H1 (s1.heap.objs.size+k):=fun k=>I1.fpOk (Nat.le_add_right _ k) (I1.hok.fresh (Nat.le_add_right _ k))
   rcases hc with q | q | q | q | q
   · rw [q];exact up 4
   · rw [q];exact up 2
   · rw [q];exact up 3
   · rw [q];exact up 0
   · rw [q];exact up 1
 all_goals
   first
     | exact Nat.ne_of_lt (by first | (apply Nat.lt_of_lt_of_le (by assumption);omega) | (simp only [Nat.add_lt_add_iff_left];decide) | (show _ < _+_;exact Nat.lt_add_of_pos_right (by decide)))
     | exact Nat.ne_of_gt (by first | (simp only [Nat.add_lt_add_iff_left];decide) | exact Nat.lt_add_of_pos_right (by decide))
end
end L2
set_option maxHeartbeats 2000000
namespace L2
open PySem PySem.Spec PyProof.Rows
def TyS (K:PySem.W.Frag)(H:Hp)(x:V)(t:Value):Prop:=Xq K H x t∨∃ a xs,x=.ref a∧t=.type "tuple"∧SqT K H a xs
section
variable {X:Cx}{pins:List (Addr×Obj)}{σ:St}{H:Hp}{s:Shared}
theorem ZdC {x:V}{u t:Value}(I:Inv X pins σ H s)(rx:RelV x u)(ty:TyS X.K H x t):∃ Hh:Heap→Prop,PySem.W.KitX X.K u t Hh∧Hh s.heap∧u≠.builtin "__main__.__loader__#opaque":=by
 rcases ty with ty | ⟨a,xs,rfl,rfl,h⟩
 · cases ty with
   | non=>cases (show u=Value.none from rx);exact ⟨_,PySem.W.kitx_none,True.intro,fun z=>nomatch z⟩
   | bl y=>cases (show u=Value.bool y from rx);exact ⟨_,PySem.W.kitx_bool,True.intro,fun z=>nomatch z⟩
   | int i=>obtain ⟨t,q⟩:=(show ∃ t,u=Value.int i t from rx);cases q;exact ⟨_,PySem.W.kitx_int,True.intro,fun z=>nomatch z⟩
   | str y=>obtain ⟨t,q⟩:=(show ∃ t,u=Value.str y t from rx);cases q;exact ⟨_,PySem.W.kitx_str,True.intro,fun z=>nomatch z⟩
   | flt y=>obtain ⟨t,q⟩:=(show ∃ t,u=Value.float y t from rx);cases q;exact ⟨_,PySem.W.kitx_float,True.intro,fun z=>nomatch z⟩
   | @lst a xs ea =>
     cases (show u=Value.ref a from rx)
     obtain ⟨_,_,n,_,h1⟩:=(show ObjOk X.prog X.w H s.heap a (.lst xs) from I.hok a _ ea)
     exact ⟨_,PySem.W.kitx_list,⟨_,h1,rfl⟩,fun z=>nomatch z⟩
   | @frz a ob xs ea =>
     cases (show u=Value.ref a from rx)
     obtain ⟨_,_,_,n,_,h1⟩:=(show ObjOk X.prog X.w H s.heap a (.frz ob (.lst xs)) from I.hok a _ ea)
     exact ⟨_,PySem.W.kitx_list,⟨_,h1,rfl⟩,fun z=>nomatch z⟩
   | @tup a xs ea =>
     cases (show u=Value.ref a from rx)
     obtain ⟨_,_,_,p⟩:=(show ObjOk X.prog X.w H s.heap a (.tup xs) from I.hok a _ ea)
     obtain ⟨o,h1,h2,_⟩:=p
     exact ⟨_,PySem.W.kitx_tuple,⟨o,h1,h2⟩,fun z=>nomatch z⟩
   | @dK a kvs ea =>
     cases (show u=Value.ref a from rx)
     obtain ⟨_,_,vs,_,p⟩:=(show ObjOk X.prog X.w H s.heap a (.dK kvs) from I.hok a _ ea)
     obtain ⟨o,es,ep,h1,h2,_⟩:=p
     exact ⟨_,PySem.W.kitx_dict,⟨o,h1,h2.1⟩,fun z=>nomatch z⟩
   | @dT a kvs ea =>
     cases (show u=Value.ref a from rx)
     obtain ⟨_,_,xs,_,o,es,ep,h1,h2,_⟩:=(show ObjOk X.prog X.w H s.heap a (.dT kvs) from I.hok a _ ea)
     exact ⟨_,PySem.W.kitx_dict,⟨o,h1,h2.1⟩,fun z=>nomatch z⟩
   | @ins a C dx fs ea cl ha hn htk hm =>
     cases (show u=Value.ref a from rx)
     obtain ⟨mA,O,_⟩:=ZdO I.hok ea
     obtain ⟨od,J,_⟩:=O.look
     exact ⟨_,PySem.W.kitx_own (cl.get _) cl.hd ha hn htk hm,J,fun z=>nomatch z⟩
 · cases (show u=Value.ref a from rx)
   obtain ⟨its,_,⟨o,h1,h2,_⟩,_⟩:=I.tuple h
   exact ⟨_,PySem.W.kitx_tuple,⟨o,h1,h2⟩,fun z=>nomatch z⟩
theorem ZK {K:PySem.W.Frag}(hK:X.K=K):YG X (.builtin "isinstance") (fun xs H Q=>∃ x c t b,xs=[x,.ty c]∧TyS K H x t∧PySem.W.kitOne K t (.type c)=some b∧Q (.bl b) H):=by
 subst hK
 intro pins s σ H xs us Q I r h
 obtain ⟨x,c,t,b,rfl,ty,e,q⟩:=h
 obtain ⟨u,u',rfl,ru,ru'⟩:=ZaS r
 cases (show u'=Value.type c from ru')
 obtain ⟨Hh,Z,p,hx⟩:=ZdC I ru ty
 exact PySem.W.kia_one Z I.kIn p e hx fun tk=>⟨.bl b,H,I.tok tk,rfl,q⟩
end
theorem PI.or {X:Cx}{tg e:Expr}{t u:TI}(h1:PI X tg e t)(h2:PI X tg e u):PI X tg e (fun σ H R=>t σ H R∨u σ H R):=by
 intro pins s σ H R I h
 rcases h with h | h
 · exact h1 pins s σ H R I h
 · exact h2 pins s σ H R I h
theorem Zbj {K:PySem.W.Frag}{a b:Addr}{xs zs:List V}{g:TG}{te:TE}{σ:St}{D:Addr}{Q:VK}{H:Hp}(hn:xs.length≤sizeLine)(hz:zs.length=xs.length)(Pv:Nat→List V→Hp→Prop)(h0:Pv 0 [] (upd H D (.lst [])))
   (hl:∀ i ys H,Pv i ys H→ys.length=i∧SqT K H a xs∧SqT K H b zs)
   (hs:∀ i x z t ys H wa wb,xs[i]?=some x→zs[i]?=some z→H t=none→Pv i ys H→g (.ref t) (σ++[wa,wb]) (upd H t (.tup [x,z])) fun σ' H'=>(∃ wa wb,σ'=σ++[wa,wb])∧te σ' H' fun y H4=>H4 D=some (.lst ys)∧Pv (i+1) (ys++[y]) (upd H4 D (.lst (ys++[y]))))
   (hd:∀ ys H,Pv xs.length ys H→Q (.ref D) H):Zbh (ZaO K a b) g te σ D Q H:=by
 refine ⟨fun i m ys H=>m=xs.length - i∧i≤xs.length∧Pv i ys H,⟨xs.length,by simp,Nat.zero_le _,h0⟩,?_⟩
 rintro i m ys H2 ⟨rfl,hi,p⟩
 obtain ⟨hlen,q1,q2⟩:=hl i ys _ p
 by_cases hlt:i < xs.length
 · have h2:i < zs.length:=by omega
   refine .inr ⟨⟨xs,zs,xs[i],zs[i],q1,q2,by simp [hlt],by simp [h2]⟩,_,fun y H4 (q:H4 D=some (.lst ys)∧Pv (i+1) (ys++[y]) (upd H4 D (.lst (ys++[y]))))=>⟨q.1,by omega,xs.length - (i+1),by omega,rfl,hlt,q.2⟩,fun wa wb v H3 y=>?_⟩
   obtain ⟨t,x,z,ht,hx,hz,rfl,rfl⟩:=y
   exact hs i x z t ys H2 wa wb (hx xs q1) (hz zs q2) ht p
 · have e:i=xs.length:=by omega
   subst e
   exact .inl ⟨⟨xs,zs,q1,q2,by omega⟩,hd ys H2 p⟩
end L2
namespace L2
open PySem
structure FG (K:PySem.W.Frag)(x:Str)(st:Stmt)(f:Addr)(fd:FuncData):Prop where
 a:PySem.W.nsIn K mainGlobals x=some (some (.ref f))
 F:Fun K x x st f fd
structure Bs (P:Program)(w:World)(K:PySem.W.Frag)(mg:Str→Option Value)(base h:Heap):Prop where
 X:K.In h
 G:h.Ns mainGlobals mg
section
variable {P:Program}{w:World}{K:PySem.W.Frag}{mg:Str→Option Value}{base h:Heap}{x q:Str}{st:Stmt}{f c Pl C:Addr}{fd:FuncData}{k:Nat}{ps:List Str}{sp:Sp}{p1 p2 p3 p4 p5:Str}
theorem FG.df (g:FG K x st f fd)(e:Bs P w K mg base h)(o:FnOk P w K mg base Yb k f fd ps sp)(b:Binds K fd ps []):Def P w K mg base k x ps sp:=⟨f,fd,o,b,g.F.kp,PySem.W.mg_of e.X e.G g.a⟩
abbrev BA (x q:Str)(st:Stmt)(us:List Value)(r:List (Str×Value)):Prop:=∀(kV doc pm:Value)(an:Option Addr)(cdv ct:Value),bindArgs (PySem.W.fnOf x q (UA st) (Wi st) (Zo st) .none kV doc pm an cdv ct) ⟨us,[]⟩=pure r
theorem Fun.b1 (F:Fun K x q st f fd)(h:∀ u,BA x q st [u] [(p1,u)]):Binds K fd [p1] []:=F.binds fun a b c d e g us hl=>match us,hl with | [u],_=>h u a b c d e g
theorem Fun.b2 (F:Fun K x q st f fd)(h:∀ u v,BA x q st [u,v] [(p1,u),(p2,v)]):Binds K fd [p1,p2] []:=F.binds fun a b c d e g us hl=>match us,hl with | [u,v],_=>h u v a b c d e g
theorem ZbX (F:Fun K x q st f fd)(h:∀ u,BA x q st [u] [(p1,u)])(s:Shared)(v:Value):BindsTo s fd ⟨[v],[]⟩ [(p1,v)]:=by
 obtain ⟨oc,od,kV,doc,pm,an,cdv,ct,osl,rfl,lk,hcd⟩:=F.ex
 exact .of_eq (h v kV doc pm an cdv ct)
end
end L2
set_option maxHeartbeats 2000000
namespace L2
open PySem PySem.Spec PyProof.Rows
def Zcr:Expr→Option V
 | .Constant (.int i) _ _=>some (.int i)
 | .Constant (.str x) _ _=>some (.str x)
 | .Constant (.bool b) _ _=>some (.bl b)
 | .Constant .none _ _=>some .non
 | _=>none
def Zbb:List Expr→Option (List V)
 | []=>some []
 | e::es=>match Zcr e,Zbb es with
   | some v,some vs=>some (v::vs)
   | _,_=>none
section
variable {X:Cx}
theorem ZdX {e:Expr}{v:V}(h:Zcr e=some v):PE X e (tC v)∧∀ es,starEach (e::es) X.env=(false,eval e X.env)::starEach es X.env:=by
 unfold Zcr at h
 split at h<;>cases h
 · exact ⟨Zb,fun _=>rfl⟩
 · exact ⟨Zl,fun _=>rfl⟩
 · exact ⟨Xb,fun _=>rfl⟩
 · exact ⟨ZbC,fun _=>rfl⟩
def ZeY (vs:List V):TA:=fun _ H Q=>Q vs H
theorem Zab:∀{es:List Expr}{vs:List V},Zbb es=some vs→PA X es (ZeY vs)
 | [],_,h=>by cases h;exact Za
 | e :: es,vs,h=>by
   rw [Zbb] at h
   split at h
   · rename_i v ws h1 h2
     cases h
     obtain ⟨p,s⟩:=ZdX (X:=X) h1
     exact ZT p (Zab h2) (s es)
   · cases h
end
theorem XE:fillsNumberSlot (.type "tuple") "mul"=pure false :=
 PyProof.Rows.fillsNumberSlot_seq (id:="tuple.__mul__") (r:=some (.builtin "tuple.__rmul__")) F.slot_tuple_mul.lookup (by decide +kernel) F.slot_tuple_rmul.lookup (by decide +kernel)
theorem WE:seqRepeat? (.type "tuple")=pure (some (.builtin "tuple.__mul__")):=by
 unfold seqRepeat?
 rw [PyProof.Rows.seqSlot_of (T:="tuple") (name:="__mul__") (id:="tuple.__mul__") F.slot_tuple_mul.lookup (by decide +kernel),PyProof.Rows.seqSlot_of (T:="tuple") (name:="__rmul__") (id:="tuple.__rmul__") F.slot_tuple_rmul.lookup (by decide +kernel)]
 rfl
theorem Wf (a:Int)(t:Tok)(l:Addr)(items:Array Value)(n:Nat)(dd:Option Addr)(sl:Array (Option Value)) :
   Meets (Builtin.«int.__rmul__» ⟨[.int a t,.ref l],[]⟩) (fun _ R s=>s.heap.get? l=some { cls:=.type "tuple",dict:=dd,data:=.seq items n,slots:=sl }∧R (.ok (.ret Value.notImplemented)) s) :=
 .of_wp fun prog w A R s h=>by obtain ⟨hp,g,d,tk,os⟩:=s;obtain ⟨hl,h⟩:=h;wp_walk;exact ⟨_,rfl,h⟩
theorem ZaR (l:Addr)(items:Array Value)(n:Nat)(dd:Option Addr)(sl:Array (Option Value))(k:Int)(t:Tok)(h2:¬ (decide (k < -(2 ^ 63)) || decide (k ≥ 2 ^ 63))=true)(hne:¬ (items.isEmpty || k == 1)=true)(h0:¬ (decide (k≤0) || items.isEmpty)=true)(hcap:¬ (items.size:Int) * k > (2 ^ 63 - 1) / 8)(hmany:¬ Builtin.Tuple.tupleTooMany ((items.size:Int) * k)=true)(hsz:((List.replicate k.toNat items).foldl (·++·) #[]).size≤sizeLine) :
   Meets (Builtin.«tuple.__mul__» ⟨[.ref l,.int k t],[]⟩) (fun _ R s=>s.heap.get? l=some { cls:=.type "tuple",dict:=dd,data:=.seq items n,slots:=sl }∧R (.ok (.ret (.ref s.heap.objs.size))) { s with heap:=s.heap.push { cls:=.type "tuple",data:=.seq ((List.replicate k.toNat items).foldl (·++·) #[]) } }) :=
 .of_wp fun prog w A R s h=>by
   obtain ⟨hp,g,d,tk,os⟩:=s;obtain ⟨hl,h⟩:=h;wp_walk
   rw [if_neg h2]
   dsimp only
   refine wpAny_bind (tupleItemsOf_ ⟨_,hl,rfl,n,rfl⟩ ?_)
   rw [if_neg hne,if_neg h0,if_neg hcap,if_neg hmany]
   exact wpAny_bind (m:=Builtin.Tuple.tupleExact _) (wpAny_newObj_type (wpAny_pure ⟨_,rfl,h⟩) hsz)
theorem ZaG (l:Addr)(n:Nat)(dd:Option Addr)(sl:Array (Option Value))(k:Int)(t:Tok)(h2:¬ (decide (k < -(2 ^ 63)) || decide (k ≥ 2 ^ 63))=true) :
   Meets (Builtin.«tuple.__mul__» ⟨[.ref l,.int k t],[]⟩) (fun _ R s=>s.heap.get? l=some { cls:=.type "tuple",dict:=dd,data:=.seq #[] n,slots:=sl }∧R (.ok (.ret (.ref l))) s) :=
 .of_wp fun prog w A R s h=>by
   obtain ⟨hp,g,d,tk,os⟩:=s;obtain ⟨hl,h⟩:=h;wp_walk
   rw [if_neg h2]
   dsimp only
   refine wpAny_bind (tupleItemsOf_ ⟨_,hl,rfl,n,rfl⟩ ?_)
   rw [if_pos (show ((#[]:Array Value).isEmpty || k == 1)=true from rfl)]
   wp_walk
   exact ⟨_,rfl,h⟩
def Zdd (K:PySem.W.Frag):R2:=fun x y H Q=>∃ l k xs,x=.ref l∧y=.int k∧SqT K H l xs∧2≤k∧k≤10000∧xs.length≤1000∧xs.length * k.toNat≤100000∧(xs=[]→Q (.ref l) H)∧(xs≠[]→∀ p,H p=none→Q (.ref p) (upd H p (.tup (List.replicate k.toNat xs).flatten)))
section
variable {X:Cx}
theorem Zaf:Yh X (binaryOp .Mult) (Zdd X.K):=by
 intro pins s σ H x y v u Q I rx ry h
 obtain ⟨l,k,xs,rfl,rfl,hq,h1,h2,hx,hz,q1,q2⟩:=h
 cases rx
 obtain ⟨t,rfl⟩:=ry
 obtain ⟨its,r,p1,_⟩:=I.tuple hq
 obtain ⟨⟨cls,dd,data,sl⟩,ho,hc,n,hd⟩:=id p1
 simp only at hc hd
 subst hc hd
 have hlen:=r.length
 have hr:¬ (decide (k < -(2 ^ 63)) || decide (k ≥ 2 ^ 63))=true:=by simp;omega
 by_cases hne:xs=[]
 · have:its=[]:=r.nil_iff.mpr hne
   subst this
   refine wpAny_binaryOp_repeat_ref (T:="tuple") (U:="int") (by decide) ⟨_,ho,rfl⟩ (fun s'=>typeIs_int s' k t) XE F.fills_int_mul F.slot_int_rmul WE F.slot_int_index.lookup
     (call_meets F.slot_int_rmul (typeIs_int s k t) F.entry_int_rmul (F.args_int_rmul_2 _ _) (Wf k t l _ n dd sl)
       ⟨ho,rfl,⟨_,ho,rfl⟩,call_meets F.slot_tuple_mul ⟨_,ho,rfl⟩ F.entry_tuple_mul (F.args_tuple_mul_2 _ _) (ZaG l n dd sl k t hr) ⟨ho,?_⟩⟩)
   exact ⟨.ref l,H,I,rfl,q1 hne⟩
 · have hi:its≠[]:=fun z=>hne (r.nil_iff.mp z)
   have ke:(List.replicate k.toNat its.toArray).foldl (fun x1 x2=>x1++x2) #[]=(List.replicate k.toNat its).flatten.toArray:=by
     have:=Vc its k.toNat []
     rw [List.nil_append] at this
     exact this
   have kz:(List.replicate k.toNat its).flatten.length≤sizeLine:=by rw [Zan,Nat.mul_comm,← hlen];exact Nat.le_trans hz (by decide)
   have kn:((its.toArray.size:Nat):Int) * k=((its.length * k.toNat:Nat):Int):=by rw [List.size_toArray,Int.natCast_mul,show ((k.toNat:Nat):Int)=k by omega]
   refine wpAny_binaryOp_repeat_ref (T:="tuple") (U:="int") (by decide) ⟨_,ho,rfl⟩ (fun s'=>typeIs_int s' k t) XE F.fills_int_mul F.slot_int_rmul WE F.slot_int_index.lookup
     (call_meets F.slot_int_rmul (typeIs_int s k t) F.entry_int_rmul (F.args_int_rmul_2 _ _) (Wf k t l _ n dd sl)
       ⟨ho,rfl,⟨_,ho,rfl⟩,call_meets F.slot_tuple_mul ⟨_,ho,rfl⟩ F.entry_tuple_mul (F.args_tuple_mul_2 _ _) (ZaR l its.toArray n dd sl k t hr (by simp [hi];omega) (by simp [hi];omega) (by rw [kn,← hlen];omega) ?many (by rw [ke,List.size_toArray];exact kz)) ⟨ho,?_⟩⟩)
   case many =>
     rw [kn,← hlen]
     unfold Builtin.Tuple.tupleTooMany
     intro z
     have z:=of_decide_eq_true z
     have h8:(100000:Nat)≤sizeLine:=by decide
     omega
   rw [ke]
   exact ⟨.ref _,_,I.laid (t':=s.toks) (o:=.tup (List.replicate k.toNat xs).flatten) (fun b ob q=>Heap.get?_push_of_some _ q) (Nat.le_refl _) ⟨by rw [Zan,Nat.mul_comm];exact Nat.le_trans hz (by decide),_,r.rep k.toNat,IsTup.new _ _⟩,rfl,q2 hne _ (I.hok.fresh (Nat.le_refl _))⟩
end
section
variable {K:PySem.W.Frag}{x q:Str}{st:Stmt}{f:Addr}{fd:FuncData}{p1 p2 p3 p4 p5 p6 p7:Str}
theorem Fun.b6 (F:Fun K x q st f fd)(h:∀ u v y z z' u',BA x q st [u,v,y,z,z',u'] [(p1,u),(p2,v),(p3,y),(p4,z),(p5,z'),(p6,u')]):Binds K fd [p1,p2,p3,p4,p5,p6] []:=F.binds fun a b c d e g us hl=>match us,hl with | [u,v,y,z,z',u'],_=>h u v y z z' u' a b c d e g
theorem Fun.b7 (F:Fun K x q st f fd)(h:∀ u v y z z' u' v',BA x q st [u,v,y,z,z',u',v'] [(p1,u),(p2,v),(p3,y),(p4,z),(p5,z'),(p6,u'),(p7,v')]):Binds K fd [p1,p2,p3,p4,p5,p6,p7] []:=F.binds fun a b c d e g us hl=>match us,hl with | [u,v,y,z,z',u',v'],_=>h u v y z z' u' v' a b c d e g
end
section
variable {X:Cx}
end
end L2
set_option maxHeartbeats 2000000
namespace L2
open PySem PySem.Spec PyProof.Rows
mutual
inductive DatA (K:PySem.W.Frag)(H:Hp):V→PyData→Prop
 | non:DatA K H .non .none
 | bl (b):DatA K H (.bl b) (.bool b)
 | int (i):DatA K H (.int i) (.int i)
 | str (x):DatA K H (.str x) (.str x)
 | lst {a xs ds}:H a=some (.lst xs)→xs.length≤20000→DatAs K H xs ds→DatA K H (.ref a) (.list ds)
 | tup {a xs ds}:SqT K H a xs→xs.length≤20000→DatAs K H xs ds→DatA K H (.ref a) (.tuple ds)
inductive DatAs (K:PySem.W.Frag)(H:Hp):List V→List PyData→Prop
 | nil:DatAs K H [] []
 | cons {v d vs ds}:DatA K H v d→DatAs K H vs ds→DatAs K H (v::vs) (d::ds)
end
mutual
theorem DatA.same {K:PySem.W.Frag}{H H':Hp}(s:Same H H'):∀{v d},DatA K H v d→DatA K H' v d
 | _,_,.non=>.non
 | _,_,.bl b=>.bl b
 | _,_,.int i=>.int i
 | _,_,.str x=>.str x
 | _,_,.lst e h q=>.lst (s _ _ e) h (DatAs.same s q)
 | _,_,.tup e h q=>.tup (e.tf s.tf) h (DatAs.same s q)
theorem DatAs.same {K:PySem.W.Frag}{H H':Hp}(s:Same H H'):∀{vs ds},DatAs K H vs ds→DatAs K H' vs ds
 | _,_,.nil=>.nil
 | _,_,.cons r t=>.cons (DatA.same s r) (DatAs.same s t)
end
theorem DatAs.len {K:PySem.W.Frag}{H:Hp}:∀{vs ds},DatAs K H vs ds→vs.length=ds.length
 | _,_,.nil=>rfl
 | _,_,.cons q t=>by rw [List.length_cons,List.length_cons,DatAs.len t]
theorem DatAs.at {K:PySem.W.Frag}{H:Hp}:∀{vs ds}{i:Nat}{v:V},DatAs K H vs ds→vs[i]?=some v→∃ d,ds[i]?=some d∧DatA K H v d
 | _,_,_,_,.nil,h=>by simp at h
 | _,_,0,_,.cons a _,h=>by cases h;exact ⟨_,rfl,a⟩
 | _,_,i+1,_,.cons _ b,h=>DatAs.at (i:=i) b h
theorem Xe:∀{ds:List PyData}{i:Nat}{d:PyData},ds[i]?=some d→d.depth≤PyData.depthAll ds
 | [],_,_,h=>by simp at h
 | q::ds,0,_,h=>by cases h;rw [PyData.depthAll];exact Nat.le_max_left _ _
 | q::ds,i+1,p,h=>by rw [PyData.depthAll];exact Nat.le_trans (Xe (ds:=ds) (i:=i) h) (Nat.le_max_right _ _)
theorem DatAs.append {K:PySem.W.Frag}{H:Hp}:∀{vs ds ws es},DatAs K H vs ds→DatAs K H ws es→DatAs K H (vs++ws) (ds++es)
 | _,_,_,_,.nil,h=>h
 | _,_,_,_,.cons a b,h=>.cons a (DatAs.append b h)
section
variable {X:Cx}{pins:List (Addr×Obj)}{σ:St}{H:Hp}{s:Shared}
mutual
theorem DatA.reads (I:Inv X pins σ H s):∀{v d}(u:Value),DatA X.K H v d→RelV v u→d.hasDict=false∧∃ as,Reads s.heap u d as
 | _,_,u,.non,r=>by cases (show u=.none from r);exact ⟨rfl,_,.none⟩
 | _,_,u,.bl b,r=>by cases (show u=.bool b from r);exact ⟨rfl,_,.bool b⟩
 | _,_,u,.int i,r=>by obtain ⟨t,e⟩:=(show ∃ t,u=.int i t from r);subst e;exact ⟨rfl,_,.int i t⟩
 | _,_,u,.str x,r=>by obtain ⟨t,e⟩:=(show ∃ t,u=.str x t from r);subst e;exact ⟨rfl,_,.str x t⟩
 | _,_,u,.lst (a:=a) (xs:=xs) e _ q,r=>by
   cases (show u=.ref a from r)
   obtain ⟨_,its,n,rv,g⟩:=(show ObjOk X.prog X.w H s.heap a (.lst xs) from I.hok a _ e)
   obtain ⟨nd,as,ra⟩:=DatAs.reads I its q rv
   exact ⟨by simpa [PyData.hasDict] using nd,_,.list g rfl rfl (by simpa using ra)⟩
 | _,_,u,.tup (a:=a) (xs:=xs) e _ q,r=>by
   cases (show u=.ref a from r)
   obtain ⟨its,rv,⟨o,g,c,n,d⟩,_⟩:=I.tuple e
   obtain ⟨nd,as,ra⟩:=DatAs.reads I its q rv
   exact ⟨by simpa [PyData.hasDict] using nd,_,.tuple g c d (by simpa using ra)⟩
theorem DatAs.reads (I:Inv X pins σ H s):∀{vs ds}(us:List Value),DatAs X.K H vs ds→Vals vs us→PyData.hasDictAll ds=false∧∃ as,ReadsAll s.heap us ds as
 | _,_,_,.nil,.nil=>⟨rfl,_,.nil⟩
 | _,_,_,.cons r t,.cons rv tv=>by
   obtain ⟨n1,as,r1⟩:=DatA.reads I _ r rv
   obtain ⟨n2,bs,r2⟩:=DatAs.reads I _ t tv
   exact ⟨by simp [PyData.hasDictAll,n1,n2],_,.cons r1 r2⟩
end
end
section
variable {X:Cx}
def Zcn (K:PySem.W.Frag):R2:=fun x y H Q=>∃ dx dy,DatA K H x dx∧DatA K H y dy∧dx.canLay0=true∧dy.canLay0=true∧dx.depth≤60∧Q (.bl (PyData.eqv dx dy)) H
theorem Vx {K:PySem.W.Frag}(hK:X.K=K)(hu:X.A.units+64 < cLine):Yh X (compareOp .Eq) (Zcn K):=by
 subst hK
 intro pins s σ H x y v u Q I rx ry h
 obtain ⟨dx,dy,d1,d2,c1,c2,hd,q⟩:=h
 obtain ⟨_,as,r1⟩:=DatA.reads I v d1 rx
 obtain ⟨_,bs,r2⟩:=DatA.reads I u d2 ry
 exact SeqAt.compareEq_reads r1 r2 c1 c2 (by omega) ⟨.bl _,H,I,rfl,q⟩
def Zdb (K:PySem.W.Frag):R2:=fun x y H Q=>∃ a b xs ys,x=.ref a∧y=.ref b∧SqT K H a xs∧SqT K H b ys∧xs.length+ys.length≤sizeLine ∧
 ((xs=[]∧Q (.ref b) H)∨(xs≠[]∧ys=[]∧Q (.ref a) H)∨(xs≠[]∧ys≠[]∧∀ p,H p=none→Q (.ref p) (upd H p (.tup (xs++ys)))))
theorem Yt {K:PySem.W.Frag}(hK:X.K=K):Yh X (binaryOp .Add) (Zdb K):=by
 subst hK
 intro pins s σ H x y v u Q I rx ry h
 obtain ⟨a,b,xs,ys,rfl,rfl,ha,hb,hz,h⟩:=h
 rcases h with ⟨hx,q⟩ | ⟨hx,hy,q⟩ | ⟨hx,hy,q⟩
 · cases rx;cases ry
   obtain ⟨its,r1,p1,_⟩:=I.tuple ha
   obtain ⟨its2,r2,p2,_⟩:=I.tuple hb
   obtain ⟨⟨cls,dd,data,sl⟩,ho,hc,n,hd⟩:=id p1
   obtain ⟨⟨cls2,dd2,data2,sl2⟩,ho2,hc2,n2,hd2⟩:=id p2
   simp only at hc hd hc2 hd2
   subst hc hd hc2 hd2
   exact concat_meets ⟨_,ho,rfl⟩ ⟨_,ho2,rfl⟩ noFill_tuple_add seq_tuple_add PySem.F.slot_tuple_add PySem.F.entry_tuple_add (PySem.F.args_tuple_add_2 _ _)
     (tuple_addW0 a b its.toArray its2.toArray n n2 dd dd2 sl sl2 (by simp [r1.nil_iff.mpr hx])) ⟨ho,ho2,⟨.ref b,H,I,rfl,q⟩⟩
 · exact UE pins s σ H _ _ v u Q I rx ry ⟨a,b,xs,ys,rfl,rfl,ha,hb,hx,hz,fun _=>q,fun z=>absurd hy z⟩
 · exact UE pins s σ H _ _ v u Q I rx ry ⟨a,b,xs,ys,rfl,rfl,ha,hb,hx,hz,fun z=>absurd z hy,fun _=>q⟩
def rSlA (K:PySem.W.Frag):V→Option Int→Option Int→Hp→VK→Prop:=fun x lo hi H Q=>∃ a xs,x=.ref a∧SqT K H a xs ∧
 ((HT.sIx xs.length 0 lo=0∧HT.sIx xs.length xs.length hi=xs.length∧Q (.ref a) H)∨(¬ (HT.sIx xs.length 0 lo=0∧HT.sIx xs.length xs.length hi=xs.length)∧∀ p,H p=none→Q (.ref p) (upd H p (.tup (XX xs lo hi)))))
theorem Ym {K:PySem.W.Frag}(hK:X.K=K):SlR X (rSlA K):=by
 subst hK
 intro pins s σ H x v vl vu lo hi sl Q I rx hs pl pu h
 obtain ⟨a,xs,rfl,hx,h⟩:=h
 rcases h with ⟨w1,w2,q⟩ | ⟨hw,q⟩
 · cases rx
   obtain ⟨its,r,ht,hz⟩:=I.tuple hx
   have hlen:its.toArray.size=xs.length:=by rw [List.size_toArray];exact r.length.symm
   refine ⟨"tuple",_,PyProof.Rows.slot_tuple_getitem.lookup,ht.typeIs,?_⟩
   obtain ⟨os,hos,hcs,hds⟩:=id hs
   have hTs:s.TypeIs (.ref sl) "slice":=⟨os,hos,hcs⟩
   obtain ⟨⟨cls,dd,data,sl'⟩,ho,hc,n,hd⟩:=id ht
   simp only at hc hd
   subst hc hd
   unfold getItem
   try with_reducible refine wpAny_holding ?_
   first | refine wpAny_bind (wpAny_pure ?_) | skip
   refine wpAny_bind (wpAny_sequenceKey ht.typeIs (by decide) ?_)
   refine wpAny_bind (wpAny_callSpecial?_slot (name:=Str.ofString "__getitem__") ht.typeIs PyProof.Rows.slot_tuple_getitem
     (wpAny_call_entry PyProof.Rows.slot_tuple_getitem ht.typeIs entry_tuple_getitem ?_ (args_tuple_getitem _ _)))
   show wpAny _ _ (Builtin.Tuple.tupleItemsOf (.ref a) >>= _) _ _ s
   refine wpAny_bind (tupleItemsOf_ ht ?_)
   refine wpAny_bind (wpAny_typeOf hTs ?_)
   rw [if_pos (by decide)]
   refine wpAny_bind (HT.sliceApplied_gen hs pl pu ?_)
   rw [hlen,w1,w2]
   dsimp only
   rw [if_pos (by simp)]
   unfold Builtin.Tuple.tupleIsExact
   refine wpAny_bind (wpAny_bind (wpAny_typeOf ht.typeIs (wpAny_pure ?_)))
   rw [if_pos (by decide)]
   exact wpAny_bind (wpAny_rule (wpAny_pure ⟨_,rfl,wpAny_pure ⟨.ref a,H,I,rfl,q⟩⟩))
 · exact VP pins s σ H _ v vl vu lo hi sl Q I rx hs pl pu ⟨a,xs,rfl,hx,hw,q⟩
end
def XH (f:Expr→Option PyData):List Expr→Option (List PyData)
 | []=>some []
 | e::es=>match f e,XH f es with
   | some d,some ds=>some (d::ds)
   | _,_=>none
def Zbs:Expr→Option PyData
 | .Constant (.int i) _ _=>some (.int i)
 | .Constant (.str x) _ _=>some (.str x)
 | .Constant (.bool b) _ _=>some (.bool b)
 | .Constant .none _ _=>some .none
 | .UnaryOp .USub (.Constant (.int i) _ _) _=>some (.int (-i))
 | .BinOp (.Constant (.int a) _ _) .Pow (.Constant (.int b) _ _) _=>if 0≤b∧b≤1000∧a.natAbs < 1000 then some (.int (a ^ b.toNat)) else none
 | .BinOp (.Constant (.str x) _ _) .Mult (.Constant (.int n) _ _) _=>if x.length=1∧2≤n∧n≤100 then some (.str (Txt.mul x n)) else none
 | _=>none
def VU:Nat→Expr→Option PyData
 | n+1,.Tuple es _ _=>if es.length≤1000 then (XH (VU n) es).map .tuple else none
 | n+1,.List es _=>if es.length≤1000 then (XH (VU n) es).map .list else none
 | _,e=>Zbs e
theorem Zdu (x:Str)(n:Int)(h:x.length=1∧2≤n∧n≤100):MulOk x n:=by
 obtain ⟨h1,h2,h3⟩:=h
 refine ⟨by simp;omega,fun _ _ z=>?_,fun _ _=>?_⟩
 · rw [h1] at z
   have:(1:Int)≤(2 ^ 63 - 1) / n:=Int.le_ediv_of_mul_le (by omega) (by omega)
   omega
 · rw [h1]
   unfold Builtin.Str.tooLong
   simp only [decide_eq_false_iff_not]
   have:sizeLine=16777216:=sizeLine_eq
   omega
def ZaU (K:PySem.W.Frag)(d:PyData):TE:=fun _ H Q=>∀ v H',Same H H'→DatA K H' v d→Q v H'
section
variable {X:Cx}
theorem Zao {K:PySem.W.Frag}{e:Expr}{d:PyData}(h:Zbs e=some d):PE X e (ZaU K d)∧notStar e=true:=by
 unfold Zbs at h
 split at h
 · cases h;exact ⟨fun pins s σ H Q I q=>Zb pins s σ H Q I (q _ H (Same.refl H) (.int _)),rfl⟩
 · cases h;exact ⟨fun pins s σ H Q I q=>Zl pins s σ H Q I (q _ H (Same.refl H) (.str _)),rfl⟩
 · cases h;exact ⟨fun pins s σ H Q I q=>Xb pins s σ H Q I (q _ H (Same.refl H) (.bl _)),rfl⟩
 · cases h;exact ⟨fun pins s σ H Q I q=>ZbC pins s σ H Q I (q _ H (Same.refl H) .non),rfl⟩
 · cases h;exact ⟨fun pins s σ H Q I q=>Zfq ZeI Zb pins s σ H Q I ⟨_,rfl,q _ H (Same.refl H) (.int _)⟩,rfl⟩
 · split at h
   · rename_i hc
     cases h
     exact ⟨fun pins s σ H Q I q=>Zk Wv Zb Zb pins s σ H Q I ⟨_,_,rfl,rfl,⟨hc.1,by omega,by omega⟩,q _ H (Same.refl H) (.int _)⟩,rfl⟩
   · cases h
 · split at h
   · rename_i hc
     cases h
     exact ⟨fun pins s σ H Q I q=>Zk ZaM Zl Zb pins s σ H Q I ⟨_,_,rfl,rfl,Zdu _ _ hc,q _ H (Same.refl H) (.str _)⟩,rfl⟩
   · cases h
 · cases h
def Zff (K:PySem.W.Frag)(ds:List PyData):TA:=fun _ H Q=>∀ vs H',Same H H'→DatAs K H' vs ds→Q vs H'
theorem UC {K:PySem.W.Frag}{f:Expr→Option PyData}(hf:∀ e d,f e=some d→PE X e (ZaU K d)∧notStar e=true):∀{es:List Expr}{ds:List PyData},XH f es=some ds→PA X es (Zff K ds)
 | [],_,h=>by
   cases h
   intro pos pins s σ H Q I q
   exact Za pos pins s σ H Q I (q _ H (Same.refl H) .nil)
 | e :: es,ds,h=>by
   rw [XH] at h
   split at h
   · rename_i d ds h1 h2
     cases h
     obtain ⟨p,ns⟩:=hf e d h1
     intro pos pins s σ H Q I q
     refine ZT p (UC hf h2) (ZaJ ns) pos pins s σ H Q I ?_
     intro v H1 s1 d1 vs H2 s2 d2
     exact q _ H2 (s1.trans s2) (.cons (d1.same s2) d2)
   · cases h
theorem WW {f:Expr→Option PyData}:∀{es:List Expr}{ds:List PyData},XH f es=some ds→ds.length=es.length
 | [],_,h=>by cases h;rfl
 | e :: es,ds,h=>by
   rw [XH] at h
   split at h
   · rename_i d ds h1 h2
     cases h
     rw [List.length_cons,List.length_cons,WW h2]
   · cases h
theorem UB {K:PySem.W.Frag}:∀(n:Nat)(e:Expr)(d:PyData),VU n e=some d→PE X e (ZaU K d)∧notStar e=true
 | 0,e,d,h=>by
   have h':Zbs e=some d:=by cases e<;>exact h
   exact Zao h'
 | n + 1,e,d,h=>by
   unfold VU at h
   split at h
   · rename_i es _ _ heq
     split at h
     · rename_i hl
       obtain ⟨ds,h1,rfl⟩:=Option.map_eq_some_iff.mp h
       have hn:=WW h1
       refine ⟨fun pins s σ H Q I q=>Zx (UC (K:=K) (fun e d=>UB _ e d) h1) pins s σ H Q I ?_,rfl⟩
       intro vs H' s' d'
       have hl2:=d'.len
       exact ⟨Yw (show vs.length≤1000 by omega),fun p hp=>q _ _ (s'.trans (Zf hp _)) (.tup (SqT.of Zh) (by omega) (DatAs.same (Zf hp _) d'))⟩
     · cases h
   · rename_i es _ heq
     split at h
     · rename_i hl
       obtain ⟨ds,h1,rfl⟩:=Option.map_eq_some_iff.mp h
       have hn:=WW h1
       refine ⟨fun pins s σ H Q I q=>YI (UC (K:=K) (fun e d=>UB _ e d) h1) pins s σ H Q I ?_,rfl⟩
       intro vs H' s' d'
       have hl2:=d'.len
       exact ⟨Yw (show vs.length≤1000 by omega),fun p hp=>q _ _ (s'.trans (Zf hp _)) (.lst Zh (by omega) (DatAs.same (Zf hp _) d'))⟩
     · cases h
   · exact Zao h
theorem XF {K:PySem.W.Frag}(n:Nat){e:Expr}{d:PyData}(h:VU n e=some d):PE X e (ZaU K d):=(UB n e d h).1
end
end L2
set_option maxHeartbeats 4000000
namespace K54
open PySem L2
def Yq:PyData→Bool
 | .str x=>(decide (1≤x.length)&&decide (x.length≤8))&&x.cps.toList.all Yf
 | _=>false
def YJ:PyData→Bool
 | .str x=>x.cps.toList.all Yv
 | .int _=>true
 | _=>false
def numD:PyData→Bool
 | .int _=>true
 | _=>false
theorem ca:(Str.ofString "a").cps.toList=[97]:=by decide +kernel
theorem cz:(Str.ofString "z").cps.toList=[122]:=by decide +kernel
theorem cbl:(Str.ofString " ").cps.toList=[32]:=by decide +kernel
theorem cti:(Str.ofString "~").cps.toList=[126]:=by decide +kernel
def ZcE:PyData→Prop
 | .str x=>x.length≤1000
 | _=>True
theorem YN {K:PySem.W.Frag}{H:Hp}{z:V}{d:PyData}(h:DatA K H z d):∃ t,TyS K H z t∧PySem.W.kitOne K t (.type "tuple")=some (match d with | .tuple _=>true | _=>false)∧PySem.W.kitOne K t (.type "bool")=some (match d with | .bool _=>true | _=>false)∧PySem.W.kitOne K t (.type "str")=some (match d with | .str _=>true | _=>false)∧PySem.W.kitOne K t (.type "int")=some (match d with | .int _=>true | .bool _=>true | _=>false):=by
 cases h with
 | non=>exact ⟨_,.inl .non,rfl,rfl,rfl,rfl⟩
 | bl b=>exact ⟨_,.inl (.bl b),rfl,rfl,rfl,rfl⟩
 | int i=>exact ⟨_,.inl (.int i),rfl,rfl,rfl,rfl⟩
 | str x=>exact ⟨_,.inl (.str x),rfl,rfl,rfl,rfl⟩
 | lst e _ _=>exact ⟨_,.inl (.lst e),rfl,rfl,rfl,rfl⟩
 | tup e _ _=>exact ⟨_,.inr ⟨_,_,rfl,rfl,e⟩,rfl,rfl,rfl,rfl⟩
section
variable {P:Program}{w:World}{K:PySem.W.Frag}{mg:Str→Option Value}{base:Heap}{tl:Tok}
def XN (K:PySem.W.Frag)(f:PyData→Bool):Sp:=fun vs H Q _=>∃(v:V)(d:PyData),vs=[v]∧DatA K H v d∧ZcE d∧∀ H',Same H H'→Q (.bl (f d)) H'
abbrev nNn:List Str:=["thing"]
abbrev ZaV:List Str:=["thing"]
theorem scNn:ZD nNn ZaV (Zo s_is_name):=⟨rfl,rfl,rfl,by decide +kernel,rfl,by decide +kernel,by decide +kernel⟩
theorem ZbU {f:Addr}{fd:FuncData}(F:Fun K "is_name" "is_name" s_is_name f fd)(T:Yj mg)(hLN:mg "LONGEST_NAME"=some (.int 8 tl)):FnOk P w K mg base Yb 1 f fd ZaV (XN K Yq):=by
 refine F.ok scNn (fun vs H Q E h=>?_) (fun cdv A outer s H vs Q E hr h=>?_)
 · obtain ⟨v,d,rfl,_⟩:=h;rfl
 obtain ⟨v,d,rfl,hd,hs,q⟩:=h
 refine' ⟨?t,?h,?r⟩
 case h =>
   conv=>arg 2;whnf
   with_reducible refine' (Ze (ZF ?h1 (Zi ?h2) Zq) (Zi ?h3))
   case h1=>exact YE (YC (Zj (ZK (K:=K) rfl) rfl T.isinstance (by decide +kernel) (Zc (pv 0) (Zc (ZW rfl T.str (by decide +kernel) (v:=.ty "str") rfl) Za))))
   case h2=>exact Zm Xb
   case h3=>exact Zm (YS (Wm Ve Ve Zb (Zj WA rfl T.len PySem.boot_len (Zc (pv 0) Za)) (Zar rfl hLN (v:=.int 8) ⟨_,rfl⟩)) (YZ (Zj (Yx rfl) rfl T.all (by decide +kernel) (Zc (YF (CompOk.of nNn s_is_name rfl rfl (by decide +kernel)) rfl (Uh (pv 0))  (fun _ _ _ _ _=>Wm YY YY Zl (pv 1) Zl)) Za))))
 obtain ⟨t,ty,_,_,i1,_⟩:=YN hd
 refine ⟨_,rfl,_,_,t,_,rfl,ty,i1,_,rfl,?_⟩
 cases hd with
 | str x =>
   have hx:x.length≤1000:=hs
   refine ZJ ?_
   refine ⟨_,rfl,x,rfl,WQ hx,?_⟩
   have fin:∀ b:Bool,b=Yq (.str x)→Q (.bl b) H:=fun b e=>by rw [e];exact q H (Same.refl H)
   refine ⟨_,_,rfl,rfl,_,rfl,?_⟩
   by_cases c1:(1:Int)≤(x.length:Int)
   · rw [decide_eq_true c1]
     refine ZG ⟨_,_,rfl,rfl,_,rfl,?_⟩
     by_cases c2:(x.length:Int)≤8
     · rw [decide_eq_true c2]
       refine ZG ⟨_,rfl,x,rfl,fun D hD=>?_⟩
       refine Xa (WQ hx) (fun c=>.bl (Yf c)) (fun c H' R hc hR=>?_) ⟨D,x.cps.toList.map Yf,rfl,SqL.of (by rw [Uf];exact Zh),?_⟩
       · refine ⟨_,rfl,_,_,rfl,rfl,_,rfl,?_⟩
         show if (!decide ([c] < (Str.ofString "a").cps.toList))=true then _ else _
         rw [ca,XA]
         by_cases d1:c < 97
         · rw [decide_eq_true d1]
           refine ZJ ?_
           have:Yf c=false:=by unfold Yf;rw [decide_eq_false (by omega)];rfl
           rw [this] at hR;exact hR
         · rw [decide_eq_false d1]
           refine ZG ⟨_,_,rfl,rfl,?_⟩
           show R (.bl (!decide ((Str.ofString "z").cps.toList < [c]))) H'
           rw [cz,XA]
           have:Yf c=!decide (122 < c):=by unfold Yf;rw [decide_eq_true (show 97≤c by omega)];by_cases z:122 < c<;>simp [z]<;>omega
           rw [this] at hR;exact hR
       · have:(x.cps.toList.map Yf).all id=Yq (.str x):=by
           show _=((decide (1≤x.length)&&decide (x.length≤8))&&x.cps.toList.all Yf)
           rw [decide_eq_true (show 1≤x.length by omega),decide_eq_true (show x.length≤8 by omega),List.all_map];rfl
         rw [this]
         exact q _ (Zf hD _)
     · rw [decide_eq_false c2]
       exact ZJ (fin _ (by show _=((decide (1≤x.length)&&decide (x.length≤8))&&x.cps.toList.all Yf);rw [decide_eq_false (show ¬ x.length≤8 by omega)];simp))
   · rw [decide_eq_false c1]
     refine ZJ ⟨_,rfl,?_⟩
     exact ZJ (fin _ (by show _=((decide (1≤x.length)&&decide (x.length≤8))&&x.cps.toList.all Yf);rw [decide_eq_false (show ¬ 1≤x.length by omega)];simp))
 | non=>exact ZG (q H (Same.refl H))
 | bl b=>exact ZG (q H (Same.refl H))
 | int i=>exact ZG (q H (Same.refl H))
 | lst _ _ _=>exact ZG (q H (Same.refl H))
 | tup _ _ _=>exact ZG (q H (Same.refl H))
abbrev nNu:List Str:=["thing"]
abbrev ZcI:List Str:=["thing"]
theorem scNu:ZD nNu ZcI (Zo s_is_number):=⟨rfl,rfl,rfl,by decide +kernel,rfl,by decide +kernel,by decide +kernel⟩
theorem VW {f:Addr}{fd:FuncData}(F:Fun K "is_number" "is_number" s_is_number f fd)(T:Yj mg):FnOk P w K mg base Yb 1 f fd ZcI (XN K numD):=by
 refine F.ok scNu (fun vs H Q E h=>?_) (fun cdv A outer s H vs Q E hr h=>?_)
 · obtain ⟨v,d,rfl,_⟩:=h;rfl
 obtain ⟨v,d,rfl,hd,hs,q⟩:=h
 refine' ⟨?t,?h,?r⟩
 case h =>
   conv=>arg 2;whnf
   with_reducible refine' (Zi ?h1)
   case h1=>exact Zm (YS (Zj (ZK (K:=K) rfl) rfl T.isinstance (by decide +kernel) (Zc (pv 0) (Zc (ZW rfl T.int (by decide +kernel) (v:=.ty "int") rfl) Za))) (YZ (ZbG (Zj (ZK (K:=K) rfl) rfl T.isinstance (by decide +kernel) (Zc (pv 0) (Zc (ZW rfl T.bool (by decide +kernel) (v:=.ty "bool") rfl) Za))))))
 obtain ⟨t,ty,_,i3,_,i2⟩:=YN hd
 refine ⟨_,rfl,_,_,t,_,rfl,ty,i2,_,rfl,?_⟩
 cases hd with
 | int i=>exact ZG ⟨_,rfl,_,_,t,_,rfl,ty,i3,_,rfl,q H (Same.refl H)⟩
 | bl b=>exact ZG ⟨_,rfl,_,_,t,_,rfl,ty,i3,_,rfl,q H (Same.refl H)⟩
 | str x=>exact ZJ (q H (Same.refl H))
 | non=>exact ZJ (q H (Same.refl H))
 | lst _ _ _=>exact ZJ (q H (Same.refl H))
 | tup _ _ _=>exact ZJ (q H (Same.refl H))
abbrev nVl:List Str:=["thing"]
abbrev Zbr:List Str:=["thing"]
theorem scVl:ZD nVl Zbr (Zo s_is_value):=⟨rfl,rfl,rfl,by decide +kernel,rfl,by decide +kernel,by decide +kernel⟩
theorem ZaT {f:Addr}{fd:FuncData}(F:Fun K "is_value" "is_value" s_is_value f fd)(T:Yj mg)(DNu:Def P w K mg base 1 "is_number" ZcI (XN K numD)):FnOk P w K mg base Yb 2 f fd Zbr (XN K YJ):=by
 refine F.ok scVl (fun vs H Q E h=>?_) (fun cdv A outer s H vs Q E hr h=>?_)
 · obtain ⟨v,d,rfl,_⟩:=h;rfl
 obtain ⟨v,d,rfl,hd,hs,q⟩:=h
 refine' ⟨?t,?h,?r⟩
 case h =>
   conv=>arg 2;whnf
   with_reducible refine' (Ze (ZF ?h1 (Zi ?h2) Zq) (Zi ?h3))
   case h1=>exact YC (Zj (ZK (K:=K) rfl) rfl T.isinstance (by decide +kernel) (Zc (pv 0) (Zc (ZW rfl T.str (by decide +kernel) (v:=.ty "str") rfl) Za)))
   case h2=>exact Zm (Zj (Yx rfl) rfl T.all (by decide +kernel) (Zc (YF (CompOk.of nVl s_is_value rfl rfl (by decide +kernel)) rfl (Uh (pv 0))  (fun _ _ _ _ _=>Wm YY YY Zl (pv 1) Zl)) Za))
   case h3=>exact Zm (Zr DNu hr (Zc (pv 0) Za))
 obtain ⟨t,ty,_,_,i1,_⟩:=YN hd
 refine ⟨_,rfl,_,_,t,_,rfl,ty,i1,_,rfl,?_⟩
 cases id hd with
 | str x =>
   have hx:x.length≤1000:=hs
   refine ZG ⟨_,rfl,x,rfl,fun D hD=>?_⟩
   refine Xa (WQ hx) (fun c=>.bl (Yv c)) (fun c H' R hc hR=>?_) ⟨D,x.cps.toList.map Yv,rfl,SqL.of (by rw [Uf];exact Zh),?_⟩
   · refine ⟨_,rfl,_,_,rfl,rfl,_,rfl,?_⟩
     show if (!decide ([c] < (Str.ofString " ").cps.toList))=true then _ else _
     rw [cbl,XA]
     by_cases d1:c < 32
     · rw [decide_eq_true d1]
       refine ZJ ?_
       have:Yv c=false:=by unfold Yv;rw [decide_eq_false (by omega)];rfl
       rw [this] at hR;exact hR
     · rw [decide_eq_false d1]
       refine ZG ⟨_,_,rfl,rfl,?_⟩
       show R (.bl (!decide ((Str.ofString "~").cps.toList < [c]))) H'
       rw [cti,XA]
       have:Yv c=!decide (126 < c):=by unfold Yv;rw [decide_eq_true (show 32≤c by omega)];by_cases z:126 < c<;>simp [z]<;>omega
       rw [this] at hR;exact hR
   · have:(x.cps.toList.map Yv).all id=YJ (.str x):=by show _=x.cps.toList.all Yv;rw [List.all_map];rfl
     rw [this]
     exact q _ (Zf hD _)
 | non=>exact ZJ ⟨_,rfl,_,_,rfl,hd,hs,fun H1 s1=>q H1 s1⟩
 | bl b=>exact ZJ ⟨_,rfl,_,_,rfl,hd,hs,fun H1 s1=>q H1 s1⟩
 | int i=>exact ZJ ⟨_,rfl,_,_,rfl,hd,hs,fun H1 s1=>q H1 s1⟩
 | lst _ _ _=>exact ZJ ⟨_,rfl,_,_,rfl,hd,hs,fun H1 s1=>q H1 s1⟩
 | tup _ _ _=>exact ZJ ⟨_,rfl,_,_,rfl,hd,hs,fun H1 s1=>q H1 s1⟩
end
end K54
set_option maxHeartbeats 4000000
namespace K54
open PySem L2
mutual
def Zs:PyData→Bool
 | .str x=>decide (x.length≤1000)&&PyData.strOk x
 | .list ds=>ZN ds
 | .tuple ds=>ZN ds
 | .dict _=>false
 | _=>true
def ZN:List PyData→Bool
 | []=>true
 | d::ds=>Zs d&&ZN ds
end
theorem UM {d:PyData}(h:Zs d=true):ZcE d:=by
 cases d with
 | str x=>rw [Zs,Bool.and_eq_true] at h;exact (of_decide_eq_true h.1:x.length≤1000)
 | _=>trivial
theorem YV:∀{ds:List PyData}{i:Nat}{d:PyData},ZN ds=true→ds[i]?=some d→Zs d=true
 | [],_,_,_,h=>by simp at h
 | q::ds,0,_,o,h=>by rw [ZN,Bool.and_eq_true] at o;cases h;exact o.1
 | q::ds,i+1,p,o,h=>by rw [ZN,Bool.and_eq_true] at o;exact YV (ds:=ds) (i:=i) o.2 h
def ZQ (f:PyData→Bool)(k:V)(d:PyData):Bool:=if k=.str "program" then f d else if k=.str "value" then YJ d else Yq d
def Yy (f:PyData→Bool):PyData→Bool
 | .tuple (.str w::ds)=>match PyProof.Rows.KTD.datumAt w Yo with
   | some ks=>decide (ds.length=ks.length)&&(ds.zip ks).all fun p=>ZQ f p.2 p.1
   | none=>false
 | _=>false
def Yi:Nat→PyData→Bool
 | n+1,.tuple ds=>ds.all (Yy (Yi n))
 | _,_=>false
theorem WN {x:Str}{xs:List V}{D:List (Str×List V)}(h:PyProof.Rows.KTD.datumAt x D=some xs):∃ p∈D,p.2=xs:=by
 induction D with
 | nil=>cases h
 | cons p D ih =>
   rw [PyProof.Rows.KTD.datumAt] at h
   split at h
   · cases h;exact ⟨p,List.mem_cons_self,rfl⟩
   · obtain ⟨q,hq,e⟩:=ih h;exact ⟨q,List.mem_cons_of_mem _ hq,e⟩
theorem Zcl {x:Str}{xs:List V}(h:PyProof.Rows.KTD.datumAt x Yo=some xs):∀ v∈xs,∃ y,v=.str y:=by
 have:∀ p∈Yo,p.2.all (fun v=>match v with | .str _=>true | _=>false)=true:=by decide +kernel
 obtain ⟨p,hp,rfl⟩:=WN h
 intro v hv
 have:=List.all_eq_true.mp (this p hp) v hv
 cases v<;>first | exact ⟨_,rfl⟩ | cases this
theorem Zcj {x:Str}{xs:List V}(h:PyProof.Rows.KTD.datumAt x Yo=some xs):xs.length≤3:=by
 have:∀ p∈Yo,p.2.length≤3:=by decide +kernel
 obtain ⟨p,hp,rfl⟩:=WN h
 exact this p hp
section
variable {P:Program}{w:World}{K:PySem.W.Frag}{mg:Str→Option Value}{base:Heap}
def Xk (K:PySem.W.Frag)(n:Nat):Sp:=fun vs H Q _=>∃(v:V)(d:PyData),vs=[v]∧DatA K H v d∧Zs d=true∧d.depth < 2 * n∧∀ H',Same H H'→Q (.bl (Yi n d)) H'
def Vh (K:PySem.W.Frag)(n:Nat):Sp:=fun vs H Q _=>∃(v:V)(d:PyData),vs=[v]∧DatA K H v d∧Zs d=true∧d.depth < 2 * n+1∧∀ H',Same H H'→Q (.bl (Yy (Yi n) d)) H'
def Zdp (K:PySem.W.Frag)(n:Nat):Sp:=fun vs H Q _=>∃(v:V)(d:PyData)(k:Str),vs=[v,.str k]∧DatA K H v d∧Zs d=true∧d.depth < 2 * n∧∀ H',Same H H'→Q (.bl (ZQ (Yi n) (.str k) d)) H'
abbrev nIP:List Str:=["thing"]
abbrev WZ:List Str:=["thing"]
theorem scIP:ZD nIP WZ (Zo s_is_program):=⟨rfl,rfl,rfl,by decide +kernel,rfl,by decide +kernel,by decide +kernel⟩
abbrev nIS:List Str:=["thing","kinds"]
abbrev ZaY:List Str:=["thing"]
theorem scIS:ZD nIS ZaY (Zo s_is_step):=⟨rfl,rfl,rfl,by decide +kernel,rfl,by decide +kernel,by decide +kernel⟩
abbrev nIK:List Str:=["thing","kind"]
abbrev ZaZ:List Str:=["thing","kind"]
theorem scIK:ZD nIK ZaZ (Zo s_is_of_kind):=⟨rfl,rfl,rfl,by decide +kernel,rfl,by decide +kernel,by decide +kernel⟩
theorem ZdB {f:Addr}{fd:FuncData}{n k:Nat}(F:Fun K "is_of_kind" "is_of_kind" s_is_of_kind f fd)(DIP:Def P w K mg base k "is_program" WZ (Xk K n))(DVl:Def P w K mg base k "is_value" Zbr (XN K YJ))(DNm:Def P w K mg base k "is_name" ZaV (XN K Yq)):FnOk P w K mg base Yb (k+1) f fd ZaZ (Zdp K n):=by
 refine F.ok scIK (fun vs H Q E h=>?_) (fun cdv A outer s H vs Q E hr h=>?_)
 · obtain ⟨v,d,y,rfl,_⟩:=h;rfl
 obtain ⟨v,d,y,rfl,hd,hs,hn,q⟩:=h
 refine' ⟨?t,?h,?r⟩
 case h =>
   conv=>arg 2;whnf
   with_reducible refine' (Ze (ZF ?h1 (Zi ?h2) Zq) (Ze (ZF ?h3 (Zi ?h4) Zq) (Zi ?h5)))
   case h1=>exact Zp ZV (pv 1) Zl (Zt _)
   case h2=>exact Zm (Zr DIP hr (Zc (pv 0) Za))
   case h3=>exact Zp ZV (pv 1) Zl (Zt _)
   case h4=>exact Zm (Zr DVl hr (Zc (pv 0) Za))
   case h5=>exact Zm (Zr DNm hr (Zc (pv 0) Za))
 refine ⟨_,rfl,rfl,_,rfl,?_⟩
 by_cases h1:V.str y=V.str "program"
 · refine ZM (decide_eq_true h1) ⟨_,rfl,v,d,rfl,hd,hs,hn,fun H' s'=>?_⟩
   have:=q H' s';unfold ZQ at this;rwa [if_pos h1] at this
 · refine ZI (decide_eq_false h1) ⟨_,rfl,rfl,_,rfl,?_⟩
   by_cases h2:V.str y=V.str "value"
   · refine ZM (decide_eq_true h2) ⟨_,rfl,v,d,rfl,hd,UM hs,fun H' s'=>?_⟩
     have:=q H' s';unfold ZQ at this;rwa [if_neg h1,if_pos h2] at this
   · refine ZI (decide_eq_false h2) ⟨_,rfl,v,d,rfl,hd,UM hs,fun H' s'=>?_⟩
     have:=q H' s';unfold ZQ at this;rwa [if_neg h1,if_neg h2] at this
theorem ZdA {f : Addr}{fd:FuncData}{n k:Nat}(F:Fun K "is_step" "is_step" s_is_step f fd)(T:Yj mg)(DKi:Def P w K mg base k "kinds_of" ZaN (UH K))(DIK:Def P w K mg base k "is_of_kind" ZaZ (Zdp K n)):FnOk P w K mg base Yb (k+1) f fd ZaY (Vh K n):=by
 refine F.ok scIS (fun vs H Q E h=>?_) (fun cdv A outer s H vs Q E hr h=>?_)
 · obtain ⟨v,d,rfl,_⟩:=h;rfl
 obtain ⟨v,d,rfl,hd,hs,hn,q⟩:=h
 refine' ⟨?t,?h,?r⟩
 case h =>
   conv=>arg 2;whnf
   with_reducible refine' (Ze (ZF ?h1 (Zi ?h2) Zq) (Ze ?h3 (Ze (ZF ?h4 (Zi ?h5) Zq) (Zi ?h6))))
   case h1=>exact PW.pt (XO (YE (YC (Zj (ZK (K:=K) rfl) rfl T.isinstance (by decide +kernel) (Zc (pv 0) (Zc (ZW rfl T.tuple (by decide +kernel) (v:=.ty "tuple") rfl) Za))))) (XO (YE (Zcv (pv 0) (fun _=>rfl))) (WF (YE (YC (Zj (ZK (K:=K) rfl) rfl T.isinstance (by decide +kernel) (Zc (Zz YB (pv 0) Zb (fun _ _=>rfl)) (Zc (ZW rfl T.str (by decide +kernel) (v:=.ty "str") rfl) Za))))))))
   case h2=>exact Zm Xb
   case h3=>exact Zy (i:=1) scIS.nd rfl (Or.inl rfl) (Zr DKi hr (Zc (Zz YB (pv 0) Zb (fun _ _=>rfl)) Za))
   case h4=>exact PW.pt (XO (ZeK (ZeG (pv 1))) (WF (Zp Zfc (Zj Zv rfl T.len PySem.boot_len (Zc (pv 0) Za)) (Zk ZU Zb (Zj Zv rfl T.len PySem.boot_len (Zc (pv 1) Za))) (Zt _))))
   case h5=>exact Zm Xb
   case h6=>exact Zm (Zj (Yx rfl) rfl T.all (by decide +kernel) (Zc (Zcy (xa:="part") (xb:="kind") (CompOkT.of nIS s_is_step rfl rfl (by decide +kernel)) rfl (PI.or (Zec rfl T.zip (ZO VP (pv 0) (ZP Zb) ZZ) (pv 1)) (ZdF rfl T.zip (ZO VP (pv 0) (ZP Zb) ZZ) (pv 1))) (fun _ _ _ _ _=>ZdT (K:=K) rfl rfl (Yn (i:=2) (show (XW nIS "part" "kind"++(["part","kind"]:List Str)).Nodup by decide +kernel) rfl (Or.inl rfl) (Or.inr rfl)) (Yn (i:=3) (show (XW nIS "part" "kind"++(["part","kind"]:List Str)).Nodup by decide +kernel) rfl (Or.inl rfl) (Or.inr rfl)))  (fun _ _ _ _ _=>Zr DIK hr (Zc (pv 2) (Zc (pv 3) Za)))) Za))
 obtain ⟨t,ty,i1,_,_,_⟩:=YN hd
 refine ⟨_,rfl,_,_,t,_,rfl,ty,i1,_,rfl,?_⟩
 cases id hd with
 | non=>exact ZM rfl (q H (Same.refl H))
 | bl b=>exact ZM rfl (q H (Same.refl H))
 | int i=>exact ZM rfl (q H (Same.refl H))
 | str x=>exact ZM rfl (q H (Same.refl H))
 | lst _ _ _=>exact ZM rfl (q H (Same.refl H))
 | @tup a xs ds e hl hq =>
   refine ZI rfl ?_
   cases hq with
   | nil=>exact ⟨_,rfl,false,(.inr (.inl ⟨_,e,rfl⟩)),ZM rfl (ZG (q H (Same.refl H)))⟩
   | @cons v1 d1 vs1 ds1 h1 hr1 =>
     refine ⟨_,rfl,true,(.inr (.inl ⟨_,e,rfl⟩)),ZI rfl ?_⟩
     obtain ⟨t1,ty1,_,_,j1,_⟩:=YN h1
     refine ⟨_,rfl,a,_,_,_,rfl,rfl,e,ZX (j:=0) rfl,_,_,t1,_,rfl,ty1,j1,_,rfl,?_⟩
     cases id h1 with
     | non=>exact ZG (q H (Same.refl H))
     | bl b=>exact ZG (q H (Same.refl H))
     | int i=>exact ZG (q H (Same.refl H))
     | lst _ _ _=>exact ZG (q H (Same.refl H))
     | tup _ _ _=>exact ZG (q H (Same.refl H))
     | str x =>
       refine ZJ ?_
       refine ⟨_,rfl,a,_,_,_,rfl,rfl,e,ZX (j:=0) rfl,x,rfl,fun kb ks ek sq=>?_,fun ek=>?_⟩
       · have hlen:=hr1.len
         have hst:Yy (Yi n) (.tuple (.str x::ds1))=(decide (ds1.length=ks.length)&&(ds1.zip ks).all fun p=>ZQ (Yi n) p.2 p.1):=by
           show (match PyProof.Rows.KTD.datumAt x Yo with | some ks=>_ | none=>false)=_
           rw [ek]
         refine ⟨_,rfl,_,rfl,ZI rfl ?_⟩
         refine ⟨_,rfl,a,_,rfl,.inr e,_,rfl,kb,ks,rfl,.inr sq,_,_,rfl,rfl,rfl,_,rfl,?_⟩
         by_cases hk:ds1.length=ks.length
         · refine ZI (by rw [List.length_cons,hlen,hk];simp;omega) ?_
           refine .inr ⟨_,rfl,_,rfl,a,_,rfl,e,?_,fun c hc=>?_⟩
           · rintro ⟨z,_⟩
             have:HT.sIx (V.str x::vs1).length 0 (some ((1:Nat):Int))=min 1 (V.str x::vs1).length:=HT.sIx_nat _ _ _
             rw [show ((1:Nat):Int)=1 from rfl,z,List.length_cons] at this
             omega
           have ec:XX (V.str x::vs1) (some 1) none=vs1:=VO (xs:=V.str x::vs1) (i:=1)
           rw [ec]
           have s1:=Zf hc (.tup vs1)
           have ec2:upd H c (.tup vs1) c=some (.tup vs1):=Zh
           have sq1:=sq.tf s1.tf
           have hr2:=DatAs.same s1 hr1
           generalize upd H c (.tup vs1)=H1 at *
           refine ⟨_,rfl,c,kb,vs1,ks,rfl,SqT.of ec2,sq1,fun D hD=>?_⟩
           have hkf:=Zcj ek
           refine Zbj (K:=K) (xs:=vs1) (zs:=ks) (Yw (show vs1.length≤3 by omega)) (by omega) (fun i ys H'=>Same H1 H'∧H' D=some (.lst ys)∧ys=(((ds1.zip ks).take i).map fun p=>ZQ (Yi n) p.2 p.1).map V.bl∧ys.length=i) ⟨Zf hD _,Zh,rfl,rfl⟩ ?_ ?_ ?_
           · rintro i ys H' ⟨s4,_,rfl,hl'⟩
             exact ⟨hl',SqT.of (s4 _ _ ec2),sq1.tf s4.tf⟩
           · rintro i x1 z t0 ys H' wa wb hx hz ht ⟨s4,eD,rfl,hl'⟩
             obtain ⟨d2,ed2,dd2⟩:=hr2.at hx
             obtain ⟨y,rfl⟩:=Zcl ek z (List.mem_of_getElem? hz)
             have s5:=s4.trans (Zf ht (.tup [x1,.str y]))
             have hd2:Zs d2=true:=by
               rw [Zs,ZN,Bool.and_eq_true] at hs
               exact YV hs.2 ed2
             have hdp:d2.depth < 2 * n:=by
               have h3:=Xe ed2
               rw [PyData.depth,PyData.depthAll] at hn
               omega
             refine ⟨t0,_,rfl,SqT.of Zh,rfl,_,_,rfl,_,_,rfl,rfl,⟨_,_,rfl⟩,?_⟩
             refine ⟨_,rfl,_,rfl,x1,d2,y,rfl,dd2.same s5,hd2,hdp,fun H2 s6=>⟨s6 _ _ (Zf ht (.tup [x1,.str y]) _ _ eD),fun b o q=>?_,Zh,?_,?_⟩⟩
             · rw [ZA (ZL q hD)];exact s6 _ _ (s5 _ _ q)
             · have ez:(ds1.zip ks)[i]?=some (d2,.str y):=List.getElem?_zip_eq_some.mpr ⟨ed2,hz⟩
               rw [List.take_add_one,ez,List.map_append,List.map_append];rfl
             · rw [List.length_append,hl'];rfl
           · rintro ys H3 ⟨s3,eD,rfl,hl'⟩
             refine ⟨D,_,rfl,SqL.of eD,?_⟩
             have hq3:=q H3 (s1.trans s3)
             rw [hst,decide_eq_true hk,Bool.true_and] at hq3
             rw [List.take_of_length_le (by rw [List.length_zip];omega),List.all_map]
             exact hq3
         · refine ZM (by rw [List.length_cons,hlen];simp;omega) ?_
           have:=q H (Same.refl H)
           rw [hst,decide_eq_false hk] at this
           exact this
       · refine ⟨_,rfl,_,rfl,ZM rfl ?_⟩
         have:Yy (Yi n) (.tuple (.str x::ds1))=false:=by
           show (match PyProof.Rows.KTD.datumAt x Yo with | some ks=>_ | none=>false)=false
           rw [ek]
         have:=this ▸ q H (Same.refl H)
         exact this
theorem ZdE {f:Addr}{fd:FuncData}{n k:Nat}(F:Fun K "is_program" "is_program" s_is_program f fd)(T:Yj mg)(DIS:Def P w K mg base k "is_step" ZaY (Vh K n)):FnOk P w K mg base Yb (k+1) f fd WZ (Xk K (n+1)):=by
 refine F.ok scIP (fun vs H Q E h=>?_) (fun cdv A outer s H vs Q E hr h=>?_)
 · obtain ⟨v,d,rfl,_⟩:=h;rfl
 obtain ⟨v,d,rfl,hd,hs,hn,q⟩:=h
 refine' ⟨?t,?h,?r⟩
 case h =>
   conv=>arg 2;whnf
   with_reducible refine' (Zi ?h1)
   case h1=>exact Zm (YS (Zj (ZK (K:=K) rfl) rfl T.isinstance (by decide +kernel) (Zc (pv 0) (Zc (ZW rfl T.tuple (by decide +kernel) (v:=.ty "tuple") rfl) Za))) (YZ (Zj (Yx rfl) rfl T.all (by decide +kernel) (Zc (YF (CompOk.of nIP s_is_program rfl rfl (by decide +kernel)) rfl (Uc (pv 0))  (fun _ _ _ _ _=>Zr DIS hr (Zc (pv 1) Za))) Za))))
 obtain ⟨t,ty,i1,_,_,_⟩:=YN hd
 refine ⟨_,rfl,_,_,t,_,rfl,ty,i1,_,rfl,?_⟩
 cases id hd with
 | non=>exact ZJ (q H (Same.refl H))
 | bl b=>exact ZJ (q H (Same.refl H))
 | int i=>exact ZJ (q H (Same.refl H))
 | str x=>exact ZJ (q H (Same.refl H))
 | lst _ _ _=>exact ZJ (q H (Same.refl H))
 | @tup a xs ds e hl hq =>
   refine ZG ⟨_,rfl,a,rfl,⟨_,e⟩,fun D hD=>?_⟩
   have hlen:=hq.len
   refine WX (K:=K) (xs:=xs) (Yw (show xs.length≤20000 from hl)) (fun i ys H'=>Same H H'∧H' D=some (.lst ys)∧ys=((ds.take i).map (Yy (Yi n))).map V.bl∧ys.length=i) ⟨Zf hD _,Zh,rfl,rfl⟩ ?_ ?_ ?_
   · rintro i ys H' ⟨s4,_,rfl,hl'⟩;exact ⟨hl',e.tf s4.tf⟩
   · rintro i v ys H' hv ⟨s4,eD,rfl,hl'⟩
     obtain ⟨d2,ed2,dd2⟩:=hq.at hv
     have hd2:Zs d2=true:=by
       rw [Zs] at hs
       exact YV hs ed2
     have hdp:d2.depth < 2 * n+1:=by
       have h3:=Xe ed2
       rw [PyData.depth] at hn
       omega
     refine ⟨_,rfl,v,d2,rfl,dd2.same s4,hd2,hdp,fun H2 s6=>⟨s6 _ _ eD,fun b o q=>?_,Zh,?_,?_⟩⟩
     · rw [ZA (ZL q hD)];exact s6 _ _ (s4 _ _ q)
     · rw [List.take_add_one,ed2,List.map_append,List.map_append];rfl
     · rw [List.length_append,hl'];rfl
   · rintro ys H3 ⟨s3,eD,rfl,hl'⟩
     refine ⟨D,_,rfl,SqL.of eD,?_⟩
     have hq3:=q H3 s3
     rw [List.take_of_length_le (by omega),List.all_map]
     exact hq3
theorem ZbO {f f2 f3:Addr}{fd fd2 fd3:FuncData}(F:Fun K "is_program" "is_program" s_is_program f fd)(F2:Fun K "is_step" "is_step" s_is_step f2 fd2)(F3:Fun K "is_of_kind" "is_of_kind" s_is_of_kind f3 fd3)(T:Yj mg)(b:Binds K fd WZ [])(kp:PySem.W.keepIn K (.ref f)=true)(m:mg "is_program"=some (.ref f))(b2:Binds K fd2 ZaY [])(kp2:PySem.W.keepIn K (.ref f2)=true)(m2:mg "is_step"=some (.ref f2))(b3:Binds K fd3 ZaZ [])(kp3:PySem.W.keepIn K (.ref f3)=true)(m3:mg "is_of_kind"=some (.ref f3))
   (DKi:Def P w K mg base 1 "kinds_of" ZaN (UH K)) (DVl:Def P w K mg base 2 "is_value" Zbr (XN K YJ)) (DNm:Def P w K mg base 1 "is_name" ZaV (XN K Yq)):∀ n,FnOk P w K mg base Yb (3+3 * n) f fd WZ (Xk K n)
 | 0=>⟨fun vs H Q E ⟨_,_,_,_,_,h,_⟩=>absurd h (Nat.not_lt_zero _),fun _ _ _ _ _ _ _ _ _ _ _ _ _ ⟨_,_,_,_,_,h,_⟩=>absurd h (Nat.not_lt_zero _)⟩
 | n+1=>(ZdE (k:=5+3 * n) F T ⟨_,_,ZdA (k:=4+3 * n) F2 T (DKi.mono (by omega)) ⟨_,_,ZdB (k:=3+3 * n) F3 ⟨_,_,ZbO F F2 F3 T b kp m b2 kp2 m2 b3 kp3 m3 DKi DVl DNm n,b,kp,m⟩ (DVl.mono (by omega)) (DNm.mono (by omega)) |>.mono (by omega),b3,kp3,m3⟩ |>.mono (by omega),b2,kp2,m2⟩).mono (by omega)
end
end K54
set_option maxHeartbeats 4000000
namespace K54
open PySem L2
open PySem.StrLaws in
theorem in26 (c:Nat):(!(Builtin.Str.occurrences a26 ⟨#[c]⟩ 0 a26.length 1).isEmpty)=Yf c:=by
 have hc:a26.cps.toList=(List.range 26).map (fun k=>97+k):=by decide +kernel
 have key:(!(Builtin.Str.occurrences a26 ⟨#[c]⟩ 0 a26.length 1).isEmpty)=true↔Yf c=true:=by
   rw [found_iff]
   constructor
   · rintro ⟨i,hi,h⟩
     rw [subAt_eq,hc] at h
     rw [YX] at hi
     have h1:i+1≤26:=hi
     have h2:(((List.range 26).map (fun k=>97+k)).drop i).take 1=[97+i]:=by
       have hl:i < ((List.range 26).map (fun k=>97+k)).length:=by simp;omega
       rw [List.drop_eq_getElem_cons hl,List.take_succ_cons,List.take_zero];simp
     have h3:[97+i]=[c]:=by rw [← h2];exact beq_iff_eq.mp h
     have h4:97+i=c:=(List.cons.inj h3).1
     unfold Yf;rw [decide_eq_true (show 97≤c by omega),decide_eq_true (show c≤122 by omega)];rfl
   · intro h
     unfold Yf at h
     simp only [Bool.and_eq_true,decide_eq_true_eq] at h
     refine ⟨c - 97,by rw [YX];show c - 97+1≤26;omega,?_⟩
     rw [subAt_eq,hc]
     have h2:(((List.range 26).map (fun k=>97+k)).drop (c - 97)).take 1=[c]:=by
       have hl:c - 97 < ((List.range 26).map (fun k=>97+k)).length:=by simp;omega
       rw [List.drop_eq_getElem_cons hl,List.take_succ_cons,List.take_zero];simp;omega
     exact beq_iff_eq.mpr h2
 cases h1:Yf c with
 | true=>exact key.mpr h1
 | false =>
   cases h2:(!(Builtin.Str.occurrences a26 ⟨#[c]⟩ 0 a26.length 1).isEmpty) with
   | false=>rfl
   | true=>rw [key.mp h2] at h1;cases h1
theorem ZeV (x:Str):PyProof.Rows.KTD.datumAt x Yo=if x="set" then some [V.str "name",.str "value",.str "slot"] else if x="look" then some [V.str "name"] else if x="back" then some [V.str "slot"] else if x="begin" then some [V.str "program"] else if x="late" then some [V.str "program"] else if x="copy" then some [V.str "slot"] else if x="in" then some [V.str "slot",.str "program"] else if x="pass" then some [] else none:=by
 unfold Yo
 simp only [PyProof.Rows.KTD.datumAt,decide_eq_true_eq]
theorem ZaD (f d):ZQ f (.str "name") d=Yq d:=by unfold ZQ;rw [if_neg (by decide +kernel),if_neg (by decide +kernel)]
theorem WK (f d):ZQ f (.str "slot") d=Yq d:=by unfold ZQ;rw [if_neg (by decide +kernel),if_neg (by decide +kernel)]
theorem ZcK (f d):ZQ f (.str "value") d=YJ d:=by unfold ZQ;rw [if_neg (by decide +kernel),if_pos rfl]
theorem UF (f d):ZQ f (.str "program") d=f d:=by unfold ZQ;rw [if_pos rfl]
theorem YL {f:PyData→Bool}{x:Str}{ds:List PyData}{ks:List V}(h:PyProof.Rows.KTD.datumAt x Yo=some ks):Yy f (.tuple (.str x::ds))=(decide (ds.length=ks.length)&&(ds.zip ks).all fun p=>ZQ f p.2 p.1):=by rw [Yy,h]
theorem sb3 (f a b c):Yy f (.tuple [.str "set",a,b,c])=(Yq a&&(YJ b&&Yq c)):=by
 rw [YL (ks:=[V.str "name",.str "value",.str "slot"]) (by decide +kernel)]
 show (ZQ f (.str "name") a&&(ZQ f (.str "value") b&&(ZQ f (.str "slot") c&&true)))=_
 rw [ZaD,ZcK,WK,Bool.and_true]
theorem sb1n (f a){x:Str}(h:x="look"∨x="back"∨x="copy"):Yy f (.tuple [.str x,a])=Yq a:=by
 rcases h with rfl | rfl | rfl
 · rw [YL (ks:=[V.str "name"]) (by decide +kernel)]
   show (ZQ f (.str "name") a&&true)=_
   rw [ZaD,Bool.and_true]
 · rw [YL (ks:=[V.str "slot"]) (by decide +kernel)]
   show (ZQ f (.str "slot") a&&true)=_
   rw [WK,Bool.and_true]
 · rw [YL (ks:=[V.str "slot"]) (by decide +kernel)]
   show (ZQ f (.str "slot") a&&true)=_
   rw [WK,Bool.and_true]
theorem sb1p (f a){x:Str}(h:x="begin"∨x="late"):Yy f (.tuple [.str x,a])=f a:=by
 rcases h with rfl | rfl
 · rw [YL (ks:=[V.str "program"]) (by decide +kernel)]
   show (ZQ f (.str "program") a&&true)=_
   rw [UF,Bool.and_true]
 · rw [YL (ks:=[V.str "program"]) (by decide +kernel)]
   show (ZQ f (.str "program") a&&true)=_
   rw [UF,Bool.and_true]
theorem sb2 (f a b):Yy f (.tuple [.str "in",a,b])=(Yq a&&f b):=by
 rw [YL (ks:=[V.str "slot",.str "program"]) (by decide +kernel)]
 show (ZQ f (.str "slot") a&&(ZQ f (.str "program") b&&true))=_
 rw [WK,UF,Bool.and_true]
theorem sbE (f){x:Str}{ds:List PyData}(h1:¬ (x="set"∧ds.length=3))(h2:¬ ((x="look"∨x="back"∨x="copy")∧ds.length=1))(h3:¬ ((x="begin"∨x="late")∧ds.length=1))(h4:¬ (x="in"∧ds.length=2)):Yy f (.tuple (.str x::ds))=(decide (V.str x=V.str "pass")&&ds.isEmpty):=by
 have no:∀ {ks:List V},PyProof.Rows.KTD.datumAt x Yo=some ks→ds.length≠ks.length→x≠"pass"→Yy f (.tuple (.str x::ds))=(decide (V.str x=V.str "pass")&&ds.isEmpty):=by
   intro ks e hl hx
   rw [YL e,decide_eq_false hl,decide_eq_false (show ¬ V.str x=V.str "pass" from fun z=>hx (V.str.inj z))];rfl
 by_cases c1:x="set"
 · subst c1;exact no (ks:=[V.str "name",.str "value",.str "slot"]) (by decide +kernel) (fun z=>h1 ⟨rfl,z⟩) (by decide +kernel)
 by_cases c2:x="look"
 · subst c2;exact no (ks:=[V.str "name"]) (by decide +kernel) (fun z=>h2 ⟨.inl rfl,z⟩) (by decide +kernel)
 by_cases c3:x="back"
 · subst c3;exact no (ks:=[V.str "slot"]) (by decide +kernel) (fun z=>h2 ⟨.inr (.inl rfl),z⟩) (by decide +kernel)
 by_cases c4:x="begin"
 · subst c4;exact no (ks:=[V.str "program"]) (by decide +kernel) (fun z=>h3 ⟨.inl rfl,z⟩) (by decide +kernel)
 by_cases c5:x="late"
 · subst c5;exact no (ks:=[V.str "program"]) (by decide +kernel) (fun z=>h3 ⟨.inr rfl,z⟩) (by decide +kernel)
 by_cases c6:x="copy"
 · subst c6;exact no (ks:=[V.str "slot"]) (by decide +kernel) (fun z=>h2 ⟨.inr (.inr rfl),z⟩) (by decide +kernel)
 by_cases c7:x="in"
 · subst c7;exact no (ks:=[V.str "slot",.str "program"]) (by decide +kernel) (fun z=>h4 ⟨rfl,z⟩) (by decide +kernel)
 by_cases c8:x="pass"
 · subst c8
   rw [YL (ks:=[]) (by decide +kernel),decide_eq_true (rfl:V.str "pass"=V.str "pass")]
   cases ds<;>rfl
 · rw [Yy,ZeV,if_neg c1,if_neg c2,if_neg c3,if_neg c4,if_neg c5,if_neg c6,if_neg c7,if_neg c8,decide_eq_false (show ¬ V.str x=V.str "pass" from fun z=>c8 (V.str.inj z))];rfl
theorem ifB {c:Bool}{A B:Prop}(a:c=true→A)(b:c=false→B):if c=true then A else B:=by cases c with | true=>exact ZG (a rfl) | false=>exact ZJ (b rfl)
theorem in3 {x a b c:Str}:We (.str x) [.str a,.str b,.str c]=decide (x=a∨x=b∨x=c):=by
 have h:∀ a:Str,(a == x)=decide (x=a):=fun a=>by rw [Bool.eq_iff_iff];simp only [beq_iff_eq,decide_eq_true_eq];exact ⟨Eq.symm,Eq.symm⟩
 unfold We;simp [WO,h]
theorem in2 {x a b:Str}:We (.str x) [.str a,.str b]=decide (x=a∨x=b):=by
 have h:∀ a:Str,(a == x)=decide (x=a):=fun a=>by rw [Bool.eq_iff_iff];simp only [beq_iff_eq,decide_eq_true_eq];exact ⟨Eq.symm,Eq.symm⟩
 unfold We;simp [WO,h]
section
variable {P:Program}{w:World}{K:PySem.W.Frag}{mg:Str→Option Value}{base:Heap}
abbrev nLN:List Str:=["_law_thing"]
abbrev ZaL:List Str:=["_law_thing"]
theorem scLN:ZD nLN ZaL (Zo s_l_is_name):=⟨rfl,rfl,rfl,by decide +kernel,rfl,by decide +kernel,by decide +kernel⟩
theorem ZcH {f:Addr}{fd:FuncData}(F:Fun K "_law_is_name" "_law_is_name" s_l_is_name f fd)(T:Yj mg):FnOk P w K mg base Yb 1 f fd ZaL (XN K Yq):=by
 refine F.ok scLN (fun vs H Q E h=>?_) (fun cdv A outer s H vs Q E hr h=>?_)
 · obtain ⟨v,d,rfl,_⟩:=h;rfl
 obtain ⟨v,d,rfl,hd,hs,q⟩:=h
 refine' ⟨?t,?h,?r⟩
 case h =>
   conv=>arg 2;whnf
   with_reducible refine' (Ze (ZF ?h1 (Zi ?h2) Zq) (Zi ?h3))
   case h1=>exact PW.pt (XO (YE (YC (Zj (ZK (K:=K) rfl) rfl T.isinstance (by decide +kernel) (Zc (pv 0) (Zc (ZW rfl T.str (by decide +kernel) (v:=.ty "str") rfl) Za))))) (WF (YE (ZcG Ve Ve Zb (Zj WA rfl T.len PySem.boot_len (Zc (pv 0) Za)) Zb))))
   case h2=>exact Zm Xb
   case h3=>exact Zm (Zj (Yx rfl) rfl T.all (by decide +kernel) (Zc (YF (CompOk.of nLN s_l_is_name rfl rfl (by decide +kernel)) rfl (Uh (pv 0))  (fun _ _ _ _ _=>Xy ZbT (pv 1) Zl rfl)) Za))
 obtain ⟨t,ty,_,_,i1,_⟩:=YN hd
 refine ⟨_,rfl,_,_,t,_,rfl,ty,i1,_,rfl,?_⟩
 cases hd with
 | str x =>
   have hx:x.length≤1000:=hs
   refine ZI rfl ?_
   refine ⟨_,rfl,x,rfl,WQ hx,_,_,rfl,rfl,_,rfl,?_⟩
   have fin:∀ b:Bool,b=Yq (.str x)→Q (.bl b) H:=fun b e=>by rw [e];exact q H (Same.refl H)
   by_cases c1:(1:Int)≤(x.length:Int)
   · refine ZM (decide_eq_true c1) ⟨_,_,rfl,rfl,_,rfl,?_⟩
     by_cases c2:(x.length:Int)≤8
     · refine ZI (by rw [decide_eq_true c2];rfl) ⟨_,rfl,x,rfl,fun D hD=>?_⟩
       refine Xa (WQ hx) (fun c=>.bl (Yf c)) (fun c H' R hc hR=>?_) ⟨D,x.cps.toList.map Yf,rfl,SqL.of (by rw [Uf];exact Zh),?_⟩
       · refine ⟨_,rfl,_,_,rfl,rfl,?_⟩
         have:=in26 c
         rw [show a26=Str.ofString "abcdefghijklmnopqrstuvwxyz" from rfl] at this
         rw [this];exact hR
       · have:(x.cps.toList.map Yf).all id=Yq (.str x):=by
           show _=((decide (1≤x.length)&&decide (x.length≤8))&&x.cps.toList.all Yf)
           rw [decide_eq_true (show 1≤x.length by omega),decide_eq_true (show x.length≤8 by omega),List.all_map];rfl
         rw [this]
         exact q _ (Zf hD _)
     · refine ZM (by rw [decide_eq_false c2];rfl) ?_
       exact (fin _ (by show _=((decide (1≤x.length)&&decide (x.length≤8))&&x.cps.toList.all Yf);rw [decide_eq_false (show ¬ x.length≤8 by omega)];simp))
   · refine ZI (decide_eq_false c1) ⟨_,rfl,?_⟩
     exact ZM rfl (fin _ (by show _=((decide (1≤x.length)&&decide (x.length≤8))&&x.cps.toList.all Yf);rw [decide_eq_false (show ¬ 1≤x.length by omega)];simp))
 | non=>exact ZM rfl (ZG (q H (Same.refl H)))
 | bl b=>exact ZM rfl (ZG (q H (Same.refl H)))
 | int i=>exact ZM rfl (ZG (q H (Same.refl H)))
 | lst _ _ _=>exact ZM rfl (ZG (q H (Same.refl H)))
 | tup _ _ _=>exact ZM rfl (ZG (q H (Same.refl H)))
abbrev nLV:List Str:=["_law_thing"]
abbrev Zbm:List Str:=["_law_thing"]
theorem scLV:ZD nLV Zbm (Zo s_l_is_value):=⟨rfl,rfl,rfl,by decide +kernel,rfl,by decide +kernel,by decide +kernel⟩
theorem ZbH {f:Addr}{fd:FuncData}(F:Fun K "_law_is_value" "_law_is_value" s_l_is_value f fd)(T:Yj mg):FnOk P w K mg base Yb 1 f fd Zbm (XN K YJ):=by
 refine F.ok scLV (fun vs H Q E h=>?_) (fun cdv A outer s H vs Q E hr h=>?_)
 · obtain ⟨v,d,rfl,_⟩:=h;rfl
 obtain ⟨v,d,rfl,hd,hs,q⟩:=h
 refine' ⟨?t,?h,?r⟩
 case h =>
   conv=>arg 2;whnf
   with_reducible refine' (Ze (ZF ?h1 (Zi ?h2) Zq) (Zi ?h3))
   case h1=>exact YC (Zj (ZK (K:=K) rfl) rfl T.isinstance (by decide +kernel) (Zc (pv 0) (Zc (ZW rfl T.str (by decide +kernel) (v:=.ty "str") rfl) Za)))
   case h2=>exact Zm (Zj (Yx rfl) rfl T.all (by decide +kernel) (Zc (YF (CompOk.of nLV s_l_is_value rfl rfl (by decide +kernel)) rfl (Uh (pv 0))  (fun _ _ _ _ _=>Wm YY YY Zl (pv 1) Zl)) Za))
   case h3=>exact Zm (YS (Zj (ZK (K:=K) rfl) rfl T.isinstance (by decide +kernel) (Zc (pv 0) (Zc (ZW rfl T.int (by decide +kernel) (v:=.ty "int") rfl) Za))) (YZ (ZbG (Zj (ZK (K:=K) rfl) rfl T.isinstance (by decide +kernel) (Zc (pv 0) (Zc (ZW rfl T.bool (by decide +kernel) (v:=.ty "bool") rfl) Za))))))
 obtain ⟨t,ty,_,i3,i1,i2⟩:=YN hd
 refine ⟨_,rfl,_,_,t,_,rfl,ty,i1,_,rfl,?_⟩
 cases hd with
 | str x =>
   have hx:x.length≤1000:=hs
   refine ZG ⟨_,rfl,x,rfl,fun D hD=>?_⟩
   refine Xa (WQ hx) (fun c=>.bl (Yv c)) (fun c H' R hc hR=>?_) ⟨D,x.cps.toList.map Yv,rfl,SqL.of (by rw [Uf];exact Zh),?_⟩
   · refine ⟨_,rfl,_,_,rfl,rfl,_,rfl,?_⟩
     show if (!decide ([c] < (Str.ofString " ").cps.toList))=true then _ else _
     rw [cbl,XA]
     by_cases d1:c < 32
     · rw [decide_eq_true d1]
       refine ZJ ?_
       have:Yv c=false:=by unfold Yv;rw [decide_eq_false (by omega)];rfl
       rw [this] at hR;exact hR
     · rw [decide_eq_false d1]
       refine ZG ⟨_,_,rfl,rfl,?_⟩
       show R (.bl (!decide ((Str.ofString "~").cps.toList < [c]))) H'
       rw [cti,XA]
       have:Yv c=!decide (126 < c):=by unfold Yv;rw [decide_eq_true (show 32≤c by omega)];by_cases z:126 < c<;>simp [z]<;>omega
       rw [this] at hR;exact hR
   · have:(x.cps.toList.map Yv).all id=YJ (.str x):=by show _=x.cps.toList.all Yv;rw [List.all_map];rfl
     rw [this]
     exact q _ (Zf hD _)
 | non=>exact ZJ ⟨_,rfl,_,_,t,_,rfl,ty,i2,_,rfl,ZJ (q H (Same.refl H))⟩
 | bl b=>exact ZJ ⟨_,rfl,_,_,t,_,rfl,ty,i2,_,rfl,ZG ⟨_,rfl,_,_,t,_,rfl,ty,i3,_,rfl,q H (Same.refl H)⟩⟩
 | int i=>exact ZJ ⟨_,rfl,_,_,t,_,rfl,ty,i2,_,rfl,ZG ⟨_,rfl,_,_,t,_,rfl,ty,i3,_,rfl,q H (Same.refl H)⟩⟩
 | lst _ _ _=>exact ZJ ⟨_,rfl,_,_,t,_,rfl,ty,i2,_,rfl,ZJ (q H (Same.refl H))⟩
 | tup _ _ _=>exact ZJ ⟨_,rfl,_,_,t,_,rfl,ty,i2,_,rfl,ZJ (q H (Same.refl H))⟩
abbrev nLP:List Str:=["_law_thing"]
abbrev Ua:List Str:=["_law_thing"]
theorem scLP:ZD nLP Ua (Zo s_l_is_program):=⟨rfl,rfl,rfl,by decide +kernel,rfl,by decide +kernel,by decide +kernel⟩
abbrev nLS:List Str:=["_law_thing","_law_word","_law_rest"]
abbrev ZaH:List Str:=["_law_thing"]
theorem scLS:ZD nLS ZaH (Zo s_l_is_step):=⟨rfl,rfl,rfl,by decide +kernel,rfl,by decide +kernel,by decide +kernel⟩
theorem Zes {f:Addr}{fd:FuncData}{n k:Nat}(F:Fun K "_law_is_program" "_law_is_program" s_l_is_program f fd)(T:Yj mg)(DLS:Def P w K mg base k "_law_is_step" ZaH (Vh K n)):FnOk P w K mg base Yb (k+1) f fd Ua (Xk K (n+1)):=by
 refine F.ok scLP (fun vs H Q E h=>?_) (fun cdv A outer s H vs Q E hr h=>?_)
 · obtain ⟨v,d,rfl,_⟩:=h;rfl
 obtain ⟨v,d,rfl,hd,hs,hn,q⟩:=h
 refine' ⟨?t,?h,?r⟩
 case h =>
   conv=>arg 2;whnf
   with_reducible refine' (Zi ?h1)
   case h1=>exact Zm (YS (Zj (ZK (K:=K) rfl) rfl T.isinstance (by decide +kernel) (Zc (pv 0) (Zc (ZW rfl T.tuple (by decide +kernel) (v:=.ty "tuple") rfl) Za))) (YZ (Zj (Yx rfl) rfl T.all (by decide +kernel) (Zc (YF (CompOk.of nLP s_l_is_program rfl rfl (by decide +kernel)) rfl (Uc (pv 0))  (fun _ _ _ _ _=>Zr DLS hr (Zc (pv 1) Za))) Za))))
 obtain ⟨t,ty,i1,_,_,_⟩:=YN hd
 refine ⟨_,rfl,_,_,t,_,rfl,ty,i1,_,rfl,?_⟩
 cases id hd with
 | non=>exact ZJ (q H (Same.refl H))
 | bl b=>exact ZJ (q H (Same.refl H))
 | int i=>exact ZJ (q H (Same.refl H))
 | str x=>exact ZJ (q H (Same.refl H))
 | lst _ _ _=>exact ZJ (q H (Same.refl H))
 | @tup a xs ds e hl hq =>
   refine ZG ⟨_,rfl,a,rfl,⟨_,e⟩,fun D hD=>?_⟩
   have hlen:=hq.len
   refine WX (K:=K) (xs:=xs) (Yw (show xs.length≤20000 from hl)) (fun i ys H'=>Same H H'∧H' D=some (.lst ys)∧ys=((ds.take i).map (Yy (Yi n))).map V.bl∧ys.length=i) ⟨Zf hD _,Zh,rfl,rfl⟩ ?_ ?_ ?_
   · rintro i ys H' ⟨s4,_,rfl,hl'⟩;exact ⟨hl',e.tf s4.tf⟩
   · rintro i v ys H' hv ⟨s4,eD,rfl,hl'⟩
     obtain ⟨d2,ed2,dd2⟩:=hq.at hv
     have hd2:Zs d2=true:=by
       rw [Zs] at hs
       exact YV hs ed2
     have hdp:d2.depth < 2 * n+1:=by
       have h3:=Xe ed2
       rw [PyData.depth] at hn
       omega
     refine ⟨_,rfl,v,d2,rfl,dd2.same s4,hd2,hdp,fun H2 s6=>⟨s6 _ _ eD,fun b o q=>?_,Zh,?_,?_⟩⟩
     · rw [ZA (ZL q hD)];exact s6 _ _ (s4 _ _ q)
     · rw [List.take_add_one,ed2,List.map_append,List.map_append];rfl
     · rw [List.length_append,hl'];rfl
   · rintro ys H3 ⟨s3,eD,rfl,hl'⟩
     refine ⟨D,_,rfl,SqL.of eD,?_⟩
     have hq3:=q H3 s3
     rw [List.take_of_length_le (by omega),List.all_map]
     exact hq3
mutual
theorem UD:∀{d:PyData},Zs d=true→d.canLay0=true
 | .none,_=>rfl
 | .bool _,_=>rfl
 | .int _,_=>rfl
 | .str x,h=>by rw [Zs,Bool.and_eq_true] at h;exact h.2
 | .list ds,h=>by rw [Zs] at h;exact Wu h
 | .tuple ds,h=>by rw [Zs] at h;exact Wu h
 | .dict _,h=>by cases h
theorem Wu:∀{ds:List PyData},ZN ds=true→PyData.canLayAll0 ds=true
 | [],_=>rfl
 | d::ds,h=>by
   rw [ZN,Bool.and_eq_true] at h
   rw [PyData.canLayAll0,UD h.1,Wu h.2];rfl
end
theorem ZeN {f : Addr}{fd:FuncData}{n k:Nat}(h25:n≤25)(F:Fun K "_law_is_step" "_law_is_step" s_l_is_step f fd)(T:Yj mg)(DLN:Def P w K mg base k "_law_is_name" ZaL (XN K Yq))(DLV:Def P w K mg base k "_law_is_value" Zbm (XN K YJ))(DLP:Def P w K mg base k "_law_is_program" Ua (Xk K n)):FnOk P w K mg base Yb (k+1) f fd ZaH (Vh K n):=by
 refine F.ok scLS (fun vs H Q E h=>?_) (fun cdv A outer s H vs Q E hr h=>?_)
 · obtain ⟨v,d,rfl,_⟩:=h;rfl
 obtain ⟨v,d,rfl,hd,hs,hn,q⟩:=h
 refine' ⟨?t,?h,?r⟩
 case h =>
   conv=>arg 2;whnf
   with_reducible refine' (Ze (ZF ?h1 (Zi ?h2) Zq) (Ze ?h3 (Xx (ZF ?h4 (Zi ?h5) Zq) (Xx (ZF ?h6 (Zi ?h7) Zq) (Xx (ZF ?h8 (Zi ?h9) Zq) (Xx (ZF ?h10 (Zi ?h11) Zq) (Zi ?h12)))))))
   case h1=>exact PW.pt (XO (YE (YC (Zj (ZK (K:=K) rfl) rfl T.isinstance (by decide +kernel) (Zc (pv 0) (Zc (ZW rfl T.tuple (by decide +kernel) (v:=.ty "tuple") rfl) Za))))) (XO (Zp (Vx (K:=K) rfl hr.units) (pv 0) UI (Zt _)) (WF (YE (YC (Zj (ZK (K:=K) rfl) rfl T.isinstance (by decide +kernel) (Zc (Zz YB (pv 0) Zb (fun _ _=>rfl)) (Zc (ZW rfl T.str (by decide +kernel) (v:=.ty "str") rfl) Za))))))))
   case h2=>exact Zm Xb
   case h3=>exact ZbI (i:=1) (j:=2) rfl scLS.nd rfl rfl (by decide) rfl rfl (Zc (Zz YB (pv 0) Zb (fun _ _=>rfl)) (Zc (ZO (Ym (K:=K) rfl) (pv 0) (ZP Zb) ZZ) Za)) rfl
   case h4=>exact PW.pt (Wt (Zp ZV (pv 1) Zl (Zt _)) (Wh (Zp ZV (Zj Zv rfl T.len PySem.boot_len (Zc (pv 2) Za)) Zb (Zt _))))
   case h5=>exact Zm (YS (Zr DLN hr (Zc (Zz YB (pv 2) Zb (fun _ _=>rfl)) Za)) (YS (Zr DLV hr (Zc (Zz YB (pv 2) Zb (fun _ _=>rfl)) Za)) (YZ (Zr DLN hr (Zc (Zz YB (pv 2) Zb (fun _ _=>rfl)) Za)))))
   case h6=>exact PW.pt (Wt (Zp XS (pv 1) (Zx (Zc Zl (Zc Zl (Zc Zl Za)))) rfl) (Wh (Zp ZV (Zj Zv rfl T.len PySem.boot_len (Zc (pv 2) Za)) Zb (Zt _))))
   case h7=>exact Zm (Zr DLN hr (Zc (Zz YB (pv 2) Zb (fun _ _=>rfl)) Za))
   case h8=>exact PW.pt (Wt (Zp XS (pv 1) (Zx (Zc Zl (Zc Zl Za))) rfl) (Wh (Zp ZV (Zj Zv rfl T.len PySem.boot_len (Zc (pv 2) Za)) Zb (Zt _))))
   case h9=>exact Zm (Zr DLP hr (Zc (Zz YB (pv 2) Zb (fun _ _=>rfl)) Za))
   case h10=>exact PW.pt (Wt (Zp ZV (pv 1) Zl (Zt _)) (Wh (Zp ZV (Zj Zv rfl T.len PySem.boot_len (Zc (pv 2) Za)) Zb (Zt _))))
   case h11=>exact Zm (YS (Zr DLN hr (Zc (Zz YB (pv 2) Zb (fun _ _=>rfl)) Za)) (YZ (Zr DLP hr (Zc (Zz YB (pv 2) Zb (fun _ _=>rfl)) Za))))
   case h12=>exact Zm (YS (Xy ZV (pv 1) Zl (Zt _)) (YZ (Xy (Vx (K:=K) rfl hr.units) (pv 2) UI (Zt _))))
 obtain ⟨t,ty,i1,_,_,_⟩:=YN hd
 refine ⟨_,rfl,_,_,t,_,rfl,ty,i1,_,rfl,?_⟩
 cases id hd with
 | non=>exact ZM rfl (q H (Same.refl H))
 | bl b=>exact ZM rfl (q H (Same.refl H))
 | int i=>exact ZM rfl (q H (Same.refl H))
 | str x=>exact ZM rfl (q H (Same.refl H))
 | lst _ _ _=>exact ZM rfl (q H (Same.refl H))
 | @tup a xs ds e hl hq =>
   have hS1:ZN ds=true:=by rw [Zs] at hs;exact hs
   have nilE:∀ {H1:Hp} {p:Addr} {o:Obj} {b:Addr} {es:List PyData} {Q':VK},H1 p=none→o.dict=none→DatA K H1 (.ref b) (.tuple es)→Zs (.tuple es)=true→(PyData.tuple es).depth≤60→Q' (.bl es.isEmpty) (upd H1 p (.frz o (.tup [])))→Zcn K (.ref b) (.ref p) (upd H1 p (.frz o (.tup []))) Q':=by
     intro H1 p o b es Q' hp ho hb h1 h2 q'
     refine ⟨_,_,hb.same (Zf hp _),.tup (.inl (.inr ⟨_,Zh⟩)) (Nat.zero_le _) .nil,UD h1,rfl,h2,?_⟩
     have:PyData.eqv (.tuple es) (.tuple [])=es.isEmpty:=by cases es<;>simp [PyData.eqv,PyData.eqvAll]
     rw [this];exact q'
   refine ZI rfl ⟨_,rfl,?_⟩
   intro p o hp ho
   refine nilE hp ho hd hs (by omega) ⟨_,rfl,?_⟩
   have s1:Same H (upd H p (.frz o (.tup []))):=Zf hp _
   generalize upd H p (.frz o (.tup []))=H1 at s1 ⊢
   cases hq with
   | nil=>exact ZM rfl (q H1 s1)
   | @cons v1 d1 vs1 ds1 h1 hr1 =>
     refine ZI rfl ?_
     obtain ⟨t1,ty1,_,_,j1,_⟩:=YN (h1.same s1)
     refine ⟨_,rfl,a,_,_,_,rfl,rfl,e.tf s1.tf,ZX (j:=0) rfl,_,_,t1,_,rfl,ty1,j1,_,rfl,?_⟩
     cases id h1 with
     | non=>exact ZG (q H1 s1)
     | bl b=>exact ZG (q H1 s1)
     | int i=>exact ZG (q H1 s1)
     | lst _ _ _=>exact ZG (q H1 s1)
     | tup _ _ _=>exact ZG (q H1 s1)
     | str x =>
       refine ZJ ?_
       have hlen:vs1.length=ds1.length:=hr1.len
       have ec:XX (V.str x::vs1) (some 1) none=vs1:=VO (xs:=V.str x::vs1) (i:=1)
       refine ⟨_,rfl,a,_,_,_,rfl,rfl,e.tf s1.tf,ZX (j:=0) rfl,_,rfl,_,rfl,a,_,rfl,e.tf s1.tf,.inr ⟨fun z=>?_,fun rp hrp=>⟨_,_,rfl,?_⟩⟩⟩
       · have:HT.sIx (V.str x::vs1).length 0 (some 1)=1:=by unfold HT.sIx;simp
         rw [this] at z;cases z.1
       rw [ec]
       have s2:Same H (upd H1 rp (.tup vs1)):=s1.trans (Zf hrp _)
       have e2:SqT K (upd H1 rp (.tup vs1)) rp vs1:=SqT.of Zh
       have hr2:DatAs K (upd H1 rp (.tup vs1)) vs1 ds1:=hr1.same s2
       generalize upd H1 rp (.tup vs1)=H2 at s2 e2 hr2 ⊢
       have nm:∀ {c:PyData} {i:Nat},ds1[i]?=some c→ZcE c:=fun hc=>UM (YV (i:=_+1) hS1 hc)
       have pg:∀ {c:PyData} {i:Nat},ds1[i]?=some c→Zs c=true∧c.depth < 2 * n:=fun hc=>⟨YV (i:=_+1) hS1 hc,by
         have:=Xe (ds:=.str x::ds1) (i:=_+1) hc
         rw [PyData.depth] at hn
         omega⟩
       refine ⟨fun σ' H'=>σ'=[some (.ref a),some (.str x),some (.ref rp)]∧Same H2 H'∧¬ (x="set"∧ds1.length=3),?_,?_⟩
       · refine ⟨_,rfl,rfl,_,rfl,?_⟩
         by_cases c1:x="set"
         · refine ZM (decide_eq_true (congrArg V.str c1)) ⟨_,rfl,rp,vs1,rfl,.inr e2,rfl,_,rfl,?_⟩
           by_cases c2:ds1.length=3
           · refine ZM (decide_eq_true (by rw [hlen,c2];rfl)) ?_
             subst c1
             rcases hr2 with _ | ⟨g0,_ | ⟨g1,_ | ⟨g2,_ | ⟨_,_⟩⟩⟩⟩
             · cases c2
             · cases c2
             · cases c2
             · have q3:∀ H',Same H2 H'→Q (.bl _) H':=fun H' s'=>q H' (s2.trans s')
               rw [sb3] at q3
               refine ⟨_,rfl,rp,_,_,_,rfl,rfl,e2,ZX (j:=0) rfl,_,_,rfl,g0,nm (i:=0) rfl,fun H3 s3=>⟨_,rfl,ifB (fun b0=>?_) fun b0=>?_⟩⟩
               · refine ⟨_,rfl,rp,_,_,_,rfl,rfl,e2.tf s3.tf,ZX (j:=1) rfl,_,_,rfl,g1.same s3,nm (i:=1) rfl,fun H4 s4=>⟨_,rfl,ifB (fun b1=>?_) fun b1=>?_⟩⟩
                 · refine ⟨_,rfl,rp,_,_,_,rfl,rfl,e2.tf (s3.trans s4).tf,ZX (j:=2) rfl,_,_,rfl,g2.same (s3.trans s4),nm (i:=2) rfl,fun H5 s5=>?_⟩
                   have:=q3 H5 (s3.trans (s4.trans s5));rw [b0,b1] at this;exact this
                 · have:=q3 H4 (s3.trans s4);rw [b0,b1] at this;exact this
               · have:=q3 H3 s3;rw [b0] at this;exact this
             · cases c2
           · exact ZI (decide_eq_false fun z=>c2 (by have:=V.int.inj z;omega)) ⟨rfl,Same.refl _,fun z=>c2 z.2⟩
         · exact ZI (decide_eq_false fun z=>c1 (V.str.inj z)) ⟨rfl,Same.refl _,fun z=>c1 z.1⟩
       rintro σ' H3 ⟨rfl,s3,n1⟩
       refine ⟨fun σ' H'=>σ'=[some (.ref a),some (.str x),some (.ref rp)]∧Same H2 H'∧¬ ((x="look"∨x="back"∨x="copy")∧ds1.length=1),?_,?_⟩
       · refine ⟨_,rfl,(show 3≤sizeLine by decide),fun pt hpt=>⟨pt,_,rfl,.inr (SqT.of Zh),rfl,rfl,_,rfl,?_⟩⟩
         have s4:Same H2 (upd H3 pt (.tup [V.str "look",.str "back",.str "copy"])):=s3.trans (Zf hpt _)
         rw [show (if false=true then !We (V.str x) [V.str "look",.str "back",.str "copy"] else We (V.str x) [V.str "look",.str "back",.str "copy"])=decide (x="look"∨x="back"∨x="copy") from in3]
         by_cases c1:x="look"∨x="back"∨x="copy"
         · refine ZM (decide_eq_true c1) ⟨_,rfl,rp,vs1,rfl,.inr (e2.tf s4.tf),rfl,_,rfl,?_⟩
           by_cases c2:ds1.length=1
           · refine ZM (decide_eq_true (by rw [hlen,c2];rfl)) ?_
             rcases hr2 with _ | ⟨g0,_ | ⟨g1,_⟩⟩
             · cases c2
             · have q3:∀ H',Same H2 H'→Q (.bl _) H':=fun H' s'=>q H' (s2.trans s')
               rw [sb1n _ _ c1] at q3
               exact ⟨_,rfl,rp,_,_,_,rfl,rfl,e2.tf s4.tf,ZX (j:=0) rfl,_,_,rfl,g0.same s4,nm (i:=0) rfl,fun H5 s5=>q3 H5 (s4.trans s5)⟩
             · cases c2
           · exact ZI (decide_eq_false fun z=>c2 (by have:=V.int.inj z;omega)) ⟨rfl,s4,fun z=>c2 z.2⟩
         · exact ZI (decide_eq_false c1) ⟨rfl,s4,fun z=>c1 z.1⟩
       clear s3
       rintro σ' H3 ⟨rfl,s3,n2⟩
       refine ⟨fun σ' H'=>σ'=[some (.ref a),some (.str x),some (.ref rp)]∧Same H2 H'∧¬ ((x="begin"∨x="late")∧ds1.length=1),?_,?_⟩
       · refine ⟨_,rfl,(show 2≤sizeLine by decide),fun pt hpt=>⟨pt,_,rfl,.inr (SqT.of Zh),rfl,rfl,_,rfl,?_⟩⟩
         have s4:Same H2 (upd H3 pt (.tup [V.str "begin",.str "late"])):=s3.trans (Zf hpt _)
         rw [show (if false=true then !We (V.str x) [V.str "begin",.str "late"] else We (V.str x) [V.str "begin",.str "late"])=decide (x="begin"∨x="late") from in2]
         by_cases c1:x="begin"∨x="late"
         · refine ZM (decide_eq_true c1) ⟨_,rfl,rp,vs1,rfl,.inr (e2.tf s4.tf),rfl,_,rfl,?_⟩
           by_cases c2:ds1.length=1
           · refine ZM (decide_eq_true (by rw [hlen,c2];rfl)) ?_
             rcases hr2 with _ | ⟨g0,_ | ⟨g1,_⟩⟩
             · cases c2
             · have q3:∀ H',Same H2 H'→Q (.bl _) H':=fun H' s'=>q H' (s2.trans s')
               rw [sb1p _ _ c1] at q3
               exact ⟨_,rfl,rp,_,_,_,rfl,rfl,e2.tf s4.tf,ZX (j:=0) rfl,_,_,rfl,g0.same s4,(pg (i:=0) rfl).1,(pg (i:=0) rfl).2,fun H5 s5=>q3 H5 (s4.trans s5)⟩
             · cases c2
           · exact ZI (decide_eq_false fun z=>c2 (by have:=V.int.inj z;omega)) ⟨rfl,s4,fun z=>c2 z.2⟩
         · exact ZI (decide_eq_false c1) ⟨rfl,s4,fun z=>c1 z.1⟩
       clear s3
       rintro σ' H3 ⟨rfl,s3,n3⟩
       refine ⟨fun σ' H'=>σ'=[some (.ref a),some (.str x),some (.ref rp)]∧Same H2 H'∧¬ (x="in"∧ds1.length=2),?_,?_⟩
       · refine ⟨_,rfl,rfl,_,rfl,?_⟩
         by_cases c1:x="in"
         · refine ZM (decide_eq_true (congrArg V.str c1)) ⟨_,rfl,rp,vs1,rfl,.inr (e2.tf s3.tf),rfl,_,rfl,?_⟩
           by_cases c2:ds1.length=2
           · refine ZM (decide_eq_true (by rw [hlen,c2];rfl)) ?_
             subst c1
             rcases hr2 with _ | ⟨g0,_ | ⟨g1,_ | ⟨g2,_⟩⟩⟩
             · cases c2
             · cases c2
             · have q3:∀ H',Same H2 H'→Q (.bl _) H':=fun H' s'=>q H' (s2.trans s')
               rw [sb2] at q3
               refine ⟨_,rfl,rp,_,_,_,rfl,rfl,e2.tf s3.tf,ZX (j:=0) rfl,_,_,rfl,g0.same s3,nm (i:=0) rfl,fun H4 s4=>⟨_,rfl,ifB (fun b0=>?_) fun b0=>?_⟩⟩
               · refine ⟨_,rfl,rp,_,_,_,rfl,rfl,e2.tf (s3.trans s4).tf,ZX (j:=1) rfl,_,_,rfl,g1.same (s3.trans s4),(pg (i:=1) rfl).1,(pg (i:=1) rfl).2,fun H5 s5=>?_⟩
                 have:=q3 H5 (s3.trans (s4.trans s5));rw [b0] at this;exact this
               · have:=q3 H4 (s3.trans s4);rw [b0] at this;exact this
             · cases c2
           · exact ZI (decide_eq_false fun z=>c2 (by have:=V.int.inj z;omega)) ⟨rfl,s3,fun z=>c2 z.2⟩
         · exact ZI (decide_eq_false fun z=>c1 (V.str.inj z)) ⟨rfl,s3,fun z=>c1 z.1⟩
       clear s3
       rintro σ' H3 ⟨rfl,s3,n4⟩
       have q3:∀ H',Same H2 H'→Q (.bl _) H':=fun H' s'=>q H' (s2.trans s')
       rw [sbE _ n1 n2 n3 n4] at q3
       refine ⟨_,rfl,rfl,_,rfl,ifB (fun b0=>⟨_,rfl,?_⟩) fun b0=>?_⟩
       · intro p5 o5 hp5 ho5
         refine nilE hp5 ho5 (.tup (e2.tf s3.tf) (by rw [List.length_cons] at hl;omega) (hr2.same s3)) ?_ ?_ ?_
         · rw [Zs];rw [ZN,Bool.and_eq_true] at hS1;exact hS1.2
         · rw [PyData.depth,PyData.depthAll] at hn;rw [PyData.depth];omega
         · have:=q3 _ (s3.trans (Zf hp5 (.frz o5 (.tup []))));rw [b0] at this;exact this
       · have:=q3 H3 s3;rw [b0] at this;exact this
end
end K54
set_option maxHeartbeats 4000000
namespace K54
open PySem L2
section
variable {P:Program}{w:World}{K:PySem.W.Frag}{mg:Str→Option Value}{base:Heap}
abbrev nNm:List Str:=["_law_box_here","_law_many","_law_letters","_law_size","_law_stem","_law_first","_law_step_here","_law_at","_law_found","_law_k","_law_one","_law_other"]
abbrev Zct:List Str:=["_law_box_here","_law_many"]
theorem scNm:ZD nNm Zct (Zo s_l_names):=⟨rfl,rfl,rfl,by decide +kernel,rfl,by decide +kernel,by decide +kernel⟩
theorem ZcR {f:Addr}{fd:FuncData}(F:Fun K "_law_names" "_law_names" s_l_names f fd)(T:Yj mg)(DT:UX P w K mg base 1):FnOk P w K mg base Yb 2 f fd Zct VM:=by
 refine F.ok scNm (fun vs H Q E h=>?_) (fun cdv A outer s H vs Q E hr h=>?_)
 · obtain ⟨p,n,many,Δ,rfl,_⟩:=h;rfl
 obtain ⟨p,n,many,Δ,rfl,S,hn,h0,h1,q⟩:=h
 have hr1:=hr
 refine' ⟨?t,?h,?r⟩
 case h =>
   conv=>arg 2;whnf
   with_reducible refine' (Ze ?h1 (Ze ?h2 (Ze ?h3 (Ze ?h4 (Ze (Wb ?h5 ?h6 ?h7 ?h8 (Ze ?h9 (Zi ?h10)) ?h11) (Zi ?h12))))))
   case h1=>exact WG (Zx (Zc Zl (Zc (Zk ZU Zb (Zr DT hr1 (Zc (pv 0) (Zc Zb Za)))) Za))) (Vn rfl (Xg (Yn (i:=2) scNm.nd rfl (Or.inr rfl)) (Xg (Yn (i:=3) scNm.nd rfl (Or.inl rfl)) UJ)))
   case h2=>exact Zy (i:=4) scNm.nd rfl (Or.inl rfl) (Vf PySem.F.plainAttrs_str PySem.F.slot_str_join PySem.F.type_str_join Zac Zl (Zc (YF (CompOk.of nNm s_l_names rfl rfl (by decide +kernel)) rfl (YH rfl T.range (Zc (Zk XD (pv 3) Zb) Za))  (fun _ _ _ _ _=>Zz Uq (pv 2) (Zr DT hr1 (Zc (pv 0) (Zc Zb Za))) (fun _ _=>rfl))) Za))
   case h3=>exact ZdM (i:=5) (j:=6) (k:=7) rfl scNm.nd rfl rfl rfl (by decide) (by decide) (by decide) rfl rfl rfl (Zc (Zr DT hr1 (Zc (pv 0) (Zc Zb Za))) (Zc (Zz ZH (YI (Zc Zb (Zc Zb (Zc Zb (Zc Zb Za))))) (Zr DT hr1 (Zc (pv 0) (Zc Zb Za))) (fun _ _=>rfl)) (Zc (Zr DT hr1 (Zc (pv 0) (Zc (Zk XD (pv 3) Zb) Za))) Za))) rfl
   case h4=>exact Zy (i:=8) scNm.nd rfl (Or.inl rfl) (YI Za)
   case h5=>exact PassesOwn.never
   case h6=>exact rfl
   case h7=>exact YH rfl T.range (Zc (pv 1) Za)
   case h8=>exact Yn (i:=9) scNm.nd rfl (Or.inl rfl)
   case h9=>exact WG (Zj VY rfl T.divmod (by decide +kernel) (Zc (Zk Xc (Zk ZU (pv 5) (Zk Xm (pv 6) (pv 9))) Zb) (Zc Zb Za))) (Vn rfl (Xg (Yn (i:=10) scNm.nd rfl (Or.inl rfl)) (Xg (Yn (i:=11) scNm.nd rfl (Or.inl rfl)) UJ)))
   case h10=>exact Zal (Vf PySem.F.plainAttrs_list PySem.F.slot_list_append PySem.F.type_list_append XQ (pv 8) (Zc (Zk Wp (Zk Wp (Zk Wp (ZO Zci (pv 4) ZZ (ZP (pv 7))) (Zz Uq (pv 2) (pv 10) (fun _ _=>rfl))) (Zz Uq (pv 2) (pv 11) (fun _ _=>rfl))) (ZO Zci (pv 4) (ZP (pv 7)) ZZ)) Za))
   case h11=>exact fun _=>rfl
   case h12=>exact Zm (pv 8)
 refine ⟨_,rfl,p,_,7,_,rfl,S,by omega,by decide,by decide,fun r1 H1 a0 a1 S1=>⟨_,_,rfl,rfl,(by show 2≤sizeLine;decide),fun t ht=>⟨t,_,rfl,SqT.of Zh,rfl,_,_,rfl,_,_,rfl,rfl,?_⟩⟩⟩
 generalize hE:upd H1 t _=H2
 have S2:=(S1.newE ht hE).tail
 clear hE
 refine ⟨rfl,_,rfl,_,_,rfl,rfl,_,rfl,by omega,by omega,fun D hD=>?_⟩
 have e1:(2+r1 - 2).toNat=r1.toNat:=by omega
 rw [e1]
 refine VZ (Yw (show r1.toNat≤1000 by omega)) S2 hD (fun i ys Δ'=>∃ zs:List Str,ys=zs.map V.str∧(∀ z∈zs,∃ c,z=⟨#[c]⟩∧Yf c=true)∧Δ'=(p,Bx (n+1+i))::Δ) ⟨[],rfl,(fun _ h=>nomatch h),rfl⟩ ?_ ?_
 · rintro i ys Δ' H' hi hl ⟨zs,rfl,hz,rfl⟩ S'
   refine ⟨_,rfl,_,rfl,p,_,26,_,rfl,S'.pull p,by omega,by decide,by decide,fun r3 H3 b0 b1 S3=>?_⟩
   obtain ⟨c,hc,hcl⟩:=UN (x:=a26) UL b0 (by rw [YX];exact b1)
   refine ⟨a26,r3,c,rfl,rfl,by rw [YX];decide,hc,_,⟨zs++[⟨#[c]⟩],by rw [List.map_append];rfl,?_,rfl⟩,S3.pull D⟩
   intro z hz'
   rcases List.mem_append.mp hz' with h | h
   · exact hz z h
   · rw [List.mem_singleton.mp h];exact ⟨c,rfl,hcl⟩
 rintro ys Δ' H3 ⟨zs,rfl,hz,rfl⟩ hl S3
 rw [List.length_map] at hl
 obtain ⟨g1,g2,g3⟩:=Zcd hz
 refine ⟨_,D,zs,rfl,rfl,SqL.of (S3.get D),by omega,?_⟩
 have S4:=S3.tail
 generalize Txt.join (Str.ofString "") zs=stem at *
 refine ⟨_,rfl,p,_,676,_,rfl,S4,by omega,by decide,by decide,fun r5 H5 b0 b1 S5=>⟨(by show 4≤sizeLine;decide),fun l hl4=>?_⟩⟩
 generalize hE:upd H5 l _=H6
 have S6:=S5.newE hl4 hE
 clear hE
 refine ⟨_,rfl,p,_,4,_,rfl,S6.pull p,by omega,by decide,by decide,fun r7 H7 c0 c1 S7=>?_⟩
 obtain ⟨sv,hsm,hsv⟩:=WI (xs:=[.int 1,.int 27,.int 5,.int 251]) c0 c1
 obtain ⟨stp,rfl,hst⟩:∃ z:Int,sv=.int z∧0≤z∧z≤251:=by
   simp only [List.mem_cons,List.not_mem_nil,or_false] at hsm
   rcases hsm with rfl | rfl | rfl | rfl<;>exact ⟨_,rfl,by decide,by decide⟩
 refine ⟨l,_,_,_,rfl,rfl,SqL.of (S7.get l),hsv,?_⟩
 have S8:=S7.drop l
 refine ⟨_,rfl,_,rfl,_,_,rfl,rfl,p,_,_,_,rfl,S8,by omega,by omega,by omega,fun r9 H9 d0 d1 S10=>⟨_,_,_,rfl,?_⟩⟩
 refine ⟨(by show 0≤sizeLine;decide),fun fl hfl=>?_⟩
 generalize hE:upd H9 fl _=H11
 have S11:=S10.newE hfl hE
 clear hE
 refine ⟨_,rfl,many,rfl,by omega,by omega,?_⟩
 refine Xp (fun i σ H'=>∃ x9 x10 x11 xs,σ=[some (.ref p),some (.int many),some (.str a26),some (.int (2+r1)),some (.str stem),some (.int r5),some (.int stp),some (.int r9),some (.ref fl),x9,x10,x11]∧Sep ((fl,YW (xs.map V.str))::(p,Bx (n+20))::Δ) H'∧xs.length=i∧∀ x∈xs,YD x∧2≤x.length)
   ⟨_,_,_,[],rfl,(S11.pull p).le (by omega) |>.pull fl,rfl,fun _ h=>nomatch h⟩ ?_ ?_
 · rintro i σ H' hi ⟨x9,x10,x11,xs,rfl,S',hxl,hxs⟩
   have hb:0≤stp * (0+(i:Int)):=Int.mul_nonneg hst.1 (by omega)
   refine ⟨_,rfl,_,rfl,_,rfl,_,_,rfl,rfl,.inl ⟨by omega,by omega⟩,_,_,rfl,rfl,_,_,rfl,rfl,(by show (0:Int) < 676;decide),?_⟩
   obtain ⟨z,hz⟩:∃ z:Int,(r5+stp * (0+(i:Int))) % 676=z:=⟨_,rfl⟩
   have hz0:0≤z:=by rw [← hz];exact Int.emod_nonneg _ (by decide)
   have hz1:z < 676:=by rw [← hz];exact Int.emod_lt_of_pos _ (by decide)
   refine ⟨z,26,congrArg (fun y=>[V.int y,V.int 26]) hz,⟨by decide,by decide⟩,fun t2 ht2=>⟨t2,_,rfl,SqT.of Zh,rfl,_,_,rfl,_,_,rfl,rfl,?_⟩⟩
   generalize hE:upd H' t2 _=H12
   have S12:=(S'.newE ht2 hE).tail
   clear hE
   obtain ⟨c1',hc1,hcl1⟩:=UN (x:=a26) UL (r:=z / 26) (by omega) (by rw [YX];omega)
   obtain ⟨c2',hc2,hcl2⟩:=UN (x:=a26) UL (r:=z % 26) (by omega) (by rw [YX];omega)
   have hsl:=Zch (x:=stem) d0 (by omega)
   refine ⟨_,rfl,.inl ⟨rfl,_,SqL.of (S12.get fl)⟩,_,rfl,_,rfl,r9,rfl,stem,rfl,Yw (show stem.length≤1000 by omega),_,rfl,_,rfl,a26,_,c1',rfl,rfl,by rw [YX];decide,hc1,_,_,rfl,rfl,Yw (show _≤1000 by rw [Xf];omega),?_⟩
   refine ⟨_,rfl,_,rfl,a26,_,c2',rfl,rfl,by rw [YX];decide,hc2,_,_,rfl,rfl,Yw (show _≤1000 by rw [Xz,Xf,Xf];omega),_,rfl,_,rfl,r9,rfl,stem,rfl,Yw (show stem.length≤1000 by omega),_,_,rfl,rfl,Yw (show _≤1000 by rw [Xz,Xz,Xf,Xf];omega),?_⟩
   refine ⟨fl,_,_,rfl,rfl,S12.get fl,Zcg (show _≤1000 by rw [List.length_map];omega),?_⟩
   have S13:=S12.put fl (.lst (xs.map V.str++[.str (Txt.slice stem none (some r9)++(⟨#[c1']⟩:Str)++(⟨#[c2']⟩:Str)++Txt.slice stem (some r9) none)]))
   refine ⟨_,_,_,xs++[Txt.slice stem none (some r9)++(⟨#[c1']⟩:Str)++(⟨#[c2']⟩:Str)++Txt.slice stem (some r9) none],rfl,by rw [List.map_append];exact S13,by simp [hxl],fun x hx=>?_⟩
   rcases List.mem_append.mp hx with h | h
   · exact hxs x h
   · rw [List.mem_singleton.mp h]
     refine ⟨⟨?_,?_,WV (WV (WV (Ub g3) (VI hcl1)) (VI hcl2)) (Ub g3)⟩,?_⟩<;>(rw [Xz,Xz,Xz,Xf,Xf];omega)
 · rintro σ H' ⟨x9,x10,x11,xs,rfl,S',hxl,hxs⟩
   exact ⟨_,rfl,q fl H' xs S' hxl hxs⟩
end
end K54
set_option maxHeartbeats 4000000
namespace K54
open PySem L2
def Vy (K:PySem.W.Frag)(ps:List Pg):Yu:=fun a h=>DatT K h (.ref a) (.tuple (Pg.dats ps))
def XY (K:PySem.W.Frag)(p:Pg):Yu:=fun a h=>DatT K h (.ref a) p.dat
def StL (K:PySem.W.Frag)(ps:List Pg):Yu:=fun a h=>∃ vs,h a=some (.lst vs)∧DatTs K h vs (Pg.dats ps)
instance {K:PySem.W.Frag} {ps:List Pg}:Up (Vy K ps):=⟨fun h s=>DatT.same s h⟩
instance {K:PySem.W.Frag} {p:Pg}:Up (XY K p):=⟨fun h s=>DatT.same s h⟩
instance {K:PySem.W.Frag} {ps:List Pg}:Up (StL K ps):=⟨fun ⟨vs,e,d⟩ s=>⟨vs,s _ _ e,DatTs.same s d⟩⟩
theorem Zfo {K:PySem.W.Frag}{Δ Δ':Rs}{H:Hp}{ps qs:List Pg}(S:Sep Δ H)(l:Addr)[P:Pull l Δ (StL K ps) Δ'](vs':List V)(d:DatTs K H vs' (Pg.dats qs)):Sep ((l,StL K qs)::Δ') (upd H l (.lst vs')):=by
 obtain ⟨vs,el,_⟩:=S.get l
 refine S.updR l _ (fun h ⟨vs,e,_⟩=>⟨_,e,rfl⟩) fun h r l' h' e1 e2 e3=>⟨vs',e1,DatTs.tf ⟨fun b xs q=>e3 b _ (Zds q el (fun z=>nomatch z)) q rfl,fun b o u q=>e3 b _ (Zds q el (fun z=>nomatch z)) q rfl⟩ d⟩
def VG:List Str:=["set","look","back","begin","late","copy","in","pass"]
structure RO (Δ:Rs)(nl sl wl:Addr)(NS SS WS:List Str):Prop where
 rd:∀ H,Sep Δ H→H nl=some (.lst (NS.map V.str))∧H sl=some (.lst (SS.map V.str))∧H wl=some (.lst (WS.map V.str))
 n0:NS≠[]
 s0:SS≠[]
 w0:WS≠[]
 nl:NS.length≤1000
 sl:SS.length≤1000
 wl:WS.length≤1000
 nk:∀ x∈NS,YD x
 sk:∀ x∈SS,YD x
 wk:∀ x∈WS,x∈VG
section
variable {P:Program}{w:World}{K:PySem.W.Frag}{mg:Str→Option Value}{base:Heap}
def Ur (K:PySem.W.Frag)(n:Nat):Sp:=fun vs H Q _=>∃(p nl sl wl rm:Addr)(N r deep many:Nat)(NS SS WS:List Str)(Δ:Rs),vs=[.ref p,.ref nl,.ref sl,.ref wl,.ref rm,.int (deep:Int),.int (many:Int)]∧Sep ((p,Bx N)::(rm,YW [.int (r:Int)])::Δ) H∧RO Δ nl sl wl NS SS WS∧deep < n∧many≤1000∧r≤1000∧N+60 * r≤800000 ∧
 ∀ (t:Addr) (H':Hp) (ps:List Pg) (r':Nat),Pg.manys ps+r'=r→Pg.oks ps→Pg.hgts ps≤deep→Sep ((t,Vy K ps)::(p,Bx (N+60 * (r - r')))::(rm,YW [.int (r':Int)])::Δ) H'→Q (.ref t) H'
def Vi (K:PySem.W.Frag)(n:Nat):Sp:=fun vs H Q _=>∃(p nl sl wl rm:Addr)(N r deep:Nat)(NS SS WS:List Str)(Δ:Rs),vs=[.ref p,.ref nl,.ref sl,.ref wl,.ref rm,.int (deep:Int)]∧Sep ((p,Bx N)::(rm,YW [.int (r:Int)])::Δ) H∧RO Δ nl sl wl NS SS WS∧deep≤n∧r≤1000∧N+60 * (r+1)≤800000 ∧
 ∀ (t:Addr) (H':Hp) (p':Pg) (r':Nat),p'.many+r'=r+1→p'.ok→p'.hgt≤deep→Sep ((t,XY K p')::(p,Bx (N+60 * (r+1 - r')))::(rm,YW [.int (r':Int)])::Δ) H'→Q (.ref t) H'
abbrev nSt:List Str:=["_law_box_here","_law_names_here","_law_slots","_law_words","_law_room","_law_deep","_law_word","_law_name","_law_head","_law_inner"]
abbrev Zbq:List Str:=["_law_box_here","_law_names_here","_law_slots","_law_words","_law_room","_law_deep"]
theorem scSt:ZD nSt Zbq (Zo s_l_step):=⟨rfl,rfl,rfl,by decide +kernel,rfl,by decide +kernel,by decide +kernel⟩
abbrev nPr:List Str:=["_law_box_here","_law_names_here","_law_slots","_law_words","_law_room","_law_deep","_law_many","_law_steps","_law_turn"]
abbrev WY:List Str:=["_law_box_here","_law_names_here","_law_slots","_law_words","_law_room","_law_deep","_law_many"]
theorem scPr:ZD nPr WY (Zo s_l_program):=⟨rfl,rfl,rfl,by decide +kernel,rfl,by decide +kernel,by decide +kernel⟩
theorem ZdG {f:Addr}{fd:FuncData}{n k:Nat}(F:Fun K "_law_step" "_law_step" s_l_step f fd)(T:Yj mg)(DT:UX P w K mg base k)(DV:Def P w K mg base k "_law_value" ["_law_box_here"] Wn)(DPr:Def P w K mg base k "_law_program" WY (Ur K n)):FnOk P w K mg base Yb (k+1) f fd Zbq (Vi K n):=by
 refine F.ok scSt (fun vs H Q E h=>?_) (fun cdv A outer s H vs Q E hr h=>?_)
 · obtain ⟨p,nl,sl,wl,rm,N,r,deep,NS,SS,WS,Δ,rfl,_⟩:=h;rfl
 obtain ⟨p,nl,sl,wl,rm,N,r,deep,NS,SS,WS,Δ,rfl,S,RO,hdn,hr1k,hN,q⟩:=h
 have hr1:=hr
 refine' ⟨?t,?h,?r⟩
 case h =>
   conv=>arg 2;whnf
   with_reducible refine' (Ze ?h1 (Xx (ZF ?h2 (Zi ?h3) Zq) (Ze (ZF ?h4 (Ze ?h5 (Zi ?h6)) Zq) (Ze (ZF ?h7 (Zi ?h8) Zq) (Ze (ZF ?h9 (Zi ?h10) Zq) (Ze (ZF ?h11 (Zi ?h12) Zq) (Xx ?h13 (Ze ?h14 (Zi ?h15)))))))))
   case h1=>exact Zy (i:=6) scSt.nd rfl (Or.inl rfl) (Zz ZH (pv 3) (Zr DT hr1 (Zc (pv 0) (Zc (Zj Zv rfl T.len PySem.boot_len (Zc (pv 3) Za)) Za))) (fun _ _=>rfl))
   case h2=>exact PW.pt (Wt (Zp XS (pv 6) (Zx (Zc Zl (Zc Zl (Zc Zl Za)))) rfl) (Wh (Zp ZV (pv 5) Zb (Zt _))))
   case h3=>exact Zy (i:=6) scSt.nd rfl (Or.inl rfl) Zl
   case h4=>exact Zp ZV (pv 6) Zl (Zt _)
   case h5=>exact Zy (i:=7) scSt.nd rfl (Or.inl rfl) (Zz ZH (pv 1) (Zr DT hr1 (Zc (pv 0) (Zc (Zj Zv rfl T.len PySem.boot_len (Zc (pv 1) Za)) Za))) (fun _ _=>rfl))
   case h6=>exact Zm (Zx (Zc Zl (Zc (pv 7) (Zc (Zr DV hr (Zc (pv 0) Za)) (Zc (Zz ZH (pv 2) (Zr DT hr1 (Zc (pv 0) (Zc (Zj Zv rfl T.len PySem.boot_len (Zc (pv 2) Za)) Za))) (fun _ _=>rfl)) Za)))))
   case h7=>exact Zp ZV (pv 6) Zl (Zt _)
   case h8=>exact Zm (Zx (Zc Zl (Zc (Zz ZH (pv 1) (Zr DT hr1 (Zc (pv 0) (Zc (Zj Zv rfl T.len PySem.boot_len (Zc (pv 1) Za)) Za))) (fun _ _=>rfl)) Za)))
   case h9=>exact Zp XS (pv 6) (Zx (Zc Zl (Zc Zl Za))) rfl
   case h10=>exact Zm (Zx (Zc (pv 6) (Zc (Zz ZH (pv 2) (Zr DT hr1 (Zc (pv 0) (Zc (Zj Zv rfl T.len PySem.boot_len (Zc (pv 2) Za)) Za))) (fun _ _=>rfl)) Za)))
   case h11=>exact Zp ZV (pv 6) Zl (Zt _)
   case h12=>exact Zm (Zx (Zc Zl Za))
   case h13=>exact Zy (i:=8) scSt.nd rfl (Or.inl rfl) (Vz (Zp ZV (pv 6) Zl (Zt _)) (Zx (Zc (pv 6) (Zc (Zz ZH (pv 2) (Zr DT hr1 (Zc (pv 0) (Zc (Zj Zv rfl T.len PySem.boot_len (Zc (pv 2) Za)) Za))) (fun _ _=>rfl)) Za))) (Zx (Zc (pv 6) Za)))
   case h14=>exact Zy (i:=9) scSt.nd rfl (Or.inl rfl) (Zr DPr hr (Yk (pv 0) (Yk (pv 1) (Yk (pv 2) (Yk (pv 3) (Yk (pv 4) (Yk (Zk XD (pv 5) Zb) (Yk (Zr DT hr1 (Zc (pv 0) (Zc Zb Za))) Za rfl) rfl) rfl) rfl) rfl) rfl) rfl))
   case h15=>exact Zm (Zk UE (pv 8) (Zx (Zc (pv 9) Za)))
 have hw0:=List.length_pos_iff.mpr RO.w0
 have hn0:=List.length_pos_iff.mpr RO.n0
 have hs0:=List.length_pos_iff.mpr RO.s0
 have hwl:=RO.wl
 have hnl:=RO.nl
 have hsl:=RO.sl
 refine ⟨_,rfl,_,rfl,_,rfl,wl,_,rfl,.inl (SqL.of (RO.rd _ S.tail.tail).2.2),p,N,_,_,rfl,S,by omega,by rw [List.length_map];omega,by rw [List.length_map];omega,fun r1 H1 a0 a1 S1=>?_⟩
 rw [List.length_map] at a1
 obtain ⟨w,hwm,hwe⟩:=XG (f:=V.str) (xs:=WS) a0 a1
 have hw8:=RO.wk w hwm
 refine ⟨wl,_,_,_,rfl,rfl,SqL.of (RO.rd _ S1.tail.tail).2.2,hwe,?_⟩
 refine ⟨fun σ' H2=>∃ w':Str,σ'=[some (.ref p),some (.ref nl),some (.ref sl),some (.ref wl),some (.ref rm),some (.int (deep:Int)),some (.str w'),none,none,none]∧w'∈VG∧(w'∈([("begin":Str),"late","in"])→1≤deep)∧Sep ((p,Bx (N+1))::(rm,YW [.int (r:Int)])::Δ) H2,?_,?_⟩
 · refine ⟨_,rfl,(by decide),fun t ht=>⟨t,_,rfl,.inr (SqT.of Zh),rfl,rfl,_,rfl,?_⟩⟩
   have S2:=(S1.new ht (.tup [.str "begin",.str "late",.str "in"])).tail
   dsimp only
   rw [if_neg Bool.false_ne_true,show We (.str w) [.str "begin",.str "late",.str "in"]=decide (w∈([("begin":Str),"late","in"])) from Zdt (ys:=["begin","late","in"])]
   refine Wk (fun c=>?_) (fun c=>?_)
   · refine ⟨_,rfl,rfl,_,rfl,Wk (fun c2=>?_) (fun c2=>?_)⟩
     · exact ⟨"look",rfl,(by decide +kernel),fun z=>absurd z (by decide +kernel),S2⟩
     · refine ⟨w,rfl,hw8,fun _=>?_,S2⟩
       apply Classical.byContradiction
       intro z
       exact c2 (decide_eq_true (by rw [show deep=0 by omega];rfl))
   · exact ⟨w,rfl,hw8,fun z=>absurd (decide_eq_true z) c,S2⟩
 rintro σ' H2 ⟨w',rfl,hw',hblk,S2⟩
 unfold VG at hw'
 simp only [List.mem_cons,List.not_mem_nil,or_false] at hw'
 rcases hw' with rfl | rfl | rfl | rfl | rfl | rfl | rfl | rfl
 · -- set
   refine ⟨_,rfl,rfl,_,rfl,ZM (by decide +kernel) ?_⟩
   refine ⟨_,rfl,_,rfl,_,rfl,nl,_,rfl,.inl (SqL.of (RO.rd _ S2.tail.tail).1),p,_,_,_,rfl,S2,by omega,by rw [List.length_map];omega,by rw [List.length_map];omega,fun r3 H3 b0 b1 S3=>?_⟩
   rw [List.length_map] at b1
   obtain ⟨x,hxm,hxe⟩:=XG (f:=V.str) (xs:=NS) b0 b1
   refine ⟨nl,_,_,_,rfl,rfl,SqL.of (RO.rd _ S3.tail.tail).1,hxe,?_⟩
   refine ⟨_,rfl,_,rfl,p,_,_,rfl,S3,by omega,fun v H4 hv S4=>?_⟩
   refine ⟨_,rfl,_,rfl,_,rfl,sl,_,rfl,.inl (SqL.of (RO.rd _ S4.tail.tail).2.1),p,_,_,_,rfl,S4,by omega,by rw [List.length_map];omega,by rw [List.length_map];omega,fun r5 H5 d0 d1 S5=>?_⟩
   rw [List.length_map] at d1
   obtain ⟨y,hym,hye⟩:=XG (f:=V.str) (xs:=SS) d0 d1
   refine ⟨sl,_,_,_,rfl,rfl,SqL.of (RO.rd _ S5.tail.tail).2.1,hye,(show 4≤sizeLine by decide),fun t ht=>?_⟩
   refine q t _ (.set x v y) r (by show 1+r=r+1;omega) ⟨RO.nk x hxm,hv,RO.sk y hym⟩ (Nat.zero_le _) ?_
   exact ((((S5.new ht _).say t (XY K (.set x v y)) fun h e=>DatT.tup (SqT.of e) (.cons (.str _) (.cons (.str _) (.cons (by cases v<;>first | exact .int _ | exact .str _ | exact hv.elim) (.cons (.str _) .nil))))).pull p).le (by omega)).pull t
 · -- look
   refine ⟨_,rfl,rfl,_,rfl,ZI (by decide +kernel) ?_⟩
   refine ⟨_,rfl,rfl,_,rfl,ZM (by decide +kernel) ?_⟩
   refine ⟨_,rfl,_,rfl,_,rfl,nl,_,rfl,.inl (SqL.of (RO.rd _ S2.tail.tail).1),p,_,_,_,rfl,S2,by omega,by rw [List.length_map];omega,by rw [List.length_map];omega,fun r3 H3 b0 b1 S3=>?_⟩
   rw [List.length_map] at b1
   obtain ⟨x,hxm,hxe⟩:=XG (f:=V.str) (xs:=NS) b0 b1
   refine ⟨nl,_,_,_,rfl,rfl,SqL.of (RO.rd _ S3.tail.tail).1,hxe,(show 2≤sizeLine by decide),fun t ht=>?_⟩
   refine q t _ (.look x) r (by show 1+r=r+1;omega) (RO.nk x hxm) (Nat.zero_le _) ?_
   exact ((((S3.new ht _).say t (XY K (.look x)) fun h e=>DatT.tup (SqT.of e) (.cons (.str _) (.cons (.str _) .nil))).pull p).le (by omega)).pull t
 · -- back
   refine ⟨_,rfl,rfl,_,rfl,ZI (by decide +kernel) ?_⟩
   refine ⟨_,rfl,rfl,_,rfl,ZI (by decide +kernel) ?_⟩
   refine ⟨_,rfl,(by decide),fun t0 ht0=>⟨t0,_,rfl,.inr (SqT.of Zh),rfl,rfl,_,rfl,ZM (by decide +kernel) ?_⟩⟩
   have S2:=(S2.new ht0 (.tup [.str "back",.str "copy"])).tail
   generalize upd H2 t0 (.tup [.str "back",.str "copy"])=H2' at *
   refine ⟨_,rfl,?_⟩
   refine ⟨_,rfl,_,rfl,_,rfl,sl,_,rfl,.inl (SqL.of (RO.rd _ S2.tail.tail).2.1),p,_,_,_,rfl,S2,by omega,by rw [List.length_map];omega,by rw [List.length_map];omega,fun r5 H5 d0 d1 S5=>?_⟩
   rw [List.length_map] at d1
   obtain ⟨y,hym,hye⟩:=XG (f:=V.str) (xs:=SS) d0 d1
   refine ⟨sl,_,_,_,rfl,rfl,SqL.of (RO.rd _ S5.tail.tail).2.1,hye,(show 2≤sizeLine by decide),fun t ht=>?_⟩
   refine q t _ (.slot "back" y) r (by show 1+r=r+1;omega) ⟨.inl rfl,RO.sk y hym⟩ (Nat.zero_le _) ?_
   exact ((((S5.new ht _).say t (XY K (.slot "back" y)) fun h e=>DatT.tup (SqT.of e) (.cons (.str _) (.cons (.str _) .nil))).pull p).le (by omega)).pull t
 · -- begin
   refine ⟨_,rfl,rfl,_,rfl,ZI (by decide +kernel) ?_⟩
   refine ⟨_,rfl,rfl,_,rfl,ZI (by decide +kernel) ?_⟩
   refine ⟨_,rfl,(by decide),fun t0 ht0=>⟨t0,_,rfl,.inr (SqT.of Zh),rfl,rfl,_,rfl,ZI (by decide +kernel) ?_⟩⟩
   have S2:=(S2.new ht0 (.tup [.str "back",.str "copy"])).tail
   generalize upd H2 t0 (.tup [.str "back",.str "copy"])=H2' at *
   refine ⟨_,rfl,rfl,_,rfl,ZI (by decide +kernel) ?_⟩
   have hd1:1≤deep:=hblk (by decide +kernel)
   refine ⟨fun σ3 H3=>∃ th:Addr,σ3=[some (.ref p),some (.ref nl),some (.ref sl),some (.ref wl),some (.ref rm),some (.int (deep:Int)),some (.str "begin"),none,some (.ref th),none]∧Sep ((th,Tup [.str "begin"])::(p,Bx (N+2))::(rm,YW [.int (r:Int)])::Δ) H3,?_,?_⟩
   · refine ⟨_,rfl,rfl,_,rfl,ZI (by decide +kernel) ⟨_,rfl,(show 1≤sizeLine by decide),fun th hth=>⟨th,rfl,(((S2.new hth _).pull p).le (by omega)).pull th⟩⟩⟩
   rintro σ3 H3 ⟨th,rfl,S3⟩
   refine ⟨_,rfl,_,rfl,_,rfl,_,rfl,_,rfl,_,rfl,_,_,rfl,rfl,_,rfl,p,_,7,_,rfl,S3.pull p,by omega,by decide,by decide,fun r4 H4 f0 f1 S4=>?_⟩
   refine ⟨p,nl,sl,wl,rm,N+3,r,deep - 1,r4.toNat,NS,SS,WS,(th,Tup [.str "begin"])::Δ,by rw [show ((deep - 1:Nat):Int)=(deep:Int) - 1 by omega,show ((r4.toNat:Nat):Int)=r4 by omega];rfl,((S4.pull rm).pull p),⟨fun H z=>RO.rd H z.tail,RO.n0,RO.s0,RO.w0,RO.nl,RO.sl,RO.wl,RO.nk,RO.sk,RO.wk⟩,by omega,by omega,by omega,by omega,fun ti H5 ps r' hps hok hh S5=>?_⟩
   refine ⟨_,rfl,_,rfl,(show 1≤sizeLine by decide),fun tq htq=>?_⟩
   have S6:=S5.new htq (.tup [.ref ti])
   refine ⟨th,tq,_,_,rfl,rfl,SqT.of (S6.get th),SqT.of (S6.get tq),(fun z=>nomatch z),(show 2≤sizeLine by decide),(fun z=>nomatch z),fun _ t ht=>?_⟩
   have S7:=S6.new ht (.tup ([V.str "begin"]++[.ref ti]))
   have dti:DatT K _ (.ref ti) (.tuple (Pg.dats ps)):=S7.get ti
   have S8:=((S7.im (T:=XY K (.blk "begin" ps)) fun h e _ im=>DatT.tup (SqT.of e) (.cons (.str _) (.cons (dti.tf ⟨fun x xs q=>im _ _ q rfl,fun x o u q=>im _ _ q rfl⟩) .nil))).drop tq).drop ti
   refine q t _ (.blk "begin" ps) r' (by show 1+Pg.manys ps+r'=r+1;omega) ⟨.inl rfl,hok⟩ (by show Pg.hgts ps+1≤deep;omega) ?_
   exact (((S8.drop th).pull p).le (by omega)).pull t
 · -- late
   refine ⟨_,rfl,rfl,_,rfl,ZI (by decide +kernel) ?_⟩
   refine ⟨_,rfl,rfl,_,rfl,ZI (by decide +kernel) ?_⟩
   refine ⟨_,rfl,(by decide),fun t0 ht0=>⟨t0,_,rfl,.inr (SqT.of Zh),rfl,rfl,_,rfl,ZI (by decide +kernel) ?_⟩⟩
   have S2:=(S2.new ht0 (.tup [.str "back",.str "copy"])).tail
   generalize upd H2 t0 (.tup [.str "back",.str "copy"])=H2' at *
   refine ⟨_,rfl,rfl,_,rfl,ZI (by decide +kernel) ?_⟩
   have hd1:1≤deep:=hblk (by decide +kernel)
   refine ⟨fun σ3 H3=>∃ th:Addr,σ3=[some (.ref p),some (.ref nl),some (.ref sl),some (.ref wl),some (.ref rm),some (.int (deep:Int)),some (.str "late"),none,some (.ref th),none]∧Sep ((th,Tup [.str "late"])::(p,Bx (N+2))::(rm,YW [.int (r:Int)])::Δ) H3,?_,?_⟩
   · refine ⟨_,rfl,rfl,_,rfl,ZI (by decide +kernel) ⟨_,rfl,(show 1≤sizeLine by decide),fun th hth=>⟨th,rfl,(((S2.new hth _).pull p).le (by omega)).pull th⟩⟩⟩
   rintro σ3 H3 ⟨th,rfl,S3⟩
   refine ⟨_,rfl,_,rfl,_,rfl,_,rfl,_,rfl,_,rfl,_,_,rfl,rfl,_,rfl,p,_,7,_,rfl,S3.pull p,by omega,by decide,by decide,fun r4 H4 f0 f1 S4=>?_⟩
   refine ⟨p,nl,sl,wl,rm,N+3,r,deep - 1,r4.toNat,NS,SS,WS,(th,Tup [.str "late"])::Δ,by rw [show ((deep - 1:Nat):Int)=(deep:Int) - 1 by omega,show ((r4.toNat:Nat):Int)=r4 by omega];rfl,((S4.pull rm).pull p),⟨fun H z=>RO.rd H z.tail,RO.n0,RO.s0,RO.w0,RO.nl,RO.sl,RO.wl,RO.nk,RO.sk,RO.wk⟩,by omega,by omega,by omega,by omega,fun ti H5 ps r' hps hok hh S5=>?_⟩
   refine ⟨_,rfl,_,rfl,(show 1≤sizeLine by decide),fun tq htq=>?_⟩
   have S6:=S5.new htq (.tup [.ref ti])
   refine ⟨th,tq,_,_,rfl,rfl,SqT.of (S6.get th),SqT.of (S6.get tq),(fun z=>nomatch z),(show 2≤sizeLine by decide),(fun z=>nomatch z),fun _ t ht=>?_⟩
   have S7:=S6.new ht (.tup ([V.str "late"]++[.ref ti]))
   have dti:DatT K _ (.ref ti) (.tuple (Pg.dats ps)):=S7.get ti
   have S8:=((S7.im (T:=XY K (.blk "late" ps)) fun h e _ im=>DatT.tup (SqT.of e) (.cons (.str _) (.cons (dti.tf ⟨fun x xs q=>im _ _ q rfl,fun x o u q=>im _ _ q rfl⟩) .nil))).drop tq).drop ti
   refine q t _ (.blk "late" ps) r' (by show 1+Pg.manys ps+r'=r+1;omega) ⟨.inr rfl,hok⟩ (by show Pg.hgts ps+1≤deep;omega) ?_
   exact (((S8.drop th).pull p).le (by omega)).pull t
 · -- copy
   refine ⟨_,rfl,rfl,_,rfl,ZI (by decide +kernel) ?_⟩
   refine ⟨_,rfl,rfl,_,rfl,ZI (by decide +kernel) ?_⟩
   refine ⟨_,rfl,(by decide),fun t0 ht0=>⟨t0,_,rfl,.inr (SqT.of Zh),rfl,rfl,_,rfl,ZM (by decide +kernel) ?_⟩⟩
   have S2:=(S2.new ht0 (.tup [.str "back",.str "copy"])).tail
   generalize upd H2 t0 (.tup [.str "back",.str "copy"])=H2' at *
   refine ⟨_,rfl,?_⟩
   refine ⟨_,rfl,_,rfl,_,rfl,sl,_,rfl,.inl (SqL.of (RO.rd _ S2.tail.tail).2.1),p,_,_,_,rfl,S2,by omega,by rw [List.length_map];omega,by rw [List.length_map];omega,fun r5 H5 d0 d1 S5=>?_⟩
   rw [List.length_map] at d1
   obtain ⟨y,hym,hye⟩:=XG (f:=V.str) (xs:=SS) d0 d1
   refine ⟨sl,_,_,_,rfl,rfl,SqL.of (RO.rd _ S5.tail.tail).2.1,hye,(show 2≤sizeLine by decide),fun t ht=>?_⟩
   refine q t _ (.slot "copy" y) r (by show 1+r=r+1;omega) ⟨.inr rfl,RO.sk y hym⟩ (Nat.zero_le _) ?_
   exact ((((S5.new ht _).say t (XY K (.slot "copy" y)) fun h e=>DatT.tup (SqT.of e) (.cons (.str _) (.cons (.str _) .nil))).pull p).le (by omega)).pull t
 · -- in
   refine ⟨_,rfl,rfl,_,rfl,ZI (by decide +kernel) ?_⟩
   refine ⟨_,rfl,rfl,_,rfl,ZI (by decide +kernel) ?_⟩
   refine ⟨_,rfl,(by decide),fun t0 ht0=>⟨t0,_,rfl,.inr (SqT.of Zh),rfl,rfl,_,rfl,ZI (by decide +kernel) ?_⟩⟩
   have S2:=(S2.new ht0 (.tup [.str "back",.str "copy"])).tail
   generalize upd H2 t0 (.tup [.str "back",.str "copy"])=H2' at *
   refine ⟨_,rfl,rfl,_,rfl,ZI (by decide +kernel) ?_⟩
   have hd1:1≤deep:=hblk (by decide +kernel)
   refine ⟨fun σ3 H3=>∃ (th:Addr) (y:Str),YD y∧σ3=[some (.ref p),some (.ref nl),some (.ref sl),some (.ref wl),some (.ref rm),some (.int (deep:Int)),some (.str "in"),none,some (.ref th),none]∧Sep ((th,Tup [.str "in",.str y])::(p,Bx (N+2))::(rm,YW [.int (r:Int)])::Δ) H3,?_,?_⟩
   · refine ⟨_,rfl,rfl,_,rfl,ZM (by decide +kernel) ?_⟩
     refine ⟨_,rfl,_,rfl,_,rfl,_,rfl,sl,_,rfl,.inl (SqL.of (RO.rd _ S2.tail.tail).2.1),p,_,_,_,rfl,S2,by omega,by rw [List.length_map];omega,by rw [List.length_map];omega,fun r5 H5 d0 d1 S5=>?_⟩
     rw [List.length_map] at d1
     obtain ⟨y,hym,hye⟩:=XG (f:=V.str) (xs:=SS) d0 d1
     refine ⟨sl,_,_,_,rfl,rfl,SqL.of (RO.rd _ S5.tail.tail).2.1,hye,(show 2≤sizeLine by decide),fun th hth=>⟨th,y,RO.sk y hym,rfl,(S5.new hth _)⟩⟩
   rintro σ3 H3 ⟨th,y,hy,rfl,S3⟩
   refine ⟨_,rfl,_,rfl,_,rfl,_,rfl,_,rfl,_,rfl,_,_,rfl,rfl,_,rfl,p,_,7,_,rfl,S3.pull p,by omega,by decide,by decide,fun r4 H4 f0 f1 S4=>?_⟩
   refine ⟨p,nl,sl,wl,rm,N+3,r,deep - 1,r4.toNat,NS,SS,WS,(th,Tup [.str "in",.str y])::Δ,by rw [show ((deep - 1:Nat):Int)=(deep:Int) - 1 by omega,show ((r4.toNat:Nat):Int)=r4 by omega];rfl,((S4.pull rm).pull p),⟨fun H z=>RO.rd H z.tail,RO.n0,RO.s0,RO.w0,RO.nl,RO.sl,RO.wl,RO.nk,RO.sk,RO.wk⟩,by omega,by omega,by omega,by omega,fun ti H5 ps r' hps hok hh S5=>?_⟩
   refine ⟨_,rfl,_,rfl,(show 1≤sizeLine by decide),fun tq htq=>?_⟩
   have S6:=S5.new htq (.tup [.ref ti])
   refine ⟨th,tq,_,_,rfl,rfl,SqT.of (S6.get th),SqT.of (S6.get tq),(fun z=>nomatch z),(show 3≤sizeLine by decide),(fun z=>nomatch z),fun _ t ht=>?_⟩
   have S7:=S6.new ht (.tup ([V.str "in",V.str y]++[.ref ti]))
   have dti:DatT K _ (.ref ti) (.tuple (Pg.dats ps)):=S7.get ti
   have S8:=((S7.im (T:=XY K (.inn y ps)) fun h e _ im=>DatT.tup (SqT.of e) (.cons (.str _) (.cons (.str _) (.cons (dti.tf ⟨fun x xs q=>im _ _ q rfl,fun x o u q=>im _ _ q rfl⟩) .nil)))).drop tq).drop ti
   refine q t _ (.inn y ps) r' (by show 1+Pg.manys ps+r'=r+1;omega) ⟨hy,hok⟩ (by show Pg.hgts ps+1≤deep;omega) ?_
   exact (((S8.drop th).pull p).le (by omega)).pull t
 · -- pass
   refine ⟨_,rfl,rfl,_,rfl,ZI (by decide +kernel) ?_⟩
   refine ⟨_,rfl,rfl,_,rfl,ZI (by decide +kernel) ?_⟩
   refine ⟨_,rfl,(by decide),fun t0 ht0=>⟨t0,_,rfl,.inr (SqT.of Zh),rfl,rfl,_,rfl,ZI (by decide +kernel) ?_⟩⟩
   have S2:=(S2.new ht0 (.tup [.str "back",.str "copy"])).tail
   generalize upd H2 t0 (.tup [.str "back",.str "copy"])=H2' at *
   refine ⟨_,rfl,rfl,_,rfl,ZM (by decide +kernel) ?_⟩
   refine ⟨(show 1≤sizeLine by decide),fun t ht=>?_⟩
   refine q t _ .pass r (by show 1+r=r+1;omega) trivial (Nat.zero_le _) ?_
   exact ((((S2.new ht _).say t (XY K .pass) fun h e=>DatT.tup (SqT.of e) (.cons (.str _) .nil)).pull p).le (by omega)).pull t
theorem Zam {f:Addr}{fd:FuncData}{n k:Nat}(F:Fun K "_law_program" "_law_program" s_l_program f fd)(T:Yj mg)(DSt:Def P w K mg base k "_law_step" Zbq (fun vs H Q E=>∃ m,m < n∧Vi K m vs H Q E)):FnOk P w K mg base Yb (k+1) f fd WY (Ur K n):=by
 refine F.ok scPr (fun vs H Q E h=>?_) (fun cdv A outer s H vs Q E hr h=>?_)
 · obtain ⟨p,nl,sl,wl,rm,N,r,deep,many,NS,SS,WS,Δ,rfl,_⟩:=h;rfl
 obtain ⟨p,nl,sl,wl,rm,N,r,deep,many,NS,SS,WS,Δ,rfl,S,RO,hdn,hm,hr1k,hN,q⟩:=h
 have hr1:=hr
 refine' ⟨?t,?h,?r⟩
 case h =>
   conv=>arg 2;whnf
   with_reducible refine' (Ze ?h1 (Ze (Wb ?h2 ?h3 ?h4 ?h5 (Zi (ZF ?h6 (Ze ?h7 (Zi ?h8)) Zq)) ?h9) (Zi ?h10)))
   case h1=>exact Zy (i:=7) scPr.nd rfl (Or.inl rfl) (YI Za)
   case h2=>exact PassesOwn.never
   case h3=>exact rfl
   case h4=>exact YH rfl T.range (Zc (pv 6) Za)
   case h5=>exact Yn (i:=8) scPr.nd rfl (Or.inl rfl)
   case h6=>exact Zp Zdj (Zz ZH (pv 4) Zb (fun _ _=>rfl)) Zb (Zt _)
   case h7=>exact WG (Zk XD (Zz ZH (pv 4) Zb (fun _ _=>rfl)) Zb) (VF (pv 4) Zb WR)
   case h8=>exact Zal (Vf PySem.F.plainAttrs_list PySem.F.slot_list_append PySem.F.type_list_append XQ (pv 7) (Zc (Zr DSt hr (Yk (pv 0) (Yk (pv 1) (Yk (pv 2) (Yk (pv 3) (Yk (pv 4) (Yk (pv 5) Za rfl) rfl) rfl) rfl) rfl) rfl)) Za))
   case h9=>exact fun _=>rfl
   case h10=>exact Zm (XM Vd rfl T.tuple (by decide +kernel) (Zc (pv 7) Za))
 refine ⟨(show 0≤sizeLine by decide),fun l hl=>?_⟩
 have S0:=(S.new hl (.lst [])).say l (StL K []) fun h e=>⟨[],e,.nil⟩
 refine ⟨_,rfl,(many:Int),rfl,by omega,by omega,?_⟩
 refine Xp (fun i σ H'=>∃ x8 ps r',σ=[some (.ref p),some (.ref nl),some (.ref sl),some (.ref wl),some (.ref rm),some (.int (deep:Int)),some (.int (many:Int)),some (.ref l),x8]∧Pg.manys ps+r'=r∧Pg.oks ps∧Pg.hgts ps≤deep∧ps.length≤i∧Sep ((l,StL K ps)::(p,Bx (N+60 * (r - r')))::(rm,YW [.int ((r':Nat):Int)])::Δ) H')
   ⟨_,[],r,rfl,(show 0+r=r by omega),trivial,Nat.zero_le _,Nat.zero_le _,(S0.pull p).le (by omega) |>.pull l⟩ ?_ ?_
 · rintro i σ H' hi ⟨x8,ps,r',rfl,hps,hok,hh,hlen,S'⟩
   have erm:=S'.get rm
   refine ⟨_,rfl,rm,_,_,_,rfl,rfl,SqL.of erm,ZX (j:=0) rfl,_,_,rfl,rfl,_,rfl,Wk (fun c=>?_) (fun c=>?_)⟩
   · have hc:(0:Int) < ((r':Nat):Int):=of_decide_eq_true c
     refine ⟨_,rfl,rm,_,_,_,rfl,rfl,SqL.of erm,ZX (j:=0) rfl,_,_,rfl,rfl,_,rfl,rm,_,_,0,rfl,rfl,erm,rfl,?_⟩
     have S1:=S'.put rm (.lst [.int (((r' - 1:Nat)):Int)])
     rw [show (.lst ([V.int ((r':Nat):Int)].set 0 (V.int (((r':Nat):Int) - 1))):HO)=.lst [.int (((r' - 1:Nat)):Int)] by rw [show (((r' - 1:Nat)):Int)=((r':Nat):Int) - 1 by omega];rfl]
     generalize upd H' rm (.lst [.int (((r' - 1:Nat)):Int)])=H1 at S1
     obtain ⟨vs1,el1,dl1⟩:=S1.get l
     refine ⟨_,rfl,.inl ⟨rfl,_,SqL.of el1⟩,_,rfl,_,rfl,_,rfl,_,rfl,_,rfl,_,rfl,deep,hdn,p,nl,sl,wl,rm,_,r' - 1,deep,NS,SS,WS,(l,StL K ps)::Δ,rfl,((S1.pull l).pull rm).pull p,⟨fun H z=>RO.rd H z.tail,RO.n0,RO.s0,RO.w0,RO.nl,RO.sl,RO.wl,RO.nk,RO.sk,RO.wk⟩,Nat.le_refl _,by omega,by omega,fun t H2 p' r2 hp' hok' hh' S2=>?_⟩
     obtain ⟨vs2,el2,dl2⟩:=S2.get l
     have dt:DatT K H2 (.ref t) p'.dat:=S2.get t
     refine ⟨l,vs2,_,rfl,rfl,el2,Zcg (show vs2.length≤1000 by rw [dl2.pgs];have:=Pg.len_manys ps;omega),?_⟩
     have S3:=(Zfo S2 l (qs:=ps++[p']) (vs2++[.ref t]) (by rw [Pg.dats_app];exact dl2.append (.cons dt .nil))).drop t
     refine ⟨_,ps++[p'],r2,rfl,?_,Pg.oks_app hok ⟨hok',trivial⟩,Pg.hgts_app hh (by show max p'.hgt 0≤deep;omega),by rw [List.length_append];exact Nat.succ_le_succ hlen,((S3.pull p).le ?_).pull l⟩
     · rw [Pg.manys_app]
       show Pg.manys ps+(p'.many+0)+r2=r
       omega
     · omega
   · exact ⟨_,ps,r',rfl,hps,hok,hh,by omega,S'⟩
 · rintro σ H' ⟨x8,ps,r',rfl,hps,hok,hh,hlen,S'⟩
   obtain ⟨vs1,el1,dl1⟩:=S'.get l
   refine ⟨_,rfl,l,vs1,rfl,.inl ⟨SqL.of el1,fun t ht=>?_⟩⟩
   have S1:=S'.new ht (.tup vs1)
   have dl2:=DatTs.same (Zf ht (.tup vs1)) dl1
   refine q t _ ps r' hps hok hh ?_
   exact (S1.im (T:=Vy K ps) fun h e _ im=>DatT.tup (SqT.of e) (DatTs.tf ⟨fun x xs q=>im _ _ q rfl,fun x o u q=>im _ _ q rfl⟩ dl2)).drop l
theorem Zcu {n m:Nat}(h:n≤m){vs:List V}{H:Hp}{Q:VK}{E:XK}(z:Vi K n vs H Q E):Vi K m vs H Q E:=by
 obtain ⟨p,nl,sl,wl,rm,N,r,deep,NS,SS,WS,Δ,e,S,RO,hdn,z⟩:=z
 exact ⟨p,nl,sl,wl,rm,N,r,deep,NS,SS,WS,Δ,e,S,RO,by omega,z⟩
theorem Vk {f f':Addr}{fd fd':FuncData}(F:Fun K "_law_step" "_law_step" s_l_step f fd)(F':Fun K "_law_program" "_law_program" s_l_program f' fd')(T:Yj mg)(b:Binds K fd Zbq [])(kp:PySem.W.keepIn K (.ref f)=true)(m:mg "_law_step"=some (.ref f))(b':Binds K fd' WY [])(kp':PySem.W.keepIn K (.ref f')=true)(m':mg "_law_program"=some (.ref f'))
   (DT:UX P w K mg base 2) (DV:Def P w K mg base 2 "_law_value" ["_law_box_here"] Wn):∀ n,FnOk P w K mg base Yb (3+2 * n) f' fd' WY (Ur K n)
 | 0=>Zam F' T ⟨_,_,⟨fun vs H Q E ⟨_,h,_⟩=>absurd h (Nat.not_lt_zero _),fun _ _ _ _ _ _ _ _ _ _ _ _ _ ⟨_,h,_⟩=>absurd h (Nat.not_lt_zero _)⟩,b,kp,m⟩
 | n+1=>(Zam (n:=n+1) (k:=4+2 * n) F' T ⟨_,_,(ZdG (n:=n) (k:=3+2 * n) F T (DT.mono (by omega)) (DV.mono (by omega)) ⟨_,_,Vk F F' T b kp m b' kp' m' DT DV n,b',kp',m'⟩ |>.mono (by omega)).imp fun vs H Q E ⟨j,h,z⟩=>Zcu (by omega) z,b,kp,m⟩).mono (by omega)
end
end K54
set_option maxHeartbeats 4000000
set_option maxHeartbeats 400000
namespace K54
open PySem L2
theorem ZcN {M:Int}{vs:List V}{H:Hp}{Q:VK}{E:XK}(h:Wx M vs H Q E):Uv M vs H Q E:=by
 obtain ⟨p,n,m,e,B,h1,h2,h3,q⟩:=h
 obtain ⟨a,b,c,eb,hb⟩:=id B
 let h0:Hp:=fun x=>if x=p then H p else none
 let R:Yu:=fun _ h=>h=Wr H h0
 have ep:h0 p=H p:=if_pos rfl
 have en:∀ x,x≠p→h0 x=none:=fun x hx=>if_neg hx
 have kc:∀ x o,x≠p→H x=some o→Wr H h0 x=some o:=fun x o hx ho=>cut_some.mpr ⟨ho,fun u hu=>by rw [en x hx] at hu;cases hu⟩
 refine ⟨p,n,m,[(p,R)],e,⟨h0,?_,⟨a,b,c,by rw [ep];exact eb,hb⟩,Wr H h0,Same.refl _,rfl,trivial⟩,h1,h2,h3,fun r H' r0 r1 S=>q r H' r0 r1 (S.get p) ?_⟩
 · intro x o hx
   by_cases z:x=p
   · rw [z,ep] at hx;rw [z];exact hx
   · rw [en x z] at hx;cases hx
 · intro x o hx ho
   obtain ⟨h5,s5,_,h6,s6,r6,_⟩:=S
   have:h6=Wr H h0:=r6
   subst this
   exact (cut_some.mp (s6 _ _ (kc x o hx ho))).1
def Vt (K:PySem.W.Frag)(v:V)(d:PyData):Yu:=fun _ h=>DatT K h v d
instance {K:PySem.W.Frag} {v:V} {d:PyData}:Up (Vt K v d):=⟨fun h s=>DatT.same s h⟩
theorem Uu {K:PySem.W.Frag}{Δ:Rs}{H:Hp}{v:V}{d:PyData}(z:Addr)(S:Sep Δ H)(h:DatT K H v d):Sep ((z,Vt K v d)::Δ) H:=by
 let h0:Hp:=fun x=>match H x with
   | some o=>if Yg o=true then none else some o
   | none=>none
 have s0:Same h0 H:=fun b o e=>by
   show H b=some o
   have e:(match H b with | some o=>if Yg o=true then none else some o | none=>none)=some o:=e
   split at e
   · split at e
     · cases e
     · rename_i eb _;rw [eb];exact e
   · cases e
 have k0:∀ b o,H b=some o→Yg o=false→h0 b=some o:=fun b o e m=>by
   show (match H b with | some o=>if Yg o=true then none else some o | none=>none)=some o
   rw [e];show (if Yg o=true then none else some o)=some o;rw [m];rfl
 have ec : Wr H h0=H:=funext fun b=>by
   cases eb:H b with
   | none=>cases ec:Wr H h0 b with
     | none=>rfl
     | some o=>have:=(cut_some.mp ec).1;rw [eb] at this;cases this
   | some o=>exact cut_some.mpr ⟨eb,fun u hu=>by
       have hu':(match H b with | some o=>if Yg o=true then none else some o | none=>none)=some u:=hu
       rw [eb] at hu'
       have hu2:(if Yg o=true then none else some o)=some u:=hu'
       split at hu2
       · cases hu2
       · rename_i hm;cases hu2;cases h9:Yg o with
         | true=>exact absurd h9 hm
         | false=>rfl⟩
 refine ⟨h0,s0,DatT.tf ⟨fun b xs e=>k0 b _ e rfl,fun b o u e=>k0 b _ e rfl⟩ h,by rw [ec];exact S⟩
mutual
def nbx:PyData→Bool
 | .list ds=>decide (ds.length≠3)&&Vu ds
 | .tuple ds=>Vu ds
 | .dict _=>false
 | _=>true
def Vu:List PyData→Bool
 | []=>true
 | d::ds=>nbx d&&Vu ds
end
theorem Zfd {p:Addr}{n:Nat}{H H':Hp}(k:Kp p H H')(B:BoxAt H p n):TF H H':=by
 obtain ⟨a,b,c,eb,_⟩:=B
 exact ⟨fun x xs e=>k x _ (fun z=>by rw [z,eb] at e;cases e) e,fun x o u e=>k x _ (fun z=>by rw [z,eb] at e;cases e) e⟩
mutual
theorem DatA.kp {K:PySem.W.Frag}{p:Addr}{n:Nat}{H H':Hp}(k:Kp p H H')(B:BoxAt H p n):∀{v d},DatA K H v d→nbx d=true→DatA K H' v d
 | _,_,.non,_=>.non
 | _,_,.bl b,_=>.bl b
 | _,_,.int i,_=>.int i
 | _,_,.str x,_=>.str x
 | _,_,.lst (a:=l) (xs:=xs) e h q,hn=>by
   rw [nbx,Bool.and_eq_true] at hn
   have h3:=of_decide_eq_true hn.1
   refine .lst (k _ _ (fun z=>?_) e) h (DatAs.kp k B q hn.2)
   obtain ⟨a,b,c,eb,_⟩:=B
   rw [z,eb] at e
   cases e
   exact h3 q.len.symm
 | _,_,.tup e h q,hn=>by rw [nbx] at hn;exact .tup (e.tf (Zfd k B)) h (DatAs.kp k B q hn)
theorem DatAs.kp {K:PySem.W.Frag}{p:Addr}{n:Nat}{H H':Hp}(k:Kp p H H')(B:BoxAt H p n):∀{vs ds},DatAs K H vs ds→Vu ds=true→DatAs K H' vs ds
 | _,_,.nil,_=>.nil
 | _,_,.cons r t,hn=>by rw [Vu,Bool.and_eq_true] at hn;exact .cons (DatA.kp k B r hn.1) (DatAs.kp k B t hn.2)
end
section
variable {P:Program}{w:World}{K:PySem.W.Frag}{mg:Str→Option Value}{base:Heap}
theorem Zdr {f f2:Addr}{fd fd2:FuncData}(F:Fun K "_law_is_program" "_law_is_program" s_l_is_program f fd)(F2:Fun K "_law_is_step" "_law_is_step" s_l_is_step f2 fd2)(T:Yj mg)(b:Binds K fd Ua [])(kp:PySem.W.keepIn K (.ref f)=true)(m:mg "_law_is_program"=some (.ref f))(b2:Binds K fd2 ZaH [])(kp2:PySem.W.keepIn K (.ref f2)=true)(m2:mg "_law_is_step"=some (.ref f2))
   (DLN:Def P w K mg base 1 "_law_is_name" ZaL (XN K Yq)) (DLV:Def P w K mg base 1 "_law_is_value" Zbm (XN K YJ)):∀ n,n≤25→FnOk P w K mg base Yb (3+2 * n) f fd Ua (Xk K n)
 | 0,_=>⟨fun vs H Q E ⟨_,_,_,_,_,h,_⟩=>absurd h (Nat.not_lt_zero _),fun _ _ _ _ _ _ _ _ _ _ _ _ _ ⟨_,_,_,_,_,h,_⟩=>absurd h (Nat.not_lt_zero _)⟩
 | n+1,hn=>(Zes (k:=4+2 * n) F T ⟨_,_,ZeN (k:=3+2 * n) (by omega) F2 T (DLN.mono (by omega)) (DLV.mono (by omega)) ⟨_,_,Zdr F F2 T b kp m b2 kp2 m2 DLN DLV n (by omega),b,kp,m⟩ |>.mono (by omega),b2,kp2,m2⟩).mono (by omega)
def Zaq (K:PySem.W.Frag):Sp:=fun vs H Q _=>∃(v:V)(d:PyData),vs=[v]∧DatA K H v d∧Zs d=true∧d.depth < 24∧∀ H',Same H H'→Q (.bl true) H'
abbrev nRi:List Str:=["_law_thing","_law_due"]
abbrev ZcD:List Str:=["_law_thing"]
theorem scRi:ZD nRi ZcD (Zo s_l_right):=⟨rfl,rfl,rfl,by decide +kernel,rfl,by decide +kernel,by decide +kernel⟩
theorem ZcC {f:Addr}{fd:FuncData}{k:Nat}(F:Fun K "_law_right" "_law_right" s_l_right f fd)(T:Yj mg)(DLP:Def P w K mg base k "_law_is_program" Ua (Xk K 12))(DIP:Def P w K mg base k "is_program" WZ (Xk K 12)):FnOk P w K mg base Yb (k+1) f fd ZcD (Zaq K):=by
 refine F.ok scRi (fun vs H Q E h=>?_) (fun cdv A outer s H vs Q E hr h=>?_)
 · obtain ⟨v,d,rfl,_⟩:=h;rfl
 obtain ⟨v,d,rfl,hd,hs,hn,q⟩:=h
 refine' ⟨?t,?h,?r⟩
 case h =>
   conv=>arg 2;whnf
   with_reducible refine' (Ze ?h1 (Zi ?h2))
   case h1=>exact Zy (i:=1) scRi.nd rfl (Or.inr rfl) (Zr DLP hr (Zc (pv 0) Za))
   case h2=>exact Zm (Zj (Yx rfl) rfl T.all (by decide +kernel) (Zc (YF (CompOk.of nRi s_l_right rfl rfl (by decide +kernel)) rfl (Uc (Zx (Zc (Zr DIP hr (Zc (pv 0) Za)) (Zc (Zr DIP hr (Zc (pv 0) Za)) Za))))  (fun _ _ _ _ _=>YS (Zj (ZK (K:=K) rfl) rfl T.isinstance (by decide +kernel) (Zc (pv 2) (Zc (ZW rfl T.bool (by decide +kernel) (v:=.ty "bool") rfl) Za))) (YZ (Xy ZV (pv 2) (pv 1) (Zt _))))) Za))
 refine ⟨_,rfl,v,d,rfl,hd,hs,hn,fun H1 s1=>?_⟩
 refine ⟨_,rfl,v,d,rfl,hd.same s1,hs,hn,fun H2 s2=>?_⟩
 refine ⟨_,rfl,v,d,rfl,hd.same (s1.trans s2),hs,hn,fun H3 s3=>?_⟩
 refine ⟨(show 2≤sizeLine by decide),fun tp htp=>⟨tp,rfl,⟨_,SqT.of Zh⟩,fun D hD=>?_⟩⟩
 have s4:Same H (upd H3 tp (.tup [V.bl (Yi 12 d),V.bl (Yi 12 d)])):=(s1.trans (s2.trans s3)).trans (Zf htp _)
 have e4:(upd H3 tp (.tup [V.bl (Yi 12 d),V.bl (Yi 12 d)])) tp=some (.tup [V.bl (Yi 12 d),V.bl (Yi 12 d)]):=Zh
 generalize upd H3 tp (.tup [V.bl (Yi 12 d),V.bl (Yi 12 d)])=H4 at s4 e4 hD ⊢
 refine WX (K:=K) (xs:=[V.bl (Yi 12 d),V.bl (Yi 12 d)]) (show 2≤sizeLine by decide) (fun i ys H'=>Same H4 H'∧H' D=some (.lst ys)∧ys=(List.replicate i true).map V.bl) ⟨Zf hD _,Zh,rfl⟩ ?_ ?_ ?_
 · rintro i ys H' ⟨s5,_,rfl⟩;exact ⟨by rw [List.length_map,List.length_replicate],SqT.of (s5 _ _ e4)⟩
 · rintro i v5 ys H' hv ⟨s5,eD,rfl⟩
   have hv5:v5=V.bl (Yi 12 d):=by
     match i,hv with
     | 0,hv=>cases hv;rfl
     | 1,hv=>cases hv;rfl
   subst hv5
   obtain ⟨t,ty,_,i3,_,_⟩:=YN (K:=K) (H:=H') (.bl (Yi 12 d))
   refine ⟨_,rfl,_,_,t,_,rfl,ty,i3,_,rfl,ZM rfl ⟨_,rfl,_,rfl,?_⟩⟩
   refine ⟨rfl,eD,fun b o z=>?_,Zh,?_⟩
   · rw [ZA (ZL z hD)];exact s5 _ _ z
   · rw [show decide (V.bl (Yi 12 d)=V.bl (Yi 12 d))=true from decide_eq_true rfl,List.replicate_succ',List.map_append];rfl
 · rintro ys H6 ⟨s6,eD,rfl⟩
   refine ⟨D,_,rfl,SqL.of eD,?_⟩
   have:=q H6 (s4.trans s6)
   exact this
theorem Xn {H:Hp}{v:V}{ds:List PyData}(h:DatA K H v (.list ds)):∃ a xs,v=.ref a∧H a=some (.lst xs)∧DatAs K H xs ds:=by
 cases h with | lst e hl q=>exact ⟨_,_,rfl,e,q⟩
def oddD:List PyData:=[.none,.bool true,.bool false,.int 0,.int (-1),.int (10 ^ 40),.str "",.str "a",.str "abcdefgh",.str "abcdefghi",.str "A",.str "a b",.str "\n", .str (Txt.mul "~" 41), .str "set"] ++ [.str "begin", .str "pass", .tuple [], .list [], .tuple [.str "pass"], .tuple [.tuple [.str "pass"]], .list [.tuple [.str "pass"]], .tuple [.str "look", .str "a"], .tuple [.str "pass",.tuple []],.tuple [.none]]
theorem ZbJ:∀ d∈oddD,Zs d=true∧d.depth≤2:=by
 have:oddD.all (fun d=>Zs d&&decide (d.depth≤2))=true:=by decide +kernel
 intro d hd
 have:=List.all_eq_true.mp this d hd
 rw [Bool.and_eq_true] at this
 exact ⟨this.1,of_decide_eq_true this.2⟩
def ZaE (K:PySem.W.Frag):Sp:=fun vs H Q _=>∃(p:Addr)(n:Nat)(Δ:Rs),vs=[.ref p]∧Sep ((p,Bx n)::Δ) H∧n≤900000∧∀ v d H',DatA K H' v d→Zs d=true→d.depth≤2→Sep ((p,Bx (n+1))::Δ) H'→Q v H'
abbrev nOd:List Str:=["_law_box_here","_law_some"]
abbrev Zbg:List Str:=["_law_box_here"]
theorem scOd:ZD nOd Zbg (Zo s_l_odd):=⟨rfl,rfl,rfl,by decide +kernel,rfl,by decide +kernel,by decide +kernel⟩
theorem Zez {f:Addr}{fd:FuncData}{k:Nat}(F:Fun K "_law_odd" "_law_odd" s_l_odd f fd)(T:Yj mg)(DT:UX P w K mg base k):FnOk P w K mg base Yb (k+1) f fd Zbg (ZaE K):=by
 refine F.ok scOd (fun vs H Q E h=>?_) (fun cdv A outer s H vs Q E hr h=>?_)
 · obtain ⟨p,n,Δ,rfl,_⟩:=h;rfl
 obtain ⟨p,n,Δ,rfl,S,hn,q⟩:=h
 have hr1:=hr
 refine' ⟨?t,?h,?r⟩
 case h =>
   conv=>arg 2;whnf
   with_reducible refine' (Ze ?h1 (Ze ?h2 (Zi ?h3)))
   case h1=>(refine' Zy (i:=1) scOd.nd rfl (Or.inl rfl) (XF (K:=K) (d:=.list [.none,.bool true,.bool false,.int 0,.int (-1),.int (10 ^ 40),.str "",.str "a",.str "abcdefgh",.str "abcdefghi",.str "A",.str "a b",.str "\n", .str (Txt.mul "~" 41), .str "set"]) 8 ?z0);all_goals kernel_rfl)
   case h2=>(refine' Zy (i:=1) scOd.nd rfl (Or.inl rfl) (Zk Wj (pv 1) (XF (K:=K) (d:=.list [.str "begin",.str "pass",.tuple [],.list [],.tuple [.str "pass"],.tuple [.tuple [.str "pass"]],.list [.tuple [.str "pass"]],.tuple [.str "look",.str "a"],.tuple [.str "pass",.tuple []],.tuple [.none]]) 8 ?z1));all_goals kernel_rfl)
   case h3=>exact Zm (Zz ZH (pv 1) (Zr DT hr1 (Zc (pv 0) (Zc (Zj Zv rfl T.len PySem.boot_len (Zc (pv 1) Za)) Za))) (fun _ _=>rfl))
 intro v1 H1 s1 d1
 obtain ⟨l1,xs,rfl,e1,q1⟩:=Xn d1
 refine ⟨_,rfl,?_⟩
 intro v2 H2 s2 d2
 obtain ⟨l2,ys,rfl,e2,q2⟩:=Xn d2
 have hlx:xs.length=15:=q1.len
 have hly:ys.length=10:=q2.len
 refine ⟨l1,l2,xs,ys,rfl,rfl,s2 _ _ e1,e2,Yw (show xs.length+ys.length≤1000 by omega),fun l3 hl3=>?_⟩
 have q3:DatAs K (upd H2 l3 (.lst (xs++ys))) (xs++ys) oddD:=DatAs.same (Zf hl3 _) (DatAs.append (DatAs.same s2 q1) q2)
 have S2:=S.mono (s1.trans s2)
 have B2:BoxAt H2 p n:=S2.get p
 have S3:Sep ((p,Bx n)::Δ) (upd H2 l3 (.lst (xs++ys))):=S2.mono (Zf hl3 _)
 have hne:l3≠p:=fun z=>by obtain ⟨a,b,c,eb,_⟩:=B2;rw [← z,hl3] at eb;cases eb
 have e3:(upd H2 l3 (.lst (xs++ys))) l3=some (.lst (xs++ys)):=Zh
 generalize upd H2 l3 (.lst (xs++ys))=H3 at q3 S3 e3 ⊢
 have hl25:(xs++ys).length=25:=by rw [List.length_append];omega
 refine ⟨_,rfl,_,rfl,_,rfl,l3,_,rfl,.inl (SqL.of e3),?_⟩
 dsimp only [Uw,List.append_nil]
 refine ZcN ⟨p,n,_,rfl,S3.get p,by omega,by omega,by omega,fun r H4 a0 a1 B4 k4=>?_⟩
 obtain ⟨sv,hsm,hsv⟩:=WI (xs:=xs++ys) a0 a1
 obtain ⟨i,hi⟩:=List.mem_iff_getElem?.mp hsm
 obtain ⟨d,hd,dd⟩:=q3.at hi
 have hdm:d∈oddD:=List.mem_iff_getElem?.mpr ⟨i,hd⟩
 have hnb:∀ d∈oddD,nbx d=true:=by
   have:oddD.all nbx=true:=by decide +kernel
   exact fun d hd=>List.all_eq_true.mp this d hd
 exact ⟨l3,_,_,_,rfl,rfl,SqL.of (k4 _ _ hne e3),hsv,q sv d H4 (DatA.kp k4 (S3.get p) dd (hnb d hdm)) (ZbJ d hdm).1 (ZbJ d hdm).2 (S3.box k4 B4)⟩
end
end K54
set_option maxHeartbeats 4000000
set_option maxHeartbeats 400000
namespace K54
open PySem L2
mutual
def Xs:PyData→Nat
 | .tuple ds=>max ds.length (Ye ds)
 | .none=>0
 | .bool _=>0
 | .int _=>0
 | .str _=>0
 | .list _=>0
 | .dict _=>0
def Ye:List PyData→Nat
 | []=>0
 | d::ds=>max (Xs d) (Ye ds)
end
mutual
theorem DatT.toA {K:PySem.W.Frag}{H:Hp}:∀{v d},DatT K H v d→Xs d≤20000→DatA K H v d
 | _,_,.non,_=>.non
 | _,_,.int i,_=>.int i
 | _,_,.str x,_=>.str x
 | _,_,.tup (xs:=xs) (ds:=ds) e q,h=>by
   have h':max ds.length (Ye ds)≤20000:=by rw [Xs] at h;exact h
   exact .tup e (by rw [DatTs.len q];omega) (DatTs.toA q (by omega))
theorem DatTs.toA {K:PySem.W.Frag}{H:Hp}:∀{vs ds},DatTs K H vs ds→Ye ds≤20000→DatAs K H vs ds
 | _,_,.nil,_=>.nil
 | _,_,.cons (d:=d) (ds:=ds) a b,h=>by
   have h':max (Xs d) (Ye ds)≤20000:=by rw [Ye] at h;exact h
   exact .cons (DatT.toA a (by omega)) (DatTs.toA b (by omega))
end
theorem Uz:∀{ds:List PyData}{d:PyData},d∈ds→Xs d≤Ye ds
 | q::ds,d,h=>by
   rw [Ye]
   rcases List.mem_cons.mp h with rfl | h
   · omega
   · have:=Uz h;omega
theorem Zcm {k:Nat}:∀{ds:List PyData},(∀ d∈ds,Xs d≤k)→Ye ds≤k
 | [],_=>by rw [Ye];omega
 | q::ds,h=>by
   rw [Ye]
   have h1:=h q List.mem_cons_self
   have h2:=Zcm (ds:=ds) fun d hd=>h d (List.mem_cons_of_mem _ hd)
   omega
theorem Zak {ds:List PyData}{d:PyData}(h:d∈ds):d.depth≤PyData.depthAll ds:=by
 obtain ⟨i,hi⟩:=List.mem_iff_getElem?.mp h
 exact Xe hi
theorem Vv {k:Nat}:∀{ds:List PyData},(∀ d∈ds,d.depth≤k)→PyData.depthAll ds≤k
 | [],_=>by rw [PyData.depthAll];omega
 | q::ds,h=>by
   rw [PyData.depthAll]
   have h1:=h q List.mem_cons_self
   have h2:=Vv (ds:=ds) fun d hd=>h d (List.mem_cons_of_mem _ hd)
   omega
theorem ZbE {ds:List PyData}{d:PyData}(hs:ZN ds=true)(h:d∈ds):Zs d=true:=by
 obtain ⟨i,hi⟩:=List.mem_iff_getElem?.mp h
 exact YV hs hi
theorem VT:∀{ds:List PyData},(∀ d∈ds,Zs d=true)→ZN ds=true
 | [],_=>rfl
 | q::ds,h=>by rw [ZN,h q List.mem_cons_self,VT (ds:=ds) fun d hd=>h d (List.mem_cons_of_mem _ hd)];rfl
theorem DatTs.drop {K:PySem.W.Frag}{H:Hp}:∀(i:Nat){vs ds},DatTs K H vs ds→DatTs K H (vs.drop i) (ds.drop i)
 | 0,_,_,h=>h
 | _+1,_,_,.nil=>.nil
 | i+1,_,_,.cons _ b=>DatTs.drop i b
theorem DatTs.take {K:PySem.W.Frag}{H:Hp}:∀(i:Nat){vs ds},DatTs K H vs ds→DatTs K H (vs.take i) (ds.take i)
 | 0,_,_,_=>.nil
 | _+1,_,_,.nil=>.nil
 | i+1,_,_,.cons a b=>.cons a (DatTs.take i b)
theorem DatTs.atV {K:PySem.W.Frag}{H:Hp}:∀{vs ds}{i:Nat}{v:V},DatTs K H vs ds→vs[i]?=some v→∃ d,ds[i]?=some d∧DatT K H v d
 | _,_,_,_,.nil,h=>by simp at h
 | _,_,0,_,.cons a _,h=>by cases h;exact ⟨_,rfl,a⟩
 | _,_,i+1,_,.cons _ b,h=>DatTs.atV (i:=i) b h
def Xh (ds:List PyData)(lo hi:Option Int):List PyData:=(ds.drop (HT.sIx ds.length 0 lo)).take (HT.sIx ds.length ds.length hi - HT.sIx ds.length 0 lo)
theorem ZY {ds:List PyData}{lo hi:Option Int}{d:PyData}(h:d∈Xh ds lo hi):d∈ds:=List.mem_of_mem_drop (List.mem_of_mem_take h)
theorem Vj (ds:List PyData)(lo hi:Option Int):(Xh ds lo hi).length≤ds.length:=by
 unfold Xh;rw [List.length_take,List.length_drop];omega
section
variable {K:PySem.W.Frag}{H:Hp}{a b:Addr}{ds es:List PyData}
theorem Wq {lo hi:Option Int}{Q:VK}(h:DatT K H (.ref a) (.tuple ds))(q:∀ b H',Same H H'→DatT K H' (.ref b) (.tuple (Xh ds lo hi))→Q (.ref b) H'):rSlA K (.ref a) lo hi H Q:=by
 cases h with
 | @tup _ xs _ e hq =>
   have hl:=hq.len
   refine ⟨a,xs,rfl,e,?_⟩
   by_cases c:HT.sIx xs.length 0 lo=0∧HT.sIx xs.length xs.length hi=xs.length
   · refine .inl ⟨c.1,c.2,q a H (Same.refl H) (.tup e ?_)⟩
     have:Xh ds lo hi=ds:=by
       unfold Xh
       rw [← hl,c.1,c.2,List.drop_zero,Nat.sub_zero,hl,List.take_length]
     rw [this];exact hq
   · refine .inr ⟨c,fun p hp=>q p _ (Zf hp _) (.tup (SqT.of Zh) (DatTs.same (Zf hp _) ?_))⟩
     unfold XX Xh
     rw [← hl]
     exact DatTs.take _ (DatTs.drop _ hq)
theorem ZeW {p:Addr}{o:Obj}{Q:VK}(hp:H p=none)(ho:o.dict=none)(hb:DatA K H (.ref b) (.tuple es))(h1:Zs (.tuple es)=true)(h2:(PyData.tuple es).depth≤60)(q:Q (.bl es.isEmpty) (upd H p (.frz o (.tup [])))):Zcn K (.ref b) (.ref p) (upd H p (.frz o (.tup []))) Q:=by
 refine ⟨_,_,hb.same (Zf hp _),.tup (.inl (.inr ⟨_,Zh⟩)) (Nat.zero_le _) .nil,UD h1,rfl,h2,?_⟩
 have:PyData.eqv (.tuple es) (.tuple [])=es.isEmpty:=by cases es<;>simp [PyData.eqv,PyData.eqvAll]
 rw [this];exact q
theorem XB {Q:VK}(h1:DatA K H (.ref a) (.tuple ds))(h2:DatA K H (.ref b) (.tuple es))(hl:ds.length+es.length≤20000)(q:∀ c H',Same H H'→DatA K H' (.ref c) (.tuple (ds++es))→Q (.ref c) H'):Zdb K (.ref a) (.ref b) H Q:=by
 cases h1 with
 | @tup _ xs _ e1 l1 q1 =>
   cases h2 with
   | @tup _ ys _ e2 l2 q2 =>
     have k1:=q1.len
     have k2:=q2.len
     refine ⟨a,b,xs,ys,rfl,rfl,e1,e2,Yw (show xs.length+ys.length≤20000 by omega),?_⟩
     by_cases c1:xs=[]
     · have d1:ds=[]:=List.eq_nil_of_length_eq_zero (by rw [← k1,c1];rfl)
       refine .inl ⟨c1,q b H (Same.refl H) (.tup e2 l2 ?_)⟩
       rw [d1];exact q2
     · by_cases c2:ys=[]
       · have d2:es=[]:=List.eq_nil_of_length_eq_zero (by rw [← k2,c2];rfl)
         refine .inr (.inl ⟨c1,c2,q a H (Same.refl H) (.tup e1 l1 ?_)⟩)
         rw [d2,List.append_nil];exact q1
       · exact .inr (.inr ⟨c1,c2,fun p hp=>q p _ (Zf hp _) (.tup (SqT.of Zh) (by rw [List.length_append];omega) (DatAs.same (Zf hp _) (DatAs.append q1 q2)))⟩)
end
section
variable {P:Program}{w:World}{K:PySem.W.Frag}{mg:Str→Option Value}{base:Heap}
def Wz (K:PySem.W.Frag)(m:Nat):Sp:=fun vs H Q _=>∃(p:Addr)(n:Nat)(Δ:Rs)(v:V)(d:PyData),vs=[.ref p,v]∧Sep ((p,Bx n)::Δ) H∧DatT K H v d∧Zs d=true∧Xs d≤1000∧d.depth < m∧m≤30∧n+5 * m≤800000∧∀ v' d' H',DatA K H' v' d'→Zs d'=true→d'.depth≤d.depth+2→Sep ((p,Bx (n+5 * m))::Δ) H'→Q v' H'
abbrev nBe:List Str:=["_law_box_here","_law_thing","_law_at","_law_way","_law_left"]
abbrev WU:List Str:=["_law_box_here","_law_thing"]
theorem scBe:ZD nBe WU (Zo s_l_bent):=⟨rfl,rfl,rfl,by decide +kernel,rfl,by decide +kernel,by decide +kernel⟩
theorem ZcQ {f:Addr}{fd:FuncData}{m k:Nat}(F:Fun K "_law_bent" "_law_bent" s_l_bent f fd)(T:Yj mg)(DT:UX P w K mg base k)(DOd:Def P w K mg base k "_law_odd" Zbg (ZaE K))(DBe:Def P w K mg base k "_law_bent" WU (Wz K m)):FnOk P w K mg base Yb (k+1) f fd WU (Wz K (m+1)):=by
 refine F.ok scBe (fun vs H Q E h=>?_) (fun cdv A outer s H vs Q E hr h=>?_)
 · obtain ⟨p,n,Δ,v,d,rfl,_⟩:=h;rfl
 obtain ⟨p,n,Δ,v,d,rfl,S,hd,hs,hw,hm,h30,hn,q⟩:=h
 have hr1:=hr
 refine' ⟨?t,?h,?r⟩
 case h =>
   conv=>arg 2;whnf
   with_reducible refine' (Ze (ZF ?h1 (Zi ?h2) Zq) (Ze ?h3 (Ze (ZF ?h4 (Zi ?h5) Zq) (Ze (ZF ?h6 (Zi ?h7) Zq) (Ze (ZF ?h8 (Zi ?h9) Zq) (Ze (ZF ?h10 (Zi ?h11) Zq) (Ze (ZF ?h12 (Ze ?h13 (Zi ?h14)) Zq) (Zi ?h15))))))))
   case h1=>exact PW.pt (XO (YE (YC (Zj (ZK (K:=K) rfl) rfl T.isinstance (by decide +kernel) (Zc (pv 1) (Zc (ZW rfl T.tuple (by decide +kernel) (v:=.ty "tuple") rfl) Za))))) (XO (Zp (Vx (K:=K) rfl hr.units) (pv 1) UI (Zt _)) (WF (Zp ZV (Zr DT hr1 (Zc (pv 0) (Zc Zb Za))) Zb (Zt _)))))
   case h2=>exact Zm (Zr DOd hr (Zc (pv 0) Za))
   case h3=>exact ZbI (i:=2) (j:=3) rfl scBe.nd rfl rfl (by decide) rfl rfl (Zc (Zr DT hr1 (Zc (pv 0) (Zc (Zj Zv rfl T.len PySem.boot_len (Zc (pv 1) Za)) Za))) (Zc (Zr DT hr1 (Zc (pv 0) (Zc Zb Za))) Za)) rfl
   case h4=>exact Zp ZV (pv 3) Zb (Zt _)
   case h5=>exact Zm (Zk (Yt (K:=K) rfl) (ZO (Ym (K:=K) rfl) (pv 1) ZZ (ZP (pv 2))) (ZO (Ym (K:=K) rfl) (pv 1) (ZP (Zk ZU (pv 2) Zb)) ZZ))
   case h6=>exact Zp ZV (pv 3) Zb (Zt _)
   case h7=>exact Zm (Zk (Yt (K:=K) rfl) (ZO (Ym (K:=K) rfl) (pv 1) ZZ (ZP (Zk ZU (pv 2) Zb))) (ZO (Ym (K:=K) rfl) (pv 1) (ZP (pv 2)) ZZ))
   case h8=>exact Zp ZV (pv 3) Zb (Zt _)
   case h9=>exact Zm (XM VD rfl T.list (by decide +kernel) (Zc (pv 1) Za))
   case h10=>exact Zp ZV (pv 3) Zb (Zt _)
   case h11=>exact Zm (Zk (Yt (K:=K) rfl) (Zk (Yt (K:=K) rfl) (ZO (Ym (K:=K) rfl) (pv 1) ZZ (ZP (pv 2))) (Zx (Zc (Zr DOd hr (Zc (pv 0) Za)) Za))) (ZO (Ym (K:=K) rfl) (pv 1) (ZP (pv 2)) ZZ))
   case h12=>exact Zp ZV (pv 3) Zb (Zt _)
   case h13=>exact Zy (i:=4) scBe.nd rfl (Or.inl rfl) (Zk (Yt (K:=K) rfl) (ZO (Ym (K:=K) rfl) (pv 1) ZZ (ZP (pv 2))) (ZO (Ym (K:=K) rfl) (pv 1) (ZP (Zk ZU (pv 2) Zb)) (ZP (Zk ZU (pv 2) Zb))))
   case h14=>exact Zm (Zk (Yt (K:=K) rfl) (Zk (Yt (K:=K) rfl) (pv 4) (ZO (Ym (K:=K) rfl) (pv 1) (ZP (pv 2)) (ZP (Zk ZU (pv 2) Zb)))) (ZO (Ym (K:=K) rfl) (pv 1) (ZP (Zk ZU (pv 2) Zb)) ZZ))
   case h15=>exact Zm (Zk (Yt (K:=K) rfl) (Zk (Yt (K:=K) rfl) (ZO (Ym (K:=K) rfl) (pv 1) ZZ (ZP (pv 2))) (Zx (Zc (Zr DBe hr (Zc (pv 0) (Zc (Zz YB (pv 1) (pv 2) (fun _ _=>rfl)) Za))) Za))) (ZO (Ym (K:=K) rfl) (pv 1) (ZP (Zk ZU (pv 2) Zb)) ZZ))
 have hA:DatA K H v d:=DatT.toA hd (by omega)
 obtain ⟨t,ty,i1,_,_,_⟩:=YN hA
 refine ⟨_,rfl,_,_,t,_,rfl,ty,i1,_,rfl,?_⟩
 have od:∀ {n1:Nat} {v':V} {d':PyData} {H':Hp},n1≤n+4→DatA K H' v' d'→Zs d'=true→d'.depth≤2→Sep ((p,Bx n1)::Δ) H'→Q v' H':=fun h1 h2 h3 h4 h5=>q _ _ _ h2 h3 (by omega) (h5.le (by omega))
 cases id hd with
 | non=>exact ZM rfl (ZG ⟨_,rfl,p,n,Δ,rfl,S,by omega,fun v' d' H' a b c S'=>od (by omega) a b c S'⟩)
 | int i=>exact ZM rfl (ZG ⟨_,rfl,p,n,Δ,rfl,S,by omega,fun v' d' H' a b c S'=>od (by omega) a b c S'⟩)
 | str x=>exact ZM rfl (ZG ⟨_,rfl,p,n,Δ,rfl,S,by omega,fun v' d' H' a b c S'=>od (by omega) a b c S'⟩)
 | @tup a xs ds e hq =>
   refine ZI rfl ⟨_,rfl,?_⟩
   intro pz oz hpz hoz
   refine ZeW hpz hoz hA hs (by omega) ⟨_,rfl,?_⟩
   have sz:Same H (upd H pz (.frz oz (.tup []))):=Zf hpz _
   generalize upd H pz (.frz oz (.tup []))=H1 at sz ⊢
   by_cases c0:ds.isEmpty=true
   · exact ZM c0 (ZG ⟨_,rfl,p,n,Δ,rfl,S.mono sz,by omega,fun v' d' H' a b c S'=>od (by omega) a b c S'⟩)
   refine ZI (by cases z:ds.isEmpty with | true=>exact absurd z c0 | false=>rfl) ?_
   have S1:Sep ((p,Bx n)::(a,Vt K (.ref a) (.tuple ds))::Δ) H1:=(Uu a (S.mono sz) (hd.same sz)).swap
   refine ⟨_,rfl,p,n,5,_,rfl,S1,by omega,by decide,by decide,fun r0 H2 _ _ S2=>⟨rfl,_,rfl,?_⟩⟩
   by_cases c1:V.int r0=V.int 0
   · exact ZM (decide_eq_true c1) ⟨_,rfl,p,n+1,Δ,rfl,S2.drop a,by omega,fun v' d' H' a b c S'=>od (by omega) a b c S'⟩
   refine ZI (decide_eq_false c1) ?_
   have dt2:DatT K H2 (.ref a) (.tuple ds):=S2.get a
   obtain ⟨a',xs2,ea,e2,hq2⟩:=dt2.tupI
   cases ea
   have hl2:=hq2.len
   have hd0:0 < ds.length:=by cases ds with | nil=>exact absurd rfl c0 | cons x y=>exact Nat.succ_pos _
   have hw':max ds.length (Ye ds)≤1000:=by rw [Xs] at hw;exact hw
   refine ⟨_,rfl,_,rfl,a,xs2,rfl,.inr e2,p,n+1,_,_,rfl,S2,by omega,by omega,by omega,fun r1 H3 a0 a1 S3=>?_⟩
   refine ⟨_,rfl,p,n+2,10,_,rfl,S3,by omega,by decide,by decide,fun r2 H4 b0 b1 S4=>⟨_,_,rfl,?_⟩⟩
   have dt:DatT K H4 (.ref a) (.tuple ds):=S4.get a
   have S5:Sep ((p,Bx (n+3))::Δ) H4:=S4.drop a
   have hS:ZN ds=true:=by rw [Zs] at hs;exact hs
   have fin:∀ {c:Addr} {H':Hp} {es:List PyData} {n1:Nat},n1≤n+5 * (m+1)→DatA K H' (.ref c) (.tuple es)→(∀ e∈es,Zs e=true∧e.depth≤PyData.depthAll ds+2)→Sep ((p,Bx n1)::Δ) H'→Q (.ref c) H':=fun h1 h2 h3 h4=>q _ _ _ h2 (by rw [Zs];exact VT fun e he=>(h3 e he).1) (by rw [PyData.depth,PyData.depth];have:=Vv fun e he=>(h3 e he).2;omega) (h4.le (by omega))
   have inD:∀ e∈ds,Zs e=true∧e.depth≤PyData.depthAll ds+2:=fun e he=>⟨ZbE hS he,by have:=Zak he;omega⟩
   have cw:∀ lo hi,Xs (.tuple (Xh ds lo hi))≤20000:=fun lo hi=>by
     have h1:=Vj ds lo hi
     have h2:=Zcm (k:=Ye ds) (ds:=Xh ds lo hi) (fun d hd=>Uz (ZY hd))
     rw [Xs];omega
   have cl:=Vj ds
   refine ⟨_,rfl,rfl,_,rfl,?_⟩
   by_cases w0:V.int r2=V.int 0
   · refine ZM (decide_eq_true w0) ⟨_,rfl,_,rfl,_,rfl,Wq dt fun b1 H5 s5 d5=>⟨_,rfl,_,rfl,_,_,rfl,rfl,_,rfl,?_⟩⟩
     dsimp only [Xw]
     refine Wq (dt.same s5) fun b2 H6 s6 d6=>XB (DatT.toA (d5.same s6) (cw _ _)) (DatT.toA d6 (cw _ _)) (by have:=cl none (some r1);have:=cl (some (r1+1)) none;omega) fun c H7 s7 d7=>?_
     exact fin (by omega) d7 (fun e he=>(List.mem_append.mp he).elim (fun z=>inD e (ZY z)) fun z=>inD e (ZY z)) (S5.mono (s5.trans (s6.trans s7)))
   refine ZI (decide_eq_false w0) ⟨_,rfl,rfl,_,rfl,?_⟩
   by_cases w1:V.int r2=V.int 1
   · refine ZM (decide_eq_true w1) ⟨_,rfl,_,rfl,_,_,rfl,rfl,_,rfl,Wq dt fun b1 H5 s5 d5=>⟨_,rfl,_,rfl,_,rfl,?_⟩⟩
     dsimp only [Xw]
     refine Wq (dt.same s5) fun b2 H6 s6 d6=>XB (DatT.toA (d5.same s6) (cw _ _)) (DatT.toA d6 (cw _ _)) (by have:=cl none (some (r1+1));have:=cl (some r1) none;omega) fun c H7 s7 d7=>?_
     exact fin (by omega) d7 (fun e he=>(List.mem_append.mp he).elim (fun z=>inD e (ZY z)) fun z=>inD e (ZY z)) (S5.mono (s5.trans (s6.trans s7)))
   refine ZI (decide_eq_false w1) ⟨_,rfl,rfl,_,rfl,?_⟩
   obtain ⟨a4,xs4,ea4,e4,hq4⟩:=dt.tupI
   cases ea4
   have hl4:=hq4.len
   by_cases w2:V.int r2=V.int 2
   · refine ZM (decide_eq_true w2) ⟨_,rfl,a,xs4,rfl,.inr e4,fun l hl=>?_⟩
     refine q _ (.list ds) _ (.lst Zh (by omega) (DatAs.same (Zf hl _) (DatTs.toA hq4 (by omega)))) (by rw [Zs];exact hS) (by rw [PyData.depth,PyData.depth];omega) ((S5.le (by omega)).mono (Zf hl _))
   refine ZI (decide_eq_false w2) ⟨_,rfl,rfl,_,rfl,?_⟩
   by_cases w3:V.int r2=V.int 3
   · refine ZM (decide_eq_true w3) ⟨_,rfl,_,rfl,_,rfl,Wq dt fun b1 H5 s5 d5=>?_⟩
     have S6:Sep ((p,Bx (n+3))::(b1,Vt K (.ref b1) (.tuple (Xh ds none (some r1))))::(a,Vt K (.ref a) (.tuple ds))::Δ) H5:=(Uu b1 (S4.mono s5) d5).swap
     refine ⟨_,rfl,p,n+3,_,rfl,S6,by omega,fun v' d' H6 hA6 hs6 hd6 S7=>⟨(show 1≤sizeLine by decide),fun tp htp=>?_⟩⟩
     have d1:DatT K H6 (.ref b1) (.tuple (Xh ds none (some r1))):=S7.get b1
     have da:DatT K H6 (.ref a) (.tuple ds):=S7.get a
     have S8:Sep ((p,Bx (n+4))::Δ) H6:=(S7.drop b1).drop a
     have st:Same H6 (upd H6 tp (.tup [v'])):=Zf htp _
     have dtp:DatA K (upd H6 tp (.tup [v'])) (.ref tp) (.tuple [d']):=.tup (SqT.of Zh) (show 1≤20000 by decide) (.cons (hA6.same st) .nil)
     generalize upd H6 tp (.tup [v'])=H7 at st dtp ⊢
     refine XB (DatT.toA (d1.same st) (cw _ _)) dtp (by have:=cl none (some r1);rw [List.length_singleton];omega) fun c1 H8 s8 d8=>⟨_,rfl,_,rfl,_,rfl,?_⟩
     dsimp only [Xw]
     refine Wq (da.same (st.trans s8)) fun b2 H9 s9 d9=>XB (d8.same s9) (DatT.toA d9 (cw _ _)) (by have:=cl none (some r1);have:=cl (some r1) none;rw [List.length_append,List.length_singleton];omega) fun c H10 s10 d10=>?_
     refine fin (by omega) d10 (fun e he=>?_) (S8.mono (st.trans (s8.trans (s9.trans s10))))
     rcases List.mem_append.mp he with z | z
     · rcases List.mem_append.mp z with z | z
       · exact inD e (ZY z)
       · rw [List.mem_singleton.mp z];exact ⟨hs6,by omega⟩
     · exact inD e (ZY z)
   refine ZI (decide_eq_false w3) ⟨_,rfl,rfl,_,rfl,?_⟩
   by_cases w4:V.int r2=V.int 4
   · refine ZM (decide_eq_true w4) ⟨_,rfl,_,rfl,_,rfl,Wq dt fun b1 H5 s5 d5=>⟨_,rfl,_,rfl,_,_,rfl,rfl,_,rfl,_,rfl,_,_,rfl,rfl,_,rfl,Wq (dt.same s5) fun b2 H6 s6 d6=>?_⟩⟩
     refine XB (DatT.toA (d5.same s6) (cw _ _)) (DatT.toA d6 (cw _ _)) (by have:=cl none (some r1);have:=cl (some (r1+1)) (some (r1+2));omega) fun c1 H7 s7 d7=>?_
     have s47:=s5.trans (s6.trans s7)
     refine ⟨_,rfl,_,rfl,_,rfl,_,rfl,_,rfl,_,_,rfl,rfl,_,rfl,Wq (dt.same s47) fun b3 H8 s8 d8=>?_⟩
     refine XB (d7.same s8) (DatT.toA d8 (cw _ _)) (by have:=cl none (some r1);have:=cl (some (r1+1)) (some (r1+2));have:=cl (some r1) (some (r1+1));rw [List.length_append];omega) fun c2 H9 s9 d9=>⟨_,rfl,_,rfl,_,_,rfl,rfl,_,rfl,?_⟩
     dsimp only [Xw]
     refine Wq (dt.same (s47.trans (s8.trans s9))) fun b4 H10 s10 d10=>XB (d9.same s10) (DatT.toA d10 (cw _ _)) (by have:=cl none (some r1);have:=cl (some (r1+1)) (some (r1+2));have:=cl (some r1) (some (r1+1));have:=cl (some (r1+2)) none;rw [List.length_append,List.length_append];omega) fun c H11 s11 d11=>?_
     refine fin (by omega) d11 (fun e he=>?_) (S5.mono (s47.trans (s8.trans (s9.trans (s10.trans s11)))))
     rcases List.mem_append.mp he with z | z
     · rcases List.mem_append.mp z with z | z
       · rcases List.mem_append.mp z with z | z
         · exact inD e (ZY z)
         · exact inD e (ZY z)
       · exact inD e (ZY z)
     · exact inD e (ZY z)
   refine ZI (decide_eq_false w4) ⟨_,rfl,_,rfl,_,rfl,Wq dt fun b1 H5 s5 d5=>?_⟩
   have S6:Sep ((p,Bx (n+3))::(b1,Vt K (.ref b1) (.tuple (Xh ds none (some r1))))::(a,Vt K (.ref a) (.tuple ds))::Δ) H5:=(Uu b1 (S4.mono s5) d5).swap
   obtain ⟨sv,hsm,hsv⟩:=WI (xs:=xs4) (r:=r1) a0 (by omega)
   obtain ⟨i,hi⟩:=List.mem_iff_getElem?.mp hsm
   obtain ⟨d1,hd1,dd1⟩:=DatTs.atV hq4 hi
   have hdm:d1∈ds:=List.mem_iff_getElem?.mpr ⟨i,hd1⟩
   have hdd:=Zak hdm
   have hdw:=Uz hdm
   have hm':PyData.depthAll ds+1 < m+1:=by rw [PyData.depth] at hm;omega
   refine ⟨_,rfl,_,rfl,_,rfl,a,_,_,_,rfl,rfl,e4.tf s5.tf,hsv,p,n+3,_,sv,d1,rfl,S6,dd1.same s5,ZbE hS hdm,by omega,by omega,by omega,by omega,fun v' d' H6 hA6 hs6 hd6 S7=>⟨(show 1≤sizeLine by decide),fun tp htp=>?_⟩⟩
   have d1':DatT K H6 (.ref b1) (.tuple (Xh ds none (some r1))):=S7.get b1
   have da:DatT K H6 (.ref a) (.tuple ds):=S7.get a
   have S8:Sep ((p,Bx (n+3+5 * m))::Δ) H6:=(S7.drop b1).drop a
   have st:Same H6 (upd H6 tp (.tup [v'])):=Zf htp _
   have dtp:DatA K (upd H6 tp (.tup [v'])) (.ref tp) (.tuple [d']):=.tup (SqT.of Zh) (show 1≤20000 by decide) (.cons (hA6.same st) .nil)
   generalize upd H6 tp (.tup [v'])=H7 at st dtp ⊢
   refine XB (DatT.toA (d1'.same st) (cw _ _)) dtp (by have:=cl none (some r1);rw [List.length_singleton];omega) fun c1 H8 s8 d8=>⟨_,rfl,_,rfl,_,_,rfl,rfl,_,rfl,?_⟩
   dsimp only [Xw]
   refine Wq (da.same (st.trans s8)) fun b2 H9 s9 d9=>XB (d8.same s9) (DatT.toA d9 (cw _ _)) (by have:=cl none (some r1);have:=cl (some (r1+1)) none;rw [List.length_append,List.length_singleton];omega) fun c H10 s10 d10=>?_
   refine fin (by omega) d10 (fun e he=>?_) (S8.mono (st.trans (s8.trans (s9.trans s10))))
   rcases List.mem_append.mp he with z | z
   · rcases List.mem_append.mp z with z | z
     · exact inD e (ZY z)
     · rw [List.mem_singleton.mp z];exact ⟨hs6,by omega⟩
   · exact inD e (ZY z)
theorem Zae {f:Addr}{fd:FuncData}(F:Fun K "_law_bent" "_law_bent" s_l_bent f fd)(T:Yj mg)(b:Binds K fd WU [])(kp:PySem.W.keepIn K (.ref f)=true)(mm:mg "_law_bent"=some (.ref f))(DT:UX P w K mg base 2)(DOd:Def P w K mg base 2 "_law_odd" Zbg (ZaE K)):∀ n,FnOk P w K mg base Yb (2+n) f fd WU (Wz K n)
 | 0=>⟨fun vs H Q E ⟨_,_,_,_,_,_,_,_,_,_,h,_⟩=>absurd h (Nat.not_lt_zero _),fun _ _ _ _ _ _ _ _ _ _ _ _ _ ⟨_,_,_,_,_,_,_,_,_,_,h,_⟩=>absurd h (Nat.not_lt_zero _)⟩
 | n+1=>(ZcQ (k:=2+n) F T (DT.mono (by omega)) (DOd.mono (by omega)) ⟨_,_,Zae F T b kp mm DT DOd n,b,kp,mm⟩).mono (by omega)
end
end K54
set_option maxHeartbeats 4000000
namespace K54
open PySem L2
def ScR (K:PySem.W.Frag)(ns:List Int):Yu:=fun a h=>SqL K h a (ns.map V.int)
theorem ZcX {K:PySem.W.Frag}{H H':Hp}{a:Addr}{xs:List V}(h:SqL K H a xs)(s:Same H H'):SqL K H' a xs:=by
 rcases h with (h | ⟨o,h⟩) | h
 · exact .inl (.inl (s _ _ h))
 · exact .inl (.inr ⟨o,s _ _ h⟩)
 · exact .inr h
instance {K:PySem.W.Frag} {ns:List Int}:Up (ScR K ns):=⟨fun h s=>ZcX h s⟩
theorem Zeo {v:V}(h:WH v):Zs (WC v)=true:=by
 cases v with
 | int i=>rfl
 | str x=>(show (decide (x.length≤1000)&&PyData.strOk x)=true;rw [show PyData.strOk x=true from ZbN h,Bool.and_true];exact decide_eq_true (by have:=h.1;omega))
 | _=>exact h.elim
theorem Wg {x:Str}(h:YD x):Zs (.str x)=true:=by rw [Zs,ZcA h,Bool.and_true];exact decide_eq_true (by have:=h.2.1;omega)
mutual
theorem ZeS:∀{p:Pg},p.ok→Zs p.dat=true
 | .set x v s,h=>by
   show (Zs (.str "set")&&(Zs (.str x)&&(Zs (WC v)&&(Zs (.str s)&&true))))=true
   rw [Wg h.1,Zeo h.2.1,Wg h.2.2];decide +kernel
 | .look x,h=>by
   show (Zs (.str "look")&&(Zs (.str x)&&true))=true
   rw [Wg h];decide +kernel
 | .slot w s,h=>by
   show (Zs (.str w)&&(Zs (.str s)&&true))=true
   rw [Wg h.2];rcases h.1 with rfl | rfl<;>decide +kernel
 | .pass,_=>by decide +kernel
 | .blk w ps,h=>by
   show (Zs (.str w)&&(ZN (Pg.dats ps)&&true))=true
   rw [Ui h.2];rcases h.1 with rfl | rfl<;>decide +kernel
 | .inn s ps,h=>by
   show (Zs (.str "in")&&(Zs (.str s)&&(ZN (Pg.dats ps)&&true)))=true
   rw [Wg h.1,Ui h.2];decide +kernel
theorem Ui:∀{ps:List Pg},Pg.oks ps→ZN (Pg.dats ps)=true
 | [],_=>rfl
 | p::ps,h=>by
   show (Zs p.dat&&ZN (Pg.dats ps))=true
   rw [ZeS h.1,Ui h.2];rfl
end
theorem ZdL (v:V):Xs (WC v)=0:=by cases v<;>rfl
mutual
theorem ZeA:∀ p:Pg,Xs p.dat≤3+p.many
 | .set x v s=>by
   show max 4 (max 0 (max 0 (max (Xs (WC v)) (max 0 0))))≤3+1
   rw [ZdL];omega
 | .look x=>by show max 2 (max 0 (max 0 0))≤3+1;omega
 | .slot w s=>by show max 2 (max 0 (max 0 0))≤3+1;omega
 | .pass=>by show max 1 (max 0 0)≤3+1;omega
 | .blk w ps=>by
   have:=WJ ps
   show max 2 (max 0 (max (max (Pg.dats ps).length (Ye (Pg.dats ps))) 0))≤3+(1+Pg.manys ps)
   have h2:=Pg.len_manys ps
   rw [Pg.dats_map,List.length_map,← Pg.dats_map];omega
 | .inn s ps=>by
   have:=WJ ps
   show max 3 (max 0 (max 0 (max (max (Pg.dats ps).length (Ye (Pg.dats ps))) 0)))≤3+(1+Pg.manys ps)
   have h2:=Pg.len_manys ps
   rw [Pg.dats_map,List.length_map,← Pg.dats_map];omega
theorem WJ:∀ ps:List Pg,Ye (Pg.dats ps)≤3+Pg.manys ps
 | []=>by show 0≤_;omega
 | p::ps=>by
   have h1:=ZeA p
   have h2:=WJ ps
   show max (Xs p.dat) (Ye (Pg.dats ps))≤3+(p.many+Pg.manys ps)
   omega
end
def wds:List Str:=["set","look","back","begin","late","copy","in","pass","begin","in"]
def fixD:List PyData:=(((([.tuple [],.list [],.none,.bool true,.int 0,.str "",.str "pass",.tuple [.str "pass"],.tuple [.tuple [.str "pass"]],.tuple [.tuple [.str "pass",.str "a"]],.tuple [.tuple [.str "look"]]])++[.tuple [.tuple [.str "look",.str "a"]],.tuple [.tuple [.str "set",.str "a",.int 1,.str "b"]],.tuple [.tuple [.str "set",.str "a",.none,.str "b"]]])++[.tuple [.tuple [.str "set",.str "a",.bool true,.str "b"]],.tuple [.tuple [.str "begin",.tuple []]]])++[.tuple [.tuple [.str "begin",.list []]],.tuple [.tuple [.str "in",.str "a",.tuple []]],.tuple [.tuple [.str "in",.tuple [],.str "a"]],.tuple [.tuple [.str "set",.str "a",.str "\n", .str "b"]], .tuple [.tuple []]]) ++ [.tuple [.tuple [.str "late", .tuple [.tuple [.str "late", .tuple [.tuple [.str "copy", .str "a"]]]]]], .tuple [.tuple [.str "set", .str "a", .str "~", .str "abcdefghi"]], .tuple [.list [.str "pass"]]]
theorem ZdN:fixD.length=24:=rfl
theorem Zex:∀ d∈fixD,Zs d=true∧d.depth < 24:=by
 have:fixD.all (fun d=>Zs d&&decide (d.depth < 24))=true:=by decide +kernel
 intro d hd
 have:=List.all_eq_true.mp this d hd
 rw [Bool.and_eq_true] at this
 exact ⟨this.1,of_decide_eq_true this.2⟩
def lastD:List PyData:=[.tuple [.str "pass"],.tuple [.str "pass",.str "a"],.tuple [.str "look",.str "A"],.tuple [.str "copy",.str "a"]]
theorem ZdK:∀ d∈lastD,Zs d=true∧d.depth≤1:=by
 have:lastD.all (fun d=>Zs d&&decide (d.depth≤1))=true:=by decide +kernel
 intro d hd
 have:=List.all_eq_true.mp this d hd
 rw [Bool.and_eq_true] at this
 exact ⟨this.1,of_decide_eq_true this.2⟩
section
variable {K:PySem.W.Frag}{H:Hp}
theorem VC {l1 l2:Addr}{ds es:List PyData}{Q:VK}(h1:DatA K H (.ref l1) (.list ds))(h2:DatA K H (.ref l2) (.list es))(hl:ds.length+es.length≤1000)(q:∀ l3 H',Same H H'→DatA K H' (.ref l3) (.list (ds++es))→Q (.ref l3) H'):rCat (.ref l1) (.ref l2) H Q:=by
 cases h1 with
 | lst e1 _ q1 =>
   cases h2 with
   | lst e2 _ q2 =>
     have k1:=q1.len
     have k2:=q2.len
     exact ⟨l1,l2,_,_,rfl,rfl,e1,e2,Yw (show _≤1000 by omega),fun p hp=>q p _ (Zf hp _) (.lst Zh (by rw [List.length_append];omega) (DatAs.same (Zf hp _) (DatAs.append q1 q2)))⟩
theorem Zav {v:V}{d:PyData}(h:DatA K H v d):∀ k:Nat,DatAs K H (List.replicate k [v]).flatten (List.replicate k d)
 | 0=>.nil
 | k+1=>by rw [List.replicate_succ,List.replicate_succ,List.flatten_cons];exact .cons h (Zav h k)
theorem ZdU {v:V}(k:Nat):(List.replicate k [v]).flatten.length=k:=by
 induction k with
 | zero=>rfl
 | succ k ih=>rw [List.replicate_succ,List.flatten_cons,List.length_append,ih];simp;omega
theorem repA {l:Addr}{d:PyData}{k:Int}{Q:VK}(h:DatA K H (.ref l) (.tuple [d]))(h2:2≤k)(h3:k≤10000)(q:∀ b H',Same H H'→DatA K H' (.ref b) (.tuple (List.replicate k.toNat d))→Q (.ref b) H'):Zdd K (.ref l) (.int k) H Q:=by
 cases h with
 | @tup _ xs _ e hl hq =>
   cases hq with
   | @cons v _ vs _ hv hr =>
     cases hr
     refine ⟨l,k,_,rfl,rfl,e,h2,h3,by simp,by simp;omega,(fun z=>nomatch z),fun _ p hp=>q p _ (Zf hp _) (.tup (SqT.of Zh) (by rw [ZdU];omega) (DatAs.same (Zf hp _) (Zav hv _)))⟩
theorem Zbx {k:Nat}{d dv:PyData}(h1:Zs d=true)(h2:Zs dv=true)(h3:d.depth≤1)(h4:dv.depth≤1):Zs (.tuple (List.replicate k d++[dv]))=true∧(PyData.tuple (List.replicate k d++[dv])).depth < 24:=by
 have m:∀ e∈List.replicate k d++[dv],e=d∨e=dv:=fun e he=>by
   rcases List.mem_append.mp he with z | z
   · exact .inl (List.eq_of_mem_replicate z)
   · exact .inr (List.mem_singleton.mp z)
 refine ⟨by rw [Zs];exact VT fun e he=>(m e he).elim (fun z=>z ▸ h1) fun z=>z ▸ h2,?_⟩
 have:=Vv (k:=1) (ds:=List.replicate k d++[dv]) fun e he=>(m e he).elim (fun z=>z ▸ h3) fun z=>z ▸ h4
 rw [PyData.depth];omega
theorem YT {p:Addr}{vs:List V}{ds:List PyData}(hp:H p=none)(h:DatAs K H vs ds)(hl:vs.length≤20000):DatA K (upd H p (.tup vs)) (.ref p) (.tuple ds):=.tup (SqT.of Zh) hl (DatAs.same (Zf hp _) h)
end
section
variable {P:Program}{w:World}{K:PySem.W.Frag}{mg:Str→Option Value}{base:Heap}
def Vg (K:PySem.W.Frag):Sp:=fun vs H Q _=>∃(a:Addr)(ns:List Int),vs=[.ref a]∧SqL K H a (ns.map V.int)∧ns.length≤63∧∀ H',Q (.bl true) H'
abbrev nLw:List Str:=["_law_script","_law_fixed","_law_last","_law_deep","_law_block","_law_words","_law_k","_law_box_here","_law_names_here","_law_program_here","_law_turn"]
abbrev pnLw:List Str:=["_law_script"]
theorem scLw:ZD nLw pnLw (Zo s_law):=⟨rfl,rfl,rfl,by decide +kernel,rfl,by decide +kernel,by decide +kernel⟩
theorem Zeq {f:Addr}{fd:FuncData}(F:Fun K "law" "law" s_law f fd)(T:Yj mg)(DT:UX P w K mg base 50)(DB:Def P w K mg base 50 "_law_box" ["_law_script","_law_k"] (VQ K))(DN:Def P w K mg base 50 "_law_names" Zct VM)(DPr:Def P w K mg base 50 "_law_program" WY (Ur K 7))(DRi:Def P w K mg base 50 "_law_right" ZcD (Zaq K))(DBe:Def P w K mg base 50 "_law_bent" WU (Wz K 20)):FnOk P w K mg base Yb 51 f fd pnLw (Vg K):=by
 refine F.ok scLw (fun vs H Q E h=>?_) (fun cdv A outer s H vs Q E hr h=>?_)
 · obtain ⟨a,ns,rfl,_⟩:=h;rfl
 obtain ⟨a,ns,rfl,hS,h63,q⟩:=h
 have hr1:=hr
 refine' ⟨?t,?h,?r⟩
 case h =>
   conv=>arg 2;whnf
   with_reducible refine' (Ze (Zy (i:=1) ?h1 ?h2 ?h3 ?h4 ?h5 ?h6) (Ze (Zy (i:=1) ?h7 ?h8 ?h9 (Zk ?h11 ?h12 ?h10) ?h13 ?h14) (Ze (Zy (i:=1) ?h15 ?h16 ?h17 (Zk ?h19 ?h20 ?h18) ?h21 ?h22) (Ze (Zy (i:=1) ?h23 ?h24 ?h25 (Zk ?h27 ?h28 ?h26) ?h29 ?h30) (Ze (Zy (i:=1) ?h31 ?h32 ?h33 (Zk ?h35 ?h36 ?h34) ?h37 ?h38) (Ze (Wb ?h39 ?h40 ?h41 ?h42 (Ze ?h43 (Ze (Wb ?h44 ?h45 ?h46 ?h47 (Zi ?h48) ?h49) (Zi ?h50))) ?h51) (Ze (ZF ?h52 (Zi ?h53) Zq) (Ze (Zy (i:=5) ?h54 ?h55 ?h56 (YI ?h57) ?h58 ?h59) (Ze (Wb ?h60 ?h61 ?h62 ?h63 (Ze ?h64 (Ze ?h65 (Ze ?h66 (Ze ?h67 (Ze (ZF ?h68 (Zi ?h69) Zq) (Zi (Wb ?h70 ?h71 ?h72 ?h73 (Zi (ZF ?h74 (Zi ?h75) Zq)) ?h76))))))) ?h77) (Zi ?h78))))))))))
   case h1=>exact scLw.nd
   case h2=>exact rfl
   case h3=>exact (Or.inl rfl)
   case h4=>(refine' XF (K:=K) (d:=.list [.tuple [],.list [],.none,.bool true,.int 0,.str "",.str "pass",.tuple [.str "pass"],.tuple [.tuple [.str "pass"]],.tuple [.tuple [.str "pass",.str "a"]],.tuple [.tuple [.str "look"]]]) 8 ?z3;all_goals kernel_rfl)
   case h5=>exact rfl
   case h6=>exact (by first | exact .inl rfl | exact .inr rfl)
   case h7=>exact scLw.nd
   case h8=>exact rfl
   case h9=>exact (Or.inl rfl)
   case h10=>(refine' XF (K:=K) (d:=.list [.tuple [.tuple [.str "look",.str "a"]],.tuple [.tuple [.str "set",.str "a",.int 1,.str "b"]],.tuple [.tuple [.str "set",.str "a",.none,.str "b"]]]) 8 ?z9;all_goals kernel_rfl)
   case h11=>exact Wj
   case h12=>exact pv 1
   case h13=>exact rfl
   case h14=>exact (by first | exact .inl rfl | exact .inr rfl)
   case h15=>exact scLw.nd
   case h16=>exact rfl
   case h17=>exact (Or.inl rfl)
   case h18=>(refine' XF (K:=K) (d:=.list [.tuple [.tuple [.str "set",.str "a",.bool true,.str "b"]],.tuple [.tuple [.str "begin",.tuple []]]]) 8 ?z17;all_goals kernel_rfl)
   case h19=>exact Wj
   case h20=>exact pv 1
   case h21=>exact rfl
   case h22=>exact (by first | exact .inl rfl | exact .inr rfl)
   case h23=>exact scLw.nd
   case h24=>exact rfl
   case h25=>exact (Or.inl rfl)
   case h26=>(refine' XF (K:=K) (d:=.list [.tuple [.tuple [.str "begin",.list []]],.tuple [.tuple [.str "in",.str "a",.tuple []]],.tuple [.tuple [.str "in",.tuple [],.str "a"]],.tuple [.tuple [.str "set",.str "a",.str "\n", .str "b"]],.tuple [.tuple []]]) 8 ?z25;all_goals kernel_rfl)
   case h27=>exact Wj
   case h28=>exact pv 1
   case h29=>exact rfl
   case h30=>exact (by first | exact .inl rfl | exact .inr rfl)
   case h31=>exact scLw.nd
   case h32=>exact rfl
   case h33=>exact (Or.inl rfl)
   case h34=>(refine' XF (K:=K) (d:=.list [.tuple [.tuple [.str "late",.tuple [.tuple [.str "late",.tuple [.tuple [.str "copy",.str "a"]]]]]],.tuple [.tuple [.str "set",.str "a",.str "~",.str "abcdefghi"]],.tuple [.list [.str "pass"]]]) 8 ?z33;all_goals kernel_rfl)
   case h35=>exact Wj
   case h36=>exact pv 1
   case h37=>exact rfl
   case h38=>exact (by first | exact .inl rfl | exact .inr rfl)
   case h39=>exact PassesOwn.never
   case h40=>exact rfl
   case h41=>exact Uc (Zx (Zc (Zx (Zc Zl Za)) (Zc (Zx (Zc Zl (Zc Zl Za))) (Zc (Zx (Zc Zl (Zc Zl Za))) (Zc (Zx (Zc Zl (Zc Zl Za))) Za)))))
   case h42=>exact Yn (i:=2) scLw.nd rfl (Or.inl rfl)
   case h43=>exact Zy (i:=3) scLw.nd rfl (Or.inl rfl) (Zx (Zc (pv 2) Za))
   case h44=>exact PassesOwn.never
   case h45=>exact rfl
   case h46=>exact YH rfl T.range (Zc Zb Za)
   case h47=>exact Yn (i:=4) scLw.nd rfl (Or.inl rfl)
   case h48=>exact Zy (i:=3) scLw.nd rfl (Or.inl rfl) (Zx (Zc (Zz ZH (YI (Zc (Zx (Zc Zl (Zc (pv 3) Za))) (Zc (Zx (Zc Zl (Zc (pv 3) Za))) (Zc (Zx (Zc Zl (Zc Zl (Zc (pv 3) Za)))) Za)))) (Zk Xc (pv 4) Zb) (fun _ _=>rfl)) Za))
   case h49=>exact fun _=>rfl
   case h50=>exact Zy (i:=1) scLw.nd rfl (Or.inl rfl) (Zk Wj (pv 1) (YI (Zc (pv 3) (Zc (Zk (Yt (K:=K) rfl) (Zk Zaf (Zx (Zc (Zx (Zc Zl Za)) Za)) Zb) (Zx (Zc (pv 2) Za))) (Zc (Zk (Yt (K:=K) rfl) (Zk Zaf (Zx (Zc (Zx (Zc Zl (Zc Zl Za))) Za)) Zb) (Zx (Zc (pv 2) Za))) Za)))))
   case h51=>exact fun _=>rfl
   case h52=>exact YE (YC (Zj (Yx rfl) rfl T.all (by decide +kernel) (Zc (YF (CompOk.of nLw s_law rfl rfl (by decide +kernel)) rfl (ZdH (pv 1))  (fun _ _ _ _ _=>Zr DRi hr (Zc (pv 11) Za))) Za)))
   case h53=>exact Zm Xb
   case h54=>exact scLw.nd
   case h55=>exact rfl
   case h56=>exact (Or.inl rfl)
   case h57=>(refine' Zab (vs:=[.str "set",.str "look",.str "back",.str "begin",.str "late",.str "copy",.str "in",.str "pass",.str "begin",.str "in"]) ?zz;case zz=>decide +kernel)
   case h58=>exact rfl
   case h59=>exact (by first | exact .inl rfl | exact .inr rfl)
   case h60=>exact PassesOwn.never
   case h61=>exact rfl
   case h62=>exact YH rfl T.range (Zc (Zk ZU Zb (Zj (ZbK rfl) rfl T.min (by decide +kernel) (Zc Zb (Zc (Zj Zv rfl T.len PySem.boot_len (Zc (pv 0) Za)) Za)))) Za)
   case h63=>exact Yn (i:=6) scLw.nd rfl (Or.inl rfl)
   case h64=>exact Zy (i:=7) scLw.nd rfl (Or.inl rfl) (Zr DB hr (Zc (pv 0) (Zc (pv 6) Za)))
   case h65=>exact Zy (i:=8) scLw.nd rfl (Or.inl rfl) (Zr DN hr (Zc (pv 7) (Zc Zb Za)))
   case h66=>exact Zy (i:=3) scLw.nd rfl (Or.inl rfl) (Zr DT hr1 (Zc (pv 7) (Zc Zb Za)))
   case h67=>exact Zy (i:=9) scLw.nd rfl (Or.inl rfl) (Zr DPr hr (Yk (pv 7) (Yk (pv 8) (Yk (pv 8) (Yk (pv 5) (Yk (YI (Zc Zb Za)) (Yk (pv 3) (Yk (Zk ZU Zb (Zr DT hr1 (Zc (pv 7) (Zc Zb Za)))) Za rfl) rfl) rfl) rfl) rfl) rfl) rfl))
   case h68=>exact YE (YC (Zr DRi hr (Zc (pv 9) Za)))
   case h69=>exact Zm Xb
   case h70=>exact PassesOwn.never
   case h71=>exact rfl
   case h72=>exact YH rfl T.range (Zc (Zk Xm Zb (XM UV rfl T.int (by decide +kernel) (Zc (Xy Zbn (pv 3) Zb (Zt _)) Za))) Za)
   case h73=>exact Yn (i:=10) scLw.nd rfl (Or.inl rfl)
   case h74=>exact YE (YC (Zr DRi hr (Zc (Zr DBe hr (Zc (pv 7) (Zc (pv 9) Za))) Za)))
   case h75=>exact Zm Xb
   case h76=>exact fun _=>rfl
   case h77=>exact fun _=>rfl
   case h78=>exact Zm Xb
 intro v1 H1 s1 d1
 obtain ⟨l1,_,rfl,_,_⟩:=Xn d1
 refine ⟨_,rfl,?_⟩
 intro v2 H2 s2 d2
 obtain ⟨l2,_,rfl,_,_⟩:=Xn d2
 refine VC (d1.same s2) d2 (by decide) fun l3 H3 s3 d3=>⟨_,rfl,?_⟩
 intro v4 H4 s4 d4
 obtain ⟨l4,_,rfl,_,_⟩:=Xn d4
 refine VC (d3.same s4) d4 (by decide) fun l5 H5 s5 d5=>⟨_,rfl,?_⟩
 intro v6 H6 s6 d6
 obtain ⟨l6,_,rfl,_,_⟩:=Xn d6
 refine VC (d5.same s6) d6 (by decide) fun l7 H7 s7 d7=>⟨_,rfl,?_⟩
 intro v8 H8 s8 d8
 obtain ⟨l8,_,rfl,_,_⟩:=Xn d8
 refine VC (d7.same s8) d8 (by decide) fun l9 H9 s9 d9=>?_
 have sH:Same H H9:=s1.trans (s2.trans (s3.trans (s4.trans (s5.trans (s6.trans (s7.trans (s8.trans s9)))))))
 have dF:DatA K H9 (.ref l9) (.list fixD):=d9
 clear d9 d8 d7 d6 d5 d4 d3 d2 d1 s1 s2 s3 s4 s5 s6 s7 s8 s9
 refine ⟨(show 1≤sizeLine by decide),fun t1 ht1=>?_⟩
 have g1:DatA K (upd H9 t1 (.tup [.str "pass"])) (.ref t1) (.tuple [.str "pass"]):=YT ht1 (.cons (.str _) .nil) (show 1≤20000 by decide)
 have u1:Same H9 (upd H9 t1 (.tup [.str "pass"])):=Zf ht1 _
 generalize upd H9 t1 (.tup [.str "pass"])=G1 at g1 u1 ⊢
 refine ⟨(show 2≤sizeLine by decide),fun t2 ht2=>?_⟩
 have g2:DatA K (upd G1 t2 (.tup [.str "pass",.str "a"])) (.ref t2) (.tuple [.str "pass",.str "a"]):=YT ht2 (.cons (.str _) (.cons (.str _) .nil)) (show 2≤20000 by decide)
 have u2:Same G1 (upd G1 t2 (.tup [.str "pass",.str "a"])):=Zf ht2 _
 generalize upd G1 t2 (.tup [.str "pass",.str "a"])=G2 at g2 u2 ⊢
 refine ⟨(show 2≤sizeLine by decide),fun t3 ht3=>?_⟩
 have g3:DatA K (upd G2 t3 (.tup [.str "look",.str "A"])) (.ref t3) (.tuple [.str "look",.str "A"]):=YT ht3 (.cons (.str _) (.cons (.str _) .nil)) (show 2≤20000 by decide)
 have u3:Same G2 (upd G2 t3 (.tup [.str "look",.str "A"])):=Zf ht3 _
 generalize upd G2 t3 (.tup [.str "look",.str "A"])=G3 at g3 u3 ⊢
 refine ⟨(show 2≤sizeLine by decide),fun t4 ht4=>?_⟩
 have g4:DatA K (upd G3 t4 (.tup [.str "copy",.str "a"])) (.ref t4) (.tuple [.str "copy",.str "a"]):=YT ht4 (.cons (.str _) (.cons (.str _) .nil)) (show 2≤20000 by decide)
 have u4:Same G3 (upd G3 t4 (.tup [.str "copy",.str "a"])):=Zf ht4 _
 generalize upd G3 t4 (.tup [.str "copy",.str "a"])=G4 at g4 u4 ⊢
 refine ⟨(show 4≤sizeLine by decide),fun tt htt=>?_⟩
 have u5:Same G4 (upd G4 tt (.tup [.ref t1,.ref t2,.ref t3,.ref t4])):=Zf htt _
 have ett:(upd G4 tt (.tup [.ref t1,.ref t2,.ref t3,.ref t4])) tt=some (.tup [.ref t1,.ref t2,.ref t3,.ref t4]):=Zh
 generalize upd G4 tt (.tup [.ref t1,.ref t2,.ref t3,.ref t4])=G5 at u5 ett ⊢
 have dL:DatAs K G5 [.ref t1,.ref t2,.ref t3,.ref t4] lastD:=.cons (g1.same (u2.trans (u3.trans (u4.trans u5)))) (.cons (g2.same (u3.trans (u4.trans u5))) (.cons (g3.same (u4.trans u5)) (.cons (g4.same u5) .nil)))
 have sG:Same H9 G5:=u1.trans (u2.trans (u3.trans (u4.trans u5)))
 replace dF:=dF.same sG
 replace sH:=sH.trans sG
 clear sG u1 u2 u3 u4 u5 g1 g2 g3 g4
 refine ⟨tt,rfl,⟨_,SqT.of ett⟩,?_⟩
 refine ZdS (K:=K) (xs:=[.ref t1,.ref t2,.ref t3,.ref t4]) (fun i σ H'=>∃ l x2 x3 x4 ds,σ=[some (.ref a),some (.ref l),x2,x3,x4,none,none,none,none,none,none]∧Same G5 H'∧DatA K H' (.ref l) (.list ds)∧ds.length≤24+3 * i∧∀ d∈ds,Zs d=true∧d.depth < 24) ⟨l9,none,none,none,fixD,rfl,Same.refl _,dF,(by rw [ZdN];omega),Zex⟩ (fun i σ H' _ ⟨_,_,_,_,_,_,s',_⟩=>SqT.of (s' _ _ ett)) ?_ ?_
 · rintro i v σ H2 hv ⟨l,x2,x3,x4,ds,rfl,s2,dl,hdl,hok⟩
   obtain ⟨dv,hdv,ddv⟩:=dL.at hv
   have hi4:i < 4:=by have:=(List.getElem?_eq_some_iff.mp hv).1;exact this
   replace ddv:=ddv.same s2
   obtain ⟨lk1,lk2⟩:=ZdK dv (List.mem_iff_getElem?.mpr ⟨i,hdv⟩)
   refine ⟨_,rfl,(show 1≤sizeLine by decide),fun dp hdp=>?_⟩
   have g6:DatA K (upd H2 dp (.tup [v])) (.ref dp) (.tuple [dv]):=YT hdp (.cons ddv .nil) (show 1≤20000 by decide)
   have u6:Same H2 (upd H2 dp (.tup [v])):=Zf hdp _
   generalize upd H2 dp (.tup [v])=H3 at g6 u6 ⊢
   refine ⟨7,rfl,by decide,by decide,?_⟩
   refine Xp (fun j σ H'=>∃ dp x4 d,σ=[some (.ref a),some (.ref l),some v,some (.ref dp),x4,none,none,none,none,none,none]∧Same H3 H'∧DatA K H' (.ref dp) d∧Zs d=true∧d.depth≤2+2 * j) ⟨dp,x4,_,rfl,Same.refl _,g6,?_,?_⟩ ?_ ?_
   · rw [Zs,ZN,lk1];rfl
   · rw [PyData.depth,PyData.depthAll,PyData.depthAll];omega
   · rintro j σ H4 hj ⟨dp,x4,d,rfl,s4,dd,hs,hdep⟩
     refine ⟨_,rfl,(show 2≤sizeLine by decide),fun p1 hp1=>?_⟩
     have a1:DatA K (upd H4 p1 (.tup [.str "begin",.ref dp])) (.ref p1) (.tuple [.str "begin",d]):=YT hp1 (.cons (.str _) (.cons dd .nil)) (show 2≤20000 by decide)
     have b1:Same H4 (upd H4 p1 (.tup [.str "begin",.ref dp])):=Zf hp1 _
     generalize upd H4 p1 (.tup [.str "begin",.ref dp])=H5 at a1 b1 ⊢
     refine ⟨_,rfl,(show 2≤sizeLine by decide),fun p2 hp2=>?_⟩
     have a2:DatA K (upd H5 p2 (.tup [.str "late",.ref dp])) (.ref p2) (.tuple [.str "late",d]):=YT hp2 (.cons (.str _) (.cons (dd.same b1) .nil)) (show 2≤20000 by decide)
     have b2:Same H5 (upd H5 p2 (.tup [.str "late",.ref dp])):=Zf hp2 _
     generalize upd H5 p2 (.tup [.str "late",.ref dp])=H6 at a2 b2 ⊢
     refine ⟨_,rfl,(show 3≤sizeLine by decide),fun p3 hp3=>?_⟩
     have a3:DatA K (upd H6 p3 (.tup [.str "in",.str "a",.ref dp])) (.ref p3) (.tuple [.str "in",.str "a",d]):=YT hp3 (.cons (.str _) (.cons (.str _) (.cons (dd.same (b1.trans b2)) .nil))) (show 3≤20000 by decide)
     have b3:Same H6 (upd H6 p3 (.tup [.str "in",.str "a",.ref dp])):=Zf hp3 _
     generalize upd H6 p3 (.tup [.str "in",.str "a",.ref dp])=H7 at a3 b3 ⊢
     refine ⟨(show 3≤sizeLine by decide),fun lp hlp=>?_⟩
     have b4:Same H7 (upd H7 lp (.lst [.ref p1,.ref p2,.ref p3])):=Zf hlp _
     have elp:(upd H7 lp (.lst [.ref p1,.ref p2,.ref p3])) lp=some (.lst [.ref p1,.ref p2,.ref p3]):=Zh
     generalize upd H7 lp (.lst [.ref p1,.ref p2,.ref p3])=H8 at b4 elp ⊢
     have m0:0≤(0+(j:Int)) % 3:=Int.emod_nonneg _ (by decide)
     have m1:(0+(j:Int)) % 3 < 3:=Int.emod_lt_of_pos _ (by decide)
     obtain ⟨sv,hsm,hsv⟩:=WI (xs:=[.ref p1,.ref p2,.ref p3]) m0 m1
     refine ⟨_,rfl,_,_,rfl,rfl,(by show (0:Int) < 3;decide),lp,_,_,_,rfl,rfl,SqL.of elp,hsv,(show 1≤sizeLine by decide),fun dq hdq=>?_⟩
     obtain ⟨e,de,se,pe⟩:∃ e,DatA K H8 sv e∧Zs e=true∧e.depth≤d.depth+1:=by
       simp only [List.mem_cons,List.not_mem_nil,or_false] at hsm
       rcases hsm with rfl | rfl | rfl
       · refine ⟨_,a1.same (b2.trans (b3.trans b4)),?_,?_⟩
         · rw [Zs,ZN,ZN,hs];decide +kernel
         · rw [PyData.depth,PyData.depthAll,PyData.depthAll,PyData.depthAll,PyData.depth];omega
       · refine ⟨_,a2.same (b3.trans b4),?_,?_⟩
         · rw [Zs,ZN,ZN,hs];decide +kernel
         · rw [PyData.depth,PyData.depthAll,PyData.depthAll,PyData.depthAll,PyData.depth];omega
       · refine ⟨_,a3.same b4,?_,?_⟩
         · rw [Zs,ZN,ZN,ZN,hs];decide +kernel
         · rw [PyData.depth,PyData.depthAll,PyData.depthAll,PyData.depthAll,PyData.depthAll,PyData.depth,PyData.depth];omega
     refine ⟨dq,_,.tuple [e],rfl,s4.trans (b1.trans (b2.trans (b3.trans (b4.trans (Zf hdq _))))),YT hdq (.cons de .nil) (show 1≤20000 by decide),?_,?_⟩
     · rw [Zs,ZN,se];rfl
     · rw [PyData.depth,PyData.depthAll,PyData.depthAll];omega
   · rintro σ H4 ⟨dp,x4,d,rfl,s4,dd,hs,hdep⟩
     have s24:Same H2 H4:=u6.trans s4
     have w1:DatA K H4 v dv:=ddv.same s24
     refine ⟨_,rfl,_,rfl,(show 1≤sizeLine by decide),fun p1 hp1=>?_⟩
     have a1:DatA K (upd H4 p1 (.tup [.str "pass"])) (.ref p1) (.tuple [.str "pass"]):=YT hp1 (.cons (.str _) .nil) (show 1≤20000 by decide)
     have b1:Same H4 (upd H4 p1 (.tup [.str "pass"])):=Zf hp1 _
     generalize upd H4 p1 (.tup [.str "pass"])=H5 at a1 b1 ⊢
     refine ⟨(show 1≤sizeLine by decide),fun p2 hp2=>?_⟩
     have a2:DatA K (upd H5 p2 (.tup [.ref p1])) (.ref p2) (.tuple [.tuple [.str "pass"]]):=YT hp2 (.cons a1 .nil) (show 1≤20000 by decide)
     have b2:Same H5 (upd H5 p2 (.tup [.ref p1])):=Zf hp2 _
     generalize upd H5 p2 (.tup [.ref p1])=H6 at a2 b2 ⊢
     dsimp only [tC]
     refine repA (K:=K) (k:=150) a2 (by decide) (by decide) fun q1 H7 s7 d7=>⟨_,rfl,(show 1≤sizeLine by decide),fun p3 hp3=>?_⟩
     have a3:DatA K (upd H7 p3 (.tup [v])) (.ref p3) (.tuple [dv]):=YT hp3 (.cons (w1.same (b1.trans (b2.trans s7))) .nil) (show 1≤20000 by decide)
     have b3:Same H7 (upd H7 p3 (.tup [v])):=Zf hp3 _
     generalize upd H7 p3 (.tup [v])=H8 at a3 b3 ⊢
     refine XB (d7.same b3) a3 (by rw [List.length_replicate];show 150+1≤20000;decide) fun c1 H9 s9 d9=>?_
     have s49:=b1.trans (b2.trans (s7.trans (b3.trans s9)))
     clear a1 a2 a3 d7
     refine ⟨(show 2≤sizeLine by decide),fun p4 hp4=>?_⟩
     have a1:DatA K (upd H9 p4 (.tup [.str "copy",.str "b"])) (.ref p4) (.tuple [.str "copy",.str "b"]):=YT hp4 (.cons (.str _) (.cons (.str _) .nil)) (show 2≤20000 by decide)
     have b4:Same H9 (upd H9 p4 (.tup [.str "copy",.str "b"])):=Zf hp4 _
     generalize upd H9 p4 (.tup [.str "copy",.str "b"])=H10 at a1 b4 ⊢
     refine ⟨(show 1≤sizeLine by decide),fun p5 hp5=>?_⟩
     have a2:DatA K (upd H10 p5 (.tup [.ref p4])) (.ref p5) (.tuple [.tuple [.str "copy",.str "b"]]):=YT hp5 (.cons a1 .nil) (show 1≤20000 by decide)
     have b5:Same H10 (upd H10 p5 (.tup [.ref p4])):=Zf hp5 _
     generalize upd H10 p5 (.tup [.ref p4])=H11 at a2 b5 ⊢
     dsimp only [tC]
     refine repA (K:=K) (k:=400) a2 (by decide) (by decide) fun q2 H12 s12 d12=>⟨_,rfl,(show 1≤sizeLine by decide),fun p6 hp6=>?_⟩
     have s412:=s49.trans (b4.trans (b5.trans s12))
     have a3:DatA K (upd H12 p6 (.tup [v])) (.ref p6) (.tuple [dv]):=YT hp6 (.cons (w1.same s412) .nil) (show 1≤20000 by decide)
     have b6:Same H12 (upd H12 p6 (.tup [v])):=Zf hp6 _
     generalize upd H12 p6 (.tup [v])=H13 at a3 b6 ⊢
     refine XB (d12.same b6) a3 (by rw [List.length_replicate];show 400+1≤20000;decide) fun c2 H14 s14 d14=>?_
     have s914:=b4.trans (b5.trans (s12.trans (b6.trans s14)))
     refine ⟨(show 3≤sizeLine by decide),fun lp hlp=>?_⟩
     have b7:Same H14 (upd H14 lp (.lst [.ref dp,.ref c1,.ref c2])):=Zf hlp _
     have dlp:DatA K (upd H14 lp (.lst [.ref dp,.ref c1,.ref c2])) (.ref lp) (.list [d,.tuple (List.replicate (150:Int).toNat (.tuple [.str "pass"])++[dv]),.tuple (List.replicate (400:Int).toNat (.tuple [.str "copy",.str "b"])++[dv])]):=.lst Zh (show 3≤20000 by decide) (.cons (dd.same (s49.trans (s914.trans b7))) (.cons (d9.same (s914.trans b7)) (.cons (d14.same b7) .nil)))
     generalize upd H14 lp (.lst [.ref dp,.ref c1,.ref c2])=H15 at b7 dlp ⊢
     have s215:Same H2 H15:=s24.trans (s49.trans (s914.trans b7))
     refine VC (dl.same s215) dlp (by show ds.length+3≤1000;omega) fun l' H16 s16 d16=>?_
     refine ⟨l',_,_,_,_,rfl,s2.trans (s215.trans s16),d16,by rw [List.length_append];show ds.length+3≤_;omega,fun e he=>?_⟩
     rcases List.mem_append.mp he with z | z
     · exact hok e z
     · simp only [List.mem_cons,List.not_mem_nil,or_false] at z
       rcases z with rfl | rfl | rfl
       · exact ⟨hs,by omega⟩
       · exact Zbx (by decide +kernel) lk1 (by decide +kernel) lk2
       · exact Zbx (by decide +kernel) lk1 (by decide +kernel) lk2
 rintro σ H2 ⟨l,x2,x3,x4,ds,rfl,s2,dl,hdl,hok⟩
 replace hdl:ds.length≤36:=hdl
 obtain ⟨l',xs,e',el,hq⟩:=Xn dl
 cases e'
 have hxl:=hq.len
 refine ⟨_,rfl,l,rfl,⟨xs,SqL.of el⟩,fun D hD=>?_⟩
 refine Zce (K:=K) (xs:=xs) (Yw (show xs.length≤1000 by omega)) (fun i ys H'=>Same H2 H'∧H' D=some (.lst ys)∧ys=(List.replicate i true).map V.bl) ⟨Zf hD _,Zh,rfl⟩ ?_ ?_ ?_
 · rintro i ys H' ⟨s5,_,rfl⟩;exact ⟨by rw [List.length_map,List.length_replicate],SqL.of (s5 _ _ el)⟩
 · rintro i v ys H' hv ⟨s5,eD,rfl⟩
   obtain ⟨d,ed,dd⟩:=hq.at hv
   obtain ⟨k1,k2⟩:=hok d (List.mem_iff_getElem?.mpr ⟨i,ed⟩)
   refine ⟨_,rfl,v,d,rfl,dd.same s5,k1,k2,fun H6 s6=>⟨s6 _ _ eD,fun b o z=>?_,Zh,?_⟩⟩
   · rw [ZA (ZL z hD)];exact s6 _ _ (s5 _ _ z)
   · rw [List.replicate_succ',List.map_append];rfl
 rintro ys H6 ⟨s6,eD,rfl⟩
 refine ⟨D,_,rfl,SqL.of eD,_,rfl,ZI ?_ ?_⟩
 · have:∀ n:Nat,(List.replicate n true).all id=true:=fun n=>by induction n with | zero=>rfl | succ n ih=>rw [List.replicate_succ,List.all_cons,ih];rfl
   rw [this];rfl
 have S0:Sep [(a,ScR K ns)] H6:=⟨H6,Same.refl H6,ZcX hS (sH.trans (s2.trans s6)),trivial⟩
 clear eD hq dl el hok s6 s2 dF dL ett sH hD
 refine ⟨(by decide),fun wl hwl=>?_⟩
 generalize hE:upd H6 wl _=H7
 have S1:Sep ((wl,YW (wds.map V.str))::[(a,ScR K ns)]) H7:=by rw [← hE];exact S0.new hwl _
 clear hE
 refine ⟨_,rfl,a,_,rfl,.inl (S1.get a),_,_,rfl,_,_,rfl,rfl,?_⟩
 rw [List.length_map]
 generalize hm:(1:Int)+(if ((ns.length:Nat):Int) < 6 then ((ns.length:Nat):Int) else 6)=m
 have hm9:0≤m∧m≤9:=by rw [← hm];split<;>omega
 refine ⟨m,congrArg (fun z=>[V.int z]) hm,by omega,by omega,?_⟩
 refine Xp (fun i σ H'=>∃ x2 x3 x4 x6 x7 x8 x9 x10,σ=[some (.ref a),some (.ref l),x2,x3,x4,some (.ref wl),x6,x7,x8,x9,x10]∧Sep [(wl,YW (wds.map V.str)),(a,ScR K ns)] H') ⟨_,_,_,_,_,_,_,_,rfl,S1⟩ ?_ ?_
 · rintro i σ H2 hi ⟨x2,x3,x4,x6,x7,x8,x9,x10,rfl,S2⟩
   refine ⟨_,rfl,_,rfl,a,ns,_,_,rfl,S2.get a,S2,by omega,by omega,fun p H3 s3 S3=>?_⟩
   refine ⟨_,rfl,p,_,4,_,rfl,S3,by omega,by decide,by decide,fun nl H4 NS S4 hNl hNS=>?_⟩
   refine ⟨_,rfl,p,_,7,_,rfl,S4.pull p,by omega,by decide,by decide,fun r3 H5 d0 d1 S5=>?_⟩
   refine ⟨_,rfl,_,rfl,_,rfl,_,rfl,(show 1≤sizeLine by decide),fun rm hrm=>?_⟩
   have S12:=S5.new hrm (.lst [.int ((150:Nat):Int)])
   rw [show (.lst [V.int 150]:HO)=.lst [.int ((150:Nat):Int)] from rfl]
   generalize upd H5 rm (.lst [.int ((150:Nat):Int)])=H12 at S12
   refine ⟨_,rfl,_,rfl,p,_,20,_,rfl,S12.pull p,by omega,by decide,by decide,fun r4 H14 e0 e1 S14=>⟨_,_,rfl,rfl,?_⟩⟩
   have hN0:NS≠[]:=fun z=>by rw [z] at hNl;simp at hNl
   refine ⟨p,nl,nl,wl,rm,_,150,r3.toNat,(1+r4).toNat,NS,NS,wds,_,by rw [show ((r3.toNat:Nat):Int)=r3 by omega,show (((1+r4).toNat:Nat):Int)=1+r4 by omega];rfl,S14,⟨fun H z=>⟨z.get nl,z.get nl,z.get wl⟩,hN0,hN0,(by decide),by rw [hNl];decide,by rw [hNl];decide,(by decide),fun x hx=>(hNS x hx).1,fun x hx=>(hNS x hx).1,(by decide +kernel)⟩,by omega,by omega,by omega,by omega,fun t H15 ps r' hps hok hh S15=>?_⟩
   have hmn:Pg.manys ps≤150:=by omega
   have hdp:=Pg.deeps ps
   have dt:DatT K H15 (.ref t) (.tuple (Pg.dats ps)):=S15.get t
   have hsh:Zs (.tuple (Pg.dats ps))=true:=by rw [Zs];exact Ui hok
   have hdd:(PyData.tuple (Pg.dats ps)).depth≤14:=by rw [PyData.depth];omega
   have hwd:Xs (.tuple (Pg.dats ps))≤1000:=by
     have h1:=WJ ps
     have h2:=Pg.len_manys ps
     rw [Xs,Pg.dats_map,List.length_map,← Pg.dats_map];omega
   refine ⟨_,rfl,.ref t,_,rfl,DatT.toA dt (by omega),hsh,by omega,fun H16 s16=>⟨_,rfl,ZI rfl ?_⟩⟩
   have S16:Sep ((p,Bx 10000)::(t,Vy K ps)::[(wl,YW (wds.map V.str)),(a,ScR K ns)]) H16:=(((((S15.mono s16).drop rm).drop nl).pull p).le (by omega))
   refine ⟨_,rfl,_,_,rfl,rfl,.inr ⟨_,rfl,_,_,rfl,rfl,.inl ⟨by decide,by decide⟩,?_⟩⟩
   obtain ⟨m2,hm2⟩:∃ z:Int,12 * (if decide (r3 < 6)=true then (1:Int) else 0)=z:=⟨_,rfl⟩
   have hm3:0≤m2∧m2≤12:=by rw [← hm2];split<;>omega
   refine ⟨m2,congrArg (fun z=>[V.int z]) hm2,by omega,by omega,?_⟩
   refine Xp (fun j σ H'=>∃ x10,σ=[some (.ref a),some (.ref l),x2,some (.int r3),x4,some (.ref wl),some (.int (0+(i:Int))),some (.ref p),some (.ref nl),some (.ref t),x10]∧Sep ((p,Bx (10000+100 * j))::(t,Vy K ps)::[(wl,YW (wds.map V.str)),(a,ScR K ns)]) H') ⟨_,rfl,S16⟩ ?_ ?_
   · rintro j σ H17 hj ⟨x10,rfl,S17⟩
     refine ⟨_,rfl,_,rfl,p,_,_,.ref t,_,rfl,S17,S17.get t,hsh,hwd,by omega,by decide,by omega,fun v' d' H18 hA hs' hd' S18=>?_⟩
     exact ⟨v',d',rfl,hA,hs',by omega,fun H19 s19=>⟨_,rfl,ZI rfl ⟨_,rfl,(S18.le (by omega)).mono s19⟩⟩⟩
   · rintro σ H17 ⟨x10,rfl,S17⟩
     exact ⟨_,_,_,_,_,_,_,_,rfl,S17.tail.tail⟩
 · rintro σ H' ⟨x2,x3,x4,x6,x7,x8,x9,x10,rfl,S'⟩
   exact q H'
end
end K54
set_option maxHeartbeats 4000000
namespace K54
open PySem L2
abbrev Zde (P:Program)(w:World)(K:PySem.W.Frag)(mg:Str→Option Value)(base:Heap):Prop:=Def P w K mg base 1 "_law_take" ["_law_box_here","_law_many"] (Wx 4611686018427387904)
section
variable {P:Program}{w:World}{K:PySem.W.Frag}{mg:Str→Option Value}{base:Heap}
abbrev vSigns:Str:=Zdl (Wi s_l_value)
theorem vs_len:vSigns.length=94:=by decide +kernel
theorem Zep:vSigns.cps.toList.all Yv=true:=by decide +kernel
abbrev nVv:List Str:=["_law_box_here","_law_way","_law_signs"]
theorem scVal:ZD nVv ["_law_box_here"] (Zo s_l_value):=⟨rfl,rfl,rfl,by decide +kernel,rfl,by decide +kernel,by decide +kernel⟩
theorem Zcw {f:Addr}{fd:FuncData}(F:Fun K "_law_value" "_law_value" s_l_value f fd)(T:Yj mg)(D:Zde P w K mg base):FnOk P w K mg base Yb 2 f fd ["_law_box_here"] Zat:=by
 refine F.ok scVal (fun vs H Q E h=>?_) (fun cdv A outer s H vs Q E hr h=>?_)
 · obtain ⟨p,n,rfl,_⟩:=h;rfl
 obtain ⟨p,n,rfl,hB,hn,q⟩:=h
 refine ⟨_,Ze (Zy (i:=1) scVal.nd rfl (Or.inl rfl) (Zr D hr (Zc (pv 0) (Zc Zb Za))))
   (Ze (ZF (Zp Zbn (pv 1) Zb (Zt _)) (Zi (Zm (Zk XD (Zr D hr (Zc (pv 0) (Zc Zb Za))) Zb))) Zq)
   (Ze (ZF (Zp ZV (pv 1) Zb (Zt _)) (Zi (Zm (Zz ZH (YI (Yk (Zk XD (Zk Wv Zb Zb) Zb) (Yk (Zk XD Zb (Zk Wv Zb Zb)) (Yk (Zk Wv Zb Zb) (Yk Zb Za rfl) rfl) rfl) rfl)) (Zr D hr (Zc (pv 0) (Zc Zb Za))) (fun _ _=>rfl)))) Zq)
   (Ze (ZF (Zp ZV (pv 1) Zb (Zt _)) (Zi (Zm (Zz ZH (YI (Yk Zl (Yk Zl (Yk Zl (Yk Zl (Yk Zl (Yk Zl (Yk Zl (Yk Zl Za rfl) rfl) rfl) rfl) rfl) rfl) rfl) rfl)) (Zr D hr (Zc (pv 0) (Zc Zb Za))) (fun _ _=>rfl)))) Zq)
   (Ze (Zy (i:=2) scVal.nd rfl (Or.inr rfl) Zl)
   (Zi (Zm (Vf PySem.F.plainAttrs_str PySem.F.slot_str_join PySem.F.type_str_join Zac Zl (Zc (YF (CompOk.of nVv s_l_value rfl rfl (by decide +kernel)) rfl
     (YH rfl T.range (Zc (Zr D hr (Zc (pv 0) (Zc (Vz (Zp ZV (pv 1) Zb (Zt _)) Zb Zb) Za))) Za))
     (fun _ _ _ _ _=>Zz Uq (pv 2) (Zr D hr (Zc (pv 0) (Zc (Zj (ZbW (K:=K) rfl) rfl T.len PySem.boot_len (Zc (pv 2) Za)) Za))) (fun _ _=>rfl))) Za)))))))),?_⟩
 refine ⟨_,rfl,p,n,6,rfl,hB,by omega,by decide,by decide,fun r1 H1 a0 a1 B1 k1=>?_⟩
 refine ⟨_,rfl,_,_,rfl,rfl,_,rfl,Wk (fun c=>?_) (fun c=>?_)⟩
 · refine ⟨_,rfl,p,n+1,7,rfl,B1,by omega,by decide,by decide,fun r2 H2 b0 b1 B2 k2=>⟨_,_,rfl,rfl,?_⟩⟩
   exact q _ _ (by show (r2 - 3).natAbs≤10 ^ 31;omega) (B2.le (by omega)) (k1.trans k2)
 refine ⟨_,rfl,rfl,_,rfl,Wk (fun c2=>?_) (fun c2=>?_)⟩
 · refine ⟨_,_,rfl,rfl,⟨by decide,by decide,by decide⟩,_,_,rfl,rfl,_,_,rfl,rfl,⟨by decide,by decide,by decide⟩,_,_,rfl,rfl,_,_,rfl,rfl,⟨by decide,by decide,by decide⟩,(by show 4≤sizeLine;decide),fun l hl=>?_⟩
   have hne:l≠p:=fun e=>by obtain ⟨_,_,_,z,_⟩:=B1;rw [e,z] at hl;cases hl
   refine ⟨_,rfl,p,n+1,4,rfl,B1.same (Zf hl _),by omega,by decide,by decide,fun r2 H2 b0 b1 B2 k2=>?_⟩
   obtain ⟨v,hv,hm⟩:=Uy (xs:=([.int (10 ^ (30:Int).toNat - 1),.int (1 - 10 ^ (30:Int).toNat),.int (10 ^ (29:Int).toNat),.int 0]:List V)) b0 b1
   refine ⟨l,_,_,v,rfl,rfl,SqL.of (k2 l _ hne Zh),hv,q _ _ ?_ (B2.le (by omega)) (k1.trans ((Zf hl _).kp p |>.trans k2))⟩
   have all:(([.int (10 ^ (30:Int).toNat - 1),.int (1 - 10 ^ (30:Int).toNat),.int (10 ^ (29:Int).toNat),.int 0]:List V)).all ZaI=true:=by decide +kernel
   exact VB (List.all_eq_true.mp all v hm)
 refine ⟨_,rfl,rfl,_,rfl,Wk (fun c3=>?_) (fun c3=>?_)⟩
 · refine ⟨(by show 8≤sizeLine;decide),fun l hl=>?_⟩
   have hne:l≠p:=fun e=>by obtain ⟨_,_,_,z,_⟩:=B1;rw [e,z] at hl;cases hl
   refine ⟨_,rfl,p,n+1,8,rfl,B1.same (Zf hl _),by omega,by decide,by decide,fun r2 H2 b0 b1 B2 k2=>?_⟩
   obtain ⟨v,hv,hm⟩:=Uy (xs:=([.str "",.str "0",.str "-1",.str "a",.str "none",.str "'",.str "\\", .str " "]:List V)) b0 b1
   refine ⟨l,_,_,v,rfl,rfl,SqL.of (k2 l _ hne Zh),hv,q _ _ ?_ (B2.le (by omega)) (k1.trans ((Zf hl _).kp p |>.trans k2))⟩
   have all:(([.str "",.str "0",.str "-1",.str "a",.str "none",.str "'",.str "\\", .str " "]:List V)).all ZaI=true:=by decide +kernel
   exact VB (List.all_eq_true.mp all v hm)
 refine ⟨rfl,?_⟩
 have fin:∀ (r2:Int) (H2:Hp),0≤r2→r2 < 41→BoxAt H2 p (n+2)→Kp p H1 H2→∃ j:Int,[V.int r2]=[.int j]∧-(2 ^ 62)≤j∧j < 2 ^ 62∧∀ D,H2 D=none→Xu (Ud 0 j.toNat)
     (tOp rIxS (VR 2) (Zbo (Wx 4611686018427387904) [] E0 (Xl (VR 0) (Xl (tCB (fun xs H Q=>∃ x n,xs=[x]∧ZcB K x H n∧Q (.int n) H) (Xl (VR 2) Uw)) Uw))))
     [some (.ref p),some (.int r1),some (.str vSigns)] D (fun x H3=>∃ sep a ys,V.str ""=.str sep∧[x]=[.ref a]∧SqL K H3 a (ys.map V.str)∧(ys.map (·.length)).sum+ys.length * sep.length≤16777216∧Q (.str (Txt.join sep ys)) H3) H2:=by
   intro r2 H2 b0 b1 B2 k2
   refine ⟨r2,rfl,by omega,by omega,fun Dl hD=>?_⟩
   have hne:Dl≠p:=fun e=>by obtain ⟨_,_,_,z,_⟩:=B2;rw [e,z] at hD;cases hD
   refine Zbk (Nat.le_trans (show r2.toNat≤1000 by omega) (WQ (Nat.le_refl _)))
     (fun i ys H'=>∃ zs:List Str,ys=zs.map V.str∧zs.length=i∧(∀ z∈zs,∃ c,z=⟨#[c]⟩∧Yv c=true)∧H' Dl=some (.lst ys)∧BoxAt H' p (n+2+i)∧Kp p H1 H'∧i≤r2.toNat)
     ⟨[],rfl,rfl,(fun _ h=>nomatch h),Zh,B2.same (Zf hD _),k2.trans ((Zf hD _).kp p),Nat.zero_le _⟩ ?_ ?_ ?_
   · rintro i ys H' ⟨zs,rfl,hz,_⟩;rw [List.length_map];exact hz
   · rintro i ys H' hi ⟨zs,rfl,hz,hall,hDl,B',k',_⟩
     refine ⟨_,rfl,_,rfl,_,rfl,_,94,rfl,⟨by rw [vs_len];decide,vs_len.symm⟩,p,n+2+i,94,rfl,B',by omega,by decide,by decide,fun r3 H3 d0 d1 B3 k3=>?_⟩
     have hl:vSigns.cps.toList.length=94:=by rw [← Yl];exact vs_len
     obtain ⟨c,hc,hm⟩:=Uy (xs:=vSigns.cps.toList) d0 (by rw [hl];exact d1)
     refine ⟨vSigns,r3,c,rfl,rfl,(by rw [vs_len];decide),hc,k3 Dl _ hne hDl,zs++[⟨#[c]⟩],by rw [List.map_append];rfl,by rw [List.length_append,hz];rfl,?_,Zh,?_,fun b o nb e=>?_,hi⟩
     · intro z hz'
       rcases List.mem_append.mp hz' with h | h
       · exact hall z h
       · rw [List.mem_singleton.mp h];exact ⟨c,rfl,List.all_eq_true.mp Zep c hm⟩
     · obtain ⟨x1,x2,x3,x4,x5⟩:=B3
       exact ⟨x1,x2,x3,by rw [ZA hne.symm];exact x4,x5⟩
     · rw [ZA (ZL (k2 b o nb e) hD)];exact k3 b o nb (k' b o nb e)
   · rintro ys H' ⟨zs,rfl,hz,hall,hDl,B',k',_⟩
     have ones:∀ l:List Str,(∀ z∈l,∃ c,z=⟨#[c]⟩∧Yv c=true)→(l.map (·.length)).sum=l.length∧(l.flatMap (·.cps.toList)).length=l.length∧(l.flatMap (·.cps.toList)).all Yv=true:=by
       intro l
       induction l with
       | nil=>intro _;exact ⟨rfl,rfl,rfl⟩
       | cons z r ih =>
         intro h
         obtain ⟨c,rfl,hc⟩:=h z List.mem_cons_self
         obtain ⟨g1,g2,g3⟩:=ih fun y hy=>h y (List.mem_cons_of_mem _ hy)
         refine ⟨?_,?_,?_⟩
         · rw [List.map_cons,List.sum_cons,g1,List.length_cons];show 1+_=_;omega
         · have e0:((⟨#[c]⟩:Str)::r).flatMap (·.cps.toList)=c::r.flatMap (·.cps.toList):=rfl
           rw [e0,List.length_cons,List.length_cons,g2]
         · rw [List.flatMap_cons,List.all_append,g3];simp [hc]
     obtain ⟨g1,g2,g3⟩:=ones zs hall
     refine ⟨_,Dl,zs,rfl,rfl,SqL.of hDl,?_,q _ _ ⟨?_,?_⟩ (B'.le (by omega)) (k1.trans k')⟩
     · rw [g1];show _+_ * 0≤_;omega
     · rw [Yl];show (Txt.join (Str.ofString "") zs).cps.toList.length≤41;rw [Xt,g2];omega
     · show (Txt.join (Str.ofString "") zs).cps.toList.all Yv=true;rw [Xt];exact g3
 refine ⟨_,rfl,_,rfl,rfl,_,rfl,Wk (fun c4=>?_) (fun c4=>?_)⟩
 · exact ⟨p,n+1,4,rfl,B1,by omega,by decide,by decide,fun r2 H2 b0 b1 B2 k2=>fin r2 H2 b0 (by omega) B2 k2⟩
 · exact ⟨p,n+1,41,rfl,B1,by omega,by decide,by decide,fun r2 H2 b0 b1 B2 k2=>fin r2 H2 b0 (by omega) B2 k2⟩
end
end K54
set_option maxHeartbeats 4000000
namespace K54
open PySem L2
open PySem.W in
theorem all_mk {l:PySem.W.OpenLaw}{w:World}{K:PySem.W.Frag}{h:Heap}{mg:Str→Option Value}{fa:Addr}
   {f_z0 f_z1 f_z2 f_z3 f_z4 f_z5 f_z6 f_z7 f_z8 f_z9 f_z10 f_z11 f_z12 f_z13 f_z14 f_z15 f_z16 f_z17 f_z18 f_z19 f_z20 f_z21:Addr} {d_z0 d_z1 d_z2 d_z3 d_z4 d_z5 d_z6 d_z7 d_z8 d_z9 d_z10 d_z11 d_z12 d_z13 d_z14 d_z15 d_z16 d_z17 d_z18 d_z19 d_z20 d_z21:FuncData} (X:K.In h) (G:h.Ns mainGlobals mg) (hfa:mg "law"=some (.ref fa))
   (h_z0:FG K "kinds_of" s_kinds_of f_z0 d_z0)
   (h_z1:FG K "is_name" s_is_name f_z1 d_z1)
   (h_z2:FG K "is_number" s_is_number f_z2 d_z2)
   (h_z3:FG K "is_value" s_is_value f_z3 d_z3)
   (h_z4:FG K "is_of_kind" s_is_of_kind f_z4 d_z4)
   (h_z5:FG K "is_step" s_is_step f_z5 d_z5)
   (h_z6:FG K "is_program" s_is_program f_z6 d_z6)
   (h_z7:FG K "_law_cell_at" s_l_cell_at f_z7 d_z7)
   (h_z8:FG K "_law_box" s_l_box f_z8 d_z8)
   (h_z9:FG K "_law_take" s_l_take f_z9 d_z9)
   (h_z10:FG K "_law_names" s_l_names f_z10 d_z10)
   (h_z11:FG K "_law_value" s_l_value f_z11 d_z11)
   (h_z12:FG K "_law_step" s_l_step f_z12 d_z12)
   (h_z13:FG K "_law_program" s_l_program f_z13 d_z13)
   (h_z14:FG K "_law_is_name" s_l_is_name f_z14 d_z14)
   (h_z15:FG K "_law_is_value" s_l_is_value f_z15 d_z15)
   (h_z16:FG K "_law_is_step" s_l_is_step f_z16 d_z16)
   (h_z17:FG K "_law_is_program" s_l_is_program f_z17 d_z17)
   (h_z18:FG K "_law_odd" s_l_odd f_z18 d_z18)
   (h_z19:FG K "_law_bent" s_l_bent f_z19 d_z19)
   (h_z20:FG K "_law_right" s_l_right f_z20 d_z20)
   (h_z21:FG K "law" s_law f_z21 d_z21)
   (z_len:PySem.W.nsIn K mainGlobals "len"=some none)
   (z_abs:PySem.W.nsIn K mainGlobals "abs"=some none)
   (z_int:PySem.W.nsIn K mainGlobals "int"=some none)
   (z_range:PySem.W.nsIn K mainGlobals "range"=some none)
   (z_min:PySem.W.nsIn K mainGlobals "min"=some none)
   (z_max:PySem.W.nsIn K mainGlobals "max"=some none)
   (z_repr:PySem.W.nsIn K mainGlobals "repr"=some none)
   (z_enumerate:PySem.W.nsIn K mainGlobals "enumerate"=some none)
   (z_ord:PySem.W.nsIn K mainGlobals "ord"=some none)
   (z_list:PySem.W.nsIn K mainGlobals "list"=some none)
   (z_tuple:PySem.W.nsIn K mainGlobals "tuple"=some none)
   (z_dict:PySem.W.nsIn K mainGlobals "dict"=some none)
   (z_sorted:PySem.W.nsIn K mainGlobals "sorted"=some none)
   (z_sum:PySem.W.nsIn K mainGlobals "sum"=some none)
   (z_all:PySem.W.nsIn K mainGlobals "all"=some none)
   (z_any:PySem.W.nsIn K mainGlobals "any"=some none)
   (z_divmod:PySem.W.nsIn K mainGlobals "divmod"=some none)
   (z_str:PySem.W.nsIn K mainGlobals "str"=some none)
   (z_isinstance:PySem.W.nsIn K mainGlobals "isinstance"=some none)
   (z_set:PySem.W.nsIn K mainGlobals "set"=some none)
   (z_zip:PySem.W.nsIn K mainGlobals "zip"=some none)
   (z_reversed:PySem.W.nsIn K mainGlobals "reversed"=some none)
   (z_bool:PySem.W.nsIn K mainGlobals "bool"=some none)
   {dk:Addr}
   (kd:PySem.W.nsIn K mainGlobals "KINDS"=some (some (.ref dk)))
   {kb0 kb1 kb2 kb3 kb4 kb5 kb6 kb7:Addr} {kh0 kh1 kh2 kh3 kh4 kh5 kh6 kh7:Int} {kt0 kt1 kt2 kt3 kt4 kt5 kt6 kt7:Tok} {kep:Nat}
   (kl:K.lookup dk=some ⟨.type "dict",none,.dict #[⟨kh0,.str "set" kt0,.ref kb0⟩,⟨kh1,.str "look" kt1,.ref kb1⟩,⟨kh2,.str "back" kt2,.ref kb2⟩,⟨kh3,.str "begin" kt3,.ref kb3⟩,⟨kh4,.str "late" kt4,.ref kb4⟩,⟨kh5,.str "copy" kt5,.ref kb5⟩,⟨kh6,.str "in" kt6,.ref kb6⟩,⟨kh7,.str "pass" kt7,.ref kb7⟩] kep,#[]⟩)
   (ks:(dk == PySem.sysModules)=false)
   {ku0_0 ku0_1 ku0_2:Tok} {kn0:Nat} {kq0:Option Addr} {ko0:Array (Option Value)}
   (km0:K.lookup kb0=some ⟨.type "tuple",kq0,.seq #[.str "name" ku0_0,.str "value" ku0_1,.str "slot" ku0_2] kn0,ko0⟩)
   {ku1_0:Tok} {kn1:Nat} {kq1:Option Addr} {ko1:Array (Option Value)}
   (km1:K.lookup kb1=some ⟨.type "tuple",kq1,.seq #[.str "name" ku1_0] kn1,ko1⟩)
   {ku2_0:Tok} {kn2:Nat} {kq2:Option Addr} {ko2:Array (Option Value)}
   (km2:K.lookup kb2=some ⟨.type "tuple",kq2,.seq #[.str "slot" ku2_0] kn2,ko2⟩)
   {ku3_0:Tok} {kn3:Nat} {kq3:Option Addr} {ko3:Array (Option Value)}
   (km3:K.lookup kb3=some ⟨.type "tuple",kq3,.seq #[.str "program" ku3_0] kn3,ko3⟩)
   {ku4_0:Tok} {kn4:Nat} {kq4:Option Addr} {ko4:Array (Option Value)}
   (km4:K.lookup kb4=some ⟨.type "tuple",kq4,.seq #[.str "program" ku4_0] kn4,ko4⟩)
   {ku5_0:Tok} {kn5:Nat} {kq5:Option Addr} {ko5:Array (Option Value)}
   (km5:K.lookup kb5=some ⟨.type "tuple",kq5,.seq #[.str "slot" ku5_0] kn5,ko5⟩)
   {ku6_0 ku6_1:Tok} {kn6:Nat} {kq6:Option Addr} {ko6:Array (Option Value)}
   (km6:K.lookup kb6=some ⟨.type "tuple",kq6,.seq #[.str "slot" ku6_0,.str "program" ku6_1] kn6,ko6⟩)
   {kn7:Nat} {kq7:Option Addr} {ko7:Array (Option Value)}
   (km7:K.lookup kb7=some ⟨.type "tuple",kq7,.seq #[] kn7,ko7⟩)
   {tl:Tok}
   (gLN:PySem.W.nsIn K mainGlobals "LONGEST_NAME"=some (some (.int 8 tl))) :
   ∃ fd:FuncData,(∀ (s:Shared) (v:Value),BindsTo s fd ⟨[v],[]⟩ [("_law_script",v)])∧∀ base:Heap,K.In base→base.Ns mainGlobals mg→UP base mg→FnOk l.prog w K mg base Yb 51 fa fd ["_law_script"] (Vg K):=by
 have e:=hfa.symm.trans (mg_of X G h_z21.a)
 cases e
 have n_len:=mg_none_of X G z_len
 have n_abs:=mg_none_of X G z_abs
 have n_int:=mg_none_of X G z_int
 have n_range:=mg_none_of X G z_range
 have n_min:=mg_none_of X G z_min
 have n_max:=mg_none_of X G z_max
 have n_repr:=mg_none_of X G z_repr
 have n_enumerate:=mg_none_of X G z_enumerate
 have n_ord:=mg_none_of X G z_ord
 have n_list:=mg_none_of X G z_list
 have n_tuple:=mg_none_of X G z_tuple
 have n_dict:=mg_none_of X G z_dict
 have n_sorted:=mg_none_of X G z_sorted
 have n_sum:=mg_none_of X G z_sum
 have n_all:=mg_none_of X G z_all
 have n_any:=mg_none_of X G z_any
 have n_divmod:=mg_none_of X G z_divmod
 have n_str:=mg_none_of X G z_str
 have n_isinstance:=mg_none_of X G z_isinstance
 have n_set:=mg_none_of X G z_set
 have n_zip:=mg_none_of X G z_zip
 have n_reversed:=mg_none_of X G z_reversed
 have n_bool:=mg_none_of X G z_bool
 have g_kd:=mg_of X G kd
 have g_gLN:=mg_of X G gLN
 have TB:Yj mg:=⟨n_len,n_abs,n_int,n_range,n_min,n_max,n_repr,n_enumerate,n_ord,n_list,n_tuple,n_dict,n_sorted,n_sum,n_all,n_any,n_divmod,n_str,n_isinstance,n_set,n_zip,n_reversed,n_bool⟩
 have TK:KDic K dk Yo:=⟨ks,_,_,_,kl,⟨rfl,rfl,rfl⟩,rfl,(.cons rfl ⟨_,rfl,_,_,_,km0,rfl,rfl,(show 3≤PySem.sizeLine by decide),(.cons ⟨_,rfl⟩ (.cons ⟨_,rfl⟩ (.cons ⟨_,rfl⟩ .nil)))⟩ (.cons rfl ⟨_,rfl,_,_,_,km1,rfl,rfl,(show 1≤PySem.sizeLine by decide),(.cons ⟨_,rfl⟩ .nil)⟩ (.cons rfl ⟨_,rfl,_,_,_,km2,rfl,rfl,(show 1≤PySem.sizeLine by decide),(.cons ⟨_,rfl⟩ .nil)⟩ (.cons rfl ⟨_,rfl,_,_,_,km3,rfl,rfl,(show 1≤PySem.sizeLine by decide),(.cons ⟨_,rfl⟩ .nil)⟩ (.cons rfl ⟨_,rfl,_,_,_,km4,rfl,rfl,(show 1≤PySem.sizeLine by decide),(.cons ⟨_,rfl⟩ .nil)⟩ (.cons rfl ⟨_,rfl,_,_,_,km5,rfl,rfl,(show 1≤PySem.sizeLine by decide),(.cons ⟨_,rfl⟩ .nil)⟩ (.cons rfl ⟨_,rfl,_,_,_,km6,rfl,rfl,(show 2≤PySem.sizeLine by decide),(.cons ⟨_,rfl⟩ (.cons ⟨_,rfl⟩ .nil))⟩ (.cons rfl ⟨_,rfl,_,_,_,km7,rfl,rfl,(show 0≤PySem.sizeLine by decide),.nil⟩ .nil))))))))⟩
 refine ⟨d_z21,fun s v=>ZbX h_z21.F (fun _ _ _ _ _ _ _=>rfl) s v,fun base _ _ hBm=>?_⟩
 have e:Bs l.prog w K mg base h:=⟨X,G⟩
 have D_z0:=h_z0.df e (ZcU h_z0.F TK g_kd) (h_z0.F.b1 fun _ _ _ _ _ _ _=>rfl)
 have D_z1:=h_z1.df e (ZbU h_z1.F TB g_gLN) (h_z1.F.b1 fun _ _ _ _ _ _ _=>rfl)
 have D_z2:=h_z2.df e (VW h_z2.F TB) (h_z2.F.b1 fun _ _ _ _ _ _ _=>rfl)
 have D_z3:=h_z3.df e (ZaT h_z3.F TB D_z2) (h_z3.F.b1 fun _ _ _ _ _ _ _=>rfl)
 have b_z4:Binds K d_z4 ["thing","kind"] []:=h_z4.F.b2 fun _ _ _ _ _ _ _ _=>rfl
 have B_is_of_kind:=b_z4
 have b_z5:Binds K d_z5 ["thing"] []:=h_z5.F.b1 fun _ _ _ _ _ _ _=>rfl
 have B_is_step:=b_z5
 have b_z6:Binds K d_z6 ["thing"] []:=h_z6.F.b1 fun _ _ _ _ _ _ _=>rfl
 have D_z6:Def l.prog w K mg base 39 "is_program" WZ (Xk K 12):=⟨_,_,ZbO h_z6.F h_z5.F h_z4.F TB b_z6 h_z6.F.kp (mg_of X G h_z6.a) b_z5 h_z5.F.kp (mg_of X G h_z5.a) b_z4 h_z4.F.kp (mg_of X G h_z4.a) D_z0 D_z3 D_z1 12,b_z6,h_z6.F.kp,(mg_of X G h_z6.a)⟩
 have D_z7:=h_z7.df e (Zdz h_z7.F TB) (h_z7.F.b2 fun _ _ _ _ _ _ _ _=>rfl)
 have D_z8:=h_z8.df e (FnOk.conv (sp':=VQ K) (Zeb h_z8.F TB D_z7) (fun _ _ _ _ h=>ZeX h)) (h_z8.F.b2 fun _ _ _ _ _ _ _ _=>rfl)
 have b_z9:Binds K d_z9 ["_law_box_here","_law_many"] []:=h_z9.F.b2 fun _ _ _ _ _ _ _ _=>rfl
 have DT0:Zde l.prog w K mg base:=⟨_,_,Zdy h_z9.F,b_z9,h_z9.F.kp,(mg_of X G h_z9.a)⟩
 have D_z9:UX l.prog w K mg base 1:=DT0.conv fun _ _ _ _ h=>ZeD h
 have D_z10:=h_z10.df e (ZcR h_z10.F TB D_z9) (h_z10.F.b2 fun _ _ _ _ _ _ _ _=>rfl)
 have D_z11:=h_z11.df e (FnOk.conv (sp':=Wn) (Zcw h_z11.F TB DT0) (fun _ _ _ _ h=>ZdJ h)) (h_z11.F.b1 fun _ _ _ _ _ _ _=>rfl)
 have b_z12:Binds K d_z12 ["_law_box_here","_law_names_here","_law_slots","_law_words","_law_room","_law_deep"] []:=h_z12.F.b6 fun _ _ _ _ _ _ _ _ _ _ _ _=>rfl
 have B_law_step:=b_z12
 have b_z13:Binds K d_z13 ["_law_box_here","_law_names_here","_law_slots","_law_words","_law_room","_law_deep","_law_many"] []:=h_z13.F.b7 fun _ _ _ _ _ _ _ _ _ _ _ _ _=>rfl
 have D_z13:Def l.prog w K mg base 17 "_law_program" WY (Ur K 7):=⟨_,_,Vk h_z12.F h_z13.F TB b_z12 h_z12.F.kp (mg_of X G h_z12.a) b_z13 h_z13.F.kp (mg_of X G h_z13.a) (D_z9.mono (by decide)) D_z11 7,b_z13,h_z13.F.kp,(mg_of X G h_z13.a)⟩
 have D_z14:=h_z14.df e (ZcH h_z14.F TB) (h_z14.F.b1 fun _ _ _ _ _ _ _=>rfl)
 have D_z15:=h_z15.df e (ZbH h_z15.F TB) (h_z15.F.b1 fun _ _ _ _ _ _ _=>rfl)
 have b_z16:Binds K d_z16 ["_law_thing"] []:=h_z16.F.b1 fun _ _ _ _ _ _ _=>rfl
 have B_law_is_step:=b_z16
 have b_z17:Binds K d_z17 ["_law_thing"] []:=h_z17.F.b1 fun _ _ _ _ _ _ _=>rfl
 have D_z17:Def l.prog w K mg base 27 "_law_is_program" Ua (Xk K 12):=⟨_,_,Zdr h_z17.F h_z16.F TB b_z17 h_z17.F.kp (mg_of X G h_z17.a) b_z16 h_z16.F.kp (mg_of X G h_z16.a) D_z14 D_z15 12 (by decide),b_z17,h_z17.F.kp,(mg_of X G h_z17.a)⟩
 have D_z18:=h_z18.df e (Zez h_z18.F TB D_z9) (h_z18.F.b1 fun _ _ _ _ _ _ _=>rfl)
 have b_z19:Binds K d_z19 ["_law_box_here","_law_thing"] []:=h_z19.F.b2 fun _ _ _ _ _ _ _ _=>rfl
 have D_z19:Def l.prog w K mg base 22 "_law_bent" WU (Wz K 20):=⟨_,_,Zae h_z19.F TB b_z19 h_z19.F.kp (mg_of X G h_z19.a) (D_z9.mono (by decide)) D_z18 20,b_z19,h_z19.F.kp,(mg_of X G h_z19.a)⟩
 have D_z20:=h_z20.df e (ZcC h_z20.F TB (D_z17.mono (by decide)) D_z6) (h_z20.F.b1 fun _ _ _ _ _ _ _=>rfl)
 exact Zeq h_z21.F TB (D_z9.mono (by decide)) (D_z8.mono (by decide)) (D_z10.mono (by decide)) (D_z13.mono (by decide)) (D_z20.mono (by decide)) (D_z19.mono (by decide))
theorem walk {l:PySem.W.OpenLaw}{q:Program}{loose:List Str}{XP:(Str→Option Value)→Heap→Prop}{YP:World→Heap→Prop}{d:DefRec}{K:Params→PySem.W.Frag}{ts:List Addr}(hn:l.most=some 63)(hdf:d.params.defaults=[])
   (hY:∀ (w:World) (h:Heap),YP w h→(K w.params).In h∧∀ b∈ts,h.get? b=some (PySem.W.tabObj #[]))
   (hK:∀ (w:World) (b:Addr),b∈ts→(K w.params).lookup b=none∧∃ c,PySem.W.codeHdIn (K w.params) c b=true)
   (F:∀ (w:World) (mg:Str→Option Value) (fa:Addr) (h:Heap),(K w.params).In h→h.Ns mainGlobals mg→mg d.name=some (.ref fa) →
     ∃ fd:FuncData,(∀ (s:Shared) (u:Value),BindsTo s fd ⟨[u],[]⟩ [("_law_script",u)])∧∀ base:Heap,(K w.params).In base→base.Ns mainGlobals mg→UP base mg→FnOk l.prog w (K w.params) mg base Yb 51 fa fd ["_law_script"] (Vg (K w.params))) :
   PySem.W.WalkO q loose XP YP l.row.toRowW d [] (fun f vs=>PySem.call f vs) :=
 L2.walk_ofT (n:=63) (k:=51) (x:="_law_script") (CX:=fun _=>Yb) (sp:=fun w=>Vg (K w.params)) (ts:=ts) hn (by decide) hdf ⟨rfl,by decide,by decide,rfl⟩ hY hK F (fun w H a ns hl hO hS hT=>⟨a,ns,rfl,hS,hl,fun _=>rfl⟩) fun _ _ _ _ _ z=>z
end K54
namespace PySem.W.Fast
end PySem.W.Fast
open PySem PySem.W PyProof.Rows
set_option maxRecDepth 100000 in
set_option maxHeartbeats 0 in
theorem PySem.Challenge.cw_roadsettings_k54_programs_or_not_holds : PySem.Challenge.rw_roadsettings_k54_programs_or_not.Holds := by
  w_on; o_law; k_head; (case hw => w_witness2)
  k_fill
  refine' K54.walk (l := PySem.Challenge.rw_roadsettings_k54_programs_or_not) (ts := []) rfl rfl (fun w h Y => ⟨PySem.W.kIn_of Y, fun b hb => absurd hb (by simp)⟩) ?hK  ?F
  case hK =>
    intro w b hb
    exact absurd hb (by simp)
  case F =>
    intro w mg fa h KX G hmg
    refine' K54.all_mk KX G hmg ?_ ?_ ?_ ?_ ?_ ?_ ?_ ?_ ?_ ?_ ?_ ?_ ?_ ?_ ?_ ?_ ?_ ?_ ?_ ?_ ?_ ?_ ?_ ?_ ?_ ?_ ?_ ?_ ?_ ?_ ?_ ?_ ?_ ?_ ?_ ?_ ?_ ?_ ?_ ?_ ?_ ?_ ?_ ?_ ?_ ?_ ?_ ?_ ?_ ?_ ?_ ?_ ?_ ?_ ?_ ?_ ?_
    all_goals try (first | refine ⟨⟨by k_is, by k_is, by k_is⟩, ⟨_, _, _, _, _, _, _, _, _, rfl, by k_is, by k_is⟩, by k_is⟩ | refine ⟨by k_is, ⟨_, _, _, _, _, _, _, _, _, rfl, by k_is, by k_is⟩, by k_is⟩ | refine ⟨by k_is, ⟨by k_is, by k_is, by k_is, by k_is⟩, by k_is, by k_is⟩ | refine ⟨⟨by k_is, by k_is, by k_is⟩, ⟨_, _, _, _, _, _, _, _, rfl, by k_is, by k_is⟩, by k_is, by kernel_rfl⟩ | refine ⟨by k_is, ⟨_, _, _, _, _, _, _, _, rfl, by k_is, by k_is⟩, by k_is, by kernel_rfl⟩ | (show _ = _; first | k_is | kernel_rfl))
