import PyProof.Rows.All
import Wide.All
import OpenK.AllK
import Wide.FinOn
import Lean
import PyProof.EqAt
import PyProof.EqKinds
import PyProof.TupleCall
import PyProof.AutoListH
import KE.KEqDict
import PyProof.SetKind
import PyProof.Rows.SetFrom
import PyProof.FactsAll.set_2
import PySem.Challenge.RW_roadsettings_k14_shapes_by_any_road
set_option Elab.async false
set_option linter.all false
set_option maxRecDepth 100000
abbrev KF:=PySem.W.Frag
abbrev Zv:=PySem.Value→PySem.Shared→Prop
namespace L2
open PySem PySem.Spec PyProof.Rows
abbrev Zk:=Sum Int Str
def YQ:Zk→Value→Bool
 | .inl k,v=>Value.isInt k v
 | .inr x,v=>Value.isStrOf x v
def keyH (w:World):Zk→Int
 | .inl k=>hashInt k
 | .inr x=>hashStr w x
theorem ZP:∀{k:Zk}{v:Value},YQ k v=true→(∃ i t,k=Sum.inl i∧v=Value.int i t)∨(∃ x t,k=Sum.inr x∧v=Value.str x t)
 | .inl i,v,h=>by
   obtain ⟨t,e⟩:=Value.isInt_shape (k:=i) (v:=v) h
   exact .inl ⟨i,t,rfl,e⟩
 | .inr x,v,h=>by
   obtain ⟨t,e⟩:=Value.isStrOf_shape (x:=x) (v:=v) h
   exact .inr ⟨x,t,rfl,e⟩
theorem Zhe (i:Int)(t:Tok):YQ (.inl i) (.int i t)=true:=by simp [YQ,Value.isInt]
theorem ZgM (x:Str)(t:Tok):YQ (.inr x) (.str x t)=true:=by simp [YQ,Value.isStrOf]
theorem Zmo (a b:Int):decide ((Sum.inl a:Zk)=Sum.inl b)=(a == b):=by
 by_cases e:a=b
 · subst e;simp
 · have h:¬ (Sum.inl a:Zk)=Sum.inl b:=fun q=>e (Sum.inl.inj q)
   rw [decide_eq_false h]
   exact (beq_eq_false_iff_ne.mpr e).symm
theorem Zlg (a b:Str):decide ((Sum.inr a:Zk)=Sum.inr b)=decide (a=b):=by
 by_cases e:a=b
 · subst e;simp
 · have h:¬ (Sum.inr a:Zk)=Sum.inr b:=fun q=>e (Sum.inr.inj q)
   rw [decide_eq_false h,decide_eq_false e]
theorem Zlr (a:Int)(b:Str):decide ((Sum.inl a:Zk)=Sum.inr b)=false:=decide_eq_false (fun q=>nomatch q)
theorem ZlG (a:Str)(b:Int):decide ((Sum.inr a:Zk)=Sum.inl b)=false:=decide_eq_false (fun q=>nomatch q)
def Zl (prog:Program)(w:World):PySem.KeyKind prog w Zk where
 is:=YQ
 hash:=keyH w
 inj := fun v a b ha hb=>by
   rcases ZP ha with ⟨i,t,rfl,rfl⟩ | ⟨x,t,rfl,rfl⟩
   · rcases ZP hb with ⟨j,u,rfl,e⟩ | ⟨y,u,rfl,e⟩
     · injection e with e1 _;rw [e1]
     · exact nomatch e
   · rcases ZP hb with ⟨j,u,rfl,e⟩ | ⟨y,u,rfl,e⟩
     · exact nomatch e
     · injection e with e1 _;rw [e1]
 byValue:=fun k v h=>by
   rcases ZP h with ⟨i,t,rfl,rfl⟩ | ⟨x,t,rfl,rfl⟩<;>rfl
 pyHash:=fun hv h=>by
   rcases ZP hv with ⟨i,t,rfl,rfl⟩ | ⟨x,t,rfl,rfl⟩
   · exact wpAny_pyHash_int h
   · exact wpAny_pyHash_str h
 eqBool:=fun hu hv h=>by
   rcases ZP hu with ⟨i,t,rfl,rfl⟩ | ⟨x,t,rfl,rfl⟩
   · rcases ZP hv with ⟨j,u,rfl,rfl⟩ | ⟨y,u,rfl,rfl⟩
     · rw [Zmo] at h;exact wpAny_eqBool_int h
     · rw [Zlr] at h;exact SeqAt.EqAt.int_str i t y u _ _ _ _ h
   · rcases ZP hv with ⟨j,u,rfl,rfl⟩ | ⟨y,u,rfl,rfl⟩
     · rw [ZlG] at h;exact SeqAt.EqAt.str_int x t j u _ _ _ _ h
     · rw [Zlg] at h;exact wpAny_eqBool_str h
 «strs»:=fun k x t v h=>by
   rcases ZP h with ⟨i,u,rfl,e⟩ | ⟨y,u,rfl,e⟩
   · exact nomatch e
   · injection e with e1 _
     subst e1
     cases v<;>rfl
theorem Vc (prog:Program)(w:World)(k:Zk)(v:Value):(Zl prog w).is k v=YQ k v:=rfl
theorem Zen (prog:Program)(w:World)(i:Int)(t:Tok):(Zl prog w).is (.inl i) (.int i t)=true:=Zhe i t
theorem Ul (prog:Program)(w:World)(x:Str)(t:Tok):(Zl prog w).is (.inr x) (.str x t)=true:=ZgM x t
end L2
namespace L2
open PySem PySem.Spec PyProof.Rows
inductive V where
 | non | bl (b:Bool) | int (i:Int) | str (x:Str) | byt (b:Array UInt8) | flt (b:UInt64) | ref (a:Addr) | ty (n:String)
 deriving DecidableEq
abbrev Zu:=List (Str×V)
abbrev ZH:=List (Zk×V)
def RelV:V→Value→Prop
 | .non,u=>u=Value.none
 | .bl b,u=>u=Value.bool b
 | .int i,u=>∃ t,u=Value.int i t
 | .str x,u=>∃ t,u=Value.str x t
 | .byt b,u=>∃ t,u=Value.bytes b t
 | .flt b,u=>∃ t,u=Value.float b t
 | .ref a,u=>u=Value.ref a
 | .ty n,u=>u=Value.type n
abbrev Vals:List V→List Value→Prop:=Paired RelV
theorem Vals.length {xs:List V}{us:List Value}(r:Vals xs us):xs.length=us.length:=Paired.length r
theorem Vals.get:∀{xs:List V}{us:List Value}{i:Nat}{x:V},Vals xs us→xs[i]?=some x→∃ u,us[i]?=some u∧RelV x u
 | _,_,_,_,.nil,e=>by simp at e
 | _,_,0,_,.cons r _,e=>by simp at e;subst e;exact ⟨_,rfl,r⟩
 | _,_,i+1,x,.cons _ t,e=>by
   obtain ⟨u,h1,h2⟩:=Vals.get (i:=i) (x:=x) t (by simpa using e)
   exact ⟨u,by simpa using h1,h2⟩
theorem Vals.set {x:V}{u:Value}(r:RelV x u):∀{xs:List V}{us:List Value}(i:Nat),Vals xs us→Vals (xs.set i x) (us.set i u)
 | _,_,_,.nil=>.nil
 | _,_,0,.cons _ t=>.cons r t
 | _,_,i+1,.cons q t=>.cons q (Vals.set r i t)
theorem Vals.append:∀{xs ys:List V}{us ws:List Value},Vals xs us→Vals ys ws→Vals (xs++ys) (us++ws)
 | _,_,_,_,.nil,s=>s
 | _,_,_,_,.cons r t,s=>.cons r (Vals.append t s)
theorem Vals.take:∀{xs:List V}{us:List Value}(n:Nat),Vals xs us→Vals (xs.take n) (us.take n)
 | _,_,0,_=>.nil
 | _,_,_+1,.nil=>.nil
 | _,_,n+1,.cons r t=>.cons r (Vals.take n t)
theorem Vals.drop:∀{xs:List V}{us:List Value}(n:Nat),Vals xs us→Vals (xs.drop n) (us.drop n)
 | _,_,0,r=>r
 | _,_,_+1,.nil=>.nil
 | _,_,n+1,.cons _ t=>Vals.drop n t
def RelO:Option V→Option Value→Prop
 | some v,some u=>RelV v u
 | none,none=>True
 | _,_=>False
def KV {κ:Type}:List (κ×V)→List (κ×Value)→Prop:=Paired fun (p:κ×V) (q:κ×Value)=>p.1=q.1∧RelV p.2 q.2
def kV:Zk→V
 | .inl i=>.int i
 | .inr x=>.str x
inductive HO where
 | lst (xs:List V)
 | tup (xs:List V)
 | dK (kvs:ZH) | dT (kvs:List (List Zk×V))
 | set (S:Int→Bool) (n:Nat)
 | ins (C dx:Addr) (fs:Zu)
 | own (x:Addr)
 | xd (fs:Zu)
 | met (f x:Addr)
 | rng (lo hi:Int)
 | frz (o:Obj) (u:HO)
 | tbl (ps:Array Value)
 | ext (φ:Heap→Prop)
abbrev Hp:=Addr→Option HO
def upd (H:Hp)(a:Addr)(o:HO):Hp:=fun b=>if b=a then some o else H b
theorem Zg {H:Hp}{a:Addr}{o:HO}:upd H a o a=some o:=by unfold upd;rw [if_pos rfl]
theorem Zh {H:Hp}{a b:Addr}{o:HO}(h:b≠a):upd H a o b=H b:=by unfold upd;rw [if_neg h]
theorem ZkK {H:Hp}{a:Addr}{o u:HO}:upd (upd H a o) a u=upd H a u:=by
 funext b;unfold upd;split<;>rfl
theorem Zbu {H:Hp}{a b:Addr}{o u:HO}(h:H a=some o)(h':H b=some u)(d:o≠u):a≠b:=by
 intro e;subst e;rw [h] at h';exact d (Option.some.inj h')
theorem Zp {H:Hp}{a b:Addr}{o:HO}(h:H a=some o)(h':H b=none):a≠b:=by
 intro e;subst e;rw [h] at h';cases h'
section
variable (P:Program)(w:World)
def ObjOk (H:Hp)(h:Heap)(a:Addr):HO→Prop
 | .lst xs=>xs.length≤sizeLine∧∃ (its:List Value) (n:Nat),Vals xs its∧h.get? a=some { cls:=.type "list",data:=.seq its.toArray n }
 | .tup xs=>xs.length≤sizeLine∧∃ its:List Value,Vals xs its∧IsTup h a its.toArray
 | .dK kvs=>kvs.length≤sizeLine∧(a == sysModules)=false∧∃ vs,KV kvs vs∧h.DictOf (Zl P w) a vs
 | .dT kvs=>kvs.length≤sizeLine∧(a == sysModules)=false∧∃ xs:List (List Zk×Addr×Value),
     Paired (fun (p:List Zk×V) (q:List Zk×Addr×Value)=>p.1=q.1∧H q.2.1=some (.tup (p.1.map kV))∧RelV p.2 q.2.2) kvs xs ∧
     ∃ o es ep,h.get? a=some o∧o.ExactDict∧o.data=.dict es ep∧es.toList=xs.map (entryOfKey (tupleKind (Zl P w)))∧(xs.map (·.1)).Nodup
 | .set S n=>h.SetOf (intKind P w) a S n
 | .ins C dx fs=>H dx=some (.own a)∧fs.length≤1000∧dx≠a∧h.get? a=some (PySem.W.instObj C dx) ∧
     ∃ mA,h.Ns1 dx mA∧(∀ f,RelO (fs.lookup f) (mA f))∧PySem.Within mA (fs.map (·.1))
 | .own _=>∃ o,h.get? a=some o
 | .xd fs=>∃ mA,h.Ns1 a mA∧∀ f,RelO (fs.lookup f) (mA f)
 | .rng lo hi=>∃ t u v,h.get? a=some { cls:=.type "range",data:=.fields #[.int lo t,.int hi u,.int 1 v] }
 | .frz o u=>h.get? a=some o∧ObjOk H h a u
 | .tbl ps=>h.get? a=some { cls:=.none,data:=.fields ps }
 | .met f x=>h.get? a=some (PySem.W.methodObj (.ref f) (.ref x))
 | .ext φ=>φ h∧(∃ o,h.get? a=some o)∧∀ h1 h2:Heap,φ h1→(∀ o,h1.get? a=some o→h2.get? a=some o)→φ h2
def HOk (H:Hp)(h:Heap):Prop:=∀ a o,H a=some o→ObjOk P w H h a o
end
section
variable {P:Program}{w:World}{H H':Hp}{h h':Heap}{a:Addr}{o:HO}
theorem ObjOk.lt (x:ObjOk P w H h a o):a < h.objs.size:=by
 cases o with
 | lst xs=>obtain ⟨_,_,_,_,e⟩:=x;exact Heap.lt_size e
 | tup xs=>obtain ⟨_,_,_,p⟩:=x;exact p.lt
 | dK kvs=>obtain ⟨_,_,_,_,o,_,_,e,_⟩:=x;exact Heap.lt_size e
 | dT kvs=>obtain ⟨_,_,_,_,o,_,_,e,_⟩:=x;exact Heap.lt_size e
 | set S n=>obtain ⟨o,_,_,_,e,_⟩:=x;exact Heap.lt_size e
 | ins C dx fs=>obtain ⟨_,_,_,e,_⟩:=x;exact Heap.lt_size e
 | own y=>obtain ⟨_,e⟩:=x;exact Heap.lt_size e
 | xd fs=>obtain ⟨_,⟨_,_,_,e,_⟩,_⟩:=x;exact Heap.lt_size e
 | rng lo hi=>obtain ⟨_,_,_,e⟩:=x;exact Heap.lt_size e
 | frz ob u=>obtain ⟨e,_⟩:=x;exact Heap.lt_size e
 | tbl ps=>exact Heap.lt_size (show h.get? a=some _ from x)
 | met f y=>exact Heap.lt_size (show h.get? a=some _ from x)
 | ext φ=>obtain ⟨_,⟨_,e⟩,_⟩:=x;exact Heap.lt_size e
theorem Paired.mapP {α β:Type}{F G:α→β→Prop}:∀{l₁:List α}{l₂:List β},Paired F l₁ l₂→(∀ a b,F a b→G a b)→Paired G l₁ l₂
 | _,_,.nil,_=>.nil
 | _,_,.cons r t,f=>.cons (f _ _ r) (Paired.mapP t f)
theorem ObjOk.stay (x:ObjOk P w H h a o)(k:∀ b u,(b=a∨H b=some (.own a))→h.get? b=some u→h'.get? b=some u)
   (ho:∀ b,H b=some (.own a)→H' b=some (.own a)) (ht:∀ b xs,H b=some (.tup xs)→H' b=some (.tup xs)):ObjOk P w H' h' a o:=by
 induction o with
 | lst xs=>obtain ⟨z,its,n,r,e⟩:=x;exact ⟨z,its,n,r,k _ _ (.inl rfl) e⟩
 | tup xs=>obtain ⟨z,its,r,ob,e,c⟩:=x;exact ⟨z,its,r,ob,k _ _ (.inl rfl) e,c⟩
 | dK kvs=>obtain ⟨z,y,vs,r,ob,es,ep,e,c⟩:=x;exact ⟨z,y,vs,r,ob,es,ep,k _ _ (.inl rfl) e,c⟩
 | dT kvs =>
   obtain ⟨z,y,xs,r,ob,es,ep,e,c⟩:=x
   exact ⟨z,y,xs,Paired.mapP r fun p q z=>⟨z.1,ht _ _ z.2.1,z.2.2⟩,ob,es,ep,k _ _ (.inl rfl) e,c⟩
 | set S n=>obtain ⟨ob,es,ep,t,e,c⟩:=x;exact ⟨ob,es,ep,t,k _ _ (.inl rfl) e,c⟩
 | ins C dx fs =>
   obtain ⟨d,z,ne,e,mA,⟨od,es,ep,e2,c⟩,r⟩:=x
   exact ⟨ho _ d,z,ne,k _ _ (.inl rfl) e,mA,⟨od,es,ep,k _ _ (.inr d) e2,c⟩,r⟩
 | own y=>obtain ⟨ob,e⟩:=x;exact ⟨ob,k _ _ (.inl rfl) e⟩
 | xd fs=>obtain ⟨mA,⟨od,es,ep,e,c⟩,r⟩:=x;exact ⟨mA,⟨od,es,ep,k _ _ (.inl rfl) e,c⟩,r⟩
 | rng lo hi=>obtain ⟨t,u,v,e⟩:=x;exact ⟨t,u,v,k _ _ (.inl rfl) e⟩
 | frz ob u ih=>obtain ⟨e,q⟩:=x;exact ⟨k _ _ (.inl rfl) e,ih q⟩
 | tbl ps =>
   have e:h.get? a=some { cls:=.none,data:=.fields ps }:=x
   show h'.get? a=some { cls:=.none,data:=.fields ps }
   exact k a _ (.inl rfl) e
 | met f y =>
   have e:h.get? a=some (PySem.W.methodObj (.ref f) (.ref y)):=x
   show h'.get? a=some (PySem.W.methodObj (.ref f) (.ref y))
   exact k a _ (.inl rfl) e
 | ext φ=>obtain ⟨p,⟨o,e⟩,st⟩:=x;exact ⟨st _ _ p fun o q=>k _ _ (.inl rfl) q,⟨o,k _ _ (.inl rfl) e⟩,st⟩
theorem HOk.lt (x:HOk P w H h)(e:H a=some o):a < h.objs.size:=(x a o e).lt
theorem HOk.fresh (x:HOk P w H h)(e:h.objs.size≤a):H a=none:=by
 cases q:H a with
 | none=>rfl
 | some u=>exact absurd (Nat.lt_of_lt_of_le (x.lt q) e) (Nat.lt_irrefl _)
theorem HOk.kept (x:HOk P w H h)(k:∀ b u,h.get? b=some u→h'.get? b=some u):HOk P w H h':=fun a o e =>
 (x a o e).stay (fun b u _ q=>k b u q) (fun _ q=>q) fun _ _ q=>q
theorem HOk.laid (x:HOk P w H h)(k:∀ b u,h.get? b=some u→h'.get? b=some u)(hp:h.objs.size≤a)(new:ObjOk P w (upd H a o) h' a o):HOk P w (upd H a o) h':=fun b u e=>by
 have hn:=x.fresh hp
 by_cases hb:b=a
 · subst hb;rw [Zg] at e;cases e;exact new
 · rw [Zh hb] at e
   exact (x b u e).stay (fun c v _ q=>k c v q) (fun c q=>by rw [Zh (Zp q hn)];exact q) fun c xs q=>by rw [Zh (Zp q hn)];exact q
end
def Rd (H:Hp)(a:Addr)(u:HO):Prop:=H a=some u∨∃ o,H a=some (.frz o u)
theorem Rd.ok {P:Program}{w:World}{H:Hp}{h:Heap}{a:Addr}{u:HO}(r:Rd H a u)(x:HOk P w H h):ObjOk P w H h a u:=by
 rcases r with r | ⟨o,r⟩
 · exact x a u r
 · obtain ⟨_,q⟩:=x a _ r
   exact q
def Mut:Option HO→Prop
 | some (.lst _)=>True
 | some (.dK _)=>True
 | some (.dT _)=>True
 | some (.set _ _)=>True
 | some (.ins _ _ _)=>True
 | some (.ext _)=>True
 | _=>False
section
variable {P:Program}{w:World}{H:Hp}{h h':Heap}{x e:Addr}{o':HO}
theorem HOk.write (ok:HOk P w H h)(mu:Mut (H x))(he:e=x∨H e=some (.own x))(k:∀ b u,b≠e→h.get? b=some u→h'.get? b=some u)(heo:∃ u,h'.get? e=some u)
   (new:ObjOk P w (upd H x o') h' x o'):HOk P w (upd H x o') h':=fun b u q=>by
 have nown:∀ c y,H c=some (.own y)→c≠x:=fun c y r z=>by subst z;rw [r] at mu;exact mu
 have ntup:∀ c xs,H c=some (.tup xs)→c≠x:=fun c xs r z=>by subst z;rw [r] at mu;exact mu
 by_cases hb:b=x
 · subst hb;rw [Zg] at q;cases q;exact new
 · rw [Zh hb] at q
   by_cases hbe:b=e
   · have q':H b=some (.own x):=by
       rcases he with z | z
       · exact absurd (hbe.trans z) hb
       · rw [hbe];exact z
     rw [q] at q';cases q'
     obtain ⟨v,hv⟩:=heo
     exact ⟨v,by rw [hbe];exact hv⟩
   · refine (ok b u q).stay (fun c v hc r=>k c v ?_ r) (fun c r=>by rw [Zh (nown c b r)];exact r) fun c xs r=>by rw [Zh (ntup c xs r)];exact r
     rcases hc with rfl | hc
     · exact hbe
     · rintro rfl
       rcases he with z | z
       · exact nown c b hc z
       · rw [hc] at z;cases z;exact hb rfl
end
structure Un (fs ex:List Addr)(H H':Hp)(h h':Heap):Prop where
 keep:∀ b o,h.get? b=some o→H b=none→b ∉ fs→b ∉ ex→h'.get? b=some o
 slot:∀ b o,h.get? b=some o→H b=none→b∈fs→b ∉ ex→∃ sl,h'.get? b=some { o with slots:=sl }
 free:∀ b o,h.get? b=some o→H b=none→b ∉ ex→H' b=none
 there:∀ b o,h.get? b=some o→b ∉ ex→∃ o',h'.get? b=some o'
 tups:∀ b xs,H b=some (.tup xs)→H' b=some (.tup xs)
 frzs:∀ b o u,H b=some (.frz o u)→H' b=some (.frz o u)
 tbls:∀ b ps,H b=some (.tbl ps)→∃ more,H' b=some (.tbl (ps++more))
section
variable {fs fs' ex ex':List Addr}{H H1 H2:Hp}{h h1 h2 h':Heap}{a x e:Addr}{o:HO}
theorem Un.any (u:Un fs ex H H1 h h1){b:Addr}{ob:Obj}(q:h.get? b=some ob)(n:H b=none)(hx:b ∉ ex):∃ sl,h1.get? b=some { ob with slots:=sl }:=by
 by_cases hb:b∈fs
 · exact u.slot b ob q n hb hx
 · exact ⟨ob.slots,u.keep b ob q n hb hx⟩
theorem Un.kept (k:∀ b u,h.get? b=some u→h'.get? b=some u):Un fs ex H H h h' :=
 ⟨fun b ob q _ _ _=>k b ob q,fun b ob q _ _ _=>⟨ob.slots,k b ob q⟩,fun _ _ _ n _=>n,fun b ob q _=>⟨ob,k b ob q⟩,fun _ _ q=>q,fun _ _ _ q=>q,fun _ ps q=>⟨#[],by rw [q];simp⟩⟩
theorem Un.refl:Un fs ex H H h h:=Un.kept fun _ _ q=>q
theorem Un.laid (k:∀ b u,h.get? b=some u→h'.get? b=some u)(hp:h.objs.size≤a)(hn:H a=none):Un fs ex H (upd H a o) h h' where
 keep:=fun b u q _ _ _=>k b u q
 slot:=fun b u q _ _ _=>⟨u.slots,k b u q⟩
 free:=fun b u q n _=>by rw [Zh (Nat.ne_of_lt (Nat.lt_of_lt_of_le (Heap.lt_size q) hp))];exact n
 there:=fun b u q _=>⟨u,k b u q⟩
 tups:=fun b xs q=>by rw [Zh (Zp q hn)];exact q
 frzs:=fun b u xs q=>by rw [Zh (Zp q hn)];exact q
 tbls:=fun b ps q=>⟨#[],by rw [Zh (Zp q hn),q];simp⟩
theorem Un.write (mu:Mut (H x))(he:e=x∨H e=some (.own x))(k:∀ b u,b≠e→h.get? b=some u→h'.get? b=some u)(heo:∃ u,h'.get? e=some u):Un fs ex H (upd H x o) h h':=by
 have hx:∀ b,H b=none→b≠x:=fun b n z=>by subst z;rw [n] at mu;exact mu
 have hb:∀ b,H b=none→b≠e:=fun b n z=>by
   subst z
   rcases he with r | r
   · exact hx b n r
   · rw [n] at r;cases r
 have hm:∀ b u,H b=some u→¬ Mut (some u)→b≠x:=fun b u q nm z=>by subst z;rw [q] at mu;exact nm mu
 refine ⟨fun b u q n _ _=>k b u (hb b n) q,fun b u q n _ _=>⟨u.slots,k b u (hb b n) q⟩,fun b u q n _=>by rw [Zh (hx b n)];exact n,fun b u q _=>?_,
   fun b xs q=>by rw [Zh (hm b _ q fun z=>z)];exact q,fun b u xs q=>by rw [Zh (hm b _ q fun z=>z)];exact q,fun b ps q=>⟨#[],by rw [Zh (hm b _ q fun z=>z),q];simp⟩⟩
 by_cases hbe:b=e
 · subst hbe;exact heo
 · exact ⟨u,k b u hbe q⟩
end
def trk (h:Heap)(H:Hp):List Addr:=(List.range h.objs.size).filter fun a=>(H a).isSome
def Ug (h:Heap)(H:Hp):Heap:=PySem.W.hideAll h (trk h H)
theorem ZhK (h:Heap)(H:Hp):(Ug h H).objs.size=h.objs.size:=PySem.W.hideAll_size _ _
theorem ZiM {h:Heap}{H:Hp}{b:Addr}{o:Obj}(e:h.get? b=some o)(n:H b=none):(Ug h H).get? b=some o :=
 PySem.W.hideAll_get _ e fun hm=>by
   have q:(H b).isSome=true:=(List.mem_filter.mp hm).2
   rw [n] at q;simp at q
theorem ZkN {h:Heap}{H:Hp}{b:Addr}{o:Obj}(e:(Ug h H).get? b=some o):h.get? b=some o∧H b=none:=by
 have e':h.get? b=some o:=PySem.W.of_hideAll (trk h H) e
 refine ⟨e',?_⟩
 cases q:H b with
 | none=>rfl
 | some x =>
   have hm:b∈trk h H:=List.mem_filter.mpr ⟨List.mem_range.mpr (Heap.lt_size e'),by simp [q]⟩
   have z:(Ug h H).get? b=none:=PySem.W.hideAll_none (trk h H) hm
   rw [z] at e;cases e
end L2
namespace L2
open PySem PySem.Spec PyProof.Rows
structure Mod (K:KF)(mg:Str→Option Value)(base:Heap):Prop where
 kin:K.In base
 glob:base.Ns mainGlobals mg
 blt:∃ mb,base.Ns builtinsNs mb∧∀ x:Str,x≠"__name__"→mb x=bootBuiltins x
 nolimit:base.NoLimit
structure Cx where
 prog:Program
 w:World
 K:PySem.W.Frag
 mg:Str→Option Value
 base:Heap
 A:Around
 N:List Str
 s₀:Shared
 H₀:Hp
 env:Env
 outer:List Env
 stack:List Env
 ex:List Addr
 fn:Str→Bool
 calm:Bool
 pn:List (Addr×Obj)
 xe:Value→Shared→Prop
def Vn (l:List Env):List Addr:=l.filterMap (·.frame)
abbrev Cx.fs (X:Cx):List Addr:=Vn X.outer
def Vis (sc:Scope)(x:Str):Prop:=sc.names.lookup x=some .local∨sc.names.lookup x=some .cell∨sc.names.lookup x=some .free
def Loc (sc:Scope)(x:Str):Prop:=sc.names.lookup x=some .local∨sc.names.lookup x=some .cell
def Look (env:Env)(h:Heap)(m:Str→Option Value)(x:Str)(u:Value):Prop :=
 (env.kindOf x=some .local∧m x=some u)∨((env.kindOf x=some .cell∨env.kindOf x=some .free)∧∃ c,env.cells.lookup x=some c∧h.IsCell c (some u))
structure Cx.Ok (X:Cx):Prop where
 mod:Mod X.K X.mg X.base
 kind:X.env.scope.kind=.function
 glob:X.env.globals=mainGlobals
 blt:X.env.builtins=builtinsNs
 above:X.s₀.heap.objs.size≤X.env.locals
 inj:∀ x y c,X.env.cells.lookup x=some c→X.env.cells.lookup y=some c→x=y
 has:∀ x,(X.env.kindOf x=some .cell∨X.env.kindOf x=some .free)→∃ c,X.env.cells.lookup x=some c
 cab:∀ x c,X.fn x=true→X.env.cells.lookup x=some c→X.s₀.heap.objs.size≤c
 hd:X.calm=true→X.A.handled=none
 frames:X.A.frames=some X.stack
 stk:X.stack=X.outer∨(X.stack=X.env::X.outer∧X.env.frame=some X.env.locals)
 exf:∀ b∈X.ex,b≠X.env.locals∧∀ x c,X.env.cells.lookup x=some c→c≠b
 bs:∀ b o,X.base.get? b=some o→X.s₀.heap.get? b=some o∧X.H₀ b=none
 bsz:X.base.objs.size≤X.s₀.heap.objs.size
 noex:∀ b o,X.base.get? b=some o→b ∉ X.ex
 exfs:∀ b∈X.ex,b ∉ X.fs
 funs:X.s₀.heap.FunFrames X.base X.outer
 frf:∀ b∈X.fs,X.H₀ b=none
structure Inv (X:Cx)(pins:List (Addr×Obj))(σ:List (Option V))(H:Hp)(s:Shared):Prop where
 ok:X.Ok
 os:s.os=X.s₀.os
 bare:AllBare s.gens
 base:Un X.fs X.ex X.H₀ H X.s₀.heap s.heap
 loc:∃ m,s.heap.Ns X.env.locals m∧∀ (i:Nat) (x:Str) (v:V),X.N[i]?=some x→σ[i]?=some (some v)→Vis X.env.scope x→∃ u,RelV v u∧Look X.env s.heap m x u
 cell:∀ x c,X.env.cells.lookup x=some c→∃ v,s.heap.IsCell c v
 free:H X.env.locals=none
 freeC:∀ x c,X.env.cells.lookup x=some c→H c=none
 pin:∀ p∈X.pn++pins,s.heap.get? p.1=some p.2∧H p.1=none∧p.1≠X.env.locals∧p.1 ∉ X.fs∧∀ v,p.2.data≠.cell v
 hok:HOk X.prog X.w H s.heap
 len:σ.length=X.N.length
section
variable {X:Cx}{pins:List (Addr×Obj)}{σ:List (Option V)}{H H':Hp}{s:Shared}{h':Heap}
theorem Cx.Ok.nofr (ok:X.Ok){b:Addr}{o:Obj}(e:X.base.get? b=some o):b ∉ X.fs:=fun hb=>by
 have:=(ok.funs.mem hb).1
 rw [e] at this;cases this
theorem Inv.bs (I:Inv X pins σ H s):∀ b o,X.base.get? b=some o→s.heap.get? b=some o∧H b=none:=fun b o e =>
 ⟨I.base.keep b o (I.ok.bs b o e).1 (I.ok.bs b o e).2 (I.ok.nofr e) (I.ok.noex b o e),I.base.free b o (I.ok.bs b o e).1 (I.ok.bs b o e).2 (I.ok.noex b o e)⟩
theorem Inv.bk (I:Inv X pins σ H s):∀ b o,X.base.get? b=some o→s.heap.get? b=some o:=fun b o e=>(I.bs b o e).1
theorem Inv.mod (I:Inv X pins σ H s):Mod X.K X.mg X.base:=I.ok.mod
theorem Inv.kIn (I:Inv X pins σ H s):X.K.In s.heap:=I.ok.mod.kin.keeps I.bk
theorem Inv.nolimit (I:Inv X pins σ H s):s.heap.NoLimit:=I.ok.mod.nolimit.keeps I.bk
theorem Inv.lt (I:Inv X pins σ H s):X.env.locals < s.heap.objs.size:=let ⟨_,hn,_⟩:=I.loc;hn.lt
theorem Inv.sz (I:Inv X pins σ H s):X.s₀.heap.objs.size≤s.heap.objs.size:=Nat.le_trans I.ok.above (Nat.le_of_lt I.lt)
theorem Inv.nofs (I:Inv X pins σ H s){a:Addr}(h:s.heap.objs.size≤a):a ∉ X.fs:=fun hb=>by
 obtain ⟨_,o,ho,_⟩:=I.ok.funs.mem hb
 exact absurd (Nat.lt_of_lt_of_le (Heap.lt_size ho) (Nat.le_trans I.sz h)) (Nat.lt_irrefl _)
theorem Inv.cne (I:Inv X pins σ H s):∀ x c,X.env.cells.lookup x=some c→c≠X.env.locals:=fun x c e z=>by
 obtain ⟨v,o,ho,hd⟩:=I.cell x c e
 obtain ⟨m,⟨o',es,ep,ho',hd',_⟩,_⟩:=I.loc
 rw [z,ho'] at ho;cases ho;rw [hd'] at hd;cases hd
theorem Inv.funs (I:Inv X pins σ H s):s.heap.FunFrames X.base X.outer:=by
 have all:∀ (l:List Env),(∀ b∈Vn l,b∈X.fs)→X.s₀.heap.FunFrames X.base l→s.heap.FunFrames X.base l:=by
   intro l
   induction l with
   | nil=>intro _ _;trivial
   | cons env r ih =>
     intro hs hl
     obtain ⟨hk,⟨L,o,hf,hn,ho,hd⟩,hr⟩:=hl
     have hL:L∈X.fs:=hs L (by unfold Vn;rw [List.filterMap_cons,hf];exact List.mem_cons_self)
     obtain ⟨sl,e⟩:=I.base.slot L o ho (I.ok.frf L hL) hL fun z=>I.ok.exfs L z hL
     exact ⟨hk,⟨L,_,hf,hn,e,hd⟩,ih (fun b hb=>hs b (by unfold Vn;rw [List.filterMap_cons,hf];exact List.mem_cons_of_mem _ hb)) hr⟩
 exact all X.outer (fun _ hb=>hb) I.ok.funs
theorem Inv.stack (I:Inv X pins σ H s):s.heap.FunFrames X.base X.stack:=by
 rcases I.ok.stk with e | ⟨e,hf⟩
 · rw [e];exact I.funs
 · rw [e]
   obtain ⟨m,hn,_⟩:=I.loc
   refine .cons (by rw [I.ok.kind];decide) hf hn ?_ I.funs
   exact Heap.get?_none_of_le (Nat.le_trans I.ok.bsz I.ok.above)
theorem Inv.stkSub (I:Inv X pins σ H s):∀ b∈Vn X.stack,b∈X.env.locals::X.fs:=fun b hb=>by
 rcases I.ok.stk with e | ⟨e,hf⟩
 · rw [e] at hb;exact List.mem_cons_of_mem _ hb
 · rw [e] at hb
   unfold Vn at hb
   rw [List.filterMap_cons,hf] at hb
   exact hb
theorem Inv.stkFree (I:Inv X pins σ H s):∀ b∈Vn X.stack,H b=none:=fun b hb=>by
 rcases List.mem_cons.mp (I.stkSub b hb) with e | hb
 · rw [e];exact I.free
 · obtain ⟨_,o,ho,_⟩:=I.ok.funs.mem hb
   exact I.base.free b o ho (I.ok.frf b hb) fun z=>I.ok.exfs b z hb
theorem Inv.step {g':Array GenState}{t':Nat}{d':Drawn}{ch:List Addr}(I:Inv X pins σ H s)
   (hch:∀ b∈ch,(b∈X.ex∨X.s₀.heap.objs.size≤b)∧b≠X.env.locals∧(∀ x c,X.env.cells.lookup x=some c→c≠b)∧∀ p∈X.pn++pins,p.1≠b)
   (keep:∀ b o,b≠X.env.locals→b ∉ X.fs→b ∉ ch→s.heap.get? b=some o→H b=none→h'.get? b=some o)
   (slot:∀ b o,b≠X.env.locals→b∈X.fs→b ∉ ch→s.heap.get? b=some o→H b=none→∃ sl,h'.get? b=some { o with slots:=sl }) (free:∀ b o,b ∉ ch→s.heap.get? b=some o→H b=none→H' b=none)
   (there:∀ b o,b ∉ ch→s.heap.get? b=some o→∃ o',h'.get? b=some o')
   (tups:∀ b xs,H b=some (.tup xs)→H' b=some (.tup xs)) (frzs:∀ b o u,H b=some (.frz o u)→H' b=some (.frz o u)) (tbls:∀ b ps,H b=some (.tbl ps)→∃ more,H' b=some (.tbl (ps++more)))
   (ns:∀ m,s.heap.Ns X.env.locals m→h'.Ns X.env.locals m) (hok:HOk X.prog X.w H' h') (hg:AllBare g') :
   Inv X pins σ H' { s with heap:=h',gens:=g',drawn:=d',toks:=t' }:=by
 have neL:∀ b o,X.s₀.heap.get? b=some o→b≠X.env.locals:=fun b o e=>Nat.ne_of_lt (Nat.lt_of_lt_of_le (Heap.lt_size e) I.ok.above)
 have neC:∀ b o,X.s₀.heap.get? b=some o→b ∉ X.ex→b ∉ ch:=fun b o e hx hb=>by
   rcases (hch b hb).1 with z | z
   · exact hx z
   · exact absurd (Nat.lt_of_lt_of_le (Heap.lt_size e) z) (Nat.lt_irrefl _)
 have cellK:∀ x c,X.env.cells.lookup x=some c→∀ v,s.heap.IsCell c v→h'.IsCell c v:=fun x c e v ⟨o,ho,hd⟩=>by
   have nch:c ∉ ch:=fun z=>(hch c z).2.2.1 x c e rfl
   by_cases hc:c∈X.fs
   · obtain ⟨sl,q⟩:=slot c o (I.cne x c e) hc nch ho (I.freeC x c e)
     exact ⟨_,q,hd⟩
   · exact ⟨o,keep c o (I.cne x c e) hc nch ho (I.freeC x c e),hd⟩
 refine ⟨I.ok,I.os,hg,⟨fun b o e n hb hx=>?_,fun b o e n hb hx=>?_,fun b o e n hx=>?_,fun b o e hx=>?_,fun b xs e=>tups b xs (I.base.tups b xs e),fun b o xs e=>frzs b o xs (I.base.frzs b o xs e),fun b ps e=>?_⟩,?_,fun x c e=>?_,?_,fun x c e=>?_,fun p hp=>?_,hok,I.len⟩
 · exact keep b o (neL b o e) hb (neC b o e hx) (I.base.keep b o e n hb hx) (I.base.free b o e n hx)
 · obtain ⟨sl,e1⟩:=I.base.slot b o e n hb hx
   obtain ⟨sl',e2⟩:=slot b _ (neL b o e) hb (neC b o e hx) e1 (I.base.free b o e n hx)
   exact ⟨sl',e2⟩
 · obtain ⟨o',e1⟩:=I.base.there b o e hx
   exact free b o' (neC b o e hx) e1 (I.base.free b o e n hx)
 · obtain ⟨o',e1⟩:=I.base.there b o e hx
   exact there b o' (neC b o e hx) e1
 · obtain ⟨m1,e1⟩:=I.base.tbls b ps e
   obtain ⟨m2,e2⟩:=tbls b _ e1
   exact ⟨m1++m2,by rw [e2,Array.append_assoc]⟩
 · obtain ⟨m,hn,hl⟩:=I.loc
   refine ⟨m,ns m hn,fun i x v e1 e2 e3=>?_⟩
   obtain ⟨u,r,l⟩:=hl i x v e1 e2 e3
   refine ⟨u,r,?_⟩
   rcases l with l | ⟨k,c,e,z⟩
   · exact .inl l
   · exact .inr ⟨k,c,e,cellK x c e _ z⟩
 · obtain ⟨v,z⟩:=I.cell x c e
   exact ⟨v,cellK x c e v z⟩
 · obtain ⟨m,⟨o,_,_,ho,_⟩,_⟩:=I.loc
   exact free _ o (fun z=>(hch _ z).2.1 rfl) ho I.free
 · obtain ⟨v,o,ho,hd⟩:=I.cell x c e
   exact free c o (fun z=>(hch c z).2.2.1 x c e rfl) ho (I.freeC x c e)
 · obtain ⟨e,n,ne,nf,d⟩:=I.pin p hp
   have nch:p.1 ∉ ch:=fun z=>(hch p.1 z).2.2.2 p hp rfl
   exact ⟨keep p.1 p.2 ne nf nch e n,free p.1 p.2 nch e n,ne,nf,d⟩
theorem Inv.un {t':Nat}(I:Inv X pins σ H s)(u:Un X.fs [] H H' s.heap h')(hok:HOk X.prog X.w H' h'):Inv X pins σ H' { s with heap:=h',toks:=t' }:=by
 obtain ⟨m,⟨o,es,ep,ho,r⟩,_⟩:=id I.loc
 obtain ⟨sl,hL⟩:=u.any ho I.free (by simp)
 exact I.step (g':=s.gens) (d':=s.drawn) (ch:=[]) (fun _ z=>nomatch z) (fun b o _ hb _ e n=>u.keep b o e n hb (by simp)) (fun b o _ hb _ e n=>u.slot b o e n hb (by simp)) (fun b o _ e n=>u.free b o e n (by simp)) (fun b o _ e=>u.there b o e (by simp)) u.tups u.frzs u.tbls (fun m' hm=>by
   obtain ⟨o',es',ep',ho',r'⟩:=hm
   rw [ho] at ho';cases ho'
   exact ⟨_,es',ep',hL,r'⟩) hok I.bare
theorem Inv.call {g':Array GenState}{t':Nat}{d':Drawn}{ch:List Addr}(I:Inv X pins σ H s)(u:Un (Vn X.stack) ch H H' s.heap h')(hok:HOk X.prog X.w H' h')(hg:AllBare g')
   (hch:∀ b∈ch,(b∈X.ex∨X.s₀.heap.objs.size≤b)∧b≠X.env.locals∧(∀ x c,X.env.cells.lookup x=some c→c≠b)∧∀ p∈X.pn++pins,p.1≠b) :
   Inv X pins σ H' { s with heap:=h',gens:=g',drawn:=d',toks:=t' }:=by
 obtain ⟨m,⟨o,es,ep,ho,r⟩,_⟩:=id I.loc
 obtain ⟨sl,hL⟩:=u.any ho I.free fun z=>(hch _ z).2.1 rfl
 exact I.step (ch:=ch) hch (fun b o hL hb hc e n=>u.keep b o e n (fun z=>(List.mem_cons.mp (I.stkSub b z)).elim hL hb) hc) (fun b o _ _ hc e n=>u.any e n hc) (fun b o hc e n=>u.free b o e n hc) (fun b o hc e=>u.there b o e hc) u.tups u.frzs u.tbls (fun m' hm=>by
   obtain ⟨o',es',ep',ho',r'⟩:=hm
   rw [ho] at ho';cases ho'
   exact ⟨_,es',ep',hL,r'⟩) hok hg
theorem Inv.turned {t':Nat}{it:Addr}(I:Inv X pins σ H s)(k:∀ b o,b≠it→s.heap.get? b=some o→h'.get? b=some o)(hn:H it=none)(hL:it≠X.env.locals)
   (h1:it∈X.ex∨X.s₀.heap.objs.size≤it) (h2:∀ x c,X.env.cells.lookup x=some c→c≠it) (h3:∀ p∈X.pn++pins,p.1≠it):Inv X pins σ H { s with heap:=h',toks:=t' }:=by
 have nit:∀ b u,H b=some u→b≠it:=fun b u e z=>by rw [z,hn] at e;cases e
 refine I.step (g':=s.gens) (d':=s.drawn) (ch:=[it]) (fun b hb=>?_) (fun b o _ _ hc e _=>k b o (fun z=>hc (by simp [z])) e) (fun b o _ _ hc e _=>⟨o.slots,k b o (fun z=>hc (by simp [z])) e⟩) (fun _ _ _ _ n=>n)
   (fun b o hc e=>⟨o,k b o (fun z=>hc (by simp [z])) e⟩) (fun _ _ e=>e) (fun _ _ _ e=>e) (fun b ps e=>⟨#[],by rw [e];simp⟩) (fun m hm=>?_) (fun b u e=>?_) I.bare
 · have e:b=it:=by simpa using hb
   subst e
   exact ⟨h1,hL,h2,h3⟩
 · obtain ⟨o,es,ep,ho,r⟩:=hm
   exact ⟨o,es,ep,k _ o (Ne.symm hL) ho,r⟩
 · refine (I.hok b u e).stay (fun c v hc q=>k c v ?_ q) (fun _ q=>q) fun _ _ q=>q
   rcases hc with z | z
   · rw [z];exact nit b u e
   · exact nit c _ z
theorem Inv.tok (I:Inv X pins σ H s)(t:Nat):Inv X pins σ H { s with toks:=t }:=I.un (h':=s.heap) (t':=t) Un.refl I.hok
theorem Inv.kept {t':Nat}(I:Inv X pins σ H s)(k:∀ b u,s.heap.get? b=some u→h'.get? b=some u):Inv X pins σ H { s with heap:=h',toks:=t' }:=I.un (Un.kept k) (I.hok.kept k)
theorem Inv.laid {a:Addr}{o:HO}{t':Nat}(I:Inv X pins σ H s)(k:∀ b u,s.heap.get? b=some u→h'.get? b=some u)(hp:s.heap.objs.size≤a)(new:ObjOk X.prog X.w (upd H a o) h' a o) :
 Inv X pins σ (upd H a o) { s with heap:=h',toks:=t' }:=I.un (Un.laid k hp (I.hok.fresh hp)) (I.hok.laid k hp new)
theorem Inv.write {x e:Addr}{o:HO}{t':Nat}(I:Inv X pins σ H s)(mu:Mut (H x))(he:e=x∨H e=some (.own x))(k:∀ b u,b≠e→s.heap.get? b=some u→h'.get? b=some u)(heo:∃ u,h'.get? e=some u)
 (new:ObjOk X.prog X.w (upd H x o) h' x o):Inv X pins σ (upd H x o) { s with heap:=h',toks:=t' }:=I.un (Un.write mu he k heo) (I.hok.write mu he k heo new)
theorem Inv.pins_of {pins':List (Addr×Obj)}(I:Inv X pins σ H s)(h:∀ p∈pins',s.heap.get? p.1=some p.2∧H p.1=none∧p.1≠X.env.locals∧p.1 ∉ X.fs∧∀ v,p.2.data≠.cell v):Inv X pins' σ H s :=
 ⟨I.ok,I.os,I.bare,I.base,I.loc,I.cell,I.free,I.freeC,fun p hp=>(List.mem_append.mp hp).elim (fun z=>I.pin p (List.mem_append_left _ z)) (h p),I.hok,I.len⟩
theorem Zdz {N:List Str}(hN:N.Nodup){i j:Nat}{x:Str}(a:N[i]?=some x)(b:N[j]?=some x):i=j:=by
 obtain ⟨h1,e1⟩:=List.getElem?_eq_some_iff.mp a
 obtain ⟨h2,e2⟩:=List.getElem?_eq_some_iff.mp b
 exact (List.getElem_inj hN).mp (e1.trans e2.symm)
theorem Zcz {M:Model}{A:Around}{E:Zv}{i:Nat}{x:Str}{v:V}{u:Value}{Q:Unit→Shared→Prop}(I:Inv X pins σ H s)(hN:X.N.Nodup)(hi:X.N[i]?=some x)(hx:Loc X.env.scope x)(r:RelV v u)
   (h:∀ s',Inv X pins (σ.set i (some v)) H s'→(∃ a,Heap.SameBut a s.heap s'.heap∧(a=X.env.locals∨X.env.cells.lookup x=some a))→Q () s') (hf:X.fn x=true∨X.env.scope.names.lookup x=some .local:=by first | exact .inl rfl | exact .inr rfl | assumption):wpAny M A (storeName X.env x u) Q E s:=by
 obtain ⟨m,hn,hl⟩:=id I.loc
 have hcls:(X.env.scope.kind == .class || (X.env.scope.kind == .module&&X.env.locals != X.env.globals))=false:=by rw [I.ok.kind];rfl
 have hiσ:i < σ.length:=by rw [I.len];exact (List.getElem?_eq_some_iff.mp hi).1
 have cne:=I.cne
 have tracked:∀ {a:Addr} {h':Heap},(∃ o,s.heap.get? a=some o∧H a=none)→Heap.SameBut a s.heap h'→HOk X.prog X.w H h':=fun {a h'} ha hs b ob e=>by
   obtain ⟨_,_,hfree⟩:=ha
   refine (I.hok b ob e).stay (fun c w' hc q=>(hs.2 c ?_).trans q) (fun _ q=>q) fun _ _ q=>q
   rintro rfl
   rcases hc with rfl | hc
   · rw [hfree] at e;cases e
   · rw [hfree] at hc;cases hc
 rcases hx with hk | hk
 · refine wpAny_storeName_local hk hn (fun h' hn' hs=>?_) hcls
   obtain ⟨oL,_,_,hoL,_⟩:=id hn
   refine h _ ⟨I.ok,I.os,I.bare,⟨fun b o e n hb hx=>?_,fun b o e n hb hx=>?_,I.base.free,fun b o e hx=>?_,I.base.tups,I.base.frzs,I.base.tbls⟩,⟨_,hn',fun j y v' e1 e2 e3=>?_⟩,fun y c e=>?_,I.free,I.freeC,fun p hp=>?_,tracked ⟨oL,hoL,I.free⟩ hs,by simpa using I.len⟩ ⟨_,hs,.inl rfl⟩
   · exact (hs.2 b (Nat.ne_of_lt (Nat.lt_of_lt_of_le (Heap.lt_size e) I.ok.above))).trans (I.base.keep b o e n hb hx)
   · obtain ⟨sl,e1⟩:=I.base.slot b o e n hb hx
     exact ⟨sl,(hs.2 b (Nat.ne_of_lt (Nat.lt_of_lt_of_le (Heap.lt_size e) I.ok.above))).trans e1⟩
   · obtain ⟨o',e1⟩:=I.base.there b o e hx
     exact ⟨o',(hs.2 b (Nat.ne_of_lt (Nat.lt_of_lt_of_le (Heap.lt_size e) I.ok.above))).trans e1⟩
   · by_cases hj:j=i
     · subst hj
       rw [hi] at e1;cases e1
       rw [List.getElem?_set_self hiσ] at e2
       cases e2
       exact ⟨u,r,.inl ⟨hk,by simp⟩⟩
     · rw [List.getElem?_set_ne (Ne.symm hj)] at e2
       obtain ⟨u',r',q⟩:=hl j y v' e1 e2 e3
       refine ⟨u',r',?_⟩
       rcases q with ⟨k,e⟩ | ⟨k,c,e,z⟩
       · refine .inl ⟨k,?_⟩
         have:y≠x:=fun e=>hj (Zdz hN e1 (e ▸ hi))
         simp [this,e]
       · exact .inr ⟨k,c,e,z.sameBut hs (cne y c e)⟩
   · obtain ⟨w',z⟩:=I.cell y c e
     exact ⟨w',z.sameBut hs (cne y c e)⟩
   · obtain ⟨e,n,ne,nf,d⟩:=I.pin p hp
     exact ⟨(hs.2 p.1 ne).trans e,n,ne,nf,d⟩
 · have hfn:X.fn x=true:=by
     rcases hf with z | z
     · exact z
     · rw [z] at hk;cases hk
   obtain ⟨c,hc⟩:=I.ok.has x (.inl hk)
   obtain ⟨w',z⟩:=I.cell x c hc
   refine wpAny_storeName_cell I.ok.kind hk hc z (fun h' hc' hs=>?_)
   obtain ⟨oc,hoc,hocd⟩:=id z
   refine h { s with heap:=h' } ⟨I.ok,I.os,I.bare,⟨fun b o e n hb hx=>?_,fun b o e n hb hx=>?_,I.base.free,fun b o e hx=>?_,I.base.tups,I.base.frzs,I.base.tbls⟩,⟨m,hn.sameBut hs (Ne.symm (cne x c hc)),fun j y v' e1 e2 e3=>?_⟩,fun y c' e=>?_,I.free,I.freeC,fun p hp=>?_,tracked ⟨oc,hoc,I.freeC x c hc⟩ hs,by simpa using I.len⟩ ⟨c,hs,.inr hc⟩
   · exact (hs.2 b (Nat.ne_of_lt (Nat.lt_of_lt_of_le (Heap.lt_size e) (I.ok.cab x c hfn hc)))).trans (I.base.keep b o e n hb hx)
   · obtain ⟨sl,e1⟩:=I.base.slot b o e n hb hx
     exact ⟨sl,(hs.2 b (Nat.ne_of_lt (Nat.lt_of_lt_of_le (Heap.lt_size e) (I.ok.cab x c hfn hc)))).trans e1⟩
   · obtain ⟨o',e1⟩:=I.base.there b o e hx
     exact ⟨o',(hs.2 b (Nat.ne_of_lt (Nat.lt_of_lt_of_le (Heap.lt_size e) (I.ok.cab x c hfn hc)))).trans e1⟩
   · by_cases hj:j=i
     · subst hj
       rw [hi] at e1;cases e1
       rw [List.getElem?_set_self hiσ] at e2
       cases e2
       exact ⟨u,r,.inr ⟨.inl hk,c,hc,hc'⟩⟩
     · rw [List.getElem?_set_ne (Ne.symm hj)] at e2
       obtain ⟨u',r',q⟩:=hl j y v' e1 e2 e3
       refine ⟨u',r',?_⟩
       rcases q with q | ⟨k,c',e,z'⟩
       · exact .inl q
       · refine .inr ⟨k,c',e,z'.sameBut hs ?_⟩
         rintro rfl
         exact hj (Zdz hN e1 (I.ok.inj _ _ _ e hc ▸ hi))
   · by_cases hcc:c'=c
     · subst hcc;exact ⟨_,hc'⟩
     · obtain ⟨w2,z2⟩:=I.cell y c' e
       exact ⟨w2,z2.sameBut hs hcc⟩
   · obtain ⟨e,n,ne,nf,d⟩:=I.pin p hp
     refine ⟨(hs.2 p.1 ?_).trans e,n,ne,nf,d⟩
     intro q
     rw [q,hoc] at e
     have q':oc=p.2:=Option.some.inj e
     exact d w' (by rw [← q'];exact hocd)
theorem WI {M:Model}{A:Around}{E:Zv}{i:Nat}{x:Str}{v:V}{u:Value}{Q:Unit→Shared→Prop}(I:Inv X pins σ H s)(hN:X.N.Nodup)(hi:X.N[i]?=some x)(hx:Loc X.env.scope x)(r:RelV v u)
   (h:∀ s',Inv X pins (σ.set i (some v)) H s'→Q () s') (hf:X.fn x=true∨X.env.scope.names.lookup x=some .local:=by first | exact .inl rfl | exact .inr rfl | assumption):wpAny M A (storeName X.env x u) Q E s :=
 Zcz I hN hi hx r (fun s' I' _=>h s' I') hf
theorem Inv.call' {s':Shared}{ch:List Addr}(I:Inv X pins σ H s)(ho:s'.os=s.os)(u:Un (Vn X.stack) ch H H' s.heap s'.heap)(hok:HOk X.prog X.w H' s'.heap)(hg:AllBare s'.gens)
   (hch:∀ b∈ch,(b∈X.ex∨X.s₀.heap.objs.size≤b)∧b≠X.env.locals∧(∀ x c,X.env.cells.lookup x=some c→c≠b)∧∀ p∈X.pn++pins,p.1≠b):Inv X pins σ H' s':=by
 obtain ⟨h',g',d',t',o'⟩:=s'
 have e:o'=s.os:=ho
 subst e
 exact I.call (g':=g') (t':=t') (d':=d') u hok hg hch
end
abbrev XK:=Value→Option Addr→Hp→Prop
abbrev St:=List (Option V)
abbrev VK:=V→Hp→Prop
abbrev TE:=St→Hp→VK→Prop
abbrev TT:=St→Hp→(Bool→Hp→Prop)→Prop
abbrev TA:=St→Hp→(List V→Hp→Prop)→Prop
structure XY where
 nx:St→Hp→Prop
 rt:VK
 bk:St→Hp→Prop:=fun _ _=>False
 ct:St→Hp→Prop:=fun _ _=>False
abbrev TS:=XY→St→Hp→Prop
def EP (X:Cx)(pins:List (Addr×Obj))(σ:St)(Q:VK)(u:Value)(s':Shared):Prop:=∃ v H',Inv X pins σ H' s'∧RelV v u∧Q v H'
def TP (X:Cx)(pins:List (Addr×Obj))(σ:St)(Q:Bool→Hp→Prop)(b:Bool)(s':Shared):Prop:=∃ H',Inv X pins σ H' s'∧Q b H'
def AP (X:Cx)(pins:List (Addr×Obj))(σ:St)(Q:List V→Hp→Prop)(us:List Value)(s':Shared):Prop:=∃ vs H',Inv X pins σ H' s'∧Vals vs us∧Q vs H'
def SP (X:Cx)(pins:List (Addr×Obj))(D:XY)(f:Flow)(s':Shared):Prop :=
 match f with
 | .next=>∃ σ' H',Inv X pins σ' H' s'∧D.nx σ' H'
 | .brk=>∃ σ' H',Inv X pins σ' H' s'∧D.bk σ' H'
 | .cont=>∃ σ' H',Inv X pins σ' H' s'∧D.ct σ' H'
 | .ret u=>∃ v σ' H',Inv X pins σ' H' s'∧RelV v u∧D.rt v H'
def PE (X:Cx)(e:Expr)(t:TE):Prop :=
 ∀ (pins:List (Addr×Obj)) (s:Shared) (σ:St) (H:Hp) (Q:VK),Inv X pins σ H s→t σ H Q→wpAny (model X.prog X.w) X.A (eval e X.env) (EP X pins σ Q) X.xe s
def PT (X:Cx)(e:Expr)(t:TT):Prop :=
 ∀ (pins:List (Addr×Obj)) (s:Shared) (σ:St) (H:Hp) (Q:Bool→Hp→Prop),Inv X pins σ H s→t σ H Q→wpAny (model X.prog X.w) X.A (isTrue e X.env (eval e X.env)) (TP X pins σ Q) X.xe s
def PW (X:Cx)(e:Expr)(t:TT):Prop :=
 ∀ (whole:Sem Value) (pins:List (Addr×Obj)) (s:Shared) (σ:St) (H:Hp) (Q:Bool→Hp→Prop),Inv X pins σ H s→t σ H Q→wpAny (model X.prog X.w) X.A (isTrue e X.env whole) (TP X pins σ Q) X.xe s
theorem PW.pt {X:Cx}{e:Expr}{t:TT}(h:PW X e t):PT X e t:=h _
def PA (X:Cx)(es:List Expr)(t:TA):Prop :=
 ∀ (pos:Pos) (pins:List (Addr×Obj)) (s:Shared) (σ:St) (H:Hp) (Q:List V→Hp→Prop),Inv X pins σ H s→t σ H Q→wpAny (model X.prog X.w) X.A (spliced (backTo pos (starEach es X.env))) (AP X pins σ Q) X.xe s
def PS (X:Cx)(st:Stmt)(t:TS):Prop :=
 ∀ (pins:List (Addr×Obj)) (s:Shared) (σ:St) (H:Hp) (D:XY),Inv X pins σ H s→t D σ H→wpAny (model X.prog X.w) X.A (exec st X.env) (SP X pins D) X.xe s
def PSs (X:Cx)(st:List Stmt)(t:TS):Prop :=
 ∀ (pins:List (Addr×Obj)) (s:Shared) (σ:St) (H:Hp) (D:XY),Inv X pins σ H s→t D σ H→wpAny (model X.prog X.w) X.A (execs st X.env) (SP X pins D) X.xe s
theorem Zr {α:Type}{t:Sem α}{Q Q':α→Shared→Prop}{M:Model}{A:Around}{E:Zv}{s:Shared}(h:wpAny M A t Q E s)(hQ:∀ a s,Q a s→Q' a s):wpAny M A t Q' E s:=wpAny_mono h hQ fun _ _ x=>x
end L2
namespace L2
open PySem PySem.Spec PyProof.Rows
section
variable {X:Cx}
def Ui (i:Nat):TE:=fun σ H Q=>∃ v,σ[i]?=some (some v)∧Q v H
def tC (v:V):TE:=fun _ H Q=>Q v H
theorem ZlE {i:Nat}{x:Str}{pos:Pos}(hN:X.N[i]?=some x)(hv:Vis X.env.scope x)(hd:(x == ("__debug__":Str))=false:=by decide)(hcd:(x == ("__classdict__":Str))=false:=by decide):PE X (.Name x pos) (Ui i):=by
 intro pins s σ H Q I h
 obtain ⟨v,e,h⟩:=h
 obtain ⟨m,hn,hl⟩:=I.loc
 obtain ⟨u,r,l⟩:=hl i x v hN e hv
 have fin:EP X pins σ Q u s:=⟨v,H,I,r,h⟩
 rcases l with ⟨hk,hm⟩ | ⟨hk,c,hc,hcell⟩
 · exact wpAny_Name (wpAny_loadName_local I.ok.kind hk hn hm fin) hd
 · rcases hk with hk | hk
   · exact wpAny_Name (wpAny_loadName_cell I.ok.kind hk hc hcell fin) hd
   · exact wpAny_Name (wpAny_loadName_free I.ok.kind hk hc hcell fin hcd) hd
theorem Zd {i j pos}:PE X (.Constant (.int i) j pos) (tC (.int i)):=fun _ _ _ H _ I h=>wpAny_Constant_int ⟨.int i,H,I.tok _,⟨_,rfl⟩,h⟩
theorem XR {b j pos}:PE X (.Constant (.bool b) j pos) (tC (.bl b)):=fun _ _ _ H _ I h=>Constant_bool ⟨.bl b,H,I,rfl,h⟩
theorem ZY {x j pos}:PE X (.Constant (.str x) j pos) (tC (.str x)):=fun _ _ _ H _ I h=>Calls.Constant_str ⟨.str x,H,I.tok _,⟨_,rfl⟩,h⟩
def Gl (X:Cx)(x:Str):Prop:=X.env.kindOf x=some .globalImplicit
theorem ZbH {E:Zv}{pins:List (Addr×Obj)}{s:Shared}{σ:St}{H:Hp}{x:Str}{u:Value}{pos:Pos}{Q:Zv}(I:Inv X pins σ H s)(hg:Gl X x)(hm:X.mg x=some u)(h:Q u s)
   (hd:(x == ("__debug__":Str))=false:=by decide):wpAny (model X.prog X.w) X.A (eval (.Name x pos) X.env) Q E s :=
 Calls.Name_function_global I.ok.kind hg (Calls.loadGlobal_global (by rw [I.ok.glob];exact I.mod.glob.keeps I.bk) hm h) hd
theorem WM {E:Zv}{pins:List (Addr×Obj)}{s:Shared}{σ:St}{H:Hp}{x:Str}{u:Value}{pos:Pos}{Q:Zv}(I:Inv X pins σ H s)(hg:Gl X x)(hm:X.mg x=none)(hv:bootBuiltins x=some u)(h:Q u s)
   (hn:x≠"__name__":=by decide) (hd:(x == ("__debug__":Str))=false:=by decide):wpAny (model X.prog X.w) X.A (eval (.Name x pos) X.env) Q E s:=by
 obtain ⟨mb,h1,h2⟩:=I.mod.blt
 exact Calls.Name_function_global I.ok.kind hg (Calls.loadGlobal_builtin (by rw [I.ok.glob];exact I.mod.glob.keeps I.bk) hm (by rw [I.ok.blt];exact h1.keeps I.bk) ((h2 x hn).trans hv) h) hd
theorem Xv {x:Str}{v:V}{u:Value}{pos:Pos}(hg:Gl X x)(hm:X.mg x=some u)(r:RelV v u)(hd:(x == ("__debug__":Str))=false:=by decide):PE X (.Name x pos) (tC v) :=
 fun _ _ _ H _ I h=>ZbH I hg hm ⟨v,H,I,r,h⟩ hd
variable {a b:Expr}{ta tb:TE}{pos:Pos}
def PC (X:Cx)(op:CmpOp)(a b:Expr)(t:TE):Prop :=
 ∀ (pins:List (Addr×Obj)) (s:Shared) (σ:St) (H:Hp) (Q:VK),Inv X pins σ H s→t σ H Q →
   wpAny (model X.prog X.w) X.A (eval a X.env) (fun v s₁=>wpAny (model X.prog X.w) X.A (eval b X.env) (fun u s₂=>wpAny (model X.prog X.w) X.A (compareOp op v u) (EP X pins σ Q) X.xe s₂) X.xe s₁) X.xe s
theorem Zij (b:Expr){op:CmpOp}(h:op≠.In)(h2:op≠.NotIn):behindInMarks op b=false:=by
 have e1:(op == CmpOp.In)=false:=by cases op<;>first | rfl | exact absurd rfl h
 have e2:(op == CmpOp.NotIn)=false:=by cases op<;>first | rfl | exact absurd rfl h2
 cases b<;>simp [behindInMarks,e1,e2]
def tIsN (ta:TE):TE:=fun σ H Q=>ta σ H fun x H1=>Q (.bl (decide (x=.non))) H1
theorem RelV.none_iff {x:V}{v:Value}(r:RelV x v):(v == Value.none)=decide (x=.non):=by
 cases x with
 | non=>cases r;rfl
 | bl _=>cases r;rfl
 | int _=>obtain ⟨t,rfl⟩:=r;rfl
 | str _=>obtain ⟨t,rfl⟩:=r;rfl
 | byt _=>obtain ⟨t,rfl⟩:=r;rfl
 | flt _=>obtain ⟨t,rfl⟩:=r;rfl
 | ref _=>cases r;rfl
 | ty _=>cases r;rfl
theorem ZlO {j pos'}(ha:PE X a ta):PC X .Is a (.Constant .none j pos') (tIsN ta):=by
 intro pins s σ H Q I h
 refine Zr (ha pins s σ H _ I h) fun v s1 ⟨x,H1,I1,r1,q1⟩=>?_
 exact Constant_none (is_none_gen ⟨.bl _,H1,I1,by rw [r1.none_iff];rfl,q1⟩)
def tB (t:TE):TT:=fun σ H Q=>t σ H fun x H1=>∃ c,x=.bl c∧Q c H1
theorem Zhc {op:CmpOp}{t:TE}(h:PC X op a b t)(h1:behindInMarks op b=false:=by first | exact Zij _ (by decide) (by decide) | rfl):PT X (.Compare a [op] [b] pos) (tB t):=by
 intro pins s σ H Q I hw
 refine wpAny_isTrue_Compare1 (Zr (h pins s σ H _ I hw) fun v s1 h1=>Zr h1 fun u s2 h2=>Zr h2 fun c s3 ⟨x,H1,I1,r1,q1⟩=>?_) h1
 obtain ⟨d,rfl,q⟩:=q1
 cases r1
 exact wpAny_truthy_bool ⟨H1,I1,q⟩
theorem VI {e:Expr}{t:TE}(h:PE X e t)(he:∀ whole,isTrue e X.env whole=(do let v ← whole;standAt e.pos;holding [v] (truthy v)):=by intro _;rfl):PT X e (tB t):=by
 intro pins s σ H Q I hw
 refine isTrue_plain (Zr (h pins s σ H _ I hw) fun v s1 ⟨x,H1,I1,r1,q1⟩=>?_) (he _)
 obtain ⟨d,rfl,q⟩:=q1
 cases r1
 exact wpAny_truthy_bool ⟨H1,I1,q⟩
variable {tA tB':TT}{rest:List Expr}
def Zjm (t u:TT):TT:=fun σ H Q=>t σ H fun c H1=>if c=true then u σ H1 Q else Q false H1
def tOr (t u:TT):TT:=fun σ H Q=>t σ H fun c H1=>if c=true then Q true H1 else u σ H1 Q
def tNot (t:TT):TT:=fun σ H Q=>t σ H fun c H1=>Q (!c) H1
theorem VO (ha:PT X a tA):PW X (.BoolOp .And [a] pos) tA:=by
 intro wh pins s σ H Q I h
 refine isTrue_and (Zr (ha pins s σ H Q I h) fun c s1 e=>?_)
 cases c with
 | true=>exact isTrue_and_nil e
 | false=>exact e
theorem ZbB (ha:PT X a tA):PW X (.BoolOp .Or [a] pos) tA:=by
 intro wh pins s σ H Q I h
 refine isTrue_or (Zr (ha pins s σ H Q I h) fun c s1 e=>?_)
 cases c with
 | false=>exact isTrue_or_nil e
 | true=>exact e
theorem VF (ha:PT X a tA)(hb:PW X (.BoolOp .And (b::rest) pos) tB'):PW X (.BoolOp .And (a::b::rest) pos) (Zjm tA tB'):=by
 intro wh pins s σ H Q I h
 refine isTrue_and (Zr (ha pins s σ H _ I h) fun c s1 ⟨H1,I1,q1⟩=>?_)
 cases c with
 | true=>exact hb wh pins s1 σ H1 Q I1 q1
 | false=>exact ⟨H1,I1,q1⟩
theorem Zdc (ha:PT X a tA)(hb:PW X (.BoolOp .Or (b::rest) pos) tB'):PW X (.BoolOp .Or (a::b::rest) pos) (tOr tA tB'):=by
 intro wh pins s σ H Q I h
 refine isTrue_or (Zr (ha pins s σ H _ I h) fun c s1 ⟨H1,I1,q1⟩=>?_)
 cases c with
 | true=>exact ⟨H1,I1,q1⟩
 | false=>exact hb wh pins s1 σ H1 Q I1 q1
theorem ZbA (ha:PT X a tA):PT X (.UnaryOp .Not a pos) (tNot tA):=by
 intro pins s σ H Q I h
 exact isTrue_not (ha pins s σ H (fun c H1=>Q (!c) H1) I h)
def ZmB (ta tb:TE):TE:=fun σ H Q=>ta σ H fun x H1=>∃ c,x=.bl c∧if c=true then tb σ H1 Q else Q (.bl false) H1
theorem Zli {op}{t:TE}(h:PE X a t):PE X (.BoolOp op [a] pos) t:=fun pins s σ H Q I hw=>BoolOp_one (h pins s σ H Q I hw)
theorem ZlA (ha:PE X a ta)(hb:PE X (.BoolOp .And (b::rest) pos) tb):PE X (.BoolOp .And (a::b::rest) pos) (ZmB ta tb):=by
 intro pins s σ H Q I h
 refine BoolOp_and (Zr (ha pins s σ H _ I h) fun v s1 ⟨x,H1,I1,r1,q1⟩=>?_)
 obtain ⟨c,rfl,q1⟩:=q1
 cases r1
 refine wpAny_truthy_bool ?_
 cases c with
 | true=>exact hb pins s1 σ H1 Q I1 q1
 | false=>exact ⟨.bl false,H1,I1,rfl,q1⟩
def tIf (t:TT)(ta tb:TE):TE:=fun σ H Q=>t σ H fun c H1=>if c=true then ta σ H1 Q else tb σ H1 Q
theorem Wc {c:Expr}(hc:PT X c tA)(ha:PE X a ta)(hb:PE X b tb):PE X (.IfExp c a b pos) (tIf tA ta tb):=by
 intro pins s σ H Q I h
 refine wpAny_IfExp (Zr (hc pins s σ H _ I h) fun d s1 ⟨H1,I1,q1⟩=>?_)
 cases d with
 | true=>exact ha pins s1 σ H1 Q I1 q1
 | false=>exact hb pins s1 σ H1 Q I1 q1
end
end L2
namespace L2
open PySem PySem.Spec PyProof.Rows
def SqL (K:KF)(H:Hp)(a:Addr)(xs:List V):Prop :=
 Rd H a (.lst xs) ∨
   ∃ (o:Obj) (its:Array Value) (n:Nat),K.lookup a=some o∧o.cls=.type "list"∧o.dict=none∧o.data=.seq its n∧its.size≤sizeLine∧Vals xs its.toList
def SqT (K:KF)(H:Hp)(a:Addr)(xs:List V):Prop :=
 Rd H a (.tup xs) ∨
   ∃ (o:Obj) (its:Array Value) (n:Nat),K.lookup a=some o∧o.cls=.type "tuple"∧o.data=.seq its n∧its.size≤sizeLine∧Vals xs its.toList
def ZfW:Value→Option V
 | .none=>some .non
 | .bool b=>some (.bl b)
 | .int i _=>some (.int i)
 | .str x _=>some (.str x)
 | .bytes b _=>some (.byt b)
 | .float b _=>some (.flt b)
 | .ref a=>some (.ref a)
 | .type n=>some (.ty n)
 | _=>none
theorem RelV.abs {x:V}{u:Value}(r:RelV x u):ZfW u=some x:=by
 cases x with
 | non=>cases r;rfl
 | bl _=>cases r;rfl
 | int _=>obtain ⟨t,rfl⟩:=r;rfl
 | str _=>obtain ⟨t,rfl⟩:=r;rfl
 | byt _=>obtain ⟨t,rfl⟩:=r;rfl
 | flt _=>obtain ⟨t,rfl⟩:=r;rfl
 | ref _=>cases r;rfl
 | ty _=>cases r;rfl
theorem RelV.inj {x y:V}{u:Value}(r:RelV x u)(q:RelV y u):x=y:=Option.some.inj (r.abs.symm.trans q.abs)
theorem Vals.inj:∀{xs ys:List V}{us:List Value},Vals xs us→Vals ys us→xs=ys
 | _,_,_,.nil,.nil=>rfl
 | _,_,_,.cons r t,.cons r' t'=>by rw [r.inj r',Vals.inj t t']
section
variable {X:Cx}{pins:List (Addr×Obj)}{σ:St}{H:Hp}{s:Shared}{a:Addr}{xs ys:List V}
theorem SqL.of {K:KF}(h:H a=some (.lst xs)):SqL K H a xs:=.inl (.inl h)
theorem SqT.of {K:KF}(h:H a=some (.tup xs)):SqT K H a xs:=.inl (.inl h)
theorem Inv.list (I:Inv X pins σ H s)(h:SqL X.K H a xs):∃ its:List Value,Vals xs its∧PlainL s.heap a its.toArray∧xs.length≤sizeLine:=by
 rcases h with h | ⟨o,its,n,hk,hc,hd,hs,hz,r⟩
 · obtain ⟨z,its,n,r,e⟩:=h.ok I.hok
   exact ⟨its,r,⟨_,n,e,rfl,rfl,rfl⟩,z⟩
 · refine ⟨its.toList,r,⟨o,n,I.kIn a o hk,hc,hd,by simpa using hs⟩,?_⟩
   have e:=r.length
   simp only [Array.length_toList] at e
   omega
theorem Inv.tuple (I:Inv X pins σ H s)(h:SqT X.K H a xs):∃ its:List Value,Vals xs its∧IsTup s.heap a its.toArray∧xs.length≤sizeLine:=by
 rcases h with h | ⟨o,its,n,hk,hc,hs,hz,r⟩
 · obtain ⟨z,its,r,p⟩:=h.ok I.hok
   exact ⟨its,r,p,z⟩
 · refine ⟨its.toList,r,⟨o,I.kIn a o hk,hc,n,by simpa using hs⟩,?_⟩
   have e:=r.length
   simp only [Array.length_toList] at e
   omega
theorem Inv.list_inj (I:Inv X pins σ H s)(h:SqL X.K H a xs)(h':SqL X.K H a ys):xs=ys:=by
 obtain ⟨its,r,⟨o,n,e,_,_,d⟩,_⟩:=I.list h
 obtain ⟨its',r',⟨o',n',e',_,_,d'⟩,_⟩:=I.list h'
 rw [e] at e';cases e'
 rw [d] at d'
 injection d' with d1 _
 have:its=its':=by simpa using congrArg Array.toList d1
 subst this
 exact r.inj r'
theorem Inv.tuple_inj (I:Inv X pins σ H s)(h:SqT X.K H a xs)(h':SqT X.K H a ys):xs=ys:=by
 obtain ⟨its,r,⟨o,e,_,n,d⟩,_⟩:=I.tuple h
 obtain ⟨its',r',⟨o',e',_,n',d'⟩,_⟩:=I.tuple h'
 rw [e] at e';cases e'
 rw [d] at d'
 injection d' with d1 _
 have:its=its':=by simpa using congrArg Array.toList d1
 subst this
 exact r.inj r'
end
abbrev Cx.wish (X:Cx)(E:Zv):Cx:={ X with xe:=E }
abbrev Cx.nox (X:Cx):Cx:=X.wish fun _ _=>False
theorem Cx.Ok.wish {X:Cx}(ok:X.Ok)(E:Zv):(X.wish E).Ok :=
 ⟨ok.mod,ok.kind,ok.glob,ok.blt,ok.above,ok.inj,ok.has,ok.cab,ok.hd,ok.frames,ok.stk,ok.exf,ok.bs,ok.bsz,ok.noex,ok.exfs,ok.funs,ok.frf⟩
theorem Cx.Ok.unwish {X:Cx}{E:Zv}(ok:(X.wish E).Ok):X.Ok :=
 ⟨ok.mod,ok.kind,ok.glob,ok.blt,ok.above,ok.inj,ok.has,ok.cab,ok.hd,ok.frames,ok.stk,ok.exf,ok.bs,ok.bsz,ok.noex,ok.exfs,ok.funs,ok.frf⟩
section
variable {X:Cx}{pins:List (Addr×Obj)}{σ:St}{H:Hp}{s:Shared}{E:Zv}
theorem Inv.wish (I:Inv X pins σ H s)(E:Zv):Inv (X.wish E) pins σ H s:=⟨I.ok.wish E,I.os,I.bare,I.base,I.loc,I.cell,I.free,I.freeC,I.pin,I.hok,I.len⟩
theorem Inv.unwish (I:Inv (X.wish E) pins σ H s):Inv X pins σ H s:=⟨I.ok.unwish,I.os,I.bare,I.base,I.loc,I.cell,I.free,I.freeC,I.pin,I.hok,I.len⟩
theorem SP.unwish {D:XY}{f:Flow}{s':Shared}(h:SP (X.wish E) pins D f s'):SP X pins D f s':=by
 cases f with
 | next=>obtain ⟨σ',H',I,q⟩:=h;exact ⟨σ',H',I.unwish,q⟩
 | brk=>obtain ⟨σ',H',I,q⟩:=h;exact ⟨σ',H',I.unwish,q⟩
 | cont=>obtain ⟨σ',H',I,q⟩:=h;exact ⟨σ',H',I.unwish,q⟩
 | ret u=>obtain ⟨v,σ',H',I,r,q⟩:=h;exact ⟨v,σ',H',I.unwish,r,q⟩
theorem PSs.nox {st:List Stmt}{t:TS}(h:PSs X.nox st t):PSs X st t:=fun pins s σ H D I hw =>
 wpAny_mono (h pins s σ H D (I.wish _) hw) (fun _ _ q=>q.unwish) fun _ _ z=>False.elim z
end
section
variable {X:Cx}{st:Stmt}{rest:List Stmt}{t u:TS}{e:Expr}{te:TE}{pos:Pos}
def ZjC:TS:=fun D σ H=>D.nx σ H
def tSeq (t u:TS):TS:=fun D σ H=>t { D with nx:=u D } σ H
theorem ZU:PSs X [] ZjC:=fun _ _ σ H _ I h=>wpAny_execs_nil ⟨σ,H,I,h⟩
theorem Ze (h1:PS X st t)(h2:PSs X rest u):PSs X (st::rest) (tSeq t u):=by
 intro pins s σ H D I h
 refine wpAny_execs_cons (Zr (h1 pins s σ H { D with nx:=u D } I h) fun f s1 q=>?_)
 cases f with
 | next =>
   obtain ⟨σ',H',I',q⟩:=q
   exact h2 pins s1 σ' H' D I' q
 | ret v=>exact q
 | brk=>exact q
 | cont=>exact q
theorem Zj (h1:PS X st t):PSs X [st] t:=by
 intro pins s σ H D I h
 refine wpAny_execs_cons (Zr (h1 pins s σ H D I h) fun f s1 q=>?_)
 cases f with
 | next=>exact wpAny_execs_nil q
 | ret v=>exact q
 | brk=>exact q
 | cont=>exact q
theorem Inv.quiet {pins:List (Addr×Obj)}{σ:St}{H:Hp}{s:Shared}(I:Inv X pins σ H s):interactive X.env=false:=by simp [interactive,I.ok.kind]
def ZmA (te:TE):TS:=fun D σ H=>te σ H fun _ H1=>D.nx σ H1
theorem XM (he:PE X e te)(hs:swapsWith e none pos.line X.env=pure false:=by rfl):PS X (.Expr e pos) (ZmA te):=by
 intro pins s σ H D I h
 exact wpAny_Expr_any (Zr (he pins s σ H _ I h) fun v s1 ⟨x,H1,I1,r1,q1⟩=>⟨σ,H1,I1,q1⟩) I.quiet hs
def tRet (te:TE):TS:=fun D σ H=>te σ H D.rt
theorem Zt (he:PE X e te):PS X (.Return (some e) pos) (tRet te):=by
 intro pins s σ H D I h
 exact wpAny_Return_some (Zr (he pins s σ H _ I h) fun v s1 ⟨x,H1,I1,r1,q1⟩=>⟨x,σ,H1,I1,r1,q1⟩)
def tIfS (c:TT)(t u:TS):TS:=fun D σ H=>c σ H fun b H1=>if b=true then t D σ H1 else u D σ H1
theorem Yo {c:Expr}{a b:List Stmt}{tc:TT}(hc:PT X c tc)(ha:PSs X a t)(hb:PSs X b u):PS X (.If c a b pos) (tIfS tc t u):=by
 intro pins s σ H D I h
 refine wpAny_If (Zr (hc pins s σ H _ I h) fun d s1 ⟨H1,I1,q1⟩=>?_)
 cases d with
 | true=>exact ha pins s1 σ H1 D I1 q1
 | false=>exact hb pins s1 σ H1 D I1 q1
end
abbrev TG:=V→St→Hp→(St→Hp→Prop)→Prop
abbrev TGs:=List V→St→Hp→(St→Hp→Prop)→Prop
def PG (X:Cx)(target:Expr)(t:TG):Prop :=
 ∀ (pins:List (Addr×Obj)) (s:Shared) (σ:St) (H:Hp) (v:V) (u:Value) (Q:St→Hp→Prop),Inv X pins σ H s→RelV v u→t v σ H Q →
   wpAny (model X.prog X.w) X.A (assign target X.env u) (fun _ s'=>∃ σ' H',Inv X pins σ' H' s'∧Q σ' H') X.xe s
def PGs (X:Cx)(ts:List Expr)(t:TGs):Prop :=
 ∀ (pins:List (Addr×Obj)) (s:Shared) (σ:St) (H:Hp) (vs:List V) (us:List Value) (Q:St→Hp→Prop),Inv X pins σ H s→Vals vs us→t vs σ H Q →
   wpAny (model X.prog X.w) X.A (assignInOrder ((assignEach ts X.env).map (·.2)) us) (fun _ s'=>∃ σ' H',Inv X pins σ' H' s'∧Q σ' H') X.xe s
abbrev Zih:=V→V→V→Hp→(Hp→Prop)→Prop
def PSet (X:Cx)(t:Zih):Prop :=
 ∀ (pins:List (Addr×Obj)) (s:Shared) (σ:St) (H:Hp) (o i v:V) (ov iv u:Value) (Q:Hp→Prop),Inv X pins σ H s→RelV o ov→RelV i iv→RelV v u→t o i v H Q →
   wpAny (model X.prog X.w) X.A (setItem ov iv u) (fun _ s'=>∃ H',Inv X pins σ H' s'∧Q H') X.xe s
abbrev TIp:=V→V→Hp→VK→Prop
def PIp (X:Cx)(op:Operator)(t:TIp):Prop :=
 ∀ (pins:List (Addr×Obj)) (s:Shared) (σ:St) (H:Hp) (x y:V) (v u:Value) (Q:VK),Inv X pins σ H s→RelV x v→RelV y u→t x y H Q →
   wpAny (model X.prog X.w) X.A (inplaceOp op v u) (EP X pins σ Q) X.xe s
section
variable {X:Cx}{pos:Pos}
def ZcX (i:Nat):TG:=fun v σ H Q=>Q (σ.set i (some v)) H
theorem Yp {i:Nat}{x:Str}(hN:X.N.Nodup)(hi:X.N[i]?=some x)(hx:Loc X.env.scope x)(hf:X.fn x=true∨X.env.scope.names.lookup x=some .local:=by first | exact .inl rfl | exact .inr rfl | assumption):PG X (.Name x pos) (ZcX i):=by
 intro pins s σ H v u Q I r h
 exact wpAny_assign_Name (WI I hN hi hx r (fun s' I'=>⟨_,H,I',h⟩) hf)
def gNil:TGs:=fun vs σ H Q=>vs=[]∧Q σ H
def ZmC (t:TG)(u:TGs):TGs:=fun vs σ H Q=>∃ v r,vs=v::r∧t v σ H fun σ' H'=>u r σ' H' Q
theorem Zci:PGs X [] gNil:=by
 intro pins s σ H vs us Q I r h
 obtain ⟨e,h⟩:=h
 subst e
 cases r
 exact assignInOrder_nil ⟨σ,H,I,h⟩
theorem Wb {e:Expr}{es:List Expr}{t:TG}{u:TGs}(h1:PG X e t)(h2:PGs X es u)
   (hs:(assignEach (e::es) X.env).map (·.2)=assign e X.env::(assignEach es X.env).map (·.2):=by rfl):PGs X (e::es) (ZmC t u):=by
 intro pins s σ H vs us Q I r h
 obtain ⟨v,vr,e1,h⟩:=h
 subst e1
 cases r with
 | cons r rr =>
   rw [hs]
   refine assignInOrder_cons (Zr (h1 pins s σ H _ _ _ I r h) fun _ s1 ⟨σ1,H1,I1,q1⟩=>?_)
   exact h2 pins s1 σ1 H1 _ _ Q I1 rr q1
def gTup (K:KF)(n:Nat)(t:TGs):TG:=fun v σ H Q=>∃ a xs,v=.ref a∧SqT K H a xs∧xs.length=n∧t xs σ H Q
theorem Zej {es:List Expr}{k:Nat}{t:TGs}{n:Nat}(hc:X.calm=true)(h:PGs X es t)
   (hn:(assignEach es X.env).length=n:=by rfl) (hst:(assignEach es X.env).findIdx? (·.1)=none:=by rfl):PG X (.Tuple es k pos) (gTup X.K n t):=by
 intro pins s σ H v u Q I r hw
 obtain ⟨a,xs,e1,hq,hl,hw⟩:=hw
 subst e1
 cases r
 obtain ⟨its,rv,ht,hz⟩:=I.tuple hq
 refine assign_Tuple_tuple (I.ok.hd hc) ht (by simp [hn,← hl,rv.length]) hst fun h' hx=>?_
 have I1:Inv X pins σ H { s with heap:=h' }:=I.kept (t':=s.toks) fun b o e=>hx b o (Nat.ne_of_lt (Heap.lt_size e)) e
 exact h pins _ σ H xs _ Q I1 (by simpa using rv) hw
def gSub (to ti:TE)(t:Zih):TG:=fun v σ H Q=>to σ H fun o H1=>ti σ H1 fun i H2=>t o i v H2 fun H3=>Q σ H3
theorem VM {o i:Expr}{to ti:TE}{t:Zih}(ho:PE X o to)(hi:PE X i ti)(hs:PSet X t)
   (ha:∀ v,assign (.Subscript o i pos) X.env v=(do
     let ov ← holding [v] (eval o X.env)
     let iv ← holding [v,ov] (eval i X.env)
     standAt pos
     holding [v,ov,iv] (setItem ov iv v)
     release [v,ov,iv] []):=by intro _;rfl):PG X (.Subscript o i pos) (gSub to ti t):=by
 intro pins s σ H v u Q I r h
 rw [ha]
 refine wpAny_bind (wpAny_holding (Zr (ho pins s σ H _ I h) fun ov s1 ⟨x,H1,I1,r1,q1⟩=>?_))
 refine wpAny_bind (wpAny_holding (Zr (hi pins s1 σ H1 _ I1 q1) fun iv s2 ⟨y,H2,I2,r2,q2⟩=>?_))
 refine wpAny_bind (wpAny_standAt (wpAny_bind (wpAny_holding (Zr (hs pins s2 σ H2 x y v ov iv u _ I2 r1 r2 r q2) fun _ s3 ⟨H3,I3,q3⟩=>?_))))
 exact wpAny_release ⟨σ,H3,I3,q3⟩
def ZfO (te:TE)(g:TG):TS:=fun D σ H=>te σ H fun x H1=>g x σ H1 D.nx
theorem Uu {tg e:Expr}{te:TE}{g:TG}(he:PE X e te)(hg:PG X tg g)(hs:swapsWithSole [tg] e pos.line X.env=pure false:=by rfl)(hw:swappedStores [tg] e X.env=pure none:=by rfl)
   (h1:(assignEach [tg] X.env).map (·.2)=[assign tg X.env]:=by rfl):PS X (.Assign [tg] e pos) (ZfO te g):=by
 intro pins s σ H D I h
 refine wpAny_Assign_stores (Zr (he pins s σ H _ I h) fun v s1 ⟨x,H1,I1,r1,q1⟩=>?_) hs hw
 rw [h1]
 exact Zr (hg pins s1 σ H1 x v _ I1 r1 q1) fun _ s2 q=>q
theorem Zs {i:Nat}{x:Str}{e:Expr}{te:TE}{pos':Pos}(hN:X.N.Nodup)(hi:X.N[i]?=some x)(hx:Loc X.env.scope x)(he:PE X e te)(hs:swapsWith e (some (.Name x pos')) pos.line X.env=pure false:=by rfl)(hf:X.fn x=true∨X.env.scope.names.lookup x=some .local:=by first | exact .inl rfl | exact .inr rfl | assumption) :
   PS X (.Assign [.Name x pos'] e pos) (ZfO te (ZcX i)):=by
 intro pins s σ H D I h
 refine wpAny_Assign_Name (Zr (he pins s σ H _ I h) fun v s1 ⟨y,H1,I1,r1,q1⟩=>?_) hs
 exact WI I1 hN hi hx r1 (fun s2 I2=>⟨_,H1,I2,q1⟩) hf
def tPar (i j:Nat)(ta:TA):TS:=fun D σ H=>ta σ H fun vs H1=>∃ v w,vs=[v,w]∧D.nx ((σ.set i (some v)).set j (some w)) H1
theorem Wo {i j:Nat}{x y:Str}{a b:Expr}{ta:TA}{px py pt:Pos}{kt k2 pt2}(hc:X.calm=true)(hN:X.N.Nodup)(hi:X.N[i]?=some x)(hj:X.N[j]?=some y)(hij:i≠j)
   (hx:X.env.scope.names.lookup x=some .local) (hy:X.env.scope.names.lookup y=some .local) (ha:PA X [a,b] ta)
   (hw:swappedStores [.Tuple [.Name x px,.Name y py] kt pt] (.Tuple [a,b] k2 pt2) X.env=pure (some [x,y]))
   (hs:swapsWithSole [.Tuple [.Name x px,.Name y py] kt pt] (.Tuple [a,b] k2 pt2) pos.line X.env=pure false:=by rfl) :
   PS X (.Assign [.Tuple [.Name x px,.Name y py] kt pt] (.Tuple [a,b] k2 pt2) pos) (tPar i j ta):=by
 intro pins s σ H D I h
 rw [exec_Assign_arm]
 refine wpAny_bind (wpAny_standAt ?_)
 rw [hs]
 refine wpAny_bind (wpAny_pure ?_)
 rw [if_neg (by decide)]
 refine wpAny_bind (Tuple_ (Zr (ha _ pins s σ H _ I h) fun us s1 ⟨vs,H1,I1,r1,q1⟩=>?_))
 obtain ⟨v,w,e1,q1⟩:=q1
 subst e1
 obtain ⟨u1,u2,rfl,rv,rw'⟩:∃ u1 u2,us=[u1,u2]∧RelV v u1∧RelV w u2:=by
   cases r1 with
   | cons p q =>
     cases q with
     | cons p' q' =>
       cases q'
       exact ⟨_,_,rfl,p,p'⟩
 refine wpAny_newObj_type ?_ (by show 2≤sizeLine;decide)
 have I2:Inv X pins σ H1 { s1 with heap:=s1.heap.push { cls:=.type "tuple",data:=.seq [u1,u2].toArray } }:=I1.kept (t':=s1.toks) fun b o e=>Heap.get?_push_of_some _ e
 rw [hw]
 refine wpAny_bind (wpAny_pure ?_)
 show wpAny (model X.prog X.w) X.A (do rule "assign.swapped-stores";let items ← unpackItems (.ref s1.heap.objs.size) 2 none;assignInOrder [fun v=>bindName X.env y v,fun v=>bindName X.env x v] items.reverse;pure Flow.next) _ _ _
 refine wpAny_bind (wpAny_rule (wpAny_bind (unpackItems_tuple (items:=#[u1,u2]) (I.ok.hd hc) (IsTup.new s1.heap _) fun h' hx'=>?_)))
 have I3:=I2.kept (h':=h') (t':=s1.toks) fun b o e=>hx' b o (Nat.ne_of_lt (Heap.lt_size e)) e
 show wpAny _ _ (assignInOrder [fun v=>bindName X.env y v,fun v=>bindName X.env x v] [u2,u1] >>= fun _=>pure Flow.next) _ _ _
 refine wpAny_bind (assignInOrder_cons (wpAny_bindName (WI I3 hN hj (.inl hy) rw' (fun s2 I4=>?_) (.inr hy))))
 refine assignInOrder_cons (wpAny_bindName (WI I4 hN hi (.inl hx) rv (fun s3 I5=>assignInOrder_nil (wpAny_pure ?_)) (.inr hx)))
 rw [List.set_comm _ _ (Ne.symm hij)] at I5
 exact ⟨_,H1,I5,q1⟩
def tAug (i:Nat)(te:TE)(ti:TIp):TS:=fun D σ H=>∃ x,σ[i]?=some (some x)∧te σ H fun y H1=>ti x y H1 fun z H2=>D.nx (σ.set i (some z)) H2
theorem Zhp {i:Nat}{x:Str}{e:Expr}{te:TE}{op:Operator}{ti:TIp}{pos':Pos}(hN:X.N.Nodup)(hi:X.N[i]?=some x)(hx:Loc X.env.scope x)(he:PE X e te)(ho:PIp X op ti)(hf:X.fn x=true∨X.env.scope.names.lookup x=some .local:=by first | exact .inl rfl | exact .inr rfl | assumption) :
   PS X (.AugAssign (.Name x pos') op e pos) (tAug i te ti):=by
 intro pins s σ H D I h
 obtain ⟨v,e1,h⟩:=h
 obtain ⟨m,hn,hl⟩:=I.loc
 have vis:Vis X.env.scope x:=by rcases hx with k | k;exact .inl k;exact .inr (.inl k)
 obtain ⟨u,r,l⟩:=hl i x v hi e1 vis
 refine wpAny_AugAssign_Name ?_
 have go:wpAny (model X.prog X.w) X.A (eval e X.env) (fun w s₂=>wpAny (model X.prog X.w) X.A (inplaceOp op u w) (fun r s₃=>wpAny (model X.prog X.w) X.A (storeName X.env x r) (fun _=>SP X pins D .next) X.xe s₃) X.xe s₂) X.xe s:=by
   refine Zr (he pins s σ H _ I h) fun w s1 ⟨y,H1,I1,r1,q1⟩=>?_
   refine Zr (ho pins s1 σ H1 v y u w _ I1 r r1 q1) fun z s2 ⟨zv,H2,I2,r2,q2⟩=>?_
   exact WI I2 hN hi hx r2 (fun s3 I3=>⟨_,H2,I3,q2⟩) hf
 rcases l with ⟨hk,hm⟩ | ⟨hk,c,hc,hcell⟩
 · exact wpAny_loadName_local I.ok.kind hk hn hm go
 · rcases hk with hk | hk
   · exact wpAny_loadName_cell I.ok.kind hk hc hcell go
   · rcases hx with k | k
     · have:X.env.scope.names.lookup x=some .free:=hk
       rw [k] at this;cases this
     · have:X.env.scope.names.lookup x=some .free:=hk
       rw [k] at this;cases this
def ipI (f:Int→Int→Int):TIp:=fun x y H Q=>∃ i j,x=.int i∧y=.int j∧Q (.int (f i j)) H
theorem Zhb:PIp X .Add (ipI fun i j=>i+j):=by
 intro pins s σ H x y v u Q I r1 r2 h
 obtain ⟨i,j,e1,e2,q⟩:=h
 subst e1;subst e2
 obtain ⟨t,rfl⟩:=r1
 obtain ⟨t',rfl⟩:=r2
 exact iadd_int ⟨.int _,H,I.tok _,⟨_,rfl⟩,q⟩
end
section
variable {X:Cx}{pos:Pos}
def Zhf (c:TT)(tb:TS):TS:=fun D σ H=>∃ W:Nat→St→Hp→Prop,(∃ m,W m σ H)∧∀ m σ H,W m σ H →
 c σ H fun b H1=>if b=true then ∃ N:St→Hp→Prop,(∀ σ' H',N σ' H'→∃ m',m' < m∧W m' σ' H')∧tb { D with nx:=N,ct:=N,bk:=D.nx } σ H1 else D.nx σ H1
theorem ZaO {c:Expr}{body:List Stmt}{tc:TT}{tb:TS}(hp:PassesOwn (model X.prog X.w) X.A X.env X.xe)(hc:PT X c tc)(hb:PSs X body tb):PS X (.While c body [] pos) (Zhf tc tb):=by
 intro pins s σ H D I h
 obtain ⟨W,⟨m0,w0⟩,turn⟩:=h
 refine wpAny_While (codeAny_whileLoop (fun n s'=>∃ σ' H',Inv X pins σ' H' s'∧W n σ' H') ?_ m0 ⟨σ,H,I,w0⟩)
 rintro n s1 ⟨σ1,H1,I1,w1⟩
 refine wpAny_passesOwn hp (Zr (hc pins s1 σ1 H1 _ I1 (turn n σ1 H1 w1)) fun b s2 ⟨H2,I2,q2⟩=>?_)
 cases b with
 | true =>
   obtain ⟨N,hN,q2⟩:=q2
   rw [if_pos rfl]
   refine wpAny_passesOwn hp (Zr (hb pins s2 σ1 H2 _ I2 q2) fun f s3 q3=>?_)
   cases f with
   | next =>
     obtain ⟨σ3,H3,I3,n3⟩:=q3
     obtain ⟨m',hm,w3⟩:=hN σ3 H3 n3
     exact ⟨m',hm,σ3,H3,I3,w3⟩
   | cont =>
     obtain ⟨σ3,H3,I3,n3⟩:=q3
     obtain ⟨m',hm,w3⟩:=hN σ3 H3 n3
     exact ⟨m',hm,σ3,H3,I3,w3⟩
   | brk=>exact q3
   | ret v=>exact q3
 | false =>
   rw [if_neg Bool.false_ne_true]
   exact wpAny_execs_nil ⟨σ1,H2,I2,q2⟩
end
structure It where
 go:Nat→Hp→Prop
 yld:Nat→Hp→V→Hp→Prop
 stop:Nat→Hp→Prop
def Xc (X:Cx)(pins:List (Addr×Obj))(H:Hp)(b:Addr):Prop :=
 H b=none∧b≠X.env.locals∧b ∉ X.fs∧(b∈X.ex∨X.s₀.heap.objs.size≤b)∧(∀ x c,X.env.cells.lookup x=some c→c≠b)∧∀ p∈X.pn++pins,p.1≠b
theorem Inv.fpOk {X:Cx}{pins:List (Addr×Obj)}{σ:St}{H H':Hp}{s:Shared}{b:Addr}(I:Inv X pins σ H s)(hb:s.heap.objs.size≤b)(hn:H' b=none):Xc X pins H' b:=by
 refine ⟨hn,Nat.ne_of_gt (Nat.lt_of_lt_of_le I.lt hb),I.nofs hb,.inr (Nat.le_trans I.sz hb),fun x c e z=>?_,fun p hp z=>?_⟩
 · obtain ⟨v,q⟩:=I.cell x c e
   exact absurd (Nat.lt_of_lt_of_le q.lt (by rw [z];exact hb)) (Nat.lt_irrefl _)
 · exact absurd (Nat.lt_of_lt_of_le (Heap.lt_size (I.pin p hp).1) (by rw [z];exact hb)) (Nat.lt_irrefl _)
structure UR (P:Program)(w:World)(K:KF)(tg:Expr)(J:It)(fp:List Addr)(it:Addr)(tn:Nat→Heap→Prop):Prop where
 mem:it∈fp
 obj:∀ i h,tn i h→∀ b∈fp,∃ o,h.get? b=some o∧∀ v,o.data≠.cell v
 keep:∀ i h h',tn i h→(∀ b∈fp,∀ o,h.get? b=some o→h'.get? b=some o)→tn i h'
 item:∀ (X:Cx),X.prog=P→X.w=w→X.K=K→X.calm=true→∀ (i:Nat) (pins:List (Addr×Obj)) (s:Shared) (σ:St) (H:Hp) (E:Zv),Inv X pins σ H s→(∀ b∈fp,Xc X pins H b)→tn i s.heap→J.go i H →
   wpAny (model P w) X.A (pyNext (.ref it)) (fun r s1=>∃ u,r=some u ∧
     wpAny (model P w) X.A (letOwnedTupleGo tg (.ref it) u) (fun _ s2=>∃ x H',Inv X pins σ H' s2∧RelV x u∧J.yld i H x H'∧tn (i+1) s2.heap∧∀ b∈fp,H' b=none) E s1) E s
 done:∀ (X:Cx),X.prog=P→X.w=w→X.K=K→X.calm=true→∀ (i:Nat) (pins:List (Addr×Obj)) (s:Shared) (σ:St) (H:Hp) (E:Zv),Inv X pins σ H s→(∀ b∈fp,Xc X pins H b)→tn i s.heap→J.stop i H →
   wpAny (model P w) X.A (pyNext (.ref it)) (fun r s1=>r=none∧Inv X pins σ H s1) E s
 self:∀ (A:Around) (i:Nat) (s:Shared) (Q:Zv) (E:Zv),tn i s.heap→Q (.ref it) s→wpAny (model P w) A (pyIter (.ref it)) Q E s
abbrev TI:=St→Hp→(It→Hp→Prop)→Prop
def PIE (X:Cx)(pins:List (Addr×Obj))(σ:St)(tg:Expr)(R:It→Hp→Prop)(itv:Value)(s2:Shared):Prop :=
 ∃ (it:Addr) (fp:List Addr) (tn:Nat→Heap→Prop) (J:It) (H':Hp),itv=.ref it∧Inv X pins σ H' s2∧UR X.prog X.w X.K tg J fp it tn∧tn 0 s2.heap∧(∀ b∈fp,Xc X pins H' b)∧R J H'
def PI (X:Cx)(tg iter:Expr)(wi:TI):Prop :=
 ∀ (pins:List (Addr×Obj)) (s:Shared) (σ:St) (H:Hp) (R:It→Hp→Prop),Inv X pins σ H s→wi σ H R →
   wpAny (model X.prog X.w) X.A (eval iter X.env) (fun v s1=>wpAny (model X.prog X.w) X.A (pyIter v) (PIE X pins σ tg R) X.xe s1) X.xe s
theorem ZcU {M:Model}{A:Around}{E:Zv}{s:Shared}{tg:Expr}{it:Addr}{u:Value}{o:Obj}{n:String}{vs:Array Value}{Q:Unit→Shared→Prop}(ho:s.heap.get? it=some o)(hc:o.cls=.type n)(hd:o.data=.fields vs)
   (hn:["enumerate","zip","dict_itemiterator","dict_reverseitemiterator","odict_iterator","itertools.zip_longest","itertools.pairwise"].contains n=false) (hQ:Q () s):wpAny M A (letOwnedTupleGo tg (.ref it) u) Q E s:=by
 unfold letOwnedTupleGo
 cases tg <;> first
   | exact wpAny_pure hQ
   | (cases u<;>first
       | exact wpAny_pure hQ
       | (refine wpAny_bind (wpAny_load ho ?_)
          rw [hc,hd]
          show wpAny M A (if (["enumerate","zip","dict_itemiterator","dict_reverseitemiterator","odict_iterator","itertools.zip_longest","itertools.pairwise"].contains n&&vs[0]? == some (rawInt _))=true then _ else _) Q E s
          rw [if_neg (by intro h;rw [hn,Bool.false_and] at h;cases h)]
          exact wpAny_pure hQ))
def Itl (K:KF)(a:Addr):It :=
 ⟨fun i H=>∃ xs x,SqL K H a xs∧xs[i]?=some x,fun i H x H'=>H'=H∧∀ xs,SqL K H a xs→xs[i]?=some x,fun i H=>∃ xs,SqL K H a xs∧xs.length≤i⟩
def Itt (K:KF)(a:Addr):It :=
 ⟨fun i H=>∃ xs x,SqT K H a xs∧xs[i]?=some x,fun i H x H'=>H'=H∧∀ xs,SqT K H a xs→xs[i]?=some x,fun i H=>∃ xs,SqT K H a xs∧xs.length≤i⟩
def Itr (lo:Int)(n:Nat):It:=⟨fun i _=>i < n,fun i H x H'=>H'=H∧x=.int (lo+i),fun i _=>n≤i⟩
theorem Zgt {P:Program}{w:World}{K:KF}{tg:Expr}(a it:Addr):UR P w K tg (Itl K a) [it] it (fun i h=>h.IsListIter it a i) where
 mem:=by simp
 obj:=fun i h st b hb=>by
   have e:b=it:=by simpa using hb
   subst e
   obtain ⟨o,e,c,d⟩:=st
   exact ⟨o,e,fun v z=>by rw [d] at z;cases z⟩
 keep:=fun i h h' st k=>st.at fun o e=>k it (by simp) o e
 item:=by
   intro X hP hw hK hc i pins s σ H E I hf st hg
   subst hP hw hK
   obtain ⟨xs,x,hq,hx⟩:=hg
   obtain ⟨its,rv,p,hz⟩:=I.list hq
   obtain ⟨u,hu,ru⟩:=rv.get hx
   obtain ⟨f0,f1,f2,f3,f4,f5⟩:=hf it (by simp)
   refine wpAny_pyNext_list_item st p.isList (x:=u) (by simpa using hu) fun h' st' sb=>?_
   have I1:Inv X pins σ H { s with heap:=h' }:=I.turned (t':=s.toks) (fun b o hb e=>(sb.2 b hb).trans e) f0 f1 f3 f4 f5
   obtain ⟨o,e,c,d⟩:=id st'
   exact ⟨u,rfl,ZcU (s:={ s with heap:=h' }) e c d (by decide) ⟨x,H,I1,ru,⟨rfl,fun ys hy=>by rw [I.list_inj hy hq];exact hx⟩,st',fun b hb=>(hf b hb).1⟩⟩
 done:=by
   intro X hP hw hK hc i pins s σ H E I hf st hg
   subst hP hw hK
   obtain ⟨xs,hq,hx⟩:=hg
   obtain ⟨its,rv,p,hz⟩:=I.list hq
   obtain ⟨f0,f1,f2,f3,f4,f5⟩:=hf it (by simp)
   have hl:=rv.length
   exact wpAny_pyNext_list_end (I.ok.hd hc) st p.isList (by simp;omega) fun h' eb=>⟨rfl,I.turned (t':=s.toks) (fun b o hb e=>eb b o hb e) f0 f1 f3 f4 f5⟩
 self:=fun _ _ _ _ _ st h=>wpAny_pyIter_listiter st h
theorem ZfM {P:Program}{w:World}{K:KF}{tg:Expr}(a it:Addr):UR P w K tg (Itt K a) [it] it (fun i h=>h.IsTupleIter it a i) where
 mem:=by simp
 obj:=fun i h st b hb=>by
   have e:b=it:=by simpa using hb
   subst e
   obtain ⟨o,e,c,d⟩:=st
   exact ⟨o,e,fun v z=>by rw [d] at z;cases z⟩
 keep:=fun i h h' st k=>st.at fun o e=>k it (by simp) o e
 item:=by
   intro X hP hw hK hc i pins s σ H E I hf st hg
   subst hP hw hK
   obtain ⟨xs,x,hq,hx⟩:=hg
   obtain ⟨its,rv,p,hz⟩:=I.tuple hq
   obtain ⟨u,hu,ru⟩:=rv.get hx
   obtain ⟨f0,f1,f2,f3,f4,f5⟩:=hf it (by simp)
   refine wpAny_pyNext_tuple_item st (show s.heap.IsTuple a its.toArray from p) (x:=u) (by simpa using hu) fun h' st' sb=>?_
   have I1:Inv X pins σ H { s with heap:=h' }:=I.turned (t':=s.toks) (fun b o hb e=>(sb.2 b hb).trans e) f0 f1 f3 f4 f5
   obtain ⟨o,e,c,d⟩:=id st'
   exact ⟨u,rfl,ZcU (s:={ s with heap:=h' }) e c d (by decide) ⟨x,H,I1,ru,⟨rfl,fun ys hy=>by rw [I.tuple_inj hy hq];exact hx⟩,st',fun b hb=>(hf b hb).1⟩⟩
 done:=by
   intro X hP hw hK hc i pins s σ H E I hf st hg
   subst hP hw hK
   obtain ⟨xs,hq,hx⟩:=hg
   obtain ⟨its,rv,p,hz⟩:=I.tuple hq
   obtain ⟨f0,f1,f2,f3,f4,f5⟩:=hf it (by simp)
   have hl:=rv.length
   exact wpAny_pyNext_tuple_end (I.ok.hd hc) st (show s.heap.IsTuple a its.toArray from p) (by simp;omega) fun h' eb=>⟨rfl,I.turned (t':=s.toks) (fun b o hb e=>eb b o hb e) f0 f1 f3 f4 f5⟩
 self:=fun _ _ _ _ _ st h=>wpAny_pyIter_tupleiter st h
theorem Zgb {P:Program}{w:World}{K:KF}{tg:Expr}(it:Addr)(lo:Int)(n:Nat):UR P w K tg (Itr lo n) [it] it (fun i h=>IsRangeIter h it (lo+(i:Nat) * 1) ((n:Int) - (i:Nat)) 1) where
 mem:=by simp
 obj := fun i h st b hb=>by
   have e:b=it:=by simpa using hb
   subst e
   exact ⟨_,st,fun v z=>by
     have z':Data.fields _=Data.cell v:=z
     cases z'⟩
 keep:=fun i h h' st k=>k it (by simp) _ st
 item:=by
   intro X hP hw hK hc i pins s σ H E I hf st hg
   subst hP hw hK
   obtain ⟨f0,f1,f2,f3,f4,f5⟩:=hf it (by simp)
   have W:=Walks.range (prog:=X.prog) (w:=X.w) (I.ok.hd hc) it lo 1 n
   refine W.item i s _ _ hg st fun v h' tk hv st' kk=>?_
   obtain ⟨t,rfl⟩:=hv
   have I1:Inv X pins σ H { s with heap:=h',toks:=tk }:=I.turned (fun b o hb e=>kk b o (by simpa using hb) e) f0 f1 f3 f4 f5
   refine ⟨_,rfl,ZcU (s:={ s with heap:=h',toks:=tk }) (n:="range_iterator") st' rfl rfl (by decide) ⟨.int (lo+i),H,I1,⟨t,?_⟩,⟨rfl,rfl⟩,st',fun b hb=>(hf b hb).1⟩⟩
   rw [Int.mul_one]
 done:=by
   intro X hP hw hK hc i pins s σ H E I hf st hg
   subst hP hw hK
   obtain ⟨f0,f1,f2,f3,f4,f5⟩:=hf it (by simp)
   exact wpAny_pyNext_range_end (I.ok.hd hc) st (by have:n≤i:=hg;omega) fun h' eb=>⟨rfl,I.turned (t':=s.toks) (fun b o hb e=>eb b o hb e) f0 f1 f3 f4 f5⟩
 self:=fun _ _ _ _ _ st h=>wpAny_pyIter_rangeiter st h
end L2
namespace L2
open PySem PySem.Spec PyProof.Rows
section
variable {X:Cx}{tg:Expr}
def ZmI (K:KF)(tl:TE):TI:=fun σ H R=>tl σ H fun x H1=>∃ a,x=.ref a∧(∃ xs,SqL K H1 a xs)∧R (Itl K a) H1
def iTup (K:KF)(tl:TE):TI:=fun σ H R=>tl σ H fun x H1=>∃ a,x=.ref a∧(∃ xs,SqT K H1 a xs)∧R (Itt K a) H1
theorem UA {l:Expr}{tl:TE}(hl:PE X l tl):PI X tg l (ZmI X.K tl):=by
 intro pins s σ H R I h
 refine Zr (hl pins s σ H _ I h) fun v s1 ⟨x,H1,I1,r1,q1⟩=>?_
 obtain ⟨a,e,⟨xs,hq⟩,q⟩:=q1
 subst e
 cases r1
 obtain ⟨its,rv,p,hz⟩:=I1.list hq
 refine wpAny_pyIter_list p.isList ?_
 refine ⟨s1.heap.objs.size,[s1.heap.objs.size],_,_,H1,rfl,I1.kept (t':=s1.toks) fun b o e=>Heap.get?_push_of_some _ e,Zgt a _,⟨_,Heap.get?_push_size _ rfl,rfl,rfl⟩,fun b hb=>?_,q⟩
 have e:b=s1.heap.objs.size:=by simpa using hb
 subst e
 exact I1.fpOk (Nat.le_refl _) (I1.hok.fresh (Nat.le_refl _))
theorem Zbh {l:Expr}{tl:TE}(hl:PE X l tl):PI X tg l (iTup X.K tl):=by
 intro pins s σ H R I h
 refine Zr (hl pins s σ H _ I h) fun v s1 ⟨x,H1,I1,r1,q1⟩=>?_
 obtain ⟨a,e,⟨xs,hq⟩,q⟩:=q1
 subst e
 cases r1
 obtain ⟨its,rv,p,hz⟩:=I1.tuple hq
 refine wpAny_pyIter_tuple (show s1.heap.IsTuple a its.toArray from p) ?_
 refine ⟨s1.heap.objs.size,[s1.heap.objs.size],_,_,H1,rfl,I1.kept (t':=s1.toks) fun b o e=>Heap.get?_push_of_some _ e,ZfM a _,⟨_,Heap.get?_push_size _ rfl,rfl,rfl⟩,fun b hb=>?_,q⟩
 have e:b=s1.heap.objs.size:=by simpa using hb
 subst e
 exact I1.fpOk (Nat.le_refl _) (I1.hok.fresh (Nat.le_refl _))
theorem Zje {pins:List (Addr×Obj)}{σ:St}{H:Hp}{s:Shared}{R:It→Hp→Prop}{E:Zv}{lo hi:Int}{t u v:Tok}{tk:Nat}(I:Inv X pins σ H s)(h1:-(2 ^ 62)≤lo)(h2:lo < 2 ^ 62)(h3:-(2 ^ 62)≤hi)(h4:hi < 2 ^ 62)
   (q:R (Itr lo (hi - lo).toNat) H):wpAny (model X.prog X.w) X.A (pyIter (.ref s.heap.objs.size)) (PIE X pins σ tg R) E { s with heap:=s.heap.push { cls:=.type "range",data:=.fields #[.int lo t,.int hi u,.int 1 v] },toks:=tk }:=by
 refine wpAny_pyIter_range (IsRange.new ..) (small_one h1 h2 h3 h4) ?_
 have I1:Inv X pins σ H { s with heap:=s.heap.push { cls:=.type "range",data:=.fields #[.int lo t,.int hi u,.int 1 v] },toks:=tk }:=I.kept fun b o e=>Heap.get?_push_of_some _ e
 refine ⟨(s.heap.push { cls:=.type "range",data:=.fields #[.int lo t,.int hi u,.int 1 v] }).objs.size,[(s.heap.push { cls:=.type "range",data:=.fields #[.int lo t,.int hi u,.int 1 v] }).objs.size],_,_,H,rfl,
   I1.kept (t':=tk) fun b o e=>Heap.get?_push_of_some _ e,Zgb _ lo (hi - lo).toNat,?_,fun b hb=>?_,q⟩
 · have e1:lo+((0:Nat):Int) * 1=lo:=by simp
   have e2:(((hi - lo).toNat:Nat):Int) - ((0:Nat):Int)=Builtin.Range.rangeSize lo hi 1:=by rw [rangeSize_one];split<;>omega
   show IsRangeIter _ _ (lo+((0:Nat):Int) * 1) ((((hi - lo).toNat:Nat):Int) - ((0:Nat):Int)) 1
   rw [e1,e2]
   exact Heap.get?_push_size _ rfl
 · have e:b=(s.heap.push { cls:=.type "range",data:=.fields #[.int lo t,.int hi u,.int 1 v] }).objs.size:=by simpa using hb
   subst e
   exact I1.fpOk (Nat.le_refl _) (I1.hok.fresh (Nat.le_refl _))
def ZmR (ta:TA):TI:=fun σ H R=>ta σ H fun vs H1=>∃ j:Int,vs=[.int j]∧-(2 ^ 62)≤j∧j < 2 ^ 62∧R (Itr 0 j.toNat) H1
theorem XN {a:Expr}{ta:TA}{p pos:Pos}(hg:Gl X "range")(hm:X.mg "range"=none)(ha:PA X [a] ta)(hs:starEach [a] X.env=[(false,eval a X.env)]:=by rfl):PI X tg (.Call (.Name "range" p) [a] [] pos) (ZmR ta):=by
 intro pins s σ H R I h
 refine Call_ (WM I hg hm boot_range (PyProof.Rows.callWith_type1 (Zr (ha pos pins s σ H _ I h) fun us s1 ⟨vs,H1,I1,r1,q1⟩=>?_) hs rfl))
 obtain ⟨j,e,q1,q2,q⟩:=q1
 subst e
 cases r1 with
 | cons r rr =>
   cases rr
   obtain ⟨t,rfl⟩:=r
   exact call_range_1 (Zje I1 (by omega) (by omega) q1 q2 (by simpa using q))
def tFor (wi:TI)(g:TG)(tb:TS):TS:=fun D σ H=>wi σ H fun J H1=>∃ W:Nat→Nat→St→Hp→Prop,(∃ m,W 0 m σ H1)∧∀ i m σ H,W i m σ H →
 (J.stop i H∧D.nx σ H)∨(J.go i H∧∃ N:St→Hp→Prop,(∀ σ' H',N σ' H'→∃ m',m' < m∧W (i+1) m' σ' H')∧∀ x H',J.yld i H x H'→g x σ H' fun σ2 H2=>tb { D with nx:=N,ct:=N,bk:=D.nx } σ2 H2)
def ZaQ (fp:List Addr)(h:Heap):List (Addr×Obj):=fp.filterMap fun b=>(h.get? b).map fun o=>(b,o)
theorem YL {fp:List Addr}{h:Heap}{b:Addr}{o:Obj}(hb:b∈fp)(e:h.get? b=some o):(b,o)∈ZaQ fp h:=List.mem_filterMap.mpr ⟨b,hb,by rw [e];rfl⟩
theorem Zhm {fp:List Addr}{h:Heap}{p:Addr×Obj}(hp:p∈ZaQ fp h):p.1∈fp∧h.get? p.1=some p.2:=by
 obtain ⟨b,hb,e⟩:=List.mem_filterMap.mp hp
 cases q:h.get? b with
 | none=>rw [q] at e;cases e
 | some o =>
   rw [q] at e
   have e':(b,o)=p:=Option.some.inj e
   subst e'
   exact ⟨hb,q⟩
theorem Inv.pinned {pins:List (Addr×Obj)}{σ:St}{H:Hp}{s:Shared}{fp:List Addr}(I:Inv X pins σ H s)(hf:∀ b∈fp,Xc X pins H b)(ho:∀ b∈fp,∃ o,s.heap.get? b=some o∧∀ v,o.data≠.cell v):Inv X (pins++ZaQ fp s.heap) σ H s :=
 I.pins_of fun p hp=>(List.mem_append.mp hp).elim (fun z=>I.pin p (List.mem_append_right _ z)) fun z=>by
   obtain ⟨hb,e⟩:=Zhm z
   obtain ⟨f0,f1,f2,_⟩:=hf p.1 hb
   obtain ⟨o,e',d⟩:=ho p.1 hb
   rw [e] at e';cases e'
   exact ⟨e,f0,f1,f2,d⟩
theorem Inv.unpinned {pins pl:List (Addr×Obj)}{σ:St}{H:Hp}{s:Shared}(I:Inv X (pins++pl) σ H s):Inv X pins σ H s:=I.pins_of fun p hp=>I.pin p (List.mem_append_right _ (List.mem_append_left _ hp))
theorem XF {iter:Expr}{body:List Stmt}{wi:TI}{g:TG}{tb:TS}{pos:Pos}(hp:PassesOwn (model X.prog X.w) X.A X.env X.xe)(hc:X.calm=true)(hi:PI X tg iter wi)(hg:PG X tg g)(hb:PSs X body tb)
   (hs:∀ x,foldedSetIterable iter X.env x=pure x:=by intro _;rfl):PS X (.For tg iter body [] pos) (tFor wi g tb):=by
 intro pins s σ H D I h
 refine wpAny_For (Zr (hi pins s σ H _ I h) fun v s1 h1=>Zr h1 fun itv s2 h2=>?_) hs
 obtain ⟨it,fp,tn,J,H2,e,I2,T,st2,f2,W,⟨m0,w0⟩,turn⟩:=h2
 subst e
 have stat:∀ {H':Hp},(∀ b∈fp,H' b=none)→∀ b∈fp,Xc X pins H' b:=fun hn b hb=>⟨hn b hb,(f2 b hb).2⟩
 refine codeAny_forLoop_any (fun n s'=>∃ i σ' H',Inv X pins σ' H' s'∧tn i s'.heap∧(∀ b∈fp,H' b=none)∧W i n σ' H') ?_ m0 ⟨0,σ,H2,I2,st2,fun b hb=>(f2 b hb).1,w0⟩
 rintro n s3 ⟨i,σ3,H3,I3,st3,fr3,w3⟩
 rcases turn i n σ3 H3 w3 with ⟨stop,qn⟩ | ⟨go,N,hN,step⟩
 · refine wpAny_passesOwn hp (Zr (T.done X rfl rfl rfl hc i pins s3 σ3 H3 X.xe I3 (stat fr3) st3 stop) fun r s4 ⟨hr,I4⟩=>?_)
   subst hr
   exact wpAny_execs_nil ⟨σ3,H3,I4,qn⟩
 · refine wpAny_passesOwn hp (Zr (T.item X rfl rfl rfl hc i pins s3 σ3 H3 X.xe I3 (stat fr3) st3 go) fun r s4 ⟨u,hr,h4⟩=>?_)
   subst hr
   refine wpAny_passesOwn hp (Zr h4 fun _ s5 ⟨x,H5,I5,r5,y5,st5,fr5⟩=>?_)
   have I5':=I5.pinned (stat fr5) (T.obj _ _ st5)
   refine wpAny_passesOwn hp (Zr (hg _ s5 σ3 H5 x u _ I5' r5 (step x H5 y5)) fun _ s6 ⟨σ6,H6,I6,q6⟩=>?_)
   refine wpAny_passesOwn hp (Zr (hb _ s6 σ6 H6 _ I6 q6) fun f s7 q7=>?_)
   have again:∀ {σ7:St} {H7:Hp},Inv X (pins++ZaQ fp s5.heap) σ7 H7 s7→N σ7 H7→∃ m,m < n∧∃ i σ' H',Inv X pins σ' H' s7∧tn i s7.heap∧(∀ b∈fp,H' b=none)∧W i m σ' H':=fun {σ7 H7} I7 n7=>by
     obtain ⟨m',hm,w7⟩:=hN σ7 H7 n7
     refine ⟨m',hm,i+1,σ7,H7,I7.unpinned,T.keep _ _ _ st5 fun b hb o e=>(I7.pin (b,o) (List.mem_append_right _ (List.mem_append_right _ (YL hb e)))).1,fun b hb=>?_,w7⟩
     obtain ⟨o,e,d⟩:=T.obj _ _ st5 b hb
     exact (I7.pin (b,o) (List.mem_append_right _ (List.mem_append_right _ (YL hb e)))).2.1
   cases f with
   | next=>obtain ⟨σ7,H7,I7,n7⟩:=q7;exact again I7 n7
   | cont=>obtain ⟨σ7,H7,I7,n7⟩:=q7;exact again I7 n7
   | brk=>obtain ⟨σ7,H7,I7,q7⟩:=q7;exact ⟨σ7,H7,I7.unpinned,q7⟩
   | ret v=>obtain ⟨x7,σ7,H7,I7,r7,q7⟩:=q7;exact ⟨x7,σ7,H7,I7.unpinned,r7,q7⟩
end
theorem Zjl {K:KF}{a:Addr}{xs:List V}{g:TG}{tb:TS}{D:XY}{σ:St}{H:Hp}(Pv:Nat→St→Hp→Prop)(h0:Pv 0 σ H)(hl:∀ i σ H,i≤xs.length→Pv i σ H→SqL K H a xs)
   (hs:∀ i x σ H,xs[i]?=some x→Pv i σ H→g x σ H fun σ2 H2=>tb { D with nx:=Pv (i+1),ct:=Pv (i+1),bk:=D.nx } σ2 H2) (hd:∀ σ H,Pv xs.length σ H→D.nx σ H) :
   ∃ W:Nat→Nat→St→Hp→Prop,(∃ m,W 0 m σ H)∧∀ i m σ H,W i m σ H →
     ((Itl K a).stop i H∧D.nx σ H)∨((Itl K a).go i H∧∃ N:St→Hp→Prop,(∀ σ' H',N σ' H'→∃ m',m' < m∧W (i+1) m' σ' H')∧∀ x H',(Itl K a).yld i H x H'→g x σ H' fun σ2 H2=>tb { D with nx:=N,ct:=N,bk:=D.nx } σ2 H2):=by
 refine ⟨fun i m σ H=>m=xs.length - i∧i≤xs.length∧Pv i σ H,⟨xs.length,by simp,Nat.zero_le _,h0⟩,?_⟩
 rintro i m σ H ⟨rfl,hi,p⟩
 have q:=hl i σ H hi p
 by_cases hlt:i < xs.length
 · refine .inr ⟨⟨xs,xs[i],q,by simp [hlt]⟩,Pv (i+1),fun σ' H' p'=>⟨xs.length - (i+1),by omega,rfl,hlt,p'⟩,fun x H' y=>?_⟩
   obtain ⟨e,y⟩:=y
   subst e
   exact hs i x σ _ (y xs q) p
 · have e:i=xs.length:=by omega
   subst e
   exact .inl ⟨⟨xs,q,Nat.le_refl _⟩,hd σ H p⟩
theorem ZkR {K:KF}{a:Addr}{xs:List V}{g:TG}{tb:TS}{D:XY}{σ:St}{H:Hp}(Pv:Nat→St→Hp→Prop)(h0:Pv 0 σ H)(hl:∀ i σ H,i≤xs.length→Pv i σ H→SqT K H a xs)
   (hs:∀ i x σ H,xs[i]?=some x→Pv i σ H→g x σ H fun σ2 H2=>tb { D with nx:=Pv (i+1),ct:=Pv (i+1),bk:=D.nx } σ2 H2) (hd:∀ σ H,Pv xs.length σ H→D.nx σ H) :
   ∃ W:Nat→Nat→St→Hp→Prop,(∃ m,W 0 m σ H)∧∀ i m σ H,W i m σ H →
     ((Itt K a).stop i H∧D.nx σ H)∨((Itt K a).go i H∧∃ N:St→Hp→Prop,(∀ σ' H',N σ' H'→∃ m',m' < m∧W (i+1) m' σ' H')∧∀ x H',(Itt K a).yld i H x H'→g x σ H' fun σ2 H2=>tb { D with nx:=N,ct:=N,bk:=D.nx } σ2 H2):=by
 refine ⟨fun i m σ H=>m=xs.length - i∧i≤xs.length∧Pv i σ H,⟨xs.length,by simp,Nat.zero_le _,h0⟩,?_⟩
 rintro i m σ H ⟨rfl,hi,p⟩
 have q:=hl i σ H hi p
 by_cases hlt:i < xs.length
 · refine .inr ⟨⟨xs,xs[i],q,by simp [hlt]⟩,Pv (i+1),fun σ' H' p'=>⟨xs.length - (i+1),by omega,rfl,hlt,p'⟩,fun x H' y=>?_⟩
   obtain ⟨e,y⟩:=y
   subst e
   exact hs i x σ _ (y xs q) p
 · have e:i=xs.length:=by omega
   subst e
   exact .inl ⟨⟨xs,q,Nat.le_refl _⟩,hd σ H p⟩
theorem Wk {lo:Int}{n:Nat}{g:TG}{tb:TS}{D:XY}{σ:St}{H:Hp}(Pv:Nat→St→Hp→Prop)(h0:Pv 0 σ H)
   (hs:∀ i σ H,i < n→Pv i σ H→g (.int (lo+i)) σ H fun σ2 H2=>tb { D with nx:=Pv (i+1),ct:=Pv (i+1),bk:=D.nx } σ2 H2) (hd:∀ σ H,Pv n σ H→D.nx σ H) :
   ∃ W:Nat→Nat→St→Hp→Prop,(∃ m,W 0 m σ H)∧∀ i m σ H,W i m σ H →
     ((Itr lo n).stop i H∧D.nx σ H)∨((Itr lo n).go i H∧∃ N:St→Hp→Prop,(∀ σ' H',N σ' H'→∃ m',m' < m∧W (i+1) m' σ' H')∧∀ x H',(Itr lo n).yld i H x H'→g x σ H' fun σ2 H2=>tb { D with nx:=N,ct:=N,bk:=D.nx } σ2 H2):=by
 refine ⟨fun i m σ H=>m=n - i∧i≤n∧Pv i σ H,⟨n,by simp,Nat.zero_le _,h0⟩,?_⟩
 rintro i m σ H ⟨rfl,hi,p⟩
 by_cases hlt:i < n
 · refine .inr ⟨hlt,Pv (i+1),fun σ' H' p'=>⟨n - (i+1),by omega,rfl,hlt,p'⟩,fun x H' y=>?_⟩
   obtain ⟨e,y⟩:=y
   subst e y
   exact hs i σ _ hlt p
 · have e:i=n:=by omega
   subst e
   exact .inl ⟨Nat.le_refl _,hd σ H p⟩
theorem Zil {c:TT}{tb:TS}{D:XY}{σ:St}{H:Hp}(Pv:St→Hp→Prop)(μ:St→Hp→Nat)(h0:Pv σ H)
   (hs:∀ σ H,Pv σ H→c σ H fun b H1=>if b=true then tb { D with nx:=fun σ' H'=>Pv σ' H'∧μ σ' H' < μ σ H,ct:=fun σ' H'=>Pv σ' H'∧μ σ' H' < μ σ H,bk:=D.nx } σ H1 else D.nx σ H1)
   (mono:∀ σ H Q Q',(∀ b H1,Q b H1→Q' b H1)→c σ H Q→c σ H Q'):Zhf c tb D σ H:=by
 refine ⟨fun m σ H=>m=μ σ H∧Pv σ H,⟨_,rfl,h0⟩,?_⟩
 rintro m σ H ⟨rfl,p⟩
 refine mono σ H _ _ (fun b H1 q=>?_) (hs σ H p)
 cases b with
 | true=>exact ⟨_,fun σ' H' ⟨p',l⟩=>⟨_,l,rfl,p'⟩,q⟩
 | false=>exact q
end L2
namespace L2
open PySem PySem.Spec PyProof.Rows
abbrev R2:=V→V→Hp→VK→Prop
def Xf (X:Cx)(f:Value→Value→Sem Value)(r:R2):Prop :=
 ∀ (pins:List (Addr×Obj)) (s:Shared) (σ:St) (H:Hp) (x y:V) (v u:Value) (Q:VK),Inv X pins σ H s→RelV x v→RelV y u→r x y H Q →
   wpAny (model X.prog X.w) X.A (f v u) (EP X pins σ Q) X.xe s
def UnR (X:Cx)(f:Value→Sem Value)(r:V→Hp→VK→Prop):Prop :=
 ∀ (pins:List (Addr×Obj)) (s:Shared) (σ:St) (H:Hp) (x:V) (v:Value) (Q:VK),Inv X pins σ H s→RelV x v→r x H Q →
   wpAny (model X.prog X.w) X.A (f v) (EP X pins σ Q) X.xe s
def Yk (X:Cx)(f:Value)(r:List V→Hp→VK→Prop):Prop :=
 ∀ (pins:List (Addr×Obj)) (s:Shared) (σ:St) (H:Hp) (xs:List V) (us:List Value) (Q:VK),Inv X pins σ H s→Vals xs us→r xs H Q →
   wpAny (model X.prog X.w) X.A (call f us) (EP X pins σ Q) X.xe s
def TruR (X:Cx)(r:V→Hp→(Bool→Hp→Prop)→Prop):Prop :=
 ∀ (pins:List (Addr×Obj)) (s:Shared) (σ:St) (H:Hp) (x:V) (v:Value) (Q:Bool→Hp→Prop),Inv X pins σ H s→RelV x v→r x H Q →
   wpAny (model X.prog X.w) X.A (truthy v) (TP X pins σ Q) X.xe s
def tOp (r:R2)(ta tb:TE):TE:=fun σ H Q=>ta σ H fun x H1=>tb σ H1 fun y H2=>r x y H2 Q
def tUn (r:V→Hp→VK→Prop)(ta:TE):TE:=fun σ H Q=>ta σ H fun x H1=>r x H1 Q
def rI (C:Int→Int→Prop)(g:Int→Int→V):R2:=fun x y H Q=>∃ i j,x=.int i∧y=.int j∧C i j∧Q (g i j) H
def rI0 (g:Int→Int→V):R2:=fun x y H Q=>∃ i j,x=.int i∧y=.int j∧Q (g i j) H
def rU (g:Int→V):V→Hp→VK→Prop:=fun x H Q=>∃ i,x=.int i∧Q (g i) H
section
variable {X:Cx}{a b c:Expr}{ta tb tc:TE}{pos:Pos}
theorem Zjd (ha:PE X a ta)(hb:PE X b tb){pins:List (Addr×Obj)}{s:Shared}{σ:St}{H:Hp}{R:V→V→Hp→Prop}(I:Inv X pins σ H s)
   (h:ta σ H fun x H1=>tb σ H1 fun y H2=>R x y H2) {Q:Zv} {f:Value→Value→Sem Value}
   (hf:∀ v u s2 x y H2,Inv X pins σ H2 s2→RelV x v→RelV y u→R x y H2→wpAny (model X.prog X.w) X.A (f v u) Q X.xe s2) :
   wpAny (model X.prog X.w) X.A (eval a X.env) (fun v s₁=>wpAny (model X.prog X.w) X.A (eval b X.env) (fun u s₂=>wpAny (model X.prog X.w) X.A (f v u) Q X.xe s₂) X.xe s₁) X.xe s:=by
 refine Zr (ha pins s σ H _ I h) fun v s1 ⟨x,H1,I1,r1,q1⟩=>?_
 refine Zr (hb pins s1 σ H1 _ I1 q1) fun u s2 ⟨y,H2,I2,r2,q2⟩=>?_
 exact hf v u s2 x y H2 I2 r1 r2 q2
theorem Zo {op:Operator}{r:R2}(ho:Xf X (binaryOp op) r)(ha:PE X a ta)(hb:PE X b tb):PE X (.BinOp a op b pos) (tOp r ta tb):=by
 intro pins s σ H Q I h
 exact wpAny_BinOp (Zjd ha hb I h fun v u s2 x y H2 I2 rx ry q=>ho pins s2 σ H2 x y v u Q I2 rx ry q)
theorem ZjO {op:UnaryOp}{r:V→Hp→VK→Prop}(ho:UnR X (unaryOp op) r)(ha:PE X a ta):PE X (.UnaryOp op a pos) (tUn r ta):=by
 intro pins s σ H Q I h
 exact UnaryOp_ (Zr (ha pins s σ H _ I h) fun v s1 ⟨x,H1,I1,r1,q1⟩=>ho pins s1 σ H1 x v Q I1 r1 q1)
theorem opI {f:Value→Value→Sem Value}{C:Int→Int→Prop}{g:Int→Int→Int}
   (rule:∀ (i j:Int) (t u:Tok) (s:Shared) (Q:Zv) (E:Zv),C i j→Q (.int (g i j) s.toks) { s with toks:=s.toks+1 }→wpAny (model X.prog X.w) X.A (f (.int i t) (.int j u)) Q E s) :
   Xf X f (rI C fun i j=>.int (g i j)):=by
 intro pins s σ H x y v u Q I rx ry h
 obtain ⟨i,j,rfl,rfl,hc,q⟩:=h
 obtain ⟨t,rfl⟩:=rx
 obtain ⟨t',rfl⟩:=ry
 exact rule i j t t' s _ _ hc ⟨.int (g i j),H,I.tok _,⟨_,rfl⟩,q⟩
theorem opI0 {f:Value→Value→Sem Value}{g:Int→Int→Int}
   (rule:∀ (i j:Int) (t u:Tok) (s:Shared) (Q:Zv) (E:Zv),Q (.int (g i j) s.toks) { s with toks:=s.toks+1 }→wpAny (model X.prog X.w) X.A (f (.int i t) (.int j u)) Q E s) :
   Xf X f (rI0 fun i j=>.int (g i j)):=by
 intro pins s σ H x y v u Q I rx ry h
 obtain ⟨i,j,rfl,rfl,q⟩:=h
 obtain ⟨t,rfl⟩:=rx
 obtain ⟨t',rfl⟩:=ry
 exact rule i j t t' s _ _ ⟨.int (g i j),H,I.tok _,⟨_,rfl⟩,q⟩
theorem ZfG {f:Value→Value→Sem Value}{g:Int→Int→Bool}
   (rule:∀ (i j:Int) (t u:Tok) (s:Shared) (Q:Zv) (E:Zv),Q (.bool (g i j)) s→wpAny (model X.prog X.w) X.A (f (.int i t) (.int j u)) Q E s) :
   Xf X f (rI0 fun i j=>.bl (g i j)):=by
 intro pins s σ H x y v u Q I rx ry h
 obtain ⟨i,j,rfl,rfl,q⟩:=h
 obtain ⟨t,rfl⟩:=rx
 obtain ⟨t',rfl⟩:=ry
 exact rule i j t t' s _ _ ⟨.bl (g i j),H,I,rfl,q⟩
def CDiv (i j:Int):Prop:=0 < j∧j < 1073741824
def CPow (i j:Int):Prop:=0≤j∧j≤1000000∧i.natAbs < 2 ^ 64
def CMul (i j:Int):Prop:=(-(2 ^ 64) < i∧i < 2 ^ 64)∨(-(2 ^ 64) < j∧j < 2 ^ 64)
theorem CMul.ok {i j:Int}(h:CMul i j):IntMulOk i j:=by
 rcases h with ⟨h1,h2⟩ | ⟨h1,h2⟩
 · exact .of_left (intBits_le_64 h1 h2)
 · exact .of_right (intBits_le_64 h1 h2)
theorem Zfp (k:Nat):(0:Int)≤2 ^ k:=by
 rw [two_pow_cast]
 exact Int.natCast_nonneg _
theorem Yi:Xf X (binaryOp .Add) (rI0 fun i j=>.int (i+j)):=opI0 fun _ _ _ _ _ _ _ q=>add_int q
theorem Xd:Xf X (binaryOp .Sub) (rI0 fun i j=>.int (i - j)):=opI0 fun _ _ _ _ _ _ _ q=>sub_int q
theorem Xm:Xf X (binaryOp .Mult) (rI CMul fun i j=>.int (i * j)):=opI fun _ _ _ _ _ _ _ hc q=>mul_int q hc.ok
theorem WG:Xf X (binaryOp .FloorDiv) (rI CDiv fun i j=>.int (i / j)):=opI fun i j _ _ _ _ _ hc q=>by
 have h1:(0:Int) < j:=hc.1
 have h2:j < 1073741824:=hc.2
 exact floordiv_int (by omega) (by rw [Int.fdiv_eq_ediv_of_nonneg i (by omega)];exact q) (.inl (PyProof.noPylong_small (by omega)))
theorem Xo:Xf X (binaryOp .Mod) (rI (fun _ j=>0 < j) fun i j=>.int (i % j)):=opI fun i j _ _ _ _ _ hc q=>by
 have h1:(0:Int) < j:=hc
 exact mod_int' (by omega) (by rw [Int.fmod_eq_emod_of_nonneg i (by omega)];exact q)
theorem VB:Xf X (binaryOp .Pow) (rI CPow fun i j=>.int (i ^ j.toNat)):=opI fun _ _ _ _ _ _ _ hc q=>pow_int_small hc.1 hc.2.1 hc.2.2 q
theorem Zlw:Xf X (binaryOp .RShift) (rI (fun _ j=>0≤j) fun i j=>.int (i / 2 ^ j.toNat)):=opI fun i j _ _ _ _ _ hc q =>
 rshift_int hc (by rw [Int.fdiv_eq_ediv_of_nonneg i (Zfp _)];exact q)
theorem unI {f:Value→Sem Value}{g:Int→Int}
   (rule:∀ (i:Int) (t:Tok) (s:Shared) (Q:Zv) (E:Zv),Q (.int (g i) s.toks) { s with toks:=s.toks+1 }→wpAny (model X.prog X.w) X.A (f (.int i t)) Q E s) :
   UnR X f (rU fun i=>.int (g i)):=by
 intro pins s σ H x v Q I rx h
 obtain ⟨i,rfl,q⟩:=h
 obtain ⟨t,rfl⟩:=rx
 exact rule i t s _ _ ⟨.int (g i),H,I.tok _,⟨_,rfl⟩,q⟩
theorem Zgx:UnR X (unaryOp .USub) (rU fun i=>.int (-i)):=unI fun _ _ _ _ _ q=>neg_int q
end
def scal:V→V→Bool
 | .non,.non=>true | .non,.int _=>true | .int _,.non=>true | .non,.bl _=>true | .bl _,.non=>true | .non,.str _=>true | .str _,.non=>true
 | .int _,.int _=>true | .bl _,.bl _=>true | .str _,.str _=>true | .byt _,.byt _=>true
 | .int _,.str _=>true | .str _,.int _=>true | .bl _,.str _=>true | .str _,.bl _=>true
 | _,_=>false
def rEq:R2:=fun x y H Q=>scal x y=true∧Q (.bl (decide (x=y))) H
def rNe:R2:=fun x y H Q=>scal x y=true∧Q (.bl (!decide (x=y))) H
theorem Zfc {i j:Int}:decide (V.int i=V.int j)=(i == j):=by
 rw [Bool.eq_iff_iff]
 simp
theorem ZgC {i j:Bool}:decide (V.bl i=V.bl j)=(i == j):=by
 rw [Bool.eq_iff_iff]
 simp
theorem ZeH {i j:Str}:decide (V.str i=V.str j)=(i == j):=by
 rw [Bool.eq_iff_iff]
 simp
theorem Zfl {i j:Array UInt8}:decide (V.byt i=V.byt j)=(i.toList == j.toList):=by
 rw [Bool.eq_iff_iff]
 cases i
 cases j
 simp
section
variable {X:Cx}{a b c:Expr}{ta tb tc:TE}{pos:Pos}
theorem ZQ {pins:List (Addr×Obj)}{σ:St}{H:Hp}{s:Shared}{Q:VK}{k k':Bool}(I:Inv X pins σ H s)(q:Q (.bl k) H)(e:k=k'):EP X pins σ Q (.bool k') s:=by
 subst e
 exact ⟨.bl k,H,I,rfl,q⟩
theorem YR:Xf X (compareOp .Eq) rEq:=by
 intro pins s σ H x y v u Q I rx ry h
 obtain ⟨hs,q⟩:=h
 cases x with
 | non =>
   cases rx
   cases y with
   | non=>cases ry;exact PySem.EqNone.eq_none_none (ZQ I q (by simp))
   | bl j=>cases ry;exact PySem.EqNone.eq_none_bool (ZQ I q (by simp))
   | int j=>obtain ⟨t',rfl⟩:=ry;exact PySem.EqNone.eq_none_int (ZQ I q (by simp))
   | str j=>obtain ⟨t',rfl⟩:=ry;exact PySem.EqNone.eq_none_str (ZQ I q (by simp))
   | _=>exact absurd (show false=true from hs) Bool.false_ne_true
 | bl i =>
   cases rx
   cases y with
   | non=>cases ry;exact PySem.EqNone.eq_bool_none (ZQ I q (by simp))
   | bl j=>cases ry;exact eq_bool (ZQ I q ZgC)
   | str j=>obtain ⟨t',rfl⟩:=ry;exact PySem.EqMixed.eq_bool_str (ZQ I q (by simp))
   | _=>exact absurd (show false=true from hs) Bool.false_ne_true
 | int i =>
   obtain ⟨t,rfl⟩:=rx
   cases y with
   | non=>cases ry;exact PySem.EqNone.eq_int_none (ZQ I q (by simp))
   | int j=>obtain ⟨t',rfl⟩:=ry;exact eq_int (ZQ I q Zfc)
   | str j=>obtain ⟨t',rfl⟩:=ry;exact PySem.EqMixed.eq_int_str (ZQ I q (by simp))
   | _=>exact absurd (show false=true from hs) Bool.false_ne_true
 | str i =>
   obtain ⟨t,rfl⟩:=rx
   cases y with
   | non=>cases ry;exact PySem.EqNone.eq_str_none (ZQ I q (by simp))
   | bl j=>cases ry;exact PySem.EqMixed.eq_str_bool (ZQ I q (by simp))
   | int j=>obtain ⟨t',rfl⟩:=ry;exact PySem.EqMixed.eq_str_int (ZQ I q (by simp))
   | str j=>obtain ⟨t',rfl⟩:=ry;exact eq_str (ZQ I q ZeH)
   | _=>exact absurd (show false=true from hs) Bool.false_ne_true
 | byt i =>
   obtain ⟨t,rfl⟩:=rx
   cases y with
   | byt j=>obtain ⟨t',rfl⟩:=ry;exact PySem.W.eq_bytes (ZQ I q Zfl)
   | _=>exact absurd (show false=true from hs) Bool.false_ne_true
 | _=>cases y<;>exact absurd (show false=true from hs) Bool.false_ne_true
theorem Va:Xf X (compareOp .NotEq) rNe:=by
 intro pins s σ H x y v u Q I rx ry h
 obtain ⟨hs,q⟩:=h
 cases x with
 | non =>
   cases rx
   cases y with
   | non=>cases ry;exact PySem.EqNone.ne_none_none (ZQ I q (by simp))
   | bl j=>cases ry;exact PySem.EqNone.ne_none_bool (ZQ I q (by simp))
   | int j=>obtain ⟨t',rfl⟩:=ry;exact PySem.EqNone.ne_none_int (ZQ I q (by simp))
   | str j=>obtain ⟨t',rfl⟩:=ry;exact PySem.EqNone.ne_none_str (ZQ I q (by simp))
   | _=>exact absurd (show false=true from hs) Bool.false_ne_true
 | bl i =>
   cases rx
   cases y with
   | non=>cases ry;exact PySem.EqNone.ne_bool_none (ZQ I q (by simp))
   | bl j=>cases ry;exact ne_bool (ZQ I q (congrArg not ZgC))
   | str j=>obtain ⟨t',rfl⟩:=ry;exact PySem.EqMixed.ne_bool_str (ZQ I q (by simp))
   | _=>exact absurd (show false=true from hs) Bool.false_ne_true
 | int i =>
   obtain ⟨t,rfl⟩:=rx
   cases y with
   | non=>cases ry;exact PySem.EqNone.ne_int_none (ZQ I q (by simp))
   | int j=>obtain ⟨t',rfl⟩:=ry;exact ne_int (ZQ I q (congrArg not Zfc))
   | str j=>obtain ⟨t',rfl⟩:=ry;exact PySem.EqMixed.ne_int_str (ZQ I q (by simp))
   | _=>exact absurd (show false=true from hs) Bool.false_ne_true
 | str i =>
   obtain ⟨t,rfl⟩:=rx
   cases y with
   | non=>cases ry;exact PySem.EqNone.ne_str_none (ZQ I q (by simp))
   | bl j=>cases ry;exact PySem.EqMixed.ne_str_bool (ZQ I q (by simp))
   | int j=>obtain ⟨t',rfl⟩:=ry;exact PySem.EqMixed.ne_str_int (ZQ I q (by simp))
   | str j=>obtain ⟨t',rfl⟩:=ry;exact ne_str (ZQ I q (congrArg not ZeH))
   | _=>exact absurd (show false=true from hs) Bool.false_ne_true
 | byt i =>
   obtain ⟨t,rfl⟩:=rx
   cases y with
   | byt j=>obtain ⟨t',rfl⟩:=ry;exact PySem.W.ne_bytes (ZQ I q (congrArg not Zfl))
   | _=>exact absurd (show false=true from hs) Bool.false_ne_true
 | _=>cases y<;>exact absurd (show false=true from hs) Bool.false_ne_true
theorem Zbo:Xf X (compareOp .Lt) (rI0 fun i j=>.bl (decide (i < j))):=ZfG fun _ _ _ _ _ _ _ q=>lt_int q
theorem ZmQ:Xf X (compareOp .LtE) (rI0 fun i j=>.bl (decide (i≤j))):=ZfG fun _ _ _ _ _ _ _ q=>le_int q
theorem Zfm:Xf X (compareOp .Gt) (rI0 fun i j=>.bl (decide (j < i))):=ZfG fun _ _ _ _ _ _ _ q=>gt_int q
theorem ZmF:Xf X (compareOp .GtE) (rI0 fun i j=>.bl (decide (j≤i))):=ZfG fun _ _ _ _ _ _ _ q=>ge_int q
theorem ZJ (b:Expr){op:CmpOp}(h:op≠.In:=by decide)(h2:op≠.NotIn:=by decide):behindInMarks op b=false:=by
 have e1:(op == CmpOp.In)=false:=by cases op<;>first | rfl | exact absurd rfl h
 have e2:(op == CmpOp.NotIn)=false:=by cases op<;>first | rfl | exact absurd rfl h2
 cases b<;>simp [behindInMarks,e1,e2]
theorem VZ {op:CmpOp}{r:R2}(ho:Xf X (compareOp op) r)(ha:PE X a ta)(hb:PE X b tb)(hm:behindInMarks op b=false):PE X (.Compare a [op] [b] pos) (tOp r ta tb):=by
 intro pins s σ H Q I h
 exact wpAny_Compare1 (Zjd ha hb I h fun v u s2 x y H2 I2 rx ry q=>ho pins s2 σ H2 x y v u Q I2 rx ry q) hm
def ZjG (t:TE):TT:=fun σ H Q=>t σ H fun x H'=>∃ k,x=.bl k∧Q k H'
theorem ZE {op:CmpOp}{r:R2}(ho:Xf X (compareOp op) r)(ha:PE X a ta)(hb:PE X b tb)(hm:behindInMarks op b=false):PT X (.Compare a [op] [b] pos) (ZjG (tOp r ta tb)):=by
 intro pins s σ H Q I h
 refine wpAny_isTrue_Compare1 (Zr (ha pins s σ H _ I h) fun v s1 ⟨x,H1,I1,r1,q1⟩=>Zr (hb pins s1 σ H1 _ I1 q1) fun u s2 ⟨y,H2,I2,r2,q2⟩ =>
   Zr (ho pins s2 σ H2 x y v u _ I2 r1 r2 q2) fun c s3 ⟨z,H3,I3,r3,k,e,q3⟩=>?_) hm
 subst e
 cases r3
 exact wpAny_truthy_bool ⟨H3,I3,q3⟩
def ZlL (r r':R2)(ta tb tc:TE):TE:=fun σ H Q=>ta σ H fun x H1=>tb σ H1 fun y H2=>r x y H2 fun z H3=>∃ k,z=.bl k ∧
 (if k=true then tc σ H3 fun w' H4=>r' y w' H4 Q else Q (.bl false) H3)
theorem Zik {op op':CmpOp}{r r':R2}(ho:Xf X (compareOp op) r)(ho':Xf X (compareOp op') r')(ha:PE X a ta)(hb:PE X b tb)(hc:PE X c tc)
   (hm:lastMarks [op,op'] [b,c]=false:=by with_unfolding_all rfl):PT X (.Compare a [op,op'] [b,c] pos) (ZjG (ZlL r r' ta tb tc)):=by
 intro pins s σ H Q I h
 refine isTrue_chain (Zr (ha pins s σ H _ I h) fun v s1 ⟨x,H1,I1,r1,q1⟩=>test_link (Zr (hb pins s1 σ H1 _ I1 q1) fun u s2 ⟨y,H2,I2,r2,q2⟩ =>
   Zr (ho pins s2 σ H2 x y v u _ I2 r1 r2 q2) fun d s3 ⟨z,H3,I3,r3,k,e,q3⟩=>?_)) hm
 subst e
 cases r3
 refine wpAny_truthy_bool ?_
 cases k with
 | false =>
   obtain ⟨k',e',q'⟩:=q3
   cases e'
   exact ite_ff ⟨H3,I3,q'⟩
 | true =>
   refine ite_tt (test_last (Zr (hc pins s3 σ H3 _ I3 q3) fun w' s4 ⟨z',H4,I4,r4,q4⟩=>Zr (ho' pins s4 σ H4 y z' u w' _ I4 r2 r4 q4) fun d' s5 ⟨z2,H5,I5,r5,k2,e2,q5⟩=>?_))
   subst e2
   cases r5
   exact wpAny_truthy_bool ⟨H5,I5,q5⟩
def TruV (K:KF)(x:V)(H:Hp)(k:Bool):Prop :=
 match x with
 | .non=>k=false
 | .bl b=>k=b
 | .int i=>k=(i != 0)
 | .str y=>y.length≤sizeLine∧k=((y.length:Int) != 0)
 | .byt y=>y.size≤sizeLine∧k=((y.size:Int) != 0)
 | .ref p=>(∃ xs,SqL K H p xs∧k=!xs.isEmpty)∨(∃ xs,SqT K H p xs∧k=!xs.isEmpty)∨∃ kvs,H p=some (.dK kvs)∧k=!kvs.isEmpty
 | _=>False
theorem Zfo {κ:Type}{kvs:List (κ×V)}{vs:List (κ×Value)}(r:KV kvs vs):(!vs.isEmpty)=!kvs.isEmpty:=by
 cases r<;>rfl
theorem Zbk {xs:List V}{its:List Value}(r:Vals xs its):(!its.toArray.isEmpty)=!xs.isEmpty:=by
 cases r<;>simp
theorem Wq:(sizeLine:Nat) < 2 ^ 63:=by rw [sizeLine_eq];decide
theorem ZlM:TruR X (fun x H Q=>∃ k,TruV X.K x H k∧Q k H):=by
 intro pins s σ H x v Q I rx h
 obtain ⟨k,e,q⟩:=h
 have hl:=Wq
 have hs:sizeLine=16777216:=sizeLine_eq
 cases x with
 | non =>
   cases rx
   have e':k=false:=e
   subst e'
   exact truthy_none ⟨H,I,q⟩
 | bl b =>
   cases rx
   have e':k=b:=e
   subst e'
   exact wpAny_truthy_bool ⟨H,I,q⟩
 | int i =>
   obtain ⟨t,rfl⟩:=rx
   have e':k=(i != 0):=e
   subst e'
   exact PySem.P.truthy_int ⟨H,I,q⟩
 | str y =>
   obtain ⟨t,rfl⟩:=rx
   obtain ⟨hy,e'⟩:y.length≤sizeLine∧k=((y.length:Int) != 0):=e
   subst e'
   exact PySem.P.truthy_str (by omega) ⟨H,I.tok _,q⟩
 | byt y =>
   obtain ⟨t,rfl⟩:=rx
   obtain ⟨hy,e'⟩:y.size≤sizeLine∧k=((y.size:Int) != 0):=e
   subst e'
   exact PySem.W.truthy_bytes (by omega) ⟨H,I.tok _,q⟩
 | ref p =>
   cases rx
   have e':(∃ xs,SqL X.K H p xs∧k=!xs.isEmpty)∨(∃ xs,SqT X.K H p xs∧k=!xs.isEmpty)∨∃ kvs,H p=some (.dK kvs)∧k=!kvs.isEmpty:=e
   rcases e' with ⟨xs,hx,e'⟩ | ⟨xs,hx,e'⟩ | ⟨kvs,hx,e'⟩
   · subst e'
     obtain ⟨its,r,pl,hz⟩:=I.list hx
     have hlen:=r.length
     exact wpAny_truthy_list pl.isList (by simp only [List.size_toArray];omega) ⟨H,I.tok _,by rw [Zbk r];exact q⟩
   · subst e'
     obtain ⟨its,r,pl,hz⟩:=I.tuple hx
     have hlen:=r.length
     exact truthy_tuple pl (by simp only [List.size_toArray];omega) ⟨H,I.tok _,by rw [Zbk r];exact q⟩
   · subst e'
     obtain ⟨hz,hS,vs,r,m⟩:kvs.length≤sizeLine∧(p == sysModules)=false∧∃ vs,KV kvs vs∧s.heap.DictOf (Zl X.prog X.w) p vs:=I.hok p _ hx
     have hlen:kvs.length=vs.length:=Paired.length r
     exact wpAny_truthy_dict hS m (by omega) ⟨H,I.tok _,by rw [Zfo r];exact q⟩
 | _=>exact (show False from e).elim
theorem Wa (ha:PE X a ta)(he:∀ whole,isTrue a X.env whole=(do let v ← whole;standAt a.pos;holding [v] (truthy v))) :
   PT X a (fun σ H Q=>ta σ H fun x H'=>∃ k,TruV X.K x H' k∧Q k H'):=by
 intro pins s σ H Q I h
 exact isTrue_plain (Zr (ha pins s σ H _ I h) fun v s1 ⟨x,H1,I1,r1,q1⟩=>ZlM pins s1 σ H1 x v Q I1 r1 q1) (he _)
theorem ZbD:Xf X (binaryOp .Add) (fun x y H Q=>∃ i j,x=.str i∧y=.str j∧i.length+j.length≤sizeLine∧Q (.str (i++j)) H):=by
 intro pins s σ H x y v u Q I rx ry h
 obtain ⟨i,j,rfl,rfl,hz,q⟩:=h
 obtain ⟨t,rfl⟩:=rx
 obtain ⟨t',rfl⟩:=ry
 exact add_str (fun t' tk=>⟨.str (i++j),H,I.tok _,⟨_,rfl⟩,q⟩) hz
theorem Yj {x:V}{us:List Value}(r:Vals [x] us):∃ u,us=[u]∧RelV x u:=by
 cases r with
 | cons r1 r2=>cases r2;exact ⟨_,rfl,r1⟩
theorem Zmq {x y:V}{us:List Value}(r:Vals [x,y] us):∃ u w',us=[u,w']∧RelV x u∧RelV y w':=by
 cases r with
 | cons r1 r2 =>
   cases r2 with
   | cons r3 r4=>cases r4;exact ⟨_,_,rfl,r1,r3⟩
theorem Zde:Yk X (.builtin "abs") (fun xs H Q=>∃ i,xs=[.int i]∧Q (.int (if i < 0 then -i else i)) H):=by
 intro pins s σ H xs us Q I r h
 obtain ⟨i,rfl,q⟩:=h
 obtain ⟨u,rfl,t,rfl⟩:=Yj r
 exact call_abs_int fun u tk=>⟨.int (if i < 0 then -i else i),H,I.tok _,⟨_,rfl⟩,q⟩
theorem Zcq (hc:X.calm=true):Yk X (.builtin "min") (fun xs H Q=>∃ i j,xs=[.int i,.int j]∧Q (.int (if j < i then j else i)) H):=by
 intro pins s σ H xs us Q I r h
 obtain ⟨i,j,rfl,q⟩:=h
 obtain ⟨u,w',rfl,⟨t,rfl⟩,⟨t',rfl⟩⟩:=Zmq r
 refine min_two_ints (I.ok.hd hc) fun h' tk k=>⟨_,H,I.kept k,?_,q⟩
 by_cases hj:j < i
 · rw [if_pos hj,if_pos hj];exact ⟨_,rfl⟩
 · rw [if_neg hj,if_neg hj];exact ⟨_,rfl⟩
theorem ZhN:Yk X (.type "int") (fun xs H Q=>(∃ i,xs=[.int i]∧Q (.int i) H)∨∃ k,xs=[.bl k]∧Q (.int (if k then 1 else 0)) H):=by
 intro pins s σ H xs us Q I r h
 rcases h with ⟨i,rfl,q⟩ | ⟨k,rfl,q⟩
 · obtain ⟨u,rfl,t,rfl⟩:=Yj r
   exact call_int_int ⟨.int i,H,I,⟨_,rfl⟩,q⟩
 · obtain ⟨u,rfl,r1⟩:=Yj r
   cases r1
   exact call_int_bool ⟨.int (if k then 1 else 0),H,I.tok _,⟨_,rfl⟩,q⟩
theorem Zds:Yk X (.builtin "ord") (fun xs H Q=>∃ x,xs=[.str x]∧x.length=1∧Q (.int (x.cps.getD 0 0:Nat)) H):=by
 intro pins s σ H xs us Q I r h
 obtain ⟨x,rfl,hz,q⟩:=h
 obtain ⟨u,rfl,t,rfl⟩:=Yj r
 exact ord_of_one hz ⟨.int _,H,I.tok _,⟨_,rfl⟩,q⟩
def Zic (K:KF)(x:V)(H:Hp)(n:Nat):Prop :=
 match x with
 | .str y=>y.length≤sizeLine∧n=y.length
 | .byt y=>y.size≤sizeLine∧n=y.size
 | .ref p=>(∃ xs,SqL K H p xs∧n=xs.length)∨∃ xs,SqT K H p xs∧n=xs.length
 | _=>False
theorem Zjg:Yk X (.builtin "len") (fun xs H Q=>∃ x n,xs=[x]∧Zic X.K x H n∧Q (.int n) H):=by
 intro pins s σ H xs us Q I r h
 obtain ⟨x,n,rfl,e,q⟩:=h
 obtain ⟨u,rfl,rx⟩:=Yj r
 have hl:=Wq
 have hs:sizeLine=16777216:=sizeLine_eq
 cases x with
 | str y =>
   obtain ⟨t,rfl⟩:=rx
   obtain ⟨hy,e'⟩:y.length≤sizeLine∧n=y.length:=e
   subst e'
   exact len_str (by omega) ⟨.int _,H,I.tok _,⟨_,rfl⟩,q⟩
 | byt y =>
   obtain ⟨t,rfl⟩:=rx
   obtain ⟨hy,e'⟩:y.size≤sizeLine∧n=y.size:=e
   subst e'
   exact PySem.W.len_bytes (by omega) ⟨.int _,H,I.tok _,⟨_,rfl⟩,q⟩
 | ref p =>
   cases rx
   have e':(∃ xs,SqL X.K H p xs∧n=xs.length)∨∃ xs,SqT X.K H p xs∧n=xs.length:=e
   rcases e' with ⟨xs,hx,e'⟩ | ⟨xs,hx,e'⟩
   · subst e'
     obtain ⟨its,r',pl,hz⟩:=I.list hx
     have hlen:=r'.length
     exact Calls.call_len_list pl.isList (by simp only [List.size_toArray];omega) ⟨.int xs.length,H,I.tok _,⟨_,by simp only [List.size_toArray];rw [hlen]⟩,q⟩
   · subst e'
     obtain ⟨its,r',pl,hz⟩:=I.tuple hx
     have hlen:=r'.length
     exact len_tuple pl (by simp only [List.size_toArray];omega) ⟨.int xs.length,H,I.tok _,⟨_,by simp only [List.size_toArray];rw [hlen]⟩,q⟩
 | _=>exact (show False from e).elim
end
end L2
namespace L2
open PySem PySem.Spec PyProof.Rows
structure ObjM (h:Heap)(x dx C:Addr)(mA:Str→Option Value):Prop where
 obj:h.get? x=some (PySem.W.instObj C dx)
 ns:h.Ns1 dx mA
 ne:dx≠x
theorem Zhj {h:Heap}{dx:Addr}{mA:Str→Option Value}(n:h.Ns1 dx mA):∃ od,h.get? dx=some od∧∀ name,PySem.W.lookIn name od=some (mA name):=by
 obtain ⟨o,es,ep,ho,hd,hk,_,hm⟩:=n
 refine ⟨o,ho,fun name=>?_⟩
 have e:=hm name
 unfold nsFind findBy at e
 rw [← Array.find?_toList] at e
 unfold PySem.W.lookIn
 rw [hd]
 dsimp only
 split
 · rename_i y q
   rw [q] at e
   exact congrArg some e
 · rename_i q
   rw [q] at e
   have a:es.toList.any (·.refKey)=false:=by
     rw [List.any_eq_false]
     intro y hy
     obtain ⟨z,t,hkey⟩:=hk y (Array.mem_toList_iff.mp hy)
     simp [DictEntry.refKey,hkey]
   have a':¬ es.toList.any (·.refKey)=true:=by rw [a];exact Bool.false_ne_true
   rw [if_neg a']
   exact congrArg some e
theorem ObjM.look {h:Heap}{x dx C:Addr}{mA:Str→Option Value}(I:ObjM h x dx C mA):∃ od,PySem.W.InstAt h x (PySem.W.instObj C dx) C (some od)∧∀ name,PySem.W.lookIn name od=some (mA name) :=
 let ⟨od,ho,hl⟩:=Zhj I.ns
 ⟨od,⟨I.obj,rfl,rfl,ho⟩,hl⟩
section
variable {prog:Program}{w:World}{A:Around}{E:Zv}{s:Shared}{K:KF}{x dx C f:Addr}{mA:Str→Option Value}{name:Str}{v:Value}
theorem Zkf {expr:Bool}{Q:Zv}(X:K.In s.heap)(I:ObjM s.heap x dx C mA)(hg:PySem.W.plainGet K C name=true)(hh:PySem.W.hasDictIn K C=true)
   (ha:PySem.W.findIn K (.ref C) name=some none) (hv:mA name=some v) (hv':PySem.W.handedIn v=true) (h:Q v { s with toks:=s.toks+1 }) :
   wpAny (model prog w) A (getAttr (.ref x) name expr) Q E s:=by
 obtain ⟨od,J,hl⟩:=I.look
 exact PySem.W.get_value X J (PySem.W.plainGet_of hg).1 (PySem.W.findObj_own hh ha rfl (by rw [hl,hv])) hv' h
theorem ZiE {pl:Sem Bool}{Q:Value×List Value→Shared→Prop}(X:K.In s.heap)(I:ObjM s.heap x dx C mA)(hg:PySem.W.plainGet K C name=true)
   (hf:PySem.W.findIn K (.ref C) name=some (some (.ref f))) (ht:PySem.W.isFn K (.ref f)=true) (hv:mA name=none) (h:Q (.ref f,[.ref x]) s) :
   wpAny (model prog w) A (getMethod (.ref x) name pl) Q E s:=by
 obtain ⟨od,J,hl⟩:=I.look
 exact PySem.W.method_fn X J (PySem.W.plainGet_of hg).1 (PySem.W.plainGet_of hg).2 hf (beq_iff_eq.mp ht) (by show (PySem.W.lookIn name od).map (·.isSome)=some false;rw [hl,hv];rfl) h
theorem ZkW {ns:List Str}{Q:Unit→Shared→Prop}(X:K.In s.heap)(I:ObjM s.heap x dx C mA)
   (hs:PySem.W.findIn K (.ref C) "__setattr__"=some (some (.builtin "object.__setattr__"))) (hp:PySem.W.plainOver K C=true) (ht:PySem.W.takerIn K C name=some none) (hh:PySem.W.hasDictIn K C=true)
   (hw:PySem.Within mA ns) (hsz:ns.length≤sizeLine)
   (h:∀ h',ObjM h' x dx C (fun y=>if y=name then some v else mA y)→Heap.SameBut dx s.heap h'→Q () { s with heap:=h',toks:=s.toks+2 }) :
   wpAny (model prog w) A (setAttr (.ref x) name v) Q E s:=by
 obtain ⟨od,J,hl⟩:=I.look
 refine PySem.W.set_plain X J hs (PySem.W.osa_open (s:={ s with toks:=s.toks+1 }) (r:=none) X J hp ht fun b=>?_)
 obtain ⟨cd,hc,hd'⟩:=PySem.W.any_some hh
 have hx:s.heap.get? x=some ⟨.ref C,some dx,.plain,#[]⟩:=I.obj
 refine wpAny_bind (wpAny_pure (wpAny_bind (wpAny_bind (wpAny_loadPart hx (wpAny_bind (PySem.W.Looks.here (s:={ s with toks:=s.toks+1 }) (PySem.W.looks_clsIn X hc) ?_))))))
 rw [hd']
 refine wpAny_pure (a:=some dx) (wpAny_bind (wpAny_pure (wpAny_bind ?_)))
 refine wpAny_nsSet1 (s:={ s with toks:=s.toks+1 }) I.ns fun h' hn2 hs2=>?_
 obtain ⟨oD,esD,epD,hoD,hdD,hcD⟩:=hn2.count (PySem.Within.cons name v hw)
 refine wpAny_bind (wpAny_lookBehind hoD (by rw [hdD];exact pastItsLine_dict (Nat.le_trans hcD (by rw [List.length_cons];omega))) ?_)
 exact wpAny_pure (h _ ⟨(hs2.2 _ (Ne.symm I.ne)).trans I.obj,hn2,I.ne⟩ hs2)
theorem ZiD {R:Result→Shared→Prop}{vs:List Value}{kw:List (Str×Value)}(X:K.In s.heap)(hm:PySem.W.makesIn K C=true)
   (hi:PySem.W.findIn K (.ref C) "__init__"=some (some (.ref f))) (hf:PySem.W.typeIn K (.ref f)=some (.type "function"))
   (h:codeAny (model prog w) (A.under (.builtin "type.__call__" ⟨.ref C::vs,kw⟩)) (.call (.ref f) ⟨.ref (s.heap.objs.size+1)::vs,kw⟩) (PySem.W.InitBack (s.heap.objs.size+1) R)
     { s with heap:=(s.heap.push PySem.W.emptyDict).push (PySem.W.instObj C s.heap.objs.size) }) :
   codeAny (model prog w) A (.call (.ref C) ⟨vs,kw⟩) R s:=by
 obtain ⟨hh,g,d,t,os⟩:=s
 exact PySem.W.make_core (PySem.W.makes_of X hm) (PySem.W.looks_findIn X hi) (fun self=>PySem.W.bind_fn X self hf) (.inl rfl) h
end
def Xk (f:Str)(v:V):List (Str×V)→List (Str×V)
 | []=>[(f,v)]
 | (g,x)::r=>if g=f then (g,v)::r else (g,x)::Xk f v r
theorem YW (f g:Str)(v:V):∀ fs:List (Str×V),(Xk f v fs).lookup g=if g=f then some v else fs.lookup g
 | []=>by
   show List.lookup g [(f,v)]=_
   by_cases h:g=f
   · have hb:(g == f)=true:=beq_iff_eq.mpr h
     simp only [List.lookup,hb,if_pos h]
   · have hb:(g == f)=false:=beq_eq_false_iff_ne.mpr h
     simp only [List.lookup,hb,if_neg h]
 | (k, x)::r=>by
   have ih:=YW f g v r
   rw [show Xk f v ((k,x)::r)=(if k=f then (k,v)::r else (k,x)::Xk f v r) from rfl]
   by_cases hk:k=f
   · rw [if_pos hk]
     by_cases h:g=k
     · have hb:(g == k)=true:=beq_iff_eq.mpr h
       simp only [List.lookup,hb,if_pos (h.trans hk)]
     · have hb:(g == k)=false:=beq_eq_false_iff_ne.mpr h
       simp only [List.lookup,hb,if_neg (fun e:g=f=>h (e.trans hk.symm))]
   · rw [if_neg hk]
     by_cases h:g=k
     · have hb:(g == k)=true:=beq_iff_eq.mpr h
       simp only [List.lookup,hb,if_neg (fun e:g=f=>hk (h.symm.trans e))]
     · have hb:(g == k)=false:=beq_eq_false_iff_ne.mpr h
       simp only [List.lookup,hb]
       exact ih
theorem VA (f:Str)(v:V):∀ fs:List (Str×V),f∈(Xk f v fs).map (·.1)∧∀ g,g∈fs.map (·.1)→g∈(Xk f v fs).map (·.1)
 | []=>⟨by simp [Xk],fun g h=>by simp at h⟩
 | (k, x)::r=>by
   obtain ⟨i1,i2⟩:=VA f v r
   rw [show Xk f v ((k,x)::r)=(if k=f then (k,v)::r else (k,x)::Xk f v r) from rfl]
   by_cases hk:k=f
   · rw [if_pos hk]
     subst hk
     exact ⟨by simp,fun g h=>by simpa using h⟩
   · rw [if_neg hk]
     refine ⟨?_,fun g h=>?_⟩
     · rw [List.map_cons]
       exact List.mem_cons_of_mem _ i1
     · rw [List.map_cons] at h ⊢
       rcases List.mem_cons.mp h with e | e
       · exact List.mem_cons.mpr (.inl e)
       · exact List.mem_cons_of_mem _ (i2 g e)
theorem Zai (f:Str)(v:V):∀ fs:List (Str×V),(Xk f v fs).length≤fs.length+1
 | []=>by simp [Xk]
 | (k,x)::r=>by
   have ih:=Zai f v r
   rw [show Xk f v ((k,x)::r)=(if k=f then (k,v)::r else (k,x)::Xk f v r) from rfl]
   by_cases hk:k=f
   · rw [if_pos hk,List.length_cons,List.length_cons];omega
   · rw [if_neg hk,List.length_cons,List.length_cons];omega
theorem RelO.some_of {v:V}{o:Option Value}(r:RelO (some v) o):∃ u,o=some u∧RelV v u:=by
 cases o with
 | none=>exact (show False from r).elim
 | some u=>exact ⟨u,rfl,r⟩
theorem RelO.none_of {o:Option Value}(r:RelO none o):o=none:=by
 cases o with
 | none=>rfl
 | some u=>exact (show False from r).elim
theorem ZgE {v:V}{u:Value}(r:RelV v u):PySem.W.handedIn u=true:=by
 cases v with
 | non=>cases (show u=Value.none from r);rfl
 | bl b=>cases (show u=Value.bool b from r);rfl
 | int i=>obtain ⟨t,e⟩:=(show ∃ t,u=Value.int i t from r);cases e;rfl
 | str x=>obtain ⟨t,e⟩:=(show ∃ t,u=Value.str x t from r);cases e;rfl
 | byt b=>obtain ⟨t,e⟩:=(show ∃ t,u=Value.bytes b t from r);cases e;rfl
 | flt b=>obtain ⟨t,e⟩:=(show ∃ t,u=Value.float b t from r);cases e;rfl
 | ref a=>cases (show u=Value.ref a from r);rfl
 | ty n=>cases (show u=Value.type n from r);rfl
section
variable {P:Program}{w:World}{H H':Hp}{h h':Heap}{a C dx:Addr}{fs fs':Zu}
theorem ZbK (hok:HOk P w H h)(e:H a=some (.ins C dx fs)):∃ mA,ObjM h a dx C mA∧(∀ f,RelO (fs.lookup f) (mA f))∧PySem.Within mA (fs.map (·.1))∧fs.length≤1000∧H dx=some (.own a):=by
 obtain ⟨d,z,ne,ob,mA,n,r,q⟩:=(show ObjOk P w H h a (.ins C dx fs) from hok a _ e)
 exact ⟨mA,⟨ob,n,ne⟩,r,q,z,d⟩
end
structure Cls (K:KF)(C:Addr):Prop where
 pg:PySem.W.plainGet K C Str.empty=true
 hd:PySem.W.hasDictIn K C=true
 po:PySem.W.plainOver K C=true
 sa:PySem.W.findIn K (.ref C) "__setattr__"=some (some (.builtin "object.__setattr__"))
theorem Cls.get {K:KF}{C:Addr}(c:Cls K C)(f:Str):PySem.W.plainGet K C f=true:=c.pg
def NoAttr (K:KF)(C:Addr)(f:Str):Prop:=PySem.W.findIn K (.ref C) f=some none
theorem NoAttr.taker {K:KF}{C:Addr}{f:Str}(n:NoAttr K C f):PySem.W.takerIn K C f=some none:=by
 unfold PySem.W.takerIn
 rw [show PySem.W.findIn K (.ref C) f=some none from n]
 rfl
structure Vs (K:KF)(C:Addr)(m:Str)(f:Addr):Prop where
 at_:PySem.W.findIn K (.ref C) m=some (some (.ref f))
 fn:PySem.W.isFn K (.ref f)=true
 kp:PySem.W.keepIn K (.ref f)=true
section
variable {X:Cx}{pins:List (Addr×Obj)}{σ:St}{H:Hp}{s:Shared}{a C dx:Addr}{fs:Zu}{f:Str}{v:V}{A:Around}{E:Zv}
theorem Zgd {b:Bool}{Q:Zv}(I:Inv X pins σ H s)(e:H a=some (.ins C dx fs))(c:Cls X.K C)(n:NoAttr X.K C f)(l:fs.lookup f=some v)
   (h:∀ u s',Inv X pins σ H s'→RelV v u→Q u s'):wpAny (model X.prog X.w) A (getAttr (.ref a) f b) Q E s:=by
 obtain ⟨mA,O,r,_,_,_⟩:=ZbK I.hok e
 obtain ⟨u,hu,ru⟩:=RelO.some_of (v:=v) (o:=mA f) (by rw [← l];exact r f)
 exact Zkf I.kIn O (c.get f) c.hd n hu (ZgE ru) (h u _ (I.tok _) ru)
theorem Zgh {m:Str}{g:Addr}{pl:Sem Bool}{Q:Value×List Value→Shared→Prop}(I:Inv X pins σ H s)(e:H a=some (.ins C dx fs))(c:Cls X.K C)(k:Vs X.K C m g)(l:fs.lookup m=none)
   (h:Q (.ref g,[.ref a]) s):wpAny (model X.prog X.w) A (getMethod (.ref a) m pl) Q E s:=by
 obtain ⟨mA,O,r,_,_,_⟩:=ZbK I.hok e
 have hn:mA m=none:=RelO.none_of (by rw [← l];exact r m)
 exact ZiE I.kIn O (c.get m) k.at_ k.fn hn h
theorem ZfN {y:V}{u:Value}{Q:Unit→Shared→Prop}(I:Inv X pins σ H s)(e:H a=some (.ins C dx fs))(c:Cls X.K C)(n:NoAttr X.K C f)(hl:fs.length < 1000)(ry:RelV y u)
   (h:∀ s',Inv X pins σ (upd H a (.ins C dx (Xk f y fs))) s'→Q () s'):wpAny (model X.prog X.w) A (setAttr (.ref a) f u) Q E s:=by
 obtain ⟨mA,O,r,wi,_,ho⟩:=ZbK I.hok e
 have hz:(fs.map (·.1)).length≤sizeLine:=by rw [List.length_map,sizeLine_eq];omega
 refine ZkW I.kIn O c.sa c.po n.taker c.hd wi hz fun h' O' sb=>h _ ?_
 have hd:∃ o,h'.get? dx=some o:=let ⟨o,_,_,e',_⟩:=O'.ns;⟨o,e'⟩
 refine I.write (x:=a) (e:=dx) (by rw [e];exact True.intro) (.inr ho) (fun b q hb z=>(sb.2 b hb).trans z) hd ?_
 refine ⟨by rw [Zh O.ne];exact ho,?_,O.ne,O'.obj,_,O'.ns,fun g=>?_,fun g hg=>?_⟩
 · have:=Zai f y fs;omega
 · show RelO ((Xk f y fs).lookup g) (if g=f then some u else mA g)
   rw [YW]
   by_cases q:g=f
   · rw [if_pos q,if_pos q];exact ry
   · rw [if_neg q,if_neg q];exact r g
 · by_cases q:g=f
   · rw [q];exact (VA f y fs).1
   · refine (VA f y fs).2 g (wi g fun z=>hg ?_)
     show (if g=f then some u else mA g)=none
     rw [if_neg q];exact z
theorem Inv.made (I:Inv X pins σ H s):Inv X pins σ (upd (upd H s.heap.objs.size (.own (s.heap.objs.size+1))) (s.heap.objs.size+1) (.ins C s.heap.objs.size []))
   { s with heap:=(s.heap.push PySem.W.emptyDict).push (PySem.W.instObj C s.heap.objs.size) }:=by
 have e1:(s.heap.push PySem.W.emptyDict).get? s.heap.objs.size=some PySem.W.emptyDict:=Heap.get?_push_size s.heap rfl
 have e2:((s.heap.push PySem.W.emptyDict).push (PySem.W.instObj C s.heap.objs.size)).get? (s.heap.objs.size+1)=some (PySem.W.instObj C s.heap.objs.size):=by
   have:=Heap.get?_push_size (s.heap.push PySem.W.emptyDict) (o:=PySem.W.instObj C s.heap.objs.size) rfl
   rwa [Heap.size_push] at this
 have e3:(s.heap.push PySem.W.emptyDict).Ns s.heap.objs.size (fun _=>none):=⟨PySem.W.emptyDict,#[],_,e1,rfl,(fun e he=>absurd he (by simp)),fun _=>rfl⟩
 have I1:=I.laid (a:=s.heap.objs.size) (o:=.own (s.heap.objs.size+1)) (h':=s.heap.push PySem.W.emptyDict) (t':=s.toks) (fun b u q=>Heap.get?_push_of_some _ q) (Nat.le_refl _) ⟨_,e1⟩
 refine I1.laid (a:=s.heap.objs.size+1) (o:=.ins C s.heap.objs.size []) (t':=s.toks) (fun b u q=>Heap.get?_push_of_some _ q) (Nat.le_of_eq (Heap.size_push _ _)) ?_
 have ne:s.heap.objs.size≠s.heap.objs.size+1:=Nat.ne_of_lt (Nat.lt_succ_self _)
 refine ⟨by rw [Zh ne,Zg],Nat.zero_le _,ne,e2,fun _=>none,(Heap.Ns1.of_empty e3).at fun o q=>Heap.get?_push_of_some _ q,fun _=>True.intro,fun y hy=>absurd rfl hy⟩
theorem Zkn {prog:Program}{w:World}{env:Env}{e:Expr}{f:Str}{pos:Pos}{s:Shared}{Q:Zv}(hb:attributeBase e f env (eval e env)=eval e env)
   (h:wpAny (model prog w) A (eval e env) (fun o s₁=>wpAny (model prog w) A (getAttr o f true) Q E s₁) E s):wpAny (model prog w) A (eval (.Attribute e f pos) env) Q E s :=
 Attribute_any_ h (by rw [arm_eval_Attribute,hb])
end
def tFld (K:KF)(ta:TE)(f:Str):TE:=fun σ H Q=>ta σ H fun x H1=>∃ a C dx fs v,x=.ref a∧H1 a=some (.ins C dx fs)∧Cls K C∧NoAttr K C f∧fs.lookup f=some v∧Q v H1
def sFld (K:KF)(ta tv:TE)(f:Str):TS:=fun D σ H=>tv σ H fun y H1=>ta σ H1 fun x H2=>∃ a C dx fs,x=.ref a∧H2 a=some (.ins C dx fs)∧Cls K C∧NoAttr K C f∧fs.length < 1000 ∧
 D.nx σ (upd H2 a (.ins C dx (Xk f y fs)))
section
variable {X:Cx}{o e value:Expr}{f:Str}{pos pos' tpos:Pos}{ta tv:TE}
theorem YN (he:PE X e ta)(hb:attributeBase e f X.env (eval e X.env)=eval e X.env):PE X (.Attribute e f pos) (tFld X.K ta f):=by
 intro pins s σ H Q I h
 refine Zkn hb (Zr (he pins s σ H _ I h) fun u s1 ⟨x,H1,I1,rx,a,C,dx,fs,v,ex,ea,c,n,l,q⟩=>?_)
 subst ex
 obtain rfl:u=Value.ref a:=rx
 exact Zgd I1 ea c n l fun u' s2 I2 ru=>⟨v,H1,I2,ru,q⟩
theorem Zhw (ha:PE X o ta)(hv:PE X value tv)(hs:swapsWith value (some (.Attribute o f pos')) pos.line X.env=pure false):PS X (.Assign [.Attribute o f pos'] value pos) (sFld X.K ta tv f):=by
 intro pins s σ H D I h
 refine plainObj_wpAny_Assign_Attribute (Zr (hv pins s σ H _ I h) fun u s1 ⟨y,H1,I1,ry,q⟩=>Zr (ha pins s1 σ H1 _ I1 q) fun ov s2 ⟨x,H2,I2,rx,a,C,dx,fs,ex,ea,c,n,l,q2⟩=>?_) hs
 subst ex
 obtain rfl:ov=Value.ref a:=rx
 exact ZfN I2 ea c n l ry fun s3 I3=>⟨σ,_,I3,q2⟩
end
section
variable {X:Cx}{pins:List (Addr×Obj)}{σ:St}{H:Hp}{s:Shared}{A:Around}{E:Zv}{Q:Zv}{c:Value}{b:Bool}
end
end L2
namespace L2
open PySem PySem.Spec PyProof.Rows
structure Room (k:Nat)(A:Around):Prop where
 hd:A.handled=none
 dp:A.depth+3 * k+5 < recursionLimit
 un:A.units+16 * k+200 < cLine
 gd:A.guards=some []
theorem Room.mono {j k:Nat}{A:Around}(r:Room k A)(h:j≤k):Room j A:=⟨r.hd,by have:=r.dp;omega,by have:=r.un;omega,r.gd⟩
theorem Room.deeper {k:Nat}{A:Around}(r:Room (k+1) A)(env:Env):Room k (A.deeper env) :=
 ⟨r.hd,by have:=r.dp;show A.depth+1+3 * k+5 < _;omega,by have:=r.un;show A.units+3+16 * k+200 < _;omega,r.gd⟩
theorem ZfC {A:Around}{C:Addr}{us:List Value}{kw:List (Str×Value)}:(A.under (.builtin "type.__call__" ⟨.ref C::us,kw⟩)).depth=A.depth+1:=by
 first | rfl | simp [Around.under,Code.weight,Code.isCreation,Code.isGuard,Code.isCaller,Code.frames,Code.isFrame,guardIds]
theorem ZfD {A:Around}{C:Addr}{us:List Value}{kw:List (Str×Value)}:(A.under (.builtin "type.__call__" ⟨.ref C::us,kw⟩)).units=A.units+1:=by
 first | rfl | simp [Around.under,Code.cUnits,Code.frames,Code.isFrame]
theorem Room.make {k:Nat}{A:Around}(r:Room (k+1) A)(C:Addr)(us:List Value)(kw:List (Str×Value)):Room k (A.under (.builtin "type.__call__" ⟨.ref C::us,kw⟩)) :=
 ⟨r.hd,by have:=r.dp;rw [ZfC];omega,by have:=r.un;rw [ZfD];omega,by first | exact r.gd | simpa [Around.under,Code.isGuard,guardIds] using r.gd⟩
theorem Room.depth {k:Nat}{A:Around}(r:Room k A):A.depth < recursionLimit:=by have:=r.dp;omega
theorem Room.units {k:Nat}{A:Around}(r:Room k A):A.units+64 < cLine:=by have:=r.un;omega
def Wr:TA:=fun _ H Q=>Q [] H
def YX (ta:TE)(tr:TA):TA:=fun σ H Q=>ta σ H fun x H1=>tr σ H1 fun xs H2=>Q (x::xs) H2
section
variable {X:Cx}{e:Expr}{es:List Expr}{te:TE}{t:TA}{pos:Pos}
theorem Za:PA X [] Wr:=fun _ _ _ _ H Q I h=>Calls.spliced_nil ⟨[],H,I,.nil,h⟩
theorem Ys (ha:PE X e te)(hr:PA X es t)(hs:starEach (e::es) X.env=(false,eval e X.env)::starEach es X.env:=by rfl):PA X (e::es) (YX te t):=by
 intro pos pins s σ H Q I h
 rw [hs]
 show wpAny _ _ (spliced ((false,eval e X.env)::backTo pos (starEach es X.env))) _ _ s
 refine Calls.spliced_cons (Zr (ha pins s σ H _ I h) fun u s1 ⟨x,H1,I1,r1,q1⟩=>?_)
 exact Zr (hr pos pins s1 σ H1 _ I1 q1) fun us s2 ⟨xs,H2,I2,r2,q2⟩=>⟨x::xs,H2,I2,.cons r1 r2,q2⟩
def tTup (t:TA):TE:=fun σ H Q=>t σ H fun xs H1=>xs.length≤sizeLine∧∀ p,H1 p=none→Q (.ref p) (upd H1 p (.tup xs))
def tLst (t:TA):TE:=fun σ H Q=>t σ H fun xs H1=>xs.length≤sizeLine∧∀ p,H1 p=none→Q (.ref p) (upd H1 p (.lst xs))
theorem UJ {x1}(h:PA X es t):PE X (.Tuple es x1 pos) (tTup t):=by
 intro pins s σ H Q I hq
 refine wpAny_Tuple_spliced (Zr (h pos pins s σ H _ I hq) fun us s1 ⟨xs,H1,I1,r,z,q⟩=>⟨by rw [← r.length];exact z,?_⟩)
 have hf:H1 s1.heap.objs.size=none:=I1.hok.fresh (Nat.le_refl _)
 refine ⟨.ref s1.heap.objs.size,upd H1 s1.heap.objs.size (.tup xs),I1.laid (t':=s1.toks) (fun b u e=>Heap.get?_push_of_some _ e) (Nat.le_refl _) ?_,rfl,q _ hf⟩
 exact ⟨z,us,r,⟨_,Heap.get?_push_size _ rfl,rfl,_,rfl⟩⟩
theorem Xq (h:PA X es t):PE X (.List es pos) (tLst t):=by
 intro pins s σ H Q I hq
 refine wpAny_List_spliced (Zr (h pos pins s σ H _ I hq) fun us s1 ⟨xs,H1,I1,r,z,q⟩=>⟨by rw [← r.length];exact z,?_⟩)
 have hf:H1 s1.heap.objs.size=none:=I1.hok.fresh (Nat.le_refl _)
 refine ⟨.ref s1.heap.objs.size,upd H1 s1.heap.objs.size (.lst xs),I1.laid (t':=s1.toks) (fun b u e=>Heap.get?_push_of_some _ e) (Nat.le_refl _) ?_,rfl,q _ hf⟩
 exact ⟨z,us,0,r,Heap.get?_push_size _ rfl⟩
end
abbrev Sp:=List V→Hp→VK→XK→Prop
abbrev Ve:=List Env→Hp→Shared→XK→Value→Shared→Prop
structure Env0 (P:Program)(w:World)(K:KF)(mg:Str→Option Value)(base:Heap)(A:Around)(outer:List Env)(s:Shared)(H:Hp):Prop where
 frames:A.frames=some outer
 mod:Mod K mg base
 bs:∀ b o,base.get? b=some o→s.heap.get? b=some o∧H b=none
 bsz:base.objs.size≤s.heap.objs.size
 funs:s.heap.FunFrames base outer
 frf:∀ b∈Vn outer,H b=none
 hok:HOk P w H s.heap
 bare:AllBare s.gens
def CE (outer:List Env)(P:Program)(w:World)(H:Hp)(s:Shared)(Q:VK)(u:Value)(s':Shared):Prop :=
 ∃ v H',s'.os=s.os∧AllBare s'.gens∧Un (Vn outer) [] H H' s.heap s'.heap∧HOk P w H' s'.heap∧RelV v u∧Q v H'
def CR (CX:Ve)(outer:List Env)(P:Program)(w:World)(H:Hp)(s:Shared)(Q:VK)(E:XK)(r:Result)(s':Shared):Prop :=
 match r with
 | .ok (.ret u)=>CE outer P w H s Q u s'
 | .ok _=>False
 | .error e=>CX outer H s E e s'
structure FnOk (P:Program)(w:World)(K:KF)(mg:Str→Option Value)(base:Heap)(CX:Ve)(k:Nat)(f:Addr)(fd:FuncData)(ps:List Str)(sp:Sp):Prop where
 len:∀ vs H Q E,sp vs H Q E→vs.length=ps.length
 run:∀ (A:Around) (outer:List Env) (s:Shared) (H:Hp) (args:Args) (us:List Value) (vs:List V) (Q:VK) (E:XK),Room k A→Env0 P w K mg base A outer s H→BindsTo s fd args (ps.zip us)→Vals vs us→sp vs H Q E →
   codeAny (model P w) A (.call (.ref f) args) (CR CX outer P w H s Q E) s
theorem FnOk.mono {P:Program}{w:World}{K:KF}{mg:Str→Option Value}{base:Heap}{CX:Ve}{j k:Nat}{f:Addr}{fd:FuncData}{ps:List Str}{sp:Sp}(F:FnOk P w K mg base CX j f fd ps sp)(h:j≤k) :
 FnOk P w K mg base CX k f fd ps sp:=⟨F.len,fun A outer s H args us vs Q E hr=>F.run A outer s H args us vs Q E (hr.mono h)⟩
theorem Env0.make {P:Program}{w:World}{K:KF}{mg:Str→Option Value}{base:Heap}{A:Around}{outer:List Env}{s:Shared}{H:Hp}(e:Env0 P w K mg base A outer s H)(C:Addr)(us:List Value)(kw:List (Str×Value)) :
 Env0 P w K mg base (A.under (.builtin "type.__call__" ⟨.ref C::us,kw⟩)) outer s H:=⟨by first | exact e.frames | (simpa [Around.under,Code.envs,Code.isFrame,pushEnvs] using e.frames),e.mod,e.bs,e.bsz,e.funs,e.frf,e.hok,e.bare⟩
section
variable {X:Cx}{pins:List (Addr×Obj)}{σ:St}{H:Hp}{s s':Shared}
theorem Inv.env0 (I:Inv X pins σ H s):Env0 X.prog X.w X.K X.mg X.base X.A X.stack s H :=
 ⟨I.ok.frames,I.ok.mod,I.bs,Nat.le_trans I.ok.bsz I.sz,I.stack,I.stkFree,I.hok,I.bare⟩
theorem Inv.after {Q:VK}{u:Value}(I:Inv X pins σ H s)(h:CE X.stack X.prog X.w H s Q u s'):EP X pins σ Q u s':=by
 obtain ⟨v,H',os,bare,un,hok,r,q⟩:=h
 obtain ⟨hh,g,d,t,os'⟩:=s'
 obtain rfl:os'=s.os:=os
 exact ⟨v,H',I.call (h':=hh) (g':=g) (d':=d) (t':=t) (ch:=[]) un hok bare (fun b z=>absurd z (by simp)),r,q⟩
end
def Zbs (sp:Sp)(dvs:List V)(E:XK)(t:TA):TE:=fun σ H Q=>t σ H fun vs H1=>sp (vs++dvs) H1 Q E
def ZjN (C:Addr)(m:Str)(sp:Sp)(dvs:List V)(E:XK)(ta:TE)(t:TA):TE:=fun σ H Q=>ta σ H fun x H1=>∃ a dx fs,x=.ref a∧H1 a=some (.ins C dx fs)∧fs.lookup m=none ∧
 t σ H1 fun vs H2=>sp (x::(vs++dvs)) H2 Q E
def ZjB (C:Addr)(sp:Sp)(dvs:List V)(E:XK)(t:TA):TE:=fun σ H Q=>t σ H fun vs H1=>∀ x dx,H1 x=none→H1 dx=none→dx≠x →
 sp (.ref x::(vs++dvs)) (upd (upd H1 dx (.own x)) x (.ins C dx [])) (fun v H2=>v=.non∧Q (.ref x) H2) E
def Binds (K:KF)(fd:FuncData)(ps:List Str)(ds:List Value):Prop :=
 ∀ (s:Shared) (us:List Value),K.In s.heap→(us++ds).length=ps.length→BindsTo s fd ⟨us,[]⟩ (ps.zip (us++ds))
theorem Binds.all {K:KF}{fd:FuncData}{ps:List Str}(h:∀ us:List Value,us.length=ps.length→bindArgs fd ⟨us,[]⟩=pure (ps.zip us)):Binds K fd ps []:=fun s us _ hl=>by
 rw [List.append_nil] at hl ⊢
 exact .of_eq (h us hl)
def Uv (CX:Ve)(X:Cx)(E:XK):Prop:=∀(pins:List (Addr×Obj))(σ:St)(H:Hp)(s:Shared)(e:Value)(s':Shared),Inv X pins σ H s→CX X.stack H s E e s'→X.xe e s'
section
variable {X:Cx}{CX:Ve}{k:Nat}{f C:Addr}{fd:FuncData}{ps:List Str}{sp:Sp}{dvs:List V}{ds:List Value}{E:XK}{x m:Str}{p pos apos:Pos}{e o:Expr}{es:List Expr}{ta:TE}{t:TA}
theorem ZhL {pins:List (Addr×Obj)}{σ:St}{H:Hp}{s:Shared}{Q:VK}{us:List Value}{vs:List V}(F:FnOk X.prog X.w X.K X.mg X.base CX k f fd ps sp)(hr:Room k X.A)(hb:Binds X.K fd ps ds)(hd:Vals dvs ds)(hx:Uv CX X E)
   (I:Inv X pins σ H s) (r:Vals vs us) (h:sp (vs++dvs) H Q E):wpAny (model X.prog X.w) X.A (call (.ref f) us) (EP X pins σ Q) X.xe s:=by
 have r2:Vals (vs++dvs) (us++ds):=r.append hd
 have hl:(us++ds).length=ps.length:=by rw [← r2.length];exact F.len _ _ _ _ h
 refine wpAny_call (codeAny_mono (F.run X.A X.stack s H ⟨us,[]⟩ (us++ds) (vs++dvs) Q E hr I.env0 (hb s us I.kIn hl) r2 h) fun r s' hq=>?_)
 cases r with
 | error e=>exact hx pins σ H s e s' I hq
 | ok fl =>
   cases fl with
   | ret u=>exact I.after hq
   | next=>exact False.elim hq
   | brk=>exact False.elim hq
   | cont=>exact False.elim hq
theorem ZkQ (F:FnOk X.prog X.w X.K X.mg X.base CX k f fd ps sp)(hr:Room k X.A)(hg:Gl X x)(hm:X.mg x=some (.ref f))(hk:PySem.W.keepIn X.K (.ref f)=true)(hb:Binds X.K fd ps ds)(hd:Vals dvs ds)(hx:Uv CX X E)
   (ha:PA X (e::es) t) (hdb:(x == ("__debug__":Str))=false:=by decide) (he:starEach (e::es) X.env=(false,eval e X.env)::starEach es X.env:=by rfl) (hpl:(backTo pos (starEach es X.env)).any (·.1)=false:=by rfl) :
   PE X (.Call (.Name x p) (e::es) [] pos) (Zbs sp dvs E t):=by
 intro pins s σ H Q I h
 refine wpAny_Call_Name_kw (ZbH I hg hm ?_ hdb)
 refine PySem.W.callWith_K (h₀:=X.base) I.ok.mod.kin hk (Zr (ha pos pins s σ H _ I h) fun us s1 ⟨vs,H1,I1,r,q⟩=>⟨I1.kIn,?_⟩) he hpl
 exact ZhL F hr hb hd hx I1 r q
theorem ZkL {pl:Sem Bool}(he:PE X o ta)(c:Cls X.K C)(hm:Vs X.K C m f)(F:FnOk X.prog X.w X.K X.mg X.base CX k f fd ps sp)(hr:Room k X.A)(hb:Binds X.K fd ps ds)(hd:Vals dvs ds)(hx:Uv CX X E)(ha:PA X (e::es) t)
   (hst:starEach (e::es) X.env=(false,eval e X.env)::starEach es X.env:=by rfl) (hpl:(backTo pos (starEach es X.env)).any (·.1)=false:=by rfl)
   (ht:eval (.Call (.Attribute o m apos) (e::es) [] pos) X.env=(do
     let ov ← eval o X.env
     standAt apos.atName
     let (f,first) ← holding [ov] (getMethod ov m pl)
     callWith pos f first (backTo pos (starEach (e::es) X.env)) (backToKw pos (keywordEach [] X.env))):=by rfl) :
   PE X (.Call (.Attribute o m apos) (e::es) [] pos) (ZjN C m sp dvs E ta t):=by
 intro pins s σ H Q I h
 refine PySem.W.methodCall_KW (pl:=pl) (Zr (he pins s σ H _ I h) fun u s1 ⟨x,H1,I1,rx,a,dx,fs,ex,ea,l,q⟩=>?_) ht
 subst ex
 obtain rfl:u=Value.ref a:=rx
 refine Zgh I1 ea c hm l ?_
 refine PySem.W.callWith_K (first:=[.ref a]) (h₀:=X.base) I.ok.mod.kin hm.kp (Zr (ha pos pins s1 σ H1 _ I1 q) fun us s2 ⟨vs,H2,I2,r,q2⟩=>⟨I2.kIn,?_⟩) hst hpl
 exact ZhL (us:=.ref a::us) (vs:=.ref a::vs) F hr hb hd hx I2 (.cons rfl r) q2
structure Mk (K:KF)(C f:Addr):Prop where
 makes:PySem.W.makesIn K C=true
 init:PySem.W.findIn K (.ref C) "__init__"=some (some (.ref f))
 fn:PySem.W.isFn K (.ref f)=true
 kp:PySem.W.keepIn K (.ref C)=true
theorem Zjj {pins:List (Addr×Obj)}{σ:St}{H:Hp}{s:Shared}{Q:VK}{us:List Value}{vs:List V}(M:Mk X.K C f)(F:FnOk X.prog X.w X.K X.mg X.base CX k f fd ps sp)(hr:Room (k+1) X.A)(hb:Binds X.K fd ps ds)(hd:Vals dvs ds)
   (hx:Uv CX X E) (I:Inv X pins σ H s) (r:Vals vs us)
   (h:∀ x dx,H x=none→H dx=none→dx≠x→sp (.ref x::(vs++dvs)) (upd (upd H dx (.own x)) x (.ins C dx [])) (fun v H2=>v=.non∧Q (.ref x) H2) E) :
   wpAny (model X.prog X.w) X.A (call (.ref C) us) (EP X pins σ Q) X.xe s:=by
 have hq:=h (s.heap.objs.size+1) s.heap.objs.size (I.hok.fresh (Nat.le_succ _)) (I.hok.fresh (Nat.le_refl _)) (Nat.ne_of_lt (Nat.lt_succ_self _))
 have I2:=Inv.made (C:=C) I
 have r2:Vals (V.ref (s.heap.objs.size+1)::(vs++dvs)) (Value.ref (s.heap.objs.size+1)::(us++ds)):=.cons rfl (r.append hd)
 have hl:(Value.ref (s.heap.objs.size+1)::us++ds).length=ps.length:=by
   have e:=r2.length
   rw [F.len _ _ _ _ hq] at e
   exact e.symm
 refine wpAny_call (ZiD (f:=f) I.kIn M.makes M.init (beq_iff_eq.mp M.fn) (codeAny_mono (F.run _ X.stack _ _ ⟨Value.ref (s.heap.objs.size+1)::us,[]⟩ (Value.ref (s.heap.objs.size+1)::(us++ds)) _ _ E (hr.make C us [])
   (I2.env0.make C us []) (hb _ (Value.ref (s.heap.objs.size+1)::us) I2.kIn hl) r2 hq) fun r s' hq'=>?_))
 cases r with
 | error e=>exact hx pins σ _ _ e s' I2 hq'
 | ok fl =>
   cases fl with
   | ret u =>
     obtain ⟨v,H',I3,rv,ev,q3⟩:=I2.after hq'
     subst ev
     exact ⟨rv,⟨V.ref (s.heap.objs.size+1),H',I3,rfl,q3⟩⟩
   | next=>exact False.elim hq'
   | brk=>exact False.elim hq'
   | cont=>exact False.elim hq'
theorem Zin (M:Mk X.K C f)(F:FnOk X.prog X.w X.K X.mg X.base CX k f fd ps sp)(hr:Room (k+1) X.A)(hg:Gl X x)(hm:X.mg x=some (.ref C))(hb:Binds X.K fd ps ds)(hd:Vals dvs ds)(hx:Uv CX X E)
   (hdb:(x == ("__debug__":Str))=false:=by decide):PE X (.Call (.Name x p) [] [] pos) (ZjB C sp dvs E Wr):=by
 intro pins s σ H Q I h
 refine wpAny_Call_Name_kw (ZbH I hg hm ?_ hdb)
 exact PySem.W.callWith_K0 I.kIn M.kp (Zjj (us:=[]) M F hr hb hd hx I .nil h)
end
def PK (X:Cx)(kws:List Keyword)(t:TA):Prop :=
 ∀ (pos:Pos) (pins:List (Addr×Obj)) (s:Shared) (σ:St) (H:Hp) (Q:List V→Hp→Prop),Inv X pins σ H s→t σ H Q→wpAny (model X.prog X.w) X.A (evalAll ((backToKw pos (keywordEach kws X.env)).map (·.2))) (AP X pins σ Q) X.xe s
section
variable {X:Cx}{CX:Ve}{k:Nat}{f C:Addr}{fd:FuncData}{ps ks:List Str}{sp:Sp}{E:XK}{x m:Str}{p pos apos kpos:Pos}{e o:Expr}{es:List Expr}{kws:List Keyword}{te ta:TE}{t tk:TA}{nm:Option Str}
theorem Zmh:PK X [] Wr:=fun _ _ _ _ H Q I h=>wpAny_evalAll_nil ⟨[],H,I,.nil,h⟩
theorem ZjZ (ha:PE X e te)(hr:PK X kws t):PK X (⟨nm,e,kpos⟩::kws) (YX te t):=by
 intro pos pins s σ H Q I h
 show wpAny _ _ (evalAll ((do let v ← eval e X.env;standAt pos;pure v)::(backToKw pos (keywordEach kws X.env)).map (·.2))) _ _ s
 refine wpAny_evalAll_cons (wpAny_bind (Zr (ha pins s σ H _ I h) fun u s1 ⟨x,H1,I1,r1,q1⟩=>wpAny_bind (wpAny_standAt (wpAny_pure ?_))))
 exact Zr (hr pos pins s1 σ H1 _ I1 q1) fun us s2 ⟨xs,H2,I2,r2,q2⟩=>⟨x::xs,H2,I2,.cons r1 r2,q2⟩
variable {g:List Value→List Value→List Value}{gV:List V→List V→List V}
end
structure Zw (N P:List Str)(sc:Scope):Prop where
 kind:sc.kind=.function
 co:sc.isCoroutine=false
 gen:sc.isGenerator=false
 nd:N.Nodup
 pre:N.take P.length=P
 par:∀ x∈P,sc.names.lookup x=some .local∨sc.names.lookup x=some .cell
 nofree:∀ y∈sc.names,y.2≠.free
theorem ZcG {kindOf:Str→Option NameKind}{x:Str}:∀{binds:List (Str×Value)}{m:Str→Option Value},(∀ v,(x,v) ∉ binds)→bindL kindOf binds m x=m x
 | [],_,_=>rfl
 | (n,v)::r,m,h=>by
   unfold bindL
   rw [ZcG fun w hw=>h w (List.mem_cons_of_mem _ hw)]
   split
   · have:x≠n:=by rintro rfl;exact h v List.mem_cons_self
     simp [this]
   · rfl
theorem Zct {kindOf:Str→Option NameKind}{x:Str}:∀{binds:List (Str×Value)}{m:Str→Option Value},(∀ v,(x,v) ∉ binds)→bindC kindOf binds m x=m x
 | [],_,_=>rfl
 | (n,v)::r,m,h=>by
   unfold bindC
   rw [Zct fun w hw=>h w (List.mem_cons_of_mem _ hw)]
   split
   · rfl
   · have:x≠n:=by rintro rfl;exact h v List.mem_cons_self
     simp [this]
theorem ZcI {kindOf:Str→Option NameKind}{x:Str}{v:Value}:∀{P:List Str}{vs:List Value}{i:Nat}{m:Str→Option Value},P.Nodup→P[i]?=some x→vs[i]?=some v→kindOf x=some .local →
   bindL kindOf (P.zip vs) m x=some v
 | [],_,_,_,_,h,_,_=>by simp at h
 | _::_,[],_,_,_,_,h,_=>by simp at h
 | p::P,w::vs,0,m,nd,h1,h2,hk=>by
   simp at h1 h2;subst h1;subst h2
   show bindL kindOf ((p,w)::P.zip vs) m p=_
   unfold bindL
   rw [ZcG fun v hv=>(List.nodup_cons.mp nd).1 (List.of_mem_zip hv).1,if_pos hk]
   simp
 | p::P,w::vs,i+1,m,nd,h1,h2,hk=>by
   show bindL kindOf ((p,w)::P.zip vs) m x=_
   unfold bindL
   exact ZcI (i:=i) (List.nodup_cons.mp nd).2 (by simpa using h1) (by simpa using h2) hk
theorem ZcJ {kindOf:Str→Option NameKind}{x:Str}{v:Value}:∀{P:List Str}{vs:List Value}{i:Nat}{m:Str→Option Value},P.Nodup→P[i]?=some x→vs[i]?=some v→kindOf x≠some .local →
   bindC kindOf (P.zip vs) m x=some v
 | [],_,_,_,_,h,_,_=>by simp at h
 | _::_,[],_,_,_,_,h,_=>by simp at h
 | p::P,w::vs,0,m,nd,h1,h2,hk=>by
   simp at h1 h2;subst h1;subst h2
   show bindC kindOf ((p,w)::P.zip vs) m p=_
   unfold bindC
   rw [Zct fun v hv=>(List.nodup_cons.mp nd).1 (List.of_mem_zip hv).1,if_neg hk]
   simp
 | p::P,w::vs,i+1,m,nd,h1,h2,hk=>by
   show bindC kindOf ((p,w)::P.zip vs) m x=_
   unfold bindC
   exact ZcJ (i:=i) (List.nodup_cons.mp nd).2 (by simpa using h1) (by simpa using h2) hk
def start (N:List Str)(vs:List V):St:=vs.map some++List.replicate (N.length - vs.length) none
def Zav (CX:Ve)(P:Program)(w:World)(K:KF)(mg:Str→Option Value)(base:Heap)(N:List Str)(qual:Str)(scope:Scope)(f:Addr)(cd:Value)(A:Around)(outer:List Env)(s:Shared)(H:Hp)(E:XK):Cx where
 prog:=P
 w:=w
 K:=K
 mg:=mg
 base:=base
 A:=A.deeper (envOfC qual scope s.heap.objs.size f cd)
 N:=N
 s₀:=s
 H₀:=H
 env:=envOfC qual scope s.heap.objs.size f cd
 outer:=outer
 stack:=envOfC qual scope s.heap.objs.size f cd::outer
 ex:=[]
 calm:=true
 fn:=fun _=>true
 pn:=[]
 xe:=fun e s'=>wpAny (model P w) (A.deeper (envOfC qual scope s.heap.objs.size f cd)) (leaving (envOfC qual scope s.heap.objs.size f cd) e) (fun _ s''=>CX outer H s E e s'') (fun e' s''=>CX outer H s E e' s'') s'
theorem Zdd {sc:Scope}{n:Nat}{x:Str}(h:sc.names.lookup x=some .cell):∃ c,(cellsFrom n sc.names []).lookup x=some c:=by
 have q:=PySem.W.cellsFrom_some sc.names n [] (.inl h)
 exact Option.isSome_iff_exists.mp q
theorem ZgJ {CX:Ve}{P:Program}{w:World}{K:KF}{mg:Str→Option Value}{base:Heap}{N ps:List Str}{qual:Str}{scope:Scope}{f:Addr}{cd:Value}{A:Around}{outer:List Env}{s s1:Shared}{H:Hp}{E:XK}{us:List Value}{vs:List V}
   (S:Zw N ps scope) (hd:A.handled=none) (e0:Env0 P w K mg base A outer s H) (hl:vs.length=ps.length) (r:Vals vs us)
   (x:InCallC s s.heap.objs.size (bindL (envOfC qual scope s.heap.objs.size f cd).kindOf (ps.zip us) fun _=>none) (cellsFrom (s.heap.objs.size+1) scope.names []) (bindC (envOfC qual scope s.heap.objs.size f cd).kindOf (ps.zip us) fun _=>none) s1) :
   Inv (Zav CX P w K mg base N qual scope f cd A outer s H E) [] (start N vs) H s1:=by
 have hpl:ps.length≤N.length:=by have:=congrArg List.length S.pre;rw [List.length_take] at this;omega
 obtain ⟨h1,tk,rfl,hk⟩:=x.done
 have noA:∀ b:Addr,b ∉ (Zav CX P w K mg base N qual scope f cd A outer s H E).ex:=fun b z=>absurd (show b∈([]:List Addr) from z) (by simp)
 refine ⟨⟨e0.mod,S.kind,rfl,rfl,Nat.le_refl _,fun y z c h1 h2=>?_,fun y hy=>?_,fun y c _ h=>?_,fun _=>hd,Around.frames_deeper e0.frames,.inr ⟨rfl,rfl⟩,fun b z=>absurd z (noA b),e0.bs,e0.bsz,fun b _ _=>noA b,fun b z=>absurd z (noA b),e0.funs,e0.frf⟩,
   rfl,e0.bare,Un.kept hk,⟨_,x.toInCall.ns,fun i y v h1 h2 h3=>?_⟩,fun y c h=>⟨_,x.cell y c h⟩,e0.hok.fresh (Nat.le_refl _),fun y c h=>?_,fun p hp=>absurd (show p∈([]:List (Addr×Obj)) from hp) (by simp),e0.hok.kept hk,?_⟩
 · exact name_of_addr x.apart (PySem.mem_of_lookup h1) (PySem.mem_of_lookup h2)
 · have hy:scope.names.lookup y=some .cell∨scope.names.lookup y=some .free:=hy
   rcases hy with hy | hy
   · exact Zdd hy
   · exact absurd rfl (S.nofree _ (PySem.mem_of_lookup hy))
 · exact Nat.le_of_lt (x.above y c (PySem.mem_of_lookup h))
 · have hi:i < vs.length:=by
     unfold start at h2
     by_cases hi:i < vs.length
     · exact hi
     · rw [List.getElem?_append_right (by simpa using hi)] at h2
       rw [List.getElem?_replicate] at h2
       split at h2<;>cases h2
   have ha:vs[i]?=some v:=by
     unfold start at h2
     rw [List.getElem?_append_left (by simpa using hi),List.getElem?_map] at h2
     cases e:vs[i]? with
     | none=>rw [e] at h2;cases h2
     | some a=>rw [e] at h2;cases h2;rfl
   obtain ⟨u,hu,rv⟩:=r.get ha
   have hp:ps[i]?=some y:=by
     rw [← S.pre,List.getElem?_take_of_lt (by omega)];exact h1
   have ndP:ps.Nodup:=by rw [← S.pre];exact S.nd.sublist (List.take_sublist _ _)
   refine ⟨u,rv,?_⟩
   rcases S.par y (List.mem_of_getElem? hp) with k | k
   · exact .inl ⟨k,ZcI ndP hp hu k⟩
   · obtain ⟨c,e⟩:=Zdd (n:=s.heap.objs.size+1) k
     refine .inr ⟨.inl k,c,e,?_⟩
     have q:=x.cell y c e
     rw [ZcJ ndP hp hu (by show scope.names.lookup y≠_;rw [k];decide)] at q
     exact q
 · exact e0.hok.fresh (Nat.le_of_lt (x.above y c (PySem.mem_of_lookup h)))
 · unfold start
   show _=N.length
   rw [List.length_append,List.length_map,List.length_replicate]
   omega
theorem Zjy {CX:Ve}{P:Program}{w:World}{K:KF}{mg:Str→Option Value}{base:Heap}{k:Nat}{f:Addr}{name qual:Str}{params:Arguments}{body:List Stmt}{scope:Scope}{dV kV doc pm cdv ct oc:Value}{an od:Option Addr}
   {osl:Array (Option Value)} {N ps:List Str} {sp:Sp} (lk:K.lookup f=some ⟨oc,od,.func (PySem.W.fnOf name qual params body scope dV kV doc pm an cdv ct),osl⟩) (hcd:PySem.W.codeIn K cdv qual=true) (S:Zw N ps scope)
   (len:∀ vs H Q E,sp vs H Q E→vs.length=ps.length)
   (hbody:∀ (A:Around) (outer:List Env) (s:Shared) (H:Hp) (vs:List V) (Q:VK) (E:XK),Room k (A.deeper (envOfC qual scope s.heap.objs.size f cdv))→sp vs H Q E →
     ∃ t,PSs (Zav CX P w K mg base N qual scope f cdv A outer s H E) body t∧t { nx:=fun _ H'=>Q .non H',rt:=Q } (start N vs) H) :
   FnOk P w K mg base CX (k+1) f (PySem.W.fnOf name qual params body scope dV kV doc pm an cdv ct) ps sp:=by
 refine ⟨len,fun A outer s H args us vs Q E hr e0 hb r hsp=>?_⟩
 have hl:=len _ _ _ _ hsp
 have KX:K.In s.heap:=e0.mod.kin.keeps fun b o e=>(e0.bs b o e).1
 have lim:s.heap.NoLimit:=e0.mod.nolimit.keeps fun b o e=>(e0.bs b o e).1
 have hkind:∀ y∈ps.zip us,scope.names.lookup y.1=some .local∨(scope.names.lookup y.1=some .cell∧((cellsFrom (s.heap.objs.size+1) scope.names []).lookup y.1).isSome=true):=fun ⟨n,v⟩ hy=>by
   rcases S.par n (List.of_mem_zip hy).1 with q | q
   · exact .inl q
   · exact .inr ⟨q,PySem.W.cellsFrom_some _ _ _ (.inl q)⟩
 refine codeAny_call_function hr.depth (KX _ _ lk) rfl S.co S.gen rfl (PySem.W.codeRec_of KX hcd) (hb _ _ _ _ ?_)
 refine wpAny_newFunctionEnv_cells S.kind hkind fun env he s1 x=>?_
 subst he
 refine ⟨lim.keeps x.toInCall.keep,codeAny_func ?_⟩
 obtain ⟨t,ht,hq⟩:=hbody A outer s H vs Q E (hr.deeper _) hsp
 have I:Inv (Zav CX P w K mg base N qual scope f cdv A outer s H E) [] (start N vs) H s1:=ZgJ S hr.hd e0 hl r x
 refine wpAny_mono (ht [] s1 (start N vs) H _ I hq) (fun fl s' hs=>?_) fun e s' hs=>hs
 have fin:∀ {σ':St} {H':Hp} {v:V} {u:Value},Inv (Zav CX P w K mg base N qual scope f cdv A outer s H E) [] σ' H' s'→RelV v u→Q v H'→CE outer P w H s Q u s' :=
   fun {σ' H' v u} J rv q=>⟨v,H',J.os,J.bare,J.base,J.hok,rv,q⟩
 cases fl with
 | ret u =>
   obtain ⟨v,σ',H',J,rv,q⟩:=hs
   exact fin J rv q
 | next =>
   obtain ⟨σ',H',J,q⟩:=hs
   exact fin (v:=V.non) (u:=Value.none) J rfl q
 | brk =>
   obtain ⟨_,_,_,q⟩:=hs
   exact False.elim q
 | cont =>
   obtain ⟨_,_,_,q⟩:=hs
   exact False.elim q
end L2
namespace L2
open PySem PySem.Spec PyProof.Rows
section
variable {X:Cx}{x:Str}{p pos:Pos}{e:Expr}{es:List Expr}{t:TA}{id T:String}{r:List V→Hp→VK→Prop}
def tCB (r:List V→Hp→VK→Prop)(t:TA):TE:=fun σ H Q=>t σ H fun vs H1=>r vs H1 Q
theorem ZD (hc:Yk X (.builtin id) r)(hg:Gl X x)(hm:X.mg x=none)(hv:bootBuiltins x=some (.builtin id))(ha:PA X (e::es) t)(hn:x≠"__name__":=by decide)(hdb:(x == ("__debug__":Str))=false:=by decide)
   (he:starEach (e::es) X.env=(false,eval e X.env)::starEach es X.env:=by rfl) (hpl:(backTo pos (starEach es X.env)).any (·.1)=false:=by rfl):PE X (.Call (.Name x p) (e::es) [] pos) (tCB r t):=by
 intro pins s σ H Q I h
 refine wpAny_Call_Name_kw (WM I hg hm hv ?_ hn hdb)
 exact PyProof.Rows.callWith_builtin1 (Zr (ha pos pins s σ H _ I h) fun us s1 ⟨vs,H1,I1,r1,q1⟩=>hc pins s1 σ H1 vs us Q I1 r1 q1) he hpl
theorem ZX (hc:Yk X (.type T) r)(hg:Gl X x)(hm:X.mg x=none)(hv:bootBuiltins x=some (.type T))(ha:PA X (e::es) t)(hn:x≠"__name__":=by decide)(hdb:(x == ("__debug__":Str))=false:=by decide)
   (he:starEach (e::es) X.env=(false,eval e X.env)::starEach es X.env:=by rfl) (hpl:(backTo pos (starEach es X.env)).any (·.1)=false:=by rfl):PE X (.Call (.Name x p) (e::es) [] pos) (tCB r t):=by
 intro pins s σ H Q I h
 refine wpAny_Call_Name_kw (WM I hg hm hv ?_ hn hdb)
 exact PyProof.Rows.callWith_type1 (Zr (ha pos pins s σ H _ I h) fun us s1 ⟨vs,H1,I1,r1,q1⟩=>hc pins s1 σ H1 vs us Q I1 r1 q1) he hpl
end
end L2
namespace HT
open PySem PyProof.Rows
section
open PySem.SeqAt
open PySem.AutoSeq1 (wpAny_loadPart')
open PySem.MeetsSeq PySem.MeetsSeq2 PySem.MeetsSeq3
end
section
variable {prog:Program}{w:World}{A:Around}{E:Zv}{s:Shared}
def sIx (n d:Nat):Option Int→Nat
 | none=>d
 | some v=>if v < 0 then (v+(n:Int)).toNat else min v.toNat n
theorem sIx_none (n d:Nat):sIx n d none=d:=rfl
theorem sIx_nat (n d k:Nat):sIx n d (some (k:Int))=min k n:=by
 show (if (k:Int) < 0 then ((k:Int)+(n:Int)).toNat else min (k:Int).toNat n)=min k n
 rw [if_neg (by omega),Int.toNat_natCast]
end
end HT
namespace L2
open PySem PySem.Spec PyProof.Rows
abbrev TO:=St→Hp→(Option Int→Hp→Prop)→Prop
def PO (X:Cx)(e:Option Expr)(t:TO):Prop :=
 ∀ (pins:List (Addr×Obj)) (s:Shared) (σ:St) (H:Hp) (Q:Option Int→Hp→Prop),Inv X pins σ H s→t σ H Q →
   wpAny (model X.prog X.w) X.A (evalPart e X.env) (fun u s'=>∃ o H',Inv X pins σ H' s'∧IsPart u o∧Q o H') X.xe s
def Zkr:TO:=fun _ H Q=>Q none H
def Zmr (t:TE):TO:=fun σ H Q=>t σ H fun x H1=>∃ i,x=.int i∧Q (some i) H1
section
variable {X:Cx}{e:Expr}{te:TE}{lo hi:Option Expr}{tl th:TO}{pos p2:Pos}
theorem ZbW:PO X none Zkr:=by
 intro pins s σ H Q I h
 rw [evalPart_none]
 exact wpAny_pure ⟨none,H,I,.none,h⟩
theorem ZbT (h:PE X e te):PO X (some e) (Zmr te):=by
 intro pins s σ H Q I hw
 rw [evalPart_some]
 refine Zr (h pins s σ H _ I hw) fun u s1 ⟨x,H1,I1,r1,q1⟩=>?_
 obtain ⟨i,rfl,q⟩:=q1
 obtain ⟨t,rfl⟩:=r1
 exact ⟨some i,H1,I1,.int i t,q⟩
def SlR (X:Cx)(r:V→Option Int→Option Int→Hp→VK→Prop):Prop :=
 ∀ (pins:List (Addr×Obj)) (s:Shared) (σ:St) (H:Hp) (x:V) (v vl vu:Value) (lo hi:Option Int) (sl:Addr) (Q:VK),Inv X pins σ H s→RelV x v→s.heap.IsSliceOf sl vl vu .none→IsPart vl lo→IsPart vu hi→r x lo hi H Q →
   ∃ T id,typeLookup (.type T) "__getitem__"=pure (some (.builtin id))∧s.TypeIs v T∧wpAny (model X.prog X.w) X.A (getItem v (.ref sl)) (EP X pins σ Q) X.xe s
def tSl (r:V→Option Int→Option Int→Hp→VK→Prop)(te:TE)(tl th:TO):TE:=fun σ H Q=>te σ H fun x H1=>tl σ H1 fun l H2=>th σ H2 fun u H3=>r x l u H3 Q
theorem Zaz {r:V→Option Int→Option Int→Hp→VK→Prop}(hr:SlR X r)(he:PE X e te)(hl:PO X lo tl)(hu:PO X hi th):PE X (.Subscript e (.Slice lo hi none p2) pos) (tSl r te tl th):=by
 intro pins s σ H Q I h
 refine Subscript_ (Zr (he pins s σ H _ I h) fun v s1 ⟨x,H1,I1,r1,q1⟩=>?_)
 refine wpAny_Slice (Zr (hl pins s1 σ H1 _ I1 q1) fun vl s2 ⟨l,H2,I2,pl,q2⟩=>Zr (hu pins s2 σ H2 _ I2 q2) fun vu s3 ⟨u,H3,I3,pu,q3⟩=>?_)
 rw [evalPart_none]
 refine wpAny_pure ?_
 have I4:Inv X pins σ H3 { s3 with heap:=s3.heap.push { cls:=.type "slice",data:=.fields #[vl,vu,.none] } }:=I3.kept (t':=s3.toks) fun b ob q=>Heap.get?_push_of_some _ q
 obtain ⟨T,id,hT,ht,hg⟩:=hr pins { s3 with heap:=s3.heap.push { cls:=.type "slice",data:=.fields #[vl,vu,.none] } } σ H3 x v vl vu l u s3.heap.objs.size Q I4 r1 (Heap.IsSliceOf.new ..) pl pu q3
 show wpAny (model X.prog X.w) X.A (subscriptTail e (.Slice lo hi none p2) v (.ref s3.heap.objs.size)) (EP X pins σ Q) X.xe { s3 with heap:=s3.heap.push { cls:=.type "slice",data:=.fields #[vl,vu,.none] } }
 exact tail_any (ops:=[.ref s3.heap.objs.size,v]) ht hT hg (by with_unfolding_all rfl)
def Vv (xs:List V)(lo hi:Option Int):List V:=(xs.drop (HT.sIx xs.length 0 lo)).take (HT.sIx xs.length xs.length hi - HT.sIx xs.length 0 lo)
theorem Zes (xs:List V)(lo hi:Option Int):(Vv xs lo hi).length≤xs.length:=by
 unfold Vv
 rw [List.length_take,List.length_drop]
 omega
end
end L2
namespace L2
open PySem PySem.Spec PyProof.Rows
def Wv (n:Nat)(i:Int):Option Nat:=if 0≤i then (if i < n then some i.toNat else none) else if -(n:Int)≤i then some (i+n).toNat else none
def YI {α:Type}(xs:List α)(i:Int):Option α:=(Wv xs.length i).bind fun j=>xs[j]?
theorem ZbS {n:Nat}{i:Int}{j:Nat}(h:Wv n i=some j):seqIndex? i n=some j∧j < n∧-(n:Int)≤i∧i < n:=by
 unfold Wv at h
 by_cases h0:0≤i
 · rw [if_pos h0] at h
   by_cases h1:i < n
   · rw [if_pos h1] at h
     have e:i.toNat=j:=Option.some.inj h
     exact ⟨by rw [seqIndex_of h0 h1,e],by omega,by omega,h1⟩
   · rw [if_neg h1] at h;cases h
 · rw [if_neg h0] at h
   by_cases h1:-(n:Int)≤i
   · rw [if_pos h1] at h
     have e:(i+n).toNat=j:=Option.some.inj h
     exact ⟨by rw [seqIndex_neg (by omega) h1,e],by omega,h1,by omega⟩
   · rw [if_neg h1] at h;cases h
theorem ZbX {α:Type}{xs:List α}{i:Int}{v:α}(h:YI xs i=some v):∃ j,seqIndex? i xs.length=some j∧xs[j]?=some v∧j < xs.length∧-(xs.length:Int)≤i∧i < xs.length:=by
 unfold YI at h
 cases e:Wv xs.length i with
 | none=>rw [e] at h;cases h
 | some j =>
   rw [e] at h
   obtain ⟨h1,h2,h3,h4⟩:=ZbS e
   exact ⟨j,h1,h,h2,h3,h4⟩
theorem ZT {α:Type}{xs:List α}{j:Nat}{v:α}(h:xs[j]?=some v):YI xs (j:Int)=some v:=by
 have hj:j < xs.length:=(List.getElem?_eq_some_iff.mp h).1
 have e:Wv xs.length (j:Int)=some j:=by
   unfold Wv
   rw [if_pos (by omega),if_pos (by omega)];simp
 unfold YI;rw [e];exact h
theorem Ziz {α:Type}(xs:List α)(v:α):YI (xs++[v]) (-1)=some v:=by
 have hl:(xs++[v]).length=xs.length+1:=by simp
 have e:Wv (xs++[v]).length (-1)=some xs.length:=by
   unfold Wv
   rw [hl,if_neg (by decide),if_pos (by omega)]
   congr 1
   omega
 unfold YI
 rw [e]
 show (xs++[v])[xs.length]?=some v
 simp
def ZkM (b:Expr):Prop:=∀ o i,subscripted b false o i=operate [o,i] (getItem o i)
def IxR (X:Cx)(r:R2):Prop :=
 ∀ (value slice:Expr) (pins:List (Addr×Obj)) (s:Shared) (σ:St) (H:Hp) (x y:V) (v u:Value) (Q:VK),Inv X pins σ H s→RelV x v→RelV y u→r x y H Q →
   subscripted slice false v u=operate [v,u] (getItem v u)→wpAny (model X.prog X.w) X.A (subscriptTail value slice v u) (EP X pins σ Q) X.xe s
def MtR (X:Cx)(id:String)(r:V→List V→Hp→VK→Prop):Prop :=
 ∀ (pins:List (Addr×Obj)) (s:Shared) (σ:St) (H:Hp) (x:V) (xs:List V) (v:Value) (us:List Value) (Q:VK),Inv X pins σ H s→RelV x v→Vals xs us→r x xs H Q →
   wpAny (model X.prog X.w) X.A (call (.builtin id) (v::us)) (EP X pins σ Q) X.xe s
section
variable {X:Cx}{a b:Expr}{ta tb:TE}{pos:Pos}
theorem ZB {r:R2}(hr:IxR X r)(ha:PE X a ta)(hb:PE X b tb)(hs:ZkM b):PE X (.Subscript a b pos) (tOp r ta tb):=by
 intro pins s σ H Q I h
 exact Subscript_ (Zjd ha hb I h fun v u s2 x y H2 I2 rx ry q=>hr a b pins s2 σ H2 x y v u Q I2 rx ry q (hs _ _))
def rIxL (K:KF):R2:=fun x y H Q=>∃ p xs i v,x=.ref p∧y=.int i∧SqL K H p xs∧YI xs i=some v∧Q v H
def rIxT (K:KF):R2:=fun x y H Q=>∃ p xs i v,x=.ref p∧y=.int i∧SqT K H p xs∧YI xs i=some v∧Q v H
def rIxS:R2:=fun x y H Q=>∃ z i c,x=.str z∧y=.int i∧z.length≤sizeLine∧YI z.cps.toList i=some c∧Q (.str ⟨#[c]⟩) H
theorem ZI:IxR X (rIxL X.K):=by
 intro value slice pins s σ H x y v u Q I rx ry h hs
 obtain ⟨p,xs,i,z,rfl,rfl,hq,he,q⟩:=h
 cases rx
 obtain ⟨t,rfl⟩:=ry
 obtain ⟨its,r,pl,hz⟩:=I.list hq
 obtain ⟨j,h1,h2,h3,h4,h5⟩:=ZbX he
 obtain ⟨w,ew,rw'⟩:=r.get h2
 have hl:=r.length
 have hn:=Wq
 have fin:EP X pins σ Q w s:=⟨z,H,I,rw',q⟩
 by_cases h0:0≤i
 · have hj:i.toNat=j:=by
     rw [seqIndex_of h0 h5] at h1
     exact Option.some.inj h1
   exact item_listR pl.isList h0 (by omega) (by rw [hj];simpa using ew) fin hs
 · have hj:(i+(its.toArray.size:Int)).toNat=j:=by
     rw [seqIndex_neg (by omega) h4] at h1
     rw [List.size_toArray,← hl]
     exact Option.some.inj h1
   exact subscriptTail_builtinR (x:=w) pl.isList.typeIs slot_list_getitem.lookup
     (wpAny_getItem_list_neg (Q:=fun r s'=>r=w∧EP X pins σ Q r s') pl.isList (by omega) (by rw [List.size_toArray]<;>omega) (by omega) (by rw [hj];simpa using ew) ⟨rfl,fin⟩) hs
theorem YS:IxR X (rIxT X.K):=by
 intro value slice pins s σ H x y v u Q I rx ry h hs
 obtain ⟨p,xs,i,z,rfl,rfl,hq,he,q⟩:=h
 cases rx
 obtain ⟨t,rfl⟩:=ry
 obtain ⟨its,r,pl,hz⟩:=I.tuple hq
 obtain ⟨j,h1,h2,h3,h4,h5⟩:=ZbX he
 obtain ⟨w,ew,rw'⟩:=r.get h2
 have hl:=r.length
 have hn:=Wq
 have fin:EP X pins σ Q w s:=⟨z,H,I,rw',q⟩
 exact subscriptTail_builtinR (x:=w) pl.typeIs slot_tuple_getitem.lookup
   (getItem_tuple (j:=j) (Q:=fun r s'=>r=w∧EP X pins σ Q r s') pl (by omega) (by omega) (by rw [List.size_toArray,← hl];exact h1) (by simpa using ew) ⟨rfl,fin⟩) hs
theorem ZbE:IxR X rIxS:=by
 intro value slice pins s σ H x y v u Q I rx ry h hs
 obtain ⟨z,i,c,rfl,rfl,hz,he,q⟩:=h
 obtain ⟨t,rfl⟩:=rx
 obtain ⟨t',rfl⟩:=ry
 obtain ⟨j,h1,h2,h3,h4,h5⟩:=ZbX he
 have hl:z.cps.toList.length=z.length:=by simp [Str.length]
 rw [hl] at h1 h4 h5
 have hn:=Wq
 exact tail_any (typeIs_str s z t) slot_str_getitem.lookup (getItem_str (c:=c) (by
   have e1:decide (i < -(2 ^ 63:Int))=false:=decide_eq_false (by omega)
   have e2:decide (i ≥ 2 ^ 63)=false:=decide_eq_false (by omega)
   rw [e1,e2,Bool.or_false]) (by rw [h1];simpa using h2) ⟨.str ⟨#[c]⟩,H,I.tok _,⟨_,rfl⟩,q⟩) hs
theorem Zgc (its:List Value)(n j:Nat)(u:Value):Obj.mapSeq (·.setIfInBounds j u) { cls:=.type "list",data:=.seq its.toArray n }={ cls:=.type "list",data:=.seq (its.set j u).toArray n }:=by
 simp [Obj.mapSeq]
theorem Inv.lst {pins:List (Addr×Obj)}{σ:St}{H:Hp}{s:Shared}{p:Addr}{xs:List V}(I:Inv X pins σ H s)(h:H p=some (.lst xs)) :
   ∃ (its:List Value) (n:Nat),Vals xs its∧s.heap.get? p=some { cls:=.type "list",data:=.seq its.toArray n }∧xs.length≤sizeLine:=by
 obtain ⟨z,its,n,r,e⟩:=I.hok p _ h
 exact ⟨its,n,r,e,z⟩
theorem Inv.lstUpd {pins:List (Addr×Obj)}{σ:St}{H:Hp}{s:Shared}{p:Addr}{xs ys:List V}{its its':List Value}{n n':Nat}{f:Obj→Obj}(I:Inv X pins σ H s)(h:H p=some (.lst xs))
   (ho:s.heap.get? p=some { cls:=.type "list",data:=.seq its.toArray n }) (hf:f { cls:=.type "list",data:=.seq its.toArray n }={ cls:=.type "list",data:=.seq its'.toArray n' }) (r:Vals ys its') (hz:ys.length≤sizeLine) (t:Nat) :
   Inv X pins σ (upd H p (.lst ys)) { s with heap:=s.heap.update p f,toks:=t }:=by
 have e:(s.heap.update p f).get? p=some { cls:=.type "list",data:=.seq its'.toArray n' }:=by
   rw [Heap.get?_update_self f ho (by rw [hf]<;>rfl),hf]
 refine I.write (x:=p) (e:=p) (by rw [h];trivial) (.inl rfl) (fun b u hb q=>(Heap.get?_update_other _ _ (Ne.symm hb)).trans q) ⟨_,e⟩ ?_
 exact ⟨hz,its',n',r,e⟩
def Zmx:V→V→V→Hp→(Hp→Prop)→Prop:=fun o i v H Q=>∃ p xs k j,o=.ref p∧i=.int k∧H p=some (.lst xs)∧Wv xs.length k=some j∧Q (upd H p (.lst (xs.set j v)))
theorem WQ:PSet X Zmx:=by
 intro pins s σ H o i v ov iv u Q I ro ri rv h
 obtain ⟨p,xs,k,j,rfl,rfl,hp,hj,q⟩:=h
 cases ro
 obtain ⟨t,rfl⟩:=ri
 obtain ⟨its,n,r,ho,hz⟩:=I.lst hp
 obtain ⟨h1,h2,h3,h4⟩:=ZbS hj
 have hl:=r.length
 have hn:=Wq
 have I':Inv X pins σ (upd H p (.lst (xs.set j v))) { s with heap:=s.heap.update p (Obj.mapSeq (·.setIfInBounds j u)) } :=
   I.lstUpd hp ho (Zgc its n j u) (r.set rv j) (by rw [List.length_set];exact hz) s.toks
 by_cases h0:0≤k
 · have hk:k.toNat=j:=by
     rw [seqIndex_of h0 h4] at h1
     exact Option.some.inj h1
   exact PySem.W.ki_setAt ho h0 (by omega) (by rw [List.size_toArray,← hl];exact h4) (by rw [hk];exact ⟨_,I',q⟩)
 · have hk:(k+(its.toArray.size:Int)).toNat=j:=by
     rw [seqIndex_neg (by omega) h3] at h1
     rw [List.size_toArray,← hl]
     exact Option.some.inj h1
   exact PySem.W.ki_setBack ho (by omega) (by rw [List.size_toArray,← hl];exact h3) (by omega) (by rw [hk];exact ⟨_,I',q⟩)
theorem ZdV (lo hi:Option Int)(n:Nat):(sliceBounds lo hi none n).1=((HT.sIx n 0 lo:Nat):Int)∧(sliceBounds lo hi none n).2.1=((HT.sIx n n hi:Nat):Int)∧(sliceBounds lo hi none n).2.2=1:=by
 refine ⟨?_,?_,rfl⟩
 · cases lo with
   | none=>simp [sliceBounds,HT.sIx]
   | some i =>
     simp only [sliceBounds,HT.sIx,Option.getD_none,show (1:Int) > 0 by decide,if_true]
     by_cases h:i < 0
     · simp only [h,if_true]<;>omega
     · simp only [h,if_false]<;>omega
 · cases hi with
   | none=>simp [sliceBounds,HT.sIx]
   | some i =>
     simp only [sliceBounds,HT.sIx,Option.getD_none,show (1:Int) > 0 by decide,if_true]
     by_cases h:i < 0
     · simp only [h,if_true]<;>omega
     · simp only [h,if_false]<;>omega
theorem ZcS (its:List Value)(lo hi:Option Int):slicePick its.toArray lo hi none=((its.drop (HT.sIx its.length 0 lo)).take (HT.sIx its.length its.length hi - HT.sIx its.length 0 lo)).toArray:=by
 obtain ⟨h1,h2,h3⟩:=ZdV lo hi its.toArray.size
 unfold slicePick
 rw [h1,h2,h3]
 simp only [sliceRange_one,pick_run,List.size_toArray]<;>rfl
def rSlL (K:KF):V→Option Int→Option Int→Hp→VK→Prop:=fun x lo hi H Q=>∃ a xs,x=.ref a∧SqL K H a xs∧∀ p,H p=none→Q (.ref p) (upd H p (.lst (Vv xs lo hi)))
theorem ZbQ:SlR X (rSlL X.K):=by
 intro pins s σ H x v vl vu lo hi sl Q I rx hs pl pu h
 obtain ⟨a,xs,rfl,hx,q⟩:=h
 cases rx
 obtain ⟨its,r,ht,hz⟩:=I.list hx
 have hlen:=r.length
 refine ⟨"list",_,slot_list_getitem.lookup,ht.isList.typeIs,?_⟩
 refine wpAny_getItem_list_slice ht.isList hs pl pu .none (by simp) ?_ (by rw [List.size_toArray]<;>omega)
 rw [ZcS,← hlen]
 refine ⟨.ref s.heap.objs.size,_,I.laid (t':=s.toks) (o:=.lst (Vv xs lo hi)) (fun b ob q=>Heap.get?_push_of_some _ q) (Nat.le_refl _) ?_,rfl,q _ (I.hok.fresh (Nat.le_refl _))⟩
 exact ⟨Nat.le_trans (Zes xs lo hi) hz,_,0,(r.drop (HT.sIx xs.length 0 lo)).take (HT.sIx xs.length xs.length hi - HT.sIx xs.length 0 lo),Heap.get?_push_size _ rfl⟩
theorem ZV:Yk X (.builtin "len") (fun xs H Q=>∃ p ys,xs=[.ref p]∧(SqL X.K H p ys∨SqT X.K H p ys)∧Q (.int ys.length) H):=by
 intro pins s σ H xs us Q I r h
 obtain ⟨p,ys,rfl,hq,q⟩:=h
 obtain ⟨u,rfl,rx⟩:=Yj r
 cases rx
 have hn:=Wq
 rcases hq with hq | hq
 · obtain ⟨its,r',pl,hz⟩:=I.list hq
   have hlen:=r'.length
   exact Calls.call_len_list pl.isList (by simp only [List.size_toArray]<;>omega) ⟨.int ys.length,H,I.tok _,⟨s.toks+1,by rw [List.size_toArray,hlen]⟩,q⟩
 · obtain ⟨its,r',pl,hz⟩:=I.tuple hq
   have hlen:=r'.length
   exact len_tuple pl (by simp only [List.size_toArray]<;>omega) ⟨.int ys.length,H,I.tok _,⟨s.toks+1,by rw [List.size_toArray,hlen]⟩,q⟩
theorem ZdE:Yk X (.builtin "len") (fun xs H Q=>∃ z,xs=[.str z]∧z.length≤sizeLine∧Q (.int z.length) H):=by
 intro pins s σ H xs us Q I r h
 obtain ⟨z,rfl,hz,q⟩:=h
 obtain ⟨u,rfl,t,rfl⟩:=Yj r
 have hn:=Wq
 exact len_str (by omega) ⟨.int z.length,H,I.tok _,⟨_,rfl⟩,q⟩
theorem WH:Yk X (.type "list") (fun xs H Q=>∃ p ys,xs=[.ref p]∧(SqL X.K H p ys∨SqT X.K H p ys)∧∀ l,H l=none→Q (.ref l) (upd H l (.lst ys))):=by
 intro pins s σ H xs us Q I r h
 obtain ⟨p,ys,rfl,hq,q⟩:=h
 obtain ⟨u,rfl,rx⟩:=Yj r
 cases rx
 have fin:∀ (its:List Value),Vals ys its→ys.length≤sizeLine→∀ (h':Heap) (c':Nat),(∀ b o',s.heap.get? b=some o'→h'.get? b=some o') →
     h'.get? s.heap.objs.size=some { cls:=.type "list",dict:=none,data:=.seq its.toArray c',slots:=#[] }→EP X pins σ Q (.ref s.heap.objs.size) { s with heap:=h' }:=fun its r' hz h' c' kp e =>
   ⟨.ref s.heap.objs.size,_,I.laid (t':=s.toks) kp (Nat.le_refl _) (show ObjOk X.prog X.w _ h' _ (.lst ys) from ⟨hz,its,c',r',e⟩),rfl,q _ (I.hok.fresh (Nat.le_refl _))⟩
 rcases hq with hq | hq
 · obtain ⟨its,r',pl,hz⟩:=I.list hq
   have hlen:=r'.length
   obtain ⟨o,ho,hc,n,hd⟩:=pl.isList
   exact call_list_seq p (.inl rfl) ho hc hd (fun h' c' kp e=>fin its r' hz h' c' kp e) (by simp only [List.size_toArray]<;>omega)
 · obtain ⟨its,r',pl,hz⟩:=I.tuple hq
   have hlen:=r'.length
   obtain ⟨o,ho,hc,n,hd⟩:=pl
   exact call_list_seq p (.inr rfl) ho hc hd (fun h' c' kp e=>fin its r' hz h' c' kp e) (by simp only [List.size_toArray]<;>omega)
theorem Vf:Yk X (.type "tuple") (fun xs H Q=>∃ p ys,xs=[.ref p]∧((SqL X.K H p ys∧∀ l,H l=none→Q (.ref l) (upd H l (.tup ys)))∨(SqT X.K H p ys∧Q (.ref p) H))):=by
 intro pins s σ H xs us Q I r h
 obtain ⟨p,ys,rfl,h⟩:=h
 obtain ⟨u,rfl,rx⟩:=Yj r
 cases rx
 rcases h with ⟨hq,q⟩ | ⟨hq,q⟩
 · obtain ⟨its,r',pl,hz⟩:=I.list hq
   have hlen:=r'.length
   refine call_tuple_list pl.isList (fun h' kp=>?_) (by simp only [List.size_toArray]<;>omega)
   have I1:Inv X pins σ H { s with heap:=h' }:=I.kept (t':=s.toks) kp
   have I2:Inv X pins σ (upd H h'.objs.size (.tup ys)) { s with heap:=h'.push { cls:=.type "tuple",data:=.seq its.toArray } } :=
     I1.laid (t':=s.toks) (fun b o e=>Heap.get?_push_of_some _ e) (Nat.le_refl _) (show ObjOk X.prog X.w _ _ _ (.tup ys) from ⟨hz,its,r',IsTup.new _ _⟩)
   exact ⟨.ref h'.objs.size,_,I2,rfl,q _ (I1.hok.fresh (Nat.le_refl _))⟩
 · obtain ⟨its,r',pl,hz⟩:=I.tuple hq
   exact call_tuple_same pl ⟨.ref p,H,I,rfl,q⟩
def tyV (K:KF)(T:String)(x:V)(H:Hp):Prop:=match x with
 | .str _=>T="str"
 | .int _=>T="int"
 | .ref p=>(T="list"∧∃ xs,SqL K H p xs)∨(T="tuple"∧∃ o,K.lookup p=some o∧o.cls=.type "tuple"∧o.dict=none) ∨
     (T="dict"∧((∃ kvs,H p=some (.dK kvs))∨∃ kvs,H p=some (.dT kvs)))∨(T="set"∧∃ S n,H p=some (.set S n))
 | _=>False
theorem Zgk {pins:List (Addr×Obj)}{σ:St}{H:Hp}{s:Shared}{T:String}{x:V}{v:Value}(I:Inv X pins σ H s)(r:RelV x v)(ty:tyV X.K T x H) :
   s.TypeIs v T∧∀ a,v=.ref a→∃ ob,s.heap.get? a=some ob∧ob.dict=none:=by
 cases x with
 | str z =>
   obtain ⟨t,rfl⟩:=r
   cases (show T="str" from ty)
   exact ⟨typeIs_str s z t,fun _ e=>nomatch e⟩
 | int i =>
   obtain ⟨t,rfl⟩:=r
   cases (show T="int" from ty)
   exact ⟨typeIs_int s i t,fun _ e=>nomatch e⟩
 | ref p =>
   cases r
   rcases ty with ⟨rfl,xs,hq⟩ | ⟨rfl,o,hk,hc,hd⟩ | ⟨rfl,hk⟩ | ⟨rfl,S,n,hk⟩
   · obtain ⟨its,_,pl,_⟩:=I.list hq
     refine ⟨pl.isList.typeIs,fun a e=>?_⟩
     cases e
     obtain ⟨o,n,e,c,hd,_⟩:=pl
     exact ⟨o,e,hd⟩
   · refine ⟨⟨o,I.kIn p o hk,hc⟩,fun a e=>?_⟩
     cases e
     exact ⟨o,I.kIn _ o hk,hd⟩
   · have z:∃ o,s.heap.get? p=some o∧o.ExactDict:=by
       rcases hk with ⟨kvs,hk⟩ | ⟨kvs,hk⟩
       · obtain ⟨_,_,_,_,o,_,_,e,ex,_⟩:=I.hok p _ hk
         exact ⟨o,e,ex⟩
       · obtain ⟨_,_,_,_,o,_,_,e,ex,_⟩:=I.hok p _ hk
         exact ⟨o,e,ex⟩
     obtain ⟨o,e,ex⟩:=z
     refine ⟨⟨o,e,ex.1⟩,fun a e2=>?_⟩
     cases e2
     exact ⟨o,e,ex.2.1⟩
   · obtain ⟨o,_,_,_,e,ex,_⟩:=I.hok p _ hk
     refine ⟨⟨o,e,ex.1⟩,fun a e2=>?_⟩
     cases e2
     exact ⟨o,e,ex.2.1⟩
 | _=>exact False.elim ty
def tBM0 (K:KF)(T:String)(r:V→List V→Hp→VK→Prop)(to:TE):TE:=fun σ H Q=>to σ H fun x H1=>tyV K T x H1∧r x [] H1 Q
def tBM (K:KF)(T:String)(r:V→List V→Hp→VK→Prop)(to:TE)(t:TA):TE:=fun σ H Q=>to σ H fun x H1=>tyV K T x H1∧t σ H1 fun xs H2=>r x xs H2 Q
variable {o e:Expr}{es:List Expr}{to:TE}{t:TA}{name:Str}{apos cpos:Pos}{T id:String}{r:V→List V→Hp→VK→Prop}
theorem ZhH (pa:PlainAttrs T)(slot:Slot T name id)(hty:typeOf (.builtin id)=pure (.type "method_descriptor"))(hm:MtR X id r)(ho:PE X o to)
   (hbase:attributeBase o name X.env (eval o X.env)=eval o X.env:=by rfl) (hline:(apos.endLine == cpos.line)=true:=by rfl):PE X (.Call (.Attribute o name apos) [] [] cpos) (tBM0 X.K T r to):=by
 intro pins s σ H Q I h
 refine wpAny_Call_method0_late hbase hline (Zr (ho pins s σ H _ I h) fun v s1 ⟨x,H1,I1,r1,ty,q1⟩=>?_)
 obtain ⟨h1,h2⟩:=Zgk I1 r1 ty
 exact ⟨T,id,pa,slot,hty,h1,h2,Calls.callWith_builtin rfl (PySem.evalArgs_none (hm pins s1 σ H1 x [] v [] Q I1 r1 .nil q1))⟩
theorem UO (pa:PlainAttrs T)(slot:Slot T name id)(hty:typeOf (.builtin id)=pure (.type "method_descriptor"))(hm:MtR X id r)(ho:PE X o to)(ha:PA X (e::es) t)
   (hbase:attributeBase o name X.env (eval o X.env)=eval o X.env:=by rfl)
   (hfew:((backTo cpos (starEach (e::es) X.env)).all (fun x=>!x.1)&&(backToKw cpos (keywordEach [] X.env)).all (fun x=>x.1.isSome)
     && decide ((e::es).length+([]:List Keyword).length+(if ([]:List Keyword).isEmpty then 0 else 1) < 30))=true:=by rfl)
   (hline:(apos.endLine == cpos.line)=true:=by rfl) (hs:starEach (e::es) X.env=(false,eval e X.env)::starEach es X.env:=by rfl) (hplain:(backTo cpos (starEach es X.env)).any (·.1)=false:=by rfl) :
   PE X (.Call (.Attribute o name apos) (e::es) [] cpos) (tBM X.K T r to t):=by
 intro pins s σ H Q I h
 refine wpAny_Call_method_late hbase hfew hline rfl (Zr (ho pins s σ H _ I h) fun v s1 ⟨x,H1,I1,r1,ty,q1⟩=>?_)
 obtain ⟨h1,h2⟩:=Zgk I1 r1 ty
 refine ⟨T,id,pa,slot,hty,h1,h2,?_⟩
 have hA:=ha cpos pins s1 σ H1 _ I1 q1
 rw [hs] at hA ⊢
 refine Calls.callWith_builtin (by show (false || (backTo cpos (starEach es X.env)).any (·.1))=false;rw [hplain]<;>rfl) (Calls.evalArgs_plain ?_)
 exact Zr hA fun us s2 ⟨vs,H2,I2,r2,q2⟩=>hm pins s2 σ H2 x vs v us Q I2 r1 r2 q2
end
end L2
namespace L2
open PySem PySem.Spec PyProof.Rows
def MtM (X:Cx)(id:String)(r:V→List V→Hp→VK→Prop):Prop :=
 ∀ (pins:List (Addr×Obj)) (s:Shared) (σ:St) (H:Hp) (x:V) (xs:List V) (v:Value) (us:List Value) (Q:VK),Inv X pins σ H s→RelV x v→Vals xs us→r x xs H Q →
   wpAny (model X.prog X.w) X.A (call (.builtin id) (v::us)) (EP X pins σ Q) X.xe s
theorem Vals.one:∀{x:V}{us:List Value},Vals [x] us→∃ u,us=[u]∧RelV x u
 | _,_,.cons r .nil=>⟨_,rfl,r⟩
theorem Vals.eraseIdx:∀{xs:List V}{us:List Value}(i:Nat),Vals xs us→Vals (xs.eraseIdx i) (us.eraseIdx i)
 | _,_,_,.nil=>.nil
 | _,_,0,.cons _ t=>t
 | _,_,i+1,.cons r t=>.cons r (Vals.eraseIdx i t)
theorem Vals.rep {xs:List V}{us:List Value}(h:Vals xs us):∀ k:Nat,Vals (List.replicate k xs).flatten (List.replicate k us).flatten
 | 0=>.nil
 | k+1=>by
   rw [List.replicate_succ,List.replicate_succ,List.flatten_cons,List.flatten_cons]
   exact Vals.append h (Vals.rep h k)
theorem ZcP {α:Type}:∀(l:List α)(i:Nat),(l.eraseIdx i).length≤l.length
 | [],_=>Nat.le_refl _
 | _::_,0=>Nat.le_succ _
 | _::r,i+1=>Nat.succ_le_succ (ZcP r i)
theorem Zcs (its:List Value):∀(k:Nat)(acc:List Value),
   List.foldl (fun x1 x2=>x1++x2) acc.toArray (List.replicate k its.toArray)=(acc++(List.replicate k its).flatten).toArray
 | 0,acc=>by simp
 | k + 1,acc=>by
   have e:acc.toArray++its.toArray=(acc++its).toArray:=by simp
   have e2:(acc++its)++(List.replicate k its).flatten=acc++(List.replicate (k+1) its).flatten:=by
     rw [List.replicate_succ,List.flatten_cons,List.append_assoc]
   rw [← e2,← Zcs its k (acc++its),← e,List.replicate_succ,List.foldl_cons]
section
variable {X:Cx}{pins:List (Addr×Obj)}{σ:St}{H:Hp}{s:Shared}{l b:Addr}{xs ys zs:List V}
theorem Inv.lset {its its':List Value}{n:Nat}{f:Array Value→Array Value}{t':Nat}(I:Inv X pins σ H s)(hH:H l=some (.lst xs))
   (e:s.heap.get? l=some { cls:=.type "list",data:=.seq its.toArray n }) (hf:f its.toArray=its'.toArray) (hv:Vals ys its') (hz:ys.length≤sizeLine) :
   Inv X pins σ (upd H l (.lst ys)) { s with heap:=s.heap.update l (Obj.mapSeq f),toks:=t' }:=by
 have q:=PySem.IsL.update e f
 rw [hf] at q
 refine I.write (x:=l) (e:=l) (by rw [hH];exact trivial) (.inl rfl) (fun b' u hb hu=>(Heap.get?_update_other s.heap (Obj.mapSeq f) (Ne.symm hb)).trans hu) ⟨_,q⟩ ?_
 exact ⟨hz,its',_,hv,q⟩
theorem Inv.lnew {its:List Value}{t':Nat}(I:Inv X pins σ H s)(hv:Vals ys its)(hz:ys.length≤sizeLine) :
   Inv X pins σ (upd H s.heap.objs.size (.lst ys)) { s with heap:=s.heap.push { cls:=.type "list",data:=.seq its.toArray },toks:=t' } :=
 I.laid (fun _ _ q=>Heap.get?_push_of_some _ q) (Nat.le_refl _) ⟨hz,its,0,hv,Heap.get?_push_size _ rfl⟩
theorem Inv.fresh (I:Inv X pins σ H s):H s.heap.objs.size=none:=I.hok.fresh (Nat.le_refl _)
theorem Inv.lstM (I:Inv X pins σ H s)(hH:H l=some (.lst xs)):xs.length≤sizeLine∧∃ (its:List Value) (n:Nat),Vals xs its∧xs.length=its.length∧s.heap.get? l=some { cls:=.type "list",data:=.seq its.toArray n }:=by
 obtain ⟨z,its,n,r,e⟩:=I.hok l _ hH
 exact ⟨z,its,n,r,r.length,e⟩
theorem Zdj {n:Nat}(h:n≤sizeLine):Builtin.List.listTooLong n=false:=by
 unfold Builtin.List.listTooLong
 exact decide_eq_false (by omega)
end
section
variable {X:Cx}
def Zko:V→List V→Hp→VK→Prop:=fun x vs H Q=>∃ l xs y,x=.ref l∧vs=[y]∧H l=some (.lst xs)∧xs.length < sizeLine∧Q .non (upd H l (.lst (xs++[y])))
theorem WY:MtM X "list.append" Zko:=by
 intro pins s σ H x vs v us Q I rx rv h
 obtain ⟨l,xs,y,rfl,rfl,hH,hz,q⟩:=h
 cases rx
 obtain ⟨u,rfl,ru⟩:=rv.one
 obtain ⟨z,its,n,r,hl,e⟩:=I.lstM hH
 refine call_meets F.slot_list_append ⟨_,e,rfl⟩ F.entry_list_append (F.args_list_append_2 _ _) (PySem.list_append l its.toArray n u (by rw [List.size_toArray];omega)) ⟨e,?_⟩
 refine ⟨.non,_,I.lset (its':=its++[u]) hH e (by simp) (r.append (.cons ru .nil)) ?_,rfl,q⟩
 rw [List.length_append,List.length_singleton]
 omega
def ZkT:V→List V→Hp→VK→Prop:=fun x vs H Q=>∃ l b xs zs,x=.ref l∧vs=[.ref b]∧H l=some (.lst xs)∧H b=some (.lst zs)∧xs.length+zs.length≤sizeLine∧Q .non (upd H l (.lst (xs++zs)))
theorem ZcQ:MtM X "list.extend" ZkT:=by
 intro pins s σ H x vs v us Q I rx rv h
 obtain ⟨l,b,xs,zs,rfl,rfl,hH,hB,hz,q⟩:=h
 cases rx
 obtain ⟨u,rfl,ru⟩:=rv.one
 cases ru
 obtain ⟨z,its,n,r,hl,e⟩:=I.lstM hH
 obtain ⟨z2,its2,n2,r2,hl2,e2⟩:=I.lstM hB
 have hsz:its.toArray.size+its2.toArray.size≤sizeLine:=by rw [List.size_toArray,List.size_toArray];omega
 have hlong:¬ (!its.toArray.isEmpty&&Builtin.List.listTooLong (its.toArray.size+its2.toArray.size))=true:=by
   rw [Zdj hsz,Bool.and_false]
   exact Bool.false_ne_true
 refine call_meets F.slot_list_extend ⟨_,e,rfl⟩ F.entry_list_extend (F.args_list_extend_2 _ _)
   (AutoSeq1.list_extend_list_list_0 l its.toArray n b its2.toArray n2 hlong (by rw [List.size_toArray];omega) (by omega)) ⟨e,e2,?_⟩
 refine ⟨.non,_,I.lset (its':=its++its2) hH e (by simp) (r.append r2) ?_,rfl,q⟩
 rw [List.length_append]
 omega
def ZlF:V→List V→Hp→VK→Prop:=fun x vs H Q=>∃ l xs i k y,x=.ref l∧vs=[.int i]∧H l=some (.lst xs)∧-(2 ^ 63)≤i∧i < 2 ^ 63∧seqIndex? i xs.length=some k∧xs[k]?=some y∧Q y (upd H l (.lst (xs.eraseIdx k)))
theorem Zid:MtM X "list.pop" ZlF:=by
 intro pins s σ H x vs v us Q I rx rv h
 obtain ⟨l,xs,i,k,y,rfl,rfl,hH,h1,h2,hk,hy,q⟩:=h
 cases rx
 obtain ⟨u,rfl,ru⟩:=rv.one
 obtain ⟨t,rfl⟩:=ru
 obtain ⟨z,its,n,r,hl,e⟩:=I.lstM hH
 obtain ⟨w,hw,rw'⟩:=r.get hy
 refine call_meets F.slot_list_pop ⟨_,e,rfl⟩ F.entry_list_pop (F.args_list_pop_2 _ _)
   (MeetsSeq.list_pop_at l its.toArray n i t k w (fitsIndex_both h1 h2) (by rw [List.size_toArray,← hl];exact hk) (by rw [← Array.getElem?_toList];exact hw) (by rw [List.size_toArray];omega)) ⟨e,?_⟩
 refine ⟨y,_,I.lset (its':=its.eraseIdx k) hH e ?_ (r.eraseIdx k) ?_,rw',q⟩
 · show its.toArray.eraseIdxIfInBounds k=(its.eraseIdx k).toArray
   rw [List.eraseIdxIfInBounds_toArray]
 · have:=ZcP xs k
   omega
def rRep:R2:=fun x y H Q=>∃ l k xs,x=.ref l∧y=.int k∧H l=some (.lst xs)∧-(2 ^ 63)≤k∧k < 2 ^ 63∧xs.length * k.toNat≤sizeLine ∧
 ∀ p,H p=none→Q (.ref p) (upd H p (.lst (List.replicate k.toNat xs).flatten))
theorem ZkU {α:Type}(xs:List α)(k:Nat):(List.replicate k xs).flatten.length=k * xs.length:=by
 induction k with
 | zero=>simp
 | succ k ih=>rw [List.replicate_succ,List.flatten_cons,List.length_append,ih,Nat.succ_mul,Nat.add_comm]
theorem Zmb:Xf X (binaryOp .Mult) rRep:=by
 intro pins s σ H x y v u Q I rx ry h
 obtain ⟨l,k,xs,rfl,rfl,hH,h1,h2,hz,q⟩:=h
 cases rx
 obtain ⟨t,rfl⟩:=ry
 obtain ⟨z,its,n,r,hl,e⟩:=I.lstM hH
 have hlen:its.toArray.size * k.toNat≤sizeLine:=by rw [List.size_toArray,← hl];exact hz
 have hcap:¬ its.toArray.size * k.toNat > (2 ^ 63 - 1) / 8:=by
   have:(sizeLine:Nat)≤(2 ^ 63 - 1) / 8:=by decide
   omega
 have hfit:¬ (!Builtin.List.listFitsIndex k)=true:=by
   rw [fitsIndex_both h1 h2]
   exact Bool.false_ne_true
 have hlong:¬ Builtin.List.listTooLong (its.toArray.size * k.toNat)=true:=by
   rw [Zdj hlen]
   exact Bool.false_ne_true
 have hnew:List.foldl (fun x1 x2=>x1++x2) #[] (List.replicate (if its.toArray.isEmpty=true then 0 else k.toNat) its.toArray)=(List.replicate k.toNat its).flatten.toArray:=by
   have f0:∀ m:Nat,List.foldl (fun x1 x2=>x1++x2) #[] (List.replicate m its.toArray)=(List.replicate m its).flatten.toArray:=fun m=>by
     have:=Zcs its m []
     rw [List.nil_append] at this
     exact this
   rw [f0]
   cases its with
   | nil=>simp
   | cons a r'=>rw [if_neg (by simp)]
 refine wpAny_binaryOp_repeat_ref (T:="list") (U:="int") (by decide) ⟨_,e,rfl⟩ (fun s'=>typeIs_int s' k t) noFill_list_mul F.fills_int_mul F.slot_int_rmul repeat_list F.slot_int_index.lookup
   (call_meets F.slot_int_rmul (typeIs_int s k t) F.entry_int_rmul (F.args_int_rmul_2 _ _) (int___rmul___int_list k t l its.toArray n)
     ⟨e,rfl,⟨_,e,rfl⟩,call_meets F.slot_list_mul ⟨_,e,rfl⟩ F.entry_list_mul (F.args_list_mul_2 _ _) (AutoListH.list___mul___list_int_3 l its.toArray n k t hfit hcap hlong) ⟨e,?_⟩⟩)
 rw [hnew]
 exact ⟨.ref _,_,I.lnew (t':=s.toks) (r.rep k.toNat) (by rw [ZkU,Nat.mul_comm];exact hz),rfl,q _ I.fresh⟩
end
section
variable {prog:Program}{w:World}{A:Around}{E:Zv}{s:Shared}
end
section
variable {X:Cx}
end
end L2
namespace Att
open PySem PySem.W PySem.Calls PyProof.Rows
theorem Zbr {P:Params}{h:Heap}:∀(ns:List Int)(vs:List Value),WellAll P h vs (ns.map WData.int)→IntsAre vs ns:=by
 intro ns
 induction ns with
 | nil =>
   intro vs w
   rw [List.map_nil] at w
   cases w
   exact .nil
 | cons n ns ih =>
   intro vs w
   rw [List.map_cons] at w
   cases w with
   | cons a b =>
     cases a
     exact .cons _ _ (ih _ b)
theorem Zgz {l:OpenLaw}{n:Nat}(hn:l.most=some n){P:Params}{h:Heap}{args:List WData}{vals:List Value}
   (hpre:l.row.toRowW.claim.pre args=true) (hwl:WellAll P h vals args) :
   ∃ a vs ns,vals=[Value.ref a]∧args=[WData.list (ns.map WData.int)]∧h.get? a=some { cls:=.type "list",data:=.seq vs.toArray }∧IntsAre vs ns∧ns.length≤n:=by
 have hsh:WShape.hasAll [] args [.list .int]=true:=(pre_splitW hpre).1
 have hc:l.pre.holds [] { args:=args }=true:=(pre_splitW hpre).2
 obtain ⟨d,r,rfl,h1,h2⟩:=hasAllW_cons hsh
 obtain rfl:=hasAllW_nil h2
 obtain ⟨xs,rfl,h3⟩:=hasW_list h1
 obtain ⟨ns,rfl⟩:=items_int h3
 have hlen:ns.length≤n:=by
   unfold OpenLaw.pre at hc
   have h4:(WTm.not (.lt (.lit (.int (n:Int))) (.len (.arg 0)))).holds [] { args:=[.list (ns.map .int)] }=true:=by
     have h4:=(holds_andW hc).1
     rw [hn] at h4
     exact h4
   have h5:=condW_of h4 (w_not (w_lt w_lit (w_len_list (w_arg rfl))))
   rw [List.length_map] at h5
   refine Nat.le_of_not_lt fun q=>?_
   have q':(n:Int) < ((ns.length:Nat):Int):=by omega
   first
     | (rw [decide_eq_true q'] at h5;exact absurd h5 (by decide))
     | (simp at h5;omega)
 cases hwl with
 | cons w1 w2 =>
   cases w2
   cases w1 with
   | list ho hall=>exact ⟨_,_,ns,rfl,rfl,ho,Zbr ns _ hall,hlen⟩
theorem ZgF (l:OpenLaw)(args:List WData):l.row.toRowW.claim.post args (.bool true) args=true :=
 postW_of (r:=l.row.toRowW) (X:=(true == true))
   (show WShape.has [] (.bool true) .bool=true by first | rfl | decide | simp [WShape.has,WShape.arms,WShape.armsAll])
   (show (WTm.eq .res (.lit (.bool true))).value [] { args:=args,res:=some (.bool true),after:=args }=some (.bool (true == true)) from w_eq_bool (w_res rfl) w_lit) rfl
theorem attach_call {l:OpenLaw}{n:Nat}{q:Program}{loose:List Str}{XP:(Str→Option Value)→Heap→Prop}{YP:World→Heap→Prop}{d:DefRec}
   (hn:l.most=some n) (hdf:d.params.defaults=[])
   (call:∀ (w:World) (s₀ s₁:Shared) (mg mb:Str→Option Value) (fa:Addr) (o:Obj) (pm cd doc:Value) (a:Addr) (vs:List Value) (ns:List Int),
     Ground q loose [] XP w s₀ mg mb s₁.heap→YP w s₁.heap →
     s₁.heap.get? fa=some o→o.data=.func (docDef d.name d.params d.body d.scope pm cd doc)→s₁.heap.CodeRec cd d.name→mg d.name=some (.ref fa) →
     s₁.heap.get? a=some { cls:=.type "list",data:=.seq vs.toArray }→IntsAre vs ns→ns.length≤n→s₁.gens=#[] →
     codeAny (model l.prog w) callerA (.call (.ref fa) ⟨[.ref a],[]⟩) (fun r s'=>r=.ok (.ret (.bool true))∧OldK s₁.heap s'.heap∧s'.os=s₁.os∧AllBare s'.gens) s₁) :
   WalkO q loose XP YP l.row.toRowW d [] (fun f vs=>PySem.call f vs):=by
 intro w s₀ s₁ mg mb G Y fa o pm cd doc dV kV ho hd hcd hD hmg hg args vals as hpre hlay hrd hwl hlo
 obtain rfl:dV=.none:=Dflts.none hD hdf
 obtain rfl:kV=.none:=Dflts.noKw hD
 obtain ⟨a,vs,ns,rfl,rfl,hobj,hints,hlen⟩:=Zgz hn hpre hwl
 refine enter_call (codeAny_mono (call w s₀ s₁ mg mb fa o pm cd doc a vs ns G Y ho (fd_plain hd) hcd hmg hobj hints hlen hg) fun r s' hq=>?_)
 obtain ⟨rfl,h2,h3,h4⟩:=hq
 exact ⟨.inl ⟨.bool true,.bool true,[],rfl,fun _=>rfl,.bool true,ZgF l _,fun _=>⟨List.Pairwise.nil,fun _ hm=>(nomatch hm)⟩⟩,h2,h3,h4⟩
section
variable {prog:Program}{w:World}{A:Around}{E:Zv}{s:Shared}{K:Frag}
end
end Att
namespace L2
open PySem PySem.Spec PyProof.Rows
theorem Zcl:∀{vs:List Value}{ns:List Int},IntsAre vs ns→Vals (ns.map V.int) vs
 | _,_,.nil=>.nil
 | _,_,.cons n t h=>.cons ⟨t,rfl⟩ (Zcl h)
end L2
namespace L2
open PySem PySem.Spec PyProof.Rows
end L2
namespace L2
open PySem PySem.Spec PyProof.Rows
def Yt (s:Stmt)(j:Nat):Stmt:=match s with
 | .ClassDef _ _ _ body _ _ _ _ _ _ _=>body.getD j (.Pass ⟨0,0,0,0⟩)
 | _=>.Pass ⟨0,0,0,0⟩
def VX (s:Stmt):Arguments:=match s with
 | .FunctionDef _ a _ _ _ _ _ _ _ _=>a
 | _=>{ posonlyargs:=[],args:=[],vararg:=none,kwonlyargs:=[],kw_defaults:=[],kwarg:=none,defaults:=[] }
def Xu (s:Stmt):List Stmt:=match s with
 | .FunctionDef _ _ b _ _ _ _ _ _ _=>b
 | _=>[]
def Zn (s:Stmt):Scope:=match s with
 | .FunctionDef _ _ _ _ _ _ sc _ _ _=>sc
 | _=>{ kind:=.function,names:=[],isGenerator:=false,isCoroutine:=false }
abbrev ZK:Ve:=fun _ _ _ _ _ _=>False
abbrev E0:XK:=fun _ _ _=>False
theorem ZfK {X:Cx}:Uv ZK X E0:=fun _ _ _ _ _ _ _ h=>h.elim
structure Fun (K:KF)(x qual:Str)(st:Stmt)(f:Addr)(fd:FuncData):Prop where
 ex:∃ (oc:Value) (od:Option Addr) (kV doc pm:Value) (an:Option Addr) (cdv ct:Value) (osl:Array (Option Value)),
   fd=PySem.W.fnOf x qual (VX st) (Xu st) (Zn st) .none kV doc pm an cdv ct∧K.lookup f=some ⟨oc,od,.func fd,osl⟩∧PySem.W.codeIn K cdv qual=true
 kp:PySem.W.keepIn K (.ref f)=true
section
variable {P:Program}{w:World}{K:KF}{mg:Str→Option Value}{base:Heap}
theorem Fun.ok {x qual:Str}{st:Stmt}{f:Addr}{fd:FuncData}{N ps:List Str}{k:Nat}{sp:Sp}(F:Fun K x qual st f fd)(S:Zw N ps (Zn st))(len:∀ vs H Q E,sp vs H Q E→vs.length=ps.length)
   (hbody:∀ (cdv:Value) (A:Around) (outer:List Env) (s:Shared) (H:Hp) (vs:List V) (Q:VK) (E:XK),Room k (A.deeper (envOfC qual (Zn st) s.heap.objs.size f cdv))→sp vs H Q E →
     ∃ t,PSs (Zav ZK P w K mg base N qual (Zn st) f cdv A outer s H E).nox (Xu st) t∧t { nx:=fun _ H'=>Q .non H',rt:=Q } (start N vs) H):FnOk P w K mg base ZK (k+1) f fd ps sp:=by
 obtain ⟨oc,od,kV,doc,pm,an,cdv,ct,osl,rfl,lk,hcd⟩:=F.ex
 refine Zjy lk hcd S len fun A outer s H vs Q E hr hsp=>?_
 obtain ⟨t,h,q⟩:=hbody cdv A outer s H vs Q E hr hsp
 exact ⟨t,h.nox,q⟩
theorem Fun.binds {x qual:Str}{st:Stmt}{f:Addr}{fd:FuncData}{ps:List Str}(F:Fun K x qual st f fd)
   (h:∀ (kV doc pm:Value) (an:Option Addr) (cdv ct:Value) (us:List Value),us.length=ps.length→bindArgs (PySem.W.fnOf x qual (VX st) (Xu st) (Zn st) .none kV doc pm an cdv ct) ⟨us,[]⟩=pure (ps.zip us)):Binds K fd ps []:=by
 obtain ⟨oc,od,kV,doc,pm,an,cdv,ct,osl,rfl,lk,hcd⟩:=F.ex
 exact .all (h kV doc pm an cdv ct)
end
theorem XS {A:Around}{k:Nat}(hr:Room k A):A.units+1 < cLine:=Nat.lt_of_le_of_lt (Nat.add_le_add_left (by decide:1≤64) _) hr.units
theorem Zhn {n:Nat}(h:n≤1000):n < sizeLine:=Nat.lt_of_le_of_lt h (by decide)
section
variable {X:Cx}
theorem pv (i:Nat){x:Str}{pos:Pos}(hN:X.N[i]?=some x:=by rfl)(hv:Vis X.env.scope x:=by first | exact Or.inl rfl | exact Or.inr (Or.inl rfl) | exact Or.inr (Or.inr rfl))(hd:(x == ("__debug__":Str))=false:=by decide)
 (hcd:(x == ("__classdict__":Str))=false:=by decide):PE X (.Name x pos) (Ui i):=ZlE hN hv hd hcd
end
theorem Yr {A B:Prop}(h:B):if false=true then A else B:=by
 rw [if_neg Bool.false_ne_true]
 exact h
theorem Xg {A B:Prop}(h:A):if true=true then A else B:=by
 rw [if_pos rfl]
 exact h
theorem Yd {c A B:Prop}[Decidable c](h1:c→A)(h2:¬ c→B):if c then A else B:=by
 by_cases h:c
 · rw [if_pos h]
   exact h1 h
 · rw [if_neg h]
   exact h2 h
def Same (H H':Hp):Prop:=∀ b o,H b=some o→H' b=some o
theorem Same.refl (H:Hp):Same H H:=fun _ _ h=>h
theorem Same.trans {H H1 H2:Hp}(a:Same H H1)(b:Same H1 H2):Same H H2:=fun c o h=>b c o (a c o h)
end L2
namespace L2
open PySem PySem.Spec PyProof.Rows
section
variable {κ:Type}[DecidableEq κ]
def ZA (kvs:List (κ×V))(k:κ):Option V:=(kvs.find? fun kv=>decide (kv.1=k)).map (·.2)
def ZZ (kvs:List (κ×V))(k:κ)(v:V):List (κ×V) :=
 if (kvs.any fun kv=>decide (kv.1=k))=true then kvs.map (fun kv=>if kv.1=k then (kv.1,v) else kv) else kvs++[(k,v)]
theorem YD {p:κ×V}{r:List (κ×V)}{k:κ}(e:p.1=k):ZA (p::r) k=some p.2:=by simp [ZA,List.find?_cons,e]
theorem YC {p:κ×V}{r:List (κ×V)}{k:κ}(e:¬ p.1=k):ZA (p::r) k=ZA r k:=by simp [ZA,List.find?_cons,e]
theorem UU (k:κ):∀ kvs:List (κ×V),(kvs.any fun kv=>decide (kv.1=k))=(ZA kvs k).isSome
 | []=>rfl
 | p::r=>by
   rw [List.any_cons]
   by_cases e:p.1=k
   · simp only [YD e,decide_eq_true e,Bool.true_or,Option.isSome_some]
   · rw [YC e,decide_eq_false e,Bool.false_or];exact UU k r
theorem Zdl (k j:κ)(y:V):∀ kvs:List (κ×V),ZA (kvs.map fun kv=>if kv.1=k then (kv.1,y) else kv) j=(ZA kvs j).map fun x=>if j=k then y else x
 | []=>rfl
 | p :: r=>by
   have ih:=Zdl k j y r
   rw [List.map_cons]
   by_cases h:p.1=k
   · rw [if_pos h]
     by_cases e:p.1=j
     · rw [YD (p:=(p.1,y)) e,YD e,Option.map_some,if_pos (e.symm.trans h)]
     · rw [YC (p:=(p.1,y)) e,YC e,ih]
   · rw [if_neg h]
     by_cases e:p.1=j
     · rw [YD (p:=p) e,YD e,Option.map_some,if_neg (fun z=>h (e.trans z))]
     · rw [YC (p:=p) e,YC e,ih]
theorem ZcA (k j:κ)(y:V):∀ kvs:List (κ×V),ZA kvs k=none→ZA (kvs++[(k,y)]) j=if j=k then some y else ZA kvs j
 | [],_=>by
   by_cases e:k=j
   · rw [if_pos e.symm];exact YD (p:=(k,y)) e
   · rw [if_neg (fun z=>e z.symm)];exact YC (p:=(k,y)) e
 | p::r,hn=>by
   rw [List.cons_append]
   have hk:¬ p.1=k:=fun z=>by rw [YD z] at hn;cases hn
   rw [YC hk] at hn
   have ih:=ZcA k j y r hn
   by_cases e:p.1=j
   · rw [YD e,YD e,if_neg (fun z=>hk (e.trans z))]
   · rw [YC e,YC e,ih]
theorem WN (kvs:List (κ×V))(k j:κ)(y:V):ZA (ZZ kvs k y) j=if j=k then some y else ZA kvs j:=by
 unfold ZZ
 by_cases a:(kvs.any fun kv=>decide (kv.1=k))=true
 · rw [if_pos a,Zdl]
   rw [UU] at a
   by_cases e:j=k
   · obtain ⟨x,hx⟩:=Option.isSome_iff_exists.mp a
     rw [if_pos e,e,hx,Option.map_some,if_pos rfl]
   · rw [if_neg e]
     cases ZA kvs j with
     | none=>rfl
     | some x=>rw [Option.map_some,if_neg e]
 · rw [if_neg a]
   refine ZcA k j y kvs ?_
   rw [UU] at a
   cases q:ZA kvs k with
   | none=>rfl
   | some x=>rw [q] at a;exact (a rfl).elim
theorem XD (kvs:List (κ×V))(k:κ)(v:V):(ZZ kvs k v).length≤kvs.length+1:=by
 unfold ZZ
 split
 · rw [List.length_map];omega
 · rw [List.length_append,List.length_cons,List.length_nil];omega
theorem RelO.isSome_eq {o:Option V}{u:Option Value}(r:RelO o u):o.isSome=u.isSome:=by
 cases o with
 | none=>cases u with
   | none=>rfl
   | some _=>exact (show False from r).elim
 | some _=>cases u with
   | none=>exact (show False from r).elim
   | some _=>rfl
theorem RelO.getD {o:Option V}{u:Option Value}{d:V}{d':Value}(r:RelO o u)(rd:RelV d d'):RelV (o.getD d) (u.getD d'):=by
 cases o with
 | none=>cases u with
   | none=>exact rd
   | some _=>exact (show False from r).elim
 | some _=>cases u with
   | none=>exact (show False from r).elim
   | some _=>exact r
theorem KV.val {kvs:List (κ×V)}{vs:List (κ×Value)}(r:KV kvs vs)(k:κ):RelO (ZA kvs k) (valueAt vs k):=by
 unfold KV at r
 induction r with
 | nil=>exact True.intro
 | @cons p q ps qs h t ih =>
   obtain ⟨h1,h2⟩:=h
   by_cases e:p.1=k
   · have e':q.1=k:=h1.symm.trans e
     have b:valueAt (q::qs) k=some q.2:=by simp [valueAt,List.find?_cons,e']
     rw [YD e,b];exact h2
   · have e':¬ q.1=k:=fun z=>e (h1.trans z)
     have b:valueAt (q::qs) k=valueAt qs k:=by simp [valueAt,List.find?_cons,e']
     rw [YC e,b];exact ih
theorem KV.any {kvs:List (κ×V)}{vs:List (κ×Value)}(r:KV kvs vs)(k:κ):(kvs.any fun kv=>decide (kv.1=k))=vs.any fun kv=>decide (kv.1=k):=by
 unfold KV at r
 induction r with
 | nil=>rfl
 | cons h t ih=>rw [List.any_cons,List.any_cons,ih,h.1]
theorem KV.repl {kvs:List (κ×V)}{vs:List (κ×Value)}(r:KV kvs vs)(k:κ){y:V}{u:Value}(ry:RelV y u) :
   KV (kvs.map fun kv=>if kv.1=k then (kv.1,y) else kv) (vs.map fun kv=>if kv.1=k then (kv.1,u) else kv):=by
 unfold KV at r ⊢
 induction r with
 | nil=>exact .nil
 | @cons p q ps qs h t ih =>
   rw [List.map_cons,List.map_cons]
   refine .cons ?_ ih
   obtain ⟨h1,h2⟩:=h
   by_cases e:p.1=k
   · rw [if_pos e,if_pos (h1.symm.trans e)];exact ⟨h1,ry⟩
   · rw [if_neg e,if_neg (fun z=>e (h1.trans z))];exact ⟨h1,h2⟩
theorem KV.put {kvs:List (κ×V)}{vs:List (κ×Value)}(r:KV kvs vs)(k:κ){y:V}{u:Value}(ry:RelV y u):KV (ZZ kvs k y) (stored vs k u):=by
 unfold ZZ stored
 rw [r.any k]
 by_cases e:(vs.any fun kv=>decide (kv.1=k))=true
 · rw [if_pos e,if_pos e];exact r.repl k ry
 · rw [if_neg e,if_neg e];exact Paired.snoc r ⟨rfl,ry⟩
theorem KV.length {kvs:List (κ×V)}{vs:List (κ×Value)}(r:KV kvs vs):kvs.length=vs.length:=Paired.length r
end
theorem VR {P:Program}{w:World}{k:Zk}{u:Value}(r:RelV (kV k) u):(Zl P w).is k u=true:=by
 cases k with
 | inl i=>obtain ⟨t,e⟩:=(show ∃ t,u=Value.int i t from r);subst e;exact Zen P w i t
 | inr x=>obtain ⟨t,e⟩:=(show ∃ t,u=Value.str x t from r);subst e;exact Ul P w x t
theorem Zcw {P:Program}{w:World}:∀{ks:List Zk}{us:List Value},Vals (ks.map kV) us→ItemsAre (Zl P w) ks us
 | [],_,r=>by rw [List.map_nil] at r;cases r;exact .nil
 | k::ks,_,r=>by
   rw [List.map_cons] at r
   cases r with
   | cons h t=>exact .cons (VR h) (Zcw t)
abbrev KT (H:Hp):List (List Zk×V)→List (List Zk×Addr×Value)→Prop:=Paired fun p q=>p.1=q.1∧H q.2.1=some (.tup (p.1.map kV))∧RelV p.2 q.2.2
theorem KT.val {H:Hp}{kvs:List (List Zk×V)}{xs:List (List Zk×Addr×Value)}(r:KT H kvs xs)(k:List Zk):RelO (ZA kvs k) ((atKey xs k).map (·.2)):=by
 induction r with
 | nil=>exact True.intro
 | @cons p q ps qs h t ih =>
   obtain ⟨h1,_,h2⟩:=h
   by_cases e:p.1=k
   · have e':q.1=k:=h1.symm.trans e
     have b:atKey (q::qs) k=some q.2:=by simp [atKey,List.find?_cons,e']
     rw [YD e,b];exact h2
   · have e':¬ q.1=k:=fun z=>e (h1.trans z)
     have b:atKey (q::qs) k=atKey qs k:=by simp [atKey,List.find?_cons,e']
     rw [YC e,b];exact ih
theorem KT.repl {H:Hp}{kvs:List (List Zk×V)}{xs:List (List Zk×Addr×Value)}(r:KT H kvs xs)(k:List Zk){y:V}{u:Value}(ry:RelV y u) :
   KT H (kvs.map fun kv=>if kv.1=k then (kv.1,y) else kv) (xs.map (putAt k u)):=by
 induction r with
 | nil=>exact .nil
 | @cons p q ps qs h t ih =>
   rw [List.map_cons,List.map_cons]
   refine .cons ?_ ih
   obtain ⟨h1,h2,h3⟩:=h
   unfold putAt
   by_cases e:p.1=k
   · rw [if_pos e,if_pos (h1.symm.trans e)];exact ⟨h1,h2,ry⟩
   · rw [if_neg e,if_neg (fun z=>e (h1.trans z))];exact ⟨h1,h2,h3⟩
theorem KT.put {H:Hp}{kvs:List (List Zk×V)}{xs:List (List Zk×Addr×Value)}(r:KT H kvs xs)(k:List Zk){b:Addr}{y:V}{u:Value}(hb:H b=some (.tup (k.map kV)))(ry:RelV y u) :
   KT H (ZZ kvs k y) (storedH xs k b u):=by
 have e:(kvs.any fun kv=>decide (kv.1=k))=(atKey xs k).isSome:=by
   rw [UU,(r.val k).isSome_eq,Option.isSome_map]
 unfold ZZ storedH
 rw [e]
 by_cases q:(atKey xs k).isSome=true
 · rw [if_pos q,if_pos q];exact r.repl k ry
 · rw [if_neg q,if_neg q];exact Paired.snoc r ⟨rfl,hb,ry⟩
theorem KT.keeps {H H':Hp}{kvs:List (List Zk×V)}{xs:List (List Zk×Addr×Value)}(r:KT H kvs xs)(ht:∀ b ys,H b=some (.tup ys)→H' b=some (.tup ys)):KT H' kvs xs :=
 Paired.mapP r fun _ _ z=>⟨z.1,ht _ _ z.2.1,z.2.2⟩
section
variable {P:Program}{w:World}{H:Hp}{h:Heap}{a:Addr}
theorem Zjr {u:HO}(ok:HOk P w H h)(e:Rd H a u):ObjOk P w H h a u:=e.ok ok
theorem VW {kvs:ZH}(ok:HOk P w H h)(e:Rd H a (.dK kvs)):kvs.length≤sizeLine∧(a == sysModules)=false∧∃ vs,KV kvs vs∧h.DictOf (Zl P w) a vs :=
 show ObjOk P w H h a (.dK kvs) from Zjr ok e
theorem Wz {kvs:ZH}(ok:HOk P w H h)(e:H a=some (.dK kvs)):kvs.length≤sizeLine∧(a == sysModules)=false∧∃ vs,KV kvs vs∧h.DictOf (Zl P w) a vs:=VW ok (.inl e)
theorem Vu {ks:List Zk}(ok:HOk P w H h)(e:H a=some (.tup (ks.map kV))):(tupleKind (Zl P w)).is h ks a:=by
 obtain ⟨_,its,r,o,h1,h2,n,h3⟩:=(show ObjOk P w H h a (.tup (ks.map kV)) from ok a _ e)
 exact ⟨o,its.toArray,n,h1,h2,h3,by simpa using Zcw r⟩
theorem VQ {kvs:List (List Zk×V)}(ok:HOk P w H h)(e:Rd H a (.dT kvs)):kvs.length≤sizeLine∧(a == sysModules)=false ∧
   ∃ xs,KT H kvs xs∧h.DictOfH (tupleKind (Zl P w)) a xs:=by
 obtain ⟨z,y,xs,r,o,es,ep,h1,h2,h3,h4,h5⟩:=(show ObjOk P w H h a (.dT kvs) from Zjr ok e)
 refine ⟨z,y,xs,r,o,es,ep,h1,h2,h3,h4,fun x hx=>?_,h5⟩
 have all:∀ {l:List (List Zk×V)} {m:List (List Zk×Addr×Value)},KT H l m→∀ x∈m,(tupleKind (Zl P w)).is h x.1 x.2.1:=by
   intro l m q
   induction q with
   | nil=>intro x hx;exact nomatch hx
   | @cons p q ps qs hq t ih =>
     intro x hx
     rcases List.mem_cons.mp hx with e | hx
     · subst e
       exact Vu ok (by rw [← hq.1];exact hq.2.1)
     · exact ih x hx
 exact all r x hx
theorem Zmy {kvs:List (List Zk×V)}(ok:HOk P w H h)(e:H a=some (.dT kvs)):kvs.length≤sizeLine∧(a == sysModules)=false ∧
 ∃ xs,KT H kvs xs∧h.DictOfH (tupleKind (Zl P w)) a xs:=VQ ok (.inl e)
end
def DGet (H:Hp)(a:Addr)(y:V)(r:Option V):Prop :=
 (∃ kvs k,Rd H a (.dK kvs)∧y=kV k∧r=ZA kvs k)∨∃ kvs k b,Rd H a (.dT kvs)∧y=.ref b∧H b=some (.tup (k.map kV))∧r=ZA kvs k
def DPut (H:Hp)(a:Addr)(y v:V)(H':Hp):Prop :=
 (∃ kvs k,H a=some (.dK kvs)∧y=kV k∧kvs.length < sizeLine∧H'=upd H a (.dK (ZZ kvs k v))) ∨
 ∃ kvs k b,H a=some (.dT kvs)∧y=.ref b∧H b=some (.tup (k.map kV))∧kvs.length < sizeLine∧H'=upd H a (.dT (ZZ kvs k v))
theorem DGet.k {H:Hp}{a:Addr}{kvs:ZH}{k:Zk}(e:H a=some (.dK kvs)):DGet H a (kV k) (ZA kvs k):=.inl ⟨kvs,k,.inl e,rfl,rfl⟩
theorem DPut.k {H:Hp}{a:Addr}{kvs:ZH}{k:Zk}{v:V}(e:H a=some (.dK kvs))(hl:kvs.length < sizeLine):DPut H a (kV k) v (upd H a (.dK (ZZ kvs k v))):=.inl ⟨kvs,k,e,rfl,hl,rfl⟩
section
variable {X:Cx}{pins:List (Addr×Obj)}{σ:St}{H:Hp}{s:Shared}{a:Addr}{y v:V}{u r:Value}{o:Option V}{A:Around}{E:Zv}
theorem Inv.big (I:Inv X pins σ H s):sysModules < s.heap.objs.size:=by
 have h:mainGlobals < s.heap.objs.size:=(I.mod.glob.keeps I.bk).lt
 exact Nat.lt_trans (by decide) h
theorem ZhB {Q:Zv}(hu:A.units+1 < cLine)(I:Inv X pins σ H s)(g:DGet H a y (some v))(ry:RelV y u)(h:∀ w' s',Inv X pins σ H s'→RelV v w'→Q w' s') :
   wpAny (model X.prog X.w) A (getItem (.ref a) u) Q E s:=by
 rcases g with ⟨kvs,k,e,ey,l⟩ | ⟨kvs,k,b,e,ey,eb,l⟩
 · subst ey
   obtain ⟨z,hd,vs,rel,dd⟩:=VW I.hok e
   obtain ⟨w',hw,rw'⟩:=RelO.some_of (v:=v) (o:=valueAt vs k) (by rw [l];exact rel.val k)
   exact wpAny_getItem_of (VR ry) dd.mapOf hw (h w' _ (I.tok _) rw')
 · subst ey
   cases (show u=Value.ref b from ry)
   obtain ⟨z,hd,xs,rel,dd⟩:=VQ I.hok e
   obtain ⟨w',hw,rw'⟩:=RelO.some_of (v:=v) (o:=(atKey xs k).map (·.2)) (by rw [l];exact rel.val k)
   obtain ⟨p,hp,hp2⟩:=Option.map_eq_some_iff.mp hw
   refine wpAny_getItem_heap (tupleKind_room_in1 hu) (Vu I.hok eb) dd hp ?_
   rw [hp2]
   exact h w' _ (I.tok _) rw'
theorem Zks {Q:Zv}(hu:A.units+1 < cLine)(I:Inv X pins σ H s)(g:DGet H a y o)(ry:RelV y u)(h:∀ s',Inv X pins σ H s'→Q (.bool (!o.isSome)) s') :
   wpAny (model X.prog X.w) A (compareOp .NotIn u (.ref a)) Q E s:=by
 rcases g with ⟨kvs,k,e,ey,l⟩ | ⟨kvs,k,b,e,ey,eb,l⟩
 · subst ey
   obtain ⟨z,hd,vs,rel,dd⟩:=VW I.hok e
   refine wpAny_notIn_of (VR ry) hd dd.mapOf ?_
   rw [← (rel.val k).isSome_eq,← l]
   exact h _ (I.tok _)
 · subst ey
   cases (show u=Value.ref b from ry)
   obtain ⟨z,hd,xs,rel,dd⟩:=VQ I.hok e
   refine wpAny_notIn_heap (tupleKind_room_in1 hu) (Vu I.hok eb) hd dd ?_
   have q:=(rel.val k).isSome_eq
   rw [Option.isSome_map] at q
   rw [← q,← l]
   exact h _ (I.tok _)
theorem Zce {h':Heap}{t':Nat}{ob:HO}(I:Inv X pins σ H s)(mu:Mut (H a))(hs:Heap.SameBut a s.heap h')(he:∃ q,h'.get? a=some q)(new:ObjOk X.prog X.w (upd H a ob) h' a ob) :
   Inv X pins σ (upd H a ob) { s with heap:=h',toks:=t' } :=
 I.write (x:=a) (e:=a) mu (.inl rfl) (fun b q hb z=>(hs.2 b hb).trans z) he new
theorem ZhE {P:Program}{w:World}{H':Hp}{h':Heap}{kvs:ZH}{vs:List (Zk×Value)}(z:kvs.length≤sizeLine)(hd:(a == sysModules)=false)(rel:KV kvs vs)(dd:h'.DictOf (Zl P w) a vs) :
 ObjOk P w H' h' a (.dK kvs):=⟨z,hd,vs,rel,dd⟩
theorem ZhJ {H':Hp}{Q:Unit→Shared→Prop}(hu:A.units+1 < cLine)(I:Inv X pins σ H s)(g:DPut H a y v H')(ry:RelV y u)(rv:RelV v r)(h:∀ s',Inv X pins σ H' s'→Q () s') :
   wpAny (model X.prog X.w) A (setItem (.ref a) u r) Q E s:=by
 rcases g with ⟨kvs,k,e,ey,l,eH⟩ | ⟨kvs,k,b,e,ey,eb,l,eH⟩
 · subst ey eH
   obtain ⟨z,hd,vs,rel,dd⟩:=Wz I.hok e
   have hz:vs.length≤sizeLine:=by rw [← rel.length];exact z
   have hl:(ZZ kvs k v).length≤sizeLine:=by have:=XD kvs k v;omega
   refine wpAny_setItem_pairs (hsz:=hz) (VR ry) dd fun h' dd' hs=>h _ ?_
   have he:∃ q,h'.get? a=some q:=let ⟨q,_,_,hq,_⟩:=dd';⟨q,hq⟩
   exact Zce I (by rw [e];exact True.intro) hs he (ZhE hl hd (rel.put k rv) dd')
 · subst ey eH
   cases (show u=Value.ref b from ry)
   obtain ⟨z,hd,xs,rel,dd⟩:=Zmy I.hok e
   have hz:xs.length≤sizeLine:=by rw [← Paired.length rel];exact z
   have hl:(ZZ kvs k v).length≤sizeLine:=by have:=XD kvs k v;omega
   refine wpAny_setItem_heap (hsz:=hz) (tupleKind_room_in1 hu) (Vu I.hok eb) dd fun h' dd' hs=>h _ ?_
   obtain ⟨q,es,ep,hq,h2,h3,h4,_,h5⟩:=dd'
   refine Zce I (by rw [e];exact True.intro) hs ⟨q,hq⟩ ⟨hl,hd,_,(rel.put k eb rv).keeps fun c ys ec=>?_,q,es,ep,hq,h2,h3,h4,h5⟩
   rw [Zh (Zbu ec e (fun z=>nomatch z))]
   exact ec
end
section
variable {X:Cx}{pins:List (Addr×Obj)}{σ:St}{H:Hp}{s:Shared}{a:Addr}{kvs:ZH}{k:Zk}{u:Value}{A:Around}{E:Zv}
end
def NoSl (i:Expr):Prop:=∀ ov iv,subscripted i false ov iv=operate [ov,iv] (getItem ov iv)
theorem Zkq {prog:Program}{w:World}{A:Around}{E:Zv}{s:Shared}{env:Env}{value slice:Expr}{pos:Pos}{T id:String}{Q:Zv}
   (hl:typeLookup (.type T) "__getitem__"=pure (some (.builtin id))) (hs:NoSl slice)
   (h:wpAny (model prog w) A (eval value env) (fun o s₁=>wpAny (model prog w) A (eval slice env) (fun i s₂=>s₂.TypeIs o T∧wpAny (model prog w) A (getItem o i) Q E s₂) E s₁) E s) :
   wpAny (model prog w) A (eval (.Subscript value slice pos) env) Q E s:=by
 refine Subscript_ (wpAny_mono h (fun o s₁ h₁=>wpAny_mono h₁ (fun i s₂ h₂=>?_) fun _ _ x=>x) fun _ _ x=>x)
 obtain ⟨hT,h₂⟩:=h₂
 unfold subscriptTail
 refine wpAny_bind ?_
 rw [getitemInPython_of_ne hT.not_modules]
 refine wpAny_bind (wpAny_specialOf hT hl ?_)
 have fin:wpAny (model prog w) A (subscripted slice false o i) (fun r s₃=>wpAny (model prog w) A (letTemporaryGo value o r >>= fun _=>pure r) Q E s₃) E s₂:=by
   rw [hs o i]
   exact wpAny_operating (wpAny_mono h₂ (fun r s₃ h₃=>wpAny_bind (wpAny_letTemporaryGo (wpAny_pure h₃))) fun _ _ x=>x)
 first
   | exact wpAny_pure (wpAny_bind fin)
   | exact wpAny_bind (wpAny_pure (wpAny_bind fin))
   | exact wpAny_bind fin
theorem Zem {X:Cx}{pins:List (Addr×Obj)}{σ:St}{H:Hp}{s:Shared}{a:Addr}{y:V}{o:Option V}(I:Inv X pins σ H s)(g:DGet H a y o):s.TypeIs (.ref a) "dict":=by
 rcases g with ⟨kvs,k,e,_,_⟩ | ⟨kvs,k,b,e,_,_,_⟩
 · obtain ⟨_,_,vs,_,dd⟩:=VW I.hok e
   exact dd.typeIs
 · obtain ⟨_,_,xs,_,dd⟩:=VQ I.hok e
   exact dd.typeIs
def ZmX (td ty:TE):TE:=fun σ H Q=>td σ H fun x H1=>ty σ H1 fun y H2=>∃ a v,x=.ref a∧DGet H2 a y (some v)∧Q v H2
def ZjQ (ty td:TE):TE:=fun σ H Q=>ty σ H fun y H1=>td σ H1 fun x H2=>∃ a o,x=.ref a∧DGet H2 a y o∧Q (.bl (!o.isSome)) H2
def ZmE (td ty tv:TE):TS:=fun D σ H=>tv σ H fun v H1=>td σ H1 fun x H2=>ty σ H2 fun y H3=>∃ a H4,x=.ref a∧DPut H3 a y v H4∧D.nx σ H4
section
variable {X:Cx}{o i e value:Expr}{pos pos' tpos:Pos}{td ty tv:TE}
theorem ZeV (hu:X.A.units+1 < cLine)(ho:PE X o td)(hi:PE X i ty)(hs:NoSl i):PE X (.Subscript o i pos) (ZmX td ty):=by
 intro pins s σ H Q I h
 refine Zkq PySem.F.slot_dict_getitem.lookup hs (Zr (ho pins s σ H _ I h) fun u s1 ⟨x,H1,I1,rx,q1⟩=>Zr (hi pins s1 σ H1 _ I1 q1) fun iv s2 ⟨y,H2,I2,ry,a,v,ex,g,q2⟩=>?_)
 subst ex
 obtain rfl:u=Value.ref a:=rx
 exact ⟨Zem I2 g,ZhB hu I2 g ry fun w' s3 I3 rw'=>⟨v,H2,I3,rw',q2⟩⟩
theorem ZhC (hu:X.A.units+1 < cLine)(hi:PE X i ty)(ho:PE X o td):PC X .NotIn i o (ZjQ ty td):=by
 intro pins s σ H Q I h
 refine Zr (hi pins s σ H _ I h) fun iv s1 ⟨y,H1,I1,ry,q1⟩=>Zr (ho pins s1 σ H1 _ I1 q1) fun u s2 ⟨x,H2,I2,rx,a,ov,ex,g,q2⟩=>?_
 subst ex
 obtain rfl:u=Value.ref a:=rx
 exact Zks hu I2 g ry fun s3 I3=>⟨.bl (!ov.isSome),H2,I3,rfl,q2⟩
theorem UH (hu:X.A.units+1 < cLine)(ho:PE X o td)(hi:PE X i ty)(hv:PE X value tv)(hs:swapsWith value (some (.Subscript o i pos')) pos.line X.env=pure false) :
   PS X (.Assign [.Subscript o i pos'] value pos) (ZmE td ty tv):=by
 intro pins s σ H D I h
 refine wpAny_Assign_Subscript (Zr (hv pins s σ H _ I h) fun r s1 ⟨v,H1,I1,rv,q1⟩=>Zr (ho pins s1 σ H1 _ I1 q1) fun u s2 ⟨x,H2,I2,rx,q2⟩=>Zr (hi pins s2 σ H2 _ I2 q2) fun iv s3 ⟨y,H3,I3,ry,a,H4,ex,g,q3⟩=>?_) hs
 subst ex
 obtain rfl:u=Value.ref a:=rx
 exact ZhJ hu I3 g ry rv fun s4 I4=>⟨σ,H4,I4,q3⟩
end
theorem Zek {P:Program}{w:World}{H:Hp}(h:Heap)(hb:sysModules < h.objs.size):ObjOk P w H (h.push { cls:=.type "dict",data:=.dict #[] }) h.objs.size (.dK []) :=
 ⟨Nat.zero_le _,beq_eq_false_iff_ne.mpr (Ne.symm (Nat.ne_of_lt hb)),[],.nil,Heap.DictOf.new h⟩
def Zma:TE:=fun _ H Q=>∀ p,H p=none→Q (.ref p) (upd H p (.dK []))
section
variable {X:Cx}{pos:Pos}
theorem ZhU:PE X (.Dict [] [] pos) Zma:=fun pins s σ H Q I h =>
 wpAny_Dict_empty ⟨.ref s.heap.objs.size,_,I.laid (a:=s.heap.objs.size) (o:=.dK []) (t':=s.toks) (fun _ _ q=>Heap.get?_push_of_some _ q) (Nat.le_refl _) (Zek s.heap I.big),rfl,h _ (I.hok.fresh (Nat.le_refl _))⟩
end
def Zdp:List (TE×TE)→St→Hp→(List (V×V)→Hp→Prop)→Prop
 | [],_,H,Q=>Q [] H
 | (tk,tv)::r,σ,H,Q=>tk σ H fun x H1=>tv σ H1 fun y H2=>Zdp r σ H2 fun ps H3=>Q ((x,y)::ps) H3
abbrev VV:List (V×V)→List (Value×Value)→Prop:=Paired fun p q=>RelV p.1 q.1∧RelV p.2 q.2
def PPs (X:Cx)(pos:Pos)(keys:List (Option Expr))(values:List Expr)(trs:List (TE×TE)):Prop :=
 ∀ (pins:List (Addr×Obj)) (s:Shared) (σ:St) (H:Hp) (Q:List (V×V)→Hp→Prop),Inv X pins σ H s→Zdp trs σ H Q →
   wpAny (model X.prog X.w) X.A (evalPairs (pairTrees keys values X.env pos)) (fun vs s'=>∃ ps H',Inv X pins σ H' s'∧VV ps vs∧Q ps H') X.xe s
theorem ZkY {X:Cx}{pos:Pos}:PPs X pos [] [] []:=fun pins s σ H Q I h=>pairTrees_nil_walk ⟨[],H,I,.nil,h⟩
theorem Zjf {X:Cx}{pos:Pos}{k v:Expr}{ks:List (Option Expr)}{vs:List Expr}{tk tv:TE}{trs:List (TE×TE)}(hk:PE X k tk)(hv:PE X v tv)(hr:PPs X pos ks vs trs) :
   PPs X pos (some k::ks) (v::vs) ((tk,tv)::trs):=fun pins s σ H Q I h =>
 pairTrees_cons_walk (Zr (hk pins s σ H _ I h) fun u s1 ⟨x,H1,I1,rx,q1⟩=>Zr (hv pins s1 σ H1 _ I1 q1) fun w2 s2 ⟨y,H2,I2,ry,q2⟩ =>
   Zr (hr pins s2 σ H2 _ I2 q2) fun ws s3 ⟨ps,H3,I3,rel,q3⟩=>⟨(x,y)::ps,H3,I3,.cons ⟨rx,ry⟩ rel,q3⟩)
def Vq (kvs more:ZH):List (Zk×V):=more.foldl (fun acc kv=>ZZ acc kv.1 kv.2) kvs
theorem KV.merge:∀{more:ZH}{rs:List (Zk×Value)}{kvs:ZH}{vs:List (Zk×Value)},KV more rs→KV kvs vs→KV (Vq kvs more) (merged vs rs):=by
 intro more rs kvs vs r
 unfold KV at r
 induction r generalizing kvs vs with
 | nil=>intro q;exact q
 | @cons p q ps qs h t ih =>
   intro r0
   have e:KV (ZZ kvs p.1 p.2) (stored vs q.1 q.2):=by
     have:=r0.put p.1 h.2
     rw [← h.1];exact this
   exact ih e
theorem Vd:∀(more kvs:ZH),(Vq kvs more).length≤kvs.length+more.length
 | [],kvs=>by show kvs.length≤kvs.length+0;omega
 | p::r,kvs=>by
   have h1:=Vd r (ZZ kvs p.1 p.2)
   have h2:=XD kvs p.1 p.2
   show (Vq (ZZ kvs p.1 p.2) r).length≤_
   rw [List.length_cons];omega
theorem Zbi {P:Program}{w:World}:∀{kvs:ZH}{ws:List (Value×Value)},VV (kvs.map fun kv=>(kV kv.1,kv.2)) ws→∃ rs,Carries (Zl P w) ws rs∧KV kvs rs
 | [],_,r=>by rw [List.map_nil] at r;cases r;exact ⟨[],True.intro,.nil⟩
 | p :: kvs,_,r=>by
   rw [List.map_cons] at r
   cases r with
   | @cons a b as bs h t =>
     obtain ⟨rs,c,q⟩:=Zbi (P:=P) (w:=w) t
     obtain ⟨b1,b2⟩:=b
     exact ⟨(p.1,b2)::rs,⟨VR h.1,rfl,c⟩,.cons ⟨rfl,h.2⟩ q⟩
def ZmO (trs:List (TE×TE)):TE:=fun σ H Q=>∀ p,H p=none→Zdp trs σ (upd H p (.dK [])) fun ps H2=>H2 p=some (.dK [])∧∃ kvs:List (Zk×V),ps=kvs.map (fun kv=>(kV kv.1,kv.2))∧kvs.length≤15∧Q (.ref p) (upd H2 p (.dK (Vq [] kvs)))
theorem ZjX {X:Cx}{pos:Pos}{keys:List (Option Expr)}{values:List Expr}{trs:List (TE×TE)}(h:PPs X pos keys values trs)(hall:keys.all (·.isSome)=true)(hl:keys.length=values.length)(h0:keys≠[])
   (h15:keys.length≤15):PE X (.Dict keys values pos) (ZmO trs):=by
 intro pins s σ H Q I q
 have hn:=I.hok.fresh (Nat.le_refl s.heap.objs.size)
 have I1:=I.laid (a:=s.heap.objs.size) (o:=.dK []) (h':=s.heap.push { cls:=.type "dict",data:=.dict #[] }) (t':=s.toks) (fun _ _ q=>Heap.get?_push_of_some _ q) (Nat.le_refl _) (Zek s.heap I.big)
 refine wpAny_Dict_walk (knd:=Zl X.prog X.w) hall hl h0 h15 (Zr (h pins _ σ _ _ I1 (q _ hn)) fun ws s2 ⟨ps,H2,I2,rel,e,kvs,ep,lk,q2⟩=>?_)
 subst ep
 obtain ⟨rs,c,rk⟩:=Zbi (P:=X.prog) (w:=X.w) rel
 obtain ⟨z,hd,vs0,r0,dd⟩:=Wz I2.hok e
 cases r0
 refine ⟨rs,c,dd,fun h' dd' hs=>⟨.ref s.heap.objs.size,_,?_,rfl,q2⟩⟩
 have hz:(Vq [] kvs).length≤sizeLine:=by
   have h1:=Vd kvs []
   rw [List.length_nil] at h1
   rw [sizeLine_eq];omega
 have he:∃ q,h'.get? s.heap.objs.size=some q:=let ⟨q,_,_,hq,_⟩:=dd';⟨q,hq⟩
 exact Zce I2 (by rw [e];exact True.intro) hs he (ZhE hz hd (rk.merge .nil) dd')
structure M1 (X:Cx)(o:Expr)(m:Str)(apos:Pos)(e:Expr)(cpos:Pos):Prop where
 base:attributeBase o m X.env (eval o X.env)=eval o X.env
 few:((backTo cpos (starEach [e] X.env)).all (fun x=>!x.1)&&(backToKw cpos (keywordEach [] X.env)).all (fun x=>x.1.isSome)
   && decide (([e]:List Expr).length+([]:List Keyword).length+(if ([]:List Keyword).isEmpty then 0 else 1) < 30))=true
 line:(apos.endLine == cpos.line)=true
 trees:backTo cpos (starEach [e] X.env)=[(false,eval e X.env)]
def IsD (H:Hp)(a:Addr):Prop:=(∃ kvs,Rd H a (.dK kvs))∨∃ kvs,Rd H a (.dT kvs)
theorem Zlm {X:Cx}{pins:List (Addr×Obj)}{σ:St}{H:Hp}{s:Shared}{a:Addr}(I:Inv X pins σ H s)(d:IsD H a) :
   s.TypeIs (.ref a) "dict"∧(∀ b,Value.ref a=.ref b→∃ ob,s.heap.get? b=some ob∧ob.dict=none)∧(a == sysModules)=false:=by
 rcases d with ⟨kvs,e⟩ | ⟨kvs,e⟩
 · obtain ⟨_,hd,vs,_,dd⟩:=VW I.hok e
   refine ⟨dd.typeIs,fun b q=>?_,hd⟩
   cases q
   obtain ⟨ob,_,_,h1,h2,_⟩:=dd
   exact ⟨ob,h1,h2.2.1⟩
 · obtain ⟨_,hd,xs,_,dd⟩:=VQ I.hok e
   refine ⟨dd.typeIs,fun b q=>?_,hd⟩
   cases q
   obtain ⟨ob,_,_,h1,h2,_⟩:=dd
   exact ⟨ob,h1,h2.2.1⟩
section
variable {X:Cx}{pins:List (Addr×Obj)}{σ:St}{H:Hp}{s:Shared}{a:Addr}{y d:V}{u r:Value}{o:Option V}{A:Around}{E:Zv}
theorem ZlZ {Q:Zv}(hu:A.units+1 < cLine)(I:Inv X pins σ H s)(g:DGet H a y o)(ry:RelV y u)(h:∀ w' s',Inv X pins σ H s'→RelV (o.getD .non) w'→Q w' s') :
   wpAny (model X.prog X.w) A (call (.builtin "dict.get") [.ref a,u]) Q E s:=by
 rcases g with ⟨kvs,k,e,ey,l⟩ | ⟨kvs,k,b,e,ey,eb,l⟩
 · subst ey
   obtain ⟨z,hd,vs,rel,dd⟩:=VW I.hok e
   refine call_meetsIn PySem.F.slot_dict_get dd.typeIs PySem.F.entry_dict_get (PySem.F.args_dict_get_2 _ _) (meets_dict_get (Zl X.prog X.w) a (VR ry) hd) ⟨_,dd.mapOf,h _ _ (I.tok _) ?_⟩
   rw [l]
   exact (rel.val k).getD rfl
 · subst ey
   cases (show u=Value.ref b from ry)
   obtain ⟨z,hd,xs,rel,dd⟩:=VQ I.hok e
   refine call_meetsIn PySem.F.slot_dict_get dd.typeIs PySem.F.entry_dict_get (PySem.F.args_dict_get_2 _ _) (meetsH_dict_get (tupleKind (Zl X.prog X.w)) a b hd) ⟨tupleKind_room_in1 hu,k,xs,Vu I.hok eb,dd,h _ _ (I.tok _) ?_⟩
   rw [l]
   exact (rel.val k).getD rfl
end
def Zlc (td ty:TE):TE:=fun σ H Q=>td σ H fun x H1=>∃ a,x=.ref a∧IsD H1 a∧ty σ H1 fun y H2=>∃ o,DGet H2 a y o∧Q (o.getD .non) H2
section
variable {X:Cx}{o e f:Expr}{apos cpos:Pos}{td ty tx:TE}
theorem ZaH (hu:X.A.units+1 < cLine)(ho:PE X o td)(he:PE X e ty)(m:M1 X o "get" apos e cpos):PE X (.Call (.Attribute o "get" apos) [e] [] cpos) (Zlc td ty):=by
 intro pins s σ H Q I h
 refine wpAny_Call_method m.base m.few m.line PySem.F.plainAttrs_dict PySem.F.slot_dict_get PySem.F.type_dict_get (Zr (ho pins s σ H _ I h) fun u s1 ⟨x,H1,I1,rx,a,ex,d,q1⟩=>?_)
 subst ex
 obtain rfl:u=Value.ref a:=rx
 obtain ⟨t1,t2,_⟩:=Zlm I1 d
 refine ⟨t1,t2,?_⟩
 rw [m.trees]
 refine Calls.callWith_builtin rfl (Calls.evalArgs_plain (Calls.spliced_cons (Zr (he pins s1 σ H1 _ I1 q1) fun iv s2 ⟨y,H2,I2,ry,ov,g,q2⟩=>Calls.spliced_nil ?_)))
 exact ZlZ hu I2 g ry fun w' s3 I3 rw'=>⟨_,H2,I3,rw',q2⟩
end
section
variable {X:Cx}{pins:List (Addr×Obj)}{σ:St}{H:Hp}{s:Shared}{a:Addr}{kvs:ZH}{A:Around}{E:Zv}
end
section
variable {X:Cx}{pins:List (Addr×Obj)}{σ:St}{H:Hp}{s:Shared}{a:Addr}{y:V}{u:Value}{A:Around}{E:Zv}
end
end L2
namespace L2
open PySem PySem.Spec PyProof.Rows
section
variable {κ:Type}[DecidableEq κ]
end
end L2
namespace L2
open PySem PySem.Spec PyProof.Rows
theorem Vz {env:Env}(y:Str):∀ names:List (Str×NameKind),
   (names.map fun (n,k)=>if (k == NameKind.free&&env.scope.kind == .function&&env.kindOf n == some .cell) then (n,NameKind.cell) else (n,k)).lookup y =
     (names.lookup y).map fun k=>if (k == NameKind.free&&env.scope.kind == .function&&env.kindOf y == some .cell) then NameKind.cell else k
 | []=>rfl
 | (n, k)::r=>by
   have ih:=Vz (env:=env) y r
   rw [List.map_cons]
   cases hx:y == n with
   | true =>
     have e:y=n:=by simpa using hx
     subst e
     by_cases hc:(k == NameKind.free&&env.scope.kind == .function&&env.kindOf y == some .cell)=true
     · simp only [hc,if_true,List.lookup_cons,beq_self_eq_true,Option.map_some]
     · simp only [hc,List.lookup_cons,beq_self_eq_true,Option.map_some]
       simp [hc]
   | false =>
     by_cases hc:(k == NameKind.free&&env.scope.kind == .function&&env.kindOf n == some .cell)=true
     · simp only [hc,if_true,List.lookup_cons,hx];exact ih
     · simp only [hc,List.lookup_cons,hx,Bool.false_eq_true,if_false];exact ih
theorem ZO {scope:Scope}{env:Env}{y:Str}{k:NameKind}(hcell:∀ z∈scope.names,z.2≠.cell)(h:(relabel scope env).names.lookup y=some k) :
   scope.names.lookup y=some k∨(scope.names.lookup y=some .free∧k=.cell):=by
 unfold relabel at h
 rw [Vz] at h
 cases e:scope.names.lookup y with
 | none=>rw [e] at h;cases h
 | some k0 =>
   rw [e] at h
   simp only [Option.map_some,Option.some.injEq] at h
   by_cases hc:(k0 == NameKind.free&&env.scope.kind == .function&&env.kindOf y == some .cell)=true
   · rw [if_pos hc] at h
     right
     simp only [Bool.and_eq_true,beq_iff_eq] at hc
     exact ⟨by rw [hc.1.1],h.symm⟩
   · rw [if_neg hc] at h
     left;rw [h]
theorem mem_of_lookup {α:Type}{y:Str}{k:α}:∀{l:List (Str×α)},l.lookup y=some k→(y,k)∈l
 | [],h=>by cases h
 | (n,z)::r,h=>by
   cases hx:y == n with
   | true =>
     have e:y=n:=by simpa using hx
     subst e
     simp only [List.lookup_cons,beq_self_eq_true] at h
     cases h
     exact List.mem_cons_self
   | false =>
     simp only [List.lookup_cons,hx] at h
     exact List.mem_cons_of_mem _ (mem_of_lookup h)
theorem US {env:Env}:∀(names:List (Str×NameKind))(c0:List (Str×Addr)),(∀ y∈names,y.2=.free→∃ c,env.cells.lookup y.1=some c) →
   ∃ cl:List (Str×Addr),(forIn names c0 fun (x:Str×NameKind) (r:List (Str×Addr))=>(if x.2 == NameKind.free then (do let a ← cellOf env x.1;pure (ForInStep.yield ((x.1,a)::r))) else pure (ForInStep.yield r):Sem (ForInStep (List (Str×Addr)))))=pure cl ∧
     (∀ y c,cl.lookup y=some c→c0.lookup y=some c∨env.cells.lookup y=some c)∧(∀ y,c0.lookup y≠none→cl.lookup y≠none)∧∀ y∈names,y.2=.free→cl.lookup y.1≠none
 | [],c0,_=>⟨c0,rfl,fun _ _ h=>.inl h,fun _ h=>h,fun _ h=>(nomatch h)⟩
 | (n, k)::r,c0,h=>by
   by_cases hk:k=.free
   · subst hk
     obtain ⟨c,hc⟩:=h (n,.free) List.mem_cons_self rfl
     obtain ⟨cl,e,g1,g2,g3⟩:=US r ((n,c)::c0) fun y hy=>h y (List.mem_cons_of_mem _ hy)
     refine ⟨cl,?_,?_,?_,?_⟩
     · rw [List.forIn_cons]
       have hcell:cellOf env n=pure c:=by unfold cellOf;rw [hc]
       simp only [beq_self_eq_true,if_true,hcell,pure_bind]
       exact e
     · intro y d q
       rcases g1 y d q with q | q
       · cases hx:y == n with
         | true =>
           have e':y=n:=by simpa using hx
           subst e'
           simp only [List.lookup_cons,beq_self_eq_true] at q
           cases q
           exact .inr hc
         | false=>simp only [List.lookup_cons,hx] at q;exact .inl q
       · exact .inr q
     · intro y q
       apply g2
       cases hx:y == n with
       | true=>simp [List.lookup_cons,hx]
       | false=>simpa [List.lookup_cons,hx] using q
     · intro y hy hf
       rcases List.mem_cons.mp hy with e' | hy
       · subst e'
         apply g2
         simp [List.lookup_cons]
       · exact g3 y hy hf
   · obtain ⟨cl,e,g1,g2,g3⟩:=US r c0 fun y hy=>h y (List.mem_cons_of_mem _ hy)
     refine ⟨cl,?_,g1,g2,?_⟩
     · rw [List.forIn_cons]
       have hb:(k == NameKind.free)=false:=by simpa using hk
       simp only [hb,Bool.false_eq_true,if_false,pure_bind]
       exact e
     · intro y hy hf
       rcases List.mem_cons.mp hy with e' | hy
       · subst e';exact absurd hf hk
       · exact g3 y hy hf
theorem UM {scope:Scope}{env:Env}(h:∀ y∈scope.names,y.2=.free→∃ c,env.cells.lookup y.1=some c) :
   ∃ cl,closureFor scope env=pure cl∧(∀ y c,cl.lookup y=some c→env.cells.lookup y=some c)∧∀ y∈scope.names,y.2=.free→cl.lookup y.1≠none:=by
 obtain ⟨cl,e,g1,_,g3⟩:=US (env:=env) scope.names [] h
 refine ⟨cl,?_,fun y c q=>(g1 y c q).elim (fun z=>by cases z) fun z=>z,g3⟩
 simp only [closureFor]
 rw [← bind_pure (pure cl:Sem _),← e]
def WZ (N:List Str)(x:Str):List Str:=N.map fun y=>if y=x then "" else y
theorem WE (N:List Str)(x:Str):(WZ N x).length=N.length:=List.length_map ..
theorem ZeI {N:List Str}{x y:Str}{i:Nat}(h:(WZ N x)[i]?=some y):(N[i]?=some y∧y≠x)∨y="":=by
 unfold WZ at h
 rw [List.getElem?_map] at h
 cases e:N[i]? with
 | none=>rw [e] at h;cases h
 | some z =>
   rw [e] at h
   have h:(if z=x then ("":Str) else z)=y:=Option.some.inj h
   by_cases q:z=x
   · rw [if_pos q] at h;exact .inr h.symm
   · rw [if_neg q] at h;subst h;exact .inl ⟨rfl,q⟩
def ZR (X:Cx)(scope:Scope)(x:Str)(cl:List (Str×Addr))(C:Addr)(s₀:Shared)(H₀:Hp)(fp:List Addr):Cx :=
 { prog:=X.prog,w:=X.w,K:=X.K,mg:=X.mg,base:=X.base,A:=X.A,N:=WZ X.N x++[x],s₀:=s₀,H₀:=H₀,env:=compEnvC scope cl C X.env,outer:=X.stack,stack:=X.stack,
   ex:=fp,fn:=fun _=>false,calm:=X.calm,pn:=[],xe:=fun _ _=>False }
def VY (J:It)(te:TE)(σ:St)(D:Addr)(Q:VK)(H1:Hp):Prop :=
 ∃ W:Nat→Nat→List V→Hp→Prop,(∃ m,W 0 m [] (upd H1 D (.lst [])))∧∀ i m ys H2,W i m ys H2 →
   (J.stop i H2∧Q (.ref D) H2)∨(J.go i H2∧∃ N:VK,(∀ y H4,N y H4→H4 D=some (.lst ys)∧ys.length < sizeLine∧∃ m',m' < m∧W (i+1) m' (ys++[y]) (upd H4 D (.lst (ys++[y]))))∧∀ v H3,J.yld i H2 v H3→te (σ++[some v]) H3 N)
def ZmT (wi:TI)(te:TE):TE:=fun σ H Q=>wi σ H fun J H1=>∀ D,H1 D=none→VY J te σ D Q H1
section
variable {X:Cx}{elt iter:Expr}{x:Str}{px pos:Pos}{scope:Scope}{wi:TI}{te:TE}
theorem Vg {prog:Program}{w:World}{A:Around}{R:Result→Shared→Prop}{s:Shared}{elt target iter:Expr}{scope:Scope}{pos:Pos}{it acc:Value}{env:Env}(I:Nat→Shared→Prop)
   (turn : ∀ n s,I n s→wpAny (model prog w) A (pyNext it) (fun r s₁=>match r with
     | none=>R (.ok .next) s₁
     | some v=>wpAny (model prog w) A (letOwnedTupleGo target it v) (fun _ s1'=>wpAny (model prog w) A (assign target env v) (fun _ s₂=>wpAny (model prog w) A (eval elt env) (fun x s₃ =>
         wpAny (model prog w) A (call (.builtin "list.append") [acc,x]) (fun _ s₄=>∃ m,m < n∧I m s₄) (fun _ _=>False) s₃)
         (fun _ _=>False) s₂) (fun _ _=>False) s1') (fun _ _=>False) s₁) (fun _ _=>False) s)
   (n:Nat) (h:I n s) :
   codeAny (model prog w) A (.compLoop (.ListComp elt [⟨target,iter,[],0⟩] scope pos) 0 it acc env) R s:=by
 refine codeAny_loop rfl I (fun n s hI=>?_) n h
 show wpAny _ _ ((compTurn (.ListComp elt [⟨target,iter,[],0⟩] scope pos) 0 it acc env).onRaise (fun x=>do noteFrame x env;theTreesLotGoes x)) _ _ s
 refine wpAny_noted ?_
 rw [compTurn_list1]
 refine wpAny_bind (wpAny_standAt (wpAny_bind (wpAny_mono (turn n s hI) (fun r s₁ h₁=>?_) fun _ _ h'=>h'.elim)))
 cases r with
 | none=>exact wpAny_pure h₁
 | some v =>
   refine wpAny_bind (wpAny_mono h₁ (fun _ s1' h1'=>?_) fun _ _ h'=>h'.elim)
   exact wpAny_bind (wpAny_mono h1' (fun _ s₂ h₂=>wpAny_bind (wpAny_bind (wpAny_mono h₂ (fun x s₃ h₃=>wpAny_bind (wpAny_mono h₃
     (fun _ s₄ h₄=>wpAny_pure (wpAny_pure ⟨rfl,h₄⟩)) fun _ _ h'=>h'.elim)) fun _ _ h'=>h'.elim))) fun _ _ h'=>h'.elim)
structure CompOk (X:Cx)(scope:Scope)(x:Str):Prop where
 nd:(WZ X.N x++[x]).Nodup
 clos:∀ y∈scope.names,y.2=.free→X.env.kindOf y.1=some .cell∨X.env.kindOf y.1=some .free
 cell:∀ y∈scope.names,y.2≠.cell
 kind:scope.kind=.function
 names:∀ y∈scope.names,y.2=.local→scope.names.lookup y.1=some .local
 loc:scope.names.lookup x=some .local
 own:∀ y∈X.N,y≠x→scope.names.lookup y≠some .local
 noh:scope.names.lookup ("":Str)=none
theorem Zfz {pins:List (Addr×Obj)}{σ:St}{H2:Hp}{s₂:Shared}{J:It}{fp:List Addr}{it:Addr}{tn:Nat→Heap→Prop}{cl:List (Str×Addr)}{E:Zv}{Q:VK}{RR:Value→Addr→Result→Shared→Prop}
   (O:CompOk X scope x) (hc:X.calm=true) (cl1:∀ y c,cl.lookup y=some c→X.env.cells.lookup y=some c) (cl2:∀ y∈scope.names,y.2=.free→cl.lookup y.1≠none)
   (he:∀ cl C s₀ H₀ fp,PE (ZR X scope x cl C s₀ H₀ fp) elt te)
   (I2:Inv X pins σ H2 s₂) (T:UR X.prog X.w X.K (.Name x px) J fp it tn) (st:tn 0 s₂.heap) (f2:∀ b∈fp,Xc X pins H2 b)
   (h:∀ D,H2 D=none→VY J te σ D Q H2)
   (hRR:∀ D C H' s',Inv X pins σ H' s'→Xc X pins H' C→(∃ m,s'.heap.Ns C m)→Q (.ref D) H'→RR (.ref D) C (.ok .next) s') :
   wpAny (model X.prog X.w) X.A (newList []) (fun acc s₃=>wpAny (model X.prog X.w) X.A (newFunctionEnv scope X.env.globals cl [] X.env.qual none .none (some X.env)) (fun cenv s₄ =>
     codeAny (model X.prog X.w) X.A (.compStart (.ListComp elt [⟨.Name x px,iter,[],0⟩] scope pos) 0 (.ref it) acc { cenv with scope:=relabel scope X.env }) (RR acc cenv.locals) s₄) E s₃) E s₂:=by
 have hD:H2 s₂.heap.objs.size=none:=I2.hok.fresh (Nat.le_refl _)
 refine wpAny_newObj_type ?_
 have I3:Inv X pins σ (upd H2 s₂.heap.objs.size (.lst [])) { s₂ with heap:=s₂.heap.push { cls:=.type "list",data:=.seq ([]:List Value).toArray } } :=
   I2.laid (t':=s₂.toks) (fun b u e=>Heap.get?_push_of_some _ e) (Nat.le_refl _) ⟨Nat.zero_le _,[],_,.nil,Heap.get?_push_size _ rfl⟩
 have f3:∀ b∈fp,Xc X pins (upd H2 s₂.heap.objs.size (.lst [])) b:=fun b hb=>by
   obtain ⟨g0,g1⟩:=f2 b hb
   obtain ⟨o,e,_⟩:=T.obj 0 _ st b hb
   exact ⟨by rw [Zh (Nat.ne_of_lt (Heap.lt_size e))];exact g0,g1⟩
 have st3:tn 0 (s₂.heap.push { cls:=.type "list",data:=.seq ([]:List Value).toArray }):=T.keep _ _ _ st fun b hb o e=>Heap.get?_push_of_some _ e
 obtain ⟨W,⟨m0,w0⟩,turn⟩:=h _ hD
 generalize hDe:s₂.heap.objs.size=D at I3 f3 w0 turn ⊢
 generalize hH3:upd H2 D (.lst [])=H3 at I3 f3 w0 turn ⊢
 generalize hs3:({ s₂ with heap:=s₂.heap.push { cls:=.type "list",data:=.seq ([]:List Value).toArray } }:Shared)=s₃ at I3
 have st3':tn 0 s₃.heap:=by rw [← hs3];exact st3
 have hobj:∀ b∈fp,b < s₃.heap.objs.size:=fun b hb=>by
   obtain ⟨o,e,_⟩:=T.obj 0 _ st3' b hb
   exact Heap.lt_size e
 refine wpAny_newFunctionEnv O.cell (by intro y hy;simp at hy) (fun h₁ hns₁ hsb₁=>?_) O.kind
 have old:∀ b o,s₃.heap.get? b=some o→h₁.get? b=some o:=fun b o e=>hsb₁.extBut b o (Nat.ne_of_lt (Heap.lt_size e)) (Heap.get?_push_of_some _ e)
 generalize hs4:({ s₃ with heap:=h₁,toks:=s₃.toks+([]:List (Str×Value)).length }:Shared)=s₄
 have h4:s₄.heap=h₁:=by rw [← hs4]
 have hX:∀ C,Xc X pins C s₃.heap.objs.size→True:=fun _ _=>trivial
 have ok':(ZR X scope x cl s₃.heap.objs.size s₃ H3 fp).Ok:=by
   refine ⟨I3.ok.mod,O.kind,I3.ok.glob,I3.ok.blt,Nat.le_refl _,?_,?_,?_,I3.ok.hd,I3.ok.frames,.inl rfl,?_,I3.bs,Nat.le_trans I3.ok.bsz I3.sz,?_,?_,I3.stack,I3.stkFree⟩
   · exact fun y z c e1 e2=>I3.ok.inj y z c (cl1 y c e1) (cl1 z c e2)
   · intro y hk
     have hf:scope.names.lookup y=some .free:=by
       rcases hk with hk | hk
       · rcases ZO O.cell hk with q | q
         · exact absurd rfl (O.cell _ (mem_of_lookup q))
         · exact q.1
       · rcases ZO O.cell hk with q | q
         · exact q
         · cases q.2
     have:=cl2 _ (mem_of_lookup hf) rfl
     cases e:cl.lookup y with
     | none=>exact absurd e this
     | some c=>exact ⟨c,e⟩
   · intro y c hf;cases hf
   · intro b hb
     obtain ⟨g0,g1,g2,g3,g4,g5⟩:=f3 b hb
     exact ⟨Nat.ne_of_lt (hobj b hb),fun y c e=>g4 y c (cl1 y c e)⟩
   · intro b o e hb
     obtain ⟨g0,g1,g2,g3,g4,g5⟩:=f3 b hb
     rcases g3 with g3 | g3
     · exact I3.ok.noex b o e g3
     · exact absurd (Heap.lt_size e) (Nat.not_lt.mpr (Nat.le_trans I3.ok.bsz g3))
   · intro b hb hs
     obtain ⟨g0,g1,g2,g3,g4,g5⟩:=f3 b hb
     rcases List.mem_cons.mp (I3.stkSub b hs) with e | e
     · exact g1 e
     · exact g2 e
 have I4 : Inv (ZR X scope x cl s₃.heap.objs.size s₃ H3 fp) [] (σ++[none]) H3 s₄:=by
   obtain ⟨m,hm,hl⟩:=I3.loc
   refine ⟨ok',by rw [← hs4];rfl,by rw [← hs4];exact I3.bare,by rw [h4];exact Un.kept old,⟨_,by rw [h4];exact hns₁,?_⟩,?_,I3.hok.fresh (Nat.le_refl _),fun y c e=>I3.freeC y c (cl1 y c e),?_,by rw [h4];exact I3.hok.kept old,?_⟩
   · intro i y v e1 e2 e3
     have hlt:i < σ.length:=by
       rcases Nat.lt_or_ge i σ.length with z | z
       · exact z
       · rw [List.getElem?_append_right z] at e2
         cases e:i - σ.length with
         | zero=>rw [e] at e2;simp at e2
         | succ k=>rw [e] at e2;simp at e2
     rw [List.getElem?_append_left hlt] at e2
     have hsm:∃ k,scope.names.lookup y=some k:=by
       rcases e3 with hk | hk | hk
       · rcases ZO O.cell hk with q | q
         · exact ⟨_,q⟩
         · exact ⟨_,q.1⟩
       · rcases ZO O.cell hk with q | q
         · exact ⟨_,q⟩
         · exact ⟨_,q.1⟩
       · rcases ZO O.cell hk with q | q
         · exact ⟨_,q⟩
         · exact ⟨_,q.1⟩
     obtain ⟨e1',hyx⟩:X.N[i]?=some y∧y≠x:=by
       have e1:(WZ X.N x++[x])[i]?=some y:=e1
       rw [List.getElem?_append_left (by rw [WE,← I3.len];exact hlt)] at e1
       rcases ZeI e1 with z | z
       · exact z
       · obtain ⟨k,hk⟩:=hsm
         rw [z,O.noh] at hk;cases hk
     have hy:y∈X.N:=List.mem_of_getElem? e1'
     have hf:scope.names.lookup y=some .free:=by
       rcases e3 with hk | hk | hk
       · rcases ZO O.cell hk with q | q
         · exact absurd q (O.own y hy hyx)
         · exact q.1
       · rcases ZO O.cell hk with q | q
         · exact absurd rfl (O.cell _ (mem_of_lookup q))
         · exact q.1
       · rcases ZO O.cell hk with q | q
         · exact q
         · exact q.1
     have hk:=O.clos _ (mem_of_lookup hf) rfl
     have hv:Vis X.env.scope y:=by rcases hk with z | z;exact .inr (.inl z);exact .inr (.inr z)
     obtain ⟨u,ru,lu⟩:=hl i y v e1' e2 hv
     refine ⟨u,ru,?_⟩
     have hkc:(compEnvC scope cl s₃.heap.objs.size X.env).kindOf y=some .cell∨(compEnvC scope cl s₃.heap.objs.size X.env).kindOf y=some .free:=by
       rcases e3 with q | q | q
       · rcases ZO O.cell q with z | z
         · exact absurd z (O.own y hy hyx)
         · cases z.2
       · exact .inl q
       · exact .inr q
     rcases lu with ⟨q,_⟩ | ⟨_,c,hcl,hcc⟩
     · rcases hk with z | z<;>(rw [q] at z;cases z)
     · refine .inr ⟨hkc,?_⟩
       cases e:cl.lookup y with
       | none=>exact absurd e (cl2 _ (mem_of_lookup hf) rfl)
       | some c' =>
         have:=cl1 y c' e
         rw [hcl] at this
         cases this
         refine ⟨c,e,?_⟩
         rw [h4]
         obtain ⟨oc,ho,hd⟩:=hcc
         exact ⟨oc,old _ _ ho,hd⟩
   · intro y c e
     obtain ⟨v,oc,ho,hd⟩:=I3.cell y c (cl1 y c e)
     exact ⟨v,oc,by rw [h4];exact old _ _ ho,hd⟩
   · intro p hp;cases hp
   · show (σ++[none]).length=(WZ X.N x++[x]).length
     rw [List.length_append,List.length_append,WE,I3.len];rfl
 have st4:tn 0 s₄.heap:=by rw [h4];exact T.keep _ _ _ st3' fun b hb o e=>old b o e
 have fpok:∀ {H':Hp},(∀ b∈fp,H' b=none)→∀ b∈fp,Xc (ZR X scope x cl s₃.heap.objs.size s₃ H3 fp) [] H' b:=fun hn b hb=>by
   obtain ⟨g0,g1,g2,g3,g4,g5⟩:=f3 b hb
   refine ⟨hn b hb,Nat.ne_of_lt (hobj b hb),ok'.exfs b hb,.inl hb,fun y c e=>g4 y c (cl1 y c e),?_⟩
   intro p hp;cases hp
 have loop:codeAny (model X.prog X.w) X.A (.compLoop (.ListComp elt [⟨.Name x px,iter,[],0⟩] scope pos) 0 (.ref it) (.ref D) (compEnvC scope cl s₃.heap.objs.size X.env)) (RR (.ref D) s₃.heap.objs.size) s₄:=by
   refine Vg (fun n s'=>∃ i ys w' H',Inv (ZR X scope x cl s₃.heap.objs.size s₃ H3 fp) [] (σ++[w']) H' s'∧tn i s'.heap∧(∀ b∈fp,H' b=none)∧W i n ys H') ?_ m0 ⟨0,[],none,H3,I4,st4,fun b hb=>(f3 b hb).1,w0⟩
   rintro n s5 ⟨i,ys,w',H5,I5,st5,fr5,w5⟩
   rcases turn i n ys H5 w5 with ⟨stop,q⟩ | ⟨go,N,hN,step⟩
   · refine Zr (T.done (ZR X scope x cl s₃.heap.objs.size s₃ H3 fp) rfl rfl rfl hc i [] s5 _ H5 _ I5 (fpok fr5) st5 stop) fun r s6 ⟨hr,I6⟩=>?_
     subst hr
     obtain ⟨m6,hn6,_⟩:=I6.loc
     have IX:Inv X pins σ H5 s6:=I3.call' (ch:=fp) I6.os I6.base I6.hok I6.bare fun b hb=>by
       obtain ⟨g0,g1,g2,g3,g4,g5⟩:=f3 b hb
       exact ⟨g3,g1,g4,g5⟩
     exact hRR D _ H5 s6 IX (I3.fpOk (Nat.le_refl _) I6.free) ⟨m6,hn6⟩ q
   · refine Zr (T.item (ZR X scope x cl s₃.heap.objs.size s₃ H3 fp) rfl rfl rfl hc i [] s5 _ H5 _ I5 (fpok fr5) st5 go) fun r s6 ⟨u,hr,h6⟩=>?_
     subst hr
     refine Zr h6 fun _ s7 ⟨v,H7,I7,r7,y7,st7,fr7⟩=>?_
     have I7':=I7.pinned (fpok fr7) (T.obj _ _ st7)
     have hixN:(ZR X scope x cl s₃.heap.objs.size s₃ H3 fp).N[σ.length]?=some x:=by
       show (WZ X.N x++[x])[σ.length]?=some x
       rw [I3.len,← WE X.N x];simp
     refine Zr (Yp (X:=ZR X scope x cl s₃.heap.objs.size s₃ H3 fp) (pos:=px) O.nd hixN (.inl (lookup_relabel_local O.loc)) (.inr (lookup_relabel_local O.loc)) _ s7 _ H7 v u (fun σ' H'=>σ'=σ++[some v]∧H'=H7) I7' r7 ⟨by simp,rfl⟩) fun _ s8 ⟨σ8,H8,I8,e8,e8'⟩=>?_
     subst e8 e8'
     refine Zr (he cl s₃.heap.objs.size s₃ H3 fp _ s8 _ H8 _ I8 (step v H8 y7)) fun uy s9 ⟨y,H9,I9,r9,n9⟩=>?_
     obtain ⟨hl9,hz9,m',hm',w9⟩:=hN y H9 n9
     refine Zr (WY (X:=ZR X scope x cl s₃.heap.objs.size s₃ H3 fp) _ s9 _ H9 (.ref D) [y] (.ref D) [uy] (fun v H'=>H'=upd H9 D (.lst (ys++[y]))) I9 rfl (.cons r9 .nil) ⟨D,ys,y,rfl,rfl,hl9,hz9,rfl⟩) fun _ s10 ⟨_,H10,I10,_,e10⟩=>?_
     subst e10
     refine ⟨m',hm',i+1,ys++[y],some v,_,I10.unpinned (pins:=[]),T.keep _ _ _ st7 fun b hb o e=>(I10.pin (b,o) (List.mem_append_right _ (List.mem_append_right _ (YL hb e)))).1,fun b hb=>?_,w9⟩
     obtain ⟨o,e,d⟩:=T.obj _ _ st7 b hb
     exact (I10.pin (b,o) (List.mem_append_right _ (List.mem_append_right _ (YL hb e)))).2.1
 exact codeAny_compStart_list loop (T.self _ 0 _ _ _ st4 loop)
theorem Ur (O:CompOk X scope x)(hc:X.calm=true)(hi:PI X (.Name x px) iter wi)(he:∀ cl C s₀ H₀ fp,PE (ZR X scope x cl C s₀ H₀ fp) elt te)
   (hs:∀ v,foldedSetIterable iter X.env v=pure v:=by intro _;rfl):PE X (.ListComp elt [⟨.Name x px,iter,[],0⟩] scope pos) (ZmT wi te):=by
 intro pins s σ H Q I h
 obtain ⟨cl,hcl,cl1,cl2⟩:=UM (scope:=scope) (env:=X.env) fun y hy hf=>I.ok.has _ (O.clos y hy hf)
 rw [eval_ListComp]
 refine wpAny_comprehension_free (use:=none) rfl hs hcl O.kind O.names (Zr (hi pins s σ H _ I h) fun v s1 h1=>Zr h1 fun itv s2 h2=>?_)
 obtain ⟨it,fp,tn,J,H2,e,I2,T,st2,f2,q⟩:=h2
 subst e
 refine Zfz (RR:=fun acc C=>compPost (model X.prog X.w) X.A X.xe none (EP X pins σ Q) acc C) O hc cl1 cl2 he I2 T st2 f2 q ?_
 intro D C H' s' I' ⟨g0,g1,g2,g3,g4,g5⟩ ⟨m,hm⟩ hq
 exact ⟨m,hm,fun h' hs'=>⟨.ref D,H',I'.turned (t':=s'.toks) (fun b o hb e=>(hs'.2 b hb).trans e) g0 g1 g3 g4 g5,rfl,hq⟩⟩
end
theorem ZfV {lo:Int}{n:Nat}{te:TE}{σ:St}{D:Addr}{Q:VK}{H:Hp}(hn:n≤sizeLine)(Pv:Nat→List V→Hp→Prop)(h0:Pv 0 [] (upd H D (.lst [])))
   (hl:∀ i ys H,Pv i ys H→ys.length=i)
   (hs:∀ i ys H,i < n→Pv i ys H→te (σ++[some (.int (lo+i))]) H fun y H4=>H4 D=some (.lst ys)∧Pv (i+1) (ys++[y]) (upd H4 D (.lst (ys++[y])))) (hd:∀ ys H,Pv n ys H→Q (.ref D) H):VY (Itr lo n) te σ D Q H:=by
 refine ⟨fun i m ys H=>m=n - i∧i≤n∧Pv i ys H,⟨n,by simp,Nat.zero_le _,h0⟩,?_⟩
 rintro i m ys H2 ⟨rfl,hi,p⟩
 by_cases hlt:i < n
 · have hlen:=hl i ys _ p
   refine .inr ⟨hlt,_,fun y H4 (q:H4 D=some (.lst ys)∧Pv (i+1) (ys++[y]) (upd H4 D (.lst (ys++[y]))))=>⟨q.1,by omega,n - (i+1),by omega,rfl,hlt,q.2⟩,fun v H3 y=>?_⟩
   obtain ⟨e,e'⟩:=y
   subst e e'
   exact hs i ys _ hlt p
 · have e:i=n:=by omega
   subst e
   exact .inl ⟨Nat.le_refl _,hd ys H2 p⟩
theorem ZcL {K:KF}{a:Addr}{xs:List V}{te:TE}{σ:St}{D:Addr}{Q:VK}{H:Hp}(hn:xs.length≤sizeLine)(Pv:Nat→List V→Hp→Prop)(h0:Pv 0 [] (upd H D (.lst [])))
   (hl:∀ i ys H,Pv i ys H→ys.length=i∧SqL K H a xs)
   (hs:∀ i x ys H,xs[i]?=some x→Pv i ys H→te (σ++[some x]) H fun y H4=>H4 D=some (.lst ys)∧Pv (i+1) (ys++[y]) (upd H4 D (.lst (ys++[y])))) (hd:∀ ys H,Pv xs.length ys H→Q (.ref D) H):VY (Itl K a) te σ D Q H:=by
 refine ⟨fun i m ys H=>m=xs.length - i∧i≤xs.length∧Pv i ys H,⟨xs.length,by simp,Nat.zero_le _,h0⟩,?_⟩
 rintro i m ys H2 ⟨rfl,hi,p⟩
 obtain ⟨hlen,q⟩:=hl i ys _ p
 by_cases hlt:i < xs.length
 · refine .inr ⟨⟨xs,xs[i],q,by simp [hlt]⟩,_,fun y H4 (q:H4 D=some (.lst ys)∧Pv (i+1) (ys++[y]) (upd H4 D (.lst (ys++[y]))))=>⟨q.1,by omega,xs.length - (i+1),by omega,rfl,hlt,q.2⟩,fun v H3 y=>?_⟩
   obtain ⟨e,y⟩:=y
   subst e
   exact hs i v ys _ (y xs q) p
 · have e:i=xs.length:=by omega
   subst e
   exact .inl ⟨⟨xs,q,Nat.le_refl _⟩,hd ys H2 p⟩
theorem ZdO {K:KF}{a:Addr}{xs:List V}{te:TE}{σ:St}{D:Addr}{Q:VK}{H:Hp}(hn:xs.length≤sizeLine)(Pv:Nat→List V→Hp→Prop)(h0:Pv 0 [] (upd H D (.lst [])))
   (hl:∀ i ys H,Pv i ys H→ys.length=i∧SqT K H a xs)
   (hs:∀ i x ys H,xs[i]?=some x→Pv i ys H→te (σ++[some x]) H fun y H4=>H4 D=some (.lst ys)∧Pv (i+1) (ys++[y]) (upd H4 D (.lst (ys++[y])))) (hd:∀ ys H,Pv xs.length ys H→Q (.ref D) H):VY (Itt K a) te σ D Q H:=by
 refine ⟨fun i m ys H=>m=xs.length - i∧i≤xs.length∧Pv i ys H,⟨xs.length,by simp,Nat.zero_le _,h0⟩,?_⟩
 rintro i m ys H2 ⟨rfl,hi,p⟩
 obtain ⟨hlen,q⟩:=hl i ys _ p
 by_cases hlt:i < xs.length
 · refine .inr ⟨⟨xs,xs[i],q,by simp [hlt]⟩,_,fun y H4 (q:H4 D=some (.lst ys)∧Pv (i+1) (ys++[y]) (upd H4 D (.lst (ys++[y]))))=>⟨q.1,by omega,xs.length - (i+1),by omega,rfl,hlt,q.2⟩,fun v H3 y=>?_⟩
   obtain ⟨e,y⟩:=y
   subst e
   exact hs i v ys _ (y xs q) p
 · have e:i=xs.length:=by omega
   subst e
   exact .inl ⟨⟨xs,q,Nat.le_refl _⟩,hd ys H2 p⟩
end L2
namespace L2
open PySem PySem.Spec PyProof.Rows
section
variable {X:Cx}{tg:Expr}
end
section
variable {X:Cx}
theorem Uq:∀{ys:List Str}{us:List Value},Vals (ys.map V.str) us→StrsAre us ys
 | [],_,.nil=>.nil
 | y::ys,_,.cons r t=>by obtain ⟨k,rfl⟩:=r;exact .cons _ _ (Uq t)
theorem ZeC:MtR X "str.join" (fun x xs H Q=>∃ sep a ys,x=.str sep∧xs=[.ref a]∧SqL X.K H a (ys.map V.str)∧(ys.map (·.length)).sum+ys.length * sep.length≤16777216∧Q (.str (Txt.join sep ys)) H):=by
 intro pins s σ H x xs v us Q I rx rv h
 obtain ⟨sep,a,ys,rfl,rfl,hq,hz,q⟩:=h
 obtain ⟨t,rfl⟩:=rx
 obtain ⟨u,rfl,ru⟩:=Yj rv
 cases ru
 obtain ⟨its,r,p,_⟩:=I.list hq
 exact join_list p.isList (by simpa using Uq r) hz fun t' k=>⟨.str _,H,I.tok k,⟨_,rfl⟩,q⟩
end
mutual
inductive DataOf (H:Hp):V→PyData→Prop
 | non:DataOf H .non .none
 | bl (b):DataOf H (.bl b) (.bool b)
 | int (i):DataOf H (.int i) (.int i)
 | str (x):DataOf H (.str x) (.str x)
 | lst {a xs ds}:H a=some (.lst xs)→DatasOf H xs ds→DataOf H (.ref a) (.list ds)
 | tup {a xs ds}:H a=some (.tup xs)→DatasOf H xs ds→DataOf H (.ref a) (.tuple ds)
inductive DatasOf (H:Hp):List V→List PyData→Prop
 | nil:DatasOf H [] []
 | cons {v d vs ds}:DataOf H v d→DatasOf H vs ds→DatasOf H (v::vs) (d::ds)
end
section
variable {P:Program}{w:World}{H:Hp}{h:Heap}
mutual
theorem DataOf.reads (hok:HOk P w H h):∀{v d}(u:Value),DataOf H v d→RelV v u→d.hasDict=false∧∃ as,Reads h u d as
 | _,_,u,.non,r=>by cases (show u=.none from r);exact ⟨rfl,_,.none⟩
 | _,_,u,.bl b,r=>by cases (show u=.bool b from r);exact ⟨rfl,_,.bool b⟩
 | _,_,u,.int i,r=>by obtain ⟨t,e⟩:=(show ∃ t,u=.int i t from r);subst e;exact ⟨rfl,_,.int i t⟩
 | _,_,u,.str x,r=>by obtain ⟨t,e⟩:=(show ∃ t,u=.str x t from r);subst e;exact ⟨rfl,_,.str x t⟩
 | _,_,u,.lst (a:=a) (xs:=xs) e q,r=>by
   cases (show u=.ref a from r)
   obtain ⟨_,its,n,rv,g⟩:=(show ObjOk P w H h a (.lst xs) from hok a _ e)
   obtain ⟨nd,as,ra⟩:=DatasOf.reads hok its q rv
   exact ⟨by simpa [PyData.hasDict] using nd,_,.list g rfl rfl (by simpa using ra)⟩
 | _,_,u,.tup (a:=a) (xs:=xs) e q,r=>by
   cases (show u=.ref a from r)
   obtain ⟨_,its,rv,o,g,c,n,d⟩:=(show ObjOk P w H h a (.tup xs) from hok a _ e)
   obtain ⟨nd,as,ra⟩:=DatasOf.reads hok its q rv
   exact ⟨by simpa [PyData.hasDict] using nd,_,.tuple g c d (by simpa using ra)⟩
theorem DatasOf.reads (hok:HOk P w H h):∀{vs ds}(us:List Value),DatasOf H vs ds→Vals vs us→PyData.hasDictAll ds=false∧∃ as,ReadsAll h us ds as
 | _,_,_,.nil,.nil=>⟨rfl,_,.nil⟩
 | _,_,_,.cons r t,.cons rv tv=>by
   obtain ⟨n1,as,r1⟩:=DataOf.reads hok _ r rv
   obtain ⟨n2,bs,r2⟩:=DatasOf.reads hok _ t tv
   exact ⟨by simp [PyData.hasDictAll,n1,n2],_,.cons r1 r2⟩
end
end
section
variable {X:Cx}
theorem ZcE (hg:X.A.guards=some [])(hu:X.A.units+64 < cLine):Yk X (.builtin "repr") (fun xs H Q=>∃ x d,xs=[x]∧DataOf H x d∧d.showable=true∧d.shown.length≤sizeLine∧d.depth≤60∧Q (.str d.shown) H):=by
 intro pins s σ H xs us Q I r h
 obtain ⟨x,d,rfl,dd,hs,hz,hd,q⟩:=h
 obtain ⟨u,rfl,ru⟩:=Yj r
 have fin:∀ (t':Tok) (k:Nat),EP X pins σ Q (.str d.shown t') { s with toks:=k }:=fun t' k=>⟨.str _,H,I.tok k,⟨_,rfl⟩,q⟩
 obtain ⟨nd,as,rd⟩:=DataOf.reads I.hok u dd ru
 cases rd with
 | none=>exact PySem.P.repr_of_none (fin _ _)
 | bool b=>exact PySem.P.repr_of_bool (fin _ _)
 | int i t=>exact PySem.P.repr_of_int (by simpa [PyData.showable] using hs) (fin _ _)
 | str x t=>exact PySem.P.repr_of_str (fin _ _) hz
 | list h1 h2 h3 h4=>exact repr_of_reads' (Reads.list h1 h2 h3 h4) hs (fun z=>by rw [nd] at z;cases z) hg (by omega) (fun _ _ e=>e) (fun h' t' k hk=>⟨.str _,H,I.kept (t':=k) hk,⟨_,rfl⟩,q⟩) hz
 | tuple h1 h2 h3 h4=>exact repr_of_reads' (Reads.tuple h1 h2 h3 h4) hs (fun z=>by rw [nd] at z;cases z) hg (by omega) (fun _ _ e=>e) (fun h' t' k hk=>⟨.str _,H,I.kept (t':=k) hk,⟨_,rfl⟩,q⟩) hz
 | dict h1 h2 h3 h4 h5=>cases nd
end
end L2
namespace L2
open PySem PySem.Spec PyProof.Rows
def Def (P:Program)(w:World)(K:KF)(mg:Str→Option Value)(base:Heap)(k:Nat)(x:Str)(ps:List Str)(sp:Sp):Prop :=
 ∃ f fd,FnOk P w K mg base ZK k f fd ps sp∧Binds K fd ps []∧PySem.W.keepIn K (.ref f)=true∧mg x=some (.ref f)
theorem Def.mono {P:Program}{w:World}{K:KF}{mg:Str→Option Value}{base:Heap}{j k:Nat}{x:Str}{ps:List Str}{sp:Sp}(D:Def P w K mg base j x ps sp)(h:j≤k):Def P w K mg base k x ps sp :=
 let ⟨f,fd,F,b,kp,m⟩:=D;⟨f,fd,F.mono h,b,kp,m⟩
section
variable {X:Cx}{k:Nat}{x:Str}{ps:List Str}{sp:Sp}{p pos:Pos}{e:Expr}{es:List Expr}{t:TA}
theorem Zx (D:Def X.prog X.w X.K X.mg X.base k x ps sp)(hr:Room k X.A)(ha:PA X (e::es) t)(hg:Gl X x:=by rfl)(hdb:(x == ("__debug__":Str))=false:=by decide)
   (he:starEach (e::es) X.env=(false,eval e X.env)::starEach es X.env:=by rfl) (hpl:(backTo pos (starEach es X.env)).any (·.1)=false:=by rfl) :
   PE X (.Call (.Name x p) (e::es) [] pos) (Zbs sp [] E0 t):=by
 obtain ⟨f,fd,F,b,kp,m⟩:=D
 exact ZkQ F hr hg m kp b .nil ZfK ha hdb he hpl
end
def Kp (p:Addr)(H H':Hp):Prop:=∀ q o,q≠p→H q=some o→H' q=some o
theorem Kp.refl (p:Addr)(H:Hp):Kp p H H:=fun _ _ _ h=>h
theorem Kp.trans {p:Addr}{H H1 H2:Hp}(a:Kp p H H1)(b:Kp p H1 H2):Kp p H H2:=fun q o n h=>b q o n (a q o n h)
theorem Kp.upd (p:Addr)(H:Hp)(o:HO):Kp p H (upd H p o):=fun q u n h=>by rw [Zh n];exact h
theorem Same.kp {H H':Hp}(a:Same H H')(p:Addr):Kp p H H':=fun q o _ h=>a q o h
theorem Zm {H:Hp}{p:Addr}(h:H p=none)(o:HO):Same H (upd H p o):=fun b u q=>by rw [Zh (Zp q h)];exact q
def BoxAt (H:Hp)(p:Addr)(n:Nat):Prop:=∃ a b c:Int,H p=some (.lst [.int a,.int b,.int c])∧0≤a∧0≤c∧c≤n
theorem BoxAt.same {H H':Hp}{p:Addr}{n:Nat}(h:BoxAt H p n)(s:Same H H'):BoxAt H' p n:=let ⟨a,b,c,e,r⟩:=h;⟨a,b,c,s _ _ e,r⟩
theorem BoxAt.le {H:Hp}{p:Addr}{n m:Nat}(h:BoxAt H p n)(l:n≤m):BoxAt H p m:=let ⟨a,b,c,e,h1,h2,h3⟩:=h;⟨a,b,c,e,h1,h2,by omega⟩
def Uw (M:Int):Sp:=fun vs H Q _=>∃(p:Addr)(n:Nat)(m:Int),vs=[.ref p,.int m]∧BoxAt H p n∧n≤1000000∧0 < m∧m < M∧∀(r:Int)(H':Hp),0≤r→r < m→BoxAt H' p (n+1)→Kp p H H'→Q (.int r) H'
def Zhx (K:KF):Sp:=fun vs H Q _=>∃(a:Addr)(ns:List Int)(k:Int),vs=[.ref a,.int k]∧SqL K H a (ns.map V.int)∧0≤k∧∀(r:Int),Q (.int r) H
def Zjq (K:KF):Sp:=fun vs H Q _=>∃(a:Addr)(ns:List Int)(k:Int),vs=[.ref a,.int k]∧SqL K H a (ns.map V.int)∧0≤k∧k≤1000∧∀(p:Addr)(H':Hp),H p=none→BoxAt H' p 0→Same H H'→Q (.ref p) H'
theorem UL {n:Nat}(h:n≤1000):n≤sizeLine:=Nat.le_of_lt (Zhn h)
end L2
namespace L2
open PySem PySem.Spec PyProof.Rows
def Zew (N:List Str)(names:List (Str×NameKind))(scope:Scope)(x:Str):Bool :=
 decide ((WZ N x++[x]).Nodup)&&scope.names.all (fun y=>(y.2 != .free || names.lookup y.1 == some .cell || names.lookup y.1 == some .free)&&(y.2 != .cell&&(y.2 != .local || scope.names.lookup y.1 == some .local))) &&
 ((scope.kind == .function&&scope.names.lookup x == some .local)&&N.all fun y=>y == x || scope.names.lookup y != some .local)&&scope.names.lookup ("":Str) == none
theorem CompOk.of {X:Cx}{scope:Scope}{x:Str}(N:List Str)(st:Stmt)(hN:X.N=N)(hn:X.env.scope=Zn st)(chk:Zew N (Zn st).names scope x=true):CompOk X scope x:=by
 unfold Zew at chk
 simp only [Bool.and_eq_true,decide_eq_true_eq,List.all_eq_true,Bool.or_eq_true,bne_iff_ne,beq_iff_eq] at chk
 obtain ⟨⟨⟨c1,c2⟩,⟨c3,c4⟩,c5⟩,c6⟩:=chk
 refine ⟨by rw [hN];exact c1,fun y hy hf=>?_,fun y hy=>(c2 y hy).2.1,c3,fun y hy hl=>?_,c4,fun y hy hx=>(c5 y (by rw [← hN];exact hy)).resolve_left hx,c6⟩
 · show X.env.scope.names.lookup y.1=_∨X.env.scope.names.lookup y.1=_
   rw [hn]
   rcases (c2 y hy).1 with (z | z) | z
   · exact absurd hf z
   · exact .inl z
   · exact .inr z
 · rcases (c2 y hy).2.2 with z | z
   · exact absurd hl z
   · exact z
theorem Zbl:∀ (rest:List Str) (acc:Array Nat),(rest.foldl (fun acc p=>acc++(Str.ofString "").cps++p.cps) acc).toList=acc.toList++rest.flatMap (·.cps.toList)
 | [],acc=>by simp
 | p::r,acc=>by
   have e:(Str.ofString "").cps=#[]:=by decide +kernel
   rw [List.foldl_cons,Zbl r,List.flatMap_cons,e]
   simp
theorem WA:∀ ys:List Str,(Txt.join (Str.ofString "") ys).cps.toList=ys.flatMap (·.cps.toList)
 | []=>rfl
 | y::r=>by
   show (List.foldl (fun acc p=>acc++(Str.ofString "").cps++p.cps) y.cps r).toList=_
   rw [Zbl];rfl
theorem Xb (x:Str):x.length=x.cps.toList.length:=by simp [Str.length]
theorem Zcp (x y:Str):(x++y).cps.toList=x.cps.toList++y.cps.toList:=by
 show (x.cps++y.cps).toList=_
 simp
theorem Yz (x y:Str):(x++y).length=x.length+y.length:=by rw [Xb,Zcp,List.length_append,← Xb,← Xb]
def YJ (c:Nat):Bool:=decide (97≤c)&&decide (c≤122)
def sgn (c:Nat):Bool:=decide (32≤c)&&decide (c≤126)
theorem Zgy {X:Cx}{K:KF}(hK:X.K=K):Yk X (.builtin "len") (fun xs H Q=>∃ x n,xs=[x]∧Zic K x H n∧Q (.int n) H):=by subst hK;exact Zjg
@[reducible] def notStar:Expr→Bool
 | .Starred ..=>false
 | _=>true
theorem Zjs {e:Expr}{es:List Expr}{env:Env}(h:notStar e=true):starEach (e::es) env=(false,eval e env)::starEach es env:=by
 cases e<;>first | rfl | cases h
section
variable {X:Cx}{k:Nat}{x:Str}{ps:List Str}{sp:Sp}{p pos:Pos}{e:Expr}{es:List Expr}{te:TE}{t:TA}
theorem Ww (ha:PE X e te)(hr:PA X es t)(h:notStar e=true):PA X (e::es) (YX te t):=Ys ha hr (Zjs h)
theorem Zc (ha:PE X e te)(hr:PA X es t)(h:notStar e=true:=by rfl):PA X (e::es) (YX te t):=Ys ha hr (Zjs h)
end
end L2
namespace L2
open PySem PySem.Spec PyProof.Rows
section
variable {X:Cx}
theorem Zir:Xf X (binaryOp .FloorDiv) (rI (fun _ j=>0 < j∧j < 2 ^ 62) fun i j=>.int (i / j)):=opI fun i j _ _ _ _ _ hc q=>by
 have h1:(0:Int) < j:=hc.1
 have h2:j < 2 ^ 62:=hc.2
 refine floordiv_int (by omega) (by rw [Int.fdiv_eq_ediv_of_nonneg i (by omega)];exact q) (.inl (PyProof.noPylong_of_log2 ?_))
 have h3:j.natAbs≠0:=by omega
 have h4:j.natAbs < 2 ^ 9000:=Nat.lt_of_lt_of_le (show j.natAbs < 2 ^ 62 by omega) (Nat.pow_le_pow_right (by decide) (by decide))
 exact (Nat.log2_lt h3).mpr h4
end
end L2
namespace L2
open PySem PySem.Spec PyProof.Rows
section
variable {X:Cx}
theorem Vr {P:Program}{w:World}:∀{kvs:ZH}{vs:List (Zk×Value)},KV kvs vs→∀(us:List Value),us.length=vs.length→(∀(j:Nat)(v:Value),us[j]?=some v→∃ k x,vs[j]?=some (k,x)∧(Zl P w).is k v=true)→Vals (kvs.map fun p=>kV p.1) us
 | _,_,.nil,us,hl,_=>by
   have:us=[]:=List.eq_nil_of_length_eq_zero (by simpa using hl)
   subst this;exact .nil
 | _,_,.cons r t,us,hl,h=>by
   cases us with
   | nil=>simp at hl
   | cons u ur =>
     obtain ⟨k,x,e,hk⟩:=h 0 u rfl
     have e':_=(k,x):=Option.some.inj e
     refine .cons ?_ (Vr t ur (by simpa using hl) fun j v hj=>h (j+1) v (by simpa using hj))
     have e2:=r.1
     rw [e'] at e2
     show RelV (kV _) u
     rw [e2]
     rw [Vc] at hk
     rcases ZP hk with ⟨i,tt,rfl,rfl⟩ | ⟨y,tt,rfl,rfl⟩
     · exact ⟨tt,rfl⟩
     · exact ⟨tt,rfl⟩
theorem ZbN (hc:X.calm=true):Yk X (.type "list") (fun xs H Q=>∃ (d:Addr) (kvs:ZH),xs=[.ref d]∧H d=some (.dK kvs)∧∀ l,H l=none→Q (.ref l) (upd H l (.lst (kvs.map fun p=>kV p.1)))):=by
 intro pins s σ H xs us Q I r h
 obtain ⟨d,kvs,rfl,e,q⟩:=h
 obtain ⟨u,rfl,ru⟩:=Yj r
 cases ru
 obtain ⟨hz,lo,vs,kv,o,es,ep,ho,r1,r2,r3,r4,r5⟩:=Wz I.hok e
 have hlen:vs.length=kvs.length:=(Paired.length kv).symm
 refine PySem.W.kdl_call (PySem.W.kdl_dict (knd:=Zl X.prog X.w) (kvs:=vs) (ep:=ep) lo) (I.ok.hd hc) ⟨o,es,ho,r1,r2,r3,r4,r5⟩ (by rw [hlen];exact hz) fun h' tk acc' c' hk hS hacc=>?_
 have rv:Vals (kvs.map fun p=>kV p.1) acc'.toList:=Vr (P:=X.prog) (w:=X.w) kv acc'.toList (by rw [Array.length_toList];exact hacc.1) fun j v hj=>hacc.2 j v (by rw [← Array.getElem?_toList];exact hj)
 exact ⟨.ref s.heap.objs.size,_,I.laid (t':=tk) hk (Nat.le_refl _) (show ObjOk X.prog X.w _ h' _ (.lst (kvs.map fun p=>kV p.1)) from ⟨by rw [List.length_map];exact hz,acc'.toList,c',rv,by rw [Array.toArray_toList];exact hS⟩),rfl,q _ (I.hok.fresh (Nat.le_refl _))⟩
end
def Zeb (lo c:Int)(n:Nat):It:=⟨fun i _=>i < n,fun i H x H'=>H'=H∧x=.int (lo+i * c),fun i _=>n≤i⟩
theorem Zeo {P:Program}{w:World}{K:KF}{tg:Expr}(it:Addr)(lo c:Int)(n:Nat):UR P w K tg (Zeb lo c n) [it] it (fun i h=>IsRangeIter h it (lo+(i:Nat) * c) ((n:Int) - (i:Nat)) c) where
 mem:=by simp
 obj := fun i h st b hb=>by
   have e:b=it:=by simpa using hb
   subst e
   exact ⟨_,st,fun v z=>by
     have z':Data.fields _=Data.cell v:=z
     cases z'⟩
 keep:=fun i h h' st k=>k it (by simp) _ st
 item:=by
   intro X hP hw hK hc i pins s σ H E I hf st hg
   subst hP hw hK
   obtain ⟨f0,f1,f2,f3,f4,f5⟩:=hf it (by simp)
   have W:=Walks.range (prog:=X.prog) (w:=X.w) (I.ok.hd hc) it lo c n
   refine W.item i s _ _ hg st fun v h' tk hv st' kk=>?_
   obtain ⟨t,rfl⟩:=hv
   have I1:Inv X pins σ H { s with heap:=h',toks:=tk }:=I.turned (fun b o hb e=>kk b o (by simpa using hb) e) f0 f1 f3 f4 f5
   exact ⟨_,rfl,ZcU (s:={ s with heap:=h',toks:=tk }) (n:="range_iterator") st' rfl rfl (by decide) ⟨.int (lo+i * c),H,I1,⟨t,rfl⟩,⟨rfl,rfl⟩,st',fun b hb=>(hf b hb).1⟩⟩
 done:=by
   intro X hP hw hK hc i pins s σ H E I hf st hg
   subst hP hw hK
   obtain ⟨f0,f1,f2,f3,f4,f5⟩:=hf it (by simp)
   exact wpAny_pyNext_range_end (I.ok.hd hc) st (by have:n≤i:=hg;omega) fun h' eb=>⟨rfl,I.turned (t':=s.toks) (fun b o hb e=>eb b o hb e) f0 f1 f3 f4 f5⟩
 self:=fun _ _ _ _ _ st h=>wpAny_pyIter_rangeiter st h
def ZmU (ta:TA):TI:=fun σ H R=>ta σ H fun vs H1=>∃(a b c:Int)(n:Nat),vs=[.int a,.int b,.int c]∧c≠0∧c.natAbs < 1073741824∧Builtin.Range.small a b c=true∧Builtin.Range.rangeSize a b c=n∧R (Zeb a c n) H1
section
variable {X:Cx}{tg:Expr}
theorem Zho {a b c:Expr}{ta:TA}{p pos:Pos}(hg:Gl X "range")(hm:X.mg "range"=none)(ha:PA X [a,b,c] ta)(he:starEach [a,b,c] X.env=(false,eval a X.env)::starEach [b,c] X.env:=by rfl)(hpl:(backTo pos (starEach [b,c] X.env)).any (·.1)=false:=by rfl) :
   PI X tg (.Call (.Name "range" p) [a,b,c] [] pos) (ZmU ta):=by
 intro pins s σ H R I h
 refine Call_ (WM I hg hm boot_range (PyProof.Rows.callWith_type1 (Zr (ha pos pins s σ H _ I h) fun us s1 ⟨vs,H1,I1,r1,q1⟩=>?_) he hpl))
 obtain ⟨i,j,k,n,e,hk0,hk1,hsm,hsz,q⟩:=q1
 subst e
 cases r1 with
 | cons r rr =>
   cases rr with
   | cons r' rr =>
     cases rr with
     | cons r'' rr =>
       cases rr
       obtain ⟨t,rfl⟩:=r
       obtain ⟨t',rfl⟩:=r'
       obtain ⟨t'',rfl⟩:=r''
       refine call_range_3 hk0 (wpAny_pyIter_range (IsRange.new ..) hsm ?_) (.inl (PyProof.noPylong_small hk1))
       generalize hO:({ cls:=.type "range",data:=.fields #[.int i t,.int j t',.int k t''] }:Obj)=O
       have I2:Inv X pins σ H1 { s1 with heap:=s1.heap.push O,toks:=s1.toks }:=I1.kept fun b o e=>Heap.get?_push_of_some _ e
       refine ⟨(s1.heap.push O).objs.size,[(s1.heap.push O).objs.size],_,_,H1,rfl,I2.kept (t':=s1.toks) fun b o e=>Heap.get?_push_of_some _ e,Zeo _ i k n,?_,fun b hb=>?_,q⟩
       · have e1:i+((0:Nat):Int) * k=i:=by simp
         have e2:((n:Nat):Int) - ((0:Nat):Int)=Builtin.Range.rangeSize i j k:=by rw [hsz];simp
         show IsRangeIter _ _ (i+((0:Nat):Int) * k) (((n:Nat):Int) - ((0:Nat):Int)) k
         rw [e1,e2]
         exact Heap.get?_push_size _ rfl
       · have e:b=(s1.heap.push O).objs.size:=by simpa using hb
         subst e
         exact I2.fpOk (Nat.le_refl _) (I2.hok.fresh (Nat.le_refl _))
end
theorem ZfL {lo c:Int}{n:Nat}{g:TG}{tb:TS}{D:XY}{σ:St}{H:Hp}(Pv:Nat→St→Hp→Prop)(h0:Pv 0 σ H)
   (hs:∀ i σ H,i < n→Pv i σ H→g (.int (lo+i * c)) σ H fun σ2 H2=>tb { D with nx:=Pv (i+1),ct:=Pv (i+1),bk:=D.nx } σ2 H2) (hd:∀ σ H,Pv n σ H→D.nx σ H) :
   ∃ W:Nat→Nat→St→Hp→Prop,(∃ m,W 0 m σ H)∧∀ i m σ H,W i m σ H →
     ((Zeb lo c n).stop i H∧D.nx σ H)∨((Zeb lo c n).go i H∧∃ N:St→Hp→Prop,(∀ σ' H',N σ' H'→∃ m',m' < m∧W (i+1) m' σ' H')∧∀ x H',(Zeb lo c n).yld i H x H'→g x σ H' fun σ2 H2=>tb { D with nx:=N,ct:=N,bk:=D.nx } σ2 H2):=by
 refine ⟨fun i m σ H=>m=n - i∧i≤n∧Pv i σ H,⟨n,by simp,Nat.zero_le _,h0⟩,?_⟩
 rintro i m σ H ⟨rfl,hi,p⟩
 by_cases hlt:i < n
 · refine .inr ⟨hlt,Pv (i+1),fun σ' H' p'=>⟨n - (i+1),by omega,rfl,hlt,p'⟩,fun x H' y=>?_⟩
   obtain ⟨e,y⟩:=y
   subst e y
   exact hs i σ _ hlt p
 · have e:i=n:=by omega
   subst e
   exact .inl ⟨Nat.le_refl _,hd σ H p⟩
end L2
set_option maxHeartbeats 2000000
namespace L2
open PySem PySem.Spec PyProof.Rows
theorem ZaZ {prog:Program}{w:World}{A:Around}{it:Addr}{fp:List Addr}{n:Nat}{P:Nat→Value→Prop}{St:Nat→Heap→Prop}(D:Draws prog w A it fp n P St) :
   Draws prog w A it fp (n+1) (fun i v=>∃ j,i=j+1∧P j v) (fun i h=>∃ j,i=j+1∧St j h) where
 live:=fun i h ⟨j,_,st⟩=>D.live j h st
 frame:=fun i h h' ⟨j,e,st⟩ k=>⟨j,e,D.frame j h h' st k⟩
 item:=fun i s Q E hi ⟨j,e,st⟩ hQ=>by
   subst e
   exact D.item j s Q E (by omega) st fun x h' tk p st' sb=>hQ x h' tk ⟨j,rfl,p⟩ ⟨j+1,rfl,st'⟩ sb
 done:=fun s Q E ⟨j,e,st⟩ hE=>by
   have:n=j:=by omega
   subst this
   exact D.done s Q E st hE
section
variable {prog:Program}{w:World}{A:Around}{E:Zv}{s:Shared}
theorem Zay (x:Str)(t t1:Tok) :
   Meets (Builtin.«enumerate.__new__» ⟨[.type "enumerate",.str x t],[("start",.int 1 t1)]⟩) (fun _ R s =>
     R (.ok (.ret (.ref (s.heap.push { cls:=.type (strIterType x),data:=.fields #[.str x t,.int 0 0] }).objs.size)))
       { s with heap:=(s.heap.push { cls:=.type (strIterType x),data:=.fields #[.str x t,.int 0 0] }).push { cls:=.type "enumerate",data:=.fields #[.none,.bool false,.ref s.heap.objs.size,rawInt 1,.none,.none] } }) :=
 .of_wp fun prog w A R s h=>by
   obtain ⟨hp,g,d,tk,os⟩:=s
   have sub1:=sub_enumerate
   wp_walk
   refine wpAny_stack_any fun st=>wpAny_pure ?_
   split
   · rename_i c _ _ _ _ _
     cases (c == Value.type "enumerate")<;>(wp_walk using wpAny_pyIter_strU;exact ⟨_,rfl,h⟩)
   · wp_walk using wpAny_pyIter_strU
     exact ⟨_,rfl,h⟩
end
end L2
set_option maxHeartbeats 2000000
namespace L2
open PySem PySem.Spec PyProof.Rows
section
variable {prog:Program}{w:World}{A:Around}{E:Zv}{s:Shared}
theorem ZbJ {T newId:String}{self a:Value}{kw:List (Str×Value)}(hl:typeLookup (.type T) "__init__"=pure (some (.builtin "object.__init__")))
   (hm:Bind.madeBy (.type T)=pure (some newId)) (hne:(some newId != some "object.__new__")=true) :
   Meets (Builtin.«object.__init__» ⟨[self,a],kw⟩) (fun _ R s=>s.TypeIs self T∧R (.ok (.ret .none)) s):=by
 refine Meets.of_wp fun prog w A R s hs=>?_
 obtain ⟨hT,hq⟩:=hs
 repeat (any_goals first | assumption | wp_step)
 exact ⟨_,rfl,hq⟩
theorem ZdA {T newId initId:String}{Bn Bi:Builtin}{args:List Value}{kw:List (Str×Value)}{S:PySem.Spec}{Q Q₁:Zv}(ft:TypeCalled T newId initId)
   (hct:checkTypeCall T ⟨args,kw⟩=pure ()) (hcn:checkBuiltinCall newId ⟨.type T::args,kw⟩=pure ())
   (entryN:entryFor table newId=some Bn) (entryI:entryFor table initId=some Bi) (g:Meets (Bn ⟨.type T::args,kw⟩) S) (h:S A.in1 (wants Q₁ E) s)
   (hnext:∀ obj s₁,Q₁ obj s₁→s₁.TypeIs obj T∧argsOk initId ⟨obj::args,kw⟩∧∃ Si,Meets (Bi ⟨obj::args,kw⟩) Si∧Si A.in1 (wants (fun r s₂=>r=.none∧Q obj s₂) E) s₁) :
   wpAny (model prog w) A (call (.type T) args kw) Q E s:=by
 obtain ⟨c,tl,hmro⟩:=ft.mro
 have q1:=ft.made
 have q2:=ft.sub
 refine wpAny_call (codeAny_of_tree (show wpAny _ _ (callAny (.type T) _) _ _ _ from wpAny_pure ⟨Code.quiet_builtin _ (by decide +kernel),codeAny_builtin F.entry_type_call ?_⟩))
 rw [Around.under_plain (weight_type_call_type T args kw) (units_type_call_type T args kw)]
 have q3:=ft.notType
 have q4:=ft.canCreate
 repeat (any_goals first | assumption | wp_step)
 refine codeAny_mono (codeAny_call_builtin ft.plain entryN (wpAny_of_eq hcn (g prog w A.in1 _ s h))) fun r s₁ hr=>?_
 rcases r with e | fl
 · exact hr
 · cases fl with
   | ret obj =>
     obtain ⟨hT,hok,Si,gi,hsi⟩:=hnext _ _ hr
     have q5:=ft.init.lookup
     have q6:=ft.init.bind obj
     repeat (any_goals first | assumption | wp_step)
     refine codeAny_mono (codeAny_call_builtin ft.init.plain entryI (ft.init.check _ _ _ _ _ _ _ _ hT hok (gi prog w A.in1 _ s₁ hsi))) fun r₂ s₂ hr₂=>?_
     rcases r₂ with e | fl₂
     · exact hr₂
     · cases fl₂ with
       | ret r =>
         obtain ⟨rfl,hq⟩:=hr₂
         repeat (any_goals first | assumption | wp_step)
       | _=>exact hr₂.elim
   | _=>exact hr.elim
theorem Vi (a b:Value):checkTypeCall "enumerate" ⟨[a],[("start",b)]⟩=pure ():=by kernel_rfl
theorem Vt (a b:Value):checkBuiltinCall "enumerate.__new__" ⟨[.type "enumerate",a],[("start",b)]⟩=pure ():=by kernel_rfl
theorem Zbx (o a b:Value):argsOk "object.__init__" ⟨[o,a],[("start",b)]⟩:=by
 unfold argsOk
 rw [signature?_of (id:="object.__init__") (n:=['_','_','t','i','n','i','_','_']) (o:=['t','c','e','j','b','o']) (by kernel_rfl) F.owner_object]
 kernel_rfl
theorem Zbf {x:Str}{t t1:Tok}{Q:Zv}
   (h:∀ h',IsEnum h' (s.heap.objs.size+1) s.heap.objs.size 1 .none→h'.IsStrIter s.heap.objs.size (strIterType x) x t 0→h'.objs.size=s.heap.objs.size+2 →
     (∀ b o,s.heap.get? b=some o→h'.get? b=some o)→Q (.ref (s.heap.objs.size+1)) { s with heap:=h' }) :
   wpAny (model prog w) A (call (.type "enumerate") [.str x t] [("start",.int 1 t1)]) Q E s:=by
 have ft:=F.called_enumerate
 refine ZdA (Q₁:=fun obj s₁=>s₁.TypeIs obj "enumerate"∧Q obj s₁) ft (Vi _ _) (Vt _ _) F.entry_enumerate_new F.entry_object_init (Zay x t t1) ?_
   (fun obj s₁ hq=>⟨hq.1,Zbx obj _ _,_,ZbJ ft.init.lookup ft.made (by decide),hq.1,rfl,hq.2⟩)
 generalize hO:({ cls:=.type (strIterType x),data:=.fields #[.str x t,.int 0 0] }:Obj)=O
 have hz:(s.heap.push O).objs.size=s.heap.objs.size+1:=Heap.size_push ..
 generalize hO2:({ cls:=.type "enumerate",data:=.fields #[.none,.bool false,.ref s.heap.objs.size,rawInt 1,.none,.none] }:Obj)=O2
 have he:((s.heap.push O).push O2).get? (s.heap.objs.size+1)=some O2:=by
   have e:=Heap.get?_push_size (s.heap.push O) (o:=O2) (by rw [← hO2];rfl)
   rw [hz] at e;exact e
 have hi:((s.heap.push O).push O2).get? s.heap.objs.size=some O:=Heap.get?_push_of_some _ (Heap.get?_push_size _ (by rw [← hO];rfl))
 have key:Shared.TypeIs { s with heap:=(s.heap.push O).push O2 } (.ref (s.heap.objs.size+1)) "enumerate"∧Q (.ref (s.heap.objs.size+1)) { s with heap:=(s.heap.push O).push O2 }:=by
   refine ⟨⟨O2,he,by rw [← hO2]⟩,h _ (by rw [← hO2] at he ⊢;exact he) ⟨O,hi,by rw [← hO],by rw [← hO];rfl⟩ (by rw [Heap.size_push,hz]) fun b o y=>Heap.get?_push_of_some _ (Heap.get?_push_of_some _ y)⟩
 rw [← hz] at key
 exact key
end
end L2
set_option maxHeartbeats 2000000
namespace L2
open PySem PySem.Spec PyProof.Rows
theorem Inv.turned2 {X:Cx}{pins:List (Addr×Obj)}{σ:St}{H:Hp}{s:Shared}{h':Heap}{t':Nat}{fp:List Addr}(I:Inv X pins σ H s)(k:∀ b o,b ∉ fp→s.heap.get? b=some o→h'.get? b=some o)(hf:∀ b∈fp,Xc X pins H b) :
   Inv X pins σ H { s with heap:=h',toks:=t' }:=by
 have nit:∀ b u,H b=some u→b ∉ fp:=fun b u e z=>by rw [(hf b z).1] at e;cases e
 refine I.step (g':=s.gens) (d':=s.drawn) (ch:=fp) (fun b hb=>?_) (fun b o _ _ hc e _=>k b o hc e) (fun b o _ _ hc e _=>⟨o.slots,k b o hc e⟩) (fun _ _ _ _ n=>n)
   (fun b o hc e=>⟨o,k b o hc e⟩) (fun _ _ e=>e) (fun _ _ _ e=>e) (fun b ps e=>⟨#[],by rw [e];simp⟩) (fun m hm=>?_) (fun b u e=>?_) I.bare
 · obtain ⟨f0,f1,f2,f3,f4,f5⟩:=hf b hb
   exact ⟨f3,f1,f4,f5⟩
 · obtain ⟨o,es,ep,ho,r⟩:=hm
   exact ⟨o,es,ep,k _ o (fun z=>(hf _ z).2.1 rfl) ho,r⟩
 · refine (I.hok b u e).stay (fun c v hc q=>k c v ?_ q) (fun _ q=>q) fun _ _ q=>q
   rcases hc with z | z
   · rw [z];exact nit b u e
   · exact nit c _ z
theorem Zco {prog:Program}{w:World}{A:Around}(hh:A.handled=none)(it:Addr)(x:Str)(t:Tok) :
   Draws prog w A it [it] x.cps.size (fun i v=>∃ c u,x.cps[i]?=some c∧v=.str ⟨#[c]⟩ u) (fun i h=>h.IsStrIter it (strIterType x) x t i):=by
 cases ha:x.cps.all (· < 128)
 · have e:strIterType x="str_iterator":=by simp [strIterType,ha]
   rw [e];exact Draws.strWide hh it x t
 · have e:strIterType x="str_ascii_iterator":=by simp [strIterType,ha]
   rw [e];exact Draws.strAscii hh it x t
def Ite (x:Str):It:=⟨fun i _=>i < x.cps.size,fun i H v H'=>∃ t c,H t=none∧x.cps[i]?=some c∧v=.ref t∧H'=upd H t (.tup [.int ((i:Int)+1),.str ⟨#[c]⟩]),fun i _=>x.cps.size≤i⟩
theorem Zgn {P:Program}{w:World}{K:KF}{elts:List Expr}{x1:Nat}{tp:Pos}(x:Str)(t:Tok)(e it:Addr)(hne:e≠it) :
   UR P w K (.Tuple elts x1 tp) (Ite x) [e,it] e (fun i h=>(∃ old,IsEnum h e it ((i:Int)+1) old)∧h.IsStrIter it (strIterType x) x t i∧i≤x.cps.size) where
 mem:=by simp
 obj:=fun i h st b hb=>by
   obtain ⟨⟨old,he⟩,⟨o,ho,c,d⟩,_⟩:=st
   rcases List.mem_cons.mp hb with q | hb
   · rw [q];exact ⟨_,he,fun v z=>by cases z⟩
   · rw [List.mem_singleton.mp hb];exact ⟨o,ho,fun v z=>by rw [d] at z;cases z⟩
 keep:=fun i h h' st k=>by
   obtain ⟨⟨old,he⟩,⟨o,ho,r⟩,hi⟩:=st
   exact ⟨⟨old,k e (by simp) _ he⟩,⟨o,k it (by simp) o ho,r⟩,hi⟩
 item:=by
   intro X hP hw hK hc i pins s σ H E I hf st hg
   subst hP hw hK
   obtain ⟨⟨old,he⟩,hs,hi⟩:=st
   have hlt:i < x.cps.size:=hg
   have D:=ZaZ (Zco (prog:=X.prog) (w:=X.w) (A:=X.A.in1) (I.ok.hd hc) it x t)
   refine wpAny_pyNext_enum_itemD (i:=i+1) D (show IsEnum s.heap e it ((i+1:Nat):Int) old from he) ⟨i,rfl,hs⟩ (by omega) hne (by simpa using hne) fun v h' tk hP hOut hst hT hsz hk=>?_
   obtain ⟨j,ej,c,u,hcc,rfl⟩:=hP
   have ej':i=j:=by omega
   subst ej'
   obtain ⟨j,ej,hst⟩:=hst
   have ej':i+1=j:=by omega
   subst ej'
   have hel:e < s.heap.objs.size:=Heap.lt_size he
   have hil:it < s.heap.objs.size:=by obtain ⟨o,ho,_⟩:=hs;exact Heap.lt_size ho
   refine ⟨_,rfl,wpAny_letOwnedTupleGo_enum hOut fun h2 he2 hs2=>?_⟩
   generalize hO:({ cls:=.type "tuple",data:=.seq #[.int ((i+1:Nat):Int) tk,.str ⟨#[c]⟩ u] }:Obj)=O at hT
   have I1:Inv X pins σ (upd H s.heap.objs.size (.tup [.int ((i:Int)+1),.str ⟨#[c]⟩])) { s with heap:=s.heap.push O,toks:=tk+1 }:=by
     refine I.laid (t':=tk+1) (fun b o y=>Heap.get?_push_of_some _ y) (Nat.le_refl _) (show ObjOk X.prog X.w _ _ _ (.tup _) from ⟨by show 2≤sizeLine;decide,[.int ((i+1:Nat):Int) tk,.str ⟨#[c]⟩ u],.cons ⟨tk,rfl⟩ (.cons ⟨u,rfl⟩ .nil),?_⟩)
     rw [← hO];exact IsTup.new _ _
   have hfree:=I.hok.fresh (Nat.le_refl s.heap.objs.size)
   have hf2:∀ b∈[e,it],Xc X pins (upd H s.heap.objs.size (.tup [.int ((i:Int)+1),.str ⟨#[c]⟩])) b:=fun b hb=>by
     obtain ⟨f0,f1⟩:=hf b hb
     have hb':b≠s.heap.objs.size:=by
       rcases List.mem_cons.mp hb with q | hb
       · rw [q];exact Nat.ne_of_lt hel
       · rw [List.mem_singleton.mp hb];exact Nat.ne_of_lt hil
     exact ⟨by rw [Zh hb'];exact f0,f1⟩
   have I2:Inv X pins σ (upd H s.heap.objs.size (.tup [.int ((i:Int)+1),.str ⟨#[c]⟩])) { s with heap:=h2,toks:=tk+1 }:=by
     refine I1.turned2 (t':=tk+1) (h':=h2) (fun b o hb y=>?_) hf2
     have hbe:b≠e:=fun q=>hb (by simp [q])
     have hbi:b≠it:=fun q=>hb (by simp [q])
     rw [hs2.2 b hbe]
     rcases Heap.get?_push_cases y with ⟨q1,q2⟩ | y
     · rw [q1,q2];exact hT
     · exact hk b o hbe hbi y
   refine ⟨.ref s.heap.objs.size,_,I2,rfl,⟨s.heap.objs.size,c,hfree,hcc,rfl,rfl⟩,⟨⟨_,he2⟩,?_,hlt⟩,fun b hb=>(hf2 b hb).1⟩
   obtain ⟨o,ho,r⟩:=hst
   exact ⟨o,by rw [hs2.2 it hne.symm];exact ho,r⟩
 done:=by
   intro X hP hw hK hc i pins s σ H E I hf st hg
   subst hP hw hK
   obtain ⟨⟨old,he⟩,hs,hi⟩:=st
   have hle:x.cps.size≤i:=hg
   have D:=ZaZ (Zco (prog:=X.prog) (w:=X.w) (A:=X.A.in1) (I.ok.hd hc) it x t)
   have ei:i=x.cps.size:=by omega
   rw [ei] at hs
   obtain ⟨f0,f1,f2,f3,f4,f5⟩:=hf it (by simp)
   exact wpAny_pyNext_enum_endD D he ⟨_,rfl,hs⟩ fun h' eb=>⟨rfl,I.turned (t':=s.toks) (fun b o hb y=>eb b o hb y) f0 f1 f3 f4 f5⟩
 self:=fun _ _ _ _ _ st h=>by
   obtain ⟨⟨old,he⟩,_⟩:=st
   exact wpAny_pyIter_enum he h
theorem Zas {M:Model}{A:Around}{E:Zv}{s:Shared}{pos:Pos}{T:String}{args:List (Bool×Sem Value)}{kws:List (Option Str×Sem Value)}{Q:Zv}
   (h1:args.any (·.1)=false) (h2:kws.any (·.1.isNone)=false)
   (h:wpAny M A (evalArgs (.type T) true args kws) (fun a s₁=>wpAny M A (call (.type T) a.pos a.kw) Q E s₁) E s):wpAny M A (callWith pos (.type T) [] args kws) Q E s:=by
 unfold callWith
 refine wpAny_bind (wpAny_holding (Zr h fun a s₁ q=>wpAny_bind (wpAny_standAt ?_)))
 simp only [h1,h2,Bool.or_false]
 refine wpAny_bind (wpAny_pure (wpAny_bind (Zr q fun r s₂ hr=>?_)))
 exact wpAny_bind (wpAny_holding (wpAny_point (wpAny_pure hr)))
def ZkZ (tl:TE):TI:=fun σ H R=>tl σ H fun v H1=>∃ x,[v]=[V.str x]∧R (Ite x) H1
section
variable {X:Cx}
theorem Ziq {l:Expr}{tl:TE}{elts:List Expr}{x1 j:Nat}{tp p pos kp kpos:Pos}(hg:Gl X "enumerate")(hm:X.mg "enumerate"=none)(hl:PE X l tl)
   (he:starEach [l] X.env=[(false,eval l X.env)]:=by rfl):PI X (.Tuple elts x1 tp) (.Call (.Name "enumerate" p) [l] [⟨some "start",.Constant (.int 1) j kp,kpos⟩] pos) (ZkZ tl):=by
 intro pins s σ H R I h
 have ha:PA X [l] (YX tl Wr):=Ys hl Za he
 have hk:PK X [⟨some "start",.Constant (.int 1) j kp,kpos⟩] (YX (tC (.int 1)) Wr):=ZjZ Zd Zmh
 refine wpAny_Call_Name_kw (WM I hg hm boot_enumerate (Zas (by rw [he];rfl) rfl (evalArgs_kw2 rfl ?_ he)))
 refine Zr (ha pos pins s σ H (fun vs H1=>∃ x,vs=[V.str x]∧R (Ite x) H1) I h) fun us s1 ⟨vs,H1,I1,r1,x,e,q⟩=>?_
 subst e
 obtain ⟨u,rfl,t,rfl⟩:=Yj r1
 refine Zr (hk pos pins s1 σ H1 (fun vs H2=>vs=[V.int 1]∧H2=H1) I1 ⟨rfl,rfl⟩) fun ws s2 ⟨zs,H2,I2,r2,e1,e2⟩=>?_
 subst e1 e2
 obtain ⟨u',rfl,t',rfl⟩:=Yj r2
 refine Zbf fun h' hE hit hsz hkk=>wpAny_pyIter_enum hE ?_
 refine ⟨s2.heap.objs.size+1,[s2.heap.objs.size+1,s2.heap.objs.size],_,_,H2,rfl,I2.kept (t':=s2.toks) hkk,Zgn x t _ _ (Nat.succ_ne_self _),⟨⟨_,hE⟩,hit,Nat.zero_le _⟩,fun b hb=>?_,q⟩
 rcases List.mem_cons.mp hb with z | hb
 · rw [z];exact I2.fpOk (Nat.le_succ _) (I2.hok.fresh (Nat.le_succ _))
 · rw [List.mem_singleton.mp hb];exact I2.fpOk (Nat.le_refl _) (I2.hok.fresh (Nat.le_refl _))
end
theorem ZhR {x:Str}{g:TG}{tb:TS}{D:XY}{σ:St}{H:Hp}(Pv:Nat→St→Hp→Prop)(h0:Pv 0 σ H)
   (hs:∀ i c t σ H,x.cps[i]?=some c→H t=none→Pv i σ H→g (.ref t) σ (upd H t (.tup [.int ((i:Int)+1),.str ⟨#[c]⟩])) fun σ2 H2=>tb { D with nx:=Pv (i+1),ct:=Pv (i+1),bk:=D.nx } σ2 H2) (hd:∀ σ H,Pv x.cps.size σ H→D.nx σ H) :
   ∃ W:Nat→Nat→St→Hp→Prop,(∃ m,W 0 m σ H)∧∀ i m σ H,W i m σ H →
     ((Ite x).stop i H∧D.nx σ H)∨((Ite x).go i H∧∃ N:St→Hp→Prop,(∀ σ' H',N σ' H'→∃ m',m' < m∧W (i+1) m' σ' H')∧∀ y H',(Ite x).yld i H y H'→g y σ H' fun σ2 H2=>tb { D with nx:=N,ct:=N,bk:=D.nx } σ2 H2):=by
 refine ⟨fun i m σ H=>m=x.cps.size - i∧i≤x.cps.size∧Pv i σ H,⟨x.cps.size,by simp,Nat.zero_le _,h0⟩,?_⟩
 rintro i m σ H ⟨rfl,hi,p⟩
 by_cases hlt:i < x.cps.size
 · refine .inr ⟨hlt,Pv (i+1),fun σ' H' p'=>⟨x.cps.size - (i+1),by omega,rfl,hlt,p'⟩,fun y H' z=>?_⟩
   obtain ⟨t,c,e1,e2,e3,e4⟩:=z
   subst e3 e4
   exact hs i c t σ _ e2 e1 p
 · have e:i=x.cps.size:=by omega
   subst e
   exact .inl ⟨Nat.le_refl _,hd σ H p⟩
end L2
set_option maxHeartbeats 2000000
namespace L2
open PySem PySem.W PySem.Spec PyProof.Rows
def Uj (ks:List Str)(vs out:List Value):Prop:=∃ ps:List (Str×Value),ps.Perm (ks.zip vs)∧out=ps.map (·.2)∧ps.Pairwise fun p q=>¬ (q.1.cps.toList < p.1.cps.toList)
theorem ZdQ:∀{keys:List Value}{ks:List Str}(_:StrsAre keys ks)(vs:List Value),(keys.zip vs).map (fun p=>(strOf p.1,p.2))=ks.zip vs
 | _,_,.nil,vs=>rfl
 | _,_,.cons x t h,[]=>rfl
 | _,_,.cons x t h,v::vs=>by
   rw [List.zip_cons_cons,List.map_cons,ZdQ h vs];rfl
theorem ZiH {keys:Array Value}{vs:List Value}{ks:List Str}(hk:StrsAre keys.toList ks){xs:Array Keyed}(hp:xs.Perm (keys.zip vs.toArray))(hs:SortedToK strKind xs xs.size):Uj ks vs (xs.map (·.2)).toList:=by
 have hl:xs.toList.Perm (keys.toList.zip vs):=by
   have:=Array.perm_iff_toList_perm.mp hp
   rwa [ksk_zip] at this
 refine ⟨xs.toList.map fun p=>(strOf p.1,p.2),?_,?_,?_⟩
 · have:=hl.map fun p=>(strOf p.1,p.2)
   rwa [ZdQ hk] at this
 · rw [Array.toList_map,List.map_map];rfl
 · rw [List.pairwise_map,List.pairwise_iff_getElem]
   intro i j hi hj hij
   have hi':i < xs.size:=by simpa using hi
   have hj':j < xs.size:=by simpa using hj
   have str_at:∀ m (hm:m < xs.size),KK strKind xs m=(strOf xs[m].1).cps.toList:=fun m hm=>by
     have hmem:xs[m]∈keys.toList.zip vs:=hl.mem_iff.mp (by simp)
     have h1:=(List.of_mem_zip (show (xs[m].1,xs[m].2)∈_ from hmem)).1
     obtain ⟨x,t,e⟩:=hk.all _ h1
     rw [KK_str hm (x:=x) (t:=t) (q:=xs[m].2) (by rw [← e])]
     rw [e];rfl
   have h:=hs i j (Nat.le_of_lt hij) hj'
   rw [str_at i hi',str_at j hj'] at h
   simpa [KeyOrd.kle] using h
theorem Zgu {keys:Array Value}{vs:List Value}{ks:List Str}(hk:StrsAre keys.toList ks):KeysOf strKind (keys.zip vs.toArray):=by
 intro p hp
 rw [ksk_zip] at hp
 obtain ⟨x,t,e⟩:=hk.all _ (List.of_mem_zip (show (p.1,p.2)∈_ from hp)).1
 exact ⟨x.cps.toList,by rw [e]⟩
theorem Zhd {keys:Array Value}{ks:List Str}(hk:StrsAre keys.toList ks)(h2:2≤keys.size):keyKind' keys=pure oneType':=by
 obtain ⟨l⟩:=keys
 match l,hk,h2 with
 | [],_,h2=>simp at h2
 | [_],_,h2=>simp at h2
 | v₁::v₂::r,hk,_=>exact keyKind_strs hk
theorem ZcB {x:Str}{t:Tok}:∀{vs:List Value}{ss:List Str},StrsAre vs ss→StrsAre (vs++[.str x t]) (ss++[x])
 | _,_,.nil=>.cons x t .nil
 | _,_,.cons y u h=>.cons y u (ZcB h)
section
variable {prog:Program}{w:World}{A:Around}{E:Zv}{s:Shared}{a kS:Addr}{vs:List Value}{ks:List Str}{keys:Array Value}{e e1:Nat}{P:PySem.Fin→Shared→Prop}
theorem ZaX {st:SortSt}(nk:s.heap.get? kS=some (seqObj "list" keys e))(na:s.heap.get? a=some (seqObj "list" #[] e1))(hka:kS≠a)(hk:StrsAre keys.toList ks)(hlen:ks.length=vs.length)(h64:vs.length < 64)
   (hp:(arrOf st).Perm (keys.zip vs.toArray)) (hs:SortedToK strKind (arrOf st) (arrOf st).size) (hfl:failedOf st=none)
   (h:∀ h' tk out c,(∀ b o,b≠a→b≠kS→s.heap.get? b=some o→h'.get? b=some o)→h'.get? a=some (seqObj "list" out c)→Uj ks vs out.toList→P (.done (.ret .none)) { s with heap:=h',toks:=tk }) :
   wpAny (model prog w) A (ksk_tail a false e1 (.ref kS) st) P E s:=by
 have hsz:keys.size=vs.length:=by have:=hk.length;rw [Array.length_toList] at this;omega
 have hsz2:(arrOf st).size=vs.length:=by rw [hp.size_eq,Array.size_zip,hsz,List.size_toArray,Nat.min_self]
 have s1:=Heap.SameBut.update s.heap kS (Obj.mapSeq fun _=>(#[]:Array Value))
 have na1:(s.heap.update kS (Obj.mapSeq fun _=>(#[]:Array Value))).get? a=some (seqObj "list" #[] e1):=(s1.2 a hka.symm).trans na
 have s2:=Heap.SameBut.update (s.heap.update kS (Obj.mapSeq fun _=>(#[]:Array Value))) a (Obj.mapSeq fun _=>(arrOf st).map (·.2))
 obtain ⟨c2,hc2⟩:∃ c2,((s.heap.update kS (Obj.mapSeq fun _=>(#[]:Array Value))).update a (Obj.mapSeq fun _=>(arrOf st).map (·.2))).get? a=some (seqObj "list" ((arrOf st).map (·.2)) c2):=⟨_,get?_update_seq na1 fun _=>(arrOf st).map (·.2)⟩
 unfold ksk_tail
 try dsimp only
 refine wpAny_bind (listUpdate_at nk rfl ?_ (by rw [hsz,sizeLine_eq];omega) (Nat.zero_le _))
 refine wpAny_bind (wpAny_letGo (wpAny_bind (seqEpoch_at na1 rfl ?_)))
 refine wpAny_bind (listUpdate_at na1 rfl ?_ (Nat.zero_le _) (Nat.le_trans (Nat.le_of_eq (show ((arrOf st).map (·.2)).size=vs.length by rw [Array.size_map];exact hsz2)) (by rw [sizeLine_eq];omega)))
 rw [hfl]
 simp only [bne_self_eq_false,Bool.false_eq_true,if_false]
 exact wpAny_pure (h _ _ _ c2 (fun b o hb1 hb2 y=>(s2.2 b hb1).trans ((s1.2 b hb2).trans y)) hc2 (ZiH hk hp hs))
theorem Zhu (nk:s.heap.get? kS=some (seqObj "list" keys e))(na:s.heap.get? a=some (seqObj "list" #[] e1))(hka:kS≠a)(hk:StrsAre keys.toList ks)(hlen:ks.length=vs.length)(h64:vs.length < 64)
   (h:∀ h' tk out c,(∀ b o,b≠a→b≠kS→s.heap.get? b=some o→h'.get? b=some o)→h'.get? a=some (seqObj "list" out c)→Uj ks vs out.toList→P (.done (.ret .none)) { s with heap:=h',toks:=tk }) :
   wpAny (model prog w) A (ksk_end a false vs.toArray e1 (.ref kS) keys) P E s:=by
 have hsz:keys.size=vs.length:=by have:=hk.length;rw [Array.length_toList] at this;omega
 have hzs:(keys.zip vs.toArray).size=vs.length:=by rw [Array.size_zip,hsz,List.size_toArray,Nat.min_self]
 unfold ksk_end
 simp only [Bool.false_eq_true,if_false]
 by_cases h2:vs.toArray.size < 2
 · rw [if_pos h2,if_pos h2]
   refine wpAny_bind (wpAny_pure ?_)
   rw [StateT.run_pure]
   refine wpAny_bind (wpAny_pure ?_)
   try dsimp only
   refine ZaX (st:=SortSt.mk' general' (keys.zip vs.toArray) #[] 7 none) nk na hka hk hlen h64 (Array.Perm.refl _) ?_ rfl h
   intro i j hij hj
   have hj2:j < (keys.zip vs.toArray).size:=hj
   rw [hzs] at hj2
   rw [List.size_toArray] at h2
   have:i=j:=by omega
   subst this
   exact KeyOrd.kle_refl _
 · rw [if_neg h2,if_neg h2]
   rw [List.size_toArray] at h2
   rw [Zhd hk (by rw [hsz];omega)]
   refine wpAny_bind (wpAny_pure (wpAny_bind (wpAny_mono (wpS_sortRunsK (κ:=strKind) strKind_oneLt (a₀:=keys.zip vs.toArray) (st:=SortSt.mk' oneType' (keys.zip vs.toArray) #[] 7 none)
     (Q:=fun _ st'=>(arrOf st').Perm (keys.zip vs.toArray)∧failedOf st'=none∧SortedToK strKind (arrOf st') (keys.zip vs.toArray).size)
     (Zgu hk) ⟨Array.Perm.refl _,rfl,rfl,rfl⟩ (by rw [hzs];omega) (by rw [hzs];exact h64) fun st' a1 a2 a3=>⟨a1,a2,a3⟩) ?_ fun _ _ y=>y)))
   rintro ⟨⟨⟩,st'⟩ s' ⟨rfl,hp,hf,hs⟩
   try dsimp only
   exact ZaX nk na hka hk hlen h64 hp (by rw [hp.size_eq];exact hs) hf h
def Zcb (prog:Program)(w:World)(A:Around)(s:Shared)(a:Addr)(f:Value)(vs:List Value)(ks:List Str):Prop :=
 ∀ (i:Nat) (v:Value) (k:Str),vs[i]?=some v→ks[i]?=some k→∀ (h:Heap) (tk:Nat),(∀ b o,b≠a→s.heap.get? b=some o→h.get? b=some o)→s.heap.objs.size≤h.objs.size→∀ Q':Value→Shared→Prop,
   (∀ h' tk' t,(∀ b o,h.get? b=some o→h'.get? b=some o)→h.objs.size≤h'.objs.size→Q' (.str k t) { s with heap:=h',toks:=tk' })→wpAny (model prog w) A (call f [v]) Q' (fun _ _=>False) { s with heap:=h,toks:=tk }
theorem Zfx {f:Value}{s0:Shared}(hs0:∃ tk,s={ s0 with heap:=s.heap,toks:=tk })(k0:∀ b o,b≠a→s0.heap.get? b=some o→s.heap.get? b=some o)(z0:s0.heap.objs.size≤s.heap.objs.size)(hkn:s0.heap.objs.size≤kS)
   (nk:s.heap.get? kS=some (seqObj "list" #[] 0)) (na:s.heap.get? a=some (seqObj "list" #[] e1)) (hka:kS≠a) (hlen:ks.length=vs.length) (h64:vs.length < 64) (turn:Zcb prog w A s0 a f vs ks)
   (h:∀ h' tk out c,(∀ b o,b≠a→s0.heap.get? b=some o→h'.get? b=some o)→h'.get? a=some (seqObj "list" out c)→Uj ks vs out.toList→P (.done (.ret .none)) { s0 with heap:=h',toks:=tk }) :
   wpAny (model prog w) A (ksk_rest a f false vs.toArray e1 (.ref kS)) P E s:=by
 obtain ⟨tk0,hs0⟩:=hs0
 unfold ksk_rest
 refine wpAny_bind (wpAny_rule ?_)
 first
   | rw [List.forIn_toArray]
   | (rw [← Array.forIn_toList];simp only [List.toList_toArray])
 refine wpAny_bind (ksk_fold (fun i s'=>∃ h' tk kA c,s'={ s0 with heap:=h',toks:=tk }∧(∀ b o,b≠a→s0.heap.get? b=some o→h'.get? b=some o)∧s0.heap.objs.size≤h'.objs.size∧h'.get? kS=some (seqObj "list" kA c)∧h'.get? a=some (seqObj "list" #[] e1)∧StrsAre kA.toList (ks.take i)) vs 0 s
   ⟨s.heap,tk0,#[],0,hs0,k0,z0,nk,na,by simpa using StrsAre.nil⟩ ?step ?done)
 case step =>
   rintro j x s' hx ⟨h',tk,kA,c,rfl,k1,z1,nk1,na1,hk⟩
   simp only [Nat.zero_add] at hk ⊢
   have hj:j < vs.length:=(List.getElem?_eq_some_iff.mp hx).1
   obtain ⟨k,hkj⟩:∃ k,ks[j]?=some k:=⟨_,List.getElem?_eq_getElem (by omega)⟩
   have hz:kA.size≤vs.length:=by
     have h1:=hk.length
     rw [Array.length_toList,List.length_take] at h1
     omega
   refine wpAny_bind (wpAny_attempt (wpAny_mono (turn j x k hx hkj h' tk k1 z1 (fun v s''=>∃ g tk2 t2,v=.str k t2∧s''={ s0 with heap:=g,toks:=tk2 }∧(∀ b o,h'.get? b=some o→g.get? b=some o)∧h'.objs.size≤g.objs.size) (fun g tk2 t2 q z=>⟨g,tk2,t2,rfl,rfl,q,z⟩)) (fun v s'' he=>?_) fun _ _ hF=>hF.elim))
   obtain ⟨g,tk2,t2,rfl,rfl,k2,z2⟩:=he
   try dsimp only
   have nk2:=k2 _ _ nk1
   have na2:=k2 _ _ na1
   have s1:=Heap.SameBut.update g kS (Obj.mapSeq (·.push (.str k t2)))
   obtain ⟨c2,hc2⟩:∃ c2,(g.update kS (Obj.mapSeq (·.push (.str k t2)))).get? kS=some (seqObj "list" (kA.push (.str k t2)) c2):=⟨_,get?_update_seq nk2 (·.push (.str k t2))⟩
   have ek:ks.take (j+1)=ks.take j++[k]:=by rw [List.take_add_one,hkj];simp
   have ea:(kA.push (Value.str k t2)).toList=kA.toList++[Value.str k t2]:=by simp
   refine wpAny_bind (listUpdate_at nk2 rfl ?_ (by rw [sizeLine_eq];omega) (Nat.le_trans (Nat.le_of_eq (Array.size_push ..)) (by rw [sizeLine_eq];omega)))
   refine wpAny_pure ⟨rfl,_,_,kA.push (.str k t2),c2,rfl,fun b o hb y=>?_,Nat.le_trans (Nat.le_trans z1 z2) (Nat.le_of_eq (Heap.size_update ..).symm),hc2,(s1.2 a hka.symm).trans na2,by rw [ea,ek];exact ZcB hk⟩
   exact (s1.2 b (fun z=>by rw [z] at y;exact absurd (Heap.lt_size y) (Nat.not_lt.mpr hkn))).trans (k2 _ _ (k1 b o hb y))
 case done =>
   rintro s' ⟨h',tk,kA,c,rfl,k1,z1,nk1,na1,hk⟩
   have hk':StrsAre kA.toList ks:=by
     have e3:ks.take (0+vs.length)=ks:=List.take_of_length_le (by omega)
     rw [e3] at hk
     exact hk
   try dsimp only
   refine wpAny_bind (listItems_at nk1 rfl ?_)
   refine Zhu nk1 na1 hka hk' hlen h64 fun h3 tk3 out c3 k3 a3 o3=>h h3 tk3 out c3 (fun b o hb y=>k3 b o hb (fun z=>?_) (k1 b o hb y)) a3 o3
   rw [z] at y
   exact absurd (Heap.lt_size y) (Nat.not_lt.mpr hkn)
theorem ZfP {f:Value}{n:Nat}(ho:s.heap.get? a=some (seqObj "list" vs.toArray n))(hlen:ks.length=vs.length)(h64:vs.length < 64)(turn:Zcb prog w A s a f vs ks)
   (h:∀ h' tk out c,(∀ b o,b≠a→s.heap.get? b=some o→h'.get? b=some o)→h'.get? a=some (seqObj "list" out c)→Uj ks vs out.toList→P (.done (.ret .none)) { s with heap:=h',toks:=tk }) :
   wpAny (model prog w) A (ksk_tree a f false) P E s:=by
 have ha:a < s.heap.objs.size:=Heap.lt_size ho
 have s1:=Heap.SameBut.update s.heap a (Obj.mapSeq fun _=>(#[]:Array Value))
 obtain ⟨e1,ho1⟩:∃ e1,(s.heap.update a (Obj.mapSeq fun _=>(#[]:Array Value))).get? a=some (seqObj "list" #[] e1):=⟨_,get?_update_seq ho fun _=>#[]⟩
 have hkS:((s.heap.update a (Obj.mapSeq fun _=>(#[]:Array Value))).push (seqObj "tuple" vs.toArray 0)).objs.size=s.heap.objs.size+1:=by rw [size_push',Heap.size_update]
 unfold ksk_tree
 refine wpAny_bind (listItems_at ho rfl ?_)
 refine wpAny_bind (listUpdate_at ho rfl ?_ (by rw [List.size_toArray,sizeLine_eq];omega) (Nat.zero_le _))
 refine wpAny_bind (seqEpoch_at ho1 rfl (wpAny_bind (wpAny_newTuple ?_ (by show vs.length≤_;rw [sizeLine_eq];omega))))
 refine wpAny_bind (wpAny_newList ?_ (Nat.zero_le _))
 refine wpAny_holding ?_
 refine Zfx (s0:=s) (s:={ s with heap:=((s.heap.update a (Obj.mapSeq fun _=>(#[]:Array Value))).push (seqObj "tuple" vs.toArray 0)).push (seqObj "list" #[] 0) }) (kS:=((s.heap.update a (Obj.mapSeq fun _=>(#[]:Array Value))).push (seqObj "tuple" vs.toArray 0)).objs.size)
   ⟨s.toks,rfl⟩ (fun b o hb y=>Heap.get?_push_of_some _ (Heap.get?_push_of_some _ ((s1.2 b hb).trans y))) ?_ (by rw [hkS];exact Nat.le_succ _) (Heap.get?_push_size _ rfl) (Heap.get?_push_of_some _ (Heap.get?_push_of_some _ ho1)) (by rw [hkS];exact Nat.ne_of_gt (Nat.lt_succ_of_lt ha)) hlen h64 turn h
 show s.heap.objs.size≤(((s.heap.update a _).push _).push _).objs.size
 rw [size_push',hkS];omega
theorem Zkg {f:Value}{l:Addr}{Q:Zv}(hl:s.heap.IsList l vs.toArray)(hlen:ks.length=vs.length)(h64:vs.length < 64)(ht:∀ x,Builtin.«list.sort» ⟨[.ref x],[(Str.ofString "key",f)]⟩=ksk_tree x f false)
   (turn:∀ (h1:Heap) (tk1:Nat),(∀ b o,s.heap.get? b=some o→h1.get? b=some o)→s.heap.objs.size≤h1.objs.size→Zcb prog w A.in1.in1 { s with heap:=h1,toks:=tk1 } (s.heap.objs.size+1) f vs ks)
   (h:∀ h' tk out c,(∀ b o,s.heap.get? b=some o→h'.get? b=some o)→h'.get? (s.heap.objs.size+1)=some (seqObj "list" out c)→Uj ks vs out.toList→Q (.ref (s.heap.objs.size+1)) { s with heap:=h',toks:=tk }) :
   wpAny (model prog w) A (call (.builtin "sorted") [.ref l] [(Str.ofString "key",f)]) Q E s:=by
 refine call_function_entry_kw kind_sorted plain_sorted entry_sorted (ksk_s1 _ _) ?_
 unfold Builtin.«sorted»
 refine wpAny_bind (m:=checkCount "sorted" 1 1 _) (wpAny_pure ?_)
 refine wpAny_bind (collect_list hl ?_ (by rw [sizeLine_eq];omega))
 refine wpAny_bind (wpAny_newList ?_ (by rw [sizeLine_eq];omega))
 generalize hg:(s.heap.push (seqObj "list" #[] 0)).update s.heap.objs.size (Obj.mapSeq (·++vs.toArray))=g
 have hsz:g.objs.size=s.heap.objs.size+1:=by rw [← hg,Heap.size_update,size_push']
 have kg:∀ b o,s.heap.get? b=some o→(g.push (seqObj "list" vs.toArray 0)).get? b=some o:=fun b o q=>by
   have hlt:b < s.heap.objs.size:=Heap.lt_size q
   rw [Heap.get?_push_ne _ _ _ (by rw [hsz];exact Nat.ne_of_lt (Nat.lt_succ_of_lt hlt)),← hg,Heap.get?_update_ne _ _ _ _ (Nat.ne_of_lt hlt),Heap.get?_push_ne _ _ _ (Nat.ne_of_lt hlt)]
   exact q
 have hoL:(g.push (seqObj "list" vs.toArray 0)).get? (s.heap.objs.size+1)=some (seqObj "list" vs.toArray 0):=by rw [← hsz];exact Heap.get?_push_size _ rfl
 show wpAny _ _ _ _ _ { s with heap:=g.push (seqObj "list" vs.toArray 0) }
 rw [hsz]
 refine wpAny_bind (wpAny_holding (wpAny_call_entry_kw slot_list_sort ⟨_,hoL,rfl⟩ entry_list_sort ?body (ksk_l1 _ _)))
 show wpAny (model prog w) A.in1.in1 (Builtin.«list.sort» ⟨[.ref (s.heap.objs.size+1)],[(Str.ofString "key",f)]⟩) _ _ _
 rw [ht]
 have hz2:s.heap.objs.size≤(g.push (seqObj "list" vs.toArray 0)).objs.size:=by rw [size_push',hsz];omega
 refine ZfP (s:={ s with heap:=g.push (seqObj "list" vs.toArray 0) }) hoL hlen h64 (turn (g.push (seqObj "list" vs.toArray 0)) s.toks kg hz2) fun h' tk out c k3 a3 o3=>⟨_,rfl,?_⟩
 exact wpAny_pure ⟨_,rfl,h h' tk out c (fun b o y=>k3 b o (Nat.ne_of_lt (Nat.lt_succ_of_lt (Heap.lt_size y))) (kg b o y)) a3 o3⟩
end
end L2
set_option maxHeartbeats 2000000
namespace L2
open PySem PySem.W PySem.Spec PyProof.Rows
def Um (base:Heap)(mg:Str→Option Value):Prop:=∃ bm ob,mg "__builtins__"=some (.ref bm)∧bm≠builtinsNs∧base.get? bm=some ob∧ob.cls=.type "module"∧ob.dict=some builtinsNs∧ob.data=.plain
def ZfQ (ts:List Addr)(H:Hp):Prop:=∀ b,H b=none∨(∃ o xs,H b=some (.frz o (.lst xs)))∨(H b=some (.tbl #[])∧b∈ts)
theorem ZgI {P:Program}{w:World}{K:KF}{mg mb:Str→Option Value}{CX:Ve}{k:Nat}{fa a:Addr}{fd:FuncData}{x:Str}{sp:Sp}{s₁:Shared}{vs:List Value}{ns:List Int}{ts:List Addr}
   (KX:K.In s₁.heap) (hns:s₁.heap.Ns mainGlobals mg) (hb:s₁.heap.Ns builtinsNs mb) (hbb:∀ x:Str,x≠"__name__"→mb x=bootBuiltins x) (hlim:s₁.heap.NoLimit) (hg:s₁.gens=#[]) (hbm:Um s₁.heap mg)
   (ha:s₁.heap.get? a=some { cls:=.type "list",data:=.seq vs.toArray }) (hi:IntsAre vs ns) (hl:ns.length≤sizeLine) (hr:Room k callerA)
   (hts:∀ b∈ts,s₁.heap.get? b=some (tabObj #[])∧K.lookup b=none∧∃ c,CodeHd s₁.heap c b)
   (F:∀ base:Heap,K.In base→base.Ns mainGlobals mg→Um base mg→FnOk P w K mg base CX k fa fd [x] sp) (hbind:∀ (s:Shared) (u:Value),BindsTo s fd ⟨[u],[]⟩ [(x,u)])
   (hsp:∀ H:Hp,ZfQ ts H→SqL K H a (ns.map V.int)→(∀ b∈ts,H b=some (.tbl #[]))→sp [.ref a] H (fun v _=>v=.bl true) fun _ _ _=>False)
   (hCX:∀ H e s',CX [] H s₁ (fun _ _ _=>False) e s'→False) :
   codeAny (model P w) callerA (.call (.ref fa) ⟨[.ref a],[]⟩) (fun r s'=>r=.ok (.ret (.bool true))∧OldK s₁.heap s'.heap∧s'.os=s₁.os∧AllBare s'.gens) s₁:=by
 have rv:=Zcl hi
 have lenV:=hi.length
 have nta:a ∉ ts:=fun z=>by
   have e:=(hts a z).1
   rw [ha] at e;cases e
 have core : ∀ H:Hp,ZfQ ts H→SqL K H a (ns.map V.int)→HOk P w H s₁.heap→(∀ b∈ts,H b=some (.tbl #[]))→(∀ b,H b≠none→b=a∨b∈ts)→(∀ b,H b≠none→K.lookup b=none) →
     codeAny (model P w) callerA (.call (.ref fa) ⟨[.ref a],[]⟩) (fun r s'=>r=.ok (.ret (.bool true))∧OldK s₁.heap s'.heap∧s'.os=s₁.os∧AllBare s'.gens) s₁:=by
   intro H hO hS hok hT hA hK
   have base_of:∀ {b:Addr} {o:Obj},s₁.heap.get? b=some o→H b=none→(Ug s₁.heap H).get? b=some o:=fun y n=>ZiM y n
   have free:∀ {b:Addr} {o:Obj},s₁.heap.get? b=some o→(∀ its n,o.data≠.seq its n)→(∀ fs,o.data≠.fields fs)→H b=none:=fun {b o} y d1 d2=>by
     cases q:H b with
     | none=>rfl
     | some u =>
       rcases hA b (by rw [q];simp) with z | z
       · subst z
         rw [ha] at y;cases y
         exact absurd rfl (d1 _ _)
       · rw [(hts b z).1] at y;cases y
         exact absurd rfl (d2 _)
   have nsK:∀ {b:Addr} {m:Str→Option Value},s₁.heap.Ns b m→(Ug s₁.heap H).Ns b m:=fun {b m} ⟨o,es,ep,y,d,r⟩=>⟨o,es,ep,base_of y (free y (fun its n z=>by rw [d] at z;cases z) fun fs z=>by rw [d] at z;cases z),d,r⟩
   have hKb:K.In (Ug s₁.heap H):=fun b o y=>base_of (KX b o y) (by
     cases q:H b with
     | none=>rfl
     | some u=>rw [hK b (by rw [q];simp)] at y;cases y)
   have hBm:Um (Ug s₁.heap H) mg:=by
     obtain ⟨bm,ob,h1,h2,h3,h4,h5,h6⟩:=hbm
     exact ⟨bm,ob,h1,h2,base_of h3 (free h3 (fun its n z=>by rw [h6] at z;cases z) fun fs z=>by rw [h6] at z;cases z),h4,h5,h6⟩
   have hM:Mod K mg (Ug s₁.heap H):=⟨hKb,nsK hns,⟨mb,nsK hb,hbb⟩,let ⟨mc,h1,h2⟩:=hlim;⟨mc,nsK h1,h2⟩⟩
   have e0:Env0 P w K mg (Ug s₁.heap H) callerA [] s₁ H:=⟨rfl,hM,fun b o e=>ZkN e,Nat.le_of_eq (ZhK _ _),trivial,fun b hb=>absurd (show b∈([]:List Addr) from hb) (by simp),hok,.of_eq hg⟩
   refine codeAny_mono ((F _ hKb (nsK hns) hBm).run callerA [] s₁ H ⟨[.ref a],[]⟩ [.ref a] [.ref a] _ _ hr e0 (hbind s₁ (.ref a)) (.cons rfl .nil) (hsp H hO hS hT)) fun r s' h=>?_
   cases r with
   | error e=>exact (hCX H e s' h).elim
   | ok fl =>
     cases fl with
     | next=>exact False.elim h
     | brk=>exact False.elim h
     | cont=>exact False.elim h
     | ret u =>
       obtain ⟨v,H',os,bare,un,hok',r',q⟩:=h
       have q':v=.bl true:=q
       subst q'
       obtain rfl:u=Value.bool true:=r'
       have key:∀ b o,s₁.heap.get? b=some o→s'.heap.get? b=some o∨(b∈ts∧∃ more:Array Value,s'.heap.get? b=some (tabObj (#[]++more))):=fun b o y=>by
         cases q:H b with
         | none=>exact .inl (un.keep b o y q (by intro z;exact absurd (show b∈([]:List Addr) from z) (by simp)) (by simp))
         | some u =>
           rcases hO b with z | ⟨ob,xs,z⟩ | ⟨z,zt⟩
           · rw [q] at z;cases z
           · have z2:=un.frzs b ob _ z
             obtain ⟨e1,_⟩:=hok b _ z
             obtain ⟨e2,_⟩:=hok' b _ z2
             rw [y] at e1;cases e1
             exact .inl e2
           · obtain ⟨more,z2⟩:=un.tbls b #[] z
             exact .inr ⟨zt,more,show s'.heap.get? b=some { cls:=.none,data:=.fields (#[]++more) } from hok' b _ z2⟩
       refine ⟨rfl,⟨fun b o y=>?_,fun b o y=>?_⟩,os,bare⟩
       · rcases key b o y with z | ⟨zt,more,z⟩
         · exact .inl z
         · obtain ⟨t1,_,c,t3⟩:=hts b zt
           rw [t1] at y;cases y
           exact .inr (.inl ⟨(t3.tab t1).isCodeTable,rfl,#[],more,rfl,z⟩)
       · rcases key b o y with z | ⟨zt,more,z⟩
         · exact ⟨_,z⟩
         · exact ⟨_,z⟩
 have okT:∀ (H:Hp) (b:Addr),b∈ts→ObjOk P w H s₁.heap b (.tbl #[]):=fun H b hb=>(hts b hb).1
 cases hk:K.lookup a with
 | some o =>
   have e:=KX a o hk
   rw [ha] at e
   cases e
   refine core (fun b=>if b∈ts then some (.tbl #[]) else none) (fun b=>?_) (.inr ⟨_,vs.toArray,_,hk,rfl,rfl,rfl,by rw [List.size_toArray,lenV];exact hl,by simpa using rv⟩) (fun b u z=>?_) (fun b hb=>if_pos hb) (fun b z=>?_) (fun b z=>?_)
   · by_cases hb:b∈ts
     · exact .inr (.inr ⟨if_pos hb,hb⟩)
     · exact .inl (if_neg hb)
   · by_cases hb:b∈ts
     · have z':=(if_pos hb).symm.trans z
       cases z'
       exact okT _ b hb
     · have z':=(if_neg hb).symm.trans z
       cases z'
   · by_cases hb:b∈ts
     · exact .inr hb
     · exact absurd (if_neg hb) z
   · by_cases hb:b∈ts
     · exact (hts b hb).2.1
     · exact absurd (if_neg hb) z
 | none =>
   refine core (fun b=>if b=a then some (.frz { cls:=.type "list",data:=.seq vs.toArray } (.lst (ns.map V.int))) else if b∈ts then some (.tbl #[]) else none) (fun b=>?_) (.inl (.inr ⟨{ cls:=.type "list",data:=.seq vs.toArray },if_pos rfl⟩)) (fun b u z=>?_)
     (fun b hb=>(if_neg (fun z:b=a=>nta (by rw [← z];exact hb))).trans (if_pos hb)) (fun b z=>?_) (fun b z=>?_)
   · by_cases h1:b=a
     · exact .inr (.inl ⟨_,_,if_pos h1⟩)
     · by_cases hb:b∈ts
       · exact .inr (.inr ⟨(if_neg h1).trans (if_pos hb),hb⟩)
       · exact .inl ((if_neg h1).trans (if_neg hb))
   · by_cases h1:b=a
     · have z':=(if_pos h1).symm.trans z
       cases z'
       subst h1
       exact ⟨ha,by rw [List.length_map];exact hl,vs,_,rv,ha⟩
     · have z1:=(if_neg h1).symm.trans z
       by_cases hb:b∈ts
       · have z':=(if_pos hb).symm.trans z1
         cases z'
         exact okT _ b hb
       · have z':=(if_neg hb).symm.trans z1
         cases z'
   · by_cases h1:b=a
     · exact .inl h1
     · by_cases hb:b∈ts
       · exact .inr hb
       · exact absurd ((if_neg h1).trans (if_neg hb)) z
   · by_cases h1:b=a
     · rw [h1];exact hk
     · by_cases hb:b∈ts
       · exact (hts b hb).2.1
       · exact absurd ((if_neg h1).trans (if_neg hb)) z
theorem walk_ofT {l:PySem.W.OpenLaw}{n k:Nat}{q:Program}{loose:List Str}{XP:(Str→Option Value)→Heap→Prop}{YP:World→Heap→Prop}{d:DefRec}{K:Params→PySem.W.Frag}{CX:World→Ve}{sp:World→Sp}{x:Str}{ts:List Addr}
   (hn:l.most=some n) (hn2:n≤sizeLine) (hdf:d.params.defaults=[]) (hr:Room k callerA)
   (hY:∀ (w:World) (h:Heap),YP w h→(K w.params).In h∧∀ b∈ts,h.get? b=some (tabObj #[]))
   (hK:∀ (w:World) (b:Addr),b∈ts→(K w.params).lookup b=none∧∃ c,codeHdIn (K w.params) c b=true)
   (F:∀ (w:World) (mg:Str→Option Value) (fa:Addr) (h:Heap),(K w.params).In h→h.Ns mainGlobals mg→mg d.name=some (.ref fa) →
     ∃ fd:FuncData,(∀ (s:Shared) (u:Value),BindsTo s fd ⟨[u],[]⟩ [(x,u)]) ∧
       ∀ base:Heap,(K w.params).In base→base.Ns mainGlobals mg→Um base mg→FnOk l.prog w (K w.params) mg base (CX w) k fa fd [x] (sp w))
   (hsp:∀ (w:World) (H:Hp) (a:Addr) (ns:List Int),ns.length≤n→ZfQ ts H→SqL (K w.params) H a (ns.map V.int)→(∀ b∈ts,H b=some (.tbl #[]))→sp w [.ref a] H (fun v _=>v=.bl true) fun _ _ _=>False)
   (hCX:∀ (w:World) (H:Hp) (s:Shared) (e:Value) (s':Shared),CX w [] H s (fun _ _ _=>False) e s'→False) :
   PySem.W.WalkO q loose XP YP l.row.toRowW d [] (fun f vs=>PySem.call f vs):=by
 refine Att.attach_call hn hdf fun w s₀ s₁ mg mb fa o pm cd doc a vs ns G Y ho hd hcd hmg hobj hints hlen hg=>?_
 obtain ⟨KX,hT⟩:=hY w _ Y
 obtain ⟨fd,hb,hF⟩:=F w mg fa _ KX G.T.g hmg
 exact ZgI (ts:=ts) KX G.T.g G.T.b G.T.builtins G.T.nolimit hg G.T.bmain hobj hints (Nat.le_trans hlen hn2) hr (fun b hb'=>⟨hT b hb',(hK w b hb').1,let ⟨c,hc⟩:=(hK w b hb').2;⟨c,codeHd_of_K KX hc⟩⟩) hF hb (fun H hO hS hTb=>hsp w H a ns hlen hO hS hTb) fun H e s'=>hCX w H s₁ e s'
end L2
set_option maxHeartbeats 2000000
namespace L2
open PySem PySem.W PySem.Spec PyProof.Rows
abbrev VT (apos:Pos):Arguments:={ posonlyargs:=[],args:=[{ arg:="pair",annotation:=none,pos:=apos }],vararg:=none,kwonlyargs:=[],kw_defaults:=[],kwarg:=none,defaults:=[] }
abbrev Us (p1 p2 p3:Pos):Expr:=.Subscript (.Name "pair" p1) (.Constant (.int 0) 0 p2) p3
abbrev WS:Scope:={ kind:=.function,names:=[("pair",.local)],isGenerator:=false,isCoroutine:=false,more:=[] }
section
variable {prog:Program}{w:World}{A:Around}{E:Zv}{s:Shared}
theorem ZiW {q t:Addr}{qual:Str}{apos p1 p2 p3:Pos}{pm cdv ct k:Value}{its:Array Value}{Q:Zv}
   (ho:s.heap.get? q=some { cls:=.type "function",data:=.func (kla_fn "<lambda>" qual (VT apos) (Us p1 p2 p3) WS [] pm cdv ct) }) (hcd:s.heap.CodeRec cdv qual) (hlim:s.heap.NoLimit) (hroom:A.depth < recursionLimit)
   (ht:IsTup s.heap t its) (h0:its[0]?=some k)
   (hQ:∀ h' tk,(∀ b o,s.heap.get? b=some o→h'.get? b=some o)→s.heap.objs.size≤h'.objs.size→Q k { s with heap:=h',toks:=tk }) :
   wpAny (model prog w) A (call (.ref q) [.ref t]) Q E s:=by
 refine wpAny_call (kla_callFunE (body:=Us p1 p2 p3) hroom ho rfl rfl rfl rfl hcd ?_)
 refine wpAny_of_eq (a:=[(Str.ofString "pair",Value.ref t)]) rfl ?_
 refine wpAny_newFunctionEnv_cells rfl (fun y hy=>?_) fun env he s₁ x=>⟨hlim.keeps x.toInCall.keep,kla_codeExpr ?_⟩
 · rw [List.mem_singleton.mp hy];exact .inl rfl
 have hns:=x.toInCall.ns
 obtain ⟨h1,tk1,e1⟩:=x.toInCall.same
 have hkeep:=x.toInCall.keep
 have hfr:=x.toInCall.fresh
 have hL:=hns.lt
 have hkind:env.kindOf "pair"=some .local:=by rw [he];rfl
 have hm:(bindL env.kindOf [(Str.ofString "pair",Value.ref t)] fun _=>none) "pair"=some (.ref t):=by
   rw [he];rfl
 have hsc:env.scope.kind=.function:=by rw [he];rfl
 clear x
 refine Subscript_ (wpAny_Name (wpAny_loadName_local hsc hkind hns hm (wpAny_Constant_int ?_)) (by decide))
 have ht1:IsTup s₁.heap t its:=by
   obtain ⟨o,e,r⟩:=ht
   exact ⟨o,hkeep _ _ e,r⟩
 have fin:Q k { s₁ with toks:=s₁.toks+1 }:=by
   subst e1
   exact hQ h1 (tk1+1) hkeep (Nat.le_of_lt (Nat.lt_of_le_of_lt hfr hL))
 have hsz:0 < its.size:=(Array.getElem?_eq_some_iff.mp h0).1
 have ht2:IsTup (Shared.heap { s₁ with toks:=s₁.toks+1 }) t its:=ht1
 exact subscriptTail_builtinR (x:=k) ht2.typeIs slot_tuple_getitem.lookup
   (getItem_tuple (j:=0) (Q:=fun r s'=>r=k∧(fun v s'=>(match (Except.ok (Flow.ret v):Result) with | .ok (.ret v)=>Q v s' | .ok _=>False | .error e=>E e s')) r s') ht2 (by decide) (by decide) (ZbS (n:=its.size) (i:=0) (j:=0) (by unfold Wv;rw [if_pos (by decide),if_pos (by omega)];rfl)).1 h0 ⟨rfl,fin⟩) rfl
theorem Zbq:∀{ts:List Addr}{us:List Value},Vals (ts.map V.ref) us→us=ts.map Value.ref
 | [],_,.nil=>rfl
 | t::ts,_,.cons r h=>by
   have e:=Zbq h
   cases (show _=Value.ref t from r)
   rw [e];rfl
end
def Zdu (ks:List Str)(ts ts':List Addr):Prop:=∃ ps:List (Str×Addr),ps.Perm (ks.zip ts)∧ts'=ps.map (·.2)∧ps.Pairwise fun p q=>¬ (q.1.cps.toList < p.1.cps.toList)
def unR:Value→Addr
 | .ref a=>a
 | _=>0
theorem Zey {ks:List Str}{ts:List Addr}{out:List Value}(h:Uj ks (ts.map Value.ref) out):∃ ts',out=ts'.map Value.ref∧Zdu ks ts ts':=by
 obtain ⟨ps,hp,ho,hs⟩:=h
 have hmem:∀ p∈ps,p.2=Value.ref (unR p.2):=fun p hp'=>by
   have h1:=(List.of_mem_zip (show (p.1,p.2)∈_ from hp.mem_iff.mp hp')).2
   obtain ⟨t,_,e⟩:=List.mem_map.mp h1
   rw [← e];rfl
 refine ⟨ps.map fun p=>unR p.2,?_,ps.map (fun p=>(p.1,unR p.2)),?_,?_,?_⟩
 · rw [ho,List.map_map]
   exact List.map_congr_left hmem
 · have h1:=hp.map fun p:Str×Value=>(p.1,unR p.2)
   have h2:(ks.zip (ts.map Value.ref)).map (fun p:Str×Value=>(p.1,unR p.2))=ks.zip ts:=by
     rw [List.zip_map_right,List.map_map]
     have:((fun p:Str×Value=>(p.1,unR p.2)) ∘ Prod.map id Value.ref)=(id:Str×Addr→Str×Addr):=by funext p;rfl
     rw [this,List.map_id]
   rwa [h2] at h1
 · rw [List.map_map];rfl
 · rw [List.pairwise_map];exact hs
def ZfU (c:Addr)(qual:Str):Heap→Prop:=fun h=>h.CodeRec (.ref c) qual
def LamAt (H:Hp)(Pl:Addr)(lpos:Pos)(qual:Str):Prop :=
 H Pl=some (.tbl #[])∨∃ c,H Pl=some (.tbl #[rawInt lpos.line,rawInt lpos.col,.ref c])∧H c=some (.ext (ZfU c qual))
theorem Zkk {P:Program}{w:World}{H:Hp}{h:Heap}{c:Addr}{qual:Str}(e:h.CodeRec (.ref c) qual):ObjOk P w H h c (.ext (ZfU c qual)):=by
 obtain ⟨c',o,vs,t,z,g,r⟩:=id e
 cases z
 refine ⟨e,⟨o,g⟩,fun h1 h2 p k=>?_⟩
 obtain ⟨c',o,vs,t,z,g,r⟩:=p
 cases z
 exact ⟨_,o,vs,t,rfl,k _ g,r⟩
def Grown (Pl:Addr)(H H':Hp):Prop:=∀ b o,b≠Pl→H b=some o→H' b=some o
section
variable {X:Cx}{pins:List (Addr×Obj)}{σ:List (Option V)}{H:Hp}{s:Shared}{h':Heap}
theorem Inv.table {t':Nat}{Pl c:Addr}{ps:Array Value}{qual:Str}{lpos:Pos}(I:Inv X pins σ H s)(hP:H Pl=some (.tbl ps))(k:∀ b o,b≠Pl→s.heap.get? b=some o→h'.get? b=some o)
   (hT:h'.get? Pl=some (tabObj (ps++#[rawInt lpos.line,rawInt lpos.col,.ref c]))) (hc:s.heap.objs.size≤c) (hr:h'.CodeRec (.ref c) qual) :
   Inv X pins σ (upd (upd H Pl (.tbl (ps++#[rawInt lpos.line,rawInt lpos.col,.ref c]))) c (.ext (ZfU c qual))) { s with heap:=h',toks:=t' }:=by
 have hcn:H c=none:=I.hok.fresh hc
 have hcP:c≠Pl:=fun z=>by rw [z,hP] at hcn;cases hcn
 have nP:∀ b,H b=none→b≠Pl:=fun b z e=>by rw [e,hP] at z;cases z
 have off:∀ b o,b≠Pl→H b=some o→upd (upd H Pl (.tbl (ps++#[rawInt lpos.line,rawInt lpos.col,.ref c]))) c (.ext (ZfU c qual)) b=some o:=fun b o h1 e=>by rw [Zh (Zp e hcn),Zh h1];exact e
 have nL:X.env.locals≠Pl:=nP _ I.free
 refine I.step (g':=s.gens) (d':=s.drawn) (ch:=[]) (fun _ z=>nomatch z) (fun b o _ _ _ e n=>k b o (nP b n) e) (fun b o _ _ _ e n=>⟨o.slots,k b o (nP b n) e⟩) (fun b o _ e n=>?_) (fun b o _ e=>?_)
   (fun b xs e=>off b _ (fun z=>by rw [z,hP] at e;cases e) e) (fun b o u e=>off b _ (fun z=>by rw [z,hP] at e;cases e) e) (fun b qs e=>?_) (fun m hm=>?_) (fun b u e=>?_) I.bare
 · rw [Zh (fun z=>by rw [z] at e;exact absurd (Heap.lt_size e) (Nat.not_lt.mpr hc)),Zh (nP b n)];exact n
 · by_cases hb:b=Pl
   · exact ⟨_,by rw [hb];exact hT⟩
   · exact ⟨o,k b o hb e⟩
 · by_cases hb:b=Pl
   · rw [hb,hP] at e
     cases e
     exact ⟨#[rawInt lpos.line,rawInt lpos.col,.ref c],by rw [hb,Zh hcP.symm,Zg]⟩
   · exact ⟨#[],by rw [off b _ hb e];simp⟩
 · obtain ⟨o,es,ep,ho,r⟩:=hm
   exact ⟨o,es,ep,k _ o nL ho,r⟩
 · by_cases h1:b=c
   · subst h1
     rw [Zg] at e
     cases e
     exact Zkk hr
   · rw [Zh h1] at e
     by_cases h2:b=Pl
     · subst h2
       rw [Zg] at e
       cases e
       exact hT
     · rw [Zh h2] at e
       refine (I.hok b u e).stay (fun d v hd y=>k d v ?_ y) (fun d y=>off d _ (fun z=>by rw [z,hP] at y;cases y) y) fun d xs y=>off d _ (fun z=>by rw [z,hP] at y;cases y) y
       rcases hd with z | z
       · rw [z];exact h2
       · exact fun z2=>by rw [z2,hP] at z;cases z
theorem ZiK {A:Around}{E:Zv}{Q:Zv}{c Pl:Addr}{apos p1 p2 p3 lpos:Pos}(I:Inv X pins σ H s)(hcode:X.env.code=.ref c)(C:codeHdIn X.K c Pl=true)(hBm:Um X.base X.mg)(hL:LamAt H Pl lpos (X.env.qual++"<lambda>"))
   (h:∀ (q:Addr) (H':Hp) (s':Shared) (pm cdv ct:Value),Inv X pins σ H' s'→Grown Pl H H'→LamAt H' Pl lpos (X.env.qual++"<lambda>")→s'.heap.get? q=some { cls:=.type "function",data:=.func (kla_fn "<lambda>" (X.env.qual++"<lambda>") (VT apos) (Us p1 p2 p3) WS [] pm cdv ct) } →
     s'.heap.CodeRec cdv (X.env.qual++"<lambda>")→Q (.ref q) s') :
   wpAny (model X.prog X.w) A (eval (.Lambda (VT apos) (Us p1 p2 p3) WS lpos) X.env) Q E s:=by
 rw [arm_eval_Lambda]
 refine wpAny_bind (m:=evalAll []) (wpAny_evalAll_nil (wpAny_bind (wpAny_holding (m:=evalAllOpt []) (wpAny_of_eq (a:=[]) rfl ?_))))
 have hcl:closureFor WS X.env=pure []:=rfl
 have hg:=I.mod.glob.keeps I.bk
 have CH:=codeHd_of_K I.kIn C
 have tab:∀ ps,H Pl=some (.tbl ps)→s.heap.get? Pl=some (tabObj ps):=fun ps e=>I.hok Pl _ e
 have bmAt:∀ ps,s.heap.get? Pl=some (tabObj ps)→s.heap.BuiltinsAt X.mg Pl∧mainGlobals≠Pl:=fun ps e=>by
   obtain ⟨bm,ob,b1,b2,b3,b4,b5,b6⟩:=hBm
   have b3':=I.bk _ _ b3
   have hmg:mainGlobals≠Pl:=fun z=>by
     obtain ⟨o,es,ep,y,hd,_⟩:=hg
     rw [z,e] at y;cases y;cases hd
   refine ⟨⟨bm,ob,b1,b2,fun z=>?_,(fun z=>by rw [z,e] at b3';cases b3';cases b4),b3',b4,b5,b6⟩,hmg⟩
   obtain ⟨o,es,ep,y,hd,_⟩:=hg
   rw [← z,b3'] at y;cases y
   rw [b6] at hd;cases hd
 rcases hL with e | ⟨c',e,ec⟩
 · have hP:=tab _ e
   obtain ⟨hb,hgP⟩:=bmAt _ hP
   refine kla_makeFunction (clos:=[]) hcl I.ok.glob hg hcode CH hP trivial rfl hgP hb fun c' ctv h' tk hx hge hlt hrec hT=>?_
   have I1:=I.table (t':=tk) (h':=h') (qual:=X.env.qual++"<lambda>") (lpos:=lpos) e (fun b o hb' y=>hx b o hb' y) hT hge hrec
   have hcn:H c'=none:=I.hok.fresh hge
   have hcP:c'≠Pl:=fun z=>by rw [z,e] at hcn;cases hcn
   refine h _ _ _ ((X.mg "__name__").getD .none) (.ref c') ctv (I1.kept (t':=tk) fun b o y=>Heap.get?_push_of_some _ y) (fun b o h1 y=>by rw [Zh (Zp y hcn),Zh h1];exact y) (.inr ⟨c',by rw [Zh hcP.symm,Zg];rfl,Zg⟩) (Heap.get?_push_size _ rfl) (hrec.push _)
 · have hP:=tab _ e
   obtain ⟨hb,hgP⟩:=bmAt _ hP
   have hrec:s.heap.CodeRec (.ref c') (X.env.qual++"<lambda>"):=(I.hok c' _ ec).1
   refine kla_makeFunctionHit (clos:=[]) (cv:=.ref c') hcl I.ok.glob hg hcode CH hP trivial (by simp [codeAmong,rawInt]) hb fun ctv h' tk hk hz=>?_
   exact h _ _ _ ((X.mg "__name__").getD .none) (.ref c') ctv ((I.kept (h':=h') (t':=tk) hk).kept (t':=tk) fun b o y=>Heap.get?_push_of_some _ y) (fun b o _ y=>y) (.inr ⟨c',e,ec⟩) (Heap.get?_push_size _ rfl) ((hrec.keeps hk).push _)
end
def ZmJ (Pl:Addr)(lpos:Pos)(qual:Str)(te:TE):TE:=fun σ H Q=>te σ H fun x H1=>∃(l:Addr)(ts:List Addr)(ks:List Str),[x]=[.ref l]∧H1 l=some (.lst (ts.map V.ref))∧ts.length < 64∧ks.length=ts.length ∧
 (∀ (i:Nat) (t:Addr) (k:Str),ts[i]?=some t→ks[i]?=some k→∃ vs,H1 t=some (.tup (.str k::vs)))∧LamAt H1 Pl lpos qual ∧
 ∀ (H2:Hp) (r:Addr) (ts':List Addr),Grown Pl H1 H2→LamAt H2 Pl lpos qual→H2 r=none→Zdu ks ts ts'→Q (.ref r) (upd H2 r (.lst (ts'.map V.ref)))
section
variable {X:Cx}
theorem Zdr {k:Nat}{e:Expr}{te:TE}{apos p1 p2 p3 lpos kpos p pos:Pos}{c Pl:Addr}(hg:Gl X "sorted")(hm:X.mg "sorted"=none)(he:PE X e te)(hr:Room k X.A)(hcode:X.env.code=.ref c)(C:codeHdIn X.K c Pl=true)(hBm:Um X.base X.mg)
   (hs:starEach [e] X.env=[(false,eval e X.env)]:=by rfl):PE X (.Call (.Name "sorted" p) [e] [⟨some "key",.Lambda (VT apos) (Us p1 p2 p3) WS lpos,kpos⟩] pos) (ZmJ Pl lpos (X.env.qual++"<lambda>") te):=by
 intro pins s σ H Q I h
 have ha:PA X [e] (YX te Wr):=Ys he Za hs
 refine wpAny_Call_Name_kw (WM I hg hm boot_sorted (callWith_kw ?_ (by rw [hs];rfl) (by rw [hs];rfl) rfl rfl))
 refine Zr (ha pos pins s σ H (fun xs H1=>∃ (l:Addr) (ts:List Addr) (ks:List Str),xs=[V.ref l]∧H1 l=some (.lst (ts.map V.ref))∧ts.length < 64∧ks.length=ts.length ∧
   (∀ (i:Nat) (t:Addr) (k:Str),ts[i]?=some t→ks[i]?=some k→∃ vs,H1 t=some (.tup (.str k::vs)))∧LamAt H1 Pl lpos (X.env.qual++"<lambda>") ∧
   ∀ (H2:Hp) (r:Addr) (ts':List Addr),Grown Pl H1 H2→LamAt H2 Pl lpos (X.env.qual++"<lambda>")→H2 r=none→Zdu ks ts ts'→Q (.ref r) (upd H2 r (.lst (ts'.map V.ref)))) I h) fun us s1 ⟨vs,H1,I1,r1,q1⟩=>?_
 obtain ⟨l,ts,ks,rfl,el,h64,hlen,htup,hL,q⟩:=q1
 obtain ⟨u,rfl,ru⟩:=Yj r1
 cases ru
 refine kws_cons (ZiK I1 hcode C hBm hL fun fq H2 s2 pm cdv ct I2 gr hL2 hfo hrec=>kws_nil ?_)
 have nl:l≠Pl:=fun z=>by
   rw [z] at el
   rcases hL with y | ⟨_,y,_⟩<;>(rw [el] at y;cases y)
 have el2:=gr l _ nl el
 obtain ⟨its,rv,pl,hz⟩:=I2.list (SqL.of el2)
 have hits:=Zbq rv
 subst hits
 have tupAt:∀ (i:Nat) (t:Addr) (k:Str),ts[i]?=some t→ks[i]?=some k→∃ its':Array Value,IsTup s2.heap t its'∧∃ tk,its'[0]?=some (.str k tk):=fun i t k h1 h2=>by
   obtain ⟨vs,ev⟩:=htup i t k h1 h2
   have nt:t≠Pl:=fun z=>by
     rw [z] at ev
     rcases hL with y | ⟨_,y,_⟩<;>(rw [ev] at y;cases y)
   obtain ⟨_,itv,rv',pt⟩:=(show ObjOk X.prog X.w H2 s2.heap t (.tup (.str k::vs)) from I2.hok t _ (gr t _ nt ev))
   cases rv' with
   | cons r rr =>
     obtain ⟨tk,e⟩:=r
     exact ⟨_,pt,tk,by rw [e];rfl⟩
 refine Zkg (vs:=ts.map Value.ref) (ks:=ks) pl.isList (by rw [List.length_map];exact hlen) (by rw [List.length_map];exact h64) (fun x=>ksk_t1 fq x) (fun h1 tk1 k1 z1=>?_) fun h' tk out cc k3 a3 o3=>?_
 · intro i v k hv hk h2 tk2 k2 z2 Q' hQ'
   rw [List.getElem?_map] at hv
   cases ht:ts[i]? with
   | none=>rw [ht] at hv;cases hv
   | some t =>
     rw [ht] at hv
     cases (show some (Value.ref t)=some v from hv)
     obtain ⟨its',pt,tk',e0⟩:=tupAt i t k ht hk
     have kp:∀ b o,s2.heap.get? b=some o→h2.get? b=some o:=fun b o y=>k2 b o (Nat.ne_of_lt (Nat.lt_succ_of_lt (Heap.lt_size y))) (k1 b o y)
     have pt2:IsTup h2 t its':=by
       obtain ⟨o,eo,r⟩:=pt
       exact ⟨o,kp _ _ eo,r⟩
     exact ZiW (s:={ s2 with heap:=h2,toks:=tk2 }) (kp _ _ hfo) (hrec.keeps kp) (I2.nolimit.keeps kp) (show X.A.depth < recursionLimit by have:=hr.dp;omega) pt2 e0 fun h3 tk3 k3 z3=>hQ' h3 tk3 tk' k3 z3
 · obtain ⟨ts',hout,hT⟩:=Zey o3
   have rv2:Vals (ts'.map V.ref) out.toList:=by
     rw [hout]
     clear hout hT o3
     induction ts' with
     | nil=>exact .nil
     | cons t r ih=>exact .cons rfl ih
   have hl2:(ts'.map V.ref).length≤sizeLine:=by
     obtain ⟨ps,hp,e,_⟩:=hT
     have:=hp.length_eq
     rw [List.length_zip] at this
     rw [List.length_map,e,List.length_map,this]
     exact UL (by omega)
   exact ⟨.ref _,_,I2.laid (t':=tk) k3 (Nat.le_succ _) (show ObjOk X.prog X.w _ h' _ (.lst (ts'.map V.ref)) from ⟨hl2,out.toList,cc,rv2,by rw [Array.toArray_toList];exact a3⟩),rfl,q H2 _ ts' gr hL2 (I2.hok.fresh (Nat.le_succ _)) hT⟩
end
end L2
set_option maxHeartbeats 4000000
namespace L2
open PySem PySem.W PySem.Spec PyProof.Rows
theorem Zba:typeLookup (.type "tuple") "keys"=pure none:=am_miss_of_fast (by decide +kernel)
section
variable {prog:Program}{w:World}{A:Around}{E:Zv}{s:Shared}
theorem ZgH {a:Addr}{xs:Array Value}{k:Nat}{sl:Array (Option Value)}{Q:Option Value→Shared→Prop}(hx:s.heap.get? a=some { cls:=.type "tuple",dict:=none,data:=.seq xs k,slots:=sl })(hA:A.handled=none)
   (h:∀ h' tk,(∀ b o,s.heap.get? b=some o→h'.get? b=some o)→Q none { s with heap:=h',toks:=tk }):wpAny (model prog w) A (getAttr? (.ref a) "keys") Q E s:=by
 obtain ⟨hp,g,d,tk,os⟩:=s
 have hT:∀ tk',(⟨hp,g,d,tk',os⟩:Shared).TypeIs (.ref a) "tuple":=fun _=>⟨_,hx,rfl⟩
 have f1:=sub_AttributeError
 have f3:=F.slot_tuple_getattribute.lookup
 have f4:=F.slot_tuple_getattribute.bind (.ref a)
 have f5:=am_tuple_getattr_none
 unfold getAttr? getAttrBy? getAttrBy
 repeat (any_goals first | assumption | exact hT _ | ((with_reducible show wpAny _ _ (call (Value.builtin "tuple.__getattribute__") _ _) _ _ _);refine call_meets F.slot_tuple_getattribute (hT _) am_entry_tuple_getattribute (F.args_tuple_getattribute_2 _ _) (meets_getattribute_miss_tuple a xs k sl "keys" _ Zba (by decide) (by decide)) ⟨hx,hA,fun h' tk' e hx'=>?_⟩) | wp_step)
 obtain ⟨t',u',he⟩:=hx'.there
 show wpAny _ _ (getattributeRaised _ _ _ _ _ _ _) _ _ _
 unfold getattributeRaised
 repeat (any_goals first | assumption | wp_step)
 all_goals exact h _ _ hx'.keeps
theorem Xt:entryFor table "dict.update.loop"=some Builtin.«dict.update.loop»:=entryFor_of_tree (by kernel_rfl)
theorem Yn:plainId "dict.update.loop"=true:=by decide +kernel
end
section
variable {prog:Program}{w:World}{A:Around}{R:Result→Shared→Prop}
def PairAt (prog:Program)(w:World)(h:Heap)(v:Value)(p:Zk×Value):Prop:=∃ tt key,v=.ref tt∧IsTup h tt #[key,p.2]∧(Zl prog w).is p.1 key=true
theorem PairAt.keep {h h':Heap}{v:Value}{p:Zk×Value}(x:PairAt prog w h v p)(k:∀ b o,h.get? b=some o→h'.get? b=some o):PairAt prog w h' v p:=by
 obtain ⟨tt,key,e,⟨o,eo,r⟩,z⟩:=x
 exact ⟨tt,key,e,⟨o,k _ _ eo,r⟩,z⟩
theorem PairAt.but {h h':Heap}{v:Value}{p:Zk×Value}{d:Addr}{o:Obj}(x:PairAt prog w h v p)(hd:h.get? d=some o)(hc:o.cls≠.type "tuple")(k:∀ b o,b≠d→h.get? b=some o→h'.get? b=some o):PairAt prog w h' v p:=by
 obtain ⟨tt,key,e,⟨ot,eo,c,r⟩,z⟩:=x
 refine ⟨tt,key,e,⟨ot,k _ _ (fun y=>?_) eo,c,r⟩,z⟩
 rw [y,hd] at eo
 cases eo
 exact hc c
theorem ZhY {d I t:Addr}{its:Array Value}(ps:List (Zk×Value))(hlen:ps.length=its.size)(hnd:(ps.map (·.1)).Nodup)(hsz:ps.length≤sizeLine)(hh:A.handled=none)(hIt:I≠t)(hId:I≠d) :
   ∀ (k i:Nat) (s:Shared) (n:Int) (tk:Tok),ps.length - i=k→i≤ps.length→s.heap.IsTupleIter I t i→s.heap.IsTuple t its→(∀ (j:Nat) (v:Value) (p:Zk×Value),its[j]?=some v→ps[j]?=some p→PairAt prog w s.heap v p)→s.heap.DictOf (Zl prog w) d (ps.take i) →
   (∀ h' tk',(∀ b o,b≠I→b≠d→s.heap.get? b=some o→h'.get? b=some o)→h'.DictOf (Zl prog w) d ps→R (.ok (.ret .none)) { s with heap:=h',toks:=tk' }) →
   codeAny (model prog w) A (.builtin "dict.update.loop" ⟨[.ref d,.ref I,.int n tk,.none],[]⟩) R s:=by
 have W:=Walks.tuple (prog:=prog) (w:=w) (A:=A.in1) hh I t hIt.symm its
 intro k
 induction k with
 | zero =>
   intro i s n tk hk hi hit htp hpr hd hR
   have hin:i=its.size:=by omega
   refine codeAny_builtin Xt ?_
   rw [Around.under_plainId Yn _]
   show wpAny _ A.in1 (pyNext (.ref I) >>= _) _ _ s
   refine wpAny_bind (W.done s _ _ ⟨by rw [← hin];exact hit,htp⟩ fun h' tk' kk=>?_)
   show wpAny _ _ (Builtin.Dict.addKeywords d [] >>= _) _ _ _
   refine wpAny_bind (wpAny_pure (wpAny_pure (hR h' tk' (fun b o h1 _ y=>kk b o (by simpa using h1) y) ?_)))
   rw [List.take_of_length_le (by omega)] at hd
   obtain ⟨o,es,ep,eo,r⟩:=hd
   exact ⟨o,es,ep,kk d o (by simpa using hId.symm) eo,r⟩
 | succ k ih =>
   intro i s n tk hk hi hit htp hpr hd hR
   have hlt:i < its.size:=by omega
   refine codeAny_builtin Xt ?_
   rw [Around.under_plainId Yn _]
   show wpAny _ A.in1 (pyNext (.ref I) >>= _) _ _ s
   refine wpAny_bind (W.item i s _ _ hlt ⟨hit,htp⟩ fun v h1 tk1 hv st1 kk=>?_)
   obtain ⟨hit1,htp1⟩:=st1
   have hI0:∃ o,s.heap.get? I=some o∧o.cls≠.type "tuple":=by
     obtain ⟨o,eo,c,_⟩:=hit
     exact ⟨o,eo,by rw [c];decide⟩
   have hpr1:∀ (j:Nat) (v:Value) (p:Zk×Value),its[j]?=some v→ps[j]?=some p→PairAt prog w h1 v p:=fun j v p a b=>by
     obtain ⟨o,eo,c⟩:=hI0
     exact (hpr j v p a b).but eo c fun b o hb y=>kk b o (by simpa using hb) y
   obtain ⟨p,hp⟩:∃ p,ps[i]?=some p:=⟨_,List.getElem?_eq_getElem (by omega)⟩
   have hv':its[i]?=some v:=hv
   obtain ⟨tt,key,rfl,⟨ot,eo,oc,on,od⟩,hkey⟩:=hpr1 i v p hv' hp
   have hd1:h1.DictOf (Zl prog w) d (ps.take i):=by
     obtain ⟨o,es,ep,eo,r⟩:=hd
     exact ⟨o,es,ep,kk d o (by simpa using hId.symm) eo,r⟩
   have hT:Shared.TypeIs { s with heap:=h1,toks:=tk1 } (.ref tt) "tuple":=⟨ot,eo,oc⟩
   have hnew:stored (ps.take i) p.1 p.2=ps.take (i+1):=by
     have hni:p.1 ∉ (ps.take i).map (·.1):=fun z=>by
       have e1:(ps.map (·.1))=(ps.take i).map (·.1)++(ps.drop i).map (·.1):=by rw [← List.map_append,List.take_append_drop]
       rw [e1,List.nodup_append] at hnd
       refine hnd.2.2 _ z _ (List.mem_map.mpr ⟨p,?_,rfl⟩) rfl
       exact List.mem_of_getElem? (i:=0) (by rw [List.getElem?_drop];simpa using hp)
     unfold stored
     rw [if_neg,List.take_add_one,hp]
     · rfl
     · intro z
       obtain ⟨q,hq,e⟩:=List.any_eq_true.mp z
       exact hni (List.mem_map.mpr ⟨q,hq,by simpa using e⟩)
   show wpAny _ A.in1 (holding [.ref tt] _ >>= _) _ _ _
   refine wpAny_bind (wpAny_holding ?_)
   refine wpAny_bind (wpAny_tryCatch ?_)
   unfold Builtin.Dict.pairItems
   refine wpAny_bind (wpAny_typeOf hT ?_)
   rw [if_pos (by decide)]
   refine wpAny_bind (wpAny_seqItems eo od (wpAny_pure ?_))
   show wpAny _ _ (holding [key,p.2] (dictSet d key p.2)) _ _ _
   refine wpAny_holding (wpAny_dictSet_pairs hkey hd1 (fun h2 hd2 hs2=>?_) (Nat.le_trans (by rw [List.length_take];omega) hsz))
   rw [hnew] at hd2
   refine wpAny_pure ⟨plainId_quiet Yn _,ih (i+1) _ (n+1) _ (by omega) (by omega) ?_ ?_ ?_ hd2 ?_⟩
   · obtain ⟨o,eo',r⟩:=hit1
     exact ⟨o,(hs2.2 I hId).trans eo',r⟩
   · obtain ⟨o,eo',r⟩:=htp1
     refine ⟨o,(hs2.2 t (fun z=>?_)).trans eo',r⟩
     obtain ⟨o',es,ep,eo2,c2,_⟩:=hd1
     rw [z,eo2] at eo'
     cases eo'
     rw [c2.1] at r
     exact absurd r.1 (by decide)
   · intro j v p a b
     obtain ⟨o',es,ep,eo2,c2,_⟩:=hd1
     exact (hpr1 j v p a b).but eo2 (by rw [c2.1];decide) fun b o hb y=>(hs2.2 b hb).trans y
   · intro h3 tk3 k3 hd3
     exact hR h3 tk3 (fun b o h4 h5 y=>k3 b o h4 h5 ((hs2.2 b h5).trans (kk b o (by simpa using h4) y))) hd3
end
section
variable {prog:Program}{w:World}{A:Around}{E:Zv}{s:Shared}
theorem ZcT {t:Addr}{its:Array Value}{Q:Zv}(ps:List (Zk×Value))(ht:IsTup s.heap t its)(hnd0:∃ o,s.heap.get? t=some o∧o.dict=none)(hlen:ps.length=its.size)(hnd:(ps.map (·.1)).Nodup)(hsz:ps.length≤sizeLine)(hh:A.handled=none)
   (hpr:∀ (j:Nat) (v:Value) (p:Zk×Value),its[j]?=some v→ps[j]?=some p→PairAt prog w s.heap v p)
   (h:∀ h' tk',(∀ b o,s.heap.get? b=some o→h'.get? b=some o)→h'.DictOf (Zl prog w) s.heap.objs.size ps→Q (.ref s.heap.objs.size) { s with heap:=h',toks:=tk' }) :
   wpAny (model prog w) A (call (.type "dict") [.ref t]) Q E s:=by
 refine callType_codes (Q₁:=fun obj s₁=>obj=.ref s.heap.objs.size∧s₁={ s with heap:=s.heap.push { cls:=.type "dict",data:=.dict #[] } }) F.kt_called_dict (F.kt_typeCall_dict_1 _) F.entry_dict_init (kt_code_dict_new _ ⟨rfl,rfl⟩) ?_
 rintro obj s₁ ⟨rfl,rfl⟩
 have hnew:(s.heap.push { cls:=.type "dict",data:=.dict #[] }).DictOf (Zl prog w) s.heap.objs.size []:=Heap.DictOf.new s.heap
 have tlt:t < s.heap.objs.size:=by obtain ⟨o,eo,_⟩:=ht;exact Heap.lt_size eo
 obtain ⟨ot,eot,oct,on,odt⟩:=id ht
 obtain ⟨o2,eo2,hdict⟩:=hnd0
 rw [eot] at eo2
 cases eo2
 refine ⟨hnew.typeIs,F.args_dict_init_2 _ _,?_⟩
 unfold Builtin.«dict.__init__»
 refine wpAny_bind ?_
 unfold Builtin.Dict.selfAndRest
 refine wpAny_bind (wpAny_notOrdered_dict hnew.typeIs ?_)
 show wpAny _ _ (pure (s.heap.objs.size,[Value.ref t])) _ _ _
 refine wpAny_pure ?_
 show wpAny _ _ (Builtin.Dict.updateFrom "dict.__init__" s.heap.objs.size (.ref t) [] .none) _ _ _
 unfold Builtin.Dict.updateFrom
 have hT:Shared.TypeIs { s with heap:=s.heap.push { cls:=.type "dict",data:=.dict #[] } } (.ref t) "tuple":=⟨ot,Heap.get?_push_of_some _ eot,oct⟩
 refine wpAny_bind (wpAny_typeOf hT ?_)
 rw [if_pos (by decide)]
 obtain ⟨c0,d0,dt0,sl0⟩:=ot
 have e1:c0=.type "tuple":=oct
 have e2:d0=none:=hdict
 have e3:dt0=.seq its on:=odt
 subst e1 e2 e3
 refine wpAny_bind (ZgH (s:={ s with heap:=s.heap.push { cls:=.type "dict",data:=.dict #[] } }) (Heap.get?_push_of_some _ eot) hh fun h1 tk1 k1=>?_)
 rw [if_pos (show (none:Option Value).isNone=true from rfl)]
 have et1:=k1 _ _ (Heap.get?_push_of_some { cls:=.type "dict",data:=.dict #[] } eot)
 have hd1:h1.DictOf (Zl prog w) s.heap.objs.size []:=by
   obtain ⟨o,es,ep,eo,r⟩:=hnew
   exact ⟨o,es,ep,k1 _ _ eo,r⟩
 have dlt:s.heap.objs.size < h1.objs.size:=by obtain ⟨o,es,ep,eo,r⟩:=hd1;exact Heap.lt_size eo
 refine wpAny_bind (wpAny_rule (wpAny_bind (wpAny_pyIter_tuple (items:=its) ⟨_,et1,rfl,on,rfl⟩ ?_)))
 refine wpAny_pure ⟨plainId_quiet Yn _,ZhY (A:=A.in1) ps hlen hnd hsz hh (Nat.ne_of_gt (Heap.lt_size et1)) (Nat.ne_of_gt dlt) ps.length 0 _ 0 _ (by omega) (Nat.zero_le _) ⟨_,Heap.get?_push_size _ rfl,rfl,rfl⟩ ⟨_,Heap.get?_push_of_some _ et1,rfl,on,rfl⟩ ?_ ?_ ?_⟩
 · intro j v p a b
   exact (hpr j v p a b).keep fun b o y=>Heap.get?_push_of_some _ (k1 _ _ (Heap.get?_push_of_some _ y))
 · obtain ⟨o,es,ep,eo,r⟩:=hd1
   exact ⟨o,es,ep,Heap.get?_push_of_some _ eo,r⟩
 · intro h' tk' k3 hd3
   refine ⟨rfl,h h' tk' (fun b o y=>?_) hd3⟩
   have y1:=k1 _ _ (Heap.get?_push_of_some { cls:=.type "dict",data:=.dict #[] } y)
   exact k3 b o (Nat.ne_of_lt (Heap.lt_size y1)) (Nat.ne_of_lt (Heap.lt_size y)) (Heap.get?_push_of_some _ y1)
end
section
variable {X:Cx}
theorem Ua (hc:X.calm=true):Yk X (.type "dict") (fun xs H Q=>∃ (t:Addr) (ts:List Addr) (kvs:Zu),xs=[.ref t]∧(∃ o,H t=some (.frz o (.tup (ts.map V.ref)))∧o.dict=none)∧ts.length=kvs.length∧kvs.length≤1000 ∧
   (∀ (i:Nat) (a:Addr) (p:Str×V),ts[i]?=some a→kvs[i]?=some p→H a=some (.tup [.str p.1,p.2]))∧(kvs.map (·.1)).Nodup∧∀ d,H d=none→Q (.ref d) (upd H d (.dK (kvs.map fun p=>(Sum.inr p.1,p.2))))):=by
 intro pins s σ H xs us Q I r h
 obtain ⟨t,ts,kvs,rfl,⟨ot0,hq0,hdn⟩,hlen,hsz,hp,hnd,q⟩:=h
 have hq:SqT X.K H t (ts.map V.ref):=.inl (.inr ⟨ot0,hq0⟩)
 have eo0:=(I.hok t _ hq0).1
 obtain ⟨u,rfl,ru⟩:=Yj r
 cases ru
 obtain ⟨its,rv,pt,hz⟩:=I.tuple hq
 have hits:=Zbq rv
 subst hits
 have build:∀ (kvs:Zu) (ts:List Addr),ts.length=kvs.length→(∀ (i:Nat) (a:Addr) (p:Str×V),ts[i]?=some a→kvs[i]?=some p→H a=some (.tup [.str p.1,p.2])) →
     ∃ ps:List (Zk×Value),KV (kvs.map fun p=>((Sum.inr p.1:Zk),p.2)) ps∧ps.length=kvs.length∧ps.map (·.1)=kvs.map (fun p=>(Sum.inr p.1:Zk))∧∀ (j:Nat) (v:Value) (p:Zk×Value),(ts.map Value.ref)[j]?=some v→ps[j]?=some p→PairAt X.prog X.w s.heap v p:=by
   intro kvs
   induction kvs with
   | nil=>intro ts _ _;exact ⟨[],.nil,rfl,rfl,fun j v p _ e=>by simp at e⟩
   | cons kv r ih =>
     intro ts hl hh
     cases ts with
     | nil=>simp at hl
     | cons a ar =>
       obtain ⟨ps,k1,k2,k3,k4⟩:=ih ar (by simpa using hl) fun i b p e1 e2=>hh (i+1) b p (by simpa using e1) (by simpa using e2)
       obtain ⟨_,itv,rv',pa⟩:=(show ObjOk X.prog X.w H s.heap a (.tup [.str kv.1,kv.2]) from I.hok a _ (hh 0 a kv rfl rfl))
       cases rv' with
       | cons r1 rr =>
         cases rr with
         | cons r2 rr =>
           cases rr
           obtain ⟨tk,e⟩:=r1
           subst e
           rename_i u2
           refine ⟨(Sum.inr kv.1,u2)::ps,.cons ⟨rfl,r2⟩ k1,by rw [List.length_cons,List.length_cons,k2],by rw [List.map_cons,List.map_cons,k3],fun j v p e1 e2=>?_⟩
           cases j with
           | zero =>
             cases (show some (Value.ref a)=some v from e1)
             cases (show some ((Sum.inr kv.1:Zk),u2)=some p from e2)
             exact ⟨a,.str kv.1 tk,rfl,pa,Ul _ _ _ _⟩
           | succ j=>exact k4 j v p (by simpa using e1) (by simpa using e2)
 obtain ⟨ps,k1,k2,k3,k4⟩:=build kvs ts hlen hp
 have hnd2:(ps.map (·.1)).Nodup:=by
   rw [k3]
   have:kvs.map (fun p=>(Sum.inr p.1:Zk))=(kvs.map (·.1)).map Sum.inr:=by rw [List.map_map];rfl
   rw [this]
   rw [List.Nodup,List.pairwise_map]
   exact hnd.imp fun h e=>h (by cases e;rfl)
 refine ZcT ps pt ⟨ot0,eo0,hdn⟩ (by rw [k2,List.size_toArray,List.length_map,hlen]) hnd2 (by rw [k2];exact UL hsz) (I.ok.hd hc) (fun j v p e1 e2=>k4 j v p (by simpa using e1) e2) fun h' tk' kk hd=>?_
 have hbig:=I.big
 refine ⟨.ref s.heap.objs.size,_,I.laid (t':=tk') kk (Nat.le_refl _) (show ObjOk X.prog X.w _ h' _ (.dK (kvs.map fun p=>((Sum.inr p.1:Zk),p.2))) from ⟨by rw [List.length_map];exact UL hsz,?_,ps,k1,hd⟩),rfl,q _ (I.hok.fresh (Nat.le_refl _))⟩
 exact beq_eq_false_iff_ne.mpr (Nat.ne_of_gt hbig)
end
end L2
set_option maxHeartbeats 2000000
namespace L2
open PySem PySem.W PySem.Spec PyProof.Rows
section
variable {X:Cx}{pins:List (Addr×Obj)}{σ:List (Option V)}{H H':Hp}{s:Shared}{h':Heap}
theorem Inv.many {t':Nat}(I:Inv X pins σ H s)(k:∀ b u,s.heap.get? b=some u→h'.get? b=some u)(ext:Same H H')(new:∀ b,b < s.heap.objs.size→H' b=H b)(hok:∀ b o,s.heap.objs.size≤b→H' b=some o→ObjOk X.prog X.w H' h' b o) :
   Inv X pins σ H' { s with heap:=h',toks:=t' }:=by
 refine I.step (g':=s.gens) (d':=s.drawn) (ch:=[]) (fun _ z=>nomatch z) (fun b o _ _ _ e _=>k b o e) (fun b o _ _ _ e _=>⟨o.slots,k b o e⟩) (fun b o _ e n=>by rw [new b (Heap.lt_size e)];exact n) (fun b o _ e=>⟨o,k b o e⟩)
   (fun b xs e=>ext b _ e) (fun b o u e=>ext b _ e) (fun b ps e=>⟨#[],by rw [ext b _ e];simp⟩) (fun m hm=>?_) (fun b u e=>?_) I.bare
 · obtain ⟨o,es,ep,ho,r⟩:=hm
   exact ⟨o,es,ep,k _ o ho,r⟩
 · by_cases hb:b < s.heap.objs.size
   · rw [new b hb] at e
     exact (I.hok b u e).stay (fun c v _ y=>k c v y) (fun c y=>ext c _ y) fun c xs y=>ext c _ y
   · exact hok b u (Nat.not_lt.mp hb) e
end
def UB (v d:Addr):Heap→Prop:=fun h=>h.IsItemsView v d
def XV (H:Hp):List (Addr×Zk×V)→Hp
 | []=>H
 | (a,k,v)::r=>upd (XV H r) a (.tup [kV k,v])
theorem UX {H:Hp}{b:Addr}:∀{l:List (Addr×Zk×V)},b ∉ l.map (·.1)→XV H l b=H b
 | [],_=>rfl
 | (a,k,v)::r,h=>by
   rw [List.map_cons,List.mem_cons,not_or] at h
   show upd (XV H r) a _ b=_
   rw [Zh h.1];exact UX h.2
theorem Zcc {H:Hp}{a:Addr}{k:Zk}{v:V}:∀{l:List (Addr×Zk×V)},(l.map (·.1)).Nodup→(a,k,v)∈l→XV H l a=some (.tup [kV k,v])
 | (b,k',v')::r,hn,hm=>by
   rw [List.map_cons,List.nodup_cons] at hn
   show upd (XV H r) b _ a=_
   rcases List.mem_cons.mp hm with e | hm
   · cases e;exact Zg
   · rw [Zh (fun z:a=b=>hn.1 (by show b∈_;rw [← z];exact List.mem_map.mpr ⟨_,hm,rfl⟩))]
     exact Zcc hn.2 hm
theorem ZgX {kvs:ZH}{vs:List (Zk×Value)}(r:KV kvs vs):∀{j:Nat}{k:Zk}{x:Value},vs[j]?=some (k,x)→∃ v,kvs[j]?=some (k,v)∧RelV v x:=by
 induction r with
 | nil=>intro j k x e;simp at e
 | cons h t ih =>
   intro j k x e
   cases j with
   | zero =>
     cases (show some _=some (k,x) from e)
     rename_i a _ _
     refine ⟨a.2,?_,h.2⟩
     have e1:a.1=k:=h.1
     show some a=some (k,a.2)
     rw [← e1]
   | succ j=>exact ih (by simpa using e)
section
variable {X:Cx}
theorem Zdy:MtR X "dict.items" (fun x xs H Q=>∃ d kvs,x=.ref d∧xs=[]∧H d=some (.dK kvs)∧∀ v,H v=none→Q (.ref v) (upd H v (.ext (UB v d)))):=by
 intro pins s σ H x xs v us Q I rx rv h
 obtain ⟨d,kvs,rfl,rfl,e,q⟩:=h
 cases rx
 cases rv
 obtain ⟨hz,lo,vs,kv,hd⟩:=Wz I.hok e
 refine call_meetsIn PySem.F.slot_dict_items hd.typeIs PySem.F.entry_dict_items (PySem.F.args_dict_items_1 _) (meets_dict_items (Zl X.prog X.w) d lo) ⟨⟨vs,hd⟩,?_⟩
 refine ⟨.ref s.heap.objs.size,_,I.laid (t':=s.toks) (fun b o y=>Heap.get?_push_of_some _ y) (Nat.le_refl _) (show ObjOk X.prog X.w _ _ _ (.ext (UB s.heap.objs.size d)) from ⟨⟨_,Heap.get?_push_size _ rfl,rfl,rfl⟩,⟨_,Heap.get?_push_size _ rfl⟩,?_⟩),rfl,q _ (I.hok.fresh (Nat.le_refl _))⟩
 rintro h1 h2 ⟨o,eo,r⟩ k
 exact ⟨o,k _ eo,r⟩
theorem Zbb (hc:X.calm=true):Yk X (.type "list") (fun xs H Q=>∃ v d kvs,xs=[.ref v]∧H v=some (.ext (UB v d))∧H d=some (.dK kvs) ∧
   ∀ (l:Addr) (ts:List Addr) (H2:Hp),H l=none→Same H H2→ts.length=kvs.length→(∀ a∈ts,H a=none)→(∀ (i:Nat) (a:Addr) (p:Zk×V),ts[i]?=some a→kvs[i]?=some p→H2 a=some (.tup [kV p.1,p.2]))→H2 l=some (.lst (ts.map V.ref))→Q (.ref l) H2):=by
 intro pins s σ H xs us Q I r h
 obtain ⟨v,d,kvs,rfl,ev,ed,q⟩:=h
 obtain ⟨u,rfl,ru⟩:=Yj r
 cases ru
 obtain ⟨hz,lo,vs,kv,o,es,ep,ho,r1,r2,r3,r4,r5⟩:=Wz I.hok ed
 have hlen:vs.length=kvs.length:=(Paired.length kv).symm
 refine kdx_call (knd:=Zl X.prog X.w) (kvs:=vs) (ep:=ep) (I.ok.hd hc) (I.hok v _ ev).1 ⟨o,es,ho,r1,r2,r3,r4,r5⟩ (by rw [hlen];exact hz) fun h' tk acc c as hk hS hl hG hacc=>?_
 have hl2:as.length=kvs.length:=by rw [hl,hlen]
 have hnd:as.Nodup:=hG.rise.imp fun h=>Nat.ne_of_lt h
 generalize hL:as.zip (kvs.map fun p=>p)=L
 have hm1:L.map (·.1)=as:=by
   rw [← hL,List.map_id']
   exact List.map_fst_zip (by omega)
 have at_j:∀ (j:Nat) (a:Addr) (p:Zk×V),as[j]?=some a→kvs[j]?=some p→(a,p.1,p.2)∈L:=fun j a p e1 e2=>by
   rw [← hL,List.map_id']
   exact List.mem_of_getElem? (i:=j) (by rw [List.getElem?_zip_eq_some];exact ⟨e1,e2⟩)
 have above:∀ a∈as,s.heap.objs.size < a:=hG.above
 have hfr:∀ b,s.heap.objs.size≤b→H b=none:=fun b hb=>I.hok.fresh hb
 have hnl:s.heap.objs.size ∉ L.map (·.1):=fun z=>by rw [hm1] at z;exact absurd (above _ z) (Nat.lt_irrefl _)
 have offA:∀ b,b < s.heap.objs.size→b ∉ L.map (·.1):=fun b hb z=>by rw [hm1] at z;exact absurd (Nat.lt_trans (above _ z) hb) (Nat.lt_irrefl _)
 have key:∀ b,b < s.heap.objs.size→upd (XV H L) s.heap.objs.size (.lst (as.map V.ref)) b=H b:=fun b hb=>by rw [Zh (Nat.ne_of_lt hb),UX (offA b hb)]
 have sm:Same H (upd (XV H L) s.heap.objs.size (.lst (as.map V.ref))):=fun b o e=>by rw [key b (I.hok.lt e)];exact e
 have tup_at:∀ (j:Nat) (a:Addr) (p:Zk×V),as[j]?=some a→kvs[j]?=some p→upd (XV H L) s.heap.objs.size (.lst (as.map V.ref)) a=some (.tup [kV p.1,p.2]):=fun j a p e1 e2=>by
   rw [Zh (Nat.ne_of_gt (above a (List.mem_of_getElem? e1)))]
   exact Zcc (by rw [hm1];exact hnd) (at_j j a p e1 e2)
 have I2:Inv X pins σ (upd (XV H L) s.heap.objs.size (.lst (as.map V.ref))) { s with heap:=h',toks:=tk }:=by
   refine I.many hk sm key fun b o hb e=>?_
   by_cases h0:b=s.heap.objs.size
   · subst h0
     rw [Zg] at e
     cases e
     refine ⟨by rw [List.length_map,hl2];exact hz,acc.toList,c,?_,by rw [Array.toArray_toList];exact hS⟩
     rw [hacc]
     clear hacc hl hG hl2 hnd hL hm1 at_j above hnl offA key sm tup_at
     induction as with
     | nil=>exact .nil
     | cons a r ih=>exact .cons rfl ih
   · rw [Zh h0] at e
     by_cases hm:b∈as
     · obtain ⟨j,hj⟩:=List.mem_iff_getElem?.mp hm
       obtain ⟨keyv,kk,x,e1,e2,e3⟩:=hG.pairs j b hj
       obtain ⟨vv,e4,rel⟩:=ZgX kv e1
       have e5:=tup_at j b (kk,vv) hj e4
       rw [Zh h0,e] at e5
       cases e5
       refine ⟨by show 2≤sizeLine;decide,[keyv,x],.cons ?_ (.cons rel .nil),⟨_,e3,rfl,_,rfl⟩⟩
       rw [Vc] at e2
       rcases ZP e2 with ⟨i,tt,rfl,rfl⟩ | ⟨y,tt,rfl,rfl⟩
       · exact ⟨tt,rfl⟩
       · exact ⟨tt,rfl⟩
     · rw [UX (by rw [hm1];exact hm),hfr b hb] at e
       cases e
 exact ⟨.ref s.heap.objs.size,_,I2,rfl,q _ as _ (hfr _ (Nat.le_refl _)) sm hl2 (fun a ha=>hfr a (Nat.le_of_lt (above a ha))) tup_at Zg⟩
def Zmz:TE:=fun _ H Q=>∀ p o,H p=none→o.dict=none→Q (.ref p) (upd H p (.frz o (.tup [])))
theorem ZeG {x1:Nat}{pos:Pos}:PE X (.Tuple [] x1 pos) Zmz:=by
 intro pins s σ H Q I hq
 refine wpAny_Tuple_spliced (Zr (Za pos pins s σ H (fun xs H1=>xs=[]∧H1=H) I ⟨rfl,rfl⟩) fun us s1 ⟨xs,H1,I1,r,e1,e2⟩=>?_)
 subst e1 e2
 cases r
 refine ⟨Nat.zero_le _,?_⟩
 have hf:H1 s1.heap.objs.size=none:=I1.hok.fresh (Nat.le_refl _)
 exact ⟨.ref s1.heap.objs.size,_,I1.laid (t':=s1.toks) (o:=.frz _ (.tup [])) (fun b u e=>Heap.get?_push_of_some _ e) (Nat.le_refl _) ⟨Heap.get?_push_size _ rfl,Nat.zero_le _,[],.nil,⟨_,Heap.get?_push_size _ rfl,rfl,_,rfl⟩⟩,rfl,hq _ _ hf rfl⟩
theorem Zaw:Yk X (.type "tuple") (fun xs H Q=>∃ p ys,xs=[.ref p]∧SqL X.K H p ys∧∀ l o,H l=none→o.dict=none→Q (.ref l) (upd H l (.frz o (.tup ys)))):=by
 intro pins s σ H xs us Q I r h
 obtain ⟨p,ys,rfl,hq,q⟩:=h
 obtain ⟨u,rfl,rx⟩:=Yj r
 cases rx
 obtain ⟨its,r',pl,hz⟩:=I.list hq
 have hlen:=r'.length
 refine call_tuple_list pl.isList (fun h' kp=>?_) (by simp only [List.size_toArray]<;>omega)
 have I1:Inv X pins σ H { s with heap:=h' }:=I.kept (t':=s.toks) kp
 have hg:(h'.push { cls:=.type "tuple",data:=.seq its.toArray }).get? h'.objs.size=some { cls:=.type "tuple",data:=.seq its.toArray }:=Heap.get?_push_size _ rfl
 exact ⟨.ref h'.objs.size,_,I1.laid (t':=s.toks) (o:=.frz { cls:=.type "tuple",data:=.seq its.toArray } (.tup ys)) (fun b o e=>Heap.get?_push_of_some _ e) (Nat.le_refl _) ⟨hg,hz,its,r',⟨_,hg,rfl,_,rfl⟩⟩,rfl,q _ _ (I1.hok.fresh (Nat.le_refl _)) rfl⟩
end
end L2
set_option maxHeartbeats 2000000
namespace L2
open PySem PySem.W PySem.Spec PyProof.Rows
structure FunC (K:KF)(x qual:Str)(st:Stmt)(f:Addr)(fd:FuncData)(c Pl:Addr):Prop where
 ex:∃ (oc:Value) (od:Option Addr) (kV doc pm:Value) (an:Option Addr) (ct:Value) (osl:Array (Option Value)),
   fd=PySem.W.fnOf x qual (VX st) (Xu st) (Zn st) .none kV doc pm an (.ref c) ct∧K.lookup f=some ⟨oc,od,.func fd,osl⟩∧PySem.W.codeIn K (.ref c) qual=true
 kp:PySem.W.keepIn K (.ref f)=true
 hd:codeHdIn K c Pl=true
section
variable {P:Program}{w:World}{K:KF}{mg:Str→Option Value}{base:Heap}
theorem FunC.ok {x qual:Str}{st:Stmt}{f c Pl:Addr}{fd:FuncData}{N ps:List Str}{k:Nat}{sp:Sp}(F:FunC K x qual st f fd c Pl)(S:Zw N ps (Zn st))(len:∀ vs H Q E,sp vs H Q E→vs.length=ps.length)
   (hbody:∀ (A:Around) (outer:List Env) (s:Shared) (H:Hp) (vs:List V) (Q:VK) (E:XK),Room k (A.deeper (envOfC qual (Zn st) s.heap.objs.size f (.ref c)))→sp vs H Q E →
     ∃ t,PSs (Zav ZK P w K mg base N qual (Zn st) f (.ref c) A outer s H E).nox (Xu st) t∧t { nx:=fun _ H'=>Q .non H',rt:=Q } (start N vs) H):FnOk P w K mg base ZK (k+1) f fd ps sp:=by
 obtain ⟨oc,od,kV,doc,pm,an,ct,osl,rfl,lk,hcd⟩:=F.ex
 refine Zjy lk hcd S len fun A outer s H vs Q E hr hsp=>?_
 obtain ⟨t,h,q⟩:=hbody A outer s H vs Q E hr hsp
 exact ⟨t,h.nox,q⟩
theorem FunC.fn {x qual:Str}{st:Stmt}{f c Pl:Addr}{fd:FuncData}(F:FunC K x qual st f fd c Pl):Fun K x qual st f fd:=by
 obtain ⟨oc,od,kV,doc,pm,an,ct,osl,e,lk,hcd⟩:=F.ex
 exact ⟨⟨oc,od,kV,doc,pm,an,.ref c,ct,osl,e,lk,hcd⟩,F.kp⟩
end
theorem Zjt {X:Cx}{st:Stmt}:PS X st (fun _ _ _=>False):=fun _ _ _ _ _ _ h=>h.elim
structure TF (H H':Hp):Prop where
 tup:∀ b xs,H b=some (.tup xs)→H' b=some (.tup xs)
 frz:∀ b o u,H b=some (.frz o u)→H' b=some (.frz o u)
theorem TF.trans {H H1 H2:Hp}(a:TF H H1)(b:TF H1 H2):TF H H2:=⟨fun x xs h=>b.tup x xs (a.tup x xs h),fun x o u h=>b.frz x o u (a.frz x o u h)⟩
theorem Same.tf {H H':Hp}(h:Same H H'):TF H H':=⟨fun b _ e=>h b _ e,fun b _ _ e=>h b _ e⟩
theorem Grown.tf {Pl:Addr}{H H':Hp}{ps:Array Value}(h:Grown Pl H H')(e:H Pl=some (.tbl ps)):TF H H' :=
 ⟨fun b _ y=>h b _ (fun z=>by rw [z,e] at y;cases y) y,fun b _ _ y=>h b _ (fun z=>by rw [z,e] at y;cases y) y⟩
theorem LamAt.tbl {H:Hp}{Pl:Addr}{lpos:Pos}{qual:Str}(h:LamAt H Pl lpos qual):∃ ps,H Pl=some (.tbl ps):=by
 rcases h with h | ⟨_,h,_⟩
 · exact ⟨_,h⟩
 · exact ⟨_,h⟩
theorem VL {H:Hp}{l:Addr}{xs:List V}{o:HO}(h:H l=some (.lst xs)):TF H (upd H l o) :=
 ⟨fun b _ y=>by rw [Zh (fun z=>by rw [z,h] at y;cases y)];exact y,fun b _ _ y=>by rw [Zh (fun z=>by rw [z,h] at y;cases y)];exact y⟩
theorem Zkx {H:Hp}{l:Addr}{xs:ZH}{o:HO}(h:H l=some (.dK xs)):TF H (upd H l o) :=
 ⟨fun b _ y=>by rw [Zh (fun z=>by rw [z,h] at y;cases y)];exact y,fun b _ _ y=>by rw [Zh (fun z=>by rw [z,h] at y;cases y)];exact y⟩
theorem SqT.tf {K:KF}{H H':Hp}{a:Addr}{xs:List V}(h:SqT K H a xs)(t:TF H H'):SqT K H' a xs:=by
 rcases h with (h | ⟨o,h⟩) | h
 · exact .inl (.inl (t.tup _ _ h))
 · exact .inl (.inr ⟨o,t.frz _ _ _ h⟩)
 · exact .inr h
inductive Nd where
 | bare
 | leaf (m:Int) (ps:Zu)
 | fork (qs:List Nat)
def Nd.parts:Nd→List Nat
 | .fork qs=>qs
 | _=>[]
def Nd.pairs:Nd→List (Str×V)
 | .leaf _ ps=>ps
 | _=>[]
def Nd.hasM (n:Int):Nd→Bool
 | .leaf m _=>decide (m=n)
 | _=>false
def PairT (H:Hp)(ts:List Addr)(ps:Zu):Prop:=ts.length=ps.length∧∀(i:Nat)(a:Addr)(p:Str×V),ts[i]?=some a→ps[i]?=some p→H a=some (.tup [.str p.1,p.2])
def PairsAt (H:Hp)(t:Addr)(ps:Zu):Prop:=∃ o ts,H t=some (.frz o (.tup (ts.map V.ref)))∧o.dict=none∧PairT H ts ps
def NodeAt (K:KF)(H:Hp)(a:Addr):Nd→Prop
 | .bare=>SqT K H a [.str "bare"]
 | .leaf m ps=>∃ t,SqT K H a [.str "leaf",.int m,.ref t]∧PairsAt H t ps
 | .fork qs=>∃ t,SqT K H a [.str "fork",.ref t]∧SqT K H t (qs.map fun q:Nat=>V.int (q:Int))∧qs.length=4
theorem PairT.tf {H H':Hp}{ts:List Addr}{ps:Zu}(h:PairT H ts ps)(t:TF H H'):PairT H' ts ps:=⟨h.1,fun i a p e1 e2=>t.tup _ _ (h.2 i a p e1 e2)⟩
theorem PairsAt.tf {H H':Hp}{t:Addr}{ps:Zu}(h:PairsAt H t ps)(f:TF H H'):PairsAt H' t ps:=by
 obtain ⟨o,ts,e,d,p⟩:=h
 exact ⟨o,ts,f.frz _ _ _ e,d,p.tf f⟩
theorem NodeAt.tf {K:KF}{H H':Hp}{a:Addr}{n:Nd}(h:NodeAt K H a n)(f:TF H H'):NodeAt K H' a n:=by
 cases n with
 | bare=>exact SqT.tf h f
 | leaf m ps=>obtain ⟨t,e,p⟩:=h;exact ⟨t,e.tf f,p.tf f⟩
 | fork qs=>obtain ⟨t,e,p,l⟩:=h;exact ⟨t,e.tf f,p.tf f,l⟩
def Xr (K:KF):Sp:=fun vs H Q _=>∃(a:Addr)(n:Nd),vs=[.ref a]∧NodeAt K H a n∧∀ t H',Same H H'→SqT K H' t (n.parts.map fun q:Nat=>V.int (q:Int))→Q (.ref t) H'
def Xs (K:KF):Sp:=fun vs H Q _=>∃(a:Addr)(n:Nd),vs=[.ref a]∧NodeAt K H a n∧∀ t H',Same H H'→PairsAt H' t n.pairs→Q (.ref t) H'
def VH (K:KF):Sp:=fun vs H Q _=>∃(a:Addr)(n:Nd)(m:Int),vs=[.ref a,.int m]∧NodeAt K H a n∧Q (.bl (n.hasM m)) H
def WJ (K:KF):Sp:=fun vs H Q _=>∃(l:Addr)(qs:List Nat),vs=[.ref l]∧H l=some (.lst (qs.map fun q:Nat=>V.int (q:Int)))∧qs.length=4∧∀ a H',Same H H'→NodeAt K H' a (.fork qs)→Q (.ref a) H'
end L2
set_option maxHeartbeats 1000000
namespace L2
open PySem
def Yw:HO→Bool
 | .tup _=>false
 | .frz _ _=>false
 | .own _=>false
 | .met _ _=>false
 | .rng _ _=>false
 | .ext _=>false
 | _=>true
def WU (H h:Hp):Hp:=fun b=>match h b with
 | some o=>if Yw o=true then none else H b
 | none=>H b
def one (p:Addr)(o:HO):Hp:=fun b=>if b=p then some o else none
theorem one_some {p b:Addr}{o u:HO}:one p o b=some u↔b=p∧o=u:=by
 unfold one
 by_cases h:b=p
 · rw [if_pos h];exact ⟨fun z=>⟨h,Option.some.inj z⟩,fun z=>by rw [z.2]⟩
 · rw [if_neg h];exact ⟨fun z=>(by cases z),fun z=>absurd z.1 h⟩
abbrev YO:=Addr→Hp→Prop
abbrev Rs:=List (Addr×YO)
def Sep:Rs→Hp→Prop
 | [],_=>True
 | (a,R)::Δ,H=>∃ h,Same h H∧R a h∧Sep Δ (WU H h)
theorem cut_some {H h:Hp}{b:Addr}{o:HO}:WU H h b=some o↔H b=some o∧∀ u,h b=some u→Yw u=false:=by
 unfold WU
 cases e:h b with
 | none=>exact ⟨fun z=>⟨z,fun u q=>by cases q⟩,fun z=>z.1⟩
 | some v =>
   cases m:Yw v with
   | true=>show (if Yw v=true then none else H b)=some o↔_;rw [if_pos m];exact ⟨fun z=>(by cases z),fun z=>(by have:=z.2 v rfl;rw [m] at this;cases this)⟩
   | false=>show (if Yw v=true then none else H b)=some o↔_;rw [if_neg (by rw [m];decide)];exact ⟨fun z=>⟨z,fun u q=>(by cases q;exact m)⟩,fun z=>z.1⟩
theorem ZdG {H h:Hp}:Same (WU H h) H:=fun b o e=>(cut_some.mp e).1
theorem ZiA {H H' h:Hp}(s:Same H H'):Same (WU H h) (WU H' h):=fun b o e=>let ⟨x,y⟩:=cut_some.mp e;cut_some.mpr ⟨s _ _ x,y⟩
theorem Sep.mono:∀{Δ:Rs}{H H':Hp},Sep Δ H→Same H H'→Sep Δ H'
 | [],_,_,_,_=>trivial
 | (_,_)::_,_,_,⟨h,l,r,S⟩,s=>⟨h,l.trans s,r,S.mono (ZiA s)⟩
theorem Sep.swap {a b:Addr}{R T:YO}{Δ:Rs}{H:Hp}(S:Sep ((a,R)::(b,T)::Δ) H):Sep ((b,T)::(a,R)::Δ) H:=by
 obtain ⟨h,l,r,g,m,t,S⟩:=S
 refine ⟨g,m.trans ZdG,t,h,fun c o e=>cut_some.mpr ⟨l _ _ e,fun u q=>?_⟩,r,S.mono fun c o e=>?_⟩
 · obtain ⟨q1,q2⟩:=cut_some.mp (m _ _ q)
   have e2:=l _ _ e
   rw [q1] at e2;cases e2
   exact q2 _ e
 · obtain ⟨e1,e2⟩:=cut_some.mp e
   obtain ⟨e3,e4⟩:=cut_some.mp e1
   exact cut_some.mpr ⟨cut_some.mpr ⟨e3,e2⟩,e4⟩
theorem Sep.tail {a:Addr}{R:YO}{Δ:Rs}{H:Hp}(S:Sep ((a,R)::Δ) H):Sep Δ H:=by
 obtain ⟨h,l,r,S⟩:=S
 exact S.mono ZdG
class Pull (a:Addr) (Δ:Rs) (R:outParam YO) (Δ':outParam Rs):Prop where
 out:∀ {H},Sep Δ H→Sep ((a,R)::Δ') H
instance (priority:=1000) Pull.here {a:Addr} {R:YO} {Δ:Rs}:Pull a ((a,R)::Δ) R Δ:=⟨fun S=>S⟩
instance (priority:=900) Pull.there {a b:Addr} {R T:YO} {Δ Δ':Rs} [P:Pull a Δ R Δ']:Pull a ((b,T)::Δ) R ((b,T)::Δ') :=
 ⟨fun S=>by
   obtain ⟨h,l,r,S⟩:=S
   exact Sep.swap ⟨h,l,r,P.out S⟩⟩
theorem Sep.pull {Δ Δ':Rs}{H:Hp}{R:YO}(S:Sep Δ H)(a:Addr)[P:Pull a Δ R Δ']:Sep ((a,R)::Δ') H:=P.out S
theorem Sep.drop {Δ Δ':Rs}{H:Hp}{R:YO}(S:Sep Δ H)(a:Addr)[P:Pull a Δ R Δ']:Sep Δ' H:=(P.out S).tail
class Up (R:YO):Prop where
 up:∀ {a:Addr} {H H':Hp},R a H→Same H H'→R a H'
theorem Sep.get {Δ Δ':Rs}{H:Hp}{R:YO}(S:Sep Δ H)(a:Addr)[P:Pull a Δ R Δ'][U:Up R]:R a H:=by
 obtain ⟨h,l,r,_⟩:=P.out S
 exact U.up r l
def Pt (o:HO):YO:=fun a h=>h a=some o
abbrev Wn (xs:List V):YO:=Pt (.lst xs)
abbrev Dic (kv:ZH):YO:=Pt (.dK kv)
abbrev Tup (xs:List V):YO:=Pt (.tup xs)
instance {o:HO}:Up (Pt o):=⟨fun h s=>s _ _ h⟩
theorem Sep.new {Δ:Rs}{H:Hp}(S:Sep Δ H){p:Addr}(hp:H p=none)(o:HO):Sep ((p,Pt o)::Δ) (upd H p o):=by
 refine ⟨one p o,fun b u e=>?_,one_some.mpr ⟨rfl,rfl⟩,S.mono fun b u e=>?_⟩
 · obtain ⟨rfl,rfl⟩:=one_some.mp e;exact Zg
 · have hb:=Zp e hp
   exact cut_some.mpr ⟨by rw [Zh hb];exact e,fun v q=>absurd (one_some.mp q).1 hb⟩
theorem Sep.made {Δ:Rs}{H H':Hp}(S:Sep Δ H)(s:Same H H'){p:Addr}{o:HO}(hp:H p=none)(e:H' p=some o):Sep ((p,Pt o)::Δ) H':=by
 refine ⟨one p o,fun b u q=>?_,one_some.mpr ⟨rfl,rfl⟩,S.mono fun b u q=>?_⟩
 · obtain ⟨rfl,rfl⟩:=one_some.mp q;exact e
 · have hb:=Zp q hp
   exact cut_some.mpr ⟨s _ _ q,fun v q=>absurd (one_some.mp q).1 hb⟩
theorem Sep.put {Δ Δ':Rs}{H:Hp}{o:HO}(S:Sep Δ H)(a:Addr)(o':HO)[P:Pull a Δ (Pt o) Δ'](m:Yw o=true:=by rfl):Sep ((a,Pt o')::Δ') (upd H a o'):=by
 obtain ⟨h,l,r,S⟩:=P.out S
 refine ⟨one a o',fun b u q=>?_,one_some.mpr ⟨rfl,rfl⟩,S.mono fun b u q=>?_⟩
 · obtain ⟨rfl,rfl⟩:=one_some.mp q;exact Zg
 · obtain ⟨q1,q2⟩:=cut_some.mp q
   have hb:b≠a:=fun z=>by
     have:=q2 o (by rw [z];exact r)
     rw [m] at this;cases this
   exact cut_some.mpr ⟨by rw [Zh hb];exact q1,fun v q=>absurd (one_some.mp q).1 hb⟩
theorem Sep.say {Δ Δ':Rs}{H:Hp}{R:YO}(S:Sep Δ H)(a:Addr)(T:YO)[P:Pull a Δ R Δ'](f:∀ h,R a h→T a h):Sep ((a,T)::Δ') H:=by
 obtain ⟨h,l,r,S⟩:=P.out S
 exact ⟨h,l,f h r,S⟩
theorem Sep.call {Δ:Rs}{H H':Hp}{a:Addr}{R T:YO}{L:List Addr}(S:Sep ((a,R)::Δ) H)(k:∀ b o,b ∉ L→H b=some o→H' b=some o)
   (f:∀ h,Same h H→R a h→(∀ b∈L,∃ o,h b=some o∧Yw o=true)∧∃ h',Same h' H'∧T a h'∧∀ b o,h' b=some o→Yw o=true→b∈L∨H b=none∨∃ u,h b=some u∧Yw u=true):Sep ((a,T)::Δ) H':=by
 obtain ⟨h,l,r,S⟩:=S
 obtain ⟨f1,h',l',t,f2⟩:=f h l r
 refine ⟨h',l',t,S.mono fun b o e=>?_⟩
 obtain ⟨e1,e2⟩:=cut_some.mp e
 have hb:b ∉ L:=fun z=>by
   obtain ⟨u,q1,q2⟩:=f1 b z
   rw [e2 u q1] at q2;cases q2
 refine cut_some.mpr ⟨k b o hb e1,fun u q=>?_⟩
 cases m:Yw u with
 | false=>rfl
 | true =>
   rcases f2 b u q m with z | z | ⟨v,z1,z2⟩
   · exact absurd z hb
   · rw [e1] at z;cases z
   · rw [e2 v z1] at z2;cases z2
abbrev Bx (n:Nat):YO:=fun a h=>BoxAt h a n
instance {n:Nat}:Up (Bx n):=⟨fun h s=>h.same s⟩
theorem Sep.box {Δ:Rs}{H H':Hp}{p:Addr}{n m:Nat}(S:Sep ((p,Bx n)::Δ) H)(k:Kp p H H')(B:BoxAt H' p m):Sep ((p,Bx m)::Δ) H':=by
 refine S.call (L:=[p]) (fun b o nb e=>k b o (fun z=>nb (by simp [z])) e) fun h l r=>⟨fun b hb=>?_,?_⟩
 · rw [List.mem_singleton.mp hb]
   obtain ⟨x,y,z,e,_⟩:=r
   exact ⟨_,e,rfl⟩
 · obtain ⟨x,y,z,e,w⟩:=B
   refine ⟨one p (.lst [.int x,.int y,.int z]),fun b u q=>?_,⟨x,y,z,one_some.mpr ⟨rfl,rfl⟩,w⟩,fun b o q _=>.inl (by simp [(one_some.mp q).1])⟩
   obtain ⟨rfl,rfl⟩:=one_some.mp q;exact e
def ZeW (M:Int):Sp:=fun vs H Q _=>∃(p:Addr)(n:Nat)(m:Int)(Δ:Rs),vs=[.ref p,.int m]∧Sep ((p,Bx n)::Δ) H∧n≤1000000∧0 < m∧m < M∧∀(r:Int)(H':Hp),0≤r→r < m→Sep ((p,Bx (n+1))::Δ) H'→Q (.int r) H'
theorem Zlh {M:Int}{vs:List V}{H:Hp}{Q:VK}{E:XK}(h:ZeW M vs H Q E):Uw M vs H Q E:=by
 obtain ⟨p,n,m,Δ,e,S,h1,h2,h3,q⟩:=h
 exact ⟨p,n,m,e,S.get p,h1,h2,h3,fun r H' a b B k=>q r H' a b (S.box k B)⟩
end L2
namespace L2
open PySem
theorem Zge {x:V}{u:Value}(h:ZfW u=some x):RelV x u:=by
 cases u<;>first | (cases h;exact rfl) | (cases h;exact ⟨_,rfl⟩) | cases h
theorem Zam:∀{xs:List V}{us:List Value},us.map ZfW=xs.map some→Vals xs us
 | [],[],_=>.nil
 | [],_::_,h=>by cases h
 | _::_,[],h=>by cases h
 | x::xs,u::us,h=>by
   rw [List.map_cons,List.map_cons,List.cons.injEq] at h
   exact .cons (Zge h.1) (Zam h.2)
def Zda (K:KF)(a:Addr)(vs:List V):Bool:=match K.lookup a with
 | some ⟨.type "tuple",_,.seq its _,_⟩=>decide (its.size≤100000)&&decide (its.toList.map ZfW=vs.map some)
 | _=>false
theorem Zei {K:KF}{a:Addr}{vs:List V}(h:Zda K a vs=true)(H:Hp):SqT K H a vs:=by
 unfold Zda at h
 split at h
 · rename_i its n _ hk
   simp only [Bool.and_eq_true,decide_eq_true_eq] at h
   exact .inr ⟨_,its,n,hk,rfl,rfl,Nat.le_trans h.1 (by decide),Zam h.2⟩
 · cases h
end L2
set_option maxHeartbeats 2000000
namespace L2
open PySem
def ZcY (J:It)(tc:TT)(te:TE)(σ:St)(D:Addr)(Q:VK)(H1:Hp):Prop :=
 ∃ W : Nat→Nat→List V→Hp→Prop,(∃ m,W 0 m [] (upd H1 D (.lst [])))∧∀ i m ys H2,W i m ys H2 →
   (J.stop i H2∧Q (.ref D) H2)∨(J.go i H2∧∃ (N:VK) (M:Hp→Prop),(∀ y H4,N y H4→H4 D=some (.lst ys)∧ys.length < sizeLine∧∃ m',m' < m∧W (i+1) m' (ys++[y]) (upd H4 D (.lst (ys++[y]))))∧(∀ H4,M H4→∃ m',m' < m∧W (i+1) m' ys H4) ∧
     ∀ v H3,J.yld i H2 v H3→tc (σ++[some v]) H3 fun b H4=>if b=true then te (σ++[some v]) H4 N else M H4)
def Zhh (wi:TI)(tc:TT)(te:TE):TE:=fun σ H Q=>wi σ H fun J H1=>∀ D,H1 D=none→ZcY J tc te σ D Q H1
section
variable {X:Cx}{elt iter cnd:Expr}{x:Str}{px pos:Pos}{scope:Scope}{wi:TI}{te:TE}{tc:TT}
theorem UY {prog:Program}{w:World}{A:Around}{R:Result→Shared→Prop}{s:Shared}{elt target iter cnd:Expr}{scope:Scope}{pos:Pos}{it acc:Value}{env:Env}(I:Nat→Shared→Prop)
   (turn : ∀ n s,I n s→wpAny (model prog w) A (pyNext it) (fun r s₁=>match r with
     | none=>R (.ok .next) s₁
     | some v=>wpAny (model prog w) A (letOwnedTupleGo target it v) (fun _ s1'=>wpAny (model prog w) A (assign target env v) (fun _ s₂=>wpAny (model prog w) A (isTrue cnd env (eval cnd env)) (fun ok s2'=>if ok=true then wpAny (model prog w) A (eval elt env) (fun x s₃ =>
         wpAny (model prog w) A (call (.builtin "list.append") [acc,x]) (fun _ s₄=>∃ m,m < n∧I m s₄) (fun _ _=>False) s₃)
         (fun _ _=>False) s2' else ∃ m,m < n∧I m s2') (fun _ _=>False) s₂) (fun _ _=>False) s1') (fun _ _=>False) s₁) (fun _ _=>False) s)
   (n:Nat) (h:I n s) :
   codeAny (model prog w) A (.compLoop (.ListComp elt [⟨target,iter,[cnd],0⟩] scope pos) 0 it acc env) R s:=by
 refine codeAny_loop rfl I (fun n s hI=>?_) n h
 show wpAny _ _ ((compTurn (.ListComp elt [⟨target,iter,[cnd],0⟩] scope pos) 0 it acc env).onRaise (fun x=>do noteFrame x env;theTreesLotGoes x)) _ _ s
 refine wpAny_noted ?_
 rw [compTurn_list]
 refine wpAny_bind (wpAny_standAt (wpAny_bind (wpAny_mono (turn n s hI) (fun r s₁ h₁=>?_) fun _ _ h'=>h'.elim)))
 cases r with
 | none=>exact wpAny_pure h₁
 | some v =>
   refine wpAny_bind (wpAny_mono h₁ (fun _ s1' h1'=>?_) fun _ _ h'=>h'.elim)
   refine wpAny_bind (wpAny_mono h1' (fun _ s₂ h₂=>wpAny_bind (wpAny_tests_one (wpAny_mono h₂ (fun ok s₃ h₃=>?_) fun _ _ h'=>h'.elim))) fun _ _ h'=>h'.elim)
   cases ok with
   | false=>exact wpAny_pure ⟨rfl,h₃⟩
   | true =>
     exact wpAny_bind (wpAny_bind (wpAny_mono h₃ (fun x s₄ h₄=>wpAny_bind (wpAny_mono h₄ (fun _ s₅ h₅=>wpAny_pure (wpAny_pure ⟨rfl,h₅⟩)) fun _ _ h'=>h'.elim)) fun _ _ h'=>h'.elim))
theorem Zaj {pins:List (Addr×Obj)}{σ:St}{H2:Hp}{s₂:Shared}{J:It}{fp:List Addr}{it:Addr}{tn:Nat→Heap→Prop}{cl:List (Str×Addr)}{E:Zv}{Q:VK}{RR:Value→Addr→Result→Shared→Prop}
   (O:CompOk X scope x) (hc:X.calm=true) (cl1:∀ y c,cl.lookup y=some c→X.env.cells.lookup y=some c) (cl2:∀ y∈scope.names,y.2=.free→cl.lookup y.1≠none)
   (hcn:∀ cl C s₀ H₀ fp,PT (ZR X scope x cl C s₀ H₀ fp) cnd tc) (he:∀ cl C s₀ H₀ fp,PE (ZR X scope x cl C s₀ H₀ fp) elt te)
   (I2:Inv X pins σ H2 s₂) (T:UR X.prog X.w X.K (.Name x px) J fp it tn) (st:tn 0 s₂.heap) (f2:∀ b∈fp,Xc X pins H2 b)
   (h:∀ D,H2 D=none→ZcY J tc te σ D Q H2)
   (hRR:∀ D C H' s',Inv X pins σ H' s'→Xc X pins H' C→(∃ m,s'.heap.Ns C m)→Q (.ref D) H'→RR (.ref D) C (.ok .next) s') :
   wpAny (model X.prog X.w) X.A (newList []) (fun acc s₃=>wpAny (model X.prog X.w) X.A (newFunctionEnv scope X.env.globals cl [] X.env.qual none .none (some X.env)) (fun cenv s₄ =>
     codeAny (model X.prog X.w) X.A (.compStart (.ListComp elt [⟨.Name x px,iter,[cnd],0⟩] scope pos) 0 (.ref it) acc { cenv with scope:=relabel scope X.env }) (RR acc cenv.locals) s₄) E s₃) E s₂:=by
 have hD:H2 s₂.heap.objs.size=none:=I2.hok.fresh (Nat.le_refl _)
 refine wpAny_newObj_type ?_
 have I3:Inv X pins σ (upd H2 s₂.heap.objs.size (.lst [])) { s₂ with heap:=s₂.heap.push { cls:=.type "list",data:=.seq ([]:List Value).toArray } } :=
   I2.laid (t':=s₂.toks) (fun b u e=>Heap.get?_push_of_some _ e) (Nat.le_refl _) ⟨Nat.zero_le _,[],_,.nil,Heap.get?_push_size _ rfl⟩
 have f3:∀ b∈fp,Xc X pins (upd H2 s₂.heap.objs.size (.lst [])) b:=fun b hb=>by
   obtain ⟨g0,g1⟩:=f2 b hb
   obtain ⟨o,e,_⟩:=T.obj 0 _ st b hb
   exact ⟨by rw [Zh (Nat.ne_of_lt (Heap.lt_size e))];exact g0,g1⟩
 have st3:tn 0 (s₂.heap.push { cls:=.type "list",data:=.seq ([]:List Value).toArray }):=T.keep _ _ _ st fun b hb o e=>Heap.get?_push_of_some _ e
 obtain ⟨W,⟨m0,w0⟩,turn⟩:=h _ hD
 generalize hDe:s₂.heap.objs.size=D at I3 f3 w0 turn ⊢
 generalize hH3:upd H2 D (.lst [])=H3 at I3 f3 w0 turn ⊢
 generalize hs3:({ s₂ with heap:=s₂.heap.push { cls:=.type "list",data:=.seq ([]:List Value).toArray } }:Shared)=s₃ at I3
 have st3':tn 0 s₃.heap:=by rw [← hs3];exact st3
 have hobj:∀ b∈fp,b < s₃.heap.objs.size:=fun b hb=>by
   obtain ⟨o,e,_⟩:=T.obj 0 _ st3' b hb
   exact Heap.lt_size e
 refine wpAny_newFunctionEnv O.cell (by intro y hy;simp at hy) (fun h₁ hns₁ hsb₁=>?_) O.kind
 have old:∀ b o,s₃.heap.get? b=some o→h₁.get? b=some o:=fun b o e=>hsb₁.extBut b o (Nat.ne_of_lt (Heap.lt_size e)) (Heap.get?_push_of_some _ e)
 generalize hs4:({ s₃ with heap:=h₁,toks:=s₃.toks+([]:List (Str×Value)).length }:Shared)=s₄
 have h4:s₄.heap=h₁:=by rw [← hs4]
 have hX:∀ C,Xc X pins C s₃.heap.objs.size→True:=fun _ _=>trivial
 have ok':(ZR X scope x cl s₃.heap.objs.size s₃ H3 fp).Ok:=by
   refine ⟨I3.ok.mod,O.kind,I3.ok.glob,I3.ok.blt,Nat.le_refl _,?_,?_,?_,I3.ok.hd,I3.ok.frames,.inl rfl,?_,I3.bs,Nat.le_trans I3.ok.bsz I3.sz,?_,?_,I3.stack,I3.stkFree⟩
   · exact fun y z c e1 e2=>I3.ok.inj y z c (cl1 y c e1) (cl1 z c e2)
   · intro y hk
     have hf:scope.names.lookup y=some .free:=by
       rcases hk with hk | hk
       · rcases ZO O.cell hk with q | q
         · exact absurd rfl (O.cell _ (mem_of_lookup q))
         · exact q.1
       · rcases ZO O.cell hk with q | q
         · exact q
         · cases q.2
     have:=cl2 _ (mem_of_lookup hf) rfl
     cases e:cl.lookup y with
     | none=>exact absurd e this
     | some c=>exact ⟨c,e⟩
   · intro y c hf;cases hf
   · intro b hb
     obtain ⟨g0,g1,g2,g3,g4,g5⟩:=f3 b hb
     exact ⟨Nat.ne_of_lt (hobj b hb),fun y c e=>g4 y c (cl1 y c e)⟩
   · intro b o e hb
     obtain ⟨g0,g1,g2,g3,g4,g5⟩:=f3 b hb
     rcases g3 with g3 | g3
     · exact I3.ok.noex b o e g3
     · exact absurd (Heap.lt_size e) (Nat.not_lt.mpr (Nat.le_trans I3.ok.bsz g3))
   · intro b hb hs
     obtain ⟨g0,g1,g2,g3,g4,g5⟩:=f3 b hb
     rcases List.mem_cons.mp (I3.stkSub b hs) with e | e
     · exact g1 e
     · exact g2 e
 have I4 : Inv (ZR X scope x cl s₃.heap.objs.size s₃ H3 fp) [] (σ++[none]) H3 s₄:=by
   obtain ⟨m,hm,hl⟩:=I3.loc
   refine ⟨ok',by rw [← hs4];rfl,by rw [← hs4];exact I3.bare,by rw [h4];exact Un.kept old,⟨_,by rw [h4];exact hns₁,?_⟩,?_,I3.hok.fresh (Nat.le_refl _),fun y c e=>I3.freeC y c (cl1 y c e),?_,by rw [h4];exact I3.hok.kept old,?_⟩
   · intro i y v e1 e2 e3
     have hlt:i < σ.length:=by
       rcases Nat.lt_or_ge i σ.length with z | z
       · exact z
       · rw [List.getElem?_append_right z] at e2
         cases e:i - σ.length with
         | zero=>rw [e] at e2;simp at e2
         | succ k=>rw [e] at e2;simp at e2
     rw [List.getElem?_append_left hlt] at e2
     have hsm:∃ k,scope.names.lookup y=some k:=by
       rcases e3 with hk | hk | hk
       · rcases ZO O.cell hk with q | q
         · exact ⟨_,q⟩
         · exact ⟨_,q.1⟩
       · rcases ZO O.cell hk with q | q
         · exact ⟨_,q⟩
         · exact ⟨_,q.1⟩
       · rcases ZO O.cell hk with q | q
         · exact ⟨_,q⟩
         · exact ⟨_,q.1⟩
     obtain ⟨e1',hyx⟩:X.N[i]?=some y∧y≠x:=by
       have e1:(WZ X.N x++[x])[i]?=some y:=e1
       rw [List.getElem?_append_left (by rw [WE,← I3.len];exact hlt)] at e1
       rcases ZeI e1 with z | z
       · exact z
       · obtain ⟨k,hk⟩:=hsm
         rw [z,O.noh] at hk;cases hk
     have hy:y∈X.N:=List.mem_of_getElem? e1'
     have hf:scope.names.lookup y=some .free:=by
       rcases e3 with hk | hk | hk
       · rcases ZO O.cell hk with q | q
         · exact absurd q (O.own y hy hyx)
         · exact q.1
       · rcases ZO O.cell hk with q | q
         · exact absurd rfl (O.cell _ (mem_of_lookup q))
         · exact q.1
       · rcases ZO O.cell hk with q | q
         · exact q
         · exact q.1
     have hk:=O.clos _ (mem_of_lookup hf) rfl
     have hv:Vis X.env.scope y:=by rcases hk with z | z;exact .inr (.inl z);exact .inr (.inr z)
     obtain ⟨u,ru,lu⟩:=hl i y v e1' e2 hv
     refine ⟨u,ru,?_⟩
     have hkc:(compEnvC scope cl s₃.heap.objs.size X.env).kindOf y=some .cell∨(compEnvC scope cl s₃.heap.objs.size X.env).kindOf y=some .free:=by
       rcases e3 with q | q | q
       · rcases ZO O.cell q with z | z
         · exact absurd z (O.own y hy hyx)
         · cases z.2
       · exact .inl q
       · exact .inr q
     rcases lu with ⟨q,_⟩ | ⟨_,c,hcl,hcc⟩
     · rcases hk with z | z<;>(rw [q] at z;cases z)
     · refine .inr ⟨hkc,?_⟩
       cases e:cl.lookup y with
       | none=>exact absurd e (cl2 _ (mem_of_lookup hf) rfl)
       | some c' =>
         have:=cl1 y c' e
         rw [hcl] at this
         cases this
         refine ⟨c,e,?_⟩
         rw [h4]
         obtain ⟨oc,ho,hd⟩:=hcc
         exact ⟨oc,old _ _ ho,hd⟩
   · intro y c e
     obtain ⟨v,oc,ho,hd⟩:=I3.cell y c (cl1 y c e)
     exact ⟨v,oc,by rw [h4];exact old _ _ ho,hd⟩
   · intro p hp;cases hp
   · show (σ++[none]).length=(WZ X.N x++[x]).length
     rw [List.length_append,List.length_append,WE,I3.len];rfl
 have st4:tn 0 s₄.heap:=by rw [h4];exact T.keep _ _ _ st3' fun b hb o e=>old b o e
 have fpok:∀ {H':Hp},(∀ b∈fp,H' b=none)→∀ b∈fp,Xc (ZR X scope x cl s₃.heap.objs.size s₃ H3 fp) [] H' b:=fun hn b hb=>by
   obtain ⟨g0,g1,g2,g3,g4,g5⟩:=f3 b hb
   refine ⟨hn b hb,Nat.ne_of_lt (hobj b hb),ok'.exfs b hb,.inl hb,fun y c e=>g4 y c (cl1 y c e),?_⟩
   intro p hp;cases hp
 have loop:codeAny (model X.prog X.w) X.A (.compLoop (.ListComp elt [⟨.Name x px,iter,[cnd],0⟩] scope pos) 0 (.ref it) (.ref D) (compEnvC scope cl s₃.heap.objs.size X.env)) (RR (.ref D) s₃.heap.objs.size) s₄:=by
   refine UY (fun n s'=>∃ i ys w' H',Inv (ZR X scope x cl s₃.heap.objs.size s₃ H3 fp) [] (σ++[w']) H' s'∧tn i s'.heap∧(∀ b∈fp,H' b=none)∧W i n ys H') ?_ m0 ⟨0,[],none,H3,I4,st4,fun b hb=>(f3 b hb).1,w0⟩
   rintro n s5 ⟨i,ys,w',H5,I5,st5,fr5,w5⟩
   rcases turn i n ys H5 w5 with ⟨stop,q⟩ | ⟨go,N,M,hN,hM,step⟩
   · refine Zr (T.done (ZR X scope x cl s₃.heap.objs.size s₃ H3 fp) rfl rfl rfl hc i [] s5 _ H5 _ I5 (fpok fr5) st5 stop) fun r s6 ⟨hr,I6⟩=>?_
     subst hr
     obtain ⟨m6,hn6,_⟩:=I6.loc
     have IX:Inv X pins σ H5 s6:=I3.call' (ch:=fp) I6.os I6.base I6.hok I6.bare fun b hb=>by
       obtain ⟨g0,g1,g2,g3,g4,g5⟩:=f3 b hb
       exact ⟨g3,g1,g4,g5⟩
     exact hRR D _ H5 s6 IX (I3.fpOk (Nat.le_refl _) I6.free) ⟨m6,hn6⟩ q
   · refine Zr (T.item (ZR X scope x cl s₃.heap.objs.size s₃ H3 fp) rfl rfl rfl hc i [] s5 _ H5 _ I5 (fpok fr5) st5 go) fun r s6 ⟨u,hr,h6⟩=>?_
     subst hr
     refine Zr h6 fun _ s7 ⟨v,H7,I7,r7,y7,st7,fr7⟩=>?_
     have I7':=I7.pinned (fpok fr7) (T.obj _ _ st7)
     have hixN:(ZR X scope x cl s₃.heap.objs.size s₃ H3 fp).N[σ.length]?=some x:=by
       show (WZ X.N x++[x])[σ.length]?=some x
       rw [I3.len,← WE X.N x];simp
     refine Zr (Yp (X:=ZR X scope x cl s₃.heap.objs.size s₃ H3 fp) (pos:=px) O.nd hixN (.inl (lookup_relabel_local O.loc)) (.inr (lookup_relabel_local O.loc)) _ s7 _ H7 v u (fun σ' H'=>σ'=σ++[some v]∧H'=H7) I7' r7 ⟨by simp,rfl⟩) fun _ s8 ⟨σ8,H8,I8,e8,e8'⟩=>?_
     subst e8 e8'
     refine Zr (hcn cl s₃.heap.objs.size s₃ H3 fp _ s8 _ H8 _ I8 (step v H8 y7)) fun bb s8b ⟨H8b,I8b,q8b⟩=>?_
     cases bb with
     | false =>
       obtain ⟨m',hm',w9⟩:=hM H8b q8b
       refine ⟨m',hm',i+1,ys,some v,_,I8b.unpinned (pins:=[]),T.keep _ _ _ st7 fun b hb o e=>(I8b.pin (b,o) (List.mem_append_right _ (List.mem_append_right _ (YL hb e)))).1,fun b hb=>?_,w9⟩
       obtain ⟨o,e,d⟩:=T.obj _ _ st7 b hb
       exact (I8b.pin (b,o) (List.mem_append_right _ (List.mem_append_right _ (YL hb e)))).2.1
     | true =>
       refine Zr (he cl s₃.heap.objs.size s₃ H3 fp _ s8b _ H8b _ I8b q8b) fun uy s9 ⟨y,H9,I9,r9,n9⟩=>?_
       obtain ⟨hl9,hz9,m',hm',w9⟩:=hN y H9 n9
       refine Zr (WY (X:=ZR X scope x cl s₃.heap.objs.size s₃ H3 fp) _ s9 _ H9 (.ref D) [y] (.ref D) [uy] (fun v H'=>H'=upd H9 D (.lst (ys++[y]))) I9 rfl (.cons r9 .nil) ⟨D,ys,y,rfl,rfl,hl9,hz9,rfl⟩) fun _ s10 ⟨_,H10,I10,_,e10⟩=>?_
       subst e10
       refine ⟨m',hm',i+1,ys++[y],some v,_,I10.unpinned (pins:=[]),T.keep _ _ _ st7 fun b hb o e=>(I10.pin (b,o) (List.mem_append_right _ (List.mem_append_right _ (YL hb e)))).1,fun b hb=>?_,w9⟩
       obtain ⟨o,e,d⟩:=T.obj _ _ st7 b hb
       exact (I10.pin (b,o) (List.mem_append_right _ (List.mem_append_right _ (YL hb e)))).2.1
 exact codeAny_compStart_list loop (T.self _ 0 _ _ _ st4 loop)
theorem Ziv (O:CompOk X scope x)(hc:X.calm=true)(hi:PI X (.Name x px) iter wi)(hcn:∀ cl C s₀ H₀ fp,PT (ZR X scope x cl C s₀ H₀ fp) cnd tc)(he:∀ cl C s₀ H₀ fp,PE (ZR X scope x cl C s₀ H₀ fp) elt te)
   (hs:∀ v,foldedSetIterable iter X.env v=pure v:=by intro _;rfl):PE X (.ListComp elt [⟨.Name x px,iter,[cnd],0⟩] scope pos) (Zhh wi tc te):=by
 intro pins s σ H Q I h
 obtain ⟨cl,hcl,cl1,cl2⟩:=UM (scope:=scope) (env:=X.env) fun y hy hf=>I.ok.has _ (O.clos y hy hf)
 rw [eval_ListComp]
 refine wpAny_comprehension_free (use:=none) rfl hs hcl O.kind O.names (Zr (hi pins s σ H _ I h) fun v s1 h1=>Zr h1 fun itv s2 h2=>?_)
 obtain ⟨it,fp,tn,J,H2,e,I2,T,st2,f2,q⟩:=h2
 subst e
 refine Zaj (RR:=fun acc C=>compPost (model X.prog X.w) X.A X.xe none (EP X pins σ Q) acc C) O hc cl1 cl2 hcn he I2 T st2 f2 q ?_
 intro D C H' s' I' ⟨g0,g1,g2,g3,g4,g5⟩ ⟨m,hm⟩ hq
 exact ⟨m,hm,fun h' hs'=>⟨.ref D,H',I'.turned (t':=s'.toks) (fun b o hb e=>(hs'.2 b hb).trans e) g0 g1 g3 g4 g5,rfl,hq⟩⟩
theorem Zag {i:Nat}{y:Str}{py spos:Pos}(O:CompOk X scope x)(hc:X.calm=true)(hN:X.N.Nodup)(hiN:X.N[i]?=some y)(hy:Loc X.env.scope y)(hi:PI X (.Name x px) iter wi)(hcn:∀ cl C s₀ H₀ fp,PT (ZR X scope x cl C s₀ H₀ fp) cnd tc)(he:∀ cl C s₀ H₀ fp,PE (ZR X scope x cl C s₀ H₀ fp) elt te)
   (hsw:swapsWith (.ListComp elt [⟨.Name x px,iter,[cnd],0⟩] scope pos) (some (.Name y py)) spos.line X.env=pure true) (hf:X.fn y=true∨X.env.scope.names.lookup y=some .local:=by first | exact .inl rfl | exact .inr rfl | assumption)
   (hs:∀ v,foldedSetIterable iter X.env v=pure v:=by intro _;rfl):PS X (.Assign [.Name y py] (.ListComp elt [⟨.Name x px,iter,[cnd],0⟩] scope pos) spos) (ZfO (Zhh wi tc te) (ZcX i)):=by
 intro pins s σ H D I h
 obtain ⟨cl,hcl,cl1,cl2⟩:=UM (scope:=scope) (env:=X.env) fun y hy hf=>I.ok.has _ (O.clos y hy hf)
 rw [exec_Assign_Name_used _ _ _ _ hsw]
 refine wpAny_bind (wpAny_standAt (wpAny_bind ?_))
 show wpAny _ X.A (do let _ ← comprehension (.ListComp elt [⟨.Name x px,iter,[cnd],0⟩] scope pos) scope X.env _ (newList []) false (eval iter X.env) (some (assign (.Name y py) X.env))) _ _ s
 refine wpAny_bind (wpAny_mono (wpAny_comprehension_free (use:=some (assign (.Name y py) X.env)) (Q:=fun _ s'=>SP X pins D .next s') rfl hs hcl O.kind O.names
   (Zr (hi pins s σ H _ I h) fun v s1 h1=>Zr h1 fun itv s2 h2=>?_)) (fun _ s' hq=>wpAny_pure (wpAny_pure hq)) fun _ _ e=>e)
 obtain ⟨it,fp,tn,J,H2,e,I2,T,st2,f2,q⟩:=h2
 subst e
 refine Zaj (RR:=fun acc C=>compPost (model X.prog X.w) X.A X.xe (some (assign (.Name y py) X.env)) (fun _ s'=>SP X pins D .next s') acc C) O hc cl1 cl2 hcn he I2 T st2 f2 q ?_
 intro Dl C H' s' I' ⟨g0,g1,g2,g3,g4,g5⟩ ⟨m,hm⟩ hq
 show wpAny _ X.A (assign (.Name y py) X.env (.ref Dl)) _ _ _
 refine wpAny_assign_Name (Zcz I' hN hiN hy (v:=.ref Dl) rfl (fun s'' I'' ⟨a,sb,ha⟩=>?_) hf)
 have haC:C≠a:=by
   rcases ha with z | z
   · rw [z];exact g1
   · exact fun z'=>g4 y a z z'.symm
 exact ⟨m,hm.sameBut sb haC,fun h' hs'=>⟨_,H',I''.turned (t':=s''.toks) (fun b o hb e=>(hs'.2 b hb).trans e) g0 g1 g3 g4 g5,hq⟩⟩
end
theorem ZgP {K:KF}{a:Addr}{xs:List V}{tc:TT}{te:TE}{σ:St}{D:Addr}{Q:VK}{H:Hp}(hn:xs.length≤sizeLine)(Pv:Nat→List V→Hp→Prop)(h0:Pv 0 [] (upd H D (.lst [])))
   (hl:∀ i ys H,Pv i ys H→ys.length≤i∧SqT K H a xs)
   (hs:∀ i x ys H,xs[i]?=some x→Pv i ys H→tc (σ++[some x]) H fun b H3=>if b=true then te (σ++[some x]) H3 fun y H4=>H4 D=some (.lst ys)∧Pv (i+1) (ys++[y]) (upd H4 D (.lst (ys++[y]))) else Pv (i+1) ys H3) (hd:∀ ys H,Pv xs.length ys H→Q (.ref D) H):ZcY (Itt K a) tc te σ D Q H:=by
 refine ⟨fun i m ys H=>m=xs.length - i∧i≤xs.length∧Pv i ys H,⟨xs.length,by simp,Nat.zero_le _,h0⟩,?_⟩
 rintro i m ys H2 ⟨rfl,hi,p⟩
 obtain ⟨hlen,q⟩:=hl i ys _ p
 by_cases hlt:i < xs.length
 · refine .inr ⟨⟨xs,xs[i],q,by simp [hlt]⟩,_,_,fun y H4 (q:H4 D=some (.lst ys)∧Pv (i+1) (ys++[y]) (upd H4 D (.lst (ys++[y]))))=>⟨q.1,by omega,xs.length - (i+1),by omega,rfl,hlt,q.2⟩,fun H4 (q:Pv (i+1) ys H4)=>⟨xs.length - (i+1),by omega,rfl,hlt,q⟩,fun v H3 y=>?_⟩
   obtain ⟨e,y⟩:=y
   subst e
   exact hs i v ys _ (y xs q) p
 · have e:i=xs.length:=by omega
   subst e
   exact .inl ⟨⟨xs,q,Nat.le_refl _⟩,hd ys H2 p⟩
theorem ZaY {K:KF}{a:Addr}{xs:List V}{tc:TT}{te:TE}{σ:St}{D:Addr}{Q:VK}{H:Hp}(hn:xs.length≤sizeLine)(Pv:Nat→List V→Hp→Prop)(h0:Pv 0 [] (upd H D (.lst [])))
   (hl:∀ i ys H,Pv i ys H→ys.length≤i∧SqL K H a xs)
   (hs:∀ i x ys H,xs[i]?=some x→Pv i ys H→tc (σ++[some x]) H fun b H3=>if b=true then te (σ++[some x]) H3 fun y H4=>H4 D=some (.lst ys)∧Pv (i+1) (ys++[y]) (upd H4 D (.lst (ys++[y]))) else Pv (i+1) ys H3) (hd:∀ ys H,Pv xs.length ys H→Q (.ref D) H):ZcY (Itl K a) tc te σ D Q H:=by
 refine ⟨fun i m ys H=>m=xs.length - i∧i≤xs.length∧Pv i ys H,⟨xs.length,by simp,Nat.zero_le _,h0⟩,?_⟩
 rintro i m ys H2 ⟨rfl,hi,p⟩
 obtain ⟨hlen,q⟩:=hl i ys _ p
 by_cases hlt:i < xs.length
 · refine .inr ⟨⟨xs,xs[i],q,by simp [hlt]⟩,_,_,fun y H4 (q:H4 D=some (.lst ys)∧Pv (i+1) (ys++[y]) (upd H4 D (.lst (ys++[y]))))=>⟨q.1,by omega,xs.length - (i+1),by omega,rfl,hlt,q.2⟩,fun H4 (q:Pv (i+1) ys H4)=>⟨xs.length - (i+1),by omega,rfl,hlt,q⟩,fun v H3 y=>?_⟩
   obtain ⟨e,y⟩:=y
   subst e
   exact hs i v ys _ (y xs q) p
 · have e:i=xs.length:=by omega
   subst e
   exact .inl ⟨⟨xs,q,Nat.le_refl _⟩,hd ys H2 p⟩
end L2
set_option maxHeartbeats 2000000
namespace L2
open PySem PySem.Spec PyProof.Rows
def hid2 (N:List Str)(xa xb:Str):List Str:=WZ (WZ N xa) xb
section
variable {X:Cx}{elt iter tg:Expr}{xa xb:Str}{pos:Pos}{scope:Scope}{wi:TI}{te:TE}{g:TG}
end
end L2
set_option maxHeartbeats 2000000
namespace L2
open PySem PySem.Spec PyProof.Rows
end L2
namespace L2
open PySem
structure Ws (mg:Str→Option Value):Prop where
 len:mg "len"=none
 abs:mg "abs"=none
 int:mg "int"=none
 range:mg "range"=none
 min:mg "min"=none
 max:mg "max"=none
 repr:mg "repr"=none
 enumerate:mg "enumerate"=none
 ord:mg "ord"=none
 list:mg "list"=none
 tuple:mg "tuple"=none
 dict:mg "dict"=none
 sorted:mg "sorted"=none
 sum:mg "sum"=none
 all:mg "all"=none
 any:mg "any"=none
 divmod:mg "divmod"=none
 str:mg "str"=none
 isinstance:mg "isinstance"=none
 set:mg "set"=none
 zip:mg "zip"=none
 reversed:mg "reversed"=none
 bool:mg "bool"=none
abbrev DTk (P:Program)(w:World)(K:KF)(mg:Str→Option Value)(base:Heap)(k:Nat):Prop:=Def P w K mg base k "_law_take" ["_law_box_here","_law_many"] (ZeW 4611686018427387904)
theorem FnOk.conv {P:Program}{w:World}{K:KF}{mg:Str→Option Value}{base:Heap}{k:Nat}{f:Addr}{fd:FuncData}{ps:List Str}{sp sp':Sp}(F:FnOk P w K mg base ZK k f fd ps sp)(h:∀ vs H Q E,sp' vs H Q E→sp vs H Q E):FnOk P w K mg base ZK k f fd ps sp' :=
 ⟨fun vs H Q E z=>F.len vs H Q E (h vs H Q E z),fun A outer s H args us vs Q E hr he hb hv z=>F.run A outer s H args us vs Q E hr he hb hv (h vs H Q E z)⟩
theorem Def.conv {P:Program}{w:World}{K:KF}{mg:Str→Option Value}{base:Heap}{k:Nat}{x:Str}{ps:List Str}{sp sp':Sp}(D:Def P w K mg base k x ps sp)(h:∀ vs H Q E,sp' vs H Q E→sp vs H Q E):Def P w K mg base k x ps sp' :=
 let ⟨f,fd,F,b,kp,m⟩:=D;⟨f,fd,F.conv h,b,kp,m⟩
theorem Zlo {α:Type}{xs:List α}{r:Int}{v:α}(h0:0≤r)(h:xs[r.toNat]?=some v):YI xs r=some v:=by
 have z:YI xs ((r.toNat:Nat):Int)=some v:=ZT h
 rwa [show ((r.toNat:Nat):Int)=r by omega] at z
theorem small {n m:Nat}(h:n≤m)(hm:m≤100000:=by decide):n≤sizeLine:=Nat.le_trans (Nat.le_trans h hm) (by decide)
end L2
set_option maxHeartbeats 2000000
namespace L2
open PySem
def DefM (P:Program)(w:World)(K:KF)(mg:Str→Option Value)(base:Heap)(k:Nat)(C:Addr)(m:Str)(ps:List Str)(sp:Sp):Prop:=∃ f fd,FnOk P w K mg base ZK k f fd ps sp∧Binds K fd ps []∧Vs K C m f
theorem DefM.mono {P:Program}{w:World}{K:KF}{mg:Str→Option Value}{base:Heap}{j k:Nat}{C:Addr}{m:Str}{ps:List Str}{sp:Sp}(D:DefM P w K mg base j C m ps sp)(h:j≤k):DefM P w K mg base k C m ps sp :=
 let ⟨f,fd,F,b,q⟩:=D;⟨f,fd,F.mono h,b,q⟩
section
variable {X:Cx}{k:Nat}{C:Addr}{m:Str}{ps:List Str}{sp:Sp}{pos apos:Pos}{o e:Expr}{es:List Expr}{ta:TE}{t:TA}
theorem Yc {pl:Sem Bool}(D:DefM X.prog X.w X.K X.mg X.base k C m ps sp)(c:Cls X.K C)(hr:Room k X.A)(he:PE X o ta)(ha:PA X (e::es) t)
   (hst:starEach (e::es) X.env=(false,eval e X.env)::starEach es X.env:=by rfl) (hpl:(backTo pos (starEach es X.env)).any (·.1)=false:=by rfl)
   (ht:eval (.Call (.Attribute o m apos) (e::es) [] pos) X.env=(do
     let ov ← eval o X.env
     standAt apos.atName
     let (f,first) ← holding [ov] (getMethod ov m pl)
     callWith pos f first (backTo pos (starEach (e::es) X.env)) (backToKw pos (keywordEach [] X.env))):=by rfl) :
   PE X (.Call (.Attribute o m apos) (e::es) [] pos) (ZjN C m sp [] E0 ta t):=by
 obtain ⟨f,fd,F,b,q⟩:=D
 exact ZkL he c q F hr b .nil ZfK ha hst hpl ht
end
def Kq (S:List Addr)(H H':Hp):Prop:=∀ b o,b ∉ S→H b=some o→H' b=some o
theorem Kq.trans {S:List Addr}{H H1 H2:Hp}(a:Kq S H H1)(b:Kq S H1 H2):Kq S H H2:=fun x o n h=>b x o n (a x o n h)
theorem Kq.sub {S S':List Addr}{H H':Hp}(a:Kq S H H')(h:∀ b∈S,b∈S'):Kq S' H H':=fun x o n e=>a x o (fun z=>n (h x z)) e
theorem Same.kq {S:List Addr}{H H':Hp}(h:Same H H'):Kq S H H':=fun b o _ e=>h b o e
theorem ZaR {H:Hp}{a:Addr}{o:HO}:Kq [a] H (upd H a o):=fun b u n e=>by rw [Zh (fun z=>n (by simp [z]))];exact e
theorem tn:¬ (("nodes":Str)="tables"):=by decide +kernel
def VD (ln dt:Addr):List (Str×V):=Xk "tables" (.ref dt) (Xk "nodes" (.ref ln) [])
theorem Xh (ln dt:Addr):(VD ln dt).lookup ("nodes":Str)=some (.ref ln):=by unfold VD;rw [YW,if_neg tn,YW,if_pos rfl]
theorem Zgs (ln dt:Addr):(VD ln dt).lookup ("tables":Str)=some (.ref dt):=by unfold VD;rw [YW,if_pos rfl]
theorem Zkc (ln dt:Addr){m:Str}(h1:¬ m="tables")(h2:¬ m="nodes"):(VD ln dt).lookup m=none:=by
 unfold VD
 rw [YW,if_neg h1,YW,if_neg h2]
 rfl
theorem ZC (ln dt:Addr){m:Str}(h1:¬ m="tables":=by decide +kernel)(h2:¬ m="nodes":=by decide +kernel):(VD ln dt).lookup m=none:=Zkc ln dt h1 h2
structure StoreAt (K:KF)(C st ln dt:Addr)(H:Hp)(nds:List Nd)(tabs:ZH):Prop where
 ob:∃ dx,H st=some (.ins C dx (VD ln dt))
 nl:∃ as:List Addr,H ln=some (.lst (as.map V.ref))∧as.length=nds.length∧∀ (i:Nat) (a:Addr) (n:Nd),as[i]?=some a→nds[i]?=some n→NodeAt K H a n
 tb:H dt=some (.dK tabs)
theorem StoreAt.keep {K:KF}{C st ln dt:Addr}{H H':Hp}{nds:List Nd}{tabs:ZH}(S:StoreAt K C st ln dt H nds tabs)(h:Same H H'):StoreAt K C st ln dt H' nds tabs:=by
 obtain ⟨⟨dx,e⟩,⟨as,e2,l,hn⟩,e3⟩:=S
 exact ⟨⟨dx,h _ _ e⟩,⟨as,h _ _ e2,l,fun i a n x y=>(hn i a n x y).tf h.tf⟩,h _ _ e3⟩
theorem StoreAt.kq {K:KF}{C st ln dt:Addr}{H H':Hp}{nds:List Nd}{tabs:ZH}{L:List Addr}(S:StoreAt K C st ln dt H nds tabs)(k:Kq L H H')(t:TF H H')(h1:st ∉ L)(h2:ln ∉ L)(h3:dt ∉ L):StoreAt K C st ln dt H' nds tabs:=by
 obtain ⟨⟨dx,e⟩,⟨as,e2,l,hn⟩,e3⟩:=S
 exact ⟨⟨dx,k _ _ h1 e⟩,⟨as,k _ _ h2 e2,l,fun i a n x y=>(hn i a n x y).tf t⟩,k _ _ h3 e3⟩
theorem Grown.kq {Pl:Addr}{H H':Hp}(g:Grown Pl H H'):Kq [Pl] H H':=fun b o n e=>g b o (fun z=>n (by simp [z])) e
theorem LamAt.kq {H H':Hp}{Pl:Addr}{lpos:Pos}{q:Str}{L:List Addr}(h:LamAt H Pl lpos q)(k:Kq L H H')(hL:∀ b∈L,∃ xs,H b=some (.lst xs)):LamAt H' Pl lpos q:=by
 rcases h with h | ⟨c,h,h2⟩
 · exact .inl (k _ _ (fun z=>by obtain ⟨_,e⟩:=hL _ z;rw [h] at e;cases e) h)
 · exact .inr ⟨c,k _ _ (fun z=>by obtain ⟨_,e⟩:=hL _ z;rw [h] at e;cases e) h,k _ _ (fun z=>by obtain ⟨_,e⟩:=hL _ z;rw [h2] at e;cases e) h2⟩
theorem Ziu {κ:Type}[DecidableEq κ]{kvs:List (κ×V)}{k:κ}{v:V}{q:κ×V}(h:q∈ZZ kvs k v):q.1=k∨∃ r∈kvs,q.1=r.1:=by
 unfold ZZ at h
 split at h
 · obtain ⟨r,hr,e⟩:=List.mem_map.mp h
   split at e
   · rw [← e];exact .inr ⟨r,hr,rfl⟩
   · rw [← e];exact .inr ⟨r,hr,rfl⟩
 · rcases List.mem_append.mp h with h | h
   · exact .inr ⟨q,h,rfl⟩
   · rw [List.mem_singleton.mp h];exact .inl rfl
theorem ZiB {κ:Type}[DecidableEq κ]{kvs:List (κ×V)}{k:κ}{v:V}:(ZZ kvs k v).length≤kvs.length+1:=by
 unfold ZZ
 split
 · rw [List.length_map];omega
 · rw [List.length_append];exact Nat.le_refl _
theorem ZkC {κ:Type}[DecidableEq κ]{kvs:List (κ×V)}{k:κ}{v:V}:ZZ kvs k v≠[]:=by
 unfold ZZ
 split
 · rename_i h
   intro z
   rw [List.map_eq_nil_iff] at z
   rw [z] at h;cases h
 · intro z;simp at z
theorem ZbU {α:Type}{xs:List α}{r:Int}(h0:0≤r)(h1:r < (xs.length:Int)):∃ v,YI xs r=some v∧v∈xs:=by
 have hk:r.toNat < xs.length:=by omega
 have z:YI xs ((r.toNat:Nat):Int)=some xs[r.toNat]:=ZT (List.getElem?_eq_getElem hk)
 have e:((r.toNat:Nat):Int)=r:=by omega
 rw [e] at z
 exact ⟨_,z,List.getElem_mem hk⟩
def Ye:V→Prop
 | .int i=>i.natAbs≤10 ^ 31
 | .str x=>x.length≤41∧x.cps.toList.all sgn=true
 | _=>False
def ZfT:V→Bool
 | .int i=>decide (i.natAbs≤10 ^ 31)
 | .str x=>decide (x.length≤41)&&x.cps.toList.all sgn
 | _=>false
theorem ZaL {v:V}(h:ZfT v=true):Ye v:=by
 cases v with
 | int i=>exact of_decide_eq_true (p:=i.natAbs≤10 ^ 31) h
 | str x =>
   have h':(decide (x.length≤41)&&x.cps.toList.all sgn)=true:=h
   simp only [Bool.and_eq_true,decide_eq_true_eq] at h'
   exact h'
 | _=>cases h
def ZeO:Sp:=fun vs H Q _=>∃(p:Addr)(n:Nat),vs=[.ref p]∧BoxAt H p n∧n≤900000∧∀(v:V)(H':Hp),Ye v→BoxAt H' p (n+50)→Kp p H H'→Q v H'
def ZjL:List Stmt→Str
 | .Assign _ (.Constant (.str x) _ _) _::_=>x
 | _::r=>ZjL r
 | []=>Str.empty
theorem FnOk.ex {P:Program}{w:World}{K:KF}{mg:Str→Option Value}{base:Heap}{k:Nat}{f:Addr}{fd:FuncData}{ps:List Str}{ok:List Str→Prop}{sp:List Str→Sp}(F:∀ NS,ok NS→FnOk P w K mg base ZK k f fd ps (sp NS)) :
   FnOk P w K mg base ZK k f fd ps (fun vs H Q E=>∃ NS,ok NS∧sp NS vs H Q E) :=
 ⟨fun vs H Q E ⟨NS,N,h⟩=>(F NS N).len vs H Q E h,fun A outer s H args us vs Q E hr he hb hv ⟨NS,N,h⟩=>(F NS N).run A outer s H args us vs Q E hr he hb hv h⟩
def Ziy (P:Program)(w:World)(K:KF)(mg:Str→Option Value)(base:Heap)(k:Nat)(C:Addr)(x:Str)(ps:List Str)(sp:Sp):Prop:=∃ f fd,FnOk P w K mg base ZK k f fd ps sp∧Binds K fd ps []∧Mk K C f∧mg x=some (.ref C)
theorem ZmH {X:Cx}{k:Nat}{C:Addr}{x:Str}{ps:List Str}{sp:Sp}{p pos:Pos}(D:Ziy X.prog X.w X.K X.mg X.base k C x ps sp)(hr:Room (k+1) X.A)(hg:Gl X x:=by rfl)(hdb:(x == ("__debug__":Str))=false:=by decide) :
   PE X (.Call (.Name x p) [] [] pos) (ZjB C sp [] E0 Wr):=by
 obtain ⟨f,fd,F,b,M,m⟩:=D
 exact Zin M F hr hg m b .nil ZfK hdb
theorem SqL.obj {K:KF}{H:Hp}{a:Addr}{xs:List V}(h:SqL K H a xs):(∀ H',SqL K H' a xs)∨∃ o,H a=some o∧(∀ tb,o≠.tbl tb)∧∀ H',H' a=some o→SqL K H' a xs:=by
 rcases h with (h | ⟨o,h⟩) | h
 · exact .inr ⟨_,h,(fun tb z=>by cases z),fun H' e=>.inl (.inl e)⟩
 · exact .inr ⟨_,h,(fun tb z=>by cases z),fun H' e=>.inl (.inr ⟨o,e⟩)⟩
 · exact .inl fun H'=>.inr h
theorem Uc {H H':Hp}{a:Addr}(s:Same H H')(h:H' a=none):H a=none:=by
 cases e:H a with
 | none=>rfl
 | some o=>rw [s _ _ e] at h;cases h
end L2
set_option maxHeartbeats 4000000
namespace K14
open PySem L2
def top (i:Nat):Stmt:=PySem.Challenge.pw_roadsettings_k14_shapes_by_any_road.main.body.getD i (.Pass ⟨0,0,0,0⟩)
abbrev s_alike:Stmt:=top 6
abbrev s_mark:Stmt:=top 7
abbrev s_digit:Stmt:=top 8
abbrev s_leaf_of:Stmt:=top 13
abbrev s_fork_of:Stmt:=top 14
abbrev s_parts_in:Stmt:=top 15
abbrev s_pairs_in:Stmt:=top 16
abbrev s_has_mark:Stmt:=top 17
abbrev c_Store___init__:Stmt:=Yt (top 19) 0
abbrev c_Store_put:Stmt:=Yt (top 19) 2
abbrev c_Store_without:Stmt:=Yt (top 19) 3
abbrev c_Store_looked:Stmt:=Yt (top 19) 4
abbrev c_Store_many:Stmt:=Yt (top 19) 5
abbrev c_Store_pairs:Stmt:=Yt (top 19) 6
abbrev c_Store_way:Stmt:=Yt (top 19) 7
abbrev c_Store_node:Stmt:=Yt (top 19) 8
abbrev c_Store_check_table:Stmt:=Yt (top 19) 10
abbrev c_Store_pairs_below:Stmt:=Yt (top 19) 11
abbrev c_Store_keep:Stmt:=Yt (top 19) 12
abbrev c_Store_as_table:Stmt:=Yt (top 19) 13
abbrev c_Store_put_in:Stmt:=Yt (top 19) 14
abbrev c_Store_fork_parts:Stmt:=Yt (top 19) 15
abbrev c_Store_taken_from:Stmt:=Yt (top 19) 16
abbrev s_differing:Stmt:=top 21
abbrev s_compare:Stmt:=top 22
abbrev s_unlike_names:Stmt:=top 23
abbrev s_l_cell_at:Stmt:=top 25
abbrev s_l_box:Stmt:=top 26
abbrev s_l_take:Stmt:=top 27
abbrev s_l_of_mark:Stmt:=top 28
abbrev s_l_names:Stmt:=top 29
abbrev s_l_value:Stmt:=top 30
abbrev s_l_tree:Stmt:=top 31
abbrev s_l_by:Stmt:=top 32
abbrev s_law:Stmt:=top 33
section
variable {P:Program}{w:World}{K:KF}{mg:Str→Option Value}{base:Heap}
theorem scC:Zw ["_law_script","_law_k"] ["_law_script","_law_k"] (Zn s_l_cell_at):=⟨rfl,rfl,rfl,by decide +kernel,rfl,by decide +kernel,by decide +kernel⟩
theorem Zka {f:Addr}{fd:FuncData}(F:Fun K "_law_cell_at" "_law_cell_at" s_l_cell_at f fd)(T:Ws mg):FnOk P w K mg base ZK 1 f fd ["_law_script","_law_k"] (Zhx K):=by
 refine F.ok scC (fun vs H Q E h=>?_) (fun cdv A outer s H vs Q E hr h=>?_)
 · obtain ⟨a,ns,k,rfl,_⟩:=h;rfl
 obtain ⟨a,ns,k,rfl,hS,h0,q⟩:=h
 refine ⟨_,Ze (Yo (ZE Zbo (pv 1) (ZD ZV rfl T.len PySem.boot_len (Ys (pv 0) Za)) (ZJ _)) (Zj (Zt (ZB ZI (pv 0) (pv 1) (fun _ _=>rfl)))) ZU)
   (Zj (Zt Zd)),?_⟩
 refine ⟨_,rfl,_,rfl,a,_,rfl,.inl hS,_,_,rfl,rfl,_,rfl,?_⟩
 refine Yd (fun c=>?_) (fun c=>?_)
 · have c':k < (((ns.map V.int).length:Nat):Int):=of_decide_eq_true c
   rw [List.length_map] at c'
   have hk:k.toNat < ns.length:=by omega
   have ek:k=((k.toNat:Nat):Int):=by omega
   have hat:YI (ns.map V.int) k=some (.int ns[k.toNat]):=by
     have z:YI (ns.map V.int) ((k.toNat:Nat):Int)=some (.int ns[k.toNat]):=ZT (by rw [List.getElem?_map,List.getElem?_eq_getElem hk];rfl)
     rwa [← ek] at z
   exact ⟨_,rfl,_,rfl,a,_,_,_,rfl,rfl,hS,hat,q _⟩
 · exact q 0
theorem scB:Zw ["_law_script","_law_k","_law_cell"] ["_law_script","_law_k"] (Zn s_l_box):=⟨rfl,rfl,rfl,by decide +kernel,rfl,by decide +kernel,by decide +kernel⟩
theorem Zlt {f:Addr}{fd:FuncData}(F:Fun K "_law_box" "_law_box" s_l_box f fd)(T:Ws mg)(D:Def P w K mg base 1 "_law_cell_at" ["_law_script","_law_k"] (Zhx K)):FnOk P w K mg base ZK 2 f fd ["_law_script","_law_k"] (Zjq K):=by
 refine F.ok scB (fun vs H Q E h=>?_) (fun cdv A outer s H vs Q E hr h=>?_)
 · obtain ⟨a,ns,k,rfl,_⟩:=h;rfl
 obtain ⟨a,ns,k,rfl,hS,h0,h1,q⟩:=h
 refine ⟨_,Ze (Zs (i:=2) scB.nd rfl (Or.inl rfl) (Zx D hr (Ys (pv 0) (Ys (pv 1) Za))))
   (Zj (Zt (Xq (Ys (Zo Xm (ZD Zde rfl T.abs (by decide +kernel) (Ys (pv 2) Za)) (ZX ZhN rfl T.int (by decide +kernel) (Ys (VZ ZmF (ZD Zde rfl T.abs (by decide +kernel) (Ys (pv 2) Za)) (Zo VB Zd Zd) (ZJ _)) Za)))
     (Ys (Zo Yi (Zo Yi (Zo Xo (pv 2) Zd) (Zo Xm Zd (pv 1))) Zd) (Ys Zd Za)))))),?_⟩
 refine ⟨_,rfl,_,rfl,a,ns,k,rfl,hS,h0,fun r=>?_⟩
 refine ⟨_,rfl,_,rfl,⟨_,rfl,_,rfl,_,_,rfl,rfl,⟨by decide,by decide,by decide⟩,_,_,rfl,rfl,.inr ⟨_,rfl,?_⟩⟩⟩
 generalize hb:decide ((10:Int) ^ (Int.toNat 18)≤(if r < 0 then -r else r))=bb
 refine ⟨_,_,rfl,rfl,.inr (by cases bb<;>exact ⟨by decide,by decide⟩),_,rfl,_,_,rfl,rfl,(by show (0:Int) < _;decide),_,rfl,_,_,rfl,rfl,.inl ⟨by decide,by decide⟩,_,_,rfl,rfl,_,_,rfl,rfl,(by show 3≤sizeLine;decide),fun p hp=>?_⟩
 refine q p _ hp ⟨_,_,0,Zg,?_,by decide,by decide⟩ (Zm hp _)
 cases bb
 · simp
 · simp only [if_true,Int.mul_one];split<;>omega
theorem scT:Zw ["_law_box_here","_law_many","_law_found","_law_once","_law_twice"] ["_law_box_here","_law_many"] (Zn s_l_take):=⟨rfl,rfl,rfl,by decide +kernel,rfl,by decide +kernel,by decide +kernel⟩
theorem Zky {f:Addr}{fd:FuncData}(F:Fun K "_law_take" "_law_take" s_l_take f fd):FnOk P w K mg base ZK 1 f fd ["_law_box_here","_law_many"] (Uw 4611686018427387904):=by
 refine F.ok scT (fun vs H Q E h=>?_) (fun cdv A outer s H vs Q E hr h=>?_)
 · obtain ⟨p,n,m,rfl,_⟩:=h;rfl
 obtain ⟨p,n,m,rfl,⟨a,b,c,hp,ha,hc,hcn⟩,hn,hm0,hmM,q⟩:=h
 refine ⟨_,Ze (Yo (ZE Zfm (ZB ZI (pv 0) Zd (fun _ _=>rfl)) Zd (ZJ _))
     (Ze (Zs (i:=2) scT.nd rfl (Or.inl rfl) (Zo Xo (ZB ZI (pv 0) Zd (fun _ _=>rfl)) (pv 1)))
       (Ze (Uu (Zo Zir (ZB ZI (pv 0) Zd (fun _ _=>rfl)) (pv 1)) (VM (pv 0) Zd WQ)) (Zj (Zt (pv 2))))) ZU)
   (Ze (Uu (Zo Yi (ZB ZI (pv 0) Zd (fun _ _=>rfl)) Zd) (VM (pv 0) Zd WQ))
   (Ze (Zs (i:=3) scT.nd rfl (Or.inl rfl) (Zo Xo (Zo Xm (Zo Yi (ZB ZI (pv 0) Zd (fun _ _=>rfl)) (Zo Xm Zd (ZB ZI (pv 0) Zd (fun _ _=>rfl)))) (Zo Yi Zd (ZB ZI (pv 0) Zd (fun _ _=>rfl)))) Zd))
   (Ze (Zs (i:=4) scT.nd rfl (Or.inl rfl) (Zo Xo (Zo Xm (Zo Yi (pv 3) (ZB ZI (pv 0) Zd (fun _ _=>rfl))) (Zo Yi (Zo Xo (pv 3) Zd) Zd)) Zd))
   (Zj (Zt (Zo Xo (Zo WG (Zo Xo (Zo Yi (Zo Xm (pv 4) Zd) (pv 3)) Zd) Zd) (pv 1))))))),?_⟩
 refine ⟨_,rfl,p,_,_,_,rfl,rfl,SqL.of hp,rfl,_,_,rfl,rfl,_,rfl,?_⟩
 refine Yd (fun c'=>?_) (fun c'=>?_)
 · have h0:0 < a:=of_decide_eq_true c'
   refine ⟨_,rfl,p,_,_,_,rfl,rfl,SqL.of hp,rfl,_,rfl,_,_,rfl,rfl,hm0,?_⟩
   refine ⟨_,rfl,p,_,_,_,rfl,rfl,SqL.of hp,rfl,_,rfl,_,_,rfl,rfl,⟨hm0,by have h4:m < 4611686018427387904:=hmM;omega⟩,?_⟩
   refine ⟨_,rfl,p,_,_,_,rfl,rfl,hp,rfl,?_⟩
   refine ⟨_,rfl,?_⟩
   exact q _ _ (Int.emod_nonneg _ (by omega)) (Int.emod_lt_of_pos _ hm0) ⟨a / m,b,c,Zg,Int.ediv_nonneg ha (by omega),hc,by omega⟩ (Kp.upd _ _ _)
 · refine ⟨_,rfl,p,_,_,_,rfl,rfl,SqL.of hp,rfl,_,_,rfl,rfl,?_⟩
   refine ⟨_,rfl,p,_,_,_,rfl,rfl,hp,rfl,?_⟩
   have hp1:upd H p (.lst [.int a,.int b,.int (c+1)]) p=some (.lst [.int a,.int b,.int (c+1)]):=Zg
   refine ⟨_,rfl,p,_,_,_,rfl,rfl,SqL.of hp1,rfl,_,rfl,p,_,_,_,rfl,rfl,SqL.of hp1,rfl,_,_,rfl,rfl,.inl ⟨by decide,by decide⟩,_,_,rfl,rfl,_,rfl,p,_,_,_,rfl,rfl,SqL.of hp1,rfl,_,_,rfl,rfl,_,_,rfl,rfl,.inr ⟨by omega,by omega⟩,_,_,rfl,rfl,(by show (0:Int) < _;decide),?_⟩
   generalize hO:((b+48271 * (c+1)) * (39373+(c+1))) % 2147483647=once
   have hO0:0≤once:=by rw [← hO];exact Int.emod_nonneg _ (by decide)
   refine ⟨_,rfl,_,rfl,p,_,_,_,rfl,rfl,SqL.of hp1,rfl,_,_,rfl,rfl,_,rfl,_,_,rfl,rfl,(by show (0:Int) < _;decide),_,_,rfl,rfl,_,_,rfl,rfl,.inr ?_,_,_,rfl,rfl,(by show (0:Int) < _;decide),?_⟩
   · have:=Int.emod_nonneg once (show (40009:Int)≠0 by decide)
     have:=Int.emod_lt_of_pos once (show (0:Int) < 40009 by decide)
     exact ⟨by omega,by omega⟩
   generalize hW:((once+(c+1)) * (once % 40009+7)) % 2147483629=twice
   refine ⟨_,rfl,_,_,rfl,rfl,.inr ⟨by decide,by decide⟩,_,rfl,_,_,rfl,rfl,_,_,rfl,rfl,(by show (0:Int) < _;decide),_,_,rfl,rfl,⟨by decide,by decide⟩,_,rfl,_,_,rfl,rfl,hm0,?_⟩
   exact q _ _ (Int.emod_nonneg _ (by omega)) (Int.emod_lt_of_pos _ hm0) ⟨a,b,c+1,hp1,ha,by omega,by omega⟩ (Kp.upd _ _ _)
end
structure Txt (K:KF)(mg:Str→Option Value):Prop extends Ws mg where
 base:∃ t,mg "BASE"=some (.int 4 t)
 zero:∃ t,mg "BARE_NUMBER"=some (.int 0 t)
 bare:∃ a,mg "BARE"=some (.ref a)∧∀ H,SqT K H a [.str "bare"]
 figs:∃ a,mg "FIGURES"=some (.ref a)∧∀ H,SqT K H a [.int 0,.int 1,.int 2,.int 3]
section
variable {P:Program}{w:World}{K:KF}{mg:Str→Option Value}{base:Heap}
def Wd (l:List Nat):Nat→Int
 | 0=>0
 | i+1=>Wd l i+((i:Int)+1) * (((l.getD i 0:Nat):Int) - 97+1)
def Wm:Sp:=fun vs H Q _=>∃ x:Str,vs=[.str x]∧x.length≤1000∧∀ H',Same H H'→Q (.int (Wd x.cps.toList x.length)) H'
def Wg:Sp:=fun vs H Q _=>∃(n:Int)(k:Nat),vs=[.int n,.int k]∧0≤n∧k≤1000∧Q (.int (n / 4 ^ k % 4)) H
theorem oa:(Str.ofString "a").cps.getD 0 0=97:=by decide +kernel
theorem scM:Zw ["name","total","place","letter"] ["name"] (Zn s_mark):=⟨rfl,rfl,rfl,by decide +kernel,rfl,by decide +kernel,by decide +kernel⟩
theorem Zkb {f:Addr}{fd:FuncData}(F:Fun K "mark" "mark" s_mark f fd)(T:Txt K mg):FnOk P w K mg base ZK 1 f fd ["name"] Wm:=by
 refine F.ok scM (fun vs H Q E h=>?_) (fun cdv A outer s H vs Q E hr h=>?_)
 · obtain ⟨x,rfl,_⟩:=h;rfl
 obtain ⟨x,rfl,hx,q⟩:=h
 refine' ⟨?t,?h,?r⟩
 case h =>
   conv=>arg 2;whnf
   with_reducible refine' Ze ?a1 (Ze ?a2 (Zj ?a3))
   case a1=>exact Zs (i:=1) scM.nd rfl (Or.inl rfl) Zd
   case a2=>exact XF PassesOwn.never rfl (Ziq rfl T.enumerate (pv 0)) (Zej rfl (Wb (Yp (i:=2) scM.nd rfl (Or.inl rfl)) (Wb (Yp (i:=3) scM.nd rfl (Or.inl rfl)) Zci))) (Zj (Zhp (i:=1) scM.nd rfl (Or.inl rfl) (Zo Xm (pv 2) (Zo Yi (Zo Xd (ZD Zds rfl T.ord (by decide +kernel) (Zc (pv 3) Za)) (ZD Zds rfl T.ord (by decide +kernel) (Zc ZY Za))) Zd)) Zhb))
   case a3=>exact Zt (pv 1)
 refine ⟨_,rfl,x,rfl,?_⟩
 refine ZhR (fun i σ H'=>∃ y2 y3,σ=[some (.str x),some (.int (Wd x.cps.toList i)),y2,y3]∧Same H H'∧i≤x.cps.size) ⟨_,_,rfl,Same.refl H,Nat.zero_le _⟩ ?_ ?_
 · rintro i c t σ H1 hc ht ⟨y2,y3,rfl,s1,hi⟩
   have hi':i < x.cps.size:=(Array.getElem?_eq_some_iff.mp hc).1
   have hz:x.cps.size≤1000:=hx
   refine ⟨t,_,rfl,SqT.of Zg,rfl,_,_,rfl,_,_,rfl,rfl,?_⟩
   refine ⟨_,rfl,_,rfl,_,rfl,_,rfl,rfl,_,rfl,rfl,_,_,rfl,rfl,_,_,rfl,rfl,_,_,rfl,rfl,.inl ⟨by omega,by omega⟩,_,_,rfl,rfl,?_⟩
   have e:Wd x.cps.toList (i+1)=Wd x.cps.toList i+((i:Int)+1) * ((((⟨#[c]⟩:Str).cps.getD 0 0:Nat):Int) - (((Str.ofString "a").cps.getD 0 0:Nat):Int)+1):=by
     rw [oa]
     show Wd x.cps.toList i+((i:Int)+1) * (((x.cps.toList.getD i 0:Nat):Int) - 97+1)=Wd x.cps.toList i+((i:Int)+1) * ((c:Int) - 97+1)
     have e1:x.cps.toList.getD i 0=c:=by rw [List.getD_eq_getElem?_getD,Array.getElem?_toList,hc];rfl
     rw [e1]
   exact ⟨some (.int ((i:Int)+1)),some (.str ⟨#[c]⟩),by rw [e];rfl,s1.trans (Zm ht _),hi'⟩
 · rintro σ H1 ⟨y2,y3,rfl,s1,_⟩
   exact ⟨_,rfl,q H1 s1⟩
theorem scDg:Zw ["number","level","below"] ["number","level"] (Zn s_digit):=⟨rfl,rfl,rfl,by decide +kernel,rfl,by decide +kernel,by decide +kernel⟩
theorem Zii {f:Addr}{fd:FuncData}(F:Fun K "digit" "digit" s_digit f fd)(T:Txt K mg):FnOk P w K mg base ZK 1 f fd ["number","level"] Wg:=by
 refine F.ok scDg (fun vs H Q E h=>?_) (fun cdv A outer s H vs Q E hr h=>?_)
 · obtain ⟨n,k,rfl,_⟩:=h;rfl
 obtain ⟨n,k,rfl,hn,hk,q⟩:=h
 obtain ⟨tb,hb⟩:=T.base
 refine' ⟨?t,?h,?r⟩
 case h =>
   conv=>arg 2;whnf
   with_reducible refine' Ze ?a1 (Zj ?a2)
   case a1=>exact XF PassesOwn.never rfl (XN rfl T.range (Zc (pv 1) Za)) (Yp (i:=2) scDg.nd rfl (Or.inl rfl)) (Zj (Zs (i:=0) scDg.nd rfl (Or.inl rfl) (Zo WG (pv 0) (Xv rfl hb (v:=.int 4) ⟨_,rfl⟩))))
   case a2=>exact Zt (Zo Xo (pv 0) (Xv rfl hb (v:=.int 4) ⟨_,rfl⟩))
 refine ⟨_,rfl,k,rfl,by omega,by omega,?_⟩
 have ek:(k:Int).toNat=k:=by omega
 rw [ek]
 refine Wk (fun i σ H'=>∃ y,σ=[some (.int (n / 4 ^ i)),some (.int k),y]∧H'=H) ⟨_,by rw [Int.pow_zero,Int.ediv_one];rfl,rfl⟩ ?_ ?_
 · rintro i σ H1 hi ⟨y,rfl,rfl⟩
   have e:n / 4 ^ (i+1)=n / 4 ^ i / 4:=by rw [Int.pow_succ,← Int.ediv_ediv_of_nonneg (Int.pow_nonneg (by decide))]
   exact ⟨_,rfl,_,_,rfl,rfl,⟨by decide,by decide⟩,some (.int (0+(i:Int))),by rw [e];rfl,rfl⟩
 · rintro σ H1 ⟨y,rfl,rfl⟩
   exact ⟨_,rfl,_,_,rfl,rfl,(by show (0:Int) < 4;decide),q⟩
theorem nbf:decide (V.str (Str.ofString "bare")=V.str (Str.ofString "fork"))=false:=by decide +kernel
theorem nlf:decide (V.str (Str.ofString "leaf")=V.str (Str.ofString "fork"))=false:=by decide +kernel
theorem nbl:decide (V.str (Str.ofString "bare")=V.str (Str.ofString "leaf"))=false:=by decide +kernel
theorem nfl:decide (V.str (Str.ofString "fork")=V.str (Str.ofString "leaf"))=false:=by decide +kernel
theorem scPi:Zw ["node"] ["node"] (Zn s_parts_in):=⟨rfl,rfl,rfl,by decide +kernel,rfl,by decide +kernel,by decide +kernel⟩
theorem Zip {f:Addr}{fd:FuncData}(F:Fun K "parts_in" "parts_in" s_parts_in f fd):FnOk P w K mg base ZK 1 f fd ["node"] (Xr K):=by
 refine F.ok scPi (fun vs H Q E h=>?_) (fun cdv A outer s H vs Q E hr h=>?_)
 · obtain ⟨a,n,rfl,_⟩:=h;rfl
 obtain ⟨a,n,rfl,hn,q⟩:=h
 refine ⟨_,Zj (Zt (Wc (ZE YR (ZB YS (pv 0) Zd (fun _ _=>rfl)) ZY (ZJ _)) (ZB YS (pv 0) Zd (fun _ _=>rfl)) ZeG)),?_⟩
 cases n with
 | bare =>
   refine ⟨_,rfl,a,_,_,_,rfl,rfl,hn,rfl,rfl,_,rfl,?_⟩
   rw [nbf]
   exact Yr fun p o hp hd=>q p _ (Zm hp _) (.inl (.inr ⟨o,Zg⟩))
 | leaf m ps =>
   obtain ⟨t,e,_⟩:=hn
   refine ⟨_,rfl,a,_,_,_,rfl,rfl,e,rfl,rfl,_,rfl,?_⟩
   rw [nlf]
   exact Yr fun p o hp hd=>q p _ (Zm hp _) (.inl (.inr ⟨o,Zg⟩))
 | fork qs =>
   obtain ⟨t,e,e2,_⟩:=hn
   refine ⟨_,rfl,a,_,_,_,rfl,rfl,e,rfl,rfl,_,rfl,?_⟩
   rw [decide_eq_true rfl]
   exact Xg ⟨_,rfl,a,_,_,_,rfl,rfl,e,rfl,q t H (Same.refl H) e2⟩
theorem scPr:Zw ["node"] ["node"] (Zn s_pairs_in):=⟨rfl,rfl,rfl,by decide +kernel,rfl,by decide +kernel,by decide +kernel⟩
theorem ZiT {f:Addr}{fd:FuncData}(F:Fun K "pairs_in" "pairs_in" s_pairs_in f fd):FnOk P w K mg base ZK 1 f fd ["node"] (Xs K):=by
 refine F.ok scPr (fun vs H Q E h=>?_) (fun cdv A outer s H vs Q E hr h=>?_)
 · obtain ⟨a,n,rfl,_⟩:=h;rfl
 obtain ⟨a,n,rfl,hn,q⟩:=h
 refine ⟨_,Zj (Zt (Wc (ZE YR (ZB YS (pv 0) Zd (fun _ _=>rfl)) ZY (ZJ _)) (ZB YS (pv 0) Zd (fun _ _=>rfl)) ZeG)),?_⟩
 have nil:∀ p o,H p=none→o.dict=none→PairsAt (upd H p (.frz o (.tup []))) p []:=fun p o hp hd=>⟨o,[],Zg,hd,rfl,fun i a p e=>by simp at e⟩
 cases n with
 | bare =>
   refine ⟨_,rfl,a,_,_,_,rfl,rfl,hn,rfl,rfl,_,rfl,?_⟩
   rw [nbl]
   exact Yr fun p o hp hd=>q p _ (Zm hp _) (nil p o hp hd)
 | fork qs =>
   obtain ⟨t,e,_⟩:=hn
   refine ⟨_,rfl,a,_,_,_,rfl,rfl,e,rfl,rfl,_,rfl,?_⟩
   rw [nfl]
   exact Yr fun p o hp hd=>q p _ (Zm hp _) (nil p o hp hd)
 | leaf m ps =>
   obtain ⟨t,e,e2⟩:=hn
   refine ⟨_,rfl,a,_,_,_,rfl,rfl,e,rfl,rfl,_,rfl,?_⟩
   rw [decide_eq_true rfl]
   exact Xg ⟨_,rfl,a,_,_,_,rfl,rfl,e,rfl,q t H (Same.refl H) e2⟩
theorem scHm:Zw ["node","number"] ["node","number"] (Zn s_has_mark):=⟨rfl,rfl,rfl,by decide +kernel,rfl,by decide +kernel,by decide +kernel⟩
theorem Zkt {f:Addr}{fd:FuncData}(F:Fun K "has_mark" "has_mark" s_has_mark f fd):FnOk P w K mg base ZK 1 f fd ["node","number"] (VH K):=by
 refine F.ok scHm (fun vs H Q E h=>?_) (fun cdv A outer s H vs Q E hr h=>?_)
 · obtain ⟨a,n,m,rfl,_⟩:=h;rfl
 obtain ⟨a,n,m,rfl,hn,q⟩:=h
 refine ⟨_,Zj (Zt (ZlA (VZ YR (ZB YS (pv 0) Zd (fun _ _=>rfl)) ZY (ZJ _)) (Zli (VZ YR (ZB YS (pv 0) Zd (fun _ _=>rfl)) (pv 1) (ZJ _))))),?_⟩
 cases n with
 | bare =>
   refine ⟨_,rfl,a,_,_,_,rfl,rfl,hn,rfl,rfl,_,rfl,?_⟩
   rw [nbl]
   exact Yr q
 | fork qs =>
   obtain ⟨t,e,_⟩:=hn
   refine ⟨_,rfl,a,_,_,_,rfl,rfl,e,rfl,rfl,_,rfl,?_⟩
   rw [nfl]
   exact Yr q
 | leaf m' ps =>
   obtain ⟨t,e,e2⟩:=hn
   refine ⟨_,rfl,a,_,_,_,rfl,rfl,e,rfl,rfl,_,rfl,?_⟩
   rw [decide_eq_true rfl]
   refine Xg ⟨_,rfl,a,_,_,_,rfl,rfl,e,rfl,_,rfl,rfl,?_⟩
   have:decide (V.int m'=V.int m)=decide (m'=m):=by
     by_cases z:m'=m
     · subst z;rw [decide_eq_true rfl,decide_eq_true rfl]
     · rw [decide_eq_false z,decide_eq_false (fun y=>z (by cases y;rfl))]
   rw [this]
   exact q
theorem scFo:Zw ["parts"] ["parts"] (Zn s_fork_of):=⟨rfl,rfl,rfl,by decide +kernel,rfl,by decide +kernel,by decide +kernel⟩
theorem Zhg {f:Addr}{fd:FuncData}(F:Fun K "fork_of" "fork_of" s_fork_of f fd)(T:Txt K mg):FnOk P w K mg base ZK 1 f fd ["parts"] (WJ K):=by
 refine F.ok scFo (fun vs H Q E h=>?_) (fun cdv A outer s H vs Q E hr h=>?_)
 · obtain ⟨l,qs,rfl,_⟩:=h;rfl
 obtain ⟨l,qs,rfl,el,h4,q⟩:=h
 refine ⟨_,Zj (Zt (UJ (Zc ZY (Zc (ZX Vf rfl T.tuple (by decide +kernel) (Zc (pv 0) Za)) Za)))),?_⟩
 refine ⟨_,rfl,l,_,rfl,.inl ⟨SqL.of el,fun t ht=>⟨(by show 2≤sizeLine;decide),fun a ha=>?_⟩⟩⟩
 exact q a _ ((Zm ht _).trans (Zm ha _)) ⟨t,SqT.of Zg,SqT.of (Zm ha _ _ _ Zg),h4⟩
def pvl (H:Hp)(a:Addr):V:=match H a with
 | some (.tup [_,v])=>v
 | _=>.non
def UE (ps:Zu):Prop:=ps.Pairwise fun p q=>¬ (q.1.cps.toList < p.1.cps.toList)
theorem ZgD {H:Hp}{ts ts':List Addr}{ps:Zu}(h:PairT H ts ps)(o:Zdu (ps.map (·.1)) ts ts'):∃ ps',ps'.Perm ps∧UE ps'∧PairT H ts' ps':=by
 obtain ⟨zs,hp,e,hs⟩:=o
 have val:∀ (i:Nat) (a:Addr) (p:Str×V),ts[i]?=some a→ps[i]?=some p→pvl H a=p.2:=fun i a p e1 e2=>by unfold pvl;rw [h.2 i a p e1 e2]
 have hz:((ps.map (·.1)).zip ts).map (fun z=>(z.1,pvl H z.2))=ps:=by
   apply List.ext_getElem?
   intro i
   rw [List.getElem?_map]
   cases e2:ps[i]? with
   | none =>
     have:((ps.map (·.1)).zip ts)[i]?=none:=by
       rw [List.getElem?_eq_none_iff] at e2 ⊢
       rw [List.length_zip,List.length_map];omega
     rw [this];rfl
   | some p =>
     have hi:i < ps.length:=(List.getElem?_eq_some_iff.mp e2).1
     obtain ⟨a,ea⟩:∃ a,ts[i]?=some a:=⟨_,List.getElem?_eq_getElem (by rw [h.1];exact hi)⟩
     have:((ps.map (·.1)).zip ts)[i]?=some (p.1,a):=by
       rw [List.getElem?_zip_eq_some]
       exact ⟨by rw [List.getElem?_map,e2];rfl,ea⟩
     rw [this]
     show some (p.1,pvl H a)=some p
     rw [val i a p ea e2]
 refine ⟨zs.map fun z=>(z.1,pvl H z.2),?_,?_,?_⟩
 · have:=hp.map fun z:Str×Addr=>(z.1,pvl H z.2)
   rwa [hz] at this
 · unfold UE;rw [List.pairwise_map];exact hs
 · refine ⟨by rw [e,List.length_map,List.length_map],fun i a p e1 e2=>?_⟩
   rw [e,List.getElem?_map] at e1
   rw [List.getElem?_map] at e2
   cases ez:zs[i]? with
   | none=>rw [ez] at e1;cases e1
   | some z =>
     rw [ez] at e1 e2
     cases (show some z.2=some a from e1)
     cases (show some (z.1,pvl H z.2)=some p from e2)
     have hm:=hp.mem_iff.mp (List.mem_of_getElem? ez)
     obtain ⟨j,hj⟩:=List.mem_iff_getElem?.mp hm
     rw [List.getElem?_zip_eq_some] at hj
     obtain ⟨h1,h2⟩:=hj
     rw [List.getElem?_map] at h1
     cases e3:ps[j]? with
     | none=>rw [e3] at h1;cases h1
     | some pj =>
       rw [e3] at h1
       have h1':pj.1=z.1:=by simpa using h1
       have:=h.2 j z.2 pj h2 e3
       rw [this,val j z.2 pj h2 e3,h1']
def Zi (x:Str):Int:=Wd x.cps.toList x.length
def Xz:Str:=(("leaf_of":Str)++".<locals>.")++"<lambda>"
def VG (K:KF)(Pl:Addr)(lpos:Pos):Sp:=fun vs H Q _=>∃(l:Addr)(ts:List Addr)(ps:Zu),vs=[.ref l]∧H l=some (.lst (ts.map V.ref))∧PairT H ts ps∧ps≠[]∧ps.length < 64∧(∀ p∈ps,p.1.length≤1000)∧LamAt H Pl lpos Xz ∧
 ∀ (a:Addr) (H':Hp) (p1:Str×V) (pr:Zu),Grown Pl H H'→LamAt H' Pl lpos Xz→(p1::pr).Perm ps→UE (p1::pr)→NodeAt K H' a (.leaf (Zi p1.1) (p1::pr))→Q (.ref a) H'
theorem Grown.trans' {Pl:Addr}{H H1 H2:Hp}(a:Grown Pl H H1)(b:Same H1 H2):Grown Pl H H2:=fun x o n h=>b _ _ (a x o n h)
theorem LamAt.same {H H':Hp}{Pl:Addr}{lpos:Pos}{q:Str}(h:LamAt H Pl lpos q)(s:Same H H'):LamAt H' Pl lpos q:=by
 rcases h with h | ⟨c,h,h2⟩
 · exact .inl (s _ _ h)
 · exact .inr ⟨c,s _ _ h,s _ _ h2⟩
theorem scLf:Zw ["pairs","rising","first_name"] ["pairs"] (Zn s_leaf_of):=⟨rfl,rfl,rfl,by decide +kernel,rfl,by decide +kernel,by decide +kernel⟩
def ZlK:Stmt→Pos
 | .Assign _ (.Call _ _ [⟨_,.Lambda _ _ _ p,_⟩] _) _=>p
 | _=>⟨0,0,0,0⟩
def YE:Pos:=ZlK ((Xu s_leaf_of).getD 0 (.Pass ⟨0,0,0,0⟩))
theorem ZkF {f c Pl:Addr}{fd:FuncData}(F:FunC K "leaf_of" "leaf_of" s_leaf_of f fd c Pl)(T:Txt K mg)(hBm:Um base mg)(DM:Def P w K mg base 1 "mark" ["name"] Wm):FnOk P w K mg base ZK 2 f fd ["pairs"] (VG K Pl YE):=by
 refine F.ok scLf (fun vs H Q E h=>?_) (fun A outer s H vs Q E hr h=>?_)
 · obtain ⟨l,ts,ps,rfl,_⟩:=h;rfl
 obtain ⟨l,ts,ps,rfl,el,hpt,hne,h64,hnl,hL,q⟩:=h
 refine' ⟨?t,?h,?r⟩
 case h =>
   conv=>arg 2;whnf
   with_reducible refine' Ze ?a1 (Ze ?a2 (Zj ?a3))
   case a1=>exact Zs (i:=1) scLf.nd rfl (Or.inl rfl) (Zdr (c:=c) (Pl:=Pl) rfl T.sorted (pv 0) hr rfl F.hd hBm)
   case a2=>exact Zs (i:=2) scLf.nd rfl (Or.inl rfl) (ZB YS (ZB ZI (pv 1) Zd (fun _ _=>rfl)) Zd (fun _ _=>rfl))
   case a3=>exact Zt (UJ (Zc ZY (Zc (Zx DM hr (Zc (pv 2) Za)) (Zc (ZX Zaw rfl T.tuple (by decide +kernel) (Zc (pv 1) Za)) Za))))
 refine ⟨_,rfl,l,ts,ps.map (·.1),rfl,el,by rw [hpt.1];exact h64,by rw [List.length_map,hpt.1],fun i t k e1 e2=>?_,hL,fun H2 r ts' gr hL2 hr2 hT=>?_⟩
 · rw [List.getElem?_map] at e2
   cases e3:ps[i]? with
   | none=>rw [e3] at e2;cases e2
   | some p =>
     rw [e3] at e2
     have e4:p.1=k:=by simpa using e2
     rw [← e4]
     exact ⟨_,hpt.2 i t p e1 e3⟩
 obtain ⟨ps',hperm,hsort,hpt'⟩:=ZgD hpt hT
 obtain ⟨tb,htb⟩:=hL.tbl
 have tf2:TF H H2:=gr.tf htb
 have hpt2:=hpt'.tf tf2
 cases ps' with
 | nil=>exact absurd (List.Perm.nil_eq hperm).symm hne
 | cons p1 pr =>
   cases ts' with
   | nil=>have:=hpt'.1;simp at this
   | cons t1 tr =>
     have e1:=hpt2.2 0 t1 p1 rfl rfl
     have s3:=Zm hr2 (.lst ((t1::tr).map V.ref))
     have hn1:p1.1.length≤1000:=hnl p1 (hperm.mem_iff.mp List.mem_cons_self)
     refine ⟨_,rfl,r,_,_,_,rfl,rfl,SqL.of Zg,(show YI ((t1::tr).map V.ref) ((0:Nat):Int)=some (V.ref t1) from ZT rfl),t1,_,_,_,rfl,rfl,SqT.of (s3 _ _ e1),rfl,?_⟩
     refine ⟨_,rfl,p1.1,rfl,hn1,fun H4 s4=>⟨_,rfl,r,_,rfl,SqL.of (s4 _ _ Zg),fun t o ht hd=>⟨(by show 3≤sizeLine;decide),fun a ha=>?_⟩⟩⟩
     have s5:=Zm ht (.frz o (.tup ((t1::tr).map V.ref)))
     have s6:=Zm ha (.tup [.str "leaf",.int (Zi p1.1),.ref t])
     have S:=((s3.trans s4).trans s5).trans s6
     refine q a _ p1 pr (Grown.trans' gr S) (LamAt.same hL2 S) hperm hsort ⟨t,SqT.of Zg,o,t1::tr,s6 _ _ Zg,hd,hpt2.tf S.tf⟩
end
end K14
set_option maxHeartbeats 4000000
namespace K14
open PySem L2
structure Yv (K:KF)(C:Addr):Prop where
 cl:Cls K C
 nN:NoAttr K C "nodes"
 nT:NoAttr K C "tables"
section
variable {P:Program}{w:World}{K:KF}{mg:Str→Option Value}{base:Heap}{C:Addr}
def ZgA (K:KF)(C:Addr):Sp:=fun vs H Q _=>∃(p dx:Addr),vs=[.ref p]∧H p=some (.ins C dx [])∧∀(ln dt:Addr)(H':Hp),H ln=none→H dt=none→StoreAt K C p ln dt H' [.bare] [(Sum.inl 0,.bl true)]→Kq [p] H H'→Q .non H'
theorem scIn:Zw ["self"] ["self"] (Zn c_Store___init__):=⟨rfl,rfl,rfl,by decide +kernel,rfl,by decide +kernel,by decide +kernel⟩
theorem Zkm {f:Addr}{fd:FuncData}(F:Fun K "__init__" "Store.__init__" c_Store___init__ f fd)(T:Txt K mg)(TC:Yv K C):FnOk P w K mg base ZK 1 f fd ["self"] (ZgA K C):=by
 refine F.ok scIn (fun vs H Q E h=>?_) (fun cdv A outer s H vs Q E hr h=>?_)
 · obtain ⟨p,dx,rfl,_⟩:=h;rfl
 obtain ⟨p,dx,rfl,hp,q⟩:=h
 obtain ⟨ab,hb,hbt⟩:=T.bare
 obtain ⟨tz,hz⟩:=T.zero
 refine ⟨_,Ze (Zhw (pv 0) (Xq (Zc (Xv rfl hb (v:=.ref ab) rfl) Za)) rfl) (Zj (Zhw (pv 0) (ZjX (Zjf (Xv rfl hz (v:=.int 0) ⟨_,rfl⟩) XR ZkY) rfl rfl (by simp) (by decide)) rfl)),?_⟩
 refine ⟨(by show 1≤sizeLine;decide),fun ln hln=>?_⟩
 have npl:p≠ln:=Zp hp hln
 refine ⟨_,rfl,p,C,dx,[],rfl,(by rw [Zh npl];exact hp),TC.cl,TC.nN,(by show 0 < 1000;decide),?_⟩
 intro dt hdt
 have npd:p≠dt:=fun z=>by rw [← z,Zg] at hdt;cases hdt
 have nld:ln≠dt:=fun z=>by rw [← z,Zh npl.symm,Zg] at hdt;cases hdt
 have hdt0:H dt=none:=by rw [Zh npd.symm,Zh nld.symm] at hdt;exact hdt
 refine ⟨Zg,[(Sum.inl 0,.bl true)],rfl,by decide,_,rfl,p,C,dx,_,rfl,(by rw [Zh npd,Zh npd,Zg]),TC.cl,TC.nT,(by show 1 < 1000;decide),?_⟩
 refine q ln dt _ hln hdt0 ⟨⟨dx,Zg⟩,⟨[ab],?_,rfl,fun i a n e1 e2=>?_⟩,?_⟩ fun b o nb e=>?_
 · rw [Zh npl.symm,Zh nld,Zh nld,Zh npl.symm,Zg];rfl
 · cases i with
   | zero =>
     cases (show some ab=some a from e1)
     cases (show some Nd.bare=some n from e2)
     exact hbt _
   | succ i=>simp at e1
 · rw [Zh npd.symm,Zg];rfl
 · have nb':b≠p:=fun z=>nb (by simp [z])
   rw [Zh nb',Zh (Zp e hdt0),Zh (Zp e hdt0),Zh nb',Zh (Zp e hln)];exact e
def VE (K:KF)(C:Addr):Sp:=fun vs H Q _=>∃(st ln dt a:Addr)(nds:List Nd)(tabs:ZH)(n:Nd),vs=[.ref st,.ref a]∧StoreAt K C st ln dt H nds tabs∧NodeAt K H a n∧nds.length≤100000 ∧
 ∀ H',StoreAt K C st ln dt H' (nds++[n]) tabs→Kq [ln] H H'→TF H H'→Q (.int nds.length) H'
theorem scKe:Zw ["self","node"] ["self","node"] (Zn c_Store_keep):=⟨rfl,rfl,rfl,by decide +kernel,rfl,by decide +kernel,by decide +kernel⟩
theorem Zki {f:Addr}{fd:FuncData}(F:Fun K "keep" "Store.keep" c_Store_keep f fd)(T:Txt K mg)(TC:Yv K C):FnOk P w K mg base ZK 1 f fd ["self","node"] (VE K C):=by
 refine F.ok scKe (fun vs H Q E h=>?_) (fun cdv A outer s H vs Q E hr h=>?_)
 · obtain ⟨st,ln,dt,a,nds,tabs,n,rfl,_⟩:=h;rfl
 obtain ⟨st,ln,dt,a,nds,tabs,n,rfl,⟨⟨dx,ob⟩,⟨as,nl,hl,hn⟩,tb⟩,hna,hsz,q⟩:=h
 refine ⟨_,Ze (XM (UO PySem.F.plainAttrs_list PySem.F.slot_list_append PySem.F.type_list_append WY (YN (pv 0) rfl) (Zc (pv 1) Za))) (Zj (Zt (Zo Xd (ZD ZV rfl T.len PySem.boot_len (Zc (YN (pv 0) rfl) Za)) Zd))),?_⟩
 have e1:(as.map V.ref).length < sizeLine:=by rw [List.length_map,hl];exact Nat.lt_of_le_of_lt hsz (by decide)
 refine ⟨_,rfl,st,C,dx,_,_,rfl,ob,TC.cl,TC.nN,Xh ln dt,.inl ⟨rfl,_,SqL.of nl⟩,_,rfl,ln,_,_,rfl,rfl,nl,e1,?_⟩
 have nsl:st≠ln:=Zbu ob nl (by intro z;cases z)
 have ndl:dt≠ln:=Zbu tb nl (by intro z;cases z)
 refine ⟨_,rfl,st,C,dx,_,_,rfl,(by rw [Zh nsl];exact ob),TC.cl,TC.nN,Xh ln dt,ln,_,rfl,.inl (SqL.of Zg),_,_,rfl,rfl,?_⟩
 have tf:=VL (o:=.lst (as.map V.ref++[.ref a])) nl
 have e2:((((as.map V.ref++[V.ref a]).length:Nat):Int) - 1)=(nds.length:Int):=by rw [List.length_append,List.length_map,hl];show ((nds.length+1:Nat):Int) - 1=_;omega
 have fin:Q (.int (nds.length:Int)) (upd H ln (.lst (as.map V.ref++[.ref a]))):=by
   refine q _ ⟨⟨dx,by rw [Zh nsl];exact ob⟩,⟨as++[a],by rw [List.map_append];exact Zg,by rw [List.length_append,List.length_append,hl];rfl,fun i b m e3 e4=>?_⟩,by rw [Zh ndl];exact tb⟩ ZaR tf
   by_cases hi:i < as.length
   · rw [List.getElem?_append_left hi] at e3
     rw [List.getElem?_append_left (by rw [← hl];exact hi)] at e4
     exact (hn i b m e3 e4).tf tf
   · rw [List.getElem?_append_right (by omega)] at e3
     rw [List.getElem?_append_right (by omega)] at e4
     have h0:i - as.length=0:=by
       cases z:i - as.length with
       | zero=>rfl
       | succ j=>rw [z] at e3;simp at e3
     rw [h0] at e3
     rw [show i - nds.length=0 by omega] at e4
     cases (show some a=some b from e3)
     cases (show some n=some m from e4)
     exact hna.tf tf
 rw [← e2] at fin
 exact fin
def ZfZ (K:KF)(C:Addr):Sp:=fun vs H Q _=>∃(st ln dt:Addr)(nds:List Nd)(tabs:ZH)(n:Int),vs=[.ref st,.int n]∧StoreAt K C st ln dt H nds tabs∧tabs.length≤100000 ∧
 ∀ H',StoreAt K C st ln dt H' nds (ZZ tabs (Sum.inl n) (.bl true))→Kq [dt] H H'→TF H H'→Q (.int n) H'
theorem scAs:Zw ["self","number"] ["self","number"] (Zn c_Store_as_table):=⟨rfl,rfl,rfl,by decide +kernel,rfl,by decide +kernel,by decide +kernel⟩
theorem ZlS {f:Addr}{fd:FuncData}(F:Fun K "as_table" "Store.as_table" c_Store_as_table f fd)(TC:Yv K C):FnOk P w K mg base ZK 1 f fd ["self","number"] (ZfZ K C):=by
 refine F.ok scAs (fun vs H Q E h=>?_) (fun cdv A outer s H vs Q E hr h=>?_)
 · obtain ⟨st,ln,dt,nds,tabs,n,rfl,_⟩:=h;rfl
 obtain ⟨st,ln,dt,nds,tabs,n,rfl,⟨⟨dx,ob⟩,⟨as,nl,hl,hn⟩,tb⟩,hsz,q⟩:=h
 refine ⟨_,Ze (UH (XS hr) (YN (pv 0) rfl) (pv 1) XR rfl) (Zj (Zt (pv 1))),?_⟩
 refine ⟨_,rfl,st,C,dx,_,_,rfl,ob,TC.cl,TC.nT,Zgs ln dt,_,rfl,dt,_,rfl,DPut.k (k:=Sum.inl n) tb (Nat.lt_of_le_of_lt hsz (by decide)),_,rfl,?_⟩
 have nsd:st≠dt:=Zbu ob tb (by intro z;cases z)
 have nld:ln≠dt:=Zbu nl tb (by intro z;cases z)
 have tf:=Zkx (o:=.dK (ZZ tabs (Sum.inl n) (.bl true))) tb
 exact q _ ⟨⟨dx,by rw [Zh nsd];exact ob⟩,⟨as,by rw [Zh nld];exact nl,hl,fun i a m e1 e2=>(hn i a m e1 e2).tf tf⟩,Zg⟩ ZaR tf
def VU (K:KF)(C:Addr):Sp:=fun vs H Q _=>∃(st ln dt:Addr)(nds:List Nd)(tabs:ZH)(n:Int),vs=[.ref st,.int n]∧StoreAt K C st ln dt H nds tabs∧(ZA tabs (Sum.inl n)).isSome=true∧Q .non H
theorem scCk:Zw ["self","table"] ["self","table"] (Zn c_Store_check_table):=⟨rfl,rfl,rfl,by decide +kernel,rfl,by decide +kernel,by decide +kernel⟩
theorem Zji {f:Addr}{fd:FuncData}(F:Fun K "check_table" "Store.check_table" c_Store_check_table f fd)(TC:Yv K C):FnOk P w K mg base ZK 1 f fd ["self","table"] (VU K C):=by
 refine F.ok scCk (fun vs H Q E h=>?_) (fun cdv A outer s H vs Q E hr h=>?_)
 · obtain ⟨st,ln,dt,nds,tabs,n,rfl,_⟩:=h;rfl
 obtain ⟨st,ln,dt,nds,tabs,n,rfl,⟨⟨dx,ob⟩,⟨as,nl,hl,hn⟩,tb⟩,hs,q⟩:=h
 refine ⟨_,Zj (Yo (Zhc (ZhC (XS hr) (pv 1) (YN (pv 0) rfl))) (Zj Zjt) ZU),?_⟩
 refine ⟨_,rfl,_,rfl,st,C,dx,_,_,rfl,ob,TC.cl,TC.nT,Zgs ln dt,dt,_,rfl,DGet.k (k:=Sum.inl n) tb,_,rfl,?_⟩
 rw [hs]
 exact Yr q
end
end K14
set_option maxHeartbeats 4000000
namespace K14
open PySem L2
def Zy (n:Int)(k:Nat):Nat:=(n / 4 ^ k % 4).toNat
theorem Wh (n:Int)(k:Nat):(Zy n k:Int)=n / 4 ^ k % 4:=Int.toNat_of_nonneg (Int.emod_nonneg _ (by decide))
theorem XC (n:Int)(k:Nat):Zy n k < 4:=by
 have h1:=Wh n k
 have h2:=Int.emod_lt_of_pos (n / 4 ^ k) (show (0:Int) < 4 by decide)
 omega
def Ym (nds:List Nd)(m:Int):Nat→Nat→Nat→Option (List Nat)
 | 0,_,_=>none
 | f+1,lev,num=>match nds[num]? with
   | none=>none
   | some (.fork qs)=>(qs[Zy m lev]?).bind fun q=>(Ym nds m f (lev+1) q).map (num::·)
   | some _=>some [num]
def iN (n:Nat):V:=.int (n:Int)
section
variable {P:Program}{w:World}{K:KF}{mg:Str→Option Value}{base:Heap}{C:Addr}
theorem _root_.L2.StoreAt.node {st ln dt:Addr}{H:Hp}{nds:List Nd}{tabs:ZH}(S:StoreAt K C st ln dt H nds tabs){i:Nat}{n:Nd}(h:nds[i]?=some n):∃(as:List Addr)(a:Addr),H ln=some (.lst (as.map V.ref))∧as[i]?=some a∧NodeAt K H a n:=by
 obtain ⟨_,⟨as,e,l,hn⟩,_⟩:=S
 have hi:i < as.length:=by rw [l];exact (List.getElem?_eq_some_iff.mp h).1
 exact ⟨as,as[i],e,List.getElem?_eq_getElem hi,hn i _ n (List.getElem?_eq_getElem hi) h⟩
def Zdb (K:KF)(C:Addr):Sp:=fun vs H Q _=>∃(st ln dt:Addr)(nds:List Nd)(tabs:ZH)(t:Nat)(x:Str)(f:Nat)(ws:List Nat),vs=[.ref st,iN t,.str x]∧StoreAt K C st ln dt H nds tabs∧(ZA tabs (Sum.inl (t:Int))).isSome=true∧x.length≤1000∧0≤Zi x∧f≤1000 ∧
 Ym nds (Zi x) f 0 t=some ws∧∀ r H',H r=none→Same H H'→H' r=some (.lst (ws.map iN))→Q (.ref r) H'
theorem scWa:Zw ["self","table","name","told","parts","part"] ["self","table","name"] (Zn c_Store_way):=⟨rfl,rfl,rfl,by decide +kernel,rfl,by decide +kernel,by decide +kernel⟩
theorem ZhM {f : Addr}{fd:FuncData}(F:Fun K "way" "Store.way" c_Store_way f fd)(T:Txt K mg)(TC:Yv K C)(DC:DefM P w K mg base 1 C "check_table" ["self","table"] (VU K C))(DP:Def P w K mg base 1 "parts_in" ["node"] (Xr K))
   (DM:Def P w K mg base 1 "mark" ["name"] Wm) (DG:Def P w K mg base 1 "digit" ["number","level"] Wg):FnOk P w K mg base ZK 2 f fd ["self","table","name"] (Zdb K C):=by
 refine F.ok scWa (fun vs H Q E h=>?_) (fun cdv A outer s H vs Q E hr h=>?_)
 · obtain ⟨st,ln,dt,nds,tabs,t,x,f,ws,rfl,_⟩:=h;rfl
 obtain ⟨st,ln,dt,nds,tabs,t,x,fu,ws,rfl,S,htab,hx,hm,hfu,hway,q⟩:=h
 refine' ⟨?t,?h,?r⟩
 case h =>
   conv=>arg 2;whnf
   with_reducible refine' Ze ?a1 (Ze ?a2 (Ze ?a3 (Ze (ZaO ?w0 ?w1 (Ze ?b1 (Ze ?b2 (Zj ?b3)))) (Zj ?a5))))
   case a1=>exact XM (Yc DC TC.cl hr (pv 0) (Zc (pv 1) Za))
   case a2=>exact Zs (i:=3) scWa.nd rfl (Or.inl rfl) (Xq (Zc (pv 1) Za))
   case a3=>exact Zs (i:=4) scWa.nd rfl (Or.inl rfl) (Zx DP hr (Zc (ZB ZI (YN (pv 0) rfl) (pv 1) (fun _ _=>rfl)) Za))
   case w0=>exact PassesOwn.never
   case w1=>exact Wa (pv 4) (fun _=>rfl)
   case b1=>exact Zs (i:=5) scWa.nd rfl (Or.inl rfl) (ZB YS (pv 4) (Zx DG hr (Zc (Zx DM hr (Zc (pv 2) Za)) (Zc (Zo Xd (ZD ZV rfl T.len PySem.boot_len (Zc (pv 3) Za)) Zd) Za))) (fun _ _=>rfl))
   case b2=>exact XM (UO PySem.F.plainAttrs_list PySem.F.slot_list_append PySem.F.type_list_append WY (pv 3) (Zc (pv 5) Za))
   case b3=>exact Zs (i:=4) scWa.nd rfl (Or.inl rfl) (Zx DP hr (Zc (ZB ZI (YN (pv 0) rfl) (pv 5) (fun _ _=>rfl)) Za))
   case a5=>exact Zt (pv 3)
 obtain ⟨dx,ob⟩:=S.ob
 refine ⟨_,rfl,st,dx,_,rfl,ob,ZC ln dt,_,rfl,st,ln,dt,nds,tabs,t,rfl,S,htab,_,rfl,(by show 1≤sizeLine;decide),fun l hl=>?_⟩
 obtain ⟨n,hn⟩:∃ n,nds[t]?=some n:=by
   cases fu with
   | zero=>cases hway
   | succ fu =>
     cases e:nds[t]? with
     | none=>unfold Ym at hway;rw [e] at hway;cases hway
     | some n=>exact ⟨n,rfl⟩
 have s1:=Zm hl (.lst [iN t])
 have S1:=S.keep s1
 obtain ⟨as,a,nl,ha,hna⟩:=S1.node hn
 obtain ⟨dx1,ob1⟩:=S1.ob
 refine ⟨_,rfl,st,C,dx1,_,_,rfl,ob1,TC.cl,TC.nN,Xh ln dt,_,rfl,ln,_,_,_,rfl,rfl,SqL.of nl,ZT (by rw [List.getElem?_map,ha];rfl),a,n,rfl,hna,fun pt H2 s2 hpt=>?_⟩
 refine ⟨fun fl σ H'=>∃ (pre wr:List Nat) (num:Nat) (n:Nd) (pt:Addr) (y:Option V),σ=[some (.ref st),some (iN t),some (.str x),some (.ref l),some (.ref pt),y]∧Same H H'∧H' l=some (.lst ((pre++[num]).map iN))∧nds[num]?=some n∧SqT K H' pt (n.parts.map iN)∧Ym nds (Zi x) fl pre.length num=some wr∧ws=pre++wr∧fl+pre.length≤1000,
   ⟨fu,[],ws,t,n,pt,_,rfl,s1.trans s2,s2 _ _ Zg,hn,hpt,hway,rfl,by simpa using hfu⟩,?_⟩
 rintro fl σ H3 ⟨pre,wr,num,n,pt,y,rfl,s3,hl3,hn3,hpt3,hw3,rfl,hfl⟩
 refine ⟨_,rfl,_,.inr (.inl ⟨_,hpt3,rfl⟩),?_⟩
 have stop:n.parts=[]→Ym nds (Zi x) fl pre.length num=some [num]:=fun z=>by
   cases fl with
   | zero=>cases hw3
   | succ fl =>
     unfold Ym at hw3 ⊢
     rw [hn3] at hw3 ⊢
     cases n with
     | bare=>rfl
     | leaf m ps=>rfl
     | fork qs =>
       have z':qs=[]:=z
       subst z'
       simp at hw3
 by_cases hz:n.parts=[]
 · rw [hz]
   refine Yr ⟨_,rfl,?_⟩
   have e:=stop hz
   rw [hw3] at e
   cases e
   exact q l H3 hl s3 hl3
 · have hk : (!(n.parts.map iN).isEmpty)=true:=by
     cases e:n.parts with
     | nil=>exact absurd e hz
     | cons _ _=>rfl
   rw [hk]
   cases n with
   | bare=>exact absurd rfl hz
   | leaf m ps=>exact absurd rfl hz
   | fork qs =>
     cases fl with
     | zero=>cases hw3
     | succ fl =>
       unfold Ym at hw3
       rw [hn3] at hw3
       cases eq1:qs[Zy (Zi x) pre.length]? with
       | none=>simp [eq1] at hw3
       | some q1 =>
         have hw4:(Ym nds (Zi x) fl (pre.length+1) q1).map (num::·)=some wr:=by simpa [eq1] using hw3
         cases eq2:Ym nds (Zi x) fl (pre.length+1) q1 with
         | none=>rw [eq2] at hw4;cases hw4
         | some wr' =>
           rw [eq2] at hw4
           have ewr:num::wr'=wr:=by simpa using hw4
           obtain ⟨n',hn'⟩:∃ n',nds[q1]?=some n':=by
             cases fl with
             | zero=>cases eq2
             | succ fl =>
               cases e:nds[q1]? with
               | none=>unfold Ym at eq2;rw [e] at eq2;cases eq2
               | some n=>exact ⟨n,rfl⟩
           have e2:((((pre++[num]).map iN).length:Nat):Int) - 1=(pre.length:Int):=by rw [List.length_map,List.length_append];show ((pre.length+1:Nat):Int) - 1=_;omega
           have hat:YI (qs.map iN) (Zi x / 4 ^ pre.length % 4)=some (iN q1):=by rw [← Wh];exact ZT (by rw [List.getElem?_map,eq1];rfl)
           refine Xg ⟨_,fun σ' H' h=>⟨fl,Nat.lt_succ_self _,h⟩,_,rfl,_,rfl,x,rfl,hx,fun H4 s4=>?_⟩
           refine ⟨_,rfl,l,_,rfl,.inl (SqL.of (s4 _ _ hl3)),_,_,rfl,rfl,Zi x,pre.length,congrArg (fun z=>[V.int (Zi x),V.int z]) e2,hm,by omega,pt,_,_,_,rfl,rfl,hpt3.tf s4.tf,hat,?_⟩
           refine ⟨_,rfl,.inl ⟨rfl,_,SqL.of (s4 _ _ hl3)⟩,_,rfl,l,_,_,rfl,rfl,s4 _ _ hl3,(by rw [List.length_map,List.length_append];show pre.length+1 < sizeLine;exact Nat.lt_of_le_of_lt (show pre.length+1≤1001 by omega) (by decide)),?_⟩
           have s5:Same H (upd H4 l (.lst ((pre++[num]).map iN++[iN q1]))):=fun b o e=>by rw [Zh (Zp e hl)];exact s4 _ _ (s3 _ _ e)
           have S5:=S.keep s5
           obtain ⟨as5,a5,nl5,ha5,hna5⟩:=S5.node hn'
           obtain ⟨dx5,ob5⟩:=S5.ob
           refine ⟨_,rfl,st,C,dx5,_,_,rfl,ob5,TC.cl,TC.nN,Xh ln dt,_,rfl,ln,_,_,_,rfl,rfl,SqL.of nl5,ZT (by rw [List.getElem?_map,ha5];rfl),a5,n',rfl,hna5,fun pt6 H6 s6 hpt6=>?_⟩
           refine ⟨pre++[num],wr',q1,n',pt6,_,rfl,s5.trans s6,?_,hn',hpt6,?_,?_,?_⟩
           · rw [List.map_append];exact s6 _ _ Zg
           · rw [List.length_append];exact eq2
           · rw [← ewr,List.append_assoc];rfl
           · rw [List.length_append];show fl+(pre.length+1)≤1000;omega
def lk (ps:Zu)(x:Str):Option V:=ZA (ps.map fun p=>((Sum.inr p.1:Zk),p.2)) (Sum.inr x)
def WK (K:KF)(C:Addr):Sp:=fun vs H Q _=>∃(st ln dt:Addr)(nds:List Nd)(tabs:ZH)(t:Nat)(x:Str)(f:Nat)(ws:List Nat)(e:Nat)(n:Nd),vs=[.ref st,iN t,.str x]∧StoreAt K C st ln dt H nds tabs∧(ZA tabs (Sum.inl (t:Int))).isSome=true∧x.length≤1000∧0≤Zi x∧f≤1000 ∧
 Ym nds (Zi x) f 0 t=some (ws++[e])∧nds[e]?=some n∧n.pairs.length≤1000∧(n.pairs.map (·.1)).Nodup∧∀ H',Same H H'→Q ((lk n.pairs x).getD .non) H'
theorem scLo:Zw ["self","table","name","end"] ["self","table","name"] (Zn c_Store_looked):=⟨rfl,rfl,rfl,by decide +kernel,rfl,by decide +kernel,by decide +kernel⟩
theorem ZcF {f:Addr}{fd:FuncData}(F:Fun K "looked" "Store.looked" c_Store_looked f fd)(T:Txt K mg)(TC:Yv K C)(DW:DefM P w K mg base 2 C "way" ["self","table","name"] (Zdb K C))(DR:Def P w K mg base 1 "pairs_in" ["node"] (Xs K)):FnOk P w K mg base ZK 3 f fd ["self","table","name"] (WK K C):=by
 refine F.ok scLo (fun vs H Q E h=>?_) (fun cdv A outer s H vs Q E hr h=>?_)
 · obtain ⟨st,ln,dt,nds,tabs,t,x,f,ws,e,n,rfl,_⟩:=h;rfl
 obtain ⟨st,ln,dt,nds,tabs,t,x,fu,ws,e,n,rfl,S,htab,hx,hm,hfu,hway,hn,hsz,hnd,q⟩:=h
 refine' ⟨?t,?h,?r⟩
 case h =>
   conv=>arg 2;whnf
   with_reducible refine' Ze ?a1 (Zj ?a2)
   case a1=>exact Zs (i:=3) scLo.nd rfl (Or.inl rfl) (ZB ZI (Yc DW TC.cl hr (pv 0) (Zc (pv 1) (Zc (pv 2) Za))) (ZjO Zgx Zd) (fun _ _=>rfl))
   case a2=>exact Zt (ZaH (XS hr) (ZX (Ua rfl) rfl T.dict (by decide +kernel) (Zc (Zx DR (hr.mono (by decide)) (Zc (ZB ZI (YN (pv 0) rfl) (pv 3) (fun _ _=>rfl)) Za)) Za)) (pv 2) ⟨rfl,rfl,rfl,rfl⟩)
 obtain ⟨dx,ob⟩:=S.ob
 refine ⟨_,rfl,st,dx,_,rfl,ob,ZC ln dt,_,rfl,_,rfl,st,ln,dt,nds,tabs,t,x,fu,_,rfl,S,htab,hx,hm,hfu,hway,fun r H1 hr1 s1 el=>?_⟩
 refine ⟨_,rfl,r,_,_,iN e,rfl,rfl,SqL.of el,(by rw [List.map_append];exact Ziz _ _),?_⟩
 have S1:=S.keep s1
 obtain ⟨as,a,nl,ha,hna⟩:=S1.node hn
 obtain ⟨dx1,ob1⟩:=S1.ob
 refine ⟨_,rfl,st,C,dx1,_,_,rfl,ob1,TC.cl,TC.nN,Xh ln dt,_,rfl,ln,_,_,_,rfl,rfl,SqL.of nl,ZT (by rw [List.getElem?_map,ha];rfl),a,n,rfl,hna,fun pt H2 s2 hpt=>?_⟩
 obtain ⟨o,ts,ept,hod,hlen,hp⟩:=hpt
 refine ⟨pt,ts,n.pairs,rfl,⟨o,ept,hod⟩,hlen,hsz,hp,hnd,fun d hd=>⟨d,rfl,.inl ⟨_,.inl Zg⟩,_,rfl,_,DGet.k (k:=Sum.inr x) Zg,?_⟩⟩
 exact q _ ((s1.trans s2).trans (Zm hd _))
end
end K14
set_option maxHeartbeats 4000000
namespace K14
open PySem L2
def Yb (num lev:Nat):Nd→List Nat
 | .fork qs=>qs
 | .leaf m _=>[0,1,2,3].map fun g=>if g=Zy m lev then num else 0
 | .bare=>[]
def Zdm:Nd→Prop
 | .leaf m ps=>∃ p1 pr,ps=p1::pr∧Zi p1.1=m∧p1.1.length≤1000∧0≤m
 | _=>True
section
variable {P:Program}{w:World}{K:KF}{mg:Str→Option Value}{base:Heap}{C:Addr}
def Zja (K:KF)(C:Addr):Sp:=fun vs H Q _=>∃(st ln dt:Addr)(nds:List Nd)(tabs:ZH)(num lev:Nat)(n:Nd),vs=[.ref st,iN num,iN lev]∧StoreAt K C st ln dt H nds tabs∧nds[num]?=some n∧n≠.bare∧Zdm n∧lev≤1000 ∧
 ∀ r H',H r=none→Same H H'→H' r=some (.lst ((Yb num lev n).map iN))→Q (.ref r) H'
abbrev nFp:List Str:=["self","number","level","node","first_name","at"]
theorem scFp:Zw nFp ["self","number","level"] (Zn c_Store_fork_parts):=⟨rfl,rfl,rfl,by decide +kernel,rfl,by decide +kernel,by decide +kernel⟩
theorem ZmL {f:Addr}{fd:FuncData}(F:Fun K "fork_parts" "Store.fork_parts" c_Store_fork_parts f fd)(T:Txt K mg)(TC:Yv K C)(DP:Def P w K mg base 1 "parts_in" ["node"] (Xr K))(DR:Def P w K mg base 1 "pairs_in" ["node"] (Xs K))
   (DM:Def P w K mg base 1 "mark" ["name"] Wm) (DG:Def P w K mg base 1 "digit" ["number","level"] Wg):FnOk P w K mg base ZK 2 f fd ["self","number","level"] (Zja K C):=by
 refine F.ok scFp (fun vs H Q E h=>?_) (fun cdv A outer s H vs Q E hr h=>?_)
 · obtain ⟨st,ln,dt,nds,tabs,num,lev,n,rfl,_⟩:=h;rfl
 obtain ⟨st,ln,dt,nds,tabs,num,lev,n,rfl,S,hn,hnb,hok,hlev,q⟩:=h
 obtain ⟨tz,hz⟩:=T.zero
 obtain ⟨af,hf,hft⟩:=T.figs
 refine' ⟨?t,?h,?r⟩
 case h =>
   conv=>arg 2;whnf
   with_reducible refine' Ze ?a1 (Ze ?a2 (Ze ?a3 (Ze ?a4 (Zj ?a5))))
   case a1=>exact Zs (i:=3) scFp.nd rfl (Or.inl rfl) (ZB ZI (YN (pv 0) rfl) (pv 1) (fun _ _=>rfl))
   case a2=>exact Yo (Wa (Zx DP hr (Zc (pv 3) Za)) (fun _=>rfl)) (Zj (Zt (ZX WH rfl T.list (by decide +kernel) (Zc (Zx DP hr (Zc (pv 3) Za)) Za)))) ZU
   case a3=>exact Zs (i:=4) scFp.nd rfl (Or.inl rfl) (ZB YS (ZB YS (Zx DR hr (Zc (pv 3) Za)) Zd (fun _ _=>rfl)) Zd (fun _ _=>rfl))
   case a4=>exact Zs (i:=5) scFp.nd rfl (Or.inr rfl) (Zx DG hr (Zc (Zx DM hr (Zc (pv 4) Za)) (Zc (pv 2) Za)))
   case a5=>exact Zt (Ur (CompOk.of nFp c_Store_fork_parts rfl rfl (by decide +kernel)) rfl (Zbh (Xv rfl hf (v:=.ref af) rfl)) (fun _ _ _ _ _=>Wc (ZE YR (pv 6) (pv 5) (ZJ _)) (pv 1) (Xv rfl hz (v:=.int 0) ⟨_,rfl⟩)))
 obtain ⟨as,a,nl,ha,hna⟩:=S.node hn
 obtain ⟨dx,ob⟩:=S.ob
 refine ⟨_,rfl,st,C,dx,_,_,rfl,ob,TC.cl,TC.nN,Xh ln dt,_,rfl,ln,_,_,_,rfl,rfl,SqL.of nl,ZT (by rw [List.getElem?_map,ha];rfl),?_⟩
 refine ⟨_,rfl,a,n,rfl,hna,fun pt H2 s2 hpt=>⟨_,.inr (.inl ⟨_,hpt,rfl⟩),?_⟩⟩
 cases n with
 | bare=>exact absurd rfl hnb
 | fork qs =>
   have h4:qs.length=4:=by obtain ⟨_,_,_,z⟩:=hna;exact z
   have hk:(!(((Nd.fork qs).parts).map (fun q:Nat=>V.int (q:Int))).isEmpty)=true:=by
     cases qs with
     | nil=>cases h4
     | cons _ _=>rfl
   rw [hk]
   refine Xg ⟨_,rfl,a,_,rfl,hna.tf s2.tf,fun pt3 H3 s3 hpt3=>⟨pt3,_,rfl,.inr hpt3,fun l hl=>?_⟩⟩
   have hl0:H l=none:=by
     cases e:H l with
     | none=>rfl
     | some o=>rw [s3 _ _ (s2 _ _ e)] at hl;cases hl
   exact q l _ hl0 ((s2.trans s3).trans (Zm hl _)) Zg
 | leaf m ps =>
   obtain ⟨p1,pr,rfl,hm1,hx1,hm0⟩:=hok
   refine Yr ⟨_,rfl,a,_,rfl,hna.tf s2.tf,fun pt3 H3 s3 hpt3=>?_⟩
   obtain ⟨o,ts,ept,hod,hlen,hp⟩:=hpt3
   cases ts with
   | nil=>simp [Nd.pairs] at hlen
   | cons t1 tr =>
     have et1:=hp 0 t1 p1 rfl rfl
     refine ⟨pt3,_,_,_,rfl,rfl,.inl (.inr ⟨o,ept⟩),(show YI ((t1::tr).map V.ref) ((0:Nat):Int)=some (V.ref t1) from ZT rfl),t1,_,_,_,rfl,rfl,SqT.of et1,rfl,?_⟩
     refine ⟨_,rfl,p1.1,rfl,hx1,fun H4 s4=>⟨_,rfl,Zi p1.1,lev,rfl,by rw [hm1];exact hm0,hlev,?_⟩⟩
     refine ⟨af,rfl,⟨_,hft _⟩,fun D hD=>?_⟩
     have s24:=(s2.trans s3).trans s4
     have hD0:H D=none:=by
       cases e:H D with
       | none=>rfl
       | some o=>rw [s24 _ _ e] at hD;cases hD
     refine ZdO (K:=K) (a:=af) (xs:=[.int 0,.int 1,.int 2,.int 3]) (by show 4≤sizeLine;decide) (fun i ys H'=>ys=(([0,1,2,3]:List Nat).take i).map (fun g=>iN (if g=Zy m lev then num else 0))∧i≤4∧H' D=some (.lst ys)∧Same H H') ?_ ?_ ?_ ?_
     · exact ⟨rfl,by decide,Zg,s24.trans (Zm hD _)⟩
     · rintro i ys H5 ⟨rfl,hi,_,_⟩
       exact ⟨by rw [List.length_map,List.length_take];show min i 4=i;omega,hft _⟩
     · rintro i x ys H5 hi ⟨rfl,hi4,hD5,s5⟩
       have hi':i < 4:=(List.getElem?_eq_some_iff.mp hi).1
       have ex:x=iN i:=by
         rcases i with _ | _ | _ | _ | i
         · cases hi;rfl
         · cases hi;rfl
         · cases hi;rfl
         · cases hi;rfl
         · omega
       subst ex
       have fin:∀ y,y=iN (if i=Zy m lev then num else 0)→H5 D=some (.lst ((([0,1,2,3]:List Nat).take i).map (fun g=>iN (if g=Zy m lev then num else 0))))∧(((([0,1,2,3]:List Nat).take i).map (fun g=>iN (if g=Zy m lev then num else 0))++[y])=(([0,1,2,3]:List Nat).take (i+1)).map (fun g=>iN (if g=Zy m lev then num else 0))∧i+1≤4∧upd H5 D (.lst ((([0,1,2,3]:List Nat).take i).map (fun g=>iN (if g=Zy m lev then num else 0))++[y])) D=some (.lst ((([0,1,2,3]:List Nat).take i).map (fun g=>iN (if g=Zy m lev then num else 0))++[y]))∧Same H (upd H5 D (.lst ((([0,1,2,3]:List Nat).take i).map (fun g=>iN (if g=Zy m lev then num else 0))++[y])))):=by
         intro y ey
         refine ⟨hD5,?_,by omega,Zg,fun b o e=>by rw [Zh (Zp e hD0)];exact s5 _ _ e⟩
         subst ey
         rcases i with _ | _ | _ | _ | i
         · rfl
         · rfl
         · rfl
         · rfl
         · omega
       have ed:decide (iN i=V.int (Zi p1.1 / 4 ^ lev % 4))=decide (i=Zy m lev):=by
         rw [hm1,← Wh]
         by_cases z:i=Zy m lev
         · rw [decide_eq_true z,z];exact decide_eq_true rfl
         · rw [decide_eq_false z]
           exact decide_eq_false fun y=>z (by have:=V.int.inj y;omega)
       refine ⟨_,rfl,_,rfl,rfl,_,rfl,?_⟩
       rw [ed]
       by_cases z:i=Zy m lev
       · rw [decide_eq_true z]
         exact Xg ⟨_,rfl,fin _ (by rw [if_pos z])⟩
       · rw [decide_eq_false z]
         exact Yr (fin _ (by rw [if_neg z];rfl))
     · rintro ys H5 ⟨rfl,_,hD5,s5⟩
       refine q D H5 hD0 s5 ?_
       rw [hD5]
       rfl
end
end K14
set_option maxHeartbeats 4000000
namespace K14
open PySem L2
def gK (p:Str×V):Zk×V:=(Sum.inr p.1,p.2)
theorem Zlu (ps:Zu)(x:Str):lk ps x=ZA (ps.map gK) (Sum.inr x):=rfl
theorem ZgY (x:Str):lk [] x=none:=rfl
theorem WF (p:Str×V)(ps:Zu)(x:Str):lk (p::ps) x=if p.1=x then some p.2 else lk ps x:=by
 by_cases h:p.1=x
 · rw [if_pos h];exact YD (show (gK p).1=Sum.inr x by rw [← h];rfl)
 · rw [if_neg h];exact YC (show ¬ (gK p).1=Sum.inr x from fun z=>h (Sum.inr.inj z))
theorem Yf {ps:Zu}(hnd:(ps.map (·.1)).Nodup){x:Str}{v:V}:lk ps x=some v↔(x,v)∈ps:=by
 induction ps with
 | nil=>simp [ZgY]
 | cons p ps ih =>
   rw [List.map_cons,List.nodup_cons] at hnd
   rw [WF]
   by_cases h:p.1=x
   · rw [if_pos h]
     constructor
     · intro e
       cases e
       rw [← h];exact List.mem_cons_self
     · intro e
       rcases List.mem_cons.mp e with e | e
       · rw [← e]
       · exact absurd (h ▸ List.mem_map_of_mem (f:=(·.1)) e) hnd.1
   · rw [if_neg h,ih hnd.2,List.mem_cons]
     exact ⟨.inr,fun e=>e.resolve_left fun z=>h (by rw [← z])⟩
theorem UD {ps:Zu}{x:Str}(h:∀ p∈ps,p.1≠x):lk ps x=none:=by
 induction ps with
 | nil=>rfl
 | cons p ps ih=>rw [WF,if_neg (h p List.mem_cons_self)];exact ih fun q hq=>h q (List.mem_cons_of_mem _ hq)
theorem ZeS {ps qs:Zu}(h:ps.Perm qs)(hnd:(qs.map (·.1)).Nodup)(x:Str):lk ps x=lk qs x:=by
 have hnd':(ps.map (·.1)).Nodup:=(h.map (·.1)).nodup_iff.mpr hnd
 cases e:lk qs x with
 | some v=>exact (Yf hnd').mpr (h.mem_iff.mpr ((Yf hnd).mp e))
 | none =>
   cases e2:lk ps x with
   | none=>rfl
   | some v=>rw [(Yf hnd).mpr (h.mem_iff.mp ((Yf hnd').mp e2))] at e;cases e
def XA (ps:Zu)(x:Str)(v:V):List (Str×V) :=
 if (ps.any fun p=>decide (p.1=x))=true then ps.map (fun p=>if p.1=x then (p.1,v) else p) else ps++[(x,v)]
theorem ZdD (ps:Zu)(x:Str)(v:V):ZZ (ps.map gK) (Sum.inr x) v=(XA ps x v).map gK:=by
 have e:∀ p:Str×V,decide ((gK p).1=Sum.inr x)=decide (p.1=x):=fun p=>by
   by_cases h:p.1=x
   · rw [decide_eq_true h];exact decide_eq_true (by rw [← h];rfl)
   · rw [decide_eq_false h];exact decide_eq_false fun z=>h (Sum.inr.inj z)
 have e1:((ps.map gK).any fun kv=>decide (kv.1=Sum.inr x))=ps.any fun p=>decide (p.1=x):=by
   rw [List.any_map];congr 1;funext p;exact e p
 unfold ZZ XA
 rw [e1]
 by_cases h:(ps.any fun p=>decide (p.1=x))=true
 · rw [if_pos h,if_pos h,List.map_map,List.map_map]
   congr 1
   funext p
   show (if (gK p).1=Sum.inr x then ((gK p).1,v) else gK p)=gK (if p.1=x then (p.1,v) else p)
   by_cases z:p.1=x
   · rw [if_pos z,if_pos (show (gK p).1=Sum.inr x by rw [← z];rfl)];rfl
   · rw [if_neg z,if_neg (show ¬ (gK p).1=Sum.inr x from fun y=>z (Sum.inr.inj y))]
 · rw [if_neg h,if_neg h,List.map_append];rfl
theorem ZhG (ps:Zu)(x:Str)(v:V):(XA ps x v).map (·.1)=if x∈ps.map (·.1) then ps.map (·.1) else ps.map (·.1)++[x]:=by
 have e:(ps.any fun p=>decide (p.1=x))=true↔x∈ps.map (·.1):=by
   rw [List.any_eq_true,List.mem_map]
   exact ⟨fun ⟨p,h,z⟩=>⟨p,h,of_decide_eq_true z⟩,fun ⟨p,h,z⟩=>⟨p,h,decide_eq_true z⟩⟩
 unfold XA
 by_cases h:(ps.any fun p=>decide (p.1=x))=true
 · rw [if_pos h,if_pos (e.mp h),List.map_map]
   apply List.map_congr_left
   intro p _
   show (if p.1=x then (p.1,v) else p).1=p.1
   split<;>rfl
 · rw [if_neg h,if_neg fun z=>h (e.mpr z),List.map_append];rfl
theorem ZjW (ps:Zu)(x y:Str)(v:V):lk (XA ps x v) y=if y=x then some v else lk ps y:=by
 rw [Zlu,← ZdD,WN]
 by_cases h:y=x
 · rw [if_pos h,if_pos (by rw [h])]
 · rw [if_neg h,if_neg fun z=>h (Sum.inr.inj z)];rfl
structure ZN (NS:List Str):Prop where
 few:NS.length < 64
 len:∀ x∈NS,x.length≤1000
 lo:∀ x∈NS,0≤Zi x
 hi:∀ x∈NS,Zi x < 1024
structure LeafG (NS:List Str)(m:Int)(ps:Zu):Prop where
 ne:ps≠[]
 nd:(ps.map (·.1)).Nodup
 sub:∀ p∈ps,p.1∈NS
 mrk:∀ p∈ps,Zi p.1=m
def ZL (x:Str):Nat:=(Zi x).toNat
def TriE (NS:List Str)(nds:List Nd)(F:Str→Option V)(lev r num:Nat):Prop :=
 (num=0∧nds[num]?=some .bare∧∀ x∈NS,ZL x % 4 ^ lev=r→F x=none) ∨
 ∃ m ps,nds[num]?=some (.leaf m ps)∧LeafG NS m ps∧m.toNat % 4 ^ lev=r∧∀ x∈NS,ZL x % 4 ^ lev=r→F x=lk ps x
def Tri (NS:List Str)(nds:List Nd)(F:Str→Option V):Nat→Nat→Nat→Nat→Prop
 | 0,lev,r,num=>TriE NS nds F lev r num
 | d+1,lev,r,num=>TriE NS nds F lev r num∨∃ qs,nds[num]?=some (.fork qs)∧qs.length=4∧∀ i q,qs[i]?=some q→Tri NS nds F d (lev+1) (r+i * 4 ^ lev) q
def NEx (nds nds':List Nd):Prop:=∀(i:Nat)(n:Nd),nds[i]?=some n→nds'[i]?=some n
theorem NEx.refl (nds:List Nd):NEx nds nds:=fun _ _ h=>h
theorem NEx.trans {a b c:List Nd}(h:NEx a b)(h':NEx b c):NEx a c:=fun i n e=>h' i n (h i n e)
theorem NEx.app (nds:List Nd)(n:Nd):NEx nds (nds++[n]):=fun i m e=>by rw [List.getElem?_append_left (List.getElem?_eq_some_iff.mp e).1];exact e
section
variable {NS:List Str}{nds nds':List Nd}{F F':Str→Option V}
theorem TriE.mono {lev r num:Nat}(h:TriE NS nds F lev r num)(e:NEx nds nds'):TriE NS nds' F lev r num:=by
 rcases h with ⟨h1,h2,h3⟩ | ⟨m,ps,h1,h2⟩
 · exact .inl ⟨h1,e _ _ h2,h3⟩
 · exact .inr ⟨m,ps,e _ _ h1,h2⟩
theorem Tri.mono:∀(d:Nat){lev r num:Nat},Tri NS nds F d lev r num→NEx nds nds'→Tri NS nds' F d lev r num
 | 0,_,_,_,h,e=>TriE.mono h e
 | d+1,_,_,_,.inl h,e=>.inl (TriE.mono h e)
 | d+1,_,_,_,.inr ⟨qs,h1,h2,h3⟩,e=>.inr ⟨qs,e _ _ h1,h2,fun i q hq=>Tri.mono d (h3 i q hq) e⟩
theorem TriE.congr {lev r num:Nat}(h:TriE NS nds F lev r num)(e:∀ x∈NS,ZL x % 4 ^ lev=r→F' x=F x):TriE NS nds F' lev r num:=by
 rcases h with ⟨h1,h2,h3⟩ | ⟨m,ps,h1,h2,h3,h4⟩
 · exact .inl ⟨h1,h2,fun x hx hr=>by rw [e x hx hr];exact h3 x hx hr⟩
 · exact .inr ⟨m,ps,h1,h2,h3,fun x hx hr=>by rw [e x hx hr];exact h4 x hx hr⟩
theorem YK (n lev:Nat):n % 4 ^ (lev+1)=n % 4 ^ lev+(n / 4 ^ lev % 4) * 4 ^ lev:=by
 rw [Nat.pow_succ,Nat.mod_mul,Nat.mul_comm (4 ^ lev)]
theorem Yq {n lev r i:Nat}(hr:r < 4 ^ lev)(h:n % 4 ^ (lev+1)=r+i * 4 ^ lev):n % 4 ^ lev=r∧n / 4 ^ lev % 4=i:=by
 rw [YK] at h
 have hp:0 < 4 ^ lev:=Nat.pow_pos (by decide)
 have h1:=Nat.mod_lt n hp
 have e1:n % 4 ^ lev=r:=by
   have z:=congrArg (· % 4 ^ lev) h
   simp only [Nat.add_mul_mod_self_right] at z
   rwa [Nat.mod_mod,Nat.mod_eq_of_lt hr] at z
 refine ⟨e1,?_⟩
 rw [e1] at h
 exact Nat.eq_of_mul_eq_mul_right hp (Nat.add_left_cancel h)
theorem YH {lev r i:Nat}(hr:r < 4 ^ lev)(hi:i < 4):r+i * 4 ^ lev < 4 ^ (lev+1):=by
 rw [Nat.pow_succ]
 have:i * 4 ^ lev≤3 * 4 ^ lev:=Nat.mul_le_mul_right _ (by omega)
 omega
theorem Tri.congr:∀(d:Nat){lev r num:Nat},r < 4 ^ lev→Tri NS nds F d lev r num→(∀ x∈NS,ZL x % 4 ^ lev=r→F' x=F x)→Tri NS nds F' d lev r num
 | 0,_,_,_,_,h,e=>TriE.congr h e
 | d+1,_,_,_,_,.inl h,e=>.inl (TriE.congr h e)
 | d+1,_,_,_,hr,.inr ⟨qs,h1,h2,h3⟩,e=>.inr ⟨qs,h1,h2,fun i q hq=>Tri.congr d (YH hr (by rw [← h2];exact (List.getElem?_eq_some_iff.mp hq).1)) (h3 i q hq) fun x hx hz=>e x hx (Yq hr hz).1⟩
theorem YZ {n:Int}(h:0≤n)(lev:Nat):Zy n lev=n.toNat / 4 ^ lev % 4:=by
 obtain ⟨k,rfl⟩:=Int.eq_ofNat_of_zero_le h
 unfold Zy
 have:((k:Int) / 4 ^ lev % 4)=((k / 4 ^ lev % 4:Nat):Int):=by norm_cast
 rw [this]
 rfl
theorem ZkB (N:ZN NS):∀(d:Nat){lev r num:Nat}{x:Str},r < 4 ^ lev→Tri NS nds F d lev r num→x∈NS→ZL x % 4 ^ lev=r →
   ∃ ws e n,Ym nds (Zi x) (d+1) lev num=some (ws++[e])∧nds[e]?=some n∧((e=0∧n=.bare∧F x=none)∨∃ m ps,n=.leaf m ps∧LeafG NS m ps∧F x=lk ps x):=by
 have end_:∀ {lev r num:Nat} {x:Str} (d:Nat),TriE NS nds F lev r num→x∈NS→ZL x % 4 ^ lev=r→∃ ws e n,Ym nds (Zi x) (d+1) lev num=some (ws++[e])∧nds[e]?=some n∧((e=0∧n=.bare∧F x=none)∨∃ m ps,n=.leaf m ps∧LeafG NS m ps∧F x=lk ps x):=by
   intro lev r num x d h hx hr
   rcases h with ⟨h1,h2,h3⟩ | ⟨m,ps,h1,h2,h3,h4⟩
   · exact ⟨[],num,.bare,by unfold Ym;rw [h2];rfl,h2,.inl ⟨h1,rfl,h3 x hx hr⟩⟩
   · exact ⟨[],num,.leaf m ps,by unfold Ym;rw [h1];rfl,h1,.inr ⟨m,ps,rfl,h2,h4 x hx hr⟩⟩
 intro d
 induction d with
 | zero=>exact fun _ h hx hr=>end_ 0 h hx hr
 | succ d ih =>
   intro lev r num x hlt h hx hr
   rcases h with h | ⟨qs,h1,h2,h3⟩
   · exact end_ _ h hx hr
   · have hi:Zy (Zi x) lev < qs.length:=by rw [h2];exact XC _ _
     have hq:=List.getElem?_eq_getElem hi
     obtain ⟨ws,e,n,e1,e2,e3⟩:=ih (YH hlt (XC _ _)) (h3 _ _ hq) hx (by rw [YK,hr,YZ (N.lo x hx)];rfl)
     refine ⟨num::ws,e,n,?_,e2,e3⟩
     unfold Ym
     rw [h1]
     show ((qs[Zy (Zi x) lev]?).bind fun q=>(Ym nds (Zi x) (d+1) (lev+1) q).map (num::·))=_
     rw [hq]
     show (Ym nds (Zi x) (d+1) (lev+1) _).map (num::·)=_
     rw [e1]
     rfl
end
end K14
set_option maxHeartbeats 4000000
namespace K14
open PySem L2
theorem Xi:∀{l N:List Str},l.Nodup→(∀ x∈l,x∈N)→l.length≤N.length:=by
 intro l
 induction l with
 | nil=>intro N _ _;exact Nat.zero_le _
 | cons a l ih =>
   intro N hnd hs
   rw [List.nodup_cons] at hnd
   have ha:a∈N:=hs a List.mem_cons_self
   have:=ih (N:=N.erase a) hnd.2 fun x hx=>(List.mem_erase_of_ne (show x≠a from fun z=>hnd.1 (by rw [← z];exact hx))).mpr (hs x (List.mem_cons_of_mem _ hx))
   rw [List.length_erase_of_mem ha] at this
   have h1:0 < N.length:=List.length_pos_of_mem ha
   rw [List.length_cons];omega
section
variable {NS:List Str}{nds nds':List Nd}{F F':Str→Option V}
theorem LeafG.few {m:Int}{ps:Zu}(G:LeafG NS m ps):ps.length≤NS.length:=by
 have:=Xi G.nd (N:=NS) fun x hx=>by obtain ⟨p,hp,rfl⟩:=List.mem_map.mp hx;exact G.sub p hp
 rwa [List.length_map] at this
theorem LeafG.perm {m:Int}{ps qs:Zu}(G:LeafG NS m ps)(h:qs.Perm ps):LeafG NS m qs :=
 ⟨fun z=>G.ne (by rw [z] at h;exact (List.Perm.nil_eq h).symm),(h.map (·.1)).nodup_iff.mpr G.nd,fun p hp=>G.sub p (h.mem_iff.mp hp),fun p hp=>G.mrk p (h.mem_iff.mp hp)⟩
theorem LeafG.ok {m:Int}{ps:Zu}(N:ZN NS)(G:LeafG NS m ps):Zdm (.leaf m ps):=by
 cases ps with
 | nil=>exact absurd rfl G.ne
 | cons p pr =>
   have h1:=G.mrk p List.mem_cons_self
   have h2:=G.sub p List.mem_cons_self
   exact ⟨p,pr,rfl,h1,N.len _ h2,by rw [← h1];exact N.lo _ h2⟩
theorem Zed {ps:Zu}{x:Str}(v:V)(hx:x∈NS)(hnd:(ps.map (·.1)).Nodup)(hs:∀ p∈ps,p.1∈NS)(hm:∀ p∈ps,Zi p.1=Zi x):LeafG NS (Zi x) (XA ps x v):=by
 have hk:=ZhG ps x v
 have hmem:∀ p∈XA ps x v,p.1∈ps.map (·.1)∨p.1=x:=fun p hp=>by
   have h1:p.1∈(XA ps x v).map (·.1):=List.mem_map_of_mem hp
   rw [hk] at h1
   by_cases h:x∈ps.map (·.1)
   · rw [if_pos h] at h1;exact .inl h1
   · rw [if_neg h] at h1
     rcases List.mem_append.mp h1 with z | z
     · exact .inl z
     · exact .inr (List.mem_singleton.mp z)
 refine ⟨fun z=>?_,?_,fun p hp=>?_,fun p hp=>?_⟩
 · rw [z] at hk
   by_cases h:x∈ps.map (·.1)
   · rw [if_pos h] at hk;rw [← hk] at h;cases h
   · rw [if_neg h] at hk;simp at hk
 · rw [hk]
   by_cases h:x∈ps.map (·.1)
   · rw [if_pos h];exact hnd
   · rw [if_neg h,List.nodup_append]
     exact ⟨hnd,by simp,fun a ha b hb e=>h (by rw [List.mem_singleton.mp hb] at e;rw [← e];exact ha)⟩
 · rcases hmem p hp with z | z
   · obtain ⟨q,hq,e⟩:=List.mem_map.mp z
     rw [← e];exact hs q hq
   · rw [z];exact hx
 · rcases hmem p hp with z | z
   · obtain ⟨q,hq,e⟩:=List.mem_map.mp z
     rw [← e];exact hm q hq
   · rw [z]
def Wl (F:Str→Option V)(x:Str)(v:V):Str→Option V:=fun y=>if y=x then some v else F y
theorem ZiG {d lev r:Nat}{m:Int}{ps qs:Zu}{x:Str}{v:V}{num:Nat}(N:ZN NS)(hx:x∈NS)(hr:ZL x % 4 ^ lev=r)(hn:nds[num]?=some (.leaf m qs))(hm:m=Zi x)(G:LeafG NS (Zi x) (XA ps x v))(hp:qs.Perm (XA ps x v))
   (hF:∀ y∈NS,ZL y % 4 ^ lev=r→F y=lk ps y):Tri NS nds (Wl F x v) d lev r num:=by
 subst hm
 have h:TriE NS nds (Wl F x v) lev r num:=by
   refine .inr ⟨Zi x,qs,hn,G.perm hp,hr,fun y hy hry=>?_⟩
   rw [ZeS hp G.nd,ZjW]
   unfold Wl
   by_cases h:y=x
   · rw [if_pos h,if_pos h]
   · rw [if_neg h,if_neg h];exact hF y hy hry
 cases d with
 | zero=>exact h
 | succ d=>exact .inl h
theorem ZdM {d lev r num:Nat}{n:Nd}(N:ZN NS)(h0:nds[0]?=some .bare)(hr:r < 4 ^ lev)(h:Tri NS nds F (d+1) lev r num)(hn:nds[num]?=some n)(hnb:n≠.bare) :
   (Yb num lev n).length=4∧∀ (i q:Nat),(Yb num lev n)[i]?=some q→Tri NS nds F d (lev+1) (r+i * 4 ^ lev) q:=by
 have wrapE:∀ {r' q:Nat},TriE NS nds F (lev+1) r' q→Tri NS nds F d (lev+1) r' q:=fun g=>by
   cases d with
   | zero=>exact g
   | succ d=>exact .inl g
 rcases h with h | ⟨qs,h1,h2,h3⟩
 · rcases h with ⟨_,e,_⟩ | ⟨m,ps,e,G,hm,hF⟩
   · rw [hn] at e;cases e;exact absurd rfl hnb
   · rw [hn] at e;cases e
     obtain ⟨p1,pr,e1,e2,e3,e4⟩:=G.ok N
     refine ⟨rfl,fun i q hq=>?_⟩
     have hi:i < 4:=(List.getElem?_eq_some_iff.mp hq).1
     have hq':(if i=Zy m lev then num else 0)=q:=by
       rcases i with _ | _ | _ | _ | i
       · exact Option.some.inj hq
       · exact Option.some.inj hq
       · exact Option.some.inj hq
       · exact Option.some.inj hq
       · omega
     have hmm:m.toNat % 4 ^ (lev+1)=r+Zy m lev * 4 ^ lev:=by rw [YK,hm,YZ e4]
     by_cases z:i=Zy m lev
     · rw [if_pos z] at hq'
       subst hq'
       exact wrapE (.inr ⟨m,ps,hn,G,by rw [hmm,z],fun y hy hry=>hF y hy (Yq hr hry).1⟩)
     · rw [if_neg z] at hq'
       subst hq'
       refine wrapE (.inl ⟨rfl,h0,fun y hy hry=>?_⟩)
       rw [hF y hy (Yq hr hry).1]
       refine UD fun p hp e=>z ?_
       have:=(Yq hr hry).2
       rw [← this,← e]
       unfold ZL
       rw [G.mrk p hp,YZ e4]
 · rw [hn] at h1;cases h1
   exact ⟨h2,h3⟩
theorem ZdU {r num:Nat}{n:Nd}{x:Str}(N:ZN NS)(h:Tri NS nds F 0 5 r num)(hn:nds[num]?=some n)(hnb:n≠.bare)(hx:x∈NS)(hr:ZL x % 4 ^ 5=r):n.hasM (Zi x)=true:=by
 rcases h with ⟨_,e,_⟩ | ⟨m,ps,e,G,hm,hF⟩
 · rw [hn] at e;cases e;exact absurd rfl hnb
 · rw [hn] at e;cases e
   refine decide_eq_true ?_
   obtain ⟨p1,pr,e1,e2,e3,e4⟩:=G.ok N
   have h1:Zi p1.1 < 1024:=N.hi _ (G.sub p1 (by rw [e1];exact List.mem_cons_self))
   have h2:=N.hi x hx
   have h3:=N.lo x hx
   rw [e2] at h1
   unfold ZL at hr
   have h4:m.toNat % 1024=r:=hm
   have h5:(Zi x).toNat % 1024=r:=hr
   rw [Nat.mod_eq_of_lt (by omega)] at h4 h5
   omega
theorem ZiU {d lev r num num':Nat}{qs:List Nat}{x:Str}{v:V}(N:ZN NS)(hr:r < 4 ^ lev)(hx:x∈NS)(hxr:ZL x % 4 ^ lev=r)(hl:qs.length=4)(hq:∀(i q:Nat),qs[i]?=some q→Tri NS nds F d (lev+1) (r+i * 4 ^ lev) q)
   (e:NEx nds nds') (hn:Tri NS nds' F' d (lev+1) (r+Zy (Zi x) lev * 4 ^ lev) num') (hF:∀ y,y≠x→F' y=F y) (h:nds'[num]?=some (.fork (qs.set (Zy (Zi x) lev) num'))):Tri NS nds' F' (d+1) lev r num:=by
 refine .inr ⟨_,h,by rw [List.length_set,hl],fun i q hi=>?_⟩
 have hi4:i < 4:=by rw [← hl];have:=(List.getElem?_eq_some_iff.mp hi).1;rwa [List.length_set] at this
 rw [List.getElem?_set] at hi
 by_cases z:Zy (Zi x) lev=i
 · rw [if_pos z,if_pos (by rw [hl,z];exact hi4)] at hi
   cases hi
   rw [← z]
   exact hn
 · rw [if_neg z] at hi
   refine Tri.congr d (YH hr hi4) (Tri.mono d (hq i q hi) e) fun y hy hry=>hF y fun w=>z ?_
   rw [w] at hry
   rw [YZ (N.lo x hx)]
   exact (Yq hr hry).2
end
end K14
set_option maxHeartbeats 4000000
namespace K14
open PySem L2
inductive PutR (x:Str)(v:V):List Nd→Nat→Nat→List Nd→Nat→Prop
 | leaf {nds:List Nd} {lev num:Nat} {n:Nd} {qs:Zu}:nds[num]?=some n→(num=0∨n.hasM (Zi x)=true)→qs.Perm (XA n.pairs x v)→UE qs→PutR x v nds lev num (nds++[.leaf (Zi x) qs]) nds.length
 | fork {nds nds1:List Nd} {lev num q1 num1:Nat} {n:Nd}:nds[num]?=some n→num≠0→n.hasM (Zi x)=false→(Yb num lev n)[Zy (Zi x) lev]?=some q1→PutR x v nds (lev+1) q1 nds1 num1→PutR x v nds lev num (nds1++[.fork ((Yb num lev n).set (Zy (Zi x) lev) num1)]) nds1.length
section
variable {P:Program}{w:World}{K:KF}{mg:Str→Option Value}{base:Heap}{C Pl:Addr}{NS:List Str}
def Vo (K:KF)(C Pl:Addr)(NS:List Str):Nat→Sp
 | 0=>fun _ _ _ _=>False
 | d+1=>fun vs H Q _=>∃ (st ln dt:Addr) (nds:List Nd) (tabs:ZH) (num lev r:Nat) (x:Str) (v:V) (F:Str→Option V),vs=[.ref st,iN num,iN lev,.str x,v]∧StoreAt K C st ln dt H nds tabs∧nds[0]?=some .bare∧Tri NS nds F d lev r num∧r < 4 ^ lev∧lev+d=5∧x∈NS∧ZL x % 4 ^ lev=r∧nds.length+d+1≤100000∧LamAt H Pl YE Xz ∧
   ∀ (H':Hp) (nds':List Nd) (num':Nat),StoreAt K C st ln dt H' nds' tabs→NEx nds nds'→nds'.length≤nds.length+d+1→Tri NS nds' (Wl F x v) d lev r num'→PutR x v nds lev num nds' num'→LamAt H' Pl YE Xz→Kq [ln,Pl] H H'→TF H H'→Q (iN num') H'
abbrev nPi:List Str:=["self","number","level","name","value"]
theorem scPI:Zw ["self","number","level","name","value","node","pairs","parts","figure"] nPi (Zn c_Store_put_in):=⟨rfl,rfl,rfl,by decide +kernel,rfl,by decide +kernel,by decide +kernel⟩
theorem XJ {nds:List Nd}{F:Str→Option V}:∀{d lev r num:Nat},Tri NS nds F d lev r num→∃ n,nds[num]?=some n∧(n=.bare→num=0):=by
 have e:∀ {lev r num:Nat},TriE NS nds F lev r num→∃ n,nds[num]?=some n∧(n=.bare→num=0):=fun h=>by
   rcases h with ⟨h1,h2,_⟩ | ⟨m,ps,h1,_⟩
   · exact ⟨_,h2,fun _=>h1⟩
   · exact ⟨_,h1,fun z=>by cases z⟩
 intro d lev r num h
 cases d with
 | zero=>exact e h
 | succ d =>
   rcases h with h | ⟨qs,h1,_⟩
   · exact e h
   · exact ⟨_,h1,fun z=>by cases z⟩
theorem ZiO {nds:List Nd}{F:Str→Option V}{d lev r num:Nat}{n:Nd}{x:Str}(h0:nds[0]?=some .bare)(h:Tri NS nds F d lev r num)(hn:nds[num]?=some n)(hc:num=0∨n.hasM (Zi x)=true) :
   (n.pairs.map (·.1)).Nodup∧(∀ p∈n.pairs,p.1∈NS)∧(∀ p∈n.pairs,Zi p.1=Zi x)∧(∀ y∈NS,ZL y % 4 ^ lev=r→F y=lk n.pairs y)∧n.pairs.length≤NS.length:=by
 have e:TriE NS nds F lev r num→(n.pairs.map (·.1)).Nodup∧(∀ p∈n.pairs,p.1∈NS)∧(∀ p∈n.pairs,Zi p.1=Zi x)∧(∀ y∈NS,ZL y % 4 ^ lev=r→F y=lk n.pairs y)∧n.pairs.length≤NS.length:=fun g=>by
   rcases g with ⟨h1,h2,h3⟩ | ⟨m,ps,h1,G,hm,hF⟩
   · rw [hn] at h2;cases h2
     exact ⟨List.nodup_nil,fun p hp=>(by cases hp),fun p hp=>(by cases hp),h3,Nat.zero_le _⟩
   · rw [hn] at h1;cases h1
     rcases hc with z | z
     · rw [z,h0] at hn;cases hn
     · have z':m=Zi x:=of_decide_eq_true z
       exact ⟨G.nd,G.sub,fun p hp=>by rw [G.mrk p hp,z'],hF,G.few⟩
 cases d with
 | zero=>exact e h
 | succ d =>
   rcases h with h | ⟨qs,h1,_⟩
   · exact e h
   · rw [hn] at h1;cases h1
     rcases hc with z | z
     · rw [z,h0] at hn;cases hn
     · cases z
theorem Zkd {f:Addr}{fd:FuncData}{d k:Nat}(N:ZN NS)(hk:2≤k)(F:Fun K "put_in" "Store.put_in" c_Store_put_in f fd)(T:Txt K mg)(TC:Yv K C)
   (DH:Def P w K mg base 1 "has_mark" ["node","number"] (VH K)) (DR:Def P w K mg base 1 "pairs_in" ["node"] (Xs K)) (DM:Def P w K mg base 1 "mark" ["name"] Wm) (DG:Def P w K mg base 1 "digit" ["number","level"] Wg)
   (DL:Def P w K mg base 2 "leaf_of" ["pairs"] (VG K Pl YE)) (DO:Def P w K mg base 1 "fork_of" ["parts"] (WJ K)) (DK:DefM P w K mg base 1 C "keep" ["self","node"] (VE K C)) (DF:DefM P w K mg base 2 C "fork_parts" ["self","number","level"] (Zja K C))
   (DI:DefM P w K mg base k C "put_in" nPi (Vo K C Pl NS d)):FnOk P w K mg base ZK (k+1) f fd nPi (Vo K C Pl NS (d+1)):=by
 refine F.ok scPI (fun vs H Q E h=>?_) (fun cdv A outer s H vs Q E hr h=>?_)
 · obtain ⟨st,ln,dt,nds,tabs,num,lev,r,x,v,F,rfl,_⟩:=h;rfl
 obtain ⟨st,ln,dt,nds,tabs,num,lev,r,x,v,Fm,rfl,S,h0,htri,hrl,hlev,hx,hxr,hlen,hL,q⟩:=h
 obtain ⟨tz,hz⟩:=T.zero
 have hr1:=hr.mono (show 1≤k by omega)
 have hr2:=hr.mono hk
 refine' ⟨?t,?h,?r⟩
 case h =>
   conv=>arg 2;whnf
   with_reducible refine' Ze ?a1 (Ze (Yo ?a2 (Ze ?c1 (Ze ?c2 (Zj ?c3))) ZU) (Ze ?a3 (Ze ?a4 (Ze ?a5 (Zj ?a6)))))
   case a1=>exact Zs (i:=5) scPI.nd rfl (Or.inl rfl) (ZB ZI (YN (pv 0) rfl) (pv 1) (fun _ _=>rfl))
   case a2=>exact PW.pt (Zdc (ZE YR (pv 1) (Xv rfl hz (v:=.int 0) ⟨_,rfl⟩) (ZJ _)) (ZbB (VI (Zx DH hr1 (Zc (pv 5) (Zc (Zx DM hr1 (Zc (pv 3) Za)) Za))))))
   case c1=>exact Zs (i:=6) scPI.nd rfl (Or.inl rfl) (ZX (Ua rfl) rfl T.dict (by decide +kernel) (Zc (Zx DR hr1 (Zc (pv 5) Za)) Za))
   case c2=>exact UH (XS hr) (pv 6) (pv 3) (pv 4) rfl
   case c3=>exact Zt (Yc DK TC.cl hr1 (pv 0) (Zc (Zx DL hr2 (Zc (ZX (Zbb rfl) rfl T.list (by decide +kernel) (Zc (ZhH PySem.F.plainAttrs_dict PySem.F.slot_dict_items PySem.F.type_dict_items Zdy (pv 6)) Za)) Za)) Za))
   case a3=>exact Zs (i:=7) scPI.nd rfl (Or.inl rfl) (Yc DF TC.cl hr2 (pv 0) (Zc (pv 1) (Zc (pv 2) Za)))
   case a4=>exact Zs (i:=8) scPI.nd rfl (Or.inl rfl) (Zx DG hr1 (Zc (Zx DM hr1 (Zc (pv 3) Za)) (Zc (pv 2) Za)))
   case a5=>exact Uu (Yc DI TC.cl hr (pv 0) (Zc (ZB ZI (pv 7) (pv 8) (fun _ _=>rfl)) (Zc (Zo Yi (pv 2) Zd) (Zc (pv 3) (Zc (pv 4) Za))))) (VM (pv 7) (pv 8) WQ)
   case a6=>exact Zt (Yc DK TC.cl hr1 (pv 0) (Zc (Zx DO hr1 (Zc (pv 7) Za)) Za))
 obtain ⟨n,hn,hbare⟩:=XJ htri
 obtain ⟨as,a,nl,ha,hna⟩:=S.node hn
 obtain ⟨dx,ob⟩:=S.ob
 obtain ⟨tb,htb⟩:=hL.tbl
 have hst:st ∉ [Pl]:=fun z=>by rw [List.mem_singleton.mp z,htb] at ob;cases ob
 have hln:ln ∉ [Pl]:=fun z=>by rw [List.mem_singleton.mp z,htb] at nl;cases nl
 have hdt:dt ∉ [Pl]:=fun z=>by have e:=S.tb;rw [List.mem_singleton.mp z,htb] at e;cases e
 refine ⟨_,rfl,st,C,dx,_,_,rfl,ob,TC.cl,TC.nN,Xh ln dt,_,rfl,ln,_,_,_,rfl,rfl,SqL.of nl,ZT (by rw [List.getElem?_map,ha];rfl),?_⟩
 refine ⟨_,rfl,rfl,_,rfl,?_⟩
 have ed:decide (iN num=V.int 0)=decide (num=0):=by
   by_cases z:num=0
   · rw [decide_eq_true z,z];exact decide_eq_true rfl
   · rw [decide_eq_false z]
     exact decide_eq_false fun y=>z (by have:=V.int.inj y;omega)
 rw [ed]
 rcases Classical.em (num=0∨n.hasM (Zi x)=true) with hc | hc
 · obtain ⟨hnd,hsub,hmrk,hF,hfew⟩:=ZiO h0 htri hn hc
   by_cases z0:num=0
   rw [decide_eq_true z0]
   have s1:Same H H:=Same.refl H
   refine Xg (Xg ?_)
   rotate_left
   rw [decide_eq_false z0]
   refine Yr ⟨_,rfl,_,rfl,x,rfl,N.len x hx,fun H1 s1=>⟨a,n,Zi x,rfl,hna.tf s1.tf,_,rfl,?_⟩⟩
   rw [hc.resolve_left z0]
   refine Xg ?_
   all_goals
     have S1:=S.keep s1
     refine ⟨_,rfl,a,n,rfl,hna.tf s1.tf,fun pt H2 s2 hpt=>?_⟩
     obtain ⟨o,ts,ept,hod,hlts,hp⟩:=hpt
     have hfw:=N.few
     refine ⟨pt,ts,n.pairs,rfl,⟨o,ept,hod⟩,hlts,by omega,hp,hnd,fun dd hd=>?_⟩
     have hd0:H dd=none:=by
       cases e:H dd with
       | none=>rfl
       | some o=>rw [s2 _ _ (s1 _ _ e)] at hd;cases hd
     have s3:=Zm hd (.dK (n.pairs.map fun p=>((Sum.inr p.1:Zk),p.2)))
     refine ⟨_,rfl,_,rfl,_,rfl,dd,_,rfl,DPut.k (k:=Sum.inr x) Zg (by rw [List.length_map];exact Nat.lt_of_le_of_lt (show n.pairs.length≤64 by omega) (by decide)),?_⟩
     have s4:Same H (upd (upd H2 dd (.dK (n.pairs.map fun p=>((Sum.inr p.1:Zk),p.2)))) dd (.dK (ZZ (n.pairs.map fun p=>((Sum.inr p.1:Zk),p.2)) (Sum.inr x) v))):=fun b o e=>by
       rw [Zh (Zp e hd0),Zh (Zp e hd0)];exact s2 _ _ (s1 _ _ e)
     have ed4:upd (upd H2 dd (.dK (n.pairs.map fun p=>((Sum.inr p.1:Zk),p.2)))) dd (.dK (ZZ (n.pairs.map fun p=>((Sum.inr p.1:Zk),p.2)) (Sum.inr x) v)) dd=some (.dK ((XA n.pairs x v).map gK)):=by
       rw [Zg,← ZdD];rfl
     generalize upd (upd H2 dd (.dK (n.pairs.map fun p=>((Sum.inr p.1:Zk),p.2)))) dd (.dK (ZZ (n.pairs.map fun p=>((Sum.inr p.1:Zk),p.2)) (Sum.inr x) v))=H4 at *
     have S4:=S.keep s4
     obtain ⟨dx4,ob4⟩:=S4.ob
     refine ⟨_,rfl,st,dx4,_,rfl,ob4,ZC ln dt,_,rfl,.inr (.inr (.inl ⟨rfl,.inl ⟨_,ed4⟩⟩)),dd,_,rfl,rfl,ed4,fun vv hvv=>?_⟩
     have s5:=Zm hvv (.ext (UB vv dd))
     refine ⟨vv,dd,_,rfl,Zg,s5 _ _ ed4,fun l ts2 H5 hl5 s5b hlt2 hnone htup hlst=>?_⟩
     have s6:Same H H5:=(s4.trans s5).trans s5b
     have G:=Zed (NS:=NS) v hx hnd hsub hmrk
     have hPT:PairT H5 ts2 (XA n.pairs x v):=by
       refine ⟨by rw [hlt2,List.length_map],fun i b p e1 e2=>?_⟩
       exact htup i b (gK p) e1 (by rw [List.getElem?_map,e2];rfl)
     have hL5:=LamAt.same hL s6
     refine ⟨l,ts2,XA n.pairs x v,rfl,hlst,hPT,G.ne,by have:=G.few;omega,fun p hp=>N.len _ (G.sub p hp),hL5,fun a6 H6 p1 pr g6 L6 perm6 sort6 node6=>?_⟩
     have tb5:H5 Pl=some (.tbl tb):=s6 _ _ htb
     have tf6:TF H5 H6:=g6.tf tb5
     have S6:=(S.keep s6).kq g6.kq tf6 hst hln hdt
     refine ⟨st,ln,dt,a6,nds,tabs,_,rfl,S6,node6,by omega,fun H7 S7 k7 tf7=>?_⟩
     have nl6:∃ xs,H6 ln=some (.lst xs):=by obtain ⟨as6,e6,_⟩:=S6.nl;exact ⟨_,e6⟩
     have hmk:Zi p1.1=Zi x:=(G.perm perm6).mrk p1 List.mem_cons_self
     rw [hmk] at S7
     refine q H7 _ nds.length S7 (NEx.app nds _) (by rw [List.length_append];show nds.length+1≤_;omega) ?_ (PutR.leaf hn hc perm6 sort6) (L6.kq k7 fun b hb=>by rw [List.mem_singleton.mp hb];exact nl6) ?_ ((s6.tf.trans tf6).trans tf7)
     · exact ZiG (ps:=n.pairs) N hx hxr (by rw [List.getElem?_append_right (Nat.le_refl _),Nat.sub_self];rfl) rfl G perm6 hF
     · exact (Same.kq s6).trans ((g6.kq.sub fun b hb=>by simp at hb ⊢;exact .inr hb).trans (k7.sub fun b hb=>by simp at hb ⊢;exact .inl hb))
 · have z0:num≠0:=fun z=>hc (.inl z)
   have zm:n.hasM (Zi x)=false:=by
     cases e:n.hasM (Zi x) with
     | false=>rfl
     | true=>exact absurd (.inr e) hc
   have hnb:n≠.bare:=fun z=>z0 (hbare z)
   rw [decide_eq_false z0]
   refine Yr ⟨_,rfl,_,rfl,x,rfl,N.len x hx,fun H1 s1=>⟨a,n,Zi x,rfl,hna.tf s1.tf,_,rfl,?_⟩⟩
   rw [zm]
   refine Yr ?_
   cases d with
   | zero =>
     have h5:lev=5:=by omega
     subst h5
     exact absurd (.inr (ZdU N htri hn hnb hx hxr)) hc
   | succ d =>
     obtain ⟨hf4,hft⟩:=ZdM N h0 hrl htri hn hnb
     have hok:Zdm n:=by
       rcases htri with htri | ⟨qs,h1,_⟩
       · rcases htri with ⟨z,_⟩ | ⟨m,ps,h1,G,_⟩
         · exact absurd z z0
         · rw [hn] at h1;cases h1;exact G.ok N
       · rw [hn] at h1;cases h1;exact trivial
     have S1:=S.keep s1
     obtain ⟨dx1,ob1⟩:=S1.ob
     refine ⟨_,rfl,st,dx1,_,rfl,ob1,ZC ln dt,_,rfl,_,rfl,st,ln,dt,nds,tabs,num,lev,n,rfl,S1,hn,hnb,hok,by omega,fun rl H2 hrl1 s2 el=>?_⟩
     refine ⟨_,rfl,x,rfl,N.len x hx,fun H3 s3=>⟨_,rfl,Zi x,lev,rfl,N.lo x hx,by omega,?_⟩⟩
     have s13:Same H H3:=(s1.trans s2).trans s3
     have S3:=S.keep s13
     have hrl0:H rl=none:=by
       cases e:H rl with
       | none=>rfl
       | some o=>rw [s1 _ _ e] at hrl1;cases hrl1
     have el3:=s3 _ _ el
     have hdl:Zy (Zi x) lev < (Yb num lev n).length:=by rw [hf4];exact XC _ _
     have hq1:=List.getElem?_eq_getElem hdl
     generalize (Yb num lev n)[Zy (Zi x) lev]=q1 at hq1
     have hat:YI ((Yb num lev n).map iN) (Zi x / 4 ^ lev % 4)=some (iN q1):=by rw [← Wh];exact ZT (by rw [List.getElem?_map,hq1];rfl)
     obtain ⟨dx3,ob3⟩:=S3.ob
     refine ⟨_,rfl,st,dx3,_,rfl,ob3,ZC ln dt,_,rfl,_,rfl,rl,_,_,_,rfl,rfl,SqL.of el3,hat,_,rfl,_,_,rfl,rfl,_,rfl,_,rfl,?_⟩
     refine ⟨st,ln,dt,nds,tabs,q1,lev+1,_,x,v,Fm,rfl,S3,h0,hft _ _ hq1,YH hrl (XC _ _),by omega,hx,by rw [YK,hxr,YZ (N.lo x hx)];rfl,by omega,LamAt.same hL s13,fun H5 nds5 num5 S5 ext5 len5 tri5 pr5 L5 kq5 tf5=>?_⟩
     have nrl:rl ∉ [ln,Pl]:=fun z=>by
       rcases List.mem_cons.mp z with z | z
       · rw [z,nl] at hrl0;cases hrl0
       · rw [List.mem_singleton.mp z,htb] at hrl0;cases hrl0
     have el5:=kq5 _ _ nrl el3
     have hix:Wv ((Yb num lev n).map iN).length (Zi x / 4 ^ lev % 4)=some (Zy (Zi x) lev):=by
       rw [← Wh,List.length_map]
       unfold Wv
       rw [if_pos (by omega),if_pos (by omega)]
       rfl
     refine ⟨_,rfl,_,rfl,rl,_,_,_,rfl,rfl,el5,hix,?_⟩
     have tf6:=VL (o:=.lst (((Yb num lev n).map iN).set (Zy (Zi x) lev) (iN num5))) el5
     have k6:Kq [rl] H5 (upd H5 rl (.lst (((Yb num lev n).map iN).set (Zy (Zi x) lev) (iN num5)))):=ZaR
     have nst:st ∉ [rl]:=fun z=>by rw [← List.mem_singleton.mp z,ob] at hrl0;cases hrl0
     have nln:ln ∉ [rl]:=fun z=>by rw [← List.mem_singleton.mp z,nl] at hrl0;cases hrl0
     have ndt:dt ∉ [rl]:=fun z=>by rw [← List.mem_singleton.mp z,S.tb] at hrl0;cases hrl0
     have S6:=S5.kq k6 tf6 nst nln ndt
     have el6:upd H5 rl (.lst (((Yb num lev n).map iN).set (Zy (Zi x) lev) (iN num5))) rl=some (.lst (((Yb num lev n).set (Zy (Zi x) lev) num5).map iN)):=by rw [Zg,List.map_set]
     have L6:=L5.kq k6 fun b hb=>by rw [List.mem_singleton.mp hb];exact ⟨_,el5⟩
     have kh:Kq [ln,Pl] H (upd H5 rl (.lst (((Yb num lev n).map iN).set (Zy (Zi x) lev) (iN num5)))):=fun b o nb e=>by
       rw [Zh (Zp e hrl0)];exact kq5 _ _ nb (s13 _ _ e)
     generalize upd H5 rl (.lst (((Yb num lev n).map iN).set (Zy (Zi x) lev) (iN num5)))=H6 at *
     obtain ⟨dx6,ob6⟩:=S6.ob
     refine ⟨_,rfl,st,dx6,_,rfl,ob6,ZC ln dt,_,rfl,rl,(Yb num lev n).set (Zy (Zi x) lev) num5,rfl,el6,by rw [List.length_set,hf4],fun a7 H7 s7 node7=>?_⟩
     have S7:=S6.keep s7
     refine ⟨st,ln,dt,a7,nds5,tabs,_,rfl,S7,node7,by omega,fun H8 S8 k8 tf8=>?_⟩
     have nl7:∃ xs,H7 ln=some (.lst xs):=by obtain ⟨as7,e7,_⟩:=S7.nl;exact ⟨_,e7⟩
     refine q H8 _ nds5.length S8 (ext5.trans (NEx.app nds5 _)) (by rw [List.length_append];show nds5.length+1≤_;omega) ?_ (PutR.fork hn z0 zm hq1 pr5) ((LamAt.same L6 s7).kq k8 fun b hb=>by rw [List.mem_singleton.mp hb];exact nl7) ?_ ((((s13.tf.trans tf5).trans tf6).trans s7.tf).trans tf8)
     · refine ZiU (v:=v) (num':=num5) (F:=Fm) (qs:=Yb num lev n) N hrl hx hxr hf4 hft (ext5.trans (NEx.app nds5 _)) (Tri.mono d tri5 (NEx.app nds5 _)) (fun y hy=>if_neg hy) ?_
       rw [List.getElem?_append_right (Nat.le_refl _),Nat.sub_self];rfl
     · exact (kh.trans (Same.kq s7)).trans (k8.sub fun b hb=>by simp at hb ⊢;exact .inl hb)
end
end K14
set_option maxHeartbeats 4000000
namespace K14
open PySem L2
section
variable {P:Program}{w:World}{K:KF}{mg:Str→Option Value}{base:Heap}{C Pl:Addr}{NS:List Str}
theorem ZeP {f:Addr}{fd:FuncData}(N:ZN NS)(F:Fun K "put_in" "Store.put_in" c_Store_put_in f fd)(T:Txt K mg)(TC:Yv K C)
   (DH:Def P w K mg base 1 "has_mark" ["node","number"] (VH K)) (DR:Def P w K mg base 1 "pairs_in" ["node"] (Xs K)) (DM:Def P w K mg base 1 "mark" ["name"] Wm) (DG:Def P w K mg base 1 "digit" ["number","level"] Wg)
   (DL:Def P w K mg base 2 "leaf_of" ["pairs"] (VG K Pl YE)) (DO:Def P w K mg base 1 "fork_of" ["parts"] (WJ K)) (DK:DefM P w K mg base 1 C "keep" ["self","node"] (VE K C)) (DF:DefM P w K mg base 2 C "fork_parts" ["self","number","level"] (Zja K C))
   (b:Binds K fd nPi []) (mt:Vs K C "put_in" f):∀ d,FnOk P w K mg base ZK (2+d) f fd nPi (Vo K C Pl NS d)
 | 0=>F.ok scPI (fun _ _ _ _ h=>h.elim) (fun _ _ _ _ _ _ _ _ _ h=>h.elim)
 | d+1=>Zkd N (Nat.le_add_right 2 d) F T TC DH DR DM DG DL DO DK DF ⟨f,fd,ZeP N F T TC DH DR DM DG DL DO DK DF b mt d,b,mt⟩
def ZbO:Sp:=fun vs H Q _=>∃ u v,vs=[u,v]∧scal u v=true∧Q (.bl (decide (u=v))) H
theorem scAl:Zw ["one","other"] ["one","other"] (Zn s_alike):=⟨rfl,rfl,rfl,by decide +kernel,rfl,by decide +kernel,by decide +kernel⟩
theorem Zjc {f:Addr}{fd:FuncData}(F:Fun K "alike" "alike" s_alike f fd):FnOk P w K mg base ZK 1 f fd ["one","other"] ZbO:=by
 refine F.ok scAl (fun vs H Q E h=>?_) (fun cdv A outer s H vs Q E hr h=>?_)
 · obtain ⟨u,v,rfl,_⟩:=h;rfl
 obtain ⟨u,v,rfl,hs,q⟩:=h
 exact ⟨_,Zj (Zt (VZ YR (pv 0) (pv 1) (ZJ _))),⟨_,rfl,_,rfl,hs,q⟩⟩
def ValV:V→Prop
 | .int _=>True
 | .str _=>True
 | _=>False
theorem ValV.scal {o:Option V}{v:V}(h:ValV v)(ho:∀ u,o=some u→ValV u):scal (o.getD .non) v=true:=by
 cases o with
 | none=>cases v<;>first | rfl | exact h.elim
 | some u =>
   have hu:=ho u rfl
   cases u<;>first | exact hu.elim | (cases v<;>first | rfl | exact h.elim)
theorem ValV.ne {v:V}(h:ValV v):v≠.non:=fun z=>by subst z;exact h
theorem Wx {nds:List Nd}{F:Str→Option V}{t:Nat}{x:Str}(N:ZN NS)(h:Tri NS nds F 5 0 0 t)(hx:x∈NS) :
   ∃ ws e n,Ym nds (Zi x) 6 0 t=some (ws++[e])∧nds[e]?=some n∧n.pairs.length≤1000∧(n.pairs.map (·.1)).Nodup∧lk n.pairs x=F x:=by
 obtain ⟨ws,e,n,e1,e2,e3⟩:=ZkB N 5 (by decide) h hx (by rw [Nat.pow_zero,Nat.mod_one])
 refine ⟨ws,e,n,e1,e2,?_⟩
 have hf:=N.few
 rcases e3 with ⟨_,rfl,z⟩ | ⟨m,ps,rfl,G,z⟩
 · exact ⟨Nat.zero_le _,List.nodup_nil,by rw [z];rfl⟩
 · exact ⟨by have:=G.few;show ps.length≤1000;omega,G.nd,z.symm⟩
def ZjE (K:KF)(C Pl:Addr)(NS:List Str):Sp:=fun vs H Q _=>∃(st ln dt:Addr)(nds:List Nd)(tabs:ZH)(t:Nat)(x:Str)(v:V)(F:Str→Option V),vs=[.ref st,iN t,.str x,v]∧StoreAt K C st ln dt H nds tabs∧nds[0]?=some .bare∧(ZA tabs (Sum.inl (t:Int))).isSome=true∧Tri NS nds F 5 0 0 t∧x∈NS∧ValV v∧(∀ u,F x=some u→ValV u)∧nds.length+6≤100000∧tabs.length≤100000∧LamAt H Pl YE Xz ∧
 ∀ (H':Hp) (nds':List Nd) (tabs':ZH) (t':Nat),StoreAt K C st ln dt H' nds' tabs'→NEx nds nds'→nds'.length≤nds.length+6→tabs'.length≤tabs.length+1→(∀ k,(ZA tabs k).isSome=true→(ZA tabs' k).isSome=true)→(ZA tabs' (Sum.inl (t':Int))).isSome=true→Tri NS nds' (Wl F x v) 5 0 0 t'→((F x=some v∧t'=t∧nds'=nds∧tabs'=tabs)∨(F x≠some v∧PutR x v nds 0 t nds' t'∧tabs'=ZZ tabs (Sum.inl (t':Int)) (.bl true)))→LamAt H' Pl YE Xz→Kq [ln,dt,Pl] H H'→TF H H'→Q (iN t') H'
theorem scPu:Zw ["self","table","name","value"] ["self","table","name","value"] (Zn c_Store_put):=⟨rfl,rfl,rfl,by decide +kernel,rfl,by decide +kernel,by decide +kernel⟩
theorem ZgN {f:Addr}{fd:FuncData}(N:ZN NS)(F:Fun K "put" "Store.put" c_Store_put f fd)(TC:Yv K C)(DA:Def P w K mg base 1 "alike" ["one","other"] ZbO)(DLk:DefM P w K mg base 3 C "looked" ["self","table","name"] (WK K C))
   (DAs:DefM P w K mg base 1 C "as_table" ["self","number"] (ZfZ K C)) (DI:DefM P w K mg base 8 C "put_in" nPi (Vo K C Pl NS 6)):FnOk P w K mg base ZK 9 f fd ["self","table","name","value"] (ZjE K C Pl NS):=by
 refine F.ok scPu (fun vs H Q E h=>?_) (fun cdv A outer s H vs Q E hr h=>?_)
 · obtain ⟨st,ln,dt,nds,tabs,t,x,v,F,rfl,_⟩:=h;rfl
 obtain ⟨st,ln,dt,nds,tabs,t,x,v,Fm,rfl,S,h0,htab,htri,hx,hv,hFv,hlen,htl,hL,q⟩:=h
 have hr1:=hr.mono (show 1≤8 by decide)
 have hr3:=hr.mono (show 3≤8 by decide)
 refine' ⟨?t,?h,?r⟩
 case h =>
   conv=>arg 2;whnf
   with_reducible refine' Ze (Yo ?a1 (Zj ?a2) ZU) (Zj ?a3)
   case a1=>exact VI (Zx DA hr1 (Zc (Yc DLk TC.cl hr3 (pv 0) (Zc (pv 1) (Zc (pv 2) Za))) (Zc (pv 3) Za)))
   case a2=>exact Zt (pv 1)
   case a3=>exact Zt (Yc DAs TC.cl hr1 (pv 0) (Zc (Yc DI TC.cl hr (pv 0) (Zc (pv 1) (Zc Zd (Zc (pv 2) (Zc (pv 3) Za))))) Za))
 obtain ⟨dx,ob⟩:=S.ob
 obtain ⟨ws,e,n,e1,e2,e3,e4,e5⟩:=Wx N htri hx
 refine ⟨_,rfl,st,dx,_,rfl,ob,ZC ln dt,_,rfl,_,rfl,st,ln,dt,nds,tabs,t,x,6,ws,e,n,rfl,S,htab,N.len x hx,N.lo x hx,by decide,e1,e2,e3,e4,fun H1 s1=>?_⟩
 rw [e5]
 refine ⟨_,rfl,_,_,rfl,hv.scal hFv,_,rfl,?_⟩
 have S1:=S.keep s1
 have hL1:=LamAt.same hL s1
 by_cases hc:(Fm x).getD .non=v
 · rw [decide_eq_true hc]
   refine Xg ⟨_,rfl,q H1 nds tabs t S1 (NEx.refl _) (by omega) (by omega) (fun _ h=>h) htab (Tri.congr 5 (by decide) htri fun y _ _=>?_) (.inl ⟨?_,rfl,rfl,rfl⟩) hL1 (Same.kq s1) s1.tf⟩
   rotate_left
   · cases eF:Fm x with
     | none=>rw [eF] at hc;exact absurd hc.symm hv.ne
     | some u=>rw [eF] at hc;exact congrArg some hc
   unfold Wl
   by_cases z:y=x
   · rw [if_pos z,z]
     cases eF:Fm x with
     | none=>rw [eF] at hc;exact absurd hc.symm hv.ne
     | some u=>rw [eF] at hc;exact congrArg some hc.symm
   · rw [if_neg z]
 · rw [decide_eq_false hc]
   obtain ⟨dx1,ob1⟩:=S1.ob
   refine Yr ⟨_,rfl,st,dx1,_,rfl,ob1,ZC ln dt,_,rfl,st,dx1,_,rfl,ob1,ZC ln dt,_,rfl,_,rfl,_,rfl,?_⟩
   refine ⟨st,ln,dt,nds,tabs,t,0,0,x,v,Fm,rfl,S1,h0,htri,by decide,rfl,hx,by rw [Nat.pow_zero,Nat.mod_one],hlen,hL1,fun H2 nds2 num2 S2 ext2 len2 tri2 pr2 L2' kq2 tf2=>?_⟩
   refine ⟨st,ln,dt,nds2,tabs,num2,rfl,S2,by omega,fun H3 S3 k3 tf3=>?_⟩
   obtain ⟨tb,htb⟩:=L2'.tbl
   refine q H3 nds2 _ num2 S3 ext2 len2 (XD _ _ _) (fun k hk=>?_) (by rw [WN,if_pos rfl];rfl) tri2 (.inr ⟨fun z=>hc (by rw [z];rfl),pr2,rfl⟩) ?_ ?_ ((s1.tf.trans tf2).trans tf3)
   · rw [WN]
     by_cases z:k=Sum.inl (num2:Int)
     · rw [if_pos z];rfl
     · rw [if_neg z];exact hk
   · have hdl:∀ b∈[dt],∃ xs,H2 b=some (.dK xs):=fun b hb=>by rw [List.mem_singleton.mp hb];exact ⟨_,S2.tb⟩
     rcases L2' with h | ⟨c,h,h2⟩
     · exact .inl (k3 _ _ (fun z=>by obtain ⟨_,e⟩:=hdl _ z;rw [h] at e;cases e) h)
     · exact .inr ⟨c,k3 _ _ (fun z=>by obtain ⟨_,e⟩:=hdl _ z;rw [h] at e;cases e) h,k3 _ _ (fun z=>by obtain ⟨_,e⟩:=hdl _ z;rw [h2] at e;cases e) h2⟩
   · exact ((Same.kq s1).trans (kq2.sub fun b hb=>by simp at hb ⊢;rcases hb with z | z;exact .inl z;exact .inr (.inr z))).trans (k3.sub fun b hb=>by simp at hb ⊢;exact .inr (.inl hb))
end
end K14
set_option maxHeartbeats 4000000
namespace K14
open PySem L2
section
variable {NS:List Str}{nds nds':List Nd}{F F':Str→Option V}
def Ub (F:Str→Option V)(x:Str):Str→Option V:=fun y=>if y=x then none else F y
def XB (ps:Zu)(x:Str):List (Str×V):=ps.filter fun p=>!decide (p.1=x)
theorem ZeR (ps:Zu)(x y:Str):lk (XB ps x) y=if y=x then none else lk ps y:=by
 induction ps with
 | nil => by_cases h:y=x
          · rw [if_pos h];rfl
          · rw [if_neg h];rfl
 | cons p ps ih =>
   unfold XB at ih ⊢
   rw [List.filter_cons]
   by_cases hp:p.1=x
   · rw [decide_eq_true hp]
     show lk (ps.filter fun p=>!decide (p.1=x)) y=_
     rw [ih,WF]
     by_cases h:y=x
     · rw [if_pos h,if_pos h]
     · rw [if_neg h,if_neg h,if_neg fun z=>h (by rw [← z,hp])]
   · rw [decide_eq_false hp]
     show lk (p::ps.filter fun p=>!decide (p.1=x)) y=_
     rw [WF,ih,WF]
     by_cases h:y=x
     · rw [if_pos h,if_pos h,if_neg fun z=>hp (by rw [z,h])]
     · rw [if_neg h,if_neg h]
theorem LeafG.but {m:Int}{ps:Zu}{x:Str}(G:LeafG NS m ps)(h:XB ps x≠[]):LeafG NS m (XB ps x):=by
 have hs:(XB ps x).Sublist ps:=List.filter_sublist
 exact ⟨h,G.nd.sublist (hs.map (·.1)),fun p hp=>G.sub p (hs.subset hp),fun p hp=>G.mrk p (hs.subset hp)⟩
theorem ZcD {d lev r num:Nat}(h:TriE NS nds F lev r num):Tri NS nds F d lev r num:=by
 cases d with
 | zero=>exact h
 | succ d=>exact .inl h
theorem ZgK {d lev r num:Nat}{n:Nd}{x:Str}{v0:V}(h:Tri NS nds F d lev r num)(hn:nds[num]?=some n)(hx:x∈NS)(hxr:ZL x % 4 ^ lev=r)(hF:F x=some v0) :
   (∃ ps,n=.leaf (Zi x) ps∧LeafG NS (Zi x) ps∧∀ y∈NS,ZL y % 4 ^ lev=r→F y=lk ps y)∨∃ qs d',d=d'+1∧n=.fork qs∧qs.length=4∧∀ i q,qs[i]?=some q→Tri NS nds F d' (lev+1) (r+i * 4 ^ lev) q:=by
 have e:TriE NS nds F lev r num→∃ ps,n=.leaf (Zi x) ps∧LeafG NS (Zi x) ps∧∀ y∈NS,ZL y % 4 ^ lev=r→F y=lk ps y:=fun g=>by
   rcases g with ⟨_,_,h3⟩ | ⟨m,ps,h1,G,_,h4⟩
   · rw [h3 x hx hxr] at hF;cases hF
   · rw [hn] at h1;cases h1
     have hm:Zi x=m:=by
       rw [h4 x hx hxr] at hF
       exact G.mrk _ ((Yf G.nd).mp hF)
     subst hm
     exact ⟨ps,rfl,G,h4⟩
 cases d with
 | zero=>exact .inl (e h)
 | succ d =>
   rcases h with h | ⟨qs,h1,h2,h3⟩
   · exact .inl (e h)
   · rw [hn] at h1;cases h1
     exact .inr ⟨qs,d,rfl,rfl,h2,h3⟩
theorem ZiX {lev r num:Nat}{ps qs:Zu}{x:Str}(d:Nat)(hr:ZL x % 4 ^ lev=r)(hn:nds[num]?=some (.leaf (Zi x) qs))(G:LeafG NS (Zi x) (XB ps x))(hp:qs.Perm (XB ps x))(hF:∀ y∈NS,ZL y % 4 ^ lev=r→F y=lk ps y):Tri NS nds (Ub F x) d lev r num:=by
 refine ZcD (.inr ⟨Zi x,qs,hn,G.perm hp,hr,fun y hy hry=>?_⟩)
 rw [ZeS hp G.nd,ZeR]
 unfold Ub
 by_cases h:y=x
 · rw [if_pos h,if_pos h]
 · rw [if_neg h,if_neg h];exact hF y hy hry
theorem ZiJ {lev r:Nat}{ps:Zu}{x:Str}(d:Nat)(h0:nds[0]?=some .bare)(hb:XB ps x=[])(hF:∀ y∈NS,ZL y % 4 ^ lev=r→F y=lk ps y):Tri NS nds (Ub F x) d lev r 0:=by
 refine ZcD (.inl ⟨rfl,h0,fun y hy hry=>?_⟩)
 have:=ZeR ps x y
 rw [hb,ZgY] at this
 unfold Ub
 by_cases h:y=x
 · rw [if_pos h]
 · rw [if_neg h] at this ⊢;rw [hF y hy hry];exact this.symm
theorem Zhq {d lev r num':Nat}{qs:List Nat}{x:Str}(N:ZN NS)(hr:r < 4 ^ lev)(hx:x∈NS)(hxr:ZL x % 4 ^ lev=r)(hl:qs.length=4)(hq:∀(i q:Nat),qs[i]?=some q→Tri NS nds F d (lev+1) (r+i * 4 ^ lev) q)
   (e:NEx nds nds') (hn:Tri NS nds' F' d (lev+1) (r+Zy (Zi x) lev * 4 ^ lev) num') (hF:∀ y,y≠x→F' y=F y) (i q:Nat) (hi:(qs.set (Zy (Zi x) lev) num')[i]?=some q):Tri NS nds' F' d (lev+1) (r+i * 4 ^ lev) q:=by
 have hi4:i < 4:=by rw [← hl];have:=(List.getElem?_eq_some_iff.mp hi).1;rwa [List.length_set] at this
 rw [List.getElem?_set] at hi
 by_cases z:Zy (Zi x) lev=i
 · rw [if_pos z,if_pos (by rw [hl,z];exact hi4)] at hi
   cases hi
   rw [← z]
   exact hn
 · rw [if_neg z] at hi
   refine Tri.congr d (YH hr hi4) (Tri.mono d (hq i q hi) e) fun y hy hry=>hF y fun w=>z ?_
   rw [w] at hry
   rw [YZ (N.lo x hx)]
   exact (Yq hr hry).2
theorem ZaP {qs:List Nat}{q:Nat}(h:(qs.filter fun p=>!decide (p=0))=[q]):∃ i:Nat,qs[i]?=some q∧q≠0∧∀(j p:Nat),qs[j]?=some p→j≠i→p=0:=by
 induction qs with
 | nil=>cases h
 | cons a qs ih =>
   rw [List.filter_cons] at h
   by_cases ha:a=0
   · rw [decide_eq_true ha] at h
     obtain ⟨i,h1,h2,h3⟩:=ih h
     refine ⟨i+1,h1,h2,fun j p hj hne=>?_⟩
     cases j with
     | zero=>cases hj;exact ha
     | succ j=>exact h3 j p hj fun z=>hne (by rw [z])
   · rw [decide_eq_false ha] at h
     have h':a::(qs.filter fun p=>!decide (p=0))=[q]:=h
     obtain ⟨e1,e2⟩:=List.cons.inj h'
     refine ⟨0,by rw [e1];rfl,by rw [← e1];exact ha,fun j p hj hne=>?_⟩
     cases j with
     | zero=>exact absurd rfl hne
     | succ j =>
       have hp:p∈qs:=List.mem_of_getElem? hj
       by_cases z:p=0
       · exact z
       · have:p∈qs.filter fun p=>!decide (p=0):=List.mem_filter.mpr ⟨hp,by rw [decide_eq_false z];rfl⟩
         rw [e2] at this;cases this
theorem ZlP {d lev r q:Nat}{qs:List Nat}{m:Int}{ps:Zu}(N:ZN NS)(h0:nds[0]?=some .bare)(hr:r < 4 ^ lev)(hl:qs.length=4)(hq:∀(i q:Nat),qs[i]?=some q→Tri NS nds F d (lev+1) (r+i * 4 ^ lev) q)
   (h1:(qs.filter fun p=>!decide (p=0))=[q]) (hn:nds[q]?=some (.leaf m ps)):Tri NS nds F (d+1) lev r q:=by
 obtain ⟨i,hi,hq0,hoth⟩:=ZaP h1
 have leafE:TriE NS nds F (lev+1) (r+i * 4 ^ lev) q:=by
   have:=hq i q hi
   cases d with
   | zero=>exact this
   | succ d =>
     rcases this with h | ⟨qs',h,_⟩
     · exact h
     · rw [hn] at h;cases h
 rcases leafE with ⟨z,_⟩ | ⟨m',ps',e,G,hm,hF⟩
 · exact absurd z hq0
 · rw [hn] at e;cases e
   obtain ⟨p1,pr,e1,e2,e3,e4⟩:=G.ok N
   obtain ⟨hm1,hm2⟩:=Yq hr hm
   refine .inl (.inr ⟨m,ps,hn,G,hm1,fun y hy hry=>?_⟩)
   have hj:Zy (Zi y) lev < qs.length:=by rw [hl];exact XC _ _
   have hyr:ZL y % 4 ^ (lev+1)=r+Zy (Zi y) lev * 4 ^ lev:=by rw [YK,hry,YZ (N.lo y hy)];rfl
   by_cases z:Zy (Zi y) lev=i
   · rw [z] at hyr;exact hF y hy hyr
   · have hz:=hoth _ _ (List.getElem?_eq_getElem hj) z
     have ht:=hq _ _ (List.getElem?_eq_getElem hj)
     rw [hz] at ht
     have hE:TriE NS nds F (lev+1) (r+Zy (Zi y) lev * 4 ^ lev) 0:=by
       cases d with
       | zero=>exact ht
       | succ d =>
         rcases ht with h | ⟨qs',h,_⟩
         · exact h
         · rw [h0] at h;cases h
     rcases hE with ⟨_,_,h3⟩ | ⟨m',ps',e,_⟩
     · rw [h3 y hy hyr]
       refine (UD fun p hp e=>z ?_).symm
       rw [YZ (N.lo y hy),← hm2,← e,G.mrk p hp]
     · rw [h0] at e;cases e
theorem ZaK {d lev r num:Nat}{qs:List Nat}(hn:nds[num]?=some (.fork qs))(hl:qs.length=4)(hq:∀(i q:Nat),qs[i]?=some q→Tri NS nds F d (lev+1) (r+i * 4 ^ lev) q):Tri NS nds F (d+1) lev r num:=.inr ⟨qs,hn,hl,hq⟩
end
theorem ZkH {X:Cx}{K:KF}(hK:X.K=K):IxR X (rIxT K):=by subst hK;exact YS
inductive TakR (x:Str):List Nd→Nat→Nat→List Nd→Nat→Prop
 | gone {nds:List Nd} {lev num:Nat} {ps:Zu}:nds[num]?=some (.leaf (Zi x) ps)→XB ps x=[]→TakR x nds lev num nds 0
 | less {nds:List Nd} {lev num:Nat} {ps qs:Zu}:nds[num]?=some (.leaf (Zi x) ps)→XB ps x≠[]→qs.Perm (XB ps x)→UE qs→TakR x nds lev num (nds++[.leaf (Zi x) qs]) nds.length
 | up {nds nds1:List Nd} {lev num q1 num1 q:Nat} {qs:List Nat} {m:Int} {ps:Zu}:nds[num]?=some (.fork qs)→qs[Zy (Zi x) lev]?=some q1→TakR x nds (lev+1) q1 nds1 num1→((qs.set (Zy (Zi x) lev) num1).filter fun p=>!decide (p=0))=[q]→nds1[q]?=some (.leaf m ps)→TakR x nds lev num nds1 q
 | fork {nds nds1:List Nd} {lev num q1 num1:Nat} {qs:List Nat}:nds[num]?=some (.fork qs)→qs[Zy (Zi x) lev]?=some q1→TakR x nds (lev+1) q1 nds1 num1→(∀ (q:Nat) (m:Int) (ps:Zu),((qs.set (Zy (Zi x) lev) num1).filter fun p=>!decide (p=0))=[q]→nds1[q]?≠some (.leaf m ps))→TakR x nds lev num (nds1++[.fork (qs.set (Zy (Zi x) lev) num1)]) nds1.length
section
variable {P:Program}{w:World}{K:KF}{mg:Str→Option Value}{base:Heap}{C Pl:Addr}{NS:List Str}
def Zbd (K:KF)(C Pl:Addr)(NS:List Str):Nat→Sp
 | 0=>fun _ _ _ _=>False
 | d+1=>fun vs H Q _=>∃ (st ln dt:Addr) (nds:List Nd) (tabs:ZH) (num lev r:Nat) (x:Str) (v0:V) (F:Str→Option V),vs=[.ref st,iN num,iN lev,.str x]∧StoreAt K C st ln dt H nds tabs∧nds[0]?=some .bare∧Tri NS nds F d lev r num∧r < 4 ^ lev∧lev+d=5∧x∈NS∧ZL x % 4 ^ lev=r∧F x=some v0∧nds.length+d+1≤100000∧LamAt H Pl YE Xz ∧
   ∀ (H':Hp) (nds':List Nd) (num':Nat),StoreAt K C st ln dt H' nds' tabs→NEx nds nds'→nds'.length≤nds.length+d+1→Tri NS nds' (Ub F x) d lev r num'→TakR x nds lev num nds' num'→LamAt H' Pl YE Xz→Kq [ln,Pl] H H'→TF H H'→Q (iN num') H'
abbrev nTk:List Str:=["self","number","level","name"]
abbrev nTa:List Str:=["self","number","level","name","node","left","parts","figure","filled"]
theorem scTk:Zw nTa nTk (Zn c_Store_taken_from):=⟨rfl,rfl,rfl,by decide +kernel,rfl,by decide +kernel,by decide +kernel⟩
theorem Zlx {f : Addr}{fd:FuncData}{d k:Nat}(N:ZN NS)(hk:2≤k)(F:Fun K "taken_from" "Store.taken_from" c_Store_taken_from f fd)(T:Txt K mg)(TC:Yv K C)
   (DH:Def P w K mg base 1 "has_mark" ["node","number"] (VH K)) (DP:Def P w K mg base 1 "parts_in" ["node"] (Xr K)) (DR:Def P w K mg base 1 "pairs_in" ["node"] (Xs K)) (DM:Def P w K mg base 1 "mark" ["name"] Wm) (DG:Def P w K mg base 1 "digit" ["number","level"] Wg)
   (DL:Def P w K mg base 2 "leaf_of" ["pairs"] (VG K Pl YE)) (DO:Def P w K mg base 1 "fork_of" ["parts"] (WJ K)) (DK:DefM P w K mg base 1 C "keep" ["self","node"] (VE K C))
   (DI:DefM P w K mg base k C "taken_from" nTk (Zbd K C Pl NS d)):FnOk P w K mg base ZK (k+1) f fd nTk (Zbd K C Pl NS (d+1)):=by
 refine F.ok scTk (fun vs H Q E h=>?_) (fun cdv A outer s H vs Q E hr h=>?_)
 · obtain ⟨st,ln,dt,nds,tabs,num,lev,r,x,v0,F,rfl,_⟩:=h;rfl
 obtain ⟨st,ln,dt,nds,tabs,num,lev,r,x,v0,Fm,rfl,S,h0,htri,hrl,hlev,hx,hxr,hFx,hlen,hL,q⟩:=h
 obtain ⟨tz,hz⟩:=T.zero
 have hr1:=hr.mono (show 1≤k by omega)
 have hr2:=hr.mono hk
 refine' ⟨?t,?h,?r⟩
 case h =>
   conv=>arg 2;whnf
   with_reducible refine' Ze ?a1 (Ze (Yo ?a2 (Ze ?c1 (Zj ?c2)) ZU) (Ze ?a3 (Ze ?a4 (Ze ?a5 (Ze ?a6 (Ze (Yo ?a7 (Zj ?a8) ZU) (Zj ?a9)))))))
   case a1=>exact Zs (i:=4) scTk.nd rfl (Or.inl rfl) (ZB ZI (YN (pv 0) rfl) (pv 1) (fun _ _=>rfl))
   case a2=>exact VI (Zx DH hr1 (Zc (pv 4) (Zc (Zx DM hr1 (Zc (pv 3) Za)) Za)))
   case c1=>exact Zag (i:=5) (CompOk.of nTa c_Store_taken_from rfl rfl (by decide +kernel)) rfl scTk.nd rfl (Or.inl rfl) (Zbh (Zx DR hr1 (Zc (pv 4) Za))) (fun _ _ _ _ _=>ZE Va (ZB (ZkH (K:=K) rfl) (pv 9) Zd (fun _ _=>rfl)) (pv 3) (ZJ _)) (fun _ _ _ _ _=>pv 9) rfl
   case c2=>exact Zt (Wc (Wa (pv 5) (fun _=>rfl)) (Yc DK TC.cl hr1 (pv 0) (Zc (Zx DL hr2 (Zc (pv 5) Za)) Za)) (Xv rfl hz (v:=.int 0) ⟨_,rfl⟩))
   case a3=>exact Zs (i:=6) scTk.nd rfl (Or.inl rfl) (ZX WH rfl T.list (by decide +kernel) (Zc (Zx DP hr1 (Zc (pv 4) Za)) Za))
   case a4=>exact Zs (i:=7) scTk.nd rfl (Or.inl rfl) (Zx DG hr1 (Zc (Zx DM hr1 (Zc (pv 3) Za)) (Zc (pv 2) Za)))
   case a5=>exact Uu (Yc DI TC.cl hr (pv 0) (Zc (ZB ZI (pv 6) (pv 7) (fun _ _=>rfl)) (Zc (Zo Yi (pv 2) Zd) (Zc (pv 3) Za)))) (VM (pv 6) (pv 7) WQ)
   case a6=>exact Zag (i:=8) (CompOk.of nTa c_Store_taken_from rfl rfl (by decide +kernel)) rfl scTk.nd rfl (Or.inl rfl) (UA (pv 6)) (fun _ _ _ _ _=>ZE Va (pv 9) (Xv rfl hz (v:=.int 0) ⟨_,rfl⟩) (ZJ _)) (fun _ _ _ _ _=>pv 9) rfl
   case a7=>exact PW.pt (VF (ZE YR (ZD ZV rfl T.len PySem.boot_len (Zc (pv 8) Za)) Zd (ZJ _)) (VO (Wa (Zx DR hr1 (Zc (ZB ZI (YN (pv 0) rfl) (ZB ZI (pv 8) Zd (fun _ _=>rfl)) (fun _ _=>rfl)) Za)) (fun _=>rfl))))
   case a8=>exact Zt (ZB ZI (pv 8) Zd (fun _ _=>rfl))
   case a9=>exact Zt (Yc DK TC.cl hr1 (pv 0) (Zc (Zx DO hr1 (Zc (pv 6) Za)) Za))
 obtain ⟨n,hn,hbare⟩:=XJ htri
 obtain ⟨as,a,nl,ha,hna⟩:=S.node hn
 obtain ⟨dx,ob⟩:=S.ob
 obtain ⟨tb,htb⟩:=hL.tbl
 have hst:st ∉ [Pl]:=fun z=>by rw [List.mem_singleton.mp z,htb] at ob;cases ob
 have hln:ln ∉ [Pl]:=fun z=>by rw [List.mem_singleton.mp z,htb] at nl;cases nl
 have hdt:dt ∉ [Pl]:=fun z=>by have e:=S.tb;rw [List.mem_singleton.mp z,htb] at e;cases e
 refine ⟨_,rfl,st,C,dx,_,_,rfl,ob,TC.cl,TC.nN,Xh ln dt,_,rfl,ln,_,_,_,rfl,rfl,SqL.of nl,ZT (by rw [List.getElem?_map,ha];rfl),?_⟩
 refine ⟨_,rfl,_,rfl,x,rfl,N.len x hx,fun H1 s1=>⟨a,n,Zi x,rfl,hna.tf s1.tf,_,rfl,?_⟩⟩
 rcases ZgK htri hn hx hxr hFx with ⟨ps,rfl,G,hF⟩ | ⟨qs,d',rfl,rfl,hq4,hqs⟩
 · rw [show (Nd.leaf (Zi x) ps).hasM (Zi x)=true from decide_eq_true rfl]
   refine Xg ?_
   refine ⟨_,rfl,a,_,rfl,hna.tf s1.tf,fun pt H2 s2 hpt=>?_⟩
   obtain ⟨o,ts,ept,hod,hlts,hp⟩:=hpt
   have hlts':ts.length=ps.length:=hlts
   have s12:=s1.trans s2
   have hfw:=N.few
   have hgf:=G.few
   refine ⟨pt,rfl,⟨_,.inl (.inr ⟨o,ept⟩)⟩,fun D hD=>?_⟩
   have hD0:H D=none:=by
     cases e:H D with
     | none=>rfl
     | some o=>rw [s12 _ _ e] at hD;cases hD
   have hzl:(ts.zip ps).length=ts.length:=by rw [List.length_zip,hlts',Nat.min_self]
   have hzs:(ts.zip ps).map (·.2)=ps:=List.map_snd_zip (by omega)
   refine ZgP (K:=K) (a:=pt) (xs:=ts.map V.ref) (by rw [List.length_map];exact Nat.le_trans (show ts.length≤64 by omega) (by decide))
     (fun i ys H'=>ys=(((ts.zip ps).take i).filter fun z=>!decide (z.2.1=x)).map (fun z=>V.ref z.1)∧H' D=some (.lst ys)∧Same H2 H') ⟨rfl,Zg,Zm hD _⟩ ?_ ?_ ?_
   · rintro i ys H' ⟨rfl,_,s'⟩
     refine ⟨?_,.inl (.inr ⟨o,s' _ _ ept⟩)⟩
     rw [List.length_map]
     exact Nat.le_trans (List.length_filter_le _ _) (by rw [List.length_take];exact Nat.min_le_left _ _)
   · rintro i v ys H' hi ⟨rfl,hDl,s'⟩
     have hit:i < ts.length:=by have:=(List.getElem?_eq_some_iff.mp hi).1;rwa [List.length_map] at this
     have et:=List.getElem?_eq_getElem hit
     have ep:=List.getElem?_eq_getElem (show i < ps.length by omega)
     generalize ts[i]=ti at et
     generalize ps[i]=pi at ep
     have hv:V.ref ti=v:=by rw [List.getElem?_map,et] at hi;exact Option.some.inj hi
     subst hv
     have ez:(ts.zip ps)[i]?=some (ti,pi):=List.getElem?_zip_eq_some.mpr ⟨et,ep⟩
     have htup:=s' _ _ (hp i ti pi et ep)
     have hts:=take_succ_filter (fun z:Addr×(Str×V)=>!decide (z.2.1=x)) (ts.zip ps) i (ti,pi) ez
     refine ⟨_,rfl,ti,_,_,_,rfl,rfl,SqT.of htup,rfl,_,rfl,rfl,_,rfl,?_⟩
     have edx:(!decide (V.str pi.1=V.str x))=!decide (pi.1=x):=by
       by_cases z:pi.1=x
       · rw [z,decide_eq_true rfl,decide_eq_true rfl]
       · rw [decide_eq_false z,decide_eq_false fun y=>z (V.str.inj y)]
     rw [edx]
     by_cases z:pi.1=x
     · rw [decide_eq_true z]
       refine Yr ⟨?_,hDl,s'⟩
       rw [hts]
       show _=List.map _ (_++if (!decide (pi.1=x))=true then [(ti,pi)] else [])
       rw [decide_eq_true z]
       simp
     · rw [decide_eq_false z]
       refine Xg ⟨_,rfl,hDl,?_,Zg,fun b u e=>by rw [Zh (Zp e hD)];exact s' _ _ e⟩
       rw [hts]
       show _=List.map _ (_++if (!decide (pi.1=x))=true then [(ti,pi)] else [])
       rw [decide_eq_false z]
       simp
   · rintro ys H5 ⟨rfl,hD5,s5⟩
     rw [List.length_map,← hzl,List.take_length] at hD5
     have hlp:((ts.zip ps).filter fun z=>!decide (z.2.1=x)).map (·.2)=XB ps x:=by
       unfold XB
       conv=>rhs;rw [← hzs]
       rw [List.filter_map];rfl
     have hlt:((ts.zip ps).filter fun z=>!decide (z.2.1=x)).map (fun z=>V.ref z.1)=(((ts.zip ps).filter fun z=>!decide (z.2.1=x)).map (·.1)).map V.ref:=by rw [List.map_map];rfl
     have s15:Same H H5:=s12.trans s5
     have hPT:PairT H5 (((ts.zip ps).filter fun z=>!decide (z.2.1=x)).map (·.1)) (XB ps x):=by
       refine ⟨by rw [← hlp,List.length_map,List.length_map],fun i b p e1 e2=>?_⟩
       rw [← hlp,List.getElem?_map] at e2
       rw [List.getElem?_map] at e1
       cases ez:((ts.zip ps).filter fun z=>!decide (z.2.1=x))[i]? with
       | none=>rw [ez] at e1;cases e1
       | some z =>
         rw [ez] at e1 e2
         cases (show some z.1=some b from e1)
         cases (show some z.2=some p from e2)
         obtain ⟨j,hj⟩:=List.mem_iff_getElem?.mp (List.mem_filter.mp (List.mem_of_getElem? ez)).1
         obtain ⟨h1,h2⟩:=List.getElem?_zip_eq_some.mp hj
         exact s5 _ _ (hp j _ _ h1 h2)
     refine ⟨_,rfl,_,.inl ⟨_,SqL.of hD5,rfl⟩,?_⟩
     by_cases hb:XB ps x=[]
     · have:((ts.zip ps).filter fun z=>!decide (z.2.1=x))=[]:=by
         have:=congrArg List.length hlp
         rw [hb,List.length_map] at this
         exact List.length_eq_zero_iff.mp this
       rw [this]
       exact Yr (q H5 nds 0 (S.keep s15) (NEx.refl _) (by omega) (ZiJ d h0 hb hF) (TakR.gone hn hb) (LamAt.same hL s15) (Same.kq s15) s15.tf)
     · have G2:=G.but hb
       have hne:(!(((ts.zip ps).filter fun z=>!decide (z.2.1=x)).map (fun z=>V.ref z.1)).isEmpty)=true:=by
         cases e:((ts.zip ps).filter fun z=>!decide (z.2.1=x)) with
         | nil=>rw [e] at hlp;exact absurd hlp.symm hb
         | cons _ _=>rfl
       rw [hne]
       have S5:=S.keep s15
       obtain ⟨dx5,ob5⟩:=S5.ob
       refine Xg ⟨_,rfl,st,dx5,_,rfl,ob5,ZC ln dt,_,rfl,D,_,XB ps x,rfl,by rw [hD5,hlt],hPT,hb,by have:=G2.few;omega,fun p hp=>N.len _ (G2.sub p hp),LamAt.same hL s15,fun a6 H6 p1 pr g6 L6 perm6 sort6 node6=>?_⟩
       have tb5:H5 Pl=some (.tbl tb):=s15 _ _ htb
       have tf6:TF H5 H6:=g6.tf tb5
       have S6:=S5.kq g6.kq tf6 hst hln hdt
       refine ⟨st,ln,dt,a6,nds,tabs,_,rfl,S6,node6,by omega,fun H7 S7 k7 tf7=>?_⟩
       have nl6:∃ xs,H6 ln=some (.lst xs):=by obtain ⟨as6,e6,_⟩:=S6.nl;exact ⟨_,e6⟩
       have hmk:Zi p1.1=Zi x:=(G2.perm perm6).mrk p1 List.mem_cons_self
       rw [hmk] at S7
       refine q H7 _ nds.length S7 (NEx.app nds _) (by rw [List.length_append];show nds.length+1≤_;omega) ?_ (TakR.less hn hb perm6 sort6) (L6.kq k7 fun b hb=>by rw [List.mem_singleton.mp hb];exact nl6) ?_ ((s15.tf.trans tf6).trans tf7)
       · exact ZiX d hxr (by rw [List.getElem?_append_right (Nat.le_refl _),Nat.sub_self];rfl) G2 perm6 hF
       · exact (Same.kq s15).trans ((g6.kq.sub fun b hb=>by simp at hb ⊢;exact .inr hb).trans (k7.sub fun b hb=>by simp at hb ⊢;exact .inl hb))
 · refine Yr ?_
   refine ⟨_,rfl,a,_,rfl,hna.tf s1.tf,fun pt H2 s2 hpt=>⟨pt,_,rfl,.inr hpt,fun rl hrl1=>?_⟩⟩
   have s12:=s1.trans s2
   have hrl0:H rl=none:=by
     cases e:H rl with
     | none=>rfl
     | some o=>rw [s12 _ _ e] at hrl1;cases hrl1
   refine ⟨_,rfl,x,rfl,N.len x hx,fun H3 s3=>⟨_,rfl,Zi x,lev,rfl,N.lo x hx,by omega,?_⟩⟩
   have el3:H3 rl=some (.lst (qs.map iN)):=s3 _ _ Zg
   have s13:Same H H3:=(s12.trans (Zm hrl1 _)).trans s3
   have S3:=S.keep s13
   have hdl:Zy (Zi x) lev < qs.length:=by rw [hq4];exact XC _ _
   have hq1:=List.getElem?_eq_getElem hdl
   generalize qs[Zy (Zi x) lev]=q1 at hq1
   have hat:YI (qs.map iN) (Zi x / 4 ^ lev % 4)=some (iN q1):=by rw [← Wh];exact ZT (by rw [List.getElem?_map,hq1];rfl)
   obtain ⟨dx3,ob3⟩:=S3.ob
   refine ⟨_,rfl,st,dx3,_,rfl,ob3,ZC ln dt,_,rfl,_,rfl,rl,_,_,_,rfl,rfl,SqL.of el3,hat,_,rfl,_,_,rfl,rfl,_,rfl,?_⟩
   refine ⟨st,ln,dt,nds,tabs,q1,lev+1,_,x,v0,Fm,rfl,S3,h0,hqs _ _ hq1,YH hrl (XC _ _),by omega,hx,by rw [YK,hxr,YZ (N.lo x hx)];rfl,hFx,by omega,LamAt.same hL s13,fun H5 nds5 num5 S5 ext5 len5 tri5 pr5 L5 kq5 tf5=>?_⟩
   have nrl:rl ∉ [ln,Pl]:=fun z=>by
     rcases List.mem_cons.mp z with z | z
     · rw [z,nl] at hrl0;cases hrl0
     · rw [List.mem_singleton.mp z,htb] at hrl0;cases hrl0
   have el5:=kq5 _ _ nrl el3
   have hix:Wv (qs.map iN).length (Zi x / 4 ^ lev % 4)=some (Zy (Zi x) lev):=by
     rw [← Wh,List.length_map]
     unfold Wv
     rw [if_pos (by omega),if_pos (by omega)]
     rfl
   refine ⟨_,rfl,_,rfl,rl,_,_,_,rfl,rfl,el5,hix,?_⟩
   have tf6:=VL (o:=.lst ((qs.map iN).set (Zy (Zi x) lev) (iN num5))) el5
   have k6:Kq [rl] H5 (upd H5 rl (.lst ((qs.map iN).set (Zy (Zi x) lev) (iN num5)))):=ZaR
   have nst:st ∉ [rl]:=fun z=>by rw [← List.mem_singleton.mp z,ob] at hrl0;cases hrl0
   have nln:ln ∉ [rl]:=fun z=>by rw [← List.mem_singleton.mp z,nl] at hrl0;cases hrl0
   have ndt:dt ∉ [rl]:=fun z=>by rw [← List.mem_singleton.mp z,S.tb] at hrl0;cases hrl0
   have S6:=S5.kq k6 tf6 nst nln ndt
   have el6:upd H5 rl (.lst ((qs.map iN).set (Zy (Zi x) lev) (iN num5))) rl=some (.lst ((qs.set (Zy (Zi x) lev) num5).map iN)):=by rw [Zg,List.map_set]
   have L6:=L5.kq k6 fun b hb=>by rw [List.mem_singleton.mp hb];exact ⟨_,el5⟩
   have kh:Kq [ln,Pl] H (upd H5 rl (.lst ((qs.map iN).set (Zy (Zi x) lev) (iN num5)))):=fun b o nb e=>by
     rw [Zh (Zp e hrl0)];exact kq5 _ _ nb (s13 _ _ e)
   generalize upd H5 rl (.lst ((qs.map iN).set (Zy (Zi x) lev) (iN num5)))=H6 at *
   have hps:∀ (i q:Nat),(qs.set (Zy (Zi x) lev) num5)[i]?=some q→Tri NS nds5 (Ub Fm x) d' (lev+1) (r+i * 4 ^ lev) q:=fun i q hi=>Zhq N hrl hx hxr hq4 hqs ext5 tri5 (fun y hy=>if_neg hy) i q hi
   have hp4:(qs.set (Zy (Zi x) lev) num5).length=4:=by rw [List.length_set,hq4]
   generalize hqn:qs.set (Zy (Zi x) lev) num5=qn at *
   have mkF:(∀ (q:Nat) (m:Int) (ps:Zu),(qn.filter fun p=>!decide (p=0))=[q]→nds5[q]?≠some (.leaf m ps))→TakR x nds lev num (nds5++[.fork qn]) nds5.length:=fun z=>by
     rw [← hqn] at z ⊢
     exact TakR.fork hn hq1 pr5 z
   have h05:=ext5 _ _ h0
   have tfh:TF H H6:=(s13.tf.trans tf5).trans tf6
   refine ⟨_,rfl,rl,rfl,⟨_,SqL.of el6⟩,fun D hD=>?_⟩
   refine ZaY (K:=K) (a:=rl) (xs:=qn.map iN) (by rw [List.length_map,hp4];decide)
     (fun i ys H'=>ys=((qn.take i).filter fun p=>!decide (p=0)).map iN∧H' D=some (.lst ys)∧Same H6 H') ⟨rfl,Zg,Zm hD _⟩ ?_ ?_ ?_
   · rintro i ys H' ⟨rfl,_,s'⟩
     refine ⟨?_,SqL.of (s' _ _ el6)⟩
     rw [List.length_map]
     exact Nat.le_trans (List.length_filter_le _ _) (by rw [List.length_take];exact Nat.min_le_left _ _)
   · rintro i v ys H' hi ⟨rfl,hDl,s'⟩
     have hit:i < qn.length:=by have:=(List.getElem?_eq_some_iff.mp hi).1;rwa [List.length_map] at this
     have et:=List.getElem?_eq_getElem hit
     generalize qn[i]=qi at et
     have hv:iN qi=v:=by rw [List.getElem?_map,et] at hi;exact Option.some.inj hi
     subst hv
     have hts:=take_succ_filter (fun p:Nat=>!decide (p=0)) qn i qi et
     refine ⟨_,rfl,rfl,_,rfl,?_⟩
     have edx:(!decide (iN qi=V.int 0))=!decide (qi=0):=by
       by_cases z:qi=0
       · rw [z];rfl
       · rw [decide_eq_false z,decide_eq_false fun y=>z (by have:=V.int.inj y;omega)]
     rw [edx]
     by_cases z:qi=0
     · rw [decide_eq_true z]
       refine Yr ⟨?_,hDl,s'⟩
       rw [hts]
       show _=List.map _ (_++if (!decide (qi=0))=true then [qi] else [])
       rw [decide_eq_true z]
       simp
     · rw [decide_eq_false z]
       refine Xg ⟨_,rfl,hDl,?_,Zg,fun b u e=>by rw [Zh (Zp e hD)];exact s' _ _ e⟩
       rw [hts]
       show _=List.map _ (_++if (!decide (qi=0))=true then [qi] else [])
       rw [decide_eq_false z]
       simp
   · rintro ys H7 ⟨rfl,hD7,s7⟩
     rw [List.length_map,List.take_length] at hD7
     generalize hfl:(qn.filter fun p=>!decide (p=0))=fl at hD7
     have S7:=S6.keep s7
     refine ⟨_,rfl,D,_,rfl,.inl (SqL.of hD7),rfl,_,rfl,?_⟩
     by_cases h1:fl.length=1
     · obtain ⟨q8,rfl⟩:∃ q8,fl=[q8]:=by
         cases fl with
         | nil=>cases h1
         | cons b t=>cases t with
           | nil=>exact ⟨b,rfl⟩
           | cons _ _=>simp at h1
       obtain ⟨i8,hi8,hq80,_⟩:=ZaP hfl
       obtain ⟨n8,hn8,_⟩:=XJ (hps i8 q8 hi8)
       obtain ⟨as8,a8,nl8,ha8,hna8⟩:=S7.node hn8
       obtain ⟨dx8,ob8⟩:=S7.ob
       refine Xg ⟨_,rfl,st,C,dx8,_,_,rfl,ob8,TC.cl,TC.nN,Xh ln dt,_,rfl,D,_,_,_,rfl,rfl,SqL.of hD7,(show YI ([q8].map iN) ((0:Nat):Int)=some (iN q8) from ZT rfl),ln,_,_,_,rfl,rfl,SqL.of nl8,ZT (by rw [List.getElem?_map,ha8];rfl),a8,n8,rfl,hna8,fun pt9 H9 s9 hpt9=>?_⟩
       obtain ⟨o9,ts9,ept9,_,hl9,_⟩:=hpt9
       refine ⟨_,.inr (.inl ⟨_,.inl (.inr ⟨o9,ept9⟩),rfl⟩),?_⟩
       have s79:=s7.trans s9
       cases n8 with
       | leaf m8 ps8 =>
         have hne:(!(ts9.map V.ref).isEmpty)=true:=by
           cases ts9 with
           | nil =>
             have hE:TriE NS nds5 (Ub Fm x) (lev+1) (r+i8 * 4 ^ lev) q8:=by
               have:=hps i8 q8 hi8
               cases d' with
               | zero=>exact this
               | succ d' =>
                 rcases this with h | ⟨qs',h,_⟩
                 · exact h
                 · rw [hn8] at h;cases h
             rcases hE with ⟨z,_⟩ | ⟨m',ps',e,G,_⟩
             · exact absurd z hq80
             · rw [hn8] at e;cases e
               exact absurd (List.length_eq_zero_iff.mp (show ps8.length=0 from hl9.symm)) G.ne
           | cons _ _=>rfl
         rw [hne]
         refine Xg ⟨_,rfl,D,_,_,_,rfl,rfl,SqL.of (s9 _ _ hD7),(show YI ([q8].map iN) ((0:Nat):Int)=some (iN q8) from ZT rfl),?_⟩
         exact q H9 nds5 q8 (S6.keep s79) ext5 (by omega) (ZlP N h05 hrl hp4 hps hfl hn8) (TakR.up hn hq1 pr5 (by rw [hqn];exact hfl) hn8) (LamAt.same L6 s79) (kh.trans (Same.kq s79)) (tfh.trans s79.tf)
       | bare =>
         rw [List.length_eq_zero_iff.mp (show ts9.length=0 from hl9)]
         refine Yr ?_
         obtain ⟨dxA,obA⟩:=(S6.keep s79).ob
         refine ⟨_,rfl,st,dxA,_,rfl,obA,ZC ln dt,_,rfl,rl,qn,rfl,s79 _ _ el6,hp4,fun aB HB sB nodeB=>?_⟩
         have SB:=(S6.keep s79).keep sB
         refine ⟨st,ln,dt,aB,nds5,tabs,_,rfl,SB,nodeB,by omega,fun HC SC kC tfC=>?_⟩
         have nlB:∃ xs,HB ln=some (.lst xs):=by obtain ⟨asB,eB,_⟩:=SB.nl;exact ⟨_,eB⟩
         refine q HC _ nds5.length SC (ext5.trans (NEx.app nds5 _)) (by rw [List.length_append];show nds5.length+1≤_;omega) ?_ (mkF fun q m ps e h=>by rw [hfl] at e;cases e;rw [hn8] at h;cases h) ((LamAt.same (LamAt.same L6 s79) sB).kq kC fun b hb=>by rw [List.mem_singleton.mp hb];exact nlB) ?_ (((tfh.trans s79.tf).trans sB.tf).trans tfC)
         · exact ZaK (by rw [List.getElem?_append_right (Nat.le_refl _),Nat.sub_self];rfl) hp4 fun i q hi=>Tri.mono d' (hps i q hi) (NEx.app nds5 _)
         · exact ((kh.trans (Same.kq s79)).trans (Same.kq sB)).trans (kC.sub fun b hb=>by simp at hb ⊢;exact .inl hb)
       | fork qs8 =>
         rw [List.length_eq_zero_iff.mp (show ts9.length=0 from hl9)]
         refine Yr ?_
         obtain ⟨dxA,obA⟩:=(S6.keep s79).ob
         refine ⟨_,rfl,st,dxA,_,rfl,obA,ZC ln dt,_,rfl,rl,qn,rfl,s79 _ _ el6,hp4,fun aB HB sB nodeB=>?_⟩
         have SB:=(S6.keep s79).keep sB
         refine ⟨st,ln,dt,aB,nds5,tabs,_,rfl,SB,nodeB,by omega,fun HC SC kC tfC=>?_⟩
         have nlB:∃ xs,HB ln=some (.lst xs):=by obtain ⟨asB,eB,_⟩:=SB.nl;exact ⟨_,eB⟩
         refine q HC _ nds5.length SC (ext5.trans (NEx.app nds5 _)) (by rw [List.length_append];show nds5.length+1≤_;omega) ?_ (mkF fun q m ps e h=>by rw [hfl] at e;cases e;rw [hn8] at h;cases h) ((LamAt.same (LamAt.same L6 s79) sB).kq kC fun b hb=>by rw [List.mem_singleton.mp hb];exact nlB) ?_ (((tfh.trans s79.tf).trans sB.tf).trans tfC)
         · exact ZaK (by rw [List.getElem?_append_right (Nat.le_refl _),Nat.sub_self];rfl) hp4 fun i q hi=>Tri.mono d' (hps i q hi) (NEx.app nds5 _)
         · exact ((kh.trans (Same.kq s79)).trans (Same.kq sB)).trans (kC.sub fun b hb=>by simp at hb ⊢;exact .inl hb)
     · have hd1:decide (V.int (((fl.map iN).length:Nat):Int)=V.int 1)=false:=decide_eq_false fun z=>h1 (by have:=V.int.inj z;rw [List.length_map] at this;omega)
       rw [hd1]
       have s79:=s7
       refine Yr (Yr ?_)
       obtain ⟨dxA,obA⟩:=(S6.keep s79).ob
       refine ⟨_,rfl,st,dxA,_,rfl,obA,ZC ln dt,_,rfl,rl,qn,rfl,s79 _ _ el6,hp4,fun aB HB sB nodeB=>?_⟩
       have SB:=(S6.keep s79).keep sB
       refine ⟨st,ln,dt,aB,nds5,tabs,_,rfl,SB,nodeB,by omega,fun HC SC kC tfC=>?_⟩
       have nlB:∃ xs,HB ln=some (.lst xs):=by obtain ⟨asB,eB,_⟩:=SB.nl;exact ⟨_,eB⟩
       refine q HC _ nds5.length SC (ext5.trans (NEx.app nds5 _)) (by rw [List.length_append];show nds5.length+1≤_;omega) ?_ (mkF fun q m ps e h=>h1 (by rw [← hfl,e];rfl)) ((LamAt.same (LamAt.same L6 s79) sB).kq kC fun b hb=>by rw [List.mem_singleton.mp hb];exact nlB) ?_ (((tfh.trans s79.tf).trans sB.tf).trans tfC)
       · exact ZaK (by rw [List.getElem?_append_right (Nat.le_refl _),Nat.sub_self];rfl) hp4 fun i q hi=>Tri.mono d' (hps i q hi) (NEx.app nds5 _)
       · exact ((kh.trans (Same.kq s79)).trans (Same.kq sB)).trans (kC.sub fun b hb=>by simp at hb ⊢;exact .inl hb)
theorem Zfk {f:Addr}{fd:FuncData}(N:ZN NS)(F:Fun K "taken_from" "Store.taken_from" c_Store_taken_from f fd)(T:Txt K mg)(TC:Yv K C)
   (DH:Def P w K mg base 1 "has_mark" ["node","number"] (VH K)) (DP:Def P w K mg base 1 "parts_in" ["node"] (Xr K)) (DR:Def P w K mg base 1 "pairs_in" ["node"] (Xs K)) (DM:Def P w K mg base 1 "mark" ["name"] Wm) (DG:Def P w K mg base 1 "digit" ["number","level"] Wg)
   (DL:Def P w K mg base 2 "leaf_of" ["pairs"] (VG K Pl YE)) (DO:Def P w K mg base 1 "fork_of" ["parts"] (WJ K)) (DK:DefM P w K mg base 1 C "keep" ["self","node"] (VE K C))
   (b:Binds K fd nTk []) (mt:Vs K C "taken_from" f):∀ d,FnOk P w K mg base ZK (2+d) f fd nTk (Zbd K C Pl NS d)
 | 0=>F.ok scTk (fun _ _ _ _ h=>h.elim) (fun _ _ _ _ _ _ _ _ _ h=>h.elim)
 | d+1=>Zlx N (Nat.le_add_right 2 d) F T TC DH DP DR DM DG DL DO DK ⟨f,fd,Zfk N F T TC DH DP DR DM DG DL DO DK b mt d,b,mt⟩
def spWo (K:KF)(C Pl:Addr)(NS:List Str):Sp:=fun vs H Q _=>∃(st ln dt:Addr)(nds:List Nd)(tabs:ZH)(t:Nat)(x:Str)(F:Str→Option V),vs=[.ref st,iN t,.str x]∧StoreAt K C st ln dt H nds tabs∧nds[0]?=some .bare∧(ZA tabs (Sum.inl (t:Int))).isSome=true∧Tri NS nds F 5 0 0 t∧x∈NS∧(∀ u,F x=some u→ValV u)∧nds.length+6≤100000∧tabs.length≤100000∧LamAt H Pl YE Xz ∧
 ∀ (H':Hp) (nds':List Nd) (tabs':ZH) (t':Nat),StoreAt K C st ln dt H' nds' tabs'→NEx nds nds'→nds'.length≤nds.length+6→tabs'.length≤tabs.length+1→(∀ k,(ZA tabs k).isSome=true→(ZA tabs' k).isSome=true)→(ZA tabs' (Sum.inl (t':Int))).isSome=true→Tri NS nds' (Ub F x) 5 0 0 t'→((F x=none∧t'=t∧nds'=nds∧tabs'=tabs)∨(F x≠none∧TakR x nds 0 t nds' t'∧tabs'=ZZ tabs (Sum.inl (t':Int)) (.bl true)))→LamAt H' Pl YE Xz→Kq [ln,dt,Pl] H H'→TF H H'→Q (iN t') H'
theorem scWo:Zw ["self","table","name"] ["self","table","name"] (Zn c_Store_without):=⟨rfl,rfl,rfl,by decide +kernel,rfl,by decide +kernel,by decide +kernel⟩
theorem ZjF {f:Addr}{fd:FuncData}(N:ZN NS)(F:Fun K "without" "Store.without" c_Store_without f fd)(TC:Yv K C)(DLk:DefM P w K mg base 3 C "looked" ["self","table","name"] (WK K C))
   (DAs:DefM P w K mg base 1 C "as_table" ["self","number"] (ZfZ K C)) (DI:DefM P w K mg base 8 C "taken_from" nTk (Zbd K C Pl NS 6)):FnOk P w K mg base ZK 9 f fd ["self","table","name"] (spWo K C Pl NS):=by
 refine F.ok scWo (fun vs H Q E h=>?_) (fun cdv A outer s H vs Q E hr h=>?_)
 · obtain ⟨st,ln,dt,nds,tabs,t,x,F,rfl,_⟩:=h;rfl
 obtain ⟨st,ln,dt,nds,tabs,t,x,Fm,rfl,S,h0,htab,htri,hx,hFv,hlen,htl,hL,q⟩:=h
 have hr1:=hr.mono (show 1≤8 by decide)
 have hr3:=hr.mono (show 3≤8 by decide)
 refine' ⟨?t,?h,?r⟩
 case h =>
   conv=>arg 2;whnf
   with_reducible refine' Ze (Yo ?a1 (Zj ?a2) ZU) (Zj ?a3)
   case a1=>exact Zhc (ZlO (Yc DLk TC.cl hr3 (pv 0) (Zc (pv 1) (Zc (pv 2) Za))))
   case a2=>exact Zt (pv 1)
   case a3=>exact Zt (Yc DAs TC.cl hr1 (pv 0) (Zc (Yc DI TC.cl hr (pv 0) (Zc (pv 1) (Zc Zd (Zc (pv 2) Za)))) Za))
 obtain ⟨dx,ob⟩:=S.ob
 obtain ⟨ws,e,n,e1,e2,e3,e4,e5⟩:=Wx N htri hx
 refine ⟨_,rfl,st,dx,_,rfl,ob,ZC ln dt,_,rfl,_,rfl,st,ln,dt,nds,tabs,t,x,6,ws,e,n,rfl,S,htab,N.len x hx,N.lo x hx,by decide,e1,e2,e3,e4,fun H1 s1=>?_⟩
 rw [e5]
 refine ⟨_,rfl,?_⟩
 have S1:=S.keep s1
 have hL1:=LamAt.same hL s1
 cases eF:Fm x with
 | none =>
   refine Xg ⟨_,rfl,q H1 nds tabs t S1 (NEx.refl _) (by omega) (by omega) (fun _ h=>h) htab (Tri.congr 5 (by decide) htri fun y _ _=>?_) (.inl ⟨eF,rfl,rfl,rfl⟩) hL1 (Same.kq s1) s1.tf⟩
   unfold Ub
   by_cases z:y=x
   · rw [if_pos z,z,eF]
   · rw [if_neg z]
 | some u =>
   have hc:decide ((some u).getD .non=V.non)=false:=decide_eq_false (hFv u eF).ne
   rw [hc]
   obtain ⟨dx1,ob1⟩:=S1.ob
   refine Yr ⟨_,rfl,st,dx1,_,rfl,ob1,ZC ln dt,_,rfl,st,dx1,_,rfl,ob1,ZC ln dt,_,rfl,_,rfl,?_⟩
   refine ⟨st,ln,dt,nds,tabs,t,0,0,x,u,Fm,rfl,S1,h0,htri,by decide,rfl,hx,by rw [Nat.pow_zero,Nat.mod_one],eF,hlen,hL1,fun H2 nds2 num2 S2 ext2 len2 tri2 pr2 L2' kq2 tf2=>?_⟩
   refine ⟨st,ln,dt,nds2,tabs,num2,rfl,S2,by omega,fun H3 S3 k3 tf3=>?_⟩
   refine q H3 nds2 _ num2 S3 ext2 len2 (XD _ _ _) (fun k hk=>?_) (by rw [WN,if_pos rfl];rfl) tri2 (.inr ⟨(fun z=>by rw [eF] at z;cases z),pr2,rfl⟩) ?_ ?_ ((s1.tf.trans tf2).trans tf3)
   · rw [WN]
     by_cases z:k=Sum.inl (num2:Int)
     · rw [if_pos z];rfl
     · rw [if_neg z];exact hk
   · have hdl:∀ b∈[dt],∃ xs,H2 b=some (.dK xs):=fun b hb=>by rw [List.mem_singleton.mp hb];exact ⟨_,S2.tb⟩
     rcases L2' with h | ⟨c,h,h2⟩
     · exact .inl (k3 _ _ (fun z=>by obtain ⟨_,e⟩:=hdl _ z;rw [h] at e;cases e) h)
     · exact .inr ⟨c,k3 _ _ (fun z=>by obtain ⟨_,e⟩:=hdl _ z;rw [h] at e;cases e) h,k3 _ _ (fun z=>by obtain ⟨_,e⟩:=hdl _ z;rw [h2] at e;cases e) h2⟩
   · exact ((Same.kq s1).trans (kq2.sub fun b hb=>by simp at hb ⊢;rcases hb with z | z;exact .inl z;exact .inr (.inr z))).trans (k3.sub fun b hb=>by simp at hb ⊢;exact .inr (.inl hb))
def Zhk (K:KF)(C:Addr):Sp:=fun vs H Q _=>∃(st ln dt:Addr)(nds:List Nd)(tabs:ZH)(t:Nat)(n:Nd),vs=[.ref st,iN t]∧StoreAt K C st ln dt H nds tabs∧nds[t]?=some n∧∀ a,NodeAt K H a n→Q (.ref a) H
theorem scNo:Zw ["self","number"] ["self","number"] (Zn c_Store_node):=⟨rfl,rfl,rfl,by decide +kernel,rfl,by decide +kernel,by decide +kernel⟩
theorem Zkp {f:Addr}{fd:FuncData}(F:Fun K "node" "Store.node" c_Store_node f fd)(T:Txt K mg)(TC:Yv K C):FnOk P w K mg base ZK 1 f fd ["self","number"] (Zhk K C):=by
 refine F.ok scNo (fun vs H Q E h=>?_) (fun cdv A outer s H vs Q E hr h=>?_)
 · obtain ⟨st,ln,dt,nds,tabs,t,n,rfl,_⟩:=h;rfl
 obtain ⟨st,ln,dt,nds,tabs,t,n,rfl,S,hn,q⟩:=h
 refine' ⟨?t,?h,?r⟩
 case h =>
   conv=>arg 2;whnf
   with_reducible refine' Ze (Yo ?a1 (Zj Zjt) ZU) (Zj ?a3)
   case a1=>exact ZbA (Zik ZmQ Zbo Zd (pv 1) (ZD ZV rfl T.len PySem.boot_len (Zc (YN (pv 0) rfl) Za)))
   case a3=>exact Zt (ZB ZI (YN (pv 0) rfl) (pv 1) (fun _ _=>rfl))
 obtain ⟨as,a,nl,ha,hna⟩:=S.node hn
 obtain ⟨dx,ob⟩:=S.ob
 have hlt:t < as.length:=(List.getElem?_eq_some_iff.mp ha).1
 refine ⟨_,rfl,_,_,rfl,rfl,_,rfl,?_⟩
 rw [decide_eq_true (show (0:Int)≤(t:Int) by omega)]
 refine Xg ⟨_,rfl,st,C,dx,_,_,rfl,ob,TC.cl,TC.nN,Xh ln dt,ln,_,rfl,.inl (SqL.of nl),_,_,rfl,rfl,_,rfl,?_⟩
 rw [decide_eq_true (show (t:Int) < (((as.map V.ref).length:Nat):Int) by rw [List.length_map];omega)]
 exact Yr ⟨_,rfl,st,C,dx,_,_,rfl,ob,TC.cl,TC.nN,Xh ln dt,_,rfl,ln,_,_,_,rfl,rfl,SqL.of nl,ZT (by rw [List.getElem?_map,ha];rfl),q a hna⟩
end
end K14
set_option maxHeartbeats 2000000
namespace L2
open PySem PySem.W PySem.Spec PyProof.Rows
section
variable {O:KeyOrd}{key:Nat→O.α}{n:Nat}{s:Shared}{cmp:Nat→Nat→(Bool→Shared→Prop)→Shared→Prop}
def KP (key:Nat→O.α)(p:Array Nat)(i:Nat):O.α:=key (p.getD i 0)
def Wt (key:Nat→O.α)(p:Array Nat)(k:Nat):Prop:=∀ i j,i≤j→j < k→O.kle (KP key p i) (KP key p j)
def Zdx (key:Nat→O.α)(p:Array Nat)(k:Nat):Prop:=∀ i j,i≤j→j < k→O.kle (KP key p j) (KP key p i)
def Xw (key:Nat→O.α)(n:Nat)(s:Shared)(cmp:Nat→Nat→(Bool→Shared→Prop)→Shared→Prop):Prop:=∀ i j C,i < n→j < n→i≠j→C (O.blt (key i) (key j)) s→cmp i j C s
def PB (n:Nat)(p:Array Nat):Prop:=p.Perm (List.toArray (List.range n))
theorem PB.size {p:Array Nat}(h:PB n p):p.size=n:=by have:=h.size_eq;simpa using this
theorem PB.lt {p:Array Nat}(h:PB n p){i:Nat}(hi:i < n):p.getD i 0 < n:=by
 have hs:=h.size
 have hm:p[i]'(by omega)∈List.range n:=(Array.perm_iff_toList_perm.mp h).mem_iff.mp (by simp)
 have e:p.getD i 0=p[i]'(by omega):=by simp [Array.getD,show i < p.size by omega]
 rw [e];exact List.mem_range.mp hm
theorem Zdf {α:Type}{l:List α}(h:l.Nodup){i j:Nat}{hi:i < l.length}{hj:j < l.length}(e:l[i]=l[j]):i=j:=by
 have p:=List.pairwise_iff_getElem.mp h
 rcases Nat.lt_trichotomy i j with z | z | z
 · exact absurd e (p i j hi hj z)
 · exact z
 · exact absurd e.symm (p j i hj hi z)
theorem PB.ne {p:Array Nat}(h:PB n p){i j:Nat}(hi:i < n)(hj:j < n)(hij:i≠j):p.getD i 0≠p.getD j 0:=by
 have hs:=h.size
 have hnd:p.toList.Nodup:=(Array.perm_iff_toList_perm.mp h).nodup_iff.mpr List.nodup_range
 have e:∀ k,k < n→p.getD k 0=p.toList.getD k 0:=fun k hk=>by simp [Array.getD,show k < p.size by omega,List.getD_eq_getElem?_getD]
 have e2:∀ k (hk:k < n),p.toList.getD k 0=p.toList[k]'(by rw [Array.length_toList];omega):=fun k hk=>by simp [List.getD_eq_getElem?_getD,show k < p.size by omega]
 rw [e i hi,e j hj,e2 i hi,e2 j hj]
 intro z
 exact hij (Zdf hnd z)
theorem PB.mir {p:Array Nat}(h:PB n p)(i j:Nat):PB n (kas_rev p i j):=(mirror_perm _ _ _ _).trans h
theorem WR {p q:Array Nat}{i j:Nat}(h:p[i]?=q[j]?):KP key p i=KP key q j:=by
 unfold KP;rw [Array.getD_eq_getD_getElem?,Array.getD_eq_getD_getElem?,h]
theorem ZcK {p:Array Nat}{src d:Nat}(hs:src < p.size)(hd:d≤src)(k:Nat) :
   KP key (bubble p src d) k=if k=src - d then KP key p src else if src - d < k∧k≤src then KP key p (k - 1) else KP key p k:=by
 have e:=getElem?_bubble hs d hd k
 by_cases h1:k=src - d
 · rw [if_pos h1] at e ⊢;exact WR e
 · rw [if_neg h1] at e ⊢
   by_cases h2:src - d < k∧k≤src
   · rw [if_pos h2] at e ⊢;exact WR e
   · rw [if_neg h2] at e ⊢;exact WR e
theorem Vm {p:Array Nat}{i j:Nat}(hj:j≤p.size)(k:Nat):KP key (kas_rev p i j) k=if i≤k∧k < j then KP key p (i+j - 1 - k) else KP key p k:=by
 have e:=getElem?_mirror_all (xs:=p) (i:=i) hj k
 unfold kas_rev
 by_cases h1:i≤k∧k < j
 · rw [if_pos h1] at e ⊢;exact WR e
 · rw [if_neg h1] at e ⊢;exact WR e
theorem YM {p:Array Nat}{i j:Nat}(hj:j≤p.size)(heq:∀ k,i≤k→k < j→KP key p k=KP key p (j - 1))(k:Nat):KP key (kas_rev p i j) k=KP key p k:=by
 rw [Vm hj]
 split
 · rw [heq _ (by omega) (by omega),heq k (by omega) (by omega)]
 · rfl
theorem ZdX (cm:Xw key n s cmp){nrem:Nat}(hn:nrem≤n){p:Array Nat}(B:PB n p){Q:Nat→Shared→Prop}:∀(f a:Nat),1≤a→a+f=nrem→Wt key p a →
   (∀ m,a≤m→m≤nrem→Wt key p m→(m=nrem∨O.klt (KP key p m) (KP key p (m - 1)))→Q m s)→(kas_asc p f a).kasWp cmp Q s
 | 0,a,h1,e,hs,h=>h a (Nat.le_refl _) (by omega) hs (.inl (by omega))
 | f + 1,a,h1,e,hs,h=>by
   refine cm _ _ _ (B.lt (by omega)) (B.lt (by omega)) (B.ne (by omega) (by omega) (by omega)) ?_
   cases hl:O.blt (key (p.getD a 0)) (key (p.getD (a - 1) 0)) with
   | true=>(try dsimp only);rw [if_pos rfl];exact h a (Nat.le_refl _) (by omega) hs (.inr hl)
   | false =>
     try dsimp only
     rw [if_neg (show ¬ (false=true) by decide)]
     refine ZdX cm hn B f (a+1) (by omega) (by omega) (fun i j hij hj=>?_) fun m hm=>h m (by omega)
     by_cases hjx:j < a
     · exact hs i j hij hjx
     · have hj':j=a:=by omega
       subst hj'
       by_cases hi':i=j
       · subst hi';exact KeyOrd.kle_refl _
       · exact KeyOrd.kle_trans (hs i (j - 1) (by omega) (by omega)) hl
theorem ZdK (cm:Xw key n s cmp){m nrem:Nat}(hn:nrem≤n)(h1:1≤m)(hm:m≤nrem){p:Array Nat}(B:PB n p)(hs:Zdx key p m){Q:Nat×Array Nat→Shared→Prop}
   (h:∀ k q,PB n q→1≤k→k≤nrem→Wt key q k→Q (k,q) s):(kas_tail3 m nrem p).kasWp cmp Q s:=by
 unfold kas_tail3
 rw [KasT.kasWp_bind]
 have hsz:m≤p.size:=by rw [B.size];omega
 refine ZdX cm hn (B.mir 0 m) _ _ h1 (by omega) (fun i j hij hj=>?_) fun k hk1 hk2 hk3 _=>h k _ (B.mir 0 m) (by omega) hk2 hk3
 rw [Vm hsz,Vm hsz,if_pos (by omega),if_pos (by omega)]
 exact hs _ _ (by omega) (by omega)
theorem Zaa (cm:Xw key n s cmp){nrem:Nat}(hn:nrem≤n){Q:Array Nat×Nat×Nat→Shared→Prop}
   (h:∀ q m neq,PB n q→1≤m→m≤nrem→Zdx key q m→neq+1≤m→(∀ i,m - (neq+1)≤i→i < m→KP key q i=KP key q (m - 1))→Q (q,m,neq) s) :
   ∀ (f:Nat) (p:Array Nat) (x neq:Nat),PB n p→1≤x→x+f=nrem→Zdx key p x→neq+1≤x→(∀ i,x - (neq+1)≤i→i < x→KP key p i=KP key p (x - 1))→(kas_desc f p x neq).kasWp cmp Q s
 | 0,p,x,neq,B,h1,e,hs,hq,he=>h p x neq B h1 (by omega) hs hq he
 | f + 1,p,x,neq,B,h1,e,hs,hq,he=>by
   have hsz:x≤p.size:=by rw [B.size];omega
   refine cm _ _ _ (B.lt (by omega)) (B.lt (by omega)) (B.ne (by omega) (by omega) (by omega)) ?_
   cases hl:O.blt (key (p.getD x 0)) (key (p.getD (x - 1) 0)) with
   | true =>
     try dsimp only
     rw [if_pos rfl]
     have step1:∀ q:Array Nat,(∀ k,KP key q k=KP key p k)→Zdx key q (x+1):=by
       intro q hk i j hij hj
       rw [hk,hk]
       by_cases hjx:j < x
       · exact hs i j hij hjx
       · have hj':j=x:=by omega
         subst hj'
         by_cases hi':i=j
         · subst hi';exact KeyOrd.kle_refl _
         · exact KeyOrd.kle_trans (KeyOrd.kle_of_klt (show O.klt (KP key p j) (KP key p (j - 1)) from hl)) (hs i (j - 1) (by omega) (by omega))
     by_cases hneq:neq > 0
     · rw [if_pos hneq]
       exact Zaa cm hn h f _ _ _ (B.mir _ _) (by omega) (by omega) (step1 _ (YM hsz he)) (by omega) (fun i h1 h2=>by congr 1;omega)
     · rw [if_neg hneq]
       exact Zaa cm hn h f _ _ _ B (by omega) (by omega) (step1 _ (fun _=>rfl)) (by omega) (fun i h1 h2=>by congr 1;omega)
   | false =>
     try dsimp only
     rw [if_neg (show ¬ (false=true) by decide)]
     refine cm _ _ _ (B.lt (by omega)) (B.lt (by omega)) (B.ne (by omega) (by omega) (by omega)) ?_
     cases hg:O.blt (key (p.getD (x - 1) 0)) (key (p.getD x 0)) with
     | true=>(try dsimp only);rw [if_pos rfl];exact h p x neq B h1 (by omega) hs hq he
     | false =>
       try dsimp only
       rw [if_neg (show ¬ (false=true) by decide)]
       have heqx:KP key p x=KP key p (x - 1):=KeyOrd.kle_antisymm hg hl
       refine Zaa cm hn h f _ _ _ B (by omega) (by omega) (fun i j hij hj=>?_) (by omega) (fun i h1 h2=>?_)
       · by_cases hjx:j < x
         · exact hs i j hij hjx
         · have hj':j=x:=by omega
           subst hj'
           by_cases hi':i=j
           · subst hi';exact KeyOrd.kle_refl _
           · rw [heqx];exact hs i (j - 1) (by omega) (by omega)
       · rw [show x+1 - 1=x by omega]
         by_cases hix:i=x
         · subst hix;rfl
         · rw [heqx];exact he i (by omega) (by omega)
theorem Zak (cm:Xw key n s cmp){m nrem:Nat}(hn:nrem≤n)(hm:m+1≤nrem){p:Array Nat}(B:PB n p)(hs:Zdx key p (m+1)){Q:Nat×Array Nat→Shared→Prop}
   (h:∀ k q,PB n q→1≤k→k≤nrem→Wt key q k→Q (k,q) s):(kas_descPart m nrem p).kasWp cmp Q s:=by
 unfold kas_descPart
 rw [KasT.kasWp_bind]
 refine Zaa cm hn (fun q k neq B' h1 h2 hs' hq he=>?_) _ _ _ _ B (by omega) (by omega) hs (by omega) (fun i h1 h2=>by congr 1;omega)
 have hsz:k≤q.size:=by rw [B'.size];omega
 by_cases hneq:neq > 0
 · rw [if_pos hneq]
   refine ZdK cm hn h1 h2 (B'.mir _ _) (fun i j hij hj=>?_) h
   rw [YM hsz he,YM hsz he]
   exact hs' i j hij hj
 · rw [if_neg hneq]
   exact ZdK cm hn h1 h2 B' hs' h
theorem Zit (cm:Xw key n s cmp){nrem:Nat}(hn:nrem≤n)(h1:1≤nrem){p:Array Nat}(B:PB n p){Q:Nat×Array Nat→Shared→Prop}
   (h:∀ k q,PB n q→1≤k→k≤nrem→Wt key q k→Q (k,q) s):(kas_count nrem p).kasWp cmp Q s:=by
 unfold kas_count
 rw [KasT.kasWp_bind]
 refine ZdX cm hn B _ _ (Nat.le_refl 1) (by omega) (fun i j hij hj=>by have:i=j:=(by omega);subst this;exact KeyOrd.kle_refl _) fun m hm1 hm2 hsm hor=>?_
 by_cases hnn:m=nrem
 · rw [if_pos (by simpa using hnn)]
   exact h m p B hm1 hm2 hsm
 · rw [if_neg (by simpa using hnn)]
   have hlt:O.klt (KP key p m) (KP key p (m - 1)):=hor.resolve_left hnn
   by_cases hgt:m > 1
   · rw [if_pos hgt]
     refine cm _ _ _ (B.lt (by omega)) (B.lt (by omega)) (B.ne (by omega) (by omega) (by omega)) ?_
     cases hr:O.blt (key (p.getD 0 0)) (key (p.getD (m - 1) 0)) with
     | true=>(try dsimp only);rw [if_pos rfl];exact h m p B hm1 hm2 hsm
     | false =>
       try dsimp only
       rw [if_neg (show ¬ (false=true) by decide)]
       have hsz:m≤p.size:=by rw [B.size];omega
       have hall:∀ k,0≤k→k < m→KP key p k=KP key p (m - 1):=by
         intro k _ hk
         have a1:=hsm 0 k (by omega) hk
         have a2:=hsm k (m - 1) (by omega) (by omega)
         exact KeyOrd.kle_antisymm a2 (KeyOrd.kle_trans hr a1)
       refine Zak cm hn (by omega) (B.mir 0 m) (fun i j hij hj=>?_) h
       rw [YM hsz hall,YM hsz hall]
       by_cases hjn:j < m
       · rw [hall i (by omega) (by omega),hall j (by omega) hjn];exact KeyOrd.kle_refl _
       · have hj':j=m:=by omega
         subst hj'
         by_cases hi':i=j
         · subst hi';exact KeyOrd.kle_refl _
         · rw [hall i (by omega) (by omega)];exact KeyOrd.kle_of_klt hlt
   · rw [if_neg hgt]
     have hn1':m=1:=by omega
     subst hn1'
     refine Zak cm hn (by omega) B (fun i j hij hj=>?_) h
     by_cases hi':i=j
     · subst hi';exact KeyOrd.kle_refl _
     · have hi0:i=0:=by omega
       have hj1:j=1:=by omega
       subst hi0;subst hj1
       exact KeyOrd.kle_of_klt hlt
theorem Zau (cm:Xw key n s cmp){p:Array Nat}(B:PB n p){k:Nat}(hk:k < n)(hs:Wt key p k){Q:Nat→Shared→Prop}
   (h:∀ l,l≤k→(∀ i,i < l→O.kle (KP key p i) (KP key p k))→(∀ i,l≤i→i < k→O.klt (KP key p k) (KP key p i))→Q l s) :
   ∀ (f l r:Nat),l≤r→r≤k→r - l≤f→(∀ i,i < l→O.kle (KP key p i) (KP key p k))→(∀ i,r≤i→i < k→O.klt (KP key p k) (KP key p i))→(kas_place p k f l r).kasWp cmp Q s
 | 0,l,r,hlr,hrk,hf,hlo,hhi=>h l (by omega) hlo fun i h1 h2=>hhi i (by omega) h2
 | f + 1,l,r,hlr,hrk,hf,hlo,hhi=>by
   unfold kas_place
   by_cases hge:l ≥ r
   · rw [if_pos hge];exact h l (by omega) hlo fun i h1 h2=>hhi i (by omega) h2
   · rw [if_neg hge]
     refine cm _ _ _ (B.lt hk) (B.lt (by omega)) (B.ne hk (by omega) (by omega)) ?_
     cases hl:O.blt (key (p.getD k 0)) (key (p.getD ((l+r) / 2) 0)) with
     | true =>
       try dsimp only
       rw [if_pos rfl]
       refine Zau cm B hk hs h f _ _ (by omega) (by omega) (by omega) hlo fun i h1 h2=>?_
       exact KeyOrd.klt_of_klt_of_kle (show O.klt (KP key p k) (KP key p ((l+r) / 2)) from hl) (hs _ _ h1 h2)
     | false =>
       try dsimp only
       rw [if_neg (show ¬ (false=true) by decide)]
       refine Zau cm B hk hs h f _ _ (by omega) (by omega) (by omega) (fun i h1=>?_) hhi
       exact KeyOrd.kle_trans (hs i ((l+r) / 2) (by omega) (by omega)) (show O.kle (KP key p ((l+r) / 2)) (KP key p k) from hl)
theorem ZgT (cm:Xw key n s cmp){Q:Array Nat→Shared→Prop}(h:∀ q,PB n q→Wt key q n→Q q s):∀(f:Nat)(p:Array Nat)(k:Nat),PB n p→k+f=n→Wt key p k→(kas_bin f p k).kasWp cmp Q s
 | 0,p,k,B,e,hs=>h p B (by rw [← show k=n by omega];exact hs)
 | f + 1,p,k,B,e,hs=>by
   unfold kas_bin
   rw [KasT.kasWp_bind]
   have hk:k < n:=by omega
   have hks:k < p.size:=by rw [B.size];exact hk
   refine Zau cm B hk hs (fun l hl hlo hhi=>?_) _ _ _ (Nat.zero_le _) (Nat.le_refl _) (by omega) (fun i hi=>by omega) fun i h1 h2=>by omega
   refine ZgT cm h f _ _ ((bubble_perm _ _ _).trans B) (by omega) fun i j hij hj=>?_
   rw [ZcK hks (by omega),ZcK hks (by omega),show k - (k - l)=l by omega]
   repeat' split
   all_goals first
     | (exfalso;omega)
     | exact KeyOrd.kle_refl _
     | exact hlo _ (by omega)
     | exact KeyOrd.kle_of_klt (hhi _ (by omega) (by omega))
     | exact hs _ _ (by omega) (by omega)
theorem ZkJ (cm:Xw key n s cmp)(h1:1≤n){Q:Array Nat→Shared→Prop}(h:∀ q,PB n q→Wt key q n→Q q s):(kas_sort n).kasWp cmp Q s:=by
 unfold kas_sort
 rw [KasT.kasWp_bind]
 refine Zit cm (Nat.le_refl _) h1 (Array.Perm.refl _) fun k q B hk1 hk2 hs=>?_
 dsimp only
 by_cases hlt:k < n
 · rw [if_pos hlt,show max k 1=k by omega]
   exact ZgT cm h _ _ _ B (by omega) hs
 · rw [if_neg hlt]
   exact h q B (by rw [← show k=n by omega];exact hs)
end
end L2
set_option maxHeartbeats 2000000
namespace L2
open PySem PySem.Spec PyProof.Rows
section
variable {X:Cx}{elt iter tg cnd:Expr}{xa xb:Str}{pos:Pos}{scope:Scope}{wi:TI}{te:TE}{tc:TT}{g:TG}
end
end L2
set_option maxHeartbeats 2000000
namespace L2
open PySem PySem.Spec PyProof.Rows
section
variable {X:Cx}
def rNeD:R2:=fun x y H Q=>∃ dx dy,DataOf H x dx∧DataOf H y dy∧dx.canLay0=true∧dy.canLay0=true∧dx.depth≤60∧Q (.bl (!PyData.eqv dx dy)) H
theorem ZdI (hu:X.A.units+64 < cLine):Xf X (compareOp .NotEq) rNeD:=by
 intro pins s σ H x y v u Q I rx ry h
 obtain ⟨dx,dy,d1,d2,c1,c2,hd,q⟩:=h
 obtain ⟨_,as,r1⟩:=DataOf.reads I.hok v d1 rx
 obtain ⟨_,bs,r2⟩:=DataOf.reads I.hok u d2 ry
 exact SeqAt.compareNe_reads r1 r2 c1 c2 (by omega) ⟨.bl _,H,I,rfl,q⟩
end
section
variable {X:Cx}{k:Nat}{C:Addr}{x m:Str}{ps:List Str}{sp:Sp}{p pos apos:Pos}{o:Expr}{ta:TE}
end
end L2
set_option maxHeartbeats 2000000
namespace L2
open PySem PySem.Spec PyProof.Rows
section
variable {X:Cx}
end
end L2
set_option maxHeartbeats 2000000
namespace L2
open PySem PySem.Spec PyProof.Rows
end L2
set_option maxHeartbeats 2000000
namespace L2
open PySem PySem.Spec PyProof.Rows
section
variable {X:Cx}
end
end L2
set_option maxHeartbeats 2000000
namespace L2
open PySem
theorem Sep.newE {Δ:Rs}{H H2:Hp}{o:HO}(S:Sep Δ H){p:Addr}(hp:H p=none)(e:upd H p o=H2):Sep ((p,Pt o)::Δ) H2:=e ▸ S.new hp o
theorem Sep.putE {Δ Δ':Rs}{H H2:Hp}{o o':HO}{a:Addr}(S:Sep Δ H)(e:upd H a o'=H2)[P:Pull a Δ (Pt o) Δ'](m:Yw o=true:=by rfl):Sep ((a,Pt o')::Δ') H2:=e ▸ S.put a o' m
end L2
set_option maxHeartbeats 2000000
namespace L2
open PySem PySem.W PySem.Spec PyProof.Rows
section
variable {prog:Program}{w:World}{A:Around}{E:Zv}{s:Shared}{a:Addr}{as:List Addr}{ks:List Str}{P:PySem.Fin→Shared→Prop}
def Ux (h:Heap)(as:List Addr)(ks:List Str):Prop:=∀ (i:Nat) (b:Addr) (k:Str),as[i]?=some b→ks[i]?=some k→∃ o t x n,h.get? b=some o∧o.cls=.type "tuple"∧o.data=.seq #[.str k t,x] n
theorem Zal {h:Heap}:∀{as:List Addr}{ks:List Str},as.length=ks.length→Ux h as ks→∃ fs,KatTups h (as.map Value.ref) fs∧fs.length=as.length∧∀ v∈fs,∃ k t,v=Value.str k t
 | [],[],_,_=>⟨[],KatTups.nil,rfl,fun _ h=>nomatch h⟩
 | [],_::_,e,_=>by cases e
 | _::_,[],e,_=>by cases e
 | b::as,k::ks,e,T=>by
   obtain ⟨o,t,x,n,ho,hc,hdd⟩:=T 0 b k rfl rfl
   obtain ⟨fs,h1,h2,h3⟩:=Zal (as:=as) (ks:=ks) (by simpa using e) fun i b k e1 e2=>T (i+1) b k e1 e2
   refine ⟨.str k t::fs,KatTups.cons ho hc hdd rfl h1,by rw [List.length_cons,List.length_cons,h2],fun v hv=>?_⟩
   rcases List.mem_cons.mp hv with rfl | hv
   · exact ⟨k,t,rfl⟩
   · exact h3 v hv
theorem ZgG (hl:as.length=ks.length)(h2:2≤as.length)(T:Ux s.heap as ks){Q:SortKind→Shared→Prop}(h:Q (tuples' true) s):wpAny (model prog w) A (keyKind' (as.map Value.ref).toArray) Q E s:=by
 obtain ⟨fs,h1,h3,h4⟩:=Zal hl T
 refine kat_kind (T:=.type "str") h1 (by omega) (fun v hv=>?_) (by decide) h
 obtain ⟨k,t,rfl⟩:=h4 v hv
 exact .now
def Zap (ks:List Str)(i:Nat):List Nat:=(ks.getD i Str.empty).cps.toList
theorem ZhS (hl:as.length=ks.length)(hnd:ks.Nodup)(T:Ux s.heap as ks):Xw (O:=strKind.toKeyOrd) (Zap ks) as.length s (kas_ask prog w A (tuples' true) (as.map Value.ref)):=by
 intro i j C hi hj hij hC
 unfold kas_ask
 have gi:∀ k (hk:k < as.length),(as.map Value.ref).getD k Value.none=.ref as[k]:=fun k hk=>by simp [List.getD_eq_getElem?_getD,hk]
 have kg:∀ k (hk:k < as.length),ks.getD k Str.empty=ks[k]'(by omega):=fun k hk=>by simp [List.getD_eq_getElem?_getD,show k < ks.length by omega]
 rw [gi i hi,gi j hj]
 obtain ⟨_,ti,xi,_,oi,_,di⟩:=T i as[i] (ks[i]'(by omega)) (List.getElem?_eq_getElem hi) (List.getElem?_eq_getElem (by omega))
 obtain ⟨_,tj,xj,_,oj,_,dj⟩:=T j as[j] (ks[j]'(by omega)) (List.getElem?_eq_getElem hj) (List.getElem?_eq_getElem (by omega))
 refine kat_lt oi di oj dj ?_
 refine kat_cons (wpAny_eqBool_str ?_)
 rw [decide_eq_false (fun z=>hij (Zdf hnd z))]
 refine kat_no ?_
 refine strKind_oneLt prog w A _ s _ _ _ _ rfl rfl ?_
 unfold Zap at hC
 rw [kg i hi,kg j hj] at hC
 exact hC
theorem ZiI (hl:as.length=ks.length){q:Array Nat}(B:PB as.length q)(S:Wt (O:=strKind.toKeyOrd) (Zap ks) q as.length):Uj ks (as.map Value.ref) (q.toList.map fun i=>(as.map Value.ref).getD i Value.none):=by
 refine ⟨q.toList.map fun i=>(ks.getD i Str.empty,(as.map Value.ref).getD i Value.none),?_,?_,?_⟩
 · have h1:=(Array.perm_iff_toList_perm.mp B).map fun i=>(ks.getD i Str.empty,(as.map Value.ref).getD i Value.none)
   refine h1.trans (List.Perm.of_eq ?_)
   apply List.ext_getElem?
   intro i
   show ((List.range as.length).map _)[i]?=_
   rw [List.getElem?_map]
   by_cases hi:i < as.length
   · rw [List.getElem?_range hi]
     have:(ks.zip (as.map Value.ref))[i]?=some (ks[i]'(by omega),Value.ref as[i]):=by
       rw [List.getElem?_zip_eq_some]
       exact ⟨List.getElem?_eq_getElem (by omega),by rw [List.getElem?_map,List.getElem?_eq_getElem hi];rfl⟩
     rw [this]
     simp [List.getD_eq_getElem?_getD,hi,show i < ks.length by omega]
   · have e1:(List.range as.length)[i]?=none:=List.getElem?_eq_none (by simpa using Nat.le_of_not_lt hi)
     have e2:(ks.zip (as.map Value.ref))[i]?=none:=List.getElem?_eq_none (by rw [List.length_zip,List.length_map];omega)
     rw [e1,e2];rfl
 · rw [List.map_map];rfl
 · rw [List.pairwise_map,List.pairwise_iff_getElem]
   intro i j hi hj hij
   have hs:=B.size
   have hi':i < q.size:=by simpa using hi
   have hj':j < q.size:=by simpa using hj
   have h:=S i j (Nat.le_of_lt hij) (by omega)
   have e:∀ k (hk:k < q.size),KP (O:=strKind.toKeyOrd) (Zap ks) q k=(ks.getD q[k] Str.empty).cps.toList:=fun k hk=>by
     unfold KP Zap
     rw [show q.getD k 0=q[k] by simp [Array.getD,hk]]
   rw [e i hi',e j hj'] at h
   simpa [KeyOrd.kle] using h
theorem Zgg {n:Nat}(ho:s.heap.get? a=some (seqObj "list" (as.map Value.ref).toArray n))(hl:as.length=ks.length)(h64:as.length < 64)(hnd:ks.Nodup)(ha:a ∉ as)(T:Ux s.heap as ks)
   (h:∀ h' tk out c,(∀ b o,b≠a→s.heap.get? b=some o→h'.get? b=some o)→h'.get? a=some (seqObj "list" out c)→Uj ks (as.map Value.ref) out.toList→P (.done (.ret .none)) { s with heap:=h',toks:=tk }) :
   wpAny (model prog w) A (Builtin.«list.sort» ⟨[.ref a],[]⟩) P E s:=by
 have hsz:(as.map Value.ref).toArray.size=as.length:=by simp
 have s1:=Heap.SameBut.update s.heap a (Obj.mapSeq fun _=>(#[]:Array Value))
 obtain ⟨e1,ho1⟩:∃ e1,(s.heap.update a (Obj.mapSeq fun _=>(#[]:Array Value))).get? a=some (seqObj "list" #[] e1):=⟨_,get?_update_seq ho fun _=>#[]⟩
 have k1:∀ b o,b≠a→s.heap.get? b=some o→(((s.heap.update a (Obj.mapSeq fun _=>(#[]:Array Value))).push (seqObj "tuple" (as.map Value.ref).toArray 0)).push (seqObj "list" #[] 0)).get? b=some o:=fun b o hb y=>Heap.get?_push_of_some _ (Heap.get?_push_of_some _ ((s1.2 b hb).trans y))
 have T1:Ux (((s.heap.update a (Obj.mapSeq fun _=>(#[]:Array Value))).push (seqObj "tuple" (as.map Value.ref).toArray 0)).push (seqObj "list" #[] 0)) as ks:=fun i b k e1 e2=>by
   obtain ⟨o9,t,x,n9,ob,z1,z2⟩:=T i b k e1 e2
   exact ⟨o9,t,x,n9,k1 b _ (fun z=>ha (by rw [← z];exact List.mem_of_getElem? e1)) ob,z1,z2⟩
 have ho2:(((s.heap.update a (Obj.mapSeq fun _=>(#[]:Array Value))).push (seqObj "tuple" (as.map Value.ref).toArray 0)).push (seqObj "list" #[] 0)).get? a=some (seqObj "list" #[] e1):=Heap.get?_push_of_some _ (Heap.get?_push_of_some _ ho1)
 rw [list_sort_plain]
 refine wpAny_bind (listItems_at ho rfl ?_)
 refine wpAny_bind (listUpdate_at ho rfl ?_ (by rw [hsz,sizeLine_eq];omega) (Nat.zero_le _))
 refine wpAny_bind (seqEpoch_at ho1 rfl ?_)
 refine wpAny_bind (wpAny_newTuple ?_ (by show (as.map Value.ref).length≤_;rw [List.length_map,sizeLine_eq];omega))
 refine wpAny_bind (wpAny_newList ?_ (Nat.zero_le _))
 refine wpAny_holding ?_
 show wpAny (model prog w) A _ P E { s with heap:=((s.heap.update a (Obj.mapSeq fun _=>(#[]:Array Value))).push (seqObj "tuple" (as.map Value.ref).toArray 0)).push (seqObj "list" #[] 0) }
 generalize hh1:((s.heap.update a (Obj.mapSeq fun _=>(#[]:Array Value))).push (seqObj "tuple" (as.map Value.ref).toArray 0)).push (seqObj "list" #[] 0)=h1 at *
 dsimp only
 have tail:∀ (st:SortSt) (out:List Value),(arrOf st).map (·.2)=out.toArray→failedOf st=none→out.length=as.length→Uj ks (as.map Value.ref) out →
     wpAny (model prog w) A (do
       let touched:=(← seqEpoch a) != e1
       Builtin.List.listUpdate (.ref a) fun _=>(arrOf st).map (·.2)
       if let some e:=failedOf st then rule "list.sort.comparison-raised";throw e
       if touched then rule "list.sort.modified";raiseError "ValueError" "list modified during sort"
       ret .none) P E { s with heap:=h1 }:=by
   intro st out hout hf hlen hO
   have s2:=Heap.SameBut.update h1 a (Obj.mapSeq fun _=>out.toArray)
   obtain ⟨c2,hc2⟩:∃ c2,(h1.update a (Obj.mapSeq fun _=>out.toArray)).get? a=some (seqObj "list" out.toArray c2):=⟨_,get?_update_seq ho2 fun _=>out.toArray⟩
   rw [hout,hf]
   refine wpAny_bind (seqEpoch_at (s:={ s with heap:=h1 }) ho2 rfl ?_)
   refine wpAny_bind (listUpdate_at (s:={ s with heap:=h1 }) ho2 rfl ?_ (Nat.zero_le _) (by rw [List.size_toArray,hlen,sizeLine_eq];omega))
   simp only [bne_self_eq_false,Bool.false_eq_true,if_false]
   exact wpAny_pure (h _ _ _ c2 (fun b o hb y=>(s2.2 b hb).trans (k1 b o hb y)) hc2 hO)
 by_cases h2:(as.map Value.ref).toArray.size < 2
 · rw [if_pos h2,if_pos h2]
   refine wpAny_bind (wpAny_pure ?_)
   rw [StateT.run_pure]
   refine wpAny_bind (wpAny_pure ?_)
   have hz:((as.map Value.ref).toArray.zip (as.map Value.ref).toArray).map (·.2)=(as.map Value.ref).toArray:=by
     apply Array.toList_inj.mp
     rw [Array.toList_map,ksk_zip]
     exact List.map_snd_zip (by simp)
   rw [hsz] at h2
   refine tail (SortSt.mk' general' ((as.map Value.ref).toArray.zip (as.map Value.ref).toArray) #[] 7 none) (as.map Value.ref) hz rfl (List.length_map _) ⟨ks.zip (as.map Value.ref),List.Perm.refl _,(List.map_snd_zip (by rw [List.length_map];omega)).symm,?_⟩
   have:(ks.zip (as.map Value.ref)).length < 2:=by rw [List.length_zip,List.length_map];omega
   match hzz:ks.zip (as.map Value.ref),this with
   | [],_=>exact List.Pairwise.nil
   | [x],_=>exact List.pairwise_singleton _ _
   | _::_::_,h=>exact absurd h (by rw [List.length_cons,List.length_cons];omega)
 · rw [if_neg h2,if_neg h2]
   rw [hsz] at h2
   refine wpAny_bind (ZgG (s:={ s with heap:=h1 }) hl (by omega) T1 ?_)
   refine wpAny_bind (wpAny_mono (kat_run (ks:=as.map Value.ref) (vs:=as.map Value.ref) (Q:=fun st' s'=>s'={ s with heap:=h1 }∧∃ q:Array Nat,PB as.length q∧Wt (O:=strKind.toKeyOrd) (Zap ks) q as.length∧arrOf st'=q.map (kas_item ((as.map Value.ref).toArray.zip (as.map Value.ref).toArray))∧failedOf st'=none)
     (G:=fun q s'=>s'={ s with heap:=h1 }∧PB as.length q∧Wt (O:=strKind.toKeyOrd) (Zap ks) q as.length)
     rfl (by rw [List.length_map];omega) (by rw [List.length_map];exact h64) (fun q st' s' a1 a2 a3 a4=>⟨a4.1,q,a4.2.1,a4.2.2,a2,a3⟩) ?_) ?_ fun _ _ e=>e)
   · rw [List.length_map]
     exact ZkJ (ZhS (s:={ s with heap:=h1 }) hl hnd T1) (by omega) fun q B S=>⟨rfl,B,S⟩
   · rintro ⟨⟨⟩,st'⟩ s' ⟨rfl,q,B,S,har,hf⟩
     have hs:=B.size
     exact tail st' _ (kat_snds rfl har) hf (by rw [List.length_map,Array.length_toList,hs]) (ZiI hl B S)
end
theorem ZcR {prog:Program}{w:World}{Ky:Type}[DecidableEq Ky]{knd:PySem.KeyKind prog w Ky}{A:Around}{E:Zv}{s:Shared}{r d:Addr}{kvs:List (Ky×Value)}{ep:Nat}{R:List Value→Shared→Prop}(noH:A.handled=none)(vw:s.heap.IsItemsView r d)(dm:s.heap.DictAt knd d kvs ep)(few:kvs.length≤sizeLine)
   (k:∀ (h':Heap) (tk:Nat) (as:List Addr),s.heap.objs.size < h'.objs.size→(∀ b o,s.heap.get? b=some o→h'.get? b=some o)→as.length=kvs.length→KdxG knd kvs s.heap.objs.size h' as→R (as.map Value.ref) { s with heap:=h',toks:=tk }) :
   wpAny (model prog w) A (collect (.ref r)) R E s:=by
 have lr:r < s.heap.objs.size:=by obtain ⟨_,z,_⟩:=vw;exact Heap.lt_size z
 have ld:d < s.heap.objs.size:=dm.lt_size
 have vw':(s.heap.push { cls:=.type "list",data:=.seq ([]:List Value).toArray }).IsItemsView r d:=by obtain ⟨o,z,y⟩:=vw;exact ⟨o,Heap.get?_push_of_some _ z,y⟩
 have here:(s.heap.push { cls:=.type "list",data:=.seq ([]:List Value).toArray }).get? s.heap.objs.size=some { cls:=.type "list",data:=.seq #[] }:=Heap.get?_push_size _ rfl
 let Fin':Result→Shared→Prop:=fun q s'=>∃ (h':Heap) (tk:Nat) (its:Array Value) (c:Nat) (as:List Addr),(q=.ok (.ret (.ref s.heap.objs.size))∧s'={ s with heap:=h',toks:=tk })∧((∀ b o,s.heap.get? b=some o→h'.get? b=some o)∧h'.get? s.heap.objs.size=some { cls:=.type "list",dict:=none,data:=.seq its c,slots:=#[] })∧(as.length=kvs.length∧KdxG knd kvs s.heap.objs.size h' as)∧its.toList=as.map Value.ref
 have run:=kdx_extend (A:=A) (s:={ s with heap:=s.heap.push { cls:=.type "list",data:=.seq ([]:List Value).toArray } }) (kvs:=kvs) (knd:=knd) (ep:=ep) (R:=Fin') noH vw' (dm.push _) s.heap.objs.size (Nat.ne_of_gt lr) (Nat.ne_of_lt ld) (.ref s.heap.objs.size) 0 here
   (fun h' tk its c as hk hs hl hg ha=>⟨h',tk,its,c,as,⟨rfl,rfl⟩,⟨fun b o e=>hk b o (Nat.ne_of_lt (Heap.lt_size e)) (Heap.get?_push_of_some _ e),hs⟩,⟨hl,hg.low (Nat.le_trans (Nat.le_succ _) (Nat.le_of_eq (size_push' _ _).symm))⟩,ha⟩) few
 have fin:∀ s',Fin' (.ok (.ret (.ref s.heap.objs.size))) s'→wpAny (model prog w) A (do match (← load s.heap.objs.size).data with | .seq xs _=>pure xs.toList | _=>unsupported "internal:collect") R E s':=by
   rintro s' ⟨h',tk,its,c,as,⟨_,rfl⟩,⟨hk,hs⟩,⟨hl,hg⟩,ha⟩
   refine wpAny_bind (wpAny_load hs ?_)
   refine wpAny_pure (show R its.toList _ from ?_)
   rw [ha]
   exact k h' tk as (Heap.lt_size hs) hk hl hg
 unfold collect
 refine wpAny_bind (wpAny_runValue (codeAny_builtin entry_proto_collect' ?_))
 rw [Around.under_plainId PySem.F.plain_proto_collect _]
 refine wpAny_bind (m:=newList []) (wpAny_newObj_type (wpAny_pure ⟨plainId_quiet PySem.F.plain_list_iadd _,codeAny_builtin entry_list_iadd' ?_⟩))
 rw [Around.under_plainId PySem.F.plain_list_iadd _]
 refine wpAny_mono run (fun f s' x=>?_) fun e s' x=>?_
 · cases f with
   | done f =>
     obtain ⟨h',tk,its,c,as,⟨e,e2⟩,r'⟩:=x
     cases e
     exact fin s' ⟨h',tk,its,c,as,⟨rfl,e2⟩,r'⟩
   | again c₁ =>
     refine ⟨x.1,codeAny_mono x.2 fun q s₂ y=>?_⟩
     obtain ⟨h',tk,its,c,as,⟨e,e2⟩,r'⟩:=y
     subst e
     exact fin s₂ ⟨h',tk,its,c,as,⟨rfl,e2⟩,r'⟩
 · obtain ⟨_,_,_,_,_,⟨e',_⟩,_⟩:=x
   cases e'
def YB (ps:Zu):Prop:=ps.Pairwise fun p q=>¬ (q.1.cps.toList < p.1.cps.toList)
def Zar (H:Hp)(a:Addr):V:=match H a with
 | some (.tup [_,v])=>v
 | _=>.non
theorem Zbg {H:Hp}{ts ts':List Addr}{ps:Zu}(h:PairT H ts ps)(o:Zdu (ps.map (·.1)) ts ts'):∃ ps',ps'.Perm ps∧YB ps'∧PairT H ts' ps':=by
 obtain ⟨zs,hp,e,hs⟩:=o
 have val:∀ (i:Nat) (a:Addr) (p:Str×V),ts[i]?=some a→ps[i]?=some p→Zar H a=p.2:=fun i a p e1 e2=>by unfold Zar;rw [h.2 i a p e1 e2]
 have hz:((ps.map (·.1)).zip ts).map (fun z=>(z.1,Zar H z.2))=ps:=by
   apply List.ext_getElem?
   intro i
   rw [List.getElem?_map]
   cases e2:ps[i]? with
   | none =>
     have:((ps.map (·.1)).zip ts)[i]?=none:=by
       rw [List.getElem?_eq_none_iff] at e2 ⊢
       rw [List.length_zip,List.length_map];omega
     rw [this];rfl
   | some p =>
     have hi:i < ps.length:=(List.getElem?_eq_some_iff.mp e2).1
     obtain ⟨a,ea⟩:∃ a,ts[i]?=some a:=⟨_,List.getElem?_eq_getElem (by rw [h.1];exact hi)⟩
     have:((ps.map (·.1)).zip ts)[i]?=some (p.1,a):=by
       rw [List.getElem?_zip_eq_some]
       exact ⟨by rw [List.getElem?_map,e2];rfl,ea⟩
     rw [this]
     show some (p.1,Zar H a)=some p
     rw [val i a p ea e2]
 refine ⟨zs.map fun z=>(z.1,Zar H z.2),?_,?_,?_⟩
 · have:=hp.map fun z:Str×Addr=>(z.1,Zar H z.2)
   rwa [hz] at this
 · unfold YB;rw [List.pairwise_map];exact hs
 · refine ⟨by rw [e,List.length_map,List.length_map],fun i a p e1 e2=>?_⟩
   rw [e,List.getElem?_map] at e1
   rw [List.getElem?_map] at e2
   cases ez:zs[i]? with
   | none=>rw [ez] at e1;cases e1
   | some z =>
     rw [ez] at e1 e2
     cases (show some z.2=some a from e1)
     cases (show some (z.1,Zar H z.2)=some p from e2)
     have hm:=hp.mem_iff.mp (List.mem_of_getElem? ez)
     obtain ⟨j,hj⟩:=List.mem_iff_getElem?.mp hm
     rw [List.getElem?_zip_eq_some] at hj
     obtain ⟨h1,h2⟩:=hj
     rw [List.getElem?_map] at h1
     cases e3:ps[j]? with
     | none=>rw [e3] at h1;cases h1
     | some pj =>
       rw [e3] at h1
       have h1':pj.1=z.1:=by simpa using h1
       have:=h.2 j z.2 pj h2 e3
       rw [this,val j z.2 pj h2 e3,h1']
section
variable {X:Cx}
def kP (p:Str×V):Zk×V:=(Sum.inr p.1,p.2)
theorem Zad (hc:X.calm=true):Yk X (.builtin "sorted") (fun xs H Q=>∃ v d ps,xs=[.ref v]∧H v=some (.ext (UB v d))∧H d=some (.dK (ps.map kP))∧ps.length < 64 ∧
   ∀ (l:Addr) (ts':List Addr) (ps':Zu) (H2:Hp),H l=none→Same H H2→(ps.map (·.1)).Nodup→ps'.Perm ps→YB ps'→PairT H2 ts' ps'→(∀ a∈ts',H a=none)→H2 l=some (.lst (ts'.map V.ref))→Q (.ref l) H2):=by
 intro pins s σ H xs us Q I r h
 obtain ⟨v,d,ps,rfl,ev,ed,h64,q⟩:=h
 obtain ⟨u,rfl,ru⟩:=Yj r
 cases ru
 obtain ⟨hz,lo,vs,kv,o,es,ep,ho,r1,r2,r3,r4,r5⟩:=Wz I.hok ed
 have hlen:vs.length=ps.length:=by have:=(Paired.length kv).symm;rwa [List.length_map] at this
 have hkeys:vs.map (·.1)=ps.map fun p=>(Sum.inr p.1:Zk):=by
   have:∀ {l:Zu} {m:List (Zk×Value)},KV (l.map kP) m→m.map (·.1)=l.map fun p=>(Sum.inr p.1:Zk):=by
     intro l
     induction l with
     | nil=>intro m h;cases h;rfl
     | cons p l ih =>
       intro m h
       cases h with
       | cons e t=>rw [List.map_cons,List.map_cons,ih t,← e.1];rfl
   exact this kv
 have hnd:(ps.map (·.1)).Nodup:=by
   have h1:(vs.map (·.1)).Nodup:=r5
   rw [hkeys] at h1
   have h2:(ps.map fun p=>(Sum.inr p.1:Zk))=(ps.map (·.1)).map fun x=>(Sum.inr x:Zk):=by rw [List.map_map];rfl
   rw [h2] at h1
   exact List.Pairwise.imp (fun h z=>h (by rw [z])) (List.pairwise_map.mp h1)
 refine PySem.Calls.call_function_entry kind_sorted plain_sorted entry_sorted (args_sorted1 _) ?_
 unfold Builtin.«sorted»
 refine wpAny_bind (m:=checkCount "sorted" 1 1 _) (wpAny_pure ?_)
 refine wpAny_bind (ZcR (A:=X.A.in1) (knd:=Zl X.prog X.w) (kvs:=vs) (ep:=ep) (I.ok.hd hc) (I.hok v _ ev).1 ⟨o,es,ho,r1,r2,r3,r4,r5⟩ (by rw [hlen];rw [List.length_map] at hz;exact hz) fun h' tk as hgt hk hl hG=>?_)
 have hl2:as.length=ps.length:=by rw [hl,hlen]
 have lift:∀ (j:Nat) (a:Addr) (p:Str×V),as[j]?=some a→ps[j]?=some p→∃ t x,h'.get? a=some { cls:=.type "tuple",data:=.seq #[.str p.1 t,x] }∧RelV p.2 x:=fun j a p e1 e2=>by
   obtain ⟨keyv,kk,x,e3,e4,e5⟩:=hG.pairs j a e1
   obtain ⟨vv,e6,rel⟩:=ZgX kv e3
   rw [List.getElem?_map,e2] at e6
   cases (show some (kP p)=some (kk,vv) from e6)
   rw [Vc] at e4
   rcases ZP e4 with ⟨i,tt,z1,z2⟩ | ⟨y,tt,z1,z2⟩
   · cases z1
   · cases z1
     subst z2
     exact ⟨tt,x,e5,rel⟩
 have T:Ux h' as (ps.map (·.1)):=fun i b k e1 e2=>by
   rw [List.getElem?_map] at e2
   cases e3:ps[i]? with
   | none=>rw [e3] at e2;cases e2
   | some p =>
     rw [e3] at e2
     cases (show some p.1=some k from e2)
     obtain ⟨t,x,z,_⟩:=lift i b p e1 e3
     exact ⟨_,t,x,0,z,rfl,rfl⟩
 refine wpAny_bind (wpAny_newList ?_ (by rw [List.length_map,hl2,sizeLine_eq];omega))
 have hoL:(h'.push { cls:=.type "list",data:=.seq (as.map Value.ref).toArray }).get? h'.objs.size=some (seqObj "list" (as.map Value.ref).toArray 0):=Heap.get?_push_size _ rfl
 have nB:h'.objs.size ∉ as:=fun z=>Nat.lt_irrefl _ (hG.there z)
 have hge:s.heap.objs.size≤h'.objs.size:=Nat.le_of_lt hgt
 refine wpAny_bind (wpAny_holding (wpAny_call_entry slot_list_sort ⟨_,hoL,rfl⟩ entry_list_sort ?body (args_list_sort _)))
 case body =>
   refine Zgg (s:={ s with heap:=h'.push { cls:=.type "list",data:=.seq (as.map Value.ref).toArray },toks:=tk }) (ks:=ps.map (·.1)) hoL (by rw [hl2,List.length_map]) (by rw [hl2];exact h64) hnd nB (fun i b k e1 e2=>by obtain ⟨o9,t,x,n9,z,z1,z2⟩:=T i b k e1 e2;exact ⟨o9,t,x,n9,Heap.get?_push_of_some _ z,z1,z2⟩) fun h3 tk3 out c3 k3 a3 o3=>⟨_,rfl,wpAny_pure ⟨_,rfl,?_⟩⟩
   obtain ⟨ts',hout,hT⟩:=Zey o3
   have above:∀ a∈as,s.heap.objs.size < a:=hG.above
   have hfr:∀ b,s.heap.objs.size≤b→H b=none:=fun b hb=>I.hok.fresh hb
   have hasnd:as.Nodup:=hG.rise.imp fun h=>Nat.ne_of_lt h
   generalize hL:as.zip (ps.map kP)=L
   have hm1:L.map (·.1)=as:=by rw [← hL];exact List.map_fst_zip (by rw [List.length_map];omega)
   have offA:∀ b,b ∉ as→XV H L b=H b:=fun b hb=>UX (by rw [hm1];exact hb)
   have tup_at:∀ (j:Nat) (a:Addr) (p:Str×V),as[j]?=some a→ps[j]?=some p→XV H L a=some (.tup [.str p.1,p.2]):=fun j a p e1 e2=>by
     refine Zcc (k:=Sum.inr p.1) (v:=p.2) (by rw [hm1];exact hasnd) ?_
     rw [← hL]
     exact List.mem_of_getElem? (i:=j) (by rw [List.getElem?_zip_eq_some];exact ⟨e1,by rw [List.getElem?_map,e2];rfl⟩)
   have PT0:PairT (XV H L) as ps:=⟨hl2,tup_at⟩
   obtain ⟨ps',hp1,hp2,hp3⟩:=Zbg PT0 hT
   have hsub:∀ a∈ts',a∈as:=by
     obtain ⟨zs,z1,z2,_⟩:=hT
     intro a ha
     rw [z2] at ha
     obtain ⟨z,hz1,hz2⟩:=List.mem_map.mp ha
     have:=(List.of_mem_zip (show (z.1,z.2)∈_ from z1.mem_iff.mp hz1)).2
     rw [← hz2];exact this
   have hlow:∀ b,b < s.heap.objs.size→upd (XV H L) h'.objs.size (.lst (ts'.map V.ref)) b=H b:=fun b hb=>by
     rw [Zh (Nat.ne_of_lt (Nat.lt_of_lt_of_le hb hge)),offA b fun z=>Nat.lt_irrefl _ (Nat.lt_trans (above b z) hb)]
   have sm:Same H (upd (XV H L) h'.objs.size (.lst (ts'.map V.ref))):=fun b o e=>by rw [hlow b (I.hok.lt e)];exact e
   have hk3:∀ b o,s.heap.get? b=some o→h3.get? b=some o:=fun b o e=>k3 b o (Nat.ne_of_lt (Nat.lt_of_lt_of_le (Heap.lt_size e) hge)) (Heap.get?_push_of_some _ (hk b o e))
   refine ⟨.ref h'.objs.size,_,I.many (t':=tk3) hk3 sm hlow (fun b o hb e=>?_),rfl,q _ ts' ps' _ (hfr _ hge) sm hnd hp1 hp2 ⟨hp3.1,fun i a p e1 e2=>?_⟩ (fun a ha=>hfr a (Nat.le_of_lt (above a (hsub a ha)))) Zg⟩
   · by_cases h0:b=h'.objs.size
     · subst h0
       rw [Zg] at e
       cases e
       refine ⟨?_,out.toList,c3,?_,by rw [Array.toArray_toList];exact a3⟩
       · obtain ⟨zs,z1,z2,_⟩:=hT
         have:=z1.length_eq
         rw [List.length_zip,List.length_map] at this
         rw [List.length_map,z2,List.length_map,this,sizeLine_eq];omega
       · rw [hout]
         clear hout hT hp3 hsub hlow sm q a3 o3
         induction ts' with
         | nil=>exact .nil
         | cons a r ih=>exact .cons rfl ih
     · rw [Zh h0] at e
       by_cases hm:b∈as
       · obtain ⟨j,hj⟩:=List.mem_iff_getElem?.mp hm
         have hjl:j < ps.length:=by have:=(List.getElem?_eq_some_iff.mp hj).1;omega
         obtain ⟨t,x,e5,rel⟩:=lift j b _ hj (List.getElem?_eq_getElem hjl)
         rw [tup_at j b _ hj (List.getElem?_eq_getElem hjl)] at e
         cases e
         exact ⟨by show 2≤sizeLine;decide,[.str _ t,x],.cons ⟨t,rfl⟩ (.cons rel .nil),⟨_,k3 b _ h0 (Heap.get?_push_of_some _ e5),rfl,_,rfl⟩⟩
       · rw [offA b hm,hfr b hb] at e
         cases e
   · rw [Zh (fun z=>nB (by rw [← z];exact hsub a (List.mem_of_getElem? e1)))]
     exact hp3.2 i a p e1 e2
end
end L2
set_option maxHeartbeats 2000000
namespace L2
open PySem
def Yx (x:Str):Prop:=1≤x.length∧x.length≤8∧x.cps.toList.all YJ=true
theorem Uo (c:Nat):(⟨#[c]⟩:Str).length=1:=rfl
def a26:Str:="abcdefghijklmnopqrstuvwxyz"
theorem Zfh:a26.length=26:=by decide +kernel
theorem ZjR:a26.cps.toList.all YJ=true:=by decide +kernel
theorem ZlV {α:Type}{f:α→V}{xs:List α}{r:Int}(h0:0≤r)(h1:r < (xs.length:Int)):∃ x∈xs,YI (xs.map f) r=some (f x):=by
 have hl:r.toNat < xs.length:=by omega
 exact ⟨_,List.getElem_mem hl,Zlo h0 (by rw [List.getElem?_map,List.getElem?_eq_getElem hl];rfl)⟩
theorem Sep.le {Δ:Rs}{H:Hp}{p:Addr}{n m:Nat}(S:Sep ((p,Bx n)::Δ) H)(h:n≤m):Sep ((p,Bx m)::Δ) H:=by
 obtain ⟨g,l,r,S⟩:=S
 exact ⟨g,l,BoxAt.le r h,S⟩
def UW:Sp:=fun vs H Q _=>∃(p:Addr)(n:Nat)(Δ:Rs),vs=[.ref p]∧Sep ((p,Bx n)::Δ) H∧n≤900000∧∀(v:V)(H':Hp),Ye v→Sep ((p,Bx (n+50))::Δ) H'→Q v H'
theorem Zkh {vs:List V}{H:Hp}{Q:VK}{E:XK}(h:UW vs H Q E):ZeO vs H Q E:=by
 obtain ⟨p,n,Δ,e,S,h1,q⟩:=h
 exact ⟨p,n,e,S.get p,h1,fun v H' hv B k=>q v H' hv (S.box k B)⟩
def ZdZ (K:KF):Sp:=fun vs H Q _=>∃(a:Addr)(ns:List Int)(k:Int)(Δ:Rs),vs=[.ref a,.int k]∧SqL K H a (ns.map V.int)∧Sep Δ H∧0≤k∧k≤1000∧∀(p:Addr)(H':Hp),Same H H'→Sep ((p,Bx 0)::Δ) H'→Q (.ref p) H'
theorem ZmS {K:KF}{vs:List V}{H:Hp}{Q:VK}{E:XK}(h:ZdZ K vs H Q E):Zjq K vs H Q E:=by
 obtain ⟨a,ns,k,Δ,e,hS,S,h1,h2,q⟩:=h
 refine ⟨a,ns,k,e,hS,h1,h2,fun p H' hp B s=>q p H' s ?_⟩
 obtain ⟨x,y,z,eb,w⟩:=B
 exact (S.made s hp eb).say p (Bx 0) fun h r=>⟨x,y,z,r,w⟩
theorem ZiY {xs:List V}{i:Nat}:Vv xs none (some (i:Int))=xs.take i:=by
 unfold Vv
 rw [HT.sIx_none,HT.sIx_nat,List.drop_zero,Nat.sub_zero]
 by_cases h:i≤xs.length
 · rw [Nat.min_eq_left h]
 · rw [Nat.min_eq_right (by omega),List.take_of_length_le (Nat.le_refl _),List.take_of_length_le (by omega)]
class IsLst (R:YO) (k:Nat):Prop where
 lst:∀ {a h},R a h→∃ xs,h a=some (.lst xs)∧xs.length=k
end L2
set_option maxHeartbeats 2000000
namespace L2
open PySem
theorem Zaf (B:Nat):∀(ts:List Str)(k:Nat)(acc:Str),(∀ t∈ts,t.length≤B)→(textFrom k acc ts).length≤acc.length+ts.length * (B+2)
 | [],_,acc,_=>by show acc.length≤acc.length+0 * (B+2);omega
 | t::r,k,acc,h=>by
   have h1:=Zaf B r (k+1) (acc++(if k > 0 then ", " else "":String)++t) fun x hx=>h x (List.mem_cons_of_mem _ hx)
   have h2:=h t List.mem_cons_self
   rw [Yz,Yz] at h1
   have h3:(Str.ofString (if k > 0 then ", " else "":String)).length≤2:=by split<;>decide
   show (textFrom (k+1) (acc++(if k > 0 then ", " else "":String)++t) r).length≤acc.length+(r.length+1) * (B+2)
   rw [Nat.add_mul,Nat.one_mul]
   omega
theorem Zcd {i:Int}(h:i.natAbs≤10 ^ 31):i.natAbs.log2 < 1920∧(Str.ofString (toString i)).length≤40:=by
 constructor
 · by_cases z:i.natAbs=0
   · rw [z];decide
   · exact (Nat.log2_lt z).mpr (Nat.lt_of_le_of_lt h (by decide +kernel))
 · have e:=int_text_length_le10 (a:=i) (k:=32) (by decide) (Nat.lt_of_le_of_lt h (by decide))
   rw [Xb,PyProof.Rows.signs_ofString,List.length_map,String.length_toList]
   omega
theorem ZdJ (q c:Nat)(h:c < 128):(Builtin.Str.reprChar q c).length≤4:=by
 by_cases e:(c == q || c == 92)=true
 · unfold Builtin.Str.reprChar;simp only [e,if_true];show 2≤4;decide
 · have e2:(c == 200 || c == 92)=false:=by
     simp only [Bool.or_eq_true,not_or,beq_iff_eq] at e
     simp only [Bool.or_eq_false_iff,beq_eq_false_iff_ne]
     exact ⟨by omega,e.2⟩
   have z:Builtin.Str.reprChar q c=Builtin.Str.reprChar 200 c:=by
     unfold Builtin.Str.reprChar
     simp only [Bool.not_eq_true] at e
     simp only [e,e2]
   rw [z]
   have all:∀ c:_root_.Fin 128,(Builtin.Str.reprChar 200 c.val).length≤4:=by decide +kernel
   exact all ⟨c,h⟩
theorem ZhW {x:Str}(h:∀ c∈x.cps.toList,c < 128):(reprText x).length≤2+4 * x.length:=by
 rw [← reprLen_eq,← Array.foldl_toList,Xb]
 have gen:∀ (l:List Nat) (n:Nat),(∀ c∈l,c < 128)→l.foldl (fun n c=>n+(Builtin.Str.reprChar (reprQuote x) c).length) n≤n+4 * l.length:=by
   intro l
   induction l with
   | nil=>intro n _;simp
   | cons c r ih =>
     intro n hc
     have h1:=ZdJ (reprQuote x) c (hc c List.mem_cons_self)
     have h2:=ih (n+(Builtin.Str.reprChar (reprQuote x) c).length) fun d hd=>hc d (List.mem_cons_of_mem _ hd)
     rw [List.foldl_cons,List.length_cons]
     omega
 exact gen _ _ h
def NvV (v:V):Prop:=v=.non∨Ye v
def ZfA:V→PyData
 | .int i=>.int i
 | .str x=>.str x
 | _=>.none
theorem ZkE {H:Hp}{v:V}(h:NvV v):DataOf H v (ZfA v):=by
 rcases h with rfl | h
 · exact .non
 · cases v<;>first | exact .int _ | exact .str _ | exact h.elim
structure Sml (d:PyData)(n k:Nat):Prop where
 sh:d.showable=true
 ln:d.shown.length≤n
 dp:d.depth≤k
theorem Zck {x:Str}{n:Nat}(h:∀ c∈x.cps.toList,c < 128)(hl:2+4 * x.length≤n)(k:Nat):Sml (.str x) n k:=⟨rfl,Nat.le_trans (ZhW h) hl,Nat.zero_le _⟩
theorem ZgR {v:V}(h:NvV v)(k:Nat):Sml (ZfA v) 200 k:=by
 rcases h with rfl | h
 · exact ⟨rfl,by show 4≤200;decide,Nat.zero_le _⟩
 · cases v with
   | int i =>
     obtain ⟨h1,h2⟩:=Zcd (show i.natAbs≤10 ^ 31 from h)
     exact ⟨decide_eq_true h1,Nat.le_trans h2 (by decide),Nat.zero_le _⟩
   | str x =>
     refine Zck (fun c hc=>?_) (by have:x.length≤41:=h.1;omega) k
     have:=List.all_eq_true.mp h.2 c hc
     unfold sgn at this
     simp only [Bool.and_eq_true,decide_eq_true_eq] at this
     omega
   | _=>exact h.elim
theorem ZdW {x:Str}(h:Yx x)(k:Nat):Sml (.str x) 40 k:=by
 refine Zck (fun c hc=>?_) (by have:=h.2.1;omega) k
 have:=List.all_eq_true.mp h.2.2 c hc
 unfold YJ at this
 simp only [Bool.and_eq_true,decide_eq_true_eq] at this
 omega
theorem XQ:∀ ds:List PyData,PyData.shownAll ds=ds.map PyData.shown
 | []=>rfl
 | d::r=>by rw [PyData.shownAll,XQ r];rfl
theorem Wi:∀{ds:List PyData},(∀ d∈ds,d.showable=true)→PyData.showableAll ds=true
 | [],_=>rfl
 | d::r,h=>by rw [PyData.showableAll,h d List.mem_cons_self,Wi fun e he=>h e (List.mem_cons_of_mem _ he)];rfl
theorem Uf {k:Nat}:∀{ds:List PyData},(∀ d∈ds,d.depth≤k)→PyData.depthAll ds≤k
 | [],_=>Nat.zero_le _
 | d::r,h=>by
   have h1:=h d List.mem_cons_self
   have h2:=Uf (k:=k) (ds:=r) fun e he=>h e (List.mem_cons_of_mem _ he)
   simp [PyData.depthAll];omega
theorem Zjh {ds:List PyData}{n k:Nat}(h:∀ d∈ds,Sml d n k):Sml (.list ds) (2+ds.length * (n+2)) (k+1):=by
 refine ⟨Wi fun d hd=>(h d hd).sh,?_,?_⟩
 · show (listText (PyData.shownAll ds)).length≤_
   rw [XQ]
   show (textFrom 0 "[" (ds.map PyData.shown)++Str.ofString "]").length≤_
   rw [Yz]
   have z:=Zaf n (ds.map PyData.shown) 0 "[" (fun t ht=>by
     obtain ⟨d,hd,rfl⟩:=List.mem_map.mp ht
     exact (h d hd).ln)
   rw [List.length_map] at z
   have z1:(Str.ofString "[").length=1:=by decide
   have z2:(Str.ofString "]").length=1:=by decide
   have z3:(textFrom 0 "[" (ds.map PyData.shown)).length≤1+ds.length * (n+2):=by rw [← z1];exact z
   omega
 · have:=Uf (k:=k) fun d hd=>(h d hd).dp
   show PyData.depthAll ds+1≤_
   omega
theorem ZaC {a b:PyData}{n m k:Nat}(h1:Sml a n k)(h2:Sml b m k):Sml (.tuple [a,b]) (4+n+m) (k+1):=by
 refine ⟨?_,?_,?_⟩
 · show PyData.showableAll [a,b]=true
   simp [PyData.showableAll,h1.sh,h2.sh]
 · show (tupleText [a.shown,b.shown]).length≤_
   have e:(tupleText [a.shown,b.shown]).length=1+(a.shown.length+2+b.shown.length)+1:=by
     show ((Str.ofString "("++((a.shown++Str.ofString ", ")++b.shown))++Str.ofString ")").length=_
     rw [Yz,Yz,Yz,Yz];rfl
   have:=h1.ln
   have:=h2.ln
   omega
 · have:=h1.dp
   have:=h2.dp
   show PyData.depthAll [a,b]+1≤_
   simp [PyData.depthAll];omega
def XT (p:Str×V):PyData:=.tuple [.str p.1,ZfA p.2]
theorem Zbj {H:Hp}:∀{ts:List Addr}{ps:Zu},PairT H ts ps→(∀ p∈ps,Ye p.2)→DatasOf H (ts.map V.ref) (ps.map XT)
 | [],[],_,_=>.nil
 | [],_::_,h,_=>by cases h.1
 | _::_,[],h,_=>by cases h.1
 | t::ts,p::ps,h,hv=>.cons (.tup (h.2 0 t p rfl rfl) (.cons (.str _) (.cons (ZkE (.inr (hv p List.mem_cons_self))) .nil))) (Zbj ⟨by simpa using h.1,fun i a q e1 e2=>h.2 (i+1) a q e1 e2⟩ fun q hq=>hv q (List.mem_cons_of_mem _ hq))
theorem Zbz {H:Hp}{a:Addr}{ts:List Addr}{ps:Zu}(e:H a=some (.lst (ts.map V.ref)))(h:PairT H ts ps)(hn:∀ p∈ps,Yx p.1)(hv:∀ p∈ps,Ye p.2)(hl:ps.length≤1000):DataOf H (.ref a) (.list (ps.map XT))∧(PyData.list (ps.map XT)).showable=true∧(PyData.list (ps.map XT)).shown.length≤sizeLine∧(PyData.list (ps.map XT)).depth≤60:=by
 have s:=Zjh (ds:=ps.map XT) (n:=244) (k:=1) fun d hd=>by
   obtain ⟨p,hp,rfl⟩:=List.mem_map.mp hd
   exact ZaC (n:=40) (m:=200) (k:=0) (ZdW (hn p hp) 0) (ZgR (.inr (hv p hp)) 0)
 refine ⟨.lst e (Zbj h hv),s.sh,Nat.le_trans s.ln ?_,Nat.le_trans s.dp (by decide)⟩
 rw [List.length_map]
 have:ps.length * (244+2)≤1000 * 246:=Nat.mul_le_mul_right _ hl
 rw [sizeLine_eq];omega
theorem ZiL {x y:Str}(h:x.cps.toList=y.cps.toList):x=y:=by
 cases x;cases y
 congr 1
 exact Array.toList_inj.mp h
theorem Zan {ps qs:Zu}(hp:YB ps)(hq:YB qs)(np:(ps.map (·.1)).Nodup)(nq:(qs.map (·.1)).Nodup)(h:∀ z,z∈ps↔z∈qs):ps=qs:=by
 have nd:∀ {l:Zu},(l.map (·.1)).Nodup→l.Nodup:=fun h=>(List.pairwise_map.mp h).imp fun a b=>a (by rw [b])
 have P:ps.Perm qs:=(List.perm_ext_iff_of_nodup (nd np) (nd nq)).mpr h
 refine P.eq_of_pairwise (le:=fun (p q:Str×V)=>¬ (q.1.cps.toList < p.1.cps.toList)) (fun a b ha hb h1 h2=>?_) (show ps.Pairwise _ from hp) (show qs.Pairwise _ from hq)
 have e:a.1=b.1:=ZiL (List.le_antisymm (List.not_lt.mp h1) (List.not_lt.mp h2))
 have inj:∀ {l:Zu},(l.map (·.1)).Nodup→∀ a∈l,∀ b∈l,a.1=b.1→a=b:=by
   intro l hl a ha b hb e
   obtain ⟨i,hi,ea⟩:=List.mem_iff_getElem.mp ha
   obtain ⟨j,hj,eb⟩:=List.mem_iff_getElem.mp hb
   have:i=j:=Zdf (l:=l.map (·.1)) (i:=i) (j:=j) (hi:=by rw [List.length_map];exact hi) (hj:=by rw [List.length_map];exact hj) hl (by rw [List.getElem_map,List.getElem_map,ea,eb,e])
   subst this
   rw [← ea,← eb]
 exact inj nq a (P.mem_iff.mp ha) b hb e
end L2
set_option maxHeartbeats 4000000
namespace K14
open PySem L2
def PsOf (NS:List Str)(F:Str→Option V)(lev r:Nat)(ps:Zu):Prop:=(ps.map (·.1)).Nodup∧∀ x v,(x,v)∈ps↔x∈NS∧ZL x % 4 ^ lev=r∧F x=some v
def PsTo (NS:List Str)(F:Str→Option V)(lev r i:Nat)(ps:Zu):Prop:=(ps.map (·.1)).Nodup∧∀ x v,(x,v)∈ps↔x∈NS∧ZL x % 4 ^ lev=r∧ZL x / 4 ^ lev % 4 < i∧F x=some v
theorem key_mem {ps:Zu}{x:Str}:x∈ps.map (·.1)↔∃ v,(x,v)∈ps:=by
 rw [List.mem_map]
 exact ⟨fun ⟨⟨a,v⟩,h,e⟩=>⟨v,by cases e;exact h⟩,fun ⟨v,h⟩=>⟨_,h,rfl⟩⟩
section
variable {NS:List Str}{F:Str→Option V}{lev r:Nat}
theorem PsTo.zero:PsTo NS F lev r 0 []:=⟨List.nodup_nil,fun x v=>⟨(fun h=>nomatch h),fun h=>absurd h.2.2.1 (Nat.not_lt_zero _)⟩⟩
theorem PsTo.step {i:Nat}{ps qs:Zu}(h:PsTo NS F lev r i ps)(hr:r < 4 ^ lev)(g:PsOf NS F (lev+1) (r+i * 4 ^ lev) qs):PsTo NS F lev r (i+1) (ps++qs):=by
 have inv:∀ {n:Nat},n % 4 ^ (lev+1)=r+i * 4 ^ lev↔n % 4 ^ lev=r∧n / 4 ^ lev % 4=i:=fun {n}=>⟨fun z=>Yq hr z,fun ⟨z1,z2⟩=>by rw [YK,z1,z2]⟩
 refine ⟨?_,fun x v=>?_⟩
 · rw [List.map_append,List.nodup_append]
   refine ⟨h.1,g.1,fun a ha b hb e=>?_⟩
   subst e
   obtain ⟨u,hu⟩:=key_mem.mp ha
   obtain ⟨v,hv⟩:=key_mem.mp hb
   have h1:=((h.2 _ _).mp hu).2.2.1
   have h2:=(inv.mp ((g.2 _ _).mp hv).2.1).2
   omega
 · rw [List.mem_append,h.2,g.2,inv]
   constructor
   · rintro (⟨h1,h2,h3,h4⟩ | ⟨h1,⟨h2,h3⟩,h4⟩)
     · exact ⟨h1,h2,by omega,h4⟩
     · exact ⟨h1,h2,by omega,h4⟩
   · rintro ⟨h1,h2,h3,h4⟩
     by_cases z:ZL x / 4 ^ lev % 4 < i
     · exact .inl ⟨h1,h2,z,h4⟩
     · exact .inr ⟨h1,⟨h2,by omega⟩,h4⟩
theorem PsTo.done {ps:Zu}(h:PsTo NS F lev r 4 ps):PsOf NS F lev r ps :=
 ⟨h.1,fun x v=>by rw [h.2];exact ⟨fun ⟨a,b,_,c⟩=>⟨a,b,c⟩,fun ⟨a,b,c⟩=>⟨a,b,Nat.mod_lt _ (by decide),c⟩⟩⟩
theorem Zhv (h:∀ x∈NS,ZL x % 4 ^ lev=r→F x=none):PsOf NS F lev r []:=⟨List.nodup_nil,fun x v=>⟨(fun h=>nomatch h),fun ⟨a,b,c⟩=>by rw [h x a b] at c;cases c⟩⟩
theorem Zgq {m:Int}{ps:Zu}(G:LeafG NS m ps)(hm:m.toNat % 4 ^ lev=r)(hF:∀ x∈NS,ZL x % 4 ^ lev=r→F x=lk ps x):PsOf NS F lev r ps:=by
 refine ⟨G.nd,fun x v=>⟨fun h=>?_,fun ⟨h1,h2,h3⟩=>?_⟩⟩
 · have h1:=G.sub _ h
   have h2:ZL x % 4 ^ lev=r:=by unfold ZL;rw [G.mrk _ h];exact hm
   exact ⟨h1,h2,by rw [hF x h1 h2];exact (Yf G.nd).mpr h⟩
 · rw [hF x h1 h2] at h3
   exact (Yf G.nd).mp h3
theorem PsOf.few {ps:Zu}(h:PsOf NS F lev r ps):ps.length≤NS.length:=by
 have:=Xi h.1 (N:=NS) fun x hx=>by obtain ⟨v,hv⟩:=key_mem.mp hx;exact ((h.2 _ _).mp hv).1
 rwa [List.length_map] at this
end
section
variable {P:Program}{w:World}{K:KF}{mg:Str→Option Value}{base:Heap}{C Pp:Addr}{NS:List Str}
def ZaE (K:KF)(C:Addr)(NS:List Str):Nat→Sp
 | 0=>fun _ _ _ _=>False
 | d+1=>fun vs H Q _=>∃ (st ln dt:Addr) (nds:List Nd) (tabs:ZH) (num lev r:Nat) (F:Str→Option V),vs=[.ref st,iN num]∧StoreAt K C st ln dt H nds tabs∧Tri NS nds F d lev r num∧r < 4 ^ lev ∧
   ∀ (l:Addr) (H':Hp) (ts:List Addr) (ps:Zu),H l=none→Same H H'→H' l=some (.lst (ts.map V.ref))→PairT H' ts ps→PsOf NS F lev r ps→Q (.ref l) H'
theorem ZgZ {H:Hp}{ts us:List Addr}{ps qs:Zu}(h:PairT H ts ps)(g:PairT H us qs):PairT H (ts++us) (ps++qs):=by
 refine ⟨by rw [List.length_append,List.length_append,h.1,g.1],fun i a p e1 e2=>?_⟩
 by_cases hi:i < ts.length
 · rw [List.getElem?_append_left hi] at e1
   rw [List.getElem?_append_left (by rw [← h.1];exact hi)] at e2
   exact h.2 i a p e1 e2
 · rw [List.getElem?_append_right (by omega)] at e1
   rw [List.getElem?_append_right (by rw [← h.1];omega),← h.1] at e2
   exact g.2 _ a p e1 e2
abbrev nPB:List Str:=["self","number","node","told","part"]
abbrev UQ:List Str:=["self","number"]
theorem scPB:Zw nPB UQ (Zn c_Store_pairs_below):=⟨rfl,rfl,rfl,by decide +kernel,rfl,by decide +kernel,by decide +kernel⟩
theorem Zmt {f:Addr}{fd:FuncData}{d k:Nat}(N:ZN NS)(hk:1≤k)(F:Fun K "pairs_below" "Store.pairs_below" c_Store_pairs_below f fd)(T:Txt K mg)(TC:Yv K C)
   (DR:Def P w K mg base 1 "pairs_in" ["node"] (Xs K)) (DP:Def P w K mg base 1 "parts_in" ["node"] (Xr K))
   (DS_pairs_below:DefM P w K mg base k C "pairs_below" UQ (ZaE K C NS d)):FnOk P w K mg base ZK (k+1) f fd UQ (ZaE K C NS (d+1)):=by
 refine F.ok scPB (fun vs H Q E h=>?_) (fun cdv A outer s H vs Q E hr h=>?_)
 · obtain ⟨st,ln,dt,nds,tabs,num,lev,r,F,rfl,_⟩:=h;rfl
 obtain ⟨st,ln,dt,nds,tabs,num,lev,r,Fm,rfl,S,htri,hrl,q⟩:=h
 have hr1:=hr.mono hk
 refine' ⟨?t,?h,?r⟩
 case h =>
   conv=>arg 2;whnf
   with_reducible refine' (Ze ?h1 (Ze ?h2 (Ze (XF ?h3 ?h4 ?h5 ?h6 (Zj ?h7) ?h8) (Zj ?h9))))
   case h1=>exact Zs (i:=2) scPB.nd rfl (Or.inl rfl) (ZB ZI (YN (pv 0) rfl) (pv 1) (fun _ _=>rfl))
   case h2=>exact Zs (i:=3) scPB.nd rfl (Or.inl rfl) (ZX WH rfl T.list (by decide +kernel) (Zc (Zx DR hr1 (Zc (pv 2) Za)) Za))
   case h3=>exact PassesOwn.never
   case h4=>exact rfl
   case h5=>exact Zbh (Zx DP hr1 (Zc (pv 2) Za))
   case h6=>exact Yp (i:=4) scPB.nd rfl (Or.inl rfl)
   case h7=>exact XM (UO PySem.F.plainAttrs_list PySem.F.slot_list_extend PySem.F.type_list_extend ZcQ (pv 3) (Zc (Yc DS_pairs_below TC.cl hr (pv 0) (Zc (pv 4) Za)) Za))
   case h8=>exact fun _=>rfl
   case h9=>exact Zt (pv 3)
 obtain ⟨n,hn,_⟩:=XJ htri
 obtain ⟨as,a,nl,ha,hna⟩:=S.node hn
 obtain ⟨dx,ob⟩:=S.ob
 refine ⟨_,rfl,st,C,dx,_,_,rfl,ob,TC.cl,TC.nN,Xh ln dt,_,rfl,ln,_,_,_,rfl,rfl,SqL.of nl,ZT (by rw [List.getElem?_map,ha];rfl),?_⟩
 refine ⟨_,rfl,a,n,rfl,hna,fun pt H1 s1 hpt=>?_⟩
 obtain ⟨o,ts,ept,hod,hPT⟩:=hpt
 refine ⟨pt,_,rfl,.inr (.inl (.inr ⟨o,ept⟩)),fun l hl=>?_⟩
 have hlH:H l=none:=Uc s1 hl
 have s2:=Zm hl (.lst (ts.map V.ref))
 refine ⟨_,rfl,a,n,rfl,hna.tf (s1.trans s2).tf,fun pa H3 s3 hpa=>?_⟩
 have s03:Same H H3:=(s1.trans s2).trans s3
 refine ⟨pa,rfl,⟨_,hpa⟩,?_⟩
 have hlen:∀ {lev' r':Nat} {ps:Zu},PsOf NS Fm lev' r' ps→ps.length≤63:=fun h=>by have:=h.few;have:=N.few;omega
 have ends:n.parts=[]→PsOf NS Fm lev r n.pairs:=fun z=>by
   have e:TriE NS nds Fm lev r num→PsOf NS Fm lev r n.pairs:=fun g=>by
     rcases g with ⟨_,h2,h3⟩ | ⟨m,ps,h1,G,hm,hF⟩
     · rw [hn] at h2;cases h2;exact Zhv h3
     · rw [hn] at h1;cases h1;exact Zgq G hm hF
   cases d with
   | zero=>exact e htri
   | succ d =>
     rcases htri with h | ⟨qs,h1,h2,_⟩
     · exact e h
     · rw [hn] at h1;cases h1
       rw [show qs=[] from z] at h2;cases h2
 refine ZkR (K:=K) (xs:=n.parts.map fun q:Nat=>V.int (q:Int)) (fun i σ H'=>∃ (y:Option V) (us:List Addr) (ps:Zu),σ=[some (.ref st),some (iN num),some (.ref a),some (.ref l),y]∧Same H H'∧Same H1 H'∧SqT K H' pa (n.parts.map fun q:Nat=>V.int (q:Int))∧H' l=some (.lst (us.map V.ref))∧PairT H' us ps∧(n.parts=[]→ps=n.pairs)∧(n.parts≠[]→PsTo NS Fm lev r i ps))
   ⟨_,ts,n.pairs,rfl,s03,s2.trans s3,hpa,s3 _ _ Zg,(hPT.tf s2.tf).tf s3.tf,fun _=>rfl,fun z=>?_⟩ (fun i σ H' _ h=>?_) ?_ ?_
 · cases n with
   | bare=>exact absurd rfl z
   | leaf m ps=>exact absurd rfl z
   | fork qs=>exact PsTo.zero
 · obtain ⟨_,_,_,_,_,_,h,_⟩:=h;exact h
 · rintro i x σ H4 hx ⟨y,us,ps,rfl,s4,s14,hpa4,el4,hpt4,hb4,hf4⟩
   rw [List.getElem?_map] at hx
   cases eq1:n.parts[i]? with
   | none=>rw [eq1] at hx;cases hx
   | some q1 =>
     rw [eq1] at hx
     cases (show some (V.int (q1:Int))=some x from hx)
     have hne:n.parts≠[]:=fun z=>by rw [z] at eq1;simp at eq1
     have hto:=hf4 hne
     cases n with
     | bare=>exact absurd rfl hne
     | leaf m ps=>exact absurd rfl hne
     | fork qs =>
       cases d with
       | zero =>
         rcases htri with ⟨_,h2,_⟩ | ⟨m,ps,h1,_⟩
         · rw [hn] at h2;cases h2
         · rw [hn] at h1;cases h1
       | succ d =>
         rcases htri with h | ⟨qs',h1,h2,h3⟩
         · rcases h with ⟨_,h2,_⟩ | ⟨m,ps,h1,_⟩
           · rw [hn] at h2;cases h2
           · rw [hn] at h1;cases h1
         · rw [hn] at h1;cases h1
           have tq:=h3 i q1 eq1
           have hi4:i < 4:=by rw [← h2];exact (List.getElem?_eq_some_iff.mp eq1).1
           have S4:=S.keep s4
           obtain ⟨dx4,ob4⟩:=S4.ob
           refine ⟨_,rfl,.inl ⟨rfl,_,SqL.of el4⟩,_,rfl,st,dx4,_,rfl,ob4,ZC ln dt,_,rfl,?_⟩
           refine ⟨st,ln,dt,nds,tabs,q1,lev+1,r+i * 4 ^ lev,Fm,rfl,S4,tq,YH hrl hi4,fun l2 H5 us2 ps2 hl2 s5 el5 hpt5 hps5=>?_⟩
           have nl2:l2≠l:=fun z=>by rw [z,el4] at hl2;cases hl2
           have el45:=s5 _ _ el4
           have b1:=hlen hps5
           have b2:ps.length≤63:=by
             have h1:=Xi hto.1 (N:=NS) fun x hx=>by obtain ⟨v,hv⟩:=key_mem.mp hx;exact ((hto.2 _ _).mp hv).1
             rw [List.length_map] at h1
             have:=N.few
             omega
           refine ⟨l,l2,_,_,rfl,rfl,el45,el5,by rw [List.length_map,List.length_map,hpt4.1,hpt5.1];exact small (show _≤200 by omega),?_⟩
           have tf5:=VL (o:=.lst (us.map V.ref++us2.map V.ref)) el45
           refine ⟨_,us++us2,ps++ps2,rfl,fun b o e=>?_,fun b o e=>?_,(hpa4.tf s5.tf).tf tf5,?_,ZgZ ((hpt4.tf s5.tf).tf tf5) (hpt5.tf tf5),fun z=>absurd z hne,fun _=>hto.step hrl hps5⟩
           · rw [Zh (Zp e hlH)];exact s5 _ _ (s4 _ _ e)
           · rw [Zh (Zp e hl)];exact s5 _ _ (s14 _ _ e)
           · rw [List.map_append];exact Zg
 · rintro σ H4 ⟨y,us,ps,rfl,s4,s14,hpa4,el4,hpt4,hb4,hf4⟩
   refine ⟨_,rfl,q l H4 us ps hlH s4 el4 hpt4 ?_⟩
   by_cases z:n.parts=[]
   · rw [hb4 z];exact ends z
   · have h4:=hf4 z
     rw [List.length_map] at h4
     cases n with
     | bare=>exact absurd rfl z
     | leaf m ps=>exact absurd rfl z
     | fork qs =>
       obtain ⟨_,_,_,hl4⟩:=hna
       rw [show (Nd.fork qs).parts.length=4 from hl4] at h4
       exact h4.done
theorem ZgS {f:Addr}{fd:FuncData}(N:ZN NS)(F:Fun K "pairs_below" "Store.pairs_below" c_Store_pairs_below f fd)(T:Txt K mg)(TC:Yv K C)(DR:Def P w K mg base 1 "pairs_in" ["node"] (Xs K))(DP:Def P w K mg base 1 "parts_in" ["node"] (Xr K))
   (b:Binds K fd UQ []) (mt:Vs K C "pairs_below" f):∀ d,FnOk P w K mg base ZK (1+d) f fd UQ (ZaE K C NS d)
 | 0=>F.ok scPB (fun _ _ _ _ h=>h.elim) (fun _ _ _ _ _ _ _ _ _ h=>h.elim)
 | d+1=>Zmt N (Nat.le_add_right 1 d) F T TC DR DP ⟨f,fd,ZgS N F T TC DR DP b mt d,b,mt⟩
def ZkI:Stmt→Pos
 | .Return (some (.Call _ _ [⟨_,.Lambda _ _ _ p,_⟩] _)) _=>p
 | _=>⟨0,0,0,0⟩
def Xe:Pos:=ZkI ((Xu c_Store_pairs).getD 1 (.Pass ⟨0,0,0,0⟩))
def Xp:Str:=(("Store.pairs":Str)++".<locals>.")++"<lambda>"
def UV (K:KF)(C Pp:Addr)(NS:List Str):Sp:=fun vs H Q _=>∃(st ln dt:Addr)(nds:List Nd)(tabs:ZH)(t:Nat)(F:Str→Option V),vs=[.ref st,iN t]∧StoreAt K C st ln dt H nds tabs∧(ZA tabs (Sum.inl (t:Int))).isSome=true∧Tri NS nds F 5 0 0 t∧LamAt H Pp Xe Xp ∧
 ∀ (l:Addr) (H':Hp) (ts:List Addr) (ps:Zu),H l=none→Grown Pp H H'→LamAt H' Pp Xe Xp→H' l=some (.lst (ts.map V.ref))→PairT H' ts ps→PsOf NS F 0 0 ps→YB ps→Q (.ref l) H'
abbrev nPs:List Str:=["self","table"]
abbrev ZbV:List Str:=["self","table"]
theorem scPs:Zw nPs ZbV (Zn c_Store_pairs):=⟨rfl,rfl,rfl,by decide +kernel,rfl,by decide +kernel,by decide +kernel⟩
theorem ZcC {f c Pl:Addr}{fd:FuncData}(N:ZN NS)(F:FunC K "pairs" "Store.pairs" c_Store_pairs f fd c Pl)(T:Txt K mg)(TC:Yv K C)(hBm:Um base mg)(DS_check_table:DefM P w K mg base 7 C "check_table" ["self","table"] (VU K C))
   (DS_pairs_below:DefM P w K mg base 7 C "pairs_below" UQ (ZaE K C NS 6)):FnOk P w K mg base ZK 8 f fd ZbV (UV K C Pl NS):=by
 refine F.ok scPs (fun vs H Q E h=>?_) (fun A outer s H vs Q E hr h=>?_)
 · obtain ⟨st,ln,dt,nds,tabs,t,F,rfl,_⟩:=h;rfl
 obtain ⟨st,ln,dt,nds,tabs,t,Fm,rfl,S,htab,htri,hL,q⟩:=h
 refine' ⟨?t,?h,?r⟩
 case h =>
   conv=>arg 2;whnf
   with_reducible refine' (Ze ?h1 (Zj ?h2))
   case h1=>exact XM (Yc DS_check_table TC.cl hr (pv 0) (Zc (pv 1) Za))
   case h2=>exact Zt (Zdr (c:=c) (Pl:=Pl) rfl T.sorted (Yc DS_pairs_below TC.cl hr (pv 0) (Zc (pv 1) Za)) hr rfl F.hd hBm)
 obtain ⟨dx,ob⟩:=S.ob
 refine ⟨_,rfl,st,dx,_,rfl,ob,ZC ln dt,_,rfl,st,ln,dt,nds,tabs,t,rfl,S,htab,?_⟩
 refine ⟨_,rfl,st,dx,_,rfl,ob,ZC ln dt,_,rfl,st,ln,dt,nds,tabs,t,0,0,Fm,rfl,S,htri,by decide,fun l1 H1 ts ps hl1 s1 el1 hpt hps=>?_⟩
 have hpl:ps.length≤63:=by have:=hps.few;have:=N.few;omega
 refine ⟨l1,ts,ps.map (·.1),rfl,el1,by rw [hpt.1];omega,by rw [List.length_map,hpt.1],fun i a k e1 e2=>?_,LamAt.same hL s1,fun H2 l ts' gr hL2 hl hO=>?_⟩
 · rw [List.getElem?_map] at e2
   cases e3:ps[i]? with
   | none=>rw [e3] at e2;cases e2
   | some p =>
     rw [e3] at e2
     cases (show some p.1=some k from e2)
     exact ⟨_,hpt.2 i a p e1 e3⟩
 · obtain ⟨tb,etb⟩:=(LamAt.same hL s1).tbl
   have hpt2:=hpt.tf (gr.tf etb)
   obtain ⟨ps',hp1,hp2,hp3⟩:=Zbg hpt2 hO
   have hlH:H l=none:=by
     cases e:H l with
     | none=>rfl
     | some o =>
       have e1:=s1 _ _ e
       by_cases z:l=Pl
       · obtain ⟨tb2,etb2⟩:=hL2.tbl;rw [z,etb2] at hl;cases hl
       · rw [gr _ _ z e1] at hl;cases hl
   have s3:=Zm hl (.lst (ts'.map V.ref))
   refine q l _ ts' ps' hlH (fun b o nb e=>s3 _ _ (gr b o nb (s1 _ _ e))) (LamAt.same hL2 s3) Zg (hp3.tf s3.tf) ⟨(hp1.map (·.1)).nodup_iff.mpr hps.1,fun x v=>by rw [hp1.mem_iff];exact hps.2 x v⟩ hp2
def ZeY (K:KF)(C Pp:Addr)(NS:List Str):Sp:=fun vs H Q _=>∃(st ln dt:Addr)(nds:List Nd)(tabs:ZH)(t:Nat)(F:Str→Option V),vs=[.ref st,iN t]∧StoreAt K C st ln dt H nds tabs∧(ZA tabs (Sum.inl (t:Int))).isSome=true∧Tri NS nds F 5 0 0 t∧LamAt H Pp Xe Xp ∧
 ∀ (H':Hp) (ps:Zu),Grown Pp H H'→LamAt H' Pp Xe Xp→PsOf NS F 0 0 ps→Q (.int (ps.length:Int)) H'
abbrev nMn:List Str:=["self","table"]
abbrev Zft:List Str:=["self","table"]
theorem scMn:Zw nMn Zft (Zn c_Store_many):=⟨rfl,rfl,rfl,by decide +kernel,rfl,by decide +kernel,by decide +kernel⟩
theorem ZhZ {f:Addr}{fd:FuncData}(F:Fun K "many" "Store.many" c_Store_many f fd)(T:Txt K mg)(TC:Yv K C)(DS_pairs:DefM P w K mg base 8 C "pairs" ZbV (UV K C Pp NS)):FnOk P w K mg base ZK 9 f fd Zft (ZeY K C Pp NS):=by
 refine F.ok scMn (fun vs H Q E h=>?_) (fun cdv A outer s H vs Q E hr h=>?_)
 · obtain ⟨st,ln,dt,nds,tabs,t,F,rfl,_⟩:=h;rfl
 obtain ⟨st,ln,dt,nds,tabs,t,Fm,rfl,S,htab,htri,hL,q⟩:=h
 refine' ⟨?t,?h,?r⟩
 case h =>
   conv=>arg 2;whnf
   with_reducible refine' (Zj ?h1)
   case h1=>exact Zt (ZD ZV rfl T.len PySem.boot_len (Zc (Yc DS_pairs TC.cl hr (pv 0) (Zc (pv 1) Za)) Za))
 obtain ⟨dx,ob⟩:=S.ob
 refine ⟨_,rfl,st,dx,_,rfl,ob,ZC ln dt,_,rfl,st,ln,dt,nds,tabs,t,Fm,rfl,S,htab,htri,hL,fun l H' ts ps _ gr hL' el hpt hps _=>?_⟩
 refine ⟨l,_,rfl,.inl (SqL.of el),?_⟩
 rw [List.length_map,hpt.1]
 exact q H' ps gr hL' hps
end
end K14
set_option maxHeartbeats 2000000
namespace L2
open PySem
def YA (K:KF)(C:Addr)(nds:List Nd)(tabs:ZH):YO:=fun st h=>nds[0]?=some .bare∧∃ ln dt,StoreAt K C st ln dt h nds tabs
def Zec (lp:Pos)(q:Str):YO:=fun Pl h=>LamAt h Pl lp q
instance {K:KF} {C:Addr} {nds:List Nd} {tabs:ZH}:Up (YA K C nds tabs):=⟨fun ⟨h0,ln,dt,h⟩ s=>⟨h0,ln,dt,h.keep s⟩⟩
theorem LamAt.same' {H H':Hp}{Pl:Addr}{lp:Pos}{q:Str}(h:LamAt H Pl lp q)(s:Same H H'):LamAt H' Pl lp q:=by
 rcases h with h | ⟨c,h1,h2⟩
 · exact .inl (s _ _ h)
 · exact .inr ⟨c,s _ _ h1,s _ _ h2⟩
def some_of (H:Hp)(L:List Addr):Hp:=fun b=>if b∈L then H b else match H b with
 | some o=>if Yw o=true then none else some o
 | none=>none
theorem Wf {H:Hp}{L:List Addr}:Same (some_of H L) H:=fun b o e=>by
 unfold some_of at e
 split at e
 · exact e
 · split at e
   · rename_i o' h'
     split at e
     · cases e
     · cases e;exact h'
   · cases e
theorem XO {H:Hp}{L:List Addr}{b:Addr}(h:b∈L):some_of H L b=H b:=by unfold some_of;rw [if_pos h]
theorem WD {H:Hp}{L:List Addr}{b:Addr}{o:HO}(e:H b=some o)(m:Yw o=false):some_of H L b=some o:=by
 unfold some_of
 split
 · exact e
 · simp only [e,m,Bool.false_eq_true,if_false]
theorem XH {H:Hp}{L:List Addr}{b:Addr}{o:HO}(e:some_of H L b=some o)(m:Yw o=true):b∈L:=by
 unfold some_of at e
 split at e
 · assumption
 · split at e
   · split at e
     · cases e
     · rename_i h;cases e;exact absurd m h
   · cases e
theorem ZeE {H:Hp}{L:List Addr}:TF H (some_of H L):=⟨fun b xs e=>WD e rfl,fun b o u e=>WD e rfl⟩
theorem Sep.stoLam {K:KF}{C st Pl:Addr}{lp:Pos}{q:Str}{nds:List Nd}{tabs:ZH}{Δ:Rs}{H:Hp}(S:Sep ((st,YA K C nds tabs)::(Pl,Zec lp q)::Δ) H) :
   ∃ ln dt,StoreAt K C st ln dt H nds tabs∧nds[0]?=some .bare∧LamAt H Pl lp q∧∀ H' nds' tabs',StoreAt K C st ln dt H' nds' tabs'→nds'[0]?=some .bare→LamAt H' Pl lp q→Kq [ln,dt,Pl] H H'→Sep ((st,YA K C nds' tabs')::(Pl,Zec lp q)::Δ) H':=by
 obtain ⟨h1,l1,⟨b0,ln,dt,r1⟩,h2,l2,r2,S⟩:=S
 have r2':LamAt h2 Pl lp q:=r2
 refine ⟨ln,dt,r1.keep l1,b0,(LamAt.same' r2' l2).same' ZdG,fun H' nds' tabs' S' b0' L' kq=>?_⟩
 obtain ⟨tb,etb⟩:=r2'.tbl
 obtain ⟨tb',etb'⟩:=L'.tbl
 obtain ⟨dx,ob⟩:=r1.ob
 obtain ⟨as,nl,_⟩:=r1.nl
 obtain ⟨dx',ob'⟩:=S'.ob
 obtain ⟨as',nl',nlen',nod'⟩:=S'.nl
 have nPl:Pl ∉ [st,ln,dt]:=fun z=>by
   simp only [List.mem_cons,List.not_mem_nil,or_false] at z
   rcases z with z | z | z
   · rw [z,ob'] at etb';cases etb'
   · rw [z,nl'] at etb';cases etb'
   · rw [z,S'.tb] at etb';cases etb'
 refine ⟨some_of H' [st,ln,dt],Wf,⟨b0',ln,dt,⟨⟨dx',by rw [XO (by simp)];exact ob'⟩,⟨as',by rw [XO (by simp)];exact nl',nlen',fun i a n e1 e2=>(nod' i a n e1 e2).tf ZeE⟩,by rw [XO (by simp)];exact S'.tb⟩⟩,?_⟩
 have imm:∀ b o,H' b=some o→Yw o=false→WU H' (some_of H' [st,ln,dt]) b=some o:=fun b o e m=>cut_some.mpr ⟨e,fun u z=>by have:=Wf _ _ z;rw [e] at this;cases this;exact m⟩
 refine ⟨some_of (WU H' (some_of H' [st,ln,dt])) [Pl],Wf,?_,S.mono fun b o e=>?_⟩
 · have ePl:some_of (WU H' (some_of H' [st,ln,dt])) [Pl] Pl=H' Pl:=by
     rw [XO (by simp)]
     have:WU H' (some_of H' [st,ln,dt]) Pl=some (.tbl tb'):=cut_some.mpr ⟨etb',fun u z=>by
       cases m:Yw u with
       | false=>rfl
       | true=>exact absurd (XH z m) nPl⟩
     rw [this,etb']
   rcases L' with z | ⟨c,z1,z2⟩
   · exact .inl (by rw [ePl];exact z)
   · refine .inr ⟨c,by rw [ePl];exact z1,?_⟩
     exact WD (imm _ _ z2 rfl) rfl
 · obtain ⟨e1,e2⟩:=cut_some.mp e
   obtain ⟨e3,e4⟩:=cut_some.mp e1
   have n1:b≠ln:=fun z=>by have:=e4 _ (z ▸ nl);cases this
   have n2:b≠dt:=fun z=>by have:=e4 _ (z ▸ r1.tb);cases this
   have n3:b≠Pl:=fun z=>by have:=e2 _ (z ▸ etb);cases this
   have n4:b≠st:=fun z=>by have:=e4 _ (z ▸ ob);cases this
   have e5:=kq b o (by simp [n1,n2,n3]) e3
   refine cut_some.mpr ⟨cut_some.mpr ⟨e5,fun u z=>?_⟩,fun u z=>?_⟩
   · cases m:Yw u with
     | false=>rfl
     | true=>have:=XH z m;simp [n1,n2,n4] at this
   · cases m:Yw u with
     | false=>rfl
     | true=>have:=XH z m;simp [n3] at this
end L2
set_option maxHeartbeats 2000000
namespace L2
open PySem
theorem Sep.updR {Δ Δ':Rs}{H:Hp}{R T:YO}(S:Sep Δ H)(a:Addr)(o':HO)[P:Pull a Δ R Δ'](m:∀ h,R a h→∃ o,h a=some o∧Yw o=true)
   (f:∀ h,R a h→Same h H→∀ h',h' a=some o'→(∀ b o,b≠a→h b=some o→h' b=some o)→(∀ b o,b≠a→H b=some o→Yw o=false→h' b=some o)→T a h'):Sep ((a,T)::Δ') (upd H a o'):=by
 obtain ⟨h,l,r,S⟩:=P.out S
 obtain ⟨o,ea,ma⟩:=m h r
 refine ⟨fun b=>if b=a then some o' else match h b with | some u=>some u | none=>some_of H [] b,fun b u e=>?_,f h r l _ (if_pos rfl) (fun b u nb e=>?_) (fun b u nb e mu=>?_),S.mono fun b u e=>?_⟩
 · dsimp only at e
   by_cases hb:b=a
   · rw [if_pos hb] at e;cases e;rw [hb];exact Zg
   · rw [if_neg hb] at e
     rw [Zh hb]
     cases q:h b with
     | some z=>rw [q] at e;cases e;exact l _ _ q
     | none=>rw [q] at e;exact Wf _ _ e
 · rw [if_neg nb,e]
 · rw [if_neg nb]
   cases q:h b with
   | some z=>have:=l _ _ q;rw [e] at this;cases this;rfl
   | none=>exact WD e mu
 · obtain ⟨e1,e2⟩:=cut_some.mp e
   have hb:b≠a:=fun z=>by have:=e2 o (by rw [z];exact ea);rw [ma] at this;cases this
   refine cut_some.mpr ⟨by rw [Zh hb];exact e1,fun v q=>?_⟩
   simp only [if_neg hb] at q
   cases z:h b with
   | some x=>rw [z] at q;cases q;exact e2 _ z
   | none =>
     rw [z] at q
     cases mm:Yw v with
     | false=>rfl
     | true=>have:=XH q mm;cases this
end L2
set_option maxHeartbeats 2000000
namespace L2
open PySem
theorem Sep.im {Δ:Rs}{H:Hp}{a:Addr}{R T:YO}[U:Up R](S:Sep ((a,R)::Δ) H)(f:∀ h,R a h→Same h H→(∀ b o,H b=some o→Yw o=false→h b=some o)→T a h):Sep ((a,T)::Δ) H:=by
 obtain ⟨h,l,r,S⟩:=S
 have s1:Same h fun b=>match h b with | some o=>some o | none=>some_of H [] b:=fun b o e=>by simp only [e]
 have le:Same (fun b=>match h b with | some o=>some o | none=>some_of H [] b) H:=fun b o e=>by
   dsimp only at e
   cases q:h b with
   | some z=>rw [q] at e;cases e;exact l _ _ q
   | none=>rw [q] at e;exact Wf _ _ e
 refine ⟨_,le,f _ (U.up r s1) le fun b o e m=>?_,S.mono fun b o e=>?_⟩
 · cases q:h b with
   | some z=>have:=l _ _ q;rw [e] at this;cases this;rfl
   | none=>exact WD e m
 · obtain ⟨e1,e2⟩:=cut_some.mp e
   refine cut_some.mpr ⟨e1,fun u q=>?_⟩
   try dsimp only at q
   cases z:h b with
   | some x=>rw [z] at q;cases q;exact e2 _ z
   | none =>
     rw [z] at q
     cases mm:Yw u with
     | false=>rfl
     | true=>have:=XH q mm;cases this
def PLs (ps:Zu):YO:=fun l h=>∃ ts:List Addr,h l=some (.lst (ts.map V.ref))∧PairT h ts ps
instance {ps:Zu}:Up (PLs ps):=⟨fun ⟨ts,e,p⟩ s=>⟨ts,s _ _ e,p.tf s.tf⟩⟩
theorem Sep.pls {Δ:Rs}{H:Hp}{l:Addr}{ts:List Addr}{ps:Zu}(S:Sep ((l,Wn (ts.map V.ref))::Δ) H)(h:PairT H ts ps):Sep ((l,PLs ps)::Δ) H :=
 S.im fun g e _ im=>⟨ts,e,h.1,fun i a p e1 e2=>im _ _ (h.2 i a p e1 e2) rfl⟩
def but (H:Hp)(l:Addr):Hp:=fun b=>if b=l then none else H b
theorem Zhs {H:Hp}{l:Addr}:Same (but H l) H:=fun b o e=>by
 unfold but at e
 split at e
 · cases e
 · exact e
theorem Ut {H:Hp}{l b:Addr}(h:b≠l):but H l b=H b:=by unfold but;rw [if_neg h]
theorem ZhD {H:Hp}{l:Addr}:but H l l=none:=by unfold but;rw [if_pos rfl]
end L2
set_option maxHeartbeats 2000000
namespace L2
open PySem
end L2
set_option maxHeartbeats 2000000
namespace L2
open PySem PySem.Spec PyProof.Rows
section
variable {X:Cx}
theorem ZhT:bootBuiltins "zip"=some (.type "zip"):=by decide +kernel
end
end L2
set_option maxHeartbeats 2000000
namespace L2
open PySem PySem.Spec PyProof.Rows
mutual
inductive DatT (K:KF)(H:Hp):V→PyData→Prop
 | non:DatT K H .non .none
 | int (i):DatT K H (.int i) (.int i)
 | str (x):DatT K H (.str x) (.str x)
 | tup {a xs ds}:SqT K H a xs→DatTs K H xs ds→DatT K H (.ref a) (.tuple ds)
inductive DatTs (K:KF)(H:Hp):List V→List PyData→Prop
 | nil:DatTs K H [] []
 | cons {v d vs ds}:DatT K H v d→DatTs K H vs ds→DatTs K H (v::vs) (d::ds)
end
section
variable {X:Cx}{pins:List (Addr×Obj)}{σ:St}{H:Hp}{s:Shared}
mutual
theorem DatT.reads (I:Inv X pins σ H s):∀{v d}(u:Value),DatT X.K H v d→RelV v u→d.hasDict=false∧∃ as,Reads s.heap u d as
 | _,_,u,.non,r=>by cases (show u=.none from r);exact ⟨rfl,_,.none⟩
 | _,_,u,.int i,r=>by obtain ⟨t,e⟩:=(show ∃ t,u=.int i t from r);subst e;exact ⟨rfl,_,.int i t⟩
 | _,_,u,.str x,r=>by obtain ⟨t,e⟩:=(show ∃ t,u=.str x t from r);subst e;exact ⟨rfl,_,.str x t⟩
 | _,_,u,.tup (a:=a) (xs:=xs) e q,r=>by
   cases (show u=.ref a from r)
   obtain ⟨its,rv,⟨o,g,c,n,d⟩,_⟩:=I.tuple e
   obtain ⟨nd,as,ra⟩:=DatTs.reads I its q rv
   exact ⟨by simpa [PyData.hasDict] using nd,_,.tuple g c d (by simpa using ra)⟩
theorem DatTs.reads (I:Inv X pins σ H s):∀{vs ds}(us:List Value),DatTs X.K H vs ds→Vals vs us→PyData.hasDictAll ds=false∧∃ as,ReadsAll s.heap us ds as
 | _,_,_,.nil,.nil=>⟨rfl,_,.nil⟩
 | _,_,_,.cons r t,.cons rv tv=>by
   obtain ⟨n1,as,r1⟩:=DatT.reads I _ r rv
   obtain ⟨n2,bs,r2⟩:=DatTs.reads I _ t tv
   exact ⟨by simp [PyData.hasDictAll,n1,n2],_,.cons r1 r2⟩
end
end
theorem ZbF {X:Cx}{K:KF}(hK:X.K=K)(hg:X.A.guards=some [])(hu:X.A.units+64 < cLine):Yk X (.builtin "repr") (fun xs H Q=>∃ x d,xs=[x]∧DatT K H x d∧d.showable=true∧d.shown.length≤sizeLine∧d.depth≤60∧Q (.str d.shown) H):=by
 subst hK
 intro pins s σ H xs us Q I r h
 obtain ⟨x,d,rfl,dd,hs,hz,hd,q⟩:=h
 obtain ⟨u,rfl,ru⟩:=Yj r
 have fin:∀ (t':Tok) (k:Nat),EP X pins σ Q (.str d.shown t') { s with toks:=k }:=fun t' k=>⟨.str _,H,I.tok k,⟨_,rfl⟩,q⟩
 obtain ⟨nd,as,rd⟩:=DatT.reads I u dd ru
 cases rd with
 | none=>exact PySem.P.repr_of_none (fin _ _)
 | bool b=>exact PySem.P.repr_of_bool (fin _ _)
 | int i t=>exact PySem.P.repr_of_int (by simpa [PyData.showable] using hs) (fin _ _)
 | str x t=>exact PySem.P.repr_of_str (fin _ _) hz
 | list h1 h2 h3 h4=>exact repr_of_reads' (Reads.list h1 h2 h3 h4) hs (fun z=>by rw [nd] at z;cases z) hg (by omega) (fun _ _ e=>e) (fun h' t' k hk=>⟨.str _,H,I.kept (t':=k) hk,⟨_,rfl⟩,q⟩) hz
 | tuple h1 h2 h3 h4=>exact repr_of_reads' (Reads.tuple h1 h2 h3 h4) hs (fun z=>by rw [nd] at z;cases z) hg (by omega) (fun _ _ e=>e) (fun h' t' k hk=>⟨.str _,H,I.kept (t':=k) hk,⟨_,rfl⟩,q⟩) hz
 | _=>exact absurd nd (by simp [PyData.hasDict])
theorem ZdB (n:Nat):∀ ts:List Str,(∀ t∈ts,t.length≤n)→piled ts≤ts.length * (n+2)
 | [],_=>by simp [piled]
 | t::r,h=>by
   have h1:=ZdB n r fun x hx=>h x (List.mem_cons_of_mem _ hx)
   have h2:=h t List.mem_cons_self
   rw [List.length_cons,Nat.add_mul]
   simp only [piled] at h1 ⊢
   simp only [List.map_cons,List.sum_cons] at h1 ⊢
   omega
theorem Ud {ds:List PyData}{n k:Nat}(h:∀ d∈ds,Sml d n k):Sml (.tuple ds) (3+ds.length * (n+2)) (k+1):=by
 refine ⟨Wi fun d hd=>(h d hd).sh,?_,?_⟩
 · show (tupleText (PyData.shownAll ds)).length≤_
   rw [XQ]
   have z2:(Str.ofString (if (ds.map PyData.shown).length == 1 then ",)" else ")":String)).length≤2:=by split<;>decide
   have z3:(Str.join ", " (ds.map PyData.shown)).length≤ds.length * (n+2):=by
     cases ds with
     | nil=>show 0≤_;omega
     | cons d r =>
       have e:=join_length_add ((d::r).map PyData.shown) (by simp)
       have p:=ZdB n ((d::r).map PyData.shown) (fun t ht=>by
         obtain ⟨x,hx,rfl⟩:=List.mem_map.mp ht
         exact (h x hx).ln)
       rw [List.length_map] at p
       omega
   show (Str.ofString "("++Str.join ", " (ds.map PyData.shown)++Str.ofString (if (ds.map PyData.shown).length == 1 then ",)" else ")":String)).length≤_
   rw [Yz,Yz]
   have z1:(Str.ofString "(").length=1:=by decide
   omega
 · have:=Uf (k:=k) fun d hd=>(h d hd).dp
   show PyData.depthAll ds+1≤_
   omega
theorem Sml.le {d:PyData}{n m k j:Nat}(h:Sml d n k)(h1:n≤m)(h2:k≤j):Sml d m j:=⟨h.sh,Nat.le_trans h.ln h1,Nat.le_trans h.dp h2⟩
theorem ZkO {i:Int}(h:i.natAbs≤10 ^ 31)(k:Nat):Sml (.int i) 40 k:=⟨decide_eq_true (Zcd h).1,(Zcd h).2,Nat.zero_le _⟩
def ndD:Nd→PyData
 | .bare=>.tuple [.str "bare"]
 | .leaf m ps=>.tuple [.str "leaf",.int m,.tuple (ps.map XT)]
 | .fork qs=>.tuple [.str "fork",.tuple (qs.map fun q:Nat=>.int (q:Int))]
def ZfY:Nd→Prop
 | .bare=>True
 | .leaf m ps=>m.natAbs≤10 ^ 31∧ps.length≤63∧∀ p∈ps,Yx p.1∧Ye p.2
 | .fork qs=>qs.length=4∧∀ q∈qs,q≤1000000
theorem Zcm {K:KF}{H:Hp}:∀ qs:List Nat,DatTs K H (qs.map fun q:Nat=>V.int (q:Int)) (qs.map fun q:Nat=>.int (q:Int))
 | []=>.nil
 | _::r=>.cons (.int _) (Zcm r)
theorem Zbt {K:KF}{H:Hp}:∀{ts:List Addr}{ps:Zu},PairT H ts ps→(∀ p∈ps,Ye p.2)→DatTs K H (ts.map V.ref) (ps.map XT)
 | [],[],_,_=>.nil
 | [],_::_,h,_=>by cases h.1
 | _::_,[],h,_=>by cases h.1
 | t :: ts,p::ps,h,hv=>by
   have v1:DatT K H p.2 (ZfA p.2):=by
     have:=hv p List.mem_cons_self
     cases e:p.2 with
     | int i=>exact .int _
     | str x=>exact .str _
     | _=>rw [e] at this;exact this.elim
   exact .cons (.tup (SqT.of (h.2 0 t p rfl rfl)) (.cons (.str _) (.cons v1 .nil))) (Zbt ⟨by simpa using h.1,fun i a q e1 e2=>h.2 (i+1) a q e1 e2⟩ fun q hq=>hv q (List.mem_cons_of_mem _ hq))
theorem Zcu {K:KF}{H:Hp}{a:Addr}{n:Nd}(h:NodeAt K H a n)(ok:ZfY n):DatT K H (.ref a) (ndD n):=by
 cases n with
 | bare=>exact .tup h (.cons (.str _) .nil)
 | leaf m ps =>
   obtain ⟨t,e,o,ts,e2,_,hp⟩:=h
   exact .tup e (.cons (.str _) (.cons (.int _) (.cons (.tup (.inl (.inr ⟨o,e2⟩)) (Zbt hp fun p hp=>(ok.2.2 p hp).2)) .nil)))
 | fork qs =>
   obtain ⟨t,e,e2,_⟩:=h
   exact .tup e (.cons (.str _) (.cons (.tup e2 (Zcm qs)) .nil))
theorem ZbL {x:Str}(h:(x.cps.toList.all fun c=>decide (c < 128))=true)(hl:x.length≤20)(k:Nat):Sml (.str x) 100 k:=Zck (fun c hc=>of_decide_eq_true (List.all_eq_true.mp h c hc)) (by omega) k
end L2
set_option maxHeartbeats 2000000
namespace L2
open PySem
def Zfw (x:Str):Prop:=∀ c∈x.cps.toList,c < 1114112
theorem Zmu {x:Str}(h:Zfw x):PyData.strOk x=true:=by
 show x.cps.all (fun c=>decide (c < 1114112))=true
 rw [← Array.all_toList,List.all_eq_true]
 exact fun c hc=>decide_eq_true (h c hc)
theorem XL {H:Hp}{a:Addr}{xs:List Str}(e:H a=some (.lst (xs.map V.str)))(h:∀ x∈xs,Zfw x):∃ d,DataOf H (.ref a) d∧d=.list (xs.map PyData.str)∧d.canLay0=true∧d.depth≤60:=by
 have h1:∀ xs:List Str,DatasOf H (xs.map V.str) (xs.map PyData.str):=by
   intro xs
   induction xs with
   | nil=>exact .nil
   | cons x r ih=>exact .cons (.str x) ih
 have h2:∀ xs:List Str,(∀ x∈xs,Zfw x)→PyData.canLayAll0 (xs.map PyData.str)=true:=by
   intro xs
   induction xs with
   | nil=>intro _;rfl
   | cons x r ih =>
     intro h
     rw [List.map_cons,PyData.canLayAll0,ih fun y hy=>h y (List.mem_cons_of_mem _ hy)]
     show (PyData.strOk x&&true)=true
     rw [Zmu (h x List.mem_cons_self)];rfl
 have h3:∀ xs:List Str,PyData.depthAll (xs.map PyData.str)=0:=by
   intro xs
   induction xs with
   | nil=>rfl
   | cons x r ih=>rw [List.map_cons,PyData.depthAll,ih];rfl
 refine ⟨_,.lst e (h1 xs),rfl,?_,?_⟩
 · rw [PyData.canLay0];exact h2 xs h
 · rw [PyData.depth,h3];decide
end L2
set_option maxHeartbeats 2000000
namespace L2
open PySem PySem.W PySem.Spec PyProof.Rows
theorem Zdn {prog:Program}{w:World}{A:Around}{E:Zv}{s:Shared}{T:String}{r d:Addr}{n:Nat}{P:Nat→Value→Prop}{OK:Heap→Prop}{R:List Value→Shared→Prop}(K:KdlSrc prog w T r d n P OK)(noH:A.handled=none)(hok:OK s.heap)(few:n≤sizeLine)(lr:r < s.heap.objs.size)(ld:d < s.heap.objs.size)(up:OK (s.heap.push { cls:=.type "list",data:=.seq ([]:List Value).toArray }))
   (k:∀ (h':Heap) (tk:Nat) (acc:Array Value),s.heap.objs.size < h'.objs.size→(∀ b o,s.heap.get? b=some o→h'.get? b=some o)→ItemsOf P acc n→R acc.toList { s with heap:=h',toks:=tk }) :
   wpAny (model prog w) A (collect (.ref r)) R E s:=by
 have here:(s.heap.push { cls:=.type "list",data:=.seq ([]:List Value).toArray }).get? s.heap.objs.size=some { cls:=.type "list",data:=.seq #[] }:=Heap.get?_push_size _ rfl
 let Fin':Result→Shared→Prop:=fun q s'=>∃ (h':Heap) (tk:Nat) (its:Array Value) (c:Nat),(q=.ok (.ret (.ref s.heap.objs.size))∧s'={ s with heap:=h',toks:=tk })∧((∀ b o,s.heap.get? b=some o→h'.get? b=some o)∧h'.get? s.heap.objs.size=some { cls:=.type "list",dict:=none,data:=.seq its c,slots:=#[] })∧ItemsOf P its n
 have run:=kdl_extend (A:=A) (s:={ s with heap:=s.heap.push { cls:=.type "list",data:=.seq ([]:List Value).toArray } }) (R:=Fin') K noH up s.heap.objs.size (Nat.ne_of_gt lr) (Nat.ne_of_gt ld) (.ref s.heap.objs.size) 0 here
   (fun h' tk its c hk hs hg=>⟨h',tk,its,c,⟨rfl,rfl⟩,⟨fun b o e=>hk b o (Nat.ne_of_lt (Heap.lt_size e)) (Heap.get?_push_of_some _ e),hs⟩,hg⟩) few
 have fin:∀ s',Fin' (.ok (.ret (.ref s.heap.objs.size))) s'→wpAny (model prog w) A (do match (← load s.heap.objs.size).data with | .seq xs _=>pure xs.toList | _=>unsupported "internal:collect") R E s':=by
   rintro s' ⟨h',tk,its,c,⟨_,rfl⟩,⟨hk,hs⟩,hg⟩
   refine wpAny_bind (wpAny_load hs ?_)
   exact wpAny_pure (k h' tk its (Heap.lt_size hs) hk hg)
 unfold collect
 refine wpAny_bind (wpAny_runValue (codeAny_builtin entry_proto_collect' ?_))
 rw [Around.under_plainId PySem.F.plain_proto_collect _]
 refine wpAny_bind (m:=newList []) (wpAny_newObj_type (wpAny_pure ⟨plainId_quiet PySem.F.plain_list_iadd _,codeAny_builtin entry_list_iadd' ?_⟩))
 rw [Around.under_plainId PySem.F.plain_list_iadd _]
 refine wpAny_mono run (fun f s' x=>?_) fun e s' x=>?_
 · cases f with
   | done f =>
     obtain ⟨h',tk,its,c,⟨e,e2⟩,r'⟩:=x
     cases e
     exact fin s' ⟨h',tk,its,c,⟨rfl,e2⟩,r'⟩
   | again c₁ =>
     refine ⟨x.1,codeAny_mono x.2 fun q s₂ y=>?_⟩
     obtain ⟨h',tk,its,c,⟨e,e2⟩,r'⟩:=y
     subst e
     exact fin s₂ ⟨h',tk,its,c,⟨rfl,e2⟩,r'⟩
 · obtain ⟨_,_,_,_,⟨e',_⟩,_⟩:=x
   cases e'
theorem Vx:∀{xs:List Str}{us:List Value},Vals (xs.map V.str) us→StrsAre us xs
 | [],_,.nil=>.nil
 | _::_,_,.cons r t=>by
   obtain ⟨tk,e⟩:=r
   subst e
   exact .cons _ tk (Vx t)
theorem Ue:∀{xs:List Str}{us:List Value},StrsAre us xs→Vals (xs.map V.str) us
 | _,_,.nil=>.nil
 | _,_,.cons x t h=>.cons ⟨t,rfl⟩ (Ue h)
def Xj (xs:List Str):Prop:=xs.Pairwise fun x y=>¬ (y.cps.toList < x.cps.toList)
section
variable {X:Cx}
theorem Zaq (hc:X.calm=true):Yk X (.builtin "sorted") (fun xs H Q=>∃ (d:Addr) (ps:Zu),xs=[.ref d]∧H d=some (.dK (ps.map kP))∧ps.length < 64 ∧
   ∀ (l:Addr) (ys:List Str),H l=none→ys.Perm (ps.map (·.1))→Xj ys→Q (.ref l) (upd H l (.lst (ys.map V.str)))):=by
 intro pins s σ H xs us Q I r h
 obtain ⟨d,ps,rfl,ed,h64,q⟩:=h
 obtain ⟨u,rfl,ru⟩:=Yj r
 cases ru
 obtain ⟨hz,lo,vs,kv,o,es,ep,ho,r1,r2,r3,r4,r5⟩:=Wz I.hok ed
 have hlen:vs.length=ps.length:=by have:=(Paired.length kv).symm;rwa [List.length_map] at this
 have hd:d < s.heap.objs.size:=Heap.lt_size ho
 refine PySem.Calls.call_function_entry kind_sorted plain_sorted entry_sorted (args_sorted1 _) ?_
 unfold Builtin.«sorted»
 refine wpAny_bind (m:=checkCount "sorted" 1 1 _) (wpAny_pure ?_)
 refine wpAny_bind (Zdn (A:=X.A.in1) (kdl_dict (knd:=Zl X.prog X.w) (kvs:=vs) (ep:=ep) lo) (I.ok.hd hc) ⟨o,es,ho,r1,r2,r3,r4,r5⟩ (by rw [hlen];rw [List.length_map] at hz;exact hz) hd hd ⟨o,es,Heap.get?_push_of_some _ ho,r1,r2,r3,r4,r5⟩ fun h' tk acc hgt hk hacc=>?_)
 have hge:=Nat.le_of_lt hgt
 have rv:Vals ((ps.map kP).map fun p=>kV p.1) acc.toList:=Vr (P:=X.prog) (w:=X.w) kv acc.toList (by rw [Array.length_toList];exact hacc.1) fun j v hj=>hacc.2 j v (by rw [← Array.getElem?_toList];exact hj)
 have rv':Vals ((ps.map (·.1)).map V.str) acc.toList:=by
   have e:(ps.map kP).map (fun p=>kV p.1)=(ps.map (·.1)).map V.str:=by rw [List.map_map,List.map_map];rfl
   rwa [e] at rv
 have hS:=Vx rv'
 have hlacc:acc.toList.length=ps.length:=by rw [hS.length,List.length_map]
 refine wpAny_bind (wpAny_newList ?_ (by rw [hlacc,sizeLine_eq];omega))
 have hoL:(h'.push { cls:=.type "list",data:=.seq acc.toList.toArray }).get? h'.objs.size=some (seqObj "list" acc.toList.toArray 0):=Heap.get?_push_size _ rfl
 have keepg:∀ b o,h'.get? b=some o→(h'.push { cls:=.type "list",data:=.seq acc.toList.toArray }).get? b=some o:=fun b o e=>Heap.get?_push_of_some _ e
 show wpAny _ _ _ _ _ { s with heap:=h'.push { cls:=.type "list",data:=.seq acc.toList.toArray },toks:=tk }
 generalize h'.push { cls:=.type "list",data:=.seq acc.toList.toArray }=g at hoL keepg ⊢
 refine wpAny_bind (wpAny_holding (wpAny_call_entry slot_list_sort ⟨_,hoL,rfl⟩ entry_list_sort ?body (args_list_sort _)))
 case body =>
   refine list_sort_treeK (s:={ s with heap:=g,toks:=tk }) strKind_oneLt hoL hS.keysOf (fun v₁ v₂ rest e=>keyKind_strs (by rw [← e];exact hS)) (by rw [hlacc];exact h64) fun st' hp hs=>⟨_,rfl,wpAny_pure ⟨_,rfl,?_⟩⟩
   have hsz:(arrOf st').size=acc.toList.length:=by rw [hp.size_eq,pairsOf_size]
   have hl2:(arrOf st').toList.Perm (acc.toList.zip acc.toList):=by rw [← pairsOf_toList];exact Array.perm_iff_toList_perm.mp hp
   have hmem:∀ z∈(arrOf st').toList,z.1=z.2∧z.1∈acc.toList:=fun z hz'=>mem_zip_self (hl2.mem_iff.mp hz')
   have hout:StrsAre ((arrOf st').map (·.2)).toList ((arrOf st').toList.map fun z=>strOf z.1):=by
     have e:((arrOf st').map (·.2)).toList=(arrOf st').toList.map (·.1):=by
       rw [Array.toList_map];exact List.map_congr_left fun z hz'=>(hmem z hz').1.symm
     rw [e]
     have h1:=strsAre_map ((arrOf st').toList.map (·.1)) (by
       intro v hv
       obtain ⟨z,hz',rfl⟩:=List.mem_map.mp hv
       exact hS.all _ (hmem z hz').2)
     rwa [List.map_map] at h1
   have hperm:((arrOf st').toList.map fun z=>strOf z.1).Perm (ps.map (·.1)):=by
     have h1:=hl2.map fun z=>strOf z.1
     have e2:(acc.toList.zip acc.toList).map (fun z=>strOf z.1)=ps.map (·.1):=by
       have:(acc.toList.zip acc.toList).map (fun z=>strOf z.1)=((acc.toList.zip acc.toList).map Prod.fst).map strOf:=by rw [List.map_map];rfl
       rw [this,List.map_fst_zip (Nat.le_refl _),hS.strs]
     rwa [e2] at h1
   have hsort:Xj ((arrOf st').toList.map fun z=>strOf z.1):=by
     unfold Xj
     rw [List.pairwise_map,List.pairwise_iff_getElem]
     intro i j hi hj hij
     have hi':i < (arrOf st').size:=by simpa using hi
     have hj':j < (arrOf st').size:=by simpa using hj
     have h1:=hs i j (Nat.le_of_lt hij) (by rw [← hp.size_eq];exact hj')
     obtain ⟨x,t,ex⟩:=hS.all _ (hmem (arrOf st')[i] (by simp)).2
     obtain ⟨y,u,ey⟩:=hS.all _ (hmem (arrOf st')[j] (by simp)).2
     rw [KK_str hi' (x:=x) (t:=t) (q:=(arrOf st')[i].2) (Prod.ext ex rfl),KK_str hj' (x:=y) (t:=u) (q:=(arrOf st')[j].2) (Prod.ext ey rfl)] at h1
     change decide (y.cps.toList < x.cps.toList)=false at h1
     simp only [Array.getElem_toList]
     rw [show strOf (arrOf st')[i].1=x by rw [ex];rfl,show strOf (arrOf st')[j].1=y by rw [ey];rfl]
     exact of_decide_eq_false h1
   have s1:=Heap.SameBut.update g h'.objs.size (Obj.mapSeq fun _=>(#[]:Array Value))
   obtain ⟨e1,ho1⟩:∃ e1,(g.update h'.objs.size (Obj.mapSeq fun _=>(#[]:Array Value))).get? h'.objs.size=some (seqObj "list" #[] e1):=⟨_,get?_update_seq hoL fun _=>#[]⟩
   have k1:∀ b o,b≠h'.objs.size→g.get? b=some o→(g.update h'.objs.size (Obj.mapSeq fun _=>(#[]:Array Value))).get? b=some o:=fun b o nb e=>(s1.2 b nb).trans e
   show EP X pins σ Q (.ref h'.objs.size) { s with heap:=(((g.update h'.objs.size (Obj.mapSeq fun _=>(#[]:Array Value))).push (seqObj "tuple" acc.toList.toArray 0)).push (seqObj "list" #[] 0)).update h'.objs.size (Obj.mapSeq fun _=>(arrOf st').map (·.2)),toks:=tk }
   generalize g.update h'.objs.size (Obj.mapSeq fun _=>(#[]:Array Value))=g1 at ho1 k1 ⊢
   have ho2:((g1.push (seqObj "tuple" acc.toList.toArray 0)).push (seqObj "list" #[] 0)).get? h'.objs.size=some (seqObj "list" #[] e1):=Heap.get?_push_of_some _ (Heap.get?_push_of_some _ ho1)
   have k2:∀ b o,g1.get? b=some o→((g1.push (seqObj "tuple" acc.toList.toArray 0)).push (seqObj "list" #[] 0)).get? b=some o:=fun b o e=>Heap.get?_push_of_some _ (Heap.get?_push_of_some _ e)
   generalize (g1.push (seqObj "tuple" acc.toList.toArray 0)).push (seqObj "list" #[] 0)=g2 at ho2 k2 ⊢
   have s2:=Heap.SameBut.update g2 h'.objs.size (Obj.mapSeq fun _=>(arrOf st').map (·.2))
   obtain ⟨c3,hc3⟩:∃ c3,(g2.update h'.objs.size (Obj.mapSeq fun _=>(arrOf st').map (·.2))).get? h'.objs.size=some (seqObj "list" ((arrOf st').map (·.2)) c3):=⟨_,get?_update_seq ho2 fun _=>(arrOf st').map (·.2)⟩
   have keep:∀ b o,s.heap.get? b=some o→(g2.update h'.objs.size (Obj.mapSeq fun _=>(arrOf st').map (·.2))).get? b=some o:=fun b o e=>by
     have nb:b≠h'.objs.size:=Nat.ne_of_lt (Nat.lt_of_lt_of_le (Heap.lt_size e) hge)
     exact (s2.2 b nb).trans (k2 b o (k1 b o nb (keepg b o (hk b o e))))
   generalize g2.update h'.objs.size (Obj.mapSeq fun _=>(arrOf st').map (·.2))=g3 at hc3 keep ⊢
   refine ⟨.ref h'.objs.size,_,I.laid (t':=tk) keep hge (show ObjOk X.prog X.w _ _ _ (.lst (((arrOf st').toList.map fun z=>strOf z.1).map V.str)) from ⟨?_,((arrOf st').map (·.2)).toList,c3,Ue hout,by rw [Array.toArray_toList];exact hc3⟩),rfl,q _ _ (I.hok.fresh hge) hperm hsort⟩
   rw [List.length_map,List.length_map,Array.length_toList,hsz,hlacc,sizeLine_eq];omega
end
end L2
set_option maxHeartbeats 2000000
namespace L2
open PySem
def tCut (t u:TS):TS:=fun D σ H=>∃ I:St→Hp→Prop,t { D with nx:=I } σ H∧∀ σ' H',I σ' H'→u D σ' H'
theorem ZbI {X:Cx}{st:Stmt}{rest:List Stmt}{t u:TS}(h1:PS X st t)(h2:PSs X rest u):PSs X (st::rest) (tCut t u):=by
 intro pins s σ H D I h
 obtain ⟨J,h,g⟩:=h
 refine wpAny_execs_cons (Zr (h1 pins s σ H { D with nx:=J } I h) fun f s1 q=>?_)
 cases f with
 | next =>
   obtain ⟨σ',H',I',q⟩:=q
   exact h2 pins s1 σ' H' D I' (g _ _ q)
 | ret v=>exact q
 | brk=>exact q
 | cont=>exact q
end L2
set_option maxHeartbeats 2000000
namespace L2
open PySem PySem.Spec PyProof.Rows
section
variable {X:Cx}{pins:List (Addr×Obj)}{σ:St}{H:Hp}{s:Shared}{d:Addr}{o:Obj}{kvs:ZH}
end
section
variable {X:Cx}{tg:Expr}
end
end L2
set_option maxHeartbeats 2000000
namespace L2
open PySem PySem.W PySem.Spec PyProof.Rows
section
variable {X:Cx}
end
end L2
set_option maxHeartbeats 2000000
namespace L2
open PySem
end L2
set_option maxHeartbeats 2000000
namespace L2
open PySem PySem.W PySem.Spec PyProof.Rows
section
variable {X:Cx}
end
end L2
set_option maxHeartbeats 2000000
namespace L2
open PySem PySem.Spec PyProof.Rows
end L2
set_option maxHeartbeats 2000000
namespace L2
open PySem PySem.Spec PyProof.Rows
section
variable {X:Cx}
end
mutual
theorem DatT.same {K:KF}{H H':Hp}(s:Same H H'):∀{v d},DatT K H v d→DatT K H' v d
 | _,_,.non=>.non
 | _,_,.int i=>.int i
 | _,_,.str x=>.str x
 | _,_,.tup e q=>.tup (e.tf s.tf) (DatTs.same s q)
theorem DatTs.same {K:KF}{H H':Hp}(s:Same H H'):∀{vs ds},DatTs K H vs ds→DatTs K H' vs ds
 | _,_,.nil=>.nil
 | _,_,.cons r t=>.cons (DatT.same s r) (DatTs.same s t)
end
mutual
theorem DatT.tf {K:KF}{H H':Hp}(s:TF H H'):∀{v d},DatT K H v d→DatT K H' v d
 | _,_,.non=>.non
 | _,_,.int i=>.int i
 | _,_,.str x=>.str x
 | _,_,.tup e q=>.tup (SqT.tf e s) (DatTs.tf s q)
theorem DatTs.tf {K:KF}{H H':Hp}(s:TF H H'):∀{vs ds},DatTs K H vs ds→DatTs K H' vs ds
 | _,_,.nil=>.nil
 | _,_,.cons r t=>.cons (DatT.tf s r) (DatTs.tf s t)
end
theorem DatTs.app {K:KF}{H:Hp}{v:V}{d:PyData}:∀{vs ds},DatTs K H vs ds→DatT K H v d→DatTs K H (vs++[v]) (ds++[d])
 | _,_,.nil,r=>.cons r .nil
 | _,_,.cons q t,r=>.cons q (DatTs.app t r)
theorem DatTs.len {K:KF}{H:Hp}:∀{vs ds},DatTs K H vs ds→vs.length=ds.length
 | _,_,.nil=>rfl
 | _,_,.cons q t=>by rw [List.length_cons,List.length_cons,DatTs.len t]
def Zfr (ds:List PyData):Nat:=(ds.map fun d=>d.shown.length+2).sum
theorem Zgr (ds:List PyData):(PyData.tuple ds).shown.length≤3+Zfr ds:=by
 show (tupleText (PyData.shownAll ds)).length≤_
 rw [XQ]
 have z2:(Str.ofString (if (ds.map PyData.shown).length == 1 then ",)" else ")":String)).length≤2:=by split<;>decide
 have z3:(Str.join ", " (ds.map PyData.shown)).length≤Zfr ds:=by
   cases ds with
   | nil=>show 0≤_;omega
   | cons d r =>
     have e:=join_length_add ((d::r).map PyData.shown) (by simp)
     have p:piled ((d::r).map PyData.shown)=Zfr (d::r):=by unfold piled Zfr;rw [List.map_map];rfl
     omega
 show (Str.ofString "("++Str.join ", " (ds.map PyData.shown)++Str.ofString (if (ds.map PyData.shown).length == 1 then ",)" else ")":String)).length≤_
 rw [Yz,Yz]
 have z1:(Str.ofString "(").length=1:=by decide
 omega
end L2
set_option maxHeartbeats 2000000
namespace L2
open PySem PySem.Spec PyProof.Rows
section
variable {X:Cx}
theorem ZaV (hc:X.calm=true):Yk X (.type "list") (fun xs H Q=>∃ d kvs,xs=[.ref d]∧H d=some (.dK kvs)∧∀ l,H l=none→(kvs.map (·.1)).Nodup→Q (.ref l) (upd H l (.lst (kvs.map fun q=>kV q.1)))):=by
 intro pins s σ H xs us Q I r h
 obtain ⟨d,kvs,rfl,ed,q⟩:=h
 obtain ⟨hz,lo,vs,kv,o,es,ep,ho,r1,r2,r3,r4,r5⟩:=Wz I.hok ed
 have keys:∀ {l:ZH} {m:List (Zk×Value)},KV l m→m.map (·.1)=l.map (·.1):=by
   intro l
   induction l with
   | nil=>intro m h;cases h;rfl
   | cons p l ih =>
     intro m h
     cases h with
     | cons e t=>rw [List.map_cons,List.map_cons,ih t,← e.1]
 have nd:(kvs.map (·.1)).Nodup:=by rw [← keys kv];exact r5
 exact ZbN hc pins s σ H _ us Q I r ⟨d,kvs,rfl,ed,fun l hl=>q l hl nd⟩
end
end L2
set_option maxHeartbeats 4000000
namespace K14
open PySem L2
section
variable {P:Program}{w:World}{K:KF}{mg:Str→Option Value}{base:Heap}
abbrev ZcZ (P:Program)(w:World)(K:KF)(mg:Str→Option Value)(base:Heap):Prop:=Def P w K mg base 1 "_law_take" ["_law_box_here","_law_many"] (Uw 4611686018427387904)
abbrev M62:Int:=4611686018427387904
theorem pick {p:Addr}{σ:St}{H:Hp}{D:XY}{tn more:Int}{m:Nat}(h0:σ[0]?=some (some (.ref p)))(h4:σ[4]?=some (some (.int tn)))(h6:σ[6]?=some (some (.int more)))(hB:BoxAt H p m)(hm:m≤900000)(hmore:0≤more)(hM:more≤26)
   (k:∀ (σ':St) (more':Int) (H':Hp),(σ'=σ∧more'=more∨σ'=σ.set 6 (some (.int more')))→0≤more'→more'≤more→BoxAt H' p (m+2)→Kp p H H'→D.nx σ' H') :
   tIfS (Zjm (tB (tOp rEq (Ui 4) (tC (.int 0)))) (Zjm (tB (tOp (rI0 fun i j=>.bl (decide (j < i))) (Ui 6) (tC (.int 0)))) (tB (tOp rEq (Zbs (Uw M62) [] E0 (YX (Ui 0) (YX (tC (.int 2)) Wr))) (tC (.int 0))))))
     (ZfO (Zbs (Uw M62) [] E0 (YX (Ui 0) (YX (Ui 6) Wr))) (ZcX 6)) ZjC D σ H:=by
 refine ⟨_,h4,rfl,_,rfl,Yd (fun _=>?_) (fun _=>Yr (k _ _ _ (.inl ⟨rfl,rfl⟩) hmore (Int.le_refl _) (hB.le (by omega)) (Kp.refl p H)))⟩
 refine ⟨_,h6,_,_,rfl,rfl,_,rfl,Yd (fun c=>?_) (fun _=>Yr (k _ _ _ (.inl ⟨rfl,rfl⟩) hmore (Int.le_refl _) (hB.le (by omega)) (Kp.refl p H)))⟩
 have hpos:0 < more:=of_decide_eq_true c
 refine ⟨_,h0,p,m,2,rfl,hB,by omega,by decide,by decide,fun r H1 a0 a1 B1 k1=>⟨rfl,_,rfl,Yd (fun _=>?_) (fun _=>k _ _ _ (.inl ⟨rfl,rfl⟩) hmore (Int.le_refl _) (B1.le (by omega)) k1)⟩⟩
 refine ⟨_,h0,_,h6,p,m+1,more,rfl,B1,by omega,hpos,by show more < 4611686018427387904;omega,fun r2 H2 b0 b1 B2 k2=>?_⟩
 exact k _ r2 _ (.inr rfl) b0 (by omega) (B2.le (by omega)) (k1.trans k2)
def spOf:Sp:=fun vs H Q _=>∃(p:Addr)(m:Nat)(own:Int),vs=[.ref p,.int own]∧BoxAt H p m∧m≤800000∧36≤own∧own≤1000∧∀(x:Str)(H':Hp),x.length=8→x.cps.toList.all YJ=true→BoxAt H' p (m+32)→Kp p H H'→Q (.str x) H'
abbrev nO:List Str:=["_law_box_here","_law_own","_law_letters","_law_left","_law_turn","_law_place","_law_more"]
theorem scO:Zw nO ["_law_box_here","_law_own"] (Zn s_l_of_mark):=⟨rfl,rfl,rfl,by decide +kernel,rfl,by decide +kernel,by decide +kernel⟩
def alf:Str:="_abcdefghijklmnopqrstuvwxyz"
theorem Zev:alf.length=27:=by decide +kernel
theorem Zla:(List.range 27).all (fun k=>decide (k=0) || (match alf.cps.toList[k]? with | some c=>YJ c | none=>false))=true:=by decide +kernel
theorem ZjV {z:Int}(h1:1≤z)(h2:z≤26):∃ c,YI alf.cps.toList z=some c∧YJ c=true:=by
 have hk:z.toNat < 27:=by omega
 have h:=List.all_eq_true.mp Zla z.toNat (List.mem_range.mpr hk)
 have hl:alf.cps.toList.length=27:=by rw [← Xb];exact Zev
 have hz:decide (z.toNat=0)=false:=decide_eq_false (by omega)
 rw [hz,List.getElem?_eq_getElem (by rw [hl];exact hk)] at h
 refine ⟨_,?_,by simpa using h⟩
 have e:YI alf.cps.toList ((z.toNat:Nat):Int)=some alf.cps.toList[z.toNat]:=ZT (List.getElem?_eq_getElem (by rw [hl];exact hk))
 rwa [show ((z.toNat:Nat):Int)=z by omega] at e
theorem ZmD {f:Addr}{fd:FuncData}(F:Fun K "_law_of_mark" "_law_of_mark" s_l_of_mark f fd)(T:Txt K mg)(D:ZcZ P w K mg base):FnOk P w K mg base ZK 2 f fd ["_law_box_here","_law_own"] spOf:=by
 refine F.ok scO (fun vs H Q E h=>?_) (fun cdv A outer s H vs Q E hr h=>?_)
 · obtain ⟨p,m,own,rfl,_⟩:=h;rfl
 obtain ⟨p,m,own,rfl,hB,hm,ho1,ho2,q⟩:=h
 refine' ⟨?t,?h,?r⟩
 case h =>
   conv=>arg 2;whnf
   with_reducible refine' Ze ?a1 (Ze (XF ?c0 ?c1 ?c2 ?c3 (Zj (XF ?d0 ?d1 ?d2 ?d3 (Ze ?b1 (Ze ?b2 (Ze ?b3 (Zj ?b4)))) ?d4)) ?c4) (Zj ?a3))
   case a1=>exact Wo (i:=2) (j:=3) rfl scO.nd rfl rfl (by decide) rfl rfl (Zc (Zo Zmb (Xq (Zc Zd Za)) Zd) (Zc (Zo Xd (pv 1) Zd) Za)) rfl
   case c0=>exact PassesOwn.never
   case c1=>exact rfl
   case c2=>exact XN rfl T.range (Zc Zd Za)
   case c3=>exact Yp (i:=4) scO.nd rfl (Or.inl rfl)
   case c4=>exact fun _=>rfl
   case d0=>exact PassesOwn.never
   case d1=>exact rfl
   case d2=>exact Zho rfl T.range (Zc Zd (Zc Zd (Zc (ZjO Zgx Zd) Za)))
   case d3=>exact Yp (i:=5) scO.nd rfl (Or.inl rfl)
   case d4=>exact fun _=>rfl
   case b1=>exact Zs (i:=6) scO.nd rfl (Or.inl rfl) (ZD (Zcq rfl) rfl T.min (by decide +kernel) (Zc (Zo Xd Zd (ZB ZI (pv 2) (Zo Xd (pv 5) Zd) (fun _ _=>rfl))) (Zc (Zo WG (pv 3) (pv 5)) Za)))
   case b2=>exact Yo (PW.pt (VF (ZE YR (pv 4) Zd (ZJ _)) (VF (ZE Zfm (pv 6) Zd (ZJ _)) (VO (ZE YR (Zx D hr (Zc (pv 0) (Zc Zd Za))) Zd (ZJ _)))))) (Zj (Zs (i:=6) scO.nd rfl (Or.inl rfl) (Zx D hr (Zc (pv 0) (Zc (pv 6) Za))))) ZU
   case b3=>exact Uu (Zo Yi (ZB ZI (pv 2) (Zo Xd (pv 5) Zd) (fun _ _=>rfl)) (pv 6)) (VM (pv 2) (Zo Xd (pv 5) Zd) WQ)
   case b4=>exact Zs (i:=3) scO.nd rfl (Or.inl rfl) (Zo Xd (pv 3) (Zo Xm (pv 6) (pv 5)))
   case a3=>exact Zt (UO PySem.F.plainAttrs_str PySem.F.slot_str_join PySem.F.type_str_join ZeC ZY (Zc (Ur (CompOk.of nO s_l_of_mark rfl rfl (by decide +kernel)) rfl (UA (pv 2)) (fun _ _ _ _ _=>ZB ZbE ZY (pv 7) (fun _ _=>rfl))) Za))
 refine ⟨(by show 1≤sizeLine;decide),fun a ha=>⟨a,8,[.int 1],rfl,rfl,Zg,by decide,by decide,(by show 1 * 8≤sizeLine;decide),fun l hl=>?_⟩⟩
 refine ⟨_,rfl,_,_,rfl,rfl,_,_,rfl,?_⟩
 have s1:=Zm ha (.lst [.int 1])
 have s2:=Zm hl (.lst (List.replicate (Int.toNat 8) [V.int 1]).flatten)
 have hlp:l≠p:=fun e=>by obtain ⟨_,_,_,z,_⟩:=hB.same s1;rw [e,z] at hl;cases hl
 have e0:upd (upd H a (.lst [.int 1])) l (.lst (List.replicate (Int.toNat 8) [V.int 1]).flatten) l=some (.lst ((List.replicate 8 (1:Int)).map V.int)):=Zg
 have B0:=(hB.same s1).same s2
 have k0:Kp p H _:=(s1.trans s2).kp p
 generalize upd (upd H a (.lst [.int 1])) l (.lst (List.replicate (Int.toNat 8) [V.int 1]).flatten)=H0 at *
 refine ⟨2,rfl,by decide,by decide,?_⟩
 refine Wk (fun t σ H'=>∃ y4 y5 y6 ls left,σ=[some (.ref p),some (.int own),some (.ref l),some (.int left),y4,y5,y6]∧ls.length=8∧(∀ z∈ls,(1:Int)≤z∧z≤26)∧0≤left∧left≤1000∧H' l=some (.lst (ls.map V.int))∧BoxAt H' p (m+16 * t)∧Kp p H H')
   ⟨_,_,_,List.replicate 8 1,own - 36,rfl,rfl,fun z hz=>by rw [List.eq_of_mem_replicate hz];decide,by omega,by omega,e0,B0,k0⟩ ?_ ?_
 · rintro t σ H1 ht ⟨y4,y5,y6,ls,left,rfl,hlen,hls,hl0,hl1,el,B1,k1⟩
   have ht2:t < 2:=ht
   refine ⟨1,rfl,8,0,-1,8,rfl,by decide,by decide,by decide,by decide,?_⟩
   refine ZfL (fun i σ H'=>∃ y5 y6 ls left,σ=[some (.ref p),some (.int own),some (.ref l),some (.int left),some (.int (0+(t:Int))),y5,y6]∧ls.length=8∧(∀ z∈ls,(1:Int)≤z∧z≤26)∧0≤left∧left≤1000∧H' l=some (.lst (ls.map V.int))∧BoxAt H' p (m+16 * t+2 * i)∧Kp p H H')
     ⟨_,_,ls,left,rfl,hlen,hls,hl0,hl1,el,B1,k1⟩ ?_ ?_
   · rintro i σ H2 hi ⟨y5,y6,ls,left,rfl,hlen,hls,hl0,hl1,el,B2,k2⟩
     generalize hpl:(8:Int)+(i:Int) * -1=pl
     have hpl1:1≤pl∧pl≤8:=by omega
     have hj:(pl - 1).toNat < ls.length:=by omega
     have hzb:=hls ls[(pl - 1).toNat] (List.getElem_mem hj)
     generalize hzi:ls[(pl - 1).toNat]=zi at hzb
     have hat:YI (ls.map V.int) (pl - 1)=some (.int zi):=by
       have z:YI (ls.map V.int) (((pl - 1).toNat:Nat):Int)=some (.int zi):=ZT (by rw [List.getElem?_map,List.getElem?_eq_getElem hj,hzi];rfl)
       rwa [show (((pl - 1).toNat:Nat):Int)=pl - 1 by omega] at z
     have hix:Wv (ls.map V.int).length (pl - 1)=some (pl - 1).toNat:=by
       unfold Wv;rw [if_pos (by omega),if_pos (by rw [List.length_map,hlen];omega)]
     refine ⟨_,rfl,_,rfl,_,_,rfl,rfl,l,_,_,_,rfl,rfl,SqL.of el,hat,_,_,rfl,rfl,_,rfl,_,rfl,_,_,rfl,rfl,⟨by omega,by omega⟩,_,_,rfl,?_⟩
     have hdiv0:0≤left / pl:=Int.ediv_nonneg hl0 (by omega)
     have hdiv1:left / pl * pl≤left:=Int.ediv_mul_le left (by omega)
     generalize hq:left / pl=dq at *
     generalize hmr:(if dq < 26 - zi then dq else 26 - zi)=more
     have hmore:0≤more∧more≤26 - zi∧more≤dq:=by rw [← hmr];split<;>omega
     refine pick (p:=p) (tn:=0+(t:Int)) (more:=more) (m:=m+16 * t+2 * i) rfl rfl (by rw [← hmr];rfl) B2 (by omega) hmore.1 (by omega) fun σ' more' H3 hσ m0 m1 B3 k3=>?_
     have hσ':σ'=[some (.ref p),some (.int own),some (.ref l),some (.int left),some (.int (0+(t:Int))),some (.int pl),some (.int more')]:=by
       rcases hσ with ⟨rfl,rfl⟩ | rfl
       · rw [← hmr];rfl
       · rfl
     subst hσ'
     have el3:=k3 l _ hlp el
     have hmp:more' * pl≤left:=Int.le_trans (Int.mul_le_mul_of_nonneg_right (show more'≤dq by omega) (by omega)) hdiv1
     have hmp0:0≤more' * pl:=Int.mul_nonneg m0 (by omega)
     refine ⟨_,rfl,_,rfl,_,_,rfl,rfl,l,_,_,_,rfl,rfl,SqL.of el3,hat,_,rfl,_,_,rfl,rfl,_,rfl,_,rfl,_,_,rfl,rfl,l,_,_,_,rfl,rfl,el3,hix,?_⟩
     refine ⟨_,rfl,_,rfl,_,rfl,_,_,rfl,rfl,.inl ⟨by omega,by omega⟩,_,_,rfl,rfl,?_⟩
     refine ⟨some (.int pl),some (.int more'),ls.set (pl - 1).toNat (zi+more'),left - more' * pl,rfl,by rw [List.length_set];exact hlen,fun z hz=>?_,by omega,by omega,?_,?_,?_⟩
     · rcases List.mem_or_eq_of_mem_set hz with h | h
       · exact hls z h
       · rw [h];omega
     · rw [List.map_set];exact Zg
     · obtain ⟨c1,c2,c3,c4,c5⟩:=B3
       exact ⟨c1,c2,c3,by rw [Zh hlp.symm];exact c4,c5.1,c5.2.1,by have:=c5.2.2;omega⟩
     · intro b o nb hb
       rw [Zh (fun e=>?_)]
       · exact k3 b o nb (k2 b o nb hb)
       · rw [e] at hb
         have hh:=s1 l _ hb
         rw [hh] at hl;cases hl
   · rintro σ H2 ⟨y5,y6,ls,left,rfl,hlen,hls,hl0,hl1,el,B2,k2⟩
     exact ⟨_,_,_,ls,left,rfl,hlen,hls,hl0,hl1,el,B2.le (by show m+16 * t+2 * 8≤m+16 * (t+1);omega),k2⟩
 · rintro σ H1 ⟨y4,y5,y6,ls,left,rfl,hlen,hls,hl0,hl1,el,B1,k1⟩
   refine ⟨rfl,_,rfl,l,rfl,⟨_,SqL.of el⟩,fun Dl hD=>?_⟩
   have hne:l≠Dl:=Zp el hD
   refine ZcL (K:=K) (a:=l) (xs:=ls.map V.int) (by rw [List.length_map,hlen];decide)
     (fun i ys H'=>∃ zs:List Str,ys=zs.map V.str∧zs.length=i∧(∀ z∈zs,∃ c,z=⟨#[c]⟩∧YJ c=true)∧H'=upd H1 Dl (.lst ys))
     ⟨[],rfl,rfl,(fun _ h=>nomatch h),rfl⟩ ?_ ?_ ?_
   · rintro i ys H' ⟨zs,rfl,hz,_,rfl⟩
     exact ⟨by rw [List.length_map];exact hz,SqL.of (by rw [Zh hne];exact el)⟩
   · rintro i x ys H' hx ⟨zs,rfl,hz,hall,rfl⟩
     obtain ⟨z,hzm,rfl⟩:=List.mem_map.mp (List.mem_of_getElem? hx)
     obtain ⟨c,hc,hlc⟩:=ZjV (hls z hzm).1 (hls z hzm).2
     refine ⟨_,rfl,alf,z,c,rfl,rfl,by rw [Zev];decide,hc,Zg,zs++[⟨#[c]⟩],by rw [List.map_append];rfl,by rw [List.length_append,hz];rfl,?_,ZkK⟩
     intro y hy
     rcases List.mem_append.mp hy with h | h
     · exact hall y h
     · rw [List.mem_singleton.mp h];exact ⟨c,rfl,hlc⟩
   · rintro ys H' ⟨zs,rfl,hz,hall,rfl⟩
     rw [List.length_map,hlen] at hz
     have ones:∀ l:List Str,(∀ z∈l,∃ c,z=⟨#[c]⟩∧YJ c=true)→(l.map (·.length)).sum=l.length∧(l.flatMap (·.cps.toList)).length=l.length∧(l.flatMap (·.cps.toList)).all YJ=true:=by
       intro l
       induction l with
       | nil=>intro _;exact ⟨rfl,rfl,rfl⟩
       | cons z r ih =>
         intro h
         obtain ⟨c,rfl,hc⟩:=h z List.mem_cons_self
         obtain ⟨g1,g2,g3⟩:=ih fun y hy=>h y (List.mem_cons_of_mem _ hy)
         refine ⟨?_,?_,?_⟩
         · rw [List.map_cons,List.sum_cons,g1,List.length_cons];show 1+_=_;omega
         · have e0:((⟨#[c]⟩:Str)::r).flatMap (·.cps.toList)=c::r.flatMap (·.cps.toList):=rfl
           rw [e0,List.length_cons,List.length_cons,g2]
         · rw [List.flatMap_cons,List.all_append,g3];simp [hc]
     obtain ⟨g1,g2,g3⟩:=ones zs hall
     refine ⟨_,Dl,zs,rfl,rfl,SqL.of Zg,?_,q _ _ ?_ ?_ (B1.same (Zm hD _)) (k1.trans ((Zm hD _).kp p))⟩
     · rw [g1,hz];decide
     · rw [Xb];show (Txt.join (Str.ofString "") zs).cps.toList.length=8;rw [WA,g2,hz]
     · show (Txt.join (Str.ofString "") zs).cps.toList.all YJ=true;rw [WA];exact g3
end
def InvN (p d:Addr)(m:Nat)(many way step low size first:Int)(H:Hp)(i:Nat)(σ:St)(H':Hp):Prop :=
 ∃ y8 y9 y10 y11 kvs,σ=[some (.ref p),some (.int many),some (.int way),some (.ref d),some (.int step),some (.int low),some (.int size),some (.int first),y8,y9,y10,y11]∧H' d=some (.dK kvs) ∧
   (∀ q∈kvs,∃ x,q.1=Sum.inr x∧Yx x)∧(kvs.length≤i∧(1≤i→kvs≠[]))∧BoxAt H' p (m+5+40 * i)∧Kp p H H'
theorem InvN.put {p d:Addr}{m:Nat}{many way step low size first:Int}{H H1:Hp}{i:Nat}{kvs:ZH}(x:Str)(y8 y9 y10 y11:Option V)(hx:Yx x)(hd:H1 d=some (.dK kvs))(hk:∀ q∈kvs,∃ x,q.1=Sum.inr x∧Yx x)(hl:kvs.length≤i)
   (hB:BoxAt H1 p (m+5+40 * i+40)) (k:Kp p H H1) (hn:H d=none) (hdp:d≠p) :
   InvN p d m many way step low size first H (i+1) [some (.ref p),some (.int many),some (.int way),some (.ref d),some (.int step),some (.int low),some (.int size),some (.int first),y8,y9,y10,y11] (upd H1 d (.dK (ZZ kvs (Sum.inr x) (.bl true)))):=by
 refine ⟨_,_,_,_,_,rfl,Zg,fun q hq=>?_,⟨Nat.le_trans ZiB (by omega),fun _=>ZkC⟩,?_,fun b o nb hb=>?_⟩
 · rcases Ziu hq with e | ⟨r,hr,e⟩
   · exact ⟨x,e,hx⟩
   · obtain ⟨y,e2,hy⟩:=hk r hr
     exact ⟨y,e.trans e2,hy⟩
 · obtain ⟨c1,c2,c3,c4,c5,c6,c7⟩:=hB
   exact ⟨c1,c2,c3,by rw [Zh hdp.symm];exact c4,c5,c6,by omega⟩
 · rw [Zh (Zp hb hn)];exact k b o nb hb
def a6:Str:="abcdef"
theorem ZhP:a6.length=6:=by decide +kernel
theorem Zml:a6.cps.toList.all YJ=true:=by decide +kernel
theorem Zef {α:Type}{xs:List α}{r:Int}(h0:0≤r)(h1:r < (xs.length:Int)):∃ v,YI xs r=some v∧v∈xs:=by
 have hk:r.toNat < xs.length:=by omega
 have z:YI xs ((r.toNat:Nat):Int)=some xs[r.toNat]:=ZT (List.getElem?_eq_getElem hk)
 have e:((r.toNat:Nat):Int)=r:=by omega
 rw [e] at z
 exact ⟨_,z,List.getElem_mem hk⟩
theorem Zfe {x:Str}{n:Nat}(hl:x.length=n)(ha:x.cps.toList.all YJ=true){r:Int}(h0:0≤r)(h1:r < n):∃ c,YI x.cps.toList r=some c∧YJ c=true:=by
 obtain ⟨c,hc,hm⟩:=Zef (xs:=x.cps.toList) h0 (by rw [← Xb,hl];exact h1)
 exact ⟨c,hc,List.all_eq_true.mp ha c hm⟩
theorem Zfg {x:Str}{c:Nat}(h:x.cps.toList.all YJ=true)(hc:YJ c=true):(x++(⟨#[c]⟩:Str)).cps.toList.all YJ=true:=by
 rw [Zcp,List.all_append,h]
 show (true&&(YJ c&&true))=true
 rw [hc];rfl
def ZmK (σ:List (Option V)):Nat:=match (σ[9]?:Option (Option V)) with
 | some (some (.int m))=>m.toNat
 | _=>0
section
variable {P:Program}{w:World}{K:KF}{mg:Str→Option Value}{base:Heap}
def Zff:Sp:=fun vs H Q _=>∃(p:Addr)(m:Nat)(many:Int),vs=[.ref p,.int many]∧BoxAt H p m∧m≤700000∧0≤many∧many≤50 ∧
 ∀ (l:Addr) (H':Hp) (xs:List Str),H l=none→H' l=some (.lst (xs.map V.str))→xs.length≤50→(1≤many→xs≠[])→(∀ x∈xs,Yx x)→xs.Nodup→BoxAt H' p (m+3000)→Kp p H H'→Q (.ref l) H'
abbrev nNm:List Str:=["_law_box_here","_law_many","_law_way","_law_found","_law_step","_law_low","_law_size","_law_first","_law_k","_law_number","_law_letters","_law_place"]
theorem scNm:Zw nNm ["_law_box_here","_law_many"] (Zn s_l_names):=⟨rfl,rfl,rfl,by decide +kernel,rfl,by decide +kernel,by decide +kernel⟩
theorem Zjk {f:Addr}{fd:FuncData}(F:Fun K "_law_names" "_law_names" s_l_names f fd)(T:Txt K mg)(D1:ZcZ P w K mg base)(DO:Def P w K mg base 2 "_law_of_mark" ["_law_box_here","_law_own"] spOf):FnOk P w K mg base ZK 3 f fd ["_law_box_here","_law_many"] Zff:=by
 refine F.ok scNm (fun vs H Q E h=>?_) (fun cdv A outer s H vs Q E hr h=>?_)
 · obtain ⟨p,m,many,rfl,_⟩:=h;rfl
 obtain ⟨p,m,many,rfl,hB,hm,hm0,hm1,q⟩:=h
 have D:=D1.mono (show 1≤2 by decide)
 refine' ⟨?t,?h,?r⟩
 case h =>
   conv=>arg 2;whnf
   with_reducible refine' Ze ?a1 (Ze ?a2 (Ze ?a3 (Ze (XF ?c0 ?c1 ?c2 ?c3 (Zj (Yo ?i0 (Ze ?b1 (Ze (ZaO ?w0 ?w1 (Ze ?w2 (Zj ?w3))) (Zj ?b3))) (Zj (Yo ?i1 (Ze ?e1 (Ze (XF ?d0 ?d1 ?d2 ?d3 (Zj ?d5) ?d4) (Zj ?e3))) (Zj ?g1))))) ?c4) (Zj ?a5))))
   case a1=>exact Wo (i:=2) (j:=3) rfl scNm.nd rfl rfl (by decide) rfl rfl (Zc (Zx D hr (Zc (pv 0) (Zc Zd Za))) (Zc ZhU Za)) rfl
   case a2=>exact Wo (i:=4) (j:=5) rfl scNm.nd rfl rfl (by decide) rfl rfl (Zc (ZB ZI (Xq (Ww Zd (Ww Zd (Ww Zd (Ww Zd Za rfl) rfl) rfl) rfl)) (Zx D hr (Zc (pv 0) (Zc Zd Za))) (fun _ _=>rfl)) (Zc (Zo Yi Zd (Zx D hr (Zc (pv 0) (Zc Zd Za)))) Za)) rfl
   case a3=>exact Wo (i:=6) (j:=7) rfl scNm.nd rfl rfl (by decide) rfl rfl (Zc (Zo Yi Zd (Zx D hr (Zc (pv 0) (Zc Zd Za)))) (Zc (Zx D hr (Zc (pv 0) (Zc Zd Za))) Za)) rfl
   case c0=>exact PassesOwn.never
   case c1=>exact rfl
   case c2=>exact XN rfl T.range (Zc (pv 1) Za)
   case c3=>exact Yp (i:=8) scNm.nd rfl (Or.inl rfl)
   case c4=>exact fun _=>rfl
   case i0=>exact ZE YR (pv 2) Zd (ZJ _)
   case b1=>exact Wo (i:=9) (j:=10) rfl scNm.nd rfl rfl (by decide) rfl rfl (Zc (Zo Yi Zd (Zx D hr (Zc (pv 0) (Zc (Zo Zlw (Zo VB Zd Zd) (Zo Xm Zd (Zx D hr (Zc (pv 0) (Zc Zd Za))))) Za)))) (Zc ZY Za)) rfl
   case w0=>exact PassesOwn.never
   case w1=>exact PW.pt (VF (ZE Zfm (pv 9) Zd (ZJ _)) (VO (ZE Zbo (ZD ZdE rfl T.len PySem.boot_len (Zc (pv 10) Za)) Zd (ZJ _))))
   case w2=>exact Zs (i:=10) scNm.nd rfl (Or.inl rfl) (Zo ZbD (pv 10) (ZB ZbE ZY (Zo Xo (pv 9) Zd) (fun _ _=>rfl)))
   case w3=>exact Zs (i:=9) scNm.nd rfl (Or.inl rfl) (Zo WG (pv 9) Zd)
   case b3=>exact UH (XS hr) (pv 3) (pv 10) XR rfl
   case i1=>exact ZE YR (pv 2) Zd (ZJ _)
   case e1=>exact Wo (i:=9) (j:=10) rfl scNm.nd rfl rfl (by decide) rfl rfl (Zc (Zo Xo (Zo Yi (pv 7) (Zo Xm Zd (pv 8))) Zd) (Zc ZY Za)) rfl
   case d0=>exact PassesOwn.never
   case d1=>exact rfl
   case d2=>exact XN rfl T.range (Zc (pv 6) Za)
   case d3=>exact Yp (i:=11) scNm.nd rfl (Or.inl rfl)
   case d4=>exact fun _=>rfl
   case d5=>exact Wo (i:=10) (j:=9) rfl scNm.nd rfl rfl (by decide) rfl rfl (Zc (Zo ZbD (pv 10) (ZB ZbE ZY (Zo Xo (pv 9) Zd) (fun _ _=>rfl))) (Zc (Zo WG (pv 9) Zd) Za)) rfl
   case e3=>exact UH (XS hr) (pv 3) (pv 10) XR rfl
   case g1=>exact UH (XS hr) (pv 3) (Zx DO hr (Zc (pv 0) (Zc (Zo Yi (pv 5) (Zo Xm (pv 4) (Zx D hr (Zc (pv 0) (Zc (Zo Yi Zd (Zo WG (Zo Xd Zd (pv 5)) (pv 4))) Za))))) Za))) XR rfl
   case a5=>exact Zt (ZX (ZaV rfl) rfl T.list (by decide +kernel) (Zc (pv 3) Za))
 refine ⟨_,rfl,p,m,4,rfl,hB,by omega,by decide,by decide,fun way H1 a0 a1 B1 k1=>fun d hd=>⟨_,_,rfl,?_⟩⟩
 have hdp:d≠p:=fun e=>by obtain ⟨_,_,_,z,_⟩:=B1;rw [e,z] at hd;cases hd
 have hdn:H d=none:=by
   cases e:H d with
   | none=>rfl
   | some o=>have:=k1 d o hdp e;rw [this] at hd;cases hd
 have ed1:upd H1 d (.dK []) d=some (.dK []):=Zg
 have Bd:=B1.same (Zm hd (.dK []))
 have kd:Kp p H _:=k1.trans ((Zm hd (.dK [])).kp p)
 generalize upd H1 d (.dK [])=H1' at *
 refine ⟨(by show 4≤sizeLine;decide),fun a ha=>?_⟩
 have hap:a≠p:=fun e=>by obtain ⟨_,_,_,z,_⟩:=Bd;rw [e,z] at ha;cases ha
 refine ⟨_,rfl,p,m+1,4,rfl,Bd.same (Zm ha _),by omega,by decide,by decide,fun r2 H2 b0 b1 B2 k2=>?_⟩
 obtain ⟨v,hv,hmem⟩:=Zef (xs:=([.int 4,.int 16,.int 64,.int 256]:List V)) b0 b1
 obtain ⟨step,rfl,hs1,hs2⟩:∃ st:Int,v=.int st∧4≤st∧st≤256:=by
   simp only [List.mem_cons,List.not_mem_nil,or_false] at hmem
   rcases hmem with rfl | rfl | rfl | rfl
   · exact ⟨4,rfl,by decide,by decide⟩
   · exact ⟨16,rfl,by decide,by decide⟩
   · exact ⟨64,rfl,by decide,by decide⟩
   · exact ⟨256,rfl,by decide,by decide⟩
 refine ⟨a,_,_,_,rfl,rfl,SqL.of (k2 a _ hap Zg),hv,_,rfl,p,m+2,256,rfl,B2,by omega,by decide,by decide,fun r3 H3 c0 c1 B3 k3=>⟨_,_,rfl,rfl,_,_,rfl,?_⟩⟩
 refine ⟨_,rfl,p,m+3,3,rfl,B3,by omega,by decide,by decide,fun r4 H4 d0 d1 B4 k4=>⟨_,_,rfl,rfl,_,rfl,p,m+4,1296,rfl,B4,by omega,by decide,by decide,fun first H5 e0 e1 B5 k5=>⟨_,_,rfl,?_⟩⟩⟩
 have hlow:36≤36+r3∧36+r3≤291:=by omega
 have hsize:3≤3+r4∧3+r4≤5:=by omega
 have K5:Kp p H H5:=((((kd.trans ((Zm ha _).kp p)).trans k2).trans k3).trans k4).trans k5
 have ed5:H5 d=some (.dK []):=k5 d _ hdp (k4 d _ hdp (k3 d _ hdp (k2 d _ hdp (Zm ha _ d _ ed1))))
 refine ⟨_,rfl,many,rfl,by omega,by omega,?_⟩
 refine Wk (InvN p d m many way step (36+r3) (3+r4) first H) ⟨_,_,_,_,[],rfl,ed5,(fun _ h=>nomatch h),⟨Nat.le_refl _,fun z=>absurd z (by decide)⟩,B5.le (by omega),K5⟩ ?_ ?_
 · rintro i σ H6 hi ⟨y8,y9,y10,y11,kvs,rfl,ed,hk,⟨hl,_⟩,B6,k6⟩
   have hi50:i < 50:=by omega
   have hkl:kvs.length < sizeLine:=Nat.lt_of_le_of_lt (show kvs.length≤50 by omega) (by decide)
   refine ⟨_,rfl,rfl,_,rfl,Yd (fun cw=>?_) (fun cw=>?_)⟩
   · -- any letters
     refine ⟨_,rfl,_,_,rfl,rfl,⟨by decide,by decide,by decide⟩,_,rfl,p,_,18,rfl,B6,by omega,by decide,by decide,fun r7 H7 f0 f1 B7 k7=>?_⟩
     refine ⟨_,_,rfl,rfl,.inl ⟨by decide,by decide⟩,_,_,rfl,rfl,(by show (0:Int)≤2 * r7;omega),p,_,_,rfl,B7,by omega,?_,?_,fun r8 H8 g0 g1 B8 k8=>⟨_,_,rfl,rfl,_,_,rfl,?_⟩⟩
     · obtain ⟨k,hk1,hk2⟩:∃ k:Nat,(2 * r7).toNat=k∧k≤34:=⟨_,rfl,by omega⟩
       show (0:Int) < 26 ^ (8:Int).toNat / 2 ^ (2 * r7).toNat
       rw [hk1]
       have h1:(2 ^ k:Nat)≤2 ^ 34:=Nat.pow_le_pow_right (by decide) hk2
       have h2:0 < (2 ^ k:Nat):=Nat.pow_pos (by decide)
       have h3:((2:Int) ^ k)=((2 ^ k:Nat):Int):=by push_cast;rfl
       have h4:(26:Int) ^ (8:Int).toNat=208827064576:=by decide
       rw [h3,h4]
       generalize (2 ^ k:Nat)=z at *
       have:=Int.le_ediv_of_mul_le (show (0:Int) < z by omega) (show 1 * (z:Int)≤208827064576 by omega)
       omega
     · show (26:Int) ^ (8:Int).toNat / 2 ^ (2 * r7).toNat < 4611686018427387904
       have h4:(26:Int) ^ (8:Int).toNat=208827064576:=by decide
       have h5:(0:Int) < 2 ^ (2 * r7).toNat:=Int.pow_pos (by decide)
       rw [h4]
       have:=Int.ediv_le_self (b:=(2:Int) ^ (2 * r7).toNat) (show (0:Int)≤208827064576 by decide)
       omega
     have ed8:=k8 d _ hdp (k7 d _ hdp ed)
     refine Zil (fun σ H'=>∃ (nn:Int) (x:Str),σ=[some (.ref p),some (.int many),some (.int way),some (.ref d),some (.int step),some (.int (36+r3)),some (.int (3+r4)),some (.int first),some (.int (0+(i:Int))),some (.int nn),some (.str x),y11]∧H'=H8∧0≤nn∧x.length≤8∧x.cps.toList.all YJ=true∧(x.length=0→0 < nn)) (fun σ _=>ZmK σ)
       ⟨1+r8,Str.ofString "",rfl,rfl,by omega,by decide,by decide +kernel,fun _=>by omega⟩ ?_ ?_
     · rintro σ H9 ⟨nn,x,rfl,rfl,hn0,hx8,hxa,hxn⟩
       have hfin:1≤x.length→InvN p d m many way step (36+r3) (3+r4) first H (i+1) [some (.ref p),some (.int many),some (.int way),some (.ref d),some (.int step),some (.int (36+r3)),some (.int (3+r4)),some (.int first),some (.int (0+(i:Int))),some (.int nn),some (.str x),y11] (upd H9 d (.dK (ZZ kvs (Sum.inr x) (.bl true)))):=fun h1 =>
         InvN.put x _ _ _ _ ⟨h1,hx8,hxa⟩ ed8 hk hl (B8.le (by omega)) ((k6.trans k7).trans k8) hdn hdp
       refine ⟨_,rfl,_,_,rfl,rfl,_,rfl,Yd (fun c1=>?_) (fun c1=>Yr ⟨_,rfl,_,rfl,d,_,rfl,DPut.k (k:=Sum.inr x) ed8 hkl,hfin ?_⟩)⟩
       · have hpos:0 < nn:=of_decide_eq_true c1
         refine ⟨_,rfl,x,rfl,UL (by omega),_,_,rfl,rfl,_,rfl,Yd (fun c2=>?_) (fun c2=>⟨_,rfl,_,rfl,d,_,rfl,DPut.k (k:=Sum.inr x) ed8 hkl,hfin ?_⟩)⟩
         · have hx7:(x.length:Int) < 8:=of_decide_eq_true c2
           obtain ⟨c,hc,hcl⟩:=Zfe Zfh ZjR (r:=nn % 26) (Int.emod_nonneg _ (by decide)) (Int.emod_lt_of_pos _ (by decide))
           refine ⟨_,rfl,_,rfl,_,_,rfl,rfl,(by show (0:Int) < 26;decide),a26,_,c,rfl,rfl,by rw [Zfh];decide,hc,_,_,rfl,rfl,by rw [Uo];exact UL (by omega),?_⟩
           refine ⟨_,rfl,_,_,rfl,rfl,⟨by decide,by decide⟩,⟨nn / 26,x++⟨#[c]⟩,rfl,rfl,Int.ediv_nonneg hn0 (by decide),by rw [Yz,Uo];omega,Zfg hxa hcl,fun z=>by rw [Yz,Uo] at z;omega⟩,?_⟩
           show (nn / 26).toNat < nn.toNat
           omega
         · have:¬ ((x.length:Int) < 8):=fun z=>c2 (decide_eq_true z)
           omega
       · have:¬ (0 < nn):=fun z=>c1 (decide_eq_true z)
         rcases Nat.eq_zero_or_pos x.length with z | z
         · have:=hxn z;omega
         · exact z
     · rintro σ H9 Q1 Q2 hq ⟨v,e,i1,j1,e1,e2,c,e3,h⟩
       refine ⟨v,e,i1,j1,e1,e2,c,e3,?_⟩
       cases c with
       | true =>
         obtain ⟨v2,f1,z,f2,f3,i2,j2,f4,f5,c2,f6,h2⟩:=(show _ from h)
         exact Xg ⟨v2,f1,z,f2,f3,i2,j2,f4,f5,c2,f6,hq _ _ h2⟩
       | false=>exact Yr (hq _ _ (show Q1 false H9 from h))
   · refine ⟨_,rfl,rfl,_,rfl,Yd (fun cw2=>?_) (fun cw2=>?_)⟩
     · -- few letters
       refine ⟨_,rfl,_,rfl,_,_,rfl,rfl,.inl ⟨by decide,by decide⟩,_,_,rfl,rfl,_,_,rfl,rfl,(by show (0:Int) < 1296;decide),_,_,rfl,?_⟩
       refine ⟨_,rfl,3+r4,rfl,by omega,by omega,?_⟩
       refine Wk (fun j σ H'=>∃ (nn:Int) (x:Str) (y:Option V),σ=[some (.ref p),some (.int many),some (.int way),some (.ref d),some (.int step),some (.int (36+r3)),some (.int (3+r4)),some (.int first),some (.int (0+(i:Int))),some (.int nn),some (.str x),y]∧H'=H6∧x.length=j∧x.cps.toList.all YJ=true)
         ⟨_,Str.ofString "",_,rfl,rfl,by decide,by decide +kernel⟩ ?_ ?_
       · rintro j σ H7 hj ⟨nn,x,y,rfl,rfl,hxl,hxa⟩
         have hj5:j < 5:=by omega
         obtain ⟨c,hc,hcl⟩:=Zfe ZhP Zml (r:=nn % 6) (Int.emod_nonneg _ (by decide)) (Int.emod_lt_of_pos _ (by decide))
         refine ⟨_,rfl,_,rfl,_,_,rfl,rfl,(by show (0:Int) < 6;decide),a6,_,c,rfl,rfl,by rw [ZhP];decide,hc,_,_,rfl,rfl,by rw [Uo];exact UL (by omega),?_⟩
         exact ⟨_,rfl,_,_,rfl,rfl,⟨by decide,by decide⟩,_,_,rfl,nn / 6,x++⟨#[c]⟩,_,rfl,rfl,by rw [Yz,Uo,hxl],Zfg hxa hcl⟩
       · rintro σ H7 ⟨nn,x,y,rfl,rfl,hxl,hxa⟩
         have hx3:3≤x.length∧x.length≤5:=by omega
         exact ⟨_,rfl,_,rfl,d,_,rfl,DPut.k (k:=Sum.inr x) ed hkl,InvN.put x _ _ _ _ ⟨by omega,by omega,hxa⟩ ed hk hl (B6.le (by omega)) k6 hdn hdp⟩
     · -- of a mark
       have hst:0 < step:=by omega
       have hq0:0≤(936 - (36+r3)) / step:=Int.ediv_nonneg (by omega) (by omega)
       have hq1:(936 - (36+r3)) / step * step≤936 - (36+r3):=Int.ediv_mul_le _ (by omega)
       have hq2:(936 - (36+r3)) / step≤936:=Int.le_trans (Int.ediv_le_self _ (by omega)) (by omega)
       refine ⟨_,rfl,_,rfl,_,rfl,_,rfl,_,rfl,_,rfl,_,_,rfl,rfl,_,rfl,_,_,rfl,rfl,⟨by omega,by omega⟩,_,_,rfl,rfl,p,_,_,rfl,B6,by omega,?_,?_,fun r7 H7 f0 f1 B7 k7=>?_⟩
       · show (0:Int) < 1+(936 - (36+r3)) / step;omega
       · show 1+(936 - (36+r3)) / step < 4611686018427387904;omega
       have f1':r7≤(936 - (36+r3)) / step:=by
         have:r7 < 1+(936 - (36+r3)) / step:=f1
         omega
       have hown1:step * r7≤936 - (36+r3):=by
         rw [Int.mul_comm]
         exact Int.le_trans (Int.mul_le_mul_of_nonneg_right f1' (by omega)) hq1
       have hown0:0≤step * r7:=Int.mul_nonneg (by omega) f0
       refine ⟨_,_,rfl,rfl,.inl ⟨by omega,by omega⟩,_,_,rfl,rfl,p,_,_,rfl,B7,by omega,by omega,by omega,fun x H8 hx8 hxa B8 k8=>?_⟩
       have ed8:=k8 d _ hdp (k7 d _ hdp ed)
       exact ⟨d,_,rfl,DPut.k (k:=Sum.inr x) ed8 hkl,InvN.put x _ _ _ _ ⟨by omega,by omega,hxa⟩ ed8 hk hl (B8.le (by omega)) ((k6.trans k7).trans k8) hdn hdp⟩
 · rintro σ H6 ⟨y8,y9,y10,y11,kvs,rfl,ed,hk,⟨hl,hne⟩,B6,k6⟩
   have hn50:many.toNat≤50:=by omega
   refine ⟨_,rfl,d,kvs,rfl,ed,fun l hl' hndk=>?_⟩
   have keys:∀ kvs:List (Zk×V),(∀ q∈kvs,∃ x,q.1=Sum.inr x∧Yx x)→∃ xs:List Str,(kvs.map fun q=>kV q.1)=xs.map V.str∧xs.length=kvs.length∧∀ x∈xs,Yx x:=by
     intro kvs
     induction kvs with
     | nil=>intro _;exact ⟨[],rfl,rfl,fun _ h=>nomatch h⟩
     | cons q r ih =>
       intro h
       obtain ⟨x,e,hx⟩:=h q List.mem_cons_self
       obtain ⟨xs,e1,e2,e3⟩:=ih fun z hz=>h z (List.mem_cons_of_mem _ hz)
       refine ⟨x::xs,?_,by rw [List.length_cons,List.length_cons,e2],fun y hy=>?_⟩
       · rw [List.map_cons,List.map_cons,e1,e];rfl
       · rcases List.mem_cons.mp hy with z | z
         · rw [z];exact hx
         · exact e3 y z
   obtain ⟨xs,e1,e2,e3⟩:=keys kvs hk
   have hlp:l≠p:=fun z=>by obtain ⟨_,_,_,y,_⟩:=B6;rw [z,y] at hl';cases hl'
   have hlf:H l=none:=by
     cases e:H l with
     | none=>rfl
     | some o=>rw [k6 l o hlp e] at hl';cases hl'
   have hxnd:xs.Nodup:=by
     have e4:(kvs.map fun q=>kV q.1)=(kvs.map (·.1)).map kV:=by rw [List.map_map];rfl
     have h1:((kvs.map (·.1)).map kV).Nodup:=by
       rw [List.Nodup,List.pairwise_map]
       refine hndk.imp fun h z=>h ?_
       rename_i a b
       cases a<;>cases b<;>first | (cases z;rfl) | cases z
     rw [← e4,e1,List.Nodup,List.pairwise_map] at h1
     exact h1.imp fun h z=>h (by rw [z])
   exact q l _ xs hlf (by rw [← e1];exact Zg) (by omega) (fun h1 z=>hne (by omega) (by rw [z] at e2;exact List.length_eq_zero_iff.mp e2.symm)) e3 hxnd ((B6.same (Zm hl' _)).le (by omega)) (k6.trans ((Zm hl' _).kp p))
end
end K14
set_option maxHeartbeats 4000000
namespace K14
open PySem L2
section
variable {P:Program}{w:World}{K:KF}{mg:Str→Option Value}{base:Heap}
abbrev vSigns:Str:=ZjL (Xu s_l_value)
theorem vs_len:vSigns.length=94:=by decide +kernel
theorem ZlR:vSigns.cps.toList.all sgn=true:=by decide +kernel
abbrev nVv:List Str:=["_law_box_here","_law_way","_law_signs"]
theorem scVal:Zw nVv ["_law_box_here"] (Zn s_l_value):=⟨rfl,rfl,rfl,by decide +kernel,rfl,by decide +kernel,by decide +kernel⟩
theorem Zix {f:Addr}{fd:FuncData}(F:Fun K "_law_value" "_law_value" s_l_value f fd)(T:Txt K mg)(D:ZcZ P w K mg base):FnOk P w K mg base ZK 2 f fd ["_law_box_here"] ZeO:=by
 refine F.ok scVal (fun vs H Q E h=>?_) (fun cdv A outer s H vs Q E hr h=>?_)
 · obtain ⟨p,n,rfl,_⟩:=h;rfl
 obtain ⟨p,n,rfl,hB,hn,q⟩:=h
 refine ⟨_,Ze (Zs (i:=1) scVal.nd rfl (Or.inl rfl) (Zx D hr (Zc (pv 0) (Zc Zd Za))))
   (Ze (Yo (ZE Zbo (pv 1) Zd (ZJ _)) (Zj (Zt (Zo Xd (Zx D hr (Zc (pv 0) (Zc Zd Za))) Zd))) ZU)
   (Ze (Yo (ZE YR (pv 1) Zd (ZJ _)) (Zj (Zt (ZB ZI (Xq (Ww (Zo Xd (Zo VB Zd Zd) Zd) (Ww (Zo Xd Zd (Zo VB Zd Zd)) (Ww (Zo VB Zd Zd) (Ww Zd Za rfl) rfl) rfl) rfl)) (Zx D hr (Zc (pv 0) (Zc Zd Za))) (fun _ _=>rfl)))) ZU)
   (Ze (Yo (ZE YR (pv 1) Zd (ZJ _)) (Zj (Zt (ZB ZI (Xq (Ww ZY (Ww ZY (Ww ZY (Ww ZY (Ww ZY (Ww ZY (Ww ZY (Ww ZY Za rfl) rfl) rfl) rfl) rfl) rfl) rfl) rfl)) (Zx D hr (Zc (pv 0) (Zc Zd Za))) (fun _ _=>rfl)))) ZU)
   (Ze (Zs (i:=2) scVal.nd rfl (Or.inr rfl) ZY)
   (Zj (Zt (UO PySem.F.plainAttrs_str PySem.F.slot_str_join PySem.F.type_str_join ZeC ZY (Zc (Ur (CompOk.of nVv s_l_value rfl rfl (by decide +kernel)) rfl
     (XN rfl T.range (Zc (Zx D hr (Zc (pv 0) (Zc (Wc (ZE YR (pv 1) Zd (ZJ _)) Zd Zd) Za))) Za))
     (fun _ _ _ _ _=>ZB ZbE (pv 2) (Zx D hr (Zc (pv 0) (Zc (ZD (Zgy (K:=K) rfl) rfl T.len PySem.boot_len (Zc (pv 2) Za)) Za))) (fun _ _=>rfl))) Za)))))))),?_⟩
 refine ⟨_,rfl,p,n,6,rfl,hB,by omega,by decide,by decide,fun r1 H1 a0 a1 B1 k1=>?_⟩
 refine ⟨_,rfl,_,_,rfl,rfl,_,rfl,Yd (fun c=>?_) (fun c=>?_)⟩
 · refine ⟨_,rfl,p,n+1,7,rfl,B1,by omega,by decide,by decide,fun r2 H2 b0 b1 B2 k2=>⟨_,_,rfl,rfl,?_⟩⟩
   exact q _ _ (by show (r2 - 3).natAbs≤10 ^ 31;omega) (B2.le (by omega)) (k1.trans k2)
 refine ⟨_,rfl,rfl,_,rfl,Yd (fun c2=>?_) (fun c2=>?_)⟩
 · refine ⟨_,_,rfl,rfl,⟨by decide,by decide,by decide⟩,_,_,rfl,rfl,_,_,rfl,rfl,⟨by decide,by decide,by decide⟩,_,_,rfl,rfl,_,_,rfl,rfl,⟨by decide,by decide,by decide⟩,(by show 4≤sizeLine;decide),fun l hl=>?_⟩
   have hne:l≠p:=fun e=>by obtain ⟨_,_,_,z,_⟩:=B1;rw [e,z] at hl;cases hl
   refine ⟨_,rfl,p,n+1,4,rfl,B1.same (Zm hl _),by omega,by decide,by decide,fun r2 H2 b0 b1 B2 k2=>?_⟩
   obtain ⟨v,hv,hm⟩:=ZbU (xs:=([.int (10 ^ (30:Int).toNat - 1),.int (1 - 10 ^ (30:Int).toNat),.int (10 ^ (29:Int).toNat),.int 0]:List V)) b0 b1
   refine ⟨l,_,_,v,rfl,rfl,SqL.of (k2 l _ hne Zg),hv,q _ _ ?_ (B2.le (by omega)) (k1.trans ((Zm hl _).kp p |>.trans k2))⟩
   have all:(([.int (10 ^ (30:Int).toNat - 1),.int (1 - 10 ^ (30:Int).toNat),.int (10 ^ (29:Int).toNat),.int 0]:List V)).all ZfT=true:=by decide +kernel
   exact ZaL (List.all_eq_true.mp all v hm)
 refine ⟨_,rfl,rfl,_,rfl,Yd (fun c3=>?_) (fun c3=>?_)⟩
 · refine ⟨(by show 8≤sizeLine;decide),fun l hl=>?_⟩
   have hne:l≠p:=fun e=>by obtain ⟨_,_,_,z,_⟩:=B1;rw [e,z] at hl;cases hl
   refine ⟨_,rfl,p,n+1,8,rfl,B1.same (Zm hl _),by omega,by decide,by decide,fun r2 H2 b0 b1 B2 k2=>?_⟩
   obtain ⟨v,hv,hm⟩:=ZbU (xs:=([.str "",.str "0",.str "-1",.str "a",.str "none",.str "'",.str "\\", .str " "]:List V)) b0 b1
   refine ⟨l,_,_,v,rfl,rfl,SqL.of (k2 l _ hne Zg),hv,q _ _ ?_ (B2.le (by omega)) (k1.trans ((Zm hl _).kp p |>.trans k2))⟩
   have all:(([.str "",.str "0",.str "-1",.str "a",.str "none",.str "'",.str "\\", .str " "]:List V)).all ZfT=true:=by decide +kernel
   exact ZaL (List.all_eq_true.mp all v hm)
 refine ⟨rfl,?_⟩
 have fin:∀ (r2:Int) (H2:Hp),0≤r2→r2 < 41→BoxAt H2 p (n+2)→Kp p H1 H2→∃ j:Int,[V.int r2]=[.int j]∧-(2 ^ 62)≤j∧j < 2 ^ 62∧∀ D,H2 D=none→VY (Itr 0 j.toNat)
     (tOp rIxS (Ui 2) (Zbs (Uw 4611686018427387904) [] E0 (YX (Ui 0) (YX (tCB (fun xs H Q=>∃ x n,xs=[x]∧Zic K x H n∧Q (.int n) H) (YX (Ui 2) Wr)) Wr))))
     [some (.ref p),some (.int r1),some (.str vSigns)] D (fun x H3=>∃ sep a ys,V.str ""=.str sep∧[x]=[.ref a]∧SqL K H3 a (ys.map V.str)∧(ys.map (·.length)).sum+ys.length * sep.length≤16777216∧Q (.str (Txt.join sep ys)) H3) H2:=by
   intro r2 H2 b0 b1 B2 k2
   refine ⟨r2,rfl,by omega,by omega,fun Dl hD=>?_⟩
   have hne:Dl≠p:=fun e=>by obtain ⟨_,_,_,z,_⟩:=B2;rw [e,z] at hD;cases hD
   refine ZfV (Nat.le_trans (show r2.toNat≤1000 by omega) (UL (Nat.le_refl _)))
     (fun i ys H'=>∃ zs:List Str,ys=zs.map V.str∧zs.length=i∧(∀ z∈zs,∃ c,z=⟨#[c]⟩∧sgn c=true)∧H' Dl=some (.lst ys)∧BoxAt H' p (n+2+i)∧Kp p H1 H'∧i≤r2.toNat)
     ⟨[],rfl,rfl,(fun _ h=>nomatch h),Zg,B2.same (Zm hD _),k2.trans ((Zm hD _).kp p),Nat.zero_le _⟩ ?_ ?_ ?_
   · rintro i ys H' ⟨zs,rfl,hz,_⟩;rw [List.length_map];exact hz
   · rintro i ys H' hi ⟨zs,rfl,hz,hall,hDl,B',k',_⟩
     refine ⟨_,rfl,_,rfl,_,rfl,_,94,rfl,⟨by rw [vs_len];decide,vs_len.symm⟩,p,n+2+i,94,rfl,B',by omega,by decide,by decide,fun r3 H3 d0 d1 B3 k3=>?_⟩
     have hl:vSigns.cps.toList.length=94:=by rw [← Xb];exact vs_len
     obtain ⟨c,hc,hm⟩:=ZbU (xs:=vSigns.cps.toList) d0 (by rw [hl];exact d1)
     refine ⟨vSigns,r3,c,rfl,rfl,(by rw [vs_len];decide),hc,k3 Dl _ hne hDl,zs++[⟨#[c]⟩],by rw [List.map_append];rfl,by rw [List.length_append,hz];rfl,?_,Zg,?_,fun b o nb e=>?_,hi⟩
     · intro z hz'
       rcases List.mem_append.mp hz' with h | h
       · exact hall z h
       · rw [List.mem_singleton.mp h];exact ⟨c,rfl,List.all_eq_true.mp ZlR c hm⟩
     · obtain ⟨x1,x2,x3,x4,x5⟩:=B3
       exact ⟨x1,x2,x3,by rw [Zh hne.symm];exact x4,x5⟩
     · rw [Zh (Zp (k2 b o nb e) hD)];exact k3 b o nb (k' b o nb e)
   · rintro ys H' ⟨zs,rfl,hz,hall,hDl,B',k',_⟩
     have ones:∀ l:List Str,(∀ z∈l,∃ c,z=⟨#[c]⟩∧sgn c=true)→(l.map (·.length)).sum=l.length∧(l.flatMap (·.cps.toList)).length=l.length∧(l.flatMap (·.cps.toList)).all sgn=true:=by
       intro l
       induction l with
       | nil=>intro _;exact ⟨rfl,rfl,rfl⟩
       | cons z r ih =>
         intro h
         obtain ⟨c,rfl,hc⟩:=h z List.mem_cons_self
         obtain ⟨g1,g2,g3⟩:=ih fun y hy=>h y (List.mem_cons_of_mem _ hy)
         refine ⟨?_,?_,?_⟩
         · rw [List.map_cons,List.sum_cons,g1,List.length_cons];show 1+_=_;omega
         · have e0:((⟨#[c]⟩:Str)::r).flatMap (·.cps.toList)=c::r.flatMap (·.cps.toList):=rfl
           rw [e0,List.length_cons,List.length_cons,g2]
         · rw [List.flatMap_cons,List.all_append,g3];simp [hc]
     obtain ⟨g1,g2,g3⟩:=ones zs hall
     refine ⟨_,Dl,zs,rfl,rfl,SqL.of hDl,?_,q _ _ ⟨?_,?_⟩ (B'.le (by omega)) (k1.trans k')⟩
     · rw [g1];show _+_ * 0≤_;omega
     · rw [Xb];show (Txt.join (Str.ofString "") zs).cps.toList.length≤41;rw [WA,g2];omega
     · show (Txt.join (Str.ofString "") zs).cps.toList.all sgn=true;rw [WA];exact g3
 refine ⟨_,rfl,_,rfl,rfl,_,rfl,Yd (fun c4=>?_) (fun c4=>?_)⟩
 · exact ⟨p,n+1,4,rfl,B1,by omega,by decide,by decide,fun r2 H2 b0 b1 B2 k2=>fin r2 H2 b0 (by omega) B2 k2⟩
 · exact ⟨p,n+1,41,rfl,B1,by omega,by decide,by decide,fun r2 H2 b0 b1 B2 k2=>fin r2 H2 b0 (by omega) B2 k2⟩
end
end K14
set_option maxHeartbeats 4000000
namespace K14
open PySem L2
section
variable {P:Program}{w:World}{K:KF}{mg:Str→Option Value}{base:Heap}{C Pl:Addr}{NS:List Str}
abbrev Xn:YO:=Zec YE Xz
def ZdR (K:KF)(C Pl:Addr):Sp:=fun vs H Q _=>∃(NS:List Str)(st:Addr)(nds:List Nd)(tabs:ZH)(t:Nat)(x:Str)(v:V)(F:Str→Option V)(Δ:Rs),ZN NS∧vs=[.ref st,iN t,.str x,v]∧Sep ((st,YA K C nds tabs)::(Pl,Xn)::Δ) H∧(ZA tabs (Sum.inl (t:Int))).isSome=true∧Tri NS nds F 5 0 0 t∧x∈NS∧ValV v∧(∀ u,F x=some u→ValV u)∧nds.length+6≤100000∧tabs.length≤100000 ∧
 ∀ (H':Hp) (nds':List Nd) (tabs':ZH) (t':Nat),Sep ((st,YA K C nds' tabs')::(Pl,Xn)::Δ) H'→NEx nds nds'→nds'.length≤nds.length+6→tabs'.length≤tabs.length+1→(∀ k,(ZA tabs k).isSome=true→(ZA tabs' k).isSome=true)→(ZA tabs' (Sum.inl (t':Int))).isSome=true→Tri NS nds' (Wl F x v) 5 0 0 t'→((F x=some v∧t'=t∧nds'=nds∧tabs'=tabs)∨(F x≠some v∧PutR x v nds 0 t nds' t'∧tabs'=ZZ tabs (Sum.inl (t':Int)) (.bl true)))→Q (iN t') H'
def ZfE (K:KF)(C Pl:Addr):Sp:=fun vs H Q _=>∃(NS:List Str)(st:Addr)(nds:List Nd)(tabs:ZH)(t:Nat)(x:Str)(F:Str→Option V)(Δ:Rs),ZN NS∧vs=[.ref st,iN t,.str x]∧Sep ((st,YA K C nds tabs)::(Pl,Xn)::Δ) H∧(ZA tabs (Sum.inl (t:Int))).isSome=true∧Tri NS nds F 5 0 0 t∧x∈NS∧(∀ u,F x=some u→ValV u)∧nds.length+6≤100000∧tabs.length≤100000 ∧
 ∀ (H':Hp) (nds':List Nd) (tabs':ZH) (t':Nat),Sep ((st,YA K C nds' tabs')::(Pl,Xn)::Δ) H'→NEx nds nds'→nds'.length≤nds.length+6→tabs'.length≤tabs.length+1→(∀ k,(ZA tabs k).isSome=true→(ZA tabs' k).isSome=true)→(ZA tabs' (Sum.inl (t':Int))).isSome=true→Tri NS nds' (Ub F x) 5 0 0 t'→((F x=none∧t'=t∧nds'=nds∧tabs'=tabs)∨(F x≠none∧TakR x nds 0 t nds' t'∧tabs'=ZZ tabs (Sum.inl (t':Int)) (.bl true)))→Q (iN t') H'
theorem ZjH {f:Addr}{fd:FuncData}{k:Nat}{ps:List Str}(h:∀ NS,ZN NS→FnOk P w K mg base ZK k f fd ps (ZjE K C Pl NS)):FnOk P w K mg base ZK k f fd ps (ZdR K C Pl) :=
 (FnOk.ex h).conv fun vs H Q E ⟨NS,st,nds,tabs,t,x,v,F,Δ,N,e,S,h1,h2,h3,h4,h5,h6,h7,q⟩=>by
   obtain ⟨ln,dt,SA,b0,L,back⟩:=S.stoLam
   exact ⟨NS,N,st,ln,dt,nds,tabs,t,x,v,F,e,SA,b0,h1,h2,h3,h4,h5,h6,h7,L,fun H' nds' tabs' t' S' ext len tl mono tok tri rel L' kq tf=>q H' nds' tabs' t' (back H' nds' tabs' S' (ext _ _ b0) L' kq) ext len tl mono tok tri rel⟩
theorem wo_S {f:Addr}{fd:FuncData}{k:Nat}{ps:List Str}(h:∀ NS,ZN NS→FnOk P w K mg base ZK k f fd ps (spWo K C Pl NS)):FnOk P w K mg base ZK k f fd ps (ZfE K C Pl) :=
 (FnOk.ex h).conv fun vs H Q E ⟨NS,st,nds,tabs,t,x,F,Δ,N,e,S,h1,h2,h3,h4,h5,h6,q⟩=>by
   obtain ⟨ln,dt,SA,b0,L,back⟩:=S.stoLam
   exact ⟨NS,N,st,ln,dt,nds,tabs,t,x,F,e,SA,b0,h1,h2,h3,h4,h5,h6,L,fun H' nds' tabs' t' S' ext len tl mono tok tri rel L' kq tf=>q H' nds' tabs' t' (back H' nds' tabs' S' (ext _ _ b0) L' kq) ext len tl mono tok tri rel⟩
def ZbR (K:KF)(C:Addr):Sp:=fun vs H Q _=>∃(p dx:Addr)(H0:Hp)(Δ:Rs),vs=[.ref p]∧H=upd (upd H0 dx (.own p)) p (.ins C dx [])∧H0 p=none∧H0 dx=none∧dx≠p∧Sep Δ H0∧∀ H',Same H0 H'→Sep ((p,YA K C [.bare] [(Sum.inl 0,.bl true)])::Δ) H'→Q .non H'
theorem Zmn {vs:List V}{H:Hp}{Q:VK}{E:XK}(h:ZbR K C vs H Q E):ZgA K C vs H Q E:=by
 obtain ⟨p,dx,H0,Δ,e,rfl,h1,h2,h3,S,q⟩:=h
 refine ⟨p,dx,e,Zg,fun ln dt H' hln hdt SA kq=>?_⟩
 have sH:Same H0 (upd (upd H0 dx (.own p)) p (.ins C dx [])):=(Zm h2 _).trans (Zm (by rw [Zh h3.symm];exact h1) _)
 have s0:Same H0 H':=fun b o e=>kq b o (by simp only [List.mem_singleton];exact Zp e h1) (sH b o e)
 refine q H' s0 ?_
 have n1:=Uc sH hln
 have n2:=Uc sH hdt
 obtain ⟨dx',ob⟩:=SA.ob
 obtain ⟨as,nl,nlen,nod⟩:=SA.nl
 refine ⟨some_of H' [p,ln,dt],Wf,⟨rfl,ln,dt,⟨⟨dx',by rw [XO (by simp)];exact ob⟩,⟨as,by rw [XO (by simp)];exact nl,nlen,fun i a n e1 e2=>(nod i a n e1 e2).tf ZeE⟩,by rw [XO (by simp)];exact SA.tb⟩⟩,S.mono fun b o e=>cut_some.mpr ⟨s0 _ _ e,fun u z=>?_⟩⟩
 cases m:Yw u with
 | false=>rfl
 | true =>
   have:=XH z m
   simp only [List.mem_cons,List.not_mem_nil,or_false] at this
   rcases this with z | z | z
   · exact absurd z (Zp e h1)
   · exact absurd z (Zp e n1)
   · exact absurd z (Zp e n2)
end
end K14
set_option maxHeartbeats 4000000
namespace K14
open PySem L2
section
variable {P:Program}{w:World}{K:KF}{mg:Str→Option Value}{base:Heap}{C Pl Pp:Addr}{NS:List Str}
abbrev Uh:YO:=Zec Xe Xp
theorem Sep.afterPairs {st ln dt:Addr}{nds:List Nd}{tabs:ZH}{Δ:Rs}{H H':Hp}(SA:StoreAt K C st ln dt H nds tabs)(b0:nds[0]?=some .bare)(L:LamAt H Pp Xe Xp)
   (back:∀ H' nds' tabs',StoreAt K C st ln dt H' nds' tabs'→nds'[0]?=some .bare→LamAt H' Pp Xe Xp→Kq [ln,dt,Pp] H H'→Sep ((st,YA K C nds' tabs')::(Pp,Uh)::Δ) H') (g:Grown Pp H H') (L':LamAt H' Pp Xe Xp):Sep ((st,YA K C nds tabs)::(Pp,Uh)::Δ) H':=by
 obtain ⟨tb,etb⟩:=L.tbl
 have no:∀ {a:Addr} {o:HO},H a=some o→(∀ tb,o≠.tbl tb)→a ∉ [Pp]:=fun h1 h2 z=>by rw [List.mem_singleton.mp z,etb] at h1;exact h2 _ (Option.some.inj h1).symm
 obtain ⟨dx,ob⟩:=SA.ob
 obtain ⟨as,nl,_⟩:=SA.nl
 exact back H' nds tabs (SA.kq g.kq (g.tf etb) (no ob (by intro tb z;cases z)) (no nl (by intro tb z;cases z)) (no SA.tb (by intro tb z;cases z))) b0 L' (g.kq.sub fun b hb=>by simp at hb ⊢;exact .inr (.inr hb))
def ZaB (K:KF)(C Pp:Addr):Sp:=fun vs H Q _=>∃(NS:List Str)(st:Addr)(nds:List Nd)(tabs:ZH)(t:Nat)(F:Str→Option V)(Δ:Rs),ZN NS∧vs=[.ref st,iN t]∧Sep ((st,YA K C nds tabs)::(Pp,Uh)::Δ) H∧(ZA tabs (Sum.inl (t:Int))).isSome=true∧Tri NS nds F 5 0 0 t ∧
 ∀ (l:Addr) (H':Hp) (ps:Zu),Sep ((l,PLs ps)::(st,YA K C nds tabs)::(Pp,Uh)::Δ) H'→PsOf NS F 0 0 ps→YB ps→Q (.ref l) H'
theorem Zkv {f:Addr}{fd:FuncData}{k:Nat}{ps:List Str}(h:∀ NS,ZN NS→FnOk P w K mg base ZK k f fd ps (UV K C Pp NS)):FnOk P w K mg base ZK k f fd ps (ZaB K C Pp) :=
 (FnOk.ex h).conv fun vs H Q E ⟨NS,st,nds,tabs,t,F,Δ,N,e,S,h1,h2,q⟩=>by
   obtain ⟨ln,dt,SA,b0,L,back⟩:=S.stoLam
   refine ⟨NS,N,st,ln,dt,nds,tabs,t,F,e,SA,h1,h2,L,fun l H' ts ps hl g L' el hpt hps hsr=>q l H' ps ?_ hps hsr⟩
   have g2:Grown Pp H (but H' l):=fun b o nb e=>by rw [Ut (Zp e hl)];exact g b o nb e
   have L2:LamAt (but H' l) Pp Xe Xp:=by
     rcases L' with z | ⟨c,z1,z2⟩
     · exact .inl (by rw [Ut (fun y=>by rw [y,el] at z;cases z)];exact z)
     · exact .inr ⟨c,by rw [Ut (fun y=>by rw [y,el] at z1;cases z1)];exact z1,by rw [Ut (fun y=>by rw [y,el] at z2;cases z2)];exact z2⟩
   exact (Sep.made (Sep.afterPairs SA b0 L back g2 L2) Zhs ZhD el).pls hpt
def Zcj (K:KF)(C Pp:Addr):Sp:=fun vs H Q _=>∃(NS:List Str)(st:Addr)(nds:List Nd)(tabs:ZH)(t:Nat)(F:Str→Option V)(Δ:Rs),ZN NS∧vs=[.ref st,iN t]∧Sep ((st,YA K C nds tabs)::(Pp,Uh)::Δ) H∧(ZA tabs (Sum.inl (t:Int))).isSome=true∧Tri NS nds F 5 0 0 t ∧
 ∀ (H':Hp) (ps:Zu),Sep ((st,YA K C nds tabs)::(Pp,Uh)::Δ) H'→PsOf NS F 0 0 ps→Q (.int (ps.length:Int)) H'
theorem Zlj {f:Addr}{fd:FuncData}{k:Nat}{ps:List Str}(h:∀ NS,ZN NS→FnOk P w K mg base ZK k f fd ps (ZeY K C Pp NS)):FnOk P w K mg base ZK k f fd ps (Zcj K C Pp) :=
 (FnOk.ex h).conv fun vs H Q E ⟨NS,st,nds,tabs,t,F,Δ,N,e,S,h1,h2,q⟩=>by
   obtain ⟨ln,dt,SA,b0,L,back⟩:=S.stoLam
   exact ⟨NS,N,st,ln,dt,nds,tabs,t,F,e,SA,h1,h2,L,fun H' ps g L' hps=>q H' ps (Sep.afterPairs SA b0 L back g L') hps⟩
def ZeA (K:KF)(C:Addr):Sp:=fun vs H Q _=>∃(NS:List Str)(st:Addr)(nds:List Nd)(tabs:ZH)(t:Nat)(x:Str)(F:Str→Option V),ZN NS∧vs=[.ref st,iN t,.str x]∧YA K C nds tabs st H∧(ZA tabs (Sum.inl (t:Int))).isSome=true∧Tri NS nds F 5 0 0 t∧x∈NS∧∀ H',Same H H'→Q ((F x).getD .non) H'
theorem ZlI {f:Addr}{fd:FuncData}{k:Nat}{ps:List Str}(h:FnOk P w K mg base ZK k f fd ps (WK K C)):FnOk P w K mg base ZK k f fd ps (ZeA K C) :=
 h.conv fun vs H Q E ⟨NS,st,nds,tabs,t,x,F,N,e,⟨b0,ln,dt,S⟩,h1,h2,hx,q⟩=>by
   obtain ⟨ws,z,n,e1,e2,e3,e4,e5⟩:=Wx N h2 hx
   exact ⟨st,ln,dt,nds,tabs,t,x,6,ws,z,n,e,S,h1,N.len x hx,N.lo x hx,by decide,e1,e2,e3,e4,fun H' s=>by rw [e5];exact q H' s⟩
def ZaA:Sp:=fun vs H Q _=>∃(p:Addr)(m:Nat)(many:Int)(Δ:Rs),vs=[.ref p,.int many]∧Sep ((p,Bx m)::Δ) H∧m≤700000∧0≤many∧many≤50 ∧
 ∀ (l:Addr) (H':Hp) (xs:List Str),Sep ((l,Wn (xs.map V.str))::(p,Bx (m+3000))::Δ) H'→xs.length≤50→(1≤many→xs≠[])→(∀ x∈xs,Yx x)→xs.Nodup→Q (.ref l) H'
theorem ZkP {vs:List V}{H:Hp}{Q:VK}{E:XK}(h:ZaA vs H Q E):Zff vs H Q E:=by
 obtain ⟨p,m,many,Δ,e,S,h1,h2,h3,q⟩:=h
 refine ⟨p,m,many,e,S.get p,h1,h2,h3,fun l H' xs hl el h4 h5 h6 h7 B k=>q l H' xs ?_ h4 h5 h6 h7⟩
 have hlp:l≠p:=fun z=>by obtain ⟨_,_,_,y,_⟩:=S.get p;rw [z,y] at hl;cases hl
 have k2:Kp p H (but H' l):=fun b o nb e=>by rw [Ut (Zp e hl)];exact k b o nb e
 have B2:BoxAt (but H' l) p (m+3000):=by
   obtain ⟨x,y,z,e,w⟩:=B
   exact ⟨x,y,z,by rw [Ut hlp.symm];exact e,w⟩
 exact Sep.made (S.box k2 B2) Zhs ZhD el
def WC (K:KF)(C:Addr):Sp:=fun vs H Q _=>∃(st:Addr)(nds:List Nd)(tabs:ZH)(t:Nat)(n:Nd),vs=[.ref st,iN t]∧YA K C nds tabs st H∧nds[t]?=some n∧∀ a,NodeAt K H a n→Q (.ref a) H
theorem ZlC {vs:List V}{H:Hp}{Q:VK}{E:XK}(h:WC K C vs H Q E):Zhk K C vs H Q E:=by
 obtain ⟨st,nds,tabs,t,n,e,⟨_,ln,dt,S⟩,hn,q⟩:=h
 exact ⟨st,ln,dt,nds,tabs,t,n,e,S,hn,q⟩
theorem ZdH {nds:List Nd}{m:Int}:∀{f lev num:Nat}{ws:List Nat},Ym nds m f lev num=some ws→ws.length≤f
 | 0,_,_,_,h=>by cases h
 | f + 1,lev,num,ws,h=>by
   unfold Ym at h
   cases e:nds[num]? with
   | none=>rw [e] at h;cases h
   | some n =>
     rw [e] at h
     cases n with
     | bare=>cases h;show 1≤f+1;omega
     | leaf m ps=>cases h;show 1≤f+1;omega
     | fork qs =>
       cases e2:qs[Zy m lev]? with
       | none=>simp [e2] at h
       | some q1 =>
         have h2:(Ym nds m f (lev+1) q1).map (num::·)=some ws:=by simpa [e2] using h
         cases e3:Ym nds m f (lev+1) q1 with
         | none=>rw [e3] at h2;cases h2
         | some w1 =>
           rw [e3] at h2
           cases h2
           have:=ZdH e3
           rw [List.length_cons];omega
def ZdS (K:KF)(C:Addr):Sp:=fun vs H Q _=>∃(NS:List Str)(st:Addr)(nds:List Nd)(tabs:ZH)(t:Nat)(x:Str)(F:Str→Option V),ZN NS∧vs=[.ref st,iN t,.str x]∧YA K C nds tabs st H∧(ZA tabs (Sum.inl (t:Int))).isSome=true∧Tri NS nds F 5 0 0 t∧x∈NS∧∀ r H' ws e,H r=none→Same H H'→(ws++[e]).length≤6→Ym nds (Zi x) 6 0 t=some (ws++[e])→H' r=some (.lst ((ws++[e]).map iN))→Q (.ref r) H'
theorem ZmM {vs:List V}{H:Hp}{Q:VK}{E:XK}(h:ZdS K C vs H Q E):Zdb K C vs H Q E:=by
 obtain ⟨NS,st,nds,tabs,t,x,F,N,e,⟨_,ln,dt,S⟩,h1,h2,hx,q⟩:=h
 obtain ⟨ws,z,n,e1,e2,e3,e4,e5⟩:=Wx N h2 hx
 exact ⟨st,ln,dt,nds,tabs,t,x,6,_,e,S,h1,N.len x hx,N.lo x hx,by decide,e1,fun r H' hr s el=>q r H' ws z hr s (ZdH e1) e1 el⟩
end
end K14
set_option maxHeartbeats 4000000
namespace K14
open PySem L2
def Yl (qs:List Nat):List Nat:=qs.filter fun p=>!decide (p=0)
def LeafAt (nds:List Nd)(num:Nat):Prop:=∃ m ps,nds[num]?=some (.leaf m ps)
def Big (nds:List Nd)(qs:List Nat):Prop:=2≤(Yl qs).length∨∃ q qs',Yl qs=[q]∧nds[q]?=some (.fork qs')
def Can (nds:List Nd):Nat→Nat→Prop
 | 0,num=>num=0∨LeafAt nds num
 | d+1,num=>(num=0∨LeafAt nds num)∨∃ qs,nds[num]?=some (.fork qs)∧(∀ q∈qs,Can nds d q)∧Big nds qs
theorem fil_mem {qs:List Nat}{q:Nat}:q∈Yl qs↔q∈qs∧q≠0:=by
 unfold Yl;rw [List.mem_filter];simp
theorem We (q:Nat)(qs:List Nat):(Yl (q::qs)).length=(Yl qs).length+if q=0 then 0 else 1:=by
 unfold Yl
 rw [List.filter_cons]
 by_cases z:q=0
 · simp [z]
 · simp [z]
theorem ZbP:∀{qs:List Nat}{i q y:Nat},qs[i]?=some q→(Yl (qs.set i y)).length+(if q=0 then 0 else 1)=(Yl qs).length+if y=0 then 0 else 1
 | [],i,q,y,h=>by simp at h
 | a::qs,0,q,y,h=>by
   cases h
   rw [List.set_cons_zero,We,We];omega
 | a::qs,i+1,q,y,h=>by
   rw [List.set_cons_succ,We,We]
   have:=ZbP (qs:=qs) (i:=i) (q:=q) (y:=y) (by simpa using h)
   omega
theorem Zcg {qs:List Nat}{q:Nat}(hl:(Yl qs).length=1)(hq:q∈qs)(h0:q≠0):Yl qs=[q]:=by
 match e:Yl qs,hl with
 | [z],_ =>
   have:q∈Yl qs:=fil_mem.mpr ⟨hq,h0⟩
   rw [e] at this
   rw [List.mem_singleton.mp this]
theorem LeafAt.mono {nds nds':List Nd}{num:Nat}(h:LeafAt nds num)(e:NEx nds nds'):LeafAt nds' num:=let ⟨m,ps,z⟩:=h;⟨m,ps,e _ _ z⟩
theorem Big.mono {nds nds':List Nd}{qs:List Nat}(h:Big nds qs)(e:NEx nds nds'):Big nds' qs:=by
 rcases h with h | ⟨q,qs',h1,h2⟩
 · exact .inl h
 · exact .inr ⟨q,qs',h1,e _ _ h2⟩
theorem Can.mono {nds nds':List Nd}(e:NEx nds nds'):∀{d num:Nat},Can nds d num→Can nds' d num
 | 0,_,h=>h.imp id fun z=>z.mono e
 | d+1,_,.inl h=>.inl (h.imp id fun z=>z.mono e)
 | d+1,_,.inr ⟨qs,h1,h2,h3⟩=>.inr ⟨qs,e _ _ h1,fun q hq=>Can.mono e (h2 q hq),h3.mono e⟩
theorem Can.low {nds:List Nd}{d num:Nat}(h:num=0∨LeafAt nds num):Can nds d num:=by
 cases d with
 | zero=>exact h
 | succ d=>exact .inl h
theorem Can.kind {nds:List Nd}{d num:Nat}(h:Can nds d num)(h0:num≠0):LeafAt nds num∨∃ qs,nds[num]?=some (.fork qs):=by
 cases d with
 | zero=>exact .inl (h.resolve_left h0)
 | succ d =>
   rcases h with h | ⟨qs,h1,_⟩
   · exact .inl (h.resolve_left h0)
   · exact .inr ⟨qs,h1⟩
theorem PutR.ext {x:Str}{v:V}{nds nds':List Nd}{lev num num':Nat}(h:PutR x v nds lev num nds' num'):NEx nds nds':=by
 induction h with
 | leaf=>exact NEx.app _ _
 | fork _ _ _ _ _ ih=>exact ih.trans (NEx.app _ _)
theorem TakR.ext {x:Str}{nds nds':List Nd}{lev num num':Nat}(h:TakR x nds lev num nds' num'):NEx nds nds':=by
 induction h with
 | gone=>exact NEx.refl _
 | less=>exact NEx.app _ _
 | up _ _ _ _ _ ih=>exact ih
 | fork _ _ _ _ ih=>exact ih.trans (NEx.app _ _)
theorem UC (nds:List Nd)(n:Nd):(nds++[n])[nds.length]?=some n:=by rw [List.getElem?_append_right (Nat.le_refl _),Nat.sub_self];rfl
theorem Zig {NS:List Str}{nds:List Nd}{F:Str→Option V}(h0:nds[0]?=some .bare):∀{d lev r num:Nat},Tri NS nds F d lev r num→Can nds d num→r < 4 ^ lev→(∀ x∈NS,ZL x % 4 ^ lev=r→F x=none)→num=0:=by
 have e:∀ {lev r num:Nat},TriE NS nds F lev r num→(∀ x∈NS,ZL x % 4 ^ lev=r→F x=none)→num=0:=fun {lev r num} h hF=>by
   rcases h with ⟨z,_⟩ | ⟨m,ps,h1,G,hm,h4⟩
   · exact z
   · cases ps with
     | nil=>exact absurd rfl G.ne
     | cons p pr =>
       have h2:=G.sub p List.mem_cons_self
       have h3:ZL p.1 % 4 ^ lev=r:=by unfold ZL;rw [G.mrk p List.mem_cons_self];exact hm
       have h5:=hF p.1 h2 h3
       rw [h4 p.1 h2 h3,WF,if_pos rfl] at h5
       cases h5
 intro d
 induction d with
 | zero=>intro lev r num h _ _ hF;exact e h hF
 | succ d ih =>
   intro lev r num h c hr hF
   rcases h with h | ⟨qs,h1,h2,h3⟩
   · exact e h hF
   · rcases c with (z | ⟨m,ps,z⟩) | ⟨qs',z1,z2,z3⟩
     · exact z
     · rw [h1] at z;cases z
     · rw [h1] at z1;cases z1
       have all0:∀ q∈qs,q=0:=fun q hq=>by
         obtain ⟨i,hi⟩:=List.mem_iff_getElem?.mp hq
         have hi4:i < 4:=by rw [← h2];exact (List.getElem?_eq_some_iff.mp hi).1
         exact ih (h3 i q hi) (z2 q hq) (YH hr hi4) fun x hx hxr=>hF x hx (Yq hr hxr).1
       have hn:Yl qs=[]:=by
         cases e5:Yl qs with
         | nil=>rfl
         | cons z r =>
           have:=fil_mem.mp (show z∈Yl qs by rw [e5];exact List.mem_cons_self)
           exact absurd (all0 z this.1) this.2
       rcases z3 with z | ⟨q,qs2,z,_⟩
       · rw [hn] at z;simp at z
       · rw [hn] at z;cases z
theorem PutR.can {NS:List Str}{x:Str}{v:V}{nds nds':List Nd}{lev num num':Nat}(N:ZN NS)(hx:x∈NS)(h0:nds[0]?=some .bare)(h:PutR x v nds lev num nds' num'):∀{d r:Nat}{F:Str→Option V},Tri NS nds F d lev r num→r < 4 ^ lev→lev+d=5→ZL x % 4 ^ lev=r→Can nds d num →
   Can nds' d num'∧num'≠0∧((num≠0∧∀ n,nds[num]?=some n→n.hasM (Zi x)=false)→∃ qs,nds'[num']?=some (.fork qs)):=by
 have hpos:0 < nds.length:=(List.getElem?_eq_some_iff.mp h0).1
 induction h with
 | @leaf lev num n qs hn hc hp hs =>
   intro d r F _ _ _ _ _
   refine ⟨Can.low (.inr ⟨_,_,UC _ _⟩),by omega,fun ⟨z1,z2⟩=>?_⟩
   rcases hc with z | z
   · exact absurd z z1
   · rw [z2 n hn] at z;cases z
 | @fork nds1 lev num q1 num1 n hn hnz hm hq hr ih =>
   intro d r F tri hrl hlev hxr can
   have ex1:=hr.ext
   have hpos1:0 < nds1.length:=(List.getElem?_eq_some_iff.mp (ex1 _ _ h0)).1
   have hnb:n≠.bare:=fun z=>by rw [z] at hq;simp [Yb] at hq
   cases d with
   | zero =>
     have h5:lev=5:=by omega
     subst h5
     rw [ZdU N tri hn hnb hx hxr] at hm;cases hm
   | succ d =>
     obtain ⟨hf4,hft⟩:=ZdM N h0 hrl tri hn hnb
     have hq1m:q1∈Yb num lev n:=List.mem_of_getElem? hq
     have parts:(∀ q∈Yb num lev n,Can nds d q)∧((∃ m ps,n=.leaf m ps)∨∃ qs,n=.fork qs∧Big nds qs):=by
       cases n with
       | bare=>exact absurd rfl hnb
       | leaf m ps =>
         refine ⟨fun q hq=>?_,.inl ⟨m,ps,rfl⟩⟩
         obtain ⟨g,_,rfl⟩:=List.mem_map.mp hq
         split
         · exact Can.low (.inr ⟨m,ps,hn⟩)
         · exact Can.low (.inl rfl)
       | fork qs =>
         rcases can with (z | ⟨m,ps,z⟩) | ⟨qs',z1,z2,z3⟩
         · exact absurd z hnz
         · rw [hn] at z;cases z
         · rw [hn] at z1;cases z1
           exact ⟨z2,.inr ⟨qs,rfl,z3⟩⟩
     obtain ⟨c1,c2,c3⟩:=ih (hft _ _ hq) (YH hrl (XC _ _)) (by omega) (by rw [YK,hxr,YZ (N.lo x hx)];rfl) (parts.1 q1 hq1m)
     have exA:NEx nds1 (nds1++[.fork ((Yb num lev n).set (Zy (Zi x) lev) num1)]):=NEx.app _ _
     have hdl:Zy (Zi x) lev < (Yb num lev n).length:=by rw [hf4];exact XC _ _
     have hin:num1∈(Yb num lev n).set (Zy (Zi x) lev) num1:=List.mem_set hdl _
     have hcnt:=ZbP (y:=num1) hq
     rw [if_neg c2] at hcnt
     refine ⟨.inr ⟨_,UC _ _,fun q hq'=>?_,?_⟩,by omega,fun _=>⟨_,UC _ _⟩⟩
     · rcases List.mem_or_eq_of_mem_set hq' with z | z
       · exact Can.mono (ex1.trans exA) (parts.1 q z)
       · rw [z];exact Can.mono exA c1
     · rcases parts.2 with ⟨m,ps,rfl⟩ | ⟨qs,rfl,big⟩
       · have hone:(Yl (Yb num lev (.leaf m ps))).length=1:=by
           have hd:=XC m lev
           show (Yl ([0,1,2,3].map fun g=>if g=Zy m lev then num else 0)).length=1
           have h4:Zy m lev=0∨Zy m lev=1∨Zy m lev=2∨Zy m lev=3:=by omega
           rcases h4 with z | z | z | z<;>(rw [z];simp [Yl,hnz])
         by_cases zq:q1=0
         · rw [if_pos zq] at hcnt
           exact .inl (by omega)
         · rw [if_neg zq] at hcnt
           have eq:Yl (Yb num lev (.leaf m ps))=[q1]:=Zcg hone hq1m zq
           have hnum:q1=num:=by
             obtain ⟨g,_,e⟩:=List.mem_map.mp hq1m
             split at e
             · exact e.symm
             · exact absurd e.symm zq
           obtain ⟨qs3,e3⟩:=c3 ⟨zq,fun n' hn'=>by rw [hnum,hn] at hn';cases hn';exact hm⟩
           exact .inr ⟨num1,qs3,Zcg (by omega) hin c2,exA _ _ e3⟩
       · by_cases zq:q1=0
         · rw [if_pos zq] at hcnt
           have:1≤(Yl qs).length:=by
             rcases big with z | ⟨q,qs2,z,_⟩
             · omega
             · rw [z];exact Nat.le_refl 1
           have hcnt':(Yl (qs.set (Zy (Zi x) lev) num1)).length+0=(Yl qs).length+1:=hcnt
           exact .inl (by show 2≤(Yl (qs.set (Zy (Zi x) lev) num1)).length;omega)
         · rw [if_neg zq] at hcnt
           have hcnt':(Yl (qs.set (Zy (Zi x) lev) num1)).length+1=(Yl qs).length+1:=hcnt
           rcases big with z | ⟨q,qs2,z,e2⟩
           · exact .inl (by show 2≤(Yl (qs.set (Zy (Zi x) lev) num1)).length;omega)
           · have hq1q:q1=q:=by
               have:q1∈Yl qs:=fil_mem.mpr ⟨hq1m,zq⟩
               rw [z] at this;exact List.mem_singleton.mp this
             obtain ⟨qs3,e3⟩:=c3 ⟨zq,fun n' hn'=>by rw [hq1q,e2] at hn';cases hn';rfl⟩
             have hl1:(Yl qs).length=1:=by rw [z];rfl
             exact .inr ⟨num1,qs3,Zcg (show (Yl (qs.set (Zy (Zi x) lev) num1)).length=1 by omega) hin c2,exA _ _ e3⟩
theorem TakR.can {x:Str}{nds nds':List Nd}{lev num num':Nat}(h0:nds[0]?=some .bare)(h:TakR x nds lev num nds' num'):∀{d:Nat},Can nds d num→Can nds' d num'∧((∃ qs,nds[num]?=some (.fork qs))→num'≠0)∧num≠0:=by
 have nz:∀ {k:Nat} {n:Nd},nds[k]?=some n→n≠.bare→k≠0:=fun e hb z=>by rw [z,h0] at e;exact hb (Option.some.inj e).symm
 induction h with
 | @gone lev num ps hn hb =>
   intro d _
   exact ⟨Can.low (.inl rfl),(fun ⟨qs,z⟩=>by rw [hn] at z;cases z),nz hn (by intro z;cases z)⟩
 | @less lev num ps qs hn hb hp hs =>
   intro d _
   exact ⟨Can.low (.inr ⟨_,_,UC _ _⟩),(fun ⟨qs,z⟩=>by rw [hn] at z;cases z),nz hn (by intro z;cases z)⟩
 | @up nds1 lev num q1 num1 q qs m ps hn hq hr hf hl ih =>
   intro d can
   have hq0:q≠0:=(fil_mem.mp (show q∈Yl (qs.set (Zy (Zi x) lev) num1) by unfold Yl;rw [hf];exact List.mem_cons_self)).2
   exact ⟨Can.low (.inr ⟨m,ps,hl⟩),fun _=>hq0,nz hn (by intro z;cases z)⟩
 | @fork nds1 lev num q1 num1 qs hn hq hr hf ih =>
   intro d can
   have hnz:=nz hn (by intro z;cases z)
   have ex1:=hr.ext
   have hpos1:0 < nds1.length:=(List.getElem?_eq_some_iff.mp (ex1 _ _ h0)).1
   have exA:NEx nds1 (nds1++[.fork (qs.set (Zy (Zi x) lev) num1)]):=NEx.app _ _
   refine ⟨?_,fun _=>by omega,hnz⟩
   cases d with
   | zero =>
     rcases can with z | ⟨m,ps,z⟩
     · exact absurd z hnz
     · rw [hn] at z;cases z
   | succ d =>
     rcases can with (z | ⟨m,ps,z⟩) | ⟨qs',z1,z2,big⟩
     · exact absurd z hnz
     · rw [hn] at z;cases z
     · rw [hn] at z1;cases z1
       have hq1m:q1∈qs:=List.mem_of_getElem? hq
       obtain ⟨c1,c2,c3⟩:=ih (z2 q1 hq1m)
       have hdl:Zy (Zi x) lev < qs.length:=(List.getElem?_eq_some_iff.mp hq).1
       have hcnt:=ZbP (y:=num1) hq
       rw [if_neg c3] at hcnt
       have allC:∀ q∈qs.set (Zy (Zi x) lev) num1,Can nds1 d q:=fun q hq'=>by
         rcases List.mem_or_eq_of_mem_set hq' with z | z
         · exact Can.mono ex1 (z2 q z)
         · rw [z];exact c1
       refine .inr ⟨_,UC _ _,fun q hq'=>Can.mono exA (allC q hq'),?_⟩
       have one:∀ z,Yl (qs.set (Zy (Zi x) lev) num1)=[z]→Big (nds1++[.fork (qs.set (Zy (Zi x) lev) num1)]) (qs.set (Zy (Zi x) lev) num1):=fun z e=>by
         have hz:=fil_mem.mp (show z∈Yl (qs.set (Zy (Zi x) lev) num1) by rw [e];exact List.mem_cons_self)
         rcases (allC z hz.1).kind hz.2 with ⟨m,ps,y⟩ | ⟨qs3,y⟩
         · exact absurd y (hf z m ps e)
         · exact .inr ⟨z,qs3,e,exA _ _ y⟩
       have ge1:1≤(Yl (qs.set (Zy (Zi x) lev) num1)).length:=by
         by_cases z:num1=0
         · rw [if_pos z] at hcnt
           rcases big with y | ⟨q,qs2,y,e2⟩
           · omega
           · have hq1q:q1=q:=by
               have:q1∈Yl qs:=fil_mem.mpr ⟨hq1m,c3⟩
               rw [y] at this;exact List.mem_singleton.mp this
             exact absurd z (c2 ⟨qs2,by rw [hq1q];exact e2⟩)
         · have:num1∈Yl (qs.set (Zy (Zi x) lev) num1):=fil_mem.mpr ⟨List.mem_set hdl _,z⟩
           exact List.length_pos_of_mem this
       match e:Yl (qs.set (Zy (Zi x) lev) num1),ge1 with
       | [z],_=>exact one z e
       | _::_::_,_=>exact .inl (by rw [e];simp)
end K14
set_option maxHeartbeats 2000000
namespace L2
open PySem PySem.W PySem.Spec PyProof.Rows
section
variable {prog:Program}{w:World}{A:Around}{E:Zv}{s:Shared}
theorem Zbv:typeLookup (.type "list") "keys"=pure none:=am_miss_of_fast (by decide +kernel)
theorem Zfu {a:Addr}{xs:Array Value}{k:Nat}{sl:Array (Option Value)}{Q:Option Value→Shared→Prop}(hx:s.heap.get? a=some { cls:=.type "list",dict:=none,data:=.seq xs k,slots:=sl })(hA:A.handled=none)
   (h:∀ h' tk,(∀ b o,s.heap.get? b=some o→h'.get? b=some o)→Q none { s with heap:=h',toks:=tk }):wpAny (model prog w) A (getAttr? (.ref a) "keys") Q E s:=by
 obtain ⟨hp,g,d,tk,os⟩:=s
 have hT:∀ tk',(⟨hp,g,d,tk',os⟩:Shared).TypeIs (.ref a) "list":=fun _=>⟨_,hx,rfl⟩
 have f1:=sub_AttributeError
 have f3:=F.slot_list_getattribute.lookup
 have f4:=F.slot_list_getattribute.bind (.ref a)
 have f5:=am_list_getattr_none
 unfold getAttr? getAttrBy? getAttrBy
 repeat (any_goals first | assumption | exact hT _ | ((with_reducible show wpAny _ _ (call (Value.builtin "list.__getattribute__") _ _) _ _ _);refine call_meets F.slot_list_getattribute (hT _) am_entry_list_getattribute (F.args_list_getattribute_2 _ _) (meets_getattribute_miss_list a xs k sl "keys" _ Zbv (by decide) (by decide)) ⟨hx,hA,fun h' tk' e hx'=>?_⟩) | wp_step)
 obtain ⟨t',u',he⟩:=hx'.there
 show wpAny _ _ (getattributeRaised _ _ _ _ _ _ _) _ _ _
 unfold getattributeRaised
 repeat (any_goals first | assumption | wp_step)
 all_goals exact h _ _ hx'.keeps
end
section
variable {prog:Program}{w:World}{A:Around}{R:Result→Shared→Prop}
theorem ZgQ {d I t:Addr}{its:Array Value}(ps:List (Zk×Value))(hlen:ps.length=its.size)(hnd:(ps.map (·.1)).Nodup)(hsz:ps.length≤sizeLine)(hh:A.handled=none)(hIt:I≠t)(hId:I≠d) :
   ∀ (k i:Nat) (s:Shared) (n:Int) (tk:Tok),ps.length - i=k→i≤ps.length→s.heap.IsListIter I t i→s.heap.IsList t its→(∀ (j:Nat) (v:Value) (p:Zk×Value),its[j]?=some v→ps[j]?=some p→PairAt prog w s.heap v p)→s.heap.DictOf (Zl prog w) d (ps.take i) →
   (∀ h' tk',(∀ b o,b≠I→b≠d→s.heap.get? b=some o→h'.get? b=some o)→h'.DictOf (Zl prog w) d ps→R (.ok (.ret .none)) { s with heap:=h',toks:=tk' }) →
   codeAny (model prog w) A (.builtin "dict.update.loop" ⟨[.ref d,.ref I,.int n tk,.none],[]⟩) R s:=by
 have W:=Walks.list (prog:=prog) (w:=w) (A:=A.in1) hh I t hIt.symm its
 intro k
 induction k with
 | zero =>
   intro i s n tk hk hi hit htp hpr hd hR
   have hin:i=its.size:=by omega
   refine codeAny_builtin Xt ?_
   rw [Around.under_plainId Yn _]
   show wpAny _ A.in1 (pyNext (.ref I) >>= _) _ _ s
   refine wpAny_bind (W.done s _ _ ⟨by rw [← hin];exact hit,htp⟩ fun h' tk' kk=>?_)
   show wpAny _ _ (Builtin.Dict.addKeywords d [] >>= _) _ _ _
   refine wpAny_bind (wpAny_pure (wpAny_pure (hR h' tk' (fun b o h1 _ y=>kk b o (by simpa using h1) y) ?_)))
   rw [List.take_of_length_le (by omega)] at hd
   obtain ⟨o,es,ep,eo,r⟩:=hd
   exact ⟨o,es,ep,kk d o (by simpa using hId.symm) eo,r⟩
 | succ k ih =>
   intro i s n tk hk hi hit htp hpr hd hR
   have hlt:i < its.size:=by omega
   refine codeAny_builtin Xt ?_
   rw [Around.under_plainId Yn _]
   show wpAny _ A.in1 (pyNext (.ref I) >>= _) _ _ s
   refine wpAny_bind (W.item i s _ _ hlt ⟨hit,htp⟩ fun v h1 tk1 hv st1 kk=>?_)
   obtain ⟨hit1,htp1⟩:=st1
   have hI0:∃ o,s.heap.get? I=some o∧o.cls≠.type "tuple":=by
     obtain ⟨o,eo,c,_⟩:=hit
     exact ⟨o,eo,by rw [c];decide⟩
   have hpr1:∀ (j:Nat) (v:Value) (p:Zk×Value),its[j]?=some v→ps[j]?=some p→PairAt prog w h1 v p:=fun j v p a b=>by
     obtain ⟨o,eo,c⟩:=hI0
     exact (hpr j v p a b).but eo c fun b o hb y=>kk b o (by simpa using hb) y
   obtain ⟨p,hp⟩:∃ p,ps[i]?=some p:=⟨_,List.getElem?_eq_getElem (by omega)⟩
   have hv':its[i]?=some v:=hv
   obtain ⟨tt,key,rfl,⟨ot,eo,oc,on,od⟩,hkey⟩:=hpr1 i v p hv' hp
   have hd1:h1.DictOf (Zl prog w) d (ps.take i):=by
     obtain ⟨o,es,ep,eo,r⟩:=hd
     exact ⟨o,es,ep,kk d o (by simpa using hId.symm) eo,r⟩
   have hT:Shared.TypeIs { s with heap:=h1,toks:=tk1 } (.ref tt) "tuple":=⟨ot,eo,oc⟩
   have hnew:stored (ps.take i) p.1 p.2=ps.take (i+1):=by
     have hni:p.1 ∉ (ps.take i).map (·.1):=fun z=>by
       have e1:(ps.map (·.1))=(ps.take i).map (·.1)++(ps.drop i).map (·.1):=by rw [← List.map_append,List.take_append_drop]
       rw [e1,List.nodup_append] at hnd
       refine hnd.2.2 _ z _ (List.mem_map.mpr ⟨p,?_,rfl⟩) rfl
       exact List.mem_of_getElem? (i:=0) (by rw [List.getElem?_drop];simpa using hp)
     unfold stored
     rw [if_neg,List.take_add_one,hp]
     · rfl
     · intro z
       obtain ⟨q,hq,e⟩:=List.any_eq_true.mp z
       exact hni (List.mem_map.mpr ⟨q,hq,by simpa using e⟩)
   show wpAny _ A.in1 (holding [.ref tt] _ >>= _) _ _ _
   refine wpAny_bind (wpAny_holding ?_)
   refine wpAny_bind (wpAny_tryCatch ?_)
   unfold Builtin.Dict.pairItems
   refine wpAny_bind (wpAny_typeOf hT ?_)
   rw [if_pos (by decide)]
   refine wpAny_bind (wpAny_seqItems eo od (wpAny_pure ?_))
   show wpAny _ _ (holding [key,p.2] (dictSet d key p.2)) _ _ _
   refine wpAny_holding (wpAny_dictSet_pairs hkey hd1 (fun h2 hd2 hs2=>?_) (Nat.le_trans (by rw [List.length_take];omega) hsz))
   rw [hnew] at hd2
   refine wpAny_pure ⟨plainId_quiet Yn _,ih (i+1) _ (n+1) _ (by omega) (by omega) ?_ ?_ ?_ hd2 ?_⟩
   · obtain ⟨o,eo',r⟩:=hit1
     exact ⟨o,(hs2.2 I hId).trans eo',r⟩
   · obtain ⟨o,eo',r⟩:=htp1
     refine ⟨o,(hs2.2 t (fun z=>?_)).trans eo',r⟩
     obtain ⟨o',es,ep,eo2,c2,_⟩:=hd1
     rw [z,eo2] at eo'
     cases eo'
     rw [c2.1] at r
     exact absurd r.1 (by decide)
   · intro j v p a b
     obtain ⟨o',es,ep,eo2,c2,_⟩:=hd1
     exact (hpr1 j v p a b).but eo2 (by rw [c2.1];decide) fun b o hb y=>(hs2.2 b hb).trans y
   · intro h3 tk3 k3 hd3
     exact hR h3 tk3 (fun b o h4 h5 y=>k3 b o h4 h5 ((hs2.2 b h5).trans (kk b o (by simpa using h4) y))) hd3
end
section
variable {prog:Program}{w:World}{A:Around}{E:Zv}{s:Shared}
theorem ZbM {t:Addr}{its:Array Value}{Q:Zv}(ps:List (Zk×Value))(ht:s.heap.IsList t its)(hnd0:∃ o,s.heap.get? t=some o∧o.dict=none)(hlen:ps.length=its.size)(hnd:(ps.map (·.1)).Nodup)(hsz:ps.length≤sizeLine)(hh:A.handled=none)
   (hpr:∀ (j:Nat) (v:Value) (p:Zk×Value),its[j]?=some v→ps[j]?=some p→PairAt prog w s.heap v p)
   (h:∀ h' tk',(∀ b o,s.heap.get? b=some o→h'.get? b=some o)→h'.DictOf (Zl prog w) s.heap.objs.size ps→Q (.ref s.heap.objs.size) { s with heap:=h',toks:=tk' }) :
   wpAny (model prog w) A (call (.type "dict") [.ref t]) Q E s:=by
 refine callType_codes (Q₁:=fun obj s₁=>obj=.ref s.heap.objs.size∧s₁={ s with heap:=s.heap.push { cls:=.type "dict",data:=.dict #[] } }) F.kt_called_dict (F.kt_typeCall_dict_1 _) F.entry_dict_init (kt_code_dict_new _ ⟨rfl,rfl⟩) ?_
 rintro obj s₁ ⟨rfl,rfl⟩
 have hnew:(s.heap.push { cls:=.type "dict",data:=.dict #[] }).DictOf (Zl prog w) s.heap.objs.size []:=Heap.DictOf.new s.heap
 have tlt:t < s.heap.objs.size:=by obtain ⟨o,eo,_⟩:=ht;exact Heap.lt_size eo
 obtain ⟨ot,eot,oct,on,odt⟩:=id ht
 obtain ⟨o2,eo2,hdict⟩:=hnd0
 rw [eot] at eo2
 cases eo2
 refine ⟨hnew.typeIs,F.args_dict_init_2 _ _,?_⟩
 unfold Builtin.«dict.__init__»
 refine wpAny_bind ?_
 unfold Builtin.Dict.selfAndRest
 refine wpAny_bind (wpAny_notOrdered_dict hnew.typeIs ?_)
 show wpAny _ _ (pure (s.heap.objs.size,[Value.ref t])) _ _ _
 refine wpAny_pure ?_
 show wpAny _ _ (Builtin.Dict.updateFrom "dict.__init__" s.heap.objs.size (.ref t) [] .none) _ _ _
 unfold Builtin.Dict.updateFrom
 have hT:Shared.TypeIs { s with heap:=s.heap.push { cls:=.type "dict",data:=.dict #[] } } (.ref t) "list":=⟨ot,Heap.get?_push_of_some _ eot,oct⟩
 refine wpAny_bind (wpAny_typeOf hT ?_)
 rw [if_pos (by decide)]
 obtain ⟨c0,d0,dt0,sl0⟩:=ot
 have e1:c0=.type "list":=oct
 have e2:d0=none:=hdict
 have e3:dt0=.seq its on:=odt
 subst e1 e2 e3
 refine wpAny_bind (Zfu (s:={ s with heap:=s.heap.push { cls:=.type "dict",data:=.dict #[] } }) (Heap.get?_push_of_some _ eot) hh fun h1 tk1 k1=>?_)
 rw [if_pos (show (none:Option Value).isNone=true from rfl)]
 have et1:=k1 _ _ (Heap.get?_push_of_some { cls:=.type "dict",data:=.dict #[] } eot)
 have hd1:h1.DictOf (Zl prog w) s.heap.objs.size []:=by
   obtain ⟨o,es,ep,eo,r⟩:=hnew
   exact ⟨o,es,ep,k1 _ _ eo,r⟩
 have dlt:s.heap.objs.size < h1.objs.size:=by obtain ⟨o,es,ep,eo,r⟩:=hd1;exact Heap.lt_size eo
 refine wpAny_bind (wpAny_rule (wpAny_bind (wpAny_pyIter_list (items:=its) ⟨_,et1,rfl,on,rfl⟩ ?_)))
 refine wpAny_pure ⟨plainId_quiet Yn _,ZgQ (A:=A.in1) ps hlen hnd hsz hh (Nat.ne_of_gt (Heap.lt_size et1)) (Nat.ne_of_gt dlt) ps.length 0 _ 0 _ (by omega) (Nat.zero_le _) ⟨_,Heap.get?_push_size _ rfl,rfl,rfl⟩ ⟨_,Heap.get?_push_of_some _ et1,rfl,on,rfl⟩ ?_ ?_ ?_⟩
 · intro j v p a b
   exact (hpr j v p a b).keep fun b o y=>Heap.get?_push_of_some _ (k1 _ _ (Heap.get?_push_of_some _ y))
 · obtain ⟨o,es,ep,eo,r⟩:=hd1
   exact ⟨o,es,ep,Heap.get?_push_of_some _ eo,r⟩
 · intro h' tk' k3 hd3
   refine ⟨rfl,h h' tk' (fun b o y=>?_) hd3⟩
   have y1:=k1 _ _ (Heap.get?_push_of_some { cls:=.type "dict",data:=.dict #[] } y)
   exact k3 b o (Nat.ne_of_lt (Heap.lt_size y1)) (Nat.ne_of_lt (Heap.lt_size y)) (Heap.get?_push_of_some _ y1)
end
section
variable {X:Cx}
theorem XU (hc:X.calm=true):Yk X (.type "dict") (fun xs H Q=>∃ (t:Addr) (ts:List Addr) (kvs:Zu),xs=[.ref t]∧H t=some (.lst (ts.map V.ref))∧ts.length=kvs.length∧kvs.length≤1000 ∧
   (∀ (i:Nat) (a:Addr) (p:Str×V),ts[i]?=some a→kvs[i]?=some p→H a=some (.tup [.str p.1,p.2]))∧(kvs.map (·.1)).Nodup∧∀ d,H d=none→Q (.ref d) (upd H d (.dK (kvs.map fun p=>(Sum.inr p.1,p.2))))):=by
 intro pins s σ H xs us Q I r h
 obtain ⟨t,ts,kvs,rfl,hq0,hlen,hsz,hp,hnd,q⟩:=h
 obtain ⟨u,rfl,ru⟩:=Yj r
 cases ru
 obtain ⟨hz,its,n0,rv,hl0,eo0⟩:=I.lstM hq0
 have hits:=Zbq rv
 subst hits
 have build:∀ (kvs:Zu) (ts:List Addr),ts.length=kvs.length→(∀ (i:Nat) (a:Addr) (p:Str×V),ts[i]?=some a→kvs[i]?=some p→H a=some (.tup [.str p.1,p.2])) →
     ∃ ps:List (Zk×Value),KV (kvs.map fun p=>((Sum.inr p.1:Zk),p.2)) ps∧ps.length=kvs.length∧ps.map (·.1)=kvs.map (fun p=>(Sum.inr p.1:Zk))∧∀ (j:Nat) (v:Value) (p:Zk×Value),(ts.map Value.ref)[j]?=some v→ps[j]?=some p→PairAt X.prog X.w s.heap v p:=by
   intro kvs
   induction kvs with
   | nil=>intro ts _ _;exact ⟨[],.nil,rfl,rfl,fun j v p _ e=>by simp at e⟩
   | cons kv r ih =>
     intro ts hl hh
     cases ts with
     | nil=>simp at hl
     | cons a ar =>
       obtain ⟨ps,k1,k2,k3,k4⟩:=ih ar (by simpa using hl) fun i b p e1 e2=>hh (i+1) b p (by simpa using e1) (by simpa using e2)
       obtain ⟨_,itv,rv',pa⟩:=(show ObjOk X.prog X.w H s.heap a (.tup [.str kv.1,kv.2]) from I.hok a _ (hh 0 a kv rfl rfl))
       cases rv' with
       | cons r1 rr =>
         cases rr with
         | cons r2 rr =>
           cases rr
           obtain ⟨tk,e⟩:=r1
           subst e
           rename_i u2
           refine ⟨(Sum.inr kv.1,u2)::ps,.cons ⟨rfl,r2⟩ k1,by rw [List.length_cons,List.length_cons,k2],by rw [List.map_cons,List.map_cons,k3],fun j v p e1 e2=>?_⟩
           cases j with
           | zero =>
             cases (show some (Value.ref a)=some v from e1)
             cases (show some ((Sum.inr kv.1:Zk),u2)=some p from e2)
             exact ⟨a,.str kv.1 tk,rfl,pa,Ul _ _ _ _⟩
           | succ j=>exact k4 j v p (by simpa using e1) (by simpa using e2)
 obtain ⟨ps,k1,k2,k3,k4⟩:=build kvs ts hlen hp
 have hnd2:(ps.map (·.1)).Nodup:=by
   rw [k3]
   have:kvs.map (fun p=>(Sum.inr p.1:Zk))=(kvs.map (·.1)).map Sum.inr:=by rw [List.map_map];rfl
   rw [this]
   rw [List.Nodup,List.pairwise_map]
   exact hnd.imp fun h e=>h (by cases e;rfl)
 refine ZbM ps ⟨_,eo0,rfl,n0,rfl⟩ ⟨_,eo0,rfl⟩ (by rw [k2,List.size_toArray,List.length_map,hlen]) hnd2 (by rw [k2];exact UL hsz) (I.ok.hd hc) (fun j v p e1 e2=>k4 j v p (by simpa using e1) e2) fun h' tk' kk hd=>?_
 have hbig:=I.big
 refine ⟨.ref s.heap.objs.size,_,I.laid (t':=tk') kk (Nat.le_refl _) (show ObjOk X.prog X.w _ h' _ (.dK (kvs.map fun p=>((Sum.inr p.1:Zk),p.2))) from ⟨by rw [List.length_map];exact UL hsz,?_,ps,k1,hd⟩),rfl,q _ (I.hok.fresh (Nat.le_refl _))⟩
 exact beq_eq_false_iff_ne.mpr (Nat.ne_of_gt hbig)
end
end L2
set_option maxHeartbeats 4000000
namespace K14
open PySem L2
def HeldOk (NS:List Str)(ps:Zu):Prop:=(ps.map (·.1)).Nodup∧∀ p∈ps,p.1∈NS∧Ye p.2
theorem HeldOk.few {NS:List Str}{ps:Zu}(h:HeldOk NS ps):ps.length≤NS.length:=by
 have:=Xi h.1 (N:=NS) fun x hx=>by obtain ⟨p,hp,rfl⟩:=List.mem_map.mp hx;exact (h.2 p hp).1
 rwa [List.length_map] at this
theorem UN {NS:List Str}{ps qs:Zu}(h:HeldOk NS ps)(g:PsOf NS (lk ps) 0 0 qs)(z:Str×V):z∈qs↔z∈ps:=by
 obtain ⟨x,v⟩:=z
 rw [g.2 x v]
 constructor
 · rintro ⟨_,_,e⟩;exact (Yf h.1).mp e
 · intro e;exact ⟨(h.2 _ e).1,by rw [Nat.pow_zero,Nat.mod_one],(Yf h.1).mpr e⟩
theorem ZaF {xs:List Str}{i:Nat}{x:V}(hx:(xs.map V.str)[i]?=some x):∃ y,xs[i]?=some y∧V.str y=x:=by
 rw [List.getElem?_map] at hx
 cases e:xs[i]? with
 | none=>rw [e] at hx;cases hx
 | some y=>rw [e] at hx;exact ⟨y,rfl,Option.some.inj hx⟩
def mkB:Nat→Int
 | 0=>0
 | i+1=>mkB i+((i:Int)+1) * 26
theorem ZhF {l:List Nat}:∀ i,i≤l.length→l.all YJ=true→0≤Wd l i∧Wd l i≤mkB i
 | 0,_,_=>⟨Int.le_refl _,Int.le_refl _⟩
 | i+1,hi,ha=>by
   obtain ⟨h0,h1⟩:=ZhF i (by omega) ha
   have hlj:i < l.length:=hi
   have hc:=List.all_eq_true.mp ha _ (List.getElem_mem hlj)
   have hg:l.getD i 0=l[i]:=by rw [List.getD_eq_getElem?_getD,List.getElem?_eq_getElem hlj];rfl
   unfold YJ at hc
   simp only [Bool.and_eq_true,decide_eq_true_eq] at hc
   show 0≤Wd l i+((i:Int)+1) * (((l.getD i 0:Nat):Int) - 97+1)∧Wd l i+((i:Int)+1) * (((l.getD i 0:Nat):Int) - 97+1)≤mkB i+((i:Int)+1) * 26
   rw [hg]
   have p0:(0:Int)≤((i:Int)+1) * (((l[i]:Nat):Int) - 97+1):=Int.mul_nonneg (by omega) (by omega)
   have p1:((i:Int)+1) * (((l[i]:Nat):Int) - 97+1)≤((i:Int)+1) * 26:=Int.mul_le_mul_of_nonneg_left (by omega) (by omega)
   omega
theorem ZmN {NS:List Str}(hl:NS.length≤50)(h:∀ x∈NS,Yx x):ZN NS:=by
 have b:∀ x∈NS,0≤Zi x∧Zi x < 1024:=fun x hx=>by
   obtain ⟨h1,h8,ha⟩:=h x hx
   obtain ⟨g0,g1⟩:=ZhF (l:=x.cps.toList) x.length (by rw [← Xb];exact Nat.le_refl _) ha
   have hB:∀ i,i≤8→mkB i < 1024:=by decide
   have:=hB x.length h8
   exact ⟨g0,by show Wd _ _ < _;omega⟩
 exact ⟨by omega,fun x hx=>by have:=(h x hx).2.1;omega,fun x hx=>(b x hx).1,fun x hx=>(b x hx).2⟩
def ScR (K:KF)(ns:List Int):YO:=fun a h=>SqL K h a (ns.map V.int)
theorem Zmw {K:KF}{H H':Hp}{a:Addr}{xs:List V}(h:SqL K H a xs)(s:Same H H'):SqL K H' a xs:=by
 rcases h with (h | ⟨o,h⟩) | h
 · exact .inl (.inl (s _ _ h))
 · exact .inl (.inr ⟨o,s _ _ h⟩)
 · exact .inr h
instance {K:KF} {ns:List Int}:Up (ScR K ns):=⟨fun h s=>Zmw h s⟩
theorem Zex {H:Hp}{Pl:Addr}{lp:Pos}{q:Str}{Δ:Rs}(hL:LamAt H Pl lp q)(S:Sep Δ (WU H (some_of H [Pl]))):Sep ((Pl,Zec lp q)::Δ) H:=by
 refine ⟨some_of H [Pl],Wf,?_,S⟩
 have ePl:some_of H [Pl] Pl=H Pl:=XO (by simp)
 rcases hL with z | ⟨c,z1,z2⟩
 · exact .inl (by rw [ePl];exact z)
 · exact .inr ⟨c,by rw [ePl];exact z1,WD z2 rfl⟩
theorem Zbn {H:Hp}{Pl b:Addr}{o:HO}(e:H b=some o)(h:b≠Pl):WU H (some_of H [Pl]) b=some o:=cut_some.mpr ⟨e,fun u z=>by
 cases m:Yw u with
 | false=>rfl
 | true=>exact absurd (List.mem_singleton.mp (XH z m)) h⟩
theorem Zke {H:Hp}{Pl Pp:Addr}{lp lq:Pos}{q r:Str}(hP:LamAt H Pl lq r)(hL:LamAt H Pp lp q)(h:Pl≠Pp):LamAt (WU H (some_of H [Pl])) Pp lp q:=by
 obtain ⟨tb,etb⟩:=hP.tbl
 rcases hL with z | ⟨c,z1,z2⟩
 · exact .inl (Zbn z h.symm)
 · exact .inr ⟨c,Zbn z1 h.symm,Zbn z2 (fun y=>by rw [y,etb] at z2;cases z2)⟩
theorem ZeN {K:KF}{H:Hp}{Pl a:Addr}{lq:Pos}{r:Str}{xs:List V}(hP:LamAt H Pl lq r)(hS:SqL K H a xs):SqL K (WU H (some_of H [Pl])) a xs:=by
 obtain ⟨tb,etb⟩:=hP.tbl
 rcases hS.obj with z | ⟨o,e,nt,z⟩
 · exact z _
 · refine z _ (Zbn e fun y=>?_)
   rw [y,etb] at e;cases e;exact absurd rfl (nt _)
theorem Zhl {K:KF}{H:Hp}{a Pl Pp:Addr}{ns:List Int}(hS:SqL K H a (ns.map V.int))(hL:LamAt H Pl YE Xz)(hP:LamAt H Pp Xe Xp)(hne:Pl≠Pp):Sep [(Pl,Xn),(Pp,Uh),(a,ScR K ns)] H:=by
 have h1:=Zke hL hP hne
 exact Zex hL (Zex h1 ⟨_,fun b o e=>e,ZeN h1 (ZeN hL hS),trivial⟩)
theorem Zjb {ps:Zu}{x:Str}{v:V}{p:Str×V}(h:p∈XA ps x v):p=(x,v)∨p∈ps:=by
 unfold XA at h
 split at h
 · obtain ⟨r,hr,e⟩:=List.mem_map.mp h
   split at e
   · rename_i z;rw [← e,z];exact .inl rfl
   · rw [← e];exact .inr hr
 · rcases List.mem_append.mp h with h | h
   · exact .inr h
   · exact .inl (List.mem_singleton.mp h)
theorem VP {v:V}(h:Ye v):ValV v:=by
 cases v<;>first | trivial | exact h.elim
def NdOk (NS:List Str)(len:Nat):Nd→Prop
 | .bare=>True
 | .leaf m ps=>LeafG NS m ps∧∀ p∈ps,Ye p.2
 | .fork qs=>qs.length=4∧∀ q∈qs,q < len
def NdsOk (NS:List Str)(nds:List Nd):Prop:=nds[0]?=some .bare∧∀(i:Nat)(n:Nd),nds[i]?=some n→NdOk NS nds.length n
theorem NdOk.le {NS:List Str}{a b:Nat}{n:Nd}(h:NdOk NS a n)(l:a≤b):NdOk NS b n:=by
 cases n with
 | bare=>trivial
 | leaf m ps=>exact h
 | fork qs=>exact ⟨h.1,fun q hq=>Nat.lt_of_lt_of_le (h.2 q hq) l⟩
theorem NdsOk.app {NS:List Str}{nds:List Nd}{n:Nd}(h:NdsOk NS nds)(hn:NdOk NS (nds.length+1) n):NdsOk NS (nds++[n]):=by
 refine ⟨by rw [List.getElem?_append_left (List.getElem?_eq_some_iff.mp h.1).1];exact h.1,fun i m e=>?_⟩
 rw [List.length_append]
 by_cases hi:i < nds.length
 · rw [List.getElem?_append_left hi] at e
   exact (h.2 i m e).le (Nat.le_add_right _ _)
 · rw [List.getElem?_append_right (by omega)] at e
   have h0:i - nds.length=0:=by
     cases z:i - nds.length with
     | zero=>rfl
     | succ j=>rw [z] at e;simp at e
   rw [h0] at e
   cases (show some n=some m from e)
   exact hn
theorem PutR.ok {NS:List Str}{x:Str}{v:V}{nds nds':List Nd}{lev num num':Nat}(h:PutR x v nds lev num nds' num')(hx:x∈NS)(hv:Ye v)(O:NdsOk NS nds):NdsOk NS nds'∧num' < nds'.length∧nds.length≤num'∧NEx nds nds':=by
 induction h with
 | @leaf lev num n qs hn hc hp hs =>
   have hnum:=(List.getElem?_eq_some_iff.mp hn).1
   have key:(n.pairs.map (·.1)).Nodup∧(∀ p∈n.pairs,p.1∈NS)∧(∀ p∈n.pairs,Zi p.1=Zi x)∧∀ p∈n.pairs,Ye p.2:=by
     have o:=O.2 num n hn
     cases n with
     | bare=>exact ⟨List.nodup_nil,(fun _ h=>nomatch h),(fun _ h=>nomatch h),(fun _ h=>nomatch h)⟩
     | fork qs=>exact ⟨List.nodup_nil,(fun _ h=>nomatch h),(fun _ h=>nomatch h),(fun _ h=>nomatch h)⟩
     | leaf m ps =>
       rcases hc with z | z
       · rw [z,O.1] at hn;cases hn
       · have e:m=Zi x:=of_decide_eq_true z
         exact ⟨o.1.nd,o.1.sub,fun p hp=>by rw [← e];exact o.1.mrk p hp,o.2⟩
   have G:=Zed (NS:=NS) v hx key.1 key.2.1 key.2.2.1
   refine ⟨O.app ⟨G.perm hp,fun p h=>?_⟩,by rw [List.length_append];exact Nat.lt_succ_self _,Nat.le_refl _,NEx.app nds _⟩
   rcases Zjb (hp.mem_iff.mp h) with rfl | z
   · exact hv
   · exact key.2.2.2 p z
 | @fork nds1 lev num q1 num1 n hn h0 hm hq hr ih =>
   obtain ⟨O1,l1,l2,ex⟩:=ih
   have hnum:=(List.getElem?_eq_some_iff.mp hn).1
   have hle:nds.length≤nds1.length:=by omega
   have key:(Yb num lev n).length=4∧∀ q∈Yb num lev n,q < nds.length:=by
     have o:=O.2 num n hn
     cases n with
     | bare=>simp [Yb] at hq
     | fork qs=>exact o
     | leaf m ps =>
       refine ⟨rfl,fun q hq=>?_⟩
       obtain ⟨g,_,rfl⟩:=List.mem_map.mp hq
       split
       · exact hnum
       · omega
   refine ⟨O1.app ⟨by rw [List.length_set];exact key.1,fun q hq=>?_⟩,by rw [List.length_append];exact Nat.lt_succ_self _,by omega,ex.trans (NEx.app nds1 _)⟩
   rcases List.mem_or_eq_of_mem_set hq with z | z
   · have:=key.2 q z;omega
   · rw [z];omega
theorem TakR.ok {NS:List Str}{x:Str}{nds nds':List Nd}{lev num num':Nat}(h:TakR x nds lev num nds' num')(O:NdsOk NS nds):NdsOk NS nds'∧num' < nds'.length∧NEx nds nds':=by
 induction h with
 | @gone lev num ps hn hb=>exact ⟨O,(List.getElem?_eq_some_iff.mp O.1).1,NEx.refl _⟩
 | @less lev num ps qs hn hb hp hs =>
   have o:=O.2 num _ hn
   refine ⟨O.app ⟨(o.1.but hb).perm hp,fun p h=>o.2 p ?_⟩,by rw [List.length_append];exact Nat.lt_succ_self _,NEx.app nds _⟩
   exact (List.mem_filter.mp (hp.mem_iff.mp h)).1
 | @up nds1 lev num q1 num1 q qs m ps hn hq hr hf hl ih =>
   obtain ⟨O1,l1,ex⟩:=ih
   exact ⟨O1,(List.getElem?_eq_some_iff.mp hl).1,ex⟩
 | @fork nds1 lev num q1 num1 qs hn hq hr hf ih =>
   obtain ⟨O1,l1,ex⟩:=ih
   have o:=O.2 num _ hn
   have hle:nds.length≤nds1.length:=by
     cases e:nds.length with
     | zero=>omega
     | succ k =>
       have h1:=List.getElem?_eq_getElem (l:=nds) (show k < nds.length by omega)
       have:=(List.getElem?_eq_some_iff.mp (ex k _ h1)).1
       omega
   refine ⟨O1.app ⟨by rw [List.length_set];exact o.1,fun q hq=>?_⟩,by rw [List.length_append];exact Nat.lt_succ_self _,ex.trans (NEx.app nds1 _)⟩
   rcases List.mem_or_eq_of_mem_set hq with z | z
   · have:=o.2 q z;omega
   · rw [z];omega
end K14
set_option maxHeartbeats 4000000
namespace K14
open PySem L2
theorem Zcr {NS:List Str}{nds:List Nd}{F:Str→Option V}{d lev r q:Nat}(h0:nds[0]?=some .bare)(t:Tri NS nds F d lev r q)(c:Can nds d q)(hr:r < 4 ^ lev)(hq:q≠0):∃ y∈NS,F y≠none∧ZL y % 4 ^ lev=r:=by
 apply Classical.byContradiction
 intro z
 refine hq (Zig h0 t c hr fun x hx hxr=>?_)
 apply Classical.byContradiction
 intro y
 exact z ⟨x,hx,y,hxr⟩
theorem ZlW {qs:List Nat}(h:2≤(Yl qs).length):∃ i j q q':Nat,i≠j∧qs[i]?=some q∧qs[j]?=some q'∧q≠0∧q'≠0:=by
 induction qs with
 | nil=>simp [Yl] at h
 | cons a r ih =>
   by_cases z:a=0
   · obtain ⟨i,j,q,q',h1,h2,h3,h4,h5⟩:=ih (by rw [We,if_pos z] at h;exact h)
     exact ⟨i+1,j+1,q,q',by omega,h2,h3,h4,h5⟩
   · have h1:1≤(Yl r).length:=by rw [We,if_neg z] at h;omega
     obtain ⟨q',hq'⟩:=List.exists_mem_of_length_pos h1
     obtain ⟨hm,h0⟩:=fil_mem.mp hq'
     obtain ⟨j,hj⟩:=List.mem_iff_getElem?.mp hm
     exact ⟨0,j+1,a,q',by omega,rfl,hj,z,h0⟩
theorem ZdC {NS:List Str}{nds:List Nd}{F:Str→Option V}(h0:nds[0]?=some .bare):∀{d lev r num:Nat}{qs:List Nat},Tri NS nds F d lev r num→Can nds d num→r < 4 ^ lev→nds[num]?=some (.fork qs) →
   ∃ y∈NS,∃ y'∈NS,F y≠none∧F y'≠none∧ZL y % 4 ^ lev=r∧ZL y' % 4 ^ lev=r∧Zi y≠Zi y':=by
 intro d
 induction d with
 | zero =>
   intro lev r num qs t _ _ hf
   rcases t with ⟨_,h,_⟩ | ⟨m,ps,h,_⟩<;>· rw [hf] at h;cases h
 | succ d ih =>
   intro lev r num qs t c hr hf
   rcases t with (⟨_,h,_⟩ | ⟨m,ps,h,_⟩) | ⟨qs',h1,h2,h3⟩
   · rw [hf] at h;cases h
   · rw [hf] at h;cases h
   · rw [hf] at h1;cases h1
     rcases c with (z | ⟨m,ps,z⟩) | ⟨qs',z1,z2,z3⟩
     · rw [z,h0] at hf;cases hf
     · rw [hf] at z;cases z
     · rw [hf] at z1;cases z1
       rcases z3 with z | ⟨q,qs2,z,hq2⟩
       · obtain ⟨i,j,q,q',hij,hi,hj,hq,hq'⟩:=ZlW z
         have hi4:i < 4:=by rw [← h2];exact (List.getElem?_eq_some_iff.mp hi).1
         have hj4:j < 4:=by rw [← h2];exact (List.getElem?_eq_some_iff.mp hj).1
         obtain ⟨y,hy,hyF,hyr⟩:=Zcr h0 (h3 i q hi) (z2 q (List.mem_of_getElem? hi)) (YH hr hi4) hq
         obtain ⟨y',hy',hyF',hyr'⟩:=Zcr h0 (h3 j q' hj) (z2 q' (List.mem_of_getElem? hj)) (YH hr hj4) hq'
         have e1:=Yq hr hyr
         have e2:=Yq hr hyr'
         refine ⟨y,hy,y',hy',hyF,hyF',e1.1,e2.1,fun e=>hij ?_⟩
         have:ZL y=ZL y':=by unfold ZL;rw [e]
         rw [← e1.2,← e2.2,this]
       · have hm:=fil_mem.mp (show q∈Yl qs by rw [z];exact List.mem_cons_self)
         obtain ⟨i,hi⟩:=List.mem_iff_getElem?.mp hm.1
         have hi4:i < 4:=by rw [← h2];exact (List.getElem?_eq_some_iff.mp hi).1
         obtain ⟨y,hy,y',hy',a1,a2,a3,a4,a5⟩:=ih (h3 i q hi) (z2 q hm.1) (YH hr hi4) hq2
         exact ⟨y,hy,y',hy',a1,a2,(Yq hr a3).1,(Yq hr a4).1,a5⟩
def SrtOk (nds:List Nd):Prop:=∀(i:Nat) m ps,nds[i]?=some (.leaf m ps)→YB ps
theorem SrtOk.app {nds:List Nd}{n:Nd}(h:SrtOk nds)(hn:∀ m ps,n=.leaf m ps→YB ps):SrtOk (nds++[n]):=fun i m ps e=>by
 by_cases hi:i < nds.length
 · rw [List.getElem?_append_left hi] at e;exact h i m ps e
 · rw [List.getElem?_append_right (by omega)] at e
   have h0:i - nds.length=0:=by
     cases z:i - nds.length with
     | zero=>rfl
     | succ j=>rw [z] at e;simp at e
   rw [h0] at e
   exact hn m ps (Option.some.inj e)
theorem PutR.srt {x:Str}{v:V}{nds nds':List Nd}{lev num num':Nat}(h:PutR x v nds lev num nds' num')(O:SrtOk nds):SrtOk nds':=by
 induction h with
 | leaf hn hc hp hs=>exact O.app fun m ps e=>by cases e;exact hs
 | fork hn h0 hm hq hr ih=>exact ih.app fun m ps e=>by cases e
theorem TakR.srt {x:Str}{nds nds':List Nd}{lev num num':Nat}(h:TakR x nds lev num nds' num')(O:SrtOk nds):SrtOk nds':=by
 induction h with
 | gone _ _=>exact O
 | less hn hc hp hs=>exact O.app fun m ps e=>by cases e;exact hs
 | up _ _ _ _ _ ih=>exact ih
 | fork _ _ _ _ ih=>exact ih.app fun m ps e=>by cases e
def part (ps:Zu)(lev i:Nat):List (Str×V):=ps.filter fun p=>decide (Zi p.1 / 4 ^ lev % 4=(i:Int))
def XG:PyData:=.tuple [.str "bare"]
def VS (m:Int)(ps:Zu):PyData:=.tuple [.str "leaf",.int m,.tuple (ps.map XT)]
def VJ:Nat→Nat→List (Str×V)→PyData
 | 0,_,_=>XG
 | _+1,_,[]=>XG
 | d+1,lev,p::r=>if ∀ q∈r,Zi q.1=Zi p.1 then VS (Zi p.1) (p::r) else .tuple [.str "fork",.tuple ((List.range 4).map fun i=>VJ d (lev+1) (part (p::r) lev i))]
def WV (nds:List Nd):Nat→Nat→PyData
 | 0,_=>XG
 | d+1,num=>match nds[num]? with
   | some (.fork qs)=>.tuple [.str "fork",.tuple (qs.map (WV nds d))]
   | some n=>ndD n
   | none=>XG
def Zbe (NS:List Str)(F:Str→Option V)(lev r:Nat)(ps:Zu):Prop:=PsOf NS F lev r ps∧YB ps
theorem ZiN {NS:List Str}{F:Str→Option V}{lev r i:Nat}{ps:Zu}(N:ZN NS)(h:Zbe NS F lev r ps)(hr:r < 4 ^ lev):Zbe NS F (lev+1) (r+i * 4 ^ lev) (part ps lev i):=by
 obtain ⟨⟨h1,h2⟩,h3⟩:=h
 refine ⟨⟨h1.sublist (List.Sublist.map _ List.filter_sublist),fun x v=>?_⟩,h3.sublist List.filter_sublist⟩
 unfold part
 rw [List.mem_filter,h2 x v]
 have key:x∈NS→(Zi x / 4 ^ lev % 4=(i:Int)↔ZL x / 4 ^ lev % 4=i):=fun hx=>by
   have h0:=N.lo x hx
   have e:Zi x=((ZL x:Nat):Int):=by unfold ZL;omega
   rw [e,show ((4:Int) ^ lev)=((4 ^ lev:Nat):Int) by rw [Int.natCast_pow];rfl]
   constructor
   · intro z;exact Int.ofNat.inj z
   · intro z;exact congrArg Int.ofNat z
 constructor
 · rintro ⟨⟨a,b,c⟩,d⟩
   exact ⟨a,by rw [YK,b,(key a).mp (of_decide_eq_true d)],c⟩
 · rintro ⟨a,b,c⟩
   obtain ⟨e1,e2⟩:=Yq hr b
   exact ⟨⟨a,e1,c⟩,decide_eq_true ((key a).mpr e2)⟩
theorem Zbc {NS:List Str}{nds:List Nd}{F:Str→Option V}(N:ZN NS)(h0:nds[0]?=some .bare)(O:SrtOk nds):∀{d lev r num:Nat}{ps:Zu},Tri NS nds F d lev r num→Can nds d num→r < 4 ^ lev→Zbe NS F lev r ps→WV nds (d+1) num=VJ (d+1) lev ps:=by
 have low:∀ {d lev r num:Nat} {ps:Zu},TriE NS nds F lev r num→Zbe NS F lev r ps→WV nds (d+1) num=VJ (d+1) lev ps:=by
   intro d lev r num ps t ⟨⟨h1,h2⟩,h3⟩
   rcases t with ⟨_,hb,hF⟩ | ⟨m,lp,hl,G,hm,hF⟩
   · have:ps=[]:=by
       cases ps with
       | nil=>rfl
       | cons p r =>
         obtain ⟨a,b,c⟩:=(h2 p.1 p.2).mp List.mem_cons_self
         rw [hF _ a b] at c;cases c
     subst this
     show (match nds[num]? with | some (.fork qs)=>_ | some n=>ndD n | none=>XG)=XG
     rw [hb];rfl
   · have hmn:∀ x∈NS,Zi x=m→ZL x % 4 ^ lev=r:=fun x hx e=>by unfold ZL;rw [e];exact hm
     have:ps=lp:=Zan h3 (O _ _ _ hl) h1 G.nd fun ⟨x,v⟩=>by
       rw [h2 x v]
       constructor
       · rintro ⟨a,b,c⟩;rw [hF x a b] at c;exact (Yf G.nd).mp c
       · intro e
         have a:=G.sub _ e
         have b:=hmn x a (G.mrk _ e)
         exact ⟨a,b,by rw [hF x a b];exact (Yf G.nd).mpr e⟩
     subst this
     show (match nds[num]? with | some (.fork qs)=>_ | some n=>ndD n | none=>XG)=_
     rw [hl]
     cases ps with
     | nil=>exact absurd rfl G.ne
     | cons p r =>
       have e1:=G.mrk p List.mem_cons_self
       show _=if ∀ q∈r,Zi q.1=Zi p.1 then VS (Zi p.1) (p::r) else _
       rw [if_pos fun q hq=>by rw [G.mrk q (List.mem_cons_of_mem _ hq),e1],e1];rfl
 intro d
 induction d with
 | zero=>intro lev r num ps t _ _ D;exact low t D
 | succ d ih =>
   intro lev r num ps t c hr D
   rcases id t with t' | ⟨qs,hf,hq4,hsub⟩
   · exact low t' D
   · obtain ⟨y,hy,y',hy',f1,f2,f3,f4,f5⟩:=ZdC h0 t c hr hf
     have hc:∀ q∈qs,Can nds d q:=by
       rcases c with (z | ⟨m,ps,z⟩) | ⟨qs',z1,z2,_⟩
       · rw [z,h0] at hf;cases hf
       · rw [hf] at z;cases z
       · rw [hf] at z1;cases z1;exact z2
     show (match nds[num]? with | some (.fork qs)=>PyData.tuple [.str "fork",PyData.tuple (qs.map (WV nds (d+1)))] | some n=>ndD n | none=>XG)=_
     rw [hf]
     obtain ⟨v,hv⟩:=Option.ne_none_iff_exists'.mp f1
     obtain ⟨v',hv'⟩:=Option.ne_none_iff_exists'.mp f2
     have m1:=(D.1.2 y v).mpr ⟨hy,f3,hv⟩
     have m2:=(D.1.2 y' v').mpr ⟨hy',f4,hv'⟩
     cases ps with
     | nil=>cases m1
     | cons p rr =>
       show _=if ∀ q∈rr,Zi q.1=Zi p.1 then VS (Zi p.1) (p::rr) else _
       have hall:¬ ∀ q∈rr,Zi q.1=Zi p.1:=fun z=>f5 (by
         have g:∀ q∈p::rr,Zi q.1=Zi p.1:=fun q hq=>by
           rcases List.mem_cons.mp hq with rfl | hq
           · rfl
           · exact z q hq
         rw [g _ m1,g _ m2])
       rw [if_neg hall]
       have:qs.map (WV nds (d+1))=(List.range 4).map fun i=>VJ (d+1) (lev+1) (part (p::rr) lev i):=by
         refine List.ext_getElem (by rw [List.length_map,List.length_map,hq4];rfl) fun i h1 h2=>?_
         rw [List.length_map] at h1
         have hi4:i < 4:=by omega
         rw [List.getElem_map,List.getElem_map,List.getElem_range]
         have e:=List.getElem?_eq_getElem h1
         exact ih (hsub i _ e) (hc _ (List.getElem_mem h1)) (YH hr hi4) (ZiN N D hr)
       simp only [this]
end K14
set_option maxHeartbeats 4000000
namespace K14
open PySem L2
def Gd (NS:List Str)(nds:List Nd):Prop:=NdsOk NS nds∧SrtOk nds
structure Tb (NS:List Str)(nds:List Nd)(tabs:ZH)(F:Str→Option V)(t:Nat):Prop where
 tk:(ZA tabs (Sum.inl (t:Int))).isSome=true
 tri:Tri NS nds F 5 0 0 t
 can:Can nds 5 t
 val:∀ x u,F x=some u→Ye u
structure Sp1 (nds:List Nd)(tabs:ZH)(nds':List Nd)(tabs':ZH):Prop where
 ext:NEx nds nds'
 len:nds'.length≤nds.length+6
 tl:tabs'.length≤tabs.length+1
 mono:∀ k,(ZA tabs k).isSome=true→(ZA tabs' k).isSome=true
theorem Tb.more {NS:List Str}{nds nds':List Nd}{tabs tabs':ZH}{F:Str→Option V}{t:Nat}(h:Tb NS nds tabs F t)(e:NEx nds nds')(m:∀ k,(ZA tabs k).isSome=true→(ZA tabs' k).isSome=true):Tb NS nds' tabs' F t:=⟨m _ h.tk,Tri.mono 5 h.tri e,Can.mono e h.can,h.val⟩
theorem ZkV {F:Str→Option V}{x:Str}{v:V}(h:∀ x u,F x=some u→Ye u)(hv:Ye v):∀ y u,Wl F x v y=some u→Ye u:=fun y u e=>by
 unfold Wl at e
 split at e
 · cases e;exact hv
 · exact h y u e
theorem ZjT {F:Str→Option V}{x:Str}(h:∀ x u,F x=some u→Ye u):∀ y u,Ub F x y=some u→Ye u:=fun y u e=>by
 unfold Ub at e
 split at e
 · cases e
 · exact h y u e
section
variable {P:Program}{w:World}{K:KF}{mg:Str→Option Value}{base:Heap}{C Pl Pp:Addr}
def Zeg (K:KF)(C Pl:Addr):Sp:=fun vs H Q _=>∃(NS:List Str)(st:Addr)(nds:List Nd)(tabs:ZH)(t:Nat)(x:Str)(v:V)(F:Str→Option V)(Δ:Rs),ZN NS∧vs=[.ref st,iN t,.str x,v]∧Sep ((st,YA K C nds tabs)::(Pl,Xn)::Δ) H∧Gd NS nds∧Tb NS nds tabs F t∧x∈NS∧Ye v∧nds.length≤50000∧tabs.length≤50000 ∧
 ∀ (H':Hp) (nds':List Nd) (tabs':ZH) (t':Nat),Sep ((st,YA K C nds' tabs')::(Pl,Xn)::Δ) H'→Gd NS nds'→Tb NS nds' tabs' (Wl F x v) t'→Sp1 nds tabs nds' tabs'→Q (iN t') H'
theorem Zmv {vs:List V}{H:Hp}{Q:VK}{E:XK}(h:Zeg K C Pl vs H Q E):ZdR K C Pl vs H Q E:=by
 obtain ⟨NS,st,nds,tabs,t,x,v,F,Δ,N,e,S,g,b,hx,hv,h1,h2,q⟩:=h
 refine ⟨NS,st,nds,tabs,t,x,v,F,Δ,N,e,S,b.tk,b.tri,hx,VP hv,fun u hu=>VP (b.val x u hu),by omega,by omega,fun H' nds' tabs' t' S' ext len tl mono tk tri rel=>?_⟩
 have val:=ZkV (x:=x) b.val hv
 rcases rel with ⟨_,rfl,rfl,rfl⟩ | ⟨_,r,_⟩
 · exact q H' _ _ _ S' g ⟨tk,tri,b.can,val⟩ ⟨ext,len,tl,mono⟩
 · exact q H' _ _ _ S' ⟨(r.ok hx hv g.1).1,r.srt g.2⟩ ⟨tk,tri,(PutR.can N hx g.1.1 r b.tri (by decide) rfl (by rw [Nat.pow_zero,Nat.mod_one]) b.can).1,val⟩ ⟨ext,len,tl,mono⟩
def ZfH (K:KF)(C Pl:Addr):Sp:=fun vs H Q _=>∃(NS:List Str)(st:Addr)(nds:List Nd)(tabs:ZH)(t:Nat)(x:Str)(F:Str→Option V)(Δ:Rs),ZN NS∧vs=[.ref st,iN t,.str x]∧Sep ((st,YA K C nds tabs)::(Pl,Xn)::Δ) H∧Gd NS nds∧Tb NS nds tabs F t∧x∈NS∧nds.length≤50000∧tabs.length≤50000 ∧
 ∀ (H':Hp) (nds':List Nd) (tabs':ZH) (t':Nat),Sep ((st,YA K C nds' tabs')::(Pl,Xn)::Δ) H'→Gd NS nds'→Tb NS nds' tabs' (Ub F x) t'→Sp1 nds tabs nds' tabs'→Q (iN t') H'
theorem wo_T {vs:List V}{H:Hp}{Q:VK}{E:XK}(h:ZfH K C Pl vs H Q E):ZfE K C Pl vs H Q E:=by
 obtain ⟨NS,st,nds,tabs,t,x,F,Δ,N,e,S,g,b,hx,h1,h2,q⟩:=h
 refine ⟨NS,st,nds,tabs,t,x,F,Δ,N,e,S,b.tk,b.tri,hx,fun u hu=>VP (b.val x u hu),by omega,by omega,fun H' nds' tabs' t' S' ext len tl mono tk tri rel=>?_⟩
 have val:=ZjT (x:=x) b.val
 rcases rel with ⟨_,rfl,rfl,rfl⟩ | ⟨_,r,_⟩
 · exact q H' _ _ _ S' g ⟨tk,tri,b.can,val⟩ ⟨ext,len,tl,mono⟩
 · exact q H' _ _ _ S' ⟨(r.ok g.1).1,r.srt g.2⟩ ⟨tk,tri,(TakR.can g.1.1 r b.can).1,val⟩ ⟨ext,len,tl,mono⟩
end
theorem ZkX {NS:List Str}{nds:List Nd}{F:Str→Option V}{x:Str}(N:ZN NS)(hx:x∈NS)(h0:nds[0]?=some .bare):∀{d f lev r s t:Nat}{us vs:List Nat},Tri NS nds F d lev r s→Tri NS nds F d lev r t→Can nds d s→Can nds d t→r < 4 ^ lev→ZL x % 4 ^ lev=r→Ym nds (Zi x) f lev s=some us→Ym nds (Zi x) f lev t=some vs→us.length=vs.length:=by
 have dg:∀ lev,Zy (Zi x) lev=ZL x / 4 ^ lev % 4:=fun lev=>YZ (N.lo x hx) lev
 have one:∀ {f lev s:Nat} {us:List Nat} {n:Nd},nds[s]?=some n→(∀ qs,n≠.fork qs)→Ym nds (Zi x) f lev s=some us→us.length=1:=fun {f lev s us n} e hn h=>by
   cases f with
   | zero=>cases h
   | succ f =>
     have h':(match nds[s]? with | none=>none | some (.fork qs)=>(qs[Zy (Zi x) lev]?).bind fun q=>(Ym nds (Zi x) f (lev+1) q).map (s::·) | some _=>some [s])=some us:=h
     rw [e] at h'
     cases n with
     | fork qs=>exact absurd rfl (hn qs)
     | bare=>cases h';rfl
     | leaf m ps=>cases h';rfl
 have no:∀ {d lev r s t:Nat} {qs:List Nat},TriE NS nds F lev r s→Tri NS nds F d lev r t→Can nds d t→r < 4 ^ lev→nds[t]?=some (.fork qs)→False:=fun hs ht ct hr hf=>by
   obtain ⟨y,hy,y',hy',f1,f2,f3,f4,f5⟩:=ZdC h0 ht ct hr hf
   rcases hs with ⟨_,_,h⟩ | ⟨m,ps,_,G,_,h⟩
   · exact f1 (h y hy f3)
   · have mk:∀ z∈NS,F z≠none→ZL z % 4 ^ _=_→Zi z=m:=fun z hz hF hzr=>by
       rw [h z hz hzr] at hF
       obtain ⟨v,hv⟩:=Option.ne_none_iff_exists'.mp hF
       exact G.mrk _ ((Yf G.nd).mp hv)
     exact f5 (by rw [mk y hy f1 f3,mk y' hy' f2 f4])
 have nf:∀ {lev r s:Nat},TriE NS nds F lev r s→∃ n,nds[s]?=some n∧∀ qs,n≠.fork qs:=fun h=>by
   rcases h with ⟨_,h,_⟩ | ⟨m,ps,h,_⟩
   · exact ⟨_,h,fun _ z=>by cases z⟩
   · exact ⟨_,h,fun _ z=>by cases z⟩
 intro d
 induction d with
 | zero =>
   intro f lev r s t us vs hs ht _ _ _ _ ws wt
   obtain ⟨n,e,hn⟩:=nf hs
   obtain ⟨n',e',hn'⟩:=nf ht
   rw [one e hn ws,one e' hn' wt]
 | succ d ih =>
   intro f lev r s t us vs hs ht cs ct hr hm ws wt
   rcases id hs with hs' | ⟨qs,hqs,hq4,hq⟩<;>rcases id ht with ht' | ⟨rs,hrs,hr4,hrr⟩
   · obtain ⟨n,e,hn⟩:=nf hs'
     obtain ⟨n',e',hn'⟩:=nf ht'
     rw [one e hn ws,one e' hn' wt]
   · exact (no hs' ht ct hr hrs).elim
   · exact (no ht' hs cs hr hqs).elim
   · have part:∀ {s:Nat} {qs:List Nat} {us:List Nat},nds[s]?=some (.fork qs)→qs.length=4→Ym nds (Zi x) f lev s=some us→∃ f' q us',f=f'+1∧qs[ZL x / 4 ^ lev % 4]?=some q∧us.length=us'.length+1∧Ym nds (Zi x) f' (lev+1) q=some us':=fun {s qs us} e h4 h=>by
       cases f with
       | zero=>cases h
       | succ f =>
         have h':(match nds[s]? with | none=>none | some (.fork qs)=>(qs[Zy (Zi x) lev]?).bind fun q=>(Ym nds (Zi x) f (lev+1) q).map (s::·) | some _=>some [s])=some us:=h
         rw [e,dg] at h'
         obtain ⟨q,e1,e2⟩:=Option.bind_eq_some_iff.mp h'
         obtain ⟨us',e3,e4⟩:=Option.map_eq_some_iff.mp e2
         exact ⟨f,q,us',rfl,e1,by rw [← e4];rfl,e3⟩
     obtain ⟨f1,q,us',rfl,e1,l1,w1⟩:=part hqs hq4 ws
     obtain ⟨f2,q',vs',hf2,e2,l2,w2⟩:=part hrs hr4 wt
     cases hf2
     have cq:Can nds d q:=by
       rcases cs with (z | ⟨m,ps,z⟩) | ⟨qs',z1,z2,_⟩
       · rw [z,h0] at hqs;cases hqs
       · rw [hqs] at z;cases z
       · rw [hqs] at z1;cases z1;exact z2 q (List.mem_of_getElem? e1)
     have cq':Can nds d q':=by
       rcases ct with (z | ⟨m,ps,z⟩) | ⟨qs',z1,z2,_⟩
       · rw [z,h0] at hrs;cases hrs
       · rw [hrs] at z;cases z
       · rw [hrs] at z1;cases z1;exact z2 q' (List.mem_of_getElem? e2)
     have hd4:ZL x / 4 ^ lev % 4 < 4:=Nat.mod_lt _ (by decide)
     have:=ih (hq _ q e1) (hrr _ q' e2) cq cq' (YH hr hd4) (by rw [YK,hm]) w1 w2
     omega
end K14
set_option maxHeartbeats 4000000
namespace K14
open PySem L2
theorem ZjK {x:Str}(h:Yx x):Zfw x:=fun c hc=>by
 have:=List.all_eq_true.mp h.2.2 c hc
 unfold YJ at this
 simp only [Bool.and_eq_true,decide_eq_true_eq] at this
 omega
theorem Zhi {α β:Type}(g:α→β):∀(l:List α)(k:Nat),(l.map g).eraseIdx k=(l.eraseIdx k).map g
 | [],_=>rfl
 | _::_,0=>rfl
 | a::r,k+1=>by show g a::(r.map g).eraseIdx k=g a::(r.eraseIdx k).map g;rw [Zhi g r k]
theorem Zmi {ys:List Str}{k:Nat}{x y:Str}(hn:ys.Nodup)(e:ys[k]?=some x):y∈ys.eraseIdx k↔y∈ys∧y≠x:=by
 have hk:=(List.getElem?_eq_some_iff.mp e).1
 have hx:=(List.getElem?_eq_some_iff.mp e).2
 rw [List.mem_eraseIdx_iff_getElem?]
 constructor
 · rintro ⟨i,hi,h⟩
   refine ⟨List.mem_of_getElem? h,fun z=>hi ?_⟩
   have hi':=(List.getElem?_eq_some_iff.mp h).1
   have hiy:=(List.getElem?_eq_some_iff.mp h).2
   exact (List.getElem_inj hn).mp (by rw [hiy,hx,z])
 · rintro ⟨h,z⟩
   obtain ⟨i,hi⟩:=List.mem_iff_getElem?.mp h
   exact ⟨i,fun q=>z (by rw [q,e] at hi;exact (Option.some.inj hi).symm),hi⟩
def Mid (K:KF)(C Pl:Addr)(NS:List Str)(p st hd lo lf:Addr)(held:Zu)(os zs:List Str)(Δ:Rs)(nds1:List Nd)(tabs1:ZH)(F:Str→Option V)(x:Str)(n1 k:Nat)(H:Hp)(n:Nat)(nds:List Nd)(tabs:ZH)(t:Nat)(F':Str→Option V):Prop :=
 Sep ((p,Bx n)::(st,YA K C nds tabs)::(Pl,Xn)::(hd,Dic (held.map kP))::(lo,Wn (os.map V.str))::(lf,Wn (zs.map V.str))::Δ) H∧Gd NS nds∧Tb NS nds tabs F' t∧(∀ y,y≠x→F' y=F y)∧NEx nds1 nds∧(∀ k,(ZA tabs1 k).isSome=true→(ZA tabs k).isSome=true)∧nds.length≤nds1.length+6 * k∧tabs.length≤tabs1.length+k∧n≤n1
section
variable {P:Program}{w:World}{K:KF}{mg:Str→Option Value}{base:Heap}{C Pl Pp:Addr}
def Ziw (K:KF)(C Pl:Addr):Sp:=fun vs H Q _=>∃(NS:List Str)(p st hd lo:Addr)(dt:Bool)(n:Nat)(nds:List Nd)(tabs:ZH)(held:Zu)(os:List Str)(Δ:Rs),vs=[.ref p,.ref st,.ref hd,.ref lo,.bl dt]∧ZN NS∧NS.length≤50∧(∀ x∈NS,Yx x)∧Sep ((p,Bx n)::(st,YA K C nds tabs)::(Pl,Xn)::(hd,Dic (held.map kP))::(lo,Wn (os.map V.str))::Δ) H∧HeldOk NS held∧(∀ x∈os,x∈NS∧lk held x=none)∧os.length≤50∧Gd NS nds∧(ZA tabs (Sum.inl 0)).isSome=true∧n≤100000∧nds.length≤5000∧tabs.length≤5000 ∧
 ∀ (H':Hp) (n':Nat) (nds':List Nd) (tabs':ZH) (t:Nat),n'≤n+5000→nds'.length≤nds.length+2000→tabs'.length≤tabs.length+400→NEx nds nds'→(∀ k,(ZA tabs k).isSome=true→(ZA tabs' k).isSome=true)→Gd NS nds'→Tb NS nds' tabs' (lk held) t→Sep ((p,Bx n')::(st,YA K C nds' tabs')::(Pl,Xn)::(hd,Dic (held.map kP))::(lo,Wn (os.map V.str))::Δ) H'→Q (iN t) H'
abbrev nBy:List Str:=["_law_box_here","_law_store","_law_held","_law_others","_law_detours","_law_table","_law_left","_law_name","_law_way","_law_other"]
abbrev ZfF:List Str:=["_law_box_here","_law_store","_law_held","_law_others","_law_detours"]
theorem scBy:Zw nBy ZfF (Zn s_l_by):=⟨rfl,rfl,rfl,by decide +kernel,rfl,by decide +kernel,by decide +kernel⟩
theorem Zms {f:Addr}{fd:FuncData}(F:Fun K "_law_by" "_law_by" s_l_by f fd)(T:Ws mg)(TC:Yv K C)(DT:DTk P w K mg base 1)(DV:Def P w K mg base 9 "_law_value" ["_law_box_here"] UW)(DS_put:DefM P w K mg base 9 C "put" ["self","table","name","value"] (Zeg K C Pl))(DS_without:DefM P w K mg base 9 C "without" ["self","table","name"] (ZfH K C Pl)):FnOk P w K mg base ZK 10 f fd ZfF (Ziw K C Pl):=by
 refine F.ok scBy (fun vs H Q E h=>?_) (fun cdv A outer s H vs Q E hr h=>?_)
 · obtain ⟨NS,p,st,hd,lo,dt,n,nds,tabs,held,os,Δ,rfl,_⟩:=h;rfl
 obtain ⟨NS,p,st,hd,lo,dt,n0,nds0,tabs0,held,os,Δ,rfl,N,hNl,hN,S,hok,hos,hol,g0,t0,hn0,hnd0,htb0,q⟩:=h
 have hr1:=hr.mono (show 1≤9 by decide)
 have hr2:=hr
 refine' ⟨?t,?h,?r⟩
 case h =>
   conv=>arg 2;whnf
   with_reducible refine' (Ze ?h1 (Ze (ZaO ?h2 ?h3 (Ze ?h4 (ZbI ?h5 (ZbI (Yo ?h6 (Zj ?h7) ZU) (ZbI (Yo ?h8 (Ze ?h9 (Ze ?h10 (Zj ?h11))) ZU) (Zj ?h12)))))) (Zj ?h13)))
   case h1=>exact Wo (i:=5) (j:=6) rfl scBy.nd rfl rfl (by decide) rfl rfl (Zc Zd (Zc (ZD (Zaq rfl) rfl T.sorted (by decide +kernel) (Zc (pv 2) Za)) Za)) rfl
   case h2=>exact PassesOwn.never
   case h3=>exact ZE (ZdI hr.units) (pv 6) (Xq Za) (ZJ _)
   case h4=>exact Zs (i:=7) scBy.nd rfl (Or.inl rfl) (UO PySem.F.plainAttrs_list PySem.F.slot_list_pop PySem.F.type_list_pop Zid (pv 6) (Zc (Zx DT hr1 (Zc (pv 0) (Zc (ZD ZV rfl T.len PySem.boot_len (Zc (pv 6) Za)) Za))) Za))
   case h5=>exact Zs (i:=8) scBy.nd rfl (Or.inl rfl) (Wc (VI (pv 4)) (Zx DT hr1 (Zc (pv 0) (Zc Zd Za))) Zd)
   case h6=>exact ZE YR (pv 8) Zd (ZJ _)
   case h7=>exact Zs (i:=5) scBy.nd rfl (Or.inl rfl) (Yc DS_put TC.cl hr (pv 1) (Zc (pv 5) (Zc (pv 7) (Zc (Zx DV hr2 (Zc (pv 0) Za)) Za))))
   case h8=>exact PW.pt (VF (ZE Zbo (pv 8) Zd (ZJ _)) (VO (ZE (ZdI hr.units) (pv 3) (Xq Za) (ZJ _))))
   case h9=>exact Zs (i:=9) scBy.nd rfl (Or.inl rfl) (ZB ZI (pv 3) (Zx DT hr1 (Zc (pv 0) (Zc (ZD ZV rfl T.len PySem.boot_len (Zc (pv 3) Za)) Za))) (fun _ _=>rfl))
   case h10=>exact Zs (i:=5) scBy.nd rfl (Or.inl rfl) (Yc DS_put TC.cl hr (pv 1) (Zc (Yc DS_put TC.cl hr (pv 1) (Zc (pv 5) (Zc (pv 9) (Zc Zd Za)))) (Zc (pv 7) (Zc (ZeV (XS hr) (pv 2) (pv 7) (fun _ _=>rfl)) Za))))
   case h11=>exact Zs (i:=5) scBy.nd rfl (Or.inl rfl) (Yc DS_without TC.cl hr (pv 1) (Zc (pv 5) (Zc (pv 9) Za)))
   case h12=>exact Zs (i:=5) scBy.nd rfl (Or.inl rfl) (Yc DS_put TC.cl hr (pv 1) (Zc (pv 5) (Zc (pv 7) (Zc (ZeV (XS hr) (pv 2) (pv 7) (fun _ _=>rfl)) Za))))
   case h13=>exact Zt (pv 5)
 have hfew:=hok.few
 refine ⟨_,rfl,hd,held,rfl,S.get hd,by omega,fun lf ys0 hlf hpm _=>⟨_,_,rfl,?_⟩⟩
 generalize hE:upd H lf _=H1
 have S1:=S.newE hlf hE
 clear hE
 have hys0:ys0.Nodup:=hpm.nodup_iff.mpr hok.1
 have hyl0:ys0.length=held.length:=by rw [hpm.length_eq,List.length_map]
 have hval:∀ x u,lk held x=some u→Ye u:=fun x u e=>(hok.2 _ ((Yf hok.1).mp e)).2
 refine ⟨fun m σ H'=>∃ (n:Nat) (nds:List Nd) (tabs:ZH) (t:Nat) (ys:List Str) (F:Str→Option V) (x7 x8 x9:Option V),m=ys.length∧σ=[some (.ref p),some (.ref st),some (.ref hd),some (.ref lo),some (.bl dt),some (iN t),some (.ref lf),x7,x8,x9]∧Sep ((p,Bx n)::(st,YA K C nds tabs)::(Pl,Xn)::(hd,Dic (held.map kP))::(lo,Wn (os.map V.str))::(lf,Wn (ys.map V.str))::Δ) H'∧Gd NS nds∧Tb NS nds tabs F t∧(∀ x,F x=if x∈ys then none else lk held x)∧ys.Nodup∧(∀ x∈ys,x∈held.map (·.1))∧NEx nds0 nds∧(∀ k,(ZA tabs0 k).isSome=true→(ZA tabs k).isSome=true)∧nds.length+30 * ys.length≤nds0.length+30 * held.length∧tabs.length+5 * ys.length≤tabs0.length+5 * held.length∧n+100 * ys.length≤n0+100 * held.length,
   ⟨_,n0,nds0,tabs0,0,ys0,fun _=>none,_,_,_,rfl,rfl,(((((S1.pull lf).pull lo).pull hd).pull Pl).pull st).pull p,g0,⟨t0,.inl (.inl ⟨rfl,g0.1.1,fun _ _ _=>rfl⟩),.inl (.inl rfl),fun _ _ e=>by cases e⟩,fun x=>?_,hys0,fun x hx=>hpm.mem_iff.mp hx,NEx.refl _,fun _ h=>h,by omega,by omega,by omega⟩,?_⟩
 · by_cases z:x∈ys0
   · rw [if_pos z]
   · rw [if_neg z]
     exact (UD fun q hq e=>z (hpm.mem_iff.mpr (List.mem_map.mpr ⟨q,hq,e⟩))).symm
 rintro m σ H2 ⟨n1,nds1,tabs1,t1,ys,F1,x7,x8,x9,rfl,rfl,S2,g1,b1,hF,hnd,hsub,ex1,mo1,ln1,tl1,hn1⟩
 have hyl:ys.length≤50:=by
   have:=Xi hnd (N:=NS) fun x hx=>by obtain ⟨q,hq,rfl⟩:=List.mem_map.mp (hsub x hx);exact (hok.2 q hq).1
   omega
 refine ⟨_,rfl,(by show 0≤sizeLine;decide),fun ol hol2=>?_⟩
 generalize hE:upd H2 ol _=H3
 have S3:=S2.newE hol2 hE
 clear hE
 obtain ⟨da,w1,ea,w2,w3⟩:=XL (S3.get lf) fun y hy=>ZjK (hN y (by obtain ⟨q,hq,rfl⟩:=List.mem_map.mp (hsub y hy);exact (hok.2 q hq).1))
 obtain ⟨db,y1,eb,y2,_⟩:=XL (xs:=[]) (S3.get ol) fun y hy=>nomatch hy
 subst ea eb
 have S3:=S3.tail
 refine ⟨_,_,w1,y1,w2,y2,w3,_,rfl,Yd (fun c=>?_) (fun c=>?_)⟩
 · have hne:ys≠[]:=fun z=>by rw [z] at c;revert c;decide
   have hpos:=List.length_pos_iff.mpr hne
   refine ⟨_,fun σ' H' h=>h,?_⟩
   refine ⟨_,rfl,.inl ⟨rfl,_,SqL.of (S3.get lf)⟩,_,rfl,_,rfl,lf,_,rfl,.inl (SqL.of (S3.get lf)),p,_,_,_,rfl,S3.pull p,by omega,by rw [List.length_map];omega,by rw [List.length_map];omega,fun r2 H4 b2 b3 S4=>?_⟩
   rw [List.length_map] at b3
   obtain ⟨k,rfl⟩:∃ k:Nat,r2=(k:Int):=⟨r2.toNat,by omega⟩
   have hk:k < ys.length:=by omega
   have ek:=List.getElem?_eq_getElem hk
   generalize ys[k]=x at ek
   have hxm:=List.mem_of_getElem? ek
   refine ⟨lf,_,_,k,.str x,rfl,rfl,S4.get lf,by omega,by omega,(by rw [List.length_map];exact PySem.StrLaws.seqIndex_nonneg (by omega) (by omega)),(by rw [List.getElem?_map,ek];rfl),?_⟩
   generalize hE:upd H4 lf _=H5
   have S5:=S4.putE hE
   clear hE
   rw [Zhi] at S5
   have hxN:x∈NS:=by obtain ⟨q,hq,rfl⟩:=List.mem_map.mp (hsub x hxm);exact (hok.2 q hq).1
   obtain ⟨hv,ehv⟩:∃ hv,lk held x=some hv:=by
     obtain ⟨q,hq,rfl⟩:=List.mem_map.mp (hsub x hxm)
     exact ⟨q.2,(Yf hok.1).mpr hq⟩
   have hzs:∀ y,y∈ys.eraseIdx k↔y∈ys∧y≠x:=fun y=>Zmi hnd ek
   have hzl:(ys.eraseIdx k).length+1=ys.length:=by rw [List.length_eraseIdx,if_pos hk];omega
   have hznd:(ys.eraseIdx k).Nodup:=hnd.sublist (List.eraseIdx_sublist _ _)
   generalize ys.eraseIdx k=zs at S5 hzs hzl hznd
   refine ⟨fun σ H'=>∃ (r:Int) (x9:Option V),σ=[some (.ref p),some (.ref st),some (.ref hd),some (.ref lo),some (.bl dt),some (iN t1),some (.ref lf),some (.str x),some (.int r),x9]∧0≤r∧Mid K C Pl NS p st hd lo lf held os zs Δ nds1 tabs1 F1 x (n1+10) 0 H' (n1+10) nds1 tabs1 t1 F1,?_,?_⟩
   · have S6:=(((((S5.pull lf).pull lo).pull hd).pull Pl).pull st).pull p
     refine ⟨_,rfl,_,rfl,Yd (fun _=>?_) (fun _=>?_)⟩
     · refine ⟨_,rfl,p,_,4,_,rfl,S6,by omega,by decide,by decide,fun r3 H6 c0 c1 S7=>⟨r3,_,rfl,c0,S7.le (by omega),g1,b1,fun _ _=>rfl,NEx.refl _,fun _ h=>h,by omega,by omega,Nat.le_refl _⟩⟩
     · exact ⟨3,_,rfl,by decide,S6.le (by omega),g1,b1,fun _ _=>rfl,NEx.refl _,fun _ h=>h,by omega,by omega,Nat.le_refl _⟩
   rintro σ H6 ⟨r,x9,rfl,hr0,S6,_⟩
   refine ⟨fun σ H'=>∃ (r:Int) (x9:Option V) (nds:List Nd) (tabs:ZH) (t:Nat) (F':Str→Option V),σ=[some (.ref p),some (.ref st),some (.ref hd),some (.ref lo),some (.bl dt),some (iN t),some (.ref lf),some (.str x),some (.int r),x9]∧Mid K C Pl NS p st hd lo lf held os zs Δ nds1 tabs1 F1 x (n1+80) 1 H' (n1+80) nds tabs t F',?_,?_⟩
   · refine ⟨_,rfl,rfl,_,rfl,Yd (fun _=>?_) (fun _=>?_)⟩
     · obtain ⟨_,ln6,dt6,SA6⟩:=S6.get st
       obtain ⟨dx6,ob6⟩:=SA6.ob
       refine ⟨_,rfl,st,dx6,_,rfl,ob6,ZC ln6 dt6,_,rfl,_,rfl,_,rfl,p,_,_,rfl,S6,by omega,fun v H7 hv7 S7=>?_⟩
       refine ⟨NS,st,nds1,tabs1,t1,x,v,F1,_,N,rfl,(S7.pull Pl).pull st,g1,b1,hxN,hv7,by omega,by omega,fun H8 nds2 tabs2 t2 S8 g2 b2 p2=>?_⟩
       exact ⟨r,_,nds2,tabs2,t2,Wl F1 x v,rfl,((((((S8.pull lf).pull lo).pull hd).pull Pl).pull st).pull p).le (by omega),g2,b2,fun y hy=>if_neg hy,p2.ext,p2.mono,by have:=p2.len;omega,by have:=p2.tl;omega,Nat.le_refl _⟩
     · exact ⟨r,_,nds1,tabs1,t1,F1,rfl,S6.le (by omega),g1,b1,fun _ _=>rfl,NEx.refl _,fun _ h=>h,by omega,by omega,Nat.le_refl _⟩
   rintro σ H6 ⟨r,x9,nds2,tabs2,t2,F2,rfl,S7,g2,b2,off2,ex2,mo2,ln2,tl2,_⟩
   refine ⟨fun σ H'=>∃ (x8 x9:Option V) (nds:List Nd) (tabs:ZH) (t:Nat) (F':Str→Option V),σ=[some (.ref p),some (.ref st),some (.ref hd),some (.ref lo),some (.bl dt),some (iN t),some (.ref lf),some (.str x),x8,x9]∧Mid K C Pl NS p st hd lo lf held os zs Δ nds1 tabs1 F1 x (n1+90) 4 H' (n1+90) nds tabs t F',?_,?_⟩
   · have stay:∀ H',Sep ((p,Bx (n1+80))::(st,YA K C nds2 tabs2)::(Pl,Xn)::(hd,Dic (held.map kP))::(lo,Wn (os.map V.str))::(lf,Wn (zs.map V.str))::Δ) H'→Mid K C Pl NS p st hd lo lf held os zs Δ nds1 tabs1 F1 x (n1+90) 4 H' (n1+90) nds2 tabs2 t2 F2:=fun H' S'=>⟨S'.le (by omega),g2,b2,off2,ex2,mo2,by omega,by omega,Nat.le_refl _⟩
     refine ⟨_,rfl,_,_,rfl,rfl,_,rfl,Yd (fun _=>?_) (fun z=>?_)⟩
     · refine ⟨_,rfl,(by show 0≤sizeLine;decide),fun ol2 hol3=>?_⟩
       generalize hE:upd H6 ol2 _=H7
       have S8:=S7.newE hol3 hE
       clear hE
       obtain ⟨da,w1,ea,w2,w3⟩:=XL (S8.get lo) fun y hy=>ZjK (hN y (hos y hy).1)
       obtain ⟨db,y1,eb,y2,_⟩:=XL (xs:=[]) (S8.get ol2) fun y hy=>nomatch hy
       subst ea eb
       have S8:=S8.tail
       refine ⟨_,_,w1,y1,w2,y2,w3,_,rfl,Yd (fun c2=>?_) (fun _=>?_)⟩
       · have hne2:os≠[]:=fun z=>by rw [z] at c2;revert c2;decide
         have hpos2:=List.length_pos_iff.mpr hne2
         refine ⟨_,rfl,_,rfl,_,rfl,lo,_,rfl,.inl (SqL.of (S8.get lo)),p,_,_,_,rfl,S8,by omega,by rw [List.length_map];omega,by rw [List.length_map];omega,fun r4 H8 d1 d2 S9=>?_⟩
         rw [List.length_map] at d2
         obtain ⟨o,ho,hat⟩:=ZlV (f:=V.str) d1 d2
         refine ⟨lo,_,_,_,rfl,rfl,SqL.of (S9.get lo),hat,?_⟩
         obtain ⟨hoN,hoL⟩:=hos o ho
         have hox:o≠x:=fun z=>by rw [z,ehv] at hoL;cases hoL
         obtain ⟨_,ln9,dt9,SA9⟩:=S9.get st
         obtain ⟨dx9,ob9⟩:=SA9.ob
         refine ⟨_,rfl,st,dx9,_,rfl,ob9,ZC ln9 dt9,_,rfl,st,dx9,_,rfl,ob9,ZC ln9 dt9,_,rfl,_,rfl,?_⟩
         refine ⟨NS,st,nds2,tabs2,t2,o,.int 7,F2,_,N,rfl,(S9.pull Pl).pull st,g2,b2,hoN,(ZaL (by decide +kernel)),by omega,by omega,fun H9 nds3 tabs3 t3 S10 g3 b3 p3=>?_⟩
         have l3:=p3.len
         have m3:=p3.tl
         refine ⟨_,rfl,_,rfl,_,rfl,hd,hv,rfl,ehv ▸ DGet.k (k:=Sum.inr x) (S10.get hd),?_⟩
         refine ⟨NS,st,nds3,tabs3,t3,x,hv,Wl F2 o (.int 7),_,N,rfl,(S10.pull Pl).pull st,g3,b3,hxN,hval x hv ehv,by omega,by omega,fun H10 nds4 tabs4 t4 S11 g4 b4 p4=>?_⟩
         have l4:=p4.len
         have m4:=p4.tl
         obtain ⟨_,ln11,dt11,SA11⟩:=S11.get st
         obtain ⟨dx11,ob11⟩:=SA11.ob
         refine ⟨_,rfl,st,dx11,_,rfl,ob11,ZC ln11 dt11,_,rfl,_,rfl,?_⟩
         refine ⟨NS,st,nds4,tabs4,t4,o,Wl (Wl F2 o (.int 7)) x hv,_,N,rfl,(S11.pull Pl).pull st,g4,b4,hoN,by omega,by omega,fun H11 nds5 tabs5 t5 S12 g5 b5 p5=>?_⟩
         have l5:=p5.len
         have m5:=p5.tl
         refine ⟨_,_,nds5,tabs5,t5,_,rfl,((((((S12.pull lf).pull lo).pull hd).pull Pl).pull st).pull p).le (by omega),g5,b5,fun y hy=>?_,((ex2.trans p3.ext).trans p4.ext).trans p5.ext,fun k h=>p5.mono k (p4.mono k (p3.mono k (mo2 k h))),by omega,by omega,Nat.le_refl _⟩
         unfold Ub
         by_cases z:y=o
         · rw [if_pos z,z,hF o]
           split
           · rfl
           · exact hoL.symm
         · rw [if_neg z]
           unfold Wl
           rw [if_neg hy,if_neg z]
           exact off2 y hy
       · exact ⟨_,_,nds2,tabs2,t2,F2,rfl,stay _ S8⟩
     · exact Yd (fun z=>absurd z (by decide)) (fun _=>⟨_,_,nds2,tabs2,t2,F2,rfl,stay _ S7⟩)
   rintro σ H6 ⟨x8,x9,nds3,tabs3,t3,F3,rfl,S8,g3,b3,off3,ex3,mo3,ln3,tl3,_⟩
   obtain ⟨_,ln8,dt8,SA8⟩:=S8.get st
   obtain ⟨dx8,ob8⟩:=SA8.ob
   refine ⟨_,rfl,st,dx8,_,rfl,ob8,ZC ln8 dt8,_,rfl,_,rfl,_,rfl,_,rfl,hd,hv,rfl,ehv ▸ DGet.k (k:=Sum.inr x) (S8.get hd),?_⟩
   refine ⟨NS,st,nds3,tabs3,t3,x,hv,F3,_,N,rfl,(S8.pull Pl).pull st,g3,b3,hxN,hval x hv ehv,by omega,by omega,fun H9 nds4 tabs4 t4 S9 g4 b4 p4=>?_⟩
   have l4:=p4.len
   have m4:=p4.tl
   refine ⟨zs.length,by omega,_,nds4,tabs4,t4,zs,Wl F3 x hv,_,_,_,rfl,rfl,(((((S9.pull lf).pull lo).pull hd).pull Pl).pull st).pull p,g4,b4,fun y=>?_,hznd,fun y hy=>hsub y ((hzs y).mp hy).1,(ex1.trans ex3).trans p4.ext,fun k h=>p4.mono k (mo3 k (mo1 k h)),by omega,by omega,by omega⟩
   unfold Wl
   by_cases z:y=x
   · rw [if_pos z,if_neg fun h=>((hzs y).mp h).2 z,z,ehv]
   · rw [if_neg z,off3 y z,hF y]
     by_cases zy:y∈ys
     · rw [if_pos zy,if_pos ((hzs y).mpr ⟨zy,z⟩)]
     · rw [if_neg zy,if_neg fun h=>zy ((hzs y).mp h).1]
 · have hne:ys=[]:=by
     cases ys with
     | nil=>rfl
     | cons y r=>exact absurd (by simp [PyData.eqv,PyData.eqvAll]) c
   subst hne
   have eF:F1=lk held:=funext fun x=>by rw [hF x];exact if_neg (fun h=>nomatch h)
   rw [eF] at b1
   exact ⟨_,rfl,q H3 n1 nds1 tabs1 t1 (by omega) (by omega) (by omega) ex1 mo1 g1 b1 (((((((S3.pull lf).tail).pull lo).pull hd).pull Pl).pull st).pull p)⟩
end
end K14
set_option maxHeartbeats 2000000
namespace L2
open PySem PySem.Spec PyProof.Rows
section
variable {prog:Program}{w:World}{A:Around}{E:Zv}{s:Shared}
theorem Zae {i t:Addr}{k:Nat}{its:Array Value}{x:Value}{Q:Zv}(hi:s.heap.IsTupleIter i t k)(ht:s.heap.IsTuple t its)(hx:its[k]?=some x)
   (q:∀ h',h'.IsTupleIter i t (k+1)→Heap.SameBut i s.heap h'→Q x { s with heap:=h' }):wpAny (model prog w) A (Builtin.SmallTypes.nextOf (.ref i)) Q E s:=by
 obtain ⟨o,eo,oc,od⟩:=id hi
 obtain ⟨u,eu,_,n,du⟩:=ht
 unfold Builtin.SmallTypes.nextOf
 refine wpAny_bind (wpAny_callSpecial?_slot (name:=Str.ofString "__next__") hi.typeIs F.slot_tuple_iterator_next (wpAny_call_entry F.slot_tuple_iterator_next hi.typeIs F.entry_tuple_iterator_next ?_ (F.args_tuple_iterator_next_1 _)))
 refine wpAny_bind (m:=field (.ref i) 0) (wpAny_field eo od (x:=.ref t) rfl ?_)
 show wpAny _ _ (if (Value.ref t == Value.none)=true then _ else _) _ _ s
 rw [if_neg (by exact Bool.false_ne_true)]
 refine wpAny_bind (m:=field (.ref i) 1) (wpAny_field eo od (x:=.int k 0) rfl ?_)
 refine wpAny_bind (m:=seqItems? (.ref t)) (wpAny_seqItems eu du ?_)
 simp only [Int.toNat_natCast,hx]
 exact wpAny_bind (wpAny_setField eo od (by simp) (wpAny_pure ⟨x,rfl,wpAny_pure (q _ ⟨_,Heap.get?_update_self _ eo (Obj.isFreed_of_fields (Obj.data_mapFields od _)),(Obj.cls_mapFields ..).trans oc,by rw [Obj.data_mapFields od];simp [rawInt]⟩ (Heap.SameBut.update ..))⟩))
theorem Zfv {i t:Addr}{k:Nat}{its:Array Value}{Q:Zv}(hh:A.handled=none)(hi:s.heap.IsTupleIter i t k)(ht:s.heap.IsTuple t its)(hx:its[k]?=none)
   (q:∀ h' e,Heap.ExtBut i s.heap h'→(∃ o,h'.get? e=some o∧o.cls=.type "StopIteration")→E (.ref e) { s with heap:=h' }):wpAny (model prog w) A (Builtin.SmallTypes.nextOf (.ref i)) Q E s:=by
 obtain ⟨o,eo,oc,od⟩:=id hi
 obtain ⟨u,eu,_,n,du⟩:=ht
 unfold Builtin.SmallTypes.nextOf
 refine wpAny_bind (wpAny_callSpecial?_slot (name:=Str.ofString "__next__") hi.typeIs F.slot_tuple_iterator_next (wpAny_call_entry F.slot_tuple_iterator_next hi.typeIs F.entry_tuple_iterator_next ?_ (F.args_tuple_iterator_next_1 _)))
 refine wpAny_bind (m:=field (.ref i) 0) (wpAny_field eo od (x:=.ref t) rfl ?_)
 show wpAny _ _ (if (Value.ref t == Value.none)=true then _ else _) _ _ s
 rw [if_neg (by exact Bool.false_ne_true)]
 refine wpAny_bind (m:=field (.ref i) 1) (wpAny_field eo od (x:=.int k 0) rfl ?_)
 refine wpAny_bind (m:=seqItems? (.ref t)) (wpAny_seqItems eu du ?_)
 simp only [Int.toNat_natCast,hx]
 refine wpAny_bind (wpAny_rule (wpAny_bind (wpAny_setField eo od (by simp) ?_)))
 refine wpAny_bind (m:=newExc (.type "StopIteration") []) ?_
 simp only [newExc,newTuple]
 refine wpAny_bind (wpAny_newObj_type ?_ (by size_fits))
 refine wpAny_bind (m:=firstArgMember _ _) (wpAny_of_eq (a:=Value.none) (by first | rfl | (simp only [firstArgMember];rfl)) ?_)
 refine wpAny_newObj_type ?_ (by size_fits)
 simp only [raiseNew]
 refine wpAny_bind (wpAny_handled ?_)
 first | rw [show A.in1.handled=none from hh] | rw [hh]
 exact wpAny_bind (wpAny_pure (wpAny_throw (q _ _ (((Heap.SameBut.update ..).extBut.push _).push _) ⟨_,Heap.get?_push_size _ rfl,rfl⟩)))
theorem Zim {z TI TO i1 i2 l1 l2:Addr}{k:Nat}{xs ys:Array Value}{x y a b:Value}{Q:Option Value→Shared→Prop}(D:ZipApart z TI TO i1 i2 l1 l2)(hz:IsZip s.heap z TI TO .none)(hTI:IsPair s.heap TI (.ref i1) (.ref i2))(hTO:IsPair s.heap TO a b)
   (h1:s.heap.IsTupleIter i1 l1 k) (h2:s.heap.IsTupleIter i2 l2 k) (t1:s.heap.IsTuple l1 xs) (t2:s.heap.IsTuple l2 ys) (hx:xs[k]?=some x) (hy:ys[k]?=some y)
   (q:∀ h',IsZip h' z TI TO (rawInt s.heap.objs.size)→IsPair h' TO x y→h'.IsTupleIter i1 l1 (k+1)→h'.IsTupleIter i2 l2 (k+1)→IsPair h' s.heap.objs.size x y→h'.objs.size=s.heap.objs.size+1 →
     (∀ c o,c≠z→c≠TO→c≠i1→c≠i2→s.heap.get? c=some o→h'.get? c=some o)→Q (some (.ref s.heap.objs.size)) { s with heap:=h' }):wpAny (model prog w) A (pyNext (.ref z)) Q E s:=by
 have hT:s.TypeIs (.ref z) "zip":=⟨_,hz,rfl⟩
 unfold pyNext
 refine wpAny_bind (wpAny_attempt (wpAny_callSpecial?_slot (name:=Str.ofString "__next__") hT F.slot_zip_next (wpAny_call_entry F.slot_zip_next hT F.entry_zip_next ?_ (F.args_zip_next_1 _))))
 refine wpAny_bind (m:=field (.ref z) 2) (wpAny_field hz rfl (x:=.bool false) rfl ?_)
 refine wpAny_bind (m:=field (.ref z) 3) (wpAny_field hz rfl (x:=.ref TI) rfl ?_)
 refine wpAny_bind (wpAny_seqItems hTI rfl ?_)
 refine wpAny_bind (m:=Builtin.SmallTypes.ownedTupleIsFree (.ref z)) ?_
 unfold Builtin.SmallTypes.ownedTupleIsFree
 refine wpAny_bind (wpAny_field hz rfl (x:=.none) rfl (wpAny_pure ?_))
 simp only [if_true]
 refine wpAny_bind (wpAny_rule ?_)
 refine wpAny_bind (wpAny_field hz rfl (x:=.ref TO) rfl ?_)
 refine wpAny_bind (wpAny_setField_rec hz (by simp) fun ha hza sa=>?_)
 replace hza:IsZip ha z TI TO .ellipsis:=hza
 refine wpAny_bind ?_
 simp only [List.zipIdx_cons,List.zipIdx_nil,List.forIn_cons,List.forIn_nil]
 have Ea:=sa.extBut
 refine wpAny_bind (wpAny_bind (wpAny_onRaise ?_))
 refine wpAny_bind (m:=Builtin.SmallTypes.nextOf (.ref i1)) (Zae (h1.extBut Ea D.i1z) (t1.extBut Ea D.l1z) hx fun hb i1b sb=>wpAny_pure ?_)
 have Eb:=sb.extBut
 have TOb:IsPair hb TO a b:=Eb _ _ D.TOi1 (Ea _ _ D.TOz hTO)
 refine wpAny_bind (wpAny_seqItems TOb rfl ?_)
 refine wpAny_bind (wpAny_updateSeq_pair TOb fun hc TOc sc=>?_)
 replace TOc:IsPair hc TO x b:=TOc
 have Ec:=sc.extBut
 refine wpAny_bind (wpAny_letGo (wpAny_pure ?_))
 refine wpAny_bind (wpAny_bind (wpAny_onRaise ?_))
 refine wpAny_bind (m:=Builtin.SmallTypes.nextOf (.ref i2)) (Zae (((h2.extBut Ea D.i2z).extBut Eb D.i12.symm).extBut Ec D.TOi2.symm) (((t2.extBut Ea D.l2z).extBut Eb D.l2i1).extBut Ec D.l2TO) hy fun hd i2d sd=>wpAny_pure ?_)
 have Ed:=sd.extBut
 have TOd:IsPair hd TO x b:=Ed _ _ D.TOi2 TOc
 refine wpAny_bind (wpAny_seqItems TOd rfl ?_)
 refine wpAny_bind (wpAny_updateSeq_pair TOd fun he TOe se=>?_)
 replace TOe:IsPair he TO x y:=TOe
 have Ee:=se.extBut
 refine wpAny_bind (wpAny_letGo (wpAny_pure (wpAny_pure ?_)))
 refine wpAny_bind (wpAny_seqItems TOe rfl ?_)
 refine wpAny_bind (wpAny_newTuple ?_)
 have hsz:he.objs.size=s.heap.objs.size:=by rw [se.1,sd.1,sc.1,sb.1,sa.1]
 have all:∀ c o,c≠z→c≠TO→c≠i1→c≠i2→s.heap.get? c=some o→he.get? c=some o:=fun c o c1 c2 c3 c4 e=>Ee _ _ c2 (Ed _ _ c4 (Ec _ _ c2 (Eb _ _ c3 (Ea _ _ c1 e))))
 have ze:IsZip he z TI TO .ellipsis:=Ee _ _ D.TOz.symm (Ed _ _ D.i2z.symm (Ec _ _ D.TOz.symm (Eb _ _ D.i1z.symm hza)))
 have i1e:he.IsTupleIter i1 l1 (k+1):=((i1b.extBut Ec D.TOi1.symm).extBut Ed D.i12).extBut Ee D.TOi1.symm
 have i2e:he.IsTupleIter i2 l2 (k+1):=i2d.extBut Ee D.TOi2.symm
 have zl:z < he.objs.size:=Heap.lt_size ze
 refine wpAny_bind (m:=Builtin.SmallTypes.ownedTupleHandOut (.ref z) (.ref he.objs.size)) ?_
 unfold Builtin.SmallTypes.ownedTupleHandOut
 refine wpAny_bind (wpAny_setField_rec (show IsZip (he.push { cls:=.type "tuple",data:=.seq #[x,y] }) z TI TO .ellipsis from Heap.get?_push_of_some _ ze) (by simp) fun hf zf sf=>?_)
 replace zf:IsZip hf z TI TO (rawInt he.objs.size):=zf
 refine wpAny_setField_rec zf (by simp) fun hg zg sg=>?_
 replace zg:IsZip hg z TI TO (rawInt he.objs.size):=zg
 have up:∀ c o,c≠z→he.get? c=some o→hg.get? c=some o:=fun c o c1 e=>sg.extBut _ _ c1 (sf.extBut _ _ c1 (Heap.get?_push_of_some _ e))
 have new:IsPair hg he.objs.size x y:=sg.extBut _ _ (Nat.ne_of_gt zl) (sf.extBut _ _ (Nat.ne_of_gt zl) (Heap.get?_push_size _ rfl))
 have sz:hg.objs.size=he.objs.size+1:=by rw [sg.1,sf.1,Heap.size_push]
 rw [hsz] at zg new sz
 refine wpAny_pure ⟨_,rfl,?_⟩
 show wpAny _ _ (pure (some (Value.ref he.objs.size))) _ _ _
 rw [hsz]
 refine wpAny_pure (q hg zg (up _ _ D.TOz TOe) ?_ ?_ new sz fun c o c1 c2 c3 c4 e=>up c o c1 (all c o c1 c2 c3 c4 e))
 · obtain ⟨o,eo,r⟩:=i1e;exact ⟨o,up _ _ D.i1z eo,r⟩
 · obtain ⟨o,eo,r⟩:=i2e;exact ⟨o,up _ _ D.i2z eo,r⟩
theorem Zkl {z TI TO i1 i2 l1 l2:Addr}{k:Nat}{xs:Array Value}{a b:Value}{Q:Option Value→Shared→Prop}(hh:A.handled=none)(D:ZipApart z TI TO i1 i2 l1 l2)(hz:IsZip s.heap z TI TO .none)(hTI:IsPair s.heap TI (.ref i1) (.ref i2))(hTO:IsPair s.heap TO a b)
   (h1:s.heap.IsTupleIter i1 l1 k) (t1:s.heap.IsTuple l1 xs) (hx:xs[k]?=none)
   (q:∀ h',(∀ c o,c≠z→c≠TO→c≠i1→c≠i2→s.heap.get? c=some o→h'.get? c=some o)→Q none { s with heap:=h' }):wpAny (model prog w) A (pyNext (.ref z)) Q E s:=by
 have hT:s.TypeIs (.ref z) "zip":=⟨_,hz,rfl⟩
 unfold pyNext
 refine wpAny_bind (wpAny_attempt (wpAny_callSpecial?_slot (name:=Str.ofString "__next__") hT F.slot_zip_next (wpAny_call_entry F.slot_zip_next hT F.entry_zip_next ?_ (F.args_zip_next_1 _))))
 refine wpAny_bind (m:=field (.ref z) 2) (wpAny_field hz rfl (x:=.bool false) rfl ?_)
 refine wpAny_bind (m:=field (.ref z) 3) (wpAny_field hz rfl (x:=.ref TI) rfl ?_)
 refine wpAny_bind (wpAny_seqItems hTI rfl ?_)
 refine wpAny_bind (m:=Builtin.SmallTypes.ownedTupleIsFree (.ref z)) ?_
 unfold Builtin.SmallTypes.ownedTupleIsFree
 refine wpAny_bind (wpAny_field hz rfl (x:=.none) rfl (wpAny_pure ?_))
 simp only [if_true]
 refine wpAny_bind (wpAny_rule ?_)
 refine wpAny_bind (wpAny_field hz rfl (x:=.ref TO) rfl ?_)
 refine wpAny_bind (wpAny_setField_rec hz (by simp) fun ha hza sa=>?_)
 replace hza:IsZip ha z TI TO .ellipsis:=hza
 refine wpAny_bind ?_
 simp only [List.zipIdx_cons,List.zipIdx_nil,List.forIn_cons,List.forIn_nil]
 refine wpAny_bind (wpAny_bind (wpAny_onRaise ?_))
 refine wpAny_bind (m:=Builtin.SmallTypes.nextOf (.ref i1)) (Zfv hh (h1.extBut sa.extBut D.i1z) (t1.extBut sa.extBut D.l1z) hx fun hb e Eb he=>?_)
 obtain ⟨oe,eoe,ce⟩:=he
 have zb:IsZip hb z TI TO .ellipsis:=Eb _ _ D.i1z.symm hza
 have ez:e≠z:=fun x=>by subst x;rw [zb] at eoe;cases eoe;simp at ce
 refine wpAny_setField_rec zb (by simp) fun hc _ sc=>?_
 refine wpAny_bind (wpAny_isInstance (T:="StopIteration") (b:=true) ⟨oe,sc.extBut _ _ ez eoe,ce⟩ isSubtype_stop ?_)
 exact wpAny_pure (q _ fun c o c1 _ c3 _ x=>sc.extBut _ _ c1 (Eb _ _ c3 (sa.extBut _ _ c1 x)))
end
abbrev Yu (l:Addr):Obj:={ cls:=.type "tuple_iterator",data:=.fields #[.ref l,.int 0 0] }
abbrev Zca (h:Heap)(l1 l2:Addr):Heap:=((((h.push (Yu l1)).push (Yu l2)).push { cls:=.type "tuple",data:=.seq #[.ref h.objs.size,.ref (h.push (Yu l1)).objs.size] }).push { cls:=.type "tuple",data:=.seq #[.none,.none] })
theorem Zkz (l1 l2:Addr)(xs ys:Array Value):Meets (Builtin.«zip.__new__» ⟨[.type "zip",.ref l1,.ref l2],[]⟩) (fun _ R s=>s.heap.IsTuple l1 xs∧s.heap.IsTuple l2 ys ∧
     R (.ok (.ret (.ref (Zca s.heap l1 l2).objs.size))) { s with heap:=(Zca s.heap l1 l2).push { cls:=.type "zip",data:=.fields #[.none,.bool false,.bool false,.ref ((s.heap.push (Yu l1)).push (Yu l2)).objs.size,.ref (((s.heap.push (Yu l1)).push (Yu l2)).push { cls:=.type "tuple",data:=.seq #[.ref s.heap.objs.size,.ref (s.heap.push (Yu l1)).objs.size] }).objs.size] } }) :=
 .of_wp fun prog w A R s h=>by
   obtain ⟨hp,g,d,tk,os⟩:=s;obtain ⟨hl1,hl2,h⟩:=h
   have hsub:=sub_zip
   have hL1:Heap.IsTuple (Shared.heap ⟨hp,g,d,tk,os⟩) l1 xs:=hl1
   have hL2:Heap.IsTuple (Shared.heap ⟨hp.push (Yu l1),g,d,tk,os⟩) l2 ys:=Heap.IsTuple.push hl2 _
   wp_walk using wpAny_pyIter_tuple hL1,wpAny_pyIter_tuple hL2
   exact ⟨_,rfl,h⟩
section
variable {prog:Program}{w:World}{A:Around}{E:Zv}{s:Shared}
theorem ZhV {l1 l2:Addr}{xs ys:Array Value}{Q:Zv}(hl1:s.heap.IsTuple l1 xs)(hl2:s.heap.IsTuple l2 ys)
   (h:∀ h',IsZip h' (s.heap.objs.size+4) (s.heap.objs.size+2) (s.heap.objs.size+3) .none→IsPair h' (s.heap.objs.size+2) (.ref s.heap.objs.size) (.ref (s.heap.objs.size+1)) →
     IsPair h' (s.heap.objs.size+3) .none .none→h'.IsTupleIter s.heap.objs.size l1 0→h'.IsTupleIter (s.heap.objs.size+1) l2 0→h'.objs.size=s.heap.objs.size+5 →
     (∀ c o,s.heap.get? c=some o→h'.get? c=some o)→Q (.ref (s.heap.objs.size+4)) { s with heap:=h' }):wpAny (model prog w) A (call (.type "zip") [.ref l1,.ref l2]) Q E s:=by
 refine callType_new F.called_zip (by decide) (F.typeCall_zip_2 _ _) (F.newCall_zip_2 _ _) (fun obj=>F.args_object_init_3 obj _ _) F.entry_zip_new (Zkz l1 l2 xs ys) ⟨hl1,hl2,?_⟩
 have z1:(s.heap.push (Yu l1)).objs.size=s.heap.objs.size+1:=Heap.size_push ..
 have z2:((s.heap.push (Yu l1)).push (Yu l2)).objs.size=s.heap.objs.size+2:=by rw [Heap.size_push,z1]
 have z3:(((s.heap.push (Yu l1)).push (Yu l2)).push { cls:=.type "tuple",data:=.seq #[.ref s.heap.objs.size,.ref (s.heap.push (Yu l1)).objs.size] }).objs.size=s.heap.objs.size+3:=by rw [Heap.size_push,z2]
 have z4:(Zca s.heap l1 l2).objs.size=s.heap.objs.size+4:=by rw [Heap.size_push,z3]
 show _∧_
 rw [z4,z3,z2]
 have up:∀ {h:Heap} {o:Obj} {c:Addr} {u:Obj},h.get? c=some u→(h.push o).get? c=some u:=fun e=>Heap.get?_push_of_some _ e
 have g5:((Zca s.heap l1 l2).push { cls:=.type "zip",data:=.fields #[.none,.bool false,.bool false,.ref (s.heap.objs.size+2),.ref (s.heap.objs.size+3)] }).get? (Zca s.heap l1 l2).objs.size=some _:=Heap.get?_push_size _ rfl
 have g4:(Zca s.heap l1 l2).get? _=some _:=Heap.get?_push_size _ rfl
 have g3:(((s.heap.push (Yu l1)).push (Yu l2)).push { cls:=.type "tuple",data:=.seq #[.ref s.heap.objs.size,.ref (s.heap.push (Yu l1)).objs.size] }).get? _=some _:=Heap.get?_push_size _ rfl
 have g2:((s.heap.push (Yu l1)).push (Yu l2)).get? _=some _:=Heap.get?_push_size _ rfl
 have g1:(s.heap.push (Yu l1)).get? _=some _:=Heap.get?_push_size _ rfl
 rw [z4] at g5
 rw [z3] at g4
 rw [z2] at g3
 rw [z1] at g2
 conv at g3=>rhs;rw [z1]
 exact ⟨⟨_,g5,rfl⟩,h _ g5 (up (up g3)) (up g4) ⟨_,up (up (up (up g1))),rfl,rfl⟩ ⟨_,up (up (up g2)),rfl,rfl⟩ (by rw [Heap.size_push,z4]) fun c o x=>up (up (up (up (up x))))⟩
end
def ZbG (K:KF)(l1 l2:Addr):It :=
 ⟨fun i H=>∃ xs ys x y,SqT K H l1 xs∧SqT K H l2 ys∧xs[i]?=some x∧ys[i]?=some y,
  fun i H v H'=>∃ t x y,H t=none∧(∀ xs,SqT K H l1 xs→xs[i]?=some x)∧(∀ ys,SqT K H l2 ys→ys[i]?=some y)∧v=.ref t∧H'=upd H t (.tup [x,y]),
  fun i H=>∃ xs ys,SqT K H l1 xs∧SqT K H l2 ys∧xs.length≤i⟩
theorem Zhz {P:Program}{w:World}{K:KF}{elts:List Expr}{x1:Nat}{tp:Pos}{z TI TO i1 i2 l1 l2:Addr}(D:ZipApart z TI TO i1 i2 l1 l2)(hTl1:l1≠TI)(hTl2:l2≠TI) :
   UR P w K (.Tuple elts x1 tp) (ZbG K l1 l2) [z,TI,TO,i1,i2] z (fun i h=>IsZip h z TI TO .none∧IsPair h TI (.ref i1) (.ref i2)∧(∃ a b,IsPair h TO a b)∧h.IsTupleIter i1 l1 i∧h.IsTupleIter i2 l2 i) where
 mem:=by simp
 obj:=fun i h st b hb=>by
   obtain ⟨hz,hTI,⟨a,c,hTO⟩,⟨o1,ho1,c1,d1⟩,⟨o2,ho2,c2,d2⟩⟩:=st
   simp only [List.mem_cons,List.not_mem_nil,or_false] at hb
   rcases hb with q | q | q | q | q
   · rw [q];exact ⟨_,hz,fun v z=>by cases z⟩
   · rw [q];exact ⟨_,hTI,fun v z=>by cases z⟩
   · rw [q];exact ⟨_,hTO,fun v z=>by cases z⟩
   · rw [q];exact ⟨o1,ho1,fun v z=>by rw [d1] at z;cases z⟩
   · rw [q];exact ⟨o2,ho2,fun v z=>by rw [d2] at z;cases z⟩
 keep:=fun i h h' st k=>by
   obtain ⟨hz,hTI,⟨a,c,hTO⟩,h1,h2⟩:=st
   exact ⟨k z (by simp) _ hz,k TI (by simp) _ hTI,⟨a,c,k TO (by simp) _ hTO⟩,h1.at fun o y=>k i1 (by simp) o y,h2.at fun o y=>k i2 (by simp) o y⟩
 item:=by
   intro X hP hw hK hc i pins s σ H E I hf st hg
   subst hP hw hK
   obtain ⟨hz,hTI,⟨a,b,hTO⟩,h1,h2⟩:=st
   obtain ⟨xs,ys,x,y,hq1,hq2,hx,hy⟩:=hg
   obtain ⟨its1,rv1,p1,hz1⟩:=I.tuple hq1
   obtain ⟨its2,rv2,p2,hz2⟩:=I.tuple hq2
   obtain ⟨u1,hu1,ru1⟩:=rv1.get hx
   obtain ⟨u2,hu2,ru2⟩:=rv2.get hy
   refine Zim D hz hTI hTO h1 h2 p1 p2 (by simpa using hu1) (by simpa using hu2) fun h' g1 g2 g3 g4 g5 g6 g7=>?_
   refine ⟨_,rfl,wpAny_letOwnedTupleGo_zip g1 fun h2' g1' hs2=>?_⟩
   have hzl:z < s.heap.objs.size:=Heap.lt_size hz
   have hTIl:TI < s.heap.objs.size:=Heap.lt_size hTI
   have hTOl:TO < s.heap.objs.size:=Heap.lt_size hTO
   have hi1l:i1 < s.heap.objs.size:=by obtain ⟨o,ho,_⟩:=h1;exact Heap.lt_size ho
   have hi2l:i2 < s.heap.objs.size:=by obtain ⟨o,ho,_⟩:=h2;exact Heap.lt_size ho
   have g5':h'.get? s.heap.objs.size=some ({ cls:=.type "tuple",data:=.seq #[u1,u2] }:Obj):=g5
   generalize hO:({ cls:=.type "tuple",data:=.seq #[u1,u2] }:Obj)=O at g5'
   have I1:Inv X pins σ (upd H s.heap.objs.size (.tup [x,y])) { s with heap:=s.heap.push O,toks:=s.toks }:=by
     refine I.laid (t':=s.toks) (fun b o y=>Heap.get?_push_of_some _ y) (Nat.le_refl _) (show ObjOk X.prog X.w _ _ _ (.tup _) from ⟨by show 2≤sizeLine;decide,[u1,u2],.cons ru1 (.cons ru2 .nil),?_⟩)
     rw [← hO];exact IsTup.new _ _
   have hfree:=I.hok.fresh (Nat.le_refl s.heap.objs.size)
   have hf2:∀ b∈[z,TI,TO,i1,i2],Xc X pins (upd H s.heap.objs.size (.tup [x,y])) b:=fun b hb=>by
     obtain ⟨f0,f1⟩:=hf b hb
     have hb':b≠s.heap.objs.size:=by
       simp only [List.mem_cons,List.not_mem_nil,or_false] at hb
       rcases hb with q | q | q | q | q<;>(rw [q];exact Nat.ne_of_lt (by assumption))
     exact ⟨by rw [Zh hb'];exact f0,f1⟩
   have I2:Inv X pins σ (upd H s.heap.objs.size (.tup [x,y])) { s with heap:=h2',toks:=s.toks }:=by
     refine I1.turned2 (t':=s.toks) (h':=h2') (fun b o hb y=>?_) hf2
     have n1:b≠z:=fun q=>hb (by simp [q])
     have n2:b≠TO:=fun q=>hb (by simp [q])
     have n3:b≠i1:=fun q=>hb (by simp [q])
     have n4:b≠i2:=fun q=>hb (by simp [q])
     rw [hs2.2 b n1]
     rcases Heap.get?_push_cases y with ⟨q1,q2⟩ | y
     · rw [q1,q2];exact g5'
     · exact g7 b o n1 n2 n3 n4 y
   refine ⟨.ref s.heap.objs.size,_,I2,rfl,⟨s.heap.objs.size,x,y,hfree,fun ys hy'=>by rw [I.tuple_inj hy' hq1];exact hx,fun ys' hy'=>by rw [I.tuple_inj hy' hq2];exact hy,rfl,rfl⟩,⟨g1',?_,⟨u1,u2,?_⟩,?_,?_⟩,fun b hb=>(hf2 b hb).1⟩
   · show h2'.get? TI=_
     rw [hs2.2 TI D.TIz];exact g7 TI _ D.TIz D.TITO D.TIi1 D.TIi2 hTI
   · show h2'.get? TO=_
     rw [hs2.2 TO D.TOz];exact g2
   · exact g3.at fun o y=>by rw [hs2.2 i1 D.i1z];exact y
   · exact g4.at fun o y=>by rw [hs2.2 i2 D.i2z];exact y
 done:=by
   intro X hP hw hK hc i pins s σ H E I hf st hg
   subst hP hw hK
   obtain ⟨hz,hTI,⟨a,b,hTO⟩,h1,h2⟩:=st
   obtain ⟨xs,ys,hq1,hq2,hle⟩:=hg
   obtain ⟨its1,rv1,p1,hz1⟩:=I.tuple hq1
   obtain ⟨its2,rv2,p2,hz2⟩:=I.tuple hq2
   have l1:=rv1.length
   have l2:=rv2.length
   exact Zkl (I.ok.hd hc) D hz hTI hTO h1 p1 (Array.getElem?_eq_none (by simp;omega)) fun h' eb=>⟨rfl,I.turned2 (t':=s.toks) (fp:=[z,TI,TO,i1,i2]) (fun b o hb y=>eb b o (fun q=>hb (by simp [q])) (fun q=>hb (by simp [q])) (fun q=>hb (by simp [q])) (fun q=>hb (by simp [q])) y) hf⟩
 self:=fun _ _ _ _ _ st h=>wpAny_pyIter_zip st.1 h
def ZmV (K:KF)(ta tb:TE):TI:=fun σ H R=>ta σ H fun v H1=>tb σ H1 fun u H2=>∃ a b xs ys,[v,u]=[V.ref a,V.ref b]∧SqT K H2 a xs∧SqT K H2 b ys∧R (ZbG K a b) H2
section
variable {X:Cx}
theorem ZjS {l m:Expr}{ta tb:TE}{elts:List Expr}{x1:Nat}{tp p pos:Pos}(hg:Gl X "zip")(hm:X.mg "zip"=none)(hl:PE X l ta)(hr:PE X m tb)
   (he:starEach [l,m] X.env=(false,eval l X.env)::starEach [m] X.env:=by rfl) (he2:starEach [m] X.env=[(false,eval m X.env)]:=by rfl) (hpl:(backTo pos (starEach [m] X.env)).any (·.1)=false:=by rfl):PI X (.Tuple elts x1 tp) (.Call (.Name "zip" p) [l,m] [] pos) (ZmV X.K ta tb):=by
 intro pins s σ H R I h
 have ha:PA X [l,m] (YX ta (YX tb Wr)):=Ys hl (Ys hr Za he2) he
 refine wpAny_Call_Name_kw (WM I hg hm ZhT ?_)
 refine PyProof.Rows.callWith_type1 (Zr (ha pos pins s σ H (fun vs H2=>∃ a b xs ys,vs=[V.ref a,V.ref b]∧SqT X.K H2 a xs∧SqT X.K H2 b ys∧R (ZbG X.K a b) H2) I h) fun us s1 ⟨vs,H1,I1,r1,a,b,xs,ys,e,ea,eb,q⟩=>?_) he hpl
 subst e
 obtain ⟨u1,u2,rfl,r2,r3⟩:∃ u1 u2,us=[u1,u2]∧RelV (V.ref a) u1∧RelV (V.ref b) u2:=by
   cases r1 with
   | cons p t=>cases t with
     | cons p2 t2=>cases t2;exact ⟨_,_,rfl,p,p2⟩
 cases r2
 cases r3
 obtain ⟨its1,rv1,⟨o1,eo1,c1,n1,d1⟩,_⟩:=I1.tuple ea
 obtain ⟨its2,rv2,⟨o2,eo2,c2,n2,d2⟩,_⟩:=I1.tuple eb
 have ha1:a < s1.heap.objs.size:=Heap.lt_size eo1
 have hb1:b < s1.heap.objs.size:=Heap.lt_size eo2
 refine ZhV ⟨_,eo1,c1,n1,d1⟩ ⟨_,eo2,c2,n2,d2⟩ fun h' g1 g2 g3 g4 g5 g6 g7=>wpAny_pyIter_zip g1 ?_
 refine ⟨s1.heap.objs.size+4,[s1.heap.objs.size+4,s1.heap.objs.size+2,s1.heap.objs.size+3,s1.heap.objs.size,s1.heap.objs.size+1],_,_,H1,rfl,I1.kept (t':=s1.toks) g7,Zhz (l1:=a) (l2:=b) ⟨?_,?_,?_,?_,?_,?_,?_,?_,?_,?_,?_,?_,?_,?_,?_,?_,?_,?_⟩ ?_ ?_,⟨g1,g2,⟨_,_,g3⟩,g4,g5⟩,fun c hc=>?_,q⟩
 rotate_right
 · simp only [List.mem_cons,List.not_mem_nil,or_false] at hc
   have up:∀ k,Xc X pins H1 (s1.heap.objs.size+k):=fun k=>I1.fpOk (Nat.le_add_right _ k) (I1.hok.fresh (Nat.le_add_right _ k))
   rcases hc with q | q | q | q | q
   · rw [q];exact up 4
   · rw [q];exact up 2
   · rw [q];exact up 3
   · rw [q];exact up 0
   · rw [q];exact up 1
 all_goals
   first
     | exact Nat.ne_of_lt (by first | (apply Nat.lt_of_lt_of_le (by assumption);omega) | (simp only [Nat.add_lt_add_iff_left];decide) | (show _ < _+_;exact Nat.lt_add_of_pos_right (by decide)))
     | exact Nat.ne_of_gt (by first | (simp only [Nat.add_lt_add_iff_left];decide) | exact Nat.lt_add_of_pos_right (by decide))
end
theorem Zif {K:KF}{a b:Addr}{xs ys:List V}{g:TG}{tb:TS}{D:XY}{σ:St}{H:Hp}(hlen:ys.length=xs.length)(Pv:Nat→St→Hp→Prop)(h0:Pv 0 σ H)(hl:∀ i σ H,i≤xs.length→Pv i σ H→SqT K H a xs∧SqT K H b ys)
   (hs:∀ i x y t σ H,xs[i]?=some x→ys[i]?=some y→H t=none→Pv i σ H→g (.ref t) σ (upd H t (.tup [x,y])) fun σ2 H2=>tb { D with nx:=Pv (i+1),ct:=Pv (i+1),bk:=D.nx } σ2 H2) (hd:∀ σ H,Pv xs.length σ H→D.nx σ H) :
   ∃ W:Nat→Nat→St→Hp→Prop,(∃ m,W 0 m σ H)∧∀ i m σ H,W i m σ H →
     ((ZbG K a b).stop i H∧D.nx σ H)∨((ZbG K a b).go i H∧∃ N:St→Hp→Prop,(∀ σ' H',N σ' H'→∃ m',m' < m∧W (i+1) m' σ' H')∧∀ x H',(ZbG K a b).yld i H x H'→g x σ H' fun σ2 H2=>tb { D with nx:=N,ct:=N,bk:=D.nx } σ2 H2):=by
 refine ⟨fun i m σ H=>m=xs.length - i∧i≤xs.length∧Pv i σ H,⟨xs.length,by simp,Nat.zero_le _,h0⟩,?_⟩
 rintro i m σ H ⟨rfl,hi,p⟩
 obtain ⟨q1,q2⟩:=hl i σ H hi p
 by_cases hlt:i < xs.length
 · refine .inr ⟨⟨xs,ys,xs[i],ys[i]'(by omega),q1,q2,by simp [hlt],by simp [show i < ys.length by omega]⟩,Pv (i+1),fun σ' H' p'=>⟨xs.length - (i+1),by omega,rfl,hlt,p'⟩,fun x H' y=>?_⟩
   obtain ⟨t,x',y',e1,e2,e3,e4,e5⟩:=y
   subst e4 e5
   exact hs i x' y' t σ _ (e2 xs q1) (e3 ys q2) e1 p
 · have e:i=xs.length:=by omega
   subst e
   exact .inl ⟨⟨xs,ys,q1,q2,Nat.le_refl _⟩,hd σ H p⟩
end L2
set_option maxHeartbeats 2000000
namespace L2
open PySem PySem.Spec PyProof.Rows
section
variable {X:Cx}
end
end L2
set_option maxHeartbeats 2000000
namespace L2
open PySem
def Rz (xs:Array Nat):Prop:=xs.toList.Pairwise (· < ·)
theorem Rz.get {xs:Array Nat}(h:Rz xs){i j:Nat}(hj:j < xs.size)(hij:i < j):xs[i]'(by omega) < xs[j]:=by
 have:=(List.pairwise_iff_getElem.mp h) i j (by rw [Array.length_toList];omega) (by rw [Array.length_toList];exact hj) hij
 simpa using this
theorem ZaN {xs:Array Nat}{j:Nat}(h:Rz xs):∀(f lo hi:Nat),hi - lo≤f→lo≤hi→hi≤xs.size→(∀ i (hz:i < xs.size),i < lo→xs[i] < j)→(∀ i (hz:i < xs.size),hi≤i→j≤xs[i]) →
   SetTable.below.go xs j f lo hi≤xs.size∧(∀ i (hz:i < xs.size),i < SetTable.below.go xs j f lo hi→xs[i] < j)∧∀ i (hz:i < xs.size),SetTable.below.go xs j f lo hi≤i→j≤xs[i]
 | 0,lo,hi,hf,hl,hs,a,b=>by
   have:lo=hi:=by omega
   subst this
   exact ⟨hs,a,b⟩
 | f + 1,lo,hi,hf,hl,hs,a,b=>by
   unfold SetTable.below.go
   by_cases c:lo < hi
   · rw [if_pos c]
     have hm:(lo+hi) / 2 < xs.size:=by omega
     have e:xs.getD ((lo+hi) / 2) j=xs[(lo+hi) / 2]:=by simp [Array.getD,hm]
     dsimp only
     rw [e]
     by_cases d:xs[(lo+hi) / 2] < j
     · rw [if_pos d]
       refine ZaN h f ((lo+hi) / 2+1) hi (by omega) (by omega) hs (fun i hi9 hlt=>?_) b
       by_cases z:i=(lo+hi) / 2
       · subst z;exact d
       · exact Nat.lt_trans (h.get hm (by omega)) d
     · rw [if_neg d]
       refine ZaN h f lo ((lo+hi) / 2) (by omega) (by omega) (by omega) a fun i hz hle=>?_
       by_cases z:i=(lo+hi) / 2
       · subst z;omega
       · have:=h.get hz (show (lo+hi) / 2 < i by omega);omega
   · rw [if_neg c]
     have:lo=hi:=by omega
     subst this
     exact ⟨hs,a,b⟩
theorem Wy {xs:Array Nat}(h:Rz xs)(j:Nat):SetTable.below xs j≤xs.size∧(∀ i (hi:i < xs.size),i < SetTable.below xs j→xs[i] < j)∧∀ i (hz:i < xs.size),SetTable.below xs j≤i→j≤xs[i] :=
 ZaN h xs.size 0 xs.size (by omega) (by omega) (Nat.le_refl _) (fun i _ z=>absurd z (by omega)) (fun i hz z=>absurd hz (by omega))
theorem Zib {xs:Array Nat}(h:Rz xs){m:Nat}(hm:m < xs.size):SetTable.below xs xs[m]=m:=by
 obtain ⟨h1,h2,h3⟩:=Wy h xs[m]
 have a:SetTable.below xs xs[m]≤m:=by
   rcases Nat.lt_or_ge m (SetTable.below xs xs[m]) with z | z
   · have:=h2 m hm z;omega
   · exact z
 rcases Nat.lt_or_ge (SetTable.below xs xs[m]) m with z | z
 · have:=h3 _ (by omega) (Nat.le_refl _)
   have:=h.get hm z
   omega
 · omega
theorem ZfI {xs:Array Nat}(h:Rz xs){m:Nat}(hm:m < xs.size):SetTable.below xs (xs[m]+1)=m+1:=by
 obtain ⟨h1,h2,h3⟩:=Wy h (xs[m]+1)
 have a:m < SetTable.below xs (xs[m]+1):=by
   rcases Nat.lt_or_ge m (SetTable.below xs (xs[m]+1)) with z | z
   · exact z
   · have:=h3 m hm z;omega
 rcases Nat.lt_or_ge (m+1) (SetTable.below xs (xs[m]+1)) with z | z
 · have:=h2 (m+1) (by omega) z
   have:=h.get (i:=m) (j:=m+1) (by omega) (by omega)
   omega
 · omega
theorem ZfX {xs:Array Nat}(h:Rz xs):SetTable.below xs 0=0:=by
 obtain ⟨h1,h2,h3⟩:=Wy h 0
 rcases Nat.lt_or_ge 0 (SetTable.below xs 0) with z | z
 · have:=h2 0 (by omega) z;omega
 · omega
theorem ZeL (j:Nat):SetTable.has #[] j=false:=by unfold SetTable.has;simp
theorem Zgw {t:SetTable}(h:Rz t.place){j:Nat}(e:t.slot j=.empty):∀ i (hi:i < t.place.size),t.place[i]≠j:=by
 intro i hi z
 unfold SetTable.slot at e
 have:t.place[SetTable.below t.place j]?=some j:=by rw [← z,Zib h hi,Array.getElem?_eq_getElem hi]
 simp [this] at e
theorem Zio {t:SetTable}(h:t.dummies=#[])(j:Nat):t.slot j≠.dummy:=by
 unfold SetTable.slot
 rw [h,ZeL]
 simp only [Bool.false_eq_true,if_false]
 split<;>intro z<;>cases z
theorem Zdk {t:SetTable}{ha:Nat→Int}{x:Int}(h:t.dummies=#[]):∀(f:Nat)(p:SetTable.Probe){j:Nat}{d:Option Nat},p.dummy=none→SetTable.probe.go t ha x f p=some (.empty j d)→t.slot j=.empty∧d=none
 | 0,_,_,_,_,e=>by simp [SetTable.probe.go] at e
 | f + 1,p,j,d,hp,e=>by
   unfold SetTable.probe.go at e
   cases z:t.slot p.j with
   | empty =>
     rw [z] at e
     simp only [Option.some.injEq,SetTable.Met.empty.injEq] at e
     obtain ⟨rfl,rfl⟩:=e
     exact ⟨z,hp⟩
   | dummy=>exact absurd z (Zio h _)
   | live i =>
     rw [z] at e
     dsimp only at e
     split at e
     · cases e
     · refine Zdk h f _ ?_ e
       unfold SetTable.advance
       split
       · exact hp
       · exact hp
theorem ZgB {t:SetTable}(h:t.dummies=#[]){x:Int}{j:Nat}{b:Bool}(e:t.freeSlot x=some (j,b)):t.slot j=.empty∧b=false:=by
 unfold SetTable.freeSlot SetTable.probe at e
 split at e
 · rename_i j' d e9
   obtain ⟨h1,rfl⟩:=Zdk h _ _ (by rfl) e9
   simp only [Option.some.injEq,Prod.mk.injEq] at e
   obtain ⟨rfl,rfl⟩:=e
   exact ⟨h1,rfl⟩
 · cases e
theorem Zgj {xs:Array Nat}(h:Rz xs){j:Nat}(hj:∀ i (hi:i < xs.size),xs[i]≠j):Rz (SetTable.insertAt xs (SetTable.below xs j) j):=by
 obtain ⟨h1,h2,h3⟩:=Wy h j
 unfold Rz
 rw [SetTable.toList_insertAt,List.pairwise_append]
 refine ⟨List.Pairwise.sublist (List.take_sublist _ _) h,List.pairwise_cons.mpr ⟨fun y hy=>?_,List.Pairwise.sublist (List.drop_sublist _ _) h⟩,fun x hx y hy=>?_⟩
 · obtain ⟨i,hi,rfl⟩:=List.mem_iff_getElem.mp hy
   rw [List.length_drop,Array.length_toList] at hi
   rw [List.getElem_drop,Array.getElem_toList]
   have:=h3 (SetTable.below xs j+i) (by omega) (by omega)
   have:=hj (SetTable.below xs j+i) (by omega)
   omega
 · obtain ⟨i,hi,rfl⟩:=List.mem_iff_getElem.mp hx
   rw [List.length_take,Array.length_toList] at hi
   rw [List.getElem_take,Array.getElem_toList]
   have a:=h2 i (by omega) (by omega)
   rcases List.mem_cons.mp hy with rfl | hy
   · exact a
   · obtain ⟨m,hm,rfl⟩:=List.mem_iff_getElem.mp hy
     rw [List.length_drop,Array.length_toList] at hm
     rw [List.getElem_drop,Array.getElem_toList]
     have:=h3 (SetTable.below xs j+m) (by omega) (by omega)
     omega
theorem ZhX (n:Nat):Rz (Array.range n):=by
 unfold Rz
 rw [Array.toList_range]
 exact List.pairwise_lt_range
structure TOk (b:Bool)(t:SetTable):Prop where
 rz:Rz t.place
 du:t.dummies=#[]
 led:b=true∨t.led=true
theorem TOk.stand {b:Bool}{t:SetTable}(h:TOk b t)(n:Nat):TOk b (t.standIn n):=⟨ZhX n,rfl,h.led⟩
theorem TOk.or {b:Bool}{t:SetTable}(h:TOk b t)(n:Nat):TOk b (t.orStandIn n):=by
 unfold SetTable.orStandIn
 split
 · exact h
 · exact h.stand n
theorem TOk.off {b:Bool}{t:SetTable}(h:TOk b t):TOk b { t with plain:=false }:=⟨h.rz,h.du,h.led⟩
theorem TOk.put {b:Bool}{t:SetTable}(h:TOk b t){j:Nat}(e:t.slot j=.empty):TOk b (t.put j).1:=by
 refine ⟨Zgj h.rz (Zgw h.rz e),?_,h.led⟩
 show (if SetTable.has t.dummies j then _ else t.dummies)=#[]
 rw [h.du,ZeL];rfl
theorem TOk.new {b:Bool}{t:SetTable}(h:TOk b t)(es:Array (Int×Value))(x:Int)(v:Value):TOk b (layNew t es x v).2.1:=by
 unfold layNew
 split
 · rename_i j d e
   exact (h.put (ZgB h.du e).1).or _
 · exact h.stand _
theorem ZeD {R:Nat→Nat→Prop}{f:Nat→Option (Nat×Nat)}(hf:∀ j x,f j=some x→x.1=j):∀{l:List Nat},l.Pairwise R→((l.filterMap f).map (·.1)).Pairwise R:=by
 intro l
 have mem:∀ {l:List Nat} {y:Nat},y∈(l.filterMap f).map (·.1)→y∈l:=fun {l y} hy=>by
   obtain ⟨x,hx,rfl⟩:=List.mem_map.mp hy
   obtain ⟨j,hj,e⟩:=List.mem_filterMap.mp hx
   rw [hf j x e];exact hj
 induction l with
 | nil=>intro _;exact .nil
 | cons a r ih =>
   intro h
   obtain ⟨h1,h2⟩:=List.pairwise_cons.mp h
   rw [List.filterMap_cons]
   cases e:f a with
   | none=>exact ih h2
   | some x =>
     refine List.pairwise_cons.mpr ⟨fun y hy=>?_,ih h2⟩
     show R x.1 y
     rw [show x.1=a from hf a x e]
     exact h1 y (mem hy)
theorem TOk.relay {b:Bool}{t:SetTable}(h:TOk b t)(es:Array (Int×Value))(n:Nat):TOk b (relayAll t es n).2.1:=by
 unfold relayAll
 split
 · rename_i t' o e
   dsimp only
   split
   · unfold SetTable.relaid SetTable.laid at e
     cases z:SetTable.layClean (SetTable.sizeAbove n - 1) (es.map (·.1)) with
     | none=>rw [z] at e;cases e
     | some ow =>
       rw [z] at e
       have e:some (_,_)=some (t',o):=e
       cases e
       refine ⟨?_,rfl,h.led⟩
       show Rz (List.toArray _)
       unfold Rz
       rw [List.toList_toArray]
       refine ZeD (fun j x e=>?_) List.pairwise_lt_range
       cases y:ow.getD j none with
       | none=>rw [y] at e;cases e
       | some m=>rw [y] at e;cases e;rfl
   · exact h.stand _
 · exact h.stand _
end L2
set_option maxHeartbeats 2000000
namespace L2
open PySem PySem.Spec PyProof.Rows
def Xa (w:World):Bool:=w.params.followText "set-order"
def YY:Value→Zk
 | .int i _=>.inl i
 | .str x _=>.inr x
 | _=>.inl 0
theorem WO {k:Zk}{v:Value}(h:YQ k v=true):YY v=k:=by
 rcases ZP h with ⟨i,t,rfl,rfl⟩ | ⟨x,t,rfl,rfl⟩<;>rfl
theorem ZkG {k:Zk}{v:Value}(h:YQ k v=true):v.scannable=true:=by
 rcases ZP h with ⟨i,t,rfl,rfl⟩ | ⟨x,t,rfl,rfl⟩<;>rfl
def Xy (xs:Array (Int×Value)):List Zk:=xs.toList.map fun e=>YY e.2
def SetG (P:Program)(w:World)(h:Heap)(a:Addr)(ks:List Zk):Prop :=
 ∃ o xs ep t,h.get? a=some o∧o.ExactSet∧o.data=.set xs ep t∧ElemsOf (Zl P w) xs.toList∧(Xy xs).Perm ks∧ks.Nodup∧xs.size < scanBound∧t.fits xs.size=true∧TOk (Xa w) t
def Yh (ks:List Zk)(k:Zk):List Zk:=if (ks.any fun j=>decide (j=k))=true then ks else ks++[k]
theorem any_mem {ks:List Zk}{k:Zk}:(ks.any fun j=>decide (j=k))=true↔k∈ks:=by
 rw [List.any_eq_true]
 exact ⟨fun ⟨x,hx,e⟩=>of_decide_eq_true e ▸ hx,fun h=>⟨k,h,decide_eq_true rfl⟩⟩
theorem UP {ks:List Zk}{k:Zk}(h:ks.Nodup):(Yh ks k).Nodup:=by
 unfold Yh
 split
 · exact h
 · rename_i z
   rw [List.nodup_append]
   exact ⟨h,by simp,fun a ha b hb e=>z (any_mem.mpr <| by rw [← List.mem_singleton.mp hb,← e];exact ha)⟩
theorem ZiS {ks:List Zk}{k x:Zk}:x∈Yh ks k↔x∈ks∨x=k:=by
 unfold Yh
 split
 · rename_i z;exact ⟨.inl,fun h=>h.elim id fun e=>e ▸ any_mem.mp z⟩
 · rw [List.mem_append,List.mem_singleton]
theorem Zia (ks:List Zk)(k:Zk):(Yh ks k).length≤ks.length+1:=by
 unfold Yh
 split
 · omega
 · rw [List.length_append];exact Nat.le_refl _
section
variable {prog:Program}{w:World}{A:Around}{E:Zv}{s:Shared}
theorem Zht {xs:Array (Int×Value)}{k:Zk}(h:ElemsOf (Zl prog w) xs.toList):k∈Xy xs↔∃ e∈xs.toList,YQ k e.2=true:=by
 unfold Xy
 rw [List.mem_map]
 constructor
 · rintro ⟨e,he,rfl⟩
   obtain ⟨⟨j,hj,_⟩,_⟩:=h e he
   refine ⟨e,he,?_⟩
   rw [WO (k:=j) hj];exact hj
 · rintro ⟨e,he,hk⟩
   exact ⟨e,he,WO hk⟩
theorem XZ {h:Heap}{a:Addr}{o:Obj}{xs ys:Array (Int×Value)}{ep:Nat}{t u:SetTable}(ho:h.get? a=some o)(hd:o.data=.set xs ep t) :
   (h.update a (Obj.putSet ys u)).get? a=some { o with data:=.set ys (ep+1) u }:=by
 have e:=putSet_of (o:=o) ys u hd
 have g:=Heap.get?_update_self (Obj.putSet ys u) ho (by rw [e];rfl)
 rwa [e] at g
theorem Zeh {g:Bool→Sem Unit}(hg:∀(b:Bool)(s₁:Shared)(R:Unit→Shared→Prop),R () s₁→wpAny (model prog w) A (g b) R E s₁)
   {a:Addr} {o:Obj} {xs ys:Array (Int×Value)} {ep:Nat} {t u:SetTable} {ks:List Zk} (ho:s.heap.get? a=some o) (hx:o.ExactSet) (hd:o.data=.set xs ep t)
   (h1:ElemsOf (Zl prog w) ys.toList) (h2:(Xy ys).Perm ks) (h3:ks.Nodup) (h4:ys.size < scanBound) (h5:u.fits ys.size=true) (h6:TOk (Xa w) u) {d:Bool} {R:Option Bool→Shared→Prop}
   (q:∀ h',Heap.SameBut a s.heap h'→SetG prog w h' a ks→R (some true) { s with heap:=h' }) :
   wpAny (model prog w) A (do
       storeSet a ys u
       if (!d&&u.tooFull)=true then do
           g (relayAll u ys (SetTable.grown ys.size)).2.2
           storeSet a (relayAll u ys (SetTable.grown ys.size)).1 (relayAll u ys (SetTable.grown ys.size)).2.1
           pure (some true)
         else pure (some true)) R E s:=by
 refine wpAny_bind (wpAny_storeSet_of ho hd ?_ (fits_of_scanBound h4))
 have o1:=XZ (ys:=ys) (u:=u) ho hd
 have s1:=Heap.SameBut.update s.heap a (Obj.putSet ys u)
 split
 · have p:=relayAll_perm u ys (SetTable.grown ys.size)
   have f:=relayAll_fits u ys (SetTable.grown ys.size)
   have k:=h6.relay ys (SetTable.grown ys.size)
   generalize relayAll u ys (SetTable.grown ys.size)=L at p f k ⊢
   obtain ⟨zs,v,gv⟩:=L
   dsimp only at p f k ⊢
   have z:zs.size=ys.size:=by rw [← Array.length_toList,p.length_eq,Array.length_toList]
   refine wpAny_bind (hg _ _ _ ?_)
   refine wpAny_bind (wpAny_storeSet_of o1 rfl ?_ (fits_of_scanBound (by rw [z];exact h4)))
   have o2:=XZ (ys:=zs) (u:=v) o1 rfl
   exact wpAny_pure (q _ (s1.trans (Heap.SameBut.update _ a _)) ⟨_,zs,_,v,o2,hx,rfl,h1.perm p,(p.map _).trans h2,h3,by rw [z];exact h4,f,k⟩)
 · exact wpAny_pure (q _ s1 ⟨_,ys,_,u,o1,hx,rfl,h1,h2,h3,h4,h5,h6⟩)
theorem Zfa {a:Addr}{ks:List Zk}{k:Zk}{x:Value}{Q:Bool→Shared→Prop}(hk:YQ k x=true)(hS:SetG prog w s.heap a ks)(hr:ks.length+1 < scanBound)
   (q:∀ b h',Heap.SameBut a s.heap h'→SetG prog w h' a (Yh ks k)→Q b { s with heap:=h' }):wpAny (model prog w) A (setAddHashed a x ((Zl prog w).hash k)) Q E s:=by
 obtain ⟨o,xs,ep,t,ho,hx,hd,h1,h2,h3,h4,h5,h6⟩:=hS
 have hsc:=ZkG hk
 have hl:xs.size=ks.length:=by rw [← h2.length_eq];unfold Xy;rw [List.length_map,Array.length_toList]
 unfold setAddHashed setAddHashedIn
 refine wpAny_holding (wpAny_bind (wpAny_setState_of ho hd h5 ?_))
 dsimp only
 rw [byScan_of hsc h4 h1,if_pos rfl]
 unfold setAddByScan
 refine wpAny_bind (wpAny_bind (wpAny_rule (wpAny_bind (wpAny_setScan_of (knd:=Zl prog w) (k:=k) hk ho hd h5 h1 ?_))))
 have gw:∀ (b:Bool) (s₁:Shared) (R:Unit→Shared→Prop),R () s₁→wpAny (model prog w) A (match b with | true=>rule "set.scan.the-table-gave-way" | false=>pure ()) R E s₁:=fun b s₁ R z=>by
   cases b
   · exact wpAny_pure z
   · exact wpAny_rule z
 have hin:=Zht (k:=k) h1
 cases hf:xs.toList.findIdx? (fun e=>(Zl prog w).is k e.2) with
 | some j =>
   obtain ⟨hj,hp,_⟩:=List.findIdx?_eq_some_iff_getElem.mp hf
   have hm:k∈ks:=h2.mem_iff.mp (hin.mpr ⟨xs.toList[j],List.getElem_mem hj,hp⟩)
   refine wpAny_pure (wpAny_pure (q _ s.heap (Heap.SameBut.refl a s.heap) ?_))
   unfold Yh
   rw [if_pos (any_mem.mpr hm)]
   exact ⟨o,xs,ep,t,ho,hx,hd,h1,h2,h3,h4,h5,h6⟩
 | none =>
   have hm:k ∉ ks:=fun z=>by
     obtain ⟨e,he,hp⟩:=hin.mp (h2.mem_iff.mpr z)
     have y:=List.findIdx?_eq_none_iff.mp hf e he
     rw [show (Zl prog w).is k e.2=true from hp] at y
     cases y
   dsimp only
   have p:=layNew_perm t xs ((Zl prog w).hash k) x
   have f:=layNew_fits t xs ((Zl prog w).hash k) x
   have tk:=h6.new xs ((Zl prog w).hash k) x
   generalize layNew t xs ((Zl prog w).hash k) x=L at p f tk ⊢
   obtain ⟨ys,u,wd,gv⟩:=L
   dsimp only at p f tk ⊢
   rw [Array.toList_push] at p
   have e1:ElemsOf (Zl prog w) ys.toList:=(h1.push (k:=k) hk hsc).perm p
   have e2:(Xy ys).Perm (Yh ks k):=by
     unfold Yh
     rw [if_neg fun z=>hm (any_mem.mp z)]
     have:=p.map fun e=>YY e.2
     rw [List.map_append] at this
     refine this.trans ?_
     show ((xs.toList.map fun e=>YY e.2)++[YY x]).Perm _
     rw [WO hk]
     exact h2.append_right _
   have e4:ys.size < scanBound:=by
     rw [← Array.length_toList,p.length_eq,List.length_append,Array.length_toList,hl];exact hr
   refine wpAny_bind (gw _ _ _ ?_)
   split
   · refine wpAny_bind ?_
     rw [hashByValue_scannable 8 hsc]
     refine wpAny_pure ?_
     refine Zeh gw ho hx hd e1 e2 (UP h3) e4 ?_ ?_ fun h' sb G=>wpAny_pure (q _ h' sb G)
     · split
       · exact f
       · exact SetTable.fits_plain_off f
     · split
       · exact tk
       · exact tk.off
   · refine wpAny_bind (wpAny_pure ?_)
     exact Zeh gw ho hx hd e1 e2 (UP h3) e4 (by simpa using f) (by simpa using tk) fun h' sb G=>wpAny_pure (q _ h' sb G)
end
end L2
set_option maxHeartbeats 4000000
namespace L2
open PySem PySem.Spec PyProof.Rows
theorem SetG.keep {P:Program}{w:World}{h h':Heap}{a:Addr}{ks:List Zk}(G:SetG P w h a ks)(k:∀ o,h.get? a=some o→h'.get? a=some o):SetG P w h' a ks:=by
 obtain ⟨o,xs,ep,t,ho,r⟩:=G
 exact ⟨o,xs,ep,t,k o ho,r⟩
def Ya (ks:List Zk):List Zk:=ks.foldl Yh []
theorem ZaD:∀(l ks:List Zk),(l.foldl Yh ks).length≤ks.length+l.length
 | [],_=>Nat.le_refl _
 | k::l,ks=>by
   have h1:=ZaD l (Yh ks k)
   have h2:=Zia ks k
   show (l.foldl Yh (Yh ks k)).length≤ks.length+(l.length+1)
   omega
theorem XI {x:Zk}:∀(l ks:List Zk),x∈l.foldl Yh ks↔x∈ks∨x∈l
 | [],ks=>by simp
 | k::l,ks=>by
   show x∈l.foldl Yh (Yh ks k)↔_
   rw [XI l,ZiS,List.mem_cons,or_assoc]
theorem Xx:∀(l ks:List Zk),ks.Nodup→(l.foldl Yh ks).Nodup
 | [],_,h=>h
 | k::l,ks,h=>Xx l (Yh ks k) (UP h)
theorem WW (l:List Zk):(Ya l).length≤l.length:=by
 have:=ZaD l []
 have e:([]:List Zk).length=0:=rfl
 unfold Ya
 omega
theorem VN {x:Zk}{l:List Zk}:x∈Ya l↔x∈l:=by unfold Ya;rw [XI];simp
theorem Zel (l:List Zk):(Ya l).Nodup:=Xx l [] .nil
theorem Zgf (l:List Zk)(k:Zk):Ya (l++[k])=Yh (Ya l) k:=by unfold Ya;rw [List.foldl_append];rfl
section
variable {prog:Program}{w:World}{A:Around}{R:Result→Shared→Prop}{I:Addr}{fp wr:List Addr}{G:Array GenState→Array GenState→Prop}{n:Nat}{P:Nat→Value→Prop}{St:Nat→Shared→Prop}
end
section
variable {prog:Program}{w:World}{A:Around}{E:Zv}{s:Shared}
theorem newG {h:Heap}:SetG prog w (h.push { cls:=.type "set",dict:=none,data:=.set #[] 0 (.fresh 0 0 (!Xa w)) }) h.objs.size [] :=
 ⟨_,#[],0,_,Heap.get?_push_size _ rfl,⟨rfl,rfl,rfl⟩,rfl,fun e he=>by simp at he,.refl _,.nil,by decide,rfl,⟨.nil,rfl,by cases Xa w<;>simp [SetTable.fresh]⟩⟩
theorem ZkD (a:Value){Q:Zv}(h:Q (.ref s.heap.objs.size) { s with heap:=s.heap.push { cls:=.type "set",dict:=none,data:=.set #[] 0 (.fresh 0 0 (!Xa w)) } }) :
   codeAny (model prog w) A (.call (.builtin "set.__new__") ⟨[.type "set",a],[]⟩) (wants Q E) s:=by
 refine codeAny_of_tree (wpAny_bind (m:=checkBuiltinCall "set.__new__" ⟨[.type "set",a],[]⟩) (wpAny_of_eq (PySem.F.newCall_set_1 a) (wpAny_pure ⟨plainId_quiet F.plain_set_new _,codeAny_builtin F.entry_set_new ?_⟩)))
 rw [Around.under_plainId F.plain_set_new _]
 have hz:=sub_set_self
 obtain ⟨hp,g,d,tk,os⟩:=s
 unfold Builtin.«set.__new__» Builtin.Frozenset.newClass
 dsimp only
 wp_walk
 refine wpAny_askSetting (wpAny_pure ?_)
 dsimp only
 simp only [newObj]
 exact wpAny_bind (wpAny_alloc (wpAny_pure (wpAny_pure h)))
end
end L2
set_option maxHeartbeats 2000000
namespace L2
open PySem
def Vy (M:Nat):Nat→Nat→Nat
 | 0,i=>i
 | t+1,i=>Vy M t ((i * 5+1) % M)
theorem Uy (M:Nat):∀(s t i:Nat),Vy M (s+t) i=Vy M t (Vy M s i)
 | 0,t,i=>by rw [Nat.zero_add];rfl
 | s+1,t,i=>by rw [show s+1+t=(s+t)+1 by omega];exact Uy M s t _
theorem Zjp (M t i:Nat):Vy M (t+1) i=(Vy M t i * 5+1) % M:=Uy M t 1 i
def Zao (t:Nat):Nat:=(5 ^ t - 1) / 4
theorem ZeQ (t:Nat):4 * Zao t+1=5 ^ t:=by
 induction t with
 | zero=>rfl
 | succ t ih =>
   unfold Zao
   rw [Nat.pow_succ]
   omega
theorem Zdt {M:Nat}(hM:0 < M)(t:Nat):Vy M t 0=Zao t % M:=by
 induction t with
 | zero=>exact (Nat.zero_mod M).symm
 | succ t ih =>
   rw [Zjp,ih]
   have e:Zao (t+1)=Zao t * 5+1:=by
     have h1:=ZeQ t
     have h2:=ZeQ (t+1)
     rw [Nat.pow_succ] at h2
     omega
   rw [e,Nat.add_mod,Nat.mul_mod,Nat.mod_mod,← Nat.mul_mod,← Nat.add_mod]
def Ms:List Nat:=[8,16,32,64,128,256]
theorem ZiP:(Ms.all fun M=>decide (Zao M % M=0)&&(List.range M).all fun j=>(List.range M).any fun t=>decide (Zao t % M=j))=true:=by decide +kernel
theorem ZmW {M:Nat}(hM:M∈Ms){i j:Nat}(hi:i < M)(hj:j < M):∃ t,t < M∧Vy M t i=j:=by
 have h0:0 < M:=by omega
 have h:=List.all_eq_true.mp ZiP M hM
 rw [Bool.and_eq_true,decide_eq_true_eq] at h
 obtain ⟨hz,ha⟩:=h
 have at_:∀ {j},j < M→∃ t,t < M∧Vy M t 0=j:=fun {j} hj=>by
   have:=List.all_eq_true.mp ha j (List.mem_range.mpr hj)
   obtain ⟨t,ht,e⟩:=List.any_eq_true.mp this
   exact ⟨t,List.mem_range.mp ht,by rw [Zdt h0];exact of_decide_eq_true e⟩
 obtain ⟨a,ha1,ha2⟩:=at_ hi
 obtain ⟨b,hb1,hb2⟩:=at_ hj
 by_cases hab:a≤b
 · refine ⟨b - a,by omega,?_⟩
   rw [← ha2,← Uy,show a+(b - a)=b by omega,hb2]
 · refine ⟨b+M - a,by omega,?_⟩
   rw [← ha2,← Uy,show a+(b+M - a)=M+b by omega,Uy,Zdt h0,hz,hb2]
def XW (mask:Nat):Nat→Nat×Nat→Nat×Nat
 | 0,s=>s
 | t+1,s=>XW mask t (SetTable.leap mask s.1 s.2)
theorem Vl (mask:Nat):∀(s t:Nat)(x:Nat×Nat),XW mask (s+t) x=XW mask t (XW mask s x)
 | 0,t,x=>by rw [Nat.zero_add];rfl
 | s+1,t,x=>by rw [show s+1+t=(s+t)+1 by omega];exact Vl mask s t _
theorem Zeu (mask:Nat):∀(t:Nat)(x:Nat×Nat),(XW mask t x).2=x.2 / 32 ^ t
 | 0,x=>by rw [Nat.pow_zero,Nat.div_one];rfl
 | t+1,x=>by
   show (XW mask t (SetTable.leap mask x.1 x.2)).2=_
   rw [Zeu mask t]
   show x.2 / 32 / 32 ^ t=_
   rw [Nat.div_div_eq_div_mul,Nat.pow_succ,Nat.mul_comm]
theorem ZeU (mask:Nat):∀(t i:Nat),(XW mask t (i,0)).1=Vy (mask+1) t i
 | 0,i=>rfl
 | t+1,i=>by
   show (XW mask t ((i * 5+1+0 / 32) % (mask+1),0 / 32)).1=Vy (mask+1) t ((i * 5+1) % (mask+1))
   rw [Nat.zero_div,Nat.add_zero]
   exact ZeU mask t _
theorem Zbm {mask:Nat}{ow:Array (Option Nat)}:∀{f i p j:Nat},SetTable.layClean.free mask ow f i p=some j→ow.getD j (some 0)=none
 | 0,_,_,_,h=>by simp [SetTable.layClean.free] at h
 | f + 1,i,p,j,h=>by
   unfold SetTable.layClean.free at h
   split at h
   · rename_i k e
     have:=List.find?_some e
     cases h
     simpa using this
   · exact Zbm h
theorem Zcv {mask:Nat}{ow:Array (Option Nat)}:∀{f i p t:Nat},t < f→ow.getD (XW mask t (i,p)).1 (some 0)=none→∃ j,SetTable.layClean.free mask ow f i p=some j
 | 0,_,_,_,h,_=>absurd h (by omega)
 | f + 1,i,p,t,h,hn=>by
   unfold SetTable.layClean.free
   cases e:(List.range (SetTable.runEnd mask i+1 - i)).find? fun k=>(ow.getD (i+k) (some 0)).isNone with
   | some k=>exact ⟨_,rfl⟩
   | none =>
     cases t with
     | zero =>
       have hr:i≤SetTable.runEnd mask i:=by unfold SetTable.runEnd;split<;>omega
       have:=List.find?_eq_none.mp e 0 (List.mem_range.mpr (by omega))
       rw [show i+0=i from rfl] at this
       have hn':ow.getD i (some 0)=none:=hn
       rw [hn'] at this
       exact absurd rfl this
     | succ t=>exact Zcv (by omega) hn
theorem Zkj (h:Int):SetTable.bits h < 2 ^ 64:=by
 unfold SetTable.bits
 have h1:=Int.emod_nonneg h (show (2 ^ 64:Int)≠0 by decide)
 have h2:=Int.emod_lt_of_pos h (show (0:Int) < 2 ^ 64 by decide)
 have:((2 ^ 64:Nat):Int)=(2 ^ 64:Int):=by decide
 omega
theorem ZgU {mask:Nat}(hM:mask+1∈Ms){ow:Array (Option Nat)}{j:Nat}(hj:j < mask+1)(hn:ow.getD j (some 0)=none)(h:Int):∃ j',SetTable.layClean.free mask ow (SetTable.turns mask) (SetTable.bits h % (mask+1)) (SetTable.bits h)=some j':=by
 have hp:(XW mask 13 (SetTable.bits h % (mask+1),SetTable.bits h)).2=0:=by
   rw [Zeu]
   exact Nat.div_eq_of_lt (Nat.lt_trans (Zkj h) (by decide))
 generalize hx:XW mask 13 (SetTable.bits h % (mask+1),SetTable.bits h)=x at hp
 have hx1:x.1 < mask+1:=by
   rw [← hx,show 13=12+1 from rfl,Vl]
   exact Nat.mod_lt _ (by omega)
 obtain ⟨t,ht,e⟩:=ZmW hM hx1 hj
 refine Zcv (t:=13+t) (by unfold SetTable.turns;omega) ?_
 rw [Vl,hx,show x=(x.1,0) from Prod.ext rfl hp,ZeU,e]
 exact hn
theorem ZgL {k:Nat}:∀{l:List (Option Nat)}{j:Nat},l[j]?=some none→((l.set j (some k)).filterMap id).Perm (k::l.filterMap id)
 | [],_,h=>by simp at h
 | a::l,0,h=>by
   cases h
   rw [List.set_cons_zero]
   exact .refl _
 | a::l,j+1,h=>by
   rw [List.set_cons_succ]
   have ih:=ZgL (k:=k) (l:=l) (j:=j) (by simpa using h)
   cases a with
   | none=>exact ih
   | some b=>exact (ih.cons b).trans (.swap ..)
theorem Zmj {l:List (Option Nat)}(h:∀ x∈l,x≠none):(l.filterMap id).length=l.length:=by
 induction l with
 | nil=>rfl
 | cons a l ih =>
   cases a with
   | none=>exact absurd rfl (h none List.mem_cons_self)
   | some b =>
     show (b::l.filterMap id).length=_
     rw [List.length_cons,List.length_cons,ih fun x hx=>h x (List.mem_cons_of_mem _ hx)]
theorem ZdY {mask:Nat}(hM:mask+1∈Ms):∀(hs:List Int)(ow:Array (Option Nat))(k:Nat),ow.size=mask+1→(ow.toList.filterMap id).Perm (List.range k)→k+hs.length≤mask →
   ∃ ow',hs.foldl (fun acc h=>do
     let (owner,k) ← acc
     let j ← SetTable.layClean.free mask owner (SetTable.turns mask) (SetTable.bits h % (mask+1)) (SetTable.bits h)
     pure (owner.setIfInBounds j (some k),k+1)) (some (ow,k))=some (ow',k+hs.length)∧ow'.size=mask+1∧(ow'.toList.filterMap id).Perm (List.range (k+hs.length))
 | [],ow,k,h1,h2,_=>⟨ow,rfl,h1,h2⟩
 | h :: hs,ow,k,h1,h2,h3=>by
   rw [List.length_cons] at h3
   obtain ⟨j,hj,hn⟩:∃ j,j < mask+1∧ow.getD j (some 0)=none:=by
     apply Classical.byContradiction
     intro z
     have:(ow.toList.filterMap id).length=ow.toList.length:=Zmj fun x hx y=>by
       obtain ⟨j,hj,e⟩:=List.mem_iff_getElem.mp hx
       rw [Array.length_toList,h1] at hj
       refine z ⟨j,hj,?_⟩
       rw [Array.getElem_toList] at e
       have hj':j < ow.size:=by omega
       simp [Array.getD,hj',e,y]
     rw [h2.length_eq,List.length_range,Array.length_toList,h1] at this
     omega
   obtain ⟨j',e⟩:=ZgU hM hj hn h
   have hj':=Zbm e
   have hlt:j' < ow.size:=by
     apply Classical.byContradiction
     intro z
     have:ow.getD j' (some 0)=some 0:=by simp [Array.getD,z]
     rw [this] at hj';cases hj'
   have hat:ow.toList[j']?=some none:=by
     rw [Array.getElem?_toList,Array.getElem?_eq_getElem hlt]
     have:ow.getD j' (some 0)=ow[j']:=by simp [Array.getD,hlt]
     rw [← this,hj']
   obtain ⟨ow',g1,g2,g3⟩:=ZdY hM hs (ow.setIfInBounds j' (some k)) (k+1) (by rw [Array.size_setIfInBounds];exact h1) (by
     rw [Array.toList_setIfInBounds]
     refine (ZgL hat).trans ((h2.cons k).trans ?_)
     rw [List.range_succ]
     exact (List.perm_append_singleton k (List.range k)).symm) (by omega)
   refine ⟨ow',?_,g2,?_⟩
   · rw [List.foldl_cons,List.length_cons,show k+(hs.length+1)=k+1+hs.length by omega,← g1]
     congr 1
     show (do let j ← SetTable.layClean.free mask ow (SetTable.turns mask) (SetTable.bits h % (mask+1)) (SetTable.bits h);pure (ow.setIfInBounds j (some k),k+1))=_
     rw [e];rfl
   · rw [List.length_cons,show k+(hs.length+1)=k+1+hs.length by omega];exact g3
theorem Zgo {mask:Nat}(hM:mask+1∈Ms){hs:Array Int}(hn:hs.size≤mask):∃ ow,SetTable.layClean mask hs=some ow∧ow.size=mask+1∧(ow.toList.filterMap id).Perm (List.range hs.size):=by
 have z:((Array.replicate (mask+1) (none:Option Nat)).toList.filterMap id)=[]:=by
   rw [Array.toList_replicate,List.filterMap_eq_nil_iff]
   intro x hx
   rw [(List.mem_replicate.mp hx).2];rfl
 obtain ⟨ow,h1,h2,h3⟩:=ZdY hM hs.toList (Array.replicate (mask+1) none) 0 (by simp) (by rw [z];exact .refl _) (by rw [Array.length_toList];omega)
 rw [Nat.zero_add,Array.length_toList] at h1 h3
 refine ⟨ow,?_,h2,h3⟩
 unfold SetTable.layClean
 rw [← Array.foldl_toList]
 have:=congrArg (Option.map Prod.fst) h1
 exact this
theorem ZeZ {mask:Nat}(hM:mask+1∈Ms){fg mv:Nat}{led plain b:Bool}(hled:b=true∨led=true){hs:Array Int}(hn:hs.size≤mask):∃ t order,SetTable.laid mask fg mv led plain hs=some (t,order)∧TOk b t∧t.fits hs.size=true∧t.mask=mask∧order.toList.Perm (List.range hs.size):=by
 obtain ⟨ow,e,hsz,hp⟩:=Zgo hM hn
 have hsnd:((List.range (mask+1)).filterMap fun j=>(ow.getD j none).map (j,·)).map (·.2)=ow.toList.filterMap id:=by
   rw [List.map_filterMap]
   have e1:ow.toList=(List.range (mask+1)).map fun j=>ow.getD j none:=by
     refine List.ext_getElem? fun j=>?_
     rw [List.getElem?_map,Array.getElem?_toList]
     by_cases hj:j < mask+1
     · rw [List.getElem?_range hj,Array.getElem?_eq_getElem (by omega)]
       have hj':j < ow.size:=by omega
       simp [Array.getD,hj']
     · rw [Array.getElem?_eq_none (by omega),List.getElem?_eq_none (by rw [List.length_range];omega)];rfl
   rw [e1,List.filterMap_map]
   congr 1
   funext j
   show Option.map _ (Option.map _ (ow.getD j none))=ow.getD j none
   cases ow.getD j none<;>rfl
 have hlen:((List.range (mask+1)).filterMap fun j=>(ow.getD j none).map (j,·)).length=hs.size:=by
   rw [← List.length_map (f:=(·.2)),hsnd,hp.length_eq,List.length_range]
 refine ⟨_,_,by unfold SetTable.laid;rw [e];rfl,⟨?_,rfl,hled⟩,?_,rfl,?_⟩
 · show Rz (List.toArray _)
   unfold Rz
   rw [List.toList_toArray]
   refine ZeD (fun j x e=>?_) List.pairwise_lt_range
   cases y:ow.getD j none with
   | none=>rw [y] at e;cases e
   | some m=>rw [y] at e;cases e;rfl
 · unfold SetTable.fits SetTable.fill
   rw [Bool.and_eq_true,beq_iff_eq,decide_eq_true_eq]
   show (List.toArray _).size=hs.size∧(List.toArray _).size+0≤mask
   rw [List.size_toArray,List.length_map,hlen]
   exact ⟨rfl,by omega⟩
 · show (List.toArray _).toList.Perm _
   rw [List.toList_toArray,hsnd];exact hp
end L2
set_option maxHeartbeats 4000000
namespace L2
open PySem PySem.Spec PyProof.Rows
section
variable {prog:Program}{w:World}{A:Around}{E:Zv}{s:Shared}
abbrev UT (w:World):Obj:={ cls:=.type "set",dict:=none,data:=.set #[] 0 (.fresh 0 0 (!Xa w)) }
end
end L2
set_option maxHeartbeats 4000000
namespace L2
open PySem PySem.Spec PyProof.Rows
theorem ZbC:entryFor table "set.__iter__"=some Builtin.«frozenset.__iter__»:=entryFor_alias (id':="frozenset.__iter__") (by kernel_rfl) rfl (by decide +kernel) (by kernel_rfl)
theorem slot_seti_next:Slot "set_iterator" "__next__" "set_iterator.__next__" :=
 .of (owner:="set_iterator") (n:="__next__") (by rw [typeLookup_type,builtinLookup_eq_fast];kernel_rfl) (by decide +kernel) (by decide +kernel) (by decide +kernel) (by decide +kernel) (by rw [isSubtype_type];kernel_rfl)
theorem UK:Slot "set_iterator" "__iter__" "set_iterator.__iter__" :=
 .of (owner:="set_iterator") (n:="__iter__") (by rw [typeLookup_type,builtinLookup_eq_fast];kernel_rfl) (by decide +kernel) (by decide +kernel) (by decide +kernel) (by decide +kernel) (by rw [isSubtype_type];kernel_rfl)
theorem WX:entryFor table "set_iterator.__next__"=some Builtin.«set_iterator.__next__»:=entryFor_of_tree (by kernel_rfl)
theorem Uz (a:Value):argsOk "set_iterator.__next__" ⟨[a],[]⟩:=by unfold argsOk;kernel_rfl
theorem ZbY (a:Value):argsOk "set_iterator.__iter__" ⟨[a],[]⟩:=by unfold argsOk;kernel_rfl
theorem ZaT {α:Type}{l:List α}{i:Nat}(h:i < l.length):(l[i]::l.eraseIdx i).Perm l:=by
 rw [List.eraseIdx_eq_take_drop_succ]
 refine List.perm_middle.symm.trans ?_
 rw [← List.drop_eq_getElem_cons h,List.take_append_drop]
section
variable {M:Model}{A:Around}{E:Zv}
theorem ZgW {s:Shared}{src:Source}{n:Nat}{Q:Nat→Shared→Prop}(hn:n≠0)(h:∀ i d,i < n→Q i { s with drawn:=d }):wpAny M A (choose src n) Q E s :=
 fun _ _ _=>⟨hn,h _ _ (Nat.mod_lt _ (Nat.pos_of_ne_zero hn))⟩
theorem Zee {α:Type}(n:Nat):∀(xs:List α){s:Shared}{Q:List α→Shared→Prop},xs.length=n→(∀ ys d,ys.Perm xs→Q ys { s with drawn:=d })→wpAny M A (drawOrder n xs) Q E s:=by
 induction n with
 | zero =>
   intro xs s Q hl h
   cases xs with
   | nil=>exact wpAny_pure (h [] s.drawn (.refl _))
   | cons x r=>cases hl
 | succ n ih =>
   intro xs s Q hl h
   cases xs with
   | nil=>cases hl
   | cons x xs =>
     unfold drawOrder
     refine wpAny_bind (ZgW (by simp) fun i d hi=>?_)
     rw [List.getElem?_eq_getElem hi]
     refine wpAny_bind (ih ((x::xs).eraseIdx i) (by rw [List.length_eraseIdx_of_lt hi];rw [List.length_cons] at hl ⊢;omega) fun ys d' p=>wpAny_pure (h _ d' ?_))
     exact (p.cons _).trans (ZaT hi)
end
theorem ZeB {α:Type}(f:Nat→Nat):∀(m k:Nat)(xs:List α)(out:Array α),xs.length≤m→(pickOrder.go f m k xs out).toList.Perm (out.toList++xs)
 | 0,k,xs,out,h=>by
   have:xs=[]:=List.eq_nil_of_length_eq_zero (by omega)
   subst this
   unfold pickOrder.go
   rw [List.append_nil]
 | m + 1,k,xs,out,h=>by
   unfold pickOrder.go
   cases xs with
   | nil=>simp
   | cons x r =>
     have hi:f k % (x::r).length < (x::r).length:=Nat.mod_lt _ (by simp)
     rw [List.getElem?_eq_getElem hi]
     have:=ZeB f m (k+1) ((x::r).eraseIdx (f k % (x::r).length)) (out.push (x::r)[f k % (x::r).length]) (by rw [List.length_eraseIdx_of_lt hi];omega)
     refine this.trans ?_
     rw [Array.toList_push,List.append_assoc]
     exact (ZaT hi).append_left _
theorem Zcn {α:Type}(f:Nat→Nat)(xs:Array α):(pickOrder f xs).toList.Perm xs.toList:=by
 have:=ZeB f xs.size 0 xs.toList #[] (by simp)
 unfold pickOrder
 simpa using this
def SetRw (h:Heap)(a:Addr)(xs:Array (Int×Value))(ep:Nat)(t:SetTable):Prop:=∃ o,h.get? a=some o∧o.ExactSet∧o.data=.set xs ep t
section
variable {prog:Program}{w:World}{A:Around}{E:Zv}{s:Shared}{I a:Addr}{first:Value}{i n ep:Nat}{xs:Array (Int×Value)}{t:SetTable}
theorem Zep {Q:Zv}(hR:SetRw s.heap a xs ep t)(hf:t.fits xs.size=true)(hb:xs.size < scanBound)
   (q1:(Xa w=true∨(!t.plain&&decide (xs.size > 1))=false)→Q (.ref s.heap.objs.size) { s with heap:=s.heap.push { cls:=.type "set_iterator",data:=.fields #[rawInt 0,rawInt 0,.ref a,rawInt xs.size,rawInt ep] } })
   (q2:∀ (ys:List Nat) (d:Drawn),Xa w=false→ys.Perm (List.range xs.size)→Q (.ref (s.heap.objs.size+1)) { s with heap:=(s.heap.push { cls:=.type "tuple",data:=.seq (ys.map fun (i:Nat)=>rawInt i).toArray }).push { cls:=.type "set_iterator",data:=.fields #[.ref s.heap.objs.size,rawInt 0,.ref a,rawInt xs.size,rawInt ep] },drawn:=d }) :
   wpAny (model prog w) A (pyIter (.ref a)) Q E s:=by
 obtain ⟨o,ho,hx,hd⟩:=hR
 have hT:s.TypeIs (.ref a) "set":=⟨o,ho,hx.1⟩
 refine wpAny_pyIter_slot hT PySem.F.slot_set_iter (wpAny_call_entry PySem.F.slot_set_iter hT ZbC ?_ (PySem.F.args_set_iter_1 _))
 unfold Builtin.«frozenset.__iter__»
 refine wpAny_bind (m:=Builtin.Frozenset.slot0 "__iter__" ⟨[.ref a],[]⟩) (wpAny_of_eq (a:=a) (by rfl) ?_)
 refine wpAny_bind (m:=Builtin.Frozenset.sizeOf a) (wpAny_bind (wpAny_setEntries_of ho hd hf (wpAny_pure ?_)))
 refine wpAny_bind (m:=setDrawn a) (wpAny_bind (wpAny_setState_of ho hd hf (wpAny_bind (m:=setsByText) (wpAny_bind (wpAny_askSetting (wpAny_pure (wpAny_pure ?_)))))))
 refine wpAny_ite_split (fun hc=>?_) (fun hc=>?_)
 · have hc':(!Xa w&&(!t.plain&&decide (xs.size > 1)))=true:=hc
   rw [Bool.and_eq_true] at hc'
   refine wpAny_bind (Zee xs.size (List.range xs.size) List.length_range fun ys d p=>?_)
   have hl:ys.length=xs.size:=by rw [p.length_eq,List.length_range]
   refine wpAny_bind (m:=newTuple _) (wpAny_newObj_type ?_ ?_)
   · refine wpAny_bind (m:=setEpoch a) (wpAny_setEpoch_of (Heap.get?_push_of_some _ ho) hd hf ?_)
     refine wpAny_bind (m:=newFields _ _) (wpAny_newObj_type (wpAny_pure ⟨_,rfl,"set_iterator",_,⟨_,Heap.get?_push_size _ rfl,rfl⟩,slot_seti_next.lookup,?_⟩))
     have:=q2 ys d (by simpa using hc'.1) p
     rw [Heap.size_push]
     exact this
   · show (List.toArray _).size≤sizeLine
     rw [List.size_toArray,List.length_map,hl]
     exact fits_of_scanBound hb
 · refine wpAny_bind (wpAny_pure ?_)
   refine wpAny_bind (m:=setEpoch a) (wpAny_setEpoch_of ho hd hf ?_)
   refine wpAny_bind (m:=newFields _ _) (wpAny_newObj_type (wpAny_pure ⟨_,rfl,"set_iterator",_,⟨_,Heap.get?_push_size _ rfl,rfl⟩,slot_seti_next.lookup,?_⟩))
   refine q1 ?_
   have hc':¬ (!Xa w&&(!t.plain&&decide (xs.size > 1)))=true:=hc
   cases z:Xa w with
   | true=>exact .inl rfl
   | false=>rw [z] at hc';exact .inr (by simpa using hc')
end
end L2
set_option maxHeartbeats 4000000
namespace L2
open PySem PySem.Spec PyProof.Rows
section
variable {prog:Program}{w:World}{A:Around}{E:Zv}{s:Shared}{I a:Addr}{first:Value}{i n ep:Nat}{xs:Array (Int×Value)}{t:SetTable}
def WL (w:World)(a:Addr)(ep:Nat)(xs:Array (Int×Value)):List Value:=if Xa w=true then (pickOrder (w.params.setOrder a ep) xs).toList.map (·.2) else xs.toList.map (·.2)
theorem ordE_perm:(WL w a ep xs).Perm (xs.toList.map (·.2)):=by
 unfold WL
 split
 · exact (Zcn _ _).map _
 · exact .refl _
theorem ZaJ:(WL w a ep xs).length=xs.size:=by rw [ordE_perm.length_eq,List.length_map,Array.length_toList]
def VC (w:World)(t:SetTable)(i slot:Nat):Prop:=Xa w=true∨SetTable.below t.place slot=i
theorem ZfJ {slot:Nat}{Q:Option (Value×Nat)→Shared→Prop}(hR:SetRw s.heap a xs ep t)(hf:t.fits xs.size=true)(ht:TOk (Xa w) t)(hnd:Xa w=true∨(!t.plain&&decide (xs.size > 1))=false)(hs:VC w t i slot)
   (q1:∀ v slot',(WL w a ep xs)[i]?=some v→VC w t (i+1) slot'→Q (some (v,slot')) s) (q2:(WL w a ep xs)[i]?=none→Q none s):wpAny (model prog w) A (setNext a slot i ep) Q E s:=by
 obtain ⟨o,ho,hx,hd⟩:=hR
 unfold setNext
 refine wpAny_bind (wpAny_setState_of ho hd hf ?_)
 refine wpAny_bind (m:=setsByText) (wpAny_bind (wpAny_askSetting (wpAny_pure ?_)))
 dsimp only
 refine wpAny_ite_split (fun hc=>?_) (fun hc=>?_)
 · have hc':Xa w=true:=hc
   rw [if_neg (by simp)]
   refine wpAny_bind (m:=setWalk a) ?_
   unfold setWalk
   refine wpAny_bind (wpAny_setState_of ho hd hf ?_)
   refine wpAny_bind (m:=setsByText) (wpAny_bind (wpAny_askSetting (wpAny_pure ?_)))
   dsimp only
   rw [if_pos hc]
   refine wpAny_bind (wpAny_askSetting (wpAny_pure (wpAny_pure ?_)))
   unfold WL at q1 q2
   rw [if_pos hc',List.getElem?_map,Array.getElem?_toList] at q2
   show Q (Option.map (fun e=>(e.2,slot)) (pickOrder (w.params.setOrder a ep) xs)[i]?) s
   cases e:(pickOrder (w.params.setOrder a ep) xs)[i]? with
   | none=>exact q2 (by rw [e];rfl)
   | some x =>
     refine q1 x.2 slot ?_ (.inl hc')
     rw [if_pos hc',List.getElem?_map,Array.getElem?_toList,e];rfl
 · have hc':Xa w=false:=by
     have:¬ Xa w=true:=hc
     simpa using this
   refine wpAny_ite_split (fun hz=>?_) (fun hz=>?_)
   · have hz':(!t.plain&&decide (xs.size > 1))=true:=hz
     rcases hnd with y | y
     · rw [hc'] at y;cases y
     · rw [y] at hz';cases hz'
   · have hled:t.led=true:=by
       rcases ht.led with y | y
       · rw [hc'] at y;cases y
       · exact y
     have hpl:t.place.size=xs.size:=by
       unfold SetTable.fits at hf
       rw [Bool.and_eq_true,beq_iff_eq] at hf
       exact hf.1
     have hbe:SetTable.below t.place slot=i:=by
       rcases hs with y | y
       · rw [hc'] at y;cases y
       · exact y
     refine wpAny_bind (show wpAny (model prog w) A (if (!t.led&&!xs.isEmpty)=true then unsupported "set:maker-not-led" else pure ()) _ E s from ?_)
     rw [hled,if_neg (by simp)]
     refine wpAny_pure (wpAny_pure ?_)
     unfold WL at q1 q2
     rw [if_neg (by rw [hc'];simp),List.getElem?_map,Array.getElem?_toList] at q2
     rw [hbe]
     by_cases hi:i < xs.size
     · have hip:i < t.place.size:=by omega
       rw [Array.getElem?_eq_getElem hi,Array.getElem?_eq_getElem hip]
       refine q1 _ _ ?_ (.inr (ZfI ht.rz hip))
       rw [if_neg (by rw [hc'];simp),List.getElem?_map,Array.getElem?_toList,Array.getElem?_eq_getElem hi];rfl
     · rw [Array.getElem?_eq_none (by omega)]
       exact q2 (by rw [Array.getElem?_eq_none (by omega)];rfl)
theorem UZ {x:Value}{j:Nat}{vs:Array Value}(ho:s.heap.get? I=some { cls:=.type "set_iterator",data:=.fields vs }):(s.heap.update I (Obj.mapFields (·.setIfInBounds j x))).get? I=some { cls:=.type "set_iterator",data:=.fields (vs.setIfInBounds j x) } :=
 Heap.get?_update_self (Obj.mapFields (·.setIfInBounds j x)) ho rfl
abbrev itO (f:Value)(i:Nat)(a:Addr)(n ep:Nat):Obj:={ cls:=.type "set_iterator",data:=.fields #[f,rawInt i,.ref a,rawInt n,rawInt ep] }
theorem Zdo {g:Shared}{Q:Option Value→Shared→Prop}(hh:A.handled=none)(q:∀ h',(∀ b o,g.heap.get? b=some o→h'.get? b=some o)→Q none { g with heap:=h' })
   {R:PySem.Fin→Shared→Prop} {E':Zv} (hE:∀ e s',wpAny (model prog w) A (do if (← isInstance e (Value.type "StopIteration"))=true then pure none else throw e) Q E s'→E' e s'):wpAny (model prog w) A.in1 (do let e ← newExc (Value.type "StopIteration") [];raiseNew e) R E' g:=by
 refine wpAny_bind ?_
 simp only [newExc,newTuple]
 refine wpAny_bind (wpAny_newObj_type ?_ (by size_fits))
 refine wpAny_bind (m:=firstArgMember _ _) (wpAny_of_eq (a:=Value.none) (by first | rfl | (simp only [firstArgMember];rfl)) ?_)
 refine wpAny_newObj_type ?_ (by size_fits)
 simp only [raiseNew]
 refine wpAny_bind (wpAny_handled ?_)
 rw [show A.in1.handled=none from hh]
 refine wpAny_bind (wpAny_pure (wpAny_throw (hE _ _ ?_)))
 refine wpAny_bind (wpAny_isInstance (T:="StopIteration") (b:=true) ⟨_,Heap.get?_push_size _ rfl,rfl⟩ isSubtype_stop (wpAny_pure (q _ fun b o e=>?_)))
 exact Heap.get?_push_of_some _ (Heap.get?_push_of_some _ e)
theorem ZcM {slot:Nat}{Q:Option Value→Shared→Prop}(hI:s.heap.get? I=some (itO (rawInt slot) i a xs.size ep))(hR:SetRw s.heap a xs ep t)(hf:t.fits xs.size=true)(ht:TOk (Xa w) t)(hnd:Xa w=true∨(!t.plain&&decide (xs.size > 1))=false)(hs:VC w t i slot)(hh:A.handled=none)
   (q1:∀ v slot' h',(WL w a ep xs)[i]?=some v→VC w t (i+1) slot'→h'.get? I=some (itO (rawInt slot') (i+1) a xs.size ep)→Heap.ExtBut I s.heap h'→Q (some v) { s with heap:=h' })
   (q2:∀ h',(WL w a ep xs)[i]?=none→Heap.ExtBut I s.heap h'→Q none { s with heap:=h' }):wpAny (model prog w) A (pyNext (.ref I)) Q E s:=by
 have hT:s.TypeIs (.ref I) "set_iterator":=⟨_,hI,rfl⟩
 obtain ⟨o,ho,hx,hd⟩:=id hR
 unfold pyNext
 refine wpAny_bind (wpAny_attempt (wpAny_callSpecial?_slot (name:=Str.ofString "__next__") hT slot_seti_next (wpAny_call_entry slot_seti_next hT WX ?_ (Uz _))))
 unfold Builtin.«set_iterator.__next__»
 refine wpAny_bind (wpAny_pure (wpAny_bind (wpAny_fieldsOf hI rfl ?_)))
 show wpAny (model prog w) A.in1 (setEntries a >>= _) _ _ s
 refine wpAny_bind (wpAny_setEntries_of ho hd hf ?_)
 dsimp only
 rw [if_neg (by simp)]
 show wpAny (model prog w) A.in1 (setNext a (slot:Int).toNat (i:Int).toNat (ep:Int).toNat >>= _) _ _ s
 rw [Int.toNat_natCast,Int.toNat_natCast,Int.toNat_natCast]
 refine wpAny_bind (ZfJ hR hf ht hnd hs (fun v slot' hv hs'=>?_) (fun hv=>?_))
 · dsimp only
   refine wpAny_bind (wpAny_setField hI rfl (by simp) ?_)
   have h1:=UZ (x:=rawInt slot') (j:=0) hI
   refine wpAny_bind (wpAny_setField (s:={ s with heap:=_ }) h1 rfl (by simp) ?_)
   have h2:=UZ (s:={ s with heap:=_ }) (x:=rawInt ((i:Int)+1)) (j:=1) h1
   exact wpAny_pure ⟨_,rfl,wpAny_pure (q1 v slot' _ hv hs' h2 (((Heap.SameBut.update ..).extBut).trans (Heap.SameBut.update ..).extBut))⟩
 · dsimp only
   refine wpAny_bind (wpAny_setField hI rfl (by simp) ?_)
   exact Zdo (g:={ s with heap:=s.heap.update I (Obj.mapFields (·.setIfInBounds 2 Value.none)) }) hh (fun h' k=>q2 h' hv fun b o nb e=>k b o ((Heap.SameBut.update s.heap I _).extBut b o nb e)) fun e s' z=>z
theorem Zby {T:Addr}{ys:List Nat}{e0:Nat}{Q:Option Value→Shared→Prop}(hI:s.heap.get? I=some (itO (.ref T) i a xs.size ep))(hT:s.heap.get? T=some { cls:=.type "tuple",data:=.seq (ys.map fun (i:Nat)=>rawInt i).toArray e0 })(hR:SetRw s.heap a xs ep t)(hf:t.fits xs.size=true)(hy:∀ y∈ys,y < xs.size)(hh:A.handled=none)
   (q1:∀ (y:Nat) (v:Int×Value) h',ys[i]?=some y→xs[y]?=some v→h'.get? I=some (itO (.ref T) (i+1) a xs.size ep)→Heap.ExtBut I s.heap h'→Q (some v.2) { s with heap:=h' })
   (q2:∀ h',ys[i]?=none→Heap.ExtBut I s.heap h'→Q none { s with heap:=h' }):wpAny (model prog w) A (pyNext (.ref I)) Q E s:=by
 have hTI:s.TypeIs (.ref I) "set_iterator":=⟨_,hI,rfl⟩
 obtain ⟨o,ho,hx,hd⟩:=id hR
 unfold pyNext
 refine wpAny_bind (wpAny_attempt (wpAny_callSpecial?_slot (name:=Str.ofString "__next__") hTI slot_seti_next (wpAny_call_entry slot_seti_next hTI WX ?_ (Uz _))))
 unfold Builtin.«set_iterator.__next__»
 refine wpAny_bind (wpAny_pure (wpAny_bind (wpAny_fieldsOf hI rfl ?_)))
 show wpAny (model prog w) A.in1 (setEntries a >>= _) _ _ s
 refine wpAny_bind (wpAny_setEntries_of ho hd hf ?_)
 dsimp only
 rw [if_neg (by simp)]
 show wpAny (model prog w) A.in1 (seqItems? (.ref T) >>= _) _ _ s
 refine wpAny_bind (wpAny_bind (wpAny_load hT (wpAny_pure ?_)))
 dsimp only
 rw [Int.toNat_natCast,List.getElem?_toArray,List.getElem?_map]
 cases e:ys[i]? with
 | none =>
   dsimp only [Option.map_none]
   refine wpAny_bind (wpAny_setField hI rfl (by simp) ?_)
   have h1:=UZ (x:=rawInt 0) (j:=0) hI
   refine wpAny_bind (wpAny_setField (s:={ s with heap:=_ }) h1 rfl (by simp) ?_)
   refine Zdo (g:={ s with heap:=(s.heap.update I (Obj.mapFields (·.setIfInBounds 0 (rawInt 0)))).update I (Obj.mapFields (·.setIfInBounds 2 Value.none)) }) hh (fun h' k=>q2 h' e fun b o nb z=>k b o ?_) fun e s' z=>z
   exact (((Heap.SameBut.update ..).extBut).trans (Heap.SameBut.update ..).extBut) b o nb z
 | some y =>
   have hlt:=hy y (List.mem_of_getElem? e)
   show wpAny (model prog w) A.in1 (setNextDrawn a (y:Int).toNat (ep:Int).toNat >>= _) _ _ s
   rw [Int.toNat_natCast,Int.toNat_natCast]
   refine wpAny_bind ?_
   unfold setNextDrawn
   refine wpAny_bind (wpAny_setState_of ho hd hf ?_)
   dsimp only
   rw [if_neg (by simp),Array.getElem?_eq_getElem hlt]
   refine wpAny_pure ?_
   refine wpAny_bind (wpAny_setField hI rfl (by simp) ?_)
   have h1:=UZ (x:=rawInt ((i:Int)+1)) (j:=1) hI
   exact wpAny_pure ⟨_,rfl,wpAny_pure (q1 y _ _ e (Array.getElem?_eq_getElem hlt) h1 (Heap.SameBut.update ..).extBut)⟩
end
end L2
set_option maxHeartbeats 4000000
namespace L2
open PySem PySem.Spec PyProof.Rows
theorem ZgO:((List.range 256).all fun n=>decide (SetTable.sizeAbove n∈Ms)&&decide (n < SetTable.sizeAbove n))=true:=by decide +kernel
theorem above {n:Nat}(h:n < 256):SetTable.sizeAbove n∈Ms∧n < SetTable.sizeAbove n:=by
 have:=List.all_eq_true.mp ZgO n (List.mem_range.mpr h)
 rw [Bool.and_eq_true,decide_eq_true_eq,decide_eq_true_eq] at this
 exact this
theorem ZjM {M:Nat}(h:M∈Ms):8≤M∧M≤256:=by
 simp only [Ms,List.mem_cons,List.not_mem_nil,or_false] at h
 omega
def SetM (P:Program)(w:World)(h:Heap)(a:Addr)(ks:List Zk):Prop :=
 ∃ o xs ep t,h.get? a=some o∧o.ExactSet∧o.data=.set xs ep t∧ElemsOf (Zl P w) xs.toList∧(Xy xs).Perm ks∧ks.Nodup∧xs.size < scanBound∧t.fits xs.size=true∧TOk (Xa w) t∧(ks=[]→t.mask+1∈Ms)
theorem SetM.g {P:Program}{w:World}{h:Heap}{a:Addr}{ks:List Zk}(G:SetM P w h a ks):SetG P w h a ks:=by
 obtain ⟨o,xs,ep,t,h1,h2,h3,h4,h5,h6,h7,h8,h9,_⟩:=G
 exact ⟨o,xs,ep,t,h1,h2,h3,h4,h5,h6,h7,h8,h9⟩
theorem SetG.m {P:Program}{w:World}{h:Heap}{a:Addr}{ks:List Zk}(G:SetG P w h a ks)(hne:ks≠[]):SetM P w h a ks:=by
 obtain ⟨o,xs,ep,t,h1,h2,h3,h4,h5,h6,h7,h8,h9⟩:=G
 exact ⟨o,xs,ep,t,h1,h2,h3,h4,h5,h6,h7,h8,h9,fun z=>absurd z hne⟩
theorem Wj {xs:Array (Int×Value)}:(Xy xs).length=xs.size:=by unfold Xy;rw [List.length_map,Array.length_toList]
section
variable {prog:Program}{w:World}{A:Around}{E:Zv}{s:Shared}
theorem ZaU {es:Array (Int×Value)}{order:Array Nat}(h:order.toList.Perm (List.range es.size)):(order.filterMap (es[·]?)).toList.Perm es.toList∧(order.filterMap (es[·]?)).size=es.size:=by
 have p:(order.filterMap (es[·]?)).toList.Perm es.toList:=by
   rw [Array.toList_filterMap]
   exact (h.filterMap _).trans (by rw [filterMap_getElem?_range])
 exact ⟨p,by rw [← Array.length_toList,p.length_eq,Array.length_toList]⟩
theorem ZjY {a:Addr}{ks:List Zk}{n:Nat}{Q:Unit→Shared→Prop}(G:SetG prog w s.heap a ks)(hn:n < 256)(hk:ks.length≤n)(q:∀ h',Heap.SameBut a s.heap h'→SetM prog w h' a ks→(∀ o xs ep t,h'.get? a=some o→o.data=.set xs ep t→n≤t.mask)→Q () { s with heap:=h' }) :
   wpAny (model prog w) A (setRelay a n) Q E s:=by
 obtain ⟨o,xs,ep,t,ho,hx,hd,h1,h2,h3,h4,h5,h6⟩:=G
 obtain ⟨hM,hlt⟩:=above hn
 have hM9:=ZjM hM
 have hsz:xs.size=ks.length:=by rw [← h2.length_eq,Wj]
 unfold setRelay
 refine wpAny_bind (wpAny_setState_of ho hd h5 ?_)
 dsimp only
 rw [if_neg (by rw [sizeLine_eq];omega)]
 obtain ⟨u,order,e,htk,hfit,hmask,hp⟩:=ZeZ (mask:=SetTable.sizeAbove n - 1) (fg:=t.finger) (mv:=t.movedTo (SetTable.sizeAbove n - 1)) (led:=t.led) (plain:=t.plain) (hs:=xs.map (·.1)) (by rw [show SetTable.sizeAbove n - 1+1=SetTable.sizeAbove n by omega];exact hM) h6.led (by rw [Array.size_map];omega)
 rw [Array.size_map] at hfit hp
 obtain ⟨p1,p2⟩:=ZaU (es:=xs) hp
 refine wpAny_bind (show wpAny (model prog w) A (do
     let some (t,order):=t.relaid (xs.map (·.1)) n | unsupported "internal:set-table-without-room"
     let es':=order.filterMap (xs[·]?)
     if es'.size != xs.size then unsupported "internal:set-table-lost-an-element"
     pure (es',t)) _ E s from ?_)
 rw [show t.relaid (xs.map (·.1)) n=some (u,order) from e]
 dsimp only
 rw [if_neg (by rw [p2];simp)]
 refine wpAny_pure ?_
 dsimp only
 refine wpAny_storeSet_of ho hd ?_ (fits_of_scanBound (by rw [p2];exact h4))
 refine q _ (Heap.SameBut.update s.heap a _) ⟨_,_,_,u,XZ ho hd,hx,rfl,h1.perm p1,(p1.map _).trans h2,h3,by rw [p2];exact h4,by rw [p2];exact hfit,htk,fun _=>?_⟩ fun o' xs' ep' t' ho' hd'=>?_
 · rw [hmask,show SetTable.sizeAbove n - 1+1=SetTable.sizeAbove n by omega];exact hM
 · rw [XZ ho hd] at ho'
   cases ho'
   cases hd'
   omega
theorem Zha {a:Addr}{ks:List Zk}{n:Nat}{Q:Unit→Shared→Prop}(G:SetM prog w s.heap a ks)(hn:ks.length+n≤120)(q:∀ h',Heap.SameBut a s.heap h'→SetM prog w h' a ks→(ks=[]→∀ o xs ep t,h'.get? a=some o→o.data=.set xs ep t→n≤t.mask)→Q () { s with heap:=h' }) :
   wpAny (model prog w) A (setRoomFor a n) Q E s:=by
 obtain ⟨o,xs,ep,t,ho,hx,hd,h1,h2,h3,h4,h5,h6,h7⟩:=id G
 have hsz:xs.size=ks.length:=by rw [← h2.length_eq,Wj]
 have hpl:t.place.size=xs.size:=by
   unfold SetTable.fits at h5
   rw [Bool.and_eq_true,beq_iff_eq] at h5
   exact h5.1
 unfold setRoomFor
 refine wpAny_bind (wpAny_setState_of ho hd h5 ?_)
 dsimp only
 unfold SetTable.roomFor
 by_cases c:(t.fill+n) * 5 ≥ t.mask * 3
 · rw [if_pos c]
   refine ZjY G.g (by omega) (by omega) fun h' sb G' hm=>q h' sb G' fun hz o' xs' ep' t' ho' hd'=>?_
   have:=hm o' xs' ep' t' ho' hd'
   omega
 · rw [if_neg c]
   refine wpAny_pure (q s.heap (Heap.SameBut.refl a s.heap) G fun hz o' xs' ep' t' ho' hd'=>?_)
   rw [ho] at ho';cases ho'
   rw [hd] at hd';cases hd'
   have hM:=ZjM (h7 hz)
   unfold SetTable.fill at c
   omega
theorem Zgl {l:List Addr}{Q:Bool→Shared→Prop}(h:∀ a∈l,∃ ks,SetG prog w s.heap a ks)(q:Q true s):wpAny (model prog w) A (setsQuiet l) Q E s:=by
 unfold setsQuiet
 refine wpAny_bind (wpAny_forIn_list _ (fun rest r s'=>r=(none,())∧s'=s∧∀ a∈rest,∃ ks,SetG prog w s.heap a ks) _ ?_ ?_ _ _ ⟨rfl,rfl,h⟩)
 · rintro a rest r s' ⟨rfl,rfl,hr⟩
   obtain ⟨ks,o,xs,ep,t,ho,hx,hd,h1,h2,h3,h4,h5,h6⟩:=hr a List.mem_cons_self
   refine wpAny_bind (wpAny_setEntries_of ho hd h5 ?_)
   rw [← Array.forIn_toList]
   refine wpAny_bind (wpAny_forIn_list _ (fun (rest:List (Int×Value)) r s2=>r=(none,())∧s2=s'∧∀ e∈rest,∃ k,YQ k e.2=true) _ ?_ ?_ _ _ ⟨rfl,rfl,fun e he=>let ⟨⟨k,hk,_⟩,_⟩:=h1 e he;⟨k,hk⟩⟩)
   · rintro ⟨h9,v⟩ rest2 r s2 ⟨rfl,rfl,hk⟩
     obtain ⟨k,hk1⟩:=hk (h9,v) List.mem_cons_self
     obtain ⟨i,t,_,e⟩ | ⟨x,t,_,e⟩:=ZP hk1
     · cases e
       exact wpAny_pure ⟨rfl,rfl,fun e he=>hk e (List.mem_cons_of_mem _ he)⟩
     · cases e
       exact wpAny_pure ⟨rfl,rfl,fun e he=>hk e (List.mem_cons_of_mem _ he)⟩
   · rintro r s2 ⟨rfl,rfl,_⟩
     exact wpAny_pure ⟨rfl,rfl,fun b hb=>hr b (List.mem_cons_of_mem _ hb)⟩
 · rintro r s' ⟨rfl,rfl,_⟩
   exact wpAny_pure q
theorem Zjo {a f:Addr}{ks kf:List Zk}{Q:Array (Int×Value)→Shared→Prop}(hne:f≠a)(G:SetG prog w s.heap a ks)(Gf:SetG prog w s.heap f kf)
   (q:∀ (es:Array (Int×Value)) h' d,Heap.SameBut f s.heap h'→SetG prog w h' f kf→ElemsOf (Zl prog w) es.toList→(Xy es).Perm ks→Q es { s with heap:=h',drawn:=d }) :
   wpAny (model prog w) A (setWalkUnseen a [f] (some f)) Q E s:=by
 obtain ⟨o,xs,ep,t,ho,hx,hd,h1,h2,h3,h4,h5,h6⟩:=G
 obtain ⟨o2,xs2,ep2,t2,go,gx,gd,g1,g2,g3,g4,g5,g6⟩:=id Gf
 have back:∀ (es:Array (Int×Value)),es.toList.Perm xs.toList→∀ d,Q es { s with drawn:=d }:=fun es p d=>q es s.heap d (Heap.SameBut.refl _ _) Gf (h1.perm p) ((p.map _).trans h2)
 have walk:wpAny (model prog w) A (setWalk a) Q E s:=by
   unfold setWalk
   refine wpAny_bind (wpAny_setState_of ho hd h5 ?_)
   refine wpAny_bind (m:=setsByText) (wpAny_bind (wpAny_askSetting (wpAny_pure ?_)))
   dsimp only
   refine wpAny_ite_split (fun hc=>?_) (fun hc=>?_)
   · exact wpAny_bind (wpAny_askSetting (wpAny_pure (back _ (Zcn _ _) s.drawn)))
   · have hb:Xa w=false:=by
       have:¬ Xa w=true:=hc
       simpa using this
     refine wpAny_ite_split (fun _=>?_) (fun _=>?_)
     · refine wpAny_bind (Zee xs.size xs.toList (by simp) fun ys d p=>wpAny_pure (back _ (by rw [List.toList_toArray];exact p) d))
     · have hl:t.led=true:=by
         rcases h6.led with y | y
         · rw [hb] at y;cases y
         · exact y
       refine wpAny_bind (show wpAny (model prog w) A (if (!t.led&&decide (xs.size > 1))=true then unsupported "set:maker-not-led" else pure ()) _ E s from ?_)
       rw [hl,if_neg (by simp)]
       exact wpAny_pure (wpAny_pure (back _ (.refl _) s.drawn))
 unfold setWalkUnseen
 refine wpAny_bind (wpAny_setState_of ho hd h5 ?_)
 refine wpAny_bind (m:=setsByText) (wpAny_bind (wpAny_askSetting (wpAny_pure ?_)))
 dsimp only
 refine wpAny_ite_split (fun _=>walk) (fun hc=>?_)
 refine wpAny_bind (Zgl (fun b hb=>?_) ?_)
 · simp only [List.mem_cons,List.not_mem_nil,or_false] at hb
   rcases hb with rfl | rfl
   · exact ⟨ks,o,xs,ep,t,ho,hx,hd,h1,h2,h3,h4,h5,h6⟩
   · exact ⟨kf,Gf⟩
 · rw [if_neg (by decide)]
   refine wpAny_bind (wpAny_rule (wpAny_bind (wpAny_setState_of go gd g5 ?_)))
   dsimp only
   refine wpAny_ite_split (fun _=>?_) (fun _=>wpAny_pure (back xs (.refl _) s.drawn))
   refine wpAny_bind (wpAny_storeSet_of go gd ?_ (fits_of_scanBound g4))
   refine wpAny_pure (q xs _ s.drawn (Heap.SameBut.update s.heap f _) ⟨_,xs2,_,_,XZ go gd,gx,rfl,g1,g2,g3,g4,?_,⟨g6.rz,g6.du,?_⟩⟩ h1 h2)
   · unfold SetTable.fits SetTable.fill at g5 ⊢;exact g5
   · rcases g6.led with y | y
     · exact .inl y
     · rcases h6.led with z | z
       · exact .inl z
       · exact .inr (by rw [y,z];rfl)
end
end L2
set_option maxHeartbeats 4000000
namespace L2
open PySem PySem.Spec PyProof.Rows
theorem SetG.cast {P:Program}{w:World}{h:Heap}{a:Addr}{ks kr:List Zk}(G:SetG P w h a ks)(p:ks.Perm kr):SetG P w h a kr:=by
 obtain ⟨o,xs,ep,t,h1,h2,h3,h4,h5,h6,h7⟩:=G
 exact ⟨o,xs,ep,t,h1,h2,h3,h4,h5.trans p,p.nodup_iff.mp h6,h7⟩
theorem ZeX {k1 k2:List Zk}(h1:k1.Nodup)(h2:k2.Nodup)(h:∀ x,x∈k1↔x∈k2):k1.Perm k2:=(List.perm_ext_iff_of_nodup h1 h2).mpr h
section
variable {prog:Program}{w:World}{A:Around}{E:Zv}{s:Shared}
theorem Zfi {S o:Addr}{ks ko:List Zk}{each:Sem Unit}{Q:Unit→Shared→Prop}(hne:S≠o)(G:SetM prog w s.heap S ks)(Go:SetG prog w s.heap o ko)(hn:ks.length+ko.length≤120)
   (he:∀ (s1:Shared) (R:Unit→Shared→Prop),(∀ u,s.heap.get? o=some u→s1.heap.get? o=some u)→R () s1→wpAny (model prog w) A each R E s1)
   (q:∀ h' d,Heap.SameBut S s.heap h'→SetM prog w h' S (ko.foldl Yh ks)→Q () { s with heap:=h',drawn:=d }):wpAny (model prog w) A (setMerge S o each) Q E s:=by
 obtain ⟨oo,eo,epo,to,ho,hxo,hdo,a1,a2,a3,a4,a5,a6⟩:=id Go
 have hol:eo.size=ko.length:=by rw [← a2.length_eq,Wj]
 unfold setMerge
 rw [if_neg (by simpa using hne)]
 refine wpAny_bind (wpAny_setState_of ho hdo a5 ?_)
 dsimp only
 refine wpAny_ite_split (fun hz=>?_) (fun hz=>?_)
 · have hk0:ko=[]:=List.eq_nil_of_length_eq_zero (by rw [← hol];simpa using hz)
   subst hk0
   exact wpAny_pure (q s.heap s.drawn (Heap.SameBut.refl _ _) G)
 · have hko:ko≠[]:=fun z=>hz (by rw [z] at hol;simp [Array.isEmpty,hol])
   have hfne:ko.foldl Yh ks≠[]:=fun z=>by
     obtain ⟨k,hk⟩:=List.exists_mem_of_ne_nil ko hko
     have:=(XI (x:=k) ko ks).mpr (.inr hk)
     rw [z] at this;cases this
   refine wpAny_bind (Zha G (by omega) fun h1 sb1 G1 hmask=>?_)
   obtain ⟨o1,xs1,ep1,t1,b1,b2,b3,b4,b5,b6,b7,b8,b9,b10⟩:=id G1
   have ho1:h1.get? o=some oo:=(sb1.2 o hne.symm).trans ho
   have hpl:t1.place.size=xs1.size:=by
     have:=b8
     unfold SetTable.fits at this
     rw [Bool.and_eq_true,beq_iff_eq] at this
     exact this.1
   have hsz1:xs1.size=ks.length:=by rw [← b5.length_eq,Wj]
   refine wpAny_bind (wpAny_setState_of (s:={ s with heap:=h1 }) b1 b3 b8 ?_)
   dsimp only
   have hempty:t1.fill=0→ks=[]∧(ko.foldl Yh ks).Perm ko:=fun z=>by
     unfold SetTable.fill at z
     have:ks=[]:=List.eq_nil_of_length_eq_zero (by omega)
     subst this
     exact ⟨rfl,ZeX (Xx ko [] .nil) a3 fun x=>by rw [XI];simp⟩
   have hled:Xa w=true∨(t1.led&&to.led)=true:=by
     rcases b9.led with y | y
     · exact .inl y
     · rcases a6.led with z | z
       · exact .inl z
       · exact .inr (by rw [y,z];rfl)
   cases hr:t1.road to with
   | slotForSlot =>
     have hf0:t1.fill=0:=by
       apply Classical.byContradiction
       intro z
       unfold SetTable.road at hr
       rw [if_pos (by simpa using z)] at hr;cases hr
     obtain ⟨rfl,hp⟩:=hempty hf0
     dsimp only
     refine wpAny_storeSet_of b1 b3 ?_ (fits_of_scanBound a4)
     refine q _ s.drawn (sb1.trans (Heap.SameBut.update h1 S _)) (SetG.m (SetG.cast ⟨_,eo,_,_,XZ b1 b3,b2,rfl,a1,a2,a3,a4,?_,⟨a6.rz,a6.du,hled⟩⟩ hp.symm) hfne)
     unfold SetTable.fits SetTable.fill at a5 ⊢;exact a5
   | clean =>
     have hf0:t1.fill=0:=by
       apply Classical.byContradiction
       intro z
       unfold SetTable.road at hr
       rw [if_pos (by simpa using z)] at hr;cases hr
     obtain ⟨rfl,hp⟩:=hempty hf0
     dsimp only
     have hm:=hmask rfl o1 xs1 ep1 t1 b1 b3
     obtain ⟨u,order,e,htk,hfit,hmk,hpm⟩:=ZeZ (mask:=t1.mask) (fg:=t1.finger) (mv:=t1.moves) (led:=t1.led&&to.led) (plain:=t1.plain&&to.plain) (hs:=eo.map (·.1)) (b10 rfl) hled (by rw [Array.size_map];omega)
     rw [Array.size_map] at hfit hpm
     obtain ⟨p1,p2⟩:=ZaU (es:=eo) hpm
     refine wpAny_bind (show wpAny (model prog w) A (do
         let some (t,order):=SetTable.laid t1.mask t1.finger t1.moves (led:=t1.led&&to.led) (plain:=t1.plain&&to.plain) (eo.map (·.1)) | unsupported "internal:set-table-without-room"
         let es':=order.filterMap (eo[·]?)
         if es'.size != eo.size then unsupported "internal:set-table-lost-an-element"
         pure (es',t)) _ E _ from ?_)
     rw [e]
     dsimp only
     rw [if_neg (by rw [p2];simp)]
     refine wpAny_pure ?_
     dsimp only
     refine wpAny_storeSet_of b1 b3 ?_ (fits_of_scanBound (by rw [p2];exact a4))
     exact q _ s.drawn (sb1.trans (Heap.SameBut.update h1 S _)) (SetG.m (SetG.cast ⟨_,_,_,u,XZ b1 b3,b2,rfl,a1.perm p1,(p1.map _).trans a2,a3,by rw [p2];exact a4,by rw [p2];exact hfit,htk⟩ hp.symm) hfne)
   | oneByOne =>
     dsimp only
     have Go1:SetG prog w h1 o ko:=Go.keep fun u z=>(sb1.2 o hne.symm).trans z
     refine wpAny_bind (Zjo (s:={ s with heap:=h1 }) hne Go1 G1.g fun es h2 d sb2 G2 e1 e2=>?_)
     rw [← Array.forIn_toList]
     have hup:∀ {k},k∈Xy es→k∈ko:=fun {k} hk=>e2.mem_iff.mp hk
     refine wpAny_bind (wpAny_forIn_list _ (fun (rest:List (Int×Value)) r s'=>r=()∧∃ (dn:List (Int×Value)) (h':Heap),es.toList=dn++rest∧s'={ s with heap:=h',drawn:=d }∧Heap.SameBut S s.heap h'∧SetG prog w h' S ((dn.map fun e=>YY e.2).foldl Yh ks)) _ ?_ ?_ _ _ ⟨rfl,[],h2,rfl,rfl,sb1.trans sb2,G2⟩)
     · rintro ⟨hh,v⟩ rest r s' ⟨rfl,dn,h',hes,rfl,sb,G'⟩
       obtain ⟨⟨k,hk,hhk⟩,_⟩:=e1 (hh,v) (by rw [hes];simp)
       have hhk:hh=(Zl prog w).hash k:=hhk
       subst hhk
       have hlen:((dn.map fun e=>YY e.2).foldl Yh ks).length+1 < scanBound:=by
         have l1:=ZaD (dn.map fun e=>YY e.2) ks
         have l2:es.size=ko.length:=by rw [← e2.length_eq,Wj]
         have l3:=congrArg List.length hes
         rw [List.length_append,Array.length_toList] at l3
         rw [List.length_map] at l1
         show _ < 4096
         omega
       refine wpAny_bind (wpAny_holding (Zfa (s:={ s with heap:=h',drawn:=d }) hk G' hlen fun b h3 sb3 G3=>?_))
       have keepO:∀ u,s.heap.get? o=some u→h3.get? o=some u:=fun u z=>(sb3.2 o hne.symm).trans ((sb.2 o hne.symm).trans z)
       refine wpAny_bind (he _ _ keepO ?_)
       refine wpAny_bind (wpAny_setState_of (s:={ s with heap:=h3,drawn:=d }) (keepO _ ho) hdo a5 ?_)
       dsimp only
       rw [if_neg (by simp)]
       refine wpAny_pure ⟨rfl,dn++[((Zl prog w).hash k,v)],h3,by rw [hes];simp,rfl,sb.trans sb3,?_⟩
       rw [List.map_append,List.foldl_append]
       show SetG prog w h3 S (Yh _ (YY v))
       rw [WO hk]
       exact G3
     · rintro r s' ⟨rfl,dn,h',hes,rfl,sb,G'⟩
       rw [List.append_nil] at hes
       subst hes
       refine wpAny_pure (q h' d sb (SetG.m (SetG.cast G' ?_) hfne))
       have hnd:=G.g
       obtain ⟨_,_,_,_,_,_,_,_,_,hks,_⟩:=hnd
       refine ZeX (Xx _ _ hks) (Xx _ _ hks) fun x=>?_
       rw [XI,XI]
       exact or_congr Iff.rfl e2.mem_iff
end
end L2
set_option maxHeartbeats 4000000
namespace L2
open PySem PySem.Spec PyProof.Rows
theorem ZdP:entryFor table "set.__or__"=some Builtin.«frozenset.__or__»:=entryFor_alias (id':="frozenset.__or__") (by kernel_rfl) rfl (by decide +kernel) (by kernel_rfl)
theorem newM {P:Program}{w:World}{h:Heap}:SetM P w (h.push (UT w)) h.objs.size []:=by
 obtain ⟨o,xs,ep,t,r⟩:=(newG (prog:=P) (w:=w) (h:=h))
 refine ⟨_,#[],0,_,Heap.get?_push_size _ rfl,⟨rfl,rfl,rfl⟩,rfl,fun e he=>by simp at he,.refl _,.nil,by decide,rfl,⟨.nil,rfl,by cases Xa w<;>simp [SetTable.fresh]⟩,fun _=>(show (8:Nat)∈Ms by decide)⟩
section
variable {prog:Program}{w:World}{A:Around}{E:Zv}{s:Shared}
theorem Zhy {Q:Zv}(q:Q (.ref s.heap.objs.size) { s with heap:=s.heap.push (UT w) }):wpAny (model prog w) A (newSet (.type "set")) Q E s:=by
 unfold newSet
 refine wpAny_bind (m:=setsByText) (wpAny_bind (wpAny_askSetting (wpAny_pure ?_)))
 dsimp only
 simp only [newObj]
 exact wpAny_bind (wpAny_alloc (wpAny_pure q))
theorem SetG.typeIs {a:Addr}{ks:List Zk}(G:SetG prog w s.heap a ks):s.TypeIs (.ref a) "set":=by
 obtain ⟨o,_,_,_,ho,hx,_⟩:=G
 exact ⟨o,ho,hx.1⟩
theorem Zlq {l:Addr}{kl:List Zk}{Q:Zv}(G:SetG prog w s.heap l kl)(hn:kl.length≤60)
   (q:∀ h' d,(∀ b o,s.heap.get? b=some o→h'.get? b=some o)→SetM prog w h' s.heap.objs.size (Ya kl)→Q (.ref s.heap.objs.size) { s with heap:=h',drawn:=d }):wpAny (model prog w) A (Builtin.Frozenset.copyOf l) Q E s:=by
 have lt:l < s.heap.objs.size:=by obtain ⟨o,_,_,_,ho,_⟩:=G;exact Heap.lt_size ho
 unfold Builtin.Frozenset.copyOf
 refine wpAny_bind (m:=Builtin.Frozenset.baseOf l) (wpAny_bind (wpAny_isInstance (T:="set") (b:=true) G.typeIs sub_set_self (wpAny_pure ?_)))
 refine wpAny_bind (Zhy ?_)
 refine wpAny_bind (m:=Builtin.Frozenset.addrOf (.ref s.heap.objs.size)) (wpAny_pure ?_)
 refine wpAny_bind (Zfi (s:={ s with heap:=s.heap.push (UT w) }) (Nat.ne_of_gt lt) newM (G.keep fun o e=>Heap.get?_push_of_some _ e) (by show 0+kl.length≤120;omega) (fun s1 R _ z=>wpAny_pure z) fun h' d sb G'=>wpAny_pure (q h' d (fun b o e=>?_) G'))
 exact (sb.2 b (Nat.ne_of_lt (Heap.lt_size e))).trans (Heap.get?_push_of_some _ e)
theorem Zcf {a:Addr}{ks:List Zk}{Q:Bool→Shared→Prop}(G:SetG prog w s.heap a ks)(q:Q true s):wpAny (model prog w) A (Builtin.Frozenset.isAnySet (.ref a)) Q E s:=by
 unfold Builtin.Frozenset.isAnySet
 refine wpAny_bind (wpAny_isInstance (T:="set") (b:=true) G.typeIs sub_set_self ?_)
 exact wpAny_pure q
theorem Zku {l r:Addr}{kl kr:List Zk}{Q:Zv}(hne:l≠r)(Gl:SetG prog w s.heap l kl)(Gr:SetG prog w s.heap r kr)(hn:kl.length+kr.length≤110)(hnl:kl.length≤60)
   (q:∀ h' d tk,(∀ b o,s.heap.get? b=some o→h'.get? b=some o)→SetG prog w h' s.heap.objs.size (kr.foldl Yh (Ya kl))→Q (.ref s.heap.objs.size) { s with heap:=h',drawn:=d,toks:=tk }) :
   wpAny (model prog w) A (binaryOp .BitOr (.ref l) (.ref r)) Q E s:=by
 refine wpAny_binaryOp_same (op:=.BitOr) Gl.typeIs Gr.typeIs PySem.F.fills_set_or PySem.F.slot_set_or (wpAny_call_entry PySem.F.slot_set_or Gl.typeIs ZdP ?_ (PySem.F.args_set_or_2 _ _))
 unfold Builtin.«frozenset.__or__»
 show wpAny (model prog w) A.in1 (do
   let (self,other) ← Builtin.Frozenset.slot1 "__or__" ⟨[.ref l,.ref r],[]⟩
   let (l,r):=if false=true then (other,self) else (self,other)
   if !(← Builtin.Frozenset.isAnySet l <&&> Builtin.Frozenset.isAnySet r) then rule s!"frozenset.{"__or__"}.declined";return ← ret .notImplemented
   ret (← (do
     let result ← Builtin.Frozenset.copyOf (← Builtin.Frozenset.addrOf l)
     if r != .ref (← Builtin.Frozenset.addrOf l) then holding [result] (Builtin.Frozenset.updateFrom s!"frozenset.{"__or__"}" (← Builtin.Frozenset.addrOf result) r)
     return result))) _ _ s
 refine wpAny_bind (m:=Builtin.Frozenset.slot1 "__or__" ⟨[.ref l,.ref r],[]⟩) (wpAny_of_eq (a:=(Value.ref l,Value.ref r)) (by rfl) ?_)
 dsimp only
 rw [if_neg (by decide)]
 dsimp only
 refine wpAny_bind (m:=Builtin.Frozenset.isAnySet (.ref l) <&&> Builtin.Frozenset.isAnySet (.ref r)) (wpAny_bind (Zcf Gl ?_))
 refine Zcf Gr ?_
 rw [if_neg (by decide)]
 refine wpAny_bind (wpAny_bind (m:=Builtin.Frozenset.addrOf (.ref l)) (wpAny_pure ?_))
 refine wpAny_bind (Zlq Gl hnl fun h1 d1 k1 G1=>?_)
 refine wpAny_bind (m:=Builtin.Frozenset.addrOf (.ref l)) (wpAny_pure ?_)
 rw [if_pos (by simp;exact fun z=>hne z.symm)]
 refine wpAny_bind (m:=Builtin.Frozenset.addrOf (.ref s.heap.objs.size)) (wpAny_pure ?_)
 have Gr1:SetG prog w h1 r kr:=Gr.keep fun o e=>k1 r o e
 have lr:r < s.heap.objs.size:=by obtain ⟨o,_,_,_,ho,_⟩:=Gr;exact Heap.lt_size ho
 refine wpAny_bind (wpAny_holding ?_)
 unfold Builtin.Frozenset.updateFrom
 refine wpAny_bind (Zcf (s:={ s with heap:=h1,drawn:=d1 }) Gr1 ?_)
 rw [if_pos rfl]
 refine wpAny_bind (wpAny_bind (m:=Builtin.Frozenset.addrOf (.ref r)) (wpAny_pure ?_))
 unfold Builtin.Frozenset.merge
 obtain ⟨o,xs,ep,t,ho,hx,hd,h1',h2',h3',h4',h5',h6'⟩:=id Gr1
 refine wpAny_pure ?_
 refine wpAny_bind (wpAny_setEpoch_of (s:={ s with heap:=h1,drawn:=d1 }) ho hd h5' ?_)
 refine Zfi (s:={ s with heap:=h1,drawn:=d1 }) (Nat.ne_of_gt lr) G1 Gr1 (by have:=WW kl;omega) (fun s1 R kp z=>?_) fun h2 d2 sb G2=>?_
 · unfold Builtin.Frozenset.unchanged
   refine wpAny_bind (wpAny_setEpoch_of (kp _ ho) hd h5' ?_)
   rw [if_neg (by simp)]
   exact wpAny_pure z
 · refine wpAny_pure (wpAny_pure ⟨_,rfl,(by intro z;cases z),q h2 d2 s.toks (fun b o e=>?_) G2.g⟩)
   exact (sb.2 b (Nat.ne_of_lt (Heap.lt_size e))).trans (k1 b o e)
end
end L2
set_option maxHeartbeats 4000000
namespace L2
open PySem PySem.Spec PyProof.Rows
theorem Zdg:isSubtype (.type "dict") (.type "set")=pure false:=by rw [isSubtype_type];kernel_rfl
theorem Vk:isSubtype (.type "dict") (.type "frozenset")=pure false:=by rw [isSubtype_type];kernel_rfl
section
variable {prog:Program}{w:World}{A:Around}{E:Zv}{s:Shared}
theorem ZiZ {S d:Addr}{kvs:List (Zk×Value)}{idn:String}{Q:Unit→Shared→Prop}(hne:S≠d)(G:SetM prog w s.heap S [])(hl:s.heap.DictOf (Zl prog w) d kvs)(hsm:(d == sysModules)=false)(hb:kvs.length≤110)
   (q:∀ h',Heap.SameBut S s.heap h'→SetG prog w h' S (Ya (kvs.map (·.1)))→Q () { s with heap:=h' }):wpAny (model prog w) A (Builtin.Frozenset.updateFrom idn S (.ref d)) Q E s:=by
 obtain ⟨od,es,ep,hod,hcd,hdd,hk,hp,hnd⟩:=id hl
 have hT:s.TypeIs (.ref d) "dict":=⟨od,hod,hcd.1⟩
 have hsz:es.size=kvs.length:=by rw [← hp.length];exact Array.length_toList.symm
 unfold Builtin.Frozenset.updateFrom Builtin.Frozenset.isAnySet
 refine wpAny_bind (wpAny_bind (wpAny_isInstance (T:="dict") (b:=false) hT Zdg ?_))
 dsimp only
 refine wpAny_isInstance (T:="dict") (b:=false) hT Vk ?_
 rw [if_neg (by decide)]
 refine wpAny_bind (wpAny_typeOf hT ?_)
 rw [if_pos (by decide)]
 refine wpAny_bind (wpAny_rule (wpAny_bind (m:=Builtin.Frozenset.addrOf (.ref d)) (wpAny_pure ?_)))
 rw [if_neg (by rw [hsm];decide)]
 refine wpAny_bind (wpAny_dictEpoch hod hdd ?_)
 refine wpAny_bind (wpAny_dictEntries hod hdd ?_)
 refine wpAny_bind (Zha G (by show 0+es.size≤120;omega) fun h1 sb1 G1 _=>?_)
 have hod1:h1.get? d=some od:=(sb1.2 d hne.symm).trans hod
 refine wpAny_bind (wpAny_dictEntries (s:={ s with heap:=h1 }) hod1 hdd ?_)
 rw [Std.Legacy.Range.forIn_eq_forIn_range']
 simp only [Std.Legacy.Range.size,Nat.sub_zero,Nat.add_sub_cancel,Nat.div_one]
 refine wpAny_bind (wpAny_forIn_list _ (fun rest r s'=>r=()∧∃ (i:Nat) (h':Heap),rest=List.range' i (es.size - i)∧i≤es.size∧s'={ s with heap:=h' }∧Heap.SameBut S s.heap h'∧SetG prog w h' S (Ya ((kvs.take i).map (·.1)))) _ ?_ ?_ _ _ ⟨rfl,0,h1,by simp,Nat.zero_le _,rfl,sb1,G1.g⟩)
 · rintro x rest r s' ⟨rfl,i,h',hr,hi,rfl,sb,G'⟩
   have hlt:i < es.size:=by
     rcases Nat.lt_or_ge i es.size with h | h
     · exact h
     · rw [Nat.sub_eq_zero_of_le h] at hr;simp at hr
   obtain ⟨rfl,hrest⟩:x=i∧rest=List.range' (i+1) (es.size - (i+1)):=by
     rw [show es.size - i=(es.size - (i+1))+1 by omega,List.range'_succ] at hr
     injection hr with e1 e2
     exact ⟨e1,e2⟩
   have hod2:h'.get? d=some od:=(sb.2 d hne.symm).trans hod
   refine wpAny_bind (wpAny_dictEntries (s:={ s with heap:=h' }) hod2 hdd ?_)
   rw [Array.getElem?_eq_getElem hlt]
   have hlt':x < kvs.length:=by omega
   obtain ⟨k,v,hkv⟩:∃ k v,kvs[x]=(k,v):=⟨_,_,rfl⟩
   obtain ⟨hkey,hval⟩:=hp.get? (i:=x) (e:=es[x]) (k:=k) (v:=v) (by rw [Array.getElem?_toList];exact Array.getElem?_eq_getElem hlt) (by rw [List.getElem?_eq_getElem hlt',hkv])
   obtain ⟨k',hk',hh⟩:=hk es[x] (Array.getElem_mem hlt)
   have ekk:k'=k:=(Zl prog w).inj _ _ _ hk' hkey
   subst ekk
   dsimp only
   rw [hh]
   have hl9:(Ya ((kvs.take x).map (·.1))).length+1 < scanBound:=by
     have:=WW ((kvs.take x).map (·.1))
     rw [List.length_map,List.length_take] at this
     show _ < 4096
     omega
   refine wpAny_bind (wpAny_holding (Zfa (s:={ s with heap:=h' }) hkey G' hl9 fun b h3 sb3 G3=>?_))
   have hod3:h3.get? d=some od:=(sb3.2 d hne.symm).trans hod2
   refine wpAny_bind (wpAny_dictEpoch (s:={ s with heap:=h3 }) hod3 hdd ?_)
   rw [if_neg (by simp)]
   refine wpAny_pure ⟨rfl,x+1,h3,hrest,hlt,rfl,sb.trans sb3,?_⟩
   rw [List.take_succ,List.getElem?_eq_getElem hlt',hkv,List.map_append]
   show SetG prog w h3 S (Ya (_++[k']))
   rw [Zgf]
   exact G3
 · rintro r s' ⟨rfl,i,h',hr,hi,rfl,sb,G'⟩
   have hin:i=es.size:=by
     rcases Nat.lt_or_ge i es.size with h | h
     · rw [show es.size - i=(es.size - (i+1))+1 by omega,List.range'_succ] at hr;cases hr
     · omega
   rw [hin,List.take_of_length_le (by omega)] at G'
   exact wpAny_pure (q h' sb G')
theorem Zhr {l:Addr}{kvs:List (Zk×Value)}{Q:Zv}(hl:s.heap.DictOf (Zl prog w) l kvs)(hsm:(l == sysModules)=false)(hb:kvs.length≤110)
   (q:∀ (h':Heap) (tk:Nat),SetG prog w h' s.heap.objs.size (Ya (kvs.map (·.1)))→(∀ b o,s.heap.get? b=some o→h'.get? b=some o)→Q (.ref s.heap.objs.size) { s with heap:=h',toks:=tk }) :
   wpAny (model prog w) A (call (.type "set") [.ref l]) Q E s:=by
 obtain ⟨c,tl,hmro⟩:=PySem.F.called_set.mro
 have hmade:=PySem.F.called_set.made
 have hsub:=PySem.F.called_set.sub
 have h1:=PySem.F.called_set.notType
 have h2:=PySem.F.called_set.canCreate
 have hct:=PySem.F.typeCall_set_1 (.ref l)
 refine wpAny_call (codeAny_of_tree ?_)
 refine wpAny_pure ⟨Code.quiet_builtin _ (by decide +kernel),codeAny_builtin PySem.F.entry_type_call ?_⟩
 rw [Around.under_plain (weight_type_call_type "set" [.ref l] []) rfl]
 (repeat (any_goals (first | assumption | wp_step)))
 refine codeAny_mono (ZkD (.ref l) (E:=E) (Q:=fun v s₁=>v=.ref s.heap.objs.size∧s₁={ s with heap:=s.heap.push (UT w) }) ⟨rfl,rfl⟩) fun r s₁ hr=>?_
 cases r with
 | error e=>exact hr
 | ok fl =>
   cases fl with
   | ret v =>
     obtain ⟨rfl,rfl⟩:=hr
     have hS:(s.heap.push (UT w)).get? s.heap.objs.size=some (UT w):=Heap.get?_push_size _ rfl
     have hT:Shared.TypeIs { s with heap:=s.heap.push (UT w) } (.ref s.heap.objs.size) "set":=⟨_,hS,rfl⟩
     have hli:=PySem.F.called_set.init.lookup
     have hbi:=PySem.F.called_set.init.bind (.ref s.heap.objs.size)
     (repeat (any_goals (first | assumption | wp_step)))
     refine codeAny_mono (codeAny_call_builtin (R:=wants (fun r s₂=>r=.none∧∃ h' tk,s₂={ s with heap:=h',toks:=tk }∧SetG prog w h' s.heap.objs.size (Ya (kvs.map (·.1)))∧∀ b o,s.heap.get? b=some o→h'.get? b=some o) E) PySem.F.called_set.init.plain PySem.F.entry_set_init (check_set_init_1 hT ?_)) fun r₂ s₂ hr₂=>?_
     · obtain ⟨od,es,ep,hod,hcd,hdd,hk,hp,hnd⟩:=id hl
       have g1:(s.heap.push (UT w)).get? l=some od:=Heap.get?_push_of_some _ hod
       have lt:=Heap.lt_size hod
       unfold Builtin.«set.__init__» noKeywords
       generalize hUF:Builtin.Frozenset.updateFrom=UF
       wp_walk
       subst hUF
       refine ZiZ (s:={ s with heap:=s.heap.push (UT w) }) (Nat.ne_of_gt lt) newM ⟨od,es,ep,g1,hcd,hdd,hk,hp,hnd⟩ hsm hb fun h' sb G=>?_
       exact wpAny_pure ⟨rfl,h',s.toks,rfl,G,fun b o e=>(sb.2 b (Nat.ne_of_lt (Heap.lt_size e))).trans (Heap.get?_push_of_some _ e)⟩
     · cases r₂ with
       | error e=>exact hr₂
       | ok fl₂ =>
         cases fl₂ with
         | ret r =>
           obtain ⟨rfl,h',tk,rfl,G,hk'⟩:=hr₂
           (repeat (any_goals (first | assumption | wp_step)))
           exact q _ _ G hk'
         | _=>exact hr₂.elim
   | _=>exact hr.elim
end
end L2
set_option maxHeartbeats 4000000
namespace L2
open PySem PySem.W PySem.Spec PyProof.Rows
theorem ZaS:entryFor table "set_iterator.__iter__"=some Builtin.«dict_keyiterator.__iter__»:=entryFor_alias (id':="dict_keyiterator.__iter__") (by kernel_rfl) rfl (by decide +kernel) (by kernel_rfl)
theorem SetRw.keep {h h':Heap}{a:Addr}{xs:Array (Int×Value)}{ep:Nat}{t:SetTable}(r:SetRw h a xs ep t)(k:∀ o,h.get? a=some o→h'.get? a=some o):SetRw h' a xs ep t:=let ⟨o,ho,q⟩:=r;⟨o,k o ho,q⟩
section
variable {prog:Program}{w:World}{A:Around}{E:Zv}{s:Shared}{I a T:Addr}{ep e0:Nat}{xs:Array (Int×Value)}{t:SetTable}
theorem Zcy {f:Value}{i n:Nat}{Q:Zv}(hI:s.heap.get? I=some (itO f i a n ep))(q:Q (.ref I) s):wpAny (model prog w) A (pyIter (.ref I)) Q E s:=by
 have hT:s.TypeIs (.ref I) "set_iterator":=⟨_,hI,rfl⟩
 refine wpAny_pyIter_slot hT UK (wpAny_call_entry UK hT ZaS ?_ (ZbY _))
 exact wpAny_pure ⟨_,rfl,"set_iterator",_,hT,slot_seti_next.lookup,q⟩
theorem ZhQ (hne:a≠I)(hf:t.fits xs.size=true)(ht:TOk (Xa w) t)(hnd:Xa w=true∨(!t.plain&&decide (xs.size > 1))=false)(hh:A.handled=none) :
   Walks prog w A I [I,a] [I] xs.size (fun i v=>(WL w a ep xs)[i]?=some v) (fun i h=>(∃ slot:Nat,h.get? I=some (itO (rawInt slot) i a xs.size ep)∧VC w t i slot)∧SetRw h a xs ep t) where
 sub:=fun b hb=>by simp at hb;simp [hb]
 frame:=fun i h h' ⟨⟨slot,h1,h2⟩,h3⟩ hk=>⟨⟨slot,hk I (by simp) _ h1,h2⟩,h3.keep fun o e=>hk a (by simp) o e⟩
 item:=fun i s Q E hi ⟨⟨slot,h1,h2⟩,h3⟩ hQ=>by
   refine ZcM h1 h3 hf ht hnd h2 hh (fun v slot' h' hv hs' hI' ex=>?_) fun h' hv _=>?_
   · exact hQ v h' s.toks hv ⟨⟨slot',hI',hs'⟩,h3.keep fun o e=>ex a o hne e⟩ fun b o hb e=>ex b o (fun z=>hb (by simp [z])) e
   · rw [List.getElem?_eq_getElem (by rw [ZaJ];exact hi)] at hv;cases hv
 done:=fun s Q E ⟨⟨slot,h1,h2⟩,h3⟩ hQ=>by
   refine ZcM h1 h3 hf ht hnd h2 hh (fun v slot' h' hv hs' hI' ex=>?_) fun h' hv ex=>?_
   · rw [List.getElem?_eq_none (by rw [ZaJ];exact Nat.le_refl _)] at hv;cases hv
   · exact hQ h' s.toks fun b o hb e=>ex b o (fun z=>hb (by simp [z])) e
 self:=fun i s Q E ⟨⟨slot,h1,_⟩,_⟩ q=>Zcy h1 q
theorem ZfS {ys:List Nat}(hne:a≠I)(hnT:T≠I)(hf:t.fits xs.size=true)(hy:∀ y∈ys,y < xs.size)(hh:A.handled=none) :
   Walks prog w A I [I,a,T] [I] ys.length (fun i v=>∃ (y:Nat) (e:Int×Value),ys[i]?=some y∧xs[y]?=some e∧e.2=v) (fun i h=>h.get? I=some (itO (.ref T) i a xs.size ep)∧h.get? T=some { cls:=.type "tuple",data:=.seq (ys.map fun (i:Nat)=>rawInt i).toArray e0 }∧SetRw h a xs ep t) where
 sub:=fun b hb=>by simp at hb;simp [hb]
 frame:=fun i h h' ⟨h1,h2,h3⟩ hk=>⟨hk I (by simp) _ h1,hk T (by simp) _ h2,h3.keep fun o e=>hk a (by simp) o e⟩
 item:=fun i s Q E hi ⟨h1,h2,h3⟩ hQ=>by
   refine Zby h1 h2 h3 hf hy hh (fun y v h' hyi hv hI' ex=>?_) fun h' hyi _=>?_
   · exact hQ v.2 h' s.toks ⟨y,v,hyi,hv,rfl⟩ ⟨hI',ex T _ hnT h2,h3.keep fun o e=>ex a o hne e⟩ fun b o hb e=>ex b o (fun z=>hb (by simp [z])) e
   · rw [List.getElem?_eq_getElem hi] at hyi;cases hyi
 done:=fun s Q E ⟨h1,h2,h3⟩ hQ=>by
   refine Zby h1 h2 h3 hf hy hh (fun y v h' hyi hv hI' ex=>?_) fun h' hyi ex=>?_
   · rw [List.getElem?_eq_none (Nat.le_refl _)] at hyi;cases hyi
   · exact hQ h' s.toks fun b o hb e=>ex b o (fun z=>hb (by simp [z])) e
 self:=fun i s Q E ⟨h1,_,_⟩ q=>Zcy h1 q
theorem ZiV {ks:List Zk}{Q:Zv}(hh:A.handled=none)(G:SetG prog w s.heap a ks)
   (q:∀ (I:Addr) (h':Heap) (d:Drawn) (fp:List Addr) (n:Nat) (P:Nat→Value→Prop) (St:Nat→Heap→Prop),Walks prog w A I fp [I] n P St→St 0 h'→s.heap.objs.size≤I→(∀ b o,s.heap.get? b=some o→h'.get? b=some o)→(∀ b∈fp,b=a∨s.heap.objs.size≤b)→n=ks.length →
     (∀ acc:Array Value,ItemsOf P acc n→(acc.toList.map YY).Perm ks∧∀ v∈acc.toList,∃ k,YQ k v=true)→Q (.ref I) { s with heap:=h',drawn:=d }):wpAny (model prog w) A (pyIter (.ref a)) Q E s:=by
 obtain ⟨o,xs,ep,t,ho,hx,hd,h1,h2,h3,h4,h5,h6⟩:=G
 have hR:SetRw s.heap a xs ep t:=⟨o,ho,hx,hd⟩
 have lt:=Heap.lt_size ho
 have hl:xs.size=ks.length:=by rw [← h2.length_eq];unfold Xy;rw [List.length_map,Array.length_toList]
 have fin:∀ l:List Value,l.Perm (xs.toList.map (·.2))→(l.map YY).Perm ks∧∀ v∈l,∃ k,YQ k v=true:=fun l p=>by
   refine ⟨?_,fun v hv=>?_⟩
   · refine (p.map YY).trans ?_
     rw [List.map_map];exact h2
   · obtain ⟨e,he,rfl⟩:=List.mem_map.mp (p.mem_iff.mp hv)
     obtain ⟨⟨k,hk,_⟩,_⟩:=h1 e he
     exact ⟨k,hk⟩
 refine Zep hR h5 h4 (fun hc=>?_) fun ys d hb p=>?_
 · refine q _ _ s.drawn _ _ _ _ (ZhQ (ep:=ep) (Nat.ne_of_lt lt) h5 h6 hc hh) ⟨⟨0,Heap.get?_push_size _ rfl,.inr (ZfX h6.rz)⟩,hR.keep fun o e=>Heap.get?_push_of_some _ e⟩ (Nat.le_refl _) (fun b o e=>Heap.get?_push_of_some _ e) (fun b hb=>?_) hl fun acc hI=>?_
   · simp only [List.mem_cons,List.not_mem_nil,or_false] at hb
     rcases hb with rfl | rfl
     · exact .inr (Nat.le_refl _)
     · exact .inl rfl
   · refine fin _ ?_
     have e:acc.toList=WL w a ep xs:=by
       refine List.ext_getElem? fun j=>?_
       by_cases hj:j < acc.size
       · have hv:=Array.getElem?_eq_getElem hj
         rw [Array.getElem?_toList,hv,hI.2 j _ hv]
       · rw [Array.getElem?_toList,Array.getElem?_eq_none (by omega),List.getElem?_eq_none (by rw [ZaJ,← hI.1];omega)]
     rw [e];exact ordE_perm
 · have hy : ∀ y∈ys,y < xs.size:=fun y hy=>List.mem_range.mp (p.mem_iff.mp hy)
   have hyl:ys.length=xs.size:=by rw [p.length_eq,List.length_range]
   refine q _ _ d _ _ _ _ (ZfS (ep:=ep) (e0:=0) (T:=s.heap.objs.size) (ys:=ys) (Nat.ne_of_lt (Nat.lt_succ_of_lt lt)) (Nat.ne_of_lt (Nat.lt_succ_self _)) h5 hy hh) ⟨?_,?_,hR.keep fun o e=>Heap.get?_push_of_some _ (Heap.get?_push_of_some _ e)⟩ (Nat.le_succ _) (fun b o e=>Heap.get?_push_of_some _ (Heap.get?_push_of_some _ e)) (fun b hb=>?_) (hyl.trans hl) fun acc hI=>?_
   · have:=Heap.get?_push_size (s.heap.push { cls:=.type "tuple",data:=.seq (ys.map fun (i:Nat)=>rawInt i).toArray }) (o:=itO (.ref s.heap.objs.size) 0 a xs.size ep) rfl
     rw [Heap.size_push] at this
     exact this
   · exact Heap.get?_push_of_some _ (Heap.get?_push_size _ rfl)
   · simp only [List.mem_cons,List.not_mem_nil,or_false] at hb
     rcases hb with rfl | rfl | rfl
     · exact .inr (Nat.le_succ _)
     · exact .inl rfl
     · exact .inr (Nat.le_refl _)
   · refine fin _ ?_
     have e:acc.toList=ys.filterMap fun y=>(xs.toList.map (·.2))[y]?:=by
       have e2:∀ (l:List Nat) (vs:List Value),l.length=vs.length→(∀ (j:Nat) y v,l[j]?=some y→vs[j]?=some v→(xs.toList.map (·.2))[y]?=some v)→vs=l.filterMap fun y=>(xs.toList.map (·.2))[y]?:=by
         intro l
         induction l with
         | nil=>intro vs h _;cases vs with
           | nil=>rfl
           | cons _ _=>cases h
         | cons y l ih =>
           intro vs h hv
           cases vs with
           | nil=>cases h
           | cons v vs =>
             rw [List.filterMap_cons,hv 0 y v rfl rfl]
             exact congrArg (v::·) (ih vs (by simpa using h) fun j y' v' g1 g2=>hv (j+1) y' v' g1 g2)
       refine e2 ys _ (by rw [Array.length_toList];exact hI.1.symm) fun j y v g1 g2=>?_
       rw [Array.getElem?_toList] at g2
       obtain ⟨y',e',g3,g4,g5⟩:=hI.2 j v g2
       rw [g1] at g3;cases g3
       rw [List.getElem?_map,Array.getElem?_toList,g4];exact congrArg some g5
     rw [e]
     refine (p.filterMap _).trans ?_
     have:=PySem.List.filterMap_getElem?_range_length (xs.toList.map (·.2))
     rw [List.length_map,Array.length_toList] at this
     rw [this]
end
end L2
set_option maxHeartbeats 4000000
namespace L2
open PySem PySem.W PySem.Spec PyProof.Rows
section
variable {prog:Program}{w:World}{A:Around}{E:Zv}{s:Shared}{a:Addr}
theorem ZiR {Q:Bool→Shared→Prop}(hT:s.TypeIs (.ref a) "set")(h:Q false s):wpAny (model prog w) A (Builtin.List.listLengthHint (.ref a)) Q E s:=by
 unfold Builtin.List.listLengthHint
 refine wpAny_bind (wpAny_specialOf hT PySem.F.slot_set_len.lookup ?_)
 generalize hz:("set.__len__":String)=z
 wp_delta
 rw [show splitId z=some ("set","__len__") from by subst hz;decide +kernel]
 subst hz
 refine wpAny_bind (wpAny_isInstance (T:="set") (b:=true) hT (by rw [isSubtype_type];kernel_rfl) ?_)
 refine wpAny_ite_split (fun y=>absurd y (by decide)) (fun _=>?_)
 refine wpAny_ite_split (fun _=>wpAny_bind (wpAny_typeOf hT (wpAny_pure h))) (fun y=>absurd (by decide +kernel) y)
theorem Zer {ks:List Zk}{R:List Value→Shared→Prop}(hh:A.handled=none)(G:SetG prog w s.heap a ks)
   (k:∀ (h':Heap) (d:Drawn) (tk:Nat) (acc:Array Value),s.heap.objs.size < h'.objs.size→(∀ b o,s.heap.get? b=some o→h'.get? b=some o)→(acc.toList.map YY).Perm ks→(∀ v∈acc.toList,∃ k,YQ k v=true)→R acc.toList { s with heap:=h',drawn:=d,toks:=tk }) :
   wpAny (model prog w) A (collect (.ref a)) R E s:=by
 have hks:ks.length≤sizeLine:=by
   obtain ⟨o,xs,ep,t,ho,hx,hd,h1,h2,h3,h4,h5,h6⟩:=G
   rw [← h2.length_eq];unfold Xy;rw [List.length_map,Array.length_toList];exact fits_of_scanBound h4
 have here:(s.heap.push { cls:=.type "list",data:=.seq ([]:List Value).toArray }).get? s.heap.objs.size=some { cls:=.type "list",data:=.seq #[] }:=Heap.get?_push_size _ rfl
 let Fn:Result→Shared→Prop:=fun q s'=>∃ (h':Heap) (d:Drawn) (tk:Nat) (its:Array Value) (c:Nat),(q=.ok (.ret (.ref s.heap.objs.size))∧s'={ s with heap:=h',drawn:=d,toks:=tk })∧(∀ b o,s.heap.get? b=some o→h'.get? b=some o)∧h'.get? s.heap.objs.size=some { cls:=.type "list",dict:=none,data:=.seq its c,slots:=#[] }∧(its.toList.map YY).Perm ks∧∀ v∈its.toList,∃ k,YQ k v=true
 have fin:∀ s',Fn (.ok (.ret (.ref s.heap.objs.size))) s'→wpAny (model prog w) A (do match (← load s.heap.objs.size).data with | .seq xs _=>pure xs.toList | _=>unsupported "internal:collect") R E s':=by
   rintro s' ⟨h',d,tk,its,c,⟨_,rfl⟩,hk,hs,hp,hv⟩
   exact wpAny_bind (wpAny_load hs (wpAny_pure (k h' d tk its (Heap.lt_size hs) hk hp hv)))
 have G1:SetG prog w (s.heap.push { cls:=.type "list",data:=.seq ([]:List Value).toArray }) a ks:=G.keep fun o e=>Heap.get?_push_of_some _ e
 have hal:a < s.heap.objs.size:=by obtain ⟨o,_,_,_,ho,_⟩:=G;exact Heap.lt_size ho
 have hT:Shared.TypeIs { s with heap:=s.heap.push { cls:=.type "list",data:=.seq ([]:List Value).toArray } } (.ref a) "set":=by obtain ⟨o,_,_,_,ho,hx,_⟩:=G1;exact ⟨o,ho,hx.1⟩
 have run:wpAny (model prog w) A.in1 (Builtin.List.listExtendWith (.ref s.heap.objs.size) (.ref a) (.ref s.heap.objs.size))
     (fun fin s'=>match fin with | .done f=>Fn (.ok f) s' | .again c'=>c'.quiet=true∧codeAny (model prog w) A c' Fn s') (fun e s'=>Fn (.error e) s') { s with heap:=s.heap.push { cls:=.type "list",data:=.seq ([]:List Value).toArray } }:=by
   unfold Builtin.List.listExtendWith
   refine wpAny_bind (wpAny_typeOf (T:="set") hT ?_)
   have n1:Builtin.List.listSameRef (.ref s.heap.objs.size) (.ref a)=false:=by simp [Builtin.List.listSameRef,Nat.ne_of_gt hal]
   have n2:(Value.type "set" == Value.type "list")=false:=by decide
   have n3:(Value.type "set" == Value.type "tuple")=false:=by decide
   simp only [n1,n2,n3,Bool.or_false,Bool.false_eq_true,if_false]
   refine wpAny_bind (ZiV (A:=A.in1) hh G1 fun I h1 d fp n P St W st hI hk hfp hn hP=>?_)
   rw [Heap.size_push] at hI hfp
   have ne1:s.heap.objs.size ∉ fp:=fun z=>by
     rcases hfp _ z with y | y
     · exact Nat.ne_of_gt hal y
     · exact absurd y (Nat.not_succ_le_self _)
   have key:∀ (h:Heap) (c:Nat),St 0 h→(∀ b o,s.heap.get? b=some o→h.get? b=some o)→h.get? s.heap.objs.size=some { cls:=.type "list",dict:=none,data:=.seq #[] c,slots:=#[] } →
       codeAny (model prog w) A (.builtin "list.extend.loop" ⟨[.ref s.heap.objs.size,.ref I,.ref s.heap.objs.size],[]⟩) Fn { s with heap:=h,drawn:=d }:=fun h c hst hkp hS=>by
     refine codeAny_extend_loopS W.toS (by rw [hn];exact hks) s.heap.objs.size ne1 (.ref s.heap.objs.size) n 0 _ #[] c rfl (Nat.zero_le _) hst hS (ItemsOf.nil _) fun s' acc c' mv hS' hacc=>?_
     obtain ⟨h2,g2,d2,tk2,os2⟩:=s'
     have eg:g2=s.gens:=mv.gens
     have ed:d2=d:=mv.drawn
     have eo:os2=s.os:=mv.os
     subst eg ed eo
     refine ⟨h2,d2,tk2,acc,c',⟨rfl,rfl⟩,fun b o e=>mv.heap b o (fun z=>?_) (hkp b o e),hS',hP acc hacc⟩
     have lb:=Heap.lt_size e
     rcases List.mem_cons.mp z with y | y
     · exact Nat.ne_of_lt lb y
     · rw [List.mem_singleton.mp y] at lb
       exact absurd (Nat.lt_of_lt_of_le lb (Nat.le_of_succ_le hI)) (Nat.lt_irrefl _)
   have hS1:=hk _ _ here
   have hkp:∀ b o,s.heap.get? b=some o→h1.get? b=some o:=fun b o e=>hk b o (Heap.get?_push_of_some _ e)
   have hT1:Shared.TypeIs { s with heap:=h1,drawn:=d } (.ref a) "set":=by obtain ⟨o,ho,hc⟩:=hT;exact ⟨o,hk _ _ ho,hc⟩
   refine wpAny_bind (wpAny_holding (ZiR (s:={ s with heap:=h1,drawn:=d }) hT1 ?_))
   refine wpAny_ite_split (fun _=>?_) (fun _=>wpAny_pure ⟨plainId_quiet PySem.F.plain_extend_loop _,key _ _ st hkp hS1⟩)
   refine wpAny_bind (wpAny_rule (wpAny_bind ?_))
   show wpAny _ _ (updateSeq s.heap.objs.size (·.push .none) >>= fun _=>updateSeq s.heap.objs.size (·.pop)) _ _ _
   refine wpAny_bind (wpAny_updateSeq hS1 rfl ?_)
   have hS2:=Heap.get?_update_self (Obj.mapSeq (·.push Value.none)) hS1 rfl
   refine wpAny_updateSeq (hz:=by seq_fits) hS2 rfl ?_
   have hS3:=Heap.get?_update_self (Obj.mapSeq (·.pop)) hS2 rfl
   have up:∀ b,b≠s.heap.objs.size→∀ o,h1.get? b=some o→((h1.update s.heap.objs.size (Obj.mapSeq (·.push Value.none))).update s.heap.objs.size (Obj.mapSeq (·.pop))).get? b=some o:=fun b nb o e =>
     (Heap.get?_update_other _ _ (Ne.symm nb)).trans ((Heap.get?_update_other _ _ (Ne.symm nb)).trans e)
   exact wpAny_pure ⟨plainId_quiet PySem.F.plain_extend_loop _,key _ _ (W.frame 0 _ _ st fun b hb o e=>up b (fun z=>ne1 (z ▸ hb)) o e) (fun b o e=>up b (Nat.ne_of_lt (Heap.lt_size e)) o (hkp b o e)) hS3⟩
 unfold collect
 refine wpAny_bind (wpAny_runValue (codeAny_builtin entry_proto_collect' ?_))
 rw [Around.under_plainId PySem.F.plain_proto_collect _]
 refine wpAny_bind (m:=newList []) (wpAny_newObj_type (wpAny_pure ⟨plainId_quiet PySem.F.plain_list_iadd _,codeAny_builtin entry_list_iadd' ?_⟩))
 rw [Around.under_plainId PySem.F.plain_list_iadd _]
 refine wpAny_mono run (fun f s' x=>?_) fun e s' x=>?_
 · cases f with
   | done f =>
     obtain ⟨h',d,tk,its,c,⟨e,e2⟩,r'⟩:=x
     cases e
     exact fin s' ⟨h',d,tk,its,c,⟨rfl,e2⟩,r'⟩
   | again c₁ =>
     refine ⟨x.1,codeAny_mono x.2 fun q s₂ y=>?_⟩
     obtain ⟨h',d,tk,its,c,⟨e,e2⟩,r'⟩:=y
     subst e
     exact fin s₂ ⟨h',d,tk,its,c,⟨rfl,e2⟩,r'⟩
 · obtain ⟨_,_,_,_,_,⟨e',_⟩,_⟩:=x
   cases e'
end
end L2
set_option maxHeartbeats 4000000
namespace L2
open PySem PySem.W PySem.Spec PyProof.Rows
def Uk (P:Program)(w:World)(p:Addr)(ks:List Zk):Heap→Prop:=fun h=>SetG P w h p ks
section
variable {X:Cx}
theorem Inv.draw {pins:List (Addr×Obj)}{σ:St}{H:Hp}{s:Shared}(I:Inv X pins σ H s)(d:Drawn):Inv X pins σ H { s with drawn:=d } :=
 ⟨I.ok,I.os,I.bare,I.base,I.loc,I.cell,I.free,I.freeC,I.pin,I.hok,I.len⟩
end
end L2
set_option maxHeartbeats 4000000
namespace L2
open PySem PySem.W PySem.Spec PyProof.Rows
theorem Zfy {l ns:List Str}(h:(l.map (Sum.inr:Str→Zk)).Perm (ns.map Sum.inr)):l.Perm ns:=by
 have e:∀ l:List Str,(l.map (Sum.inr:Str→Zk)).filterMap Sum.getRight?=l:=fun l=>by
   induction l with
   | nil=>rfl
   | cons a r ih=>rw [List.map_cons,List.filterMap_cons];exact congrArg (a::·) ih
 have:=h.filterMap Sum.getRight?
 rwa [e,e] at this
theorem ZcN:∀{vs:List Value}{ns:List Str},(∀ v∈vs,∃ k,YQ k v=true)→(∀ v∈vs,YY v∈ns.map (Sum.inr:Str→Zk))→∃ l,StrsAre vs l∧vs.map YY=l.map Sum.inr
 | [],_,_,_=>⟨[],.nil,rfl⟩
 | v :: vs,ns,h,g=>by
   obtain ⟨l,h1,h2⟩:=ZcN (vs:=vs) (ns:=ns) (fun u hu=>h u (List.mem_cons_of_mem _ hu)) (fun u hu=>g u (List.mem_cons_of_mem _ hu))
   obtain ⟨k,hk⟩:=h v List.mem_cons_self
   obtain ⟨i,_,e⟩:=List.mem_map.mp (g v List.mem_cons_self)
   rw [WO hk] at e
   subst e
   obtain ⟨j,t,e1,_⟩ | ⟨x,t,e1,rfl⟩:=ZP hk
   · cases e1
   · cases e1
     exact ⟨i::l,.cons i t h1,by rw [List.map_cons,List.map_cons,h2];rfl⟩
section
variable {X:Cx}
theorem ZaG (hc:X.calm=true):Yk X (.builtin "sorted") (fun xs H Q=>∃ (p:Addr) (ns:List Str),xs=[.ref p]∧H p=some (.ext (Uk X.prog X.w p (ns.map Sum.inr)))∧ns.length < 64 ∧
   ∀ (l:Addr) (ys:List Str),H l=none→ys.Perm ns→Xj ys→Q (.ref l) (upd H l (.lst (ys.map V.str)))):=by
 intro pins s σ H xs us Q I r h
 obtain ⟨p,ns,rfl,ep,h64,q⟩:=h
 obtain ⟨u,rfl,ru⟩:=Yj r
 cases ru
 obtain ⟨G,_,_⟩:=(show ObjOk X.prog X.w H s.heap p (.ext (Uk X.prog X.w p (ns.map Sum.inr))) from I.hok p _ ep)
 refine PySem.Calls.call_function_entry kind_sorted plain_sorted entry_sorted (args_sorted1 _) ?_
 unfold Builtin.«sorted»
 refine wpAny_bind (m:=checkCount "sorted" 1 1 _) (wpAny_pure ?_)
 refine wpAny_bind (Zer (A:=X.A.in1) (I.ok.hd hc) G fun h' d tk acc hgt hk hp hv=>?_)
 have hge:=Nat.le_of_lt hgt
 obtain ⟨ss,hS,he⟩:=ZcN hv (fun v hv'=>hp.mem_iff.mp (List.mem_map.mpr ⟨v,hv',rfl⟩))
 rw [he] at hp
 have hln:=Zfy hp
 have hlacc:acc.toList.length=ns.length:=by rw [hS.length,hln.length_eq]
 refine wpAny_bind (wpAny_newList ?_ (by rw [hlacc,sizeLine_eq];omega))
 have hoL:(h'.push { cls:=.type "list",data:=.seq acc.toList.toArray }).get? h'.objs.size=some (seqObj "list" acc.toList.toArray 0):=Heap.get?_push_size _ rfl
 have keepg:∀ b o,h'.get? b=some o→(h'.push { cls:=.type "list",data:=.seq acc.toList.toArray }).get? b=some o:=fun b o e=>Heap.get?_push_of_some _ e
 show wpAny _ _ _ _ _ { s with heap:=h'.push { cls:=.type "list",data:=.seq acc.toList.toArray },drawn:=d,toks:=tk }
 generalize h'.push { cls:=.type "list",data:=.seq acc.toList.toArray }=g at hoL keepg ⊢
 refine wpAny_bind (wpAny_holding (wpAny_call_entry slot_list_sort ⟨_,hoL,rfl⟩ entry_list_sort ?body (args_list_sort _)))
 case body =>
   refine list_sort_treeK (s:={ s with heap:=g,drawn:=d,toks:=tk }) strKind_oneLt hoL hS.keysOf (fun v₁ v₂ rest e=>keyKind_strs (by rw [← e];exact hS)) (by rw [hlacc];exact h64) fun st' hq hs=>⟨_,rfl,wpAny_pure ⟨_,rfl,?_⟩⟩
   have hsz:(arrOf st').size=acc.toList.length:=by rw [hq.size_eq,pairsOf_size]
   have hl2:(arrOf st').toList.Perm (acc.toList.zip acc.toList):=by rw [← pairsOf_toList];exact Array.perm_iff_toList_perm.mp hq
   have hmem:∀ z∈(arrOf st').toList,z.1=z.2∧z.1∈acc.toList:=fun z hz'=>mem_zip_self (hl2.mem_iff.mp hz')
   have hout:StrsAre ((arrOf st').map (·.2)).toList ((arrOf st').toList.map fun z=>strOf z.1):=by
     have e:((arrOf st').map (·.2)).toList=(arrOf st').toList.map (·.1):=by
       rw [Array.toList_map];exact List.map_congr_left fun z hz'=>(hmem z hz').1.symm
     rw [e]
     have h1:=strsAre_map ((arrOf st').toList.map (·.1)) (by
       intro v hv
       obtain ⟨z,hz',rfl⟩:=List.mem_map.mp hv
       exact hS.all _ (hmem z hz').2)
     rwa [List.map_map] at h1
   have hperm:((arrOf st').toList.map fun z=>strOf z.1).Perm ss:=by
     have h1:=hl2.map fun z=>strOf z.1
     have e2:(acc.toList.zip acc.toList).map (fun z=>strOf z.1)=ss:=by
       have:(acc.toList.zip acc.toList).map (fun z=>strOf z.1)=((acc.toList.zip acc.toList).map Prod.fst).map strOf:=by rw [List.map_map];rfl
       rw [this,List.map_fst_zip (Nat.le_refl _),hS.strs]
     rwa [e2] at h1
   have hsort:Xj ((arrOf st').toList.map fun z=>strOf z.1):=by
     unfold Xj
     rw [List.pairwise_map,List.pairwise_iff_getElem]
     intro i j hi hj hij
     have hi':i < (arrOf st').size:=by simpa using hi
     have hj':j < (arrOf st').size:=by simpa using hj
     have h1:=hs i j (Nat.le_of_lt hij) (by rw [← hq.size_eq];exact hj')
     obtain ⟨x,t,ex⟩:=hS.all _ (hmem (arrOf st')[i] (by simp)).2
     obtain ⟨y,u,ey⟩:=hS.all _ (hmem (arrOf st')[j] (by simp)).2
     rw [KK_str hi' (x:=x) (t:=t) (q:=(arrOf st')[i].2) (Prod.ext ex rfl),KK_str hj' (x:=y) (t:=u) (q:=(arrOf st')[j].2) (Prod.ext ey rfl)] at h1
     change decide (y.cps.toList < x.cps.toList)=false at h1
     simp only [Array.getElem_toList]
     rw [show strOf (arrOf st')[i].1=x by rw [ex];rfl,show strOf (arrOf st')[j].1=y by rw [ey];rfl]
     exact of_decide_eq_false h1
   have s1:=Heap.SameBut.update g h'.objs.size (Obj.mapSeq fun _=>(#[]:Array Value))
   obtain ⟨e1,ho1⟩:∃ e1,(g.update h'.objs.size (Obj.mapSeq fun _=>(#[]:Array Value))).get? h'.objs.size=some (seqObj "list" #[] e1):=⟨_,get?_update_seq hoL fun _=>#[]⟩
   have k1:∀ b o,b≠h'.objs.size→g.get? b=some o→(g.update h'.objs.size (Obj.mapSeq fun _=>(#[]:Array Value))).get? b=some o:=fun b o nb e=>(s1.2 b nb).trans e
   show EP X pins σ Q (.ref h'.objs.size) { s with heap:=(((g.update h'.objs.size (Obj.mapSeq fun _=>(#[]:Array Value))).push (seqObj "tuple" acc.toList.toArray 0)).push (seqObj "list" #[] 0)).update h'.objs.size (Obj.mapSeq fun _=>(arrOf st').map (·.2)),drawn:=d,toks:=tk }
   generalize g.update h'.objs.size (Obj.mapSeq fun _=>(#[]:Array Value))=g1 at ho1 k1 ⊢
   have ho2:((g1.push (seqObj "tuple" acc.toList.toArray 0)).push (seqObj "list" #[] 0)).get? h'.objs.size=some (seqObj "list" #[] e1):=Heap.get?_push_of_some _ (Heap.get?_push_of_some _ ho1)
   have k2:∀ b o,g1.get? b=some o→((g1.push (seqObj "tuple" acc.toList.toArray 0)).push (seqObj "list" #[] 0)).get? b=some o:=fun b o e=>Heap.get?_push_of_some _ (Heap.get?_push_of_some _ e)
   generalize (g1.push (seqObj "tuple" acc.toList.toArray 0)).push (seqObj "list" #[] 0)=g2 at ho2 k2 ⊢
   have s2:=Heap.SameBut.update g2 h'.objs.size (Obj.mapSeq fun _=>(arrOf st').map (·.2))
   obtain ⟨c3,hc3⟩:∃ c3,(g2.update h'.objs.size (Obj.mapSeq fun _=>(arrOf st').map (·.2))).get? h'.objs.size=some (seqObj "list" ((arrOf st').map (·.2)) c3):=⟨_,get?_update_seq ho2 fun _=>(arrOf st').map (·.2)⟩
   have keep:∀ b o,s.heap.get? b=some o→(g2.update h'.objs.size (Obj.mapSeq fun _=>(arrOf st').map (·.2))).get? b=some o:=fun b o e=>by
     have nb:b≠h'.objs.size:=Nat.ne_of_lt (Nat.lt_of_lt_of_le (Heap.lt_size e) hge)
     exact (s2.2 b nb).trans (k2 b o (k1 b o nb (keepg b o (hk b o e))))
   generalize g2.update h'.objs.size (Obj.mapSeq fun _=>(arrOf st').map (·.2))=g3 at hc3 keep ⊢
   refine ⟨.ref h'.objs.size,_,(I.draw d).laid (t':=tk) keep hge (show ObjOk X.prog X.w _ _ _ (.lst (((arrOf st').toList.map fun z=>strOf z.1).map V.str)) from ⟨?_,((arrOf st').map (·.2)).toList,c3,Ue hout,by rw [Array.toArray_toList];exact hc3⟩),rfl,q _ _ (I.hok.fresh hge) (hperm.trans hln) hsort⟩
   rw [List.length_map,List.length_map,Array.length_toList,hsz,hlacc,sizeLine_eq];omega
theorem Vp:Yk X (.type "set") (fun xs H Q=>∃ (d:Addr) (kvs:ZH),xs=[.ref d]∧H d=some (.dK kvs)∧kvs.length≤100 ∧
   ∀ p,H p=none→Q (.ref p) (upd H p (.ext (Uk X.prog X.w p (Ya (kvs.map (·.1))))))):=by
 intro pins s σ H xs us Q I r h
 obtain ⟨d,kvs,rfl,ed,hl,q⟩:=h
 obtain ⟨u,rfl,ru⟩:=Yj r
 cases ru
 obtain ⟨hz,hsm,vs,kv,hd⟩:=Wz I.hok ed
 have hlen:vs.length=kvs.length:=(Paired.length kv).symm
 have hkeys:vs.map (·.1)=kvs.map (·.1):=by
   clear hlen hd hz hl q ed I
   induction kv with
   | nil=>rfl
   | cons h _ ih=>rw [List.map_cons,List.map_cons,ih];congr 1;exact h.1.symm
 refine Zhr hd hsm (by omega) fun h' tk G kp=>?_
 rw [hkeys] at G
 have lt:∃ o,h'.get? s.heap.objs.size=some o:=by obtain ⟨o,_,_,_,ho,_⟩:=G;exact ⟨o,ho⟩
 exact ⟨.ref s.heap.objs.size,_,I.laid (t':=tk) kp (Nat.le_refl _) (show ObjOk X.prog X.w _ _ _ (.ext (Uk X.prog X.w s.heap.objs.size (Ya (kvs.map (·.1))))) from ⟨G,lt,fun h1 h2 g k=>SetG.keep g k⟩),rfl,q _ (I.hok.fresh (Nat.le_refl _))⟩
def rOrS (P:Program)(w:World):R2:=fun x y H Q=>∃(p r:Addr)(kl kr:List Zk),x=.ref p∧y=.ref r∧p≠r∧H p=some (.ext (Uk P w p kl))∧H r=some (.ext (Uk P w r kr))∧kl.length≤55∧kr.length≤55 ∧
 ∀ q,H q=none→Q (.ref q) (upd H q (.ext (Uk P w q (kr.foldl Yh (Ya kl)))))
theorem ZlT:Xf X (binaryOp .BitOr) (rOrS X.prog X.w):=by
 intro pins s σ H x y v u Q I rx ry h
 obtain ⟨p,r,kl,kr,rfl,rfl,hne,ep,er,h1,h2,q⟩:=h
 cases rx;cases ry
 obtain ⟨Gl,_,_⟩:=(show ObjOk X.prog X.w H s.heap p (.ext (Uk X.prog X.w p kl)) from I.hok p _ ep)
 obtain ⟨Gr,_,_⟩:=(show ObjOk X.prog X.w H s.heap r (.ext (Uk X.prog X.w r kr)) from I.hok r _ er)
 refine Zku hne Gl Gr (by omega) (by omega) fun h' d tk kp G=>?_
 have lt:∃ o,h'.get? s.heap.objs.size=some o:=by obtain ⟨o,_,_,_,ho,_⟩:=G;exact ⟨o,ho⟩
 exact ⟨.ref s.heap.objs.size,_,(I.draw d).laid (t':=tk) kp (Nat.le_refl _) (show ObjOk X.prog X.w _ _ _ (.ext (Uk X.prog X.w s.heap.objs.size (kr.foldl Yh (Ya kl)))) from ⟨G,lt,fun h1 h2 g k=>SetG.keep g k⟩),rfl,q _ (I.hok.fresh (Nat.le_refl _))⟩
end
end L2
set_option maxHeartbeats 4000000
namespace K14
open PySem L2
theorem Tri.up1 {NS:List Str}{nds:List Nd}{F:Str→Option V}:∀{d lev r num:Nat},Tri NS nds F d lev r num→Tri NS nds F (d+1) lev r num
 | 0,_,_,_,h=>.inl h
 | _+1,_,_,_,.inl h=>.inl h
 | _+1,_,_,_,.inr ⟨qs,h1,h2,h3⟩=>.inr ⟨qs,h1,h2,fun i q hq=>Tri.up1 (h3 i q hq)⟩
theorem Tri.deep {NS:List Str}{nds:List Nd}{F:Str→Option V}{d e lev r num:Nat}(h:Tri NS nds F d lev r num)(le:d≤e):Tri NS nds F e lev r num:=by
 induction le with
 | refl=>exact h
 | step _ ih=>exact ih.up1
theorem ZkS {NS:List Str}{nds:List Nd}{F G:Str→Option V}{x:Str}(hx:x∈NS):∀{d lev r num:Nat},Tri NS nds F d lev r num→Tri NS nds G d lev r num→ZL x % 4 ^ lev=r→F x=G x:=by
 have low:∀ {lev r num:Nat},TriE NS nds F lev r num→TriE NS nds G lev r num→ZL x % 4 ^ lev=r→F x=G x:=fun f g e=>by
   rcases f with ⟨_,f1,f2⟩ | ⟨m,ps,f1,_,_,f2⟩<;>rcases g with ⟨_,g1,g2⟩ | ⟨m',ps',g1,_,_,g2⟩
   · rw [f2 x hx e,g2 x hx e]
   · rw [f1] at g1;cases g1
   · rw [f1] at g1;cases g1
   · rw [f1] at g1;cases g1;rw [f2 x hx e,g2 x hx e]
 intro d
 induction d with
 | zero=>intro lev r num f g e;exact low f g e
 | succ d ih =>
   intro lev r num f g e
   rcases f with f | ⟨qs,f1,f2,f3⟩<;>rcases g with g | ⟨qs',g1,_,g3⟩
   · exact low f g e
   · rcases f with ⟨_,f1,_⟩ | ⟨m,ps,f1,_⟩<;>· rw [g1] at f1;cases f1
   · rcases g with ⟨_,g1,_⟩ | ⟨m,ps,g1,_⟩<;>· rw [f1] at g1;cases g1
   · rw [f1] at g1;cases g1
     have hi:ZL x / 4 ^ lev % 4 < qs.length:=by rw [f2];exact Nat.mod_lt _ (by decide)
     have hq:=List.getElem?_eq_getElem hi
     exact ih (f3 _ _ hq) (g3 _ _ hq) (by rw [YK,e])
def WP (nds:List Nd):Nat→Nat→Nat→Nat
 | 0,_,_=>1
 | d+1,s,t=>if s=t then 1 else match nds[s]?,nds[t]? with
   | some (.fork qs),some (.fork rs)=>1+((qs.zip rs).map fun p=>WP nds d p.1 p.2).sum
   | _,_=>1
theorem Zjn {a b:Option V}(ha:∀ u,a=some u→ValV u)(hb:∀ u,b=some u→ValV u):scal (a.getD .non) (b.getD .non)=true:=by
 cases b with
 | some v=>exact (hb v rfl).scal ha
 | none =>
   cases a with
   | none=>rfl
   | some u =>
     have:=ha u rfl
     cases u<;>first | rfl | exact this.elim
theorem Zdw {a b:Option V}(ha:∀ u,a=some u→ValV u)(hb:∀ u,b=some u→ValV u):a.getD .non=b.getD .non↔a=b:=by
 cases a with
 | none =>
   cases b with
   | none=>exact ⟨fun _=>rfl,fun _=>rfl⟩
   | some v=>exact ⟨fun z=>by have:=hb v rfl;rw [← (show V.non=v from z)] at this;exact this.elim,fun z=>by cases z⟩
 | some u =>
   cases b with
   | none=>exact ⟨fun z=>by have:=ha u rfl;rw [(show u=V.non from z)] at this;exact this.elim,fun z=>by cases z⟩
   | some v=>exact ⟨fun z=>congrArg some z,fun z=>Option.some.inj z⟩
theorem Uq:∀ ks:List Zk,(∀ k∈ks,∃ x:Str,k=Sum.inr x)→∃ ns:List Str,ks=ns.map Sum.inr
 | [],_=>⟨[],rfl⟩
 | k::r,h=>by
   obtain ⟨x,rfl⟩:=h k List.mem_cons_self
   obtain ⟨ns,rfl⟩:=Uq r fun k hk=>h k (List.mem_cons_of_mem _ hk)
   exact ⟨x::ns,rfl⟩
theorem ZbZ {x:Str}{l:List Str}:(Sum.inr x:Zk)∈l.map Sum.inr↔x∈l:=by
 rw [List.mem_map];exact ⟨fun ⟨a,h,e⟩=>by cases e;exact h,fun h=>⟨x,h,rfl⟩⟩
theorem ZiC {ps qs:Zu}:∃ ns:List Str,((Ya ((qs.map kP).map (·.1))).foldl Yh (Ya (Ya ((ps.map kP).map (·.1)))))=ns.map Sum.inr∧ns.Nodup∧∀ x,x∈ns↔x∈ps.map (·.1)∨x∈qs.map (·.1):=by
 have ek:∀ ps:List (Str×V),(ps.map kP).map (·.1)=(ps.map (·.1)).map (Sum.inr:Str→Zk):=fun ps=>by rw [List.map_map,List.map_map];rfl
 rw [ek,ek]
 have mem:∀ k,k∈((Ya ((qs.map (·.1)).map Sum.inr)).foldl Yh (Ya (Ya ((ps.map (·.1)).map Sum.inr))))↔k∈(ps.map (·.1)).map (Sum.inr:Str→Zk)∨k∈(qs.map (·.1)).map (Sum.inr:Str→Zk):=fun k=>by
   rw [XI,VN,VN,VN]
 obtain ⟨ns,e⟩:=Uq _ fun k hk=>by
   rcases (mem k).mp hk with z | z<;>· obtain ⟨x,_,rfl⟩:=List.mem_map.mp z;exact ⟨x,rfl⟩
 refine ⟨ns,e,?_,fun x=>?_⟩
 · have:=Xx (Ya ((qs.map (·.1)).map (Sum.inr:Str→Zk))) _ (Zel (Ya ((ps.map (·.1)).map (Sum.inr:Str→Zk))))
   rw [e] at this
   exact (List.pairwise_map.mp this).imp fun h z=>h (by rw [z])
 · rw [← ZbZ (l:=ns),← e,mem,ZbZ,ZbZ]
theorem Zch {H H':Hp}{a:Addr}{o:HO}(h:H a=none)(e:upd H a o=H'):Same H H'∧H' a=some o:=by subst e;exact ⟨Zm h _,Zg⟩
theorem Zfj {ps:Zu}{x:Str}(nd:(ps.map (·.1)).Nodup):lk ps x=none↔x ∉ ps.map (·.1):=by
 constructor
 · intro e hx
   obtain ⟨p,hp,rfl⟩:=List.mem_map.mp hx
   have:=(Yf nd).mpr (show (p.1,p.2)∈ps from hp)
   rw [e] at this;cases this
 · intro hx
   exact UD fun p hp z=>hx (List.mem_map.mpr ⟨p,hp,z⟩)
section
variable {P:Program}{w:World}{K:KF}{mg:Str→Option Value}{base:Heap}{C Pl Pp:Addr}
def Zgi:Sp:=fun vs H Q _=>∃(l1 l2:Addr)(NS:List Str)(ts us:List Addr)(ps qs:Zu),vs=[.ref l1,.ref l2]∧NS.length≤50∧H l1=some (.lst (ts.map V.ref))∧H l2=some (.lst (us.map V.ref))∧PairT H ts ps∧PairT H us qs∧(ps.map (·.1)).Nodup∧(qs.map (·.1)).Nodup∧(∀ p∈ps,p.1∈NS∧ValV p.2)∧(∀ p∈qs,p.1∈NS∧ValV p.2) ∧
 ∀ (l:Addr) (H':Hp) (ys:List Str),H l=none→Same H H'→H' l=some (.lst (ys.map V.str))→ys.Nodup→(∀ x,x∈ys↔lk ps x≠lk qs x)→ys.length≤50→Q (.ref l) H'
abbrev nUn:List Str:=["pairs","other_pairs","values","others","names"]
abbrev Zfs:List Str:=["pairs","other_pairs"]
theorem scUn:Zw nUn Zfs (Zn s_unlike_names):=⟨rfl,rfl,rfl,by decide +kernel,rfl,by decide +kernel,by decide +kernel⟩
theorem Zld {f:Addr}{fd:FuncData}(F:Fun K "unlike_names" "unlike_names" s_unlike_names f fd)(T:Ws mg)(DAl:Def P w K mg base 1 "alike" ["one","other"] ZbO):FnOk P w K mg base ZK 2 f fd Zfs Zgi:=by
 refine F.ok scUn (fun vs H Q E h=>?_) (fun cdv A outer s H vs Q E hr h=>?_)
 · obtain ⟨l1,l2,NS,ts,us,ps,qs,rfl,_⟩:=h;rfl
 obtain ⟨l1,l2,NS,ts,us,ps,qs,rfl,hN,e1,e2,p1,p2,n1,n2,v1,v2,q⟩:=h
 have hr1:=hr
 refine' ⟨?t,?h,?r⟩
 case h =>
   conv=>arg 2;whnf
   with_reducible refine' (Ze ?h1 (Ze ?h2 (Ze ?h3 (Zj ?h4))))
   case h1=>exact Zs (i:=2) scUn.nd rfl (Or.inr rfl) (ZX (XU rfl) rfl T.dict (by decide +kernel) (Zc (pv 0) Za))
   case h2=>exact Zs (i:=3) scUn.nd rfl (Or.inr rfl) (ZX (XU rfl) rfl T.dict (by decide +kernel) (Zc (pv 1) Za))
   case h3=>exact Zs (i:=4) scUn.nd rfl (Or.inl rfl) (ZD (ZaG rfl) rfl T.sorted (by decide +kernel) (Zc (Zo ZlT (ZX Vp rfl T.set (by decide +kernel) (Zc (pv 2) Za)) (ZX Vp rfl T.set (by decide +kernel) (Zc (pv 3) Za))) Za))
   case h4=>exact Zt (Ziv (CompOk.of nUn s_unlike_names rfl rfl (by decide +kernel)) rfl (UA (pv 4)) (fun _ _ _ _ _=>ZbA (VI (Zx DAl hr1 (Zc (ZaH (XS hr) (pv 2) (pv 5) ⟨rfl,rfl,rfl,rfl⟩) (Zc (ZaH (XS hr) (pv 3) (pv 5) ⟨rfl,rfl,rfl,rfl⟩) Za))))) (fun _ _ _ _ _=>pv 5))
 have f1:ps.length≤50:=by
   have:=Xi n1 (N:=NS) fun x hx=>by obtain ⟨p,hp,rfl⟩:=List.mem_map.mp hx;exact (v1 p hp).1
   rw [List.length_map] at this;omega
 have f2:qs.length≤50:=by
   have:=Xi n2 (N:=NS) fun x hx=>by obtain ⟨p,hp,rfl⟩:=List.mem_map.mp hx;exact (v2 p hp).1
   rw [List.length_map] at this;omega
 refine ⟨_,rfl,l1,ts,ps,rfl,e1,p1.1,by omega,p1.2,n1,fun d1 hd1=>?_⟩
 generalize hE:upd H d1 _=H1
 obtain ⟨s1,ed1⟩:=Zch hd1 hE
 clear hE
 refine ⟨_,rfl,l2,us,qs,rfl,s1 _ _ e2,p2.1,by omega,(p2.tf s1.tf).2,n2,fun d2 hd2=>?_⟩
 generalize hE:upd H1 d2 _=H2
 obtain ⟨s2,ed2⟩:=Zch hd2 hE
 clear hE
 have ed1':=s2 _ _ ed1
 refine ⟨_,rfl,d1,_,rfl,ed1',by rw [List.length_map];omega,fun a1 ha1=>?_⟩
 generalize hE:upd H2 a1 _=H3
 obtain ⟨s3,ea1⟩:=Zch ha1 hE
 clear hE
 refine ⟨_,rfl,d2,_,rfl,s3 _ _ ed2,by rw [List.length_map];omega,fun a2 ha2=>?_⟩
 generalize hE:upd H3 a2 _=H4
 obtain ⟨s4,ea2⟩:=Zch ha2 hE
 clear hE
 refine ⟨a1,a2,_,_,rfl,rfl,(fun z=>by rw [← z,ea1] at ha2;cases ha2),s4 _ _ ea1,ea2,Nat.le_trans (WW _) (by rw [List.length_map,List.length_map];omega),Nat.le_trans (WW _) (by rw [List.length_map,List.length_map];omega),fun a3 ha3=>?_⟩
 generalize hE:upd H4 a3 _=H5
 obtain ⟨s5,ea3⟩:=Zch ha3 hE
 clear hE
 obtain ⟨ns,ens,hnd,hns⟩:=ZiC (ps:=ps) (qs:=qs)
 rw [show (ps.map fun p:Str×V=>((Sum.inr p.1:Zk),p.2))=ps.map kP from rfl,show (qs.map fun p:Str×V=>((Sum.inr p.1:Zk),p.2))=qs.map kP from rfl,ens] at ea3
 have hnsl:ns.length≤50:=by
   have:=Xi hnd (N:=NS) fun x hx=>by
     rcases (hns x).mp hx with z | z<;>obtain ⟨p,hp,rfl⟩:=List.mem_map.mp z
     · exact (v1 p hp).1
     · exact (v2 p hp).1
   omega
 refine ⟨a3,ns,rfl,ea3,by omega,fun nl ys hnl hpm _=>?_⟩
 generalize hE:upd H5 nl _=H6
 obtain ⟨s6,enl⟩:=Zch hnl hE
 clear hE
 have s06:=((((s1.trans s2).trans s3).trans s4).trans s5).trans s6
 have g1:H6 d1=some (.dK (ps.map kP)):=s6 _ _ (s5 _ _ (s4 _ _ (s3 _ _ ed1')))
 have g2:H6 d2=some (.dK (qs.map kP)):=s6 _ _ (s5 _ _ (s4 _ _ (s3 _ _ ed2)))
 have hyl:ys.length≤50:=by rw [hpm.length_eq];exact hnsl
 refine ⟨_,rfl,nl,rfl,⟨_,SqL.of enl⟩,fun D hD=>?_⟩
 have vl:∀ {ps:Zu},(ps.map (·.1)).Nodup→(∀ p∈ps,p.1∈NS∧ValV p.2)→∀ x u,lk ps x=some u→ValV u:=fun nd h x u e=>(h _ ((Yf nd).mp e)).2
 refine ZaY (K:=K) (xs:=ys.map V.str) (small (show _≤1000 by rw [List.length_map];omega)) (fun j zs H'=>Same H6 H'∧H' D=some (.lst zs)∧zs=((ys.take j).filter fun x=>decide (lk ps x≠lk qs x)).map V.str∧j≤ys.length) ⟨Zm hD _,Zg,rfl,Nat.zero_le _⟩ ?_ ?_ ?_
 · rintro j zs H' ⟨s7,_,rfl,hj⟩
   exact ⟨by rw [List.length_map];exact Nat.le_trans (List.length_filter_le _ _) (by rw [List.length_take];exact Nat.min_le_left _ _),SqL.of (s7 _ _ enl)⟩
 · rintro j v zs H' hv ⟨s7,eD,rfl,_⟩
   obtain ⟨x,hx,rfl⟩:=ZaF hv
   refine ⟨_,rfl,d1,rfl,.inl ⟨_,.inl (s7 _ _ g1)⟩,_,rfl,_,DGet.k (k:=Sum.inr x) (s7 _ _ g1),_,rfl,d2,rfl,.inl ⟨_,.inl (s7 _ _ g2)⟩,_,rfl,_,DGet.k (k:=Sum.inr x) (s7 _ _ g2),?_⟩
   refine ⟨(lk ps x).getD .non,(lk qs x).getD .non,rfl,Zjn (vl n1 v1 x) (vl n2 v2 x),_,rfl,?_⟩
   have tk:∀ (b:Bool),decide (lk ps x≠lk qs x)=b→((ys.take (j+1)).filter fun x=>decide (lk ps x≠lk qs x)).map V.str=((ys.take j).filter fun x=>decide (lk ps x≠lk qs x)).map V.str++(if b=true then [V.str x] else []):=fun b hb=>by
     rw [List.take_succ,hx,List.filter_append,List.map_append]
     cases b
     · simp only [Option.toList_some,List.filter_cons,hb,List.filter_nil];rfl
     · simp only [Option.toList_some,List.filter_cons,hb,List.filter_nil];rfl
   have hjl:=(List.getElem?_eq_some_iff.mp hx).1
   refine Yd (fun c=>?_) (fun c=>?_)
   · have hne:lk ps x≠lk qs x:=fun z=>by rw [decide_eq_true ((Zdw (vl n1 v1 x) (vl n2 v2 x)).mpr z)] at c;cases c
     refine ⟨_,rfl,eD,fun b o e=>?_,Zg,?_,hjl⟩
     · rw [Zh (Zp e hD)];exact s7 _ _ e
     · rw [tk true (decide_eq_true hne)];rfl
   · have hne:¬ lk ps x≠lk qs x:=fun z=>c (by rw [decide_eq_false fun y=>z ((Zdw (vl n1 v1 x) (vl n2 v2 x)).mp y)];rfl)
     refine ⟨s7,eD,?_,hjl⟩
     rw [tk false (decide_eq_false hne)];simp
 · rintro zs H7 ⟨s7,eD,rfl,_⟩
   rw [List.length_map,List.take_of_length_le (Nat.le_refl _)] at eD
   have hys:ys.Nodup:=hpm.nodup_iff.mpr hnd
   refine q D H7 _ (Uc s06 hD) (s06.trans s7) eD (hys.filter _) (fun x=>?_) (Nat.le_trans (List.length_filter_le _ _) hyl)
   rw [List.mem_filter]
   refine ⟨fun h=>of_decide_eq_true h.2,fun h=>⟨?_,decide_eq_true h⟩⟩
   rw [hpm.mem_iff,hns]
   apply Classical.byContradiction
   intro z
   rw [not_or] at z
   exact h (by rw [(Zfj n1).mpr z.1,(Zfj n2).mpr z.2])
end
end K14
set_option maxHeartbeats 2000000
namespace L2
open PySem PySem.Spec PyProof.Rows
end L2
set_option maxHeartbeats 2000000
namespace L2
open PySem PySem.W PySem.Spec PyProof.Rows
section
variable {X:Cx}
theorem Zax:Yk X (.builtin "sorted") (fun xs H Q=>∃ (l0:Addr) (ss:List Str),xs=[.ref l0]∧H l0=some (.lst (ss.map V.str))∧ss.length < 64 ∧
   ∀ (l:Addr) (ys:List Str),H l=none→ys.Perm ss→Xj ys→Q (.ref l) (upd H l (.lst (ys.map V.str)))):=by
 intro pins s σ H xs us Q I r h
 obtain ⟨l0,ss,rfl,el,h64,q⟩:=h
 obtain ⟨u,rfl,ru⟩:=Yj r
 cases ru
 obtain ⟨hz,its,n0,rv',hg0⟩:=(show ObjOk X.prog X.w H s.heap l0 (.lst (ss.map V.str)) from I.hok l0 _ el)
 have hS:=Vx rv'
 have hlacc:its.length=ss.length:=hS.length
 refine PySem.Calls.call_function_entry kind_sorted plain_sorted entry_sorted (args_sorted1 _) ?_
 unfold Builtin.«sorted»
 refine wpAny_bind (m:=checkCount "sorted" 1 1 _) (wpAny_pure ?_)
 refine wpAny_bind (collect_list (l:=l0) (vs:=its) ⟨_,hg0,rfl,_,rfl⟩ ?_ (by rw [hlacc,sizeLine_eq];omega))
 have hk:∀ b o,s.heap.get? b=some o→((s.heap.push (seqObj "list" #[] 0)).update s.heap.objs.size (Obj.mapSeq fun x=>x++its.toArray)).get? b=some o:=fun b o e =>
   ((Heap.SameBut.update (s.heap.push (seqObj "list" #[] 0)) s.heap.objs.size _).2 b (Nat.ne_of_lt (Heap.lt_size e))).trans (Heap.get?_push_of_some _ e)
 have hge:s.heap.objs.size≤((s.heap.push (seqObj "list" #[] 0)).update s.heap.objs.size (Obj.mapSeq fun x=>x++its.toArray)).objs.size:=by
   rw [(Heap.SameBut.update (s.heap.push (seqObj "list" #[] 0)) s.heap.objs.size _).1,Heap.size_push];exact Nat.le_succ _
 generalize ((s.heap.push (seqObj "list" #[] 0)).update s.heap.objs.size (Obj.mapSeq fun x=>x++its.toArray))=h' at hk hge ⊢
 generalize htk:s.toks=tk
 refine wpAny_bind (wpAny_newList ?_ (by rw [hlacc,sizeLine_eq];omega))
 have hoL:(h'.push { cls:=.type "list",data:=.seq its.toArray }).get? h'.objs.size=some (seqObj "list" its.toArray 0):=Heap.get?_push_size _ rfl
 have keepg:∀ b o,h'.get? b=some o→(h'.push { cls:=.type "list",data:=.seq its.toArray }).get? b=some o:=fun b o e=>Heap.get?_push_of_some _ e
 show wpAny _ _ _ _ _ { s with heap:=h'.push { cls:=.type "list",data:=.seq its.toArray },toks:=tk }
 generalize h'.push { cls:=.type "list",data:=.seq its.toArray }=g at hoL keepg ⊢
 refine wpAny_bind (wpAny_holding (wpAny_call_entry slot_list_sort ⟨_,hoL,rfl⟩ entry_list_sort ?body (args_list_sort _)))
 case body =>
   refine list_sort_treeK (s:={ s with heap:=g,toks:=tk }) strKind_oneLt hoL hS.keysOf (fun v₁ v₂ rest e=>keyKind_strs (by rw [← e];exact hS)) (by rw [hlacc];exact h64) fun st' hp hs=>⟨_,rfl,wpAny_pure ⟨_,rfl,?_⟩⟩
   have hsz:(arrOf st').size=its.length:=by rw [hp.size_eq,pairsOf_size]
   have hl2:(arrOf st').toList.Perm (its.zip its):=by rw [← pairsOf_toList];exact Array.perm_iff_toList_perm.mp hp
   have hmem:∀ z∈(arrOf st').toList,z.1=z.2∧z.1∈its:=fun z hz'=>mem_zip_self (hl2.mem_iff.mp hz')
   have hout:StrsAre ((arrOf st').map (·.2)).toList ((arrOf st').toList.map fun z=>strOf z.1):=by
     have e:((arrOf st').map (·.2)).toList=(arrOf st').toList.map (·.1):=by
       rw [Array.toList_map];exact List.map_congr_left fun z hz'=>(hmem z hz').1.symm
     rw [e]
     have h1:=strsAre_map ((arrOf st').toList.map (·.1)) (by
       intro v hv
       obtain ⟨z,hz',rfl⟩:=List.mem_map.mp hv
       exact hS.all _ (hmem z hz').2)
     rwa [List.map_map] at h1
   have hperm:((arrOf st').toList.map fun z=>strOf z.1).Perm (ss):=by
     have h1:=hl2.map fun z=>strOf z.1
     have e2:(its.zip its).map (fun z=>strOf z.1)=ss:=by
       have:(its.zip its).map (fun z=>strOf z.1)=((its.zip its).map Prod.fst).map strOf:=by rw [List.map_map];rfl
       rw [this,List.map_fst_zip (Nat.le_refl _),hS.strs]
     rwa [e2] at h1
   have hsort:Xj ((arrOf st').toList.map fun z=>strOf z.1):=by
     unfold Xj
     rw [List.pairwise_map,List.pairwise_iff_getElem]
     intro i j hi hj hij
     have hi':i < (arrOf st').size:=by simpa using hi
     have hj':j < (arrOf st').size:=by simpa using hj
     have h1:=hs i j (Nat.le_of_lt hij) (by rw [← hp.size_eq];exact hj')
     obtain ⟨x,t,ex⟩:=hS.all _ (hmem (arrOf st')[i] (by simp)).2
     obtain ⟨y,u,ey⟩:=hS.all _ (hmem (arrOf st')[j] (by simp)).2
     rw [KK_str hi' (x:=x) (t:=t) (q:=(arrOf st')[i].2) (Prod.ext ex rfl),KK_str hj' (x:=y) (t:=u) (q:=(arrOf st')[j].2) (Prod.ext ey rfl)] at h1
     change decide (y.cps.toList < x.cps.toList)=false at h1
     simp only [Array.getElem_toList]
     rw [show strOf (arrOf st')[i].1=x by rw [ex];rfl,show strOf (arrOf st')[j].1=y by rw [ey];rfl]
     exact of_decide_eq_false h1
   have s1:=Heap.SameBut.update g h'.objs.size (Obj.mapSeq fun _=>(#[]:Array Value))
   obtain ⟨e1,ho1⟩:∃ e1,(g.update h'.objs.size (Obj.mapSeq fun _=>(#[]:Array Value))).get? h'.objs.size=some (seqObj "list" #[] e1):=⟨_,get?_update_seq hoL fun _=>#[]⟩
   have k1:∀ b o,b≠h'.objs.size→g.get? b=some o→(g.update h'.objs.size (Obj.mapSeq fun _=>(#[]:Array Value))).get? b=some o:=fun b o nb e=>(s1.2 b nb).trans e
   show EP X pins σ Q (.ref h'.objs.size) { s with heap:=(((g.update h'.objs.size (Obj.mapSeq fun _=>(#[]:Array Value))).push (seqObj "tuple" its.toArray 0)).push (seqObj "list" #[] 0)).update h'.objs.size (Obj.mapSeq fun _=>(arrOf st').map (·.2)),toks:=tk }
   generalize g.update h'.objs.size (Obj.mapSeq fun _=>(#[]:Array Value))=g1 at ho1 k1 ⊢
   have ho2:((g1.push (seqObj "tuple" its.toArray 0)).push (seqObj "list" #[] 0)).get? h'.objs.size=some (seqObj "list" #[] e1):=Heap.get?_push_of_some _ (Heap.get?_push_of_some _ ho1)
   have k2:∀ b o,g1.get? b=some o→((g1.push (seqObj "tuple" its.toArray 0)).push (seqObj "list" #[] 0)).get? b=some o:=fun b o e=>Heap.get?_push_of_some _ (Heap.get?_push_of_some _ e)
   generalize (g1.push (seqObj "tuple" its.toArray 0)).push (seqObj "list" #[] 0)=g2 at ho2 k2 ⊢
   have s2:=Heap.SameBut.update g2 h'.objs.size (Obj.mapSeq fun _=>(arrOf st').map (·.2))
   obtain ⟨c3,hc3⟩:∃ c3,(g2.update h'.objs.size (Obj.mapSeq fun _=>(arrOf st').map (·.2))).get? h'.objs.size=some (seqObj "list" ((arrOf st').map (·.2)) c3):=⟨_,get?_update_seq ho2 fun _=>(arrOf st').map (·.2)⟩
   have keep:∀ b o,s.heap.get? b=some o→(g2.update h'.objs.size (Obj.mapSeq fun _=>(arrOf st').map (·.2))).get? b=some o:=fun b o e=>by
     have nb:b≠h'.objs.size:=Nat.ne_of_lt (Nat.lt_of_lt_of_le (Heap.lt_size e) hge)
     exact (s2.2 b nb).trans (k2 b o (k1 b o nb (keepg b o (hk b o e))))
   generalize g2.update h'.objs.size (Obj.mapSeq fun _=>(arrOf st').map (·.2))=g3 at hc3 keep ⊢
   refine ⟨.ref h'.objs.size,_,I.laid (t':=tk) keep hge (show ObjOk X.prog X.w _ _ _ (.lst (((arrOf st').toList.map fun z=>strOf z.1).map V.str)) from ⟨?_,((arrOf st').map (·.2)).toList,c3,Ue hout,by rw [Array.toArray_toList];exact hc3⟩),rfl,q _ _ (I.hok.fresh hge) hperm hsort⟩
   rw [List.length_map,List.length_map,Array.length_toList,hsz,hlacc,sizeLine_eq];omega
end
end L2
set_option maxHeartbeats 4000000
namespace K14
open PySem L2
def TqR (K:KF)(xs:List V):YO:=fun a h=>SqT K h a xs
instance {K:KF} {xs:List V}:Up (TqR K xs):=⟨fun h s=>SqT.tf h s.tf⟩
theorem Sep.tq {K:KF}{Δ:Rs}{H:Hp}{a:Addr}{xs:List V}(S:Sep Δ H)(e:SqT K H a xs):Sep ((a,TqR K xs)::Δ) H:=by
 have put:∀ o:HO,H a=some o→Yw o=false→TqR K xs a (one a o)→Sep ((a,TqR K xs)::Δ) H:=fun o eo m t =>
   ⟨one a o,fun c u z=>by obtain ⟨rfl,rfl⟩:=one_some.mp z;exact eo,t,S.mono fun c u z=>cut_some.mpr ⟨z,fun v y=>by obtain ⟨_,rfl⟩:=one_some.mp y;exact m⟩⟩
 rcases e with (e | ⟨o,e⟩) | e
 · exact put _ e rfl (.inl (.inl (one_some.mpr ⟨rfl,rfl⟩)))
 · exact put _ e rfl (.inl (.inr ⟨o,one_some.mpr ⟨rfl,rfl⟩⟩))
 · exact ⟨fun _=>none,(fun c u z=>nomatch z),.inr e,S.mono fun c u z=>cut_some.mpr ⟨z,fun v y=>nomatch y⟩⟩
theorem ZcW {NS:List Str}{F:Str→Option V}{lev r:Nat}{ps:Zu}(h:PsOf NS F lev r ps)(x:Str):(x∈NS∧ZL x % 4 ^ lev=r→lk ps x=F x)∧(¬ (x∈NS∧ZL x % 4 ^ lev=r)→lk ps x=none):=by
 refine ⟨fun ⟨h1,h2⟩=>?_,fun z=>?_⟩
 · cases e:F x with
   | some v=>exact (Yf h.1).mpr ((h.2 x v).mpr ⟨h1,h2,e⟩)
   | none =>
     cases e2:lk ps x with
     | none=>rfl
     | some v=>have:=((h.2 x v).mp ((Yf h.1).mp e2)).2.2;rw [e] at this;cases this
 · cases e2:lk ps x with
   | none=>rfl
   | some v=>have:=(h.2 x v).mp ((Yf h.1).mp e2);exact absurd ⟨this.1,this.2.1⟩ z
theorem ZdF {NS:List Str}{nds:List Nd}{F:Str→Option V}{d lev r num:Nat}{n:Nd}(h:Tri NS nds F d lev r num)(e:nds[num]?=some n):(n.parts=[]∧∀ qs,n≠.fork qs)∨∃ qs d',n=.fork qs∧d=d'+1∧qs.length=4∧∀ i q,qs[i]?=some q→Tri NS nds F d' (lev+1) (r+i * 4 ^ lev) q:=by
 have low:TriE NS nds F lev r num→n.parts=[]∧∀ qs,n≠.fork qs:=fun g=>by
   rcases g with ⟨_,g,_⟩ | ⟨m,ps,g,_⟩
   · rw [e] at g;cases g;exact ⟨rfl,fun _ z=>by cases z⟩
   · rw [e] at g;cases g;exact ⟨rfl,fun _ z=>by cases z⟩
 cases d with
 | zero=>exact .inl (low h)
 | succ d =>
   rcases h with h | ⟨qs,h1,h2,h3⟩
   · exact .inl (low h)
   · rw [e] at h1;cases h1;exact .inr ⟨qs,d,rfl,rfl,h2,h3⟩
section
variable {P:Program}{w:World}{K:KF}{mg:Str→Option Value}{base:Heap}{C Pl Pp:Addr}{NS:List Str}
def VlF (F:Str→Option V):Prop:=∀ x u,F x=some u→ValV u
def Zbw (K:KF)(C:Addr)(NS:List Str):Nat→Sp
 | 0=>fun _ _ _ _=>False
 | d+1=>fun vs H Q _=>∃ (st nm:Addr) (nds:List Nd) (tabs:ZH) (s t lev r:Nat) (F G:Str→Option V) (xs:List Str) (Δ:Rs),vs=[.ref st,iN s,iN t,.ref nm]∧Sep ((st,YA K C nds tabs)::(nm,Wn (xs.map V.str))::Δ) H∧Tri NS nds F d lev r s∧Tri NS nds G d lev r t∧r < 4 ^ lev∧lev+d=5∧VlF F∧VlF G∧xs.length+64 * (d+1)≤1000 ∧
   ∀ (ys:List Str) (H':Hp),Sep ((st,YA K C nds tabs)::(nm,Wn ((xs++ys).map V.str))::Δ) H'→ys.Nodup→(∀ x,x∈ys↔x∈NS∧ZL x % 4 ^ lev=r∧F x≠G x)→Q (.int (WP nds (d+1) s t:Int)) H'
abbrev nCm:List Str:=["store","one","other","names","one_parts","other_parts","looks","one_part","other_part"]
abbrev ZaM:List Str:=["store","one","other","names"]
theorem scCm:Zw nCm ZaM (Zn s_compare):=⟨rfl,rfl,rfl,by decide +kernel,rfl,by decide +kernel,by decide +kernel⟩
theorem Zlf {f : Addr}{fd:FuncData}{d k:Nat}(N:ZN NS)(hNl:NS.length≤50)(hk:7≤k)(F:Fun K "compare" "compare" s_compare f fd)(T:Ws mg)(TC:Yv K C)(DP:Def P w K mg base 1 "parts_in" ["node"] (Xr K))(DUn:Def P w K mg base k "unlike_names" Zfs Zgi)(DS_node:DefM P w K mg base k C "node" ["self","number"] (WC K C))(DS_pairs_below:DefM P w K mg base k C "pairs_below" UQ (ZaE K C NS 6))
   (DCm:Def P w K mg base k "compare" ZaM (Zbw K C NS d)):FnOk P w K mg base ZK (k+1) f fd ZaM (Zbw K C NS (d+1)):=by
 refine F.ok scCm (fun vs H Q E h=>?_) (fun cdv A outer s H vs Q E hr h=>?_)
 · obtain ⟨st,nm,nds,tabs,s,t,lev,r,F,G,xs,Δ,rfl,_⟩:=h;rfl
 obtain ⟨st,nm,nds,tabs,a,b,lev,r,Fm,Gm,xs,Δ,rfl,S,tF,tG,hrl,hld,vF,vG,hxl,q⟩:=h
 have hr1:=hr.mono (show 1≤k by omega)
 refine' ⟨?t,?h,?r⟩
 case h =>
   conv=>arg 2;whnf
   with_reducible refine' (Ze (Yo ?h1 (Zj ?h2) ZU) (Ze ?h3 (Ze ?h4 (Ze (Yo ?h5 (Ze ?h6 (Zj ?h7)) ZU) (Ze ?h8 (Ze (XF ?h9 ?h10 ?h11 ?h12 (Zj ?h13) ?h14) (Zj ?h15)))))))
   case h1=>exact ZE YR (pv 1) (pv 2) (ZJ _)
   case h2=>exact Zt Zd
   case h3=>exact Zs (i:=4) scCm.nd rfl (Or.inl rfl) (Zx DP hr1 (Zc (Yc DS_node TC.cl hr (pv 0) (Zc (pv 1) Za)) Za))
   case h4=>exact Zs (i:=5) scCm.nd rfl (Or.inl rfl) (Zx DP hr1 (Zc (Yc DS_node TC.cl hr (pv 0) (Zc (pv 2) Za)) Za))
   case h5=>exact PW.pt (Zdc (ZbA (Wa (pv 4) (fun _=>rfl))) (ZbB (ZbA (Wa (pv 5) (fun _=>rfl)))))
   case h6=>exact XM (UO PySem.F.plainAttrs_list PySem.F.slot_list_extend PySem.F.type_list_extend ZcQ (pv 3) (Zc (Zx DUn hr (Zc (Yc DS_pairs_below TC.cl hr (pv 0) (Zc (pv 1) Za)) (Zc (Yc DS_pairs_below TC.cl hr (pv 0) (Zc (pv 2) Za)) Za))) Za))
   case h7=>exact Zt Zd
   case h8=>exact Zs (i:=6) scCm.nd rfl (Or.inl rfl) Zd
   case h9=>exact PassesOwn.never
   case h10=>exact rfl
   case h11=>exact ZjS rfl T.zip (pv 4) (pv 5)
   case h12=>exact Zej rfl (Wb (Yp (i:=7) scCm.nd rfl (Or.inl rfl)) (Wb (Yp (i:=8) scCm.nd rfl (Or.inl rfl)) Zci))
   case h13=>exact Zhp (i:=6) scCm.nd rfl (Or.inl rfl) (Zx DCm hr (Zc (pv 0) (Zc (pv 7) (Zc (pv 8) (Zc (pv 3) Za))))) (Zhb)
   case h14=>exact fun _=>rfl
   case h15=>exact Zt (pv 6)
 refine ⟨_,rfl,_,rfl,rfl,_,rfl,Yd (fun c=>?_) (fun c=>?_)⟩
 · have e:(a:Int)=b:=V.int.inj (of_decide_eq_true c)
   have e':a=b:=by omega
   rw [show WP nds (d+1) a b=1 from if_pos e'] at q
   refine q [] H (by rw [List.append_nil];exact S) List.nodup_nil fun x=>⟨fun h=>(nomatch h),fun ⟨hx,hm,hne⟩=>absurd (ZkS hx tF (by rw [e'];exact tG) hm) hne⟩
 have hab:a≠b:=fun z=>c (decide_eq_true (by rw [z]))
 obtain ⟨n1,hn1,_⟩:=XJ tF
 obtain ⟨n2,hn2,_⟩:=XJ tG
 have ST:=S.get st
 obtain ⟨_,ln0,dt0,SA0⟩:=id ST
 obtain ⟨dx0,ob0⟩:=SA0.ob
 refine ⟨_,rfl,st,dx0,_,rfl,ob0,ZC ln0 dt0,_,rfl,st,nds,tabs,a,n1,rfl,ST,hn1,fun na hna=>?_⟩
 refine ⟨na,n1,rfl,hna,fun pa H1 s1 hpa=>?_⟩
 have S1:=S.mono s1
 have ST1:=S1.get st
 obtain ⟨_,ln1,dt1,SA1⟩:=id ST1
 obtain ⟨dx1,ob1⟩:=SA1.ob
 refine ⟨_,rfl,st,dx1,_,rfl,ob1,ZC ln1 dt1,_,rfl,st,nds,tabs,b,n2,rfl,ST1,hn2,fun nb hnb=>?_⟩
 refine ⟨nb,n2,rfl,hnb,fun pb H2 s2 hpb=>?_⟩
 have S2:=S1.mono s2
 have ST2:=S2.get st
 obtain ⟨_,ln2,dt2,SA2⟩:=id ST2
 have hpa2:=SqT.tf hpa s2.tf
 refine ⟨_,rfl,_,.inr (.inl ⟨_,hpa2,rfl⟩),?_⟩
 rcases ZdF tF hn1 with ⟨k1,k2⟩ | ⟨qs,d',rfl,rfl,hq4,hqs⟩
 · have lk1:WP nds (d+1) a b=1:=by
     show (if a=b then 1 else match nds[a]?,nds[b]? with | some (.fork qs),some (.fork rs)=>_ | _,_=>1)=1
     rw [if_neg hab,hn1]
     cases n1 with
     | fork qs=>exact absurd rfl (k2 qs)
     | bare=>rfl
     | leaf m ps=>rfl
   rw [k1]
   refine Yd (fun _=>?_) (fun z=>absurd rfl z)
   refine Yd (fun _=>?_) (fun z=>absurd rfl z)
   obtain ⟨dxA,obA⟩:=SA2.ob
   refine ⟨_,rfl,.inl ⟨rfl,_,SqL.of (S2.get nm)⟩,_,rfl,st,dxA,_,rfl,obA,ZC ln2 dt2,_,rfl,?_⟩
   refine ⟨st,ln2,dt2,nds,tabs,a,lev,r,Fm,rfl,SA2,tF.deep (show _≤5 by omega),hrl,fun l1 H3 ts1 ps1 hl1 s3 el1 hpt1 hps1=>?_⟩
   have SA3:=SA2.keep s3
   obtain ⟨dxB,obB⟩:=SA3.ob
   refine ⟨_,rfl,st,dxB,_,rfl,obB,ZC ln2 dt2,_,rfl,?_⟩
   refine ⟨st,ln2,dt2,nds,tabs,b,lev,r,Gm,rfl,SA3,tG.deep (show _≤5 by omega),hrl,fun l2 H4 ts2 ps2 hl2 s4 el2 hpt2 hps2=>?_⟩
   refine ⟨l1,l2,NS,ts1,ts2,ps1,ps2,rfl,hNl,s4 _ _ el1,el2,hpt1.tf s4.tf,hpt2,hps1.1,hps2.1,fun p hp=>⟨((hps1.2 p.1 p.2).mp hp).1,vF _ _ ((hps1.2 p.1 p.2).mp hp).2.2⟩,fun p hp=>⟨((hps2.2 p.1 p.2).mp hp).1,vG _ _ ((hps2.2 p.1 p.2).mp hp).2.2⟩,fun l5 H5 ys hl5 s5 el5 hnd5 hmem5 hlen5=>?_⟩
   have S5:=S2.mono ((s3.trans s4).trans s5)
   refine ⟨nm,l5,_,_,rfl,rfl,S5.get nm,el5,small (show _≤2000 by rw [List.length_map,List.length_map];omega),?_⟩
   generalize hE:upd H5 nm _=H6
   have S6:=S5.putE hE
   clear hE
   rw [← List.map_append] at S6
   rw [lk1] at q
   refine q ys H6 (((S6.pull nm).pull st)) hnd5 fun x=>?_
   rw [hmem5]
   obtain ⟨u1,u2⟩:=ZcW hps1 x
   obtain ⟨w1,w2⟩:=ZcW hps2 x
   by_cases z:x∈NS∧ZL x % 4 ^ lev=r
   · rw [u1 z,w1 z];exact ⟨fun h=>⟨z.1,z.2,h⟩,fun h=>h.2.2⟩
   · rw [u2 z,w2 z];exact ⟨fun h=>absurd rfl h,fun h=>absurd ⟨h.1,h.2.1⟩ z⟩
 · refine Yd (fun z=>?_) (fun _=>?_)
   · rw [show (Nd.fork qs).parts=qs from rfl] at z
     cases qs with
     | nil=>cases hq4
     | cons q0 qr=>cases z
   refine ⟨_,rfl,_,.inr (.inl ⟨_,hpb,rfl⟩),?_⟩
   rcases ZdF tG hn2 with ⟨k1,k2⟩ | ⟨rs,d2,rfl,hd2,hr4,hrs⟩
   · have lk1:WP nds (d'+1+1) a b=1:=by
       show (if a=b then 1 else match nds[a]?,nds[b]? with | some (.fork qs),some (.fork rs)=>_ | _,_=>1)=1
       rw [if_neg hab,hn1,hn2]
       cases n2 with
       | fork qs=>exact absurd rfl (k2 qs)
       | bare=>rfl
       | leaf m ps=>rfl
     rw [k1]
     refine Yd (fun _=>?_) (fun z=>absurd rfl z)
     obtain ⟨dxA,obA⟩:=SA2.ob
     refine ⟨_,rfl,.inl ⟨rfl,_,SqL.of (S2.get nm)⟩,_,rfl,st,dxA,_,rfl,obA,ZC ln2 dt2,_,rfl,?_⟩
     refine ⟨st,ln2,dt2,nds,tabs,a,lev,r,Fm,rfl,SA2,tF.deep (show _≤5 by omega),hrl,fun l1 H3 ts1 ps1 hl1 s3 el1 hpt1 hps1=>?_⟩
     have SA3:=SA2.keep s3
     obtain ⟨dxB,obB⟩:=SA3.ob
     refine ⟨_,rfl,st,dxB,_,rfl,obB,ZC ln2 dt2,_,rfl,?_⟩
     refine ⟨st,ln2,dt2,nds,tabs,b,lev,r,Gm,rfl,SA3,tG.deep (show _≤5 by omega),hrl,fun l2 H4 ts2 ps2 hl2 s4 el2 hpt2 hps2=>?_⟩
     refine ⟨l1,l2,NS,ts1,ts2,ps1,ps2,rfl,hNl,s4 _ _ el1,el2,hpt1.tf s4.tf,hpt2,hps1.1,hps2.1,fun p hp=>⟨((hps1.2 p.1 p.2).mp hp).1,vF _ _ ((hps1.2 p.1 p.2).mp hp).2.2⟩,fun p hp=>⟨((hps2.2 p.1 p.2).mp hp).1,vG _ _ ((hps2.2 p.1 p.2).mp hp).2.2⟩,fun l5 H5 ys hl5 s5 el5 hnd5 hmem5 hlen5=>?_⟩
     have S5:=S2.mono ((s3.trans s4).trans s5)
     refine ⟨nm,l5,_,_,rfl,rfl,S5.get nm,el5,small (show _≤2000 by rw [List.length_map,List.length_map];omega),?_⟩
     generalize hE:upd H5 nm _=H6
     have S6:=S5.putE hE
     clear hE
     rw [← List.map_append] at S6
     rw [lk1] at q
     refine q ys H6 (((S6.pull nm).pull st)) hnd5 fun x=>?_
     rw [hmem5]
     obtain ⟨u1,u2⟩:=ZcW hps1 x
     obtain ⟨w1,w2⟩:=ZcW hps2 x
     by_cases z:x∈NS∧ZL x % 4 ^ lev=r
     · rw [u1 z,w1 z];exact ⟨fun h=>⟨z.1,z.2,h⟩,fun h=>h.2.2⟩
     · rw [u2 z,w2 z];exact ⟨fun h=>absurd rfl h,fun h=>absurd ⟨h.1,h.2.1⟩ z⟩
   · refine Yd (fun z=>?_) (fun _=>?_)
     · cases rs with
       | nil=>cases hr4
       | cons q0 qr=>cases z
     obtain rfl:d'=d2:=by omega
     have lk2:WP nds (d'+1+1) a b=1+((qs.zip rs).map fun p=>WP nds (d'+1) p.1 p.2).sum:=by
       show (if a=b then 1 else match nds[a]?,nds[b]? with | some (.fork qs),some (.fork rs)=>1+((qs.zip rs).map fun p=>WP nds (d'+1) p.1 p.2).sum | _,_=>1)=_
       rw [if_neg hab,hn1,hn2]
     rw [lk2] at q
     have S3:=Sep.tq (Sep.tq S2 hpb) hpa2
     refine ⟨_,rfl,_,rfl,pa,pb,_,_,rfl,hpa2,hpb,?_⟩
     refine Zif (K:=K) (xs:=qs.map fun q:Nat=>V.int (q:Int)) (ys:=rs.map fun q:Nat=>V.int (q:Int)) (by rw [List.length_map,List.length_map,hq4,hr4]) (fun i σ H'=>∃ (x7 x8:Option V) (ys:List Str),σ=[some (.ref st),some (iN a),some (iN b),some (.ref nm),some (.ref pa),some (.ref pb),some (.int ((1+(((qs.zip rs).take i).map fun p=>WP nds (d'+1) p.1 p.2).sum:Nat):Int)),x7,x8]∧Sep ((st,YA K C nds tabs)::(nm,Wn ((xs++ys).map V.str))::(pa,TqR K (qs.map fun q:Nat=>V.int (q:Int)))::(pb,TqR K (rs.map fun q:Nat=>V.int (q:Int)))::Δ) H'∧ys.Nodup∧∀ x,x∈ys↔x∈NS∧ZL x % 4 ^ lev=r∧ZL x / 4 ^ lev % 4 < i∧Fm x≠Gm x)
       ⟨_,_,[],rfl,by rw [List.append_nil];exact ((S3.pull nm).pull st),List.nodup_nil,fun x=>⟨fun h=>(nomatch h),fun h=>absurd h.2.2.1 (Nat.not_lt_zero _)⟩⟩ ?_ ?_ ?_
     · rintro i σ H' _ ⟨x7,x8,ys,rfl,S',_,_⟩
       exact ⟨S'.get pa,S'.get pb⟩
     · rintro i u v tt σ H' hu hv htt ⟨x7,x8,ys,rfl,S',hnd',hmem'⟩
       rw [List.getElem?_map] at hu hv
       cases eq1:qs[i]? with
       | none=>rw [eq1] at hu;cases hu
       | some q1 =>
         cases er1:rs[i]? with
         | none=>rw [er1] at hv;cases hv
         | some r1 =>
           rw [eq1] at hu
           rw [er1] at hv
           cases (show some (V.int (q1:Int))=some u from hu)
           cases (show some (V.int (r1:Int))=some v from hv)
           have hi4:i < 4:=by rw [← hq4];exact (List.getElem?_eq_some_iff.mp eq1).1
           refine ⟨tt,_,rfl,SqT.of Zg,rfl,_,_,rfl,_,_,rfl,rfl,?_⟩
           have S4:=(S'.new htt (.tup [.int (q1:Int),.int (r1:Int)])).tail
           have hyl:ys.length≤50:=by
             have:=Xi hnd' (N:=NS) fun x hx=>((hmem' x).mp hx).1
             omega
           refine ⟨_,rfl,_,rfl,_,rfl,_,rfl,_,rfl,st,nm,nds,tabs,q1,r1,lev+1,r+i * 4 ^ lev,Fm,Gm,xs++ys,_,rfl,S4,hqs i q1 eq1,hrs i r1 er1,YH hrl hi4,by omega,vF,vG,by rw [List.length_append];omega,fun zs H4 S5 hnd4 hmem4=>⟨_,_,rfl,rfl,?_⟩⟩
           refine ⟨some (.int (q1:Int)),some (.int (r1:Int)),ys++zs,?_,by rw [← List.append_assoc];exact S5,?_,fun x=>?_⟩
           · have ez:(qs.zip rs)[i]?=some (q1,r1):=by rw [List.getElem?_zip_eq_some];exact ⟨eq1,er1⟩
             have:(((qs.zip rs).take (i+1)).map fun p=>WP nds (d'+1) p.1 p.2).sum=(((qs.zip rs).take i).map fun p=>WP nds (d'+1) p.1 p.2).sum+WP nds (d'+1) q1 r1:=by
               rw [List.take_succ,ez,List.map_append,List.sum_append];rfl
             rw [this]
             show [some (V.ref st),some (iN a),some (iN b),some (.ref nm),some (.ref pa),some (.ref pb),some (.int (((1+(((qs.zip rs).take i).map fun p=>WP nds (d'+1) p.1 p.2).sum:Nat):Int)+(WP nds (d'+1) q1 r1:Int))),some (.int (q1:Int)),some (.int (r1:Int))]=_
             rw [← Int.natCast_add,Nat.add_assoc]
           · rw [List.nodup_append]
             refine ⟨hnd',hnd4,fun x hx y hy e=>?_⟩
             subst e
             have h1:=((hmem' x).mp hx).2.2.1
             have h2:=(Yq hrl ((hmem4 x).mp hy).2.1).2
             omega
           · rw [List.mem_append,hmem',hmem4]
             constructor
             · rintro (h | h)
               · exact ⟨h.1,h.2.1,Nat.lt_succ_of_lt h.2.2.1,h.2.2.2⟩
               · obtain ⟨e1,e2⟩:=Yq hrl h.2.1
                 exact ⟨h.1,e1,by omega,h.2.2⟩
             · rintro ⟨h1,h2,h3,h4⟩
               by_cases hz:ZL x / 4 ^ lev % 4 < i
               · exact .inl ⟨h1,h2,hz,h4⟩
               · have he:ZL x / 4 ^ lev % 4=i:=by omega
                 exact .inr ⟨h1,by rw [YK,h2,he],h4⟩
     · rintro σ H' ⟨x7,x8,ys,rfl,S',hnd',hmem'⟩
       rw [List.length_map,hq4] at hmem'
       rw [List.length_map,hq4,List.take_of_length_le (by rw [List.length_zip,hq4,hr4];decide)]
       refine ⟨_,rfl,q ys H' ((S'.drop pa).drop pb) hnd' fun x=>?_⟩
       rw [hmem']
       have h4:ZL x / 4 ^ lev % 4 < 4:=Nat.mod_lt _ (by decide)
       exact ⟨fun h=>⟨h.1,h.2.1,h.2.2.2⟩,fun h=>⟨h.1,h.2.1,h4,h.2.2⟩⟩
theorem Zfb {f:Addr}{fd:FuncData}(N:ZN NS)(hNl:NS.length≤50)(F:Fun K "compare" "compare" s_compare f fd)(T:Ws mg)(TC:Yv K C)(DP:Def P w K mg base 1 "parts_in" ["node"] (Xr K))(DUn:Def P w K mg base 2 "unlike_names" Zfs Zgi)(DS_node:DefM P w K mg base 1 C "node" ["self","number"] (WC K C))(DS_pairs_below:DefM P w K mg base 7 C "pairs_below" UQ (ZaE K C NS 6))
   (b:Binds K fd ZaM []) (kp:PySem.W.keepIn K (.ref f)=true) (mt:mg "compare"=some (.ref f)):∀ d,FnOk P w K mg base ZK (7+1+d) f fd ZaM (Zbw K C NS d)
 | 0=>F.ok scCm (fun _ _ _ _ h=>h.elim) (fun _ _ _ _ _ _ _ _ _ h=>h.elim)
 | d+1=>Zlf N hNl (show 7≤7+1+d by omega) F T TC DP (DUn.mono (show 2≤7+1+d by omega)) (DS_node.mono (show 1≤7+1+d by omega)) (DS_pairs_below.mono (show 7≤7+1+d by omega)) ⟨f,fd,Zfb N hNl F T TC DP DUn DS_node DS_pairs_below b kp mt d,b,kp,mt⟩
def ZjD (K:KF)(C:Addr)(NS:List Str):Sp:=fun vs H Q _=>∃(st:Addr)(nds:List Nd)(tabs:ZH)(s t:Nat)(F G:Str→Option V)(Δ:Rs),vs=[.ref st,iN s,iN t]∧Sep ((st,YA K C nds tabs)::Δ) H∧(ZA tabs (Sum.inl (s:Int))).isSome=true∧(ZA tabs (Sum.inl (t:Int))).isSome=true∧Tri NS nds F 5 0 0 s∧Tri NS nds G 5 0 0 t∧VlF F∧VlF G ∧
 ∀ (tp l:Addr) (ys:List Str) (H':Hp),Sep ((tp,Tup [.ref l,.int (WP nds 6 s t:Int)])::(l,Wn (ys.map V.str))::(st,YA K C nds tabs)::Δ) H'→ys.Nodup→Xj ys→(∀ x,x∈ys↔x∈NS∧F x≠G x)→Q (.ref tp) H'
abbrev nDf:List Str:=["store","one","other","names","looks"]
abbrev ZfR:List Str:=["store","one","other"]
theorem scDf:Zw nDf ZfR (Zn s_differing):=⟨rfl,rfl,rfl,by decide +kernel,rfl,by decide +kernel,by decide +kernel⟩
theorem ZlN {f:Addr}{fd:FuncData}(N:ZN NS)(hNl:NS.length≤50)(F:Fun K "differing" "differing" s_differing f fd)(T:Ws mg)(TC:Yv K C)(DS_check_table:DefM P w K mg base 14 C "check_table" ["self","table"] (VU K C))(DCm:Def P w K mg base 14 "compare" ZaM (Zbw K C NS 6)):FnOk P w K mg base ZK 15 f fd ZfR (ZjD K C NS):=by
 refine F.ok scDf (fun vs H Q E h=>?_) (fun cdv A outer s H vs Q E hr h=>?_)
 · obtain ⟨st,nds,tabs,s,t,F,G,Δ,rfl,_⟩:=h;rfl
 obtain ⟨st,nds,tabs,a,b,Fm,Gm,Δ,rfl,S,ta,tb,tF,tG,vF,vG,q⟩:=h
 refine' ⟨?t,?h,?r⟩
 case h =>
   conv=>arg 2;whnf
   with_reducible refine' (Ze ?h1 (Ze ?h2 (Ze ?h3 (Ze ?h4 (Zj ?h5)))))
   case h1=>exact XM (Yc DS_check_table TC.cl hr (pv 0) (Zc (pv 1) Za))
   case h2=>exact XM (Yc DS_check_table TC.cl hr (pv 0) (Zc (pv 2) Za))
   case h3=>exact Zs (i:=3) scDf.nd rfl (Or.inl rfl) (Xq Za)
   case h4=>exact Zs (i:=4) scDf.nd rfl (Or.inl rfl) (Zx DCm hr (Zc (pv 0) (Zc (pv 1) (Zc (pv 2) (Zc (pv 3) Za)))))
   case h5=>exact Zt (UJ (Zc (ZD Zax rfl T.sorted (by decide +kernel) (Zc (pv 3) Za)) (Zc (pv 4) Za)))
 have ST:=S.get st
 obtain ⟨_,ln0,dt0,SA0⟩:=id ST
 obtain ⟨dx0,ob0⟩:=SA0.ob
 refine ⟨_,rfl,st,dx0,_,rfl,ob0,ZC ln0 dt0,_,rfl,st,ln0,dt0,nds,tabs,a,rfl,SA0,ta,?_⟩
 refine ⟨_,rfl,st,dx0,_,rfl,ob0,ZC ln0 dt0,_,rfl,st,ln0,dt0,nds,tabs,b,rfl,SA0,tb,?_⟩
 refine ⟨(by show 0≤sizeLine;decide),fun nm hnm=>?_⟩
 generalize hE:upd H nm _=H1
 have S1:=S.newE hnm hE
 clear hE
 refine ⟨_,rfl,_,rfl,_,rfl,_,rfl,st,nm,nds,tabs,a,b,0,0,Fm,Gm,[],_,rfl,(S1.pull nm).pull st,tF,tG,by decide,rfl,vF,vG,by decide,fun ys H2 S2 hnd hmem=>?_⟩
 rw [List.nil_append] at S2
 have hyl:ys.length≤50:=by
   have:=Xi hnd (N:=NS) fun x hx=>((hmem x).mp hx).1
   omega
 refine ⟨_,rfl,nm,ys,rfl,S2.get nm,by omega,fun l ys2 hl hpm hs=>?_⟩
 generalize hE:upd H2 l _=H3
 have S3:=S2.newE hl hE
 clear hE
 refine ⟨_,rfl,(by show 2≤sizeLine;decide),fun tp htp=>?_⟩
 generalize hE:upd H3 tp _=H4
 have S4:=S3.newE htp hE
 clear hE
 refine q tp l ys2 H4 ((((S4.drop nm).pull st).pull l).pull tp) (hpm.nodup_iff.mpr hnd) hs fun x=>?_
 rw [hpm.mem_iff,hmem]
 exact ⟨fun h=>⟨h.1,h.2.2⟩,fun h=>⟨h.1,by rw [Nat.pow_zero,Nat.mod_one],h.2⟩⟩
end
end K14
set_option maxHeartbeats 4000000
namespace K14
open PySem L2
section
variable {P:Program}{w:World}{K:KF}{mg:Str→Option Value}{base:Heap}{C Pl Pp:Addr}
def Vw (K:KF)(C:Addr):Nat→Sp
 | 0=>fun _ _ _ _=>False
 | d+1=>fun vs H Q _=>∃ (NS:List Str) (st:Addr) (nds:List Nd) (tabs:ZH) (F:Str→Option V) (lev r t:Nat),vs=[.ref st,.int (t:Int)]∧YA K C nds tabs st H∧(∀ n∈nds,ZfY n)∧Tri NS nds F d lev r t ∧
   ∀ (v:V) (H':Hp),Same H H'→DatT K H' v (WV nds (d+1) t)→Q v H'
abbrev nTr:List Str:=["_law_store","_law_number","_law_node"]
abbrev ZaI:List Str:=["_law_store","_law_number"]
theorem scTr:Zw nTr ZaI (Zn s_l_tree):=⟨rfl,rfl,rfl,by decide +kernel,rfl,by decide +kernel,by decide +kernel⟩
theorem ZkA {f:Addr}{fd:FuncData}{d k:Nat}(F:Fun K "_law_tree" "_law_tree" s_l_tree f fd)(T:Ws mg)(TC:Yv K C)(DS_node:DefM P w K mg base k C "node" ["self","number"] (WC K C))
   (DTr:Def P w K mg base k "_law_tree" ZaI (Vw K C d)):FnOk P w K mg base ZK (k+1) f fd ZaI (Vw K C (d+1)):=by
 refine F.ok scTr (fun vs H Q E h=>?_) (fun cdv A outer s H vs Q E hr h=>?_)
 · obtain ⟨NS,st,nds,tabs,F,lev,r,t,rfl,_⟩:=h;rfl
 obtain ⟨NS,st,nds,tabs,Fm,lev,r,t,rfl,ST,hsh,htri,q⟩:=h
 refine' ⟨?t,?h,?r⟩
 case h =>
   conv=>arg 2;whnf
   with_reducible refine' (Ze ?h1 (Ze (Yo ?h2 (Zj ?h3) ZU) (Zj ?h4)))
   case h1=>exact Zs (i:=2) scTr.nd rfl (Or.inl rfl) (Yc DS_node TC.cl hr (pv 0) (Zc (pv 1) Za))
   case h2=>exact ZE Va (ZB YS (pv 2) Zd (fun _ _=>rfl)) ZY (ZJ _)
   case h3=>exact Zt (pv 2)
   case h4=>exact Zt (UJ (Zc ZY (Zc (ZX Vf rfl T.tuple (by decide +kernel) (Zc (Ur (CompOk.of nTr s_l_tree rfl rfl (by decide +kernel)) rfl (Zbh (ZB YS (pv 2) Zd (fun _ _=>rfl)))  (fun _ _ _ _ _=>Zx DTr hr (Zc (pv 0) (Zc (pv 3) Za)))) Za)) Za)))
 obtain ⟨n,hn,_⟩:=XJ htri
 obtain ⟨_,ln,dt,SA⟩:=id ST
 obtain ⟨dx,ob⟩:=SA.ob
 refine ⟨_,rfl,st,dx,_,rfl,ob,ZC ln dt,_,rfl,st,nds,tabs,t,n,rfl,ST,hn,fun na hna=>?_⟩
 have hsn:=hsh n (List.mem_of_getElem? hn)
 cases n with
 | bare =>
   refine ⟨_,rfl,na,_,_,_,rfl,rfl,hna,rfl,rfl,_,rfl,Yd (fun c=>?_) (fun c=>absurd (by decide +kernel) c)⟩
   refine ⟨_,rfl,q _ _ (Same.refl _) ?_⟩
   have e:WV nds (d+1) t=ndD .bare:=by
     show (match nds[t]? with | some (.fork qs)=>_ | some n=>ndD n | none=>XG)=_
     rw [hn]
   rw [e];exact Zcu hna hsn
 | leaf m ps =>
   obtain ⟨tt,e1,e2⟩:=id hna
   refine ⟨_,rfl,na,_,_,_,rfl,rfl,e1,rfl,rfl,_,rfl,Yd (fun c=>?_) (fun c=>absurd (by decide +kernel) c)⟩
   refine ⟨_,rfl,q _ _ (Same.refl _) ?_⟩
   have e:WV nds (d+1) t=ndD (.leaf m ps):=by
     show (match nds[t]? with | some (.fork qs)=>_ | some n=>ndD n | none=>XG)=_
     rw [hn]
   rw [e];exact Zcu hna hsn
 | fork qs =>
   obtain ⟨tt,e1,e2,hq4⟩:=id hna
   obtain ⟨d,rfl,hsub⟩:∃ d',d=d'+1∧∀ i q,qs[i]?=some q→Tri NS nds Fm d' (lev+1) (r+i * 4 ^ lev) q:=by
     cases d with
     | zero=>rcases htri with ⟨_,h2,_⟩ | ⟨m,ps,h1,_⟩<;>· rw [hn] at *;simp_all
     | succ d =>
       rcases htri with (⟨_,h2,_⟩ | ⟨m,ps,h1,_⟩) | ⟨qs',h1,_,h3⟩
       · rw [hn] at h2;cases h2
       · rw [hn] at h1;cases h1
       · rw [hn] at h1;cases h1;exact ⟨d,rfl,h3⟩
   have e:WV nds (d+1+1) t=.tuple [.str "fork",.tuple (qs.map (WV nds (d+1)))]:=by
     show (match nds[t]? with | some (.fork qs)=>PyData.tuple [.str "fork",.tuple (qs.map (WV nds (d+1)))] | some n=>ndD n | none=>XG)=_
     rw [hn]
   rw [e] at q
   refine ⟨_,rfl,na,_,_,_,rfl,rfl,e1,rfl,rfl,_,rfl,Yd (fun c=>absurd c (by decide +kernel)) (fun c=>?_)⟩
   refine ⟨_,rfl,na,_,_,_,rfl,rfl,e1,rfl,tt,rfl,⟨_,e2⟩,fun D hD=>?_⟩
   refine ZdO (K:=K) (xs:=qs.map fun q:Nat=>V.int (q:Int)) (small (show _≤1000 by rw [List.length_map,hq4];decide)) (fun i ys H'=>Same H H'∧H' D=some (.lst ys)∧DatTs K H' ys ((qs.take i).map (WV nds (d+1)))∧i≤qs.length) ⟨Zm hD _,Zg,.nil,Nat.zero_le _⟩ ?_ ?_ ?_
   · rintro i ys H' ⟨s,eD,hd,hi⟩
     exact ⟨by rw [hd.len,List.length_map,List.length_take];omega,e2.tf s.tf⟩
   · rintro i x ys H' hx ⟨s,eD,hd,_⟩
     rw [List.getElem?_map] at hx
     cases eq1:qs[i]? with
     | none=>rw [eq1] at hx;cases hx
     | some q1 =>
       rw [eq1] at hx
       cases (show some (V.int (q1:Int))=some x from hx)
       refine ⟨_,rfl,_,rfl,NS,st,nds,tabs,Fm,lev+1,r+i * 4 ^ lev,q1,rfl,Up.up ST s,hsh,hsub i q1 eq1,fun v H2 s2 hv=>⟨s2 _ _ eD,fun b o e=>?_,Zg,?_,(List.getElem?_eq_some_iff.mp eq1).1⟩⟩
       · rw [Zh (Zp e hD)];exact s2 _ _ (s _ _ e)
       · have tf8:=VL (o:=.lst (ys++[v])) (s2 _ _ eD)
         rw [List.take_succ,eq1,List.map_append]
         exact DatTs.app (DatTs.tf tf8 (DatTs.same s2 hd)) (DatT.tf tf8 hv)
   · rintro ys H2 ⟨s2,eD,hd,_⟩
     rw [List.length_map,List.take_of_length_le (Nat.le_refl _)] at hd
     refine ⟨D,_,rfl,.inl ⟨SqL.of eD,fun tp htp=>⟨(by show 2≤sizeLine;decide),fun t2 ht2=>?_⟩⟩⟩
     have s7:=Zm htp (.tup ys)
     have s8:=Zm ht2 (.tup [.str "fork",.ref tp])
     exact q _ _ ((s2.trans s7).trans s8) (.tup (SqT.of Zg) (.cons (.str _) (.cons (.tup (SqT.of (s8 _ _ Zg)) (DatTs.same s8 (DatTs.same s7 hd))) .nil)))
theorem ZdT {f:Addr}{fd:FuncData}{j:Nat}(F:Fun K "_law_tree" "_law_tree" s_l_tree f fd)(T:Ws mg)(TC:Yv K C)(DS_node:DefM P w K mg base j C "node" ["self","number"] (WC K C))
   (b:Binds K fd ZaI []) (kp:PySem.W.keepIn K (.ref f)=true) (mt:mg "_law_tree"=some (.ref f)):∀ d,FnOk P w K mg base ZK (j+1+d) f fd ZaI (Vw K C d)
 | 0=>F.ok scTr (fun _ _ _ _ h=>h.elim) (fun _ _ _ _ _ _ _ _ _ h=>h.elim)
 | d+1=>ZkA F T TC (DS_node.mono (show j≤j+1+d by omega)) ⟨f,fd,ZdT F T TC DS_node b kp mt d,b,kp,mt⟩
end
end K14
set_option maxHeartbeats 4000000
namespace K14
open PySem L2
def bd:Nat→Nat
 | 0=>110
 | 1=>12460
 | d+2=>4 * bd (d+1)+120
theorem ZfB:∀ d,12460≤bd (d+1)
 | 0=>Nat.le_refl _
 | d+1=>by have:=ZfB d;show 12460≤4 * bd (d+1)+120;omega
theorem ZmP (d:Nat):4 * bd d+115≤bd (d+1):=by
 cases d with
 | zero=>decide
 | succ d=>show _≤4 * bd (d+1)+120;omega
theorem bare_sml:Sml XG 110 1:=(Ud (n:=100) (k:=0) fun d hd=>by rw [List.mem_singleton.mp hd];exact ZbL (by decide +kernel) (by decide +kernel) 0).le (by decide) (by decide)
theorem Zie {m:Int}{ps:Zu}(h1:m.natAbs≤10 ^ 31)(h2:ps.length≤50)(h3:∀ p∈ps,Yx p.1∧Ye p.2):Sml (VS m ps) 12460 3:=by
 have s1:Sml (.tuple (ps.map XT)) 12303 2:=(Ud (n:=244) (k:=1) fun d hd=>by
   obtain ⟨p,hp,rfl⟩:=List.mem_map.mp hd
   exact ZaC (n:=40) (m:=200) (k:=0) (ZdW (h3 p hp).1 0) (ZgR (.inr (h3 p hp).2) 0)).le (by rw [List.length_map];have:ps.length * (244+2)≤50 * 246:=Nat.mul_le_mul_right _ h2;omega) (by decide)
 have s2:Sml (.str "leaf") 100 2:=ZbL (by decide +kernel) (by decide +kernel) 2
 have s3:Sml (.int m) 40 2:=ZkO h1 2
 have s:Sml (VS m ps) (3+3 * (12303+2)) 3:=Ud (n:=12303) (k:=2) fun d hd=>by
   rcases List.mem_cons.mp hd with rfl | hd
   · exact s2.le (by decide) (by decide)
   rcases List.mem_cons.mp hd with rfl | hd
   · exact s3.le (by decide) (by decide)
   rw [List.mem_singleton.mp hd];exact s1
 refine ⟨s.sh,Nat.le_trans (Zgr _) ?_,s.dp⟩
 have a1:=s1.ln
 have a2:=s2.ln
 have a3:=s3.ln
 show 3+(((PyData.str "leaf").shown.length+2)+(((PyData.int m).shown.length+2)+(((PyData.tuple (ps.map XT)).shown.length+2)+0)))≤_
 omega
theorem ZgV:∀(d lev:Nat)(ps:Zu),ps.length≤50→(∀ p∈ps,(Yx p.1∧Ye p.2)∧(Zi p.1).natAbs≤10 ^ 31)→Sml (VJ d lev ps) (bd d) (3+2 * d)
 | 0,_,_,_,_=>bare_sml.le (by decide) (by decide)
 | d+1,_,[],_,_=>bare_sml.le (by have:=ZfB d;omega) (by omega)
 | d + 1,lev,p::r,hl,h=>by
   show Sml (if ∀ q∈r,Zi q.1=Zi p.1 then VS (Zi p.1) (p::r) else .tuple [.str "fork",.tuple ((List.range 4).map fun i=>VJ d (lev+1) (part (p::r) lev i))]) _ _
   split
   · exact (Zie (h p List.mem_cons_self).2 hl fun q hq=>(h q hq).1).le (ZfB d) (by omega)
   · have s1:Sml (.tuple ((List.range 4).map fun i=>VJ d (lev+1) (part (p::r) lev i))) (3+4 * (bd d+2)) (3+2 * d+1):=Ud (n:=bd d) (k:=3+2 * d) fun z hz=>by
       obtain ⟨i,_,rfl⟩:=List.mem_map.mp hz
       exact ZgV d (lev+1) _ (Nat.le_trans (List.length_filter_le _ _) hl) fun q hq=>h q (List.mem_filter.mp hq).1
     exact (ZaC (ZbL (by decide +kernel) (by decide +kernel) (3+2 * d+1)) s1).le (by have:=ZmP d;omega) (by omega)
theorem Zis {NS:List Str}{ps qs:Zu}(h:HeldOk NS ps)(hp:qs.Perm ps)(hs:YB qs):Zbe NS (lk ps) 0 0 qs:=by
 refine ⟨⟨(hp.map _).nodup_iff.mpr h.1,fun x v=>?_⟩,hs⟩
 rw [hp.mem_iff]
 constructor
 · intro e;exact ⟨(h.2 _ e).1,by rw [Nat.pow_zero,Nat.mod_one],(Yf h.1).mpr e⟩
 · rintro ⟨_,_,e⟩;exact (Yf h.1).mp e
theorem NdOk.sh {NS:List Str}{len:Nat}{n:Nd}(N:ZN NS)(hN:∀ x∈NS,Yx x)(hl:len≤100000)(h:NdOk NS len n):ZfY n:=by
 cases n with
 | bare=>trivial
 | leaf m ps =>
   obtain ⟨G,hv⟩:=h
   refine ⟨?_,by have:=G.few;have:=N.few;omega,fun p hp=>⟨hN _ (G.sub p hp),hv p hp⟩⟩
   cases ps with
   | nil=>exact absurd rfl G.ne
   | cons p r =>
     have h1:=G.mrk p List.mem_cons_self
     have h2:=G.sub p List.mem_cons_self
     have:=N.lo _ h2
     have:=N.hi _ h2
     omega
 | fork qs=>exact ⟨h.1,fun q hq=>by have:=h.2 q hq;omega⟩
end K14
set_option maxHeartbeats 4000000
namespace K14
open PySem L2
def PLX (ps:Zu)(ts:List Addr):YO:=fun l h=>h l=some (.lst (ts.map V.ref))∧PairT h ts ps
instance {ps:Zu} {ts:List Addr}:Up (PLX ps ts):=⟨fun ⟨e,p⟩ s=>⟨s _ _ e,p.tf s.tf⟩⟩
theorem Zlz {Δ Δ':Rs}{H:Hp}{ps:Zu}{q:Str×V}{t:Addr}{ts:List Addr}(S:Sep Δ H)(l:Addr)[P:Pull l Δ (PLX ps ts) Δ'](et:H t=some (.tup [.str q.1,q.2])):Sep ((l,PLX (ps++[q]) (ts++[t]))::Δ') (upd H l (.lst (ts.map V.ref++[V.ref t]))):=by
 refine S.updR l _ (fun h ⟨e,_⟩=>⟨_,e,rfl⟩) fun h r l' h' e1 e2 e3=>?_
 obtain ⟨e4,hl,hs⟩:=r
 refine ⟨by rw [e1,List.map_append];rfl,by rw [List.length_append,List.length_append,hl];rfl,fun i a x q1 q2=>?_⟩
 by_cases hi:i < ts.length
 · rw [List.getElem?_append_left hi] at q1
   rw [List.getElem?_append_left (by omega)] at q2
   have q3:=hs i a x q1 q2
   exact e2 _ _ (fun z=>by rw [z,e4] at q3;cases q3) q3
 · rw [List.getElem?_append_right (by omega)] at q1 q2
   have h0:i - ts.length=0:=by
     cases z:i - ts.length with
     | zero=>rfl
     | succ j=>rw [z] at q1;simp at q1
   rw [h0] at q1
   rw [show i - ps.length=0 by omega] at q2
   cases (show some t=some a from q1)
   cases (show some q=some x from q2)
   exact e3 _ _ (fun z=>by rw [z,l' _ _ e4] at et;cases et) et rfl
theorem Zgv (ps:Zu):∃ qs:List (Str×V),qs.Perm ps∧YB qs:=by
 refine ⟨ps.mergeSort (fun p q=>decide (p.1.cps.toList≤q.1.cps.toList)),List.mergeSort_perm _ _,?_⟩
 have h:=List.pairwise_mergeSort (le:=fun p q:Str×V=>decide (p.1.cps.toList≤q.1.cps.toList)) (fun a b c h1 h2=>decide_eq_true (List.le_trans (of_decide_eq_true h1) (of_decide_eq_true h2))) (fun a b=>by
   rcases List.le_total a.1.cps.toList b.1.cps.toList with z | z
   · simp [z]
   · simp [z]) ps
 exact h.imp fun z=>of_decide_eq_true z
theorem Zez {xs:List V}{i:Nat}(h:i≤xs.length):Vv xs (some (i:Int)) none=xs.drop i:=by
 unfold Vv
 rw [HT.sIx_none,HT.sIx_nat,Nat.min_eq_left h]
 exact List.take_of_length_le (by rw [List.length_drop];exact Nat.le_refl _)
section
variable {P:Program}{w:World}{K:KF}{mg:Str→Option Value}{base:Heap}{C Pl Pp:Addr}
def ZjA (K:KF)(C:Addr):Sp:=fun vs H Q E=>∃ NS,(ZN NS∧NS.length≤50)∧ZjD K C NS vs H Q E
def ZcV (K:KF)(Pl Pp:Addr):Sp:=fun vs H Q _=>∃(a:Addr)(ns:List Int),vs=[.ref a]∧SqL K H a (ns.map V.int)∧ns.length≤63∧LamAt H Pl YE Xz∧LamAt H Pp Xe Xp∧Pl≠Pp∧∀ H',Q (.bl true) H'
abbrev nLw:List Str:=["_law_script","_law_k","_law_box_here","_law_store","_law_names_here","_law_cut","_law_held","_law_one","_law_other","_law_name"]
abbrev pnLw:List Str:=["_law_script"]
theorem scLw:Zw nLw pnLw (Zn s_law):=⟨rfl,rfl,rfl,by decide +kernel,rfl,by decide +kernel,by decide +kernel⟩
theorem ZlY {f:Addr}{fd:FuncData}(F:Fun K "law" "law" s_law f fd)(T:Ws mg)(TC:Yv K C)(DB:Def P w K mg base 15 "_law_box" ["_law_script","_law_k"] (ZdZ K))(DT:DTk P w K mg base 1)(DN:Def P w K mg base 15 "_law_names" ["_law_box_here","_law_many"] ZaA)(DV:Def P w K mg base 15 "_law_value" ["_law_box_here"] UW)(DBy:Def P w K mg base 15 "_law_by" ZfF (Ziw K C Pl))(DTr:Def P w K mg base 15 "_law_tree" ZaI (Vw K C 6))(DDf:Def P w K mg base 15 "differing" ZfR (ZjA K C))
   (DSto:Ziy P w K mg base 14 C "Store" ["self"] (ZbR K C)) (DS_pairs:DefM P w K mg base 15 C "pairs" ZbV (ZaB K C Pp)) (DS_many:DefM P w K mg base 15 C "many" Zft (Zcj K C Pp)) (DS_way:DefM P w K mg base 15 C "way" ["self","table","name"] (ZdS K C)):FnOk P w K mg base ZK 16 f fd pnLw (ZcV K Pl Pp):=by
 refine F.ok scLw (fun vs H Q E h=>?_) (fun cdv A outer s H vs Q E hr h=>?_)
 · obtain ⟨a,ns,rfl,_⟩:=h;rfl
 obtain ⟨a,ns,rfl,hS,h63,hL,hP,hne,q⟩:=h
 have S:=Zhl hS hL hP hne
 have hr1:=hr.mono (show 1≤15 by decide)
 have hr2:=hr
 refine' ⟨?t,?h,?r⟩
 case h =>
   conv=>arg 2;whnf
   with_reducible refine' (Ze (XF ?h1 ?h2 ?h3 ?h4 (Ze ?h5 (Ze ?h6 (Ze ?h7 (Ze ?h8 (Ze ?h9 (Ze ?h10 (Ze (Yo ?h11 (Zj ?h12) ZU) (Ze (Yo ?h13 (Zj ?h14) ZU) (Zj (XF ?h15 ?h16 ?h17 ?h18 (Zj (Yo ?h19 (Zj ?h20) ZU)) ?h21)))))))))) ?h22) (Zj ?h23))
   case h1=>exact PassesOwn.never
   case h2=>exact rfl
   case h3=>exact XN rfl T.range (Zc (Zo Yi Zd (ZD (Zcq rfl) rfl T.min (by decide +kernel) (Zc Zd (Zc (ZD ZV rfl T.len PySem.boot_len (Zc (pv 0) Za)) Za)))) Za)
   case h4=>exact Yp (i:=1) scLw.nd rfl (Or.inl rfl)
   case h5=>exact Uu (UJ (Zc (Zx DB hr (Zc (pv 0) (Zc (pv 1) Za))) (Zc (ZmH DSto hr) Za))) (Zej rfl (Wb (Yp (i:=2) scLw.nd rfl (Or.inr rfl)) (Wb (Yp (i:=3) scLw.nd rfl (Or.inl rfl)) Zci)))
   case h6=>exact Zs (i:=4) scLw.nd rfl (Or.inl rfl) (Zx DN hr (Zc (pv 2) (Zc (Zo Yi Zd (Zx DT hr1 (Zc (pv 2) (Zc Zd Za)))) Za)))
   case h7=>exact Zs (i:=5) scLw.nd rfl (Or.inl rfl) (Zx DT hr1 (Zc (pv 2) (Zc (Zo Yi (ZD ZV rfl T.len PySem.boot_len (Zc (pv 4) Za)) Zd) Za)))
   case h8=>exact Zs (i:=6) scLw.nd rfl (Or.inl rfl) (ZX (XU rfl) rfl T.dict (by decide +kernel) (Zc (Ur (CompOk.of nLw s_law rfl rfl (by decide +kernel)) rfl (UA (Zaz ZbQ (pv 4) ZbW (ZbT (pv 5))))  (fun _ _ _ _ _=>UJ (Zc (pv 10) (Zc (Zx DV hr2 (Zc (pv 2) Za)) Za)))) Za))
   case h9=>exact Zs (i:=7) scLw.nd rfl (Or.inl rfl) (Zx DBy hr (Zc (pv 2) (Zc (pv 3) (Zc (pv 6) (Zc (Zaz ZbQ (pv 4) (ZbT (pv 5)) ZbW) (Zc XR Za))))))
   case h10=>exact Zs (i:=8) scLw.nd rfl (Or.inl rfl) (Zx DBy hr (Zc (pv 2) (Zc (pv 3) (Zc (pv 6) (Zc (Zaz ZbQ (pv 4) (ZbT (pv 5)) ZbW) (Zc XR Za))))))
   case h11=>exact PW.pt (Zdc (ZE Va (ZD (ZbF (K:=K) rfl hr.gd hr.units) rfl T.repr (by decide +kernel) (Zc (Zx DTr hr (Zc (pv 3) (Zc (pv 7) Za))) Za)) (ZD (ZbF (K:=K) rfl hr.gd hr.units) rfl T.repr (by decide +kernel) (Zc (Zx DTr hr (Zc (pv 3) (Zc (pv 8) Za))) Za)) (ZJ _)) (ZbB (ZE (ZdI hr.units) (ZB YS (Zx DDf hr (Zc (pv 3) (Zc (pv 7) (Zc (pv 8) Za)))) Zd (fun _ _=>rfl)) (Xq Za) (ZJ _))))
   case h12=>exact Zt XR
   case h13=>exact PW.pt (Zdc (ZE Va (ZD (ZcE hr.gd hr.units) rfl T.repr (by decide +kernel) (Zc (Yc DS_pairs TC.cl hr (pv 3) (Zc (pv 8) Za)) Za)) (ZD (ZcE hr.gd hr.units) rfl T.repr (by decide +kernel) (Zc (ZD (Zad rfl) rfl T.sorted (by decide +kernel) (Zc (ZhH PySem.F.plainAttrs_dict PySem.F.slot_dict_items PySem.F.type_dict_items Zdy (pv 6)) Za)) Za)) (ZJ _)) (ZbB (ZE Va (Yc DS_many TC.cl hr (pv 3) (Zc (pv 7) Za)) (pv 5) (ZJ _))))
   case h14=>exact Zt XR
   case h15=>exact PassesOwn.never
   case h16=>exact rfl
   case h17=>exact UA (pv 4)
   case h18=>exact Yp (i:=9) scLw.nd rfl (Or.inl rfl)
   case h19=>exact ZE Va (ZD ZV rfl T.len PySem.boot_len (Zc (Yc DS_way TC.cl hr (pv 3) (Zc (pv 7) (Zc (pv 9) Za))) Za)) (ZD ZV rfl T.len PySem.boot_len (Zc (Yc DS_way TC.cl hr (pv 3) (Zc (pv 8) (Zc (pv 9) Za))) Za)) (ZJ _)
   case h20=>exact Zt XR
   case h21=>exact fun _=>rfl
   case h22=>exact fun _=>rfl
   case h23=>exact Zt XR
 refine ⟨_,rfl,a,_,rfl,.inl hS,_,_,rfl,_,_,rfl,rfl,?_⟩
 rw [List.length_map]
 generalize hm:(1:Int)+(if ((ns.length:Nat):Int) < 2 then ((ns.length:Nat):Int) else 2)=m
 have hm9:0≤m∧m≤9:=by rw [← hm];split<;>omega
 refine ⟨m,congrArg (fun z=>[V.int z]) hm,by omega,by omega,?_⟩
 refine Wk (fun i σ H'=>∃ x1 x2 x3 x4 x5 x6 x7 x8 x9,σ=[some (.ref a),x1,x2,x3,x4,x5,x6,x7,x8,x9]∧Sep [(Pl,Xn),(Pp,Uh),(a,ScR K ns)] H') ⟨_,_,_,_,_,_,_,_,_,rfl,S⟩ ?_ ?_
 · rintro i σ H1 hi ⟨x1,x2,x3,x4,x5,x6,x7,x8,x9,rfl,S1⟩
   refine ⟨_,rfl,_,rfl,a,ns,_,_,rfl,S1.get a,S1,by omega,by omega,fun p H2 s2 S2=>?_⟩
   intro st dx hst hdx hne2
   refine ⟨st,dx,_,_,rfl,rfl,hst,hdx,hne2,S2,fun H3 s3 S3=>⟨rfl,(by show 2≤sizeLine;decide),fun tt htt=>⟨tt,_,rfl,SqT.of Zg,rfl,_,_,rfl,_,_,rfl,rfl,?_⟩⟩⟩
   generalize hE:upd H3 tt _=H3'
   have S3:=(S3.newE htt hE).tail
   clear hE
   refine ⟨_,rfl,_,rfl,p,0,40,_,rfl,S3.pull p,by decide,by decide,by decide,fun r1 H4 a0 a1 S4=>⟨_,_,rfl,rfl,p,_,_,_,rfl,S4,by omega,by omega,by omega,fun nl H5 NS S5 hl50 hne5 hN hNd=>?_⟩⟩
   have N:=ZmN hl50 hN
   have hNl:NS.length≤50:=hl50
   refine ⟨_,rfl,_,rfl,nl,_,rfl,.inl (SqL.of (S5.get nl)),_,_,rfl,rfl,p,_,_,_,rfl,S5.pull p,by omega,by rw [List.length_map];omega,by rw [List.length_map];omega,fun r2 H6 b0 b1 S6=>?_⟩
   rw [List.length_map] at b1
   obtain ⟨k,rfl⟩:∃ k:Nat,r2=(k:Int):=⟨r2.toNat,by omega⟩
   have hk:k≤NS.length:=by omega
   refine ⟨_,rfl,_,rfl,_,rfl,nl,_,rfl,SqL.of (S6.get nl),fun cl hcl=>?_⟩
   generalize hE:upd H6 cl _=H7
   have S7:=S6.newE hcl hE
   clear hE
   rw [ZiY,← List.map_take] at S7
   refine ⟨cl,rfl,⟨_,SqL.of (S7.get cl)⟩,fun D hD=>?_⟩
   have S7':=(((((S7.pull cl).pull nl).pull Pp).pull Pl).pull st).pull p
   have hlk:((NS.take k).map V.str).length=k:=by rw [List.length_map,List.length_take];omega
   refine ZcL (K:=K) (xs:=(NS.take k).map V.str) (small (show _≤1000 by rw [hlk];omega)) (fun i ys H=>∃ (ts:List Addr) (kvs:Zu) (n:Nat),ys=ts.map V.ref∧ts.length=i∧kvs.map (·.1)=(NS.take k).take i∧(∀ q∈kvs,Ye q.2)∧Sep ((D,PLX kvs ts)::(p,Bx n)::(st,YA K C [.bare] [(Sum.inl 0,.bl true)])::(Pl,Xn)::(Pp,Uh)::(nl,Wn (NS.map V.str))::(cl,Wn ((NS.take k).map V.str))::[(a,ScR K ns)]) H∧n≤3100+100 * i) ?_ ?_ ?_ ?_
   · refine ⟨[],[],0+1+3000+1,rfl,rfl,rfl,(fun _ h=>nomatch h),?_,by decide⟩
     exact L2.Sep.im (S7'.new hD (.lst [])) fun g e _ im=>⟨e,rfl,fun i a q e1 e2=>by simp at e1⟩
   · rintro i ys H ⟨ts,kvs,n,rfl,hl,_,_,S',_⟩
     exact ⟨by rw [List.length_map];exact hl,SqL.of (S'.get cl)⟩
   · rintro i v ys H hv ⟨ts,kvs,n,rfl,hl,hkk,hkv,S',hn⟩
     obtain ⟨x,hx,rfl⟩:=ZaF hv
     have hi50:i < 50:=by have:=(List.getElem?_eq_some_iff.mp hx).1;rw [List.length_take] at this;omega
     refine ⟨_,rfl,_,rfl,p,n,_,rfl,S'.pull p,by omega,fun u H8 hu S8=>⟨(by show 2≤sizeLine;decide),fun t2 ht2=>?_⟩⟩
     have et2:(upd H8 t2 (.tup [.str x,u])) t2=some (.tup [.str (x,u).1,(x,u).2]):=Zg
     have S9:=(S8.new ht2 (.tup [.str x,u])).tail
     have S10:=S9.pull D
     refine ⟨(S10.get D).1,ts++[t2],kvs++[(x,u)],_,by rw [List.map_append];rfl,by rw [List.length_append,hl];rfl,?_,fun q hq=>?_,Zlz (q:=(x,u)) ((S10.pull p).pull D |> fun z=>((((((((z.pull a).pull cl).pull nl).pull Pp).pull Pl).pull st).pull p).pull D)) D et2,by omega⟩
     · rw [List.map_append,hkk,List.take_succ,hx];rfl
     · rcases List.mem_append.mp hq with z | z
       · exact hkv q z
       · rw [List.mem_singleton.mp z];exact hu
   rintro ys H8 ⟨ts,kvs,n,rfl,hl,hkk,hkv,S8,hn⟩
   rw [hlk] at hl hkk hn
   rw [List.take_of_length_le (by rw [List.length_take];omega)] at hkk
   obtain ⟨eD,hpt⟩:=S8.get D
   have hkl:kvs.length=k:=by rw [← hpt.1,hl]
   have htk:(NS.take k).Nodup:=hNd.sublist (List.take_sublist _ _)
   refine ⟨D,ts,kvs,rfl,eD,hpt.1,by omega,hpt.2,by rw [hkk];exact htk,fun hd hhd=>?_⟩
   generalize hE:upd H8 hd _=H9
   have S9:=((S8.newE hhd hE).drop D).drop cl
   clear hE
   have hok:HeldOk NS kvs:=⟨by rw [hkk];exact htk,fun q hq=>⟨List.mem_of_mem_take (by rw [← hkk];exact List.mem_map.mpr ⟨q,hq,rfl⟩),hkv q hq⟩⟩
   have hos:∀ x∈NS.drop k,x∈NS∧lk kvs x=none:=fun x hx=>⟨List.mem_of_mem_drop hx,UD fun q hq e=>by
     have h1:x∈NS.take k:=by rw [← hkk,← e];exact List.mem_map.mpr ⟨q,hq,rfl⟩
     have h2:=hNd
     rw [← List.take_append_drop k NS,List.nodup_append] at h2
     exact h2.2.2 x h1 x hx rfl⟩
   have hdl:(NS.drop k).length≤50:=by rw [List.length_drop];omega
   have gd0:Gd NS [.bare]:=⟨⟨rfl,fun i n e=>by
     cases i with
     | zero=>cases e;trivial
     | succ i=>simp at e⟩,fun i m ps e=>by
     cases i with
     | zero=>cases e
     | succ i=>simp at e⟩
   refine ⟨_,rfl,_,rfl,_,rfl,_,rfl,_,rfl,_,rfl,nl,_,rfl,SqL.of (S9.get nl),fun ol hol=>?_⟩
   generalize hE:upd H9 ol _=H10
   have S10:=S9.newE hol hE
   clear hE
   rw [Zez (by rw [List.length_map];exact hk),← List.map_drop] at S10
   refine ⟨NS,p,st,hd,ol,false,n,_,_,kvs,NS.drop k,_,rfl,N,hNl,hN,((((S10.pull ol).pull hd).pull Pl).pull st).pull p,hok,hos,hdl,gd0,rfl,by omega,by decide,by decide,fun H11 n1 nds1 tabs1 t1 q1 q2 q3 ex1 mo1 g1 b1 S11=>?_⟩
   have S11:=S11.drop ol
   refine ⟨_,rfl,_,rfl,_,rfl,_,rfl,_,rfl,_,rfl,nl,_,rfl,SqL.of (S11.get nl),fun ol2 hol2=>?_⟩
   generalize hE:upd H11 ol2 _=H12
   have S12:=S11.newE hol2 hE
   clear hE
   rw [Zez (by rw [List.length_map];exact hk),← List.map_drop] at S12
   have q2':nds1.length≤2001:=q2
   have q3':tabs1.length≤401:=q3
   refine ⟨NS,p,st,hd,ol2,true,n1,nds1,tabs1,kvs,NS.drop k,_,rfl,N,hNl,hN,((((S12.pull ol2).pull hd).pull Pl).pull st).pull p,hok,hos,hdl,g1,mo1 _ rfl,by omega,by omega,by omega,fun H13 n2 nds tabs t2 r1 r2 r3 ex2 mo2 g2 b2 S13=>?_⟩
   have S13:=S13.drop ol2
   have b1:=b1.more ex2 mo2
   have hsh:∀ n∈nds,ZfY n:=fun n hn=>by
     obtain ⟨i9,hi9⟩:=List.mem_iff_getElem?.mp hn
     exact (g2.1.2 _ _ hi9).sh N hN (by omega)
   obtain ⟨qs,hqp,hqs⟩:=Zgv kvs
   have due:=Zis hok hqp hqs
   have e1:WV nds 6 t1=VJ 6 0 qs:=Zbc N g2.1.1 g2.2 b1.tri b1.can (by decide) due
   have e2:WV nds 6 t2=VJ 6 0 qs:=Zbc N g2.1.1 g2.2 b2.tri b2.can (by decide) due
   have hqn:∀ p∈qs,Yx p.1∧Ye p.2:=fun p hq=>by
     have:=hok.2 p (hqp.mem_iff.mp hq)
     exact ⟨hN _ this.1,this.2⟩
   have hsm:=ZgV 6 0 qs (by rw [hqp.length_eq];omega) fun p hq=>⟨hqn p hq,by
     have:=hok.2 p (hqp.mem_iff.mp hq)
     have h1:=N.lo _ this.1
     have h2:=N.hi _ this.1
     exact Nat.le_trans (show (Zi p.1).natAbs≤1024 by omega) (by decide)⟩
   have hln:(VJ 6 0 qs).shown.length≤sizeLine:=Nat.le_trans hsm.ln (by decide)
   have hdp:(VJ 6 0 qs).depth≤60:=Nat.le_trans hsm.dp (by decide)
   refine ⟨_,rfl,_,rfl,NS,st,nds,tabs,lk kvs,0,0,t1,rfl,S13.get st,hsh,b1.tri,fun u1 H14 s14 hu1=>?_⟩
   have S14:=S13.mono s14
   rw [e1] at hu1
   refine ⟨_,_,rfl,hu1,hsm.sh,hln,hdp,?_⟩
   refine ⟨_,rfl,_,rfl,NS,st,nds,tabs,lk kvs,0,0,t2,rfl,S14.get st,hsh,b2.tri,fun u2 H15 s15 hu2=>?_⟩
   have S15:=S14.mono s15
   rw [e2] at hu2
   refine ⟨_,_,rfl,hu2,hsm.sh,hln,hdp,rfl,_,rfl,Yd (fun z=>?_) (fun _=>?_)⟩
   · rw [decide_eq_true rfl] at z;cases z
   have vl:VlF (lk kvs):=fun x u e=>VP (b1.val x u e)
   refine ⟨_,rfl,_,rfl,_,rfl,NS,⟨N,hNl⟩,st,nds,tabs,t1,t2,lk kvs,lk kvs,_,rfl,S15.pull st,b1.tk,b2.tk,b1.tri,b2.tri,vl,vl,fun tp fl ys H16 S16 _ _ hmem=>?_⟩
   have hys:ys=[]:=by
     cases ys with
     | nil=>rfl
     | cons y r=>exact absurd rfl ((hmem y).mp List.mem_cons_self).2
   subst hys
   refine ⟨tp,_,_,_,rfl,rfl,SqT.of (S16.get tp),rfl,(by show 0≤sizeLine;decide),fun ol3 hol3=>?_⟩
   generalize hE:upd H16 ol3 _=H17
   have S17:=S16.newE hol3 hE
   clear hE
   obtain ⟨da,w1,ea,w2,w3⟩:=XL (xs:=[]) (S17.get fl) fun y hy=>nomatch hy
   obtain ⟨db,y1,eb,y2,_⟩:=XL (xs:=[]) (S17.get ol3) fun y hy=>nomatch hy
   subst ea eb
   have S17:=((S17.drop ol3).drop tp).drop fl
   refine ⟨_,_,w1,y1,w2,y2,w3,_,rfl,Yd (fun z=>absurd z (by decide +kernel)) (fun _=>?_)⟩
   have ST17:=S17.get st
   obtain ⟨_,ln17,dt17,SA17⟩:=id ST17
   obtain ⟨dx17,ob17⟩:=SA17.ob
   refine ⟨_,rfl,st,dx17,_,rfl,ob17,ZC ln17 dt17,_,rfl,NS,st,nds,tabs,t2,lk kvs,_,N,rfl,(S17.pull Pp).pull st,b2.tk,b2.tri,fun fl2 H18 ps2 S18 hps2 hsr2=>?_⟩
   obtain ⟨ts6,el6,hpt6⟩:=S18.get fl2
   have hqv:∀ z∈ps2,z.1∈NS∧Ye z.2:=fun z hz=>hok.2 z ((UN hok hps2 z).mp hz)
   obtain ⟨v1,v2,v3,v4⟩:=Zbz el6 hpt6 (fun z h=>hN _ (hqv z h).1) (fun z h=>(hqv z h).2) (by have:=hps2.few;omega)
   refine ⟨_,_,rfl,v1,v2,v3,v4,?_⟩
   have edk:=S18.get hd
   refine ⟨_,rfl,.inr (.inr (.inl ⟨rfl,.inl ⟨_,edk⟩⟩)),hd,_,rfl,rfl,edk,fun v hv=>?_⟩
   have sv:=Zm hv (.ext (UB v hd))
   refine ⟨v,hd,kvs,rfl,Zg,sv _ _ edk,by omega,fun l ts' ps' H24 hl s24 hnd2 hp hs hpt _ el=>?_⟩
   have S24:=(S18.mono sv).mono s24
   have eq1:ps2=ps':=Zan hsr2 hs hps2.1 ((hp.map (·.1)).nodup_iff.mpr hnd2) fun z=>by rw [UN hok hps2 z];exact hp.mem_iff.symm
   subst eq1
   obtain ⟨u1,u2,u3,u4⟩:=Zbz el hpt (fun z h=>hN _ (hqv z h).1) (fun z h=>(hqv z h).2) (by have:=hps2.few;omega)
   refine ⟨_,_,rfl,u1,u2,u3,u4,rfl,_,rfl,Yd (fun z=>?_) (fun _=>?_)⟩
   · rw [decide_eq_true rfl] at z;cases z
   have S25:=S24.drop fl2
   have ST25:=S25.get st
   obtain ⟨_,ln25,dt25,SA25⟩:=id ST25
   obtain ⟨dx25,ob25⟩:=SA25.ob
   refine ⟨_,rfl,st,dx25,_,rfl,ob25,ZC ln25 dt25,_,rfl,NS,st,nds,tabs,t1,lk kvs,_,N,rfl,(S25.pull Pp).pull st,b1.tk,b1.tri,fun H26 ps3 S26 hps3=>?_⟩
   have hl3:ps3.length=k:=by
     have n1:ps3.Nodup:=(List.pairwise_map.mp hps3.1).imp fun h z=>h (by rw [z])
     have n2:kvs.Nodup:=(List.pairwise_map.mp hok.1).imp fun h z=>h (by rw [z])
     rw [((List.perm_ext_iff_of_nodup n1 n2).mpr fun z=>UN hok hps3 z).length_eq,hkl]
   rw [hl3]
   refine ⟨_,rfl,rfl,_,rfl,Yd (fun z=>?_) (fun _=>?_)⟩
   · rw [decide_eq_true rfl] at z;cases z
   have S27:=((((((S26.pull hd).pull nl).pull Pp).pull Pl).pull st).pull p)
   refine ⟨_,rfl,nl,rfl,⟨_,SqL.of (S27.get nl)⟩,?_⟩
   refine Zjl (K:=K) (xs:=NS.map V.str) (fun _ σ H'=>∃ x1 x9,σ=[some (.ref a),x1,some (.ref p),some (.ref st),some (.ref nl),some (.int (k:Int)),some (.ref hd),some (iN t1),some (iN t2),x9]∧Sep ((p,Bx n2)::(st,YA K C nds tabs)::(Pl,Xn)::(Pp,Uh)::(nl,Wn (NS.map V.str))::(hd,Dic (kvs.map kP))::[(a,ScR K ns)]) H') ⟨_,_,rfl,S27⟩ (fun i σ H' _ h=>?_) ?_ ?_
   · obtain ⟨_,_,_,S'⟩:=h;exact SqL.of (S'.get nl)
   · rintro j v σ H' hv ⟨y1,y9,rfl,S'⟩
     obtain ⟨x,hx,rfl⟩:=ZaF hv
     have hxN:=List.mem_of_getElem? hx
     have ST':=S'.get st
     obtain ⟨_,ln',dt',SA'⟩:=id ST'
     obtain ⟨dx',ob'⟩:=SA'.ob
     refine ⟨_,rfl,st,dx',_,rfl,ob',ZC ln' dt',_,rfl,_,rfl,NS,st,nds,tabs,t1,x,lk kvs,N,rfl,ST',b1.tk,b1.tri,hxN,fun rl H28 ws e _ s28 _ hw el=>?_⟩
     refine ⟨rl,_,rfl,.inl (SqL.of el),?_⟩
     have S28:=S'.mono s28
     have ST28:=S28.get st
     obtain ⟨_,ln28,dt28,SA28⟩:=id ST28
     obtain ⟨dx28,ob28⟩:=SA28.ob
     refine ⟨_,rfl,st,dx28,_,rfl,ob28,ZC ln28 dt28,_,rfl,_,rfl,NS,st,nds,tabs,t2,x,lk kvs,N,rfl,ST28,b2.tk,b2.tri,hxN,fun rl2 H29 ws2 ee2 _ s29 _ hw2 el2=>?_⟩
     have S29:=S28.mono s29
     have hlen:=ZkX N hxN g2.1.1 b1.tri b2.tri b1.can b2.can (by decide) (by rw [Nat.pow_zero,Nat.mod_one]) hw hw2
     refine ⟨rl2,_,rfl,.inl (SqL.of el2),?_⟩
     rw [List.length_map,List.length_map,hlen]
     refine ⟨rfl,_,rfl,Yd (fun z=>?_) (fun _=>?_)⟩
     · rw [decide_eq_true rfl] at z;cases z
     exact ⟨_,_,rfl,S29⟩
   · rintro σ H' ⟨y1,y9,rfl,S'⟩
     exact ⟨_,_,_,_,_,_,_,_,_,rfl,(((S'.drop p).drop st).drop nl).drop hd⟩
 · rintro σ H1 ⟨x1,x2,x3,x4,x5,x6,x7,x8,x9,rfl,S1⟩
   exact q H1
end
end K14
namespace L2
open PySem
structure FG (K:KF)(x:Str)(st:Stmt)(f:Addr)(fd:FuncData):Prop where
 a:PySem.W.nsIn K mainGlobals x=some (some (.ref f))
 F:Fun K x x st f fd
structure FM (K:KF)(C:Addr)(x q:Str)(st:Stmt)(f:Addr)(fd:FuncData):Prop where
 m:Vs K C x f
 F:Fun K x q st f fd
structure FGC (K:KF)(x:Str)(st:Stmt)(f:Addr)(fd:FuncData)(c Pl:Addr):Prop where
 a:PySem.W.nsIn K mainGlobals x=some (some (.ref f))
 F:FunC K x x st f fd c Pl
structure FMC (K:KF)(C:Addr)(x q:Str)(st:Stmt)(f:Addr)(fd:FuncData)(c Pl:Addr):Prop where
 m:Vs K C x f
 F:FunC K x q st f fd c Pl
structure CH (K:KF)(x:Str)(C:Addr):Prop where
 a:PySem.W.nsIn K mainGlobals x=some (some (.ref C))
 c:Cls K C
 ms:PySem.W.makesIn K C=true
 kp:PySem.W.keepIn K (.ref C)=true
structure Bs (P:Program)(w:World)(K:KF)(mg:Str→Option Value)(base h:Heap):Prop where
 X:K.In h
 G:h.Ns mainGlobals mg
section
variable {P:Program}{w:World}{K:KF}{mg:Str→Option Value}{base h:Heap}{x q:Str}{st:Stmt}{f c Pl C:Addr}{fd:FuncData}{k:Nat}{ps:List Str}{sp:Sp}{p1 p2 p3 p4 p5:Str}
theorem FG.df (g:FG K x st f fd)(e:Bs P w K mg base h)(o:FnOk P w K mg base ZK k f fd ps sp)(b:Binds K fd ps []):Def P w K mg base k x ps sp:=⟨f,fd,o,b,g.F.kp,PySem.W.mg_of e.X e.G g.a⟩
theorem FGC.df (g:FGC K x st f fd c Pl)(e:Bs P w K mg base h)(o:FnOk P w K mg base ZK k f fd ps sp)(b:Binds K fd ps []):Def P w K mg base k x ps sp:=⟨f,fd,o,b,g.F.kp,PySem.W.mg_of e.X e.G g.a⟩
theorem FM.df (g:FM K C x q st f fd)(_:Bs P w K mg base h)(o:FnOk P w K mg base ZK k f fd ps sp)(b:Binds K fd ps []):DefM P w K mg base k C x ps sp:=⟨f,fd,o,b,g.m⟩
theorem FM.di {y:Str}(g:FM K C "__init__" q st f fd)(ch:CH K y C)(e:Bs P w K mg base h)(o:FnOk P w K mg base ZK k f fd ps sp)(b:Binds K fd ps []):Ziy P w K mg base k C y ps sp:=⟨f,fd,o,b,⟨ch.ms,g.m.at_,g.m.fn,ch.kp⟩,PySem.W.mg_of e.X e.G ch.a⟩
abbrev BA (x q:Str)(st:Stmt)(us:List Value)(r:List (Str×Value)):Prop:=∀(kV doc pm:Value)(an:Option Addr)(cdv ct:Value),bindArgs (PySem.W.fnOf x q (VX st) (Xu st) (Zn st) .none kV doc pm an cdv ct) ⟨us,[]⟩=pure r
theorem Fun.b1 (F:Fun K x q st f fd)(h:∀ u,BA x q st [u] [(p1,u)]):Binds K fd [p1] []:=F.binds fun a b c d e g us hl=>match us,hl with | [u],_=>h u a b c d e g
theorem Fun.b2 (F:Fun K x q st f fd)(h:∀ u v,BA x q st [u,v] [(p1,u),(p2,v)]):Binds K fd [p1,p2] []:=F.binds fun a b c d e g us hl=>match us,hl with | [u,v],_=>h u v a b c d e g
theorem Fun.b3 (F:Fun K x q st f fd)(h:∀ u v y,BA x q st [u,v,y] [(p1,u),(p2,v),(p3,y)]):Binds K fd [p1,p2,p3] []:=F.binds fun a b c d e g us hl=>match us,hl with | [u,v,y],_=>h u v y a b c d e g
theorem Fun.b4 (F:Fun K x q st f fd)(h:∀ u v y z,BA x q st [u,v,y,z] [(p1,u),(p2,v),(p3,y),(p4,z)]):Binds K fd [p1,p2,p3,p4] []:=F.binds fun a b c d e g us hl=>match us,hl with | [u,v,y,z],_=>h u v y z a b c d e g
theorem Fun.b5 (F:Fun K x q st f fd)(h:∀ u v y z z',BA x q st [u,v,y,z,z'] [(p1,u),(p2,v),(p3,y),(p4,z),(p5,z')]):Binds K fd [p1,p2,p3,p4,p5] []:=F.binds fun a b c d e g us hl=>match us,hl with | [u,v,y,z,z'],_=>h u v y z z' a b c d e g
theorem Zgp (F:Fun K x q st f fd)(h:∀ u,BA x q st [u] [(p1,u)])(s:Shared)(v:Value):BindsTo s fd ⟨[v],[]⟩ [(p1,v)]:=by
 obtain ⟨oc,od,kV,doc,pm,an,cdv,ct,osl,rfl,lk,hcd⟩:=F.ex
 exact .of_eq (h v kV doc pm an cdv ct)
end
end L2
set_option maxHeartbeats 4000000
namespace K14
open PySem L2
open PySem.W in
theorem all_mk {l:PySem.W.OpenLaw}{w:World}{K:KF}{h:Heap}{mg:Str→Option Value}{fa:Addr}
   {f_z0 f_z1 f_z2 f_z3 f_z4 f_z5 f_z6 f_z7 f_z8 f_z9 f_z10 f_z11 f_z12 f_z13 f_z14 f_z15 f_z16 f_z17 f_z18 f_z19 f_z20 f_z21 f_z22 f_z23 f_z24 f_z25 f_z26 f_z27 f_z28 f_z29 f_z30 f_z31 f_z32 f_z33 f_z34 C_Store ca_z3 ca_z20 P_z3 P_z20:Addr} {d_z0 d_z1 d_z2 d_z3 d_z4 d_z5 d_z6 d_z7 d_z8 d_z9 d_z10 d_z11 d_z12 d_z13 d_z14 d_z15 d_z16 d_z17 d_z18 d_z19 d_z20 d_z21 d_z22 d_z23 d_z24 d_z25 d_z26 d_z27 d_z28 d_z29 d_z30 d_z31 d_z32 d_z33 d_z34:FuncData} (X:K.In h) (G:h.Ns mainGlobals mg) (hfa:mg "law"=some (.ref fa))
   (ch_Store:CH K "Store" C_Store)
   (na_Store_nodes:PySem.W.findIn K (.ref C_Store) "nodes"=some none)
   (na_Store_tables:PySem.W.findIn K (.ref C_Store) "tables"=some none)
   (h_z0:FG K "alike" s_alike f_z0 d_z0)
   (h_z1:FG K "mark" s_mark f_z1 d_z1)
   (h_z2:FG K "digit" s_digit f_z2 d_z2)
   (h_z3:FGC K "leaf_of" s_leaf_of f_z3 d_z3 ca_z3 P_z3)
   (h_z4:FG K "fork_of" s_fork_of f_z4 d_z4)
   (h_z5:FG K "parts_in" s_parts_in f_z5 d_z5)
   (h_z6:FG K "pairs_in" s_pairs_in f_z6 d_z6)
   (h_z7:FG K "has_mark" s_has_mark f_z7 d_z7)
   (h_z8:FM K C_Store "__init__" "Store.__init__" c_Store___init__ f_z8 d_z8)
   (h_z9:FM K C_Store "check_table" "Store.check_table" c_Store_check_table f_z9 d_z9)
   (h_z10:FM K C_Store "keep" "Store.keep" c_Store_keep f_z10 d_z10)
   (h_z11:FM K C_Store "as_table" "Store.as_table" c_Store_as_table f_z11 d_z11)
   (h_z12:FM K C_Store "way" "Store.way" c_Store_way f_z12 d_z12)
   (h_z13:FM K C_Store "looked" "Store.looked" c_Store_looked f_z13 d_z13)
   (h_z14:FM K C_Store "fork_parts" "Store.fork_parts" c_Store_fork_parts f_z14 d_z14)
   (h_z15:FM K C_Store "put_in" "Store.put_in" c_Store_put_in f_z15 d_z15)
   (h_z16:FM K C_Store "put" "Store.put" c_Store_put f_z16 d_z16)
   (h_z17:FM K C_Store "taken_from" "Store.taken_from" c_Store_taken_from f_z17 d_z17)
   (h_z18:FM K C_Store "without" "Store.without" c_Store_without f_z18 d_z18)
   (h_z19:FM K C_Store "pairs_below" "Store.pairs_below" c_Store_pairs_below f_z19 d_z19)
   (h_z20:FMC K C_Store "pairs" "Store.pairs" c_Store_pairs f_z20 d_z20 ca_z20 P_z20)
   (h_z21:FM K C_Store "many" "Store.many" c_Store_many f_z21 d_z21)
   (h_z22:FM K C_Store "node" "Store.node" c_Store_node f_z22 d_z22)
   (h_z23:FG K "_law_cell_at" s_l_cell_at f_z23 d_z23)
   (h_z24:FG K "_law_box" s_l_box f_z24 d_z24)
   (h_z25:FG K "_law_take" s_l_take f_z25 d_z25)
   (h_z26:FG K "_law_of_mark" s_l_of_mark f_z26 d_z26)
   (h_z27:FG K "_law_names" s_l_names f_z27 d_z27)
   (h_z28:FG K "_law_value" s_l_value f_z28 d_z28)
   (h_z29:FG K "unlike_names" s_unlike_names f_z29 d_z29)
   (h_z30:FG K "compare" s_compare f_z30 d_z30)
   (h_z31:FG K "differing" s_differing f_z31 d_z31)
   (h_z32:FG K "_law_tree" s_l_tree f_z32 d_z32)
   (h_z33:FG K "_law_by" s_l_by f_z33 d_z33)
   (h_z34:FG K "law" s_law f_z34 d_z34)
   (z_len:PySem.W.nsIn K mainGlobals "len"=some none)
   (z_abs:PySem.W.nsIn K mainGlobals "abs"=some none)
   (z_int:PySem.W.nsIn K mainGlobals "int"=some none)
   (z_range:PySem.W.nsIn K mainGlobals "range"=some none)
   (z_min:PySem.W.nsIn K mainGlobals "min"=some none)
   (z_max:PySem.W.nsIn K mainGlobals "max"=some none)
   (z_repr:PySem.W.nsIn K mainGlobals "repr"=some none)
   (z_enumerate:PySem.W.nsIn K mainGlobals "enumerate"=some none)
   (z_ord:PySem.W.nsIn K mainGlobals "ord"=some none)
   (z_list:PySem.W.nsIn K mainGlobals "list"=some none)
   (z_tuple:PySem.W.nsIn K mainGlobals "tuple"=some none)
   (z_dict:PySem.W.nsIn K mainGlobals "dict"=some none)
   (z_sorted:PySem.W.nsIn K mainGlobals "sorted"=some none)
   (z_sum:PySem.W.nsIn K mainGlobals "sum"=some none)
   (z_all:PySem.W.nsIn K mainGlobals "all"=some none)
   (z_any:PySem.W.nsIn K mainGlobals "any"=some none)
   (z_divmod:PySem.W.nsIn K mainGlobals "divmod"=some none)
   (z_str:PySem.W.nsIn K mainGlobals "str"=some none)
   (z_isinstance:PySem.W.nsIn K mainGlobals "isinstance"=some none)
   (z_set:PySem.W.nsIn K mainGlobals "set"=some none)
   (z_zip:PySem.W.nsIn K mainGlobals "zip"=some none)
   (z_reversed:PySem.W.nsIn K mainGlobals "reversed"=some none)
   (z_bool:PySem.W.nsIn K mainGlobals "bool"=some none)
   {tb:Tok}
   (gBASE:PySem.W.nsIn K mainGlobals "BASE"=some (some (.int 4 tb)))
   {tz:Tok}
   (gZERO:PySem.W.nsIn K mainGlobals "BARE_NUMBER"=some (some (.int 0 tz)))
   {ab:Addr}
   (gBARE:PySem.W.nsIn K mainGlobals "BARE"=some (some (.ref ab)))
   (tBARE:Zda K ab [.str "bare"]=true)
   {af:Addr}
   (gFIG:PySem.W.nsIn K mainGlobals "FIGURES"=some (some (.ref af)))
   (tFIG:Zda K af [.int 0,.int 1,.int 2,.int 3]=true) :
   ∃ fd:FuncData,(∀ (s:Shared) (v:Value),BindsTo s fd ⟨[v],[]⟩ [("_law_script",v)])∧∀ base:Heap,K.In base→base.Ns mainGlobals mg→Um base mg→FnOk l.prog w K mg base ZK 16 fa fd ["_law_script"] (ZcV K P_z3 P_z20):=by
 have e:=hfa.symm.trans (mg_of X G h_z34.a)
 cases e
 have n_len:=mg_none_of X G z_len
 have n_abs:=mg_none_of X G z_abs
 have n_int:=mg_none_of X G z_int
 have n_range:=mg_none_of X G z_range
 have n_min:=mg_none_of X G z_min
 have n_max:=mg_none_of X G z_max
 have n_repr:=mg_none_of X G z_repr
 have n_enumerate:=mg_none_of X G z_enumerate
 have n_ord:=mg_none_of X G z_ord
 have n_list:=mg_none_of X G z_list
 have n_tuple:=mg_none_of X G z_tuple
 have n_dict:=mg_none_of X G z_dict
 have n_sorted:=mg_none_of X G z_sorted
 have n_sum:=mg_none_of X G z_sum
 have n_all:=mg_none_of X G z_all
 have n_any:=mg_none_of X G z_any
 have n_divmod:=mg_none_of X G z_divmod
 have n_str:=mg_none_of X G z_str
 have n_isinstance:=mg_none_of X G z_isinstance
 have n_set:=mg_none_of X G z_set
 have n_zip:=mg_none_of X G z_zip
 have n_reversed:=mg_none_of X G z_reversed
 have n_bool:=mg_none_of X G z_bool
 have g_gBASE:=mg_of X G gBASE
 have g_gZERO:=mg_of X G gZERO
 have g_gBARE:=mg_of X G gBARE
 have g_gFIG:=mg_of X G gFIG
 have cl_Store:=ch_Store.c
 have TB:Ws mg:=⟨n_len,n_abs,n_int,n_range,n_min,n_max,n_repr,n_enumerate,n_ord,n_list,n_tuple,n_dict,n_sorted,n_sum,n_all,n_any,n_divmod,n_str,n_isinstance,n_set,n_zip,n_reversed,n_bool⟩
 have T:Txt K mg:=⟨TB,⟨_,g_gBASE⟩,⟨_,g_gZERO⟩,⟨_,g_gBARE,Zei tBARE⟩,⟨_,g_gFIG,Zei tFIG⟩⟩
 have TC:Yv K C_Store:=⟨cl_Store,na_Store_nodes,na_Store_tables⟩
 refine ⟨d_z34,fun s v=>Zgp h_z34.F (fun _ _ _ _ _ _ _=>rfl) s v,fun base _ _ hBm=>?_⟩
 have e:Bs l.prog w K mg base h:=⟨X,G⟩
 have D_z0:=h_z0.df e (Zjc h_z0.F) (h_z0.F.b2 fun _ _ _ _ _ _ _ _=>rfl)
 have D_z1:=h_z1.df e (Zkb h_z1.F T) (h_z1.F.b1 fun _ _ _ _ _ _ _=>rfl)
 have D_z2:=h_z2.df e (Zii h_z2.F T) (h_z2.F.b2 fun _ _ _ _ _ _ _ _=>rfl)
 have D_z3:=h_z3.df e (ZkF h_z3.F T hBm D_z1) (h_z3.F.fn.b1 fun _ _ _ _ _ _ _=>rfl)
 have D_z4:=h_z4.df e (Zhg h_z4.F T) (h_z4.F.b1 fun _ _ _ _ _ _ _=>rfl)
 have D_z5:=h_z5.df e (Zip h_z5.F) (h_z5.F.b1 fun _ _ _ _ _ _ _=>rfl)
 have D_z6:=h_z6.df e (ZiT h_z6.F) (h_z6.F.b1 fun _ _ _ _ _ _ _=>rfl)
 have D_z7:=h_z7.df e (Zkt h_z7.F) (h_z7.F.b2 fun _ _ _ _ _ _ _ _=>rfl)
 have D_z8:=h_z8.di ch_Store e ((FnOk.conv (sp':=ZbR K C_Store) (Zkm h_z8.F T TC) (fun _ _ _ _ h=>Zmn h)).mono (show 1≤14 by decide)) (h_z8.F.b1 fun _ _ _ _ _ _ _=>rfl)
 have D_z9:=h_z9.df e (Zji h_z9.F TC) (h_z9.F.b2 fun _ _ _ _ _ _ _ _=>rfl)
 have D_z10:=h_z10.df e (Zki h_z10.F T TC) (h_z10.F.b2 fun _ _ _ _ _ _ _ _=>rfl)
 have D_z11:=h_z11.df e (ZlS h_z11.F TC) (h_z11.F.b2 fun _ _ _ _ _ _ _ _=>rfl)
 have b_z12:Binds K d_z12 ["self","table","name"] []:=h_z12.F.b3 fun _ _ _ _ _ _ _ _ _=>rfl
 have D_z12:DefM l.prog w K mg base 2 C_Store "way" ["self","table","name"] (Zdb K C_Store):=⟨_,_,ZhM h_z12.F T TC D_z9 D_z5 D_z1 D_z2,b_z12,h_z12.m⟩
 have D_Store_wayS:DefM l.prog w K mg base 2 C_Store "way" ["self","table","name"] (ZdS K C_Store):=⟨_,_,(ZhM h_z12.F T TC D_z9 D_z5 D_z1 D_z2).conv fun _ _ _ _ h=>ZmM h,b_z12,h_z12.m⟩
 have b_z13:Binds K d_z13 ["self","table","name"] []:=h_z13.F.b3 fun _ _ _ _ _ _ _ _ _=>rfl
 have D_z13:DefM l.prog w K mg base 3 C_Store "looked" ["self","table","name"] (WK K C_Store):=⟨_,_,ZcF h_z13.F T TC D_z12 D_z6,b_z13,h_z13.m⟩
 have D_Store_lookS:DefM l.prog w K mg base 3 C_Store "looked" ["self","table","name"] (ZeA K C_Store):=⟨_,_,ZlI (ZcF h_z13.F T TC D_z12 D_z6),b_z13,h_z13.m⟩
 have D_z14:=h_z14.df e (ZmL h_z14.F T TC D_z5 D_z6 D_z1 D_z2) (h_z14.F.b3 fun _ _ _ _ _ _ _ _ _=>rfl)
 have b_z15:Binds K d_z15 ["self","number","level","name","value"] []:=h_z15.F.b5 fun _ _ _ _ _ _ _ _ _ _ _=>rfl
 have D_z15:∀ NS,ZN NS→DefM l.prog w K mg base 8 C_Store "put_in" nPi (Vo K C_Store P_z3 NS 6):=fun NS N=>⟨_,_,ZeP N h_z15.F T TC D_z7 D_z6 D_z1 D_z2 D_z3 D_z4 D_z10 D_z14 b_z15 h_z15.m 6,b_z15,h_z15.m⟩
 have b_z16:Binds K d_z16 ["self","table","name","value"] []:=h_z16.F.b4 fun _ _ _ _ _ _ _ _ _ _=>rfl
 have D_z16:DefM l.prog w K mg base 9 C_Store "put" ["self","table","name","value"] (ZdR K C_Store P_z3):=⟨_,_,ZjH fun NS N=>ZgN N h_z16.F TC D_z0 D_z13 D_z11 (D_z15 NS N),b_z16,h_z16.m⟩
 have b_z17:Binds K d_z17 ["self","number","level","name"] []:=h_z17.F.b4 fun _ _ _ _ _ _ _ _ _ _=>rfl
 have D_z17:∀ NS,ZN NS→DefM l.prog w K mg base 8 C_Store "taken_from" nTk (Zbd K C_Store P_z3 NS 6):=fun NS N=>⟨_,_,Zfk N h_z17.F T TC D_z7 D_z5 D_z6 D_z1 D_z2 D_z3 D_z4 D_z10 b_z17 h_z17.m 6,b_z17,h_z17.m⟩
 have b_z18:Binds K d_z18 ["self","table","name"] []:=h_z18.F.b3 fun _ _ _ _ _ _ _ _ _=>rfl
 have D_z18:DefM l.prog w K mg base 9 C_Store "without" ["self","table","name"] (ZfE K C_Store P_z3):=⟨_,_,wo_S fun NS N=>ZjF N h_z18.F TC D_z13 D_z11 (D_z17 NS N),b_z18,h_z18.m⟩
 have b_z19:Binds K d_z19 ["self","number"] []:=h_z19.F.b2 fun _ _ _ _ _ _ _ _=>rfl
 have D_z19:∀ NS,ZN NS→DefM l.prog w K mg base 7 C_Store "pairs_below" UQ (ZaE K C_Store NS 6):=fun NS N=>⟨_,_,ZgS N h_z19.F T TC D_z6 D_z5 b_z19 h_z19.m 6,b_z19,h_z19.m⟩
 have b_z20:Binds K d_z20 ["self","table"] []:=h_z20.F.fn.b2 fun _ _ _ _ _ _ _ _=>rfl
 have D_Store_pairsM:∀ NS,ZN NS→DefM l.prog w K mg base 8 C_Store "pairs" ZbV (UV K C_Store P_z20 NS):=fun NS N=>⟨_,_,ZcC N h_z20.F T TC hBm (D_z9.mono (by decide)) (D_z19 NS N),b_z20,h_z20.m⟩
 have D_z20:DefM l.prog w K mg base 8 C_Store "pairs" ZbV (ZaB K C_Store P_z20):=⟨_,_,Zkv fun NS N=>ZcC N h_z20.F T TC hBm (D_z9.mono (by decide)) (D_z19 NS N),b_z20,h_z20.m⟩
 have b_z21:Binds K d_z21 ["self","table"] []:=h_z21.F.b2 fun _ _ _ _ _ _ _ _=>rfl
 have D_z21:DefM l.prog w K mg base 9 C_Store "many" Zft (Zcj K C_Store P_z20):=⟨_,_,Zlj fun NS N=>ZhZ h_z21.F T TC (D_Store_pairsM NS N),b_z21,h_z21.m⟩
 have b_z22:Binds K d_z22 ["self","number"] []:=h_z22.F.b2 fun _ _ _ _ _ _ _ _=>rfl
 have D_z22:DefM l.prog w K mg base 1 C_Store "node" ["self","number"] (WC K C_Store):=⟨_,_,(Zkp h_z22.F T TC).conv fun _ _ _ _ h=>ZlC h,b_z22,h_z22.m⟩
 have D_z23:=h_z23.df e (Zka h_z23.F TB) (h_z23.F.b2 fun _ _ _ _ _ _ _ _=>rfl)
 have D_z24:=h_z24.df e (FnOk.conv (sp':=ZdZ K) (Zlt h_z24.F TB D_z23) (fun _ _ _ _ h=>ZmS h)) (h_z24.F.b2 fun _ _ _ _ _ _ _ _=>rfl)
 have b_z25:Binds K d_z25 ["_law_box_here","_law_many"] []:=h_z25.F.b2 fun _ _ _ _ _ _ _ _=>rfl
 have DT0:ZcZ l.prog w K mg base:=⟨_,_,Zky h_z25.F,b_z25,h_z25.F.kp,(mg_of X G h_z25.a)⟩
 have D_z25:DTk l.prog w K mg base 1:=DT0.conv fun _ _ _ _ h=>Zlh h
 have D_z26:=h_z26.df e (ZmD h_z26.F T DT0) (h_z26.F.b2 fun _ _ _ _ _ _ _ _=>rfl)
 have D_z27:=h_z27.df e (FnOk.conv (sp':=ZaA) (Zjk h_z27.F T DT0 D_z26) (fun _ _ _ _ h=>ZkP h)) (h_z27.F.b2 fun _ _ _ _ _ _ _ _=>rfl)
 have D_z28:=h_z28.df e (FnOk.conv (sp':=UW) (Zix h_z28.F T DT0) (fun _ _ _ _ h=>Zkh h)) (h_z28.F.b1 fun _ _ _ _ _ _ _=>rfl)
 have D_z29:=h_z29.df e (Zld h_z29.F TB D_z0) (h_z29.F.b2 fun _ _ _ _ _ _ _ _=>rfl)
 have b_z30:Binds K d_z30 ["store","one","other","names"] []:=h_z30.F.b4 fun _ _ _ _ _ _ _ _ _ _=>rfl
 have D_z30:∀ NS,(ZN NS∧NS.length≤50)→Def l.prog w K mg base 14 "compare" ZaM (Zbw K C_Store NS 6):=fun NS h=>⟨_,_,Zfb h.1 h.2 h_z30.F TB TC D_z5 D_z29 D_z22 (D_z19 NS h.1) b_z30 h_z30.F.kp (mg_of X G h_z30.a) 6,b_z30,h_z30.F.kp,(mg_of X G h_z30.a)⟩
 have b_z31:Binds K d_z31 ["store","one","other"] []:=h_z31.F.b3 fun _ _ _ _ _ _ _ _ _=>rfl
 have D_z31:Def l.prog w K mg base 15 "differing" ZfR (ZjA K C_Store):=⟨_,_,FnOk.ex (ok:=fun NS=>ZN NS∧NS.length≤50) fun NS h=>ZlN h.1 h.2 h_z31.F TB TC (D_z9.mono (by decide)) (D_z30 NS h),b_z31,h_z31.F.kp,(mg_of X G h_z31.a)⟩
 have b_z32:Binds K d_z32 ["_law_store","_law_number"] []:=h_z32.F.b2 fun _ _ _ _ _ _ _ _=>rfl
 have D_z32:Def l.prog w K mg base 8 "_law_tree" ZaI (Vw K C_Store 6):=⟨_,_,ZdT (j:=1) h_z32.F TB TC D_z22 b_z32 h_z32.F.kp (mg_of X G h_z32.a) 6,b_z32,h_z32.F.kp,(mg_of X G h_z32.a)⟩
 have b_z33:Binds K d_z33 ["_law_box_here","_law_store","_law_held","_law_others","_law_detours"] []:=h_z33.F.b5 fun _ _ _ _ _ _ _ _ _ _ _=>rfl
 have D_putT:DefM l.prog w K mg base 9 C_Store "put" ["self","table","name","value"] (Zeg K C_Store P_z3):=⟨_,_,(ZjH fun NS N=>ZgN N h_z16.F TC D_z0 D_z13 D_z11 (D_z15 NS N)).conv fun _ _ _ _ h=>Zmv h,b_z16,h_z16.m⟩
 have D_woT:DefM l.prog w K mg base 9 C_Store "without" ["self","table","name"] (ZfH K C_Store P_z3):=⟨_,_,(wo_S fun NS N=>ZjF N h_z18.F TC D_z13 D_z11 (D_z17 NS N)).conv fun _ _ _ _ h=>wo_T h,b_z18,h_z18.m⟩
 have D_z33:Def l.prog w K mg base 10 "_law_by" ZfF (Ziw K C_Store P_z3):=⟨_,_,Zms h_z33.F TB TC D_z25 (D_z28.mono (by decide)) D_putT D_woT,b_z33,h_z33.F.kp,(mg_of X G h_z33.a)⟩
 exact ZlY h_z34.F TB TC (D_z24.mono (by decide)) D_z25 (D_z27.mono (by decide)) (D_z28.mono (by decide)) (D_z33.mono (by decide)) (D_z32.mono (by decide)) D_z31 D_z8 (D_z20.mono (by decide)) (D_z21.mono (by decide)) (D_Store_wayS.mono (by decide))
theorem walk {l:PySem.W.OpenLaw}{q:Program}{loose:List Str}{XP:(Str→Option Value)→Heap→Prop}{YP:World→Heap→Prop}{d:DefRec}{K:Params→PySem.W.Frag}{ts:List Addr}{P_z3 P_z20:Addr}(hn:l.most=some 63)(hdf:d.params.defaults=[])
   (hY:∀ (w:World) (h:Heap),YP w h→(K w.params).In h∧∀ b∈ts,h.get? b=some (PySem.W.tabObj #[]))
   (hK:∀ (w:World) (b:Addr),b∈ts→(K w.params).lookup b=none∧∃ c,PySem.W.codeHdIn (K w.params) c b=true)
   (hP_leaf_of:P_z3∈ts) (hP_Store_pairs:P_z20∈ts) (hne:P_z3≠P_z20) (F:∀ (w:World) (mg:Str→Option Value) (fa:Addr) (h:Heap),(K w.params).In h→h.Ns mainGlobals mg→mg d.name=some (.ref fa) →
     ∃ fd:FuncData,(∀ (s:Shared) (u:Value),BindsTo s fd ⟨[u],[]⟩ [("_law_script",u)])∧∀ base:Heap,(K w.params).In base→base.Ns mainGlobals mg→Um base mg→FnOk l.prog w (K w.params) mg base ZK 16 fa fd ["_law_script"] (ZcV (K w.params) P_z3 P_z20)) :
   PySem.W.WalkO q loose XP YP l.row.toRowW d [] (fun f vs=>PySem.call f vs) :=
 L2.walk_ofT (n:=63) (k:=16) (x:="_law_script") (CX:=fun _=>ZK) (sp:=fun w=>ZcV (K w.params) P_z3 P_z20) (ts:=ts) hn (by decide) hdf ⟨rfl,by decide,by decide,rfl⟩ hY hK F (fun w H a ns hl hO hS hT=>⟨a,ns,rfl,hS,hl,.inl (hT _ hP_leaf_of),.inl (hT _ hP_Store_pairs),hne,fun _=>rfl⟩) fun _ _ _ _ _ z=>z
end K14
namespace PySem.W.Fast
def tw6810516024065296294 := 0
def tw4483936070964565663 := 0
def tw15546318025867246880 := 0
def tw4798112718604982575 := 0
def tw5193449430230594234 := 0
def tw9301079008574774439 := 0
def tw14543166206070560473 := 0
def tw6831287431156108906 := 0
def tw4427462689664774570 := 0
def tw17906318833040221358 := 0
def tw11900139362030465822 := 0
def tw6963338046640477615 := 0
def tw17225921158583046821 := 0
def tw1918700552491951670 := 0
def tw555487610150833176 := 0
def tw16894953614727832067 := 0
def tw17878307806898868126 := 0
def tw3061798131953550301 := 0
def tw5474880745342612951 := 0
def tw5281925333049349603 := 0
def tw17008992295508908853 := 0
def tw12953754617537443482 := 0
def tw8556064089726328125 := 0
def tw4709936899514557894 := 0
def tw4860206912257382154 := 0
def tw6913574022622501028 := 0
def tw4719409306958734238 := 0
def tw1149710285610889313 := 0
def tw13884631986535452570 := 0
def tw13510559402166458213 := 0
def tw1139612684496637915 := 0
def tw762650567900953962 := 0
def tw15263995390128473941 := 0
def tw6140366788256866728 := 0
def tw2919032532710405406 := 0
def tw1388247181956865061 := 0
def tw6030483976070641544 := 0
def tw15773670193108260549 := 0
def tw9335578286804601097 := 0
def tw15972228154863777631 := 0
def tw5053284428516340486 := 0
def tw8450155266565809203 := 0
def tw10350899833480369571 := 0
def tw1950634722425342458 := 0
def tw13687968960018641449 := 0
def tw2101564718533906056 := 0
def tw12984826300109313739 := 0
def tw15263766890135064392 := 0
def tw2422978276061658913 := 0
def tw8668352370819017784 := 0
def tw13634855784511648723 := 0
def tw208464634357748616 := 0
def tw3494364829065689539 := 0
def tw16441923121586518867 := 0
def tw11541841506077425981 := 0
def tw8308559118776360244 := 0
def tw18048533678862854605 := 0
def tw12278153539246484394 := 0
def tw707476937229542222 := 0
def tw15075260439072290543 := 0
def tw9685204302739253870 := 0
def tw12916371395022394652 := 0
def tw7618392532192829792 := 0
def tw6033745363599758730 := 0
def tw1321187208102257154 := 0
def tw8321769277094701749 := 0
def tw9978916030028392640 := 0
def tw2344689261820843530 := 0
def tw12608609325037447404 := 0
def tw2233776722758194299 := 0
def tw9828944894591233339 := 0
def tw13253956192025161679 := 0
def tw12294367539688849040 := 0
def tw3533740720785336969 := 0
def tw14419598716328336138 := 0
def tw8047254708540034210 := 0
def tw4752599936510480490 := 0
def tw13559170506188843007 := 0
def tw11410208475709384722 := 0
def tw13167581559660319682 := 0
def tw266940392923158896 := 0
def tw5820618068727594723 := 0
def tw7074235142445982410 := 0
def tw6371765401882913651 := 0
def tw10924330583679612191 := 0
def tw8267113186368173658 := 0
def tw7472970302913544895 := 0
def tw14294340760063838200 := 0
def tw17575324505647882963 := 0
def tw9892934513267286391 := 0
def tw5858530795566994526 := 0
def tw11234230413656741159 := 0
def tw16274693634772514877 := 0
def tw17709582897335364596 := 0
def tw6576715736287068297 := 0
def tw714287704306179978 := 0
def tw7338365332029348804 := 0
def tw9233462959426121331 := 0
def tw1513122537264604846 := 0
def tw15366686331884389880 := 0
def tw16823955676863370480 := 0
def tw11892730392883843257 := 0
def tw14412514518742668307 := 0
def tw3092916719079857166 := 0
def tw7792622563679254681 := 0
def tw2503682466181314621 := 0
def tw4216318379414929611 := 0
def tw5310281910739248626 := 0
def tw16505745212980624551 := 0
def tw3812928943553928411 := 0
def tw8524444591075783589 := 0
def tw2245353141250463401 := 0
def tw5468267935264013230 := 0
def tw5427293647418805946 := 0
def tw12746112903415383944 := 0
def tw4375983907576386707 := 0
def tw14085455241941130299 := 0
def tw573728117555886045 := 0
def tw10208342367355316996 := 0
def tw5136821792253473582 := 0
def tw3573180901536309396 := 0
def tw13553432717492535141 := 0
def tw12328955261504446647 := 0
def tw10981110802958094466 := 0
def tw13732800808014748677 := 0
def tw13243339703474904501 := 0
def tw6435862544079989711 := 0
def tw6627009375604105547 := 0
def tw3087003806242639940 := 0
def tw9962413044569237567 := 0
def tw6424057776013509197 := 0
def tw1668380643360478340 := 0
def tw6385450226198514859 := 0
def tw17924512258661892862 := 0
def tw6103109745579782249 := 0
def tw10934211571623458134 := 0
def tw9755170361700325719 := 0
def tw17535418954974895198 := 0
def tw220807494241680931 := 0
def tw16162536061057418988 := 0
def tw3567208860726851521 := 0
def tw3167034229906599378 := 0
def tw2817745843978890899 := 0
def tw13715317352525965416 := 0
def tw805859580375663544 := 0
def tw8706054628340661181 := 0
def tw6325699593161564052 := 0
def tw503171984366434048 := 0
def tw201846454806161769 := 0
def tw15084954430319250140 := 0
def tw123152327707350361 := 0
def tw11488851268849401393 := 0
def tw10336574515275364549 := 0
def tw2876845203694257007 := 0
def tw1234099188306597816 := 0
def tw15993048765896841749 := 0
def tw3068219307893020177 := 0
def tw11181129233380407365 := 0
def tw16935391105293074675 := 0
def tw778651276269544767 := 0
def tw18321870153915201251 := 0
def tw13107410539205332022 := 0
def tw9447513829881765038 := 0
def tw15357214418289631447 := 0
def tw8902532504582407474 := 0
def tw7986773601073498045 := 0
def tw4051307327555232475 := 0
def tw2358833185017370274 := 0
def tw2154548983245058621 := 0
def tw214050753018942541 := 0
def tw17731200271405774708 := 0
def tw15047013464577801863 := 0
def tw1323014277051088627 := 0
def tw13035503804274204542 := 0
def tw12030124073260478355 := 0
def tw10831580634539775753 := 0
def tw10175428716650160708 := 0
def tw4836069188194175288 := 0
def tw15058616563566244058 := 0
def tw6610111412625768907 := 0
def tw5738511005091412127 := 0
def tw3762427973495372118 := 0
def tw4917926624216059428 := 0
def tw458804956582316117 := 0
def tw361134072865790050 := 0
def tw2574203624384972708 := 0
def tw18182444709982376856 := 0
def tw15370816226494802988 := 0
def tw11957268000670877316 := 0
def tw10568933543646403060 := 0
def tw7838805995339108049 := 0
def tw12143282991715425521 := 0
def tw5539855421074324118 := 0
def tw3565744573346279870 := 0
def tw10972908107739059874 := 0
def tw8397895349979085711 := 0
def tw15883315098630819399 := 0
def tw11410528302686744238 := 0
def tw7037523896209277281 := 0
def tw9284475144384227031 := 0
def tw6507568314511327298 := 0
def tw1106718422125863503 := 0
def tw16651847372268828327 := 0
def tw11873514131105715288 := 0
def tw5219571993883206251 := 0
def tw2355182305206498558 := 0
def tw16884988977928561302 := 0
def tw4321040538980534660 := 0
def tw16791946365025999323 := 0
def tw17080672789766110660 := 0
def tw13441783770740987271 := 0
def tw1683801685485544719 := 0
def tw8713851801397522260 := 0
def tw7141076317857948545 := 0
def tw16336685416634329092 := 0
def tw12949164876048798201 := 0
def tw16128215437793237586 := 0
def tw11404344757706068492 := 0
def tw9012043569739258744 := 0
def tw8759817685508904727 := 0
def tw16141783608865027167 := 0
def tw1281697061777605818 := 0
def tw10803302446204688900 := 0
def tw8846618872250090643 := 0
def tw6062726912625356619 := 0
def tw3776806602139678983 := 0
def tw2974233583930819907 := 0
def tw2808083378370029502 := 0
def tw2215822457856014946 := 0
def tw17834023745148161566 := 0
def tw17599518717842848490 := 0
def tw15190242058926449539 := 0
def tw10836139229474941890 := 0
def tw9910495411375478463 := 0
def tw9897937028472850474 := 0
def tw9855409353160714876 := 0
def tw9817515665849942089 := 0
def tw9628357770368144539 := 0
def tw9532047309995881228 := 0
def tw9457188252869224600 := 0
def tw9446419295171784450 := 0
def tw9417484878119064905 := 0
def tw9363589275119899597 := 0
def tw9351244217681564692 := 0
def tw9155863559845844204 := 0
def tw9026487976037596950 := 0
def tw9009237330280426519 := 0
def tw8987839344423106378 := 0
def tw8969903036655394698 := 0
def tw893113822695704242 := 0
def tw8842684349516043035 := 0
def tw8777484536784134394 := 0
def tw8627130677719982313 := 0
def tw8533046644773416918 := 0
def tw8370675158338700074 := 0
def tw8325999943040212432 := 0
def tw8276976411316721450 := 0
def tw8078440636364384536 := 0
def tw7945671759942303663 := 0
def tw7864876647995973147 := 0
def tw7461614853252969354 := 0
def tw7452851671724598642 := 0
def tw7401205742248115793 := 0
def tw7265560138696469403 := 0
def tw7180774742553623159 := 0
def tw7161629662168646112 := 0
def tw7139098580689980941 := 0
def tw7100730989147228194 := 0
def tw681198600429254095 := 0
def tw6722229132381455277 := 0
def tw6587796826019790761 := 0
def tw656907713709234033 := 0
def tw648910803735346474 := 0
def tw6154275356509216700 := 0
def tw6139199751351881107 := 0
def tw6079358307345605667 := 0
def tw5803237897676019081 := 0
def tw577563830636632657 := 0
def tw5772361957096007176 := 0
def tw5730182665293850473 := 0
def tw5660542234351216454 := 0
def tw5258611339124784453 := 0
def tw5139817887943314643 := 0
def tw5082607758073281798 := 0
def tw4907864182548509598 := 0
def tw4450230455332943309 := 0
def tw4285239858840274305 := 0
def tw4278299462354412830 := 0
def tw4255434546496040493 := 0
def tw4021626158789047040 := 0
def tw4000427546749936653 := 0
def tw378217099825736537 := 0
def tw3672940836422741428 := 0
def tw3656307026281631044 := 0
def tw3622979191944953872 := 0
def tw3558150487043376873 := 0
def tw3467591292070648766 := 0
def tw3417260315760462020 := 0
def tw3415401220951741214 := 0
def tw3099180352530245375 := 0
def tw2634029480680729775 := 0
def tw2542882750037847050 := 0
def tw230576301461223675 := 0
def tw2245503887511223247 := 0
def tw2238858826080769841 := 0
def tw1958583633843831568 := 0
def tw1837510270953719139 := 0
def tw18175957661949732479 := 0
def tw18144821373562951164 := 0
def tw18095950714802581675 := 0
def tw18041723742183378698 := 0
def tw18040558946208021433 := 0
def tw18020137754291375030 := 0
def tw17979149567677627761 := 0
def tw17906353140937585050 := 0
def tw17853007494236352924 := 0
def tw17784881296790936038 := 0
def tw17699073241538757571 := 0
def tw17536951219909466317 := 0
def tw17481211931312469738 := 0
def tw17434363947615787522 := 0
def tw17299373414945052498 := 0
def tw17110270343701919689 := 0
def tw16936755914296508076 := 0
def tw16899728049876368643 := 0
def tw1686715818038248515 := 0
def tw16821838749483608609 := 0
def tw16795541022009051504 := 0
def tw16421671473225078439 := 0
def tw16279293871953590475 := 0
def tw16203109889315483934 := 0
def tw15950556396049367038 := 0
def tw15649038906538012209 := 0
def tw15584400821737110985 := 0
def tw15510548907666392116 := 0
def tw14962185396404081196 := 0
def tw14923944735351188866 := 0
def tw14395277905940380906 := 0
def tw14209609185155235916 := 0
def tw14075617701248734431 := 0
def tw13996655327237867660 := 0
def tw13964130308304736115 := 0
def tw13957434473346557635 := 0
def tw1359477633784276410 := 0
def tw13546983040951973510 := 0
def tw13285083673576988833 := 0
def tw12979452195022696656 := 0
def tw12903788984323195269 := 0
def tw12846684104672557157 := 0
def tw12818574355151739423 := 0
def tw12808712820520236378 := 0
def tw12781131714915279106 := 0
def tw12590699117651520123 := 0
def tw12578846728860612333 := 0
def tw12530302597661650997 := 0
def tw12461303371070464722 := 0
def tw12303664873955263060 := 0
def tw12186361238853417437 := 0
def tw11526275009216048932 := 0
def tw11496345364264033566 := 0
def tw114355764307124780 := 0
def tw11303638951416822750 := 0
def tw11133328776375114783 := 0
def tw10581443624765504479 := 0
def tw10407929000670663741 := 0
def tw10378093314586484957 := 0
def tw10045993614137954090 := 0
end PySem.W.Fast
open PySem PySem.W PyProof.Rows
set_option maxRecDepth 100000 in
set_option maxHeartbeats 0 in
theorem PySem.Challenge.cw_roadsettings_k14_shapes_by_any_road_holds : PySem.Challenge.rw_roadsettings_k14_shapes_by_any_road.Holds := by
  w_on; o_law; k_head; (case hw => w_witness2)
  k_fill
  refine' K14.walk (l := PySem.Challenge.rw_roadsettings_k14_shapes_by_any_road) (P_z3 := 83) (P_z20 := 167) rfl rfl (fun w h Y => ⟨PySem.W.km_in_of Y, PySem.W.km_tabs_of Y⟩) ?hK ?hP0 ?hP1 (by decide) ?F
  case hP0 => decide
  case hP1 => decide
  case hK =>
    intro w b hb
    simp only [List.mem_cons, List.not_mem_nil, or_false] at hb
    rcases hb with rfl | rfl
    · exact ⟨by kernel_rfl, 87, by kernel_rfl⟩
    · exact ⟨by kernel_rfl, 171, by kernel_rfl⟩
  case F =>
    intro w mg fa h KX G hmg
    refine' K14.all_mk KX G hmg ?_ ?_ ?_ ?_ ?_ ?_ ?_ ?_ ?_ ?_ ?_ ?_ ?_ ?_ ?_ ?_ ?_ ?_ ?_ ?_ ?_ ?_ ?_ ?_ ?_ ?_ ?_ ?_ ?_ ?_ ?_ ?_ ?_ ?_ ?_ ?_ ?_ ?_ ?_ ?_ ?_ ?_ ?_ ?_ ?_ ?_ ?_ ?_ ?_ ?_ ?_ ?_ ?_ ?_ ?_ ?_ ?_ ?_ ?_ ?_ ?_ ?_ ?_ ?_ ?_ ?_ ?_
    all_goals try (first | refine ⟨⟨by k_is, by k_is, by k_is⟩, ⟨_, _, _, _, _, _, _, _, _, rfl, by k_is, by k_is⟩, by k_is⟩ | refine ⟨by k_is, ⟨_, _, _, _, _, _, _, _, _, rfl, by k_is, by k_is⟩, by k_is⟩ | refine ⟨by k_is, ⟨by k_is, by k_is, by k_is, by k_is⟩, by k_is, by k_is⟩ | refine ⟨⟨by k_is, by k_is, by k_is⟩, ⟨_, _, _, _, _, _, _, _, rfl, by k_is, by k_is⟩, by k_is, by kernel_rfl⟩ | refine ⟨by k_is, ⟨_, _, _, _, _, _, _, _, rfl, by k_is, by k_is⟩, by k_is, by kernel_rfl⟩ | (show _ = _; first | k_is | kernel_rfl))
