import PyProof.Rows.All
import Wide.All
import OpenK.AllK
import Wide.FinOn
import Lean
import PyProof.EqAt
import PyProof.EqKinds
import PyProof.TupleCall
import PyProof.AutoListH
import PyProof.ExcBaseAll.ValueError
import PyProof.ExcAttrAll.ValueError
import PySem.Challenge.RW_roadsettings_k32_settings_declared
set_option Elab.async false
set_option linter.all false
set_option maxRecDepth 100000
namespace L2
open PySem PySem.Spec PyProof.Rows
abbrev Zl:=Sum Int Str
def Wt:Zl→Value→Bool
 | .inl k,v=>Value.isInt k v
 | .inr x,v=>Value.isStrOf x v
def keyH (w:World):Zl→Int
 | .inl k=>hashInt k
 | .inr x=>hashStr w x
theorem ZP:∀{k:Zl}{v:Value},Wt k v=true→(∃ i t,k=Sum.inl i∧v=Value.int i t)∨(∃ x t,k=Sum.inr x∧v=Value.str x t)
 | .inl i,v,h=>by
   obtain ⟨t,e⟩:=Value.isInt_shape (k:=i) (v:=v) h
   exact .inl ⟨i,t,rfl,e⟩
 | .inr x,v,h=>by
   obtain ⟨t,e⟩:=Value.isStrOf_shape (x:=x) (v:=v) h
   exact .inr ⟨x,t,rfl,e⟩
theorem Zdl (i:Int)(t:Tok):Wt (.inl i) (.int i t)=true:=by simp [Wt,Value.isInt]
theorem Zdu (x:Str)(t:Tok):Wt (.inr x) (.str x t)=true:=by simp [Wt,Value.isStrOf]
theorem Zii (a b:Int):decide ((Sum.inl a:Zl)=Sum.inl b)=(a == b):=by
 by_cases e:a=b
 · subst e;simp
 · have h:¬ (Sum.inl a:Zl)=Sum.inl b:=fun q=>e (Sum.inl.inj q)
   rw [decide_eq_false h]
   exact (beq_eq_false_iff_ne.mpr e).symm
theorem Zid (a b:Str):decide ((Sum.inr a:Zl)=Sum.inr b)=decide (a=b):=by
 by_cases e:a=b
 · subst e;simp
 · have h:¬ (Sum.inr a:Zl)=Sum.inr b:=fun q=>e (Sum.inr.inj q)
   rw [decide_eq_false h,decide_eq_false e]
theorem ZiM (a:Int)(b:Str):decide ((Sum.inl a:Zl)=Sum.inr b)=false:=decide_eq_false (fun q=>nomatch q)
theorem Zht (a:Str)(b:Int):decide ((Sum.inr a:Zl)=Sum.inl b)=false:=decide_eq_false (fun q=>nomatch q)
def Zx (prog:Program)(w:World):PySem.KeyKind prog w Zl where
 is:=Wt
 hash:=keyH w
 inj := fun v a b ha hb=>by
   rcases ZP ha with ⟨i,t,rfl,rfl⟩ | ⟨x,t,rfl,rfl⟩
   · rcases ZP hb with ⟨j,u,rfl,e⟩ | ⟨y,u,rfl,e⟩
     · injection e with e1 _;rw [e1]
     · exact nomatch e
   · rcases ZP hb with ⟨j,u,rfl,e⟩ | ⟨y,u,rfl,e⟩
     · exact nomatch e
     · injection e with e1 _;rw [e1]
 byValue:=fun k v h=>by
   rcases ZP h with ⟨i,t,rfl,rfl⟩ | ⟨x,t,rfl,rfl⟩<;>rfl
 pyHash:=fun hv h=>by
   rcases ZP hv with ⟨i,t,rfl,rfl⟩ | ⟨x,t,rfl,rfl⟩
   · exact wpAny_pyHash_int h
   · exact wpAny_pyHash_str h
 eqBool:=fun hu hv h=>by
   rcases ZP hu with ⟨i,t,rfl,rfl⟩ | ⟨x,t,rfl,rfl⟩
   · rcases ZP hv with ⟨j,u,rfl,rfl⟩ | ⟨y,u,rfl,rfl⟩
     · rw [Zii] at h;exact wpAny_eqBool_int h
     · rw [ZiM] at h;exact SeqAt.EqAt.int_str i t y u _ _ _ _ h
   · rcases ZP hv with ⟨j,u,rfl,rfl⟩ | ⟨y,u,rfl,rfl⟩
     · rw [Zht] at h;exact SeqAt.EqAt.str_int x t j u _ _ _ _ h
     · rw [Zid] at h;exact wpAny_eqBool_str h
 «strs»:=fun k x t v h=>by
   rcases ZP h with ⟨i,u,rfl,e⟩ | ⟨y,u,rfl,e⟩
   · exact nomatch e
   · injection e with e1 _
     subst e1
     cases v<;>rfl
theorem ZcM (prog:Program)(w:World)(k:Zl)(v:Value):(Zx prog w).is k v=Wt k v:=rfl
theorem ZbB (prog:Program)(w:World)(i:Int)(t:Tok):(Zx prog w).is (.inl i) (.int i t)=true:=Zdl i t
theorem Uv (prog:Program)(w:World)(x:Str)(t:Tok):(Zx prog w).is (.inr x) (.str x t)=true:=Zdu x t
end L2
namespace L2
open PySem PySem.Spec PyProof.Rows
inductive V where
 | non | bl (b:Bool) | int (i:Int) | str (x:Str) | byt (b:Array UInt8) | flt (b:UInt64) | ref (a:Addr) | ty (n:String)
 deriving DecidableEq
def RelV:V→Value→Prop
 | .non,u=>u=Value.none
 | .bl b,u=>u=Value.bool b
 | .int i,u=>∃ t,u=Value.int i t
 | .str x,u=>∃ t,u=Value.str x t
 | .byt b,u=>∃ t,u=Value.bytes b t
 | .flt b,u=>∃ t,u=Value.float b t
 | .ref a,u=>u=Value.ref a
 | .ty n,u=>u=Value.type n
abbrev Vals:List V→List Value→Prop:=Paired RelV
theorem Vals.length {xs:List V}{us:List Value}(r:Vals xs us):xs.length=us.length:=Paired.length r
theorem Vals.get:∀{xs:List V}{us:List Value}{i:Nat}{x:V},Vals xs us→xs[i]?=some x→∃ u,us[i]?=some u∧RelV x u
 | _,_,_,_,.nil,e=>by simp at e
 | _,_,0,_,.cons r _,e=>by simp at e;subst e;exact ⟨_,rfl,r⟩
 | _,_,i+1,x,.cons _ t,e=>by
   obtain ⟨u,h1,h2⟩:=Vals.get (i:=i) (x:=x) t (by simpa using e)
   exact ⟨u,by simpa using h1,h2⟩
theorem Vals.set {x:V}{u:Value}(r:RelV x u):∀{xs:List V}{us:List Value}(i:Nat),Vals xs us→Vals (xs.set i x) (us.set i u)
 | _,_,_,.nil=>.nil
 | _,_,0,.cons _ t=>.cons r t
 | _,_,i+1,.cons q t=>.cons q (Vals.set r i t)
theorem Vals.append:∀{xs ys:List V}{us ws:List Value},Vals xs us→Vals ys ws→Vals (xs++ys) (us++ws)
 | _,_,_,_,.nil,s=>s
 | _,_,_,_,.cons r t,s=>.cons r (Vals.append t s)
def RelO:Option V→Option Value→Prop
 | some v,some u=>RelV v u
 | none,none=>True
 | _,_=>False
def KV {κ:Type}:List (κ×V)→List (κ×Value)→Prop:=Paired fun (p:κ×V) (q:κ×Value)=>p.1=q.1∧RelV p.2 q.2
def kV:Zl→V
 | .inl i=>.int i
 | .inr x=>.str x
inductive HO where
 | lst (xs:List V)
 | tup (xs:List V)
 | dK (kvs:List (Zl×V)) | dT (kvs:List (List Zl×V))
 | set (S:Int→Bool) (n:Nat)
 | ins (C dx:Addr) (fs:List (Str×V))
 | own (x:Addr)
 | xd (fs:List (Str×V))
 | met (f x:Addr)
 | rng (lo hi:Int)
 | frz (o:Obj) (u:HO)
 | tbl (ps:Array Value)
 | ext (φ:Heap→Prop)
abbrev Hp:=Addr→Option HO
def upd (H:Hp)(a:Addr)(o:HO):Hp:=fun b=>if b=a then some o else H b
theorem Zc {H:Hp}{a:Addr}{o:HO}:upd H a o a=some o:=by unfold upd;rw [if_pos rfl]
theorem Zg {H:Hp}{a b:Addr}{o:HO}(h:b≠a):upd H a o b=H b:=by unfold upd;rw [if_neg h]
theorem Zjq {H:Hp}{a b:Addr}{o u:HO}(h:H a=some o)(h':H b=some u)(d:o≠u):a≠b:=by
 intro e;subst e;rw [h] at h';exact d (Option.some.inj h')
theorem Zq {H:Hp}{a b:Addr}{o:HO}(h:H a=some o)(h':H b=none):a≠b:=by
 intro e;subst e;rw [h] at h';cases h'
section
variable (P:Program)(w:World)
def ObjOk (H:Hp)(h:Heap)(a:Addr):HO→Prop
 | .lst xs=>xs.length≤sizeLine∧∃ (its:List Value) (n:Nat),Vals xs its∧h.get? a=some { cls:=.type "list",data:=.seq its.toArray n }
 | .tup xs=>xs.length≤sizeLine∧∃ its:List Value,Vals xs its∧IsTup h a its.toArray
 | .dK kvs=>kvs.length≤sizeLine∧(a == sysModules)=false∧∃ vs,KV kvs vs∧h.DictOf (Zx P w) a vs
 | .dT kvs=>kvs.length≤sizeLine∧(a == sysModules)=false∧∃ xs:List (List Zl×Addr×Value),
     Paired (fun (p:List Zl×V) (q:List Zl×Addr×Value)=>p.1=q.1∧H q.2.1=some (.tup (p.1.map kV))∧RelV p.2 q.2.2) kvs xs ∧
     ∃ o es ep,h.get? a=some o∧o.ExactDict∧o.data=.dict es ep∧es.toList=xs.map (entryOfKey (tupleKind (Zx P w)))∧(xs.map (·.1)).Nodup
 | .set S n=>h.SetOf (intKind P w) a S n
 | .ins C dx fs=>H dx=some (.own a)∧fs.length≤1000∧dx≠a∧h.get? a=some (PySem.W.instObj C dx) ∧
     ∃ mA,h.Ns1 dx mA∧(∀ f,RelO (fs.lookup f) (mA f))∧PySem.Within mA (fs.map (·.1))
 | .own _=>∃ o,h.get? a=some o
 | .xd fs=>∃ mA,h.Ns1 a mA∧∀ f,RelO (fs.lookup f) (mA f)
 | .rng lo hi=>∃ t u v,h.get? a=some { cls:=.type "range",data:=.fields #[.int lo t,.int hi u,.int 1 v] }
 | .frz o u=>h.get? a=some o∧ObjOk H h a u
 | .tbl ps=>h.get? a=some { cls:=.none,data:=.fields ps }
 | .met f x=>h.get? a=some (PySem.W.methodObj (.ref f) (.ref x))
 | .ext φ=>φ h∧(∃ o,h.get? a=some o)∧∀ h1 h2:Heap,φ h1→(∀ o,h1.get? a=some o→h2.get? a=some o)→φ h2
def HOk (H:Hp)(h:Heap):Prop:=∀ a o,H a=some o→ObjOk P w H h a o
end
section
variable {P:Program}{w:World}{H H':Hp}{h h':Heap}{a:Addr}{o:HO}
theorem ObjOk.lt (x:ObjOk P w H h a o):a < h.objs.size:=by
 cases o with
 | lst xs=>obtain ⟨_,_,_,_,e⟩:=x;exact Heap.lt_size e
 | tup xs=>obtain ⟨_,_,_,p⟩:=x;exact p.lt
 | dK kvs=>obtain ⟨_,_,_,_,o,_,_,e,_⟩:=x;exact Heap.lt_size e
 | dT kvs=>obtain ⟨_,_,_,_,o,_,_,e,_⟩:=x;exact Heap.lt_size e
 | set S n=>obtain ⟨o,_,_,_,e,_⟩:=x;exact Heap.lt_size e
 | ins C dx fs=>obtain ⟨_,_,_,e,_⟩:=x;exact Heap.lt_size e
 | own y=>obtain ⟨_,e⟩:=x;exact Heap.lt_size e
 | xd fs=>obtain ⟨_,⟨_,_,_,e,_⟩,_⟩:=x;exact Heap.lt_size e
 | rng lo hi=>obtain ⟨_,_,_,e⟩:=x;exact Heap.lt_size e
 | frz ob u=>obtain ⟨e,_⟩:=x;exact Heap.lt_size e
 | tbl ps=>exact Heap.lt_size (show h.get? a=some _ from x)
 | met f y=>exact Heap.lt_size (show h.get? a=some _ from x)
 | ext φ=>obtain ⟨_,⟨_,e⟩,_⟩:=x;exact Heap.lt_size e
theorem Paired.mapP {α β:Type}{F G:α→β→Prop}:∀{l₁:List α}{l₂:List β},Paired F l₁ l₂→(∀ a b,F a b→G a b)→Paired G l₁ l₂
 | _,_,.nil,_=>.nil
 | _,_,.cons r t,f=>.cons (f _ _ r) (Paired.mapP t f)
theorem ObjOk.stay (x:ObjOk P w H h a o)(k:∀ b u,(b=a∨H b=some (.own a))→h.get? b=some u→h'.get? b=some u)
   (ho:∀ b,H b=some (.own a)→H' b=some (.own a)) (ht:∀ b xs,H b=some (.tup xs)→H' b=some (.tup xs)):ObjOk P w H' h' a o:=by
 induction o with
 | lst xs=>obtain ⟨z,its,n,r,e⟩:=x;exact ⟨z,its,n,r,k _ _ (.inl rfl) e⟩
 | tup xs=>obtain ⟨z,its,r,ob,e,c⟩:=x;exact ⟨z,its,r,ob,k _ _ (.inl rfl) e,c⟩
 | dK kvs=>obtain ⟨z,y,vs,r,ob,es,ep,e,c⟩:=x;exact ⟨z,y,vs,r,ob,es,ep,k _ _ (.inl rfl) e,c⟩
 | dT kvs =>
   obtain ⟨z,y,xs,r,ob,es,ep,e,c⟩:=x
   exact ⟨z,y,xs,Paired.mapP r fun p q z=>⟨z.1,ht _ _ z.2.1,z.2.2⟩,ob,es,ep,k _ _ (.inl rfl) e,c⟩
 | set S n=>obtain ⟨ob,es,ep,t,e,c⟩:=x;exact ⟨ob,es,ep,t,k _ _ (.inl rfl) e,c⟩
 | ins C dx fs =>
   obtain ⟨d,z,ne,e,mA,⟨od,es,ep,e2,c⟩,r⟩:=x
   exact ⟨ho _ d,z,ne,k _ _ (.inl rfl) e,mA,⟨od,es,ep,k _ _ (.inr d) e2,c⟩,r⟩
 | own y=>obtain ⟨ob,e⟩:=x;exact ⟨ob,k _ _ (.inl rfl) e⟩
 | xd fs=>obtain ⟨mA,⟨od,es,ep,e,c⟩,r⟩:=x;exact ⟨mA,⟨od,es,ep,k _ _ (.inl rfl) e,c⟩,r⟩
 | rng lo hi=>obtain ⟨t,u,v,e⟩:=x;exact ⟨t,u,v,k _ _ (.inl rfl) e⟩
 | frz ob u ih=>obtain ⟨e,q⟩:=x;exact ⟨k _ _ (.inl rfl) e,ih q⟩
 | tbl ps =>
   have e:h.get? a=some { cls:=.none,data:=.fields ps }:=x
   show h'.get? a=some { cls:=.none,data:=.fields ps }
   exact k a _ (.inl rfl) e
 | met f y =>
   have e:h.get? a=some (PySem.W.methodObj (.ref f) (.ref y)):=x
   show h'.get? a=some (PySem.W.methodObj (.ref f) (.ref y))
   exact k a _ (.inl rfl) e
 | ext φ=>obtain ⟨p,⟨o,e⟩,st⟩:=x;exact ⟨st _ _ p fun o q=>k _ _ (.inl rfl) q,⟨o,k _ _ (.inl rfl) e⟩,st⟩
theorem HOk.lt (x:HOk P w H h)(e:H a=some o):a < h.objs.size:=(x a o e).lt
theorem HOk.fresh (x:HOk P w H h)(e:h.objs.size≤a):H a=none:=by
 cases q:H a with
 | none=>rfl
 | some u=>exact absurd (Nat.lt_of_lt_of_le (x.lt q) e) (Nat.lt_irrefl _)
theorem HOk.kept (x:HOk P w H h)(k:∀ b u,h.get? b=some u→h'.get? b=some u):HOk P w H h':=fun a o e =>
 (x a o e).stay (fun b u _ q=>k b u q) (fun _ q=>q) fun _ _ q=>q
theorem HOk.laid (x:HOk P w H h)(k:∀ b u,h.get? b=some u→h'.get? b=some u)(hp:h.objs.size≤a)(new:ObjOk P w (upd H a o) h' a o):HOk P w (upd H a o) h':=fun b u e=>by
 have hn:=x.fresh hp
 by_cases hb:b=a
 · subst hb;rw [Zc] at e;cases e;exact new
 · rw [Zg hb] at e
   exact (x b u e).stay (fun c v _ q=>k c v q) (fun c q=>by rw [Zg (Zq q hn)];exact q) fun c xs q=>by rw [Zg (Zq q hn)];exact q
end
def Rd (H:Hp)(a:Addr)(u:HO):Prop:=H a=some u∨∃ o,H a=some (.frz o u)
theorem Rd.ok {P:Program}{w:World}{H:Hp}{h:Heap}{a:Addr}{u:HO}(r:Rd H a u)(x:HOk P w H h):ObjOk P w H h a u:=by
 rcases r with r | ⟨o,r⟩
 · exact x a u r
 · obtain ⟨_,q⟩:=x a _ r
   exact q
def Mut:Option HO→Prop
 | some (.lst _)=>True
 | some (.dK _)=>True
 | some (.dT _)=>True
 | some (.set _ _)=>True
 | some (.ins _ _ _)=>True
 | some (.ext _)=>True
 | _=>False
section
variable {P:Program}{w:World}{H:Hp}{h h':Heap}{x e:Addr}{o':HO}
theorem HOk.write (ok:HOk P w H h)(mu:Mut (H x))(he:e=x∨H e=some (.own x))(k:∀ b u,b≠e→h.get? b=some u→h'.get? b=some u)(heo:∃ u,h'.get? e=some u)
   (new:ObjOk P w (upd H x o') h' x o'):HOk P w (upd H x o') h':=fun b u q=>by
 have nown:∀ c y,H c=some (.own y)→c≠x:=fun c y r z=>by subst z;rw [r] at mu;exact mu
 have ntup:∀ c xs,H c=some (.tup xs)→c≠x:=fun c xs r z=>by subst z;rw [r] at mu;exact mu
 by_cases hb:b=x
 · subst hb;rw [Zc] at q;cases q;exact new
 · rw [Zg hb] at q
   by_cases hbe:b=e
   · have q':H b=some (.own x):=by
       rcases he with z | z
       · exact absurd (hbe.trans z) hb
       · rw [hbe];exact z
     rw [q] at q';cases q'
     obtain ⟨v,hv⟩:=heo
     exact ⟨v,by rw [hbe];exact hv⟩
   · refine (ok b u q).stay (fun c v hc r=>k c v ?_ r) (fun c r=>by rw [Zg (nown c b r)];exact r) fun c xs r=>by rw [Zg (ntup c xs r)];exact r
     rcases hc with rfl | hc
     · exact hbe
     · rintro rfl
       rcases he with z | z
       · exact nown c b hc z
       · rw [hc] at z;cases z;exact hb rfl
end
structure Un (fs ex:List Addr)(H H':Hp)(h h':Heap):Prop where
 keep:∀ b o,h.get? b=some o→H b=none→b ∉ fs→b ∉ ex→h'.get? b=some o
 slot:∀ b o,h.get? b=some o→H b=none→b∈fs→b ∉ ex→∃ sl,h'.get? b=some { o with slots:=sl }
 free:∀ b o,h.get? b=some o→H b=none→b ∉ ex→H' b=none
 there:∀ b o,h.get? b=some o→b ∉ ex→∃ o',h'.get? b=some o'
 tups:∀ b xs,H b=some (.tup xs)→H' b=some (.tup xs)
 frzs:∀ b o u,H b=some (.frz o u)→H' b=some (.frz o u)
 tbls:∀ b ps,H b=some (.tbl ps)→∃ more,H' b=some (.tbl (ps++more))
section
variable {fs fs' ex ex':List Addr}{H H1 H2:Hp}{h h1 h2 h':Heap}{a x e:Addr}{o:HO}
theorem Un.any (u:Un fs ex H H1 h h1){b:Addr}{ob:Obj}(q:h.get? b=some ob)(n:H b=none)(hx:b ∉ ex):∃ sl,h1.get? b=some { ob with slots:=sl }:=by
 by_cases hb:b∈fs
 · exact u.slot b ob q n hb hx
 · exact ⟨ob.slots,u.keep b ob q n hb hx⟩
theorem Un.kept (k:∀ b u,h.get? b=some u→h'.get? b=some u):Un fs ex H H h h' :=
 ⟨fun b ob q _ _ _=>k b ob q,fun b ob q _ _ _=>⟨ob.slots,k b ob q⟩,fun _ _ _ n _=>n,fun b ob q _=>⟨ob,k b ob q⟩,fun _ _ q=>q,fun _ _ _ q=>q,fun _ ps q=>⟨#[],by rw [q];simp⟩⟩
theorem Un.refl:Un fs ex H H h h:=Un.kept fun _ _ q=>q
theorem Un.laid (k:∀ b u,h.get? b=some u→h'.get? b=some u)(hp:h.objs.size≤a)(hn:H a=none):Un fs ex H (upd H a o) h h' where
 keep:=fun b u q _ _ _=>k b u q
 slot:=fun b u q _ _ _=>⟨u.slots,k b u q⟩
 free:=fun b u q n _=>by rw [Zg (Nat.ne_of_lt (Nat.lt_of_lt_of_le (Heap.lt_size q) hp))];exact n
 there:=fun b u q _=>⟨u,k b u q⟩
 tups:=fun b xs q=>by rw [Zg (Zq q hn)];exact q
 frzs:=fun b u xs q=>by rw [Zg (Zq q hn)];exact q
 tbls:=fun b ps q=>⟨#[],by rw [Zg (Zq q hn),q];simp⟩
theorem Un.write (mu:Mut (H x))(he:e=x∨H e=some (.own x))(k:∀ b u,b≠e→h.get? b=some u→h'.get? b=some u)(heo:∃ u,h'.get? e=some u):Un fs ex H (upd H x o) h h':=by
 have hx:∀ b,H b=none→b≠x:=fun b n z=>by subst z;rw [n] at mu;exact mu
 have hb:∀ b,H b=none→b≠e:=fun b n z=>by
   subst z
   rcases he with r | r
   · exact hx b n r
   · rw [n] at r;cases r
 have hm:∀ b u,H b=some u→¬ Mut (some u)→b≠x:=fun b u q nm z=>by subst z;rw [q] at mu;exact nm mu
 refine ⟨fun b u q n _ _=>k b u (hb b n) q,fun b u q n _ _=>⟨u.slots,k b u (hb b n) q⟩,fun b u q n _=>by rw [Zg (hx b n)];exact n,fun b u q _=>?_,
   fun b xs q=>by rw [Zg (hm b _ q fun z=>z)];exact q,fun b u xs q=>by rw [Zg (hm b _ q fun z=>z)];exact q,fun b ps q=>⟨#[],by rw [Zg (hm b _ q fun z=>z),q];simp⟩⟩
 by_cases hbe:b=e
 · subst hbe;exact heo
 · exact ⟨u,k b u hbe q⟩
end
def trk (h:Heap)(H:Hp):List Addr:=(List.range h.objs.size).filter fun a=>(H a).isSome
def Wf (h:Heap)(H:Hp):Heap:=PySem.W.hideAll h (trk h H)
theorem Zeb (h:Heap)(H:Hp):(Wf h H).objs.size=h.objs.size:=PySem.W.hideAll_size _ _
theorem Zfw {h:Heap}{H:Hp}{b:Addr}{o:Obj}(e:h.get? b=some o)(n:H b=none):(Wf h H).get? b=some o :=
 PySem.W.hideAll_get _ e fun hm=>by
   have q:(H b).isSome=true:=(List.mem_filter.mp hm).2
   rw [n] at q;simp at q
theorem Zhg {h:Heap}{H:Hp}{b:Addr}{o:Obj}(e:(Wf h H).get? b=some o):h.get? b=some o∧H b=none:=by
 have e':h.get? b=some o:=PySem.W.of_hideAll (trk h H) e
 refine ⟨e',?_⟩
 cases q:H b with
 | none=>rfl
 | some x =>
   have hm:b∈trk h H:=List.mem_filter.mpr ⟨List.mem_range.mpr (Heap.lt_size e'),by simp [q]⟩
   have z:(Wf h H).get? b=none:=PySem.W.hideAll_none (trk h H) hm
   rw [z] at e;cases e
end L2
namespace L2
open PySem PySem.Spec PyProof.Rows
structure Mod (K:PySem.W.Frag)(mg:Str→Option Value)(base:Heap):Prop where
 kin:K.In base
 glob:base.Ns mainGlobals mg
 blt:∃ mb,base.Ns builtinsNs mb∧∀ x:Str,x≠"__name__"→mb x=bootBuiltins x
 nolimit:base.NoLimit
structure Cx where
 prog:Program
 w:World
 K:PySem.W.Frag
 mg:Str→Option Value
 base:Heap
 A:Around
 N:List Str
 s₀:Shared
 H₀:Hp
 env:Env
 outer:List Env
 stack:List Env
 ex:List Addr
 fn:Str→Bool
 calm:Bool
 pn:List (Addr×Obj)
 xe:Value→Shared→Prop
def Yb (l:List Env):List Addr:=l.filterMap (·.frame)
abbrev Cx.fs (X:Cx):List Addr:=Yb X.outer
def Vis (sc:Scope)(x:Str):Prop:=sc.names.lookup x=some .local∨sc.names.lookup x=some .cell∨sc.names.lookup x=some .free
def Loc (sc:Scope)(x:Str):Prop:=sc.names.lookup x=some .local∨sc.names.lookup x=some .cell
def Look (env:Env)(h:Heap)(m:Str→Option Value)(x:Str)(u:Value):Prop :=
 (env.kindOf x=some .local∧m x=some u)∨((env.kindOf x=some .cell∨env.kindOf x=some .free)∧∃ c,env.cells.lookup x=some c∧h.IsCell c (some u))
structure Cx.Ok (X:Cx):Prop where
 mod:Mod X.K X.mg X.base
 kind:X.env.scope.kind=.function
 glob:X.env.globals=mainGlobals
 blt:X.env.builtins=builtinsNs
 above:X.s₀.heap.objs.size≤X.env.locals
 inj:∀ x y c,X.env.cells.lookup x=some c→X.env.cells.lookup y=some c→x=y
 has:∀ x,(X.env.kindOf x=some .cell∨X.env.kindOf x=some .free)→∃ c,X.env.cells.lookup x=some c
 cab:∀ x c,X.fn x=true→X.env.cells.lookup x=some c→X.s₀.heap.objs.size≤c
 hd:X.calm=true→X.A.handled=none
 frames:X.A.frames=some X.stack
 stk:X.stack=X.outer∨(X.stack=X.env::X.outer∧X.env.frame=some X.env.locals)
 exf:∀ b∈X.ex,b≠X.env.locals∧∀ x c,X.env.cells.lookup x=some c→c≠b
 bs:∀ b o,X.base.get? b=some o→X.s₀.heap.get? b=some o∧X.H₀ b=none
 bsz:X.base.objs.size≤X.s₀.heap.objs.size
 noex:∀ b o,X.base.get? b=some o→b ∉ X.ex
 exfs:∀ b∈X.ex,b ∉ X.fs
 funs:X.s₀.heap.FunFrames X.base X.outer
 frf:∀ b∈X.fs,X.H₀ b=none
structure Inv (X:Cx)(pins:List (Addr×Obj))(σ:List (Option V))(H:Hp)(s:Shared):Prop where
 ok:X.Ok
 os:s.os=X.s₀.os
 bare:AllBare s.gens
 base:Un X.fs X.ex X.H₀ H X.s₀.heap s.heap
 loc:∃ m,s.heap.Ns X.env.locals m∧∀ (i:Nat) (x:Str) (v:V),X.N[i]?=some x→σ[i]?=some (some v)→Vis X.env.scope x→∃ u,RelV v u∧Look X.env s.heap m x u
 cell:∀ x c,X.env.cells.lookup x=some c→∃ v,s.heap.IsCell c v
 free:H X.env.locals=none
 freeC:∀ x c,X.env.cells.lookup x=some c→H c=none
 pin:∀ p∈X.pn++pins,s.heap.get? p.1=some p.2∧H p.1=none∧p.1≠X.env.locals∧p.1 ∉ X.fs∧∀ v,p.2.data≠.cell v
 hok:HOk X.prog X.w H s.heap
 len:σ.length=X.N.length
section
variable {X:Cx}{pins:List (Addr×Obj)}{σ:List (Option V)}{H H':Hp}{s:Shared}{h':Heap}
theorem Cx.Ok.nofr (ok:X.Ok){b:Addr}{o:Obj}(e:X.base.get? b=some o):b ∉ X.fs:=fun hb=>by
 have:=(ok.funs.mem hb).1
 rw [e] at this;cases this
theorem Inv.bs (I:Inv X pins σ H s):∀ b o,X.base.get? b=some o→s.heap.get? b=some o∧H b=none:=fun b o e =>
 ⟨I.base.keep b o (I.ok.bs b o e).1 (I.ok.bs b o e).2 (I.ok.nofr e) (I.ok.noex b o e),I.base.free b o (I.ok.bs b o e).1 (I.ok.bs b o e).2 (I.ok.noex b o e)⟩
theorem Inv.bk (I:Inv X pins σ H s):∀ b o,X.base.get? b=some o→s.heap.get? b=some o:=fun b o e=>(I.bs b o e).1
theorem Inv.mod (I:Inv X pins σ H s):Mod X.K X.mg X.base:=I.ok.mod
theorem Inv.kIn (I:Inv X pins σ H s):X.K.In s.heap:=I.ok.mod.kin.keeps I.bk
theorem Inv.lt (I:Inv X pins σ H s):X.env.locals < s.heap.objs.size:=let ⟨_,hn,_⟩:=I.loc;hn.lt
theorem Inv.sz (I:Inv X pins σ H s):X.s₀.heap.objs.size≤s.heap.objs.size:=Nat.le_trans I.ok.above (Nat.le_of_lt I.lt)
theorem Inv.nofs (I:Inv X pins σ H s){a:Addr}(h:s.heap.objs.size≤a):a ∉ X.fs:=fun hb=>by
 obtain ⟨_,o,ho,_⟩:=I.ok.funs.mem hb
 exact absurd (Nat.lt_of_lt_of_le (Heap.lt_size ho) (Nat.le_trans I.sz h)) (Nat.lt_irrefl _)
theorem Inv.cne (I:Inv X pins σ H s):∀ x c,X.env.cells.lookup x=some c→c≠X.env.locals:=fun x c e z=>by
 obtain ⟨v,o,ho,hd⟩:=I.cell x c e
 obtain ⟨m,⟨o',es,ep,ho',hd',_⟩,_⟩:=I.loc
 rw [z,ho'] at ho;cases ho;rw [hd'] at hd;cases hd
theorem Inv.funs (I:Inv X pins σ H s):s.heap.FunFrames X.base X.outer:=by
 have all:∀ (l:List Env),(∀ b∈Yb l,b∈X.fs)→X.s₀.heap.FunFrames X.base l→s.heap.FunFrames X.base l:=by
   intro l
   induction l with
   | nil=>intro _ _;trivial
   | cons env r ih =>
     intro hs hl
     obtain ⟨hk,⟨L,o,hf,hn,ho,hd⟩,hr⟩:=hl
     have hL:L∈X.fs:=hs L (by unfold Yb;rw [List.filterMap_cons,hf];exact List.mem_cons_self)
     obtain ⟨sl,e⟩:=I.base.slot L o ho (I.ok.frf L hL) hL fun z=>I.ok.exfs L z hL
     exact ⟨hk,⟨L,_,hf,hn,e,hd⟩,ih (fun b hb=>hs b (by unfold Yb;rw [List.filterMap_cons,hf];exact List.mem_cons_of_mem _ hb)) hr⟩
 exact all X.outer (fun _ hb=>hb) I.ok.funs
theorem Inv.stack (I:Inv X pins σ H s):s.heap.FunFrames X.base X.stack:=by
 rcases I.ok.stk with e | ⟨e,hf⟩
 · rw [e];exact I.funs
 · rw [e]
   obtain ⟨m,hn,_⟩:=I.loc
   refine .cons (by rw [I.ok.kind];decide) hf hn ?_ I.funs
   exact Heap.get?_none_of_le (Nat.le_trans I.ok.bsz I.ok.above)
theorem Inv.stkSub (I:Inv X pins σ H s):∀ b∈Yb X.stack,b∈X.env.locals::X.fs:=fun b hb=>by
 rcases I.ok.stk with e | ⟨e,hf⟩
 · rw [e] at hb;exact List.mem_cons_of_mem _ hb
 · rw [e] at hb
   unfold Yb at hb
   rw [List.filterMap_cons,hf] at hb
   exact hb
theorem Inv.stkFree (I:Inv X pins σ H s):∀ b∈Yb X.stack,H b=none:=fun b hb=>by
 rcases List.mem_cons.mp (I.stkSub b hb) with e | hb
 · rw [e];exact I.free
 · obtain ⟨_,o,ho,_⟩:=I.ok.funs.mem hb
   exact I.base.free b o ho (I.ok.frf b hb) fun z=>I.ok.exfs b z hb
theorem Inv.step {g':Array GenState}{t':Nat}{d':Drawn}{ch:List Addr}(I:Inv X pins σ H s)
   (hch:∀ b∈ch,(b∈X.ex∨X.s₀.heap.objs.size≤b)∧b≠X.env.locals∧(∀ x c,X.env.cells.lookup x=some c→c≠b)∧∀ p∈X.pn++pins,p.1≠b)
   (keep:∀ b o,b≠X.env.locals→b ∉ X.fs→b ∉ ch→s.heap.get? b=some o→H b=none→h'.get? b=some o)
   (slot:∀ b o,b≠X.env.locals→b∈X.fs→b ∉ ch→s.heap.get? b=some o→H b=none→∃ sl,h'.get? b=some { o with slots:=sl }) (free:∀ b o,b ∉ ch→s.heap.get? b=some o→H b=none→H' b=none)
   (there:∀ b o,b ∉ ch→s.heap.get? b=some o→∃ o',h'.get? b=some o')
   (tups:∀ b xs,H b=some (.tup xs)→H' b=some (.tup xs)) (frzs:∀ b o u,H b=some (.frz o u)→H' b=some (.frz o u)) (tbls:∀ b ps,H b=some (.tbl ps)→∃ more,H' b=some (.tbl (ps++more)))
   (ns:∀ m,s.heap.Ns X.env.locals m→h'.Ns X.env.locals m) (hok:HOk X.prog X.w H' h') (hg:AllBare g') :
   Inv X pins σ H' { s with heap:=h',gens:=g',drawn:=d',toks:=t' }:=by
 have neL:∀ b o,X.s₀.heap.get? b=some o→b≠X.env.locals:=fun b o e=>Nat.ne_of_lt (Nat.lt_of_lt_of_le (Heap.lt_size e) I.ok.above)
 have neC:∀ b o,X.s₀.heap.get? b=some o→b ∉ X.ex→b ∉ ch:=fun b o e hx hb=>by
   rcases (hch b hb).1 with z | z
   · exact hx z
   · exact absurd (Nat.lt_of_lt_of_le (Heap.lt_size e) z) (Nat.lt_irrefl _)
 have cellK:∀ x c,X.env.cells.lookup x=some c→∀ v,s.heap.IsCell c v→h'.IsCell c v:=fun x c e v ⟨o,ho,hd⟩=>by
   have nch:c ∉ ch:=fun z=>(hch c z).2.2.1 x c e rfl
   by_cases hc:c∈X.fs
   · obtain ⟨sl,q⟩:=slot c o (I.cne x c e) hc nch ho (I.freeC x c e)
     exact ⟨_,q,hd⟩
   · exact ⟨o,keep c o (I.cne x c e) hc nch ho (I.freeC x c e),hd⟩
 refine ⟨I.ok,I.os,hg,⟨fun b o e n hb hx=>?_,fun b o e n hb hx=>?_,fun b o e n hx=>?_,fun b o e hx=>?_,fun b xs e=>tups b xs (I.base.tups b xs e),fun b o xs e=>frzs b o xs (I.base.frzs b o xs e),fun b ps e=>?_⟩,?_,fun x c e=>?_,?_,fun x c e=>?_,fun p hp=>?_,hok,I.len⟩
 · exact keep b o (neL b o e) hb (neC b o e hx) (I.base.keep b o e n hb hx) (I.base.free b o e n hx)
 · obtain ⟨sl,e1⟩:=I.base.slot b o e n hb hx
   obtain ⟨sl',e2⟩:=slot b _ (neL b o e) hb (neC b o e hx) e1 (I.base.free b o e n hx)
   exact ⟨sl',e2⟩
 · obtain ⟨o',e1⟩:=I.base.there b o e hx
   exact free b o' (neC b o e hx) e1 (I.base.free b o e n hx)
 · obtain ⟨o',e1⟩:=I.base.there b o e hx
   exact there b o' (neC b o e hx) e1
 · obtain ⟨m1,e1⟩:=I.base.tbls b ps e
   obtain ⟨m2,e2⟩:=tbls b _ e1
   exact ⟨m1++m2,by rw [e2,Array.append_assoc]⟩
 · obtain ⟨m,hn,hl⟩:=I.loc
   refine ⟨m,ns m hn,fun i x v e1 e2 e3=>?_⟩
   obtain ⟨u,r,l⟩:=hl i x v e1 e2 e3
   refine ⟨u,r,?_⟩
   rcases l with l | ⟨k,c,e,z⟩
   · exact .inl l
   · exact .inr ⟨k,c,e,cellK x c e _ z⟩
 · obtain ⟨v,z⟩:=I.cell x c e
   exact ⟨v,cellK x c e v z⟩
 · obtain ⟨m,⟨o,_,_,ho,_⟩,_⟩:=I.loc
   exact free _ o (fun z=>(hch _ z).2.1 rfl) ho I.free
 · obtain ⟨v,o,ho,hd⟩:=I.cell x c e
   exact free c o (fun z=>(hch c z).2.2.1 x c e rfl) ho (I.freeC x c e)
 · obtain ⟨e,n,ne,nf,d⟩:=I.pin p hp
   have nch:p.1 ∉ ch:=fun z=>(hch p.1 z).2.2.2 p hp rfl
   exact ⟨keep p.1 p.2 ne nf nch e n,free p.1 p.2 nch e n,ne,nf,d⟩
theorem Inv.un {t':Nat}(I:Inv X pins σ H s)(u:Un X.fs [] H H' s.heap h')(hok:HOk X.prog X.w H' h'):Inv X pins σ H' { s with heap:=h',toks:=t' }:=by
 obtain ⟨m,⟨o,es,ep,ho,r⟩,_⟩:=id I.loc
 obtain ⟨sl,hL⟩:=u.any ho I.free (by simp)
 exact I.step (g':=s.gens) (d':=s.drawn) (ch:=[]) (fun _ z=>nomatch z) (fun b o _ hb _ e n=>u.keep b o e n hb (by simp)) (fun b o _ hb _ e n=>u.slot b o e n hb (by simp)) (fun b o _ e n=>u.free b o e n (by simp)) (fun b o _ e=>u.there b o e (by simp)) u.tups u.frzs u.tbls (fun m' hm=>by
   obtain ⟨o',es',ep',ho',r'⟩:=hm
   rw [ho] at ho';cases ho'
   exact ⟨_,es',ep',hL,r'⟩) hok I.bare
theorem Inv.call {g':Array GenState}{t':Nat}{d':Drawn}{ch:List Addr}(I:Inv X pins σ H s)(u:Un (Yb X.stack) ch H H' s.heap h')(hok:HOk X.prog X.w H' h')(hg:AllBare g')
   (hch:∀ b∈ch,(b∈X.ex∨X.s₀.heap.objs.size≤b)∧b≠X.env.locals∧(∀ x c,X.env.cells.lookup x=some c→c≠b)∧∀ p∈X.pn++pins,p.1≠b) :
   Inv X pins σ H' { s with heap:=h',gens:=g',drawn:=d',toks:=t' }:=by
 obtain ⟨m,⟨o,es,ep,ho,r⟩,_⟩:=id I.loc
 obtain ⟨sl,hL⟩:=u.any ho I.free fun z=>(hch _ z).2.1 rfl
 exact I.step (ch:=ch) hch (fun b o hL hb hc e n=>u.keep b o e n (fun z=>(List.mem_cons.mp (I.stkSub b z)).elim hL hb) hc) (fun b o _ _ hc e n=>u.any e n hc) (fun b o hc e n=>u.free b o e n hc) (fun b o hc e=>u.there b o e hc) u.tups u.frzs u.tbls (fun m' hm=>by
   obtain ⟨o',es',ep',ho',r'⟩:=hm
   rw [ho] at ho';cases ho'
   exact ⟨_,es',ep',hL,r'⟩) hok hg
theorem Inv.turned {t':Nat}{it:Addr}(I:Inv X pins σ H s)(k:∀ b o,b≠it→s.heap.get? b=some o→h'.get? b=some o)(hn:H it=none)(hL:it≠X.env.locals)
   (h1:it∈X.ex∨X.s₀.heap.objs.size≤it) (h2:∀ x c,X.env.cells.lookup x=some c→c≠it) (h3:∀ p∈X.pn++pins,p.1≠it):Inv X pins σ H { s with heap:=h',toks:=t' }:=by
 have nit:∀ b u,H b=some u→b≠it:=fun b u e z=>by rw [z,hn] at e;cases e
 refine I.step (g':=s.gens) (d':=s.drawn) (ch:=[it]) (fun b hb=>?_) (fun b o _ _ hc e _=>k b o (fun z=>hc (by simp [z])) e) (fun b o _ _ hc e _=>⟨o.slots,k b o (fun z=>hc (by simp [z])) e⟩) (fun _ _ _ _ n=>n)
   (fun b o hc e=>⟨o,k b o (fun z=>hc (by simp [z])) e⟩) (fun _ _ e=>e) (fun _ _ _ e=>e) (fun b ps e=>⟨#[],by rw [e];simp⟩) (fun m hm=>?_) (fun b u e=>?_) I.bare
 · have e:b=it:=by simpa using hb
   subst e
   exact ⟨h1,hL,h2,h3⟩
 · obtain ⟨o,es,ep,ho,r⟩:=hm
   exact ⟨o,es,ep,k _ o (Ne.symm hL) ho,r⟩
 · refine (I.hok b u e).stay (fun c v hc q=>k c v ?_ q) (fun _ q=>q) fun _ _ q=>q
   rcases hc with z | z
   · rw [z];exact nit b u e
   · exact nit c _ z
theorem Inv.tok (I:Inv X pins σ H s)(t:Nat):Inv X pins σ H { s with toks:=t }:=I.un (h':=s.heap) (t':=t) Un.refl I.hok
theorem Inv.kept {t':Nat}(I:Inv X pins σ H s)(k:∀ b u,s.heap.get? b=some u→h'.get? b=some u):Inv X pins σ H { s with heap:=h',toks:=t' }:=I.un (Un.kept k) (I.hok.kept k)
theorem Inv.laid {a:Addr}{o:HO}{t':Nat}(I:Inv X pins σ H s)(k:∀ b u,s.heap.get? b=some u→h'.get? b=some u)(hp:s.heap.objs.size≤a)(new:ObjOk X.prog X.w (upd H a o) h' a o) :
 Inv X pins σ (upd H a o) { s with heap:=h',toks:=t' }:=I.un (Un.laid k hp (I.hok.fresh hp)) (I.hok.laid k hp new)
theorem Inv.write {x e:Addr}{o:HO}{t':Nat}(I:Inv X pins σ H s)(mu:Mut (H x))(he:e=x∨H e=some (.own x))(k:∀ b u,b≠e→s.heap.get? b=some u→h'.get? b=some u)(heo:∃ u,h'.get? e=some u)
 (new:ObjOk X.prog X.w (upd H x o) h' x o):Inv X pins σ (upd H x o) { s with heap:=h',toks:=t' }:=I.un (Un.write mu he k heo) (I.hok.write mu he k heo new)
theorem Inv.pins_of {pins':List (Addr×Obj)}(I:Inv X pins σ H s)(h:∀ p∈pins',s.heap.get? p.1=some p.2∧H p.1=none∧p.1≠X.env.locals∧p.1 ∉ X.fs∧∀ v,p.2.data≠.cell v):Inv X pins' σ H s :=
 ⟨I.ok,I.os,I.bare,I.base,I.loc,I.cell,I.free,I.freeC,fun p hp=>(List.mem_append.mp hp).elim (fun z=>I.pin p (List.mem_append_left _ z)) (h p),I.hok,I.len⟩
theorem UK {N:List Str}(hN:N.Nodup){i j:Nat}{x:Str}(a:N[i]?=some x)(b:N[j]?=some x):i=j:=by
 obtain ⟨h1,e1⟩:=List.getElem?_eq_some_iff.mp a
 obtain ⟨h2,e2⟩:=List.getElem?_eq_some_iff.mp b
 exact (List.getElem_inj hN).mp (e1.trans e2.symm)
theorem Zdr {M:Model}{A:Around}{E:Value→Shared→Prop}{i:Nat}{x:Str}{v:V}{u:Value}{Q:Unit→Shared→Prop}(I:Inv X pins σ H s)(hN:X.N.Nodup)(hi:X.N[i]?=some x)(hx:Loc X.env.scope x)(r:RelV v u)
   (h:∀ s',Inv X pins (σ.set i (some v)) H s'→(∃ a,Heap.SameBut a s.heap s'.heap∧(a=X.env.locals∨X.env.cells.lookup x=some a))→Q () s') (hf:X.fn x=true∨X.env.scope.names.lookup x=some .local:=by first | exact .inl rfl | exact .inr rfl | assumption):wpAny M A (storeName X.env x u) Q E s:=by
 obtain ⟨m,hn,hl⟩:=id I.loc
 have hcls:(X.env.scope.kind == .class || (X.env.scope.kind == .module&&X.env.locals != X.env.globals))=false:=by rw [I.ok.kind];rfl
 have hiσ:i < σ.length:=by rw [I.len];exact (List.getElem?_eq_some_iff.mp hi).1
 have cne:=I.cne
 have tracked:∀ {a:Addr} {h':Heap},(∃ o,s.heap.get? a=some o∧H a=none)→Heap.SameBut a s.heap h'→HOk X.prog X.w H h':=fun {a h'} ha hs b ob e=>by
   obtain ⟨_,_,hfree⟩:=ha
   refine (I.hok b ob e).stay (fun c w' hc q=>(hs.2 c ?_).trans q) (fun _ q=>q) fun _ _ q=>q
   rintro rfl
   rcases hc with rfl | hc
   · rw [hfree] at e;cases e
   · rw [hfree] at hc;cases hc
 rcases hx with hk | hk
 · refine wpAny_storeName_local hk hn (fun h' hn' hs=>?_) hcls
   obtain ⟨oL,_,_,hoL,_⟩:=id hn
   refine h _ ⟨I.ok,I.os,I.bare,⟨fun b o e n hb hx=>?_,fun b o e n hb hx=>?_,I.base.free,fun b o e hx=>?_,I.base.tups,I.base.frzs,I.base.tbls⟩,⟨_,hn',fun j y v' e1 e2 e3=>?_⟩,fun y c e=>?_,I.free,I.freeC,fun p hp=>?_,tracked ⟨oL,hoL,I.free⟩ hs,by simpa using I.len⟩ ⟨_,hs,.inl rfl⟩
   · exact (hs.2 b (Nat.ne_of_lt (Nat.lt_of_lt_of_le (Heap.lt_size e) I.ok.above))).trans (I.base.keep b o e n hb hx)
   · obtain ⟨sl,e1⟩:=I.base.slot b o e n hb hx
     exact ⟨sl,(hs.2 b (Nat.ne_of_lt (Nat.lt_of_lt_of_le (Heap.lt_size e) I.ok.above))).trans e1⟩
   · obtain ⟨o',e1⟩:=I.base.there b o e hx
     exact ⟨o',(hs.2 b (Nat.ne_of_lt (Nat.lt_of_lt_of_le (Heap.lt_size e) I.ok.above))).trans e1⟩
   · by_cases hj:j=i
     · subst hj
       rw [hi] at e1;cases e1
       rw [List.getElem?_set_self hiσ] at e2
       cases e2
       exact ⟨u,r,.inl ⟨hk,by simp⟩⟩
     · rw [List.getElem?_set_ne (Ne.symm hj)] at e2
       obtain ⟨u',r',q⟩:=hl j y v' e1 e2 e3
       refine ⟨u',r',?_⟩
       rcases q with ⟨k,e⟩ | ⟨k,c,e,z⟩
       · refine .inl ⟨k,?_⟩
         have:y≠x:=fun e=>hj (UK hN e1 (e ▸ hi))
         simp [this,e]
       · exact .inr ⟨k,c,e,z.sameBut hs (cne y c e)⟩
   · obtain ⟨w',z⟩:=I.cell y c e
     exact ⟨w',z.sameBut hs (cne y c e)⟩
   · obtain ⟨e,n,ne,nf,d⟩:=I.pin p hp
     exact ⟨(hs.2 p.1 ne).trans e,n,ne,nf,d⟩
 · have hfn:X.fn x=true:=by
     rcases hf with z | z
     · exact z
     · rw [z] at hk;cases hk
   obtain ⟨c,hc⟩:=I.ok.has x (.inl hk)
   obtain ⟨w',z⟩:=I.cell x c hc
   refine wpAny_storeName_cell I.ok.kind hk hc z (fun h' hc' hs=>?_)
   obtain ⟨oc,hoc,hocd⟩:=id z
   refine h { s with heap:=h' } ⟨I.ok,I.os,I.bare,⟨fun b o e n hb hx=>?_,fun b o e n hb hx=>?_,I.base.free,fun b o e hx=>?_,I.base.tups,I.base.frzs,I.base.tbls⟩,⟨m,hn.sameBut hs (Ne.symm (cne x c hc)),fun j y v' e1 e2 e3=>?_⟩,fun y c' e=>?_,I.free,I.freeC,fun p hp=>?_,tracked ⟨oc,hoc,I.freeC x c hc⟩ hs,by simpa using I.len⟩ ⟨c,hs,.inr hc⟩
   · exact (hs.2 b (Nat.ne_of_lt (Nat.lt_of_lt_of_le (Heap.lt_size e) (I.ok.cab x c hfn hc)))).trans (I.base.keep b o e n hb hx)
   · obtain ⟨sl,e1⟩:=I.base.slot b o e n hb hx
     exact ⟨sl,(hs.2 b (Nat.ne_of_lt (Nat.lt_of_lt_of_le (Heap.lt_size e) (I.ok.cab x c hfn hc)))).trans e1⟩
   · obtain ⟨o',e1⟩:=I.base.there b o e hx
     exact ⟨o',(hs.2 b (Nat.ne_of_lt (Nat.lt_of_lt_of_le (Heap.lt_size e) (I.ok.cab x c hfn hc)))).trans e1⟩
   · by_cases hj:j=i
     · subst hj
       rw [hi] at e1;cases e1
       rw [List.getElem?_set_self hiσ] at e2
       cases e2
       exact ⟨u,r,.inr ⟨.inl hk,c,hc,hc'⟩⟩
     · rw [List.getElem?_set_ne (Ne.symm hj)] at e2
       obtain ⟨u',r',q⟩:=hl j y v' e1 e2 e3
       refine ⟨u',r',?_⟩
       rcases q with q | ⟨k,c',e,z'⟩
       · exact .inl q
       · refine .inr ⟨k,c',e,z'.sameBut hs ?_⟩
         rintro rfl
         exact hj (UK hN e1 (I.ok.inj _ _ _ e hc ▸ hi))
   · by_cases hcc:c'=c
     · subst hcc;exact ⟨_,hc'⟩
     · obtain ⟨w2,z2⟩:=I.cell y c' e
       exact ⟨w2,z2.sameBut hs hcc⟩
   · obtain ⟨e,n,ne,nf,d⟩:=I.pin p hp
     refine ⟨(hs.2 p.1 ?_).trans e,n,ne,nf,d⟩
     intro q
     rw [q,hoc] at e
     have q':oc=p.2:=Option.some.inj e
     exact d w' (by rw [← q'];exact hocd)
theorem YQ {M:Model}{A:Around}{E:Value→Shared→Prop}{i:Nat}{x:Str}{v:V}{u:Value}{Q:Unit→Shared→Prop}(I:Inv X pins σ H s)(hN:X.N.Nodup)(hi:X.N[i]?=some x)(hx:Loc X.env.scope x)(r:RelV v u)
   (h:∀ s',Inv X pins (σ.set i (some v)) H s'→Q () s') (hf:X.fn x=true∨X.env.scope.names.lookup x=some .local:=by first | exact .inl rfl | exact .inr rfl | assumption):wpAny M A (storeName X.env x u) Q E s :=
 Zdr I hN hi hx r (fun s' I' _=>h s' I') hf
theorem Inv.call' {s':Shared}{ch:List Addr}(I:Inv X pins σ H s)(ho:s'.os=s.os)(u:Un (Yb X.stack) ch H H' s.heap s'.heap)(hok:HOk X.prog X.w H' s'.heap)(hg:AllBare s'.gens)
   (hch:∀ b∈ch,(b∈X.ex∨X.s₀.heap.objs.size≤b)∧b≠X.env.locals∧(∀ x c,X.env.cells.lookup x=some c→c≠b)∧∀ p∈X.pn++pins,p.1≠b):Inv X pins σ H' s':=by
 obtain ⟨h',g',d',t',o'⟩:=s'
 have e:o'=s.os:=ho
 subst e
 exact I.call (g':=g') (t':=t') (d':=d') u hok hg hch
end
abbrev XK:=Value→Option Addr→Hp→Prop
abbrev St:=List (Option V)
abbrev VK:=V→Hp→Prop
abbrev TE:=St→Hp→VK→Prop
abbrev TT:=St→Hp→(Bool→Hp→Prop)→Prop
abbrev TA:=St→Hp→(List V→Hp→Prop)→Prop
structure WX where
 nx:St→Hp→Prop
 rt:VK
 bk:St→Hp→Prop:=fun _ _=>False
 ct:St→Hp→Prop:=fun _ _=>False
abbrev TS:=WX→St→Hp→Prop
def EP (X:Cx)(pins:List (Addr×Obj))(σ:St)(Q:VK)(u:Value)(s':Shared):Prop:=∃ v H',Inv X pins σ H' s'∧RelV v u∧Q v H'
def TP (X:Cx)(pins:List (Addr×Obj))(σ:St)(Q:Bool→Hp→Prop)(b:Bool)(s':Shared):Prop:=∃ H',Inv X pins σ H' s'∧Q b H'
def AP (X:Cx)(pins:List (Addr×Obj))(σ:St)(Q:List V→Hp→Prop)(us:List Value)(s':Shared):Prop:=∃ vs H',Inv X pins σ H' s'∧Vals vs us∧Q vs H'
def SP (X:Cx)(pins:List (Addr×Obj))(D:WX)(f:Flow)(s':Shared):Prop :=
 match f with
 | .next=>∃ σ' H',Inv X pins σ' H' s'∧D.nx σ' H'
 | .brk=>∃ σ' H',Inv X pins σ' H' s'∧D.bk σ' H'
 | .cont=>∃ σ' H',Inv X pins σ' H' s'∧D.ct σ' H'
 | .ret u=>∃ v σ' H',Inv X pins σ' H' s'∧RelV v u∧D.rt v H'
def PE (X:Cx)(e:Expr)(t:TE):Prop :=
 ∀ (pins:List (Addr×Obj)) (s:Shared) (σ:St) (H:Hp) (Q:VK),Inv X pins σ H s→t σ H Q→wpAny (model X.prog X.w) X.A (eval e X.env) (EP X pins σ Q) X.xe s
def PT (X:Cx)(e:Expr)(t:TT):Prop :=
 ∀ (pins:List (Addr×Obj)) (s:Shared) (σ:St) (H:Hp) (Q:Bool→Hp→Prop),Inv X pins σ H s→t σ H Q→wpAny (model X.prog X.w) X.A (isTrue e X.env (eval e X.env)) (TP X pins σ Q) X.xe s
def PW (X:Cx)(e:Expr)(t:TT):Prop :=
 ∀ (whole:Sem Value) (pins:List (Addr×Obj)) (s:Shared) (σ:St) (H:Hp) (Q:Bool→Hp→Prop),Inv X pins σ H s→t σ H Q→wpAny (model X.prog X.w) X.A (isTrue e X.env whole) (TP X pins σ Q) X.xe s
theorem PW.pt {X:Cx}{e:Expr}{t:TT}(h:PW X e t):PT X e t:=h _
def PA (X:Cx)(es:List Expr)(t:TA):Prop :=
 ∀ (pos:Pos) (pins:List (Addr×Obj)) (s:Shared) (σ:St) (H:Hp) (Q:List V→Hp→Prop),Inv X pins σ H s→t σ H Q→wpAny (model X.prog X.w) X.A (spliced (backTo pos (starEach es X.env))) (AP X pins σ Q) X.xe s
def PS (X:Cx)(st:Stmt)(t:TS):Prop :=
 ∀ (pins:List (Addr×Obj)) (s:Shared) (σ:St) (H:Hp) (D:WX),Inv X pins σ H s→t D σ H→wpAny (model X.prog X.w) X.A (exec st X.env) (SP X pins D) X.xe s
def PSs (X:Cx)(st:List Stmt)(t:TS):Prop :=
 ∀ (pins:List (Addr×Obj)) (s:Shared) (σ:St) (H:Hp) (D:WX),Inv X pins σ H s→t D σ H→wpAny (model X.prog X.w) X.A (execs st X.env) (SP X pins D) X.xe s
theorem Zm {α:Type}{t:Sem α}{Q Q':α→Shared→Prop}{M:Model}{A:Around}{E:Value→Shared→Prop}{s:Shared}(h:wpAny M A t Q E s)(hQ:∀ a s,Q a s→Q' a s):wpAny M A t Q' E s:=wpAny_mono h hQ fun _ _ x=>x
end L2
namespace L2
open PySem PySem.Spec PyProof.Rows
section
variable {X:Cx}
def ZbA (i:Nat):TE:=fun σ H Q=>∃ v,σ[i]?=some (some v)∧Q v H
def tC (v:V):TE:=fun _ H Q=>Q v H
theorem Zeo {i:Nat}{x:Str}{pos:Pos}(hN:X.N[i]?=some x)(hv:Vis X.env.scope x)(hd:(x == ("__debug__":Str))=false:=by decide)(hcd:(x == ("__classdict__":Str))=false:=by decide):PE X (.Name x pos) (ZbA i):=by
 intro pins s σ H Q I h
 obtain ⟨v,e,h⟩:=h
 obtain ⟨m,hn,hl⟩:=I.loc
 obtain ⟨u,r,l⟩:=hl i x v hN e hv
 have fin:EP X pins σ Q u s:=⟨v,H,I,r,h⟩
 rcases l with ⟨hk,hm⟩ | ⟨hk,c,hc,hcell⟩
 · exact wpAny_Name (wpAny_loadName_local I.ok.kind hk hn hm fin) hd
 · rcases hk with hk | hk
   · exact wpAny_Name (wpAny_loadName_cell I.ok.kind hk hc hcell fin) hd
   · exact wpAny_Name (wpAny_loadName_free I.ok.kind hk hc hcell fin hcd) hd
theorem Ze {i j pos}:PE X (.Constant (.int i) j pos) (tC (.int i)):=fun _ _ _ H _ I h=>wpAny_Constant_int ⟨.int i,H,I.tok _,⟨_,rfl⟩,h⟩
theorem Xm {b j pos}:PE X (.Constant (.bool b) j pos) (tC (.bl b)):=fun _ _ _ H _ I h=>Constant_bool ⟨.bl b,H,I,rfl,h⟩
theorem YX {j pos}:PE X (.Constant .none j pos) (tC .non):=fun _ _ _ H _ I h=>Constant_none ⟨.non,H,I,rfl,h⟩
theorem Zz {x j pos}:PE X (.Constant (.str x) j pos) (tC (.str x)):=fun _ _ _ H _ I h=>Calls.Constant_str ⟨.str x,H,I.tok _,⟨_,rfl⟩,h⟩
def Gl (X:Cx)(x:Str):Prop:=X.env.kindOf x=some .globalImplicit
theorem Xy {E:Value→Shared→Prop}{pins:List (Addr×Obj)}{s:Shared}{σ:St}{H:Hp}{x:Str}{u:Value}{pos:Pos}{Q:Value→Shared→Prop}(I:Inv X pins σ H s)(hg:Gl X x)(hm:X.mg x=some u)(h:Q u s)
   (hd:(x == ("__debug__":Str))=false:=by decide):wpAny (model X.prog X.w) X.A (eval (.Name x pos) X.env) Q E s :=
 Calls.Name_function_global I.ok.kind hg (Calls.loadGlobal_global (by rw [I.ok.glob];exact I.mod.glob.keeps I.bk) hm h) hd
theorem WW {E:Value→Shared→Prop}{pins:List (Addr×Obj)}{s:Shared}{σ:St}{H:Hp}{x:Str}{u:Value}{pos:Pos}{Q:Value→Shared→Prop}(I:Inv X pins σ H s)(hg:Gl X x)(hm:X.mg x=none)(hv:bootBuiltins x=some u)(h:Q u s)
   (hn:x≠"__name__":=by decide) (hd:(x == ("__debug__":Str))=false:=by decide):wpAny (model X.prog X.w) X.A (eval (.Name x pos) X.env) Q E s:=by
 obtain ⟨mb,h1,h2⟩:=I.mod.blt
 exact Calls.Name_function_global I.ok.kind hg (Calls.loadGlobal_builtin (by rw [I.ok.glob];exact I.mod.glob.keeps I.bk) hm (by rw [I.ok.blt];exact h1.keeps I.bk) ((h2 x hn).trans hv) h) hd
theorem ZC {x:Str}{v:V}{u:Value}{pos:Pos}(hg:Gl X x)(hm:X.mg x=some u)(r:RelV v u)(hd:(x == ("__debug__":Str))=false:=by decide):PE X (.Name x pos) (tC v) :=
 fun _ _ _ H _ I h=>Xy I hg hm ⟨v,H,I,r,h⟩ hd
theorem ZgZ {x:Str}{v:V}{u:Value}{pos:Pos}(hg:Gl X x)(hm:X.mg x=none)(hv:bootBuiltins x=some u)(r:RelV v u)(hn:x≠"__name__":=by decide)(hd:(x == ("__debug__":Str))=false:=by decide):PE X (.Name x pos) (tC v) :=
 fun _ _ _ H _ I h=>WW I hg hm hv ⟨v,H,I,r,h⟩ hn hd
variable {a b:Expr}{ta tb:TE}{pos:Pos}
def PC (X:Cx)(op:CmpOp)(a b:Expr)(t:TE):Prop :=
 ∀ (pins:List (Addr×Obj)) (s:Shared) (σ:St) (H:Hp) (Q:VK),Inv X pins σ H s→t σ H Q →
   wpAny (model X.prog X.w) X.A (eval a X.env) (fun v s₁=>wpAny (model X.prog X.w) X.A (eval b X.env) (fun u s₂=>wpAny (model X.prog X.w) X.A (compareOp op v u) (EP X pins σ Q) X.xe s₂) X.xe s₁) X.xe s
theorem ZeN (b:Expr){op:CmpOp}(h:op≠.In)(h2:op≠.NotIn):behindInMarks op b=false:=by
 have e1:(op == CmpOp.In)=false:=by cases op<;>first | rfl | exact absurd rfl h
 have e2:(op == CmpOp.NotIn)=false:=by cases op<;>first | rfl | exact absurd rfl h2
 cases b<;>simp [behindInMarks,e1,e2]
def tIsN (ta:TE):TE:=fun σ H Q=>ta σ H fun x H1=>Q (.bl (decide (x=.non))) H1
theorem RelV.none_iff {x:V}{v:Value}(r:RelV x v):(v == Value.none)=decide (x=.non):=by
 cases x with
 | non=>cases r;rfl
 | bl _=>cases r;rfl
 | int _=>obtain ⟨t,rfl⟩:=r;rfl
 | str _=>obtain ⟨t,rfl⟩:=r;rfl
 | byt _=>obtain ⟨t,rfl⟩:=r;rfl
 | flt _=>obtain ⟨t,rfl⟩:=r;rfl
 | ref _=>cases r;rfl
 | ty _=>cases r;rfl
theorem Vo {j pos'}(ha:PE X a ta):PC X .Is a (.Constant .none j pos') (tIsN ta):=by
 intro pins s σ H Q I h
 refine Zm (ha pins s σ H _ I h) fun v s1 ⟨x,H1,I1,r1,q1⟩=>?_
 exact Constant_none (is_none_gen ⟨.bl _,H1,I1,by rw [r1.none_iff];rfl,q1⟩)
def tB (t:TE):TT:=fun σ H Q=>t σ H fun x H1=>∃ c,x=.bl c∧Q c H1
theorem XL {op:CmpOp}{t:TE}(h:PC X op a b t)(h1:behindInMarks op b=false:=by first | exact ZeN _ (by decide) (by decide) | rfl):PT X (.Compare a [op] [b] pos) (tB t):=by
 intro pins s σ H Q I hw
 refine wpAny_isTrue_Compare1 (Zm (h pins s σ H _ I hw) fun v s1 h1=>Zm h1 fun u s2 h2=>Zm h2 fun c s3 ⟨x,H1,I1,r1,q1⟩=>?_) h1
 obtain ⟨d,rfl,q⟩:=q1
 cases r1
 exact wpAny_truthy_bool ⟨H1,I1,q⟩
theorem ZaO {e:Expr}{t:TE}(h:PE X e t)(he:∀ whole,isTrue e X.env whole=(do let v ← whole;standAt e.pos;holding [v] (truthy v)):=by intro _;rfl):PT X e (tB t):=by
 intro pins s σ H Q I hw
 refine isTrue_plain (Zm (h pins s σ H _ I hw) fun v s1 ⟨x,H1,I1,r1,q1⟩=>?_) (he _)
 obtain ⟨d,rfl,q⟩:=q1
 cases r1
 exact wpAny_truthy_bool ⟨H1,I1,q⟩
variable {tA tB':TT}{rest:List Expr}
def tOr (t u:TT):TT:=fun σ H Q=>t σ H fun c H1=>if c=true then Q true H1 else u σ H1 Q
def tNot (t:TT):TT:=fun σ H Q=>t σ H fun c H1=>Q (!c) H1
theorem Zig (ha:PT X a tA):PW X (.BoolOp .Or [a] pos) tA:=by
 intro wh pins s σ H Q I h
 refine isTrue_or (Zm (ha pins s σ H Q I h) fun c s1 e=>?_)
 cases c with
 | false=>exact isTrue_or_nil e
 | true=>exact e
theorem Zje (ha:PT X a tA)(hb:PW X (.BoolOp .Or (b::rest) pos) tB'):PW X (.BoolOp .Or (a::b::rest) pos) (tOr tA tB'):=by
 intro wh pins s σ H Q I h
 refine isTrue_or (Zm (ha pins s σ H _ I h) fun c s1 ⟨H1,I1,q1⟩=>?_)
 cases c with
 | true=>exact ⟨H1,I1,q1⟩
 | false=>exact hb wh pins s1 σ H1 Q I1 q1
theorem Zbm (ha:PT X a tA):PT X (.UnaryOp .Not a pos) (tNot tA):=by
 intro pins s σ H Q I h
 exact isTrue_not (ha pins s σ H (fun c H1=>Q (!c) H1) I h)
def Zjw (ta tb:TE):TE:=fun σ H Q=>ta σ H fun x H1=>∃ c,x=.bl c∧if c=true then tb σ H1 Q else Q (.bl false) H1
def Zjx (ta:TE):TE:=fun σ H Q=>ta σ H fun x H1=>∃ c,x=.bl c∧Q (.bl (!c)) H1
theorem Ziu {op}{t:TE}(h:PE X a t):PE X (.BoolOp op [a] pos) t:=fun pins s σ H Q I hw=>BoolOp_one (h pins s σ H Q I hw)
theorem ZiI (ha:PE X a ta)(hb:PE X (.BoolOp .And (b::rest) pos) tb):PE X (.BoolOp .And (a::b::rest) pos) (Zjw ta tb):=by
 intro pins s σ H Q I h
 refine BoolOp_and (Zm (ha pins s σ H _ I h) fun v s1 ⟨x,H1,I1,r1,q1⟩=>?_)
 obtain ⟨c,rfl,q1⟩:=q1
 cases r1
 refine wpAny_truthy_bool ?_
 cases c with
 | true=>exact hb pins s1 σ H1 Q I1 q1
 | false=>exact ⟨.bl false,H1,I1,rfl,q1⟩
theorem ZhO (ha:PE X a ta):PE X (.UnaryOp .Not a pos) (Zjx ta):=by
 intro pins s σ H Q I h
 refine UnaryOp_ (Zm (ha pins s σ H _ I h) fun v s1 ⟨x,H1,I1,r1,q1⟩=>?_)
 obtain ⟨c,rfl,q1⟩:=q1
 cases r1
 exact not_of (wpAny_truthy_bool ⟨.bl (!c),H1,I1,rfl,q1⟩)
def tIf (t:TT)(ta tb:TE):TE:=fun σ H Q=>t σ H fun c H1=>if c=true then ta σ H1 Q else tb σ H1 Q
theorem Ym {c:Expr}(hc:PT X c tA)(ha:PE X a ta)(hb:PE X b tb):PE X (.IfExp c a b pos) (tIf tA ta tb):=by
 intro pins s σ H Q I h
 refine wpAny_IfExp (Zm (hc pins s σ H _ I h) fun d s1 ⟨H1,I1,q1⟩=>?_)
 cases d with
 | true=>exact ha pins s1 σ H1 Q I1 q1
 | false=>exact hb pins s1 σ H1 Q I1 q1
end
end L2
namespace L2
open PySem PySem.Spec PyProof.Rows
def SqL (K:PySem.W.Frag)(H:Hp)(a:Addr)(xs:List V):Prop :=
 Rd H a (.lst xs) ∨
   ∃ (o:Obj) (its:Array Value) (n:Nat),K.lookup a=some o∧o.cls=.type "list"∧o.dict=none∧o.data=.seq its n∧its.size≤sizeLine∧Vals xs its.toList
def SqT (K:PySem.W.Frag)(H:Hp)(a:Addr)(xs:List V):Prop :=
 Rd H a (.tup xs) ∨
   ∃ (o:Obj) (its:Array Value) (n:Nat),K.lookup a=some o∧o.cls=.type "tuple"∧o.data=.seq its n∧its.size≤sizeLine∧Vals xs its.toList
def Zdf:Value→Option V
 | .none=>some .non
 | .bool b=>some (.bl b)
 | .int i _=>some (.int i)
 | .str x _=>some (.str x)
 | .bytes b _=>some (.byt b)
 | .float b _=>some (.flt b)
 | .ref a=>some (.ref a)
 | .type n=>some (.ty n)
 | _=>none
theorem RelV.abs {x:V}{u:Value}(r:RelV x u):Zdf u=some x:=by
 cases x with
 | non=>cases r;rfl
 | bl _=>cases r;rfl
 | int _=>obtain ⟨t,rfl⟩:=r;rfl
 | str _=>obtain ⟨t,rfl⟩:=r;rfl
 | byt _=>obtain ⟨t,rfl⟩:=r;rfl
 | flt _=>obtain ⟨t,rfl⟩:=r;rfl
 | ref _=>cases r;rfl
 | ty _=>cases r;rfl
theorem RelV.inj {x y:V}{u:Value}(r:RelV x u)(q:RelV y u):x=y:=Option.some.inj (r.abs.symm.trans q.abs)
theorem Vals.inj:∀{xs ys:List V}{us:List Value},Vals xs us→Vals ys us→xs=ys
 | _,_,_,.nil,.nil=>rfl
 | _,_,_,.cons r t,.cons r' t'=>by rw [r.inj r',Vals.inj t t']
section
variable {X:Cx}{pins:List (Addr×Obj)}{σ:St}{H:Hp}{s:Shared}{a:Addr}{xs ys:List V}
theorem SqL.of {K:PySem.W.Frag}(h:H a=some (.lst xs)):SqL K H a xs:=.inl (.inl h)
theorem SqT.of {K:PySem.W.Frag}(h:H a=some (.tup xs)):SqT K H a xs:=.inl (.inl h)
theorem Inv.list (I:Inv X pins σ H s)(h:SqL X.K H a xs):∃ its:List Value,Vals xs its∧PlainL s.heap a its.toArray∧xs.length≤sizeLine:=by
 rcases h with h | ⟨o,its,n,hk,hc,hd,hs,hz,r⟩
 · obtain ⟨z,its,n,r,e⟩:=h.ok I.hok
   exact ⟨its,r,⟨_,n,e,rfl,rfl,rfl⟩,z⟩
 · refine ⟨its.toList,r,⟨o,n,I.kIn a o hk,hc,hd,by simpa using hs⟩,?_⟩
   have e:=r.length
   simp only [Array.length_toList] at e
   omega
theorem Inv.tuple (I:Inv X pins σ H s)(h:SqT X.K H a xs):∃ its:List Value,Vals xs its∧IsTup s.heap a its.toArray∧xs.length≤sizeLine:=by
 rcases h with h | ⟨o,its,n,hk,hc,hs,hz,r⟩
 · obtain ⟨z,its,r,p⟩:=h.ok I.hok
   exact ⟨its,r,p,z⟩
 · refine ⟨its.toList,r,⟨o,I.kIn a o hk,hc,n,by simpa using hs⟩,?_⟩
   have e:=r.length
   simp only [Array.length_toList] at e
   omega
theorem Inv.list_inj (I:Inv X pins σ H s)(h:SqL X.K H a xs)(h':SqL X.K H a ys):xs=ys:=by
 obtain ⟨its,r,⟨o,n,e,_,_,d⟩,_⟩:=I.list h
 obtain ⟨its',r',⟨o',n',e',_,_,d'⟩,_⟩:=I.list h'
 rw [e] at e';cases e'
 rw [d] at d'
 injection d' with d1 _
 have:its=its':=by simpa using congrArg Array.toList d1
 subst this
 exact r.inj r'
end
abbrev Cx.wish (X:Cx)(E:Value→Shared→Prop):Cx:={ X with xe:=E }
abbrev Cx.nox (X:Cx):Cx:=X.wish fun _ _=>False
theorem Cx.Ok.wish {X:Cx}(ok:X.Ok)(E:Value→Shared→Prop):(X.wish E).Ok :=
 ⟨ok.mod,ok.kind,ok.glob,ok.blt,ok.above,ok.inj,ok.has,ok.cab,ok.hd,ok.frames,ok.stk,ok.exf,ok.bs,ok.bsz,ok.noex,ok.exfs,ok.funs,ok.frf⟩
theorem Cx.Ok.unwish {X:Cx}{E:Value→Shared→Prop}(ok:(X.wish E).Ok):X.Ok :=
 ⟨ok.mod,ok.kind,ok.glob,ok.blt,ok.above,ok.inj,ok.has,ok.cab,ok.hd,ok.frames,ok.stk,ok.exf,ok.bs,ok.bsz,ok.noex,ok.exfs,ok.funs,ok.frf⟩
section
variable {X:Cx}{pins:List (Addr×Obj)}{σ:St}{H:Hp}{s:Shared}{E:Value→Shared→Prop}
theorem Inv.wish (I:Inv X pins σ H s)(E:Value→Shared→Prop):Inv (X.wish E) pins σ H s:=⟨I.ok.wish E,I.os,I.bare,I.base,I.loc,I.cell,I.free,I.freeC,I.pin,I.hok,I.len⟩
theorem Inv.unwish (I:Inv (X.wish E) pins σ H s):Inv X pins σ H s:=⟨I.ok.unwish,I.os,I.bare,I.base,I.loc,I.cell,I.free,I.freeC,I.pin,I.hok,I.len⟩
theorem SP.unwish {D:WX}{f:Flow}{s':Shared}(h:SP (X.wish E) pins D f s'):SP X pins D f s':=by
 cases f with
 | next=>obtain ⟨σ',H',I,q⟩:=h;exact ⟨σ',H',I.unwish,q⟩
 | brk=>obtain ⟨σ',H',I,q⟩:=h;exact ⟨σ',H',I.unwish,q⟩
 | cont=>obtain ⟨σ',H',I,q⟩:=h;exact ⟨σ',H',I.unwish,q⟩
 | ret u=>obtain ⟨v,σ',H',I,r,q⟩:=h;exact ⟨v,σ',H',I.unwish,r,q⟩
theorem PSs.nox {st:List Stmt}{t:TS}(h:PSs X.nox st t):PSs X st t:=fun pins s σ H D I hw =>
 wpAny_mono (h pins s σ H D (I.wish _) hw) (fun _ _ q=>q.unwish) fun _ _ z=>False.elim z
end
section
variable {X:Cx}{st:Stmt}{rest:List Stmt}{t u:TS}{e:Expr}{te:TE}{pos:Pos}
def ZjA:TS:=fun D σ H=>D.nx σ H
def tSeq (t u:TS):TS:=fun D σ H=>t { D with nx:=u D } σ H
theorem ZJ:PSs X [] ZjA:=fun _ _ σ H _ I h=>wpAny_execs_nil ⟨σ,H,I,h⟩
theorem Zh (h1:PS X st t)(h2:PSs X rest u):PSs X (st::rest) (tSeq t u):=by
 intro pins s σ H D I h
 refine wpAny_execs_cons (Zm (h1 pins s σ H { D with nx:=u D } I h) fun f s1 q=>?_)
 cases f with
 | next =>
   obtain ⟨σ',H',I',q⟩:=q
   exact h2 pins s1 σ' H' D I' q
 | ret v=>exact q
 | brk=>exact q
 | cont=>exact q
theorem Zj (h1:PS X st t):PSs X [st] t:=by
 intro pins s σ H D I h
 refine wpAny_execs_cons (Zm (h1 pins s σ H D I h) fun f s1 q=>?_)
 cases f with
 | next=>exact wpAny_execs_nil q
 | ret v=>exact q
 | brk=>exact q
 | cont=>exact q
theorem Inv.quiet {pins:List (Addr×Obj)}{σ:St}{H:Hp}{s:Shared}(I:Inv X pins σ H s):interactive X.env=false:=by simp [interactive,I.ok.kind]
def Zjh (te:TE):TS:=fun D σ H=>te σ H fun _ H1=>D.nx σ H1
theorem YG (he:PE X e te)(hs:swapsWith e none pos.line X.env=pure false:=by rfl):PS X (.Expr e pos) (Zjh te):=by
 intro pins s σ H D I h
 exact wpAny_Expr_any (Zm (he pins s σ H _ I h) fun v s1 ⟨x,H1,I1,r1,q1⟩=>⟨σ,H1,I1,q1⟩) I.quiet hs
def tRet (te:TE):TS:=fun D σ H=>te σ H D.rt
theorem Zv (he:PE X e te):PS X (.Return (some e) pos) (tRet te):=by
 intro pins s σ H D I h
 exact wpAny_Return_some (Zm (he pins s σ H _ I h) fun v s1 ⟨x,H1,I1,r1,q1⟩=>⟨x,σ,H1,I1,r1,q1⟩)
def Zfb (c:TT)(t u:TS):TS:=fun D σ H=>c σ H fun b H1=>if b=true then t D σ H1 else u D σ H1
theorem Yg {c:Expr}{a b:List Stmt}{tc:TT}(hc:PT X c tc)(ha:PSs X a t)(hb:PSs X b u):PS X (.If c a b pos) (Zfb tc t u):=by
 intro pins s σ H D I h
 refine wpAny_If (Zm (hc pins s σ H _ I h) fun d s1 ⟨H1,I1,q1⟩=>?_)
 cases d with
 | true=>exact ha pins s1 σ H1 D I1 q1
 | false=>exact hb pins s1 σ H1 D I1 q1
end
abbrev TG:=V→St→Hp→(St→Hp→Prop)→Prop
abbrev TGs:=List V→St→Hp→(St→Hp→Prop)→Prop
def PG (X:Cx)(target:Expr)(t:TG):Prop :=
 ∀ (pins:List (Addr×Obj)) (s:Shared) (σ:St) (H:Hp) (v:V) (u:Value) (Q:St→Hp→Prop),Inv X pins σ H s→RelV v u→t v σ H Q →
   wpAny (model X.prog X.w) X.A (assign target X.env u) (fun _ s'=>∃ σ' H',Inv X pins σ' H' s'∧Q σ' H') X.xe s
def PGs (X:Cx)(ts:List Expr)(t:TGs):Prop :=
 ∀ (pins:List (Addr×Obj)) (s:Shared) (σ:St) (H:Hp) (vs:List V) (us:List Value) (Q:St→Hp→Prop),Inv X pins σ H s→Vals vs us→t vs σ H Q →
   wpAny (model X.prog X.w) X.A (assignInOrder ((assignEach ts X.env).map (·.2)) us) (fun _ s'=>∃ σ' H',Inv X pins σ' H' s'∧Q σ' H') X.xe s
abbrev Zfh:=V→V→V→Hp→(Hp→Prop)→Prop
def PSet (X:Cx)(t:Zfh):Prop :=
 ∀ (pins:List (Addr×Obj)) (s:Shared) (σ:St) (H:Hp) (o i v:V) (ov iv u:Value) (Q:Hp→Prop),Inv X pins σ H s→RelV o ov→RelV i iv→RelV v u→t o i v H Q →
   wpAny (model X.prog X.w) X.A (setItem ov iv u) (fun _ s'=>∃ H',Inv X pins σ H' s'∧Q H') X.xe s
abbrev TIp:=V→V→Hp→VK→Prop
def PIp (X:Cx)(op:Operator)(t:TIp):Prop :=
 ∀ (pins:List (Addr×Obj)) (s:Shared) (σ:St) (H:Hp) (x y:V) (v u:Value) (Q:VK),Inv X pins σ H s→RelV x v→RelV y u→t x y H Q →
   wpAny (model X.prog X.w) X.A (inplaceOp op v u) (EP X pins σ Q) X.xe s
section
variable {X:Cx}{pos:Pos}
def ZfX (i:Nat):TG:=fun v σ H Q=>Q (σ.set i (some v)) H
theorem ZL {i:Nat}{x:Str}(hN:X.N.Nodup)(hi:X.N[i]?=some x)(hx:Loc X.env.scope x)(hf:X.fn x=true∨X.env.scope.names.lookup x=some .local:=by first | exact .inl rfl | exact .inr rfl | assumption):PG X (.Name x pos) (ZfX i):=by
 intro pins s σ H v u Q I r h
 exact wpAny_assign_Name (YQ I hN hi hx r (fun s' I'=>⟨_,H,I',h⟩) hf)
def gNil:TGs:=fun vs σ H Q=>vs=[]∧Q σ H
def ZjO (t:TG)(u:TGs):TGs:=fun vs σ H Q=>∃ v r,vs=v::r∧t v σ H fun σ' H'=>u r σ' H' Q
theorem Xz:PGs X [] gNil:=by
 intro pins s σ H vs us Q I r h
 obtain ⟨e,h⟩:=h
 subst e
 cases r
 exact assignInOrder_nil ⟨σ,H,I,h⟩
theorem ZW {e:Expr}{es:List Expr}{t:TG}{u:TGs}(h1:PG X e t)(h2:PGs X es u)
   (hs:(assignEach (e::es) X.env).map (·.2)=assign e X.env::(assignEach es X.env).map (·.2):=by rfl):PGs X (e::es) (ZjO t u):=by
 intro pins s σ H vs us Q I r h
 obtain ⟨v,vr,e1,h⟩:=h
 subst e1
 cases r with
 | cons r rr =>
   rw [hs]
   refine assignInOrder_cons (Zm (h1 pins s σ H _ _ _ I r h) fun _ s1 ⟨σ1,H1,I1,q1⟩=>?_)
   exact h2 pins s1 σ1 H1 _ _ Q I1 rr q1
def gTup (K:PySem.W.Frag)(n:Nat)(t:TGs):TG:=fun v σ H Q=>∃ a xs,v=.ref a∧SqT K H a xs∧xs.length=n∧t xs σ H Q
theorem Wl {es:List Expr}{k:Nat}{t:TGs}{n:Nat}(hc:X.calm=true)(h:PGs X es t)
   (hn:(assignEach es X.env).length=n:=by rfl) (hst:(assignEach es X.env).findIdx? (·.1)=none:=by rfl):PG X (.Tuple es k pos) (gTup X.K n t):=by
 intro pins s σ H v u Q I r hw
 obtain ⟨a,xs,e1,hq,hl,hw⟩:=hw
 subst e1
 cases r
 obtain ⟨its,rv,ht,hz⟩:=I.tuple hq
 refine assign_Tuple_tuple (I.ok.hd hc) ht (by simp [hn,← hl,rv.length]) hst fun h' hx=>?_
 have I1:Inv X pins σ H { s with heap:=h' }:=I.kept (t':=s.toks) fun b o e=>hx b o (Nat.ne_of_lt (Heap.lt_size e)) e
 exact h pins _ σ H xs _ Q I1 (by simpa using rv) hw
def gSub (to ti:TE)(t:Zfh):TG:=fun v σ H Q=>to σ H fun o H1=>ti σ H1 fun i H2=>t o i v H2 fun H3=>Q σ H3
theorem Zef {o i:Expr}{to ti:TE}{t:Zfh}(ho:PE X o to)(hi:PE X i ti)(hs:PSet X t)
   (ha:∀ v,assign (.Subscript o i pos) X.env v=(do
     let ov ← holding [v] (eval o X.env)
     let iv ← holding [v,ov] (eval i X.env)
     standAt pos
     holding [v,ov,iv] (setItem ov iv v)
     release [v,ov,iv] []):=by intro _;rfl):PG X (.Subscript o i pos) (gSub to ti t):=by
 intro pins s σ H v u Q I r h
 rw [ha]
 refine wpAny_bind (wpAny_holding (Zm (ho pins s σ H _ I h) fun ov s1 ⟨x,H1,I1,r1,q1⟩=>?_))
 refine wpAny_bind (wpAny_holding (Zm (hi pins s1 σ H1 _ I1 q1) fun iv s2 ⟨y,H2,I2,r2,q2⟩=>?_))
 refine wpAny_bind (wpAny_standAt (wpAny_bind (wpAny_holding (Zm (hs pins s2 σ H2 x y v ov iv u _ I2 r1 r2 r q2) fun _ s3 ⟨H3,I3,q3⟩=>?_))))
 exact wpAny_release ⟨σ,H3,I3,q3⟩
def tAsg (te:TE)(g:TG):TS:=fun D σ H=>te σ H fun x H1=>g x σ H1 D.nx
theorem Wq {tg e:Expr}{te:TE}{g:TG}(he:PE X e te)(hg:PG X tg g)(hs:swapsWithSole [tg] e pos.line X.env=pure false:=by rfl)(hw:swappedStores [tg] e X.env=pure none:=by rfl)
   (h1:(assignEach [tg] X.env).map (·.2)=[assign tg X.env]:=by rfl):PS X (.Assign [tg] e pos) (tAsg te g):=by
 intro pins s σ H D I h
 refine wpAny_Assign_stores (Zm (he pins s σ H _ I h) fun v s1 ⟨x,H1,I1,r1,q1⟩=>?_) hs hw
 rw [h1]
 exact Zm (hg pins s1 σ H1 x v _ I1 r1 q1) fun _ s2 q=>q
theorem Zw {i:Nat}{x:Str}{e:Expr}{te:TE}{pos':Pos}(hN:X.N.Nodup)(hi:X.N[i]?=some x)(hx:Loc X.env.scope x)(he:PE X e te)(hs:swapsWith e (some (.Name x pos')) pos.line X.env=pure false:=by rfl)(hf:X.fn x=true∨X.env.scope.names.lookup x=some .local:=by first | exact .inl rfl | exact .inr rfl | assumption) :
   PS X (.Assign [.Name x pos'] e pos) (tAsg te (ZfX i)):=by
 intro pins s σ H D I h
 refine wpAny_Assign_Name (Zm (he pins s σ H _ I h) fun v s1 ⟨y,H1,I1,r1,q1⟩=>?_) hs
 exact YQ I1 hN hi hx r1 (fun s2 I2=>⟨_,H1,I2,q1⟩) hf
def tAug (i:Nat)(te:TE)(ti:TIp):TS:=fun D σ H=>∃ x,σ[i]?=some (some x)∧te σ H fun y H1=>ti x y H1 fun z H2=>D.nx (σ.set i (some z)) H2
theorem Zhy {i:Nat}{x:Str}{e:Expr}{te:TE}{op:Operator}{ti:TIp}{pos':Pos}(hN:X.N.Nodup)(hi:X.N[i]?=some x)(hx:Loc X.env.scope x)(he:PE X e te)(ho:PIp X op ti)(hf:X.fn x=true∨X.env.scope.names.lookup x=some .local:=by first | exact .inl rfl | exact .inr rfl | assumption) :
   PS X (.AugAssign (.Name x pos') op e pos) (tAug i te ti):=by
 intro pins s σ H D I h
 obtain ⟨v,e1,h⟩:=h
 obtain ⟨m,hn,hl⟩:=I.loc
 have vis:Vis X.env.scope x:=by rcases hx with k | k;exact .inl k;exact .inr (.inl k)
 obtain ⟨u,r,l⟩:=hl i x v hi e1 vis
 refine wpAny_AugAssign_Name ?_
 have go:wpAny (model X.prog X.w) X.A (eval e X.env) (fun w s₂=>wpAny (model X.prog X.w) X.A (inplaceOp op u w) (fun r s₃=>wpAny (model X.prog X.w) X.A (storeName X.env x r) (fun _=>SP X pins D .next) X.xe s₃) X.xe s₂) X.xe s:=by
   refine Zm (he pins s σ H _ I h) fun w s1 ⟨y,H1,I1,r1,q1⟩=>?_
   refine Zm (ho pins s1 σ H1 v y u w _ I1 r r1 q1) fun z s2 ⟨zv,H2,I2,r2,q2⟩=>?_
   exact YQ I2 hN hi hx r2 (fun s3 I3=>⟨_,H2,I3,q2⟩) hf
 rcases l with ⟨hk,hm⟩ | ⟨hk,c,hc,hcell⟩
 · exact wpAny_loadName_local I.ok.kind hk hn hm go
 · rcases hk with hk | hk
   · exact wpAny_loadName_cell I.ok.kind hk hc hcell go
   · rcases hx with k | k
     · have:X.env.scope.names.lookup x=some .free:=hk
       rw [k] at this;cases this
     · have:X.env.scope.names.lookup x=some .free:=hk
       rw [k] at this;cases this
def ipI (f:Int→Int→Int):TIp:=fun x y H Q=>∃ i j,x=.int i∧y=.int j∧Q (.int (f i j)) H
theorem ZhU:PIp X .Add (ipI fun i j=>i+j):=by
 intro pins s σ H x y v u Q I r1 r2 h
 obtain ⟨i,j,e1,e2,q⟩:=h
 subst e1;subst e2
 obtain ⟨t,rfl⟩:=r1
 obtain ⟨t',rfl⟩:=r2
 exact iadd_int ⟨.int _,H,I.tok _,⟨_,rfl⟩,q⟩
end
section
variable {X:Cx}{pos:Pos}
def ZhW (c:TT)(tb:TS):TS:=fun D σ H=>∃ W:Nat→St→Hp→Prop,(∃ m,W m σ H)∧∀ m σ H,W m σ H →
 c σ H fun b H1=>if b=true then ∃ N:St→Hp→Prop,(∀ σ' H',N σ' H'→∃ m',m' < m∧W m' σ' H')∧tb { D with nx:=N,ct:=N,bk:=D.nx } σ H1 else D.nx σ H1
theorem ZeI {c:Expr}{body:List Stmt}{tc:TT}{tb:TS}(hp:PassesOwn (model X.prog X.w) X.A X.env X.xe)(hc:PT X c tc)(hb:PSs X body tb):PS X (.While c body [] pos) (ZhW tc tb):=by
 intro pins s σ H D I h
 obtain ⟨W,⟨m0,w0⟩,turn⟩:=h
 refine wpAny_While (codeAny_whileLoop (fun n s'=>∃ σ' H',Inv X pins σ' H' s'∧W n σ' H') ?_ m0 ⟨σ,H,I,w0⟩)
 rintro n s1 ⟨σ1,H1,I1,w1⟩
 refine wpAny_passesOwn hp (Zm (hc pins s1 σ1 H1 _ I1 (turn n σ1 H1 w1)) fun b s2 ⟨H2,I2,q2⟩=>?_)
 cases b with
 | true =>
   obtain ⟨N,hN,q2⟩:=q2
   rw [if_pos rfl]
   refine wpAny_passesOwn hp (Zm (hb pins s2 σ1 H2 _ I2 q2) fun f s3 q3=>?_)
   cases f with
   | next =>
     obtain ⟨σ3,H3,I3,n3⟩:=q3
     obtain ⟨m',hm,w3⟩:=hN σ3 H3 n3
     exact ⟨m',hm,σ3,H3,I3,w3⟩
   | cont =>
     obtain ⟨σ3,H3,I3,n3⟩:=q3
     obtain ⟨m',hm,w3⟩:=hN σ3 H3 n3
     exact ⟨m',hm,σ3,H3,I3,w3⟩
   | brk=>exact q3
   | ret v=>exact q3
 | false =>
   rw [if_neg Bool.false_ne_true]
   exact wpAny_execs_nil ⟨σ1,H2,I2,q2⟩
end
structure It where
 go:Nat→Hp→Prop
 yld:Nat→Hp→V→Hp→Prop
 stop:Nat→Hp→Prop
def Xi (X:Cx)(pins:List (Addr×Obj))(H:Hp)(b:Addr):Prop :=
 H b=none∧b≠X.env.locals∧b ∉ X.fs∧(b∈X.ex∨X.s₀.heap.objs.size≤b)∧(∀ x c,X.env.cells.lookup x=some c→c≠b)∧∀ p∈X.pn++pins,p.1≠b
theorem Inv.fpOk {X:Cx}{pins:List (Addr×Obj)}{σ:St}{H H':Hp}{s:Shared}{b:Addr}(I:Inv X pins σ H s)(hb:s.heap.objs.size≤b)(hn:H' b=none):Xi X pins H' b:=by
 refine ⟨hn,Nat.ne_of_gt (Nat.lt_of_lt_of_le I.lt hb),I.nofs hb,.inr (Nat.le_trans I.sz hb),fun x c e z=>?_,fun p hp z=>?_⟩
 · obtain ⟨v,q⟩:=I.cell x c e
   exact absurd (Nat.lt_of_lt_of_le q.lt (by rw [z];exact hb)) (Nat.lt_irrefl _)
 · exact absurd (Nat.lt_of_lt_of_le (Heap.lt_size (I.pin p hp).1) (by rw [z];exact hb)) (Nat.lt_irrefl _)
structure ZaL (P:Program)(w:World)(K:PySem.W.Frag)(tg:Expr)(J:It)(fp:List Addr)(it:Addr)(tn:Nat→Heap→Prop):Prop where
 mem:it∈fp
 obj:∀ i h,tn i h→∀ b∈fp,∃ o,h.get? b=some o∧∀ v,o.data≠.cell v
 keep:∀ i h h',tn i h→(∀ b∈fp,∀ o,h.get? b=some o→h'.get? b=some o)→tn i h'
 item:∀ (X:Cx),X.prog=P→X.w=w→X.K=K→X.calm=true→∀ (i:Nat) (pins:List (Addr×Obj)) (s:Shared) (σ:St) (H:Hp) (E:Value→Shared→Prop),Inv X pins σ H s→(∀ b∈fp,Xi X pins H b)→tn i s.heap→J.go i H →
   wpAny (model P w) X.A (pyNext (.ref it)) (fun r s1=>∃ u,r=some u ∧
     wpAny (model P w) X.A (letOwnedTupleGo tg (.ref it) u) (fun _ s2=>∃ x H',Inv X pins σ H' s2∧RelV x u∧J.yld i H x H'∧tn (i+1) s2.heap∧∀ b∈fp,H' b=none) E s1) E s
 done:∀ (X:Cx),X.prog=P→X.w=w→X.K=K→X.calm=true→∀ (i:Nat) (pins:List (Addr×Obj)) (s:Shared) (σ:St) (H:Hp) (E:Value→Shared→Prop),Inv X pins σ H s→(∀ b∈fp,Xi X pins H b)→tn i s.heap→J.stop i H →
   wpAny (model P w) X.A (pyNext (.ref it)) (fun r s1=>r=none∧Inv X pins σ H s1) E s
 self:∀ (A:Around) (i:Nat) (s:Shared) (Q:Value→Shared→Prop) (E:Value→Shared→Prop),tn i s.heap→Q (.ref it) s→wpAny (model P w) A (pyIter (.ref it)) Q E s
abbrev TI:=St→Hp→(It→Hp→Prop)→Prop
def PIE (X:Cx)(pins:List (Addr×Obj))(σ:St)(tg:Expr)(R:It→Hp→Prop)(itv:Value)(s2:Shared):Prop :=
 ∃ (it:Addr) (fp:List Addr) (tn:Nat→Heap→Prop) (J:It) (H':Hp),itv=.ref it∧Inv X pins σ H' s2∧ZaL X.prog X.w X.K tg J fp it tn∧tn 0 s2.heap∧(∀ b∈fp,Xi X pins H' b)∧R J H'
def PI (X:Cx)(tg iter:Expr)(wi:TI):Prop :=
 ∀ (pins:List (Addr×Obj)) (s:Shared) (σ:St) (H:Hp) (R:It→Hp→Prop),Inv X pins σ H s→wi σ H R →
   wpAny (model X.prog X.w) X.A (eval iter X.env) (fun v s1=>wpAny (model X.prog X.w) X.A (pyIter v) (PIE X pins σ tg R) X.xe s1) X.xe s
theorem ZfY {M:Model}{A:Around}{E:Value→Shared→Prop}{s:Shared}{tg:Expr}{it:Addr}{u:Value}{o:Obj}{n:String}{vs:Array Value}{Q:Unit→Shared→Prop}(ho:s.heap.get? it=some o)(hc:o.cls=.type n)(hd:o.data=.fields vs)
   (hn:["enumerate","zip","dict_itemiterator","dict_reverseitemiterator","odict_iterator","itertools.zip_longest","itertools.pairwise"].contains n=false) (hQ:Q () s):wpAny M A (letOwnedTupleGo tg (.ref it) u) Q E s:=by
 unfold letOwnedTupleGo
 cases tg <;> first
   | exact wpAny_pure hQ
   | (cases u<;>first
       | exact wpAny_pure hQ
       | (refine wpAny_bind (wpAny_load ho ?_)
          rw [hc,hd]
          show wpAny M A (if (["enumerate","zip","dict_itemiterator","dict_reverseitemiterator","odict_iterator","itertools.zip_longest","itertools.pairwise"].contains n&&vs[0]? == some (rawInt _))=true then _ else _) Q E s
          rw [if_neg (by intro h;rw [hn,Bool.false_and] at h;cases h)]
          exact wpAny_pure hQ))
def Itl (K:PySem.W.Frag)(a:Addr):It :=
 ⟨fun i H=>∃ xs x,SqL K H a xs∧xs[i]?=some x,fun i H x H'=>H'=H∧∀ xs,SqL K H a xs→xs[i]?=some x,fun i H=>∃ xs,SqL K H a xs∧xs.length≤i⟩
def UZ (lo:Int)(n:Nat):It:=⟨fun i _=>i < n,fun i H x H'=>H'=H∧x=.int (lo+i),fun i _=>n≤i⟩
theorem Zeh {P:Program}{w:World}{K:PySem.W.Frag}{tg:Expr}(a it:Addr):ZaL P w K tg (Itl K a) [it] it (fun i h=>h.IsListIter it a i) where
 mem:=by simp
 obj:=fun i h st b hb=>by
   have e:b=it:=by simpa using hb
   subst e
   obtain ⟨o,e,c,d⟩:=st
   exact ⟨o,e,fun v z=>by rw [d] at z;cases z⟩
 keep:=fun i h h' st k=>st.at fun o e=>k it (by simp) o e
 item:=by
   intro X hP hw hK hc i pins s σ H E I hf st hg
   subst hP hw hK
   obtain ⟨xs,x,hq,hx⟩:=hg
   obtain ⟨its,rv,p,hz⟩:=I.list hq
   obtain ⟨u,hu,ru⟩:=rv.get hx
   obtain ⟨f0,f1,f2,f3,f4,f5⟩:=hf it (by simp)
   refine wpAny_pyNext_list_item st p.isList (x:=u) (by simpa using hu) fun h' st' sb=>?_
   have I1:Inv X pins σ H { s with heap:=h' }:=I.turned (t':=s.toks) (fun b o hb e=>(sb.2 b hb).trans e) f0 f1 f3 f4 f5
   obtain ⟨o,e,c,d⟩:=id st'
   exact ⟨u,rfl,ZfY (s:={ s with heap:=h' }) e c d (by decide) ⟨x,H,I1,ru,⟨rfl,fun ys hy=>by rw [I.list_inj hy hq];exact hx⟩,st',fun b hb=>(hf b hb).1⟩⟩
 done:=by
   intro X hP hw hK hc i pins s σ H E I hf st hg
   subst hP hw hK
   obtain ⟨xs,hq,hx⟩:=hg
   obtain ⟨its,rv,p,hz⟩:=I.list hq
   obtain ⟨f0,f1,f2,f3,f4,f5⟩:=hf it (by simp)
   have hl:=rv.length
   exact wpAny_pyNext_list_end (I.ok.hd hc) st p.isList (by simp;omega) fun h' eb=>⟨rfl,I.turned (t':=s.toks) (fun b o hb e=>eb b o hb e) f0 f1 f3 f4 f5⟩
 self:=fun _ _ _ _ _ st h=>wpAny_pyIter_listiter st h
theorem ZcH {P:Program}{w:World}{K:PySem.W.Frag}{tg:Expr}(it:Addr)(lo:Int)(n:Nat):ZaL P w K tg (UZ lo n) [it] it (fun i h=>IsRangeIter h it (lo+(i:Nat) * 1) ((n:Int) - (i:Nat)) 1) where
 mem:=by simp
 obj := fun i h st b hb=>by
   have e:b=it:=by simpa using hb
   subst e
   exact ⟨_,st,fun v z=>by
     have z':Data.fields _=Data.cell v:=z
     cases z'⟩
 keep:=fun i h h' st k=>k it (by simp) _ st
 item:=by
   intro X hP hw hK hc i pins s σ H E I hf st hg
   subst hP hw hK
   obtain ⟨f0,f1,f2,f3,f4,f5⟩:=hf it (by simp)
   have W:=Walks.range (prog:=X.prog) (w:=X.w) (I.ok.hd hc) it lo 1 n
   refine W.item i s _ _ hg st fun v h' tk hv st' kk=>?_
   obtain ⟨t,rfl⟩:=hv
   have I1:Inv X pins σ H { s with heap:=h',toks:=tk }:=I.turned (fun b o hb e=>kk b o (by simpa using hb) e) f0 f1 f3 f4 f5
   refine ⟨_,rfl,ZfY (s:={ s with heap:=h',toks:=tk }) (n:="range_iterator") st' rfl rfl (by decide) ⟨.int (lo+i),H,I1,⟨t,?_⟩,⟨rfl,rfl⟩,st',fun b hb=>(hf b hb).1⟩⟩
   rw [Int.mul_one]
 done:=by
   intro X hP hw hK hc i pins s σ H E I hf st hg
   subst hP hw hK
   obtain ⟨f0,f1,f2,f3,f4,f5⟩:=hf it (by simp)
   exact wpAny_pyNext_range_end (I.ok.hd hc) st (by have:n≤i:=hg;omega) fun h' eb=>⟨rfl,I.turned (t':=s.toks) (fun b o hb e=>eb b o hb e) f0 f1 f3 f4 f5⟩
 self:=fun _ _ _ _ _ st h=>wpAny_pyIter_rangeiter st h
end L2
namespace L2
open PySem PySem.Spec PyProof.Rows
section
variable {X:Cx}{tg:Expr}
def ZjK (K:PySem.W.Frag)(tl:TE):TI:=fun σ H R=>tl σ H fun x H1=>∃ a,x=.ref a∧(∃ xs,SqL K H1 a xs)∧R (Itl K a) H1
theorem ZgU {l:Expr}{tl:TE}(hl:PE X l tl):PI X tg l (ZjK X.K tl):=by
 intro pins s σ H R I h
 refine Zm (hl pins s σ H _ I h) fun v s1 ⟨x,H1,I1,r1,q1⟩=>?_
 obtain ⟨a,e,⟨xs,hq⟩,q⟩:=q1
 subst e
 cases r1
 obtain ⟨its,rv,p,hz⟩:=I1.list hq
 refine wpAny_pyIter_list p.isList ?_
 refine ⟨s1.heap.objs.size,[s1.heap.objs.size],_,_,H1,rfl,I1.kept (t':=s1.toks) fun b o e=>Heap.get?_push_of_some _ e,Zeh a _,⟨_,Heap.get?_push_size _ rfl,rfl,rfl⟩,fun b hb=>?_,q⟩
 have e:b=s1.heap.objs.size:=by simpa using hb
 subst e
 exact I1.fpOk (Nat.le_refl _) (I1.hok.fresh (Nat.le_refl _))
theorem ZeF {pins:List (Addr×Obj)}{σ:St}{H:Hp}{s:Shared}{R:It→Hp→Prop}{E:Value→Shared→Prop}{lo hi:Int}{t u v:Tok}{tk:Nat}(I:Inv X pins σ H s)(h1:-(2 ^ 62)≤lo)(h2:lo < 2 ^ 62)(h3:-(2 ^ 62)≤hi)(h4:hi < 2 ^ 62)
   (q:R (UZ lo (hi - lo).toNat) H):wpAny (model X.prog X.w) X.A (pyIter (.ref s.heap.objs.size)) (PIE X pins σ tg R) E { s with heap:=s.heap.push { cls:=.type "range",data:=.fields #[.int lo t,.int hi u,.int 1 v] },toks:=tk }:=by
 refine wpAny_pyIter_range (IsRange.new ..) (small_one h1 h2 h3 h4) ?_
 have I1:Inv X pins σ H { s with heap:=s.heap.push { cls:=.type "range",data:=.fields #[.int lo t,.int hi u,.int 1 v] },toks:=tk }:=I.kept fun b o e=>Heap.get?_push_of_some _ e
 refine ⟨(s.heap.push { cls:=.type "range",data:=.fields #[.int lo t,.int hi u,.int 1 v] }).objs.size,[(s.heap.push { cls:=.type "range",data:=.fields #[.int lo t,.int hi u,.int 1 v] }).objs.size],_,_,H,rfl,
   I1.kept (t':=tk) fun b o e=>Heap.get?_push_of_some _ e,ZcH _ lo (hi - lo).toNat,?_,fun b hb=>?_,q⟩
 · have e1:lo+((0:Nat):Int) * 1=lo:=by simp
   have e2:(((hi - lo).toNat:Nat):Int) - ((0:Nat):Int)=Builtin.Range.rangeSize lo hi 1:=by rw [rangeSize_one];split<;>omega
   show IsRangeIter _ _ (lo+((0:Nat):Int) * 1) ((((hi - lo).toNat:Nat):Int) - ((0:Nat):Int)) 1
   rw [e1,e2]
   exact Heap.get?_push_size _ rfl
 · have e:b=(s.heap.push { cls:=.type "range",data:=.fields #[.int lo t,.int hi u,.int 1 v] }).objs.size:=by simpa using hb
   subst e
   exact I1.fpOk (Nat.le_refl _) (I1.hok.fresh (Nat.le_refl _))
def ZiU (ta:TA):TI:=fun σ H R=>ta σ H fun vs H1=>∃ j:Int,vs=[.int j]∧-(2 ^ 62)≤j∧j < 2 ^ 62∧R (UZ 0 j.toNat) H1
theorem YT {a:Expr}{ta:TA}{p pos:Pos}(hg:Gl X "range")(hm:X.mg "range"=none)(ha:PA X [a] ta)(hs:starEach [a] X.env=[(false,eval a X.env)]:=by rfl):PI X tg (.Call (.Name "range" p) [a] [] pos) (ZiU ta):=by
 intro pins s σ H R I h
 refine Call_ (WW I hg hm boot_range (PyProof.Rows.callWith_type1 (Zm (ha pos pins s σ H _ I h) fun us s1 ⟨vs,H1,I1,r1,q1⟩=>?_) hs rfl))
 obtain ⟨j,e,q1,q2,q⟩:=q1
 subst e
 cases r1 with
 | cons r rr =>
   cases rr
   obtain ⟨t,rfl⟩:=r
   exact call_range_1 (ZeF I1 (by omega) (by omega) q1 q2 (by simpa using q))
def tFor (wi:TI)(g:TG)(tb:TS):TS:=fun D σ H=>wi σ H fun J H1=>∃ W:Nat→Nat→St→Hp→Prop,(∃ m,W 0 m σ H1)∧∀ i m σ H,W i m σ H →
 (J.stop i H∧D.nx σ H)∨(J.go i H∧∃ N:St→Hp→Prop,(∀ σ' H',N σ' H'→∃ m',m' < m∧W (i+1) m' σ' H')∧∀ x H',J.yld i H x H'→g x σ H' fun σ2 H2=>tb { D with nx:=N,ct:=N,bk:=D.nx } σ2 H2)
def Vj (fp:List Addr)(h:Heap):List (Addr×Obj):=fp.filterMap fun b=>(h.get? b).map fun o=>(b,o)
theorem Xu {fp:List Addr}{h:Heap}{b:Addr}{o:Obj}(hb:b∈fp)(e:h.get? b=some o):(b,o)∈Vj fp h:=List.mem_filterMap.mpr ⟨b,hb,by rw [e];rfl⟩
theorem ZdW {fp:List Addr}{h:Heap}{p:Addr×Obj}(hp:p∈Vj fp h):p.1∈fp∧h.get? p.1=some p.2:=by
 obtain ⟨b,hb,e⟩:=List.mem_filterMap.mp hp
 cases q:h.get? b with
 | none=>rw [q] at e;cases e
 | some o =>
   rw [q] at e
   have e':(b,o)=p:=Option.some.inj e
   subst e'
   exact ⟨hb,q⟩
theorem Inv.pinned {pins:List (Addr×Obj)}{σ:St}{H:Hp}{s:Shared}{fp:List Addr}(I:Inv X pins σ H s)(hf:∀ b∈fp,Xi X pins H b)(ho:∀ b∈fp,∃ o,s.heap.get? b=some o∧∀ v,o.data≠.cell v):Inv X (pins++Vj fp s.heap) σ H s :=
 I.pins_of fun p hp=>(List.mem_append.mp hp).elim (fun z=>I.pin p (List.mem_append_right _ z)) fun z=>by
   obtain ⟨hb,e⟩:=ZdW z
   obtain ⟨f0,f1,f2,_⟩:=hf p.1 hb
   obtain ⟨o,e',d⟩:=ho p.1 hb
   rw [e] at e';cases e'
   exact ⟨e,f0,f1,f2,d⟩
theorem Inv.unpinned {pins pl:List (Addr×Obj)}{σ:St}{H:Hp}{s:Shared}(I:Inv X (pins++pl) σ H s):Inv X pins σ H s:=I.pins_of fun p hp=>I.pin p (List.mem_append_right _ (List.mem_append_left _ hp))
theorem Wh {iter:Expr}{body:List Stmt}{wi:TI}{g:TG}{tb:TS}{pos:Pos}(hp:PassesOwn (model X.prog X.w) X.A X.env X.xe)(hc:X.calm=true)(hi:PI X tg iter wi)(hg:PG X tg g)(hb:PSs X body tb)
   (hs:∀ x,foldedSetIterable iter X.env x=pure x:=by intro _;rfl):PS X (.For tg iter body [] pos) (tFor wi g tb):=by
 intro pins s σ H D I h
 refine wpAny_For (Zm (hi pins s σ H _ I h) fun v s1 h1=>Zm h1 fun itv s2 h2=>?_) hs
 obtain ⟨it,fp,tn,J,H2,e,I2,T,st2,f2,W,⟨m0,w0⟩,turn⟩:=h2
 subst e
 have stat:∀ {H':Hp},(∀ b∈fp,H' b=none)→∀ b∈fp,Xi X pins H' b:=fun hn b hb=>⟨hn b hb,(f2 b hb).2⟩
 refine codeAny_forLoop_any (fun n s'=>∃ i σ' H',Inv X pins σ' H' s'∧tn i s'.heap∧(∀ b∈fp,H' b=none)∧W i n σ' H') ?_ m0 ⟨0,σ,H2,I2,st2,fun b hb=>(f2 b hb).1,w0⟩
 rintro n s3 ⟨i,σ3,H3,I3,st3,fr3,w3⟩
 rcases turn i n σ3 H3 w3 with ⟨stop,qn⟩ | ⟨go,N,hN,step⟩
 · refine wpAny_passesOwn hp (Zm (T.done X rfl rfl rfl hc i pins s3 σ3 H3 X.xe I3 (stat fr3) st3 stop) fun r s4 ⟨hr,I4⟩=>?_)
   subst hr
   exact wpAny_execs_nil ⟨σ3,H3,I4,qn⟩
 · refine wpAny_passesOwn hp (Zm (T.item X rfl rfl rfl hc i pins s3 σ3 H3 X.xe I3 (stat fr3) st3 go) fun r s4 ⟨u,hr,h4⟩=>?_)
   subst hr
   refine wpAny_passesOwn hp (Zm h4 fun _ s5 ⟨x,H5,I5,r5,y5,st5,fr5⟩=>?_)
   have I5':=I5.pinned (stat fr5) (T.obj _ _ st5)
   refine wpAny_passesOwn hp (Zm (hg _ s5 σ3 H5 x u _ I5' r5 (step x H5 y5)) fun _ s6 ⟨σ6,H6,I6,q6⟩=>?_)
   refine wpAny_passesOwn hp (Zm (hb _ s6 σ6 H6 _ I6 q6) fun f s7 q7=>?_)
   have again:∀ {σ7:St} {H7:Hp},Inv X (pins++Vj fp s5.heap) σ7 H7 s7→N σ7 H7→∃ m,m < n∧∃ i σ' H',Inv X pins σ' H' s7∧tn i s7.heap∧(∀ b∈fp,H' b=none)∧W i m σ' H':=fun {σ7 H7} I7 n7=>by
     obtain ⟨m',hm,w7⟩:=hN σ7 H7 n7
     refine ⟨m',hm,i+1,σ7,H7,I7.unpinned,T.keep _ _ _ st5 fun b hb o e=>(I7.pin (b,o) (List.mem_append_right _ (List.mem_append_right _ (Xu hb e)))).1,fun b hb=>?_,w7⟩
     obtain ⟨o,e,d⟩:=T.obj _ _ st5 b hb
     exact (I7.pin (b,o) (List.mem_append_right _ (List.mem_append_right _ (Xu hb e)))).2.1
   cases f with
   | next=>obtain ⟨σ7,H7,I7,n7⟩:=q7;exact again I7 n7
   | cont=>obtain ⟨σ7,H7,I7,n7⟩:=q7;exact again I7 n7
   | brk=>obtain ⟨σ7,H7,I7,q7⟩:=q7;exact ⟨σ7,H7,I7.unpinned,q7⟩
   | ret v=>obtain ⟨x7,σ7,H7,I7,r7,q7⟩:=q7;exact ⟨x7,σ7,H7,I7.unpinned,r7,q7⟩
end
theorem Zfk {K:PySem.W.Frag}{a:Addr}{xs:List V}{g:TG}{tb:TS}{D:WX}{σ:St}{H:Hp}(Pv:Nat→St→Hp→Prop)(h0:Pv 0 σ H)(hl:∀ i σ H,i≤xs.length→Pv i σ H→SqL K H a xs)
   (hs:∀ i x σ H,xs[i]?=some x→Pv i σ H→g x σ H fun σ2 H2=>tb { D with nx:=Pv (i+1),ct:=Pv (i+1),bk:=D.nx } σ2 H2) (hd:∀ σ H,Pv xs.length σ H→D.nx σ H) :
   ∃ W:Nat→Nat→St→Hp→Prop,(∃ m,W 0 m σ H)∧∀ i m σ H,W i m σ H →
     ((Itl K a).stop i H∧D.nx σ H)∨((Itl K a).go i H∧∃ N:St→Hp→Prop,(∀ σ' H',N σ' H'→∃ m',m' < m∧W (i+1) m' σ' H')∧∀ x H',(Itl K a).yld i H x H'→g x σ H' fun σ2 H2=>tb { D with nx:=N,ct:=N,bk:=D.nx } σ2 H2):=by
 refine ⟨fun i m σ H=>m=xs.length - i∧i≤xs.length∧Pv i σ H,⟨xs.length,by simp,Nat.zero_le _,h0⟩,?_⟩
 rintro i m σ H ⟨rfl,hi,p⟩
 have q:=hl i σ H hi p
 by_cases hlt:i < xs.length
 · refine .inr ⟨⟨xs,xs[i],q,by simp [hlt]⟩,Pv (i+1),fun σ' H' p'=>⟨xs.length - (i+1),by omega,rfl,hlt,p'⟩,fun x H' y=>?_⟩
   obtain ⟨e,y⟩:=y
   subst e
   exact hs i x σ _ (y xs q) p
 · have e:i=xs.length:=by omega
   subst e
   exact .inl ⟨⟨xs,q,Nat.le_refl _⟩,hd σ H p⟩
theorem XT {lo:Int}{n:Nat}{g:TG}{tb:TS}{D:WX}{σ:St}{H:Hp}(Pv:Nat→St→Hp→Prop)(h0:Pv 0 σ H)
   (hs:∀ i σ H,i < n→Pv i σ H→g (.int (lo+i)) σ H fun σ2 H2=>tb { D with nx:=Pv (i+1),ct:=Pv (i+1),bk:=D.nx } σ2 H2) (hd:∀ σ H,Pv n σ H→D.nx σ H) :
   ∃ W:Nat→Nat→St→Hp→Prop,(∃ m,W 0 m σ H)∧∀ i m σ H,W i m σ H →
     ((UZ lo n).stop i H∧D.nx σ H)∨((UZ lo n).go i H∧∃ N:St→Hp→Prop,(∀ σ' H',N σ' H'→∃ m',m' < m∧W (i+1) m' σ' H')∧∀ x H',(UZ lo n).yld i H x H'→g x σ H' fun σ2 H2=>tb { D with nx:=N,ct:=N,bk:=D.nx } σ2 H2):=by
 refine ⟨fun i m σ H=>m=n - i∧i≤n∧Pv i σ H,⟨n,by simp,Nat.zero_le _,h0⟩,?_⟩
 rintro i m σ H ⟨rfl,hi,p⟩
 by_cases hlt:i < n
 · refine .inr ⟨hlt,Pv (i+1),fun σ' H' p'=>⟨n - (i+1),by omega,rfl,hlt,p'⟩,fun x H' y=>?_⟩
   obtain ⟨e,y⟩:=y
   subst e y
   exact hs i σ _ hlt p
 · have e:i=n:=by omega
   subst e
   exact .inl ⟨Nat.le_refl _,hd σ H p⟩
end L2
namespace L2
open PySem PySem.Spec PyProof.Rows
abbrev R2:=V→V→Hp→VK→Prop
def Yx (X:Cx)(f:Value→Value→Sem Value)(r:R2):Prop :=
 ∀ (pins:List (Addr×Obj)) (s:Shared) (σ:St) (H:Hp) (x y:V) (v u:Value) (Q:VK),Inv X pins σ H s→RelV x v→RelV y u→r x y H Q →
   wpAny (model X.prog X.w) X.A (f v u) (EP X pins σ Q) X.xe s
def UnR (X:Cx)(f:Value→Sem Value)(r:V→Hp→VK→Prop):Prop :=
 ∀ (pins:List (Addr×Obj)) (s:Shared) (σ:St) (H:Hp) (x:V) (v:Value) (Q:VK),Inv X pins σ H s→RelV x v→r x H Q →
   wpAny (model X.prog X.w) X.A (f v) (EP X pins σ Q) X.xe s
def Ys (X:Cx)(f:Value)(r:List V→Hp→VK→Prop):Prop :=
 ∀ (pins:List (Addr×Obj)) (s:Shared) (σ:St) (H:Hp) (xs:List V) (us:List Value) (Q:VK),Inv X pins σ H s→Vals xs us→r xs H Q →
   wpAny (model X.prog X.w) X.A (call f us) (EP X pins σ Q) X.xe s
def TruR (X:Cx)(r:V→Hp→(Bool→Hp→Prop)→Prop):Prop :=
 ∀ (pins:List (Addr×Obj)) (s:Shared) (σ:St) (H:Hp) (x:V) (v:Value) (Q:Bool→Hp→Prop),Inv X pins σ H s→RelV x v→r x H Q →
   wpAny (model X.prog X.w) X.A (truthy v) (TP X pins σ Q) X.xe s
def tOp (r:R2)(ta tb:TE):TE:=fun σ H Q=>ta σ H fun x H1=>tb σ H1 fun y H2=>r x y H2 Q
def tUn (r:V→Hp→VK→Prop)(ta:TE):TE:=fun σ H Q=>ta σ H fun x H1=>r x H1 Q
def rI (C:Int→Int→Prop)(g:Int→Int→V):R2:=fun x y H Q=>∃ i j,x=.int i∧y=.int j∧C i j∧Q (g i j) H
def VU (g:Int→Int→V):R2:=fun x y H Q=>∃ i j,x=.int i∧y=.int j∧Q (g i j) H
def rU (g:Int→V):V→Hp→VK→Prop:=fun x H Q=>∃ i,x=.int i∧Q (g i) H
section
variable {X:Cx}{a b c:Expr}{ta tb tc:TE}{pos:Pos}
theorem ZeE (ha:PE X a ta)(hb:PE X b tb){pins:List (Addr×Obj)}{s:Shared}{σ:St}{H:Hp}{R:V→V→Hp→Prop}(I:Inv X pins σ H s)
   (h:ta σ H fun x H1=>tb σ H1 fun y H2=>R x y H2) {Q:Value→Shared→Prop} {f:Value→Value→Sem Value}
   (hf:∀ v u s2 x y H2,Inv X pins σ H2 s2→RelV x v→RelV y u→R x y H2→wpAny (model X.prog X.w) X.A (f v u) Q X.xe s2) :
   wpAny (model X.prog X.w) X.A (eval a X.env) (fun v s₁=>wpAny (model X.prog X.w) X.A (eval b X.env) (fun u s₂=>wpAny (model X.prog X.w) X.A (f v u) Q X.xe s₂) X.xe s₁) X.xe s:=by
 refine Zm (ha pins s σ H _ I h) fun v s1 ⟨x,H1,I1,r1,q1⟩=>?_
 refine Zm (hb pins s1 σ H1 _ I1 q1) fun u s2 ⟨y,H2,I2,r2,q2⟩=>?_
 exact hf v u s2 x y H2 I2 r1 r2 q2
theorem Zr {op:Operator}{r:R2}(ho:Yx X (binaryOp op) r)(ha:PE X a ta)(hb:PE X b tb):PE X (.BinOp a op b pos) (tOp r ta tb):=by
 intro pins s σ H Q I h
 exact wpAny_BinOp (ZeE ha hb I h fun v u s2 x y H2 I2 rx ry q=>ho pins s2 σ H2 x y v u Q I2 rx ry q)
theorem Zfx {op:UnaryOp}{r:V→Hp→VK→Prop}(ho:UnR X (unaryOp op) r)(ha:PE X a ta):PE X (.UnaryOp op a pos) (tUn r ta):=by
 intro pins s σ H Q I h
 exact UnaryOp_ (Zm (ha pins s σ H _ I h) fun v s1 ⟨x,H1,I1,r1,q1⟩=>ho pins s1 σ H1 x v Q I1 r1 q1)
theorem opI {f:Value→Value→Sem Value}{C:Int→Int→Prop}{g:Int→Int→Int}
   (rule:∀ (i j:Int) (t u:Tok) (s:Shared) (Q:Value→Shared→Prop) (E:Value→Shared→Prop),C i j→Q (.int (g i j) s.toks) { s with toks:=s.toks+1 }→wpAny (model X.prog X.w) X.A (f (.int i t) (.int j u)) Q E s) :
   Yx X f (rI C fun i j=>.int (g i j)):=by
 intro pins s σ H x y v u Q I rx ry h
 obtain ⟨i,j,rfl,rfl,hc,q⟩:=h
 obtain ⟨t,rfl⟩:=rx
 obtain ⟨t',rfl⟩:=ry
 exact rule i j t t' s _ _ hc ⟨.int (g i j),H,I.tok _,⟨_,rfl⟩,q⟩
theorem opI0 {f:Value→Value→Sem Value}{g:Int→Int→Int}
   (rule:∀ (i j:Int) (t u:Tok) (s:Shared) (Q:Value→Shared→Prop) (E:Value→Shared→Prop),Q (.int (g i j) s.toks) { s with toks:=s.toks+1 }→wpAny (model X.prog X.w) X.A (f (.int i t) (.int j u)) Q E s) :
   Yx X f (VU fun i j=>.int (g i j)):=by
 intro pins s σ H x y v u Q I rx ry h
 obtain ⟨i,j,rfl,rfl,q⟩:=h
 obtain ⟨t,rfl⟩:=rx
 obtain ⟨t',rfl⟩:=ry
 exact rule i j t t' s _ _ ⟨.int (g i j),H,I.tok _,⟨_,rfl⟩,q⟩
theorem Zdd {f:Value→Value→Sem Value}{g:Int→Int→Bool}
   (rule:∀ (i j:Int) (t u:Tok) (s:Shared) (Q:Value→Shared→Prop) (E:Value→Shared→Prop),Q (.bool (g i j)) s→wpAny (model X.prog X.w) X.A (f (.int i t) (.int j u)) Q E s) :
   Yx X f (VU fun i j=>.bl (g i j)):=by
 intro pins s σ H x y v u Q I rx ry h
 obtain ⟨i,j,rfl,rfl,q⟩:=h
 obtain ⟨t,rfl⟩:=rx
 obtain ⟨t',rfl⟩:=ry
 exact rule i j t t' s _ _ ⟨.bl (g i j),H,I,rfl,q⟩
def CDiv (i j:Int):Prop:=0 < j∧j < 1073741824
def CPow (i j:Int):Prop:=0≤j∧j≤1000000∧i.natAbs < 2 ^ 64
def CMul (i j:Int):Prop:=(-(2 ^ 64) < i∧i < 2 ^ 64)∨(-(2 ^ 64) < j∧j < 2 ^ 64)
theorem CMul.ok {i j:Int}(h:CMul i j):IntMulOk i j:=by
 rcases h with ⟨h1,h2⟩ | ⟨h1,h2⟩
 · exact .of_left (intBits_le_64 h1 h2)
 · exact .of_right (intBits_le_64 h1 h2)
theorem Yn:Yx X (binaryOp .Add) (VU fun i j=>.int (i+j)):=opI0 fun _ _ _ _ _ _ _ q=>add_int q
theorem XQ:Yx X (binaryOp .Sub) (VU fun i j=>.int (i - j)):=opI0 fun _ _ _ _ _ _ _ q=>sub_int q
theorem Xr:Yx X (binaryOp .Mult) (rI CMul fun i j=>.int (i * j)):=opI fun _ _ _ _ _ _ _ hc q=>mul_int q hc.ok
theorem ZbU:Yx X (binaryOp .FloorDiv) (rI CDiv fun i j=>.int (i / j)):=opI fun i j _ _ _ _ _ hc q=>by
 have h1:(0:Int) < j:=hc.1
 have h2:j < 1073741824:=hc.2
 exact floordiv_int (by omega) (by rw [Int.fdiv_eq_ediv_of_nonneg i (by omega)];exact q) (.inl (PyProof.noPylong_small (by omega)))
theorem Xc:Yx X (binaryOp .Mod) (rI (fun _ j=>0 < j) fun i j=>.int (i % j)):=opI fun i j _ _ _ _ _ hc q=>by
 have h1:(0:Int) < j:=hc
 exact mod_int' (by omega) (by rw [Int.fmod_eq_emod_of_nonneg i (by omega)];exact q)
theorem Ve:Yx X (binaryOp .Pow) (rI CPow fun i j=>.int (i ^ j.toNat)):=opI fun _ _ _ _ _ _ _ hc q=>pow_int_small hc.1 hc.2.1 hc.2.2 q
theorem unI {f:Value→Sem Value}{g:Int→Int}
   (rule:∀ (i:Int) (t:Tok) (s:Shared) (Q:Value→Shared→Prop) (E:Value→Shared→Prop),Q (.int (g i) s.toks) { s with toks:=s.toks+1 }→wpAny (model X.prog X.w) X.A (f (.int i t)) Q E s) :
   UnR X f (rU fun i=>.int (g i)):=by
 intro pins s σ H x v Q I rx h
 obtain ⟨i,rfl,q⟩:=h
 obtain ⟨t,rfl⟩:=rx
 exact rule i t s _ _ ⟨.int (g i),H,I.tok _,⟨_,rfl⟩,q⟩
theorem Zdj:UnR X (unaryOp .USub) (rU fun i=>.int (-i)):=unI fun _ _ _ _ _ q=>neg_int q
end
def scal:V→V→Bool
 | .non,.non=>true | .non,.int _=>true | .int _,.non=>true | .non,.bl _=>true | .bl _,.non=>true | .non,.str _=>true | .str _,.non=>true
 | .int _,.int _=>true | .bl _,.bl _=>true | .str _,.str _=>true | .byt _,.byt _=>true
 | .int _,.str _=>true | .str _,.int _=>true | .bl _,.str _=>true | .str _,.bl _=>true
 | _,_=>false
def rEq:R2:=fun x y H Q=>scal x y=true∧Q (.bl (decide (x=y))) H
def rNe:R2:=fun x y H Q=>scal x y=true∧Q (.bl (!decide (x=y))) H
theorem ZbP {i j:Int}:decide (V.int i=V.int j)=(i == j):=by
 rw [Bool.eq_iff_iff]
 simp
theorem Zem {i j:Bool}:decide (V.bl i=V.bl j)=(i == j):=by
 rw [Bool.eq_iff_iff]
 simp
theorem Zcf {i j:Str}:decide (V.str i=V.str j)=(i == j):=by
 rw [Bool.eq_iff_iff]
 simp
theorem ZbN {i j:Array UInt8}:decide (V.byt i=V.byt j)=(i.toList == j.toList):=by
 rw [Bool.eq_iff_iff]
 cases i
 cases j
 simp
section
variable {X:Cx}{a b c:Expr}{ta tb tc:TE}{pos:Pos}
theorem Zy {pins:List (Addr×Obj)}{σ:St}{H:Hp}{s:Shared}{Q:VK}{k k':Bool}(I:Inv X pins σ H s)(q:Q (.bl k) H)(e:k=k'):EP X pins σ Q (.bool k') s:=by
 subst e
 exact ⟨.bl k,H,I,rfl,q⟩
theorem Xx:Yx X (compareOp .Eq) rEq:=by
 intro pins s σ H x y v u Q I rx ry h
 obtain ⟨hs,q⟩:=h
 cases x with
 | non =>
   cases rx
   cases y with
   | non=>cases ry;exact PySem.EqNone.eq_none_none (Zy I q (by simp))
   | bl j=>cases ry;exact PySem.EqNone.eq_none_bool (Zy I q (by simp))
   | int j=>obtain ⟨t',rfl⟩:=ry;exact PySem.EqNone.eq_none_int (Zy I q (by simp))
   | str j=>obtain ⟨t',rfl⟩:=ry;exact PySem.EqNone.eq_none_str (Zy I q (by simp))
   | _=>exact absurd (show false=true from hs) Bool.false_ne_true
 | bl i =>
   cases rx
   cases y with
   | non=>cases ry;exact PySem.EqNone.eq_bool_none (Zy I q (by simp))
   | bl j=>cases ry;exact eq_bool (Zy I q Zem)
   | str j=>obtain ⟨t',rfl⟩:=ry;exact PySem.EqMixed.eq_bool_str (Zy I q (by simp))
   | _=>exact absurd (show false=true from hs) Bool.false_ne_true
 | int i =>
   obtain ⟨t,rfl⟩:=rx
   cases y with
   | non=>cases ry;exact PySem.EqNone.eq_int_none (Zy I q (by simp))
   | int j=>obtain ⟨t',rfl⟩:=ry;exact eq_int (Zy I q ZbP)
   | str j=>obtain ⟨t',rfl⟩:=ry;exact PySem.EqMixed.eq_int_str (Zy I q (by simp))
   | _=>exact absurd (show false=true from hs) Bool.false_ne_true
 | str i =>
   obtain ⟨t,rfl⟩:=rx
   cases y with
   | non=>cases ry;exact PySem.EqNone.eq_str_none (Zy I q (by simp))
   | bl j=>cases ry;exact PySem.EqMixed.eq_str_bool (Zy I q (by simp))
   | int j=>obtain ⟨t',rfl⟩:=ry;exact PySem.EqMixed.eq_str_int (Zy I q (by simp))
   | str j=>obtain ⟨t',rfl⟩:=ry;exact eq_str (Zy I q Zcf)
   | _=>exact absurd (show false=true from hs) Bool.false_ne_true
 | byt i =>
   obtain ⟨t,rfl⟩:=rx
   cases y with
   | byt j=>obtain ⟨t',rfl⟩:=ry;exact PySem.W.eq_bytes (Zy I q ZbN)
   | _=>exact absurd (show false=true from hs) Bool.false_ne_true
 | _=>cases y<;>exact absurd (show false=true from hs) Bool.false_ne_true
theorem Ug:Yx X (compareOp .NotEq) rNe:=by
 intro pins s σ H x y v u Q I rx ry h
 obtain ⟨hs,q⟩:=h
 cases x with
 | non =>
   cases rx
   cases y with
   | non=>cases ry;exact PySem.EqNone.ne_none_none (Zy I q (by simp))
   | bl j=>cases ry;exact PySem.EqNone.ne_none_bool (Zy I q (by simp))
   | int j=>obtain ⟨t',rfl⟩:=ry;exact PySem.EqNone.ne_none_int (Zy I q (by simp))
   | str j=>obtain ⟨t',rfl⟩:=ry;exact PySem.EqNone.ne_none_str (Zy I q (by simp))
   | _=>exact absurd (show false=true from hs) Bool.false_ne_true
 | bl i =>
   cases rx
   cases y with
   | non=>cases ry;exact PySem.EqNone.ne_bool_none (Zy I q (by simp))
   | bl j=>cases ry;exact ne_bool (Zy I q (congrArg not Zem))
   | str j=>obtain ⟨t',rfl⟩:=ry;exact PySem.EqMixed.ne_bool_str (Zy I q (by simp))
   | _=>exact absurd (show false=true from hs) Bool.false_ne_true
 | int i =>
   obtain ⟨t,rfl⟩:=rx
   cases y with
   | non=>cases ry;exact PySem.EqNone.ne_int_none (Zy I q (by simp))
   | int j=>obtain ⟨t',rfl⟩:=ry;exact ne_int (Zy I q (congrArg not ZbP))
   | str j=>obtain ⟨t',rfl⟩:=ry;exact PySem.EqMixed.ne_int_str (Zy I q (by simp))
   | _=>exact absurd (show false=true from hs) Bool.false_ne_true
 | str i =>
   obtain ⟨t,rfl⟩:=rx
   cases y with
   | non=>cases ry;exact PySem.EqNone.ne_str_none (Zy I q (by simp))
   | bl j=>cases ry;exact PySem.EqMixed.ne_str_bool (Zy I q (by simp))
   | int j=>obtain ⟨t',rfl⟩:=ry;exact PySem.EqMixed.ne_str_int (Zy I q (by simp))
   | str j=>obtain ⟨t',rfl⟩:=ry;exact ne_str (Zy I q (congrArg not Zcf))
   | _=>exact absurd (show false=true from hs) Bool.false_ne_true
 | byt i =>
   obtain ⟨t,rfl⟩:=rx
   cases y with
   | byt j=>obtain ⟨t',rfl⟩:=ry;exact PySem.W.ne_bytes (Zy I q (congrArg not ZbN))
   | _=>exact absurd (show false=true from hs) Bool.false_ne_true
 | _=>cases y<;>exact absurd (show false=true from hs) Bool.false_ne_true
theorem Zas:Yx X (compareOp .Lt) (VU fun i j=>.bl (decide (i < j))):=Zdd fun _ _ _ _ _ _ _ q=>lt_int q
theorem ZfT:Yx X (compareOp .LtE) (VU fun i j=>.bl (decide (i≤j))):=Zdd fun _ _ _ _ _ _ _ q=>le_int q
theorem Zju:Yx X (compareOp .Gt) (VU fun i j=>.bl (decide (j < i))):=Zdd fun _ _ _ _ _ _ _ q=>gt_int q
theorem ZjN:Yx X (compareOp .GtE) (VU fun i j=>.bl (decide (j≤i))):=Zdd fun _ _ _ _ _ _ _ q=>ge_int q
theorem ZN (b:Expr){op:CmpOp}(h:op≠.In:=by decide)(h2:op≠.NotIn:=by decide):behindInMarks op b=false:=by
 have e1:(op == CmpOp.In)=false:=by cases op<;>first | rfl | exact absurd rfl h
 have e2:(op == CmpOp.NotIn)=false:=by cases op<;>first | rfl | exact absurd rfl h2
 cases b<;>simp [behindInMarks,e1,e2]
theorem VA {op:CmpOp}{r:R2}(ho:Yx X (compareOp op) r)(ha:PE X a ta)(hb:PE X b tb)(hm:behindInMarks op b=false):PE X (.Compare a [op] [b] pos) (tOp r ta tb):=by
 intro pins s σ H Q I h
 exact wpAny_Compare1 (ZeE ha hb I h fun v u s2 x y H2 I2 rx ry q=>ho pins s2 σ H2 x y v u Q I2 rx ry q) hm
def ZaE (t:TE):TT:=fun σ H Q=>t σ H fun x H'=>∃ k,x=.bl k∧Q k H'
theorem ZM {op:CmpOp}{r:R2}(ho:Yx X (compareOp op) r)(ha:PE X a ta)(hb:PE X b tb)(hm:behindInMarks op b=false):PT X (.Compare a [op] [b] pos) (ZaE (tOp r ta tb)):=by
 intro pins s σ H Q I h
 refine wpAny_isTrue_Compare1 (Zm (ha pins s σ H _ I h) fun v s1 ⟨x,H1,I1,r1,q1⟩=>Zm (hb pins s1 σ H1 _ I1 q1) fun u s2 ⟨y,H2,I2,r2,q2⟩ =>
   Zm (ho pins s2 σ H2 x y v u _ I2 r1 r2 q2) fun c s3 ⟨z,H3,I3,r3,k,e,q3⟩=>?_) hm
 subst e
 cases r3
 exact wpAny_truthy_bool ⟨H3,I3,q3⟩
def Zhr (r r':R2)(ta tb tc:TE):TE:=fun σ H Q=>ta σ H fun x H1=>tb σ H1 fun y H2=>r x y H2 fun z H3=>∃ k,z=.bl k ∧
 (if k=true then tc σ H3 fun w' H4=>r' y w' H4 Q else Q (.bl false) H3)
theorem ZaP {op op':CmpOp}{r r':R2}(ho:Yx X (compareOp op) r)(ho':Yx X (compareOp op') r')(ha:PE X a ta)(hb:PE X b tb)(hc:PE X c tc)
   (hm:lastMarks [op,op'] [b,c]=false:=by with_unfolding_all rfl):PT X (.Compare a [op,op'] [b,c] pos) (ZaE (Zhr r r' ta tb tc)):=by
 intro pins s σ H Q I h
 refine isTrue_chain (Zm (ha pins s σ H _ I h) fun v s1 ⟨x,H1,I1,r1,q1⟩=>test_link (Zm (hb pins s1 σ H1 _ I1 q1) fun u s2 ⟨y,H2,I2,r2,q2⟩ =>
   Zm (ho pins s2 σ H2 x y v u _ I2 r1 r2 q2) fun d s3 ⟨z,H3,I3,r3,k,e,q3⟩=>?_)) hm
 subst e
 cases r3
 refine wpAny_truthy_bool ?_
 cases k with
 | false =>
   obtain ⟨k',e',q'⟩:=q3
   cases e'
   exact ite_ff ⟨H3,I3,q'⟩
 | true =>
   refine ite_tt (test_last (Zm (hc pins s3 σ H3 _ I3 q3) fun w' s4 ⟨z',H4,I4,r4,q4⟩=>Zm (ho' pins s4 σ H4 y z' u w' _ I4 r2 r4 q4) fun d' s5 ⟨z2,H5,I5,r5,k2,e2,q5⟩=>?_))
   subst e2
   cases r5
   exact wpAny_truthy_bool ⟨H5,I5,q5⟩
def TruV (K:PySem.W.Frag)(x:V)(H:Hp)(k:Bool):Prop :=
 match x with
 | .non=>k=false
 | .bl b=>k=b
 | .int i=>k=(i != 0)
 | .str y=>y.length≤sizeLine∧k=((y.length:Int) != 0)
 | .byt y=>y.size≤sizeLine∧k=((y.size:Int) != 0)
 | .ref p=>(∃ xs,SqL K H p xs∧k=!xs.isEmpty)∨(∃ xs,SqT K H p xs∧k=!xs.isEmpty)∨∃ kvs,H p=some (.dK kvs)∧k=!kvs.isEmpty
 | _=>False
theorem Zcp {κ:Type}{kvs:List (κ×V)}{vs:List (κ×Value)}(r:KV kvs vs):(!vs.isEmpty)=!kvs.isEmpty:=by
 cases r<;>rfl
theorem UX {xs:List V}{its:List Value}(r:Vals xs its):(!its.toArray.isEmpty)=!xs.isEmpty:=by
 cases r<;>simp
theorem XD:(sizeLine:Nat) < 2 ^ 63:=by rw [sizeLine_eq];decide
theorem ZhA:TruR X (fun x H Q=>∃ k,TruV X.K x H k∧Q k H):=by
 intro pins s σ H x v Q I rx h
 obtain ⟨k,e,q⟩:=h
 have hl:=XD
 have hs:sizeLine=16777216:=sizeLine_eq
 cases x with
 | non =>
   cases rx
   have e':k=false:=e
   subst e'
   exact truthy_none ⟨H,I,q⟩
 | bl b =>
   cases rx
   have e':k=b:=e
   subst e'
   exact wpAny_truthy_bool ⟨H,I,q⟩
 | int i =>
   obtain ⟨t,rfl⟩:=rx
   have e':k=(i != 0):=e
   subst e'
   exact PySem.P.truthy_int ⟨H,I,q⟩
 | str y =>
   obtain ⟨t,rfl⟩:=rx
   obtain ⟨hy,e'⟩:y.length≤sizeLine∧k=((y.length:Int) != 0):=e
   subst e'
   exact PySem.P.truthy_str (by omega) ⟨H,I.tok _,q⟩
 | byt y =>
   obtain ⟨t,rfl⟩:=rx
   obtain ⟨hy,e'⟩:y.size≤sizeLine∧k=((y.size:Int) != 0):=e
   subst e'
   exact PySem.W.truthy_bytes (by omega) ⟨H,I.tok _,q⟩
 | ref p =>
   cases rx
   have e':(∃ xs,SqL X.K H p xs∧k=!xs.isEmpty)∨(∃ xs,SqT X.K H p xs∧k=!xs.isEmpty)∨∃ kvs,H p=some (.dK kvs)∧k=!kvs.isEmpty:=e
   rcases e' with ⟨xs,hx,e'⟩ | ⟨xs,hx,e'⟩ | ⟨kvs,hx,e'⟩
   · subst e'
     obtain ⟨its,r,pl,hz⟩:=I.list hx
     have hlen:=r.length
     exact wpAny_truthy_list pl.isList (by simp only [List.size_toArray];omega) ⟨H,I.tok _,by rw [UX r];exact q⟩
   · subst e'
     obtain ⟨its,r,pl,hz⟩:=I.tuple hx
     have hlen:=r.length
     exact truthy_tuple pl (by simp only [List.size_toArray];omega) ⟨H,I.tok _,by rw [UX r];exact q⟩
   · subst e'
     obtain ⟨hz,hS,vs,r,m⟩:kvs.length≤sizeLine∧(p == sysModules)=false∧∃ vs,KV kvs vs∧s.heap.DictOf (Zx X.prog X.w) p vs:=I.hok p _ hx
     have hlen:kvs.length=vs.length:=Paired.length r
     exact wpAny_truthy_dict hS m (by omega) ⟨H,I.tok _,by rw [Zcp r];exact q⟩
 | _=>exact (show False from e).elim
theorem ZeQ (ha:PE X a ta)(he:∀ whole,isTrue a X.env whole=(do let v ← whole;standAt a.pos;holding [v] (truthy v))) :
   PT X a (fun σ H Q=>ta σ H fun x H'=>∃ k,TruV X.K x H' k∧Q k H'):=by
 intro pins s σ H Q I h
 exact isTrue_plain (Zm (ha pins s σ H _ I h) fun v s1 ⟨x,H1,I1,r1,q1⟩=>ZhA pins s1 σ H1 x v Q I1 r1 q1) (he _)
theorem WG:Yx X (binaryOp .Add) (fun x y H Q=>∃ i j,x=.str i∧y=.str j∧i.length+j.length≤sizeLine∧Q (.str (i++j)) H):=by
 intro pins s σ H x y v u Q I rx ry h
 obtain ⟨i,j,rfl,rfl,hz,q⟩:=h
 obtain ⟨t,rfl⟩:=rx
 obtain ⟨t',rfl⟩:=ry
 exact add_str (fun t' tk=>⟨.str (i++j),H,I.tok _,⟨_,rfl⟩,q⟩) hz
theorem Yu {x:V}{us:List Value}(r:Vals [x] us):∃ u,us=[u]∧RelV x u:=by
 cases r with
 | cons r1 r2=>cases r2;exact ⟨_,rfl,r1⟩
theorem ZaB {x y:V}{us:List Value}(r:Vals [x,y] us):∃ u w',us=[u,w']∧RelV x u∧RelV y w':=by
 cases r with
 | cons r1 r2 =>
   cases r2 with
   | cons r3 r4=>cases r4;exact ⟨_,_,rfl,r1,r3⟩
theorem ZaU:Ys X (.builtin "abs") (fun xs H Q=>∃ i,xs=[.int i]∧Q (.int (if i < 0 then -i else i)) H):=by
 intro pins s σ H xs us Q I r h
 obtain ⟨i,rfl,q⟩:=h
 obtain ⟨u,rfl,t,rfl⟩:=Yu r
 exact call_abs_int fun u tk=>⟨.int (if i < 0 then -i else i),H,I.tok _,⟨_,rfl⟩,q⟩
theorem Zev (hc:X.calm=true):Ys X (.builtin "min") (fun xs H Q=>∃ i j,xs=[.int i,.int j]∧Q (.int (if j < i then j else i)) H):=by
 intro pins s σ H xs us Q I r h
 obtain ⟨i,j,rfl,q⟩:=h
 obtain ⟨u,w',rfl,⟨t,rfl⟩,⟨t',rfl⟩⟩:=ZaB r
 refine min_two_ints (I.ok.hd hc) fun h' tk k=>⟨_,H,I.kept k,?_,q⟩
 by_cases hj:j < i
 · rw [if_pos hj,if_pos hj];exact ⟨_,rfl⟩
 · rw [if_neg hj,if_neg hj];exact ⟨_,rfl⟩
theorem VS:Ys X (.type "int") (fun xs H Q=>(∃ i,xs=[.int i]∧Q (.int i) H)∨∃ k,xs=[.bl k]∧Q (.int (if k then 1 else 0)) H):=by
 intro pins s σ H xs us Q I r h
 rcases h with ⟨i,rfl,q⟩ | ⟨k,rfl,q⟩
 · obtain ⟨u,rfl,t,rfl⟩:=Yu r
   exact call_int_int ⟨.int i,H,I,⟨_,rfl⟩,q⟩
 · obtain ⟨u,rfl,r1⟩:=Yu r
   cases r1
   exact call_int_bool ⟨.int (if k then 1 else 0),H,I.tok _,⟨_,rfl⟩,q⟩
theorem Zbz:Ys X (.builtin "ord") (fun xs H Q=>∃ x,xs=[.str x]∧x.length=1∧Q (.int (x.cps.getD 0 0:Nat)) H):=by
 intro pins s σ H xs us Q I r h
 obtain ⟨x,rfl,hz,q⟩:=h
 obtain ⟨u,rfl,t,rfl⟩:=Yu r
 exact ord_of_one hz ⟨.int _,H,I.tok _,⟨_,rfl⟩,q⟩
def Zfg (K:PySem.W.Frag)(x:V)(H:Hp)(n:Nat):Prop :=
 match x with
 | .str y=>y.length≤sizeLine∧n=y.length
 | .byt y=>y.size≤sizeLine∧n=y.size
 | .ref p=>(∃ xs,SqL K H p xs∧n=xs.length)∨∃ xs,SqT K H p xs∧n=xs.length
 | _=>False
theorem Zfq:Ys X (.builtin "len") (fun xs H Q=>∃ x n,xs=[x]∧Zfg X.K x H n∧Q (.int n) H):=by
 intro pins s σ H xs us Q I r h
 obtain ⟨x,n,rfl,e,q⟩:=h
 obtain ⟨u,rfl,rx⟩:=Yu r
 have hl:=XD
 have hs:sizeLine=16777216:=sizeLine_eq
 cases x with
 | str y =>
   obtain ⟨t,rfl⟩:=rx
   obtain ⟨hy,e'⟩:y.length≤sizeLine∧n=y.length:=e
   subst e'
   exact len_str (by omega) ⟨.int _,H,I.tok _,⟨_,rfl⟩,q⟩
 | byt y =>
   obtain ⟨t,rfl⟩:=rx
   obtain ⟨hy,e'⟩:y.size≤sizeLine∧n=y.size:=e
   subst e'
   exact PySem.W.len_bytes (by omega) ⟨.int _,H,I.tok _,⟨_,rfl⟩,q⟩
 | ref p =>
   cases rx
   have e':(∃ xs,SqL X.K H p xs∧n=xs.length)∨∃ xs,SqT X.K H p xs∧n=xs.length:=e
   rcases e' with ⟨xs,hx,e'⟩ | ⟨xs,hx,e'⟩
   · subst e'
     obtain ⟨its,r',pl,hz⟩:=I.list hx
     have hlen:=r'.length
     exact Calls.call_len_list pl.isList (by simp only [List.size_toArray];omega) ⟨.int xs.length,H,I.tok _,⟨_,by simp only [List.size_toArray];rw [hlen]⟩,q⟩
   · subst e'
     obtain ⟨its,r',pl,hz⟩:=I.tuple hx
     have hlen:=r'.length
     exact len_tuple pl (by simp only [List.size_toArray];omega) ⟨.int xs.length,H,I.tok _,⟨_,by simp only [List.size_toArray];rw [hlen]⟩,q⟩
 | _=>exact (show False from e).elim
theorem ZbD:Ys X (.builtin "divmod") (fun xs H Q=>∃ i j,xs=[.int i,.int j]∧CDiv i j∧∀ p,H p=none→Q (.ref p) (upd H p (.tup [.int (i / j),.int (i % j)]))):=by
 intro pins s σ H xs us Q I r h
 obtain ⟨i,j,rfl,⟨h1,h2⟩,q⟩:=h
 obtain ⟨u,w',rfl,⟨t,rfl⟩,⟨t',rfl⟩⟩:=ZaB r
 refine divmod_int (by omega) ?_ (.inl (PyProof.noPylong_small (by omega)))
 rw [Int.fdiv_eq_ediv_of_nonneg i (by omega),Int.fmod_eq_emod_of_nonneg i (by omega)]
 have hn:H s.heap.objs.size=none:=I.hok.fresh (Nat.le_refl _)
 refine ⟨.ref s.heap.objs.size,_,?_,rfl,q _ hn⟩
 refine I.laid (fun b o e=>Heap.get?_push_of_some _ e) (Nat.le_refl _) ⟨by simp only [List.length_cons,List.length_nil];rw [sizeLine_eq];decide,[.int (i / j) s.toks,.int (i % j) (s.toks+1)],.cons ⟨_,rfl⟩ (.cons ⟨_,rfl⟩ .nil),?_⟩
 exact ⟨_,Heap.get?_push_size s.heap rfl,rfl,0,rfl⟩
end
end L2
namespace L2
open PySem PySem.Spec PyProof.Rows
structure ObjM (h:Heap)(x dx C:Addr)(mA:Str→Option Value):Prop where
 obj:h.get? x=some (PySem.W.instObj C dx)
 ns:h.Ns1 dx mA
 ne:dx≠x
theorem Zdx {h:Heap}{dx:Addr}{mA:Str→Option Value}(n:h.Ns1 dx mA):∃ od,h.get? dx=some od∧∀ name,PySem.W.lookIn name od=some (mA name):=by
 obtain ⟨o,es,ep,ho,hd,hk,_,hm⟩:=n
 refine ⟨o,ho,fun name=>?_⟩
 have e:=hm name
 unfold nsFind findBy at e
 rw [← Array.find?_toList] at e
 unfold PySem.W.lookIn
 rw [hd]
 dsimp only
 split
 · rename_i y q
   rw [q] at e
   exact congrArg some e
 · rename_i q
   rw [q] at e
   have a:es.toList.any (·.refKey)=false:=by
     rw [List.any_eq_false]
     intro y hy
     obtain ⟨z,t,hkey⟩:=hk y (Array.mem_toList_iff.mp hy)
     simp [DictEntry.refKey,hkey]
   have a':¬ es.toList.any (·.refKey)=true:=by rw [a];exact Bool.false_ne_true
   rw [if_neg a']
   exact congrArg some e
theorem ObjM.look {h:Heap}{x dx C:Addr}{mA:Str→Option Value}(I:ObjM h x dx C mA):∃ od,PySem.W.InstAt h x (PySem.W.instObj C dx) C (some od)∧∀ name,PySem.W.lookIn name od=some (mA name) :=
 let ⟨od,ho,hl⟩:=Zdx I.ns
 ⟨od,⟨I.obj,rfl,rfl,ho⟩,hl⟩
section
variable {prog:Program}{w:World}{A:Around}{E:Value→Shared→Prop}{s:Shared}{K:PySem.W.Frag}{x dx C f:Addr}{mA:Str→Option Value}{name:Str}{v:Value}
theorem ZgR {expr:Bool}{Q:Value→Shared→Prop}(X:K.In s.heap)(I:ObjM s.heap x dx C mA)(hg:PySem.W.plainGet K C name=true)(hh:PySem.W.hasDictIn K C=true)
   (ha:PySem.W.findIn K (.ref C) name=some none) (hv:mA name=some v) (hv':PySem.W.handedIn v=true) (h:Q v { s with toks:=s.toks+1 }) :
   wpAny (model prog w) A (getAttr (.ref x) name expr) Q E s:=by
 obtain ⟨od,J,hl⟩:=I.look
 exact PySem.W.get_value X J (PySem.W.plainGet_of hg).1 (PySem.W.findObj_own hh ha rfl (by rw [hl,hv])) hv' h
theorem Zft {pl:Sem Bool}{Q:Value×List Value→Shared→Prop}(X:K.In s.heap)(I:ObjM s.heap x dx C mA)(hg:PySem.W.plainGet K C name=true)
   (hf:PySem.W.findIn K (.ref C) name=some (some (.ref f))) (ht:PySem.W.isFn K (.ref f)=true) (hv:mA name=none) (h:Q (.ref f,[.ref x]) s) :
   wpAny (model prog w) A (getMethod (.ref x) name pl) Q E s:=by
 obtain ⟨od,J,hl⟩:=I.look
 exact PySem.W.method_fn X J (PySem.W.plainGet_of hg).1 (PySem.W.plainGet_of hg).2 hf (beq_iff_eq.mp ht) (by show (PySem.W.lookIn name od).map (·.isSome)=some false;rw [hl,hv];rfl) h
theorem Zgw {ns:List Str}{Q:Unit→Shared→Prop}(X:K.In s.heap)(I:ObjM s.heap x dx C mA)
   (hs:PySem.W.findIn K (.ref C) "__setattr__"=some (some (.builtin "object.__setattr__"))) (hp:PySem.W.plainOver K C=true) (ht:PySem.W.takerIn K C name=some none) (hh:PySem.W.hasDictIn K C=true)
   (hw:PySem.Within mA ns) (hsz:ns.length≤sizeLine)
   (h:∀ h',ObjM h' x dx C (fun y=>if y=name then some v else mA y)→Heap.SameBut dx s.heap h'→Q () { s with heap:=h',toks:=s.toks+2 }) :
   wpAny (model prog w) A (setAttr (.ref x) name v) Q E s:=by
 obtain ⟨od,J,hl⟩:=I.look
 refine PySem.W.set_plain X J hs (PySem.W.osa_open (s:={ s with toks:=s.toks+1 }) (r:=none) X J hp ht fun b=>?_)
 obtain ⟨cd,hc,hd'⟩:=PySem.W.any_some hh
 have hx:s.heap.get? x=some ⟨.ref C,some dx,.plain,#[]⟩:=I.obj
 refine wpAny_bind (wpAny_pure (wpAny_bind (wpAny_bind (wpAny_loadPart hx (wpAny_bind (PySem.W.Looks.here (s:={ s with toks:=s.toks+1 }) (PySem.W.looks_clsIn X hc) ?_))))))
 rw [hd']
 refine wpAny_pure (a:=some dx) (wpAny_bind (wpAny_pure (wpAny_bind ?_)))
 refine wpAny_nsSet1 (s:={ s with toks:=s.toks+1 }) I.ns fun h' hn2 hs2=>?_
 obtain ⟨oD,esD,epD,hoD,hdD,hcD⟩:=hn2.count (PySem.Within.cons name v hw)
 refine wpAny_bind (wpAny_lookBehind hoD (by rw [hdD];exact pastItsLine_dict (Nat.le_trans hcD (by rw [List.length_cons];omega))) ?_)
 exact wpAny_pure (h _ ⟨(hs2.2 _ (Ne.symm I.ne)).trans I.obj,hn2,I.ne⟩ hs2)
theorem ZeD {R:Result→Shared→Prop}{vs:List Value}{kw:List (Str×Value)}(X:K.In s.heap)(hm:PySem.W.makesIn K C=true)
   (hi:PySem.W.findIn K (.ref C) "__init__"=some (some (.ref f))) (hf:PySem.W.typeIn K (.ref f)=some (.type "function"))
   (h:codeAny (model prog w) (A.under (.builtin "type.__call__" ⟨.ref C::vs,kw⟩)) (.call (.ref f) ⟨.ref (s.heap.objs.size+1)::vs,kw⟩) (PySem.W.InitBack (s.heap.objs.size+1) R)
     { s with heap:=(s.heap.push PySem.W.emptyDict).push (PySem.W.instObj C s.heap.objs.size) }) :
   codeAny (model prog w) A (.call (.ref C) ⟨vs,kw⟩) R s:=by
 obtain ⟨hh,g,d,t,os⟩:=s
 exact PySem.W.make_core (PySem.W.makes_of X hm) (PySem.W.looks_findIn X hi) (fun self=>PySem.W.bind_fn X self hf) (.inl rfl) h
end
def YB (f:Str)(v:V):List (Str×V)→List (Str×V)
 | []=>[(f,v)]
 | (g,x)::r=>if g=f then (g,v)::r else (g,x)::YB f v r
theorem Yk (f g:Str)(v:V):∀ fs:List (Str×V),(YB f v fs).lookup g=if g=f then some v else fs.lookup g
 | []=>by
   show List.lookup g [(f,v)]=_
   by_cases h:g=f
   · have hb:(g == f)=true:=beq_iff_eq.mpr h
     simp only [List.lookup,hb,if_pos h]
   · have hb:(g == f)=false:=beq_eq_false_iff_ne.mpr h
     simp only [List.lookup,hb,if_neg h]
 | (k, x)::r=>by
   have ih:=Yk f g v r
   rw [show YB f v ((k,x)::r)=(if k=f then (k,v)::r else (k,x)::YB f v r) from rfl]
   by_cases hk:k=f
   · rw [if_pos hk]
     by_cases h:g=k
     · have hb:(g == k)=true:=beq_iff_eq.mpr h
       simp only [List.lookup,hb,if_pos (h.trans hk)]
     · have hb:(g == k)=false:=beq_eq_false_iff_ne.mpr h
       simp only [List.lookup,hb,if_neg (fun e:g=f=>h (e.trans hk.symm))]
   · rw [if_neg hk]
     by_cases h:g=k
     · have hb:(g == k)=true:=beq_iff_eq.mpr h
       simp only [List.lookup,hb,if_neg (fun e:g=f=>hk (h.symm.trans e))]
     · have hb:(g == k)=false:=beq_eq_false_iff_ne.mpr h
       simp only [List.lookup,hb]
       exact ih
theorem WP (f:Str)(v:V):∀ fs:List (Str×V),f∈(YB f v fs).map (·.1)∧∀ g,g∈fs.map (·.1)→g∈(YB f v fs).map (·.1)
 | []=>⟨by simp [YB],fun g h=>by simp at h⟩
 | (k, x)::r=>by
   obtain ⟨i1,i2⟩:=WP f v r
   rw [show YB f v ((k,x)::r)=(if k=f then (k,v)::r else (k,x)::YB f v r) from rfl]
   by_cases hk:k=f
   · rw [if_pos hk]
     subst hk
     exact ⟨by simp,fun g h=>by simpa using h⟩
   · rw [if_neg hk]
     refine ⟨?_,fun g h=>?_⟩
     · rw [List.map_cons]
       exact List.mem_cons_of_mem _ i1
     · rw [List.map_cons] at h ⊢
       rcases List.mem_cons.mp h with e | e
       · exact List.mem_cons.mpr (.inl e)
       · exact List.mem_cons_of_mem _ (i2 g e)
theorem Ut (f:Str)(v:V):∀ fs:List (Str×V),(YB f v fs).length≤fs.length+1
 | []=>by simp [YB]
 | (k,x)::r=>by
   have ih:=Ut f v r
   rw [show YB f v ((k,x)::r)=(if k=f then (k,v)::r else (k,x)::YB f v r) from rfl]
   by_cases hk:k=f
   · rw [if_pos hk,List.length_cons,List.length_cons];omega
   · rw [if_neg hk,List.length_cons,List.length_cons];omega
theorem RelO.some_of {v:V}{o:Option Value}(r:RelO (some v) o):∃ u,o=some u∧RelV v u:=by
 cases o with
 | none=>exact (show False from r).elim
 | some u=>exact ⟨u,rfl,r⟩
theorem RelO.none_of {o:Option Value}(r:RelO none o):o=none:=by
 cases o with
 | none=>rfl
 | some u=>exact (show False from r).elim
theorem Zal {v:V}{u:Value}(r:RelV v u):PySem.W.handedIn u=true:=by
 cases v with
 | non=>cases (show u=Value.none from r);rfl
 | bl b=>cases (show u=Value.bool b from r);rfl
 | int i=>obtain ⟨t,e⟩:=(show ∃ t,u=Value.int i t from r);cases e;rfl
 | str x=>obtain ⟨t,e⟩:=(show ∃ t,u=Value.str x t from r);cases e;rfl
 | byt b=>obtain ⟨t,e⟩:=(show ∃ t,u=Value.bytes b t from r);cases e;rfl
 | flt b=>obtain ⟨t,e⟩:=(show ∃ t,u=Value.float b t from r);cases e;rfl
 | ref a=>cases (show u=Value.ref a from r);rfl
 | ty n=>cases (show u=Value.type n from r);rfl
section
variable {P:Program}{w:World}{H H':Hp}{h h':Heap}{a C dx:Addr}{fs fs':List (Str×V)}
theorem Uh (hok:HOk P w H h)(e:H a=some (.ins C dx fs)):∃ mA,ObjM h a dx C mA∧(∀ f,RelO (fs.lookup f) (mA f))∧PySem.Within mA (fs.map (·.1))∧fs.length≤1000∧H dx=some (.own a):=by
 obtain ⟨d,z,ne,ob,mA,n,r,q⟩:=(show ObjOk P w H h a (.ins C dx fs) from hok a _ e)
 exact ⟨mA,⟨ob,n,ne⟩,r,q,z,d⟩
end
structure Cls (K:PySem.W.Frag)(C:Addr):Prop where
 pg:PySem.W.plainGet K C Str.empty=true
 hd:PySem.W.hasDictIn K C=true
 po:PySem.W.plainOver K C=true
 sa:PySem.W.findIn K (.ref C) "__setattr__"=some (some (.builtin "object.__setattr__"))
theorem Cls.get {K:PySem.W.Frag}{C:Addr}(c:Cls K C)(f:Str):PySem.W.plainGet K C f=true:=c.pg
def NoAttr (K:PySem.W.Frag)(C:Addr)(f:Str):Prop:=PySem.W.findIn K (.ref C) f=some none
theorem NoAttr.taker {K:PySem.W.Frag}{C:Addr}{f:Str}(n:NoAttr K C f):PySem.W.takerIn K C f=some none:=by
 unfold PySem.W.takerIn
 rw [show PySem.W.findIn K (.ref C) f=some none from n]
 rfl
structure VN (K:PySem.W.Frag)(C:Addr)(m:Str)(f:Addr):Prop where
 at_:PySem.W.findIn K (.ref C) m=some (some (.ref f))
 fn:PySem.W.isFn K (.ref f)=true
 kp:PySem.W.keepIn K (.ref f)=true
section
variable {X:Cx}{pins:List (Addr×Obj)}{σ:St}{H:Hp}{s:Shared}{a C dx:Addr}{fs:List (Str×V)}{f:Str}{v:V}{A:Around}{E:Value→Shared→Prop}
theorem ZcU {b:Bool}{Q:Value→Shared→Prop}(I:Inv X pins σ H s)(e:H a=some (.ins C dx fs))(c:Cls X.K C)(n:NoAttr X.K C f)(l:fs.lookup f=some v)
   (h:∀ u s',Inv X pins σ H s'→RelV v u→Q u s'):wpAny (model X.prog X.w) A (getAttr (.ref a) f b) Q E s:=by
 obtain ⟨mA,O,r,_,_,_⟩:=Uh I.hok e
 obtain ⟨u,hu,ru⟩:=RelO.some_of (v:=v) (o:=mA f) (by rw [← l];exact r f)
 exact ZgR I.kIn O (c.get f) c.hd n hu (Zal ru) (h u _ (I.tok _) ru)
theorem WF {m:Str}{g:Addr}{pl:Sem Bool}{Q:Value×List Value→Shared→Prop}(I:Inv X pins σ H s)(e:H a=some (.ins C dx fs))(c:Cls X.K C)(k:VN X.K C m g)(l:fs.lookup m=none)
   (h:Q (.ref g,[.ref a]) s):wpAny (model X.prog X.w) A (getMethod (.ref a) m pl) Q E s:=by
 obtain ⟨mA,O,r,_,_,_⟩:=Uh I.hok e
 have hn:mA m=none:=RelO.none_of (by rw [← l];exact r m)
 exact Zft I.kIn O (c.get m) k.at_ k.fn hn h
theorem ZcQ {y:V}{u:Value}{Q:Unit→Shared→Prop}(I:Inv X pins σ H s)(e:H a=some (.ins C dx fs))(c:Cls X.K C)(n:NoAttr X.K C f)(hl:fs.length < 1000)(ry:RelV y u)
   (h:∀ s',Inv X pins σ (upd H a (.ins C dx (YB f y fs))) s'→Q () s'):wpAny (model X.prog X.w) A (setAttr (.ref a) f u) Q E s:=by
 obtain ⟨mA,O,r,wi,_,ho⟩:=Uh I.hok e
 have hz:(fs.map (·.1)).length≤sizeLine:=by rw [List.length_map,sizeLine_eq];omega
 refine Zgw I.kIn O c.sa c.po n.taker c.hd wi hz fun h' O' sb=>h _ ?_
 have hd:∃ o,h'.get? dx=some o:=let ⟨o,_,_,e',_⟩:=O'.ns;⟨o,e'⟩
 refine I.write (x:=a) (e:=dx) (by rw [e];exact True.intro) (.inr ho) (fun b q hb z=>(sb.2 b hb).trans z) hd ?_
 refine ⟨by rw [Zg O.ne];exact ho,?_,O.ne,O'.obj,_,O'.ns,fun g=>?_,fun g hg=>?_⟩
 · have:=Ut f y fs;omega
 · show RelO ((YB f y fs).lookup g) (if g=f then some u else mA g)
   rw [Yk]
   by_cases q:g=f
   · rw [if_pos q,if_pos q];exact ry
   · rw [if_neg q,if_neg q];exact r g
 · by_cases q:g=f
   · rw [q];exact (WP f y fs).1
   · refine (WP f y fs).2 g (wi g fun z=>hg ?_)
     show (if g=f then some u else mA g)=none
     rw [if_neg q];exact z
theorem Inv.made (I:Inv X pins σ H s):Inv X pins σ (upd (upd H s.heap.objs.size (.own (s.heap.objs.size+1))) (s.heap.objs.size+1) (.ins C s.heap.objs.size []))
   { s with heap:=(s.heap.push PySem.W.emptyDict).push (PySem.W.instObj C s.heap.objs.size) }:=by
 have e1:(s.heap.push PySem.W.emptyDict).get? s.heap.objs.size=some PySem.W.emptyDict:=Heap.get?_push_size s.heap rfl
 have e2:((s.heap.push PySem.W.emptyDict).push (PySem.W.instObj C s.heap.objs.size)).get? (s.heap.objs.size+1)=some (PySem.W.instObj C s.heap.objs.size):=by
   have:=Heap.get?_push_size (s.heap.push PySem.W.emptyDict) (o:=PySem.W.instObj C s.heap.objs.size) rfl
   rwa [Heap.size_push] at this
 have e3:(s.heap.push PySem.W.emptyDict).Ns s.heap.objs.size (fun _=>none):=⟨PySem.W.emptyDict,#[],_,e1,rfl,(fun e he=>absurd he (by simp)),fun _=>rfl⟩
 have I1:=I.laid (a:=s.heap.objs.size) (o:=.own (s.heap.objs.size+1)) (h':=s.heap.push PySem.W.emptyDict) (t':=s.toks) (fun b u q=>Heap.get?_push_of_some _ q) (Nat.le_refl _) ⟨_,e1⟩
 refine I1.laid (a:=s.heap.objs.size+1) (o:=.ins C s.heap.objs.size []) (t':=s.toks) (fun b u q=>Heap.get?_push_of_some _ q) (Nat.le_of_eq (Heap.size_push _ _)) ?_
 have ne:s.heap.objs.size≠s.heap.objs.size+1:=Nat.ne_of_lt (Nat.lt_succ_self _)
 refine ⟨by rw [Zg ne,Zc],Nat.zero_le _,ne,e2,fun _=>none,(Heap.Ns1.of_empty e3).at fun o q=>Heap.get?_push_of_some _ q,fun _=>True.intro,fun y hy=>absurd rfl hy⟩
theorem Zcn {prog:Program}{w:World}{env:Env}{e:Expr}{f:Str}{pos:Pos}{s:Shared}{Q:Value→Shared→Prop}(hb:attributeBase e f env (eval e env)=eval e env)
   (h:wpAny (model prog w) A (eval e env) (fun o s₁=>wpAny (model prog w) A (getAttr o f true) Q E s₁) E s):wpAny (model prog w) A (eval (.Attribute e f pos) env) Q E s :=
 Attribute_any_ h (by rw [arm_eval_Attribute,hb])
end
def tFld (K:PySem.W.Frag)(ta:TE)(f:Str):TE:=fun σ H Q=>ta σ H fun x H1=>∃ a C dx fs v,x=.ref a∧H1 a=some (.ins C dx fs)∧Cls K C∧NoAttr K C f∧fs.lookup f=some v∧Q v H1
def sFld (K:PySem.W.Frag)(ta tv:TE)(f:Str):TS:=fun D σ H=>tv σ H fun y H1=>ta σ H1 fun x H2=>∃ a C dx fs,x=.ref a∧H2 a=some (.ins C dx fs)∧Cls K C∧NoAttr K C f∧fs.length < 1000 ∧
 D.nx σ (upd H2 a (.ins C dx (YB f y fs)))
section
variable {X:Cx}{o e value:Expr}{f:Str}{pos pos' tpos:Pos}{ta tv:TE}
theorem ZU (he:PE X e ta)(hb:attributeBase e f X.env (eval e X.env)=eval e X.env):PE X (.Attribute e f pos) (tFld X.K ta f):=by
 intro pins s σ H Q I h
 refine Zcn hb (Zm (he pins s σ H _ I h) fun u s1 ⟨x,H1,I1,rx,a,C,dx,fs,v,ex,ea,c,n,l,q⟩=>?_)
 subst ex
 obtain rfl:u=Value.ref a:=rx
 exact ZcU I1 ea c n l fun u' s2 I2 ru=>⟨v,H1,I2,ru,q⟩
theorem Yj (ha:PE X o ta)(hv:PE X value tv)(hs:swapsWith value (some (.Attribute o f pos')) pos.line X.env=pure false):PS X (.Assign [.Attribute o f pos'] value pos) (sFld X.K ta tv f):=by
 intro pins s σ H D I h
 refine plainObj_wpAny_Assign_Attribute (Zm (hv pins s σ H _ I h) fun u s1 ⟨y,H1,I1,ry,q⟩=>Zm (ha pins s1 σ H1 _ I1 q) fun ov s2 ⟨x,H2,I2,rx,a,C,dx,fs,ex,ea,c,n,l,q2⟩=>?_) hs
 subst ex
 obtain rfl:ov=Value.ref a:=rx
 exact ZcQ I2 ea c n l ry fun s3 I3=>⟨σ,_,I3,q2⟩
end
section
variable {X:Cx}{pins:List (Addr×Obj)}{σ:St}{H:Hp}{s:Shared}{A:Around}{E:Value→Shared→Prop}{Q:Value→Shared→Prop}{c:Value}{b:Bool}
inductive Xh (K:PySem.W.Frag)(H:Hp):V→Value→Prop where
 | non:Xh K H .non (.type "NoneType")
 | bl (x:Bool):Xh K H (.bl x) (.type "bool")
 | int (i:Int):Xh K H (.int i) (.type "int")
 | str (x:Str):Xh K H (.str x) (.type "str")
 | flt (x:UInt64):Xh K H (.flt x) (.type "float")
 | lst {a:Addr} {xs:List V} (e:H a=some (.lst xs)):Xh K H (.ref a) (.type "list")
 | frz {a:Addr} {o:Obj} {xs:List V} (e:H a=some (.frz o (.lst xs))):Xh K H (.ref a) (.type "list")
 | tup {a:Addr} {xs:List V} (e:H a=some (.tup xs)):Xh K H (.ref a) (.type "tuple")
 | dK {a:Addr} {kvs:List (Zl×V)} (e:H a=some (.dK kvs)):Xh K H (.ref a) (.type "dict")
 | dT {a:Addr} {kvs:List (List Zl×V)} (e:H a=some (.dT kvs)):Xh K H (.ref a) (.type "dict")
 | ins {a C dx:Addr} {fs:List (Str×V)} (e:H a=some (.ins C dx fs)) (cl:Cls K C) (ha:PySem.W.findIn K (.ref C) "__class__"=some (some (.builtin "object.__class__")))
     (hn:PySem.W.specialIn K (.builtin "object.__class__") "__get__"=some (some (.builtin "getset_descriptor.__get__"))) (htk:PySem.W.takesIn K (.builtin "object.__class__")=some true)
     (hm:PySem.W.mroIn K C (.type "object")=some true):Xh K H (.ref a) (.ref C)
theorem Zeq {x:V}{u t:Value}(I:Inv X pins σ H s)(rx:RelV x u)(ty:Xh X.K H x t)(e:PySem.W.kitOne X.K t c=some b)(h:∀ tk,Q (.bool b) { s with toks:=tk }) :
   wpAny (model X.prog X.w) A (call (.builtin "isinstance") [u,c]) Q E s:=by
 cases ty with
 | non=>cases (show u=Value.none from rx);exact PySem.W.kia_one PySem.W.kitx_none I.kIn True.intro e (fun z=>nomatch z) h
 | bl y=>cases (show u=Value.bool y from rx);exact PySem.W.kia_one PySem.W.kitx_bool I.kIn True.intro e (fun z=>nomatch z) h
 | int i=>obtain ⟨t,q⟩:=(show ∃ t,u=Value.int i t from rx);cases q;exact PySem.W.kia_one PySem.W.kitx_int I.kIn True.intro e (fun z=>nomatch z) h
 | str y=>obtain ⟨t,q⟩:=(show ∃ t,u=Value.str y t from rx);cases q;exact PySem.W.kia_one PySem.W.kitx_str I.kIn True.intro e (fun z=>nomatch z) h
 | flt y=>obtain ⟨t,q⟩:=(show ∃ t,u=Value.float y t from rx);cases q;exact PySem.W.kia_one PySem.W.kitx_float I.kIn True.intro e (fun z=>nomatch z) h
 | @lst a xs ea =>
   cases (show u=Value.ref a from rx)
   obtain ⟨_,_,n,_,h1⟩:=(show ObjOk X.prog X.w H s.heap a (.lst xs) from I.hok a _ ea)
   exact PySem.W.kia_one PySem.W.kitx_list I.kIn ⟨_,h1,rfl⟩ e (fun z=>nomatch z) h
 | @frz a ob xs ea =>
   cases (show u=Value.ref a from rx)
   obtain ⟨_,_,_,n,_,h1⟩:=(show ObjOk X.prog X.w H s.heap a (.frz ob (.lst xs)) from I.hok a _ ea)
   exact PySem.W.kia_one PySem.W.kitx_list I.kIn ⟨_,h1,rfl⟩ e (fun z=>nomatch z) h
 | @tup a xs ea =>
   cases (show u=Value.ref a from rx)
   obtain ⟨_,_,_,p⟩:=(show ObjOk X.prog X.w H s.heap a (.tup xs) from I.hok a _ ea)
   obtain ⟨o,h1,h2,_⟩:=p
   exact PySem.W.kia_one PySem.W.kitx_tuple I.kIn ⟨o,h1,h2⟩ e (fun z=>nomatch z) h
 | @dK a kvs ea =>
   cases (show u=Value.ref a from rx)
   obtain ⟨_,_,vs,_,p⟩:=(show ObjOk X.prog X.w H s.heap a (.dK kvs) from I.hok a _ ea)
   obtain ⟨o,es,ep,h1,h2,_⟩:=p
   exact PySem.W.kia_one PySem.W.kitx_dict I.kIn ⟨o,h1,h2.1⟩ e (fun z=>nomatch z) h
 | @dT a kvs ea =>
   cases (show u=Value.ref a from rx)
   obtain ⟨_,_,xs,_,o,es,ep,h1,h2,_⟩:=(show ObjOk X.prog X.w H s.heap a (.dT kvs) from I.hok a _ ea)
   exact PySem.W.kia_one PySem.W.kitx_dict I.kIn ⟨o,h1,h2.1⟩ e (fun z=>nomatch z) h
 | @ins a C dx fs ea cl ha hn htk hm =>
   cases (show u=Value.ref a from rx)
   obtain ⟨mA,O,_⟩:=Uh I.hok ea
   obtain ⟨od,J,_⟩:=O.look
   exact PySem.W.kia_one (PySem.W.kitx_own (cl.get _) cl.hd ha hn htk hm) I.kIn J e (fun z=>nomatch z) h
end
end L2
namespace L2
open PySem PySem.Spec PyProof.Rows
structure Room (k:Nat)(A:Around):Prop where
 hd:A.handled=none
 dp:A.depth+3 * k+5 < recursionLimit
 un:A.units+16 * k+200 < cLine
 gd:A.guards=some []
theorem Room.mono {j k:Nat}{A:Around}(r:Room k A)(h:j≤k):Room j A:=⟨r.hd,by have:=r.dp;omega,by have:=r.un;omega,r.gd⟩
theorem Room.deeper {k:Nat}{A:Around}(r:Room (k+1) A)(env:Env):Room k (A.deeper env) :=
 ⟨r.hd,by have:=r.dp;show A.depth+1+3 * k+5 < _;omega,by have:=r.un;show A.units+3+16 * k+200 < _;omega,r.gd⟩
theorem Zcx {A:Around}{C:Addr}{us:List Value}{kw:List (Str×Value)}:(A.under (.builtin "type.__call__" ⟨.ref C::us,kw⟩)).depth=A.depth+1:=by
 first | rfl | simp [Around.under,Code.weight,Code.isCreation,Code.isGuard,Code.isCaller,Code.frames,Code.isFrame,guardIds]
theorem Zcr {A:Around}{C:Addr}{us:List Value}{kw:List (Str×Value)}:(A.under (.builtin "type.__call__" ⟨.ref C::us,kw⟩)).units=A.units+1:=by
 first | rfl | simp [Around.under,Code.cUnits,Code.frames,Code.isFrame]
theorem Room.make {k:Nat}{A:Around}(r:Room (k+1) A)(C:Addr)(us:List Value)(kw:List (Str×Value)):Room k (A.under (.builtin "type.__call__" ⟨.ref C::us,kw⟩)) :=
 ⟨r.hd,by have:=r.dp;rw [Zcx];omega,by have:=r.un;rw [Zcr];omega,by first | exact r.gd | simpa [Around.under,Code.isGuard,guardIds] using r.gd⟩
theorem Room.depth {k:Nat}{A:Around}(r:Room k A):A.depth < recursionLimit:=by have:=r.dp;omega
theorem Room.units {k:Nat}{A:Around}(r:Room k A):A.units+64 < cLine:=by have:=r.un;omega
def We:TA:=fun _ H Q=>Q [] H
def YW (ta:TE)(tr:TA):TA:=fun σ H Q=>ta σ H fun x H1=>tr σ H1 fun xs H2=>Q (x::xs) H2
section
variable {X:Cx}{e:Expr}{es:List Expr}{te:TE}{t:TA}{pos:Pos}
theorem Za:PA X [] We:=fun _ _ _ _ H Q I h=>Calls.spliced_nil ⟨[],H,I,.nil,h⟩
theorem Yd (ha:PE X e te)(hr:PA X es t)(hs:starEach (e::es) X.env=(false,eval e X.env)::starEach es X.env:=by rfl):PA X (e::es) (YW te t):=by
 intro pos pins s σ H Q I h
 rw [hs]
 show wpAny _ _ (spliced ((false,eval e X.env)::backTo pos (starEach es X.env))) _ _ s
 refine Calls.spliced_cons (Zm (ha pins s σ H _ I h) fun u s1 ⟨x,H1,I1,r1,q1⟩=>?_)
 exact Zm (hr pos pins s1 σ H1 _ I1 q1) fun us s2 ⟨xs,H2,I2,r2,q2⟩=>⟨x::xs,H2,I2,.cons r1 r2,q2⟩
def tTup (t:TA):TE:=fun σ H Q=>t σ H fun xs H1=>xs.length≤sizeLine∧∀ p,H1 p=none→Q (.ref p) (upd H1 p (.tup xs))
def tLst (t:TA):TE:=fun σ H Q=>t σ H fun xs H1=>xs.length≤sizeLine∧∀ p,H1 p=none→Q (.ref p) (upd H1 p (.lst xs))
theorem ZX {x1}(h:PA X es t):PE X (.Tuple es x1 pos) (tTup t):=by
 intro pins s σ H Q I hq
 refine wpAny_Tuple_spliced (Zm (h pos pins s σ H _ I hq) fun us s1 ⟨xs,H1,I1,r,z,q⟩=>⟨by rw [← r.length];exact z,?_⟩)
 have hf:H1 s1.heap.objs.size=none:=I1.hok.fresh (Nat.le_refl _)
 refine ⟨.ref s1.heap.objs.size,upd H1 s1.heap.objs.size (.tup xs),I1.laid (t':=s1.toks) (fun b u e=>Heap.get?_push_of_some _ e) (Nat.le_refl _) ?_,rfl,q _ hf⟩
 exact ⟨z,us,r,⟨_,Heap.get?_push_size _ rfl,rfl,_,rfl⟩⟩
theorem ZF (h:PA X es t):PE X (.List es pos) (tLst t):=by
 intro pins s σ H Q I hq
 refine wpAny_List_spliced (Zm (h pos pins s σ H _ I hq) fun us s1 ⟨xs,H1,I1,r,z,q⟩=>⟨by rw [← r.length];exact z,?_⟩)
 have hf:H1 s1.heap.objs.size=none:=I1.hok.fresh (Nat.le_refl _)
 refine ⟨.ref s1.heap.objs.size,upd H1 s1.heap.objs.size (.lst xs),I1.laid (t':=s1.toks) (fun b u e=>Heap.get?_push_of_some _ e) (Nat.le_refl _) ?_,rfl,q _ hf⟩
 exact ⟨z,us,0,r,Heap.get?_push_size _ rfl⟩
end
abbrev Sp:=List V→Hp→VK→XK→Prop
abbrev XU:=List Env→Hp→Shared→XK→Value→Shared→Prop
structure Env0 (P:Program)(w:World)(K:PySem.W.Frag)(mg:Str→Option Value)(base:Heap)(A:Around)(outer:List Env)(s:Shared)(H:Hp):Prop where
 frames:A.frames=some outer
 mod:Mod K mg base
 bs:∀ b o,base.get? b=some o→s.heap.get? b=some o∧H b=none
 bsz:base.objs.size≤s.heap.objs.size
 funs:s.heap.FunFrames base outer
 frf:∀ b∈Yb outer,H b=none
 hok:HOk P w H s.heap
 bare:AllBare s.gens
def CE (outer:List Env)(P:Program)(w:World)(H:Hp)(s:Shared)(Q:VK)(u:Value)(s':Shared):Prop :=
 ∃ v H',s'.os=s.os∧AllBare s'.gens∧Un (Yb outer) [] H H' s.heap s'.heap∧HOk P w H' s'.heap∧RelV v u∧Q v H'
def CR (CX:XU)(outer:List Env)(P:Program)(w:World)(H:Hp)(s:Shared)(Q:VK)(E:XK)(r:Result)(s':Shared):Prop :=
 match r with
 | .ok (.ret u)=>CE outer P w H s Q u s'
 | .ok _=>False
 | .error e=>CX outer H s E e s'
structure FnOk (P:Program)(w:World)(K:PySem.W.Frag)(mg:Str→Option Value)(base:Heap)(CX:XU)(k:Nat)(f:Addr)(fd:FuncData)(ps:List Str)(sp:Sp):Prop where
 len:∀ vs H Q E,sp vs H Q E→vs.length=ps.length
 run:∀ (A:Around) (outer:List Env) (s:Shared) (H:Hp) (args:Args) (us:List Value) (vs:List V) (Q:VK) (E:XK),Room k A→Env0 P w K mg base A outer s H→BindsTo s fd args (ps.zip us)→Vals vs us→sp vs H Q E →
   codeAny (model P w) A (.call (.ref f) args) (CR CX outer P w H s Q E) s
theorem FnOk.mono {P:Program}{w:World}{K:PySem.W.Frag}{mg:Str→Option Value}{base:Heap}{CX:XU}{j k:Nat}{f:Addr}{fd:FuncData}{ps:List Str}{sp:Sp}(F:FnOk P w K mg base CX j f fd ps sp)(h:j≤k) :
 FnOk P w K mg base CX k f fd ps sp:=⟨F.len,fun A outer s H args us vs Q E hr=>F.run A outer s H args us vs Q E (hr.mono h)⟩
theorem Env0.make {P:Program}{w:World}{K:PySem.W.Frag}{mg:Str→Option Value}{base:Heap}{A:Around}{outer:List Env}{s:Shared}{H:Hp}(e:Env0 P w K mg base A outer s H)(C:Addr)(us:List Value)(kw:List (Str×Value)) :
 Env0 P w K mg base (A.under (.builtin "type.__call__" ⟨.ref C::us,kw⟩)) outer s H:=⟨by first | exact e.frames | (simpa [Around.under,Code.envs,Code.isFrame,pushEnvs] using e.frames),e.mod,e.bs,e.bsz,e.funs,e.frf,e.hok,e.bare⟩
section
variable {X:Cx}{pins:List (Addr×Obj)}{σ:St}{H:Hp}{s s':Shared}
theorem Inv.env0 (I:Inv X pins σ H s):Env0 X.prog X.w X.K X.mg X.base X.A X.stack s H :=
 ⟨I.ok.frames,I.ok.mod,I.bs,Nat.le_trans I.ok.bsz I.sz,I.stack,I.stkFree,I.hok,I.bare⟩
theorem Inv.after {Q:VK}{u:Value}(I:Inv X pins σ H s)(h:CE X.stack X.prog X.w H s Q u s'):EP X pins σ Q u s':=by
 obtain ⟨v,H',os,bare,un,hok,r,q⟩:=h
 obtain ⟨hh,g,d,t,os'⟩:=s'
 obtain rfl:os'=s.os:=os
 exact ⟨v,H',I.call (h':=hh) (g':=g) (d':=d) (t':=t) (ch:=[]) un hok bare (fun b z=>absurd z (by simp)),r,q⟩
end
def ZcX (sp:Sp)(dvs:List V)(E:XK)(t:TA):TE:=fun σ H Q=>t σ H fun vs H1=>sp (vs++dvs) H1 Q E
def ZaD (C:Addr)(m:Str)(sp:Sp)(dvs:List V)(E:XK)(ta:TE)(t:TA):TE:=fun σ H Q=>ta σ H fun x H1=>∃ a dx fs,x=.ref a∧H1 a=some (.ins C dx fs)∧fs.lookup m=none ∧
 t σ H1 fun vs H2=>sp (x::(vs++dvs)) H2 Q E
def Zgf (C:Addr)(sp:Sp)(dvs:List V)(E:XK)(t:TA):TE:=fun σ H Q=>t σ H fun vs H1=>∀ x dx,H1 x=none→H1 dx=none→dx≠x →
 sp (.ref x::(vs++dvs)) (upd (upd H1 dx (.own x)) x (.ins C dx [])) (fun v H2=>v=.non∧Q (.ref x) H2) E
def Binds (K:PySem.W.Frag)(fd:FuncData)(ps:List Str)(ds:List Value):Prop :=
 ∀ (s:Shared) (us:List Value),K.In s.heap→(us++ds).length=ps.length→BindsTo s fd ⟨us,[]⟩ (ps.zip (us++ds))
theorem Binds.all {K:PySem.W.Frag}{fd:FuncData}{ps:List Str}(h:∀ us:List Value,us.length=ps.length→bindArgs fd ⟨us,[]⟩=pure (ps.zip us)):Binds K fd ps []:=fun s us _ hl=>by
 rw [List.append_nil] at hl ⊢
 exact .of_eq (h us hl)
def XJ (CX:XU)(X:Cx)(E:XK):Prop:=∀(pins:List (Addr×Obj))(σ:St)(H:Hp)(s:Shared)(e:Value)(s':Shared),Inv X pins σ H s→CX X.stack H s E e s'→X.xe e s'
section
variable {X:Cx}{CX:XU}{k:Nat}{f C:Addr}{fd:FuncData}{ps:List Str}{sp:Sp}{dvs:List V}{ds:List Value}{E:XK}{x m:Str}{p pos apos:Pos}{e o:Expr}{es:List Expr}{ta:TE}{t:TA}
theorem ZaN {pins:List (Addr×Obj)}{σ:St}{H:Hp}{s:Shared}{Q:VK}{us:List Value}{vs:List V}(F:FnOk X.prog X.w X.K X.mg X.base CX k f fd ps sp)(hr:Room k X.A)(hb:Binds X.K fd ps ds)(hd:Vals dvs ds)(hx:XJ CX X E)
   (I:Inv X pins σ H s) (r:Vals vs us) (h:sp (vs++dvs) H Q E):wpAny (model X.prog X.w) X.A (call (.ref f) us) (EP X pins σ Q) X.xe s:=by
 have r2:Vals (vs++dvs) (us++ds):=r.append hd
 have hl:(us++ds).length=ps.length:=by rw [← r2.length];exact F.len _ _ _ _ h
 refine wpAny_call (codeAny_mono (F.run X.A X.stack s H ⟨us,[]⟩ (us++ds) (vs++dvs) Q E hr I.env0 (hb s us I.kIn hl) r2 h) fun r s' hq=>?_)
 cases r with
 | error e=>exact hx pins σ H s e s' I hq
 | ok fl =>
   cases fl with
   | ret u=>exact I.after hq
   | next=>exact False.elim hq
   | brk=>exact False.elim hq
   | cont=>exact False.elim hq
theorem ZgM (F:FnOk X.prog X.w X.K X.mg X.base CX k f fd ps sp)(hr:Room k X.A)(hg:Gl X x)(hm:X.mg x=some (.ref f))(hk:PySem.W.keepIn X.K (.ref f)=true)(hb:Binds X.K fd ps ds)(hd:Vals dvs ds)(hx:XJ CX X E)
   (ha:PA X (e::es) t) (hdb:(x == ("__debug__":Str))=false:=by decide) (he:starEach (e::es) X.env=(false,eval e X.env)::starEach es X.env:=by rfl) (hpl:(backTo pos (starEach es X.env)).any (·.1)=false:=by rfl) :
   PE X (.Call (.Name x p) (e::es) [] pos) (ZcX sp dvs E t):=by
 intro pins s σ H Q I h
 refine wpAny_Call_Name_kw (Xy I hg hm ?_ hdb)
 refine PySem.W.callWith_K (h₀:=X.base) I.ok.mod.kin hk (Zm (ha pos pins s σ H _ I h) fun us s1 ⟨vs,H1,I1,r,q⟩=>⟨I1.kIn,?_⟩) he hpl
 exact ZaN F hr hb hd hx I1 r q
theorem Zgx {pl:Sem Bool}(he:PE X o ta)(c:Cls X.K C)(hm:VN X.K C m f)(F:FnOk X.prog X.w X.K X.mg X.base CX k f fd ps sp)(hr:Room k X.A)(hb:Binds X.K fd ps ds)(hd:Vals dvs ds)(hx:XJ CX X E)(ha:PA X (e::es) t)
   (hst:starEach (e::es) X.env=(false,eval e X.env)::starEach es X.env:=by rfl) (hpl:(backTo pos (starEach es X.env)).any (·.1)=false:=by rfl)
   (ht:eval (.Call (.Attribute o m apos) (e::es) [] pos) X.env=(do
     let ov ← eval o X.env
     standAt apos.atName
     let (f,first) ← holding [ov] (getMethod ov m pl)
     callWith pos f first (backTo pos (starEach (e::es) X.env)) (backToKw pos (keywordEach [] X.env))):=by rfl) :
   PE X (.Call (.Attribute o m apos) (e::es) [] pos) (ZaD C m sp dvs E ta t):=by
 intro pins s σ H Q I h
 refine PySem.W.methodCall_KW (pl:=pl) (Zm (he pins s σ H _ I h) fun u s1 ⟨x,H1,I1,rx,a,dx,fs,ex,ea,l,q⟩=>?_) ht
 subst ex
 obtain rfl:u=Value.ref a:=rx
 refine WF I1 ea c hm l ?_
 refine PySem.W.callWith_K (first:=[.ref a]) (h₀:=X.base) I.ok.mod.kin hm.kp (Zm (ha pos pins s1 σ H1 _ I1 q) fun us s2 ⟨vs,H2,I2,r,q2⟩=>⟨I2.kIn,?_⟩) hst hpl
 exact ZaN (us:=.ref a::us) (vs:=.ref a::vs) F hr hb hd hx I2 (.cons rfl r) q2
theorem Zfi {pl:Sem Bool}(he:PE X o ta)(c:Cls X.K C)(hm:VN X.K C m f)(F:FnOk X.prog X.w X.K X.mg X.base CX k f fd ps sp)(hr:Room k X.A)(hb:Binds X.K fd ps ds)(hd:Vals dvs ds)(hx:XJ CX X E)
   (ht:eval (.Call (.Attribute o m apos) [] [] pos) X.env=(do
     let ov ← eval o X.env
     standAt apos.atName
     let (f,first) ← holding [ov] (getMethod ov m pl)
     callWith pos f first (backTo pos (starEach [] X.env)) (backToKw pos (keywordEach [] X.env))):=by rfl) :
   PE X (.Call (.Attribute o m apos) [] [] pos) (ZaD C m sp dvs E ta We):=by
 intro pins s σ H Q I h
 refine PySem.W.methodCall_KW (pl:=pl) (Zm (he pins s σ H _ I h) fun u s1 ⟨x,H1,I1,rx,a,dx,fs,ex,ea,l,q⟩=>?_) ht
 subst ex
 obtain rfl:u=Value.ref a:=rx
 refine WF I1 ea c hm l ?_
 exact PySem.W.callWith_K0 (first:=[.ref a]) I1.kIn hm.kp (ZaN (us:=[.ref a]) (vs:=[.ref a]) F hr hb hd hx I1 (.cons rfl .nil) q)
structure Mk (K:PySem.W.Frag)(C f:Addr):Prop where
 makes:PySem.W.makesIn K C=true
 init:PySem.W.findIn K (.ref C) "__init__"=some (some (.ref f))
 fn:PySem.W.isFn K (.ref f)=true
 kp:PySem.W.keepIn K (.ref C)=true
theorem ZeV {pins:List (Addr×Obj)}{σ:St}{H:Hp}{s:Shared}{Q:VK}{us:List Value}{vs:List V}(M:Mk X.K C f)(F:FnOk X.prog X.w X.K X.mg X.base CX k f fd ps sp)(hr:Room (k+1) X.A)(hb:Binds X.K fd ps ds)(hd:Vals dvs ds)
   (hx:XJ CX X E) (I:Inv X pins σ H s) (r:Vals vs us)
   (h:∀ x dx,H x=none→H dx=none→dx≠x→sp (.ref x::(vs++dvs)) (upd (upd H dx (.own x)) x (.ins C dx [])) (fun v H2=>v=.non∧Q (.ref x) H2) E) :
   wpAny (model X.prog X.w) X.A (call (.ref C) us) (EP X pins σ Q) X.xe s:=by
 have hq:=h (s.heap.objs.size+1) s.heap.objs.size (I.hok.fresh (Nat.le_succ _)) (I.hok.fresh (Nat.le_refl _)) (Nat.ne_of_lt (Nat.lt_succ_self _))
 have I2:=Inv.made (C:=C) I
 have r2:Vals (V.ref (s.heap.objs.size+1)::(vs++dvs)) (Value.ref (s.heap.objs.size+1)::(us++ds)):=.cons rfl (r.append hd)
 have hl:(Value.ref (s.heap.objs.size+1)::us++ds).length=ps.length:=by
   have e:=r2.length
   rw [F.len _ _ _ _ hq] at e
   exact e.symm
 refine wpAny_call (ZeD (f:=f) I.kIn M.makes M.init (beq_iff_eq.mp M.fn) (codeAny_mono (F.run _ X.stack _ _ ⟨Value.ref (s.heap.objs.size+1)::us,[]⟩ (Value.ref (s.heap.objs.size+1)::(us++ds)) _ _ E (hr.make C us [])
   (I2.env0.make C us []) (hb _ (Value.ref (s.heap.objs.size+1)::us) I2.kIn hl) r2 hq) fun r s' hq'=>?_))
 cases r with
 | error e=>exact hx pins σ _ _ e s' I2 hq'
 | ok fl =>
   cases fl with
   | ret u =>
     obtain ⟨v,H',I3,rv,ev,q3⟩:=I2.after hq'
     subst ev
     exact ⟨rv,⟨V.ref (s.heap.objs.size+1),H',I3,rfl,q3⟩⟩
   | next=>exact False.elim hq'
   | brk=>exact False.elim hq'
   | cont=>exact False.elim hq'
theorem Zfj (M:Mk X.K C f)(F:FnOk X.prog X.w X.K X.mg X.base CX k f fd ps sp)(hr:Room (k+1) X.A)(hg:Gl X x)(hm:X.mg x=some (.ref C))(hb:Binds X.K fd ps ds)(hd:Vals dvs ds)(hx:XJ CX X E)
   (hdb:(x == ("__debug__":Str))=false:=by decide):PE X (.Call (.Name x p) [] [] pos) (Zgf C sp dvs E We):=by
 intro pins s σ H Q I h
 refine wpAny_Call_Name_kw (Xy I hg hm ?_ hdb)
 exact PySem.W.callWith_K0 I.kIn M.kp (ZeV (us:=[]) M F hr hb hd hx I .nil h)
end
def PK (X:Cx)(kws:List Keyword)(t:TA):Prop :=
 ∀ (pos:Pos) (pins:List (Addr×Obj)) (s:Shared) (σ:St) (H:Hp) (Q:List V→Hp→Prop),Inv X pins σ H s→t σ H Q→wpAny (model X.prog X.w) X.A (evalAll ((backToKw pos (keywordEach kws X.env)).map (·.2))) (AP X pins σ Q) X.xe s
section
variable {X:Cx}{CX:XU}{k:Nat}{f C:Addr}{fd:FuncData}{ps ks:List Str}{sp:Sp}{E:XK}{x m:Str}{p pos apos kpos:Pos}{e o:Expr}{es:List Expr}{kws:List Keyword}{te ta:TE}{t tk:TA}{nm:Option Str}
theorem Zij:PK X [] We:=fun _ _ _ _ H Q I h=>wpAny_evalAll_nil ⟨[],H,I,.nil,h⟩
theorem ZgX (ha:PE X e te)(hr:PK X kws t):PK X (⟨nm,e,kpos⟩::kws) (YW te t):=by
 intro pos pins s σ H Q I h
 show wpAny _ _ (evalAll ((do let v ← eval e X.env;standAt pos;pure v)::(backToKw pos (keywordEach kws X.env)).map (·.2))) _ _ s
 refine wpAny_evalAll_cons (wpAny_bind (Zm (ha pins s σ H _ I h) fun u s1 ⟨x,H1,I1,r1,q1⟩=>wpAny_bind (wpAny_standAt (wpAny_pure ?_))))
 exact Zm (hr pos pins s1 σ H1 _ I1 q1) fun us s2 ⟨xs,H2,I2,r2,q2⟩=>⟨x::xs,H2,I2,.cons r1 r2,q2⟩
variable {g:List Value→List Value→List Value}{gV:List V→List V→List V}
end
structure Zs (N P:List Str)(sc:Scope):Prop where
 kind:sc.kind=.function
 co:sc.isCoroutine=false
 gen:sc.isGenerator=false
 nd:N.Nodup
 pre:N.take P.length=P
 par:∀ x∈P,sc.names.lookup x=some .local∨sc.names.lookup x=some .cell
 nofree:∀ y∈sc.names,y.2≠.free
theorem Zag {kindOf:Str→Option NameKind}{x:Str}:∀{binds:List (Str×Value)}{m:Str→Option Value},(∀ v,(x,v) ∉ binds)→bindL kindOf binds m x=m x
 | [],_,_=>rfl
 | (n,v)::r,m,h=>by
   unfold bindL
   rw [Zag fun w hw=>h w (List.mem_cons_of_mem _ hw)]
   split
   · have:x≠n:=by rintro rfl;exact h v List.mem_cons_self
     simp [this]
   · rfl
theorem Zae {kindOf:Str→Option NameKind}{x:Str}:∀{binds:List (Str×Value)}{m:Str→Option Value},(∀ v,(x,v) ∉ binds)→bindC kindOf binds m x=m x
 | [],_,_=>rfl
 | (n,v)::r,m,h=>by
   unfold bindC
   rw [Zae fun w hw=>h w (List.mem_cons_of_mem _ hw)]
   split
   · rfl
   · have:x≠n:=by rintro rfl;exact h v List.mem_cons_self
     simp [this]
theorem Zad {kindOf:Str→Option NameKind}{x:Str}{v:Value}:∀{P:List Str}{vs:List Value}{i:Nat}{m:Str→Option Value},P.Nodup→P[i]?=some x→vs[i]?=some v→kindOf x=some .local →
   bindL kindOf (P.zip vs) m x=some v
 | [],_,_,_,_,h,_,_=>by simp at h
 | _::_,[],_,_,_,_,h,_=>by simp at h
 | p::P,w::vs,0,m,nd,h1,h2,hk=>by
   simp at h1 h2;subst h1;subst h2
   show bindL kindOf ((p,w)::P.zip vs) m p=_
   unfold bindL
   rw [Zag fun v hv=>(List.nodup_cons.mp nd).1 (List.of_mem_zip hv).1,if_pos hk]
   simp
 | p::P,w::vs,i+1,m,nd,h1,h2,hk=>by
   show bindL kindOf ((p,w)::P.zip vs) m x=_
   unfold bindL
   exact Zad (i:=i) (List.nodup_cons.mp nd).2 (by simpa using h1) (by simpa using h2) hk
theorem VQ {kindOf:Str→Option NameKind}{x:Str}{v:Value}:∀{P:List Str}{vs:List Value}{i:Nat}{m:Str→Option Value},P.Nodup→P[i]?=some x→vs[i]?=some v→kindOf x≠some .local →
   bindC kindOf (P.zip vs) m x=some v
 | [],_,_,_,_,h,_,_=>by simp at h
 | _::_,[],_,_,_,_,h,_=>by simp at h
 | p::P,w::vs,0,m,nd,h1,h2,hk=>by
   simp at h1 h2;subst h1;subst h2
   show bindC kindOf ((p,w)::P.zip vs) m p=_
   unfold bindC
   rw [Zae fun v hv=>(List.nodup_cons.mp nd).1 (List.of_mem_zip hv).1,if_neg hk]
   simp
 | p::P,w::vs,i+1,m,nd,h1,h2,hk=>by
   show bindC kindOf ((p,w)::P.zip vs) m x=_
   unfold bindC
   exact VQ (i:=i) (List.nodup_cons.mp nd).2 (by simpa using h1) (by simpa using h2) hk
def start (N:List Str)(vs:List V):St:=vs.map some++List.replicate (N.length - vs.length) none
def XZ (CX:XU)(P:Program)(w:World)(K:PySem.W.Frag)(mg:Str→Option Value)(base:Heap)(N:List Str)(qual:Str)(scope:Scope)(f:Addr)(cd:Value)(A:Around)(outer:List Env)(s:Shared)(H:Hp)(E:XK):Cx where
 prog:=P
 w:=w
 K:=K
 mg:=mg
 base:=base
 A:=A.deeper (envOfC qual scope s.heap.objs.size f cd)
 N:=N
 s₀:=s
 H₀:=H
 env:=envOfC qual scope s.heap.objs.size f cd
 outer:=outer
 stack:=envOfC qual scope s.heap.objs.size f cd::outer
 ex:=[]
 calm:=true
 fn:=fun _=>true
 pn:=[]
 xe:=fun e s'=>wpAny (model P w) (A.deeper (envOfC qual scope s.heap.objs.size f cd)) (leaving (envOfC qual scope s.heap.objs.size f cd) e) (fun _ s''=>CX outer H s E e s'') (fun e' s''=>CX outer H s E e' s'') s'
theorem Zbd {sc:Scope}{n:Nat}{x:Str}(h:sc.names.lookup x=some .cell):∃ c,(cellsFrom n sc.names []).lookup x=some c:=by
 have q:=PySem.W.cellsFrom_some sc.names n [] (.inl h)
 exact Option.isSome_iff_exists.mp q
theorem ZdM {CX:XU}{P:Program}{w:World}{K:PySem.W.Frag}{mg:Str→Option Value}{base:Heap}{N ps:List Str}{qual:Str}{scope:Scope}{f:Addr}{cd:Value}{A:Around}{outer:List Env}{s s1:Shared}{H:Hp}{E:XK}{us:List Value}{vs:List V}
   (S:Zs N ps scope) (hd:A.handled=none) (e0:Env0 P w K mg base A outer s H) (hl:vs.length=ps.length) (r:Vals vs us)
   (x:InCallC s s.heap.objs.size (bindL (envOfC qual scope s.heap.objs.size f cd).kindOf (ps.zip us) fun _=>none) (cellsFrom (s.heap.objs.size+1) scope.names []) (bindC (envOfC qual scope s.heap.objs.size f cd).kindOf (ps.zip us) fun _=>none) s1) :
   Inv (XZ CX P w K mg base N qual scope f cd A outer s H E) [] (start N vs) H s1:=by
 have hpl:ps.length≤N.length:=by have:=congrArg List.length S.pre;rw [List.length_take] at this;omega
 obtain ⟨h1,tk,rfl,hk⟩:=x.done
 have noA:∀ b:Addr,b ∉ (XZ CX P w K mg base N qual scope f cd A outer s H E).ex:=fun b z=>absurd (show b∈([]:List Addr) from z) (by simp)
 refine ⟨⟨e0.mod,S.kind,rfl,rfl,Nat.le_refl _,fun y z c h1 h2=>?_,fun y hy=>?_,fun y c _ h=>?_,fun _=>hd,Around.frames_deeper e0.frames,.inr ⟨rfl,rfl⟩,fun b z=>absurd z (noA b),e0.bs,e0.bsz,fun b _ _=>noA b,fun b z=>absurd z (noA b),e0.funs,e0.frf⟩,
   rfl,e0.bare,Un.kept hk,⟨_,x.toInCall.ns,fun i y v h1 h2 h3=>?_⟩,fun y c h=>⟨_,x.cell y c h⟩,e0.hok.fresh (Nat.le_refl _),fun y c h=>?_,fun p hp=>absurd (show p∈([]:List (Addr×Obj)) from hp) (by simp),e0.hok.kept hk,?_⟩
 · exact name_of_addr x.apart (PySem.mem_of_lookup h1) (PySem.mem_of_lookup h2)
 · have hy:scope.names.lookup y=some .cell∨scope.names.lookup y=some .free:=hy
   rcases hy with hy | hy
   · exact Zbd hy
   · exact absurd rfl (S.nofree _ (PySem.mem_of_lookup hy))
 · exact Nat.le_of_lt (x.above y c (PySem.mem_of_lookup h))
 · have hi:i < vs.length:=by
     unfold start at h2
     by_cases hi:i < vs.length
     · exact hi
     · rw [List.getElem?_append_right (by simpa using hi)] at h2
       rw [List.getElem?_replicate] at h2
       split at h2<;>cases h2
   have ha:vs[i]?=some v:=by
     unfold start at h2
     rw [List.getElem?_append_left (by simpa using hi),List.getElem?_map] at h2
     cases e:vs[i]? with
     | none=>rw [e] at h2;cases h2
     | some a=>rw [e] at h2;cases h2;rfl
   obtain ⟨u,hu,rv⟩:=r.get ha
   have hp:ps[i]?=some y:=by
     rw [← S.pre,List.getElem?_take_of_lt (by omega)];exact h1
   have ndP:ps.Nodup:=by rw [← S.pre];exact S.nd.sublist (List.take_sublist _ _)
   refine ⟨u,rv,?_⟩
   rcases S.par y (List.mem_of_getElem? hp) with k | k
   · exact .inl ⟨k,Zad ndP hp hu k⟩
   · obtain ⟨c,e⟩:=Zbd (n:=s.heap.objs.size+1) k
     refine .inr ⟨.inl k,c,e,?_⟩
     have q:=x.cell y c e
     rw [VQ ndP hp hu (by show scope.names.lookup y≠_;rw [k];decide)] at q
     exact q
 · exact e0.hok.fresh (Nat.le_of_lt (x.above y c (PySem.mem_of_lookup h)))
 · unfold start
   show _=N.length
   rw [List.length_append,List.length_map,List.length_replicate]
   omega
theorem ZcY {CX:XU}{P:Program}{w:World}{K:PySem.W.Frag}{mg:Str→Option Value}{base:Heap}{k:Nat}{f:Addr}{name qual:Str}{params:Arguments}{body:List Stmt}{scope:Scope}{dV kV doc pm cdv ct oc:Value}{an od:Option Addr}
   {osl:Array (Option Value)} {N ps:List Str} {sp:Sp} (lk:K.lookup f=some ⟨oc,od,.func (PySem.W.fnOf name qual params body scope dV kV doc pm an cdv ct),osl⟩) (hcd:PySem.W.codeIn K cdv qual=true) (S:Zs N ps scope)
   (len:∀ vs H Q E,sp vs H Q E→vs.length=ps.length)
   (hbody:∀ (A:Around) (outer:List Env) (s:Shared) (H:Hp) (vs:List V) (Q:VK) (E:XK),Room k (A.deeper (envOfC qual scope s.heap.objs.size f cdv))→sp vs H Q E →
     ∃ t,PSs (XZ CX P w K mg base N qual scope f cdv A outer s H E) body t∧t { nx:=fun _ H'=>Q .non H',rt:=Q } (start N vs) H) :
   FnOk P w K mg base CX (k+1) f (PySem.W.fnOf name qual params body scope dV kV doc pm an cdv ct) ps sp:=by
 refine ⟨len,fun A outer s H args us vs Q E hr e0 hb r hsp=>?_⟩
 have hl:=len _ _ _ _ hsp
 have KX:K.In s.heap:=e0.mod.kin.keeps fun b o e=>(e0.bs b o e).1
 have lim:s.heap.NoLimit:=e0.mod.nolimit.keeps fun b o e=>(e0.bs b o e).1
 have hkind:∀ y∈ps.zip us,scope.names.lookup y.1=some .local∨(scope.names.lookup y.1=some .cell∧((cellsFrom (s.heap.objs.size+1) scope.names []).lookup y.1).isSome=true):=fun ⟨n,v⟩ hy=>by
   rcases S.par n (List.of_mem_zip hy).1 with q | q
   · exact .inl q
   · exact .inr ⟨q,PySem.W.cellsFrom_some _ _ _ (.inl q)⟩
 refine codeAny_call_function hr.depth (KX _ _ lk) rfl S.co S.gen rfl (PySem.W.codeRec_of KX hcd) (hb _ _ _ _ ?_)
 refine wpAny_newFunctionEnv_cells S.kind hkind fun env he s1 x=>?_
 subst he
 refine ⟨lim.keeps x.toInCall.keep,codeAny_func ?_⟩
 obtain ⟨t,ht,hq⟩:=hbody A outer s H vs Q E (hr.deeper _) hsp
 have I:Inv (XZ CX P w K mg base N qual scope f cdv A outer s H E) [] (start N vs) H s1:=ZdM S hr.hd e0 hl r x
 refine wpAny_mono (ht [] s1 (start N vs) H _ I hq) (fun fl s' hs=>?_) fun e s' hs=>hs
 have fin:∀ {σ':St} {H':Hp} {v:V} {u:Value},Inv (XZ CX P w K mg base N qual scope f cdv A outer s H E) [] σ' H' s'→RelV v u→Q v H'→CE outer P w H s Q u s' :=
   fun {σ' H' v u} J rv q=>⟨v,H',J.os,J.bare,J.base,J.hok,rv,q⟩
 cases fl with
 | ret u =>
   obtain ⟨v,σ',H',J,rv,q⟩:=hs
   exact fin J rv q
 | next =>
   obtain ⟨σ',H',J,q⟩:=hs
   exact fin (v:=V.non) (u:=Value.none) J rfl q
 | brk =>
   obtain ⟨_,_,_,q⟩:=hs
   exact False.elim q
 | cont =>
   obtain ⟨_,_,_,q⟩:=hs
   exact False.elim q
end L2
namespace L2
open PySem PySem.Spec PyProof.Rows
section
variable {X:Cx}{x:Str}{p pos:Pos}{e:Expr}{es:List Expr}{t:TA}{id T:String}{r:List V→Hp→VK→Prop}
def tCB (r:List V→Hp→VK→Prop)(t:TA):TE:=fun σ H Q=>t σ H fun vs H1=>r vs H1 Q
theorem Zn (hc:Ys X (.builtin id) r)(hg:Gl X x)(hm:X.mg x=none)(hv:bootBuiltins x=some (.builtin id))(ha:PA X (e::es) t)(hn:x≠"__name__":=by decide)(hdb:(x == ("__debug__":Str))=false:=by decide)
   (he:starEach (e::es) X.env=(false,eval e X.env)::starEach es X.env:=by rfl) (hpl:(backTo pos (starEach es X.env)).any (·.1)=false:=by rfl):PE X (.Call (.Name x p) (e::es) [] pos) (tCB r t):=by
 intro pins s σ H Q I h
 refine wpAny_Call_Name_kw (WW I hg hm hv ?_ hn hdb)
 exact PyProof.Rows.callWith_builtin1 (Zm (ha pos pins s σ H _ I h) fun us s1 ⟨vs,H1,I1,r1,q1⟩=>hc pins s1 σ H1 vs us Q I1 r1 q1) he hpl
theorem XV (hc:Ys X (.type T) r)(hg:Gl X x)(hm:X.mg x=none)(hv:bootBuiltins x=some (.type T))(ha:PA X (e::es) t)(hn:x≠"__name__":=by decide)(hdb:(x == ("__debug__":Str))=false:=by decide)
   (he:starEach (e::es) X.env=(false,eval e X.env)::starEach es X.env:=by rfl) (hpl:(backTo pos (starEach es X.env)).any (·.1)=false:=by rfl):PE X (.Call (.Name x p) (e::es) [] pos) (tCB r t):=by
 intro pins s σ H Q I h
 refine wpAny_Call_Name_kw (WW I hg hm hv ?_ hn hdb)
 exact PyProof.Rows.callWith_type1 (Zm (ha pos pins s σ H _ I h) fun us s1 ⟨vs,H1,I1,r1,q1⟩=>hc pins s1 σ H1 vs us Q I1 r1 q1) he hpl
end
end L2
namespace HT
open PySem PyProof.Rows
section
open PySem.SeqAt
open PySem.AutoSeq1 (wpAny_loadPart')
open PySem.MeetsSeq PySem.MeetsSeq2 PySem.MeetsSeq3
end
section
variable {prog:Program}{w:World}{A:Around}{E:Value→Shared→Prop}{s:Shared}
def sIx (n d:Nat):Option Int→Nat
 | none=>d
 | some v=>if v < 0 then (v+(n:Int)).toNat else min v.toNat n
theorem sIx_le (n d:Nat)(hd:d≤n)(o:Option Int):sIx n d o≤n:=by
 cases o with
 | none=>exact hd
 | some v =>
   show (if v < 0 then (v+(n:Int)).toNat else min v.toNat n)≤n
   by_cases hv:v < 0
   · rw [if_pos hv];omega
   · rw [if_neg hv];exact Nat.min_le_right _ _
end
end HT
namespace L2
open PySem PySem.Spec PyProof.Rows
abbrev TO:=St→Hp→(Option Int→Hp→Prop)→Prop
def PO (X:Cx)(e:Option Expr)(t:TO):Prop :=
 ∀ (pins:List (Addr×Obj)) (s:Shared) (σ:St) (H:Hp) (Q:Option Int→Hp→Prop),Inv X pins σ H s→t σ H Q →
   wpAny (model X.prog X.w) X.A (evalPart e X.env) (fun u s'=>∃ o H',Inv X pins σ H' s'∧IsPart u o∧Q o H') X.xe s
def ZgS:TO:=fun _ H Q=>Q none H
def Zji (t:TE):TO:=fun σ H Q=>t σ H fun x H1=>∃ i,x=.int i∧Q (some i) H1
section
variable {X:Cx}{e:Expr}{te:TE}{lo hi:Option Expr}{tl th:TO}{pos p2:Pos}
theorem ZbM:PO X none ZgS:=by
 intro pins s σ H Q I h
 rw [evalPart_none]
 exact wpAny_pure ⟨none,H,I,.none,h⟩
theorem Zca (h:PE X e te):PO X (some e) (Zji te):=by
 intro pins s σ H Q I hw
 rw [evalPart_some]
 refine Zm (h pins s σ H _ I hw) fun u s1 ⟨x,H1,I1,r1,q1⟩=>?_
 obtain ⟨i,rfl,q⟩:=q1
 obtain ⟨t,rfl⟩:=r1
 exact ⟨some i,H1,I1,.int i t,q⟩
def SlR (X:Cx)(r:V→Option Int→Option Int→Hp→VK→Prop):Prop :=
 ∀ (pins:List (Addr×Obj)) (s:Shared) (σ:St) (H:Hp) (x:V) (v vl vu:Value) (lo hi:Option Int) (sl:Addr) (Q:VK),Inv X pins σ H s→RelV x v→s.heap.IsSliceOf sl vl vu .none→IsPart vl lo→IsPart vu hi→r x lo hi H Q →
   ∃ T id,typeLookup (.type T) "__getitem__"=pure (some (.builtin id))∧s.TypeIs v T∧wpAny (model X.prog X.w) X.A (getItem v (.ref sl)) (EP X pins σ Q) X.xe s
def tSl (r:V→Option Int→Option Int→Hp→VK→Prop)(te:TE)(tl th:TO):TE:=fun σ H Q=>te σ H fun x H1=>tl σ H1 fun l H2=>th σ H2 fun u H3=>r x l u H3 Q
theorem ZaK {r:V→Option Int→Option Int→Hp→VK→Prop}(hr:SlR X r)(he:PE X e te)(hl:PO X lo tl)(hu:PO X hi th):PE X (.Subscript e (.Slice lo hi none p2) pos) (tSl r te tl th):=by
 intro pins s σ H Q I h
 refine Subscript_ (Zm (he pins s σ H _ I h) fun v s1 ⟨x,H1,I1,r1,q1⟩=>?_)
 refine wpAny_Slice (Zm (hl pins s1 σ H1 _ I1 q1) fun vl s2 ⟨l,H2,I2,pl,q2⟩=>Zm (hu pins s2 σ H2 _ I2 q2) fun vu s3 ⟨u,H3,I3,pu,q3⟩=>?_)
 rw [evalPart_none]
 refine wpAny_pure ?_
 have I4:Inv X pins σ H3 { s3 with heap:=s3.heap.push { cls:=.type "slice",data:=.fields #[vl,vu,.none] } }:=I3.kept (t':=s3.toks) fun b ob q=>Heap.get?_push_of_some _ q
 obtain ⟨T,id,hT,ht,hg⟩:=hr pins { s3 with heap:=s3.heap.push { cls:=.type "slice",data:=.fields #[vl,vu,.none] } } σ H3 x v vl vu l u s3.heap.objs.size Q I4 r1 (Heap.IsSliceOf.new ..) pl pu q3
 show wpAny (model X.prog X.w) X.A (subscriptTail e (.Slice lo hi none p2) v (.ref s3.heap.objs.size)) (EP X pins σ Q) X.xe { s3 with heap:=s3.heap.push { cls:=.type "slice",data:=.fields #[vl,vu,.none] } }
 exact tail_any (ops:=[.ref s3.heap.objs.size,v]) ht hT hg (by with_unfolding_all rfl)
end
end L2
namespace L2
open PySem PySem.Spec PyProof.Rows
def WJ (n:Nat)(i:Int):Option Nat:=if 0≤i then (if i < n then some i.toNat else none) else if -(n:Int)≤i then some (i+n).toNat else none
def Yr {α:Type}(xs:List α)(i:Int):Option α:=(WJ xs.length i).bind fun j=>xs[j]?
theorem ZbO {n:Nat}{i:Int}{j:Nat}(h:WJ n i=some j):seqIndex? i n=some j∧j < n∧-(n:Int)≤i∧i < n:=by
 unfold WJ at h
 by_cases h0:0≤i
 · rw [if_pos h0] at h
   by_cases h1:i < n
   · rw [if_pos h1] at h
     have e:i.toNat=j:=Option.some.inj h
     exact ⟨by rw [seqIndex_of h0 h1,e],by omega,by omega,h1⟩
   · rw [if_neg h1] at h;cases h
 · rw [if_neg h0] at h
   by_cases h1:-(n:Int)≤i
   · rw [if_pos h1] at h
     have e:(i+n).toNat=j:=Option.some.inj h
     exact ⟨by rw [seqIndex_neg (by omega) h1,e],by omega,h1,by omega⟩
   · rw [if_neg h1] at h;cases h
theorem VL {α:Type}{xs:List α}{i:Int}{v:α}(h:Yr xs i=some v):∃ j,seqIndex? i xs.length=some j∧xs[j]?=some v∧j < xs.length∧-(xs.length:Int)≤i∧i < xs.length:=by
 unfold Yr at h
 cases e:WJ xs.length i with
 | none=>rw [e] at h;cases h
 | some j =>
   rw [e] at h
   obtain ⟨h1,h2,h3,h4⟩:=ZbO e
   exact ⟨j,h1,h,h2,h3,h4⟩
theorem ZS {α:Type}{xs:List α}{j:Nat}{v:α}(h:xs[j]?=some v):Yr xs (j:Int)=some v:=by
 have hj:j < xs.length:=(List.getElem?_eq_some_iff.mp h).1
 have e:WJ xs.length (j:Int)=some j:=by
   unfold WJ
   rw [if_pos (by omega),if_pos (by omega)];simp
 unfold Yr;rw [e];exact h
theorem ZeS {α:Type}(xs:List α)(v:α):Yr (xs++[v]) (-1)=some v:=by
 have hl:(xs++[v]).length=xs.length+1:=by simp
 have e:WJ (xs++[v]).length (-1)=some xs.length:=by
   unfold WJ
   rw [hl,if_neg (by decide),if_pos (by omega)]
   congr 1
   omega
 unfold Yr
 rw [e]
 show (xs++[v])[xs.length]?=some v
 simp
def ZgC (b:Expr):Prop:=∀ o i,subscripted b false o i=operate [o,i] (getItem o i)
def IxR (X:Cx)(r:R2):Prop :=
 ∀ (value slice:Expr) (pins:List (Addr×Obj)) (s:Shared) (σ:St) (H:Hp) (x y:V) (v u:Value) (Q:VK),Inv X pins σ H s→RelV x v→RelV y u→r x y H Q →
   subscripted slice false v u=operate [v,u] (getItem v u)→wpAny (model X.prog X.w) X.A (subscriptTail value slice v u) (EP X pins σ Q) X.xe s
def MtR (X:Cx)(id:String)(r:V→List V→Hp→VK→Prop):Prop :=
 ∀ (pins:List (Addr×Obj)) (s:Shared) (σ:St) (H:Hp) (x:V) (xs:List V) (v:Value) (us:List Value) (Q:VK),Inv X pins σ H s→RelV x v→Vals xs us→r x xs H Q →
   wpAny (model X.prog X.w) X.A (call (.builtin id) (v::us)) (EP X pins σ Q) X.xe s
section
variable {X:Cx}{a b:Expr}{ta tb:TE}{pos:Pos}
theorem ZB {r:R2}(hr:IxR X r)(ha:PE X a ta)(hb:PE X b tb)(hs:ZgC b):PE X (.Subscript a b pos) (tOp r ta tb):=by
 intro pins s σ H Q I h
 exact Subscript_ (ZeE ha hb I h fun v u s2 x y H2 I2 rx ry q=>hr a b pins s2 σ H2 x y v u Q I2 rx ry q (hs _ _))
def rIxL (K:PySem.W.Frag):R2:=fun x y H Q=>∃ p xs i v,x=.ref p∧y=.int i∧SqL K H p xs∧Yr xs i=some v∧Q v H
def rIxT (K:PySem.W.Frag):R2:=fun x y H Q=>∃ p xs i v,x=.ref p∧y=.int i∧SqT K H p xs∧Yr xs i=some v∧Q v H
def rIxS:R2:=fun x y H Q=>∃ z i c,x=.str z∧y=.int i∧z.length≤sizeLine∧Yr z.cps.toList i=some c∧Q (.str ⟨#[c]⟩) H
theorem ZA:IxR X (rIxL X.K):=by
 intro value slice pins s σ H x y v u Q I rx ry h hs
 obtain ⟨p,xs,i,z,rfl,rfl,hq,he,q⟩:=h
 cases rx
 obtain ⟨t,rfl⟩:=ry
 obtain ⟨its,r,pl,hz⟩:=I.list hq
 obtain ⟨j,h1,h2,h3,h4,h5⟩:=VL he
 obtain ⟨w,ew,rw'⟩:=r.get h2
 have hl:=r.length
 have hn:=XD
 have fin:EP X pins σ Q w s:=⟨z,H,I,rw',q⟩
 by_cases h0:0≤i
 · have hj:i.toNat=j:=by
     rw [seqIndex_of h0 h5] at h1
     exact Option.some.inj h1
   exact item_listR pl.isList h0 (by omega) (by rw [hj];simpa using ew) fin hs
 · have hj:(i+(its.toArray.size:Int)).toNat=j:=by
     rw [seqIndex_neg (by omega) h4] at h1
     rw [List.size_toArray,← hl]
     exact Option.some.inj h1
   exact subscriptTail_builtinR (x:=w) pl.isList.typeIs slot_list_getitem.lookup
     (wpAny_getItem_list_neg (Q:=fun r s'=>r=w∧EP X pins σ Q r s') pl.isList (by omega) (by rw [List.size_toArray]<;>omega) (by omega) (by rw [hj];simpa using ew) ⟨rfl,fin⟩) hs
theorem Wg:IxR X (rIxT X.K):=by
 intro value slice pins s σ H x y v u Q I rx ry h hs
 obtain ⟨p,xs,i,z,rfl,rfl,hq,he,q⟩:=h
 cases rx
 obtain ⟨t,rfl⟩:=ry
 obtain ⟨its,r,pl,hz⟩:=I.tuple hq
 obtain ⟨j,h1,h2,h3,h4,h5⟩:=VL he
 obtain ⟨w,ew,rw'⟩:=r.get h2
 have hl:=r.length
 have hn:=XD
 have fin:EP X pins σ Q w s:=⟨z,H,I,rw',q⟩
 exact subscriptTail_builtinR (x:=w) pl.typeIs slot_tuple_getitem.lookup
   (getItem_tuple (j:=j) (Q:=fun r s'=>r=w∧EP X pins σ Q r s') pl (by omega) (by omega) (by rw [List.size_toArray,← hl];exact h1) (by simpa using ew) ⟨rfl,fin⟩) hs
theorem Vs:IxR X rIxS:=by
 intro value slice pins s σ H x y v u Q I rx ry h hs
 obtain ⟨z,i,c,rfl,rfl,hz,he,q⟩:=h
 obtain ⟨t,rfl⟩:=rx
 obtain ⟨t',rfl⟩:=ry
 obtain ⟨j,h1,h2,h3,h4,h5⟩:=VL he
 have hl:z.cps.toList.length=z.length:=by simp [Str.length]
 rw [hl] at h1 h4 h5
 have hn:=XD
 exact tail_any (typeIs_str s z t) slot_str_getitem.lookup (getItem_str (c:=c) (by
   have e1:decide (i < -(2 ^ 63:Int))=false:=decide_eq_false (by omega)
   have e2:decide (i ≥ 2 ^ 63)=false:=decide_eq_false (by omega)
   rw [e1,e2,Bool.or_false]) (by rw [h1];simpa using h2) ⟨.str ⟨#[c]⟩,H,I.tok _,⟨_,rfl⟩,q⟩) hs
theorem ZcA (its:List Value)(n j:Nat)(u:Value):Obj.mapSeq (·.setIfInBounds j u) { cls:=.type "list",data:=.seq its.toArray n }={ cls:=.type "list",data:=.seq (its.set j u).toArray n }:=by
 simp [Obj.mapSeq]
theorem Inv.lst {pins:List (Addr×Obj)}{σ:St}{H:Hp}{s:Shared}{p:Addr}{xs:List V}(I:Inv X pins σ H s)(h:H p=some (.lst xs)) :
   ∃ (its:List Value) (n:Nat),Vals xs its∧s.heap.get? p=some { cls:=.type "list",data:=.seq its.toArray n }∧xs.length≤sizeLine:=by
 obtain ⟨z,its,n,r,e⟩:=I.hok p _ h
 exact ⟨its,n,r,e,z⟩
theorem Inv.lstUpd {pins:List (Addr×Obj)}{σ:St}{H:Hp}{s:Shared}{p:Addr}{xs ys:List V}{its its':List Value}{n n':Nat}{f:Obj→Obj}(I:Inv X pins σ H s)(h:H p=some (.lst xs))
   (ho:s.heap.get? p=some { cls:=.type "list",data:=.seq its.toArray n }) (hf:f { cls:=.type "list",data:=.seq its.toArray n }={ cls:=.type "list",data:=.seq its'.toArray n' }) (r:Vals ys its') (hz:ys.length≤sizeLine) (t:Nat) :
   Inv X pins σ (upd H p (.lst ys)) { s with heap:=s.heap.update p f,toks:=t }:=by
 have e:(s.heap.update p f).get? p=some { cls:=.type "list",data:=.seq its'.toArray n' }:=by
   rw [Heap.get?_update_self f ho (by rw [hf]<;>rfl),hf]
 refine I.write (x:=p) (e:=p) (by rw [h];trivial) (.inl rfl) (fun b u hb q=>(Heap.get?_update_other _ _ (Ne.symm hb)).trans q) ⟨_,e⟩ ?_
 exact ⟨hz,its',n',r,e⟩
def Zjb:V→V→V→Hp→(Hp→Prop)→Prop:=fun o i v H Q=>∃ p xs k j,o=.ref p∧i=.int k∧H p=some (.lst xs)∧WJ xs.length k=some j∧Q (upd H p (.lst (xs.set j v)))
theorem Zbn:PSet X Zjb:=by
 intro pins s σ H o i v ov iv u Q I ro ri rv h
 obtain ⟨p,xs,k,j,rfl,rfl,hp,hj,q⟩:=h
 cases ro
 obtain ⟨t,rfl⟩:=ri
 obtain ⟨its,n,r,ho,hz⟩:=I.lst hp
 obtain ⟨h1,h2,h3,h4⟩:=ZbO hj
 have hl:=r.length
 have hn:=XD
 have I':Inv X pins σ (upd H p (.lst (xs.set j v))) { s with heap:=s.heap.update p (Obj.mapSeq (·.setIfInBounds j u)) } :=
   I.lstUpd hp ho (ZcA its n j u) (r.set rv j) (by rw [List.length_set];exact hz) s.toks
 by_cases h0:0≤k
 · have hk:k.toNat=j:=by
     rw [seqIndex_of h0 h4] at h1
     exact Option.some.inj h1
   exact PySem.W.ki_setAt ho h0 (by omega) (by rw [List.size_toArray,← hl];exact h4) (by rw [hk];exact ⟨_,I',q⟩)
 · have hk:(k+(its.toArray.size:Int)).toNat=j:=by
     rw [seqIndex_neg (by omega) h3] at h1
     rw [List.size_toArray,← hl]
     exact Option.some.inj h1
   exact PySem.W.ki_setBack ho (by omega) (by rw [List.size_toArray,← hl];exact h3) (by omega) (by rw [hk];exact ⟨_,I',q⟩)
theorem Ye:Ys X (.builtin "len") (fun xs H Q=>∃ p ys,xs=[.ref p]∧(SqL X.K H p ys∨SqT X.K H p ys)∧Q (.int ys.length) H):=by
 intro pins s σ H xs us Q I r h
 obtain ⟨p,ys,rfl,hq,q⟩:=h
 obtain ⟨u,rfl,rx⟩:=Yu r
 cases rx
 have hn:=XD
 rcases hq with hq | hq
 · obtain ⟨its,r',pl,hz⟩:=I.list hq
   have hlen:=r'.length
   exact Calls.call_len_list pl.isList (by simp only [List.size_toArray]<;>omega) ⟨.int ys.length,H,I.tok _,⟨s.toks+1,by rw [List.size_toArray,hlen]⟩,q⟩
 · obtain ⟨its,r',pl,hz⟩:=I.tuple hq
   have hlen:=r'.length
   exact len_tuple pl (by simp only [List.size_toArray]<;>omega) ⟨.int ys.length,H,I.tok _,⟨s.toks+1,by rw [List.size_toArray,hlen]⟩,q⟩
def tyV (K:PySem.W.Frag)(T:String)(x:V)(H:Hp):Prop:=match x with
 | .str _=>T="str"
 | .int _=>T="int"
 | .ref p=>(T="list"∧∃ xs,SqL K H p xs)∨(T="tuple"∧∃ o,K.lookup p=some o∧o.cls=.type "tuple"∧o.dict=none) ∨
     (T="dict"∧((∃ kvs,H p=some (.dK kvs))∨∃ kvs,H p=some (.dT kvs)))∨(T="set"∧∃ S n,H p=some (.set S n))
 | _=>False
theorem ZdI {pins:List (Addr×Obj)}{σ:St}{H:Hp}{s:Shared}{T:String}{x:V}{v:Value}(I:Inv X pins σ H s)(r:RelV x v)(ty:tyV X.K T x H) :
   s.TypeIs v T∧∀ a,v=.ref a→∃ ob,s.heap.get? a=some ob∧ob.dict=none:=by
 cases x with
 | str z =>
   obtain ⟨t,rfl⟩:=r
   cases (show T="str" from ty)
   exact ⟨typeIs_str s z t,fun _ e=>nomatch e⟩
 | int i =>
   obtain ⟨t,rfl⟩:=r
   cases (show T="int" from ty)
   exact ⟨typeIs_int s i t,fun _ e=>nomatch e⟩
 | ref p =>
   cases r
   rcases ty with ⟨rfl,xs,hq⟩ | ⟨rfl,o,hk,hc,hd⟩ | ⟨rfl,hk⟩ | ⟨rfl,S,n,hk⟩
   · obtain ⟨its,_,pl,_⟩:=I.list hq
     refine ⟨pl.isList.typeIs,fun a e=>?_⟩
     cases e
     obtain ⟨o,n,e,c,hd,_⟩:=pl
     exact ⟨o,e,hd⟩
   · refine ⟨⟨o,I.kIn p o hk,hc⟩,fun a e=>?_⟩
     cases e
     exact ⟨o,I.kIn _ o hk,hd⟩
   · have z:∃ o,s.heap.get? p=some o∧o.ExactDict:=by
       rcases hk with ⟨kvs,hk⟩ | ⟨kvs,hk⟩
       · obtain ⟨_,_,_,_,o,_,_,e,ex,_⟩:=I.hok p _ hk
         exact ⟨o,e,ex⟩
       · obtain ⟨_,_,_,_,o,_,_,e,ex,_⟩:=I.hok p _ hk
         exact ⟨o,e,ex⟩
     obtain ⟨o,e,ex⟩:=z
     refine ⟨⟨o,e,ex.1⟩,fun a e2=>?_⟩
     cases e2
     exact ⟨o,e,ex.2.1⟩
   · obtain ⟨o,_,_,_,e,ex,_⟩:=I.hok p _ hk
     refine ⟨⟨o,e,ex.1⟩,fun a e2=>?_⟩
     cases e2
     exact ⟨o,e,ex.2.1⟩
 | _=>exact False.elim ty
def tBM0 (K:PySem.W.Frag)(T:String)(r:V→List V→Hp→VK→Prop)(to:TE):TE:=fun σ H Q=>to σ H fun x H1=>tyV K T x H1∧r x [] H1 Q
def tBM (K:PySem.W.Frag)(T:String)(r:V→List V→Hp→VK→Prop)(to:TE)(t:TA):TE:=fun σ H Q=>to σ H fun x H1=>tyV K T x H1∧t σ H1 fun xs H2=>r x xs H2 Q
variable {o e:Expr}{es:List Expr}{to:TE}{t:TA}{name:Str}{apos cpos:Pos}{T id:String}{r:V→List V→Hp→VK→Prop}
theorem ZdP (pa:PlainAttrs T)(slot:Slot T name id)(hty:typeOf (.builtin id)=pure (.type "method_descriptor"))(hm:MtR X id r)(ho:PE X o to)
   (hbase:attributeBase o name X.env (eval o X.env)=eval o X.env:=by rfl) (hline:(apos.endLine == cpos.line)=true:=by rfl):PE X (.Call (.Attribute o name apos) [] [] cpos) (tBM0 X.K T r to):=by
 intro pins s σ H Q I h
 refine wpAny_Call_method0_late hbase hline (Zm (ho pins s σ H _ I h) fun v s1 ⟨x,H1,I1,r1,ty,q1⟩=>?_)
 obtain ⟨h1,h2⟩:=ZdI I1 r1 ty
 exact ⟨T,id,pa,slot,hty,h1,h2,Calls.callWith_builtin rfl (PySem.evalArgs_none (hm pins s1 σ H1 x [] v [] Q I1 r1 .nil q1))⟩
theorem Wy (pa:PlainAttrs T)(slot:Slot T name id)(hty:typeOf (.builtin id)=pure (.type "method_descriptor"))(hm:MtR X id r)(ho:PE X o to)(ha:PA X (e::es) t)
   (hbase:attributeBase o name X.env (eval o X.env)=eval o X.env:=by rfl)
   (hfew:((backTo cpos (starEach (e::es) X.env)).all (fun x=>!x.1)&&(backToKw cpos (keywordEach [] X.env)).all (fun x=>x.1.isSome)
     && decide ((e::es).length+([]:List Keyword).length+(if ([]:List Keyword).isEmpty then 0 else 1) < 30))=true:=by rfl)
   (hline:(apos.endLine == cpos.line)=true:=by rfl) (hs:starEach (e::es) X.env=(false,eval e X.env)::starEach es X.env:=by rfl) (hplain:(backTo cpos (starEach es X.env)).any (·.1)=false:=by rfl) :
   PE X (.Call (.Attribute o name apos) (e::es) [] cpos) (tBM X.K T r to t):=by
 intro pins s σ H Q I h
 refine wpAny_Call_method_late hbase hfew hline rfl (Zm (ho pins s σ H _ I h) fun v s1 ⟨x,H1,I1,r1,ty,q1⟩=>?_)
 obtain ⟨h1,h2⟩:=ZdI I1 r1 ty
 refine ⟨T,id,pa,slot,hty,h1,h2,?_⟩
 have hA:=ha cpos pins s1 σ H1 _ I1 q1
 rw [hs] at hA ⊢
 refine Calls.callWith_builtin (by show (false || (backTo cpos (starEach es X.env)).any (·.1))=false;rw [hplain]<;>rfl) (Calls.evalArgs_plain ?_)
 exact Zm hA fun us s2 ⟨vs,H2,I2,r2,q2⟩=>hm pins s2 σ H2 x vs v us Q I2 r1 r2 q2
end
end L2
namespace L2
open PySem PySem.Spec PyProof.Rows
def MtM (X:Cx)(id:String)(r:V→List V→Hp→VK→Prop):Prop :=
 ∀ (pins:List (Addr×Obj)) (s:Shared) (σ:St) (H:Hp) (x:V) (xs:List V) (v:Value) (us:List Value) (Q:VK),Inv X pins σ H s→RelV x v→Vals xs us→r x xs H Q →
   wpAny (model X.prog X.w) X.A (call (.builtin id) (v::us)) (EP X pins σ Q) X.xe s
theorem Vals.one:∀{x:V}{us:List Value},Vals [x] us→∃ u,us=[u]∧RelV x u
 | _,_,.cons r .nil=>⟨_,rfl,r⟩
theorem Vals.zero:∀{us:List Value},Vals [] us→us=[]
 | _,.nil=>rfl
theorem Vals.reverse {xs:List V}{us:List Value}(h:Vals xs us):Vals xs.reverse us.reverse:=by
 induction h with
 | nil=>exact .nil
 | cons r t ih=>rw [List.reverse_cons,List.reverse_cons];exact Vals.append ih (.cons r .nil)
theorem Vals.rep {xs:List V}{us:List Value}(h:Vals xs us):∀ k:Nat,Vals (List.replicate k xs).flatten (List.replicate k us).flatten
 | 0=>.nil
 | k+1=>by
   rw [List.replicate_succ,List.replicate_succ,List.flatten_cons,List.flatten_cons]
   exact Vals.append h (Vals.rep h k)
theorem Zai (its:List Value):∀(k:Nat)(acc:List Value),
   List.foldl (fun x1 x2=>x1++x2) acc.toArray (List.replicate k its.toArray)=(acc++(List.replicate k its).flatten).toArray
 | 0,acc=>by simp
 | k + 1,acc=>by
   have e:acc.toArray++its.toArray=(acc++its).toArray:=by simp
   have e2:(acc++its)++(List.replicate k its).flatten=acc++(List.replicate (k+1) its).flatten:=by
     rw [List.replicate_succ,List.flatten_cons,List.append_assoc]
   rw [← e2,← Zai its k (acc++its),← e,List.replicate_succ,List.foldl_cons]
section
variable {X:Cx}{pins:List (Addr×Obj)}{σ:St}{H:Hp}{s:Shared}{l b:Addr}{xs ys zs:List V}
theorem Inv.lset {its its':List Value}{n:Nat}{f:Array Value→Array Value}{t':Nat}(I:Inv X pins σ H s)(hH:H l=some (.lst xs))
   (e:s.heap.get? l=some { cls:=.type "list",data:=.seq its.toArray n }) (hf:f its.toArray=its'.toArray) (hv:Vals ys its') (hz:ys.length≤sizeLine) :
   Inv X pins σ (upd H l (.lst ys)) { s with heap:=s.heap.update l (Obj.mapSeq f),toks:=t' }:=by
 have q:=PySem.IsL.update e f
 rw [hf] at q
 refine I.write (x:=l) (e:=l) (by rw [hH];exact trivial) (.inl rfl) (fun b' u hb hu=>(Heap.get?_update_other s.heap (Obj.mapSeq f) (Ne.symm hb)).trans hu) ⟨_,q⟩ ?_
 exact ⟨hz,its',_,hv,q⟩
theorem Inv.lnew {its:List Value}{t':Nat}(I:Inv X pins σ H s)(hv:Vals ys its)(hz:ys.length≤sizeLine) :
   Inv X pins σ (upd H s.heap.objs.size (.lst ys)) { s with heap:=s.heap.push { cls:=.type "list",data:=.seq its.toArray },toks:=t' } :=
 I.laid (fun _ _ q=>Heap.get?_push_of_some _ q) (Nat.le_refl _) ⟨hz,its,0,hv,Heap.get?_push_size _ rfl⟩
theorem Inv.fresh (I:Inv X pins σ H s):H s.heap.objs.size=none:=I.hok.fresh (Nat.le_refl _)
theorem Inv.lstM (I:Inv X pins σ H s)(hH:H l=some (.lst xs)):xs.length≤sizeLine∧∃ (its:List Value) (n:Nat),Vals xs its∧xs.length=its.length∧s.heap.get? l=some { cls:=.type "list",data:=.seq its.toArray n }:=by
 obtain ⟨z,its,n,r,e⟩:=I.hok l _ hH
 exact ⟨z,its,n,r,r.length,e⟩
theorem ZeZ {n:Nat}(h:n≤sizeLine):Builtin.List.listTooLong n=false:=by
 unfold Builtin.List.listTooLong
 exact decide_eq_false (by omega)
end
section
variable {X:Cx}
def ZgP:V→List V→Hp→VK→Prop:=fun x vs H Q=>∃ l xs y,x=.ref l∧vs=[y]∧H l=some (.lst xs)∧xs.length < sizeLine∧Q .non (upd H l (.lst (xs++[y])))
theorem XX:MtM X "list.append" ZgP:=by
 intro pins s σ H x vs v us Q I rx rv h
 obtain ⟨l,xs,y,rfl,rfl,hH,hz,q⟩:=h
 cases rx
 obtain ⟨u,rfl,ru⟩:=rv.one
 obtain ⟨z,its,n,r,hl,e⟩:=I.lstM hH
 refine call_meets F.slot_list_append ⟨_,e,rfl⟩ F.entry_list_append (F.args_list_append_2 _ _) (PySem.list_append l its.toArray n u (by rw [List.size_toArray];omega)) ⟨e,?_⟩
 refine ⟨.non,_,I.lset (its':=its++[u]) hH e (by simp) (r.append (.cons ru .nil)) ?_,rfl,q⟩
 rw [List.length_append,List.length_singleton]
 omega
def ZeL:V→List V→Hp→VK→Prop:=fun x vs H Q=>∃ l xs,x=.ref l∧vs=[]∧H l=some (.lst xs)∧Q .non (upd H l (.lst xs.reverse))
theorem Zda:MtM X "list.reverse" ZeL:=by
 intro pins s σ H x vs v us Q I rx rv h
 obtain ⟨l,xs,rfl,rfl,hH,q⟩:=h
 cases rx
 have hus:=rv.zero
 subst hus
 obtain ⟨z,its,n,r,hl,e⟩:=I.lstM hH
 refine call_meets F.slot_list_reverse ⟨_,e,rfl⟩ F.entry_list_reverse (F.args_list_reverse_1 _) (AutoSeq1.list_reverse_list_0 l its.toArray n (by rw [List.size_toArray];omega)) ⟨e,?_⟩
 refine ⟨.non,_,I.lset (its':=its.reverse) hH e (by simp) r.reverse ?_,rfl,q⟩
 rw [List.length_reverse]
 omega
def rCat:R2:=fun x y H Q=>∃ l b xs zs,x=.ref l∧y=.ref b∧H l=some (.lst xs)∧H b=some (.lst zs)∧xs.length+zs.length≤sizeLine∧∀ p,H p=none→Q (.ref p) (upd H p (.lst (xs++zs)))
theorem Wm:Yx X (binaryOp .Add) rCat:=by
 intro pins s σ H x y v u Q I rx ry h
 obtain ⟨l,b,xs,zs,rfl,rfl,hH,hB,hz,q⟩:=h
 cases rx
 cases ry
 obtain ⟨z,its,n,r,hl,e⟩:=I.lstM hH
 obtain ⟨z2,its2,n2,r2,hl2,e2⟩:=I.lstM hB
 refine PySem.P.add_list e e2 ?_ (by rw [List.size_toArray,List.size_toArray];omega)
 have ea:its.toArray++its2.toArray=(its++its2).toArray:=by simp
 rw [ea]
 exact ⟨.ref _,_,I.lnew (t':=s.toks) (r.append r2) (by rw [List.length_append];omega),rfl,q _ I.fresh⟩
def rRep:R2:=fun x y H Q=>∃ l k xs,x=.ref l∧y=.int k∧H l=some (.lst xs)∧-(2 ^ 63)≤k∧k < 2 ^ 63∧xs.length * k.toNat≤sizeLine ∧
 ∀ p,H p=none→Q (.ref p) (upd H p (.lst (List.replicate k.toNat xs).flatten))
theorem Zgr {α:Type}(xs:List α)(k:Nat):(List.replicate k xs).flatten.length=k * xs.length:=by
 induction k with
 | zero=>simp
 | succ k ih=>rw [List.replicate_succ,List.flatten_cons,List.length_append,ih,Nat.succ_mul,Nat.add_comm]
theorem Zif:Yx X (binaryOp .Mult) rRep:=by
 intro pins s σ H x y v u Q I rx ry h
 obtain ⟨l,k,xs,rfl,rfl,hH,h1,h2,hz,q⟩:=h
 cases rx
 obtain ⟨t,rfl⟩:=ry
 obtain ⟨z,its,n,r,hl,e⟩:=I.lstM hH
 have hlen:its.toArray.size * k.toNat≤sizeLine:=by rw [List.size_toArray,← hl];exact hz
 have hcap:¬ its.toArray.size * k.toNat > (2 ^ 63 - 1) / 8:=by
   have:(sizeLine:Nat)≤(2 ^ 63 - 1) / 8:=by decide
   omega
 have hfit:¬ (!Builtin.List.listFitsIndex k)=true:=by
   rw [fitsIndex_both h1 h2]
   exact Bool.false_ne_true
 have hlong:¬ Builtin.List.listTooLong (its.toArray.size * k.toNat)=true:=by
   rw [ZeZ hlen]
   exact Bool.false_ne_true
 have hnew:List.foldl (fun x1 x2=>x1++x2) #[] (List.replicate (if its.toArray.isEmpty=true then 0 else k.toNat) its.toArray)=(List.replicate k.toNat its).flatten.toArray:=by
   have f0:∀ m:Nat,List.foldl (fun x1 x2=>x1++x2) #[] (List.replicate m its.toArray)=(List.replicate m its).flatten.toArray:=fun m=>by
     have:=Zai its m []
     rw [List.nil_append] at this
     exact this
   rw [f0]
   cases its with
   | nil=>simp
   | cons a r'=>rw [if_neg (by simp)]
 refine wpAny_binaryOp_repeat_ref (T:="list") (U:="int") (by decide) ⟨_,e,rfl⟩ (fun s'=>typeIs_int s' k t) noFill_list_mul F.fills_int_mul F.slot_int_rmul repeat_list F.slot_int_index.lookup
   (call_meets F.slot_int_rmul (typeIs_int s k t) F.entry_int_rmul (F.args_int_rmul_2 _ _) (int___rmul___int_list k t l its.toArray n)
     ⟨e,rfl,⟨_,e,rfl⟩,call_meets F.slot_list_mul ⟨_,e,rfl⟩ F.entry_list_mul (F.args_list_mul_2 _ _) (AutoListH.list___mul___list_int_3 l its.toArray n k t hfit hcap hlong) ⟨e,?_⟩⟩)
 rw [hnew]
 exact ⟨.ref _,_,I.lnew (t':=s.toks) (r.rep k.toNat) (by rw [Zgr,Nat.mul_comm];exact hz),rfl,q _ I.fresh⟩
end
section
variable {prog:Program}{w:World}{A:Around}{E:Value→Shared→Prop}{s:Shared}
end
section
variable {X:Cx}
end
end L2
namespace Att
open PySem PySem.W PySem.Calls PyProof.Rows
theorem Vd {P:Params}{h:Heap}:∀(ns:List Int)(vs:List Value),WellAll P h vs (ns.map WData.int)→IntsAre vs ns:=by
 intro ns
 induction ns with
 | nil =>
   intro vs w
   rw [List.map_nil] at w
   cases w
   exact .nil
 | cons n ns ih =>
   intro vs w
   rw [List.map_cons] at w
   cases w with
   | cons a b =>
     cases a
     exact .cons _ _ (ih _ b)
theorem ZdY {l:OpenLaw}{n:Nat}(hn:l.most=some n){P:Params}{h:Heap}{args:List WData}{vals:List Value}
   (hpre:l.row.toRowW.claim.pre args=true) (hwl:WellAll P h vals args) :
   ∃ a vs ns,vals=[Value.ref a]∧args=[WData.list (ns.map WData.int)]∧h.get? a=some { cls:=.type "list",data:=.seq vs.toArray }∧IntsAre vs ns∧ns.length≤n:=by
 have hsh:WShape.hasAll [] args [.list .int]=true:=(pre_splitW hpre).1
 have hc:l.pre.holds [] { args:=args }=true:=(pre_splitW hpre).2
 obtain ⟨d,r,rfl,h1,h2⟩:=hasAllW_cons hsh
 obtain rfl:=hasAllW_nil h2
 obtain ⟨xs,rfl,h3⟩:=hasW_list h1
 obtain ⟨ns,rfl⟩:=items_int h3
 have hlen:ns.length≤n:=by
   unfold OpenLaw.pre at hc
   have h4:(WTm.not (.lt (.lit (.int (n:Int))) (.len (.arg 0)))).holds [] { args:=[.list (ns.map .int)] }=true:=by
     have h4:=(holds_andW hc).1
     rw [hn] at h4
     exact h4
   have h5:=condW_of h4 (w_not (w_lt w_lit (w_len_list (w_arg rfl))))
   rw [List.length_map] at h5
   refine Nat.le_of_not_lt fun q=>?_
   have q':(n:Int) < ((ns.length:Nat):Int):=by omega
   first
     | (rw [decide_eq_true q'] at h5;exact absurd h5 (by decide))
     | (simp at h5;omega)
 cases hwl with
 | cons w1 w2 =>
   cases w2
   cases w1 with
   | list ho hall=>exact ⟨_,_,ns,rfl,rfl,ho,Vd ns _ hall,hlen⟩
theorem Zei (l:OpenLaw)(args:List WData):l.row.toRowW.claim.post args (.bool true) args=true :=
 postW_of (r:=l.row.toRowW) (X:=(true == true))
   (show WShape.has [] (.bool true) .bool=true by first | rfl | decide | simp [WShape.has,WShape.arms,WShape.armsAll])
   (show (WTm.eq .res (.lit (.bool true))).value [] { args:=args,res:=some (.bool true),after:=args }=some (.bool (true == true)) from w_eq_bool (w_res rfl) w_lit) rfl
theorem attach_call {l:OpenLaw}{n:Nat}{q:Program}{loose:List Str}{XP:(Str→Option Value)→Heap→Prop}{YP:World→Heap→Prop}{d:DefRec}
   (hn:l.most=some n) (hdf:d.params.defaults=[])
   (call:∀ (w:World) (s₀ s₁:Shared) (mg mb:Str→Option Value) (fa:Addr) (o:Obj) (pm cd doc:Value) (a:Addr) (vs:List Value) (ns:List Int),
     Ground q loose [] XP w s₀ mg mb s₁.heap→YP w s₁.heap →
     s₁.heap.get? fa=some o→o.data=.func (docDef d.name d.params d.body d.scope pm cd doc)→s₁.heap.CodeRec cd d.name→mg d.name=some (.ref fa) →
     s₁.heap.get? a=some { cls:=.type "list",data:=.seq vs.toArray }→IntsAre vs ns→ns.length≤n→s₁.gens=#[] →
     codeAny (model l.prog w) callerA (.call (.ref fa) ⟨[.ref a],[]⟩) (fun r s'=>r=.ok (.ret (.bool true))∧OldK s₁.heap s'.heap∧s'.os=s₁.os∧AllBare s'.gens) s₁) :
   WalkO q loose XP YP l.row.toRowW d [] (fun f vs=>PySem.call f vs):=by
 intro w s₀ s₁ mg mb G Y fa o pm cd doc dV kV ho hd hcd hD hmg hg args vals as hpre hlay hrd hwl hlo
 obtain rfl:dV=.none:=Dflts.none hD hdf
 obtain rfl:kV=.none:=Dflts.noKw hD
 obtain ⟨a,vs,ns,rfl,rfl,hobj,hints,hlen⟩:=ZdY hn hpre hwl
 refine enter_call (codeAny_mono (call w s₀ s₁ mg mb fa o pm cd doc a vs ns G Y ho (fd_plain hd) hcd hmg hobj hints hlen hg) fun r s' hq=>?_)
 obtain ⟨rfl,h2,h3,h4⟩:=hq
 exact ⟨.inl ⟨.bool true,.bool true,[],rfl,fun _=>rfl,.bool true,Zei l _,fun _=>⟨List.Pairwise.nil,fun _ hm=>(nomatch hm)⟩⟩,h2,h3,h4⟩
section
variable {prog:Program}{w:World}{A:Around}{E:Value→Shared→Prop}{s:Shared}{K:Frag}
end
end Att
namespace L2
open PySem PySem.Spec PyProof.Rows
theorem VX:∀{vs:List Value}{ns:List Int},IntsAre vs ns→Vals (ns.map V.int) vs
 | _,_,.nil=>.nil
 | _,_,.cons n t h=>.cons ⟨t,rfl⟩ (VX h)
end L2
namespace L2
open PySem PySem.Spec PyProof.Rows
end L2
namespace L2
open PySem PySem.Spec PyProof.Rows
def ZD (s:Stmt)(j:Nat):Stmt:=match s with
 | .ClassDef _ _ _ body _ _ _ _ _ _ _=>body.getD j (.Pass ⟨0,0,0,0⟩)
 | _=>.Pass ⟨0,0,0,0⟩
def Uj (s:Stmt):Arguments:=match s with
 | .FunctionDef _ a _ _ _ _ _ _ _ _=>a
 | _=>{ posonlyargs:=[],args:=[],vararg:=none,kwonlyargs:=[],kw_defaults:=[],kwarg:=none,defaults:=[] }
def YS (s:Stmt):List Stmt:=match s with
 | .FunctionDef _ _ b _ _ _ _ _ _ _=>b
 | _=>[]
def Zk (s:Stmt):Scope:=match s with
 | .FunctionDef _ _ _ _ _ _ sc _ _ _=>sc
 | _=>{ kind:=.function,names:=[],isGenerator:=false,isCoroutine:=false }
abbrev ZG:XU:=fun _ _ _ _ _ _=>False
abbrev E0:XK:=fun _ _ _=>False
theorem Zaw {X:Cx}:XJ ZG X E0:=fun _ _ _ _ _ _ _ h=>h.elim
structure Fun (K:PySem.W.Frag)(x qual:Str)(st:Stmt)(f:Addr)(fd:FuncData):Prop where
 ex:∃ (oc:Value) (od:Option Addr) (kV doc pm:Value) (an:Option Addr) (cdv ct:Value) (osl:Array (Option Value)),
   fd=PySem.W.fnOf x qual (Uj st) (YS st) (Zk st) .none kV doc pm an cdv ct∧K.lookup f=some ⟨oc,od,.func fd,osl⟩∧PySem.W.codeIn K cdv qual=true
 kp:PySem.W.keepIn K (.ref f)=true
section
variable {P:Program}{w:World}{K:PySem.W.Frag}{mg:Str→Option Value}{base:Heap}
theorem Fun.ok {x qual:Str}{st:Stmt}{f:Addr}{fd:FuncData}{N ps:List Str}{k:Nat}{sp:Sp}(F:Fun K x qual st f fd)(S:Zs N ps (Zk st))(len:∀ vs H Q E,sp vs H Q E→vs.length=ps.length)
   (hbody:∀ (cdv:Value) (A:Around) (outer:List Env) (s:Shared) (H:Hp) (vs:List V) (Q:VK) (E:XK),Room k (A.deeper (envOfC qual (Zk st) s.heap.objs.size f cdv))→sp vs H Q E →
     ∃ t,PSs (XZ ZG P w K mg base N qual (Zk st) f cdv A outer s H E).nox (YS st) t∧t { nx:=fun _ H'=>Q .non H',rt:=Q } (start N vs) H):FnOk P w K mg base ZG (k+1) f fd ps sp:=by
 obtain ⟨oc,od,kV,doc,pm,an,cdv,ct,osl,rfl,lk,hcd⟩:=F.ex
 refine ZcY lk hcd S len fun A outer s H vs Q E hr hsp=>?_
 obtain ⟨t,h,q⟩:=hbody cdv A outer s H vs Q E hr hsp
 exact ⟨t,h.nox,q⟩
theorem Fun.binds {x qual:Str}{st:Stmt}{f:Addr}{fd:FuncData}{ps:List Str}(F:Fun K x qual st f fd)
   (h:∀ (kV doc pm:Value) (an:Option Addr) (cdv ct:Value) (us:List Value),us.length=ps.length→bindArgs (PySem.W.fnOf x qual (Uj st) (YS st) (Zk st) .none kV doc pm an cdv ct) ⟨us,[]⟩=pure (ps.zip us)):Binds K fd ps []:=by
 obtain ⟨oc,od,kV,doc,pm,an,cdv,ct,osl,rfl,lk,hcd⟩:=F.ex
 exact .all (h kV doc pm an cdv ct)
end
theorem Ud {A:Around}{k:Nat}(hr:Room k A):A.units+1 < cLine:=Nat.lt_of_le_of_lt (Nat.add_le_add_left (by decide:1≤64) _) hr.units
theorem ZdN {n:Nat}(h:n≤1000):n < sizeLine:=Nat.lt_of_le_of_lt h (by decide)
section
variable {X:Cx}
theorem pv (i:Nat){x:Str}{pos:Pos}(hN:X.N[i]?=some x:=by rfl)(hv:Vis X.env.scope x:=by first | exact Or.inl rfl | exact Or.inr (Or.inl rfl) | exact Or.inr (Or.inr rfl))(hd:(x == ("__debug__":Str))=false:=by decide)
 (hcd:(x == ("__classdict__":Str))=false:=by decide):PE X (.Name x pos) (ZbA i):=Zeo hN hv hd hcd
end
theorem Yo {A B:Prop}(h:B):if false=true then A else B:=by
 rw [if_neg Bool.false_ne_true]
 exact h
theorem Wx {A B:Prop}(h:A):if true=true then A else B:=by
 rw [if_pos rfl]
 exact h
theorem Xa {c A B:Prop}[Decidable c](h1:c→A)(h2:¬ c→B):if c then A else B:=by
 by_cases h:c
 · rw [if_pos h]
   exact h1 h
 · rw [if_neg h]
   exact h2 h
def Same (H H':Hp):Prop:=∀ b o,H b=some o→H' b=some o
theorem Same.refl (H:Hp):Same H H:=fun _ _ h=>h
theorem Same.trans {H H1 H2:Hp}(a:Same H H1)(b:Same H1 H2):Same H H2:=fun c o h=>b c o (a c o h)
end L2
namespace L2
open PySem PySem.Spec PyProof.Rows
section
variable {κ:Type}[DecidableEq κ]
def ZE (kvs:List (κ×V))(k:κ):Option V:=(kvs.find? fun kv=>decide (kv.1=k)).map (·.2)
def YK (kvs:List (κ×V))(k:κ)(v:V):List (κ×V) :=
 if (kvs.any fun kv=>decide (kv.1=k))=true then kvs.map (fun kv=>if kv.1=k then (kv.1,v) else kv) else kvs++[(k,v)]
theorem UC {p:κ×V}{r:List (κ×V)}{k:κ}(e:p.1=k):ZE (p::r) k=some p.2:=by simp [ZE,List.find?_cons,e]
theorem UJ {p:κ×V}{r:List (κ×V)}{k:κ}(e:¬ p.1=k):ZE (p::r) k=ZE r k:=by simp [ZE,List.find?_cons,e]
theorem ZaS (k:κ):∀ kvs:List (κ×V),(kvs.any fun kv=>decide (kv.1=k))=(ZE kvs k).isSome
 | []=>rfl
 | p::r=>by
   rw [List.any_cons]
   by_cases e:p.1=k
   · simp only [UC e,decide_eq_true e,Bool.true_or,Option.isSome_some]
   · rw [UJ e,decide_eq_false e,Bool.false_or];exact ZaS k r
theorem Wa (kvs:List (κ×V))(k:κ)(v:V):(YK kvs k v).length≤kvs.length+1:=by
 unfold YK
 split
 · rw [List.length_map];omega
 · rw [List.length_append,List.length_cons,List.length_nil];omega
theorem RelO.isSome_eq {o:Option V}{u:Option Value}(r:RelO o u):o.isSome=u.isSome:=by
 cases o with
 | none=>cases u with
   | none=>rfl
   | some _=>exact (show False from r).elim
 | some _=>cases u with
   | none=>exact (show False from r).elim
   | some _=>rfl
theorem RelO.getD {o:Option V}{u:Option Value}{d:V}{d':Value}(r:RelO o u)(rd:RelV d d'):RelV (o.getD d) (u.getD d'):=by
 cases o with
 | none=>cases u with
   | none=>exact rd
   | some _=>exact (show False from r).elim
 | some _=>cases u with
   | none=>exact (show False from r).elim
   | some _=>exact r
theorem KV.val {kvs:List (κ×V)}{vs:List (κ×Value)}(r:KV kvs vs)(k:κ):RelO (ZE kvs k) (valueAt vs k):=by
 unfold KV at r
 induction r with
 | nil=>exact True.intro
 | @cons p q ps qs h t ih =>
   obtain ⟨h1,h2⟩:=h
   by_cases e:p.1=k
   · have e':q.1=k:=h1.symm.trans e
     have b:valueAt (q::qs) k=some q.2:=by simp [valueAt,List.find?_cons,e']
     rw [UC e,b];exact h2
   · have e':¬ q.1=k:=fun z=>e (h1.trans z)
     have b:valueAt (q::qs) k=valueAt qs k:=by simp [valueAt,List.find?_cons,e']
     rw [UJ e,b];exact ih
theorem KV.any {kvs:List (κ×V)}{vs:List (κ×Value)}(r:KV kvs vs)(k:κ):(kvs.any fun kv=>decide (kv.1=k))=vs.any fun kv=>decide (kv.1=k):=by
 unfold KV at r
 induction r with
 | nil=>rfl
 | cons h t ih=>rw [List.any_cons,List.any_cons,ih,h.1]
theorem KV.repl {kvs:List (κ×V)}{vs:List (κ×Value)}(r:KV kvs vs)(k:κ){y:V}{u:Value}(ry:RelV y u) :
   KV (kvs.map fun kv=>if kv.1=k then (kv.1,y) else kv) (vs.map fun kv=>if kv.1=k then (kv.1,u) else kv):=by
 unfold KV at r ⊢
 induction r with
 | nil=>exact .nil
 | @cons p q ps qs h t ih =>
   rw [List.map_cons,List.map_cons]
   refine .cons ?_ ih
   obtain ⟨h1,h2⟩:=h
   by_cases e:p.1=k
   · rw [if_pos e,if_pos (h1.symm.trans e)];exact ⟨h1,ry⟩
   · rw [if_neg e,if_neg (fun z=>e (h1.trans z))];exact ⟨h1,h2⟩
theorem KV.put {kvs:List (κ×V)}{vs:List (κ×Value)}(r:KV kvs vs)(k:κ){y:V}{u:Value}(ry:RelV y u):KV (YK kvs k y) (stored vs k u):=by
 unfold YK stored
 rw [r.any k]
 by_cases e:(vs.any fun kv=>decide (kv.1=k))=true
 · rw [if_pos e,if_pos e];exact r.repl k ry
 · rw [if_neg e,if_neg e];exact Paired.snoc r ⟨rfl,ry⟩
theorem KV.length {kvs:List (κ×V)}{vs:List (κ×Value)}(r:KV kvs vs):kvs.length=vs.length:=Paired.length r
end
theorem WH {P:Program}{w:World}{k:Zl}{u:Value}(r:RelV (kV k) u):(Zx P w).is k u=true:=by
 cases k with
 | inl i=>obtain ⟨t,e⟩:=(show ∃ t,u=Value.int i t from r);subst e;exact ZbB P w i t
 | inr x=>obtain ⟨t,e⟩:=(show ∃ t,u=Value.str x t from r);subst e;exact Uv P w x t
theorem Zab {P:Program}{w:World}:∀{ks:List Zl}{us:List Value},Vals (ks.map kV) us→ItemsAre (Zx P w) ks us
 | [],_,r=>by rw [List.map_nil] at r;cases r;exact .nil
 | k::ks,_,r=>by
   rw [List.map_cons] at r
   cases r with
   | cons h t=>exact .cons (WH h) (Zab t)
abbrev KT (H:Hp):List (List Zl×V)→List (List Zl×Addr×Value)→Prop:=Paired fun p q=>p.1=q.1∧H q.2.1=some (.tup (p.1.map kV))∧RelV p.2 q.2.2
theorem KT.val {H:Hp}{kvs:List (List Zl×V)}{xs:List (List Zl×Addr×Value)}(r:KT H kvs xs)(k:List Zl):RelO (ZE kvs k) ((atKey xs k).map (·.2)):=by
 induction r with
 | nil=>exact True.intro
 | @cons p q ps qs h t ih =>
   obtain ⟨h1,_,h2⟩:=h
   by_cases e:p.1=k
   · have e':q.1=k:=h1.symm.trans e
     have b:atKey (q::qs) k=some q.2:=by simp [atKey,List.find?_cons,e']
     rw [UC e,b];exact h2
   · have e':¬ q.1=k:=fun z=>e (h1.trans z)
     have b:atKey (q::qs) k=atKey qs k:=by simp [atKey,List.find?_cons,e']
     rw [UJ e,b];exact ih
theorem KT.repl {H:Hp}{kvs:List (List Zl×V)}{xs:List (List Zl×Addr×Value)}(r:KT H kvs xs)(k:List Zl){y:V}{u:Value}(ry:RelV y u) :
   KT H (kvs.map fun kv=>if kv.1=k then (kv.1,y) else kv) (xs.map (putAt k u)):=by
 induction r with
 | nil=>exact .nil
 | @cons p q ps qs h t ih =>
   rw [List.map_cons,List.map_cons]
   refine .cons ?_ ih
   obtain ⟨h1,h2,h3⟩:=h
   unfold putAt
   by_cases e:p.1=k
   · rw [if_pos e,if_pos (h1.symm.trans e)];exact ⟨h1,h2,ry⟩
   · rw [if_neg e,if_neg (fun z=>e (h1.trans z))];exact ⟨h1,h2,h3⟩
theorem KT.put {H:Hp}{kvs:List (List Zl×V)}{xs:List (List Zl×Addr×Value)}(r:KT H kvs xs)(k:List Zl){b:Addr}{y:V}{u:Value}(hb:H b=some (.tup (k.map kV)))(ry:RelV y u) :
   KT H (YK kvs k y) (storedH xs k b u):=by
 have e:(kvs.any fun kv=>decide (kv.1=k))=(atKey xs k).isSome:=by
   rw [ZaS,(r.val k).isSome_eq,Option.isSome_map]
 unfold YK storedH
 rw [e]
 by_cases q:(atKey xs k).isSome=true
 · rw [if_pos q,if_pos q];exact r.repl k ry
 · rw [if_neg q,if_neg q];exact Paired.snoc r ⟨rfl,hb,ry⟩
theorem KT.keeps {H H':Hp}{kvs:List (List Zl×V)}{xs:List (List Zl×Addr×Value)}(r:KT H kvs xs)(ht:∀ b ys,H b=some (.tup ys)→H' b=some (.tup ys)):KT H' kvs xs :=
 Paired.mapP r fun _ _ z=>⟨z.1,ht _ _ z.2.1,z.2.2⟩
section
variable {P:Program}{w:World}{H:Hp}{h:Heap}{a:Addr}
theorem ZfR {u:HO}(ok:HOk P w H h)(e:Rd H a u):ObjOk P w H h a u:=e.ok ok
theorem WB {kvs:List (Zl×V)}(ok:HOk P w H h)(e:Rd H a (.dK kvs)):kvs.length≤sizeLine∧(a == sysModules)=false∧∃ vs,KV kvs vs∧h.DictOf (Zx P w) a vs :=
 show ObjOk P w H h a (.dK kvs) from ZfR ok e
theorem ZaF {kvs:List (Zl×V)}(ok:HOk P w H h)(e:H a=some (.dK kvs)):kvs.length≤sizeLine∧(a == sysModules)=false∧∃ vs,KV kvs vs∧h.DictOf (Zx P w) a vs:=WB ok (.inl e)
theorem Wj {ks:List Zl}(ok:HOk P w H h)(e:H a=some (.tup (ks.map kV))):(tupleKind (Zx P w)).is h ks a:=by
 obtain ⟨_,its,r,o,h1,h2,n,h3⟩:=(show ObjOk P w H h a (.tup (ks.map kV)) from ok a _ e)
 exact ⟨o,its.toArray,n,h1,h2,h3,by simpa using Zab r⟩
theorem Ws {kvs:List (List Zl×V)}(ok:HOk P w H h)(e:Rd H a (.dT kvs)):kvs.length≤sizeLine∧(a == sysModules)=false ∧
   ∃ xs,KT H kvs xs∧h.DictOfH (tupleKind (Zx P w)) a xs:=by
 obtain ⟨z,y,xs,r,o,es,ep,h1,h2,h3,h4,h5⟩:=(show ObjOk P w H h a (.dT kvs) from ZfR ok e)
 refine ⟨z,y,xs,r,o,es,ep,h1,h2,h3,h4,fun x hx=>?_,h5⟩
 have all:∀ {l:List (List Zl×V)} {m:List (List Zl×Addr×Value)},KT H l m→∀ x∈m,(tupleKind (Zx P w)).is h x.1 x.2.1:=by
   intro l m q
   induction q with
   | nil=>intro x hx;exact nomatch hx
   | @cons p q ps qs hq t ih =>
     intro x hx
     rcases List.mem_cons.mp hx with e | hx
     · subst e
       exact Wj ok (by rw [← hq.1];exact hq.2.1)
     · exact ih x hx
 exact all r x hx
theorem ZiS {kvs:List (List Zl×V)}(ok:HOk P w H h)(e:H a=some (.dT kvs)):kvs.length≤sizeLine∧(a == sysModules)=false ∧
 ∃ xs,KT H kvs xs∧h.DictOfH (tupleKind (Zx P w)) a xs:=Ws ok (.inl e)
end
def DGet (H:Hp)(a:Addr)(y:V)(r:Option V):Prop :=
 (∃ kvs k,Rd H a (.dK kvs)∧y=kV k∧r=ZE kvs k)∨∃ kvs k b,Rd H a (.dT kvs)∧y=.ref b∧H b=some (.tup (k.map kV))∧r=ZE kvs k
def DPut (H:Hp)(a:Addr)(y v:V)(H':Hp):Prop :=
 (∃ kvs k,H a=some (.dK kvs)∧y=kV k∧kvs.length < sizeLine∧H'=upd H a (.dK (YK kvs k v))) ∨
 ∃ kvs k b,H a=some (.dT kvs)∧y=.ref b∧H b=some (.tup (k.map kV))∧kvs.length < sizeLine∧H'=upd H a (.dT (YK kvs k v))
theorem DGet.k {H:Hp}{a:Addr}{kvs:List (Zl×V)}{k:Zl}(e:H a=some (.dK kvs)):DGet H a (kV k) (ZE kvs k):=.inl ⟨kvs,k,.inl e,rfl,rfl⟩
section
variable {X:Cx}{pins:List (Addr×Obj)}{σ:St}{H:Hp}{s:Shared}{a:Addr}{y v:V}{u r:Value}{o:Option V}{A:Around}{E:Value→Shared→Prop}
theorem Inv.big (I:Inv X pins σ H s):sysModules < s.heap.objs.size:=by
 have h:mainGlobals < s.heap.objs.size:=(I.mod.glob.keeps I.bk).lt
 exact Nat.lt_trans (by decide) h
theorem Zea {Q:Value→Shared→Prop}(hu:A.units+1 < cLine)(I:Inv X pins σ H s)(g:DGet H a y (some v))(ry:RelV y u)(h:∀ w' s',Inv X pins σ H s'→RelV v w'→Q w' s') :
   wpAny (model X.prog X.w) A (getItem (.ref a) u) Q E s:=by
 rcases g with ⟨kvs,k,e,ey,l⟩ | ⟨kvs,k,b,e,ey,eb,l⟩
 · subst ey
   obtain ⟨z,hd,vs,rel,dd⟩:=WB I.hok e
   obtain ⟨w',hw,rw'⟩:=RelO.some_of (v:=v) (o:=valueAt vs k) (by rw [l];exact rel.val k)
   exact wpAny_getItem_of (WH ry) dd.mapOf hw (h w' _ (I.tok _) rw')
 · subst ey
   cases (show u=Value.ref b from ry)
   obtain ⟨z,hd,xs,rel,dd⟩:=Ws I.hok e
   obtain ⟨w',hw,rw'⟩:=RelO.some_of (v:=v) (o:=(atKey xs k).map (·.2)) (by rw [l];exact rel.val k)
   obtain ⟨p,hp,hp2⟩:=Option.map_eq_some_iff.mp hw
   refine wpAny_getItem_heap (tupleKind_room_in1 hu) (Wj I.hok eb) dd hp ?_
   rw [hp2]
   exact h w' _ (I.tok _) rw'
theorem d_in {Q:Value→Shared→Prop}(hu:A.units+1 < cLine)(I:Inv X pins σ H s)(g:DGet H a y o)(ry:RelV y u)(h:∀ s',Inv X pins σ H s'→Q (.bool o.isSome) s') :
   wpAny (model X.prog X.w) A (compareOp .In u (.ref a)) Q E s:=by
 rcases g with ⟨kvs,k,e,ey,l⟩ | ⟨kvs,k,b,e,ey,eb,l⟩
 · subst ey
   obtain ⟨z,hd,vs,rel,dd⟩:=WB I.hok e
   refine wpAny_in_of (WH ry) hd dd.mapOf ?_
   rw [← (rel.val k).isSome_eq,← l]
   exact h _ (I.tok _)
 · subst ey
   cases (show u=Value.ref b from ry)
   obtain ⟨z,hd,xs,rel,dd⟩:=Ws I.hok e
   refine wpAny_in_heap (tupleKind_room_in1 hu) (Wj I.hok eb) hd dd ?_
   have q:=(rel.val k).isSome_eq
   rw [Option.isSome_map] at q
   rw [← q,← l]
   exact h _ (I.tok _)
theorem Zhh {Q:Value→Shared→Prop}(hu:A.units+1 < cLine)(I:Inv X pins σ H s)(g:DGet H a y o)(ry:RelV y u)(h:∀ s',Inv X pins σ H s'→Q (.bool (!o.isSome)) s') :
   wpAny (model X.prog X.w) A (compareOp .NotIn u (.ref a)) Q E s:=by
 rcases g with ⟨kvs,k,e,ey,l⟩ | ⟨kvs,k,b,e,ey,eb,l⟩
 · subst ey
   obtain ⟨z,hd,vs,rel,dd⟩:=WB I.hok e
   refine wpAny_notIn_of (WH ry) hd dd.mapOf ?_
   rw [← (rel.val k).isSome_eq,← l]
   exact h _ (I.tok _)
 · subst ey
   cases (show u=Value.ref b from ry)
   obtain ⟨z,hd,xs,rel,dd⟩:=Ws I.hok e
   refine wpAny_notIn_heap (tupleKind_room_in1 hu) (Wj I.hok eb) hd dd ?_
   have q:=(rel.val k).isSome_eq
   rw [Option.isSome_map] at q
   rw [← q,← l]
   exact h _ (I.tok _)
theorem Vy {h':Heap}{t':Nat}{ob:HO}(I:Inv X pins σ H s)(mu:Mut (H a))(hs:Heap.SameBut a s.heap h')(he:∃ q,h'.get? a=some q)(new:ObjOk X.prog X.w (upd H a ob) h' a ob) :
   Inv X pins σ (upd H a ob) { s with heap:=h',toks:=t' } :=
 I.write (x:=a) (e:=a) mu (.inl rfl) (fun b q hb z=>(hs.2 b hb).trans z) he new
theorem Zee {P:Program}{w:World}{H':Hp}{h':Heap}{kvs:List (Zl×V)}{vs:List (Zl×Value)}(z:kvs.length≤sizeLine)(hd:(a == sysModules)=false)(rel:KV kvs vs)(dd:h'.DictOf (Zx P w) a vs) :
 ObjOk P w H' h' a (.dK kvs):=⟨z,hd,vs,rel,dd⟩
theorem Zdt {H':Hp}{Q:Unit→Shared→Prop}(hu:A.units+1 < cLine)(I:Inv X pins σ H s)(g:DPut H a y v H')(ry:RelV y u)(rv:RelV v r)(h:∀ s',Inv X pins σ H' s'→Q () s') :
   wpAny (model X.prog X.w) A (setItem (.ref a) u r) Q E s:=by
 rcases g with ⟨kvs,k,e,ey,l,eH⟩ | ⟨kvs,k,b,e,ey,eb,l,eH⟩
 · subst ey eH
   obtain ⟨z,hd,vs,rel,dd⟩:=ZaF I.hok e
   have hz:vs.length≤sizeLine:=by rw [← rel.length];exact z
   have hl:(YK kvs k v).length≤sizeLine:=by have:=Wa kvs k v;omega
   refine wpAny_setItem_pairs (hsz:=hz) (WH ry) dd fun h' dd' hs=>h _ ?_
   have he:∃ q,h'.get? a=some q:=let ⟨q,_,_,hq,_⟩:=dd';⟨q,hq⟩
   exact Vy I (by rw [e];exact True.intro) hs he (Zee hl hd (rel.put k rv) dd')
 · subst ey eH
   cases (show u=Value.ref b from ry)
   obtain ⟨z,hd,xs,rel,dd⟩:=ZiS I.hok e
   have hz:xs.length≤sizeLine:=by rw [← Paired.length rel];exact z
   have hl:(YK kvs k v).length≤sizeLine:=by have:=Wa kvs k v;omega
   refine wpAny_setItem_heap (hsz:=hz) (tupleKind_room_in1 hu) (Wj I.hok eb) dd fun h' dd' hs=>h _ ?_
   obtain ⟨q,es,ep,hq,h2,h3,h4,_,h5⟩:=dd'
   refine Vy I (by rw [e];exact True.intro) hs ⟨q,hq⟩ ⟨hl,hd,_,(rel.put k eb rv).keeps fun c ys ec=>?_,q,es,ep,hq,h2,h3,h4,h5⟩
   rw [Zg (Zjq ec e (fun z=>nomatch z))]
   exact ec
end
section
variable {X:Cx}{pins:List (Addr×Obj)}{σ:St}{H:Hp}{s:Shared}{a:Addr}{kvs:List (Zl×V)}{k:Zl}{u:Value}{A:Around}{E:Value→Shared→Prop}
end
def NoSl (i:Expr):Prop:=∀ ov iv,subscripted i false ov iv=operate [ov,iv] (getItem ov iv)
theorem Zgn {prog:Program}{w:World}{A:Around}{E:Value→Shared→Prop}{s:Shared}{env:Env}{value slice:Expr}{pos:Pos}{T id:String}{Q:Value→Shared→Prop}
   (hl:typeLookup (.type T) "__getitem__"=pure (some (.builtin id))) (hs:NoSl slice)
   (h:wpAny (model prog w) A (eval value env) (fun o s₁=>wpAny (model prog w) A (eval slice env) (fun i s₂=>s₂.TypeIs o T∧wpAny (model prog w) A (getItem o i) Q E s₂) E s₁) E s) :
   wpAny (model prog w) A (eval (.Subscript value slice pos) env) Q E s:=by
 refine Subscript_ (wpAny_mono h (fun o s₁ h₁=>wpAny_mono h₁ (fun i s₂ h₂=>?_) fun _ _ x=>x) fun _ _ x=>x)
 obtain ⟨hT,h₂⟩:=h₂
 unfold subscriptTail
 refine wpAny_bind ?_
 rw [getitemInPython_of_ne hT.not_modules]
 refine wpAny_bind (wpAny_specialOf hT hl ?_)
 have fin:wpAny (model prog w) A (subscripted slice false o i) (fun r s₃=>wpAny (model prog w) A (letTemporaryGo value o r >>= fun _=>pure r) Q E s₃) E s₂:=by
   rw [hs o i]
   exact wpAny_operating (wpAny_mono h₂ (fun r s₃ h₃=>wpAny_bind (wpAny_letTemporaryGo (wpAny_pure h₃))) fun _ _ x=>x)
 first
   | exact wpAny_pure (wpAny_bind fin)
   | exact wpAny_bind (wpAny_pure (wpAny_bind fin))
   | exact wpAny_bind fin
theorem ZbG {X:Cx}{pins:List (Addr×Obj)}{σ:St}{H:Hp}{s:Shared}{a:Addr}{y:V}{o:Option V}(I:Inv X pins σ H s)(g:DGet H a y o):s.TypeIs (.ref a) "dict":=by
 rcases g with ⟨kvs,k,e,_,_⟩ | ⟨kvs,k,b,e,_,_,_⟩
 · obtain ⟨_,_,vs,_,dd⟩:=WB I.hok e
   exact dd.typeIs
 · obtain ⟨_,_,xs,_,dd⟩:=Ws I.hok e
   exact dd.typeIs
def Zjv (td ty:TE):TE:=fun σ H Q=>td σ H fun x H1=>ty σ H1 fun y H2=>∃ a v,x=.ref a∧DGet H2 a y (some v)∧Q v H2
def tDIn (ty td:TE):TE:=fun σ H Q=>ty σ H fun y H1=>td σ H1 fun x H2=>∃ a o,x=.ref a∧DGet H2 a y o∧Q (.bl o.isSome) H2
def Zgz (ty td:TE):TE:=fun σ H Q=>ty σ H fun y H1=>td σ H1 fun x H2=>∃ a o,x=.ref a∧DGet H2 a y o∧Q (.bl (!o.isSome)) H2
def Zjp (td ty tv:TE):TS:=fun D σ H=>tv σ H fun v H1=>td σ H1 fun x H2=>ty σ H2 fun y H3=>∃ a H4,x=.ref a∧DPut H3 a y v H4∧D.nx σ H4
section
variable {X:Cx}{o i e value:Expr}{pos pos' tpos:Pos}{td ty tv:TE}
theorem ZgN (hu:X.A.units+1 < cLine)(ho:PE X o td)(hi:PE X i ty)(hs:NoSl i):PE X (.Subscript o i pos) (Zjv td ty):=by
 intro pins s σ H Q I h
 refine Zgn PySem.F.slot_dict_getitem.lookup hs (Zm (ho pins s σ H _ I h) fun u s1 ⟨x,H1,I1,rx,q1⟩=>Zm (hi pins s1 σ H1 _ I1 q1) fun iv s2 ⟨y,H2,I2,ry,a,v,ex,g,q2⟩=>?_)
 subst ex
 obtain rfl:u=Value.ref a:=rx
 exact ⟨ZbG I2 g,Zea hu I2 g ry fun w' s3 I3 rw'=>⟨v,H2,I3,rw',q2⟩⟩
theorem Ziq (hu:X.A.units+1 < cLine)(hi:PE X i ty)(ho:PE X o td):PC X .In i o (tDIn ty td):=by
 intro pins s σ H Q I h
 refine Zm (hi pins s σ H _ I h) fun iv s1 ⟨y,H1,I1,ry,q1⟩=>Zm (ho pins s1 σ H1 _ I1 q1) fun u s2 ⟨x,H2,I2,rx,a,ov,ex,g,q2⟩=>?_
 subst ex
 obtain rfl:u=Value.ref a:=rx
 exact d_in hu I2 g ry fun s3 I3=>⟨.bl ov.isSome,H2,I3,rfl,q2⟩
theorem Zam (hu:X.A.units+1 < cLine)(hi:PE X i ty)(ho:PE X o td):PC X .NotIn i o (Zgz ty td):=by
 intro pins s σ H Q I h
 refine Zm (hi pins s σ H _ I h) fun iv s1 ⟨y,H1,I1,ry,q1⟩=>Zm (ho pins s1 σ H1 _ I1 q1) fun u s2 ⟨x,H2,I2,rx,a,ov,ex,g,q2⟩=>?_
 subst ex
 obtain rfl:u=Value.ref a:=rx
 exact Zhh hu I2 g ry fun s3 I3=>⟨.bl (!ov.isSome),H2,I3,rfl,q2⟩
theorem ZgD (hu:X.A.units+1 < cLine)(ho:PE X o td)(hi:PE X i ty)(hv:PE X value tv)(hs:swapsWith value (some (.Subscript o i pos')) pos.line X.env=pure false) :
   PS X (.Assign [.Subscript o i pos'] value pos) (Zjp td ty tv):=by
 intro pins s σ H D I h
 refine wpAny_Assign_Subscript (Zm (hv pins s σ H _ I h) fun r s1 ⟨v,H1,I1,rv,q1⟩=>Zm (ho pins s1 σ H1 _ I1 q1) fun u s2 ⟨x,H2,I2,rx,q2⟩=>Zm (hi pins s2 σ H2 _ I2 q2) fun iv s3 ⟨y,H3,I3,ry,a,H4,ex,g,q3⟩=>?_) hs
 subst ex
 obtain rfl:u=Value.ref a:=rx
 exact Zdt hu I3 g ry rv fun s4 I4=>⟨σ,H4,I4,q3⟩
end
theorem Zbf {P:Program}{w:World}{H:Hp}(h:Heap)(hb:sysModules < h.objs.size):ObjOk P w H (h.push { cls:=.type "dict",data:=.dict #[] }) h.objs.size (.dK []) :=
 ⟨Nat.zero_le _,beq_eq_false_iff_ne.mpr (Ne.symm (Nat.ne_of_lt hb)),[],.nil,Heap.DictOf.new h⟩
def ZhH:TE:=fun _ H Q=>∀ p,H p=none→Q (.ref p) (upd H p (.dK []))
section
variable {X:Cx}{pos:Pos}
theorem Zey:PE X (.Dict [] [] pos) ZhH:=fun pins s σ H Q I h =>
 wpAny_Dict_empty ⟨.ref s.heap.objs.size,_,I.laid (a:=s.heap.objs.size) (o:=.dK []) (t':=s.toks) (fun _ _ q=>Heap.get?_push_of_some _ q) (Nat.le_refl _) (Zbf s.heap I.big),rfl,h _ (I.hok.fresh (Nat.le_refl _))⟩
end
def Zbq:List (TE×TE)→St→Hp→(List (V×V)→Hp→Prop)→Prop
 | [],_,H,Q=>Q [] H
 | (tk,tv)::r,σ,H,Q=>tk σ H fun x H1=>tv σ H1 fun y H2=>Zbq r σ H2 fun ps H3=>Q ((x,y)::ps) H3
abbrev VV:List (V×V)→List (Value×Value)→Prop:=Paired fun p q=>RelV p.1 q.1∧RelV p.2 q.2
def PPs (X:Cx)(pos:Pos)(keys:List (Option Expr))(values:List Expr)(trs:List (TE×TE)):Prop :=
 ∀ (pins:List (Addr×Obj)) (s:Shared) (σ:St) (H:Hp) (Q:List (V×V)→Hp→Prop),Inv X pins σ H s→Zbq trs σ H Q →
   wpAny (model X.prog X.w) X.A (evalPairs (pairTrees keys values X.env pos)) (fun vs s'=>∃ ps H',Inv X pins σ H' s'∧VV ps vs∧Q ps H') X.xe s
theorem Zgo {X:Cx}{pos:Pos}:PPs X pos [] [] []:=fun pins s σ H Q I h=>pairTrees_nil_walk ⟨[],H,I,.nil,h⟩
theorem Zfc {X:Cx}{pos:Pos}{k v:Expr}{ks:List (Option Expr)}{vs:List Expr}{tk tv:TE}{trs:List (TE×TE)}(hk:PE X k tk)(hv:PE X v tv)(hr:PPs X pos ks vs trs) :
   PPs X pos (some k::ks) (v::vs) ((tk,tv)::trs):=fun pins s σ H Q I h =>
 pairTrees_cons_walk (Zm (hk pins s σ H _ I h) fun u s1 ⟨x,H1,I1,rx,q1⟩=>Zm (hv pins s1 σ H1 _ I1 q1) fun w2 s2 ⟨y,H2,I2,ry,q2⟩ =>
   Zm (hr pins s2 σ H2 _ I2 q2) fun ws s3 ⟨ps,H3,I3,rel,q3⟩=>⟨(x,y)::ps,H3,I3,.cons ⟨rx,ry⟩ rel,q3⟩)
def WT (kvs more:List (Zl×V)):List (Zl×V):=more.foldl (fun acc kv=>YK acc kv.1 kv.2) kvs
theorem KV.merge:∀{more:List (Zl×V)}{rs:List (Zl×Value)}{kvs:List (Zl×V)}{vs:List (Zl×Value)},KV more rs→KV kvs vs→KV (WT kvs more) (merged vs rs):=by
 intro more rs kvs vs r
 unfold KV at r
 induction r generalizing kvs vs with
 | nil=>intro q;exact q
 | @cons p q ps qs h t ih =>
   intro r0
   have e:KV (YK kvs p.1 p.2) (stored vs q.1 q.2):=by
     have:=r0.put p.1 h.2
     rw [← h.1];exact this
   exact ih e
theorem WI:∀(more kvs:List (Zl×V)),(WT kvs more).length≤kvs.length+more.length
 | [],kvs=>by show kvs.length≤kvs.length+0;omega
 | p::r,kvs=>by
   have h1:=WI r (YK kvs p.1 p.2)
   have h2:=Wa kvs p.1 p.2
   show (WT (YK kvs p.1 p.2) r).length≤_
   rw [List.length_cons];omega
theorem UW {P:Program}{w:World}:∀{kvs:List (Zl×V)}{ws:List (Value×Value)},VV (kvs.map fun kv=>(kV kv.1,kv.2)) ws→∃ rs,Carries (Zx P w) ws rs∧KV kvs rs
 | [],_,r=>by rw [List.map_nil] at r;cases r;exact ⟨[],True.intro,.nil⟩
 | p :: kvs,_,r=>by
   rw [List.map_cons] at r
   cases r with
   | @cons a b as bs h t =>
     obtain ⟨rs,c,q⟩:=UW (P:=P) (w:=w) t
     obtain ⟨b1,b2⟩:=b
     exact ⟨(p.1,b2)::rs,⟨WH h.1,rfl,c⟩,.cons ⟨rfl,h.2⟩ q⟩
def ZjC (trs:List (TE×TE)):TE:=fun σ H Q=>∀ p,H p=none→Zbq trs σ (upd H p (.dK [])) fun ps H2=>H2 p=some (.dK [])∧∃ kvs:List (Zl×V),ps=kvs.map (fun kv=>(kV kv.1,kv.2))∧kvs.length≤15∧Q (.ref p) (upd H2 p (.dK (WT [] kvs)))
theorem Zgm {X:Cx}{pos:Pos}{keys:List (Option Expr)}{values:List Expr}{trs:List (TE×TE)}(h:PPs X pos keys values trs)(hall:keys.all (·.isSome)=true)(hl:keys.length=values.length)(h0:keys≠[])
   (h15:keys.length≤15):PE X (.Dict keys values pos) (ZjC trs):=by
 intro pins s σ H Q I q
 have hn:=I.hok.fresh (Nat.le_refl s.heap.objs.size)
 have I1:=I.laid (a:=s.heap.objs.size) (o:=.dK []) (h':=s.heap.push { cls:=.type "dict",data:=.dict #[] }) (t':=s.toks) (fun _ _ q=>Heap.get?_push_of_some _ q) (Nat.le_refl _) (Zbf s.heap I.big)
 refine wpAny_Dict_walk (knd:=Zx X.prog X.w) hall hl h0 h15 (Zm (h pins _ σ _ _ I1 (q _ hn)) fun ws s2 ⟨ps,H2,I2,rel,e,kvs,ep,lk,q2⟩=>?_)
 subst ep
 obtain ⟨rs,c,rk⟩:=UW (P:=X.prog) (w:=X.w) rel
 obtain ⟨z,hd,vs0,r0,dd⟩:=ZaF I2.hok e
 cases r0
 refine ⟨rs,c,dd,fun h' dd' hs=>⟨.ref s.heap.objs.size,_,?_,rfl,q2⟩⟩
 have hz:(WT [] kvs).length≤sizeLine:=by
   have h1:=WI kvs []
   rw [List.length_nil] at h1
   rw [sizeLine_eq];omega
 have he:∃ q,h'.get? s.heap.objs.size=some q:=let ⟨q,_,_,hq,_⟩:=dd';⟨q,hq⟩
 exact Vy I2 (by rw [e];exact True.intro) hs he (Zee hz hd (rk.merge .nil) dd')
structure M1 (X:Cx)(o:Expr)(m:Str)(apos:Pos)(e:Expr)(cpos:Pos):Prop where
 base:attributeBase o m X.env (eval o X.env)=eval o X.env
 few:((backTo cpos (starEach [e] X.env)).all (fun x=>!x.1)&&(backToKw cpos (keywordEach [] X.env)).all (fun x=>x.1.isSome)
   && decide (([e]:List Expr).length+([]:List Keyword).length+(if ([]:List Keyword).isEmpty then 0 else 1) < 30))=true
 line:(apos.endLine == cpos.line)=true
 trees:backTo cpos (starEach [e] X.env)=[(false,eval e X.env)]
def IsD (H:Hp)(a:Addr):Prop:=(∃ kvs,Rd H a (.dK kvs))∨∃ kvs,Rd H a (.dT kvs)
theorem Zib {X:Cx}{pins:List (Addr×Obj)}{σ:St}{H:Hp}{s:Shared}{a:Addr}(I:Inv X pins σ H s)(d:IsD H a) :
   s.TypeIs (.ref a) "dict"∧(∀ b,Value.ref a=.ref b→∃ ob,s.heap.get? b=some ob∧ob.dict=none)∧(a == sysModules)=false:=by
 rcases d with ⟨kvs,e⟩ | ⟨kvs,e⟩
 · obtain ⟨_,hd,vs,_,dd⟩:=WB I.hok e
   refine ⟨dd.typeIs,fun b q=>?_,hd⟩
   cases q
   obtain ⟨ob,_,_,h1,h2,_⟩:=dd
   exact ⟨ob,h1,h2.2.1⟩
 · obtain ⟨_,hd,xs,_,dd⟩:=Ws I.hok e
   refine ⟨dd.typeIs,fun b q=>?_,hd⟩
   cases q
   obtain ⟨ob,_,_,h1,h2,_⟩:=dd
   exact ⟨ob,h1,h2.2.1⟩
section
variable {X:Cx}{pins:List (Addr×Obj)}{σ:St}{H:Hp}{s:Shared}{a:Addr}{y d:V}{u r:Value}{o:Option V}{A:Around}{E:Value→Shared→Prop}
theorem Zho {Q:Value→Shared→Prop}(hu:A.units+1 < cLine)(I:Inv X pins σ H s)(g:DGet H a y o)(ry:RelV y u)(h:∀ w' s',Inv X pins σ H s'→RelV (o.getD .non) w'→Q w' s') :
   wpAny (model X.prog X.w) A (call (.builtin "dict.get") [.ref a,u]) Q E s:=by
 rcases g with ⟨kvs,k,e,ey,l⟩ | ⟨kvs,k,b,e,ey,eb,l⟩
 · subst ey
   obtain ⟨z,hd,vs,rel,dd⟩:=WB I.hok e
   refine call_meetsIn PySem.F.slot_dict_get dd.typeIs PySem.F.entry_dict_get (PySem.F.args_dict_get_2 _ _) (meets_dict_get (Zx X.prog X.w) a (WH ry) hd) ⟨_,dd.mapOf,h _ _ (I.tok _) ?_⟩
   rw [l]
   exact (rel.val k).getD rfl
 · subst ey
   cases (show u=Value.ref b from ry)
   obtain ⟨z,hd,xs,rel,dd⟩:=Ws I.hok e
   refine call_meetsIn PySem.F.slot_dict_get dd.typeIs PySem.F.entry_dict_get (PySem.F.args_dict_get_2 _ _) (meetsH_dict_get (tupleKind (Zx X.prog X.w)) a b hd) ⟨tupleKind_room_in1 hu,k,xs,Wj I.hok eb,dd,h _ _ (I.tok _) ?_⟩
   rw [l]
   exact (rel.val k).getD rfl
end
def ZhP (td ty:TE):TE:=fun σ H Q=>td σ H fun x H1=>∃ a,x=.ref a∧IsD H1 a∧ty σ H1 fun y H2=>∃ o,DGet H2 a y o∧Q (o.getD .non) H2
section
variable {X:Cx}{o e f:Expr}{apos cpos:Pos}{td ty tx:TE}
theorem Zfa (hu:X.A.units+1 < cLine)(ho:PE X o td)(he:PE X e ty)(m:M1 X o "get" apos e cpos):PE X (.Call (.Attribute o "get" apos) [e] [] cpos) (ZhP td ty):=by
 intro pins s σ H Q I h
 refine wpAny_Call_method m.base m.few m.line PySem.F.plainAttrs_dict PySem.F.slot_dict_get PySem.F.type_dict_get (Zm (ho pins s σ H _ I h) fun u s1 ⟨x,H1,I1,rx,a,ex,d,q1⟩=>?_)
 subst ex
 obtain rfl:u=Value.ref a:=rx
 obtain ⟨t1,t2,_⟩:=Zib I1 d
 refine ⟨t1,t2,?_⟩
 rw [m.trees]
 refine Calls.callWith_builtin rfl (Calls.evalArgs_plain (Calls.spliced_cons (Zm (he pins s1 σ H1 _ I1 q1) fun iv s2 ⟨y,H2,I2,ry,ov,g,q2⟩=>Calls.spliced_nil ?_)))
 exact Zho hu I2 g ry fun w' s3 I3 rw'=>⟨_,H2,I3,rw',q2⟩
end
section
variable {X:Cx}{pins:List (Addr×Obj)}{σ:St}{H:Hp}{s:Shared}{a:Addr}{kvs:List (Zl×V)}{A:Around}{E:Value→Shared→Prop}
end
section
variable {X:Cx}{pins:List (Addr×Obj)}{σ:St}{H:Hp}{s:Shared}{a:Addr}{y:V}{u:Value}{A:Around}{E:Value→Shared→Prop}
end
end L2
namespace L2
open PySem PySem.Spec PyProof.Rows
section
variable {κ:Type}[DecidableEq κ]
end
end L2
namespace L2
open PySem PySem.Spec PyProof.Rows
theorem WR {env:Env}(y:Str):∀ names:List (Str×NameKind),
   (names.map fun (n,k)=>if (k == NameKind.free&&env.scope.kind == .function&&env.kindOf n == some .cell) then (n,NameKind.cell) else (n,k)).lookup y =
     (names.lookup y).map fun k=>if (k == NameKind.free&&env.scope.kind == .function&&env.kindOf y == some .cell) then NameKind.cell else k
 | []=>rfl
 | (n, k)::r=>by
   have ih:=WR (env:=env) y r
   rw [List.map_cons]
   cases hx:y == n with
   | true =>
     have e:y=n:=by simpa using hx
     subst e
     by_cases hc:(k == NameKind.free&&env.scope.kind == .function&&env.kindOf y == some .cell)=true
     · simp only [hc,if_true,List.lookup_cons,beq_self_eq_true,Option.map_some]
     · simp only [hc,List.lookup_cons,beq_self_eq_true,Option.map_some]
       simp [hc]
   | false =>
     by_cases hc:(k == NameKind.free&&env.scope.kind == .function&&env.kindOf n == some .cell)=true
     · simp only [hc,if_true,List.lookup_cons,hx];exact ih
     · simp only [hc,List.lookup_cons,hx,Bool.false_eq_true,if_false];exact ih
theorem ZZ {scope:Scope}{env:Env}{y:Str}{k:NameKind}(hcell:∀ z∈scope.names,z.2≠.cell)(h:(relabel scope env).names.lookup y=some k) :
   scope.names.lookup y=some k∨(scope.names.lookup y=some .free∧k=.cell):=by
 unfold relabel at h
 rw [WR] at h
 cases e:scope.names.lookup y with
 | none=>rw [e] at h;cases h
 | some k0 =>
   rw [e] at h
   simp only [Option.map_some,Option.some.injEq] at h
   by_cases hc:(k0 == NameKind.free&&env.scope.kind == .function&&env.kindOf y == some .cell)=true
   · rw [if_pos hc] at h
     right
     simp only [Bool.and_eq_true,beq_iff_eq] at hc
     exact ⟨by rw [hc.1.1],h.symm⟩
   · rw [if_neg hc] at h
     left;rw [h]
theorem mem_of_lookup {α:Type}{y:Str}{k:α}:∀{l:List (Str×α)},l.lookup y=some k→(y,k)∈l
 | [],h=>by cases h
 | (n,z)::r,h=>by
   cases hx:y == n with
   | true =>
     have e:y=n:=by simpa using hx
     subst e
     simp only [List.lookup_cons,beq_self_eq_true] at h
     cases h
     exact List.mem_cons_self
   | false =>
     simp only [List.lookup_cons,hx] at h
     exact List.mem_cons_of_mem _ (mem_of_lookup h)
theorem Wv {env:Env}:∀(names:List (Str×NameKind))(c0:List (Str×Addr)),(∀ y∈names,y.2=.free→∃ c,env.cells.lookup y.1=some c) →
   ∃ cl:List (Str×Addr),(forIn names c0 fun (x:Str×NameKind) (r:List (Str×Addr))=>(if x.2 == NameKind.free then (do let a ← cellOf env x.1;pure (ForInStep.yield ((x.1,a)::r))) else pure (ForInStep.yield r):Sem (ForInStep (List (Str×Addr)))))=pure cl ∧
     (∀ y c,cl.lookup y=some c→c0.lookup y=some c∨env.cells.lookup y=some c)∧(∀ y,c0.lookup y≠none→cl.lookup y≠none)∧∀ y∈names,y.2=.free→cl.lookup y.1≠none
 | [],c0,_=>⟨c0,rfl,fun _ _ h=>.inl h,fun _ h=>h,fun _ h=>(nomatch h)⟩
 | (n, k)::r,c0,h=>by
   by_cases hk:k=.free
   · subst hk
     obtain ⟨c,hc⟩:=h (n,.free) List.mem_cons_self rfl
     obtain ⟨cl,e,g1,g2,g3⟩:=Wv r ((n,c)::c0) fun y hy=>h y (List.mem_cons_of_mem _ hy)
     refine ⟨cl,?_,?_,?_,?_⟩
     · rw [List.forIn_cons]
       have hcell:cellOf env n=pure c:=by unfold cellOf;rw [hc]
       simp only [beq_self_eq_true,if_true,hcell,pure_bind]
       exact e
     · intro y d q
       rcases g1 y d q with q | q
       · cases hx:y == n with
         | true =>
           have e':y=n:=by simpa using hx
           subst e'
           simp only [List.lookup_cons,beq_self_eq_true] at q
           cases q
           exact .inr hc
         | false=>simp only [List.lookup_cons,hx] at q;exact .inl q
       · exact .inr q
     · intro y q
       apply g2
       cases hx:y == n with
       | true=>simp [List.lookup_cons,hx]
       | false=>simpa [List.lookup_cons,hx] using q
     · intro y hy hf
       rcases List.mem_cons.mp hy with e' | hy
       · subst e'
         apply g2
         simp [List.lookup_cons]
       · exact g3 y hy hf
   · obtain ⟨cl,e,g1,g2,g3⟩:=Wv r c0 fun y hy=>h y (List.mem_cons_of_mem _ hy)
     refine ⟨cl,?_,g1,g2,?_⟩
     · rw [List.forIn_cons]
       have hb:(k == NameKind.free)=false:=by simpa using hk
       simp only [hb,Bool.false_eq_true,if_false,pure_bind]
       exact e
     · intro y hy hf
       rcases List.mem_cons.mp hy with e' | hy
       · subst e';exact absurd hf hk
       · exact g3 y hy hf
theorem UP {scope:Scope}{env:Env}(h:∀ y∈scope.names,y.2=.free→∃ c,env.cells.lookup y.1=some c) :
   ∃ cl,closureFor scope env=pure cl∧(∀ y c,cl.lookup y=some c→env.cells.lookup y=some c)∧∀ y∈scope.names,y.2=.free→cl.lookup y.1≠none:=by
 obtain ⟨cl,e,g1,_,g3⟩:=Wv (env:=env) scope.names [] h
 refine ⟨cl,?_,fun y c q=>(g1 y c q).elim (fun z=>by cases z) fun z=>z,g3⟩
 simp only [closureFor]
 rw [← bind_pure (pure cl:Sem _),← e]
def WS (N:List Str)(x:Str):List Str:=N.map fun y=>if y=x then "" else y
theorem VH (N:List Str)(x:Str):(WS N x).length=N.length:=List.length_map ..
theorem ZgF {N:List Str}{x y:Str}{i:Nat}(h:(WS N x)[i]?=some y):(N[i]?=some y∧y≠x)∨y="":=by
 unfold WS at h
 rw [List.getElem?_map] at h
 cases e:N[i]? with
 | none=>rw [e] at h;cases h
 | some z =>
   rw [e] at h
   have h:(if z=x then ("":Str) else z)=y:=Option.some.inj h
   by_cases q:z=x
   · rw [if_pos q] at h;exact .inr h.symm
   · rw [if_neg q] at h;subst h;exact .inl ⟨rfl,q⟩
def YE (X:Cx)(scope:Scope)(x:Str)(cl:List (Str×Addr))(C:Addr)(s₀:Shared)(H₀:Hp)(fp:List Addr):Cx :=
 { prog:=X.prog,w:=X.w,K:=X.K,mg:=X.mg,base:=X.base,A:=X.A,N:=WS X.N x++[x],s₀:=s₀,H₀:=H₀,env:=compEnvC scope cl C X.env,outer:=X.stack,stack:=X.stack,
   ex:=fp,fn:=fun _=>false,calm:=X.calm,pn:=[],xe:=fun _ _=>False }
def UV (J:It)(te:TE)(σ:St)(D:Addr)(Q:VK)(H1:Hp):Prop :=
 ∃ W:Nat→Nat→List V→Hp→Prop,(∃ m,W 0 m [] (upd H1 D (.lst [])))∧∀ i m ys H2,W i m ys H2 →
   (J.stop i H2∧Q (.ref D) H2)∨(J.go i H2∧∃ N:VK,(∀ y H4,N y H4→H4 D=some (.lst ys)∧ys.length < sizeLine∧∃ m',m' < m∧W (i+1) m' (ys++[y]) (upd H4 D (.lst (ys++[y]))))∧∀ v H3,J.yld i H2 v H3→te (σ++[some v]) H3 N)
def ZjG (wi:TI)(te:TE):TE:=fun σ H Q=>wi σ H fun J H1=>∀ D,H1 D=none→UV J te σ D Q H1
section
variable {X:Cx}{elt iter:Expr}{x:Str}{px pos:Pos}{scope:Scope}{wi:TI}{te:TE}
theorem WM {prog:Program}{w:World}{A:Around}{R:Result→Shared→Prop}{s:Shared}{elt target iter:Expr}{scope:Scope}{pos:Pos}{it acc:Value}{env:Env}(I:Nat→Shared→Prop)
   (turn : ∀ n s,I n s→wpAny (model prog w) A (pyNext it) (fun r s₁=>match r with
     | none=>R (.ok .next) s₁
     | some v=>wpAny (model prog w) A (letOwnedTupleGo target it v) (fun _ s1'=>wpAny (model prog w) A (assign target env v) (fun _ s₂=>wpAny (model prog w) A (eval elt env) (fun x s₃ =>
         wpAny (model prog w) A (call (.builtin "list.append") [acc,x]) (fun _ s₄=>∃ m,m < n∧I m s₄) (fun _ _=>False) s₃)
         (fun _ _=>False) s₂) (fun _ _=>False) s1') (fun _ _=>False) s₁) (fun _ _=>False) s)
   (n:Nat) (h:I n s) :
   codeAny (model prog w) A (.compLoop (.ListComp elt [⟨target,iter,[],0⟩] scope pos) 0 it acc env) R s:=by
 refine codeAny_loop rfl I (fun n s hI=>?_) n h
 show wpAny _ _ ((compTurn (.ListComp elt [⟨target,iter,[],0⟩] scope pos) 0 it acc env).onRaise (fun x=>do noteFrame x env;theTreesLotGoes x)) _ _ s
 refine wpAny_noted ?_
 rw [compTurn_list1]
 refine wpAny_bind (wpAny_standAt (wpAny_bind (wpAny_mono (turn n s hI) (fun r s₁ h₁=>?_) fun _ _ h'=>h'.elim)))
 cases r with
 | none=>exact wpAny_pure h₁
 | some v =>
   refine wpAny_bind (wpAny_mono h₁ (fun _ s1' h1'=>?_) fun _ _ h'=>h'.elim)
   exact wpAny_bind (wpAny_mono h1' (fun _ s₂ h₂=>wpAny_bind (wpAny_bind (wpAny_mono h₂ (fun x s₃ h₃=>wpAny_bind (wpAny_mono h₃
     (fun _ s₄ h₄=>wpAny_pure (wpAny_pure ⟨rfl,h₄⟩)) fun _ _ h'=>h'.elim)) fun _ _ h'=>h'.elim))) fun _ _ h'=>h'.elim)
structure CompOk (X:Cx)(scope:Scope)(x:Str):Prop where
 nd:(WS X.N x++[x]).Nodup
 clos:∀ y∈scope.names,y.2=.free→X.env.kindOf y.1=some .cell∨X.env.kindOf y.1=some .free
 cell:∀ y∈scope.names,y.2≠.cell
 kind:scope.kind=.function
 names:∀ y∈scope.names,y.2=.local→scope.names.lookup y.1=some .local
 loc:scope.names.lookup x=some .local
 own:∀ y∈X.N,y≠x→scope.names.lookup y≠some .local
 noh:scope.names.lookup ("":Str)=none
theorem Zcs {pins:List (Addr×Obj)}{σ:St}{H2:Hp}{s₂:Shared}{J:It}{fp:List Addr}{it:Addr}{tn:Nat→Heap→Prop}{cl:List (Str×Addr)}{E:Value→Shared→Prop}{Q:VK}{RR:Value→Addr→Result→Shared→Prop}
   (O:CompOk X scope x) (hc:X.calm=true) (cl1:∀ y c,cl.lookup y=some c→X.env.cells.lookup y=some c) (cl2:∀ y∈scope.names,y.2=.free→cl.lookup y.1≠none)
   (he:∀ cl C s₀ H₀ fp,PE (YE X scope x cl C s₀ H₀ fp) elt te)
   (I2:Inv X pins σ H2 s₂) (T:ZaL X.prog X.w X.K (.Name x px) J fp it tn) (st:tn 0 s₂.heap) (f2:∀ b∈fp,Xi X pins H2 b)
   (h:∀ D,H2 D=none→UV J te σ D Q H2)
   (hRR:∀ D C H' s',Inv X pins σ H' s'→Xi X pins H' C→(∃ m,s'.heap.Ns C m)→Q (.ref D) H'→RR (.ref D) C (.ok .next) s') :
   wpAny (model X.prog X.w) X.A (newList []) (fun acc s₃=>wpAny (model X.prog X.w) X.A (newFunctionEnv scope X.env.globals cl [] X.env.qual none .none (some X.env)) (fun cenv s₄ =>
     codeAny (model X.prog X.w) X.A (.compStart (.ListComp elt [⟨.Name x px,iter,[],0⟩] scope pos) 0 (.ref it) acc { cenv with scope:=relabel scope X.env }) (RR acc cenv.locals) s₄) E s₃) E s₂:=by
 have hD:H2 s₂.heap.objs.size=none:=I2.hok.fresh (Nat.le_refl _)
 refine wpAny_newObj_type ?_
 have I3:Inv X pins σ (upd H2 s₂.heap.objs.size (.lst [])) { s₂ with heap:=s₂.heap.push { cls:=.type "list",data:=.seq ([]:List Value).toArray } } :=
   I2.laid (t':=s₂.toks) (fun b u e=>Heap.get?_push_of_some _ e) (Nat.le_refl _) ⟨Nat.zero_le _,[],_,.nil,Heap.get?_push_size _ rfl⟩
 have f3:∀ b∈fp,Xi X pins (upd H2 s₂.heap.objs.size (.lst [])) b:=fun b hb=>by
   obtain ⟨g0,g1⟩:=f2 b hb
   obtain ⟨o,e,_⟩:=T.obj 0 _ st b hb
   exact ⟨by rw [Zg (Nat.ne_of_lt (Heap.lt_size e))];exact g0,g1⟩
 have st3:tn 0 (s₂.heap.push { cls:=.type "list",data:=.seq ([]:List Value).toArray }):=T.keep _ _ _ st fun b hb o e=>Heap.get?_push_of_some _ e
 obtain ⟨W,⟨m0,w0⟩,turn⟩:=h _ hD
 generalize hDe:s₂.heap.objs.size=D at I3 f3 w0 turn ⊢
 generalize hH3:upd H2 D (.lst [])=H3 at I3 f3 w0 turn ⊢
 generalize hs3:({ s₂ with heap:=s₂.heap.push { cls:=.type "list",data:=.seq ([]:List Value).toArray } }:Shared)=s₃ at I3
 have st3':tn 0 s₃.heap:=by rw [← hs3];exact st3
 have hobj:∀ b∈fp,b < s₃.heap.objs.size:=fun b hb=>by
   obtain ⟨o,e,_⟩:=T.obj 0 _ st3' b hb
   exact Heap.lt_size e
 refine wpAny_newFunctionEnv O.cell (by intro y hy;simp at hy) (fun h₁ hns₁ hsb₁=>?_) O.kind
 have old:∀ b o,s₃.heap.get? b=some o→h₁.get? b=some o:=fun b o e=>hsb₁.extBut b o (Nat.ne_of_lt (Heap.lt_size e)) (Heap.get?_push_of_some _ e)
 generalize hs4:({ s₃ with heap:=h₁,toks:=s₃.toks+([]:List (Str×Value)).length }:Shared)=s₄
 have h4:s₄.heap=h₁:=by rw [← hs4]
 have hX:∀ C,Xi X pins C s₃.heap.objs.size→True:=fun _ _=>trivial
 have ok':(YE X scope x cl s₃.heap.objs.size s₃ H3 fp).Ok:=by
   refine ⟨I3.ok.mod,O.kind,I3.ok.glob,I3.ok.blt,Nat.le_refl _,?_,?_,?_,I3.ok.hd,I3.ok.frames,.inl rfl,?_,I3.bs,Nat.le_trans I3.ok.bsz I3.sz,?_,?_,I3.stack,I3.stkFree⟩
   · exact fun y z c e1 e2=>I3.ok.inj y z c (cl1 y c e1) (cl1 z c e2)
   · intro y hk
     have hf:scope.names.lookup y=some .free:=by
       rcases hk with hk | hk
       · rcases ZZ O.cell hk with q | q
         · exact absurd rfl (O.cell _ (mem_of_lookup q))
         · exact q.1
       · rcases ZZ O.cell hk with q | q
         · exact q
         · cases q.2
     have:=cl2 _ (mem_of_lookup hf) rfl
     cases e:cl.lookup y with
     | none=>exact absurd e this
     | some c=>exact ⟨c,e⟩
   · intro y c hf;cases hf
   · intro b hb
     obtain ⟨g0,g1,g2,g3,g4,g5⟩:=f3 b hb
     exact ⟨Nat.ne_of_lt (hobj b hb),fun y c e=>g4 y c (cl1 y c e)⟩
   · intro b o e hb
     obtain ⟨g0,g1,g2,g3,g4,g5⟩:=f3 b hb
     rcases g3 with g3 | g3
     · exact I3.ok.noex b o e g3
     · exact absurd (Heap.lt_size e) (Nat.not_lt.mpr (Nat.le_trans I3.ok.bsz g3))
   · intro b hb hs
     obtain ⟨g0,g1,g2,g3,g4,g5⟩:=f3 b hb
     rcases List.mem_cons.mp (I3.stkSub b hs) with e | e
     · exact g1 e
     · exact g2 e
 have I4 : Inv (YE X scope x cl s₃.heap.objs.size s₃ H3 fp) [] (σ++[none]) H3 s₄:=by
   obtain ⟨m,hm,hl⟩:=I3.loc
   refine ⟨ok',by rw [← hs4];rfl,by rw [← hs4];exact I3.bare,by rw [h4];exact Un.kept old,⟨_,by rw [h4];exact hns₁,?_⟩,?_,I3.hok.fresh (Nat.le_refl _),fun y c e=>I3.freeC y c (cl1 y c e),?_,by rw [h4];exact I3.hok.kept old,?_⟩
   · intro i y v e1 e2 e3
     have hlt:i < σ.length:=by
       rcases Nat.lt_or_ge i σ.length with z | z
       · exact z
       · rw [List.getElem?_append_right z] at e2
         cases e:i - σ.length with
         | zero=>rw [e] at e2;simp at e2
         | succ k=>rw [e] at e2;simp at e2
     rw [List.getElem?_append_left hlt] at e2
     have hsm:∃ k,scope.names.lookup y=some k:=by
       rcases e3 with hk | hk | hk
       · rcases ZZ O.cell hk with q | q
         · exact ⟨_,q⟩
         · exact ⟨_,q.1⟩
       · rcases ZZ O.cell hk with q | q
         · exact ⟨_,q⟩
         · exact ⟨_,q.1⟩
       · rcases ZZ O.cell hk with q | q
         · exact ⟨_,q⟩
         · exact ⟨_,q.1⟩
     obtain ⟨e1',hyx⟩:X.N[i]?=some y∧y≠x:=by
       have e1:(WS X.N x++[x])[i]?=some y:=e1
       rw [List.getElem?_append_left (by rw [VH,← I3.len];exact hlt)] at e1
       rcases ZgF e1 with z | z
       · exact z
       · obtain ⟨k,hk⟩:=hsm
         rw [z,O.noh] at hk;cases hk
     have hy:y∈X.N:=List.mem_of_getElem? e1'
     have hf:scope.names.lookup y=some .free:=by
       rcases e3 with hk | hk | hk
       · rcases ZZ O.cell hk with q | q
         · exact absurd q (O.own y hy hyx)
         · exact q.1
       · rcases ZZ O.cell hk with q | q
         · exact absurd rfl (O.cell _ (mem_of_lookup q))
         · exact q.1
       · rcases ZZ O.cell hk with q | q
         · exact q
         · exact q.1
     have hk:=O.clos _ (mem_of_lookup hf) rfl
     have hv:Vis X.env.scope y:=by rcases hk with z | z;exact .inr (.inl z);exact .inr (.inr z)
     obtain ⟨u,ru,lu⟩:=hl i y v e1' e2 hv
     refine ⟨u,ru,?_⟩
     have hkc:(compEnvC scope cl s₃.heap.objs.size X.env).kindOf y=some .cell∨(compEnvC scope cl s₃.heap.objs.size X.env).kindOf y=some .free:=by
       rcases e3 with q | q | q
       · rcases ZZ O.cell q with z | z
         · exact absurd z (O.own y hy hyx)
         · cases z.2
       · exact .inl q
       · exact .inr q
     rcases lu with ⟨q,_⟩ | ⟨_,c,hcl,hcc⟩
     · rcases hk with z | z<;>(rw [q] at z;cases z)
     · refine .inr ⟨hkc,?_⟩
       cases e:cl.lookup y with
       | none=>exact absurd e (cl2 _ (mem_of_lookup hf) rfl)
       | some c' =>
         have:=cl1 y c' e
         rw [hcl] at this
         cases this
         refine ⟨c,e,?_⟩
         rw [h4]
         obtain ⟨oc,ho,hd⟩:=hcc
         exact ⟨oc,old _ _ ho,hd⟩
   · intro y c e
     obtain ⟨v,oc,ho,hd⟩:=I3.cell y c (cl1 y c e)
     exact ⟨v,oc,by rw [h4];exact old _ _ ho,hd⟩
   · intro p hp;cases hp
   · show (σ++[none]).length=(WS X.N x++[x]).length
     rw [List.length_append,List.length_append,VH,I3.len];rfl
 have st4:tn 0 s₄.heap:=by rw [h4];exact T.keep _ _ _ st3' fun b hb o e=>old b o e
 have fpok:∀ {H':Hp},(∀ b∈fp,H' b=none)→∀ b∈fp,Xi (YE X scope x cl s₃.heap.objs.size s₃ H3 fp) [] H' b:=fun hn b hb=>by
   obtain ⟨g0,g1,g2,g3,g4,g5⟩:=f3 b hb
   refine ⟨hn b hb,Nat.ne_of_lt (hobj b hb),ok'.exfs b hb,.inl hb,fun y c e=>g4 y c (cl1 y c e),?_⟩
   intro p hp;cases hp
 have loop:codeAny (model X.prog X.w) X.A (.compLoop (.ListComp elt [⟨.Name x px,iter,[],0⟩] scope pos) 0 (.ref it) (.ref D) (compEnvC scope cl s₃.heap.objs.size X.env)) (RR (.ref D) s₃.heap.objs.size) s₄:=by
   refine WM (fun n s'=>∃ i ys w' H',Inv (YE X scope x cl s₃.heap.objs.size s₃ H3 fp) [] (σ++[w']) H' s'∧tn i s'.heap∧(∀ b∈fp,H' b=none)∧W i n ys H') ?_ m0 ⟨0,[],none,H3,I4,st4,fun b hb=>(f3 b hb).1,w0⟩
   rintro n s5 ⟨i,ys,w',H5,I5,st5,fr5,w5⟩
   rcases turn i n ys H5 w5 with ⟨stop,q⟩ | ⟨go,N,hN,step⟩
   · refine Zm (T.done (YE X scope x cl s₃.heap.objs.size s₃ H3 fp) rfl rfl rfl hc i [] s5 _ H5 _ I5 (fpok fr5) st5 stop) fun r s6 ⟨hr,I6⟩=>?_
     subst hr
     obtain ⟨m6,hn6,_⟩:=I6.loc
     have IX:Inv X pins σ H5 s6:=I3.call' (ch:=fp) I6.os I6.base I6.hok I6.bare fun b hb=>by
       obtain ⟨g0,g1,g2,g3,g4,g5⟩:=f3 b hb
       exact ⟨g3,g1,g4,g5⟩
     exact hRR D _ H5 s6 IX (I3.fpOk (Nat.le_refl _) I6.free) ⟨m6,hn6⟩ q
   · refine Zm (T.item (YE X scope x cl s₃.heap.objs.size s₃ H3 fp) rfl rfl rfl hc i [] s5 _ H5 _ I5 (fpok fr5) st5 go) fun r s6 ⟨u,hr,h6⟩=>?_
     subst hr
     refine Zm h6 fun _ s7 ⟨v,H7,I7,r7,y7,st7,fr7⟩=>?_
     have I7':=I7.pinned (fpok fr7) (T.obj _ _ st7)
     have hixN:(YE X scope x cl s₃.heap.objs.size s₃ H3 fp).N[σ.length]?=some x:=by
       show (WS X.N x++[x])[σ.length]?=some x
       rw [I3.len,← VH X.N x];simp
     refine Zm (ZL (X:=YE X scope x cl s₃.heap.objs.size s₃ H3 fp) (pos:=px) O.nd hixN (.inl (lookup_relabel_local O.loc)) (.inr (lookup_relabel_local O.loc)) _ s7 _ H7 v u (fun σ' H'=>σ'=σ++[some v]∧H'=H7) I7' r7 ⟨by simp,rfl⟩) fun _ s8 ⟨σ8,H8,I8,e8,e8'⟩=>?_
     subst e8 e8'
     refine Zm (he cl s₃.heap.objs.size s₃ H3 fp _ s8 _ H8 _ I8 (step v H8 y7)) fun uy s9 ⟨y,H9,I9,r9,n9⟩=>?_
     obtain ⟨hl9,hz9,m',hm',w9⟩:=hN y H9 n9
     refine Zm (XX (X:=YE X scope x cl s₃.heap.objs.size s₃ H3 fp) _ s9 _ H9 (.ref D) [y] (.ref D) [uy] (fun v H'=>H'=upd H9 D (.lst (ys++[y]))) I9 rfl (.cons r9 .nil) ⟨D,ys,y,rfl,rfl,hl9,hz9,rfl⟩) fun _ s10 ⟨_,H10,I10,_,e10⟩=>?_
     subst e10
     refine ⟨m',hm',i+1,ys++[y],some v,_,I10.unpinned (pins:=[]),T.keep _ _ _ st7 fun b hb o e=>(I10.pin (b,o) (List.mem_append_right _ (List.mem_append_right _ (Xu hb e)))).1,fun b hb=>?_,w9⟩
     obtain ⟨o,e,d⟩:=T.obj _ _ st7 b hb
     exact (I10.pin (b,o) (List.mem_append_right _ (List.mem_append_right _ (Xu hb e)))).2.1
 exact codeAny_compStart_list loop (T.self _ 0 _ _ _ st4 loop)
theorem ZbJ (O:CompOk X scope x)(hc:X.calm=true)(hi:PI X (.Name x px) iter wi)(he:∀ cl C s₀ H₀ fp,PE (YE X scope x cl C s₀ H₀ fp) elt te)
   (hs:∀ v,foldedSetIterable iter X.env v=pure v:=by intro _;rfl):PE X (.ListComp elt [⟨.Name x px,iter,[],0⟩] scope pos) (ZjG wi te):=by
 intro pins s σ H Q I h
 obtain ⟨cl,hcl,cl1,cl2⟩:=UP (scope:=scope) (env:=X.env) fun y hy hf=>I.ok.has _ (O.clos y hy hf)
 rw [eval_ListComp]
 refine wpAny_comprehension_free (use:=none) rfl hs hcl O.kind O.names (Zm (hi pins s σ H _ I h) fun v s1 h1=>Zm h1 fun itv s2 h2=>?_)
 obtain ⟨it,fp,tn,J,H2,e,I2,T,st2,f2,q⟩:=h2
 subst e
 refine Zcs (RR:=fun acc C=>compPost (model X.prog X.w) X.A X.xe none (EP X pins σ Q) acc C) O hc cl1 cl2 he I2 T st2 f2 q ?_
 intro D C H' s' I' ⟨g0,g1,g2,g3,g4,g5⟩ ⟨m,hm⟩ hq
 exact ⟨m,hm,fun h' hs'=>⟨.ref D,H',I'.turned (t':=s'.toks) (fun b o hb e=>(hs'.2 b hb).trans e) g0 g1 g3 g4 g5,rfl,hq⟩⟩
end
theorem ZcG {lo:Int}{n:Nat}{te:TE}{σ:St}{D:Addr}{Q:VK}{H:Hp}(hn:n≤sizeLine)(Pv:Nat→List V→Hp→Prop)(h0:Pv 0 [] (upd H D (.lst [])))
   (hl:∀ i ys H,Pv i ys H→ys.length=i)
   (hs:∀ i ys H,i < n→Pv i ys H→te (σ++[some (.int (lo+i))]) H fun y H4=>H4 D=some (.lst ys)∧Pv (i+1) (ys++[y]) (upd H4 D (.lst (ys++[y])))) (hd:∀ ys H,Pv n ys H→Q (.ref D) H):UV (UZ lo n) te σ D Q H:=by
 refine ⟨fun i m ys H=>m=n - i∧i≤n∧Pv i ys H,⟨n,by simp,Nat.zero_le _,h0⟩,?_⟩
 rintro i m ys H2 ⟨rfl,hi,p⟩
 by_cases hlt:i < n
 · have hlen:=hl i ys _ p
   refine .inr ⟨hlt,_,fun y H4 (q:H4 D=some (.lst ys)∧Pv (i+1) (ys++[y]) (upd H4 D (.lst (ys++[y]))))=>⟨q.1,by omega,n - (i+1),by omega,rfl,hlt,q.2⟩,fun v H3 y=>?_⟩
   obtain ⟨e,e'⟩:=y
   subst e e'
   exact hs i ys _ hlt p
 · have e:i=n:=by omega
   subst e
   exact .inl ⟨Nat.le_refl _,hd ys H2 p⟩
end L2
namespace L2
open PySem PySem.Spec PyProof.Rows
section
variable {X:Cx}{tg:Expr}
end
section
variable {X:Cx}
theorem Zcd:∀{ys:List Str}{us:List Value},Vals (ys.map V.str) us→StrsAre us ys
 | [],_,.nil=>.nil
 | y::ys,_,.cons r t=>by obtain ⟨k,rfl⟩:=r;exact .cons _ _ (Zcd t)
theorem Zci:MtR X "str.join" (fun x xs H Q=>∃ sep a ys,x=.str sep∧xs=[.ref a]∧SqL X.K H a (ys.map V.str)∧(ys.map (·.length)).sum+ys.length * sep.length≤16777216∧Q (.str (Txt.join sep ys)) H):=by
 intro pins s σ H x xs v us Q I rx rv h
 obtain ⟨sep,a,ys,rfl,rfl,hq,hz,q⟩:=h
 obtain ⟨t,rfl⟩:=rx
 obtain ⟨u,rfl,ru⟩:=Yu rv
 cases ru
 obtain ⟨its,r,p,_⟩:=I.list hq
 exact join_list p.isList (by simpa using Zcd r) hz fun t' k=>⟨.str _,H,I.tok k,⟨_,rfl⟩,q⟩
theorem ZdL:SlR X (fun x lo hi H Q=>∃ z,x=.str z∧z.length≤sizeLine∧Q (.str (Txt.slice z lo hi)) H):=by
 intro pins s σ H x v vl vu lo hi sl Q I rx hs pl pu h
 obtain ⟨z,rfl,hz,q⟩:=h
 obtain ⟨t,rfl⟩:=rx
 refine ⟨"str",_,F.slot_str_getitem.lookup,typeIs_str _ _ _,?_⟩
 have fin:∀ (t':Tok) (k:Nat),EP X pins σ Q (.str (Txt.slice z lo hi) t') { s with toks:=k }:=fun t' k=>⟨.str _,H,I.tok k,⟨_,rfl⟩,q⟩
 obtain ⟨o,ho,hc,hd⟩:=hs
 cases pl<;>cases pu
 · exact wpAny_getItem_str_slice (l:=none) (u:=none) (st:=none) ⟨_,ho,hc,hd⟩ rfl (post_val_or_str ⟨Nat.le_trans (Txt.slice_le z _ _) hz,fin⟩)
 · rename_i j uj
   exact wpAny_getItem_str_slice (l:=none) (u:=some (j,uj)) (st:=none) ⟨_,ho,hc,hd⟩ rfl (post_val_or_str ⟨Nat.le_trans (Txt.slice_le z _ _) hz,fin⟩)
 · rename_i i ui
   exact wpAny_getItem_str_slice (l:=some (i,ui)) (u:=none) (st:=none) ⟨_,ho,hc,hd⟩ rfl (post_val_or_str ⟨Nat.le_trans (Txt.slice_le z _ _) hz,fin⟩)
 · rename_i i ui j uj
   exact wpAny_getItem_str_slice (l:=some (i,ui)) (u:=some (j,uj)) (st:=none) ⟨_,ho,hc,hd⟩ rfl (post_val_or_str ⟨Nat.le_trans (Txt.slice_le z _ _) hz,fin⟩)
end
mutual
inductive DataOf (H:Hp):V→PyData→Prop
 | non:DataOf H .non .none
 | bl (b):DataOf H (.bl b) (.bool b)
 | int (i):DataOf H (.int i) (.int i)
 | str (x):DataOf H (.str x) (.str x)
 | lst {a xs ds}:H a=some (.lst xs)→DatasOf H xs ds→DataOf H (.ref a) (.list ds)
 | tup {a xs ds}:H a=some (.tup xs)→DatasOf H xs ds→DataOf H (.ref a) (.tuple ds)
inductive DatasOf (H:Hp):List V→List PyData→Prop
 | nil:DatasOf H [] []
 | cons {v d vs ds}:DataOf H v d→DatasOf H vs ds→DatasOf H (v::vs) (d::ds)
end
section
variable {P:Program}{w:World}{H:Hp}{h:Heap}
mutual
theorem DataOf.reads (hok:HOk P w H h):∀{v d}(u:Value),DataOf H v d→RelV v u→d.hasDict=false∧∃ as,Reads h u d as
 | _,_,u,.non,r=>by cases (show u=.none from r);exact ⟨rfl,_,.none⟩
 | _,_,u,.bl b,r=>by cases (show u=.bool b from r);exact ⟨rfl,_,.bool b⟩
 | _,_,u,.int i,r=>by obtain ⟨t,e⟩:=(show ∃ t,u=.int i t from r);subst e;exact ⟨rfl,_,.int i t⟩
 | _,_,u,.str x,r=>by obtain ⟨t,e⟩:=(show ∃ t,u=.str x t from r);subst e;exact ⟨rfl,_,.str x t⟩
 | _,_,u,.lst (a:=a) (xs:=xs) e q,r=>by
   cases (show u=.ref a from r)
   obtain ⟨_,its,n,rv,g⟩:=(show ObjOk P w H h a (.lst xs) from hok a _ e)
   obtain ⟨nd,as,ra⟩:=DatasOf.reads hok its q rv
   exact ⟨by simpa [PyData.hasDict] using nd,_,.list g rfl rfl (by simpa using ra)⟩
 | _,_,u,.tup (a:=a) (xs:=xs) e q,r=>by
   cases (show u=.ref a from r)
   obtain ⟨_,its,rv,o,g,c,n,d⟩:=(show ObjOk P w H h a (.tup xs) from hok a _ e)
   obtain ⟨nd,as,ra⟩:=DatasOf.reads hok its q rv
   exact ⟨by simpa [PyData.hasDict] using nd,_,.tuple g c d (by simpa using ra)⟩
theorem DatasOf.reads (hok:HOk P w H h):∀{vs ds}(us:List Value),DatasOf H vs ds→Vals vs us→PyData.hasDictAll ds=false∧∃ as,ReadsAll h us ds as
 | _,_,_,.nil,.nil=>⟨rfl,_,.nil⟩
 | _,_,_,.cons r t,.cons rv tv=>by
   obtain ⟨n1,as,r1⟩:=DataOf.reads hok _ r rv
   obtain ⟨n2,bs,r2⟩:=DatasOf.reads hok _ t tv
   exact ⟨by simp [PyData.hasDictAll,n1,n2],_,.cons r1 r2⟩
end
end
section
variable {X:Cx}
theorem Ya (hg:X.A.guards=some [])(hu:X.A.units+64 < cLine):Ys X (.builtin "repr") (fun xs H Q=>∃ x d,xs=[x]∧DataOf H x d∧d.showable=true∧d.shown.length≤sizeLine∧d.depth≤60∧Q (.str d.shown) H):=by
 intro pins s σ H xs us Q I r h
 obtain ⟨x,d,rfl,dd,hs,hz,hd,q⟩:=h
 obtain ⟨u,rfl,ru⟩:=Yu r
 have fin:∀ (t':Tok) (k:Nat),EP X pins σ Q (.str d.shown t') { s with toks:=k }:=fun t' k=>⟨.str _,H,I.tok k,⟨_,rfl⟩,q⟩
 obtain ⟨nd,as,rd⟩:=DataOf.reads I.hok u dd ru
 cases rd with
 | none=>exact PySem.P.repr_of_none (fin _ _)
 | bool b=>exact PySem.P.repr_of_bool (fin _ _)
 | int i t=>exact PySem.P.repr_of_int (by simpa [PyData.showable] using hs) (fin _ _)
 | str x t=>exact PySem.P.repr_of_str (fin _ _) hz
 | list h1 h2 h3 h4=>exact repr_of_reads' (Reads.list h1 h2 h3 h4) hs (fun z=>by rw [nd] at z;cases z) hg (by omega) (fun _ _ e=>e) (fun h' t' k hk=>⟨.str _,H,I.kept (t':=k) hk,⟨_,rfl⟩,q⟩) hz
 | tuple h1 h2 h3 h4=>exact repr_of_reads' (Reads.tuple h1 h2 h3 h4) hs (fun z=>by rw [nd] at z;cases z) hg (by omega) (fun _ _ e=>e) (fun h' t' k hk=>⟨.str _,H,I.kept (t':=k) hk,⟨_,rfl⟩,q⟩) hz
 | dict h1 h2 h3 h4 h5=>cases nd
end
end L2
namespace L2
open PySem PySem.Spec PyProof.Rows
def Def (P:Program)(w:World)(K:PySem.W.Frag)(mg:Str→Option Value)(base:Heap)(k:Nat)(x:Str)(ps:List Str)(sp:Sp):Prop :=
 ∃ f fd,FnOk P w K mg base ZG k f fd ps sp∧Binds K fd ps []∧PySem.W.keepIn K (.ref f)=true∧mg x=some (.ref f)
theorem Def.mono {P:Program}{w:World}{K:PySem.W.Frag}{mg:Str→Option Value}{base:Heap}{j k:Nat}{x:Str}{ps:List Str}{sp:Sp}(D:Def P w K mg base j x ps sp)(h:j≤k):Def P w K mg base k x ps sp :=
 let ⟨f,fd,F,b,kp,m⟩:=D;⟨f,fd,F.mono h,b,kp,m⟩
section
variable {X:Cx}{k:Nat}{x:Str}{ps:List Str}{sp:Sp}{p pos:Pos}{e:Expr}{es:List Expr}{t:TA}
theorem ZV (D:Def X.prog X.w X.K X.mg X.base k x ps sp)(hr:Room k X.A)(ha:PA X (e::es) t)(hg:Gl X x:=by rfl)(hdb:(x == ("__debug__":Str))=false:=by decide)
   (he:starEach (e::es) X.env=(false,eval e X.env)::starEach es X.env:=by rfl) (hpl:(backTo pos (starEach es X.env)).any (·.1)=false:=by rfl) :
   PE X (.Call (.Name x p) (e::es) [] pos) (ZcX sp [] E0 t):=by
 obtain ⟨f,fd,F,b,kp,m⟩:=D
 exact ZgM F hr hg m kp b .nil Zaw ha hdb he hpl
end
def Kp (p:Addr)(H H':Hp):Prop:=∀ q o,q≠p→H q=some o→H' q=some o
theorem Kp.trans {p:Addr}{H H1 H2:Hp}(a:Kp p H H1)(b:Kp p H1 H2):Kp p H H2:=fun q o n h=>b q o n (a q o n h)
theorem Kp.upd (p:Addr)(H:Hp)(o:HO):Kp p H (upd H p o):=fun q u n h=>by rw [Zg n];exact h
theorem Same.kp {H H':Hp}(a:Same H H')(p:Addr):Kp p H H':=fun q o _ h=>a q o h
theorem Zf {H:Hp}{p:Addr}(h:H p=none)(o:HO):Same H (upd H p o):=fun b u q=>by rw [Zg (Zq q h)];exact q
def BoxAt (H:Hp)(p:Addr)(n:Nat):Prop:=∃ a b c:Int,H p=some (.lst [.int a,.int b,.int c])∧0≤a∧0≤c∧c≤n
theorem BoxAt.same {H H':Hp}{p:Addr}{n:Nat}(h:BoxAt H p n)(s:Same H H'):BoxAt H' p n:=let ⟨a,b,c,e,r⟩:=h;⟨a,b,c,s _ _ e,r⟩
theorem BoxAt.le {H:Hp}{p:Addr}{n m:Nat}(h:BoxAt H p n)(l:n≤m):BoxAt H p m:=let ⟨a,b,c,e,h1,h2,h3⟩:=h;⟨a,b,c,e,h1,h2,by omega⟩
def Va (M:Int):Sp:=fun vs H Q _=>∃(p:Addr)(n:Nat)(m:Int),vs=[.ref p,.int m]∧BoxAt H p n∧n≤1000000∧0 < m∧m < M∧∀(r:Int)(H':Hp),0≤r→r < m→BoxAt H' p (n+1)→Kp p H H'→Q (.int r) H'
def ZdQ (K:PySem.W.Frag):Sp:=fun vs H Q _=>∃(a:Addr)(ns:List Int)(k:Int),vs=[.ref a,.int k]∧SqL K H a (ns.map V.int)∧0≤k∧∀(r:Int),Q (.int r) H
def ZfZ (K:PySem.W.Frag):Sp:=fun vs H Q _=>∃(a:Addr)(ns:List Int)(k:Int),vs=[.ref a,.int k]∧SqL K H a (ns.map V.int)∧0≤k∧k≤1000∧∀(p:Addr)(H':Hp),H p=none→BoxAt H' p 0→Same H H'→Q (.ref p) H'
theorem ZeJ {n:Nat}(h:n≤1000):n≤sizeLine:=Nat.le_of_lt (ZdN h)
end L2
namespace L2
open PySem PySem.Spec PyProof.Rows
def Zch (N:List Str)(names:List (Str×NameKind))(scope:Scope)(x:Str):Bool :=
 decide ((WS N x++[x]).Nodup)&&scope.names.all (fun y=>(y.2 != .free || names.lookup y.1 == some .cell || names.lookup y.1 == some .free)&&(y.2 != .cell&&(y.2 != .local || scope.names.lookup y.1 == some .local))) &&
 ((scope.kind == .function&&scope.names.lookup x == some .local)&&N.all fun y=>y == x || scope.names.lookup y != some .local)&&scope.names.lookup ("":Str) == none
theorem CompOk.of {X:Cx}{scope:Scope}{x:Str}(N:List Str)(st:Stmt)(hN:X.N=N)(hn:X.env.scope=Zk st)(chk:Zch N (Zk st).names scope x=true):CompOk X scope x:=by
 unfold Zch at chk
 simp only [Bool.and_eq_true,decide_eq_true_eq,List.all_eq_true,Bool.or_eq_true,bne_iff_ne,beq_iff_eq] at chk
 obtain ⟨⟨⟨c1,c2⟩,⟨c3,c4⟩,c5⟩,c6⟩:=chk
 refine ⟨by rw [hN];exact c1,fun y hy hf=>?_,fun y hy=>(c2 y hy).2.1,c3,fun y hy hl=>?_,c4,fun y hy hx=>(c5 y (by rw [← hN];exact hy)).resolve_left hx,c6⟩
 · show X.env.scope.names.lookup y.1=_∨X.env.scope.names.lookup y.1=_
   rw [hn]
   rcases (c2 y hy).1 with (z | z) | z
   · exact absurd hf z
   · exact .inl z
   · exact .inr z
 · rcases (c2 y hy).2.2 with z | z
   · exact absurd hl z
   · exact z
theorem Vb:∀ (rest:List Str) (acc:Array Nat),(rest.foldl (fun acc p=>acc++(Str.ofString "").cps++p.cps) acc).toList=acc.toList++rest.flatMap (·.cps.toList)
 | [],acc=>by simp
 | p::r,acc=>by
   have e:(Str.ofString "").cps=#[]:=by decide +kernel
   rw [List.foldl_cons,Vb r,List.flatMap_cons,e]
   simp
theorem Xv:∀ ys:List Str,(Txt.join (Str.ofString "") ys).cps.toList=ys.flatMap (·.cps.toList)
 | []=>rfl
 | y::r=>by
   show (List.foldl (fun acc p=>acc++(Str.ofString "").cps++p.cps) y.cps r).toList=_
   rw [Vb];rfl
theorem ZQ (x:Str):x.length=x.cps.toList.length:=by simp [Str.length]
theorem ZdK (s e:Int)(i j:Nat)(hs:s=i)(he:e=j):sliceRange s e 1=(List.range (j - i)).map (i+·):=by
 subst hs he
 unfold sliceRange
 simp only [show (1:Int) > 0 by decide,if_true]
 have e3:(if (i:Int) < (j:Int) then ((j:Int) - i+1 - 1) / 1 else 0).toNat=j - i:=by
   split
   · rw [Int.ediv_one];omega
   · omega
 rw [e3]
 apply List.map_congr_left
 intro k hk
 omega
theorem Wc (z:Str)(lo hi:Option Int):(Txt.slice z lo hi).cps.toList=(z.cps.toList.drop (HT.sIx z.length 0 lo)).take (HT.sIx z.length z.length hi - HT.sIx z.length 0 lo):=by
 have key:Builtin.Str.strSliceIndices lo hi 1 z.length=(List.range (HT.sIx z.length z.length hi - HT.sIx z.length 0 lo)).map (HT.sIx z.length 0 lo+·):=by
   unfold Builtin.Str.strSliceIndices
   refine ZdK _ _ _ _ ?_ ?_
   · cases lo with
     | none=>rfl
     | some i=>simp only [HT.sIx,show (1:Int) > 0 by decide,if_true];split<;>omega
   · cases hi with
     | none=>rfl
     | some i=>simp only [HT.sIx,show (1:Int) > 0 by decide,if_true];split<;>omega
 have hj:HT.sIx z.length z.length hi≤z.length:=HT.sIx_le _ _ (Nat.le_refl _) hi
 unfold Txt.slice
 rw [key]
 split
 · rename_i h
   simp only [beq_self_eq_true,Bool.true_and,List.length_map,List.length_range,beq_iff_eq] at h
   have h0:HT.sIx z.length 0 lo=0∨z.length=0:=by omega
   rcases h0 with h0 | h0
   · rw [h0] at h ⊢
     rw [List.drop_zero,h,ZQ,List.take_length]
   · have e:z.cps.toList=[]:=List.eq_nil_of_length_eq_zero (by rw [← ZQ];exact h0)
     rw [e];simp
 · show (List.filterMap (fun k=>z.cps[k]?) ((List.range _).map _)).toArray.toList=_
   rw [List.filterMap_map]
   generalize HT.sIx z.length 0 lo=i at *
   generalize HT.sIx z.length z.length hi - i=n at *
   have gen:∀ (n i:Nat),List.filterMap ((fun k=>z.cps[k]?) ∘ (i+·)) (List.range n)=(z.cps.toList.drop i).take n:=by
     intro n
     induction n with
     | zero=>intro i;simp
     | succ n ih =>
       intro i
       rw [List.range_succ,List.filterMap_append,ih,List.take_add_one,List.getElem?_drop]
       congr 1
       simp only [List.filterMap_cons,List.filterMap_nil,Function.comp,Array.getElem?_toList]
       cases z.cps[i+n]?<;>rfl
   rw [gen]
theorem Zan (x y:Str):(x++y).cps.toList=x.cps.toList++y.cps.toList:=by
 show (x.cps++y.cps).toList=_
 simp
theorem ZR (x y:Str):(x++y).length=x.length+y.length:=by rw [ZQ,Zan,List.length_append,← ZQ,← ZQ]
def WA (c:Nat):Bool:=decide (97≤c)&&decide (c≤122)
def WK (c:Nat):Bool:=decide (32≤c)&&decide (c≤126)
theorem ZdG {X:Cx}{K:PySem.W.Frag}(hK:X.K=K):Ys X (.builtin "len") (fun xs H Q=>∃ x n,xs=[x]∧Zfg K x H n∧Q (.int n) H):=by subst hK;exact Zfq
@[reducible] def notStar:Expr→Bool
 | .Starred ..=>false
 | _=>true
theorem Zfy {e:Expr}{es:List Expr}{env:Env}(h:notStar e=true):starEach (e::es) env=(false,eval e env)::starEach es env:=by
 cases e<;>first | rfl | cases h
section
variable {X:Cx}{k:Nat}{x:Str}{ps:List Str}{sp:Sp}{p pos:Pos}{e:Expr}{es:List Expr}{te:TE}{t:TA}
theorem YZ (ha:PE X e te)(hr:PA X es t)(h:notStar e=true):PA X (e::es) (YW te t):=Yd ha hr (Zfy h)
theorem Zd (ha:PE X e te)(hr:PA X es t)(h:notStar e=true:=by rfl):PA X (e::es) (YW te t):=Yd ha hr (Zfy h)
end
end L2
namespace L2
open PySem PySem.Spec PyProof.Rows
section
variable {X:Cx}
theorem Zfu:Yx X (binaryOp .FloorDiv) (rI (fun _ j=>0 < j∧j < 2 ^ 62) fun i j=>.int (i / j)):=opI fun i j _ _ _ _ _ hc q=>by
 have h1:(0:Int) < j:=hc.1
 have h2:j < 2 ^ 62:=hc.2
 refine floordiv_int (by omega) (by rw [Int.fdiv_eq_ediv_of_nonneg i (by omega)];exact q) (.inl (PyProof.noPylong_of_log2 ?_))
 have h3:j.natAbs≠0:=by omega
 have h4:j.natAbs < 2 ^ 9000:=Nat.lt_of_lt_of_le (show j.natAbs < 2 ^ 62 by omega) (Nat.pow_le_pow_right (by decide) (by decide))
 exact (Nat.log2_lt h3).mpr h4
end
end L2
namespace L2
open PySem PySem.Spec PyProof.Rows
section
variable {X:Cx}
end
section
variable {X:Cx}{tg:Expr}
end
end L2
set_option maxHeartbeats 2000000
namespace L2
open PySem PySem.Spec PyProof.Rows
theorem Vq {prog:Program}{w:World}{A:Around}{it:Addr}{fp:List Addr}{n:Nat}{P:Nat→Value→Prop}{St:Nat→Heap→Prop}(D:Draws prog w A it fp n P St) :
   Draws prog w A it fp (n+1) (fun i v=>∃ j,i=j+1∧P j v) (fun i h=>∃ j,i=j+1∧St j h) where
 live:=fun i h ⟨j,_,st⟩=>D.live j h st
 frame:=fun i h h' ⟨j,e,st⟩ k=>⟨j,e,D.frame j h h' st k⟩
 item:=fun i s Q E hi ⟨j,e,st⟩ hQ=>by
   subst e
   exact D.item j s Q E (by omega) st fun x h' tk p st' sb=>hQ x h' tk ⟨j,rfl,p⟩ ⟨j+1,rfl,st'⟩ sb
 done:=fun s Q E ⟨j,e,st⟩ hE=>by
   have:n=j:=by omega
   subst this
   exact D.done s Q E st hE
section
variable {prog:Program}{w:World}{A:Around}{E:Value→Shared→Prop}{s:Shared}
theorem UI (x:Str)(t t1:Tok) :
   Meets (Builtin.«enumerate.__new__» ⟨[.type "enumerate",.str x t],[("start",.int 1 t1)]⟩) (fun _ R s =>
     R (.ok (.ret (.ref (s.heap.push { cls:=.type (strIterType x),data:=.fields #[.str x t,.int 0 0] }).objs.size)))
       { s with heap:=(s.heap.push { cls:=.type (strIterType x),data:=.fields #[.str x t,.int 0 0] }).push { cls:=.type "enumerate",data:=.fields #[.none,.bool false,.ref s.heap.objs.size,rawInt 1,.none,.none] } }) :=
 .of_wp fun prog w A R s h=>by
   obtain ⟨hp,g,d,tk,os⟩:=s
   have sub1:=sub_enumerate
   wp_walk
   refine wpAny_stack_any fun st=>wpAny_pure ?_
   split
   · rename_i c _ _ _ _ _
     cases (c == Value.type "enumerate")<;>(wp_walk using wpAny_pyIter_strU;exact ⟨_,rfl,h⟩)
   · wp_walk using wpAny_pyIter_strU
     exact ⟨_,rfl,h⟩
end
end L2
set_option maxHeartbeats 2000000
namespace L2
open PySem PySem.Spec PyProof.Rows
section
variable {prog:Program}{w:World}{A:Around}{E:Value→Shared→Prop}{s:Shared}
theorem Vx {T newId:String}{self a:Value}{kw:List (Str×Value)}(hl:typeLookup (.type T) "__init__"=pure (some (.builtin "object.__init__")))
   (hm:Bind.madeBy (.type T)=pure (some newId)) (hne:(some newId != some "object.__new__")=true) :
   Meets (Builtin.«object.__init__» ⟨[self,a],kw⟩) (fun _ R s=>s.TypeIs self T∧R (.ok (.ret .none)) s):=by
 refine Meets.of_wp fun prog w A R s hs=>?_
 obtain ⟨hT,hq⟩:=hs
 repeat (any_goals first | assumption | wp_step)
 exact ⟨_,rfl,hq⟩
theorem ZaJ {T newId initId:String}{Bn Bi:Builtin}{args:List Value}{kw:List (Str×Value)}{S:PySem.Spec}{Q Q₁:Value→Shared→Prop}(ft:TypeCalled T newId initId)
   (hct:checkTypeCall T ⟨args,kw⟩=pure ()) (hcn:checkBuiltinCall newId ⟨.type T::args,kw⟩=pure ())
   (entryN:entryFor table newId=some Bn) (entryI:entryFor table initId=some Bi) (g:Meets (Bn ⟨.type T::args,kw⟩) S) (h:S A.in1 (wants Q₁ E) s)
   (hnext:∀ obj s₁,Q₁ obj s₁→s₁.TypeIs obj T∧argsOk initId ⟨obj::args,kw⟩∧∃ Si,Meets (Bi ⟨obj::args,kw⟩) Si∧Si A.in1 (wants (fun r s₂=>r=.none∧Q obj s₂) E) s₁) :
   wpAny (model prog w) A (call (.type T) args kw) Q E s:=by
 obtain ⟨c,tl,hmro⟩:=ft.mro
 have q1:=ft.made
 have q2:=ft.sub
 refine wpAny_call (codeAny_of_tree (show wpAny _ _ (callAny (.type T) _) _ _ _ from wpAny_pure ⟨Code.quiet_builtin _ (by decide +kernel),codeAny_builtin F.entry_type_call ?_⟩))
 rw [Around.under_plain (weight_type_call_type T args kw) (units_type_call_type T args kw)]
 have q3:=ft.notType
 have q4:=ft.canCreate
 repeat (any_goals first | assumption | wp_step)
 refine codeAny_mono (codeAny_call_builtin ft.plain entryN (wpAny_of_eq hcn (g prog w A.in1 _ s h))) fun r s₁ hr=>?_
 rcases r with e | fl
 · exact hr
 · cases fl with
   | ret obj =>
     obtain ⟨hT,hok,Si,gi,hsi⟩:=hnext _ _ hr
     have q5:=ft.init.lookup
     have q6:=ft.init.bind obj
     repeat (any_goals first | assumption | wp_step)
     refine codeAny_mono (codeAny_call_builtin ft.init.plain entryI (ft.init.check _ _ _ _ _ _ _ _ hT hok (gi prog w A.in1 _ s₁ hsi))) fun r₂ s₂ hr₂=>?_
     rcases r₂ with e | fl₂
     · exact hr₂
     · cases fl₂ with
       | ret r =>
         obtain ⟨rfl,hq⟩:=hr₂
         repeat (any_goals first | assumption | wp_step)
       | _=>exact hr₂.elim
   | _=>exact hr.elim
theorem WN (a b:Value):checkTypeCall "enumerate" ⟨[a],[("start",b)]⟩=pure ():=by kernel_rfl
theorem WZ (a b:Value):checkBuiltinCall "enumerate.__new__" ⟨[.type "enumerate",a],[("start",b)]⟩=pure ():=by kernel_rfl
theorem Vi (o a b:Value):argsOk "object.__init__" ⟨[o,a],[("start",b)]⟩:=by
 unfold argsOk
 rw [signature?_of (id:="object.__init__") (n:=['_','_','t','i','n','i','_','_']) (o:=['t','c','e','j','b','o']) (by kernel_rfl) F.owner_object]
 kernel_rfl
theorem UQ {x:Str}{t t1:Tok}{Q:Value→Shared→Prop}
   (h:∀ h',IsEnum h' (s.heap.objs.size+1) s.heap.objs.size 1 .none→h'.IsStrIter s.heap.objs.size (strIterType x) x t 0→h'.objs.size=s.heap.objs.size+2 →
     (∀ b o,s.heap.get? b=some o→h'.get? b=some o)→Q (.ref (s.heap.objs.size+1)) { s with heap:=h' }) :
   wpAny (model prog w) A (call (.type "enumerate") [.str x t] [("start",.int 1 t1)]) Q E s:=by
 have ft:=F.called_enumerate
 refine ZaJ (Q₁:=fun obj s₁=>s₁.TypeIs obj "enumerate"∧Q obj s₁) ft (WN _ _) (WZ _ _) F.entry_enumerate_new F.entry_object_init (UI x t t1) ?_
   (fun obj s₁ hq=>⟨hq.1,Vi obj _ _,_,Vx ft.init.lookup ft.made (by decide),hq.1,rfl,hq.2⟩)
 generalize hO:({ cls:=.type (strIterType x),data:=.fields #[.str x t,.int 0 0] }:Obj)=O
 have hz:(s.heap.push O).objs.size=s.heap.objs.size+1:=Heap.size_push ..
 generalize hO2:({ cls:=.type "enumerate",data:=.fields #[.none,.bool false,.ref s.heap.objs.size,rawInt 1,.none,.none] }:Obj)=O2
 have he:((s.heap.push O).push O2).get? (s.heap.objs.size+1)=some O2:=by
   have e:=Heap.get?_push_size (s.heap.push O) (o:=O2) (by rw [← hO2];rfl)
   rw [hz] at e;exact e
 have hi:((s.heap.push O).push O2).get? s.heap.objs.size=some O:=Heap.get?_push_of_some _ (Heap.get?_push_size _ (by rw [← hO];rfl))
 have key:Shared.TypeIs { s with heap:=(s.heap.push O).push O2 } (.ref (s.heap.objs.size+1)) "enumerate"∧Q (.ref (s.heap.objs.size+1)) { s with heap:=(s.heap.push O).push O2 }:=by
   refine ⟨⟨O2,he,by rw [← hO2]⟩,h _ (by rw [← hO2] at he ⊢;exact he) ⟨O,hi,by rw [← hO],by rw [← hO];rfl⟩ (by rw [Heap.size_push,hz]) fun b o y=>Heap.get?_push_of_some _ (Heap.get?_push_of_some _ y)⟩
 rw [← hz] at key
 exact key
end
end L2
set_option maxHeartbeats 2000000
namespace L2
open PySem PySem.Spec PyProof.Rows
theorem Inv.turned2 {X:Cx}{pins:List (Addr×Obj)}{σ:St}{H:Hp}{s:Shared}{h':Heap}{t':Nat}{fp:List Addr}(I:Inv X pins σ H s)(k:∀ b o,b ∉ fp→s.heap.get? b=some o→h'.get? b=some o)(hf:∀ b∈fp,Xi X pins H b) :
   Inv X pins σ H { s with heap:=h',toks:=t' }:=by
 have nit:∀ b u,H b=some u→b ∉ fp:=fun b u e z=>by rw [(hf b z).1] at e;cases e
 refine I.step (g':=s.gens) (d':=s.drawn) (ch:=fp) (fun b hb=>?_) (fun b o _ _ hc e _=>k b o hc e) (fun b o _ _ hc e _=>⟨o.slots,k b o hc e⟩) (fun _ _ _ _ n=>n)
   (fun b o hc e=>⟨o,k b o hc e⟩) (fun _ _ e=>e) (fun _ _ _ e=>e) (fun b ps e=>⟨#[],by rw [e];simp⟩) (fun m hm=>?_) (fun b u e=>?_) I.bare
 · obtain ⟨f0,f1,f2,f3,f4,f5⟩:=hf b hb
   exact ⟨f3,f1,f4,f5⟩
 · obtain ⟨o,es,ep,ho,r⟩:=hm
   exact ⟨o,es,ep,k _ o (fun z=>(hf _ z).2.1 rfl) ho,r⟩
 · refine (I.hok b u e).stay (fun c v hc q=>k c v ?_ q) (fun _ q=>q) fun _ _ q=>q
   rcases hc with z | z
   · rw [z];exact nit b u e
   · exact nit c _ z
theorem VZ {prog:Program}{w:World}{A:Around}(hh:A.handled=none)(it:Addr)(x:Str)(t:Tok) :
   Draws prog w A it [it] x.cps.size (fun i v=>∃ c u,x.cps[i]?=some c∧v=.str ⟨#[c]⟩ u) (fun i h=>h.IsStrIter it (strIterType x) x t i):=by
 cases ha:x.cps.all (· < 128)
 · have e:strIterType x="str_iterator":=by simp [strIterType,ha]
   rw [e];exact Draws.strWide hh it x t
 · have e:strIterType x="str_ascii_iterator":=by simp [strIterType,ha]
   rw [e];exact Draws.strAscii hh it x t
def Ite (x:Str):It:=⟨fun i _=>i < x.cps.size,fun i H v H'=>∃ t c,H t=none∧x.cps[i]?=some c∧v=.ref t∧H'=upd H t (.tup [.int ((i:Int)+1),.str ⟨#[c]⟩]),fun i _=>x.cps.size≤i⟩
theorem Zen {P:Program}{w:World}{K:PySem.W.Frag}{elts:List Expr}{x1:Nat}{tp:Pos}(x:Str)(t:Tok)(e it:Addr)(hne:e≠it) :
   ZaL P w K (.Tuple elts x1 tp) (Ite x) [e,it] e (fun i h=>(∃ old,IsEnum h e it ((i:Int)+1) old)∧h.IsStrIter it (strIterType x) x t i∧i≤x.cps.size) where
 mem:=by simp
 obj:=fun i h st b hb=>by
   obtain ⟨⟨old,he⟩,⟨o,ho,c,d⟩,_⟩:=st
   rcases List.mem_cons.mp hb with q | hb
   · rw [q];exact ⟨_,he,fun v z=>by cases z⟩
   · rw [List.mem_singleton.mp hb];exact ⟨o,ho,fun v z=>by rw [d] at z;cases z⟩
 keep:=fun i h h' st k=>by
   obtain ⟨⟨old,he⟩,⟨o,ho,r⟩,hi⟩:=st
   exact ⟨⟨old,k e (by simp) _ he⟩,⟨o,k it (by simp) o ho,r⟩,hi⟩
 item:=by
   intro X hP hw hK hc i pins s σ H E I hf st hg
   subst hP hw hK
   obtain ⟨⟨old,he⟩,hs,hi⟩:=st
   have hlt:i < x.cps.size:=hg
   have D:=Vq (VZ (prog:=X.prog) (w:=X.w) (A:=X.A.in1) (I.ok.hd hc) it x t)
   refine wpAny_pyNext_enum_itemD (i:=i+1) D (show IsEnum s.heap e it ((i+1:Nat):Int) old from he) ⟨i,rfl,hs⟩ (by omega) hne (by simpa using hne) fun v h' tk hP hOut hst hT hsz hk=>?_
   obtain ⟨j,ej,c,u,hcc,rfl⟩:=hP
   have ej':i=j:=by omega
   subst ej'
   obtain ⟨j,ej,hst⟩:=hst
   have ej':i+1=j:=by omega
   subst ej'
   have hel:e < s.heap.objs.size:=Heap.lt_size he
   have hil:it < s.heap.objs.size:=by obtain ⟨o,ho,_⟩:=hs;exact Heap.lt_size ho
   refine ⟨_,rfl,wpAny_letOwnedTupleGo_enum hOut fun h2 he2 hs2=>?_⟩
   generalize hO:({ cls:=.type "tuple",data:=.seq #[.int ((i+1:Nat):Int) tk,.str ⟨#[c]⟩ u] }:Obj)=O at hT
   have I1:Inv X pins σ (upd H s.heap.objs.size (.tup [.int ((i:Int)+1),.str ⟨#[c]⟩])) { s with heap:=s.heap.push O,toks:=tk+1 }:=by
     refine I.laid (t':=tk+1) (fun b o y=>Heap.get?_push_of_some _ y) (Nat.le_refl _) (show ObjOk X.prog X.w _ _ _ (.tup _) from ⟨by show 2≤sizeLine;decide,[.int ((i+1:Nat):Int) tk,.str ⟨#[c]⟩ u],.cons ⟨tk,rfl⟩ (.cons ⟨u,rfl⟩ .nil),?_⟩)
     rw [← hO];exact IsTup.new _ _
   have hfree:=I.hok.fresh (Nat.le_refl s.heap.objs.size)
   have hf2:∀ b∈[e,it],Xi X pins (upd H s.heap.objs.size (.tup [.int ((i:Int)+1),.str ⟨#[c]⟩])) b:=fun b hb=>by
     obtain ⟨f0,f1⟩:=hf b hb
     have hb':b≠s.heap.objs.size:=by
       rcases List.mem_cons.mp hb with q | hb
       · rw [q];exact Nat.ne_of_lt hel
       · rw [List.mem_singleton.mp hb];exact Nat.ne_of_lt hil
     exact ⟨by rw [Zg hb'];exact f0,f1⟩
   have I2:Inv X pins σ (upd H s.heap.objs.size (.tup [.int ((i:Int)+1),.str ⟨#[c]⟩])) { s with heap:=h2,toks:=tk+1 }:=by
     refine I1.turned2 (t':=tk+1) (h':=h2) (fun b o hb y=>?_) hf2
     have hbe:b≠e:=fun q=>hb (by simp [q])
     have hbi:b≠it:=fun q=>hb (by simp [q])
     rw [hs2.2 b hbe]
     rcases Heap.get?_push_cases y with ⟨q1,q2⟩ | y
     · rw [q1,q2];exact hT
     · exact hk b o hbe hbi y
   refine ⟨.ref s.heap.objs.size,_,I2,rfl,⟨s.heap.objs.size,c,hfree,hcc,rfl,rfl⟩,⟨⟨_,he2⟩,?_,hlt⟩,fun b hb=>(hf2 b hb).1⟩
   obtain ⟨o,ho,r⟩:=hst
   exact ⟨o,by rw [hs2.2 it hne.symm];exact ho,r⟩
 done:=by
   intro X hP hw hK hc i pins s σ H E I hf st hg
   subst hP hw hK
   obtain ⟨⟨old,he⟩,hs,hi⟩:=st
   have hle:x.cps.size≤i:=hg
   have D:=Vq (VZ (prog:=X.prog) (w:=X.w) (A:=X.A.in1) (I.ok.hd hc) it x t)
   have ei:i=x.cps.size:=by omega
   rw [ei] at hs
   obtain ⟨f0,f1,f2,f3,f4,f5⟩:=hf it (by simp)
   exact wpAny_pyNext_enum_endD D he ⟨_,rfl,hs⟩ fun h' eb=>⟨rfl,I.turned (t':=s.toks) (fun b o hb y=>eb b o hb y) f0 f1 f3 f4 f5⟩
 self:=fun _ _ _ _ _ st h=>by
   obtain ⟨⟨old,he⟩,_⟩:=st
   exact wpAny_pyIter_enum he h
theorem UH {M:Model}{A:Around}{E:Value→Shared→Prop}{s:Shared}{pos:Pos}{T:String}{args:List (Bool×Sem Value)}{kws:List (Option Str×Sem Value)}{Q:Value→Shared→Prop}
   (h1:args.any (·.1)=false) (h2:kws.any (·.1.isNone)=false)
   (h:wpAny M A (evalArgs (.type T) true args kws) (fun a s₁=>wpAny M A (call (.type T) a.pos a.kw) Q E s₁) E s):wpAny M A (callWith pos (.type T) [] args kws) Q E s:=by
 unfold callWith
 refine wpAny_bind (wpAny_holding (Zm h fun a s₁ q=>wpAny_bind (wpAny_standAt ?_)))
 simp only [h1,h2,Bool.or_false]
 refine wpAny_bind (wpAny_pure (wpAny_bind (Zm q fun r s₂ hr=>?_)))
 exact wpAny_bind (wpAny_holding (wpAny_point (wpAny_pure hr)))
def ZhY (tl:TE):TI:=fun σ H R=>tl σ H fun v H1=>∃ x,[v]=[V.str x]∧R (Ite x) H1
section
variable {X:Cx}
theorem ZeK {l:Expr}{tl:TE}{elts:List Expr}{x1 j:Nat}{tp p pos kp kpos:Pos}(hg:Gl X "enumerate")(hm:X.mg "enumerate"=none)(hl:PE X l tl)
   (he:starEach [l] X.env=[(false,eval l X.env)]:=by rfl):PI X (.Tuple elts x1 tp) (.Call (.Name "enumerate" p) [l] [⟨some "start",.Constant (.int 1) j kp,kpos⟩] pos) (ZhY tl):=by
 intro pins s σ H R I h
 have ha:PA X [l] (YW tl We):=Yd hl Za he
 have hk:PK X [⟨some "start",.Constant (.int 1) j kp,kpos⟩] (YW (tC (.int 1)) We):=ZgX Ze Zij
 refine wpAny_Call_Name_kw (WW I hg hm boot_enumerate (UH (by rw [he];rfl) rfl (evalArgs_kw2 rfl ?_ he)))
 refine Zm (ha pos pins s σ H (fun vs H1=>∃ x,vs=[V.str x]∧R (Ite x) H1) I h) fun us s1 ⟨vs,H1,I1,r1,x,e,q⟩=>?_
 subst e
 obtain ⟨u,rfl,t,rfl⟩:=Yu r1
 refine Zm (hk pos pins s1 σ H1 (fun vs H2=>vs=[V.int 1]∧H2=H1) I1 ⟨rfl,rfl⟩) fun ws s2 ⟨zs,H2,I2,r2,e1,e2⟩=>?_
 subst e1 e2
 obtain ⟨u',rfl,t',rfl⟩:=Yu r2
 refine UQ fun h' hE hit hsz hkk=>wpAny_pyIter_enum hE ?_
 refine ⟨s2.heap.objs.size+1,[s2.heap.objs.size+1,s2.heap.objs.size],_,_,H2,rfl,I2.kept (t':=s2.toks) hkk,Zen x t _ _ (Nat.succ_ne_self _),⟨⟨_,hE⟩,hit,Nat.zero_le _⟩,fun b hb=>?_,q⟩
 rcases List.mem_cons.mp hb with z | hb
 · rw [z];exact I2.fpOk (Nat.le_succ _) (I2.hok.fresh (Nat.le_succ _))
 · rw [List.mem_singleton.mp hb];exact I2.fpOk (Nat.le_refl _) (I2.hok.fresh (Nat.le_refl _))
end
theorem Zfr {x:Str}{g:TG}{tb:TS}{D:WX}{σ:St}{H:Hp}(Pv:Nat→St→Hp→Prop)(h0:Pv 0 σ H)
   (hs:∀ i c t σ H,x.cps[i]?=some c→H t=none→Pv i σ H→g (.ref t) σ (upd H t (.tup [.int ((i:Int)+1),.str ⟨#[c]⟩])) fun σ2 H2=>tb { D with nx:=Pv (i+1),ct:=Pv (i+1),bk:=D.nx } σ2 H2) (hd:∀ σ H,Pv x.cps.size σ H→D.nx σ H) :
   ∃ W:Nat→Nat→St→Hp→Prop,(∃ m,W 0 m σ H)∧∀ i m σ H,W i m σ H →
     ((Ite x).stop i H∧D.nx σ H)∨((Ite x).go i H∧∃ N:St→Hp→Prop,(∀ σ' H',N σ' H'→∃ m',m' < m∧W (i+1) m' σ' H')∧∀ y H',(Ite x).yld i H y H'→g y σ H' fun σ2 H2=>tb { D with nx:=N,ct:=N,bk:=D.nx } σ2 H2):=by
 refine ⟨fun i m σ H=>m=x.cps.size - i∧i≤x.cps.size∧Pv i σ H,⟨x.cps.size,by simp,Nat.zero_le _,h0⟩,?_⟩
 rintro i m σ H ⟨rfl,hi,p⟩
 by_cases hlt:i < x.cps.size
 · refine .inr ⟨hlt,Pv (i+1),fun σ' H' p'=>⟨x.cps.size - (i+1),by omega,rfl,hlt,p'⟩,fun y H' z=>?_⟩
   obtain ⟨t,c,e1,e2,e3,e4⟩:=z
   subst e3 e4
   exact hs i c t σ _ e2 e1 p
 · have e:i=x.cps.size:=by omega
   subst e
   exact .inl ⟨Nat.le_refl _,hd σ H p⟩
end L2
set_option maxHeartbeats 2000000
namespace L2
open PySem PySem.W PySem.Spec PyProof.Rows
section
variable {prog:Program}{w:World}{A:Around}{E:Value→Shared→Prop}{s:Shared}{a kS:Addr}{vs:List Value}{ks:List Str}{keys:Array Value}{e e1:Nat}{P:PySem.Fin→Shared→Prop}
end
end L2
set_option maxHeartbeats 2000000
namespace L2
open PySem PySem.W PySem.Spec PyProof.Rows
def XY (base:Heap)(mg:Str→Option Value):Prop:=∃ bm ob,mg "__builtins__"=some (.ref bm)∧bm≠builtinsNs∧base.get? bm=some ob∧ob.cls=.type "module"∧ob.dict=some builtinsNs∧ob.data=.plain
def ZcK (ts:List Addr)(H:Hp):Prop:=∀ b,H b=none∨(∃ o xs,H b=some (.frz o (.lst xs)))∨(H b=some (.tbl #[])∧b∈ts)
theorem ZdZ {P:Program}{w:World}{K:PySem.W.Frag}{mg mb:Str→Option Value}{CX:XU}{k:Nat}{fa a:Addr}{fd:FuncData}{x:Str}{sp:Sp}{s₁:Shared}{vs:List Value}{ns:List Int}{ts:List Addr}
   (KX:K.In s₁.heap) (hns:s₁.heap.Ns mainGlobals mg) (hb:s₁.heap.Ns builtinsNs mb) (hbb:∀ x:Str,x≠"__name__"→mb x=bootBuiltins x) (hlim:s₁.heap.NoLimit) (hg:s₁.gens=#[]) (hbm:XY s₁.heap mg)
   (ha:s₁.heap.get? a=some { cls:=.type "list",data:=.seq vs.toArray }) (hi:IntsAre vs ns) (hl:ns.length≤sizeLine) (hr:Room k callerA)
   (hts:∀ b∈ts,s₁.heap.get? b=some (tabObj #[])∧K.lookup b=none∧∃ c,CodeHd s₁.heap c b)
   (F:∀ base:Heap,K.In base→base.Ns mainGlobals mg→XY base mg→FnOk P w K mg base CX k fa fd [x] sp) (hbind:∀ (s:Shared) (u:Value),BindsTo s fd ⟨[u],[]⟩ [(x,u)])
   (hsp:∀ H:Hp,ZcK ts H→SqL K H a (ns.map V.int)→(∀ b∈ts,H b=some (.tbl #[]))→sp [.ref a] H (fun v _=>v=.bl true) fun _ _ _=>False)
   (hCX:∀ H e s',CX [] H s₁ (fun _ _ _=>False) e s'→False) :
   codeAny (model P w) callerA (.call (.ref fa) ⟨[.ref a],[]⟩) (fun r s'=>r=.ok (.ret (.bool true))∧OldK s₁.heap s'.heap∧s'.os=s₁.os∧AllBare s'.gens) s₁:=by
 have rv:=VX hi
 have lenV:=hi.length
 have nta:a ∉ ts:=fun z=>by
   have e:=(hts a z).1
   rw [ha] at e;cases e
 have core : ∀ H:Hp,ZcK ts H→SqL K H a (ns.map V.int)→HOk P w H s₁.heap→(∀ b∈ts,H b=some (.tbl #[]))→(∀ b,H b≠none→b=a∨b∈ts)→(∀ b,H b≠none→K.lookup b=none) →
     codeAny (model P w) callerA (.call (.ref fa) ⟨[.ref a],[]⟩) (fun r s'=>r=.ok (.ret (.bool true))∧OldK s₁.heap s'.heap∧s'.os=s₁.os∧AllBare s'.gens) s₁:=by
   intro H hO hS hok hT hA hK
   have base_of:∀ {b:Addr} {o:Obj},s₁.heap.get? b=some o→H b=none→(Wf s₁.heap H).get? b=some o:=fun y n=>Zfw y n
   have free:∀ {b:Addr} {o:Obj},s₁.heap.get? b=some o→(∀ its n,o.data≠.seq its n)→(∀ fs,o.data≠.fields fs)→H b=none:=fun {b o} y d1 d2=>by
     cases q:H b with
     | none=>rfl
     | some u =>
       rcases hA b (by rw [q];simp) with z | z
       · subst z
         rw [ha] at y;cases y
         exact absurd rfl (d1 _ _)
       · rw [(hts b z).1] at y;cases y
         exact absurd rfl (d2 _)
   have nsK:∀ {b:Addr} {m:Str→Option Value},s₁.heap.Ns b m→(Wf s₁.heap H).Ns b m:=fun {b m} ⟨o,es,ep,y,d,r⟩=>⟨o,es,ep,base_of y (free y (fun its n z=>by rw [d] at z;cases z) fun fs z=>by rw [d] at z;cases z),d,r⟩
   have hKb:K.In (Wf s₁.heap H):=fun b o y=>base_of (KX b o y) (by
     cases q:H b with
     | none=>rfl
     | some u=>rw [hK b (by rw [q];simp)] at y;cases y)
   have hBm:XY (Wf s₁.heap H) mg:=by
     obtain ⟨bm,ob,h1,h2,h3,h4,h5,h6⟩:=hbm
     exact ⟨bm,ob,h1,h2,base_of h3 (free h3 (fun its n z=>by rw [h6] at z;cases z) fun fs z=>by rw [h6] at z;cases z),h4,h5,h6⟩
   have hM:Mod K mg (Wf s₁.heap H):=⟨hKb,nsK hns,⟨mb,nsK hb,hbb⟩,let ⟨mc,h1,h2⟩:=hlim;⟨mc,nsK h1,h2⟩⟩
   have e0:Env0 P w K mg (Wf s₁.heap H) callerA [] s₁ H:=⟨rfl,hM,fun b o e=>Zhg e,Nat.le_of_eq (Zeb _ _),trivial,fun b hb=>absurd (show b∈([]:List Addr) from hb) (by simp),hok,.of_eq hg⟩
   refine codeAny_mono ((F _ hKb (nsK hns) hBm).run callerA [] s₁ H ⟨[.ref a],[]⟩ [.ref a] [.ref a] _ _ hr e0 (hbind s₁ (.ref a)) (.cons rfl .nil) (hsp H hO hS hT)) fun r s' h=>?_
   cases r with
   | error e=>exact (hCX H e s' h).elim
   | ok fl =>
     cases fl with
     | next=>exact False.elim h
     | brk=>exact False.elim h
     | cont=>exact False.elim h
     | ret u =>
       obtain ⟨v,H',os,bare,un,hok',r',q⟩:=h
       have q':v=.bl true:=q
       subst q'
       obtain rfl:u=Value.bool true:=r'
       have key:∀ b o,s₁.heap.get? b=some o→s'.heap.get? b=some o∨(b∈ts∧∃ more:Array Value,s'.heap.get? b=some (tabObj (#[]++more))):=fun b o y=>by
         cases q:H b with
         | none=>exact .inl (un.keep b o y q (by intro z;exact absurd (show b∈([]:List Addr) from z) (by simp)) (by simp))
         | some u =>
           rcases hO b with z | ⟨ob,xs,z⟩ | ⟨z,zt⟩
           · rw [q] at z;cases z
           · have z2:=un.frzs b ob _ z
             obtain ⟨e1,_⟩:=hok b _ z
             obtain ⟨e2,_⟩:=hok' b _ z2
             rw [y] at e1;cases e1
             exact .inl e2
           · obtain ⟨more,z2⟩:=un.tbls b #[] z
             exact .inr ⟨zt,more,show s'.heap.get? b=some { cls:=.none,data:=.fields (#[]++more) } from hok' b _ z2⟩
       refine ⟨rfl,⟨fun b o y=>?_,fun b o y=>?_⟩,os,bare⟩
       · rcases key b o y with z | ⟨zt,more,z⟩
         · exact .inl z
         · obtain ⟨t1,_,c,t3⟩:=hts b zt
           rw [t1] at y;cases y
           exact .inr (.inl ⟨(t3.tab t1).isCodeTable,rfl,#[],more,rfl,z⟩)
       · rcases key b o y with z | ⟨zt,more,z⟩
         · exact ⟨_,z⟩
         · exact ⟨_,z⟩
 have okT:∀ (H:Hp) (b:Addr),b∈ts→ObjOk P w H s₁.heap b (.tbl #[]):=fun H b hb=>(hts b hb).1
 cases hk:K.lookup a with
 | some o =>
   have e:=KX a o hk
   rw [ha] at e
   cases e
   refine core (fun b=>if b∈ts then some (.tbl #[]) else none) (fun b=>?_) (.inr ⟨_,vs.toArray,_,hk,rfl,rfl,rfl,by rw [List.size_toArray,lenV];exact hl,by simpa using rv⟩) (fun b u z=>?_) (fun b hb=>if_pos hb) (fun b z=>?_) (fun b z=>?_)
   · by_cases hb:b∈ts
     · exact .inr (.inr ⟨if_pos hb,hb⟩)
     · exact .inl (if_neg hb)
   · by_cases hb:b∈ts
     · have z':=(if_pos hb).symm.trans z
       cases z'
       exact okT _ b hb
     · have z':=(if_neg hb).symm.trans z
       cases z'
   · by_cases hb:b∈ts
     · exact .inr hb
     · exact absurd (if_neg hb) z
   · by_cases hb:b∈ts
     · exact (hts b hb).2.1
     · exact absurd (if_neg hb) z
 | none =>
   refine core (fun b=>if b=a then some (.frz { cls:=.type "list",data:=.seq vs.toArray } (.lst (ns.map V.int))) else if b∈ts then some (.tbl #[]) else none) (fun b=>?_) (.inl (.inr ⟨{ cls:=.type "list",data:=.seq vs.toArray },if_pos rfl⟩)) (fun b u z=>?_)
     (fun b hb=>(if_neg (fun z:b=a=>nta (by rw [← z];exact hb))).trans (if_pos hb)) (fun b z=>?_) (fun b z=>?_)
   · by_cases h1:b=a
     · exact .inr (.inl ⟨_,_,if_pos h1⟩)
     · by_cases hb:b∈ts
       · exact .inr (.inr ⟨(if_neg h1).trans (if_pos hb),hb⟩)
       · exact .inl ((if_neg h1).trans (if_neg hb))
   · by_cases h1:b=a
     · have z':=(if_pos h1).symm.trans z
       cases z'
       subst h1
       exact ⟨ha,by rw [List.length_map];exact hl,vs,_,rv,ha⟩
     · have z1:=(if_neg h1).symm.trans z
       by_cases hb:b∈ts
       · have z':=(if_pos hb).symm.trans z1
         cases z'
         exact okT _ b hb
       · have z':=(if_neg hb).symm.trans z1
         cases z'
   · by_cases h1:b=a
     · exact .inl h1
     · by_cases hb:b∈ts
       · exact .inr hb
       · exact absurd ((if_neg h1).trans (if_neg hb)) z
   · by_cases h1:b=a
     · rw [h1];exact hk
     · by_cases hb:b∈ts
       · exact (hts b hb).2.1
       · exact absurd ((if_neg h1).trans (if_neg hb)) z
theorem walk_ofT {l:PySem.W.OpenLaw}{n k:Nat}{q:Program}{loose:List Str}{XP:(Str→Option Value)→Heap→Prop}{YP:World→Heap→Prop}{d:DefRec}{K:Params→PySem.W.Frag}{CX:World→XU}{sp:World→Sp}{x:Str}{ts:List Addr}
   (hn:l.most=some n) (hn2:n≤sizeLine) (hdf:d.params.defaults=[]) (hr:Room k callerA)
   (hY:∀ (w:World) (h:Heap),YP w h→(K w.params).In h∧∀ b∈ts,h.get? b=some (tabObj #[]))
   (hK:∀ (w:World) (b:Addr),b∈ts→(K w.params).lookup b=none∧∃ c,codeHdIn (K w.params) c b=true)
   (F:∀ (w:World) (mg:Str→Option Value) (fa:Addr) (h:Heap),(K w.params).In h→h.Ns mainGlobals mg→mg d.name=some (.ref fa) →
     ∃ fd:FuncData,(∀ (s:Shared) (u:Value),BindsTo s fd ⟨[u],[]⟩ [(x,u)]) ∧
       ∀ base:Heap,(K w.params).In base→base.Ns mainGlobals mg→XY base mg→FnOk l.prog w (K w.params) mg base (CX w) k fa fd [x] (sp w))
   (hsp:∀ (w:World) (H:Hp) (a:Addr) (ns:List Int),ns.length≤n→ZcK ts H→SqL (K w.params) H a (ns.map V.int)→(∀ b∈ts,H b=some (.tbl #[]))→sp w [.ref a] H (fun v _=>v=.bl true) fun _ _ _=>False)
   (hCX:∀ (w:World) (H:Hp) (s:Shared) (e:Value) (s':Shared),CX w [] H s (fun _ _ _=>False) e s'→False) :
   PySem.W.WalkO q loose XP YP l.row.toRowW d [] (fun f vs=>PySem.call f vs):=by
 refine Att.attach_call hn hdf fun w s₀ s₁ mg mb fa o pm cd doc a vs ns G Y ho hd hcd hmg hobj hints hlen hg=>?_
 obtain ⟨KX,hT⟩:=hY w _ Y
 obtain ⟨fd,hb,hF⟩:=F w mg fa _ KX G.T.g hmg
 exact ZdZ (ts:=ts) KX G.T.g G.T.b G.T.builtins G.T.nolimit hg G.T.bmain hobj hints (Nat.le_trans hlen hn2) hr (fun b hb'=>⟨hT b hb',(hK w b hb').1,let ⟨c,hc⟩:=(hK w b hb').2;⟨c,codeHd_of_K KX hc⟩⟩) hF hb (fun H hO hS hTb=>hsp w H a ns hlen hO hS hTb) fun H e s'=>hCX w H s₁ e s'
end L2
set_option maxHeartbeats 2000000
namespace L2
open PySem PySem.W PySem.Spec PyProof.Rows
section
variable {prog:Program}{w:World}{A:Around}{E:Value→Shared→Prop}{s:Shared}
theorem ZdR:∀{ts:List Addr}{us:List Value},Vals (ts.map V.ref) us→us=ts.map Value.ref
 | [],_,.nil=>rfl
 | t::ts,_,.cons r h=>by
   have e:=ZdR h
   cases (show _=Value.ref t from r)
   rw [e];rfl
end
def XE (c:Addr)(qual:Str):Heap→Prop:=fun h=>h.CodeRec (.ref c) qual
def LamAt (H:Hp)(Pl:Addr)(lpos:Pos)(qual:Str):Prop :=
 H Pl=some (.tbl #[])∨∃ c,H Pl=some (.tbl #[rawInt lpos.line,rawInt lpos.col,.ref c])∧H c=some (.ext (XE c qual))
theorem ZgV {P:Program}{w:World}{H:Hp}{h:Heap}{c:Addr}{qual:Str}(e:h.CodeRec (.ref c) qual):ObjOk P w H h c (.ext (XE c qual)):=by
 obtain ⟨c',o,vs,t,z,g,r⟩:=id e
 cases z
 refine ⟨e,⟨o,g⟩,fun h1 h2 p k=>?_⟩
 obtain ⟨c',o,vs,t,z,g,r⟩:=p
 cases z
 exact ⟨_,o,vs,t,rfl,k _ g,r⟩
def Grown (Pl:Addr)(H H':Hp):Prop:=∀ b o,b≠Pl→H b=some o→H' b=some o
section
variable {X:Cx}{pins:List (Addr×Obj)}{σ:List (Option V)}{H:Hp}{s:Shared}{h':Heap}
theorem Inv.table {t':Nat}{Pl c:Addr}{ps:Array Value}{qual:Str}{lpos:Pos}(I:Inv X pins σ H s)(hP:H Pl=some (.tbl ps))(k:∀ b o,b≠Pl→s.heap.get? b=some o→h'.get? b=some o)
   (hT:h'.get? Pl=some (tabObj (ps++#[rawInt lpos.line,rawInt lpos.col,.ref c]))) (hc:s.heap.objs.size≤c) (hr:h'.CodeRec (.ref c) qual) :
   Inv X pins σ (upd (upd H Pl (.tbl (ps++#[rawInt lpos.line,rawInt lpos.col,.ref c]))) c (.ext (XE c qual))) { s with heap:=h',toks:=t' }:=by
 have hcn:H c=none:=I.hok.fresh hc
 have hcP:c≠Pl:=fun z=>by rw [z,hP] at hcn;cases hcn
 have nP:∀ b,H b=none→b≠Pl:=fun b z e=>by rw [e,hP] at z;cases z
 have off:∀ b o,b≠Pl→H b=some o→upd (upd H Pl (.tbl (ps++#[rawInt lpos.line,rawInt lpos.col,.ref c]))) c (.ext (XE c qual)) b=some o:=fun b o h1 e=>by rw [Zg (Zq e hcn),Zg h1];exact e
 have nL:X.env.locals≠Pl:=nP _ I.free
 refine I.step (g':=s.gens) (d':=s.drawn) (ch:=[]) (fun _ z=>nomatch z) (fun b o _ _ _ e n=>k b o (nP b n) e) (fun b o _ _ _ e n=>⟨o.slots,k b o (nP b n) e⟩) (fun b o _ e n=>?_) (fun b o _ e=>?_)
   (fun b xs e=>off b _ (fun z=>by rw [z,hP] at e;cases e) e) (fun b o u e=>off b _ (fun z=>by rw [z,hP] at e;cases e) e) (fun b qs e=>?_) (fun m hm=>?_) (fun b u e=>?_) I.bare
 · rw [Zg (fun z=>by rw [z] at e;exact absurd (Heap.lt_size e) (Nat.not_lt.mpr hc)),Zg (nP b n)];exact n
 · by_cases hb:b=Pl
   · exact ⟨_,by rw [hb];exact hT⟩
   · exact ⟨o,k b o hb e⟩
 · by_cases hb:b=Pl
   · rw [hb,hP] at e
     cases e
     exact ⟨#[rawInt lpos.line,rawInt lpos.col,.ref c],by rw [hb,Zg hcP.symm,Zc]⟩
   · exact ⟨#[],by rw [off b _ hb e];simp⟩
 · obtain ⟨o,es,ep,ho,r⟩:=hm
   exact ⟨o,es,ep,k _ o nL ho,r⟩
 · by_cases h1:b=c
   · subst h1
     rw [Zc] at e
     cases e
     exact ZgV hr
   · rw [Zg h1] at e
     by_cases h2:b=Pl
     · subst h2
       rw [Zc] at e
       cases e
       exact hT
     · rw [Zg h2] at e
       refine (I.hok b u e).stay (fun d v hd y=>k d v ?_ y) (fun d y=>off d _ (fun z=>by rw [z,hP] at y;cases y) y) fun d xs y=>off d _ (fun z=>by rw [z,hP] at y;cases y) y
       rcases hd with z | z
       · rw [z];exact h2
       · exact fun z2=>by rw [z2,hP] at z;cases z
end
section
variable {X:Cx}
end
end L2
set_option maxHeartbeats 4000000
namespace L2
open PySem PySem.W PySem.Spec PyProof.Rows
theorem Vt:typeLookup (.type "tuple") "keys"=pure none:=am_miss_of_fast (by decide +kernel)
section
variable {prog:Program}{w:World}{A:Around}{E:Value→Shared→Prop}{s:Shared}
theorem ZdA {a:Addr}{xs:Array Value}{k:Nat}{sl:Array (Option Value)}{Q:Option Value→Shared→Prop}(hx:s.heap.get? a=some { cls:=.type "tuple",dict:=none,data:=.seq xs k,slots:=sl })(hA:A.handled=none)
   (h:∀ h' tk,(∀ b o,s.heap.get? b=some o→h'.get? b=some o)→Q none { s with heap:=h',toks:=tk }):wpAny (model prog w) A (getAttr? (.ref a) "keys") Q E s:=by
 obtain ⟨hp,g,d,tk,os⟩:=s
 have hT:∀ tk',(⟨hp,g,d,tk',os⟩:Shared).TypeIs (.ref a) "tuple":=fun _=>⟨_,hx,rfl⟩
 have f1:=sub_AttributeError
 have f3:=F.slot_tuple_getattribute.lookup
 have f4:=F.slot_tuple_getattribute.bind (.ref a)
 have f5:=am_tuple_getattr_none
 unfold getAttr? getAttrBy? getAttrBy
 repeat (any_goals first | assumption | exact hT _ | ((with_reducible show wpAny _ _ (call (Value.builtin "tuple.__getattribute__") _ _) _ _ _);refine call_meets F.slot_tuple_getattribute (hT _) am_entry_tuple_getattribute (F.args_tuple_getattribute_2 _ _) (meets_getattribute_miss_tuple a xs k sl "keys" _ Vt (by decide) (by decide)) ⟨hx,hA,fun h' tk' e hx'=>?_⟩) | wp_step)
 obtain ⟨t',u',he⟩:=hx'.there
 show wpAny _ _ (getattributeRaised _ _ _ _ _ _ _) _ _ _
 unfold getattributeRaised
 repeat (any_goals first | assumption | wp_step)
 all_goals exact h _ _ hx'.keeps
theorem Wp:entryFor table "dict.update.loop"=some Builtin.«dict.update.loop»:=entryFor_of_tree (by kernel_rfl)
theorem YI:plainId "dict.update.loop"=true:=by decide +kernel
end
section
variable {prog:Program}{w:World}{A:Around}{R:Result→Shared→Prop}
def PairAt (prog:Program)(w:World)(h:Heap)(v:Value)(p:Zl×Value):Prop:=∃ tt key,v=.ref tt∧IsTup h tt #[key,p.2]∧(Zx prog w).is p.1 key=true
theorem PairAt.keep {h h':Heap}{v:Value}{p:Zl×Value}(x:PairAt prog w h v p)(k:∀ b o,h.get? b=some o→h'.get? b=some o):PairAt prog w h' v p:=by
 obtain ⟨tt,key,e,⟨o,eo,r⟩,z⟩:=x
 exact ⟨tt,key,e,⟨o,k _ _ eo,r⟩,z⟩
theorem PairAt.but {h h':Heap}{v:Value}{p:Zl×Value}{d:Addr}{o:Obj}(x:PairAt prog w h v p)(hd:h.get? d=some o)(hc:o.cls≠.type "tuple")(k:∀ b o,b≠d→h.get? b=some o→h'.get? b=some o):PairAt prog w h' v p:=by
 obtain ⟨tt,key,e,⟨ot,eo,c,r⟩,z⟩:=x
 refine ⟨tt,key,e,⟨ot,k _ _ (fun y=>?_) eo,c,r⟩,z⟩
 rw [y,hd] at eo
 cases eo
 exact hc c
theorem ZeO {d I t:Addr}{its:Array Value}(ps:List (Zl×Value))(hlen:ps.length=its.size)(hnd:(ps.map (·.1)).Nodup)(hsz:ps.length≤sizeLine)(hh:A.handled=none)(hIt:I≠t)(hId:I≠d) :
   ∀ (k i:Nat) (s:Shared) (n:Int) (tk:Tok),ps.length - i=k→i≤ps.length→s.heap.IsTupleIter I t i→s.heap.IsTuple t its→(∀ (j:Nat) (v:Value) (p:Zl×Value),its[j]?=some v→ps[j]?=some p→PairAt prog w s.heap v p)→s.heap.DictOf (Zx prog w) d (ps.take i) →
   (∀ h' tk',(∀ b o,b≠I→b≠d→s.heap.get? b=some o→h'.get? b=some o)→h'.DictOf (Zx prog w) d ps→R (.ok (.ret .none)) { s with heap:=h',toks:=tk' }) →
   codeAny (model prog w) A (.builtin "dict.update.loop" ⟨[.ref d,.ref I,.int n tk,.none],[]⟩) R s:=by
 have W:=Walks.tuple (prog:=prog) (w:=w) (A:=A.in1) hh I t hIt.symm its
 intro k
 induction k with
 | zero =>
   intro i s n tk hk hi hit htp hpr hd hR
   have hin:i=its.size:=by omega
   refine codeAny_builtin Wp ?_
   rw [Around.under_plainId YI _]
   show wpAny _ A.in1 (pyNext (.ref I) >>= _) _ _ s
   refine wpAny_bind (W.done s _ _ ⟨by rw [← hin];exact hit,htp⟩ fun h' tk' kk=>?_)
   show wpAny _ _ (Builtin.Dict.addKeywords d [] >>= _) _ _ _
   refine wpAny_bind (wpAny_pure (wpAny_pure (hR h' tk' (fun b o h1 _ y=>kk b o (by simpa using h1) y) ?_)))
   rw [List.take_of_length_le (by omega)] at hd
   obtain ⟨o,es,ep,eo,r⟩:=hd
   exact ⟨o,es,ep,kk d o (by simpa using hId.symm) eo,r⟩
 | succ k ih =>
   intro i s n tk hk hi hit htp hpr hd hR
   have hlt:i < its.size:=by omega
   refine codeAny_builtin Wp ?_
   rw [Around.under_plainId YI _]
   show wpAny _ A.in1 (pyNext (.ref I) >>= _) _ _ s
   refine wpAny_bind (W.item i s _ _ hlt ⟨hit,htp⟩ fun v h1 tk1 hv st1 kk=>?_)
   obtain ⟨hit1,htp1⟩:=st1
   have hI0:∃ o,s.heap.get? I=some o∧o.cls≠.type "tuple":=by
     obtain ⟨o,eo,c,_⟩:=hit
     exact ⟨o,eo,by rw [c];decide⟩
   have hpr1:∀ (j:Nat) (v:Value) (p:Zl×Value),its[j]?=some v→ps[j]?=some p→PairAt prog w h1 v p:=fun j v p a b=>by
     obtain ⟨o,eo,c⟩:=hI0
     exact (hpr j v p a b).but eo c fun b o hb y=>kk b o (by simpa using hb) y
   obtain ⟨p,hp⟩:∃ p,ps[i]?=some p:=⟨_,List.getElem?_eq_getElem (by omega)⟩
   have hv':its[i]?=some v:=hv
   obtain ⟨tt,key,rfl,⟨ot,eo,oc,on,od⟩,hkey⟩:=hpr1 i v p hv' hp
   have hd1:h1.DictOf (Zx prog w) d (ps.take i):=by
     obtain ⟨o,es,ep,eo,r⟩:=hd
     exact ⟨o,es,ep,kk d o (by simpa using hId.symm) eo,r⟩
   have hT:Shared.TypeIs { s with heap:=h1,toks:=tk1 } (.ref tt) "tuple":=⟨ot,eo,oc⟩
   have hnew:stored (ps.take i) p.1 p.2=ps.take (i+1):=by
     have hni:p.1 ∉ (ps.take i).map (·.1):=fun z=>by
       have e1:(ps.map (·.1))=(ps.take i).map (·.1)++(ps.drop i).map (·.1):=by rw [← List.map_append,List.take_append_drop]
       rw [e1,List.nodup_append] at hnd
       refine hnd.2.2 _ z _ (List.mem_map.mpr ⟨p,?_,rfl⟩) rfl
       exact List.mem_of_getElem? (i:=0) (by rw [List.getElem?_drop];simpa using hp)
     unfold stored
     rw [if_neg,List.take_add_one,hp]
     · rfl
     · intro z
       obtain ⟨q,hq,e⟩:=List.any_eq_true.mp z
       exact hni (List.mem_map.mpr ⟨q,hq,by simpa using e⟩)
   show wpAny _ A.in1 (holding [.ref tt] _ >>= _) _ _ _
   refine wpAny_bind (wpAny_holding ?_)
   refine wpAny_bind (wpAny_tryCatch ?_)
   unfold Builtin.Dict.pairItems
   refine wpAny_bind (wpAny_typeOf hT ?_)
   rw [if_pos (by decide)]
   refine wpAny_bind (wpAny_seqItems eo od (wpAny_pure ?_))
   show wpAny _ _ (holding [key,p.2] (dictSet d key p.2)) _ _ _
   refine wpAny_holding (wpAny_dictSet_pairs hkey hd1 (fun h2 hd2 hs2=>?_) (Nat.le_trans (by rw [List.length_take];omega) hsz))
   rw [hnew] at hd2
   refine wpAny_pure ⟨plainId_quiet YI _,ih (i+1) _ (n+1) _ (by omega) (by omega) ?_ ?_ ?_ hd2 ?_⟩
   · obtain ⟨o,eo',r⟩:=hit1
     exact ⟨o,(hs2.2 I hId).trans eo',r⟩
   · obtain ⟨o,eo',r⟩:=htp1
     refine ⟨o,(hs2.2 t (fun z=>?_)).trans eo',r⟩
     obtain ⟨o',es,ep,eo2,c2,_⟩:=hd1
     rw [z,eo2] at eo'
     cases eo'
     rw [c2.1] at r
     exact absurd r.1 (by decide)
   · intro j v p a b
     obtain ⟨o',es,ep,eo2,c2,_⟩:=hd1
     exact (hpr1 j v p a b).but eo2 (by rw [c2.1];decide) fun b o hb y=>(hs2.2 b hb).trans y
   · intro h3 tk3 k3 hd3
     exact hR h3 tk3 (fun b o h4 h5 y=>k3 b o h4 h5 ((hs2.2 b h5).trans (kk b o (by simpa using h4) y))) hd3
end
section
variable {prog:Program}{w:World}{A:Around}{E:Value→Shared→Prop}{s:Shared}
theorem Zao {t:Addr}{its:Array Value}{Q:Value→Shared→Prop}(ps:List (Zl×Value))(ht:IsTup s.heap t its)(hnd0:∃ o,s.heap.get? t=some o∧o.dict=none)(hlen:ps.length=its.size)(hnd:(ps.map (·.1)).Nodup)(hsz:ps.length≤sizeLine)(hh:A.handled=none)
   (hpr:∀ (j:Nat) (v:Value) (p:Zl×Value),its[j]?=some v→ps[j]?=some p→PairAt prog w s.heap v p)
   (h:∀ h' tk',(∀ b o,s.heap.get? b=some o→h'.get? b=some o)→h'.DictOf (Zx prog w) s.heap.objs.size ps→Q (.ref s.heap.objs.size) { s with heap:=h',toks:=tk' }) :
   wpAny (model prog w) A (call (.type "dict") [.ref t]) Q E s:=by
 refine callType_codes (Q₁:=fun obj s₁=>obj=.ref s.heap.objs.size∧s₁={ s with heap:=s.heap.push { cls:=.type "dict",data:=.dict #[] } }) F.kt_called_dict (F.kt_typeCall_dict_1 _) F.entry_dict_init (kt_code_dict_new _ ⟨rfl,rfl⟩) ?_
 rintro obj s₁ ⟨rfl,rfl⟩
 have hnew:(s.heap.push { cls:=.type "dict",data:=.dict #[] }).DictOf (Zx prog w) s.heap.objs.size []:=Heap.DictOf.new s.heap
 have tlt:t < s.heap.objs.size:=by obtain ⟨o,eo,_⟩:=ht;exact Heap.lt_size eo
 obtain ⟨ot,eot,oct,on,odt⟩:=id ht
 obtain ⟨o2,eo2,hdict⟩:=hnd0
 rw [eot] at eo2
 cases eo2
 refine ⟨hnew.typeIs,F.args_dict_init_2 _ _,?_⟩
 unfold Builtin.«dict.__init__»
 refine wpAny_bind ?_
 unfold Builtin.Dict.selfAndRest
 refine wpAny_bind (wpAny_notOrdered_dict hnew.typeIs ?_)
 show wpAny _ _ (pure (s.heap.objs.size,[Value.ref t])) _ _ _
 refine wpAny_pure ?_
 show wpAny _ _ (Builtin.Dict.updateFrom "dict.__init__" s.heap.objs.size (.ref t) [] .none) _ _ _
 unfold Builtin.Dict.updateFrom
 have hT:Shared.TypeIs { s with heap:=s.heap.push { cls:=.type "dict",data:=.dict #[] } } (.ref t) "tuple":=⟨ot,Heap.get?_push_of_some _ eot,oct⟩
 refine wpAny_bind (wpAny_typeOf hT ?_)
 rw [if_pos (by decide)]
 obtain ⟨c0,d0,dt0,sl0⟩:=ot
 have e1:c0=.type "tuple":=oct
 have e2:d0=none:=hdict
 have e3:dt0=.seq its on:=odt
 subst e1 e2 e3
 refine wpAny_bind (ZdA (s:={ s with heap:=s.heap.push { cls:=.type "dict",data:=.dict #[] } }) (Heap.get?_push_of_some _ eot) hh fun h1 tk1 k1=>?_)
 rw [if_pos (show (none:Option Value).isNone=true from rfl)]
 have et1:=k1 _ _ (Heap.get?_push_of_some { cls:=.type "dict",data:=.dict #[] } eot)
 have hd1:h1.DictOf (Zx prog w) s.heap.objs.size []:=by
   obtain ⟨o,es,ep,eo,r⟩:=hnew
   exact ⟨o,es,ep,k1 _ _ eo,r⟩
 have dlt:s.heap.objs.size < h1.objs.size:=by obtain ⟨o,es,ep,eo,r⟩:=hd1;exact Heap.lt_size eo
 refine wpAny_bind (wpAny_rule (wpAny_bind (wpAny_pyIter_tuple (items:=its) ⟨_,et1,rfl,on,rfl⟩ ?_)))
 refine wpAny_pure ⟨plainId_quiet YI _,ZeO (A:=A.in1) ps hlen hnd hsz hh (Nat.ne_of_gt (Heap.lt_size et1)) (Nat.ne_of_gt dlt) ps.length 0 _ 0 _ (by omega) (Nat.zero_le _) ⟨_,Heap.get?_push_size _ rfl,rfl,rfl⟩ ⟨_,Heap.get?_push_of_some _ et1,rfl,on,rfl⟩ ?_ ?_ ?_⟩
 · intro j v p a b
   exact (hpr j v p a b).keep fun b o y=>Heap.get?_push_of_some _ (k1 _ _ (Heap.get?_push_of_some _ y))
 · obtain ⟨o,es,ep,eo,r⟩:=hd1
   exact ⟨o,es,ep,Heap.get?_push_of_some _ eo,r⟩
 · intro h' tk' k3 hd3
   refine ⟨rfl,h h' tk' (fun b o y=>?_) hd3⟩
   have y1:=k1 _ _ (Heap.get?_push_of_some { cls:=.type "dict",data:=.dict #[] } y)
   exact k3 b o (Nat.ne_of_lt (Heap.lt_size y1)) (Nat.ne_of_lt (Heap.lt_size y)) (Heap.get?_push_of_some _ y1)
end
section
variable {X:Cx}
theorem Vh (hc:X.calm=true):Ys X (.type "dict") (fun xs H Q=>∃ (t:Addr) (ts:List Addr) (kvs:List (Str×V)),xs=[.ref t]∧(∃ o,H t=some (.frz o (.tup (ts.map V.ref)))∧o.dict=none)∧ts.length=kvs.length∧kvs.length≤1000 ∧
   (∀ (i:Nat) (a:Addr) (p:Str×V),ts[i]?=some a→kvs[i]?=some p→H a=some (.tup [.str p.1,p.2]))∧(kvs.map (·.1)).Nodup∧∀ d,H d=none→Q (.ref d) (upd H d (.dK (kvs.map fun p=>(Sum.inr p.1,p.2))))):=by
 intro pins s σ H xs us Q I r h
 obtain ⟨t,ts,kvs,rfl,⟨ot0,hq0,hdn⟩,hlen,hsz,hp,hnd,q⟩:=h
 have hq:SqT X.K H t (ts.map V.ref):=.inl (.inr ⟨ot0,hq0⟩)
 have eo0:=(I.hok t _ hq0).1
 obtain ⟨u,rfl,ru⟩:=Yu r
 cases ru
 obtain ⟨its,rv,pt,hz⟩:=I.tuple hq
 have hits:=ZdR rv
 subst hits
 have build:∀ (kvs:List (Str×V)) (ts:List Addr),ts.length=kvs.length→(∀ (i:Nat) (a:Addr) (p:Str×V),ts[i]?=some a→kvs[i]?=some p→H a=some (.tup [.str p.1,p.2])) →
     ∃ ps:List (Zl×Value),KV (kvs.map fun p=>((Sum.inr p.1:Zl),p.2)) ps∧ps.length=kvs.length∧ps.map (·.1)=kvs.map (fun p=>(Sum.inr p.1:Zl))∧∀ (j:Nat) (v:Value) (p:Zl×Value),(ts.map Value.ref)[j]?=some v→ps[j]?=some p→PairAt X.prog X.w s.heap v p:=by
   intro kvs
   induction kvs with
   | nil=>intro ts _ _;exact ⟨[],.nil,rfl,rfl,fun j v p _ e=>by simp at e⟩
   | cons kv r ih =>
     intro ts hl hh
     cases ts with
     | nil=>simp at hl
     | cons a ar =>
       obtain ⟨ps,k1,k2,k3,k4⟩:=ih ar (by simpa using hl) fun i b p e1 e2=>hh (i+1) b p (by simpa using e1) (by simpa using e2)
       obtain ⟨_,itv,rv',pa⟩:=(show ObjOk X.prog X.w H s.heap a (.tup [.str kv.1,kv.2]) from I.hok a _ (hh 0 a kv rfl rfl))
       cases rv' with
       | cons r1 rr =>
         cases rr with
         | cons r2 rr =>
           cases rr
           obtain ⟨tk,e⟩:=r1
           subst e
           rename_i u2
           refine ⟨(Sum.inr kv.1,u2)::ps,.cons ⟨rfl,r2⟩ k1,by rw [List.length_cons,List.length_cons,k2],by rw [List.map_cons,List.map_cons,k3],fun j v p e1 e2=>?_⟩
           cases j with
           | zero =>
             cases (show some (Value.ref a)=some v from e1)
             cases (show some ((Sum.inr kv.1:Zl),u2)=some p from e2)
             exact ⟨a,.str kv.1 tk,rfl,pa,Uv _ _ _ _⟩
           | succ j=>exact k4 j v p (by simpa using e1) (by simpa using e2)
 obtain ⟨ps,k1,k2,k3,k4⟩:=build kvs ts hlen hp
 have hnd2:(ps.map (·.1)).Nodup:=by
   rw [k3]
   have:kvs.map (fun p=>(Sum.inr p.1:Zl))=(kvs.map (·.1)).map Sum.inr:=by rw [List.map_map];rfl
   rw [this]
   rw [List.Nodup,List.pairwise_map]
   exact hnd.imp fun h e=>h (by cases e;rfl)
 refine Zao ps pt ⟨ot0,eo0,hdn⟩ (by rw [k2,List.size_toArray,List.length_map,hlen]) hnd2 (by rw [k2];exact ZeJ hsz) (I.ok.hd hc) (fun j v p e1 e2=>k4 j v p (by simpa using e1) e2) fun h' tk' kk hd=>?_
 have hbig:=I.big
 refine ⟨.ref s.heap.objs.size,_,I.laid (t':=tk') kk (Nat.le_refl _) (show ObjOk X.prog X.w _ h' _ (.dK (kvs.map fun p=>((Sum.inr p.1:Zl),p.2))) from ⟨by rw [List.length_map];exact ZeJ hsz,?_,ps,k1,hd⟩),rfl,q _ (I.hok.fresh (Nat.le_refl _))⟩
 exact beq_eq_false_iff_ne.mpr (Nat.ne_of_gt hbig)
end
end L2
set_option maxHeartbeats 2000000
namespace L2
open PySem PySem.W PySem.Spec PyProof.Rows
section
variable {X:Cx}{pins:List (Addr×Obj)}{σ:List (Option V)}{H H':Hp}{s:Shared}{h':Heap}
theorem Inv.many {t':Nat}(I:Inv X pins σ H s)(k:∀ b u,s.heap.get? b=some u→h'.get? b=some u)(ext:Same H H')(new:∀ b,b < s.heap.objs.size→H' b=H b)(hok:∀ b o,s.heap.objs.size≤b→H' b=some o→ObjOk X.prog X.w H' h' b o) :
   Inv X pins σ H' { s with heap:=h',toks:=t' }:=by
 refine I.step (g':=s.gens) (d':=s.drawn) (ch:=[]) (fun _ z=>nomatch z) (fun b o _ _ _ e _=>k b o e) (fun b o _ _ _ e _=>⟨o.slots,k b o e⟩) (fun b o _ e n=>by rw [new b (Heap.lt_size e)];exact n) (fun b o _ e=>⟨o,k b o e⟩)
   (fun b xs e=>ext b _ e) (fun b o u e=>ext b _ e) (fun b ps e=>⟨#[],by rw [ext b _ e];simp⟩) (fun m hm=>?_) (fun b u e=>?_) I.bare
 · obtain ⟨o,es,ep,ho,r⟩:=hm
   exact ⟨o,es,ep,k _ o ho,r⟩
 · by_cases hb:b < s.heap.objs.size
   · rw [new b hb] at e
     exact (I.hok b u e).stay (fun c v _ y=>k c v y) (fun c y=>ext c _ y) fun c xs y=>ext c _ y
   · exact hok b u (Nat.not_lt.mp hb) e
end
def Vu (v d:Addr):Heap→Prop:=fun h=>h.IsItemsView v d
def WC (H:Hp):List (Addr×Zl×V)→Hp
 | []=>H
 | (a,k,v)::r=>upd (WC H r) a (.tup [kV k,v])
theorem UL {H:Hp}{b:Addr}:∀{l:List (Addr×Zl×V)},b ∉ l.map (·.1)→WC H l b=H b
 | [],_=>rfl
 | (a,k,v)::r,h=>by
   rw [List.map_cons,List.mem_cons,not_or] at h
   show upd (WC H r) a _ b=_
   rw [Zg h.1];exact UL h.2
theorem ZbY {H:Hp}{a:Addr}{k:Zl}{v:V}:∀{l:List (Addr×Zl×V)},(l.map (·.1)).Nodup→(a,k,v)∈l→WC H l a=some (.tup [kV k,v])
 | (b,k',v')::r,hn,hm=>by
   rw [List.map_cons,List.nodup_cons] at hn
   show upd (WC H r) b _ a=_
   rcases List.mem_cons.mp hm with e | hm
   · cases e;exact Zc
   · rw [Zg (fun z:a=b=>hn.1 (by show b∈_;rw [← z];exact List.mem_map.mpr ⟨_,hm,rfl⟩))]
     exact ZbY hn.2 hm
theorem ZiD {kvs:List (Zl×V)}{vs:List (Zl×Value)}(r:KV kvs vs):∀{j:Nat}{k:Zl}{x:Value},vs[j]?=some (k,x)→∃ v,kvs[j]?=some (k,v)∧RelV v x:=by
 induction r with
 | nil=>intro j k x e;simp at e
 | cons h t ih =>
   intro j k x e
   cases j with
   | zero =>
     cases (show some _=some (k,x) from e)
     rename_i a _ _
     refine ⟨a.2,?_,h.2⟩
     have e1:a.1=k:=h.1
     show some a=some (k,a.2)
     rw [← e1]
   | succ j=>exact ih (by simpa using e)
section
variable {X:Cx}
theorem Zfe:MtR X "dict.items" (fun x xs H Q=>∃ d kvs,x=.ref d∧xs=[]∧H d=some (.dK kvs)∧∀ v,H v=none→Q (.ref v) (upd H v (.ext (Vu v d)))):=by
 intro pins s σ H x xs v us Q I rx rv h
 obtain ⟨d,kvs,rfl,rfl,e,q⟩:=h
 cases rx
 cases rv
 obtain ⟨hz,lo,vs,kv,hd⟩:=ZaF I.hok e
 refine call_meetsIn PySem.F.slot_dict_items hd.typeIs PySem.F.entry_dict_items (PySem.F.args_dict_items_1 _) (meets_dict_items (Zx X.prog X.w) d lo) ⟨⟨vs,hd⟩,?_⟩
 refine ⟨.ref s.heap.objs.size,_,I.laid (t':=s.toks) (fun b o y=>Heap.get?_push_of_some _ y) (Nat.le_refl _) (show ObjOk X.prog X.w _ _ _ (.ext (Vu s.heap.objs.size d)) from ⟨⟨_,Heap.get?_push_size _ rfl,rfl,rfl⟩,⟨_,Heap.get?_push_size _ rfl⟩,?_⟩),rfl,q _ (I.hok.fresh (Nat.le_refl _))⟩
 rintro h1 h2 ⟨o,eo,r⟩ k
 exact ⟨o,k _ eo,r⟩
theorem Vg (hc:X.calm=true):Ys X (.type "list") (fun xs H Q=>∃ v d kvs,xs=[.ref v]∧H v=some (.ext (Vu v d))∧H d=some (.dK kvs) ∧
   ∀ (l:Addr) (ts:List Addr) (H2:Hp),H l=none→Same H H2→ts.length=kvs.length→(∀ a∈ts,H a=none)→(∀ (i:Nat) (a:Addr) (p:Zl×V),ts[i]?=some a→kvs[i]?=some p→H2 a=some (.tup [kV p.1,p.2]))→H2 l=some (.lst (ts.map V.ref))→Q (.ref l) H2):=by
 intro pins s σ H xs us Q I r h
 obtain ⟨v,d,kvs,rfl,ev,ed,q⟩:=h
 obtain ⟨u,rfl,ru⟩:=Yu r
 cases ru
 obtain ⟨hz,lo,vs,kv,o,es,ep,ho,r1,r2,r3,r4,r5⟩:=ZaF I.hok ed
 have hlen:vs.length=kvs.length:=(Paired.length kv).symm
 refine kdx_call (knd:=Zx X.prog X.w) (kvs:=vs) (ep:=ep) (I.ok.hd hc) (I.hok v _ ev).1 ⟨o,es,ho,r1,r2,r3,r4,r5⟩ (by rw [hlen];exact hz) fun h' tk acc c as hk hS hl hG hacc=>?_
 have hl2:as.length=kvs.length:=by rw [hl,hlen]
 have hnd:as.Nodup:=hG.rise.imp fun h=>Nat.ne_of_lt h
 generalize hL:as.zip (kvs.map fun p=>p)=L
 have hm1:L.map (·.1)=as:=by
   rw [← hL,List.map_id']
   exact List.map_fst_zip (by omega)
 have at_j:∀ (j:Nat) (a:Addr) (p:Zl×V),as[j]?=some a→kvs[j]?=some p→(a,p.1,p.2)∈L:=fun j a p e1 e2=>by
   rw [← hL,List.map_id']
   exact List.mem_of_getElem? (i:=j) (by rw [List.getElem?_zip_eq_some];exact ⟨e1,e2⟩)
 have above:∀ a∈as,s.heap.objs.size < a:=hG.above
 have hfr:∀ b,s.heap.objs.size≤b→H b=none:=fun b hb=>I.hok.fresh hb
 have hnl:s.heap.objs.size ∉ L.map (·.1):=fun z=>by rw [hm1] at z;exact absurd (above _ z) (Nat.lt_irrefl _)
 have offA:∀ b,b < s.heap.objs.size→b ∉ L.map (·.1):=fun b hb z=>by rw [hm1] at z;exact absurd (Nat.lt_trans (above _ z) hb) (Nat.lt_irrefl _)
 have key:∀ b,b < s.heap.objs.size→upd (WC H L) s.heap.objs.size (.lst (as.map V.ref)) b=H b:=fun b hb=>by rw [Zg (Nat.ne_of_lt hb),UL (offA b hb)]
 have sm:Same H (upd (WC H L) s.heap.objs.size (.lst (as.map V.ref))):=fun b o e=>by rw [key b (I.hok.lt e)];exact e
 have tup_at:∀ (j:Nat) (a:Addr) (p:Zl×V),as[j]?=some a→kvs[j]?=some p→upd (WC H L) s.heap.objs.size (.lst (as.map V.ref)) a=some (.tup [kV p.1,p.2]):=fun j a p e1 e2=>by
   rw [Zg (Nat.ne_of_gt (above a (List.mem_of_getElem? e1)))]
   exact ZbY (by rw [hm1];exact hnd) (at_j j a p e1 e2)
 have I2:Inv X pins σ (upd (WC H L) s.heap.objs.size (.lst (as.map V.ref))) { s with heap:=h',toks:=tk }:=by
   refine I.many hk sm key fun b o hb e=>?_
   by_cases h0:b=s.heap.objs.size
   · subst h0
     rw [Zc] at e
     cases e
     refine ⟨by rw [List.length_map,hl2];exact hz,acc.toList,c,?_,by rw [Array.toArray_toList];exact hS⟩
     rw [hacc]
     clear hacc hl hG hl2 hnd hL hm1 at_j above hnl offA key sm tup_at
     induction as with
     | nil=>exact .nil
     | cons a r ih=>exact .cons rfl ih
   · rw [Zg h0] at e
     by_cases hm:b∈as
     · obtain ⟨j,hj⟩:=List.mem_iff_getElem?.mp hm
       obtain ⟨keyv,kk,x,e1,e2,e3⟩:=hG.pairs j b hj
       obtain ⟨vv,e4,rel⟩:=ZiD kv e1
       have e5:=tup_at j b (kk,vv) hj e4
       rw [Zg h0,e] at e5
       cases e5
       refine ⟨by show 2≤sizeLine;decide,[keyv,x],.cons ?_ (.cons rel .nil),⟨_,e3,rfl,_,rfl⟩⟩
       rw [ZcM] at e2
       rcases ZP e2 with ⟨i,tt,rfl,rfl⟩ | ⟨y,tt,rfl,rfl⟩
       · exact ⟨tt,rfl⟩
       · exact ⟨tt,rfl⟩
     · rw [UL (by rw [hm1];exact hm),hfr b hb] at e
       cases e
 exact ⟨.ref s.heap.objs.size,_,I2,rfl,q _ as _ (hfr _ (Nat.le_refl _)) sm hl2 (fun a ha=>hfr a (Nat.le_of_lt (above a ha))) tup_at Zc⟩
def Zjf:TE:=fun _ H Q=>∀ p o,H p=none→o.dict=none→Q (.ref p) (upd H p (.frz o (.tup [])))
theorem Zcm {x1:Nat}{pos:Pos}:PE X (.Tuple [] x1 pos) Zjf:=by
 intro pins s σ H Q I hq
 refine wpAny_Tuple_spliced (Zm (Za pos pins s σ H (fun xs H1=>xs=[]∧H1=H) I ⟨rfl,rfl⟩) fun us s1 ⟨xs,H1,I1,r,e1,e2⟩=>?_)
 subst e1 e2
 cases r
 refine ⟨Nat.zero_le _,?_⟩
 have hf:H1 s1.heap.objs.size=none:=I1.hok.fresh (Nat.le_refl _)
 exact ⟨.ref s1.heap.objs.size,_,I1.laid (t':=s1.toks) (o:=.frz _ (.tup [])) (fun b u e=>Heap.get?_push_of_some _ e) (Nat.le_refl _) ⟨Heap.get?_push_size _ rfl,Nat.zero_le _,[],.nil,⟨_,Heap.get?_push_size _ rfl,rfl,_,rfl⟩⟩,rfl,hq _ _ hf rfl⟩
end
end L2
set_option maxHeartbeats 2000000
namespace L2
open PySem PySem.W PySem.Spec PyProof.Rows
structure FunC (K:PySem.W.Frag)(x qual:Str)(st:Stmt)(f:Addr)(fd:FuncData)(c Pl:Addr):Prop where
 ex:∃ (oc:Value) (od:Option Addr) (kV doc pm:Value) (an:Option Addr) (ct:Value) (osl:Array (Option Value)),
   fd=PySem.W.fnOf x qual (Uj st) (YS st) (Zk st) .none kV doc pm an (.ref c) ct∧K.lookup f=some ⟨oc,od,.func fd,osl⟩∧PySem.W.codeIn K (.ref c) qual=true
 kp:PySem.W.keepIn K (.ref f)=true
 hd:codeHdIn K c Pl=true
section
variable {P:Program}{w:World}{K:PySem.W.Frag}{mg:Str→Option Value}{base:Heap}
theorem FunC.ok {x qual:Str}{st:Stmt}{f c Pl:Addr}{fd:FuncData}{N ps:List Str}{k:Nat}{sp:Sp}(F:FunC K x qual st f fd c Pl)(S:Zs N ps (Zk st))(len:∀ vs H Q E,sp vs H Q E→vs.length=ps.length)
   (hbody:∀ (A:Around) (outer:List Env) (s:Shared) (H:Hp) (vs:List V) (Q:VK) (E:XK),Room k (A.deeper (envOfC qual (Zk st) s.heap.objs.size f (.ref c)))→sp vs H Q E →
     ∃ t,PSs (XZ ZG P w K mg base N qual (Zk st) f (.ref c) A outer s H E).nox (YS st) t∧t { nx:=fun _ H'=>Q .non H',rt:=Q } (start N vs) H):FnOk P w K mg base ZG (k+1) f fd ps sp:=by
 obtain ⟨oc,od,kV,doc,pm,an,ct,osl,rfl,lk,hcd⟩:=F.ex
 refine ZcY lk hcd S len fun A outer s H vs Q E hr hsp=>?_
 obtain ⟨t,h,q⟩:=hbody A outer s H vs Q E hr hsp
 exact ⟨t,h.nox,q⟩
theorem FunC.fn {x qual:Str}{st:Stmt}{f c Pl:Addr}{fd:FuncData}(F:FunC K x qual st f fd c Pl):Fun K x qual st f fd:=by
 obtain ⟨oc,od,kV,doc,pm,an,ct,osl,e,lk,hcd⟩:=F.ex
 exact ⟨⟨oc,od,kV,doc,pm,an,.ref c,ct,osl,e,lk,hcd⟩,F.kp⟩
end
theorem ZcO {X:Cx}{st:Stmt}:PS X st (fun _ _ _=>False):=fun _ _ _ _ _ _ h=>h.elim
structure TF (H H':Hp):Prop where
 tup:∀ b xs,H b=some (.tup xs)→H' b=some (.tup xs)
 frz:∀ b o u,H b=some (.frz o u)→H' b=some (.frz o u)
theorem Same.tf {H H':Hp}(h:Same H H'):TF H H':=⟨fun b _ e=>h b _ e,fun b _ _ e=>h b _ e⟩
theorem Grown.tf {Pl:Addr}{H H':Hp}{ps:Array Value}(h:Grown Pl H H')(e:H Pl=some (.tbl ps)):TF H H' :=
 ⟨fun b _ y=>h b _ (fun z=>by rw [z,e] at y;cases y) y,fun b _ _ y=>h b _ (fun z=>by rw [z,e] at y;cases y) y⟩
theorem SqT.tf {K:PySem.W.Frag}{H H':Hp}{a:Addr}{xs:List V}(h:SqT K H a xs)(t:TF H H'):SqT K H' a xs:=by
 rcases h with (h | ⟨o,h⟩) | h
 · exact .inl (.inl (t.tup _ _ h))
 · exact .inl (.inr ⟨o,t.frz _ _ _ h⟩)
 · exact .inr h
inductive Nd where
 | bare
 | leaf (m:Int) (ps:List (Str×V))
 | fork (qs:List Nat)
def Nd.parts:Nd→List Nat
 | .fork qs=>qs
 | _=>[]
def Nd.pairs:Nd→List (Str×V)
 | .leaf _ ps=>ps
 | _=>[]
def PairT (H:Hp)(ts:List Addr)(ps:List (Str×V)):Prop:=ts.length=ps.length∧∀(i:Nat)(a:Addr)(p:Str×V),ts[i]?=some a→ps[i]?=some p→H a=some (.tup [.str p.1,p.2])
def PairsAt (H:Hp)(t:Addr)(ps:List (Str×V)):Prop:=∃ o ts,H t=some (.frz o (.tup (ts.map V.ref)))∧o.dict=none∧PairT H ts ps
def NodeAt (K:PySem.W.Frag)(H:Hp)(a:Addr):Nd→Prop
 | .bare=>SqT K H a [.str "bare"]
 | .leaf m ps=>∃ t,SqT K H a [.str "leaf",.int m,.ref t]∧PairsAt H t ps
 | .fork qs=>∃ t,SqT K H a [.str "fork",.ref t]∧SqT K H t (qs.map fun q:Nat=>V.int (q:Int))∧qs.length=4
theorem PairT.tf {H H':Hp}{ts:List Addr}{ps:List (Str×V)}(h:PairT H ts ps)(t:TF H H'):PairT H' ts ps:=⟨h.1,fun i a p e1 e2=>t.tup _ _ (h.2 i a p e1 e2)⟩
theorem PairsAt.tf {H H':Hp}{t:Addr}{ps:List (Str×V)}(h:PairsAt H t ps)(f:TF H H'):PairsAt H' t ps:=by
 obtain ⟨o,ts,e,d,p⟩:=h
 exact ⟨o,ts,f.frz _ _ _ e,d,p.tf f⟩
theorem NodeAt.tf {K:PySem.W.Frag}{H H':Hp}{a:Addr}{n:Nd}(h:NodeAt K H a n)(f:TF H H'):NodeAt K H' a n:=by
 cases n with
 | bare=>exact SqT.tf h f
 | leaf m ps=>obtain ⟨t,e,p⟩:=h;exact ⟨t,e.tf f,p.tf f⟩
 | fork qs=>obtain ⟨t,e,p,l⟩:=h;exact ⟨t,e.tf f,p.tf f,l⟩
def ZbI (K:PySem.W.Frag):Sp:=fun vs H Q _=>∃(a:Addr)(n:Nd),vs=[.ref a]∧NodeAt K H a n∧∀ t H',Same H H'→SqT K H' t (n.parts.map fun q:Nat=>V.int (q:Int))→Q (.ref t) H'
def ZbR (K:PySem.W.Frag):Sp:=fun vs H Q _=>∃(a:Addr)(n:Nd),vs=[.ref a]∧NodeAt K H a n∧∀ t H',Same H H'→PairsAt H' t n.pairs→Q (.ref t) H'
end L2
set_option maxHeartbeats 1000000
namespace L2
open PySem
def Yw:HO→Bool
 | .tup _=>false
 | .frz _ _=>false
 | .own _=>false
 | .met _ _=>false
 | .rng _ _=>false
 | .ext _=>false
 | _=>true
def Uu (H h:Hp):Hp:=fun b=>match h b with
 | some o=>if Yw o=true then none else H b
 | none=>H b
def one (p:Addr)(o:HO):Hp:=fun b=>if b=p then some o else none
theorem one_some {p b:Addr}{o u:HO}:one p o b=some u↔b=p∧o=u:=by
 unfold one
 by_cases h:b=p
 · rw [if_pos h];exact ⟨fun z=>⟨h,Option.some.inj z⟩,fun z=>by rw [z.2]⟩
 · rw [if_neg h];exact ⟨fun z=>(by cases z),fun z=>absurd z.1 h⟩
abbrev Yh:=Addr→Hp→Prop
abbrev Rs:=List (Addr×Yh)
def Sep:Rs→Hp→Prop
 | [],_=>True
 | (a,R)::Δ,H=>∃ h,Same h H∧R a h∧Sep Δ (Uu H h)
theorem cut_some {H h:Hp}{b:Addr}{o:HO}:Uu H h b=some o↔H b=some o∧∀ u,h b=some u→Yw u=false:=by
 unfold Uu
 cases e:h b with
 | none=>exact ⟨fun z=>⟨z,fun u q=>by cases q⟩,fun z=>z.1⟩
 | some v =>
   cases m:Yw v with
   | true=>show (if Yw v=true then none else H b)=some o↔_;rw [if_pos m];exact ⟨fun z=>(by cases z),fun z=>(by have:=z.2 v rfl;rw [m] at this;cases this)⟩
   | false=>show (if Yw v=true then none else H b)=some o↔_;rw [if_neg (by rw [m];decide)];exact ⟨fun z=>⟨z,fun u q=>(by cases q;exact m)⟩,fun z=>z.1⟩
theorem ZaT {H h:Hp}:Same (Uu H h) H:=fun b o e=>(cut_some.mp e).1
theorem Zbp {H H' h:Hp}(s:Same H H'):Same (Uu H h) (Uu H' h):=fun b o e=>let ⟨x,y⟩:=cut_some.mp e;cut_some.mpr ⟨s _ _ x,y⟩
theorem Sep.mono:∀{Δ:Rs}{H H':Hp},Sep Δ H→Same H H'→Sep Δ H'
 | [],_,_,_,_=>trivial
 | (_,_)::_,_,_,⟨h,l,r,S⟩,s=>⟨h,l.trans s,r,S.mono (Zbp s)⟩
theorem Sep.swap {a b:Addr}{R T:Yh}{Δ:Rs}{H:Hp}(S:Sep ((a,R)::(b,T)::Δ) H):Sep ((b,T)::(a,R)::Δ) H:=by
 obtain ⟨h,l,r,g,m,t,S⟩:=S
 refine ⟨g,m.trans ZaT,t,h,fun c o e=>cut_some.mpr ⟨l _ _ e,fun u q=>?_⟩,r,S.mono fun c o e=>?_⟩
 · obtain ⟨q1,q2⟩:=cut_some.mp (m _ _ q)
   have e2:=l _ _ e
   rw [q1] at e2;cases e2
   exact q2 _ e
 · obtain ⟨e1,e2⟩:=cut_some.mp e
   obtain ⟨e3,e4⟩:=cut_some.mp e1
   exact cut_some.mpr ⟨cut_some.mpr ⟨e3,e2⟩,e4⟩
theorem Sep.tail {a:Addr}{R:Yh}{Δ:Rs}{H:Hp}(S:Sep ((a,R)::Δ) H):Sep Δ H:=by
 obtain ⟨h,l,r,S⟩:=S
 exact S.mono ZaT
class Pull (a:Addr) (Δ:Rs) (R:outParam Yh) (Δ':outParam Rs):Prop where
 out:∀ {H},Sep Δ H→Sep ((a,R)::Δ') H
instance (priority:=1000) Pull.here {a:Addr} {R:Yh} {Δ:Rs}:Pull a ((a,R)::Δ) R Δ:=⟨fun S=>S⟩
instance (priority:=900) Pull.there {a b:Addr} {R T:Yh} {Δ Δ':Rs} [P:Pull a Δ R Δ']:Pull a ((b,T)::Δ) R ((b,T)::Δ') :=
 ⟨fun S=>by
   obtain ⟨h,l,r,S⟩:=S
   exact Sep.swap ⟨h,l,r,P.out S⟩⟩
theorem Sep.pull {Δ Δ':Rs}{H:Hp}{R:Yh}(S:Sep Δ H)(a:Addr)[P:Pull a Δ R Δ']:Sep ((a,R)::Δ') H:=P.out S
theorem Sep.drop {Δ Δ':Rs}{H:Hp}{R:Yh}(S:Sep Δ H)(a:Addr)[P:Pull a Δ R Δ']:Sep Δ' H:=(P.out S).tail
class Up (R:Yh):Prop where
 up:∀ {a:Addr} {H H':Hp},R a H→Same H H'→R a H'
theorem Sep.get {Δ Δ':Rs}{H:Hp}{R:Yh}(S:Sep Δ H)(a:Addr)[P:Pull a Δ R Δ'][U:Up R]:R a H:=by
 obtain ⟨h,l,r,_⟩:=P.out S
 exact U.up r l
def Pt (o:HO):Yh:=fun a h=>h a=some o
abbrev ZK (xs:List V):Yh:=Pt (.lst xs)
abbrev Dic (kv:List (Zl×V)):Yh:=Pt (.dK kv)
instance {o:HO}:Up (Pt o):=⟨fun h s=>s _ _ h⟩
theorem Sep.new {Δ:Rs}{H:Hp}(S:Sep Δ H){p:Addr}(hp:H p=none)(o:HO):Sep ((p,Pt o)::Δ) (upd H p o):=by
 refine ⟨one p o,fun b u e=>?_,one_some.mpr ⟨rfl,rfl⟩,S.mono fun b u e=>?_⟩
 · obtain ⟨rfl,rfl⟩:=one_some.mp e;exact Zc
 · have hb:=Zq e hp
   exact cut_some.mpr ⟨by rw [Zg hb];exact e,fun v q=>absurd (one_some.mp q).1 hb⟩
theorem Sep.made {Δ:Rs}{H H':Hp}(S:Sep Δ H)(s:Same H H'){p:Addr}{o:HO}(hp:H p=none)(e:H' p=some o):Sep ((p,Pt o)::Δ) H':=by
 refine ⟨one p o,fun b u q=>?_,one_some.mpr ⟨rfl,rfl⟩,S.mono fun b u q=>?_⟩
 · obtain ⟨rfl,rfl⟩:=one_some.mp q;exact e
 · have hb:=Zq q hp
   exact cut_some.mpr ⟨s _ _ q,fun v q=>absurd (one_some.mp q).1 hb⟩
theorem Sep.put {Δ Δ':Rs}{H:Hp}{o:HO}(S:Sep Δ H)(a:Addr)(o':HO)[P:Pull a Δ (Pt o) Δ'](m:Yw o=true:=by rfl):Sep ((a,Pt o')::Δ') (upd H a o'):=by
 obtain ⟨h,l,r,S⟩:=P.out S
 refine ⟨one a o',fun b u q=>?_,one_some.mpr ⟨rfl,rfl⟩,S.mono fun b u q=>?_⟩
 · obtain ⟨rfl,rfl⟩:=one_some.mp q;exact Zc
 · obtain ⟨q1,q2⟩:=cut_some.mp q
   have hb:b≠a:=fun z=>by
     have:=q2 o (by rw [z];exact r)
     rw [m] at this;cases this
   exact cut_some.mpr ⟨by rw [Zg hb];exact q1,fun v q=>absurd (one_some.mp q).1 hb⟩
theorem Sep.say {Δ Δ':Rs}{H:Hp}{R:Yh}(S:Sep Δ H)(a:Addr)(T:Yh)[P:Pull a Δ R Δ'](f:∀ h,R a h→T a h):Sep ((a,T)::Δ') H:=by
 obtain ⟨h,l,r,S⟩:=P.out S
 exact ⟨h,l,f h r,S⟩
theorem Sep.call {Δ:Rs}{H H':Hp}{a:Addr}{R T:Yh}{L:List Addr}(S:Sep ((a,R)::Δ) H)(k:∀ b o,b ∉ L→H b=some o→H' b=some o)
   (f:∀ h,Same h H→R a h→(∀ b∈L,∃ o,h b=some o∧Yw o=true)∧∃ h',Same h' H'∧T a h'∧∀ b o,h' b=some o→Yw o=true→b∈L∨H b=none∨∃ u,h b=some u∧Yw u=true):Sep ((a,T)::Δ) H':=by
 obtain ⟨h,l,r,S⟩:=S
 obtain ⟨f1,h',l',t,f2⟩:=f h l r
 refine ⟨h',l',t,S.mono fun b o e=>?_⟩
 obtain ⟨e1,e2⟩:=cut_some.mp e
 have hb:b ∉ L:=fun z=>by
   obtain ⟨u,q1,q2⟩:=f1 b z
   rw [e2 u q1] at q2;cases q2
 refine cut_some.mpr ⟨k b o hb e1,fun u q=>?_⟩
 cases m:Yw u with
 | false=>rfl
 | true =>
   rcases f2 b u q m with z | z | ⟨v,z1,z2⟩
   · exact absurd z hb
   · rw [e1] at z;cases z
   · rw [e2 v z1] at z2;cases z2
abbrev Bx (n:Nat):Yh:=fun a h=>BoxAt h a n
instance {n:Nat}:Up (Bx n):=⟨fun h s=>h.same s⟩
theorem Sep.box {Δ:Rs}{H H':Hp}{p:Addr}{n m:Nat}(S:Sep ((p,Bx n)::Δ) H)(k:Kp p H H')(B:BoxAt H' p m):Sep ((p,Bx m)::Δ) H':=by
 refine S.call (L:=[p]) (fun b o nb e=>k b o (fun z=>nb (by simp [z])) e) fun h l r=>⟨fun b hb=>?_,?_⟩
 · rw [List.mem_singleton.mp hb]
   obtain ⟨x,y,z,e,_⟩:=r
   exact ⟨_,e,rfl⟩
 · obtain ⟨x,y,z,e,w⟩:=B
   refine ⟨one p (.lst [.int x,.int y,.int z]),fun b u q=>?_,⟨x,y,z,one_some.mpr ⟨rfl,rfl⟩,w⟩,fun b o q _=>.inl (by simp [(one_some.mp q).1])⟩
   obtain ⟨rfl,rfl⟩:=one_some.mp q;exact e
def ZbS (M:Int):Sp:=fun vs H Q _=>∃(p:Addr)(n:Nat)(m:Int)(Δ:Rs),vs=[.ref p,.int m]∧Sep ((p,Bx n)::Δ) H∧n≤1000000∧0 < m∧m < M∧∀(r:Int)(H':Hp),0≤r→r < m→Sep ((p,Bx (n+1))::Δ) H'→Q (.int r) H'
theorem ZhI {M:Int}{vs:List V}{H:Hp}{Q:VK}{E:XK}(h:ZbS M vs H Q E):Va M vs H Q E:=by
 obtain ⟨p,n,m,Δ,e,S,h1,h2,h3,q⟩:=h
 exact ⟨p,n,m,e,S.get p,h1,h2,h3,fun r H' a b B k=>q r H' a b (S.box k B)⟩
end L2
namespace L2
open PySem
theorem ZcL {x:V}{u:Value}(h:Zdf u=some x):RelV x u:=by
 cases u<;>first | (cases h;exact rfl) | (cases h;exact ⟨_,rfl⟩) | cases h
theorem Uq:∀{xs:List V}{us:List Value},us.map Zdf=xs.map some→Vals xs us
 | [],[],_=>.nil
 | [],_::_,h=>by cases h
 | _::_,[],h=>by cases h
 | x::xs,u::us,h=>by
   rw [List.map_cons,List.map_cons,List.cons.injEq] at h
   exact .cons (ZcL h.1) (Uq h.2)
def Zax (K:PySem.W.Frag)(a:Addr)(vs:List V):Bool:=match K.lookup a with
 | some ⟨.type "tuple",_,.seq its _,_⟩=>decide (its.size≤100000)&&decide (its.toList.map Zdf=vs.map some)
 | _=>false
theorem Zbx {K:PySem.W.Frag}{a:Addr}{vs:List V}(h:Zax K a vs=true)(H:Hp):SqT K H a vs:=by
 unfold Zax at h
 split at h
 · rename_i its n _ hk
   simp only [Bool.and_eq_true,decide_eq_true_eq] at h
   exact .inr ⟨_,its,n,hk,rfl,rfl,Nat.le_trans h.1 (by decide),Uq h.2⟩
 · cases h
end L2
set_option maxHeartbeats 2000000
namespace L2
open PySem
section
variable {X:Cx}{elt iter cnd:Expr}{x:Str}{px pos:Pos}{scope:Scope}{wi:TI}{te:TE}{tc:TT}
end
end L2
set_option maxHeartbeats 2000000
namespace L2
open PySem PySem.Spec PyProof.Rows
def hid2 (N:List Str)(xa xb:Str):List Str:=WS (WS N xa) xb
section
variable {X:Cx}{elt iter tg:Expr}{xa xb:Str}{pos:Pos}{scope:Scope}{wi:TI}{te:TE}{g:TG}
end
end L2
set_option maxHeartbeats 2000000
namespace L2
open PySem PySem.Spec PyProof.Rows
end L2
namespace L2
open PySem
structure Yf (mg:Str→Option Value):Prop where
 len:mg "len"=none
 abs:mg "abs"=none
 int:mg "int"=none
 range:mg "range"=none
 min:mg "min"=none
 max:mg "max"=none
 repr:mg "repr"=none
 enumerate:mg "enumerate"=none
 ord:mg "ord"=none
 list:mg "list"=none
 tuple:mg "tuple"=none
 dict:mg "dict"=none
 sorted:mg "sorted"=none
 sum:mg "sum"=none
 all:mg "all"=none
 any:mg "any"=none
 divmod:mg "divmod"=none
 str:mg "str"=none
 isinstance:mg "isinstance"=none
 set:mg "set"=none
 zip:mg "zip"=none
 reversed:mg "reversed"=none
 bool:mg "bool"=none
abbrev DTk (P:Program)(w:World)(K:PySem.W.Frag)(mg:Str→Option Value)(base:Heap)(k:Nat):Prop:=Def P w K mg base k "_law_take" ["_law_box_here","_law_many"] (ZbS 4611686018427387904)
theorem FnOk.conv {P:Program}{w:World}{K:PySem.W.Frag}{mg:Str→Option Value}{base:Heap}{k:Nat}{f:Addr}{fd:FuncData}{ps:List Str}{sp sp':Sp}(F:FnOk P w K mg base ZG k f fd ps sp)(h:∀ vs H Q E,sp' vs H Q E→sp vs H Q E):FnOk P w K mg base ZG k f fd ps sp' :=
 ⟨fun vs H Q E z=>F.len vs H Q E (h vs H Q E z),fun A outer s H args us vs Q E hr he hb hv z=>F.run A outer s H args us vs Q E hr he hb hv (h vs H Q E z)⟩
theorem Def.conv {P:Program}{w:World}{K:PySem.W.Frag}{mg:Str→Option Value}{base:Heap}{k:Nat}{x:Str}{ps:List Str}{sp sp':Sp}(D:Def P w K mg base k x ps sp)(h:∀ vs H Q E,sp' vs H Q E→sp vs H Q E):Def P w K mg base k x ps sp' :=
 let ⟨f,fd,F,b,kp,m⟩:=D;⟨f,fd,F.conv h,b,kp,m⟩
theorem ZdH {α:Type}{xs:List α}{r:Int}{v:α}(h0:0≤r)(h:xs[r.toNat]?=some v):Yr xs r=some v:=by
 have z:Yr xs ((r.toNat:Nat):Int)=some v:=ZS h
 rwa [show ((r.toNat:Nat):Int)=r by omega] at z
theorem YO {n m:Nat}(h:n≤m)(hm:m≤100000:=by decide):n≤sizeLine:=Nat.le_trans (Nat.le_trans h hm) (by decide)
theorem Zbt {n m:Nat}(h:n≤m)(hm:m≤100000:=by decide):n < sizeLine:=Nat.lt_of_le_of_lt (Nat.le_trans h hm) (by decide)
end L2
set_option maxHeartbeats 2000000
namespace L2
open PySem
def DefM (P:Program)(w:World)(K:PySem.W.Frag)(mg:Str→Option Value)(base:Heap)(k:Nat)(C:Addr)(m:Str)(ps:List Str)(sp:Sp):Prop:=∃ f fd,FnOk P w K mg base ZG k f fd ps sp∧Binds K fd ps []∧VN K C m f
theorem DefM.mono {P:Program}{w:World}{K:PySem.W.Frag}{mg:Str→Option Value}{base:Heap}{j k:Nat}{C:Addr}{m:Str}{ps:List Str}{sp:Sp}(D:DefM P w K mg base j C m ps sp)(h:j≤k):DefM P w K mg base k C m ps sp :=
 let ⟨f,fd,F,b,q⟩:=D;⟨f,fd,F.mono h,b,q⟩
section
variable {X:Cx}{k:Nat}{C:Addr}{m:Str}{ps:List Str}{sp:Sp}{pos apos:Pos}{o e:Expr}{es:List Expr}{ta:TE}{t:TA}
theorem XI {pl:Sem Bool}(D:DefM X.prog X.w X.K X.mg X.base k C m ps sp)(c:Cls X.K C)(hr:Room k X.A)(he:PE X o ta)(ha:PA X (e::es) t)
   (hst:starEach (e::es) X.env=(false,eval e X.env)::starEach es X.env:=by rfl) (hpl:(backTo pos (starEach es X.env)).any (·.1)=false:=by rfl)
   (ht:eval (.Call (.Attribute o m apos) (e::es) [] pos) X.env=(do
     let ov ← eval o X.env
     standAt apos.atName
     let (f,first) ← holding [ov] (getMethod ov m pl)
     callWith pos f first (backTo pos (starEach (e::es) X.env)) (backToKw pos (keywordEach [] X.env))):=by rfl) :
   PE X (.Call (.Attribute o m apos) (e::es) [] pos) (ZaD C m sp [] E0 ta t):=by
 obtain ⟨f,fd,F,b,q⟩:=D
 exact Zgx he c q F hr b .nil Zaw ha hst hpl ht
end
def Kq (S:List Addr)(H H':Hp):Prop:=∀ b o,b ∉ S→H b=some o→H' b=some o
theorem tn:¬ (("nodes":Str)="tables"):=by decide +kernel
def UA (ln dt:Addr):List (Str×V):=YB "tables" (.ref dt) (YB "nodes" (.ref ln) [])
theorem Zbv (ln dt:Addr):(UA ln dt).lookup ("nodes":Str)=some (.ref ln):=by unfold UA;rw [Yk,if_neg tn,Yk,if_pos rfl]
theorem ZiP (ln dt:Addr):(UA ln dt).lookup ("tables":Str)=some (.ref dt):=by unfold UA;rw [Yk,if_pos rfl]
theorem Ui (ln dt:Addr){m:Str}(h1:¬ m="tables")(h2:¬ m="nodes"):(UA ln dt).lookup m=none:=by
 unfold UA
 rw [Yk,if_neg h1,Yk,if_neg h2]
 rfl
structure StoreAt (K:PySem.W.Frag)(C st ln dt:Addr)(H:Hp)(nds:List Nd)(tabs:List (Zl×V)):Prop where
 ob:∃ dx,H st=some (.ins C dx (UA ln dt))
 nl:∃ as:List Addr,H ln=some (.lst (as.map V.ref))∧as.length=nds.length∧∀ (i:Nat) (a:Addr) (n:Nd),as[i]?=some a→nds[i]?=some n→NodeAt K H a n
 tb:H dt=some (.dK tabs)
theorem StoreAt.keep {K:PySem.W.Frag}{C st ln dt:Addr}{H H':Hp}{nds:List Nd}{tabs:List (Zl×V)}(S:StoreAt K C st ln dt H nds tabs)(h:Same H H'):StoreAt K C st ln dt H' nds tabs:=by
 obtain ⟨⟨dx,e⟩,⟨as,e2,l,hn⟩,e3⟩:=S
 exact ⟨⟨dx,h _ _ e⟩,⟨as,h _ _ e2,l,fun i a n x y=>(hn i a n x y).tf h.tf⟩,h _ _ e3⟩
theorem VJ {α:Type}{xs:List α}{r:Int}(h0:0≤r)(h1:r < (xs.length:Int)):∃ v,Yr xs r=some v∧v∈xs:=by
 have hk:r.toNat < xs.length:=by omega
 have z:Yr xs ((r.toNat:Nat):Int)=some xs[r.toNat]:=ZS (List.getElem?_eq_getElem hk)
 have e:((r.toNat:Nat):Int)=r:=by omega
 rw [e] at z
 exact ⟨_,z,List.getElem_mem hk⟩
def Uc:V→Prop
 | .int i=>i.natAbs≤10 ^ 31
 | .str x=>x.length≤41∧x.cps.toList.all WK=true
 | _=>False
def Zav:V→Bool
 | .int i=>decide (i.natAbs≤10 ^ 31)
 | .str x=>decide (x.length≤41)&&x.cps.toList.all WK
 | _=>false
theorem UG {v:V}(h:Zav v=true):Uc v:=by
 cases v with
 | int i=>exact of_decide_eq_true (p:=i.natAbs≤10 ^ 31) h
 | str x =>
   have h':(decide (x.length≤41)&&x.cps.toList.all WK)=true:=h
   simp only [Bool.and_eq_true,decide_eq_true_eq] at h'
   exact h'
 | _=>cases h
def ZbL:Sp:=fun vs H Q _=>∃(p:Addr)(n:Nat),vs=[.ref p]∧BoxAt H p n∧n≤900000∧∀(v:V)(H':Hp),Uc v→BoxAt H' p (n+50)→Kp p H H'→Q v H'
def ZfW:List Stmt→Str
 | .Assign _ (.Constant (.str x) _ _) _::_=>x
 | _::r=>ZfW r
 | []=>Str.empty
def VE (P:Program)(w:World)(K:PySem.W.Frag)(mg:Str→Option Value)(base:Heap)(k:Nat)(C:Addr)(x:Str)(ps:List Str)(sp:Sp):Prop:=∃ f fd,FnOk P w K mg base ZG k f fd ps sp∧Binds K fd ps []∧Mk K C f∧mg x=some (.ref C)
theorem Zat {X:Cx}{k:Nat}{C:Addr}{x:Str}{ps:List Str}{sp:Sp}{p pos:Pos}(D:VE X.prog X.w X.K X.mg X.base k C x ps sp)(hr:Room (k+1) X.A)(hg:Gl X x:=by rfl)(hdb:(x == ("__debug__":Str))=false:=by decide) :
   PE X (.Call (.Name x p) [] [] pos) (Zgf C sp [] E0 We):=by
 obtain ⟨f,fd,F,b,M,m⟩:=D
 exact Zfj M F hr hg m b .nil Zaw hdb
theorem SqL.obj {K:PySem.W.Frag}{H:Hp}{a:Addr}{xs:List V}(h:SqL K H a xs):(∀ H',SqL K H' a xs)∨∃ o,H a=some o∧(∀ tb,o≠.tbl tb)∧∀ H',H' a=some o→SqL K H' a xs:=by
 rcases h with (h | ⟨o,h⟩) | h
 · exact .inr ⟨_,h,(fun tb z=>by cases z),fun H' e=>.inl (.inl e)⟩
 · exact .inr ⟨_,h,(fun tb z=>by cases z),fun H' e=>.inl (.inr ⟨o,e⟩)⟩
 · exact .inl fun H'=>.inr h
theorem Zaa {H H':Hp}{a:Addr}(s:Same H H')(h:H' a=none):H a=none:=by
 cases e:H a with
 | none=>rfl
 | some o=>rw [s _ _ e] at h;cases h
end L2
set_option maxHeartbeats 4000000
namespace K32
open PySem L2
def top (i:Nat):Stmt:=PySem.Challenge.pw_roadsettings_k32_settings_declared.main.body.getD i (.Pass ⟨0,0,0,0⟩)
abbrev c_RoadError___init__:Stmt:=ZD (top 2) 0
abbrev s_mark:Stmt:=top 23
abbrev s_digit:Stmt:=top 24
abbrev s_parts_in:Stmt:=top 31
abbrev s_pairs_in:Stmt:=top 32
abbrev c_Store___init__:Stmt:=ZD (top 39) 0
abbrev c_Store_empty:Stmt:=ZD (top 39) 1
abbrev c_Store_looked:Stmt:=ZD (top 39) 4
abbrev c_Store_way:Stmt:=ZD (top 39) 7
abbrev c_Store_check_table:Stmt:=ZD (top 39) 10
abbrev c_Roads___init__:Stmt:=ZD (top 41) 0
abbrev c_Roads_table:Stmt:=ZD (top 41) 11
abbrev c_Roads_looked:Stmt:=ZD (top 41) 12
abbrev c_Roads_check_place:Stmt:=ZD (top 41) 18
abbrev c_Tokens___init__:Stmt:=ZD (top 43) 0
abbrev c_Hall___init__:Stmt:=ZD (top 45) 0
abbrev c_Hall_declare:Stmt:=ZD (top 45) 1
abbrev c_Hall_settings:Stmt:=ZD (top 45) 2
abbrev c_Hall_place:Stmt:=ZD (top 45) 5
abbrev c_Hall_now:Stmt:=ZD (top 45) 6
abbrev c_Hall_look:Stmt:=ZD (top 45) 16
abbrev c_Hall_look_in:Stmt:=ZD (top 45) 18
abbrev c_Hall_check_world:Stmt:=ZD (top 45) 20
abbrev c_Hall_check_setting:Stmt:=ZD (top 45) 21
abbrev c_Hall_value_in:Stmt:=ZD (top 45) 22
abbrev c_Hall_value_or_default:Stmt:=ZD (top 45) 23
abbrev s_l_cell_at:Stmt:=top 47
abbrev s_l_box:Stmt:=top 48
abbrev s_l_take:Stmt:=top 49
abbrev s_l_names:Stmt:=top 50
abbrev s_l_value:Stmt:=top 51
abbrev s_l_told:Stmt:=top 52
abbrev s_law:Stmt:=top 53
section
variable {P:Program}{w:World}{K:PySem.W.Frag}{mg:Str→Option Value}{base:Heap}
theorem scC:Zs ["_law_script","_law_k"] ["_law_script","_law_k"] (Zk s_l_cell_at):=⟨rfl,rfl,rfl,by decide +kernel,rfl,by decide +kernel,by decide +kernel⟩
theorem ZgY {f:Addr}{fd:FuncData}(F:Fun K "_law_cell_at" "_law_cell_at" s_l_cell_at f fd)(T:Yf mg):FnOk P w K mg base ZG 1 f fd ["_law_script","_law_k"] (ZdQ K):=by
 refine F.ok scC (fun vs H Q E h=>?_) (fun cdv A outer s H vs Q E hr h=>?_)
 · obtain ⟨a,ns,k,rfl,_⟩:=h;rfl
 obtain ⟨a,ns,k,rfl,hS,h0,q⟩:=h
 refine ⟨_,Zh (Yg (ZM Zas (pv 1) (Zn Ye rfl T.len PySem.boot_len (Yd (pv 0) Za)) (ZN _)) (Zj (Zv (ZB ZA (pv 0) (pv 1) (fun _ _=>rfl)))) ZJ)
   (Zj (Zv Ze)),?_⟩
 refine ⟨_,rfl,_,rfl,a,_,rfl,.inl hS,_,_,rfl,rfl,_,rfl,?_⟩
 refine Xa (fun c=>?_) (fun c=>?_)
 · have c':k < (((ns.map V.int).length:Nat):Int):=of_decide_eq_true c
   rw [List.length_map] at c'
   have hk:k.toNat < ns.length:=by omega
   have ek:k=((k.toNat:Nat):Int):=by omega
   have hat:Yr (ns.map V.int) k=some (.int ns[k.toNat]):=by
     have z:Yr (ns.map V.int) ((k.toNat:Nat):Int)=some (.int ns[k.toNat]):=ZS (by rw [List.getElem?_map,List.getElem?_eq_getElem hk];rfl)
     rwa [← ek] at z
   exact ⟨_,rfl,_,rfl,a,_,_,_,rfl,rfl,hS,hat,q _⟩
 · exact q 0
theorem scB:Zs ["_law_script","_law_k","_law_cell"] ["_law_script","_law_k"] (Zk s_l_box):=⟨rfl,rfl,rfl,by decide +kernel,rfl,by decide +kernel,by decide +kernel⟩
theorem ZiA {f:Addr}{fd:FuncData}(F:Fun K "_law_box" "_law_box" s_l_box f fd)(T:Yf mg)(D:Def P w K mg base 1 "_law_cell_at" ["_law_script","_law_k"] (ZdQ K)):FnOk P w K mg base ZG 2 f fd ["_law_script","_law_k"] (ZfZ K):=by
 refine F.ok scB (fun vs H Q E h=>?_) (fun cdv A outer s H vs Q E hr h=>?_)
 · obtain ⟨a,ns,k,rfl,_⟩:=h;rfl
 obtain ⟨a,ns,k,rfl,hS,h0,h1,q⟩:=h
 refine ⟨_,Zh (Zw (i:=2) scB.nd rfl (Or.inl rfl) (ZV D hr (Yd (pv 0) (Yd (pv 1) Za))))
   (Zj (Zv (ZF (Yd (Zr Xr (Zn ZaU rfl T.abs (by decide +kernel) (Yd (pv 2) Za)) (XV VS rfl T.int (by decide +kernel) (Yd (VA ZjN (Zn ZaU rfl T.abs (by decide +kernel) (Yd (pv 2) Za)) (Zr Ve Ze Ze) (ZN _)) Za)))
     (Yd (Zr Yn (Zr Yn (Zr Xc (pv 2) Ze) (Zr Xr Ze (pv 1))) Ze) (Yd Ze Za)))))),?_⟩
 refine ⟨_,rfl,_,rfl,a,ns,k,rfl,hS,h0,fun r=>?_⟩
 refine ⟨_,rfl,_,rfl,⟨_,rfl,_,rfl,_,_,rfl,rfl,⟨by decide,by decide,by decide⟩,_,_,rfl,rfl,.inr ⟨_,rfl,?_⟩⟩⟩
 generalize hb:decide ((10:Int) ^ (Int.toNat 18)≤(if r < 0 then -r else r))=bb
 refine ⟨_,_,rfl,rfl,.inr (by cases bb<;>exact ⟨by decide,by decide⟩),_,rfl,_,_,rfl,rfl,(by show (0:Int) < _;decide),_,rfl,_,_,rfl,rfl,.inl ⟨by decide,by decide⟩,_,_,rfl,rfl,_,_,rfl,rfl,(by show 3≤sizeLine;decide),fun p hp=>?_⟩
 refine q p _ hp ⟨_,_,0,Zc,?_,by decide,by decide⟩ (Zf hp _)
 cases bb
 · simp
 · simp only [if_true,Int.mul_one];split<;>omega
theorem scT:Zs ["_law_box_here","_law_many","_law_found","_law_once","_law_twice"] ["_law_box_here","_law_many"] (Zk s_l_take):=⟨rfl,rfl,rfl,by decide +kernel,rfl,by decide +kernel,by decide +kernel⟩
theorem Zhi {f:Addr}{fd:FuncData}(F:Fun K "_law_take" "_law_take" s_l_take f fd):FnOk P w K mg base ZG 1 f fd ["_law_box_here","_law_many"] (Va 4611686018427387904):=by
 refine F.ok scT (fun vs H Q E h=>?_) (fun cdv A outer s H vs Q E hr h=>?_)
 · obtain ⟨p,n,m,rfl,_⟩:=h;rfl
 obtain ⟨p,n,m,rfl,⟨a,b,c,hp,ha,hc,hcn⟩,hn,hm0,hmM,q⟩:=h
 refine ⟨_,Zh (Yg (ZM Zju (ZB ZA (pv 0) Ze (fun _ _=>rfl)) Ze (ZN _))
     (Zh (Zw (i:=2) scT.nd rfl (Or.inl rfl) (Zr Xc (ZB ZA (pv 0) Ze (fun _ _=>rfl)) (pv 1)))
       (Zh (Wq (Zr Zfu (ZB ZA (pv 0) Ze (fun _ _=>rfl)) (pv 1)) (Zef (pv 0) Ze Zbn)) (Zj (Zv (pv 2))))) ZJ)
   (Zh (Wq (Zr Yn (ZB ZA (pv 0) Ze (fun _ _=>rfl)) Ze) (Zef (pv 0) Ze Zbn))
   (Zh (Zw (i:=3) scT.nd rfl (Or.inl rfl) (Zr Xc (Zr Xr (Zr Yn (ZB ZA (pv 0) Ze (fun _ _=>rfl)) (Zr Xr Ze (ZB ZA (pv 0) Ze (fun _ _=>rfl)))) (Zr Yn Ze (ZB ZA (pv 0) Ze (fun _ _=>rfl)))) Ze))
   (Zh (Zw (i:=4) scT.nd rfl (Or.inl rfl) (Zr Xc (Zr Xr (Zr Yn (pv 3) (ZB ZA (pv 0) Ze (fun _ _=>rfl))) (Zr Yn (Zr Xc (pv 3) Ze) Ze)) Ze))
   (Zj (Zv (Zr Xc (Zr ZbU (Zr Xc (Zr Yn (Zr Xr (pv 4) Ze) (pv 3)) Ze) Ze) (pv 1))))))),?_⟩
 refine ⟨_,rfl,p,_,_,_,rfl,rfl,SqL.of hp,rfl,_,_,rfl,rfl,_,rfl,?_⟩
 refine Xa (fun c'=>?_) (fun c'=>?_)
 · have h0:0 < a:=of_decide_eq_true c'
   refine ⟨_,rfl,p,_,_,_,rfl,rfl,SqL.of hp,rfl,_,rfl,_,_,rfl,rfl,hm0,?_⟩
   refine ⟨_,rfl,p,_,_,_,rfl,rfl,SqL.of hp,rfl,_,rfl,_,_,rfl,rfl,⟨hm0,by have h4:m < 4611686018427387904:=hmM;omega⟩,?_⟩
   refine ⟨_,rfl,p,_,_,_,rfl,rfl,hp,rfl,?_⟩
   refine ⟨_,rfl,?_⟩
   exact q _ _ (Int.emod_nonneg _ (by omega)) (Int.emod_lt_of_pos _ hm0) ⟨a / m,b,c,Zc,Int.ediv_nonneg ha (by omega),hc,by omega⟩ (Kp.upd _ _ _)
 · refine ⟨_,rfl,p,_,_,_,rfl,rfl,SqL.of hp,rfl,_,_,rfl,rfl,?_⟩
   refine ⟨_,rfl,p,_,_,_,rfl,rfl,hp,rfl,?_⟩
   have hp1:upd H p (.lst [.int a,.int b,.int (c+1)]) p=some (.lst [.int a,.int b,.int (c+1)]):=Zc
   refine ⟨_,rfl,p,_,_,_,rfl,rfl,SqL.of hp1,rfl,_,rfl,p,_,_,_,rfl,rfl,SqL.of hp1,rfl,_,_,rfl,rfl,.inl ⟨by decide,by decide⟩,_,_,rfl,rfl,_,rfl,p,_,_,_,rfl,rfl,SqL.of hp1,rfl,_,_,rfl,rfl,_,_,rfl,rfl,.inr ⟨by omega,by omega⟩,_,_,rfl,rfl,(by show (0:Int) < _;decide),?_⟩
   generalize hO:((b+48271 * (c+1)) * (39373+(c+1))) % 2147483647=once
   have hO0:0≤once:=by rw [← hO];exact Int.emod_nonneg _ (by decide)
   refine ⟨_,rfl,_,rfl,p,_,_,_,rfl,rfl,SqL.of hp1,rfl,_,_,rfl,rfl,_,rfl,_,_,rfl,rfl,(by show (0:Int) < _;decide),_,_,rfl,rfl,_,_,rfl,rfl,.inr ?_,_,_,rfl,rfl,(by show (0:Int) < _;decide),?_⟩
   · have:=Int.emod_nonneg once (show (40009:Int)≠0 by decide)
     have:=Int.emod_lt_of_pos once (show (0:Int) < 40009 by decide)
     exact ⟨by omega,by omega⟩
   generalize hW:((once+(c+1)) * (once % 40009+7)) % 2147483629=twice
   refine ⟨_,rfl,_,_,rfl,rfl,.inr ⟨by decide,by decide⟩,_,rfl,_,_,rfl,rfl,_,_,rfl,rfl,(by show (0:Int) < _;decide),_,_,rfl,rfl,⟨by decide,by decide⟩,_,rfl,_,_,rfl,rfl,hm0,?_⟩
   exact q _ _ (Int.emod_nonneg _ (by omega)) (Int.emod_lt_of_pos _ hm0) ⟨a,b,c+1,hp1,ha,by omega,by omega⟩ (Kp.upd _ _ _)
end
structure Txt (K:PySem.W.Frag)(mg:Str→Option Value):Prop extends Yf mg where
 base:∃ t,mg "BASE"=some (.int 4 t)
 zero:∃ t,mg "BARE_NUMBER"=some (.int 0 t)
 bare:∃ a,mg "BARE"=some (.ref a)∧∀ H,SqT K H a [.str "bare"]
 figs:∃ a,mg "FIGURES"=some (.ref a)∧∀ H,SqT K H a [.int 0,.int 1,.int 2,.int 3]
section
variable {P:Program}{w:World}{K:PySem.W.Frag}{mg:Str→Option Value}{base:Heap}
def Xk (l:List Nat):Nat→Int
 | 0=>0
 | i+1=>Xk l i+((i:Int)+1) * (((l.getD i 0:Nat):Int) - 97+1)
def Zek:Sp:=fun vs H Q _=>∃ x:Str,vs=[.str x]∧x.length≤1000∧∀ H',Same H H'→Q (.int (Xk x.cps.toList x.length)) H'
def ZbX:Sp:=fun vs H Q _=>∃(n:Int)(k:Nat),vs=[.int n,.int k]∧0≤n∧k≤1000∧Q (.int (n / 4 ^ k % 4)) H
theorem oa:(Str.ofString "a").cps.getD 0 0=97:=by decide +kernel
theorem scM:Zs ["name","total","place","letter"] ["name"] (Zk s_mark):=⟨rfl,rfl,rfl,by decide +kernel,rfl,by decide +kernel,by decide +kernel⟩
theorem ZgH {f:Addr}{fd:FuncData}(F:Fun K "mark" "mark" s_mark f fd)(T:Txt K mg):FnOk P w K mg base ZG 1 f fd ["name"] Zek:=by
 refine F.ok scM (fun vs H Q E h=>?_) (fun cdv A outer s H vs Q E hr h=>?_)
 · obtain ⟨x,rfl,_⟩:=h;rfl
 obtain ⟨x,rfl,hx,q⟩:=h
 refine' ⟨?t,?h,?r⟩
 case h =>
   conv=>arg 2;whnf
   with_reducible refine' Zh ?a1 (Zh ?a2 (Zj ?a3))
   case a1=>exact Zw (i:=1) scM.nd rfl (Or.inl rfl) Ze
   case a2=>exact Wh PassesOwn.never rfl (ZeK rfl T.enumerate (pv 0)) (Wl rfl (ZW (ZL (i:=2) scM.nd rfl (Or.inl rfl)) (ZW (ZL (i:=3) scM.nd rfl (Or.inl rfl)) Xz))) (Zj (Zhy (i:=1) scM.nd rfl (Or.inl rfl) (Zr Xr (pv 2) (Zr Yn (Zr XQ (Zn Zbz rfl T.ord (by decide +kernel) (Zd (pv 3) Za)) (Zn Zbz rfl T.ord (by decide +kernel) (Zd Zz Za))) Ze)) ZhU))
   case a3=>exact Zv (pv 1)
 refine ⟨_,rfl,x,rfl,?_⟩
 refine Zfr (fun i σ H'=>∃ y2 y3,σ=[some (.str x),some (.int (Xk x.cps.toList i)),y2,y3]∧Same H H'∧i≤x.cps.size) ⟨_,_,rfl,Same.refl H,Nat.zero_le _⟩ ?_ ?_
 · rintro i c t σ H1 hc ht ⟨y2,y3,rfl,s1,hi⟩
   have hi':i < x.cps.size:=(Array.getElem?_eq_some_iff.mp hc).1
   have hz:x.cps.size≤1000:=hx
   refine ⟨t,_,rfl,SqT.of Zc,rfl,_,_,rfl,_,_,rfl,rfl,?_⟩
   refine ⟨_,rfl,_,rfl,_,rfl,_,rfl,rfl,_,rfl,rfl,_,_,rfl,rfl,_,_,rfl,rfl,_,_,rfl,rfl,.inl ⟨by omega,by omega⟩,_,_,rfl,rfl,?_⟩
   have e:Xk x.cps.toList (i+1)=Xk x.cps.toList i+((i:Int)+1) * ((((⟨#[c]⟩:Str).cps.getD 0 0:Nat):Int) - (((Str.ofString "a").cps.getD 0 0:Nat):Int)+1):=by
     rw [oa]
     show Xk x.cps.toList i+((i:Int)+1) * (((x.cps.toList.getD i 0:Nat):Int) - 97+1)=Xk x.cps.toList i+((i:Int)+1) * ((c:Int) - 97+1)
     have e1:x.cps.toList.getD i 0=c:=by rw [List.getD_eq_getElem?_getD,Array.getElem?_toList,hc];rfl
     rw [e1]
   exact ⟨some (.int ((i:Int)+1)),some (.str ⟨#[c]⟩),by rw [e];rfl,s1.trans (Zf ht _),hi'⟩
 · rintro σ H1 ⟨y2,y3,rfl,s1,_⟩
   exact ⟨_,rfl,q H1 s1⟩
theorem scDg:Zs ["number","level","below"] ["number","level"] (Zk s_digit):=⟨rfl,rfl,rfl,by decide +kernel,rfl,by decide +kernel,by decide +kernel⟩
theorem Zfp {f:Addr}{fd:FuncData}(F:Fun K "digit" "digit" s_digit f fd)(T:Txt K mg):FnOk P w K mg base ZG 1 f fd ["number","level"] ZbX:=by
 refine F.ok scDg (fun vs H Q E h=>?_) (fun cdv A outer s H vs Q E hr h=>?_)
 · obtain ⟨n,k,rfl,_⟩:=h;rfl
 obtain ⟨n,k,rfl,hn,hk,q⟩:=h
 obtain ⟨tb,hb⟩:=T.base
 refine' ⟨?t,?h,?r⟩
 case h =>
   conv=>arg 2;whnf
   with_reducible refine' Zh ?a1 (Zj ?a2)
   case a1=>exact Wh PassesOwn.never rfl (YT rfl T.range (Zd (pv 1) Za)) (ZL (i:=2) scDg.nd rfl (Or.inl rfl)) (Zj (Zw (i:=0) scDg.nd rfl (Or.inl rfl) (Zr ZbU (pv 0) (ZC rfl hb (v:=.int 4) ⟨_,rfl⟩))))
   case a2=>exact Zv (Zr Xc (pv 0) (ZC rfl hb (v:=.int 4) ⟨_,rfl⟩))
 refine ⟨_,rfl,k,rfl,by omega,by omega,?_⟩
 have ek:(k:Int).toNat=k:=by omega
 rw [ek]
 refine XT (fun i σ H'=>∃ y,σ=[some (.int (n / 4 ^ i)),some (.int k),y]∧H'=H) ⟨_,by rw [Int.pow_zero,Int.ediv_one];rfl,rfl⟩ ?_ ?_
 · rintro i σ H1 hi ⟨y,rfl,rfl⟩
   have e:n / 4 ^ (i+1)=n / 4 ^ i / 4:=by rw [Int.pow_succ,← Int.ediv_ediv_of_nonneg (Int.pow_nonneg (by decide))]
   exact ⟨_,rfl,_,_,rfl,rfl,⟨by decide,by decide⟩,some (.int (0+(i:Int))),by rw [e];rfl,rfl⟩
 · rintro σ H1 ⟨y,rfl,rfl⟩
   exact ⟨_,rfl,_,_,rfl,rfl,(by show (0:Int) < 4;decide),q⟩
theorem nbf:decide (V.str (Str.ofString "bare")=V.str (Str.ofString "fork"))=false:=by decide +kernel
theorem nlf:decide (V.str (Str.ofString "leaf")=V.str (Str.ofString "fork"))=false:=by decide +kernel
theorem nbl:decide (V.str (Str.ofString "bare")=V.str (Str.ofString "leaf"))=false:=by decide +kernel
theorem nfl:decide (V.str (Str.ofString "fork")=V.str (Str.ofString "leaf"))=false:=by decide +kernel
theorem scPi:Zs ["node"] ["node"] (Zk s_parts_in):=⟨rfl,rfl,rfl,by decide +kernel,rfl,by decide +kernel,by decide +kernel⟩
theorem Zfs {f:Addr}{fd:FuncData}(F:Fun K "parts_in" "parts_in" s_parts_in f fd):FnOk P w K mg base ZG 1 f fd ["node"] (ZbI K):=by
 refine F.ok scPi (fun vs H Q E h=>?_) (fun cdv A outer s H vs Q E hr h=>?_)
 · obtain ⟨a,n,rfl,_⟩:=h;rfl
 obtain ⟨a,n,rfl,hn,q⟩:=h
 refine ⟨_,Zj (Zv (Ym (ZM Xx (ZB Wg (pv 0) Ze (fun _ _=>rfl)) Zz (ZN _)) (ZB Wg (pv 0) Ze (fun _ _=>rfl)) Zcm)),?_⟩
 cases n with
 | bare =>
   refine ⟨_,rfl,a,_,_,_,rfl,rfl,hn,rfl,rfl,_,rfl,?_⟩
   rw [nbf]
   exact Yo fun p o hp hd=>q p _ (Zf hp _) (.inl (.inr ⟨o,Zc⟩))
 | leaf m ps =>
   obtain ⟨t,e,_⟩:=hn
   refine ⟨_,rfl,a,_,_,_,rfl,rfl,e,rfl,rfl,_,rfl,?_⟩
   rw [nlf]
   exact Yo fun p o hp hd=>q p _ (Zf hp _) (.inl (.inr ⟨o,Zc⟩))
 | fork qs =>
   obtain ⟨t,e,e2,_⟩:=hn
   refine ⟨_,rfl,a,_,_,_,rfl,rfl,e,rfl,rfl,_,rfl,?_⟩
   rw [decide_eq_true rfl]
   exact Wx ⟨_,rfl,a,_,_,_,rfl,rfl,e,rfl,q t H (Same.refl H) e2⟩
theorem scPr:Zs ["node"] ["node"] (Zk s_pairs_in):=⟨rfl,rfl,rfl,by decide +kernel,rfl,by decide +kernel,by decide +kernel⟩
theorem ZeX {f:Addr}{fd:FuncData}(F:Fun K "pairs_in" "pairs_in" s_pairs_in f fd):FnOk P w K mg base ZG 1 f fd ["node"] (ZbR K):=by
 refine F.ok scPr (fun vs H Q E h=>?_) (fun cdv A outer s H vs Q E hr h=>?_)
 · obtain ⟨a,n,rfl,_⟩:=h;rfl
 obtain ⟨a,n,rfl,hn,q⟩:=h
 refine ⟨_,Zj (Zv (Ym (ZM Xx (ZB Wg (pv 0) Ze (fun _ _=>rfl)) Zz (ZN _)) (ZB Wg (pv 0) Ze (fun _ _=>rfl)) Zcm)),?_⟩
 have nil:∀ p o,H p=none→o.dict=none→PairsAt (upd H p (.frz o (.tup []))) p []:=fun p o hp hd=>⟨o,[],Zc,hd,rfl,fun i a p e=>by simp at e⟩
 cases n with
 | bare =>
   refine ⟨_,rfl,a,_,_,_,rfl,rfl,hn,rfl,rfl,_,rfl,?_⟩
   rw [nbl]
   exact Yo fun p o hp hd=>q p _ (Zf hp _) (nil p o hp hd)
 | fork qs =>
   obtain ⟨t,e,_⟩:=hn
   refine ⟨_,rfl,a,_,_,_,rfl,rfl,e,rfl,rfl,_,rfl,?_⟩
   rw [nfl]
   exact Yo fun p o hp hd=>q p _ (Zf hp _) (nil p o hp hd)
 | leaf m ps =>
   obtain ⟨t,e,e2⟩:=hn
   refine ⟨_,rfl,a,_,_,_,rfl,rfl,e,rfl,rfl,_,rfl,?_⟩
   rw [decide_eq_true rfl]
   exact Wx ⟨_,rfl,a,_,_,_,rfl,rfl,e,rfl,q t H (Same.refl H) e2⟩
def Yy (x:Str):Int:=Xk x.cps.toList x.length
theorem LamAt.same {H H':Hp}{Pl:Addr}{lpos:Pos}{q:Str}(h:LamAt H Pl lpos q)(s:Same H H'):LamAt H' Pl lpos q:=by
 rcases h with h | ⟨c,h,h2⟩
 · exact .inl (s _ _ h)
 · exact .inr ⟨c,s _ _ h,s _ _ h2⟩
end
end K32
set_option maxHeartbeats 4000000
namespace K32
open PySem L2
structure UD (K:PySem.W.Frag)(C:Addr):Prop where
 cl:Cls K C
 nN:NoAttr K C "nodes"
 nT:NoAttr K C "tables"
section
variable {P:Program}{w:World}{K:PySem.W.Frag}{mg:Str→Option Value}{base:Heap}{C:Addr}
def ZdO (K:PySem.W.Frag)(C:Addr):Sp:=fun vs H Q _=>∃(p dx:Addr),vs=[.ref p]∧H p=some (.ins C dx [])∧∀(ln dt:Addr)(H':Hp),H ln=none→H dt=none→StoreAt K C p ln dt H' [.bare] [(Sum.inl 0,.bl true)]→Kq [p] H H'→Q .non H'
theorem scIn:Zs ["self"] ["self"] (Zk c_Store___init__):=⟨rfl,rfl,rfl,by decide +kernel,rfl,by decide +kernel,by decide +kernel⟩
theorem ZgA {f:Addr}{fd:FuncData}(F:Fun K "__init__" "Store.__init__" c_Store___init__ f fd)(T:Txt K mg)(TC:UD K C):FnOk P w K mg base ZG 1 f fd ["self"] (ZdO K C):=by
 refine F.ok scIn (fun vs H Q E h=>?_) (fun cdv A outer s H vs Q E hr h=>?_)
 · obtain ⟨p,dx,rfl,_⟩:=h;rfl
 obtain ⟨p,dx,rfl,hp,q⟩:=h
 obtain ⟨ab,hb,hbt⟩:=T.bare
 obtain ⟨tz,hz⟩:=T.zero
 refine ⟨_,Zh (Yj (pv 0) (ZF (Zd (ZC rfl hb (v:=.ref ab) rfl) Za)) rfl) (Zj (Yj (pv 0) (Zgm (Zfc (ZC rfl hz (v:=.int 0) ⟨_,rfl⟩) Xm Zgo) rfl rfl (by simp) (by decide)) rfl)),?_⟩
 refine ⟨(by show 1≤sizeLine;decide),fun ln hln=>?_⟩
 have npl:p≠ln:=Zq hp hln
 refine ⟨_,rfl,p,C,dx,[],rfl,(by rw [Zg npl];exact hp),TC.cl,TC.nN,(by show 0 < 1000;decide),?_⟩
 intro dt hdt
 have npd:p≠dt:=fun z=>by rw [← z,Zc] at hdt;cases hdt
 have nld:ln≠dt:=fun z=>by rw [← z,Zg npl.symm,Zc] at hdt;cases hdt
 have hdt0:H dt=none:=by rw [Zg npd.symm,Zg nld.symm] at hdt;exact hdt
 refine ⟨Zc,[(Sum.inl 0,.bl true)],rfl,by decide,_,rfl,p,C,dx,_,rfl,(by rw [Zg npd,Zg npd,Zc]),TC.cl,TC.nT,(by show 1 < 1000;decide),?_⟩
 refine q ln dt _ hln hdt0 ⟨⟨dx,Zc⟩,⟨[ab],?_,rfl,fun i a n e1 e2=>?_⟩,?_⟩ fun b o nb e=>?_
 · rw [Zg npl.symm,Zg nld,Zg nld,Zg npl.symm,Zc];rfl
 · cases i with
   | zero =>
     cases (show some ab=some a from e1)
     cases (show some Nd.bare=some n from e2)
     exact hbt _
   | succ i=>simp at e1
 · rw [Zg npd.symm,Zc];rfl
 · have nb':b≠p:=fun z=>nb (by simp [z])
   rw [Zg nb',Zg (Zq e hdt0),Zg (Zq e hdt0),Zg nb',Zg (Zq e hln)];exact e
def Zcl (K:PySem.W.Frag)(C:Addr):Sp:=fun vs H Q _=>∃(st ln dt:Addr)(nds:List Nd)(tabs:List (Zl×V))(n:Int),vs=[.ref st,.int n]∧StoreAt K C st ln dt H nds tabs∧(ZE tabs (Sum.inl n)).isSome=true∧Q .non H
theorem scCk:Zs ["self","table"] ["self","table"] (Zk c_Store_check_table):=⟨rfl,rfl,rfl,by decide +kernel,rfl,by decide +kernel,by decide +kernel⟩
theorem ZeU {f:Addr}{fd:FuncData}(F:Fun K "check_table" "Store.check_table" c_Store_check_table f fd)(TC:UD K C):FnOk P w K mg base ZG 1 f fd ["self","table"] (Zcl K C):=by
 refine F.ok scCk (fun vs H Q E h=>?_) (fun cdv A outer s H vs Q E hr h=>?_)
 · obtain ⟨st,ln,dt,nds,tabs,n,rfl,_⟩:=h;rfl
 obtain ⟨st,ln,dt,nds,tabs,n,rfl,⟨⟨dx,ob⟩,⟨as,nl,hl,hn⟩,tb⟩,hs,q⟩:=h
 refine ⟨_,Zj (Yg (XL (Zam (Ud hr) (pv 1) (ZU (pv 0) rfl))) (Zj ZcO) ZJ),?_⟩
 refine ⟨_,rfl,_,rfl,st,C,dx,_,_,rfl,ob,TC.cl,TC.nT,ZiP ln dt,dt,_,rfl,DGet.k (k:=Sum.inl n) tb,_,rfl,?_⟩
 rw [hs]
 exact Yo q
end
end K32
set_option maxHeartbeats 4000000
namespace K32
open PySem L2
def dig (n:Int)(k:Nat):Nat:=(n / 4 ^ k % 4).toNat
theorem ZbZ (n:Int)(k:Nat):(dig n k:Int)=n / 4 ^ k % 4:=Int.toNat_of_nonneg (Int.emod_nonneg _ (by decide))
theorem ZdF (n:Int)(k:Nat):dig n k < 4:=by
 have h1:=ZbZ n k
 have h2:=Int.emod_lt_of_pos (n / 4 ^ k) (show (0:Int) < 4 by decide)
 omega
def Yv (nds:List Nd)(m:Int):Nat→Nat→Nat→Option (List Nat)
 | 0,_,_=>none
 | f+1,lev,num=>match nds[num]? with
   | none=>none
   | some (.fork qs)=>(qs[dig m lev]?).bind fun q=>(Yv nds m f (lev+1) q).map (num::·)
   | some _=>some [num]
def iN (n:Nat):V:=.int (n:Int)
section
variable {P:Program}{w:World}{K:PySem.W.Frag}{mg:Str→Option Value}{base:Heap}{C:Addr}
theorem _root_.L2.StoreAt.node {st ln dt:Addr}{H:Hp}{nds:List Nd}{tabs:List (Zl×V)}(S:StoreAt K C st ln dt H nds tabs){i:Nat}{n:Nd}(h:nds[i]?=some n):∃(as:List Addr)(a:Addr),H ln=some (.lst (as.map V.ref))∧as[i]?=some a∧NodeAt K H a n:=by
 obtain ⟨_,⟨as,e,l,hn⟩,_⟩:=S
 have hi:i < as.length:=by rw [l];exact (List.getElem?_eq_some_iff.mp h).1
 exact ⟨as,as[i],e,List.getElem?_eq_getElem hi,hn i _ n (List.getElem?_eq_getElem hi) h⟩
def Zga (K:PySem.W.Frag)(C:Addr):Sp:=fun vs H Q _=>∃(st ln dt:Addr)(nds:List Nd)(tabs:List (Zl×V))(t:Nat)(x:Str)(f:Nat)(ws:List Nat),vs=[.ref st,iN t,.str x]∧StoreAt K C st ln dt H nds tabs∧(ZE tabs (Sum.inl (t:Int))).isSome=true∧x.length≤1000∧0≤Yy x∧f≤1000 ∧
 Yv nds (Yy x) f 0 t=some ws∧∀ r H',H r=none→Same H H'→H' r=some (.lst (ws.map iN))→Q (.ref r) H'
theorem scWa:Zs ["self","table","name","told","parts","part"] ["self","table","name"] (Zk c_Store_way):=⟨rfl,rfl,rfl,by decide +kernel,rfl,by decide +kernel,by decide +kernel⟩
theorem ZiB {f : Addr}{fd:FuncData}(F:Fun K "way" "Store.way" c_Store_way f fd)(T:Txt K mg)(TC:UD K C)(DC:DefM P w K mg base 1 C "check_table" ["self","table"] (Zcl K C))(DP:Def P w K mg base 1 "parts_in" ["node"] (ZbI K))
   (DM:Def P w K mg base 1 "mark" ["name"] Zek) (DG:Def P w K mg base 1 "digit" ["number","level"] ZbX):FnOk P w K mg base ZG 2 f fd ["self","table","name"] (Zga K C):=by
 refine F.ok scWa (fun vs H Q E h=>?_) (fun cdv A outer s H vs Q E hr h=>?_)
 · obtain ⟨st,ln,dt,nds,tabs,t,x,f,ws,rfl,_⟩:=h;rfl
 obtain ⟨st,ln,dt,nds,tabs,t,x,fu,ws,rfl,S,htab,hx,hm,hfu,hway,q⟩:=h
 refine' ⟨?t,?h,?r⟩
 case h =>
   conv=>arg 2;whnf
   with_reducible refine' Zh ?a1 (Zh ?a2 (Zh ?a3 (Zh (ZeI ?w0 ?w1 (Zh ?b1 (Zh ?b2 (Zj ?b3)))) (Zj ?a5))))
   case a1=>exact YG (XI DC TC.cl hr (pv 0) (Zd (pv 1) Za))
   case a2=>exact Zw (i:=3) scWa.nd rfl (Or.inl rfl) (ZF (Zd (pv 1) Za))
   case a3=>exact Zw (i:=4) scWa.nd rfl (Or.inl rfl) (ZV DP hr (Zd (ZB ZA (ZU (pv 0) rfl) (pv 1) (fun _ _=>rfl)) Za))
   case w0=>exact PassesOwn.never
   case w1=>exact ZeQ (pv 4) (fun _=>rfl)
   case b1=>exact Zw (i:=5) scWa.nd rfl (Or.inl rfl) (ZB Wg (pv 4) (ZV DG hr (Zd (ZV DM hr (Zd (pv 2) Za)) (Zd (Zr XQ (Zn Ye rfl T.len PySem.boot_len (Zd (pv 3) Za)) Ze) Za))) (fun _ _=>rfl))
   case b2=>exact YG (Wy PySem.F.plainAttrs_list PySem.F.slot_list_append PySem.F.type_list_append XX (pv 3) (Zd (pv 5) Za))
   case b3=>exact Zw (i:=4) scWa.nd rfl (Or.inl rfl) (ZV DP hr (Zd (ZB ZA (ZU (pv 0) rfl) (pv 5) (fun _ _=>rfl)) Za))
   case a5=>exact Zv (pv 3)
 obtain ⟨dx,ob⟩:=S.ob
 refine ⟨_,rfl,st,dx,_,rfl,ob,Ui ln dt (by decide +kernel) (by decide +kernel),_,rfl,st,ln,dt,nds,tabs,t,rfl,S,htab,_,rfl,(by show 1≤sizeLine;decide),fun l hl=>?_⟩
 obtain ⟨n,hn⟩:∃ n,nds[t]?=some n:=by
   cases fu with
   | zero=>cases hway
   | succ fu =>
     cases e:nds[t]? with
     | none=>unfold Yv at hway;rw [e] at hway;cases hway
     | some n=>exact ⟨n,rfl⟩
 have s1:=Zf hl (.lst [iN t])
 have S1:=S.keep s1
 obtain ⟨as,a,nl,ha,hna⟩:=S1.node hn
 obtain ⟨dx1,ob1⟩:=S1.ob
 refine ⟨_,rfl,st,C,dx1,_,_,rfl,ob1,TC.cl,TC.nN,Zbv ln dt,_,rfl,ln,_,_,_,rfl,rfl,SqL.of nl,ZS (by rw [List.getElem?_map,ha];rfl),a,n,rfl,hna,fun pt H2 s2 hpt=>?_⟩
 refine ⟨fun fl σ H'=>∃ (pre wr:List Nat) (num:Nat) (n:Nd) (pt:Addr) (y:Option V),σ=[some (.ref st),some (iN t),some (.str x),some (.ref l),some (.ref pt),y]∧Same H H'∧H' l=some (.lst ((pre++[num]).map iN))∧nds[num]?=some n∧SqT K H' pt (n.parts.map iN)∧Yv nds (Yy x) fl pre.length num=some wr∧ws=pre++wr∧fl+pre.length≤1000,
   ⟨fu,[],ws,t,n,pt,_,rfl,s1.trans s2,s2 _ _ Zc,hn,hpt,hway,rfl,by simpa using hfu⟩,?_⟩
 rintro fl σ H3 ⟨pre,wr,num,n,pt,y,rfl,s3,hl3,hn3,hpt3,hw3,rfl,hfl⟩
 refine ⟨_,rfl,_,.inr (.inl ⟨_,hpt3,rfl⟩),?_⟩
 have stop:n.parts=[]→Yv nds (Yy x) fl pre.length num=some [num]:=fun z=>by
   cases fl with
   | zero=>cases hw3
   | succ fl =>
     unfold Yv at hw3 ⊢
     rw [hn3] at hw3 ⊢
     cases n with
     | bare=>rfl
     | leaf m ps=>rfl
     | fork qs =>
       have z':qs=[]:=z
       subst z'
       simp at hw3
 by_cases hz:n.parts=[]
 · rw [hz]
   refine Yo ⟨_,rfl,?_⟩
   have e:=stop hz
   rw [hw3] at e
   cases e
   exact q l H3 hl s3 hl3
 · have hk : (!(n.parts.map iN).isEmpty)=true:=by
     cases e:n.parts with
     | nil=>exact absurd e hz
     | cons _ _=>rfl
   rw [hk]
   cases n with
   | bare=>exact absurd rfl hz
   | leaf m ps=>exact absurd rfl hz
   | fork qs =>
     cases fl with
     | zero=>cases hw3
     | succ fl =>
       unfold Yv at hw3
       rw [hn3] at hw3
       cases eq1:qs[dig (Yy x) pre.length]? with
       | none=>simp [eq1] at hw3
       | some q1 =>
         have hw4:(Yv nds (Yy x) fl (pre.length+1) q1).map (num::·)=some wr:=by simpa [eq1] using hw3
         cases eq2:Yv nds (Yy x) fl (pre.length+1) q1 with
         | none=>rw [eq2] at hw4;cases hw4
         | some wr' =>
           rw [eq2] at hw4
           have ewr:num::wr'=wr:=by simpa using hw4
           obtain ⟨n',hn'⟩:∃ n',nds[q1]?=some n':=by
             cases fl with
             | zero=>cases eq2
             | succ fl =>
               cases e:nds[q1]? with
               | none=>unfold Yv at eq2;rw [e] at eq2;cases eq2
               | some n=>exact ⟨n,rfl⟩
           have e2:((((pre++[num]).map iN).length:Nat):Int) - 1=(pre.length:Int):=by rw [List.length_map,List.length_append];show ((pre.length+1:Nat):Int) - 1=_;omega
           have hat:Yr (qs.map iN) (Yy x / 4 ^ pre.length % 4)=some (iN q1):=by rw [← ZbZ];exact ZS (by rw [List.getElem?_map,eq1];rfl)
           refine Wx ⟨_,fun σ' H' h=>⟨fl,Nat.lt_succ_self _,h⟩,_,rfl,_,rfl,x,rfl,hx,fun H4 s4=>?_⟩
           refine ⟨_,rfl,l,_,rfl,.inl (SqL.of (s4 _ _ hl3)),_,_,rfl,rfl,Yy x,pre.length,congrArg (fun z=>[V.int (Yy x),V.int z]) e2,hm,by omega,pt,_,_,_,rfl,rfl,hpt3.tf s4.tf,hat,?_⟩
           refine ⟨_,rfl,.inl ⟨rfl,_,SqL.of (s4 _ _ hl3)⟩,_,rfl,l,_,_,rfl,rfl,s4 _ _ hl3,(by rw [List.length_map,List.length_append];show pre.length+1 < sizeLine;exact Nat.lt_of_le_of_lt (show pre.length+1≤1001 by omega) (by decide)),?_⟩
           have s5:Same H (upd H4 l (.lst ((pre++[num]).map iN++[iN q1]))):=fun b o e=>by rw [Zg (Zq e hl)];exact s4 _ _ (s3 _ _ e)
           have S5:=S.keep s5
           obtain ⟨as5,a5,nl5,ha5,hna5⟩:=S5.node hn'
           obtain ⟨dx5,ob5⟩:=S5.ob
           refine ⟨_,rfl,st,C,dx5,_,_,rfl,ob5,TC.cl,TC.nN,Zbv ln dt,_,rfl,ln,_,_,_,rfl,rfl,SqL.of nl5,ZS (by rw [List.getElem?_map,ha5];rfl),a5,n',rfl,hna5,fun pt6 H6 s6 hpt6=>?_⟩
           refine ⟨pre++[num],wr',q1,n',pt6,_,rfl,s5.trans s6,?_,hn',hpt6,?_,?_,?_⟩
           · rw [List.map_append];exact s6 _ _ Zc
           · rw [List.length_append];exact eq2
           · rw [← ewr,List.append_assoc];rfl
           · rw [List.length_append];show fl+(pre.length+1)≤1000;omega
def lk (ps:List (Str×V))(x:Str):Option V:=ZE (ps.map fun p=>((Sum.inr p.1:Zl),p.2)) (Sum.inr x)
def Zbb (K:PySem.W.Frag)(C:Addr):Sp:=fun vs H Q _=>∃(st ln dt:Addr)(nds:List Nd)(tabs:List (Zl×V))(t:Nat)(x:Str)(f:Nat)(ws:List Nat)(e:Nat)(n:Nd),vs=[.ref st,iN t,.str x]∧StoreAt K C st ln dt H nds tabs∧(ZE tabs (Sum.inl (t:Int))).isSome=true∧x.length≤1000∧0≤Yy x∧f≤1000 ∧
 Yv nds (Yy x) f 0 t=some (ws++[e])∧nds[e]?=some n∧n.pairs.length≤1000∧(n.pairs.map (·.1)).Nodup∧∀ H',Same H H'→Q ((lk n.pairs x).getD .non) H'
theorem scLo:Zs ["self","table","name","end"] ["self","table","name"] (Zk c_Store_looked):=⟨rfl,rfl,rfl,by decide +kernel,rfl,by decide +kernel,by decide +kernel⟩
theorem Zdn {f:Addr}{fd:FuncData}(F:Fun K "looked" "Store.looked" c_Store_looked f fd)(T:Txt K mg)(TC:UD K C)(DW:DefM P w K mg base 2 C "way" ["self","table","name"] (Zga K C))(DR:Def P w K mg base 1 "pairs_in" ["node"] (ZbR K)):FnOk P w K mg base ZG 3 f fd ["self","table","name"] (Zbb K C):=by
 refine F.ok scLo (fun vs H Q E h=>?_) (fun cdv A outer s H vs Q E hr h=>?_)
 · obtain ⟨st,ln,dt,nds,tabs,t,x,f,ws,e,n,rfl,_⟩:=h;rfl
 obtain ⟨st,ln,dt,nds,tabs,t,x,fu,ws,e,n,rfl,S,htab,hx,hm,hfu,hway,hn,hsz,hnd,q⟩:=h
 refine' ⟨?t,?h,?r⟩
 case h =>
   conv=>arg 2;whnf
   with_reducible refine' Zh ?a1 (Zj ?a2)
   case a1=>exact Zw (i:=3) scLo.nd rfl (Or.inl rfl) (ZB ZA (XI DW TC.cl hr (pv 0) (Zd (pv 1) (Zd (pv 2) Za))) (Zfx Zdj Ze) (fun _ _=>rfl))
   case a2=>exact Zv (Zfa (Ud hr) (XV (Vh rfl) rfl T.dict (by decide +kernel) (Zd (ZV DR (hr.mono (by decide)) (Zd (ZB ZA (ZU (pv 0) rfl) (pv 3) (fun _ _=>rfl)) Za)) Za)) (pv 2) ⟨rfl,rfl,rfl,rfl⟩)
 obtain ⟨dx,ob⟩:=S.ob
 refine ⟨_,rfl,st,dx,_,rfl,ob,Ui ln dt (by decide +kernel) (by decide +kernel),_,rfl,_,rfl,st,ln,dt,nds,tabs,t,x,fu,_,rfl,S,htab,hx,hm,hfu,hway,fun r H1 hr1 s1 el=>?_⟩
 refine ⟨_,rfl,r,_,_,iN e,rfl,rfl,SqL.of el,(by rw [List.map_append];exact ZeS _ _),?_⟩
 have S1:=S.keep s1
 obtain ⟨as,a,nl,ha,hna⟩:=S1.node hn
 obtain ⟨dx1,ob1⟩:=S1.ob
 refine ⟨_,rfl,st,C,dx1,_,_,rfl,ob1,TC.cl,TC.nN,Zbv ln dt,_,rfl,ln,_,_,_,rfl,rfl,SqL.of nl,ZS (by rw [List.getElem?_map,ha];rfl),a,n,rfl,hna,fun pt H2 s2 hpt=>?_⟩
 obtain ⟨o,ts,ept,hod,hlen,hp⟩:=hpt
 refine ⟨pt,ts,n.pairs,rfl,⟨o,ept,hod⟩,hlen,hsz,hp,hnd,fun d hd=>⟨d,rfl,.inl ⟨_,.inl Zc⟩,_,rfl,_,DGet.k (k:=Sum.inr x) Zc,?_⟩⟩
 exact q _ ((s1.trans s2).trans (Zf hd _))
end
end K32
set_option maxHeartbeats 4000000
namespace K32
open PySem L2
section
variable {P:Program}{w:World}{K:PySem.W.Frag}{mg:Str→Option Value}{base:Heap}{C:Addr}
end
end K32
set_option maxHeartbeats 4000000
namespace K32
open PySem L2
structure Ua (NS:List Str):Prop where
 few:NS.length < 64
 len:∀ x∈NS,x.length≤1000
 lo:∀ x∈NS,0≤Yy x
 hi:∀ x∈NS,Yy x < 1024
structure LeafG (NS:List Str)(m:Int)(ps:List (Str×V)):Prop where
 ne:ps≠[]
 nd:(ps.map (·.1)).Nodup
 sub:∀ p∈ps,p.1∈NS
 mrk:∀ p∈ps,Yy p.1=m
def mkN (x:Str):Nat:=(Yy x).toNat
def ZeR (NS:List Str)(nds:List Nd)(F:Str→Option V)(lev r num:Nat):Prop :=
 (num=0∧nds[num]?=some .bare∧∀ x∈NS,mkN x % 4 ^ lev=r→F x=none) ∨
 ∃ m ps,nds[num]?=some (.leaf m ps)∧LeafG NS m ps∧m.toNat % 4 ^ lev=r∧∀ x∈NS,mkN x % 4 ^ lev=r→F x=lk ps x
def Tri (NS:List Str)(nds:List Nd)(F:Str→Option V):Nat→Nat→Nat→Nat→Prop
 | 0,lev,r,num=>ZeR NS nds F lev r num
 | d+1,lev,r,num=>ZeR NS nds F lev r num∨∃ qs,nds[num]?=some (.fork qs)∧qs.length=4∧∀ i q,qs[i]?=some q→Tri NS nds F d (lev+1) (r+i * 4 ^ lev) q
section
variable {NS:List Str}{nds nds':List Nd}{F F':Str→Option V}
theorem ZgE (n lev:Nat):n % 4 ^ (lev+1)=n % 4 ^ lev+(n / 4 ^ lev % 4) * 4 ^ lev:=by
 rw [Nat.pow_succ,Nat.mod_mul,Nat.mul_comm (4 ^ lev)]
theorem ZiQ {lev r i:Nat}(hr:r < 4 ^ lev)(hi:i < 4):r+i * 4 ^ lev < 4 ^ (lev+1):=by
 rw [Nat.pow_succ]
 have:i * 4 ^ lev≤3 * 4 ^ lev:=Nat.mul_le_mul_right _ (by omega)
 omega
theorem Zhm {n:Int}(h:0≤n)(lev:Nat):dig n lev=n.toNat / 4 ^ lev % 4:=by
 obtain ⟨k,rfl⟩:=Int.eq_ofNat_of_zero_le h
 unfold dig
 have:((k:Int) / 4 ^ lev % 4)=((k / 4 ^ lev % 4:Nat):Int):=by norm_cast
 rw [this]
 rfl
theorem Zhn (N:Ua NS):∀(d:Nat){lev r num:Nat}{x:Str},r < 4 ^ lev→Tri NS nds F d lev r num→x∈NS→mkN x % 4 ^ lev=r →
   ∃ ws e n,Yv nds (Yy x) (d+1) lev num=some (ws++[e])∧nds[e]?=some n∧((e=0∧n=.bare∧F x=none)∨∃ m ps,n=.leaf m ps∧LeafG NS m ps∧F x=lk ps x):=by
 have end_:∀ {lev r num:Nat} {x:Str} (d:Nat),ZeR NS nds F lev r num→x∈NS→mkN x % 4 ^ lev=r→∃ ws e n,Yv nds (Yy x) (d+1) lev num=some (ws++[e])∧nds[e]?=some n∧((e=0∧n=.bare∧F x=none)∨∃ m ps,n=.leaf m ps∧LeafG NS m ps∧F x=lk ps x):=by
   intro lev r num x d h hx hr
   rcases h with ⟨h1,h2,h3⟩ | ⟨m,ps,h1,h2,h3,h4⟩
   · exact ⟨[],num,.bare,by unfold Yv;rw [h2];rfl,h2,.inl ⟨h1,rfl,h3 x hx hr⟩⟩
   · exact ⟨[],num,.leaf m ps,by unfold Yv;rw [h1];rfl,h1,.inr ⟨m,ps,rfl,h2,h4 x hx hr⟩⟩
 intro d
 induction d with
 | zero=>exact fun _ h hx hr=>end_ 0 h hx hr
 | succ d ih =>
   intro lev r num x hlt h hx hr
   rcases h with h | ⟨qs,h1,h2,h3⟩
   · exact end_ _ h hx hr
   · have hi:dig (Yy x) lev < qs.length:=by rw [h2];exact ZdF _ _
     have hq:=List.getElem?_eq_getElem hi
     obtain ⟨ws,e,n,e1,e2,e3⟩:=ih (ZiQ hlt (ZdF _ _)) (h3 _ _ hq) hx (by rw [ZgE,hr,Zhm (N.lo x hx)];rfl)
     refine ⟨num::ws,e,n,?_,e2,e3⟩
     unfold Yv
     rw [h1]
     show ((qs[dig (Yy x) lev]?).bind fun q=>(Yv nds (Yy x) (d+1) (lev+1) q).map (num::·))=_
     rw [hq]
     show (Yv nds (Yy x) (d+1) (lev+1) _).map (num::·)=_
     rw [e1]
     rfl
end
end K32
set_option maxHeartbeats 4000000
namespace K32
open PySem L2
theorem Zgy:∀{l N:List Str},l.Nodup→(∀ x∈l,x∈N)→l.length≤N.length:=by
 intro l
 induction l with
 | nil=>intro N _ _;exact Nat.zero_le _
 | cons a l ih =>
   intro N hnd hs
   rw [List.nodup_cons] at hnd
   have ha:a∈N:=hs a List.mem_cons_self
   have:=ih (N:=N.erase a) hnd.2 fun x hx=>(List.mem_erase_of_ne (show x≠a from fun z=>hnd.1 (by rw [← z];exact hx))).mpr (hs x (List.mem_cons_of_mem _ hx))
   rw [List.length_erase_of_mem ha] at this
   have h1:0 < N.length:=List.length_pos_of_mem ha
   rw [List.length_cons];omega
section
variable {NS:List Str}{nds nds':List Nd}{F F':Str→Option V}
theorem LeafG.few {m:Int}{ps:List (Str×V)}(G:LeafG NS m ps):ps.length≤NS.length:=by
 have:=Zgy G.nd (N:=NS) fun x hx=>by obtain ⟨p,hp,rfl⟩:=List.mem_map.mp hx;exact G.sub p hp
 rwa [List.length_map] at this
end
end K32
set_option maxHeartbeats 4000000
namespace K32
open PySem L2
section
variable {P:Program}{w:World}{K:PySem.W.Frag}{mg:Str→Option Value}{base:Heap}{C Pl:Addr}{NS:List Str}
end
end K32
set_option maxHeartbeats 4000000
namespace K32
open PySem L2
section
variable {P:Program}{w:World}{K:PySem.W.Frag}{mg:Str→Option Value}{base:Heap}{C Pl:Addr}{NS:List Str}
theorem Zcq {nds:List Nd}{F:Str→Option V}{t:Nat}{x:Str}(N:Ua NS)(h:Tri NS nds F 5 0 0 t)(hx:x∈NS) :
   ∃ ws e n,Yv nds (Yy x) 6 0 t=some (ws++[e])∧nds[e]?=some n∧n.pairs.length≤1000∧(n.pairs.map (·.1)).Nodup∧lk n.pairs x=F x:=by
 obtain ⟨ws,e,n,e1,e2,e3⟩:=Zhn N 5 (by decide) h hx (by rw [Nat.pow_zero,Nat.mod_one])
 refine ⟨ws,e,n,e1,e2,?_⟩
 have hf:=N.few
 rcases e3 with ⟨_,rfl,z⟩ | ⟨m,ps,rfl,G,z⟩
 · exact ⟨Nat.zero_le _,List.nodup_nil,by rw [z];rfl⟩
 · exact ⟨by have:=G.few;show ps.length≤1000;omega,G.nd,z.symm⟩
end
end K32
set_option maxHeartbeats 4000000
namespace K32
open PySem L2
section
variable {NS:List Str}{nds nds':List Nd}{F F':Str→Option V}
end
section
variable {P:Program}{w:World}{K:PySem.W.Frag}{mg:Str→Option Value}{base:Heap}{C Pl:Addr}{NS:List Str}
end
end K32
set_option maxHeartbeats 2000000
namespace L2
open PySem PySem.Spec PyProof.Rows
section
variable {X:Cx}{elt iter tg cnd:Expr}{xa xb:Str}{pos:Pos}{scope:Scope}{wi:TI}{te:TE}{tc:TT}{g:TG}
end
end L2
set_option maxHeartbeats 2000000
namespace L2
open PySem PySem.Spec PyProof.Rows
theorem Sep.nest {a:Addr}{Δ:Rs}:∀{Γ:Rs}{H h:Hp},Same h H→Sep Γ h→Sep Δ (Uu H h)→Sep (Γ++Δ) H
 | [],_,_,_,_,S=>S.mono ZaT
 | (b,T)::Γ,H,h,l,⟨g,m,t,G⟩,S=>by
   refine ⟨g,m.trans l,t,Sep.nest (a:=a) (h:=Uu h g) (Zbp l) G (S.mono fun c o e=>?_)⟩
   obtain ⟨e1,e2⟩:=cut_some.mp e
   refine cut_some.mpr ⟨cut_some.mpr ⟨e1,fun u q=>e2 u (m _ _ q)⟩,fun u q=>e2 u (cut_some.mp q).1⟩
theorem Sep.pack' {Δ:Rs}:∀{Γ:Rs}{H:Hp},Sep (Γ++Δ) H→∃ h,Same h H∧Sep Γ h∧Sep Δ (Uu H h)
 | [],H,S=>⟨fun _=>none,fun b o e=>(by cases e),trivial,S.mono fun b o e=>cut_some.mpr ⟨e,fun u q=>(by cases q)⟩⟩
 | (b,T)::Γ,H,⟨g,m,t,S⟩=>by
   obtain ⟨h',l',G,S⟩:=Sep.pack' S
   refine ⟨fun c=>match g c with | some o=>some o | none=>h' c,fun c o e=>?_,⟨g,fun c o e=>?_,t,G.mono fun c o e=>?_⟩,S.mono fun c o e=>?_⟩
   · cases q:g c with
     | some u=>simp only [q] at e;cases e;exact m _ _ q
     | none=>simp only [q] at e;exact (cut_some.mp (l' _ _ e)).1
   · simp only [e]
   · obtain ⟨e1,e2⟩:=cut_some.mp (l' _ _ e)
     refine cut_some.mpr ⟨?_,e2⟩
     cases q:g c with
     | some u=>simp only [q];rw [m _ _ q] at e1;exact e1
     | none=>simp only [q];exact e
   · obtain ⟨e1,e2⟩:=cut_some.mp e
     obtain ⟨e3,e4⟩:=cut_some.mp e1
     refine cut_some.mpr ⟨e3,fun u q=>?_⟩
     cases z:g c with
     | some v=>simp only [z] at q;cases q;exact e4 _ z
     | none=>simp only [z] at q;exact e2 _ q
theorem Sep.pack {a:Addr}{Γ Δ:Rs}{H:Hp}{R:Yh}(S:Sep (Γ++Δ) H)(f:∀ h,Sep Γ h→R a h):Sep ((a,R)::Δ) H:=by
 obtain ⟨h,l,G,S⟩:=Sep.pack' S
 exact ⟨h,l,f h G,S⟩
section
variable {X:Cx}
end
section
variable {X:Cx}{k:Nat}{C:Addr}{x m:Str}{ps:List Str}{sp:Sp}{p pos apos:Pos}{o:Expr}{ta:TE}
theorem ZaH {pl:Sem Bool}(D:DefM X.prog X.w X.K X.mg X.base k C m ps sp)(c:Cls X.K C)(hr:Room k X.A)(he:PE X o ta)
   (ht:eval (.Call (.Attribute o m apos) [] [] pos) X.env=(do
     let ov ← eval o X.env
     standAt apos.atName
     let (f,first) ← holding [ov] (getMethod ov m pl)
     callWith pos f first (backTo pos (starEach [] X.env)) (backToKw pos (keywordEach [] X.env))):=by rfl) :
   PE X (.Call (.Attribute o m apos) [] [] pos) (ZaD C m sp [] E0 ta We):=by
 obtain ⟨f,fd,F,b,q⟩:=D
 exact Zfi he c q F hr b .nil Zaw ht
end
end L2
set_option maxHeartbeats 2000000
namespace L2
open PySem PySem.Spec PyProof.Rows
section
variable {X:Cx}
end
end L2
set_option maxHeartbeats 2000000
namespace L2
open PySem PySem.Spec PyProof.Rows
def Zjt (i j k:Nat)(ta:TA):TS:=fun D σ H=>ta σ H fun vs H1=>∃ u v w,vs=[u,v,w]∧D.nx (((σ.set i (some u)).set j (some v)).set k (some w)) H1
theorem Zgs {X:Cx}{pos:Pos}{i j k:Nat}{x y z:Str}{a b c:Expr}{ta:TA}{px py pz pt:Pos}{kt k2 pt2}(hc:X.calm=true)(hN:X.N.Nodup)(hi:X.N[i]?=some x)(hj:X.N[j]?=some y)(hk:X.N[k]?=some z)(hij:i≠j)(hik:i≠k)(hjk:j≠k)
   (hx:X.env.scope.names.lookup x=some .local) (hy:X.env.scope.names.lookup y=some .local) (hz:X.env.scope.names.lookup z=some .local) (ha:PA X [a,b,c] ta)
   (hw:swappedStores [.Tuple [.Name x px,.Name y py,.Name z pz] kt pt] (.Tuple [a,b,c] k2 pt2) X.env=pure (some [x,y,z]))
   (hs:swapsWithSole [.Tuple [.Name x px,.Name y py,.Name z pz] kt pt] (.Tuple [a,b,c] k2 pt2) pos.line X.env=pure false:=by rfl) :
   PS X (.Assign [.Tuple [.Name x px,.Name y py,.Name z pz] kt pt] (.Tuple [a,b,c] k2 pt2) pos) (Zjt i j k ta):=by
 intro pins s σ H D I h
 rw [exec_Assign_arm]
 refine wpAny_bind (wpAny_standAt ?_)
 rw [hs]
 refine wpAny_bind (wpAny_pure ?_)
 rw [if_neg (by decide)]
 refine wpAny_bind (Tuple_ (Zm (ha _ pins s σ H _ I h) fun us s1 ⟨vs,H1,I1,r1,q1⟩=>?_))
 obtain ⟨v1,v2,v3,e1,q1⟩:=q1
 subst e1
 obtain ⟨u1,u2,u3,rfl,rv1,rv2,rv3⟩:∃ u1 u2 u3,us=[u1,u2,u3]∧RelV v1 u1∧RelV v2 u2∧RelV v3 u3:=by
   cases r1 with
   | cons p q =>
     cases q with
     | cons p' q' =>
       cases q' with
       | cons p'' q'' =>
         cases q''
         exact ⟨_,_,_,rfl,p,p',p''⟩
 refine wpAny_newObj_type ?_ (by show 3≤sizeLine;decide)
 have I2:Inv X pins σ H1 { s1 with heap:=s1.heap.push { cls:=.type "tuple",data:=.seq [u1,u2,u3].toArray } }:=I1.kept (t':=s1.toks) fun b o e=>Heap.get?_push_of_some _ e
 rw [hw]
 refine wpAny_bind (wpAny_pure ?_)
 show wpAny (model X.prog X.w) X.A (do rule "assign.swapped-stores";let items ← unpackItems (.ref s1.heap.objs.size) 3 none;assignInOrder [fun v=>bindName X.env z v,fun v=>bindName X.env y v,fun v=>bindName X.env x v] items.reverse;pure Flow.next) _ _ _
 refine wpAny_bind (wpAny_rule (wpAny_bind (unpackItems_tuple (items:=#[u1,u2,u3]) (I.ok.hd hc) (IsTup.new s1.heap _) fun h' hx'=>?_)))
 have I3:=I2.kept (h':=h') (t':=s1.toks) fun b o e=>hx' b o (Nat.ne_of_lt (Heap.lt_size e)) e
 show wpAny _ _ (assignInOrder [fun v=>bindName X.env z v,fun v=>bindName X.env y v,fun v=>bindName X.env x v] [u3,u2,u1] >>= fun _=>pure Flow.next) _ _ _
 refine wpAny_bind (assignInOrder_cons (wpAny_bindName (YQ I3 hN hk (.inl hz) rv3 (fun s2 I4=>?_) (.inr hz))))
 refine assignInOrder_cons (wpAny_bindName (YQ I4 hN hj (.inl hy) rv2 (fun s3 I5=>?_) (.inr hy)))
 refine assignInOrder_cons (wpAny_bindName (YQ I5 hN hi (.inl hx) rv1 (fun s4 I6=>assignInOrder_nil (wpAny_pure ?_)) (.inr hx)))
 rw [List.set_comm _ _ (Ne.symm hjk),List.set_comm _ _ (Ne.symm hik),List.set_comm _ _ (Ne.symm hij)] at I6
 exact ⟨_,H1,I6,q1⟩
end L2
set_option maxHeartbeats 2000000
namespace L2
open PySem PySem.Spec PyProof.Rows
section
variable {X:Cx}
end
end L2
set_option maxHeartbeats 2000000
namespace L2
open PySem
theorem Sep.newE {Δ:Rs}{H H2:Hp}{o:HO}(S:Sep Δ H){p:Addr}(hp:H p=none)(e:upd H p o=H2):Sep ((p,Pt o)::Δ) H2:=e ▸ S.new hp o
theorem Sep.putE {Δ Δ':Rs}{H H2:Hp}{o o':HO}{a:Addr}(S:Sep Δ H)(e:upd H a o'=H2)[P:Pull a Δ (Pt o) Δ'](m:Yw o=true:=by rfl):Sep ((a,Pt o')::Δ') H2:=e ▸ S.put a o' m
theorem ZbH {lo:Int}{n:Nat}{te:TE}{σ:St}{D:Addr}{Q:VK}{H:Hp}{Δ:Rs}(hn:n≤sizeLine)(S:Sep Δ H)(hD:H D=none)(J:Nat→List V→Rs→Prop)(h0:J 0 [] Δ)
   (hs:∀ i ys Δ H,i < n→ys.length=i→J i ys Δ→Sep ((D,ZK ys)::Δ) H→te (σ++[some (.int (lo+i))]) H fun y H4=>∃ Δ',J (i+1) (ys++[y]) Δ'∧Sep ((D,ZK ys)::Δ') H4)
   (hd:∀ ys Δ H,J n ys Δ→ys.length=n→Sep ((D,ZK ys)::Δ) H→Q (.ref D) H):UV (UZ lo n) te σ D Q H:=by
 refine ⟨fun i m ys H=>m=n - i∧i≤n∧ys.length=i∧∃ Δ,J i ys Δ∧Sep ((D,ZK ys)::Δ) H,⟨n,by simp,Nat.zero_le _,rfl,Δ,h0,S.new hD _⟩,?_⟩
 rintro i m ys H2 ⟨rfl,hi,hl,Δ,j,S⟩
 by_cases hlt:i < n
 · refine .inr ⟨hlt,_,fun y H4 (q:∃ Δ',J (i+1) (ys++[y]) Δ'∧Sep ((D,ZK ys)::Δ') H4)=>?_,fun v H3 y=>?_⟩
   · obtain ⟨Δ',j',S'⟩:=q
     exact ⟨S'.get D,by omega,n - (i+1),by omega,rfl,hlt,by simp [hl],Δ',j',S'.put D _⟩
   · obtain ⟨e1,e2⟩:=y
     subst e1 e2
     exact hs i ys Δ _ hlt hl j S
 · have e:i=n:=by omega
   exact .inl ⟨by show n≤i;omega,hd ys Δ H2 (e ▸ j) (by omega) S⟩
end L2
set_option maxHeartbeats 2000000
namespace L2
open PySem
def Xo (x:Str):Prop:=1≤x.length∧x.length≤8∧x.cps.toList.all WA=true
theorem Xj (c:Nat):(⟨#[c]⟩:Str).length=1:=rfl
theorem ZaR {P:Nat→Bool}:∀{l:List Str},(∀ z∈l,∃ c,z=⟨#[c]⟩∧P c=true)→(l.map (·.length)).sum=l.length∧(l.flatMap (·.cps.toList)).length=l.length∧(l.flatMap (·.cps.toList)).all P=true
 | [],_=>⟨rfl,rfl,rfl⟩
 | z :: r,h=>by
   obtain ⟨c,rfl,hc⟩:=h z List.mem_cons_self
   obtain ⟨g1,g2,g3⟩:=ZaR (l:=r) fun y hy=>h y (List.mem_cons_of_mem _ hy)
   refine ⟨?_,?_,?_⟩
   · rw [List.map_cons,List.sum_cons,g1,List.length_cons];show 1+_=_;omega
   · have e0:((⟨#[c]⟩:Str)::r).flatMap (·.cps.toList)=c::r.flatMap (·.cps.toList):=rfl
     rw [e0,List.length_cons,List.length_cons,g2]
   · rw [List.flatMap_cons,List.all_append,g3];simp [hc]
theorem ZdT {P:Nat→Bool}{zs:List Str}(h:∀ z∈zs,∃ c,z=⟨#[c]⟩∧P c=true):(zs.map (·.length)).sum+zs.length * (Str.ofString "").length≤2 * zs.length∧(Txt.join (Str.ofString "") zs).length=zs.length∧(Txt.join (Str.ofString "") zs).cps.toList.all P=true:=by
 obtain ⟨g1,g2,g3⟩:=ZaR h
 refine ⟨?_,?_,?_⟩
 · rw [g1];show _+_ * 0≤_;omega
 · rw [ZQ,Xv,g2]
 · rw [Xv];exact g3
theorem UM {P:Nat→Bool}{x y:Str}(h1:x.cps.toList.all P=true)(h2:y.cps.toList.all P=true):(x++y).cps.toList.all P=true:=by
 rw [Zan,List.all_append,h1,h2];rfl
theorem ZaX {P:Nat→Bool}{c:Nat}(h:P c=true):(⟨#[c]⟩:Str).cps.toList.all P=true:=by
 show [c].all P=true;simp [h]
theorem Vc {P:Nat→Bool}{x:Str}{lo hi:Option Int}(h:x.cps.toList.all P=true):(Txt.slice x lo hi).cps.toList.all P=true:=by
 rw [Wc]
 rw [List.all_eq_true] at h ⊢
 exact fun c hc=>h c (List.mem_of_mem_drop (List.mem_of_mem_take hc))
theorem Zdm {x:Str}{k:Int}(h0:0≤k)(h1:k≤x.length):(Txt.slice x none (some k)).length+(Txt.slice x (some k) none).length=x.length:=by
 have hn:¬ k < 0:=by omega
 rw [ZQ,ZQ,Wc,Wc,ZQ]
 rw [ZQ] at h1
 have e1:HT.sIx x.cps.toList.length 0 none=0:=rfl
 have e2:HT.sIx x.cps.toList.length x.cps.toList.length none=x.cps.toList.length:=rfl
 have e3:∀ d,HT.sIx x.cps.toList.length d (some k)=k.toNat:=fun d=>by
   unfold HT.sIx
   simp only [hn,if_false]
   omega
 rw [e1,e2,e3,e3,List.length_take,List.length_take,List.length_drop,List.length_drop]
 omega
theorem VD {x:Str}{P:Nat→Bool}(ha:x.cps.toList.all P=true){r:Int}(h0:0≤r)(h1:r < x.length):∃ c,Yr x.cps.toList r=some c∧P c=true:=by
 have hl:r.toNat < x.cps.toList.length:=by rw [← ZQ];omega
 exact ⟨_,ZdH h0 (List.getElem?_eq_getElem hl),List.all_eq_true.mp ha _ (List.getElem_mem hl)⟩
def a26:Str:="abcdefghijklmnopqrstuvwxyz"
theorem XC:a26.length=26:=by decide +kernel
theorem Vw:a26.cps.toList.all WA=true:=by decide +kernel
theorem Zhk {xs:List V}{r:Int}(h0:0≤r)(h1:r < (xs.length:Int)):∃ x∈xs,Yr xs r=some x:=by
 have hl:r.toNat < xs.length:=by omega
 exact ⟨_,List.getElem_mem hl,ZdH h0 (List.getElem?_eq_getElem hl)⟩
theorem Sep.le {Δ:Rs}{H:Hp}{p:Addr}{n m:Nat}(S:Sep ((p,Bx n)::Δ) H)(h:n≤m):Sep ((p,Bx m)::Δ) H:=by
 obtain ⟨g,l,r,S⟩:=S
 exact ⟨g,l,BoxAt.le r h,S⟩
def UN:Sp:=fun vs H Q _=>∃(p:Addr)(n:Nat)(Δ:Rs),vs=[.ref p]∧Sep ((p,Bx n)::Δ) H∧n≤900000∧∀(v:V)(H':Hp),Uc v→Sep ((p,Bx (n+50))::Δ) H'→Q v H'
theorem Zha {vs:List V}{H:Hp}{Q:VK}{E:XK}(h:UN vs H Q E):ZbL vs H Q E:=by
 obtain ⟨p,n,Δ,e,S,h1,q⟩:=h
 exact ⟨p,n,e,S.get p,h1,fun v H' hv B k=>q v H' hv (S.box k B)⟩
def Zbe (K:PySem.W.Frag):Sp:=fun vs H Q _=>∃(a:Addr)(ns:List Int)(k:Int)(Δ:Rs),vs=[.ref a,.int k]∧SqL K H a (ns.map V.int)∧Sep Δ H∧0≤k∧k≤1000∧∀(p:Addr)(H':Hp),Same H H'→Sep ((p,Bx 0)::Δ) H'→Q (.ref p) H'
theorem ZjJ {K:PySem.W.Frag}{vs:List V}{H:Hp}{Q:VK}{E:XK}(h:Zbe K vs H Q E):ZfZ K vs H Q E:=by
 obtain ⟨a,ns,k,Δ,e,hS,S,h1,h2,q⟩:=h
 refine ⟨a,ns,k,e,hS,h1,h2,fun p H' hp B s=>q p H' s ?_⟩
 obtain ⟨x,y,z,eb,w⟩:=B
 exact (S.made s hp eb).say p (Bx 0) fun h r=>⟨x,y,z,r,w⟩
inductive Stp where
 | set (x:Str) (v:V)
 | clr (x:Str)
def Stp.vs:Stp→List V
 | .set x v=>[.str "set",.str x,v]
 | .clr x=>[.str "clear",.str x]
class IsLst (R:Yh) (k:Nat):Prop where
 lst:∀ {a h},R a h→∃ xs,h a=some (.lst xs)∧xs.length=k
end L2
set_option maxHeartbeats 2000000
namespace L2
open PySem
def Sto (K:PySem.W.Frag)(C:Addr)(nds:List Nd)(tabs:List (Zl×V)):Yh:=fun st h=>nds[0]?=some .bare∧∃ ln dt,StoreAt K C st ln dt h nds tabs
instance {K:PySem.W.Frag} {C:Addr} {nds:List Nd} {tabs:List (Zl×V)}:Up (Sto K C nds tabs):=⟨fun ⟨h0,ln,dt,h⟩ s=>⟨h0,ln,dt,h.keep s⟩⟩
def some_of (H:Hp)(L:List Addr):Hp:=fun b=>if b∈L then H b else match H b with
 | some o=>if Yw o=true then none else some o
 | none=>none
theorem Ue {H:Hp}{L:List Addr}:Same (some_of H L) H:=fun b o e=>by
 unfold some_of at e
 split at e
 · exact e
 · split at e
   · rename_i o' h'
     split at e
     · cases e
     · cases e;exact h'
   · cases e
theorem Wr {H:Hp}{L:List Addr}{b:Addr}(h:b∈L):some_of H L b=H b:=by unfold some_of;rw [if_pos h]
theorem Wi {H:Hp}{L:List Addr}{b:Addr}{o:HO}(e:H b=some o)(m:Yw o=false):some_of H L b=some o:=by
 unfold some_of
 split
 · exact e
 · simp only [e,m,Bool.false_eq_true,if_false]
theorem Wz {H:Hp}{L:List Addr}{b:Addr}{o:HO}(e:some_of H L b=some o)(m:Yw o=true):b∈L:=by
 unfold some_of at e
 split at e
 · assumption
 · split at e
   · split at e
     · cases e
     · rename_i h;cases e;exact absurd m h
   · cases e
theorem ZgO {H:Hp}{L:List Addr}:TF H (some_of H L):=⟨fun b xs e=>Wi e rfl,fun b o u e=>Wi e rfl⟩
def Xs (C:Addr)(fs:List (Str×V)):Yh:=fun a h=>∃ dx,h a=some (.ins C dx fs)
instance {C:Addr} {fs:List (Str×V)}:Up (Xs C fs):=⟨fun ⟨dx,h⟩ s=>⟨dx,s _ _ h⟩⟩
end L2
set_option maxHeartbeats 4000000
namespace K32
open PySem L2
section
variable {P:Program}{w:World}{K:PySem.W.Frag}{mg:Str→Option Value}{base:Heap}{C Pl:Addr}{NS:List Str}
def VM (K:PySem.W.Frag)(C:Addr):Sp:=fun vs H Q _=>∃(p dx:Addr)(H0:Hp)(Δ:Rs),vs=[.ref p]∧H=upd (upd H0 dx (.own p)) p (.ins C dx [])∧H0 p=none∧H0 dx=none∧dx≠p∧Sep Δ H0∧∀ H',Same H0 H'→Sep ((p,Sto K C [.bare] [(Sum.inl 0,.bl true)])::Δ) H'→Q .non H'
theorem Zir {vs:List V}{H:Hp}{Q:VK}{E:XK}(h:VM K C vs H Q E):ZdO K C vs H Q E:=by
 obtain ⟨p,dx,H0,Δ,e,rfl,h1,h2,h3,S,q⟩:=h
 refine ⟨p,dx,e,Zc,fun ln dt H' hln hdt SA kq=>?_⟩
 have sH:Same H0 (upd (upd H0 dx (.own p)) p (.ins C dx [])):=(Zf h2 _).trans (Zf (by rw [Zg h3.symm];exact h1) _)
 have s0:Same H0 H':=fun b o e=>kq b o (by simp only [List.mem_singleton];exact Zq e h1) (sH b o e)
 refine q H' s0 ?_
 have n1:=Zaa sH hln
 have n2:=Zaa sH hdt
 obtain ⟨dx',ob⟩:=SA.ob
 obtain ⟨as,nl,nlen,nod⟩:=SA.nl
 refine ⟨some_of H' [p,ln,dt],Ue,⟨rfl,ln,dt,⟨⟨dx',by rw [Wr (by simp)];exact ob⟩,⟨as,by rw [Wr (by simp)];exact nl,nlen,fun i a n e1 e2=>(nod i a n e1 e2).tf ZgO⟩,by rw [Wr (by simp)];exact SA.tb⟩⟩,S.mono fun b o e=>cut_some.mpr ⟨s0 _ _ e,fun u z=>?_⟩⟩
 cases m:Yw u with
 | false=>rfl
 | true =>
   have:=Wz z m
   simp only [List.mem_cons,List.not_mem_nil,or_false] at this
   rcases this with z | z | z
   · exact absurd z (Zq e h1)
   · exact absurd z (Zq e n1)
   · exact absurd z (Zq e n2)
def Zcg (K:PySem.W.Frag)(C:Addr):Sp:=fun vs H Q _=>∃ v,vs=[v]∧Q (.int 0) H
theorem scEm:Zs ["self"] ["self"] (Zk c_Store_empty):=⟨rfl,rfl,rfl,by decide +kernel,rfl,by decide +kernel,by decide +kernel⟩
theorem Zfn {f:Addr}{fd:FuncData}(F:Fun K "empty" "Store.empty" c_Store_empty f fd)(T:Txt K mg):FnOk P w K mg base ZG 1 f fd ["self"] (Zcg K C):=by
 refine F.ok scEm (fun vs H Q E h=>?_) (fun cdv A outer s H vs Q E hr h=>?_)
 · obtain ⟨v,rfl,_⟩:=h;rfl
 obtain ⟨v,rfl,q⟩:=h
 obtain ⟨tz,hz⟩:=T.zero
 exact ⟨_,Zj (Zv (ZC rfl hz (v:=.int 0) ⟨_,rfl⟩)),q⟩
end
end K32
set_option maxHeartbeats 2000000
namespace L2
open PySem
structure Xt where
 ah:Nat
 st:Stp
 tb:Nat
 co:Nat
def Zff (ss:List Stp):Yh:=fun l h=>∃ as:List Addr,h l=some (.lst (V.non::as.map V.ref))∧as.length=ss.length∧∀(i:Nat)(a:Addr)(s:Stp),as[i]?=some a→ss[i]?=some s→h a=some (.tup s.vs)
abbrev VO (st la ls lt lc:Addr):List (Str×V):=[("kept",.ref st),("aheads",.ref la),("steps",.ref ls),("tables",.ref lt),("costs",.ref lc)]
abbrev RoaL (K:PySem.W.Frag)(CR CS:Addr)(pls:List Xt)(nds:List Nd)(tabs:List (Zl×V))(r st la ls lt lc:Addr):Rs :=
 [(r,Xs CR (VO st la ls lt lc)),(st,Sto K CS nds tabs),(la,ZK (V.non::pls.map fun q=>V.int (q.ah:Int))),(ls,Zff (pls.map (·.st))),(lt,ZK (V.int 0::pls.map fun q=>V.int (q.tb:Int))),(lc,ZK (V.int 0::pls.map fun q=>V.int (q.co:Int)))]
def Roa (K:PySem.W.Frag)(CR CS:Addr)(pls:List Xt)(nds:List Nd)(tabs:List (Zl×V)):Yh:=fun r h=>∃ st la ls lt lc,Sep (RoaL K CR CS pls nds tabs r st la ls lt lc) h
instance {K:PySem.W.Frag} {CR CS:Addr} {pls:List Xt} {nds:List Nd} {tabs:List (Zl×V)}:Up (Roa K CR CS pls nds tabs):=⟨fun ⟨st,la,ls,lt,lc,S⟩ s=>⟨st,la,ls,lt,lc,S.mono s⟩⟩
theorem Sep.roaC {K:PySem.W.Frag}{CR CS r st la ls lt lc:Addr}{pls:List Xt}{nds:List Nd}{tabs:List (Zl×V)}{Δ:Rs}{H:Hp}(S:Sep ((r,Xs CR (VO st la ls lt lc))::(st,Sto K CS nds tabs)::(la,ZK (V.non::pls.map fun q=>V.int (q.ah:Int)))::(ls,Zff (pls.map (·.st)))::(lt,ZK (V.int 0::pls.map fun q=>V.int (q.tb:Int)))::(lc,ZK (V.int 0::pls.map fun q=>V.int (q.co:Int)))::Δ) H):Sep ((r,Roa K CR CS pls nds tabs)::Δ) H :=
 Sep.pack (Γ:=RoaL K CR CS pls nds tabs r st la ls lt lc) S fun h G=>⟨st,la,ls,lt,lc,G⟩
theorem Sep.imm {Δ:Rs}{H:Hp}{a:Addr}{o:HO}(S:Sep Δ H)(e:H a=some o)(m:Yw o=false):Sep ((a,Pt o)::Δ) H:=by
 refine ⟨one a o,fun b u q=>?_,one_some.mpr ⟨rfl,rfl⟩,S.mono fun b u q=>cut_some.mpr ⟨q,fun v z=>?_⟩⟩
 · obtain ⟨rfl,rfl⟩:=one_some.mp q;exact e
 · obtain ⟨rfl,rfl⟩:=one_some.mp z;exact m
def Stp.ap:Stp→(Str→Option V)→(Str→Option V)
 | .set x v,F=>fun y=>if y=x then some v else F y
 | .clr x,F=>fun y=>if y=x then none else F y
def envs (pls:List Xt):List (Str→Option V):=pls.foldl (fun es q=>es++[q.st.ap (es.getD q.ah fun _=>none)]) [fun _=>none]
end L2
set_option maxHeartbeats 4000000
namespace K32
open PySem L2
structure VI (K:PySem.W.Frag)(CR:Addr):Prop where
 cl:Cls K CR
 nk:NoAttr K CR "kept"
 na:NoAttr K CR "aheads"
 ns:NoAttr K CR "steps"
 nt:NoAttr K CR "tables"
 nc:NoAttr K CR "costs"
section
variable {P:Program}{w:World}{K:PySem.W.Frag}{mg:Str→Option Value}{base:Heap}{CR CS Pl:Addr}{NS:List Str}
theorem rf_k {st la ls lt lc:Addr}:(VO st la ls lt lc).lookup ("kept":Str)=some (V.ref st):=rfl
theorem rf_a {st la ls lt lc:Addr}:(VO st la ls lt lc).lookup ("aheads":Str)=some (V.ref la):=rfl
theorem rf_t {st la ls lt lc:Addr}:(VO st la ls lt lc).lookup ("tables":Str)=some (V.ref lt):=rfl
theorem ZcF {st la ls lt lc:Addr}{m:Str}(h:[("kept":Str),"aheads","steps","tables","costs"].all (fun k=>!(m == k))=true):(VO st la ls lt lc).lookup m=none:=by
 simp only [List.all_cons,List.all_nil,Bool.and_true,Bool.and_eq_true,Bool.not_eq_true'] at h
 obtain ⟨h1,h2,h3,h4,h5⟩:=h
 simp [VO,List.lookup,h1,h2,h3,h4,h5]
abbrev RdR (K:PySem.W.Frag)(CR CS:Addr)(r:Addr)(pls:List Xt)(nds:List Nd)(tabs:List (Zl×V))(H:Hp):Prop:=Roa K CR CS pls nds tabs r H
def ZfK (K:PySem.W.Frag)(CR CS:Addr):Sp:=fun vs H Q _=>∃(r:Addr)(pls:List Xt)(nds:List Nd)(tabs:List (Zl×V))(k:Nat),vs=[.ref r,.int (k:Int)]∧RdR K CR CS r pls nds tabs H∧k≤pls.length∧Q .non H
abbrev nRCk:List Str:=["self","place"]
abbrev ZcD:List Str:=["self","place"]
theorem Zjy:Zs nRCk ZcD (Zk c_Roads_check_place):=⟨rfl,rfl,rfl,by decide +kernel,rfl,by decide +kernel,by decide +kernel⟩
theorem ZgB {f:Addr}{fd:FuncData}(F:Fun K "check_place" "Roads.check_place" c_Roads_check_place f fd)(T:Yf mg)(TR:VI K CR):FnOk P w K mg base ZG 1 f fd ZcD (ZfK K CR CS):=by
 refine F.ok Zjy (fun vs H Q E h=>?_) (fun cdv A outer s H vs Q E hr h=>?_)
 · obtain ⟨r,pls,nds,tabs,k,rfl,_⟩:=h;rfl
 obtain ⟨r,pls,nds,tabs,k,rfl,⟨st,la,ls,lt,lc,S⟩,hk,q⟩:=h
 obtain ⟨dx,ob⟩:=S.get r
 refine' ⟨?t,?h,?r⟩
 case h =>
   conv=>arg 2;whnf
   with_reducible refine' (Zj (Yg ?h1 (Zj ZcO) ZJ))
   case h1=>exact Zbm (ZaP ZfT Zas Ze (pv 1) (Zn Ye rfl T.len PySem.boot_len (Zd (ZU (pv 0) rfl) Za)))
 refine ⟨_,rfl,_,_,rfl,rfl,_,rfl,?_⟩
 rw [decide_eq_true (show (0:Int)≤(k:Int) by omega)]
 refine Wx ⟨_,rfl,r,CR,dx,_,_,rfl,ob,TR.cl,TR.na,rf_a,la,_,rfl,.inl (SqL.of (S.get la)),_,_,rfl,rfl,_,rfl,?_⟩
 rw [decide_eq_true (show (k:Int) < (((V.non::pls.map fun q=>V.int (q.ah:Int)).length:Nat):Int) by rw [List.length_cons,List.length_map];omega)]
 exact Yo q
end
end K32
set_option maxHeartbeats 4000000
namespace K32
open PySem L2
def WfP (pls:List Xt):Prop:=∀(k:Nat)(q:Xt),pls[k]?=some q→q.ah≤k
section
variable {P:Program}{w:World}{K:PySem.W.Frag}{mg:Str→Option Value}{base:Heap}{CR CS Pl:Addr}{NS:List Str}
def tbN (pls:List Xt):Nat→Nat
 | 0=>0
 | k+1=>(pls.getD k ⟨0,.clr "",0,0⟩).tb
theorem Zby {pls:List Xt}{k:Nat}(h:k≤pls.length):(0::pls.map (·.tb))[k]?=some (tbN pls k):=by
 cases k with
 | zero=>rfl
 | succ k =>
   rw [List.getElem?_cons_succ,List.getElem?_map,List.getElem?_eq_getElem (show k < pls.length by omega)]
   show some _=some (pls.getD k ⟨0,.clr "",0,0⟩).tb
   rw [List.getD_eq_getElem?_getD,List.getElem?_eq_getElem (show k < pls.length by omega)]
   rfl
theorem ZiE {pls:List Xt}{k:Nat}(h:k≤pls.length):(V.int 0::pls.map fun q=>V.int (q.tb:Int))[k]?=some (.int (tbN pls k:Int)):=by
 have e:(V.int 0::pls.map fun q=>V.int (q.tb:Int))=(0::pls.map (·.tb)).map fun n:Nat=>V.int (n:Int):=by rw [List.map_cons,List.map_map];rfl
 rw [e,List.getElem?_map,Zby h];rfl
def Zcc (K:PySem.W.Frag)(CR CS:Addr):Sp:=fun vs H Q _=>∃(r:Addr)(pls:List Xt)(nds:List Nd)(tabs:List (Zl×V))(k:Nat),vs=[.ref r,.int (k:Int)]∧RdR K CR CS r pls nds tabs H∧k≤pls.length∧Q (.int (tbN pls k:Int)) H
abbrev nRTa:List Str:=["self","place"]
abbrev Zcz:List Str:=["self","place"]
theorem ZiX:Zs nRTa Zcz (Zk c_Roads_table):=⟨rfl,rfl,rfl,by decide +kernel,rfl,by decide +kernel,by decide +kernel⟩
theorem Zfl {f:Addr}{fd:FuncData}(F:Fun K "table" "Roads.table" c_Roads_table f fd)(T:Yf mg)(TR:VI K CR)(DR_check_place:DefM P w K mg base 1 CR "check_place" ZcD (ZfK K CR CS)):FnOk P w K mg base ZG 2 f fd Zcz (Zcc K CR CS):=by
 refine F.ok ZiX (fun vs H Q E h=>?_) (fun cdv A outer s H vs Q E hr h=>?_)
 · obtain ⟨r,pls,nds,tabs,k,rfl,_⟩:=h;rfl
 obtain ⟨r,pls,nds,tabs,k,rfl,R,hk,q⟩:=h
 obtain ⟨st,la,ls,lt,lc,S⟩:=id R
 obtain ⟨dx,ob⟩:=S.get r
 refine' ⟨?t,?h,?r⟩
 case h =>
   conv=>arg 2;whnf
   with_reducible refine' (Zh ?h1 (Zj ?h2))
   case h1=>exact YG (XI DR_check_place TR.cl hr (pv 0) (Zd (pv 1) Za))
   case h2=>exact Zv (ZB ZA (ZU (pv 0) rfl) (pv 1) (fun _ _=>rfl))
 refine ⟨_,rfl,r,dx,_,rfl,ob,ZcF (by decide +kernel),_,rfl,r,pls,nds,tabs,k,rfl,R,hk,?_⟩
 exact ⟨_,rfl,r,CR,dx,_,_,rfl,ob,TR.cl,TR.nt,rf_t,_,rfl,lt,_,_,_,rfl,rfl,SqL.of (S.get lt),ZS (ZiE hk),q⟩
end
end K32
set_option maxHeartbeats 4000000
namespace K32
open PySem L2
structure ZeC (NS:List Str)(pls:List Xt)(nds:List Nd)(tabs:List (Zl×V)):Prop where
 wf:WfP pls
 tr:∀ (k:Nat) (F:Str→Option V) (t:Nat),(envs pls)[k]?=some F→(0::pls.map (·.tb))[k]?=some t→(ZE tabs (Sum.inl (t:Int))).isSome=true∧Tri NS nds F 5 0 0 t∧∀ x u,F x=some u→Uc u
section
variable {P:Program}{w:World}{K:PySem.W.Frag}{mg:Str→Option Value}{base:Heap}{CR CS Pl:Addr}
end
end K32
set_option maxHeartbeats 4000000
namespace K32
open PySem L2
section
variable {P:Program}{w:World}{K:PySem.W.Frag}{mg:Str→Option Value}{base:Heap}{CR CS Pl:Addr}
def ZbV (K:PySem.W.Frag)(CR CS:Addr):Sp:=fun vs H Q _=>∃(r dx:Addr)(H0:Hp)(Δ:Rs),vs=[.ref r]∧H=upd (upd H0 dx (.own r)) r (.ins CR dx [])∧H0 r=none∧H0 dx=none∧dx≠r∧Sep Δ H0∧∀ H',Sep ((r,Roa K CR CS [] [.bare] [(Sum.inl 0,.bl true)])::Δ) H'→Q .non H'
abbrev nRIn:List Str:=["self"]
abbrev ZfO:List Str:=["self"]
theorem Zjk:Zs nRIn ZfO (Zk c_Roads___init__):=⟨rfl,rfl,rfl,by decide +kernel,rfl,by decide +kernel,by decide +kernel⟩
theorem ZeM {f:Addr}{fd:FuncData}(F:Fun K "__init__" "Roads.__init__" c_Roads___init__ f fd)(T:Yf mg)(TR:VI K CR)(TC:UD K CS)(DSto:VE P w K mg base 1 CS "Store" ["self"] (VM K CS))(DS_empty:DefM P w K mg base 2 CS "empty" ["self"] (Zcg K CS)):FnOk P w K mg base ZG 3 f fd ZfO (ZbV K CR CS):=by
 refine F.ok Zjk (fun vs H Q E h=>?_) (fun cdv A outer s H vs Q E hr h=>?_)
 · obtain ⟨r,dx,H0,Δ,rfl,_⟩:=h;rfl
 obtain ⟨r,dx,H0,Δ,rfl,rfl,h1,h2,h3,S0,q⟩:=h
 have S:=((S0.new h2 (.own r)).new (p:=r) (by rw [Zg h3.symm];exact h1) (.ins CR dx [])).drop dx
 generalize upd (upd H0 dx (.own r)) r (.ins CR dx [])=H at *
 refine' ⟨?t,?h,?r⟩
 case h =>
   conv=>arg 2;whnf
   with_reducible refine' (Zh ?h1 (Zh ?h2 (Zh ?h3 (Zh ?h4 (Zj ?h5)))))
   case h1=>exact Yj (pv 0) (Zat DSto hr) rfl
   case h2=>exact Yj (pv 0) (ZF (Zd YX Za)) rfl
   case h3=>exact Yj (pv 0) (ZF (Zd YX Za)) rfl
   case h4=>exact Yj (pv 0) (ZF (Zd (ZaH DS_empty TC.cl hr (ZU (pv 0) rfl)) Za)) rfl
   case h5=>exact Yj (pv 0) (ZF (Zd Ze Za)) rfl
 intro st dx2 hst hdx2 hne
 refine ⟨st,dx2,_,_,rfl,rfl,hst,hdx2,hne,S,fun H1 _ S1=>⟨rfl,?_⟩⟩
 refine ⟨_,rfl,r,CR,dx,_,rfl,S1.get r,TR.cl,TR.nk,(by show 0 < 1000;decide),?_⟩
 generalize hE:upd H1 r _=H2
 have S2:=S1.putE hE
 clear hE
 refine ⟨(by show 1≤sizeLine;decide),fun la hla=>?_⟩
 generalize hE:upd H2 la _=H3
 have S3:=S2.newE hla hE
 clear hE
 refine ⟨_,rfl,r,CR,dx,_,rfl,S3.get r,TR.cl,TR.na,(by show 1 < 1000;decide),?_⟩
 generalize hE:upd H3 r _=H4
 have S4:=S3.putE hE
 clear hE
 refine ⟨(by show 1≤sizeLine;decide),fun ls hls=>?_⟩
 generalize hE:upd H4 ls _=H5
 have S5:=S4.newE hls hE
 clear hE
 refine ⟨_,rfl,r,CR,dx,_,rfl,S5.get r,TR.cl,TR.ns,(by show 2 < 1000;decide),?_⟩
 generalize hE:upd H5 r _=H6
 have S6:=S5.putE hE
 clear hE
 obtain ⟨b0,ln,dt,SA⟩:=S6.get st
 obtain ⟨dxs,obs⟩:=SA.ob
 refine ⟨_,rfl,r,CR,dx,_,_,rfl,S6.get r,TR.cl,TR.nk,rfl,st,dxs,_,rfl,obs,Ui ln dt (by decide +kernel) (by decide +kernel),_,rfl,(by show 1≤sizeLine;decide),fun lt hlt=>?_⟩
 generalize hE:upd H6 lt _=H7
 have S7:=S6.newE hlt hE
 clear hE
 refine ⟨_,rfl,r,CR,dx,_,rfl,S7.get r,TR.cl,TR.nt,(by show 3 < 1000;decide),?_⟩
 generalize hE:upd H7 r _=H8
 have S8:=S7.putE hE
 clear hE
 refine ⟨(by show 1≤sizeLine;decide),fun lc hlc=>?_⟩
 generalize hE:upd H8 lc _=H9
 have S9:=S8.newE hlc hE
 clear hE
 refine ⟨_,rfl,r,CR,dx,_,rfl,S9.get r,TR.cl,TR.nc,(by show 4 < 1000;decide),?_⟩
 generalize hE:upd H9 r _=H10
 have S10:=S9.putE hE
 clear hE
 have S11:=S10.say ls (Zff []) fun h z=>⟨[],z,rfl,fun i a s e=>by simp at e⟩
 have S12:=S11.say r (Xs CR (VO st la ls lt lc)) fun h z=>⟨dx,z⟩
 have S13:=(((((S12.pull lc).pull lt).pull ls).pull la).pull st).pull r
 exact q _ (Sep.roaC (pls:=[]) S13)
end
end K32
set_option maxHeartbeats 1000000
namespace L2
open PySem PySem.Spec PyProof.Rows
abbrev vMro:List Value:=[.type "ValueError",.type "Exception",.type "BaseException",.type "object"]
inductive VT:List Value→Prop
 | base:VT vMro
 | own {a:Addr} {r:List Value}:VT r→VT (.ref a::r)
def ZcR:List Value→Bool
 | .ref _::r=>ZcR r
 | l=>decide (l=vMro)
theorem VT.of:∀{l:List Value},ZcR l=true→VT l
 | [],h=>nomatch (of_decide_eq_true h:([]:List Value)=vMro)
 | v::r,h=>by cases v<;>first | exact .own (VT.of h) | (have e:=of_decide_eq_true h;rw [e];exact .base)
theorem VT.has {l:List Value}(T:VT l){x:String}{b:Bool}(hb:vMro.contains (.type x)=b):l.contains (.type x)=b:=by
 induction T with
 | base=>exact hb
 | own _ ih=>rw [List.contains_cons,ih];rfl
theorem VT.refuse {l:List Value}(T:VT l)(self:Value):refuseLoop self "__setattr__" l=pure ():=by
 induction T with
 | base=>exact PySem.F.store_ValueError.passes self
 | own _ ih=>rw [refuseLoop_ref];exact ih
def Zbr (K:PySem.W.Frag)(C:Addr):Bool:=match K.lookup C with
 | some ⟨.type "type",_,.cls cd,sl⟩=>(match cd.mro,sl.toList with
   | .ref C'::bm,[_,_,_,_,some (.builtin n),_]=>C' == C&&!cd.hasDel&&cd.hasDict&&n == "ValueError.__new__"&&ZcR bm
   | _,_=>false)
 | _=>false
theorem Uf {K:PySem.W.Frag}{h:Heap}{C:Addr}(X:K.In h)(q:Zbr K C=true):∃ nm qn N bs bm sn sub ab col dd k0 k1 k2 k3 k5,
   h.get? C=some (excClassObj nm qn C N bs bm true sn sub ab col dd k0 k1 k2 k3 k5 "ValueError.__new__")∧VT bm:=by
 unfold Zbr at q
 split at q
 · rename_i dd cd sl ho
   split at q
   · rename_i C' bm k0 k1 k2 k3 n k5 hm hs
     simp only [Bool.and_eq_true,beq_iff_eq,Bool.not_eq_true'] at q
     obtain ⟨⟨⟨⟨rfl,hdel⟩,hdi⟩,rfl⟩,ht⟩:=q
     obtain ⟨nm,bs,mro,ns,qn,hd,sn,sub,ab,col,del⟩:=cd
     dsimp only at hm hdel hdi
     subst hm hdel hdi
     have hsl:sl=#[k0,k1,k2,k3,some (.builtin "ValueError.__new__"),k5]:=by
       obtain ⟨l⟩:=sl
       simp only at hs
       rw [hs]
     subst hsl
     exact ⟨nm,qn,ns,bs,bm,sn,sub,ab,col,dd,k0,k1,k2,k3,k5,X _ _ ho,.of ht⟩
   · cases q
 · cases q
section
variable {prog:Program}{w:World}{A:Around}{E:Value→Shared→Prop}{h:Heap}{g:Array GenState}{d:Drawn}{t:Nat}{os:OsState}
variable {nm q:Str}{C N:Addr}{bs bm:List Value}{sn:List Str}{sub:List Value}{ab:Bool}{col:Option Bool}{dd:Option Addr}{k0 k1 k2 k3 k5:Option Value}
theorem ZbC {M:Model}(T:VT bm){rest:List Value}{Q:Unit→Shared→Prop}(hC:h.get? C=some (excClassObj nm q C N bs bm true sn sub ab col dd k0 k1 k2 k3 k5 "ValueError.__new__"))
   (hq:Q () ⟨h,g,d,t,os⟩):wpAny M A (checkBuiltinCall "ValueError.__new__" ⟨.ref C::rest,[]⟩) Q E ⟨h,g,d,t,os⟩:=by
 have F:=PySem.F.excBase_ValueError
 have hcont:(Value.ref C::bm).contains (.type "ValueError")=true:=by rw [List.contains_cons,T.has F.hasB,Bool.or_true]
 have hstar:=F.noStar
 simp only [checkBuiltinCall,F.newKind,F.newSplit,F.newRow]
 repeat (first | refine wpAny_loadPart_at hC ?_ | (refine wpAny_isSubtype_exc hC ?_;rw [hcont]) | refine wpAny_staticBase_exc hC ?_ | refine wpAny_madeBy_exc hC ?_ | simp only [bne_self_eq_false,Bool.false_eq_true,if_false] | wp_step)
 exact hq
theorem Zjn {R:Result→Shared→Prop}(T:VT bm){rest:List Value}(hC:h.get? C=some (excClassObj nm q C N bs bm true sn sub ab col dd k0 k1 k2 k3 k5 "ValueError.__new__"))
   (hq:R (.ok (.ret (.ref (h.objs.size+1)))) ⟨(h.push { cls:=.type "tuple",data:=.seq rest.toArray }).push
     { cls:=.ref C,data:=.fields #[.ref h.objs.size,.none,.none,.none,.bool false,.none] },g,d,t,os⟩) (hrest:rest.length≤sizeLine) :
   codeAny (model prog w) A (.builtin "ValueError.__new__" ⟨.ref C::rest,[]⟩) R ⟨h,g,d,t,os⟩:=by
 have F:=PySem.F.excBase_ValueError
 have hends:=F.ends
 have hcB:(Value.ref C::bm).contains (.type "ValueError")=true:=by rw [List.contains_cons,T.has F.hasB,Bool.or_true]
 have hcA:(Value.ref C::bm).contains (.type "AttributeError")=false:=by rw [List.contains_cons,T.has F.noAttr];rfl
 have hcN:(Value.ref C::bm).contains (.type "NameError")=false:=by rw [List.contains_cons,T.has F.noName];rfl
 refine codeAny_builtinAt F.entry ?_
 unfold Builtin.«BaseException.__new__»
 refine PySem.wpAt_bind ?_
 show PySem.wpAt _ _ _ (stack >>= _) _ _ _
 refine PySem.wpAt_bind (PySem.wpAt_stack fun p below=>PySem.wpAt_of_wpAny ?_)
 wp_walk
 refine PySem.wpAt_of_wpAny ?_
 rw [F.owner]
 repeat (first | with_reducible refine wpAny_madeHere_exc F.canon hC ?_ | with_reducible refine wpAny_loadPart_at hC ?_ | (with_reducible refine wpAny_isSubtype_exc hC ?_;first | rw [hcB] | rw [hcA] | rw [hcN]) | wp_step)
 show R _ _
 rw [Heap.size_push]
 exact hq
theorem ZbF (T:VT bm){rest:List Value}{fI:Addr}{oI:Obj}{Q:Fin→Shared→Prop}
   (hC:h.get? C=some (excClassObj nm q C N bs bm true sn sub ab col dd k0 k1 k2 k3 k5 "ValueError.__new__")) (LI:PySem.W.Looks (model prog w) h (typeLookup (.ref C) "__init__") (some (.ref fI)))
   (hfI:h.get? fI=some oI) (hfc:oI.cls=.type "function")
   (hq:∀ h' e,Heap.MadeExcOf h h' e (.ref C) rest→h.objs.size≤e →
     wpAny (model prog w) A (call (.ref fI) (.ref e::rest)) (fun r s'=>r=.none∧Q (.done (.ret (.ref e))) s') E ⟨h',g,d,t,os⟩) (hrest:rest.length≤sizeLine) :
   wpAny (model prog w) A (Builtin.«type.__call__» ⟨.ref C::rest,[]⟩) Q E ⟨h,g,d,t,os⟩:=by
 have F:=PySem.F.excBase_ValueError
 repeat (first | with_reducible refine wpAny_loadPart_at hC ?_ | with_reducible refine wpAny_madeBy_exc hC ?_ | wp_step)
 refine codeAny_call_builtin_code (Code.quiet_builtin _ F.quiet) (ZbC T hC ?_)
 refine Zjn T hC ?_ hrest
 show wpAny _ _ _ _ _ _
 have hC₁:=Heap.get?_push_of_some { cls:=.ref C,data:=.fields #[.ref h.objs.size,.none,.none,.none,.bool false,.none] }
   (Heap.get?_push_of_some { cls:=.type "tuple",data:=.seq rest.toArray } hC)
 have hfI₁:=Heap.get?_push_of_some { cls:=.ref C,data:=.fields #[.ref h.objs.size,.none,.none,.none,.bool false,.none] }
   (Heap.get?_push_of_some { cls:=.type "tuple",data:=.seq rest.toArray } hfI)
 have hget:((h.push { cls:=.type "tuple",data:=.seq rest.toArray }).push
     { cls:=.ref C,data:=.fields #[.ref h.objs.size,.none,.none,.none,.bool false,.none] }).get? (h.objs.size+1)=some
     { cls:=.ref C,data:=.fields #[.ref h.objs.size,.none,.none,.none,.bool false,.none] }:=by heap_get
 have hcC:(Value.ref C::bm).contains (.ref C)=true:=by simp
 unfold isInstance
 repeat (first | with_reducible refine wpAny_loadPart_at hget ?_ | (with_reducible refine wpAny_isSubtype_exc hC₁ ?_;rw [hcC]) | wp_step)
 show wpAny _ _ (typeLookup (.ref C) _) _ _ _
 refine (LI.keeps (h':=(h.push { cls:=.type "tuple",data:=.seq rest.toArray }).push { cls:=.ref C,data:=.fields #[.ref h.objs.size,.none,.none,.none,.bool false,.none] }) fun b o e=>Heap.get?_push_of_some _ (Heap.get?_push_of_some _ e)) _ _ _ _ (fun _ _ e=>e) ?_
 refine wpAny_holding (wpAny_bind ?_)
 unfold bindSpecial
 refine wpAny_bind (wpAny_typeOf (T:="function") ⟨_,hfI₁,hfc⟩ ?_)
 rw [if_pos (by decide)]
 refine wpAny_pure (wpAny_bind (wpAny_mono (hq _ (h.objs.size+1) ⟨fun b o hb=>Heap.get?_push_of_some _ (Heap.get?_push_of_some _ hb),Heap.get?_none_of_le (Nat.le_succ _),h.objs.size,hget,Heap.get?_none_of_le (Nat.le_refl _),?_⟩ (Nat.le_succ _)) (fun r s' hr=>?_) fun _ _ x=>x))
 · exact Heap.get?_push_of_some _ (Heap.get?_push_at rfl rfl)
 · obtain ⟨rfl,hQ⟩:=hr
   wp_walk
   exact hQ
theorem Zio (T:VT bm){rest:List Value}{fI:Addr}{oI:Obj}{Q:Value→Shared→Prop}
   (hC:h.get? C=some (excClassObj nm q C N bs bm true sn sub ab col dd k0 k1 k2 k3 k5 "ValueError.__new__")) (LI:PySem.W.Looks (model prog w) h (typeLookup (.ref C) "__init__") (some (.ref fI)))
   (hfI:h.get? fI=some oI) (hfc:oI.cls=.type "function")
   (hq:∀ h' e,Heap.MadeExcOf h h' e (.ref C) rest→h.objs.size≤e →
     wpAny (model prog w) (A.under (.builtin "type.__call__" ⟨.ref C::rest,[]⟩)) (call (.ref fI) (.ref e::rest)) (fun r s'=>r=.none∧Q (.ref e) s') E ⟨h',g,d,t,os⟩) (hrest:rest.length≤sizeLine) :
   wpAny (model prog w) A (call (.ref C) rest) Q E ⟨h,g,d,t,os⟩:=by
 have f1:=tc_lookup
 have f2:=tc_bind (.ref C)
 have hT:(⟨h,g,d,t,os⟩:Shared).TypeIs (.ref C) "type":=⟨_,hC,rfl⟩
 refine wpAny_call (codeAny_of_tree ?_)
 show wpAny _ _ (callAny (.ref C) _) _ _ _
 repeat (any_goals (first | assumption | with_reducible refine wpAny_loadPart_at hC ?_ | wp_step))
 refine ⟨rfl,?_⟩
 refine codeAny_call_builtin_at (Code.quiet_builtin _ (by decide +kernel)) entry_typeCall (wpAny_check_type_call_sub hC (ZbF T hC LI hfI hfc (fun h' e hm hle=>?_) hrest))
 exact hq h' e hm hle
theorem ZgJ {M:Model}{env:Env}{s:Shared}{x:Sem Value}{Q:Flow→Shared→Prop}(T:VT bm)(hh:A.handled=none)
   (h:wpAny M A x (fun v s₁=>∃ e oe vs,v=.ref e∧s₁.heap.get? C=some (excClassObj nm q C N bs bm true sn sub ab col dd k0 k1 k2 k3 k5 "ValueError.__new__") ∧
     s₁.heap.get? e=some oe∧oe.cls=.ref C∧oe.data=.fields vs∧vs[1]?=some .none∧E (.ref e) s₁) E s) :
   wpAny M A (raiseStmt env (some x) none) Q E s:=by
 have hcB:(Value.ref C::bm).contains (.type "BaseException")=true:=by rw [List.contains_cons,T.has PySem.F.excBase_ValueError.hasBase,Bool.or_true]
 unfold raiseStmt
 refine wpAny_bind (wpAny_mono h (fun v s₁ h₁=>?_) fun _ _ x=>x)
 obtain ⟨e,oe,vs,rfl,hC,he,hcl,hd,h1,hE⟩:=h₁
 obtain ⟨oc,odi,oda,osl⟩:=oe
 dsimp only at hcl hd
 subst hcl hd
 obtain ⟨hp,g,d,tk,os⟩:=s₁
 repeat (first | with_reducible refine wpAny_loadPart_at he ?_ | with_reducible refine wpAny_loadPart_at hC ?_ | (with_reducible refine wpAny_isSubtype_exc hC ?_;rw [hcB]) | with_reducible refine wpAny_field he rfl h1 ?_ | wp_step)
 exact wpAny_raiseNew_none hh hE
end
end L2
set_option maxHeartbeats 1000000
namespace L2
open PySem PySem.Spec PyProof.Rows
section
variable {prog:Program}{w:World}{A:Around}{E:Value→Shared→Prop}{h:Heap}{g:Array GenState}{d:Drawn}{t:Nat}{os:OsState}
variable {nm q:Str}{C N x:Addr}{bs bm:List Value}{sn:List Str}{sub:List Value}{ab:Bool}{col:Option Bool}{dd:Option Addr}{k0 k1 k2 k3 k5:Option Value}{name:Str}{v:Value}{o:Obj}
theorem ZcE {M:Model}{nameV:Value}{Q:Unit→Shared→Prop}(T:VT bm)
   (hC:h.get? C=some (excClassObj nm q C N bs bm true sn sub ab col dd k0 k1 k2 k3 k5 "ValueError.__new__")) (hx:h.get? x=some o) (hc:o.cls=.ref C) (hq:Q () ⟨h,g,d,t,os⟩) :
   wpAny M A (checkBuiltinCall "object.__setattr__" ⟨[.ref x,nameV,v],[]⟩) Q E ⟨h,g,d,t,os⟩:=by
 have SF:=PySem.F.store_ValueError
 have hcB:(Value.ref C::bm).contains (.type "object")=true:=by rw [List.contains_cons,T.has SF.hasOwner,Bool.or_true]
 have ha:=SF.args (.ref x) nameV v
 simp only [checkBuiltinCall,SF.kind,SF.split]
 refine wpAny_bind ?_
 · unfold isInstance
   repeat (first | (with_reducible refine wpAny_loadPart_at hx ?_;rw [hc]) | (with_reducible refine wpAny_isSubtype_exc hC ?_;rw [hcB]) | wp_step)
   exact hq
theorem Zhb {Q:Unit→Shared→Prop}(T:VT bm)(hC:h.get? C=some (excClassObj nm q C N bs bm true sn sub ab col dd k0 k1 k2 k3 k5 "ValueError.__new__"))
   (LS:PySem.W.Looks (model prog w) h (typeLookup (.ref C) "__setattr__") (some (.builtin "object.__setattr__"))) (LN:PySem.W.Looks (model prog w) h (typeLookup (.ref C) name) none)
   (hx:h.get? x=some o) (hc:o.cls=.ref C) (hdn:o.dict=none) (hnc:∀ c,o.data≠.cls c)
   (hq:∀ h' tk',h'.get? x=some { o with dict:=some h.objs.size }→h'.Ns1 h.objs.size (fun y=>if y=name then some v else none)→(∀ b ob,b≠x→h.get? b=some ob→h'.get? b=some ob)→Q () ⟨h',g,d,tk',os⟩) :
   wpAny (model prog w) A (setAttr (.ref x) name v) Q E ⟨h,g,d,t,os⟩:=by
 have SF:=PySem.F.store_ValueError
 have f3:=SF.slot.bind (.ref x)
 unfold setAttr callSpecial? specialOf
 have LS':∀ {tk:Nat} {A:Around} {Q:Option Value→Shared→Prop} {E:Value→Shared→Prop},Q (some (.builtin "object.__setattr__")) ⟨h,g,d,tk,os⟩→wpAny (model prog w) A (typeLookup (.ref C) "__setattr__") Q E ⟨h,g,d,tk,os⟩:=fun q=>LS _ _ _ _ (fun _ _ e=>e) q
 have LN':∀ {tk:Nat} {A:Around} {Q:Option Value→Shared→Prop} {E:Value→Shared→Prop},Q none ⟨h,g,d,tk,os⟩→wpAny (model prog w) A (typeLookup (.ref C) name) Q E ⟨h,g,d,tk,os⟩:=fun q=>LN _ _ _ _ (fun _ _ e=>e) q
 repeat (any_goals (first | assumption | (with_reducible refine wpAny_loadPart_at hx ?_;rw [hc]) | (with_reducible refine LS' ?_) | wp_step))
 refine codeAny_call_builtin SF.slot.plain SF.entry (ZcE T hC hx hc ?_)
 have hpass:=T.refuse (.ref x)
 unfold Builtin.«object.__setattr__»
 repeat (first | rw [refuse_eq] | (rw [refuseLoop_ref,hpass]) | (with_reducible refine wpAny_loadPart_at hx ?_;rw [hc]) | with_reducible refine wpAny_mroOf_exc hC ?_ | (with_reducible refine LN' ?_) | wp_step)
 rw [hdn,if_neg (by simp [typeHasDict])]
 split
 · rename_i hcd
   cases hcd
 split
 · rename_i c hcd
   exact absurd hcd (hnc c)
 · have hx₁:(h.push { cls:=.type "dict",data:=.dict #[] }).get? x=some o:=Heap.get?_push_of_some _ hx
   have hxs:x≠h.objs.size:=Nat.ne_of_lt (Heap.lt_size hx)
   refine wpAny_bind (wpAny_alloc' ?_)
   refine wpAny_bind (wpAny_update' hx₁ ?_)
   refine wpAny_pure ?_
   have hgd:((h.push { cls:=.type "dict",data:=.dict #[] }).update x fun o=>{ cls:=o.cls,dict:=some h.objs.size,data:=o.data,slots:=o.slots }).get? h.objs.size
       = some { cls:=.type "dict",data:=.dict #[] } :=
     (Heap.get?_update_ne _ _ _ _ hxs.symm).trans (Heap.get?_push_at rfl rfl)
   have hnd:((h.push { cls:=.type "dict",data:=.dict #[] }).update x fun o=>{ cls:=o.cls,dict:=some h.objs.size,data:=o.data,slots:=o.slots }).Ns h.objs.size (fun _=>none) :=
     ⟨_,#[],_,hgd,rfl,fun e he=>absurd he (by simp),fun _=>rfl⟩
   show wpAny _ _ (Builtin.ObjectAttr.storeInDict h.objs.size (.str name _) name v) _ _ _
   unfold Builtin.ObjectAttr.storeInDict Builtin.ObjectAttr.newKeyGuard
   refine wpAny_bind (wpAny_pure (wpAny_bind (wpAny_nsSet1 (Heap.Ns1.of_empty hnd) fun h' hn' hs=>?_)))
   obtain ⟨oD,esD,epD,hoD,hdD,hcD⟩:=hn'.count (Within.cons name v Within.nil)
   refine wpAny_bind (wpAny_lookBehind hoD (by rw [hdD];exact pastItsLine_dict (Nat.le_trans hcD (by rw [List.length_cons,List.length_nil,sizeLine_eq];omega))) ?_)
   wp_walk
   have hx':h'.get? x=some { cls:=o.cls,dict:=some h.objs.size,data:=o.data,slots:=o.slots }:=by
     refine (hs.2 x hxs).trans (Heap.get?_update_self _ hx₁ ?_)
     have hfr:=(Heap.get?_some_iff.mp hx).2
     obtain ⟨oc,od,odt,osl⟩:=o
     cases odt<;>first | rfl | exact hfr
   repeat (any_goals (first | assumption | wp_step))
   exact hq h' _ hx' hn' fun b ob hbx hb=>(hs.2 b (Nat.ne_of_lt (Heap.lt_size hb))).trans ((Heap.get?_update_ne _ _ _ _ hbx).trans (Heap.get?_push_of_some _ hb))
end
end L2
set_option maxHeartbeats 1000000
namespace L2
open PySem PySem.Spec PyProof.Rows
def TbAt (base:Heap)(n:Nat)(H:Hp)(h:Heap)(ea:Addr)(vs:Array Value):Option Value→Prop
 | none=>vs[1]?=some .none
 | some fl=>∃ T oT ts,vs[1]?=some (.ref T)∧T≠ea∧base.get? T=none∧H T=none∧n≤T∧h.get? T=some oT∧oT.data=.fields ts∧ts[3]?=some fl
def ExcAt (base:Heap)(n:Nat)(H:Hp)(ea C dx:Addr)(fl:Option Value)(h:Heap):Prop :=
 base.get? ea=none∧H ea=none∧n≤ea∧∃ oe vs,h.get? ea=some oe∧oe.cls=.ref C∧oe.dict=some dx∧oe.data=.fields vs∧TbAt base n H h ea vs fl
def Keep (fs:List Addr)(n:Nat)(H:Hp)(h h':Heap):Prop :=
 (∀ b o,h.get? b=some o→b∈fs→∃ sl,h'.get? b=some { o with slots:=sl })∧(∀ b o,h.get? b=some o→b ∉ fs→(H b≠none∨b < n)→h'.get? b=some o) ∧
 (∀ b m,h.Ns b m→h'.Ns b m)∧(∀ b v,h.IsCell b v→h'.IsCell b v)∧h.objs.size≤h'.objs.size
theorem Keep.trans {fs:List Addr}{n:Nat}{H:Hp}{h h1 h2:Heap}(a:Keep fs n H h h1)(b:Keep fs n H h1 h2):Keep fs n H h h2:=by
 refine ⟨fun c o e m=>?_,fun c o e m k=>b.2.1 c o (a.2.1 c o e m k) m k,fun c m x=>b.2.2.1 c m (a.2.2.1 c m x),fun c v x=>b.2.2.2.1 c v (a.2.2.2.1 c v x),Nat.le_trans a.2.2.2.2 b.2.2.2.2⟩
 obtain ⟨sl,e1⟩:=a.1 c o e m
 obtain ⟨sl2,e2⟩:=b.1 c _ e1 m
 exact ⟨sl2,e2⟩
theorem Zdc {h h':Heap}(k:∀ b o,h.get? b=some o→(∀ vs,o.data≠.fields vs)→∃ sl,h'.get? b=some { o with slots:=sl }){b:Addr}{m:Str→Option Value}(x:h.Ns b m):h'.Ns b m:=by
 obtain ⟨o,es,ep,ho,hd,r⟩:=x
 obtain ⟨sl,hs⟩:=k b o ho fun vs q=>by rw [hd] at q;cases q
 exact ⟨_,es,ep,hs,hd,r⟩
theorem VG {h h':Heap}(k:∀ b o,h.get? b=some o→(∀ vs,o.data≠.fields vs)→∃ sl,h'.get? b=some { o with slots:=sl }){b:Addr}{v:Option Value}(x:h.IsCell b v):h'.IsCell b v:=by
 obtain ⟨o,ho,hd⟩:=x
 obtain ⟨sl,hs⟩:=k b o ho fun vs q=>by rw [hd] at q;cases q
 exact ⟨_,hs,hd⟩
section
variable {M:Model}{A:Around}{E:Value→Shared→Prop}{s:Shared}{base:Heap}{n:Nat}{H:Hp}{env:Env}{outer:List Env}{L ea C dx:Addr}
theorem Vm {oe:Obj}{vs:Array Value}{head:Value}{hadNext:Bool}{Q:Unit→Shared→Prop}
   (hfr:A.frames=some (env::outer)) (hl:s.heap.FunFrames base (env::outer)) (hf:env.frame=some L)
   (he:s.heap.get? ea=some oe) (hkb:base.StaysIn s.heap) (hen:base.get? ea=none) (hHe:H ea=none) (hne:n≤ea) (hcl:oe.cls=.ref C) (hdi:oe.dict=some dx) (hd:oe.data=.fields vs) (hsz:1 < vs.size) (hH:∀ b,s.heap.objs.size≤b→H b=none)
   (h:∀ h',base.StaysIn h'→h'.FunFrames base (env::outer)→ExcAt base n H ea C dx (some (rawInt L)) h'→Keep (Yb (env::outer)) n H s.heap h'→Q () { s with heap:=h' }) :
   wpAny M A (do let a ← frameOf env;let pl ← entryPlaceOf L hadNext;let b ← EntryCells.newEntry head a .none (rawInt L) .none pl;setField (.ref ea) 1 b) Q E s:=by
 have hene:ea ∉ (env::outer).filterMap (·.frame):=fun hm=>by
   obtain ⟨_,o,ho,hnf⟩:=hl.mem hm
   rw [he] at ho;injection ho with ho;subst ho;exact hnf vs hd
 refine wpAny_bind (wpAny_frameOf_fun hfr hl hf fun h₁ hs₁=>?_)
 refine wpAny_bind (wpAny_entryPlaceOf fun pl hpl=>?_)
 unfold EntryCells.newEntry newFields
 refine wpAny_bind (wpAny_newObj_type ?_ (hpl.sizeOk5 _ _ _ _ _))
 have he₁:h₁.get? ea=some oe:=(hs₁.2.1 ea hene).trans he
 have kb₁:base.StaysIn h₁:=fun b o hbo=>(hs₁.2.1 b fun hm=>by rw [(hl.mem hm).1] at hbo;cases hbo).trans (hkb b o hbo)
 have he₂:=Heap.get?_push_of_some (h:=h₁) { cls:=.type "traceback",dict:=none,data:=.fields ([head,.ref L,.none,rawInt L,.none]++(if pl.isEmpty then List.replicate 6 Value.none else pl)).toArray } he₁
 refine wpAny_setField he₂ hd hsz ?_
 have hTe:h₁.objs.size≠ea:=Nat.ne_of_gt (Heap.lt_size he₁)
 have hd₃:=Obj.data_mapFields hd (·.setIfInBounds 1 (Value.ref h₁.objs.size))
 have he₃:=Heap.get?_update_self (Obj.mapFields (·.setIfInBounds 1 (Value.ref h₁.objs.size))) he₂ (Obj.isFreed_of_fields hd₃)
 have hT₃:=(Heap.get?_update_other (h₁.push { cls:=.type "traceback",dict:=none,data:=.fields ([head,.ref L,.none,rawInt L,.none]++(if pl.isEmpty then List.replicate 6 Value.none else pl)).toArray })
   (Obj.mapFields (·.setIfInBounds 1 (Value.ref h₁.objs.size))) (Ne.symm hTe)).trans (Heap.get?_push_size h₁ rfl)
 have keep:∀ b o,b≠ea→h₁.get? b=some o →
     ((h₁.push { cls:=.type "traceback",dict:=none,data:=.fields ([head,.ref L,.none,rawInt L,.none]++(if pl.isEmpty then List.replicate 6 Value.none else pl)).toArray }).update ea (Obj.mapFields (·.setIfInBounds 1 (Value.ref h₁.objs.size)))).get? b=some o :=
   fun b o hbe hb=>by
     rw [Heap.get?_update_other _ _ (Ne.symm hbe)]
     exact Heap.get?_push_of_some _ hb
 have noRecord:∀ b o,s.heap.get? b=some o→(∀ vs,o.data≠.fields vs)→b≠ea:=fun b o hb hnf q=>by
   rw [q,he] at hb;injection hb with hb;subst hb;exact hnf vs hd
 have up:∀ b o,s.heap.get? b=some o→(∀ vs,o.data≠.fields vs)→∃ sl,((h₁.push { cls:=.type "traceback",dict:=none,data:=.fields ([head,.ref L,.none,rawInt L,.none]++(if pl.isEmpty then List.replicate 6 Value.none else pl)).toArray }).update ea (Obj.mapFields (·.setIfInBounds 1 (Value.ref h₁.objs.size)))).get? b=some { o with slots:=sl }:=fun b o hb hnf=>by
   obtain ⟨sl,hs⟩:=hs₁.2.2 b o hb
   exact ⟨sl,keep b _ (noRecord b o hb hnf) hs⟩
 have hmap:∀ {o:Obj} {f:Array Value→Array Value},(o.mapFields f).dict=o.dict:=fun {o f}=>by unfold Obj.mapFields;split<;>rfl
 refine h _ (fun b o hbo=>keep b o (fun q=>by rw [q,hen] at hbo;cases hbo) (kb₁ b o hbo)) (hl.of_keeps fun b o hb hnf=>let ⟨sl,e⟩:=up b o hb hnf;⟨_,e,rfl⟩) ?_ ?_
 · refine ⟨hen,hHe,hne,_,_,he₃,(Obj.cls_mapFields _ _).trans hcl,hmap.trans hdi,hd₃,h₁.objs.size,_,_,by simp [hsz],hTe,kb₁.fresh,hH _ (by rw [hs₁.1];exact Nat.le_refl _),?_,hT₃,rfl,by first | (simp;done) | (rcases hpl with rfl | ⟨_,_,_,_,_,_,_,rfl⟩<;>simp)⟩
   exact Nat.le_trans hne (Nat.le_of_lt (Heap.lt_size he₁))
 · refine ⟨fun b o hb hm=>?_,fun b o hb hm k=>?_,fun b m x=>Zdc up x,fun b v x=>VG up x,?_⟩
   · obtain ⟨sl,hs⟩:=hs₁.2.2 b o hb
     exact ⟨sl,keep b _ (fun q=>hene (by rw [← q];exact hm)) hs⟩
   · refine keep b o (fun q=>?_) ((hs₁.2.1 b hm).trans hb)
     rcases k with k | k
     · exact k (by rw [q];exact hHe)
     · rw [q] at k;exact absurd k (Nat.not_lt.mpr hne)
   · rw [Heap.size_after_update,Heap.size_push,hs₁.1];exact Nat.le_succ _
theorem ZbQ {fl:Option Value}{Q:Unit→Shared→Prop}(hfl:fl=none∨fl=some .none)
   (hfr:A.frames=some (env::outer)) (hl:s.heap.FunFrames base (env::outer)) (hf:env.frame=some L) (hkb:base.StaysIn s.heap) (x:ExcAt base n H ea C dx fl s.heap) (hH:∀ b,s.heap.objs.size≤b→H b=none)
   (h:∀ h',base.StaysIn h'→h'.FunFrames base (env::outer)→ExcAt base n H ea C dx (some (rawInt L)) h'→Keep (Yb (env::outer)) n H s.heap h'→Q () { s with heap:=h' }) :
   wpAny M A (noteFrame (.ref ea) env) Q E s:=by
 obtain ⟨hen,hHe,hne,oe,vs,he,hcl,hdi,hd,tb⟩:=x
 unfold noteFrame
 simp only [hf]
 rcases hfl with rfl | rfl
 · have h1:vs[1]?=some .none:=tb
   refine wpAny_bind (wpAny_field he hd h1 ?_)
   rw [if_neg (by decide)]
   exact Vm hfr hl hf he hkb hen hHe hne hcl hdi hd (Array.getElem?_eq_some_iff.mp h1).1 hH h
 · obtain ⟨T,oT,ts,h1,hTe,hnT,hHT,hnT2,hT,hdT,h3⟩:=tb
   refine wpAny_bind (wpAny_field he hd h1 ?_)
   rw [if_pos (show (Value.ref T != Value.none)=true from by simp)]
   refine wpAny_bind (wpAny_field hT hdT h3 ?_)
   rw [if_neg (show ¬ ((Value.none == rawInt L)=true) from by simp [rawInt])]
   refine wpAny_bind (wpAny_setField hT hdT (Array.getElem?_eq_some_iff.mp h3).1 ?_)
   have other:∀ b,b≠T→(s.heap.update T (Obj.mapFields (·.setIfInBounds 3 Value.none))).get? b=s.heap.get? b:=fun b hb=>Heap.get?_update_other _ _ (Ne.symm hb)
   have noRecord:∀ b o,s.heap.get? b=some o→(∀ vs,o.data≠.fields vs)→b≠T:=fun b o hb hnf q=>by
     rw [q,hT] at hb;injection hb with hb;subst hb;exact hnf ts hdT
   have up:∀ b o,s.heap.get? b=some o→(∀ vs,o.data≠.fields vs)→∃ sl,(s.heap.update T (Obj.mapFields (·.setIfInBounds 3 Value.none))).get? b=some { o with slots:=sl }:=fun b o hb hnf=>⟨o.slots,(other b (noRecord b o hb hnf)).trans hb⟩
   have hsz:(s.heap.update T (Obj.mapFields (·.setIfInBounds 3 Value.none))).objs.size=s.heap.objs.size:=Heap.size_after_update ..
   have kp:Keep (Yb (env::outer)) n H s.heap (s.heap.update T (Obj.mapFields (·.setIfInBounds 3 Value.none))):=by
     refine ⟨fun b o hb hm=>⟨o.slots,(other b fun q=>?_).trans hb⟩,fun b o hb hm k=>(other b fun q=>?_).trans hb,fun b m x=>Zdc up x,fun b v x=>VG up x,Nat.le_of_eq hsz.symm⟩
     · obtain ⟨_,o',ho',hnf⟩:=hl.mem hm
       rw [q,hT] at ho';cases ho';exact hnf ts hdT
     · rcases k with k | k
       · exact k (by rw [q];exact hHT)
       · rw [q] at k;exact absurd k (Nat.not_lt.mpr hnT2)
   exact Vm (s:={ s with heap:=s.heap.update T (Obj.mapFields (·.setIfInBounds 3 Value.none)) }) hfr (hl.of_keeps fun b o hb hnf=>⟨o,(other b (noRecord b o hb hnf)).trans hb,rfl⟩) hf ((other ea (Ne.symm hTe)).trans he)
     (fun b o hbo=>(other b fun q=>by rw [q,hnT] at hbo;cases hbo).trans (hkb b o hbo)) hen hHe hne hcl hdi hd (Array.getElem?_eq_some_iff.mp h1).1 (fun b hb=>hH b (by rw [← hsz];exact hb))
     fun h' x1 x2 x3 x4=>h h' x1 x2 x3 (kp.trans x4)
theorem WV {l:List Env}{fl:Value}{Q:Unit→Shared→Prop}(hkb:base.StaysIn s.heap)(hl:s.heap.FunFrames base l)(x:ExcAt base n H ea C dx (some fl) s.heap)
   (h:∀ h',base.StaysIn h'→h'.FunFrames base l→ExcAt base n H ea C dx (some .none) h'→(∀ fs,(∀ b∈fs,∃ o,s.heap.get? b=some o∧∀ vs,o.data≠.fields vs)→Keep fs n H s.heap h')→Q () { s with heap:=h' }) :
   wpAny M A (setFlight (.ref ea) none) Q E s:=by
 obtain ⟨hen,hHe,hne,oe,vs,he,hcl,hdi,hd,T,oT,ts,h1,hTe,hnT,hHT,hnT2,hT,hdT,h3⟩:=x
 have hsz3:3 < ts.size:=(Array.getElem?_eq_some_iff.mp h3).1
 have other:∀ b,b≠T→(s.heap.update T (Obj.mapFields (·.setIfInBounds 3 ((none:Option Addr).elim Value.none fun f=>rawInt f)))).get? b=s.heap.get? b :=
   fun b hb=>Heap.get?_update_other _ _ (Ne.symm hb)
 have noRecord:∀ b o,s.heap.get? b=some o→(∀ vs,o.data≠.fields vs)→b≠T:=fun b o hb hnf q=>by
   rw [q,hT] at hb;injection hb with hb;subst hb;exact hnf ts hdT
 have up:∀ b o,s.heap.get? b=some o→(∀ vs,o.data≠.fields vs)→∃ sl,(s.heap.update T (Obj.mapFields (·.setIfInBounds 3 ((none:Option Addr).elim Value.none fun f=>rawInt f)))).get? b=some { o with slots:=sl }:=fun b o hb hnf=>⟨o.slots,(other b (noRecord b o hb hnf)).trans hb⟩
 unfold setFlight
 refine wpAny_bind (wpAny_field he hd h1 ?_)
 rw [if_pos (show (Value.ref T != Value.none)=true from by simp)]
 refine wpAny_setField hT hdT hsz3 (h _ (fun b o hbo=>(other b fun q=>by rw [q,hnT] at hbo;cases hbo).trans (hkb b o hbo))
   (hl.of_keeps fun b o hb hnf=>⟨o,(other b (noRecord b o hb hnf)).trans hb,rfl⟩) ?_ fun fs hfs=>?_)
 · exact ⟨hen,hHe,hne,oe,vs,(other ea (Ne.symm hTe)).trans he,hcl,hdi,hd,T,_,_,h1,hTe,hnT,hHT,hnT2,Heap.get?_update_self _ hT (Obj.isFreed_of_fields (Obj.data_mapFields hdT _)),Obj.data_mapFields hdT _,by simp [hsz3]⟩
 · refine ⟨fun b o hb hm=>⟨o.slots,(other b fun q=>?_).trans hb⟩,fun b o hb hm k=>(other b fun q=>?_).trans hb,fun b m x=>Zdc up x,fun b v x=>VG up x,Nat.le_of_eq (Heap.size_after_update ..).symm⟩
   · obtain ⟨o',ho',hnf⟩:=hfs b hm
     rw [q,hT] at ho';cases ho';exact hnf ts hdT
   · rcases k with k | k
     · exact k (by rw [q];exact hHT)
     · rw [q] at k;exact absurd k (Nat.not_lt.mpr hnT2)
theorem Zbh {fl:Option Value}{Q:Unit→Shared→Prop}(hfl:fl=none∨fl=some .none)
   (hfr:A.frames=some (env::outer)) (hl:s.heap.FunFrames base (env::outer)) (hf:env.frame=some L) (hkb:base.StaysIn s.heap) (x:ExcAt base n H ea C dx fl s.heap) (hH:∀ b,s.heap.objs.size≤b→H b=none)
   (h:∀ h',base.StaysIn h'→h'.FunFrames base outer→ExcAt base n H ea C dx (some .none) h'→Keep (Yb (env::outer)) n H s.heap h'→Q () { s with heap:=h' }) :
   wpAny M A (leaving env (.ref ea)) Q E s:=by
 unfold leaving
 refine wpAny_bind (ZbQ hfl hfr hl hf hkb x hH fun h1 b1 f1 x1 k1=>?_)
 refine WV b1 f1 x1 fun h2 b2 f2 x2 k2=>h h2 b2 f2.2.2 x2 (k1.trans (k2 _ fun b hb=>?_))
 obtain ⟨_,o,ho,hnf⟩:=f1.mem hb
 exact ⟨o,ho,hnf⟩
end
end L2
set_option maxHeartbeats 1000000
namespace L2
open PySem PySem.Spec PyProof.Rows
theorem Keep.hok {P:Program}{w:World}{fs:List Addr}{n:Nat}{H:Hp}{h h':Heap}(x:HOk P w H h)(hf:∀ b∈fs,H b=none)(k:Keep fs n H h h'):HOk P w H h':=fun a o e=>by
 have tr:∀ b,b=a∨H b=some (.own a)→H b≠none:=fun b hb z=>by
   rcases hb with rfl | hb
   · rw [e] at z;cases z
   · rw [hb] at z;cases z
 exact (x a o e).stay (fun b u hb q=>k.2.1 b u q (fun m=>tr b hb (hf b m)) (.inl (tr b hb))) (fun _ q=>q) (fun _ _ q=>q)
theorem ExcAt.le {base:Heap}{n n':Nat}{H:Hp}{ea C dx:Addr}{fl:Option Value}{h:Heap}(x:ExcAt base n' H ea C dx fl h)(l:n≤n'):ExcAt base n H ea C dx fl h:=by
 obtain ⟨a,b,c,oe,vs,e1,e2,e3,e4,tb⟩:=x
 refine ⟨a,b,Nat.le_trans l c,oe,vs,e1,e2,e3,e4,?_⟩
 cases fl with
 | none=>exact tb
 | some f=>obtain ⟨T,oT,ts,t1,t2,t3,t4,t5,t6⟩:=tb;exact ⟨T,oT,ts,t1,t2,t3,t4,Nat.le_trans l t5,t6⟩
section
variable {X:Cx}{pins:List (Addr×Obj)}{σ:St}{H H1 H2:Hp}{s s1 s2:Shared}{h':Heap}
def ZcB (n:Nat)(H:Hp)(h:Heap):List Addr:=(List.range h.objs.size).filter fun b=>(H b).isNone&&decide (n≤b)
theorem Inv.flown {t':Nat}(I1:Inv X pins σ H1 s1)(I2:Inv X pins σ H2 s2)(k:Keep (Yb X.stack) s1.heap.objs.size H2 s2.heap h'):Inv X pins σ H2 { s2 with heap:=h',toks:=t' }:=by
 have mem:∀ b,b∈ZcB s1.heap.objs.size H2 s2.heap→s1.heap.objs.size≤b:=fun b hb=>by
   have:=(List.mem_filter.mp hb).2
   simp only [Bool.and_eq_true,decide_eq_true_eq] at this
   exact this.2
 have out:∀ b o,s2.heap.get? b=some o→b ∉ ZcB s1.heap.objs.size H2 s2.heap→H2 b≠none∨b < s1.heap.objs.size:=fun b o e hb=>by
   by_cases z:H2 b=none
   · refine .inr (Nat.lt_of_not_le fun l=>hb (List.mem_filter.mpr ⟨List.mem_range.mpr (Heap.lt_size e),?_⟩))
     rw [z];simp [l]
   · exact .inl z
 refine I2.call (g':=s2.gens) (d':=s2.drawn) (ch:=ZcB s1.heap.objs.size H2 s2.heap) ⟨fun b o e hn hf hc=>k.2.1 b o e hf (out b o e hc),fun b o e hn hf hc=>k.1 b o e hf,fun b o e hn hc=>hn,fun b o e hc=>?_,fun _ _ e=>e,fun _ _ _ e=>e,fun _ ps e=>⟨#[],by rw [e];simp⟩⟩ (k.hok I2.hok I2.stkFree) I2.bare fun b hb=>?_
 · by_cases m:b∈Yb X.stack
   · obtain ⟨sl,q⟩:=k.1 b o e m;exact ⟨_,q⟩
   · exact ⟨o,k.2.1 b o e m (out b o e hc)⟩
 · have hb':=mem b hb
   refine ⟨.inr (Nat.le_trans I1.sz hb'),fun z=>?_,fun x c hx z=>?_,fun p hp z=>?_⟩
   · have:=I1.lt;rw [← z] at this;exact absurd this (Nat.not_lt.mpr hb')
   · obtain ⟨v,o,e,_⟩:=I1.cell x c hx
     have:=Heap.lt_size e;rw [z] at this;exact absurd this (Nat.not_lt.mpr hb')
   · have:=Heap.lt_size (I1.pin p hp).1;rw [z] at this;exact absurd this (Nat.not_lt.mpr hb')
structure Cx.Old (X:Cx)(a:Addr):Prop where
 t:∀ xs,X.H₀ a≠some (.tup xs)
 f:∀ o u,X.H₀ a≠some (.frz o u)
 b:∀ ps,X.H₀ a≠some (.tbl ps)
theorem Inv.old {a:Addr}(I:Inv X pins σ H s)(h:H a=none):X.Old a where
 t:=fun xs e=>(by have:=I.base.tups a xs e;rw [h] at this;cases this)
 f:=fun o u e=>(by have:=I.base.frzs a o u e;rw [h] at this;cases this)
 b:=fun ps e=>(by obtain ⟨m,q⟩:=I.base.tbls a ps e;rw [h] at q;cases q)
theorem Cx.Old.nt {a b:Addr}(O:X.Old a){xs:List V}(e:X.H₀ b=some (.tup xs)):b≠a:=fun z=>O.t xs (by rw [← z];exact e)
theorem Cx.Old.nf {a b:Addr}(O:X.Old a){o:Obj}{u:HO}(e:X.H₀ b=some (.frz o u)):b≠a:=fun z=>O.f o u (by rw [← z];exact e)
theorem Cx.Old.nb {a b:Addr}(O:X.Old a){ps:Array Value}(e:X.H₀ b=some (.tbl ps)):b≠a:=fun z=>O.b ps (by rw [← z];exact e)
theorem Inv.track {a:Addr}{o:HO}(I:Inv X pins σ H s)(hn:H a=none)(h0:X.s₀.heap.objs.size≤a)(hL:a≠X.env.locals)(hC:∀ x c,X.env.cells.lookup x=some c→c≠a)(hp:∀ p∈X.pn++pins,p.1≠a)
   (new:ObjOk X.prog X.w (upd H a o) s.heap a o):Inv X pins σ (upd H a o) s:=by
 have old:∀ b u,X.s₀.heap.get? b=some u→b≠a:=fun b u e z=>by
   have:=Heap.lt_size e;rw [z] at this;exact absurd this (Nat.not_lt.mpr h0)
 refine ⟨I.ok,I.os,I.bare,⟨I.base.keep,I.base.slot,fun b u e n hx=>?_,I.base.there,fun b xs e=>?_,fun b u xs e=>?_,fun b ps e=>?_⟩,I.loc,I.cell,?_,fun x c hx=>?_,fun p hp'=>?_,fun b u e=>?_,I.len⟩
 · rw [Zg (old b u e)];exact I.base.free b u e n hx
 · rw [Zg ((I.old hn).nt e)];exact I.base.tups b xs e
 · rw [Zg ((I.old hn).nf e)];exact I.base.frzs b u xs e
 · rw [Zg ((I.old hn).nb e)];exact I.base.tbls b ps e
 · rw [Zg (Ne.symm hL)];exact I.free
 · rw [Zg (hC x c hx)];exact I.freeC x c hx
 · obtain ⟨e1,e2,e3⟩:=I.pin p hp'
   exact ⟨e1,by rw [Zg (hp p hp')];exact e2,e3⟩
 · by_cases z:b=a
   · subst z;rw [Zc] at e;cases e;exact new
   · rw [Zg z] at e
     exact (I.hok b u e).stay (fun _ _ _ q=>q) (fun c q=>by rw [Zg (Zq q hn)];exact q) (fun c xs q=>by rw [Zg (Zq q hn)];exact q)
end
def Wn (P:Program)(w:World)(base:Heap):XU:=fun outer H s E e s'=>∃(ea C dx:Addr)(H':Hp),e=.ref ea∧base.StaysIn s'.heap∧s'.heap.FunFrames base outer∧ExcAt base s.heap.objs.size H' ea C dx (some .none) s'.heap∧s'.os=s.os∧AllBare s'.gens ∧
 Un (Yb outer) [] H H' s.heap s'.heap∧HOk P w H' s'.heap∧E (.ref C) (some dx) H'
section
variable {P:Program}{w:World}{K:PySem.W.Frag}{mg:Str→Option Value}{base:Heap}{k:Nat}{f:Addr}{fd:FuncData}{ps:List Str}{sp sp':Sp}{CX:XU}
def YN (X:Cx)(EE:St→XK):Prop:=∀(pins:List (Addr×Obj))(σ:St)(H1 H2:Hp)(s1 s2:Shared)(ea C dx:Addr)(fl:Option Value),Inv X pins σ H1 s1→Inv X pins σ H2 s2→(fl=none∨fl=some .none)→ExcAt X.base s1.heap.objs.size H2 ea C dx fl s2.heap→EE σ (.ref C) (some dx) H2→X.xe (.ref ea) s2
theorem Zer {N:List Str}{qual:Str}{scope:Scope}{cd:Value}{A:Around}{outer:List Env}{s:Shared}{H:Hp}{E:XK}:YN (XZ (Wn P w base) P w K mg base N qual scope f cd A outer s H E) (fun _=>E):=by
 intro pins σ H1 H2 s1 s2 ea C dx fl I1 I2 hfl x q
 have hsz:s.heap.objs.size≤s1.heap.objs.size:=I1.sz
 have hok2:HOk P w H2 s2.heap:=I2.hok
 refine Zbh (base:=base) (n:=s.heap.objs.size) (H:=H2) (outer:=outer) (L:=s.heap.objs.size) hfl I2.ok.frames I2.stack rfl I2.bk (x.le hsz) (fun b hb=>hok2.fresh hb) fun h' b1 f1 x1 k1=>?_
 have un:Un (Yb outer) [] H H2 s.heap s2.heap:=I2.base
 have nL:∀ b o,s.heap.get? b=some o→b ∉ Yb outer→b ∉ Yb (envOfC qual scope s.heap.objs.size f cd::outer):=fun b o e hf m=>by
   rcases List.mem_filterMap.mp m with ⟨v,hv,ev⟩
   rcases List.mem_cons.mp hv with rfl | hv
   · cases (show some s.heap.objs.size=some b from ev);exact absurd (Heap.lt_size e) (Nat.lt_irrefl _)
   · exact hf (List.mem_filterMap.mpr ⟨v,hv,ev⟩)
 have inL:∀ b,b∈Yb outer→b∈Yb (envOfC qual scope s.heap.objs.size f cd::outer):=fun b m=>by
   obtain ⟨v,hv,ev⟩:=List.mem_filterMap.mp m
   exact List.mem_filterMap.mpr ⟨v,List.mem_cons_of_mem _ hv,ev⟩
 refine ⟨ea,C,dx,H2,rfl,b1,f1,x1,I2.os,I2.bare,⟨fun b o e hn hf hx=>k1.2.1 b o (un.keep b o e hn hf hx) (nL b o e hf) (.inr (Heap.lt_size e)),fun b o e hn hf hx=>?_,un.free,fun b o e hx=>?_,un.tups,un.frzs,un.tbls⟩,k1.hok hok2 I2.stkFree,q⟩
 · obtain ⟨sl,e1⟩:=un.slot b o e hn hf hx
   obtain ⟨sl2,e2⟩:=k1.1 b _ e1 (inL b hf)
   exact ⟨sl2,e2⟩
 · obtain ⟨o',e1⟩:=un.there b o e hx
   by_cases m:b∈Yb (envOfC qual scope s.heap.objs.size f cd::outer)
   · obtain ⟨sl,e2⟩:=k1.1 b o' e1 m;exact ⟨_,e2⟩
   · exact ⟨o',k1.2.1 b o' e1 m (.inr (Heap.lt_size e))⟩
end
end L2
set_option maxHeartbeats 1000000
namespace L2
open PySem PySem.Spec PyProof.Rows
abbrev Cx.tryc (X:Cx)(pn:List (Addr×Obj))(Z:Value→Shared→Prop):Cx:={ X with pn:=pn,xe:=Z }
abbrev Cx.marked (X:Cx)(ea:Addr)(Z:Value→Shared→Prop):Cx:={ X with A:=X.A.mark (some (.ref ea)),calm:=false,xe:=Z }
def XO (ea C dx:Addr):HO:=.ext fun h=>∃ oe vs,h.get? ea=some oe∧oe.cls=.ref C∧oe.dict=some dx∧oe.data=.fields vs
section
variable {X:Cx}{pins:List (Addr×Obj)}{σ:St}{H:Hp}{s:Shared}
theorem Inv.tryc (I:Inv X pins σ H s)(Z:Value→Shared→Prop):Inv (X.tryc (X.pn++pins) Z) [] σ H s :=
 ⟨⟨I.ok.mod,I.ok.kind,I.ok.glob,I.ok.blt,I.ok.above,I.ok.inj,I.ok.has,I.ok.cab,I.ok.hd,I.ok.frames,I.ok.stk,I.ok.exf,I.ok.bs,I.ok.bsz,I.ok.noex,I.ok.exfs,I.ok.funs,I.ok.frf⟩,I.os,I.bare,I.base,I.loc,I.cell,I.free,I.freeC,fun p hp=>I.pin p (by rw [List.append_nil] at hp;exact hp),I.hok,I.len⟩
theorem Inv.untryc {pins':List (Addr×Obj)}{Z:Value→Shared→Prop}(I:Inv (X.tryc (X.pn++pins) Z) pins' σ H s):Inv X pins σ H s :=
 ⟨⟨I.ok.mod,I.ok.kind,I.ok.glob,I.ok.blt,I.ok.above,I.ok.inj,I.ok.has,I.ok.cab,I.ok.hd,I.ok.frames,I.ok.stk,I.ok.exf,I.ok.bs,I.ok.bsz,I.ok.noex,I.ok.exfs,I.ok.funs,I.ok.frf⟩,I.os,I.bare,I.base,I.loc,I.cell,I.free,I.freeC,fun p hp=>I.pin p (List.mem_append_left _ hp),I.hok,I.len⟩
theorem Inv.mark (I:Inv X pins σ H s)(ea:Addr)(Z:Value→Shared→Prop):Inv (X.marked ea Z) pins σ H s :=
 ⟨⟨I.ok.mod,I.ok.kind,I.ok.glob,I.ok.blt,I.ok.above,I.ok.inj,I.ok.has,I.ok.cab,(fun z=>by cases z),I.ok.frames,I.ok.stk,I.ok.exf,I.ok.bs,I.ok.bsz,I.ok.noex,I.ok.exfs,I.ok.funs,I.ok.frf⟩,I.os,I.bare,I.base,I.loc,I.cell,I.free,I.freeC,I.pin,I.hok,I.len⟩
theorem Inv.unmark {ea:Addr}{Z:Value→Shared→Prop}(I:Inv (X.marked ea Z) pins σ H s)(hd:X.calm=true→X.A.handled=none):Inv X pins σ H s :=
 ⟨⟨I.ok.mod,I.ok.kind,I.ok.glob,I.ok.blt,I.ok.above,I.ok.inj,I.ok.has,I.ok.cab,hd,I.ok.frames,I.ok.stk,I.ok.exf,I.ok.bs,I.ok.bsz,I.ok.noex,I.ok.exfs,I.ok.funs,I.ok.frf⟩,I.os,I.bare,I.base,I.loc,I.cell,I.free,I.freeC,I.pin,I.hok,I.len⟩
theorem ZgL {M:Model}{A:Around}{E:Value→Shared→Prop}{i:Nat}{x:Str}{pos:Pos}{Q:Unit→Shared→Prop}(I:Inv X pins σ H s)(hN:X.N.Nodup)(hi:X.N[i]?=some x)(hk:X.env.kindOf x=some .local)
   (h:∀ s',Inv X pins (σ.set i none) H s'→Q () s'):wpAny M A (do bindName X.env x .none;unbindBehindTheSuite X.env x pos) Q E s:=by
 obtain ⟨m,hn,hl⟩:=id I.loc
 have hcls:(X.env.scope.kind == .class || (X.env.scope.kind == .module&&X.env.locals != X.env.globals))=false:=by rw [I.ok.kind];rfl
 have cne:=I.cne
 refine wpAny_nameGoes_keeps hk hn hcls fun h' v hn' hs=>?_
 obtain ⟨oL,_,_,hoL,_⟩:=id hn
 refine h _ ⟨I.ok,I.os,I.bare,⟨fun b o e n hb hx=>?_,fun b o e n hb hx=>?_,I.base.free,fun b o e hx=>?_,I.base.tups,I.base.frzs,I.base.tbls⟩,⟨_,hn',fun j y v' e1 e2 e3=>?_⟩,fun y c e=>?_,I.free,I.freeC,fun p hp=>?_,fun b ob e=>?_,by simpa using I.len⟩
 · exact (hs.2 b (Nat.ne_of_lt (Nat.lt_of_lt_of_le (Heap.lt_size e) I.ok.above))).trans (I.base.keep b o e n hb hx)
 · obtain ⟨sl,e1⟩:=I.base.slot b o e n hb hx
   exact ⟨sl,(hs.2 b (Nat.ne_of_lt (Nat.lt_of_lt_of_le (Heap.lt_size e) I.ok.above))).trans e1⟩
 · obtain ⟨o',e1⟩:=I.base.there b o e hx
   exact ⟨o',(hs.2 b (Nat.ne_of_lt (Nat.lt_of_lt_of_le (Heap.lt_size e) I.ok.above))).trans e1⟩
 · by_cases hj:j=i
   · subst hj
     rw [List.getElem?_set] at e2
     split at e2
     · split at e2<;>cases e2
     · rename_i z;exact absurd rfl z
   · rw [List.getElem?_set_ne (Ne.symm hj)] at e2
     obtain ⟨u',r',q⟩:=hl j y v' e1 e2 e3
     refine ⟨u',r',?_⟩
     rcases q with ⟨k,e⟩ | ⟨k,c,e,z⟩
     · refine .inl ⟨k,?_⟩
       have:y≠x:=fun e=>hj (UK hN e1 (e ▸ hi))
       simp [this,e]
     · exact .inr ⟨k,c,e,z.sameBut hs (cne y c e)⟩
 · obtain ⟨w',z⟩:=I.cell y c e
   exact ⟨w',z.sameBut hs (cne y c e)⟩
 · obtain ⟨e,n,ne,nf,d⟩:=I.pin p hp
   exact ⟨(hs.2 p.1 ne).trans e,n,ne,nf,d⟩
 · refine (I.hok b ob e).stay (fun c w' hc q=>(hs.2 c ?_).trans q) (fun _ q=>q) fun _ _ q=>q
   rintro rfl
   rcases hc with rfl | hc
   · rw [I.free] at e;cases e
   · rw [I.free] at hc;cases hc
end
def ZiG (K:PySem.W.Frag)(C0:Addr)(i:Nat)(tb:(St→XK)→TS)(th:TS):TS:=fun D σ H =>
 tb (fun σ' Cv dO H'=>∃ C dx,Cv=.ref C∧dO=some dx∧PySem.W.exmOne K (.ref C) (.ref C0)=some true∧∀ ea,H' ea=none →
   th { nx:=fun σ2 H2=>D.nx (σ2.set i none) H2,rt:=D.rt,bk:=fun σ2 H2=>D.bk (σ2.set i none) H2,ct:=fun σ2 H2=>D.ct (σ2.set i none) H2 } (σ'.set i (some (.ref ea))) (upd H' ea (XO ea C dx))) D σ H
section
variable {X:Cx}{body suite:List Stmt}{b0:Stmt}{C0:Addr}{x0 n:Str}{i:Nat}{tb:(St→XK)→TS}{th:TS}{p0 hp pos:Pos}
theorem ZeW (hcalm:X.calm=true)(hst:X.stack=X.env::X.outer)(hfr:X.env.frame=some X.env.locals)(hN:X.N.Nodup)(hi:X.N[i]?=some n)(hk:X.env.kindOf n=some .local)(hg:Gl X x0)(hm:X.mg x0=some (.ref C0))(hdb:(x0 == ("__debug__":Str))=false)
   (hb:∀ pn Z EE,YN (X.tryc pn Z) EE→PSs (X.tryc pn Z) body (tb EE)) (hh:∀ ea Z,PSs (X.marked ea Z) (b0::suite) th) :
   PS X (.Try body [.ExceptHandler (some (.Name x0 p0)) (some n) (b0::suite) hp] [] [] pos) (ZiG X.K C0 i tb th):=by
 intro pins s σ H D I h
 rw [arm_exec_Try]
 refine wpAny_bind (wpAny_standAt (wpAny_tryStmt_except ?_))
 refine wpAny_mono (hb (X.pn++pins) _ _ ?W [] s σ H D (I.tryc _) h) (fun f s1 hs=>?_) (fun e s1 z=>z)
 case W =>
   intro pins' σ1 H1 H2 s1 s2 ea C dx fl I1 I2 hfl x q
   have J1:=I1.untryc
   have J2:=I2.untryc
   obtain ⟨C',dx',e1,e2,hex,hq⟩:=q
   cases e1
   cases e2
   have fr:X.A.frames=some (X.env::X.outer):=by rw [← hst];exact J2.ok.frames
   have ff:s2.heap.FunFrames X.base (X.env::X.outer):=by rw [← hst];exact J2.stack
   have off:∀ {h:Heap},h.FunFrames X.base (X.env::X.outer)→∀ b∈Yb (X.env::X.outer),∃ o,h.get? b=some o∧∀ vs,o.data≠.fields vs:=fun f b hb=>(f.mem hb).2
   refine ZbQ (base:=X.base) (n:=s1.heap.objs.size) (H:=H2) hfl fr ff hfr J2.bk x (fun b hb=>J2.hok.fresh hb) fun h3 b3 f3 x3 k3=>?_
   refine WV b3 f3 x3 fun h4 b4 f4 x4 k4=>?_
   have k34:=k3.trans (k4 _ (off f3))
   have J4:Inv X pins σ1 H2 { s2 with heap:=h4 }:=J1.flown (t':=s2.toks) J2 (by rw [hst];exact k34)
   refine wpAny_handleBy_cons (codeAny_handlers_test ?_) (by intro q;cases q)
   refine Xy (X:=X.marked ea X.xe) (J4.mark ea X.xe) hg hm ?_ hdb
   have LT:PySem.W.Looks (model X.prog X.w) h4 (typeOf (.ref ea)) (.ref C):=by
     obtain ⟨_,_,_,oe,vs,he,hc,_⟩:=x4
     rw [← hc];exact (PySem.W.Looks.ld he).andThen .now
   refine (PySem.W.exm_one (h:=h4) J4.kIn LT hex) _ _ _ _ (fun _ _ e=>e) ?_
   refine codeAny_handlers_suite_as ?_
   refine WV b4 f4 x4 fun h5 b5 f5 x5 k5=>?_
   have k45:=k34.trans (k5 _ (off f4))
   have J5:Inv X pins σ1 H2 { s2 with heap:=h5 }:=J1.flown (t':=s2.toks) J2 (by rw [hst];exact k45)
   obtain ⟨hen,hHe,hne,oe,vs,he,hc,hdi,hd,_⟩:=id x5
   have lt1:∀ b,b < s1.heap.objs.size→b≠ea:=fun b hb z=>by rw [z] at hb;exact absurd hb (Nat.not_lt.mpr hne)
   have J6:Inv X pins σ1 (upd H2 ea (XO ea C dx)) { s2 with heap:=h5 }:=by
     refine J5.track hHe (Nat.le_trans J1.sz hne) (fun z=>lt1 _ J1.lt z.symm) (fun y c hy=>?_) (fun p hp=>lt1 _ (Heap.lt_size (J1.pin p hp).1)) ?_
     · obtain ⟨v,o,e,_⟩:=J1.cell y c hy
       exact lt1 _ (Heap.lt_size e)
     · exact ⟨⟨oe,vs,he,hc,hdi,hd⟩,⟨oe,he⟩,fun h1 h2 ⟨oe,vs,e,r⟩ k=>⟨oe,vs,k _ e,r⟩⟩
   refine YQ (X:=X) J6 hN hi (.inl hk) (v:=.ref ea) rfl (fun s6 J8=>?_) (.inr hk)
   refine wpAny_mono (hh ea _ pins s6 _ _ _ (J8.mark ea _) (hq ea hHe)) (fun f s7 hs=>?_) (fun _ _ z=>z)
   have back:∀ {Z:Value→Shared→Prop} {σ':St} {H':Hp} {Q:Unit→Shared→Prop},Inv (X.marked ea Z) pins σ' H' s7→(∀ s',Inv X pins (σ'.set i none) H' s'→Q () s')→wpAny (model X.prog X.w) X.A (do bindName X.env n .none;unbindBehindTheSuite X.env n hp) Q X.xe s7:=fun J q=>ZgL (J.unmark J1.ok.hd) hN hi hk q
   cases f with
   | next=>obtain ⟨σ',H',J,q⟩:=hs;exact back J fun s' J'=>⟨_,H',J',q⟩
   | brk=>obtain ⟨σ',H',J,q⟩:=hs;exact back J fun s' J'=>⟨_,H',J',q⟩
   | cont=>obtain ⟨σ',H',J,q⟩:=hs;exact back J fun s' J'=>⟨_,H',J',q⟩
   | ret u=>obtain ⟨v,σ',H',J,r,q⟩:=hs;exact back J fun s' J'=>⟨v,_,H',J',r,q⟩
 · cases f with
   | next=>obtain ⟨σ',H',J,q⟩:=hs;exact wpAny_pure ⟨σ',H',J.untryc,q⟩
   | brk=>obtain ⟨σ',H',J,q⟩:=hs;exact ⟨σ',H',J.untryc,q⟩
   | cont=>obtain ⟨σ',H',J,q⟩:=hs;exact ⟨σ',H',J.untryc,q⟩
   | ret u=>obtain ⟨v,σ',H',J,r,q⟩:=hs;exact ⟨v,σ',H',J.untryc,r,q⟩
end
end L2
set_option maxHeartbeats 1000000
namespace L2
open PySem PySem.Spec PyProof.Rows
def DefMX (P:Program)(w:World)(K:PySem.W.Frag)(mg:Str→Option Value)(base:Heap)(k:Nat)(C:Addr)(m:Str)(ps:List Str)(sp:Sp):Prop:=∃ f fd,FnOk P w K mg base (Wn P w base) k f fd ps sp∧Binds K fd ps []∧VN K C m f
section
variable {P:Program}{w:World}{K:PySem.W.Frag}{mg:Str→Option Value}{base:Heap}{j k:Nat}{C:Addr}{x m:Str}{ps:List Str}{sp:Sp}
theorem DefMX.mono (D:DefMX P w K mg base j C m ps sp)(h:j≤k):DefMX P w K mg base k C m ps sp:=let ⟨f,fd,F,b,q⟩:=D;⟨f,fd,F.mono h,b,q⟩
end
def ZhZ (C:Addr)(m:Str)(sp:Sp)(EE:St→XK)(ta:TE)(t:TA):TE:=fun σ H Q=>ta σ H fun x H1=>∃ a dx fs,x=.ref a∧H1 a=some (.ins C dx fs)∧fs.lookup m=none∧t σ H1 fun vs H2=>sp (x::vs) H2 Q (EE σ)
section
variable {X:Cx}{EE:St→XK}{k:Nat}{f C:Addr}{fd:FuncData}{ps:List Str}{sp:Sp}{x m:Str}{p pos apos:Pos}{e o:Expr}{es:List Expr}{ta:TE}{t:TA}
theorem ZgK {pins:List (Addr×Obj)}{σ:St}{H:Hp}{s:Shared}{Q:VK}{us:List Value}{vs:List V}(W:YN X EE)(F:FnOk X.prog X.w X.K X.mg X.base (Wn X.prog X.w X.base) k f fd ps sp)(hr:Room k X.A)(hb:Binds X.K fd ps [])
   (I:Inv X pins σ H s) (r:Vals vs us) (h:sp vs H Q (EE σ)):wpAny (model X.prog X.w) X.A (call (.ref f) us) (EP X pins σ Q) X.xe s:=by
 have hl:(us++[]).length=ps.length:=by rw [List.append_nil,← r.length];exact F.len _ _ _ _ h
 have hb':=hb s us I.kIn hl
 rw [List.append_nil] at hb'
 refine wpAny_call (codeAny_mono (F.run X.A X.stack s H ⟨us,[]⟩ us vs Q (EE σ) hr I.env0 hb' r h) fun r s' hq=>?_)
 cases r with
 | error e =>
   obtain ⟨ea,C,dx,H',rfl,kb,ff,x,os,gb,un,hok,q⟩:=hq
   exact W pins σ H H' s s' ea C dx _ I (I.call' os un hok gb fun b z=>absurd z (by simp)) (.inr rfl) x q
 | ok fl =>
   cases fl with
   | ret u=>exact I.after hq
   | next=>exact False.elim hq
   | brk=>exact False.elim hq
   | cont=>exact False.elim hq
theorem Vp {pl:Sem Bool}(W:YN X EE)(D:DefMX X.prog X.w X.K X.mg X.base k C m ps sp)(c:Cls X.K C)(hr:Room k X.A)(he:PE X o ta)(ha:PA X (e::es) t)
   (hst:starEach (e::es) X.env=(false,eval e X.env)::starEach es X.env:=by rfl) (hpl:(backTo pos (starEach es X.env)).any (·.1)=false:=by rfl)
   (ht:eval (.Call (.Attribute o m apos) (e::es) [] pos) X.env=(do
     let ov ← eval o X.env
     standAt apos.atName
     let (f,first) ← holding [ov] (getMethod ov m pl)
     callWith pos f first (backTo pos (starEach (e::es) X.env)) (backToKw pos (keywordEach [] X.env))):=by rfl) :
   PE X (.Call (.Attribute o m apos) (e::es) [] pos) (ZhZ C m sp EE ta t):=by
 obtain ⟨f,fd,F,b,hm⟩:=D
 intro pins s σ H Q I h
 refine PySem.W.methodCall_KW (pl:=pl) (Zm (he pins s σ H _ I h) fun u s1 ⟨x,H1,I1,rx,a,dx,fs,ex,ea,l,q⟩=>?_) ht
 subst ex
 obtain rfl:u=Value.ref a:=rx
 refine WF I1 ea c hm l ?_
 refine PySem.W.callWith_K (h₀:=X.base) (first:=[.ref a]) I1.ok.mod.kin hm.kp (Zm (ha pos pins s1 σ H1 _ I1 q) fun us s2 ⟨vs,H2,I2,r,q2⟩=>⟨I2.kIn,?_⟩) hst hpl
 exact ZgK (us:=.ref a::us) (vs:=.ref a::vs) W F hr b I2 (.cons rfl r) q2
end
theorem Fun.okX {P:Program}{w:World}{K:PySem.W.Frag}{mg:Str→Option Value}{base:Heap}{x qual:Str}{st:Stmt}{f:Addr}{fd:FuncData}{N ps:List Str}{k:Nat}{sp:Sp}(F:Fun K x qual st f fd)(S:Zs N ps (Zk st))(len:∀ vs H Q E,sp vs H Q E→vs.length=ps.length)
   (hbody:∀ (cdv:Value) (A:Around) (outer:List Env) (s:Shared) (H:Hp) (vs:List V) (Q:VK) (E:XK),Room k (A.deeper (envOfC qual (Zk st) s.heap.objs.size f cdv))→sp vs H Q E →
     YN (XZ (Wn P w base) P w K mg base N qual (Zk st) f cdv A outer s H E) (fun _=>E) →
     ∃ t,PSs (XZ (Wn P w base) P w K mg base N qual (Zk st) f cdv A outer s H E) (YS st) t∧t { nx:=fun _ H'=>Q .non H',rt:=Q } (start N vs) H):FnOk P w K mg base (Wn P w base) (k+1) f fd ps sp:=by
 obtain ⟨oc,od,kV,doc,pm,an,cdv,ct,osl,rfl,lk,hcd⟩:=F.ex
 exact ZcY lk hcd S len fun A outer s H vs Q E hr hsp=>hbody cdv A outer s H vs Q E hr hsp Zer
end L2
set_option maxHeartbeats 1000000
namespace L2
open PySem PySem.Spec PyProof.Rows
def XN (ea C:Addr):HO:=.ext fun h=>∃ t:Addr,h.get? ea=some { cls:=.ref C,data:=.fields #[.ref t,.none,.none,.none,.bool false,.none] }
def XW (ea C dx:Addr):HO:=.ext fun h=>∃ t:Addr,h.get? ea=some { cls:=.ref C,dict:=some dx,data:=.fields #[.ref t,.none,.none,.none,.bool false,.none] }
structure XF (K:PySem.W.Frag)(C fI:Addr):Prop where
 xc:Zbr K C=true
 init:PySem.W.findIn K (.ref C) "__init__"=some (some (.ref fI))
 sa:PySem.W.findIn K (.ref C) "__setattr__"=some (some (.builtin "object.__setattr__"))
 nw:PySem.W.findIn K (.ref C) "what"=some none
 fn:PySem.W.isFn K (.ref fI)=true
 kp:PySem.W.keepIn K (.ref C)=true
def Zjs (K:PySem.W.Frag)(ta tv:TE):TS:=fun D σ H=>tv σ H fun y H1=>ta σ H1 fun x H2=>∃ ea C fI,x=.ref ea∧H2 ea=some (XN ea C)∧XF K C fI∧∀ dx,H2 dx=none→dx≠ea→D.nx σ (upd (upd H2 dx (.xd [("what",y)])) ea (XW ea C dx))
section
variable {X:Cx}{o value:Expr}{pos pos':Pos}{ta tv:TE}
theorem Zhj (ha:PE X o ta)(hv:PE X value tv)(hs:swapsWith value (some (.Attribute o "what" pos')) pos.line X.env=pure false):PS X (.Assign [.Attribute o "what" pos'] value pos) (Zjs X.K ta tv):=by
 intro pins s σ H D I h
 refine plainObj_wpAny_Assign_Attribute (Zm (hv pins s σ H _ I h) fun u s1 ⟨y,H1,I1,ry,q⟩=>Zm (ha pins s1 σ H1 _ I1 q) fun ov s2 ⟨x,H2,I2,rx,ea,C,fI,ex,hea,xf,q2⟩=>?_) hs
 subst ex
 obtain rfl:ov=Value.ref ea:=rx
 obtain ⟨⟨t,hx⟩,_,_⟩:=(show ObjOk X.prog X.w H2 s2.heap ea (XN ea C) from I2.hok ea _ hea)
 obtain ⟨nm,qn,N,bs,bm,sn,sub,ab,col,dd,k0,k1,k2,k3,k5,hC,T⟩:=Uf I2.kIn xf.xc
 obtain ⟨hh,g,d,tk,os⟩:=s2
 have hdn:H2 hh.objs.size=none:=I2.hok.fresh (Nat.le_refl _)
 have hne:hh.objs.size≠ea:=Nat.ne_of_gt (Heap.lt_size hx)
 refine Zhb T hC (PySem.W.looks_findIn I2.kIn xf.sa) (PySem.W.looks_findIn I2.kIn xf.nw) hx rfl rfl (fun c z=>by cases z) fun h' tk' hx' hns hk=>⟨σ,_,?_,q2 _ hdn hne⟩
 have nea:∀ b,H2 b=none→b≠ea:=fun b e z=>by rw [z,hea] at e;cases e
 have ndx:∀ b ob,hh.get? b=some ob→b≠hh.objs.size:=fun b ob e=>Nat.ne_of_lt (Heap.lt_size e)
 refine I2.un (h':=h') (t':=tk') ⟨fun b ob e n _ _=>hk b ob (nea b n) e,fun b ob e n _ _=>⟨ob.slots,hk b ob (nea b n) e⟩,fun b ob e n _=>by rw [Zg (nea b n),Zg (ndx b ob e)];exact n,fun b ob e _=>?_,fun b xs e=>?_,fun b w xs e=>?_,fun b ps e=>?_⟩ fun b w e=>?_
 · by_cases z:b=ea
   · rw [z];exact ⟨_,hx'⟩
   · exact ⟨ob,hk b ob z e⟩
 · rw [Zg (fun z=>by rw [z,hea] at e;cases e),Zg (Zq e hdn)];exact e
 · rw [Zg (fun z=>by rw [z,hea] at e;cases e),Zg (Zq e hdn)];exact e
 · exact ⟨#[],by rw [Zg (fun z=>by rw [z,hea] at e;cases e),Zg (Zq e hdn),e];simp⟩
 · by_cases z:b=ea
   · subst z;rw [Zc] at e;cases e
     exact ⟨⟨t,hx'⟩,⟨_,hx'⟩,fun h1 h2 ⟨t,e⟩ k=>⟨t,k _ e⟩⟩
   · rw [Zg z] at e
     by_cases z2:b=hh.objs.size
     · subst z2;rw [Zc] at e;cases e
       refine ⟨_,hns,fun f=>?_⟩
       show RelO (List.lookup f [("what",y)]) (if f="what" then some u else none)
       by_cases hf:f="what"
       · rw [if_pos hf,hf];exact ry
       · rw [if_neg hf]
         have hb:(f == ("what":Str))=false:=beq_eq_false_iff_ne.mpr hf
         simp only [List.lookup,hb];exact True.intro
     · rw [Zg z2] at e
       refine (I2.hok b w e).stay (fun c u hc q=>?_) (fun c q=>?_) (fun c xs q=>?_)
       · refine hk c u (fun y=>?_) q
         rcases hc with rfl | hc
         · exact z y
         · rw [y,hea] at hc;cases hc
       · rw [Zg (fun y=>by rw [y,hea] at q;cases q),Zg (Zq q hdn)];exact q
       · rw [Zg (fun y=>by rw [y,hea] at q;cases q),Zg (Zq q hdn)];exact q
end
def ZeA (K:PySem.W.Frag):Sp:=fun vs H Q _=>∃ (ea C fI:Addr) (v:V),vs=[.ref ea,v]∧H ea=some (XN ea C)∧XF K C fI∧∀ dx,H dx=none→dx≠ea→Q .non (upd (upd H dx (.xd [("what",v)])) ea (XW ea C dx))
def UO (P:Program)(w:World)(K:PySem.W.Frag)(mg:Str→Option Value)(base:Heap)(k:Nat)(C:Addr)(x:Str):Prop :=
 ∃ fI fd,FnOk P w K mg base ZG k fI fd ["self","what"] (ZeA K)∧Binds K fd ["self","what"] []∧XF K C fI∧mg x=some (.ref C)
def Zip (C:Addr)(EE:St→XK)(t:TA):TS:=fun _ σ H=>t σ H fun vs H1=>∃ v,vs=[v]∧∀ dx,H1 dx=none→EE σ (.ref C) (some dx) (upd H1 dx (.xd [("what",v)]))
section
variable {X:Cx}{pins:List (Addr×Obj)}{σ:St}{H:Hp}{s:Shared}
def del (H:Hp)(a:Addr):Hp:=fun b=>if b=a then none else H b
theorem XH {a b:Addr}(h:b≠a):del H a b=H b:=if_neg h
theorem Inv.untrack {a:Addr}{φ:Heap→Prop}(I:Inv X pins σ H s)(e:H a=some (.ext φ))(O:X.Old a):Inv X pins σ (del H a) s:=by
 have off:∀ b,H b=none→del H a b=none:=fun b n=>by unfold del;split;rfl;exact n
 refine ⟨I.ok,I.os,I.bare,⟨I.base.keep,I.base.slot,fun b u q n hx=>off b (I.base.free b u q n hx),I.base.there,fun b xs q=>?_,fun b u xs q=>?_,fun b ps q=>?_⟩,I.loc,I.cell,off _ I.free,fun x c hx=>off _ (I.freeC x c hx),fun p hp=>?_,fun b u q=>?_,I.len⟩
 · rw [XH (O.nt q)];exact I.base.tups b xs q
 · rw [XH (O.nf q)];exact I.base.frzs b u xs q
 · rw [XH (O.nb q)];exact I.base.tbls b ps q
 · obtain ⟨e1,e2,e3⟩:=I.pin p hp
   exact ⟨e1,off _ e2,e3⟩
 · by_cases z:b=a
   · subst z;unfold del at q;rw [if_pos rfl] at q;cases q
   · rw [XH z] at q
     exact (I.hok b u q).stay (fun _ _ _ y=>y) (fun c y=>by rw [XH (fun z=>by rw [z,e] at y;cases y)];exact y) (fun c xs y=>by rw [XH (fun z=>by rw [z,e] at y;cases y)];exact y)
end
section
variable {X:Cx}{EE:St→XK}{k:Nat}{C:Addr}{x:Str}{np cpos pos:Pos}{e:Expr}{t:TA}
theorem UE (W:YN X EE)(D:UO X.prog X.w X.K X.mg X.base k C x)(hr:Room (k+1) X.A)(hcalm:X.calm=true)(ha:PA X [e] t)(hg:Gl X x:=by rfl)(hdb:(x == ("__debug__":Str))=false:=by decide)
   (he:starEach [e] X.env=(false,eval e X.env)::starEach [] X.env:=by rfl) (hpl:(backTo cpos (starEach [] X.env)).any (·.1)=false:=by rfl):PS X (.Raise (some (.Call (.Name x np) [e] [] cpos)) none pos) (Zip C EE t):=by
 obtain ⟨fI,fd,F,hb,xf,hm⟩:=D
 intro pins s σ H D I h
 rw [arm_exec_Raise]
 obtain ⟨nm,qn,N,bs,bm,sn,sub,ab,col,dd,k0,k1,k2,k3,k5,hCb,T⟩:=Uf I.ok.mod.kin xf.xc
 refine wpAny_bind (wpAny_standAt (ZgJ (C:=C) (nm:=nm) (q:=qn) (N:=N) (bs:=bs) (sn:=sn) (sub:=sub) (ab:=ab) (col:=col) (dd:=dd) (k0:=k0) (k1:=k1) (k2:=k2) (k3:=k3) (k5:=k5) T (I.ok.hd hcalm) (wpAny_bind ?_)))
 refine wpAny_mono (Q:=fun v s₁=>∃ e oe vs,v=.ref e∧s₁.heap.get? C=some (excClassObj nm qn C N bs bm true sn sub ab col dd k0 k1 k2 k3 k5 "ValueError.__new__")∧s₁.heap.get? e=some oe∧oe.cls=.ref C∧oe.data=.fields vs∧vs[1]?=some .none∧X.xe (.ref e) s₁) ?_ (fun v s1 h1=>wpAny_bind (wpAny_standAt (wpAny_pure h1))) fun _ _ x=>x
 refine wpAny_Call_Name_kw (Xy I hg hm ?_ hdb)
 refine PySem.W.callWith_K (h₀:=X.base) I.ok.mod.kin xf.kp (Zm (ha cpos pins s σ H _ I h) fun us s1 ⟨vs,H1,I1,r,v,ev,q⟩=>⟨I1.kIn,?_⟩) he hpl
 subst ev
 obtain ⟨u,rfl,ru⟩:=Yu r
 obtain ⟨hh,g,d,tk,os⟩:=s1
 have hC1:=I1.bk _ _ hCb
 obtain ⟨oI,hoI,hoc⟩:∃ oI,hh.get? fI=some oI∧oI.cls=.type "function":=by
   obtain ⟨oI,ho,hc⟩:=Option.map_eq_some_iff.mp (show (X.K.lookup fI).map (·.cls)=some (.type "function") from beq_iff_eq.mp xf.fn)
   exact ⟨oI,I1.kIn _ _ ho,hc⟩
 refine Zio T hC1 (PySem.W.looks_findIn I1.kIn xf.init) hoI hoc (fun h' ea hm' hle=>?_) (by show 1≤sizeLine;decide)
 obtain ⟨t0,h0,h1,h2⟩:=hm'.there
 have hH1:H1 ea=none:=I1.hok.fresh hle
 have I2:Inv X pins σ (upd H1 ea (XN ea C)) ⟨h',g,d,tk,os⟩:=I1.laid (a:=ea) (o:=XN ea C) (h':=h') (t':=tk) hm'.keeps hle ⟨⟨t0,h0⟩,⟨_,h0⟩,fun h1 h2 ⟨t,e⟩ k=>⟨t,k _ e⟩⟩
 have hsp:ZeA X.K [.ref ea,v] (upd H1 ea (XN ea C)) (fun w H'=>w=.non∧∃ dx,H1 dx=none∧dx≠ea∧H'=upd (upd (upd H1 ea (XN ea C)) dx (.xd [("what",v)])) ea (XW ea C dx)) E0 :=
   ⟨ea,C,fI,v,rfl,Zc,xf,fun dx h1 h2=>⟨rfl,dx,by rw [Zg h2] at h1;exact h1,h2,rfl⟩⟩
 have r2:Vals [V.ref ea,v] [Value.ref ea,u]:=.cons rfl (.cons ru .nil)
 refine wpAny_call (codeAny_mono (F.run _ X.stack _ _ ⟨[.ref ea,u],[]⟩ [.ref ea,u] _ _ E0 (hr.make C [u] []) (I2.env0.make C [u] []) (hb _ [.ref ea,u] I2.kIn rfl) r2 hsp) fun r s' hq=>?_)
 cases r with
 | error e=>exact hq.elim
 | ok fl =>
   cases fl with
   | next=>exact False.elim hq
   | brk=>exact False.elim hq
   | cont=>exact False.elim hq
   | ret u' =>
     obtain ⟨w,H3,I3,rw',⟨ew,dx,hdx,hde,eH⟩⟩:=I2.after hq
     subst ew eH
     refine ⟨rw',?_⟩
     have at3:upd (upd (upd H1 ea (XN ea C)) dx (.xd [("what",v)])) ea (XW ea C dx) ea=some (XW ea C dx):=Zc
     obtain ⟨⟨t3,hx3⟩,_,_⟩:=(show ObjOk X.prog X.w _ s'.heap ea (XW ea C dx) from I3.hok ea _ at3)
     have I4:=I3.untrack at3 (I1.old hH1)
     have eq4:del (upd (upd (upd H1 ea (XN ea C)) dx (.xd [("what",v)])) ea (XW ea C dx)) ea=upd H1 dx (.xd [("what",v)]):=by
       funext b
       by_cases z:b=ea
       · subst z;unfold del;rw [if_pos rfl,Zg (Ne.symm hde)];exact hH1.symm
       · rw [XH z,Zg z]
         by_cases z2:b=dx
         · subst z2;rw [Zc,Zc]
         · rw [Zg z2,Zg z2,Zg z]
     rw [eq4] at I4
     refine ⟨ea,_,_,rfl,I3.bk _ _ hCb,hx3,rfl,rfl,rfl,?_⟩
     refine W pins σ H1 _ ⟨hh,g,d,tk,os⟩ s' ea C dx none I1 I4 (.inl rfl) ⟨?_,by rw [Zg (Ne.symm hde)];exact hH1,hle,_,_,hx3,rfl,rfl,rfl,rfl⟩ (q dx hdx)
     cases qb:X.base.get? ea with
     | none=>rfl
     | some ob=>have:=I1.bk _ _ qb;rw [hm'.new] at this;cases this
end
end L2
set_option maxHeartbeats 1000000
namespace L2
open PySem PySem.Spec PyProof.Rows
open PySem.Builtin PySem.Builtin.ObjectAttr
section
variable {prog:Program}{w:World}{A:Around}{E:Value→Shared→Prop}{h:Heap}{g:Array GenState}{d:Drawn}{t:Nat}{os:OsState}
variable {nm q:Str}{C N a dx:Addr}{bs bm:List Value}{sn:List Str}{sub:List Value}{ab:Bool}{col:Option Bool}{dd:Option Addr}{k0 k1 k2 k3 k5:Option Value}{name:Str}{v:Value}{o:Obj}{vs:Array Value}{mA:Str→Option Value}
abbrev UY (h:Heap)(nm q:Str)(C N:Addr)(bs bm:List Value)(sn:List Str)(sub:List Value)(ab:Bool)(col:Option Bool)(dd:Option Addr)(k0 k1 k2 k3 k5:Option Value):Prop:=h.get? C=some (excClassObj nm q C N bs bm true sn sub ab col dd k0 k1 k2 k3 k5 "ValueError.__new__")
theorem ZcV {M:Model}{nameV:Value}{Q:Unit→Shared→Prop}(T:VT bm)(hC:UY h nm q C N bs bm sn sub ab col dd k0 k1 k2 k3 k5)
   (hx:h.get? a=some o) (hc:o.cls=.ref C) (hq:Q () ⟨h,g,d,t,os⟩):wpAny M A (checkBuiltinCall "BaseException.__getattribute__" ⟨[.ref a,nameV],[]⟩) Q E ⟨h,g,d,t,os⟩:=by
 have hk:builtinKind "BaseException.__getattribute__"=some .slot:=by decide +kernel
 have hsplit:splitId "BaseException.__getattribute__"=some ("BaseException","__getattribute__"):=by decide +kernel
 have hcB:(Value.ref C::bm).contains (.type "BaseException")=true:=by rw [List.contains_cons,T.has PySem.F.attrBase_ValueError.hasBase];rfl
 have ha:=PySem.F.args_bexc_ga (.ref a) nameV
 simp only [checkBuiltinCall,hk,hsplit]
 refine wpAny_bind ?_
 · unfold isInstance
   repeat (first | (with_reducible refine wpAny_loadPart_at hx ?_;rw [hc]) | (with_reducible refine wpAny_isSubtype_exc hC ?_;rw [hcB]) | wp_step)
   exact hq
theorem x_by {tk:Tok}{fill expr:Bool}{Q:Value→Shared→Prop}(T:VT bm)(hC:UY h nm q C N bs bm sn sub ab col dd k0 k1 k2 k3 k5)
   (LG:PySem.W.Looks (model prog w) h (typeLookup (.ref C) "__getattribute__") (some (.builtin "BaseException.__getattribute__"))) (LA:PySem.W.Looks (model prog w) h (typeLookup (.ref C) "__getattr__") none)
   (hx:h.get? a=some o) (hc:o.cls=.ref C) (hh:handedOut v=pure v)
   (he:∀ (A:Around) (R:PySem.Fin→Shared→Prop) (E:Value→Shared→Prop),R (.done (.ret v)) ⟨h,g,d,t,os⟩→wpAny (model prog w) A (Builtin.«object.__getattribute__» ⟨[.ref a,.str name tk],[]⟩) R E ⟨h,g,d,t,os⟩) (hq:Q v ⟨h,g,d,t,os⟩) :
   wpAny (model prog w) A (getAttrBy (.ref a) (.str name tk) fill expr) Q E ⟨h,g,d,t,os⟩:=by
 have FB:=PySem.F.attrBase_ValueError
 have f3:=FB.ga.bind (.ref a)
 have hx0:(expr&&onTheHeap (Value.builtin "BaseException.__getattribute__"))=false:=by cases expr<;>rfl
 have hx2:(Value.builtin "BaseException.__getattribute__" == Value.builtin "object.__getattribute__")=false:=by decide +kernel
 have hx1:(onTheHeap (Value.ref C)&&Value.builtin "BaseException.__getattribute__" == Value.builtin "object.__getattribute__")=false:=by rw [hx2];rfl
 have LG':∀ {A:Around} {Q:Option Value→Shared→Prop} {E:Value→Shared→Prop},Q (some (.builtin "BaseException.__getattribute__")) ⟨h,g,d,t,os⟩→wpAny (model prog w) A (typeLookup (.ref C) "__getattribute__") Q E ⟨h,g,d,t,os⟩:=fun q=>LG _ _ _ _ (fun _ _ e=>e) q
 have LA':∀ {A:Around} {Q:Option Value→Shared→Prop} {E:Value→Shared→Prop},Q none ⟨h,g,d,t,os⟩→wpAny (model prog w) A (typeLookup (.ref C) "__getattr__") Q E ⟨h,g,d,t,os⟩:=fun q=>LA _ _ _ _ (fun _ _ e=>e) q
 repeat (any_goals (first | assumption | (with_reducible refine wpAny_loadPart_at hx ?_;rw [hc]) | with_reducible refine LG' ?_ | with_reducible refine LA' ?_ | wp_step))
 refine codeAny_call_builtin FB.ga.plain PySem.F.entry_bexc_ga (ZcV T hC hx hc (he _ _ _ ?_))
 show wpAny _ _ (handedOut v) _ _ _
 rw [hh]
 exact wpAny_pure hq
theorem ZhN {tk:Tok}{Q:PySem.Fin→Shared→Prop}(hC:UY h nm q C N bs bm sn sub ab col dd k0 k1 k2 k3 k5)(LN:PySem.W.Looks (model prog w) h (typeLookup (.ref C) name) none)
   (hx:h.get? a=some o) (hc:o.cls=.ref C) (hdi:o.dict=some dx) (hd:o.data=.fields vs) (hns:h.Ns1 dx mA) (hv:mA name=some v) (hq:Q (.done (.ret v)) ⟨h,g,d,t,os⟩) :
   wpAny (model prog w) A (Builtin.«object.__getattribute__» ⟨[.ref a,.str name tk],[]⟩) Q E ⟨h,g,d,t,os⟩:=by
 have LN':∀ {A:Around} {Q:Option Value→Shared→Prop} {E:Value→Shared→Prop},Q none ⟨h,g,d,t,os⟩→wpAny (model prog w) A (typeLookup (.ref C) name) Q E ⟨h,g,d,t,os⟩:=fun q=>LN _ _ _ _ (fun _ _ e=>e) q
 unfold Builtin.«object.__getattribute__»
 repeat (first | (with_reducible refine wpAny_loadPart_at hx ?_;rw [hc]) | (with_reducible refine LN' ?_) | wp_step)
 split
 · rename_i c hcd
   rw [hd] at hcd;cases hcd
 unfold instanceDict
 repeat (first | (with_reducible refine wpAny_loadPart_at hx ?_;rw [hc]) | with_reducible refine wpAny_loadPart_at hC ?_ | wp_step)
 rw [hdi]
 repeat (first | (with_reducible refine wpAny_nsGet hns.ns ?_;rw [hv]) | wp_step)
 exact hq
theorem ZbE {R:Result→Shared→Prop}(T:VT bm)(hC:UY h nm q C N bs bm sn sub ab col dd k0 k1 k2 k3 k5)(hx:h.get? a=some o)(hc:o.cls=.ref C)(hq:R (.ok (.ret (.ref C))) ⟨h,g,d,t,os⟩) :
   codeAny (model prog w) A (.call (.builtin "getset_descriptor.__get__") ⟨[.builtin "object.__class__",.ref a,.ref C],[]⟩) R ⟨h,g,d,t,os⟩:=by
 have hT5:(⟨h,g,d,t,os⟩:Shared).TypeIs (.builtin "object.__class__") "getset_descriptor":=PySem.F.typeOf_object_class
 have hcB:(Value.ref C::bm).contains (.type (".".intercalate ("object.__class__".cutAt '.').dropLast))=true:=by
   rw [PySem.F.owner_object_class,List.contains_cons,T.has (b:=true) (by decide +kernel)];rfl
 refine codeAny_call_builtin PySem.F.slot_gs_get.plain PySem.F.entry_gs_get (PySem.F.slot_gs_get.check _ _ _ _ _ _ _ _ hT5 (PySem.F.args_gs_get _ _ _) ?_)
 repeat (any_goals (first | assumption | (with_reducible refine wpAny_loadPart_at hx ?_;rw [hc]) | (with_reducible refine wpAny_isSubtype_exc hC ?_;rw [hcB]) | wp_step))
 refine ⟨Code.quiet_builtin _ (by decide +kernel),codeAny_builtin PySem.F.entry_object_class ?_⟩
 repeat (any_goals (first | assumption | (with_reducible refine wpAny_loadPart_at hx ?_;rw [hc]) | wp_step))
theorem Zhe {tk:Tok}{Q:PySem.Fin→Shared→Prop}(T:VT bm)(hC:UY h nm q C N bs bm sn sub ab col dd k0 k1 k2 k3 k5)(LC:PySem.W.Looks (model prog w) h (typeLookup (.ref C) "__class__") (some (.builtin "object.__class__")))
   (hx:h.get? a=some o) (hc:o.cls=.ref C) (hq:Q (.done (.ret (.ref C))) ⟨h,g,d,t,os⟩) :
   wpAny (model prog w) A (Builtin.«object.__getattribute__» ⟨[.ref a,.str "__class__" tk],[]⟩) Q E ⟨h,g,d,t,os⟩:=by
 have LC':∀ {A:Around} {Q:Option Value→Shared→Prop} {E:Value→Shared→Prop},Q (some (.builtin "object.__class__")) ⟨h,g,d,t,os⟩→wpAny (model prog w) A (typeLookup (.ref C) "__class__") Q E ⟨h,g,d,t,os⟩:=fun q=>LC _ _ _ _ (fun _ _ e=>e) q
 have hT5:(⟨h,g,d,t,os⟩:Shared).TypeIs (.builtin "object.__class__") "getset_descriptor":=PySem.F.typeOf_object_class
 have f5:=PySem.F.typeOf_object_class
 have f6:=PySem.F.slot_gs_get.lookup
 have f7:=PySem.F.slot_gs_set.lookup
 repeat (any_goals (first | assumption | (with_reducible refine wpAny_loadPart_at hx ?_;rw [hc]) | (with_reducible refine LC' ?_) | wp_step))
 refine ZbE T hC hx hc ?_
 repeat (any_goals (first | assumption | wp_step))
end
structure XG (K:PySem.W.Frag)(C:Addr):Prop where
 xc:Zbr K C=true
 nw:PySem.W.findIn K (.ref C) "what"=some none
 ga:PySem.W.findIn K (.ref C) "__getattribute__"=some (some (.builtin "BaseException.__getattribute__"))
 gh:PySem.W.findIn K (.ref C) "__getattr__"=some none
 gc:PySem.W.findIn K (.ref C) "__class__"=some (some (.builtin "object.__class__"))
theorem Zbc {K:PySem.W.Frag}{C ea:Addr}(G:XG K C):PySem.W.KitX K (.ref ea) (.ref C) (fun h=>∃ o,h.get? ea=some o∧o.cls=.ref C) where
 ty:=fun M h _ p=>by obtain ⟨o,h1,h2⟩:=p;exact h2 ▸ (PySem.W.Looks.ld h1).andThen .now
 it:=fun M h X p=>by
   obtain ⟨nm,qn,N,bs,bm,sn,sub,ab,col,dd,k0,k1,k2,k3,k5,hC,T⟩:=Uf X G.xc
   intro A' Q' E' s' k q
   unfold isType loadHead
   exact wpAny_bind (wpAny_loadPart (k _ _ hC) (wpAny_pure q))
 ne:=fun h tp dd its n sl X htp=>by
   obtain ⟨nm,qn,N,bs,bm,sn,sub,ab,col,dd,k0,k1,k2,k3,k5,hC,T⟩:=Uf X G.xc
   refine Bool.eq_false_iff.mpr fun q=>?_
   have e:C=tp:=Value.ref.inj (beq_iff_eq.mp q)
   subst e
   have z:=congrArg Obj.cls (Option.some.inj (hC.symm.trans htp))
   exact absurd (Value.type.inj z) (by decide)
 ca:=fun {prog w A E Q s} X p k=>by
   obtain ⟨nm,qn,N,bs,bm,sn,sub,ab,col,dd,k0,k1,k2,k3,k5,hC,T⟩:=Uf X G.xc
   obtain ⟨o,h1,h2⟩:=p
   obtain ⟨h,g,d,t,os⟩:=s
   have by':∀ {tk:Tok} {Q:Value→Shared→Prop} {E:Value→Shared→Prop} {A:Around},Q (.ref C) ⟨h,g,d,t+1,os⟩→wpAny (model prog w) A (getAttrBy (.ref ea) (.str "__class__" tk) false) Q E ⟨h,g,d,t+1,os⟩:=fun q =>
     x_by T hC (PySem.W.looks_findIn X G.ga) (PySem.W.looks_findIn X G.gh) h1 h2 rfl (fun A R E r=>Zhe T hC (PySem.W.looks_findIn X G.gc) h1 h2 r) q
   unfold getAttr? getAttrBy?
   repeat (any_goals (first | assumption | with_reducible apply by' | wp_step))
end L2
set_option maxHeartbeats 2000000
namespace L2
open PySem PySem.W PySem.Spec PyProof.Rows
section
variable {O:KeyOrd}{key:Nat→O.α}{n:Nat}{s:Shared}{cmp:Nat→Nat→(Bool→Shared→Prop)→Shared→Prop}
end
end L2
set_option maxHeartbeats 2000000
namespace L2
open PySem PySem.W PySem.Spec PyProof.Rows
section
variable {prog:Program}{w:World}{A:Around}{E:Value→Shared→Prop}{s:Shared}{a:Addr}{as:List Addr}{ks:List Str}{P:PySem.Fin→Shared→Prop}
end
section
variable {X:Cx}
end
end L2
set_option maxHeartbeats 2000000
namespace L2
open PySem
theorem Ux (B:Nat):∀(ts:List Str)(k:Nat)(acc:Str),(∀ t∈ts,t.length≤B)→(textFrom k acc ts).length≤acc.length+ts.length * (B+2)
 | [],_,acc,_=>by show acc.length≤acc.length+0 * (B+2);omega
 | t::r,k,acc,h=>by
   have h1:=Ux B r (k+1) (acc++(if k > 0 then ", " else "":String)++t) fun x hx=>h x (List.mem_cons_of_mem _ hx)
   have h2:=h t List.mem_cons_self
   rw [ZR,ZR] at h1
   have h3:(Str.ofString (if k > 0 then ", " else "":String)).length≤2:=by split<;>decide
   show (textFrom (k+1) (acc++(if k > 0 then ", " else "":String)++t) r).length≤acc.length+(r.length+1) * (B+2)
   rw [Nat.add_mul,Nat.one_mul]
   omega
theorem Zgu {i:Int}(h:i.natAbs≤10 ^ 31):i.natAbs.log2 < 1920∧(Str.ofString (toString i)).length≤40:=by
 constructor
 · by_cases z:i.natAbs=0
   · rw [z];decide
   · exact (Nat.log2_lt z).mpr (Nat.lt_of_le_of_lt h (by decide +kernel))
 · have e:=int_text_length_le10 (a:=i) (k:=32) (by decide) (Nat.lt_of_le_of_lt h (by decide))
   rw [ZQ,PyProof.Rows.signs_ofString,List.length_map,String.length_toList]
   omega
theorem ZaQ (q c:Nat)(h:c < 128):(Builtin.Str.reprChar q c).length≤4:=by
 by_cases e:(c == q || c == 92)=true
 · unfold Builtin.Str.reprChar;simp only [e,if_true];show 2≤4;decide
 · have e2:(c == 200 || c == 92)=false:=by
     simp only [Bool.or_eq_true,not_or,beq_iff_eq] at e
     simp only [Bool.or_eq_false_iff,beq_eq_false_iff_ne]
     exact ⟨by omega,e.2⟩
   have z:Builtin.Str.reprChar q c=Builtin.Str.reprChar 200 c:=by
     unfold Builtin.Str.reprChar
     simp only [Bool.not_eq_true] at e
     simp only [e,e2]
   rw [z]
   have all:∀ c:_root_.Fin 128,(Builtin.Str.reprChar 200 c.val).length≤4:=by decide +kernel
   exact all ⟨c,h⟩
theorem ZeH {x:Str}(h:∀ c∈x.cps.toList,c < 128):(reprText x).length≤2+4 * x.length:=by
 rw [← reprLen_eq,← Array.foldl_toList,ZQ]
 have gen:∀ (l:List Nat) (n:Nat),(∀ c∈l,c < 128)→l.foldl (fun n c=>n+(Builtin.Str.reprChar (reprQuote x) c).length) n≤n+4 * l.length:=by
   intro l
   induction l with
   | nil=>intro n _;simp
   | cons c r ih =>
     intro n hc
     have h1:=ZaQ (reprQuote x) c (hc c List.mem_cons_self)
     have h2:=ih (n+(Builtin.Str.reprChar (reprQuote x) c).length) fun d hd=>hc d (List.mem_cons_of_mem _ hd)
     rw [List.foldl_cons,List.length_cons]
     omega
 exact gen _ _ h
def YJ (v:V):Prop:=v=.non∨Uc v
def YL:V→PyData
 | .int i=>.int i
 | .str x=>.str x
 | _=>.none
theorem Zcb {H:Hp}{v:V}(h:YJ v):DataOf H v (YL v):=by
 rcases h with rfl | h
 · exact .non
 · cases v<;>first | exact .int _ | exact .str _ | exact h.elim
structure Uy (d:PyData)(n k:Nat):Prop where
 sh:d.showable=true
 ln:d.shown.length≤n
 dp:d.depth≤k
theorem Zcj {x:Str}{n:Nat}(h:∀ c∈x.cps.toList,c < 128)(hl:2+4 * x.length≤n)(k:Nat):Uy (.str x) n k:=⟨rfl,Nat.le_trans (ZeH h) hl,Nat.zero_le _⟩
theorem Zed {v:V}(h:YJ v)(k:Nat):Uy (YL v) 200 k:=by
 rcases h with rfl | h
 · exact ⟨rfl,by show 4≤200;decide,Nat.zero_le _⟩
 · cases v with
   | int i =>
     obtain ⟨h1,h2⟩:=Zgu (show i.natAbs≤10 ^ 31 from h)
     exact ⟨decide_eq_true h1,Nat.le_trans h2 (by decide),Nat.zero_le _⟩
   | str x =>
     refine Zcj (fun c hc=>?_) (by have:x.length≤41:=h.1;omega) k
     have:=List.all_eq_true.mp h.2 c hc
     unfold WK at this
     simp only [Bool.and_eq_true,decide_eq_true_eq] at this
     omega
   | _=>exact h.elim
theorem Zew {x:Str}(h:Xo x)(k:Nat):Uy (.str x) 40 k:=by
 refine Zcj (fun c hc=>?_) (by have:=h.2.1;omega) k
 have:=List.all_eq_true.mp h.2.2 c hc
 unfold WA at this
 simp only [Bool.and_eq_true,decide_eq_true_eq] at this
 omega
theorem XR:∀ ds:List PyData,PyData.shownAll ds=ds.map PyData.shown
 | []=>rfl
 | d::r=>by rw [PyData.shownAll,XR r];rfl
theorem Xf:∀{ds:List PyData},(∀ d∈ds,d.showable=true)→PyData.showableAll ds=true
 | [],_=>rfl
 | d::r,h=>by rw [PyData.showableAll,h d List.mem_cons_self,Xf fun e he=>h e (List.mem_cons_of_mem _ he)];rfl
theorem Wd {k:Nat}:∀{ds:List PyData},(∀ d∈ds,d.depth≤k)→PyData.depthAll ds≤k
 | [],_=>Nat.zero_le _
 | d::r,h=>by
   have h1:=h d List.mem_cons_self
   have h2:=Wd (k:=k) (ds:=r) fun e he=>h e (List.mem_cons_of_mem _ he)
   simp [PyData.depthAll];omega
theorem Zex {ds:List PyData}{n k:Nat}(h:∀ d∈ds,Uy d n k):Uy (.list ds) (2+ds.length * (n+2)) (k+1):=by
 refine ⟨Xf fun d hd=>(h d hd).sh,?_,?_⟩
 · show (listText (PyData.shownAll ds)).length≤_
   rw [XR]
   show (textFrom 0 "[" (ds.map PyData.shown)++Str.ofString "]").length≤_
   rw [ZR]
   have z:=Ux n (ds.map PyData.shown) 0 "[" (fun t ht=>by
     obtain ⟨d,hd,rfl⟩:=List.mem_map.mp ht
     exact (h d hd).ln)
   rw [List.length_map] at z
   have z1:(Str.ofString "[").length=1:=by decide
   have z2:(Str.ofString "]").length=1:=by decide
   have z3:(textFrom 0 "[" (ds.map PyData.shown)).length≤1+ds.length * (n+2):=by rw [← z1];exact z
   omega
 · have:=Wd (k:=k) fun d hd=>(h d hd).dp
   show PyData.depthAll ds+1≤_
   omega
theorem ZeB {a b:PyData}{n m k:Nat}(h1:Uy a n k)(h2:Uy b m k):Uy (.tuple [a,b]) (4+n+m) (k+1):=by
 refine ⟨?_,?_,?_⟩
 · show PyData.showableAll [a,b]=true
   simp [PyData.showableAll,h1.sh,h2.sh]
 · show (tupleText [a.shown,b.shown]).length≤_
   have e:(tupleText [a.shown,b.shown]).length=1+(a.shown.length+2+b.shown.length)+1:=by
     show ((Str.ofString "("++((a.shown++Str.ofString ", ")++b.shown))++Str.ofString ")").length=_
     rw [ZR,ZR,ZR,ZR];rfl
   have:=h1.ln
   have:=h2.ln
   omega
 · have:=h1.dp
   have:=h2.dp
   show PyData.depthAll [a,b]+1≤_
   simp [PyData.depthAll];omega
theorem VY {H:Hp}:∀{vs:List V},(∀ v∈vs,YJ v)→DatasOf H vs (vs.map YL)
 | [],_=>.nil
 | v::r,h=>.cons (Zcb (h v List.mem_cons_self)) (VY fun u hu=>h u (List.mem_cons_of_mem _ hu))
def Xn (p:Str×V):PyData:=.tuple [.str p.1,YL p.2]
end L2
set_option maxHeartbeats 2000000
namespace L2
open PySem
theorem Sep.im {Δ:Rs}{H:Hp}{a:Addr}{R T:Yh}[U:Up R](S:Sep ((a,R)::Δ) H)(f:∀ h,R a h→Same h H→(∀ b o,H b=some o→Yw o=false→h b=some o)→T a h):Sep ((a,T)::Δ) H:=by
 obtain ⟨h,l,r,S⟩:=S
 have s1:Same h fun b=>match h b with | some o=>some o | none=>some_of H [] b:=fun b o e=>by simp only [e]
 have le:Same (fun b=>match h b with | some o=>some o | none=>some_of H [] b) H:=fun b o e=>by
   dsimp only at e
   cases q:h b with
   | some z=>rw [q] at e;cases e;exact l _ _ q
   | none=>rw [q] at e;exact Ue _ _ e
 refine ⟨_,le,f _ (U.up r s1) le fun b o e m=>?_,S.mono fun b o e=>?_⟩
 · cases q:h b with
   | some z=>have:=l _ _ q;rw [e] at this;cases this;rfl
   | none=>exact Wi e m
 · obtain ⟨e1,e2⟩:=cut_some.mp e
   refine cut_some.mpr ⟨e1,fun u q=>?_⟩
   try dsimp only at q
   cases z:h b with
   | some x=>rw [z] at q;cases q;exact e2 _ z
   | none =>
     rw [z] at q
     cases mm:Yw u with
     | false=>rfl
     | true=>have:=Wz q mm;cases this
def PLs (ps:List (Str×V)):Yh:=fun l h=>∃ ts:List Addr,h l=some (.lst (ts.map V.ref))∧PairT h ts ps
instance {ps:List (Str×V)}:Up (PLs ps):=⟨fun ⟨ts,e,p⟩ s=>⟨ts,s _ _ e,p.tf s.tf⟩⟩
theorem Sep.pls {Δ:Rs}{H:Hp}{l:Addr}{ts:List Addr}{ps:List (Str×V)}(S:Sep ((l,ZK (ts.map V.ref))::Δ) H)(h:PairT H ts ps):Sep ((l,PLs ps)::Δ) H :=
 S.im fun g e _ im=>⟨ts,e,h.1,fun i a p e1 e2=>im _ _ (h.2 i a p e1 e2) rfl⟩
end L2
set_option maxHeartbeats 2000000
namespace L2
open PySem
end L2
set_option maxHeartbeats 2000000
namespace L2
open PySem PySem.Spec PyProof.Rows
section
variable {X:Cx}
end
end L2
set_option maxHeartbeats 1000000
namespace L2
open PySem PySem.Spec PyProof.Rows
def Zjz (K:PySem.W.Frag)(ta:TE):TE:=fun σ H Q=>ta σ H fun x H1=>∃ (ea C dx:Addr) (fs:List (Str×V)) (v:V),x=.ref ea∧H1 ea=some (XO ea C dx)∧H1 dx=some (.xd fs)∧XG K C∧fs.lookup ("what":Str)=some v∧Q v H1
def TyX (K:PySem.W.Frag)(H:Hp)(x:V)(t:Value):Prop:=Xh K H x t∨∃ ea C dx,x=.ref ea∧t=.ref C∧H ea=some (XO ea C dx)∧XG K C
def rIsi (K:PySem.W.Frag):List V→Hp→VK→Prop:=fun xs H Q=>∃ x c t b,xs=[x,c]∧TyX K H x t∧((∃ D,c=.ref D∧PySem.W.kitOne K t (.ref D)=some b)∨(∃ T,c=.ty T∧PySem.W.kitOne K t (.type T)=some b))∧Q (.bl b) H
def Zjg (K:PySem.W.Frag):List V→Hp→VK→Prop:=fun xs H Q=>∃(ea C dx tp:Addr)(Ds:List Addr)(b:Bool),xs=[.ref ea,.ref tp]∧H ea=some (XO ea C dx)∧XG K C∧H tp=some (.tup (Ds.map V.ref))∧PySem.W.kitAny K (.ref C) (Ds.map Value.ref)=some b∧Q (.bl b) H
section
variable {X:Cx}{e:Expr}{pos:Pos}{ta:TE}
theorem Zhd (he:PE X e ta)(hb:attributeBase e "what" X.env (eval e X.env)=eval e X.env):PE X (.Attribute e "what" pos) (Zjz X.K ta):=by
 intro pins s σ H Q I h
 refine Zcn hb (Zm (he pins s σ H _ I h) fun u s1 ⟨x,H1,I1,rx,ea,C,dx,fs,v,ex,hea,hdx,G,l,q⟩=>?_)
 subst ex
 obtain rfl:u=Value.ref ea:=rx
 obtain ⟨⟨oe,vs,he1,he2,he3,he4⟩,_,_⟩:=(show ObjOk X.prog X.w H1 s1.heap ea (XO ea C dx) from I1.hok ea _ hea)
 obtain ⟨mA,hns,hr⟩:=(show ObjOk X.prog X.w H1 s1.heap dx (.xd fs) from I1.hok dx _ hdx)
 obtain ⟨u,hu,ru⟩:=RelO.some_of (v:=v) (o:=mA "what") (by rw [← l];exact hr "what")
 obtain ⟨nm,qn,N,bs,bm,sn,sub,ab,col,dd,k0,k1,k2,k3,k5,hC,T⟩:=Uf I1.kIn G.xc
 have hK:=I1.kIn
 have I2:=I1.tok (s1.toks+1)
 obtain ⟨hh,g,d,tk,os⟩:=s1
 refine wpAny_bind (wpAny_mkText ?_)
 exact x_by T hC (PySem.W.looks_findIn hK G.ga) (PySem.W.looks_findIn hK G.gh) he1 he2 (PySem.W.handedOut_of (Zal ru)) (fun A R E r=>ZhN hC (PySem.W.looks_findIn hK G.nw) he1 he2 he3 he4 hns hu r) ⟨v,H1,I2,ru,q⟩
theorem ZbK {pins:List (Addr×Obj)}{σ:St}{H:Hp}{s:Shared}{A:Around}{E:Value→Shared→Prop}{Q:Value→Shared→Prop}{c:Value}{b:Bool}{x:V}{u t:Value}(I:Inv X pins σ H s)(rx:RelV x u)(ty:TyX X.K H x t)(e:PySem.W.kitOne X.K t c=some b)(h:∀ tk,Q (.bool b) { s with toks:=tk }) :
   wpAny (model X.prog X.w) A (call (.builtin "isinstance") [u,c]) Q E s:=by
 rcases ty with ty | ⟨ea,C,dx,rfl,rfl,hea,G⟩
 · exact Zeq I rx ty e h
 · cases (show u=Value.ref ea from rx)
   obtain ⟨⟨oe,vs,he1,he2,_⟩,_,_⟩:=(show ObjOk X.prog X.w H s.heap ea (XO ea C dx) from I.hok ea _ hea)
   exact PySem.W.kia_one (Zbc G) I.kIn ⟨oe,he1,he2⟩ e (fun z=>nomatch z) h
theorem ZT:Ys X (.builtin "isinstance") (rIsi X.K):=by
 intro pins s σ H xs us Q I r h
 obtain ⟨x,c,t,b,rfl,ty,hc,q⟩:=h
 obtain ⟨u,u',rfl,ru,ru'⟩:=ZaB r
 rcases hc with ⟨D,rfl,e⟩ | ⟨T,rfl,e⟩
 · cases (show u'=Value.ref D from ru')
   exact ZbK I ru ty e fun tk=>⟨.bl b,H,I.tok tk,rfl,q⟩
 · cases (show u'=Value.type T from ru')
   exact ZbK I ru ty e fun tk=>⟨.bl b,H,I.tok tk,rfl,q⟩
theorem Vl:∀{Ds:List Addr}{us:List Value},Vals (Ds.map V.ref) us→us=Ds.map Value.ref
 | [],_,h=>by cases h;rfl
 | D::Ds,_,h=>by
   cases h with
   | cons r t=>rw [Vl t,show _=Value.ref D from r];rfl
theorem VP:Ys X (.builtin "isinstance") (Zjg X.K):=by
 intro pins s σ H xs us Q I r h
 obtain ⟨ea,C,dx,tp,Ds,b,rfl,hea,G,htp,e,q⟩:=h
 obtain ⟨u,u',rfl,ru,ru'⟩:=ZaB r
 cases (show u=Value.ref ea from ru)
 cases (show u'=Value.ref tp from ru')
 obtain ⟨⟨oe,vs,he1,he2,_⟩,_,_⟩:=(show ObjOk X.prog X.w H s.heap ea (XO ea C dx) from I.hok ea _ hea)
 obtain ⟨_,its,rv,p⟩:=(show ObjOk X.prog X.w H s.heap tp (.tup (Ds.map V.ref)) from I.hok tp _ htp)
 obtain ⟨⟨oc,odi,oda,osl⟩,h1,h2,n,h3⟩:=p
 dsimp only at h2 h3
 subst h2 h3
 rw [Vl rv] at h1
 exact PySem.W.kia_tup (Zbc G) I.kIn ⟨oe,he1,he2⟩ h1 e (fun z=>nomatch z) fun tk=>⟨.bl b,H,I.tok tk,rfl,q⟩
end
section
variable {X:Cx}
end
section
variable {X:Cx}{elt iter tg cnd:Expr}{xa xb:Str}{pos:Pos}{scope:Scope}{wi:TI}{te:TE}{tc:TT}{g:TG}
end
end L2
set_option maxHeartbeats 2000000
namespace L2
open PySem PySem.Spec PyProof.Rows
mutual
inductive DatT (K:PySem.W.Frag)(H:Hp):V→PyData→Prop
 | non:DatT K H .non .none
 | int (i):DatT K H (.int i) (.int i)
 | str (x):DatT K H (.str x) (.str x)
 | tup {a xs ds}:SqT K H a xs→DatTs K H xs ds→DatT K H (.ref a) (.tuple ds)
inductive DatTs (K:PySem.W.Frag)(H:Hp):List V→List PyData→Prop
 | nil:DatTs K H [] []
 | cons {v d vs ds}:DatT K H v d→DatTs K H vs ds→DatTs K H (v::vs) (d::ds)
end
section
variable {X:Cx}{pins:List (Addr×Obj)}{σ:St}{H:Hp}{s:Shared}
mutual
theorem DatT.reads (I:Inv X pins σ H s):∀{v d}(u:Value),DatT X.K H v d→RelV v u→d.hasDict=false∧∃ as,Reads s.heap u d as
 | _,_,u,.non,r=>by cases (show u=.none from r);exact ⟨rfl,_,.none⟩
 | _,_,u,.int i,r=>by obtain ⟨t,e⟩:=(show ∃ t,u=.int i t from r);subst e;exact ⟨rfl,_,.int i t⟩
 | _,_,u,.str x,r=>by obtain ⟨t,e⟩:=(show ∃ t,u=.str x t from r);subst e;exact ⟨rfl,_,.str x t⟩
 | _,_,u,.tup (a:=a) (xs:=xs) e q,r=>by
   cases (show u=.ref a from r)
   obtain ⟨its,rv,⟨o,g,c,n,d⟩,_⟩:=I.tuple e
   obtain ⟨nd,as,ra⟩:=DatTs.reads I its q rv
   exact ⟨by simpa [PyData.hasDict] using nd,_,.tuple g c d (by simpa using ra)⟩
theorem DatTs.reads (I:Inv X pins σ H s):∀{vs ds}(us:List Value),DatTs X.K H vs ds→Vals vs us→PyData.hasDictAll ds=false∧∃ as,ReadsAll s.heap us ds as
 | _,_,_,.nil,.nil=>⟨rfl,_,.nil⟩
 | _,_,_,.cons r t,.cons rv tv=>by
   obtain ⟨n1,as,r1⟩:=DatT.reads I _ r rv
   obtain ⟨n2,bs,r2⟩:=DatTs.reads I _ t tv
   exact ⟨by simp [PyData.hasDictAll,n1,n2],_,.cons r1 r2⟩
end
end
theorem ZaW (n:Nat):∀ ts:List Str,(∀ t∈ts,t.length≤n)→piled ts≤ts.length * (n+2)
 | [],_=>by simp [piled]
 | t::r,h=>by
   have h1:=ZaW n r fun x hx=>h x (List.mem_cons_of_mem _ hx)
   have h2:=h t List.mem_cons_self
   rw [List.length_cons,Nat.add_mul]
   simp only [piled] at h1 ⊢
   simp only [List.map_cons,List.sum_cons] at h1 ⊢
   omega
theorem ZdD {ds:List PyData}{n k:Nat}(h:∀ d∈ds,Uy d n k):Uy (.tuple ds) (3+ds.length * (n+2)) (k+1):=by
 refine ⟨Xf fun d hd=>(h d hd).sh,?_,?_⟩
 · show (tupleText (PyData.shownAll ds)).length≤_
   rw [XR]
   have z2:(Str.ofString (if (ds.map PyData.shown).length == 1 then ",)" else ")":String)).length≤2:=by split<;>decide
   have z3:(Str.join ", " (ds.map PyData.shown)).length≤ds.length * (n+2):=by
     cases ds with
     | nil=>show 0≤_;omega
     | cons d r =>
       have e:=join_length_add ((d::r).map PyData.shown) (by simp)
       have p:=ZaW n ((d::r).map PyData.shown) (fun t ht=>by
         obtain ⟨x,hx,rfl⟩:=List.mem_map.mp ht
         exact (h x hx).ln)
       rw [List.length_map] at p
       omega
   show (Str.ofString "("++Str.join ", " (ds.map PyData.shown)++Str.ofString (if (ds.map PyData.shown).length == 1 then ",)" else ")":String)).length≤_
   rw [ZR,ZR]
   have z1:(Str.ofString "(").length=1:=by decide
   omega
 · have:=Wd (k:=k) fun d hd=>(h d hd).dp
   show PyData.depthAll ds+1≤_
   omega
end L2
set_option maxHeartbeats 2000000
namespace L2
open PySem
end L2
set_option maxHeartbeats 2000000
namespace L2
open PySem PySem.W PySem.Spec PyProof.Rows
section
variable {X:Cx}
end
end L2
set_option maxHeartbeats 2000000
namespace L2
open PySem
def tCut (t u:TS):TS:=fun D σ H=>∃ I:St→Hp→Prop,t { D with nx:=I } σ H∧∀ σ' H',I σ' H'→u D σ' H'
theorem YU {X:Cx}{st:Stmt}{rest:List Stmt}{t u:TS}(h1:PS X st t)(h2:PSs X rest u):PSs X (st::rest) (tCut t u):=by
 intro pins s σ H D I h
 obtain ⟨J,h,g⟩:=h
 refine wpAny_execs_cons (Zm (h1 pins s σ H { D with nx:=J } I h) fun f s1 q=>?_)
 cases f with
 | next =>
   obtain ⟨σ',H',I',q⟩:=q
   exact h2 pins s1 σ' H' D I' (g _ _ q)
 | ret v=>exact q
 | brk=>exact q
 | cont=>exact q
end L2
set_option maxHeartbeats 2000000
namespace L2
open PySem PySem.Spec PyProof.Rows
section
variable {X:Cx}{pins:List (Addr×Obj)}{σ:St}{H:Hp}{s:Shared}{d:Addr}{o:Obj}{kvs:List (Zl×V)}
end
section
variable {X:Cx}{tg:Expr}
end
end L2
set_option maxHeartbeats 2000000
namespace L2
open PySem PySem.W PySem.Spec PyProof.Rows
section
variable {X:Cx}
end
end L2
set_option maxHeartbeats 2000000
namespace L2
open PySem
end L2
set_option maxHeartbeats 2000000
namespace L2
open PySem PySem.W PySem.Spec PyProof.Rows
section
variable {X:Cx}
end
end L2
set_option maxHeartbeats 2000000
namespace L2
open PySem PySem.Spec PyProof.Rows
end L2
set_option maxHeartbeats 2000000
namespace L2
open PySem PySem.Spec PyProof.Rows
end L2
set_option maxHeartbeats 2000000
namespace L2
open PySem PySem.W PySem.Spec PyProof.Rows
section
variable {X:Cx}
end
end L2
set_option maxHeartbeats 1000000
namespace L2
open PySem PySem.Spec PyProof.Rows
section
variable {X:Cx}
end
end L2
set_option maxHeartbeats 2000000
namespace L2
open PySem PySem.W PySem.Spec PyProof.Rows
def WY (ts:List (Pos×Addr)):List Value:=ts.flatMap fun p=>[rawInt p.1.line,rawInt p.1.col,.ref p.2]
def LamsAt (H:Hp)(Pl:Addr)(qual:Str):Prop:=∃ ts:List (Pos×Addr),H Pl=some (.tbl (WY ts).toArray)∧∀ p∈ts,H p.2=some (.ext (XE p.2 qual))
theorem Zbi:∀ ts,TriplesOk (WY ts)
 | []=>trivial
 | p::r=>by
   show TriplesOk (rawInt p.1.line::rawInt p.1.col::.ref p.2::WY r)
   exact Zbi r
theorem VR {pos:Pos}{v:Value}:∀{ts:List (Pos×Addr)},codeAmong pos (WY ts)=some v→∃ p∈ts,v=.ref p.2
 | [],h=>by cases h
 | p :: r,h=>by
   have h:(if (p.1.line:Int) == pos.line&&(p.1.col:Int) == pos.col then some (Value.ref p.2) else codeAmong pos (WY r))=some v:=h
   split at h
   · cases h;exact ⟨p,List.mem_cons_self ..,rfl⟩
   · obtain ⟨q,hq,e⟩:=VR h
     exact ⟨q,List.mem_cons_of_mem _ hq,e⟩
theorem Zgt (ts:List (Pos×Addr))(pos:Pos)(c:Addr):WY (ts++[(pos,c)])=WY ts++[rawInt pos.line,rawInt pos.col,.ref c]:=by
 unfold WY;rw [List.flatMap_append];rfl
section
variable {X:Cx}{pins:List (Addr×Obj)}{σ:List (Option V)}{H:Hp}{s:Shared}
theorem ZeG {A:Around}{E:Value→Shared→Prop}{Q:Value→Shared→Prop}{c Pl:Addr}{args:Arguments}{body:Expr}{sc:Scope}{lpos:Pos}(I:Inv X pins σ H s)(hcode:X.env.code=.ref c)(C:codeHdIn X.K c Pl=true)(hBm:XY X.base X.mg)(hL:LamsAt H Pl (X.env.qual++"<lambda>"))
   (hdef:defaultsOf args X.env=([],[])) (hfree:∀ y∈sc.names,y.2=.free→∃ c,X.env.cells.lookup y.1=some c)
   (h:∀ (q:Addr) (H':Hp) (s':Shared) (pm cdv ct:Value) (cl:List (Str×Addr)),Inv X pins σ H' s'→Grown Pl H H'→LamsAt H' Pl (X.env.qual++"<lambda>")→(∀ y c,cl.lookup y=some c→X.env.cells.lookup y=some c)→(∀ y∈sc.names,y.2=.free→cl.lookup y.1≠none)→H' q=none→s.heap.objs.size≤q →
     s'.heap.get? q=some { cls:=.type "function",data:=.func (kla_fn "<lambda>" (X.env.qual++"<lambda>") args body sc cl pm cdv ct) }→(∃ cc,cdv=.ref cc∧H' cc=some (.ext (XE cc (X.env.qual++"<lambda>"))))→Q (.ref q) s') :
   wpAny (model X.prog X.w) A (eval (.Lambda args body sc lpos) X.env) Q E s:=by
 refine kla_eval hdef ?_
 obtain ⟨cl,hcl,cl1,cl2⟩:=UP hfree
 have hg:=I.mod.glob.keeps I.bk
 have CH:=codeHd_of_K I.kIn C
 obtain ⟨ts,e,ec⟩:=hL
 have hP:s.heap.get? Pl=some (tabObj (WY ts).toArray):=I.hok Pl _ e
 have bmAt:s.heap.BuiltinsAt X.mg Pl∧mainGlobals≠Pl:=by
   obtain ⟨bm,ob,b1,b2,b3,b4,b5,b6⟩:=hBm
   have b3':=I.bk _ _ b3
   have hmg:mainGlobals≠Pl:=fun z=>by
     obtain ⟨o,es,ep,y,hd,_⟩:=hg
     rw [z,hP] at y;cases y;cases hd
   refine ⟨⟨bm,ob,b1,b2,fun z=>?_,(fun z=>by rw [z,hP] at b3';cases b3';cases b4),b3',b4,b5,b6⟩,hmg⟩
   obtain ⟨o,es,ep,y,hd,_⟩:=hg
   rw [← z,b3'] at y;cases y
   rw [b6] at hd;cases hd
 obtain ⟨hb,hgP⟩:=bmAt
 cases hf:codeAmong lpos (WY ts) with
 | none =>
   refine kla_makeFunction (clos:=cl) hcl I.ok.glob hg hcode CH hP (Zbi ts) hf hgP hb fun c' ctv h' tk hx hge hlt hrec hT=>?_
   have I1:=I.table (t':=tk) (h':=h') (qual:=X.env.qual++"<lambda>") (lpos:=lpos) e (fun b o hb' y=>hx b o hb' y) hT hge hrec
   have hcn:H c'=none:=I.hok.fresh hge
   have hcP:c'≠Pl:=fun z=>by rw [z,e] at hcn;cases hcn
   have gr:Grown Pl H (upd (upd H Pl (.tbl ((WY ts).toArray++#[rawInt lpos.line,rawInt lpos.col,.ref c']))) c' (.ext (XE c' (X.env.qual++"<lambda>")))):=fun b o h1 y=>by rw [Zg (Zq y hcn),Zg h1];exact y
   refine h _ _ _ ((X.mg "__name__").getD .none) (.ref c') ctv cl (I1.kept (t':=tk) fun b o y=>Heap.get?_push_of_some _ y) gr ⟨ts++[(lpos,c')],?_,fun p hp=>?_⟩ cl1 cl2 (I1.hok.fresh (Nat.le_refl _)) (Nat.le_of_lt (Nat.lt_of_le_of_lt hge hlt)) (Heap.get?_push_size _ rfl) ⟨c',rfl,Zc⟩
   · rw [Zg hcP.symm,Zc,Zgt];simp
   · rcases List.mem_append.mp hp with y | y
     · have e2:=ec p y
       exact gr _ _ (fun z=>by rw [z,e] at e2;cases e2) e2
     · rw [List.mem_singleton.mp y];exact Zc
 | some v =>
   obtain ⟨p,hp,rfl⟩:=VR hf
   have hrec:s.heap.CodeRec (.ref p.2) (X.env.qual++"<lambda>"):=(I.hok p.2 _ (ec p hp)).1
   refine kla_makeFunctionHit (clos:=cl) (cv:=.ref p.2) hcl I.ok.glob hg hcode CH hP (Zbi ts) hf hb fun ctv h' tk hk hz=>?_
   exact h _ _ _ ((X.mg "__name__").getD .none) (.ref p.2) ctv cl ((I.kept (h':=h') (t':=tk) hk).kept (t':=tk) fun b o y=>Heap.get?_push_of_some _ y) (fun b o _ y=>y) ⟨ts,e,ec⟩ cl1 cl2 (I.hok.fresh hz) hz (Heap.get?_push_size _ rfl) ⟨p.2,rfl,ec p hp⟩
end
end L2
set_option maxHeartbeats 2000000
namespace L2
open PySem PySem.W PySem.Spec PyProof.Rows
def ZcN (b:Addr)(o:Obj):HO:=.ext fun h=>h.get? b=some o
abbrev Pn:=List (Addr×Obj)
def cov (H:Hp)(cs:Pn):Hp:=fun b=>match cs.lookup b with
 | some o=>some (ZcN b o)
 | none=>H b
def unc (H:Hp)(cs:Pn):Hp:=fun b=>match cs.lookup b with
 | some _=>none
 | none=>H b
def Has (cs:Pn)(H:Hp):Prop:=∀ b o,cs.lookup b=some o→H b=some (ZcN b o)
def YC (cs:Pn)(H:Hp):Prop:=∀ b o,cs.lookup b=some o→H b=none
def Ww (cs:Pn)(h:Heap):Prop:=∀ b o,cs.lookup b=some o→h.get? b=some o
section
variable {cs:Pn}{H H' H2:Hp}{h h':Heap}{b:Addr}{o:Obj}{P:Program}{w:World}{fs:List Addr}
theorem Zej (e:cs.lookup b=some o):cov H cs b=some (ZcN b o):=by unfold cov;rw [e]
theorem Yc (e:cs.lookup b=none):cov H cs b=H b:=by unfold cov;rw [e]
theorem Xq (e:cs.lookup b=some o):unc H cs b=none:=by unfold unc;rw [e]
theorem ZO (e:cs.lookup b=none):unc H cs b=H b:=by unfold unc;rw [e]
theorem has_cov:Has cs (cov H cs):=fun b o e=>Zej e
theorem Has.same (a:Has cs H)(s:Same H H'):Has cs H':=fun b o e=>s _ _ (a b o e)
theorem WU (a:YC cs H){u:HO}(e:H b=some u):cs.lookup b=none:=by
 cases q:cs.lookup b with
 | none=>rfl
 | some o=>rw [a b o q] at e;cases e
theorem Xe (a:Has cs H){u:HO}(e:H b=some u)(n:∀ φ,u≠.ext φ):cs.lookup b=none:=by
 cases q:cs.lookup b with
 | none=>rfl
 | some o=>rw [a b o q] at e;cases e;exact absurd rfl (n _)
theorem Wk (a:Has cs H)(e:H b=none):cs.lookup b=none:=by
 cases q:cs.lookup b with
 | none=>rfl
 | some o=>rw [a b o q] at e;cases e
theorem YR (a:YC cs H):Same H (cov H cs):=fun b u e=>by rw [Yc (WU a e)];exact e
theorem UF (a:YC cs H')(s:Same (cov H' cs) H2):Same H' (unc H2 cs):=fun b u e=>by
 have q:=WU a e
 rw [ZO q];exact s _ _ (by rw [Yc q];exact e)
theorem ZhQ (e:h.get? b=some o):ObjOk P w H h b (ZcN b o):=⟨e,⟨o,e⟩,fun _ _ a k=>k _ a⟩
theorem VC (x:HOk P w H h)(a:Has cs H):Ww cs h:=fun b o e=>(x b _ (a b o e)).1
theorem HOk.unc (x:HOk P w H h)(a:Has cs H):HOk P w (unc H cs) h:=fun b u e=>by
 have q:cs.lookup b=none:=by
   cases q:cs.lookup b with
   | none=>rfl
   | some o=>rw [Xq q] at e;cases e
 rw [ZO q] at e
 refine (x b u e).stay (fun _ _ _ z=>z) (fun c z=>?_) fun c xs z=>?_
 · rw [ZO (Xe a z fun _ z=>by cases z)];exact z
 · rw [ZO (Xe a z fun _ z=>by cases z)];exact z
theorem HOk.cov (x:HOk P w H h)(a:YC cs H)(k:Ww cs h):HOk P w (cov H cs) h:=fun b u e=>by
 cases q:cs.lookup b with
 | some o=>rw [Zej q] at e;cases e;exact ZhQ (k b o q)
 | none =>
   rw [Yc q] at e
   refine (x b u e).stay (fun _ _ _ z=>z) (fun c z=>?_) fun c xs z=>?_
   · exact YR a _ _ z
   · exact YR a _ _ z
theorem Un.cov (u:Un fs [] (unc H cs) H' h h')(a:Has cs H)(k:Ww cs h):Un fs [] H (cov H' cs) h h':=by
 have hn:YC cs H':=fun b o e=>u.free b o (k b o e) (Xq e) (by simp)
 refine ⟨fun b ob q n hb hx=>?_,fun b ob q n hb hx=>?_,fun b ob q n hx=>?_,fun b ob q hx=>u.there b ob q hx,fun b xs q=>?_,fun b ob xs q=>?_,fun b ps q=>?_⟩
 · exact u.keep b ob q (by rw [ZO (Wk a n)];exact n) hb hx
 · exact u.slot b ob q (by rw [ZO (Wk a n)];exact n) hb hx
 · rw [Yc (Wk a n)];exact u.free b ob q (by rw [ZO (Wk a n)];exact n) hx
 · have z:=Xe a q fun _ z=>by cases z
   exact YR hn _ _ (u.tups b xs (by rw [ZO z];exact q))
 · have z:=Xe a q fun _ z=>by cases z
   exact YR hn _ _ (u.frzs b ob xs (by rw [ZO z];exact q))
 · have z:=Xe a q fun _ z=>by cases z
   obtain ⟨m,e⟩:=u.tbls b ps (by rw [ZO z];exact q)
   exact ⟨m,YR hn _ _ e⟩
theorem Un.uncov (u:Un fs [] (L2.cov H cs) H2 h h')(n:YC cs H)(k:Ww cs h)(k':Ww cs h'):Un fs [] H (unc H2 cs) h h':=by
 refine ⟨fun b ob q m hb hx=>?_,fun b ob q m hb hx=>?_,fun b ob q m hx=>?_,fun b ob q hx=>u.there b ob q hx,fun b xs q=>?_,fun b ob xs q=>?_,fun b ps q=>?_⟩
 · cases e:cs.lookup b with
   | some o=>have:=k b o e;rw [q] at this;cases this;exact k' b _ e
   | none=>exact u.keep b ob q (by rw [Yc e];exact m) hb hx
 · cases e:cs.lookup b with
   | some o=>have:=k b o e;rw [q] at this;cases this;exact ⟨_,k' b _ e⟩
   | none=>exact u.slot b ob q (by rw [Yc e];exact m) hb hx
 · cases e:cs.lookup b with
   | some o=>exact Xq e
   | none=>rw [ZO e];exact u.free b ob q (by rw [Yc e];exact m) hx
 · have z:=WU n q
   rw [ZO z];exact u.tups b xs (by rw [Yc z];exact q)
 · have z:=WU n q
   rw [ZO z];exact u.frzs b ob xs (by rw [Yc z];exact q)
 · have z:=WU n q
   obtain ⟨m,e⟩:=u.tbls b ps (by rw [Yc z];exact q)
   exact ⟨m,by rw [ZO z];exact e⟩
theorem ExcAt.re {base:Heap}{n:Nat}{ea C dx:Addr}{fl:Option Value}(x:ExcAt base n H ea C dx fl h)(f:∀ b,n≤b→H b=none→H' b=none):ExcAt base n H' ea C dx fl h:=by
 obtain ⟨a,b,c,oe,vs,e1,e2,e3,e4,tb⟩:=x
 refine ⟨a,f _ c b,c,oe,vs,e1,e2,e3,e4,?_⟩
 cases fl with
 | none=>exact tb
 | some v=>obtain ⟨T,oT,ts,t1,t2,t3,t4,t5,t6⟩:=tb;exact ⟨T,oT,ts,t1,t2,t3,f _ t5 t4,t5,t6⟩
end
end L2
set_option maxHeartbeats 2000000
namespace L2
open PySem PySem.W PySem.Spec PyProof.Rows
abbrev YM (qual:Str)(sc:Scope)(L q:Addr)(cl:List (Str×Addr))(cd:Value):Env:=newEnv sc L mainGlobals cl (qual++".<locals>.") (some q) cd none builtinsNs
def Wu (P:Program)(w:World)(K:PySem.W.Frag)(mg:Str→Option Value)(base:Heap)(N:List Str)(env:Env)(A:Around)(outer:List Env)(s:Shared)(H:Hp)(Z:Value→Shared→Prop):Cx where
 prog:=P
 w:=w
 K:=K
 mg:=mg
 base:=base
 A:=A.deeper env
 N:=N
 s₀:=s
 H₀:=H
 env:=env
 outer:=outer
 stack:=env::outer
 ex:=[]
 fn:=fun _=>false
 calm:=true
 pn:=[]
 xe:=Z
section
variable {P:Program}{w:World}{K:PySem.W.Frag}{mg:Str→Option Value}{base:Heap}{N:List Str}
theorem ZdU {env:Env}{A:Around}{outer:List Env}{s:Shared}{H:Hp}{E:XK}{R:Value→Shared→Prop}(hL:env.locals=s.heap.objs.size)(hf:env.frame=some env.locals)(hR:∀ e s',Wn P w base outer H s E e s'→R e s') :
   YN (Wu P w K mg base N env A outer s H fun e s'=>wpAny (model P w) (A.deeper env) (leaving env e) (fun _ s''=>R e s'') (fun e' s''=>R e' s'') s') (fun _=>E):=by
 intro pins σ H1 H2 s1 s2 ea C dx fl I1 I2 hfl x q
 have hsz:s.heap.objs.size≤s1.heap.objs.size:=I1.sz
 have hok2:HOk P w H2 s2.heap:=I2.hok
 refine Zbh (base:=base) (n:=s.heap.objs.size) (H:=H2) (outer:=outer) (L:=env.locals) hfl I2.ok.frames I2.stack hf I2.bk (x.le hsz) (fun b hb=>hok2.fresh hb) fun h' b1 f1 x1 k1=>hR _ _ ?_
 have un:Un (Yb outer) [] H H2 s.heap s2.heap:=I2.base
 have nL:∀ b o,s.heap.get? b=some o→b ∉ Yb outer→b ∉ Yb (env::outer):=fun b o e hn m=>by
   rcases List.mem_filterMap.mp m with ⟨v,hv,ev⟩
   rcases List.mem_cons.mp hv with rfl | hv
   · rw [hf,hL] at ev;cases ev;exact absurd (Heap.lt_size e) (Nat.lt_irrefl _)
   · exact hn (List.mem_filterMap.mpr ⟨v,hv,ev⟩)
 have inL:∀ b,b∈Yb outer→b∈Yb (env::outer):=fun b m=>by
   obtain ⟨v,hv,ev⟩:=List.mem_filterMap.mp m
   exact List.mem_filterMap.mpr ⟨v,List.mem_cons_of_mem _ hv,ev⟩
 refine ⟨ea,C,dx,H2,rfl,b1,f1,x1,I2.os,I2.bare,⟨fun b o e hn hb hx=>k1.2.1 b o (un.keep b o e hn hb hx) (nL b o e hb) (.inr (Heap.lt_size e)),fun b o e hn hb hx=>?_,un.free,fun b o e hx=>?_,un.tups,un.frzs,un.tbls⟩,k1.hok hok2 I2.stkFree,q⟩
 · obtain ⟨sl,e1⟩:=un.slot b o e hn hb hx
   obtain ⟨sl2,e2⟩:=k1.1 b _ e1 (inL b hb)
   exact ⟨sl2,e2⟩
 · obtain ⟨o',e1⟩:=un.there b o e hx
   by_cases m:b∈Yb (env::outer)
   · obtain ⟨sl,e2⟩:=k1.1 b o' e1 m;exact ⟨_,e2⟩
   · exact ⟨o',k1.2.1 b o' e1 m (.inr (Heap.lt_size e))⟩
def Zge (P:Program)(w:World)(K:PySem.W.Frag)(mg:Str→Option Value)(base:Heap)(k:Nat)(cs:Pn)(cc:Addr)(qual:Str)(q:Addr)(T:Hp→VK→XK→Prop):Prop :=
 ∀ (A:Around) (outer:List Env) (s:Shared) (H:Hp) (Q:VK) (E:XK),Room k A→Env0 P w K mg base A outer s H→Has cs H→H cc=some (.ext (XE cc qual)) →
   T (unc H cs) (fun v H'=>YC cs H'→Q v (cov H' cs)) (fun C d H'=>YC cs H'→E C d (cov H' cs))→codeAny (model P w) A (.call (.ref q) ⟨[],[]⟩) (CR (Wn P w base) outer P w H s Q E) s
structure ZfA (sc:Scope):Prop where
 kind:sc.kind=.function
 co:sc.isCoroutine=false
 gen:sc.isGenerator=false
 cell:∀ y∈sc.names,y.2≠.cell
 loc:∀ y∈sc.names,y.2≠.local
theorem Zit {k:Nat}{cs:Pn}{cc q:Addr}{qual:Str}{args:Arguments}{body:Expr}{sc:Scope}{cl:List (Str×Addr)}{pm ct:Value}{fo:Obj}{σ:St}{te:(St→XK)→TE}(S:ZfA sc)
   (hq:cs.lookup q=some fo) (hfo:fo={ cls:=.type "function",data:=.func (kla_fn "<lambda>" qual args body sc cl pm (.ref cc) ct) })
   (hbind:bindArgs (kla_fn "<lambda>" qual args body sc cl pm (.ref cc) ct) ⟨[],[]⟩=pure []) (hN:σ.length=N.length)
   (inj:∀ x y c,cl.lookup x=some c→cl.lookup y=some c→x=y) (cl2:∀ y∈sc.names,y.2=.free→cl.lookup y.1≠none)
   (hcl:∀ x c,cl.lookup x=some c→∃ o v,cs.lookup c=some o∧o.data=.cell v)
   (hσ:∀ (i:Nat) (x:Str) (v:V) (c:Addr),N[i]?=some x→σ[i]?=some (some v)→cl.lookup x=some c→sc.names.lookup x=some .free→∃ o u,cs.lookup c=some o∧o.data=.cell (some u)∧RelV v u)
   (he:∀ (A:Around) (outer:List Env) (s:Shared) (H:Hp) (Z:Value→Shared→Prop) (EE:St→XK),Room k (A.deeper (YM qual sc s.heap.objs.size q cl (.ref cc)))→YN (Wu P w K mg base N (YM qual sc s.heap.objs.size q cl (.ref cc)) A outer s H Z) EE →
     PE (Wu P w K mg base N (YM qual sc s.heap.objs.size q cl (.ref cc)) A outer s H Z) body (te EE)) :
   Zge P w K mg base (k+1) cs cc qual q (fun H Q E=>te (fun _=>E) σ H Q):=by
 intro A outer s H Q E hr e0 has hcc hT
 have lim:s.heap.NoLimit:=e0.mod.nolimit.keeps fun b o e=>(e0.bs b o e).1
 have hsh:Ww cs s.heap:=VC e0.hok has
 have hcd:s.heap.CodeRec (.ref cc) qual:=(e0.hok cc _ hcc).1
 have unone:∀ b,H b=none→unc H cs b=none:=fun b e=>by rw [ZO (Wk has e)];exact e
 refine kla_callFunE (body:=body) hr.depth (hsh q fo hq) (by rw [hfo]) S.co S.gen rfl hcd ?_
 refine wpAny_of_eq (a:=[]) hbind ?_
 refine wpAny_newFunctionEnv S.cell (fun _ h=>nomatch h) (fun h₁ hns₁ hsb₁=>?_) S.kind
 have old:∀ b o,s.heap.get? b=some o→h₁.get? b=some o:=fun b o e=>hsb₁.extBut b o (Nat.ne_of_lt (Heap.lt_size e)) (Heap.get?_push_of_some _ e)
 refine ⟨lim.keeps old,kla_codeExpr ?_⟩
 have W:=ZdU (P:=P) (w:=w) (K:=K) (mg:=mg) (base:=base) (N:=N) (env:=YM qual sc s.heap.objs.size q cl (.ref cc)) (A:=A) (outer:=outer) (s:=s) (H:=unc H cs) (E:=fun C d H'=>YC cs H'→E C d (cov H' cs)) (R:=fun e s'=>CR (Wn P w base) outer P w H s Q E (.error e) s') rfl rfl (fun e s' h=>by
   obtain ⟨ea,C,dx,H',rfl,b1,f1,x1,os,gb,un,hok,q1⟩:=h
   have hn:YC cs H':=fun b o e=>un.free b o (hsh b o e) (Xq e) (by simp)
   have kk:Ww cs s'.heap:=fun b o e=>un.keep b o (hsh b o e) (Xq e) (fun z=>by have:=e0.frf b z;rw [has b o e] at this;cases this) (by simp)
   refine ⟨ea,C,dx,cov H' cs,rfl,b1,f1,x1.re fun b l e=>?_,os,gb,un.cov has hsh,hok.cov hn kk,q1 hn⟩
   cases z:cs.lookup b with
   | none=>rw [Yc z];exact e
   | some o=>exact absurd (Heap.lt_size (hsh b o z)) (Nat.not_lt.mpr l))
 refine wpAny_mono (he A outer s (unc H cs) _ _ (hr.deeper _) W [] _ σ (unc H cs) _ ?_ hT) (fun v s' hs=>?_) fun e s' hs=>hs
 · refine ⟨⟨e0.mod,S.kind,rfl,rfl,Nat.le_refl _,inj,fun x hx=>?_,(fun x c z _=>nomatch z),fun _=>hr.hd,Around.frames_deeper e0.frames,.inr ⟨rfl,rfl⟩,(fun b z=>nomatch z),fun b o e=>⟨(e0.bs b o e).1,unone b (e0.bs b o e).2⟩,e0.bsz,(fun _ _ _ z=>nomatch z),(fun _ z=>nomatch z),e0.funs,fun b hb=>unone b (e0.frf b hb)⟩,
     rfl,e0.bare,Un.kept old,⟨_,hns₁,fun i x v h1 h2 h3=>?_⟩,fun x c e=>?_,unone _ (e0.hok.fresh (Nat.le_refl _)),fun x c e=>?_,(fun p hp=>nomatch hp),(e0.hok.unc has).kept old,hN⟩
   · have hf:sc.names.lookup x=some .free:=by
       rcases hx with hx | hx
       · exact absurd rfl (S.cell _ (L2.mem_of_lookup hx))
       · exact hx
     cases z:cl.lookup x with
     | none=>exact absurd z (cl2 _ (L2.mem_of_lookup hf) rfl)
     | some c=>exact ⟨c,z⟩
   · have hf:sc.names.lookup x=some .free:=by
       rcases h3 with hx | hx | hx
       · exact absurd rfl (S.loc _ (L2.mem_of_lookup hx))
       · exact absurd rfl (S.cell _ (L2.mem_of_lookup hx))
       · exact hx
     cases z:cl.lookup x with
     | none=>exact absurd z (cl2 _ (L2.mem_of_lookup hf) rfl)
     | some c =>
       obtain ⟨o,u,h4,h5,h6⟩:=hσ i x v c h1 h2 z hf
       exact ⟨u,h6,.inr ⟨.inr hf,c,z,o,old _ _ (hsh c o h4),h5⟩⟩
   · obtain ⟨o,v,h4,h5⟩:=hcl x c e
     exact ⟨v,o,old _ _ (hsh c o h4),h5⟩
   · obtain ⟨o,v,h4,h5⟩:=hcl x c e
     exact Xq h4
 · obtain ⟨v',H',J,rv,q1⟩:=hs
   have un:Un (Yb outer) [] (unc H cs) H' s.heap s'.heap:=J.base
   have hn:YC cs H':=fun b o e=>un.free b o (hsh b o e) (Xq e) (by simp)
   have kk:Ww cs s'.heap:=fun b o e=>un.keep b o (hsh b o e) (Xq e) (fun z=>by have:=e0.frf b z;rw [has b o e] at this;cases this) (by simp)
   exact ⟨v',cov H' cs,J.os,J.bare,un.cov has hsh,HOk.cov J.hok hn kk,rv,q1 hn⟩
end
end L2
set_option maxHeartbeats 2000000
namespace L2
open PySem PySem.W PySem.Spec PyProof.Rows
structure Thk (P:Program)(w:World)(K:PySem.W.Frag)(mg:Str→Option Value)(base:Heap)(k:Nat)(cs:Pn)(cc:Addr)(qual:Str)(q:Addr)(T:Hp→VK→XK→Prop):Prop where
 run:Zge P w K mg base k cs cc qual q T
 fn:∃ fo fd,cs.lookup q=some fo∧fo.data=.func fd
def tAsk (P:Program)(w:World)(K:PySem.W.Frag)(mg:Str→Option Value)(base:Heap)(k:Nat)(EE:St→XK)(i:Nat):TE:=fun σ H Q=>∃ q cs cc qual T,σ[i]?=some (some (.ref q))∧Thk P w K mg base k cs cc qual q T∧Has cs H∧H cc=some (.ext (XE cc qual)) ∧
 T (unc H cs) (fun v H'=>YC cs H'→Q v (cov H' cs)) (fun C d H'=>YC cs H'→EE σ C d (cov H' cs))
section
variable {X:Cx}{EE:St→XK}{k i:Nat}{x:Str}{p pos:Pos}
theorem ZiL (W:YN X EE)(hr:Room k X.A)(hN:X.N[i]?=some x)(hv:Vis X.env.scope x)(hd:(x == ("__debug__":Str))=false:=by decide)(hcd:(x == ("__classdict__":Str))=false:=by decide) :
   PE X (.Call (.Name x p) [] [] pos) (tAsk X.prog X.w X.K X.mg X.base k EE i):=by
 intro pins s σ H Q I h
 obtain ⟨q,cs,cc,qual,T,e,Z,has,hcc,hT⟩:=h
 refine wpAny_Call_Name_kw (Zm (Zeo (pos:=p) hN hv hd hcd pins s σ H (fun v H1=>v=.ref q∧H1=H) I ⟨_,e,rfl,rfl⟩) fun u s1 ⟨v,H1,I1,r,e1,e2⟩=>?_)
 subst e1;subst e2
 obtain rfl:u=Value.ref q:=r
 obtain ⟨fo,fd,z1,z2⟩:=Z.fn
 have hq:s1.heap.get? q=some fo:=VC I1.hok has q fo z1
 refine callWith_of (P:=fun h=>h.get? q=some fo) rfl (fun h e=>⟨.frame,.inl rfl,(Looks.ld (part:=none) e).andThen ?_⟩) (evalArgs_nil3 ⟨hq,?_⟩)
 · simp only [z2];exact .now
 refine wpAny_call (codeAny_mono (Z.run X.A X.stack s1 H1 Q (EE σ) hr I1.env0 has hcc hT) fun r s' hq=>?_)
 cases r with
 | error e =>
   obtain ⟨ea,C,dx,H',rfl,kb,ff,x,os,gb,un,hok,q⟩:=hq
   exact W pins σ H1 H' s1 s' ea C dx _ I1 (I1.call' os un hok gb fun b z=>absurd z (by simp)) (.inr rfl) x q
 | ok fl =>
   cases fl with
   | ret u=>exact I1.after hq
   | next=>exact False.elim hq
   | brk=>exact False.elim hq
   | cont=>exact False.elim hq
end
theorem Zhf {P:Program}{w:World}{K:PySem.W.Frag}{mg:Str→Option Value}{base:Heap}{X:Cx}{EE:St→XK}{k i:Nat}{x:Str}{p pos:Pos}(h1:X.prog=P)(h2:X.w=w)(h3:X.K=K)(h4:X.mg=mg)(h5:X.base=base)(W:YN X EE)(hr:Room k X.A)(hN:X.N[i]?=some x)(hv:Vis X.env.scope x)(hd:(x == ("__debug__":Str))=false:=by decide)(hcd:(x == ("__classdict__":Str))=false:=by decide) :
   PE X (.Call (.Name x p) [] [] pos) (tAsk P w K mg base k EE i):=by
 subst h1 h2 h3 h4 h5
 exact ZiL W hr hN hv hd hcd
def Zbk (env:Env)(h:Heap):Pn:=env.cells.filterMap fun p=>(env.cells.lookup p.1).bind fun c=>(h.get? c).map fun o=>(c,o)
theorem Vr {env:Env}{h:Heap}{p:Addr×Obj}(m:p∈Zbk env h):h.get? p.1=some p.2∧∃ y,env.cells.lookup y=some p.1:=by
 obtain ⟨z,hz,e⟩:=List.mem_filterMap.mp m
 obtain ⟨c,e1,e2⟩:=Option.bind_eq_some_iff.mp e
 obtain ⟨o,e3,rfl⟩:=Option.map_eq_some_iff.mp e2
 exact ⟨e3,z.1,e1⟩
theorem ZcC {env:Env}{h:Heap}{x:Str}{c:Addr}{o:Obj}(e:env.cells.lookup x=some c)(ho:h.get? c=some o):(c,o)∈Zbk env h :=
 List.mem_filterMap.mpr ⟨(x,c),L2.mem_of_lookup e,by show (env.cells.lookup x).bind _=_;rw [e];show (h.get? c).map _=_;rw [ho];rfl⟩
theorem ZaI {b:Addr}{o:Obj}:∀{cs:Pn},cs.lookup b=some o→(b,o)∈cs
 | [],h=>by cases h
 | (n,z)::r,h=>by
   cases hx:b == n with
   | true =>
     have e:b=n:=by simpa using hx
     subst e
     simp only [List.lookup_cons,beq_self_eq_true] at h
     cases h
     exact List.mem_cons_self
   | false =>
     simp only [List.lookup_cons,hx] at h
     exact List.mem_cons_of_mem _ (ZaI h)
theorem VF {h:Heap}{b:Addr}{o:Obj}:∀{cs:Pn},(∀ p∈cs,h.get? p.1=some p.2)→(b,o)∈cs→cs.lookup b=some o
 | (n,z)::r,hh,m=>by
   cases hx:b == n with
   | true =>
     have e:b=n:=by simpa using hx
     subst e
     have h1:=hh _ List.mem_cons_self
     have h2:=hh _ m
     have h3:some z=some o:=h1.symm.trans h2
     simp only [List.lookup_cons,beq_self_eq_true];exact h3
   | false =>
     simp only [List.lookup_cons,hx]
     rcases List.mem_cons.mp m with e | m
     · cases e;simp at hx
     · exact VF (fun p hp=>hh p (List.mem_cons_of_mem _ hp)) m
structure LamOk (X:Cx)(sc:Scope):Prop where
 lam:ZfA sc
 clos:∀ y∈sc.names,y.2=.free→X.env.kindOf y.1=some .cell
 fn:∀ x,X.fn x=true
def ZfF (P:Program)(w:World)(K:PySem.W.Frag)(mg:Str→Option Value)(base:Heap)(k:Nat)(sp:Sp)(Pl:Addr)(qual:Str)(te:(St→XK)→TE):TE:=fun σ H Q=>LamsAt H Pl qual∧∀(q:Addr)(H1:Hp)(cs:Pn)(cc:Addr),Grown Pl H H1→LamsAt H1 Pl qual→YC cs H1 →
 Thk P w K mg base k cs cc qual q (fun H' Q' E'=>te (fun _=>E') σ H' Q')→H1 cc=some (.ext (XE cc qual))→sp [.ref q] (cov H1 cs) (fun v H2=>Has cs H2∧Q v (unc H2 cs)) (fun _ _ _=>False)
section
variable {X:Cx}{k j:Nat}{f:Str}{pn:Str}{sp:Sp}{p0 lpos pos:Pos}{args:Arguments}{body:Expr}{sc:Scope}{te:(St→XK)→TE}{c Pl:Addr}
theorem Zgl (D:Def X.prog X.w X.K X.mg X.base j f [pn] sp)(hr:Room j X.A)(O:LamOk X sc)(hcode:X.env.code=.ref c)(C:codeHdIn X.K c Pl=true)(hBm:XY X.base X.mg)
   (he:∀ (q:Addr) (cl:List (Str×Addr)) (cc:Addr) (A:Around) (outer:List Env) (s:Shared) (H:Hp) (Z:Value→Shared→Prop) (EE:St→XK),Room k (A.deeper (YM (X.env.qual++"<lambda>") sc s.heap.objs.size q cl (.ref cc)))→YN (Wu X.prog X.w X.K X.mg X.base X.N (YM (X.env.qual++"<lambda>") sc s.heap.objs.size q cl (.ref cc)) A outer s H Z) EE →
     PE (Wu X.prog X.w X.K X.mg X.base X.N (YM (X.env.qual++"<lambda>") sc s.heap.objs.size q cl (.ref cc)) A outer s H Z) body (te EE))
   (hdef:defaultsOf args X.env=([],[])) (hbind:∀ cl pm cc ct,bindArgs (kla_fn "<lambda>" (X.env.qual++"<lambda>") args body sc cl pm (.ref cc) ct) ⟨[],[]⟩=pure [])
   (hg:Gl X f:=by rfl) (hdb:(f == ("__debug__":Str))=false:=by decide)
   (hst:starEach [Expr.Lambda args body sc lpos] X.env=(false,eval (.Lambda args body sc lpos) X.env)::starEach [] X.env:=by rfl) :
   PE X (.Call (.Name f p0) [.Lambda args body sc lpos] [] pos) (ZfF X.prog X.w X.K X.mg X.base (k+1) sp Pl (X.env.qual++"<lambda>") te):=by
 obtain ⟨fa,fd,F,hb,kp,hm⟩:=D
 intro pins s σ H Q I h
 obtain ⟨hL,h⟩:=h
 refine wpAny_Call_Name_kw (Xy I hg hm ?_ hdb)
 refine callWith_K (h₀:=X.base) I.ok.mod.kin kp ?_ hst rfl
 rw [hst]
 show wpAny _ _ (spliced ((false,eval (.Lambda args body sc lpos) X.env)::backTo pos (starEach [] X.env))) _ _ s
 refine Calls.spliced_cons (ZeG I hcode C hBm hL hdef (fun y hy hf=>I.ok.has y.1 (.inl (O.clos y hy hf))) fun q H1 s1 pm cdv ct cl I1 gr L1 cl1 cl2 hqn hqs ho hcr=>?_)
 obtain ⟨cc,rfl,hcc⟩:=hcr
 refine Calls.spliced_nil ⟨I1.kIn,?_⟩
 generalize hfo:({ cls:=.type "function",data:=.func (kla_fn "<lambda>" (X.env.qual++"<lambda>") args body sc cl pm (.ref cc) ct) }:Obj)=fo at ho
 generalize hcs:((q,fo)::Zbk X.env s1.heap:Pn)=cs
 have hall:∀ p∈cs,s1.heap.get? p.1=some p.2:=fun p hp=>by
   rw [← hcs] at hp
   rcases List.mem_cons.mp hp with rfl | hp
   · exact ho
   · exact (Vr hp).1
 have what:∀ b o,cs.lookup b=some o→b=q∨∃ y,X.env.cells.lookup y=some b:=fun b o e=>by
   have hp:=ZaI e
   rw [← hcs] at hp
   rcases List.mem_cons.mp hp with z | hp
   · cases z;exact .inl rfl
   · exact .inr (Vr hp).2
 have key:∀ b o,cs.lookup b=some o→X.s₀.heap.objs.size≤b∧b≠X.env.locals:=fun b o e=>by
   rcases what b o e with rfl | ⟨y,hy⟩
   · exact ⟨Nat.le_trans I.sz hqs,fun z=>by have:=I.lt;rw [← z] at this;exact absurd this (Nat.not_lt.mpr hqs)⟩
   · exact ⟨I.ok.cab y b (O.fn y) hy,I.cne y b hy⟩
 have hasn:YC cs H1:=fun b o e=>by
   rcases what b o e with rfl | ⟨y,hy⟩
   · exact hqn
   · exact I1.freeC y b hy
 have hsh:Ww cs s1.heap:=fun b o e=>hall _ (ZaI e)
 have hlq:cs.lookup q=some fo:=VF hall (by rw [← hcs];exact List.mem_cons_self)
 have hlc:∀ x c o,X.env.cells.lookup x=some c→s1.heap.get? c=some o→cs.lookup c=some o:=fun x c o e1 e2=>VF hall (by rw [← hcs];exact List.mem_cons_of_mem _ (ZcC e1 e2))
 have e0:=I1.env0
 have no:∀ b,b < X.s₀.heap.objs.size∨b=X.env.locals→cs.lookup b=none:=fun b hb=>by
   cases z:cs.lookup b with
   | none=>rfl
   | some o =>
     obtain ⟨z1,z2⟩:=key b o z
     rcases hb with hb | hb
     · exact absurd hb (Nat.not_lt.mpr z1)
     · exact absurd hb z2
 have e1 : Env0 X.prog X.w X.K X.mg X.base X.A X.stack s1 (cov H1 cs):=by
   refine ⟨e0.frames,e0.mod,fun b o e=>⟨(e0.bs b o e).1,?_⟩,e0.bsz,e0.funs,fun b hb=>?_,e0.hok.cov hasn hsh,e0.bare⟩
   · rw [Yc (no b (.inl (Nat.lt_of_lt_of_le (Heap.lt_size e) I.ok.bsz)))];exact (e0.bs b o e).2
   · rw [Yc (no b ?_)]
     · exact e0.frf b hb
     · rcases List.mem_cons.mp (I1.stkSub b hb) with z | z
       · exact .inr z
       · obtain ⟨_,o,z1,_⟩:=I.ok.funs.mem z
         exact .inl (Heap.lt_size z1)
 have Z:Thk X.prog X.w X.K X.mg X.base (k+1) cs cc (X.env.qual++"<lambda>") q (fun H' Q' E'=>te (fun _=>E') σ H' Q'):=by
   refine ⟨Zit (N:=X.N) O.lam hlq hfo.symm (hbind cl pm cc ct) I1.len (fun x y c e1 e2=>I1.ok.inj x y c (cl1 x c e1) (cl1 y c e2)) cl2 (fun x c e=>?_) (fun i x v c h1 h2 h3 h4=>?_) (he q cl cc),fo,_,hlq,by rw [← hfo]⟩
   · obtain ⟨v,o,z1,z2⟩:=I1.cell x c (cl1 x c e)
     exact ⟨o,v,hlc x c o (cl1 x c e) z1,z2⟩
   · obtain ⟨m,hn,hl⟩:=I1.loc
     have hk:=O.clos _ (L2.mem_of_lookup h4) rfl
     obtain ⟨u,ru,lu⟩:=hl i x v h1 h2 (.inr (.inl hk))
     rcases lu with ⟨z,_⟩ | ⟨_,c',z,o,z1,z2⟩
     · rw [hk] at z;cases z
     · have:=cl1 x c h3
       rw [z] at this;cases this
       exact ⟨o,u,hlc x c o z z1,z2,ru⟩
 have hsp:=h q H1 cs cc gr L1 hasn Z hcc
 refine wpAny_call (codeAny_mono (F.run X.A X.stack s1 (cov H1 cs) ⟨[.ref q],[]⟩ [.ref q] [.ref q] _ _ hr e1 (hb s1 [.ref q] I1.kIn rfl) (.cons rfl .nil) hsp) fun r s' hq=>?_)
 cases r with
 | error e=>exact False.elim hq
 | ok fl =>
   cases fl with
   | ret u =>
     obtain ⟨v,H2,os,bare,un,hok,r,has2,hQ⟩:=hq
     exact ⟨v,unc H2 cs,I1.call' os (un.uncov hasn hsh (VC hok has2)) (hok.unc has2) bare fun b z=>absurd z (by simp),r,hQ⟩
   | next=>exact False.elim hq
   | brk=>exact False.elim hq
   | cont=>exact False.elim hq
end
end L2
set_option maxHeartbeats 2000000
namespace L2
open PySem PySem.W PySem.Spec PyProof.Rows
theorem WD:∀{bs:List Bool}{us:List Value},Vals (bs.map V.bl) us→us=bs.map Value.bool
 | [],_,.nil=>rfl
 | b::bs,_,.cons r h=>by
   have e:=WD h
   cases (show _=Value.bool b from r)
   rw [e];rfl
def Uk:Value→Bool
 | .bool b=>b
 | _=>false
def Zgh (K:PySem.W.Frag):V→List V→Hp→VK→Prop:=fun x vs H Q=>∃(l:Addr)(bs:List Bool),x=.ref l∧vs=[.bl true]∧SqL K H l (bs.map V.bl)∧Q (.int ((bs.filter id).length:Nat)) H
def ZgG (K:PySem.W.Frag):V→List V→Hp→VK→Prop:=fun x vs H Q=>∃(l:Addr)(bs:List Bool)(j:Nat),x=.ref l∧vs=[.bl true]∧SqL K H l (bs.map V.bl)∧bs[j]?=some true∧(∀ m,m < j→bs[m]?=some false)∧j≤100000∧Q (.int (j:Nat)) H
theorem Ub:∀ bs:List Bool,(bs.map Value.bool).countP Uk=(bs.filter id).length
 | []=>rfl
 | true::r=>by rw [List.map_cons,List.countP_cons_of_pos rfl,Ub r];rfl
 | false::r=>by rw [List.map_cons,List.countP_cons_of_neg (by decide),Ub r];rfl
section
variable {X:Cx}
theorem ZdB (A:Around)(s:Shared){bs:List Bool}{y:Value}(h:y∈bs.map Value.bool):SeqAt.EqAt A s y (.bool true) (Uk y):=by
 obtain ⟨b,_,rfl⟩:=List.mem_map.mp h
 have:=SeqAt.EqAt.bool_bool (A:=A) (s:=s) b true
 cases b<;>exact this
theorem ZdJ:MtR X "list.count" (Zgh X.K):=by
 intro pins s σ H x vs v us Q I rx rv h
 obtain ⟨l,bs,rfl,rfl,hl,q⟩:=h
 cases rx
 obtain ⟨u,rfl,ru⟩:=Yu rv
 obtain rfl:u=Value.bool true:=ru
 obtain ⟨its,r,ht,_⟩:=I.list hl
 obtain ⟨⟨cls,dd,data,sl⟩,n,ho,hc,hsl,hd⟩:=ht
 have hi:=WD r
 dsimp only at hc hsl hd
 subst hc hsl hd
 subst hi
 refine call_meets PySem.F.slot_list_count ⟨_,ho,rfl⟩ PySem.F.entry_list_count (PySem.F.args_list_count_2 _ _) (PySem.SeqAt.list_countAt l _ n none sl (.bool true) Uk) ⟨ho,fun y hy=>ZdB _ _ (bs:=bs) (by simpa using hy),?_⟩
 rw [show ((bs.map Value.bool).toArray).toList=bs.map Value.bool from rfl,Ub]
 exact ⟨.int ((bs.filter id).length:Nat),H,I.tok _,⟨_,rfl⟩,q⟩
theorem Zdz:MtR X "list.index" (ZgG X.K):=by
 intro pins s σ H x vs v us Q I rx rv h
 obtain ⟨l,bs,j,rfl,rfl,hl,h1,h2,h3,q⟩:=h
 cases rx
 obtain ⟨u,rfl,ru⟩:=Yu rv
 obtain rfl:u=Value.bool true:=ru
 obtain ⟨its,r,ht,_⟩:=I.list hl
 obtain ⟨⟨cls,dd,data,sl⟩,n,ho,hc,hsl,hd⟩:=ht
 have hi:=WD r
 dsimp only at hc hsl hd
 subst hc hsl hd
 subst hi
 have hj:j < bs.length:=(List.getElem?_eq_some_iff.mp h1).1
 refine call_meets PySem.F.slot_list_index ⟨_,ho,rfl⟩ PySem.F.entry_list_index (PySem.F.args_list_index_2 _ _)
   (PySem.SeqAt.list_indexAt l _ n none sl (.bool true) Uk j (by simpa using hj) (by omega) ?_ ?_) ⟨ho,fun y hy=>ZdB _ _ (bs:=bs) (by simpa using hy),⟨.int (j:Nat),H,I.tok _,⟨_,rfl⟩,q⟩⟩
 · have:bs[j]=true:=(List.getElem?_eq_some_iff.mp h1).2
   simp [this,Uk]
 · intro m hm hlt
   obtain ⟨z1,z2⟩:=List.getElem?_eq_some_iff.mp (h2 m hlt)
   simp [z2,Uk]
end
def Zep (names:List (Str×NameKind))(sc:Scope):Bool :=
 (sc.kind == .function&&(!sc.isCoroutine&&!sc.isGenerator))&&sc.names.all fun y=>(y.2 != .cell&&y.2 != .local)&&(y.2 != .free || names.lookup y.1 == some .cell)
theorem LamOk.of {X:Cx}{sc:Scope}(st:Stmt)(hn:X.env.scope=Zk st)(hf:X.fn=fun _=>true)(chk:Zep (Zk st).names sc=true):LamOk X sc:=by
 unfold Zep at chk
 simp only [Bool.and_eq_true,List.all_eq_true,Bool.or_eq_true,bne_iff_ne,beq_iff_eq,Bool.not_eq_true'] at chk
 obtain ⟨⟨c1,c2,c3⟩,c4⟩:=chk
 refine ⟨⟨c1,c2,c3,fun y hy=>(c4 y hy).1.1,fun y hy=>(c4 y hy).1.2⟩,fun y hy hfr=>?_,fun x=>by rw [hf]⟩
 show X.env.scope.names.lookup y.1=_
 rw [hn];exact (c4 y hy).2.resolve_left fun z=>z hfr
def Xb (q:Str):Yh:=fun Pl h=>LamsAt h Pl q
theorem LamsAt.same {H H':Hp}{Pl:Addr}{q:Str}(h:LamsAt H Pl q)(s:Same H H'):LamsAt H' Pl q:=by
 obtain ⟨ts,e,f⟩:=h
 exact ⟨ts,s _ _ e,fun p hp=>s _ _ (f p hp)⟩
instance {q:Str}:Up (Xb q):=⟨fun h s=>LamsAt.same h s⟩
theorem Sep.grow {Δ:Rs}{H H':Hp}{Pl:Addr}{q:Str}(S:Sep ((Pl,Xb q)::Δ) H)(g:Grown Pl H H')(L:LamsAt H' Pl q):Sep ((Pl,Xb q)::Δ) H':=by
 refine S.call (L:=[Pl]) (fun b o nb e=>g b o (fun z=>nb (by simp [z])) e) fun h l r=>⟨fun b hb=>?_,some_of H' [Pl],Ue,?_,fun b o e m=>.inl (Wz e m)⟩
 · rw [List.mem_singleton.mp hb]
   obtain ⟨ts,e,_⟩:=r
   exact ⟨_,e,rfl⟩
 · obtain ⟨ts,e,f⟩:=L
   exact ⟨ts,(Wr (by simp)).trans e,fun p hp=>Wi (f p hp) rfl⟩
theorem Grown.more {Pl:Addr}{H H1 H2:Hp}(g:Grown Pl H H1)(s:Same H1 H2):Grown Pl H H2:=fun b o n e=>s _ _ (g b o n e)
def Vn (P:Program)(w:World)(K:PySem.W.Frag)(mg:Str→Option Value)(base:Heap)(k:Nat)(RK:Addr→Str→Prop):Sp:=fun vs H Q _=>∃ q cs cc qual T,vs=[.ref q]∧Thk P w K mg base k cs cc qual q T∧Has cs H∧H cc=some (.ext (XE cc qual))∧∀(H1:Hp)(Qc:VK)(Ec:XK),Same H H1 →
 (∀ v H',(YC cs H'→∀ a H2,Same (cov H' cs) H2→H2 a=some (.tup [.str "told",v])→Q (.ref a) H2)→Qc v H') →
 (∀ C dx word what H',RK C word→H' dx=some (.xd [("what",what)])→(YC cs H'→∀ a H2,Same (cov H' cs) H2→H2 a=some (.tup [.str "refused",.str word,what])→Q (.ref a) H2)→Ec (.ref C) (some dx) H')→T (unc H1 cs) Qc Ec
def ZcJ (RK:Addr→Str→Prop)(Pl:Addr)(qual:Str)(te:(St→XK)→TE):TE:=fun σ H Q=>LamsAt H Pl qual∧∀(H1:Hp)(Qc:VK)(Ec:XK),Grown Pl H H1→LamsAt H1 Pl qual →
 (∀ v H',(∀ a H2,Same H' H2→H2 a=some (.tup [.str "told",v])→Q (.ref a) H2)→Qc v H') →
 (∀ C dx word what H',RK C word→H' dx=some (.xd [("what",what)])→(∀ a H2,Same H' H2→H2 a=some (.tup [.str "refused",.str word,what])→Q (.ref a) H2)→Ec (.ref C) (some dx) H')→te (fun _=>Ec) σ H1 Qc
section
variable {P:Program}{w:World}{K:PySem.W.Frag}{mg:Str→Option Value}{base:Heap}{k:Nat}{RK:Addr→Str→Prop}{Pl:Addr}{qual:Str}{te:(St→XK)→TE}{σ:St}{H:Hp}{Q:VK}
theorem Zgj (h:ZcJ RK Pl qual te σ H Q):ZfF P w K mg base k (Vn P w K mg base k RK) Pl qual te σ H Q:=by
 obtain ⟨hL,h⟩:=h
 refine ⟨hL,fun q H1 cs cc gr L1 hn Z hcc=>⟨q,cs,cc,qual,_,rfl,Z,has_cov,YR hn _ _ hcc,fun H1' Qc Ec s1 hq he=>?_⟩⟩
 have s2:=UF hn s1
 refine h (unc H1' cs) Qc Ec (gr.more s2) (L1.same s2) (fun v H' f=>hq v H' fun hn' a H2 s3 e=>⟨has_cov.same s3,f a _ (UF hn' s3) ?_⟩) (fun C dx word what H' rk ed f=>he C dx word what H' rk ed fun hn' a H2 s3 e=>⟨has_cov.same s3,f a _ (UF hn' s3) ?_⟩)
 · rw [ZO (Xe (has_cov.same s3) e fun _ z=>by cases z)];exact e
 · rw [ZO (Xe (has_cov.same s3) e fun _ z=>by cases z)];exact e
end
section
variable {X:Cx}{k j:Nat}{RK:Addr→Str→Prop}{f:Str}{pn:Str}{p0 lpos pos:Pos}{args:Arguments}{body:Expr}{sc:Scope}{te:(St→XK)→TE}{c Pl:Addr}
theorem Vv (D:Def X.prog X.w X.K X.mg X.base j f [pn] (Vn X.prog X.w X.K X.mg X.base (k+1) RK))(hr:Room j X.A)(O:LamOk X sc)(hcode:X.env.code=.ref c)(C:codeHdIn X.K c Pl=true)(hBm:XY X.base X.mg)
   (he:∀ (q:Addr) (cl:List (Str×Addr)) (cc:Addr) (A:Around) (outer:List Env) (s:Shared) (H:Hp) (Z:Value→Shared→Prop) (EE:St→XK),Room k (A.deeper (YM (X.env.qual++"<lambda>") sc s.heap.objs.size q cl (.ref cc)))→YN (Wu X.prog X.w X.K X.mg X.base X.N (YM (X.env.qual++"<lambda>") sc s.heap.objs.size q cl (.ref cc)) A outer s H Z) EE →
     PE (Wu X.prog X.w X.K X.mg X.base X.N (YM (X.env.qual++"<lambda>") sc s.heap.objs.size q cl (.ref cc)) A outer s H Z) body (te EE))
   (hdef:defaultsOf args X.env=([],[]):=by rfl) (hbind:∀ cl pm cc ct,bindArgs (kla_fn "<lambda>" (X.env.qual++"<lambda>") args body sc cl pm (.ref cc) ct) ⟨[],[]⟩=pure []:=by intros;rfl)
   (hg:Gl X f:=by rfl) (hdb:(f == ("__debug__":Str))=false:=by decide)
   (hst:starEach [Expr.Lambda args body sc lpos] X.env=(false,eval (.Lambda args body sc lpos) X.env)::starEach [] X.env:=by rfl) :
   PE X (.Call (.Name f p0) [.Lambda args body sc lpos] [] pos) (ZcJ RK Pl (X.env.qual++"<lambda>") te) :=
 fun pins s σ H Q I h=>Zgl D hr O hcode C hBm he hdef hbind hg hdb hst pins s σ H Q I (Zgj h)
end
end L2
set_option maxHeartbeats 2000000
namespace L2
open PySem
structure Fnd where
 wd:Nat
 nm:Str
 ol:V
def Fnd.vs (f:Fnd):List V:=[.int (f.wd:Int),.str f.nm,f.ol]
def Zdb (fs:List Fnd):Yh:=fun l h=>∃ as:List Addr,h l=some (.lst (as.map V.ref))∧as.length=fs.length∧∀(i:Nat)(a:Addr)(f:Fnd),as[i]?=some a→fs[i]?=some f→h a=some (.tup f.vs)
abbrev tFl (lf lu:Addr):List (Str×V):=[("finds",.ref lf),("unused",.ref lu)]
def Tks (CT:Addr)(fs:List Fnd)(us:List Bool):Yh:=fun t h=>∃ lf lu,Sep [(t,Xs CT (tFl lf lu)),(lf,Zdb fs),(lu,ZK (us.map V.bl))] h
structure Hs where
 dfs:List (Zl×V)
 pls:List Xt
 nds:List Nd
 tabs:List (Zl×V)
 spots:List Nat
 ins:List Nat
 fds:List Fnd
 us:List Bool
abbrev nI (n:Nat):V:=.int (n:Int)
theorem Zds {xs:List Nat}{k:Nat}(h:xs.getLast?=some k):Yr (xs.map nI) (-1)=some (nI k):=by
 obtain ⟨ys,rfl⟩:=List.getLast?_eq_some_iff.mp h
 have hl:((ys++[k]).map nI).length=ys.length+1:=by rw [List.length_map,List.length_append];rfl
 have e:((ys++[k]).map nI)[ys.length]?=some (nI k):=by rw [List.map_append,List.getElem?_append_right (by simp)];simp
 have e2:WJ (ys.length+1) (-1)=some ys.length:=by
   unfold WJ
   rw [if_neg (by omega),if_pos (by omega),show (-1+((ys.length+1:Nat):Int)).toNat=ys.length by omega]
 unfold Yr
 rw [hl,e2];exact e
abbrev Uw (d r sp i t:Addr):List (Str×V):=[("defaults",.ref d),("ways",.ref r),("spots",.ref sp),("inside",.ref i),("held",.ref t)]
abbrev Zfm (K:PySem.W.Frag)(CH CR CS CT:Addr)(s:Hs)(h d r sp i t:Addr):Rs :=
 [(h,Xs CH (Uw d r sp i t)),(d,Dic s.dfs),(r,Roa K CR CS s.pls s.nds s.tabs),(sp,ZK (s.spots.map nI)),(i,ZK (s.ins.map nI)),(t,Tks CT s.fds s.us)]
def YF (K:PySem.W.Frag)(CH CR CS CT:Addr)(s:Hs):Yh:=fun h hp=>∃ d r sp i t,Sep (Zfm K CH CR CS CT s h d r sp i t) hp
section
variable {K:PySem.W.Frag}{CH CR CS CT h d r sp i t lf lu:Addr}{s:Hs}{fs:List Fnd}{us:List Bool}{Δ:Rs}{H:Hp}
instance:Up (YF K CH CR CS CT s):=⟨fun ⟨d,r,sp,i,t,S⟩ e=>⟨d,r,sp,i,t,S.mono e⟩⟩
theorem Sep.halO (S:Sep ((h,YF K CH CR CS CT s)::Δ) H):∃ d r sp i t,Sep ((h,Xs CH (Uw d r sp i t))::(d,Dic s.dfs)::(r,Roa K CR CS s.pls s.nds s.tabs)::(sp,ZK (s.spots.map nI))::(i,ZK (s.ins.map nI))::(t,Tks CT s.fds s.us)::Δ) H:=by
 obtain ⟨h',l,⟨d,r,sp,i,t,G⟩,S⟩:=S
 exact ⟨d,r,sp,i,t,Sep.nest (a:=h) (Γ:=Zfm K CH CR CS CT s h d r sp i t) l G S⟩
theorem Sep.halC (S:Sep ((h,Xs CH (Uw d r sp i t))::(d,Dic s.dfs)::(r,Roa K CR CS s.pls s.nds s.tabs)::(sp,ZK (s.spots.map nI))::(i,ZK (s.ins.map nI))::(t,Tks CT s.fds s.us)::Δ) H):Sep ((h,YF K CH CR CS CT s)::Δ) H :=
 Sep.pack (Γ:=Zfm K CH CR CS CT s h d r sp i t) S fun h' G=>⟨d,r,sp,i,t,G⟩
theorem Sep.tksC (S:Sep ((t,Xs CT (tFl lf lu))::(lf,Zdb fs)::(lu,ZK (us.map V.bl))::Δ) H):Sep ((t,Tks CT fs us)::Δ) H :=
 Sep.pack (Γ:=[(t,Xs CT (tFl lf lu)),(lf,Zdb fs),(lu,ZK (us.map V.bl))]) S fun h' G=>⟨lf,lu,G⟩
theorem ZaZ:(Uw d r sp i t).lookup ("defaults":Str)=some (V.ref d):=rfl
theorem hf_w:(Uw d r sp i t).lookup ("ways":Str)=some (V.ref r):=rfl
theorem hf_s:(Uw d r sp i t).lookup ("spots":Str)=some (V.ref sp):=rfl
theorem hf_i:(Uw d r sp i t).lookup ("inside":Str)=some (V.ref i):=rfl
theorem YH {m:Str}(h:[("defaults":Str),"ways","spots","inside","held"].all (fun k=>!(m == k))=true):(Uw d r sp i t).lookup m=none:=by
 simp only [List.all_cons,List.all_nil,Bool.and_true,Bool.and_eq_true,Bool.not_eq_true'] at h
 obtain ⟨h1,h2,h3,h4,h5⟩:=h
 simp [Uw,List.lookup,h1,h2,h3,h4,h5]
end
structure Xg (K:PySem.W.Frag)(CH:Addr):Prop where
 cl:Cls K CH
 nd:NoAttr K CH "defaults"
 nw:NoAttr K CH "ways"
 ns:NoAttr K CH "spots"
 ni:NoAttr K CH "inside"
 nh:NoAttr K CH "held"
structure TxtT (K:PySem.W.Frag)(CT:Addr):Prop where
 cl:Cls K CT
 nf:NoAttr K CT "finds"
 nu:NoAttr K CT "unused"
end L2
set_option maxHeartbeats 4000000
namespace K32
open PySem L2
section
variable {P:Program}{w:World}{K:PySem.W.Frag}{mg:Str→Option Value}{base:Heap}{CH CR CS CT:Addr}
def ZbT (CT:Addr):Sp:=fun vs H Q _=>∃(t dx:Addr)(H0:Hp)(Δ:Rs),vs=[.ref t]∧H=upd (upd H0 dx (.own t)) t (.ins CT dx [])∧H0 t=none∧H0 dx=none∧dx≠t∧Sep Δ H0∧∀ H',Sep ((t,Tks CT [] [])::Δ) H'→Q .non H'
abbrev nTIn:List Str:=["self"]
abbrev ZfE:List Str:=["self"]
theorem ZjI:Zs nTIn ZfE (Zk c_Tokens___init__):=⟨rfl,rfl,rfl,by decide +kernel,rfl,by decide +kernel,by decide +kernel⟩
theorem Zfo {f:Addr}{fd:FuncData}(F:Fun K "__init__" "Tokens.__init__" c_Tokens___init__ f fd)(T:Yf mg)(TT:TxtT K CT):FnOk P w K mg base ZG 1 f fd ZfE (ZbT CT):=by
 refine F.ok ZjI (fun vs H Q E h=>?_) (fun cdv A outer s H vs Q E hr h=>?_)
 · obtain ⟨t,dx,H0,Δ,rfl,_⟩:=h;rfl
 obtain ⟨t,dx,H0,Δ,rfl,rfl,h1,h2,h3,S0,q⟩:=h
 have S:=((S0.new h2 (.own t)).new (p:=t) (by rw [Zg h3.symm];exact h1) (.ins CT dx [])).drop dx
 generalize upd (upd H0 dx (.own t)) t (.ins CT dx [])=H at *
 refine' ⟨?t,?h,?r⟩
 case h =>
   conv=>arg 2;whnf
   with_reducible refine' (Zh ?h1 (Zj ?h2))
   case h1=>exact Yj (pv 0) (ZF Za) rfl
   case h2=>exact Yj (pv 0) (ZF Za) rfl
 refine ⟨(by show 0≤sizeLine;decide),fun lf hlf=>?_⟩
 generalize hE:upd H lf _=H2
 have S2:=S.newE hlf hE
 clear hE
 refine ⟨_,rfl,t,CT,dx,_,rfl,S2.get t,TT.cl,TT.nf,(by show 0 < 1000;decide),?_⟩
 generalize hE:upd H2 t _=H3
 have S3:=S2.putE hE
 clear hE
 refine ⟨(by show 0≤sizeLine;decide),fun lu hlu=>?_⟩
 generalize hE:upd H3 lu _=H4
 have S4:=S3.newE hlu hE
 clear hE
 refine ⟨_,rfl,t,CT,dx,_,rfl,S4.get t,TT.cl,TT.nu,(by show 1 < 1000;decide),?_⟩
 generalize hE:upd H4 t _=H5
 have S5:=S4.putE hE
 clear hE
 have S6:=S5.say lf (Zdb []) fun h z=>⟨[],z,rfl,fun i a s e=>by simp at e⟩
 have S7:=S6.say t (Xs CT (tFl lf lu)) fun h z=>⟨dx,z⟩
 exact q _ (Sep.tksC (us:=[]) (((S7.pull lu).pull lf).pull t))
def hs0:Hs:=⟨[],[],[.bare],[(Sum.inl 0,.bl true)],[0],[0],[],[]⟩
def Zck (K:PySem.W.Frag)(CH CR CS CT:Addr):Sp:=fun vs H Q _=>∃(p dx:Addr)(H0:Hp)(Δ:Rs),vs=[.ref p]∧H=upd (upd H0 dx (.own p)) p (.ins CH dx [])∧H0 p=none∧H0 dx=none∧dx≠p∧Sep Δ H0∧∀ H',Sep ((p,YF K CH CR CS CT hs0)::Δ) H'→Q .non H'
abbrev nHIn:List Str:=["self"]
abbrev ZfS:List Str:=["self"]
theorem Zjc:Zs nHIn ZfS (Zk c_Hall___init__):=⟨rfl,rfl,rfl,by decide +kernel,rfl,by decide +kernel,by decide +kernel⟩
theorem Zfv {f:Addr}{fd:FuncData}(F:Fun K "__init__" "Hall.__init__" c_Hall___init__ f fd)(T:Yf mg)(TH:Xg K CH)(DRd:VE P w K mg base 11 CR "Roads" ["self"] (ZbV K CR CS))(DTk:VE P w K mg base 1 CT "Tokens" ["self"] (ZbT CT)):FnOk P w K mg base ZG 13 f fd ZfS (Zck K CH CR CS CT):=by
 refine F.ok Zjc (fun vs H Q E h=>?_) (fun cdv A outer s H vs Q E hr h=>?_)
 · obtain ⟨t,dx,H0,Δ,rfl,_⟩:=h;rfl
 obtain ⟨p,dx,H0,Δ,rfl,rfl,h1,h2,h3,S0,q⟩:=h
 have S:=((S0.new h2 (.own p)).new (p:=p) (by rw [Zg h3.symm];exact h1) (.ins CH dx [])).drop dx
 generalize upd (upd H0 dx (.own p)) p (.ins CH dx [])=H at *
 have hr2:=hr.mono (show 2≤12 by decide)
 refine' ⟨?t,?h,?r⟩
 case h =>
   conv=>arg 2;whnf
   with_reducible refine' (Zh ?h1 (Zh ?h2 (Zh ?h3 (Zh ?h4 (Zj ?h5)))))
   case h1=>exact Yj (pv 0) Zey rfl
   case h2=>exact Yj (pv 0) (Zat DRd hr) rfl
   case h3=>exact Yj (pv 0) (ZF (Zd Ze Za)) rfl
   case h4=>exact Yj (pv 0) (ZF (Zd Ze Za)) rfl
   case h5=>exact Yj (pv 0) (Zat DTk hr2) rfl
 intro d hd
 generalize hE:upd H d _=H1
 have S1:=S.newE hd hE
 clear hE
 refine ⟨_,rfl,p,CH,dx,_,rfl,S1.get p,TH.cl,TH.nd,(by show 0 < 1000;decide),?_⟩
 generalize hE:upd H1 p _=H2
 have S2:=S1.putE hE
 clear hE
 intro r dr hr1 hdr hne
 refine ⟨r,dr,_,_,rfl,rfl,hr1,hdr,hne,S2,fun H3 S3=>⟨rfl,?_⟩⟩
 refine ⟨_,rfl,p,CH,dx,_,rfl,S3.get p,TH.cl,TH.nw,(by show 1 < 1000;decide),?_⟩
 generalize hE:upd H3 p _=H4
 have S4:=S3.putE hE
 clear hE
 refine ⟨(by show 1≤sizeLine;decide),fun sp hsp=>?_⟩
 generalize hE:upd H4 sp _=H5
 have S5:=S4.newE hsp hE
 clear hE
 refine ⟨_,rfl,p,CH,dx,_,rfl,S5.get p,TH.cl,TH.ns,(by show 2 < 1000;decide),?_⟩
 generalize hE:upd H5 p _=H6
 have S6:=S5.putE hE
 clear hE
 refine ⟨(by show 1≤sizeLine;decide),fun i hi=>?_⟩
 generalize hE:upd H6 i _=H7
 have S7:=S6.newE hi hE
 clear hE
 refine ⟨_,rfl,p,CH,dx,_,rfl,S7.get p,TH.cl,TH.ni,(by show 3 < 1000;decide),?_⟩
 generalize hE:upd H7 p _=H8
 have S8:=S7.putE hE
 clear hE
 intro t dt ht1 hdt hnt
 refine ⟨t,dt,_,_,rfl,rfl,ht1,hdt,hnt,S8,fun H9 S9=>⟨rfl,?_⟩⟩
 refine ⟨_,rfl,p,CH,dx,_,rfl,S9.get p,TH.cl,TH.nh,(by show 4 < 1000;decide),?_⟩
 generalize hE:upd H9 p _=H10
 have S10:=S9.putE hE
 clear hE
 have S11:=S10.say p (Xs CH (Uw d r sp i t)) fun h z=>⟨dx,z⟩
 exact q _ (Sep.halC (s:=hs0) (((((S11.pull t).pull i).pull sp).pull r).pull d |>.pull p))
abbrev RdH (K:PySem.W.Frag)(CH CR CS CT h:Addr)(s:Hs)(H:Hp):Prop:=YF K CH CR CS CT s h H
def Zdi (K:PySem.W.Frag)(CH CR CS CT:Addr):Sp:=fun vs H Q _=>∃(h:Addr)(s:Hs)(k:Nat),vs=[.ref h,.int (k:Int)]∧RdH K CH CR CS CT h s H∧k < s.spots.length∧Q .non H
abbrev nHCk:List Str:=["self","world"]
abbrev Zar:List Str:=["self","world"]
theorem ZjD:Zs nHCk Zar (Zk c_Hall_check_world):=⟨rfl,rfl,rfl,by decide +kernel,rfl,by decide +kernel,by decide +kernel⟩
theorem Zhz {f:Addr}{fd:FuncData}(F:Fun K "check_world" "Hall.check_world" c_Hall_check_world f fd)(T:Yf mg)(TH:Xg K CH):FnOk P w K mg base ZG 1 f fd Zar (Zdi K CH CR CS CT):=by
 refine F.ok ZjD (fun vs H Q E h=>?_) (fun cdv A outer s H vs Q E hr h=>?_)
 · obtain ⟨h,s,k,rfl,_⟩:=h;rfl
 obtain ⟨h,s,k,rfl,⟨d,r,sp,i,t,S⟩,hk,q⟩:=h
 obtain ⟨dx,ob⟩:=S.get h
 refine' ⟨?t,?h,?r⟩
 case h =>
   conv=>arg 2;whnf
   with_reducible refine' (Zj (Yg ?h1 (Zj ZcO) ZJ))
   case h1=>exact Zbm (ZaP ZfT Zas Ze (pv 1) (Zn Ye rfl T.len PySem.boot_len (Zd (ZU (pv 0) rfl) Za)))
 refine ⟨_,rfl,_,_,rfl,rfl,_,rfl,?_⟩
 rw [decide_eq_true (show (0:Int)≤(k:Int) by omega)]
 refine Wx ⟨_,rfl,h,CH,dx,_,_,rfl,ob,TH.cl,TH.ns,hf_s,sp,_,rfl,.inl (SqL.of (S.get sp)),_,_,rfl,rfl,_,rfl,?_⟩
 rw [decide_eq_true (show (k:Int) < (((s.spots.map nI).length:Nat):Int) by rw [List.length_map];omega)]
 exact Yo q
def ZfM (K:PySem.W.Frag)(CH CR CS CT:Addr):Sp:=fun vs H Q _=>∃(h:Addr)(s:Hs)(k p:Nat),vs=[.ref h,.int (k:Int)]∧RdH K CH CR CS CT h s H∧s.spots[k]?=some p∧Q (.int (p:Int)) H
abbrev nHPl:List Str:=["self","world"]
abbrev Zde:List Str:=["self","world"]
theorem ZjE:Zs nHPl Zde (Zk c_Hall_place):=⟨rfl,rfl,rfl,by decide +kernel,rfl,by decide +kernel,by decide +kernel⟩
theorem Zie {f:Addr}{fd:FuncData}(F:Fun K "place" "Hall.place" c_Hall_place f fd)(T:Yf mg)(TH:Xg K CH)(DH_check_world:DefM P w K mg base 1 CH "check_world" Zar (Zdi K CH CR CS CT)):FnOk P w K mg base ZG 2 f fd Zde (ZfM K CH CR CS CT):=by
 refine F.ok ZjE (fun vs H Q E h=>?_) (fun cdv A outer s H vs Q E hr h=>?_)
 · obtain ⟨h,s,k,p,rfl,_⟩:=h;rfl
 obtain ⟨h,s,k,p,rfl,R,hk,q⟩:=h
 obtain ⟨d,r,sp,i,t,S⟩:=id R
 obtain ⟨dx,ob⟩:=S.get h
 refine' ⟨?t,?h,?r⟩
 case h =>
   conv=>arg 2;whnf
   with_reducible refine' (Zh ?h1 (Zj ?h2))
   case h1=>exact YG (XI DH_check_world TH.cl hr (pv 0) (Zd (pv 1) Za))
   case h2=>exact Zv (ZB ZA (ZU (pv 0) rfl) (pv 1) (fun _ _=>rfl))
 refine ⟨_,rfl,h,dx,_,rfl,ob,YH (by decide +kernel),_,rfl,h,s,k,rfl,R,(List.getElem?_eq_some_iff.mp hk).1,?_⟩
 exact ⟨_,rfl,h,CH,dx,_,_,rfl,ob,TH.cl,TH.ns,hf_s,_,rfl,sp,_,_,_,rfl,rfl,SqL.of (S.get sp),ZS (by rw [List.getElem?_map,hk];rfl),q⟩
def ZfG (K:PySem.W.Frag)(CH CR CS CT:Addr):Sp:=fun vs H Q _=>∃(h:Addr)(s:Hs)(k:Nat),vs=[.ref h]∧RdH K CH CR CS CT h s H∧s.ins.getLast?=some k∧Q (.int (k:Int)) H
abbrev nHNo:List Str:=["self"]
abbrev ZcP:List Str:=["self"]
theorem Zjd:Zs nHNo ZcP (Zk c_Hall_now):=⟨rfl,rfl,rfl,by decide +kernel,rfl,by decide +kernel,by decide +kernel⟩
theorem Zix {f:Addr}{fd:FuncData}(F:Fun K "now" "Hall.now" c_Hall_now f fd)(T:Yf mg)(TH:Xg K CH):FnOk P w K mg base ZG 1 f fd ZcP (ZfG K CH CR CS CT):=by
 refine F.ok Zjd (fun vs H Q E h=>?_) (fun cdv A outer s H vs Q E hr h=>?_)
 · obtain ⟨h,s,k,rfl,_⟩:=h;rfl
 obtain ⟨h,s,k,rfl,⟨d,r,sp,i,t,S⟩,hk,q⟩:=h
 obtain ⟨dx,ob⟩:=S.get h
 refine' ⟨?t,?h,?r⟩
 case h =>
   conv=>arg 2;whnf
   with_reducible refine' (Zj ?h1)
   case h1=>exact Zv (ZB ZA (ZU (pv 0) rfl) (Zfx Zdj Ze) (fun _ _=>rfl))
 exact ⟨_,rfl,h,CH,dx,_,_,rfl,ob,TH.cl,TH.ni,hf_i,1,rfl,i,_,_,_,rfl,rfl,SqL.of (S.get i),Zds hk,q⟩
end
end K32
set_option maxHeartbeats 2000000
namespace L2
open PySem PySem.W
def UT (v:Option (Option Value))(x:String):Bool:=match v with
 | some (some (.builtin b))=>b == x
 | _=>false
def Zay (v:Option (Option Value)):Bool:=match v with
 | some none=>true
 | _=>false
def UR (K:PySem.W.Frag)(CRo C fI:Addr)(cs n1 n2:List Addr)(j:Nat):Bool :=
 ((Zbr K C&&Zay (findIn K (.ref C) "what"))&&(UT (findIn K (.ref C) "__getattribute__") "BaseException.__getattribute__"&&(Zay (findIn K (.ref C) "__getattr__")&&UT (findIn K (.ref C) "__class__") "object.__class__"))) &&
 (((match findIn K (.ref C) "__init__" with | some (some (.ref a))=>a == fI | _=>false)&&UT (findIn K (.ref C) "__setattr__") "object.__setattr__")&&keepIn K (.ref C)) &&
 ((exmOne K (.ref C) (.ref CRo) == some true&&kitOne K (.ref C) (.type "ValueError") == some true) &&
  (((List.range cs.length).all fun i=>kitOne K (.ref C) (.ref (cs.getD i 0)) == some (decide (i=j)))&&(kitAny K (.ref C) (n1.map Value.ref) == some false&&kitAny K (.ref C) (n2.map Value.ref) == some false)))
structure RefK (K:PySem.W.Frag)(CRo:Addr)(cs n1 n2:List Addr)(C:Addr)(j:Nat):Prop where
 g:XG K C
 cat:exmOne K (.ref C) (.ref CRo)=some true
 ve:kitOne K (.ref C) (.type "ValueError")=some true
 is:∀ i,i < cs.length→kitOne K (.ref C) (.ref (cs.getD i 0))=some (decide (i=j))
 no1:kitAny K (.ref C) (n1.map Value.ref)=some false
 no2:kitAny K (.ref C) (n2.map Value.ref)=some false
theorem Zba {v:Option (Option Value)}{x:String}(h:UT v x=true):v=some (some (.builtin x)):=by
 unfold UT at h
 split at h
 · rw [beq_iff_eq.mp h]
 · cases h
theorem ZaV {v:Option (Option Value)}(h:Zay v=true):v=some none:=by
 unfold Zay at h
 split at h
 · rfl
 · cases h
theorem Wo {K:PySem.W.Frag}{CRo C fI:Addr}{cs n1 n2:List Addr}{j:Nat}(h:UR K CRo C fI cs n1 n2 j=true):RefK K CRo cs n1 n2 C j∧(isFn K (.ref fI)=true→XF K C fI):=by
 unfold UR at h
 simp only [Bool.and_eq_true,beq_iff_eq,List.all_eq_true,List.mem_range] at h
 obtain ⟨⟨⟨⟨a1,a2⟩,a3,a4,a5⟩,⟨b1,b2⟩,b3⟩,⟨c1,c2⟩,c3,c4,c5⟩:=h
 have g:XG K C:=⟨a1,ZaV a2,Zba a3,ZaV a4,Zba a5⟩
 refine ⟨⟨g,c1,c2,c3,c4,c5⟩,fun hf=>?_⟩
 have i1:findIn K (.ref C) "__init__"=some (some (.ref fI)):=by
   split at b1
   · rename_i e;rw [e,beq_iff_eq.mp b1]
   · cases b1
 exact ⟨a1,i1,Zba b2,ZaV a2,hf,b3⟩
end L2
set_option maxHeartbeats 2000000
namespace L2
open PySem PySem.Spec PyProof.Rows PyProof.Rows.KTD
section
variable {δ:Type}{Rr:δ→Value→Prop}{prog:Program}{w:World}{A:Around}{E:Value→Shared→Prop}{s:Shared}{a:Addr}{D:List (Str×δ)}{k:Str}{tk:Tok}
end
section
variable {X:Cx}{o e:Expr}{apos cpos:Pos}{te:TE}{d:Addr}{D:List (Str×List V)}
end
end L2
set_option maxHeartbeats 2000000
namespace L2
open PySem PySem.Spec PyProof.Rows
section
variable {X:Cx}
end
mutual
theorem DatT.same {K:PySem.W.Frag}{H H':Hp}(s:Same H H'):∀{v d},DatT K H v d→DatT K H' v d
 | _,_,.non=>.non
 | _,_,.int i=>.int i
 | _,_,.str x=>.str x
 | _,_,.tup e q=>.tup (e.tf s.tf) (DatTs.same s q)
theorem DatTs.same {K:PySem.W.Frag}{H H':Hp}(s:Same H H'):∀{vs ds},DatTs K H vs ds→DatTs K H' vs ds
 | _,_,.nil=>.nil
 | _,_,.cons r t=>.cons (DatT.same s r) (DatTs.same s t)
end
theorem Zaj {P:Nat→Bool}{x:Str}(h:x.cps.toList.all P=true)(hP:∀ c,P c=true→c < 1114112):PyData.strOk x=true:=by
 show x.cps.all (fun c=>decide (c < 1114112))=true
 rw [← Array.all_toList,List.all_eq_true]
 exact fun c hc=>decide_eq_true (hP c (List.all_eq_true.mp h c hc))
theorem Zdv {v:V}(h:Uc v):(YL v).canLay0=true:=by
 cases v<;>first | rfl | exact Zaj h.2 (fun c hc=>by unfold WK at hc;simp at hc;omega) | exact h.elim
end L2
set_option maxHeartbeats 2000000
namespace L2
open PySem PySem.Spec PyProof.Rows
def ZjL (K:PySem.W.Frag):R2:=fun x y H Q=>∃(a b:Addr)(xs:List V)(ds:List PyData),x=.ref a∧y=.ref b∧H a=some (.lst xs)∧DatTs K H xs ds∧PyData.canLayAll0 ds=true∧PyData.depthAll ds≤50∧H b=some (.lst [])∧Q (.bl (!decide (xs=[]))) H
section
variable {X:Cx}
theorem ZgQ {K:PySem.W.Frag}(hK:X.K=K)(hu:X.A.units+64 < cLine):Yx X (compareOp .NotEq) (ZjL K):=by
 subst hK
 intro pins s σ H x y v u Q I rx ry h
 obtain ⟨a,b,xs,ds,rfl,rfl,e1,d1,c1,hd,e2,q⟩:=h
 cases rx;cases ry
 obtain ⟨_,its,n,rv,g⟩:=(show ObjOk X.prog X.w H s.heap a (.lst xs) from I.hok a _ e1)
 obtain ⟨_,its2,n2,rv2,g2⟩:=(show ObjOk X.prog X.w H s.heap b (.lst []) from I.hok b _ e2)
 cases rv2
 obtain ⟨nd,as,ra⟩:=DatTs.reads I its d1 rv
 have r1:Reads s.heap (.ref a) (.list ds) _:=.list g rfl rfl (by simpa using ra)
 have r2:Reads s.heap (.ref b) (.list []) _:=.list g2 rfl rfl .nil
 refine SeqAt.compareNe_reads r1 r2 c1 rfl (Nat.lt_of_le_of_lt (Nat.add_le_add_left (Nat.le_trans (Nat.min_le_right _ _) (show (PyData.list []).depth≤1 by decide)) _) (by omega)) ⟨.bl _,H,I,rfl,?_⟩
 have e:PyData.eqv (.list ds) (.list [])=decide (xs=[]):=by
   cases d1 with
   | nil=>rfl
   | cons _ _=>simp [PyData.eqv,PyData.eqvAll]
 rw [e];exact q
end
section
variable {prog:Program}{w:World}{A:Around}{E:Value→Shared→Prop}{s:Shared}
end
section
variable {X:Cx}
end
end L2
set_option maxHeartbeats 2000000
namespace L2
open PySem PySem.Spec PyProof.Rows
end L2
set_option maxHeartbeats 2000000
namespace L2
open PySem PySem.Spec PyProof.Rows
section
variable {prog:Program}{w:World}{A:Around}{E:Value→Shared→Prop}{s:Shared}
end
section
variable {prog:Program}{w:World}{A:Around}{E:Value→Shared→Prop}{s:Shared}
end
section
variable {X:Cx}
end
end L2
set_option maxHeartbeats 2000000
namespace L2
open PySem PySem.Spec PyProof.Rows
section
variable {X:Cx}{pins:List (Addr×Obj)}{σ:St}{H:Hp}{s:Shared}
end
end L2
namespace L2
open PySem
structure FG (K:PySem.W.Frag)(x:Str)(st:Stmt)(f:Addr)(fd:FuncData):Prop where
 a:PySem.W.nsIn K mainGlobals x=some (some (.ref f))
 F:Fun K x x st f fd
structure FM (K:PySem.W.Frag)(C:Addr)(x q:Str)(st:Stmt)(f:Addr)(fd:FuncData):Prop where
 m:VN K C x f
 F:Fun K x q st f fd
structure FGC (K:PySem.W.Frag)(x:Str)(st:Stmt)(f:Addr)(fd:FuncData)(c Pl:Addr):Prop where
 a:PySem.W.nsIn K mainGlobals x=some (some (.ref f))
 F:FunC K x x st f fd c Pl
structure CH (K:PySem.W.Frag)(x:Str)(C:Addr):Prop where
 a:PySem.W.nsIn K mainGlobals x=some (some (.ref C))
 c:Cls K C
 ms:PySem.W.makesIn K C=true
 kp:PySem.W.keepIn K (.ref C)=true
structure Bs (P:Program)(w:World)(K:PySem.W.Frag)(mg:Str→Option Value)(base h:Heap):Prop where
 X:K.In h
 G:h.Ns mainGlobals mg
section
variable {P:Program}{w:World}{K:PySem.W.Frag}{mg:Str→Option Value}{base h:Heap}{x q:Str}{st:Stmt}{f c Pl C:Addr}{fd:FuncData}{k:Nat}{ps:List Str}{sp:Sp}{p1 p2 p3 p4 p5:Str}
theorem FG.df (g:FG K x st f fd)(e:Bs P w K mg base h)(o:FnOk P w K mg base ZG k f fd ps sp)(b:Binds K fd ps []):Def P w K mg base k x ps sp:=⟨f,fd,o,b,g.F.kp,PySem.W.mg_of e.X e.G g.a⟩
theorem FM.df (g:FM K C x q st f fd)(_:Bs P w K mg base h)(o:FnOk P w K mg base ZG k f fd ps sp)(b:Binds K fd ps []):DefM P w K mg base k C x ps sp:=⟨f,fd,o,b,g.m⟩
theorem FM.di {y:Str}(g:FM K C "__init__" q st f fd)(ch:CH K y C)(e:Bs P w K mg base h)(o:FnOk P w K mg base ZG k f fd ps sp)(b:Binds K fd ps []):VE P w K mg base k C y ps sp:=⟨f,fd,o,b,⟨ch.ms,g.m.at_,g.m.fn,ch.kp⟩,PySem.W.mg_of e.X e.G ch.a⟩
abbrev BA (x q:Str)(st:Stmt)(us:List Value)(r:List (Str×Value)):Prop:=∀(kV doc pm:Value)(an:Option Addr)(cdv ct:Value),bindArgs (PySem.W.fnOf x q (Uj st) (YS st) (Zk st) .none kV doc pm an cdv ct) ⟨us,[]⟩=pure r
theorem Fun.b1 (F:Fun K x q st f fd)(h:∀ u,BA x q st [u] [(p1,u)]):Binds K fd [p1] []:=F.binds fun a b c d e g us hl=>match us,hl with | [u],_=>h u a b c d e g
theorem Fun.b2 (F:Fun K x q st f fd)(h:∀ u v,BA x q st [u,v] [(p1,u),(p2,v)]):Binds K fd [p1,p2] []:=F.binds fun a b c d e g us hl=>match us,hl with | [u,v],_=>h u v a b c d e g
theorem Fun.b3 (F:Fun K x q st f fd)(h:∀ u v y,BA x q st [u,v,y] [(p1,u),(p2,v),(p3,y)]):Binds K fd [p1,p2,p3] []:=F.binds fun a b c d e g us hl=>match us,hl with | [u,v,y],_=>h u v y a b c d e g
theorem Zes (F:Fun K x q st f fd)(h:∀ u,BA x q st [u] [(p1,u)])(s:Shared)(v:Value):BindsTo s fd ⟨[v],[]⟩ [(p1,v)]:=by
 obtain ⟨oc,od,kV,doc,pm,an,cdv,ct,osl,rfl,lk,hcd⟩:=F.ex
 exact .of_eq (h v kV doc pm an cdv ct)
end
end L2
set_option maxHeartbeats 2000000
namespace L2
open PySem PySem.Spec PyProof.Rows
def ZeY:Expr→Option V
 | .Constant (.int i) _ _=>some (.int i)
 | .Constant (.str x) _ _=>some (.str x)
 | .Constant (.bool b) _ _=>some (.bl b)
 | .Constant .none _ _=>some .non
 | _=>none
def Zcy:List Expr→Option (List V)
 | []=>some []
 | e::es=>match ZeY e,Zcy es with
   | some v,some vs=>some (v::vs)
   | _,_=>none
section
variable {X:Cx}
theorem Zil {e:Expr}{v:V}(h:ZeY e=some v):PE X e (tC v)∧∀ es,starEach (e::es) X.env=(false,eval e X.env)::starEach es X.env:=by
 unfold ZeY at h
 split at h<;>cases h
 · exact ⟨Ze,fun _=>rfl⟩
 · exact ⟨Zz,fun _=>rfl⟩
 · exact ⟨Xm,fun _=>rfl⟩
 · exact ⟨YX,fun _=>rfl⟩
def Zjo (vs:List V):TA:=fun _ H Q=>Q vs H
theorem ZbW:∀{es:List Expr}{vs:List V},Zcy es=some vs→PA X es (Zjo vs)
 | [],_,h=>by cases h;exact Za
 | e :: es,vs,h=>by
   rw [Zcy] at h
   split at h
   · rename_i v ws h1 h2
     cases h
     obtain ⟨p,s⟩:=Zil (X:=X) h1
     exact Yd p (ZbW h2) (s es)
   · cases h
end
section
variable {X:Cx}
end
section
variable {K:PySem.W.Frag}{x q:Str}{st:Stmt}{f:Addr}{fd:FuncData}{p1 p2 p3 p4 p5 p6 p7:Str}
end
section
variable {X:Cx}
end
end L2
set_option maxHeartbeats 4000000
namespace K32
open PySem L2
abbrev xNm:List Str:=["Known","NoSetting","Missing","NoWorld","Busy","AtHome","NoToken","Used","Elsewhere","OutOfTurn","NoTable","NoNode","NoPlace","NotBehind","NoWatcher","NoTask","BadRow"]
abbrev xWd:List Str:=["known","setting","missing","world","busy","home","token","used","elsewhere","turn"]
structure TxtE (K:PySem.W.Frag)(mg:Str→Option Value)(CRo:Addr)(cs:List Addr):Prop where
 road:mg "RoadError"=some (.ref CRo)
 ve:mg "ValueError"=none
 ex:∀ (i:Nat) {x:Str},xNm[i]?=some x→mg x=some (.ref (cs.getD i 0))
theorem Zgq {K:PySem.W.Frag}{mg:Str→Option Value}{CRo c0 c1 c2 c3 c4 c5 c6 c7 c8 c9 c10 c11 c12 c13 c14 c15 c16:Addr}(hr:mg "RoadError"=some (.ref CRo))(hv:mg "ValueError"=none)(h0:mg "Known"=some (.ref c0))(h1:mg "NoSetting"=some (.ref c1))(h2:mg "Missing"=some (.ref c2))(h3:mg "NoWorld"=some (.ref c3))(h4:mg "Busy"=some (.ref c4))(h5:mg "AtHome"=some (.ref c5))(h6:mg "NoToken"=some (.ref c6))(h7:mg "Used"=some (.ref c7))(h8:mg "Elsewhere"=some (.ref c8))(h9:mg "OutOfTurn"=some (.ref c9))(h10:mg "NoTable"=some (.ref c10))(h11:mg "NoNode"=some (.ref c11))(h12:mg "NoPlace"=some (.ref c12))(h13:mg "NotBehind"=some (.ref c13))(h14:mg "NoWatcher"=some (.ref c14))(h15:mg "NoTask"=some (.ref c15))(h16:mg "BadRow"=some (.ref c16)):TxtE K mg CRo [c0,c1,c2,c3,c4,c5,c6,c7,c8,c9,c10,c11,c12,c13,c14,c15,c16]:=⟨hr,hv,fun i x h=>match i,h with
 | 0,h=>by cases h;exact h0
 | 1,h=>by cases h;exact h1
 | 2,h=>by cases h;exact h2
 | 3,h=>by cases h;exact h3
 | 4,h=>by cases h;exact h4
 | 5,h=>by cases h;exact h5
 | 6,h=>by cases h;exact h6
 | 7,h=>by cases h;exact h7
 | 8,h=>by cases h;exact h8
 | 9,h=>by cases h;exact h9
 | 10,h=>by cases h;exact h10
 | 11,h=>by cases h;exact h11
 | 12,h=>by cases h;exact h12
 | 13,h=>by cases h;exact h13
 | 14,h=>by cases h;exact h14
 | 15,h=>by cases h;exact h15
 | 16,h=>by cases h;exact h16
 | n+17,h=>by simp [xNm] at h⟩
def RK (K:PySem.W.Frag)(CRo:Addr)(cs:List Addr)(C:Addr)(word:Str):Prop:=∃ j,RefK K CRo [cs.getD 0 0,cs.getD 1 0,cs.getD 2 0,cs.getD 3 0,cs.getD 4 0,cs.getD 5 0,cs.getD 6 0,cs.getD 7 0,cs.getD 8 0,cs.getD 9 0] [cs.getD 10 0,cs.getD 11 0,cs.getD 12 0,cs.getD 13 0] [cs.getD 14 0,cs.getD 15 0,cs.getD 16 0] C j∧xWd[j]?=some word
abbrev VW (j:Nat):List Bool:=[decide (0=j),decide (1=j),decide (2=j),decide (3=j),decide (4=j),decide (5=j),decide (6=j),decide (7=j),decide (8=j),decide (9=j),false,false]
theorem kcnt:∀ j:Fin 10,((VW j.val).filter id).length=1:=by decide
theorem kat:∀ j:Fin 10,(VW j.val)[j.val]?=some true:=by decide
theorem kno:∀ j:Fin 10,∀ m:Fin 10,m.val < j.val→(VW j.val)[m.val]?=some false:=by decide
section
variable {P:Program}{w:World}{K:PySem.W.Frag}{mg:Str→Option Value}{base:Heap}{CRo:Addr}{cs:List Addr}{kk:Nat}
abbrev nTo:List Str:=["_law_ask","_law_caught","_law_found","error","_law_kinds","_law_words"]
abbrev pnTo:List Str:=["_law_ask"]
theorem scTo:Zs nTo pnTo (Zk s_l_told):=⟨rfl,rfl,rfl,by decide +kernel,rfl,by decide +kernel,by decide +kernel⟩
theorem ZgW {f:Addr}{fd:FuncData}(F:Fun K "_law_told" "_law_told" s_l_told f fd)(T:Yf mg)(TE:TxtE K mg CRo cs):FnOk P w K mg base ZG (kk+1) f fd pnTo (Vn P w K mg base kk (RK K CRo cs)):=by
 refine F.ok scTo (fun vs H Q E h=>?_) (fun cdv A outer s H vs Q E hr h=>?_)
 · obtain ⟨q,cs',cc,qual,T',rfl,_⟩:=h;rfl
 obtain ⟨q,cs',cc,qual,T',rfl,Z,has,hcc,hT⟩:=h
 refine' ⟨?t,?h,?r⟩
 case h =>
   conv=>arg 2;whnf
   with_reducible refine' (Zh ?h1 (Zh (ZeW (i:=3) ?h2 ?h3 ?h4 ?h5 ?h6 ?h7 ?h8 ?h9 ?h10 (fun pn Z EE W=>(Zj ?h11)) (fun ea Z=>(Zj ?h12))) (Zh (Yg ?h13 (Zj ?h14) ZJ) (Zh ?h15 (Zh ?h16 (Zh ?h17 (Zh ?h18 (Zh ?h19 (Zh (Zw (i:=5) ?h20 ?h21 ?h22 (ZF ?h23) ?h24 ?h25) (Zh (Yg ?h26 (Zj ?h27) ZJ) (Zj ?h28)))))))))))
   case h1=>exact Wq (ZX (Zd YX (Zd YX Za))) (Wl rfl (ZW (ZL (i:=1) scTo.nd rfl (Or.inl rfl)) (ZW (ZL (i:=2) scTo.nd rfl (Or.inl rfl)) Xz)))
   case h2=>exact rfl
   case h3=>exact rfl
   case h4=>exact rfl
   case h5=>exact scTo.nd
   case h6=>exact rfl
   case h7=>exact rfl
   case h8=>exact rfl
   case h9=>exact TE.road
   case h10=>exact (by decide)
   case h11=>exact Zw (i:=2) scTo.nd rfl (Or.inl rfl) (Zhf (i:=0) (P:=P) (w:=w) (K:=K) (mg:=mg) (base:=base) rfl rfl rfl rfl rfl W hr rfl (.inl rfl))
   case h12=>exact Zw (i:=1) scTo.nd rfl (Or.inl rfl) (pv 3)
   case h13=>exact XL (Vo (pv 1))
   case h14=>exact Zv (ZX (Zd Zz (Zd (pv 2) Za)))
   case h15=>exact Zw (i:=4) scTo.nd rfl (Or.inl rfl) (ZF (Zd (Zn ZT rfl T.isinstance (by decide +kernel) (Zd (pv 1) (Zd (ZC (v:=.ref _) rfl (TE.ex 0 rfl) rfl) Za))) (Zd (Zn ZT rfl T.isinstance (by decide +kernel) (Zd (pv 1) (Zd (ZC (v:=.ref _) rfl (TE.ex 1 rfl) rfl) Za))) (Zd (Zn ZT rfl T.isinstance (by decide +kernel) (Zd (pv 1) (Zd (ZC (v:=.ref _) rfl (TE.ex 2 rfl) rfl) Za))) Za))))
   case h16=>exact Zw (i:=4) scTo.nd rfl (Or.inl rfl) (Zr Wm (pv 4) (ZF (Zd (Zn ZT rfl T.isinstance (by decide +kernel) (Zd (pv 1) (Zd (ZC (v:=.ref _) rfl (TE.ex 3 rfl) rfl) Za))) (Zd (Zn ZT rfl T.isinstance (by decide +kernel) (Zd (pv 1) (Zd (ZC (v:=.ref _) rfl (TE.ex 4 rfl) rfl) Za))) (Zd (Zn ZT rfl T.isinstance (by decide +kernel) (Zd (pv 1) (Zd (ZC (v:=.ref _) rfl (TE.ex 5 rfl) rfl) Za))) Za)))))
   case h17=>exact Zw (i:=4) scTo.nd rfl (Or.inl rfl) (Zr Wm (pv 4) (ZF (Zd (Zn ZT rfl T.isinstance (by decide +kernel) (Zd (pv 1) (Zd (ZC (v:=.ref _) rfl (TE.ex 6 rfl) rfl) Za))) (Zd (Zn ZT rfl T.isinstance (by decide +kernel) (Zd (pv 1) (Zd (ZC (v:=.ref _) rfl (TE.ex 7 rfl) rfl) Za))) (Zd (Zn ZT rfl T.isinstance (by decide +kernel) (Zd (pv 1) (Zd (ZC (v:=.ref _) rfl (TE.ex 8 rfl) rfl) Za))) Za)))))
   case h18=>exact Zw (i:=4) scTo.nd rfl (Or.inl rfl) (Zr Wm (pv 4) (ZF (Zd (Zn ZT rfl T.isinstance (by decide +kernel) (Zd (pv 1) (Zd (ZC (v:=.ref _) rfl (TE.ex 9 rfl) rfl) Za))) (Zd (Zn VP rfl T.isinstance (by decide +kernel) (Zd (pv 1) (Zd (ZX (YZ (ZC (v:=.ref _) rfl (TE.ex 10 rfl) rfl) (YZ (ZC (v:=.ref _) rfl (TE.ex 11 rfl) rfl) (YZ (ZC (v:=.ref _) rfl (TE.ex 12 rfl) rfl) (YZ (ZC (v:=.ref _) rfl (TE.ex 13 rfl) rfl) Za rfl) rfl) rfl) rfl)) Za))) Za))))
   case h19=>exact Zw (i:=4) scTo.nd rfl (Or.inl rfl) (Zr Wm (pv 4) (ZF (Zd (Zn VP rfl T.isinstance (by decide +kernel) (Zd (pv 1) (Zd (ZX (YZ (ZC (v:=.ref _) rfl (TE.ex 14 rfl) rfl) (YZ (ZC (v:=.ref _) rfl (TE.ex 15 rfl) rfl) (YZ (ZC (v:=.ref _) rfl (TE.ex 16 rfl) rfl) Za rfl) rfl) rfl)) Za))) Za)))
   case h20=>exact scTo.nd
   case h21=>exact rfl
   case h22=>exact (Or.inl rfl)
   case h23=>(refine' ZbW (vs:=[.str "known",.str "setting",.str "missing",.str "world",.str "busy",.str "home",.str "token",.str "used",.str "elsewhere",.str "turn",.str "odd",.str "odd"]) ?zz;case zz=>decide +kernel)
   case h24=>exact rfl
   case h25=>exact (by first | exact .inl rfl | exact .inr rfl)
   case h26=>exact PW.pt (Zje (ZM Ug (Wy PySem.F.plainAttrs_list PySem.F.slot_list_count PySem.F.type_list_count ZdJ (pv 4) (Zd Xm Za)) Ze (ZN _)) (Zig (Zbm (ZaO (Zn ZT rfl T.isinstance (by decide +kernel) (Zd (pv 1) (Zd (ZgZ rfl TE.ve (by decide +kernel) (v:=.ty "ValueError") rfl) Za)))))))
   case h27=>exact Zv (ZX (Zd Zz (Zd Zz (Zd YX Za))))
   case h28=>exact Zv (ZX (Zd Zz (Zd (ZB ZA (pv 5) (Wy PySem.F.plainAttrs_list PySem.F.slot_list_index PySem.F.type_list_index Zdz (pv 4) (Zd Xm Za)) (fun _ _=>rfl)) (Zd (Zhd (pv 1) rfl) Za))))
 refine ⟨(by decide),fun t0 ht0=>⟨t0,_,rfl,SqT.of Zc,rfl,_,_,rfl,_,_,rfl,rfl,?_⟩⟩
 generalize hE:upd H t0 _=H0
 have s0:Same H H0:=by rw [← hE];exact Zf ht0 _
 clear hE
 refine ⟨q,cs',cc,qual,T',rfl,Z,has.same s0,s0 _ _ hcc,hT H0 _ _ s0 (fun v H' f hn=>?_) (fun C dx word what H' rk ed f hn=>?_)⟩
 · exact ⟨_,rfl,_,rfl,Wx ⟨_,rfl,(by show 2≤sizeLine;decide),fun a ha=>f hn a _ (Zf ha _) Zc⟩⟩
 have f:=f hn
 have ed:=YR hn _ _ ed
 generalize cov H' cs'=H1 at f ed
 obtain ⟨j,R,hw⟩:=rk
 refine ⟨C,dx,rfl,rfl,R.cat,fun ea hea=>?_⟩
 generalize hE:upd H1 ea _=H2
 have eea:H2 ea=some (XO ea C dx):=by rw [← hE];exact Zc
 have s2:Same H1 H2:=by rw [← hE];exact Zf hea _
 clear hE
 have ed2:=s2 _ _ ed
 have ty:∀ H',Same H2 H'→TyX K H' (.ref ea) (.ref C):=fun H' s=>.inr ⟨ea,C,dx,rfl,rfl,s _ _ eea,R.g⟩
 refine ⟨_,rfl,_,rfl,_,rfl,Yo ?_⟩
 refine ⟨_,rfl,_,_,_,_,rfl,ty _ (fun _ _ e=>e),.inl ⟨_,rfl,R.is 0 (show 0 < 10 by decide)⟩,_,rfl,_,_,_,_,rfl,ty _ (fun _ _ e=>e),.inl ⟨_,rfl,R.is 1 (show 1 < 10 by decide)⟩,_,rfl,_,_,_,_,rfl,ty _ (fun _ _ e=>e),.inl ⟨_,rfl,R.is 2 (show 2 < 10 by decide)⟩,(by show 3≤sizeLine;decide),fun l1 hl1=>?_⟩
 generalize hE:upd H2 l1 _=H3
 have s3:Same H2 H3:=by rw [← hE];exact Zf hl1 _
 have e3:H3 l1=some (.lst [.bl (decide (0=j)),.bl (decide (1=j)),.bl (decide (2=j))]):=by rw [← hE];exact Zc
 clear hE
 refine ⟨_,rfl,_,rfl,_,_,_,_,rfl,ty _ (s3),.inl ⟨_,rfl,R.is 3 (show 3 < 10 by decide)⟩,_,rfl,_,_,_,_,rfl,ty _ (s3),.inl ⟨_,rfl,R.is 4 (show 4 < 10 by decide)⟩,_,rfl,_,_,_,_,rfl,ty _ (s3),.inl ⟨_,rfl,R.is 5 (show 5 < 10 by decide)⟩,(by show 3≤sizeLine;decide),fun l6 hl6=>⟨l1,l6,_,_,rfl,rfl,Zf hl6 _ _ _ e3,Zc,YO (show 6≤1000 by decide),fun l7 hl7=>?_⟩⟩
 generalize hE:upd (upd H3 l6 _) l7 _=H4
 have s4:Same H2 H4:=by rw [← hE];exact (s3.trans (Zf hl6 _)).trans (Zf hl7 _)
 have e4:H4 l7=some (.lst [.bl (decide (0=j)),.bl (decide (1=j)),.bl (decide (2=j)),.bl (decide (3=j)),.bl (decide (4=j)),.bl (decide (5=j))]):=by rw [← hE];exact Zc
 clear hE
 refine ⟨_,rfl,_,rfl,_,_,_,_,rfl,ty _ (s4),.inl ⟨_,rfl,R.is 6 (show 6 < 10 by decide)⟩,_,rfl,_,_,_,_,rfl,ty _ (s4),.inl ⟨_,rfl,R.is 7 (show 7 < 10 by decide)⟩,_,rfl,_,_,_,_,rfl,ty _ (s4),.inl ⟨_,rfl,R.is 8 (show 8 < 10 by decide)⟩,(by show 3≤sizeLine;decide),fun l8 hl8=>⟨l7,l8,_,_,rfl,rfl,Zf hl8 _ _ _ e4,Zc,YO (show 9≤1000 by decide),fun l9 hl9=>?_⟩⟩
 generalize hE:upd (upd H4 l8 _) l9 _=H5
 have s5:Same H2 H5:=by rw [← hE];exact (s4.trans (Zf hl8 _)).trans (Zf hl9 _)
 have e5:H5 l9=some (.lst [.bl (decide (0=j)),.bl (decide (1=j)),.bl (decide (2=j)),.bl (decide (3=j)),.bl (decide (4=j)),.bl (decide (5=j)),.bl (decide (6=j)),.bl (decide (7=j)),.bl (decide (8=j))]):=by rw [← hE];exact Zc
 clear hE
 refine ⟨_,rfl,_,rfl,_,_,_,_,rfl,ty _ s5,.inl ⟨_,rfl,R.is 9 (show 9 < 10 by decide)⟩,_,rfl,(by show 4≤sizeLine;decide),fun tp htp=>?_⟩
 have s5t:=s5.trans (Zf htp (.tup [.ref (cs.getD 10 0),.ref (cs.getD 11 0),.ref (cs.getD 12 0),.ref (cs.getD 13 0)]))
 refine ⟨ea,C,dx,tp,[cs.getD 10 0,cs.getD 11 0,cs.getD 12 0,cs.getD 13 0],false,rfl,s5t _ _ eea,R.g,Zc,R.no1,(by show 2≤sizeLine;decide),fun l10 hl10=>⟨l9,l10,_,_,rfl,rfl,Zf hl10 _ _ _ (Zf htp _ _ _ e5),Zc,YO (show 11≤1000 by decide),fun l11 hl11=>?_⟩⟩
 generalize hE:upd (upd (upd H5 tp _) l10 _) l11 _=H6
 have s6:Same H2 H6:=by rw [← hE];exact ((s5.trans (Zf htp _)).trans (Zf hl10 _)).trans (Zf hl11 _)
 have e6:H6 l11=some (.lst [.bl (decide (0=j)),.bl (decide (1=j)),.bl (decide (2=j)),.bl (decide (3=j)),.bl (decide (4=j)),.bl (decide (5=j)),.bl (decide (6=j)),.bl (decide (7=j)),.bl (decide (8=j)),.bl (decide (9=j)),.bl false]):=by rw [← hE];exact Zc
 clear hE
 refine ⟨_,rfl,_,rfl,(by show 3≤sizeLine;decide),fun tq htq=>?_⟩
 have s6t:=s6.trans (Zf htq (.tup [.ref (cs.getD 14 0),.ref (cs.getD 15 0),.ref (cs.getD 16 0)]))
 refine ⟨ea,C,dx,tq,[cs.getD 14 0,cs.getD 15 0,cs.getD 16 0],false,rfl,s6t _ _ eea,R.g,Zc,R.no2,(by show 1≤sizeLine;decide),fun l12 hl12=>⟨l11,l12,_,_,rfl,rfl,Zf hl12 _ _ _ (Zf htq _ _ _ e6),Zc,YO (show 12≤1000 by decide),fun l13 hl13=>?_⟩⟩
 generalize hE:upd (upd (upd H6 tq _) l12 _) l13 _=H7
 have s7:Same H2 H7:=by rw [← hE];exact ((s6.trans (Zf htq _)).trans (Zf hl12 _)).trans (Zf hl13 _)
 have e7:H7 l13=some (.lst ((VW j).map V.bl)):=by rw [← hE];exact Zc
 clear hE
 refine ⟨(by show 12≤sizeLine;decide),fun lw hlw=>?_⟩
 generalize hE:upd H7 lw _=H8
 have s8:Same H7 H8:=by rw [← hE];exact Zf hlw _
 have ew:H8 lw=some (.lst ((xWd++(["odd","odd"]:List Str)).map V.str)):=by rw [← hE];exact Zc
 clear hE
 have e8:=s8 _ _ e7
 have hj:j < 10:=(List.getElem?_eq_some_iff.mp hw).1
 have k1:=kcnt ⟨j,hj⟩
 have k2:=kat ⟨j,hj⟩
 have k3:∀ m,m < j→(VW j)[m]?=some false:=fun m hm=>kno ⟨j,hj⟩ ⟨m,by omega⟩ hm
 refine ⟨_,rfl,.inl ⟨rfl,_,SqL.of e8⟩,l13,VW j,rfl,rfl,SqL.of e8,?_⟩
 rw [show ((VW j).filter id).length=1 from k1]
 refine ⟨rfl,_,rfl,Yo ?_⟩
 refine ⟨_,rfl,_,_,_,true,rfl,ty _ (s7.trans s8),.inr ⟨_,rfl,R.ve⟩,_,rfl,Yo ?_⟩
 refine ⟨_,rfl,_,rfl,.inl ⟨rfl,_,SqL.of e8⟩,l13,VW j,j,rfl,rfl,SqL.of e8,k2,k3,by omega,?_⟩
 refine ⟨lw,_,_,_,rfl,rfl,SqL.of ew,ZS (by rw [List.getElem?_map,List.getElem?_append_left (show j < xWd.length from hj),hw];rfl),?_⟩
 refine ⟨_,rfl,ea,C,dx,_,_,rfl,s8 _ _ (s7 _ _ eea),s8 _ _ (s7 _ _ ed2),R.g,rfl,(by show 3≤sizeLine;decide),fun a ha=>?_⟩
 exact f a _ (((s2.trans s7).trans s8).trans (Zf ha _)) Zc
end
end K32
set_option maxHeartbeats 2000000
namespace L2
open PySem
theorem Yq {H:Hp}{a:Addr}{vs:List V}(e:H a=some (.tup vs))(h:∀ v∈vs,YJ v)(hl:vs.length≤1000):DataOf H (.ref a) (.tuple (vs.map YL))∧(PyData.tuple (vs.map YL)).showable=true∧(PyData.tuple (vs.map YL)).shown.length≤sizeLine∧(PyData.tuple (vs.map YL)).depth≤60:=by
 have s:=ZdD (ds:=vs.map YL) (n:=200) (k:=0) fun d hd=>by
   obtain ⟨v,hv,rfl⟩:=List.mem_map.mp hd
   exact Zed (h v hv) 0
 refine ⟨.tup e (VY h),s.sh,Nat.le_trans s.ln ?_,Nat.le_trans s.dp (by decide)⟩
 rw [List.length_map]
 have:vs.length * (200+2)≤1000 * 202:=Nat.mul_le_mul_right _ hl
 rw [sizeLine_eq];omega
theorem XM {x:Str}(h:Zav (.str x)=true):YJ (.str x):=.inr (UG h)
def Xp (K:PySem.W.Frag)(ns:List Int):Yh:=fun a h=>SqL K h a (ns.map V.int)
theorem ZiV {K:PySem.W.Frag}{H H':Hp}{a:Addr}{xs:List V}(h:SqL K H a xs)(s:Same H H'):SqL K H' a xs:=by
 rcases h with (h | ⟨o,h⟩) | h
 · exact .inl (.inl (s _ _ h))
 · exact .inl (.inr ⟨o,s _ _ h⟩)
 · exact .inr h
instance {K:PySem.W.Frag} {ns:List Int}:Up (Xp K ns):=⟨fun h s=>ZiV h s⟩
theorem ZcS {K:PySem.W.Frag}{H:Hp}{a Pl:Addr}{ns:List Int}{q:Str}(hS:SqL K H a (ns.map V.int))(hL:LamsAt H Pl q):Sep [(Pl,Xb q),(a,Xp K ns)] H:=by
 obtain ⟨ts,etb,ef⟩:=hL
 refine ⟨some_of H [Pl],Ue,⟨ts,(Wr (by simp)).trans etb,fun p hp=>Wi (ef p hp) rfl⟩,Uu H (some_of H [Pl]),fun b o e=>e,?_,trivial⟩
 rcases hS.obj with z | ⟨o,e,nt,z⟩
 · exact z _
 · refine z _ (cut_some.mpr ⟨e,fun u y=>?_⟩)
   cases m:Yw u with
   | false=>rfl
   | true =>
     have:=Wz y m
     rw [List.mem_singleton.mp this,etb] at e
     cases e
     exact absurd rfl (nt _)
end L2
set_option maxHeartbeats 2000000
namespace L2
open PySem
def Yz (qs:List (Str×V)):List (Zl×V):=qs.map fun p=>(Sum.inr p.1,p.2)
theorem Zgp (qs rs:List (Str×V)):Yz (qs++rs)=Yz qs++Yz rs:=List.map_append
theorem XA (x:Str):∀ qs:List (Str×V),ZE (Yz qs) (Sum.inr x)=(qs.find? fun p=>decide (p.1=x)).map (·.2)
 | []=>rfl
 | p :: r=>by
   unfold Yz ZE
   rw [List.map_cons,List.find?_cons,List.find?_cons]
   by_cases h:p.1=x
   · rw [decide_eq_true (show (Sum.inr p.1:Zl)=Sum.inr x by rw [h]),decide_eq_true h];rfl
   · rw [decide_eq_false (show ¬ (Sum.inr p.1:Zl)=Sum.inr x from fun z=>h (Sum.inr.inj z)),decide_eq_false h]
     exact XA x r
theorem Zbo {x:Str}{qs:List (Str×V)}(h:x ∉ qs.map (·.1)):ZE (Yz qs) (Sum.inr x)=none:=by
 rw [XA]
 have:(qs.find? fun p=>decide (p.1=x))=none:=List.find?_eq_none.mpr fun p hp z=>h (List.mem_map.mpr ⟨p,hp,by simpa using z⟩)
 rw [this];rfl
theorem ZaY {x:Str}{v:V}:∀{qs:List (Str×V)},(qs.map (·.1)).Nodup→(x,v)∈qs→ZE (Yz qs) (Sum.inr x)=some v
 | p :: r,nd,m=>by
   rw [XA,List.find?_cons]
   rcases List.mem_cons.mp m with e | m
   · subst e;simp
   · have hp:¬ p.1=x:=fun z=>(List.nodup_cons.mp nd).1 (List.mem_map.mpr ⟨(x,v),m,z.symm⟩)
     rw [decide_eq_false hp]
     have:=ZaY (x:=x) (v:=v) (List.nodup_cons.mp nd).2 m
     rw [XA] at this;exact this
theorem Zhc {x:Str}{v:V}{qs:List (Str×V)}(h:x ∉ qs.map (·.1)):YK (Yz qs) (Sum.inr x) v=Yz (qs++[(x,v)]):=by
 unfold YK
 rw [if_neg,Zgp];rfl
 simp only [Yz,List.any_map,List.any_eq_true,Function.comp,decide_eq_true_eq,not_exists,not_and]
 exact fun p hp z=>h (List.mem_map.mpr ⟨p,hp,Sum.inr.inj z⟩)
theorem Ur {H:Hp}:∀{ts:List Addr}{ps:List (Str×V)},PairT H ts ps→(∀ p∈ps,YJ p.2)→DatasOf H (ts.map V.ref) (ps.map Xn)
 | [],[],_,_=>.nil
 | [],_::_,h,_=>by cases h.1
 | _::_,[],h,_=>by cases h.1
 | t::ts,p::ps,h,hv=>.cons (.tup (h.2 0 t p rfl rfl) (.cons (.str _) (.cons (Zcb (hv p List.mem_cons_self)) .nil))) (Ur ⟨by simpa using h.1,fun i a q e1 e2=>h.2 (i+1) a q e1 e2⟩ fun q hq=>hv q (List.mem_cons_of_mem _ hq))
theorem Xl {H:Hp}{a:Addr}{ps:List (Str×V)}(e:PLs ps a H)(hn:∀ p∈ps,Xo p.1)(hv:∀ p∈ps,YJ p.2)(hl:ps.length≤1000):DataOf H (.ref a) (.list (ps.map Xn))∧(PyData.list (ps.map Xn)).showable=true∧(PyData.list (ps.map Xn)).shown.length≤sizeLine∧(PyData.list (ps.map Xn)).depth≤60:=by
 obtain ⟨ts,e,h⟩:=e
 have s:=Zex (ds:=ps.map Xn) (n:=244) (k:=1) fun d hd=>by
   obtain ⟨p,hp,rfl⟩:=List.mem_map.mp hd
   exact ZeB (n:=40) (m:=200) (k:=0) (Zew (hn p hp) 0) (Zed (hv p hp) 0)
 refine ⟨.lst e (Ur h hv),s.sh,Nat.le_trans s.ln ?_,Nat.le_trans s.dp (by decide)⟩
 rw [List.length_map]
 have:ps.length * (244+2)≤1000 * 246:=Nat.mul_le_mul_right _ hl
 rw [sizeLine_eq];omega
theorem PLs.at {H:Hp}{a:Addr}{ps:List (Str×V)}(e:PLs ps a H):∃ ts:List Addr,H a=some (.lst (ts.map V.ref))∧ts.length=ps.length∧∀(k:Nat),k < ps.length→∃ t p,(ts.map V.ref)[k]?=some (.ref t)∧ps[k]?=some p∧H t=some (.tup [.str p.1,p.2]):=by
 obtain ⟨ts,e,h1,h2⟩:=e
 refine ⟨ts,e,h1,fun k hk=>?_⟩
 have a1:ts[k]?=some ts[k]:=List.getElem?_eq_getElem (by omega)
 have a2:ps[k]?=some ps[k]:=List.getElem?_eq_getElem hk
 exact ⟨ts[k],ps[k],by rw [List.getElem?_map,a1];rfl,a2,h2 k _ _ a1 a2⟩
theorem PairT.app {H:Hp}{ts us:List Addr}{ps qs:List (Str×V)}(h:PairT H ts ps)(g:PairT H us qs):PairT H (ts++us) (ps++qs):=by
 refine ⟨by rw [List.length_append,List.length_append,h.1,g.1],fun i a p e1 e2=>?_⟩
 by_cases hi:i < ts.length
 · rw [List.getElem?_append_left hi] at e1
   rw [List.getElem?_append_left (by rw [← h.1];exact hi)] at e2
   exact h.2 i a p e1 e2
 · rw [List.getElem?_append_right (by omega)] at e1
   rw [List.getElem?_append_right (by rw [← h.1];omega),← h.1] at e2
   exact g.2 _ a p e1 e2
end L2
set_option maxHeartbeats 4000000
namespace K32
open PySem L2
section
variable {P:Program}{w:World}{K:PySem.W.Frag}{mg:Str→Option Value}{base:Heap}{CH CR CS CT:Addr}{C:Addr}
def VB (K:PySem.W.Frag)(C:Addr):Sp:=fun vs H Q _=>∃(NS:List Str)(st:Addr)(nds:List Nd)(tabs:List (Zl×V))(t:Nat)(x:Str)(F:Str→Option V),Ua NS∧vs=[.ref st,iN t,.str x]∧Sto K C nds tabs st H∧(ZE tabs (Sum.inl (t:Int))).isSome=true∧Tri NS nds F 5 0 0 t∧x∈NS∧∀ H',Same H H'→Q ((F x).getD .non) H'
theorem ZhB {f:Addr}{fd:FuncData}{k:Nat}{ps:List Str}(h:FnOk P w K mg base ZG k f fd ps (Zbb K C)):FnOk P w K mg base ZG k f fd ps (VB K C) :=
 h.conv fun vs H Q E ⟨NS,st,nds,tabs,t,x,F,N,e,⟨b0,ln,dt,S⟩,h1,h2,hx,q⟩=>by
   obtain ⟨ws,z,n,e1,e2,e3,e4,e5⟩:=Zcq N h2 hx
   exact ⟨st,ln,dt,nds,tabs,t,x,6,ws,z,n,e,S,h1,N.len x hx,N.lo x hx,by decide,e1,e2,e3,e4,fun H' s=>by rw [e5];exact q H' s⟩
def Zgb (K:PySem.W.Frag)(CR CS:Addr):Sp:=fun vs H Q _=>∃(NS:List Str)(r:Addr)(pls:List Xt)(nds:List Nd)(tabs:List (Zl×V))(k:Nat)(x:Str)(F:Str→Option V),vs=[.ref r,.int (k:Int),.str x]∧Ua NS∧RdR K CR CS r pls nds tabs H∧ZeC NS pls nds tabs∧k≤pls.length∧(envs pls)[k]?=some F∧x∈NS∧∀ H',Same H H'→Q ((F x).getD .non) H'
abbrev nRLk:List Str:=["self","place","name"]
abbrev Zdg:List Str:=["self","place","name"]
theorem ZjF:Zs nRLk Zdg (Zk c_Roads_looked):=⟨rfl,rfl,rfl,by decide +kernel,rfl,by decide +kernel,by decide +kernel⟩
theorem ZhK {f:Addr}{fd:FuncData}(F:Fun K "looked" "Roads.looked" c_Roads_looked f fd)(T:Yf mg)(TR:VI K CR)(TC:UD K CS)(DR_table:DefM P w K mg base 9 CR "table" Zcz (Zcc K CR CS))(DS_looked:DefM P w K mg base 9 CS "looked" ["self","table","name"] (VB K CS)):FnOk P w K mg base ZG 10 f fd Zdg (Zgb K CR CS):=by
 refine F.ok ZjF (fun vs H Q E h=>?_) (fun cdv A outer s H vs Q E hr h=>?_)
 · obtain ⟨NS,r,pls,nds,tabs,k,x,G,rfl,_⟩:=h;rfl
 obtain ⟨NS,r,pls,nds,tabs,k,x,G,rfl,N,R,I,hk,hG,hx,q⟩:=h
 obtain ⟨st,la,ls,lt,lc,S⟩:=id R
 obtain ⟨dx,ob⟩:=S.get r
 have ST:=S.get st
 obtain ⟨b0,ln,dt,SA⟩:=id ST
 obtain ⟨dxs,obs⟩:=SA.ob
 obtain ⟨g1,g2,g3⟩:=I.tr k G _ hG (Zby hk)
 refine' ⟨?t,?h,?r⟩
 case h =>
   conv=>arg 2;whnf
   with_reducible refine' (Zj ?h1)
   case h1=>exact Zv (XI DS_looked TC.cl hr (ZU (pv 0) rfl) (Zd (XI DR_table TR.cl hr (pv 0) (Zd (pv 1) Za)) (Zd (pv 2) Za)))
 exact ⟨_,rfl,r,CR,dx,_,_,rfl,ob,TR.cl,TR.nk,rf_k,st,dxs,_,rfl,obs,Ui ln dt (by decide +kernel) (by decide +kernel),_,rfl,r,dx,_,rfl,ob,ZcF (by decide +kernel),_,rfl,r,pls,nds,tabs,k,rfl,R,hk,_,rfl,NS,st,nds,tabs,tbN pls k,x,G,N,rfl,ST,g1,g2,hx,q⟩
structure HI (NS:List Str)(s:Hs):Prop where
 N:Ua NS
 R:ZeC NS s.pls s.nds s.tabs
 sp:∀ p∈s.spots,p≤s.pls.length
def ZfC (K:PySem.W.Frag)(CH CR CS CT:Addr):Sp:=fun vs H Q _=>∃(NS:List Str)(h:Addr)(s:Hs)(k p:Nat)(x:Str)(F:Str→Option V),vs=[.ref h,.int (k:Int),.str x]∧RdH K CH CR CS CT h s H∧HI NS s∧s.spots[k]?=some p∧(envs s.pls)[p]?=some F∧x∈NS∧∀ H',Same H H'→Q ((F x).getD .non) H'
abbrev nHVi:List Str:=["self","world","name"]
abbrev ZcZ:List Str:=["self","world","name"]
theorem ZjM:Zs nHVi ZcZ (Zk c_Hall_value_in):=⟨rfl,rfl,rfl,by decide +kernel,rfl,by decide +kernel,by decide +kernel⟩
theorem ZiK {f:Addr}{fd:FuncData}(F:Fun K "value_in" "Hall.value_in" c_Hall_value_in f fd)(T:Yf mg)(TH:Xg K CH)(TR:VI K CR)(DH_place:DefM P w K mg base 10 CH "place" Zde (ZfM K CH CR CS CT))(DR_looked:DefM P w K mg base 10 CR "looked" Zdg (Zgb K CR CS)):FnOk P w K mg base ZG 11 f fd ZcZ (ZfC K CH CR CS CT):=by
 refine F.ok ZjM (fun vs H Q E h=>?_) (fun cdv A outer s H vs Q E hr h=>?_)
 · obtain ⟨NS,h,s,k,p,x,G,rfl,_⟩:=h;rfl
 obtain ⟨NS,h,s,k,p,x,G,rfl,R,I,hk,hG,hx,q⟩:=h
 obtain ⟨d,r,sp,i,t,S⟩:=id R
 obtain ⟨dx,ob⟩:=S.get h
 have RR:=S.get r
 obtain ⟨st,la,ls,lt,lc,SR⟩:=id RR
 obtain ⟨dxr,obr⟩:=SR.get r
 refine' ⟨?t,?h,?r⟩
 case h =>
   conv=>arg 2;whnf
   with_reducible refine' (Zj ?h1)
   case h1=>exact Zv (XI DR_looked TR.cl hr (ZU (pv 0) rfl) (Zd (XI DH_place TH.cl hr (pv 0) (Zd (pv 1) Za)) (Zd (pv 2) Za)))
 exact ⟨_,rfl,h,CH,dx,_,_,rfl,ob,TH.cl,TH.nw,hf_w,r,dxr,_,rfl,obr,ZcF (by decide +kernel),_,rfl,h,dx,_,rfl,ob,YH (by decide +kernel),_,rfl,h,s,k,p,rfl,R,hk,_,rfl,NS,r,s.pls,s.nds,s.tabs,p,x,G,rfl,I.N,RR,I.R,I.sp p (List.mem_of_getElem? hk),hG,hx,q⟩
def vOr (o:Option V)(d:V):V:=o.getD d
def ZfL (K:PySem.W.Frag)(CH CR CS CT:Addr):Sp:=fun vs H Q _=>∃(NS:List Str)(h:Addr)(s:Hs)(k p:Nat)(x:Str)(F:Str→Option V)(d:V),vs=[.ref h,.int (k:Int),.str x]∧RdH K CH CR CS CT h s H∧HI NS s∧s.spots[k]?=some p∧(envs s.pls)[p]?=some F∧x∈NS∧ZE s.dfs (Sum.inr x)=some d∧∀ H',Same H H'→Q (vOr (F x) d) H'
abbrev nHVo:List Str:=["self","world","name","value"]
abbrev Zdh:List Str:=["self","world","name"]
theorem scHVo:Zs nHVo Zdh (Zk c_Hall_value_or_default):=⟨rfl,rfl,rfl,by decide +kernel,rfl,by decide +kernel,by decide +kernel⟩
theorem Zhp {f:Addr}{fd:FuncData}(F:Fun K "value_or_default" "Hall.value_or_default" c_Hall_value_or_default f fd)(T:Yf mg)(TH:Xg K CH)(DH_value_in:DefM P w K mg base 11 CH "value_in" ZcZ (ZfC K CH CR CS CT)):FnOk P w K mg base ZG 12 f fd Zdh (ZfL K CH CR CS CT):=by
 refine F.ok scHVo (fun vs H Q E h=>?_) (fun cdv A outer s H vs Q E hr h=>?_)
 · obtain ⟨NS,h,s,k,p,x,G,d,rfl,_⟩:=h;rfl
 obtain ⟨NS,h,s,k,p,x,G,d,rfl,R,I,hk,hG,hx,hd,q⟩:=h
 obtain ⟨dd,r,sp,i,t,S⟩:=id R
 obtain ⟨dx,ob⟩:=S.get h
 have hv:=(I.R.tr p G _ hG (Zby (I.sp p (List.mem_of_getElem? hk)))).2.2
 refine' ⟨?t,?h,?r⟩
 case h =>
   conv=>arg 2;whnf
   with_reducible refine' (Zh ?h1 (Zj ?h2))
   case h1=>exact Zw (i:=3) scHVo.nd rfl (Or.inl rfl) (XI DH_value_in TH.cl hr (pv 0) (Zd (pv 1) (Zd (pv 2) Za)))
   case h2=>exact Zv (Ym (XL (Vo (pv 3))) (ZgN (Ud hr) (ZU (pv 0) rfl) (pv 2) (fun _ _=>rfl)) (pv 3))
 refine ⟨_,rfl,h,dx,_,rfl,ob,YH (by decide +kernel),_,rfl,_,rfl,NS,h,s,k,p,x,G,rfl,R,I,hk,hG,hx,fun H1 s1=>?_⟩
 cases e:G x with
 | none =>
   refine ⟨_,rfl,_,rfl,Wx ?_⟩
   have S1:=S.mono s1
   obtain ⟨dx1,ob1⟩:=S1.get h
   have:=q H1 s1
   rw [e] at this
   exact ⟨_,rfl,h,CH,dx1,_,_,rfl,ob1,TH.cl,TH.nd,ZaZ,_,rfl,dd,_,rfl,(by have z:=DGet.k (k:=Sum.inr x) (S1.get dd);rw [hd] at z;exact z),this⟩
 | some u =>
   have hu:=hv x u e
   have:=q H1 s1
   rw [e] at this
   have hne:decide (u=V.non)=false:=decide_eq_false fun z=>by rw [z] at hu;exact hu
   refine ⟨_,rfl,_,rfl,?_⟩
   show if decide (u=V.non)=true then _ else _
   rw [hne]
   exact Yo ⟨_,rfl,this⟩
def Zcw (K:PySem.W.Frag)(CH CR CS CT CX:Addr):Sp:=fun vs H Q E=>∃ (h:Addr) (s:Hs) (x:Str),vs=[.ref h,.str x]∧RdH K CH CR CS CT h s H∧((ZE s.dfs (Sum.inr x)).isSome=true→Q .non H)∧(ZE s.dfs (Sum.inr x)=none→∀ dx H',Same H H'→H' dx=some (.xd [("what",.str x)])→E (.ref CX) (some dx) H')
abbrev nHCs:List Str:=["self","name"]
abbrev ZaG:List Str:=["self","name"]
theorem ZjH:Zs nHCs ZaG (Zk c_Hall_check_setting):=⟨rfl,rfl,rfl,by decide +kernel,rfl,by decide +kernel,by decide +kernel⟩
theorem ZhX {CX:Addr}{f:Addr}{fd:FuncData}(F:Fun K "check_setting" "Hall.check_setting" c_Hall_check_setting f fd)(T:Yf mg)(TH:Xg K CH)(DE:UO P w K mg base 1 CX "NoSetting"):FnOk P w K mg base (Wn P w base) 3 f fd ZaG (Zcw K CH CR CS CT CX):=by
 refine F.okX ZjH (fun vs H Q E h=>?_) (fun cdv A outer s H vs Q E hr h W=>?_)
 · obtain ⟨h,s,x,rfl,_⟩:=h;rfl
 obtain ⟨h,s,x,rfl,⟨d,r,sp,i,t,S⟩,q1,q2⟩:=h
 obtain ⟨dx,ob⟩:=S.get h
 refine' ⟨?t,?h,?r⟩
 case h =>
   conv=>arg 2;whnf
   with_reducible refine' (Zj (Yg ?h1 (Zj ?h2) ZJ))
   case h1=>exact XL (Zam (Ud hr) (pv 1) (ZU (pv 0) rfl))
   case h2=>exact UE W DE hr rfl (Zd (pv 1) Za)
 refine ⟨_,rfl,_,rfl,h,CH,dx,_,_,rfl,ob,TH.cl,TH.nd,ZaZ,d,_,rfl,DGet.k (k:=Sum.inr x) (S.get d),_,rfl,?_⟩
 cases e:ZE s.dfs (Sum.inr x) with
 | none=>exact Wx ⟨_,rfl,_,rfl,fun d hd=>q2 e d _ (Zf hd _) Zc⟩
 | some v=>exact Yo (q1 (by rw [e];rfl))
def ZcI (K:PySem.W.Frag)(CH CR CS CT CX:Addr):Sp:=fun vs H Q E=>∃ (h:Addr) (s:Hs) (qs:List (Str×V)) (x:Str) (v:V) (Δ:Rs),vs=[.ref h,.str x,v]∧Sep ((h,YF K CH CR CS CT s)::Δ) H∧s.dfs=Yz qs∧qs.length≤1000∧(x∈qs.map (·.1)→∀ dx H',Same H H'→H' dx=some (.xd [("what",.str x)])→E (.ref CX) (some dx) H') ∧
 (x ∉ qs.map (·.1)→∀ H',Sep ((h,YF K CH CR CS CT { s with dfs:=Yz (qs++[(x,v)]) })::Δ) H'→Q .non H')
abbrev nHDe:List Str:=["self","name","default"]
abbrev ZaA:List Str:=["self","name","default"]
theorem Zja:Zs nHDe ZaA (Zk c_Hall_declare):=⟨rfl,rfl,rfl,by decide +kernel,rfl,by decide +kernel,by decide +kernel⟩
theorem ZiJ {CX:Addr}{f:Addr}{fd:FuncData}(F:Fun K "declare" "Hall.declare" c_Hall_declare f fd)(T:Yf mg)(TH:Xg K CH)(DE:UO P w K mg base 1 CX "Known"):FnOk P w K mg base (Wn P w base) 3 f fd ZaA (ZcI K CH CR CS CT CX):=by
 refine F.okX Zja (fun vs H Q E h=>?_) (fun cdv A outer s H vs Q E hr h W=>?_)
 · obtain ⟨h,s,qs,x,v,Δ,rfl,_⟩:=h;rfl
 obtain ⟨h,s,qs,x,v,Δ,rfl,S0,hqs,hl,q1,q2⟩:=h
 obtain ⟨d,r,sp,i,t,S⟩:=S0.halO
 obtain ⟨dx,ob⟩:=S.get h
 refine' ⟨?t,?h,?r⟩
 case h =>
   conv=>arg 2;whnf
   with_reducible refine' (Zh (Yg ?h1 (Zj ?h2) ZJ) (Zj ?h3))
   case h1=>exact XL (Ziq (Ud hr) (pv 1) (ZU (pv 0) rfl))
   case h2=>exact UE W DE hr rfl (Zd (pv 1) Za)
   case h3=>exact ZgD (Ud hr) (ZU (pv 0) rfl) (pv 1) (pv 2) rfl
 refine ⟨_,rfl,_,rfl,h,CH,dx,_,_,rfl,ob,TH.cl,TH.nd,ZaZ,d,_,rfl,DGet.k (k:=Sum.inr x) (S.get d),_,rfl,?_⟩
 by_cases hm:x∈qs.map (·.1)
 · have e:(ZE s.dfs (Sum.inr x)).isSome=true:=by
     rw [hqs,XA]
     obtain ⟨p,hp,rfl⟩:=List.mem_map.mp hm
     cases z:qs.find? fun q=>decide (q.1=p.1) with
     | none=>exact absurd (decide_eq_true rfl) (List.find?_eq_none.mp z p hp)
     | some v=>rfl
   rw [e]
   exact Wx ⟨_,rfl,_,rfl,fun d hd=>q1 hm d _ (Zf hd _) Zc⟩
 · have e:ZE s.dfs (Sum.inr x)=none:=by rw [hqs];exact Zbo hm
   rw [e]
   refine Yo ⟨_,rfl,_,rfl,h,CH,dx,_,_,rfl,ob,TH.cl,TH.nd,ZaZ,_,rfl,d,_,rfl,.inl ⟨_,Sum.inr x,S.get d,rfl,Zbt (show _≤1000 by rw [hqs];unfold Yz;rw [List.length_map];exact hl),rfl⟩,?_⟩
   generalize hE:upd H d _=H2
   have S2:=S.putE hE
   clear hE
   rw [hqs,Zhc hm] at S2
   exact q2 hm _ (Sep.halC (s:={ s with dfs:=Yz (qs++[(x,v)]) }) (d:=d) (r:=r) (sp:=sp) (i:=i) (t:=t) (S2.pull h))
def ZfU (K:PySem.W.Frag)(CH CR CS CT:Addr):Sp:=fun vs H Q _=>∃(h:Addr)(s:Hs)(qs:List (Str×V))(Δ:Rs),vs=[.ref h]∧Sep ((h,YF K CH CR CS CT s)::Δ) H∧s.dfs=Yz qs∧∀ l H',Sep ((l,PLs qs)::(h,YF K CH CR CS CT s)::Δ) H'→Q (.ref l) H'
abbrev nHSe:List Str:=["self"]
abbrev Zct:List Str:=["self"]
theorem Zjr:Zs nHSe Zct (Zk c_Hall_settings):=⟨rfl,rfl,rfl,by decide +kernel,rfl,by decide +kernel,by decide +kernel⟩
theorem ZhF {f:Addr}{fd:FuncData}(F:Fun K "settings" "Hall.settings" c_Hall_settings f fd)(T:Yf mg)(TH:Xg K CH):FnOk P w K mg base ZG 1 f fd Zct (ZfU K CH CR CS CT):=by
 refine F.ok Zjr (fun vs H Q E h=>?_) (fun cdv A outer s H vs Q E hr h=>?_)
 · obtain ⟨h,s,qs,Δ,rfl,_⟩:=h;rfl
 obtain ⟨h,s,qs,Δ,rfl,S0,hqs,q⟩:=h
 obtain ⟨d,r,sp,i,t,S⟩:=S0.halO
 obtain ⟨dx,ob⟩:=S.get h
 refine' ⟨?t,?h,?r⟩
 case h =>
   conv=>arg 2;whnf
   with_reducible refine' (Zj ?h1)
   case h1=>exact Zv (XV (Vg rfl) rfl T.list (by decide +kernel) (Zd (ZdP PySem.F.plainAttrs_dict PySem.F.slot_dict_items PySem.F.type_dict_items Zfe (ZU (pv 0) rfl)) Za))
 refine ⟨_,rfl,h,CH,dx,_,_,rfl,ob,TH.cl,TH.nd,ZaZ,.inr (.inr (.inl ⟨rfl,.inl ⟨_,S.get d⟩⟩)),d,_,rfl,rfl,S.get d,fun v hv=>?_⟩
 have s1:=Zf hv (.ext (Vu v d))
 refine ⟨v,d,_,rfl,Zc,s1 _ _ (S.get d),fun l ts H2 hl s2 hts htn hta el=>?_⟩
 have S2:=(S.mono s1).made s2 hl el
 have hp:PairT H2 ts qs:=by
   refine ⟨?_,fun i a p e1 e2=>?_⟩
   · rw [hts,hqs];unfold Yz;rw [List.length_map]
   · exact hta i a (Sum.inr p.1,p.2) e1 (by rw [hqs];unfold Yz;rw [List.getElem?_map,e2];rfl)
 have S3:=S2.pls hp
 exact q l H2 (Sep.swap (Sep.halC (s:=s) (d:=d) (r:=r) (sp:=sp) (i:=i) (t:=t) ((((((S3.pull t).pull i).pull sp).pull r).pull d).pull h)))
def Zau (K:PySem.W.Frag)(CH CR CS CT CX CM:Addr):Sp:=fun vs H Q E=>∃(NS:List Str)(h:Addr)(s:Hs)(k p:Nat)(x:Str)(F:Str→Option V),vs=[.ref h,.int (k:Int),.str x]∧RdH K CH CR CS CT h s H∧HI NS s∧s.spots[k]?=some p∧(envs s.pls)[p]?=some F∧x∈NS ∧
 (ZE s.dfs (Sum.inr x)=none→∀ dx H',Same H H'→H' dx=some (.xd [("what",.str x)])→E (.ref CX) (some dx) H') ∧
 ∀ d,ZE s.dfs (Sum.inr x)=some d→(vOr (F x) d=.non→∀ dx H',Same H H'→H' dx=some (.xd [("what",.str x)])→E (.ref CM) (some dx) H')∧(vOr (F x) d≠.non→∀ H',Same H H'→Q (vOr (F x) d) H')
abbrev nHLi:List Str:=["self","world","name","value"]
abbrev Vf:List Str:=["self","world","name"]
theorem scHLi:Zs nHLi Vf (Zk c_Hall_look_in):=⟨rfl,rfl,rfl,by decide +kernel,rfl,by decide +kernel,by decide +kernel⟩
theorem ZiH {CX CM:Addr}{f:Addr}{fd:FuncData}(F:Fun K "look_in" "Hall.look_in" c_Hall_look_in f fd)(T:Yf mg)(TH:Xg K CH)(DH_check_world:DefM P w K mg base 12 CH "check_world" Zar (Zdi K CH CR CS CT))(DH_check_setting:DefMX P w K mg base 12 CH "check_setting" ZaG (Zcw K CH CR CS CT CX))(DH_value_or_default:DefM P w K mg base 12 CH "value_or_default" Zdh (ZfL K CH CR CS CT))(DE:UO P w K mg base 11 CM "Missing"):FnOk P w K mg base (Wn P w base) 13 f fd Vf (Zau K CH CR CS CT CX CM):=by
 refine F.okX scHLi (fun vs H Q E h=>?_) (fun cdv A outer s H vs Q E hr h W=>?_)
 · obtain ⟨NS,h,s,k,p,x,G,rfl,_⟩:=h;rfl
 obtain ⟨NS,h,s,k,p,x,G,rfl,R,I,hk,hG,hx,q1,q2⟩:=h
 obtain ⟨dd,r,sp,i,t,S⟩:=id R
 obtain ⟨dx,ob⟩:=S.get h
 refine' ⟨?t,?h,?r⟩
 case h =>
   conv=>arg 2;whnf
   with_reducible refine' (Zh ?h1 (Zh ?h2 (Zh ?h3 (Zh (Yg ?h4 (Zj ?h5) ZJ) (Zj ?h6)))))
   case h1=>exact YG (XI DH_check_world TH.cl hr (pv 0) (Zd (pv 1) Za))
   case h2=>exact YG (Vp W DH_check_setting TH.cl hr (pv 0) (Zd (pv 2) Za))
   case h3=>exact Zw (i:=3) scHLi.nd rfl (Or.inl rfl) (XI DH_value_or_default TH.cl hr (pv 0) (Zd (pv 1) (Zd (pv 2) Za)))
   case h4=>exact XL (Vo (pv 3))
   case h5=>exact UE W DE hr rfl (Zd (pv 2) Za)
   case h6=>exact Zv (pv 3)
 refine ⟨_,rfl,h,dx,_,rfl,ob,YH (by decide +kernel),_,rfl,h,s,k,rfl,R,(List.getElem?_eq_some_iff.mp hk).1,?_⟩
 refine ⟨_,rfl,h,dx,_,rfl,ob,YH (by decide +kernel),_,rfl,h,s,x,rfl,R,fun hs=>?_,q1⟩
 obtain ⟨d,hd⟩:=Option.isSome_iff_exists.mp hs
 obtain ⟨g1,g2⟩:=q2 d hd
 refine ⟨_,rfl,h,dx,_,rfl,ob,YH (by decide +kernel),_,rfl,_,rfl,NS,h,s,k,p,x,G,d,rfl,R,I,hk,hG,hx,hd,fun H1 s1=>?_⟩
 generalize vOr (G x) d=u at g1 g2
 refine ⟨_,rfl,_,rfl,Xa (fun c=>?_) (fun c=>?_)⟩
 · exact ⟨_,rfl,_,rfl,fun dx hd=>g1 (of_decide_eq_true c) dx _ (s1.trans (Zf hd _)) Zc⟩
 · exact ⟨_,rfl,g2 (fun z=>c (decide_eq_true z)) H1 s1⟩
def Zcv (K:PySem.W.Frag)(CH CR CS CT CX CM:Addr):Sp:=fun vs H Q E=>∃(NS:List Str)(h:Addr)(s:Hs)(k p:Nat)(x:Str)(F:Str→Option V),vs=[.ref h,.str x]∧RdH K CH CR CS CT h s H∧HI NS s∧s.ins.getLast?=some k∧s.spots[k]?=some p∧(envs s.pls)[p]?=some F∧x∈NS ∧
 (ZE s.dfs (Sum.inr x)=none→∀ dx H',Same H H'→H' dx=some (.xd [("what",.str x)])→E (.ref CX) (some dx) H') ∧
 ∀ d,ZE s.dfs (Sum.inr x)=some d→(vOr (F x) d=.non→∀ dx H',Same H H'→H' dx=some (.xd [("what",.str x)])→E (.ref CM) (some dx) H')∧(vOr (F x) d≠.non→∀ H',Same H H'→Q (vOr (F x) d) H')
abbrev nHLo:List Str:=["self","name"]
abbrev ZaC:List Str:=["self","name"]
theorem ZiZ:Zs nHLo ZaC (Zk c_Hall_look):=⟨rfl,rfl,rfl,by decide +kernel,rfl,by decide +kernel,by decide +kernel⟩
theorem Zhw {CX CM:Addr}{f:Addr}{fd:FuncData}(F:Fun K "look" "Hall.look" c_Hall_look f fd)(T:Yf mg)(TH:Xg K CH)(DH_now:DefM P w K mg base 13 CH "now" ZcP (ZfG K CH CR CS CT))(DH_look_in:DefMX P w K mg base 13 CH "look_in" Vf (Zau K CH CR CS CT CX CM)):FnOk P w K mg base (Wn P w base) 14 f fd ZaC (Zcv K CH CR CS CT CX CM):=by
 refine F.okX ZiZ (fun vs H Q E h=>?_) (fun cdv A outer s H vs Q E hr h W=>?_)
 · obtain ⟨NS,h,s,k,p,x,G,rfl,_⟩:=h;rfl
 obtain ⟨NS,h,s,k,p,x,G,rfl,R,I,hn,hk,hG,hx,q1,q2⟩:=h
 obtain ⟨dd,r,sp,i,t,S⟩:=id R
 obtain ⟨dx,ob⟩:=S.get h
 refine' ⟨?t,?h,?r⟩
 case h =>
   conv=>arg 2;whnf
   with_reducible refine' (Zj ?h1)
   case h1=>exact Zv (Vp W DH_look_in TH.cl hr (pv 0) (Zd (ZaH DH_now TH.cl hr (pv 0)) (Zd (pv 1) Za)))
 exact ⟨_,rfl,h,dx,_,rfl,ob,YH (by decide +kernel),_,rfl,h,dx,_,rfl,ob,YH (by decide +kernel),h,s,k,rfl,R,hn,_,rfl,NS,h,s,k,p,x,G,rfl,R,I,hk,hG,hx,q1,q2⟩
end
end K32
set_option maxHeartbeats 2000000
namespace L2
open PySem
def Zcu (pre post:Str)(z:Int)(x:Str):Prop:=∃ c1 c2,x=pre++(⟨#[c1]⟩:Str)++(⟨#[c2]⟩:Str)++post∧Yr a26.cps.toList (z / 26)=some c1∧Yr a26.cps.toList (z % 26)=some c2
theorem Zgg:∀ i j:_root_.Fin 26,a26.cps.toList[i.val]?=a26.cps.toList[j.val]?→i=j:=by decide +kernel
theorem Zeu {xs:List Nat}{r:Int}{c:Nat}(h0:0≤r)(h:Yr xs r=some c):xs[r.toNat]?=some c:=by
 unfold Yr WJ at h
 rw [if_pos h0] at h
 split at h
 · exact h
 · cases h
theorem ZdC {r r':Int}{c:Nat}(h0:0≤r)(h1:r < 26)(h2:0≤r')(h3:r' < 26)(e:Yr a26.cps.toList r=some c)(e':Yr a26.cps.toList r'=some c):r=r':=by
 have:=Zgg ⟨r.toNat,by omega⟩ ⟨r'.toNat,by omega⟩ ((Zeu h0 e).trans (Zeu h2 e').symm)
 have:=congrArg Fin.val this
 simp only at this
 omega
theorem Zgv (x y:Str):(x++y).cps.toList=x.cps.toList++y.cps.toList:=by
 show (x.cps++y.cps).toList=_
 simp
theorem ZhV {pre post:Str}{z z':Int}{x:Str}(h0:0≤z)(h1:z < 676)(h2:0≤z')(h3:z' < 676)(h:Zcu pre post z x)(h':Zcu pre post z' x):z=z':=by
 obtain ⟨c1,c2,rfl,e1,e2⟩:=h
 obtain ⟨d1,d2,e,f1,f2⟩:=h'
 have e:=congrArg (fun s:Str=>s.cps.toList) e
 simp only [Zgv,List.append_assoc] at e
 have e:=List.append_cancel_left e
 simp at e
 obtain ⟨rfl,rfl⟩:=e
 have g1:=ZdC (by omega) (by omega) (by omega) (by omega) e1 f1
 have g2:=ZdC (by omega) (by omega) (by omega) (by omega) e2 f2
 omega
theorem ZgI {r5 stp:Int}{i j:Nat}(hs:stp=1∨stp=27∨stp=5∨stp=251)(hij:i < j)(hj:j≤100)(e:(r5+stp * (0+(i:Int))) % 676=(r5+stp * (0+(j:Int))) % 676):False:=by
 rcases hs with rfl | rfl | rfl | rfl<;>omega
theorem Zdp {pre post:Str}{r5 stp:Int}{xs:List Str}(hs:stp=1∨stp=27∨stp=5∨stp=251)(hl:xs.length≤100)(h:∀(j:Nat)(x:Str),xs[j]?=some x→Zcu pre post ((r5+stp * (0+(j:Int))) % 676) x):xs.Nodup:=by
 refine List.pairwise_iff_getElem.mpr fun i j hi hj hij e=>?_
 have a:=h i _ (List.getElem?_eq_getElem hi)
 have b:=h j _ (List.getElem?_eq_getElem hj)
 rw [e] at a
 exact ZgI hs hij (by omega) (ZhV (Int.emod_nonneg _ (by decide)) (Int.emod_lt_of_pos _ (by decide)) (Int.emod_nonneg _ (by decide)) (Int.emod_lt_of_pos _ (by decide)) a b)
def Zbs:Sp:=fun vs H Q _=>∃(p:Addr)(n:Nat)(many:Int)(Δ:Rs),vs=[.ref p,.int many]∧Sep ((p,Bx n)::Δ) H∧n≤900000∧0≤many∧many≤100 ∧
 ∀ (l:Addr) (H':Hp) (xs:List Str),Sep ((l,ZK (xs.map V.str))::(p,Bx (n+20))::Δ) H'→xs.length=many.toNat→(∀ x∈xs,Xo x)→xs.Nodup→Q (.ref l) H'
end L2
set_option maxHeartbeats 4000000
namespace K32
open PySem L2
section
variable {P:Program}{w:World}{K:PySem.W.Frag}{mg:Str→Option Value}{base:Heap}
abbrev nNm:List Str:=["_law_box_here","_law_many","_law_letters","_law_size","_law_stem","_law_first","_law_step","_law_at","_law_found","_law_k","_law_one","_law_other"]
abbrev Zez:List Str:=["_law_box_here","_law_many"]
theorem scNm:Zs nNm Zez (Zk s_l_names):=⟨rfl,rfl,rfl,by decide +kernel,rfl,by decide +kernel,by decide +kernel⟩
theorem Zfd {f:Addr}{fd:FuncData}(F:Fun K "_law_names" "_law_names" s_l_names f fd)(T:Yf mg)(DT:DTk P w K mg base 1):FnOk P w K mg base ZG 2 f fd Zez Zbs:=by
 refine F.ok scNm (fun vs H Q E h=>?_) (fun cdv A outer s H vs Q E hr h=>?_)
 · obtain ⟨p,n,many,Δ,rfl,_⟩:=h;rfl
 obtain ⟨p,n,many,Δ,rfl,S,hn,h0,h1,q⟩:=h
 have hr1:=hr
 refine' ⟨?t,?h,?r⟩
 case h =>
   conv=>arg 2;whnf
   with_reducible refine' (Zh ?h1 (Zh ?h2 (Zh ?h3 (Zh ?h4 (Zh (Wh ?h5 ?h6 ?h7 ?h8 (Zh ?h9 (Zj ?h10)) ?h11) (Zj ?h12))))))
   case h1=>exact Wq (ZX (Zd Zz (Zd (Zr Yn Ze (ZV DT hr1 (Zd (pv 0) (Zd Ze Za)))) Za))) (Wl rfl (ZW (ZL (i:=2) scNm.nd rfl (Or.inr rfl)) (ZW (ZL (i:=3) scNm.nd rfl (Or.inl rfl)) Xz)))
   case h2=>exact Zw (i:=4) scNm.nd rfl (Or.inl rfl) (Wy PySem.F.plainAttrs_str PySem.F.slot_str_join PySem.F.type_str_join Zci Zz (Zd (ZbJ (CompOk.of nNm s_l_names rfl rfl (by decide +kernel)) rfl (YT rfl T.range (Zd (Zr XQ (pv 3) Ze) Za))  (fun _ _ _ _ _=>ZB Vs (pv 2) (ZV DT hr1 (Zd (pv 0) (Zd Ze Za))) (fun _ _=>rfl))) Za))
   case h3=>exact Zgs (i:=5) (j:=6) (k:=7) rfl scNm.nd rfl rfl rfl (by decide) (by decide) (by decide) rfl rfl rfl (Zd (ZV DT hr1 (Zd (pv 0) (Zd Ze Za))) (Zd (ZB ZA (ZF (Zd Ze (Zd Ze (Zd Ze (Zd Ze Za))))) (ZV DT hr1 (Zd (pv 0) (Zd Ze Za))) (fun _ _=>rfl)) (Zd (ZV DT hr1 (Zd (pv 0) (Zd (Zr XQ (pv 3) Ze) Za))) Za))) rfl
   case h4=>exact Zw (i:=8) scNm.nd rfl (Or.inl rfl) (ZF Za)
   case h5=>exact PassesOwn.never
   case h6=>exact rfl
   case h7=>exact YT rfl T.range (Zd (pv 1) Za)
   case h8=>exact ZL (i:=9) scNm.nd rfl (Or.inl rfl)
   case h9=>exact Wq (Zn ZbD rfl T.divmod (by decide +kernel) (Zd (Zr Xc (Zr Yn (pv 5) (Zr Xr (pv 6) (pv 9))) Ze) (Zd Ze Za))) (Wl rfl (ZW (ZL (i:=10) scNm.nd rfl (Or.inl rfl)) (ZW (ZL (i:=11) scNm.nd rfl (Or.inl rfl)) Xz)))
   case h10=>exact YG (Wy PySem.F.plainAttrs_list PySem.F.slot_list_append PySem.F.type_list_append XX (pv 8) (Zd (Zr WG (Zr WG (Zr WG (ZaK ZdL (pv 4) ZbM (Zca (pv 7))) (ZB Vs (pv 2) (pv 10) (fun _ _=>rfl))) (ZB Vs (pv 2) (pv 11) (fun _ _=>rfl))) (ZaK ZdL (pv 4) (Zca (pv 7)) ZbM)) Za))
   case h11=>exact fun _=>rfl
   case h12=>exact Zv (pv 8)
 refine ⟨_,rfl,p,_,7,_,rfl,S,by omega,by decide,by decide,fun r1 H1 a0 a1 S1=>⟨_,_,rfl,rfl,(by show 2≤sizeLine;decide),fun t ht=>⟨t,_,rfl,SqT.of Zc,rfl,_,_,rfl,_,_,rfl,rfl,?_⟩⟩⟩
 generalize hE:upd H1 t _=H2
 have S2:=(S1.newE ht hE).tail
 clear hE
 refine ⟨rfl,_,rfl,_,_,rfl,rfl,_,rfl,by omega,by omega,fun D hD=>?_⟩
 have e1:(2+r1 - 2).toNat=r1.toNat:=by omega
 rw [e1]
 refine ZbH (YO (show r1.toNat≤1000 by omega)) S2 hD (fun i ys Δ'=>∃ zs:List Str,ys=zs.map V.str∧(∀ z∈zs,∃ c,z=⟨#[c]⟩∧WA c=true)∧Δ'=(p,Bx (n+1+i))::Δ) ⟨[],rfl,(fun _ h=>nomatch h),rfl⟩ ?_ ?_
 · rintro i ys Δ' H' hi hl ⟨zs,rfl,hz,rfl⟩ S'
   refine ⟨_,rfl,_,rfl,p,_,26,_,rfl,S'.pull p,by omega,by decide,by decide,fun r3 H3 b0 b1 S3=>?_⟩
   obtain ⟨c,hc,hcl⟩:=VD (x:=a26) Vw b0 (by rw [XC];exact b1)
   refine ⟨a26,r3,c,rfl,rfl,by rw [XC];decide,hc,_,⟨zs++[⟨#[c]⟩],by rw [List.map_append];rfl,?_,rfl⟩,S3.pull D⟩
   intro z hz'
   rcases List.mem_append.mp hz' with h | h
   · exact hz z h
   · rw [List.mem_singleton.mp h];exact ⟨c,rfl,hcl⟩
 rintro ys Δ' H3 ⟨zs,rfl,hz,rfl⟩ hl S3
 rw [List.length_map] at hl
 obtain ⟨g1,g2,g3⟩:=ZdT hz
 refine ⟨_,D,zs,rfl,rfl,SqL.of (S3.get D),by omega,?_⟩
 have S4:=S3.tail
 generalize Txt.join (Str.ofString "") zs=stem at *
 refine ⟨_,rfl,p,_,676,_,rfl,S4,by omega,by decide,by decide,fun r5 H5 b0 b1 S5=>⟨(by show 4≤sizeLine;decide),fun l hl4=>?_⟩⟩
 generalize hE:upd H5 l _=H6
 have S6:=S5.newE hl4 hE
 clear hE
 refine ⟨_,rfl,p,_,4,_,rfl,S6.pull p,by omega,by decide,by decide,fun r7 H7 c0 c1 S7=>?_⟩
 obtain ⟨sv,hsm,hsv⟩:=Zhk (xs:=[.int 1,.int 27,.int 5,.int 251]) c0 c1
 obtain ⟨stp,rfl,hst,hst4⟩:∃ z:Int,sv=.int z∧(0≤z∧z≤251)∧(z=1∨z=27∨z=5∨z=251):=by
   simp only [List.mem_cons,List.not_mem_nil,or_false] at hsm
   rcases hsm with rfl | rfl | rfl | rfl<;>exact ⟨_,rfl,⟨by decide,by decide⟩,by decide⟩
 refine ⟨l,_,_,_,rfl,rfl,SqL.of (S7.get l),hsv,?_⟩
 have S8:=S7.drop l
 refine ⟨_,rfl,_,rfl,_,_,rfl,rfl,p,_,_,_,rfl,S8,by omega,by omega,by omega,fun r9 H9 d0 d1 S10=>⟨_,_,_,rfl,?_⟩⟩
 refine ⟨(by show 0≤sizeLine;decide),fun fl hfl=>?_⟩
 generalize hE:upd H9 fl _=H11
 have S11:=S10.newE hfl hE
 clear hE
 refine ⟨_,rfl,many,rfl,by omega,by omega,?_⟩
 refine XT (fun i σ H'=>∃ x9 x10 x11 xs,σ=[some (.ref p),some (.int many),some (.str a26),some (.int (2+r1)),some (.str stem),some (.int r5),some (.int stp),some (.int r9),some (.ref fl),x9,x10,x11]∧Sep ((fl,ZK (xs.map V.str))::(p,Bx (n+20))::Δ) H'∧xs.length=i∧(∀ x∈xs,Xo x)∧∀ (j:Nat) (x:Str),xs[j]?=some x→Zcu (Txt.slice stem none (some r9)) (Txt.slice stem (some r9) none) ((r5+stp * (0+(j:Int))) % 676) x)
   ⟨_,_,_,[],rfl,(S11.pull p).le (by omega) |>.pull fl,rfl,(fun _ h=>nomatch h),fun _ _ h=>nomatch h⟩ ?_ ?_
 · rintro i σ H' hi ⟨x9,x10,x11,xs,rfl,S',hxl,hxs,hnm⟩
   have hb:0≤stp * (0+(i:Int)):=Int.mul_nonneg hst.1 (by omega)
   refine ⟨_,rfl,_,rfl,_,rfl,_,_,rfl,rfl,.inl ⟨by omega,by omega⟩,_,_,rfl,rfl,_,_,rfl,rfl,(by show (0:Int) < 676;decide),?_⟩
   obtain ⟨z,hz⟩:∃ z:Int,(r5+stp * (0+(i:Int))) % 676=z:=⟨_,rfl⟩
   have hz0:0≤z:=by rw [← hz];exact Int.emod_nonneg _ (by decide)
   have hz1:z < 676:=by rw [← hz];exact Int.emod_lt_of_pos _ (by decide)
   refine ⟨z,26,congrArg (fun y=>[V.int y,V.int 26]) hz,⟨by decide,by decide⟩,fun t2 ht2=>⟨t2,_,rfl,SqT.of Zc,rfl,_,_,rfl,_,_,rfl,rfl,?_⟩⟩
   generalize hE:upd H' t2 _=H12
   have S12:=(S'.newE ht2 hE).tail
   clear hE
   obtain ⟨c1',hc1,hcl1⟩:=VD (x:=a26) Vw (r:=z / 26) (by omega) (by rw [XC];omega)
   obtain ⟨c2',hc2,hcl2⟩:=VD (x:=a26) Vw (r:=z % 26) (by omega) (by rw [XC];omega)
   have hsl:=Zdm (x:=stem) d0 (by omega)
   refine ⟨_,rfl,.inl ⟨rfl,_,SqL.of (S12.get fl)⟩,_,rfl,_,rfl,r9,rfl,stem,rfl,YO (show stem.length≤1000 by omega),_,rfl,_,rfl,a26,_,c1',rfl,rfl,by rw [XC];decide,hc1,_,_,rfl,rfl,YO (show _≤1000 by rw [Xj];omega),?_⟩
   refine ⟨_,rfl,_,rfl,a26,_,c2',rfl,rfl,by rw [XC];decide,hc2,_,_,rfl,rfl,YO (show _≤1000 by rw [ZR,Xj,Xj];omega),_,rfl,_,rfl,r9,rfl,stem,rfl,YO (show stem.length≤1000 by omega),_,_,rfl,rfl,YO (show _≤1000 by rw [ZR,ZR,Xj,Xj];omega),?_⟩
   refine ⟨fl,_,_,rfl,rfl,S12.get fl,Zbt (show _≤1000 by rw [List.length_map];omega),?_⟩
   have S13:=S12.put fl (.lst (xs.map V.str++[.str (Txt.slice stem none (some r9)++(⟨#[c1']⟩:Str)++(⟨#[c2']⟩:Str)++Txt.slice stem (some r9) none)]))
   refine ⟨_,_,_,xs++[Txt.slice stem none (some r9)++(⟨#[c1']⟩:Str)++(⟨#[c2']⟩:Str)++Txt.slice stem (some r9) none],rfl,by rw [List.map_append];exact S13,by simp [hxl],fun x hx=>?_,fun j x hx=>?_⟩
   · rcases List.mem_append.mp hx with h | h
     · exact hxs x h
     · rw [List.mem_singleton.mp h]
       refine ⟨?_,?_,UM (UM (UM (Vc g3) (ZaX hcl1)) (ZaX hcl2)) (Vc g3)⟩<;>(rw [ZR,ZR,ZR,Xj,Xj];omega)
   · by_cases hj:j < xs.length
     · rw [List.getElem?_append_left hj] at hx;exact hnm j x hx
     · have hj2:j=i:=by
         have:=(List.getElem?_eq_some_iff.mp hx).1
         rw [List.length_append,List.length_singleton] at this;omega
       subst hj2
       rw [List.getElem?_append_right (by omega),show j - xs.length=0 by omega] at hx
       cases (show some _=some x from hx)
       rw [hz];exact ⟨c1',c2',rfl,hc1,hc2⟩
 · rintro σ H' ⟨x9,x10,x11,xs,rfl,S',hxl,hxs,hnm⟩
   exact ⟨_,rfl,q fl H' xs S' hxl hxs (Zdp hst4 (by omega) hnm)⟩
end
end K32
set_option maxHeartbeats 4000000
namespace K32
open PySem L2
abbrev ZfD (P:Program)(w:World)(K:PySem.W.Frag)(mg:Str→Option Value)(base:Heap):Prop:=Def P w K mg base 1 "_law_take" ["_law_box_here","_law_many"] (Va 4611686018427387904)
section
variable {P:Program}{w:World}{K:PySem.W.Frag}{mg:Str→Option Value}{base:Heap}
abbrev vSigns:Str:=ZfW (YS s_l_value)
theorem vs_len:vSigns.length=94:=by decide +kernel
theorem ZhD:vSigns.cps.toList.all WK=true:=by decide +kernel
abbrev nVv:List Str:=["_law_box_here","_law_way","_law_signs"]
theorem scVal:Zs nVv ["_law_box_here"] (Zk s_l_value):=⟨rfl,rfl,rfl,by decide +kernel,rfl,by decide +kernel,by decide +kernel⟩
theorem ZeP {f:Addr}{fd:FuncData}(F:Fun K "_law_value" "_law_value" s_l_value f fd)(T:Txt K mg)(D:ZfD P w K mg base):FnOk P w K mg base ZG 2 f fd ["_law_box_here"] ZbL:=by
 refine F.ok scVal (fun vs H Q E h=>?_) (fun cdv A outer s H vs Q E hr h=>?_)
 · obtain ⟨p,n,rfl,_⟩:=h;rfl
 obtain ⟨p,n,rfl,hB,hn,q⟩:=h
 refine ⟨_,Zh (Zw (i:=1) scVal.nd rfl (Or.inl rfl) (ZV D hr (Zd (pv 0) (Zd Ze Za))))
   (Zh (Yg (ZM Zas (pv 1) Ze (ZN _)) (Zj (Zv (Zr XQ (ZV D hr (Zd (pv 0) (Zd Ze Za))) Ze))) ZJ)
   (Zh (Yg (ZM Xx (pv 1) Ze (ZN _)) (Zj (Zv (ZB ZA (ZF (YZ (Zr XQ (Zr Ve Ze Ze) Ze) (YZ (Zr XQ Ze (Zr Ve Ze Ze)) (YZ (Zr Ve Ze Ze) (YZ Ze Za rfl) rfl) rfl) rfl)) (ZV D hr (Zd (pv 0) (Zd Ze Za))) (fun _ _=>rfl)))) ZJ)
   (Zh (Yg (ZM Xx (pv 1) Ze (ZN _)) (Zj (Zv (ZB ZA (ZF (YZ Zz (YZ Zz (YZ Zz (YZ Zz (YZ Zz (YZ Zz (YZ Zz (YZ Zz Za rfl) rfl) rfl) rfl) rfl) rfl) rfl) rfl)) (ZV D hr (Zd (pv 0) (Zd Ze Za))) (fun _ _=>rfl)))) ZJ)
   (Zh (Zw (i:=2) scVal.nd rfl (Or.inr rfl) Zz)
   (Zj (Zv (Wy PySem.F.plainAttrs_str PySem.F.slot_str_join PySem.F.type_str_join Zci Zz (Zd (ZbJ (CompOk.of nVv s_l_value rfl rfl (by decide +kernel)) rfl
     (YT rfl T.range (Zd (ZV D hr (Zd (pv 0) (Zd (Ym (ZM Xx (pv 1) Ze (ZN _)) Ze Ze) Za))) Za))
     (fun _ _ _ _ _=>ZB Vs (pv 2) (ZV D hr (Zd (pv 0) (Zd (Zn (ZdG (K:=K) rfl) rfl T.len PySem.boot_len (Zd (pv 2) Za)) Za))) (fun _ _=>rfl))) Za)))))))),?_⟩
 refine ⟨_,rfl,p,n,6,rfl,hB,by omega,by decide,by decide,fun r1 H1 a0 a1 B1 k1=>?_⟩
 refine ⟨_,rfl,_,_,rfl,rfl,_,rfl,Xa (fun c=>?_) (fun c=>?_)⟩
 · refine ⟨_,rfl,p,n+1,7,rfl,B1,by omega,by decide,by decide,fun r2 H2 b0 b1 B2 k2=>⟨_,_,rfl,rfl,?_⟩⟩
   exact q _ _ (by show (r2 - 3).natAbs≤10 ^ 31;omega) (B2.le (by omega)) (k1.trans k2)
 refine ⟨_,rfl,rfl,_,rfl,Xa (fun c2=>?_) (fun c2=>?_)⟩
 · refine ⟨_,_,rfl,rfl,⟨by decide,by decide,by decide⟩,_,_,rfl,rfl,_,_,rfl,rfl,⟨by decide,by decide,by decide⟩,_,_,rfl,rfl,_,_,rfl,rfl,⟨by decide,by decide,by decide⟩,(by show 4≤sizeLine;decide),fun l hl=>?_⟩
   have hne:l≠p:=fun e=>by obtain ⟨_,_,_,z,_⟩:=B1;rw [e,z] at hl;cases hl
   refine ⟨_,rfl,p,n+1,4,rfl,B1.same (Zf hl _),by omega,by decide,by decide,fun r2 H2 b0 b1 B2 k2=>?_⟩
   obtain ⟨v,hv,hm⟩:=VJ (xs:=([.int (10 ^ (30:Int).toNat - 1),.int (1 - 10 ^ (30:Int).toNat),.int (10 ^ (29:Int).toNat),.int 0]:List V)) b0 b1
   refine ⟨l,_,_,v,rfl,rfl,SqL.of (k2 l _ hne Zc),hv,q _ _ ?_ (B2.le (by omega)) (k1.trans ((Zf hl _).kp p |>.trans k2))⟩
   have all:(([.int (10 ^ (30:Int).toNat - 1),.int (1 - 10 ^ (30:Int).toNat),.int (10 ^ (29:Int).toNat),.int 0]:List V)).all Zav=true:=by decide +kernel
   exact UG (List.all_eq_true.mp all v hm)
 refine ⟨_,rfl,rfl,_,rfl,Xa (fun c3=>?_) (fun c3=>?_)⟩
 · refine ⟨(by show 8≤sizeLine;decide),fun l hl=>?_⟩
   have hne:l≠p:=fun e=>by obtain ⟨_,_,_,z,_⟩:=B1;rw [e,z] at hl;cases hl
   refine ⟨_,rfl,p,n+1,8,rfl,B1.same (Zf hl _),by omega,by decide,by decide,fun r2 H2 b0 b1 B2 k2=>?_⟩
   obtain ⟨v,hv,hm⟩:=VJ (xs:=([.str "",.str "0",.str "-1",.str "a",.str "none",.str "'",.str "\\", .str " "]:List V)) b0 b1
   refine ⟨l,_,_,v,rfl,rfl,SqL.of (k2 l _ hne Zc),hv,q _ _ ?_ (B2.le (by omega)) (k1.trans ((Zf hl _).kp p |>.trans k2))⟩
   have all:(([.str "",.str "0",.str "-1",.str "a",.str "none",.str "'",.str "\\", .str " "]:List V)).all Zav=true:=by decide +kernel
   exact UG (List.all_eq_true.mp all v hm)
 refine ⟨rfl,?_⟩
 have fin:∀ (r2:Int) (H2:Hp),0≤r2→r2 < 41→BoxAt H2 p (n+2)→Kp p H1 H2→∃ j:Int,[V.int r2]=[.int j]∧-(2 ^ 62)≤j∧j < 2 ^ 62∧∀ D,H2 D=none→UV (UZ 0 j.toNat)
     (tOp rIxS (ZbA 2) (ZcX (Va 4611686018427387904) [] E0 (YW (ZbA 0) (YW (tCB (fun xs H Q=>∃ x n,xs=[x]∧Zfg K x H n∧Q (.int n) H) (YW (ZbA 2) We)) We))))
     [some (.ref p),some (.int r1),some (.str vSigns)] D (fun x H3=>∃ sep a ys,V.str ""=.str sep∧[x]=[.ref a]∧SqL K H3 a (ys.map V.str)∧(ys.map (·.length)).sum+ys.length * sep.length≤16777216∧Q (.str (Txt.join sep ys)) H3) H2:=by
   intro r2 H2 b0 b1 B2 k2
   refine ⟨r2,rfl,by omega,by omega,fun Dl hD=>?_⟩
   have hne:Dl≠p:=fun e=>by obtain ⟨_,_,_,z,_⟩:=B2;rw [e,z] at hD;cases hD
   refine ZcG (Nat.le_trans (show r2.toNat≤1000 by omega) (ZeJ (Nat.le_refl _)))
     (fun i ys H'=>∃ zs:List Str,ys=zs.map V.str∧zs.length=i∧(∀ z∈zs,∃ c,z=⟨#[c]⟩∧WK c=true)∧H' Dl=some (.lst ys)∧BoxAt H' p (n+2+i)∧Kp p H1 H'∧i≤r2.toNat)
     ⟨[],rfl,rfl,(fun _ h=>nomatch h),Zc,B2.same (Zf hD _),k2.trans ((Zf hD _).kp p),Nat.zero_le _⟩ ?_ ?_ ?_
   · rintro i ys H' ⟨zs,rfl,hz,_⟩;rw [List.length_map];exact hz
   · rintro i ys H' hi ⟨zs,rfl,hz,hall,hDl,B',k',_⟩
     refine ⟨_,rfl,_,rfl,_,rfl,_,94,rfl,⟨by rw [vs_len];decide,vs_len.symm⟩,p,n+2+i,94,rfl,B',by omega,by decide,by decide,fun r3 H3 d0 d1 B3 k3=>?_⟩
     have hl:vSigns.cps.toList.length=94:=by rw [← ZQ];exact vs_len
     obtain ⟨c,hc,hm⟩:=VJ (xs:=vSigns.cps.toList) d0 (by rw [hl];exact d1)
     refine ⟨vSigns,r3,c,rfl,rfl,(by rw [vs_len];decide),hc,k3 Dl _ hne hDl,zs++[⟨#[c]⟩],by rw [List.map_append];rfl,by rw [List.length_append,hz];rfl,?_,Zc,?_,fun b o nb e=>?_,hi⟩
     · intro z hz'
       rcases List.mem_append.mp hz' with h | h
       · exact hall z h
       · rw [List.mem_singleton.mp h];exact ⟨c,rfl,List.all_eq_true.mp ZhD c hm⟩
     · obtain ⟨x1,x2,x3,x4,x5⟩:=B3
       exact ⟨x1,x2,x3,by rw [Zg hne.symm];exact x4,x5⟩
     · rw [Zg (Zq (k2 b o nb e) hD)];exact k3 b o nb (k' b o nb e)
   · rintro ys H' ⟨zs,rfl,hz,hall,hDl,B',k',_⟩
     have ones:∀ l:List Str,(∀ z∈l,∃ c,z=⟨#[c]⟩∧WK c=true)→(l.map (·.length)).sum=l.length∧(l.flatMap (·.cps.toList)).length=l.length∧(l.flatMap (·.cps.toList)).all WK=true:=by
       intro l
       induction l with
       | nil=>intro _;exact ⟨rfl,rfl,rfl⟩
       | cons z r ih =>
         intro h
         obtain ⟨c,rfl,hc⟩:=h z List.mem_cons_self
         obtain ⟨g1,g2,g3⟩:=ih fun y hy=>h y (List.mem_cons_of_mem _ hy)
         refine ⟨?_,?_,?_⟩
         · rw [List.map_cons,List.sum_cons,g1,List.length_cons];show 1+_=_;omega
         · have e0:((⟨#[c]⟩:Str)::r).flatMap (·.cps.toList)=c::r.flatMap (·.cps.toList):=rfl
           rw [e0,List.length_cons,List.length_cons,g2]
         · rw [List.flatMap_cons,List.all_append,g3];simp [hc]
     obtain ⟨g1,g2,g3⟩:=ones zs hall
     refine ⟨_,Dl,zs,rfl,rfl,SqL.of hDl,?_,q _ _ ⟨?_,?_⟩ (B'.le (by omega)) (k1.trans k')⟩
     · rw [g1];show _+_ * 0≤_;omega
     · rw [ZQ];show (Txt.join (Str.ofString "") zs).cps.toList.length≤41;rw [Xv,g2];omega
     · show (Txt.join (Str.ofString "") zs).cps.toList.all WK=true;rw [Xv];exact g3
 refine ⟨_,rfl,_,rfl,rfl,_,rfl,Xa (fun c4=>?_) (fun c4=>?_)⟩
 · exact ⟨p,n+1,4,rfl,B1,by omega,by decide,by decide,fun r2 H2 b0 b1 B2 k2=>fin r2 H2 b0 (by omega) B2 k2⟩
 · exact ⟨p,n+1,41,rfl,B1,by omega,by decide,by decide,fun r2 H2 b0 b1 B2 k2=>fin r2 H2 b0 (by omega) B2 k2⟩
end
end K32
set_option maxHeartbeats 4000000
namespace K32
open PySem L2
def mkB:Nat→Int
 | 0=>0
 | i+1=>mkB i+((i:Int)+1) * 26
theorem ZdV {l:List Nat}:∀ i,i≤l.length→l.all WA=true→0≤Xk l i∧Xk l i≤mkB i
 | 0,_,_=>⟨Int.le_refl _,Int.le_refl _⟩
 | i+1,hi,ha=>by
   obtain ⟨h0,h1⟩:=ZdV i (by omega) ha
   have hlj:i < l.length:=hi
   have hc:=List.all_eq_true.mp ha _ (List.getElem_mem hlj)
   have hg:l.getD i 0=l[i]:=by rw [List.getD_eq_getElem?_getD,List.getElem?_eq_getElem hlj];rfl
   unfold WA at hc
   simp only [Bool.and_eq_true,decide_eq_true_eq] at hc
   show 0≤Xk l i+((i:Int)+1) * (((l.getD i 0:Nat):Int) - 97+1)∧Xk l i+((i:Int)+1) * (((l.getD i 0:Nat):Int) - 97+1)≤mkB i+((i:Int)+1) * 26
   rw [hg]
   have p0:(0:Int)≤((i:Int)+1) * (((l[i]:Nat):Int) - 97+1):=Int.mul_nonneg (by omega) (by omega)
   have p1:((i:Int)+1) * (((l[i]:Nat):Int) - 97+1)≤((i:Int)+1) * 26:=Int.mul_le_mul_of_nonneg_left (by omega) (by omega)
   omega
theorem ZiT {NS:List Str}(hl:NS.length < 64)(h:∀ x∈NS,Xo x):Ua NS:=by
 have b:∀ x∈NS,0≤Yy x∧Yy x < 1024:=fun x hx=>by
   obtain ⟨h1,h8,ha⟩:=h x hx
   obtain ⟨g0,g1⟩:=ZdV (l:=x.cps.toList) x.length (by rw [← ZQ];exact Nat.le_refl _) ha
   have hB:∀ i,i≤8→mkB i < 1024:=by decide
   have:=hB x.length h8
   exact ⟨g0,by show Xk _ _ < _;omega⟩
 exact ⟨by omega,fun x hx=>by have:=(h x hx).2.1;omega,fun x hx=>(b x hx).1,fun x hx=>(b x hx).2⟩
theorem Zjm {NS:List Str}:ZeC NS [] [.bare] [(Sum.inl 0,.bl true)]:=by
 refine ⟨fun k q e=>by simp at e,fun k F t e1 e2=>?_⟩
 cases k with
 | zero =>
   cases (show some (fun _=>none)=some F from e1)
   cases (show some 0=some t from e2)
   exact ⟨rfl,.inl (.inl ⟨rfl,rfl,fun _ _ _=>rfl⟩),fun x u z=>by cases z⟩
 | succ k=>simp [envs] at e1
end K32
set_option maxHeartbeats 2000000
namespace L2
open PySem
theorem ZhT {v:V}(h:YJ v):(YL v).canLay0=true:=by
 rcases h with rfl | h
 · rfl
 · exact Zdv h
theorem ZgT {K:PySem.W.Frag}{H:Hp}{v:V}(h:YJ v):DatT K H v (YL v):=by
 rcases h with rfl | h
 · exact .non
 · cases v<;>first | exact .int _ | exact .str _ | exact h.elim
theorem Zia {v:V}:(YL v).depth=0:=by cases v<;>rfl
theorem Vk:∀{ps:List (Str×V)},(∀ p∈ps,Xo p.1∧YJ p.2)→PyData.canLayAll0 (ps.map Xn)=true∧PyData.depthAll (ps.map Xn)≤50
 | [],_=>⟨rfl,by decide⟩
 | p :: r,h=>by
   obtain ⟨z1,z2⟩:=Vk (ps:=r) fun q hq=>h q (List.mem_cons_of_mem _ hq)
   have h1:=h p List.mem_cons_self
   have e1:PyData.strOk p.1=true:=Zaj h1.1.2.2 (fun c hc=>by unfold WA at hc;simp at hc;omega)
   rw [List.map_cons,PyData.canLayAll0,z1,PyData.depthAll]
   refine ⟨?_,?_⟩
   · show ((PyData.strOk p.1&&((YL p.2).canLay0&&true))&&true)=true
     rw [e1,ZhT h1.2];rfl
   · have:(Xn p).depth≤50:=by
       show PyData.depthAll [.str p.1,YL p.2]+1≤50
       have e:(YL p.2).depth=0:=Zia
       simp [PyData.depthAll,PyData.depth,e]
     omega
theorem Us {K:PySem.W.Frag}{H:Hp}:∀{ts:List Addr}{ps:List (Str×V)},PairT H ts ps→(∀ p∈ps,YJ p.2)→DatTs K H (ts.map V.ref) (ps.map Xn)
 | [],[],_,_=>.nil
 | [],_::_,h,_=>by cases h.1
 | _::_,[],h,_=>by cases h.1
 | t::ts,p::ps,h,hv=>.cons (.tup (SqT.of (h.2 0 t p rfl rfl)) (.cons (.str _) (.cons (ZgT (hv p List.mem_cons_self)) .nil))) (Us ⟨by simpa using h.1,fun i a q e1 e2=>h.2 (i+1) a q e1 e2⟩ fun q hq=>hv q (List.mem_cons_of_mem _ hq))
theorem UU {RK:Addr→Str→Prop}{Pl:Addr}{qual:Str}{te:(St→XK)→TE}{σ:St}{H:Hp}{Q:VK}(vs:List V)(hL:LamsAt H Pl qual)
   (body:∀ (H1:Hp) (Qc:VK) (Ec:XK),Grown Pl H H1→LamsAt H1 Pl qual→(∀ v H',Same H1 H'→vs=[.str "told",v]→Qc v H')→(∀ C dx word what H',Same H1 H'→RK C word→H' dx=some (.xd [("what",what)])→vs=[.str "refused",.str word,what]→Ec (.ref C) (some dx) H')→te (fun _=>Ec) σ H1 Qc)
   (fin:∀ H1 a H2,Grown Pl H H1→LamsAt H1 Pl qual→Same H1 H2→H2 a=some (.tup vs)→Q (.ref a) H2):ZcJ RK Pl qual te σ H Q :=
 ⟨hL,fun H1 Qc Ec gr L hq he=>body H1 Qc Ec gr L (fun v H' s e=>hq v H' fun a H2 s2 e2=>fin H1 a H2 gr L (s.trans s2) (by rw [e];exact e2)) (fun C dx word what H' s rk ed e=>he C dx word what H' rk ed fun a H2 s2 e2=>fin H1 a H2 gr L (s.trans s2) (by rw [e];exact e2))⟩
theorem Grown.tfL {Pl:Addr}{H H':Hp}{q:Str}(g:Grown Pl H H')(L:LamsAt H Pl q):TF H H':=by
 obtain ⟨ts,e,_⟩:=L
 exact g.tf e
end L2
set_option maxHeartbeats 4000000
namespace K32
open PySem L2
abbrev qL:Str:=(("law":Str)++".<locals>.")++"<lambda>"
theorem XB (v:V):(!decide (v=v))=false:=by simp
structure DuOk (xs:List Str)(qs:List (Str×V)):Prop where
 nm:qs.map (·.1)=xs.take qs.length
 nv:∀ p∈qs,YJ p.2
abbrev YV (qs:List (Str×V)):Hs:={ hs0 with dfs:=Yz qs }
theorem DuOk.mem {xs:List Str}{qs:List (Str×V)}(O:DuOk xs qs){p:Str×V}(h:p∈qs):p.1∈xs:=by
 have:p.1∈qs.map (·.1):=List.mem_map.mpr ⟨p,h,rfl⟩
 rw [O.nm] at this
 exact List.mem_of_mem_take this
theorem DuOk.new {xs:List Str}{qs:List (Str×V)}{x:Str}(O:DuOk xs qs)(nd:xs.Nodup)(h:xs[qs.length]?=some x):x ∉ qs.map (·.1):=fun m=>by
 rw [O.nm] at m
 obtain ⟨i,hi,e⟩:=List.mem_take_iff_getElem.mp m
 obtain ⟨h1,h2⟩:=List.getElem?_eq_some_iff.mp h
 have hi2:i < xs.length:=by omega
 have:=(List.pairwise_iff_getElem.mp nd) i qs.length hi2 h1 (by omega)
 exact this (e.trans h2.symm)
theorem DuOk.app {xs:List Str}{qs:List (Str×V)}{x:Str}{v:V}(O:DuOk xs qs)(h:xs[qs.length]?=some x)(hv:YJ v):DuOk xs (qs++[(x,v)]):=by
 refine ⟨?_,fun p hp=>?_⟩
 · rw [List.map_append,List.length_append,O.nm,List.length_singleton,List.take_succ,h];rfl
 · rcases List.mem_append.mp hp with z | z
   · exact O.nv p z
   · rw [List.mem_singleton.mp z];exact hv
theorem DuOk.nd {xs:List Str}{qs:List (Str×V)}(O:DuOk xs qs)(nd:xs.Nodup):(qs.map (·.1)).Nodup:=by
 rw [O.nm];exact nd.sublist (List.take_sublist _ _)
theorem hi0 {xs:List Str}{qs:List (Str×V)}(N:Ua xs):HI xs (YV qs):=⟨N,Zjm,fun p hp=>by rw [List.mem_singleton.mp hp];exact Nat.zero_le _⟩
def YA (qs:List (Str×V))(x:Str):List V:=match ZE (Yz qs) (Sum.inr x) with
 | none=>[.str "refused",.str "setting",.str x]
 | some .non=>[.str "refused",.str "missing",.str x]
 | some d=>[.str "told",d]
section
variable {P:Program}{w:World}{K:PySem.W.Frag}{mg:Str→Option Value}{base:Heap}{CH CR CS CT CRo CK CN CM:Addr}{cs:List Addr}
def Zaz (K:PySem.W.Frag)(Pl:Addr):Sp:=fun vs H Q _=>∃(a:Addr)(ns:List Int),vs=[.ref a]∧SqL K H a (ns.map V.int)∧ns.length≤63∧LamsAt H Pl qL∧∀ H',Q (.bl true) H'
abbrev nLaw:List Str:=["_law_script","_law_k","_law_box_here","_law_names_here","_law_hall","_law_due","_law_turn","_law_again","_law_name","_law_default","_law_told_here","_law_found"]
abbrev ZfH:List Str:=["_law_script"]
theorem scLaw:Zs nLaw ZfH (Zk s_law):=⟨rfl,rfl,rfl,by decide +kernel,rfl,by decide +kernel,by decide +kernel⟩
theorem Zhx {f c Pl:Addr}{fd:FuncData}(F:FunC K "law" "law" s_law f fd c Pl)(hBm:XY base mg)(T:Yf mg)(TH:Xg K CH)(DT:DTk P w K mg base 1)(DB:Def P w K mg base 17 "_law_box" ["_law_script","_law_k"] (Zbe K))(DN:Def P w K mg base 17 "_law_names" Zez Zbs)(DV:Def P w K mg base 17 "_law_value" ["_law_box_here"] UN)(DHl:VE P w K mg base 16 CH "Hall" ["self"] (Zck K CH CR CS CT))
   (DH_settings:DefM P w K mg base 17 CH "settings" Zct (ZfU K CH CR CS CT))
   (DH_declare:DefMX P w K mg base 14 CH "declare" ZaA (ZcI K CH CR CS CT CK)) (DH_look:DefMX P w K mg base 14 CH "look" ZaC (Zcv K CH CR CS CT CN CM)) (DH_look_in:DefMX P w K mg base 14 CH "look_in" Vf (Zau K CH CR CS CT CN CM)) (rK:RK K CRo cs CK "known") (rN:RK K CRo cs CN "setting") (rM:RK K CRo cs CM "missing")
   (DTo:Def P w K mg base 17 "_law_told" ["_law_ask"] (Vn P w K mg base 15 (RK K CRo cs))):FnOk P w K mg base ZG 18 f fd ZfH (Zaz K Pl):=by
 refine F.ok scLaw (fun vs H Q E h=>?_) (fun A outer s H vs Q E hr h=>?_)
 · obtain ⟨a,ns,rfl,_⟩:=h;rfl
 obtain ⟨a,ns,rfl,hS,hl,hL,q⟩:=h
 have hr1:=hr.mono (show 1≤17 by decide)
 refine' ⟨?t,?h,?r⟩
 case h =>
   conv=>arg 2;whnf
   with_reducible refine' (Zh (Wh ?h1 ?h2 ?h3 ?h4 (Zh ?h5 (Zh ?h6 (Zh ?h7 (Zh (Wh ?h8 ?h9 ?h10 ?h11 (YU ?h12 (YU ?h13 (YU ?h14 (YU ?h15 (YU (Yg ?h16 (Zj ?h17) ZJ) (Zh ?h18 (Zh ?h19 (Zh (Yg ?h20 (Zj ?h21) ZJ) (Zh ?h22 (Zj ?h23)))))))))) ?h24) (Zh (Wh ?h25 ?h26 ?h27 ?h28 (YU ?h29 (YU ?h30 (YU (Yg ?h31 (Zj ?h32) ZJ) (Zj (Yg ?h33 (Zj ?h34) ZJ))))) ?h35) (Zj (Yg ?h36 (Zj ?h37) ZJ))))))) ?h38) (Zj ?h39))
   case h1=>exact PassesOwn.never
   case h2=>exact rfl
   case h3=>exact YT rfl T.range (Zd (Zr Yn Ze (Zn (Zev rfl) rfl T.min (by decide +kernel) (Zd Ze (Zd (Zn Ye rfl T.len PySem.boot_len (Zd (pv 0) Za)) Za)))) Za)
   case h4=>exact ZL (i:=1) scLaw.nd rfl (Or.inl rfl)
   case h5=>exact Zw (i:=2) scLaw.nd rfl (Or.inl rfl) (ZV DB hr (Zd (pv 0) (Zd (pv 1) Za)))
   case h6=>exact Zw (i:=3) scLaw.nd rfl (Or.inl rfl) (ZV DN hr (Zd (pv 2) (Zd Ze Za)))
   case h7=>exact Wq (ZX (Zd (Zat DHl hr) (Zd (ZF Za) Za))) (Wl rfl (ZW (ZL (i:=4) scLaw.nd rfl (Or.inr rfl)) (ZW (ZL (i:=5) scLaw.nd rfl (Or.inl rfl)) Xz)))
   case h8=>exact PassesOwn.never
   case h9=>exact rfl
   case h10=>exact YT rfl T.range (Zd (Ym (ZM Xx (ZV DT hr1 (Zd (pv 2) (Zd Ze Za))) Ze (ZN _)) Ze (Zr Yn Ze (ZV DT hr1 (Zd (pv 2) (Zd Ze Za))))) Za)
   case h11=>exact ZL (i:=6) scLaw.nd rfl (Or.inl rfl)
   case h12=>exact Zw (i:=7) scLaw.nd rfl (Or.inl rfl) (ZiI (VA (ZgQ (K:=K) rfl hr.units) (pv 5) (ZF Za) (ZN _)) (Ziu (VA Xx (ZV DT hr1 (Zd (pv 2) (Zd Ze Za))) Ze (ZN _))))
   case h13=>exact Zw (i:=8) scLaw.nd rfl (Or.inr rfl) (Ym (ZaO (pv 7)) (ZB Wg (ZB ZA (pv 5) (ZV DT hr1 (Zd (pv 2) (Zd (Zn Ye rfl T.len PySem.boot_len (Zd (pv 5) Za)) Za))) (fun _ _=>rfl)) Ze (fun _ _=>rfl)) (ZB ZA (pv 3) (Zn Ye rfl T.len PySem.boot_len (Zd (pv 5) Za)) (fun _ _=>rfl)))
   case h14=>exact Zw (i:=9) scLaw.nd rfl (Or.inr rfl) (Ym (ZM Xx (ZV DT hr1 (Zd (pv 2) (Zd Ze Za))) Ze (ZN _)) YX (ZV DV hr (Zd (pv 2) Za)))
   case h15=>exact Zw (i:=10) scLaw.nd rfl (Or.inl rfl) (Ym (ZaO (pv 7)) (ZX (Zd Zz (Zd Zz (Zd (pv 8) Za)))) (ZX (Zd Zz (Zd YX Za))))
   case h16=>exact ZM Ug (Zn (Ya hr.gd hr.units) rfl T.repr (by decide +kernel) (Zd (Vv (c:=c) (Pl:=Pl) DTo hr (LamOk.of s_law rfl rfl (by decide +kernel)) rfl F.hd hBm (fun _ _ _ _ _ _ _ _ _ hrL W=>(Vp W DH_declare TH.cl hrL (pv 4) (Zd (pv 8) (Zd (pv 9) Za))))) Za)) (Zn (Ya hr.gd hr.units) rfl T.repr (by decide +kernel) (Zd (pv 10) Za)) (ZN _)
   case h17=>exact Zv Xm
   case h18=>exact Zw (i:=5) scLaw.nd rfl (Or.inl rfl) (Zr Wm (pv 5) (Zr Zif (ZF (Zd (ZX (Zd (pv 8) (Zd (pv 9) Za))) Za)) (XV VS rfl T.int (by decide +kernel) (Zd (ZhO (pv 7)) Za))))
   case h19=>exact Zw (i:=11) scLaw.nd rfl (Or.inl rfl) (ZaH DH_settings TH.cl hr (pv 4))
   case h20=>exact ZM Ug (Zn (Ya hr.gd hr.units) rfl T.repr (by decide +kernel) (Zd (pv 11) Za)) (Zn (Ya hr.gd hr.units) rfl T.repr (by decide +kernel) (Zd (pv 5) Za)) (ZN _)
   case h21=>exact Zv Xm
   case h22=>exact YG (Wy PySem.F.plainAttrs_list PySem.F.slot_list_append PySem.F.type_list_append XX (pv 11) (Zd (ZX (Zd Zz (Zd Ze Za))) Za))
   case h23=>exact YG (ZdP PySem.F.plainAttrs_list PySem.F.slot_list_reverse PySem.F.type_list_reverse Zda (pv 11))
   case h24=>exact fun _=>rfl
   case h25=>exact PassesOwn.never
   case h26=>exact rfl
   case h27=>exact ZgU (Zr Wm (pv 5) (ZF (Zd (ZX (Zd (ZB ZA (pv 3) Ze (fun _ _=>rfl)) (Zd YX Za))) Za)))
   case h28=>exact Wl rfl (ZW (ZL (i:=8) scLaw.nd rfl (Or.inr rfl)) (ZW (ZL (i:=9) scLaw.nd rfl (Or.inr rfl)) Xz))
   case h29=>exact Zw (i:=10) scLaw.nd rfl (Or.inl rfl) (Ym (XL (Vo (pv 9))) (ZX (Zd Zz (Zd Zz (Zd (pv 8) Za)))) (ZX (Zd Zz (Zd (pv 9) Za))))
   case h30=>exact Zw (i:=10) scLaw.nd rfl (Or.inl rfl) (Ym (ZM Xx (pv 8) (ZB ZA (pv 3) Ze (fun _ _=>rfl)) (ZN _)) (ZX (Zd Zz (Zd Zz (Zd (pv 8) Za)))) (pv 10))
   case h31=>exact ZM Ug (Zn (Ya hr.gd hr.units) rfl T.repr (by decide +kernel) (Zd (Vv (c:=c) (Pl:=Pl) DTo hr (LamOk.of s_law rfl rfl (by decide +kernel)) rfl F.hd hBm (fun _ _ _ _ _ _ _ _ _ hrL W=>(Vp W DH_look TH.cl hrL (pv 4) (Zd (pv 8) Za)))) Za)) (Zn (Ya hr.gd hr.units) rfl T.repr (by decide +kernel) (Zd (pv 10) Za)) (ZN _)
   case h32=>exact Zv Xm
   case h33=>exact ZM Ug (Zn (Ya hr.gd hr.units) rfl T.repr (by decide +kernel) (Zd (Vv (c:=c) (Pl:=Pl) DTo hr (LamOk.of s_law rfl rfl (by decide +kernel)) rfl F.hd hBm (fun _ _ _ _ _ _ _ _ _ hrL W=>(Vp W DH_look_in TH.cl hrL (pv 4) (Zd Ze (Zd (pv 8) Za))))) Za)) (Zn (Ya hr.gd hr.units) rfl T.repr (by decide +kernel) (Zd (pv 10) Za)) (ZN _)
   case h34=>exact Zv Xm
   case h35=>exact fun _=>rfl
   case h36=>exact ZM Ug (Zn (Ya hr.gd hr.units) rfl T.repr (by decide +kernel) (Zd (ZaH DH_settings TH.cl hr (pv 4)) Za)) (Zn (Ya hr.gd hr.units) rfl T.repr (by decide +kernel) (Zd (pv 5) Za)) (ZN _)
   case h37=>exact Zv Xm
   case h38=>exact fun _=>rfl
   case h39=>exact Zv Xm
 have S:=ZcS hS hL
 clear hL
 refine ⟨_,rfl,a,_,rfl,.inl hS,_,_,rfl,_,_,rfl,rfl,?_⟩
 rw [List.length_map]
 generalize hm:(1:Int)+(if ((ns.length:Nat):Int) < 2 then ((ns.length:Nat):Int) else 2)=m
 have hm9:0≤m∧m≤9:=by rw [← hm];split<;>omega
 refine ⟨m,congrArg (fun z=>[V.int z]) hm,by omega,by omega,?_⟩
 refine XT (fun i σ H'=>∃ x1 x2 x3 x4 x5 x6 x7 x8 x9 x10 x11,σ=[some (.ref a),x1,x2,x3,x4,x5,x6,x7,x8,x9,x10,x11]∧Sep [(Pl,Xb qL),(a,Xp K ns)] H') ⟨_,_,_,_,_,_,_,_,_,_,_,rfl,S⟩ ?_ (fun σ H' _=>q H')
 rintro i0 σ H0 hi0' ⟨x1,x2,x3,x4,x5,x6,x7,x8,x9,x10,x11,rfl,S0⟩
 refine ⟨_,rfl,_,rfl,a,ns,_,_,rfl,S0.get a,S0,by omega,by omega,fun p H1 s1 S1=>?_⟩
 refine ⟨_,rfl,p,_,61,_,rfl,S1,by omega,by decide,by decide,fun nl H2 xs S2 hxl hxn hxd=>?_⟩
 have hxl:xs.length=61:=hxl
 have N:Ua xs:=ZiT (by omega) hxn
 intro h dx hh hdx hne
 refine ⟨h,dx,_,_,rfl,rfl,hh,hdx,hne,S2,fun H3 S3=>⟨rfl,(by show 0≤sizeLine;decide),fun dl hdl=>⟨(by show 2≤sizeLine;decide),fun t0 ht0=>?_⟩⟩⟩
 generalize hE:upd (upd H3 dl _) t0 _=H4
 have S4:=((S3.new hdl _).newE ht0 hE)
 clear hE
 refine ⟨t0,_,rfl,SqT.of (S4.get t0),rfl,_,_,rfl,_,_,rfl,rfl,?_⟩
 have S5:=((S4.drop t0).say dl (PLs []) fun hp z=>⟨[],z,rfl,fun i a q e=>by simp at e⟩)
 have S6:Sep [(p,Bx (0+20)),(h,YF K CH CR CS CT (YV ([]))),(dl,PLs ([])),(Pl,Xb qL),(nl,ZK (xs.map V.str)),(a,Xp K ns)] H4:=((((S5.pull nl).pull Pl).pull dl).pull h).pull p
 clear S5 S4
 refine ⟨_,rfl,p,_,2,_,rfl,S6,by omega,by decide,by decide,fun r1 H5 a0 a1 S7=>⟨rfl,_,rfl,Xa (fun c=>?b1) (fun c=>?b2)⟩⟩
 case' b1 =>
   obtain ⟨m,em,hm0,hm1⟩:∃ m:Int,m=60∧0≤m∧m≤60:=⟨60,rfl,by decide,by decide⟩
   obtain ⟨n5,hn5,S8⟩:∃ n5,n5≤30∧Sep [(p,Bx n5),(h,YF K CH CR CS CT (YV ([]))),(dl,PLs ([])),(Pl,Xb qL),(nl,ZK (xs.map V.str)),(a,Xp K ns)] H5:=⟨_,by decide,S7⟩
   refine ⟨m,by rw [em],by omega,by omega,?_⟩
 case' b2 =>
   refine ⟨_,rfl,p,_,60,_,rfl,S7,by omega,by decide,by decide,fun r2 H6 d0 d1 S8'=>⟨_,_,rfl,rfl,?_⟩⟩
   obtain ⟨m,em,hm0,hm1⟩:∃ m:Int,m=1+r2∧0≤m∧m≤60:=⟨_,rfl,by omega,by omega⟩
   obtain ⟨n5,hn5,S8⟩:∃ n5,n5≤30∧Sep [(p,Bx n5),(h,YF K CH CR CS CT (YV ([]))),(dl,PLs ([])),(Pl,Xb qL),(nl,ZK (xs.map V.str)),(a,Xp K ns)] H6:=⟨_,by decide,S8'⟩
   refine ⟨m,by rw [em],by omega,by omega,?_⟩
 all_goals
   refine XT (fun i σ H'=>∃ x6 x7 x8 x9 x10 x11 dl qs n,σ=[some (.ref a),some (.int (0+(i0:Int))),some (.ref p),some (.ref nl),some (.ref h),some (.ref dl),x6,x7,x8,x9,x10,x11]∧Sep [(p,Bx n),(h,YF K CH CR CS CT (YV (qs))),(dl,PLs (qs)),(Pl,Xb qL),(nl,ZK (xs.map V.str)),(a,Xp K ns)] H'∧DuOk xs qs∧qs.length≤i∧n≤100+80 * i)
     ⟨_,_,_,_,_,_,dl,[],_,rfl,S8,⟨rfl,fun _ h=>nomatch h⟩,Nat.zero_le _,by omega⟩ ?_ ?_
   · rintro i σ H10 hi ⟨x6,x7,x8,x9,x10,x11,dl,qs,n,rfl,S10,O,hql,hn⟩
     have hq60:qs.length < 60:=by omega
     refine ⟨fun σ' H'=>∃ ag n',σ'=[some (.ref a),some (.int (0+(i0:Int))),some (.ref p),some (.ref nl),some (.ref h),some (.ref dl),some (.int (0+(i:Int))),some (.bl ag),x8,x9,x10,x11]∧Sep [(p,Bx n'),(h,YF K CH CR CS CT (YV (qs))),(dl,PLs (qs)),(Pl,Xb qL),(nl,ZK (xs.map V.str)),(a,Xp K ns)] H'∧(ag=true→qs≠[])∧n'≤n+1,?_,?_⟩
     · obtain ⟨ts,e1,e2⟩:=S10.get dl
       refine ⟨_,rfl,(by show 0≤sizeLine;decide),fun el hel=>?_⟩
       have w1:=Zf hel (.lst [])
       obtain ⟨z1,z2⟩:=Vk (ps:=qs) fun p hp=>⟨hxn _ (O.mem hp),O.nv p hp⟩
       refine ⟨dl,el,_,_,rfl,rfl,w1 _ _ e1,Us (e2.tf w1.tf) O.nv,z1,z2,Zc,_,rfl,Xa (fun c=>?_) (fun c=>?_)⟩
       · have hq:qs≠[]:=fun z=>by
           have:ts=[]:=List.length_eq_zero_iff.mp (by rw [e2.1,z];rfl)
           rw [this] at c;cases c
         refine ⟨_,rfl,p,_,4,_,rfl,S10.mono w1,by omega,by decide,by decide,fun r3 H11 c0 c1 S11=>⟨rfl,?_⟩⟩
         exact ⟨_,_,rfl,S11,fun _=>hq,by omega⟩
       · exact ⟨_,_,rfl,S10.mono w1,(fun z=>by cases z),by omega⟩
     rintro σ1 H11 ⟨ag,n1,rfl,S11,hag,hn1⟩
     refine ⟨fun σ' H'=>∃ x n',σ'=[some (.ref a),some (.int (0+(i0:Int))),some (.ref p),some (.ref nl),some (.ref h),some (.ref dl),some (.int (0+(i:Int))),some (.bl ag),some (.str x),x9,x10,x11]∧Sep [(p,Bx n'),(h,YF K CH CR CS CT (YV (qs))),(dl,PLs (qs)),(Pl,Xb qL),(nl,ZK (xs.map V.str)),(a,Xp K ns)] H'∧(ag=true→x∈qs.map (·.1))∧(ag=false→xs[qs.length]?=some x)∧x∈xs∧n'≤n1+1,?_,?_⟩
     · refine ⟨_,rfl,_,rfl,Xa (fun c=>?_) (fun c=>?_)⟩
       · have hqp:0 < qs.length:=List.length_pos_iff.mpr (hag c)
         obtain ⟨ts,e1,e2,_⟩:=(S11.get dl).at
         refine ⟨_,rfl,_,rfl,_,rfl,dl,_,rfl,.inl (SqL.of e1),p,_,_,_,rfl,S11,by omega,by rw [List.length_map];omega,by rw [List.length_map];omega,fun r3 H12 c0 c1 S12=>?_⟩
         rw [List.length_map,e2] at c1
         obtain ⟨kk,rfl⟩:∃ z:Nat,r3=(z:Int):=⟨r3.toNat,by omega⟩
         obtain ⟨ts2,f1,f2,f3⟩:=(S12.get dl).at
         obtain ⟨tt,pp,g1,g2,g3⟩:=f3 kk (by omega)
         refine ⟨dl,_,_,_,rfl,rfl,SqL.of f1,ZS g1,tt,_,_,_,rfl,rfl,SqT.of g3,ZS (j:=0) rfl,pp.1,_,rfl,S12,fun _=>List.mem_map.mpr ⟨pp,List.mem_of_getElem? g2,rfl⟩,(fun z=>by rw [c] at z;cases z),O.mem (List.mem_of_getElem? g2),by omega⟩
       · obtain ⟨ts,e1,e2,_⟩:=(S11.get dl).at
         obtain ⟨x,hx⟩:∃ x,xs[qs.length]?=some x:=⟨_,List.getElem?_eq_getElem (by omega)⟩
         refine ⟨_,rfl,_,rfl,dl,_,rfl,.inl (SqL.of e1),nl,_,_,_,rfl,rfl,SqL.of (S11.get nl),ZS (by rw [List.length_map,e2,List.getElem?_map,hx];rfl),x,_,rfl,S11,fun z=>absurd z c,fun _=>hx,List.mem_of_getElem? hx,by omega⟩
     rintro σ2 H12 ⟨x,n2,rfl,S12,hx1,hx2,hxm,hn2⟩
     have hxN:YJ (.str x):=by
       obtain ⟨u1,u2,u3⟩:=hxn x hxm
       refine .inr ⟨by omega,List.all_eq_true.mpr fun c hc=>?_⟩
       have:=List.all_eq_true.mp u3 c hc
       unfold WA at this;unfold WK
       simp only [Bool.and_eq_true,decide_eq_true_eq] at this ⊢
       omega
     refine ⟨fun σ' H'=>∃ v n',σ'=[some (.ref a),some (.int (0+(i0:Int))),some (.ref p),some (.ref nl),some (.ref h),some (.ref dl),some (.int (0+(i:Int))),some (.bl ag),some (.str x),some v,x10,x11]∧Sep [(p,Bx n'),(h,YF K CH CR CS CT (YV (qs))),(dl,PLs (qs)),(Pl,Xb qL),(nl,ZK (xs.map V.str)),(a,Xp K ns)] H'∧YJ v∧n'≤n2+60,?_,?_⟩
     · refine ⟨_,rfl,p,_,3,_,rfl,S12,by omega,by decide,by decide,fun r3 H13 c0 c1 S13=>⟨rfl,_,rfl,Xa (fun c=>?_) (fun c=>?_)⟩⟩
       · exact ⟨_,_,rfl,S13,.inl rfl,by omega⟩
       · exact ⟨_,rfl,p,_,_,rfl,S13,by omega,fun v H14 hv S14=>⟨v,_,rfl,S14,.inr hv,by omega⟩⟩
     rintro σ3 H13 ⟨v,n3,rfl,S13,hv,hn3⟩
     refine ⟨fun σ' H'=>∃ t2,σ'=[some (.ref a),some (.int (0+(i0:Int))),some (.ref p),some (.ref nl),some (.ref h),some (.ref dl),some (.int (0+(i:Int))),some (.bl ag),some (.str x),some v,some (.ref t2),x11]∧Sep [(p,Bx n3),(h,YF K CH CR CS CT (YV (qs))),(dl,PLs (qs)),(Pl,Xb qL),(nl,ZK (xs.map V.str)),(a,Xp K ns)] H'∧H' t2=some (.tup (if ag=true then [.str "refused",.str "known",.str x] else [.str "told",.non])),?_,?_⟩
     · refine ⟨_,rfl,_,rfl,Xa (fun c=>?_) (fun c=>?_)⟩
       · refine ⟨_,rfl,(by show 3≤sizeLine;decide),fun t2 ht2=>⟨t2,rfl,S13.mono (Zf ht2 _),by rw [if_pos c];exact Zc⟩⟩
       · refine ⟨(by show 2≤sizeLine;decide),fun t2 ht2=>⟨t2,rfl,S13.mono (Zf ht2 _),by rw [if_neg c];exact Zc⟩⟩
     rintro σ4 H14 ⟨t2,rfl,S14,e14⟩
     refine ⟨fun σ' H'=>∃ qs',σ'=[some (.ref a),some (.int (0+(i0:Int))),some (.ref p),some (.ref nl),some (.ref h),some (.ref dl),some (.int (0+(i:Int))),some (.bl ag),some (.str x),some v,some (.ref t2),x11]∧Sep [(p,Bx n3),(h,YF K CH CR CS CT (YV (qs'))),(dl,PLs (qs)),(Pl,Xb qL),(nl,ZK (xs.map V.str)),(a,Xp K ns)] H'∧qs'=(if ag=true then qs else qs++[(x,v)]),?_,?_⟩
     · have n14:t2≠Pl:=fun z=>by obtain ⟨ts,z1,_⟩:=S14.get Pl;rw [← z,e14] at z1;cases z1
       refine ⟨S14.get Pl,fun H15 Qc Ec gr L1 hq he=>?_⟩
       have S15':=(S14.pull Pl).grow gr L1
       have e15:=gr _ _ n14 e14
       have S15:=S15'.imm e15 rfl
       obtain ⟨d,r,sp,il,tk,Sh⟩:=(S15.get h)
       obtain ⟨dx4,ob4⟩:=Sh.get h
       refine ⟨_,rfl,h,dx4,_,rfl,ob4,YH (by decide +kernel),_,rfl,_,rfl,h,YV qs,qs,x,v,_,rfl,S15.pull h,rfl,by omega,fun hm dx H16 s16 ed=>?_,fun hm H16 S16=>?_⟩
       · have hg:ag=true:=by
           cases ag with
           | true=>rfl
           | false=>exact absurd hm (O.new hxd (hx2 rfl))
         refine he CK dx "known" _ H16 rK ed fun t1 H17 s17 e17=>?_
         have e17b:=s17 _ _ (s16 _ _ e15)
         rw [if_pos hg] at e17b
         have hvs:∀ u∈([.str "refused",.str "known",.str x]:List V),YJ u:=fun u hu=>by
           rcases List.mem_cons.mp hu with rfl | hu
           · exact XM (by decide +kernel)
           rcases List.mem_cons.mp hu with rfl | hu
           · exact XM (by decide +kernel)
           · rw [List.mem_singleton.mp hu];exact hxN
         obtain ⟨u1,u2,u3,u4⟩:=Yq e17 hvs (show 3≤1000 by decide)
         obtain ⟨v1,v2,v3,v4⟩:=Yq e17b hvs (show 3≤1000 by decide)
         refine ⟨_,_,rfl,u1,u2,u3,u4,_,rfl,_,_,rfl,v1,v2,v3,v4,rfl,_,rfl,?_⟩
         rw [XB]
         exact Yo ⟨qs,rfl,((((((S15'.mono (s16.trans s17)).pull nl).pull Pl).pull dl).pull h).pull p),by rw [if_pos hg]⟩
       · have hg:ag=false:=by
           cases ag with
           | false=>rfl
           | true=>exact absurd (hx1 rfl) hm
         refine hq _ H16 fun t1 H17 s17 e17=>?_
         have S17:=S16.mono s17
         have e17b:=S17.get t2
         have hvs:∀ u∈([.str "told",.non]:List V),YJ u:=fun u hu=>by
           rcases List.mem_cons.mp hu with rfl | hu
           · exact XM (by decide +kernel)
           · rw [List.mem_singleton.mp hu];exact .inl rfl
         rw [if_neg (by rw [hg];decide)] at e17b
         obtain ⟨u1,u2,u3,u4⟩:=Yq e17 hvs (show 2≤1000 by decide)
         obtain ⟨v1,v2,v3,v4⟩:=Yq e17b hvs (show 2≤1000 by decide)
         refine ⟨_,_,rfl,u1,u2,u3,u4,_,rfl,_,_,rfl,v1,v2,v3,v4,rfl,_,rfl,?_⟩
         rw [XB]
         exact Yo ⟨qs++[(x,v)],rfl,(((((S17.drop t2).pull nl).pull Pl).pull dl).pull h).pull p,by rw [if_neg (by rw [hg];decide)]⟩
     rintro σ5 H15 ⟨qs',rfl,S15,hqs'⟩
     have O':DuOk xs qs':=by
       rw [hqs']
       split
       · exact O
       · rename_i c;exact O.app (hx2 (by cases ag with | true=>exact absurd rfl c | false=>rfl)) hv
     have hql':qs'.length≤i+1:=by
       rw [hqs']
       split
       · omega
       · rw [List.length_append,List.length_singleton];omega
     have hnn:∀ p∈qs',Xo p.1:=fun p hp=>hxn _ (O'.mem hp)
     obtain ⟨ts,e1,e2⟩:=S15.get dl
     refine ⟨_,rfl,_,rfl,_,rfl,(by show 2≤sizeLine;decide),fun tn htn=>⟨(by show 1≤sizeLine;decide),fun lx hlx=>⟨_,rfl,_,rfl,.inr ⟨_,rfl,?_⟩⟩⟩⟩
     generalize hE:upd (upd H15 tn _) lx _=H16
     have w16:Same H15 H16:=by rw [← hE];exact (Zf htn _).trans (Zf hlx _)
     have etn:H16 tn=some (.tup [.str x,v]):=by rw [← hE];exact Zf hlx _ _ _ Zc
     have elx:H16 lx=some (.lst [.ref tn]):=by rw [← hE];exact Zc
     clear hE
     have hrep:(List.replicate (if (!ag)=true then (1:Int) else 0).toNat [V.ref tn]).flatten=(if ag=true then [] else [tn]).map V.ref:=by cases ag<;>rfl
     refine ⟨lx,_,_,rfl,rfl,elx,(by cases ag<;>decide),(by cases ag<;>decide),(by show 1 * _≤sizeLine;cases ag<;>decide),fun ly hly=>⟨dl,ly,_,_,rfl,rfl,Zf hly _ _ _ (w16 _ _ e1),Zc,YO (show _≤1000 by rw [hrep,List.length_map,List.length_map,e2.1];cases ag<;>simp<;>omega),fun dl' hdl'=>?_⟩⟩
     rw [hrep] at hdl'
     rw [hrep,← List.map_append]
     generalize hE:upd (upd H16 ly _) dl' _=H17
     have w17:Same H16 H17:=by rw [← hE];exact (Zf hly _).trans (Zf hdl' _)
     have S17':=(S15.mono (w16.trans (Zf hly (.lst (List.map V.ref (if ag=true then [] else [tn])))))).newE hdl' hE
     clear hE
     have hpt:PairT H17 (ts++(if ag=true then [] else [tn])) qs':=by
       rw [hqs']
       have b1:=e2.tf (w16.trans w17).tf
       cases ag with
       | true=>rw [if_pos rfl,if_pos rfl,List.append_nil];exact b1
       | false =>
         rw [if_neg (by decide),if_neg (by decide)]
         refine b1.app ⟨rfl,fun j aa pp f1 f2=>?_⟩
         cases j with
         | zero=>cases (show some tn=some aa from f1);cases (show some (x,v)=some pp from f2);exact w17 _ _ etn
         | succ j=>simp at f1
     have S17:=((((((S17'.pls hpt).drop dl).pull nl).pull Pl).pull dl').pull h).pull p
     obtain ⟨d,r,sp,il,tk,Sh⟩:=(S17.get h)
     obtain ⟨dx4,ob4⟩:=Sh.get h
     refine ⟨_,rfl,h,dx4,_,rfl,ob4,YH (by decide +kernel),h,YV qs',qs',_,rfl,S17.pull h,rfl,fun fl H18 S18=>?_⟩
     obtain ⟨u1,u2,u3,u4⟩:=Xl (S18.get fl) hnn O'.nv (by omega)
     obtain ⟨v1,v2,v3,v4⟩:=Xl (S18.get dl') hnn O'.nv (by omega)
     refine ⟨_,rfl,_,_,rfl,u1,u2,u3,u4,_,rfl,_,_,rfl,v1,v2,v3,v4,rfl,_,rfl,?_⟩
     rw [XB]
     refine Yo ?_
     clear u1 v1
     obtain ⟨hh,l1,⟨ts',e',pt'⟩,S''⟩:=S18
     have S19:L2.Sep ((fl,ZK (ts'.map V.ref))::_) H18:=⟨hh,l1,e',S''⟩
     clear S''
     refine ⟨_,rfl,.inl ⟨rfl,_,SqL.of (S19.get fl)⟩,(by show 2≤sizeLine;decide),fun tz htz=>?_⟩
     have S20:=S19.mono (Zf htz (.tup [.str "z",.int 1]))
     refine ⟨fl,_,_,rfl,rfl,S20.get fl,Zbt (show _≤1000 by rw [List.length_map,pt'.1];omega),?_⟩
     generalize hE:upd (upd H18 tz _) fl _=H19
     have S21:=S20.putE hE
     clear hE
     refine ⟨_,rfl,.inl ⟨rfl,_,SqL.of (S21.get fl)⟩,fl,_,rfl,rfl,S21.get fl,?_⟩
     generalize hE:upd H19 fl _=H20
     have S22:=S21.putE hE
     clear hE
     exact ⟨_,_,_,_,_,_,dl',qs',_,rfl,(((((S22.tail).pull nl).pull Pl).pull dl').pull h).pull p,O',hql',by omega⟩
   · rintro σ H10 ⟨x6,x7,x8,x9,x10,x11,dl,qs,n,rfl,S10,O,hql,hn⟩
     have hq60:qs.length≤60:=by omega
     obtain ⟨x60,hx60⟩:∃ x,xs[60]?=some x:=⟨_,List.getElem?_eq_getElem (by omega)⟩
     have hnew:x60 ∉ qs.map (·.1):=fun m=>by
       rw [O.nm] at m
       obtain ⟨j,hj,e⟩:=List.mem_take_iff_getElem.mp m
       obtain ⟨h1,h2⟩:=List.getElem?_eq_some_iff.mp hx60
       exact (List.pairwise_iff_getElem.mp hxd) j 60 (by omega) h1 (by omega) (e.trans h2.symm)
     obtain ⟨ts,e1,e2⟩:=S10.get dl
     refine ⟨_,rfl,_,rfl,nl,_,_,_,rfl,rfl,SqL.of (S10.get nl),ZS (j:=60) (by rw [List.getElem?_map,hx60];rfl),(by show 2≤sizeLine;decide),fun tn htn=>⟨(by show 1≤sizeLine;decide),fun lx hlx=>⟨dl,lx,_,_,rfl,rfl,Zf hlx _ _ _ (Zf htn _ _ _ e1),Zc,YO (show _≤1000 by rw [List.length_map,e2.1];simp;omega),fun ll hll=>⟨ll,rfl,⟨_,SqL.of Zc⟩,?_⟩⟩⟩⟩
     obtain ⟨tsA,htsA⟩:∃ tsA,tsA=ts++[tn]:=⟨_,rfl⟩
     generalize hE:upd (upd (upd H10 tn _) lx _) ll _=H11
     have w11:Same H10 H11:=by rw [← hE];exact ((Zf htn _).trans (Zf hlx _)).trans (Zf hll _)
     have etn:H11 tn=some (.tup [.str x60,.non]):=by rw [← hE];exact Zf hll _ _ _ (Zf hlx _ _ _ Zc)
     have S11':=(S10.mono ((Zf htn (.tup [.str x60,.non])).trans (Zf hlx (.lst [.ref tn])))).newE hll hE
     clear hE
     rw [show ts.map V.ref++[V.ref tn]=tsA.map V.ref by rw [htsA,List.map_append];rfl] at S11'
     have hpt:PairT H11 tsA (qs++[(x60,.non)]):=by
       rw [htsA]
       refine (e2.tf w11.tf).app ⟨rfl,fun j aa pp f1 f2=>?_⟩
       cases j with
       | zero=>cases (show some tn=some aa from f1);cases (show some (x60,V.non)=some pp from f2);exact etn
       | succ j=>simp at f1
     have S11:Sep [(p,Bx n),(h,YF K CH CR CS CT (YV qs)),(dl,PLs qs),(Pl,Xb qL),(nl,ZK (xs.map V.str)),(ll,ZK (tsA.map V.ref)),(a,Xp K ns)] H11:=(((((S11'.pull ll).pull nl).pull Pl).pull dl).pull h).pull p
     refine Zfk (K:=K) (xs:=tsA.map V.ref) (fun j σ H'=>∃ x6 x7 x8 x9 x10 x11,σ=[some (.ref a),some (.int (0+(i0:Int))),some (.ref p),some (.ref nl),some (.ref h),some (.ref dl),x6,x7,x8,x9,x10,x11]∧Sep [(p,Bx n),(h,YF K CH CR CS CT (YV qs)),(dl,PLs qs),(Pl,Xb qL),(nl,ZK (xs.map V.str)),(ll,ZK (tsA.map V.ref)),(a,Xp K ns)] H'∧PairT H' tsA (qs++[(x60,.non)])) ⟨_,_,_,_,_,_,rfl,S11,hpt⟩ ?_ ?_ ?_
     · rintro j σ H' _ ⟨_,_,_,_,_,_,rfl,S',_⟩;exact SqL.of (S'.get ll)
     · rintro j vv σ H12 hvv ⟨x6,x7,x8,x9,x10,x11,rfl,S12,pt⟩
       rw [List.getElem?_map] at hvv
       obtain ⟨t,et,rfl⟩:=Option.map_eq_some_iff.mp hvv
       have hjl:j < (qs++[(x60,V.non)]).length:=by rw [← pt.1];exact (List.getElem?_eq_some_iff.mp et).1
       obtain ⟨⟨x,v⟩,exv⟩:∃ pp,(qs++[(x60,V.non)])[j]?=some pp:=⟨_,List.getElem?_eq_getElem hjl⟩
       have etu:=pt.2 j t (x,v) et exv
       have hmem:(x,v)∈qs∨(x=x60∧v=.non):=by
         rcases List.mem_append.mp (List.mem_of_getElem? exv) with z | z
         · exact .inl z
         · cases (List.mem_singleton.mp z);exact .inr ⟨rfl,rfl⟩
       have hxm:x∈xs:=by
         rcases hmem with z | ⟨rfl,_⟩
         · exact O.mem z
         · exact List.mem_of_getElem? hx60
       have hvN:YJ v:=by
         rcases hmem with z | ⟨_,rfl⟩
         · exact O.nv _ z
         · exact .inl rfl
       have hxN:YJ (.str x):=by
         obtain ⟨u1,u2,u3⟩:=hxn x hxm
         refine .inr ⟨by omega,List.all_eq_true.mpr fun c hc=>?_⟩
         have:=List.all_eq_true.mp u3 c hc
         unfold WA at this;unfold WK
         simp only [Bool.and_eq_true,decide_eq_true_eq] at this ⊢
         omega
       refine ⟨t,_,rfl,SqT.of etu,rfl,_,_,rfl,_,_,rfl,rfl,?_⟩
       refine ⟨fun σ' H'=>∃ t2,σ'=[some (.ref a),some (.int (0+(i0:Int))),some (.ref p),some (.ref nl),some (.ref h),some (.ref dl),x6,x7,some (.str x),some v,some (.ref t2),x11]∧Sep [(p,Bx n),(h,YF K CH CR CS CT (YV qs)),(dl,PLs qs),(Pl,Xb qL),(nl,ZK (xs.map V.str)),(ll,ZK (tsA.map V.ref)),(a,Xp K ns)] H'∧PairT H' tsA (qs++[(x60,.non)])∧H' t2=some (.tup (if v=.non then [.str "refused",.str "missing",.str x] else [.str "told",v])),?_,?_⟩
       · refine ⟨_,rfl,_,rfl,Xa (fun c=>?_) (fun c=>?_)⟩
         · refine ⟨_,rfl,(by show 3≤sizeLine;decide),fun t2 ht2=>⟨t2,rfl,S12.mono (Zf ht2 _),pt.tf (Zf ht2 _).tf,by rw [if_pos (of_decide_eq_true c)];exact Zc⟩⟩
         · refine ⟨_,rfl,(by show 2≤sizeLine;decide),fun t2 ht2=>⟨t2,rfl,S12.mono (Zf ht2 _),pt.tf (Zf ht2 _).tf,by rw [if_neg (fun z=>c (decide_eq_true z))];exact Zc⟩⟩
       clear S12 pt etu
       rintro σ1 H12 ⟨t2,rfl,S12,pt,e12⟩
       refine ⟨fun σ' H'=>∃ t2,σ'=[some (.ref a),some (.int (0+(i0:Int))),some (.ref p),some (.ref nl),some (.ref h),some (.ref dl),x6,x7,some (.str x),some v,some (.ref t2),x11]∧Sep [(p,Bx n),(h,YF K CH CR CS CT (YV qs)),(dl,PLs qs),(Pl,Xb qL),(nl,ZK (xs.map V.str)),(ll,ZK (tsA.map V.ref)),(a,Xp K ns)] H'∧PairT H' tsA (qs++[(x60,.non)])∧H' t2=some (.tup (YA qs x)),?_,?_⟩
       · refine ⟨_,rfl,_,rfl,nl,_,_,_,rfl,rfl,SqL.of (S12.get nl),ZS (j:=60) (by rw [List.getElem?_map,hx60];rfl),rfl,_,rfl,Xa (fun c=>?_) (fun c=>?_)⟩
         · have ex:x=x60:=V.str.inj (of_decide_eq_true c)
           refine ⟨_,rfl,(by show 3≤sizeLine;decide),fun t3 ht3=>⟨t3,rfl,S12.mono (Zf ht3 _),pt.tf (Zf ht3 _).tf,?_⟩⟩
           have:YA qs x=[.str "refused",.str "setting",.str x]:=by unfold YA;rw [ex,Zbo hnew]
           rw [this];exact Zc
         · have hin:(x,v)∈qs:=hmem.resolve_right fun z=>c (decide_eq_true (by rw [z.1]))
           refine ⟨_,rfl,t2,rfl,S12,pt,?_⟩
           have:YA qs x=if v=.non then [.str "refused",.str "missing",.str x] else [.str "told",v]:=by
             unfold YA
             rw [ZaY (O.nd hxd) hin]
             cases v<;>first | rfl | simp
           rw [this];exact e12
       clear S12 pt e12
       rintro σ1 H13 ⟨t2,rfl,S13,pt,e13⟩
       have hvs:∀ u∈YA qs x,YJ u:=fun u hu=>by
         have mem3:∀ wd:Str,YJ (.str wd)→u∈([.str "refused",.str wd,.str x]:List V)→YJ u:=fun wd hw hu=>by
           rcases List.mem_cons.mp hu with rfl | hu
           · exact XM (by decide +kernel)
           rcases List.mem_cons.mp hu with rfl | hu
           · exact hw
           · rw [List.mem_singleton.mp hu];exact hxN
         unfold YA at hu
         split at hu
         · exact mem3 _ (XM (by decide +kernel)) hu
         · exact mem3 _ (XM (by decide +kernel)) hu
         · rename_i d _ hd
           rcases List.mem_cons.mp hu with rfl | hu
           · exact XM (by decide +kernel)
           · rw [List.mem_singleton.mp hu]
             have hq2:∃ q∈qs,q.2=d:=by
               rw [XA] at hd
               obtain ⟨q,hq,rfl⟩:=Option.map_eq_some_iff.mp hd
               exact ⟨q,List.mem_of_find?_eq_some hq,rfl⟩
             obtain ⟨q,hq,rfl⟩:=hq2
             exact O.nv q hq
       have hvl:(YA qs x).length≤1000:=by unfold YA;split<;>first | exact (show 3≤1000 by decide) | exact (show 2≤1000 by decide)
       have n13:t2≠Pl:=fun z=>by obtain ⟨ts,z1,_⟩:=S13.get Pl;rw [← z,e13] at z1;cases z1
       refine ⟨fun σ' H'=>σ'=[some (.ref a),some (.int (0+(i0:Int))),some (.ref p),some (.ref nl),some (.ref h),some (.ref dl),x6,x7,some (.str x),some v,some (.ref t2),x11]∧Sep [(p,Bx n),(h,YF K CH CR CS CT (YV qs)),(dl,PLs qs),(Pl,Xb qL),(nl,ZK (xs.map V.str)),(ll,ZK (tsA.map V.ref)),(a,Xp K ns)] H'∧PairT H' tsA (qs++[(x60,.non)])∧H' t2=some (.tup (YA qs x)),?_,?_⟩
       · dsimp only [Zfb,ZaE,tOp,tCB,YW]
         refine UU (YA qs x) (S13.get Pl) (fun H14 Qc Ec gr L1 hq he=>?_) (fun H14 t1 H15 gr L1 s15 e15=>?_)
         · have S14:=(S13.pull Pl).grow gr L1
           obtain ⟨d,r,sp,il,tk,Sh⟩:=(S14.get h)
           obtain ⟨dx4,ob4⟩:=Sh.get h
           refine ⟨_,rfl,h,dx4,_,rfl,ob4,YH (by decide +kernel),_,rfl,xs,h,YV qs,0,0,x,(fun _=>none),rfl,S14.get h,hi0 N,rfl,rfl,rfl,hxm,fun hd dx H15 s15 ed=>?_,fun d hd=>⟨fun hz dx H15 s15 ed=>?_,fun hz H15 s15=>?_⟩⟩
           · exact he CN dx "setting" _ H15 s15 rN ed (by unfold YA;rw [show ZE (Yz qs) (Sum.inr x)=none from hd])
           · have hz:d=.non:=hz
             exact he CM dx "missing" _ H15 s15 rM ed (by unfold YA;rw [show ZE (Yz qs) (Sum.inr x)=some d from hd,hz])
           · have hz:d≠.non:=hz
             refine hq d H15 s15 ?_
             unfold YA
             rw [show ZE (Yz qs) (Sum.inr x)=some d from hd]
             cases d<;>first | rfl | exact absurd rfl hz
         have S15:=((((((((S13.pull Pl).grow gr L1).mono s15).pull ll).pull nl).pull Pl).pull dl).pull h).pull p
         have e15b:=s15 _ _ (gr _ _ n13 e13)
         have pt15:=(pt.tf (gr.tfL (S13.get Pl))).tf s15.tf
         obtain ⟨u1,u2,u3,u4⟩:=Yq e15 hvs hvl
         obtain ⟨v1,v2,v3,v4⟩:=Yq e15b hvs hvl
         refine ⟨_,_,rfl,u1,u2,u3,u4,_,rfl,_,_,rfl,v1,v2,v3,v4,rfl,_,rfl,?_⟩
         rw [XB]
         exact Yo ⟨rfl,S15,pt15,e15b⟩
       clear S13 pt e13 n13
       rintro σ1 H13 ⟨rfl,S13,pt,e13⟩
       have n13:t2≠Pl:=fun z=>by obtain ⟨ts,z1,_⟩:=S13.get Pl;rw [← z,e13] at z1;cases z1
       dsimp only [Zfb,ZaE,tOp,tCB,YW]
       refine UU (YA qs x) (S13.get Pl) (fun H14 Qc Ec gr L1 hq he=>?_) (fun H14 t1 H15 gr L1 s15 e15=>?_)
       · have S14:=(S13.pull Pl).grow gr L1
         obtain ⟨d,r,sp,il,tk,Sh⟩:=(S14.get h)
         obtain ⟨dx4,ob4⟩:=Sh.get h
         refine ⟨_,rfl,h,dx4,_,rfl,ob4,YH (by decide +kernel),_,rfl,xs,h,YV qs,0,0,x,(fun _=>none),rfl,S14.get h,hi0 N,rfl,rfl,hxm,fun hd dx H15 s15 ed=>?_,fun d hd=>⟨fun hz dx H15 s15 ed=>?_,fun hz H15 s15=>?_⟩⟩
         · exact he CN dx "setting" _ H15 s15 rN ed (by unfold YA;rw [show ZE (Yz qs) (Sum.inr x)=none from hd])
         · have hz:d=.non:=hz
           exact he CM dx "missing" _ H15 s15 rM ed (by unfold YA;rw [show ZE (Yz qs) (Sum.inr x)=some d from hd,hz])
         · have hz:d≠.non:=hz
           refine hq d H15 s15 ?_
           unfold YA
           rw [show ZE (Yz qs) (Sum.inr x)=some d from hd]
           cases d<;>first | rfl | exact absurd rfl hz
       have S15:=((((((((S13.pull Pl).grow gr L1).mono s15).pull ll).pull nl).pull Pl).pull dl).pull h).pull p
       have e15b:=s15 _ _ (gr _ _ n13 e13)
       have pt15:=(pt.tf (gr.tfL (S13.get Pl))).tf s15.tf
       obtain ⟨u1,u2,u3,u4⟩:=Yq e15 hvs hvl
       obtain ⟨v1,v2,v3,v4⟩:=Yq e15b hvs hvl
       refine ⟨_,_,rfl,u1,u2,u3,u4,_,rfl,_,_,rfl,v1,v2,v3,v4,rfl,_,rfl,?_⟩
       rw [XB]
       exact Yo ⟨_,_,_,_,_,_,rfl,S15,pt15⟩
     · rintro σ H12 ⟨x6,x7,x8,x9,x10,x11,rfl,S12,pt⟩
       have hnn:∀ p∈qs,Xo p.1:=fun p hp=>hxn _ (O.mem hp)
       obtain ⟨d,r,sp,il,tk,Sh⟩:=(S12.get h)
       obtain ⟨dx4,ob4⟩:=Sh.get h
       refine ⟨_,rfl,h,dx4,_,rfl,ob4,YH (by decide +kernel),h,YV qs,qs,_,rfl,S12.pull h,rfl,fun fl H18 S18=>?_⟩
       obtain ⟨u1,u2,u3,u4⟩:=Xl (S18.get fl) hnn O.nv (by omega)
       obtain ⟨v1,v2,v3,v4⟩:=Xl (S18.get dl) hnn O.nv (by omega)
       refine ⟨_,_,rfl,u1,u2,u3,u4,_,rfl,_,_,rfl,v1,v2,v3,v4,rfl,_,rfl,?_⟩
       rw [XB]
       exact Yo ⟨_,_,_,_,_,_,_,_,_,_,_,rfl,(((((S18.tail).drop h).drop p).drop dl).drop nl).drop ll⟩
end
end K32
set_option maxHeartbeats 4000000
namespace K32
open PySem L2
section
variable {P:Program}{w:World}{K:PySem.W.Frag}{mg:Str→Option Value}{base:Heap}
theorem scXi:Zs ["self","what"] ["self","what"] (Zk c_RoadError___init__):=⟨rfl,rfl,rfl,by decide +kernel,rfl,by decide +kernel,by decide +kernel⟩
theorem UB {f:Addr}{fd:FuncData}(F:Fun K "__init__" "RoadError.__init__" c_RoadError___init__ f fd):FnOk P w K mg base ZG 1 f fd ["self","what"] (ZeA K):=by
 refine F.ok scXi (fun vs H Q E h=>?_) (fun cdv A outer s H vs Q E hr h=>?_)
 · obtain ⟨ea,C,fI,v,rfl,_⟩:=h;rfl
 obtain ⟨ea,C,fI,v,rfl,hea,xf,q⟩:=h
 refine' ⟨?t,?h,?r⟩
 case h =>
   conv=>arg 2;whnf
   with_reducible refine' (Zj ?h1)
   case h1=>exact Zhj (pv 0) (pv 1) rfl
 exact ⟨_,rfl,_,rfl,ea,C,fI,rfl,hea,xf,fun dx h1 h2=>q dx h1 h2⟩
end
end K32
set_option maxHeartbeats 4000000
namespace K32
open PySem L2
open PySem.W in
theorem all_mk {l:PySem.W.OpenLaw}{w:World}{K:PySem.W.Frag}{h:Heap}{mg:Str→Option Value}{fa:Addr}
   {f_z0 f_z1 f_z2 f_z3 f_z4 f_z5 f_z6 f_z7 f_z8 f_z9 f_z10 f_z11 f_z12 f_z13 f_z14 f_z15 f_z16 f_z17 f_z18 f_z19 f_z20 f_z21 f_z22 f_z23 f_z24 f_z25 f_z26 f_z27 f_z28 f_z29 f_z30 f_z31 f_z32 C_Store C_Roads C_Tokens C_Hall C_RoadError C_Known C_NoSetting C_Missing C_NoWorld C_Busy C_AtHome C_NoToken C_Used C_Elsewhere C_OutOfTurn C_NoTable C_NoNode C_NoPlace C_NotBehind C_NoWatcher C_NoTask C_BadRow ca_z32 P_z32:Addr} {d_z0 d_z1 d_z2 d_z3 d_z4 d_z5 d_z6 d_z7 d_z8 d_z9 d_z10 d_z11 d_z12 d_z13 d_z14 d_z15 d_z16 d_z17 d_z18 d_z19 d_z20 d_z21 d_z22 d_z23 d_z24 d_z25 d_z26 d_z27 d_z28 d_z29 d_z30 d_z31 d_z32:FuncData} (X:K.In h) (G:h.Ns mainGlobals mg) (hfa:mg "law"=some (.ref fa))
   (ch_Store:CH K "Store" C_Store)
   (na_Store_nodes:PySem.W.findIn K (.ref C_Store) "nodes"=some none)
   (na_Store_tables:PySem.W.findIn K (.ref C_Store) "tables"=some none)
   (ch_Roads:CH K "Roads" C_Roads)
   (na_Roads_kept:PySem.W.findIn K (.ref C_Roads) "kept"=some none)
   (na_Roads_aheads:PySem.W.findIn K (.ref C_Roads) "aheads"=some none)
   (na_Roads_steps:PySem.W.findIn K (.ref C_Roads) "steps"=some none)
   (na_Roads_tables:PySem.W.findIn K (.ref C_Roads) "tables"=some none)
   (na_Roads_costs:PySem.W.findIn K (.ref C_Roads) "costs"=some none)
   (ch_Tokens:CH K "Tokens" C_Tokens)
   (na_Tokens_finds:PySem.W.findIn K (.ref C_Tokens) "finds"=some none)
   (na_Tokens_unused:PySem.W.findIn K (.ref C_Tokens) "unused"=some none)
   (ch_Hall:CH K "Hall" C_Hall)
   (na_Hall_defaults:PySem.W.findIn K (.ref C_Hall) "defaults"=some none)
   (na_Hall_ways:PySem.W.findIn K (.ref C_Hall) "ways"=some none)
   (na_Hall_spots:PySem.W.findIn K (.ref C_Hall) "spots"=some none)
   (na_Hall_inside:PySem.W.findIn K (.ref C_Hall) "inside"=some none)
   (na_Hall_held:PySem.W.findIn K (.ref C_Hall) "held"=some none)
   (gx_RoadError:PySem.W.nsIn K mainGlobals "RoadError"=some (some (.ref C_RoadError)))
   (gx_Known:PySem.W.nsIn K mainGlobals "Known"=some (some (.ref C_Known)))
   (gx_NoSetting:PySem.W.nsIn K mainGlobals "NoSetting"=some (some (.ref C_NoSetting)))
   (gx_Missing:PySem.W.nsIn K mainGlobals "Missing"=some (some (.ref C_Missing)))
   (gx_NoWorld:PySem.W.nsIn K mainGlobals "NoWorld"=some (some (.ref C_NoWorld)))
   (gx_Busy:PySem.W.nsIn K mainGlobals "Busy"=some (some (.ref C_Busy)))
   (gx_AtHome:PySem.W.nsIn K mainGlobals "AtHome"=some (some (.ref C_AtHome)))
   (gx_NoToken:PySem.W.nsIn K mainGlobals "NoToken"=some (some (.ref C_NoToken)))
   (gx_Used:PySem.W.nsIn K mainGlobals "Used"=some (some (.ref C_Used)))
   (gx_Elsewhere:PySem.W.nsIn K mainGlobals "Elsewhere"=some (some (.ref C_Elsewhere)))
   (gx_OutOfTurn:PySem.W.nsIn K mainGlobals "OutOfTurn"=some (some (.ref C_OutOfTurn)))
   (gx_NoTable:PySem.W.nsIn K mainGlobals "NoTable"=some (some (.ref C_NoTable)))
   (gx_NoNode:PySem.W.nsIn K mainGlobals "NoNode"=some (some (.ref C_NoNode)))
   (gx_NoPlace:PySem.W.nsIn K mainGlobals "NoPlace"=some (some (.ref C_NoPlace)))
   (gx_NotBehind:PySem.W.nsIn K mainGlobals "NotBehind"=some (some (.ref C_NotBehind)))
   (gx_NoWatcher:PySem.W.nsIn K mainGlobals "NoWatcher"=some (some (.ref C_NoWatcher)))
   (gx_NoTask:PySem.W.nsIn K mainGlobals "NoTask"=some (some (.ref C_NoTask)))
   (gx_BadRow:PySem.W.nsIn K mainGlobals "BadRow"=some (some (.ref C_BadRow)))
   (h_z0:FM K C_RoadError "__init__" "RoadError.__init__" c_RoadError___init__ f_z0 d_z0)
   (h_z1:FG K "mark" s_mark f_z1 d_z1)
   (h_z2:FG K "digit" s_digit f_z2 d_z2)
   (h_z3:FG K "parts_in" s_parts_in f_z3 d_z3)
   (h_z4:FG K "pairs_in" s_pairs_in f_z4 d_z4)
   (h_z5:FM K C_Store "__init__" "Store.__init__" c_Store___init__ f_z5 d_z5)
   (h_z6:FM K C_Store "empty" "Store.empty" c_Store_empty f_z6 d_z6)
   (h_z7:FM K C_Store "check_table" "Store.check_table" c_Store_check_table f_z7 d_z7)
   (h_z8:FM K C_Store "way" "Store.way" c_Store_way f_z8 d_z8)
   (h_z9:FM K C_Store "looked" "Store.looked" c_Store_looked f_z9 d_z9)
   (h_z10:FM K C_Roads "check_place" "Roads.check_place" c_Roads_check_place f_z10 d_z10)
   (h_z11:FM K C_Roads "table" "Roads.table" c_Roads_table f_z11 d_z11)
   (h_z12:FM K C_Roads "looked" "Roads.looked" c_Roads_looked f_z12 d_z12)
   (h_z13:FM K C_Roads "__init__" "Roads.__init__" c_Roads___init__ f_z13 d_z13)
   (h_z14:FM K C_Tokens "__init__" "Tokens.__init__" c_Tokens___init__ f_z14 d_z14)
   (h_z15:FM K C_Hall "check_world" "Hall.check_world" c_Hall_check_world f_z15 d_z15)
   (h_z16:FM K C_Hall "place" "Hall.place" c_Hall_place f_z16 d_z16)
   (h_z17:FM K C_Hall "now" "Hall.now" c_Hall_now f_z17 d_z17)
   (h_z18:FM K C_Hall "check_setting" "Hall.check_setting" c_Hall_check_setting f_z18 d_z18)
   (h_z19:FM K C_Hall "declare" "Hall.declare" c_Hall_declare f_z19 d_z19)
   (h_z20:FM K C_Hall "settings" "Hall.settings" c_Hall_settings f_z20 d_z20)
   (h_z21:FM K C_Hall "value_in" "Hall.value_in" c_Hall_value_in f_z21 d_z21)
   (h_z22:FM K C_Hall "value_or_default" "Hall.value_or_default" c_Hall_value_or_default f_z22 d_z22)
   (h_z23:FM K C_Hall "look_in" "Hall.look_in" c_Hall_look_in f_z23 d_z23)
   (h_z24:FM K C_Hall "look" "Hall.look" c_Hall_look f_z24 d_z24)
   (h_z25:FM K C_Hall "__init__" "Hall.__init__" c_Hall___init__ f_z25 d_z25)
   (h_z26:FG K "_law_cell_at" s_l_cell_at f_z26 d_z26)
   (h_z27:FG K "_law_box" s_l_box f_z27 d_z27)
   (h_z28:FG K "_law_take" s_l_take f_z28 d_z28)
   (h_z29:FG K "_law_names" s_l_names f_z29 d_z29)
   (h_z30:FG K "_law_value" s_l_value f_z30 d_z30)
   (h_z31:FG K "_law_told" s_l_told f_z31 d_z31)
   (h_z32:FGC K "law" s_law f_z32 d_z32 ca_z32 P_z32)
   (z_len:PySem.W.nsIn K mainGlobals "len"=some none)
   (z_abs:PySem.W.nsIn K mainGlobals "abs"=some none)
   (z_int:PySem.W.nsIn K mainGlobals "int"=some none)
   (z_range:PySem.W.nsIn K mainGlobals "range"=some none)
   (z_min:PySem.W.nsIn K mainGlobals "min"=some none)
   (z_max:PySem.W.nsIn K mainGlobals "max"=some none)
   (z_repr:PySem.W.nsIn K mainGlobals "repr"=some none)
   (z_enumerate:PySem.W.nsIn K mainGlobals "enumerate"=some none)
   (z_ord:PySem.W.nsIn K mainGlobals "ord"=some none)
   (z_list:PySem.W.nsIn K mainGlobals "list"=some none)
   (z_tuple:PySem.W.nsIn K mainGlobals "tuple"=some none)
   (z_dict:PySem.W.nsIn K mainGlobals "dict"=some none)
   (z_sorted:PySem.W.nsIn K mainGlobals "sorted"=some none)
   (z_sum:PySem.W.nsIn K mainGlobals "sum"=some none)
   (z_all:PySem.W.nsIn K mainGlobals "all"=some none)
   (z_any:PySem.W.nsIn K mainGlobals "any"=some none)
   (z_divmod:PySem.W.nsIn K mainGlobals "divmod"=some none)
   (z_str:PySem.W.nsIn K mainGlobals "str"=some none)
   (z_isinstance:PySem.W.nsIn K mainGlobals "isinstance"=some none)
   (z_set:PySem.W.nsIn K mainGlobals "set"=some none)
   (z_zip:PySem.W.nsIn K mainGlobals "zip"=some none)
   (z_reversed:PySem.W.nsIn K mainGlobals "reversed"=some none)
   (z_bool:PySem.W.nsIn K mainGlobals "bool"=some none)
   {tb:Tok}
   (gBASE:PySem.W.nsIn K mainGlobals "BASE"=some (some (.int 4 tb)))
   {tz:Tok}
   (gZERO:PySem.W.nsIn K mainGlobals "BARE_NUMBER"=some (some (.int 0 tz)))
   {ab:Addr}
   (gBARE:PySem.W.nsIn K mainGlobals "BARE"=some (some (.ref ab)))
   (tBARE:Zax K ab [.str "bare"]=true)
   {af:Addr}
   (gFIG:PySem.W.nsIn K mainGlobals "FIGURES"=some (some (.ref af)))
   (tFIG:Zax K af [.int 0,.int 1,.int 2,.int 3]=true)
   (zVE:PySem.W.nsIn K mainGlobals "ValueError"=some none)
   (x_Known:UR K C_RoadError C_Known f_z0 [C_Known,C_NoSetting,C_Missing,C_NoWorld,C_Busy,C_AtHome,C_NoToken,C_Used,C_Elsewhere,C_OutOfTurn] [C_NoTable,C_NoNode,C_NoPlace,C_NotBehind] [C_NoWatcher,C_NoTask,C_BadRow] 0=true)
   (x_NoSetting:UR K C_RoadError C_NoSetting f_z0 [C_Known,C_NoSetting,C_Missing,C_NoWorld,C_Busy,C_AtHome,C_NoToken,C_Used,C_Elsewhere,C_OutOfTurn] [C_NoTable,C_NoNode,C_NoPlace,C_NotBehind] [C_NoWatcher,C_NoTask,C_BadRow] 1=true)
   (x_Missing:UR K C_RoadError C_Missing f_z0 [C_Known,C_NoSetting,C_Missing,C_NoWorld,C_Busy,C_AtHome,C_NoToken,C_Used,C_Elsewhere,C_OutOfTurn] [C_NoTable,C_NoNode,C_NoPlace,C_NotBehind] [C_NoWatcher,C_NoTask,C_BadRow] 2=true) :
   ∃ fd:FuncData,(∀ (s:Shared) (v:Value),BindsTo s fd ⟨[v],[]⟩ [("_law_script",v)])∧∀ base:Heap,K.In base→base.Ns mainGlobals mg→XY base mg→FnOk l.prog w K mg base ZG 18 fa fd ["_law_script"] (Zaz K P_z32):=by
 have e:=hfa.symm.trans (mg_of X G h_z32.a)
 cases e
 have n_len:=mg_none_of X G z_len
 have n_abs:=mg_none_of X G z_abs
 have n_int:=mg_none_of X G z_int
 have n_range:=mg_none_of X G z_range
 have n_min:=mg_none_of X G z_min
 have n_max:=mg_none_of X G z_max
 have n_repr:=mg_none_of X G z_repr
 have n_enumerate:=mg_none_of X G z_enumerate
 have n_ord:=mg_none_of X G z_ord
 have n_list:=mg_none_of X G z_list
 have n_tuple:=mg_none_of X G z_tuple
 have n_dict:=mg_none_of X G z_dict
 have n_sorted:=mg_none_of X G z_sorted
 have n_sum:=mg_none_of X G z_sum
 have n_all:=mg_none_of X G z_all
 have n_any:=mg_none_of X G z_any
 have n_divmod:=mg_none_of X G z_divmod
 have n_str:=mg_none_of X G z_str
 have n_isinstance:=mg_none_of X G z_isinstance
 have n_set:=mg_none_of X G z_set
 have n_zip:=mg_none_of X G z_zip
 have n_reversed:=mg_none_of X G z_reversed
 have n_bool:=mg_none_of X G z_bool
 have g_gBASE:=mg_of X G gBASE
 have g_gZERO:=mg_of X G gZERO
 have g_gBARE:=mg_of X G gBARE
 have g_gFIG:=mg_of X G gFIG
 have g_RoadError:=mg_of X G gx_RoadError
 have g_Known:=mg_of X G gx_Known
 have g_NoSetting:=mg_of X G gx_NoSetting
 have g_Missing:=mg_of X G gx_Missing
 have g_NoWorld:=mg_of X G gx_NoWorld
 have g_Busy:=mg_of X G gx_Busy
 have g_AtHome:=mg_of X G gx_AtHome
 have g_NoToken:=mg_of X G gx_NoToken
 have g_Used:=mg_of X G gx_Used
 have g_Elsewhere:=mg_of X G gx_Elsewhere
 have g_OutOfTurn:=mg_of X G gx_OutOfTurn
 have g_NoTable:=mg_of X G gx_NoTable
 have g_NoNode:=mg_of X G gx_NoNode
 have g_NoPlace:=mg_of X G gx_NoPlace
 have g_NotBehind:=mg_of X G gx_NotBehind
 have g_NoWatcher:=mg_of X G gx_NoWatcher
 have g_NoTask:=mg_of X G gx_NoTask
 have g_BadRow:=mg_of X G gx_BadRow
 have cl_Store:=ch_Store.c
 have cl_Roads:=ch_Roads.c
 have cl_Tokens:=ch_Tokens.c
 have cl_Hall:=ch_Hall.c
 have TB:Yf mg:=⟨n_len,n_abs,n_int,n_range,n_min,n_max,n_repr,n_enumerate,n_ord,n_list,n_tuple,n_dict,n_sorted,n_sum,n_all,n_any,n_divmod,n_str,n_isinstance,n_set,n_zip,n_reversed,n_bool⟩
 have T:Txt K mg:=⟨TB,⟨_,g_gBASE⟩,⟨_,g_gZERO⟩,⟨_,g_gBARE,Zbx tBARE⟩,⟨_,g_gFIG,Zbx tFIG⟩⟩
 have TC:UD K C_Store:=⟨cl_Store,na_Store_nodes,na_Store_tables⟩
 have TR:VI K C_Roads:=⟨cl_Roads,na_Roads_kept,na_Roads_aheads,na_Roads_steps,na_Roads_tables,na_Roads_costs⟩
 have TT:TxtT K C_Tokens:=⟨cl_Tokens,na_Tokens_finds,na_Tokens_unused⟩
 have TH:Xg K C_Hall:=⟨cl_Hall,na_Hall_defaults,na_Hall_ways,na_Hall_spots,na_Hall_inside,na_Hall_held⟩
 have n_VE:=mg_none_of X G zVE
 have TE:=Zgq (K:=K) g_RoadError n_VE g_Known g_NoSetting g_Missing g_NoWorld g_Busy g_AtHome g_NoToken g_Used g_Elsewhere g_OutOfTurn g_NoTable g_NoNode g_NoPlace g_NotBehind g_NoWatcher g_NoTask g_BadRow
 have r_Known:RK K C_RoadError [C_Known,C_NoSetting,C_Missing,C_NoWorld,C_Busy,C_AtHome,C_NoToken,C_Used,C_Elsewhere,C_OutOfTurn,C_NoTable,C_NoNode,C_NoPlace,C_NotBehind,C_NoWatcher,C_NoTask,C_BadRow] C_Known "known":=⟨0,(Wo x_Known).1,rfl⟩
 have r_NoSetting:RK K C_RoadError [C_Known,C_NoSetting,C_Missing,C_NoWorld,C_Busy,C_AtHome,C_NoToken,C_Used,C_Elsewhere,C_OutOfTurn,C_NoTable,C_NoNode,C_NoPlace,C_NotBehind,C_NoWatcher,C_NoTask,C_BadRow] C_NoSetting "setting":=⟨1,(Wo x_NoSetting).1,rfl⟩
 have r_Missing:RK K C_RoadError [C_Known,C_NoSetting,C_Missing,C_NoWorld,C_Busy,C_AtHome,C_NoToken,C_Used,C_Elsewhere,C_OutOfTurn,C_NoTable,C_NoNode,C_NoPlace,C_NotBehind,C_NoWatcher,C_NoTask,C_BadRow] C_Missing "missing":=⟨2,(Wo x_Missing).1,rfl⟩
 refine ⟨d_z32,fun s v=>Zes h_z32.F.fn (fun _ _ _ _ _ _ _=>rfl) s v,fun base _ _ hBm=>?_⟩
 have e:Bs l.prog w K mg base h:=⟨X,G⟩
 have b_z0:Binds K d_z0 ["self","what"] []:=h_z0.F.b2 fun _ _ _ _ _ _ _ _=>rfl
 have D_Known:UO l.prog w K mg base 1 C_Known "Known":=⟨_,_,(UB h_z0.F).mono (by decide),b_z0,(Wo x_Known).2 h_z0.m.fn,g_Known⟩
 have D_NoSetting:UO l.prog w K mg base 1 C_NoSetting "NoSetting":=⟨_,_,(UB h_z0.F).mono (by decide),b_z0,(Wo x_NoSetting).2 h_z0.m.fn,g_NoSetting⟩
 have D_Missing:UO l.prog w K mg base 11 C_Missing "Missing":=⟨_,_,(UB h_z0.F).mono (by decide),b_z0,(Wo x_Missing).2 h_z0.m.fn,g_Missing⟩
 have D_z1:=h_z1.df e (ZgH h_z1.F T) (h_z1.F.b1 fun _ _ _ _ _ _ _=>rfl)
 have D_z2:=h_z2.df e (Zfp h_z2.F T) (h_z2.F.b2 fun _ _ _ _ _ _ _ _=>rfl)
 have D_z3:=h_z3.df e (Zfs h_z3.F) (h_z3.F.b1 fun _ _ _ _ _ _ _=>rfl)
 have D_z4:=h_z4.df e (ZeX h_z4.F) (h_z4.F.b1 fun _ _ _ _ _ _ _=>rfl)
 have D_z5:=h_z5.di ch_Store e (FnOk.conv (sp':=VM K C_Store) (ZgA h_z5.F T TC) (fun _ _ _ _ h=>Zir h)) (h_z5.F.b1 fun _ _ _ _ _ _ _=>rfl)
 have D_z6:=h_z6.df e (Zfn (C:=C_Store) h_z6.F T) (h_z6.F.b1 fun _ _ _ _ _ _ _=>rfl)
 have D_z7:=h_z7.df e (ZeU h_z7.F TC) (h_z7.F.b2 fun _ _ _ _ _ _ _ _=>rfl)
 have D_z8:=h_z8.df e (ZiB h_z8.F T TC D_z7 D_z3 D_z1 D_z2) (h_z8.F.b3 fun _ _ _ _ _ _ _ _ _=>rfl)
 have b_z9:Binds K d_z9 ["self","table","name"] []:=h_z9.F.b3 fun _ _ _ _ _ _ _ _ _=>rfl
 have D_z9:DefM l.prog w K mg base 3 C_Store "looked" ["self","table","name"] (VB K C_Store):=⟨_,_,ZhB (Zdn h_z9.F T TC D_z8 D_z4),b_z9,h_z9.m⟩
 have D_z10:=h_z10.df e (ZgB (CS:=C_Store) h_z10.F TB TR) (h_z10.F.b2 fun _ _ _ _ _ _ _ _=>rfl)
 have D_z11:=h_z11.df e (Zfl h_z11.F TB TR D_z10) (h_z11.F.b2 fun _ _ _ _ _ _ _ _=>rfl)
 have D_z12:=h_z12.df e (ZhK h_z12.F TB TR TC (D_z11.mono (by decide)) (D_z9.mono (by decide))) (h_z12.F.b3 fun _ _ _ _ _ _ _ _ _=>rfl)
 have D_z13:=h_z13.di ch_Roads e ((ZeM h_z13.F TB TR TC D_z5 (D_z6.mono (by decide))).mono (show 3≤11 by decide)) (h_z13.F.b1 fun _ _ _ _ _ _ _=>rfl)
 have D_z14:=h_z14.di ch_Tokens e (Zfo h_z14.F TB TT) (h_z14.F.b1 fun _ _ _ _ _ _ _=>rfl)
 have D_z15:=h_z15.df e (Zhz (CH:=C_Hall) (CR:=C_Roads) (CS:=C_Store) (CT:=C_Tokens) h_z15.F TB TH) (h_z15.F.b2 fun _ _ _ _ _ _ _ _=>rfl)
 have D_z16:=h_z16.df e (Zie (CH:=C_Hall) (CR:=C_Roads) (CS:=C_Store) (CT:=C_Tokens) h_z16.F TB TH D_z15) (h_z16.F.b2 fun _ _ _ _ _ _ _ _=>rfl)
 have D_z17:=h_z17.df e (Zix (CH:=C_Hall) (CR:=C_Roads) (CS:=C_Store) (CT:=C_Tokens) h_z17.F TB TH) (h_z17.F.b1 fun _ _ _ _ _ _ _=>rfl)
 have b_z18:Binds K d_z18 ["self","name"] []:=h_z18.F.b2 fun _ _ _ _ _ _ _ _=>rfl
 have D_z18:DefMX l.prog w K mg base 3 C_Hall "check_setting" ZaG (Zcw K C_Hall C_Roads C_Store C_Tokens C_NoSetting):=⟨_,_,(ZhX h_z18.F TB TH D_NoSetting).mono (by decide),b_z18,h_z18.m⟩
 have b_z19:Binds K d_z19 ["self","name","default"] []:=h_z19.F.b3 fun _ _ _ _ _ _ _ _ _=>rfl
 have D_z19:DefMX l.prog w K mg base 3 C_Hall "declare" ZaA (ZcI K C_Hall C_Roads C_Store C_Tokens C_Known):=⟨_,_,(ZiJ h_z19.F TB TH D_Known).mono (by decide),b_z19,h_z19.m⟩
 have D_z20:=h_z20.df e (ZhF (CH:=C_Hall) (CR:=C_Roads) (CS:=C_Store) (CT:=C_Tokens) h_z20.F TB TH) (h_z20.F.b1 fun _ _ _ _ _ _ _=>rfl)
 have D_z21:=h_z21.df e (ZiK h_z21.F TB TH TR (D_z16.mono (by decide)) D_z12) (h_z21.F.b3 fun _ _ _ _ _ _ _ _ _=>rfl)
 have D_z22:=h_z22.df e (Zhp h_z22.F TB TH D_z21) (h_z22.F.b3 fun _ _ _ _ _ _ _ _ _=>rfl)
 have b_z23:Binds K d_z23 ["self","world","name"] []:=h_z23.F.b3 fun _ _ _ _ _ _ _ _ _=>rfl
 have D_z23:DefMX l.prog w K mg base 13 C_Hall "look_in" Vf (Zau K C_Hall C_Roads C_Store C_Tokens C_NoSetting C_Missing):=⟨_,_,(ZiH h_z23.F TB TH (D_z15.mono (by decide)) (D_z18.mono (by decide)) D_z22 D_Missing).mono (by decide),b_z23,h_z23.m⟩
 have b_z24:Binds K d_z24 ["self","name"] []:=h_z24.F.b2 fun _ _ _ _ _ _ _ _=>rfl
 have D_z24:DefMX l.prog w K mg base 14 C_Hall "look" ZaC (Zcv K C_Hall C_Roads C_Store C_Tokens C_NoSetting C_Missing):=⟨_,_,(Zhw h_z24.F TB TH (D_z17.mono (by decide)) D_z23).mono (by decide),b_z24,h_z24.m⟩
 have D_z25:=h_z25.di ch_Hall e ((Zfv h_z25.F TB TH D_z13 D_z14).mono (show 13≤16 by decide)) (h_z25.F.b1 fun _ _ _ _ _ _ _=>rfl)
 have D_z26:=h_z26.df e (ZgY h_z26.F TB) (h_z26.F.b2 fun _ _ _ _ _ _ _ _=>rfl)
 have D_z27:=h_z27.df e (FnOk.conv (sp':=Zbe K) (ZiA h_z27.F TB D_z26) (fun _ _ _ _ h=>ZjJ h)) (h_z27.F.b2 fun _ _ _ _ _ _ _ _=>rfl)
 have b_z28:Binds K d_z28 ["_law_box_here","_law_many"] []:=h_z28.F.b2 fun _ _ _ _ _ _ _ _=>rfl
 have DT0:ZfD l.prog w K mg base:=⟨_,_,Zhi h_z28.F,b_z28,h_z28.F.kp,(mg_of X G h_z28.a)⟩
 have D_z28:DTk l.prog w K mg base 1:=DT0.conv fun _ _ _ _ h=>ZhI h
 have D_z29:=h_z29.df e (Zfd h_z29.F TB D_z28) (h_z29.F.b2 fun _ _ _ _ _ _ _ _=>rfl)
 have D_z30:=h_z30.df e (FnOk.conv (sp':=UN) (ZeP h_z30.F T DT0) (fun _ _ _ _ h=>Zha h)) (h_z30.F.b1 fun _ _ _ _ _ _ _=>rfl)
 have D_z31:=h_z31.df e (ZgW (kk:=15) h_z31.F TB TE) (h_z31.F.b1 fun _ _ _ _ _ _ _=>rfl)
 exact Zhx h_z32.F hBm TB TH D_z28 (D_z27.mono (by decide)) (D_z29.mono (by decide)) (D_z30.mono (by decide)) D_z25 (D_z20.mono (by decide)) (D_z19.mono (by decide)) D_z24 (D_z23.mono (by decide)) r_Known r_NoSetting r_Missing (D_z31.mono (by decide))
theorem walk {l:PySem.W.OpenLaw}{q:Program}{loose:List Str}{XP:(Str→Option Value)→Heap→Prop}{YP:World→Heap→Prop}{d:DefRec}{K:Params→PySem.W.Frag}{ts:List Addr}{P_z32:Addr}(hn:l.most=some 63)(hdf:d.params.defaults=[])
   (hY:∀ (w:World) (h:Heap),YP w h→(K w.params).In h∧∀ b∈ts,h.get? b=some (PySem.W.tabObj #[]))
   (hK:∀ (w:World) (b:Addr),b∈ts→(K w.params).lookup b=none∧∃ c,PySem.W.codeHdIn (K w.params) c b=true)
   (hP_law:P_z32∈ts) (F:∀ (w:World) (mg:Str→Option Value) (fa:Addr) (h:Heap),(K w.params).In h→h.Ns mainGlobals mg→mg d.name=some (.ref fa) →
     ∃ fd:FuncData,(∀ (s:Shared) (u:Value),BindsTo s fd ⟨[u],[]⟩ [("_law_script",u)])∧∀ base:Heap,(K w.params).In base→base.Ns mainGlobals mg→XY base mg→FnOk l.prog w (K w.params) mg base ZG 18 fa fd ["_law_script"] (Zaz (K w.params) P_z32)) :
   PySem.W.WalkO q loose XP YP l.row.toRowW d [] (fun f vs=>PySem.call f vs) :=
 L2.walk_ofT (n:=63) (k:=18) (x:="_law_script") (CX:=fun _=>ZG) (sp:=fun w=>Zaz (K w.params) P_z32) (ts:=ts) hn (by decide) hdf ⟨rfl,by decide,by decide,rfl⟩ hY hK F (fun w H a ns hl hO hS hT=>⟨a,ns,rfl,hS,hl,⟨[],hT _ hP_law,fun _ h=>nomatch h⟩,fun _=>rfl⟩) fun _ _ _ _ _ z=>z
end K32
namespace PySem.W.Fast
def tw794989166051168221 := 0
def tw3418720236682747881 := 0
def tw8917765082231728921 := 0
def tw12655834778849894994 := 0
def tw13365957222956428456 := 0
def tw11325403960306347458 := 0
def tw10771390796382309927 := 0
def tw1461722110312619889 := 0
def tw876451986488776953 := 0
def tw9218424088812161945 := 0
def tw16857836083827432495 := 0
def tw9534713114208248171 := 0
def tw10478385946859260631 := 0
def tw17900931635383138062 := 0
def tw7128057020943932052 := 0
def tw2675818338289597158 := 0
def tw291397583904030799 := 0
def tw5407653265124357714 := 0
def tw15160531838413418643 := 0
def tw7990993672998807392 := 0
def tw284715287421632766 := 0
def tw1313674132296046124 := 0
def tw11268017191766758795 := 0
def tw11473944629425442258 := 0
def tw9184639410974784426 := 0
def tw14125903406183675228 := 0
def tw1228105218565595533 := 0
def tw3342277114847058425 := 0
def tw5643027640419137062 := 0
def tw9754830664390342316 := 0
def tw13784310474229233127 := 0
def tw5796736286399654944 := 0
def tw3339850350850811643 := 0
def tw18144875313172082527 := 0
def tw8800307891913164008 := 0
def tw5439802152780520994 := 0
def tw11882378090276320056 := 0
def tw1195707596090008534 := 0
def tw12562351149314095474 := 0
def tw6438482209955299990 := 0
def tw16695781768812922307 := 0
def tw16163109061298016177 := 0
def tw9424814005109570435 := 0
def tw16765183389144465926 := 0
def tw3119425785089641484 := 0
def tw17300062347835450271 := 0
def tw6134851058355923718 := 0
def tw6313051060251410363 := 0
def tw4274765957893487647 := 0
def tw16425374986959919237 := 0
def tw11531704012049310636 := 0
def tw3148702998623319836 := 0
def tw1738493239635264283 := 0
def tw213743161297250866 := 0
def tw12502731359916661153 := 0
def tw16893446917979506075 := 0
def tw16522706683726273718 := 0
def tw12038912416457012801 := 0
def tw13744178029253596845 := 0
def tw12691637956557637168 := 0
def tw12280498203641873985 := 0
def tw8720561300594328435 := 0
def tw15725042247476269408 := 0
def tw14092553797004489594 := 0
def tw2094196597731510456 := 0
def tw7141619693775255419 := 0
def tw9602008938360914691 := 0
def tw11113146224146697382 := 0
def tw12269566635911097883 := 0
def tw127348936647025280 := 0
def tw4547301286322413142 := 0
def tw14911159345676852751 := 0
def tw16280456303448156510 := 0
def tw14712015180305676265 := 0
def tw10964202705543857553 := 0
def tw5654017622048360324 := 0
def tw624058775382360465 := 0
def tw14776418512493022695 := 0
def tw553860482957907605 := 0
def tw7003258912692025196 := 0
def tw17906019563501380517 := 0
def tw1875044155884082725 := 0
def tw13883743549877983711 := 0
def tw5114525076846786300 := 0
def tw15150953941343795637 := 0
def tw6408651594304055262 := 0
def tw12264862317298966439 := 0
def tw13145615881024580519 := 0
def tw4049267391424653241 := 0
def tw14689040891446641351 := 0
def tw9082564023847523178 := 0
def tw10489666055309130348 := 0
def tw23862744940672043 := 0
def tw1621973173951692899 := 0
def tw12115515925638915357 := 0
def tw10970167827799898851 := 0
def tw14058234674995324467 := 0
def tw2701811806333004135 := 0
def tw8785863262323438847 := 0
def tw7916761196562514412 := 0
def tw998548954075157724 := 0
def tw769358054965593310 := 0
def tw9576211106902420208 := 0
def tw4156477175119205774 := 0
def tw6534695588576193285 := 0
def tw8851978483365466609 := 0
def tw3782550622609612104 := 0
def tw7720827801343221826 := 0
def tw7822304660924068182 := 0
def tw9026541023079169826 := 0
def tw4262898214214155783 := 0
def tw13956177119860425150 := 0
def tw13371383274986617081 := 0
def tw14412604995333187993 := 0
def tw2817200536873572705 := 0
def tw5943816797095400246 := 0
def tw13499792051194670379 := 0
def tw7087335028827982578 := 0
def tw7993001570934612614 := 0
def tw7873122334238648784 := 0
def tw14538484417327769721 := 0
def tw17361335500456174271 := 0
def tw16423766276446823670 := 0
def tw18213029437020723940 := 0
def tw7429392856574585651 := 0
def tw14021666950862897090 := 0
def tw4607581814922069292 := 0
def tw200924242224276833 := 0
def tw7330720382759399890 := 0
def tw8933155811566941730 := 0
def tw17436994054624385107 := 0
def tw3778355193431866501 := 0
def tw11964691087173484384 := 0
def tw12648300036966170035 := 0
def tw3218051522117824861 := 0
def tw16132999444564157185 := 0
def tw4566301484823461585 := 0
def tw2520721613282206502 := 0
def tw1541087349536142281 := 0
def tw7671214056614868935 := 0
def tw4595866052214413525 := 0
def tw2818408312506134646 := 0
def tw12085047258248104874 := 0
def tw10204986655137157128 := 0
def tw2226231064925957314 := 0
def tw14419189648185801611 := 0
def tw16994600458124921813 := 0
def tw694549747717288493 := 0
def tw483659683180474862 := 0
def tw8571464582278167935 := 0
def tw12011404803421203742 := 0
def tw13456283516618059646 := 0
def tw3431735801081827065 := 0
def tw2060768486565831377 := 0
def tw1472219907090630893 := 0
def tw7441342417910479702 := 0
def tw1234740378177976935 := 0
def tw7519042251937915148 := 0
def tw7088668273321166744 := 0
def tw12872811260898250625 := 0
def tw15294896343130806994 := 0
def tw11504021485548276240 := 0
def tw5328175304662469284 := 0
def tw11456833272527319867 := 0
def tw2032252481538579345 := 0
def tw8024092328758210092 := 0
def tw16795289847762976728 := 0
def tw12566629241135198460 := 0
def tw15861628193489319430 := 0
def tw6112780286352992167 := 0
def tw8114201283170955675 := 0
def tw13511268825234223908 := 0
def tw17808251068060523101 := 0
def tw9158391752215045824 := 0
def tw14668895688139951015 := 0
def tw10920976735323031870 := 0
def tw33097286743014997 := 0
def tw18102112035765072506 := 0
def tw11854876736888447359 := 0
def tw8513007451838427000 := 0
def tw8067776921663913287 := 0
def tw16620184238389851241 := 0
def tw9161647591264006433 := 0
def tw14548333302391364406 := 0
def tw16711757404586850845 := 0
def tw7944179231757580299 := 0
def tw13704376355026782640 := 0
def tw7614160311609259837 := 0
def tw106548784621678163 := 0
def tw13731011562266129606 := 0
def tw13490787546624358560 := 0
def tw11705063201181555943 := 0
def tw1360565104969138733 := 0
def tw1871189557303688187 := 0
def tw1270076227575823142 := 0
def tw15516091727289979011 := 0
def tw1458454570206537656 := 0
def tw6589822089972818152 := 0
def tw4954434364107765595 := 0
def tw3807353939893490169 := 0
def tw15363940266250374606 := 0
def tw1384160538961206518 := 0
def tw15166202179309353740 := 0
def tw7871824660907754907 := 0
def tw15917586198615748102 := 0
def tw3135487189998698450 := 0
def tw12888760266295058127 := 0
def tw13007201269701200611 := 0
def tw10810466557620795325 := 0
def tw2020177783537018999 := 0
def tw12209319987184569944 := 0
def tw16972634791167529740 := 0
def tw11004352478638768367 := 0
def tw6610634413630486813 := 0
def tw13808589787877903244 := 0
def tw9675921551225378608 := 0
def tw8491918186834314154 := 0
def tw2614589392260724704 := 0
def tw4452263464534533746 := 0
def tw9476587299477131194 := 0
def tw15963840181162903329 := 0
def tw17038895854340178867 := 0
def tw18419376990741209927 := 0
def tw16798559536167008389 := 0
def tw15248794212802216640 := 0
def tw17793970917551226994 := 0
def tw11307061684949222988 := 0
def tw14666432792274818896 := 0
def tw12923134878920755630 := 0
def tw3649247584866979729 := 0
def tw11724761797953192167 := 0
def tw7946127725429146946 := 0
def tw8618521094743676018 := 0
def tw9900458742027326150 := 0
def tw14465523787441497899 := 0
def tw3888953393763606232 := 0
def tw12815602798809066352 := 0
def tw13455717462109844711 := 0
def tw1762830336153386532 := 0
def tw15463251743245577206 := 0
def tw14586364823475186343 := 0
def tw12065481292976221710 := 0
def tw10397255263641929508 := 0
def tw3592636888063098357 := 0
def tw901593866264223439 := 0
def tw9129910046248814817 := 0
def tw15518327887934137160 := 0
def tw9904476133515315335 := 0
def tw9887375486796989552 := 0
def tw3751259821295261154 := 0
def tw234121251713250496 := 0
def tw12309819740311014078 := 0
def tw14091387442413785735 := 0
def tw16345732966342963756 := 0
def tw18323264612313045300 := 0
def tw16688373067980953646 := 0
def tw11889464395151304137 := 0
def tw5582897018545867491 := 0
def tw10053062442127148764 := 0
def tw10611147148281394072 := 0
def tw3170938257435563857 := 0
def tw6475749374767309238 := 0
def tw9929197897664637505 := 0
def tw9462509105210756261 := 0
def tw8439446249802952496 := 0
def tw7240520899229557535 := 0
def tw412813993425906537 := 0
def tw3927310845853446599 := 0
def tw3451280865513546008 := 0
def tw18233377993738719102 := 0
def tw17738852491303686978 := 0
def tw17291417437095800621 := 0
def tw12288751049366441693 := 0
def tw3545129976220180134 := 0
def tw9583026911715488137 := 0
def tw47630157996647496 := 0
def tw8047789028433215901 := 0
def tw1709525579768382877 := 0
def tw2647257731418202212 := 0
def tw6476669280138081940 := 0
def tw7062447470284778450 := 0
def tw16706002313788900247 := 0
def tw2782625783020065767 := 0
def tw15514808474001948119 := 0
def tw4005861134792237958 := 0
def tw18433916546752750750 := 0
def tw16058169293904257888 := 0
def tw9228914466377832982 := 0
def tw13556402942995542526 := 0
def tw11540968538839550847 := 0
def tw4715374694009504588 := 0
def tw4414031975659834414 := 0
def tw9080321762143362509 := 0
def tw4677046621451114349 := 0
def tw4626978580832556985 := 0
def tw15966991711864245036 := 0
def tw16562699820271308838 := 0
def tw10246737310294884672 := 0
def tw7287000872520559747 := 0
def tw16839382536920667788 := 0
def tw10571744540679864812 := 0
def tw5138376246386955286 := 0
def tw6704470604918549790 := 0
def tw15328127347152083378 := 0
def tw9774853583908849745 := 0
def tw13776600825427888932 := 0
def tw8274834378154097844 := 0
def tw5113371819658083483 := 0
def tw17711804469692318405 := 0
def tw11046762120835295726 := 0
def tw16554545163529006106 := 0
def tw6141208033242098065 := 0
def tw1386928775555953525 := 0
def tw13335043917492933237 := 0
def tw1137363642573831535 := 0
def tw11865035991687296670 := 0
def tw17431379359416891011 := 0
def tw10028665460755579829 := 0
def tw18050685198645382842 := 0
def tw16583035221923296731 := 0
def tw5743118571575776444 := 0
def tw6790271521119517107 := 0
def tw10449572040465283522 := 0
def tw7920473994119365006 := 0
def tw7184927084327217249 := 0
def tw7065676175984086687 := 0
def tw3665682008424196092 := 0
def tw1254803732660888518 := 0
def tw11667376078842451390 := 0
def tw15846702447564816543 := 0
def tw7176014658548734000 := 0
def tw5380273186536229883 := 0
def tw9833906844078819334 := 0
def tw557333923816761424 := 0
def tw4219352634497415615 := 0
def tw16419328640555461618 := 0
def tw16083340277402023990 := 0
def tw5630865854040820674 := 0
def tw2603875859993910670 := 0
def tw7864620593070194651 := 0
def tw7006462634185322977 := 0
def tw6946308204706628170 := 0
def tw6846302709647816275 := 0
def tw6702674593059226788 := 0
def tw5989604120601813360 := 0
def tw2209241049972663751 := 0
def tw15666183618529472886 := 0
def tw14678930691190049735 := 0
def tw13425873196494980366 := 0
def tw11257989619114349279 := 0
def tw11233086027538626922 := 0
def tw10394362317350271823 := 0
def tw955928711421290536 := 0
def tw15003569614372802169 := 0
def tw14272974023510261953 := 0
def tw13652702866725623937 := 0
def tw2856533522717068892 := 0
def tw13009030034062435817 := 0
def tw15865220206697381548 := 0
def tw14185026656435470286 := 0
def tw1175243362826890559 := 0
def tw4435676977865448465 := 0
def tw12677552735204937497 := 0
def tw10379915618835309214 := 0
def tw7393667069729169449 := 0
def tw12434235531846472306 := 0
def tw17599383389602126744 := 0
def tw17647343167883231088 := 0
def tw6184922591084017689 := 0
def tw11673440923068951919 := 0
def tw9893138002083652989 := 0
def tw16062172042327759237 := 0
def tw16535545978420488753 := 0
def tw15560634809080652790 := 0
def tw6988195625167438555 := 0
def tw17441474795055266311 := 0
def tw11236805211686577757 := 0
def tw5762378928454894391 := 0
def tw14660787911003327589 := 0
def tw4149377199454388471 := 0
def tw13330048619030293050 := 0
def tw483340878400202948 := 0
def tw14018266701058242481 := 0
def tw13210732850015482434 := 0
def tw13654647890405014469 := 0
def tw13362730919077688928 := 0
def tw12924239691191402632 := 0
def tw2081526093096827991 := 0
def tw15151924506829748167 := 0
def tw4558717517178902236 := 0
def tw8723560717177110959 := 0
def tw15154019038371376517 := 0
def tw3980116898615867070 := 0
def tw15495302827373502434 := 0
def tw1453889367381196838 := 0
def tw6531721718230361894 := 0
def tw18026334917724378326 := 0
def tw17716159058727649718 := 0
def tw16349104397013407274 := 0
def tw14865127716668770512 := 0
def tw14281171010912433865 := 0
def tw10094517394943784128 := 0
def tw14119698502780957315 := 0
def tw6260658301433701395 := 0
def tw2516646090737434701 := 0
def tw1860556204422883171 := 0
def tw1859907573435361380 := 0
def tw12698294485312002325 := 0
def tw12334894032671280173 := 0
def tw11733495416662339204 := 0
def tw9146614485984522906 := 0
def tw5631020778985473168 := 0
def tw2255860034930231495 := 0
def tw1937108501775126002 := 0
def tw18409890448881533305 := 0
def tw13786838900414921030 := 0
def tw12294544624990710773 := 0
def tw7197208002743129928 := 0
def tw4020722484119634333 := 0
def tw15931704703390676151 := 0
def tw9810977160162572739 := 0
def tw871049576040650964 := 0
def tw8465401509387240056 := 0
def tw6537934554506254852 := 0
def tw5736077119687070737 := 0
def tw5413207973225907162 := 0
def tw5149830323100932059 := 0
def tw4996788082904124008 := 0
def tw3556233301944549689 := 0
def tw2686979661468541085 := 0
def tw2096251958530425111 := 0
def tw2026977496888431439 := 0
def tw1976614751020768588 := 0
def tw17803915803879841476 := 0
def tw16549963520643891392 := 0
def tw15661034058019030473 := 0
def tw1351524948611682553 := 0
def tw13472362284351172396 := 0
def tw13444446342524639680 := 0
def tw1082097250967103515 := 0
def tw10367432029138823657 := 0
def tw13549653961791134462 := 0
def tw9985726686551199488 := 0
def tw153884013297432510 := 0
def tw2092922415730080532 := 0
def tw13599752145867550456 := 0
def tw13390728521041817554 := 0
def tw10674868601209251860 := 0
def tw9042672670366854076 := 0
def tw16845144897001296461 := 0
def tw16380254348438640508 := 0
def tw589859582513734838 := 0
def tw582434026275538870 := 0
def tw4069263179274813572 := 0
def tw4078492069058995012 := 0
def tw6778346407731210543 := 0
def tw4686417870379796477 := 0
def tw16019471845986317397 := 0
def tw16019369818748705330 := 0
def tw15575807689217638808 := 0
def tw14251715712070232821 := 0
def tw12966356787150834162 := 0
def tw1069903176762387107 := 0
def tw4178592522291345503 := 0
def tw292024384378144129 := 0
def tw3865043561665351074 := 0
def tw16884972840509560259 := 0
def tw7387244471374899147 := 0
def tw7242504487465333048 := 0
def tw6569872611035595482 := 0
def tw5068459086220370840 := 0
def tw3898363041379439953 := 0
def tw3167379729128476962 := 0
def tw17678378427788898245 := 0
def tw15936086360917968874 := 0
def tw15754563481208166766 := 0
def tw1528125708652092869 := 0
def tw13813900419159915787 := 0
def tw13663478922371905894 := 0
def tw12676002904222173401 := 0
def tw11284051147910030883 := 0
def tw793876775093393009 := 0
def tw3109626828103465181 := 0
def tw15653872075402418668 := 0
def tw14775624396286846600 := 0
def tw8137559858953267161 := 0
def tw3799575950899659396 := 0
def tw3653689588466355835 := 0
def tw18143536288463457427 := 0
def tw17297716244649817761 := 0
def tw15733638562521425186 := 0
def tw14603790856815918365 := 0
def tw12784790616652489754 := 0
def tw11875295015483638004 := 0
def tw10743134582272169034 := 0
def tw10178204508375457426 := 0
def tw12820874229260847513 := 0
def tw1297395622707470154 := 0
def tw8576132003980822582 := 0
def tw7962286442808505588 := 0
def tw3015729054297867155 := 0
def tw12513079349313566478 := 0
def tw6716275971889413488 := 0
def tw9321837393329098645 := 0
def tw266957296746887583 := 0
def tw7185580281969892879 := 0
def tw527397468718724453 := 0
def tw13229017391664315409 := 0
def tw9993958085181794055 := 0
def tw5984579942659917376 := 0
def tw587029098640317414 := 0
def tw11920476591636690822 := 0
def tw8710387026655016410 := 0
def tw4061466857897884795 := 0
def tw298764993710093107 := 0
def tw17039435636917616646 := 0
def tw16997402242979334435 := 0
def tw16874132522769653946 := 0
def tw15435768127790341511 := 0
def tw15238856135690946439 := 0
def tw10749930959127123057 := 0
def tw7827741636473801745 := 0
def tw451211278701749844 := 0
def tw3350048498820680177 := 0
def tw2495588319157886275 := 0
def tw18360500124118579974 := 0
def tw15167197149466359776 := 0
def tw14494132437886156141 := 0
def tw12799796206488073241 := 0
def tw11224642829197811439 := 0
def tw11007541282778996927 := 0
def tw3317405874591021104 := 0
def tw16981348875137727092 := 0
def tw860027197394657095 := 0
def tw8388983816010217838 := 0
def tw4882012086009826637 := 0
def tw2671659761416669852 := 0
def tw16271555704408700095 := 0
def tw15170454845483757711 := 0
def tw14682414184151825650 := 0
def tw14298434430053317878 := 0
def tw13973899416831900637 := 0
def tw13705000515423815687 := 0
def tw11699563107614532357 := 0
def tw10173169478318907293 := 0
def tw15391629070014948384 := 0
def tw2882236274419282212 := 0
def tw17288793464742322633 := 0
def tw15156694946578300538 := 0
def tw8900738120986838901 := 0
def tw3064999492972656934 := 0
def tw17104460130041737202 := 0
def tw7913718502132591665 := 0
def tw18360258358257336994 := 0
def tw17017270792430673298 := 0
def tw3045207352738387860 := 0
def tw6947372451786347083 := 0
def tw293809556978585629 := 0
def tw15154085698068780790 := 0
def tw11603756397595983427 := 0
def tw10463031868572718628 := 0
def tw7311340244675558390 := 0
def tw6717784821088389521 := 0
def tw6465536941642041853 := 0
def tw6035724888797540830 := 0
def tw5386273987700925860 := 0
def tw4205589049665888806 := 0
def tw4033832232634974392 := 0
def tw2858263247305120867 := 0
def tw2486721052309665787 := 0
def tw17925448132757377765 := 0
def tw16857364355036177708 := 0
def tw16007607530205403639 := 0
def tw15606898650294559032 := 0
def tw14873048416235221216 := 0
def tw14006729637800604316 := 0
def tw13698142076877759284 := 0
def tw13402801043965234453 := 0
def tw12570081959507735036 := 0
def tw10873719368591457457 := 0
def tw9025817488309031122 := 0
def tw8492053040525305928 := 0
def tw7763990212695611474 := 0
def tw16082675790645622511 := 0
def tw1463491120820380715 := 0
def tw14505313396823807676 := 0
def tw12298288669519071610 := 0
def tw9980159924612060109 := 0
def tw9521359348029709021 := 0
def tw8990847871623504447 := 0
def tw8907846266222877882 := 0
def tw8831114124326482907 := 0
def tw735597855482599701 := 0
def tw4719406837526372451 := 0
def tw4393647120615416322 := 0
def tw3401452264085725660 := 0
def tw311292859107901200 := 0
def tw231953866617126162 := 0
def tw2276075264667153964 := 0
def tw17191446588262625640 := 0
def tw15372023840318830249 := 0
def tw14861326599513898394 := 0
def tw14632927313713551214 := 0
def tw13231903840754295845 := 0
def tw11276484455963179835 := 0
def tw7628390178352303638 := 0
def tw8093040337692562800 := 0
def tw7172443487430748921 := 0
def tw7048030037386761788 := 0
def tw6640287527442524708 := 0
def tw17915312495896098735 := 0
def tw1763626645695806789 := 0
def tw17484396905547608097 := 0
def tw13651014013999156016 := 0
def tw13597877313414779162 := 0
def tw13160616360771148171 := 0
def tw12857703064488240578 := 0
def tw12530486829118294943 := 0
def tw11967102647525106718 := 0
def tw16897733528955800639 := 0
def tw7603691908521630676 := 0
def tw6955369489886428437 := 0
def tw6014816048397277847 := 0
def tw3672440533097005682 := 0
def tw12819921230208293054 := 0
def tw9095622833207650007 := 0
def tw9012184010548128455 := 0
def tw4557365887668381459 := 0
def tw4448074846412232946 := 0
def tw15066134579214759857 := 0
def tw10246549342179997038 := 0
def tw7473812837749090439 := 0
def tw7440123092248026049 := 0
def tw7350898758765466743 := 0
def tw7013684566044459153 := 0
def tw595961994384109195 := 0
def tw3859237062183086868 := 0
def tw2987446905139225211 := 0
def tw16250498230773881467 := 0
def tw14977028737535293986 := 0
def tw11150461189473744365 := 0
def tw10079953758397188937 := 0
def tw8714344858341834090 := 0
def tw6717877334428138968 := 0
def tw2054287516641172526 := 0
def tw16738739236951151752 := 0
def tw13049987117999363684 := 0
def tw1049715942933485741 := 0
def tw9930505111754465847 := 0
def tw9768216995070362461 := 0
def tw9315830109786847882 := 0
def tw8422229215725791798 := 0
def tw7073143274586009502 := 0
def tw6809041208604513126 := 0
def tw6478678043763779544 := 0
def tw6424104746750484377 := 0
def tw6412223210853306278 := 0
def tw6378904115901729226 := 0
def tw6367774200556049520 := 0
def tw5853129460325266300 := 0
def tw5641552316472958929 := 0
def tw525773032221060779 := 0
def tw5039377745763802435 := 0
def tw3926969342709816103 := 0
def tw2141439149900240869 := 0
def tw18008061019915691312 := 0
def tw17717182120629899811 := 0
def tw17655970736140586058 := 0
def tw17340548910324957209 := 0
def tw1707684965961756793 := 0
def tw16548095651305612024 := 0
def tw15083304476711279033 := 0
def tw14981885051715465272 := 0
def tw14089289463146625829 := 0
def tw13208643424279323410 := 0
def tw1287881777627934820 := 0
def tw12707170584872939968 := 0
def tw12486997744980113329 := 0
def tw11877688350879341435 := 0
def tw11860465750472324495 := 0
def tw11649741963130014277 := 0
def tw11049993046827452937 := 0
def tw9573035087843632581 := 0
def tw9528740227409566226 := 0
def tw9397213469434193514 := 0
def tw8919094668989511288 := 0
def tw8877333019239891633 := 0
def tw8077282710819157899 := 0
def tw7345123488317078046 := 0
def tw7299452220870101460 := 0
def tw6851180092305417635 := 0
def tw6716093357602642662 := 0
def tw6400764715787818362 := 0
def tw5508203809120742766 := 0
def tw5253300875988825368 := 0
def tw5252947479866704630 := 0
def tw5214997823854680163 := 0
def tw4834611476293854070 := 0
def tw4821874622272353777 := 0
def tw4517323366029263442 := 0
def tw4487529916556475176 := 0
def tw4339911237225999488 := 0
def tw410323688201861108 := 0
def tw4059629190666612327 := 0
def tw4015073107060526917 := 0
def tw3803666069534891495 := 0
def tw3704674958616344597 := 0
def tw3667142402605984699 := 0
def tw3611790364878034131 := 0
def tw3458874151032780793 := 0
def tw2491609061487734138 := 0
def tw2468175341533266825 := 0
def tw1897595569179684719 := 0
def tw18199986012188043993 := 0
def tw17914600992771300739 := 0
def tw17832686274490357842 := 0
def tw17619535479524014272 := 0
def tw17080752521152368708 := 0
def tw16909729821210007617 := 0
def tw1689337892047015549 := 0
def tw16861837545310089661 := 0
def tw16766516266812908146 := 0
def tw15676272233061290729 := 0
def tw15107079130063932009 := 0
def tw15093186275280019176 := 0
def tw15014527365414164243 := 0
def tw14568028210839012597 := 0
def tw14317279257943089449 := 0
def tw14259881915098628022 := 0
def tw13227332312880328676 := 0
def tw13096690246237713620 := 0
def tw12873766779050040544 := 0
def tw12594967019334945575 := 0
def tw12521892522554139690 := 0
def tw12515889035719135182 := 0
def tw12421903486051844985 := 0
def tw12361456318608657226 := 0
def tw11894183976445274865 := 0
def tw1168751507496369511 := 0
def tw11523766840601555561 := 0
def tw11506511130626022630 := 0
def tw11234397034658028898 := 0
def tw10948031547209497802 := 0
def tw10844526328307512867 := 0
def tw10800856717380539968 := 0
def tw10606417964321326521 := 0
def tw10543736281826202713 := 0
def tw10455712004640942709 := 0
def tw10252031388716638571 := 0
def tw10108927924370476111 := 0
def tw9962637912879570894 := 0
def tw9859211845994017097 := 0
def tw9820863261508972945 := 0
def tw9774612315381153768 := 0
def tw9755812188054220705 := 0
def tw9693023905789856524 := 0
def tw9657363141266560254 := 0
def tw9645980245237802711 := 0
def tw9610599562253081094 := 0
def tw9529807142347687726 := 0
def tw9452703413515715385 := 0
def tw9421663830413648675 := 0
def tw9353715340616580658 := 0
def tw9264563390953868218 := 0
def tw9240341092358407009 := 0
def tw9236224908099712005 := 0
def tw9051560570264509032 := 0
def tw9013911575857654558 := 0
def tw8959471815000113969 := 0
def tw8950256722168611420 := 0
def tw8860370718474207372 := 0
def tw881669090646457736 := 0
def tw8811150608352286562 := 0
def tw8677775601173793408 := 0
def tw8668437458352266680 := 0
def tw8617163797722838787 := 0
def tw8606345920550807962 := 0
def tw8563425655200150911 := 0
def tw8552551705232318183 := 0
def tw8546107498255029884 := 0
def tw8506027373153629935 := 0
def tw8489663007860387287 := 0
def tw8445636173636441312 := 0
def tw8343258351424828135 := 0
def tw8331363718911944759 := 0
def tw8286695135914116916 := 0
def tw8259655382879598561 := 0
def tw8254868477879625426 := 0
def tw8251030641978505394 := 0
def tw8239245261281391314 := 0
def tw8199093092733467041 := 0
def tw8183456787062487124 := 0
def tw8175169093054318482 := 0
def tw8142306575211798118 := 0
def tw8086075438942828411 := 0
def tw8085214461876785070 := 0
def tw7945793299344777916 := 0
def tw7780250221546159224 := 0
def tw7713547010723652163 := 0
def tw770480008629964233 := 0
def tw7686402677007227365 := 0
def tw7598395508435686791 := 0
def tw7556261885915579554 := 0
def tw7551398591732816334 := 0
def tw7335770055505816301 := 0
def tw7262959498966148974 := 0
def tw7255493870017565710 := 0
def tw7238340529644413618 := 0
def tw7234475482117485583 := 0
def tw7093897383658324609 := 0
def tw7082589016432493552 := 0
def tw7070909812921796197 := 0
def tw7053371204286567882 := 0
def tw7042721052798715575 := 0
def tw7039757421151569406 := 0
def tw7036162022908140110 := 0
def tw7023079643574160853 := 0
def tw7019108289246278326 := 0
def tw7005961935836973202 := 0
def tw7005031535499524569 := 0
def tw6975490899385882118 := 0
def tw6969577905210749736 := 0
def tw6958293609629442486 := 0
def tw6860300526373909786 := 0
def tw6844644609143438297 := 0
def tw6733779412092151256 := 0
def tw6712114163866464392 := 0
def tw6707469118162572279 := 0
def tw6678228964908604775 := 0
def tw663973193407480295 := 0
def tw6601652283275075623 := 0
def tw6525071088347186988 := 0
def tw6495137996408470316 := 0
def tw6457973578204286978 := 0
def tw6346998426089711808 := 0
def tw6325784304937676728 := 0
def tw6297717344332690960 := 0
def tw6284102921035621173 := 0
def tw6240746261375387174 := 0
def tw6212359923297615037 := 0
def tw6058503599479994370 := 0
def tw6042201329255473480 := 0
def tw5850194312975326399 := 0
def tw5848627107831474245 := 0
def tw5759231000748645186 := 0
def tw5684258657654281487 := 0
def tw5671732471040797175 := 0
def tw564616958655829263 := 0
def tw5622219303546579658 := 0
def tw5542445817255292674 := 0
def tw5448725024359173009 := 0
def tw5446921915491572731 := 0
def tw5446715751649121360 := 0
def tw5438483979893665229 := 0
def tw5375533039327543461 := 0
def tw5367397738945644536 := 0
def tw5360639136424255514 := 0
def tw5293008832966531724 := 0
def tw5283167188364365678 := 0
def tw5255520530642629026 := 0
def tw5217359265230379136 := 0
def tw5198974996213206493 := 0
def tw517486029624457167 := 0
def tw5148497344299922108 := 0
def tw5105952625265887625 := 0
def tw509457385427886075 := 0
def tw5044910530425764195 := 0
def tw5024396874947567731 := 0
def tw5009200760091235548 := 0
def tw497755364244610241 := 0
def tw4927935512100879394 := 0
def tw4800566502336510476 := 0
def tw4673308246024768165 := 0
def tw4616486522009913817 := 0
def tw4564832988525097325 := 0
def tw4454659082631973354 := 0
def tw4406782715370825990 := 0
def tw436747447373543727 := 0
def tw4333003173842240468 := 0
def tw4264903190110216145 := 0
def tw4254207627376352675 := 0
def tw4246852222869517604 := 0
def tw4237656823948917569 := 0
def tw4193547100593895568 := 0
def tw4131900719090579623 := 0
def tw4113780381088319766 := 0
def tw4085418317110630723 := 0
def tw3946327058448377315 := 0
def tw3895536733359200784 := 0
def tw3776683905735313610 := 0
def tw3738880673980197816 := 0
def tw3691971642668577914 := 0
def tw3654654902331131120 := 0
def tw3607106399157519884 := 0
def tw3581177797534000119 := 0
def tw3514655505179754508 := 0
def tw349820180798151422 := 0
def tw3463941682169444529 := 0
def tw3441427555306413291 := 0
def tw3281380663470020345 := 0
def tw3060726146687105074 := 0
def tw3018689740377492476 := 0
def tw2993081234170066212 := 0
def tw2777053903790476699 := 0
def tw2742933402393500418 := 0
def tw2705574109025966042 := 0
def tw2701312339497948413 := 0
def tw2699028260739042898 := 0
def tw2679072467181740434 := 0
def tw2673895103290349881 := 0
def tw2629870215196252405 := 0
def tw2557892571154746893 := 0
def tw2552149669448229450 := 0
def tw253150525245746183 := 0
def tw2487185797043894950 := 0
def tw2481940728459202738 := 0
def tw23384443754207 := 0
def tw2207758797728303571 := 0
def tw2165083998902712775 := 0
def tw2099285535332851130 := 0
def tw2091631115183529673 := 0
def tw2058735727686755577 := 0
def tw1923927317640817295 := 0
def tw18439643394106743834 := 0
def tw18409354767988930224 := 0
def tw18376501122638816511 := 0
def tw18376146949246456860 := 0
def tw18356389967788029557 := 0
def tw18351789413807427039 := 0
def tw18350594219529740169 := 0
def tw18286639348493848595 := 0
def tw18251024806900299214 := 0
def tw18201147811772531687 := 0
def tw18171413318542783672 := 0
def tw17848793483343350751 := 0
def tw17808354857355608879 := 0
def tw17781000411909994763 := 0
def tw17752681627953835105 := 0
def tw17744251124683638625 := 0
def tw17742767432655310812 := 0
def tw17733819805056242924 := 0
def tw17572713109387526243 := 0
def tw17537031256043895402 := 0
def tw17453717179595466802 := 0
def tw17369225787026387248 := 0
def tw17265365763347340486 := 0
def tw17249069937082908142 := 0
def tw17162433943857425037 := 0
def tw17088182579393314961 := 0
def tw17041433864176572476 := 0
def tw17040829396160890071 := 0
def tw16993555656984328798 := 0
def tw16883308314706242807 := 0
def tw16871740901566651030 := 0
def tw16862178108696541271 := 0
def tw16853912732782679570 := 0
def tw16847321423389193088 := 0
def tw16724629231016811794 := 0
def tw16633555587278091110 := 0
def tw16632529180739029198 := 0
def tw16596314530144013159 := 0
def tw16523748462991265774 := 0
def tw16510984148288752163 := 0
def tw16347107886626236744 := 0
def tw16329843019418129830 := 0
def tw16202758802299042206 := 0
def tw16192309499100299923 := 0
def tw16186097144346032231 := 0
def tw16141519130478290302 := 0
def tw16091360684862039570 := 0
def tw16080734515652138253 := 0
def tw16072772985368380056 := 0
def tw16060796022192851829 := 0
def tw15980762342899479128 := 0
def tw15932964627351433888 := 0
def tw15906752547284045823 := 0
def tw15880608389256868704 := 0
def tw15878475929625192804 := 0
def tw15853812028294995081 := 0
def tw15836391837983399020 := 0
def tw15826721361120575423 := 0
def tw15797595355021838281 := 0
def tw15725859842190016791 := 0
def tw1568423807910995455 := 0
def tw15668115265382997838 := 0
def tw15603459263835039265 := 0
def tw15582328335859988822 := 0
def tw15550063917034124622 := 0
def tw15516556693764989572 := 0
def tw15492590032136664692 := 0
def tw15442855561332836827 := 0
def tw15398433747667696376 := 0
def tw15311773645204754613 := 0
def tw15217020887427748028 := 0
def tw15200289451383777116 := 0
def tw15092486132217413136 := 0
def tw15076840827047228433 := 0
def tw15052883234267259624 := 0
def tw15029536480834562516 := 0
def tw14969891973146886569 := 0
def tw14928037209183927542 := 0
def tw14909524504782531829 := 0
def tw14892305712422697867 := 0
def tw14883542830452837895 := 0
def tw14863919984958775825 := 0
def tw14823412774816182007 := 0
def tw14805815675983513248 := 0
def tw14667595465256334596 := 0
def tw14667262970981479379 := 0
def tw14599718942264405175 := 0
def tw14545390132296785874 := 0
def tw14491105220376309740 := 0
def tw14488478267272989765 := 0
def tw14426179206511380094 := 0
def tw14365852860351581162 := 0
def tw14343820056336693694 := 0
def tw14286247860790995489 := 0
def tw14204238230976340065 := 0
def tw1408566184937759849 := 0
def tw14079812603611654025 := 0
def tw14044192453624467437 := 0
def tw13953940948471026709 := 0
def tw13939816216618124048 := 0
def tw13910245760447564312 := 0
def tw13884195620252547668 := 0
def tw13878807056518904785 := 0
def tw1385467841862141965 := 0
def tw1379615494096037567 := 0
def tw13607910956989360416 := 0
def tw13571260749428044231 := 0
def tw1355116340996812734 := 0
def tw13541434194380422858 := 0
def tw13524447461554758594 := 0
def tw13473009748778643769 := 0
def tw13449131139990920148 := 0
def tw13412100935094548925 := 0
def tw13362936584959275865 := 0
def tw13361106712914121130 := 0
def tw13317198590799638428 := 0
def tw13311228497162841723 := 0
def tw13289823538916260245 := 0
def tw13269018372538801077 := 0
def tw13243464835963793165 := 0
def tw13199826682829899436 := 0
def tw13180348160232125583 := 0
def tw13161168183253488810 := 0
def tw13079373369908150199 := 0
def tw13073552398285317626 := 0
def tw12995159321451318886 := 0
def tw1299094288025144008 := 0
def tw12963115896517363129 := 0
def tw12923559506949312287 := 0
def tw12918202476001933203 := 0
def tw12833767942076376438 := 0
def tw12801632325109756574 := 0
def tw12770293537179341550 := 0
def tw12662535318090837757 := 0
def tw12629370721018205609 := 0
def tw12624651028331996812 := 0
def tw12581717606054893678 := 0
def tw12473863179076328177 := 0
def tw12473615475733106289 := 0
def tw12425228631087237335 := 0
def tw12407007903875220177 := 0
def tw12399560907801352878 := 0
def tw12384038732940833307 := 0
def tw12300677911426840306 := 0
def tw12222545822980976477 := 0
def tw12205239724165259734 := 0
def tw12163741861268980856 := 0
def tw12018689075748085292 := 0
def tw11975329196059067729 := 0
def tw11935831591611139796 := 0
def tw11901077641312842676 := 0
def tw11677708506845727464 := 0
def tw11659939515891723349 := 0
def tw11525368734335841069 := 0
def tw11489169726793528739 := 0
def tw1142738874357853149 := 0
def tw1135554424500204750 := 0
def tw11346281765902878764 := 0
def tw11338750863319270126 := 0
def tw11198528722777835352 := 0
def tw11159254769854681476 := 0
def tw11103379432379389313 := 0
def tw11071255861425793570 := 0
def tw11059858363500245188 := 0
def tw11033475087542585843 := 0
def tw11002718647510563727 := 0
def tw10955205047632886939 := 0
def tw10928344777202819202 := 0
def tw10882804679995772124 := 0
def tw10860970412445115613 := 0
def tw10774421923982875598 := 0
def tw106861081015752869 := 0
def tw1060803949158976889 := 0
def tw10595601209827892785 := 0
def tw10572341578744993531 := 0
def tw10447316515875576955 := 0
def tw1039364871311118353 := 0
def tw10316289919477719920 := 0
def tw10257628990660682793 := 0
def tw10244881922003852860 := 0
def tw10187749537624992215 := 0
def tw1016092690051169558 := 0
def tw10097437545071021686 := 0
def tw10084104797537645415 := 0
end PySem.W.Fast
open PySem PySem.W PyProof.Rows
set_option maxRecDepth 100000 in
set_option maxHeartbeats 0 in
theorem PySem.Challenge.cw_roadsettings_k32_settings_declared_holds : PySem.Challenge.rw_roadsettings_k32_settings_declared.Holds := by
  w_on; o_law; k_head; (case hw => w_witness2)
  k_fill
  refine' K32.walk (l := PySem.Challenge.rw_roadsettings_k32_settings_declared) (P_z32 := 900) rfl rfl (fun w h Y => ⟨PySem.W.km_in_of Y, PySem.W.km_tabs_of Y⟩) ?hK ?hP0 ?F
  case hP0 => decide
  case hK =>
    intro w b hb
    simp only [List.mem_cons, List.not_mem_nil, or_false] at hb
    rcases hb with rfl | rfl | rfl
    · exact ⟨by kernel_rfl, 274, by kernel_rfl⟩
    · exact ⟨by kernel_rfl, 377, by kernel_rfl⟩
    · exact ⟨by kernel_rfl, 904, by kernel_rfl⟩
  case F =>
    intro w mg fa h KX G hmg
    refine' K32.all_mk KX G hmg ?_ ?_ ?_ ?_ ?_ ?_ ?_ ?_ ?_ ?_ ?_ ?_ ?_ ?_ ?_ ?_ ?_ ?_ ?_ ?_ ?_ ?_ ?_ ?_ ?_ ?_ ?_ ?_ ?_ ?_ ?_ ?_ ?_ ?_ ?_ ?_ ?_ ?_ ?_ ?_ ?_ ?_ ?_ ?_ ?_ ?_ ?_ ?_ ?_ ?_ ?_ ?_ ?_ ?_ ?_ ?_ ?_ ?_ ?_ ?_ ?_ ?_ ?_ ?_ ?_ ?_ ?_ ?_ ?_ ?_ ?_ ?_ ?_ ?_ ?_ ?_ ?_ ?_ ?_ ?_ ?_ ?_ ?_ ?_ ?_ ?_ ?_ ?_ ?_ ?_ ?_ ?_ ?_ ?_ ?_ ?_ ?_ ?_ ?_ ?_ ?_ ?_
    all_goals try (first | refine ⟨⟨by k_is, by k_is, by k_is⟩, ⟨_, _, _, _, _, _, _, _, _, rfl, by k_is, by k_is⟩, by k_is⟩ | refine ⟨by k_is, ⟨_, _, _, _, _, _, _, _, _, rfl, by k_is, by k_is⟩, by k_is⟩ | refine ⟨by k_is, ⟨by k_is, by k_is, by k_is, by k_is⟩, by k_is, by k_is⟩ | refine ⟨⟨by k_is, by k_is, by k_is⟩, ⟨_, _, _, _, _, _, _, _, rfl, by k_is, by k_is⟩, by k_is, by kernel_rfl⟩ | refine ⟨by k_is, ⟨_, _, _, _, _, _, _, _, rfl, by k_is, by k_is⟩, by k_is, by kernel_rfl⟩ | (show _ = _; first | k_is | kernel_rfl))
