import PyProof.Rows.All
import Wide.All
import OpenK.AllK
import Wide.FinOn
import Lean
import PyProof.EqAt
import PyProof.EqKinds
import PyProof.TupleCall
import PyProof.AutoListH
import PyProof.ExcBaseAll.ValueError
import PyProof.ExcAttrAll.ValueError
import PyProof.Logic
import PyProof.StrReplace2
import PySem.Challenge.RW_roadsettings_k68_programs_read
set_option Elab.async false
set_option linter.all false
set_option maxRecDepth 100000
namespace L2
open PySem PySem.Spec PyProof.Rows
abbrev ZU:=Sum Int Str
def Vr:ZU→Value→Bool
 | .inl k,v=>Value.isInt k v
 | .inr x,v=>Value.isStrOf x v
def keyH (w:World):ZU→Int
 | .inl k=>hashInt k
 | .inr x=>hashStr w x
theorem YA:∀{k:ZU}{v:Value},Vr k v=true→(∃ i t,k=Sum.inl i∧v=Value.int i t)∨(∃ x t,k=Sum.inr x∧v=Value.str x t)
 | .inl i,v,h=>by
   obtain ⟨t,e⟩:=Value.isInt_shape (k:=i) (v:=v) h
   exact .inl ⟨i,t,rfl,e⟩
 | .inr x,v,h=>by
   obtain ⟨t,e⟩:=Value.isStrOf_shape (x:=x) (v:=v) h
   exact .inr ⟨x,t,rfl,e⟩
theorem Zfu (i:Int)(t:Tok):Vr (.inl i) (.int i t)=true:=by simp [Vr,Value.isInt]
theorem Zgf (x:Str)(t:Tok):Vr (.inr x) (.str x t)=true:=by simp [Vr,Value.isStrOf]
theorem ZjL (a b:Int):decide ((Sum.inl a:ZU)=Sum.inl b)=(a == b):=by
 by_cases e:a=b
 · subst e;simp
 · have h:¬ (Sum.inl a:ZU)=Sum.inl b:=fun q=>e (Sum.inl.inj q)
   rw [decide_eq_false h]
   exact (beq_eq_false_iff_ne.mpr e).symm
theorem Zkc (a b:Str):decide ((Sum.inr a:ZU)=Sum.inr b)=decide (a=b):=by
 by_cases e:a=b
 · subst e;simp
 · have h:¬ (Sum.inr a:ZU)=Sum.inr b:=fun q=>e (Sum.inr.inj q)
   rw [decide_eq_false h,decide_eq_false e]
theorem ZjV (a:Int)(b:Str):decide ((Sum.inl a:ZU)=Sum.inr b)=false:=decide_eq_false (fun q=>nomatch q)
theorem ZkL (a:Str)(b:Int):decide ((Sum.inr a:ZU)=Sum.inl b)=false:=decide_eq_false (fun q=>nomatch q)
def Ym (prog:Program)(w:World):PySem.KeyKind prog w ZU where
 is:=Vr
 hash:=keyH w
 inj := fun v a b ha hb=>by
   rcases YA ha with ⟨i,t,rfl,rfl⟩ | ⟨x,t,rfl,rfl⟩
   · rcases YA hb with ⟨j,u,rfl,e⟩ | ⟨y,u,rfl,e⟩
     · injection e with e1 _;rw [e1]
     · exact nomatch e
   · rcases YA hb with ⟨j,u,rfl,e⟩ | ⟨y,u,rfl,e⟩
     · exact nomatch e
     · injection e with e1 _;rw [e1]
 byValue:=fun k v h=>by
   rcases YA h with ⟨i,t,rfl,rfl⟩ | ⟨x,t,rfl,rfl⟩<;>rfl
 pyHash:=fun hv h=>by
   rcases YA hv with ⟨i,t,rfl,rfl⟩ | ⟨x,t,rfl,rfl⟩
   · exact wpAny_pyHash_int h
   · exact wpAny_pyHash_str h
 eqBool:=fun hu hv h=>by
   rcases YA hu with ⟨i,t,rfl,rfl⟩ | ⟨x,t,rfl,rfl⟩
   · rcases YA hv with ⟨j,u,rfl,rfl⟩ | ⟨y,u,rfl,rfl⟩
     · rw [ZjL] at h;exact wpAny_eqBool_int h
     · rw [ZjV] at h;exact SeqAt.EqAt.int_str i t y u _ _ _ _ h
   · rcases YA hv with ⟨j,u,rfl,rfl⟩ | ⟨y,u,rfl,rfl⟩
     · rw [ZkL] at h;exact SeqAt.EqAt.str_int x t j u _ _ _ _ h
     · rw [Zkc] at h;exact wpAny_eqBool_str h
 «strs»:=fun k x t v h=>by
   rcases YA h with ⟨i,u,rfl,e⟩ | ⟨y,u,rfl,e⟩
   · exact nomatch e
   · injection e with e1 _
     subst e1
     cases v<;>rfl
theorem Zdc (prog:Program)(w:World)(i:Int)(t:Tok):(Ym prog w).is (.inl i) (.int i t)=true:=Zfu i t
theorem Zdk (prog:Program)(w:World)(x:Str)(t:Tok):(Ym prog w).is (.inr x) (.str x t)=true:=Zgf x t
end L2
namespace L2
open PySem PySem.Spec PyProof.Rows
inductive V where
 | non | bl (b:Bool) | int (i:Int) | str (x:Str) | byt (b:Array UInt8) | flt (b:UInt64) | ref (a:Addr) | ty (n:String)
 deriving DecidableEq
def RelV:V→Value→Prop
 | .non,u=>u=Value.none
 | .bl b,u=>u=Value.bool b
 | .int i,u=>∃ t,u=Value.int i t
 | .str x,u=>∃ t,u=Value.str x t
 | .byt b,u=>∃ t,u=Value.bytes b t
 | .flt b,u=>∃ t,u=Value.float b t
 | .ref a,u=>u=Value.ref a
 | .ty n,u=>u=Value.type n
abbrev Vals:List V→List Value→Prop:=Paired RelV
theorem Vals.length {xs:List V}{us:List Value}(r:Vals xs us):xs.length=us.length:=Paired.length r
theorem Vals.get:∀{xs:List V}{us:List Value}{i:Nat}{x:V},Vals xs us→xs[i]?=some x→∃ u,us[i]?=some u∧RelV x u
 | _,_,_,_,.nil,e=>by simp at e
 | _,_,0,_,.cons r _,e=>by simp at e;subst e;exact ⟨_,rfl,r⟩
 | _,_,i+1,x,.cons _ t,e=>by
   obtain ⟨u,h1,h2⟩:=Vals.get (i:=i) (x:=x) t (by simpa using e)
   exact ⟨u,by simpa using h1,h2⟩
theorem Vals.set {x:V}{u:Value}(r:RelV x u):∀{xs:List V}{us:List Value}(i:Nat),Vals xs us→Vals (xs.set i x) (us.set i u)
 | _,_,_,.nil=>.nil
 | _,_,0,.cons _ t=>.cons r t
 | _,_,i+1,.cons q t=>.cons q (Vals.set r i t)
theorem Vals.append:∀{xs ys:List V}{us ws:List Value},Vals xs us→Vals ys ws→Vals (xs++ys) (us++ws)
 | _,_,_,_,.nil,s=>s
 | _,_,_,_,.cons r t,s=>.cons r (Vals.append t s)
theorem Vals.take:∀{xs:List V}{us:List Value}(n:Nat),Vals xs us→Vals (xs.take n) (us.take n)
 | _,_,0,_=>.nil
 | _,_,_+1,.nil=>.nil
 | _,_,n+1,.cons r t=>.cons r (Vals.take n t)
theorem Vals.drop:∀{xs:List V}{us:List Value}(n:Nat),Vals xs us→Vals (xs.drop n) (us.drop n)
 | _,_,0,r=>r
 | _,_,_+1,.nil=>.nil
 | _,_,n+1,.cons _ t=>Vals.drop n t
def RelO:Option V→Option Value→Prop
 | some v,some u=>RelV v u
 | none,none=>True
 | _,_=>False
def KV {κ:Type}:List (κ×V)→List (κ×Value)→Prop:=Paired fun (p:κ×V) (q:κ×Value)=>p.1=q.1∧RelV p.2 q.2
def kV:ZU→V
 | .inl i=>.int i
 | .inr x=>.str x
inductive HO where
 | lst (xs:List V)
 | tup (xs:List V)
 | dK (kvs:List (ZU×V)) | dT (kvs:List (List ZU×V))
 | set (S:Int→Bool) (n:Nat)
 | ins (C dx:Addr) (fs:List (Str×V))
 | own (x:Addr)
 | xd (fs:List (Str×V))
 | met (f x:Addr)
 | rng (lo hi:Int)
 | frz (o:Obj) (u:HO)
 | tbl (ps:Array Value)
 | ext (φ:Heap→Prop)
abbrev Hp:=Addr→Option HO
def upd (H:Hp)(a:Addr)(o:HO):Hp:=fun b=>if b=a then some o else H b
theorem Zd {H:Hp}{a:Addr}{o:HO}:upd H a o a=some o:=by unfold upd;rw [if_pos rfl]
theorem Zo {H:Hp}{a b:Addr}{o:HO}(h:b≠a):upd H a o b=H b:=by unfold upd;rw [if_neg h]
theorem ZiS {H:Hp}{a:Addr}{o u:HO}:upd (upd H a o) a u=upd H a u:=by
 funext b;unfold upd;split<;>rfl
theorem Vy {H:Hp}{a b:Addr}{o u:HO}(h:H a=some o)(h':H b=some u)(d:o≠u):a≠b:=by
 intro e;subst e;rw [h] at h';exact d (Option.some.inj h')
theorem ZH {H:Hp}{a b:Addr}{o:HO}(h:H a=some o)(h':H b=none):a≠b:=by
 intro e;subst e;rw [h] at h';cases h'
section
variable (P:Program)(w:World)
def ObjOk (H:Hp)(h:Heap)(a:Addr):HO→Prop
 | .lst xs=>xs.length≤sizeLine∧∃ (its:List Value) (n:Nat),Vals xs its∧h.get? a=some { cls:=.type "list",data:=.seq its.toArray n }
 | .tup xs=>xs.length≤sizeLine∧∃ its:List Value,Vals xs its∧IsTup h a its.toArray
 | .dK kvs=>kvs.length≤sizeLine∧(a == sysModules)=false∧∃ vs,KV kvs vs∧h.DictOf (Ym P w) a vs
 | .dT kvs=>kvs.length≤sizeLine∧(a == sysModules)=false∧∃ xs:List (List ZU×Addr×Value),
     Paired (fun (p:List ZU×V) (q:List ZU×Addr×Value)=>p.1=q.1∧H q.2.1=some (.tup (p.1.map kV))∧RelV p.2 q.2.2) kvs xs ∧
     ∃ o es ep,h.get? a=some o∧o.ExactDict∧o.data=.dict es ep∧es.toList=xs.map (entryOfKey (tupleKind (Ym P w)))∧(xs.map (·.1)).Nodup
 | .set S n=>h.SetOf (intKind P w) a S n
 | .ins C dx fs=>H dx=some (.own a)∧fs.length≤1000∧dx≠a∧h.get? a=some (PySem.W.instObj C dx) ∧
     ∃ mA,h.Ns1 dx mA∧(∀ f,RelO (fs.lookup f) (mA f))∧PySem.Within mA (fs.map (·.1))
 | .own _=>∃ o,h.get? a=some o
 | .xd fs=>∃ mA,h.Ns1 a mA∧∀ f,RelO (fs.lookup f) (mA f)
 | .rng lo hi=>∃ t u v,h.get? a=some { cls:=.type "range",data:=.fields #[.int lo t,.int hi u,.int 1 v] }
 | .frz o u=>h.get? a=some o∧ObjOk H h a u
 | .tbl ps=>h.get? a=some { cls:=.none,data:=.fields ps }
 | .met f x=>h.get? a=some (PySem.W.methodObj (.ref f) (.ref x))
 | .ext φ=>φ h∧(∃ o,h.get? a=some o)∧∀ h1 h2:Heap,φ h1→(∀ o,h1.get? a=some o→h2.get? a=some o)→φ h2
def HOk (H:Hp)(h:Heap):Prop:=∀ a o,H a=some o→ObjOk P w H h a o
end
section
variable {P:Program}{w:World}{H H':Hp}{h h':Heap}{a:Addr}{o:HO}
theorem ObjOk.lt (x:ObjOk P w H h a o):a < h.objs.size:=by
 cases o with
 | lst xs=>obtain ⟨_,_,_,_,e⟩:=x;exact Heap.lt_size e
 | tup xs=>obtain ⟨_,_,_,p⟩:=x;exact p.lt
 | dK kvs=>obtain ⟨_,_,_,_,o,_,_,e,_⟩:=x;exact Heap.lt_size e
 | dT kvs=>obtain ⟨_,_,_,_,o,_,_,e,_⟩:=x;exact Heap.lt_size e
 | set S n=>obtain ⟨o,_,_,_,e,_⟩:=x;exact Heap.lt_size e
 | ins C dx fs=>obtain ⟨_,_,_,e,_⟩:=x;exact Heap.lt_size e
 | own y=>obtain ⟨_,e⟩:=x;exact Heap.lt_size e
 | xd fs=>obtain ⟨_,⟨_,_,_,e,_⟩,_⟩:=x;exact Heap.lt_size e
 | rng lo hi=>obtain ⟨_,_,_,e⟩:=x;exact Heap.lt_size e
 | frz ob u=>obtain ⟨e,_⟩:=x;exact Heap.lt_size e
 | tbl ps=>exact Heap.lt_size (show h.get? a=some _ from x)
 | met f y=>exact Heap.lt_size (show h.get? a=some _ from x)
 | ext φ=>obtain ⟨_,⟨_,e⟩,_⟩:=x;exact Heap.lt_size e
theorem Paired.mapP {α β:Type}{F G:α→β→Prop}:∀{l₁:List α}{l₂:List β},Paired F l₁ l₂→(∀ a b,F a b→G a b)→Paired G l₁ l₂
 | _,_,.nil,_=>.nil
 | _,_,.cons r t,f=>.cons (f _ _ r) (Paired.mapP t f)
theorem ObjOk.stay (x:ObjOk P w H h a o)(k:∀ b u,(b=a∨H b=some (.own a))→h.get? b=some u→h'.get? b=some u)
   (ho:∀ b,H b=some (.own a)→H' b=some (.own a)) (ht:∀ b xs,H b=some (.tup xs)→H' b=some (.tup xs)):ObjOk P w H' h' a o:=by
 induction o with
 | lst xs=>obtain ⟨z,its,n,r,e⟩:=x;exact ⟨z,its,n,r,k _ _ (.inl rfl) e⟩
 | tup xs=>obtain ⟨z,its,r,ob,e,c⟩:=x;exact ⟨z,its,r,ob,k _ _ (.inl rfl) e,c⟩
 | dK kvs=>obtain ⟨z,y,vs,r,ob,es,ep,e,c⟩:=x;exact ⟨z,y,vs,r,ob,es,ep,k _ _ (.inl rfl) e,c⟩
 | dT kvs =>
   obtain ⟨z,y,xs,r,ob,es,ep,e,c⟩:=x
   exact ⟨z,y,xs,Paired.mapP r fun p q z=>⟨z.1,ht _ _ z.2.1,z.2.2⟩,ob,es,ep,k _ _ (.inl rfl) e,c⟩
 | set S n=>obtain ⟨ob,es,ep,t,e,c⟩:=x;exact ⟨ob,es,ep,t,k _ _ (.inl rfl) e,c⟩
 | ins C dx fs =>
   obtain ⟨d,z,ne,e,mA,⟨od,es,ep,e2,c⟩,r⟩:=x
   exact ⟨ho _ d,z,ne,k _ _ (.inl rfl) e,mA,⟨od,es,ep,k _ _ (.inr d) e2,c⟩,r⟩
 | own y=>obtain ⟨ob,e⟩:=x;exact ⟨ob,k _ _ (.inl rfl) e⟩
 | xd fs=>obtain ⟨mA,⟨od,es,ep,e,c⟩,r⟩:=x;exact ⟨mA,⟨od,es,ep,k _ _ (.inl rfl) e,c⟩,r⟩
 | rng lo hi=>obtain ⟨t,u,v,e⟩:=x;exact ⟨t,u,v,k _ _ (.inl rfl) e⟩
 | frz ob u ih=>obtain ⟨e,q⟩:=x;exact ⟨k _ _ (.inl rfl) e,ih q⟩
 | tbl ps =>
   have e:h.get? a=some { cls:=.none,data:=.fields ps }:=x
   show h'.get? a=some { cls:=.none,data:=.fields ps }
   exact k a _ (.inl rfl) e
 | met f y =>
   have e:h.get? a=some (PySem.W.methodObj (.ref f) (.ref y)):=x
   show h'.get? a=some (PySem.W.methodObj (.ref f) (.ref y))
   exact k a _ (.inl rfl) e
 | ext φ=>obtain ⟨p,⟨o,e⟩,st⟩:=x;exact ⟨st _ _ p fun o q=>k _ _ (.inl rfl) q,⟨o,k _ _ (.inl rfl) e⟩,st⟩
theorem HOk.lt (x:HOk P w H h)(e:H a=some o):a < h.objs.size:=(x a o e).lt
theorem HOk.fresh (x:HOk P w H h)(e:h.objs.size≤a):H a=none:=by
 cases q:H a with
 | none=>rfl
 | some u=>exact absurd (Nat.lt_of_lt_of_le (x.lt q) e) (Nat.lt_irrefl _)
theorem HOk.kept (x:HOk P w H h)(k:∀ b u,h.get? b=some u→h'.get? b=some u):HOk P w H h':=fun a o e =>
 (x a o e).stay (fun b u _ q=>k b u q) (fun _ q=>q) fun _ _ q=>q
theorem HOk.laid (x:HOk P w H h)(k:∀ b u,h.get? b=some u→h'.get? b=some u)(hp:h.objs.size≤a)(new:ObjOk P w (upd H a o) h' a o):HOk P w (upd H a o) h':=fun b u e=>by
 have hn:=x.fresh hp
 by_cases hb:b=a
 · subst hb;rw [Zd] at e;cases e;exact new
 · rw [Zo hb] at e
   exact (x b u e).stay (fun c v _ q=>k c v q) (fun c q=>by rw [Zo (ZH q hn)];exact q) fun c xs q=>by rw [Zo (ZH q hn)];exact q
end
def Rd (H:Hp)(a:Addr)(u:HO):Prop:=H a=some u∨∃ o,H a=some (.frz o u)
theorem Rd.ok {P:Program}{w:World}{H:Hp}{h:Heap}{a:Addr}{u:HO}(r:Rd H a u)(x:HOk P w H h):ObjOk P w H h a u:=by
 rcases r with r | ⟨o,r⟩
 · exact x a u r
 · obtain ⟨_,q⟩:=x a _ r
   exact q
def Mut:Option HO→Prop
 | some (.lst _)=>True
 | some (.dK _)=>True
 | some (.dT _)=>True
 | some (.set _ _)=>True
 | some (.ins _ _ _)=>True
 | some (.ext _)=>True
 | _=>False
section
variable {P:Program}{w:World}{H:Hp}{h h':Heap}{x e:Addr}{o':HO}
theorem HOk.write (ok:HOk P w H h)(mu:Mut (H x))(he:e=x∨H e=some (.own x))(k:∀ b u,b≠e→h.get? b=some u→h'.get? b=some u)(heo:∃ u,h'.get? e=some u)
   (new:ObjOk P w (upd H x o') h' x o'):HOk P w (upd H x o') h':=fun b u q=>by
 have nown:∀ c y,H c=some (.own y)→c≠x:=fun c y r z=>by subst z;rw [r] at mu;exact mu
 have ntup:∀ c xs,H c=some (.tup xs)→c≠x:=fun c xs r z=>by subst z;rw [r] at mu;exact mu
 by_cases hb:b=x
 · subst hb;rw [Zd] at q;cases q;exact new
 · rw [Zo hb] at q
   by_cases hbe:b=e
   · have q':H b=some (.own x):=by
       rcases he with z | z
       · exact absurd (hbe.trans z) hb
       · rw [hbe];exact z
     rw [q] at q';cases q'
     obtain ⟨v,hv⟩:=heo
     exact ⟨v,by rw [hbe];exact hv⟩
   · refine (ok b u q).stay (fun c v hc r=>k c v ?_ r) (fun c r=>by rw [Zo (nown c b r)];exact r) fun c xs r=>by rw [Zo (ntup c xs r)];exact r
     rcases hc with rfl | hc
     · exact hbe
     · rintro rfl
       rcases he with z | z
       · exact nown c b hc z
       · rw [hc] at z;cases z;exact hb rfl
end
structure Un (fs ex:List Addr)(H H':Hp)(h h':Heap):Prop where
 keep:∀ b o,h.get? b=some o→H b=none→b ∉ fs→b ∉ ex→h'.get? b=some o
 slot:∀ b o,h.get? b=some o→H b=none→b∈fs→b ∉ ex→∃ sl,h'.get? b=some { o with slots:=sl }
 free:∀ b o,h.get? b=some o→H b=none→b ∉ ex→H' b=none
 there:∀ b o,h.get? b=some o→b ∉ ex→∃ o',h'.get? b=some o'
 tups:∀ b xs,H b=some (.tup xs)→H' b=some (.tup xs)
 frzs:∀ b o u,H b=some (.frz o u)→H' b=some (.frz o u)
 tbls:∀ b ps,H b=some (.tbl ps)→∃ more,H' b=some (.tbl (ps++more))
section
variable {fs fs' ex ex':List Addr}{H H1 H2:Hp}{h h1 h2 h':Heap}{a x e:Addr}{o:HO}
theorem Un.any (u:Un fs ex H H1 h h1){b:Addr}{ob:Obj}(q:h.get? b=some ob)(n:H b=none)(hx:b ∉ ex):∃ sl,h1.get? b=some { ob with slots:=sl }:=by
 by_cases hb:b∈fs
 · exact u.slot b ob q n hb hx
 · exact ⟨ob.slots,u.keep b ob q n hb hx⟩
theorem Un.kept (k:∀ b u,h.get? b=some u→h'.get? b=some u):Un fs ex H H h h' :=
 ⟨fun b ob q _ _ _=>k b ob q,fun b ob q _ _ _=>⟨ob.slots,k b ob q⟩,fun _ _ _ n _=>n,fun b ob q _=>⟨ob,k b ob q⟩,fun _ _ q=>q,fun _ _ _ q=>q,fun _ ps q=>⟨#[],by rw [q];simp⟩⟩
theorem Un.refl:Un fs ex H H h h:=Un.kept fun _ _ q=>q
theorem Un.laid (k:∀ b u,h.get? b=some u→h'.get? b=some u)(hp:h.objs.size≤a)(hn:H a=none):Un fs ex H (upd H a o) h h' where
 keep:=fun b u q _ _ _=>k b u q
 slot:=fun b u q _ _ _=>⟨u.slots,k b u q⟩
 free:=fun b u q n _=>by rw [Zo (Nat.ne_of_lt (Nat.lt_of_lt_of_le (Heap.lt_size q) hp))];exact n
 there:=fun b u q _=>⟨u,k b u q⟩
 tups:=fun b xs q=>by rw [Zo (ZH q hn)];exact q
 frzs:=fun b u xs q=>by rw [Zo (ZH q hn)];exact q
 tbls:=fun b ps q=>⟨#[],by rw [Zo (ZH q hn),q];simp⟩
theorem Un.write (mu:Mut (H x))(he:e=x∨H e=some (.own x))(k:∀ b u,b≠e→h.get? b=some u→h'.get? b=some u)(heo:∃ u,h'.get? e=some u):Un fs ex H (upd H x o) h h':=by
 have hx:∀ b,H b=none→b≠x:=fun b n z=>by subst z;rw [n] at mu;exact mu
 have hb:∀ b,H b=none→b≠e:=fun b n z=>by
   subst z
   rcases he with r | r
   · exact hx b n r
   · rw [n] at r;cases r
 have hm:∀ b u,H b=some u→¬ Mut (some u)→b≠x:=fun b u q nm z=>by subst z;rw [q] at mu;exact nm mu
 refine ⟨fun b u q n _ _=>k b u (hb b n) q,fun b u q n _ _=>⟨u.slots,k b u (hb b n) q⟩,fun b u q n _=>by rw [Zo (hx b n)];exact n,fun b u q _=>?_,
   fun b xs q=>by rw [Zo (hm b _ q fun z=>z)];exact q,fun b u xs q=>by rw [Zo (hm b _ q fun z=>z)];exact q,fun b ps q=>⟨#[],by rw [Zo (hm b _ q fun z=>z),q];simp⟩⟩
 by_cases hbe:b=e
 · subst hbe;exact heo
 · exact ⟨u,k b u hbe q⟩
end
def trk (h:Heap)(H:Hp):List Addr:=(List.range h.objs.size).filter fun a=>(H a).isSome
def Ue (h:Heap)(H:Hp):Heap:=PySem.W.hideAll h (trk h H)
theorem ZfQ (h:Heap)(H:Hp):(Ue h H).objs.size=h.objs.size:=PySem.W.hideAll_size _ _
theorem ZhS {h:Heap}{H:Hp}{b:Addr}{o:Obj}(e:h.get? b=some o)(n:H b=none):(Ue h H).get? b=some o :=
 PySem.W.hideAll_get _ e fun hm=>by
   have q:(H b).isSome=true:=(List.mem_filter.mp hm).2
   rw [n] at q;simp at q
theorem ZiK {h:Heap}{H:Hp}{b:Addr}{o:Obj}(e:(Ue h H).get? b=some o):h.get? b=some o∧H b=none:=by
 have e':h.get? b=some o:=PySem.W.of_hideAll (trk h H) e
 refine ⟨e',?_⟩
 cases q:H b with
 | none=>rfl
 | some x =>
   have hm:b∈trk h H:=List.mem_filter.mpr ⟨List.mem_range.mpr (Heap.lt_size e'),by simp [q]⟩
   have z:(Ue h H).get? b=none:=PySem.W.hideAll_none (trk h H) hm
   rw [z] at e;cases e
end L2
namespace L2
open PySem PySem.Spec PyProof.Rows
structure Mod (K:PySem.W.Frag)(mg:Str→Option Value)(base:Heap):Prop where
 kin:K.In base
 glob:base.Ns mainGlobals mg
 blt:∃ mb,base.Ns builtinsNs mb∧∀ x:Str,x≠"__name__"→mb x=bootBuiltins x
 nolimit:base.NoLimit
structure Cx where
 prog:Program
 w:World
 K:PySem.W.Frag
 mg:Str→Option Value
 base:Heap
 A:Around
 N:List Str
 s₀:Shared
 H₀:Hp
 env:Env
 outer:List Env
 stack:List Env
 ex:List Addr
 fn:Str→Bool
 calm:Bool
 pn:List (Addr×Obj)
 xe:Value→Shared→Prop
def Zy (l:List Env):List Addr:=l.filterMap (·.frame)
abbrev Cx.fs (X:Cx):List Addr:=Zy X.outer
def Vis (sc:Scope)(x:Str):Prop:=sc.names.lookup x=some .local∨sc.names.lookup x=some .cell∨sc.names.lookup x=some .free
def Loc (sc:Scope)(x:Str):Prop:=sc.names.lookup x=some .local∨sc.names.lookup x=some .cell
def Look (env:Env)(h:Heap)(m:Str→Option Value)(x:Str)(u:Value):Prop :=
 (env.kindOf x=some .local∧m x=some u)∨((env.kindOf x=some .cell∨env.kindOf x=some .free)∧∃ c,env.cells.lookup x=some c∧h.IsCell c (some u))
structure Cx.Ok (X:Cx):Prop where
 mod:Mod X.K X.mg X.base
 kind:X.env.scope.kind=.function
 glob:X.env.globals=mainGlobals
 blt:X.env.builtins=builtinsNs
 above:X.s₀.heap.objs.size≤X.env.locals
 inj:∀ x y c,X.env.cells.lookup x=some c→X.env.cells.lookup y=some c→x=y
 has:∀ x,(X.env.kindOf x=some .cell∨X.env.kindOf x=some .free)→∃ c,X.env.cells.lookup x=some c
 cab:∀ x c,X.fn x=true→X.env.cells.lookup x=some c→X.s₀.heap.objs.size≤c
 hd:X.calm=true→X.A.handled=none
 frames:X.A.frames=some X.stack
 stk:X.stack=X.outer∨(X.stack=X.env::X.outer∧X.env.frame=some X.env.locals)
 exf:∀ b∈X.ex,b≠X.env.locals∧∀ x c,X.env.cells.lookup x=some c→c≠b
 bs:∀ b o,X.base.get? b=some o→X.s₀.heap.get? b=some o∧X.H₀ b=none
 bsz:X.base.objs.size≤X.s₀.heap.objs.size
 noex:∀ b o,X.base.get? b=some o→b ∉ X.ex
 exfs:∀ b∈X.ex,b ∉ X.fs
 funs:X.s₀.heap.FunFrames X.base X.outer
 frf:∀ b∈X.fs,X.H₀ b=none
structure Inv (X:Cx)(pins:List (Addr×Obj))(σ:List (Option V))(H:Hp)(s:Shared):Prop where
 ok:X.Ok
 os:s.os=X.s₀.os
 bare:AllBare s.gens
 base:Un X.fs X.ex X.H₀ H X.s₀.heap s.heap
 loc:∃ m,s.heap.Ns X.env.locals m∧∀ (i:Nat) (x:Str) (v:V),X.N[i]?=some x→σ[i]?=some (some v)→Vis X.env.scope x→∃ u,RelV v u∧Look X.env s.heap m x u
 cell:∀ x c,X.env.cells.lookup x=some c→∃ v,s.heap.IsCell c v
 free:H X.env.locals=none
 freeC:∀ x c,X.env.cells.lookup x=some c→H c=none
 pin:∀ p∈X.pn++pins,s.heap.get? p.1=some p.2∧H p.1=none∧p.1≠X.env.locals∧p.1 ∉ X.fs∧∀ v,p.2.data≠.cell v
 hok:HOk X.prog X.w H s.heap
 len:σ.length=X.N.length
section
variable {X:Cx}{pins:List (Addr×Obj)}{σ:List (Option V)}{H H':Hp}{s:Shared}{h':Heap}
theorem Cx.Ok.nofr (ok:X.Ok){b:Addr}{o:Obj}(e:X.base.get? b=some o):b ∉ X.fs:=fun hb=>by
 have:=(ok.funs.mem hb).1
 rw [e] at this;cases this
theorem Inv.bs (I:Inv X pins σ H s):∀ b o,X.base.get? b=some o→s.heap.get? b=some o∧H b=none:=fun b o e =>
 ⟨I.base.keep b o (I.ok.bs b o e).1 (I.ok.bs b o e).2 (I.ok.nofr e) (I.ok.noex b o e),I.base.free b o (I.ok.bs b o e).1 (I.ok.bs b o e).2 (I.ok.noex b o e)⟩
theorem Inv.bk (I:Inv X pins σ H s):∀ b o,X.base.get? b=some o→s.heap.get? b=some o:=fun b o e=>(I.bs b o e).1
theorem Inv.mod (I:Inv X pins σ H s):Mod X.K X.mg X.base:=I.ok.mod
theorem Inv.kIn (I:Inv X pins σ H s):X.K.In s.heap:=I.ok.mod.kin.keeps I.bk
theorem Inv.nolimit (I:Inv X pins σ H s):s.heap.NoLimit:=I.ok.mod.nolimit.keeps I.bk
theorem Inv.lt (I:Inv X pins σ H s):X.env.locals < s.heap.objs.size:=let ⟨_,hn,_⟩:=I.loc;hn.lt
theorem Inv.sz (I:Inv X pins σ H s):X.s₀.heap.objs.size≤s.heap.objs.size:=Nat.le_trans I.ok.above (Nat.le_of_lt I.lt)
theorem Inv.nofs (I:Inv X pins σ H s){a:Addr}(h:s.heap.objs.size≤a):a ∉ X.fs:=fun hb=>by
 obtain ⟨_,o,ho,_⟩:=I.ok.funs.mem hb
 exact absurd (Nat.lt_of_lt_of_le (Heap.lt_size ho) (Nat.le_trans I.sz h)) (Nat.lt_irrefl _)
theorem Inv.cne (I:Inv X pins σ H s):∀ x c,X.env.cells.lookup x=some c→c≠X.env.locals:=fun x c e z=>by
 obtain ⟨v,o,ho,hd⟩:=I.cell x c e
 obtain ⟨m,⟨o',es,ep,ho',hd',_⟩,_⟩:=I.loc
 rw [z,ho'] at ho;cases ho;rw [hd'] at hd;cases hd
theorem Inv.funs (I:Inv X pins σ H s):s.heap.FunFrames X.base X.outer:=by
 have all:∀ (l:List Env),(∀ b∈Zy l,b∈X.fs)→X.s₀.heap.FunFrames X.base l→s.heap.FunFrames X.base l:=by
   intro l
   induction l with
   | nil=>intro _ _;trivial
   | cons env r ih =>
     intro hs hl
     obtain ⟨hk,⟨L,o,hf,hn,ho,hd⟩,hr⟩:=hl
     have hL:L∈X.fs:=hs L (by unfold Zy;rw [List.filterMap_cons,hf];exact List.mem_cons_self)
     obtain ⟨sl,e⟩:=I.base.slot L o ho (I.ok.frf L hL) hL fun z=>I.ok.exfs L z hL
     exact ⟨hk,⟨L,_,hf,hn,e,hd⟩,ih (fun b hb=>hs b (by unfold Zy;rw [List.filterMap_cons,hf];exact List.mem_cons_of_mem _ hb)) hr⟩
 exact all X.outer (fun _ hb=>hb) I.ok.funs
theorem Inv.stack (I:Inv X pins σ H s):s.heap.FunFrames X.base X.stack:=by
 rcases I.ok.stk with e | ⟨e,hf⟩
 · rw [e];exact I.funs
 · rw [e]
   obtain ⟨m,hn,_⟩:=I.loc
   refine .cons (by rw [I.ok.kind];decide) hf hn ?_ I.funs
   exact Heap.get?_none_of_le (Nat.le_trans I.ok.bsz I.ok.above)
theorem Inv.stkSub (I:Inv X pins σ H s):∀ b∈Zy X.stack,b∈X.env.locals::X.fs:=fun b hb=>by
 rcases I.ok.stk with e | ⟨e,hf⟩
 · rw [e] at hb;exact List.mem_cons_of_mem _ hb
 · rw [e] at hb
   unfold Zy at hb
   rw [List.filterMap_cons,hf] at hb
   exact hb
theorem Inv.stkFree (I:Inv X pins σ H s):∀ b∈Zy X.stack,H b=none:=fun b hb=>by
 rcases List.mem_cons.mp (I.stkSub b hb) with e | hb
 · rw [e];exact I.free
 · obtain ⟨_,o,ho,_⟩:=I.ok.funs.mem hb
   exact I.base.free b o ho (I.ok.frf b hb) fun z=>I.ok.exfs b z hb
theorem Inv.step {g':Array GenState}{t':Nat}{d':Drawn}{ch:List Addr}(I:Inv X pins σ H s)
   (hch:∀ b∈ch,(b∈X.ex∨X.s₀.heap.objs.size≤b)∧b≠X.env.locals∧(∀ x c,X.env.cells.lookup x=some c→c≠b)∧∀ p∈X.pn++pins,p.1≠b)
   (keep:∀ b o,b≠X.env.locals→b ∉ X.fs→b ∉ ch→s.heap.get? b=some o→H b=none→h'.get? b=some o)
   (slot:∀ b o,b≠X.env.locals→b∈X.fs→b ∉ ch→s.heap.get? b=some o→H b=none→∃ sl,h'.get? b=some { o with slots:=sl }) (free:∀ b o,b ∉ ch→s.heap.get? b=some o→H b=none→H' b=none)
   (there:∀ b o,b ∉ ch→s.heap.get? b=some o→∃ o',h'.get? b=some o')
   (tups:∀ b xs,H b=some (.tup xs)→H' b=some (.tup xs)) (frzs:∀ b o u,H b=some (.frz o u)→H' b=some (.frz o u)) (tbls:∀ b ps,H b=some (.tbl ps)→∃ more,H' b=some (.tbl (ps++more)))
   (ns:∀ m,s.heap.Ns X.env.locals m→h'.Ns X.env.locals m) (hok:HOk X.prog X.w H' h') (hg:AllBare g') :
   Inv X pins σ H' { s with heap:=h',gens:=g',drawn:=d',toks:=t' }:=by
 have neL:∀ b o,X.s₀.heap.get? b=some o→b≠X.env.locals:=fun b o e=>Nat.ne_of_lt (Nat.lt_of_lt_of_le (Heap.lt_size e) I.ok.above)
 have neC:∀ b o,X.s₀.heap.get? b=some o→b ∉ X.ex→b ∉ ch:=fun b o e hx hb=>by
   rcases (hch b hb).1 with z | z
   · exact hx z
   · exact absurd (Nat.lt_of_lt_of_le (Heap.lt_size e) z) (Nat.lt_irrefl _)
 have cellK:∀ x c,X.env.cells.lookup x=some c→∀ v,s.heap.IsCell c v→h'.IsCell c v:=fun x c e v ⟨o,ho,hd⟩=>by
   have nch:c ∉ ch:=fun z=>(hch c z).2.2.1 x c e rfl
   by_cases hc:c∈X.fs
   · obtain ⟨sl,q⟩:=slot c o (I.cne x c e) hc nch ho (I.freeC x c e)
     exact ⟨_,q,hd⟩
   · exact ⟨o,keep c o (I.cne x c e) hc nch ho (I.freeC x c e),hd⟩
 refine ⟨I.ok,I.os,hg,⟨fun b o e n hb hx=>?_,fun b o e n hb hx=>?_,fun b o e n hx=>?_,fun b o e hx=>?_,fun b xs e=>tups b xs (I.base.tups b xs e),fun b o xs e=>frzs b o xs (I.base.frzs b o xs e),fun b ps e=>?_⟩,?_,fun x c e=>?_,?_,fun x c e=>?_,fun p hp=>?_,hok,I.len⟩
 · exact keep b o (neL b o e) hb (neC b o e hx) (I.base.keep b o e n hb hx) (I.base.free b o e n hx)
 · obtain ⟨sl,e1⟩:=I.base.slot b o e n hb hx
   obtain ⟨sl',e2⟩:=slot b _ (neL b o e) hb (neC b o e hx) e1 (I.base.free b o e n hx)
   exact ⟨sl',e2⟩
 · obtain ⟨o',e1⟩:=I.base.there b o e hx
   exact free b o' (neC b o e hx) e1 (I.base.free b o e n hx)
 · obtain ⟨o',e1⟩:=I.base.there b o e hx
   exact there b o' (neC b o e hx) e1
 · obtain ⟨m1,e1⟩:=I.base.tbls b ps e
   obtain ⟨m2,e2⟩:=tbls b _ e1
   exact ⟨m1++m2,by rw [e2,Array.append_assoc]⟩
 · obtain ⟨m,hn,hl⟩:=I.loc
   refine ⟨m,ns m hn,fun i x v e1 e2 e3=>?_⟩
   obtain ⟨u,r,l⟩:=hl i x v e1 e2 e3
   refine ⟨u,r,?_⟩
   rcases l with l | ⟨k,c,e,z⟩
   · exact .inl l
   · exact .inr ⟨k,c,e,cellK x c e _ z⟩
 · obtain ⟨v,z⟩:=I.cell x c e
   exact ⟨v,cellK x c e v z⟩
 · obtain ⟨m,⟨o,_,_,ho,_⟩,_⟩:=I.loc
   exact free _ o (fun z=>(hch _ z).2.1 rfl) ho I.free
 · obtain ⟨v,o,ho,hd⟩:=I.cell x c e
   exact free c o (fun z=>(hch c z).2.2.1 x c e rfl) ho (I.freeC x c e)
 · obtain ⟨e,n,ne,nf,d⟩:=I.pin p hp
   have nch:p.1 ∉ ch:=fun z=>(hch p.1 z).2.2.2 p hp rfl
   exact ⟨keep p.1 p.2 ne nf nch e n,free p.1 p.2 nch e n,ne,nf,d⟩
theorem Inv.un {t':Nat}(I:Inv X pins σ H s)(u:Un X.fs [] H H' s.heap h')(hok:HOk X.prog X.w H' h'):Inv X pins σ H' { s with heap:=h',toks:=t' }:=by
 obtain ⟨m,⟨o,es,ep,ho,r⟩,_⟩:=id I.loc
 obtain ⟨sl,hL⟩:=u.any ho I.free (by simp)
 exact I.step (g':=s.gens) (d':=s.drawn) (ch:=[]) (fun _ z=>nomatch z) (fun b o _ hb _ e n=>u.keep b o e n hb (by simp)) (fun b o _ hb _ e n=>u.slot b o e n hb (by simp)) (fun b o _ e n=>u.free b o e n (by simp)) (fun b o _ e=>u.there b o e (by simp)) u.tups u.frzs u.tbls (fun m' hm=>by
   obtain ⟨o',es',ep',ho',r'⟩:=hm
   rw [ho] at ho';cases ho'
   exact ⟨_,es',ep',hL,r'⟩) hok I.bare
theorem Inv.call {g':Array GenState}{t':Nat}{d':Drawn}{ch:List Addr}(I:Inv X pins σ H s)(u:Un (Zy X.stack) ch H H' s.heap h')(hok:HOk X.prog X.w H' h')(hg:AllBare g')
   (hch:∀ b∈ch,(b∈X.ex∨X.s₀.heap.objs.size≤b)∧b≠X.env.locals∧(∀ x c,X.env.cells.lookup x=some c→c≠b)∧∀ p∈X.pn++pins,p.1≠b) :
   Inv X pins σ H' { s with heap:=h',gens:=g',drawn:=d',toks:=t' }:=by
 obtain ⟨m,⟨o,es,ep,ho,r⟩,_⟩:=id I.loc
 obtain ⟨sl,hL⟩:=u.any ho I.free fun z=>(hch _ z).2.1 rfl
 exact I.step (ch:=ch) hch (fun b o hL hb hc e n=>u.keep b o e n (fun z=>(List.mem_cons.mp (I.stkSub b z)).elim hL hb) hc) (fun b o _ _ hc e n=>u.any e n hc) (fun b o hc e n=>u.free b o e n hc) (fun b o hc e=>u.there b o e hc) u.tups u.frzs u.tbls (fun m' hm=>by
   obtain ⟨o',es',ep',ho',r'⟩:=hm
   rw [ho] at ho';cases ho'
   exact ⟨_,es',ep',hL,r'⟩) hok hg
theorem Inv.turned {t':Nat}{it:Addr}(I:Inv X pins σ H s)(k:∀ b o,b≠it→s.heap.get? b=some o→h'.get? b=some o)(hn:H it=none)(hL:it≠X.env.locals)
   (h1:it∈X.ex∨X.s₀.heap.objs.size≤it) (h2:∀ x c,X.env.cells.lookup x=some c→c≠it) (h3:∀ p∈X.pn++pins,p.1≠it):Inv X pins σ H { s with heap:=h',toks:=t' }:=by
 have nit:∀ b u,H b=some u→b≠it:=fun b u e z=>by rw [z,hn] at e;cases e
 refine I.step (g':=s.gens) (d':=s.drawn) (ch:=[it]) (fun b hb=>?_) (fun b o _ _ hc e _=>k b o (fun z=>hc (by simp [z])) e) (fun b o _ _ hc e _=>⟨o.slots,k b o (fun z=>hc (by simp [z])) e⟩) (fun _ _ _ _ n=>n)
   (fun b o hc e=>⟨o,k b o (fun z=>hc (by simp [z])) e⟩) (fun _ _ e=>e) (fun _ _ _ e=>e) (fun b ps e=>⟨#[],by rw [e];simp⟩) (fun m hm=>?_) (fun b u e=>?_) I.bare
 · have e:b=it:=by simpa using hb
   subst e
   exact ⟨h1,hL,h2,h3⟩
 · obtain ⟨o,es,ep,ho,r⟩:=hm
   exact ⟨o,es,ep,k _ o (Ne.symm hL) ho,r⟩
 · refine (I.hok b u e).stay (fun c v hc q=>k c v ?_ q) (fun _ q=>q) fun _ _ q=>q
   rcases hc with z | z
   · rw [z];exact nit b u e
   · exact nit c _ z
theorem Inv.tok (I:Inv X pins σ H s)(t:Nat):Inv X pins σ H { s with toks:=t }:=I.un (h':=s.heap) (t':=t) Un.refl I.hok
theorem Inv.kept {t':Nat}(I:Inv X pins σ H s)(k:∀ b u,s.heap.get? b=some u→h'.get? b=some u):Inv X pins σ H { s with heap:=h',toks:=t' }:=I.un (Un.kept k) (I.hok.kept k)
theorem Inv.laid {a:Addr}{o:HO}{t':Nat}(I:Inv X pins σ H s)(k:∀ b u,s.heap.get? b=some u→h'.get? b=some u)(hp:s.heap.objs.size≤a)(new:ObjOk X.prog X.w (upd H a o) h' a o) :
 Inv X pins σ (upd H a o) { s with heap:=h',toks:=t' }:=I.un (Un.laid k hp (I.hok.fresh hp)) (I.hok.laid k hp new)
theorem Inv.write {x e:Addr}{o:HO}{t':Nat}(I:Inv X pins σ H s)(mu:Mut (H x))(he:e=x∨H e=some (.own x))(k:∀ b u,b≠e→s.heap.get? b=some u→h'.get? b=some u)(heo:∃ u,h'.get? e=some u)
 (new:ObjOk X.prog X.w (upd H x o) h' x o):Inv X pins σ (upd H x o) { s with heap:=h',toks:=t' }:=I.un (Un.write mu he k heo) (I.hok.write mu he k heo new)
theorem Inv.pins_of {pins':List (Addr×Obj)}(I:Inv X pins σ H s)(h:∀ p∈pins',s.heap.get? p.1=some p.2∧H p.1=none∧p.1≠X.env.locals∧p.1 ∉ X.fs∧∀ v,p.2.data≠.cell v):Inv X pins' σ H s :=
 ⟨I.ok,I.os,I.bare,I.base,I.loc,I.cell,I.free,I.freeC,fun p hp=>(List.mem_append.mp hp).elim (fun z=>I.pin p (List.mem_append_left _ z)) (h p),I.hok,I.len⟩
theorem Zci {N:List Str}(hN:N.Nodup){i j:Nat}{x:Str}(a:N[i]?=some x)(b:N[j]?=some x):i=j:=by
 obtain ⟨h1,e1⟩:=List.getElem?_eq_some_iff.mp a
 obtain ⟨h2,e2⟩:=List.getElem?_eq_some_iff.mp b
 exact (List.getElem_inj hN).mp (e1.trans e2.symm)
theorem Vf {M:Model}{A:Around}{E:Value→Shared→Prop}{i:Nat}{x:Str}{v:V}{u:Value}{Q:Unit→Shared→Prop}(I:Inv X pins σ H s)(hN:X.N.Nodup)(hi:X.N[i]?=some x)(hx:Loc X.env.scope x)(r:RelV v u)
   (h:∀ s',Inv X pins (σ.set i (some v)) H s'→(∃ a,Heap.SameBut a s.heap s'.heap∧(a=X.env.locals∨X.env.cells.lookup x=some a))→Q () s') (hf:X.fn x=true∨X.env.scope.names.lookup x=some .local:=by first | exact .inl rfl | exact .inr rfl | assumption):wpAny M A (storeName X.env x u) Q E s:=by
 obtain ⟨m,hn,hl⟩:=id I.loc
 have hcls:(X.env.scope.kind == .class || (X.env.scope.kind == .module&&X.env.locals != X.env.globals))=false:=by rw [I.ok.kind];rfl
 have hiσ:i < σ.length:=by rw [I.len];exact (List.getElem?_eq_some_iff.mp hi).1
 have cne:=I.cne
 have tracked:∀ {a:Addr} {h':Heap},(∃ o,s.heap.get? a=some o∧H a=none)→Heap.SameBut a s.heap h'→HOk X.prog X.w H h':=fun {a h'} ha hs b ob e=>by
   obtain ⟨_,_,hfree⟩:=ha
   refine (I.hok b ob e).stay (fun c w' hc q=>(hs.2 c ?_).trans q) (fun _ q=>q) fun _ _ q=>q
   rintro rfl
   rcases hc with rfl | hc
   · rw [hfree] at e;cases e
   · rw [hfree] at hc;cases hc
 rcases hx with hk | hk
 · refine wpAny_storeName_local hk hn (fun h' hn' hs=>?_) hcls
   obtain ⟨oL,_,_,hoL,_⟩:=id hn
   refine h _ ⟨I.ok,I.os,I.bare,⟨fun b o e n hb hx=>?_,fun b o e n hb hx=>?_,I.base.free,fun b o e hx=>?_,I.base.tups,I.base.frzs,I.base.tbls⟩,⟨_,hn',fun j y v' e1 e2 e3=>?_⟩,fun y c e=>?_,I.free,I.freeC,fun p hp=>?_,tracked ⟨oL,hoL,I.free⟩ hs,by simpa using I.len⟩ ⟨_,hs,.inl rfl⟩
   · exact (hs.2 b (Nat.ne_of_lt (Nat.lt_of_lt_of_le (Heap.lt_size e) I.ok.above))).trans (I.base.keep b o e n hb hx)
   · obtain ⟨sl,e1⟩:=I.base.slot b o e n hb hx
     exact ⟨sl,(hs.2 b (Nat.ne_of_lt (Nat.lt_of_lt_of_le (Heap.lt_size e) I.ok.above))).trans e1⟩
   · obtain ⟨o',e1⟩:=I.base.there b o e hx
     exact ⟨o',(hs.2 b (Nat.ne_of_lt (Nat.lt_of_lt_of_le (Heap.lt_size e) I.ok.above))).trans e1⟩
   · by_cases hj:j=i
     · subst hj
       rw [hi] at e1;cases e1
       rw [List.getElem?_set_self hiσ] at e2
       cases e2
       exact ⟨u,r,.inl ⟨hk,by simp⟩⟩
     · rw [List.getElem?_set_ne (Ne.symm hj)] at e2
       obtain ⟨u',r',q⟩:=hl j y v' e1 e2 e3
       refine ⟨u',r',?_⟩
       rcases q with ⟨k,e⟩ | ⟨k,c,e,z⟩
       · refine .inl ⟨k,?_⟩
         have:y≠x:=fun e=>hj (Zci hN e1 (e ▸ hi))
         simp [this,e]
       · exact .inr ⟨k,c,e,z.sameBut hs (cne y c e)⟩
   · obtain ⟨w',z⟩:=I.cell y c e
     exact ⟨w',z.sameBut hs (cne y c e)⟩
   · obtain ⟨e,n,ne,nf,d⟩:=I.pin p hp
     exact ⟨(hs.2 p.1 ne).trans e,n,ne,nf,d⟩
 · have hfn:X.fn x=true:=by
     rcases hf with z | z
     · exact z
     · rw [z] at hk;cases hk
   obtain ⟨c,hc⟩:=I.ok.has x (.inl hk)
   obtain ⟨w',z⟩:=I.cell x c hc
   refine wpAny_storeName_cell I.ok.kind hk hc z (fun h' hc' hs=>?_)
   obtain ⟨oc,hoc,hocd⟩:=id z
   refine h { s with heap:=h' } ⟨I.ok,I.os,I.bare,⟨fun b o e n hb hx=>?_,fun b o e n hb hx=>?_,I.base.free,fun b o e hx=>?_,I.base.tups,I.base.frzs,I.base.tbls⟩,⟨m,hn.sameBut hs (Ne.symm (cne x c hc)),fun j y v' e1 e2 e3=>?_⟩,fun y c' e=>?_,I.free,I.freeC,fun p hp=>?_,tracked ⟨oc,hoc,I.freeC x c hc⟩ hs,by simpa using I.len⟩ ⟨c,hs,.inr hc⟩
   · exact (hs.2 b (Nat.ne_of_lt (Nat.lt_of_lt_of_le (Heap.lt_size e) (I.ok.cab x c hfn hc)))).trans (I.base.keep b o e n hb hx)
   · obtain ⟨sl,e1⟩:=I.base.slot b o e n hb hx
     exact ⟨sl,(hs.2 b (Nat.ne_of_lt (Nat.lt_of_lt_of_le (Heap.lt_size e) (I.ok.cab x c hfn hc)))).trans e1⟩
   · obtain ⟨o',e1⟩:=I.base.there b o e hx
     exact ⟨o',(hs.2 b (Nat.ne_of_lt (Nat.lt_of_lt_of_le (Heap.lt_size e) (I.ok.cab x c hfn hc)))).trans e1⟩
   · by_cases hj:j=i
     · subst hj
       rw [hi] at e1;cases e1
       rw [List.getElem?_set_self hiσ] at e2
       cases e2
       exact ⟨u,r,.inr ⟨.inl hk,c,hc,hc'⟩⟩
     · rw [List.getElem?_set_ne (Ne.symm hj)] at e2
       obtain ⟨u',r',q⟩:=hl j y v' e1 e2 e3
       refine ⟨u',r',?_⟩
       rcases q with q | ⟨k,c',e,z'⟩
       · exact .inl q
       · refine .inr ⟨k,c',e,z'.sameBut hs ?_⟩
         rintro rfl
         exact hj (Zci hN e1 (I.ok.inj _ _ _ e hc ▸ hi))
   · by_cases hcc:c'=c
     · subst hcc;exact ⟨_,hc'⟩
     · obtain ⟨w2,z2⟩:=I.cell y c' e
       exact ⟨w2,z2.sameBut hs hcc⟩
   · obtain ⟨e,n,ne,nf,d⟩:=I.pin p hp
     refine ⟨(hs.2 p.1 ?_).trans e,n,ne,nf,d⟩
     intro q
     rw [q,hoc] at e
     have q':oc=p.2:=Option.some.inj e
     exact d w' (by rw [← q'];exact hocd)
theorem Xa {M:Model}{A:Around}{E:Value→Shared→Prop}{i:Nat}{x:Str}{v:V}{u:Value}{Q:Unit→Shared→Prop}(I:Inv X pins σ H s)(hN:X.N.Nodup)(hi:X.N[i]?=some x)(hx:Loc X.env.scope x)(r:RelV v u)
   (h:∀ s',Inv X pins (σ.set i (some v)) H s'→Q () s') (hf:X.fn x=true∨X.env.scope.names.lookup x=some .local:=by first | exact .inl rfl | exact .inr rfl | assumption):wpAny M A (storeName X.env x u) Q E s :=
 Vf I hN hi hx r (fun s' I' _=>h s' I') hf
theorem Inv.call' {s':Shared}{ch:List Addr}(I:Inv X pins σ H s)(ho:s'.os=s.os)(u:Un (Zy X.stack) ch H H' s.heap s'.heap)(hok:HOk X.prog X.w H' s'.heap)(hg:AllBare s'.gens)
   (hch:∀ b∈ch,(b∈X.ex∨X.s₀.heap.objs.size≤b)∧b≠X.env.locals∧(∀ x c,X.env.cells.lookup x=some c→c≠b)∧∀ p∈X.pn++pins,p.1≠b):Inv X pins σ H' s':=by
 obtain ⟨h',g',d',t',o'⟩:=s'
 have e:o'=s.os:=ho
 subst e
 exact I.call (g':=g') (t':=t') (d':=d') u hok hg hch
end
abbrev XK:=Value→Option Addr→Hp→Prop
abbrev St:=List (Option V)
abbrev VK:=V→Hp→Prop
abbrev TE:=St→Hp→VK→Prop
abbrev TT:=St→Hp→(Bool→Hp→Prop)→Prop
abbrev TA:=St→Hp→(List V→Hp→Prop)→Prop
structure WB where
 nx:St→Hp→Prop
 rt:VK
 bk:St→Hp→Prop:=fun _ _=>False
 ct:St→Hp→Prop:=fun _ _=>False
abbrev TS:=WB→St→Hp→Prop
def EP (X:Cx)(pins:List (Addr×Obj))(σ:St)(Q:VK)(u:Value)(s':Shared):Prop:=∃ v H',Inv X pins σ H' s'∧RelV v u∧Q v H'
def TP (X:Cx)(pins:List (Addr×Obj))(σ:St)(Q:Bool→Hp→Prop)(b:Bool)(s':Shared):Prop:=∃ H',Inv X pins σ H' s'∧Q b H'
def AP (X:Cx)(pins:List (Addr×Obj))(σ:St)(Q:List V→Hp→Prop)(us:List Value)(s':Shared):Prop:=∃ vs H',Inv X pins σ H' s'∧Vals vs us∧Q vs H'
def SP (X:Cx)(pins:List (Addr×Obj))(D:WB)(f:Flow)(s':Shared):Prop :=
 match f with
 | .next=>∃ σ' H',Inv X pins σ' H' s'∧D.nx σ' H'
 | .brk=>∃ σ' H',Inv X pins σ' H' s'∧D.bk σ' H'
 | .cont=>∃ σ' H',Inv X pins σ' H' s'∧D.ct σ' H'
 | .ret u=>∃ v σ' H',Inv X pins σ' H' s'∧RelV v u∧D.rt v H'
def PE (X:Cx)(e:Expr)(t:TE):Prop :=
 ∀ (pins:List (Addr×Obj)) (s:Shared) (σ:St) (H:Hp) (Q:VK),Inv X pins σ H s→t σ H Q→wpAny (model X.prog X.w) X.A (eval e X.env) (EP X pins σ Q) X.xe s
def PT (X:Cx)(e:Expr)(t:TT):Prop :=
 ∀ (pins:List (Addr×Obj)) (s:Shared) (σ:St) (H:Hp) (Q:Bool→Hp→Prop),Inv X pins σ H s→t σ H Q→wpAny (model X.prog X.w) X.A (isTrue e X.env (eval e X.env)) (TP X pins σ Q) X.xe s
def PW (X:Cx)(e:Expr)(t:TT):Prop :=
 ∀ (whole:Sem Value) (pins:List (Addr×Obj)) (s:Shared) (σ:St) (H:Hp) (Q:Bool→Hp→Prop),Inv X pins σ H s→t σ H Q→wpAny (model X.prog X.w) X.A (isTrue e X.env whole) (TP X pins σ Q) X.xe s
theorem PW.pt {X:Cx}{e:Expr}{t:TT}(h:PW X e t):PT X e t:=h _
def PA (X:Cx)(es:List Expr)(t:TA):Prop :=
 ∀ (pos:Pos) (pins:List (Addr×Obj)) (s:Shared) (σ:St) (H:Hp) (Q:List V→Hp→Prop),Inv X pins σ H s→t σ H Q→wpAny (model X.prog X.w) X.A (spliced (backTo pos (starEach es X.env))) (AP X pins σ Q) X.xe s
def PS (X:Cx)(st:Stmt)(t:TS):Prop :=
 ∀ (pins:List (Addr×Obj)) (s:Shared) (σ:St) (H:Hp) (D:WB),Inv X pins σ H s→t D σ H→wpAny (model X.prog X.w) X.A (exec st X.env) (SP X pins D) X.xe s
def PSs (X:Cx)(st:List Stmt)(t:TS):Prop :=
 ∀ (pins:List (Addr×Obj)) (s:Shared) (σ:St) (H:Hp) (D:WB),Inv X pins σ H s→t D σ H→wpAny (model X.prog X.w) X.A (execs st X.env) (SP X pins D) X.xe s
theorem Zm {α:Type}{t:Sem α}{Q Q':α→Shared→Prop}{M:Model}{A:Around}{E:Value→Shared→Prop}{s:Shared}(h:wpAny M A t Q E s)(hQ:∀ a s,Q a s→Q' a s):wpAny M A t Q' E s:=wpAny_mono h hQ fun _ _ x=>x
end L2
namespace L2
open PySem PySem.Spec PyProof.Rows
section
variable {X:Cx}
def Xr (i:Nat):TE:=fun σ H Q=>∃ v,σ[i]?=some (some v)∧Q v H
def tC (v:V):TE:=fun _ H Q=>Q v H
theorem Zkh {i:Nat}{x:Str}{pos:Pos}(hN:X.N[i]?=some x)(hv:Vis X.env.scope x)(hd:(x == ("__debug__":Str))=false:=by decide)(hcd:(x == ("__classdict__":Str))=false:=by decide):PE X (.Name x pos) (Xr i):=by
 intro pins s σ H Q I h
 obtain ⟨v,e,h⟩:=h
 obtain ⟨m,hn,hl⟩:=I.loc
 obtain ⟨u,r,l⟩:=hl i x v hN e hv
 have fin:EP X pins σ Q u s:=⟨v,H,I,r,h⟩
 rcases l with ⟨hk,hm⟩ | ⟨hk,c,hc,hcell⟩
 · exact wpAny_Name (wpAny_loadName_local I.ok.kind hk hn hm fin) hd
 · rcases hk with hk | hk
   · exact wpAny_Name (wpAny_loadName_cell I.ok.kind hk hc hcell fin) hd
   · exact wpAny_Name (wpAny_loadName_free I.ok.kind hk hc hcell fin hcd) hd
theorem Zc {i j pos}:PE X (.Constant (.int i) j pos) (tC (.int i)):=fun _ _ _ H _ I h=>wpAny_Constant_int ⟨.int i,H,I.tok _,⟨_,rfl⟩,h⟩
theorem Vz {b j pos}:PE X (.Constant (.bool b) j pos) (tC (.bl b)):=fun _ _ _ H _ I h=>Constant_bool ⟨.bl b,H,I,rfl,h⟩
theorem XB {j pos}:PE X (.Constant .none j pos) (tC .non):=fun _ _ _ H _ I h=>Constant_none ⟨.non,H,I,rfl,h⟩
theorem Zn {x j pos}:PE X (.Constant (.str x) j pos) (tC (.str x)):=fun _ _ _ H _ I h=>Calls.Constant_str ⟨.str x,H,I.tok _,⟨_,rfl⟩,h⟩
def Gl (X:Cx)(x:Str):Prop:=X.env.kindOf x=some .globalImplicit
theorem ZaS {E:Value→Shared→Prop}{pins:List (Addr×Obj)}{s:Shared}{σ:St}{H:Hp}{x:Str}{u:Value}{pos:Pos}{Q:Value→Shared→Prop}(I:Inv X pins σ H s)(hg:Gl X x)(hm:X.mg x=some u)(h:Q u s)
   (hd:(x == ("__debug__":Str))=false:=by decide):wpAny (model X.prog X.w) X.A (eval (.Name x pos) X.env) Q E s :=
 Calls.Name_function_global I.ok.kind hg (Calls.loadGlobal_global (by rw [I.ok.glob];exact I.mod.glob.keeps I.bk) hm h) hd
theorem Xy {E:Value→Shared→Prop}{pins:List (Addr×Obj)}{s:Shared}{σ:St}{H:Hp}{x:Str}{u:Value}{pos:Pos}{Q:Value→Shared→Prop}(I:Inv X pins σ H s)(hg:Gl X x)(hm:X.mg x=none)(hv:bootBuiltins x=some u)(h:Q u s)
   (hn:x≠"__name__":=by decide) (hd:(x == ("__debug__":Str))=false:=by decide):wpAny (model X.prog X.w) X.A (eval (.Name x pos) X.env) Q E s:=by
 obtain ⟨mb,h1,h2⟩:=I.mod.blt
 exact Calls.Name_function_global I.ok.kind hg (Calls.loadGlobal_builtin (by rw [I.ok.glob];exact I.mod.glob.keeps I.bk) hm (by rw [I.ok.blt];exact h1.keeps I.bk) ((h2 x hn).trans hv) h) hd
theorem Wk {x:Str}{v:V}{u:Value}{pos:Pos}(hg:Gl X x)(hm:X.mg x=some u)(r:RelV v u)(hd:(x == ("__debug__":Str))=false:=by decide):PE X (.Name x pos) (tC v) :=
 fun _ _ _ H _ I h=>ZaS I hg hm ⟨v,H,I,r,h⟩ hd
theorem Yh {x:Str}{v:V}{u:Value}{pos:Pos}(hg:Gl X x)(hm:X.mg x=none)(hv:bootBuiltins x=some u)(r:RelV v u)(hn:x≠"__name__":=by decide)(hd:(x == ("__debug__":Str))=false:=by decide):PE X (.Name x pos) (tC v) :=
 fun _ _ _ H _ I h=>Xy I hg hm hv ⟨v,H,I,r,h⟩ hn hd
variable {a b:Expr}{ta tb:TE}{pos:Pos}
def PC (X:Cx)(op:CmpOp)(a b:Expr)(t:TE):Prop :=
 ∀ (pins:List (Addr×Obj)) (s:Shared) (σ:St) (H:Hp) (Q:VK),Inv X pins σ H s→t σ H Q →
   wpAny (model X.prog X.w) X.A (eval a X.env) (fun v s₁=>wpAny (model X.prog X.w) X.A (eval b X.env) (fun u s₂=>wpAny (model X.prog X.w) X.A (compareOp op v u) (EP X pins σ Q) X.xe s₂) X.xe s₁) X.xe s
theorem ZhO (b:Expr){op:CmpOp}(h:op≠.In)(h2:op≠.NotIn):behindInMarks op b=false:=by
 have e1:(op == CmpOp.In)=false:=by cases op<;>first | rfl | exact absurd rfl h
 have e2:(op == CmpOp.NotIn)=false:=by cases op<;>first | rfl | exact absurd rfl h2
 cases b<;>simp [behindInMarks,e1,e2]
def tIsN (ta:TE):TE:=fun σ H Q=>ta σ H fun x H1=>Q (.bl (decide (x=.non))) H1
theorem RelV.none_iff {x:V}{v:Value}(r:RelV x v):(v == Value.none)=decide (x=.non):=by
 cases x with
 | non=>cases r;rfl
 | bl _=>cases r;rfl
 | int _=>obtain ⟨t,rfl⟩:=r;rfl
 | str _=>obtain ⟨t,rfl⟩:=r;rfl
 | byt _=>obtain ⟨t,rfl⟩:=r;rfl
 | flt _=>obtain ⟨t,rfl⟩:=r;rfl
 | ref _=>cases r;rfl
 | ty _=>cases r;rfl
theorem Zau {j pos'}(ha:PE X a ta):PC X .Is a (.Constant .none j pos') (tIsN ta):=by
 intro pins s σ H Q I h
 refine Zm (ha pins s σ H _ I h) fun v s1 ⟨x,H1,I1,r1,q1⟩=>?_
 exact Constant_none (is_none_gen ⟨.bl _,H1,I1,by rw [r1.none_iff];rfl,q1⟩)
def tB (t:TE):TT:=fun σ H Q=>t σ H fun x H1=>∃ c,x=.bl c∧Q c H1
theorem Zaf {op:CmpOp}{t:TE}(h:PC X op a b t)(h1:behindInMarks op b=false:=by first | exact ZhO _ (by decide) (by decide) | rfl):PT X (.Compare a [op] [b] pos) (tB t):=by
 intro pins s σ H Q I hw
 refine wpAny_isTrue_Compare1 (Zm (h pins s σ H _ I hw) fun v s1 h1=>Zm h1 fun u s2 h2=>Zm h2 fun c s3 ⟨x,H1,I1,r1,q1⟩=>?_) h1
 obtain ⟨d,rfl,q⟩:=q1
 cases r1
 exact wpAny_truthy_bool ⟨H1,I1,q⟩
theorem Yt {e:Expr}{t:TE}(h:PE X e t)(he:∀ whole,isTrue e X.env whole=(do let v ← whole;standAt e.pos;holding [v] (truthy v)):=by intro _;rfl):PT X e (tB t):=by
 intro pins s σ H Q I hw
 refine isTrue_plain (Zm (h pins s σ H _ I hw) fun v s1 ⟨x,H1,I1,r1,q1⟩=>?_) (he _)
 obtain ⟨d,rfl,q⟩:=q1
 cases r1
 exact wpAny_truthy_bool ⟨H1,I1,q⟩
variable {tA tB':TT}{rest:List Expr}
def tAnd (t u:TT):TT:=fun σ H Q=>t σ H fun c H1=>if c=true then u σ H1 Q else Q false H1
def tOr (t u:TT):TT:=fun σ H Q=>t σ H fun c H1=>if c=true then Q true H1 else u σ H1 Q
def ZhH (t:TT):TT:=fun σ H Q=>t σ H fun c H1=>Q (!c) H1
theorem Zjs (ha:PT X a tA):PW X (.BoolOp .And [a] pos) tA:=by
 intro wh pins s σ H Q I h
 refine isTrue_and (Zm (ha pins s σ H Q I h) fun c s1 e=>?_)
 cases c with
 | true=>exact isTrue_and_nil e
 | false=>exact e
theorem Ul (ha:PT X a tA):PW X (.BoolOp .Or [a] pos) tA:=by
 intro wh pins s σ H Q I h
 refine isTrue_or (Zm (ha pins s σ H Q I h) fun c s1 e=>?_)
 cases c with
 | false=>exact isTrue_or_nil e
 | true=>exact e
theorem ZjS (ha:PT X a tA)(hb:PW X (.BoolOp .And (b::rest) pos) tB'):PW X (.BoolOp .And (a::b::rest) pos) (tAnd tA tB'):=by
 intro wh pins s σ H Q I h
 refine isTrue_and (Zm (ha pins s σ H _ I h) fun c s1 ⟨H1,I1,q1⟩=>?_)
 cases c with
 | true=>exact hb wh pins s1 σ H1 Q I1 q1
 | false=>exact ⟨H1,I1,q1⟩
theorem UF (ha:PT X a tA)(hb:PW X (.BoolOp .Or (b::rest) pos) tB'):PW X (.BoolOp .Or (a::b::rest) pos) (tOr tA tB'):=by
 intro wh pins s σ H Q I h
 refine isTrue_or (Zm (ha pins s σ H _ I h) fun c s1 ⟨H1,I1,q1⟩=>?_)
 cases c with
 | true=>exact ⟨H1,I1,q1⟩
 | false=>exact hb wh pins s1 σ H1 Q I1 q1
theorem WV (ha:PT X a tA):PT X (.UnaryOp .Not a pos) (ZhH tA):=by
 intro pins s σ H Q I h
 exact isTrue_not (ha pins s σ H (fun c H1=>Q (!c) H1) I h)
def Zly (ta tb:TE):TE:=fun σ H Q=>ta σ H fun x H1=>∃ c,x=.bl c∧if c=true then tb σ H1 Q else Q (.bl false) H1
def ZlM (ta:TE):TE:=fun σ H Q=>ta σ H fun x H1=>∃ c,x=.bl c∧Q (.bl (!c)) H1
theorem WQ {op}{t:TE}(h:PE X a t):PE X (.BoolOp op [a] pos) t:=fun pins s σ H Q I hw=>BoolOp_one (h pins s σ H Q I hw)
theorem XU (ha:PE X a ta)(hb:PE X (.BoolOp .And (b::rest) pos) tb):PE X (.BoolOp .And (a::b::rest) pos) (Zly ta tb):=by
 intro pins s σ H Q I h
 refine BoolOp_and (Zm (ha pins s σ H _ I h) fun v s1 ⟨x,H1,I1,r1,q1⟩=>?_)
 obtain ⟨c,rfl,q1⟩:=q1
 cases r1
 refine wpAny_truthy_bool ?_
 cases c with
 | true=>exact hb pins s1 σ H1 Q I1 q1
 | false=>exact ⟨.bl false,H1,I1,rfl,q1⟩
theorem ZcL (ha:PE X a ta):PE X (.UnaryOp .Not a pos) (ZlM ta):=by
 intro pins s σ H Q I h
 refine UnaryOp_ (Zm (ha pins s σ H _ I h) fun v s1 ⟨x,H1,I1,r1,q1⟩=>?_)
 obtain ⟨c,rfl,q1⟩:=q1
 cases r1
 exact not_of (wpAny_truthy_bool ⟨.bl (!c),H1,I1,rfl,q1⟩)
def tIf (t:TT)(ta tb:TE):TE:=fun σ H Q=>t σ H fun c H1=>if c=true then ta σ H1 Q else tb σ H1 Q
theorem YH {c:Expr}(hc:PT X c tA)(ha:PE X a ta)(hb:PE X b tb):PE X (.IfExp c a b pos) (tIf tA ta tb):=by
 intro pins s σ H Q I h
 refine wpAny_IfExp (Zm (hc pins s σ H _ I h) fun d s1 ⟨H1,I1,q1⟩=>?_)
 cases d with
 | true=>exact ha pins s1 σ H1 Q I1 q1
 | false=>exact hb pins s1 σ H1 Q I1 q1
end
end L2
namespace L2
open PySem PySem.Spec PyProof.Rows
def SqL (K:PySem.W.Frag)(H:Hp)(a:Addr)(xs:List V):Prop :=
 Rd H a (.lst xs) ∨
   ∃ (o:Obj) (its:Array Value) (n:Nat),K.lookup a=some o∧o.cls=.type "list"∧o.dict=none∧o.data=.seq its n∧its.size≤sizeLine∧Vals xs its.toList
def SqT (K:PySem.W.Frag)(H:Hp)(a:Addr)(xs:List V):Prop :=
 Rd H a (.tup xs) ∨
   ∃ (o:Obj) (its:Array Value) (n:Nat),K.lookup a=some o∧o.cls=.type "tuple"∧o.data=.seq its n∧its.size≤sizeLine∧Vals xs its.toList
def absV:Value→Option V
 | .none=>some .non
 | .bool b=>some (.bl b)
 | .int i _=>some (.int i)
 | .str x _=>some (.str x)
 | .bytes b _=>some (.byt b)
 | .float b _=>some (.flt b)
 | .ref a=>some (.ref a)
 | .type n=>some (.ty n)
 | _=>none
theorem RelV.abs {x:V}{u:Value}(r:RelV x u):absV u=some x:=by
 cases x with
 | non=>cases r;rfl
 | bl _=>cases r;rfl
 | int _=>obtain ⟨t,rfl⟩:=r;rfl
 | str _=>obtain ⟨t,rfl⟩:=r;rfl
 | byt _=>obtain ⟨t,rfl⟩:=r;rfl
 | flt _=>obtain ⟨t,rfl⟩:=r;rfl
 | ref _=>cases r;rfl
 | ty _=>cases r;rfl
theorem RelV.inj {x y:V}{u:Value}(r:RelV x u)(q:RelV y u):x=y:=Option.some.inj (r.abs.symm.trans q.abs)
theorem Vals.inj:∀{xs ys:List V}{us:List Value},Vals xs us→Vals ys us→xs=ys
 | _,_,_,.nil,.nil=>rfl
 | _,_,_,.cons r t,.cons r' t'=>by rw [r.inj r',Vals.inj t t']
section
variable {X:Cx}{pins:List (Addr×Obj)}{σ:St}{H:Hp}{s:Shared}{a:Addr}{xs ys:List V}
theorem SqL.of {K:PySem.W.Frag}(h:H a=some (.lst xs)):SqL K H a xs:=.inl (.inl h)
theorem SqT.of {K:PySem.W.Frag}(h:H a=some (.tup xs)):SqT K H a xs:=.inl (.inl h)
theorem Inv.list (I:Inv X pins σ H s)(h:SqL X.K H a xs):∃ its:List Value,Vals xs its∧PlainL s.heap a its.toArray∧xs.length≤sizeLine:=by
 rcases h with h | ⟨o,its,n,hk,hc,hd,hs,hz,r⟩
 · obtain ⟨z,its,n,r,e⟩:=h.ok I.hok
   exact ⟨its,r,⟨_,n,e,rfl,rfl,rfl⟩,z⟩
 · refine ⟨its.toList,r,⟨o,n,I.kIn a o hk,hc,hd,by simpa using hs⟩,?_⟩
   have e:=r.length
   simp only [Array.length_toList] at e
   omega
theorem Inv.tuple (I:Inv X pins σ H s)(h:SqT X.K H a xs):∃ its:List Value,Vals xs its∧IsTup s.heap a its.toArray∧xs.length≤sizeLine:=by
 rcases h with h | ⟨o,its,n,hk,hc,hs,hz,r⟩
 · obtain ⟨z,its,r,p⟩:=h.ok I.hok
   exact ⟨its,r,p,z⟩
 · refine ⟨its.toList,r,⟨o,I.kIn a o hk,hc,n,by simpa using hs⟩,?_⟩
   have e:=r.length
   simp only [Array.length_toList] at e
   omega
theorem Inv.list_inj (I:Inv X pins σ H s)(h:SqL X.K H a xs)(h':SqL X.K H a ys):xs=ys:=by
 obtain ⟨its,r,⟨o,n,e,_,_,d⟩,_⟩:=I.list h
 obtain ⟨its',r',⟨o',n',e',_,_,d'⟩,_⟩:=I.list h'
 rw [e] at e';cases e'
 rw [d] at d'
 injection d' with d1 _
 have:its=its':=by simpa using congrArg Array.toList d1
 subst this
 exact r.inj r'
theorem Inv.tuple_inj (I:Inv X pins σ H s)(h:SqT X.K H a xs)(h':SqT X.K H a ys):xs=ys:=by
 obtain ⟨its,r,⟨o,e,_,n,d⟩,_⟩:=I.tuple h
 obtain ⟨its',r',⟨o',e',_,n',d'⟩,_⟩:=I.tuple h'
 rw [e] at e';cases e'
 rw [d] at d'
 injection d' with d1 _
 have:its=its':=by simpa using congrArg Array.toList d1
 subst this
 exact r.inj r'
end
abbrev Cx.wish (X:Cx)(E:Value→Shared→Prop):Cx:={ X with xe:=E }
abbrev Cx.nox (X:Cx):Cx:=X.wish fun _ _=>False
theorem Cx.Ok.wish {X:Cx}(ok:X.Ok)(E:Value→Shared→Prop):(X.wish E).Ok :=
 ⟨ok.mod,ok.kind,ok.glob,ok.blt,ok.above,ok.inj,ok.has,ok.cab,ok.hd,ok.frames,ok.stk,ok.exf,ok.bs,ok.bsz,ok.noex,ok.exfs,ok.funs,ok.frf⟩
theorem Cx.Ok.unwish {X:Cx}{E:Value→Shared→Prop}(ok:(X.wish E).Ok):X.Ok :=
 ⟨ok.mod,ok.kind,ok.glob,ok.blt,ok.above,ok.inj,ok.has,ok.cab,ok.hd,ok.frames,ok.stk,ok.exf,ok.bs,ok.bsz,ok.noex,ok.exfs,ok.funs,ok.frf⟩
section
variable {X:Cx}{pins:List (Addr×Obj)}{σ:St}{H:Hp}{s:Shared}{E:Value→Shared→Prop}
theorem Inv.wish (I:Inv X pins σ H s)(E:Value→Shared→Prop):Inv (X.wish E) pins σ H s:=⟨I.ok.wish E,I.os,I.bare,I.base,I.loc,I.cell,I.free,I.freeC,I.pin,I.hok,I.len⟩
theorem Inv.unwish (I:Inv (X.wish E) pins σ H s):Inv X pins σ H s:=⟨I.ok.unwish,I.os,I.bare,I.base,I.loc,I.cell,I.free,I.freeC,I.pin,I.hok,I.len⟩
theorem SP.unwish {D:WB}{f:Flow}{s':Shared}(h:SP (X.wish E) pins D f s'):SP X pins D f s':=by
 cases f with
 | next=>obtain ⟨σ',H',I,q⟩:=h;exact ⟨σ',H',I.unwish,q⟩
 | brk=>obtain ⟨σ',H',I,q⟩:=h;exact ⟨σ',H',I.unwish,q⟩
 | cont=>obtain ⟨σ',H',I,q⟩:=h;exact ⟨σ',H',I.unwish,q⟩
 | ret u=>obtain ⟨v,σ',H',I,r,q⟩:=h;exact ⟨v,σ',H',I.unwish,r,q⟩
theorem PSs.nox {st:List Stmt}{t:TS}(h:PSs X.nox st t):PSs X st t:=fun pins s σ H D I hw =>
 wpAny_mono (h pins s σ H D (I.wish _) hw) (fun _ _ q=>q.unwish) fun _ _ z=>False.elim z
end
section
variable {X:Cx}{st:Stmt}{rest:List Stmt}{t u:TS}{e:Expr}{te:TE}{pos:Pos}
def ZbT:TS:=fun D σ H=>D.nx σ H
def Zeu (t u:TS):TS:=fun D σ H=>t { D with nx:=u D } σ H
theorem ZG:PSs X [] ZbT:=fun _ _ σ H _ I h=>wpAny_execs_nil ⟨σ,H,I,h⟩
theorem Zf (h1:PS X st t)(h2:PSs X rest u):PSs X (st::rest) (Zeu t u):=by
 intro pins s σ H D I h
 refine wpAny_execs_cons (Zm (h1 pins s σ H { D with nx:=u D } I h) fun f s1 q=>?_)
 cases f with
 | next =>
   obtain ⟨σ',H',I',q⟩:=q
   exact h2 pins s1 σ' H' D I' q
 | ret v=>exact q
 | brk=>exact q
 | cont=>exact q
theorem Zi (h1:PS X st t):PSs X [st] t:=by
 intro pins s σ H D I h
 refine wpAny_execs_cons (Zm (h1 pins s σ H D I h) fun f s1 q=>?_)
 cases f with
 | next=>exact wpAny_execs_nil q
 | ret v=>exact q
 | brk=>exact q
 | cont=>exact q
theorem Inv.quiet {pins:List (Addr×Obj)}{σ:St}{H:Hp}{s:Shared}(I:Inv X pins σ H s):interactive X.env=false:=by simp [interactive,I.ok.kind]
def ZlF (te:TE):TS:=fun D σ H=>te σ H fun _ H1=>D.nx σ H1
theorem YM (he:PE X e te)(hs:swapsWith e none pos.line X.env=pure false:=by rfl):PS X (.Expr e pos) (ZlF te):=by
 intro pins s σ H D I h
 exact wpAny_Expr_any (Zm (he pins s σ H _ I h) fun v s1 ⟨x,H1,I1,r1,q1⟩=>⟨σ,H1,I1,q1⟩) I.quiet hs
def Zeq (te:TE):TS:=fun D σ H=>te σ H D.rt
theorem Zp (he:PE X e te):PS X (.Return (some e) pos) (Zeq te):=by
 intro pins s σ H D I h
 exact wpAny_Return_some (Zm (he pins s σ H _ I h) fun v s1 ⟨x,H1,I1,r1,q1⟩=>⟨x,σ,H1,I1,r1,q1⟩)
def Zes (c:TT)(t u:TS):TS:=fun D σ H=>c σ H fun b H1=>if b=true then t D σ H1 else u D σ H1
theorem Yb {c:Expr}{a b:List Stmt}{tc:TT}(hc:PT X c tc)(ha:PSs X a t)(hb:PSs X b u):PS X (.If c a b pos) (Zes tc t u):=by
 intro pins s σ H D I h
 refine wpAny_If (Zm (hc pins s σ H _ I h) fun d s1 ⟨H1,I1,q1⟩=>?_)
 cases d with
 | true=>exact ha pins s1 σ H1 D I1 q1
 | false=>exact hb pins s1 σ H1 D I1 q1
end
abbrev TG:=V→St→Hp→(St→Hp→Prop)→Prop
abbrev TGs:=List V→St→Hp→(St→Hp→Prop)→Prop
def PG (X:Cx)(target:Expr)(t:TG):Prop :=
 ∀ (pins:List (Addr×Obj)) (s:Shared) (σ:St) (H:Hp) (v:V) (u:Value) (Q:St→Hp→Prop),Inv X pins σ H s→RelV v u→t v σ H Q →
   wpAny (model X.prog X.w) X.A (assign target X.env u) (fun _ s'=>∃ σ' H',Inv X pins σ' H' s'∧Q σ' H') X.xe s
def PGs (X:Cx)(ts:List Expr)(t:TGs):Prop :=
 ∀ (pins:List (Addr×Obj)) (s:Shared) (σ:St) (H:Hp) (vs:List V) (us:List Value) (Q:St→Hp→Prop),Inv X pins σ H s→Vals vs us→t vs σ H Q →
   wpAny (model X.prog X.w) X.A (assignInOrder ((assignEach ts X.env).map (·.2)) us) (fun _ s'=>∃ σ' H',Inv X pins σ' H' s'∧Q σ' H') X.xe s
abbrev Zhj:=V→V→V→Hp→(Hp→Prop)→Prop
def PSet (X:Cx)(t:Zhj):Prop :=
 ∀ (pins:List (Addr×Obj)) (s:Shared) (σ:St) (H:Hp) (o i v:V) (ov iv u:Value) (Q:Hp→Prop),Inv X pins σ H s→RelV o ov→RelV i iv→RelV v u→t o i v H Q →
   wpAny (model X.prog X.w) X.A (setItem ov iv u) (fun _ s'=>∃ H',Inv X pins σ H' s'∧Q H') X.xe s
abbrev TIp:=V→V→Hp→VK→Prop
def PIp (X:Cx)(op:Operator)(t:TIp):Prop :=
 ∀ (pins:List (Addr×Obj)) (s:Shared) (σ:St) (H:Hp) (x y:V) (v u:Value) (Q:VK),Inv X pins σ H s→RelV x v→RelV y u→t x y H Q →
   wpAny (model X.prog X.w) X.A (inplaceOp op v u) (EP X pins σ Q) X.xe s
section
variable {X:Cx}{pos:Pos}
def UK (i:Nat):TG:=fun v σ H Q=>Q (σ.set i (some v)) H
theorem ZD {i:Nat}{x:Str}(hN:X.N.Nodup)(hi:X.N[i]?=some x)(hx:Loc X.env.scope x)(hf:X.fn x=true∨X.env.scope.names.lookup x=some .local:=by first | exact .inl rfl | exact .inr rfl | assumption):PG X (.Name x pos) (UK i):=by
 intro pins s σ H v u Q I r h
 exact wpAny_assign_Name (Xa I hN hi hx r (fun s' I'=>⟨_,H,I',h⟩) hf)
def ZgH:TGs:=fun vs σ H Q=>vs=[]∧Q σ H
def Zal (t:TG)(u:TGs):TGs:=fun vs σ H Q=>∃ v r,vs=v::r∧t v σ H fun σ' H'=>u r σ' H' Q
theorem XO:PGs X [] ZgH:=by
 intro pins s σ H vs us Q I r h
 obtain ⟨e,h⟩:=h
 subst e
 cases r
 exact assignInOrder_nil ⟨σ,H,I,h⟩
theorem Yj {e:Expr}{es:List Expr}{t:TG}{u:TGs}(h1:PG X e t)(h2:PGs X es u)
   (hs:(assignEach (e::es) X.env).map (·.2)=assign e X.env::(assignEach es X.env).map (·.2):=by rfl):PGs X (e::es) (Zal t u):=by
 intro pins s σ H vs us Q I r h
 obtain ⟨v,vr,e1,h⟩:=h
 subst e1
 cases r with
 | cons r rr =>
   rw [hs]
   refine assignInOrder_cons (Zm (h1 pins s σ H _ _ _ I r h) fun _ s1 ⟨σ1,H1,I1,q1⟩=>?_)
   exact h2 pins s1 σ1 H1 _ _ Q I1 rr q1
def ZgS (K:PySem.W.Frag)(n:Nat)(t:TGs):TG:=fun v σ H Q=>∃ a xs,v=.ref a∧SqT K H a xs∧xs.length=n∧t xs σ H Q
theorem Wr {es:List Expr}{k:Nat}{t:TGs}{n:Nat}(hc:X.calm=true)(h:PGs X es t)
   (hn:(assignEach es X.env).length=n:=by rfl) (hst:(assignEach es X.env).findIdx? (·.1)=none:=by rfl):PG X (.Tuple es k pos) (ZgS X.K n t):=by
 intro pins s σ H v u Q I r hw
 obtain ⟨a,xs,e1,hq,hl,hw⟩:=hw
 subst e1
 cases r
 obtain ⟨its,rv,ht,hz⟩:=I.tuple hq
 refine assign_Tuple_tuple (I.ok.hd hc) ht (by simp [hn,← hl,rv.length]) hst fun h' hx=>?_
 have I1:Inv X pins σ H { s with heap:=h' }:=I.kept (t':=s.toks) fun b o e=>hx b o (Nat.ne_of_lt (Heap.lt_size e)) e
 exact h pins _ σ H xs _ Q I1 (by simpa using rv) hw
def gSub (to ti:TE)(t:Zhj):TG:=fun v σ H Q=>to σ H fun o H1=>ti σ H1 fun i H2=>t o i v H2 fun H3=>Q σ H3
theorem Zgh {o i:Expr}{to ti:TE}{t:Zhj}(ho:PE X o to)(hi:PE X i ti)(hs:PSet X t)
   (ha:∀ v,assign (.Subscript o i pos) X.env v=(do
     let ov ← holding [v] (eval o X.env)
     let iv ← holding [v,ov] (eval i X.env)
     standAt pos
     holding [v,ov,iv] (setItem ov iv v)
     release [v,ov,iv] []):=by intro _;rfl):PG X (.Subscript o i pos) (gSub to ti t):=by
 intro pins s σ H v u Q I r h
 rw [ha]
 refine wpAny_bind (wpAny_holding (Zm (ho pins s σ H _ I h) fun ov s1 ⟨x,H1,I1,r1,q1⟩=>?_))
 refine wpAny_bind (wpAny_holding (Zm (hi pins s1 σ H1 _ I1 q1) fun iv s2 ⟨y,H2,I2,r2,q2⟩=>?_))
 refine wpAny_bind (wpAny_standAt (wpAny_bind (wpAny_holding (Zm (hs pins s2 σ H2 x y v ov iv u _ I2 r1 r2 r q2) fun _ s3 ⟨H3,I3,q3⟩=>?_))))
 exact wpAny_release ⟨σ,H3,I3,q3⟩
def ZbV (te:TE)(g:TG):TS:=fun D σ H=>te σ H fun x H1=>g x σ H1 D.nx
theorem Uk {tg e:Expr}{te:TE}{g:TG}(he:PE X e te)(hg:PG X tg g)(hs:swapsWithSole [tg] e pos.line X.env=pure false:=by rfl)(hw:swappedStores [tg] e X.env=pure none:=by rfl)
   (h1:(assignEach [tg] X.env).map (·.2)=[assign tg X.env]:=by rfl):PS X (.Assign [tg] e pos) (ZbV te g):=by
 intro pins s σ H D I h
 refine wpAny_Assign_stores (Zm (he pins s σ H _ I h) fun v s1 ⟨x,H1,I1,r1,q1⟩=>?_) hs hw
 rw [h1]
 exact Zm (hg pins s1 σ H1 x v _ I1 r1 q1) fun _ s2 q=>q
theorem Zs {i:Nat}{x:Str}{e:Expr}{te:TE}{pos':Pos}(hN:X.N.Nodup)(hi:X.N[i]?=some x)(hx:Loc X.env.scope x)(he:PE X e te)(hs:swapsWith e (some (.Name x pos')) pos.line X.env=pure false:=by rfl)(hf:X.fn x=true∨X.env.scope.names.lookup x=some .local:=by first | exact .inl rfl | exact .inr rfl | assumption) :
   PS X (.Assign [.Name x pos'] e pos) (ZbV te (UK i)):=by
 intro pins s σ H D I h
 refine wpAny_Assign_Name (Zm (he pins s σ H _ I h) fun v s1 ⟨y,H1,I1,r1,q1⟩=>?_) hs
 exact Xa I1 hN hi hx r1 (fun s2 I2=>⟨_,H1,I2,q1⟩) hf
def tPar (i j:Nat)(ta:TA):TS:=fun D σ H=>ta σ H fun vs H1=>∃ v w,vs=[v,w]∧D.nx ((σ.set i (some v)).set j (some w)) H1
theorem XT {i j:Nat}{x y:Str}{a b:Expr}{ta:TA}{px py pt:Pos}{kt k2 pt2}(hc:X.calm=true)(hN:X.N.Nodup)(hi:X.N[i]?=some x)(hj:X.N[j]?=some y)(hij:i≠j)
   (hx:X.env.scope.names.lookup x=some .local) (hy:X.env.scope.names.lookup y=some .local) (ha:PA X [a,b] ta)
   (hw:swappedStores [.Tuple [.Name x px,.Name y py] kt pt] (.Tuple [a,b] k2 pt2) X.env=pure (some [x,y]))
   (hs:swapsWithSole [.Tuple [.Name x px,.Name y py] kt pt] (.Tuple [a,b] k2 pt2) pos.line X.env=pure false:=by rfl) :
   PS X (.Assign [.Tuple [.Name x px,.Name y py] kt pt] (.Tuple [a,b] k2 pt2) pos) (tPar i j ta):=by
 intro pins s σ H D I h
 rw [exec_Assign_arm]
 refine wpAny_bind (wpAny_standAt ?_)
 rw [hs]
 refine wpAny_bind (wpAny_pure ?_)
 rw [if_neg (by decide)]
 refine wpAny_bind (Tuple_ (Zm (ha _ pins s σ H _ I h) fun us s1 ⟨vs,H1,I1,r1,q1⟩=>?_))
 obtain ⟨v,w,e1,q1⟩:=q1
 subst e1
 obtain ⟨u1,u2,rfl,rv,rw'⟩:∃ u1 u2,us=[u1,u2]∧RelV v u1∧RelV w u2:=by
   cases r1 with
   | cons p q =>
     cases q with
     | cons p' q' =>
       cases q'
       exact ⟨_,_,rfl,p,p'⟩
 refine wpAny_newObj_type ?_ (by show 2≤sizeLine;decide)
 have I2:Inv X pins σ H1 { s1 with heap:=s1.heap.push { cls:=.type "tuple",data:=.seq [u1,u2].toArray } }:=I1.kept (t':=s1.toks) fun b o e=>Heap.get?_push_of_some _ e
 rw [hw]
 refine wpAny_bind (wpAny_pure ?_)
 show wpAny (model X.prog X.w) X.A (do rule "assign.swapped-stores";let items ← unpackItems (.ref s1.heap.objs.size) 2 none;assignInOrder [fun v=>bindName X.env y v,fun v=>bindName X.env x v] items.reverse;pure Flow.next) _ _ _
 refine wpAny_bind (wpAny_rule (wpAny_bind (unpackItems_tuple (items:=#[u1,u2]) (I.ok.hd hc) (IsTup.new s1.heap _) fun h' hx'=>?_)))
 have I3:=I2.kept (h':=h') (t':=s1.toks) fun b o e=>hx' b o (Nat.ne_of_lt (Heap.lt_size e)) e
 show wpAny _ _ (assignInOrder [fun v=>bindName X.env y v,fun v=>bindName X.env x v] [u2,u1] >>= fun _=>pure Flow.next) _ _ _
 refine wpAny_bind (assignInOrder_cons (wpAny_bindName (Xa I3 hN hj (.inl hy) rw' (fun s2 I4=>?_) (.inr hy))))
 refine assignInOrder_cons (wpAny_bindName (Xa I4 hN hi (.inl hx) rv (fun s3 I5=>assignInOrder_nil (wpAny_pure ?_)) (.inr hx)))
 rw [List.set_comm _ _ (Ne.symm hij)] at I5
 exact ⟨_,H1,I5,q1⟩
def tAug (i:Nat)(te:TE)(ti:TIp):TS:=fun D σ H=>∃ x,σ[i]?=some (some x)∧te σ H fun y H1=>ti x y H1 fun z H2=>D.nx (σ.set i (some z)) H2
theorem Zkj {i:Nat}{x:Str}{e:Expr}{te:TE}{op:Operator}{ti:TIp}{pos':Pos}(hN:X.N.Nodup)(hi:X.N[i]?=some x)(hx:Loc X.env.scope x)(he:PE X e te)(ho:PIp X op ti)(hf:X.fn x=true∨X.env.scope.names.lookup x=some .local:=by first | exact .inl rfl | exact .inr rfl | assumption) :
   PS X (.AugAssign (.Name x pos') op e pos) (tAug i te ti):=by
 intro pins s σ H D I h
 obtain ⟨v,e1,h⟩:=h
 obtain ⟨m,hn,hl⟩:=I.loc
 have vis:Vis X.env.scope x:=by rcases hx with k | k;exact .inl k;exact .inr (.inl k)
 obtain ⟨u,r,l⟩:=hl i x v hi e1 vis
 refine wpAny_AugAssign_Name ?_
 have go:wpAny (model X.prog X.w) X.A (eval e X.env) (fun w s₂=>wpAny (model X.prog X.w) X.A (inplaceOp op u w) (fun r s₃=>wpAny (model X.prog X.w) X.A (storeName X.env x r) (fun _=>SP X pins D .next) X.xe s₃) X.xe s₂) X.xe s:=by
   refine Zm (he pins s σ H _ I h) fun w s1 ⟨y,H1,I1,r1,q1⟩=>?_
   refine Zm (ho pins s1 σ H1 v y u w _ I1 r r1 q1) fun z s2 ⟨zv,H2,I2,r2,q2⟩=>?_
   exact Xa I2 hN hi hx r2 (fun s3 I3=>⟨_,H2,I3,q2⟩) hf
 rcases l with ⟨hk,hm⟩ | ⟨hk,c,hc,hcell⟩
 · exact wpAny_loadName_local I.ok.kind hk hn hm go
 · rcases hk with hk | hk
   · exact wpAny_loadName_cell I.ok.kind hk hc hcell go
   · rcases hx with k | k
     · have:X.env.scope.names.lookup x=some .free:=hk
       rw [k] at this;cases this
     · have:X.env.scope.names.lookup x=some .free:=hk
       rw [k] at this;cases this
end
section
variable {X:Cx}{pos:Pos}
def Zkb (c:TT)(tb:TS):TS:=fun D σ H=>∃ W:Nat→St→Hp→Prop,(∃ m,W m σ H)∧∀ m σ H,W m σ H →
 c σ H fun b H1=>if b=true then ∃ N:St→Hp→Prop,(∀ σ' H',N σ' H'→∃ m',m' < m∧W m' σ' H')∧tb { D with nx:=N,ct:=N,bk:=D.nx } σ H1 else D.nx σ H1
theorem Zgz {c:Expr}{body:List Stmt}{tc:TT}{tb:TS}(hp:PassesOwn (model X.prog X.w) X.A X.env X.xe)(hc:PT X c tc)(hb:PSs X body tb):PS X (.While c body [] pos) (Zkb tc tb):=by
 intro pins s σ H D I h
 obtain ⟨W,⟨m0,w0⟩,turn⟩:=h
 refine wpAny_While (codeAny_whileLoop (fun n s'=>∃ σ' H',Inv X pins σ' H' s'∧W n σ' H') ?_ m0 ⟨σ,H,I,w0⟩)
 rintro n s1 ⟨σ1,H1,I1,w1⟩
 refine wpAny_passesOwn hp (Zm (hc pins s1 σ1 H1 _ I1 (turn n σ1 H1 w1)) fun b s2 ⟨H2,I2,q2⟩=>?_)
 cases b with
 | true =>
   obtain ⟨N,hN,q2⟩:=q2
   rw [if_pos rfl]
   refine wpAny_passesOwn hp (Zm (hb pins s2 σ1 H2 _ I2 q2) fun f s3 q3=>?_)
   cases f with
   | next =>
     obtain ⟨σ3,H3,I3,n3⟩:=q3
     obtain ⟨m',hm,w3⟩:=hN σ3 H3 n3
     exact ⟨m',hm,σ3,H3,I3,w3⟩
   | cont =>
     obtain ⟨σ3,H3,I3,n3⟩:=q3
     obtain ⟨m',hm,w3⟩:=hN σ3 H3 n3
     exact ⟨m',hm,σ3,H3,I3,w3⟩
   | brk=>exact q3
   | ret v=>exact q3
 | false =>
   rw [if_neg Bool.false_ne_true]
   exact wpAny_execs_nil ⟨σ1,H2,I2,q2⟩
end
structure It where
 go:Nat→Hp→Prop
 yld:Nat→Hp→V→Hp→Prop
 stop:Nat→Hp→Prop
def Yg (X:Cx)(pins:List (Addr×Obj))(H:Hp)(b:Addr):Prop :=
 H b=none∧b≠X.env.locals∧b ∉ X.fs∧(b∈X.ex∨X.s₀.heap.objs.size≤b)∧(∀ x c,X.env.cells.lookup x=some c→c≠b)∧∀ p∈X.pn++pins,p.1≠b
theorem Inv.fpOk {X:Cx}{pins:List (Addr×Obj)}{σ:St}{H H':Hp}{s:Shared}{b:Addr}(I:Inv X pins σ H s)(hb:s.heap.objs.size≤b)(hn:H' b=none):Yg X pins H' b:=by
 refine ⟨hn,Nat.ne_of_gt (Nat.lt_of_lt_of_le I.lt hb),I.nofs hb,.inr (Nat.le_trans I.sz hb),fun x c e z=>?_,fun p hp z=>?_⟩
 · obtain ⟨v,q⟩:=I.cell x c e
   exact absurd (Nat.lt_of_lt_of_le q.lt (by rw [z];exact hb)) (Nat.lt_irrefl _)
 · exact absurd (Nat.lt_of_lt_of_le (Heap.lt_size (I.pin p hp).1) (by rw [z];exact hb)) (Nat.lt_irrefl _)
structure Wm (P:Program)(w:World)(K:PySem.W.Frag)(tg:Expr)(J:It)(fp:List Addr)(it:Addr)(tn:Nat→Heap→Prop):Prop where
 mem:it∈fp
 obj:∀ i h,tn i h→∀ b∈fp,∃ o,h.get? b=some o∧∀ v,o.data≠.cell v
 keep:∀ i h h',tn i h→(∀ b∈fp,∀ o,h.get? b=some o→h'.get? b=some o)→tn i h'
 item:∀ (X:Cx),X.prog=P→X.w=w→X.K=K→X.calm=true→∀ (i:Nat) (pins:List (Addr×Obj)) (s:Shared) (σ:St) (H:Hp) (E:Value→Shared→Prop),Inv X pins σ H s→(∀ b∈fp,Yg X pins H b)→tn i s.heap→J.go i H →
   wpAny (model P w) X.A (pyNext (.ref it)) (fun r s1=>∃ u,r=some u ∧
     wpAny (model P w) X.A (letOwnedTupleGo tg (.ref it) u) (fun _ s2=>∃ x H',Inv X pins σ H' s2∧RelV x u∧J.yld i H x H'∧tn (i+1) s2.heap∧∀ b∈fp,H' b=none) E s1) E s
 done:∀ (X:Cx),X.prog=P→X.w=w→X.K=K→X.calm=true→∀ (i:Nat) (pins:List (Addr×Obj)) (s:Shared) (σ:St) (H:Hp) (E:Value→Shared→Prop),Inv X pins σ H s→(∀ b∈fp,Yg X pins H b)→tn i s.heap→J.stop i H →
   wpAny (model P w) X.A (pyNext (.ref it)) (fun r s1=>r=none∧Inv X pins σ H s1) E s
 self:∀ (A:Around) (i:Nat) (s:Shared) (Q:Value→Shared→Prop) (E:Value→Shared→Prop),tn i s.heap→Q (.ref it) s→wpAny (model P w) A (pyIter (.ref it)) Q E s
abbrev TI:=St→Hp→(It→Hp→Prop)→Prop
def PIE (X:Cx)(pins:List (Addr×Obj))(σ:St)(tg:Expr)(R:It→Hp→Prop)(itv:Value)(s2:Shared):Prop :=
 ∃ (it:Addr) (fp:List Addr) (tn:Nat→Heap→Prop) (J:It) (H':Hp),itv=.ref it∧Inv X pins σ H' s2∧Wm X.prog X.w X.K tg J fp it tn∧tn 0 s2.heap∧(∀ b∈fp,Yg X pins H' b)∧R J H'
def PI (X:Cx)(tg iter:Expr)(wi:TI):Prop :=
 ∀ (pins:List (Addr×Obj)) (s:Shared) (σ:St) (H:Hp) (R:It→Hp→Prop),Inv X pins σ H s→wi σ H R →
   wpAny (model X.prog X.w) X.A (eval iter X.env) (fun v s1=>wpAny (model X.prog X.w) X.A (pyIter v) (PIE X pins σ tg R) X.xe s1) X.xe s
theorem Zai {M:Model}{A:Around}{E:Value→Shared→Prop}{s:Shared}{tg:Expr}{it:Addr}{u:Value}{o:Obj}{n:String}{vs:Array Value}{Q:Unit→Shared→Prop}(ho:s.heap.get? it=some o)(hc:o.cls=.type n)(hd:o.data=.fields vs)
   (hn:["enumerate","zip","dict_itemiterator","dict_reverseitemiterator","odict_iterator","itertools.zip_longest","itertools.pairwise"].contains n=false) (hQ:Q () s):wpAny M A (letOwnedTupleGo tg (.ref it) u) Q E s:=by
 unfold letOwnedTupleGo
 cases tg <;> first
   | exact wpAny_pure hQ
   | (cases u<;>first
       | exact wpAny_pure hQ
       | (refine wpAny_bind (wpAny_load ho ?_)
          rw [hc,hd]
          show wpAny M A (if (["enumerate","zip","dict_itemiterator","dict_reverseitemiterator","odict_iterator","itertools.zip_longest","itertools.pairwise"].contains n&&vs[0]? == some (rawInt _))=true then _ else _) Q E s
          rw [if_neg (by intro h;rw [hn,Bool.false_and] at h;cases h)]
          exact wpAny_pure hQ))
def Itl (K:PySem.W.Frag)(a:Addr):It :=
 ⟨fun i H=>∃ xs x,SqL K H a xs∧xs[i]?=some x,fun i H x H'=>H'=H∧∀ xs,SqL K H a xs→xs[i]?=some x,fun i H=>∃ xs,SqL K H a xs∧xs.length≤i⟩
def Itt (K:PySem.W.Frag)(a:Addr):It :=
 ⟨fun i H=>∃ xs x,SqT K H a xs∧xs[i]?=some x,fun i H x H'=>H'=H∧∀ xs,SqT K H a xs→xs[i]?=some x,fun i H=>∃ xs,SqT K H a xs∧xs.length≤i⟩
def Itr (lo:Int)(n:Nat):It:=⟨fun i _=>i < n,fun i H x H'=>H'=H∧x=.int (lo+i),fun i _=>n≤i⟩
theorem Zft {P:Program}{w:World}{K:PySem.W.Frag}{tg:Expr}(a it:Addr):Wm P w K tg (Itl K a) [it] it (fun i h=>h.IsListIter it a i) where
 mem:=by simp
 obj:=fun i h st b hb=>by
   have e:b=it:=by simpa using hb
   subst e
   obtain ⟨o,e,c,d⟩:=st
   exact ⟨o,e,fun v z=>by rw [d] at z;cases z⟩
 keep:=fun i h h' st k=>st.at fun o e=>k it (by simp) o e
 item:=by
   intro X hP hw hK hc i pins s σ H E I hf st hg
   subst hP hw hK
   obtain ⟨xs,x,hq,hx⟩:=hg
   obtain ⟨its,rv,p,hz⟩:=I.list hq
   obtain ⟨u,hu,ru⟩:=rv.get hx
   obtain ⟨f0,f1,f2,f3,f4,f5⟩:=hf it (by simp)
   refine wpAny_pyNext_list_item st p.isList (x:=u) (by simpa using hu) fun h' st' sb=>?_
   have I1:Inv X pins σ H { s with heap:=h' }:=I.turned (t':=s.toks) (fun b o hb e=>(sb.2 b hb).trans e) f0 f1 f3 f4 f5
   obtain ⟨o,e,c,d⟩:=id st'
   exact ⟨u,rfl,Zai (s:={ s with heap:=h' }) e c d (by decide) ⟨x,H,I1,ru,⟨rfl,fun ys hy=>by rw [I.list_inj hy hq];exact hx⟩,st',fun b hb=>(hf b hb).1⟩⟩
 done:=by
   intro X hP hw hK hc i pins s σ H E I hf st hg
   subst hP hw hK
   obtain ⟨xs,hq,hx⟩:=hg
   obtain ⟨its,rv,p,hz⟩:=I.list hq
   obtain ⟨f0,f1,f2,f3,f4,f5⟩:=hf it (by simp)
   have hl:=rv.length
   exact wpAny_pyNext_list_end (I.ok.hd hc) st p.isList (by simp;omega) fun h' eb=>⟨rfl,I.turned (t':=s.toks) (fun b o hb e=>eb b o hb e) f0 f1 f3 f4 f5⟩
 self:=fun _ _ _ _ _ st h=>wpAny_pyIter_listiter st h
theorem Zew {P:Program}{w:World}{K:PySem.W.Frag}{tg:Expr}(a it:Addr):Wm P w K tg (Itt K a) [it] it (fun i h=>h.IsTupleIter it a i) where
 mem:=by simp
 obj:=fun i h st b hb=>by
   have e:b=it:=by simpa using hb
   subst e
   obtain ⟨o,e,c,d⟩:=st
   exact ⟨o,e,fun v z=>by rw [d] at z;cases z⟩
 keep:=fun i h h' st k=>st.at fun o e=>k it (by simp) o e
 item:=by
   intro X hP hw hK hc i pins s σ H E I hf st hg
   subst hP hw hK
   obtain ⟨xs,x,hq,hx⟩:=hg
   obtain ⟨its,rv,p,hz⟩:=I.tuple hq
   obtain ⟨u,hu,ru⟩:=rv.get hx
   obtain ⟨f0,f1,f2,f3,f4,f5⟩:=hf it (by simp)
   refine wpAny_pyNext_tuple_item st (show s.heap.IsTuple a its.toArray from p) (x:=u) (by simpa using hu) fun h' st' sb=>?_
   have I1:Inv X pins σ H { s with heap:=h' }:=I.turned (t':=s.toks) (fun b o hb e=>(sb.2 b hb).trans e) f0 f1 f3 f4 f5
   obtain ⟨o,e,c,d⟩:=id st'
   exact ⟨u,rfl,Zai (s:={ s with heap:=h' }) e c d (by decide) ⟨x,H,I1,ru,⟨rfl,fun ys hy=>by rw [I.tuple_inj hy hq];exact hx⟩,st',fun b hb=>(hf b hb).1⟩⟩
 done:=by
   intro X hP hw hK hc i pins s σ H E I hf st hg
   subst hP hw hK
   obtain ⟨xs,hq,hx⟩:=hg
   obtain ⟨its,rv,p,hz⟩:=I.tuple hq
   obtain ⟨f0,f1,f2,f3,f4,f5⟩:=hf it (by simp)
   have hl:=rv.length
   exact wpAny_pyNext_tuple_end (I.ok.hd hc) st (show s.heap.IsTuple a its.toArray from p) (by simp;omega) fun h' eb=>⟨rfl,I.turned (t':=s.toks) (fun b o hb e=>eb b o hb e) f0 f1 f3 f4 f5⟩
 self:=fun _ _ _ _ _ st h=>wpAny_pyIter_tupleiter st h
theorem ZeZ {P:Program}{w:World}{K:PySem.W.Frag}{tg:Expr}(it:Addr)(lo:Int)(n:Nat):Wm P w K tg (Itr lo n) [it] it (fun i h=>IsRangeIter h it (lo+(i:Nat) * 1) ((n:Int) - (i:Nat)) 1) where
 mem:=by simp
 obj := fun i h st b hb=>by
   have e:b=it:=by simpa using hb
   subst e
   exact ⟨_,st,fun v z=>by
     have z':Data.fields _=Data.cell v:=z
     cases z'⟩
 keep:=fun i h h' st k=>k it (by simp) _ st
 item:=by
   intro X hP hw hK hc i pins s σ H E I hf st hg
   subst hP hw hK
   obtain ⟨f0,f1,f2,f3,f4,f5⟩:=hf it (by simp)
   have W:=Walks.range (prog:=X.prog) (w:=X.w) (I.ok.hd hc) it lo 1 n
   refine W.item i s _ _ hg st fun v h' tk hv st' kk=>?_
   obtain ⟨t,rfl⟩:=hv
   have I1:Inv X pins σ H { s with heap:=h',toks:=tk }:=I.turned (fun b o hb e=>kk b o (by simpa using hb) e) f0 f1 f3 f4 f5
   refine ⟨_,rfl,Zai (s:={ s with heap:=h',toks:=tk }) (n:="range_iterator") st' rfl rfl (by decide) ⟨.int (lo+i),H,I1,⟨t,?_⟩,⟨rfl,rfl⟩,st',fun b hb=>(hf b hb).1⟩⟩
   rw [Int.mul_one]
 done:=by
   intro X hP hw hK hc i pins s σ H E I hf st hg
   subst hP hw hK
   obtain ⟨f0,f1,f2,f3,f4,f5⟩:=hf it (by simp)
   exact wpAny_pyNext_range_end (I.ok.hd hc) st (by have:n≤i:=hg;omega) fun h' eb=>⟨rfl,I.turned (t':=s.toks) (fun b o hb e=>eb b o hb e) f0 f1 f3 f4 f5⟩
 self:=fun _ _ _ _ _ st h=>wpAny_pyIter_rangeiter st h
end L2
namespace L2
open PySem PySem.Spec PyProof.Rows
section
variable {X:Cx}{tg:Expr}
def Ziv (K:PySem.W.Frag)(tl:TE):TI:=fun σ H R=>tl σ H fun x H1=>∃ a,x=.ref a∧(∃ xs,SqL K H1 a xs)∧R (Itl K a) H1
def iTup (K:PySem.W.Frag)(tl:TE):TI:=fun σ H R=>tl σ H fun x H1=>∃ a,x=.ref a∧(∃ xs,SqT K H1 a xs)∧R (Itt K a) H1
theorem Vp {l:Expr}{tl:TE}(hl:PE X l tl):PI X tg l (Ziv X.K tl):=by
 intro pins s σ H R I h
 refine Zm (hl pins s σ H _ I h) fun v s1 ⟨x,H1,I1,r1,q1⟩=>?_
 obtain ⟨a,e,⟨xs,hq⟩,q⟩:=q1
 subst e
 cases r1
 obtain ⟨its,rv,p,hz⟩:=I1.list hq
 refine wpAny_pyIter_list p.isList ?_
 refine ⟨s1.heap.objs.size,[s1.heap.objs.size],_,_,H1,rfl,I1.kept (t':=s1.toks) fun b o e=>Heap.get?_push_of_some _ e,Zft a _,⟨_,Heap.get?_push_size _ rfl,rfl,rfl⟩,fun b hb=>?_,q⟩
 have e:b=s1.heap.objs.size:=by simpa using hb
 subst e
 exact I1.fpOk (Nat.le_refl _) (I1.hok.fresh (Nat.le_refl _))
theorem Vb {l:Expr}{tl:TE}(hl:PE X l tl):PI X tg l (iTup X.K tl):=by
 intro pins s σ H R I h
 refine Zm (hl pins s σ H _ I h) fun v s1 ⟨x,H1,I1,r1,q1⟩=>?_
 obtain ⟨a,e,⟨xs,hq⟩,q⟩:=q1
 subst e
 cases r1
 obtain ⟨its,rv,p,hz⟩:=I1.tuple hq
 refine wpAny_pyIter_tuple (show s1.heap.IsTuple a its.toArray from p) ?_
 refine ⟨s1.heap.objs.size,[s1.heap.objs.size],_,_,H1,rfl,I1.kept (t':=s1.toks) fun b o e=>Heap.get?_push_of_some _ e,Zew a _,⟨_,Heap.get?_push_size _ rfl,rfl,rfl⟩,fun b hb=>?_,q⟩
 have e:b=s1.heap.objs.size:=by simpa using hb
 subst e
 exact I1.fpOk (Nat.le_refl _) (I1.hok.fresh (Nat.le_refl _))
theorem ZhI {pins:List (Addr×Obj)}{σ:St}{H:Hp}{s:Shared}{R:It→Hp→Prop}{E:Value→Shared→Prop}{lo hi:Int}{t u v:Tok}{tk:Nat}(I:Inv X pins σ H s)(h1:-(2 ^ 62)≤lo)(h2:lo < 2 ^ 62)(h3:-(2 ^ 62)≤hi)(h4:hi < 2 ^ 62)
   (q:R (Itr lo (hi - lo).toNat) H):wpAny (model X.prog X.w) X.A (pyIter (.ref s.heap.objs.size)) (PIE X pins σ tg R) E { s with heap:=s.heap.push { cls:=.type "range",data:=.fields #[.int lo t,.int hi u,.int 1 v] },toks:=tk }:=by
 refine wpAny_pyIter_range (IsRange.new ..) (small_one h1 h2 h3 h4) ?_
 have I1:Inv X pins σ H { s with heap:=s.heap.push { cls:=.type "range",data:=.fields #[.int lo t,.int hi u,.int 1 v] },toks:=tk }:=I.kept fun b o e=>Heap.get?_push_of_some _ e
 refine ⟨(s.heap.push { cls:=.type "range",data:=.fields #[.int lo t,.int hi u,.int 1 v] }).objs.size,[(s.heap.push { cls:=.type "range",data:=.fields #[.int lo t,.int hi u,.int 1 v] }).objs.size],_,_,H,rfl,
   I1.kept (t':=tk) fun b o e=>Heap.get?_push_of_some _ e,ZeZ _ lo (hi - lo).toNat,?_,fun b hb=>?_,q⟩
 · have e1:lo+((0:Nat):Int) * 1=lo:=by simp
   have e2:(((hi - lo).toNat:Nat):Int) - ((0:Nat):Int)=Builtin.Range.rangeSize lo hi 1:=by rw [rangeSize_one];split<;>omega
   show IsRangeIter _ _ (lo+((0:Nat):Int) * 1) ((((hi - lo).toNat:Nat):Int) - ((0:Nat):Int)) 1
   rw [e1,e2]
   exact Heap.get?_push_size _ rfl
 · have e:b=(s.heap.push { cls:=.type "range",data:=.fields #[.int lo t,.int hi u,.int 1 v] }).objs.size:=by simpa using hb
   subst e
   exact I1.fpOk (Nat.le_refl _) (I1.hok.fresh (Nat.le_refl _))
def Zlj (ta:TA):TI:=fun σ H R=>ta σ H fun vs H1=>∃ j:Int,vs=[.int j]∧-(2 ^ 62)≤j∧j < 2 ^ 62∧R (Itr 0 j.toNat) H1
theorem Wu {a:Expr}{ta:TA}{p pos:Pos}(hg:Gl X "range")(hm:X.mg "range"=none)(ha:PA X [a] ta)(hs:starEach [a] X.env=[(false,eval a X.env)]:=by rfl):PI X tg (.Call (.Name "range" p) [a] [] pos) (Zlj ta):=by
 intro pins s σ H R I h
 refine Call_ (Xy I hg hm boot_range (PyProof.Rows.callWith_type1 (Zm (ha pos pins s σ H _ I h) fun us s1 ⟨vs,H1,I1,r1,q1⟩=>?_) hs rfl))
 obtain ⟨j,e,q1,q2,q⟩:=q1
 subst e
 cases r1 with
 | cons r rr =>
   cases rr
   obtain ⟨t,rfl⟩:=r
   exact call_range_1 (ZhI I1 (by omega) (by omega) q1 q2 (by simpa using q))
def tFor (wi:TI)(g:TG)(tb:TS):TS:=fun D σ H=>wi σ H fun J H1=>∃ W:Nat→Nat→St→Hp→Prop,(∃ m,W 0 m σ H1)∧∀ i m σ H,W i m σ H →
 (J.stop i H∧D.nx σ H)∨(J.go i H∧∃ N:St→Hp→Prop,(∀ σ' H',N σ' H'→∃ m',m' < m∧W (i+1) m' σ' H')∧∀ x H',J.yld i H x H'→g x σ H' fun σ2 H2=>tb { D with nx:=N,ct:=N,bk:=D.nx } σ2 H2)
def Zac (fp:List Addr)(h:Heap):List (Addr×Obj):=fp.filterMap fun b=>(h.get? b).map fun o=>(b,o)
theorem YB {fp:List Addr}{h:Heap}{b:Addr}{o:Obj}(hb:b∈fp)(e:h.get? b=some o):(b,o)∈Zac fp h:=List.mem_filterMap.mpr ⟨b,hb,by rw [e];rfl⟩
theorem ZfM {fp:List Addr}{h:Heap}{p:Addr×Obj}(hp:p∈Zac fp h):p.1∈fp∧h.get? p.1=some p.2:=by
 obtain ⟨b,hb,e⟩:=List.mem_filterMap.mp hp
 cases q:h.get? b with
 | none=>rw [q] at e;cases e
 | some o =>
   rw [q] at e
   have e':(b,o)=p:=Option.some.inj e
   subst e'
   exact ⟨hb,q⟩
theorem Inv.pinned {pins:List (Addr×Obj)}{σ:St}{H:Hp}{s:Shared}{fp:List Addr}(I:Inv X pins σ H s)(hf:∀ b∈fp,Yg X pins H b)(ho:∀ b∈fp,∃ o,s.heap.get? b=some o∧∀ v,o.data≠.cell v):Inv X (pins++Zac fp s.heap) σ H s :=
 I.pins_of fun p hp=>(List.mem_append.mp hp).elim (fun z=>I.pin p (List.mem_append_right _ z)) fun z=>by
   obtain ⟨hb,e⟩:=ZfM z
   obtain ⟨f0,f1,f2,_⟩:=hf p.1 hb
   obtain ⟨o,e',d⟩:=ho p.1 hb
   rw [e] at e';cases e'
   exact ⟨e,f0,f1,f2,d⟩
theorem Inv.unpinned {pins pl:List (Addr×Obj)}{σ:St}{H:Hp}{s:Shared}(I:Inv X (pins++pl) σ H s):Inv X pins σ H s:=I.pins_of fun p hp=>I.pin p (List.mem_append_right _ (List.mem_append_left _ hp))
theorem Xn {iter:Expr}{body:List Stmt}{wi:TI}{g:TG}{tb:TS}{pos:Pos}(hp:PassesOwn (model X.prog X.w) X.A X.env X.xe)(hc:X.calm=true)(hi:PI X tg iter wi)(hg:PG X tg g)(hb:PSs X body tb)
   (hs:∀ x,foldedSetIterable iter X.env x=pure x:=by intro _;rfl):PS X (.For tg iter body [] pos) (tFor wi g tb):=by
 intro pins s σ H D I h
 refine wpAny_For (Zm (hi pins s σ H _ I h) fun v s1 h1=>Zm h1 fun itv s2 h2=>?_) hs
 obtain ⟨it,fp,tn,J,H2,e,I2,T,st2,f2,W,⟨m0,w0⟩,turn⟩:=h2
 subst e
 have stat:∀ {H':Hp},(∀ b∈fp,H' b=none)→∀ b∈fp,Yg X pins H' b:=fun hn b hb=>⟨hn b hb,(f2 b hb).2⟩
 refine codeAny_forLoop_any (fun n s'=>∃ i σ' H',Inv X pins σ' H' s'∧tn i s'.heap∧(∀ b∈fp,H' b=none)∧W i n σ' H') ?_ m0 ⟨0,σ,H2,I2,st2,fun b hb=>(f2 b hb).1,w0⟩
 rintro n s3 ⟨i,σ3,H3,I3,st3,fr3,w3⟩
 rcases turn i n σ3 H3 w3 with ⟨stop,qn⟩ | ⟨go,N,hN,step⟩
 · refine wpAny_passesOwn hp (Zm (T.done X rfl rfl rfl hc i pins s3 σ3 H3 X.xe I3 (stat fr3) st3 stop) fun r s4 ⟨hr,I4⟩=>?_)
   subst hr
   exact wpAny_execs_nil ⟨σ3,H3,I4,qn⟩
 · refine wpAny_passesOwn hp (Zm (T.item X rfl rfl rfl hc i pins s3 σ3 H3 X.xe I3 (stat fr3) st3 go) fun r s4 ⟨u,hr,h4⟩=>?_)
   subst hr
   refine wpAny_passesOwn hp (Zm h4 fun _ s5 ⟨x,H5,I5,r5,y5,st5,fr5⟩=>?_)
   have I5':=I5.pinned (stat fr5) (T.obj _ _ st5)
   refine wpAny_passesOwn hp (Zm (hg _ s5 σ3 H5 x u _ I5' r5 (step x H5 y5)) fun _ s6 ⟨σ6,H6,I6,q6⟩=>?_)
   refine wpAny_passesOwn hp (Zm (hb _ s6 σ6 H6 _ I6 q6) fun f s7 q7=>?_)
   have again:∀ {σ7:St} {H7:Hp},Inv X (pins++Zac fp s5.heap) σ7 H7 s7→N σ7 H7→∃ m,m < n∧∃ i σ' H',Inv X pins σ' H' s7∧tn i s7.heap∧(∀ b∈fp,H' b=none)∧W i m σ' H':=fun {σ7 H7} I7 n7=>by
     obtain ⟨m',hm,w7⟩:=hN σ7 H7 n7
     refine ⟨m',hm,i+1,σ7,H7,I7.unpinned,T.keep _ _ _ st5 fun b hb o e=>(I7.pin (b,o) (List.mem_append_right _ (List.mem_append_right _ (YB hb e)))).1,fun b hb=>?_,w7⟩
     obtain ⟨o,e,d⟩:=T.obj _ _ st5 b hb
     exact (I7.pin (b,o) (List.mem_append_right _ (List.mem_append_right _ (YB hb e)))).2.1
   cases f with
   | next=>obtain ⟨σ7,H7,I7,n7⟩:=q7;exact again I7 n7
   | cont=>obtain ⟨σ7,H7,I7,n7⟩:=q7;exact again I7 n7
   | brk=>obtain ⟨σ7,H7,I7,q7⟩:=q7;exact ⟨σ7,H7,I7.unpinned,q7⟩
   | ret v=>obtain ⟨x7,σ7,H7,I7,r7,q7⟩:=q7;exact ⟨x7,σ7,H7,I7.unpinned,r7,q7⟩
end
theorem ZcQ {K:PySem.W.Frag}{a:Addr}{xs:List V}{g:TG}{tb:TS}{D:WB}{σ:St}{H:Hp}(Pv:Nat→St→Hp→Prop)(h0:Pv 0 σ H)(hl:∀ i σ H,i≤xs.length→Pv i σ H→SqL K H a xs)
   (hs:∀ i x σ H,xs[i]?=some x→Pv i σ H→g x σ H fun σ2 H2=>tb { D with nx:=Pv (i+1),ct:=Pv (i+1),bk:=D.nx } σ2 H2) (hd:∀ σ H,Pv xs.length σ H→D.nx σ H) :
   ∃ W:Nat→Nat→St→Hp→Prop,(∃ m,W 0 m σ H)∧∀ i m σ H,W i m σ H →
     ((Itl K a).stop i H∧D.nx σ H)∨((Itl K a).go i H∧∃ N:St→Hp→Prop,(∀ σ' H',N σ' H'→∃ m',m' < m∧W (i+1) m' σ' H')∧∀ x H',(Itl K a).yld i H x H'→g x σ H' fun σ2 H2=>tb { D with nx:=N,ct:=N,bk:=D.nx } σ2 H2):=by
 refine ⟨fun i m σ H=>m=xs.length - i∧i≤xs.length∧Pv i σ H,⟨xs.length,by simp,Nat.zero_le _,h0⟩,?_⟩
 rintro i m σ H ⟨rfl,hi,p⟩
 have q:=hl i σ H hi p
 by_cases hlt:i < xs.length
 · refine .inr ⟨⟨xs,xs[i],q,by simp [hlt]⟩,Pv (i+1),fun σ' H' p'=>⟨xs.length - (i+1),by omega,rfl,hlt,p'⟩,fun x H' y=>?_⟩
   obtain ⟨e,y⟩:=y
   subst e
   exact hs i x σ _ (y xs q) p
 · have e:i=xs.length:=by omega
   subst e
   exact .inl ⟨⟨xs,q,Nat.le_refl _⟩,hd σ H p⟩
theorem Zbb {K:PySem.W.Frag}{a:Addr}{xs:List V}{g:TG}{tb:TS}{D:WB}{σ:St}{H:Hp}(Pv:Nat→St→Hp→Prop)(h0:Pv 0 σ H)(hl:∀ i σ H,i≤xs.length→Pv i σ H→SqT K H a xs)
   (hs:∀ i x σ H,xs[i]?=some x→Pv i σ H→g x σ H fun σ2 H2=>tb { D with nx:=Pv (i+1),ct:=Pv (i+1),bk:=D.nx } σ2 H2) (hd:∀ σ H,Pv xs.length σ H→D.nx σ H) :
   ∃ W:Nat→Nat→St→Hp→Prop,(∃ m,W 0 m σ H)∧∀ i m σ H,W i m σ H →
     ((Itt K a).stop i H∧D.nx σ H)∨((Itt K a).go i H∧∃ N:St→Hp→Prop,(∀ σ' H',N σ' H'→∃ m',m' < m∧W (i+1) m' σ' H')∧∀ x H',(Itt K a).yld i H x H'→g x σ H' fun σ2 H2=>tb { D with nx:=N,ct:=N,bk:=D.nx } σ2 H2):=by
 refine ⟨fun i m σ H=>m=xs.length - i∧i≤xs.length∧Pv i σ H,⟨xs.length,by simp,Nat.zero_le _,h0⟩,?_⟩
 rintro i m σ H ⟨rfl,hi,p⟩
 have q:=hl i σ H hi p
 by_cases hlt:i < xs.length
 · refine .inr ⟨⟨xs,xs[i],q,by simp [hlt]⟩,Pv (i+1),fun σ' H' p'=>⟨xs.length - (i+1),by omega,rfl,hlt,p'⟩,fun x H' y=>?_⟩
   obtain ⟨e,y⟩:=y
   subst e
   exact hs i x σ _ (y xs q) p
 · have e:i=xs.length:=by omega
   subst e
   exact .inl ⟨⟨xs,q,Nat.le_refl _⟩,hd σ H p⟩
theorem Vd {lo:Int}{n:Nat}{g:TG}{tb:TS}{D:WB}{σ:St}{H:Hp}(Pv:Nat→St→Hp→Prop)(h0:Pv 0 σ H)
   (hs:∀ i σ H,i < n→Pv i σ H→g (.int (lo+i)) σ H fun σ2 H2=>tb { D with nx:=Pv (i+1),ct:=Pv (i+1),bk:=D.nx } σ2 H2) (hd:∀ σ H,Pv n σ H→D.nx σ H) :
   ∃ W:Nat→Nat→St→Hp→Prop,(∃ m,W 0 m σ H)∧∀ i m σ H,W i m σ H →
     ((Itr lo n).stop i H∧D.nx σ H)∨((Itr lo n).go i H∧∃ N:St→Hp→Prop,(∀ σ' H',N σ' H'→∃ m',m' < m∧W (i+1) m' σ' H')∧∀ x H',(Itr lo n).yld i H x H'→g x σ H' fun σ2 H2=>tb { D with nx:=N,ct:=N,bk:=D.nx } σ2 H2):=by
 refine ⟨fun i m σ H=>m=n - i∧i≤n∧Pv i σ H,⟨n,by simp,Nat.zero_le _,h0⟩,?_⟩
 rintro i m σ H ⟨rfl,hi,p⟩
 by_cases hlt:i < n
 · refine .inr ⟨hlt,Pv (i+1),fun σ' H' p'=>⟨n - (i+1),by omega,rfl,hlt,p'⟩,fun x H' y=>?_⟩
   obtain ⟨e,y⟩:=y
   subst e y
   exact hs i σ _ hlt p
 · have e:i=n:=by omega
   subst e
   exact .inl ⟨Nat.le_refl _,hd σ H p⟩
end L2
namespace L2
open PySem PySem.Spec PyProof.Rows
abbrev R2:=V→V→Hp→VK→Prop
def YG (X:Cx)(f:Value→Value→Sem Value)(r:R2):Prop :=
 ∀ (pins:List (Addr×Obj)) (s:Shared) (σ:St) (H:Hp) (x y:V) (v u:Value) (Q:VK),Inv X pins σ H s→RelV x v→RelV y u→r x y H Q →
   wpAny (model X.prog X.w) X.A (f v u) (EP X pins σ Q) X.xe s
def UnR (X:Cx)(f:Value→Sem Value)(r:V→Hp→VK→Prop):Prop :=
 ∀ (pins:List (Addr×Obj)) (s:Shared) (σ:St) (H:Hp) (x:V) (v:Value) (Q:VK),Inv X pins σ H s→RelV x v→r x H Q →
   wpAny (model X.prog X.w) X.A (f v) (EP X pins σ Q) X.xe s
def YQ (X:Cx)(f:Value)(r:List V→Hp→VK→Prop):Prop :=
 ∀ (pins:List (Addr×Obj)) (s:Shared) (σ:St) (H:Hp) (xs:List V) (us:List Value) (Q:VK),Inv X pins σ H s→Vals xs us→r xs H Q →
   wpAny (model X.prog X.w) X.A (call f us) (EP X pins σ Q) X.xe s
def TruR (X:Cx)(r:V→Hp→(Bool→Hp→Prop)→Prop):Prop :=
 ∀ (pins:List (Addr×Obj)) (s:Shared) (σ:St) (H:Hp) (x:V) (v:Value) (Q:Bool→Hp→Prop),Inv X pins σ H s→RelV x v→r x H Q →
   wpAny (model X.prog X.w) X.A (truthy v) (TP X pins σ Q) X.xe s
def tOp (r:R2)(ta tb:TE):TE:=fun σ H Q=>ta σ H fun x H1=>tb σ H1 fun y H2=>r x y H2 Q
def tUn (r:V→Hp→VK→Prop)(ta:TE):TE:=fun σ H Q=>ta σ H fun x H1=>r x H1 Q
def rI (C:Int→Int→Prop)(g:Int→Int→V):R2:=fun x y H Q=>∃ i j,x=.int i∧y=.int j∧C i j∧Q (g i j) H
def rI0 (g:Int→Int→V):R2:=fun x y H Q=>∃ i j,x=.int i∧y=.int j∧Q (g i j) H
def rU (g:Int→V):V→Hp→VK→Prop:=fun x H Q=>∃ i,x=.int i∧Q (g i) H
section
variable {X:Cx}{a b c:Expr}{ta tb tc:TE}{pos:Pos}
theorem ZhZ (ha:PE X a ta)(hb:PE X b tb){pins:List (Addr×Obj)}{s:Shared}{σ:St}{H:Hp}{R:V→V→Hp→Prop}(I:Inv X pins σ H s)
   (h:ta σ H fun x H1=>tb σ H1 fun y H2=>R x y H2) {Q:Value→Shared→Prop} {f:Value→Value→Sem Value}
   (hf:∀ v u s2 x y H2,Inv X pins σ H2 s2→RelV x v→RelV y u→R x y H2→wpAny (model X.prog X.w) X.A (f v u) Q X.xe s2) :
   wpAny (model X.prog X.w) X.A (eval a X.env) (fun v s₁=>wpAny (model X.prog X.w) X.A (eval b X.env) (fun u s₂=>wpAny (model X.prog X.w) X.A (f v u) Q X.xe s₂) X.xe s₁) X.xe s:=by
 refine Zm (ha pins s σ H _ I h) fun v s1 ⟨x,H1,I1,r1,q1⟩=>?_
 refine Zm (hb pins s1 σ H1 _ I1 q1) fun u s2 ⟨y,H2,I2,r2,q2⟩=>?_
 exact hf v u s2 x y H2 I2 r1 r2 q2
theorem Zk {op:Operator}{r:R2}(ho:YG X (binaryOp op) r)(ha:PE X a ta)(hb:PE X b tb):PE X (.BinOp a op b pos) (tOp r ta tb):=by
 intro pins s σ H Q I h
 exact wpAny_BinOp (ZhZ ha hb I h fun v u s2 x y H2 I2 rx ry q=>ho pins s2 σ H2 x y v u Q I2 rx ry q)
theorem Ub {op:UnaryOp}{r:V→Hp→VK→Prop}(ho:UnR X (unaryOp op) r)(ha:PE X a ta):PE X (.UnaryOp op a pos) (tUn r ta):=by
 intro pins s σ H Q I h
 exact UnaryOp_ (Zm (ha pins s σ H _ I h) fun v s1 ⟨x,H1,I1,r1,q1⟩=>ho pins s1 σ H1 x v Q I1 r1 q1)
theorem opI {f:Value→Value→Sem Value}{C:Int→Int→Prop}{g:Int→Int→Int}
   (rule:∀ (i j:Int) (t u:Tok) (s:Shared) (Q:Value→Shared→Prop) (E:Value→Shared→Prop),C i j→Q (.int (g i j) s.toks) { s with toks:=s.toks+1 }→wpAny (model X.prog X.w) X.A (f (.int i t) (.int j u)) Q E s) :
   YG X f (rI C fun i j=>.int (g i j)):=by
 intro pins s σ H x y v u Q I rx ry h
 obtain ⟨i,j,rfl,rfl,hc,q⟩:=h
 obtain ⟨t,rfl⟩:=rx
 obtain ⟨t',rfl⟩:=ry
 exact rule i j t t' s _ _ hc ⟨.int (g i j),H,I.tok _,⟨_,rfl⟩,q⟩
theorem opI0 {f:Value→Value→Sem Value}{g:Int→Int→Int}
   (rule:∀ (i j:Int) (t u:Tok) (s:Shared) (Q:Value→Shared→Prop) (E:Value→Shared→Prop),Q (.int (g i j) s.toks) { s with toks:=s.toks+1 }→wpAny (model X.prog X.w) X.A (f (.int i t) (.int j u)) Q E s) :
   YG X f (rI0 fun i j=>.int (g i j)):=by
 intro pins s σ H x y v u Q I rx ry h
 obtain ⟨i,j,rfl,rfl,q⟩:=h
 obtain ⟨t,rfl⟩:=rx
 obtain ⟨t',rfl⟩:=ry
 exact rule i j t t' s _ _ ⟨.int (g i j),H,I.tok _,⟨_,rfl⟩,q⟩
theorem Zey {f:Value→Value→Sem Value}{g:Int→Int→Bool}
   (rule:∀ (i j:Int) (t u:Tok) (s:Shared) (Q:Value→Shared→Prop) (E:Value→Shared→Prop),Q (.bool (g i j)) s→wpAny (model X.prog X.w) X.A (f (.int i t) (.int j u)) Q E s) :
   YG X f (rI0 fun i j=>.bl (g i j)):=by
 intro pins s σ H x y v u Q I rx ry h
 obtain ⟨i,j,rfl,rfl,q⟩:=h
 obtain ⟨t,rfl⟩:=rx
 obtain ⟨t',rfl⟩:=ry
 exact rule i j t t' s _ _ ⟨.bl (g i j),H,I,rfl,q⟩
def CDiv (i j:Int):Prop:=0 < j∧j < 1073741824
def CPow (i j:Int):Prop:=0≤j∧j≤1000000∧i.natAbs < 2 ^ 64
def CMul (i j:Int):Prop:=(-(2 ^ 64) < i∧i < 2 ^ 64)∨(-(2 ^ 64) < j∧j < 2 ^ 64)
theorem CMul.ok {i j:Int}(h:CMul i j):IntMulOk i j:=by
 rcases h with ⟨h1,h2⟩ | ⟨h1,h2⟩
 · exact .of_left (intBits_le_64 h1 h2)
 · exact .of_right (intBits_le_64 h1 h2)
theorem Yn:YG X (binaryOp .Add) (rI0 fun i j=>.int (i+j)):=opI0 fun _ _ _ _ _ _ _ q=>add_int q
theorem YT:YG X (binaryOp .Sub) (rI0 fun i j=>.int (i - j)):=opI0 fun _ _ _ _ _ _ _ q=>sub_int q
theorem WP:YG X (binaryOp .Mult) (rI CMul fun i j=>.int (i * j)):=opI fun _ _ _ _ _ _ _ hc q=>mul_int q hc.ok
theorem Zje:YG X (binaryOp .FloorDiv) (rI CDiv fun i j=>.int (i / j)):=opI fun i j _ _ _ _ _ hc q=>by
 have h1:(0:Int) < j:=hc.1
 have h2:j < 1073741824:=hc.2
 exact floordiv_int (by omega) (by rw [Int.fdiv_eq_ediv_of_nonneg i (by omega)];exact q) (.inl (PyProof.noPylong_small (by omega)))
theorem XR:YG X (binaryOp .Mod) (rI (fun _ j=>0 < j) fun i j=>.int (i % j)):=opI fun i j _ _ _ _ _ hc q=>by
 have h1:(0:Int) < j:=hc
 exact mod_int' (by omega) (by rw [Int.fmod_eq_emod_of_nonneg i (by omega)];exact q)
theorem ZaF:YG X (binaryOp .Pow) (rI CPow fun i j=>.int (i ^ j.toNat)):=opI fun _ _ _ _ _ _ _ hc q=>pow_int_small hc.1 hc.2.1 hc.2.2 q
theorem unI {f:Value→Sem Value}{g:Int→Int}
   (rule:∀ (i:Int) (t:Tok) (s:Shared) (Q:Value→Shared→Prop) (E:Value→Shared→Prop),Q (.int (g i) s.toks) { s with toks:=s.toks+1 }→wpAny (model X.prog X.w) X.A (f (.int i t)) Q E s) :
   UnR X f (rU fun i=>.int (g i)):=by
 intro pins s σ H x v Q I rx h
 obtain ⟨i,rfl,q⟩:=h
 obtain ⟨t,rfl⟩:=rx
 exact rule i t s _ _ ⟨.int (g i),H,I.tok _,⟨_,rfl⟩,q⟩
theorem Wq:UnR X (unaryOp .USub) (rU fun i=>.int (-i)):=unI fun _ _ _ _ _ q=>neg_int q
end
def Zev:V→V→Bool
 | .non,.non=>true | .non,.int _=>true | .int _,.non=>true | .non,.bl _=>true | .bl _,.non=>true | .non,.str _=>true | .str _,.non=>true
 | .int _,.int _=>true | .bl _,.bl _=>true | .str _,.str _=>true | .byt _,.byt _=>true
 | .int _,.str _=>true | .str _,.int _=>true | .bl _,.str _=>true | .str _,.bl _=>true
 | _,_=>false
def rEq:R2:=fun x y H Q=>Zev x y=true∧Q (.bl (decide (x=y))) H
def rNe:R2:=fun x y H Q=>Zev x y=true∧Q (.bl (!decide (x=y))) H
theorem ZdX {i j:Int}:decide (V.int i=V.int j)=(i == j):=by
 rw [Bool.eq_iff_iff]
 simp
theorem Zgx {i j:Bool}:decide (V.bl i=V.bl j)=(i == j):=by
 rw [Bool.eq_iff_iff]
 simp
theorem ZdY {i j:Str}:decide (V.str i=V.str j)=(i == j):=by
 rw [Bool.eq_iff_iff]
 simp
theorem ZdZ {i j:Array UInt8}:decide (V.byt i=V.byt j)=(i.toList == j.toList):=by
 rw [Bool.eq_iff_iff]
 cases i
 cases j
 simp
section
variable {X:Cx}{a b c:Expr}{ta tb tc:TE}{pos:Pos}
theorem ZK {pins:List (Addr×Obj)}{σ:St}{H:Hp}{s:Shared}{Q:VK}{k k':Bool}(I:Inv X pins σ H s)(q:Q (.bl k) H)(e:k=k'):EP X pins σ Q (.bool k') s:=by
 subst e
 exact ⟨.bl k,H,I,rfl,q⟩
theorem Xb:YG X (compareOp .Eq) rEq:=by
 intro pins s σ H x y v u Q I rx ry h
 obtain ⟨hs,q⟩:=h
 cases x with
 | non =>
   cases rx
   cases y with
   | non=>cases ry;exact PySem.EqNone.eq_none_none (ZK I q (by simp))
   | bl j=>cases ry;exact PySem.EqNone.eq_none_bool (ZK I q (by simp))
   | int j=>obtain ⟨t',rfl⟩:=ry;exact PySem.EqNone.eq_none_int (ZK I q (by simp))
   | str j=>obtain ⟨t',rfl⟩:=ry;exact PySem.EqNone.eq_none_str (ZK I q (by simp))
   | _=>exact absurd (show false=true from hs) Bool.false_ne_true
 | bl i =>
   cases rx
   cases y with
   | non=>cases ry;exact PySem.EqNone.eq_bool_none (ZK I q (by simp))
   | bl j=>cases ry;exact eq_bool (ZK I q Zgx)
   | str j=>obtain ⟨t',rfl⟩:=ry;exact PySem.EqMixed.eq_bool_str (ZK I q (by simp))
   | _=>exact absurd (show false=true from hs) Bool.false_ne_true
 | int i =>
   obtain ⟨t,rfl⟩:=rx
   cases y with
   | non=>cases ry;exact PySem.EqNone.eq_int_none (ZK I q (by simp))
   | int j=>obtain ⟨t',rfl⟩:=ry;exact eq_int (ZK I q ZdX)
   | str j=>obtain ⟨t',rfl⟩:=ry;exact PySem.EqMixed.eq_int_str (ZK I q (by simp))
   | _=>exact absurd (show false=true from hs) Bool.false_ne_true
 | str i =>
   obtain ⟨t,rfl⟩:=rx
   cases y with
   | non=>cases ry;exact PySem.EqNone.eq_str_none (ZK I q (by simp))
   | bl j=>cases ry;exact PySem.EqMixed.eq_str_bool (ZK I q (by simp))
   | int j=>obtain ⟨t',rfl⟩:=ry;exact PySem.EqMixed.eq_str_int (ZK I q (by simp))
   | str j=>obtain ⟨t',rfl⟩:=ry;exact eq_str (ZK I q ZdY)
   | _=>exact absurd (show false=true from hs) Bool.false_ne_true
 | byt i =>
   obtain ⟨t,rfl⟩:=rx
   cases y with
   | byt j=>obtain ⟨t',rfl⟩:=ry;exact PySem.W.eq_bytes (ZK I q ZdZ)
   | _=>exact absurd (show false=true from hs) Bool.false_ne_true
 | _=>cases y<;>exact absurd (show false=true from hs) Bool.false_ne_true
theorem Vv:YG X (compareOp .NotEq) rNe:=by
 intro pins s σ H x y v u Q I rx ry h
 obtain ⟨hs,q⟩:=h
 cases x with
 | non =>
   cases rx
   cases y with
   | non=>cases ry;exact PySem.EqNone.ne_none_none (ZK I q (by simp))
   | bl j=>cases ry;exact PySem.EqNone.ne_none_bool (ZK I q (by simp))
   | int j=>obtain ⟨t',rfl⟩:=ry;exact PySem.EqNone.ne_none_int (ZK I q (by simp))
   | str j=>obtain ⟨t',rfl⟩:=ry;exact PySem.EqNone.ne_none_str (ZK I q (by simp))
   | _=>exact absurd (show false=true from hs) Bool.false_ne_true
 | bl i =>
   cases rx
   cases y with
   | non=>cases ry;exact PySem.EqNone.ne_bool_none (ZK I q (by simp))
   | bl j=>cases ry;exact ne_bool (ZK I q (congrArg not Zgx))
   | str j=>obtain ⟨t',rfl⟩:=ry;exact PySem.EqMixed.ne_bool_str (ZK I q (by simp))
   | _=>exact absurd (show false=true from hs) Bool.false_ne_true
 | int i =>
   obtain ⟨t,rfl⟩:=rx
   cases y with
   | non=>cases ry;exact PySem.EqNone.ne_int_none (ZK I q (by simp))
   | int j=>obtain ⟨t',rfl⟩:=ry;exact ne_int (ZK I q (congrArg not ZdX))
   | str j=>obtain ⟨t',rfl⟩:=ry;exact PySem.EqMixed.ne_int_str (ZK I q (by simp))
   | _=>exact absurd (show false=true from hs) Bool.false_ne_true
 | str i =>
   obtain ⟨t,rfl⟩:=rx
   cases y with
   | non=>cases ry;exact PySem.EqNone.ne_str_none (ZK I q (by simp))
   | bl j=>cases ry;exact PySem.EqMixed.ne_str_bool (ZK I q (by simp))
   | int j=>obtain ⟨t',rfl⟩:=ry;exact PySem.EqMixed.ne_str_int (ZK I q (by simp))
   | str j=>obtain ⟨t',rfl⟩:=ry;exact ne_str (ZK I q (congrArg not ZdY))
   | _=>exact absurd (show false=true from hs) Bool.false_ne_true
 | byt i =>
   obtain ⟨t,rfl⟩:=rx
   cases y with
   | byt j=>obtain ⟨t',rfl⟩:=ry;exact PySem.W.ne_bytes (ZK I q (congrArg not ZdZ))
   | _=>exact absurd (show false=true from hs) Bool.false_ne_true
 | _=>cases y<;>exact absurd (show false=true from hs) Bool.false_ne_true
theorem ZbO:YG X (compareOp .Lt) (rI0 fun i j=>.bl (decide (i < j))):=Zey fun _ _ _ _ _ _ _ q=>lt_int q
theorem Vs:YG X (compareOp .LtE) (rI0 fun i j=>.bl (decide (i≤j))):=Zey fun _ _ _ _ _ _ _ q=>le_int q
theorem Zay:YG X (compareOp .Gt) (rI0 fun i j=>.bl (decide (j < i))):=Zey fun _ _ _ _ _ _ _ q=>gt_int q
theorem ZlH:YG X (compareOp .GtE) (rI0 fun i j=>.bl (decide (j≤i))):=Zey fun _ _ _ _ _ _ _ q=>ge_int q
theorem ZE (b:Expr){op:CmpOp}(h:op≠.In:=by decide)(h2:op≠.NotIn:=by decide):behindInMarks op b=false:=by
 have e1:(op == CmpOp.In)=false:=by cases op<;>first | rfl | exact absurd rfl h
 have e2:(op == CmpOp.NotIn)=false:=by cases op<;>first | rfl | exact absurd rfl h2
 cases b<;>simp [behindInMarks,e1,e2]
theorem Xg {op:CmpOp}{r:R2}(ho:YG X (compareOp op) r)(ha:PE X a ta)(hb:PE X b tb)(hm:behindInMarks op b=false):PE X (.Compare a [op] [b] pos) (tOp r ta tb):=by
 intro pins s σ H Q I h
 exact wpAny_Compare1 (ZhZ ha hb I h fun v u s2 x y H2 I2 rx ry q=>ho pins s2 σ H2 x y v u Q I2 rx ry q) hm
def ZeW (t:TE):TT:=fun σ H Q=>t σ H fun x H'=>∃ k,x=.bl k∧Q k H'
theorem ZF {op:CmpOp}{r:R2}(ho:YG X (compareOp op) r)(ha:PE X a ta)(hb:PE X b tb)(hm:behindInMarks op b=false):PT X (.Compare a [op] [b] pos) (ZeW (tOp r ta tb)):=by
 intro pins s σ H Q I h
 refine wpAny_isTrue_Compare1 (Zm (ha pins s σ H _ I h) fun v s1 ⟨x,H1,I1,r1,q1⟩=>Zm (hb pins s1 σ H1 _ I1 q1) fun u s2 ⟨y,H2,I2,r2,q2⟩ =>
   Zm (ho pins s2 σ H2 x y v u _ I2 r1 r2 q2) fun c s3 ⟨z,H3,I3,r3,k,e,q3⟩=>?_) hm
 subst e
 cases r3
 exact wpAny_truthy_bool ⟨H3,I3,q3⟩
def Zgc (r r':R2)(ta tb tc:TE):TE:=fun σ H Q=>ta σ H fun x H1=>tb σ H1 fun y H2=>r x y H2 fun z H3=>∃ k,z=.bl k ∧
 (if k=true then tc σ H3 fun w' H4=>r' y w' H4 Q else Q (.bl false) H3)
theorem UL {op op':CmpOp}{r r':R2}(ho:YG X (compareOp op) r)(ho':YG X (compareOp op') r')(ha:PE X a ta)(hb:PE X b tb)(hc:PE X c tc)
   (hm:lastMarks [op,op'] [b,c]=false:=by with_unfolding_all rfl):PE X (.Compare a [op,op'] [b,c] pos) (Zgc r r' ta tb tc):=by
 intro pins s σ H Q I h
 refine Compare_chain (Zm (ha pins s σ H _ I h) fun v s1 ⟨x,H1,I1,r1,q1⟩=>chain_link (Zm (hb pins s1 σ H1 _ I1 q1) fun u s2 ⟨y,H2,I2,r2,q2⟩ =>
   Zm (ho pins s2 σ H2 x y v u _ I2 r1 r2 q2) fun d s3 ⟨z,H3,I3,r3,k,e,q3⟩=>?_)) hm
 subst e
 cases r3
 refine wpAny_truthy_bool ?_
 cases k with
 | false=>exact ite_ff ⟨.bl false,H3,I3,rfl,q3⟩
 | true=>exact ite_tt (chain_last (Zm (hc pins s3 σ H3 _ I3 q3) fun w' s4 ⟨z',H4,I4,r4,q4⟩=>ho' pins s4 σ H4 y z' u w' Q I4 r2 r4 q4))
theorem Zhg {op op':CmpOp}{r r':R2}(ho:YG X (compareOp op) r)(ho':YG X (compareOp op') r')(ha:PE X a ta)(hb:PE X b tb)(hc:PE X c tc)
   (hm:lastMarks [op,op'] [b,c]=false:=by with_unfolding_all rfl):PT X (.Compare a [op,op'] [b,c] pos) (ZeW (Zgc r r' ta tb tc)):=by
 intro pins s σ H Q I h
 refine isTrue_chain (Zm (ha pins s σ H _ I h) fun v s1 ⟨x,H1,I1,r1,q1⟩=>test_link (Zm (hb pins s1 σ H1 _ I1 q1) fun u s2 ⟨y,H2,I2,r2,q2⟩ =>
   Zm (ho pins s2 σ H2 x y v u _ I2 r1 r2 q2) fun d s3 ⟨z,H3,I3,r3,k,e,q3⟩=>?_)) hm
 subst e
 cases r3
 refine wpAny_truthy_bool ?_
 cases k with
 | false =>
   obtain ⟨k',e',q'⟩:=q3
   cases e'
   exact ite_ff ⟨H3,I3,q'⟩
 | true =>
   refine ite_tt (test_last (Zm (hc pins s3 σ H3 _ I3 q3) fun w' s4 ⟨z',H4,I4,r4,q4⟩=>Zm (ho' pins s4 σ H4 y z' u w' _ I4 r2 r4 q4) fun d' s5 ⟨z2,H5,I5,r5,k2,e2,q5⟩=>?_))
   subst e2
   cases r5
   exact wpAny_truthy_bool ⟨H5,I5,q5⟩
def TruV (K:PySem.W.Frag)(x:V)(H:Hp)(k:Bool):Prop :=
 match x with
 | .non=>k=false
 | .bl b=>k=b
 | .int i=>k=(i != 0)
 | .str y=>y.length≤sizeLine∧k=((y.length:Int) != 0)
 | .byt y=>y.size≤sizeLine∧k=((y.size:Int) != 0)
 | .ref p=>(∃ xs,SqL K H p xs∧k=!xs.isEmpty)∨(∃ xs,SqT K H p xs∧k=!xs.isEmpty)∨∃ kvs,H p=some (.dK kvs)∧k=!kvs.isEmpty
 | _=>False
theorem Zej {κ:Type}{kvs:List (κ×V)}{vs:List (κ×Value)}(r:KV kvs vs):(!vs.isEmpty)=!kvs.isEmpty:=by
 cases r<;>rfl
theorem Zan {xs:List V}{its:List Value}(r:Vals xs its):(!its.toArray.isEmpty)=!xs.isEmpty:=by
 cases r<;>simp
theorem Wv:(sizeLine:Nat) < 2 ^ 63:=by rw [sizeLine_eq];decide
theorem ZjJ:TruR X (fun x H Q=>∃ k,TruV X.K x H k∧Q k H):=by
 intro pins s σ H x v Q I rx h
 obtain ⟨k,e,q⟩:=h
 have hl:=Wv
 have hs:sizeLine=16777216:=sizeLine_eq
 cases x with
 | non =>
   cases rx
   have e':k=false:=e
   subst e'
   exact truthy_none ⟨H,I,q⟩
 | bl b =>
   cases rx
   have e':k=b:=e
   subst e'
   exact wpAny_truthy_bool ⟨H,I,q⟩
 | int i =>
   obtain ⟨t,rfl⟩:=rx
   have e':k=(i != 0):=e
   subst e'
   exact PySem.P.truthy_int ⟨H,I,q⟩
 | str y =>
   obtain ⟨t,rfl⟩:=rx
   obtain ⟨hy,e'⟩:y.length≤sizeLine∧k=((y.length:Int) != 0):=e
   subst e'
   exact PySem.P.truthy_str (by omega) ⟨H,I.tok _,q⟩
 | byt y =>
   obtain ⟨t,rfl⟩:=rx
   obtain ⟨hy,e'⟩:y.size≤sizeLine∧k=((y.size:Int) != 0):=e
   subst e'
   exact PySem.W.truthy_bytes (by omega) ⟨H,I.tok _,q⟩
 | ref p =>
   cases rx
   have e':(∃ xs,SqL X.K H p xs∧k=!xs.isEmpty)∨(∃ xs,SqT X.K H p xs∧k=!xs.isEmpty)∨∃ kvs,H p=some (.dK kvs)∧k=!kvs.isEmpty:=e
   rcases e' with ⟨xs,hx,e'⟩ | ⟨xs,hx,e'⟩ | ⟨kvs,hx,e'⟩
   · subst e'
     obtain ⟨its,r,pl,hz⟩:=I.list hx
     have hlen:=r.length
     exact wpAny_truthy_list pl.isList (by simp only [List.size_toArray];omega) ⟨H,I.tok _,by rw [Zan r];exact q⟩
   · subst e'
     obtain ⟨its,r,pl,hz⟩:=I.tuple hx
     have hlen:=r.length
     exact truthy_tuple pl (by simp only [List.size_toArray];omega) ⟨H,I.tok _,by rw [Zan r];exact q⟩
   · subst e'
     obtain ⟨hz,hS,vs,r,m⟩:kvs.length≤sizeLine∧(p == sysModules)=false∧∃ vs,KV kvs vs∧s.heap.DictOf (Ym X.prog X.w) p vs:=I.hok p _ hx
     have hlen:kvs.length=vs.length:=Paired.length r
     exact wpAny_truthy_dict hS m (by omega) ⟨H,I.tok _,by rw [Zej r];exact q⟩
 | _=>exact (show False from e).elim
theorem ZgC (ha:PE X a ta)(he:∀ whole,isTrue a X.env whole=(do let v ← whole;standAt a.pos;holding [v] (truthy v))) :
   PT X a (fun σ H Q=>ta σ H fun x H'=>∃ k,TruV X.K x H' k∧Q k H'):=by
 intro pins s σ H Q I h
 exact isTrue_plain (Zm (ha pins s σ H _ I h) fun v s1 ⟨x,H1,I1,r1,q1⟩=>ZjJ pins s1 σ H1 x v Q I1 r1 q1) (he _)
theorem Ys:YG X (binaryOp .Add) (fun x y H Q=>∃ i j,x=.str i∧y=.str j∧i.length+j.length≤sizeLine∧Q (.str (i++j)) H):=by
 intro pins s σ H x y v u Q I rx ry h
 obtain ⟨i,j,rfl,rfl,hz,q⟩:=h
 obtain ⟨t,rfl⟩:=rx
 obtain ⟨t',rfl⟩:=ry
 exact add_str (fun t' tk=>⟨.str (i++j),H,I.tok _,⟨_,rfl⟩,q⟩) hz
theorem Zdl:YG X (inplaceOp .Add) (fun x y H Q=>∃ i j,x=.str i∧y=.str j∧i.length+j.length≤sizeLine∧Q (.str (i++j)) H):=by
 intro pins s σ H x y v u Q I rx ry h
 obtain ⟨i,j,rfl,rfl,hz,q⟩:=h
 obtain ⟨t,rfl⟩:=rx
 obtain ⟨t',rfl⟩:=ry
 exact iadd_str (fun t' tk=>⟨.str (i++j),H,I.tok _,⟨_,rfl⟩,q⟩) hz
theorem YS {x:V}{us:List Value}(r:Vals [x] us):∃ u,us=[u]∧RelV x u:=by
 cases r with
 | cons r1 r2=>cases r2;exact ⟨_,rfl,r1⟩
theorem ZaD {x y:V}{us:List Value}(r:Vals [x,y] us):∃ u w',us=[u,w']∧RelV x u∧RelV y w':=by
 cases r with
 | cons r1 r2 =>
   cases r2 with
   | cons r3 r4=>cases r4;exact ⟨_,_,rfl,r1,r3⟩
theorem ZcD:YQ X (.builtin "abs") (fun xs H Q=>∃ i,xs=[.int i]∧Q (.int (if i < 0 then -i else i)) H):=by
 intro pins s σ H xs us Q I r h
 obtain ⟨i,rfl,q⟩:=h
 obtain ⟨u,rfl,t,rfl⟩:=YS r
 exact call_abs_int fun u tk=>⟨.int (if i < 0 then -i else i),H,I.tok _,⟨_,rfl⟩,q⟩
theorem ZbC (hc:X.calm=true):YQ X (.builtin "max") (fun xs H Q=>∃ i j,xs=[.int i,.int j]∧Q (.int (if j > i then j else i)) H):=by
 intro pins s σ H xs us Q I r h
 obtain ⟨i,j,rfl,q⟩:=h
 obtain ⟨u,w',rfl,⟨t,rfl⟩,⟨t',rfl⟩⟩:=ZaD r
 refine max_two_ints (I.ok.hd hc) fun h' tk k=>⟨_,H,I.kept k,?_,q⟩
 by_cases hj:j > i
 · rw [if_pos hj,if_pos hj];exact ⟨_,rfl⟩
 · rw [if_neg hj,if_neg hj];exact ⟨_,rfl⟩
theorem Zfy (hc:X.calm=true):YQ X (.builtin "min") (fun xs H Q=>∃ i j,xs=[.int i,.int j]∧Q (.int (if j < i then j else i)) H):=by
 intro pins s σ H xs us Q I r h
 obtain ⟨i,j,rfl,q⟩:=h
 obtain ⟨u,w',rfl,⟨t,rfl⟩,⟨t',rfl⟩⟩:=ZaD r
 refine min_two_ints (I.ok.hd hc) fun h' tk k=>⟨_,H,I.kept k,?_,q⟩
 by_cases hj:j < i
 · rw [if_pos hj,if_pos hj];exact ⟨_,rfl⟩
 · rw [if_neg hj,if_neg hj];exact ⟨_,rfl⟩
theorem ZbE:YQ X (.type "int") (fun xs H Q=>(∃ i,xs=[.int i]∧Q (.int i) H)∨∃ k,xs=[.bl k]∧Q (.int (if k then 1 else 0)) H):=by
 intro pins s σ H xs us Q I r h
 rcases h with ⟨i,rfl,q⟩ | ⟨k,rfl,q⟩
 · obtain ⟨u,rfl,t,rfl⟩:=YS r
   exact call_int_int ⟨.int i,H,I,⟨_,rfl⟩,q⟩
 · obtain ⟨u,rfl,r1⟩:=YS r
   cases r1
   exact call_int_bool ⟨.int (if k then 1 else 0),H,I.tok _,⟨_,rfl⟩,q⟩
theorem ZcI:YQ X (.type "str") (fun xs H Q=>∃ i,xs=[.int i]∧i.natAbs.log2 < 1920∧Q (.str (toString i)) H):=by
 intro pins s σ H xs us Q I r h
 obtain ⟨i,rfl,hz,q⟩:=h
 obtain ⟨u,rfl,t,rfl⟩:=YS r
 exact PySem.P.str_of_int hz ⟨.str _,H,I.tok _,⟨_,rfl⟩,q⟩
def ZhG (K:PySem.W.Frag)(x:V)(H:Hp)(n:Nat):Prop :=
 match x with
 | .str y=>y.length≤sizeLine∧n=y.length
 | .byt y=>y.size≤sizeLine∧n=y.size
 | .ref p=>(∃ xs,SqL K H p xs∧n=xs.length)∨∃ xs,SqT K H p xs∧n=xs.length
 | _=>False
theorem Zhf:YQ X (.builtin "len") (fun xs H Q=>∃ x n,xs=[x]∧ZhG X.K x H n∧Q (.int n) H):=by
 intro pins s σ H xs us Q I r h
 obtain ⟨x,n,rfl,e,q⟩:=h
 obtain ⟨u,rfl,rx⟩:=YS r
 have hl:=Wv
 have hs:sizeLine=16777216:=sizeLine_eq
 cases x with
 | str y =>
   obtain ⟨t,rfl⟩:=rx
   obtain ⟨hy,e'⟩:y.length≤sizeLine∧n=y.length:=e
   subst e'
   exact len_str (by omega) ⟨.int _,H,I.tok _,⟨_,rfl⟩,q⟩
 | byt y =>
   obtain ⟨t,rfl⟩:=rx
   obtain ⟨hy,e'⟩:y.size≤sizeLine∧n=y.size:=e
   subst e'
   exact PySem.W.len_bytes (by omega) ⟨.int _,H,I.tok _,⟨_,rfl⟩,q⟩
 | ref p =>
   cases rx
   have e':(∃ xs,SqL X.K H p xs∧n=xs.length)∨∃ xs,SqT X.K H p xs∧n=xs.length:=e
   rcases e' with ⟨xs,hx,e'⟩ | ⟨xs,hx,e'⟩
   · subst e'
     obtain ⟨its,r',pl,hz⟩:=I.list hx
     have hlen:=r'.length
     exact Calls.call_len_list pl.isList (by simp only [List.size_toArray];omega) ⟨.int xs.length,H,I.tok _,⟨_,by simp only [List.size_toArray];rw [hlen]⟩,q⟩
   · subst e'
     obtain ⟨its,r',pl,hz⟩:=I.tuple hx
     have hlen:=r'.length
     exact len_tuple pl (by simp only [List.size_toArray];omega) ⟨.int xs.length,H,I.tok _,⟨_,by simp only [List.size_toArray];rw [hlen]⟩,q⟩
 | _=>exact (show False from e).elim
theorem Zdh:YQ X (.builtin "divmod") (fun xs H Q=>∃ i j,xs=[.int i,.int j]∧CDiv i j∧∀ p,H p=none→Q (.ref p) (upd H p (.tup [.int (i / j),.int (i % j)]))):=by
 intro pins s σ H xs us Q I r h
 obtain ⟨i,j,rfl,⟨h1,h2⟩,q⟩:=h
 obtain ⟨u,w',rfl,⟨t,rfl⟩,⟨t',rfl⟩⟩:=ZaD r
 refine divmod_int (by omega) ?_ (.inl (PyProof.noPylong_small (by omega)))
 rw [Int.fdiv_eq_ediv_of_nonneg i (by omega),Int.fmod_eq_emod_of_nonneg i (by omega)]
 have hn:H s.heap.objs.size=none:=I.hok.fresh (Nat.le_refl _)
 refine ⟨.ref s.heap.objs.size,_,?_,rfl,q _ hn⟩
 refine I.laid (fun b o e=>Heap.get?_push_of_some _ e) (Nat.le_refl _) ⟨by simp only [List.length_cons,List.length_nil];rw [sizeLine_eq];decide,[.int (i / j) s.toks,.int (i % j) (s.toks+1)],.cons ⟨_,rfl⟩ (.cons ⟨_,rfl⟩ .nil),?_⟩
 exact ⟨_,Heap.get?_push_size s.heap rfl,rfl,0,rfl⟩
end
end L2
namespace L2
open PySem PySem.Spec PyProof.Rows
structure ObjM (h:Heap)(x dx C:Addr)(mA:Str→Option Value):Prop where
 obj:h.get? x=some (PySem.W.instObj C dx)
 ns:h.Ns1 dx mA
 ne:dx≠x
theorem ZfE {h:Heap}{dx:Addr}{mA:Str→Option Value}(n:h.Ns1 dx mA):∃ od,h.get? dx=some od∧∀ name,PySem.W.lookIn name od=some (mA name):=by
 obtain ⟨o,es,ep,ho,hd,hk,_,hm⟩:=n
 refine ⟨o,ho,fun name=>?_⟩
 have e:=hm name
 unfold nsFind findBy at e
 rw [← Array.find?_toList] at e
 unfold PySem.W.lookIn
 rw [hd]
 dsimp only
 split
 · rename_i y q
   rw [q] at e
   exact congrArg some e
 · rename_i q
   rw [q] at e
   have a:es.toList.any (·.refKey)=false:=by
     rw [List.any_eq_false]
     intro y hy
     obtain ⟨z,t,hkey⟩:=hk y (Array.mem_toList_iff.mp hy)
     simp [DictEntry.refKey,hkey]
   have a':¬ es.toList.any (·.refKey)=true:=by rw [a];exact Bool.false_ne_true
   rw [if_neg a']
   exact congrArg some e
theorem ObjM.look {h:Heap}{x dx C:Addr}{mA:Str→Option Value}(I:ObjM h x dx C mA):∃ od,PySem.W.InstAt h x (PySem.W.instObj C dx) C (some od)∧∀ name,PySem.W.lookIn name od=some (mA name) :=
 let ⟨od,ho,hl⟩:=ZfE I.ns
 ⟨od,⟨I.obj,rfl,rfl,ho⟩,hl⟩
section
variable {prog:Program}{w:World}{A:Around}{E:Value→Shared→Prop}{s:Shared}{K:PySem.W.Frag}{x dx C f:Addr}{mA:Str→Option Value}{name:Str}{v:Value}
end
theorem RelO.some_of {v:V}{o:Option Value}(r:RelO (some v) o):∃ u,o=some u∧RelV v u:=by
 cases o with
 | none=>exact (show False from r).elim
 | some u=>exact ⟨u,rfl,r⟩
theorem RelO.none_of {o:Option Value}(r:RelO none o):o=none:=by
 cases o with
 | none=>rfl
 | some u=>exact (show False from r).elim
section
variable {P:Program}{w:World}{H H':Hp}{h h':Heap}{a C dx:Addr}{fs fs':List (Str×V)}
theorem Zjt (hok:HOk P w H h)(e:H a=some (.ins C dx fs)):∃ mA,ObjM h a dx C mA∧(∀ f,RelO (fs.lookup f) (mA f))∧PySem.Within mA (fs.map (·.1))∧fs.length≤1000∧H dx=some (.own a):=by
 obtain ⟨d,z,ne,ob,mA,n,r,q⟩:=(show ObjOk P w H h a (.ins C dx fs) from hok a _ e)
 exact ⟨mA,⟨ob,n,ne⟩,r,q,z,d⟩
end
structure Cls (K:PySem.W.Frag)(C:Addr):Prop where
 pg:PySem.W.plainGet K C Str.empty=true
 hd:PySem.W.hasDictIn K C=true
 po:PySem.W.plainOver K C=true
 sa:PySem.W.findIn K (.ref C) "__setattr__"=some (some (.builtin "object.__setattr__"))
theorem Cls.get {K:PySem.W.Frag}{C:Addr}(c:Cls K C)(f:Str):PySem.W.plainGet K C f=true:=c.pg
section
variable {X:Cx}{pins:List (Addr×Obj)}{σ:St}{H:Hp}{s:Shared}{a C dx:Addr}{fs:List (Str×V)}{f:Str}{v:V}{A:Around}{E:Value→Shared→Prop}
end
section
variable {X:Cx}{o e value:Expr}{f:Str}{pos pos' tpos:Pos}{ta tv:TE}
end
section
variable {X:Cx}{pins:List (Addr×Obj)}{σ:St}{H:Hp}{s:Shared}{A:Around}{E:Value→Shared→Prop}{Q:Value→Shared→Prop}{c:Value}{b:Bool}
inductive WD (K:PySem.W.Frag)(H:Hp):V→Value→Prop where
 | non:WD K H .non (.type "NoneType")
 | bl (x:Bool):WD K H (.bl x) (.type "bool")
 | int (i:Int):WD K H (.int i) (.type "int")
 | str (x:Str):WD K H (.str x) (.type "str")
 | flt (x:UInt64):WD K H (.flt x) (.type "float")
 | lst {a:Addr} {xs:List V} (e:H a=some (.lst xs)):WD K H (.ref a) (.type "list")
 | frz {a:Addr} {o:Obj} {xs:List V} (e:H a=some (.frz o (.lst xs))):WD K H (.ref a) (.type "list")
 | tup {a:Addr} {xs:List V} (e:H a=some (.tup xs)):WD K H (.ref a) (.type "tuple")
 | dK {a:Addr} {kvs:List (ZU×V)} (e:H a=some (.dK kvs)):WD K H (.ref a) (.type "dict")
 | dT {a:Addr} {kvs:List (List ZU×V)} (e:H a=some (.dT kvs)):WD K H (.ref a) (.type "dict")
 | ins {a C dx:Addr} {fs:List (Str×V)} (e:H a=some (.ins C dx fs)) (cl:Cls K C) (ha:PySem.W.findIn K (.ref C) "__class__"=some (some (.builtin "object.__class__")))
     (hn:PySem.W.specialIn K (.builtin "object.__class__") "__get__"=some (some (.builtin "getset_descriptor.__get__"))) (htk:PySem.W.takesIn K (.builtin "object.__class__")=some true)
     (hm:PySem.W.mroIn K C (.type "object")=some true):WD K H (.ref a) (.ref C)
end
end L2
namespace L2
open PySem PySem.Spec PyProof.Rows
structure Room (k:Nat)(A:Around):Prop where
 hd:A.handled=none
 dp:A.depth+3 * k+5 < recursionLimit
 un:A.units+16 * k+200 < cLine
 gd:A.guards=some []
theorem Room.mono {j k:Nat}{A:Around}(r:Room k A)(h:j≤k):Room j A:=⟨r.hd,by have:=r.dp;omega,by have:=r.un;omega,r.gd⟩
theorem Room.deeper {k:Nat}{A:Around}(r:Room (k+1) A)(env:Env):Room k (A.deeper env) :=
 ⟨r.hd,by have:=r.dp;show A.depth+1+3 * k+5 < _;omega,by have:=r.un;show A.units+3+16 * k+200 < _;omega,r.gd⟩
theorem Room.depth {k:Nat}{A:Around}(r:Room k A):A.depth < recursionLimit:=by have:=r.dp;omega
theorem Room.units {k:Nat}{A:Around}(r:Room k A):A.units+64 < cLine:=by have:=r.un;omega
def YF:TA:=fun _ H Q=>Q [] H
def Yf (ta:TE)(tr:TA):TA:=fun σ H Q=>ta σ H fun x H1=>tr σ H1 fun xs H2=>Q (x::xs) H2
section
variable {X:Cx}{e:Expr}{es:List Expr}{te:TE}{t:TA}{pos:Pos}
theorem Za:PA X [] YF:=fun _ _ _ _ H Q I h=>Calls.spliced_nil ⟨[],H,I,.nil,h⟩
theorem ZX (ha:PE X e te)(hr:PA X es t)(hs:starEach (e::es) X.env=(false,eval e X.env)::starEach es X.env:=by rfl):PA X (e::es) (Yf te t):=by
 intro pos pins s σ H Q I h
 rw [hs]
 show wpAny _ _ (spliced ((false,eval e X.env)::backTo pos (starEach es X.env))) _ _ s
 refine Calls.spliced_cons (Zm (ha pins s σ H _ I h) fun u s1 ⟨x,H1,I1,r1,q1⟩=>?_)
 exact Zm (hr pos pins s1 σ H1 _ I1 q1) fun us s2 ⟨xs,H2,I2,r2,q2⟩=>⟨x::xs,H2,I2,.cons r1 r2,q2⟩
def tTup (t:TA):TE:=fun σ H Q=>t σ H fun xs H1=>xs.length≤sizeLine∧∀ p,H1 p=none→Q (.ref p) (upd H1 p (.tup xs))
def ZhB (t:TA):TE:=fun σ H Q=>t σ H fun xs H1=>xs.length≤sizeLine∧∀ p,H1 p=none→Q (.ref p) (upd H1 p (.lst xs))
theorem Ya {x1}(h:PA X es t):PE X (.Tuple es x1 pos) (tTup t):=by
 intro pins s σ H Q I hq
 refine wpAny_Tuple_spliced (Zm (h pos pins s σ H _ I hq) fun us s1 ⟨xs,H1,I1,r,z,q⟩=>⟨by rw [← r.length];exact z,?_⟩)
 have hf:H1 s1.heap.objs.size=none:=I1.hok.fresh (Nat.le_refl _)
 refine ⟨.ref s1.heap.objs.size,upd H1 s1.heap.objs.size (.tup xs),I1.laid (t':=s1.toks) (fun b u e=>Heap.get?_push_of_some _ e) (Nat.le_refl _) ?_,rfl,q _ hf⟩
 exact ⟨z,us,r,⟨_,Heap.get?_push_size _ rfl,rfl,_,rfl⟩⟩
theorem ZN (h:PA X es t):PE X (.List es pos) (ZhB t):=by
 intro pins s σ H Q I hq
 refine wpAny_List_spliced (Zm (h pos pins s σ H _ I hq) fun us s1 ⟨xs,H1,I1,r,z,q⟩=>⟨by rw [← r.length];exact z,?_⟩)
 have hf:H1 s1.heap.objs.size=none:=I1.hok.fresh (Nat.le_refl _)
 refine ⟨.ref s1.heap.objs.size,upd H1 s1.heap.objs.size (.lst xs),I1.laid (t':=s1.toks) (fun b u e=>Heap.get?_push_of_some _ e) (Nat.le_refl _) ?_,rfl,q _ hf⟩
 exact ⟨z,us,0,r,Heap.get?_push_size _ rfl⟩
end
abbrev Sp:=List V→Hp→VK→XK→Prop
abbrev WZ:=List Env→Hp→Shared→XK→Value→Shared→Prop
structure Zcb (P:Program)(w:World)(K:PySem.W.Frag)(mg:Str→Option Value)(base:Heap)(A:Around)(outer:List Env)(s:Shared)(H:Hp):Prop where
 frames:A.frames=some outer
 mod:Mod K mg base
 bs:∀ b o,base.get? b=some o→s.heap.get? b=some o∧H b=none
 bsz:base.objs.size≤s.heap.objs.size
 funs:s.heap.FunFrames base outer
 frf:∀ b∈Zy outer,H b=none
 hok:HOk P w H s.heap
 bare:AllBare s.gens
def CE (outer:List Env)(P:Program)(w:World)(H:Hp)(s:Shared)(Q:VK)(u:Value)(s':Shared):Prop :=
 ∃ v H',s'.os=s.os∧AllBare s'.gens∧Un (Zy outer) [] H H' s.heap s'.heap∧HOk P w H' s'.heap∧RelV v u∧Q v H'
def CR (CX:WZ)(outer:List Env)(P:Program)(w:World)(H:Hp)(s:Shared)(Q:VK)(E:XK)(r:Result)(s':Shared):Prop :=
 match r with
 | .ok (.ret u)=>CE outer P w H s Q u s'
 | .ok _=>False
 | .error e=>CX outer H s E e s'
structure FnOk (P:Program)(w:World)(K:PySem.W.Frag)(mg:Str→Option Value)(base:Heap)(CX:WZ)(k:Nat)(f:Addr)(fd:FuncData)(ps:List Str)(sp:Sp):Prop where
 len:∀ vs H Q E,sp vs H Q E→vs.length=ps.length
 run:∀ (A:Around) (outer:List Env) (s:Shared) (H:Hp) (args:Args) (us:List Value) (vs:List V) (Q:VK) (E:XK),Room k A→Zcb P w K mg base A outer s H→BindsTo s fd args (ps.zip us)→Vals vs us→sp vs H Q E →
   codeAny (model P w) A (.call (.ref f) args) (CR CX outer P w H s Q E) s
theorem FnOk.mono {P:Program}{w:World}{K:PySem.W.Frag}{mg:Str→Option Value}{base:Heap}{CX:WZ}{j k:Nat}{f:Addr}{fd:FuncData}{ps:List Str}{sp:Sp}(F:FnOk P w K mg base CX j f fd ps sp)(h:j≤k) :
 FnOk P w K mg base CX k f fd ps sp:=⟨F.len,fun A outer s H args us vs Q E hr=>F.run A outer s H args us vs Q E (hr.mono h)⟩
theorem FnOk.imp {P:Program}{w:World}{K:PySem.W.Frag}{mg:Str→Option Value}{base:Heap}{CX:WZ}{k:Nat}{f:Addr}{fd:FuncData}{ps:List Str}{sp sp':Sp}(F:FnOk P w K mg base CX k f fd ps sp)
   (h:∀ vs H Q E,sp' vs H Q E→sp vs H Q E):FnOk P w K mg base CX k f fd ps sp' :=
 ⟨fun vs H Q E q=>F.len vs H Q E (h _ _ _ _ q),fun A outer s H args us vs Q E hr he hb hv hs=>F.run A outer s H args us vs Q E hr he hb hv (h _ _ _ _ hs)⟩
section
variable {X:Cx}{pins:List (Addr×Obj)}{σ:St}{H:Hp}{s s':Shared}
theorem Inv.env0 (I:Inv X pins σ H s):Zcb X.prog X.w X.K X.mg X.base X.A X.stack s H :=
 ⟨I.ok.frames,I.ok.mod,I.bs,Nat.le_trans I.ok.bsz I.sz,I.stack,I.stkFree,I.hok,I.bare⟩
theorem Inv.after {Q:VK}{u:Value}(I:Inv X pins σ H s)(h:CE X.stack X.prog X.w H s Q u s'):EP X pins σ Q u s':=by
 obtain ⟨v,H',os,bare,un,hok,r,q⟩:=h
 obtain ⟨hh,g,d,t,os'⟩:=s'
 obtain rfl:os'=s.os:=os
 exact ⟨v,H',I.call (h':=hh) (g':=g) (d':=d) (t':=t) (ch:=[]) un hok bare (fun b z=>absurd z (by simp)),r,q⟩
end
def Wo (sp:Sp)(dvs:List V)(E:XK)(t:TA):TE:=fun σ H Q=>t σ H fun vs H1=>sp (vs++dvs) H1 Q E
def Binds (K:PySem.W.Frag)(fd:FuncData)(ps:List Str)(ds:List Value):Prop :=
 ∀ (s:Shared) (us:List Value),K.In s.heap→(us++ds).length=ps.length→BindsTo s fd ⟨us,[]⟩ (ps.zip (us++ds))
theorem Binds.all {K:PySem.W.Frag}{fd:FuncData}{ps:List Str}(h:∀ us:List Value,us.length=ps.length→bindArgs fd ⟨us,[]⟩=pure (ps.zip us)):Binds K fd ps []:=fun s us _ hl=>by
 rw [List.append_nil] at hl ⊢
 exact .of_eq (h us hl)
def ZcE (CX:WZ)(X:Cx)(E:XK):Prop:=∀(pins:List (Addr×Obj))(σ:St)(H:Hp)(s:Shared)(e:Value)(s':Shared),Inv X pins σ H s→CX X.stack H s E e s'→X.xe e s'
section
variable {X:Cx}{CX:WZ}{k:Nat}{f C:Addr}{fd:FuncData}{ps:List Str}{sp:Sp}{dvs:List V}{ds:List Value}{E:XK}{x m:Str}{p pos apos:Pos}{e o:Expr}{es:List Expr}{ta:TE}{t:TA}
theorem ZjO {pins:List (Addr×Obj)}{σ:St}{H:Hp}{s:Shared}{Q:VK}{us:List Value}{vs:List V}(F:FnOk X.prog X.w X.K X.mg X.base CX k f fd ps sp)(hr:Room k X.A)(hb:Binds X.K fd ps ds)(hd:Vals dvs ds)(hx:ZcE CX X E)
   (I:Inv X pins σ H s) (r:Vals vs us) (h:sp (vs++dvs) H Q E):wpAny (model X.prog X.w) X.A (call (.ref f) us) (EP X pins σ Q) X.xe s:=by
 have r2:Vals (vs++dvs) (us++ds):=r.append hd
 have hl:(us++ds).length=ps.length:=by rw [← r2.length];exact F.len _ _ _ _ h
 refine wpAny_call (codeAny_mono (F.run X.A X.stack s H ⟨us,[]⟩ (us++ds) (vs++dvs) Q E hr I.env0 (hb s us I.kIn hl) r2 h) fun r s' hq=>?_)
 cases r with
 | error e=>exact hx pins σ H s e s' I hq
 | ok fl =>
   cases fl with
   | ret u=>exact I.after hq
   | next=>exact False.elim hq
   | brk=>exact False.elim hq
   | cont=>exact False.elim hq
theorem ZiC (F:FnOk X.prog X.w X.K X.mg X.base CX k f fd ps sp)(hr:Room k X.A)(hg:Gl X x)(hm:X.mg x=some (.ref f))(hk:PySem.W.keepIn X.K (.ref f)=true)(hb:Binds X.K fd ps ds)(hd:Vals dvs ds)(hx:ZcE CX X E)
   (ha:PA X (e::es) t) (hdb:(x == ("__debug__":Str))=false:=by decide) (he:starEach (e::es) X.env=(false,eval e X.env)::starEach es X.env:=by rfl) (hpl:(backTo pos (starEach es X.env)).any (·.1)=false:=by rfl) :
   PE X (.Call (.Name x p) (e::es) [] pos) (Wo sp dvs E t):=by
 intro pins s σ H Q I h
 refine wpAny_Call_Name_kw (ZaS I hg hm ?_ hdb)
 refine PySem.W.callWith_K (h₀:=X.base) I.ok.mod.kin hk (Zm (ha pos pins s σ H _ I h) fun us s1 ⟨vs,H1,I1,r,q⟩=>⟨I1.kIn,?_⟩) he hpl
 exact ZjO F hr hb hd hx I1 r q
end
def PK (X:Cx)(kws:List Keyword)(t:TA):Prop :=
 ∀ (pos:Pos) (pins:List (Addr×Obj)) (s:Shared) (σ:St) (H:Hp) (Q:List V→Hp→Prop),Inv X pins σ H s→t σ H Q→wpAny (model X.prog X.w) X.A (evalAll ((backToKw pos (keywordEach kws X.env)).map (·.2))) (AP X pins σ Q) X.xe s
section
variable {X:Cx}{CX:WZ}{k:Nat}{f C:Addr}{fd:FuncData}{ps ks:List Str}{sp:Sp}{E:XK}{x m:Str}{p pos apos kpos:Pos}{e o:Expr}{es:List Expr}{kws:List Keyword}{te ta:TE}{t tk:TA}{nm:Option Str}
theorem ZkO:PK X [] YF:=fun _ _ _ _ H Q I h=>wpAny_evalAll_nil ⟨[],H,I,.nil,h⟩
theorem Zjw (ha:PE X e te)(hr:PK X kws t):PK X (⟨nm,e,kpos⟩::kws) (Yf te t):=by
 intro pos pins s σ H Q I h
 show wpAny _ _ (evalAll ((do let v ← eval e X.env;standAt pos;pure v)::(backToKw pos (keywordEach kws X.env)).map (·.2))) _ _ s
 refine wpAny_evalAll_cons (wpAny_bind (Zm (ha pins s σ H _ I h) fun u s1 ⟨x,H1,I1,r1,q1⟩=>wpAny_bind (wpAny_standAt (wpAny_pure ?_))))
 exact Zm (hr pos pins s1 σ H1 _ I1 q1) fun us s2 ⟨xs,H2,I2,r2,q2⟩=>⟨x::xs,H2,I2,.cons r1 r2,q2⟩
variable {g:List Value→List Value→List Value}{gV:List V→List V→List V}
end
structure Zt (N P:List Str)(sc:Scope):Prop where
 kind:sc.kind=.function
 co:sc.isCoroutine=false
 gen:sc.isGenerator=false
 nd:N.Nodup
 pre:N.take P.length=P
 par:∀ x∈P,sc.names.lookup x=some .local∨sc.names.lookup x=some .cell
 nofree:∀ y∈sc.names,y.2≠.free
theorem Zbi {kindOf:Str→Option NameKind}{x:Str}:∀{binds:List (Str×Value)}{m:Str→Option Value},(∀ v,(x,v) ∉ binds)→bindL kindOf binds m x=m x
 | [],_,_=>rfl
 | (n,v)::r,m,h=>by
   unfold bindL
   rw [Zbi fun w hw=>h w (List.mem_cons_of_mem _ hw)]
   split
   · have:x≠n:=by rintro rfl;exact h v List.mem_cons_self
     simp [this]
   · rfl
theorem Zbs {kindOf:Str→Option NameKind}{x:Str}:∀{binds:List (Str×Value)}{m:Str→Option Value},(∀ v,(x,v) ∉ binds)→bindC kindOf binds m x=m x
 | [],_,_=>rfl
 | (n,v)::r,m,h=>by
   unfold bindC
   rw [Zbs fun w hw=>h w (List.mem_cons_of_mem _ hw)]
   split
   · rfl
   · have:x≠n:=by rintro rfl;exact h v List.mem_cons_self
     simp [this]
theorem ZbF {kindOf:Str→Option NameKind}{x:Str}{v:Value}:∀{P:List Str}{vs:List Value}{i:Nat}{m:Str→Option Value},P.Nodup→P[i]?=some x→vs[i]?=some v→kindOf x=some .local →
   bindL kindOf (P.zip vs) m x=some v
 | [],_,_,_,_,h,_,_=>by simp at h
 | _::_,[],_,_,_,_,h,_=>by simp at h
 | p::P,w::vs,0,m,nd,h1,h2,hk=>by
   simp at h1 h2;subst h1;subst h2
   show bindL kindOf ((p,w)::P.zip vs) m p=_
   unfold bindL
   rw [Zbi fun v hv=>(List.nodup_cons.mp nd).1 (List.of_mem_zip hv).1,if_pos hk]
   simp
 | p::P,w::vs,i+1,m,nd,h1,h2,hk=>by
   show bindL kindOf ((p,w)::P.zip vs) m x=_
   unfold bindL
   exact ZbF (i:=i) (List.nodup_cons.mp nd).2 (by simpa using h1) (by simpa using h2) hk
theorem Zbf {kindOf:Str→Option NameKind}{x:Str}{v:Value}:∀{P:List Str}{vs:List Value}{i:Nat}{m:Str→Option Value},P.Nodup→P[i]?=some x→vs[i]?=some v→kindOf x≠some .local →
   bindC kindOf (P.zip vs) m x=some v
 | [],_,_,_,_,h,_,_=>by simp at h
 | _::_,[],_,_,_,_,h,_=>by simp at h
 | p::P,w::vs,0,m,nd,h1,h2,hk=>by
   simp at h1 h2;subst h1;subst h2
   show bindC kindOf ((p,w)::P.zip vs) m p=_
   unfold bindC
   rw [Zbs fun v hv=>(List.nodup_cons.mp nd).1 (List.of_mem_zip hv).1,if_neg hk]
   simp
 | p::P,w::vs,i+1,m,nd,h1,h2,hk=>by
   show bindC kindOf ((p,w)::P.zip vs) m x=_
   unfold bindC
   exact Zbf (i:=i) (List.nodup_cons.mp nd).2 (by simpa using h1) (by simpa using h2) hk
def start (N:List Str)(vs:List V):St:=vs.map some++List.replicate (N.length - vs.length) none
def Uf (CX:WZ)(P:Program)(w:World)(K:PySem.W.Frag)(mg:Str→Option Value)(base:Heap)(N:List Str)(qual:Str)(scope:Scope)(f:Addr)(cd:Value)(A:Around)(outer:List Env)(s:Shared)(H:Hp)(E:XK):Cx where
 prog:=P
 w:=w
 K:=K
 mg:=mg
 base:=base
 A:=A.deeper (envOfC qual scope s.heap.objs.size f cd)
 N:=N
 s₀:=s
 H₀:=H
 env:=envOfC qual scope s.heap.objs.size f cd
 outer:=outer
 stack:=envOfC qual scope s.heap.objs.size f cd::outer
 ex:=[]
 calm:=true
 fn:=fun _=>true
 pn:=[]
 xe:=fun e s'=>wpAny (model P w) (A.deeper (envOfC qual scope s.heap.objs.size f cd)) (leaving (envOfC qual scope s.heap.objs.size f cd) e) (fun _ s''=>CX outer H s E e s'') (fun e' s''=>CX outer H s E e' s'') s'
theorem Zcz {sc:Scope}{n:Nat}{x:Str}(h:sc.names.lookup x=some .cell):∃ c,(cellsFrom n sc.names []).lookup x=some c:=by
 have q:=PySem.W.cellsFrom_some sc.names n [] (.inl h)
 exact Option.isSome_iff_exists.mp q
theorem Zfo {CX:WZ}{P:Program}{w:World}{K:PySem.W.Frag}{mg:Str→Option Value}{base:Heap}{N ps:List Str}{qual:Str}{scope:Scope}{f:Addr}{cd:Value}{A:Around}{outer:List Env}{s s1:Shared}{H:Hp}{E:XK}{us:List Value}{vs:List V}
   (S:Zt N ps scope) (hd:A.handled=none) (e0:Zcb P w K mg base A outer s H) (hl:vs.length=ps.length) (r:Vals vs us)
   (x:InCallC s s.heap.objs.size (bindL (envOfC qual scope s.heap.objs.size f cd).kindOf (ps.zip us) fun _=>none) (cellsFrom (s.heap.objs.size+1) scope.names []) (bindC (envOfC qual scope s.heap.objs.size f cd).kindOf (ps.zip us) fun _=>none) s1) :
   Inv (Uf CX P w K mg base N qual scope f cd A outer s H E) [] (start N vs) H s1:=by
 have hpl:ps.length≤N.length:=by have:=congrArg List.length S.pre;rw [List.length_take] at this;omega
 obtain ⟨h1,tk,rfl,hk⟩:=x.done
 have noA:∀ b:Addr,b ∉ (Uf CX P w K mg base N qual scope f cd A outer s H E).ex:=fun b z=>absurd (show b∈([]:List Addr) from z) (by simp)
 refine ⟨⟨e0.mod,S.kind,rfl,rfl,Nat.le_refl _,fun y z c h1 h2=>?_,fun y hy=>?_,fun y c _ h=>?_,fun _=>hd,Around.frames_deeper e0.frames,.inr ⟨rfl,rfl⟩,fun b z=>absurd z (noA b),e0.bs,e0.bsz,fun b _ _=>noA b,fun b z=>absurd z (noA b),e0.funs,e0.frf⟩,
   rfl,e0.bare,Un.kept hk,⟨_,x.toInCall.ns,fun i y v h1 h2 h3=>?_⟩,fun y c h=>⟨_,x.cell y c h⟩,e0.hok.fresh (Nat.le_refl _),fun y c h=>?_,fun p hp=>absurd (show p∈([]:List (Addr×Obj)) from hp) (by simp),e0.hok.kept hk,?_⟩
 · exact name_of_addr x.apart (PySem.mem_of_lookup h1) (PySem.mem_of_lookup h2)
 · have hy:scope.names.lookup y=some .cell∨scope.names.lookup y=some .free:=hy
   rcases hy with hy | hy
   · exact Zcz hy
   · exact absurd rfl (S.nofree _ (PySem.mem_of_lookup hy))
 · exact Nat.le_of_lt (x.above y c (PySem.mem_of_lookup h))
 · have hi:i < vs.length:=by
     unfold start at h2
     by_cases hi:i < vs.length
     · exact hi
     · rw [List.getElem?_append_right (by simpa using hi)] at h2
       rw [List.getElem?_replicate] at h2
       split at h2<;>cases h2
   have ha:vs[i]?=some v:=by
     unfold start at h2
     rw [List.getElem?_append_left (by simpa using hi),List.getElem?_map] at h2
     cases e:vs[i]? with
     | none=>rw [e] at h2;cases h2
     | some a=>rw [e] at h2;cases h2;rfl
   obtain ⟨u,hu,rv⟩:=r.get ha
   have hp:ps[i]?=some y:=by
     rw [← S.pre,List.getElem?_take_of_lt (by omega)];exact h1
   have ndP:ps.Nodup:=by rw [← S.pre];exact S.nd.sublist (List.take_sublist _ _)
   refine ⟨u,rv,?_⟩
   rcases S.par y (List.mem_of_getElem? hp) with k | k
   · exact .inl ⟨k,ZbF ndP hp hu k⟩
   · obtain ⟨c,e⟩:=Zcz (n:=s.heap.objs.size+1) k
     refine .inr ⟨.inl k,c,e,?_⟩
     have q:=x.cell y c e
     rw [Zbf ndP hp hu (by show scope.names.lookup y≠_;rw [k];decide)] at q
     exact q
 · exact e0.hok.fresh (Nat.le_of_lt (x.above y c (PySem.mem_of_lookup h)))
 · unfold start
   show _=N.length
   rw [List.length_append,List.length_map,List.length_replicate]
   omega
theorem Zlp {CX:WZ}{P:Program}{w:World}{K:PySem.W.Frag}{mg:Str→Option Value}{base:Heap}{k:Nat}{f:Addr}{name qual:Str}{params:Arguments}{body:List Stmt}{scope:Scope}{dV kV doc pm cdv ct oc:Value}{an od:Option Addr}
   {osl:Array (Option Value)} {N ps:List Str} {sp:Sp} (lk:K.lookup f=some ⟨oc,od,.func (PySem.W.fnOf name qual params body scope dV kV doc pm an cdv ct),osl⟩) (hcd:PySem.W.codeIn K cdv qual=true) (S:Zt N ps scope)
   (len:∀ vs H Q E,sp vs H Q E→vs.length=ps.length)
   (hbody:∀ (A:Around) (outer:List Env) (s:Shared) (H:Hp) (vs:List V) (Q:VK) (E:XK),Room k (A.deeper (envOfC qual scope s.heap.objs.size f cdv))→sp vs H Q E →
     ∃ t,PSs (Uf CX P w K mg base N qual scope f cdv A outer s H E) body t∧t { nx:=fun _ H'=>Q .non H',rt:=Q } (start N vs) H) :
   FnOk P w K mg base CX (k+1) f (PySem.W.fnOf name qual params body scope dV kV doc pm an cdv ct) ps sp:=by
 refine ⟨len,fun A outer s H args us vs Q E hr e0 hb r hsp=>?_⟩
 have hl:=len _ _ _ _ hsp
 have KX:K.In s.heap:=e0.mod.kin.keeps fun b o e=>(e0.bs b o e).1
 have lim:s.heap.NoLimit:=e0.mod.nolimit.keeps fun b o e=>(e0.bs b o e).1
 have hkind:∀ y∈ps.zip us,scope.names.lookup y.1=some .local∨(scope.names.lookup y.1=some .cell∧((cellsFrom (s.heap.objs.size+1) scope.names []).lookup y.1).isSome=true):=fun ⟨n,v⟩ hy=>by
   rcases S.par n (List.of_mem_zip hy).1 with q | q
   · exact .inl q
   · exact .inr ⟨q,PySem.W.cellsFrom_some _ _ _ (.inl q)⟩
 refine codeAny_call_function hr.depth (KX _ _ lk) rfl S.co S.gen rfl (PySem.W.codeRec_of KX hcd) (hb _ _ _ _ ?_)
 refine wpAny_newFunctionEnv_cells S.kind hkind fun env he s1 x=>?_
 subst he
 refine ⟨lim.keeps x.toInCall.keep,codeAny_func ?_⟩
 obtain ⟨t,ht,hq⟩:=hbody A outer s H vs Q E (hr.deeper _) hsp
 have I:Inv (Uf CX P w K mg base N qual scope f cdv A outer s H E) [] (start N vs) H s1:=Zfo S hr.hd e0 hl r x
 refine wpAny_mono (ht [] s1 (start N vs) H _ I hq) (fun fl s' hs=>?_) fun e s' hs=>hs
 have fin:∀ {σ':St} {H':Hp} {v:V} {u:Value},Inv (Uf CX P w K mg base N qual scope f cdv A outer s H E) [] σ' H' s'→RelV v u→Q v H'→CE outer P w H s Q u s' :=
   fun {σ' H' v u} J rv q=>⟨v,H',J.os,J.bare,J.base,J.hok,rv,q⟩
 cases fl with
 | ret u =>
   obtain ⟨v,σ',H',J,rv,q⟩:=hs
   exact fin J rv q
 | next =>
   obtain ⟨σ',H',J,q⟩:=hs
   exact fin (v:=V.non) (u:=Value.none) J rfl q
 | brk =>
   obtain ⟨_,_,_,q⟩:=hs
   exact False.elim q
 | cont =>
   obtain ⟨_,_,_,q⟩:=hs
   exact False.elim q
end L2
namespace L2
open PySem PySem.Spec PyProof.Rows
section
variable {X:Cx}{x:Str}{p pos:Pos}{e:Expr}{es:List Expr}{t:TA}{id T:String}{r:List V→Hp→VK→Prop}
def tCB (r:List V→Hp→VK→Prop)(t:TA):TE:=fun σ H Q=>t σ H fun vs H1=>r vs H1 Q
theorem Zl (hc:YQ X (.builtin id) r)(hg:Gl X x)(hm:X.mg x=none)(hv:bootBuiltins x=some (.builtin id))(ha:PA X (e::es) t)(hn:x≠"__name__":=by decide)(hdb:(x == ("__debug__":Str))=false:=by decide)
   (he:starEach (e::es) X.env=(false,eval e X.env)::starEach es X.env:=by rfl) (hpl:(backTo pos (starEach es X.env)).any (·.1)=false:=by rfl):PE X (.Call (.Name x p) (e::es) [] pos) (tCB r t):=by
 intro pins s σ H Q I h
 refine wpAny_Call_Name_kw (Xy I hg hm hv ?_ hn hdb)
 exact PyProof.Rows.callWith_builtin1 (Zm (ha pos pins s σ H _ I h) fun us s1 ⟨vs,H1,I1,r1,q1⟩=>hc pins s1 σ H1 vs us Q I1 r1 q1) he hpl
theorem Yv (hc:YQ X (.type T) r)(hg:Gl X x)(hm:X.mg x=none)(hv:bootBuiltins x=some (.type T))(ha:PA X (e::es) t)(hn:x≠"__name__":=by decide)(hdb:(x == ("__debug__":Str))=false:=by decide)
   (he:starEach (e::es) X.env=(false,eval e X.env)::starEach es X.env:=by rfl) (hpl:(backTo pos (starEach es X.env)).any (·.1)=false:=by rfl):PE X (.Call (.Name x p) (e::es) [] pos) (tCB r t):=by
 intro pins s σ H Q I h
 refine wpAny_Call_Name_kw (Xy I hg hm hv ?_ hn hdb)
 exact PyProof.Rows.callWith_type1 (Zm (ha pos pins s σ H _ I h) fun us s1 ⟨vs,H1,I1,r1,q1⟩=>hc pins s1 σ H1 vs us Q I1 r1 q1) he hpl
end
end L2
namespace HT
open PySem PyProof.Rows
section
open PySem.SeqAt
open PySem.AutoSeq1 (wpAny_loadPart')
open PySem.MeetsSeq PySem.MeetsSeq2 PySem.MeetsSeq3
end
section
variable {prog:Program}{w:World}{A:Around}{E:Value→Shared→Prop}{s:Shared}
theorem cat_tup {t b:Addr}{vs ws:List Value}{Q:Value→Shared→Prop}(ht:IsTup s.heap t vs.toArray)(hb:IsTup s.heap b ws.toArray)(hv:vs≠[])
   (h1:ws=[]→Q (.ref t) s) (h2:ws≠[]→Q (.ref s.heap.objs.size) { s with heap:=s.heap.push { cls:=.type "tuple",data:=.seq (vs++ws).toArray } })
   (hsz:vs.length+ws.length≤sizeLine):wpAny (model prog w) A (binaryOp .Add (.ref t) (.ref b)) Q E s:=by
 obtain ⟨⟨cls,dd,data,sl⟩,ho,hc,n,hd⟩:=id ht
 obtain ⟨⟨cls2,dd2,data2,sl2⟩,ho2,hc2,n2,hd2⟩:=id hb
 simp only at hc hd hc2 hd2
 subst hc hd hc2 hd2
 have e:vs.toArray++ws.toArray=(vs++ws).toArray:=by simp
 by_cases hw:ws=[]
 · exact concat_meets ⟨_,ho,rfl⟩ ⟨_,ho2,rfl⟩ noFill_tuple_add seq_tuple_add PySem.F.slot_tuple_add PySem.F.entry_tuple_add (PySem.F.args_tuple_add_2 _ _)
     (tuple_addW1 t b vs.toArray ws.toArray n n2 dd dd2 sl sl2 (by simpa using hv) (by simp [hw])) ⟨ho,ho2,h1 hw⟩
 · refine concat_meets ⟨_,ho,rfl⟩ ⟨_,ho2,rfl⟩ noFill_tuple_add seq_tuple_add PySem.F.slot_tuple_add PySem.F.entry_tuple_add (PySem.F.args_tuple_add_2 _ _)
     (tuple_addW2 t b vs.toArray ws.toArray n n2 dd dd2 sl sl2 (by simpa using hv) (by simpa using hw) (by rw [List.size_toArray,List.size_toArray];exact hsz)) ⟨ho,ho2,?_⟩
   rw [e]
   exact h2 hw
def sIx (n d:Nat):Option Int→Nat
 | none=>d
 | some v=>if v < 0 then (v+(n:Int)).toNat else min v.toNat n
theorem sIx_none (n d:Nat):sIx n d none=d:=rfl
theorem sIx_nat (n d k:Nat):sIx n d (some (k:Int))=min k n:=by
 show (if (k:Int) < 0 then ((k:Int)+(n:Int)).toNat else min (k:Int).toNat n)=min k n
 rw [if_neg (by omega),Int.toNat_natCast]
theorem sIx_le (n d:Nat)(hd:d≤n)(o:Option Int):sIx n d o≤n:=by
 cases o with
 | none=>exact hd
 | some v =>
   show (if v < 0 then (v+(n:Int)).toNat else min v.toNat n)≤n
   by_cases hv:v < 0
   · rw [if_pos hv];omega
   · rw [if_neg hv];exact Nat.min_le_right _ _
theorem ZdO (v:Int)(n d:Nat):(if v < 0 then max (v+(n:Int)) 0 else min v (n:Int))=((sIx n d (some v):Nat):Int):=by
 show (if v < 0 then max (v+(n:Int)) 0 else min v (n:Int))=(((if v < 0 then (v+(n:Int)).toNat else min v.toNat n):Nat):Int)
 by_cases hv:v < 0
 · simp only [if_pos hv];omega
 · simp only [if_neg hv];omega
theorem ZeC (lo hi:Option Int)(n:Nat):Builtin.Slice.sliceAdjust lo hi 1 (n:Int)=(((sIx n 0 lo:Nat):Int),((sIx n n hi:Nat):Int)):=by
 have h1:¬ ((1:Int) < 0):=by omega
 unfold Builtin.Slice.sliceAdjust
 simp only [h1,if_false]
 refine Prod.ext ?_ ?_
 · cases lo with
   | none=>rfl
   | some v=>exact ZdO v n 0
 · cases hi with
   | none=>rfl
   | some v=>exact ZdO v n n
theorem ZeV (i j:Nat):Builtin.Slice.slicePlaces (i:Int) (j:Int) 1=j - i:=by
 unfold Builtin.Slice.slicePlaces
 have h1:(1:Int) > 0:=by omega
 simp only [h1,if_true,Int.ediv_one]
 split<;>omega
theorem Zav {v:Value}{o:Option Int}{Q:Option Int→Shared→Prop}(p:IsPart v o)(h:Q o s):wpAny (model prog w) A (Builtin.Slice.slicePartIndex v) Q E s:=by
 cases p with
 | none=>exact slicePart_none h
 | int i t=>exact slicePart_int h
theorem sliceApplied_gen {sl:Addr}{vl vu:Value}{lo hi:Option Int}{n:Nat}{Q:Int×Int×Nat→Shared→Prop}(hs:s.heap.IsSliceOf sl vl vu .none)(pl:IsPart vl lo)(pu:IsPart vu hi)
   (h:Q (((sIx n 0 lo:Nat):Int),1,sIx n n hi - sIx n 0 lo) s):wpAny (model prog w) A (Builtin.Slice.sliceApplied (.ref sl) (pure (n:Int))) Q E s:=by
 obtain ⟨os,hos,hcs,hds⟩:=id hs
 unfold Builtin.Slice.sliceApplied Builtin.Slice.sliceFields
 refine wpAny_bind (wpAny_bind (wpAny_field hos hds (x:=vl) rfl (wpAny_bind (wpAny_field hos hds (x:=vu) rfl (wpAny_bind (wpAny_field hos hds (x:=.none) rfl (wpAny_pure ?_)))))))
 refine wpAny_bind (slicePart_none ?_)
 show wpAny _ _ (if ((1:Int) == 0)=true then _ else _) _ _ s
 rw [if_neg (by decide)]
 refine wpAny_bind (Zav pl (wpAny_bind (Zav pu (wpAny_bind (wpAny_pure ?_)))))
 show wpAny _ _ (match Builtin.Slice.sliceAdjust lo hi 1 (n:Int) with | (lo,hi)=>pure (lo,(1:Int),Builtin.Slice.slicePlaces lo hi 1)) _ _ s
 rw [ZeC lo hi n]
 show wpAny _ _ (pure (((sIx n 0 lo:Nat):Int),(1:Int),Builtin.Slice.slicePlaces ((sIx n 0 lo:Nat):Int) ((sIx n n hi:Nat):Int) 1)) _ _ s
 rw [ZeV]
 exact wpAny_pure h
theorem ZgD (xs:Array Value)(i k:Nat):((List.range k).filterMap fun (m:Nat)=>xs[((i:Int)+(m:Int) * 1).toNat]?).toArray=((xs.toList.drop i).take k).toArray:=by
 have e:(fun (m:Nat)=>xs[((i:Int)+(m:Int) * 1).toNat]?)=fun m=>xs[i+m]?:=by
   funext m
   have:((i:Int)+(m:Int) * 1).toNat=i+m:=by omega
   rw [this]
 rw [e]
 have:=pick_run xs i k
 rw [List.filterMap_map] at this
 have e2:((fun x=>xs[x]?) ∘ fun x=>i+x)=fun m=>xs[i+m]?:=rfl
 rw [e2] at this
 rw [this]
theorem getItem_tuple_cut {t sl:Addr}{items:Array Value}{vl vu:Value}{lo hi:Option Int}{Q:Value→Shared→Prop}(ht:IsTup s.heap t items)(hs:s.heap.IsSliceOf sl vl vu .none)(pl:IsPart vl lo)(pu:IsPart vu hi)
   (hw:¬ (sIx items.size 0 lo=0∧sIx items.size items.size hi=items.size))
   (h:Q (.ref s.heap.objs.size) { s with heap:=s.heap.push { cls:=.type "tuple",data:=.seq ((items.toList.drop (sIx items.size 0 lo)).take (sIx items.size items.size hi - sIx items.size 0 lo)).toArray } })
   (hsz:items.size≤sizeLine):wpAny (model prog w) A (getItem (.ref t) (.ref sl)) Q E s:=by
 have htake:sizeOk (.seq ((items.toList.drop (sIx items.size 0 lo)).take (sIx items.size items.size hi - sIx items.size 0 lo)).toArray):=by
   show ((items.toList.drop (sIx items.size 0 lo)).take (sIx items.size items.size hi - sIx items.size 0 lo)).toArray.size≤sizeLine
   rw [List.size_toArray,List.length_take,List.length_drop,Array.length_toList]
   omega
 have hj:sIx items.size items.size hi≤items.size:=sIx_le _ _ (Nat.le_refl _) hi
 obtain ⟨os,hos,hcs,hds⟩:=id hs
 have hTs:s.TypeIs (.ref sl) "slice":=⟨os,hos,hcs⟩
 unfold getItem
 try with_reducible refine wpAny_holding ?_
 first | refine wpAny_bind (wpAny_pure ?_) | skip
 refine wpAny_bind (wpAny_sequenceKey ht.typeIs (by decide) ?_)
 refine wpAny_bind (wpAny_callSpecial?_slot (name:=Str.ofString "__getitem__") ht.typeIs PyProof.Rows.slot_tuple_getitem
   (wpAny_call_entry PyProof.Rows.slot_tuple_getitem ht.typeIs entry_tuple_getitem ?_ (args_tuple_getitem _ _)))
 show wpAny _ _ (Builtin.Tuple.tupleItemsOf (.ref t) >>= _) _ _ s
 refine wpAny_bind (tupleItemsOf_ ht ?_)
 refine wpAny_bind (wpAny_typeOf hTs ?_)
 rw [if_pos (by decide)]
 refine wpAny_bind (sliceApplied_gen hs pl pu ?_)
 have hno:¬ ((((sIx items.size 0 lo:Nat):Int) == 0&&(1:Int) == 1&&(sIx items.size items.size hi - sIx items.size 0 lo) == items.size)=true):=by
   intro q
   rw [Bool.and_eq_true,Bool.and_eq_true] at q
   have q1:((sIx items.size 0 lo:Nat):Int)=0:=eq_of_beq q.1.1
   have q2:sIx items.size items.size hi - sIx items.size 0 lo=items.size:=eq_of_beq q.2
   exact hw ⟨by omega,by omega⟩
 show wpAny _ _ (if (((sIx items.size 0 lo:Nat):Int) == 0&&(1:Int) == 1&&(sIx items.size items.size hi - sIx items.size 0 lo) == items.size)=true then _ else _) _ _ s
 rw [if_neg hno,ZgD]
 first
   | exact wpAny_bind (m:=Builtin.Tuple.tupleExact _) (wpAny_newObj_type (wpAny_pure ⟨_,rfl,wpAny_pure h⟩) htake)
   | exact wpAny_bind (m:=Builtin.Tuple.tupleExact _) (wpAny_newObj_type (wpAny_bind (wpAny_pure (wpAny_pure ⟨_,rfl,wpAny_pure h⟩))) htake)
   | exact wpAny_bind (wpAny_bind (m:=Builtin.Tuple.tupleExact _) (wpAny_newObj_type (wpAny_pure (wpAny_pure ⟨_,rfl,wpAny_pure h⟩)) htake))
   | exact wpAny_bind (wpAny_bind (m:=Builtin.Tuple.tupleExact _) (wpAny_newObj_type (wpAny_pure ⟨_,rfl,wpAny_pure h⟩) htake))
end
end HT
namespace L2
open PySem PySem.Spec PyProof.Rows
abbrev TO:=St→Hp→(Option Int→Hp→Prop)→Prop
def PO (X:Cx)(e:Option Expr)(t:TO):Prop :=
 ∀ (pins:List (Addr×Obj)) (s:Shared) (σ:St) (H:Hp) (Q:Option Int→Hp→Prop),Inv X pins σ H s→t σ H Q →
   wpAny (model X.prog X.w) X.A (evalPart e X.env) (fun u s'=>∃ o H',Inv X pins σ H' s'∧IsPart u o∧Q o H') X.xe s
def We:TO:=fun _ H Q=>Q none H
def Zlb (t:TE):TO:=fun σ H Q=>t σ H fun x H1=>∃ i,x=.int i∧Q (some i) H1
section
variable {X:Cx}{e:Expr}{te:TE}{lo hi:Option Expr}{tl th:TO}{pos p2:Pos}
theorem Yq:PO X none We:=by
 intro pins s σ H Q I h
 rw [evalPart_none]
 exact wpAny_pure ⟨none,H,I,.none,h⟩
theorem Yc (h:PE X e te):PO X (some e) (Zlb te):=by
 intro pins s σ H Q I hw
 rw [evalPart_some]
 refine Zm (h pins s σ H _ I hw) fun u s1 ⟨x,H1,I1,r1,q1⟩=>?_
 obtain ⟨i,rfl,q⟩:=q1
 obtain ⟨t,rfl⟩:=r1
 exact ⟨some i,H1,I1,.int i t,q⟩
def SlR (X:Cx)(r:V→Option Int→Option Int→Hp→VK→Prop):Prop :=
 ∀ (pins:List (Addr×Obj)) (s:Shared) (σ:St) (H:Hp) (x:V) (v vl vu:Value) (lo hi:Option Int) (sl:Addr) (Q:VK),Inv X pins σ H s→RelV x v→s.heap.IsSliceOf sl vl vu .none→IsPart vl lo→IsPart vu hi→r x lo hi H Q →
   ∃ T id,typeLookup (.type T) "__getitem__"=pure (some (.builtin id))∧s.TypeIs v T∧wpAny (model X.prog X.w) X.A (getItem v (.ref sl)) (EP X pins σ Q) X.xe s
def tSl (r:V→Option Int→Option Int→Hp→VK→Prop)(te:TE)(tl th:TO):TE:=fun σ H Q=>te σ H fun x H1=>tl σ H1 fun l H2=>th σ H2 fun u H3=>r x l u H3 Q
theorem Ye {r:V→Option Int→Option Int→Hp→VK→Prop}(hr:SlR X r)(he:PE X e te)(hl:PO X lo tl)(hu:PO X hi th):PE X (.Subscript e (.Slice lo hi none p2) pos) (tSl r te tl th):=by
 intro pins s σ H Q I h
 refine Subscript_ (Zm (he pins s σ H _ I h) fun v s1 ⟨x,H1,I1,r1,q1⟩=>?_)
 refine wpAny_Slice (Zm (hl pins s1 σ H1 _ I1 q1) fun vl s2 ⟨l,H2,I2,pl,q2⟩=>Zm (hu pins s2 σ H2 _ I2 q2) fun vu s3 ⟨u,H3,I3,pu,q3⟩=>?_)
 rw [evalPart_none]
 refine wpAny_pure ?_
 have I4:Inv X pins σ H3 { s3 with heap:=s3.heap.push { cls:=.type "slice",data:=.fields #[vl,vu,.none] } }:=I3.kept (t':=s3.toks) fun b ob q=>Heap.get?_push_of_some _ q
 obtain ⟨T,id,hT,ht,hg⟩:=hr pins { s3 with heap:=s3.heap.push { cls:=.type "slice",data:=.fields #[vl,vu,.none] } } σ H3 x v vl vu l u s3.heap.objs.size Q I4 r1 (Heap.IsSliceOf.new ..) pl pu q3
 show wpAny (model X.prog X.w) X.A (subscriptTail e (.Slice lo hi none p2) v (.ref s3.heap.objs.size)) (EP X pins σ Q) X.xe { s3 with heap:=s3.heap.push { cls:=.type "slice",data:=.fields #[vl,vu,.none] } }
 exact tail_any (ops:=[.ref s3.heap.objs.size,v]) ht hT hg (by with_unfolding_all rfl)
def YJ (xs:List V)(lo hi:Option Int):List V:=(xs.drop (HT.sIx xs.length 0 lo)).take (HT.sIx xs.length xs.length hi - HT.sIx xs.length 0 lo)
theorem VI (xs:List V)(lo hi:Option Int):(YJ xs lo hi).length≤xs.length:=by
 unfold YJ
 rw [List.length_take,List.length_drop]
 omega
def rSlT (K:PySem.W.Frag):V→Option Int→Option Int→Hp→VK→Prop:=fun x lo hi H Q=>∃ a xs,x=.ref a∧SqT K H a xs ∧
 ¬ (HT.sIx xs.length 0 lo=0∧HT.sIx xs.length xs.length hi=xs.length)∧∀ p,H p=none→Q (.ref p) (upd H p (.tup (YJ xs lo hi)))
theorem Zcs:SlR X (rSlT X.K):=by
 intro pins s σ H x v vl vu lo hi sl Q I rx hs pl pu h
 obtain ⟨a,xs,rfl,hx,hw,q⟩:=h
 cases rx
 obtain ⟨its,r,ht,hz⟩:=I.tuple hx
 have hlen:its.toArray.size=xs.length:=by rw [List.size_toArray];exact r.length.symm
 refine ⟨"tuple",_,PyProof.Rows.slot_tuple_getitem.lookup,ht.typeIs,?_⟩
 refine HT.getItem_tuple_cut ht hs pl pu (by rw [hlen];exact hw) ?_ (by rw [hlen];exact hz)
 rw [hlen]
 refine ⟨.ref s.heap.objs.size,_,I.laid (t':=s.toks) (o:=.tup (YJ xs lo hi)) (fun b ob q=>Heap.get?_push_of_some _ q) (Nat.le_refl _) ?_,rfl,q _ (I.hok.fresh (Nat.le_refl _))⟩
 exact ⟨Nat.le_trans (VI xs lo hi) hz,_,(r.drop (HT.sIx xs.length 0 lo)).take (HT.sIx xs.length xs.length hi - HT.sIx xs.length 0 lo),IsTup.new _ _⟩
def Zlk (K:PySem.W.Frag):R2:=fun x y H Q=>∃ a b xs ys,x=.ref a∧y=.ref b∧SqT K H a xs∧SqT K H b ys∧xs≠[]∧xs.length+ys.length≤sizeLine ∧
 (ys=[]→Q (.ref a) H)∧(ys≠[]→∀ p,H p=none→Q (.ref p) (upd H p (.tup (xs++ys))))
theorem Vals.nil_iff {xs:List V}{us:List Value}(r:Vals xs us):us=[]↔xs=[]:=by
 cases r with
 | nil=>simp
 | cons _ _=>simp
theorem Ur:YG X (binaryOp .Add) (Zlk X.K):=by
 intro pins s σ H x y v u Q I rx ry h
 obtain ⟨a,b,xs,ys,rfl,rfl,ha,hb,hx,hz,q1,q2⟩:=h
 cases rx
 cases ry
 obtain ⟨its,r1,p1,_⟩:=I.tuple ha
 obtain ⟨its2,r2,p2,_⟩:=I.tuple hb
 refine HT.cat_tup p1 p2 (fun z=>hx (r1.nil_iff.mp z)) (fun z=>⟨.ref a,H,I,rfl,q1 (r2.nil_iff.mp z)⟩) (fun z=>?_) (by rw [← r1.length,← r2.length];exact hz)
 refine ⟨.ref s.heap.objs.size,_,I.laid (t':=s.toks) (o:=.tup (xs++ys)) (fun b ob q=>Heap.get?_push_of_some _ q) (Nat.le_refl _) ?_,rfl,q2 (fun w=>z (r2.nil_iff.mpr w)) _ (I.hok.fresh (Nat.le_refl _))⟩
 exact ⟨by rw [List.length_append];exact hz,_,r1.append r2,IsTup.new _ _⟩
end
end L2
namespace L2
open PySem PySem.Spec PyProof.Rows
def VC (n:Nat)(i:Int):Option Nat:=if 0≤i then (if i < n then some i.toNat else none) else if -(n:Int)≤i then some (i+n).toNat else none
def YK {α:Type}(xs:List α)(i:Int):Option α:=(VC xs.length i).bind fun j=>xs[j]?
theorem Zdy {n:Nat}{i:Int}{j:Nat}(h:VC n i=some j):seqIndex? i n=some j∧j < n∧-(n:Int)≤i∧i < n:=by
 unfold VC at h
 by_cases h0:0≤i
 · rw [if_pos h0] at h
   by_cases h1:i < n
   · rw [if_pos h1] at h
     have e:i.toNat=j:=Option.some.inj h
     exact ⟨by rw [seqIndex_of h0 h1,e],by omega,by omega,h1⟩
   · rw [if_neg h1] at h;cases h
 · rw [if_neg h0] at h
   by_cases h1:-(n:Int)≤i
   · rw [if_pos h1] at h
     have e:(i+n).toNat=j:=Option.some.inj h
     exact ⟨by rw [seqIndex_neg (by omega) h1,e],by omega,h1,by omega⟩
   · rw [if_neg h1] at h;cases h
theorem ZaV {α:Type}{xs:List α}{i:Int}{v:α}(h:YK xs i=some v):∃ j,seqIndex? i xs.length=some j∧xs[j]?=some v∧j < xs.length∧-(xs.length:Int)≤i∧i < xs.length:=by
 unfold YK at h
 cases e:VC xs.length i with
 | none=>rw [e] at h;cases h
 | some j =>
   rw [e] at h
   obtain ⟨h1,h2,h3,h4⟩:=Zdy e
   exact ⟨j,h1,h,h2,h3,h4⟩
theorem ZA {α:Type}{xs:List α}{j:Nat}{v:α}(h:xs[j]?=some v):YK xs (j:Int)=some v:=by
 have hj:j < xs.length:=(List.getElem?_eq_some_iff.mp h).1
 have e:VC xs.length (j:Int)=some j:=by
   unfold VC
   rw [if_pos (by omega),if_pos (by omega)];simp
 unfold YK;rw [e];exact h
def ZiM (b:Expr):Prop:=∀ o i,subscripted b false o i=operate [o,i] (getItem o i)
def IxR (X:Cx)(r:R2):Prop :=
 ∀ (value slice:Expr) (pins:List (Addr×Obj)) (s:Shared) (σ:St) (H:Hp) (x y:V) (v u:Value) (Q:VK),Inv X pins σ H s→RelV x v→RelV y u→r x y H Q →
   subscripted slice false v u=operate [v,u] (getItem v u)→wpAny (model X.prog X.w) X.A (subscriptTail value slice v u) (EP X pins σ Q) X.xe s
def MtR (X:Cx)(id:String)(r:V→List V→Hp→VK→Prop):Prop :=
 ∀ (pins:List (Addr×Obj)) (s:Shared) (σ:St) (H:Hp) (x:V) (xs:List V) (v:Value) (us:List Value) (Q:VK),Inv X pins σ H s→RelV x v→Vals xs us→r x xs H Q →
   wpAny (model X.prog X.w) X.A (call (.builtin id) (v::us)) (EP X pins σ Q) X.xe s
section
variable {X:Cx}{a b:Expr}{ta tb:TE}{pos:Pos}
theorem ZC {r:R2}(hr:IxR X r)(ha:PE X a ta)(hb:PE X b tb)(hs:ZiM b):PE X (.Subscript a b pos) (tOp r ta tb):=by
 intro pins s σ H Q I h
 exact Subscript_ (ZhZ ha hb I h fun v u s2 x y H2 I2 rx ry q=>hr a b pins s2 σ H2 x y v u Q I2 rx ry q (hs _ _))
def rIxL (K:PySem.W.Frag):R2:=fun x y H Q=>∃ p xs i v,x=.ref p∧y=.int i∧SqL K H p xs∧YK xs i=some v∧Q v H
def rIxT (K:PySem.W.Frag):R2:=fun x y H Q=>∃ p xs i v,x=.ref p∧y=.int i∧SqT K H p xs∧YK xs i=some v∧Q v H
def rIxS:R2:=fun x y H Q=>∃ z i c,x=.str z∧y=.int i∧z.length≤sizeLine∧YK z.cps.toList i=some c∧Q (.str ⟨#[c]⟩) H
theorem ZL:IxR X (rIxL X.K):=by
 intro value slice pins s σ H x y v u Q I rx ry h hs
 obtain ⟨p,xs,i,z,rfl,rfl,hq,he,q⟩:=h
 cases rx
 obtain ⟨t,rfl⟩:=ry
 obtain ⟨its,r,pl,hz⟩:=I.list hq
 obtain ⟨j,h1,h2,h3,h4,h5⟩:=ZaV he
 obtain ⟨w,ew,rw'⟩:=r.get h2
 have hl:=r.length
 have hn:=Wv
 have fin:EP X pins σ Q w s:=⟨z,H,I,rw',q⟩
 by_cases h0:0≤i
 · have hj:i.toNat=j:=by
     rw [seqIndex_of h0 h5] at h1
     exact Option.some.inj h1
   exact item_listR pl.isList h0 (by omega) (by rw [hj];simpa using ew) fin hs
 · have hj:(i+(its.toArray.size:Int)).toNat=j:=by
     rw [seqIndex_neg (by omega) h4] at h1
     rw [List.size_toArray,← hl]
     exact Option.some.inj h1
   exact subscriptTail_builtinR (x:=w) pl.isList.typeIs slot_list_getitem.lookup
     (wpAny_getItem_list_neg (Q:=fun r s'=>r=w∧EP X pins σ Q r s') pl.isList (by omega) (by rw [List.size_toArray]<;>omega) (by omega) (by rw [hj];simpa using ew) ⟨rfl,fin⟩) hs
theorem YO:IxR X (rIxT X.K):=by
 intro value slice pins s σ H x y v u Q I rx ry h hs
 obtain ⟨p,xs,i,z,rfl,rfl,hq,he,q⟩:=h
 cases rx
 obtain ⟨t,rfl⟩:=ry
 obtain ⟨its,r,pl,hz⟩:=I.tuple hq
 obtain ⟨j,h1,h2,h3,h4,h5⟩:=ZaV he
 obtain ⟨w,ew,rw'⟩:=r.get h2
 have hl:=r.length
 have hn:=Wv
 have fin:EP X pins σ Q w s:=⟨z,H,I,rw',q⟩
 exact subscriptTail_builtinR (x:=w) pl.typeIs slot_tuple_getitem.lookup
   (getItem_tuple (j:=j) (Q:=fun r s'=>r=w∧EP X pins σ Q r s') pl (by omega) (by omega) (by rw [List.size_toArray,← hl];exact h1) (by simpa using ew) ⟨rfl,fin⟩) hs
theorem Zaj:IxR X rIxS:=by
 intro value slice pins s σ H x y v u Q I rx ry h hs
 obtain ⟨z,i,c,rfl,rfl,hz,he,q⟩:=h
 obtain ⟨t,rfl⟩:=rx
 obtain ⟨t',rfl⟩:=ry
 obtain ⟨j,h1,h2,h3,h4,h5⟩:=ZaV he
 have hl:z.cps.toList.length=z.length:=by simp [Str.length]
 rw [hl] at h1 h4 h5
 have hn:=Wv
 exact tail_any (typeIs_str s z t) slot_str_getitem.lookup (getItem_str (c:=c) (by
   have e1:decide (i < -(2 ^ 63:Int))=false:=decide_eq_false (by omega)
   have e2:decide (i ≥ 2 ^ 63)=false:=decide_eq_false (by omega)
   rw [e1,e2,Bool.or_false]) (by rw [h1];simpa using h2) ⟨.str ⟨#[c]⟩,H,I.tok _,⟨_,rfl⟩,q⟩) hs
theorem ZeN (its:List Value)(n j:Nat)(u:Value):Obj.mapSeq (·.setIfInBounds j u) { cls:=.type "list",data:=.seq its.toArray n }={ cls:=.type "list",data:=.seq (its.set j u).toArray n }:=by
 simp [Obj.mapSeq]
theorem Inv.lst {pins:List (Addr×Obj)}{σ:St}{H:Hp}{s:Shared}{p:Addr}{xs:List V}(I:Inv X pins σ H s)(h:H p=some (.lst xs)) :
   ∃ (its:List Value) (n:Nat),Vals xs its∧s.heap.get? p=some { cls:=.type "list",data:=.seq its.toArray n }∧xs.length≤sizeLine:=by
 obtain ⟨z,its,n,r,e⟩:=I.hok p _ h
 exact ⟨its,n,r,e,z⟩
theorem Inv.lstUpd {pins:List (Addr×Obj)}{σ:St}{H:Hp}{s:Shared}{p:Addr}{xs ys:List V}{its its':List Value}{n n':Nat}{f:Obj→Obj}(I:Inv X pins σ H s)(h:H p=some (.lst xs))
   (ho:s.heap.get? p=some { cls:=.type "list",data:=.seq its.toArray n }) (hf:f { cls:=.type "list",data:=.seq its.toArray n }={ cls:=.type "list",data:=.seq its'.toArray n' }) (r:Vals ys its') (hz:ys.length≤sizeLine) (t:Nat) :
   Inv X pins σ (upd H p (.lst ys)) { s with heap:=s.heap.update p f,toks:=t }:=by
 have e:(s.heap.update p f).get? p=some { cls:=.type "list",data:=.seq its'.toArray n' }:=by
   rw [Heap.get?_update_self f ho (by rw [hf]<;>rfl),hf]
 refine I.write (x:=p) (e:=p) (by rw [h];trivial) (.inl rfl) (fun b u hb q=>(Heap.get?_update_other _ _ (Ne.symm hb)).trans q) ⟨_,e⟩ ?_
 exact ⟨hz,its',n',r,e⟩
def Zlt:V→V→V→Hp→(Hp→Prop)→Prop:=fun o i v H Q=>∃ p xs k j,o=.ref p∧i=.int k∧H p=some (.lst xs)∧VC xs.length k=some j∧Q (upd H p (.lst (xs.set j v)))
theorem ZbU:PSet X Zlt:=by
 intro pins s σ H o i v ov iv u Q I ro ri rv h
 obtain ⟨p,xs,k,j,rfl,rfl,hp,hj,q⟩:=h
 cases ro
 obtain ⟨t,rfl⟩:=ri
 obtain ⟨its,n,r,ho,hz⟩:=I.lst hp
 obtain ⟨h1,h2,h3,h4⟩:=Zdy hj
 have hl:=r.length
 have hn:=Wv
 have I':Inv X pins σ (upd H p (.lst (xs.set j v))) { s with heap:=s.heap.update p (Obj.mapSeq (·.setIfInBounds j u)) } :=
   I.lstUpd hp ho (ZeN its n j u) (r.set rv j) (by rw [List.length_set];exact hz) s.toks
 by_cases h0:0≤k
 · have hk:k.toNat=j:=by
     rw [seqIndex_of h0 h4] at h1
     exact Option.some.inj h1
   exact PySem.W.ki_setAt ho h0 (by omega) (by rw [List.size_toArray,← hl];exact h4) (by rw [hk];exact ⟨_,I',q⟩)
 · have hk:(k+(its.toArray.size:Int)).toNat=j:=by
     rw [seqIndex_neg (by omega) h3] at h1
     rw [List.size_toArray,← hl]
     exact Option.some.inj h1
   exact PySem.W.ki_setBack ho (by omega) (by rw [List.size_toArray,← hl];exact h3) (by omega) (by rw [hk];exact ⟨_,I',q⟩)
theorem ZcM (lo hi:Option Int)(n:Nat):(sliceBounds lo hi none n).1=((HT.sIx n 0 lo:Nat):Int)∧(sliceBounds lo hi none n).2.1=((HT.sIx n n hi:Nat):Int)∧(sliceBounds lo hi none n).2.2=1:=by
 refine ⟨?_,?_,rfl⟩
 · cases lo with
   | none=>simp [sliceBounds,HT.sIx]
   | some i =>
     simp only [sliceBounds,HT.sIx,Option.getD_none,show (1:Int) > 0 by decide,if_true]
     by_cases h:i < 0
     · simp only [h,if_true]<;>omega
     · simp only [h,if_false]<;>omega
 · cases hi with
   | none=>simp [sliceBounds,HT.sIx]
   | some i =>
     simp only [sliceBounds,HT.sIx,Option.getD_none,show (1:Int) > 0 by decide,if_true]
     by_cases h:i < 0
     · simp only [h,if_true]<;>omega
     · simp only [h,if_false]<;>omega
theorem ZbM (its:List Value)(lo hi:Option Int):slicePick its.toArray lo hi none=((its.drop (HT.sIx its.length 0 lo)).take (HT.sIx its.length its.length hi - HT.sIx its.length 0 lo)).toArray:=by
 obtain ⟨h1,h2,h3⟩:=ZcM lo hi its.toArray.size
 unfold slicePick
 rw [h1,h2,h3]
 simp only [sliceRange_one,pick_run,List.size_toArray]<;>rfl
def rSlL (K:PySem.W.Frag):V→Option Int→Option Int→Hp→VK→Prop:=fun x lo hi H Q=>∃ a xs,x=.ref a∧SqL K H a xs∧∀ p,H p=none→Q (.ref p) (upd H p (.lst (YJ xs lo hi)))
theorem Xs:SlR X (rSlL X.K):=by
 intro pins s σ H x v vl vu lo hi sl Q I rx hs pl pu h
 obtain ⟨a,xs,rfl,hx,q⟩:=h
 cases rx
 obtain ⟨its,r,ht,hz⟩:=I.list hx
 have hlen:=r.length
 refine ⟨"list",_,slot_list_getitem.lookup,ht.isList.typeIs,?_⟩
 refine wpAny_getItem_list_slice ht.isList hs pl pu .none (by simp) ?_ (by rw [List.size_toArray]<;>omega)
 rw [ZbM,← hlen]
 refine ⟨.ref s.heap.objs.size,_,I.laid (t':=s.toks) (o:=.lst (YJ xs lo hi)) (fun b ob q=>Heap.get?_push_of_some _ q) (Nat.le_refl _) ?_,rfl,q _ (I.hok.fresh (Nat.le_refl _))⟩
 exact ⟨Nat.le_trans (VI xs lo hi) hz,_,0,(r.drop (HT.sIx xs.length 0 lo)).take (HT.sIx xs.length xs.length hi - HT.sIx xs.length 0 lo),Heap.get?_push_size _ rfl⟩
def XE:V→Bool
 | .non=>true
 | .bl _=>true
 | .int _=>true
 | .str _=>true
 | _=>false
def WE:V→V→Bool
 | .non,.non=>true
 | .bl a,.bl b=>a == b
 | .bl a,.int b=>(if a then 1 else 0) == b
 | .int a,.bl b=>a == (if b then 1 else 0)
 | .int a,.int b=>a == b
 | .str a,.str b=>a == b
 | _,_=>false
theorem Zkm {A:Around}{s:Shared}{y x:V}{u v:Value}(ry:RelV y u)(rx:RelV x v)(fy:XE y=true)(fx:XE x=true):SeqAt.EqAt A s u v (WE y x):=by
 cases y with
 | non =>
   cases ry
   cases x with
   | non=>cases rx;exact SeqAt.EqAt.same _
   | bl b=>cases rx;exact SeqAt.EqAt.none_bool b
   | int b=>obtain ⟨t,rfl⟩:=rx;exact SeqAt.EqAt.none_int b t
   | str b=>obtain ⟨t,rfl⟩:=rx;exact SeqAt.EqAt.none_str b t
   | _=>exact absurd (show false=true from fx) Bool.false_ne_true
 | bl a =>
   cases ry
   cases x with
   | non=>cases rx;exact SeqAt.EqAt.bool_none a
   | bl b=>cases rx;exact SeqAt.EqAt.bool_bool a b
   | int b=>obtain ⟨t,rfl⟩:=rx;exact SeqAt.EqAt.bool_int a b t
   | str b=>obtain ⟨t,rfl⟩:=rx;exact SeqAt.EqAt.bool_str a b t
   | _=>exact absurd (show false=true from fx) Bool.false_ne_true
 | int a =>
   obtain ⟨t',rfl⟩:=ry
   cases x with
   | non=>cases rx;exact SeqAt.EqAt.int_none a t'
   | bl b=>cases rx;exact SeqAt.EqAt.int_bool a t' b
   | int b=>obtain ⟨t,rfl⟩:=rx;exact SeqAt.EqAt.int_int a t' b t
   | str b=>obtain ⟨t,rfl⟩:=rx;exact SeqAt.EqAt.int_str a t' b t
   | _=>exact absurd (show false=true from fx) Bool.false_ne_true
 | str a =>
   obtain ⟨t',rfl⟩:=ry
   cases x with
   | non=>cases rx;exact SeqAt.EqAt.str_none a t'
   | bl b=>cases rx;exact SeqAt.EqAt.str_bool a t' b
   | int b=>obtain ⟨t,rfl⟩:=rx;exact SeqAt.EqAt.str_int a t' b t
   | str b=>obtain ⟨t,rfl⟩:=rx;exact SeqAt.EqAt.str_str a t' b t
   | _=>exact absurd (show false=true from fx) Bool.false_ne_true
 | _=>exact absurd (show false=true from fy) Bool.false_ne_true
def XW (x:V)(u:Value):Bool:=match u with
 | .none=>WE .non x
 | .bool b=>WE (.bl b) x
 | .int i _=>WE (.int i) x
 | .str z _=>WE (.str z) x
 | _=>false
theorem ZcK {x y:V}{u:Value}(r:RelV y u)(f:XE y=true):XW x u=WE y x:=by
 cases y with
 | non=>cases r;rfl
 | bl b=>cases r;rfl
 | int i=>obtain ⟨t,rfl⟩:=r;rfl
 | str z=>obtain ⟨t,rfl⟩:=r;rfl
 | _=>exact absurd (show false=true from f) Bool.false_ne_true
theorem Uq {x:V}:∀{xs:List V}{us:List Value},Vals xs us→xs.all XE=true→us.any (XW x)=xs.any fun y=>WE y x
 | _,_,.nil,_=>rfl
 | y::xs,u::us,.cons r t,f=>by
   rw [List.all_cons,Bool.and_eq_true] at f
   rw [List.any_cons,List.any_cons,ZcK r f.1,Uq t f.2]
theorem Wi {A:Around}{s:Shared}{x:V}{v:Value}(rx:RelV x v)(fx:XE x=true):∀{xs:List V}{us:List Value},Vals xs us→xs.all XE=true→∀ u∈us,SeqAt.EqAt A s u v (XW x u)
 | _,_,.nil,_=>fun u hu=>by cases hu
 | y::xs,u::us,.cons r t,f=>fun u' hu=>by
   rw [List.all_cons,Bool.and_eq_true] at f
   rcases List.mem_cons.mp hu with rfl | hu
   · rw [ZcK r f.1];exact Zkm r rx f.1 fx
   · exact Wi rx fx t f.2 u' hu
def XZ (x:V)(xs:List V):Bool:=xs.any fun y=>WE y x
def rIn (K:PySem.W.Frag)(neg:Bool):R2:=fun x y H Q=>∃ p xs,y=.ref p∧(SqL K H p xs∨SqT K H p xs)∧XE x=true∧xs.all XE=true∧Q (.bl (if neg then !XZ x xs else XZ x xs)) H
theorem UY:YG X (compareOp .In) (rIn X.K false):=by
 intro pins s σ H x y v u Q I rx ry h
 obtain ⟨p,xs,rfl,hq,fx,fs,q⟩:=h
 cases ry
 rcases hq with hq | hq
 · obtain ⟨its,r,pl,hz⟩:=I.list hq
   refine SeqAt.in_listAt (XW x) pl.isList (fun w hw=>Wi rx fx r fs w (by simpa using hw)) ⟨.bl _,H,I,rfl,?_⟩
   rw [show its.toArray.any (XW x)=its.any (XW x) by simp,Uq r fs]
   exact q
 · obtain ⟨its,r,pl,hz⟩:=I.tuple hq
   refine SeqAt.in_tupleAt (XW x) pl (fun w hw=>Wi rx fx r fs w (by simpa using hw)) ⟨.bl _,H,I,rfl,?_⟩
   rw [show its.toArray.any (XW x)=its.any (XW x) by simp,Uq r fs]
   exact q
theorem Vj:YG X (compareOp .NotIn) (rIn X.K true):=by
 intro pins s σ H x y v u Q I rx ry h
 obtain ⟨p,xs,rfl,hq,fx,fs,q⟩:=h
 cases ry
 rcases hq with hq | hq
 · obtain ⟨its,r,pl,hz⟩:=I.list hq
   refine SeqAt.notIn_listAt (XW x) pl.isList (fun w hw=>Wi rx fx r fs w (by simpa using hw)) ⟨.bl _,H,I,rfl,?_⟩
   rw [show its.toArray.any (XW x)=its.any (XW x) by simp,Uq r fs]
   exact q
 · obtain ⟨its,r,pl,hz⟩:=I.tuple hq
   refine SeqAt.notIn_tupleAt (XW x) pl (fun w hw=>Wi rx fx r fs w (by simpa using hw)) ⟨.bl _,H,I,rfl,?_⟩
   rw [show its.toArray.any (XW x)=its.any (XW x) by simp,Uq r fs]
   exact q
theorem ZJ:YQ X (.builtin "len") (fun xs H Q=>∃ p ys,xs=[.ref p]∧(SqL X.K H p ys∨SqT X.K H p ys)∧Q (.int ys.length) H):=by
 intro pins s σ H xs us Q I r h
 obtain ⟨p,ys,rfl,hq,q⟩:=h
 obtain ⟨u,rfl,rx⟩:=YS r
 cases rx
 have hn:=Wv
 rcases hq with hq | hq
 · obtain ⟨its,r',pl,hz⟩:=I.list hq
   have hlen:=r'.length
   exact Calls.call_len_list pl.isList (by simp only [List.size_toArray]<;>omega) ⟨.int ys.length,H,I.tok _,⟨s.toks+1,by rw [List.size_toArray,hlen]⟩,q⟩
 · obtain ⟨its,r',pl,hz⟩:=I.tuple hq
   have hlen:=r'.length
   exact len_tuple pl (by simp only [List.size_toArray]<;>omega) ⟨.int ys.length,H,I.tok _,⟨s.toks+1,by rw [List.size_toArray,hlen]⟩,q⟩
theorem YY:YQ X (.builtin "len") (fun xs H Q=>∃ z,xs=[.str z]∧z.length≤sizeLine∧Q (.int z.length) H):=by
 intro pins s σ H xs us Q I r h
 obtain ⟨z,rfl,hz,q⟩:=h
 obtain ⟨u,rfl,t,rfl⟩:=YS r
 have hn:=Wv
 exact len_str (by omega) ⟨.int z.length,H,I.tok _,⟨_,rfl⟩,q⟩
theorem Xe:YQ X (.type "tuple") (fun xs H Q=>∃ p ys,xs=[.ref p]∧((SqL X.K H p ys∧∀ l,H l=none→Q (.ref l) (upd H l (.tup ys)))∨(SqT X.K H p ys∧Q (.ref p) H))):=by
 intro pins s σ H xs us Q I r h
 obtain ⟨p,ys,rfl,h⟩:=h
 obtain ⟨u,rfl,rx⟩:=YS r
 cases rx
 rcases h with ⟨hq,q⟩ | ⟨hq,q⟩
 · obtain ⟨its,r',pl,hz⟩:=I.list hq
   have hlen:=r'.length
   refine call_tuple_list pl.isList (fun h' kp=>?_) (by simp only [List.size_toArray]<;>omega)
   have I1:Inv X pins σ H { s with heap:=h' }:=I.kept (t':=s.toks) kp
   have I2:Inv X pins σ (upd H h'.objs.size (.tup ys)) { s with heap:=h'.push { cls:=.type "tuple",data:=.seq its.toArray } } :=
     I1.laid (t':=s.toks) (fun b o e=>Heap.get?_push_of_some _ e) (Nat.le_refl _) (show ObjOk X.prog X.w _ _ _ (.tup ys) from ⟨hz,its,r',IsTup.new _ _⟩)
   exact ⟨.ref h'.objs.size,_,I2,rfl,q _ (I1.hok.fresh (Nat.le_refl _))⟩
 · obtain ⟨its,r',pl,hz⟩:=I.tuple hq
   exact call_tuple_same pl ⟨.ref p,H,I,rfl,q⟩
def tyV (K:PySem.W.Frag)(T:String)(x:V)(H:Hp):Prop:=match x with
 | .str _=>T="str"
 | .int _=>T="int"
 | .ref p=>(T="list"∧∃ xs,SqL K H p xs)∨(T="tuple"∧∃ o,K.lookup p=some o∧o.cls=.type "tuple"∧o.dict=none) ∨
     (T="dict"∧((∃ kvs,H p=some (.dK kvs))∨∃ kvs,H p=some (.dT kvs)))∨(T="set"∧∃ S n,H p=some (.set S n))
 | _=>False
theorem Zgm {pins:List (Addr×Obj)}{σ:St}{H:Hp}{s:Shared}{T:String}{x:V}{v:Value}(I:Inv X pins σ H s)(r:RelV x v)(ty:tyV X.K T x H) :
   s.TypeIs v T∧∀ a,v=.ref a→∃ ob,s.heap.get? a=some ob∧ob.dict=none:=by
 cases x with
 | str z =>
   obtain ⟨t,rfl⟩:=r
   cases (show T="str" from ty)
   exact ⟨typeIs_str s z t,fun _ e=>nomatch e⟩
 | int i =>
   obtain ⟨t,rfl⟩:=r
   cases (show T="int" from ty)
   exact ⟨typeIs_int s i t,fun _ e=>nomatch e⟩
 | ref p =>
   cases r
   rcases ty with ⟨rfl,xs,hq⟩ | ⟨rfl,o,hk,hc,hd⟩ | ⟨rfl,hk⟩ | ⟨rfl,S,n,hk⟩
   · obtain ⟨its,_,pl,_⟩:=I.list hq
     refine ⟨pl.isList.typeIs,fun a e=>?_⟩
     cases e
     obtain ⟨o,n,e,c,hd,_⟩:=pl
     exact ⟨o,e,hd⟩
   · refine ⟨⟨o,I.kIn p o hk,hc⟩,fun a e=>?_⟩
     cases e
     exact ⟨o,I.kIn _ o hk,hd⟩
   · have z:∃ o,s.heap.get? p=some o∧o.ExactDict:=by
       rcases hk with ⟨kvs,hk⟩ | ⟨kvs,hk⟩
       · obtain ⟨_,_,_,_,o,_,_,e,ex,_⟩:=I.hok p _ hk
         exact ⟨o,e,ex⟩
       · obtain ⟨_,_,_,_,o,_,_,e,ex,_⟩:=I.hok p _ hk
         exact ⟨o,e,ex⟩
     obtain ⟨o,e,ex⟩:=z
     refine ⟨⟨o,e,ex.1⟩,fun a e2=>?_⟩
     cases e2
     exact ⟨o,e,ex.2.1⟩
   · obtain ⟨o,_,_,_,e,ex,_⟩:=I.hok p _ hk
     refine ⟨⟨o,e,ex.1⟩,fun a e2=>?_⟩
     cases e2
     exact ⟨o,e,ex.2.1⟩
 | _=>exact False.elim ty
def tBM (K:PySem.W.Frag)(T:String)(r:V→List V→Hp→VK→Prop)(to:TE)(t:TA):TE:=fun σ H Q=>to σ H fun x H1=>tyV K T x H1∧t σ H1 fun xs H2=>r x xs H2 Q
variable {o e:Expr}{es:List Expr}{to:TE}{t:TA}{name:Str}{apos cpos:Pos}{T id:String}{r:V→List V→Hp→VK→Prop}
theorem Yd (pa:PlainAttrs T)(slot:Slot T name id)(hty:typeOf (.builtin id)=pure (.type "method_descriptor"))(hm:MtR X id r)(ho:PE X o to)(ha:PA X (e::es) t)
   (hbase:attributeBase o name X.env (eval o X.env)=eval o X.env:=by rfl)
   (hfew:((backTo cpos (starEach (e::es) X.env)).all (fun x=>!x.1)&&(backToKw cpos (keywordEach [] X.env)).all (fun x=>x.1.isSome)
     && decide ((e::es).length+([]:List Keyword).length+(if ([]:List Keyword).isEmpty then 0 else 1) < 30))=true:=by rfl)
   (hline:(apos.endLine == cpos.line)=true:=by rfl) (hs:starEach (e::es) X.env=(false,eval e X.env)::starEach es X.env:=by rfl) (hplain:(backTo cpos (starEach es X.env)).any (·.1)=false:=by rfl) :
   PE X (.Call (.Attribute o name apos) (e::es) [] cpos) (tBM X.K T r to t):=by
 intro pins s σ H Q I h
 refine wpAny_Call_method_late hbase hfew hline rfl (Zm (ho pins s σ H _ I h) fun v s1 ⟨x,H1,I1,r1,ty,q1⟩=>?_)
 obtain ⟨h1,h2⟩:=Zgm I1 r1 ty
 refine ⟨T,id,pa,slot,hty,h1,h2,?_⟩
 have hA:=ha cpos pins s1 σ H1 _ I1 q1
 rw [hs] at hA ⊢
 refine Calls.callWith_builtin (by show (false || (backTo cpos (starEach es X.env)).any (·.1))=false;rw [hplain]<;>rfl) (Calls.evalArgs_plain ?_)
 exact Zm hA fun us s2 ⟨vs,H2,I2,r2,q2⟩=>hm pins s2 σ H2 x vs v us Q I2 r1 r2 q2
end
end L2
namespace L2
open PySem PySem.Spec PyProof.Rows
def MtM (X:Cx)(id:String)(r:V→List V→Hp→VK→Prop):Prop :=
 ∀ (pins:List (Addr×Obj)) (s:Shared) (σ:St) (H:Hp) (x:V) (xs:List V) (v:Value) (us:List Value) (Q:VK),Inv X pins σ H s→RelV x v→Vals xs us→r x xs H Q →
   wpAny (model X.prog X.w) X.A (call (.builtin id) (v::us)) (EP X pins σ Q) X.xe s
theorem Vals.one:∀{x:V}{us:List Value},Vals [x] us→∃ u,us=[u]∧RelV x u
 | _,_,.cons r .nil=>⟨_,rfl,r⟩
theorem Vals.reverse {xs:List V}{us:List Value}(h:Vals xs us):Vals xs.reverse us.reverse:=by
 induction h with
 | nil=>exact .nil
 | cons r t ih=>rw [List.reverse_cons,List.reverse_cons];exact Vals.append ih (.cons r .nil)
section
variable {X:Cx}{pins:List (Addr×Obj)}{σ:St}{H:Hp}{s:Shared}{l b:Addr}{xs ys zs:List V}
theorem Inv.lset {its its':List Value}{n:Nat}{f:Array Value→Array Value}{t':Nat}(I:Inv X pins σ H s)(hH:H l=some (.lst xs))
   (e:s.heap.get? l=some { cls:=.type "list",data:=.seq its.toArray n }) (hf:f its.toArray=its'.toArray) (hv:Vals ys its') (hz:ys.length≤sizeLine) :
   Inv X pins σ (upd H l (.lst ys)) { s with heap:=s.heap.update l (Obj.mapSeq f),toks:=t' }:=by
 have q:=PySem.IsL.update e f
 rw [hf] at q
 refine I.write (x:=l) (e:=l) (by rw [hH];exact trivial) (.inl rfl) (fun b' u hb hu=>(Heap.get?_update_other s.heap (Obj.mapSeq f) (Ne.symm hb)).trans hu) ⟨_,q⟩ ?_
 exact ⟨hz,its',_,hv,q⟩
theorem Inv.lnew {its:List Value}{t':Nat}(I:Inv X pins σ H s)(hv:Vals ys its)(hz:ys.length≤sizeLine) :
   Inv X pins σ (upd H s.heap.objs.size (.lst ys)) { s with heap:=s.heap.push { cls:=.type "list",data:=.seq its.toArray },toks:=t' } :=
 I.laid (fun _ _ q=>Heap.get?_push_of_some _ q) (Nat.le_refl _) ⟨hz,its,0,hv,Heap.get?_push_size _ rfl⟩
theorem Inv.fresh (I:Inv X pins σ H s):H s.heap.objs.size=none:=I.hok.fresh (Nat.le_refl _)
theorem Inv.lstM (I:Inv X pins σ H s)(hH:H l=some (.lst xs)):xs.length≤sizeLine∧∃ (its:List Value) (n:Nat),Vals xs its∧xs.length=its.length∧s.heap.get? l=some { cls:=.type "list",data:=.seq its.toArray n }:=by
 obtain ⟨z,its,n,r,e⟩:=I.hok l _ hH
 exact ⟨z,its,n,r,r.length,e⟩
theorem ZgE {n:Nat}(h:n≤sizeLine):Builtin.List.listTooLong n=false:=by
 unfold Builtin.List.listTooLong
 exact decide_eq_false (by omega)
end
section
variable {X:Cx}
def Zjh:V→List V→Hp→VK→Prop:=fun x vs H Q=>∃ l xs y,x=.ref l∧vs=[y]∧H l=some (.lst xs)∧xs.length < sizeLine∧Q .non (upd H l (.lst (xs++[y])))
theorem Yk:MtM X "list.append" Zjh:=by
 intro pins s σ H x vs v us Q I rx rv h
 obtain ⟨l,xs,y,rfl,rfl,hH,hz,q⟩:=h
 cases rx
 obtain ⟨u,rfl,ru⟩:=rv.one
 obtain ⟨z,its,n,r,hl,e⟩:=I.lstM hH
 refine call_meets F.slot_list_append ⟨_,e,rfl⟩ F.entry_list_append (F.args_list_append_2 _ _) (PySem.list_append l its.toArray n u (by rw [List.size_toArray];omega)) ⟨e,?_⟩
 refine ⟨.non,_,I.lset (its':=its++[u]) hH e (by simp) (r.append (.cons ru .nil)) ?_,rfl,q⟩
 rw [List.length_append,List.length_singleton]
 omega
def Zji:V→List V→Hp→VK→Prop:=fun x vs H Q=>∃ l b xs zs,x=.ref l∧vs=[.ref b]∧H l=some (.lst xs)∧H b=some (.lst zs)∧xs.length+zs.length≤sizeLine∧Q .non (upd H l (.lst (xs++zs)))
theorem ZbA:MtM X "list.extend" Zji:=by
 intro pins s σ H x vs v us Q I rx rv h
 obtain ⟨l,b,xs,zs,rfl,rfl,hH,hB,hz,q⟩:=h
 cases rx
 obtain ⟨u,rfl,ru⟩:=rv.one
 cases ru
 obtain ⟨z,its,n,r,hl,e⟩:=I.lstM hH
 obtain ⟨z2,its2,n2,r2,hl2,e2⟩:=I.lstM hB
 have hsz:its.toArray.size+its2.toArray.size≤sizeLine:=by rw [List.size_toArray,List.size_toArray];omega
 have hlong:¬ (!its.toArray.isEmpty&&Builtin.List.listTooLong (its.toArray.size+its2.toArray.size))=true:=by
   rw [ZgE hsz,Bool.and_false]
   exact Bool.false_ne_true
 refine call_meets F.slot_list_extend ⟨_,e,rfl⟩ F.entry_list_extend (F.args_list_extend_2 _ _)
   (AutoSeq1.list_extend_list_list_0 l its.toArray n b its2.toArray n2 hlong (by rw [List.size_toArray];omega) (by omega)) ⟨e,e2,?_⟩
 refine ⟨.non,_,I.lset (its':=its++its2) hH e (by simp) (r.append r2) ?_,rfl,q⟩
 rw [List.length_append]
 omega
def rCat:R2:=fun x y H Q=>∃ l b xs zs,x=.ref l∧y=.ref b∧H l=some (.lst xs)∧H b=some (.lst zs)∧xs.length+zs.length≤sizeLine∧∀ p,H p=none→Q (.ref p) (upd H p (.lst (xs++zs)))
theorem WU:YG X (binaryOp .Add) rCat:=by
 intro pins s σ H x y v u Q I rx ry h
 obtain ⟨l,b,xs,zs,rfl,rfl,hH,hB,hz,q⟩:=h
 cases rx
 cases ry
 obtain ⟨z,its,n,r,hl,e⟩:=I.lstM hH
 obtain ⟨z2,its2,n2,r2,hl2,e2⟩:=I.lstM hB
 refine PySem.P.add_list e e2 ?_ (by rw [List.size_toArray,List.size_toArray];omega)
 have ea:its.toArray++its2.toArray=(its++its2).toArray:=by simp
 rw [ea]
 exact ⟨.ref _,_,I.lnew (t':=s.toks) (r.append r2) (by rw [List.length_append];omega),rfl,q _ I.fresh⟩
end
section
variable {prog:Program}{w:World}{A:Around}{E:Value→Shared→Prop}{s:Shared}
end
section
variable {X:Cx}
end
end L2
namespace Att
open PySem PySem.W PySem.Calls PyProof.Rows
theorem Zao {P:Params}{h:Heap}:∀(ns:List Int)(vs:List Value),WellAll P h vs (ns.map WData.int)→IntsAre vs ns:=by
 intro ns
 induction ns with
 | nil =>
   intro vs w
   rw [List.map_nil] at w
   cases w
   exact .nil
 | cons n ns ih =>
   intro vs w
   rw [List.map_cons] at w
   cases w with
   | cons a b =>
     cases a
     exact .cons _ _ (ih _ b)
theorem Zfa {l:OpenLaw}{n:Nat}(hn:l.most=some n){P:Params}{h:Heap}{args:List WData}{vals:List Value}
   (hpre:l.row.toRowW.claim.pre args=true) (hwl:WellAll P h vals args) :
   ∃ a vs ns,vals=[Value.ref a]∧args=[WData.list (ns.map WData.int)]∧h.get? a=some { cls:=.type "list",data:=.seq vs.toArray }∧IntsAre vs ns∧ns.length≤n:=by
 have hsh:WShape.hasAll [] args [.list .int]=true:=(pre_splitW hpre).1
 have hc:l.pre.holds [] { args:=args }=true:=(pre_splitW hpre).2
 obtain ⟨d,r,rfl,h1,h2⟩:=hasAllW_cons hsh
 obtain rfl:=hasAllW_nil h2
 obtain ⟨xs,rfl,h3⟩:=hasW_list h1
 obtain ⟨ns,rfl⟩:=items_int h3
 have hlen:ns.length≤n:=by
   unfold OpenLaw.pre at hc
   have h4:(WTm.not (.lt (.lit (.int (n:Int))) (.len (.arg 0)))).holds [] { args:=[.list (ns.map .int)] }=true:=by
     have h4:=(holds_andW hc).1
     rw [hn] at h4
     exact h4
   have h5:=condW_of h4 (w_not (w_lt w_lit (w_len_list (w_arg rfl))))
   rw [List.length_map] at h5
   refine Nat.le_of_not_lt fun q=>?_
   have q':(n:Int) < ((ns.length:Nat):Int):=by omega
   first
     | (rw [decide_eq_true q'] at h5;exact absurd h5 (by decide))
     | (simp at h5;omega)
 cases hwl with
 | cons w1 w2 =>
   cases w2
   cases w1 with
   | list ho hall=>exact ⟨_,_,ns,rfl,rfl,ho,Zao ns _ hall,hlen⟩
theorem Zfi (l:OpenLaw)(args:List WData):l.row.toRowW.claim.post args (.bool true) args=true :=
 postW_of (r:=l.row.toRowW) (X:=(true == true))
   (show WShape.has [] (.bool true) .bool=true by first | rfl | decide | simp [WShape.has,WShape.arms,WShape.armsAll])
   (show (WTm.eq .res (.lit (.bool true))).value [] { args:=args,res:=some (.bool true),after:=args }=some (.bool (true == true)) from w_eq_bool (w_res rfl) w_lit) rfl
theorem attach_call {l:OpenLaw}{n:Nat}{q:Program}{loose:List Str}{XP:(Str→Option Value)→Heap→Prop}{YP:World→Heap→Prop}{d:DefRec}
   (hn:l.most=some n) (hdf:d.params.defaults=[])
   (call:∀ (w:World) (s₀ s₁:Shared) (mg mb:Str→Option Value) (fa:Addr) (o:Obj) (pm cd doc:Value) (a:Addr) (vs:List Value) (ns:List Int),
     Ground q loose [] XP w s₀ mg mb s₁.heap→YP w s₁.heap →
     s₁.heap.get? fa=some o→o.data=.func (docDef d.name d.params d.body d.scope pm cd doc)→s₁.heap.CodeRec cd d.name→mg d.name=some (.ref fa) →
     s₁.heap.get? a=some { cls:=.type "list",data:=.seq vs.toArray }→IntsAre vs ns→ns.length≤n→s₁.gens=#[] →
     codeAny (model l.prog w) callerA (.call (.ref fa) ⟨[.ref a],[]⟩) (fun r s'=>r=.ok (.ret (.bool true))∧OldK s₁.heap s'.heap∧s'.os=s₁.os∧AllBare s'.gens) s₁) :
   WalkO q loose XP YP l.row.toRowW d [] (fun f vs=>PySem.call f vs):=by
 intro w s₀ s₁ mg mb G Y fa o pm cd doc dV kV ho hd hcd hD hmg hg args vals as hpre hlay hrd hwl hlo
 obtain rfl:dV=.none:=Dflts.none hD hdf
 obtain rfl:kV=.none:=Dflts.noKw hD
 obtain ⟨a,vs,ns,rfl,rfl,hobj,hints,hlen⟩:=Zfa hn hpre hwl
 refine enter_call (codeAny_mono (call w s₀ s₁ mg mb fa o pm cd doc a vs ns G Y ho (fd_plain hd) hcd hmg hobj hints hlen hg) fun r s' hq=>?_)
 obtain ⟨rfl,h2,h3,h4⟩:=hq
 exact ⟨.inl ⟨.bool true,.bool true,[],rfl,fun _=>rfl,.bool true,Zfi l _,fun _=>⟨List.Pairwise.nil,fun _ hm=>(nomatch hm)⟩⟩,h2,h3,h4⟩
section
variable {prog:Program}{w:World}{A:Around}{E:Value→Shared→Prop}{s:Shared}{K:Frag}
end
end Att
namespace L2
open PySem PySem.Spec PyProof.Rows
theorem Zbh:∀{vs:List Value}{ns:List Int},IntsAre vs ns→Vals (ns.map V.int) vs
 | _,_,.nil=>.nil
 | _,_,.cons n t h=>.cons ⟨t,rfl⟩ (Zbh h)
end L2
namespace L2
open PySem PySem.Spec PyProof.Rows
end L2
namespace L2
open PySem PySem.Spec PyProof.Rows
def ZaJ (s:Stmt):Arguments:=match s with
 | .FunctionDef _ a _ _ _ _ _ _ _ _=>a
 | _=>{ posonlyargs:=[],args:=[],vararg:=none,kwonlyargs:=[],kw_defaults:=[],kwarg:=none,defaults:=[] }
def WK (s:Stmt):List Stmt:=match s with
 | .FunctionDef _ _ b _ _ _ _ _ _ _=>b
 | _=>[]
def Zj (s:Stmt):Scope:=match s with
 | .FunctionDef _ _ _ _ _ _ sc _ _ _=>sc
 | _=>{ kind:=.function,names:=[],isGenerator:=false,isCoroutine:=false }
abbrev ZR:WZ:=fun _ _ _ _ _ _=>False
abbrev E0:XK:=fun _ _ _=>False
theorem Zll {X:Cx}:ZcE ZR X E0:=fun _ _ _ _ _ _ _ h=>h.elim
structure Fun (K:PySem.W.Frag)(x qual:Str)(st:Stmt)(f:Addr)(fd:FuncData):Prop where
 ex:∃ (oc:Value) (od:Option Addr) (kV doc pm:Value) (an:Option Addr) (cdv ct:Value) (osl:Array (Option Value)),
   fd=PySem.W.fnOf x qual (ZaJ st) (WK st) (Zj st) .none kV doc pm an cdv ct∧K.lookup f=some ⟨oc,od,.func fd,osl⟩∧PySem.W.codeIn K cdv qual=true
 kp:PySem.W.keepIn K (.ref f)=true
section
variable {P:Program}{w:World}{K:PySem.W.Frag}{mg:Str→Option Value}{base:Heap}
theorem Fun.ok {x qual:Str}{st:Stmt}{f:Addr}{fd:FuncData}{N ps:List Str}{k:Nat}{sp:Sp}(F:Fun K x qual st f fd)(S:Zt N ps (Zj st))(len:∀ vs H Q E,sp vs H Q E→vs.length=ps.length)
   (hbody:∀ (cdv:Value) (A:Around) (outer:List Env) (s:Shared) (H:Hp) (vs:List V) (Q:VK) (E:XK),Room k (A.deeper (envOfC qual (Zj st) s.heap.objs.size f cdv))→sp vs H Q E →
     ∃ t,PSs (Uf ZR P w K mg base N qual (Zj st) f cdv A outer s H E).nox (WK st) t∧t { nx:=fun _ H'=>Q .non H',rt:=Q } (start N vs) H):FnOk P w K mg base ZR (k+1) f fd ps sp:=by
 obtain ⟨oc,od,kV,doc,pm,an,cdv,ct,osl,rfl,lk,hcd⟩:=F.ex
 refine Zlp lk hcd S len fun A outer s H vs Q E hr hsp=>?_
 obtain ⟨t,h,q⟩:=hbody cdv A outer s H vs Q E hr hsp
 exact ⟨t,h.nox,q⟩
theorem Fun.binds {x qual:Str}{st:Stmt}{f:Addr}{fd:FuncData}{ps:List Str}(F:Fun K x qual st f fd)
   (h:∀ (kV doc pm:Value) (an:Option Addr) (cdv ct:Value) (us:List Value),us.length=ps.length→bindArgs (PySem.W.fnOf x qual (ZaJ st) (WK st) (Zj st) .none kV doc pm an cdv ct) ⟨us,[]⟩=pure (ps.zip us)):Binds K fd ps []:=by
 obtain ⟨oc,od,kV,doc,pm,an,cdv,ct,osl,rfl,lk,hcd⟩:=F.ex
 exact .all (h kV doc pm an cdv ct)
end
theorem ZeI {A:Around}{k:Nat}(hr:Room k A):A.units+1 < cLine:=Nat.lt_of_le_of_lt (Nat.add_le_add_left (by decide:1≤64) _) hr.units
theorem Zfv {n:Nat}(h:n≤1000):n < sizeLine:=Nat.lt_of_le_of_lt h (by decide)
section
variable {X:Cx}
theorem pv (i:Nat){x:Str}{pos:Pos}(hN:X.N[i]?=some x:=by rfl)(hv:Vis X.env.scope x:=by first | exact Or.inl rfl | exact Or.inr (Or.inl rfl) | exact Or.inr (Or.inr rfl))(hd:(x == ("__debug__":Str))=false:=by decide)
 (hcd:(x == ("__classdict__":Str))=false:=by decide):PE X (.Name x pos) (Xr i):=Zkh hN hv hd hcd
end
theorem ZI {A B:Prop}(h:B):if false=true then A else B:=by
 rw [if_neg Bool.false_ne_true]
 exact h
theorem ZQ {A B:Prop}(h:A):if true=true then A else B:=by
 rw [if_pos rfl]
 exact h
theorem WC {c A B:Prop}[Decidable c](h1:c→A)(h2:¬ c→B):if c then A else B:=by
 by_cases h:c
 · rw [if_pos h]
   exact h1 h
 · rw [if_neg h]
   exact h2 h
def Same (H H':Hp):Prop:=∀ b o,H b=some o→H' b=some o
theorem Same.refl (H:Hp):Same H H:=fun _ _ h=>h
theorem Same.trans {H H1 H2:Hp}(a:Same H H1)(b:Same H1 H2):Same H H2:=fun c o h=>b c o (a c o h)
end L2
namespace L2
open PySem PySem.Spec PyProof.Rows
section
variable {κ:Type}[DecidableEq κ]
def Yi (kvs:List (κ×V))(k:κ):Option V:=(kvs.find? fun kv=>decide (kv.1=k)).map (·.2)
def XH (kvs:List (κ×V))(k:κ)(v:V):List (κ×V) :=
 if (kvs.any fun kv=>decide (kv.1=k))=true then kvs.map (fun kv=>if kv.1=k then (kv.1,v) else kv) else kvs++[(k,v)]
def Xj (kvs:List (κ×V))(k:κ):List (κ×V):=kvs.filter fun kv=>decide (kv.1≠k)
theorem Yx {p:κ×V}{r:List (κ×V)}{k:κ}(e:p.1=k):Yi (p::r) k=some p.2:=by simp [Yi,List.find?_cons,e]
theorem Yu {p:κ×V}{r:List (κ×V)}{k:κ}(e:¬ p.1=k):Yi (p::r) k=Yi r k:=by simp [Yi,List.find?_cons,e]
theorem Uu (k:κ):∀ kvs:List (κ×V),(kvs.any fun kv=>decide (kv.1=k))=(Yi kvs k).isSome
 | []=>rfl
 | p::r=>by
   rw [List.any_cons]
   by_cases e:p.1=k
   · simp only [Yx e,decide_eq_true e,Bool.true_or,Option.isSome_some]
   · rw [Yu e,decide_eq_false e,Bool.false_or];exact Uu k r
theorem Zcu (k j:κ)(y:V):∀ kvs:List (κ×V),Yi (kvs.map fun kv=>if kv.1=k then (kv.1,y) else kv) j=(Yi kvs j).map fun x=>if j=k then y else x
 | []=>rfl
 | p :: r=>by
   have ih:=Zcu k j y r
   rw [List.map_cons]
   by_cases h:p.1=k
   · rw [if_pos h]
     by_cases e:p.1=j
     · rw [Yx (p:=(p.1,y)) e,Yx e,Option.map_some,if_pos (e.symm.trans h)]
     · rw [Yu (p:=(p.1,y)) e,Yu e,ih]
   · rw [if_neg h]
     by_cases e:p.1=j
     · rw [Yx (p:=p) e,Yx e,Option.map_some,if_neg (fun z=>h (e.trans z))]
     · rw [Yu (p:=p) e,Yu e,ih]
theorem Zbw (k j:κ)(y:V):∀ kvs:List (κ×V),Yi kvs k=none→Yi (kvs++[(k,y)]) j=if j=k then some y else Yi kvs j
 | [],_=>by
   by_cases e:k=j
   · rw [if_pos e.symm];exact Yx (p:=(k,y)) e
   · rw [if_neg (fun z=>e z.symm)];exact Yu (p:=(k,y)) e
 | p::r,hn=>by
   rw [List.cons_append]
   have hk:¬ p.1=k:=fun z=>by rw [Yx z] at hn;cases hn
   rw [Yu hk] at hn
   have ih:=Zbw k j y r hn
   by_cases e:p.1=j
   · rw [Yx e,Yx e,if_neg (fun z=>hk (e.trans z))]
   · rw [Yu e,Yu e,ih]
theorem ZgT (kvs:List (κ×V))(k j:κ)(y:V):Yi (XH kvs k y) j=if j=k then some y else Yi kvs j:=by
 unfold XH
 by_cases a:(kvs.any fun kv=>decide (kv.1=k))=true
 · rw [if_pos a,Zcu]
   rw [Uu] at a
   by_cases e:j=k
   · obtain ⟨x,hx⟩:=Option.isSome_iff_exists.mp a
     rw [if_pos e,e,hx,Option.map_some,if_pos rfl]
   · rw [if_neg e]
     cases Yi kvs j with
     | none=>rfl
     | some x=>rw [Option.map_some,if_neg e]
 · rw [if_neg a]
   refine Zbw k j y kvs ?_
   rw [Uu] at a
   cases q:Yi kvs k with
   | none=>rfl
   | some x=>rw [q] at a;exact (a rfl).elim
theorem VB (kvs:List (κ×V))(k:κ)(v:V):(XH kvs k v).length≤kvs.length+1:=by
 unfold XH
 split
 · rw [List.length_map];omega
 · rw [List.length_append,List.length_cons,List.length_nil];omega
theorem RelO.isSome_eq {o:Option V}{u:Option Value}(r:RelO o u):o.isSome=u.isSome:=by
 cases o with
 | none=>cases u with
   | none=>rfl
   | some _=>exact (show False from r).elim
 | some _=>cases u with
   | none=>exact (show False from r).elim
   | some _=>rfl
theorem RelO.getD {o:Option V}{u:Option Value}{d:V}{d':Value}(r:RelO o u)(rd:RelV d d'):RelV (o.getD d) (u.getD d'):=by
 cases o with
 | none=>cases u with
   | none=>exact rd
   | some _=>exact (show False from r).elim
 | some _=>cases u with
   | none=>exact (show False from r).elim
   | some _=>exact r
theorem KV.val {kvs:List (κ×V)}{vs:List (κ×Value)}(r:KV kvs vs)(k:κ):RelO (Yi kvs k) (valueAt vs k):=by
 unfold KV at r
 induction r with
 | nil=>exact True.intro
 | @cons p q ps qs h t ih =>
   obtain ⟨h1,h2⟩:=h
   by_cases e:p.1=k
   · have e':q.1=k:=h1.symm.trans e
     have b:valueAt (q::qs) k=some q.2:=by simp [valueAt,List.find?_cons,e']
     rw [Yx e,b];exact h2
   · have e':¬ q.1=k:=fun z=>e (h1.trans z)
     have b:valueAt (q::qs) k=valueAt qs k:=by simp [valueAt,List.find?_cons,e']
     rw [Yu e,b];exact ih
theorem KV.any {kvs:List (κ×V)}{vs:List (κ×Value)}(r:KV kvs vs)(k:κ):(kvs.any fun kv=>decide (kv.1=k))=vs.any fun kv=>decide (kv.1=k):=by
 unfold KV at r
 induction r with
 | nil=>rfl
 | cons h t ih=>rw [List.any_cons,List.any_cons,ih,h.1]
theorem KV.repl {kvs:List (κ×V)}{vs:List (κ×Value)}(r:KV kvs vs)(k:κ){y:V}{u:Value}(ry:RelV y u) :
   KV (kvs.map fun kv=>if kv.1=k then (kv.1,y) else kv) (vs.map fun kv=>if kv.1=k then (kv.1,u) else kv):=by
 unfold KV at r ⊢
 induction r with
 | nil=>exact .nil
 | @cons p q ps qs h t ih =>
   rw [List.map_cons,List.map_cons]
   refine .cons ?_ ih
   obtain ⟨h1,h2⟩:=h
   by_cases e:p.1=k
   · rw [if_pos e,if_pos (h1.symm.trans e)];exact ⟨h1,ry⟩
   · rw [if_neg e,if_neg (fun z=>e (h1.trans z))];exact ⟨h1,h2⟩
theorem KV.put {kvs:List (κ×V)}{vs:List (κ×Value)}(r:KV kvs vs)(k:κ){y:V}{u:Value}(ry:RelV y u):KV (XH kvs k y) (stored vs k u):=by
 unfold XH stored
 rw [r.any k]
 by_cases e:(vs.any fun kv=>decide (kv.1=k))=true
 · rw [if_pos e,if_pos e];exact r.repl k ry
 · rw [if_neg e,if_neg e];exact Paired.snoc r ⟨rfl,ry⟩
theorem KV.drop {kvs:List (κ×V)}{vs:List (κ×Value)}(r:KV kvs vs)(k:κ):KV (Xj kvs k) (without vs k):=by
 unfold KV at r ⊢
 unfold Xj without
 induction r with
 | nil=>exact .nil
 | @cons p q ps qs h t ih =>
   obtain ⟨h1,h2⟩:=h
   rw [List.filter_cons,List.filter_cons]
   by_cases e:p.1=k
   · have a:¬ decide (p.1≠k)=true:=by simp [e]
     have b:¬ decide (q.1≠k)=true:=by simp [h1.symm.trans e]
     rw [if_neg a,if_neg b];exact ih
   · have e':¬ q.1=k:=fun z=>e (h1.trans z)
     have a:decide (p.1≠k)=true:=by simp [e]
     have b:decide (q.1≠k)=true:=by simp [e']
     rw [if_pos a,if_pos b];exact .cons ⟨h1,h2⟩ ih
theorem KV.length {kvs:List (κ×V)}{vs:List (κ×Value)}(r:KV kvs vs):kvs.length=vs.length:=Paired.length r
theorem Zic (kvs:List (κ×V))(k:κ):(Xj kvs k).length≤kvs.length:=List.length_filter_le _ _
end
theorem Zaz {P:Program}{w:World}{k:ZU}{u:Value}(r:RelV (kV k) u):(Ym P w).is k u=true:=by
 cases k with
 | inl i=>obtain ⟨t,e⟩:=(show ∃ t,u=Value.int i t from r);subst e;exact Zdc P w i t
 | inr x=>obtain ⟨t,e⟩:=(show ∃ t,u=Value.str x t from r);subst e;exact Zdk P w x t
theorem Zbj {P:Program}{w:World}:∀{ks:List ZU}{us:List Value},Vals (ks.map kV) us→ItemsAre (Ym P w) ks us
 | [],_,r=>by rw [List.map_nil] at r;cases r;exact .nil
 | k::ks,_,r=>by
   rw [List.map_cons] at r
   cases r with
   | cons h t=>exact .cons (Zaz h) (Zbj t)
abbrev KT (H:Hp):List (List ZU×V)→List (List ZU×Addr×Value)→Prop:=Paired fun p q=>p.1=q.1∧H q.2.1=some (.tup (p.1.map kV))∧RelV p.2 q.2.2
theorem KT.val {H:Hp}{kvs:List (List ZU×V)}{xs:List (List ZU×Addr×Value)}(r:KT H kvs xs)(k:List ZU):RelO (Yi kvs k) ((atKey xs k).map (·.2)):=by
 induction r with
 | nil=>exact True.intro
 | @cons p q ps qs h t ih =>
   obtain ⟨h1,_,h2⟩:=h
   by_cases e:p.1=k
   · have e':q.1=k:=h1.symm.trans e
     have b:atKey (q::qs) k=some q.2:=by simp [atKey,List.find?_cons,e']
     rw [Yx e,b];exact h2
   · have e':¬ q.1=k:=fun z=>e (h1.trans z)
     have b:atKey (q::qs) k=atKey qs k:=by simp [atKey,List.find?_cons,e']
     rw [Yu e,b];exact ih
theorem KT.repl {H:Hp}{kvs:List (List ZU×V)}{xs:List (List ZU×Addr×Value)}(r:KT H kvs xs)(k:List ZU){y:V}{u:Value}(ry:RelV y u) :
   KT H (kvs.map fun kv=>if kv.1=k then (kv.1,y) else kv) (xs.map (putAt k u)):=by
 induction r with
 | nil=>exact .nil
 | @cons p q ps qs h t ih =>
   rw [List.map_cons,List.map_cons]
   refine .cons ?_ ih
   obtain ⟨h1,h2,h3⟩:=h
   unfold putAt
   by_cases e:p.1=k
   · rw [if_pos e,if_pos (h1.symm.trans e)];exact ⟨h1,h2,ry⟩
   · rw [if_neg e,if_neg (fun z=>e (h1.trans z))];exact ⟨h1,h2,h3⟩
theorem KT.put {H:Hp}{kvs:List (List ZU×V)}{xs:List (List ZU×Addr×Value)}(r:KT H kvs xs)(k:List ZU){b:Addr}{y:V}{u:Value}(hb:H b=some (.tup (k.map kV)))(ry:RelV y u) :
   KT H (XH kvs k y) (storedH xs k b u):=by
 have e:(kvs.any fun kv=>decide (kv.1=k))=(atKey xs k).isSome:=by
   rw [Uu,(r.val k).isSome_eq,Option.isSome_map]
 unfold XH storedH
 rw [e]
 by_cases q:(atKey xs k).isSome=true
 · rw [if_pos q,if_pos q];exact r.repl k ry
 · rw [if_neg q,if_neg q];exact Paired.snoc r ⟨rfl,hb,ry⟩
theorem KT.keeps {H H':Hp}{kvs:List (List ZU×V)}{xs:List (List ZU×Addr×Value)}(r:KT H kvs xs)(ht:∀ b ys,H b=some (.tup ys)→H' b=some (.tup ys)):KT H' kvs xs :=
 Paired.mapP r fun _ _ z=>⟨z.1,ht _ _ z.2.1,z.2.2⟩
section
variable {P:Program}{w:World}{H:Hp}{h:Heap}{a:Addr}
theorem ZiA {u:HO}(ok:HOk P w H h)(e:Rd H a u):ObjOk P w H h a u:=e.ok ok
theorem ZeA {kvs:List (ZU×V)}(ok:HOk P w H h)(e:Rd H a (.dK kvs)):kvs.length≤sizeLine∧(a == sysModules)=false∧∃ vs,KV kvs vs∧h.DictOf (Ym P w) a vs :=
 show ObjOk P w H h a (.dK kvs) from ZiA ok e
theorem Zez {kvs:List (ZU×V)}(ok:HOk P w H h)(e:H a=some (.dK kvs)):kvs.length≤sizeLine∧(a == sysModules)=false∧∃ vs,KV kvs vs∧h.DictOf (Ym P w) a vs:=ZeA ok (.inl e)
theorem Zcj {ks:List ZU}(ok:HOk P w H h)(e:H a=some (.tup (ks.map kV))):(tupleKind (Ym P w)).is h ks a:=by
 obtain ⟨_,its,r,o,h1,h2,n,h3⟩:=(show ObjOk P w H h a (.tup (ks.map kV)) from ok a _ e)
 exact ⟨o,its.toArray,n,h1,h2,h3,by simpa using Zbj r⟩
theorem Zef {kvs:List (List ZU×V)}(ok:HOk P w H h)(e:Rd H a (.dT kvs)):kvs.length≤sizeLine∧(a == sysModules)=false ∧
   ∃ xs,KT H kvs xs∧h.DictOfH (tupleKind (Ym P w)) a xs:=by
 obtain ⟨z,y,xs,r,o,es,ep,h1,h2,h3,h4,h5⟩:=(show ObjOk P w H h a (.dT kvs) from ZiA ok e)
 refine ⟨z,y,xs,r,o,es,ep,h1,h2,h3,h4,fun x hx=>?_,h5⟩
 have all:∀ {l:List (List ZU×V)} {m:List (List ZU×Addr×Value)},KT H l m→∀ x∈m,(tupleKind (Ym P w)).is h x.1 x.2.1:=by
   intro l m q
   induction q with
   | nil=>intro x hx;exact nomatch hx
   | @cons p q ps qs hq t ih =>
     intro x hx
     rcases List.mem_cons.mp hx with e | hx
     · subst e
       exact Zcj ok (by rw [← hq.1];exact hq.2.1)
     · exact ih x hx
 exact all r x hx
theorem ZlL {kvs:List (List ZU×V)}(ok:HOk P w H h)(e:H a=some (.dT kvs)):kvs.length≤sizeLine∧(a == sysModules)=false ∧
 ∃ xs,KT H kvs xs∧h.DictOfH (tupleKind (Ym P w)) a xs:=Zef ok (.inl e)
end
def DGet (H:Hp)(a:Addr)(y:V)(r:Option V):Prop :=
 (∃ kvs k,Rd H a (.dK kvs)∧y=kV k∧r=Yi kvs k)∨∃ kvs k b,Rd H a (.dT kvs)∧y=.ref b∧H b=some (.tup (k.map kV))∧r=Yi kvs k
def DPut (H:Hp)(a:Addr)(y v:V)(H':Hp):Prop :=
 (∃ kvs k,H a=some (.dK kvs)∧y=kV k∧kvs.length < sizeLine∧H'=upd H a (.dK (XH kvs k v))) ∨
 ∃ kvs k b,H a=some (.dT kvs)∧y=.ref b∧H b=some (.tup (k.map kV))∧kvs.length < sizeLine∧H'=upd H a (.dT (XH kvs k v))
section
variable {X:Cx}{pins:List (Addr×Obj)}{σ:St}{H:Hp}{s:Shared}{a:Addr}{y v:V}{u r:Value}{o:Option V}{A:Around}{E:Value→Shared→Prop}
theorem Inv.big (I:Inv X pins σ H s):sysModules < s.heap.objs.size:=by
 have h:mainGlobals < s.heap.objs.size:=(I.mod.glob.keeps I.bk).lt
 exact Nat.lt_trans (by decide) h
theorem ZaN {h':Heap}{t':Nat}{ob:HO}(I:Inv X pins σ H s)(mu:Mut (H a))(hs:Heap.SameBut a s.heap h')(he:∃ q,h'.get? a=some q)(new:ObjOk X.prog X.w (upd H a ob) h' a ob) :
   Inv X pins σ (upd H a ob) { s with heap:=h',toks:=t' } :=
 I.write (x:=a) (e:=a) mu (.inl rfl) (fun b q hb z=>(hs.2 b hb).trans z) he new
theorem Zgt {P:Program}{w:World}{H':Hp}{h':Heap}{kvs:List (ZU×V)}{vs:List (ZU×Value)}(z:kvs.length≤sizeLine)(hd:(a == sysModules)=false)(rel:KV kvs vs)(dd:h'.DictOf (Ym P w) a vs) :
 ObjOk P w H' h' a (.dK kvs):=⟨z,hd,vs,rel,dd⟩
theorem Zgq {H':Hp}{Q:Unit→Shared→Prop}(hu:A.units+1 < cLine)(I:Inv X pins σ H s)(g:DPut H a y v H')(ry:RelV y u)(rv:RelV v r)(h:∀ s',Inv X pins σ H' s'→Q () s') :
   wpAny (model X.prog X.w) A (setItem (.ref a) u r) Q E s:=by
 rcases g with ⟨kvs,k,e,ey,l,eH⟩ | ⟨kvs,k,b,e,ey,eb,l,eH⟩
 · subst ey eH
   obtain ⟨z,hd,vs,rel,dd⟩:=Zez I.hok e
   have hz:vs.length≤sizeLine:=by rw [← rel.length];exact z
   have hl:(XH kvs k v).length≤sizeLine:=by have:=VB kvs k v;omega
   refine wpAny_setItem_pairs (hsz:=hz) (Zaz ry) dd fun h' dd' hs=>h _ ?_
   have he:∃ q,h'.get? a=some q:=let ⟨q,_,_,hq,_⟩:=dd';⟨q,hq⟩
   exact ZaN I (by rw [e];exact True.intro) hs he (Zgt hl hd (rel.put k rv) dd')
 · subst ey eH
   cases (show u=Value.ref b from ry)
   obtain ⟨z,hd,xs,rel,dd⟩:=ZlL I.hok e
   have hz:xs.length≤sizeLine:=by rw [← Paired.length rel];exact z
   have hl:(XH kvs k v).length≤sizeLine:=by have:=VB kvs k v;omega
   refine wpAny_setItem_heap (hsz:=hz) (tupleKind_room_in1 hu) (Zcj I.hok eb) dd fun h' dd' hs=>h _ ?_
   obtain ⟨q,es,ep,hq,h2,h3,h4,_,h5⟩:=dd'
   refine ZaN I (by rw [e];exact True.intro) hs ⟨q,hq⟩ ⟨hl,hd,_,(rel.put k eb rv).keeps fun c ys ec=>?_,q,es,ep,hq,h2,h3,h4,h5⟩
   rw [Zo (Vy ec e (fun z=>nomatch z))]
   exact ec
end
section
variable {X:Cx}{pins:List (Addr×Obj)}{σ:St}{H:Hp}{s:Shared}{a:Addr}{kvs:List (ZU×V)}{k:ZU}{u:Value}{A:Around}{E:Value→Shared→Prop}
theorem Zle {v:V}{more:List Value}{Q:Value→Shared→Prop}(I:Inv X pins σ H s)(e:H a=some (.dK kvs))(ry:RelV (kV k) u)(l:Yi kvs k=some v)(hm:more=[]∨∃ x,more=[x])
   (h:∀ w' s',Inv X pins σ (upd H a (.dK (Xj kvs k))) s'→RelV v w'→Q w' s'):wpAny (model X.prog X.w) A (call (.builtin "dict.pop") (.ref a::u::more)) Q E s:=by
 obtain ⟨z,hd,vs,rel,dd⟩:=Zez I.hok e
 obtain ⟨w',hw,rw'⟩:=RelO.some_of (v:=v) (o:=valueAt vs k) (by rw [← l];exact rel.val k)
 have hp:(keyPart u).isSome=true:=by
   cases k with
   | inl i=>obtain ⟨t,q⟩:=(show ∃ t,u=Value.int i t from ry);subst q;rfl
   | inr x=>obtain ⟨t,q⟩:=(show ∃ t,u=Value.str x t from ry);subst q;rfl
 have ha:argsOk "dict.pop" ⟨.ref a::u::more,[]⟩:=by
   rcases hm with q | ⟨x,q⟩
   · subst q;exact PySem.F.args_dict_pop_2 _ _
   · subst q;exact PySem.F.args_dict_pop_3 _ _ _
 refine call_meetsIn PySem.F.slot_dict_pop dd.typeIs PySem.F.entry_dict_pop ha (meets_dict_pop_there (Ym X.prog X.w) a (Zaz ry) more hm hp)
   ⟨vs,w',dd,by rw [← rel.length];exact z,hw,fun h' dd' hs=>h w' _ ?_ rw'⟩
 have he:∃ q,h'.get? a=some q:=let ⟨q,_,_,hq,_⟩:=dd';⟨q,hq⟩
 exact ZaN I (by rw [e];exact True.intro) hs he (Zgt (Nat.le_trans (Zic kvs k) z) hd (rel.drop k) dd')
theorem ZkB {r:Value}{Q:Value→Shared→Prop}(I:Inv X pins σ H s)(e:H a=some (.dK kvs))(ry:RelV (kV k) u)(l:Yi kvs k=none)(h:∀ s',Inv X pins σ H s'→Q r s') :
   wpAny (model X.prog X.w) A (call (.builtin "dict.pop") [.ref a,u,r]) Q E s:=by
 obtain ⟨z,hd,vs,rel,dd⟩:=Zez I.hok e
 have hn:valueAt vs k=none:=RelO.none_of (by rw [← l];exact rel.val k)
 have hp:(keyPart u).isSome=true:=by
   cases k with
   | inl i=>obtain ⟨t,q⟩:=(show ∃ t,u=Value.int i t from ry);subst q;rfl
   | inr x=>obtain ⟨t,q⟩:=(show ∃ t,u=Value.str x t from ry);subst q;rfl
 exact call_meetsIn PySem.F.slot_dict_pop dd.typeIs PySem.F.entry_dict_pop (PySem.F.args_dict_pop_3 _ _ _) (meets_dict_pop_default (Ym X.prog X.w) a (Zaz ry) hd hp r) ⟨vs,dd,hn,h _ (I.tok _)⟩
end
def ZlG (td ty tv:TE):TS:=fun D σ H=>tv σ H fun v H1=>td σ H1 fun x H2=>ty σ H2 fun y H3=>∃ a H4,x=.ref a∧DPut H3 a y v H4∧D.nx σ H4
section
variable {X:Cx}{o i e value:Expr}{pos pos' tpos:Pos}{td ty tv:TE}
theorem ZiX (hu:X.A.units+1 < cLine)(ho:PE X o td)(hi:PE X i ty)(hv:PE X value tv)(hs:swapsWith value (some (.Subscript o i pos')) pos.line X.env=pure false) :
   PS X (.Assign [.Subscript o i pos'] value pos) (ZlG td ty tv):=by
 intro pins s σ H D I h
 refine wpAny_Assign_Subscript (Zm (hv pins s σ H _ I h) fun r s1 ⟨v,H1,I1,rv,q1⟩=>Zm (ho pins s1 σ H1 _ I1 q1) fun u s2 ⟨x,H2,I2,rx,q2⟩=>Zm (hi pins s2 σ H2 _ I2 q2) fun iv s3 ⟨y,H3,I3,ry,a,H4,ex,g,q3⟩=>?_) hs
 subst ex
 obtain rfl:u=Value.ref a:=rx
 exact Zgq hu I3 g ry rv fun s4 I4=>⟨σ,H4,I4,q3⟩
end
theorem ZgA {P:Program}{w:World}{H:Hp}(h:Heap)(hb:sysModules < h.objs.size):ObjOk P w H (h.push { cls:=.type "dict",data:=.dict #[] }) h.objs.size (.dK []) :=
 ⟨Nat.zero_le _,beq_eq_false_iff_ne.mpr (Ne.symm (Nat.ne_of_lt hb)),[],.nil,Heap.DictOf.new h⟩
def Zks:TE:=fun _ H Q=>∀ p,H p=none→Q (.ref p) (upd H p (.dK []))
section
variable {X:Cx}{pos:Pos}
theorem ZhY:PE X (.Dict [] [] pos) Zks:=fun pins s σ H Q I h =>
 wpAny_Dict_empty ⟨.ref s.heap.objs.size,_,I.laid (a:=s.heap.objs.size) (o:=.dK []) (t':=s.toks) (fun _ _ q=>Heap.get?_push_of_some _ q) (Nat.le_refl _) (ZgA s.heap I.big),rfl,h _ (I.hok.fresh (Nat.le_refl _))⟩
end
structure M1 (X:Cx)(o:Expr)(m:Str)(apos:Pos)(e:Expr)(cpos:Pos):Prop where
 base:attributeBase o m X.env (eval o X.env)=eval o X.env
 few:((backTo cpos (starEach [e] X.env)).all (fun x=>!x.1)&&(backToKw cpos (keywordEach [] X.env)).all (fun x=>x.1.isSome)
   && decide (([e]:List Expr).length+([]:List Keyword).length+(if ([]:List Keyword).isEmpty then 0 else 1) < 30))=true
 line:(apos.endLine == cpos.line)=true
 trees:backTo cpos (starEach [e] X.env)=[(false,eval e X.env)]
structure M2 (X:Cx)(o:Expr)(m:Str)(apos:Pos)(e f:Expr)(cpos:Pos):Prop where
 base:attributeBase o m X.env (eval o X.env)=eval o X.env
 few:((backTo cpos (starEach [e,f] X.env)).all (fun x=>!x.1)&&(backToKw cpos (keywordEach [] X.env)).all (fun x=>x.1.isSome)
   && decide (([e,f]:List Expr).length+([]:List Keyword).length+(if ([]:List Keyword).isEmpty then 0 else 1) < 30))=true
 line:(apos.endLine == cpos.line)=true
 trees:backTo cpos (starEach [e,f] X.env)=[(false,eval e X.env),(false,eval f X.env)]
def IsD (H:Hp)(a:Addr):Prop:=(∃ kvs,Rd H a (.dK kvs))∨∃ kvs,Rd H a (.dT kvs)
theorem Zfk {X:Cx}{pins:List (Addr×Obj)}{σ:St}{H:Hp}{s:Shared}{a:Addr}(I:Inv X pins σ H s)(d:IsD H a) :
   s.TypeIs (.ref a) "dict"∧(∀ b,Value.ref a=.ref b→∃ ob,s.heap.get? b=some ob∧ob.dict=none)∧(a == sysModules)=false:=by
 rcases d with ⟨kvs,e⟩ | ⟨kvs,e⟩
 · obtain ⟨_,hd,vs,_,dd⟩:=ZeA I.hok e
   refine ⟨dd.typeIs,fun b q=>?_,hd⟩
   cases q
   obtain ⟨ob,_,_,h1,h2,_⟩:=dd
   exact ⟨ob,h1,h2.2.1⟩
 · obtain ⟨_,hd,xs,_,dd⟩:=Zef I.hok e
   refine ⟨dd.typeIs,fun b q=>?_,hd⟩
   cases q
   obtain ⟨ob,_,_,h1,h2,_⟩:=dd
   exact ⟨ob,h1,h2.2.1⟩
section
variable {X:Cx}{pins:List (Addr×Obj)}{σ:St}{H:Hp}{s:Shared}{a:Addr}{y d:V}{u r:Value}{o:Option V}{A:Around}{E:Value→Shared→Prop}
theorem ZkU {Q:Value→Shared→Prop}(hu:A.units+1 < cLine)(I:Inv X pins σ H s)(g:DGet H a y o)(ry:RelV y u)(rd:RelV d r)(h:∀ w' s',Inv X pins σ H s'→RelV (o.getD d) w'→Q w' s') :
   wpAny (model X.prog X.w) A (call (.builtin "dict.get") [.ref a,u,r]) Q E s:=by
 rcases g with ⟨kvs,k,e,ey,l⟩ | ⟨kvs,k,b,e,ey,eb,l⟩
 · subst ey
   obtain ⟨z,hd,vs,rel,dd⟩:=ZeA I.hok e
   refine call_meetsIn PySem.F.slot_dict_get dd.typeIs PySem.F.entry_dict_get (PySem.F.args_dict_get_3 _ _ _) (meets_dict_get_default (Ym X.prog X.w) a (Zaz ry) hd r) ⟨_,dd.mapOf,h _ _ (I.tok _) ?_⟩
   rw [l]
   exact (rel.val k).getD rd
 · subst ey
   cases (show u=Value.ref b from ry)
   obtain ⟨z,hd,xs,rel,dd⟩:=Zef I.hok e
   refine call_meetsIn PySem.F.slot_dict_get dd.typeIs PySem.F.entry_dict_get (PySem.F.args_dict_get_3 _ _ _) (meetsH_dict_get_default (tupleKind (Ym X.prog X.w)) a b hd r) ⟨tupleKind_room_in1 hu,k,xs,Zcj I.hok eb,dd,h _ _ (I.tok _) ?_⟩
   rw [l]
   exact (rel.val k).getD rd
end
def ZfY (td ty tx:TE):TE:=fun σ H Q=>td σ H fun x H1=>∃ a,x=.ref a∧IsD H1 a∧ty σ H1 fun y H2=>tx σ H2 fun z H3=>∃ o,DGet H3 a y o∧Q (o.getD z) H3
def Zfg (td ty tx:TE):TE:=fun σ H Q=>td σ H fun x H1=>∃ a,x=.ref a∧IsD H1 a∧ty σ H1 fun y H2=>tx σ H2 fun z H3=>∃ kvs k,H3 a=some (.dK kvs)∧y=kV k ∧
 (∀ v,Yi kvs k=some v→Q v (upd H3 a (.dK (Xj kvs k))))∧(Yi kvs k=none→Q z H3)
section
variable {X:Cx}{o e f:Expr}{apos cpos:Pos}{td ty tx:TE}
theorem Zch (hu:X.A.units+1 < cLine)(ho:PE X o td)(he:PE X e ty)(hf:PE X f tx)(m:M2 X o "get" apos e f cpos):PE X (.Call (.Attribute o "get" apos) [e,f] [] cpos) (ZfY td ty tx):=by
 intro pins s σ H Q I h
 refine wpAny_Call_method m.base m.few m.line PySem.F.plainAttrs_dict PySem.F.slot_dict_get PySem.F.type_dict_get (Zm (ho pins s σ H _ I h) fun u s1 ⟨x,H1,I1,rx,a,ex,d,q1⟩=>?_)
 subst ex
 obtain rfl:u=Value.ref a:=rx
 obtain ⟨t1,t2,_⟩:=Zfk I1 d
 refine ⟨t1,t2,?_⟩
 rw [m.trees]
 refine Calls.callWith_builtin rfl (Calls.evalArgs_plain (Calls.spliced_cons (Zm (he pins s1 σ H1 _ I1 q1) fun iv s2 ⟨y,H2,I2,ry,q2⟩ =>
   Calls.spliced_cons (Zm (hf pins s2 σ H2 _ I2 q2) fun fv s3 ⟨z,H3,I3,rz,ov,g,q3⟩=>Calls.spliced_nil ?_))))
 exact ZkU hu I3 g ry rz fun w' s4 I4 rw'=>⟨_,H3,I4,rw',q3⟩
theorem Zid (ho:PE X o td)(he:PE X e ty)(hf:PE X f tx)(m:M2 X o "pop" apos e f cpos):PE X (.Call (.Attribute o "pop" apos) [e,f] [] cpos) (Zfg td ty tx):=by
 intro pins s σ H Q I h
 refine wpAny_Call_method m.base m.few m.line PySem.F.plainAttrs_dict PySem.F.slot_dict_pop PySem.F.type_dict_pop (Zm (ho pins s σ H _ I h) fun u s1 ⟨x,H1,I1,rx,a,ex,d,q1⟩=>?_)
 subst ex
 obtain rfl:u=Value.ref a:=rx
 obtain ⟨t1,t2,_⟩:=Zfk I1 d
 refine ⟨t1,t2,?_⟩
 rw [m.trees]
 refine Calls.callWith_builtin rfl (Calls.evalArgs_plain (Calls.spliced_cons (Zm (he pins s1 σ H1 _ I1 q1) fun iv s2 ⟨y,H2,I2,ry,q2⟩ =>
   Calls.spliced_cons (Zm (hf pins s2 σ H2 _ I2 q2) fun fv s3 ⟨z,H3,I3,rz,kvs,k,ea,ey,q3,q4⟩=>Calls.spliced_nil ?_))))
 subst ey
 cases l:Yi kvs k with
 | some v=>exact Zle I3 ea ry l (.inr ⟨fv,rfl⟩) fun w' s4 I4 rw'=>⟨v,_,I4,rw',q3 v l⟩
 | none=>exact ZkB I3 ea ry l fun s4 I4=>⟨z,H3,I4,rz,q4 l⟩
end
section
variable {X:Cx}{pins:List (Addr×Obj)}{σ:St}{H:Hp}{s:Shared}{a:Addr}{kvs:List (ZU×V)}{A:Around}{E:Value→Shared→Prop}
end
section
variable {X:Cx}{pins:List (Addr×Obj)}{σ:St}{H:Hp}{s:Shared}{a:Addr}{y:V}{u:Value}{A:Around}{E:Value→Shared→Prop}
end
end L2
namespace L2
open PySem PySem.Spec PyProof.Rows
section
variable {κ:Type}[DecidableEq κ]
end
end L2
namespace L2
open PySem PySem.Spec PyProof.Rows
theorem Vg {env:Env}(y:Str):∀ names:List (Str×NameKind),
   (names.map fun (n,k)=>if (k == NameKind.free&&env.scope.kind == .function&&env.kindOf n == some .cell) then (n,NameKind.cell) else (n,k)).lookup y =
     (names.lookup y).map fun k=>if (k == NameKind.free&&env.scope.kind == .function&&env.kindOf y == some .cell) then NameKind.cell else k
 | []=>rfl
 | (n, k)::r=>by
   have ih:=Vg (env:=env) y r
   rw [List.map_cons]
   cases hx:y == n with
   | true =>
     have e:y=n:=by simpa using hx
     subst e
     by_cases hc:(k == NameKind.free&&env.scope.kind == .function&&env.kindOf y == some .cell)=true
     · simp only [hc,if_true,List.lookup_cons,beq_self_eq_true,Option.map_some]
     · simp only [hc,List.lookup_cons,beq_self_eq_true,Option.map_some]
       simp [hc]
   | false =>
     by_cases hc:(k == NameKind.free&&env.scope.kind == .function&&env.kindOf n == some .cell)=true
     · simp only [hc,if_true,List.lookup_cons,hx];exact ih
     · simp only [hc,List.lookup_cons,hx,Bool.false_eq_true,if_false];exact ih
theorem Zw {scope:Scope}{env:Env}{y:Str}{k:NameKind}(hcell:∀ z∈scope.names,z.2≠.cell)(h:(relabel scope env).names.lookup y=some k) :
   scope.names.lookup y=some k∨(scope.names.lookup y=some .free∧k=.cell):=by
 unfold relabel at h
 rw [Vg] at h
 cases e:scope.names.lookup y with
 | none=>rw [e] at h;cases h
 | some k0 =>
   rw [e] at h
   simp only [Option.map_some,Option.some.injEq] at h
   by_cases hc:(k0 == NameKind.free&&env.scope.kind == .function&&env.kindOf y == some .cell)=true
   · rw [if_pos hc] at h
     right
     simp only [Bool.and_eq_true,beq_iff_eq] at hc
     exact ⟨by rw [hc.1.1],h.symm⟩
   · rw [if_neg hc] at h
     left;rw [h]
theorem mem_of_lookup {α:Type}{y:Str}{k:α}:∀{l:List (Str×α)},l.lookup y=some k→(y,k)∈l
 | [],h=>by cases h
 | (n,z)::r,h=>by
   cases hx:y == n with
   | true =>
     have e:y=n:=by simpa using hx
     subst e
     simp only [List.lookup_cons,beq_self_eq_true] at h
     cases h
     exact List.mem_cons_self
   | false =>
     simp only [List.lookup_cons,hx] at h
     exact List.mem_cons_of_mem _ (mem_of_lookup h)
theorem Uy {env:Env}:∀(names:List (Str×NameKind))(c0:List (Str×Addr)),(∀ y∈names,y.2=.free→∃ c,env.cells.lookup y.1=some c) →
   ∃ cl:List (Str×Addr),(forIn names c0 fun (x:Str×NameKind) (r:List (Str×Addr))=>(if x.2 == NameKind.free then (do let a ← cellOf env x.1;pure (ForInStep.yield ((x.1,a)::r))) else pure (ForInStep.yield r):Sem (ForInStep (List (Str×Addr)))))=pure cl ∧
     (∀ y c,cl.lookup y=some c→c0.lookup y=some c∨env.cells.lookup y=some c)∧(∀ y,c0.lookup y≠none→cl.lookup y≠none)∧∀ y∈names,y.2=.free→cl.lookup y.1≠none
 | [],c0,_=>⟨c0,rfl,fun _ _ h=>.inl h,fun _ h=>h,fun _ h=>(nomatch h)⟩
 | (n, k)::r,c0,h=>by
   by_cases hk:k=.free
   · subst hk
     obtain ⟨c,hc⟩:=h (n,.free) List.mem_cons_self rfl
     obtain ⟨cl,e,g1,g2,g3⟩:=Uy r ((n,c)::c0) fun y hy=>h y (List.mem_cons_of_mem _ hy)
     refine ⟨cl,?_,?_,?_,?_⟩
     · rw [List.forIn_cons]
       have hcell:cellOf env n=pure c:=by unfold cellOf;rw [hc]
       simp only [beq_self_eq_true,if_true,hcell,pure_bind]
       exact e
     · intro y d q
       rcases g1 y d q with q | q
       · cases hx:y == n with
         | true =>
           have e':y=n:=by simpa using hx
           subst e'
           simp only [List.lookup_cons,beq_self_eq_true] at q
           cases q
           exact .inr hc
         | false=>simp only [List.lookup_cons,hx] at q;exact .inl q
       · exact .inr q
     · intro y q
       apply g2
       cases hx:y == n with
       | true=>simp [List.lookup_cons,hx]
       | false=>simpa [List.lookup_cons,hx] using q
     · intro y hy hf
       rcases List.mem_cons.mp hy with e' | hy
       · subst e'
         apply g2
         simp [List.lookup_cons]
       · exact g3 y hy hf
   · obtain ⟨cl,e,g1,g2,g3⟩:=Uy r c0 fun y hy=>h y (List.mem_cons_of_mem _ hy)
     refine ⟨cl,?_,g1,g2,?_⟩
     · rw [List.forIn_cons]
       have hb:(k == NameKind.free)=false:=by simpa using hk
       simp only [hb,Bool.false_eq_true,if_false,pure_bind]
       exact e
     · intro y hy hf
       rcases List.mem_cons.mp hy with e' | hy
       · subst e';exact absurd hf hk
       · exact g3 y hy hf
theorem XS {scope:Scope}{env:Env}(h:∀ y∈scope.names,y.2=.free→∃ c,env.cells.lookup y.1=some c) :
   ∃ cl,closureFor scope env=pure cl∧(∀ y c,cl.lookup y=some c→env.cells.lookup y=some c)∧∀ y∈scope.names,y.2=.free→cl.lookup y.1≠none:=by
 obtain ⟨cl,e,g1,_,g3⟩:=Uy (env:=env) scope.names [] h
 refine ⟨cl,?_,fun y c q=>(g1 y c q).elim (fun z=>by cases z) fun z=>z,g3⟩
 simp only [closureFor]
 rw [← bind_pure (pure cl:Sem _),← e]
def WY (N:List Str)(x:Str):List Str:=N.map fun y=>if y=x then "" else y
theorem XN (N:List Str)(x:Str):(WY N x).length=N.length:=List.length_map ..
theorem Vx {N:List Str}{x y:Str}{i:Nat}(h:(WY N x)[i]?=some y):(N[i]?=some y∧y≠x)∨y="":=by
 unfold WY at h
 rw [List.getElem?_map] at h
 cases e:N[i]? with
 | none=>rw [e] at h;cases h
 | some z =>
   rw [e] at h
   have h:(if z=x then ("":Str) else z)=y:=Option.some.inj h
   by_cases q:z=x
   · rw [if_pos q] at h;exact .inr h.symm
   · rw [if_neg q] at h;subst h;exact .inl ⟨rfl,q⟩
def ZS (X:Cx)(scope:Scope)(x:Str)(cl:List (Str×Addr))(C:Addr)(s₀:Shared)(H₀:Hp)(fp:List Addr):Cx :=
 { prog:=X.prog,w:=X.w,K:=X.K,mg:=X.mg,base:=X.base,A:=X.A,N:=WY X.N x++[x],s₀:=s₀,H₀:=H₀,env:=compEnvC scope cl C X.env,outer:=X.stack,stack:=X.stack,
   ex:=fp,fn:=fun _=>false,calm:=X.calm,pn:=[],xe:=fun _ _=>False }
def Ua (J:It)(te:TE)(σ:St)(D:Addr)(Q:VK)(H1:Hp):Prop :=
 ∃ W:Nat→Nat→List V→Hp→Prop,(∃ m,W 0 m [] (upd H1 D (.lst [])))∧∀ i m ys H2,W i m ys H2 →
   (J.stop i H2∧Q (.ref D) H2)∨(J.go i H2∧∃ N:VK,(∀ y H4,N y H4→H4 D=some (.lst ys)∧ys.length < sizeLine∧∃ m',m' < m∧W (i+1) m' (ys++[y]) (upd H4 D (.lst (ys++[y]))))∧∀ v H3,J.yld i H2 v H3→te (σ++[some v]) H3 N)
def Zlu (wi:TI)(te:TE):TE:=fun σ H Q=>wi σ H fun J H1=>∀ D,H1 D=none→Ua J te σ D Q H1
section
variable {X:Cx}{elt iter:Expr}{x:Str}{px pos:Pos}{scope:Scope}{wi:TI}{te:TE}
theorem Wb {prog:Program}{w:World}{A:Around}{R:Result→Shared→Prop}{s:Shared}{elt target iter:Expr}{scope:Scope}{pos:Pos}{it acc:Value}{env:Env}(I:Nat→Shared→Prop)
   (turn : ∀ n s,I n s→wpAny (model prog w) A (pyNext it) (fun r s₁=>match r with
     | none=>R (.ok .next) s₁
     | some v=>wpAny (model prog w) A (letOwnedTupleGo target it v) (fun _ s1'=>wpAny (model prog w) A (assign target env v) (fun _ s₂=>wpAny (model prog w) A (eval elt env) (fun x s₃ =>
         wpAny (model prog w) A (call (.builtin "list.append") [acc,x]) (fun _ s₄=>∃ m,m < n∧I m s₄) (fun _ _=>False) s₃)
         (fun _ _=>False) s₂) (fun _ _=>False) s1') (fun _ _=>False) s₁) (fun _ _=>False) s)
   (n:Nat) (h:I n s) :
   codeAny (model prog w) A (.compLoop (.ListComp elt [⟨target,iter,[],0⟩] scope pos) 0 it acc env) R s:=by
 refine codeAny_loop rfl I (fun n s hI=>?_) n h
 show wpAny _ _ ((compTurn (.ListComp elt [⟨target,iter,[],0⟩] scope pos) 0 it acc env).onRaise (fun x=>do noteFrame x env;theTreesLotGoes x)) _ _ s
 refine wpAny_noted ?_
 rw [compTurn_list1]
 refine wpAny_bind (wpAny_standAt (wpAny_bind (wpAny_mono (turn n s hI) (fun r s₁ h₁=>?_) fun _ _ h'=>h'.elim)))
 cases r with
 | none=>exact wpAny_pure h₁
 | some v =>
   refine wpAny_bind (wpAny_mono h₁ (fun _ s1' h1'=>?_) fun _ _ h'=>h'.elim)
   exact wpAny_bind (wpAny_mono h1' (fun _ s₂ h₂=>wpAny_bind (wpAny_bind (wpAny_mono h₂ (fun x s₃ h₃=>wpAny_bind (wpAny_mono h₃
     (fun _ s₄ h₄=>wpAny_pure (wpAny_pure ⟨rfl,h₄⟩)) fun _ _ h'=>h'.elim)) fun _ _ h'=>h'.elim))) fun _ _ h'=>h'.elim)
structure CompOk (X:Cx)(scope:Scope)(x:Str):Prop where
 nd:(WY X.N x++[x]).Nodup
 clos:∀ y∈scope.names,y.2=.free→X.env.kindOf y.1=some .cell∨X.env.kindOf y.1=some .free
 cell:∀ y∈scope.names,y.2≠.cell
 kind:scope.kind=.function
 names:∀ y∈scope.names,y.2=.local→scope.names.lookup y.1=some .local
 loc:scope.names.lookup x=some .local
 own:∀ y∈X.N,y≠x→scope.names.lookup y≠some .local
 noh:scope.names.lookup ("":Str)=none
theorem ZeR {pins:List (Addr×Obj)}{σ:St}{H2:Hp}{s₂:Shared}{J:It}{fp:List Addr}{it:Addr}{tn:Nat→Heap→Prop}{cl:List (Str×Addr)}{E:Value→Shared→Prop}{Q:VK}{RR:Value→Addr→Result→Shared→Prop}
   (O:CompOk X scope x) (hc:X.calm=true) (cl1:∀ y c,cl.lookup y=some c→X.env.cells.lookup y=some c) (cl2:∀ y∈scope.names,y.2=.free→cl.lookup y.1≠none)
   (he:∀ cl C s₀ H₀ fp,PE (ZS X scope x cl C s₀ H₀ fp) elt te)
   (I2:Inv X pins σ H2 s₂) (T:Wm X.prog X.w X.K (.Name x px) J fp it tn) (st:tn 0 s₂.heap) (f2:∀ b∈fp,Yg X pins H2 b)
   (h:∀ D,H2 D=none→Ua J te σ D Q H2)
   (hRR:∀ D C H' s',Inv X pins σ H' s'→Yg X pins H' C→(∃ m,s'.heap.Ns C m)→Q (.ref D) H'→RR (.ref D) C (.ok .next) s') :
   wpAny (model X.prog X.w) X.A (newList []) (fun acc s₃=>wpAny (model X.prog X.w) X.A (newFunctionEnv scope X.env.globals cl [] X.env.qual none .none (some X.env)) (fun cenv s₄ =>
     codeAny (model X.prog X.w) X.A (.compStart (.ListComp elt [⟨.Name x px,iter,[],0⟩] scope pos) 0 (.ref it) acc { cenv with scope:=relabel scope X.env }) (RR acc cenv.locals) s₄) E s₃) E s₂:=by
 have hD:H2 s₂.heap.objs.size=none:=I2.hok.fresh (Nat.le_refl _)
 refine wpAny_newObj_type ?_
 have I3:Inv X pins σ (upd H2 s₂.heap.objs.size (.lst [])) { s₂ with heap:=s₂.heap.push { cls:=.type "list",data:=.seq ([]:List Value).toArray } } :=
   I2.laid (t':=s₂.toks) (fun b u e=>Heap.get?_push_of_some _ e) (Nat.le_refl _) ⟨Nat.zero_le _,[],_,.nil,Heap.get?_push_size _ rfl⟩
 have f3:∀ b∈fp,Yg X pins (upd H2 s₂.heap.objs.size (.lst [])) b:=fun b hb=>by
   obtain ⟨g0,g1⟩:=f2 b hb
   obtain ⟨o,e,_⟩:=T.obj 0 _ st b hb
   exact ⟨by rw [Zo (Nat.ne_of_lt (Heap.lt_size e))];exact g0,g1⟩
 have st3:tn 0 (s₂.heap.push { cls:=.type "list",data:=.seq ([]:List Value).toArray }):=T.keep _ _ _ st fun b hb o e=>Heap.get?_push_of_some _ e
 obtain ⟨W,⟨m0,w0⟩,turn⟩:=h _ hD
 generalize hDe:s₂.heap.objs.size=D at I3 f3 w0 turn ⊢
 generalize hH3:upd H2 D (.lst [])=H3 at I3 f3 w0 turn ⊢
 generalize hs3:({ s₂ with heap:=s₂.heap.push { cls:=.type "list",data:=.seq ([]:List Value).toArray } }:Shared)=s₃ at I3
 have st3':tn 0 s₃.heap:=by rw [← hs3];exact st3
 have hobj:∀ b∈fp,b < s₃.heap.objs.size:=fun b hb=>by
   obtain ⟨o,e,_⟩:=T.obj 0 _ st3' b hb
   exact Heap.lt_size e
 refine wpAny_newFunctionEnv O.cell (by intro y hy;simp at hy) (fun h₁ hns₁ hsb₁=>?_) O.kind
 have old:∀ b o,s₃.heap.get? b=some o→h₁.get? b=some o:=fun b o e=>hsb₁.extBut b o (Nat.ne_of_lt (Heap.lt_size e)) (Heap.get?_push_of_some _ e)
 generalize hs4:({ s₃ with heap:=h₁,toks:=s₃.toks+([]:List (Str×Value)).length }:Shared)=s₄
 have h4:s₄.heap=h₁:=by rw [← hs4]
 have hX:∀ C,Yg X pins C s₃.heap.objs.size→True:=fun _ _=>trivial
 have ok':(ZS X scope x cl s₃.heap.objs.size s₃ H3 fp).Ok:=by
   refine ⟨I3.ok.mod,O.kind,I3.ok.glob,I3.ok.blt,Nat.le_refl _,?_,?_,?_,I3.ok.hd,I3.ok.frames,.inl rfl,?_,I3.bs,Nat.le_trans I3.ok.bsz I3.sz,?_,?_,I3.stack,I3.stkFree⟩
   · exact fun y z c e1 e2=>I3.ok.inj y z c (cl1 y c e1) (cl1 z c e2)
   · intro y hk
     have hf:scope.names.lookup y=some .free:=by
       rcases hk with hk | hk
       · rcases Zw O.cell hk with q | q
         · exact absurd rfl (O.cell _ (mem_of_lookup q))
         · exact q.1
       · rcases Zw O.cell hk with q | q
         · exact q
         · cases q.2
     have:=cl2 _ (mem_of_lookup hf) rfl
     cases e:cl.lookup y with
     | none=>exact absurd e this
     | some c=>exact ⟨c,e⟩
   · intro y c hf;cases hf
   · intro b hb
     obtain ⟨g0,g1,g2,g3,g4,g5⟩:=f3 b hb
     exact ⟨Nat.ne_of_lt (hobj b hb),fun y c e=>g4 y c (cl1 y c e)⟩
   · intro b o e hb
     obtain ⟨g0,g1,g2,g3,g4,g5⟩:=f3 b hb
     rcases g3 with g3 | g3
     · exact I3.ok.noex b o e g3
     · exact absurd (Heap.lt_size e) (Nat.not_lt.mpr (Nat.le_trans I3.ok.bsz g3))
   · intro b hb hs
     obtain ⟨g0,g1,g2,g3,g4,g5⟩:=f3 b hb
     rcases List.mem_cons.mp (I3.stkSub b hs) with e | e
     · exact g1 e
     · exact g2 e
 have I4 : Inv (ZS X scope x cl s₃.heap.objs.size s₃ H3 fp) [] (σ++[none]) H3 s₄:=by
   obtain ⟨m,hm,hl⟩:=I3.loc
   refine ⟨ok',by rw [← hs4];rfl,by rw [← hs4];exact I3.bare,by rw [h4];exact Un.kept old,⟨_,by rw [h4];exact hns₁,?_⟩,?_,I3.hok.fresh (Nat.le_refl _),fun y c e=>I3.freeC y c (cl1 y c e),?_,by rw [h4];exact I3.hok.kept old,?_⟩
   · intro i y v e1 e2 e3
     have hlt:i < σ.length:=by
       rcases Nat.lt_or_ge i σ.length with z | z
       · exact z
       · rw [List.getElem?_append_right z] at e2
         cases e:i - σ.length with
         | zero=>rw [e] at e2;simp at e2
         | succ k=>rw [e] at e2;simp at e2
     rw [List.getElem?_append_left hlt] at e2
     have hsm:∃ k,scope.names.lookup y=some k:=by
       rcases e3 with hk | hk | hk
       · rcases Zw O.cell hk with q | q
         · exact ⟨_,q⟩
         · exact ⟨_,q.1⟩
       · rcases Zw O.cell hk with q | q
         · exact ⟨_,q⟩
         · exact ⟨_,q.1⟩
       · rcases Zw O.cell hk with q | q
         · exact ⟨_,q⟩
         · exact ⟨_,q.1⟩
     obtain ⟨e1',hyx⟩:X.N[i]?=some y∧y≠x:=by
       have e1:(WY X.N x++[x])[i]?=some y:=e1
       rw [List.getElem?_append_left (by rw [XN,← I3.len];exact hlt)] at e1
       rcases Vx e1 with z | z
       · exact z
       · obtain ⟨k,hk⟩:=hsm
         rw [z,O.noh] at hk;cases hk
     have hy:y∈X.N:=List.mem_of_getElem? e1'
     have hf:scope.names.lookup y=some .free:=by
       rcases e3 with hk | hk | hk
       · rcases Zw O.cell hk with q | q
         · exact absurd q (O.own y hy hyx)
         · exact q.1
       · rcases Zw O.cell hk with q | q
         · exact absurd rfl (O.cell _ (mem_of_lookup q))
         · exact q.1
       · rcases Zw O.cell hk with q | q
         · exact q
         · exact q.1
     have hk:=O.clos _ (mem_of_lookup hf) rfl
     have hv:Vis X.env.scope y:=by rcases hk with z | z;exact .inr (.inl z);exact .inr (.inr z)
     obtain ⟨u,ru,lu⟩:=hl i y v e1' e2 hv
     refine ⟨u,ru,?_⟩
     have hkc:(compEnvC scope cl s₃.heap.objs.size X.env).kindOf y=some .cell∨(compEnvC scope cl s₃.heap.objs.size X.env).kindOf y=some .free:=by
       rcases e3 with q | q | q
       · rcases Zw O.cell q with z | z
         · exact absurd z (O.own y hy hyx)
         · cases z.2
       · exact .inl q
       · exact .inr q
     rcases lu with ⟨q,_⟩ | ⟨_,c,hcl,hcc⟩
     · rcases hk with z | z<;>(rw [q] at z;cases z)
     · refine .inr ⟨hkc,?_⟩
       cases e:cl.lookup y with
       | none=>exact absurd e (cl2 _ (mem_of_lookup hf) rfl)
       | some c' =>
         have:=cl1 y c' e
         rw [hcl] at this
         cases this
         refine ⟨c,e,?_⟩
         rw [h4]
         obtain ⟨oc,ho,hd⟩:=hcc
         exact ⟨oc,old _ _ ho,hd⟩
   · intro y c e
     obtain ⟨v,oc,ho,hd⟩:=I3.cell y c (cl1 y c e)
     exact ⟨v,oc,by rw [h4];exact old _ _ ho,hd⟩
   · intro p hp;cases hp
   · show (σ++[none]).length=(WY X.N x++[x]).length
     rw [List.length_append,List.length_append,XN,I3.len];rfl
 have st4:tn 0 s₄.heap:=by rw [h4];exact T.keep _ _ _ st3' fun b hb o e=>old b o e
 have fpok:∀ {H':Hp},(∀ b∈fp,H' b=none)→∀ b∈fp,Yg (ZS X scope x cl s₃.heap.objs.size s₃ H3 fp) [] H' b:=fun hn b hb=>by
   obtain ⟨g0,g1,g2,g3,g4,g5⟩:=f3 b hb
   refine ⟨hn b hb,Nat.ne_of_lt (hobj b hb),ok'.exfs b hb,.inl hb,fun y c e=>g4 y c (cl1 y c e),?_⟩
   intro p hp;cases hp
 have loop:codeAny (model X.prog X.w) X.A (.compLoop (.ListComp elt [⟨.Name x px,iter,[],0⟩] scope pos) 0 (.ref it) (.ref D) (compEnvC scope cl s₃.heap.objs.size X.env)) (RR (.ref D) s₃.heap.objs.size) s₄:=by
   refine Wb (fun n s'=>∃ i ys w' H',Inv (ZS X scope x cl s₃.heap.objs.size s₃ H3 fp) [] (σ++[w']) H' s'∧tn i s'.heap∧(∀ b∈fp,H' b=none)∧W i n ys H') ?_ m0 ⟨0,[],none,H3,I4,st4,fun b hb=>(f3 b hb).1,w0⟩
   rintro n s5 ⟨i,ys,w',H5,I5,st5,fr5,w5⟩
   rcases turn i n ys H5 w5 with ⟨stop,q⟩ | ⟨go,N,hN,step⟩
   · refine Zm (T.done (ZS X scope x cl s₃.heap.objs.size s₃ H3 fp) rfl rfl rfl hc i [] s5 _ H5 _ I5 (fpok fr5) st5 stop) fun r s6 ⟨hr,I6⟩=>?_
     subst hr
     obtain ⟨m6,hn6,_⟩:=I6.loc
     have IX:Inv X pins σ H5 s6:=I3.call' (ch:=fp) I6.os I6.base I6.hok I6.bare fun b hb=>by
       obtain ⟨g0,g1,g2,g3,g4,g5⟩:=f3 b hb
       exact ⟨g3,g1,g4,g5⟩
     exact hRR D _ H5 s6 IX (I3.fpOk (Nat.le_refl _) I6.free) ⟨m6,hn6⟩ q
   · refine Zm (T.item (ZS X scope x cl s₃.heap.objs.size s₃ H3 fp) rfl rfl rfl hc i [] s5 _ H5 _ I5 (fpok fr5) st5 go) fun r s6 ⟨u,hr,h6⟩=>?_
     subst hr
     refine Zm h6 fun _ s7 ⟨v,H7,I7,r7,y7,st7,fr7⟩=>?_
     have I7':=I7.pinned (fpok fr7) (T.obj _ _ st7)
     have hixN:(ZS X scope x cl s₃.heap.objs.size s₃ H3 fp).N[σ.length]?=some x:=by
       show (WY X.N x++[x])[σ.length]?=some x
       rw [I3.len,← XN X.N x];simp
     refine Zm (ZD (X:=ZS X scope x cl s₃.heap.objs.size s₃ H3 fp) (pos:=px) O.nd hixN (.inl (lookup_relabel_local O.loc)) (.inr (lookup_relabel_local O.loc)) _ s7 _ H7 v u (fun σ' H'=>σ'=σ++[some v]∧H'=H7) I7' r7 ⟨by simp,rfl⟩) fun _ s8 ⟨σ8,H8,I8,e8,e8'⟩=>?_
     subst e8 e8'
     refine Zm (he cl s₃.heap.objs.size s₃ H3 fp _ s8 _ H8 _ I8 (step v H8 y7)) fun uy s9 ⟨y,H9,I9,r9,n9⟩=>?_
     obtain ⟨hl9,hz9,m',hm',w9⟩:=hN y H9 n9
     refine Zm (Yk (X:=ZS X scope x cl s₃.heap.objs.size s₃ H3 fp) _ s9 _ H9 (.ref D) [y] (.ref D) [uy] (fun v H'=>H'=upd H9 D (.lst (ys++[y]))) I9 rfl (.cons r9 .nil) ⟨D,ys,y,rfl,rfl,hl9,hz9,rfl⟩) fun _ s10 ⟨_,H10,I10,_,e10⟩=>?_
     subst e10
     refine ⟨m',hm',i+1,ys++[y],some v,_,I10.unpinned (pins:=[]),T.keep _ _ _ st7 fun b hb o e=>(I10.pin (b,o) (List.mem_append_right _ (List.mem_append_right _ (YB hb e)))).1,fun b hb=>?_,w9⟩
     obtain ⟨o,e,d⟩:=T.obj _ _ st7 b hb
     exact (I10.pin (b,o) (List.mem_append_right _ (List.mem_append_right _ (YB hb e)))).2.1
 exact codeAny_compStart_list loop (T.self _ 0 _ _ _ st4 loop)
theorem Wg (O:CompOk X scope x)(hc:X.calm=true)(hi:PI X (.Name x px) iter wi)(he:∀ cl C s₀ H₀ fp,PE (ZS X scope x cl C s₀ H₀ fp) elt te)
   (hs:∀ v,foldedSetIterable iter X.env v=pure v:=by intro _;rfl):PE X (.ListComp elt [⟨.Name x px,iter,[],0⟩] scope pos) (Zlu wi te):=by
 intro pins s σ H Q I h
 obtain ⟨cl,hcl,cl1,cl2⟩:=XS (scope:=scope) (env:=X.env) fun y hy hf=>I.ok.has _ (O.clos y hy hf)
 rw [eval_ListComp]
 refine wpAny_comprehension_free (use:=none) rfl hs hcl O.kind O.names (Zm (hi pins s σ H _ I h) fun v s1 h1=>Zm h1 fun itv s2 h2=>?_)
 obtain ⟨it,fp,tn,J,H2,e,I2,T,st2,f2,q⟩:=h2
 subst e
 refine ZeR (RR:=fun acc C=>compPost (model X.prog X.w) X.A X.xe none (EP X pins σ Q) acc C) O hc cl1 cl2 he I2 T st2 f2 q ?_
 intro D C H' s' I' ⟨g0,g1,g2,g3,g4,g5⟩ ⟨m,hm⟩ hq
 exact ⟨m,hm,fun h' hs'=>⟨.ref D,H',I'.turned (t':=s'.toks) (fun b o hb e=>(hs'.2 b hb).trans e) g0 g1 g3 g4 g5,rfl,hq⟩⟩
end
theorem ZeY {lo:Int}{n:Nat}{te:TE}{σ:St}{D:Addr}{Q:VK}{H:Hp}(hn:n≤sizeLine)(Pv:Nat→List V→Hp→Prop)(h0:Pv 0 [] (upd H D (.lst [])))
   (hl:∀ i ys H,Pv i ys H→ys.length=i)
   (hs:∀ i ys H,i < n→Pv i ys H→te (σ++[some (.int (lo+i))]) H fun y H4=>H4 D=some (.lst ys)∧Pv (i+1) (ys++[y]) (upd H4 D (.lst (ys++[y])))) (hd:∀ ys H,Pv n ys H→Q (.ref D) H):Ua (Itr lo n) te σ D Q H:=by
 refine ⟨fun i m ys H=>m=n - i∧i≤n∧Pv i ys H,⟨n,by simp,Nat.zero_le _,h0⟩,?_⟩
 rintro i m ys H2 ⟨rfl,hi,p⟩
 by_cases hlt:i < n
 · have hlen:=hl i ys _ p
   refine .inr ⟨hlt,_,fun y H4 (q:H4 D=some (.lst ys)∧Pv (i+1) (ys++[y]) (upd H4 D (.lst (ys++[y]))))=>⟨q.1,by omega,n - (i+1),by omega,rfl,hlt,q.2⟩,fun v H3 y=>?_⟩
   obtain ⟨e,e'⟩:=y
   subst e e'
   exact hs i ys _ hlt p
 · have e:i=n:=by omega
   subst e
   exact .inl ⟨Nat.le_refl _,hd ys H2 p⟩
theorem Zfn {K:PySem.W.Frag}{a:Addr}{xs:List V}{te:TE}{σ:St}{D:Addr}{Q:VK}{H:Hp}(hn:xs.length≤sizeLine)(Pv:Nat→List V→Hp→Prop)(h0:Pv 0 [] (upd H D (.lst [])))
   (hl:∀ i ys H,Pv i ys H→ys.length=i∧SqL K H a xs)
   (hs:∀ i x ys H,xs[i]?=some x→Pv i ys H→te (σ++[some x]) H fun y H4=>H4 D=some (.lst ys)∧Pv (i+1) (ys++[y]) (upd H4 D (.lst (ys++[y])))) (hd:∀ ys H,Pv xs.length ys H→Q (.ref D) H):Ua (Itl K a) te σ D Q H:=by
 refine ⟨fun i m ys H=>m=xs.length - i∧i≤xs.length∧Pv i ys H,⟨xs.length,by simp,Nat.zero_le _,h0⟩,?_⟩
 rintro i m ys H2 ⟨rfl,hi,p⟩
 obtain ⟨hlen,q⟩:=hl i ys _ p
 by_cases hlt:i < xs.length
 · refine .inr ⟨⟨xs,xs[i],q,by simp [hlt]⟩,_,fun y H4 (q:H4 D=some (.lst ys)∧Pv (i+1) (ys++[y]) (upd H4 D (.lst (ys++[y]))))=>⟨q.1,by omega,xs.length - (i+1),by omega,rfl,hlt,q.2⟩,fun v H3 y=>?_⟩
   obtain ⟨e,y⟩:=y
   subst e
   exact hs i v ys _ (y xs q) p
 · have e:i=xs.length:=by omega
   subst e
   exact .inl ⟨⟨xs,q,Nat.le_refl _⟩,hd ys H2 p⟩
end L2
namespace L2
open PySem PySem.Spec PyProof.Rows
def Its (x:Str):It:=⟨fun i _=>i < x.cps.size,fun i H v H'=>H'=H∧∃ c,x.cps[i]?=some c∧v=.str ⟨#[c]⟩,fun i _=>x.cps.size≤i⟩
theorem ZeP {P:Program}{w:World}{K:PySem.W.Frag}{tg:Expr}(x:Str)(t:Tok)(it:Addr):Wm P w K tg (Its x) [it] it (fun i h=>h.IsStrIter it "str_ascii_iterator" x t i) where
 mem:=by simp
 obj:=fun i h st b hb=>by
   have e:b=it:=by simpa using hb
   subst e
   obtain ⟨o,e,c,d⟩:=st
   exact ⟨o,e,fun v z=>by rw [d] at z;cases z⟩
 keep:=fun i h h' st k=>let ⟨o,ho,r⟩:=st;⟨o,k it (by simp) o ho,r⟩
 item:=by
   intro X hP hw hK hc i pins s σ H E I hf st hg
   subst hP hw hK
   obtain ⟨f0,f1,f2,f3,f4,f5⟩:=hf it (by simp)
   have hlt:i < x.cps.size:=hg
   refine wpAny_pyNext_ascii_item st (c:=x.cps[i]) (by simp [hlt]) fun h' st' sb=>?_
   have I1:Inv X pins σ H { s with heap:=h',toks:=s.toks+1 }:=I.turned (t':=s.toks+1) (fun b o hb e=>(sb.2 b hb).trans e) f0 f1 f3 f4 f5
   obtain ⟨o,e,c,d⟩:=id st'
   exact ⟨_,rfl,Zai (s:={ s with heap:=h',toks:=s.toks+1 }) e c d (by decide) ⟨.str ⟨#[x.cps[i]]⟩,H,I1,⟨_,rfl⟩,⟨rfl,x.cps[i],by simp [hlt],rfl⟩,st',fun b hb=>(hf b hb).1⟩⟩
 done:=by
   intro X hP hw hK hc i pins s σ H E I hf st hg
   subst hP hw hK
   obtain ⟨f0,f1,f2,f3,f4,f5⟩:=hf it (by simp)
   have hle:x.cps.size≤i:=hg
   exact wpAny_pyNext_ascii_end (I.ok.hd hc) st (by simp [hle]) fun h' eb=>⟨rfl,I.turned (t':=s.toks) (fun b o hb e=>eb b o hb e) f0 f1 f3 f4 f5⟩
 self:=fun _ _ _ _ _ st h=>wpAny_pyIter_striter_ascii st h
theorem ZfF {P:Program}{w:World}{K:PySem.W.Frag}{tg:Expr}(x:Str)(t:Tok)(it:Addr):Wm P w K tg (Its x) [it] it (fun i h=>h.IsStrIter it "str_iterator" x t i) where
 mem:=by simp
 obj:=fun i h st b hb=>by
   have e:b=it:=by simpa using hb
   subst e
   obtain ⟨o,e,c,d⟩:=st
   exact ⟨o,e,fun v z=>by rw [d] at z;cases z⟩
 keep:=fun i h h' st k=>let ⟨o,ho,r⟩:=st;⟨o,k it (by simp) o ho,r⟩
 item:=by
   intro X hP hw hK hc i pins s σ H E I hf st hg
   subst hP hw hK
   obtain ⟨f0,f1,f2,f3,f4,f5⟩:=hf it (by simp)
   have hlt:i < x.cps.size:=hg
   refine wpAny_pyNext_wide_item st (c:=x.cps[i]) (by simp [hlt]) fun h' st' sb=>?_
   have I1:Inv X pins σ H { s with heap:=h',toks:=s.toks+1 }:=I.turned (t':=s.toks+1) (fun b o hb e=>(sb.2 b hb).trans e) f0 f1 f3 f4 f5
   obtain ⟨o,e,c,d⟩:=id st'
   exact ⟨_,rfl,Zai (s:={ s with heap:=h',toks:=s.toks+1 }) e c d (by decide) ⟨.str ⟨#[x.cps[i]]⟩,H,I1,⟨_,rfl⟩,⟨rfl,x.cps[i],by simp [hlt],rfl⟩,st',fun b hb=>(hf b hb).1⟩⟩
 done:=by
   intro X hP hw hK hc i pins s σ H E I hf st hg
   subst hP hw hK
   obtain ⟨f0,f1,f2,f3,f4,f5⟩:=hf it (by simp)
   have hle:x.cps.size≤i:=hg
   exact wpAny_pyNext_wide_end (I.ok.hd hc) st (by simp [hle]) fun h' eb=>⟨rfl,I.turned (t':=s.toks) (fun b o hb e=>eb b o hb e) f0 f1 f3 f4 f5⟩
 self:=fun _ _ _ _ _ st h=>wpAny_pyIter_striter_wide st h
def iStr (tl:TE):TI:=fun σ H R=>tl σ H fun v H1=>∃ x,v=.str x∧R (Its x) H1
section
variable {X:Cx}{tg:Expr}
theorem Vc {l:Expr}{tl:TE}(hl:PE X l tl):PI X tg l (iStr tl):=by
 intro pins s σ H R I h
 refine Zm (hl pins s σ H _ I h) fun v s1 ⟨z,H1,I1,r1,q1⟩=>?_
 obtain ⟨x,e,q⟩:=q1
 subst e
 obtain ⟨t,rfl⟩:=r1
 have fin:∀ b,b∈[s1.heap.objs.size]→Yg X pins H1 b:=fun b hb=>by
   have e:b=s1.heap.objs.size:=by simpa using hb
   subst e
   exact I1.fpOk (Nat.le_refl _) (I1.hok.fresh (Nat.le_refl _))
 cases ha:x.cps.all (· < 128)
 · exact wpAny_pyIter_wide ha ⟨s1.heap.objs.size,[s1.heap.objs.size],_,_,H1,rfl,I1.kept (t':=s1.toks) fun b o e=>Heap.get?_push_of_some _ e,ZfF x t _,⟨_,Heap.get?_push_size _ rfl,rfl,rfl⟩,fin,q⟩
 · exact wpAny_pyIter_ascii ha ⟨s1.heap.objs.size,[s1.heap.objs.size],_,_,H1,rfl,I1.kept (t':=s1.toks) fun b o e=>Heap.get?_push_of_some _ e,ZeP x t _,⟨_,Heap.get?_push_size _ rfl,rfl,rfl⟩,fin,q⟩
end
theorem Zcm {x:Str}{te:TE}{σ:St}{D:Addr}{Q:VK}{H:Hp}(hn:x.length≤sizeLine)(Pv:Nat→List V→Hp→Prop)(h0:Pv 0 [] (upd H D (.lst [])))
   (hl:∀ i ys H,Pv i ys H→ys.length=i)
   (hs:∀ i c ys H,x.cps[i]?=some c→Pv i ys H→te (σ++[some (.str ⟨#[c]⟩)]) H fun y H4=>H4 D=some (.lst ys)∧Pv (i+1) (ys++[y]) (upd H4 D (.lst (ys++[y])))) (hd:∀ ys H,Pv x.cps.size ys H→Q (.ref D) H):Ua (Its x) te σ D Q H:=by
 have hn':x.cps.size≤sizeLine:=hn
 refine ⟨fun i m ys H=>m=x.cps.size - i∧i≤x.cps.size∧Pv i ys H,⟨x.cps.size,by simp,Nat.zero_le _,h0⟩,?_⟩
 rintro i m ys H2 ⟨rfl,hi,p⟩
 have hlen:=hl i ys _ p
 by_cases hlt:i < x.cps.size
 · refine .inr ⟨hlt,_,fun y H4 (q:H4 D=some (.lst ys)∧Pv (i+1) (ys++[y]) (upd H4 D (.lst (ys++[y]))))=>⟨q.1,by omega,x.cps.size - (i+1),by omega,rfl,hlt,q.2⟩,fun v H3 y=>?_⟩
   obtain ⟨e,c,hc,e'⟩:=y
   subst e e'
   exact hs i c ys _ hc p
 · have e:i=x.cps.size:=by omega
   subst e
   exact .inl ⟨Nat.le_refl _,hd ys H2 p⟩
section
variable {X:Cx}
theorem XL:YG X (compareOp .LtE) (fun x y H Q=>∃ i j,x=.str i∧y=.str j∧Q (.bl (!(decide (j.cps.toList < i.cps.toList)))) H):=by
 intro pins s σ H x y v u Q I rx ry h
 obtain ⟨i,j,rfl,rfl,q⟩:=h
 obtain ⟨t,rfl⟩:=rx
 obtain ⟨t',rfl⟩:=ry
 exact PySem.P.le_str (ZK I q rfl)
theorem UG (hc:X.calm=true):YQ X (.builtin "all") (fun xs H Q=>∃ (a:Addr) (bs:List Bool),xs=[.ref a]∧SqL X.K H a (bs.map V.bl)∧Q (.bl (bs.all id)) H):=by
 intro pins s σ H xs us Q I r h
 obtain ⟨a,bs,rfl,hq,q⟩:=h
 obtain ⟨u,rfl,ru⟩:=YS r
 cases ru
 obtain ⟨its,rv,p,hz⟩:=I.list hq
 have hlen:=rv.length
 rw [List.length_map] at hlen
 have hal:a < s.heap.objs.size:=by obtain ⟨_,e,_⟩:=p.isList;exact Heap.lt_size e
 refine call_all_walk (wpAny_pyIter_list p.isList ⟨s.heap.objs.size,_,_,_,_,_,fun i=>bs.getD i false,rfl,Walks.list (A:=X.A.in1) (I.ok.hd hc) s.heap.objs.size a (Nat.ne_of_lt hal) its.toArray,⟨⟨_,Heap.get?_push_size _ rfl,rfl,rfl⟩,p.isList.push _⟩,?_,?_⟩)
 · intro i v s' Q' E' hv hQ'
   have hv':its[i]?=some v:=by simpa using hv
   have hi:i < bs.length:=by
     have:=(List.getElem?_eq_some_iff.mp hv').1
     omega
   obtain ⟨u,hu,ru⟩:=rv.get (i:=i) (x:=V.bl bs[i]) (by simp [hi])
   rw [hv'] at hu
   cases hu
   have e:v=Value.bool bs[i]:=ru
   subst e
   have hQ2:Q' (bs.getD i false) s':=hQ'
   rw [List.getD_eq_getElem?_getD,List.getElem?_eq_getElem hi] at hQ2
   exact wpAny_truthy_bool hQ2
 · intro h' tk hk
   have e:(List.range its.toArray.size).all (fun i=>bs.getD i false)=bs.all id:=by
     rw [List.size_toArray,← hlen]
     apply Bool.eq_iff_iff.mpr
     rw [List.all_eq_true,List.all_eq_true]
     constructor
     · intro z b hb
       obtain ⟨i,hi,rfl⟩:=List.mem_iff_getElem.mp hb
       have:=z i (List.mem_range.mpr hi)
       rwa [List.getD_eq_getElem?_getD,List.getElem?_eq_getElem hi] at this
     · intro z i hi
       have hi':=List.mem_range.mp hi
       rw [List.getD_eq_getElem?_getD,List.getElem?_eq_getElem hi']
       exact z _ (List.getElem_mem hi')
   rw [e]
   refine ⟨.bl (bs.all id),H,I.kept (t':=tk) fun b o eb=>hk b o ?_ (Heap.get?_push_of_some _ eb),rfl,q⟩
   intro hm
   have:b=s.heap.objs.size:=by simpa using hm
   rw [this] at eb
   exact absurd (Heap.lt_size eb) (Nat.lt_irrefl _)
theorem Zdr:∀{ys:List Str}{us:List Value},Vals (ys.map V.str) us→StrsAre us ys
 | [],_,.nil=>.nil
 | y::ys,_,.cons r t=>by obtain ⟨k,rfl⟩:=r;exact .cons _ _ (Zdr t)
theorem Xt:MtR X "str.join" (fun x xs H Q=>∃ sep a ys,x=.str sep∧xs=[.ref a]∧SqL X.K H a (ys.map V.str)∧(ys.map (·.length)).sum+ys.length * sep.length≤16777216∧Q (.str (Txt.join sep ys)) H):=by
 intro pins s σ H x xs v us Q I rx rv h
 obtain ⟨sep,a,ys,rfl,rfl,hq,hz,q⟩:=h
 obtain ⟨t,rfl⟩:=rx
 obtain ⟨u,rfl,ru⟩:=YS rv
 cases ru
 obtain ⟨its,r,p,_⟩:=I.list hq
 exact join_list p.isList (by simpa using Zdr r) hz fun t' k=>⟨.str _,H,I.tok k,⟨_,rfl⟩,q⟩
theorem Zad:SlR X (fun x lo hi H Q=>∃ z,x=.str z∧z.length≤sizeLine∧Q (.str (Txt.slice z lo hi)) H):=by
 intro pins s σ H x v vl vu lo hi sl Q I rx hs pl pu h
 obtain ⟨z,rfl,hz,q⟩:=h
 obtain ⟨t,rfl⟩:=rx
 refine ⟨"str",_,F.slot_str_getitem.lookup,typeIs_str _ _ _,?_⟩
 have fin:∀ (t':Tok) (k:Nat),EP X pins σ Q (.str (Txt.slice z lo hi) t') { s with toks:=k }:=fun t' k=>⟨.str _,H,I.tok k,⟨_,rfl⟩,q⟩
 obtain ⟨o,ho,hc,hd⟩:=hs
 cases pl<;>cases pu
 · exact wpAny_getItem_str_slice (l:=none) (u:=none) (st:=none) ⟨_,ho,hc,hd⟩ rfl (post_val_or_str ⟨Nat.le_trans (Txt.slice_le z _ _) hz,fin⟩)
 · rename_i j uj
   exact wpAny_getItem_str_slice (l:=none) (u:=some (j,uj)) (st:=none) ⟨_,ho,hc,hd⟩ rfl (post_val_or_str ⟨Nat.le_trans (Txt.slice_le z _ _) hz,fin⟩)
 · rename_i i ui
   exact wpAny_getItem_str_slice (l:=some (i,ui)) (u:=none) (st:=none) ⟨_,ho,hc,hd⟩ rfl (post_val_or_str ⟨Nat.le_trans (Txt.slice_le z _ _) hz,fin⟩)
 · rename_i i ui j uj
   exact wpAny_getItem_str_slice (l:=some (i,ui)) (u:=some (j,uj)) (st:=none) ⟨_,ho,hc,hd⟩ rfl (post_val_or_str ⟨Nat.le_trans (Txt.slice_le z _ _) hz,fin⟩)
theorem UM:YG X (binaryOp .Mult) (fun x y H Q=>∃ i n,x=.str i∧y=.int n∧MulOk i n∧Q (.str (Txt.mul i n)) H):=by
 intro pins s σ H x y v u Q I rx ry h
 obtain ⟨i,n,rfl,rfl,hok,q⟩:=h
 obtain ⟨t,rfl⟩:=rx
 obtain ⟨t',rfl⟩:=ry
 exact SB.mul hok fun t' k=>⟨.str _,H,I.tok k,⟨_,rfl⟩,q⟩
theorem Vi:YQ X (.type "str") (fun xs H Q=>(∃ i,xs=[.int i]∧i.natAbs.log2 < 1920∧Q (.str (toString i)) H)∨∃ z,xs=[.str z]∧Q (.str z) H):=by
 intro pins s σ H xs us Q I r h
 rcases h with h | ⟨z,rfl,q⟩
 · exact ZcI pins s σ H xs us Q I r h
 · obtain ⟨u,rfl,t,rfl⟩:=YS r
   exact PySem.P.str_of_str ⟨.str _,H,I,⟨_,rfl⟩,q⟩
end
section
variable {P:Program}{w:World}{H:Hp}{h:Heap}
end
section
variable {X:Cx}
end
end L2
namespace L2
open PySem PySem.Spec PyProof.Rows
def Def (P:Program)(w:World)(K:PySem.W.Frag)(mg:Str→Option Value)(base:Heap)(k:Nat)(x:Str)(ps:List Str)(sp:Sp):Prop :=
 ∃ f fd,FnOk P w K mg base ZR k f fd ps sp∧Binds K fd ps []∧PySem.W.keepIn K (.ref f)=true∧mg x=some (.ref f)
theorem Def.mono {P:Program}{w:World}{K:PySem.W.Frag}{mg:Str→Option Value}{base:Heap}{j k:Nat}{x:Str}{ps:List Str}{sp:Sp}(D:Def P w K mg base j x ps sp)(h:j≤k):Def P w K mg base k x ps sp :=
 let ⟨f,fd,F,b,kp,m⟩:=D;⟨f,fd,F.mono h,b,kp,m⟩
section
variable {X:Cx}{k:Nat}{x:Str}{ps:List Str}{sp:Sp}{p pos:Pos}{e:Expr}{es:List Expr}{t:TA}
theorem Zq (D:Def X.prog X.w X.K X.mg X.base k x ps sp)(hr:Room k X.A)(ha:PA X (e::es) t)(hg:Gl X x:=by rfl)(hdb:(x == ("__debug__":Str))=false:=by decide)
   (he:starEach (e::es) X.env=(false,eval e X.env)::starEach es X.env:=by rfl) (hpl:(backTo pos (starEach es X.env)).any (·.1)=false:=by rfl) :
   PE X (.Call (.Name x p) (e::es) [] pos) (Wo sp [] E0 t):=by
 obtain ⟨f,fd,F,b,kp,m⟩:=D
 exact ZiC F hr hg m kp b .nil Zll ha hdb he hpl
end
def Kp (p:Addr)(H H':Hp):Prop:=∀ q o,q≠p→H q=some o→H' q=some o
theorem Kp.trans {p:Addr}{H H1 H2:Hp}(a:Kp p H H1)(b:Kp p H1 H2):Kp p H H2:=fun q o n h=>b q o n (a q o n h)
theorem Kp.upd (p:Addr)(H:Hp)(o:HO):Kp p H (upd H p o):=fun q u n h=>by rw [Zo n];exact h
theorem Same.kp {H H':Hp}(a:Same H H')(p:Addr):Kp p H H':=fun q o _ h=>a q o h
theorem Zh {H:Hp}{p:Addr}(h:H p=none)(o:HO):Same H (upd H p o):=fun b u q=>by rw [Zo (ZH q h)];exact q
def BoxAt (H:Hp)(p:Addr)(n:Nat):Prop:=∃ a b c:Int,H p=some (.lst [.int a,.int b,.int c])∧0≤a∧0≤c∧c≤n
theorem BoxAt.same {H H':Hp}{p:Addr}{n:Nat}(h:BoxAt H p n)(s:Same H H'):BoxAt H' p n:=let ⟨a,b,c,e,r⟩:=h;⟨a,b,c,s _ _ e,r⟩
theorem BoxAt.le {H:Hp}{p:Addr}{n m:Nat}(h:BoxAt H p n)(l:n≤m):BoxAt H p m:=let ⟨a,b,c,e,h1,h2,h3⟩:=h;⟨a,b,c,e,h1,h2,by omega⟩
def Zax (M:Int):Sp:=fun vs H Q _=>∃(p:Addr)(n:Nat)(m:Int),vs=[.ref p,.int m]∧BoxAt H p n∧n≤1000000∧0 < m∧m < M∧∀(r:Int)(H':Hp),0≤r→r < m→BoxAt H' p (n+1)→Kp p H H'→Q (.int r) H'
def ZfR (K:PySem.W.Frag):Sp:=fun vs H Q _=>∃(a:Addr)(ns:List Int)(k:Int),vs=[.ref a,.int k]∧SqL K H a (ns.map V.int)∧0≤k∧∀(r:Int),Q (.int r) H
def Zij (K:PySem.W.Frag):Sp:=fun vs H Q _=>∃(a:Addr)(ns:List Int)(k:Int),vs=[.ref a,.int k]∧SqL K H a (ns.map V.int)∧0≤k∧k≤1000∧∀(p:Addr)(H':Hp),H p=none→BoxAt H' p 0→Same H H'→Q (.ref p) H'
theorem len1 {n:Nat}(h:n≤1000):n≤sizeLine:=Nat.le_of_lt (Zfv h)
end L2
namespace L2
open PySem PySem.Spec PyProof.Rows
def ZdV (N:List Str)(names:List (Str×NameKind))(scope:Scope)(x:Str):Bool :=
 decide ((WY N x++[x]).Nodup)&&scope.names.all (fun y=>(y.2 != .free || names.lookup y.1 == some .cell || names.lookup y.1 == some .free)&&(y.2 != .cell&&(y.2 != .local || scope.names.lookup y.1 == some .local))) &&
 ((scope.kind == .function&&scope.names.lookup x == some .local)&&N.all fun y=>y == x || scope.names.lookup y != some .local)&&scope.names.lookup ("":Str) == none
theorem CompOk.of {X:Cx}{scope:Scope}{x:Str}(N:List Str)(st:Stmt)(hN:X.N=N)(hn:X.env.scope=Zj st)(chk:ZdV N (Zj st).names scope x=true):CompOk X scope x:=by
 unfold ZdV at chk
 simp only [Bool.and_eq_true,decide_eq_true_eq,List.all_eq_true,Bool.or_eq_true,bne_iff_ne,beq_iff_eq] at chk
 obtain ⟨⟨⟨c1,c2⟩,⟨c3,c4⟩,c5⟩,c6⟩:=chk
 refine ⟨by rw [hN];exact c1,fun y hy hf=>?_,fun y hy=>(c2 y hy).2.1,c3,fun y hy hl=>?_,c4,fun y hy hx=>(c5 y (by rw [← hN];exact hy)).resolve_left hx,c6⟩
 · show X.env.scope.names.lookup y.1=_∨X.env.scope.names.lookup y.1=_
   rw [hn]
   rcases (c2 y hy).1 with (z | z) | z
   · exact absurd hf z
   · exact .inl z
   · exact .inr z
 · rcases (c2 y hy).2.2 with z | z
   · exact absurd hl z
   · exact z
theorem WR {x:Str}{te:TE}{σ:St}{D:Addr}{Q:VK}{H:Hp}(hn:x.length≤sizeLine)(g:Nat→V)(hs:∀ c (H':Hp) (R:VK),c∈x.cps.toList→R (g c) H'→te (σ++[some (.str ⟨#[c]⟩)]) H' R)
   (hd:Q (.ref D) (upd H D (.lst (x.cps.toList.map g)))):Ua (Its x) te σ D Q H:=by
 refine Zcm hn (fun i ys H'=>ys=(x.cps.toList.take i).map g∧H'=upd H D (.lst ys)∧i≤x.cps.size) ⟨rfl,rfl,Nat.zero_le _⟩ ?_ ?_ ?_
 · rintro i ys H' ⟨rfl,_,hi⟩
   rw [List.length_map,List.length_take]
   simp;omega
 · rintro i c ys H' hc ⟨rfl,rfl,hi⟩
   have hc':x.cps.toList[i]?=some c:=by simpa using hc
   refine hs c _ _ (List.mem_of_getElem? hc') ⟨Zd,?_,ZiS,(Array.getElem?_eq_some_iff.mp hc).1⟩
   rw [List.take_add_one,hc',List.map_append];rfl
 · rintro ys H' ⟨rfl,rfl,_⟩
   rw [List.take_of_length_le (by simp)]
   exact hd
theorem Zab:∀ (rest:List Str) (acc:Array Nat),(rest.foldl (fun acc p=>acc++(Str.ofString "").cps++p.cps) acc).toList=acc.toList++rest.flatMap (·.cps.toList)
 | [],acc=>by simp
 | p::r,acc=>by
   have e:(Str.ofString "").cps=#[]:=by decide +kernel
   rw [List.foldl_cons,Zab r,List.flatMap_cons,e]
   simp
theorem WG:∀ ys:List Str,(Txt.join (Str.ofString "") ys).cps.toList=ys.flatMap (·.cps.toList)
 | []=>rfl
 | y::r=>by
   show (List.foldl (fun acc p=>acc++(Str.ofString "").cps++p.cps) y.cps r).toList=_
   rw [Zab];rfl
theorem ZM (x:Str):x.length=x.cps.toList.length:=by simp [Str.length]
theorem Yw {x y:Str}(h:x.cps.toList=y.cps.toList):x=y:=by
 cases x;cases y;simp at h;simp [h]
theorem ZfU (s e:Int)(i j:Nat)(hs:s=i)(he:e=j):sliceRange s e 1=(List.range (j - i)).map (i+·):=by
 subst hs he
 unfold sliceRange
 simp only [show (1:Int) > 0 by decide,if_true]
 have e3:(if (i:Int) < (j:Int) then ((j:Int) - i+1 - 1) / 1 else 0).toNat=j - i:=by
   split
   · rw [Int.ediv_one];omega
   · omega
 rw [e3]
 apply List.map_congr_left
 intro k hk
 omega
theorem XD (z:Str)(lo hi:Option Int):(Txt.slice z lo hi).cps.toList=(z.cps.toList.drop (HT.sIx z.length 0 lo)).take (HT.sIx z.length z.length hi - HT.sIx z.length 0 lo):=by
 have key:Builtin.Str.strSliceIndices lo hi 1 z.length=(List.range (HT.sIx z.length z.length hi - HT.sIx z.length 0 lo)).map (HT.sIx z.length 0 lo+·):=by
   unfold Builtin.Str.strSliceIndices
   refine ZfU _ _ _ _ ?_ ?_
   · cases lo with
     | none=>rfl
     | some i=>simp only [HT.sIx,show (1:Int) > 0 by decide,if_true];split<;>omega
   · cases hi with
     | none=>rfl
     | some i=>simp only [HT.sIx,show (1:Int) > 0 by decide,if_true];split<;>omega
 have hj:HT.sIx z.length z.length hi≤z.length:=HT.sIx_le _ _ (Nat.le_refl _) hi
 unfold Txt.slice
 rw [key]
 split
 · rename_i h
   simp only [beq_self_eq_true,Bool.true_and,List.length_map,List.length_range,beq_iff_eq] at h
   have h0:HT.sIx z.length 0 lo=0∨z.length=0:=by omega
   rcases h0 with h0 | h0
   · rw [h0] at h ⊢
     rw [List.drop_zero,h,ZM,List.take_length]
   · have e:z.cps.toList=[]:=List.eq_nil_of_length_eq_zero (by rw [← ZM];exact h0)
     rw [e];simp
 · show (List.filterMap (fun k=>z.cps[k]?) ((List.range _).map _)).toArray.toList=_
   rw [List.filterMap_map]
   generalize HT.sIx z.length 0 lo=i at *
   generalize HT.sIx z.length z.length hi - i=n at *
   have gen:∀ (n i:Nat),List.filterMap ((fun k=>z.cps[k]?) ∘ (i+·)) (List.range n)=(z.cps.toList.drop i).take n:=by
     intro n
     induction n with
     | zero=>intro i;simp
     | succ n ih =>
       intro i
       rw [List.range_succ,List.filterMap_append,ih,List.take_add_one,List.getElem?_drop]
       congr 1
       simp only [List.filterMap_cons,List.filterMap_nil,Function.comp,Array.getElem?_toList]
       cases z.cps[i+n]?<;>rfl
   rw [gen]
theorem YZ (x y:Str):(x++y).cps.toList=x.cps.toList++y.cps.toList:=by
 show (x.cps++y.cps).toList=_
 simp
theorem XM (x y:Str):(x++y).length=x.length+y.length:=by rw [ZM,YZ,List.length_append,← ZM,← ZM]
def Ux (c:Nat):Bool:=decide (97≤c)&&decide (c≤122)
def Yz (c:Nat):Bool:=decide (32≤c)&&decide (c≤126)
theorem Zdn (c d:Nat):decide ([c] < [d])=decide (c < d):=by
 simp [List.cons_lt_cons_iff]
theorem Zcr (f:Nat→Bool)(l:List Nat):l.map (fun c=>V.bl (f c))=(l.map f).map V.bl:=by rw [List.map_map];rfl
theorem Zfr {X:Cx}{K:PySem.W.Frag}(hK:X.K=K):YQ X (.builtin "len") (fun xs H Q=>∃ x n,xs=[x]∧ZhG K x H n∧Q (.int n) H):=by subst hK;exact Zhf
@[reducible] def notStar:Expr→Bool
 | .Starred ..=>false
 | _=>true
theorem Zis {e:Expr}{es:List Expr}{env:Env}(h:notStar e=true):starEach (e::es) env=(false,eval e env)::starEach es env:=by
 cases e<;>first | rfl | cases h
section
variable {X:Cx}{k:Nat}{x:Str}{ps:List Str}{sp:Sp}{p pos:Pos}{e:Expr}{es:List Expr}{te:TE}{t:TA}
theorem XQ (ha:PE X e te)(hr:PA X es t)(h:notStar e=true):PA X (e::es) (Yf te t):=ZX ha hr (Zis h)
theorem Zb (ha:PE X e te)(hr:PA X es t)(h:notStar e=true:=by rfl):PA X (e::es) (Yf te t):=ZX ha hr (Zis h)
end
end L2
namespace L2
open PySem PySem.Spec PyProof.Rows
section
variable {X:Cx}
theorem ZbZ:YG X (binaryOp .FloorDiv) (rI (fun _ j=>0 < j∧j < 2 ^ 62) fun i j=>.int (i / j)):=opI fun i j _ _ _ _ _ hc q=>by
 have h1:(0:Int) < j:=hc.1
 have h2:j < 2 ^ 62:=hc.2
 refine floordiv_int (by omega) (by rw [Int.fdiv_eq_ediv_of_nonneg i (by omega)];exact q) (.inl (PyProof.noPylong_of_log2 ?_))
 have h3:j.natAbs≠0:=by omega
 have h4:j.natAbs < 2 ^ 9000:=Nat.lt_of_lt_of_le (show j.natAbs < 2 ^ 62 by omega) (Nat.pow_le_pow_right (by decide) (by decide))
 exact (Nat.log2_lt h3).mpr h4
end
end L2
namespace L2
open PySem PySem.Spec PyProof.Rows
section
variable {X:Cx}
end
section
variable {X:Cx}{tg:Expr}
end
end L2
set_option maxHeartbeats 2000000
namespace L2
open PySem PySem.Spec PyProof.Rows
section
variable {prog:Program}{w:World}{A:Around}{E:Value→Shared→Prop}{s:Shared}
end
end L2
set_option maxHeartbeats 2000000
namespace L2
open PySem PySem.Spec PyProof.Rows
section
variable {prog:Program}{w:World}{A:Around}{E:Value→Shared→Prop}{s:Shared}
theorem ZaI {T newId:String}{self a:Value}{kw:List (Str×Value)}(hl:typeLookup (.type T) "__init__"=pure (some (.builtin "object.__init__")))
   (hm:Bind.madeBy (.type T)=pure (some newId)) (hne:(some newId != some "object.__new__")=true) :
   Meets (Builtin.«object.__init__» ⟨[self,a],kw⟩) (fun _ R s=>s.TypeIs self T∧R (.ok (.ret .none)) s):=by
 refine Meets.of_wp fun prog w A R s hs=>?_
 obtain ⟨hT,hq⟩:=hs
 repeat (any_goals first | assumption | wp_step)
 exact ⟨_,rfl,hq⟩
theorem ZcS {T newId initId:String}{Bn Bi:Builtin}{args:List Value}{kw:List (Str×Value)}{S:PySem.Spec}{Q Q₁:Value→Shared→Prop}(ft:TypeCalled T newId initId)
   (hct:checkTypeCall T ⟨args,kw⟩=pure ()) (hcn:checkBuiltinCall newId ⟨.type T::args,kw⟩=pure ())
   (entryN:entryFor table newId=some Bn) (entryI:entryFor table initId=some Bi) (g:Meets (Bn ⟨.type T::args,kw⟩) S) (h:S A.in1 (wants Q₁ E) s)
   (hnext:∀ obj s₁,Q₁ obj s₁→s₁.TypeIs obj T∧argsOk initId ⟨obj::args,kw⟩∧∃ Si,Meets (Bi ⟨obj::args,kw⟩) Si∧Si A.in1 (wants (fun r s₂=>r=.none∧Q obj s₂) E) s₁) :
   wpAny (model prog w) A (call (.type T) args kw) Q E s:=by
 obtain ⟨c,tl,hmro⟩:=ft.mro
 have q1:=ft.made
 have q2:=ft.sub
 refine wpAny_call (codeAny_of_tree (show wpAny _ _ (callAny (.type T) _) _ _ _ from wpAny_pure ⟨Code.quiet_builtin _ (by decide +kernel),codeAny_builtin F.entry_type_call ?_⟩))
 rw [Around.under_plain (weight_type_call_type T args kw) (units_type_call_type T args kw)]
 have q3:=ft.notType
 have q4:=ft.canCreate
 repeat (any_goals first | assumption | wp_step)
 refine codeAny_mono (codeAny_call_builtin ft.plain entryN (wpAny_of_eq hcn (g prog w A.in1 _ s h))) fun r s₁ hr=>?_
 rcases r with e | fl
 · exact hr
 · cases fl with
   | ret obj =>
     obtain ⟨hT,hok,Si,gi,hsi⟩:=hnext _ _ hr
     have q5:=ft.init.lookup
     have q6:=ft.init.bind obj
     repeat (any_goals first | assumption | wp_step)
     refine codeAny_mono (codeAny_call_builtin ft.init.plain entryI (ft.init.check _ _ _ _ _ _ _ _ hT hok (gi prog w A.in1 _ s₁ hsi))) fun r₂ s₂ hr₂=>?_
     rcases r₂ with e | fl₂
     · exact hr₂
     · cases fl₂ with
       | ret r =>
         obtain ⟨rfl,hq⟩:=hr₂
         repeat (any_goals first | assumption | wp_step)
       | _=>exact hr₂.elim
   | _=>exact hr.elim
theorem UV (a b:Value):checkTypeCall "enumerate" ⟨[a],[("start",b)]⟩=pure ():=by kernel_rfl
theorem UZ (a b:Value):checkBuiltinCall "enumerate.__new__" ⟨[.type "enumerate",a],[("start",b)]⟩=pure ():=by kernel_rfl
theorem Zap (o a b:Value):argsOk "object.__init__" ⟨[o,a],[("start",b)]⟩:=by
 unfold argsOk
 rw [signature?_of (id:="object.__init__") (n:=['_','_','t','i','n','i','_','_']) (o:=['t','c','e','j','b','o']) (by kernel_rfl) F.owner_object]
 kernel_rfl
end
end L2
set_option maxHeartbeats 2000000
namespace L2
open PySem PySem.Spec PyProof.Rows
theorem Inv.turned2 {X:Cx}{pins:List (Addr×Obj)}{σ:St}{H:Hp}{s:Shared}{h':Heap}{t':Nat}{fp:List Addr}(I:Inv X pins σ H s)(k:∀ b o,b ∉ fp→s.heap.get? b=some o→h'.get? b=some o)(hf:∀ b∈fp,Yg X pins H b) :
   Inv X pins σ H { s with heap:=h',toks:=t' }:=by
 have nit:∀ b u,H b=some u→b ∉ fp:=fun b u e z=>by rw [(hf b z).1] at e;cases e
 refine I.step (g':=s.gens) (d':=s.drawn) (ch:=fp) (fun b hb=>?_) (fun b o _ _ hc e _=>k b o hc e) (fun b o _ _ hc e _=>⟨o.slots,k b o hc e⟩) (fun _ _ _ _ n=>n)
   (fun b o hc e=>⟨o,k b o hc e⟩) (fun _ _ e=>e) (fun _ _ _ e=>e) (fun b ps e=>⟨#[],by rw [e];simp⟩) (fun m hm=>?_) (fun b u e=>?_) I.bare
 · obtain ⟨f0,f1,f2,f3,f4,f5⟩:=hf b hb
   exact ⟨f3,f1,f4,f5⟩
 · obtain ⟨o,es,ep,ho,r⟩:=hm
   exact ⟨o,es,ep,k _ o (fun z=>(hf _ z).2.1 rfl) ho,r⟩
 · refine (I.hok b u e).stay (fun c v hc q=>k c v ?_ q) (fun _ q=>q) fun _ _ q=>q
   rcases hc with z | z
   · rw [z];exact nit b u e
   · exact nit c _ z
theorem VM {M:Model}{A:Around}{E:Value→Shared→Prop}{s:Shared}{pos:Pos}{T:String}{args:List (Bool×Sem Value)}{kws:List (Option Str×Sem Value)}{Q:Value→Shared→Prop}
   (h1:args.any (·.1)=false) (h2:kws.any (·.1.isNone)=false)
   (h:wpAny M A (evalArgs (.type T) true args kws) (fun a s₁=>wpAny M A (call (.type T) a.pos a.kw) Q E s₁) E s):wpAny M A (callWith pos (.type T) [] args kws) Q E s:=by
 unfold callWith
 refine wpAny_bind (wpAny_holding (Zm h fun a s₁ q=>wpAny_bind (wpAny_standAt ?_)))
 simp only [h1,h2,Bool.or_false]
 refine wpAny_bind (wpAny_pure (wpAny_bind (Zm q fun r s₂ hr=>?_)))
 exact wpAny_bind (wpAny_holding (wpAny_point (wpAny_pure hr)))
section
variable {X:Cx}
end
end L2
set_option maxHeartbeats 2000000
namespace L2
open PySem PySem.W PySem.Spec PyProof.Rows
section
variable {prog:Program}{w:World}{A:Around}{E:Value→Shared→Prop}{s:Shared}{a kS:Addr}{vs:List Value}{ks:List Str}{keys:Array Value}{e e1:Nat}{P:PySem.Fin→Shared→Prop}
end
end L2
set_option maxHeartbeats 2000000
namespace L2
open PySem PySem.W PySem.Spec PyProof.Rows
def ZaY (base:Heap)(mg:Str→Option Value):Prop:=∃ bm ob,mg "__builtins__"=some (.ref bm)∧bm≠builtinsNs∧base.get? bm=some ob∧ob.cls=.type "module"∧ob.dict=some builtinsNs∧ob.data=.plain
def Zed (ts:List Addr)(H:Hp):Prop:=∀ b,H b=none∨(∃ o xs,H b=some (.frz o (.lst xs)))∨(H b=some (.tbl #[])∧b∈ts)
theorem ZfH {P:Program}{w:World}{K:PySem.W.Frag}{mg mb:Str→Option Value}{CX:WZ}{k:Nat}{fa a:Addr}{fd:FuncData}{x:Str}{sp:Sp}{s₁:Shared}{vs:List Value}{ns:List Int}{ts:List Addr}
   (KX:K.In s₁.heap) (hns:s₁.heap.Ns mainGlobals mg) (hb:s₁.heap.Ns builtinsNs mb) (hbb:∀ x:Str,x≠"__name__"→mb x=bootBuiltins x) (hlim:s₁.heap.NoLimit) (hg:s₁.gens=#[]) (hbm:ZaY s₁.heap mg)
   (ha:s₁.heap.get? a=some { cls:=.type "list",data:=.seq vs.toArray }) (hi:IntsAre vs ns) (hl:ns.length≤sizeLine) (hr:Room k callerA)
   (hts:∀ b∈ts,s₁.heap.get? b=some (tabObj #[])∧K.lookup b=none∧∃ c,CodeHd s₁.heap c b)
   (F:∀ base:Heap,K.In base→base.Ns mainGlobals mg→ZaY base mg→FnOk P w K mg base CX k fa fd [x] sp) (hbind:∀ (s:Shared) (u:Value),BindsTo s fd ⟨[u],[]⟩ [(x,u)])
   (hsp:∀ H:Hp,Zed ts H→SqL K H a (ns.map V.int)→(∀ b∈ts,H b=some (.tbl #[]))→sp [.ref a] H (fun v _=>v=.bl true) fun _ _ _=>False)
   (hCX:∀ H e s',CX [] H s₁ (fun _ _ _=>False) e s'→False) :
   codeAny (model P w) callerA (.call (.ref fa) ⟨[.ref a],[]⟩) (fun r s'=>r=.ok (.ret (.bool true))∧OldK s₁.heap s'.heap∧s'.os=s₁.os∧AllBare s'.gens) s₁:=by
 have rv:=Zbh hi
 have lenV:=hi.length
 have nta:a ∉ ts:=fun z=>by
   have e:=(hts a z).1
   rw [ha] at e;cases e
 have core : ∀ H:Hp,Zed ts H→SqL K H a (ns.map V.int)→HOk P w H s₁.heap→(∀ b∈ts,H b=some (.tbl #[]))→(∀ b,H b≠none→b=a∨b∈ts)→(∀ b,H b≠none→K.lookup b=none) →
     codeAny (model P w) callerA (.call (.ref fa) ⟨[.ref a],[]⟩) (fun r s'=>r=.ok (.ret (.bool true))∧OldK s₁.heap s'.heap∧s'.os=s₁.os∧AllBare s'.gens) s₁:=by
   intro H hO hS hok hT hA hK
   have base_of:∀ {b:Addr} {o:Obj},s₁.heap.get? b=some o→H b=none→(Ue s₁.heap H).get? b=some o:=fun y n=>ZhS y n
   have free:∀ {b:Addr} {o:Obj},s₁.heap.get? b=some o→(∀ its n,o.data≠.seq its n)→(∀ fs,o.data≠.fields fs)→H b=none:=fun {b o} y d1 d2=>by
     cases q:H b with
     | none=>rfl
     | some u =>
       rcases hA b (by rw [q];simp) with z | z
       · subst z
         rw [ha] at y;cases y
         exact absurd rfl (d1 _ _)
       · rw [(hts b z).1] at y;cases y
         exact absurd rfl (d2 _)
   have nsK:∀ {b:Addr} {m:Str→Option Value},s₁.heap.Ns b m→(Ue s₁.heap H).Ns b m:=fun {b m} ⟨o,es,ep,y,d,r⟩=>⟨o,es,ep,base_of y (free y (fun its n z=>by rw [d] at z;cases z) fun fs z=>by rw [d] at z;cases z),d,r⟩
   have hKb:K.In (Ue s₁.heap H):=fun b o y=>base_of (KX b o y) (by
     cases q:H b with
     | none=>rfl
     | some u=>rw [hK b (by rw [q];simp)] at y;cases y)
   have hBm:ZaY (Ue s₁.heap H) mg:=by
     obtain ⟨bm,ob,h1,h2,h3,h4,h5,h6⟩:=hbm
     exact ⟨bm,ob,h1,h2,base_of h3 (free h3 (fun its n z=>by rw [h6] at z;cases z) fun fs z=>by rw [h6] at z;cases z),h4,h5,h6⟩
   have hM:Mod K mg (Ue s₁.heap H):=⟨hKb,nsK hns,⟨mb,nsK hb,hbb⟩,let ⟨mc,h1,h2⟩:=hlim;⟨mc,nsK h1,h2⟩⟩
   have e0:Zcb P w K mg (Ue s₁.heap H) callerA [] s₁ H:=⟨rfl,hM,fun b o e=>ZiK e,Nat.le_of_eq (ZfQ _ _),trivial,fun b hb=>absurd (show b∈([]:List Addr) from hb) (by simp),hok,.of_eq hg⟩
   refine codeAny_mono ((F _ hKb (nsK hns) hBm).run callerA [] s₁ H ⟨[.ref a],[]⟩ [.ref a] [.ref a] _ _ hr e0 (hbind s₁ (.ref a)) (.cons rfl .nil) (hsp H hO hS hT)) fun r s' h=>?_
   cases r with
   | error e=>exact (hCX H e s' h).elim
   | ok fl =>
     cases fl with
     | next=>exact False.elim h
     | brk=>exact False.elim h
     | cont=>exact False.elim h
     | ret u =>
       obtain ⟨v,H',os,bare,un,hok',r',q⟩:=h
       have q':v=.bl true:=q
       subst q'
       obtain rfl:u=Value.bool true:=r'
       have key:∀ b o,s₁.heap.get? b=some o→s'.heap.get? b=some o∨(b∈ts∧∃ more:Array Value,s'.heap.get? b=some (tabObj (#[]++more))):=fun b o y=>by
         cases q:H b with
         | none=>exact .inl (un.keep b o y q (by intro z;exact absurd (show b∈([]:List Addr) from z) (by simp)) (by simp))
         | some u =>
           rcases hO b with z | ⟨ob,xs,z⟩ | ⟨z,zt⟩
           · rw [q] at z;cases z
           · have z2:=un.frzs b ob _ z
             obtain ⟨e1,_⟩:=hok b _ z
             obtain ⟨e2,_⟩:=hok' b _ z2
             rw [y] at e1;cases e1
             exact .inl e2
           · obtain ⟨more,z2⟩:=un.tbls b #[] z
             exact .inr ⟨zt,more,show s'.heap.get? b=some { cls:=.none,data:=.fields (#[]++more) } from hok' b _ z2⟩
       refine ⟨rfl,⟨fun b o y=>?_,fun b o y=>?_⟩,os,bare⟩
       · rcases key b o y with z | ⟨zt,more,z⟩
         · exact .inl z
         · obtain ⟨t1,_,c,t3⟩:=hts b zt
           rw [t1] at y;cases y
           exact .inr (.inl ⟨(t3.tab t1).isCodeTable,rfl,#[],more,rfl,z⟩)
       · rcases key b o y with z | ⟨zt,more,z⟩
         · exact ⟨_,z⟩
         · exact ⟨_,z⟩
 have okT:∀ (H:Hp) (b:Addr),b∈ts→ObjOk P w H s₁.heap b (.tbl #[]):=fun H b hb=>(hts b hb).1
 cases hk:K.lookup a with
 | some o =>
   have e:=KX a o hk
   rw [ha] at e
   cases e
   refine core (fun b=>if b∈ts then some (.tbl #[]) else none) (fun b=>?_) (.inr ⟨_,vs.toArray,_,hk,rfl,rfl,rfl,by rw [List.size_toArray,lenV];exact hl,by simpa using rv⟩) (fun b u z=>?_) (fun b hb=>if_pos hb) (fun b z=>?_) (fun b z=>?_)
   · by_cases hb:b∈ts
     · exact .inr (.inr ⟨if_pos hb,hb⟩)
     · exact .inl (if_neg hb)
   · by_cases hb:b∈ts
     · have z':=(if_pos hb).symm.trans z
       cases z'
       exact okT _ b hb
     · have z':=(if_neg hb).symm.trans z
       cases z'
   · by_cases hb:b∈ts
     · exact .inr hb
     · exact absurd (if_neg hb) z
   · by_cases hb:b∈ts
     · exact (hts b hb).2.1
     · exact absurd (if_neg hb) z
 | none =>
   refine core (fun b=>if b=a then some (.frz { cls:=.type "list",data:=.seq vs.toArray } (.lst (ns.map V.int))) else if b∈ts then some (.tbl #[]) else none) (fun b=>?_) (.inl (.inr ⟨{ cls:=.type "list",data:=.seq vs.toArray },if_pos rfl⟩)) (fun b u z=>?_)
     (fun b hb=>(if_neg (fun z:b=a=>nta (by rw [← z];exact hb))).trans (if_pos hb)) (fun b z=>?_) (fun b z=>?_)
   · by_cases h1:b=a
     · exact .inr (.inl ⟨_,_,if_pos h1⟩)
     · by_cases hb:b∈ts
       · exact .inr (.inr ⟨(if_neg h1).trans (if_pos hb),hb⟩)
       · exact .inl ((if_neg h1).trans (if_neg hb))
   · by_cases h1:b=a
     · have z':=(if_pos h1).symm.trans z
       cases z'
       subst h1
       exact ⟨ha,by rw [List.length_map];exact hl,vs,_,rv,ha⟩
     · have z1:=(if_neg h1).symm.trans z
       by_cases hb:b∈ts
       · have z':=(if_pos hb).symm.trans z1
         cases z'
         exact okT _ b hb
       · have z':=(if_neg hb).symm.trans z1
         cases z'
   · by_cases h1:b=a
     · exact .inl h1
     · by_cases hb:b∈ts
       · exact .inr hb
       · exact absurd ((if_neg h1).trans (if_neg hb)) z
   · by_cases h1:b=a
     · rw [h1];exact hk
     · by_cases hb:b∈ts
       · exact (hts b hb).2.1
       · exact absurd ((if_neg h1).trans (if_neg hb)) z
theorem walk_ofT {l:PySem.W.OpenLaw}{n k:Nat}{q:Program}{loose:List Str}{XP:(Str→Option Value)→Heap→Prop}{YP:World→Heap→Prop}{d:DefRec}{K:Params→PySem.W.Frag}{CX:World→WZ}{sp:World→Sp}{x:Str}{ts:List Addr}
   (hn:l.most=some n) (hn2:n≤sizeLine) (hdf:d.params.defaults=[]) (hr:Room k callerA)
   (hY:∀ (w:World) (h:Heap),YP w h→(K w.params).In h∧∀ b∈ts,h.get? b=some (tabObj #[]))
   (hK:∀ (w:World) (b:Addr),b∈ts→(K w.params).lookup b=none∧∃ c,codeHdIn (K w.params) c b=true)
   (F:∀ (w:World) (mg:Str→Option Value) (fa:Addr) (h:Heap),(K w.params).In h→h.Ns mainGlobals mg→mg d.name=some (.ref fa) →
     ∃ fd:FuncData,(∀ (s:Shared) (u:Value),BindsTo s fd ⟨[u],[]⟩ [(x,u)]) ∧
       ∀ base:Heap,(K w.params).In base→base.Ns mainGlobals mg→ZaY base mg→FnOk l.prog w (K w.params) mg base (CX w) k fa fd [x] (sp w))
   (hsp:∀ (w:World) (H:Hp) (a:Addr) (ns:List Int),ns.length≤n→Zed ts H→SqL (K w.params) H a (ns.map V.int)→(∀ b∈ts,H b=some (.tbl #[]))→sp w [.ref a] H (fun v _=>v=.bl true) fun _ _ _=>False)
   (hCX:∀ (w:World) (H:Hp) (s:Shared) (e:Value) (s':Shared),CX w [] H s (fun _ _ _=>False) e s'→False) :
   PySem.W.WalkO q loose XP YP l.row.toRowW d [] (fun f vs=>PySem.call f vs):=by
 refine Att.attach_call hn hdf fun w s₀ s₁ mg mb fa o pm cd doc a vs ns G Y ho hd hcd hmg hobj hints hlen hg=>?_
 obtain ⟨KX,hT⟩:=hY w _ Y
 obtain ⟨fd,hb,hF⟩:=F w mg fa _ KX G.T.g hmg
 exact ZfH (ts:=ts) KX G.T.g G.T.b G.T.builtins G.T.nolimit hg G.T.bmain hobj hints (Nat.le_trans hlen hn2) hr (fun b hb'=>⟨hT b hb',(hK w b hb').1,let ⟨c,hc⟩:=(hK w b hb').2;⟨c,codeHd_of_K KX hc⟩⟩) hF hb (fun H hO hS hTb=>hsp w H a ns hlen hO hS hTb) fun H e s'=>hCX w H s₁ e s'
end L2
set_option maxHeartbeats 2000000
namespace L2
open PySem PySem.W PySem.Spec PyProof.Rows
section
variable {prog:Program}{w:World}{A:Around}{E:Value→Shared→Prop}{s:Shared}
end
section
variable {X:Cx}{pins:List (Addr×Obj)}{σ:List (Option V)}{H:Hp}{s:Shared}{h':Heap}
end
section
variable {X:Cx}
end
end L2
set_option maxHeartbeats 4000000
namespace L2
open PySem PySem.W PySem.Spec PyProof.Rows
section
variable {prog:Program}{w:World}{A:Around}{E:Value→Shared→Prop}{s:Shared}
end
section
variable {prog:Program}{w:World}{A:Around}{R:Result→Shared→Prop}
end
section
variable {prog:Program}{w:World}{A:Around}{E:Value→Shared→Prop}{s:Shared}
end
section
variable {X:Cx}
end
end L2
set_option maxHeartbeats 2000000
namespace L2
open PySem PySem.W PySem.Spec PyProof.Rows
section
variable {X:Cx}{pins:List (Addr×Obj)}{σ:List (Option V)}{H H':Hp}{s:Shared}{h':Heap}
end
section
variable {X:Cx}
end
end L2
set_option maxHeartbeats 2000000
namespace L2
open PySem PySem.W PySem.Spec PyProof.Rows
section
variable {O:KeyOrd}{key:Nat→O.α}{n:Nat}{s:Shared}{cmp:Nat→Nat→(Bool→Shared→Prop)→Shared→Prop}
end
end L2
set_option maxHeartbeats 2000000
namespace L2
open PySem PySem.W PySem.Spec PyProof.Rows
section
variable {P:Program}{w:World}{K:PySem.W.Frag}{mg:Str→Option Value}{base:Heap}
end
theorem Zip {X:Cx}{st:Stmt}:PS X st (fun _ _ _=>False):=fun _ _ _ _ _ _ h=>h.elim
structure TF (H H':Hp):Prop where
 tup:∀ b xs,H b=some (.tup xs)→H' b=some (.tup xs)
 frz:∀ b o u,H b=some (.frz o u)→H' b=some (.frz o u)
theorem TF.trans {H H1 H2:Hp}(a:TF H H1)(b:TF H1 H2):TF H H2:=⟨fun x xs h=>b.tup x xs (a.tup x xs h),fun x o u h=>b.frz x o u (a.frz x o u h)⟩
theorem Same.tf {H H':Hp}(h:Same H H'):TF H H':=⟨fun b _ e=>h b _ e,fun b _ _ e=>h b _ e⟩
theorem Zak {H:Hp}{l:Addr}{xs:List V}{o:HO}(h:H l=some (.lst xs)):TF H (upd H l o) :=
 ⟨fun b _ y=>by rw [Zo (fun z=>by rw [z,h] at y;cases y)];exact y,fun b _ _ y=>by rw [Zo (fun z=>by rw [z,h] at y;cases y)];exact y⟩
theorem Uo {H:Hp}{l:Addr}{xs:List (ZU×V)}{o:HO}(h:H l=some (.dK xs)):TF H (upd H l o) :=
 ⟨fun b _ y=>by rw [Zo (fun z=>by rw [z,h] at y;cases y)];exact y,fun b _ _ y=>by rw [Zo (fun z=>by rw [z,h] at y;cases y)];exact y⟩
theorem SqT.tf {K:PySem.W.Frag}{H H':Hp}{a:Addr}{xs:List V}(h:SqT K H a xs)(t:TF H H'):SqT K H' a xs:=by
 rcases h with (h | ⟨o,h⟩) | h
 · exact .inl (.inl (t.tup _ _ h))
 · exact .inl (.inr ⟨o,t.frz _ _ _ h⟩)
 · exact .inr h
end L2
set_option maxHeartbeats 2000000
namespace L2
open PySem
def ZbR (J:It)(tc:TT)(te:TE)(σ:St)(D:Addr)(Q:VK)(H1:Hp):Prop :=
 ∃ W : Nat→Nat→List V→Hp→Prop,(∃ m,W 0 m [] (upd H1 D (.lst [])))∧∀ i m ys H2,W i m ys H2 →
   (J.stop i H2∧Q (.ref D) H2)∨(J.go i H2∧∃ (N:VK) (M:Hp→Prop),(∀ y H4,N y H4→H4 D=some (.lst ys)∧ys.length < sizeLine∧∃ m',m' < m∧W (i+1) m' (ys++[y]) (upd H4 D (.lst (ys++[y]))))∧(∀ H4,M H4→∃ m',m' < m∧W (i+1) m' ys H4) ∧
     ∀ v H3,J.yld i H2 v H3→tc (σ++[some v]) H3 fun b H4=>if b=true then te (σ++[some v]) H4 N else M H4)
def ZfC (wi:TI)(tc:TT)(te:TE):TE:=fun σ H Q=>wi σ H fun J H1=>∀ D,H1 D=none→ZbR J tc te σ D Q H1
section
variable {X:Cx}{elt iter cnd:Expr}{x:Str}{px pos:Pos}{scope:Scope}{wi:TI}{te:TE}{tc:TT}
theorem UI {prog:Program}{w:World}{A:Around}{R:Result→Shared→Prop}{s:Shared}{elt target iter cnd:Expr}{scope:Scope}{pos:Pos}{it acc:Value}{env:Env}(I:Nat→Shared→Prop)
   (turn : ∀ n s,I n s→wpAny (model prog w) A (pyNext it) (fun r s₁=>match r with
     | none=>R (.ok .next) s₁
     | some v=>wpAny (model prog w) A (letOwnedTupleGo target it v) (fun _ s1'=>wpAny (model prog w) A (assign target env v) (fun _ s₂=>wpAny (model prog w) A (isTrue cnd env (eval cnd env)) (fun ok s2'=>if ok=true then wpAny (model prog w) A (eval elt env) (fun x s₃ =>
         wpAny (model prog w) A (call (.builtin "list.append") [acc,x]) (fun _ s₄=>∃ m,m < n∧I m s₄) (fun _ _=>False) s₃)
         (fun _ _=>False) s2' else ∃ m,m < n∧I m s2') (fun _ _=>False) s₂) (fun _ _=>False) s1') (fun _ _=>False) s₁) (fun _ _=>False) s)
   (n:Nat) (h:I n s) :
   codeAny (model prog w) A (.compLoop (.ListComp elt [⟨target,iter,[cnd],0⟩] scope pos) 0 it acc env) R s:=by
 refine codeAny_loop rfl I (fun n s hI=>?_) n h
 show wpAny _ _ ((compTurn (.ListComp elt [⟨target,iter,[cnd],0⟩] scope pos) 0 it acc env).onRaise (fun x=>do noteFrame x env;theTreesLotGoes x)) _ _ s
 refine wpAny_noted ?_
 rw [compTurn_list]
 refine wpAny_bind (wpAny_standAt (wpAny_bind (wpAny_mono (turn n s hI) (fun r s₁ h₁=>?_) fun _ _ h'=>h'.elim)))
 cases r with
 | none=>exact wpAny_pure h₁
 | some v =>
   refine wpAny_bind (wpAny_mono h₁ (fun _ s1' h1'=>?_) fun _ _ h'=>h'.elim)
   refine wpAny_bind (wpAny_mono h1' (fun _ s₂ h₂=>wpAny_bind (wpAny_tests_one (wpAny_mono h₂ (fun ok s₃ h₃=>?_) fun _ _ h'=>h'.elim))) fun _ _ h'=>h'.elim)
   cases ok with
   | false=>exact wpAny_pure ⟨rfl,h₃⟩
   | true =>
     exact wpAny_bind (wpAny_bind (wpAny_mono h₃ (fun x s₄ h₄=>wpAny_bind (wpAny_mono h₄ (fun _ s₅ h₅=>wpAny_pure (wpAny_pure ⟨rfl,h₅⟩)) fun _ _ h'=>h'.elim)) fun _ _ h'=>h'.elim))
theorem VD {pins:List (Addr×Obj)}{σ:St}{H2:Hp}{s₂:Shared}{J:It}{fp:List Addr}{it:Addr}{tn:Nat→Heap→Prop}{cl:List (Str×Addr)}{E:Value→Shared→Prop}{Q:VK}{RR:Value→Addr→Result→Shared→Prop}
   (O:CompOk X scope x) (hc:X.calm=true) (cl1:∀ y c,cl.lookup y=some c→X.env.cells.lookup y=some c) (cl2:∀ y∈scope.names,y.2=.free→cl.lookup y.1≠none)
   (hcn:∀ cl C s₀ H₀ fp,PT (ZS X scope x cl C s₀ H₀ fp) cnd tc) (he:∀ cl C s₀ H₀ fp,PE (ZS X scope x cl C s₀ H₀ fp) elt te)
   (I2:Inv X pins σ H2 s₂) (T:Wm X.prog X.w X.K (.Name x px) J fp it tn) (st:tn 0 s₂.heap) (f2:∀ b∈fp,Yg X pins H2 b)
   (h:∀ D,H2 D=none→ZbR J tc te σ D Q H2)
   (hRR:∀ D C H' s',Inv X pins σ H' s'→Yg X pins H' C→(∃ m,s'.heap.Ns C m)→Q (.ref D) H'→RR (.ref D) C (.ok .next) s') :
   wpAny (model X.prog X.w) X.A (newList []) (fun acc s₃=>wpAny (model X.prog X.w) X.A (newFunctionEnv scope X.env.globals cl [] X.env.qual none .none (some X.env)) (fun cenv s₄ =>
     codeAny (model X.prog X.w) X.A (.compStart (.ListComp elt [⟨.Name x px,iter,[cnd],0⟩] scope pos) 0 (.ref it) acc { cenv with scope:=relabel scope X.env }) (RR acc cenv.locals) s₄) E s₃) E s₂:=by
 have hD:H2 s₂.heap.objs.size=none:=I2.hok.fresh (Nat.le_refl _)
 refine wpAny_newObj_type ?_
 have I3:Inv X pins σ (upd H2 s₂.heap.objs.size (.lst [])) { s₂ with heap:=s₂.heap.push { cls:=.type "list",data:=.seq ([]:List Value).toArray } } :=
   I2.laid (t':=s₂.toks) (fun b u e=>Heap.get?_push_of_some _ e) (Nat.le_refl _) ⟨Nat.zero_le _,[],_,.nil,Heap.get?_push_size _ rfl⟩
 have f3:∀ b∈fp,Yg X pins (upd H2 s₂.heap.objs.size (.lst [])) b:=fun b hb=>by
   obtain ⟨g0,g1⟩:=f2 b hb
   obtain ⟨o,e,_⟩:=T.obj 0 _ st b hb
   exact ⟨by rw [Zo (Nat.ne_of_lt (Heap.lt_size e))];exact g0,g1⟩
 have st3:tn 0 (s₂.heap.push { cls:=.type "list",data:=.seq ([]:List Value).toArray }):=T.keep _ _ _ st fun b hb o e=>Heap.get?_push_of_some _ e
 obtain ⟨W,⟨m0,w0⟩,turn⟩:=h _ hD
 generalize hDe:s₂.heap.objs.size=D at I3 f3 w0 turn ⊢
 generalize hH3:upd H2 D (.lst [])=H3 at I3 f3 w0 turn ⊢
 generalize hs3:({ s₂ with heap:=s₂.heap.push { cls:=.type "list",data:=.seq ([]:List Value).toArray } }:Shared)=s₃ at I3
 have st3':tn 0 s₃.heap:=by rw [← hs3];exact st3
 have hobj:∀ b∈fp,b < s₃.heap.objs.size:=fun b hb=>by
   obtain ⟨o,e,_⟩:=T.obj 0 _ st3' b hb
   exact Heap.lt_size e
 refine wpAny_newFunctionEnv O.cell (by intro y hy;simp at hy) (fun h₁ hns₁ hsb₁=>?_) O.kind
 have old:∀ b o,s₃.heap.get? b=some o→h₁.get? b=some o:=fun b o e=>hsb₁.extBut b o (Nat.ne_of_lt (Heap.lt_size e)) (Heap.get?_push_of_some _ e)
 generalize hs4:({ s₃ with heap:=h₁,toks:=s₃.toks+([]:List (Str×Value)).length }:Shared)=s₄
 have h4:s₄.heap=h₁:=by rw [← hs4]
 have hX:∀ C,Yg X pins C s₃.heap.objs.size→True:=fun _ _=>trivial
 have ok':(ZS X scope x cl s₃.heap.objs.size s₃ H3 fp).Ok:=by
   refine ⟨I3.ok.mod,O.kind,I3.ok.glob,I3.ok.blt,Nat.le_refl _,?_,?_,?_,I3.ok.hd,I3.ok.frames,.inl rfl,?_,I3.bs,Nat.le_trans I3.ok.bsz I3.sz,?_,?_,I3.stack,I3.stkFree⟩
   · exact fun y z c e1 e2=>I3.ok.inj y z c (cl1 y c e1) (cl1 z c e2)
   · intro y hk
     have hf:scope.names.lookup y=some .free:=by
       rcases hk with hk | hk
       · rcases Zw O.cell hk with q | q
         · exact absurd rfl (O.cell _ (mem_of_lookup q))
         · exact q.1
       · rcases Zw O.cell hk with q | q
         · exact q
         · cases q.2
     have:=cl2 _ (mem_of_lookup hf) rfl
     cases e:cl.lookup y with
     | none=>exact absurd e this
     | some c=>exact ⟨c,e⟩
   · intro y c hf;cases hf
   · intro b hb
     obtain ⟨g0,g1,g2,g3,g4,g5⟩:=f3 b hb
     exact ⟨Nat.ne_of_lt (hobj b hb),fun y c e=>g4 y c (cl1 y c e)⟩
   · intro b o e hb
     obtain ⟨g0,g1,g2,g3,g4,g5⟩:=f3 b hb
     rcases g3 with g3 | g3
     · exact I3.ok.noex b o e g3
     · exact absurd (Heap.lt_size e) (Nat.not_lt.mpr (Nat.le_trans I3.ok.bsz g3))
   · intro b hb hs
     obtain ⟨g0,g1,g2,g3,g4,g5⟩:=f3 b hb
     rcases List.mem_cons.mp (I3.stkSub b hs) with e | e
     · exact g1 e
     · exact g2 e
 have I4 : Inv (ZS X scope x cl s₃.heap.objs.size s₃ H3 fp) [] (σ++[none]) H3 s₄:=by
   obtain ⟨m,hm,hl⟩:=I3.loc
   refine ⟨ok',by rw [← hs4];rfl,by rw [← hs4];exact I3.bare,by rw [h4];exact Un.kept old,⟨_,by rw [h4];exact hns₁,?_⟩,?_,I3.hok.fresh (Nat.le_refl _),fun y c e=>I3.freeC y c (cl1 y c e),?_,by rw [h4];exact I3.hok.kept old,?_⟩
   · intro i y v e1 e2 e3
     have hlt:i < σ.length:=by
       rcases Nat.lt_or_ge i σ.length with z | z
       · exact z
       · rw [List.getElem?_append_right z] at e2
         cases e:i - σ.length with
         | zero=>rw [e] at e2;simp at e2
         | succ k=>rw [e] at e2;simp at e2
     rw [List.getElem?_append_left hlt] at e2
     have hsm:∃ k,scope.names.lookup y=some k:=by
       rcases e3 with hk | hk | hk
       · rcases Zw O.cell hk with q | q
         · exact ⟨_,q⟩
         · exact ⟨_,q.1⟩
       · rcases Zw O.cell hk with q | q
         · exact ⟨_,q⟩
         · exact ⟨_,q.1⟩
       · rcases Zw O.cell hk with q | q
         · exact ⟨_,q⟩
         · exact ⟨_,q.1⟩
     obtain ⟨e1',hyx⟩:X.N[i]?=some y∧y≠x:=by
       have e1:(WY X.N x++[x])[i]?=some y:=e1
       rw [List.getElem?_append_left (by rw [XN,← I3.len];exact hlt)] at e1
       rcases Vx e1 with z | z
       · exact z
       · obtain ⟨k,hk⟩:=hsm
         rw [z,O.noh] at hk;cases hk
     have hy:y∈X.N:=List.mem_of_getElem? e1'
     have hf:scope.names.lookup y=some .free:=by
       rcases e3 with hk | hk | hk
       · rcases Zw O.cell hk with q | q
         · exact absurd q (O.own y hy hyx)
         · exact q.1
       · rcases Zw O.cell hk with q | q
         · exact absurd rfl (O.cell _ (mem_of_lookup q))
         · exact q.1
       · rcases Zw O.cell hk with q | q
         · exact q
         · exact q.1
     have hk:=O.clos _ (mem_of_lookup hf) rfl
     have hv:Vis X.env.scope y:=by rcases hk with z | z;exact .inr (.inl z);exact .inr (.inr z)
     obtain ⟨u,ru,lu⟩:=hl i y v e1' e2 hv
     refine ⟨u,ru,?_⟩
     have hkc:(compEnvC scope cl s₃.heap.objs.size X.env).kindOf y=some .cell∨(compEnvC scope cl s₃.heap.objs.size X.env).kindOf y=some .free:=by
       rcases e3 with q | q | q
       · rcases Zw O.cell q with z | z
         · exact absurd z (O.own y hy hyx)
         · cases z.2
       · exact .inl q
       · exact .inr q
     rcases lu with ⟨q,_⟩ | ⟨_,c,hcl,hcc⟩
     · rcases hk with z | z<;>(rw [q] at z;cases z)
     · refine .inr ⟨hkc,?_⟩
       cases e:cl.lookup y with
       | none=>exact absurd e (cl2 _ (mem_of_lookup hf) rfl)
       | some c' =>
         have:=cl1 y c' e
         rw [hcl] at this
         cases this
         refine ⟨c,e,?_⟩
         rw [h4]
         obtain ⟨oc,ho,hd⟩:=hcc
         exact ⟨oc,old _ _ ho,hd⟩
   · intro y c e
     obtain ⟨v,oc,ho,hd⟩:=I3.cell y c (cl1 y c e)
     exact ⟨v,oc,by rw [h4];exact old _ _ ho,hd⟩
   · intro p hp;cases hp
   · show (σ++[none]).length=(WY X.N x++[x]).length
     rw [List.length_append,List.length_append,XN,I3.len];rfl
 have st4:tn 0 s₄.heap:=by rw [h4];exact T.keep _ _ _ st3' fun b hb o e=>old b o e
 have fpok:∀ {H':Hp},(∀ b∈fp,H' b=none)→∀ b∈fp,Yg (ZS X scope x cl s₃.heap.objs.size s₃ H3 fp) [] H' b:=fun hn b hb=>by
   obtain ⟨g0,g1,g2,g3,g4,g5⟩:=f3 b hb
   refine ⟨hn b hb,Nat.ne_of_lt (hobj b hb),ok'.exfs b hb,.inl hb,fun y c e=>g4 y c (cl1 y c e),?_⟩
   intro p hp;cases hp
 have loop:codeAny (model X.prog X.w) X.A (.compLoop (.ListComp elt [⟨.Name x px,iter,[cnd],0⟩] scope pos) 0 (.ref it) (.ref D) (compEnvC scope cl s₃.heap.objs.size X.env)) (RR (.ref D) s₃.heap.objs.size) s₄:=by
   refine UI (fun n s'=>∃ i ys w' H',Inv (ZS X scope x cl s₃.heap.objs.size s₃ H3 fp) [] (σ++[w']) H' s'∧tn i s'.heap∧(∀ b∈fp,H' b=none)∧W i n ys H') ?_ m0 ⟨0,[],none,H3,I4,st4,fun b hb=>(f3 b hb).1,w0⟩
   rintro n s5 ⟨i,ys,w',H5,I5,st5,fr5,w5⟩
   rcases turn i n ys H5 w5 with ⟨stop,q⟩ | ⟨go,N,M,hN,hM,step⟩
   · refine Zm (T.done (ZS X scope x cl s₃.heap.objs.size s₃ H3 fp) rfl rfl rfl hc i [] s5 _ H5 _ I5 (fpok fr5) st5 stop) fun r s6 ⟨hr,I6⟩=>?_
     subst hr
     obtain ⟨m6,hn6,_⟩:=I6.loc
     have IX:Inv X pins σ H5 s6:=I3.call' (ch:=fp) I6.os I6.base I6.hok I6.bare fun b hb=>by
       obtain ⟨g0,g1,g2,g3,g4,g5⟩:=f3 b hb
       exact ⟨g3,g1,g4,g5⟩
     exact hRR D _ H5 s6 IX (I3.fpOk (Nat.le_refl _) I6.free) ⟨m6,hn6⟩ q
   · refine Zm (T.item (ZS X scope x cl s₃.heap.objs.size s₃ H3 fp) rfl rfl rfl hc i [] s5 _ H5 _ I5 (fpok fr5) st5 go) fun r s6 ⟨u,hr,h6⟩=>?_
     subst hr
     refine Zm h6 fun _ s7 ⟨v,H7,I7,r7,y7,st7,fr7⟩=>?_
     have I7':=I7.pinned (fpok fr7) (T.obj _ _ st7)
     have hixN:(ZS X scope x cl s₃.heap.objs.size s₃ H3 fp).N[σ.length]?=some x:=by
       show (WY X.N x++[x])[σ.length]?=some x
       rw [I3.len,← XN X.N x];simp
     refine Zm (ZD (X:=ZS X scope x cl s₃.heap.objs.size s₃ H3 fp) (pos:=px) O.nd hixN (.inl (lookup_relabel_local O.loc)) (.inr (lookup_relabel_local O.loc)) _ s7 _ H7 v u (fun σ' H'=>σ'=σ++[some v]∧H'=H7) I7' r7 ⟨by simp,rfl⟩) fun _ s8 ⟨σ8,H8,I8,e8,e8'⟩=>?_
     subst e8 e8'
     refine Zm (hcn cl s₃.heap.objs.size s₃ H3 fp _ s8 _ H8 _ I8 (step v H8 y7)) fun bb s8b ⟨H8b,I8b,q8b⟩=>?_
     cases bb with
     | false =>
       obtain ⟨m',hm',w9⟩:=hM H8b q8b
       refine ⟨m',hm',i+1,ys,some v,_,I8b.unpinned (pins:=[]),T.keep _ _ _ st7 fun b hb o e=>(I8b.pin (b,o) (List.mem_append_right _ (List.mem_append_right _ (YB hb e)))).1,fun b hb=>?_,w9⟩
       obtain ⟨o,e,d⟩:=T.obj _ _ st7 b hb
       exact (I8b.pin (b,o) (List.mem_append_right _ (List.mem_append_right _ (YB hb e)))).2.1
     | true =>
       refine Zm (he cl s₃.heap.objs.size s₃ H3 fp _ s8b _ H8b _ I8b q8b) fun uy s9 ⟨y,H9,I9,r9,n9⟩=>?_
       obtain ⟨hl9,hz9,m',hm',w9⟩:=hN y H9 n9
       refine Zm (Yk (X:=ZS X scope x cl s₃.heap.objs.size s₃ H3 fp) _ s9 _ H9 (.ref D) [y] (.ref D) [uy] (fun v H'=>H'=upd H9 D (.lst (ys++[y]))) I9 rfl (.cons r9 .nil) ⟨D,ys,y,rfl,rfl,hl9,hz9,rfl⟩) fun _ s10 ⟨_,H10,I10,_,e10⟩=>?_
       subst e10
       refine ⟨m',hm',i+1,ys++[y],some v,_,I10.unpinned (pins:=[]),T.keep _ _ _ st7 fun b hb o e=>(I10.pin (b,o) (List.mem_append_right _ (List.mem_append_right _ (YB hb e)))).1,fun b hb=>?_,w9⟩
       obtain ⟨o,e,d⟩:=T.obj _ _ st7 b hb
       exact (I10.pin (b,o) (List.mem_append_right _ (List.mem_append_right _ (YB hb e)))).2.1
 exact codeAny_compStart_list loop (T.self _ 0 _ _ _ st4 loop)
theorem Zck (O:CompOk X scope x)(hc:X.calm=true)(hi:PI X (.Name x px) iter wi)(hcn:∀ cl C s₀ H₀ fp,PT (ZS X scope x cl C s₀ H₀ fp) cnd tc)(he:∀ cl C s₀ H₀ fp,PE (ZS X scope x cl C s₀ H₀ fp) elt te)
   (hs:∀ v,foldedSetIterable iter X.env v=pure v:=by intro _;rfl):PE X (.ListComp elt [⟨.Name x px,iter,[cnd],0⟩] scope pos) (ZfC wi tc te):=by
 intro pins s σ H Q I h
 obtain ⟨cl,hcl,cl1,cl2⟩:=XS (scope:=scope) (env:=X.env) fun y hy hf=>I.ok.has _ (O.clos y hy hf)
 rw [eval_ListComp]
 refine wpAny_comprehension_free (use:=none) rfl hs hcl O.kind O.names (Zm (hi pins s σ H _ I h) fun v s1 h1=>Zm h1 fun itv s2 h2=>?_)
 obtain ⟨it,fp,tn,J,H2,e,I2,T,st2,f2,q⟩:=h2
 subst e
 refine VD (RR:=fun acc C=>compPost (model X.prog X.w) X.A X.xe none (EP X pins σ Q) acc C) O hc cl1 cl2 hcn he I2 T st2 f2 q ?_
 intro D C H' s' I' ⟨g0,g1,g2,g3,g4,g5⟩ ⟨m,hm⟩ hq
 exact ⟨m,hm,fun h' hs'=>⟨.ref D,H',I'.turned (t':=s'.toks) (fun b o hb e=>(hs'.2 b hb).trans e) g0 g1 g3 g4 g5,rfl,hq⟩⟩
theorem Zdd {i:Nat}{y:Str}{py spos:Pos}(O:CompOk X scope x)(hc:X.calm=true)(hN:X.N.Nodup)(hiN:X.N[i]?=some y)(hy:Loc X.env.scope y)(hi:PI X (.Name x px) iter wi)(hcn:∀ cl C s₀ H₀ fp,PT (ZS X scope x cl C s₀ H₀ fp) cnd tc)(he:∀ cl C s₀ H₀ fp,PE (ZS X scope x cl C s₀ H₀ fp) elt te)
   (hsw:swapsWith (.ListComp elt [⟨.Name x px,iter,[cnd],0⟩] scope pos) (some (.Name y py)) spos.line X.env=pure true) (hf:X.fn y=true∨X.env.scope.names.lookup y=some .local:=by first | exact .inl rfl | exact .inr rfl | assumption)
   (hs:∀ v,foldedSetIterable iter X.env v=pure v:=by intro _;rfl):PS X (.Assign [.Name y py] (.ListComp elt [⟨.Name x px,iter,[cnd],0⟩] scope pos) spos) (ZbV (ZfC wi tc te) (UK i)):=by
 intro pins s σ H D I h
 obtain ⟨cl,hcl,cl1,cl2⟩:=XS (scope:=scope) (env:=X.env) fun y hy hf=>I.ok.has _ (O.clos y hy hf)
 rw [exec_Assign_Name_used _ _ _ _ hsw]
 refine wpAny_bind (wpAny_standAt (wpAny_bind ?_))
 show wpAny _ X.A (do let _ ← comprehension (.ListComp elt [⟨.Name x px,iter,[cnd],0⟩] scope pos) scope X.env _ (newList []) false (eval iter X.env) (some (assign (.Name y py) X.env))) _ _ s
 refine wpAny_bind (wpAny_mono (wpAny_comprehension_free (use:=some (assign (.Name y py) X.env)) (Q:=fun _ s'=>SP X pins D .next s') rfl hs hcl O.kind O.names
   (Zm (hi pins s σ H _ I h) fun v s1 h1=>Zm h1 fun itv s2 h2=>?_)) (fun _ s' hq=>wpAny_pure (wpAny_pure hq)) fun _ _ e=>e)
 obtain ⟨it,fp,tn,J,H2,e,I2,T,st2,f2,q⟩:=h2
 subst e
 refine VD (RR:=fun acc C=>compPost (model X.prog X.w) X.A X.xe (some (assign (.Name y py) X.env)) (fun _ s'=>SP X pins D .next s') acc C) O hc cl1 cl2 hcn he I2 T st2 f2 q ?_
 intro Dl C H' s' I' ⟨g0,g1,g2,g3,g4,g5⟩ ⟨m,hm⟩ hq
 show wpAny _ X.A (assign (.Name y py) X.env (.ref Dl)) _ _ _
 refine wpAny_assign_Name (Vf I' hN hiN hy (v:=.ref Dl) rfl (fun s'' I'' ⟨a,sb,ha⟩=>?_) hf)
 have haC:C≠a:=by
   rcases ha with z | z
   · rw [z];exact g1
   · exact fun z'=>g4 y a z z'.symm
 exact ⟨m,hm.sameBut sb haC,fun h' hs'=>⟨_,H',I''.turned (t':=s''.toks) (fun b o hb e=>(hs'.2 b hb).trans e) g0 g1 g3 g4 g5,hq⟩⟩
end
theorem Zbx {K:PySem.W.Frag}{a:Addr}{xs:List V}{tc:TT}{te:TE}{σ:St}{D:Addr}{Q:VK}{H:Hp}(hn:xs.length≤sizeLine)(Pv:Nat→List V→Hp→Prop)(h0:Pv 0 [] (upd H D (.lst [])))
   (hl:∀ i ys H,Pv i ys H→ys.length≤i∧SqT K H a xs)
   (hs:∀ i x ys H,xs[i]?=some x→Pv i ys H→tc (σ++[some x]) H fun b H3=>if b=true then te (σ++[some x]) H3 fun y H4=>H4 D=some (.lst ys)∧Pv (i+1) (ys++[y]) (upd H4 D (.lst (ys++[y]))) else Pv (i+1) ys H3) (hd:∀ ys H,Pv xs.length ys H→Q (.ref D) H):ZbR (Itt K a) tc te σ D Q H:=by
 refine ⟨fun i m ys H=>m=xs.length - i∧i≤xs.length∧Pv i ys H,⟨xs.length,by simp,Nat.zero_le _,h0⟩,?_⟩
 rintro i m ys H2 ⟨rfl,hi,p⟩
 obtain ⟨hlen,q⟩:=hl i ys _ p
 by_cases hlt:i < xs.length
 · refine .inr ⟨⟨xs,xs[i],q,by simp [hlt]⟩,_,_,fun y H4 (q:H4 D=some (.lst ys)∧Pv (i+1) (ys++[y]) (upd H4 D (.lst (ys++[y]))))=>⟨q.1,by omega,xs.length - (i+1),by omega,rfl,hlt,q.2⟩,fun H4 (q:Pv (i+1) ys H4)=>⟨xs.length - (i+1),by omega,rfl,hlt,q⟩,fun v H3 y=>?_⟩
   obtain ⟨e,y⟩:=y
   subst e
   exact hs i v ys _ (y xs q) p
 · have e:i=xs.length:=by omega
   subst e
   exact .inl ⟨⟨xs,q,Nat.le_refl _⟩,hd ys H2 p⟩
theorem Zeg {K:PySem.W.Frag}{a:Addr}{xs:List V}{tc:TT}{te:TE}{σ:St}{D:Addr}{Q:VK}{H:Hp}(hn:xs.length≤sizeLine)(Pv:Nat→List V→Hp→Prop)(h0:Pv 0 [] (upd H D (.lst [])))
   (hl:∀ i ys H,Pv i ys H→ys.length≤i∧SqL K H a xs)
   (hs:∀ i x ys H,xs[i]?=some x→Pv i ys H→tc (σ++[some x]) H fun b H3=>if b=true then te (σ++[some x]) H3 fun y H4=>H4 D=some (.lst ys)∧Pv (i+1) (ys++[y]) (upd H4 D (.lst (ys++[y]))) else Pv (i+1) ys H3) (hd:∀ ys H,Pv xs.length ys H→Q (.ref D) H):ZbR (Itl K a) tc te σ D Q H:=by
 refine ⟨fun i m ys H=>m=xs.length - i∧i≤xs.length∧Pv i ys H,⟨xs.length,by simp,Nat.zero_le _,h0⟩,?_⟩
 rintro i m ys H2 ⟨rfl,hi,p⟩
 obtain ⟨hlen,q⟩:=hl i ys _ p
 by_cases hlt:i < xs.length
 · refine .inr ⟨⟨xs,xs[i],q,by simp [hlt]⟩,_,_,fun y H4 (q:H4 D=some (.lst ys)∧Pv (i+1) (ys++[y]) (upd H4 D (.lst (ys++[y]))))=>⟨q.1,by omega,xs.length - (i+1),by omega,rfl,hlt,q.2⟩,fun H4 (q:Pv (i+1) ys H4)=>⟨xs.length - (i+1),by omega,rfl,hlt,q⟩,fun v H3 y=>?_⟩
   obtain ⟨e,y⟩:=y
   subst e
   exact hs i v ys _ (y xs q) p
 · have e:i=xs.length:=by omega
   subst e
   exact .inl ⟨⟨xs,q,Nat.le_refl _⟩,hd ys H2 p⟩
end L2
set_option maxHeartbeats 2000000
namespace L2
open PySem PySem.Spec PyProof.Rows
def Wy (N:List Str)(xa xb:Str):List Str:=WY (WY N xa) xb
theorem ZcA (N:List Str)(xa xb:Str):(Wy N xa xb).length=N.length:=by unfold Wy;rw [XN,XN]
theorem Zha {N:List Str}{xa xb y:Str}{i:Nat}(h:(Wy N xa xb)[i]?=some y):(N[i]?=some y∧¬ (y=xa∨y=xb))∨y="":=by
 rcases Vx h with ⟨h1,h2⟩ | h1
 · rcases Vx h1 with ⟨h3,h4⟩ | h3
   · exact .inl ⟨h3,fun z=>z.elim h4 h2⟩
   · exact .inr h3
 · exact .inr h1
def YL (X:Cx)(scope:Scope)(xa xb:Str)(cl:List (Str×Addr))(C:Addr)(s₀:Shared)(H₀:Hp)(fp:List Addr):Cx:={ ZS X scope xa cl C s₀ H₀ fp with N:=Wy X.N xa xb++[xa,xb] }
structure CompOkT (X:Cx)(scope:Scope)(xa xb:Str):Prop where
 nd:(Wy X.N xa xb++[xa,xb]).Nodup
 clos:∀ y∈scope.names,y.2=.free→X.env.kindOf y.1=some .cell∨X.env.kindOf y.1=some .free
 cell:∀ y∈scope.names,y.2≠.cell
 kind:scope.kind=.function
 names:∀ y∈scope.names,y.2=.local→scope.names.lookup y.1=some .local
 own:∀ y∈X.N,¬ (y=xa∨y=xb)→scope.names.lookup y≠some .local
 noh:scope.names.lookup ("":Str)=none
def ZbQ (J:It)(g:TG)(te:TE)(σ:St)(D:Addr)(Q:VK)(H1:Hp):Prop :=
 ∃ W:Nat→Nat→List V→Hp→Prop,(∃ m,W 0 m [] (upd H1 D (.lst [])))∧∀ i m ys H2,W i m ys H2 →
   (J.stop i H2∧Q (.ref D) H2)∨(J.go i H2∧∃ N:VK,(∀ y H4,N y H4→H4 D=some (.lst ys)∧ys.length < sizeLine∧∃ m',m' < m∧W (i+1) m' (ys++[y]) (upd H4 D (.lst (ys++[y]))))∧∀ wa wb v H3,J.yld i H2 v H3→g v (σ++[wa,wb]) H3 fun σ' H'=>(∃ wa wb,σ'=σ++[wa,wb])∧te σ' H' N)
def Zff (wi:TI)(g:TG)(te:TE):TE:=fun σ H Q=>wi σ H fun J H1=>∀ D,H1 D=none→ZbQ J g te σ D Q H1
section
variable {X:Cx}{elt iter tg:Expr}{xa xb:Str}{pos:Pos}{scope:Scope}{wi:TI}{te:TE}{g:TG}
theorem VG {pins:List (Addr×Obj)}{σ:St}{H2:Hp}{s₂:Shared}{J:It}{fp:List Addr}{it:Addr}{tn:Nat→Heap→Prop}{cl:List (Str×Addr)}{E:Value→Shared→Prop}{Q:VK}{RR:Value→Addr→Result→Shared→Prop}
   (O:CompOkT X scope xa xb) (hc:X.calm=true) (cl1:∀ y c,cl.lookup y=some c→X.env.cells.lookup y=some c) (cl2:∀ y∈scope.names,y.2=.free→cl.lookup y.1≠none)
   (hg:∀ cl C s₀ H₀ fp,PG (YL X scope xa xb cl C s₀ H₀ fp) tg g) (he:∀ cl C s₀ H₀ fp,PE (YL X scope xa xb cl C s₀ H₀ fp) elt te)
   (I2:Inv X pins σ H2 s₂) (T:Wm X.prog X.w X.K tg J fp it tn) (st:tn 0 s₂.heap) (f2:∀ b∈fp,Yg X pins H2 b)
   (h:∀ D,H2 D=none→ZbQ J g te σ D Q H2)
   (hRR:∀ D C H' s',Inv X pins σ H' s'→Yg X pins H' C→(∃ m,s'.heap.Ns C m)→Q (.ref D) H'→RR (.ref D) C (.ok .next) s') :
   wpAny (model X.prog X.w) X.A (newList []) (fun acc s₃=>wpAny (model X.prog X.w) X.A (newFunctionEnv scope X.env.globals cl [] X.env.qual none .none (some X.env)) (fun cenv s₄ =>
     codeAny (model X.prog X.w) X.A (.compStart (.ListComp elt [⟨tg,iter,[],0⟩] scope pos) 0 (.ref it) acc { cenv with scope:=relabel scope X.env }) (RR acc cenv.locals) s₄) E s₃) E s₂:=by
 have hD:H2 s₂.heap.objs.size=none:=I2.hok.fresh (Nat.le_refl _)
 refine wpAny_newObj_type ?_
 have I3:Inv X pins σ (upd H2 s₂.heap.objs.size (.lst [])) { s₂ with heap:=s₂.heap.push { cls:=.type "list",data:=.seq ([]:List Value).toArray } } :=
   I2.laid (t':=s₂.toks) (fun b u e=>Heap.get?_push_of_some _ e) (Nat.le_refl _) ⟨Nat.zero_le _,[],_,.nil,Heap.get?_push_size _ rfl⟩
 have f3:∀ b∈fp,Yg X pins (upd H2 s₂.heap.objs.size (.lst [])) b:=fun b hb=>by
   obtain ⟨g0,g1⟩:=f2 b hb
   obtain ⟨o,e,_⟩:=T.obj 0 _ st b hb
   exact ⟨by rw [Zo (Nat.ne_of_lt (Heap.lt_size e))];exact g0,g1⟩
 have st3:tn 0 (s₂.heap.push { cls:=.type "list",data:=.seq ([]:List Value).toArray }):=T.keep _ _ _ st fun b hb o e=>Heap.get?_push_of_some _ e
 obtain ⟨W,⟨m0,w0⟩,turn⟩:=h _ hD
 generalize hDe:s₂.heap.objs.size=D at I3 f3 w0 turn ⊢
 generalize hH3:upd H2 D (.lst [])=H3 at I3 f3 w0 turn ⊢
 generalize hs3:({ s₂ with heap:=s₂.heap.push { cls:=.type "list",data:=.seq ([]:List Value).toArray } }:Shared)=s₃ at I3
 have st3':tn 0 s₃.heap:=by rw [← hs3];exact st3
 have hobj:∀ b∈fp,b < s₃.heap.objs.size:=fun b hb=>by
   obtain ⟨o,e,_⟩:=T.obj 0 _ st3' b hb
   exact Heap.lt_size e
 refine wpAny_newFunctionEnv O.cell (by intro y hy;simp at hy) (fun h₁ hns₁ hsb₁=>?_) O.kind
 have old:∀ b o,s₃.heap.get? b=some o→h₁.get? b=some o:=fun b o e=>hsb₁.extBut b o (Nat.ne_of_lt (Heap.lt_size e)) (Heap.get?_push_of_some _ e)
 generalize hs4:({ s₃ with heap:=h₁,toks:=s₃.toks+([]:List (Str×Value)).length }:Shared)=s₄
 have h4:s₄.heap=h₁:=by rw [← hs4]
 have hX:∀ C,Yg X pins C s₃.heap.objs.size→True:=fun _ _=>trivial
 have ok':(YL X scope xa xb cl s₃.heap.objs.size s₃ H3 fp).Ok:=by
   refine ⟨I3.ok.mod,O.kind,I3.ok.glob,I3.ok.blt,Nat.le_refl _,?_,?_,?_,I3.ok.hd,I3.ok.frames,.inl rfl,?_,I3.bs,Nat.le_trans I3.ok.bsz I3.sz,?_,?_,I3.stack,I3.stkFree⟩
   · exact fun y z c e1 e2=>I3.ok.inj y z c (cl1 y c e1) (cl1 z c e2)
   · intro y hk
     have hf:scope.names.lookup y=some .free:=by
       rcases hk with hk | hk
       · rcases Zw O.cell hk with q | q
         · exact absurd rfl (O.cell _ (mem_of_lookup q))
         · exact q.1
       · rcases Zw O.cell hk with q | q
         · exact q
         · cases q.2
     have:=cl2 _ (mem_of_lookup hf) rfl
     cases e:cl.lookup y with
     | none=>exact absurd e this
     | some c=>exact ⟨c,e⟩
   · intro y c hf;cases hf
   · intro b hb
     obtain ⟨g0,g1,g2,g3,g4,g5⟩:=f3 b hb
     exact ⟨Nat.ne_of_lt (hobj b hb),fun y c e=>g4 y c (cl1 y c e)⟩
   · intro b o e hb
     obtain ⟨g0,g1,g2,g3,g4,g5⟩:=f3 b hb
     rcases g3 with g3 | g3
     · exact I3.ok.noex b o e g3
     · exact absurd (Heap.lt_size e) (Nat.not_lt.mpr (Nat.le_trans I3.ok.bsz g3))
   · intro b hb hs
     obtain ⟨g0,g1,g2,g3,g4,g5⟩:=f3 b hb
     rcases List.mem_cons.mp (I3.stkSub b hs) with e | e
     · exact g1 e
     · exact g2 e
 have I4 : Inv (YL X scope xa xb cl s₃.heap.objs.size s₃ H3 fp) [] (σ++[none,none]) H3 s₄:=by
   obtain ⟨m,hm,hl⟩:=I3.loc
   refine ⟨ok',by rw [← hs4];rfl,by rw [← hs4];exact I3.bare,by rw [h4];exact Un.kept old,⟨_,by rw [h4];exact hns₁,?_⟩,?_,I3.hok.fresh (Nat.le_refl _),fun y c e=>I3.freeC y c (cl1 y c e),?_,by rw [h4];exact I3.hok.kept old,?_⟩
   · intro i y v e1 e2 e3
     have hlt:i < σ.length:=by
       rcases Nat.lt_or_ge i σ.length with z | z
       · exact z
       · rw [List.getElem?_append_right z] at e2
         have:=List.mem_of_getElem? e2
         simp at this
     rw [List.getElem?_append_left hlt] at e2
     have hsm:∃ k,scope.names.lookup y=some k:=by
       rcases e3 with hk | hk | hk
       · rcases Zw O.cell hk with q | q
         · exact ⟨_,q⟩
         · exact ⟨_,q.1⟩
       · rcases Zw O.cell hk with q | q
         · exact ⟨_,q⟩
         · exact ⟨_,q.1⟩
       · rcases Zw O.cell hk with q | q
         · exact ⟨_,q⟩
         · exact ⟨_,q.1⟩
     obtain ⟨e1',hyx⟩:X.N[i]?=some y∧¬ (y=xa∨y=xb):=by
       have e1:(Wy X.N xa xb++[xa,xb])[i]?=some y:=e1
       rw [List.getElem?_append_left (by rw [ZcA,← I3.len];exact hlt)] at e1
       rcases Zha e1 with z | z
       · exact z
       · obtain ⟨k,hk⟩:=hsm
         rw [z,O.noh] at hk;cases hk
     have hy:y∈X.N:=List.mem_of_getElem? e1'
     have hf:scope.names.lookup y=some .free:=by
       rcases e3 with hk | hk | hk
       · rcases Zw O.cell hk with q | q
         · exact absurd q (O.own y hy hyx)
         · exact q.1
       · rcases Zw O.cell hk with q | q
         · exact absurd rfl (O.cell _ (mem_of_lookup q))
         · exact q.1
       · rcases Zw O.cell hk with q | q
         · exact q
         · exact q.1
     have hk:=O.clos _ (mem_of_lookup hf) rfl
     have hv:Vis X.env.scope y:=by rcases hk with z | z;exact .inr (.inl z);exact .inr (.inr z)
     obtain ⟨u,ru,lu⟩:=hl i y v e1' e2 hv
     refine ⟨u,ru,?_⟩
     have hkc:(compEnvC scope cl s₃.heap.objs.size X.env).kindOf y=some .cell∨(compEnvC scope cl s₃.heap.objs.size X.env).kindOf y=some .free:=by
       rcases e3 with q | q | q
       · rcases Zw O.cell q with z | z
         · exact absurd z (O.own y hy hyx)
         · cases z.2
       · exact .inl q
       · exact .inr q
     rcases lu with ⟨q,_⟩ | ⟨_,c,hcl,hcc⟩
     · rcases hk with z | z<;>(rw [q] at z;cases z)
     · refine .inr ⟨hkc,?_⟩
       cases e:cl.lookup y with
       | none=>exact absurd e (cl2 _ (mem_of_lookup hf) rfl)
       | some c' =>
         have:=cl1 y c' e
         rw [hcl] at this
         cases this
         refine ⟨c,e,?_⟩
         rw [h4]
         obtain ⟨oc,ho,hd⟩:=hcc
         exact ⟨oc,old _ _ ho,hd⟩
   · intro y c e
     obtain ⟨v,oc,ho,hd⟩:=I3.cell y c (cl1 y c e)
     exact ⟨v,oc,by rw [h4];exact old _ _ ho,hd⟩
   · intro p hp;cases hp
   · show (σ++[none,none]).length=(Wy X.N xa xb++[xa,xb]).length
     rw [List.length_append,List.length_append,ZcA,I3.len];rfl
 have st4:tn 0 s₄.heap:=by rw [h4];exact T.keep _ _ _ st3' fun b hb o e=>old b o e
 have fpok:∀ {H':Hp},(∀ b∈fp,H' b=none)→∀ b∈fp,Yg (YL X scope xa xb cl s₃.heap.objs.size s₃ H3 fp) [] H' b:=fun hn b hb=>by
   obtain ⟨g0,g1,g2,g3,g4,g5⟩:=f3 b hb
   refine ⟨hn b hb,Nat.ne_of_lt (hobj b hb),ok'.exfs b hb,.inl hb,fun y c e=>g4 y c (cl1 y c e),?_⟩
   intro p hp;cases hp
 have loop:codeAny (model X.prog X.w) X.A (.compLoop (.ListComp elt [⟨tg,iter,[],0⟩] scope pos) 0 (.ref it) (.ref D) (compEnvC scope cl s₃.heap.objs.size X.env)) (RR (.ref D) s₃.heap.objs.size) s₄:=by
   refine Wb (fun n s'=>∃ i ys wa wb H',Inv (YL X scope xa xb cl s₃.heap.objs.size s₃ H3 fp) [] (σ++[wa,wb]) H' s'∧tn i s'.heap∧(∀ b∈fp,H' b=none)∧W i n ys H') ?_ m0 ⟨0,[],none,none,H3,I4,st4,fun b hb=>(f3 b hb).1,w0⟩
   rintro n s5 ⟨i,ys,wa,wb,H5,I5,st5,fr5,w5⟩
   rcases turn i n ys H5 w5 with ⟨stop,q⟩ | ⟨go,N,hN,step⟩
   · refine Zm (T.done (YL X scope xa xb cl s₃.heap.objs.size s₃ H3 fp) rfl rfl rfl hc i [] s5 _ H5 _ I5 (fpok fr5) st5 stop) fun r s6 ⟨hr,I6⟩=>?_
     subst hr
     obtain ⟨m6,hn6,_⟩:=I6.loc
     have IX:Inv X pins σ H5 s6:=I3.call' (ch:=fp) I6.os I6.base I6.hok I6.bare fun b hb=>by
       obtain ⟨g0,g1,g2,g3,g4,g5⟩:=f3 b hb
       exact ⟨g3,g1,g4,g5⟩
     exact hRR D _ H5 s6 IX (I3.fpOk (Nat.le_refl _) I6.free) ⟨m6,hn6⟩ q
   · refine Zm (T.item (YL X scope xa xb cl s₃.heap.objs.size s₃ H3 fp) rfl rfl rfl hc i [] s5 _ H5 _ I5 (fpok fr5) st5 go) fun r s6 ⟨u,hr,h6⟩=>?_
     subst hr
     refine Zm h6 fun _ s7 ⟨v,H7,I7,r7,y7,st7,fr7⟩=>?_
     have I7':=I7.pinned (fpok fr7) (T.obj _ _ st7)
     refine Zm (hg cl s₃.heap.objs.size s₃ H3 fp _ s7 _ H7 v u _ I7' r7 (step wa wb v H7 y7)) fun _ s8 ⟨σ8,H8,I8,⟨wa',wb',e8⟩,q8⟩=>?_
     subst e8
     refine Zm (he cl s₃.heap.objs.size s₃ H3 fp _ s8 _ H8 _ I8 q8) fun uy s9 ⟨y,H9,I9,r9,n9⟩=>?_
     obtain ⟨hl9,hz9,m',hm',w9⟩:=hN y H9 n9
     refine Zm (Yk (X:=YL X scope xa xb cl s₃.heap.objs.size s₃ H3 fp) _ s9 _ H9 (.ref D) [y] (.ref D) [uy] (fun v H'=>H'=upd H9 D (.lst (ys++[y]))) I9 rfl (.cons r9 .nil) ⟨D,ys,y,rfl,rfl,hl9,hz9,rfl⟩) fun _ s10 ⟨_,H10,I10,_,e10⟩=>?_
     subst e10
     refine ⟨m',hm',i+1,ys++[y],wa',wb',_,I10.unpinned (pins:=[]),T.keep _ _ _ st7 fun b hb o e=>(I10.pin (b,o) (List.mem_append_right _ (List.mem_append_right _ (YB hb e)))).1,fun b hb=>?_,w9⟩
     obtain ⟨o,e,d⟩:=T.obj _ _ st7 b hb
     exact (I10.pin (b,o) (List.mem_append_right _ (List.mem_append_right _ (YB hb e)))).2.1
 exact codeAny_compStart_list loop (T.self _ 0 _ _ _ st4 loop)
theorem ZgU (O:CompOkT X scope xa xb)(hc:X.calm=true)(hi:PI X tg iter wi)(hg:∀ cl C s₀ H₀ fp,PG (YL X scope xa xb cl C s₀ H₀ fp) tg g)(he:∀ cl C s₀ H₀ fp,PE (YL X scope xa xb cl C s₀ H₀ fp) elt te)
   (hs:∀ v,foldedSetIterable iter X.env v=pure v:=by intro _;rfl):PE X (.ListComp elt [⟨tg,iter,[],0⟩] scope pos) (Zff wi g te):=by
 intro pins s σ H Q I h
 obtain ⟨cl,hcl,cl1,cl2⟩:=XS (scope:=scope) (env:=X.env) fun y hy hf=>I.ok.has _ (O.clos y hy hf)
 rw [eval_ListComp]
 refine wpAny_comprehension_free (use:=none) rfl hs hcl O.kind O.names (Zm (hi pins s σ H _ I h) fun v s1 h1=>Zm h1 fun itv s2 h2=>?_)
 obtain ⟨it,fp,tn,J,H2,e,I2,T,st2,f2,q⟩:=h2
 subst e
 refine VG (RR:=fun acc C=>compPost (model X.prog X.w) X.A X.xe none (EP X pins σ Q) acc C) O hc cl1 cl2 hg he I2 T st2 f2 q ?_
 intro D C H' s' I' ⟨g0,g1,g2,g3,g4,g5⟩ ⟨m,hm⟩ hq
 exact ⟨m,hm,fun h' hs'=>⟨.ref D,H',I'.turned (t':=s'.toks) (fun b o hb e=>(hs'.2 b hb).trans e) g0 g1 g3 g4 g5,rfl,hq⟩⟩
end
end L2
set_option maxHeartbeats 2000000
namespace L2
open PySem PySem.Spec PyProof.Rows
end L2
set_option maxHeartbeats 2000000
namespace L2
open PySem PySem.Spec PyProof.Rows
section
variable {X:Cx}{elt iter tg cnd:Expr}{xa xb:Str}{pos:Pos}{scope:Scope}{wi:TI}{te:TE}{tc:TT}{g:TG}
end
end L2
set_option maxHeartbeats 1000000
namespace L2
open PySem
def YD:HO→Bool
 | .tup _=>false
 | .frz _ _=>false
 | .own _=>false
 | .met _ _=>false
 | .rng _ _=>false
 | .ext _=>false
 | _=>true
def cut (H h:Hp):Hp:=fun b=>match h b with
 | some o=>if YD o=true then none else H b
 | none=>H b
def one (p:Addr)(o:HO):Hp:=fun b=>if b=p then some o else none
theorem one_some {p b:Addr}{o u:HO}:one p o b=some u↔b=p∧o=u:=by
 unfold one
 by_cases h:b=p
 · rw [if_pos h];exact ⟨fun z=>⟨h,Option.some.inj z⟩,fun z=>by rw [z.2]⟩
 · rw [if_neg h];exact ⟨fun z=>(by cases z),fun z=>absurd z.1 h⟩
abbrev Xf:=Addr→Hp→Prop
abbrev Rs:=List (Addr×Xf)
def Sep:Rs→Hp→Prop
 | [],_=>True
 | (a,R)::Δ,H=>∃ h,Same h H∧R a h∧Sep Δ (cut H h)
theorem cut_some {H h:Hp}{b:Addr}{o:HO}:cut H h b=some o↔H b=some o∧∀ u,h b=some u→YD u=false:=by
 unfold cut
 cases e:h b with
 | none=>exact ⟨fun z=>⟨z,fun u q=>by cases q⟩,fun z=>z.1⟩
 | some v =>
   cases m:YD v with
   | true=>show (if YD v=true then none else H b)=some o↔_;rw [if_pos m];exact ⟨fun z=>(by cases z),fun z=>(by have:=z.2 v rfl;rw [m] at this;cases this)⟩
   | false=>show (if YD v=true then none else H b)=some o↔_;rw [if_neg (by rw [m];decide)];exact ⟨fun z=>⟨z,fun u q=>(by cases q;exact m)⟩,fun z=>z.1⟩
theorem Zfm {H h:Hp}:Same (cut H h) H:=fun b o e=>(cut_some.mp e).1
theorem ZhT {H H' h:Hp}(s:Same H H'):Same (cut H h) (cut H' h):=fun b o e=>let ⟨x,y⟩:=cut_some.mp e;cut_some.mpr ⟨s _ _ x,y⟩
theorem Sep.mono:∀{Δ:Rs}{H H':Hp},Sep Δ H→Same H H'→Sep Δ H'
 | [],_,_,_,_=>trivial
 | (_,_)::_,_,_,⟨h,l,r,S⟩,s=>⟨h,l.trans s,r,S.mono (ZhT s)⟩
theorem Sep.swap {a b:Addr}{R T:Xf}{Δ:Rs}{H:Hp}(S:Sep ((a,R)::(b,T)::Δ) H):Sep ((b,T)::(a,R)::Δ) H:=by
 obtain ⟨h,l,r,g,m,t,S⟩:=S
 refine ⟨g,m.trans Zfm,t,h,fun c o e=>cut_some.mpr ⟨l _ _ e,fun u q=>?_⟩,r,S.mono fun c o e=>?_⟩
 · obtain ⟨q1,q2⟩:=cut_some.mp (m _ _ q)
   have e2:=l _ _ e
   rw [q1] at e2;cases e2
   exact q2 _ e
 · obtain ⟨e1,e2⟩:=cut_some.mp e
   obtain ⟨e3,e4⟩:=cut_some.mp e1
   exact cut_some.mpr ⟨cut_some.mpr ⟨e3,e2⟩,e4⟩
theorem Sep.tail {a:Addr}{R:Xf}{Δ:Rs}{H:Hp}(S:Sep ((a,R)::Δ) H):Sep Δ H:=by
 obtain ⟨h,l,r,S⟩:=S
 exact S.mono Zfm
class Pull (a:Addr) (Δ:Rs) (R:outParam Xf) (Δ':outParam Rs):Prop where
 out:∀ {H},Sep Δ H→Sep ((a,R)::Δ') H
instance (priority:=1000) Pull.here {a:Addr} {R:Xf} {Δ:Rs}:Pull a ((a,R)::Δ) R Δ:=⟨fun S=>S⟩
instance (priority:=900) Pull.there {a b:Addr} {R T:Xf} {Δ Δ':Rs} [P:Pull a Δ R Δ']:Pull a ((b,T)::Δ) R ((b,T)::Δ') :=
 ⟨fun S=>by
   obtain ⟨h,l,r,S⟩:=S
   exact Sep.swap ⟨h,l,r,P.out S⟩⟩
theorem Sep.pull {Δ Δ':Rs}{H:Hp}{R:Xf}(S:Sep Δ H)(a:Addr)[P:Pull a Δ R Δ']:Sep ((a,R)::Δ') H:=P.out S
theorem Sep.drop {Δ Δ':Rs}{H:Hp}{R:Xf}(S:Sep Δ H)(a:Addr)[P:Pull a Δ R Δ']:Sep Δ' H:=(P.out S).tail
class Up (R:Xf):Prop where
 up:∀ {a:Addr} {H H':Hp},R a H→Same H H'→R a H'
theorem Sep.get {Δ Δ':Rs}{H:Hp}{R:Xf}(S:Sep Δ H)(a:Addr)[P:Pull a Δ R Δ'][U:Up R]:R a H:=by
 obtain ⟨h,l,r,_⟩:=P.out S
 exact U.up r l
def Pt (o:HO):Xf:=fun a h=>h a=some o
abbrev Vm (xs:List V):Xf:=Pt (.lst xs)
instance {o:HO}:Up (Pt o):=⟨fun h s=>s _ _ h⟩
theorem Sep.new {Δ:Rs}{H:Hp}(S:Sep Δ H){p:Addr}(hp:H p=none)(o:HO):Sep ((p,Pt o)::Δ) (upd H p o):=by
 refine ⟨one p o,fun b u e=>?_,one_some.mpr ⟨rfl,rfl⟩,S.mono fun b u e=>?_⟩
 · obtain ⟨rfl,rfl⟩:=one_some.mp e;exact Zd
 · have hb:=ZH e hp
   exact cut_some.mpr ⟨by rw [Zo hb];exact e,fun v q=>absurd (one_some.mp q).1 hb⟩
theorem Sep.made {Δ:Rs}{H H':Hp}(S:Sep Δ H)(s:Same H H'){p:Addr}{o:HO}(hp:H p=none)(e:H' p=some o):Sep ((p,Pt o)::Δ) H':=by
 refine ⟨one p o,fun b u q=>?_,one_some.mpr ⟨rfl,rfl⟩,S.mono fun b u q=>?_⟩
 · obtain ⟨rfl,rfl⟩:=one_some.mp q;exact e
 · have hb:=ZH q hp
   exact cut_some.mpr ⟨s _ _ q,fun v q=>absurd (one_some.mp q).1 hb⟩
theorem Sep.put {Δ Δ':Rs}{H:Hp}{o:HO}(S:Sep Δ H)(a:Addr)(o':HO)[P:Pull a Δ (Pt o) Δ'](m:YD o=true:=by rfl):Sep ((a,Pt o')::Δ') (upd H a o'):=by
 obtain ⟨h,l,r,S⟩:=P.out S
 refine ⟨one a o',fun b u q=>?_,one_some.mpr ⟨rfl,rfl⟩,S.mono fun b u q=>?_⟩
 · obtain ⟨rfl,rfl⟩:=one_some.mp q;exact Zd
 · obtain ⟨q1,q2⟩:=cut_some.mp q
   have hb:b≠a:=fun z=>by
     have:=q2 o (by rw [z];exact r)
     rw [m] at this;cases this
   exact cut_some.mpr ⟨by rw [Zo hb];exact q1,fun v q=>absurd (one_some.mp q).1 hb⟩
theorem Sep.say {Δ Δ':Rs}{H:Hp}{R:Xf}(S:Sep Δ H)(a:Addr)(T:Xf)[P:Pull a Δ R Δ'](f:∀ h,R a h→T a h):Sep ((a,T)::Δ') H:=by
 obtain ⟨h,l,r,S⟩:=P.out S
 exact ⟨h,l,f h r,S⟩
theorem Sep.call {Δ:Rs}{H H':Hp}{a:Addr}{R T:Xf}{L:List Addr}(S:Sep ((a,R)::Δ) H)(k:∀ b o,b ∉ L→H b=some o→H' b=some o)
   (f:∀ h,Same h H→R a h→(∀ b∈L,∃ o,h b=some o∧YD o=true)∧∃ h',Same h' H'∧T a h'∧∀ b o,h' b=some o→YD o=true→b∈L∨H b=none∨∃ u,h b=some u∧YD u=true):Sep ((a,T)::Δ) H':=by
 obtain ⟨h,l,r,S⟩:=S
 obtain ⟨f1,h',l',t,f2⟩:=f h l r
 refine ⟨h',l',t,S.mono fun b o e=>?_⟩
 obtain ⟨e1,e2⟩:=cut_some.mp e
 have hb:b ∉ L:=fun z=>by
   obtain ⟨u,q1,q2⟩:=f1 b z
   rw [e2 u q1] at q2;cases q2
 refine cut_some.mpr ⟨k b o hb e1,fun u q=>?_⟩
 cases m:YD u with
 | false=>rfl
 | true =>
   rcases f2 b u q m with z | z | ⟨v,z1,z2⟩
   · exact absurd z hb
   · rw [e1] at z;cases z
   · rw [e2 v z1] at z2;cases z2
abbrev Bx (n:Nat):Xf:=fun a h=>BoxAt h a n
instance {n:Nat}:Up (Bx n):=⟨fun h s=>h.same s⟩
theorem Sep.box {Δ:Rs}{H H':Hp}{p:Addr}{n m:Nat}(S:Sep ((p,Bx n)::Δ) H)(k:Kp p H H')(B:BoxAt H' p m):Sep ((p,Bx m)::Δ) H':=by
 refine S.call (L:=[p]) (fun b o nb e=>k b o (fun z=>nb (by simp [z])) e) fun h l r=>⟨fun b hb=>?_,?_⟩
 · rw [List.mem_singleton.mp hb]
   obtain ⟨x,y,z,e,_⟩:=r
   exact ⟨_,e,rfl⟩
 · obtain ⟨x,y,z,e,w⟩:=B
   refine ⟨one p (.lst [.int x,.int y,.int z]),fun b u q=>?_,⟨x,y,z,one_some.mpr ⟨rfl,rfl⟩,w⟩,fun b o q _=>.inl (by simp [(one_some.mp q).1])⟩
   obtain ⟨rfl,rfl⟩:=one_some.mp q;exact e
def Zdu (M:Int):Sp:=fun vs H Q _=>∃(p:Addr)(n:Nat)(m:Int)(Δ:Rs),vs=[.ref p,.int m]∧Sep ((p,Bx n)::Δ) H∧n≤1000000∧0 < m∧m < M∧∀(r:Int)(H':Hp),0≤r→r < m→Sep ((p,Bx (n+1))::Δ) H'→Q (.int r) H'
theorem ZkS {M:Int}{vs:List V}{H:Hp}{Q:VK}{E:XK}(h:Zdu M vs H Q E):Zax M vs H Q E:=by
 obtain ⟨p,n,m,Δ,e,S,h1,h2,h3,q⟩:=h
 exact ⟨p,n,m,e,S.get p,h1,h2,h3,fun r H' a b B k=>q r H' a b (S.box k B)⟩
end L2
namespace L2
open PySem
end L2
namespace L2
open PySem
structure ZW (mg:Str→Option Value):Prop where
 len:mg "len"=none
 abs:mg "abs"=none
 int:mg "int"=none
 range:mg "range"=none
 min:mg "min"=none
 max:mg "max"=none
 repr:mg "repr"=none
 enumerate:mg "enumerate"=none
 ord:mg "ord"=none
 list:mg "list"=none
 tuple:mg "tuple"=none
 dict:mg "dict"=none
 sorted:mg "sorted"=none
 sum:mg "sum"=none
 all:mg "all"=none
 any:mg "any"=none
 divmod:mg "divmod"=none
 str:mg "str"=none
 isinstance:mg "isinstance"=none
 set:mg "set"=none
 zip:mg "zip"=none
 reversed:mg "reversed"=none
 bool:mg "bool"=none
abbrev DTk (P:Program)(w:World)(K:PySem.W.Frag)(mg:Str→Option Value)(base:Heap)(k:Nat):Prop:=Def P w K mg base k "_law_take" ["_law_box_here","_law_many"] (Zdu 4611686018427387904)
theorem FnOk.conv {P:Program}{w:World}{K:PySem.W.Frag}{mg:Str→Option Value}{base:Heap}{k:Nat}{f:Addr}{fd:FuncData}{ps:List Str}{sp sp':Sp}(F:FnOk P w K mg base ZR k f fd ps sp)(h:∀ vs H Q E,sp' vs H Q E→sp vs H Q E):FnOk P w K mg base ZR k f fd ps sp' :=
 ⟨fun vs H Q E z=>F.len vs H Q E (h vs H Q E z),fun A outer s H args us vs Q E hr he hb hv z=>F.run A outer s H args us vs Q E hr he hb hv (h vs H Q E z)⟩
theorem Def.conv {P:Program}{w:World}{K:PySem.W.Frag}{mg:Str→Option Value}{base:Heap}{k:Nat}{x:Str}{ps:List Str}{sp sp':Sp}(D:Def P w K mg base k x ps sp)(h:∀ vs H Q E,sp' vs H Q E→sp vs H Q E):Def P w K mg base k x ps sp' :=
 let ⟨f,fd,F,b,kp,m⟩:=D;⟨f,fd,F.conv h,b,kp,m⟩
theorem ZcV {α:Type}{xs:List α}{r:Int}{v:α}(h0:0≤r)(h:xs[r.toNat]?=some v):YK xs r=some v:=by
 have z:YK xs ((r.toNat:Nat):Int)=some v:=ZA h
 rwa [show ((r.toNat:Nat):Int)=r by omega] at z
theorem ZB {n m:Nat}(h:n≤m)(hm:m≤100000:=by decide):n≤sizeLine:=Nat.le_trans (Nat.le_trans h hm) (by decide)
theorem XC {n m:Nat}(h:n≤m)(hm:m≤100000:=by decide):n < sizeLine:=Nat.lt_of_le_of_lt (Nat.le_trans h hm) (by decide)
end L2
set_option maxHeartbeats 2000000
namespace L2
open PySem
section
variable {X:Cx}{k:Nat}{C:Addr}{m:Str}{ps:List Str}{sp:Sp}{pos apos:Pos}{o e:Expr}{es:List Expr}{ta:TE}{t:TA}
end
theorem ZaL {α:Type}{xs:List α}{r:Int}(h0:0≤r)(h1:r < (xs.length:Int)):∃ v,YK xs r=some v∧v∈xs:=by
 have hk:r.toNat < xs.length:=by omega
 have z:YK xs ((r.toNat:Nat):Int)=some xs[r.toNat]:=ZA (List.getElem?_eq_getElem hk)
 have e:((r.toNat:Nat):Int)=r:=by omega
 rw [e] at z
 exact ⟨_,z,List.getElem_mem hk⟩
def IsVal:V→Prop
 | .int i=>i.natAbs < 10 ^ 30
 | .str x=>x.length≤40∧x.cps.toList.all Yz=true
 | _=>False
def Zee:V→Bool
 | .int i=>decide (i.natAbs < 10 ^ 30)
 | .str x=>decide (x.length≤40)&&x.cps.toList.all Yz
 | _=>false
theorem Zcg {v:V}(h:Zee v=true):IsVal v:=by
 cases v with
 | int i=>exact of_decide_eq_true (p:=i.natAbs < 10 ^ 30) h
 | str x =>
   have h':(decide (x.length≤40)&&x.cps.toList.all Yz)=true:=h
   simp only [Bool.and_eq_true,decide_eq_true_eq] at h'
   exact h'
 | _=>cases h
theorem IsVal.b31 {i:Int}(h:IsVal (.int i)):i.natAbs≤10 ^ 31:=Nat.le_trans (Nat.le_of_lt (show i.natAbs < 10 ^ 30 from h)) (by decide)
def ZdE:Sp:=fun vs H Q _=>∃(p:Addr)(n:Nat),vs=[.ref p]∧BoxAt H p n∧n≤900000∧∀(v:V)(H':Hp),IsVal v→BoxAt H' p (n+50)→Kp p H H'→Q v H'
def Ziz:List Stmt→Str
 | .Assign _ (.Constant (.str x) _ _) _::_=>x
 | _::r=>Ziz r
 | []=>Str.empty
def ZcW (N:List Str)(names:List (Str×NameKind))(scope:Scope)(xa xb:Str):Bool :=
 decide ((Wy N xa xb++[xa,xb]).Nodup)&&scope.names.all (fun y=>(y.2 != .free || names.lookup y.1 == some .cell || names.lookup y.1 == some .free)&&(y.2 != .cell&&(y.2 != .local || scope.names.lookup y.1 == some .local))) &&
 (scope.kind == .function&&N.all fun y=>(y == xa || y == xb) || scope.names.lookup y != some .local)&&scope.names.lookup ("":Str) == none
theorem CompOkT.of {X:Cx}{scope:Scope}{xa xb:Str}(N:List Str)(st:Stmt)(hN:X.N=N)(hn:X.env.scope=Zj st)(chk:ZcW N (Zj st).names scope xa xb=true):CompOkT X scope xa xb:=by
 unfold ZcW at chk
 simp only [Bool.and_eq_true,decide_eq_true_eq,List.all_eq_true,Bool.or_eq_true,bne_iff_ne,beq_iff_eq] at chk
 obtain ⟨⟨⟨c1,c2⟩,c3,c5⟩,c6⟩:=chk
 refine ⟨by rw [hN];exact c1,fun y hy hf=>?_,fun y hy=>(c2 y hy).2.1,c3,fun y hy hl=>?_,fun y hy hx=>(c5 y (by rw [← hN];exact hy)).resolve_left hx,c6⟩
 · show X.env.scope.names.lookup y.1=_∨X.env.scope.names.lookup y.1=_
   rw [hn]
   rcases (c2 y hy).1 with (z | z) | z
   · exact absurd hf z
   · exact .inl z
   · exact .inr z
 · rcases (c2 y hy).2.2 with z | z
   · exact absurd hl z
   · exact z
theorem ZdB {X:Cx}{K:PySem.W.Frag}(hK:X.K=K)(hc:X.calm=true){xa xb:Str}{pa pb tp:Pos}{j:Nat}{ga gb:TG}(ha:PG X (.Name xa pa) ga)(hb:PG X (.Name xb pb) gb):PG X (.Tuple [.Name xa pa,.Name xb pb] j tp) (ZgS K 2 (Zal ga (Zal gb ZgH))):=by
 subst hK
 exact Wr hc (Yj ha (Yj hb XO))
end L2
set_option maxHeartbeats 2000000
namespace L2
open PySem PySem.Spec PyProof.Rows
section
variable {X:Cx}
end
section
variable {X:Cx}{k:Nat}{C:Addr}{x m:Str}{ps:List Str}{sp:Sp}{p pos apos:Pos}{o:Expr}{ta:TE}
end
end L2
set_option maxHeartbeats 2000000
namespace L2
open PySem PySem.Spec PyProof.Rows
section
variable {X:Cx}
end
end L2
set_option maxHeartbeats 2000000
namespace L2
open PySem PySem.Spec PyProof.Rows
def Zlv (i j k:Nat)(ta:TA):TS:=fun D σ H=>ta σ H fun vs H1=>∃ u v w,vs=[u,v,w]∧D.nx (((σ.set i (some u)).set j (some v)).set k (some w)) H1
theorem Zjn {X:Cx}{pos:Pos}{i j k:Nat}{x y z:Str}{a b c:Expr}{ta:TA}{px py pz pt:Pos}{kt k2 pt2}(hc:X.calm=true)(hN:X.N.Nodup)(hi:X.N[i]?=some x)(hj:X.N[j]?=some y)(hk:X.N[k]?=some z)(hij:i≠j)(hik:i≠k)(hjk:j≠k)
   (hx:X.env.scope.names.lookup x=some .local) (hy:X.env.scope.names.lookup y=some .local) (hz:X.env.scope.names.lookup z=some .local) (ha:PA X [a,b,c] ta)
   (hw:swappedStores [.Tuple [.Name x px,.Name y py,.Name z pz] kt pt] (.Tuple [a,b,c] k2 pt2) X.env=pure (some [x,y,z]))
   (hs:swapsWithSole [.Tuple [.Name x px,.Name y py,.Name z pz] kt pt] (.Tuple [a,b,c] k2 pt2) pos.line X.env=pure false:=by rfl) :
   PS X (.Assign [.Tuple [.Name x px,.Name y py,.Name z pz] kt pt] (.Tuple [a,b,c] k2 pt2) pos) (Zlv i j k ta):=by
 intro pins s σ H D I h
 rw [exec_Assign_arm]
 refine wpAny_bind (wpAny_standAt ?_)
 rw [hs]
 refine wpAny_bind (wpAny_pure ?_)
 rw [if_neg (by decide)]
 refine wpAny_bind (Tuple_ (Zm (ha _ pins s σ H _ I h) fun us s1 ⟨vs,H1,I1,r1,q1⟩=>?_))
 obtain ⟨v1,v2,v3,e1,q1⟩:=q1
 subst e1
 obtain ⟨u1,u2,u3,rfl,rv1,rv2,rv3⟩:∃ u1 u2 u3,us=[u1,u2,u3]∧RelV v1 u1∧RelV v2 u2∧RelV v3 u3:=by
   cases r1 with
   | cons p q =>
     cases q with
     | cons p' q' =>
       cases q' with
       | cons p'' q'' =>
         cases q''
         exact ⟨_,_,_,rfl,p,p',p''⟩
 refine wpAny_newObj_type ?_ (by show 3≤sizeLine;decide)
 have I2:Inv X pins σ H1 { s1 with heap:=s1.heap.push { cls:=.type "tuple",data:=.seq [u1,u2,u3].toArray } }:=I1.kept (t':=s1.toks) fun b o e=>Heap.get?_push_of_some _ e
 rw [hw]
 refine wpAny_bind (wpAny_pure ?_)
 show wpAny (model X.prog X.w) X.A (do rule "assign.swapped-stores";let items ← unpackItems (.ref s1.heap.objs.size) 3 none;assignInOrder [fun v=>bindName X.env z v,fun v=>bindName X.env y v,fun v=>bindName X.env x v] items.reverse;pure Flow.next) _ _ _
 refine wpAny_bind (wpAny_rule (wpAny_bind (unpackItems_tuple (items:=#[u1,u2,u3]) (I.ok.hd hc) (IsTup.new s1.heap _) fun h' hx'=>?_)))
 have I3:=I2.kept (h':=h') (t':=s1.toks) fun b o e=>hx' b o (Nat.ne_of_lt (Heap.lt_size e)) e
 show wpAny _ _ (assignInOrder [fun v=>bindName X.env z v,fun v=>bindName X.env y v,fun v=>bindName X.env x v] [u3,u2,u1] >>= fun _=>pure Flow.next) _ _ _
 refine wpAny_bind (assignInOrder_cons (wpAny_bindName (Xa I3 hN hk (.inl hz) rv3 (fun s2 I4=>?_) (.inr hz))))
 refine assignInOrder_cons (wpAny_bindName (Xa I4 hN hj (.inl hy) rv2 (fun s3 I5=>?_) (.inr hy)))
 refine assignInOrder_cons (wpAny_bindName (Xa I5 hN hi (.inl hx) rv1 (fun s4 I6=>assignInOrder_nil (wpAny_pure ?_)) (.inr hx)))
 rw [List.set_comm _ _ (Ne.symm hjk),List.set_comm _ _ (Ne.symm hik),List.set_comm _ _ (Ne.symm hij)] at I6
 exact ⟨_,H1,I6,q1⟩
theorem Zen {X:Cx}{K:PySem.W.Frag}(hK:X.K=K):YG X (compareOp .In) (rIn K false):=by subst hK;exact UY
theorem ZbK {X:Cx}{K:PySem.W.Frag}(hK:X.K=K):YG X (compareOp .NotIn) (rIn K true):=by subst hK;exact Vj
end L2
set_option maxHeartbeats 2000000
namespace L2
open PySem PySem.Spec PyProof.Rows
theorem ZbY {α β:Type}{f g:α→Option β}:∀{l:List α},(∀ x∈l,f x=g x)→l.filterMap f=l.filterMap g
 | [],_=>rfl
 | x::l,h=>by
   rw [List.filterMap_cons,List.filterMap_cons,h x List.mem_cons_self,ZbY fun y hy=>h y (List.mem_cons_of_mem _ hy)]
theorem Zhc (its:List Value):slicePick its.toArray none none (some (-1))=its.reverse.toArray:=by
 have hb:sliceBounds none none (some (-1)) its.toArray.size=((its.length:Int) - 1,-1,-1):=by
   unfold sliceBounds
   simp
 unfold slicePick
 rw [hb]
 have hr:sliceRange ((its.length:Int) - 1) (-1) (-1)=(List.range its.length).map fun k=>its.length - 1 - k:=by
   unfold sliceRange
   have e1:(if (-1:Int) > 0 then (if (its.length:Int) - 1 < -1 then (-1 - ((its.length:Int) - 1)+-1 - 1) / -1 else 0) else (if (its.length:Int) - 1 > -1 then ((its.length:Int) - 1 - -1 - -1 - 1) / (- -1) else 0)).toNat=its.length:=by
     rw [if_neg (by decide)]
     split
     · rw [show (- -1:Int)=1 by decide,Int.ediv_one];omega
     · omega
   dsimp only
   rw [e1]
   apply List.map_congr_left
   intro k hk
   have:=List.mem_range.mp hk
   omega
 dsimp only
 rw [hr,List.filterMap_map]
 congr 1
 have gen:∀ (l:List Value),(List.range l.length).filterMap ((fun i=>l[i]?) ∘ fun k=>l.length - 1 - k)=l.reverse:=by
   intro l
   have h1:(List.range l.length).filterMap ((fun i=>l[i]?) ∘ fun k=>l.length - 1 - k)=(List.range l.reverse.length).filterMap (fun k=>l.reverse[k]?):=by
     rw [List.length_reverse]
     refine ZbY fun k hk=>?_
     have hk':=List.mem_range.mp hk
     show l[l.length - 1 - k]?=l.reverse[k]?
     rw [List.getElem?_reverse hk']
   rw [h1]
   have g2:∀ (m:List Value) (n:Nat),(List.range n).filterMap (fun k=>m[k]?)=m.take n:=by
     intro m n
     induction n with
     | zero=>simp
     | succ n ih =>
       rw [List.range_succ,List.filterMap_append,ih,List.take_add_one]
       cases e:m[n]?<;>simp [e]
   rw [g2,List.take_of_length_le (Nat.le_refl _)]
 have:=gen its
 simpa using this
def Zex (K:PySem.W.Frag)(te:TE):TE:=fun σ H Q=>te σ H fun x H1=>∃ a xs,x=.ref a∧SqL K H1 a xs∧∀ p,H1 p=none→Q (.ref p) (upd H1 p (.lst xs.reverse))
section
variable {X:Cx}
theorem ZaK {e:Expr}{te:TE}{k:Nat}{pc pu p2 pos:Pos}(he:PE X e te):PE X (.Subscript e (.Slice none none (some (.UnaryOp .USub (.Constant (.int 1) k pc) pu)) p2) pos) (Zex X.K te):=by
 intro pins s σ H Q I h
 refine Subscript_ (Zm (he pins s σ H _ I h) fun v s1 ⟨x,H1,I1,r1,a,xs,ex,hx,q1⟩=>?_)
 subst ex
 cases r1
 refine wpAny_Slice (Zm (Yq pins s1 σ H1 (fun o H2=>o=none∧H2=H1) I1 ⟨rfl,rfl⟩) fun vl s2 ⟨l,H2,I2,pl,el,eh⟩=>Zm (Yq pins s2 σ H2 (fun o H3=>o=none∧H3=H2) I2 ⟨rfl,rfl⟩) fun vu s3 ⟨u,H3,I3,pu',eu,eh'⟩=>?_)
 subst el eh eu eh'
 refine Zm (Yc (X:=X) (Ub Wq Zc) pins s3 σ H3 (fun o H4=>o=some (-1)∧H4=H3) I3 ⟨_,rfl,_,rfl,rfl,rfl⟩) fun vst s4 ⟨o,H4,I4,ps,eo,eh4⟩=>?_
 subst eo eh4
 have I5:Inv X pins σ H4 { s4 with heap:=s4.heap.push { cls:=.type "slice",data:=.fields #[vl,vu,vst] } }:=I4.kept (t':=s4.toks) fun b ob q=>Heap.get?_push_of_some _ q
 obtain ⟨its,r,ht,hz⟩:=I5.list hx
 have hlen:=r.length
 show wpAny (model X.prog X.w) X.A (subscriptTail e (.Slice none none (some (.UnaryOp .USub (.Constant (.int 1) k pc) pu)) p2) (.ref a) (.ref s4.heap.objs.size)) (EP X pins σ Q) X.xe { s4 with heap:=s4.heap.push { cls:=.type "slice",data:=.fields #[vl,vu,vst] } }
 refine tail_any (ops:=[.ref a,.ref s4.heap.objs.size]) ht.isList.typeIs slot_list_getitem.lookup ?_ (by with_unfolding_all rfl)
 refine wpAny_getItem_list_slice ht.isList (Heap.IsSliceOf.new ..) pl pu' ps (by decide) ?_ (by rw [List.size_toArray];omega)
 rw [Zhc]
 refine ⟨.ref _,_,I5.laid (t':=s4.toks) (o:=.lst xs.reverse) (fun b ob q=>Heap.get?_push_of_some _ q) (Nat.le_refl _) ?_,rfl,q1 _ (I5.hok.fresh (Nat.le_refl _))⟩
 exact ⟨by rw [List.length_reverse];exact hz,its.reverse,0,r.reverse,Heap.get?_push_size _ rfl⟩
end
end L2
set_option maxHeartbeats 2000000
namespace L2
open PySem
theorem Sep.newE {Δ:Rs}{H H2:Hp}{o:HO}(S:Sep Δ H){p:Addr}(hp:H p=none)(e:upd H p o=H2):Sep ((p,Pt o)::Δ) H2:=e ▸ S.new hp o
theorem Zdj {lo:Int}{n:Nat}{te:TE}{σ:St}{D:Addr}{Q:VK}{H:Hp}{Δ:Rs}(hn:n≤sizeLine)(S:Sep Δ H)(hD:H D=none)(J:Nat→List V→Rs→Prop)(h0:J 0 [] Δ)
   (hs:∀ i ys Δ H,i < n→ys.length=i→J i ys Δ→Sep ((D,Vm ys)::Δ) H→te (σ++[some (.int (lo+i))]) H fun y H4=>∃ Δ',J (i+1) (ys++[y]) Δ'∧Sep ((D,Vm ys)::Δ') H4)
   (hd:∀ ys Δ H,J n ys Δ→ys.length=n→Sep ((D,Vm ys)::Δ) H→Q (.ref D) H):Ua (Itr lo n) te σ D Q H:=by
 refine ⟨fun i m ys H=>m=n - i∧i≤n∧ys.length=i∧∃ Δ,J i ys Δ∧Sep ((D,Vm ys)::Δ) H,⟨n,by simp,Nat.zero_le _,rfl,Δ,h0,S.new hD _⟩,?_⟩
 rintro i m ys H2 ⟨rfl,hi,hl,Δ,j,S⟩
 by_cases hlt:i < n
 · refine .inr ⟨hlt,_,fun y H4 (q:∃ Δ',J (i+1) (ys++[y]) Δ'∧Sep ((D,Vm ys)::Δ') H4)=>?_,fun v H3 y=>?_⟩
   · obtain ⟨Δ',j',S'⟩:=q
     exact ⟨S'.get D,by omega,n - (i+1),by omega,rfl,hlt,by simp [hl],Δ',j',S'.put D _⟩
   · obtain ⟨e1,e2⟩:=y
     subst e1 e2
     exact hs i ys Δ _ hlt hl j S
 · have e:i=n:=by omega
   exact .inl ⟨by show n≤i;omega,hd ys Δ H2 (e ▸ j) (by omega) S⟩
end L2
set_option maxHeartbeats 2000000
namespace L2
open PySem PySem.W PySem.Spec PyProof.Rows
section
variable {prog:Program}{w:World}{A:Around}{E:Value→Shared→Prop}{s:Shared}{a:Addr}{as:List Addr}{ks:List Str}{P:PySem.Fin→Shared→Prop}
end
section
variable {X:Cx}
end
end L2
set_option maxHeartbeats 2000000
namespace L2
open PySem
def ZY (x:Str):Prop:=1≤x.length∧x.length≤8∧x.cps.toList.all Ux=true
theorem XJ (c:Nat):(⟨#[c]⟩:Str).length=1:=rfl
theorem Zct {P:Nat→Bool}:∀{l:List Str},(∀ z∈l,∃ c,z=⟨#[c]⟩∧P c=true)→(l.map (·.length)).sum=l.length∧(l.flatMap (·.cps.toList)).length=l.length∧(l.flatMap (·.cps.toList)).all P=true
 | [],_=>⟨rfl,rfl,rfl⟩
 | z :: r,h=>by
   obtain ⟨c,rfl,hc⟩:=h z List.mem_cons_self
   obtain ⟨g1,g2,g3⟩:=Zct (l:=r) fun y hy=>h y (List.mem_cons_of_mem _ hy)
   refine ⟨?_,?_,?_⟩
   · rw [List.map_cons,List.sum_cons,g1,List.length_cons];show 1+_=_;omega
   · have e0:((⟨#[c]⟩:Str)::r).flatMap (·.cps.toList)=c::r.flatMap (·.cps.toList):=rfl
     rw [e0,List.length_cons,List.length_cons,g2]
   · rw [List.flatMap_cons,List.all_append,g3];simp [hc]
theorem Zfj {P:Nat→Bool}{zs:List Str}(h:∀ z∈zs,∃ c,z=⟨#[c]⟩∧P c=true):(zs.map (·.length)).sum+zs.length * (Str.ofString "").length≤2 * zs.length∧(Txt.join (Str.ofString "") zs).length=zs.length∧(Txt.join (Str.ofString "") zs).cps.toList.all P=true:=by
 obtain ⟨g1,g2,g3⟩:=Zct h
 refine ⟨?_,?_,?_⟩
 · rw [g1];show _+_ * 0≤_;omega
 · rw [ZM,WG,g2]
 · rw [WG];exact g3
theorem VJ {P:Nat→Bool}{x y:Str}(h1:x.cps.toList.all P=true)(h2:y.cps.toList.all P=true):(x++y).cps.toList.all P=true:=by
 rw [YZ,List.all_append,h1,h2];rfl
theorem ZcN {P:Nat→Bool}{c:Nat}(h:P c=true):(⟨#[c]⟩:Str).cps.toList.all P=true:=by
 show [c].all P=true;simp [h]
theorem Zam {P:Nat→Bool}{x:Str}{lo hi:Option Int}(h:x.cps.toList.all P=true):(Txt.slice x lo hi).cps.toList.all P=true:=by
 rw [XD]
 rw [List.all_eq_true] at h ⊢
 exact fun c hc=>h c (List.mem_of_mem_drop (List.mem_of_mem_take hc))
theorem Zgv {x:Str}{k:Int}(h0:0≤k)(h1:k≤x.length):(Txt.slice x none (some k)).length+(Txt.slice x (some k) none).length=x.length:=by
 have hn:¬ k < 0:=by omega
 rw [ZM,ZM,XD,XD,ZM]
 rw [ZM] at h1
 have e1:HT.sIx x.cps.toList.length 0 none=0:=rfl
 have e2:HT.sIx x.cps.toList.length x.cps.toList.length none=x.cps.toList.length:=rfl
 have e3:∀ d,HT.sIx x.cps.toList.length d (some k)=k.toNat:=fun d=>by
   unfold HT.sIx
   simp only [hn,if_false]
   omega
 rw [e1,e2,e3,e3,List.length_take,List.length_take,List.length_drop,List.length_drop]
 omega
theorem ZaR {x:Str}{P:Nat→Bool}(ha:x.cps.toList.all P=true){r:Int}(h0:0≤r)(h1:r < x.length):∃ c,YK x.cps.toList r=some c∧P c=true:=by
 have hl:r.toNat < x.cps.toList.length:=by rw [← ZM];omega
 exact ⟨_,ZcV h0 (List.getElem?_eq_getElem hl),List.all_eq_true.mp ha _ (List.getElem_mem hl)⟩
def a26:Str:="abcdefghijklmnopqrstuvwxyz"
theorem WN:a26.length=26:=by decide +kernel
theorem ZaT:a26.cps.toList.all Ux=true:=by decide +kernel
theorem Wx {α:Type}{f:α→V}{xs:List α}{r:Int}(h0:0≤r)(h1:r < (xs.length:Int)):∃ x∈xs,YK (xs.map f) r=some (f x):=by
 have hl:r.toNat < xs.length:=by omega
 exact ⟨_,List.getElem_mem hl,ZcV h0 (by rw [List.getElem?_map,List.getElem?_eq_getElem hl];rfl)⟩
theorem ZjA {xs:List V}{r:Int}(h0:0≤r)(h1:r < (xs.length:Int)):∃ x∈xs,YK xs r=some x:=by
 have hl:r.toNat < xs.length:=by omega
 exact ⟨_,List.getElem_mem hl,ZcV h0 (List.getElem?_eq_getElem hl)⟩
theorem Sep.le {Δ:Rs}{H:Hp}{p:Addr}{n m:Nat}(S:Sep ((p,Bx n)::Δ) H)(h:n≤m):Sep ((p,Bx m)::Δ) H:=by
 obtain ⟨g,l,r,S⟩:=S
 exact ⟨g,l,BoxAt.le r h,S⟩
def VP:Sp:=fun vs H Q _=>∃(p:Addr)(n:Nat)(Δ:Rs),vs=[.ref p]∧Sep ((p,Bx n)::Δ) H∧n≤900000∧∀(v:V)(H':Hp),IsVal v→Sep ((p,Bx (n+50))::Δ) H'→Q v H'
theorem ZiP {vs:List V}{H:Hp}{Q:VK}{E:XK}(h:VP vs H Q E):ZdE vs H Q E:=by
 obtain ⟨p,n,Δ,e,S,h1,q⟩:=h
 exact ⟨p,n,e,S.get p,h1,fun v H' hv B k=>q v H' hv (S.box k B)⟩
def Zcv (K:PySem.W.Frag):Sp:=fun vs H Q _=>∃(a:Addr)(ns:List Int)(k:Int)(Δ:Rs),vs=[.ref a,.int k]∧SqL K H a (ns.map V.int)∧Sep Δ H∧0≤k∧k≤1000∧∀(p:Addr)(H':Hp),Same H H'→Sep ((p,Bx 0)::Δ) H'→Q (.ref p) H'
theorem ZlE {K:PySem.W.Frag}{vs:List V}{H:Hp}{Q:VK}{E:XK}(h:Zcv K vs H Q E):Zij K vs H Q E:=by
 obtain ⟨a,ns,k,Δ,e,hS,S,h1,h2,q⟩:=h
 refine ⟨a,ns,k,e,hS,h1,h2,fun p H' hp B s=>q p H' s ?_⟩
 obtain ⟨x,y,z,eb,w⟩:=B
 exact (S.made s hp eb).say p (Bx 0) fun h r=>⟨x,y,z,r,w⟩
theorem UC {xs:List V}{i:Nat}:YJ xs none (some (i:Int))=xs.take i:=by
 unfold YJ
 rw [HT.sIx_none,HT.sIx_nat,List.drop_zero,Nat.sub_zero]
 by_cases h:i≤xs.length
 · rw [Nat.min_eq_left h]
 · rw [Nat.min_eq_right (by omega),List.take_of_length_le (Nat.le_refl _),List.take_of_length_le (by omega)]
theorem VX {xs:List V}{i:Nat}:YJ xs (some (i:Int)) none=xs.drop i:=by
 unfold YJ
 rw [HT.sIx_none,HT.sIx_nat]
 by_cases h:i≤xs.length
 · rw [Nat.min_eq_left h,List.take_of_length_le (by rw [List.length_drop];omega)]
 · rw [Nat.min_eq_right (by omega),Nat.sub_self,List.take_zero,List.drop_eq_nil_of_le (by omega)]
theorem Zjy {x:Str}{ys:List Str}:XZ (.str x) (ys.map V.str)=decide (x∈ys):=by
 unfold XZ
 induction ys with
 | nil=>rfl
 | cons y ys ih =>
   rw [List.map_cons,List.any_cons,ih]
   show ((y == x) || decide (x∈ys))=decide (x∈y::ys)
   by_cases h:y=x
   · subst h;simp
   · rw [show (y == x)=false from beq_eq_false_iff_ne.mpr h,Bool.false_or]
     congr 1
     simp [List.mem_cons,Ne.symm h]
theorem Zbv (ys:List Str):(ys.map V.str).all XE=true:=by
 rw [List.all_eq_true]
 intro v hv
 obtain ⟨y,_,rfl⟩:=List.mem_map.mp hv
 rfl
class IsLst (R:Xf) (k:Nat):Prop where
 lst:∀ {a h},R a h→∃ xs,h a=some (.lst xs)∧xs.length=k
end L2
set_option maxHeartbeats 2000000
namespace L2
open PySem
theorem ZaX {i:Int}(h:i.natAbs≤10 ^ 31):i.natAbs.log2 < 1920∧(Str.ofString (toString i)).length≤40:=by
 constructor
 · by_cases z:i.natAbs=0
   · rw [z];decide
   · exact (Nat.log2_lt z).mpr (Nat.lt_of_le_of_lt h (by decide +kernel))
 · have e:=int_text_length_le10 (a:=i) (k:=32) (by decide) (Nat.lt_of_le_of_lt h (by decide))
   rw [ZM,PyProof.Rows.signs_ofString,List.length_map,String.length_toList]
   omega
def UJ:V→PyData
 | .int i=>.int i
 | .str x=>.str x
 | _=>.none
end L2
set_option maxHeartbeats 2000000
namespace L2
open PySem
def some_of (H:Hp)(L:List Addr):Hp:=fun b=>if b∈L then H b else match H b with
 | some o=>if YD o=true then none else some o
 | none=>none
theorem Zdz {H:Hp}{L:List Addr}:Same (some_of H L) H:=fun b o e=>by
 unfold some_of at e
 split at e
 · exact e
 · split at e
   · rename_i o' h'
     split at e
     · cases e
     · cases e;exact h'
   · cases e
theorem ZdU {H:Hp}{L:List Addr}{b:Addr}{o:HO}(e:H b=some o)(m:YD o=false):some_of H L b=some o:=by
 unfold some_of
 split
 · exact e
 · simp only [e,m,Bool.false_eq_true,if_false]
theorem ZcG {H:Hp}{L:List Addr}{b:Addr}{o:HO}(e:some_of H L b=some o)(m:YD o=true):b∈L:=by
 unfold some_of at e
 split at e
 · assumption
 · split at e
   · split at e
     · cases e
     · rename_i h;cases e;exact absurd m h
   · cases e
end L2
set_option maxHeartbeats 2000000
namespace L2
open PySem
theorem Sep.updR {Δ Δ':Rs}{H:Hp}{R T:Xf}(S:Sep Δ H)(a:Addr)(o':HO)[P:Pull a Δ R Δ'](m:∀ h,R a h→∃ o,h a=some o∧YD o=true)
   (f:∀ h,R a h→Same h H→∀ h',h' a=some o'→(∀ b o,b≠a→h b=some o→h' b=some o)→(∀ b o,b≠a→H b=some o→YD o=false→h' b=some o)→T a h'):Sep ((a,T)::Δ') (upd H a o'):=by
 obtain ⟨h,l,r,S⟩:=P.out S
 obtain ⟨o,ea,ma⟩:=m h r
 refine ⟨fun b=>if b=a then some o' else match h b with | some u=>some u | none=>some_of H [] b,fun b u e=>?_,f h r l _ (if_pos rfl) (fun b u nb e=>?_) (fun b u nb e mu=>?_),S.mono fun b u e=>?_⟩
 · dsimp only at e
   by_cases hb:b=a
   · rw [if_pos hb] at e;cases e;rw [hb];exact Zd
   · rw [if_neg hb] at e
     rw [Zo hb]
     cases q:h b with
     | some z=>rw [q] at e;cases e;exact l _ _ q
     | none=>rw [q] at e;exact Zdz _ _ e
 · rw [if_neg nb,e]
 · rw [if_neg nb]
   cases q:h b with
   | some z=>have:=l _ _ q;rw [e] at this;cases this;rfl
   | none=>exact ZdU e mu
 · obtain ⟨e1,e2⟩:=cut_some.mp e
   have hb:b≠a:=fun z=>by have:=e2 o (by rw [z];exact ea);rw [ma] at this;cases this
   refine cut_some.mpr ⟨by rw [Zo hb];exact e1,fun v q=>?_⟩
   simp only [if_neg hb] at q
   cases z:h b with
   | some x=>rw [z] at q;cases q;exact e2 _ z
   | none =>
     rw [z] at q
     cases mm:YD v with
     | false=>rfl
     | true=>have:=ZcG q mm;cases this
end L2
set_option maxHeartbeats 2000000
namespace L2
open PySem
theorem Sep.im {Δ:Rs}{H:Hp}{a:Addr}{R T:Xf}[U:Up R](S:Sep ((a,R)::Δ) H)(f:∀ h,R a h→Same h H→(∀ b o,H b=some o→YD o=false→h b=some o)→T a h):Sep ((a,T)::Δ) H:=by
 obtain ⟨h,l,r,S⟩:=S
 have s1:Same h fun b=>match h b with | some o=>some o | none=>some_of H [] b:=fun b o e=>by simp only [e]
 have le:Same (fun b=>match h b with | some o=>some o | none=>some_of H [] b) H:=fun b o e=>by
   dsimp only at e
   cases q:h b with
   | some z=>rw [q] at e;cases e;exact l _ _ q
   | none=>rw [q] at e;exact Zdz _ _ e
 refine ⟨_,le,f _ (U.up r s1) le fun b o e m=>?_,S.mono fun b o e=>?_⟩
 · cases q:h b with
   | some z=>have:=l _ _ q;rw [e] at this;cases this;rfl
   | none=>exact ZdU e m
 · obtain ⟨e1,e2⟩:=cut_some.mp e
   refine cut_some.mpr ⟨e1,fun u q=>?_⟩
   try dsimp only at q
   cases z:h b with
   | some x=>rw [z] at q;cases q;exact e2 _ z
   | none =>
     rw [z] at q
     cases mm:YD u with
     | false=>rfl
     | true=>have:=ZcG q mm;cases this
theorem Zhi {x:Str}(h:ZY x):IsVal (.str x):=by
 refine ⟨by have:=h.2.1;omega,?_⟩
 rw [List.all_eq_true]
 intro c hc
 have:=List.all_eq_true.mp h.2.2 c hc
 unfold Ux at this
 unfold Yz
 simp only [Bool.and_eq_true,decide_eq_true_eq] at this ⊢
 omega
end L2
set_option maxHeartbeats 2000000
namespace L2
open PySem
end L2
set_option maxHeartbeats 2000000
namespace L2
open PySem PySem.Spec PyProof.Rows
def Itz (K:PySem.W.Frag)(l1 l2:Addr):It :=
 ⟨fun i H=>∃ xs ys x y,SqL K H l1 xs∧SqL K H l2 ys∧xs[i]?=some x∧ys[i]?=some y,
  fun i H v H'=>∃ t x y,H t=none∧(∀ xs,SqL K H l1 xs→xs[i]?=some x)∧(∀ ys,SqL K H l2 ys→ys[i]?=some y)∧v=.ref t∧H'=upd H t (.tup [x,y]),
  fun i H=>∃ xs ys,SqL K H l1 xs∧SqL K H l2 ys∧(xs.length≤i∨ys.length≤i)⟩
theorem Zhs {P:Program}{w:World}{K:PySem.W.Frag}{elts:List Expr}{x1:Nat}{tp:Pos}{z TI TO i1 i2 l1 l2:Addr}(D:ZipApart z TI TO i1 i2 l1 l2)(hTl1:l1≠TI)(hTl2:l2≠TI) :
   Wm P w K (.Tuple elts x1 tp) (Itz K l1 l2) [z,TI,TO,i1,i2] z (fun i h=>IsZip h z TI TO .none∧IsPair h TI (.ref i1) (.ref i2)∧(∃ a b,IsPair h TO a b)∧h.IsListIter i1 l1 i∧h.IsListIter i2 l2 i) where
 mem:=by simp
 obj:=fun i h st b hb=>by
   obtain ⟨hz,hTI,⟨a,c,hTO⟩,⟨o1,ho1,c1,d1⟩,⟨o2,ho2,c2,d2⟩⟩:=st
   simp only [List.mem_cons,List.not_mem_nil,or_false] at hb
   rcases hb with q | q | q | q | q
   · rw [q];exact ⟨_,hz,fun v z=>by cases z⟩
   · rw [q];exact ⟨_,hTI,fun v z=>by cases z⟩
   · rw [q];exact ⟨_,hTO,fun v z=>by cases z⟩
   · rw [q];exact ⟨o1,ho1,fun v z=>by rw [d1] at z;cases z⟩
   · rw [q];exact ⟨o2,ho2,fun v z=>by rw [d2] at z;cases z⟩
 keep:=fun i h h' st k=>by
   obtain ⟨hz,hTI,⟨a,c,hTO⟩,h1,h2⟩:=st
   exact ⟨k z (by simp) _ hz,k TI (by simp) _ hTI,⟨a,c,k TO (by simp) _ hTO⟩,h1.at fun o y=>k i1 (by simp) o y,h2.at fun o y=>k i2 (by simp) o y⟩
 item:=by
   intro X hP hw hK hc i pins s σ H E I hf st hg
   subst hP hw hK
   obtain ⟨hz,hTI,⟨a,b,hTO⟩,h1,h2⟩:=st
   obtain ⟨xs,ys,x,y,hq1,hq2,hx,hy⟩:=hg
   obtain ⟨its1,rv1,p1,hz1⟩:=I.list hq1
   obtain ⟨its2,rv2,p2,hz2⟩:=I.list hq2
   obtain ⟨u1,hu1,ru1⟩:=rv1.get hx
   obtain ⟨u2,hu2,ru2⟩:=rv2.get hy
   refine wpAny_pyNext_zip_item D hz hTI hTO h1 h2 p1.isList p2.isList (by simpa using hu1) (by simpa using hu2) fun h' g1 g2 g3 g4 g5 g6 g7=>?_
   refine ⟨_,rfl,wpAny_letOwnedTupleGo_zip g1 fun h2' g1' hs2=>?_⟩
   have hzl:z < s.heap.objs.size:=Heap.lt_size hz
   have hTIl:TI < s.heap.objs.size:=Heap.lt_size hTI
   have hTOl:TO < s.heap.objs.size:=Heap.lt_size hTO
   have hi1l:i1 < s.heap.objs.size:=by obtain ⟨o,ho,_⟩:=h1;exact Heap.lt_size ho
   have hi2l:i2 < s.heap.objs.size:=by obtain ⟨o,ho,_⟩:=h2;exact Heap.lt_size ho
   have g5':h'.get? s.heap.objs.size=some ({ cls:=.type "tuple",data:=.seq #[u1,u2] }:Obj):=g5
   generalize hO:({ cls:=.type "tuple",data:=.seq #[u1,u2] }:Obj)=O at g5'
   have I1:Inv X pins σ (upd H s.heap.objs.size (.tup [x,y])) { s with heap:=s.heap.push O,toks:=s.toks }:=by
     refine I.laid (t':=s.toks) (fun b o y=>Heap.get?_push_of_some _ y) (Nat.le_refl _) (show ObjOk X.prog X.w _ _ _ (.tup _) from ⟨by show 2≤sizeLine;decide,[u1,u2],.cons ru1 (.cons ru2 .nil),?_⟩)
     rw [← hO];exact IsTup.new _ _
   have hfree:=I.hok.fresh (Nat.le_refl s.heap.objs.size)
   have hf2:∀ b∈[z,TI,TO,i1,i2],Yg X pins (upd H s.heap.objs.size (.tup [x,y])) b:=fun b hb=>by
     obtain ⟨f0,f1⟩:=hf b hb
     have hb':b≠s.heap.objs.size:=by
       simp only [List.mem_cons,List.not_mem_nil,or_false] at hb
       rcases hb with q | q | q | q | q<;>(rw [q];exact Nat.ne_of_lt (by assumption))
     exact ⟨by rw [Zo hb'];exact f0,f1⟩
   have I2:Inv X pins σ (upd H s.heap.objs.size (.tup [x,y])) { s with heap:=h2',toks:=s.toks }:=by
     refine I1.turned2 (t':=s.toks) (h':=h2') (fun b o hb y=>?_) hf2
     have n1:b≠z:=fun q=>hb (by simp [q])
     have n2:b≠TO:=fun q=>hb (by simp [q])
     have n3:b≠i1:=fun q=>hb (by simp [q])
     have n4:b≠i2:=fun q=>hb (by simp [q])
     rw [hs2.2 b n1]
     rcases Heap.get?_push_cases y with ⟨q1,q2⟩ | y
     · rw [q1,q2];exact g5'
     · exact g7 b o n1 n2 n3 n4 y
   refine ⟨.ref s.heap.objs.size,_,I2,rfl,⟨s.heap.objs.size,x,y,hfree,fun ys hy'=>by rw [I.list_inj hy' hq1];exact hx,fun ys' hy'=>by rw [I.list_inj hy' hq2];exact hy,rfl,rfl⟩,⟨g1',?_,⟨u1,u2,?_⟩,?_,?_⟩,fun b hb=>(hf2 b hb).1⟩
   · show h2'.get? TI=_
     rw [hs2.2 TI D.TIz];exact g7 TI _ D.TIz D.TITO D.TIi1 D.TIi2 hTI
   · show h2'.get? TO=_
     rw [hs2.2 TO D.TOz];exact g2
   · exact g3.at fun o y=>by rw [hs2.2 i1 D.i1z];exact y
   · exact g4.at fun o y=>by rw [hs2.2 i2 D.i2z];exact y
 done:=by
   intro X hP hw hK hc i pins s σ H E I hf st hg
   subst hP hw hK
   obtain ⟨hz,hTI,⟨a,b,hTO⟩,h1,h2⟩:=st
   obtain ⟨xs,ys,hq1,hq2,hle⟩:=hg
   obtain ⟨its1,rv1,p1,hz1⟩:=I.list hq1
   obtain ⟨its2,rv2,p2,hz2⟩:=I.list hq2
   have l1:=rv1.length
   have l2:=rv2.length
   refine wpAny_pyNext_zip_end (I.ok.hd hc) D hz hTI hTO h1 h2 p1.isList p2.isList ?_ fun h' eb=>⟨rfl,I.turned2 (t':=s.toks) (fp:=[z,TI,TO,i1,i2]) (fun b o hb y=>eb b o (fun q=>hb (by simp [q])) (fun q=>hb (by simp [q])) (fun q=>hb (by simp [q])) (fun q=>hb (by simp [q])) y) hf⟩
   rcases hle with q | q
   · exact .inl (Array.getElem?_eq_none (by simp;omega))
   · exact .inr (Array.getElem?_eq_none (by simp;omega))
 self:=fun _ _ _ _ _ st h=>wpAny_pyIter_zip st.1 h
def iZip (K:PySem.W.Frag)(ta tb:TE):TI:=fun σ H R=>ta σ H fun v H1=>tb σ H1 fun u H2=>∃ a b xs ys,[v,u]=[V.ref a,V.ref b]∧H2 a=some (.lst xs)∧H2 b=some (.lst ys)∧R (Itz K a b) H2
section
variable {X:Cx}
theorem Uv:bootBuiltins "zip"=some (.type "zip"):=by decide +kernel
theorem Zfl {l m:Expr}{ta tb:TE}{elts:List Expr}{x1:Nat}{tp p pos:Pos}(hg:Gl X "zip")(hm:X.mg "zip"=none)(hl:PE X l ta)(hr:PE X m tb)
   (he:starEach [l,m] X.env=(false,eval l X.env)::starEach [m] X.env:=by rfl) (he2:starEach [m] X.env=[(false,eval m X.env)]:=by rfl) (hpl:(backTo pos (starEach [m] X.env)).any (·.1)=false:=by rfl):PI X (.Tuple elts x1 tp) (.Call (.Name "zip" p) [l,m] [] pos) (iZip X.K ta tb):=by
 intro pins s σ H R I h
 have ha:PA X [l,m] (Yf ta (Yf tb YF)):=ZX hl (ZX hr Za he2) he
 refine wpAny_Call_Name_kw (Xy I hg hm Uv ?_)
 refine PyProof.Rows.callWith_type1 (Zm (ha pos pins s σ H (fun vs H2=>∃ a b xs ys,vs=[V.ref a,V.ref b]∧H2 a=some (.lst xs)∧H2 b=some (.lst ys)∧R (Itz X.K a b) H2) I h) fun us s1 ⟨vs,H1,I1,r1,a,b,xs,ys,e,ea,eb,q⟩=>?_) he hpl
 subst e
 obtain ⟨u1,u2,rfl,r2,r3⟩:∃ u1 u2,us=[u1,u2]∧RelV (V.ref a) u1∧RelV (V.ref b) u2:=by
   cases r1 with
   | cons p t=>cases t with
     | cons p2 t2=>cases t2;exact ⟨_,_,rfl,p,p2⟩
 cases r2
 cases r3
 obtain ⟨z1,its1,n1,rv1,hl1,eo1⟩:=I1.lstM ea
 obtain ⟨z2,its2,n2,rv2,hl2,eo2⟩:=I1.lstM eb
 have ha1:a < s1.heap.objs.size:=Heap.lt_size eo1
 have hb1:b < s1.heap.objs.size:=Heap.lt_size eo2
 refine call_zip_2 ⟨_,eo1,rfl,n1,rfl⟩ ⟨_,eo2,rfl,n2,rfl⟩ fun h' g1 g2 g3 g4 g5 g6 g7=>wpAny_pyIter_zip g1 ?_
 refine ⟨s1.heap.objs.size+4,[s1.heap.objs.size+4,s1.heap.objs.size+2,s1.heap.objs.size+3,s1.heap.objs.size,s1.heap.objs.size+1],_,_,H1,rfl,I1.kept (t':=s1.toks) g7,Zhs (l1:=a) (l2:=b) ⟨?_,?_,?_,?_,?_,?_,?_,?_,?_,?_,?_,?_,?_,?_,?_,?_,?_,?_⟩ ?_ ?_,⟨g1,g2,⟨_,_,g3⟩,g4,g5⟩,fun c hc=>?_,q⟩
 rotate_right
 · simp only [List.mem_cons,List.not_mem_nil,or_false] at hc
   have up:∀ k,Yg X pins H1 (s1.heap.objs.size+k):=fun k=>I1.fpOk (Nat.le_add_right _ k) (I1.hok.fresh (Nat.le_add_right _ k))
   rcases hc with q | q | q | q | q
   · rw [q];exact up 4
   · rw [q];exact up 2
   · rw [q];exact up 3
   · rw [q];exact up 0
   · rw [q];exact up 1
 all_goals
   first
     | exact Nat.ne_of_lt (by first | (apply Nat.lt_of_lt_of_le (by assumption);omega) | (simp only [Nat.add_lt_add_iff_left];decide) | (show _ < _+_;exact Nat.lt_add_of_pos_right (by decide)))
     | exact Nat.ne_of_gt (by first | (simp only [Nat.add_lt_add_iff_left];decide) | exact Nat.lt_add_of_pos_right (by decide))
end
end L2
set_option maxHeartbeats 2000000
namespace L2
open PySem PySem.Spec PyProof.Rows
mutual
inductive DatT (K:PySem.W.Frag)(H:Hp):V→PyData→Prop
 | non:DatT K H .non .none
 | int (i):DatT K H (.int i) (.int i)
 | str (x):DatT K H (.str x) (.str x)
 | tup {a xs ds}:SqT K H a xs→DatTs K H xs ds→DatT K H (.ref a) (.tuple ds)
inductive DatTs (K:PySem.W.Frag)(H:Hp):List V→List PyData→Prop
 | nil:DatTs K H [] []
 | cons {v d vs ds}:DatT K H v d→DatTs K H vs ds→DatTs K H (v::vs) (d::ds)
end
section
variable {X:Cx}{pins:List (Addr×Obj)}{σ:St}{H:Hp}{s:Shared}
end
end L2
set_option maxHeartbeats 2000000
namespace L2
open PySem
end L2
set_option maxHeartbeats 2000000
namespace L2
open PySem PySem.W PySem.Spec PyProof.Rows
section
variable {X:Cx}
end
end L2
set_option maxHeartbeats 2000000
namespace L2
open PySem
def tCut (t u:TS):TS:=fun D σ H=>∃ I:St→Hp→Prop,t { D with nx:=I } σ H∧∀ σ' H',I σ' H'→u D σ' H'
theorem Uj {X:Cx}{st:Stmt}{rest:List Stmt}{t u:TS}(h1:PS X st t)(h2:PSs X rest u):PSs X (st::rest) (tCut t u):=by
 intro pins s σ H D I h
 obtain ⟨J,h,g⟩:=h
 refine wpAny_execs_cons (Zm (h1 pins s σ H { D with nx:=J } I h) fun f s1 q=>?_)
 cases f with
 | next =>
   obtain ⟨σ',H',I',q⟩:=q
   exact h2 pins s1 σ' H' D I' (g _ _ q)
 | ret v=>exact q
 | brk=>exact q
 | cont=>exact q
end L2
set_option maxHeartbeats 2000000
namespace L2
open PySem PySem.Spec PyProof.Rows
section
variable {X:Cx}{pins:List (Addr×Obj)}{σ:St}{H:Hp}{s:Shared}{d:Addr}{o:Obj}{kvs:List (ZU×V)}
end
section
variable {X:Cx}{tg:Expr}
end
end L2
set_option maxHeartbeats 2000000
namespace L2
open PySem PySem.W PySem.Spec PyProof.Rows
section
variable {X:Cx}
theorem UQ:YQ X (.type "int") (fun xs H Q=>∃ (x:Str) (n:Int),xs=[.str x]∧PySem.intText? x=some n∧x.length≤640∧Q (.int n) H):=by
 intro pins s σ H xs us Q I r h
 obtain ⟨x,n,rfl,e,hl,q⟩:=h
 obtain ⟨u,rfl,t,rfl⟩:=YS r
 exact PySem.W.KIN.call_text e hl ⟨.int n,H,I.tok _,⟨_,rfl⟩,q⟩
end
end L2
set_option maxHeartbeats 2000000
namespace L2
open PySem
def Uc (m:Nat):List Nat:=(Nat.toDigits 10 m).map Char.toNat
theorem VZ {m c:Nat}(h:c∈Uc m):48≤c∧c≤57:=by
 obtain ⟨ch,hch,e⟩:=List.mem_map.mp h
 have r:=PyProof.Rows.digit_range (Nat.isDigit_of_mem_toDigits (by decide) (by decide) hch)
 rw [← e];exact r
theorem ZbD (i:Int):∃ m:Nat,((Str.ofString (toString i)).cps.toList=Uc m∧i=m)∨((Str.ofString (toString i)).cps.toList=45::Uc m∧i=-(m:Int)):=by
 cases i with
 | ofNat m=>exact ⟨m,.inl ⟨PySem.W.KIN.signs_num m,rfl⟩⟩
 | negSucc m =>
   refine ⟨m+1,.inr ⟨?_,by omega⟩⟩
   rw [PyProof.Rows.signs_ofString]
   show ("-"++Nat.repr (m+1)).toList.map Char.toNat=_
   rw [String.toList_append,List.map_append,Nat.toList_repr]
   rfl
theorem ZfD {i:Int}{c:Nat}(h:c∈(Str.ofString (toString i)).cps.toList):c=45∨(48≤c∧c≤57):=by
 obtain ⟨m,⟨e,_⟩ | ⟨e,_⟩⟩:=ZbD i
 · rw [e] at h;exact .inr (VZ h)
 · rw [e] at h
   rcases List.mem_cons.mp h with h | h
   · exact .inl h
   · exact .inr (VZ h)
theorem ZdT (m:Nat):NumText.digitsVal (Uc m)=m:=PySem.W.KIN.val_back m
theorem ZdS {m k:Nat}(h:m < 10 ^ (k+1)):(Uc m).length≤k+1:=by
 unfold Uc
 rw [List.length_map]
 exact (Nat.length_toDigits_le_iff (by decide) (by omega)).mpr h
end L2
set_option maxHeartbeats 2000000
namespace L2
open PySem PySem.W PySem.Spec PyProof.Rows
section
variable {X:Cx}
end
end L2
set_option maxHeartbeats 2000000
namespace L2
open PySem PySem.Spec PyProof.Rows
end L2
set_option maxHeartbeats 2000000
namespace L2
open PySem PySem.Spec PyProof.Rows
inductive Pg where
 | set (x:Str) (v:V) (s:Str)
 | look (x:Str)
 | slot (w s:Str)
 | pass
 | blk (w:Str) (ps:List Pg)
 | inn (s:Str) (ps:List Pg)
def Pg.word:Pg→Str
 | .set _ _ _=>"set"
 | .look _=>"look"
 | .slot w _=>w
 | .pass=>"pass"
 | .blk w _=>w
 | .inn _ _=>"in"
def Pg.inner:Pg→List Pg
 | .blk _ ps=>ps
 | .inn _ ps=>ps
 | _=>[]
mutual
def Pg.many:Pg→Nat
 | .blk _ ps=>1+Pg.manys ps
 | .inn _ ps=>1+Pg.manys ps
 | _=>1
def Pg.manys:List Pg→Nat
 | []=>0
 | p::ps=>p.many+Pg.manys ps
end
theorem Pg.many_eq (p:Pg):p.many=1+Pg.manys p.inner:=by
 cases p<;>rfl
end L2
set_option maxHeartbeats 2000000
namespace L2
open PySem PySem.Spec PyProof.Rows PyProof.Rows.KTD
def KTup (K:PySem.W.Frag)(b:Addr)(xs:List V):Prop:=∃ (o:Obj) (its:Array Value) (n:Nat),K.lookup b=some o∧o.cls=.type "tuple"∧o.data=.seq its n∧its.size≤sizeLine∧Vals xs its.toList
theorem KTup.sq {K:PySem.W.Frag}{b:Addr}{xs:List V}{H:Hp}(h:KTup K b xs):SqT K H b xs:=.inr h
def KDic (K:PySem.W.Frag)(d:Addr)(D:List (Str×List V)):Prop:=(d == sysModules)=false∧∃ o es ep,K.lookup d=some o∧o.ExactDict∧o.data=.dict es ep∧KTD.Rows (fun xs v=>∃ b,v=Value.ref b∧KTup K b xs) es.toList D
theorem KDic.tab {K:PySem.W.Frag}{d:Addr}{D:List (Str×List V)}{h:Heap}(T:KDic K d D)(k:K.In h):KTD.TabOf (fun xs v=>∃ b,v=Value.ref b∧KTup K b xs) h d D:=let ⟨a,o,es,ep,e,r⟩:=T;⟨a,o,es,ep,k _ _ e,r⟩
section
variable {δ:Type}{Rr:δ→Value→Prop}{prog:Program}{w:World}{A:Around}{E:Value→Shared→Prop}{s:Shared}{a:Addr}{D:List (Str×δ)}{k:Str}{tk:Tok}
theorem ZhQ {Q:Option Value→Shared→Prop}(T:TabOf Rr s.heap a D)(h1:∀ d v,datumAt k D=some d→Rr d v→Q (some v) { s with toks:=s.toks+1 })(h2:datumAt k D=none→Q none { s with toks:=s.toks+1 }) :
   wpAny (model prog w) A (dictGet a (.str k tk)) Q E s:=by
 obtain ⟨_,o,es,ep,ho,hc,hd,hr⟩:=T
 unfold dictGet
 try with_reducible refine wpAny_holding ?_
 refine wpAny_bind (wpAny_pyHash_str (wpAny_bind (kt_dictFind_strs (s:={ s with toks:=s.toks+1 }) ho hd (by obtain ⟨l⟩:=es;simpa using hr.exact) ?_)))
 have hq:Q (findBy (fun k v=>v.isStr k) es k) { s with toks:=s.toks+1 }:=by
   have hf:findBy (fun k v=>v.isStr k) es k=(es.toList.find? fun e=>e.key.isStr k).map (·.val):=by
     obtain ⟨l⟩:=es
     simp [findBy]
   rw [hf]
   cases hat:datumAt k D with
   | some d=>obtain ⟨v,hv,hfl⟩:=hr.find_some hat;rw [hv];exact h1 d v hat hfl
   | none=>rw [hr.find_none hat];exact h2 hat
 rw [findBy_of_findIdx?] at hq
 cases hi:es.findIdx? fun e=>e.key.isStr k with
 | none=>rw [hi] at hq;exact wpAny_pure hq
 | some i=>rw [hi] at hq;exact wpAny_bind (wpAny_dictEntries (s:={ s with toks:=s.toks+1 }) ho hd (wpAny_pure hq))
theorem ZeF:MeetsIn prog w (Builtin.«dict.get» ⟨[.ref a,.str k tk],[]⟩) (fun _ R s=>TabOf Rr s.heap a D∧(∀ d v,datumAt k D=some d→Rr d v→R (.ok (.ret v)) { s with toks:=s.toks+1 })∧(datumAt k D=none→R (.ok (.ret .none)) { s with toks:=s.toks+1 })) :=
 .of_wp fun A R s ⟨T,h1,h2⟩=>by
   show wpAny _ _ (dictGet a (.str k tk) >>= _) _ _ s
   refine wpAny_bind (ZhQ T (fun d v ha hv=>wpAny_pure ⟨v,rfl,h1 d v ha hv⟩) fun hn=>?_)
   show wpAny _ _ (Builtin.Dict.missed a (.str k tk) >>= _) _ _ _
   exact wpAny_bind (wpAny_missed_other T.1 (wpAny_pure ⟨.none,rfl,h2 hn⟩))
end
def Zio (K:PySem.W.Frag)(D:List (Str×List V))(te:TE):TE:=fun σ H Q=>te σ H fun y H1=>∃ x,y=.str x∧(∀ b xs,datumAt x D=some xs→SqT K H1 b xs→Q (.ref b) H1)∧(datumAt x D=none→Q .non H1)
section
variable {X:Cx}{o e:Expr}{apos cpos:Pos}{te:TE}{d:Addr}{D:List (Str×List V)}
theorem Zjr (T:KDic X.K d D)(ho:PE X o (tC (.ref d)))(he:PE X e te)(m:M1 X o "get" apos e cpos):PE X (.Call (.Attribute o "get" apos) [e] [] cpos) (Zio X.K D te):=by
 intro pins s σ H Q I h
 refine wpAny_Call_method m.base m.few m.line PySem.F.plainAttrs_dict PySem.F.slot_dict_get PySem.F.type_dict_get (Zm (ho pins s σ H (fun v H1=>v=.ref d∧Zio X.K D te σ H1 Q) I ⟨rfl,h⟩) fun u s1 ⟨x,H1,I1,rx,ex,q1⟩=>?_)
 subst ex
 obtain rfl:u=Value.ref d:=rx
 obtain ⟨o',es,ep,lk,hc,_⟩:=T.2
 refine ⟨⟨o',I1.kIn _ _ lk,hc.1⟩,fun b e=>by injection e with e;subst e;exact ⟨o',I1.kIn _ _ lk,hc.2.1⟩,?_⟩
 rw [m.trees]
 refine Calls.callWith_builtin rfl (Calls.evalArgs_plain (Calls.spliced_cons (Zm (he pins s1 σ H1 _ I1 q1) fun iv s2 ⟨y,H2,I2,ry,x,ey,q2,q3⟩=>Calls.spliced_nil ?_)))
 subst ey
 obtain ⟨t,rfl⟩:=ry
 refine call_meetsIn PySem.F.slot_dict_get ⟨o',I2.kIn _ _ lk,hc.1⟩ PySem.F.entry_dict_get (PySem.F.args_dict_get_2 _ _) (ZeF (D:=D) (Rr:=fun xs v=>∃ b,v=Value.ref b∧KTup X.K b xs)) ⟨T.tab I2.kIn,fun xs v ha hv=>?_,fun hn=>⟨.non,H2,I2.tok _,rfl,q3 hn⟩⟩
 obtain ⟨b,rfl,kt⟩:=hv
 exact ⟨.ref b,H2,I2.tok _,rfl,q2 b xs ha kt.sq⟩
end
end L2
set_option maxHeartbeats 2000000
namespace L2
open PySem PySem.Spec PyProof.Rows
section
variable {X:Cx}
end
mutual
theorem DatT.same {K:PySem.W.Frag}{H H':Hp}(s:Same H H'):∀{v d},DatT K H v d→DatT K H' v d
 | _,_,.non=>.non
 | _,_,.int i=>.int i
 | _,_,.str x=>.str x
 | _,_,.tup e q=>.tup (e.tf s.tf) (DatTs.same s q)
theorem DatTs.same {K:PySem.W.Frag}{H H':Hp}(s:Same H H'):∀{vs ds},DatTs K H vs ds→DatTs K H' vs ds
 | _,_,.nil=>.nil
 | _,_,.cons r t=>.cons (DatT.same s r) (DatTs.same s t)
end
mutual
theorem DatT.tf {K:PySem.W.Frag}{H H':Hp}(s:TF H H'):∀{v d},DatT K H v d→DatT K H' v d
 | _,_,.non=>.non
 | _,_,.int i=>.int i
 | _,_,.str x=>.str x
 | _,_,.tup e q=>.tup (SqT.tf e s) (DatTs.tf s q)
theorem DatTs.tf {K:PySem.W.Frag}{H H':Hp}(s:TF H H'):∀{vs ds},DatTs K H vs ds→DatTs K H' vs ds
 | _,_,.nil=>.nil
 | _,_,.cons r t=>.cons (DatT.tf s r) (DatTs.tf s t)
end
theorem DatTs.len {K:PySem.W.Frag}{H:Hp}:∀{vs ds},DatTs K H vs ds→vs.length=ds.length
 | _,_,.nil=>rfl
 | _,_,.cons q t=>by rw [List.length_cons,List.length_cons,DatTs.len t]
theorem Xu {α:Type}{xs:List α}{n:Nat}{x:α}(h:xs.length=n+1)(e:xs[n]?=some x):YK xs (-1)=some x:=by
 have hi:VC xs.length (-1)=some n:=by
   unfold VC
   rw [if_neg (by decide),if_pos (by omega)]
   exact congrArg some (by omega)
 unfold YK
 rw [hi];exact e
end L2
set_option maxHeartbeats 1000000
namespace L2
open PySem PySem.Spec PyProof.Rows
section
variable {prog:Program}{w:World}{A:Around}{E:Value→Shared→Prop}{h:Heap}{g:Array GenState}{d:Drawn}{t:Nat}{os:OsState}
variable {nm q:Str}{C N:Addr}{bs bm:List Value}{sn:List Str}{sub:List Value}{ab:Bool}{col:Option Bool}{dd:Option Addr}{k0 k1 k2 k3 k5:Option Value}
end
end L2
set_option maxHeartbeats 1000000
namespace L2
open PySem PySem.Spec PyProof.Rows
section
variable {prog:Program}{w:World}{A:Around}{E:Value→Shared→Prop}{h:Heap}{g:Array GenState}{d:Drawn}{t:Nat}{os:OsState}
variable {nm q:Str}{C N x:Addr}{bs bm:List Value}{sn:List Str}{sub:List Value}{ab:Bool}{col:Option Bool}{dd:Option Addr}{k0 k1 k2 k3 k5:Option Value}{name:Str}{v:Value}{o:Obj}
end
end L2
set_option maxHeartbeats 1000000
namespace L2
open PySem PySem.Spec PyProof.Rows
section
variable {M:Model}{A:Around}{E:Value→Shared→Prop}{s:Shared}{base:Heap}{n:Nat}{H:Hp}{env:Env}{outer:List Env}{L ea C dx:Addr}
end
end L2
set_option maxHeartbeats 1000000
namespace L2
open PySem PySem.Spec PyProof.Rows
section
variable {X:Cx}{pins:List (Addr×Obj)}{σ:St}{H H1 H2:Hp}{s s1 s2:Shared}{h':Heap}
end
section
variable {P:Program}{w:World}{K:PySem.W.Frag}{mg:Str→Option Value}{base:Heap}{k:Nat}{f:Addr}{fd:FuncData}{ps:List Str}{sp sp':Sp}{CX:WZ}
end
end L2
set_option maxHeartbeats 1000000
namespace L2
open PySem PySem.Spec PyProof.Rows
section
variable {X:Cx}{pins:List (Addr×Obj)}{σ:St}{H:Hp}{s:Shared}
end
section
variable {X:Cx}{body suite:List Stmt}{b0:Stmt}{C0:Addr}{x0 n:Str}{i:Nat}{tb:(St→XK)→TS}{th:TS}{p0 hp pos:Pos}
end
end L2
set_option maxHeartbeats 1000000
namespace L2
open PySem PySem.Spec PyProof.Rows
section
variable {P:Program}{w:World}{K:PySem.W.Frag}{mg:Str→Option Value}{base:Heap}{j k:Nat}{C:Addr}{x m:Str}{ps:List Str}{sp:Sp}
end
section
variable {X:Cx}{EE:St→XK}{k:Nat}{f C:Addr}{fd:FuncData}{ps:List Str}{sp:Sp}{x m:Str}{p pos apos:Pos}{e o:Expr}{es:List Expr}{ta:TE}{t:TA}
end
end L2
set_option maxHeartbeats 1000000
namespace L2
open PySem PySem.Spec PyProof.Rows
section
variable {X:Cx}{o value:Expr}{pos pos':Pos}{ta tv:TE}
end
section
variable {X:Cx}{pins:List (Addr×Obj)}{σ:St}{H:Hp}{s:Shared}
end
section
variable {X:Cx}{EE:St→XK}{k:Nat}{C:Addr}{x:Str}{np cpos pos:Pos}{e:Expr}{t:TA}
end
end L2
set_option maxHeartbeats 1000000
namespace L2
open PySem PySem.Spec PyProof.Rows
open PySem.Builtin PySem.Builtin.ObjectAttr
section
variable {prog:Program}{w:World}{A:Around}{E:Value→Shared→Prop}{h:Heap}{g:Array GenState}{d:Drawn}{t:Nat}{os:OsState}
variable {nm q:Str}{C N a dx:Addr}{bs bm:List Value}{sn:List Str}{sub:List Value}{ab:Bool}{col:Option Bool}{dd:Option Addr}{k0 k1 k2 k3 k5:Option Value}{name:Str}{v:Value}{o:Obj}{vs:Array Value}{mA:Str→Option Value}
end
end L2
set_option maxHeartbeats 1000000
namespace L2
open PySem PySem.Spec PyProof.Rows
section
variable {X:Cx}{e:Expr}{pos:Pos}{ta:TE}
end
section
variable {X:Cx}
end
section
variable {X:Cx}{elt iter tg cnd:Expr}{xa xb:Str}{pos:Pos}{scope:Scope}{wi:TI}{te:TE}{tc:TT}{g:TG}
end
end L2
set_option maxHeartbeats 2000000
namespace L2
open PySem PySem.Spec PyProof.Rows
section
variable {X:Cx}
end
section
variable {prog:Program}{w:World}{A:Around}{E:Value→Shared→Prop}{s:Shared}
end
section
variable {X:Cx}
end
end L2
set_option maxHeartbeats 2000000
namespace L2
open PySem PySem.Spec PyProof.Rows
mutual
def Pg.dat:Pg→PyData
 | .set x v s=>.tuple [.str "set",.str x,UJ v,.str s]
 | .look x=>.tuple [.str "look",.str x]
 | .slot w s=>.tuple [.str w,.str s]
 | .pass=>.tuple [.str "pass"]
 | .blk w ps=>.tuple [.str w,.tuple (Pg.dats ps)]
 | .inn s ps=>.tuple [.str "in",.str s,.tuple (Pg.dats ps)]
def Pg.dats:List Pg→List PyData
 | []=>[]
 | p::ps=>p.dat::Pg.dats ps
end
mutual
def Pg.ok:Pg→Prop
 | .set x v s=>ZY x∧IsVal v∧ZY s
 | .look x=>ZY x
 | .slot w s=>(w="back"∨w="copy")∧ZY s
 | .pass=>True
 | .blk w ps=>(w="begin"∨w="late")∧Pg.oks ps
 | .inn s ps=>ZY s∧Pg.oks ps
def Pg.oks:List Pg→Prop
 | []=>True
 | p::ps=>p.ok∧Pg.oks ps
end
mutual
def Pg.hgt:Pg→Nat
 | .blk _ ps=>Pg.hgts ps+1
 | .inn _ ps=>Pg.hgts ps+1
 | _=>0
def Pg.hgts:List Pg→Nat
 | []=>0
 | p::ps=>max p.hgt (Pg.hgts ps)
end
def Pg.isB:Pg→Bool
 | .blk _ _=>true
 | .inn _ _=>true
 | _=>false
def Pg.nam:Pg→Option Str
 | .set x _ _=>some x
 | .look x=>some x
 | _=>none
theorem Pg.oks_at:∀{ps:List Pg}{i:Nat}{p:Pg},Pg.oks ps→ps[i]?=some p→p.ok
 | [],_,_,_,h=>by simp at h
 | q::ps,0,_,o,h=>by cases h;exact o.1
 | q::ps,i+1,p,o,h=>Pg.oks_at (ps:=ps) (i:=i) o.2 h
theorem Pg.hgts_at:∀{ps:List Pg}{i:Nat}{p:Pg},ps[i]?=some p→p.hgt≤Pg.hgts ps
 | [],_,_,h=>by simp at h
 | q::ps,0,_,h=>by cases h;exact Nat.le_max_left _ _
 | q::ps,i+1,p,h=>Nat.le_trans (Pg.hgts_at (ps:=ps) (i:=i) h) (Nat.le_max_right _ _)
theorem Pg.manys_app:∀ ps qs:List Pg,Pg.manys (ps++qs)=Pg.manys ps+Pg.manys qs
 | [],qs=>by show Pg.manys qs=0+Pg.manys qs;omega
 | p::ps,qs=>by
   have:=Pg.manys_app ps qs
   show p.many+Pg.manys (ps++qs)=p.many+Pg.manys ps+_
   omega
theorem Pg.dats_app:∀ ps qs:List Pg,Pg.dats (ps++qs)=Pg.dats ps++Pg.dats qs
 | [],qs=>rfl
 | p::ps,qs=>by show p.dat::Pg.dats (ps++qs)=p.dat::(Pg.dats ps++Pg.dats qs);rw [Pg.dats_app ps qs]
theorem Pg.dats_map:∀ ps:List Pg,Pg.dats ps=ps.map Pg.dat
 | []=>rfl
 | p::ps=>by show p.dat::Pg.dats ps=p.dat::ps.map Pg.dat;rw [Pg.dats_map ps]
theorem Pg.oks_app:∀{ps qs:List Pg},Pg.oks ps→Pg.oks qs→Pg.oks (ps++qs)
 | [],_,_,h=>h
 | _::_,_,o,h=>⟨o.1,Pg.oks_app o.2 h⟩
theorem Pg.hgts_app:∀{ps qs:List Pg}{n:Nat},Pg.hgts ps≤n→Pg.hgts qs≤n→Pg.hgts (ps++qs)≤n
 | [],_,_,_,h=>h
 | p::ps,qs,n,a,h=>by
   have a':max p.hgt (Pg.hgts ps)≤n:=a
   have:=Pg.hgts_app (ps:=ps) (qs:=qs) (n:=n) (by omega) h
   show max p.hgt (Pg.hgts (ps++qs))≤n
   omega
theorem Pg.many_pos:∀ p:Pg,1≤p.many:=fun p=>by rw [Pg.many_eq];omega
theorem Pg.len_manys:∀ ps:List Pg,ps.length≤Pg.manys ps
 | []=>Nat.zero_le _
 | p::ps=>by
   have h1:=Pg.many_pos p
   have h2:=Pg.len_manys ps
   show ps.length+1≤p.many+Pg.manys ps
   omega
theorem Pg.inner_ok {p:Pg}(h:p.ok):Pg.oks p.inner:=by cases p<;>first | exact trivial | exact h.2
theorem Pg.inner_hgt {p:Pg}{n:Nat}(h:p.hgt≤n+1):Pg.hgts p.inner≤n:=by
 cases p<;>first | exact Nat.zero_le _ | exact Nat.le_of_succ_le_succ h
theorem Pg.inner_none {p:Pg}(h:p.isB=false):p.inner=[]:=by cases p<;>first | rfl | exact nomatch h
def Pg.rk:List Pg→Nat
 | []=>0
 | p::ps=>Pg.hgts (p::ps)+1
theorem Pg.rk_inner (p:Pg):Pg.rk p.inner≤p.hgt:=by
 cases p with
 | blk w ps=>cases ps<;>first | exact Nat.zero_le _ | exact Nat.le_refl _
 | inn s ps=>cases ps<;>first | exact Nat.zero_le _ | exact Nat.le_refl _
 | _=>exact Nat.zero_le _
theorem Pg.rk_at {ps:List Pg}{i:Nat}{p:Pg}(h:ps[i]?=some p):Pg.rk p.inner < Pg.rk ps:=by
 have h1:=Pg.rk_inner p
 have h2:=Pg.hgts_at h
 cases ps with
 | nil=>simp at h
 | cons q ps=>show _ < Pg.hgts (q::ps)+1;omega
theorem Pg.rk_le (ps:List Pg):Pg.rk ps≤Pg.hgts ps+1:=by cases ps<;>first | exact Nat.zero_le _ | exact Nat.le_refl _
theorem Pg.inner_many {p:Pg}:p.many=1+Pg.manys p.inner:=Pg.many_eq p
theorem Pg.manys_take {ps:List Pg}{i:Nat}{p:Pg}(h:ps[i]?=some p):Pg.manys (ps.take (i+1))=Pg.manys (ps.take i)+p.many:=by
 rw [List.take_add_one,h,Pg.manys_app]
 show _+(p.many+0)=_;omega
theorem Pg.manys_le {ps:List Pg}(i:Nat):Pg.manys (ps.take i)≤Pg.manys ps:=by
 have:=Pg.manys_app (ps.take i) (ps.drop i)
 rw [List.take_append_drop] at this;omega
theorem DatT.tupI {K:PySem.W.Frag}{H:Hp}{v:V}{ds:List PyData}(h:DatT K H v (.tuple ds)):∃ a xs,v=.ref a∧SqT K H a xs∧DatTs K H xs ds:=by
 cases h with
 | tup e q=>exact ⟨_,_,rfl,e,q⟩
theorem DatTs.at' {K:PySem.W.Frag}{H:Hp}:∀{vs ds}{i:Nat}{v:V},DatTs K H vs ds→vs[i]?=some v→∃ d,ds[i]?=some d∧DatT K H v d
 | _,_,_,_,.nil,h=>by simp at h
 | _,_,0,_,.cons a _,h=>by cases h;exact ⟨_,rfl,a⟩
 | _,_,i+1,_,.cons _ b,h=>DatTs.at' (i:=i) b h
theorem DatTs.append {K:PySem.W.Frag}{H:Hp}:∀{vs ds ws es},DatTs K H vs ds→DatTs K H ws es→DatTs K H (vs++ws) (ds++es)
 | _,_,_,_,.nil,h=>h
 | _,_,_,_,.cons a b,h=>.cons a (DatTs.append b h)
theorem DatTs.pg {K:PySem.W.Frag}{H:Hp}{vs:List V}{ps:List Pg}{i:Nat}{v:V}(h:DatTs K H vs (Pg.dats ps))(e:vs[i]?=some v):∃ p,ps[i]?=some p∧DatT K H v p.dat:=by
 obtain ⟨d,e1,e2⟩:=DatTs.at' h e
 rw [Pg.dats_map,List.getElem?_map] at e1
 obtain ⟨p,e3,rfl⟩:=Option.map_eq_some_iff.mp e1
 exact ⟨p,e3,e2⟩
theorem DatTs.pgs {K:PySem.W.Frag}{H:Hp}{vs:List V}{ps:List Pg}(h:DatTs K H vs (Pg.dats ps)):vs.length=ps.length:=by
 rw [DatTs.len h,Pg.dats_map,List.length_map]
theorem Zhv {K:PySem.W.Frag}{H:Hp}{v:V}{p:Pg}(h:DatT K H v p.dat):∃ a xs,v=.ref a∧SqT K H a xs∧1≤xs.length∧xs[0]?=some (.str p.word)∧(∀ x,p.nam=some x→xs[1]?=some (.str x))∧(p.isB=true→∃ t,YK xs (-1)=some t∧DatT K H t (.tuple (Pg.dats p.inner))):=by
 cases p with
 | set x v s =>
   obtain ⟨a,xs,rfl,e,q⟩:=DatT.tupI h
   obtain _ | ⟨q1,q2⟩:=q
   cases q1;obtain _ | ⟨q3,q4⟩:=q2;cases q3
   exact ⟨a,_,rfl,e,by simp,rfl,fun y hy=>by cases hy;rfl,fun z=>(nomatch z)⟩
 | look x =>
   obtain ⟨a,xs,rfl,e,q⟩:=DatT.tupI h
   obtain _ | ⟨q1,q2⟩:=q
   cases q1;obtain _ | ⟨q3,q4⟩:=q2;cases q3
   exact ⟨a,_,rfl,e,by simp,rfl,fun y hy=>by cases hy;rfl,fun z=>(nomatch z)⟩
 | slot w s =>
   obtain ⟨a,xs,rfl,e,q⟩:=DatT.tupI h
   obtain _ | ⟨q1,q2⟩:=q
   cases q1
   exact ⟨a,_,rfl,e,by simp,rfl,fun y hy=>(nomatch hy),fun z=>(nomatch z)⟩
 | pass =>
   obtain ⟨a,xs,rfl,e,q⟩:=DatT.tupI h
   obtain _ | ⟨q1,q2⟩:=q
   cases q1
   exact ⟨a,_,rfl,e,by simp,rfl,fun y hy=>(nomatch hy),fun z=>(nomatch z)⟩
 | blk w ps =>
   obtain ⟨a,xs,rfl,e,q⟩:=DatT.tupI h
   obtain _ | ⟨q1,q2⟩:=q
   cases q1;obtain _ | ⟨q3,q4⟩:=q2;cases q4
   exact ⟨a,_,rfl,e,by simp,rfl,fun y hy=>(nomatch hy),fun z=>⟨_,Xu (n:=1) rfl rfl,q3⟩⟩
 | inn s ps =>
   obtain ⟨a,xs,rfl,e,q⟩:=DatT.tupI h
   obtain _ | ⟨q1,q2⟩:=q
   cases q1;obtain _ | ⟨q3,q4⟩:=q2;obtain _ | ⟨q5,q6⟩:=q4;cases q6
   exact ⟨a,_,rfl,e,by simp,rfl,fun y hy=>(nomatch hy),fun z=>⟨_,Xu (n:=2) rfl rfl,q5⟩⟩
theorem Zfe (v:V):(UJ v).depth=0:=by cases v<;>rfl
mutual
theorem Pg.deep:∀(p:Pg),p.dat.depth≤2 * p.hgt+1
 | .set x v s=>by
   show (PyData.tuple [.str "set",.str x,UJ v,.str s]).depth≤1
   simp only [PyData.depth,PyData.depthAll,Zfe];omega
 | .look x=>by show (PyData.tuple [.str "look",.str x]).depth≤1;simp only [PyData.depth,PyData.depthAll];omega
 | .slot w s=>by show (PyData.tuple [.str w,.str s]).depth≤1;simp only [PyData.depth,PyData.depthAll];omega
 | .pass=>by decide
 | .blk w ps=>by
   have:=Pg.deeps ps
   show (PyData.tuple [.str w,.tuple (Pg.dats ps)]).depth≤2 * (Pg.hgts ps+1)+1
   simp only [PyData.depth,PyData.depthAll];omega
 | .inn s ps=>by
   have:=Pg.deeps ps
   show (PyData.tuple [.str "in",.str s,.tuple (Pg.dats ps)]).depth≤2 * (Pg.hgts ps+1)+1
   simp only [PyData.depth,PyData.depthAll];omega
theorem Pg.deeps:∀(ps:List Pg),PyData.depthAll (Pg.dats ps)≤2 * Pg.hgts ps+1
 | []=>by show 0≤_;omega
 | p::ps=>by
   have h1:=Pg.deep p
   have h2:=Pg.deeps ps
   show max p.dat.depth (PyData.depthAll (Pg.dats ps))≤2 * max p.hgt (Pg.hgts ps)+1
   omega
end
end L2
set_option maxHeartbeats 4000000
namespace K68
open PySem L2
def top (i:Nat):Stmt:=PySem.Challenge.pw_roadsettings_k68_programs_read.main.body.getD i (.Pass ⟨0,0,0,0⟩)
abbrev s_is_name:Stmt:=top 5
abbrev s_is_number:Stmt:=top 6
abbrev s_is_value:Stmt:=top 7
abbrev s_kinds_of:Stmt:=top 10
abbrev s_has_within:Stmt:=top 11
abbrev s_program_within:Stmt:=top 12
abbrev s_value_text:Stmt:=top 16
abbrev s_value_from:Stmt:=top 17
abbrev s_unslashed:Stmt:=top 18
abbrev s_number_from:Stmt:=top 19
abbrev s_parts_from:Stmt:=top 20
abbrev s_whole_words:Stmt:=top 21
abbrev s_part_from:Stmt:=top 22
abbrev s_kinds_in_row:Stmt:=top 23
abbrev s_step_row:Stmt:=top 24
abbrev s_head_from:Stmt:=top 25
abbrev s_program_text:Stmt:=top 28
abbrev s_program_rows:Stmt:=top 29
abbrev s_moved_in:Stmt:=top 30
abbrev s_program_from:Stmt:=top 31
abbrev s_heads_from:Stmt:=top 32
abbrev s_program_of:Stmt:=top 33
abbrev s_l_cell_at:Stmt:=top 35
abbrev s_l_box:Stmt:=top 36
abbrev s_l_take:Stmt:=top 37
abbrev s_l_names:Stmt:=top 38
abbrev s_l_value:Stmt:=top 39
abbrev s_l_called:Stmt:=top 40
abbrev s_l_worth:Stmt:=top 41
abbrev s_l_program:Stmt:=top 42
abbrev s_l_deep:Stmt:=top 43
abbrev s_l_written:Stmt:=top 44
abbrev s_l_rows:Stmt:=top 45
abbrev s_l_same:Stmt:=top 46
abbrev s_l_drawn:Stmt:=top 47
abbrev s_l_first:Stmt:=top 48
abbrev s_law:Stmt:=top 49
section
variable {P:Program}{w:World}{K:PySem.W.Frag}{mg:Str→Option Value}{base:Heap}
theorem scC:Zt ["_law_script","_law_k"] ["_law_script","_law_k"] (Zj s_l_cell_at):=⟨rfl,rfl,rfl,by decide +kernel,rfl,by decide +kernel,by decide +kernel⟩
theorem Zjv {f:Addr}{fd:FuncData}(F:Fun K "_law_cell_at" "_law_cell_at" s_l_cell_at f fd)(T:ZW mg):FnOk P w K mg base ZR 1 f fd ["_law_script","_law_k"] (ZfR K):=by
 refine F.ok scC (fun vs H Q E h=>?_) (fun cdv A outer s H vs Q E hr h=>?_)
 · obtain ⟨a,ns,k,rfl,_⟩:=h;rfl
 obtain ⟨a,ns,k,rfl,hS,h0,q⟩:=h
 refine ⟨_,Zf (Yb (ZF ZbO (pv 1) (Zl ZJ rfl T.len PySem.boot_len (ZX (pv 0) Za)) (ZE _)) (Zi (Zp (ZC ZL (pv 0) (pv 1) (fun _ _=>rfl)))) ZG)
   (Zi (Zp Zc)),?_⟩
 refine ⟨_,rfl,_,rfl,a,_,rfl,.inl hS,_,_,rfl,rfl,_,rfl,?_⟩
 refine WC (fun c=>?_) (fun c=>?_)
 · have c':k < (((ns.map V.int).length:Nat):Int):=of_decide_eq_true c
   rw [List.length_map] at c'
   have hk:k.toNat < ns.length:=by omega
   have ek:k=((k.toNat:Nat):Int):=by omega
   have hat:YK (ns.map V.int) k=some (.int ns[k.toNat]):=by
     have z:YK (ns.map V.int) ((k.toNat:Nat):Int)=some (.int ns[k.toNat]):=ZA (by rw [List.getElem?_map,List.getElem?_eq_getElem hk];rfl)
     rwa [← ek] at z
   exact ⟨_,rfl,_,rfl,a,_,_,_,rfl,rfl,hS,hat,q _⟩
 · exact q 0
theorem scB:Zt ["_law_script","_law_k","_law_cell"] ["_law_script","_law_k"] (Zj s_l_box):=⟨rfl,rfl,rfl,by decide +kernel,rfl,by decide +kernel,by decide +kernel⟩
theorem ZjG {f:Addr}{fd:FuncData}(F:Fun K "_law_box" "_law_box" s_l_box f fd)(T:ZW mg)(D:Def P w K mg base 1 "_law_cell_at" ["_law_script","_law_k"] (ZfR K)):FnOk P w K mg base ZR 2 f fd ["_law_script","_law_k"] (Zij K):=by
 refine F.ok scB (fun vs H Q E h=>?_) (fun cdv A outer s H vs Q E hr h=>?_)
 · obtain ⟨a,ns,k,rfl,_⟩:=h;rfl
 obtain ⟨a,ns,k,rfl,hS,h0,h1,q⟩:=h
 refine ⟨_,Zf (Zs (i:=2) scB.nd rfl (Or.inl rfl) (Zq D hr (ZX (pv 0) (ZX (pv 1) Za))))
   (Zi (Zp (ZN (ZX (Zk WP (Zl ZcD rfl T.abs (by decide +kernel) (ZX (pv 2) Za)) (Yv ZbE rfl T.int (by decide +kernel) (ZX (Xg ZlH (Zl ZcD rfl T.abs (by decide +kernel) (ZX (pv 2) Za)) (Zk ZaF Zc Zc) (ZE _)) Za)))
     (ZX (Zk Yn (Zk Yn (Zk XR (pv 2) Zc) (Zk WP Zc (pv 1))) Zc) (ZX Zc Za)))))),?_⟩
 refine ⟨_,rfl,_,rfl,a,ns,k,rfl,hS,h0,fun r=>?_⟩
 refine ⟨_,rfl,_,rfl,⟨_,rfl,_,rfl,_,_,rfl,rfl,⟨by decide,by decide,by decide⟩,_,_,rfl,rfl,.inr ⟨_,rfl,?_⟩⟩⟩
 generalize hb:decide ((10:Int) ^ (Int.toNat 18)≤(if r < 0 then -r else r))=bb
 refine ⟨_,_,rfl,rfl,.inr (by cases bb<;>exact ⟨by decide,by decide⟩),_,rfl,_,_,rfl,rfl,(by show (0:Int) < _;decide),_,rfl,_,_,rfl,rfl,.inl ⟨by decide,by decide⟩,_,_,rfl,rfl,_,_,rfl,rfl,(by show 3≤sizeLine;decide),fun p hp=>?_⟩
 refine q p _ hp ⟨_,_,0,Zd,?_,by decide,by decide⟩ (Zh hp _)
 cases bb
 · simp
 · simp only [if_true,Int.mul_one];split<;>omega
theorem scT:Zt ["_law_box_here","_law_many","_law_found","_law_once","_law_twice"] ["_law_box_here","_law_many"] (Zj s_l_take):=⟨rfl,rfl,rfl,by decide +kernel,rfl,by decide +kernel,by decide +kernel⟩
theorem Zju {f:Addr}{fd:FuncData}(F:Fun K "_law_take" "_law_take" s_l_take f fd):FnOk P w K mg base ZR 1 f fd ["_law_box_here","_law_many"] (Zax 4611686018427387904):=by
 refine F.ok scT (fun vs H Q E h=>?_) (fun cdv A outer s H vs Q E hr h=>?_)
 · obtain ⟨p,n,m,rfl,_⟩:=h;rfl
 obtain ⟨p,n,m,rfl,⟨a,b,c,hp,ha,hc,hcn⟩,hn,hm0,hmM,q⟩:=h
 refine ⟨_,Zf (Yb (ZF Zay (ZC ZL (pv 0) Zc (fun _ _=>rfl)) Zc (ZE _))
     (Zf (Zs (i:=2) scT.nd rfl (Or.inl rfl) (Zk XR (ZC ZL (pv 0) Zc (fun _ _=>rfl)) (pv 1)))
       (Zf (Uk (Zk ZbZ (ZC ZL (pv 0) Zc (fun _ _=>rfl)) (pv 1)) (Zgh (pv 0) Zc ZbU)) (Zi (Zp (pv 2))))) ZG)
   (Zf (Uk (Zk Yn (ZC ZL (pv 0) Zc (fun _ _=>rfl)) Zc) (Zgh (pv 0) Zc ZbU))
   (Zf (Zs (i:=3) scT.nd rfl (Or.inl rfl) (Zk XR (Zk WP (Zk Yn (ZC ZL (pv 0) Zc (fun _ _=>rfl)) (Zk WP Zc (ZC ZL (pv 0) Zc (fun _ _=>rfl)))) (Zk Yn Zc (ZC ZL (pv 0) Zc (fun _ _=>rfl)))) Zc))
   (Zf (Zs (i:=4) scT.nd rfl (Or.inl rfl) (Zk XR (Zk WP (Zk Yn (pv 3) (ZC ZL (pv 0) Zc (fun _ _=>rfl))) (Zk Yn (Zk XR (pv 3) Zc) Zc)) Zc))
   (Zi (Zp (Zk XR (Zk Zje (Zk XR (Zk Yn (Zk WP (pv 4) Zc) (pv 3)) Zc) Zc) (pv 1))))))),?_⟩
 refine ⟨_,rfl,p,_,_,_,rfl,rfl,SqL.of hp,rfl,_,_,rfl,rfl,_,rfl,?_⟩
 refine WC (fun c'=>?_) (fun c'=>?_)
 · have h0:0 < a:=of_decide_eq_true c'
   refine ⟨_,rfl,p,_,_,_,rfl,rfl,SqL.of hp,rfl,_,rfl,_,_,rfl,rfl,hm0,?_⟩
   refine ⟨_,rfl,p,_,_,_,rfl,rfl,SqL.of hp,rfl,_,rfl,_,_,rfl,rfl,⟨hm0,by have h4:m < 4611686018427387904:=hmM;omega⟩,?_⟩
   refine ⟨_,rfl,p,_,_,_,rfl,rfl,hp,rfl,?_⟩
   refine ⟨_,rfl,?_⟩
   exact q _ _ (Int.emod_nonneg _ (by omega)) (Int.emod_lt_of_pos _ hm0) ⟨a / m,b,c,Zd,Int.ediv_nonneg ha (by omega),hc,by omega⟩ (Kp.upd _ _ _)
 · refine ⟨_,rfl,p,_,_,_,rfl,rfl,SqL.of hp,rfl,_,_,rfl,rfl,?_⟩
   refine ⟨_,rfl,p,_,_,_,rfl,rfl,hp,rfl,?_⟩
   have hp1:upd H p (.lst [.int a,.int b,.int (c+1)]) p=some (.lst [.int a,.int b,.int (c+1)]):=Zd
   refine ⟨_,rfl,p,_,_,_,rfl,rfl,SqL.of hp1,rfl,_,rfl,p,_,_,_,rfl,rfl,SqL.of hp1,rfl,_,_,rfl,rfl,.inl ⟨by decide,by decide⟩,_,_,rfl,rfl,_,rfl,p,_,_,_,rfl,rfl,SqL.of hp1,rfl,_,_,rfl,rfl,_,_,rfl,rfl,.inr ⟨by omega,by omega⟩,_,_,rfl,rfl,(by show (0:Int) < _;decide),?_⟩
   generalize hO:((b+48271 * (c+1)) * (39373+(c+1))) % 2147483647=once
   have hO0:0≤once:=by rw [← hO];exact Int.emod_nonneg _ (by decide)
   refine ⟨_,rfl,_,rfl,p,_,_,_,rfl,rfl,SqL.of hp1,rfl,_,_,rfl,rfl,_,rfl,_,_,rfl,rfl,(by show (0:Int) < _;decide),_,_,rfl,rfl,_,_,rfl,rfl,.inr ?_,_,_,rfl,rfl,(by show (0:Int) < _;decide),?_⟩
   · have:=Int.emod_nonneg once (show (40009:Int)≠0 by decide)
     have:=Int.emod_lt_of_pos once (show (0:Int) < 40009 by decide)
     exact ⟨by omega,by omega⟩
   generalize hW:((once+(c+1)) * (once % 40009+7)) % 2147483629=twice
   refine ⟨_,rfl,_,_,rfl,rfl,.inr ⟨by decide,by decide⟩,_,rfl,_,_,rfl,rfl,_,_,rfl,rfl,(by show (0:Int) < _;decide),_,_,rfl,rfl,⟨by decide,by decide⟩,_,rfl,_,_,rfl,rfl,hm0,?_⟩
   exact q _ _ (Int.emod_nonneg _ (by omega)) (Int.emod_lt_of_pos _ hm0) ⟨a,b,c+1,hp1,ha,by omega,by omega⟩ (Kp.upd _ _ _)
end
end K68
namespace L2
open PySem
theorem UW {M:Model}{Γ:Ctx}{p:Pos}{t:Sem Fin}{fs:List Frame}{s s':Shared}{e:End}(h:Runs M Γ p t fs s e s'):s.toks≤s'.toks:=by
 induction h<;>first
   | exact Nat.le_refl _
   | assumption
   | (rename_i ih;exact Nat.le_trans (Nat.le_succ _) ih)
   | (rename_i ih1 ih2;exact Nat.le_trans ih1 ih2)
   | (simp only [Shared.setGen] at *;omega)
theorem Zel {M:Model}{Γ:Ctx}{p:Pos}{g:Nat}{r:Resume}{s s':Shared}{res:GenResult}(h:Wakes M Γ p g r s res s'):s.toks≤s'.toks:=by
 unfold Wakes at h
 split at h
 · exact h.elim
 · split at h
   · obtain ⟨e1,s1,h1,_,_,rfl⟩:=h;have:=UW h1;exact this
   · rw [h.2];exact Nat.le_refl _
   · rw [h.2];exact Nat.le_refl _
 · obtain ⟨e1,s1,h1,_,_,rfl⟩:=h;have:=UW h1;exact this
 · rw [h.2];exact Nat.le_refl _
 · rw [h.2];exact Nat.le_refl _
theorem ZiV {α:Type}{M:Model}{Γ:Ctx}(n:Nat):∀(t:Sem α){Q:α→Pos→Shared→Prop}{E:Value→Pos→Shared→Prop}{p:Pos}{s:Shared},n≤s.toks→Sem.wp M Γ t Q E p s→Sem.wp M Γ t (fun a p' s'=>n≤s'.toks∧Q a p' s') (fun a p' s'=>n≤s'.toks∧E a p' s') p s:=by
 intro t
 induction t with
 | pure a=>intro Q E p s h w;rw [Sem.wp] at w ⊢;exact ⟨h,w⟩
 | raise a=>intro Q E p s h w;rw [Sem.wp] at w ⊢;exact ⟨h,w⟩
 | call c hd g l k ih =>
   intro Q E p s h w
   rw [Sem.wp] at w ⊢
   obtain ⟨r,s1,h1,h2⟩:=w
   exact ⟨r,s1,h1,ih r (Nat.le_trans h (UW h1)) h2⟩
 | resume g r l k ih =>
   intro Q E p s h w
   rw [Sem.wp] at w ⊢
   obtain ⟨res,s1,h1,h2⟩:=w
   exact ⟨res,s1,h1,ih res (Nat.le_trans h (Zel h1)) h2⟩
 | fresh k ih=>intro Q E p s h w;rw [Sem.wp] at w ⊢;exact ih _ (Nat.le_succ_of_le h) w
 | load a b k ih=>intro Q E p s h w;rw [Sem.wp] at w ⊢;obtain ⟨o,h1,h2⟩:=w;exact ⟨o,h1,ih _ h h2⟩
 | update a b f k ih=>intro Q E p s h w;rw [Sem.wp] at w ⊢;exact ⟨w.1,ih _ h w.2⟩
 | choose a b k ih=>intro Q E p s h w;rw [Sem.wp] at w ⊢;exact ⟨w.1,ih _ h w.2⟩
 | genState g k ih=>intro Q E p s h w;rw [Sem.wp] at w ⊢;obtain ⟨o,h1,h2⟩:=w;exact ⟨o,h1,ih _ h h2⟩
 | _=>intro Q E p s h w;rw [Sem.wp] at w ⊢;first | exact w.elim | (rename_i ih;exact ih _ h w)
theorem WH {α:Type}{M:Model}{A:Around}{t:Sem α}{Q:α→Shared→Prop}{E:Value→Shared→Prop}{s:Shared}{n:Nat}(h:n≤s.toks)(w:wpAny M A t Q E s):wpAny M A t (fun a s'=>n≤s'.toks∧Q a s') (fun a s'=>n≤s'.toks∧E a s') s :=
 fun Γ p hΓ=>ZiV n t h (w Γ p hΓ)
end L2
set_option maxHeartbeats 2000000
namespace L2
open PySem PySem.W PySem.Spec PyProof.Rows
def CR1 (outer:List Env)(P:Program)(w:World)(H:Hp)(s:Shared)(Q:VK)(r:Result)(s':Shared):Prop:=1≤s'.toks∧CR ZR outer P w H s Q (fun _ _ _=>False) r s'
def Fn1 (P:Program)(w:World)(K:PySem.W.Frag)(mg:Str→Option Value)(base:Heap)(k:Nat)(f:Addr)(fd:FuncData)(px:Str)(sp:Sp):Prop :=
 ∀ (A:Around) (outer:List Env) (s:Shared) (H:Hp) (args:Args) (u:Value) (v:V) (Q:VK),Room k A→Zcb P w K mg base A outer s H→BindsTo s fd args [(px,u)]→RelV v u→sp [v] H Q (fun _ _ _=>False) →
   codeAny (model P w) A (.call (.ref f) args) (CR1 outer P w H s Q) s
section
variable {P:Program}{w:World}{K:PySem.W.Frag}{mg:Str→Option Value}{base:Heap}
theorem Fun.ok1 {x qual px:Str}{st:Stmt}{f:Addr}{fd:FuncData}{k:Nat}{sp:Sp}(F:Fun K x qual st f fd)(S:Zt [px] [px] (Zj st))(hc:∀ y∈(Zj st).names,y.2≠.cell)(hce:∀ n,cellsFrom n (Zj st).names []=[])(hl:(Zj st).names.lookup px=some .local)
   (hbody:∀ (cdv:Value) (A:Around) (outer:List Env) (s:Shared) (H:Hp) (vs:List V) (Q:VK) (E:XK),Room k (A.deeper (envOfC qual (Zj st) s.heap.objs.size f cdv))→sp vs H Q E →
     ∃ t,PSs (Uf ZR P w K mg base [px] qual (Zj st) f cdv A outer s H E).nox (WK st) t∧t { nx:=fun _ H'=>Q .non H',rt:=Q } (start [px] vs) H):Fn1 P w K mg base (k+1) f fd px sp:=by
 obtain ⟨oc,od,kV,doc,pm,an,cdv,ct,osl,rfl,lk,hcd⟩:=F.ex
 intro A outer s H args u v Q hr e0 hb r hsp
 have KX:K.In s.heap:=e0.mod.kin.keeps fun b o e=>(e0.bs b o e).1
 have lim:s.heap.NoLimit:=e0.mod.nolimit.keeps fun b o e=>(e0.bs b o e).1
 refine codeAny_call_function hr.depth (KX _ _ lk) rfl S.co S.gen rfl (PySem.W.codeRec_of KX hcd) (hb _ _ _ _ ?_)
 refine wpAny_newFunctionEnv hc (fun y hy=>by rw [List.mem_singleton.mp hy];exact hl) (fun h₁ hns₁ hsb₁=>?_) S.kind
 have old:∀ b o,s.heap.get? b=some o→h₁.get? b=some o:=fun b o e=>hsb₁.extBut b o (Nat.ne_of_lt (Heap.lt_size e)) (Heap.get?_push_of_some _ e)
 refine ⟨lim.keeps old,codeAny_func ?_⟩
 have henv:newEnv (Zj st) s.heap.objs.size mainGlobals [] (qual++".<locals>.") (some f) cdv none builtinsNs=envOfC qual (Zj st) s.heap.objs.size f cdv:=by unfold newEnv envOfC;rw [hce]
 obtain ⟨t,ht,hq⟩:=hbody cdv A outer s H [v] Q (fun _ _ _=>False) (hr.deeper _) hsp
 have I:Inv (Uf ZR P w K mg base [px] qual (Zj st) f cdv A outer s H (fun _ _ _=>False)).nox [] (start [px] [v]) H { s with heap:=h₁,toks:=s.toks+1 }:=by
   have nocell:∀ (y:Str) (c:Addr),¬ (cellsFrom (s.heap.objs.size+1) (Zj st).names []).lookup y=some c:=fun y c z=>by rw [hce] at z;cases z
   refine ⟨⟨e0.mod,S.kind,rfl,rfl,Nat.le_refl _,fun y z c h1 h2=>absurd h1 (nocell y c),fun y hy=>?_,fun y c _ h=>absurd h (nocell y c),fun _=>hr.hd,Around.frames_deeper e0.frames,.inr ⟨rfl,rfl⟩,(fun b z=>nomatch z),e0.bs,e0.bsz,(fun _ _ _ z=>nomatch z),(fun _ z=>nomatch z),e0.funs,e0.frf⟩,
     rfl,e0.bare,Un.kept old,⟨_,hns₁,fun i y z h1 h2 h3=>?_⟩,fun y c h=>absurd h (nocell y c),e0.hok.fresh (Nat.le_refl _),fun y c h=>absurd h (nocell y c),(fun p hp=>nomatch hp),e0.hok.kept old,rfl⟩
   · have hy:(Zj st).names.lookup y=some .cell∨(Zj st).names.lookup y=some .free:=hy
     rcases hy with hy | hy
     · exact absurd rfl (hc _ (PySem.mem_of_lookup hy))
     · exact absurd rfl (S.nofree _ (PySem.mem_of_lookup hy))
   · cases i with
     | zero =>
       cases (show some px=some y from h1)
       cases (show some (some v)=some (some z) from h2)
       exact ⟨u,r,.inl ⟨hl,by show ([(px,u)].reverse).lookup px=some u;simp⟩⟩
     | succ i=>exact absurd h1 (by simp [Uf])
 rw [henv]
 refine wpAny_mono (WH (n:=1) (by show 1≤s.toks+1;omega) (ht [] _ (start [px] [v]) H _ I hq)) (fun fl s' hs=>?_) fun e s' hs=>False.elim hs.2
 obtain ⟨hk,hs⟩:=hs
 have fin:∀ {σ':St} {H':Hp} {v:V} {u:Value},Inv (Uf ZR P w K mg base [px] qual (Zj st) f cdv A outer s H (fun _ _ _=>False)).nox [] σ' H' s'→RelV v u→Q v H'→CE outer P w H s Q u s' :=
   fun {σ' H' v u} J rv q=>⟨v,H',J.os,J.bare,J.base,J.hok,rv,q⟩
 cases fl with
 | ret u=>obtain ⟨v,σ',H',J,rv,q⟩:=hs;exact ⟨hk,fin J rv q⟩
 | next=>obtain ⟨σ',H',J,q⟩:=hs;exact ⟨hk,fin (v:=V.non) (u:=Value.none) J rfl q⟩
 | brk=>obtain ⟨_,_,_,q⟩:=hs;exact False.elim q
 | cont=>obtain ⟨_,_,_,q⟩:=hs;exact False.elim q
end
end L2
set_option maxHeartbeats 2000000
namespace L2
open PySem PySem.W PySem.Spec PyProof.Rows
def ZgY (P:Program)(w:World)(K:PySem.W.Frag)(mg:Str→Option Value)(base:Heap)(k:Nat)(x:Str)(px:Str)(sp:Sp):Prop :=
 ∃ f fd,Fn1 P w K mg base k f fd px sp∧Binds K fd [px] []∧PySem.W.keepIn K (.ref f)=true∧mg x=some (.ref f)
def PE3 (X:Cx)(e:Expr)(t:TE):Prop :=
 ∀ (pins:List (Addr×Obj)) (s:Shared) (σ:St) (H:Hp) (Q:VK),Inv X pins σ H s→1≤s.toks→t σ H Q→wpAny (model X.prog X.w) X.A (eval e X.env) (EP X pins σ Q) X.xe s
def PSs3 (X:Cx)(st:List Stmt)(t:TS):Prop :=
 ∀ (pins:List (Addr×Obj)) (s:Shared) (σ:St) (H:Hp) (D:WB),Inv X pins σ H s→1≤s.toks→t D σ H→wpAny (model X.prog X.w) X.A (execs st X.env) (SP X pins D) X.xe s
theorem PE.three {X:Cx}{e:Expr}{t:TE}(h:PE X e t):PE3 X e t:=fun pins s σ H Q I _ q=>h pins s σ H Q I q
def NBk (K:PySem.W.Frag):Prop:=PySem.W.nsIn K cStatics sharingNotToldKey=some none
theorem ZiF {K:PySem.W.Frag}{h:Heap}{a:Addr}{m:Str→Option Value}{n:Str}(X:K.In h)(G:h.Ns a m)(e:nsIn K a n=some none):m n=none:=by
 obtain ⟨o,es,ep,ho,hd,_,hf⟩:=G
 unfold nsIn at e
 split at e
 · rename_i c d es' n' sl q
   have:=X _ _ q
   rw [ho] at this
   cases this
   simp only at hd
   cases hd
   split at e
   · cases e
   · rename_i z
     rw [← hf];unfold nsFind findBy;rw [← Array.find?_toList,z];rfl
 · cases e
theorem none_of {K:PySem.W.Frag}{h:Heap}(B:NBk K)(X:K.In h)(l:h.NoLimit):NoneBooked h:=by
 obtain ⟨mc,g,_⟩:=l
 exact ⟨mc,g,ZiF X g B⟩
def Zlw (to:TE)(y z:Str):TE:=fun σ H Q=>to σ H fun x H1=>∃ a,x=.str a∧a.length≤4095∧Q (.str (Txt.replace a y z)) H1
section
variable {X:Cx}{o:Expr}{to:TE}{y z:Str}{apos cpos p1 p2:Pos}
theorem ZdJ {j1 j2}(B:NBk X.K)(hz:z.length≤4095)(ho:PE3 X o to)
   (hbase:attributeBase o "replace" X.env (eval o X.env)=eval o X.env:=by rfl)
   (hfew:((backTo cpos (starEach [.Constant (.str y) j1 p1,.Constant (.str z) j2 p2] X.env)).all (fun x=>!x.1)&&(backToKw cpos (keywordEach [] X.env)).all (fun x=>x.1.isSome)
     && decide (([.Constant (.str y) j1 p1,.Constant (.str z) j2 p2]:List Expr).length+([]:List Keyword).length+(if ([]:List Keyword).isEmpty then 0 else 1) < 30))=true:=by rfl)
   (hline:(apos.endLine == cpos.line)=true:=by rfl) :
   PE3 X (.Call (.Attribute o "replace" apos) [.Constant (.str y) j1 p1,.Constant (.str z) j2 p2] [] cpos) (Zlw to y z):=by
 intro pins s σ H Q I hk h
 refine wpAny_Call_method_late hbase hfew hline rfl (Zm (wpAny_mono (WH hk (ho pins s σ H _ I hk h)) (fun _ _ q=>q) fun _ _ q=>q.2) fun v s1 ⟨hk1,x,H1,I1,r1,a,ex,ha,q1⟩=>?_)
 subst ex
 obtain ⟨h1,h2⟩:=Zgm (T:="str") I1 r1 rfl
 obtain ⟨t,rfl⟩:=(show ∃ t,v=Value.str a t from r1)
 refine ⟨"str","str.replace",PySem.F.plainAttrs_str,PySem.F.slot_str_replace,PySem.F.type_str_replace,h1,h2,?_⟩
 refine Calls.callWith_builtin rfl (Calls.evalArgs_plain ?_)
 show wpAny _ _ (spliced ((false,eval (.Constant (.str y) j1 p1) X.env)::backTo cpos (starEach [.Constant (.str z) j2 p2] X.env))) _ _ s1
 refine Calls.spliced_cons (wpAny_Constant_str ?_)
 show wpAny _ _ (spliced ((false,eval (.Constant (.str z) j2 p2) X.env)::backTo cpos (starEach [] X.env))) _ _ _
 refine Calls.spliced_cons (wpAny_Constant_str (Calls.spliced_nil ?_))
 have I2:Inv X pins σ H1 { s1 with toks:=s1.toks+1+1 }:=I1.tok _
 have nb:NoneBooked ({ s1 with toks:=s1.toks+1+1 }:Shared).heap:=none_of B I2.kIn I2.nolimit
 refine SC.replaceW2 4095 4095 (by decide) ?_ ?_ ?_ ha hz (fun t' k=>⟨.str (Txt.replace a y z),H1,I2.tok k,⟨_,rfl⟩,q1⟩) nb
 · show s1.toks≠0;omega
 · show s1.toks+1≠0;omega
 · show s1.toks≠s1.toks+1;omega
theorem Zfb {i:Nat}{x:Str}{e:Expr}{te:TE}{pos pos':Pos}{rest:List Stmt}{u:TS}(hN:X.N.Nodup)(hi:X.N[i]?=some x)(hx:Loc X.env.scope x)(he:PE3 X e te)(h2:PSs X rest u)(hs:swapsWith e (some (.Name x pos')) pos.line X.env=pure false:=by rfl)(hf:X.fn x=true∨X.env.scope.names.lookup x=some .local:=by first | exact .inl rfl | exact .inr rfl) :
   PSs3 X (.Assign [.Name x pos'] e pos::rest) (Zeu (ZbV te (UK i)) u):=by
 intro pins s σ H D I hk h
 refine wpAny_execs_cons (wpAny_Assign_Name (Zm (he pins s σ H _ I hk h) fun v s1 ⟨y,H1,I1,r1,q1⟩=>?_) hs)
 exact Xa I1 hN hi hx r1 (fun s2 I2=>h2 pins s2 _ _ D I2 q1) hf
theorem ZiY {k:Nat}{f px:Str}{sp:Sp}{arg:Expr}{te:TE}{body rest:List Stmt}{tb u:TS}{p pos pos2:Pos}(D1:ZgY X.prog X.w X.K X.mg X.base k f px sp)(hr:Room k X.A)(ha:PE X arg te)(hb:PSs X body tb)(h3:PSs3 X rest u)
   (hg:Gl X f:=by rfl) (hdb:(f == ("__debug__":Str))=false:=by decide) (hst:starEach [arg] X.env=(false,eval arg X.env)::starEach [] X.env:=by rfl)
   (hit:∀ whole,isTrue (.Call (.Name f p) [arg] [] pos) X.env whole=(do let v ← whole;standAt (Expr.Call (.Name f p) [arg] [] pos).pos;holding [v] (truthy v)):=by intro _;rfl) :
   PSs X (.If (.Call (.Name f p) [arg] [] pos) body [] pos2::rest) (Zeu (Zes (tB (Wo sp [] E0 (Yf te YF))) tb ZbT) u):=by
 obtain ⟨fa,fd,F,hbd,kp,hm⟩:=D1
 intro pins s σ H D I h
 have W:wpAny (model X.prog X.w) X.A (exec (.If (.Call (.Name f p) [arg] [] pos) body [] pos2) X.env) (fun fl s1=>1≤s1.toks∧SP X pins { D with nx:=u D } fl s1) X.xe s:=by
   refine wpAny_If (isTrue_plain ?_ (hit _))
   refine wpAny_Call_Name_kw (ZaS I hg hm ?_ hdb)
   refine PySem.W.callWith_K (h₀:=X.base) I.ok.mod.kin kp ?_ hst rfl
   rw [hst]
   show wpAny _ _ (spliced ((false,eval arg X.env)::backTo pos (starEach [] X.env))) _ _ s
   refine Calls.spliced_cons (Zm (ha pins s σ H _ I h) fun v s1 ⟨x,H1,I1,r1,q1⟩=>Calls.spliced_nil ⟨I1.kIn,?_⟩)
   refine wpAny_call (codeAny_mono (F X.A X.stack s1 H1 ⟨[v],[]⟩ v x _ hr I1.env0 (hbd s1 [v] I1.kIn rfl) r1 q1) fun r s' hq=>?_)
   cases r with
   | error e=>exact False.elim hq.2
   | ok fl =>
     cases fl with
     | next=>exact False.elim hq.2
     | brk=>exact False.elim hq.2
     | cont=>exact False.elim hq.2
     | ret w2 =>
       obtain ⟨hk,hq⟩:=hq
       obtain ⟨v2,H2,I2,rv,d,e,q⟩:=I1.after hq
       subst e
       cases rv
       refine wpAny_truthy_bool ?_
       cases d with
       | true=>exact wpAny_mono (WH hk (hb pins s' σ H2 _ I2 q)) (fun _ _ z=>z) fun _ _ z=>z.2
       | false=>exact wpAny_mono (WH hk (ZG (X:=X) pins s' σ H2 _ I2 q)) (fun _ _ z=>z) fun _ _ z=>z.2
 refine wpAny_execs_cons (Zm W fun fl s1 ⟨hk,q⟩=>?_)
 cases fl with
 | next=>obtain ⟨σ',H',I',q⟩:=q;exact h3 pins s1 σ' H' D I' hk q
 | ret v=>exact q
 | brk=>exact q
 | cont=>exact q
end
end L2
set_option maxHeartbeats 2000000
namespace L2
open PySem
def Zei (pre post:Str)(z:Int)(x:Str):Prop:=∃ c1 c2,x=pre++(⟨#[c1]⟩:Str)++(⟨#[c2]⟩:Str)++post∧YK a26.cps.toList (z / 26)=some c1∧YK a26.cps.toList (z % 26)=some c2
theorem ZiG:∀ i j:_root_.Fin 26,a26.cps.toList[i.val]?=a26.cps.toList[j.val]?→i=j:=by decide +kernel
theorem Zgs {xs:List Nat}{r:Int}{c:Nat}(h0:0≤r)(h:YK xs r=some c):xs[r.toNat]?=some c:=by
 unfold YK VC at h
 rw [if_pos h0] at h
 split at h
 · exact h
 · cases h
theorem ZfO {r r':Int}{c:Nat}(h0:0≤r)(h1:r < 26)(h2:0≤r')(h3:r' < 26)(e:YK a26.cps.toList r=some c)(e':YK a26.cps.toList r'=some c):r=r':=by
 have:=ZiG ⟨r.toNat,by omega⟩ ⟨r'.toNat,by omega⟩ ((Zgs h0 e).trans (Zgs h2 e').symm)
 have:=congrArg Fin.val this
 simp only at this
 omega
theorem ZiD (x y:Str):(x++y).cps.toList=x.cps.toList++y.cps.toList:=by
 show (x.cps++y.cps).toList=_
 simp
theorem ZkF {pre post:Str}{z z':Int}{x:Str}(h0:0≤z)(h1:z < 676)(h2:0≤z')(h3:z' < 676)(h:Zei pre post z x)(h':Zei pre post z' x):z=z':=by
 obtain ⟨c1,c2,rfl,e1,e2⟩:=h
 obtain ⟨d1,d2,e,f1,f2⟩:=h'
 have e:=congrArg (fun s:Str=>s.cps.toList) e
 simp only [ZiD,List.append_assoc] at e
 have e:=List.append_cancel_left e
 simp at e
 obtain ⟨rfl,rfl⟩:=e
 have g1:=ZfO (by omega) (by omega) (by omega) (by omega) e1 f1
 have g2:=ZfO (by omega) (by omega) (by omega) (by omega) e2 f2
 omega
theorem ZjD {r5 stp:Int}{i j:Nat}(hs:stp=1∨stp=27∨stp=5∨stp=251)(hij:i < j)(hj:j≤100)(e:(r5+stp * (0+(i:Int))) % 676=(r5+stp * (0+(j:Int))) % 676):False:=by
 rcases hs with rfl | rfl | rfl | rfl<;>omega
theorem Zfp {pre post:Str}{r5 stp:Int}{xs:List Str}(hs:stp=1∨stp=27∨stp=5∨stp=251)(hl:xs.length≤100)(h:∀(j:Nat)(x:Str),xs[j]?=some x→Zei pre post ((r5+stp * (0+(j:Int))) % 676) x):xs.Nodup:=by
 refine List.pairwise_iff_getElem.mpr fun i j hi hj hij e=>?_
 have a:=h i _ (List.getElem?_eq_getElem hi)
 have b:=h j _ (List.getElem?_eq_getElem hj)
 rw [e] at a
 exact ZjD hs hij (by omega) (ZkF (Int.emod_nonneg _ (by decide)) (Int.emod_lt_of_pos _ (by decide)) (Int.emod_nonneg _ (by decide)) (Int.emod_lt_of_pos _ (by decide)) a b)
def Zca:Sp:=fun vs H Q _=>∃(p:Addr)(n:Nat)(many:Int)(Δ:Rs),vs=[.ref p,.int many]∧Sep ((p,Bx n)::Δ) H∧n≤900000∧0≤many∧many≤100 ∧
 ∀ (l:Addr) (H':Hp) (xs:List Str),Sep ((l,Vm (xs.map V.str))::(p,Bx (n+20))::Δ) H'→xs.length=many.toNat→(∀ x∈xs,ZY x)→xs.Nodup→Q (.ref l) H'
end L2
set_option maxHeartbeats 2000000
namespace L2
open PySem PySem.Spec PyProof.Rows
def Xi (c:Nat)(zs:List Nat)(l:List Nat):List Nat:=l.flatMap fun k=>if k=c then zs else [k]
theorem Zbd (c:Nat)(zs a b:List Nat):Xi c zs (a++b)=Xi c zs a++Xi c zs b:=List.flatMap_append
theorem VO (c:Nat)(zs:List Nat):∀ l:List Nat,c ∉ l→Xi c zs l=l
 | [],_=>rfl
 | k::r,h=>by
   have h1:¬ k=c:=fun e=>h (e ▸ List.mem_cons_self ..)
   have ih:=VO c zs r fun m=>h (List.mem_cons_of_mem _ m)
   unfold Xi at ih ⊢
   rw [List.flatMap_cons,if_neg h1,ih];rfl
theorem Zcp (c:Nat)(zs:List Nat):∀ parts:List Str,(∀ p∈parts,c ∉ p.cps.toList)→Xi c zs (Str.join ⟨#[c]⟩ parts).cps.toList=(Str.join ⟨zs.toArray⟩ parts).cps.toList
 | [],_=>rfl
 | [p],h=>VO c zs _ (h p (List.mem_singleton.mpr rfl))
 | p::q::r,h=>by
   have ih:=Zcp c zs (q::r) fun a ha=>h a (List.mem_cons_of_mem _ ha)
   show Xi c zs (p++⟨#[c]⟩++Str.join ⟨#[c]⟩ (q::r)).cps.toList=(p++⟨zs.toArray⟩++Str.join ⟨zs.toArray⟩ (q::r)).cps.toList
   simp only [Str.cps_append,Array.toList_append]
   rw [Zbd,Zbd,ih,VO c zs _ (h p (List.mem_cons_self ..))]
   have:Xi c zs [c]=zs:=by simp [Xi]
   rw [this]
theorem UB (x:Str)(c:Nat)(zs:List Nat):(Txt.replace x ⟨#[c]⟩ ⟨zs.toArray⟩).cps.toList=Xi c zs x.cps.toList:=by
 rw [StrLaws.replace_one,← Zcp c zs _ (StrLaws.split_free x c),StrLaws.join_split]
def Xh (l:List Nat):List Nat:=l.flatMap fun k=>if k=39∨k=92 then [92,k] else [k]
theorem Zea:∀ l:List Nat,Xi 39 [92,39] (Xi 92 [92,92] l)=Xh l
 | []=>rfl
 | k :: r=>by
   have ih:=Zea r
   have e:Xi 92 [92,92] (k::r)=(if k=92 then [92,92] else [k])++Xi 92 [92,92] r:=rfl
   rw [e,Zbd,ih]
   show _=(if k=39∨k=92 then [92,k] else [k])++Xh r
   congr 1
   by_cases h:k=92
   · subst h;rfl
   · by_cases h2:k=39
     · subst h2;rfl
     · rw [if_neg h,if_neg (by omega)];simp [Xi,h2]
def Yr:V→Str
 | .int i=>Str.ofString (toString i)
 | .str x=>⟨(39::Xh x.cps.toList++[39]).toArray⟩
 | _=>""
theorem ZaH:∀ l:List Nat,(Xh l).length≤2 * l.length
 | []=>by decide
 | k::r=>by
   have ih:=ZaH r
   have e:Xh (k::r)=(if k=39∨k=92 then [92,k] else [k])++Xh r:=rfl
   have h2:(if k=39∨k=92 then [92,k] else [k]).length≤2:=by split<;>simp
   rw [e,List.length_append,List.length_cons]
   omega
theorem VQ (c:Nat)(z:Nat)(w:Nat):∀ l:List Nat,(Xi c [z,w] l).length≤2 * l.length
 | []=>Nat.le_refl _
 | k::r=>by
   have ih:=VQ c z w r
   have e:Xi c [z,w] (k::r)=(if k=c then [z,w] else [k])++Xi c [z,w] r:=rfl
   have h2:(if k=c then [z,w] else [k]).length≤2:=by split<;>simp
   rw [e,List.length_append,List.length_cons]
   omega
section
variable {X:Cx}
end
theorem tj (s:Str)(l:List Str):Txt.join s l=Str.join s l:=by unfold Txt.join;rw [StrLaws.glued_eq_join]
theorem Zbu:∀ zs:List Str,(Str.join "" zs).cps.toList=zs.flatMap fun z=>z.cps.toList
 | []=>rfl
 | [z]=>by show z.cps.toList=_;simp
 | p::q::r=>by
   have ih:=Zbu (q::r)
   show (p++(Str.ofString "")++Str.join "" (q::r)).cps.toList=_
   simp only [Str.cps_append,Array.toList_append]
   rw [ih]
   show p.cps.toList++[]++_=p.cps.toList++_
   rw [List.append_nil];rfl
theorem ZgF (zs:List Str):(Txt.join "" zs).cps.toList=zs.flatMap fun z=>z.cps.toList:=by rw [tj];exact Zbu zs
def UO (c:Nat):Str:=⟨(if c=39∨c=92 then [92,c] else [c]).toArray⟩
theorem ZbB (l:List Nat):(Txt.join "" (l.map UO)).cps.toList=Xh l:=by
 rw [ZgF,List.flatMap_map];rfl
theorem Zhx (c:Nat):Txt.mul "\\" (if (if false = true then !XZ (.str ⟨#[c]⟩) [.str "'", .str "\\"] else XZ (.str ⟨#[c]⟩) [.str "'", .str "\\"])=true then 1 else 0)++(⟨#[c]⟩:Str)=UO c:=by
 have e:XZ (.str ⟨#[c]⟩) [.str "'",.str "\\"]=decide (c=39∨c=92):=by
   have h1:WE (.str "'") (.str ⟨#[c]⟩)=decide (c=39):=by
     show decide ((Str.ofString "'")=(⟨#[c]⟩:Str))=_
     by_cases h:c=39
     · subst h;rw [decide_eq_true rfl,decide_eq_true (by decide +kernel)]
     · rw [decide_eq_false h,decide_eq_false fun z=>h (by have:=congrArg (fun s:Str=>s.cps.toList) z;simpa [show (Str.ofString "'").cps.toList=[39] by decide +kernel] using this.symm)]
   have h2:WE (.str "\\") (.str ⟨#[c]⟩)=decide (c=92):=by
     show decide ((Str.ofString "\\")=(⟨#[c]⟩:Str))=_
     by_cases h:c=92
     · subst h;rw [decide_eq_true rfl,decide_eq_true (by decide +kernel)]
     · rw [decide_eq_false h,decide_eq_false fun z=>h (by have:=congrArg (fun s:Str=>s.cps.toList) z;simpa [show (Str.ofString "\\").cps.toList=[92] by decide +kernel] using this.symm)]
   unfold XZ
   rw [List.any_cons,List.any_cons,List.any_nil,h1,h2,Bool.or_false]
   by_cases a:c=39<;>by_cases b:c=92<;>simp [a,b]
 rw [e,if_neg (show ¬ (false=true) by decide)]
 unfold UO
 by_cases h:c=39∨c=92
 · rw [decide_eq_true h,if_pos rfl,if_pos h]
   apply Yw
   simp only [Str.cps_append,Array.toList_append]
   show (Str.ofString "\\").cps.toList++[c]=[92,c]
   rw [show (Str.ofString "\\").cps.toList=[92] by decide +kernel];rfl
 · rw [decide_eq_false h,if_neg (by decide),if_neg h]
   apply Yw
   simp only [Str.cps_append,Array.toList_append]
   show []++[c]=[c]
   rfl
theorem Zld (b:Bool):MulOk "\\" (if b=true then 1 else 0):=by
 cases b
 · exact ⟨by decide,fun h=>absurd (by decide) h,fun h=>absurd (by decide) h⟩
 · exact ⟨by decide,(fun _ h=>absurd h (by decide)),fun _ h=>absurd h (by decide)⟩
theorem ZjP (b:Bool):(Txt.mul "\\" (if b=true then 1 else 0)).length≤1:=by cases b<;>decide +kernel
theorem Zhy (c:Nat):(UO c).length≤2:=by
 show (if c=39∨c=92 then [92,c] else [c]).toArray.size≤2
 split<;>simp
theorem ZcJ:∀ l:List Nat,((l.map UO).map (·.length)).sum≤2 * l.length
 | []=>by decide
 | c::r=>by
   have h1:=ZcJ r
   have h2:=Zhy c
   rw [List.map_cons,List.map_cons,List.sum_cons,List.length_cons];omega
theorem ZhU (x:Str):(Str.ofString "'"++Txt.join "" (x.cps.toList.map UO))++Str.ofString "'"=Yr (.str x):=by
 apply Yw
 simp only [Str.cps_append,Array.toList_append]
 rw [ZbB,show (Str.ofString "'").cps.toList=[39] by decide +kernel];rfl
theorem Zfz (x:Str):(Str.ofString "'"++Txt.replace (Txt.replace x "\\" "\\\\") "'" "\\'") ++ Str.ofString "'"=Yr (.str x):=by
 apply Yw
 simp only [Str.cps_append,Array.toList_append]
 have e1:(Str.ofString "\\")=⟨#[92]⟩:=by decide +kernel
 have e2:(Str.ofString "\\\\")=⟨([92,92]:List Nat).toArray⟩:=by decide +kernel
 have e3:(Str.ofString "'")=⟨#[39]⟩:=by decide +kernel
 have e4:(Str.ofString "\\'")=⟨([92,39]:List Nat).toArray⟩:=by decide +kernel
 rw [e1,e2,e3,e4,UB,UB,Zea];rfl
theorem ZhM (x:Str):(Txt.replace x "\\" "\\\\").length≤2 * x.length:=by
 have e1:(Str.ofString "\\")=⟨#[92]⟩:=by decide +kernel
 have e2:(Str.ofString "\\\\")=⟨([92,92]:List Nat).toArray⟩:=by decide +kernel
 rw [e1,e2]
 have:=VQ 92 92 92 x.cps.toList
 rw [← UB] at this
 show (Txt.replace x _ _).cps.size≤2 * x.cps.size
 rw [← Array.length_toList,← Array.length_toList];exact this
theorem ZhA {v:V}(h:IsVal v):(Yr v).length≤100:=by
 cases v with
 | int i=>exact Nat.le_trans (ZaX (IsVal.b31 h)).2 (by decide)
 | str x =>
   have:=ZaH x.cps.toList
   have h1:x.cps.toList.length≤40:=by rw [Array.length_toList];exact h.1
   show (39::Xh x.cps.toList++[39]).toArray.size≤100
   simp;omega
 | _=>exact h.elim
theorem WX (x y:Str):(x++y).length=x.length+y.length:=by
 show (x.cps++y.cps).size=_
 rw [Array.size_append];rfl
end L2
set_option maxHeartbeats 2000000
namespace L2
open PySem PySem.Spec PyProof.Rows
section
variable {prog:Program}{w:World}{A:Around}{E:Value→Shared→Prop}{s:Shared}
theorem Wn {i t:Addr}{k:Nat}{its:Array Value}{x:Value}{Q:Value→Shared→Prop}(hi:s.heap.IsTupleIter i t k)(ht:s.heap.IsTuple t its)(hx:its[k]?=some x)
   (q:∀ h',h'.IsTupleIter i t (k+1)→Heap.SameBut i s.heap h'→Q x { s with heap:=h' }):wpAny (model prog w) A (Builtin.SmallTypes.nextOf (.ref i)) Q E s:=by
 obtain ⟨o,eo,oc,od⟩:=id hi
 obtain ⟨u,eu,_,n,du⟩:=ht
 unfold Builtin.SmallTypes.nextOf
 refine wpAny_bind (wpAny_callSpecial?_slot (name:=Str.ofString "__next__") hi.typeIs F.slot_tuple_iterator_next (wpAny_call_entry F.slot_tuple_iterator_next hi.typeIs F.entry_tuple_iterator_next ?_ (F.args_tuple_iterator_next_1 _)))
 refine wpAny_bind (m:=field (.ref i) 0) (wpAny_field eo od (x:=.ref t) rfl ?_)
 show wpAny _ _ (if (Value.ref t == Value.none)=true then _ else _) _ _ s
 rw [if_neg (by exact Bool.false_ne_true)]
 refine wpAny_bind (m:=field (.ref i) 1) (wpAny_field eo od (x:=.int k 0) rfl ?_)
 refine wpAny_bind (m:=seqItems? (.ref t)) (wpAny_seqItems eu du ?_)
 simp only [Int.toNat_natCast,hx]
 exact wpAny_bind (wpAny_setField eo od (by simp) (wpAny_pure ⟨x,rfl,wpAny_pure (q _ ⟨_,Heap.get?_update_self _ eo (Obj.isFreed_of_fields (Obj.data_mapFields od _)),(Obj.cls_mapFields ..).trans oc,by rw [Obj.data_mapFields od];simp [rawInt]⟩ (Heap.SameBut.update ..))⟩))
theorem Zah {i t:Addr}{k:Nat}{its:Array Value}{Q:Value→Shared→Prop}(hh:A.handled=none)(hi:s.heap.IsTupleIter i t k)(ht:s.heap.IsTuple t its)(hx:its[k]?=none)
   (q:∀ h' e,Heap.ExtBut i s.heap h'→(∃ o,h'.get? e=some o∧o.cls=.type "StopIteration")→E (.ref e) { s with heap:=h' }):wpAny (model prog w) A (Builtin.SmallTypes.nextOf (.ref i)) Q E s:=by
 obtain ⟨o,eo,oc,od⟩:=id hi
 obtain ⟨u,eu,_,n,du⟩:=ht
 unfold Builtin.SmallTypes.nextOf
 refine wpAny_bind (wpAny_callSpecial?_slot (name:=Str.ofString "__next__") hi.typeIs F.slot_tuple_iterator_next (wpAny_call_entry F.slot_tuple_iterator_next hi.typeIs F.entry_tuple_iterator_next ?_ (F.args_tuple_iterator_next_1 _)))
 refine wpAny_bind (m:=field (.ref i) 0) (wpAny_field eo od (x:=.ref t) rfl ?_)
 show wpAny _ _ (if (Value.ref t == Value.none)=true then _ else _) _ _ s
 rw [if_neg (by exact Bool.false_ne_true)]
 refine wpAny_bind (m:=field (.ref i) 1) (wpAny_field eo od (x:=.int k 0) rfl ?_)
 refine wpAny_bind (m:=seqItems? (.ref t)) (wpAny_seqItems eu du ?_)
 simp only [Int.toNat_natCast,hx]
 refine wpAny_bind (wpAny_rule (wpAny_bind (wpAny_setField eo od (by simp) ?_)))
 refine wpAny_bind (m:=newExc (.type "StopIteration") []) ?_
 simp only [newExc,newTuple]
 refine wpAny_bind (wpAny_newObj_type ?_ (by size_fits))
 refine wpAny_bind (m:=firstArgMember _ _) (wpAny_of_eq (a:=Value.none) (by first | rfl | (simp only [firstArgMember];rfl)) ?_)
 refine wpAny_newObj_type ?_ (by size_fits)
 simp only [raiseNew]
 refine wpAny_bind (wpAny_handled ?_)
 first | rw [show A.in1.handled=none from hh] | rw [hh]
 exact wpAny_bind (wpAny_pure (wpAny_throw (q _ _ (((Heap.SameBut.update ..).extBut.push _).push _) ⟨_,Heap.get?_push_size _ rfl,rfl⟩)))
theorem Zhk {z TI TO i1 i2 l1 l2:Addr}{k:Nat}{xs ys:Array Value}{x y a b:Value}{Q:Option Value→Shared→Prop}(D:ZipApart z TI TO i1 i2 l1 l2)(hz:IsZip s.heap z TI TO .none)(hTI:IsPair s.heap TI (.ref i1) (.ref i2))(hTO:IsPair s.heap TO a b)
   (h1:s.heap.IsTupleIter i1 l1 k) (h2:s.heap.IsTupleIter i2 l2 k) (t1:s.heap.IsTuple l1 xs) (t2:s.heap.IsTuple l2 ys) (hx:xs[k]?=some x) (hy:ys[k]?=some y)
   (q:∀ h',IsZip h' z TI TO (rawInt s.heap.objs.size)→IsPair h' TO x y→h'.IsTupleIter i1 l1 (k+1)→h'.IsTupleIter i2 l2 (k+1)→IsPair h' s.heap.objs.size x y→h'.objs.size=s.heap.objs.size+1 →
     (∀ c o,c≠z→c≠TO→c≠i1→c≠i2→s.heap.get? c=some o→h'.get? c=some o)→Q (some (.ref s.heap.objs.size)) { s with heap:=h' }):wpAny (model prog w) A (pyNext (.ref z)) Q E s:=by
 have hT:s.TypeIs (.ref z) "zip":=⟨_,hz,rfl⟩
 unfold pyNext
 refine wpAny_bind (wpAny_attempt (wpAny_callSpecial?_slot (name:=Str.ofString "__next__") hT F.slot_zip_next (wpAny_call_entry F.slot_zip_next hT F.entry_zip_next ?_ (F.args_zip_next_1 _))))
 refine wpAny_bind (m:=field (.ref z) 2) (wpAny_field hz rfl (x:=.bool false) rfl ?_)
 refine wpAny_bind (m:=field (.ref z) 3) (wpAny_field hz rfl (x:=.ref TI) rfl ?_)
 refine wpAny_bind (wpAny_seqItems hTI rfl ?_)
 refine wpAny_bind (m:=Builtin.SmallTypes.ownedTupleIsFree (.ref z)) ?_
 unfold Builtin.SmallTypes.ownedTupleIsFree
 refine wpAny_bind (wpAny_field hz rfl (x:=.none) rfl (wpAny_pure ?_))
 simp only [if_true]
 refine wpAny_bind (wpAny_rule ?_)
 refine wpAny_bind (wpAny_field hz rfl (x:=.ref TO) rfl ?_)
 refine wpAny_bind (wpAny_setField_rec hz (by simp) fun ha hza sa=>?_)
 replace hza:IsZip ha z TI TO .ellipsis:=hza
 refine wpAny_bind ?_
 simp only [List.zipIdx_cons,List.zipIdx_nil,List.forIn_cons,List.forIn_nil]
 have Ea:=sa.extBut
 refine wpAny_bind (wpAny_bind (wpAny_onRaise ?_))
 refine wpAny_bind (m:=Builtin.SmallTypes.nextOf (.ref i1)) (Wn (h1.extBut Ea D.i1z) (t1.extBut Ea D.l1z) hx fun hb i1b sb=>wpAny_pure ?_)
 have Eb:=sb.extBut
 have TOb:IsPair hb TO a b:=Eb _ _ D.TOi1 (Ea _ _ D.TOz hTO)
 refine wpAny_bind (wpAny_seqItems TOb rfl ?_)
 refine wpAny_bind (wpAny_updateSeq_pair TOb fun hc TOc sc=>?_)
 replace TOc:IsPair hc TO x b:=TOc
 have Ec:=sc.extBut
 refine wpAny_bind (wpAny_letGo (wpAny_pure ?_))
 refine wpAny_bind (wpAny_bind (wpAny_onRaise ?_))
 refine wpAny_bind (m:=Builtin.SmallTypes.nextOf (.ref i2)) (Wn (((h2.extBut Ea D.i2z).extBut Eb D.i12.symm).extBut Ec D.TOi2.symm) (((t2.extBut Ea D.l2z).extBut Eb D.l2i1).extBut Ec D.l2TO) hy fun hd i2d sd=>wpAny_pure ?_)
 have Ed:=sd.extBut
 have TOd:IsPair hd TO x b:=Ed _ _ D.TOi2 TOc
 refine wpAny_bind (wpAny_seqItems TOd rfl ?_)
 refine wpAny_bind (wpAny_updateSeq_pair TOd fun he TOe se=>?_)
 replace TOe:IsPair he TO x y:=TOe
 have Ee:=se.extBut
 refine wpAny_bind (wpAny_letGo (wpAny_pure (wpAny_pure ?_)))
 refine wpAny_bind (wpAny_seqItems TOe rfl ?_)
 refine wpAny_bind (wpAny_newTuple ?_)
 have hsz:he.objs.size=s.heap.objs.size:=by rw [se.1,sd.1,sc.1,sb.1,sa.1]
 have all:∀ c o,c≠z→c≠TO→c≠i1→c≠i2→s.heap.get? c=some o→he.get? c=some o:=fun c o c1 c2 c3 c4 e=>Ee _ _ c2 (Ed _ _ c4 (Ec _ _ c2 (Eb _ _ c3 (Ea _ _ c1 e))))
 have ze:IsZip he z TI TO .ellipsis:=Ee _ _ D.TOz.symm (Ed _ _ D.i2z.symm (Ec _ _ D.TOz.symm (Eb _ _ D.i1z.symm hza)))
 have i1e:he.IsTupleIter i1 l1 (k+1):=((i1b.extBut Ec D.TOi1.symm).extBut Ed D.i12).extBut Ee D.TOi1.symm
 have i2e:he.IsTupleIter i2 l2 (k+1):=i2d.extBut Ee D.TOi2.symm
 have zl:z < he.objs.size:=Heap.lt_size ze
 refine wpAny_bind (m:=Builtin.SmallTypes.ownedTupleHandOut (.ref z) (.ref he.objs.size)) ?_
 unfold Builtin.SmallTypes.ownedTupleHandOut
 refine wpAny_bind (wpAny_setField_rec (show IsZip (he.push { cls:=.type "tuple",data:=.seq #[x,y] }) z TI TO .ellipsis from Heap.get?_push_of_some _ ze) (by simp) fun hf zf sf=>?_)
 replace zf:IsZip hf z TI TO (rawInt he.objs.size):=zf
 refine wpAny_setField_rec zf (by simp) fun hg zg sg=>?_
 replace zg:IsZip hg z TI TO (rawInt he.objs.size):=zg
 have up:∀ c o,c≠z→he.get? c=some o→hg.get? c=some o:=fun c o c1 e=>sg.extBut _ _ c1 (sf.extBut _ _ c1 (Heap.get?_push_of_some _ e))
 have new:IsPair hg he.objs.size x y:=sg.extBut _ _ (Nat.ne_of_gt zl) (sf.extBut _ _ (Nat.ne_of_gt zl) (Heap.get?_push_size _ rfl))
 have sz:hg.objs.size=he.objs.size+1:=by rw [sg.1,sf.1,Heap.size_push]
 rw [hsz] at zg new sz
 refine wpAny_pure ⟨_,rfl,?_⟩
 show wpAny _ _ (pure (some (Value.ref he.objs.size))) _ _ _
 rw [hsz]
 refine wpAny_pure (q hg zg (up _ _ D.TOz TOe) ?_ ?_ new sz fun c o c1 c2 c3 c4 e=>up c o c1 (all c o c1 c2 c3 c4 e))
 · obtain ⟨o,eo,r⟩:=i1e;exact ⟨o,up _ _ D.i1z eo,r⟩
 · obtain ⟨o,eo,r⟩:=i2e;exact ⟨o,up _ _ D.i2z eo,r⟩
theorem ZjB {z TI TO i1 i2 l1 l2:Addr}{k:Nat}{xs:Array Value}{a b:Value}{Q:Option Value→Shared→Prop}(hh:A.handled=none)(D:ZipApart z TI TO i1 i2 l1 l2)(hz:IsZip s.heap z TI TO .none)(hTI:IsPair s.heap TI (.ref i1) (.ref i2))(hTO:IsPair s.heap TO a b)
   (h1:s.heap.IsTupleIter i1 l1 k) (t1:s.heap.IsTuple l1 xs) (hx:xs[k]?=none)
   (q:∀ h',(∀ c o,c≠z→c≠TO→c≠i1→c≠i2→s.heap.get? c=some o→h'.get? c=some o)→Q none { s with heap:=h' }):wpAny (model prog w) A (pyNext (.ref z)) Q E s:=by
 have hT:s.TypeIs (.ref z) "zip":=⟨_,hz,rfl⟩
 unfold pyNext
 refine wpAny_bind (wpAny_attempt (wpAny_callSpecial?_slot (name:=Str.ofString "__next__") hT F.slot_zip_next (wpAny_call_entry F.slot_zip_next hT F.entry_zip_next ?_ (F.args_zip_next_1 _))))
 refine wpAny_bind (m:=field (.ref z) 2) (wpAny_field hz rfl (x:=.bool false) rfl ?_)
 refine wpAny_bind (m:=field (.ref z) 3) (wpAny_field hz rfl (x:=.ref TI) rfl ?_)
 refine wpAny_bind (wpAny_seqItems hTI rfl ?_)
 refine wpAny_bind (m:=Builtin.SmallTypes.ownedTupleIsFree (.ref z)) ?_
 unfold Builtin.SmallTypes.ownedTupleIsFree
 refine wpAny_bind (wpAny_field hz rfl (x:=.none) rfl (wpAny_pure ?_))
 simp only [if_true]
 refine wpAny_bind (wpAny_rule ?_)
 refine wpAny_bind (wpAny_field hz rfl (x:=.ref TO) rfl ?_)
 refine wpAny_bind (wpAny_setField_rec hz (by simp) fun ha hza sa=>?_)
 replace hza:IsZip ha z TI TO .ellipsis:=hza
 refine wpAny_bind ?_
 simp only [List.zipIdx_cons,List.zipIdx_nil,List.forIn_cons,List.forIn_nil]
 refine wpAny_bind (wpAny_bind (wpAny_onRaise ?_))
 refine wpAny_bind (m:=Builtin.SmallTypes.nextOf (.ref i1)) (Zah hh (h1.extBut sa.extBut D.i1z) (t1.extBut sa.extBut D.l1z) hx fun hb e Eb he=>?_)
 obtain ⟨oe,eoe,ce⟩:=he
 have zb:IsZip hb z TI TO .ellipsis:=Eb _ _ D.i1z.symm hza
 have ez:e≠z:=fun x=>by subst x;rw [zb] at eoe;cases eoe;simp at ce
 refine wpAny_setField_rec zb (by simp) fun hc _ sc=>?_
 refine wpAny_bind (wpAny_isInstance (T:="StopIteration") (b:=true) ⟨oe,sc.extBut _ _ ez eoe,ce⟩ isSubtype_stop ?_)
 exact wpAny_pure (q _ fun c o c1 _ c3 _ x=>sc.extBut _ _ c1 (Eb _ _ c3 (sa.extBut _ _ c1 x)))
end
abbrev ZP (l:Addr):Obj:={ cls:=.type "tuple_iterator",data:=.fields #[.ref l,.int 0 0] }
abbrev ZaP (h:Heap)(l1 l2:Addr):Heap:=((((h.push (ZP l1)).push (ZP l2)).push { cls:=.type "tuple",data:=.seq #[.ref h.objs.size,.ref (h.push (ZP l1)).objs.size] }).push { cls:=.type "tuple",data:=.seq #[.none,.none] })
theorem ZiU (l1 l2:Addr)(xs ys:Array Value):Meets (Builtin.«zip.__new__» ⟨[.type "zip",.ref l1,.ref l2],[]⟩) (fun _ R s=>s.heap.IsTuple l1 xs∧s.heap.IsTuple l2 ys ∧
     R (.ok (.ret (.ref (ZaP s.heap l1 l2).objs.size))) { s with heap:=(ZaP s.heap l1 l2).push { cls:=.type "zip",data:=.fields #[.none,.bool false,.bool false,.ref ((s.heap.push (ZP l1)).push (ZP l2)).objs.size,.ref (((s.heap.push (ZP l1)).push (ZP l2)).push { cls:=.type "tuple",data:=.seq #[.ref s.heap.objs.size,.ref (s.heap.push (ZP l1)).objs.size] }).objs.size] } }) :=
 .of_wp fun prog w A R s h=>by
   obtain ⟨hp,g,d,tk,os⟩:=s;obtain ⟨hl1,hl2,h⟩:=h
   have hsub:=sub_zip
   have hL1:Heap.IsTuple (Shared.heap ⟨hp,g,d,tk,os⟩) l1 xs:=hl1
   have hL2:Heap.IsTuple (Shared.heap ⟨hp.push (ZP l1),g,d,tk,os⟩) l2 ys:=Heap.IsTuple.push hl2 _
   wp_walk using wpAny_pyIter_tuple hL1,wpAny_pyIter_tuple hL2
   exact ⟨_,rfl,h⟩
section
variable {prog:Program}{w:World}{A:Around}{E:Value→Shared→Prop}{s:Shared}
theorem ZgZ {l1 l2:Addr}{xs ys:Array Value}{Q:Value→Shared→Prop}(hl1:s.heap.IsTuple l1 xs)(hl2:s.heap.IsTuple l2 ys)
   (h:∀ h',IsZip h' (s.heap.objs.size+4) (s.heap.objs.size+2) (s.heap.objs.size+3) .none→IsPair h' (s.heap.objs.size+2) (.ref s.heap.objs.size) (.ref (s.heap.objs.size+1)) →
     IsPair h' (s.heap.objs.size+3) .none .none→h'.IsTupleIter s.heap.objs.size l1 0→h'.IsTupleIter (s.heap.objs.size+1) l2 0→h'.objs.size=s.heap.objs.size+5 →
     (∀ c o,s.heap.get? c=some o→h'.get? c=some o)→Q (.ref (s.heap.objs.size+4)) { s with heap:=h' }):wpAny (model prog w) A (call (.type "zip") [.ref l1,.ref l2]) Q E s:=by
 refine callType_new F.called_zip (by decide) (F.typeCall_zip_2 _ _) (F.newCall_zip_2 _ _) (fun obj=>F.args_object_init_3 obj _ _) F.entry_zip_new (ZiU l1 l2 xs ys) ⟨hl1,hl2,?_⟩
 have z1:(s.heap.push (ZP l1)).objs.size=s.heap.objs.size+1:=Heap.size_push ..
 have z2:((s.heap.push (ZP l1)).push (ZP l2)).objs.size=s.heap.objs.size+2:=by rw [Heap.size_push,z1]
 have z3:(((s.heap.push (ZP l1)).push (ZP l2)).push { cls:=.type "tuple",data:=.seq #[.ref s.heap.objs.size,.ref (s.heap.push (ZP l1)).objs.size] }).objs.size=s.heap.objs.size+3:=by rw [Heap.size_push,z2]
 have z4:(ZaP s.heap l1 l2).objs.size=s.heap.objs.size+4:=by rw [Heap.size_push,z3]
 show _∧_
 rw [z4,z3,z2]
 have up:∀ {h:Heap} {o:Obj} {c:Addr} {u:Obj},h.get? c=some u→(h.push o).get? c=some u:=fun e=>Heap.get?_push_of_some _ e
 have g5:((ZaP s.heap l1 l2).push { cls:=.type "zip",data:=.fields #[.none,.bool false,.bool false,.ref (s.heap.objs.size+2),.ref (s.heap.objs.size+3)] }).get? (ZaP s.heap l1 l2).objs.size=some _:=Heap.get?_push_size _ rfl
 have g4:(ZaP s.heap l1 l2).get? _=some _:=Heap.get?_push_size _ rfl
 have g3:(((s.heap.push (ZP l1)).push (ZP l2)).push { cls:=.type "tuple",data:=.seq #[.ref s.heap.objs.size,.ref (s.heap.push (ZP l1)).objs.size] }).get? _=some _:=Heap.get?_push_size _ rfl
 have g2:((s.heap.push (ZP l1)).push (ZP l2)).get? _=some _:=Heap.get?_push_size _ rfl
 have g1:(s.heap.push (ZP l1)).get? _=some _:=Heap.get?_push_size _ rfl
 rw [z4] at g5
 rw [z3] at g4
 rw [z2] at g3
 rw [z1] at g2
 conv at g3=>rhs;rw [z1]
 exact ⟨⟨_,g5,rfl⟩,h _ g5 (up (up g3)) (up g4) ⟨_,up (up (up (up g1))),rfl,rfl⟩ ⟨_,up (up (up g2)),rfl,rfl⟩ (by rw [Heap.size_push,z4]) fun c o x=>up (up (up (up (up x))))⟩
end
def Zep (K:PySem.W.Frag)(l1 l2:Addr):It :=
 ⟨fun i H=>∃ xs ys x y,SqT K H l1 xs∧SqT K H l2 ys∧xs[i]?=some x∧ys[i]?=some y,
  fun i H v H'=>∃ t x y,H t=none∧(∀ xs,SqT K H l1 xs→xs[i]?=some x)∧(∀ ys,SqT K H l2 ys→ys[i]?=some y)∧v=.ref t∧H'=upd H t (.tup [x,y]),
  fun i H=>∃ xs ys,SqT K H l1 xs∧SqT K H l2 ys∧xs.length≤i⟩
theorem ZfP {P:Program}{w:World}{K:PySem.W.Frag}{elts:List Expr}{x1:Nat}{tp:Pos}{z TI TO i1 i2 l1 l2:Addr}(D:ZipApart z TI TO i1 i2 l1 l2)(hTl1:l1≠TI)(hTl2:l2≠TI) :
   Wm P w K (.Tuple elts x1 tp) (Zep K l1 l2) [z,TI,TO,i1,i2] z (fun i h=>IsZip h z TI TO .none∧IsPair h TI (.ref i1) (.ref i2)∧(∃ a b,IsPair h TO a b)∧h.IsTupleIter i1 l1 i∧h.IsTupleIter i2 l2 i) where
 mem:=by simp
 obj:=fun i h st b hb=>by
   obtain ⟨hz,hTI,⟨a,c,hTO⟩,⟨o1,ho1,c1,d1⟩,⟨o2,ho2,c2,d2⟩⟩:=st
   simp only [List.mem_cons,List.not_mem_nil,or_false] at hb
   rcases hb with q | q | q | q | q
   · rw [q];exact ⟨_,hz,fun v z=>by cases z⟩
   · rw [q];exact ⟨_,hTI,fun v z=>by cases z⟩
   · rw [q];exact ⟨_,hTO,fun v z=>by cases z⟩
   · rw [q];exact ⟨o1,ho1,fun v z=>by rw [d1] at z;cases z⟩
   · rw [q];exact ⟨o2,ho2,fun v z=>by rw [d2] at z;cases z⟩
 keep:=fun i h h' st k=>by
   obtain ⟨hz,hTI,⟨a,c,hTO⟩,h1,h2⟩:=st
   exact ⟨k z (by simp) _ hz,k TI (by simp) _ hTI,⟨a,c,k TO (by simp) _ hTO⟩,h1.at fun o y=>k i1 (by simp) o y,h2.at fun o y=>k i2 (by simp) o y⟩
 item:=by
   intro X hP hw hK hc i pins s σ H E I hf st hg
   subst hP hw hK
   obtain ⟨hz,hTI,⟨a,b,hTO⟩,h1,h2⟩:=st
   obtain ⟨xs,ys,x,y,hq1,hq2,hx,hy⟩:=hg
   obtain ⟨its1,rv1,p1,hz1⟩:=I.tuple hq1
   obtain ⟨its2,rv2,p2,hz2⟩:=I.tuple hq2
   obtain ⟨u1,hu1,ru1⟩:=rv1.get hx
   obtain ⟨u2,hu2,ru2⟩:=rv2.get hy
   refine Zhk D hz hTI hTO h1 h2 p1 p2 (by simpa using hu1) (by simpa using hu2) fun h' g1 g2 g3 g4 g5 g6 g7=>?_
   refine ⟨_,rfl,wpAny_letOwnedTupleGo_zip g1 fun h2' g1' hs2=>?_⟩
   have hzl:z < s.heap.objs.size:=Heap.lt_size hz
   have hTIl:TI < s.heap.objs.size:=Heap.lt_size hTI
   have hTOl:TO < s.heap.objs.size:=Heap.lt_size hTO
   have hi1l:i1 < s.heap.objs.size:=by obtain ⟨o,ho,_⟩:=h1;exact Heap.lt_size ho
   have hi2l:i2 < s.heap.objs.size:=by obtain ⟨o,ho,_⟩:=h2;exact Heap.lt_size ho
   have g5':h'.get? s.heap.objs.size=some ({ cls:=.type "tuple",data:=.seq #[u1,u2] }:Obj):=g5
   generalize hO:({ cls:=.type "tuple",data:=.seq #[u1,u2] }:Obj)=O at g5'
   have I1:Inv X pins σ (upd H s.heap.objs.size (.tup [x,y])) { s with heap:=s.heap.push O,toks:=s.toks }:=by
     refine I.laid (t':=s.toks) (fun b o y=>Heap.get?_push_of_some _ y) (Nat.le_refl _) (show ObjOk X.prog X.w _ _ _ (.tup _) from ⟨by show 2≤sizeLine;decide,[u1,u2],.cons ru1 (.cons ru2 .nil),?_⟩)
     rw [← hO];exact IsTup.new _ _
   have hfree:=I.hok.fresh (Nat.le_refl s.heap.objs.size)
   have hf2:∀ b∈[z,TI,TO,i1,i2],Yg X pins (upd H s.heap.objs.size (.tup [x,y])) b:=fun b hb=>by
     obtain ⟨f0,f1⟩:=hf b hb
     have hb':b≠s.heap.objs.size:=by
       simp only [List.mem_cons,List.not_mem_nil,or_false] at hb
       rcases hb with q | q | q | q | q<;>(rw [q];exact Nat.ne_of_lt (by assumption))
     exact ⟨by rw [Zo hb'];exact f0,f1⟩
   have I2:Inv X pins σ (upd H s.heap.objs.size (.tup [x,y])) { s with heap:=h2',toks:=s.toks }:=by
     refine I1.turned2 (t':=s.toks) (h':=h2') (fun b o hb y=>?_) hf2
     have n1:b≠z:=fun q=>hb (by simp [q])
     have n2:b≠TO:=fun q=>hb (by simp [q])
     have n3:b≠i1:=fun q=>hb (by simp [q])
     have n4:b≠i2:=fun q=>hb (by simp [q])
     rw [hs2.2 b n1]
     rcases Heap.get?_push_cases y with ⟨q1,q2⟩ | y
     · rw [q1,q2];exact g5'
     · exact g7 b o n1 n2 n3 n4 y
   refine ⟨.ref s.heap.objs.size,_,I2,rfl,⟨s.heap.objs.size,x,y,hfree,fun ys hy'=>by rw [I.tuple_inj hy' hq1];exact hx,fun ys' hy'=>by rw [I.tuple_inj hy' hq2];exact hy,rfl,rfl⟩,⟨g1',?_,⟨u1,u2,?_⟩,?_,?_⟩,fun b hb=>(hf2 b hb).1⟩
   · show h2'.get? TI=_
     rw [hs2.2 TI D.TIz];exact g7 TI _ D.TIz D.TITO D.TIi1 D.TIi2 hTI
   · show h2'.get? TO=_
     rw [hs2.2 TO D.TOz];exact g2
   · exact g3.at fun o y=>by rw [hs2.2 i1 D.i1z];exact y
   · exact g4.at fun o y=>by rw [hs2.2 i2 D.i2z];exact y
 done:=by
   intro X hP hw hK hc i pins s σ H E I hf st hg
   subst hP hw hK
   obtain ⟨hz,hTI,⟨a,b,hTO⟩,h1,h2⟩:=st
   obtain ⟨xs,ys,hq1,hq2,hle⟩:=hg
   obtain ⟨its1,rv1,p1,hz1⟩:=I.tuple hq1
   obtain ⟨its2,rv2,p2,hz2⟩:=I.tuple hq2
   have l1:=rv1.length
   have l2:=rv2.length
   exact ZjB (I.ok.hd hc) D hz hTI hTO h1 p1 (Array.getElem?_eq_none (by simp;omega)) fun h' eb=>⟨rfl,I.turned2 (t':=s.toks) (fp:=[z,TI,TO,i1,i2]) (fun b o hb y=>eb b o (fun q=>hb (by simp [q])) (fun q=>hb (by simp [q])) (fun q=>hb (by simp [q])) (fun q=>hb (by simp [q])) y) hf⟩
 self:=fun _ _ _ _ _ st h=>wpAny_pyIter_zip st.1 h
def ZlJ (K:PySem.W.Frag)(ta tb:TE):TI:=fun σ H R=>ta σ H fun v H1=>tb σ H1 fun u H2=>∃ a b xs ys,[v,u]=[V.ref a,V.ref b]∧SqT K H2 a xs∧SqT K H2 b ys∧R (Zep K a b) H2
section
variable {X:Cx}
theorem ZiE {l m:Expr}{ta tb:TE}{elts:List Expr}{x1:Nat}{tp p pos:Pos}(hg:Gl X "zip")(hm:X.mg "zip"=none)(hl:PE X l ta)(hr:PE X m tb)
   (he:starEach [l,m] X.env=(false,eval l X.env)::starEach [m] X.env:=by rfl) (he2:starEach [m] X.env=[(false,eval m X.env)]:=by rfl) (hpl:(backTo pos (starEach [m] X.env)).any (·.1)=false:=by rfl):PI X (.Tuple elts x1 tp) (.Call (.Name "zip" p) [l,m] [] pos) (ZlJ X.K ta tb):=by
 intro pins s σ H R I h
 have ha:PA X [l,m] (Yf ta (Yf tb YF)):=ZX hl (ZX hr Za he2) he
 refine wpAny_Call_Name_kw (Xy I hg hm Uv ?_)
 refine PyProof.Rows.callWith_type1 (Zm (ha pos pins s σ H (fun vs H2=>∃ a b xs ys,vs=[V.ref a,V.ref b]∧SqT X.K H2 a xs∧SqT X.K H2 b ys∧R (Zep X.K a b) H2) I h) fun us s1 ⟨vs,H1,I1,r1,a,b,xs,ys,e,ea,eb,q⟩=>?_) he hpl
 subst e
 obtain ⟨u1,u2,rfl,r2,r3⟩:∃ u1 u2,us=[u1,u2]∧RelV (V.ref a) u1∧RelV (V.ref b) u2:=by
   cases r1 with
   | cons p t=>cases t with
     | cons p2 t2=>cases t2;exact ⟨_,_,rfl,p,p2⟩
 cases r2
 cases r3
 obtain ⟨its1,rv1,⟨o1,eo1,c1,n1,d1⟩,_⟩:=I1.tuple ea
 obtain ⟨its2,rv2,⟨o2,eo2,c2,n2,d2⟩,_⟩:=I1.tuple eb
 have ha1:a < s1.heap.objs.size:=Heap.lt_size eo1
 have hb1:b < s1.heap.objs.size:=Heap.lt_size eo2
 refine ZgZ ⟨_,eo1,c1,n1,d1⟩ ⟨_,eo2,c2,n2,d2⟩ fun h' g1 g2 g3 g4 g5 g6 g7=>wpAny_pyIter_zip g1 ?_
 refine ⟨s1.heap.objs.size+4,[s1.heap.objs.size+4,s1.heap.objs.size+2,s1.heap.objs.size+3,s1.heap.objs.size,s1.heap.objs.size+1],_,_,H1,rfl,I1.kept (t':=s1.toks) g7,ZfP (l1:=a) (l2:=b) ⟨?_,?_,?_,?_,?_,?_,?_,?_,?_,?_,?_,?_,?_,?_,?_,?_,?_,?_⟩ ?_ ?_,⟨g1,g2,⟨_,_,g3⟩,g4,g5⟩,fun c hc=>?_,q⟩
 rotate_right
 · simp only [List.mem_cons,List.not_mem_nil,or_false] at hc
   have up:∀ k,Yg X pins H1 (s1.heap.objs.size+k):=fun k=>I1.fpOk (Nat.le_add_right _ k) (I1.hok.fresh (Nat.le_add_right _ k))
   rcases hc with q | q | q | q | q
   · rw [q];exact up 4
   · rw [q];exact up 2
   · rw [q];exact up 3
   · rw [q];exact up 0
   · rw [q];exact up 1
 all_goals
   first
     | exact Nat.ne_of_lt (by first | (apply Nat.lt_of_lt_of_le (by assumption);omega) | (simp only [Nat.add_lt_add_iff_left];decide) | (show _ < _+_;exact Nat.lt_add_of_pos_right (by decide)))
     | exact Nat.ne_of_gt (by first | (simp only [Nat.add_lt_add_iff_left];decide) | exact Nat.lt_add_of_pos_right (by decide))
end
end L2
set_option maxHeartbeats 2000000
namespace L2
open PySem PySem.Spec PyProof.Rows
def TyS (K:PySem.W.Frag)(H:Hp)(x:V)(t:Value):Prop:=WD K H x t∨∃ a xs,x=.ref a∧t=.type "tuple"∧SqT K H a xs
section
variable {X:Cx}{pins:List (Addr×Obj)}{σ:St}{H:Hp}{s:Shared}
theorem Zdv {x:V}{u t:Value}(I:Inv X pins σ H s)(rx:RelV x u)(ty:TyS X.K H x t):∃ Hh:Heap→Prop,PySem.W.KitX X.K u t Hh∧Hh s.heap∧u≠.builtin "__main__.__loader__#opaque":=by
 rcases ty with ty | ⟨a,xs,rfl,rfl,h⟩
 · cases ty with
   | non=>cases (show u=Value.none from rx);exact ⟨_,PySem.W.kitx_none,True.intro,fun z=>nomatch z⟩
   | bl y=>cases (show u=Value.bool y from rx);exact ⟨_,PySem.W.kitx_bool,True.intro,fun z=>nomatch z⟩
   | int i=>obtain ⟨t,q⟩:=(show ∃ t,u=Value.int i t from rx);cases q;exact ⟨_,PySem.W.kitx_int,True.intro,fun z=>nomatch z⟩
   | str y=>obtain ⟨t,q⟩:=(show ∃ t,u=Value.str y t from rx);cases q;exact ⟨_,PySem.W.kitx_str,True.intro,fun z=>nomatch z⟩
   | flt y=>obtain ⟨t,q⟩:=(show ∃ t,u=Value.float y t from rx);cases q;exact ⟨_,PySem.W.kitx_float,True.intro,fun z=>nomatch z⟩
   | @lst a xs ea =>
     cases (show u=Value.ref a from rx)
     obtain ⟨_,_,n,_,h1⟩:=(show ObjOk X.prog X.w H s.heap a (.lst xs) from I.hok a _ ea)
     exact ⟨_,PySem.W.kitx_list,⟨_,h1,rfl⟩,fun z=>nomatch z⟩
   | @frz a ob xs ea =>
     cases (show u=Value.ref a from rx)
     obtain ⟨_,_,_,n,_,h1⟩:=(show ObjOk X.prog X.w H s.heap a (.frz ob (.lst xs)) from I.hok a _ ea)
     exact ⟨_,PySem.W.kitx_list,⟨_,h1,rfl⟩,fun z=>nomatch z⟩
   | @tup a xs ea =>
     cases (show u=Value.ref a from rx)
     obtain ⟨_,_,_,p⟩:=(show ObjOk X.prog X.w H s.heap a (.tup xs) from I.hok a _ ea)
     obtain ⟨o,h1,h2,_⟩:=p
     exact ⟨_,PySem.W.kitx_tuple,⟨o,h1,h2⟩,fun z=>nomatch z⟩
   | @dK a kvs ea =>
     cases (show u=Value.ref a from rx)
     obtain ⟨_,_,vs,_,p⟩:=(show ObjOk X.prog X.w H s.heap a (.dK kvs) from I.hok a _ ea)
     obtain ⟨o,es,ep,h1,h2,_⟩:=p
     exact ⟨_,PySem.W.kitx_dict,⟨o,h1,h2.1⟩,fun z=>nomatch z⟩
   | @dT a kvs ea =>
     cases (show u=Value.ref a from rx)
     obtain ⟨_,_,xs,_,o,es,ep,h1,h2,_⟩:=(show ObjOk X.prog X.w H s.heap a (.dT kvs) from I.hok a _ ea)
     exact ⟨_,PySem.W.kitx_dict,⟨o,h1,h2.1⟩,fun z=>nomatch z⟩
   | @ins a C dx fs ea cl ha hn htk hm =>
     cases (show u=Value.ref a from rx)
     obtain ⟨mA,O,_⟩:=Zjt I.hok ea
     obtain ⟨od,J,_⟩:=O.look
     exact ⟨_,PySem.W.kitx_own (cl.get _) cl.hd ha hn htk hm,J,fun z=>nomatch z⟩
 · cases (show u=Value.ref a from rx)
   obtain ⟨its,_,⟨o,h1,h2,_⟩,_⟩:=I.tuple h
   exact ⟨_,PySem.W.kitx_tuple,⟨o,h1,h2⟩,fun z=>nomatch z⟩
theorem ZT {K:PySem.W.Frag}(hK:X.K=K):YQ X (.builtin "isinstance") (fun xs H Q=>∃ x c t b,xs=[x,.ty c]∧TyS K H x t∧PySem.W.kitOne K t (.type c)=some b∧Q (.bl b) H):=by
 subst hK
 intro pins s σ H xs us Q I r h
 obtain ⟨x,c,t,b,rfl,ty,e,q⟩:=h
 obtain ⟨u,u',rfl,ru,ru'⟩:=ZaD r
 cases (show u'=Value.type c from ru')
 obtain ⟨Hh,Z,p,hx⟩:=Zdv I ru ty
 exact PySem.W.kia_one Z I.kIn p e hx fun tk=>⟨.bl b,H,I.tok tk,rfl,q⟩
theorem ZbI:∀{Ts:List String}{us:List Value},Vals (Ts.map V.ty) us→us=Ts.map Value.type
 | [],_,h=>by cases h;rfl
 | D::Ds,_,h=>by
   cases h with
   | cons r t=>rw [ZbI t,show _=Value.type D from r];rfl
theorem ZfS {K:PySem.W.Frag}(hK:X.K=K):YQ X (.builtin "isinstance") (fun xs H Q=>∃ (x:V) (tp:Addr) (Ts:List String) (t:Value) (b:Bool),xs=[x,.ref tp]∧TyS K H x t∧H tp=some (.tup (Ts.map V.ty))∧PySem.W.kitAny K t (Ts.map Value.type)=some b∧Q (.bl b) H):=by
 subst hK
 intro pins s σ H xs us Q I r h
 obtain ⟨x,tp,Ts,t,b,rfl,ty,htp,e,q⟩:=h
 obtain ⟨u,u',rfl,ru,ru'⟩:=ZaD r
 cases (show u'=Value.ref tp from ru')
 obtain ⟨Hh,Z,p,hx⟩:=Zdv I ru ty
 obtain ⟨_,its,rv,pt⟩:=(show ObjOk X.prog X.w H s.heap tp (.tup (Ts.map V.ty)) from I.hok tp _ htp)
 obtain ⟨⟨oc,odi,oda,osl⟩,h1,h2,n,h3⟩:=pt
 dsimp only at h2 h3
 subst h2 h3
 rw [ZbI rv] at h1
 exact PySem.W.kia_tup Z I.kIn p h1 e hx fun tk=>⟨.bl b,H,I.tok tk,rfl,q⟩
end
theorem PI.or {X:Cx}{tg e:Expr}{t u:TI}(h1:PI X tg e t)(h2:PI X tg e u):PI X tg e (fun σ H R=>t σ H R∨u σ H R):=by
 intro pins s σ H R I h
 rcases h with h | h
 · exact h1 pins s σ H R I h
 · exact h2 pins s σ H R I h
theorem Zbt {K:PySem.W.Frag}{a b:Addr}{xs zs:List V}{g:TG}{te:TE}{σ:St}{D:Addr}{Q:VK}{H:Hp}(hn:xs.length≤sizeLine)(hz:zs.length=xs.length)(Pv:Nat→List V→Hp→Prop)(h0:Pv 0 [] (upd H D (.lst [])))
   (hl:∀ i ys H,Pv i ys H→ys.length=i∧SqL K H a xs∧SqL K H b zs)
   (hs:∀ i x z t ys H wa wb,xs[i]?=some x→zs[i]?=some z→H t=none→Pv i ys H→g (.ref t) (σ++[wa,wb]) (upd H t (.tup [x,z])) fun σ' H'=>(∃ wa wb,σ'=σ++[wa,wb])∧te σ' H' fun y H4=>H4 D=some (.lst ys)∧Pv (i+1) (ys++[y]) (upd H4 D (.lst (ys++[y]))))
   (hd:∀ ys H,Pv xs.length ys H→Q (.ref D) H):ZbQ (Itz K a b) g te σ D Q H:=by
 refine ⟨fun i m ys H=>m=xs.length - i∧i≤xs.length∧Pv i ys H,⟨xs.length,by simp,Nat.zero_le _,h0⟩,?_⟩
 rintro i m ys H2 ⟨rfl,hi,p⟩
 obtain ⟨hlen,q1,q2⟩:=hl i ys _ p
 by_cases hlt:i < xs.length
 · have h2:i < zs.length:=by omega
   refine .inr ⟨⟨xs,zs,xs[i],zs[i],q1,q2,by simp [hlt],by simp [h2]⟩,_,fun y H4 (q:H4 D=some (.lst ys)∧Pv (i+1) (ys++[y]) (upd H4 D (.lst (ys++[y]))))=>⟨q.1,by omega,xs.length - (i+1),by omega,rfl,hlt,q.2⟩,fun wa wb v H3 y=>?_⟩
   obtain ⟨t,x,z,ht,hx,hz,rfl,rfl⟩:=y
   exact hs i x z t ys H2 wa wb (hx xs q1) (hz zs q2) ht p
 · have e:i=xs.length:=by omega
   subst e
   exact .inl ⟨⟨xs,zs,q1,q2,by omega⟩,hd ys H2 p⟩
theorem ZeJ {K:PySem.W.Frag}{a b:Addr}{xs zs:List V}{g:TG}{te:TE}{σ:St}{D:Addr}{Q:VK}{H:Hp}(hn:xs.length≤sizeLine)(hz:zs.length=xs.length)(Pv:Nat→List V→Hp→Prop)(h0:Pv 0 [] (upd H D (.lst [])))
   (hl:∀ i ys H,Pv i ys H→ys.length=i∧SqT K H a xs∧SqT K H b zs)
   (hs:∀ i x z t ys H wa wb,xs[i]?=some x→zs[i]?=some z→H t=none→Pv i ys H→g (.ref t) (σ++[wa,wb]) (upd H t (.tup [x,z])) fun σ' H'=>(∃ wa wb,σ'=σ++[wa,wb])∧te σ' H' fun y H4=>H4 D=some (.lst ys)∧Pv (i+1) (ys++[y]) (upd H4 D (.lst (ys++[y]))))
   (hd:∀ ys H,Pv xs.length ys H→Q (.ref D) H):ZbQ (Zep K a b) g te σ D Q H:=by
 refine ⟨fun i m ys H=>m=xs.length - i∧i≤xs.length∧Pv i ys H,⟨xs.length,by simp,Nat.zero_le _,h0⟩,?_⟩
 rintro i m ys H2 ⟨rfl,hi,p⟩
 obtain ⟨hlen,q1,q2⟩:=hl i ys _ p
 by_cases hlt:i < xs.length
 · have h2:i < zs.length:=by omega
   refine .inr ⟨⟨xs,zs,xs[i],zs[i],q1,q2,by simp [hlt],by simp [h2]⟩,_,fun y H4 (q:H4 D=some (.lst ys)∧Pv (i+1) (ys++[y]) (upd H4 D (.lst (ys++[y]))))=>⟨q.1,by omega,xs.length - (i+1),by omega,rfl,hlt,q.2⟩,fun wa wb v H3 y=>?_⟩
   obtain ⟨t,x,z,ht,hx,hz,rfl,rfl⟩:=y
   exact hs i x z t ys H2 wa wb (hx xs q1) (hz zs q2) ht p
 · have e:i=xs.length:=by omega
   subst e
   exact .inl ⟨⟨xs,zs,q1,q2,by omega⟩,hd ys H2 p⟩
end L2
set_option maxHeartbeats 4000000
namespace K68
open PySem L2
section
variable {P:Program}{w:World}{K:PySem.W.Frag}{mg:Str→Option Value}{base:Heap}
def isI:V→Bool
 | .int _=>true
 | _=>false
def ZbP:Sp:=fun vs H Q _=>∃ v,vs=[v]∧IsVal v∧Q (.bl (isI v)) H
abbrev nNu:List Str:=["thing"]
abbrev pnNu:List Str:=["thing"]
theorem scNu:Zt nNu pnNu (Zj s_is_number):=⟨rfl,rfl,rfl,by decide +kernel,rfl,by decide +kernel,by decide +kernel⟩
theorem Zla {f:Addr}{fd:FuncData}(F:Fun K "is_number" "is_number" s_is_number f fd)(T:ZW mg):Fn1 P w K mg base 1 f fd "thing" ZbP:=by
 refine F.ok1 scNu (by decide +kernel) (fun _=>rfl) rfl (fun cdv A outer s H vs Q E hr h=>?_)
 obtain ⟨v,rfl,hv,q⟩:=h
 refine' ⟨?t,?h,?r⟩
 case h =>
   conv=>arg 2;whnf
   with_reducible refine' (Zi ?h1)
   case h1=>exact Zp (XU (Zl (ZT (K:=K) rfl) rfl T.isinstance (by decide +kernel) (Zb (pv 0) (Zb (Yh rfl T.int (by decide +kernel) (v:=.ty "int") rfl) Za))) (WQ (ZcL (Zl (ZT (K:=K) rfl) rfl T.isinstance (by decide +kernel) (Zb (pv 0) (Zb (Yh rfl T.bool (by decide +kernel) (v:=.ty "bool") rfl) Za))))))
 cases v with
 | int i=>exact ⟨_,rfl,_,_,_,true,rfl,.inl (.int _),rfl,_,rfl,ZQ ⟨_,rfl,_,_,_,false,rfl,.inl (.int _),rfl,_,rfl,q⟩⟩
 | str x=>exact ⟨_,rfl,_,_,_,false,rfl,.inl (.str _),rfl,_,rfl,ZI q⟩
 | _=>exact hv.elim
def ZhJ:Sp:=fun vs H Q _=>∃ v,vs=[v]∧IsVal v∧Q (.str (Yr v)) H
abbrev nWr:List Str:=["_law_value_here"]
abbrev ZeT:List Str:=["_law_value_here"]
theorem scWr:Zt nWr ZeT (Zj s_l_written):=⟨rfl,rfl,rfl,by decide +kernel,rfl,by decide +kernel,by decide +kernel⟩
theorem ZeO {f:Addr}{fd:FuncData}(F:Fun K "_law_written" "_law_written" s_l_written f fd)(T:ZW mg):FnOk P w K mg base ZR 1 f fd ZeT (fun vs H Q E=>∃ v,vs=[v]∧IsVal v∧∀ H',Same H H'→Q (.str (Yr v)) H'):=by
 refine F.ok scWr (fun vs H Q E h=>?_) (fun cdv A outer s H vs Q E hr h=>?_)
 · obtain ⟨v,rfl,_⟩:=h;rfl
 obtain ⟨v,rfl,hv,q⟩:=h
 refine' ⟨?t,?h,?r⟩
 case h =>
   conv=>arg 2;whnf
   with_reducible refine' (Zf (Yb ?h1 (Zi ?h2) ZG) (Zi ?h3))
   case h1=>exact Yt (Zl (ZT (K:=K) rfl) rfl T.isinstance (by decide +kernel) (Zb (pv 0) (Zb (Yh rfl T.int (by decide +kernel) (v:=.ty "int") rfl) Za)))
   case h2=>exact Zp (Yv Vi rfl T.str (by decide +kernel) (Zb (pv 0) Za))
   case h3=>exact Zp (Zk Ys (Zk Ys Zn (Yd PySem.F.plainAttrs_str PySem.F.slot_str_join PySem.F.type_str_join Xt Zn (Zb (Wg (CompOk.of nWr s_l_written rfl rfl (by decide +kernel)) rfl (Vc (pv 0))  (fun _ _ _ _ _=>Zk Ys (Zk UM Zn (Yv ZbE rfl T.int (by decide +kernel) (Zb (Xg (Zen (K:=K) rfl) (pv 1) (Ya (Zb Zn (Zb Zn Za))) rfl) Za))) (pv 1))) Za))) Zn)
 cases v with
 | int i=>exact ⟨_,rfl,_,_,_,true,rfl,.inl (.int _),rfl,_,rfl,ZQ ⟨_,rfl,.inl ⟨i,rfl,(ZaX (IsVal.b31 hv)).1,q H (Same.refl H)⟩⟩⟩
 | str x =>
   refine ⟨_,rfl,_,_,_,false,rfl,.inl (.str _),rfl,_,rfl,ZI ?_⟩
   have hx:x.length≤40:=hv.1
   refine ⟨rfl,_,rfl,x,rfl,fun D hD=>?_⟩
   refine Zcm (ZB (show x.length≤1000 by omega)) (fun i ys H'=>Same H H'∧H' D=some (.lst ys)∧ys=((x.cps.toList.take i).map UO).map V.str∧i≤x.cps.size) ⟨Zh hD _,Zd,rfl,Nat.zero_le _⟩ ?_ ?_ ?_
   · rintro i ys H' ⟨_,_,rfl,hi⟩
     rw [List.length_map,List.length_map,List.length_take,Array.length_toList];omega
   · rintro i c ys H' hc ⟨s1,eD,rfl,hi⟩
     refine ⟨_,rfl,(by show 2≤sizeLine;decide),fun tp htp=>⟨tp,_,rfl,.inr (SqT.of Zd),rfl,rfl,.inr ⟨_,rfl,_,_,rfl,rfl,?_,_,rfl,_,_,rfl,rfl,?_,?_⟩⟩⟩
     · exact Zld _
     · have:=ZjP (if false=true then !XZ (.str ⟨#[c]⟩) [.str "'",.str "\\"] else XZ (.str ⟨#[c]⟩) [.str "'", .str "\\"])
       exact ZB (show _≤1000 by rw [XJ];omega)
     · dsimp only
       rw [Zhx]
       have s2:=Zh htp (.tup [.str "'",.str "\\"])
       refine ⟨s2 _ _ eD,fun b o e=>?_,Zd,?_,?_⟩
       · rw [Zo (ZH e hD)];exact s2 _ _ (s1 _ _ e)
       · have hc':x.cps.toList[i]?=some c:=by rw [Array.getElem?_toList];exact hc
         rw [List.take_succ,hc',List.map_append,List.map_append];rfl
       · have:=(Array.getElem?_eq_some_iff.mp hc).1;omega
   · rintro ys H2 ⟨s2,eD,rfl,_⟩
     rw [show x.cps.toList.take x.cps.size=x.cps.toList by rw [← Array.length_toList,List.take_length]] at eD
     have hsz:x.cps.toList.length≤40:=by rw [Array.length_toList];exact hx
     have w1:=ZcJ x.cps.toList
     have w2:(Txt.join "" (x.cps.toList.map UO)).length≤100:=by
       have:=ZaH x.cps.toList
       rw [← ZbB] at this
       show (Txt.join "" _).cps.size≤100
       rw [← Array.length_toList];omega
     refine ⟨"",D,x.cps.toList.map UO,rfl,rfl,SqL.of eD,?_,_,_,rfl,rfl,?_,_,_,rfl,rfl,?_,?_⟩
     · rw [show (Str.ofString "").length=0 by decide +kernel];omega
     · exact ZB (show _≤1000 by rw [show (Str.ofString "'").length=1 by decide +kernel];omega)
     · exact ZB (show _≤1000 by rw [XM,show (Str.ofString "'").length=1 by decide +kernel];omega)
     · rw [ZhU];exact q H2 s2
 | _=>exact hv.elim
abbrev nVt:List Str:=["value","slashed"]
abbrev ZeD:List Str:=["value"]
theorem scVt:Zt nVt ZeD (Zj s_value_text):=⟨rfl,rfl,rfl,by decide +kernel,rfl,by decide +kernel,by decide +kernel⟩
theorem ZlN {f:Addr}{fd:FuncData}(F:Fun K "value_text" "value_text" s_value_text f fd)(T:ZW mg)(B:NBk K)(DNu:ZgY P w K mg base 1 "is_number" "thing" ZbP):FnOk P w K mg base ZR 2 f fd ZeD ZhJ:=by
 refine F.ok scVt (fun vs H Q E h=>?_) (fun cdv A outer s H vs Q E hr h=>?_)
 · obtain ⟨v,rfl,_⟩:=h;rfl
 obtain ⟨v,rfl,hv,q⟩:=h
 refine' ⟨?t,?h,?r⟩
 case h =>
   conv=>arg 2;whnf
   with_reducible refine' ZiY (px:="thing") (sp:=ZbP) ?a1 ?a2 ?a3 ?a4 (Zfb (i:=1) ?b1 ?b2 ?b3 ?b4 ?b5 ?b6 ?b7) ?g1 ?g2 ?g3 ?g4
   case g1=>exact rfl
   case g2=>decide
   case g3=>exact rfl
   case g4=>intro _;rfl
   case b6=>exact rfl
   case b7=>exact .inl rfl
   case a1=>exact DNu
   case a2=>exact hr
   case a3=>exact pv 0
   case a4=>exact Zi (Zp (Yv Vi rfl T.str (by decide +kernel) (Zb (pv 0) Za)))
   case b1=>exact scVt.nd
   case b2=>exact rfl
   case b3=>exact Or.inl rfl
   case b4=>exact ZdJ B (by decide +kernel) (ZdJ B (by decide +kernel) (PE.three (pv 0)))
   case b5=>exact Zi (Zp (Zk Ys (Zk Ys Zn (pv 1)) Zn))
 cases v with
 | int i=>exact ⟨_,rfl,_,rfl,hv,_,rfl,ZQ ⟨_,rfl,.inl ⟨i,rfl,(ZaX (IsVal.b31 hv)).1,q⟩⟩⟩
 | str x =>
   have hx:x.length≤40:=hv.1
   have h1:=ZhM x
   have h3:(Txt.replace (Txt.replace x "\\" "\\\\") "'" "\\'").length≤200:=by
     have e3:(Str.ofString "'")=⟨#[39]⟩:=by decide +kernel
     have e4:(Str.ofString "\\'")=⟨([92,39]:List Nat).toArray⟩:=by decide +kernel
     rw [e3,e4]
     have:=VQ 39 92 39 (Txt.replace x "\\" "\\\\").cps.toList
     rw [← UB,Array.length_toList,Array.length_toList] at this
     have h1':(Txt.replace x "\\" "\\\\").cps.size≤2 * x.length:=h1
     show (Txt.replace _ _ _).cps.size≤200
     omega
   refine ⟨_,rfl,_,rfl,hv,_,rfl,ZI ⟨_,rfl,x,rfl,by omega,_,rfl,by omega,?_⟩⟩
   refine ⟨_,rfl,_,_,rfl,rfl,ZB (show _≤1000 by rw [show (Str.ofString "'").length=1 by decide +kernel];omega),_,_,rfl,rfl,ZB (show _≤1000 by rw [XM,show (Str.ofString "'").length=1 by decide +kernel];omega),?_⟩
   rw [Zfz];exact q
 | _=>exact hv.elim
end
end K68
set_option maxHeartbeats 4000000
namespace K68
open PySem L2
theorem VH {c:Bool}{A B:Prop}(h:c=false)(b:B):if c=true then A else B:=by rw [h];exact ZI b
theorem ifT {c:Bool}{A B:Prop}(h:c=true)(a:A):if c=true then A else B:=by rw [h];exact ZQ a
def Xq:List (Str×List V):=[("set",[.str "name",.str "value",.str "slot"]),("look",[.str "name"]),("back",[.str "slot"]),("begin",[.str "program"]),("late",[.str "program"]),("copy",[.str "slot"]),("in",[.str "slot",.str "program"]),("pass",[])]
def Wz (x:Str):Option Bool:=(PyProof.Rows.KTD.datumAt x Xq).map fun xs=>XZ (.str "program") xs
theorem ZeL {x:Str}{xs:List V}(h:PyProof.Rows.KTD.datumAt x Xq=some xs):xs.all XE=true:=by
 have:∀ p∈Xq,p.2.all XE=true:=by decide +kernel
 have mem:∀ (D:List (Str×List V)),PyProof.Rows.KTD.datumAt x D=some xs→∃ p∈D,p.2=xs:=by
   intro D
   induction D with
   | nil=>intro h;cases h
   | cons p D ih =>
     intro h
     rw [PyProof.Rows.KTD.datumAt] at h
     split at h
     · cases h;exact ⟨p,List.mem_cons_self,rfl⟩
     · obtain ⟨q,hq,e⟩:=ih h;exact ⟨q,List.mem_cons_of_mem _ hq,e⟩
 obtain ⟨p,hp,rfl⟩:=mem _ h
 exact this p hp
theorem ZaW {p:Pg}(h:p.ok):Wz p.word=some p.isB:=by
 cases p with
 | slot w s =>
   rcases h.1 with rfl | rfl
   · exact (show Wz "back"=some false by decide +kernel)
   · exact (show Wz "copy"=some false by decide +kernel)
 | blk w ps =>
   rcases h.1 with rfl | rfl
   · exact (show Wz "begin"=some true by decide +kernel)
   · exact (show Wz "late"=some true by decide +kernel)
 | inn s ps=>show Wz "in"=some true;decide +kernel
 | set x v s=>show Wz "set"=some false;decide +kernel
 | look x=>show Wz "look"=some false;decide +kernel
 | pass=>show Wz "pass"=some false;decide +kernel
section
variable {P:Program}{w:World}{K:PySem.W.Frag}{mg:Str→Option Value}{base:Heap}{dk:Addr}
def Vt (K:PySem.W.Frag):Sp:=fun vs H Q _=>∃ x:Str,vs=[.str x]∧(∀ b xs,PyProof.Rows.KTD.datumAt x Xq=some xs→SqT K H b xs→Q (.ref b) H)∧(PyProof.Rows.KTD.datumAt x Xq=none→Q .non H)
abbrev nKi:List Str:=["word"]
abbrev ZcC:List Str:=["word"]
theorem scKi:Zt nKi ZcC (Zj s_kinds_of):=⟨rfl,rfl,rfl,by decide +kernel,rfl,by decide +kernel,by decide +kernel⟩
theorem ZhC {f:Addr}{fd:FuncData}(F:Fun K "kinds_of" "kinds_of" s_kinds_of f fd)(TK:KDic K dk Xq)(hK:mg "KINDS"=some (.ref dk)):FnOk P w K mg base ZR 1 f fd ZcC (Vt K):=by
 refine F.ok scKi (fun vs H Q E h=>?_) (fun cdv A outer s H vs Q E hr h=>?_)
 · obtain ⟨x,rfl,_⟩:=h;rfl
 obtain ⟨x,rfl,q1,q2⟩:=h
 refine' ⟨?t,?h,?r⟩
 case h =>
   conv=>arg 2;whnf
   with_reducible refine' (Zi ?h1)
   case h1=>exact Zp (Zjr TK (Wk (v:=.ref _) rfl hK rfl) (pv 0) ⟨rfl,rfl,rfl,rfl⟩)
 exact ⟨_,rfl,x,rfl,fun b xs e1 e2=>q1 b xs e1 e2,fun e=>q2 e⟩
def Zar:Sp:=fun vs H Q _=>∃(x:Str)(b:Bool),vs=[.str x]∧Wz x=some b∧Q (.bl b) H
abbrev nHw:List Str:=["word"]
abbrev Zda:List Str:=["word"]
theorem scHw:Zt nHw Zda (Zj s_has_within):=⟨rfl,rfl,rfl,by decide +kernel,rfl,by decide +kernel,by decide +kernel⟩
theorem ZiT {f:Addr}{fd:FuncData}(F:Fun K "has_within" "has_within" s_has_within f fd)(DKi:Def P w K mg base 1 "kinds_of" ZcC (Vt K)):FnOk P w K mg base ZR 2 f fd Zda Zar:=by
 refine F.ok scHw (fun vs H Q E h=>?_) (fun cdv A outer s H vs Q E hr h=>?_)
 · obtain ⟨x,b,rfl,_⟩:=h;rfl
 obtain ⟨x,b,rfl,hb,q⟩:=h
 refine' ⟨?t,?h,?r⟩
 case h =>
   conv=>arg 2;whnf
   with_reducible refine' (Zi ?h1)
   case h1=>exact Zp (Xg UY Zn (Zq DKi hr (Zb (pv 0) Za)) rfl)
 refine ⟨_,rfl,x,rfl,fun d xs e1 e2=>?_,fun e=>?_⟩
 · unfold Wz at hb
   rw [e1] at hb
   cases hb
   exact ⟨d,xs,rfl,.inr e2,rfl,ZeL e1,q⟩
 · unfold Wz at hb
   rw [e] at hb
   cases hb
def VU (K:PySem.W.Frag):Sp:=fun vs H Q _=>∃(v:V)(p:Pg),vs=[v]∧DatT K H v p.dat∧p.ok∧∀ t H',Same H H'→DatT K H' t (.tuple (Pg.dats p.inner))→Q t H'
abbrev nPw:List Str:=["step"]
abbrev ZeG:List Str:=["step"]
theorem scPw:Zt nPw ZeG (Zj s_program_within):=⟨rfl,rfl,rfl,by decide +kernel,rfl,by decide +kernel,by decide +kernel⟩
theorem Zge {f:Addr}{fd:FuncData}(F:Fun K "program_within" "program_within" s_program_within f fd)(DHw:Def P w K mg base 2 "has_within" Zda Zar):FnOk P w K mg base ZR 3 f fd ZeG (VU K):=by
 refine F.ok scPw (fun vs H Q E h=>?_) (fun cdv A outer s H vs Q E hr h=>?_)
 · obtain ⟨v,p,rfl,_⟩:=h;rfl
 obtain ⟨v,p,rfl,hp,ho,q⟩:=h
 obtain ⟨a,xs,rfl,e,_,e0,_,e3⟩:=Zhv hp
 refine' ⟨?t,?h,?r⟩
 case h =>
   conv=>arg 2;whnf
   with_reducible refine' (Zi ?h1)
   case h1=>exact Zp (YH (Yt (Zq DHw hr (Zb (ZC YO (pv 0) Zc (fun _ _=>rfl)) Za))) (ZC YO (pv 0) (Ub Wq Zc) (fun _ _=>rfl)) (Ya Za))
 refine ⟨_,rfl,a,xs,_,_,rfl,rfl,e,ZA (j:=0) e0,_,p.isB,rfl,ZaW ho,_,rfl,?_⟩
 cases hb:p.isB with
 | true =>
   obtain ⟨t,e4,e5⟩:=e3 hb
   exact ZQ ⟨_,rfl,_,rfl,a,xs,_,_,rfl,rfl,e,e4,q t H (Same.refl H) e5⟩
 | false =>
   refine ZI ⟨(by decide),fun t ht=>q _ _ (Zh ht _) ?_⟩
   rw [Pg.inner_none hb]
   exact .tup (SqT.of Zd) .nil
end
end K68
set_option maxHeartbeats 2000000
namespace L2
open PySem PySem.Spec PyProof.Rows
section
variable {prog:Program}{w:World}{A:Around}{E:Value→Shared→Prop}{s:Shared}
theorem Zhb {z TI TO i1 i2 l1 l2:Addr}{k:Nat}{xs ys:Array Value}{x y a b:Value}{Q:Option Value→Shared→Prop}(D:ZipApart z TI TO i1 i2 l1 l2)(hz:IsZip s.heap z TI TO .none)(hTI:IsPair s.heap TI (.ref i1) (.ref i2))(hTO:IsPair s.heap TO a b)
   (h1:s.heap.IsTupleIter i1 l1 k) (h2:s.heap.IsListIter i2 l2 k) (t1:s.heap.IsTuple l1 xs) (t2:s.heap.IsList l2 ys) (hx:xs[k]?=some x) (hy:ys[k]?=some y)
   (q:∀ h',IsZip h' z TI TO (rawInt s.heap.objs.size)→IsPair h' TO x y→h'.IsTupleIter i1 l1 (k+1)→h'.IsListIter i2 l2 (k+1)→IsPair h' s.heap.objs.size x y→h'.objs.size=s.heap.objs.size+1 →
     (∀ c o,c≠z→c≠TO→c≠i1→c≠i2→s.heap.get? c=some o→h'.get? c=some o)→Q (some (.ref s.heap.objs.size)) { s with heap:=h' }):wpAny (model prog w) A (pyNext (.ref z)) Q E s:=by
 have hT:s.TypeIs (.ref z) "zip":=⟨_,hz,rfl⟩
 unfold pyNext
 refine wpAny_bind (wpAny_attempt (wpAny_callSpecial?_slot (name:=Str.ofString "__next__") hT F.slot_zip_next (wpAny_call_entry F.slot_zip_next hT F.entry_zip_next ?_ (F.args_zip_next_1 _))))
 refine wpAny_bind (m:=field (.ref z) 2) (wpAny_field hz rfl (x:=.bool false) rfl ?_)
 refine wpAny_bind (m:=field (.ref z) 3) (wpAny_field hz rfl (x:=.ref TI) rfl ?_)
 refine wpAny_bind (wpAny_seqItems hTI rfl ?_)
 refine wpAny_bind (m:=Builtin.SmallTypes.ownedTupleIsFree (.ref z)) ?_
 unfold Builtin.SmallTypes.ownedTupleIsFree
 refine wpAny_bind (wpAny_field hz rfl (x:=.none) rfl (wpAny_pure ?_))
 simp only [if_true]
 refine wpAny_bind (wpAny_rule ?_)
 refine wpAny_bind (wpAny_field hz rfl (x:=.ref TO) rfl ?_)
 refine wpAny_bind (wpAny_setField_rec hz (by simp) fun ha hza sa=>?_)
 replace hza:IsZip ha z TI TO .ellipsis:=hza
 refine wpAny_bind ?_
 simp only [List.zipIdx_cons,List.zipIdx_nil,List.forIn_cons,List.forIn_nil]
 have Ea:=sa.extBut
 refine wpAny_bind (wpAny_bind (wpAny_onRaise ?_))
 refine wpAny_bind (m:=Builtin.SmallTypes.nextOf (.ref i1)) (Wn (h1.extBut Ea D.i1z) (t1.extBut Ea D.l1z) hx fun hb i1b sb=>wpAny_pure ?_)
 have Eb:=sb.extBut
 have TOb:IsPair hb TO a b:=Eb _ _ D.TOi1 (Ea _ _ D.TOz hTO)
 refine wpAny_bind (wpAny_seqItems TOb rfl ?_)
 refine wpAny_bind (wpAny_updateSeq_pair TOb fun hc TOc sc=>?_)
 replace TOc:IsPair hc TO x b:=TOc
 have Ec:=sc.extBut
 refine wpAny_bind (wpAny_letGo (wpAny_pure ?_))
 refine wpAny_bind (wpAny_bind (wpAny_onRaise ?_))
 refine wpAny_bind (m:=Builtin.SmallTypes.nextOf (.ref i2)) (wpAny_nextOf_list_item (((h2.extBut Ea D.i2z).extBut Eb D.i12.symm).extBut Ec D.TOi2.symm) (((t2.extBut Ea D.l2z).extBut Eb D.l2i1).extBut Ec D.l2TO) hy fun hd i2d sd=>wpAny_pure ?_)
 have Ed:=sd.extBut
 have TOd:IsPair hd TO x b:=Ed _ _ D.TOi2 TOc
 refine wpAny_bind (wpAny_seqItems TOd rfl ?_)
 refine wpAny_bind (wpAny_updateSeq_pair TOd fun he TOe se=>?_)
 replace TOe:IsPair he TO x y:=TOe
 have Ee:=se.extBut
 refine wpAny_bind (wpAny_letGo (wpAny_pure (wpAny_pure ?_)))
 refine wpAny_bind (wpAny_seqItems TOe rfl ?_)
 refine wpAny_bind (wpAny_newTuple ?_)
 have hsz:he.objs.size=s.heap.objs.size:=by rw [se.1,sd.1,sc.1,sb.1,sa.1]
 have all:∀ c o,c≠z→c≠TO→c≠i1→c≠i2→s.heap.get? c=some o→he.get? c=some o:=fun c o c1 c2 c3 c4 e=>Ee _ _ c2 (Ed _ _ c4 (Ec _ _ c2 (Eb _ _ c3 (Ea _ _ c1 e))))
 have ze:IsZip he z TI TO .ellipsis:=Ee _ _ D.TOz.symm (Ed _ _ D.i2z.symm (Ec _ _ D.TOz.symm (Eb _ _ D.i1z.symm hza)))
 have i1e:he.IsTupleIter i1 l1 (k+1):=((i1b.extBut Ec D.TOi1.symm).extBut Ed D.i12).extBut Ee D.TOi1.symm
 have i2e:he.IsListIter i2 l2 (k+1):=i2d.extBut Ee D.TOi2.symm
 have zl:z < he.objs.size:=Heap.lt_size ze
 refine wpAny_bind (m:=Builtin.SmallTypes.ownedTupleHandOut (.ref z) (.ref he.objs.size)) ?_
 unfold Builtin.SmallTypes.ownedTupleHandOut
 refine wpAny_bind (wpAny_setField_rec (show IsZip (he.push { cls:=.type "tuple",data:=.seq #[x,y] }) z TI TO .ellipsis from Heap.get?_push_of_some _ ze) (by simp) fun hf zf sf=>?_)
 replace zf:IsZip hf z TI TO (rawInt he.objs.size):=zf
 refine wpAny_setField_rec zf (by simp) fun hg zg sg=>?_
 replace zg:IsZip hg z TI TO (rawInt he.objs.size):=zg
 have up:∀ c o,c≠z→he.get? c=some o→hg.get? c=some o:=fun c o c1 e=>sg.extBut _ _ c1 (sf.extBut _ _ c1 (Heap.get?_push_of_some _ e))
 have new:IsPair hg he.objs.size x y:=sg.extBut _ _ (Nat.ne_of_gt zl) (sf.extBut _ _ (Nat.ne_of_gt zl) (Heap.get?_push_size _ rfl))
 have sz:hg.objs.size=he.objs.size+1:=by rw [sg.1,sf.1,Heap.size_push]
 rw [hsz] at zg new sz
 refine wpAny_pure ⟨_,rfl,?_⟩
 show wpAny _ _ (pure (some (Value.ref he.objs.size))) _ _ _
 rw [hsz]
 refine wpAny_pure (q hg zg (up _ _ D.TOz TOe) ?_ ?_ new sz fun c o c1 c2 c3 c4 e=>up c o c1 (all c o c1 c2 c3 c4 e))
 · obtain ⟨o,eo,r⟩:=i1e;exact ⟨o,up _ _ D.i1z eo,r⟩
 · obtain ⟨o,eo,r⟩:=i2e;exact ⟨o,up _ _ D.i2z eo,r⟩
theorem Zjq {z TI TO i1 i2 l1 l2:Addr}{k:Nat}{xs:Array Value}{a b:Value}{Q:Option Value→Shared→Prop}(hh:A.handled=none)(D:ZipApart z TI TO i1 i2 l1 l2)(hz:IsZip s.heap z TI TO .none)(hTI:IsPair s.heap TI (.ref i1) (.ref i2))(hTO:IsPair s.heap TO a b)
   (h1:s.heap.IsTupleIter i1 l1 k) (t1:s.heap.IsTuple l1 xs) (hx:xs[k]?=none)
   (q:∀ h',(∀ c o,c≠z→c≠TO→c≠i1→c≠i2→s.heap.get? c=some o→h'.get? c=some o)→Q none { s with heap:=h' }):wpAny (model prog w) A (pyNext (.ref z)) Q E s:=by
 have hT:s.TypeIs (.ref z) "zip":=⟨_,hz,rfl⟩
 unfold pyNext
 refine wpAny_bind (wpAny_attempt (wpAny_callSpecial?_slot (name:=Str.ofString "__next__") hT F.slot_zip_next (wpAny_call_entry F.slot_zip_next hT F.entry_zip_next ?_ (F.args_zip_next_1 _))))
 refine wpAny_bind (m:=field (.ref z) 2) (wpAny_field hz rfl (x:=.bool false) rfl ?_)
 refine wpAny_bind (m:=field (.ref z) 3) (wpAny_field hz rfl (x:=.ref TI) rfl ?_)
 refine wpAny_bind (wpAny_seqItems hTI rfl ?_)
 refine wpAny_bind (m:=Builtin.SmallTypes.ownedTupleIsFree (.ref z)) ?_
 unfold Builtin.SmallTypes.ownedTupleIsFree
 refine wpAny_bind (wpAny_field hz rfl (x:=.none) rfl (wpAny_pure ?_))
 simp only [if_true]
 refine wpAny_bind (wpAny_rule ?_)
 refine wpAny_bind (wpAny_field hz rfl (x:=.ref TO) rfl ?_)
 refine wpAny_bind (wpAny_setField_rec hz (by simp) fun ha hza sa=>?_)
 replace hza:IsZip ha z TI TO .ellipsis:=hza
 refine wpAny_bind ?_
 simp only [List.zipIdx_cons,List.zipIdx_nil,List.forIn_cons,List.forIn_nil]
 refine wpAny_bind (wpAny_bind (wpAny_onRaise ?_))
 refine wpAny_bind (m:=Builtin.SmallTypes.nextOf (.ref i1)) (Zah hh (h1.extBut sa.extBut D.i1z) (t1.extBut sa.extBut D.l1z) hx fun hb e Eb he=>?_)
 obtain ⟨oe,eoe,ce⟩:=he
 have zb:IsZip hb z TI TO .ellipsis:=Eb _ _ D.i1z.symm hza
 have ez:e≠z:=fun x=>by subst x;rw [zb] at eoe;cases eoe;simp at ce
 refine wpAny_setField_rec zb (by simp) fun hc _ sc=>?_
 refine wpAny_bind (wpAny_isInstance (T:="StopIteration") (b:=true) ⟨oe,sc.extBut _ _ ez eoe,ce⟩ isSubtype_stop ?_)
 exact wpAny_pure (q _ fun c o c1 _ c3 _ x=>sc.extBut _ _ c1 (Eb _ _ c3 (sa.extBut _ _ c1 x)))
theorem Zia {z TI TO i1 i2 l1 l2:Addr}{k:Nat}{xs ys:Array Value}{x a b:Value}{Q:Option Value→Shared→Prop}(hh:A.handled=none)(D:ZipApart z TI TO i1 i2 l1 l2)(hz:IsZip s.heap z TI TO .none)(hTI:IsPair s.heap TI (.ref i1) (.ref i2))(hTO:IsPair s.heap TO a b)
   (h1:s.heap.IsTupleIter i1 l1 k) (h2:s.heap.IsListIter i2 l2 k) (t1:s.heap.IsTuple l1 xs) (t2:s.heap.IsList l2 ys) (hx:xs[k]?=some x) (hy:ys[k]?=none)
   (q:∀ h',(∀ c o,c≠z→c≠TO→c≠i1→c≠i2→s.heap.get? c=some o→h'.get? c=some o)→Q none { s with heap:=h' }):wpAny (model prog w) A (pyNext (.ref z)) Q E s:=by
 have hT:s.TypeIs (.ref z) "zip":=⟨_,hz,rfl⟩
 unfold pyNext
 refine wpAny_bind (wpAny_attempt (wpAny_callSpecial?_slot (name:=Str.ofString "__next__") hT F.slot_zip_next (wpAny_call_entry F.slot_zip_next hT F.entry_zip_next ?_ (F.args_zip_next_1 _))))
 refine wpAny_bind (m:=field (.ref z) 2) (wpAny_field hz rfl (x:=.bool false) rfl ?_)
 refine wpAny_bind (m:=field (.ref z) 3) (wpAny_field hz rfl (x:=.ref TI) rfl ?_)
 refine wpAny_bind (wpAny_seqItems hTI rfl ?_)
 refine wpAny_bind (m:=Builtin.SmallTypes.ownedTupleIsFree (.ref z)) ?_
 unfold Builtin.SmallTypes.ownedTupleIsFree
 refine wpAny_bind (wpAny_field hz rfl (x:=.none) rfl (wpAny_pure ?_))
 simp only [if_true]
 refine wpAny_bind (wpAny_rule ?_)
 refine wpAny_bind (wpAny_field hz rfl (x:=.ref TO) rfl ?_)
 refine wpAny_bind (wpAny_setField_rec hz (by simp) fun ha hza sa=>?_)
 replace hza:IsZip ha z TI TO .ellipsis:=hza
 refine wpAny_bind ?_
 simp only [List.zipIdx_cons,List.zipIdx_nil,List.forIn_cons,List.forIn_nil]
 have Ea:=sa.extBut
 refine wpAny_bind (wpAny_bind (wpAny_onRaise ?_))
 refine wpAny_bind (m:=Builtin.SmallTypes.nextOf (.ref i1)) (Wn (h1.extBut Ea D.i1z) (t1.extBut Ea D.l1z) hx fun hb i1b sb=>wpAny_pure ?_)
 have Eb:=sb.extBut
 have TOb:IsPair hb TO a b:=Eb _ _ D.TOi1 (Ea _ _ D.TOz hTO)
 refine wpAny_bind (wpAny_seqItems TOb rfl ?_)
 refine wpAny_bind (wpAny_updateSeq_pair TOb fun hc TOc sc=>?_)
 have Ec:=sc.extBut
 refine wpAny_bind (wpAny_letGo (wpAny_pure ?_))
 refine wpAny_bind (wpAny_bind (wpAny_onRaise ?_))
 refine wpAny_bind (m:=Builtin.SmallTypes.nextOf (.ref i2)) (wpAny_nextOf_list_end hh (((h2.extBut Ea D.i2z).extBut Eb D.i12.symm).extBut Ec D.TOi2.symm) (((t2.extBut Ea D.l2z).extBut Eb D.l2i1).extBut Ec D.l2TO) hy fun hd e Ed he=>?_)
 obtain ⟨oe,eoe,ce⟩:=he
 have zb:IsZip hd z TI TO .ellipsis:=Ed _ _ D.i2z.symm (Ec _ _ D.TOz.symm (Eb _ _ D.i1z.symm hza))
 have ez:e≠z:=fun x=>by subst x;rw [zb] at eoe;cases eoe;simp at ce
 refine wpAny_setField_rec zb (by simp) fun hf _ sf=>?_
 refine wpAny_bind (wpAny_isInstance (T:="StopIteration") (b:=true) ⟨oe,sf.extBut _ _ ez eoe,ce⟩ isSubtype_stop ?_)
 exact wpAny_pure (q _ fun c o c1 c2 c3 c4 x=>sf.extBut _ _ c1 (Ed _ _ c4 (Ec _ _ c2 (Eb _ _ c3 (Ea _ _ c1 x)))))
end
abbrev UN (l:Addr):Obj:={ cls:=.type "list_iterator",data:=.fields #[.ref l,.int 0 0] }
abbrev ZaO (h:Heap)(l1 l2:Addr):Heap:=((((h.push (ZP l1)).push (UN l2)).push { cls:=.type "tuple",data:=.seq #[.ref h.objs.size,.ref (h.push (ZP l1)).objs.size] }).push { cls:=.type "tuple",data:=.seq #[.none,.none] })
theorem ZiI (l1 l2:Addr)(xs ys:Array Value):Meets (Builtin.«zip.__new__» ⟨[.type "zip",.ref l1,.ref l2],[]⟩) (fun _ R s=>s.heap.IsTuple l1 xs∧s.heap.IsList l2 ys ∧
     R (.ok (.ret (.ref (ZaO s.heap l1 l2).objs.size))) { s with heap:=(ZaO s.heap l1 l2).push { cls:=.type "zip",data:=.fields #[.none,.bool false,.bool false,.ref ((s.heap.push (ZP l1)).push (UN l2)).objs.size,.ref (((s.heap.push (ZP l1)).push (UN l2)).push { cls:=.type "tuple",data:=.seq #[.ref s.heap.objs.size,.ref (s.heap.push (ZP l1)).objs.size] }).objs.size] } }) :=
 .of_wp fun prog w A R s h=>by
   obtain ⟨hp,g,d,tk,os⟩:=s;obtain ⟨hl1,hl2,h⟩:=h
   have hsub:=sub_zip
   have hL1:Heap.IsTuple (Shared.heap ⟨hp,g,d,tk,os⟩) l1 xs:=hl1
   have hL2:Heap.IsList (Shared.heap ⟨hp.push (ZP l1),g,d,tk,os⟩) l2 ys:=Heap.IsList.push hl2 _
   wp_walk using wpAny_pyIter_tuple hL1,wpAny_pyIter_list hL2
   exact ⟨_,rfl,h⟩
section
variable {prog:Program}{w:World}{A:Around}{E:Value→Shared→Prop}{s:Shared}
theorem ZhF {l1 l2:Addr}{xs ys:Array Value}{Q:Value→Shared→Prop}(hl1:s.heap.IsTuple l1 xs)(hl2:s.heap.IsList l2 ys)
   (h:∀ h',IsZip h' (s.heap.objs.size+4) (s.heap.objs.size+2) (s.heap.objs.size+3) .none→IsPair h' (s.heap.objs.size+2) (.ref s.heap.objs.size) (.ref (s.heap.objs.size+1)) →
     IsPair h' (s.heap.objs.size+3) .none .none→h'.IsTupleIter s.heap.objs.size l1 0→h'.IsListIter (s.heap.objs.size+1) l2 0→h'.objs.size=s.heap.objs.size+5 →
     (∀ c o,s.heap.get? c=some o→h'.get? c=some o)→Q (.ref (s.heap.objs.size+4)) { s with heap:=h' }):wpAny (model prog w) A (call (.type "zip") [.ref l1,.ref l2]) Q E s:=by
 refine callType_new F.called_zip (by decide) (F.typeCall_zip_2 _ _) (F.newCall_zip_2 _ _) (fun obj=>F.args_object_init_3 obj _ _) F.entry_zip_new (ZiI l1 l2 xs ys) ⟨hl1,hl2,?_⟩
 have z1:(s.heap.push (ZP l1)).objs.size=s.heap.objs.size+1:=Heap.size_push ..
 have z2:((s.heap.push (ZP l1)).push (UN l2)).objs.size=s.heap.objs.size+2:=by rw [Heap.size_push,z1]
 have z3:(((s.heap.push (ZP l1)).push (UN l2)).push { cls:=.type "tuple",data:=.seq #[.ref s.heap.objs.size,.ref (s.heap.push (ZP l1)).objs.size] }).objs.size=s.heap.objs.size+3:=by rw [Heap.size_push,z2]
 have z4:(ZaO s.heap l1 l2).objs.size=s.heap.objs.size+4:=by rw [Heap.size_push,z3]
 show _∧_
 rw [z4,z3,z2]
 have up:∀ {h:Heap} {o:Obj} {c:Addr} {u:Obj},h.get? c=some u→(h.push o).get? c=some u:=fun e=>Heap.get?_push_of_some _ e
 have g5:((ZaO s.heap l1 l2).push { cls:=.type "zip",data:=.fields #[.none,.bool false,.bool false,.ref (s.heap.objs.size+2),.ref (s.heap.objs.size+3)] }).get? (ZaO s.heap l1 l2).objs.size=some _:=Heap.get?_push_size _ rfl
 have g4:(ZaO s.heap l1 l2).get? _=some _:=Heap.get?_push_size _ rfl
 have g3:(((s.heap.push (ZP l1)).push (UN l2)).push { cls:=.type "tuple",data:=.seq #[.ref s.heap.objs.size,.ref (s.heap.push (ZP l1)).objs.size] }).get? _=some _:=Heap.get?_push_size _ rfl
 have g2:((s.heap.push (ZP l1)).push (UN l2)).get? _=some _:=Heap.get?_push_size _ rfl
 have g1:(s.heap.push (ZP l1)).get? _=some _:=Heap.get?_push_size _ rfl
 rw [z4] at g5
 rw [z3] at g4
 rw [z2] at g3
 rw [z1] at g2
 conv at g3=>rhs;rw [z1]
 exact ⟨⟨_,g5,rfl⟩,h _ g5 (up (up g3)) (up g4) ⟨_,up (up (up (up g1))),rfl,rfl⟩ ⟨_,up (up (up g2)),rfl,rfl⟩ (by rw [Heap.size_push,z4]) fun c o x=>up (up (up (up (up x))))⟩
end
def Vq (K:PySem.W.Frag)(l1 l2:Addr):It :=
 ⟨fun i H=>∃ xs ys x y,SqT K H l1 xs∧SqL K H l2 ys∧xs[i]?=some x∧ys[i]?=some y,
  fun i H v H'=>∃ t x y,H t=none∧(∀ xs,SqT K H l1 xs→xs[i]?=some x)∧(∀ ys,SqL K H l2 ys→ys[i]?=some y)∧v=.ref t∧H'=upd H t (.tup [x,y]),
  fun i H=>∃ xs ys,SqT K H l1 xs∧SqL K H l2 ys∧(xs.length≤i∨ys.length≤i)⟩
theorem Zeh {P:Program}{w:World}{K:PySem.W.Frag}{elts:List Expr}{x1:Nat}{tp:Pos}{z TI TO i1 i2 l1 l2:Addr}(D:ZipApart z TI TO i1 i2 l1 l2)(hTl1:l1≠TI)(hTl2:l2≠TI) :
   Wm P w K (.Tuple elts x1 tp) (Vq K l1 l2) [z,TI,TO,i1,i2] z (fun i h=>IsZip h z TI TO .none∧IsPair h TI (.ref i1) (.ref i2)∧(∃ a b,IsPair h TO a b)∧h.IsTupleIter i1 l1 i∧h.IsListIter i2 l2 i) where
 mem:=by simp
 obj:=fun i h st b hb=>by
   obtain ⟨hz,hTI,⟨a,c,hTO⟩,⟨o1,ho1,c1,d1⟩,⟨o2,ho2,c2,d2⟩⟩:=st
   simp only [List.mem_cons,List.not_mem_nil,or_false] at hb
   rcases hb with q | q | q | q | q
   · rw [q];exact ⟨_,hz,fun v z=>by cases z⟩
   · rw [q];exact ⟨_,hTI,fun v z=>by cases z⟩
   · rw [q];exact ⟨_,hTO,fun v z=>by cases z⟩
   · rw [q];exact ⟨o1,ho1,fun v z=>by rw [d1] at z;cases z⟩
   · rw [q];exact ⟨o2,ho2,fun v z=>by rw [d2] at z;cases z⟩
 keep:=fun i h h' st k=>by
   obtain ⟨hz,hTI,⟨a,c,hTO⟩,h1,h2⟩:=st
   exact ⟨k z (by simp) _ hz,k TI (by simp) _ hTI,⟨a,c,k TO (by simp) _ hTO⟩,h1.at fun o y=>k i1 (by simp) o y,h2.at fun o y=>k i2 (by simp) o y⟩
 item:=by
   intro X hP hw hK hc i pins s σ H E I hf st hg
   subst hP hw hK
   obtain ⟨hz,hTI,⟨a,b,hTO⟩,h1,h2⟩:=st
   obtain ⟨xs,ys,x,y,hq1,hq2,hx,hy⟩:=hg
   obtain ⟨its1,rv1,p1,hz1⟩:=I.tuple hq1
   obtain ⟨its2,rv2,p2,hz2⟩:=I.list hq2
   obtain ⟨u1,hu1,ru1⟩:=rv1.get hx
   obtain ⟨u2,hu2,ru2⟩:=rv2.get hy
   refine Zhb D hz hTI hTO h1 h2 p1 p2.isList (by simpa using hu1) (by simpa using hu2) fun h' g1 g2 g3 g4 g5 g6 g7=>?_
   refine ⟨_,rfl,wpAny_letOwnedTupleGo_zip g1 fun h2' g1' hs2=>?_⟩
   have hzl:z < s.heap.objs.size:=Heap.lt_size hz
   have hTIl:TI < s.heap.objs.size:=Heap.lt_size hTI
   have hTOl:TO < s.heap.objs.size:=Heap.lt_size hTO
   have hi1l:i1 < s.heap.objs.size:=by obtain ⟨o,ho,_⟩:=h1;exact Heap.lt_size ho
   have hi2l:i2 < s.heap.objs.size:=by obtain ⟨o,ho,_⟩:=h2;exact Heap.lt_size ho
   have g5':h'.get? s.heap.objs.size=some ({ cls:=.type "tuple",data:=.seq #[u1,u2] }:Obj):=g5
   generalize hO:({ cls:=.type "tuple",data:=.seq #[u1,u2] }:Obj)=O at g5'
   have I1:Inv X pins σ (upd H s.heap.objs.size (.tup [x,y])) { s with heap:=s.heap.push O,toks:=s.toks }:=by
     refine I.laid (t':=s.toks) (fun b o y=>Heap.get?_push_of_some _ y) (Nat.le_refl _) (show ObjOk X.prog X.w _ _ _ (.tup _) from ⟨by show 2≤sizeLine;decide,[u1,u2],.cons ru1 (.cons ru2 .nil),?_⟩)
     rw [← hO];exact IsTup.new _ _
   have hfree:=I.hok.fresh (Nat.le_refl s.heap.objs.size)
   have hf2:∀ b∈[z,TI,TO,i1,i2],Yg X pins (upd H s.heap.objs.size (.tup [x,y])) b:=fun b hb=>by
     obtain ⟨f0,f1⟩:=hf b hb
     have hb':b≠s.heap.objs.size:=by
       simp only [List.mem_cons,List.not_mem_nil,or_false] at hb
       rcases hb with q | q | q | q | q<;>(rw [q];exact Nat.ne_of_lt (by assumption))
     exact ⟨by rw [Zo hb'];exact f0,f1⟩
   have I2:Inv X pins σ (upd H s.heap.objs.size (.tup [x,y])) { s with heap:=h2',toks:=s.toks }:=by
     refine I1.turned2 (t':=s.toks) (h':=h2') (fun b o hb y=>?_) hf2
     have n1:b≠z:=fun q=>hb (by simp [q])
     have n2:b≠TO:=fun q=>hb (by simp [q])
     have n3:b≠i1:=fun q=>hb (by simp [q])
     have n4:b≠i2:=fun q=>hb (by simp [q])
     rw [hs2.2 b n1]
     rcases Heap.get?_push_cases y with ⟨q1,q2⟩ | y
     · rw [q1,q2];exact g5'
     · exact g7 b o n1 n2 n3 n4 y
   refine ⟨.ref s.heap.objs.size,_,I2,rfl,⟨s.heap.objs.size,x,y,hfree,fun ys hy'=>by rw [I.tuple_inj hy' hq1];exact hx,fun ys' hy'=>by rw [I.list_inj hy' hq2];exact hy,rfl,rfl⟩,⟨g1',?_,⟨u1,u2,?_⟩,?_,?_⟩,fun b hb=>(hf2 b hb).1⟩
   · show h2'.get? TI=_
     rw [hs2.2 TI D.TIz];exact g7 TI _ D.TIz D.TITO D.TIi1 D.TIi2 hTI
   · show h2'.get? TO=_
     rw [hs2.2 TO D.TOz];exact g2
   · exact g3.at fun o y=>by rw [hs2.2 i1 D.i1z];exact y
   · exact g4.at fun o y=>by rw [hs2.2 i2 D.i2z];exact y
 done:=by
   intro X hP hw hK hc i pins s σ H E I hf st hg
   subst hP hw hK
   obtain ⟨hz,hTI,⟨a,b,hTO⟩,h1,h2⟩:=st
   obtain ⟨xs,ys,hq1,hq2,hle⟩:=hg
   obtain ⟨its1,rv1,p1,hz1⟩:=I.tuple hq1
   obtain ⟨its2,rv2,p2,hz2⟩:=I.list hq2
   have l1:=rv1.length
   have l2:=rv2.length
   have fin:∀ h':Heap,(∀ c o,c≠z→c≠TO→c≠i1→c≠i2→s.heap.get? c=some o→h'.get? c=some o)→Inv X pins σ H { s with heap:=h',toks:=s.toks }:=fun h' eb=>I.turned2 (t':=s.toks) (fp:=[z,TI,TO,i1,i2]) (fun b o hb y=>eb b o (fun q=>hb (by simp [q])) (fun q=>hb (by simp [q])) (fun q=>hb (by simp [q])) (fun q=>hb (by simp [q])) y) hf
   by_cases hlt:xs.length≤i
   · exact Zjq (I.ok.hd hc) D hz hTI hTO h1 p1 (Array.getElem?_eq_none (by simp;omega)) fun h' eb=>⟨rfl,fin h' eb⟩
   · exact Zia (I.ok.hd hc) D hz hTI hTO h1 h2 p1 p2.isList (x:=its1[i]'(by omega)) (by simp [show i < its1.length by omega]) (Array.getElem?_eq_none (by simp;omega)) fun h' eb=>⟨rfl,fin h' eb⟩
 self:=fun _ _ _ _ _ st h=>wpAny_pyIter_zip st.1 h
def ZkX (K:PySem.W.Frag)(ta tb:TE):TI:=fun σ H R=>ta σ H fun v H1=>tb σ H1 fun u H2=>∃ a b xs ys,[v,u]=[V.ref a,V.ref b]∧SqT K H2 a xs∧H2 b=some (.lst ys)∧R (Vq K a b) H2
section
variable {X:Cx}
theorem Zho {l m:Expr}{ta tb:TE}{elts:List Expr}{x1:Nat}{tp p pos:Pos}(hg:Gl X "zip")(hm:X.mg "zip"=none)(hl:PE X l ta)(hr:PE X m tb)
   (he:starEach [l,m] X.env=(false,eval l X.env)::starEach [m] X.env:=by rfl) (he2:starEach [m] X.env=[(false,eval m X.env)]:=by rfl) (hpl:(backTo pos (starEach [m] X.env)).any (·.1)=false:=by rfl):PI X (.Tuple elts x1 tp) (.Call (.Name "zip" p) [l,m] [] pos) (ZkX X.K ta tb):=by
 intro pins s σ H R I h
 have ha:PA X [l,m] (Yf ta (Yf tb YF)):=ZX hl (ZX hr Za he2) he
 refine wpAny_Call_Name_kw (Xy I hg hm Uv ?_)
 refine PyProof.Rows.callWith_type1 (Zm (ha pos pins s σ H (fun vs H2=>∃ a b xs ys,vs=[V.ref a,V.ref b]∧SqT X.K H2 a xs∧H2 b=some (.lst ys)∧R (Vq X.K a b) H2) I h) fun us s1 ⟨vs,H1,I1,r1,a,b,xs,ys,e,ea,eb,q⟩=>?_) he hpl
 subst e
 obtain ⟨u1,u2,rfl,r2,r3⟩:∃ u1 u2,us=[u1,u2]∧RelV (V.ref a) u1∧RelV (V.ref b) u2:=by
   cases r1 with
   | cons p t=>cases t with
     | cons p2 t2=>cases t2;exact ⟨_,_,rfl,p,p2⟩
 cases r2
 cases r3
 obtain ⟨its1,rv1,⟨o1,eo1,c1,n1,d1⟩,_⟩:=I1.tuple ea
 obtain ⟨z2,its2,n2,rv2,hl2,eo2⟩:=I1.lstM eb
 have ha1:a < s1.heap.objs.size:=Heap.lt_size eo1
 have hb1:b < s1.heap.objs.size:=Heap.lt_size eo2
 refine ZhF ⟨_,eo1,c1,n1,d1⟩ ⟨_,eo2,rfl,n2,rfl⟩ fun h' g1 g2 g3 g4 g5 g6 g7=>wpAny_pyIter_zip g1 ?_
 refine ⟨s1.heap.objs.size+4,[s1.heap.objs.size+4,s1.heap.objs.size+2,s1.heap.objs.size+3,s1.heap.objs.size,s1.heap.objs.size+1],_,_,H1,rfl,I1.kept (t':=s1.toks) g7,Zeh (l1:=a) (l2:=b) ⟨?_,?_,?_,?_,?_,?_,?_,?_,?_,?_,?_,?_,?_,?_,?_,?_,?_,?_⟩ ?_ ?_,⟨g1,g2,⟨_,_,g3⟩,g4,g5⟩,fun c hc=>?_,q⟩
 rotate_right
 · simp only [List.mem_cons,List.not_mem_nil,or_false] at hc
   have up:∀ k,Yg X pins H1 (s1.heap.objs.size+k):=fun k=>I1.fpOk (Nat.le_add_right _ k) (I1.hok.fresh (Nat.le_add_right _ k))
   rcases hc with q | q | q | q | q
   · rw [q];exact up 4
   · rw [q];exact up 2
   · rw [q];exact up 3
   · rw [q];exact up 0
   · rw [q];exact up 1
 all_goals
   first
     | exact Nat.ne_of_lt (by first | (apply Nat.lt_of_lt_of_le (by assumption);omega) | (simp only [Nat.add_lt_add_iff_left];decide) | (show _ < _+_;exact Nat.lt_add_of_pos_right (by decide)))
     | exact Nat.ne_of_gt (by first | (simp only [Nat.add_lt_add_iff_left];decide) | exact Nat.lt_add_of_pos_right (by decide))
end
theorem Zgd {K:PySem.W.Frag}{a b:Addr}{xs ys:List V}{g:TG}{tb:TS}{D:WB}{σ:St}{H:Hp}(hlen:ys.length≤xs.length)(Pv:Nat→St→Hp→Prop)(h0:Pv 0 σ H)(hl:∀ i σ H,i≤ys.length→Pv i σ H→SqT K H a xs∧SqL K H b ys)
   (hs:∀ i x y t σ H,xs[i]?=some x→ys[i]?=some y→H t=none→Pv i σ H→g (.ref t) σ (upd H t (.tup [x,y])) fun σ2 H2=>tb { D with nx:=Pv (i+1),ct:=Pv (i+1),bk:=D.nx } σ2 H2) (hd:∀ σ H,Pv ys.length σ H→D.nx σ H) :
   ∃ W:Nat→Nat→St→Hp→Prop,(∃ m,W 0 m σ H)∧∀ i m σ H,W i m σ H →
     ((Vq K a b).stop i H∧D.nx σ H)∨((Vq K a b).go i H∧∃ N:St→Hp→Prop,(∀ σ' H',N σ' H'→∃ m',m' < m∧W (i+1) m' σ' H')∧∀ x H',(Vq K a b).yld i H x H'→g x σ H' fun σ2 H2=>tb { D with nx:=N,ct:=N,bk:=D.nx } σ2 H2):=by
 refine ⟨fun i m σ H=>m=ys.length - i∧i≤ys.length∧Pv i σ H,⟨ys.length,by simp,Nat.zero_le _,h0⟩,?_⟩
 rintro i m σ H ⟨rfl,hi,p⟩
 obtain ⟨q1,q2⟩:=hl i σ H hi p
 by_cases hlt:i < ys.length
 · refine .inr ⟨⟨xs,ys,xs[i]'(by omega),ys[i],q1,q2,by simp [show i < xs.length by omega],by simp [hlt]⟩,Pv (i+1),fun σ' H' p'=>⟨ys.length - (i+1),by omega,rfl,hlt,p'⟩,fun x H' y=>?_⟩
   obtain ⟨t,x',y',e1,e2,e3,e4,e5⟩:=y
   subst e4 e5
   exact hs i x' y' t σ _ (e2 xs q1) (e3 ys q2) e1 p
 · have e:i=ys.length:=by omega
   subst e
   exact .inl ⟨⟨xs,ys,q1,q2,.inr (Nat.le_refl _)⟩,hd σ H p⟩
end L2
namespace L2
open PySem
structure FG (K:PySem.W.Frag)(x:Str)(st:Stmt)(f:Addr)(fd:FuncData):Prop where
 a:PySem.W.nsIn K mainGlobals x=some (some (.ref f))
 F:Fun K x x st f fd
structure Bs (P:Program)(w:World)(K:PySem.W.Frag)(mg:Str→Option Value)(base h:Heap):Prop where
 X:K.In h
 G:h.Ns mainGlobals mg
section
variable {P:Program}{w:World}{K:PySem.W.Frag}{mg:Str→Option Value}{base h:Heap}{x q:Str}{st:Stmt}{f c Pl C:Addr}{fd:FuncData}{k:Nat}{ps:List Str}{sp:Sp}{p1 p2 p3 p4 p5:Str}
theorem FG.df (g:FG K x st f fd)(e:Bs P w K mg base h)(o:FnOk P w K mg base ZR k f fd ps sp)(b:Binds K fd ps []):Def P w K mg base k x ps sp:=⟨f,fd,o,b,g.F.kp,PySem.W.mg_of e.X e.G g.a⟩
abbrev BA (x q:Str)(st:Stmt)(us:List Value)(r:List (Str×Value)):Prop:=∀(kV doc pm:Value)(an:Option Addr)(cdv ct:Value),bindArgs (PySem.W.fnOf x q (ZaJ st) (WK st) (Zj st) .none kV doc pm an cdv ct) ⟨us,[]⟩=pure r
theorem Fun.b1 (F:Fun K x q st f fd)(h:∀ u,BA x q st [u] [(p1,u)]):Binds K fd [p1] []:=F.binds fun a b c d e g us hl=>match us,hl with | [u],_=>h u a b c d e g
theorem Fun.b2 (F:Fun K x q st f fd)(h:∀ u v,BA x q st [u,v] [(p1,u),(p2,v)]):Binds K fd [p1,p2] []:=F.binds fun a b c d e g us hl=>match us,hl with | [u,v],_=>h u v a b c d e g
theorem Fun.b4 (F:Fun K x q st f fd)(h:∀ u v y z,BA x q st [u,v,y,z] [(p1,u),(p2,v),(p3,y),(p4,z)]):Binds K fd [p1,p2,p3,p4] []:=F.binds fun a b c d e g us hl=>match us,hl with | [u,v,y,z],_=>h u v y z a b c d e g
theorem Fun.b5 (F:Fun K x q st f fd)(h:∀ u v y z z',BA x q st [u,v,y,z,z'] [(p1,u),(p2,v),(p3,y),(p4,z),(p5,z')]):Binds K fd [p1,p2,p3,p4,p5] []:=F.binds fun a b c d e g us hl=>match us,hl with | [u,v,y,z,z'],_=>h u v y z z' a b c d e g
theorem ZfB (F:Fun K x q st f fd)(h:∀ u,BA x q st [u] [(p1,u)])(s:Shared)(v:Value):BindsTo s fd ⟨[v],[]⟩ [(p1,v)]:=by
 obtain ⟨oc,od,kV,doc,pm,an,cdv,ct,osl,rfl,lk,hcd⟩:=F.ex
 exact .of_eq (h v kV doc pm an cdv ct)
end
end L2
set_option maxHeartbeats 2000000
namespace L2
open PySem PySem.Spec PyProof.Rows
def Zhl:Expr→Option V
 | .Constant (.int i) _ _=>some (.int i)
 | .Constant (.str x) _ _=>some (.str x)
 | .Constant (.bool b) _ _=>some (.bl b)
 | .Constant .none _ _=>some .non
 | _=>none
def Zek:List Expr→Option (List V)
 | []=>some []
 | e::es=>match Zhl e,Zek es with
   | some v,some vs=>some (v::vs)
   | _,_=>none
section
variable {X:Cx}
theorem Zkg {e:Expr}{v:V}(h:Zhl e=some v):PE X e (tC v)∧∀ es,starEach (e::es) X.env=(false,eval e X.env)::starEach es X.env:=by
 unfold Zhl at h
 split at h<;>cases h
 · exact ⟨Zc,fun _=>rfl⟩
 · exact ⟨Zn,fun _=>rfl⟩
 · exact ⟨Vz,fun _=>rfl⟩
 · exact ⟨XB,fun _=>rfl⟩
def Zlf (vs:List V):TA:=fun _ H Q=>Q vs H
theorem Zba:∀{es:List Expr}{vs:List V},Zek es=some vs→PA X es (Zlf vs)
 | [],_,h=>by cases h;exact Za
 | e :: es,vs,h=>by
   rw [Zek] at h
   split at h
   · rename_i v ws h1 h2
     cases h
     obtain ⟨p,s⟩:=Zkg (X:=X) h1
     exact ZX p (Zba h2) (s es)
   · cases h
end
section
variable {X:Cx}
end
section
variable {K:PySem.W.Frag}{x q:Str}{st:Stmt}{f:Addr}{fd:FuncData}{p1 p2 p3 p4 p5 p6 p7:Str}
end
section
variable {X:Cx}
end
end L2
set_option maxHeartbeats 4000000
namespace K68
open PySem L2
def _root_.L2.Pg.ws:Pg→List Str
 | .set x v s=>[x,Yr v,s]
 | .look x=>[x]
 | .slot _ s=>[s]
 | .pass=>[]
 | .blk _ _=>[]
 | .inn s _=>[s]
def _root_.L2.Pg.srow (p:Pg):Str:=Txt.join " " (p.word::p.ws)
def _root_.L2.Pg.ks:Pg→List Str
 | .set _ _ _=>["name","value","slot"]
 | .look _=>["name"]
 | .slot _ _=>["slot"]
 | .pass=>[]
 | .blk _ _=>[]
 | .inn _ _=>["slot"]
def Fit:List V→List Str→List Str→Prop
 | u::us,k::ks,y::ws=>((k="value"∧IsVal u∧y=Yr u)∨(k≠"value"∧u=.str y))∧Fit us ks ws
 | _,[],[]=>True
 | _,_,_=>False
theorem Fit.at:∀ {us:List V} {ks ws:List Str} {i:Nat} {k:Str},Fit us ks ws→ks[i]?=some k→∃ u y,us[i]?=some u∧ws[i]?=some y∧((k="value"∧IsVal u∧y=Yr u)∨(k≠"value"∧u=.str y))
 | u::us,k::ks,y::ws,0,_,h,e=>by cases e;exact ⟨u,y,rfl,rfl,h.1⟩
 | u::us,k::ks,y::ws,i+1,_,h,e=>by simpa using Fit.at (i:=i) h.2 e
 | _,[],_,_,_,_,e=>by simp at e
 | [],_::_,_,_,_,h,_=>by simp [Fit] at h
 | _::_,_::_,[],_,_,h,_=>by simp [Fit] at h
theorem Fit.len:∀{us:List V}{ks ws:List Str},Fit us ks ws→ks.length≤us.length∧ws.length=ks.length
 | u::us,k::ks,y::ws,h=>by have:=Fit.len h.2;simp only [List.length_cons];omega
 | _,[],[],_=>⟨Nat.zero_le _,rfl⟩
 | _,[],_::_,h=>by simp [Fit] at h
 | [],_::_,_,h=>by simp [Fit] at h
 | _::_,_::_,[],h=>by simp [Fit] at h
theorem ZdI {K:PySem.W.Frag}{H:Hp}{u v:V}(h:DatT K H u (UJ v))(hv:IsVal v):u=v:=by
 cases v with
 | int i=>cases h;rfl
 | str x=>cases h;rfl
 | _=>exact hv.elim
def YV (x:Str):Option (List V):=(PyProof.Rows.KTD.datumAt x Xq).map fun xs=>xs.filter fun v=>!decide (v=.str "program")
theorem Zfw {K:PySem.W.Frag}{H:Hp}{v:V}{p:Pg}(h:DatT K H v p.dat)(ho:p.ok):∃ a xs,v=.ref a∧SqT K H a (.str p.word::xs)∧xs.length≤3∧YV p.word=some (p.ks.map V.str)∧Fit xs p.ks p.ws:=by
 have nv:∀ x:Str,x="name"∨x="slot"→x≠"value":=by
   intro x hx;rcases hx with rfl | rfl<;>decide +kernel
 cases p with
 | set x v s =>
   obtain ⟨a,xs,rfl,e,q⟩:=DatT.tupI h
   obtain _ | ⟨q1,q2⟩:=q
   cases q1;obtain _ | ⟨q3,q4⟩:=q2;cases q3;obtain _ | ⟨q5,q6⟩:=q4;obtain _ | ⟨q7,q8⟩:=q6;cases q7;cases q8
   have e5:=ZdI q5 ho.2.1
   subst e5
   exact ⟨a,_,rfl,e,by simp,(show YV "set"=some ((["name","value","slot"]:List Str).map V.str) by decide +kernel),.inr ⟨nv _ (.inl rfl),rfl⟩,.inl ⟨rfl,ho.2.1,rfl⟩,.inr ⟨nv _ (.inr rfl),rfl⟩,trivial⟩
 | look x =>
   obtain ⟨a,xs,rfl,e,q⟩:=DatT.tupI h
   obtain _ | ⟨q1,q2⟩:=q
   cases q1;obtain _ | ⟨q3,q4⟩:=q2;cases q3;cases q4
   exact ⟨a,_,rfl,e,by simp,(show YV "look"=some ((["name"]:List Str).map V.str) by decide +kernel),.inr ⟨nv _ (.inl rfl),rfl⟩,trivial⟩
 | slot w s =>
   obtain ⟨a,xs,rfl,e,q⟩:=DatT.tupI h
   obtain _ | ⟨q1,q2⟩:=q
   cases q1;obtain _ | ⟨q3,q4⟩:=q2;cases q3;cases q4
   refine ⟨a,_,rfl,e,by simp,?_,.inr ⟨nv _ (.inr rfl),rfl⟩,trivial⟩
   rcases ho.1 with rfl | rfl
   · exact (show YV "back"=some ((["slot"]:List Str).map V.str) by decide +kernel)
   · exact (show YV "copy"=some ((["slot"]:List Str).map V.str) by decide +kernel)
 | pass =>
   obtain ⟨a,xs,rfl,e,q⟩:=DatT.tupI h
   obtain _ | ⟨q1,q2⟩:=q
   cases q1;cases q2
   exact ⟨a,_,rfl,e,by simp,(show YV "pass"=some (([]:List Str).map V.str) by decide +kernel),trivial⟩
 | blk w ps =>
   obtain ⟨a,xs,rfl,e,q⟩:=DatT.tupI h
   obtain _ | ⟨q1,q2⟩:=q
   cases q1;obtain _ | ⟨q3,q4⟩:=q2;cases q4
   refine ⟨a,_,rfl,e,by simp,?_,trivial⟩
   rcases ho.1 with rfl | rfl
   · exact (show YV "begin"=some (([]:List Str).map V.str) by decide +kernel)
   · exact (show YV "late"=some (([]:List Str).map V.str) by decide +kernel)
 | inn s ps =>
   obtain ⟨a,xs,rfl,e,q⟩:=DatT.tupI h
   obtain _ | ⟨q1,q2⟩:=q
   cases q1;obtain _ | ⟨q3,q4⟩:=q2;cases q3;obtain _ | ⟨q5,q6⟩:=q4;cases q6
   exact ⟨a,_,rfl,e,by simp,(show YV "in"=some ((["slot"]:List Str).map V.str) by decide +kernel),.inr ⟨nv _ (.inr rfl),rfl⟩,trivial⟩
theorem Zcn {p:Pg}(h:p.ok):p.word.length≤5∧(∀ y∈p.ws,y.length≤100)∧p.ws.length≤3:=by
 cases p with
 | set x v s =>
   have h1:=h.1.2.1
   have h2:=ZhA h.2.1
   have h3:=h.2.2.2.1
   refine ⟨(show (Str.ofString "set").length≤5 by decide +kernel),fun y hy=>?_,by simp [Pg.ws]⟩
   simp only [Pg.ws,List.mem_cons,List.not_mem_nil,or_false] at hy
   rcases hy with rfl | rfl | rfl<;>omega
 | look x =>
   have h1:=(show ZY x from h).2.1
   refine ⟨(show (Str.ofString "look").length≤5 by decide +kernel),fun y hy=>?_,by simp [Pg.ws]⟩
   simp only [Pg.ws,List.mem_cons,List.not_mem_nil,or_false] at hy
   rw [hy];omega
 | slot w s =>
   have h1:=h.2.2.1
   refine ⟨?_,fun y hy=>?_,by simp [Pg.ws]⟩
   · rcases h.1 with rfl | rfl
     · exact (show (Str.ofString "back").length≤5 by decide +kernel)
     · exact (show (Str.ofString "copy").length≤5 by decide +kernel)
   · simp only [Pg.ws,List.mem_cons,List.not_mem_nil,or_false] at hy
     rw [hy];omega
 | pass=>exact ⟨(show (Str.ofString "pass").length≤5 by decide +kernel),fun y hy=>(nomatch hy),Nat.zero_le _⟩
 | blk w ps =>
   refine ⟨?_,fun y hy=>(nomatch hy),Nat.zero_le _⟩
   rcases h.1 with rfl | rfl
   · exact (show (Str.ofString "begin").length≤5 by decide +kernel)
   · exact (show (Str.ofString "late").length≤5 by decide +kernel)
 | inn s ps =>
   have h1:=h.1.2.1
   refine ⟨(show (Str.ofString "in").length≤5 by decide +kernel),fun y hy=>?_,Nat.succ_le_succ (Nat.zero_le _)⟩
   simp only [Pg.ws,List.mem_cons,List.not_mem_nil,or_false] at hy
   rw [hy];omega
theorem ZaB {x:Str}{xs:List V}(h:PyProof.Rows.KTD.datumAt x Xq=some xs):xs.length≤3∧∀ v∈xs,Zev v (.str "program")=true:=by
 have:∀ p∈Xq,p.2.length≤3∧∀ v∈p.2,Zev v (.str "program")=true:=by decide +kernel
 have mem:∀ (D:List (Str×List V)),PyProof.Rows.KTD.datumAt x D=some xs→∃ p∈D,p.2=xs:=by
   intro D
   induction D with
   | nil=>intro h;cases h
   | cons p D ih =>
     intro h
     rw [PyProof.Rows.KTD.datumAt] at h
     split at h
     · cases h;exact ⟨p,List.mem_cons_self,rfl⟩
     · obtain ⟨q,hq,e⟩:=ih h;exact ⟨q,List.mem_cons_of_mem _ hq,e⟩
 obtain ⟨p,hp,rfl⟩:=mem _ h
 exact this p hp
theorem XF {H H':Hp}{d:Addr}{o:HO}(s:Same H H')(h:H d=none):Same H (upd H' d o):=fun b u q=>by rw [Zo (ZH q h)];exact s _ _ q
theorem Vn {n:Nat}:∀ zs:List Str,(∀ y∈zs,y.length≤n)→(zs.map (·.length)).sum≤n * zs.length:=fun zs=>by
 induction zs with
 | nil=>intro _;simp
 | cons z r ih =>
   intro hz
   have h1:=hz z List.mem_cons_self
   have h2:=ih fun y hy=>hz y (List.mem_cons_of_mem _ hy)
   rw [List.map_cons,List.sum_cons,List.length_cons,Nat.mul_add];omega
section
variable {P:Program}{w:World}{K:PySem.W.Frag}{mg:Str→Option Value}{base:Heap}
def Zhe (K:PySem.W.Frag):Sp:=fun vs H Q _=>∃(x:Str)(xs:List V),vs=[.str x]∧YV x=some xs∧∀ l H',Same H H'→H l=none→H' l=some (.lst xs)→Q (.ref l) H'
abbrev nKR:List Str:=["word"]
abbrev ZeK:List Str:=["word"]
theorem scKR:Zt nKR ZeK (Zj s_kinds_in_row):=⟨rfl,rfl,rfl,by decide +kernel,rfl,by decide +kernel,by decide +kernel⟩
theorem Zlc {f:Addr}{fd:FuncData}(F:Fun K "kinds_in_row" "kinds_in_row" s_kinds_in_row f fd)(T:ZW mg)(DKi:Def P w K mg base 1 "kinds_of" ZcC (Vt K)):FnOk P w K mg base ZR 2 f fd ZeK (Zhe K):=by
 refine F.ok scKR (fun vs H Q E h=>?_) (fun cdv A outer s H vs Q E hr h=>?_)
 · obtain ⟨x,xs,rfl,_⟩:=h;rfl
 obtain ⟨x,xs,rfl,hx,q⟩:=h
 refine' ⟨?t,?h,?r⟩
 case h =>
   conv=>arg 2;whnf
   with_reducible refine' (Zi ?h1)
   case h1=>exact Zp (Zck (CompOk.of nKR s_kinds_in_row rfl rfl (by decide +kernel)) rfl (Vb (Zq DKi hr (Zb (pv 0) Za))) (fun _ _ _ _ _=>ZF Vv (pv 1) Zn (ZE _)) (fun _ _ _ _ _=>pv 1))
 refine ⟨_,rfl,x,rfl,fun b ys e1 e2=>?_,fun e=>by unfold YV at hx;rw [e] at hx;cases hx⟩
 unfold YV at hx
 rw [e1] at hx
 cases hx
 obtain ⟨hl,hs⟩:=ZaB e1
 refine ⟨b,rfl,⟨_,e2⟩,fun D hD=>?_⟩
 refine Zbx (K:=K) (xs:=ys) (ZB (show ys.length≤1000 by omega)) (fun i zs H'=>Same H H'∧H' D=some (.lst zs)∧i≤ys.length∧zs=(ys.take i).filter fun v=>!decide (v=.str "program")) ⟨Zh hD _,Zd,Nat.zero_le _,rfl⟩ ?_ ?_ ?_
 · rintro i zs H' ⟨s1,_,hi,rfl⟩
   refine ⟨?_,e2.tf s1.tf⟩
   have:=List.length_filter_le (fun v=>!decide (v=V.str "program")) (ys.take i)
   rw [List.length_take] at this;omega
 · rintro i v zs H' hv ⟨s1,eD,hi,rfl⟩
   have hv2:=(List.getElem?_eq_some_iff.mp hv).1
   refine ⟨_,rfl,hs v (List.mem_of_getElem? hv),_,rfl,?_⟩
   have et:ys.take (i+1)=ys.take i++[v]:=by rw [List.take_add_one,hv];rfl
   cases hc:decide (v=V.str "program") with
   | true=>exact ZI ⟨s1,eD,hv2,by rw [et,List.filter_append,List.filter_cons,hc];simp⟩
   | false=>exact ZQ ⟨_,rfl,eD,fun b o e=>by rw [Zo (ZH e hD)];exact s1 _ _ e,Zd,hv2,by rw [et,List.filter_append,List.filter_cons,hc];simp⟩
 · rintro zs H' ⟨s1,eD,_,rfl⟩
   rw [List.take_length] at eD
   exact q D H' s1 hD eD
def ZgG (K:PySem.W.Frag):Sp:=fun vs H Q _=>∃(v:V)(p:Pg),vs=[v]∧DatT K H v p.dat∧p.ok∧∀ H',Same H H'→Q (.str p.srow) H'
abbrev nSR:List Str:=["step","words","part","kind"]
abbrev ZeX:List Str:=["step"]
theorem scSR:Zt nSR ZeX (Zj s_step_row):=⟨rfl,rfl,rfl,by decide +kernel,rfl,by decide +kernel,by decide +kernel⟩
theorem Zlo {f:Addr}{fd:FuncData}(F:Fun K "step_row" "step_row" s_step_row f fd)(T:ZW mg)(DVT:Def P w K mg base 2 "value_text" ZeD ZhJ)(DKR:Def P w K mg base 2 "kinds_in_row" ZeK (Zhe K)):FnOk P w K mg base ZR 3 f fd ZeX (ZgG K):=by
 refine F.ok scSR (fun vs H Q E h=>?_) (fun cdv A outer s H vs Q E hr h=>?_)
 · obtain ⟨v,p,rfl,_⟩:=h;rfl
 obtain ⟨v,p,rfl,hp,ho,q⟩:=h
 obtain ⟨a,xs,rfl,e,hxl,hk,hf⟩:=Zfw hp ho
 obtain ⟨hw,hws,hwl⟩:=Zcn ho
 obtain ⟨hl1,hl2⟩:=hf.len
 refine' ⟨?t,?h,?r⟩
 case h =>
   conv=>arg 2;whnf
   with_reducible refine' (Zf ?h1 (Zf (Xn ?h2 ?h3 ?h4 ?h5 (Zi ?h6) ?h7) (Zi ?h8)))
   case h1=>exact Zs (i:=1) scSR.nd rfl (Or.inl rfl) (ZN (Zb (ZC YO (pv 0) Zc (fun _ _=>rfl)) Za))
   case h2=>exact PassesOwn.never
   case h3=>exact rfl
   case h4=>exact Zho rfl T.zip (Ye Zcs (pv 0) (Yc Zc) Yq) (Zq DKR hr (Zb (ZC YO (pv 0) Zc (fun _ _=>rfl)) Za))
   case h5=>exact Wr rfl (Yj (ZD (i:=2) scSR.nd rfl (Or.inl rfl)) (Yj (ZD (i:=3) scSR.nd rfl (Or.inl rfl)) XO))
   case h6=>exact YM (Yd PySem.F.plainAttrs_list PySem.F.slot_list_append PySem.F.type_list_append Yk (pv 1) (Zb (YH (ZF Xb (pv 3) Zn (ZE _)) (Zq DVT hr (Zb (pv 2) Za)) (pv 2)) Za))
   case h7=>exact fun _=>rfl
   case h8=>exact Zp (Yd PySem.F.plainAttrs_str PySem.F.slot_str_join PySem.F.type_str_join Xt Zn (Zb (pv 1) Za))
 refine ⟨_,rfl,a,_,_,_,rfl,rfl,e,ZA (j:=0) rfl,(by show 1≤sizeLine;decide),fun l hl=>?_⟩
 have s1:=Zh hl (.lst [.str p.word])
 refine ⟨_,rfl,1,rfl,a,_,rfl,e.tf s1.tf,?_,fun t ht=>?_⟩
 · rintro ⟨h1,_⟩
   rw [show (1:Int)=((1:Nat):Int) from rfl,HT.sIx_nat,List.length_cons] at h1
   omega
 rw [show (1:Int)=((1:Nat):Int) from rfl,VX,List.drop_succ_cons,List.drop_zero]
 have s2:=Zh ht (.tup xs)
 have e2:(upd (upd H l (.lst [.str p.word])) t (.tup xs)) t=some (.tup xs):=Zd
 have el2:=s2 _ _ (show (upd H l (.lst [.str p.word])) l=_ from Zd)
 have s12:=s1.trans s2
 generalize upd (upd H l (.lst [.str p.word])) t (.tup xs)=H2 at *
 refine ⟨_,rfl,a,_,_,_,rfl,rfl,e.tf s12.tf,ZA (j:=0) rfl,p.word,_,rfl,hk,fun k H3 s3 hk0 ek=>?_⟩
 refine ⟨t,k,xs,_,rfl,SqT.of (s3 _ _ e2),ek,?_⟩
 have hkl:k≠l:=Ne.symm (ZH el2 hk0)
 have el3:=s3 _ _ el2
 refine Zgd (xs:=xs) (ys:=p.ks.map V.str) (by rw [List.length_map];exact hl1) (fun i σ H'=>∃ x2 x3,σ=[some (.ref a),some (.ref l),x2,x3]∧Same H H'∧H' l=some (.lst ((p.word::p.ws.take i).map V.str))∧H' t=some (.tup xs)∧H' k=some (.lst (p.ks.map V.str))) ⟨_,_,rfl,s12.trans s3,el3,s3 _ _ e2,ek⟩ (fun i σ H' _ ⟨_,_,_,_,_,e5,e6⟩=>⟨SqT.of e5,SqL.of e6⟩) ?_ ?_
 · rintro i u kv tt σ H4 hu hkv htt ⟨x2,x3,rfl,s4,el4,et4,ek4⟩
   rw [List.getElem?_map] at hkv
   obtain ⟨kk,ekk,rfl⟩:=Option.map_eq_some_iff.mp hkv
   obtain ⟨u',y,eu,ey,hc⟩:=hf.at ekk
   rw [hu] at eu
   cases eu
   have s5:=Zh htt (.tup [u,.str kk])
   refine ⟨tt,_,rfl,SqT.of Zd,rfl,_,_,rfl,_,_,rfl,rfl,?_⟩
   have hlen:(p.ws.take i).length≤3:=by rw [List.length_take];omega
   have fin:∀ H6,H6=upd (upd H4 tt (.tup [u,.str kk])) l (.lst ((p.word::p.ws.take i).map V.str++[.str y]))→∃ x2 x3,([some (.ref a),some (.ref l),some u,some (.str kk)]:St)=[some (.ref a),some (.ref l),x2,x3]∧Same H H6∧H6 l=some (.lst ((p.word::p.ws.take (i+1)).map V.str))∧H6 t=some (.tup xs)∧H6 k=some (.lst (p.ks.map V.str)):=by
     rintro H6 rfl
     have el5:=s5 _ _ el4
     refine ⟨_,_,rfl,XF (s4.trans s5) hl,?_,?_,?_⟩
     · rw [Zd,List.take_add_one,ey];simp
     · rw [Zo (Vy (s5 _ _ et4) el5 (fun z=>nomatch z))];exact s5 _ _ et4
     · rw [Zo hkl];exact s5 _ _ ek4
   have hsz:((p.word::p.ws.take i).map V.str).length < sizeLine:=XC (show _≤1000 by rw [List.length_map,List.length_cons];omega)
   rcases hc with ⟨rfl,hv,rfl⟩ | ⟨hne,rfl⟩
   · exact ⟨_,rfl,.inl ⟨rfl,_,SqL.of (s5 _ _ el4)⟩,_,rfl,rfl,_,rfl,ZQ ⟨_,rfl,u,rfl,hv,l,_,_,rfl,rfl,s5 _ _ el4,hsz,fin _ rfl⟩⟩
   · have hd:decide (V.str kk=V.str (Str.ofString "value"))=false:=decide_eq_false fun z=>hne (by injection z)
     exact ⟨_,rfl,.inl ⟨rfl,_,SqL.of (s5 _ _ el4)⟩,_,rfl,rfl,_,rfl,VH hd ⟨_,rfl,l,_,_,rfl,rfl,s5 _ _ el4,hsz,fin _ rfl⟩⟩
 · rintro σ H4 ⟨x2,x3,rfl,s4,el4,_,_⟩
   rw [List.length_map,← hl2,List.take_length] at el4
   refine ⟨rfl,_,rfl," ",l,p.word::p.ws,rfl,rfl,SqL.of el4,?_,q H4 s4⟩
   have:=Vn (n:=100) (p.word::p.ws) (fun y hy=>by rcases List.mem_cons.mp hy with rfl | hy;omega;exact hws y hy)
   rw [show (Str.ofString " ").length=1 by decide +kernel]
   rw [List.length_cons] at this ⊢;omega
end
end K68
set_option maxHeartbeats 4000000
namespace K68
open PySem L2
def Wa (x:Str):Str:=Str.ofString "  "++x
mutual
def WF:Pg→List Str
 | .blk w ps=>Pg.srow (.blk w ps)::(Zu ps).map Wa
 | .inn s ps=>Pg.srow (.inn s ps)::(Zu ps).map Wa
 | .set x v s=>[Pg.srow (.set x v s)]
 | .look x=>[Pg.srow (.look x)]
 | .slot w s=>[Pg.srow (.slot w s)]
 | .pass=>[Pg.srow .pass]
def Zu:List Pg→List Str
 | []=>[]
 | p::ps=>(WF p)++Zu ps
end
theorem ZZ (p:Pg):WF p=p.srow::(Zu p.inner).map Wa:=by
 cases p<;>simp [WF,Pg.inner,Zu]
theorem Zcx:∀ ps qs:List Pg,Zu (ps++qs)=Zu ps++Zu qs
 | [],qs=>rfl
 | p::ps,qs=>by show (WF p)++Zu (ps++qs)=(WF p)++Zu ps++_;rw [Zcx ps qs,List.append_assoc]
theorem Zbl {ps:List Pg}{i:Nat}{p:Pg}(h:ps[i]?=some p):Zu (ps.take (i+1))=Zu (ps.take i)++(p.srow::(Zu p.inner).map Wa):=by
 rw [List.take_add_one,h,Zcx,← ZZ]
 show _++((WF p)++[])=_;rw [List.append_nil]
mutual
theorem ZdR:∀ p:Pg,(WF p).length=p.many
 | .blk w ps=>by
   have:=Yy ps
   have h2:=Pg.many_eq (.blk w ps)
   rw [ZZ,List.length_cons,List.length_map,h2];show (Zu ps).length+1=1+Pg.manys ps;omega
 | .inn s ps=>by
   have:=Yy ps
   have h2:=Pg.many_eq (.inn s ps)
   rw [ZZ,List.length_cons,List.length_map,h2];show (Zu ps).length+1=1+Pg.manys ps;omega
 | .set x v s=>by rw [Pg.many_eq];rfl
 | .look x=>by rw [Pg.many_eq];rfl
 | .slot w s=>by rw [Pg.many_eq];rfl
 | .pass=>by rw [Pg.many_eq];rfl
theorem Yy:∀ ps:List Pg,(Zu ps).length=Pg.manys ps
 | []=>rfl
 | p::ps=>by
   have h1:=ZdR p
   have h2:=Yy ps
   show ((WF p)++Zu ps).length=p.many+Pg.manys ps
   rw [List.length_append,h1,h2]
end
theorem Wt (s:Str):∀ zs:List Str,(Str.join s zs).length≤(zs.map (·.length)).sum+zs.length * s.length
 | []=>by show 0≤_;omega
 | [z]=>by show z.length≤_;simp
 | p::q::r=>by
   have ih:=Wt s (q::r)
   show (p++s++Str.join s (q::r)).length≤_
   rw [WX,WX,List.map_cons,List.sum_cons,List.length_cons,Nat.add_mul];omega
theorem Xp {p:Pg}(h:p.ok):p.srow.length≤500:=by
 obtain ⟨h1,h2,h3⟩:=Zcn h
 have:=Vn (n:=100) (p.word::p.ws) (fun y hy=>by rcases List.mem_cons.mp hy with rfl | hy;omega;exact h2 y hy)
 have j:=Wt " " (p.word::p.ws)
 unfold Pg.srow
 rw [tj]
 rw [show (Str.ofString " ").length=1 by decide +kernel] at j
 rw [List.length_cons] at this j
 omega
mutual
theorem ZiH:∀{p:Pg},p.ok→∀ r∈(WF p),r.length≤500+2 * p.hgt
 | .blk w ps,h,r,hr=>by
   rw [ZZ] at hr
   rcases List.mem_cons.mp hr with rfl | hr
   · have:=Xp h;omega
   · obtain ⟨x,hx,rfl⟩:=List.mem_map.mp hr
     have:=Wj h.2 x hx
     show (Str.ofString "  "++x).length≤500+2 * (Pg.hgts ps+1)
     rw [WX,show (Str.ofString "  ").length=2 by decide +kernel];omega
 | .inn s ps,h,r,hr=>by
   rw [ZZ] at hr
   rcases List.mem_cons.mp hr with rfl | hr
   · have:=Xp h;omega
   · obtain ⟨x,hx,rfl⟩:=List.mem_map.mp hr
     have:=Wj h.2 x hx
     show (Str.ofString "  "++x).length≤500+2 * (Pg.hgts ps+1)
     rw [WX,show (Str.ofString "  ").length=2 by decide +kernel];omega
 | .set x v s,h,r,hr=>by rw [ZZ] at hr;rcases List.mem_cons.mp hr with rfl | hr;(have:=Xp h;omega);exact absurd hr (by simp [Pg.inner,Zu])
 | .look x,h,r,hr=>by rw [ZZ] at hr;rcases List.mem_cons.mp hr with rfl | hr;(have:=Xp h;omega);exact absurd hr (by simp [Pg.inner,Zu])
 | .slot w s,h,r,hr=>by rw [ZZ] at hr;rcases List.mem_cons.mp hr with rfl | hr;(have:=Xp h;omega);exact absurd hr (by simp [Pg.inner,Zu])
 | .pass,h,r,hr=>by rw [ZZ] at hr;rcases List.mem_cons.mp hr with rfl | hr;(have:=Xp h;omega);exact absurd hr (by simp [Pg.inner,Zu])
theorem Wj:∀{ps:List Pg},Pg.oks ps→∀ r∈Zu ps,r.length≤500+2 * Pg.hgts ps
 | [],_,r,hr=>(nomatch hr)
 | p::ps,h,r,hr=>by
   have e:Pg.hgts (p::ps)=max p.hgt (Pg.hgts ps):=rfl
   rcases List.mem_append.mp (show r∈(WF p)++Zu ps from hr) with hr | hr
   · have:=ZiH h.1 r hr;omega
   · have:=Wj h.2 r hr;omega
end
section
variable {P:Program}{w:World}{K:PySem.W.Frag}{mg:Str→Option Value}{base:Heap}{tk:Tok}
def Zhp:Sp:=fun vs H Q _=>∃(l:Addr)(rs:List Str),vs=[.ref l]∧H l=some (.lst (rs.map V.str))∧rs.length≤1000∧(∀ r∈rs,r.length≤1000)∧∀ m H',Same H H'→H m=none→H' m=some (.lst ((rs.map Wa).map V.str))→Q (.ref m) H'
abbrev nMI:List Str:=["rows"]
abbrev ZeE:List Str:=["rows"]
theorem scMI:Zt nMI ZeE (Zj s_moved_in):=⟨rfl,rfl,rfl,by decide +kernel,rfl,by decide +kernel,by decide +kernel⟩
theorem Zlz {f:Addr}{fd:FuncData}(F:Fun K "moved_in" "moved_in" s_moved_in f fd)(hFI:mg "FURTHER_IN"=some (.str "  " tk)):FnOk P w K mg base ZR 1 f fd ZeE Zhp:=by
 refine F.ok scMI (fun vs H Q E h=>?_) (fun cdv A outer s H vs Q E hr h=>?_)
 · obtain ⟨l,rs,rfl,_⟩:=h;rfl
 obtain ⟨l,rs,rfl,el,hl,hb,q⟩:=h
 refine' ⟨?t,?h,?r⟩
 case h =>
   conv=>arg 2;whnf
   with_reducible refine' (Zi ?h1)
   case h1=>exact Zp (Wg (CompOk.of nMI s_moved_in rfl rfl (by decide +kernel)) rfl (Vp (pv 0))  (fun _ _ _ _ _=>Zk Ys (Wk rfl hFI (v:=.str "  ") ⟨_,rfl⟩) (pv 1)))
 refine ⟨_,rfl,l,rfl,⟨_,SqL.of el⟩,fun D hD=>?_⟩
 refine Zfn (K:=K) (xs:=rs.map V.str) (ZB (show _≤1000 by rw [List.length_map];omega)) (fun i ys H'=>Same H H'∧H' D=some (.lst ys)∧ys=((rs.take i).map Wa).map V.str∧i≤rs.length) ⟨Zh hD _,Zd,rfl,Nat.zero_le _⟩ ?_ ?_ ?_
 · rintro i ys H' ⟨s1,_,rfl,hi⟩
   exact ⟨by rw [List.length_map,List.length_map,List.length_take];omega,SqL.of (s1 _ _ el)⟩
 · rintro i v ys H' hv ⟨s1,eD,rfl,hi⟩
   rw [List.getElem?_map] at hv
   obtain ⟨r,er,rfl⟩:=Option.map_eq_some_iff.mp hv
   have hrl:=hb r (List.mem_of_getElem? er)
   refine ⟨_,rfl,_,_,rfl,rfl,ZB (show _≤2000 by rw [show (Str.ofString "  ").length=2 by decide +kernel];omega),eD,fun b o e=>?_,Zd,?_,(List.getElem?_eq_some_iff.mp er).1⟩
   · rw [Zo (ZH e hD)];exact s1 _ _ e
   · rw [List.take_succ,er,List.map_append,List.map_append];rfl
 · rintro ys H2 ⟨s2,eD,rfl,_⟩
   rw [List.length_map,List.take_length] at eD
   exact q D H2 s2 hD eD
def Zco (K:PySem.W.Frag)(n:Nat):Sp:=fun vs H Q _=>∃(v:V)(ps:List Pg),vs=[v]∧DatT K H v (.tuple (Pg.dats ps))∧Pg.oks ps∧Pg.rk ps≤n∧Pg.hgts ps≤100∧Pg.manys ps≤1000∧∀ l H',Same H H'→H l=none→H' l=some (.lst ((Zu ps).map V.str))→Q (.ref l) H'
abbrev nPR:List Str:=["program","rows","step"]
abbrev VR:List Str:=["program"]
theorem scPR:Zt nPR VR (Zj s_program_rows):=⟨rfl,rfl,rfl,by decide +kernel,rfl,by decide +kernel,by decide +kernel⟩
theorem ZfI {f:Addr}{fd:FuncData}{n k:Nat}(F:Fun K "program_rows" "program_rows" s_program_rows f fd)(T:ZW mg)(DPw:Def P w K mg base k "program_within" ZeG (VU K))(DSR:Def P w K mg base k "step_row" ZeX (ZgG K))(DMI:Def P w K mg base k "moved_in" ZeE Zhp)(DPR:Def P w K mg base k "program_rows" VR (fun vs H Q E=>∃ m,m < n∧Zco K m vs H Q E)):FnOk P w K mg base ZR (k+1) f fd VR (Zco K n):=by
 refine F.ok scPR (fun vs H Q E h=>?_) (fun cdv A outer s H vs Q E hr h=>?_)
 · obtain ⟨v,ps,rfl,_⟩:=h;rfl
 obtain ⟨v,ps,rfl,hp,ho,hn,hh,hm,q⟩:=h
 obtain ⟨a,xs,rfl,e,hd⟩:=DatT.tupI hp
 have hl:=hd.pgs
 refine' ⟨?t,?h,?r⟩
 case h =>
   conv=>arg 2;whnf
   with_reducible refine' (Zf ?h1 (Zf (Xn ?h2 ?h3 ?h4 ?h5 (Zf ?h6 (Zi ?h7)) ?h8) (Zi ?h9)))
   case h1=>exact Zs (i:=1) scPR.nd rfl (Or.inl rfl) (ZN Za)
   case h2=>exact PassesOwn.never
   case h3=>exact rfl
   case h4=>exact Vb (pv 0)
   case h5=>exact ZD (i:=2) scPR.nd rfl (Or.inl rfl)
   case h6=>exact YM (Yd PySem.F.plainAttrs_list PySem.F.slot_list_append PySem.F.type_list_append Yk (pv 1) (Zb (Zq DSR hr (Zb (pv 2) Za)) Za))
   case h7=>exact YM (Yd PySem.F.plainAttrs_list PySem.F.slot_list_extend PySem.F.type_list_extend ZbA (pv 1) (Zb (Zq DMI hr (Zb (Zq DPR hr (Zb (Zq DPw hr (Zb (pv 2) Za)) Za)) Za)) Za))
   case h8=>exact fun _=>rfl
   case h9=>exact Zp (pv 1)
 have hlm:=Pg.len_manys ps
 refine ⟨(by show 0≤sizeLine;decide),fun l hl0=>?_⟩
 refine ⟨_,rfl,a,rfl,⟨_,e.tf (Zh hl0 _).tf⟩,?_⟩
 refine Zbb (xs:=xs) (fun i σ H'=>∃ x2,σ=[some (.ref a),some (.ref l),x2]∧Same H H'∧H' l=some (.lst ((Zu (ps.take i)).map V.str))) ⟨_,rfl,Zh hl0 _,by rw [List.take_zero];exact Zd⟩ (fun i σ H' _ ⟨_,_,s',_⟩=>e.tf s'.tf) ?_ ?_
 · rintro i v σ H' hv ⟨x2,rfl,s',el⟩
   obtain ⟨p,ep,dp⟩:=hd.pg hv
   have hop:=Pg.oks_at ho ep
   have hml:=Pg.manys_le (ps:=ps) i
   have hml1:=Pg.manys_le (ps:=ps) (i+1)
   have hmt:=Pg.manys_take ep
   have hmp:=Pg.inner_many (p:=p)
   have hlr:=Yy (ps.take i)
   have hli:=Yy p.inner
   have hhp:=Pg.hgts_at ep
   have hhi:Pg.hgts p.inner≤100:=Pg.inner_hgt (n:=100) (by omega)
   refine ⟨_,rfl,.inl ⟨rfl,_,SqL.of el⟩,_,rfl,v,p,rfl,dp.same s',hop,fun H1 s1=>?_⟩
   refine ⟨l,_,_,rfl,rfl,s1 _ _ el,XC (show _≤1000 by rw [List.length_map];omega),?_⟩
   have el1:upd H1 l (.lst ((Zu (ps.take i)).map V.str++[.str p.srow])) l=some (.lst ((Zu (ps.take i)).map V.str++[.str p.srow])):=Zd
   have s2:Same H (upd H1 l (.lst ((Zu (ps.take i)).map V.str++[.str p.srow]))):=XF (s'.trans s1) hl0
   generalize upd H1 l (.lst ((Zu (ps.take i)).map V.str++[.str p.srow]))=H2 at *
   refine ⟨_,rfl,.inl ⟨rfl,_,SqL.of el1⟩,_,rfl,v,p,rfl,dp.same s2,hop,fun t H3 s3 dt=>?_⟩
   refine ⟨Pg.rk p.inner,Nat.lt_of_lt_of_le (Pg.rk_at ep) hn,t,p.inner,rfl,dt,Pg.inner_ok hop,Nat.le_refl _,hhi,by omega,fun m H4 s4 hm0 em=>?_⟩
   refine ⟨m,Zu p.inner,rfl,em,by omega,fun r hr=>by have:=Wj (Pg.inner_ok hop) r hr;omega,fun m2 H5 s5 hm2 em2=>?_⟩
   have el5:=((s3.trans s4).trans s5) _ _ el1
   refine ⟨l,m2,_,_,rfl,rfl,el5,em2,ZB (show _≤5000 by rw [List.length_append,List.length_map,List.length_map,List.length_map,List.length_singleton];omega),?_⟩
   refine ⟨_,rfl,XF (((s2.trans s3).trans s4).trans s5) hl0,?_⟩
   rw [Zd,Zbl ep];simp
 · rintro σ H' ⟨x2,rfl,s',el⟩
   rw [hl,List.take_length] at el
   exact ⟨_,rfl,q l H' s' hl0 el⟩
theorem Zif {f:Addr}{fd:FuncData}(F:Fun K "program_rows" "program_rows" s_program_rows f fd)(T:ZW mg)(b:Binds K fd VR [])(kp:PySem.W.keepIn K (.ref f)=true)(m:mg "program_rows"=some (.ref f))(DPw:Def P w K mg base 3 "program_within" ZeG (VU K))(DSR:Def P w K mg base 3 "step_row" ZeX (ZgG K))(DMI:Def P w K mg base 3 "moved_in" ZeE Zhp):∀ n,FnOk P w K mg base ZR (4+n) f fd VR (Zco K n)
 | 0=>ZfI F T DPw DSR DMI ⟨_,_,⟨fun vs H Q E ⟨_,h,_⟩=>absurd h (Nat.not_lt_zero _),fun _ _ _ _ _ _ _ _ _ _ _ _ _ ⟨_,h,_⟩=>absurd h (Nat.not_lt_zero _)⟩,b,kp,m⟩
 | n+1=>ZfI F T (DPw.mono (show 3≤4+n by omega)) (DSR.mono (show 3≤4+n by omega)) (DMI.mono (show 3≤4+n by omega)) ⟨_,_,(Zif F T b kp m DPw DSR DMI n).imp fun vs H Q E ⟨j,h,v,ps,a1,a2,a3,a4,a5⟩=>⟨v,ps,a1,a2,a3,by omega,a5⟩,b,kp,m⟩
def YX (ps:List Pg):Str:=Txt.join "\n" (Zu ps)
def ZhP (K:PySem.W.Frag)(n:Nat):Sp:=fun vs H Q _=>∃(v:V)(ps:List Pg),vs=[v]∧DatT K H v (.tuple (Pg.dats ps))∧Pg.oks ps∧Pg.rk ps≤n∧Pg.hgts ps≤100∧Pg.manys ps≤1000∧∀ H',Same H H'→Q (.str (YX ps)) H'
theorem UP {ps:List Pg}(ho:Pg.oks ps)(hh:Pg.hgts ps≤100)(hm:Pg.manys ps≤1000):((Zu ps).map (·.length)).sum+(Zu ps).length * (Str.ofString "\n").length≤16777216:=by
 have h1:=Vn (n:=1000) (Zu ps) (fun y hy=>by have:=Wj ho y hy;omega)
 rw [Yy] at h1 ⊢
 rw [show (Str.ofString "\n").length=1 by decide +kernel];omega
abbrev nPT:List Str:=["program"]
abbrev ZgK:List Str:=["program"]
theorem scPT:Zt nPT ZgK (Zj s_program_text):=⟨rfl,rfl,rfl,by decide +kernel,rfl,by decide +kernel,by decide +kernel⟩
theorem Zlr {f:Addr}{fd:FuncData}{n k:Nat}(F:Fun K "program_text" "program_text" s_program_text f fd)(T:ZW mg)(DPR:Def P w K mg base k "program_rows" VR (Zco K n)):FnOk P w K mg base ZR (k+1) f fd ZgK (ZhP K n):=by
 refine F.ok scPT (fun vs H Q E h=>?_) (fun cdv A outer s H vs Q E hr h=>?_)
 · obtain ⟨v,ps,rfl,_⟩:=h;rfl
 obtain ⟨v,ps,rfl,hp,ho,hn,hh,hm,q⟩:=h
 refine' ⟨?t,?h,?r⟩
 case h =>
   conv=>arg 2;whnf
   with_reducible refine' (Zi ?h1)
   case h1=>exact Zp (Yd PySem.F.plainAttrs_str PySem.F.slot_str_join PySem.F.type_str_join Xt Zn (Zb (Zq DPR hr (Zb (pv 0) Za)) Za))
 exact ⟨rfl,_,rfl,v,ps,rfl,hp,ho,hn,hh,hm,fun l H' s' hl0 el=>⟨"\n",l,Zu ps,rfl,rfl,SqL.of el,UP ho hh hm,q H' s'⟩⟩
end
end K68
set_option maxHeartbeats 2000000
namespace L2
open PySem PySem.W PySem.Spec PyProof.Rows
theorem Zbm:∀(k:Nat)(ps:List Str),Vals (ps.map V.str) (strsFrom k ps)
 | _,[]=>.nil
 | k,p::r=>.cons ⟨k,rfl⟩ (Zbm (k+1) r)
section
variable {X:Cx}
theorem Zgb (z y:Str):(Txt.split z y).length≤z.length+2:=PyProof.Rows.split_le z y
theorem Zcl:MtR X "str.split" (fun x xs H Q=>∃ z y,x=.str z∧xs=[.str y]∧1≤y.length∧z.length≤1000000∧∀ l,H l=none→Q (.ref l) (upd H l (.lst ((Txt.split z y).map V.str)))):=by
 intro pins s σ H x xs v us Q I rx rv h
 obtain ⟨z,y,rfl,rfl,hy,hz,q⟩:=h
 obtain ⟨t,rfl⟩:=rx
 obtain ⟨u,rfl,t',rfl⟩:=YS rv
 have q:=q _ I.fresh
 have few:=Zgb z y
 have hy0:(y.length == 0)=false:=by simpa using Nat.ne_of_gt hy
 have hs:z.length≤sizeLine:=by rw [sizeLine_eq];omega
 have lay:∀ (vs:List Value) (tk:Nat),Vals ((Txt.split z y).map V.str) vs→EP X pins σ Q (.ref s.heap.objs.size) { s with heap:=s.heap.push { cls:=.type "list",data:=.seq vs.toArray },toks:=tk }:=fun vs tk r =>
   ⟨.ref s.heap.objs.size,_,I.laid (t':=tk) (fun b o e=>Heap.get?_push_of_some _ e) (Nat.le_refl _) (show ObjOk X.prog X.w _ _ _ (.lst ((Txt.split z y).map V.str)) from ⟨by rw [List.length_map,sizeLine_eq];omega,vs,0,r,Heap.get?_push_size _ rfl⟩),rfl,q⟩
 cases h1:(decide (z.length < y.length) || decide (Builtin.Str.strKind z < Builtin.Str.strKind y)) with
 | true =>
   have e:Txt.split z y=[z]:=if_pos h1
   exact call_meets F.slot_str_split (typeIs_str _ _ _) F.entry_str_split (F.args_str_split_2 _ _) (meets_str_split_cannot_occur z y t t' h1) (lay [.str z t] s.toks (by rw [e];exact .cons ⟨_,rfl⟩ .nil))
 | false =>
   cases hf:(Builtin.Str.occurrences z y 0 z.length (z.length+1)).isEmpty with
   | true =>
     have e:Txt.split z y=[z]:=(if_neg (by rw [h1];decide)).trans (if_pos hf)
     exact call_meets F.slot_str_split (typeIs_str _ _ _) F.entry_str_split (F.args_str_split_2 _ _) (meets_str_split_not_found z y t t' h1 hy0 hf) (lay [.str z t] s.toks (by rw [e];exact .cons ⟨_,rfl⟩ .nil))
   | false =>
     have e:Txt.split z y=Builtin.Str.partsBetween z (Builtin.Str.occurrences z y 0 z.length (z.length+1)) y.length:=(if_neg (by rw [h1];decide)).trans (if_neg (by rw [hf];decide))
     rw [e] at lay few
     exact call_meets F.slot_str_split (typeIs_str _ _ _) F.entry_str_split (F.args_str_split_2 _ _) (meets_str_split_sep z y t t' h1 hy0 hf hs (by rw [sizeLine_eq];omega)) (lay _ _ (Zbm _ _))
theorem UT:MtR X "str.startswith" (fun x xs H Q=>∃ z y,x=.str z∧xs=[.str y]∧Q (.bl (Txt.startswith z y)) H):=by
 intro pins s σ H x xs v us Q I rx rv h
 obtain ⟨z,y,rfl,rfl,q⟩:=h
 obtain ⟨t,rfl⟩:=rx
 obtain ⟨u,rfl,t',rfl⟩:=YS rv
 exact SC.startswith ⟨.bl _,H,I,rfl,q⟩
theorem ZfV:MtR X "str.lstrip" (fun x xs H Q=>∃ z y,x=.str z∧xs=[.str y]∧z.length≤1000000∧Q (.str (Txt.lstripChars z y)) H):=by
 intro pins s σ H x xs v us Q I rx rv h
 obtain ⟨z,y,rfl,rfl,hz,q⟩:=h
 obtain ⟨t,rfl⟩:=rx
 obtain ⟨u,rfl,t',rfl⟩:=YS rv
 exact SC.lstripChars (fun t1 k=>⟨.str _,H,I.tok k,⟨_,rfl⟩,q⟩) (by rw [sizeLine_eq];omega)
def Zlg (K:PySem.W.Frag)(ga gb:TG):TG:=fun v σ H Q=>∃ l x xs,v=.ref l∧SqL K H l (x::xs)∧xs.length≤1000000∧∀ D,H D=none→ga x σ (upd H D (.lst xs)) fun σ1 H1=>gb (.ref D) σ1 H1 Q
theorem ZiN {a b:Expr}{k:Nat}{p pos:Pos}{ga gb:TG}(hc:X.calm=true)(ha:PG X a ga)(hb:PG X b gb)(hn:(assignEach [a,.Starred b p] X.env)=[(false,assign a X.env),(true,assign b X.env)]:=by rfl):PG X (.Tuple [a,.Starred b p] k pos) (Zlg X.K ga gb):=by
 intro pins s σ H v u Q I r hw
 obtain ⟨l,x,xs,rfl,hq,hz,hw⟩:=hw
 cases r
 obtain ⟨its,rv,pl,_⟩:=I.list hq
 cases rv with
 | @cons _ u0 _ us r0 rr =>
 have hl:=pl.isList
 have hne:l≠s.heap.objs.size:=by obtain ⟨o,ho,_⟩:=hl;exact Nat.ne_of_lt (Heap.lt_size ho)
 have hlen:us.length=xs.length:=rr.length.symm
 have hh:=I.ok.hd hc
 rw [assign_Tuple]
 refine wpAny_bind (wpAny_standAt ?_)
 unfold unpack
 rw [hn]
 refine wpAny_bind (wpAny_holding ?_)
 show wpAny _ _ (unpackItems (.ref l) 2 (some 1)) _ _ s
 unfold unpackItems
 refine wpAny_bind ?_
 unfold notIterableAtAll
 refine wpAny_bind (wpAny_specialOf hl.typeIs slot_list_iter.lookup (wpAny_pure ?_))
 simp only [Bool.false_eq_true,if_false]
 refine wpAny_bind (wpAny_holding (wpAny_pyIter_list hl ?_))
 refine wpAny_bind (wpAny_holding (kun_draw hne 1 0 _ _ ⟨_,Heap.get?_push_size _ rfl,rfl,rfl⟩ (hl.push _) (by simp) fun h1 it1 sb1=>?_))
 have hl1:h1.IsList l (u0::us).toArray:=(hl.push _).extBut sb1.extBut hne
 have e1:List.take 1 (List.drop 0 (u0::us).toArray.toList)=[u0]:=rfl
 rw [e1,if_neg (show ¬ ([u0].length < 1) from Nat.lt_irrefl 1)]
 obtain ⟨oi,hoi,_⟩:=id it1
 obtain ⟨ol,hol,_⟩:=id hl1
 refine wpAny_bind (wpAny_holding (kun_collect (s:={ s with heap:=h1 }) (T:="list_iterator") (.inr (.inr (.inl rfl))) (Walks.list (A:=X.A.in1) hh s.heap.objs.size l hne (u0::us).toArray) (fun j u st=>st.1.typeIs) (k:=1) (by simp) ⟨it1,hl1⟩ (Heap.lt_size hoi) (Heap.lt_size hol) (fun h2 tk kp=>?_) (by rw [sizeLine_eq,List.size_toArray,List.length_cons];omega)))
 have e2:List.drop 1 (u0::us).toArray.toList=us:=rfl
 rw [e2]
 simp only [Nat.reduceSub,Nat.not_lt_zero,if_false,Nat.sub_zero,List.take_length,List.drop_length]
 have kp2:∀ b o,s.heap.get? b=some o→h2.get? b=some o:=fun b o e=>kp b o (Nat.ne_of_lt (Heap.lt_size e)) (sb1.extBut b o (Nat.ne_of_lt (Heap.lt_size e)) (Heap.get?_push_of_some _ e))
 refine wpAny_bind (wpAny_newList (wpAny_pure ?_) (by rw [sizeLine_eq];omega))
 have I2:Inv X pins σ H { s with heap:=h2,toks:=tk }:=I.kept kp2
 have I3:Inv X pins σ (upd H h2.objs.size (.lst xs)) { s with heap:=h2.push { cls:=.type "list",data:=.seq us.toArray },toks:=tk } :=
   I2.laid (t':=tk) (fun b o e=>Heap.get?_push_of_some _ e) (Nat.le_refl _) (show ObjOk X.prog X.w _ _ _ (.lst xs) from ⟨by rw [sizeLine_eq];omega,us,0,rr,Heap.get?_push_size _ rfl⟩)
 show wpAny _ _ (assignInOrder [assign a X.env,assign b X.env] [u0,.ref h2.objs.size]) _ _ _
 refine assignInOrder_cons (Zm (ha pins _ σ _ _ _ _ I3 r0 (hw _ I2.fresh)) fun _ s1 ⟨σ1,H1,I4,q1⟩=>?_)
 refine assignInOrder_cons (Zm (hb pins s1 σ1 H1 (.ref h2.objs.size) _ _ I4 rfl q1) fun _ s2 ⟨σ2,H2,I5,q2⟩=>?_)
 exact assignInOrder_nil ⟨σ2,H2,I5,q2⟩
end
end L2
set_option maxHeartbeats 2000000
namespace L2
open PySem PySem.Spec PyProof.Rows
theorem Zdo {c:Nat}:∀{a b r s:List Nat},c ∉ a→c ∉ b→a++c::r=b++c::s→a=b∧r=s
 | [],[],_,_,_,_,h=>⟨rfl,by injection h⟩
 | [],y::b,_,_,_,hb,h=>by injection h with h1 h2;exact absurd (h1 ▸ List.mem_cons_self ..) hb
 | x::a,[],_,_,ha,_,h=>by injection h with h1 h2;exact absurd (h1 ▸ List.mem_cons_self ..) ha
 | x::a,y::b,_,_,ha,hb,h=>by
   injection h with h1 h2
   obtain ⟨e1,e2⟩:=Zdo (fun m=>ha (List.mem_cons_of_mem _ m)) (fun m=>hb (List.mem_cons_of_mem _ m)) h2
   exact ⟨by rw [h1,e1],e2⟩
theorem YC (c:Nat)(a b:Str)(r:List Str):(Str.join ⟨#[c]⟩ (a::b::r)).cps.toList=a.cps.toList++c::(Str.join ⟨#[c]⟩ (b::r)).cps.toList:=by
 show (a++⟨#[c]⟩++Str.join ⟨#[c]⟩ (b::r)).cps.toList=_
 rw [YZ,YZ,List.append_assoc];rfl
theorem ZcB {c:Nat}:∀{A B:List Str},A≠[]→B≠[]→(∀ p∈A,c ∉ p.cps.toList)→(∀ p∈B,c ∉ p.cps.toList)→Str.join ⟨#[c]⟩ A=Str.join ⟨#[c]⟩ B→A=B
 | [],_,h,_,_,_,_=>absurd rfl h
 | _,[],_,h,_,_,_=>absurd rfl h
 | [a],[b],_,_,_,_,h=>by have:a=b:=h;rw [this]
 | [a],b::b2::B,_,_,ha,_,h=>by
   have e:=congrArg (fun s:Str=>s.cps.toList) h
   have e:a.cps.toList=_:=e
   rw [YC] at e
   exact absurd (by rw [e];exact List.mem_append_right _ (List.mem_cons_self ..)) (ha a (List.mem_cons_self ..))
 | a::a2::A,[b],_,_,_,hb,h=>by
   have e:=congrArg (fun s:Str=>s.cps.toList) h.symm
   have e:b.cps.toList=_:=e
   rw [YC] at e
   exact absurd (by rw [e];exact List.mem_append_right _ (List.mem_cons_self ..)) (hb b (List.mem_cons_self ..))
 | a::a2::A,b::b2::B,_,_,ha,hb,h=>by
   have e:=congrArg (fun s:Str=>s.cps.toList) h
   have e:(Str.join ⟨#[c]⟩ (a::a2::A)).cps.toList=(Str.join ⟨#[c]⟩ (b::b2::B)).cps.toList:=e
   rw [YC,YC] at e
   obtain ⟨e1,e2⟩:=Zdo (ha a (List.mem_cons_self ..)) (hb b (List.mem_cons_self ..)) e
   rw [Yw e1,ZcB (A:=a2::A) (B:=b2::B) (by simp) (by simp) (fun p hp=>ha p (List.mem_cons_of_mem _ hp)) (fun p hp=>hb p (List.mem_cons_of_mem _ hp)) (Yw e2)]
theorem Wh (x y:Str):Txt.split x y≠[]:=fun e=>by have:=split_pos x y;rw [e] at this;simp at this
theorem UE {c:Nat}{L:List Str}(h:L≠[])(hf:∀ p∈L,c ∉ p.cps.toList):Txt.split (Str.join ⟨#[c]⟩ L) ⟨#[c]⟩=L :=
 ZcB (Wh _ _) h (StrLaws.split_free _ c) hf (StrLaws.join_split _ _)
theorem ZbX {c:Nat}:∀{A B:List Str},A≠[]→B≠[]→Str.join ⟨#[c]⟩ (A++B)=Str.join ⟨#[c]⟩ A++⟨#[c]⟩++Str.join ⟨#[c]⟩ B
 | [],_,h,_=>absurd rfl h
 | [a],b::B,_,_=>rfl
 | _,[],_,h=>absurd rfl h
 | a::a2::A,b::B,_,_=>by
   apply Yw
   have ih:=ZbX (c:=c) (A:=a2::A) (B:=b::B) (by simp) (by simp)
   show (Str.join ⟨#[c]⟩ (a::a2::(A++b::B))).cps.toList=_
   rw [YC,show a2::(A++b::B)=(a2::A)++b::B from rfl,ih]
   simp only [YZ,YC,List.append_assoc];rfl
theorem ZbH {c:Nat}:∀{A:List Str},Str.join ⟨#[c]⟩ (A.flatMap fun w=>Txt.split w ⟨#[c]⟩)=Str.join ⟨#[c]⟩ A
 | []=>rfl
 | [a]=>by show Str.join _ (Txt.split a _++[])=a;rw [List.append_nil];exact StrLaws.join_split _ _
 | a::b::A=>by
   have ih:=ZbH (c:=c) (A:=b::A)
   have ne:(b::A).flatMap (fun w=>Txt.split w ⟨#[c]⟩)≠[]:=fun e=>Wh b ⟨#[c]⟩ (List.append_eq_nil_iff.mp e).1
   rw [List.flatMap_cons,ZbX (Wh _ _) ne,ih,StrLaws.join_split];rfl
theorem Zdf {c:Nat}{A:List Str}(h:A≠[]):Txt.split (Str.join ⟨#[c]⟩ A) ⟨#[c]⟩=A.flatMap fun w=>Txt.split w ⟨#[c]⟩:=by
 have ne:A.flatMap (fun w=>Txt.split w ⟨#[c]⟩)≠[]:=by
   cases A with
   | nil=>exact absurd rfl h
   | cons a A=>exact fun e=>Wh a ⟨#[c]⟩ (List.append_eq_nil_iff.mp e).1
 rw [← ZbH,UE ne]
 intro p hp
 obtain ⟨w,_,hw⟩:=List.mem_flatMap.mp hp
 exact StrLaws.split_free w c p hw
theorem Ve {c:Nat}{x:Str}(h:c ∉ x.cps.toList):Txt.split x ⟨#[c]⟩=[x]:=by
 have:=UE (c:=c) (L:=[x]) (by simp) (by simpa using h);exact this
theorem ZdD (p:Nat→Bool):∀ l:List Nat,l.drop (l.takeWhile p).length=l.dropWhile p
 | []=>rfl
 | a::r=>by
   rw [List.takeWhile_cons,List.dropWhile_cons]
   split
   · rw [List.length_cons,List.drop_succ_cons];exact ZdD p r
   · rfl
theorem ZcP (x y:Str):(Txt.lstripChars x y).cps.toList=x.cps.toList.dropWhile fun k=>y.cps.contains k:=by
 have e:=stripBy_eq y.cps.contains true false x
 show (Txt.stripBy y.cps.contains true false x).cps.toList=_
 rw [e]
 show (x.cps.extract (x.cps.toList.takeWhile y.cps.contains).length x.length).toList=_
 rw [Array.toList_extract,List.extract_eq_take_drop,← ZdD]
 apply List.take_of_length_le
 rw [List.length_drop,ZM];exact Nat.le_refl _
theorem bl1:(Str.ofString " ")=⟨#[32]⟩:=by decide +kernel
theorem lf1:(Str.ofString "\n")=⟨#[10]⟩:=by decide +kernel
theorem qu1:(Str.ofString "'")=⟨#[39]⟩:=by decide +kernel
theorem mi1:(Str.ofString "-")=⟨#[45]⟩:=by decide +kernel
theorem sl1:(Str.ofString "\\")=⟨#[92]⟩:=by decide +kernel
theorem ZaE (x:Str)(c:Nat):Txt.startswith x ⟨#[c]⟩=decide (x.cps.toList.head?=some c):=by
 show (decide (0+1≤x.length)&&(x.cps.extract 0 (0+1) == #[c]))=_
 rw [Bool.eq_iff_iff,decide_eq_true_eq,Bool.and_eq_true,decide_eq_true_eq,beq_iff_eq,ZM]
 have e:x.cps.extract 0 (0+1)=#[c]↔x.cps.toList.take 1=[c]:=by
   constructor
   · intro h
     have:=congrArg Array.toList h
     simpa [Array.toList_extract,List.extract_eq_take_drop] using this
   · intro h
     apply Array.toList_inj.mp
     simpa [Array.toList_extract,List.extract_eq_take_drop] using h
 rw [e]
 cases x.cps.toList with
 | nil=>simp
 | cons a r=>simp
def Xv:Bool→List Nat→List Nat
 | _,[]=>[]
 | b,k::r=>if (decide (k=92)&&!b)=true then Xv true r else k::Xv false r
theorem ZdW:∀ l:List Nat,Xv false (Xh l)=l
 | []=>rfl
 | k :: r=>by
   have ih:=ZdW r
   have e:Xh (k::r)=(if k=39∨k=92 then [92,k] else [k])++Xh r:=rfl
   rw [e]
   by_cases h:k=39∨k=92
   · rw [if_pos h]
     show Xv false (92::k::Xh r)=_
     rw [Xv,if_pos (by decide),Xv,if_neg (by simp),ih]
   · rw [if_neg h]
     show Xv false (k::Xh r)=_
     rw [Xv,if_neg (by simp;intro z;exact h (.inr z)),ih]
theorem Zbc:∀(b:Bool)(l:List Nat),(Xv b l).length≤l.length
 | _,[]=>Nat.le_refl _
 | b,k::r=>by
   rw [Xv]
   split
   · exact Nat.le_trans (Zbc _ r) (Nat.le_succ _)
   · rw [List.length_cons,List.length_cons];exact Nat.succ_le_succ (Zbc _ r)
def WO (c:Nat):Bool:=decide (48≤c)&&decide (c≤57)
def YN (w:Str):List Nat:=if w.cps.toList.head?=some 45 then w.cps.toList.drop 1 else w.cps.toList
def Vh (w:Str)(most:Nat):Option Int :=
 if 1≤(YN w).length∧(YN w).length≤most∧(YN w).all WO=true then (if Str.ofString (toString ((PySem.intText? w).getD 0))=w then some ((PySem.intText? w).getD 0) else none) else none
theorem WL {l:List Nat}(h:l.all WO=true):NumText.AllDigits l:=fun c hc=>by
 have:=List.all_eq_true.mp h c hc
 unfold WO at this
 simpa using this
theorem Zin:∀(cs:List Nat)(acc:Nat),NumText.AllDigits cs→cs.foldl (fun a c=>a * 10+(c - 48)) acc < (acc+1) * 10 ^ cs.length
 | [],acc,_=>by simp
 | c::cs,acc,h=>by
   have ih:=Zin cs (acc * 10+(c - 48)) h.tail
   have hc:=h.head
   rw [List.foldl_cons,List.length_cons,Nat.pow_succ]
   refine Nat.lt_of_lt_of_le ih ?_
   rw [Nat.mul_comm (10 ^ cs.length) 10,← Nat.mul_assoc]
   exact Nat.mul_le_mul_right _ (by omega)
theorem ZfW {cs:List Nat}(h:NumText.AllDigits cs)(hl:cs.length≤300):(NumText.digitsVal cs).log2 < 1920:=by
 by_cases h0:NumText.digitsVal cs=0
 · rw [h0];decide
 · refine (Nat.log2_lt h0).mpr (Nat.lt_of_lt_of_le (Zin cs 0 h) ?_)
   rw [Nat.zero_add,Nat.one_mul]
   exact Nat.le_trans (Nat.pow_le_pow_right (by decide) hl) (by decide +kernel)
theorem Zet {w:Str}(h1:1≤(YN w).length)(h2:(YN w).length≤300)(h3:(YN w).all WO=true):∃ n,PySem.intText? w=some n∧w.length≤640∧n.natAbs.log2 < 1920:=by
 unfold YN at h1 h2 h3
 have hl:w.length=w.cps.toList.length:=ZM w
 split at h1
 · rename_i hh
   rw [if_pos hh] at h2 h3
   cases e:w.cps.toList with
   | nil=>rw [e] at hh;cases hh
   | cons a r =>
     rw [e] at hh h1 h2 h3 hl
     cases hh
     have hl:w.length=r.length+1:=hl
     simp only [List.drop_succ_cons,List.drop_zero] at h1 h2 h3
     exact ⟨_,PySem.intText_neg e (WL h3) (by rintro rfl;simp at h1) (by omega),by omega,by rw [Int.natAbs_neg,Int.natAbs_natCast];exact ZfW (WL h3) h2⟩
 · rename_i hh
   rw [if_neg hh] at h2 h3
   exact ⟨_,PySem.intText_digits (WL h3) (by intro z;rw [z] at h1;simp at h1) (by omega),by omega,by rw [Int.natAbs_natCast];exact ZfW (WL h3) h2⟩
theorem Vw (m:Nat):(Uc m).all WO=true:=List.all_eq_true.mpr fun c hc=>by have:=VZ hc;unfold WO;simp;omega
theorem Zds (m:Nat):1≤(Uc m).length:=by
 cases e:Uc m with
 | nil =>
   have z:Nat.toDigits 10 m=[]:=List.map_eq_nil_iff.mp e
   exact absurd z Nat.toDigits_ne_nil
 | cons a r=>simp
theorem Zcy {i:Int}(h:i.natAbs < 10 ^ 30):1≤(YN (Str.ofString (toString i))).length∧(YN (Str.ofString (toString i))).length≤30∧(YN (Str.ofString (toString i))).all WO=true∧PySem.intText? (Str.ofString (toString i))=some i:=by
 have hl:(Str.ofString (toString i)).length=(Str.ofString (toString i)).cps.toList.length:=ZM _
 obtain ⟨m,⟨e,rfl⟩ | ⟨e,rfl⟩⟩:=ZbD i
 · have hm:(Uc m).length≤30:=ZdS (k:=29) (by omega)
   have hp:=Zds m
   have hh:¬ (Uc m).head?=some 45:=fun z=>by
     cases ed:Uc m with
     | nil=>rw [ed] at z;cases z
     | cons a r=>rw [ed] at z;cases z;have:=VZ (m:=m) (c:=45) (by rw [ed];exact List.mem_cons_self ..);omega
   unfold YN
   rw [e,if_neg hh]
   rw [e] at hl
   refine ⟨hp,hm,Vw m,?_⟩
   rw [PySem.intText_digits (by rw [e];exact WL (Vw m)) (by rw [e];intro z;rw [z] at hp;simp at hp) (by omega),e,ZdT]
 · have hm:(Uc m).length≤30:=ZdS (k:=29) (by omega)
   have hp:=Zds m
   unfold YN
   rw [e] at hl ⊢
   rw [if_pos (show (45::Uc m).head?=some 45 from rfl)]
   simp only [List.drop_succ_cons,List.drop_zero]
   refine ⟨hp,hm,Vw m,?_⟩
   rw [PySem.intText_neg e (WL (Vw m)) (by intro z;rw [z] at hp;simp at hp) (by rw [hl,List.length_cons];omega),ZdT]
theorem ZgL {i:Int}(h:i.natAbs < 10 ^ 30):Vh (Str.ofString (toString i)) 30=some i:=by
 obtain ⟨h1,h2,h3,h4⟩:=Zcy h
 unfold Vh
 rw [if_pos ⟨h1,h2,h3⟩,h4,Option.getD_some,if_pos rfl]
def XX (w:Str):Str:=⟨(Xv false (w.cps.toList.drop 1).dropLast).toArray⟩
def WT (w:Str):Option V :=
 if w.cps.toList.head?=some 39 then (if (XX w).length≤40∧(XX w).cps.toList.all Yz=true∧Yr (.str (XX w))=w then some (.str (XX w)) else none)
 else (Vh w 30).map V.int
theorem Zgk {v:V}(h:IsVal v):WT (Yr v)=some v:=by
 cases v with
 | int i =>
   obtain ⟨h1,h2,h3,h4⟩:=Zcy (show i.natAbs < 10 ^ 30 from h)
   show WT (Str.ofString (toString i))=_
   unfold WT
   rw [if_neg,ZgL h];rfl
   intro z
   have:(39:Nat)∈(Str.ofString (toString i)).cps.toList:=List.mem_of_mem_head? z
   have:=ZfD this;omega
 | str x =>
   have e:XX (Yr (.str x))=x:=by
     apply Yw
     show Xv false ((39::Xh x.cps.toList++[39]).drop 1).dropLast=_
     simp only [List.cons_append,List.drop_succ_cons,List.drop_zero,List.dropLast_concat]
     exact ZdW _
   unfold WT
   rw [e,if_pos (show (Yr (.str x)).cps.toList.head?=some 39 from rfl),if_pos ⟨h.1,h.2,rfl⟩]
 | _=>exact h.elim
theorem ZjC (x:Str):(Txt.slice x (some 1) none).cps.toList=x.cps.toList.drop 1:=by
 rw [XD]
 have hl:=ZM x
 have e1:HT.sIx x.length 0 (some 1)=min 1 x.length:=by
   unfold HT.sIx
   simp only [show ¬ (1:Int) < 0 by decide,if_false]
   omega
 have e2:HT.sIx x.length x.length none=x.length:=rfl
 rw [e1,e2]
 cases e:x.cps.toList with
 | nil=>simp
 | cons a r =>
   rw [e] at hl
   have hl:x.length=r.length+1:=hl
   rw [show min 1 x.length=1 by omega,hl]
   simp
theorem Zhz (x:Str):(Txt.slice x (some 1) (some (-1))).cps.toList=(x.cps.toList.drop 1).dropLast:=by
 rw [XD]
 have hl:=ZM x
 have e1:HT.sIx x.length 0 (some 1)=min 1 x.length:=by
   unfold HT.sIx
   simp only [show ¬ (1:Int) < 0 by decide,if_false]
   omega
 have e2:HT.sIx x.length x.length (some (-1))=x.length - 1:=by
   unfold HT.sIx
   simp only [show (-1:Int) < 0 by decide,if_true]
   omega
 rw [e1,e2,List.dropLast_eq_take,List.length_drop,← hl]
 cases e:x.cps.toList with
 | nil=>simp
 | cons a r =>
   rw [e] at hl
   have hl:x.length=r.length+1:=hl
   rw [show min 1 x.length=1 by omega]
end L2
set_option maxHeartbeats 2000000
namespace L2
open PySem PySem.Spec PyProof.Rows
theorem ZhK {prog:Program}{w:World}{A:Around}{it:Addr}{fp:List Addr}{n k:Nat}{P:Nat→Value→Prop}{St:Nat→Heap→Prop}(D:Draws prog w A it fp n P St) :
   Draws prog w A it fp (n+k) (fun i v=>∃ j,i=j+k∧P j v) (fun i h=>∃ j,i=j+k∧St j h) where
 live:=fun i h ⟨j,_,st⟩=>D.live j h st
 frame:=fun i h h' ⟨j,e,st⟩ kp=>⟨j,e,D.frame j h h' st kp⟩
 item:=fun i s Q E hi ⟨j,e,st⟩ hQ=>by
   subst e
   exact D.item j s Q E (by omega) st fun x h' tk p st' sb=>hQ x h' tk ⟨j,rfl,p⟩ ⟨j+1,by omega,st'⟩ sb
 done:=fun s Q E ⟨j,e,st⟩ hE=>by
   have:n=j:=by omega
   subst this
   exact D.done s Q E st hE
theorem Zfh {prog:Program}{w:World}{A:Around}(hh:A.handled=none)(it l:Addr)(items:Array Value)(i:Nat)(hi:items[i]?=none) :
   Draws prog w A.in1 it [it,l] 0 (fun _ _=>False) (fun _ h=>h.IsListIter it l i∧h.IsList l items) where
 live:=fun _ _ st=>let ⟨o,ho,_⟩:=st.1;⟨o,ho⟩
 frame:=fun _ _ _ st kp=>⟨st.1.at fun o e=>kp it (by simp) o e,st.2.at fun o e=>kp l (by simp) o e⟩
 item:=fun j _ _ _ hj=>absurd hj (Nat.not_lt_zero _)
 done:=fun s Q E st hE=>PySem.wpAny_nextOf_list_end hh st.1 st.2 hi hE
theorem Zaw (l:Addr)(items:Array Value)(n:Nat)(k:Int)(t1:Tok)(hk:Builtin.SmallTypes.fitsIndex k=true) :
   Meets (Builtin.«enumerate.__new__» ⟨[.type "enumerate",.ref l],[("start",.int k t1)]⟩) (fun _ R s=>s.heap.get? l=some { cls:=.type "list",dict:=none,data:=.seq items n,slots:=#[] } ∧
     R (.ok (.ret (.ref (s.heap.push { cls:=.type "list_iterator",data:=.fields #[.ref l,.int 0 0] }).objs.size)))
       { s with heap:=(s.heap.push { cls:=.type "list_iterator",data:=.fields #[.ref l,.int 0 0] }).push { cls:=.type "enumerate",data:=.fields #[.none,.bool false,.ref s.heap.objs.size,rawInt k,.none,.none] } }) :=
 .of_wp fun prog w A R s h=>by
   obtain ⟨hp,g,d,tk,os⟩:=s
   obtain ⟨hl,h⟩:=h
   have sub1:=sub_enumerate
   have hL:Heap.IsList (Shared.heap ⟨hp,g,d,tk,os⟩) l items:=⟨_,hl,rfl,n,rfl⟩
   wp_walk using wpAny_loadPart' hl
   have hk2:¬ (!Builtin.SmallTypes.fitsIndex k)=true:=by rw [hk];decide
   refine wpAny_stack_any fun st=>wpAny_pure ?_
   split
   · rename_i c _ _ _ _ _
     cases (c == Value.type "enumerate")<;>(wp_walk using wpAny_loadPart' hl,wpAny_pyIter_list hL;exact ⟨_,rfl,h⟩)
   · wp_walk using wpAny_loadPart' hl,wpAny_pyIter_list hL
     exact ⟨_,rfl,h⟩
section
variable {prog:Program}{w:World}{A:Around}{E:Value→Shared→Prop}{s:Shared}
theorem ZaG {l:Addr}{items:Array Value}{n:Nat}{k:Int}{t1:Tok}{Q:Value→Shared→Prop}(hk:Builtin.SmallTypes.fitsIndex k=true)(hl:s.heap.get? l=some { cls:=.type "list",dict:=none,data:=.seq items n,slots:=#[] })
   (h:∀ h',IsEnum h' (s.heap.objs.size+1) s.heap.objs.size k .none→h'.IsListIter s.heap.objs.size l 0→h'.objs.size=s.heap.objs.size+2 →
     (∀ b o,s.heap.get? b=some o→h'.get? b=some o)→Q (.ref (s.heap.objs.size+1)) { s with heap:=h' }) :
   wpAny (model prog w) A (call (.type "enumerate") [.ref l] [("start",.int k t1)]) Q E s:=by
 have ft:=F.called_enumerate
 refine ZcS (Q₁:=fun obj s₁=>s₁.TypeIs obj "enumerate"∧Q obj s₁) ft (UV _ _) (UZ _ _) F.entry_enumerate_new F.entry_object_init (Zaw l items n k t1 hk) ?_
   (fun obj s₁ hq=>⟨hq.1,Zap obj _ _,_,ZaI ft.init.lookup ft.made (by decide),hq.1,rfl,hq.2⟩)
 refine ⟨hl,?_⟩
 generalize hO:({ cls:=.type "list_iterator",data:=.fields #[.ref l,.int 0 0] }:Obj)=O
 have hz:(s.heap.push O).objs.size=s.heap.objs.size+1:=Heap.size_push ..
 generalize hO2:({ cls:=.type "enumerate",data:=.fields #[.none,.bool false,.ref s.heap.objs.size,rawInt k,.none,.none] }:Obj)=O2
 have he:((s.heap.push O).push O2).get? (s.heap.objs.size+1)=some O2:=by
   have e:=Heap.get?_push_size (s.heap.push O) (o:=O2) (by rw [← hO2];rfl)
   rw [hz] at e;exact e
 have hi:((s.heap.push O).push O2).get? s.heap.objs.size=some O:=Heap.get?_push_of_some _ (Heap.get?_push_size _ (by rw [← hO];rfl))
 have key:Shared.TypeIs { s with heap:=(s.heap.push O).push O2 } (.ref (s.heap.objs.size+1)) "enumerate"∧Q (.ref (s.heap.objs.size+1)) { s with heap:=(s.heap.push O).push O2 } :=
   ⟨⟨O2,he,by rw [← hO2]⟩,h _ (by rw [← hO2] at he ⊢;exact he) ⟨O,hi,by rw [← hO],by rw [← hO];rfl⟩ (by rw [Heap.size_push,hz]) fun b o y=>Heap.get?_push_of_some _ (Heap.get?_push_of_some _ y)⟩
 rw [← hz] at key
 exact key
end
def VY (K:PySem.W.Frag)(a:Addr)(k:Nat):It :=
 ⟨fun i H=>∃ xs x,SqL K H a xs∧xs[i]?=some x,fun i H v H'=>∃ t x,H t=none∧(∀ xs,SqL K H a xs→xs[i]?=some x)∧v=.ref t∧H'=upd H t (.tup [.int ((i+k:Nat):Int),x]),fun i H=>∃ xs,SqL K H a xs∧xs.length≤i⟩
theorem Zeb {P:Program}{w:World}{K:PySem.W.Frag}{elts:List Expr}{x1:Nat}{tp:Pos}(k:Nat)(a e it:Addr)(hne:e≠it)(hai:a≠it)(hae:a≠e) :
   Wm P w K (.Tuple elts x1 tp) (VY K a k) [e,it] e (fun i h=>(∃ old,IsEnum h e it ((i+k:Nat):Int) old)∧h.IsListIter it a i) where
 mem:=by simp
 obj:=fun i h st b hb=>by
   obtain ⟨⟨old,he⟩,⟨o,ho,c,d⟩⟩:=st
   rcases List.mem_cons.mp hb with q | hb
   · rw [q];exact ⟨_,he,fun v z=>by cases z⟩
   · rw [List.mem_singleton.mp hb];exact ⟨o,ho,fun v z=>by rw [d] at z;cases z⟩
 keep:=fun i h h' st kp=>by
   obtain ⟨⟨old,he⟩,st⟩:=st
   exact ⟨⟨old,kp e (by simp) _ he⟩,st.at fun o y=>kp it (by simp) o y⟩
 item:=by
   intro X hP hw hK hc i pins s σ H E I hf st hg
   subst hP hw hK
   obtain ⟨⟨old,he⟩,hs⟩:=st
   obtain ⟨xs,x,hq,hx⟩:=hg
   obtain ⟨its,rv,p,hz⟩:=I.list hq
   obtain ⟨u,hu,ru⟩:=rv.get hx
   have hlt:i < its.toArray.size:=by
     have:=(List.getElem?_eq_some_iff.mp hu).1
     simpa using this
   have D:=ZhK (k:=k) (Draws.list (prog:=X.prog) (w:=X.w) (A:=X.A.in1) (I.ok.hd hc) it a hai its.toArray)
   refine wpAny_pyNext_enum_itemD (i:=i+k) D he ⟨i,rfl,hs,p.isList⟩ (by omega) hne (by simp [hne,Ne.symm hae]) fun v h' tk hP hOut hst hT hsz hk=>?_
   obtain ⟨j,ej,hP⟩:=hP
   have ej':i=j:=by omega
   subst ej'
   obtain ⟨j,ej,hst⟩:=hst
   have ej':i+1=j:=by omega
   subst ej'
   have ev:v=u:=by
     have:its[i]?=some v:=by simpa using hP
     rw [hu] at this;exact (Option.some.inj this).symm
   subst ev
   have hel:e < s.heap.objs.size:=Heap.lt_size he
   have hil:it < s.heap.objs.size:=by obtain ⟨o,ho,_⟩:=hs;exact Heap.lt_size ho
   refine ⟨_,rfl,wpAny_letOwnedTupleGo_enum hOut fun h2 he2 hs2=>?_⟩
   generalize hO:({ cls:=.type "tuple",data:=.seq #[.int ((i+k:Nat):Int) tk,v] }:Obj)=O at hT
   have I1:Inv X pins σ (upd H s.heap.objs.size (.tup [.int ((i+k:Nat):Int),x])) { s with heap:=s.heap.push O,toks:=tk+1 }:=by
     refine I.laid (t':=tk+1) (fun b o y=>Heap.get?_push_of_some _ y) (Nat.le_refl _) (show ObjOk X.prog X.w _ _ _ (.tup _) from ⟨by show 2≤sizeLine;decide,[.int ((i+k:Nat):Int) tk,v],.cons ⟨tk,rfl⟩ (.cons ru .nil),?_⟩)
     rw [← hO];exact IsTup.new _ _
   have hfree:=I.hok.fresh (Nat.le_refl s.heap.objs.size)
   have hf2:∀ b∈[e,it],Yg X pins (upd H s.heap.objs.size (.tup [.int ((i+k:Nat):Int),x])) b:=fun b hb=>by
     obtain ⟨f0,f1⟩:=hf b hb
     have hb':b≠s.heap.objs.size:=by
       rcases List.mem_cons.mp hb with q | hb
       · rw [q];exact Nat.ne_of_lt hel
       · rw [List.mem_singleton.mp hb];exact Nat.ne_of_lt hil
     exact ⟨by rw [Zo hb'];exact f0,f1⟩
   have I2:Inv X pins σ (upd H s.heap.objs.size (.tup [.int ((i+k:Nat):Int),x])) { s with heap:=h2,toks:=tk+1 }:=by
     refine I1.turned2 (t':=tk+1) (h':=h2) (fun b o hb y=>?_) hf2
     have hbe:b≠e:=fun q=>hb (by simp [q])
     have hbi:b≠it:=fun q=>hb (by simp [q])
     rw [hs2.2 b hbe]
     rcases Heap.get?_push_cases y with ⟨q1,q2⟩ | y
     · rw [q1,q2];exact hT
     · exact hk b o hbe hbi y
   refine ⟨.ref s.heap.objs.size,_,I2,rfl,⟨s.heap.objs.size,x,hfree,fun ys hy=>by rw [I.list_inj hy hq];exact hx,rfl,rfl⟩,⟨⟨_,by have:=he2;rw [show ((i+k:Nat):Int)+1=((i+1+k:Nat):Int) by omega] at this;exact this⟩,?_⟩,fun b hb=>(hf2 b hb).1⟩
   exact hst.1.at fun o y=>by rw [hs2.2 it hne.symm];exact y
 done:=by
   intro X hP hw hK hc i pins s σ H E I hf st hg
   subst hP hw hK
   obtain ⟨⟨old,he⟩,hs⟩:=st
   obtain ⟨xs,hq,hle⟩:=hg
   obtain ⟨its,rv,p,hz⟩:=I.list hq
   have hl:=rv.length
   obtain ⟨f0,f1,f2,f3,f4,f5⟩:=hf it (by simp)
   exact wpAny_pyNext_enum_endD (Zfh (I.ok.hd hc) it a its.toArray i (by simp;omega)) he ⟨hs,p.isList⟩ fun h' eb=>⟨rfl,I.turned (t':=s.toks) (fun b o hb y=>eb b o hb y) f0 f1 f3 f4 f5⟩
 self:=fun _ _ _ _ _ st h=>by
   obtain ⟨⟨old,he⟩,_⟩:=st
   exact wpAny_pyIter_enum he h
def ZkG (K:PySem.W.Frag)(tl tk:TE):TI:=fun σ H R=>tl σ H fun v H1=>∃ a,[v]=[V.ref a]∧tk σ H1 fun z H2=>∃(k:Nat)(xs:List V),[z]=[V.int (k:Int)]∧k≤1000000∧H2 a=some (.lst xs)∧R (VY K a k) H2
section
variable {X:Cx}
theorem ZgR {l ke:Expr}{tl tk:TE}{elts:List Expr}{x1:Nat}{tp p pos kpos:Pos}(hg:Gl X "enumerate")(hm:X.mg "enumerate"=none)(hl:PE X l tl)(hk:PE X ke tk)
   (he:starEach [l] X.env=[(false,eval l X.env)]:=by rfl):PI X (.Tuple elts x1 tp) (.Call (.Name "enumerate" p) [l] [⟨some "start",ke,kpos⟩] pos) (ZkG X.K tl tk):=by
 intro pins s σ H R I h
 have ha:PA X [l] (Yf tl YF):=ZX hl Za he
 have hk:PK X [⟨some "start",ke,kpos⟩] (Yf tk YF):=Zjw hk ZkO
 refine wpAny_Call_Name_kw (Xy I hg hm boot_enumerate (VM (by rw [he];rfl) rfl (evalArgs_kw2 rfl ?_ he)))
 refine Zm (ha pos pins s σ H (fun vs H1=>∃ a,vs=[V.ref a]∧tk σ H1 fun z H2=>∃ (k:Nat) (xs:List V),[z]=[V.int (k:Int)]∧k≤1000000∧H2 a=some (.lst xs)∧R (VY X.K a k) H2) I h) fun us s1 ⟨vs,H1,I1,r1,a,e,q⟩=>?_
 subst e
 obtain ⟨u,rfl,r⟩:=YS r1
 cases r
 refine Zm (hk pos pins s1 σ H1 (fun vs H2=>∃ (k:Nat) (xs:List V),vs=[V.int (k:Int)]∧k≤1000000∧H2 a=some (.lst xs)∧R (VY X.K a k) H2) I1 q) fun ws s2 ⟨zs,H2,I2,r2,k,xs,e1,hk2,ea,q⟩=>?_
 subst e1
 obtain ⟨u',rfl,t',rfl⟩:=YS r2
 obtain ⟨z,its,n,rv,hll,eo⟩:=I2.lstM ea
 have hal:a < s2.heap.objs.size:=Heap.lt_size eo
 refine ZaG (by unfold Builtin.SmallTypes.fitsIndex;simp;omega) eo fun h' hE hit hsz hkk=>wpAny_pyIter_enum hE ?_
 refine ⟨s2.heap.objs.size+1,[s2.heap.objs.size+1,s2.heap.objs.size],_,_,H2,rfl,I2.kept (t':=s2.toks) hkk,Zeb k a _ _ (Nat.succ_ne_self _) (Nat.ne_of_lt hal) (Nat.ne_of_lt (Nat.lt_succ_of_lt hal)),⟨⟨_,by rw [Nat.zero_add];exact hE⟩,hit⟩,fun b hb=>?_,q⟩
 rcases List.mem_cons.mp hb with z | hb
 · rw [z];exact I2.fpOk (Nat.le_succ _) (I2.hok.fresh (Nat.le_succ _))
 · rw [List.mem_singleton.mp hb];exact I2.fpOk (Nat.le_refl _) (I2.hok.fresh (Nat.le_refl _))
end
theorem Zgu {K:PySem.W.Frag}{a:Addr}{k:Nat}{xs:List V}{g:TG}{tb:TS}{D:WB}{σ:St}{H:Hp}(Pv:Nat→St→Hp→Prop)(h0:Pv 0 σ H)(hl:∀ i σ H,i≤xs.length→Pv i σ H→SqL K H a xs)
   (hs:∀ i x t σ H,xs[i]?=some x→H t=none→Pv i σ H→g (.ref t) σ (upd H t (.tup [.int ((i+k:Nat):Int),x])) fun σ2 H2=>tb { D with nx:=Pv (i+1),ct:=Pv (i+1),bk:=D.nx } σ2 H2) (hd:∀ σ H,Pv xs.length σ H→D.nx σ H) :
   ∃ W:Nat→Nat→St→Hp→Prop,(∃ m,W 0 m σ H)∧∀ i m σ H,W i m σ H →
     ((VY K a k).stop i H∧D.nx σ H)∨((VY K a k).go i H∧∃ N:St→Hp→Prop,(∀ σ' H',N σ' H'→∃ m',m' < m∧W (i+1) m' σ' H')∧∀ y H',(VY K a k).yld i H y H'→g y σ H' fun σ2 H2=>tb { D with nx:=N,ct:=N,bk:=D.nx } σ2 H2):=by
 refine ⟨fun i m σ H=>m=xs.length - i∧i≤xs.length∧Pv i σ H,⟨xs.length,by simp,Nat.zero_le _,h0⟩,?_⟩
 rintro i m σ H ⟨rfl,hi,p⟩
 have q:=hl i σ H hi p
 by_cases hlt:i < xs.length
 · refine .inr ⟨⟨xs,xs[i],q,by simp [hlt]⟩,Pv (i+1),fun σ' H' z=>⟨xs.length - (i+1),by omega,rfl,hlt,z⟩,fun y H' hy=>?_⟩
   obtain ⟨t,x,ht,hx,rfl,rfl⟩:=hy
   exact hs i x t σ H (hx xs q) ht p
 · have e:i=xs.length:=by omega
   subst e
   exact .inl ⟨⟨xs,q,Nat.le_refl _⟩,hd σ H p⟩
theorem Zer {X:Cx}:PIp X .Add (fun x y H Q=>∃ i j,x=.str i∧y=.str j∧i.length+j.length≤sizeLine∧Q (.str (i++j)) H):=by
 intro pins s σ H x y v u Q I r1 r2 h
 exact Zdl pins s σ H x y v u Q I r1 r2 h
theorem ZiZ {x:Str}{g:TG}{tb:TS}{D:WB}{σ:St}{H:Hp}(Pv:Nat→St→Hp→Prop)(h0:Pv 0 σ H)
   (hs:∀ i c σ H,x.cps.toList[i]?=some c→Pv i σ H→g (.str ⟨#[c]⟩) σ H fun σ2 H2=>tb { D with nx:=Pv (i+1),ct:=Pv (i+1),bk:=D.nx } σ2 H2) (hd:∀ σ H,Pv x.cps.toList.length σ H→D.nx σ H) :
   ∃ W:Nat→Nat→St→Hp→Prop,(∃ m,W 0 m σ H)∧∀ i m σ H,W i m σ H →
     ((Its x).stop i H∧D.nx σ H)∨((Its x).go i H∧∃ N:St→Hp→Prop,(∀ σ' H',N σ' H'→∃ m',m' < m∧W (i+1) m' σ' H')∧∀ y H',(Its x).yld i H y H'→g y σ H' fun σ2 H2=>tb { D with nx:=N,ct:=N,bk:=D.nx } σ2 H2):=by
 rw [Array.length_toList] at hd
 refine ⟨fun i m σ H=>m=x.cps.size - i∧i≤x.cps.size∧Pv i σ H,⟨x.cps.size,by simp,Nat.zero_le _,h0⟩,?_⟩
 rintro i m σ H ⟨rfl,hi,p⟩
 by_cases hlt:i < x.cps.size
 · refine .inr ⟨hlt,Pv (i+1),fun σ' H' p'=>⟨x.cps.size - (i+1),by omega,rfl,hlt,p'⟩,fun y H' z=>?_⟩
   obtain ⟨rfl,c,e2,rfl⟩:=z
   exact hs i c σ _ (by rw [Array.getElem?_toList];exact e2) p
 · have e:i=x.cps.size:=by omega
   subst e
   exact .inl ⟨Nat.le_refl _,hd σ H p⟩
theorem Zkq (c d:Nat)(y:Str)(h:y=⟨#[d]⟩):decide (V.str ⟨#[c]⟩=V.str y)=decide (c=d):=by
 subst h
 by_cases e:c=d
 · subst e;rw [decide_eq_true rfl,decide_eq_true rfl]
 · rw [decide_eq_false e,decide_eq_false]
   intro z
   injection z with z
   have:=congrArg (fun s:Str=>s.cps.toList) z
   exact e (by simpa using this)
end L2
set_option maxHeartbeats 4000000
namespace K68
open PySem L2
def UR (x:Str):Bool:=(decide (1≤x.length)&&decide (x.length≤8))&&x.cps.toList.all Ux
theorem ZjN {x:Str}(h:ZY x):UR x=true:=by
 unfold UR;rw [decide_eq_true h.1,decide_eq_true h.2.1,h.2.2];rfl
theorem ca:(Str.ofString "a").cps.toList=[97]:=by decide +kernel
theorem cz:(Str.ofString "z").cps.toList=[122]:=by decide +kernel
theorem cbl:(Str.ofString " ").cps.toList=[32]:=by decide +kernel
theorem cti:(Str.ofString "~").cps.toList=[126]:=by decide +kernel
theorem c0:(Str.ofString "0").cps.toList=[48]:=by decide +kernel
theorem c9:(Str.ofString "9").cps.toList=[57]:=by decide +kernel
section
variable {P:Program}{w:World}{K:PySem.W.Frag}{mg:Str→Option Value}{base:Heap}{tl t3 t4:Tok}
theorem btw {R:VK}{c lo hi:Nat}{x y:Str}{H':Hp}(ex:x.cps.toList=[lo])(ey:y.cps.toList=[hi])(hR:R (.bl (decide (lo≤c)&&decide (c≤hi))) H') :
   if (!decide ((⟨#[c]⟩:Str).cps.toList < x.cps.toList))=true then ∃ i j:Str,V.str ⟨#[c]⟩=.str i∧V.str y=.str j∧R (.bl (!decide (j.cps.toList < i.cps.toList))) H' else R (.bl false) H':=by
 rw [ex]
 show if (!decide ([c] < [lo]))=true then _ else _
 rw [Zdn]
 by_cases d1:c < lo
 · rw [decide_eq_true d1]
   rw [decide_eq_false (show ¬ lo≤c by omega)] at hR
   exact ZI hR
 · rw [decide_eq_false d1]
   rw [decide_eq_true (show lo≤c by omega),Bool.true_and] at hR
   refine ZQ ⟨_,_,rfl,rfl,?_⟩
   rw [ey]
   show R (.bl (!decide ([hi] < [c]))) H'
   rw [Zdn]
   by_cases d2:hi < c
   · rw [decide_eq_true d2];rw [decide_eq_false (by omega)] at hR;exact hR
   · rw [decide_eq_false d2];rw [decide_eq_true (by omega)] at hR;exact hR
def ZeU (f:Str→Bool):Sp:=fun vs H Q _=>∃ x:Str,vs=[.str x]∧x.length≤100000∧∀ H',Same H H'→Q (.bl (f x)) H'
abbrev nNn:List Str:=["thing"]
abbrev ZgB:List Str:=["thing"]
theorem scNn:Zt nNn ZgB (Zj s_is_name):=⟨rfl,rfl,rfl,by decide +kernel,rfl,by decide +kernel,by decide +kernel⟩
theorem Zgj {f:Addr}{fd:FuncData}(F:Fun K "is_name" "is_name" s_is_name f fd)(T:ZW mg)(hLN:mg "LONGEST_NAME"=some (.int 8 tl)):FnOk P w K mg base ZR 1 f fd ZgB (ZeU UR):=by
 refine F.ok scNn (fun vs H Q E h=>?_) (fun cdv A outer s H vs Q E hr h=>?_)
 · obtain ⟨x,rfl,_⟩:=h;rfl
 obtain ⟨x,rfl,hx,q⟩:=h
 refine' ⟨?t,?h,?r⟩
 case h =>
   conv=>arg 2;whnf
   with_reducible refine' (Zf (Yb ?h1 (Zi ?h2) ZG) (Zi ?h3))
   case h1=>exact WV (Yt (Zl (ZT (K:=K) rfl) rfl T.isinstance (by decide +kernel) (Zb (pv 0) (Zb (Yh rfl T.str (by decide +kernel) (v:=.ty "str") rfl) Za))))
   case h2=>exact Zp Vz
   case h3=>exact Zp (XU (UL Vs Vs Zc (Zl YY rfl T.len PySem.boot_len (Zb (pv 0) Za)) (Wk rfl hLN (v:=.int 8) ⟨_,rfl⟩)) (WQ (Zl (UG rfl) rfl T.all (by decide +kernel) (Zb (Wg (CompOk.of nNn s_is_name rfl rfl (by decide +kernel)) rfl (Vc (pv 0))  (fun _ _ _ _ _=>UL XL XL Zn (pv 1) Zn)) Za))))
 refine ⟨_,rfl,_,_,_,true,rfl,.inl (.str _),rfl,_,rfl,ZI ?_⟩
 refine ⟨_,rfl,x,rfl,ZB hx,?_⟩
 have fin:∀ b:Bool,b=UR x→Q (.bl b) H:=fun b e=>by rw [e];exact q H (Same.refl H)
 refine ⟨_,_,rfl,rfl,_,rfl,?_⟩
 by_cases c1:(1:Int)≤(x.length:Int)
 · rw [decide_eq_true c1]
   refine ZQ ⟨_,_,rfl,rfl,_,rfl,?_⟩
   by_cases c2:(x.length:Int)≤8
   · rw [decide_eq_true c2]
     refine ZQ ⟨_,rfl,x,rfl,fun D hD=>?_⟩
     refine WR (ZB hx) (fun c=>.bl (Ux c)) (fun c H' R hc hR=>?_) ⟨D,x.cps.toList.map Ux,rfl,SqL.of (by rw [Zcr];exact Zd),?_⟩
     · exact ⟨_,rfl,_,_,rfl,rfl,_,rfl,btw ca cz hR⟩
     · have:(x.cps.toList.map Ux).all id=UR x:=by
         unfold UR
         rw [decide_eq_true (show 1≤x.length by omega),decide_eq_true (show x.length≤8 by omega),List.all_map];rfl
       rw [this]
       exact q _ (Zh hD _)
   · rw [decide_eq_false c2]
     exact ZI (fin _ (by unfold UR;rw [decide_eq_false (show ¬ x.length≤8 by omega)];simp))
 · rw [decide_eq_false c1]
   refine ZI ⟨_,rfl,?_⟩
   exact ZI (fin _ (by unfold UR;rw [decide_eq_false (show ¬ 1≤x.length by omega)];simp))
abbrev nVl:List Str:=["thing"]
abbrev ZhR:List Str:=["thing"]
theorem scVl:Zt nVl ZhR (Zj s_is_value):=⟨rfl,rfl,rfl,by decide +kernel,rfl,by decide +kernel,by decide +kernel⟩
theorem ZeB {f:Addr}{fd:FuncData}(F:Fun K "is_value" "is_value" s_is_value f fd)(T:ZW mg):FnOk P w K mg base ZR 1 f fd ZhR (ZeU fun x=>x.cps.toList.all Yz):=by
 refine F.ok scVl (fun vs H Q E h=>?_) (fun cdv A outer s H vs Q E hr h=>?_)
 · obtain ⟨x,rfl,_⟩:=h;rfl
 obtain ⟨x,rfl,hx,q⟩:=h
 refine' ⟨?t,?h,?r⟩
 case h =>
   conv=>arg 2;whnf
   with_reducible refine' (Zf (Yb ?h1 (Zi ?h2) ZG) (Zi Zip))
   case h1=>exact Yt (Zl (ZT (K:=K) rfl) rfl T.isinstance (by decide +kernel) (Zb (pv 0) (Zb (Yh rfl T.str (by decide +kernel) (v:=.ty "str") rfl) Za)))
   case h2=>exact Zp (Zl (UG rfl) rfl T.all (by decide +kernel) (Zb (Wg (CompOk.of nVl s_is_value rfl rfl (by decide +kernel)) rfl (Vc (pv 0))  (fun _ _ _ _ _=>UL XL XL Zn (pv 1) Zn)) Za))
 refine ⟨_,rfl,_,_,_,true,rfl,.inl (.str _),rfl,_,rfl,ZQ ⟨_,rfl,x,rfl,fun D hD=>?_⟩⟩
 refine WR (ZB hx) (fun c=>.bl (Yz c)) (fun c H' R hc hR=>?_) ⟨D,x.cps.toList.map Yz,rfl,SqL.of (by rw [Zcr];exact Zd),?_⟩
 · exact ⟨_,rfl,_,_,rfl,rfl,_,rfl,btw cbl cti hR⟩
 · have:(x.cps.toList.map Yz).all id=x.cps.toList.all Yz:=by rw [List.all_map];rfl
   rw [this]
   exact q _ (Zh hD _)
def spUn:Sp:=fun vs H Q _=>∃ x:Str,vs=[.str x]∧x.length≤100000∧Q (.str ⟨(Xv false x.cps.toList).toArray⟩) H
abbrev nUn:List Str:=["written","text","behind_slash","sign"]
abbrev ZgO:List Str:=["written"]
theorem scUn:Zt nUn ZgO (Zj s_unslashed):=⟨rfl,rfl,rfl,by decide +kernel,rfl,by decide +kernel,by decide +kernel⟩
theorem Zjd {f:Addr}{fd:FuncData}(F:Fun K "unslashed" "unslashed" s_unslashed f fd)(T:ZW mg):FnOk P w K mg base ZR 1 f fd ZgO spUn:=by
 refine F.ok scUn (fun vs H Q E h=>?_) (fun cdv A outer s H vs Q E hr h=>?_)
 · obtain ⟨x,rfl,_⟩:=h;rfl
 obtain ⟨x,rfl,hx,q⟩:=h
 refine' ⟨?t,?h,?r⟩
 case h =>
   conv=>arg 2;whnf
   with_reducible refine' (Zf ?h1 (Zf ?h2 (Zf (Xn ?h3 ?h4 ?h5 ?h6 (Zf ?h7 (Zi (Yb ?h8 (Zi ?h9) ZG))) ?h10) (Zi ?h11))))
   case h1=>exact Zs (i:=1) scUn.nd rfl (Or.inl rfl) Zn
   case h2=>exact Zs (i:=2) scUn.nd rfl (Or.inl rfl) Vz
   case h3=>exact PassesOwn.never
   case h4=>exact rfl
   case h5=>exact Vc (pv 0)
   case h6=>exact ZD (i:=3) scUn.nd rfl (Or.inl rfl)
   case h7=>exact Zs (i:=2) scUn.nd rfl (Or.inl rfl) (XU (Xg Xb (pv 3) Zn (ZE _)) (WQ (ZcL (pv 2))))
   case h8=>exact WV (Yt (pv 2))
   case h9=>exact Zkj (i:=1) scUn.nd rfl (Or.inl rfl) (pv 3) (Zer)
   case h10=>exact fun _=>rfl
   case h11=>exact Zp (pv 1)
 refine ⟨_,rfl,x,rfl,?_⟩
 refine ZiZ (x:=x) (fun i σ H'=>H'=H∧∃ (acc:List Nat) (b:Bool) (x3:Option V),σ=[some (.str x),some (.str ⟨acc.toArray⟩),some (.bl b),x3]∧acc++Xv b (x.cps.toList.drop i)=Xv false x.cps.toList∧acc.length≤i) ⟨rfl,[],false,_,rfl,by rw [List.drop_zero];rfl,Nat.zero_le _⟩ ?_ ?_
 · rintro i c σ H' hc ⟨rfl,acc,b,x3,rfl,e,hl⟩
   have hd:x.cps.toList.drop i=c::x.cps.toList.drop (i+1):=by
     obtain ⟨h1,h2⟩:=List.getElem?_eq_some_iff.mp hc
     rw [List.drop_eq_getElem_cons h1,h2]
   have hi:=(List.getElem?_eq_some_iff.mp hc).1
   rw [← ZM] at hi
   rw [hd,Xv] at e
   refine ⟨_,rfl,rfl,_,rfl,?_⟩
   rw [Zkq c 92 _ sl1]
   have no:∀ b':Bool,b'=false→(decide (c=92)&&!b)=false→Zes (ZhH (tB (Xr 2))) (tAug 1 (Xr 3) fun x y H Q=>∃ i j,x=V.str i∧y=V.str j∧i.length+j.length≤sizeLine∧Q (V.str (i++j)) H) ZbT { nx:=fun σ H''=>H''=H'∧∃ (acc:List Nat) (b:Bool) (x3:Option V),σ=[some (.str x),some (.str ⟨acc.toArray⟩),some (.bl b),x3]∧acc++Xv b (x.cps.toList.drop (i+1))=Xv false x.cps.toList∧acc.length≤i+1,rt:=Q } [some (.str x),some (.str ⟨acc.toArray⟩),some (.bl b'),some (.str ⟨#[c]⟩)] H':=by
     rintro _ rfl z
     rw [z] at e
     refine ⟨_,rfl,_,rfl,ZQ ⟨_,rfl,_,rfl,_,_,rfl,rfl,ZB (show _≤100000 by show acc.toArray.size+1≤100000;rw [List.size_toArray];omega),rfl,acc++[c],false,some (.str ⟨#[c]⟩),?_,?_,by simp;omega⟩⟩
     · show _=[some (V.str x),some (V.str ⟨(acc++[c]).toArray⟩),some (V.bl false),some (V.str ⟨#[c]⟩)]
       rw [show (⟨(acc++[c]).toArray⟩:Str)=(⟨acc.toArray⟩:Str)++⟨#[c]⟩ from Yw (by rw [YZ])]
       rfl
     · rw [List.append_assoc];exact e
   by_cases hc2:c=92
   · rw [decide_eq_true hc2] at e no ⊢
     refine ZQ ⟨_,rfl,_,rfl,?_⟩
     cases b with
     | true=>exact no _ rfl rfl
     | false=>exact ⟨_,rfl,_,rfl,ZI ⟨rfl,acc,true,_,rfl,e,by omega⟩⟩
   · rw [decide_eq_false hc2] at e no ⊢
     exact ZI (no _ rfl rfl)
 · rintro σ H' ⟨rfl,acc,b,x3,rfl,e,hl⟩
   rw [List.drop_length] at e
   have e:acc=Xv false x.cps.toList:=by simpa [Xv] using e
   exact ⟨_,rfl,by rw [e];exact q⟩
def spNF:Sp:=fun vs H Q _=>∃(w:Str)(most:Nat),vs=[.str w,.int most]∧w.length≤100000∧most≤300∧∀ H',Same H H'→Q (match Vh w most with | some n=>.int n | none=>.non) H'
abbrev nNf:List Str:=["word","most","figures"]
abbrev Zhr:List Str:=["word","most"]
theorem scNf:Zt nNf Zhr (Zj s_number_from):=⟨rfl,rfl,rfl,by decide +kernel,rfl,by decide +kernel,by decide +kernel⟩
theorem ZiW {f:Addr}{fd:FuncData}(F:Fun K "number_from" "number_from" s_number_from f fd)(T:ZW mg):FnOk P w K mg base ZR 1 f fd Zhr spNF:=by
 refine F.ok scNf (fun vs H Q E h=>?_) (fun cdv A outer s H vs Q E hr h=>?_)
 · obtain ⟨x,_,rfl,_⟩:=h;rfl
 obtain ⟨x,most,rfl,hx,hm,q⟩:=h
 refine' ⟨?t,?h,?r⟩
 case h =>
   conv=>arg 2;whnf
   with_reducible refine' (Uj ?h1 (Zf (Yb ?h2 (Zi ?h3) ZG) (Zi ?h4)))
   case h1=>exact Zs (i:=2) scNf.nd rfl (Or.inl rfl) (YH (Yt (Yd PySem.F.plainAttrs_str PySem.F.slot_str_startswith PySem.F.type_str_startswith UT (pv 0) (Zb Zn Za))) (Ye Zad (pv 0) (Yc Zc) Yq) (pv 0))
   case h2=>exact PW.pt (UF (WV (Zhg Vs Vs Zc (Zl YY rfl T.len PySem.boot_len (Zb (pv 2) Za)) (pv 1))) (Ul (WV (Yt (Zl (UG rfl) rfl T.all (by decide +kernel) (Zb (Wg (CompOk.of nNf s_number_from rfl rfl (by decide +kernel)) rfl (Vc (pv 2))  (fun _ _ _ _ _=>UL XL XL Zn (pv 3) Zn)) Za))))))
   case h3=>exact Zp XB
   case h4=>exact Zp (YH (ZF Xb (Yv Vi rfl T.str (by decide +kernel) (Zb (Yv UQ rfl T.int (by decide +kernel) (Zb (pv 0) Za)) Za)) (pv 0) (ZE _)) (Yv UQ rfl T.int (by decide +kernel) (Zb (pv 0) Za)) XB)
 have hlx:=ZM x
 refine ⟨fun σ H'=>H'=H∧∃ y:Str,y.cps.toList=YN x∧σ=[some (.str x),some (.int most),some (.str y)],?_,?_⟩
 · refine ⟨_,rfl,rfl,x,_,rfl,rfl,_,rfl,?_⟩
   rw [mi1,ZaE]
   by_cases hh:x.cps.toList.head?=some 45
   · rw [decide_eq_true hh]
     exact ZQ ⟨_,rfl,_,rfl,x,rfl,ZB hx,rfl,_,by rw [ZjC];unfold YN;rw [if_pos hh],rfl⟩
   · rw [decide_eq_false hh]
     exact ZI ⟨_,rfl,rfl,x,by unfold YN;rw [if_neg hh],rfl⟩
 rintro σ H ⟨rfl,y,ey,rfl⟩
 have hly:y.length=(YN x).length:=by rw [ZM,ey]
 have hyx:(YN x).length≤100000:=by
   unfold YN
   split
   · rw [List.length_drop];omega
   · omega
 refine ⟨_,rfl,y,rfl,ZB (show _≤100000 by omega),_,_,rfl,rfl,_,rfl,?_⟩
 have no:∀ H',Same H H'→¬ (1≤(YN x).length∧(YN x).length≤most∧(YN x).all WO=true)→Q .non H':=fun H' s' h=>by
   have:=q H' s'
   unfold Vh at this
   rw [if_neg h] at this;exact this
 by_cases c1:(1:Int)≤(y.length:Int)
 · rw [decide_eq_true c1]
   refine ZQ ⟨_,rfl,_,_,rfl,rfl,_,rfl,?_⟩
   by_cases c2:(y.length:Int)≤(most:Int)
   · rw [decide_eq_true c2]
     refine ZI ⟨_,rfl,y,rfl,fun D hD=>?_⟩
     refine WR (ZB (show _≤100000 by omega)) (fun c=>.bl (WO c)) (fun c H' R hc hR=>?_) ⟨D,y.cps.toList.map WO,rfl,SqL.of (by rw [Zcr];exact Zd),?_⟩
     · exact ⟨_,rfl,_,_,rfl,rfl,_,rfl,btw c0 c9 hR⟩
     have s1:=Zh hD (.lst ((y.cps.toList.map fun c=>V.bl (WO c))))
     generalize upd H D (.lst ((y.cps.toList.map fun c=>V.bl (WO c))))=H1 at s1 ⊢
     have ea:(y.cps.toList.map WO).all id=(YN x).all WO:=by rw [List.all_map,ey];rfl
     rw [ea]
     refine ⟨_,rfl,?_⟩
     cases hd:(YN x).all WO with
     | false=>exact ZQ (no H1 s1 fun h=>by rw [hd] at h;exact absurd h.2.2 (by decide))
     | true =>
       have hq:=q H1 s1
       obtain ⟨n,hn,hl,hlog⟩:=Zet (w:=x) (by omega) (by omega) hd
       unfold Vh at hq
       rw [if_pos ⟨by omega,by omega,hd⟩,hn,Option.getD_some] at hq
       refine ZI ⟨_,rfl,x,n,rfl,hn,hl,.inl ⟨n,rfl,hlog,_,rfl,rfl,_,rfl,?_⟩⟩
       by_cases hs:Str.ofString (toString n)=x
       · rw [decide_eq_true (by rw [hs])]
         rw [if_pos hs] at hq
         exact ZQ ⟨_,rfl,x,n,rfl,hn,hl,hq⟩
       · rw [decide_eq_false (fun z=>hs (by injection z))]
         rw [if_neg hs] at hq
         exact ZI hq
   · rw [decide_eq_false c2]
     exact ZQ (no H (Same.refl H) fun h=>c2 (by omega))
 · rw [decide_eq_false c1]
   refine ZI ⟨_,rfl,?_⟩
   exact ZQ (no H (Same.refl H) fun h=>c1 (by omega))
def spVF:Sp:=fun vs H Q _=>∃ w:Str,vs=[.str w]∧w.length≤100000∧∀ H',Same H H'→Q (match WT w with | some v=>v | none=>.non) H'
abbrev nVf:List Str:=["word","text","fits"]
abbrev ZhW:List Str:=["word"]
theorem scVf:Zt nVf ZhW (Zj s_value_from):=⟨rfl,rfl,rfl,by decide +kernel,rfl,by decide +kernel,by decide +kernel⟩
theorem Zjb {f:Addr}{fd:FuncData}(F:Fun K "value_from" "value_from" s_value_from f fd)(T:ZW mg)(hMF:mg "MOST_FIGURES"=some (.int 30 t3))(hMS:mg "MOST_SIGNS"=some (.int 40 t4))(DNf:Def P w K mg base 2 "number_from" Zhr spNF)(DUn:Def P w K mg base 2 "unslashed" ZgO spUn)(DVl:Def P w K mg base 2 "is_value" ZhR (ZeU fun x=>x.cps.toList.all Yz))(DVT:Def P w K mg base 2 "value_text" ZeD ZhJ):FnOk P w K mg base ZR 3 f fd ZhW spVF:=by
 refine F.ok scVf (fun vs H Q E h=>?_) (fun cdv A outer s H vs Q E hr h=>?_)
 · obtain ⟨x,rfl,_⟩:=h;rfl
 obtain ⟨x,rfl,hx,q⟩:=h
 refine' ⟨?t,?h,?r⟩
 case h =>
   conv=>arg 2;whnf
   with_reducible refine' (Zf (Yb ?h1 (Zi ?h2) ZG) (Zf ?h3 (Zf ?h4 (Zi ?h5))))
   case h1=>exact WV (Yt (Yd PySem.F.plainAttrs_str PySem.F.slot_str_startswith PySem.F.type_str_startswith UT (pv 0) (Zb Zn Za)))
   case h2=>exact Zp (Zq DNf hr (Zb (pv 0) (Zb (Wk rfl hMF (v:=.int 30) ⟨_,rfl⟩) Za)))
   case h3=>exact Zs (i:=1) scVf.nd rfl (Or.inl rfl) (Zq DUn hr (Zb (Ye Zad (pv 0) (Yc Zc) (Yc (Ub Wq Zc))) Za))
   case h4=>exact Zs (i:=2) scVf.nd rfl (Or.inl rfl) (XU (Xg Vs (Zl YY rfl T.len PySem.boot_len (Zb (pv 1) Za)) (Wk rfl hMS (v:=.int 40) ⟨_,rfl⟩) (ZE _)) (XU (Zq DVl hr (Zb (pv 1) Za)) (WQ (Xg Xb (Zq DVT hr (Zb (pv 1) Za)) (pv 0) (ZE _)))))
   case h5=>exact Zp (YH (Yt (pv 2)) (pv 1) XB)
 have hlx:=ZM x
 refine ⟨_,rfl,rfl,x,_,rfl,rfl,_,rfl,?_⟩
 rw [qu1,ZaE]
 by_cases hh:x.cps.toList.head?=some 39
 · rw [decide_eq_true hh]
   have et:(⟨(Xv false (Txt.slice x (some 1) (some (-1))).cps.toList).toArray⟩:Str)=XX x:=by rw [Zhz];rfl
   have hlt:(XX x).length≤100000:=by
     have:=Zbc false (x.cps.toList.drop 1).dropLast
     rw [List.length_dropLast,List.length_drop] at this
     show (Xv false (x.cps.toList.drop 1).dropLast).toArray.size≤_
     rw [List.size_toArray];omega
   refine ZI ⟨_,rfl,_,rfl,_,rfl,_,rfl,x,rfl,ZB hx,_,rfl,Nat.le_trans (Txt.slice_le x _ _) hx,?_⟩
   rw [et]
   have no:∀ H',Same H H'→¬ ((XX x).length≤40∧(XX x).cps.toList.all Yz=true∧Yr (.str (XX x))=x)→Q .non H':=fun H' s' h=>by
     have:=q H' s'
     unfold WT at this
     rw [if_pos hh,if_neg h] at this;exact this
   refine ⟨_,rfl,_,rfl,ZB hlt,_,_,rfl,rfl,_,rfl,?_⟩
   by_cases c1:((XX x).length:Int)≤40
   · rw [decide_eq_true c1]
     refine ZQ ⟨_,rfl,_,rfl,hlt,fun H1 s1=>?_⟩
     refine ⟨(XX x).cps.toList.all Yz,rfl,?_⟩
     cases c2:(XX x).cps.toList.all Yz with
     | false=>exact ZI ⟨_,rfl,_,rfl,ZI (no H1 s1 fun h=>by rw [c2] at h;exact absurd h.2.1 (by decide))⟩
     | true =>
       refine ZQ ⟨_,rfl,_,rfl,⟨by omega,c2⟩,_,rfl,rfl,?_⟩
       refine ⟨_,rfl,_,rfl,?_⟩
       by_cases c3:Yr (.str (XX x))=x
       · rw [decide_eq_true (by rw [c3])]
         have:=q H1 s1
         unfold WT at this
         rw [if_pos hh,if_pos ⟨by omega,c2,c3⟩] at this
         exact ZQ ⟨_,rfl,this⟩
       · rw [decide_eq_false (fun z=>c3 (by injection z))]
         exact ZI (no H1 s1 fun h=>c3 h.2.2)
   · rw [decide_eq_false c1]
     exact ZI ⟨_,rfl,_,rfl,ZI (no H (Same.refl H) fun h=>c1 (by omega))⟩
 · rw [decide_eq_false hh]
   refine ZQ ⟨_,rfl,x,30,rfl,hx,by decide,fun H1 s1=>?_⟩
   have:=q H1 s1
   unfold WT at this
   rw [if_neg hh] at this
   cases e:Vh x 30 with
   | none=>rw [e] at this;exact this
   | some n=>rw [e] at this;exact this
end
end K68
set_option maxHeartbeats 2000000
namespace L2
open PySem PySem.Spec PyProof.Rows
def Zjm (K:PySem.W.Frag):V→List V→Hp→VK→Prop:=fun x vs H Q=>∃(l:Addr)(ns:List Str)(y:Str),x=.ref l∧vs=[.str y]∧SqL K H l (ns.map V.str)∧y∈ns∧ns.length≤100000∧Q (.int (ns.idxOf y:Nat)) H
theorem Zgg {ns:List Str}{y:Str}:∀{j:Nat}(h:j < ns.length),j < ns.idxOf y→ns[j]≠y:=by
 induction ns with
 | nil=>intro j h;simp at h
 | cons a r ih =>
   intro j h hj
   rw [List.idxOf_cons] at hj
   by_cases e:(a == y)=true
   · rw [e] at hj;simp at hj
   · have e':(a == y)=false:=by simpa using e
     rw [e'] at hj
     cases j with
     | zero=>intro z;exact e (by simpa using z)
     | succ j=>exact ih (j:=j) (by simpa using h) (by simpa using hj)
section
variable {X:Cx}
theorem ZfN:MtR X "list.index" (Zjm X.K):=by
 intro pins s σ H x vs v us Q I rx rv h
 obtain ⟨l,ns,y,rfl,rfl,hl,hk,hz,q⟩:=h
 cases rx
 obtain ⟨u,rfl,ru⟩:=YS rv
 obtain ⟨its,r,ht,_⟩:=I.list hl
 obtain ⟨⟨cls,dd,data,sl⟩,n,ho,hc,hsl,hd⟩:=ht
 have hlen:ns.length=its.length:=by have:=r.length;rwa [List.length_map] at this
 have hj:ns.idxOf y < ns.length:=List.idxOf_lt_length_iff.mpr hk
 dsimp only at hc hsl hd
 subst hc hsl hd
 have at':∀ (j:Nat) (h1:j < its.length) (h2:j < ns.length),XW (.str y) its[j]=decide (ns[j]=y):=fun j h1 h2=>by
   obtain ⟨u',e1,e2⟩:=r.get (i:=j) (x:=V.str ns[j]) (by simp [h2])
   rw [List.getElem?_eq_getElem h1] at e1
   cases e1
   rw [ZcK e2 rfl]
   show (ns[j] == y)=_
   exact (Bool.eq_iff_iff.mpr (by simp))
 refine call_meets PySem.F.slot_list_index ⟨_,ho,rfl⟩ PySem.F.entry_list_index (PySem.F.args_list_index_2 _ _)
   (PySem.SeqAt.list_indexAt l its.toArray n none sl _ (XW (.str y)) (ns.idxOf y) (by simpa [hlen] using hj) (by omega) ?_ ?_) ⟨ho,fun w hw=>Wi ru rfl r (Zbv ns) w (by simpa using hw),⟨.int (ns.idxOf y:Nat),H,I.tok _,⟨_,rfl⟩,q⟩⟩
 · show XW (.str y) its[ns.idxOf y]=true
   rw [at' _ (by omega) hj]
   exact decide_eq_true (List.getElem_idxOf hj)
 · intro j hjs hlt
   have h2:j < ns.length:=by rw [List.size_toArray] at hjs;omega
   show XW (.str y) its[j]=false
   rw [at' _ (by omega) h2]
   exact decide_eq_false (Zgg h2 hlt)
end
theorem Zjk {xs:List V}{i j:Nat}(h:i≤j)(hj:j≤xs.length):YJ xs (some (i:Int)) (some (j:Int))=(xs.drop i).take (j - i):=by
 unfold YJ
 rw [HT.sIx_nat,HT.sIx_nat,Nat.min_eq_left hj,Nat.min_eq_left (show i≤xs.length by omega)]
section
variable {X:Cx}{elt iter tg:Expr}{xa xb:Str}{pos:Pos}{scope:Scope}{wi:TI}{te:TE}{g:TG}
theorem Zdm {i:Nat}{y:Str}{py spos:Pos}(O:CompOkT X scope xa xb)(hc:X.calm=true)(hN:X.N.Nodup)(hiN:X.N[i]?=some y)(hy:Loc X.env.scope y)(hi:PI X tg iter wi)(hg:∀ cl C s₀ H₀ fp,PG (YL X scope xa xb cl C s₀ H₀ fp) tg g)(he:∀ cl C s₀ H₀ fp,PE (YL X scope xa xb cl C s₀ H₀ fp) elt te)
   (hsw:swapsWith (.ListComp elt [⟨tg,iter,[],0⟩] scope pos) (some (.Name y py)) spos.line X.env=pure true) (hf:X.fn y=true∨X.env.scope.names.lookup y=some .local:=by first | exact .inl rfl | exact .inr rfl | assumption)
   (hs:∀ v,foldedSetIterable iter X.env v=pure v:=by intro _;rfl):PS X (.Assign [.Name y py] (.ListComp elt [⟨tg,iter,[],0⟩] scope pos) spos) (ZbV (Zff wi g te) (UK i)):=by
 intro pins s σ H D I h
 obtain ⟨cl,hcl,cl1,cl2⟩:=XS (scope:=scope) (env:=X.env) fun y hy hf=>I.ok.has _ (O.clos y hy hf)
 rw [exec_Assign_Name_used _ _ _ _ hsw]
 refine wpAny_bind (wpAny_standAt (wpAny_bind ?_))
 show wpAny _ X.A (do let _ ← comprehension (.ListComp elt [⟨tg,iter,[],0⟩] scope pos) scope X.env _ (newList []) false (eval iter X.env) (some (assign (.Name y py) X.env))) _ _ s
 refine wpAny_bind (wpAny_mono (wpAny_comprehension_free (use:=some (assign (.Name y py) X.env)) (Q:=fun _ s'=>SP X pins D .next s') rfl hs hcl O.kind O.names
   (Zm (hi pins s σ H _ I h) fun v s1 h1=>Zm h1 fun itv s2 h2=>?_)) (fun _ s' hq=>wpAny_pure (wpAny_pure hq)) fun _ _ e=>e)
 obtain ⟨it,fp,tn,J,H2,e,I2,T,st2,f2,q⟩:=h2
 subst e
 refine VG (RR:=fun acc C=>compPost (model X.prog X.w) X.A X.xe (some (assign (.Name y py) X.env)) (fun _ s'=>SP X pins D .next s') acc C) O hc cl1 cl2 hg he I2 T st2 f2 q ?_
 intro Dl C H' s' I' ⟨g0,g1,g2,g3,g4,g5⟩ ⟨m,hm⟩ hq
 show wpAny _ X.A (assign (.Name y py) X.env (.ref Dl)) _ _ _
 refine wpAny_assign_Name (Vf I' hN hiN hy (v:=.ref Dl) rfl (fun s'' I'' ⟨a,sb,ha⟩=>?_) hf)
 have haC:C≠a:=by
   rcases ha with z | z
   · rw [z];exact g1
   · exact fun z'=>g4 y a z z'.symm
 exact ⟨m,hm.sameBut sb haC,fun h' hs'=>⟨_,H',I''.turned (t':=s''.toks) (fun b o hb e=>(hs'.2 b hb).trans e) g0 g1 g3 g4 g5,hq⟩⟩
end
end L2
set_option maxHeartbeats 4000000
namespace K68
open PySem L2
abbrev ZO:Str:=Str.ofString "value"
def YR (w k:Str):Option V:=if k="value" then WT w else if UR w=true then some (.str w) else none
def Xo (ws ks:List Str):Nat:=ks.idxOf ZO+1+ws.length - ks.length
def YI (ws ks:List Str):List Str :=
 if ZO ∉ ks∨ws.length≤ks.length then ws
 else ws.take (ks.idxOf ZO)++[Txt.join " " ((ws.drop (ks.idxOf ZO)).take (Xo ws ks - ks.idxOf ZO))]++ws.drop (Xo ws ks)
def Xk (ws ks:List Str):List V:=List.zipWith (fun w k=>(YR w k).getD .non) (YI ws ks) ks
def YE (ws ks:List Str):Option (List V):=if (YI ws ks).length=ks.length then (if XZ .non (Xk ws ks)=true then none else some (Xk ws ks)) else none
theorem ZeH (w k:Str):XE ((YR w k).getD .non)=true:=by
 unfold YR WT
 split
 · split
   · split<;>rfl
   · cases Vh w 30<;>rfl
 · split<;>rfl
def Fits (ws:List Str):Prop:=(ws.map (·.length)).sum+ws.length≤100000
theorem Zjo {ws zs:List Str}(s:zs.Sublist ws):(zs.map (·.length)).sum≤(ws.map (·.length)).sum:=by
 induction s with
 | slnil=>exact Nat.le_refl _
 | cons a _ ih=>rw [List.map_cons,List.sum_cons];omega
 | cons_cons a _ ih=>rw [List.map_cons,List.map_cons,List.sum_cons,List.sum_cons];omega
theorem Fits.sub {ws zs:List Str}(h:Fits ws)(s:zs.Sublist ws):Fits zs:=by
 have h1:=s.length_le
 have h2:=Zjo s
 unfold Fits at h ⊢;omega
theorem Fits.at {ws:List Str}(h:Fits ws):∀ w∈ws,w.length≤100000:=by
 induction ws with
 | nil=>intro w hw;cases hw
 | cons a r ih =>
   have h':a.length+(r.map (·.length)).sum+(r.length+1)≤100000:=by unfold Fits at h;rw [List.map_cons,List.sum_cons,List.length_cons] at h;exact h
   intro w hw
   rcases List.mem_cons.mp hw with rfl | hw
   · omega
   · exact ih (by unfold Fits;omega) w hw
theorem ZhX {ws ks:List Str}(h:Fits ws):∀ w∈YI ws ks,w.length≤100000:=by
 intro w hw
 unfold YI at hw
 split at hw
 · exact h.at w hw
 · rcases List.mem_append.mp hw with hw | hw
   · rcases List.mem_append.mp hw with hw | hw
     · exact h.at w (List.mem_of_mem_take hw)
     · rw [List.mem_singleton.mp hw,tj]
       have f2:=h.sub ((List.take_sublist (Xo ws ks - ks.idxOf ZO) _).trans (List.drop_sublist (ks.idxOf ZO) ws))
       have:=Wt " " ((ws.drop (ks.idxOf ZO)).take (Xo ws ks - ks.idxOf ZO))
       unfold Fits at f2
       rw [show (Str.ofString " ").length=1 by decide +kernel] at this
       omega
   · exact h.at w (List.mem_of_mem_drop hw)
section
variable {P:Program}{w:World}{K:PySem.W.Frag}{mg:Str→Option Value}{base:Heap}{tl t3 t4:Tok}
def spPF:Sp:=fun vs H Q _=>∃ w k:Str,vs=[.str w,.str k]∧w.length≤100000∧∀ H',Same H H'→Q ((YR w k).getD .non) H'
abbrev nPf:List Str:=["word","kind"]
abbrev ZgX:List Str:=["word","kind"]
theorem scPf:Zt nPf ZgX (Zj s_part_from):=⟨rfl,rfl,rfl,by decide +kernel,rfl,by decide +kernel,by decide +kernel⟩
theorem ZhL {f:Addr}{fd:FuncData}(F:Fun K "part_from" "part_from" s_part_from f fd)(T:ZW mg)(DVf:Def P w K mg base 3 "value_from" ZhW spVF)(DNn:Def P w K mg base 3 "is_name" ZgB (ZeU UR)):FnOk P w K mg base ZR 4 f fd ZgX spPF:=by
 refine F.ok scPf (fun vs H Q E h=>?_) (fun cdv A outer s H vs Q E hr h=>?_)
 · obtain ⟨x,_,rfl,_⟩:=h;rfl
 obtain ⟨x,k,rfl,hx,q⟩:=h
 refine' ⟨?t,?h,?r⟩
 case h =>
   conv=>arg 2;whnf
   with_reducible refine' (Zf (Yb ?h1 (Zi ?h2) ZG) (Zi ?h3))
   case h1=>exact ZF Xb (pv 1) Zn (ZE _)
   case h2=>exact Zp (Zq DVf hr (Zb (pv 0) Za))
   case h3=>exact Zp (YH (Yt (Zq DNn hr (Zb (pv 0) Za))) (pv 0) XB)
 refine ⟨_,rfl,rfl,_,rfl,?_⟩
 by_cases hk:k="value"
 · rw [decide_eq_true (by rw [hk])]
   refine ZQ ⟨_,rfl,x,rfl,hx,fun H1 s1=>?_⟩
   have:=q H1 s1
   unfold YR at this
   rw [if_pos hk] at this
   cases e:WT x with
   | none=>rw [e] at this;exact this
   | some v=>rw [e] at this;exact this
 · rw [decide_eq_false (fun z=>hk (by injection z))]
   refine ZI ⟨_,rfl,x,rfl,hx,fun H1 s1=>⟨UR x,rfl,?_⟩⟩
   have:=q H1 s1
   unfold YR at this
   rw [if_neg hk] at this
   cases e:UR x with
   | true=>rw [e,if_pos rfl] at this;exact ZQ ⟨_,rfl,this⟩
   | false=>rw [e,if_neg (by decide)] at this;exact ZI this
def spWW:Sp:=fun vs H Q _=>∃(a b:Addr)(ws ks:List Str),vs=[.ref a,.ref b]∧H a=some (.lst (ws.map V.str))∧H b=some (.lst (ks.map V.str))∧Fits ws∧ks.length≤10∧∀ l H',Same H H'→H' l=some (.lst ((YI ws ks).map V.str))→Q (.ref l) H'
abbrev nWw:List Str:=["words","kinds","at","end"]
abbrev Zhd:List Str:=["words","kinds"]
theorem scWw:Zt nWw Zhd (Zj s_whole_words):=⟨rfl,rfl,rfl,by decide +kernel,rfl,by decide +kernel,by decide +kernel⟩
theorem ZgI {f:Addr}{fd:FuncData}(F:Fun K "whole_words" "whole_words" s_whole_words f fd)(T:ZW mg):FnOk P w K mg base ZR 1 f fd Zhd spWW:=by
 refine F.ok scWw (fun vs H Q E h=>?_) (fun cdv A outer s H vs Q E hr h=>?_)
 · obtain ⟨a,b,_,_,rfl,_⟩:=h;rfl
 obtain ⟨a,b,ws,ks,rfl,ea,eb,hf,hks,q⟩:=h
 refine' ⟨?t,?h,?r⟩
 case h =>
   conv=>arg 2;whnf
   with_reducible refine' (Zf (Yb ?h1 (Zi ?h2) ZG) (Zf ?h3 (Zf ?h4 (Zi ?h5))))
   case h1=>exact PW.pt (UF (ZF Vj Zn (pv 1) rfl) (Ul (ZF Vs (Zl ZJ rfl T.len PySem.boot_len (Zb (pv 0) Za)) (Zl ZJ rfl T.len PySem.boot_len (Zb (pv 1) Za)) (ZE _))))
   case h2=>exact Zp (pv 0)
   case h3=>exact Zs (i:=2) scWw.nd rfl (Or.inl rfl) (Yd PySem.F.plainAttrs_list PySem.F.slot_list_index PySem.F.type_list_index ZfN (pv 1) (Zb Zn Za))
   case h4=>exact Zs (i:=3) scWw.nd rfl (Or.inl rfl) (Zk YT (Zk Yn (Zk Yn (pv 2) Zc) (Zl ZJ rfl T.len PySem.boot_len (Zb (pv 0) Za))) (Zl ZJ rfl T.len PySem.boot_len (Zb (pv 1) Za)))
   case h5=>exact Zp (Zk WU (Zk WU (Ye Xs (pv 0) Yq (Yc (pv 2))) (ZN (Zb (Yd PySem.F.plainAttrs_str PySem.F.slot_str_join PySem.F.type_str_join Xt Zn (Zb (Ye Xs (pv 0) (Yc (pv 2)) (Yc (pv 3))) Za)) Za))) (Ye Xs (pv 0) (Yc (pv 3)) Yq))
 have hl:ws.length≤100000:=by unfold Fits at hf;omega
 have ein:XZ (.str ZO) (ks.map V.str)=decide (ZO∈ks):=by
   unfold XZ
   rw [List.any_map,Bool.eq_iff_iff,List.any_eq_true,decide_eq_true_eq]
   constructor
   · rintro ⟨k,hk,e⟩
     have:k=ZO:=by simpa [WE] using e
     rw [← this];exact hk
   · intro hk;exact ⟨ZO,hk,by simp [WE]⟩
 refine ⟨_,rfl,b,_,rfl,.inl (SqL.of eb),rfl,Zbv _,_,rfl,?_⟩
 rw [ein]
 by_cases c1:ZO∈ks
 · rw [decide_eq_true c1]
   refine ZI ⟨_,rfl,a,_,rfl,.inl (SqL.of ea),_,rfl,b,_,rfl,.inl (SqL.of eb),_,_,rfl,rfl,_,rfl,?_⟩
   rw [List.length_map,List.length_map]
   by_cases c2:(ws.length:Int)≤(ks.length:Int)
   · rw [decide_eq_true c2]
     exact ZQ ⟨_,rfl,q a H (Same.refl H) (by unfold YI;rw [if_pos (.inr (by omega))];exact ea)⟩
   · rw [decide_eq_false c2]
     have hix:ks.idxOf ZO < ks.length:=List.idxOf_lt_length_iff.mpr c1
     refine ZI ⟨_,rfl,.inl ⟨rfl,_,SqL.of eb⟩,b,ks,_,rfl,rfl,SqL.of eb,c1,by omega,?_⟩
     refine ⟨_,rfl,_,_,rfl,rfl,_,rfl,a,_,rfl,.inl (SqL.of ea),_,_,rfl,rfl,_,rfl,b,_,rfl,.inl (SqL.of eb),_,_,rfl,rfl,?_⟩
     rw [List.length_map,List.length_map]
     have ee:((ks.idxOf ZO:Nat):Int)+1+(ws.length:Int) - (ks.length:Int)=((Xo ws ks:Nat):Int):=by unfold Xo;omega
     have hat:ks.idxOf ZO≤Xo ws ks∧Xo ws ks≤ws.length:=by unfold Xo;omega
     dsimp only
     rw [ee]
     refine ⟨_,rfl,?_⟩
     dsimp only [We]
     refine ⟨_,rfl,_,rfl,a,_,rfl,SqL.of ea,fun p1 hp1=>?_⟩
     have s1:=Zh hp1 (.lst (YJ (ws.map V.str) none (some ((ks.idxOf ZO:Nat):Int))))
     have e1:upd H p1 (.lst (YJ (ws.map V.str) none (some ((ks.idxOf ZO:Nat):Int)))) p1=_:=Zd
     generalize upd H p1 (.lst (YJ (ws.map V.str) none (some ((ks.idxOf ZO:Nat):Int))))=H1 at s1 e1 ⊢
     refine ⟨rfl,_,rfl,_,rfl,_,rfl,_,rfl,_,rfl,a,_,rfl,SqL.of (s1 _ _ ea),fun p2 hp2=>?_⟩
     have s2:=Zh hp2 (.lst (YJ (ws.map V.str) (some ((ks.idxOf ZO:Nat):Int)) (some ((Xo ws ks:Nat):Int))))
     have e2:upd H1 p2 (.lst (YJ (ws.map V.str) (some ((ks.idxOf ZO:Nat):Int)) (some ((Xo ws ks:Nat):Int)))) p2=_:=Zd
     generalize upd H1 p2 (.lst (YJ (ws.map V.str) (some ((ks.idxOf ZO:Nat):Int)) (some ((Xo ws ks:Nat):Int))))=H2 at s2 e2 ⊢
     rw [UC,← List.map_take] at e1
     rw [Zjk hat.1 (by rw [List.length_map];exact hat.2),← List.map_drop,← List.map_take] at e2
     have fm:Fits ((ws.drop (ks.idxOf ZO)).take (Xo ws ks - ks.idxOf ZO)):=hf.sub ((List.take_sublist _ _).trans (List.drop_sublist _ _))
     have hmid:Txt.join " " ((ws.drop (ks.idxOf ZO)).take (Xo ws ks - ks.idxOf ZO))=Txt.join (Str.ofString " ") ((ws.drop (ks.idxOf ZO)).take (Xo ws ks - ks.idxOf ZO)):=rfl
     dsimp only [YF]
     refine ⟨" ",p2,_,rfl,rfl,SqL.of e2,?_,(by show 1≤sizeLine;decide),fun p3 hp3=>?_⟩
     · unfold Fits at fm
       rw [show (Str.ofString " ").length=1 by decide +kernel];omega
     have s3:=Zh hp3 (.lst [V.str (Txt.join " " ((ws.drop (ks.idxOf ZO)).take (Xo ws ks - ks.idxOf ZO)))])
     have e3:upd H2 p3 (.lst [V.str (Txt.join " " ((ws.drop (ks.idxOf ZO)).take (Xo ws ks - ks.idxOf ZO)))]) p3=_:=Zd
     generalize upd H2 p3 (.lst [V.str (Txt.join " " ((ws.drop (ks.idxOf ZO)).take (Xo ws ks - ks.idxOf ZO)))])=H3 at s3 e3 ⊢
     have h13:=(s2.trans s3) _ _ e1
     refine ⟨p1,p3,_,_,rfl,rfl,h13,e3,ZB (show _≤100000 by rw [List.length_map,List.length_take,List.length_singleton];omega),fun p4 hp4=>?_⟩
     have s4:=Zh hp4 (.lst ((ws.take (ks.idxOf ZO)).map V.str++[V.str (Txt.join " " ((ws.drop (ks.idxOf ZO)).take (Xo ws ks - ks.idxOf ZO)))]))
     have e4:upd H3 p4 (.lst ((ws.take (ks.idxOf ZO)).map V.str++[V.str (Txt.join " " ((ws.drop (ks.idxOf ZO)).take (Xo ws ks - ks.idxOf ZO)))])) p4=_:=Zd
     generalize upd H3 p4 (.lst ((ws.take (ks.idxOf ZO)).map V.str++[V.str (Txt.join " " ((ws.drop (ks.idxOf ZO)).take (Xo ws ks - ks.idxOf ZO)))]))=H4 at s4 e4 ⊢
     have s14:=((s1.trans s2).trans s3).trans s4
     refine ⟨_,rfl,_,rfl,_,rfl,a,_,rfl,SqL.of (s14 _ _ ea),fun p5 hp5=>?_⟩
     rw [VX,← List.map_drop]
     have s5:=Zh hp5 (.lst ((ws.drop (Xo ws ks)).map V.str))
     refine ⟨p4,p5,_,_,rfl,rfl,s5 _ _ e4,Zd,ZB (show _≤100000 by rw [List.length_append,List.length_map,List.length_map,List.length_take,List.length_drop,List.length_singleton];omega),fun p6 hp6=>q p6 _ ((s14.trans s5).trans (Zh hp6 _)) ?_⟩
     rw [Zd]
     unfold YI
     rw [if_neg (by rintro (z | z);exact z c1;omega)]
     simp
 · rw [decide_eq_false c1]
   exact ZQ ⟨_,rfl,q a H (Same.refl H) (by unfold YI;rw [if_pos (.inl c1)];exact ea)⟩
def spPs:Sp:=fun vs H Q _=>∃(a b:Addr)(ws ks:List Str),vs=[.ref a,.ref b]∧H a=some (.lst (ws.map V.str))∧H b=some (.lst (ks.map V.str))∧Fits ws∧ks.length≤10∧(YE ws ks=none→∀ H',Same H H'→Q .non H')∧(∀ vs,YE ws ks=some vs→∀ l H',Same H H'→H' l=some (.lst vs)→Q (.ref l) H')
abbrev nPs:List Str:=["words","kinds","whole","parts"]
abbrev ZhD:List Str:=["words","kinds"]
theorem scPs:Zt nPs ZhD (Zj s_parts_from):=⟨rfl,rfl,rfl,by decide +kernel,rfl,by decide +kernel,by decide +kernel⟩
theorem ZhN {f:Addr}{fd:FuncData}(F:Fun K "parts_from" "parts_from" s_parts_from f fd)(T:ZW mg)(DWw:Def P w K mg base 4 "whole_words" Zhd spWW)(DPf:Def P w K mg base 4 "part_from" ZgX spPF):FnOk P w K mg base ZR 5 f fd ZhD spPs:=by
 refine F.ok scPs (fun vs H Q E h=>?_) (fun cdv A outer s H vs Q E hr h=>?_)
 · obtain ⟨a,b,_,_,rfl,_⟩:=h;rfl
 obtain ⟨a,b,ws,ks,rfl,ea,eb,hf,hks,q1,q2⟩:=h
 refine' ⟨?t,?h,?r⟩
 case h =>
   conv=>arg 2;whnf
   with_reducible refine' (Zf ?h1 (Zf (Yb ?h2 (Zi ?h3) ZG) (Zf ?h4 (Zi ?h5))))
   case h1=>exact Zs (i:=2) scPs.nd rfl (Or.inl rfl) (Zq DWw hr (Zb (pv 0) (Zb (pv 1) Za)))
   case h2=>exact ZF Vv (Zl ZJ rfl T.len PySem.boot_len (Zb (pv 2) Za)) (Zl ZJ rfl T.len PySem.boot_len (Zb (pv 1) Za)) (ZE _)
   case h3=>exact Zp XB
   case h4=>exact Zdm (i:=3) (xa:="word") (xb:="kind") (CompOkT.of nPs s_parts_from rfl rfl (by decide +kernel)) rfl scPs.nd rfl (Or.inl rfl) (Zfl rfl T.zip (pv 2) (pv 1)) (fun _ _ _ _ _=>ZdB (K:=K) rfl rfl (ZD (i:=4) (show (Wy nPs "word" "kind"++(["word","kind"]:List Str)).Nodup by decide +kernel) rfl (Or.inl rfl) (Or.inr rfl)) (ZD (i:=5) (show (Wy nPs "word" "kind"++(["word","kind"]:List Str)).Nodup by decide +kernel) rfl (Or.inl rfl) (Or.inr rfl)))  (fun _ _ _ _ _=>Zq DPf hr (Zb (pv 4) (Zb (pv 5) Za))) rfl
   case h5=>exact Zp (YH (ZF UY XB (pv 3) rfl) XB (pv 3))
 refine ⟨_,rfl,_,rfl,a,b,ws,ks,rfl,ea,eb,hf,hks,fun l H1 s1 el=>?_⟩
 refine ⟨_,rfl,l,_,rfl,.inl (SqL.of el),_,rfl,b,_,rfl,.inl (SqL.of (s1 _ _ eb)),rfl,_,rfl,?_⟩
 rw [List.length_map,List.length_map]
 by_cases c1:(YI ws ks).length=ks.length
 · rw [decide_eq_true (by rw [c1])]
   refine ZI ⟨_,rfl,_,rfl,l,b,_,_,rfl,el,s1 _ _ eb,fun D hD=>?_⟩
   have hkl:ks.length≤100000:=by omega
   refine Zbt (K:=K) (xs:=(YI ws ks).map V.str) (zs:=ks.map V.str) (ZB (show _≤100000 by rw [List.length_map];omega)) (by rw [List.length_map,List.length_map,c1]) (fun i ys H'=>Same H H'∧H' D=some (.lst ys)∧ys=(Xk ws ks).take i∧i≤ks.length∧H' l=some (.lst ((YI ws ks).map V.str))) ⟨(s1.trans (Zh hD _)),Zd,by rw [List.take_zero],Nat.zero_le _,Zh hD _ _ _ el⟩ ?_ ?_ ?_
   · rintro i ys H' ⟨s2,_,rfl,hi,el2⟩
     have:(Xk ws ks).length=ks.length:=by unfold Xk;rw [List.length_zipWith,c1,Nat.min_self]
     exact ⟨by rw [List.length_take,this];omega,SqL.of el2,SqL.of (s2 _ _ eb)⟩
   · rintro i x z t ys H' wa wb hx hz ht ⟨s2,eD,rfl,hi,el2⟩
     rw [List.getElem?_map] at hx hz
     obtain ⟨u,eu,rfl⟩:=Option.map_eq_some_iff.mp hx
     obtain ⟨k,ek,rfl⟩:=Option.map_eq_some_iff.mp hz
     have s3:=Zh ht (.tup [.str u,.str k])
     refine ⟨t,_,rfl,SqT.of Zd,rfl,_,_,rfl,_,_,rfl,rfl,⟨_,_,rfl⟩,_,rfl,_,rfl,u,k,rfl,ZhX hf u (List.mem_of_getElem? eu),fun H4 s4=>?_⟩
     have hlD:l≠D:=fun z=>by rw [z,hD] at el;cases el
     refine ⟨s4 _ _ (s3 _ _ eD),fun c o e=>?_,Zd,?_,(List.getElem?_eq_some_iff.mp ek).1,?_⟩
     · rw [Zo (ZH (s1 _ _ e) hD)];exact s4 _ _ (s3 _ _ (s2 _ _ e))
     · rw [List.take_add_one]
       congr 1
       unfold Xk
       rw [List.getElem?_zipWith,eu,ek];rfl
     · rw [Zo hlD];exact s4 _ _ (s3 _ _ el2)
   · rintro ys H' ⟨s2,eD,rfl,hi,el2⟩
     have hpl:(Xk ws ks).length=(YI ws ks).length:=by unfold Xk;rw [List.length_zipWith,c1,Nat.min_self]
     rw [List.length_map,← hpl,List.take_length] at eD
     refine ⟨_,rfl,D,_,rfl,.inl (SqL.of eD),rfl,?_,_,rfl,?_⟩
     · unfold Xk
       rw [List.all_eq_true]
       intro v hv
       obtain ⟨i,hi,rfl⟩:=List.getElem_of_mem hv
       rw [List.getElem_zipWith]
       exact ZeH _ _
     · show if XZ .non (Xk ws ks)=true then _ else _
       cases e:XZ .non (Xk ws ks) with
       | true=>exact ZQ (q1 (by unfold YE;rw [if_pos c1,e,if_pos rfl]) H' s2)
       | false=>exact ZI ⟨_,rfl,q2 _ (by unfold YE;rw [if_pos c1,e,if_neg (by decide)]) D H' s2 eD⟩
 · rw [decide_eq_false (fun z=>c1 (by injection z with z;omega))]
   exact ZQ (q1 (by unfold YE;rw [if_neg c1]) H1 s1)
def unS:V→Str
 | .str x=>x
 | _=>""
theorem ZiR {x:Str}{xs:List V}(h:YV x=some xs):xs=(xs.map unS).map V.str∧xs.length≤3:=by
 unfold YV at h
 obtain ⟨ys,e,rfl⟩:=Option.map_eq_some_iff.mp h
 have all:∀ p∈Xq,(p.2.filter fun v=>!decide (v=.str "program"))=((p.2.filter fun v=>!decide (v=.str "program")).map unS).map V.str:=by decide +kernel
 have mem:∀ (D:List (Str×List V)),PyProof.Rows.KTD.datumAt x D=some ys→∃ p∈D,p.2=ys:=by
   intro D
   induction D with
   | nil=>intro h;cases h
   | cons p D ih =>
     intro h
     rw [PyProof.Rows.KTD.datumAt] at h
     split at h
     · cases h;exact ⟨p,List.mem_cons_self,rfl⟩
     · obtain ⟨q,hq,e⟩:=ih h;exact ⟨q,List.mem_cons_of_mem _ hq,e⟩
 obtain ⟨p,hp,rfl⟩:=mem _ e
 exact ⟨all p hp,Nat.le_trans (List.length_filter_le _ _) (ZaB e).1⟩
def Zaa (row:Str):Option (List V):=match Txt.split row (Str.ofString " ") with
 | []=>none
 | w0::ws=>match YV w0 with
   | none=>none
   | some xs=>(YE ws (xs.map unS)).map (V.str w0::·)
theorem ZfL {ws ks:List Str}{vs:List V}(h:YE ws ks=some vs):vs.length=ks.length:=by
 unfold YE at h
 split at h
 · rename_i c
   split at h
   · cases h
   · cases h;unfold Xk;rw [List.length_zipWith,c,Nat.min_self]
 · cases h
theorem Zbo {H H':Hp}{p:Addr}(s:Same H H')(h:H' p=none):H p=none:=by
 cases e:H p with
 | none=>rfl
 | some o=>rw [s _ _ e] at h;cases h
def spHF:Sp:=fun vs H Q _=>∃ row:Str,vs=[.str row]∧row.length≤90000∧(Zaa row=none→∀ H',Same H H'→Q .non H')∧(∀ hs,Zaa row=some hs→∀ a H',Same H H'→H a=none→H' a=some (.tup hs)→Q (.ref a) H')
abbrev nHf:List Str:=["row","word","words","parts"]
abbrev Zib:List Str:=["row"]
theorem scHf:Zt nHf Zib (Zj s_head_from):=⟨rfl,rfl,rfl,by decide +kernel,rfl,by decide +kernel,by decide +kernel⟩
theorem Zht {f:Addr}{fd:FuncData}(F:Fun K "head_from" "head_from" s_head_from f fd)(T:ZW mg)(DKi:Def P w K mg base 5 "kinds_of" ZcC (Vt K))(DKR:Def P w K mg base 5 "kinds_in_row" ZeK (Zhe K))(DPs:Def P w K mg base 5 "parts_from" ZhD spPs):FnOk P w K mg base ZR 6 f fd Zib spHF:=by
 refine F.ok scHf (fun vs H Q E h=>?_) (fun cdv A outer s H vs Q E hr h=>?_)
 · obtain ⟨a,rfl,_⟩:=h;rfl
 obtain ⟨row,rfl,hr0,q1,q2⟩:=h
 refine' ⟨?t,?h,?r⟩
 case h =>
   conv=>arg 2;whnf
   with_reducible refine' (Zf ?h1 (Zf (Yb ?h2 (Zi ?h3) ZG) (Zf ?h4 (Zi ?h5))))
   case h1=>exact Uk (Yd PySem.F.plainAttrs_str PySem.F.slot_str_split PySem.F.type_str_split Zcl (pv 0) (Zb Zn Za)) (ZiN rfl (ZD (i:=1) scHf.nd rfl (Or.inl rfl)) (ZD (i:=2) scHf.nd rfl (Or.inl rfl)))
   case h2=>exact Zaf (Zau (Zq DKi hr (Zb (pv 1) Za)))
   case h3=>exact Zp XB
   case h4=>exact Zs (i:=3) scHf.nd rfl (Or.inl rfl) (Zq DPs hr (Zb (pv 2) (Zb (Zq DKR hr (Zb (pv 1) Za)) Za)))
   case h5=>exact Zp (YH (Zaf (Zau (pv 3))) XB (Zk Ur (Ya (Zb (pv 1) Za)) (Yv Xe rfl T.tuple (by decide +kernel) (Zb (pv 3) Za))))
 refine ⟨_,rfl,rfl,row,_,rfl,rfl,(by decide +kernel),by omega,fun l hl=>?_⟩
 have hw:=PyProof.Rows.split_weight row (Str.ofString " ") (by decide +kernel)
 unfold Zaa at q1 q2
 cases e:Txt.split row (Str.ofString " ") with
 | nil=>exact absurd e (Wh _ _)
 | cons w0 ws =>
   rw [e] at hw q1 q2
   simp only [List.map_cons,List.sum_cons,List.length_cons] at hw
   have hfit:Fits ws:=by unfold Fits;omega
   refine ⟨l,.str w0,ws.map V.str,rfl,SqL.of Zd,by rw [List.length_map];omega,fun D hD=>?_⟩
   have s0:Same H (upd (upd H l (.lst ((w0::ws).map V.str))) D (.lst (ws.map V.str))):=(Zh hl _).trans (Zh hD _)
   have eD:upd (upd H l (.lst ((w0::ws).map V.str))) D (.lst (ws.map V.str)) D=_:=Zd
   generalize upd (upd H l (.lst ((w0::ws).map V.str))) D (.lst (ws.map V.str))=H1 at s0 eD ⊢
   refine ⟨_,rfl,w0,rfl,fun b xs e1 e2=>?_,fun e1=>?_⟩
   · refine ⟨_,rfl,ZI ?_⟩
     have hk:YV w0=some (xs.filter fun v=>!decide (v=.str "program")):=by unfold YV;rw [e1];rfl
     obtain ⟨k1,k2⟩:=ZiR hk
     simp only [hk] at q1 q2
     generalize (xs.filter fun v=>!decide (v=V.str "program"))=zs at hk k1 k2 q1 q2
     refine ⟨_,rfl,_,rfl,w0,zs,rfl,hk,fun l2 H2 s2 hl2 el2=>?_⟩
     rw [k1] at el2
     refine ⟨D,l2,ws,zs.map unS,rfl,s2 _ _ eD,el2,hfit,by rw [List.length_map];omega,fun e3 H3 s3=>?_,fun vs e3 l3 H3 s3 el3=>?_⟩
     · refine ⟨_,rfl,_,rfl,ZQ (q1 (by rw [e3];rfl) H3 ((s0.trans s2).trans s3))⟩
     · refine ⟨_,rfl,_,rfl,ZI ?_⟩
       have hvl:vs.length≤3:=by rw [ZfL e3,List.length_map];exact k2
       have s3':=(s0.trans s2).trans s3
       refine ⟨_,rfl,(by show 1≤sizeLine;decide),fun p1 hp1=>?_⟩
       have s4:=Zh hp1 (.tup [V.str w0])
       refine ⟨_,rfl,l3,vs,rfl,.inl ⟨SqL.of (s4 _ _ el3),fun p2 hp2=>?_⟩⟩
       have s5:=Zh hp2 (.tup vs)
       refine ⟨p1,p2,[.str w0],vs,rfl,rfl,SqT.of (s5 _ _ Zd),SqT.of Zd,by simp,ZB (show _≤100000 by rw [List.length_singleton];omega),fun hv=>?_,fun hv p3 hp3=>?_⟩
       · subst hv
         exact q2 _ (by rw [e3];rfl) p1 _ ((s3'.trans s4).trans s5) (Zbo s3' hp1) (s5 _ _ Zd)
       · exact q2 _ (by rw [e3];rfl) p3 _ (((s3'.trans s4).trans s5).trans (Zh hp3 _)) (Zbo ((s3'.trans s4).trans s5) hp3) Zd
   · have hk:YV w0=none:=by unfold YV;rw [e1];rfl
     simp only [hk] at q1
     exact ⟨_,rfl,ZQ (q1 trivial H1 s0)⟩
end
end K68
set_option maxHeartbeats 4000000
namespace K68
open PySem L2
def _root_.L2.Pg.vl:Pg→List V
 | .set x v s=>[.str x,v,.str s]
 | .look x=>[.str x]
 | .slot _ s=>[.str s]
 | .pass=>[]
 | .blk _ _=>[]
 | .inn s _=>[.str s]
def _root_.L2.Pg.hv (p:Pg):List V:=.str p.word::p.vl
theorem Zgp {x:Str}(h:ZY x){c:Nat}(hc:Ux c=false):c ∉ x.cps.toList:=fun m=>by
 have:=List.all_eq_true.mp h.2.2 c m
 rw [hc] at this;cases this
theorem XV {x:Str}(h:ZY x):Txt.split x (Str.ofString " ")=[x]:=by rw [bl1];exact Ve (Zgp h (by decide))
theorem ZfT {p : Pg}(h:p.ok):Txt.split p.word (Str.ofString " ")=[p.word]:=by
 rw [bl1]
 refine Ve ?_
 cases p with
 | set x v s=>exact (show (32:Nat) ∉ (Str.ofString "set").cps.toList by decide +kernel)
 | look x=>exact (show (32:Nat) ∉ (Str.ofString "look").cps.toList by decide +kernel)
 | slot w s => rcases h.1 with rfl | rfl
               · exact (show (32:Nat) ∉ (Str.ofString "back").cps.toList by decide +kernel)
               · exact (show (32:Nat) ∉ (Str.ofString "copy").cps.toList by decide +kernel)
 | pass=>exact (show (32:Nat) ∉ (Str.ofString "pass").cps.toList by decide +kernel)
 | blk w ps => rcases h.1 with rfl | rfl
               · exact (show (32:Nat) ∉ (Str.ofString "begin").cps.toList by decide +kernel)
               · exact (show (32:Nat) ∉ (Str.ofString "late").cps.toList by decide +kernel)
 | inn s ps=>exact (show (32:Nat) ∉ (Str.ofString "in").cps.toList by decide +kernel)
theorem Zls {p : Pg}(h:p.ok):YV p.word=some (p.ks.map V.str):=by
 cases p with
 | set x v s=>exact (show YV "set"=some ((["name","value","slot"]:List Str).map V.str) by decide +kernel)
 | look x=>exact (show YV "look"=some ((["name"]:List Str).map V.str) by decide +kernel)
 | slot w s => rcases h.1 with rfl | rfl
               · exact (show YV "back"=some ((["slot"]:List Str).map V.str) by decide +kernel)
               · exact (show YV "copy"=some ((["slot"]:List Str).map V.str) by decide +kernel)
 | pass=>exact (show YV "pass"=some (([]:List Str).map V.str) by decide +kernel)
 | blk w ps => rcases h.1 with rfl | rfl
               · exact (show YV "begin"=some (([]:List Str).map V.str) by decide +kernel)
               · exact (show YV "late"=some (([]:List Str).map V.str) by decide +kernel)
 | inn s ps=>exact (show YV "in"=some ((["slot"]:List Str).map V.str) by decide +kernel)
theorem Zjz (ks:List Str):(ks.map V.str).map unS=ks:=by rw [List.map_map];exact List.map_id' ks
theorem Ww {x k:Str}(h:ZY x)(hk:k≠ZO):YR x k=some (.str x):=by unfold YR;rw [if_neg hk,if_pos (ZjN h)]
theorem Vl {x k:Str}(h:ZY x)(hk:k≠ZO):YE [x] [k]=some [.str x]:=by
 have hw:YI [x] [k]=[x]:=by unfold YI;rw [if_pos (.inr (Nat.le_refl _))]
 unfold YE Xk
 rw [hw,if_pos (show [x].length=[k].length from rfl)]
 show (if XZ .non [(YR x k).getD .non]=true then none else some [(YR x k).getD .non])=_
 rw [Ww h hk];rfl
theorem vl_ne:(Str.ofString "name")≠ZO∧(Str.ofString "slot")≠ZO:=⟨by decide +kernel,by decide +kernel⟩
theorem Zfs {x s:Str}{v:V}(hx:ZY x)(hv:IsVal v)(hs:ZY s):YE (x::(Txt.split (Yr v) (Str.ofString " ")++[s])) [Str.ofString "name",ZO,Str.ofString "slot"]=some [.str x,v,.str s]:=by
 have hj:Txt.join " " (Txt.split (Yr v) (Str.ofString " "))=Yr v:=by rw [tj];exact StrLaws.join_split _ _
 have hne:=Wh (Yr v) (Str.ofString " ")
 generalize Txt.split (Yr v) (Str.ofString " ")=sv at hj hne
 have hix:([Str.ofString "name",ZO,Str.ofString "slot"]:List Str).idxOf ZO=1:=by decide +kernel
 have hmem:ZO∈([Str.ofString "name",ZO,Str.ofString "slot"]:List Str):=by decide +kernel
 have hw : YI (x::(sv++[s])) [Str.ofString "name",ZO,Str.ofString "slot"]=[x,Yr v,s]:=by
   unfold YI Xo
   rw [hix]
   by_cases c:(x::(sv++[s])).length≤3
   · rw [if_pos (.inr c)]
     cases sv with
     | nil=>exact absurd rfl hne
     | cons a r =>
       cases r with
       | nil =>
         have:a=Yr v:=by rw [tj] at hj;exact hj
         rw [this];rfl
       | cons b r=>simp at c
   · rw [if_neg (by rintro (z | z);exact z hmem;exact c z)]
     have hl:1+1+(x::(sv++[s])).length - [Str.ofString "name",ZO,Str.ofString "slot"].length=sv.length+1:=by simp;omega
     rw [hl]
     simp only [List.take_succ_cons,List.take_zero,List.drop_succ_cons,List.drop_zero,Nat.add_sub_cancel]
     rw [List.take_left,List.drop_left,hj];rfl
 unfold YE Xk
 rw [hw,if_pos (show [x,Yr v,s].length=[Str.ofString "name",ZO,Str.ofString "slot"].length from rfl)]
 show (if XZ .non [(YR x (Str.ofString "name")).getD .non,(YR (Yr v) ZO).getD .non,(YR s (Str.ofString "slot")).getD .non]=true then none else some _)=_
 have e2:YR (Yr v) ZO=some v:=by unfold YR;rw [if_pos rfl];exact Zgk hv
 simp only [Ww hx vl_ne.1,Ww hs vl_ne.2,e2,Option.getD_some]
 have hn:WE v .non=false:=by
   cases v with
   | int i=>rfl
   | str y=>rfl
   | _=>exact hv.elim
 rw [if_neg]
 · show some [(YR x (Str.ofString "name")).getD .non,(YR (Yr v) ZO).getD .non,(YR s (Str.ofString "slot")).getD .non]=_
   rw [Ww hx vl_ne.1,Ww hs vl_ne.2,e2];rfl
 · show ¬ (WE (.str x) .non || (WE v .non || (WE (.str s) .non || false)))=true
   rw [hn];exact Bool.false_ne_true
theorem ZdA {p:Pg}(h:p.ok):Zaa p.srow=some p.hv:=by
 have hs:Txt.split p.srow (Str.ofString " ")=p.word::p.ws.flatMap fun w=>Txt.split w (Str.ofString " "):=by
   unfold Pg.srow
   rw [tj,bl1,Zdf (by simp),List.flatMap_cons,← bl1,ZfT h];rfl
 unfold Zaa
 rw [hs]
 simp only [Zls h,Zjz]
 show (YE _ p.ks).map _=_
 cases p with
 | set x v s =>
   have e:(Pg.set x v s).ws.flatMap (fun w=>Txt.split w (Str.ofString " "))=x::(Txt.split (Yr v) (Str.ofString " ")++[s]):=by
     show Txt.split x _++(Txt.split (Yr v) _++(Txt.split s _++[]))=_
     rw [XV h.1,XV h.2.2];rfl
   rw [e]
   show (YE _ [Str.ofString "name",ZO,Str.ofString "slot"]).map _=_
   rw [Zfs h.1 h.2.1 h.2.2];rfl
 | look x =>
   show (YE (Txt.split x _++[]) [Str.ofString "name"]).map _=_
   rw [XV h,List.append_nil,Vl h vl_ne.1];rfl
 | slot w s =>
   show (YE (Txt.split s _++[]) [Str.ofString "slot"]).map _=_
   rw [XV h.2,List.append_nil,Vl h.2 vl_ne.2];rfl
 | pass=>rfl
 | blk w ps=>rfl
 | inn s ps =>
   show (YE (Txt.split s _++[]) [Str.ofString "slot"]).map _=_
   rw [XV h.1,List.append_nil,Vl h.1 vl_ne.2];rfl
def Xz (l:Nat)(r:Str):Str:=⟨(List.replicate (2 * l) 32++r.cps.toList).toArray⟩
def YU (x:Nat×Pg):Str:=Xz x.1 x.2.srow
mutual
def Yl (d:Nat):Pg→List (Nat×Pg)
 | .blk w ps=>(d,.blk w ps)::Yo (d+1) ps
 | .inn s ps=>(d,.inn s ps)::Yo (d+1) ps
 | .set x v s=>[(d,.set x v s)]
 | .look x=>[(d,.look x)]
 | .slot w s=>[(d,.slot w s)]
 | .pass=>[(d,.pass)]
def Yo (d:Nat):List Pg→List (Nat×Pg)
 | []=>[]
 | p::ps=>Yl d p++Yo d ps
end
theorem WM (l:Nat)(r:Str):Wa (Xz l r)=Xz (l+1) r:=by
 apply Yw
 show ((Str.ofString "  ")++Xz l r).cps.toList=_
 rw [YZ,show (Str.ofString "  ").cps.toList=[32,32] by decide +kernel]
 show [32,32]++(List.replicate (2 * l) 32++r.cps.toList)=List.replicate (2 * (l+1)) 32++r.cps.toList
 rw [show 2 * (l+1)=2 * l+1+1 by omega,List.replicate_succ,List.replicate_succ];rfl
theorem Wc (r:Str):Xz 0 r=r:=Yw (by show List.replicate 0 32++_=_;rfl)
mutual
theorem Zkz:∀(d:Nat)(p:Pg),(Yl (d+1) p).map YU=((Yl d p).map YU).map Wa
 | d,.blk w ps=>by
   have ih:=Ui (d+1) ps
   rw [Yl,Yl,List.map_cons,List.map_cons,List.map_cons,ih]
   congr 1;exact (WM d _).symm
 | d,.inn s ps=>by
   have ih:=Ui (d+1) ps
   rw [Yl,Yl,List.map_cons,List.map_cons,List.map_cons,ih]
   congr 1;exact (WM d _).symm
 | d,.set x v s=>by rw [Yl,Yl];show [Xz (d+1) _]=[Wa (Xz d _)];rw [WM]
 | d,.look x=>by rw [Yl,Yl];show [Xz (d+1) _]=[Wa (Xz d _)];rw [WM]
 | d,.slot w s=>by rw [Yl,Yl];show [Xz (d+1) _]=[Wa (Xz d _)];rw [WM]
 | d,.pass=>by rw [Yl,Yl];show [Xz (d+1) _]=[Wa (Xz d _)];rw [WM]
theorem Ui:∀(d:Nat)(ps:List Pg),(Yo (d+1) ps).map YU=((Yo d ps).map YU).map Wa
 | d,[]=>rfl
 | d,p::ps=>by
   have h1:=Zkz d p
   have h2:=Ui d ps
   rw [Yo,Yo,List.map_append,List.map_append,List.map_append,h1,h2]
end
mutual
theorem Zkf:∀ p:Pg,WF p=(Yl 0 p).map YU
 | .blk w ps=>by
   have ih:=WJ ps
   rw [ZZ,Yl,List.map_cons,Ui 0,← ih]
   rw [show YU (0,Pg.blk w ps)=_ from Wc _];rfl
 | .inn s ps=>by
   have ih:=WJ ps
   rw [ZZ,Yl,List.map_cons,Ui 0,← ih]
   rw [show YU (0,Pg.inn s ps)=_ from Wc _];rfl
 | .set x v s=>by rw [Yl];show [Pg.srow _]=[Xz 0 _];rw [Wc]
 | .look x=>by rw [Yl];show [Pg.srow _]=[Xz 0 _];rw [Wc]
 | .slot w s=>by rw [Yl];show [Pg.srow _]=[Xz 0 _];rw [Wc]
 | .pass=>by rw [Yl];show [Pg.srow _]=[Xz 0 _];rw [Wc]
theorem WJ:∀ ps:List Pg,Zu ps=(Yo 0 ps).map YU
 | []=>rfl
 | p::ps=>by
   have h1:=Zkf p
   have h2:=WJ ps
   rw [Yo,List.map_append,← h1,← h2];rfl
end
def VF:Nat→List (Nat×Pg)→Prop
 | _,[]=>True
 | m,(l,p)::r=>l≤m∧VF (if p.isB=true then l+1 else l) r
def Dm:List (Nat×Pg)→Nat→List Pg
 | [],_=>[]
 | (l,p)::r,k=>if k=l then p::Dm r l else if k=l+1∧p.isB=true then [] else Dm r k
def Wf:List (Nat×Pg)→Prop
 | []=>True
 | (l,p)::r=>(p.isB=true→Dm r (l+1)=p.inner)∧Wf r
mutual
theorem Zke:∀(p:Pg)(d m:Nat)(S:List (Nat×Pg)),d≤m→(∀ m',d≤m'→VF m' S)→VF m (Yl d p++S)
 | .blk w ps,d,m,S,h,hS=>by rw [Yl];exact ⟨h,Vo ps (d+1) (d+1) S (Nat.le_refl _) fun m' h'=>hS m' (by omega)⟩
 | .inn s ps,d,m,S,h,hS=>by rw [Yl];exact ⟨h,Vo ps (d+1) (d+1) S (Nat.le_refl _) fun m' h'=>hS m' (by omega)⟩
 | .set x v s,d,m,S,h,hS=>by rw [Yl];exact ⟨h,hS d (Nat.le_refl _)⟩
 | .look x,d,m,S,h,hS=>by rw [Yl];exact ⟨h,hS d (Nat.le_refl _)⟩
 | .slot w s,d,m,S,h,hS=>by rw [Yl];exact ⟨h,hS d (Nat.le_refl _)⟩
 | .pass,d,m,S,h,hS=>by rw [Yl];exact ⟨h,hS d (Nat.le_refl _)⟩
theorem Vo:∀(ps:List Pg)(d m:Nat)(S:List (Nat×Pg)),d≤m→(∀ m',d≤m'→VF m' S)→VF m (Yo d ps++S)
 | [],d,m,S,h,hS=>hS m h
 | p::ps,d,m,S,h,hS=>by
   rw [Yo,List.append_assoc]
   exact Zke p d m _ h fun m' h'=>Vo ps d m' S h' hS
end
mutual
theorem Zkl:∀(p:Pg)(d:Nat)(S:List (Nat×Pg)),(∀ k,d < k→Dm S k=[])→Wf S→(∀ k,Dm (Yl d p++S) k=if k=d then p::Dm S d else Dm S k)∧Wf (Yl d p++S)
 | .blk w ps,d,S,h,hW=>by
   obtain ⟨h1,h2⟩:=Vu ps (d+1) S (fun k hk=>h k (by omega)) hW
   rw [Yl]
   have e1:=h1 (d+1)
   rw [if_pos rfl,h (d+1) (by omega),List.append_nil] at e1
   refine ⟨fun k=>?_,fun _=>e1,h2⟩
   show (if k=d then _::Dm (Yo (d+1) ps++S) d else if k=d+1∧_ then [] else Dm (Yo (d+1) ps++S) k)=_
   by_cases c:k=d
   · rw [if_pos c,if_pos c,h1 d,if_neg (by omega)]
   · rw [if_neg c,if_neg c]
     by_cases c2:k=d+1
     · rw [if_pos ⟨c2,rfl⟩,c2,h (d+1) (by omega)]
     · rw [if_neg (fun z=>c2 z.1),h1 k,if_neg c2]
 | .inn s ps,d,S,h,hW=>by
   obtain ⟨h1,h2⟩:=Vu ps (d+1) S (fun k hk=>h k (by omega)) hW
   rw [Yl]
   have e1:=h1 (d+1)
   rw [if_pos rfl,h (d+1) (by omega),List.append_nil] at e1
   refine ⟨fun k=>?_,fun _=>e1,h2⟩
   show (if k=d then _::Dm (Yo (d+1) ps++S) d else if k=d+1∧_ then [] else Dm (Yo (d+1) ps++S) k)=_
   by_cases c:k=d
   · rw [if_pos c,if_pos c,h1 d,if_neg (by omega)]
   · rw [if_neg c,if_neg c]
     by_cases c2:k=d+1
     · rw [if_pos ⟨c2,rfl⟩,c2,h (d+1) (by omega)]
     · rw [if_neg (fun z=>c2 z.1),h1 k,if_neg c2]
 | .set x v s,d,S,h,hW=>by rw [Yl];exact ⟨fun k=>by show (if k=d then _ else if k=d+1∧false=true then [] else Dm S k)=_;rw [if_neg (show ¬ (k=d+1∧false=true) from fun z=>nomatch z.2)];rfl,(show Wf ((d,_)::S) from ⟨fun z=>absurd z Bool.false_ne_true,hW⟩)⟩
 | .look x,d,S,h,hW=>by rw [Yl];exact ⟨fun k=>by show (if k=d then _ else if k=d+1∧false=true then [] else Dm S k)=_;rw [if_neg (show ¬ (k=d+1∧false=true) from fun z=>nomatch z.2)];rfl,(show Wf ((d,_)::S) from ⟨fun z=>absurd z Bool.false_ne_true,hW⟩)⟩
 | .slot w s,d,S,h,hW=>by rw [Yl];exact ⟨fun k=>by show (if k=d then _ else if k=d+1∧false=true then [] else Dm S k)=_;rw [if_neg (show ¬ (k=d+1∧false=true) from fun z=>nomatch z.2)];rfl,(show Wf ((d,_)::S) from ⟨fun z=>absurd z Bool.false_ne_true,hW⟩)⟩
 | .pass,d,S,h,hW=>by rw [Yl];exact ⟨fun k=>by show (if k=d then _ else if k=d+1∧false=true then [] else Dm S k)=_;rw [if_neg (show ¬ (k=d+1∧false=true) from fun z=>nomatch z.2)];rfl,(show Wf ((d,_)::S) from ⟨fun z=>absurd z Bool.false_ne_true,hW⟩)⟩
theorem Vu:∀(ps:List Pg)(d:Nat)(S:List (Nat×Pg)),(∀ k,d < k→Dm S k=[])→Wf S→(∀ k,Dm (Yo d ps++S) k=if k=d then ps++Dm S d else Dm S k)∧Wf (Yo d ps++S)
 | [],d,S,h,hW=>⟨fun k=>by by_cases c:k=d<;>simp [Yo,c],hW⟩
 | p::ps,d,S,h,hW=>by
   obtain ⟨h1,h2⟩:=Vu ps d S h hW
   obtain ⟨h3,h4⟩:=Zkl p d (Yo d ps++S) (fun k hk=>by rw [h1 k,if_neg (by omega)];exact h k hk) h2
   rw [Yo,List.append_assoc]
   refine ⟨fun k=>?_,h4⟩
   rw [h3 k]
   by_cases c:k=d
   · rw [if_pos c,if_pos c,h1 d,if_pos rfl];rfl
   · rw [if_neg c,if_neg c,h1 k,if_neg c]
end
theorem ZdQ (ps:List Pg):Dm (Yo 0 ps) 0=ps∧Wf (Yo 0 ps)∧VF 0 (Yo 0 ps):=by
 obtain ⟨h1,h2⟩:=Vu ps 0 [] (fun _ _=>rfl) trivial
 have h3:=Vo ps 0 0 [] (Nat.le_refl _) fun _ _=>trivial
 rw [List.append_nil] at h1 h2 h3
 exact ⟨by rw [h1 0,if_pos rfl];exact List.append_nil _,h2,h3⟩
mutual
theorem ZiL:∀(p:Pg)(d:Nat),p.ok→∀ x∈Yl d p,x.2.ok∧x.1≤d+p.hgt
 | .blk w ps,d,h,x,hx=>by
   rw [Yl] at hx
   rcases List.mem_cons.mp hx with rfl | hx
   · exact ⟨h,Nat.le_add_right _ _⟩
   · have:=Wl ps (d+1) h.2 x hx
     exact ⟨this.1,by show _≤d+(Pg.hgts ps+1);omega⟩
 | .inn s ps,d,h,x,hx=>by
   rw [Yl] at hx
   rcases List.mem_cons.mp hx with rfl | hx
   · exact ⟨h,Nat.le_add_right _ _⟩
   · have:=Wl ps (d+1) h.2 x hx
     exact ⟨this.1,by show _≤d+(Pg.hgts ps+1);omega⟩
 | .set x v s,d,h,y,hx=>by rw [Yl] at hx;rw [List.mem_singleton.mp hx];exact ⟨h,Nat.le_add_right _ _⟩
 | .look x,d,h,y,hx=>by rw [Yl] at hx;rw [List.mem_singleton.mp hx];exact ⟨h,Nat.le_add_right _ _⟩
 | .slot w s,d,h,y,hx=>by rw [Yl] at hx;rw [List.mem_singleton.mp hx];exact ⟨h,Nat.le_add_right _ _⟩
 | .pass,d,h,y,hx=>by rw [Yl] at hx;rw [List.mem_singleton.mp hx];exact ⟨h,Nat.le_add_right _ _⟩
theorem Wl:∀(ps:List Pg)(d:Nat),Pg.oks ps→∀ x∈Yo d ps,x.2.ok∧x.1≤d+Pg.hgts ps
 | [],d,h,x,hx=>(nomatch hx)
 | p::ps,d,h,x,hx=>by
   rw [Yo] at hx
   have e:Pg.hgts (p::ps)=max p.hgt (Pg.hgts ps):=rfl
   rcases List.mem_append.mp hx with hx | hx
   · have:=ZiL p d h.1 x hx;exact ⟨this.1,by omega⟩
   · have:=Wl ps d h.2 x hx;exact ⟨this.1,by omega⟩
end
theorem Zcq (ps:List Pg):(Yo 0 ps).length=Pg.manys ps:=by
 have h:=congrArg List.length (WJ ps)
 rw [List.length_map,Yy] at h;exact h.symm
end K68
set_option maxHeartbeats 4000000
namespace K68
open PySem L2
theorem Zem {p : Pg}(h:p.ok):p.srow.cps.toList.head?≠some 32:=by
 have hw:∃ c r,p.word.cps.toList=c::r∧c≠32:=by
   cases p with
   | set x v s=>exact ⟨115,[101,116],(show (Str.ofString "set").cps.toList=_ by decide +kernel),by decide⟩
   | look x=>exact ⟨108,[111,111,107],(show (Str.ofString "look").cps.toList=_ by decide +kernel),by decide⟩
   | slot w s => rcases h.1 with rfl | rfl
                 · exact ⟨98,[97,99,107],(show (Str.ofString "back").cps.toList=_ by decide +kernel),by decide⟩
                 · exact ⟨99,[111,112,121],(show (Str.ofString "copy").cps.toList=_ by decide +kernel),by decide⟩
   | pass=>exact ⟨112,[97,115,115],(show (Str.ofString "pass").cps.toList=_ by decide +kernel),by decide⟩
   | blk w ps => rcases h.1 with rfl | rfl
                 · exact ⟨98,[101,103,105,110],(show (Str.ofString "begin").cps.toList=_ by decide +kernel),by decide⟩
                 · exact ⟨108,[97,116,101],(show (Str.ofString "late").cps.toList=_ by decide +kernel),by decide⟩
   | inn s ps=>exact ⟨105,[110],(show (Str.ofString "in").cps.toList=_ by decide +kernel),by decide⟩
 obtain ⟨c,r,e,hc⟩:=hw
 have:∃ r',p.srow.cps.toList=c::r':=by
   unfold Pg.srow
   rw [tj,bl1]
   cases p.ws with
   | nil=>exact ⟨r,e⟩
   | cons a b=>rw [YC,e];exact ⟨_,rfl⟩
 obtain ⟨r',e'⟩:=this
 rw [e']
 intro z
 exact hc (by simpa using z)
theorem ZfJ (p:Nat→Bool)(hp:p 32=true):∀(n:Nat)(l:List Nat),(List.replicate n 32++l).dropWhile p=l.dropWhile p
 | 0,l=>rfl
 | n+1,l=>by rw [List.replicate_succ,List.cons_append,List.dropWhile_cons,if_pos hp];exact ZfJ p hp n l
theorem Zec {r:Str}(l:Nat)(h:r.cps.toList.head?≠some 32):Txt.lstripChars (Xz l r) (Str.ofString " ")=r:=by
 apply Yw
 rw [ZcP,bl1]
 show (List.replicate (2 * l) 32++r.cps.toList).dropWhile _=_
 rw [ZfJ _ (by simp)]
 cases e:r.cps.toList with
 | nil=>rfl
 | cons c t =>
   rw [e] at h
   rw [List.dropWhile_cons,if_neg]
   intro z
   have:c=32:=by simpa using z
   exact h (by rw [this];rfl)
theorem Zdx (l:Nat)(r:Str):(Xz l r).length=2 * l+r.length:=by
 show (List.replicate (2 * l) 32++r.cps.toList).toArray.size=_
 rw [List.size_toArray,List.length_append,List.length_replicate,← ZM]
theorem Zko {b:Nat}(h:b≤1000):MulOk "  " (b:Int):=by
 refine ⟨?_,fun h1 _=>?_,fun h1 _=>?_⟩
 · rw [Bool.or_eq_false_iff];exact ⟨decide_eq_false (by omega),decide_eq_false (by omega)⟩
 · rw [show (Str.ofString "  ").length=2 by decide +kernel]
   have:(1000:Int)≤(2 ^ 63 - 1) / (b:Int):=by
     rw [Int.le_ediv_iff_mul_le (by omega)]
     omega
   omega
 · rw [show (Str.ofString "  ").length=2 by decide +kernel]
   have:2000≤sizeLine:=by decide
   exact decide_eq_false (by omega)
theorem Zbp:∀(n:Nat)(A:Array Nat),((List.replicate n (#[32,32]:Array Nat)).foldl (·++·) A).toList=A.toList++List.replicate (2 * n) 32
 | 0,A=>by simp
 | n+1,A=>by
   rw [List.replicate_succ,List.foldl_cons,Zbp n,show 2 * (n+1)=2 * n+1+1 by omega]
   simp [List.replicate_succ]
theorem ZfK (b:Nat):(Txt.mul (Str.ofString "  ") (b:Int)).cps.toList=List.replicate (2 * b) 32:=by
 unfold Txt.mul
 match b with
 | 0=>rfl
 | 1=>decide +kernel
 | n+2 =>
   rw [if_neg (by omega),if_neg (by rw [show ((((n+2:Nat)):Int) == 1)=false from decide_eq_false (by omega)];decide +kernel)]
   have:=Zbp (n+2) #[]
   rw [show ((((n+2:Nat)):Int)).toNat=n+2 by omega,show (Str.ofString "  ").cps=#[32,32] by decide +kernel]
   exact this
theorem ZdC (l:Nat)(r:Str):Txt.mul (Str.ofString "  ") (l:Int)++r=Xz l r:=by
 apply Yw
 rw [YZ,ZfK];rfl
def HdAt (H:Hp)(v:V)(x:Nat×Pg):Prop:=∃ t h,v=.ref t∧H t=some (.tup [.int (x.1:Int),.ref h])∧H h=some (.tup x.2.hv)
theorem HdAt.same {H H':Hp}{v:V}{x:Nat×Pg}(s:Same H H')(h:HdAt H v x):HdAt H' v x:=by
 obtain ⟨t,a,e1,e2,e3⟩:=h;exact ⟨t,a,e1,s _ _ e2,s _ _ e3⟩
theorem HdAt.tf {H H':Hp}{v:V}{x:Nat×Pg}(s:TF H H')(h:HdAt H v x):HdAt H' v x:=by
 obtain ⟨t,a,e1,e2,e3⟩:=h;exact ⟨t,a,e1,s.tup _ _ e2,s.tup _ _ e3⟩
inductive HdL (H:Hp):List V→List (Nat×Pg)→Prop
 | nil:HdL H [] []
 | cons {v x vs xs}:HdAt H v x→HdL H vs xs→HdL H (v::vs) (x::xs)
theorem HdL.tf {H H':Hp}(s:TF H H'):∀{vs xs},HdL H vs xs→HdL H' vs xs
 | _,_,.nil=>.nil
 | _,_,.cons a b=>.cons (a.tf s) (b.tf s)
theorem HdL.app {H:Hp}{v:V}{x:Nat×Pg}:∀{vs xs},HdL H vs xs→HdAt H v x→HdL H (vs++[v]) (xs++[x])
 | _,_,.nil,h=>.cons h .nil
 | _,_,.cons a b,h=>.cons a (b.app h)
theorem HdL.len {H:Hp}:∀{vs xs},HdL H vs xs→vs.length=xs.length
 | _,_,.nil=>rfl
 | _,_,.cons _ b=>by rw [List.length_cons,List.length_cons,b.len]
theorem HdL.at {H:Hp}:∀{vs xs}{i:Nat}{v:V},HdL H vs xs→vs[i]?=some v→∃ x,xs[i]?=some x∧HdAt H v x
 | _,_,_,_,.nil,h=>by simp at h
 | _,_,0,_,.cons a _,h=>by cases h;exact ⟨_,rfl,a⟩
 | _,_,i+1,_,.cons _ b,h=>HdL.at (i:=i) b h
theorem ZgJ:∀{hs:List (Nat×Pg)}{i:Nat}{x:Nat×Pg}{m:Nat},hs[i]?=some x→VF m (hs.drop i)→x.1≤m∧VF (if x.2.isB=true then x.1+1 else x.1) (hs.drop (i+1)):=by
 intro hs i x m h ho
 obtain ⟨h1,h2⟩:=List.getElem?_eq_some_iff.mp h
 rw [List.drop_eq_getElem_cons h1,h2] at ho
 obtain ⟨l,p⟩:=x
 exact ho
section
variable {P:Program}{w:World}{K:PySem.W.Frag}{mg:Str→Option Value}{base:Heap}{tk:Tok}
def spHs:Sp:=fun vs H Q _=>∃(a:Addr)(k:Nat)(hs:List (Nat×Pg)),vs=[.ref a,.int (k:Int)]∧k≤1000∧H a=some (.lst ((hs.map YU).map V.str))∧(∀ x∈hs,x.2.ok∧x.1≤200)∧VF 0 hs∧hs.length≤1000∧∀ l vs H',Same H H'→H' l=some (.lst vs)→HdL H' vs hs→Q (.ref l) H'
abbrev nHs:List Str:=["rows","first","heads","most","number","row","words","level","head"]
abbrev Zhh:List Str:=["rows","first"]
theorem scHs:Zt nHs Zhh (Zj s_heads_from):=⟨rfl,rfl,rfl,by decide +kernel,rfl,by decide +kernel,by decide +kernel⟩
theorem Zgr {f:Addr}{fd:FuncData}(F:Fun K "heads_from" "heads_from" s_heads_from f fd)(T:ZW mg)(hFI:mg "FURTHER_IN"=some (.str "  " tk))(DHf:Def P w K mg base 6 "head_from" Zib spHF)(DHw:Def P w K mg base 6 "has_within" Zda Zar):FnOk P w K mg base ZR 7 f fd Zhh spHs:=by
 refine F.ok scHs (fun vs H Q E h=>?_) (fun cdv A outer s H vs Q E hr h=>?_)
 · obtain ⟨a,_,_,rfl,_⟩:=h;rfl
 obtain ⟨a,k,hs,rfl,hk,ea,hok,hH,hl,q⟩:=h
 refine' ⟨?t,?h,?r⟩
 case h =>
   conv=>arg 2;whnf
   with_reducible refine' (Zf ?h1 (Zf ?h2 (Zf (Xn ?h3 ?h4 ?h5 ?h6 (Zf ?h7 (Zf ?h8 (Zf ?h9 (Zf (Yb ?h10 (Zi Zip) ZG) (Zf ?h11 (Zi ?h12)))))) ?h13) (Zi ?h14))))
   case h1=>exact Zs (i:=2) scHs.nd rfl (Or.inl rfl) (ZN Za)
   case h2=>exact Zs (i:=3) scHs.nd rfl (Or.inl rfl) Zc
   case h3=>exact PassesOwn.never
   case h4=>exact rfl
   case h5=>exact ZgR rfl T.enumerate (pv 0) (pv 1)
   case h6=>exact Wr rfl (Yj (ZD (i:=4) scHs.nd rfl (Or.inl rfl)) (Yj (ZD (i:=5) scHs.nd rfl (Or.inl rfl)) XO))
   case h7=>exact Zs (i:=6) scHs.nd rfl (Or.inl rfl) (Yd PySem.F.plainAttrs_str PySem.F.slot_str_lstrip PySem.F.type_str_lstrip ZfV (pv 5) (Zb Zn Za))
   case h8=>exact Zs (i:=7) scHs.nd rfl (Or.inl rfl) (Zk ZbZ (Zk YT (Zl YY rfl T.len PySem.boot_len (Zb (pv 5) Za)) (Zl YY rfl T.len PySem.boot_len (Zb (pv 6) Za))) (Zl YY rfl T.len PySem.boot_len (Zb (Wk rfl hFI (v:=.str "  ") ⟨_,rfl⟩) Za)))
   case h9=>exact Zs (i:=8) scHs.nd rfl (Or.inl rfl) (Zq DHf hr (Zb (pv 6) Za))
   case h10=>exact PW.pt (UF (Zaf (Zau (pv 8))) (UF (ZF Zay (pv 7) (pv 3) (ZE _)) (Ul (ZF Vv (pv 5) (Zk Ys (Zk UM (Wk rfl hFI (v:=.str "  ") ⟨_,rfl⟩) (pv 7)) (pv 6)) (ZE _)))))
   case h11=>exact YM (Yd PySem.F.plainAttrs_list PySem.F.slot_list_append PySem.F.type_list_append Yk (pv 2) (Zb (Ya (Zb (pv 7) (Zb (pv 8) Za))) Za))
   case h12=>exact Zs (i:=3) scHs.nd rfl (Or.inl rfl) (YH (Yt (Zq DHw hr (Zb (ZC YO (pv 8) Zc (fun _ _=>rfl)) Za))) (Zk Yn (pv 7) Zc) (pv 7))
   case h13=>exact fun _=>rfl
   case h14=>exact Zp (pv 2)
 refine ⟨(by show 0≤sizeLine;decide),fun l hl0=>?_⟩
 refine ⟨_,rfl,a,rfl,_,rfl,k,_,rfl,by omega,Zh hl0 _ _ _ ea,?_⟩
 refine Zgu (k:=k) (xs:=(hs.map YU).map V.str) (fun i σ H'=>∃ (m:Nat) (vs:List V) (x4 x5 x6 x7 x8:Option V),σ=[some (.ref a),some (.int (k:Int)),some (.ref l),some (.int (m:Int)),x4,x5,x6,x7,x8]∧Same H H'∧H' l=some (.lst vs)∧HdL H' vs (hs.take i)∧VF m (hs.drop i)) ⟨0,[],_,_,_,_,_,rfl,Zh hl0 _,Zd,.nil,hH⟩ (fun i σ H' _ ⟨_,_,_,_,_,_,_,_,s',_⟩=>SqL.of (s' _ _ ea)) ?_ ?_
 · rintro i x t σ H' hx ht ⟨m,vs,x4,x5,x6,x7,x8,rfl,s',el,hd,ho⟩
   rw [List.getElem?_map,List.getElem?_map] at hx
   obtain ⟨r,er,rfl⟩:=Option.map_eq_some_iff.mp hx
   obtain ⟨y,ey,rfl⟩:=Option.map_eq_some_iff.mp er
   obtain ⟨hp,hlv⟩:=hok y (List.mem_of_getElem? ey)
   have hsl:=Xp hp
   obtain ⟨lv,p⟩:=y
   have hrl:(YU (lv,p)).length=2 * lv+p.srow.length:=Zdx _ _
   have hlv:lv≤200:=hlv
   have hp:p.ok:=hp
   have hsl:p.srow.length≤500:=hsl
   obtain ⟨ho1,ho2⟩:=ZgJ ey ho
   have ho1:lv≤m:=ho1
   have hil:i < hs.length:=(List.getElem?_eq_some_iff.mp ey).1
   have s1:=Zh ht (.tup [.int ((i+k:Nat):Int),.str (YU (lv,p))])
   refine ⟨t,_,rfl,SqT.of Zd,rfl,_,_,rfl,_,_,rfl,rfl,?_⟩
   generalize upd H' t (.tup [.int ((i+k:Nat):Int),.str (YU (lv,p))])=H1 at s1 ⊢
   refine ⟨_,rfl,rfl,_,_,rfl,rfl,by rw [hrl];omega,?_⟩
   rw [show Txt.lstripChars (YU (lv,p)) (Str.ofString " ")=p.srow from Zec lv (Zem hp)]
   refine ⟨_,rfl,_,rfl,ZB (show _≤1000 by rw [hrl];omega),_,rfl,_,rfl,ZB (show _≤1000 by omega),_,_,rfl,rfl,_,rfl,(by decide +kernel),_,_,rfl,rfl,(by rw [show (Str.ofString "  ").length=2 by decide +kernel];exact ⟨by decide,by decide⟩),?_⟩
   dsimp only
   rw [show (((YU (lv,p)).length:Int) - (p.srow.length:Int)) / ((Str.ofString "  ").length:Int)=(lv:Int) by rw [show (Str.ofString "  ").length=2 by decide +kernel,hrl];omega]
   refine ⟨_,rfl,p.srow,rfl,by omega,fun z=>absurd z (by rw [ZdA hp];simp),fun hvs z h H2 s2 hh0 eh=>?_⟩
   rw [ZdA hp] at z
   cases z
   refine ⟨_,rfl,_,rfl,ZI ?_⟩
   refine ⟨_,rfl,_,rfl,_,_,rfl,rfl,_,rfl,?_⟩
   rw [decide_eq_false (show ¬ ((m:Int) < (lv:Int)) by omega)]
   refine ZI ⟨_,rfl,_,rfl,_,_,rfl,rfl,Zko (by omega),_,rfl,_,_,rfl,rfl,?_,rfl,_,rfl,?_⟩
   · have e:=congrArg Str.length (ZdC lv p.srow)
     rw [WX,Zdx] at e
     exact ZB (show _≤1000 by omega)
   rw [ZdC,decide_eq_true (show V.str (YU (lv,p))=V.str (Xz lv p.srow) from rfl)]
   refine ZI ?_
   refine ⟨_,rfl,.inl ⟨rfl,_,SqL.of (s2 _ _ (s1 _ _ el))⟩,_,rfl,_,rfl,(by show 2≤sizeLine;decide),fun pt hpt=>?_⟩
   dsimp only [YF]
   have s3:=Zh hpt (.tup [.int (lv:Int),.ref h])
   have ept:upd H2 pt (.tup [.int (lv:Int),.ref h]) pt=_:=Zd
   have el2:=s3 _ _ (s2 _ _ (s1 _ _ el))
   have eh2:=s3 _ _ eh
   have hd2:=hd.tf ((s1.trans s2).trans s3).tf
   have s03:Same H _:=((s'.trans s1).trans s2).trans s3
   generalize upd H2 pt (.tup [.int (lv:Int),.ref h])=H3 at s03 ept el2 eh2 hd2 ⊢
   have hvl:=hd2.len
   refine ⟨l,_,_,rfl,rfl,el2,XC (show _≤1000 by rw [hvl,List.length_take];omega),?_⟩
   have t4:TF H3 (upd H3 l (.lst (vs++[.ref pt]))):=Zak el2
   have s4:Same H (upd H3 l (.lst (vs++[.ref pt]))):=XF s03 hl0
   have el4:upd H3 l (.lst (vs++[.ref pt])) l=_:=Zd
   generalize upd H3 l (.lst (vs++[.ref pt]))=H4 at t4 s4 el4 ⊢
   have hd4:HdL H4 (vs++[.ref pt]) (hs.take (i+1)):=by
     rw [List.take_add_one,ey]
     exact (hd2.tf t4).app ⟨pt,h,rfl,t4.tup _ _ ept,t4.tup _ _ eh2⟩
   refine ⟨_,rfl,h,_,_,_,rfl,rfl,SqT.of (t4.tup _ _ eh2),ZA (j:=0) rfl,p.word,p.isB,rfl,ZaW hp,_,rfl,?_⟩
   cases hb:p.isB with
   | true =>
     rw [if_pos hb] at ho2
     exact ZQ ⟨_,rfl,_,_,rfl,rfl,lv+1,_,_,_,_,_,_,rfl,s4,el4,hd4,ho2⟩
   | false =>
     rw [if_neg (by rw [hb];decide)] at ho2
     exact ZI ⟨_,rfl,lv,_,_,_,_,_,_,rfl,s4,el4,hd4,ho2⟩
 · rintro σ H' ⟨m,vs,x4,x5,x6,x7,x8,rfl,s',el,hd,ho⟩
   rw [List.length_map,List.length_map,List.take_length] at hd
   exact ⟨_,rfl,q l vs H' s' el hd⟩
end
end K68
set_option maxHeartbeats 4000000
namespace K68
open PySem L2
theorem Zby {κ:Type}[DecidableEq κ](k j:κ):∀ kvs:List (κ×V),Yi (Xj kvs k) j=if j=k then none else Yi kvs j
 | []=>by split<;>rfl
 | p :: r=>by
   have ih:=Zby k j r
   by_cases hp:p.1=k
   · have e:Xj (p::r) k=Xj r k:=by simp [Xj,hp]
     rw [e,ih]
     by_cases hj:j=k
     · rw [if_pos hj,if_pos hj]
     · rw [if_neg hj,if_neg hj,Yu (by rw [hp];exact fun z=>hj z.symm)]
   · have e:Xj (p::r) k=p::Xj r k:=by simp [Xj,hp]
     rw [e]
     by_cases hj:p.1=j
     · rw [Yx hj,Yx hj,if_neg (by rw [← hj];exact hp)]
     · rw [Yu hj,Yu hj,ih]
theorem ZiO {κ:Type}[DecidableEq κ](kvs:List (κ×V))(k:κ)(v:V):(XH kvs k v).length≤kvs.length+1:=by
 unfold XH;split<;>simp
theorem ZhE {κ:Type}[DecidableEq κ](kvs:List (κ×V))(k:κ):(Xj kvs k).length≤kvs.length:=List.length_filter_le _ _
abbrev kI (n:Nat):ZU:=.inl (n:Int)
theorem kI_inj {a b:Nat}:kI a=kI b↔a=b:=by
 constructor
 · intro h;injection h with h;omega
 · rintro rfl;rfl
def LvAt (K:PySem.W.Frag)(H:Hp)(d:Addr)(o:Option V)(ps:List Pg):Prop:=match o with
 | none=>ps=[]
 | some v=>∃ a xs,v=.ref a∧a≠d∧H a=some (.lst xs)∧DatTs K H xs (Pg.dats ps)
theorem LvAt.same {K:PySem.W.Frag}{H H':Hp}{d:Addr}{o:Option V}{ps:List Pg}(s:Same H H')(h:LvAt K H d o ps):LvAt K H' d o ps:=by
 cases o with
 | none=>exact h
 | some v=>obtain ⟨a,xs,e1,e2,e3,e5⟩:=h;exact ⟨a,xs,e1,e2,s _ _ e3,e5.same s⟩
theorem LvAt.upd {K:PySem.W.Frag}{H:Hp}{d:Addr}{kvs:List (ZU×V)}{o:Option V}{ps:List Pg}{u:HO}(e:H d=some (.dK kvs))(h:LvAt K H d o ps):LvAt K (upd H d u) d o ps:=by
 cases o with
 | none=>exact h
 | some v=>obtain ⟨a,xs,e1,e2,e3,e5⟩:=h;exact ⟨a,xs,e1,e2,by rw [Zo e2];exact e3,e5.tf (Uo e)⟩
theorem ZkN {K:PySem.W.Frag}{H:Hp}{p:Pg}(hp:p.ok)(hb:p.isB=false){a:Addr}(h:SqT K H a p.hv):DatT K H (.ref a) p.dat:=by
 have vv:∀ v,IsVal v→DatT K H v (UJ v):=fun v hv=>by
   cases v with
   | int i=>exact .int i
   | str x=>exact .str x
   | _=>exact hv.elim
 cases p with
 | set x v s=>exact .tup h (.cons (.str _) (.cons (.str _) (.cons (vv v hp.2.1) (.cons (.str _) .nil))))
 | look x=>exact .tup h (.cons (.str _) (.cons (.str _) .nil))
 | slot w s=>exact .tup h (.cons (.str _) (.cons (.str _) .nil))
 | pass=>exact .tup h (.cons (.str _) .nil)
 | blk w ps=>cases hb
 | inn s ps=>cases hb
theorem Zjp {K:PySem.W.Frag}{H:Hp}{p:Pg}(hb:p.isB=true){a t:Addr}{xs:List V}(h:SqT K H a (p.hv++[.ref t]))(ht:SqT K H t xs)(hd:DatTs K H xs (Pg.dats p.inner)):DatT K H (.ref a) p.dat:=by
 cases p with
 | set x v s=>cases hb
 | look x=>cases hb
 | slot w s=>cases hb
 | pass=>cases hb
 | blk w ps=>exact .tup h (.cons (.str _) (.cons (.tup ht hd) .nil))
 | inn s ps=>exact .tup h (.cons (.str _) (.cons (.str _) (.cons (.tup ht hd) .nil)))
theorem Zdp:∀{hs:List (Nat×Pg)}{i:Nat},Wf hs→Wf (hs.drop i)
 | hs,0,h=>h
 | [],i+1,h=>h
 | (l,p)::r,i+1,h=>Zdp (hs:=r) (i:=i) h.2
theorem ZbW:∀(S:List (Nat×Pg))(k:Nat),(Dm S k).length≤S.length
 | [],_=>Nat.le_refl _
 | (l,p)::r,k=>by
   have h1:=ZbW r l
   have h2:=ZbW r k
   rw [Dm]
   split
   · rw [List.length_cons,List.length_cons];omega
   · split
     · exact Nat.zero_le _
     · rw [List.length_cons];omega
theorem Zgi {K:PySem.W.Frag}{H:Hp}{d:Addr}{kvs:List (ZU×V)}{M:Nat→List Pg}{σ:St}{i:Nat}{ty:TE}{k:Nat}{Q:VK}(h1:σ[i]?=some (some (.ref d)))(hy:∀ H' R,R (.int (k:Int)) H'→ty σ H' R)(e:H d=some (.dK kvs))(hM:∀ k,LvAt K H d (Yi kvs (kI k)) (M k))
   (q:∀ b xs H2,Same H H2→b≠d→H2 b=some (.lst xs)→DatTs K H2 xs (Pg.dats (M k))→Q (.ref b) H2):ZfY (Xr i) ty (ZhB YF) σ H Q:=by
 refine ⟨_,h1,d,rfl,.inl ⟨_,.inl e⟩,hy _ _ ⟨(by show 0≤sizeLine;decide),fun l hl=>?_⟩⟩
 have s1:=Zh hl (.lst [])
 refine ⟨Yi kvs (kI k),.inl ⟨kvs,kI k,.inl (s1 _ _ e),rfl,rfl⟩,?_⟩
 have hk:=hM k
 cases ev:Yi kvs (kI k) with
 | none =>
   rw [ev] at hk
   have hk:M k=[]:=hk
   exact q l [] _ s1 (fun z=>by rw [z,e] at hl;cases hl) Zd (by rw [hk];exact .nil)
 | some v =>
   rw [ev] at hk
   obtain ⟨b,xs,rfl,e2,e3,e5⟩:=hk
   exact q b xs _ s1 e2 (s1 _ _ e3) (e5.same s1)
theorem Zkx {K:PySem.W.Frag}{H:Hp}{d:Addr}{kvs:List (ZU×V)}{M:Nat→List Pg}{σ:St}{i:Nat}{ty:TE}{k n:Nat}{Q:VK}(h1:σ[i]?=some (some (.ref d)))(hy:∀ H' R,R (.int (k:Int)) H'→ty σ H' R)(e:H d=some (.dK kvs))(hn:kvs.length≤n)(hM:∀ k,LvAt K H d (Yi kvs (kI k)) (M k))
   (q:∀ b xs kvs' H2,TF H H2→(∀ c o,c≠d→H c=some o→H2 c=some o)→H2 d=some (.dK kvs')→kvs'.length≤n→(∀ j,LvAt K H2 d (Yi kvs' (kI j)) (if j=k then [] else M j))→b≠d→H2 b=some (.lst xs)→DatTs K H2 xs (Pg.dats (M k))→Q (.ref b) H2):Zfg (Xr i) ty (ZhB YF) σ H Q:=by
 refine ⟨_,h1,d,rfl,.inl ⟨_,.inl e⟩,hy _ _ ⟨(by show 0≤sizeLine;decide),fun l hl=>?_⟩⟩
 have s1:=Zh hl (.lst [])
 have hl1:upd H l (.lst []) l=some (.lst []):=Zd
 have hld:l≠d:=fun z=>by rw [z,e] at hl;cases hl
 have e1:=s1 _ _ e
 generalize upd H l (.lst [])=H1 at s1 hl1 e1 ⊢
 have hk:=hM k
 refine ⟨kvs,kI k,e1,rfl,fun v ev=>?_,fun ev=>?_⟩
 · rw [ev] at hk
   obtain ⟨b,xs,rfl,e2,e3,e5⟩:=hk
   refine q b xs (Xj kvs (kI k)) _ (s1.tf.trans (Uo e1)) (fun c o hc z=>by rw [Zo hc];exact s1 _ _ z) Zd (Nat.le_trans (ZhE _ _) hn) (fun j=>?_) e2 (by rw [Zo e2];exact s1 _ _ e3) (e5.tf (s1.tf.trans (Uo e1)))
   rw [Zby]
   by_cases c:j=k
   · rw [if_pos (by rw [c]),if_pos c];rfl
   · rw [if_neg (fun z=>c (kI_inj.mp z)),if_neg c]
     exact ((hM j).same s1).upd e1
 · rw [ev] at hk
   have hk:M k=[]:=hk
   refine q l [] kvs H1 s1.tf (fun c o hc z=>s1 _ _ z) e1 hn (fun j=>?_) hld hl1 (by rw [hk];exact .nil)
   by_cases c:j=k
   · rw [if_pos c,c,ev];rfl
   · rw [if_neg c];exact (hM j).same s1
section
variable {P:Program}{w:World}{K:PySem.W.Frag}{mg:Str→Option Value}{base:Heap}{tk:Tok}
def spPo (K:PySem.W.Frag):Sp:=fun vs H Q _=>∃(a:Addr)(us:List V)(ps:List Pg),vs=[.ref a]∧H a=some (.lst us)∧HdL H us (Yo 0 ps)∧Pg.oks ps∧Pg.manys ps≤1000∧∀ t H',Same H H'→DatT K H' t (.tuple (Pg.dats ps))→Q t H'
abbrev nPo:List Str:=["heads","steps_at","level","head","step"]
abbrev Zhn:List Str:=["heads"]
theorem scPo:Zt nPo Zhn (Zj s_program_of):=⟨rfl,rfl,rfl,by decide +kernel,rfl,by decide +kernel,by decide +kernel⟩
theorem ZfG {f:Addr}{fd:FuncData}(F:Fun K "program_of" "program_of" s_program_of f fd)(T:ZW mg)(DHw:Def P w K mg base 2 "has_within" Zda Zar):FnOk P w K mg base ZR 3 f fd Zhn (spPo K):=by
 refine F.ok scPo (fun vs H Q E h=>?_) (fun cdv A outer s H vs Q E hr h=>?_)
 · obtain ⟨a,_,_,rfl,_⟩:=h;rfl
 obtain ⟨a,us,ps,rfl,ea,hd,ho,hm,q⟩:=h
 refine' ⟨?t,?h,?r⟩
 case h =>
   conv=>arg 2;whnf
   with_reducible refine' (Zf ?h1 (Zf (Xn ?h2 ?h3 ?h4 ?h5 (Zf ?h6 (Uj (Yb ?h7 (Zi ?h8) ZG) (Zi ?h9))) ?h10) (Zi ?h11)))
   case h1=>exact Zs (i:=1) scPo.nd rfl (Or.inl rfl) ZhY
   case h2=>exact PassesOwn.never
   case h3=>exact rfl
   case h4=>exact Vp (ZaK (pv 0))
   case h5=>exact Wr rfl (Yj (ZD (i:=2) scPo.nd rfl (Or.inl rfl)) (Yj (ZD (i:=3) scPo.nd rfl (Or.inl rfl)) XO))
   case h6=>exact Zs (i:=4) scPo.nd rfl (Or.inl rfl) (pv 3)
   case h7=>exact Yt (Zq DHw hr (Zb (ZC YO (pv 3) Zc (fun _ _=>rfl)) Za))
   case h8=>exact Zs (i:=4) scPo.nd rfl (Or.inl rfl) (Zk Ur (pv 3) (Ya (Zb (Yv Xe rfl T.tuple (by decide +kernel) (Zb (Zid (pv 1) (Zk Yn (pv 2) Zc) (ZN Za) ⟨rfl,rfl,rfl,rfl⟩) Za)) Za)))
   case h9=>exact ZiX (ZeI hr) (pv 1) (pv 2) (Zk WU (ZN (Zb (pv 4) Za)) (Zch (ZeI hr) (pv 1) (pv 2) (ZN Za) ⟨rfl,rfl,rfl,rfl⟩)) rfl
   case h10=>exact fun _=>rfl
   case h11=>exact Zp (Yv Xe rfl T.tuple (by decide +kernel) (Zb (Zch (ZeI hr) (pv 1) Zc (ZN Za) ⟨rfl,rfl,rfl,rfl⟩) Za))
 obtain ⟨pd1,pd2,_⟩:=ZdQ ps
 have hlen:(Yo 0 ps).length≤1000:=by rw [Zcq];exact hm
 have hall:=Wl ps 0 ho
 generalize Yo 0 ps=hs at hd pd1 pd2 hlen hall
 have hul:=hd.len
 intro d hd0
 have hed:upd H d (.dK []) d=some (.dK []):=Zd
 have sd:=Zh hd0 (.dK [])
 refine ⟨_,rfl,a,us,rfl,SqL.of (sd _ _ ea),fun rv hrv0=>?_⟩
 refine ⟨rv,rfl,⟨_,SqL.of Zd⟩,?_⟩
 have srv:=Zh hrv0 (.lst us.reverse)
 have hrd:rv≠d:=fun z=>by rw [z,hed] at hrv0;cases hrv0
 refine ZcQ (xs:=us.reverse) (fun i σ H'=>∃ (x2 x3 x4:Option V) (kvs:List (ZU×V)),σ=[some (.ref a),some (.ref d),x2,x3,x4]∧Same H H'∧H' rv=some (.lst us.reverse)∧H' d=some (.dK kvs)∧kvs.length≤i∧∀ k,LvAt K H' d (Yi kvs (kI k)) (Dm (hs.drop (hs.length - i)) k)) ⟨_,_,_,[],rfl,sd.trans srv,Zd,srv _ _ hed,Nat.le_refl _,fun k=>by rw [Nat.sub_zero,List.drop_length];rfl⟩ (fun i σ H' _ ⟨_,_,_,_,_,_,e,_⟩=>SqL.of e) ?_ ?_
 · rintro i v σ H' hv ⟨x2,x3,x4,kvs,rfl,s',erv,ed,hkl,hM⟩
   have hi:i < us.length:=by have:=(List.getElem?_eq_some_iff.mp hv).1;rwa [List.length_reverse] at this
   rw [List.getElem?_reverse hi] at hv
   obtain ⟨x,ex,t,h,rfl,et,eh⟩:=hd.at hv
   obtain ⟨lv,p⟩:=x
   obtain ⟨hp,_⟩:=hall _ (List.mem_of_getElem? ex)
   have hp:p.ok:=hp
   have hdrop:hs.drop (hs.length - (i+1))=(lv,p)::hs.drop (hs.length - i):=by
     obtain ⟨z1,z2⟩:=List.getElem?_eq_some_iff.mp ex
     rw [show hs.length - (i+1)=us.length - 1 - i by omega,List.drop_eq_getElem_cons z1,z2,show us.length - 1 - i+1=hs.length - i by omega]
   have hW:=Zdp (i:=hs.length - (i+1)) pd2
   rw [hdrop] at hW
   have hlS:(hs.drop (hs.length - i)).length≤1000:=by rw [List.length_drop];omega
   refine ⟨t,_,rfl,SqT.of (s' _ _ et),rfl,_,_,rfl,_,_,rfl,rfl,_,rfl,?_⟩
   rw [hdrop]
   generalize hs.drop (hs.length - i)=S at hM hW hlS
   refine ⟨fun σ H2=>∃ (st:Addr) (kvs:List (ZU×V)),σ=[some (.ref a),some (.ref d),some (.int (lv:Int)),some (.ref h),some (.ref st)]∧Same H H2∧H2 rv=some (.lst us.reverse)∧H2 d=some (.dK kvs)∧kvs.length≤i∧(∀ k,LvAt K H2 d (Yi kvs (kI k)) (if k=lv+1∧p.isB=true then [] else Dm S k))∧DatT K H2 (.ref st) p.dat,?_,?_⟩
   · refine ⟨_,rfl,h,_,_,_,rfl,rfl,SqT.of (s' _ _ eh),ZA (j:=0) rfl,p.word,p.isB,rfl,ZaW hp,_,rfl,?_⟩
     cases hb:p.isB with
     | false =>
       refine ZI ⟨h,kvs,rfl,s',erv,ed,hkl,fun k=>?_,ZkN hp hb (SqT.of (s' _ _ eh))⟩
       rw [if_neg (fun z=>nomatch z.2)];exact hM k
     | true =>
       refine ZQ ⟨_,rfl,?_⟩
       refine Zkx (k:=lv+1) (n:=i) rfl (fun H' R r=>⟨_,rfl,_,_,rfl,rfl,r⟩) ed hkl hM fun b xs kvs' H2 tf keep ed2 hn2 hM2 hbd eb hdat=>?_
       have s2:Same H H2:=fun c o e=>keep c o (fun z=>by rw [z,hd0] at e;cases e) (s' _ _ e)
       rw [hW.1 hb] at hdat
       dsimp only [YF]
       refine ⟨b,xs,rfl,.inl ⟨SqL.of eb,fun l1 hl1=>⟨(by show 1≤sizeLine;decide),fun p2 hp2=>?_⟩⟩⟩
       have s3:=(Zh hl1 (.tup xs)).trans (Zh hp2 (.tup [.ref l1]))
       have el1:=Zh hp2 (.tup [.ref l1]) l1 _ (show upd H2 l1 (.tup xs) l1=_ from Zd)
       have ep2:upd (upd H2 l1 (.tup xs)) p2 (.tup [.ref l1]) p2=_:=Zd
       generalize upd (upd H2 l1 (.tup xs)) p2 (.tup [.ref l1])=H3 at s3 el1 ep2 ⊢
       have eh3:=s3 _ _ (tf.tup _ _ (s' _ _ eh))
       refine ⟨h,p2,p.hv,[.ref l1],rfl,rfl,SqT.of eh3,SqT.of ep2,by unfold Pg.hv;simp,?_,fun z=>(nomatch z),fun _ p3 hp3=>?_⟩
       · exact ZB (show _≤100 by unfold Pg.hv;cases p<;>simp [Pg.vl])
       have s4:=Zh hp3 (.tup (p.hv++[.ref l1]))
       have s34:=s3.trans s4
       refine ⟨p3,kvs',rfl,s2.trans s34,s34 _ _ (keep _ _ hrd erv),s34 _ _ ed2,hn2,fun k=>?_,Zjp hb (SqT.of Zd) (SqT.of (s4 _ _ el1)) (hdat.same s34)⟩
       have:=(hM2 k).same s34
       by_cases c:k=lv+1
       · rw [if_pos c] at this;rw [if_pos ⟨c,rfl⟩];exact this
       · rw [if_neg c] at this;rw [if_neg (fun z=>c z.1)];exact this
   · rintro σ H2 ⟨st,kvs,rfl,s2,erv2,ed2,hkl2,hM2,hst⟩
     refine ⟨_,rfl,(by show 1≤sizeLine;decide),fun l1 hl1=>?_⟩
     have s3:=Zh hl1 (.lst [.ref st])
     have el1:upd H2 l1 (.lst [.ref st]) l1=_:=Zd
     have ed3:=s3 _ _ ed2
     have hM3:=fun k=>(hM2 k).same s3
     generalize upd H2 l1 (.lst [.ref st])=H3 at s3 el1 ed3 hM3 ⊢
     refine Zgi (k:=lv) rfl (fun H' R r=>⟨_,rfl,r⟩) ed3 hM3 fun b xs H4 s4 hbd eb hdat=>?_
     have hml:=ZbW S lv
     rw [if_neg (fun z=>absurd z.1 (by omega))] at hdat
     have hxl:xs.length≤1000:=by rw [hdat.pgs];omega
     refine ⟨l1,b,_,_,rfl,rfl,s4 _ _ el1,eb,ZB (show _≤1001 by rw [List.length_singleton];omega),fun l2 hl2=>?_⟩
     have s5:=Zh hl2 (.lst ([.ref st]++xs))
     have el2:upd H4 l2 (.lst ([.ref st]++xs)) l2=_:=Zd
     have ed5:=s5 _ _ (s4 _ _ ed3)
     have hl2d:l2≠d:=fun z=>by have ed4:=s4 _ _ ed3;rw [z,ed4] at hl2;cases hl2
     have s25:=(s3.trans s4).trans s5
     generalize upd H4 l2 (.lst ([.ref st]++xs))=H5 at s5 el2 ed5 s25 ⊢
     refine ⟨_,rfl,_,rfl,d,_,rfl,.inl ⟨kvs,kI lv,ed5,rfl,XC (show _≤1000 by omega),rfl⟩,?_⟩
     refine ⟨_,_,_,XH kvs (kI lv) (.ref l2),rfl,fun c o e=>?_,?_,Zd,?_,fun k=>?_⟩
     · rw [Zo (fun z=>by rw [z,hd0] at e;cases e)];exact s25 _ _ (s2 _ _ e)
     · rw [Zo hrd];exact s25 _ _ erv2
     · have:=ZiO kvs (kI lv) (.ref l2);omega
     · rw [ZgT]
       by_cases c:k=lv
       · rw [if_pos (by rw [c]),c]
         show LvAt K _ d (some (.ref l2)) (if lv=lv then p::Dm S lv else _)
         rw [if_pos rfl]
         exact ⟨l2,_,rfl,hl2d,by rw [Zo hl2d];exact el2,.cons ((hst.same s25).tf (Uo ed5)) ((hdat.same s5).tf (Uo ed5))⟩
       · rw [if_neg (fun z=>c (kI_inj.mp z))]
         show LvAt K _ d _ (if k=lv then _ else if k=lv+1∧p.isB=true then [] else Dm S k)
         rw [if_neg c]
         exact ((hM2 k).same s25).upd ed5
 · rintro σ H' ⟨x2,x3,x4,kvs,rfl,s',erv,ed,hkl,hM⟩
   rw [List.length_reverse,hul,Nat.sub_self,List.drop_zero] at hM
   dsimp only [Zeq,tCB,Yf]
   refine Zgi (i:=1) (σ:=[some (.ref a),some (.ref d),x2,x3,x4]) (k:=0) (ty:=tC (.int 0)) rfl (fun H' R r=>r) ed hM fun b xs H2 s2 hbd eb hdat=>?_
   rw [pd1] at hdat
   dsimp only [YF]
   exact ⟨b,xs,rfl,.inl ⟨SqL.of eb,fun l1 hl1=>q _ _ ((s'.trans s2).trans (Zh hl1 _)) (.tup (SqT.of Zd) (hdat.same (Zh hl1 _)))⟩⟩
end
end K68
set_option maxHeartbeats 4000000
namespace K68
open PySem L2
def Zcc:V→Bool
 | .str _=>true
 | _=>false
def isRV:V→Bool
 | .ref _=>true
 | _=>false
def _root_.L2.Pg.isSet:Pg→Bool
 | .set _ _ _=>true
 | _=>false
theorem Zaq {K:PySem.W.Frag}{H:Hp}{v:V}{d:PyData}(h:DatT K H v d):∃ t,TyS K H v t∧PySem.W.kitOne K t (.type "str")=some (Zcc v)∧PySem.W.kitOne K t (.type "tuple")=some (isRV v):=by
 cases h with
 | non=>exact ⟨_,.inl .non,rfl,rfl⟩
 | int i=>exact ⟨_,.inl (.int i),rfl,rfl⟩
 | str x=>exact ⟨_,.inl (.str x),rfl,rfl⟩
 | tup e q=>exact ⟨_,.inr ⟨_,_,rfl,rfl,e⟩,rfl,rfl⟩
theorem XI {K:PySem.W.Frag}{H:Hp}:∀{vs:List V}{ds:List PyData},DatTs K H vs ds→∀ v∈vs,∃ d,DatT K H v d
 | _,_,.nil,_,h=>(nomatch h)
 | _,_,.cons a b,v,h=>by
   rcases List.mem_cons.mp h with rfl | h
   · exact ⟨_,a⟩
   · exact XI b v h
theorem ZdN {K:PySem.W.Frag}{H:Hp}{v:V}{p:Pg}(h:DatT K H v p.dat)(ho:p.ok):∃ a xs,v=.ref a∧SqT K H a xs∧xs.length≤4∧xs[0]?=some (.str p.word)∧(∀ e∈xs,∃ d,DatT K H e d)∧(p.isSet=false→xs.filter Zcc=(p.word::p.ws).map V.str)∧(∀ x v s,p=.set x v s→xs=[.str "set",.str x,v,.str s])∧∃ t d,YK xs (-1)=some t∧isRV t=p.isB∧DatT K H t d∧(p.isB=true→DatT K H t (.tuple (Pg.dats p.inner))):=by
 cases p with
 | set x v s =>
   obtain ⟨a,xs,rfl,e,q⟩:=DatT.tupI h
   have al:=XI q
   obtain _ | ⟨q1,q2⟩:=q
   cases q1;obtain _ | ⟨q3,q4⟩:=q2;cases q3;obtain _ | ⟨q5,q6⟩:=q4;obtain _ | ⟨q7,q8⟩:=q6;cases q7;cases q8
   have e5:=ZdI q5 ho.2.1
   subst e5
   exact ⟨a,_,rfl,e,by simp,rfl,al,fun z=>(nomatch z),fun x v s z=>by cases z;rfl,_,_,Xu (n:=3) rfl rfl,rfl,.str _,fun z=>(nomatch z)⟩
 | look x =>
   obtain ⟨a,xs,rfl,e,q⟩:=DatT.tupI h
   have al:=XI q
   obtain _ | ⟨q1,q2⟩:=q
   cases q1;obtain _ | ⟨q3,q4⟩:=q2;cases q3;cases q4
   exact ⟨a,_,rfl,e,by simp,rfl,al,fun _=>rfl,fun x v s z=>(nomatch z),_,_,Xu (n:=1) rfl rfl,rfl,.str _,fun z=>(nomatch z)⟩
 | slot w s =>
   obtain ⟨a,xs,rfl,e,q⟩:=DatT.tupI h
   have al:=XI q
   obtain _ | ⟨q1,q2⟩:=q
   cases q1;obtain _ | ⟨q3,q4⟩:=q2;cases q3;cases q4
   exact ⟨a,_,rfl,e,by simp,rfl,al,fun _=>rfl,fun x v s z=>(nomatch z),_,_,Xu (n:=1) rfl rfl,rfl,.str _,fun z=>(nomatch z)⟩
 | pass =>
   obtain ⟨a,xs,rfl,e,q⟩:=DatT.tupI h
   have al:=XI q
   obtain _ | ⟨q1,q2⟩:=q
   cases q1;cases q2
   exact ⟨a,_,rfl,e,by simp,rfl,al,fun _=>rfl,fun x v s z=>(nomatch z),_,_,Xu (n:=0) rfl rfl,rfl,.str _,fun z=>(nomatch z)⟩
 | blk w ps =>
   obtain ⟨a,xs,rfl,e,q⟩:=DatT.tupI h
   have al:=XI q
   obtain _ | ⟨q1,q2⟩:=q
   cases q1;obtain _ | ⟨q3,q4⟩:=q2;cases q4
   have q3':=q3
   obtain ⟨b,ys,rfl,_,_⟩:=DatT.tupI q3
   exact ⟨a,_,rfl,e,by simp,rfl,al,fun _=>rfl,fun x v s z=>(nomatch z),_,_,Xu (n:=1) rfl rfl,rfl,q3',fun _=>q3'⟩
 | inn s ps =>
   obtain ⟨a,xs,rfl,e,q⟩:=DatT.tupI h
   have al:=XI q
   obtain _ | ⟨q1,q2⟩:=q
   cases q1;obtain _ | ⟨q3,q4⟩:=q2;cases q3;obtain _ | ⟨q5,q6⟩:=q4;cases q6
   have q5':=q5
   obtain ⟨b,ys,rfl,_,_⟩:=DatT.tupI q5
   exact ⟨a,_,rfl,e,by simp,rfl,al,fun _=>rfl,fun x v s z=>(nomatch z),_,_,Xu (n:=2) rfl rfl,rfl,q5',fun _=>q5'⟩
def Xw (b:Nat):Str:=Txt.mul " " (b:Int)
theorem ZcU (c:Nat):∀(n:Nat)(A:Array Nat),((List.replicate n (#[c]:Array Nat)).foldl (·++·) A).toList=A.toList++List.replicate n c
 | 0,A=>by simp
 | n+1,A=>by
   rw [List.replicate_succ,List.foldl_cons,ZcU c n]
   simp [List.replicate_succ]
theorem Ud (b:Nat):(Xw b).cps.toList=List.replicate b 32:=by
 unfold Xw Txt.mul
 match b with
 | 0=>rfl
 | 1=>rfl
 | n+2 =>
   rw [if_neg (by omega),if_neg (by rw [show ((((n+2:Nat)):Int) == 1)=false from decide_eq_false (by omega)];decide +kernel)]
   have:=ZcU 32 (n+2) #[]
   rw [show ((((n+2:Nat)):Int)).toNat=n+2 by omega]
   exact this
theorem Zjg (b:Nat):(Xw b).length=b:=by
 show (Xw b).cps.size=b
 rw [← Array.length_toList,Ud,List.length_replicate]
theorem Zjx (b:Nat)(x:Str):Xw (b+2)++x=Xw b++Wa x:=by
 apply Yw
 unfold Wa
 simp only [Str.cps_append,Array.toList_append]
 rw [Ud,Ud,show (Str.ofString "  ").cps.toList=[32,32] by decide +kernel,show List.replicate (b+2) 32=List.replicate b 32++[32,32] by rw [List.replicate_succ',List.replicate_succ',List.append_assoc];rfl,List.append_assoc]
theorem Zli (x:Str):Xw 0++x=x:=by
 apply Yw
 simp only [Str.cps_append,Array.toList_append]
 rw [Ud];rfl
theorem ZjX {b:Nat}(h:b≤1000):MulOk " " (b:Int):=by
 refine ⟨?_,fun h1 _=>?_,fun h1 _=>?_⟩
 · rw [Bool.or_eq_false_iff];exact ⟨decide_eq_false (by omega),decide_eq_false (by omega)⟩
 · rw [show (Str.ofString " ").length=1 by decide +kernel]
   have:(1000:Int)≤(2 ^ 63 - 1) / (b:Int):=by
     rw [Int.le_ediv_iff_mul_le (by omega)]
     omega
   omega
 · rw [show (Str.ofString " ").length=1 by decide +kernel]
   have:1000≤sizeLine:=by decide
   exact decide_eq_false (by omega)
section
variable {P:Program}{w:World}{K:PySem.W.Frag}{mg:Str→Option Value}{base:Heap}
def Zcd (K:PySem.W.Frag)(n:Nat):Sp:=fun vs H Q _=>∃(v:V)(b:Nat)(ps:List Pg),vs=[v,.int (b:Int)]∧DatT K H v (.tuple (Pg.dats ps))∧Pg.oks ps∧Pg.rk ps≤n∧b+2 * Pg.hgts ps≤200∧Pg.manys ps≤1000∧∀ l H',Same H H'→H l=none→H' l=some (.lst (((Zu ps).map (Xw b++·)).map V.str))→Q (.ref l) H'
abbrev nRo:List Str:=["_law_program_here","_law_blanks","_law_rows_here","_law_step","_law_words"]
abbrev VT:List Str:=["_law_program_here","_law_blanks"]
theorem scRo:Zt nRo VT (Zj s_l_rows):=⟨rfl,rfl,rfl,by decide +kernel,rfl,by decide +kernel,by decide +kernel⟩
theorem Zgo {f:Addr}{fd:FuncData}{n k:Nat}(F:Fun K "_law_rows" "_law_rows" s_l_rows f fd)(T:ZW mg)(DWr:Def P w K mg base k "_law_written" ZeT (fun vs H Q E=>∃ v,vs=[v]∧IsVal v∧∀ H',Same H H'→Q (.str (Yr v)) H'))(DRo:Def P w K mg base k "_law_rows" VT (fun vs H Q E=>∃ m,m < n∧Zcd K m vs H Q E)):FnOk P w K mg base ZR (k+1) f fd VT (Zcd K n):=by
 refine F.ok scRo (fun vs H Q E h=>?_) (fun cdv A outer s H vs Q E hr h=>?_)
 · obtain ⟨v,b,ps,rfl,_⟩:=h;rfl
 obtain ⟨v,b,ps,rfl,hp,ho,hn,hb,hm,q⟩:=h
 obtain ⟨a,xs,rfl,e,hd⟩:=DatT.tupI hp
 have hl:=hd.pgs
 have hlm:=Pg.len_manys ps
 refine' ⟨?t,?h,?r⟩
 case h =>
   conv=>arg 2;whnf
   with_reducible refine' (Zf ?h1 (Zf (Xn ?h2 ?h3 ?h4 ?h5 (Zf ?h6 (Uj (Yb ?h7 (Zi ?h8) ZG) (Zf ?h9 (Zi (Yb ?h10 (Zi ?h11) ZG))))) ?h12) (Zi ?h13)))
   case h1=>exact Zs (i:=2) scRo.nd rfl (Or.inl rfl) (ZN Za)
   case h2=>exact PassesOwn.never
   case h3=>exact rfl
   case h4=>exact Vb (pv 0)
   case h5=>exact ZD (i:=3) scRo.nd rfl (Or.inl rfl)
   case h6=>exact Zdd (i:=4) (CompOk.of nRo s_l_rows rfl rfl (by decide +kernel)) rfl scRo.nd rfl (Or.inl rfl) (Vb (pv 3)) (fun _ _ _ _ _=>Yt (Zl (ZT (K:=K) rfl) rfl T.isinstance (by decide +kernel) (Zb (pv 5) (Zb (Yh rfl T.str (by decide +kernel) (v:=.ty "str") rfl) Za)))) (fun _ _ _ _ _=>pv 5) rfl
   case h7=>exact ZF Xb (ZC YO (pv 3) Zc (fun _ _=>rfl)) Zn (ZE _)
   case h8=>exact Zs (i:=4) scRo.nd rfl (Or.inl rfl) (ZN (Zb Zn (Zb (ZC YO (pv 3) Zc (fun _ _=>rfl)) (Zb (Zq DWr hr (Zb (ZC YO (pv 3) Zc (fun _ _=>rfl)) Za)) (Zb (ZC YO (pv 3) Zc (fun _ _=>rfl)) Za)))))
   case h9=>exact YM (Yd PySem.F.plainAttrs_list PySem.F.slot_list_append PySem.F.type_list_append Yk (pv 2) (Zb (Zk Ys (Zk UM Zn (pv 1)) (Yd PySem.F.plainAttrs_str PySem.F.slot_str_join PySem.F.type_str_join Xt Zn (Zb (pv 4) Za))) Za))
   case h10=>exact Yt (Zl (ZT (K:=K) rfl) rfl T.isinstance (by decide +kernel) (Zb (ZC YO (pv 3) (Ub Wq Zc) (fun _ _=>rfl)) (Zb (Yh rfl T.tuple (by decide +kernel) (v:=.ty "tuple") rfl) Za)))
   case h11=>exact YM (Yd PySem.F.plainAttrs_list PySem.F.slot_list_extend PySem.F.type_list_extend ZbA (pv 2) (Zb (Zq DRo hr (Zb (ZC YO (pv 3) (Ub Wq Zc) (fun _ _=>rfl)) (Zb (Zk Yn (pv 1) Zc) Za))) Za))
   case h12=>exact fun _=>rfl
   case h13=>exact Zp (pv 2)
 refine ⟨(by show 0≤sizeLine;decide),fun l hl0=>?_⟩
 refine ⟨_,rfl,a,rfl,⟨_,e.tf (Zh hl0 _).tf⟩,?_⟩
 refine Zbb (xs:=xs) (fun i σ H'=>∃ x3 x4,σ=[some (.ref a),some (.int (b:Int)),some (.ref l),x3,x4]∧Same H H'∧H' l=some (.lst (((Zu (ps.take i)).map (Xw b++·)).map V.str))) ⟨_,_,rfl,Zh hl0 _,by rw [List.take_zero];exact Zd⟩ (fun i σ H' _ ⟨_,_,_,s',_⟩=>e.tf s'.tf) ?_ ?_
 · rintro i v σ H' hv ⟨x3,x4,rfl,s',el⟩
   obtain ⟨p,ep,dp⟩:=hd.pg hv
   have hop:=Pg.oks_at ho ep
   have hml:=Pg.manys_le (ps:=ps) i
   have hml1:=Pg.manys_le (ps:=ps) (i+1)
   have hmt:=Pg.manys_take ep
   have hmp:=Pg.inner_many (p:=p)
   have hlr:=Yy (ps.take i)
   have hli:=Yy p.inner
   have hhp:=Pg.hgts_at ep
   obtain ⟨c,es,rfl,ec,hes,e0,al,hfil,hset,t,dt,et,ht,dtt,hin⟩:=ZdN (dp.same s') hop
   obtain ⟨hw1,hw2,hw3⟩:=Zcn hop
   refine ⟨_,rfl,c,rfl,⟨_,ec⟩,fun D hD=>?_⟩
   refine Zbx (K:=K) (xs:=es) (ZB (show es.length≤1000 by omega)) (fun j zs H2=>Same H' H2∧H2 D=some (.lst zs)∧j≤es.length∧zs=(es.take j).filter Zcc) ⟨Zh hD _,Zd,Nat.zero_le _,rfl⟩ ?_ ?_ ?_
   · rintro j zs H2 ⟨s1,_,hj,rfl⟩
     refine ⟨?_,ec.tf s1.tf⟩
     have:=List.length_filter_le Zcc (es.take j)
     rw [List.length_take] at this;omega
   · rintro j u zs H2 hu ⟨s1,eD,hj,rfl⟩
     have hu2:=(List.getElem?_eq_some_iff.mp hu).1
     obtain ⟨d,du⟩:=al u (List.mem_of_getElem? hu)
     obtain ⟨ty,t1,t2,_⟩:=Zaq (du.same s1)
     refine ⟨_,rfl,_,_,_,_,rfl,t1,t2,_,rfl,?_⟩
     have et:es.take (j+1)=es.take j++[u]:=by rw [List.take_add_one,hu];rfl
     cases hc:Zcc u with
     | false=>exact ZI ⟨s1,eD,hu2,by rw [et,List.filter_append,List.filter_cons,hc];simp⟩
     | true=>exact ZQ ⟨_,rfl,eD,fun b o e=>by rw [Zo (ZH e hD)];exact s1 _ _ e,Zd,hu2,by rw [et,List.filter_append,List.filter_cons,hc];simp⟩
   rintro zs H2 ⟨s2,eD,_,rfl⟩
   rw [List.take_length] at eD
   have el2:=s2 _ _ el
   refine ⟨fun σ3 H3=>∃ wl:Addr,σ3=[some (.ref a),some (.int (b:Int)),some (.ref l),some (.ref c),some (.ref wl)]∧Same H2 H3∧H3 wl=some (.lst ((p.word::p.ws).map V.str)),?_,?_⟩
   · refine ⟨_,rfl,c,es,_,_,rfl,rfl,ec.tf s2.tf,ZA (j:=0) e0,rfl,_,rfl,?_⟩
     cases hs:p.isSet with
     | true =>
       cases p with
       | set x v s =>
         have hes2:=hset x v s rfl
         subst hes2
         refine ZQ ⟨_,rfl,c,_,_,_,rfl,rfl,ec.tf s2.tf,ZA (j:=1) rfl,_,rfl,c,_,_,_,rfl,rfl,ec.tf s2.tf,ZA (j:=2) rfl,v,rfl,hop.2.1,fun H3 s3=>?_⟩
         refine ⟨_,rfl,c,_,_,_,rfl,rfl,(ec.tf s2.tf).tf s3.tf,ZA (j:=3) rfl,(by show 4≤sizeLine;decide),fun wl hwl=>⟨wl,rfl,s3.trans (Zh hwl _),Zd⟩⟩
       | _=>exact nomatch hs
     | false =>
       have hne:decide (V.str p.word=V.str (Str.ofString "set"))=false:=by
         refine decide_eq_false fun z=>?_
         injection z with z
         cases p with
         | set x v s=>exact nomatch hs
         | look x=>exact absurd z (show (Str.ofString "look")≠Str.ofString "set" by decide +kernel)
         | pass=>exact absurd z (show (Str.ofString "pass")≠Str.ofString "set" by decide +kernel)
         | inn s ps=>exact absurd z (show (Str.ofString "in")≠Str.ofString "set" by decide +kernel)
         | slot w s=>rcases hop.1 with rfl | rfl<;>exact absurd z (by show Str.ofString _≠_;decide +kernel)
         | blk w s=>rcases hop.1 with rfl | rfl<;>exact absurd z (by show Str.ofString _≠_;decide +kernel)
       rw [hfil hs] at eD
       exact VH hne ⟨D,rfl,Same.refl _,eD⟩
   rintro σ3 H3 ⟨wl,rfl,s3,ew⟩
   have el3:=s3 _ _ el2
   have s03:=(s'.trans s2).trans s3
   have hjb:((p.word::p.ws).map (·.length)).sum+(p.word::p.ws).length * (Str.ofString " ").length≤16777216:=by
     have:=Vn (n:=100) (p.word::p.ws) (fun y hy=>by rcases List.mem_cons.mp hy with rfl | hy;omega;exact hw2 y hy)
     rw [show (Str.ofString " ").length=1 by decide +kernel]
     rw [List.length_cons] at this ⊢;omega
   have hsl:=Xp hop
   refine ⟨_,rfl,.inl ⟨rfl,_,SqL.of el3⟩,_,rfl,_,_,rfl,rfl,ZjX (b:=b) (by omega),rfl,_,rfl," ",wl,p.word::p.ws,rfl,rfl,SqL.of ew,hjb,_,_,rfl,rfl,ZB (show _≤5000 by have:=Zjg b;show (Xw b).length+p.srow.length≤5000;omega),?_⟩
   refine ⟨l,_,_,rfl,rfl,el3,XC (show _≤1000 by rw [List.length_map,List.length_map];omega),?_⟩
   have el4:upd H3 l (.lst (((Zu (ps.take i)).map (Xw b++·)).map V.str++[.str (Xw b++p.srow)])) l=some (.lst (((Zu (ps.take i)).map (Xw b++·)).map V.str++[.str (Xw b++p.srow)])):=Zd
   have s4:Same H (upd H3 l (.lst (((Zu (ps.take i)).map (Xw b++·)).map V.str++[.str (Xw b++p.srow)]))):=XF s03 hl0
   have tf4:TF H' (upd H3 l (.lst (((Zu (ps.take i)).map (Xw b++·)).map V.str++[.str (Xw b++p.srow)]))):=⟨fun b ys q=>by rw [Zo (Vy (s3 _ _ (s2 _ _ q)) el3 (fun z=>nomatch z))];exact s3 _ _ (s2 _ _ q),fun b o u q=>by rw [Zo (Vy (s3 _ _ (s2 _ _ q)) el3 (fun z=>nomatch z))];exact s3 _ _ (s2 _ _ q)⟩
   obtain ⟨ty,t1,_,t3⟩:=Zaq (dtt.tf tf4)
   refine ⟨_,rfl,_,rfl,c,es,_,_,rfl,rfl,ec.tf tf4,et,_,_,ty,_,rfl,t1,t3,_,rfl,?_⟩
   have etk:=Zbl ep
   cases hB:p.isB with
   | false =>
     refine VH (ht.trans hB) ⟨_,_,rfl,s4,?_⟩
     rw [etk,Pg.inner_none hB]
     refine el4.trans ?_
     simp [Zu]
   | true =>
     have hge:1+Pg.hgts p.inner≤p.hgt:=by
       cases p with
       | blk w ps=>show 1+Pg.hgts ps≤Pg.hgts ps+1;omega
       | inn s ps=>show 1+Pg.hgts ps≤Pg.hgts ps+1;omega
       | _=>exact nomatch hB
     refine ifT (ht.trans hB) ⟨_,rfl,.inl ⟨rfl,_,SqL.of el4⟩,_,rfl,_,rfl,c,es,_,_,rfl,rfl,ec.tf tf4,et,_,rfl,_,_,rfl,rfl,Pg.rk p.inner,Nat.lt_of_lt_of_le (Pg.rk_at ep) hn,t,b+2,p.inner,rfl,(hin hB).tf tf4,Pg.inner_ok hop,Nat.le_refl _,by omega,by omega,fun m H5 s5 hm0 em=>?_⟩
     have el5:=s5 _ _ el4
     refine ⟨l,m,_,_,rfl,rfl,el5,em,ZB (show _≤5000 by rw [List.length_append,List.length_map,List.length_map,List.length_map,List.length_map,List.length_singleton];omega),?_⟩
     refine ⟨_,_,rfl,XF (s4.trans s5) hl0,?_⟩
     rw [Zd,etk,List.map_append,List.map_append,List.map_cons,List.map_cons,List.map_map,show ((Zu p.inner).map (Xw (b+2)++·))=(Zu p.inner).map ((Xw b++·) ∘ Wa) from List.map_congr_left fun x _=>Zjx b x,List.append_assoc]
     simp only [List.map_map,List.singleton_append]
 · rintro σ H' ⟨x3,x4,rfl,s',el⟩
   rw [hl,List.take_length] at el
   exact ⟨_,rfl,q l H' s' hl0 el⟩
theorem Zix {f:Addr}{fd:FuncData}(F:Fun K "_law_rows" "_law_rows" s_l_rows f fd)(T:ZW mg)(b:Binds K fd VT [])(kp:PySem.W.keepIn K (.ref f)=true)(m:mg "_law_rows"=some (.ref f))(DWr:Def P w K mg base 1 "_law_written" ZeT (fun vs H Q E=>∃ v,vs=[v]∧IsVal v∧∀ H',Same H H'→Q (.str (Yr v)) H')):∀ n,FnOk P w K mg base ZR (2+n) f fd VT (Zcd K n)
 | 0=>Zgo F T DWr ⟨_,_,⟨fun vs H Q E ⟨_,h,_⟩=>absurd h (Nat.not_lt_zero _),fun _ _ _ _ _ _ _ _ _ _ _ _ _ ⟨_,h,_⟩=>absurd h (Nat.not_lt_zero _)⟩,b,kp,m⟩
 | n+1=>Zgo F T (DWr.mono (show 1≤2+n by omega)) ⟨_,_,(Zix F T b kp m DWr n).imp fun vs H Q E ⟨j,h,v,c,ps,a1,a2,a3,a4,a5⟩=>⟨v,c,ps,a1,a2,a3,by omega,a5⟩,b,kp,m⟩
end
end K68
set_option maxHeartbeats 4000000
namespace K68
open PySem L2
theorem Um {x:Str}(h:ZY x):x.cps.toList.all Yz=true:=(Zhi h).2
theorem Zfd:∀ l:List Nat,l.all Yz=true→(Xh l).all Yz=true
 | [],_=>rfl
 | k :: r,h=>by
   rw [List.all_cons,Bool.and_eq_true] at h
   have ih:=Zfd r h.2
   have e:Xh (k::r)=(if k=39∨k=92 then [92,k] else [k])++Xh r:=rfl
   rw [e,List.all_append,ih,Bool.and_true]
   split
   · rename_i hk
     rcases hk with rfl | rfl<;>decide
   · simp [h.1]
theorem ZiQ {v:V}(h:IsVal v):(Yr v).cps.toList.all Yz=true:=by
 cases v with
 | int i =>
   rw [List.all_eq_true]
   intro c hc
   have:=ZfD (show c∈(Str.ofString (toString i)).cps.toList from hc)
   unfold Yz
   simp only [Bool.and_eq_true,decide_eq_true_eq]
   omega
 | str x =>
   show (39::Xh x.cps.toList++[39]).all Yz=true
   rw [List.all_append,List.all_cons,Zfd _ h.2];rfl
 | _=>exact h.elim
theorem ZdG:∀ L:List Str,(∀ x∈L,x.cps.toList.all Yz=true)→(Str.join ⟨#[32]⟩ L).cps.toList.all Yz=true
 | [],_=>rfl
 | [x],h=>h x (List.mem_cons_self ..)
 | x::y::r,h=>by
   rw [YC,List.all_append,List.all_cons,h x (List.mem_cons_self ..),ZdG (y::r) fun z hz=>h z (List.mem_cons_of_mem _ hz)];rfl
theorem ZiJ {p : Pg}(h:p.ok):p.srow.cps.toList.all Yz=true:=by
 unfold Pg.srow
 rw [tj,bl1]
 refine ZdG _ fun x hx=>?_
 rcases List.mem_cons.mp hx with rfl | hx
 · cases p with
   | set x v s=>exact (show (Str.ofString "set").cps.toList.all Yz=true by decide +kernel)
   | look x=>exact (show (Str.ofString "look").cps.toList.all Yz=true by decide +kernel)
   | slot w s => rcases h.1 with rfl | rfl
                 · exact (show (Str.ofString "back").cps.toList.all Yz=true by decide +kernel)
                 · exact (show (Str.ofString "copy").cps.toList.all Yz=true by decide +kernel)
   | pass=>exact (show (Str.ofString "pass").cps.toList.all Yz=true by decide +kernel)
   | blk w ps => rcases h.1 with rfl | rfl
                 · exact (show (Str.ofString "begin").cps.toList.all Yz=true by decide +kernel)
                 · exact (show (Str.ofString "late").cps.toList.all Yz=true by decide +kernel)
   | inn s ps=>exact (show (Str.ofString "in").cps.toList.all Yz=true by decide +kernel)
 · cases p with
   | set y v s =>
     simp only [Pg.ws,List.mem_cons,List.not_mem_nil,or_false] at hx
     rcases hx with rfl | rfl | rfl
     · exact Um h.1
     · exact ZiQ h.2.1
     · exact Um h.2.2
   | look y=>simp only [Pg.ws,List.mem_cons,List.not_mem_nil,or_false] at hx;rw [hx];exact Um h
   | slot w s=>simp only [Pg.ws,List.mem_cons,List.not_mem_nil,or_false] at hx;rw [hx];exact Um h.2
   | pass=>exact (nomatch hx)
   | blk w ps=>exact (nomatch hx)
   | inn s ps=>simp only [Pg.ws,List.mem_cons,List.not_mem_nil,or_false] at hx;rw [hx];exact Um h.1
theorem Zhw {ps:List Pg}(h:Pg.oks ps):∀ r∈Zu ps,(10:Nat) ∉ r.cps.toList:=by
 intro r hr hc
 rw [WJ] at hr
 obtain ⟨⟨l,p⟩,hx,rfl⟩:=List.mem_map.mp hr
 have hp:=(Wl ps 0 h _ hx).1
 rcases List.mem_append.mp (show (10:Nat)∈List.replicate (2 * l) 32++p.srow.cps.toList from hc) with hc | hc
 · have:=List.eq_of_mem_replicate hc;omega
 · have:=List.all_eq_true.mp (ZiJ hp) 10 hc
   exact absurd this (by decide)
theorem Zbe {p:Pg}{ps:List Pg}(h:Pg.oks (p::ps)):Txt.split (YX (p::ps)) (Str.ofString "\n")=Zu (p::ps):=by
 unfold YX
 rw [tj,lf1]
 refine UE (fun e=>?_) (Zhw h)
 have:=congrArg List.length e
 rw [Yy,List.length_nil] at this
 have h2:=Pg.many_pos p
 have:p.many+Pg.manys ps=0:=this
 omega
theorem Zja {p : Pg}{ps:List Pg}(h:Pg.oks (p::ps)):(YX (p::ps)).length≠0:=fun e=>by
 have hs:=Zbe h
 have e0:(YX (p::ps)).cps.toList=[]:=List.eq_nil_of_length_eq_zero (by rw [← ZM];exact e)
 have e1:Zu (p::ps)=[YX (p::ps)]:=by rw [← hs,lf1];exact Ve (by rw [e0];simp)
 have e2:p.srow∈Zu (p::ps):=by
   show p.srow∈WF p++Zu ps
   rw [ZZ];exact List.mem_append_left _ (List.mem_cons_self ..)
 rw [e1] at e2
 have e3:=List.mem_singleton.mp e2
 have hw:p.srow.cps.toList=[]:=by rw [e3];exact e0
 have hj:=congrArg List.length hw
 unfold Pg.srow at hj
 rw [tj,bl1] at hj
 have hwn:p.word.cps.toList≠[]:=by
   have h1:=h.1
   cases p with
   | set x v s=>exact (show (Str.ofString "set").cps.toList≠[] by decide +kernel)
   | look x=>exact (show (Str.ofString "look").cps.toList≠[] by decide +kernel)
   | slot w s => rcases h1.1 with rfl | rfl
                 · exact (show (Str.ofString "back").cps.toList≠[] by decide +kernel)
                 · exact (show (Str.ofString "copy").cps.toList≠[] by decide +kernel)
   | pass=>exact (show (Str.ofString "pass").cps.toList≠[] by decide +kernel)
   | blk w ps => rcases h1.1 with rfl | rfl
                 · exact (show (Str.ofString "begin").cps.toList≠[] by decide +kernel)
                 · exact (show (Str.ofString "late").cps.toList≠[] by decide +kernel)
   | inn s ps=>exact (show (Str.ofString "in").cps.toList≠[] by decide +kernel)
 cases hws:p.ws with
 | nil=>rw [hws] at hj;exact hwn (List.eq_nil_of_length_eq_zero hj)
 | cons a b=>rw [hws,YC] at hj;simp at hj
section
variable {P:Program}{w:World}{K:PySem.W.Frag}{mg:Str→Option Value}{base:Heap}{tk:Tok}
def Zcw (K:PySem.W.Frag):Sp:=fun vs H Q _=>∃ ps:List Pg,vs=[.str (YX ps)]∧Pg.oks ps∧Pg.hgts ps≤100∧Pg.manys ps≤1000∧∀ t H',Same H H'→DatT K H' t (.tuple (Pg.dats ps))→Q t H'
abbrev nPm:List Str:=["text","rows"]
abbrev ZhV:List Str:=["text"]
theorem scPm:Zt nPm ZhV (Zj s_program_from):=⟨rfl,rfl,rfl,by decide +kernel,rfl,by decide +kernel,by decide +kernel⟩
theorem Zdg {f:Addr}{fd:FuncData}(F:Fun K "program_from" "program_from" s_program_from f fd)(T:ZW mg)(DHs:Def P w K mg base 7 "heads_from" Zhh spHs)(DPo:Def P w K mg base 7 "program_of" Zhn (spPo K)):FnOk P w K mg base ZR 8 f fd ZhV (Zcw K):=by
 refine F.ok scPm (fun vs H Q E h=>?_) (fun cdv A outer s H vs Q E hr h=>?_)
 · obtain ⟨ps,rfl,_⟩:=h;rfl
 obtain ⟨ps,rfl,ho,hh,hm,q⟩:=h
 refine' ⟨?t,?h,?r⟩
 case h =>
   conv=>arg 2;whnf
   with_reducible refine' (Uj ?h1 (Zi ?h2))
   case h1=>exact Zs (i:=1) scPm.nd rfl (Or.inl rfl) (YH (ZgC (pv 0) (fun _=>rfl)) (Yd PySem.F.plainAttrs_str PySem.F.slot_str_split PySem.F.type_str_split Zcl (pv 0) (Zb Zn Za)) (ZN Za))
   case h2=>exact Zp (Zq DPo hr (Zb (Zq DHs hr (Zb (pv 1) (Zb Zc Za))) Za))
 obtain ⟨_,_,pok⟩:=ZdQ ps
 have hall:=Wl ps 0 ho
 have hlen:(Yo 0 ps).length≤1000:=by rw [Zcq];exact hm
 have hbd:=UP ho hh hm
 have htl:(YX ps).length≤16777216:=by
   unfold YX
   rw [tj]
   exact Nat.le_trans (Wt _ _) hbd
 refine ⟨fun σ H'=>∃ l,σ=[some (.str (YX ps)),some (.ref l)]∧Same H H'∧H' l=some (.lst (((Yo 0 ps).map YU).map V.str)),?_,?_⟩
 · cases ps with
   | nil =>
     exact ⟨_,rfl,_,⟨(by decide +kernel),rfl⟩,VH (by decide +kernel) ⟨(by show 0≤sizeLine;decide),fun l hl=>⟨l,rfl,Zh hl _,Zd⟩⟩⟩
   | cons p ps =>
     have hpos:=Zja ho
     refine ⟨_,rfl,_,⟨Nat.le_trans htl (by decide),rfl⟩,ifT (by simpa using hpos) ⟨_,rfl,rfl,_,_,rfl,rfl,(by decide +kernel),?_,fun l hl=>?_⟩⟩
     · have h7:=Vn (n:=700) (Zu (p::ps)) (fun y hy=>by have:=Wj ho y hy;omega)
       have h8:=Wt (Str.ofString "\n") (Zu (p::ps))
       rw [Yy] at h7 h8
       rw [show (Str.ofString "\n").length=1 by decide +kernel] at h8
       unfold YX
       rw [tj]
       omega
     · rw [Zbe ho,WJ]
       exact ⟨l,rfl,Zh hl _,Zd⟩
 · rintro σ H1 ⟨l,rfl,s1,el⟩
   refine ⟨_,rfl,l,0,Yo 0 ps,rfl,by omega,el,fun x hx=>?_,pok,hlen,fun l2 vs H2 s2 el2 hd=>⟨l2,vs,ps,rfl,el2,hd,ho,hm,fun t H3 s3 dt=>q t H3 ((s1.trans s2).trans s3) dt⟩⟩
   have:=hall x hx
   exact ⟨this.1,by omega⟩
end
mutual
def fr:Pg→Nat→Pg×Nat
 | .blk w ps,n=>(.blk w (Zy ps (n - 1)).1,(Zy ps (n - 1)).2)
 | .inn s ps,n=>(.inn s (Zy ps (n - 1)).1,(Zy ps (n - 1)).2)
 | .set x v s,n=>(.set x v s,n - 1)
 | .look x,n=>(.look x,n - 1)
 | .slot w s,n=>(.slot w s,n - 1)
 | .pass,n=>(.pass,n - 1)
def Zy:List Pg→Nat→List Pg×Nat
 | [],n=>([],n)
 | p::ps,n=>if n=0 then ([],0) else ((fr p n).1::(Zy ps (fr p n).2).1,(Zy ps (fr p n).2).2)
end
theorem Xd (p:Pg)(n:Nat):(fr p n).1.srow=p.srow∧(fr p n).1.inner=(Zy p.inner (n - 1)).1∧(fr p n).2=(Zy p.inner (n - 1)).2∧(fr p n).1.isB=p.isB:=by
 cases p<;>simp [fr,Pg.inner,Zy,Pg.isB]<;>rfl
theorem Uw (ps:List Pg):Zy ps 0=([],0):=by cases ps<;>simp [Zy]
mutual
theorem Zjl:∀(p:Pg)(n:Nat),WF (fr p (n+1)).1=(WF p).take (n+1)∧(fr p (n+1)).2=n+1 - p.many
 | .blk w ps,n=>by
   obtain ⟨h1,h2⟩:=UH ps n
   refine ⟨?_,?_⟩
   · rw [ZZ,ZZ,(Xd _ _).1,(Xd _ _).2.1,List.take_succ_cons,← List.map_take];show _::(Zu (Zy ps n).1).map Wa=_;rw [h1];rfl
   · rw [(Xd _ _).2.2.1,Pg.many_eq];show (Zy ps n).2=n+1 - (1+Pg.manys ps);rw [h2];omega
 | .inn s ps,n=>by
   obtain ⟨h1,h2⟩:=UH ps n
   refine ⟨?_,?_⟩
   · rw [ZZ,ZZ,(Xd _ _).1,(Xd _ _).2.1,List.take_succ_cons,← List.map_take];show _::(Zu (Zy ps n).1).map Wa=_;rw [h1];rfl
   · rw [(Xd _ _).2.2.1,Pg.many_eq];show (Zy ps n).2=n+1 - (1+Pg.manys ps);rw [h2];omega
 | .set x v s,n=>⟨by rw [ZZ,ZZ,(Xd _ _).1,(Xd _ _).2.1,List.take_succ_cons];simp [Pg.inner,Zy,Zu],by rw [Pg.many_eq];show n+1 - 1=n+1 - (1+0);omega⟩
 | .look x,n=>⟨by rw [ZZ,ZZ,(Xd _ _).1,(Xd _ _).2.1,List.take_succ_cons];simp [Pg.inner,Zy,Zu],by rw [Pg.many_eq];show n+1 - 1=n+1 - (1+0);omega⟩
 | .slot w s,n=>⟨by rw [ZZ,ZZ,(Xd _ _).1,(Xd _ _).2.1,List.take_succ_cons];simp [Pg.inner,Zy,Zu],by rw [Pg.many_eq];show n+1 - 1=n+1 - (1+0);omega⟩
 | .pass,n=>⟨by rw [ZZ,ZZ,(Xd _ _).1,(Xd _ _).2.1,List.take_succ_cons];simp [Pg.inner,Zy,Zu],by rw [Pg.many_eq];show n+1 - 1=n+1 - (1+0);omega⟩
theorem UH:∀(ps:List Pg)(n:Nat),Zu (Zy ps n).1=(Zu ps).take n∧(Zy ps n).2=n - Pg.manys ps
 | [],n=>⟨by rw [Zy];simp [Zu],by rw [Zy];show n=n - 0;omega⟩
 | p::ps,0=>⟨by rw [Uw];simp [Zu],by rw [Uw];show 0=0 - _;omega⟩
 | p :: ps,n+1=>by
   obtain ⟨h1,h2⟩:=Zjl p n
   obtain ⟨h3,h4⟩:=UH ps (fr p (n+1)).2
   rw [Zy,if_neg (by omega)]
   refine ⟨?_,?_⟩
   · show WF (fr p (n+1)).1++Zu (Zy ps (fr p (n+1)).2).1=(WF p++Zu ps).take (n+1)
     rw [h1,h3,List.take_append,ZdR,h2]
   · show (Zy ps (fr p (n+1)).2).2=n+1 - (p.many+Pg.manys ps)
     rw [h4,h2];omega
end
mutual
theorem Zln:∀(p:Pg)(n:Nat),p.ok→(fr p n).1.ok∧(fr p n).1.hgt≤p.hgt
 | .blk w ps,n,h=>by
   obtain ⟨h1,h2⟩:=Zas ps (n - 1) h.2
   exact ⟨⟨h.1,h1⟩,Nat.succ_le_succ h2⟩
 | .inn s ps,n,h=>by
   obtain ⟨h1,h2⟩:=Zas ps (n - 1) h.2
   exact ⟨⟨h.1,h1⟩,Nat.succ_le_succ h2⟩
 | .set x v s,n,h=>⟨h,Nat.le_refl _⟩
 | .look x,n,h=>⟨h,Nat.le_refl _⟩
 | .slot w s,n,h=>⟨h,Nat.le_refl _⟩
 | .pass,n,h=>⟨h,Nat.le_refl _⟩
theorem Zas:∀(ps:List Pg)(n:Nat),Pg.oks ps→Pg.oks (Zy ps n).1∧Pg.hgts (Zy ps n).1≤Pg.hgts ps
 | [],n,h=>by rw [Zy];exact ⟨trivial,Nat.le_refl _⟩
 | p :: ps,n,h=>by
   rw [Zy]
   split
   · exact ⟨trivial,Nat.zero_le _⟩
   · obtain ⟨h1,h2⟩:=Zln p n h.1
     obtain ⟨h3,h4⟩:=Zas ps (fr p n).2 h.2
     refine ⟨⟨h1,h3⟩,?_⟩
     show max (fr p n).1.hgt (Pg.hgts (Zy ps (fr p n).2).1)≤max p.hgt (Pg.hgts ps)
     omega
end
theorem ZdM:∀(ps qs:List Pg)(n:Nat),Zy (ps++qs) n=((Zy ps n).1++(Zy qs (Zy ps n).2).1,(Zy qs (Zy ps n).2).2)
 | [],qs,n=>by rw [Zy];rfl
 | p::ps,qs,n=>by
   rw [List.cons_append,Zy,Zy]
   by_cases h:n=0
   · rw [if_pos h,if_pos h];show _=([]++(Zy qs 0).1,(Zy qs 0).2);rw [Uw];rfl
   · rw [if_neg h,if_neg h,ZdM ps qs];rfl
theorem Zhm {ps:List Pg}{i m:Nat}{p:Pg}(h:ps[i]?=some p):Zy (ps.take (i+1)) m=if (Zy (ps.take i) m).2=0 then ((Zy (ps.take i) m).1,0) else ((Zy (ps.take i) m).1++[(fr p (Zy (ps.take i) m).2).1],(fr p (Zy (ps.take i) m).2).2):=by
 rw [List.take_add_one,h]
 show Zy (ps.take i++[p]) m=_
 rw [ZdM]
 by_cases c:(Zy (ps.take i) m).2=0
 · rw [if_pos c,c];show (_++(Zy [p] 0).1,(Zy [p] 0).2)=_;rw [Uw];simp
 · rw [if_neg c];simp [Zy,c]
theorem Zdt:∀(ps:List Pg)(n:Nat),(Zy ps n).1.length≤ps.length
 | [],n=>by rw [Zy];exact Nat.le_refl _
 | p::ps,n=>by
   rw [Zy]
   split
   · exact Nat.zero_le _
   · exact Nat.succ_le_succ (Zdt ps _)
theorem ZgP (xs:List V):YJ xs none (some (-1))=xs.dropLast:=by
 unfold YJ
 rw [HT.sIx_none,List.drop_zero,List.dropLast_eq_take,Nat.sub_zero]
 congr 1
 show (if (-1:Int) < 0 then (-1+(xs.length:Int)).toNat else min (-1:Int).toNat xs.length)=_
 rw [if_pos (by decide)];omega
theorem ZlD {K:PySem.W.Frag}{H:Hp}{v:V}{p:Pg}(h:DatT K H v p.dat)(hb:p.isB=true):∃ z hz t,v=.ref z∧SqT K H z (hz++[t])∧hz≠[]∧hz.length≤2∧DatT K H t (.tuple (Pg.dats p.inner))∧∀(H':Hp)(a:Addr)(u:V)(n:Nat),SqT K H' a (hz++[u])→DatT K H' u (.tuple (Pg.dats (Zy p.inner (n - 1)).1))→DatT K H' (.ref a) (fr p n).1.dat:=by
 cases p with
 | blk w ps =>
   obtain ⟨a,xs,rfl,e,q⟩:=DatT.tupI h
   obtain _ | ⟨q1,q2⟩:=q
   cases q1;obtain _ | ⟨q3,q4⟩:=q2;cases q4
   exact ⟨a,[.str w],_,rfl,e,by simp,by simp,q3,fun H' a u n sq du=>.tup sq (.cons (.str _) (.cons du .nil))⟩
 | inn s ps =>
   obtain ⟨a,xs,rfl,e,q⟩:=DatT.tupI h
   obtain _ | ⟨q1,q2⟩:=q
   cases q1;obtain _ | ⟨q3,q4⟩:=q2;cases q3;obtain _ | ⟨q5,q6⟩:=q4;cases q6
   exact ⟨a,[.str "in",.str s],_,rfl,e,by simp,by simp,q5,fun H' a u n sq du=>.tup sq (.cons (.str _) (.cons (.str _) (.cons du .nil)))⟩
 | _=>cases hb
section
variable {P:Program}{w:World}{K:PySem.W.Frag}{mg:Str→Option Value}{base:Heap}{tk:Tok}
def ZcZ (K:PySem.W.Frag)(n:Nat):Sp:=fun vs H Q _=>∃(v:V)(ps:List Pg)(m:Nat),vs=[v,.int (m:Int)]∧DatT K H v (.tuple (Pg.dats ps))∧Pg.oks ps∧Pg.rk ps≤n∧Pg.manys ps≤1000∧∀ t u H',Same H H'→SqT K H' t [u,.int ((Zy ps m).2:Int)]→DatT K H' u (.tuple (Pg.dats (Zy ps m).1))→Q (.ref t) H'
abbrev nFi:List Str:=["_law_program_here","_law_many","_law_found","_law_step","_law_within","_law_left"]
abbrev VN:List Str:=["_law_program_here","_law_many"]
theorem scFi:Zt nFi VN (Zj s_l_first):=⟨rfl,rfl,rfl,by decide +kernel,rfl,by decide +kernel,by decide +kernel⟩
theorem Zbr {f:Addr}{fd:FuncData}{n k:Nat}(F:Fun K "_law_first" "_law_first" s_l_first f fd)(T:ZW mg)(DFi:Def P w K mg base k "_law_first" VN (fun vs H Q E=>∃ m,m < n∧ZcZ K m vs H Q E)):FnOk P w K mg base ZR (k+1) f fd VN (ZcZ K n):=by
 refine F.ok scFi (fun vs H Q E h=>?_) (fun cdv A outer s H vs Q E hr h=>?_)
 · obtain ⟨v,ps,m,rfl,_⟩:=h;rfl
 obtain ⟨v,ps,m,rfl,hp,ho,hn,hm,q⟩:=h
 refine' ⟨?t,?h,?r⟩
 case h =>
   conv=>arg 2;whnf
   with_reducible refine' (Zf ?h1 (Zf (Xn ?h2 ?h3 ?h4 ?h5 (Zi (Yb ?h6 (Zf ?h7 (Uj (Yb ?h8 (Zf ?h9 (Zi ?h10)) ZG) (Zi ?h11))) ZG)) ?h12) (Zi ?h13)))
   case h1=>exact Zs (i:=2) scFi.nd rfl (Or.inl rfl) (ZN Za)
   case h2=>exact PassesOwn.never
   case h3=>exact rfl
   case h4=>exact Vb (pv 0)
   case h5=>exact ZD (i:=3) scFi.nd rfl (Or.inl rfl)
   case h6=>exact ZF Zay (pv 1) Zc (ZE _)
   case h7=>exact Zs (i:=1) scFi.nd rfl (Or.inl rfl) (Zk YT (pv 1) Zc)
   case h8=>exact Yt (Zl (ZT (K:=K) rfl) rfl T.isinstance (by decide +kernel) (Zb (ZC YO (pv 3) (Ub Wq Zc) (fun _ _=>rfl)) (Zb (Yh rfl T.tuple (by decide +kernel) (v:=.ty "tuple") rfl) Za)))
   case h9=>exact Uk (Zq DFi hr (Zb (ZC YO (pv 3) (Ub Wq Zc) (fun _ _=>rfl)) (Zb (pv 1) Za))) (Wr rfl (Yj (ZD (i:=4) scFi.nd rfl (Or.inl rfl)) (Yj (ZD (i:=5) scFi.nd rfl (Or.inl rfl)) XO)))
   case h10=>exact XT (i:=3) (j:=1) rfl scFi.nd rfl rfl (by decide) rfl rfl (Zb (Zk Ur (Ye Zcs (pv 3) Yq (Yc (Ub Wq Zc))) (Ya (Zb (pv 4) Za))) (Zb (pv 5) Za)) rfl
   case h11=>exact YM (Yd PySem.F.plainAttrs_list PySem.F.slot_list_append PySem.F.type_list_append Yk (pv 2) (Zb (pv 3) Za))
   case h12=>exact fun _=>rfl
   case h13=>exact Zp (Ya (Zb (Yv Xe rfl T.tuple (by decide +kernel) (Zb (pv 2) Za)) (Zb (pv 1) Za)))
 obtain ⟨a,xs,rfl,e,hd⟩:=DatT.tupI hp
 have hl:=hd.pgs
 have hlm:=Pg.len_manys ps
 refine ⟨(by show 0≤sizeLine;decide),fun l hl0=>?_⟩
 refine ⟨_,rfl,a,rfl,⟨_,e.tf (Zh hl0 _).tf⟩,?_⟩
 refine Zbb (xs:=xs) (fun i σ H'=>∃ (x3 x4 x5:Option V) (ys:List V),σ=[some (.ref a),some (.int ((Zy (ps.take i) m).2:Int)),some (.ref l),x3,x4,x5]∧Same H H'∧H' l=some (.lst ys)∧DatTs K H' ys (Pg.dats (Zy (ps.take i) m).1)) ⟨_,_,_,[],by rw [List.take_zero,Zy];rfl,Zh hl0 _,Zd,by rw [List.take_zero,Zy];exact .nil⟩ (fun i σ H' _ ⟨_,_,_,_,_,s',_⟩=>e.tf s'.tf) ?_ ?_
 · rintro i v σ H' hv ⟨x3,x4,x5,ys,rfl,s',el,dy⟩
   obtain ⟨p,ep,dp⟩:=hd.pg hv
   have hop:=Pg.oks_at ho ep
   have hst:=Zhm (m:=m) ep
   have hfl:=Zdt (ps.take i) m
   rw [List.length_take] at hfl
   have hyl:=dy.pgs
   generalize Zy (ps.take i) m=R at hst hfl hyl dy ⊢
   refine ⟨_,rfl,_,_,rfl,rfl,_,rfl,?_⟩
   by_cases c:R.2=0
   · rw [if_pos c] at hst
     rw [c,decide_eq_false (by decide)]
     exact ZI ⟨some v,x4,x5,ys,by rw [hst];rfl,s',el,by rw [hst];exact dy⟩
   · rw [if_neg c] at hst
     rw [decide_eq_true (show (0:Int) < (R.2:Int) by omega)]
     refine ZQ ⟨_,rfl,_,_,rfl,rfl,?_⟩
     refine ⟨fun σ H2=>∃ (st:V) (x4 x5:Option V),σ=[some (.ref a),some (.int ((fr p R.2).2:Int)),some (.ref l),some st,x4,x5]∧Same H' H2∧DatT K H2 st (fr p R.2).1.dat,?_,?_⟩
     · have dp':=dp.same s'
       have hcast:(R.2:Int) - 1=((R.2 - 1:Nat):Int):=by omega
       cases hb:p.isB with
       | false =>
         obtain ⟨z,zs,rfl,ez,_,_,_,_,_,t,d,ht,hrt,hdt,hdt2⟩:=ZdN dp' hop
         obtain ⟨ty,hty,_,ity⟩:=Zaq hdt
         refine ⟨_,rfl,_,rfl,z,zs,_,t,rfl,rfl,ez,ht,_,_,ty,_,rfl,hty,ity,_,rfl,?_⟩
         rw [hrt,hb]
         have hfr:fr p R.2=(p,R.2 - 1):=by cases p<;>first | rfl | cases hb
         refine ZI ⟨.ref z,x4,x5,?_,Same.refl _,by rw [hfr];exact dp'⟩
         rw [hfr]
         show [some (.ref a),some (.int ((R.2:Int) - 1)),some (.ref l),some (.ref z),x4,x5]=[some (.ref a),some (.int ((R.2 - 1:Nat):Int)),some (.ref l),some (.ref z),x4,x5]
         rw [hcast]
       | true =>
         obtain ⟨z,hz,t,rfl,ez,hz0,hz1,hdt,mk⟩:=ZlD dp' hb
         obtain ⟨tr,rfl⟩:∃ tr,t=.ref tr:=by obtain ⟨b,_,e,_⟩:=DatT.tupI hdt;exact ⟨b,e⟩
         obtain ⟨ty,hty,_,ity⟩:=Zaq hdt
         have hat:YK (hz++[V.ref tr]) (-1)=some (.ref tr):=Xu (n:=hz.length) (by simp) (by simp)
         have hmi:=Pg.inner_many (p:=p)
         have hmt:=Pg.manys_take ep
         have hml1:=Pg.manys_le (ps:=ps) (i+1)
         refine ⟨_,rfl,_,rfl,z,_,_,_,rfl,rfl,ez,hat,_,_,ty,_,rfl,hty,ity,_,rfl,?_⟩
         refine ZQ ⟨_,rfl,_,rfl,z,_,_,_,rfl,rfl,ez,hat,_,rfl,?_⟩
         dsimp only [YF]
         refine ⟨Pg.rk p.inner,Nat.lt_of_lt_of_le (Pg.rk_at ep) hn,.ref tr,p.inner,R.2 - 1,by rw [hcast];rfl,hdt,Pg.inner_ok hop,Nat.le_refl _,by omega,fun t2 u H3 s3 sq du=>?_⟩
         refine ⟨t2,_,rfl,sq,rfl,_,_,rfl,_,_,rfl,rfl,?_⟩
         refine ⟨_,rfl,?_⟩
         dsimp only [We]
         refine ⟨_,rfl,_,rfl,z,_,rfl,ez.tf s3.tf,?_,fun p1 hp1=>?_⟩
         · rintro ⟨_,z2⟩
           have e9:HT.sIx (hz++[V.ref tr]).length (hz++[V.ref tr]).length (some (-1))=(hz++[V.ref tr]).length - 1:=by
             show (if (-1:Int) < 0 then (-1+((hz++[V.ref tr]).length:Int)).toNat else min (-1:Int).toNat (hz++[V.ref tr]).length)=_
             rw [if_pos (by decide)];omega
           have z2:HT.sIx (hz++[V.ref tr]).length (hz++[V.ref tr]).length (some (-1))=(hz++[V.ref tr]).length:=z2
           rw [e9,List.length_append,List.length_singleton] at z2;omega
         rw [show YJ (hz++[V.ref tr]) none (some (-1))=hz by rw [ZgP];simp]
         have s4:=Zh hp1 (.tup hz)
         refine ⟨_,rfl,(by show 1≤sizeLine;decide),fun p2 hp2=>?_⟩
         have s5:=Zh hp2 (.tup [u])
         refine ⟨p1,p2,hz,[u],rfl,rfl,SqT.of (s5 _ _ Zd),SqT.of Zd,hz0,ZB (show _≤10 by rw [List.length_singleton];omega),fun z=>(nomatch z),fun _ p3 hp3=>?_⟩
         have s6:=Zh hp3 (.tup (hz++[u]))
         have s36:=(s4.trans s5).trans s6
         refine ⟨_,rfl,_,_,rfl,.ref p3,some u,some (.int ((Zy p.inner (R.2 - 1)).2:Int)),?_,s3.trans s36,mk _ _ _ R.2 (SqT.of Zd) (du.same s36)⟩
         rw [(Xd p R.2).2.2.1];rfl
     · rintro σ H2 ⟨st,x4,x5,rfl,s2,dst⟩
       refine ⟨_,rfl,.inl ⟨rfl,_,SqL.of (s2 _ _ el)⟩,_,rfl,l,_,_,rfl,rfl,s2 _ _ el,XC (show _≤1000 by omega),?_⟩
       refine ⟨some st,x4,x5,ys++[st],by rw [hst],XF (s'.trans s2) hl0,Zd,?_⟩
       rw [hst,Pg.dats_app]
       exact ((dy.same s2).tf (Zak (s2 _ _ el))).append (.cons (dst.tf (Zak (s2 _ _ el))) .nil)
 · rintro σ H' ⟨x3,x4,x5,ys,rfl,s',el,dy⟩
   rw [hl,List.take_length] at dy ⊢
   refine ⟨_,rfl,l,ys,rfl,.inl ⟨SqL.of el,fun t1 ht1=>?_⟩⟩
   have s1:=Zh ht1 (.tup ys)
   refine ⟨_,rfl,(by show 2≤sizeLine;decide),fun t2 ht2=>?_⟩
   have s2:=Zh ht2 (.tup [.ref t1,.int ((Zy ps m).2:Int)])
   exact q t2 _ _ ((s'.trans s1).trans s2) (SqT.of Zd) (.tup (SqT.of (s2 _ _ Zd)) ((dy.same s1).same s2))
theorem ZcH {f:Addr}{fd:FuncData}(F:Fun K "_law_first" "_law_first" s_l_first f fd)(T:ZW mg)(b:Binds K fd VN [])(kp:PySem.W.keepIn K (.ref f)=true)(m:mg "_law_first"=some (.ref f)):∀ n,FnOk P w K mg base ZR (n+1) f fd VN (ZcZ K n)
 | 0=>Zbr F T ⟨_,_,⟨fun vs H Q E ⟨_,h,_⟩=>absurd h (Nat.not_lt_zero _),fun _ _ _ _ _ _ _ _ _ _ _ _ _ ⟨_,h,_⟩=>absurd h (Nat.not_lt_zero _)⟩,b,kp,m⟩
 | n+1=>Zbr F T ⟨_,_,(ZcH F T b kp m n).imp fun vs H Q E ⟨j,h,v,ps,c,a1,a2,a3,a4,a5⟩=>⟨v,ps,c,a1,a2,a3,by omega,a5⟩,b,kp,m⟩
end
end K68
set_option maxHeartbeats 2000000
namespace L2
open PySem PySem.Spec PyProof.Rows
mutual
inductive DatA (K:PySem.W.Frag)(H:Hp):V→PyData→Prop
 | non:DatA K H .non .none
 | bl (b):DatA K H (.bl b) (.bool b)
 | int (i):DatA K H (.int i) (.int i)
 | str (x):DatA K H (.str x) (.str x)
 | lst {a xs ds}:H a=some (.lst xs)→xs.length≤20000→DatAs K H xs ds→DatA K H (.ref a) (.list ds)
 | tup {a xs ds}:SqT K H a xs→xs.length≤20000→DatAs K H xs ds→DatA K H (.ref a) (.tuple ds)
inductive DatAs (K:PySem.W.Frag)(H:Hp):List V→List PyData→Prop
 | nil:DatAs K H [] []
 | cons {v d vs ds}:DatA K H v d→DatAs K H vs ds→DatAs K H (v::vs) (d::ds)
end
mutual
theorem DatA.same {K:PySem.W.Frag}{H H':Hp}(s:Same H H'):∀{v d},DatA K H v d→DatA K H' v d
 | _,_,.non=>.non
 | _,_,.bl b=>.bl b
 | _,_,.int i=>.int i
 | _,_,.str x=>.str x
 | _,_,.lst e h q=>.lst (s _ _ e) h (DatAs.same s q)
 | _,_,.tup e h q=>.tup (e.tf s.tf) h (DatAs.same s q)
theorem DatAs.same {K:PySem.W.Frag}{H H':Hp}(s:Same H H'):∀{vs ds},DatAs K H vs ds→DatAs K H' vs ds
 | _,_,.nil=>.nil
 | _,_,.cons r t=>.cons (DatA.same s r) (DatAs.same s t)
end
theorem DatAs.len {K:PySem.W.Frag}{H:Hp}:∀{vs ds},DatAs K H vs ds→vs.length=ds.length
 | _,_,.nil=>rfl
 | _,_,.cons q t=>by rw [List.length_cons,List.length_cons,DatAs.len t]
theorem DatAs.at {K:PySem.W.Frag}{H:Hp}:∀{vs ds}{i:Nat}{v:V},DatAs K H vs ds→vs[i]?=some v→∃ d,ds[i]?=some d∧DatA K H v d
 | _,_,_,_,.nil,h=>by simp at h
 | _,_,0,_,.cons a _,h=>by cases h;exact ⟨_,rfl,a⟩
 | _,_,i+1,_,.cons _ b,h=>DatAs.at (i:=i) b h
theorem VV:∀{ds:List PyData}{i:Nat}{d:PyData},ds[i]?=some d→d.depth≤PyData.depthAll ds
 | [],_,_,h=>by simp at h
 | q::ds,0,_,h=>by cases h;rw [PyData.depthAll];exact Nat.le_max_left _ _
 | q::ds,i+1,p,h=>by rw [PyData.depthAll];exact Nat.le_trans (VV (ds:=ds) (i:=i) h) (Nat.le_max_right _ _)
section
variable {X:Cx}{pins:List (Addr×Obj)}{σ:St}{H:Hp}{s:Shared}
end
section
variable {X:Cx}
def Zit (K:PySem.W.Frag):R2:=fun x y H Q=>∃ a b xs ys,x=.ref a∧y=.ref b∧SqT K H a xs∧SqT K H b ys∧xs.length+ys.length≤sizeLine ∧
 ((xs=[]∧Q (.ref b) H)∨(xs≠[]∧ys=[]∧Q (.ref a) H)∨(xs≠[]∧ys≠[]∧∀ p,H p=none→Q (.ref p) (upd H p (.tup (xs++ys)))))
theorem ZdP {K:PySem.W.Frag}(hK:X.K=K):YG X (binaryOp .Add) (Zit K):=by
 subst hK
 intro pins s σ H x y v u Q I rx ry h
 obtain ⟨a,b,xs,ys,rfl,rfl,ha,hb,hz,h⟩:=h
 rcases h with ⟨hx,q⟩ | ⟨hx,hy,q⟩ | ⟨hx,hy,q⟩
 · cases rx;cases ry
   obtain ⟨its,r1,p1,_⟩:=I.tuple ha
   obtain ⟨its2,r2,p2,_⟩:=I.tuple hb
   obtain ⟨⟨cls,dd,data,sl⟩,ho,hc,n,hd⟩:=id p1
   obtain ⟨⟨cls2,dd2,data2,sl2⟩,ho2,hc2,n2,hd2⟩:=id p2
   simp only at hc hd hc2 hd2
   subst hc hd hc2 hd2
   exact concat_meets ⟨_,ho,rfl⟩ ⟨_,ho2,rfl⟩ noFill_tuple_add seq_tuple_add PySem.F.slot_tuple_add PySem.F.entry_tuple_add (PySem.F.args_tuple_add_2 _ _)
     (tuple_addW0 a b its.toArray its2.toArray n n2 dd dd2 sl sl2 (by simp [r1.nil_iff.mpr hx])) ⟨ho,ho2,⟨.ref b,H,I,rfl,q⟩⟩
 · exact Ur pins s σ H _ _ v u Q I rx ry ⟨a,b,xs,ys,rfl,rfl,ha,hb,hx,hz,fun _=>q,fun z=>absurd hy z⟩
 · exact Ur pins s σ H _ _ v u Q I rx ry ⟨a,b,xs,ys,rfl,rfl,ha,hb,hx,hz,fun z=>absurd z hy,fun _=>q⟩
def Zhq (K:PySem.W.Frag):V→Option Int→Option Int→Hp→VK→Prop:=fun x lo hi H Q=>∃ a xs,x=.ref a∧SqT K H a xs ∧
 ((HT.sIx xs.length 0 lo=0∧HT.sIx xs.length xs.length hi=xs.length∧Q (.ref a) H)∨(¬ (HT.sIx xs.length 0 lo=0∧HT.sIx xs.length xs.length hi=xs.length)∧∀ p,H p=none→Q (.ref p) (upd H p (.tup (YJ xs lo hi)))))
theorem ZdF {K:PySem.W.Frag}(hK:X.K=K):SlR X (Zhq K):=by
 subst hK
 intro pins s σ H x v vl vu lo hi sl Q I rx hs pl pu h
 obtain ⟨a,xs,rfl,hx,h⟩:=h
 rcases h with ⟨w1,w2,q⟩ | ⟨hw,q⟩
 · cases rx
   obtain ⟨its,r,ht,hz⟩:=I.tuple hx
   have hlen:its.toArray.size=xs.length:=by rw [List.size_toArray];exact r.length.symm
   refine ⟨"tuple",_,PyProof.Rows.slot_tuple_getitem.lookup,ht.typeIs,?_⟩
   obtain ⟨os,hos,hcs,hds⟩:=id hs
   have hTs:s.TypeIs (.ref sl) "slice":=⟨os,hos,hcs⟩
   obtain ⟨⟨cls,dd,data,sl'⟩,ho,hc,n,hd⟩:=id ht
   simp only at hc hd
   subst hc hd
   unfold getItem
   try with_reducible refine wpAny_holding ?_
   first | refine wpAny_bind (wpAny_pure ?_) | skip
   refine wpAny_bind (wpAny_sequenceKey ht.typeIs (by decide) ?_)
   refine wpAny_bind (wpAny_callSpecial?_slot (name:=Str.ofString "__getitem__") ht.typeIs PyProof.Rows.slot_tuple_getitem
     (wpAny_call_entry PyProof.Rows.slot_tuple_getitem ht.typeIs entry_tuple_getitem ?_ (args_tuple_getitem _ _)))
   show wpAny _ _ (Builtin.Tuple.tupleItemsOf (.ref a) >>= _) _ _ s
   refine wpAny_bind (tupleItemsOf_ ht ?_)
   refine wpAny_bind (wpAny_typeOf hTs ?_)
   rw [if_pos (by decide)]
   refine wpAny_bind (HT.sliceApplied_gen hs pl pu ?_)
   rw [hlen,w1,w2]
   dsimp only
   rw [if_pos (by simp)]
   unfold Builtin.Tuple.tupleIsExact
   refine wpAny_bind (wpAny_bind (wpAny_typeOf ht.typeIs (wpAny_pure ?_)))
   rw [if_pos (by decide)]
   exact wpAny_bind (wpAny_rule (wpAny_pure ⟨_,rfl,wpAny_pure ⟨.ref a,H,I,rfl,q⟩⟩))
 · exact Zcs pins s σ H _ v vl vu lo hi sl Q I rx hs pl pu ⟨a,xs,rfl,hx,hw,q⟩
end
section
variable {X:Cx}
end
end L2
set_option maxHeartbeats 4000000
namespace K68
open PySem L2
mutual
def nb:PyData→Bool
 | .bool _=>false
 | .list ds=>US ds
 | .tuple ds=>US ds
 | .none=>true
 | .int _=>true
 | .str _=>true
 | .dict _=>false
def US:List PyData→Bool
 | []=>true
 | d::ds=>nb d&&US ds
end
theorem Zce:∀{ds:List PyData}{i:Nat}{d:PyData},US ds=true→ds[i]?=some d→nb d=true
 | [],_,_,_,h=>by simp at h
 | q::ds,0,_,n,h=>by cases h;rw [US,Bool.and_eq_true] at n;exact n.1
 | q::ds,i+1,d,n,h=>by rw [US,Bool.and_eq_true] at n;exact Zce (ds:=ds) (i:=i) n.2 h
section
variable {P:Program}{w:World}{K:PySem.W.Frag}{mg:Str→Option Value}{base:Heap}
def WS (K:PySem.W.Frag)(n:Nat):Sp:=fun vs H Q _=>∃(x y:V)(d:PyData),vs=[x,y]∧DatA K H x d∧DatA K H y d∧nb d=true∧d.depth < n∧∀ H',Same H H'→Q (.bl true) H'
abbrev nSa:List Str:=["_law_found","_law_due"]
abbrev VW:List Str:=["_law_found","_law_due"]
theorem scSa:Zt nSa VW (Zj s_l_same):=⟨rfl,rfl,rfl,by decide +kernel,rfl,by decide +kernel,by decide +kernel⟩
theorem ZcF {f:Addr}{fd:FuncData}{n k:Nat}(F:Fun K "_law_same" "_law_same" s_l_same f fd)(T:ZW mg)(DSa:Def P w K mg base k "_law_same" VW (fun vs H Q E=>∃ m,m < n∧WS K m vs H Q E)):FnOk P w K mg base ZR (k+1) f fd VW (WS K n):=by
 refine F.ok scSa (fun vs H Q E h=>?_) (fun cdv A outer s H vs Q E hr h=>?_)
 · obtain ⟨x,y,d,rfl,_⟩:=h;rfl
 obtain ⟨x,y,d,rfl,dx,dy,hb,hn,q⟩:=h
 refine' ⟨?t,?h,?r⟩
 case h =>
   conv=>arg 2;whnf
   with_reducible refine' (Zf (Yb ?h1 (Zf (Yb ?h2 (Zi ?h3) ZG) (Zi ?h4)) ZG) (Zf (Yb ?h5 (Zi ?h6) ZG) (Zi ?h7)))
   case h1=>exact Yt (Zl (ZfS (K:=K) rfl) rfl T.isinstance (by decide +kernel) (Zb (pv 1) (Zb (Ya (XQ (Yh rfl T.list (by decide +kernel) (v:=.ty "list") rfl) (XQ (Yh rfl T.tuple (by decide +kernel) (v:=.ty "tuple") rfl) Za rfl) rfl)) Za)))
   case h2=>exact PW.pt (UF (ZF Vv (Zl (ZT (K:=K) rfl) rfl T.isinstance (by decide +kernel) (Zb (pv 0) (Zb (Yh rfl T.list (by decide +kernel) (v:=.ty "list") rfl) Za))) (Zl (ZT (K:=K) rfl) rfl T.isinstance (by decide +kernel) (Zb (pv 1) (Zb (Yh rfl T.list (by decide +kernel) (v:=.ty "list") rfl) Za))) (ZE _)) (Ul (ZF Vv (Zl (ZT (K:=K) rfl) rfl T.isinstance (by decide +kernel) (Zb (pv 0) (Zb (Yh rfl T.tuple (by decide +kernel) (v:=.ty "tuple") rfl) Za))) (Zl (ZT (K:=K) rfl) rfl T.isinstance (by decide +kernel) (Zb (pv 1) (Zb (Yh rfl T.tuple (by decide +kernel) (v:=.ty "tuple") rfl) Za))) (ZE _))))
   case h3=>exact Zp Vz
   case h4=>exact Zp (XU (Xg Xb (Zl ZJ rfl T.len PySem.boot_len (Zb (pv 0) Za)) (Zl ZJ rfl T.len PySem.boot_len (Zb (pv 1) Za)) (ZE _)) (WQ (Zl (UG rfl) rfl T.all (by decide +kernel) (Zb (ZgU (xa:="_law_one") (xb:="_law_other") (CompOkT.of nSa s_l_same rfl rfl (by decide +kernel)) rfl (PI.or (Zfl rfl T.zip (pv 0) (pv 1)) (ZiE rfl T.zip (pv 0) (pv 1))) (fun _ _ _ _ _=>ZdB (K:=K) rfl rfl (ZD (i:=2) (show (Wy nSa "_law_one" "_law_other"++(["_law_one","_law_other"]:List Str)).Nodup by decide +kernel) rfl (Or.inl rfl) (Or.inr rfl)) (ZD (i:=3) (show (Wy nSa "_law_one" "_law_other"++(["_law_one","_law_other"]:List Str)).Nodup by decide +kernel) rfl (Or.inl rfl) (Or.inr rfl)))  (fun _ _ _ _ _=>Zq DSa hr (Zb (pv 2) (Zb (pv 3) Za)))) Za))))
   case h5=>exact PW.pt (UF (Zaf (Zau (pv 1))) (Ul (Yt (Zl (ZT (K:=K) rfl) rfl T.isinstance (by decide +kernel) (Zb (pv 1) (Zb (Yh rfl T.str (by decide +kernel) (v:=.ty "str") rfl) Za))))))
   case h6=>exact Zp (XU (Xg Xb (pv 0) (pv 1) (ZE _)) (WQ (Xg Xb (Zl (ZT (K:=K) rfl) rfl T.isinstance (by decide +kernel) (Zb (pv 0) (Zb (Yh rfl T.str (by decide +kernel) (v:=.ty "str") rfl) Za))) (Zl (ZT (K:=K) rfl) rfl T.isinstance (by decide +kernel) (Zb (pv 1) (Zb (Yh rfl T.str (by decide +kernel) (v:=.ty "str") rfl) Za))) (ZE _))))
   case h7=>exact Zp (XU (Zl (ZT (K:=K) rfl) rfl T.isinstance (by decide +kernel) (Zb (pv 0) (Zb (Yh rfl T.int (by decide +kernel) (v:=.ty "int") rfl) Za))) (XU (ZcL (Zl (ZT (K:=K) rfl) rfl T.isinstance (by decide +kernel) (Zb (pv 0) (Zb (Yh rfl T.bool (by decide +kernel) (v:=.ty "bool") rfl) Za)))) (WQ (Xg Xb (pv 0) (pv 1) (ZE _)))))
 have tyx:∀ {z:V} {d:PyData} {H':Hp},DatA K H' z d→∃ t,TyS K H' z t∧PySem.W.kitOne K t (.type "list")=some (match d with | .list _=>true | _=>false)∧PySem.W.kitOne K t (.type "tuple")=some (match d with | .tuple _=>true | _=>false)∧PySem.W.kitOne K t (.type "bool")=some (match d with | .bool _=>true | _=>false)∧PySem.W.kitOne K t (.type "str")=some (match d with | .str _=>true | _=>false)∧PySem.W.kitOne K t (.type "int")=some (match d with | .int _=>true | .bool _=>true | _=>false)∧PySem.W.kitAny K t [.type "list",.type "tuple"]=some (match d with | .list _=>true | .tuple _=>true | _=>false):=by
   intro z d H' h
   cases h with
   | non=>exact ⟨_,.inl .non,rfl,rfl,rfl,rfl,rfl,rfl⟩
   | bl b=>exact ⟨_,.inl (.bl b),rfl,rfl,rfl,rfl,rfl,rfl⟩
   | int i=>exact ⟨_,.inl (.int i),rfl,rfl,rfl,rfl,rfl,rfl⟩
   | str x=>exact ⟨_,.inl (.str x),rfl,rfl,rfl,rfl,rfl,rfl⟩
   | lst e _ _=>exact ⟨_,.inl (.lst e),rfl,rfl,rfl,rfl,rfl,rfl⟩
   | tup e _ _=>exact ⟨_,.inr ⟨_,_,rfl,rfl,e⟩,rfl,rfl,rfl,rfl,rfl,rfl⟩
 refine ⟨_,rfl,(show 2≤sizeLine by decide),fun tp htp=>?_⟩
 have s1:=Zh htp (.tup [.ty "list",.ty "tuple"])
 have etp:upd H tp (.tup [.ty "list",.ty "tuple"]) tp=some (.tup ((["list","tuple"]:List String).map V.ty)):=Zd
 replace dx:=DatA.same s1 dx
 replace dy:=DatA.same s1 dy
 generalize upd H tp (.tup [.ty "list",.ty "tuple"])=H1 at *
 obtain ⟨t1,ty1,l1,p1,b1,w1,i1,a1⟩:=tyx dx
 obtain ⟨t2,ty2,l2,p2,b2,w2,i2,a2⟩:=tyx dy
 refine ⟨y,tp,_,t2,_,rfl,ty2,etp,a2,_,rfl,?_⟩
 cases dx with
 | bl i=>exact absurd (show false=true from hb) (by decide)
 | non =>
   cases dy
   refine ZI ⟨_,rfl,_,rfl,ifT rfl ?_⟩
   refine ⟨_,rfl,_,rfl,rfl,_,rfl,ifT (decide_eq_true rfl) ?_⟩
   refine ⟨_,rfl,_,_,_,_,rfl,ty1,w1,_,rfl,_,_,_,_,rfl,ty2,w2,rfl,?_⟩
   rw [decide_eq_true rfl];exact q H1 s1
 | int i =>
   cases dy
   refine ZI ⟨_,rfl,_,rfl,VH rfl ?_⟩
   refine ⟨_,rfl,_,_,_,_,rfl,ty2,w2,_,rfl,ZI ?_⟩
   refine ⟨_,rfl,_,_,_,_,rfl,ty1,i1,_,rfl,ZQ ?_⟩
   refine ⟨_,rfl,_,_,_,_,rfl,ty1,b1,_,rfl,_,rfl,ifT rfl ?_⟩
   refine ⟨_,rfl,_,rfl,rfl,?_⟩
   rw [decide_eq_true rfl];exact q H1 s1
 | str i =>
   cases dy
   refine ZI ⟨_,rfl,_,rfl,VH rfl ?_⟩
   refine ⟨_,rfl,_,_,_,_,rfl,ty2,w2,_,rfl,ZQ ?_⟩
   refine ⟨_,rfl,_,rfl,rfl,_,rfl,ifT (decide_eq_true rfl) ?_⟩
   refine ⟨_,rfl,_,_,_,_,rfl,ty1,w1,_,rfl,_,_,_,_,rfl,ty2,w2,rfl,?_⟩
   rw [decide_eq_true rfl];exact q H1 s1
 | lst e1 h1 q1 =>
   cases dy with
   | lst e2 h2 q2 =>
   rename_i av1 xs1 ds av2 xs2
   have hnb:US ds=true:=hb
   have hl1:=q1.len
   have hl2:=q2.len
   refine ZQ ⟨_,rfl,_,_,_,_,rfl,ty1,l1,_,rfl,_,_,_,_,rfl,ty2,l2,rfl,_,rfl,VH rfl ?_⟩
   refine ⟨_,rfl,_,_,_,_,rfl,ty1,p1,_,rfl,_,_,_,_,rfl,ty2,p2,rfl,_,rfl,VH rfl ?_⟩
   refine ⟨_,rfl,_,xs1,rfl,.inl (SqL.of e1),_,rfl,_,xs2,rfl,.inl (SqL.of e2),rfl,_,rfl,ifT (decide_eq_true (by rw [hl1,hl2])) ?_⟩
   refine .inl ⟨_,rfl,_,rfl,_,_,xs1,xs2,rfl,e1,e2,fun D hD=>?_⟩
   refine Zbt (K:=K) (xs:=xs1) (zs:=xs2) (ZB (show xs1.length≤20000 from h1)) (by omega) (fun i ys H'=>Same H1 H'∧H' D=some (.lst ys)∧ys=(List.replicate i true).map V.bl) ⟨Zh hD _,Zd,rfl⟩ ?_ ?_ ?_
   · rintro i ys H' ⟨s4,_,rfl⟩;exact ⟨by simp,SqL.of (s4 _ _ e1),SqL.of (s4 _ _ e2)⟩
   · rintro i x z t ys H' wa wb hx hz ht ⟨s4,eD,rfl⟩
     obtain ⟨d1,ed1,dd1⟩:=q1.at hx
     obtain ⟨d2,ed2,dd2⟩:=q2.at hz
     cases (ed1.symm.trans ed2)
     have s5:=s4.trans (Zh ht (.tup [x,z]))
     refine ⟨t,_,rfl,SqT.of Zd,rfl,_,_,rfl,_,_,rfl,rfl,⟨_,_,rfl⟩,?_⟩
     refine ⟨_,rfl,_,rfl,d1.depth+1,by have h3:=VV ed1;have h4:(PyData.list ds).depth < n:=hn;rw [PyData.depth] at h4;omega,x,z,d1,rfl,dd1.same s5,dd2.same s5,Zce hnb ed1,Nat.lt_succ_self _,fun H2 s6=>⟨s6 _ _ (Zh ht (.tup [x,z]) _ _ eD),fun b o q=>?_,Zd,?_⟩⟩
     · rw [Zo (ZH q hD)];exact s6 _ _ (s5 _ _ q)
     · rw [List.replicate_succ',List.map_append];rfl
   · rintro ys H3 ⟨s3,eD,rfl⟩
     refine ⟨D,_,rfl,SqL.of eD,?_⟩
     rw [show ∀ k,(List.replicate k true).all id=true from fun k=>by simp]
     exact q H3 (s1.trans s3)
 | tup e1 h1 q1 =>
   cases dy with
   | tup e2 h2 q2 =>
   rename_i av1 xs1 ds av2 xs2
   have hnb:US ds=true:=hb
   have hl1:=q1.len
   have hl2:=q2.len
   refine ZQ ⟨_,rfl,_,_,_,_,rfl,ty1,l1,_,rfl,_,_,_,_,rfl,ty2,l2,rfl,_,rfl,VH rfl ?_⟩
   refine ⟨_,rfl,_,_,_,_,rfl,ty1,p1,_,rfl,_,_,_,_,rfl,ty2,p2,rfl,_,rfl,VH rfl ?_⟩
   refine ⟨_,rfl,_,xs1,rfl,.inr e1,_,rfl,_,xs2,rfl,.inr e2,rfl,_,rfl,ifT (decide_eq_true (by rw [hl1,hl2])) ?_⟩
   refine .inr ⟨_,rfl,_,rfl,_,_,xs1,xs2,rfl,e1,e2,fun D hD=>?_⟩
   refine ZeJ (K:=K) (xs:=xs1) (zs:=xs2) (ZB (show xs1.length≤20000 from h1)) (by omega) (fun i ys H'=>Same H1 H'∧H' D=some (.lst ys)∧ys=(List.replicate i true).map V.bl) ⟨Zh hD _,Zd,rfl⟩ ?_ ?_ ?_
   · rintro i ys H' ⟨s4,_,rfl⟩;exact ⟨by simp,e1.tf s4.tf,e2.tf s4.tf⟩
   · rintro i x z t ys H' wa wb hx hz ht ⟨s4,eD,rfl⟩
     obtain ⟨d1,ed1,dd1⟩:=q1.at hx
     obtain ⟨d2,ed2,dd2⟩:=q2.at hz
     cases (ed1.symm.trans ed2)
     have s5:=s4.trans (Zh ht (.tup [x,z]))
     refine ⟨t,_,rfl,SqT.of Zd,rfl,_,_,rfl,_,_,rfl,rfl,⟨_,_,rfl⟩,?_⟩
     refine ⟨_,rfl,_,rfl,d1.depth+1,by have h3:=VV ed1;have h4:(PyData.tuple ds).depth < n:=hn;rw [PyData.depth] at h4;omega,x,z,d1,rfl,dd1.same s5,dd2.same s5,Zce hnb ed1,Nat.lt_succ_self _,fun H2 s6=>⟨s6 _ _ (Zh ht (.tup [x,z]) _ _ eD),fun b o q=>?_,Zd,?_⟩⟩
     · rw [Zo (ZH q hD)];exact s6 _ _ (s5 _ _ q)
     · rw [List.replicate_succ',List.map_append];rfl
   · rintro ys H3 ⟨s3,eD,rfl⟩
     refine ⟨D,_,rfl,SqL.of eD,?_⟩
     rw [show ∀ k,(List.replicate k true).all id=true from fun k=>by simp]
     exact q H3 (s1.trans s3)
theorem ZdL {f:Addr}{fd:FuncData}(F:Fun K "_law_same" "_law_same" s_l_same f fd)(T:ZW mg)(b:Binds K fd VW [])(kp:PySem.W.keepIn K (.ref f)=true)(m:mg "_law_same"=some (.ref f)):∀ n,FnOk P w K mg base ZR (n+1) f fd VW (WS K n)
 | 0=>ZcF F T ⟨_,_,⟨fun vs H Q E ⟨_,h,_⟩=>absurd h (Nat.not_lt_zero _),fun _ _ _ _ _ _ _ _ _ _ _ _ _ ⟨_,h,_⟩=>absurd h (Nat.not_lt_zero _)⟩,b,kp,m⟩
 | n+1=>ZcF F T ⟨_,_,(ZdL F T b kp m n).imp fun vs H Q E ⟨j,h,x,y,d,a1,a2,a3,a4,a5,a6⟩=>⟨x,y,d,a1,a2,a3,a4,by omega,a6⟩,b,kp,m⟩
end
end K68
set_option maxHeartbeats 4000000
namespace K68
open PySem L2
section
variable {P:Program}{w:World}{K:PySem.W.Frag}{mg:Str→Option Value}{base:Heap}
abbrev nNm:List Str:=["_law_box_here","_law_many","_law_letters","_law_size","_law_stem","_law_first_here","_law_step","_law_at","_law_found","_law_k","_law_one","_law_other"]
abbrev pnNm:List Str:=["_law_box_here","_law_many"]
theorem scNm:Zt nNm pnNm (Zj s_l_names):=⟨rfl,rfl,rfl,by decide +kernel,rfl,by decide +kernel,by decide +kernel⟩
theorem ZgQ {f:Addr}{fd:FuncData}(F:Fun K "_law_names" "_law_names" s_l_names f fd)(T:ZW mg)(DT:DTk P w K mg base 1):FnOk P w K mg base ZR 2 f fd pnNm Zca:=by
 refine F.ok scNm (fun vs H Q E h=>?_) (fun cdv A outer s H vs Q E hr h=>?_)
 · obtain ⟨p,n,many,Δ,rfl,_⟩:=h;rfl
 obtain ⟨p,n,many,Δ,rfl,S,hn,h0,h1,q⟩:=h
 have hr1:=hr
 refine' ⟨?t,?h,?r⟩
 case h =>
   conv=>arg 2;whnf
   with_reducible refine' (Zf ?h1 (Zf ?h2 (Zf ?h3 (Zf ?h4 (Zf (Xn ?h5 ?h6 ?h7 ?h8 (Zf ?h9 (Zi ?h10)) ?h11) (Zi ?h12))))))
   case h1=>exact Uk (Ya (Zb Zn (Zb (Zk Yn Zc (Zq DT hr1 (Zb (pv 0) (Zb Zc Za)))) Za))) (Wr rfl (Yj (ZD (i:=2) scNm.nd rfl (Or.inr rfl)) (Yj (ZD (i:=3) scNm.nd rfl (Or.inl rfl)) XO)))
   case h2=>exact Zs (i:=4) scNm.nd rfl (Or.inl rfl) (Yd PySem.F.plainAttrs_str PySem.F.slot_str_join PySem.F.type_str_join Xt Zn (Zb (Wg (CompOk.of nNm s_l_names rfl rfl (by decide +kernel)) rfl (Wu rfl T.range (Zb (Zk YT (pv 3) Zc) Za))  (fun _ _ _ _ _=>ZC Zaj (pv 2) (Zq DT hr1 (Zb (pv 0) (Zb Zc Za))) (fun _ _=>rfl))) Za))
   case h3=>exact Zjn (i:=5) (j:=6) (k:=7) rfl scNm.nd rfl rfl rfl (by decide) (by decide) (by decide) rfl rfl rfl (Zb (Zq DT hr1 (Zb (pv 0) (Zb Zc Za))) (Zb (ZC ZL (ZN (Zb Zc (Zb Zc (Zb Zc (Zb Zc Za))))) (Zq DT hr1 (Zb (pv 0) (Zb Zc Za))) (fun _ _=>rfl)) (Zb (Zq DT hr1 (Zb (pv 0) (Zb (Zk YT (pv 3) Zc) Za))) Za))) rfl
   case h4=>exact Zs (i:=8) scNm.nd rfl (Or.inl rfl) (ZN Za)
   case h5=>exact PassesOwn.never
   case h6=>exact rfl
   case h7=>exact Wu rfl T.range (Zb (pv 1) Za)
   case h8=>exact ZD (i:=9) scNm.nd rfl (Or.inl rfl)
   case h9=>exact Uk (Zl Zdh rfl T.divmod (by decide +kernel) (Zb (Zk XR (Zk Yn (pv 5) (Zk WP (pv 6) (pv 9))) Zc) (Zb Zc Za))) (Wr rfl (Yj (ZD (i:=10) scNm.nd rfl (Or.inl rfl)) (Yj (ZD (i:=11) scNm.nd rfl (Or.inl rfl)) XO)))
   case h10=>exact YM (Yd PySem.F.plainAttrs_list PySem.F.slot_list_append PySem.F.type_list_append Yk (pv 8) (Zb (Zk Ys (Zk Ys (Zk Ys (Ye Zad (pv 4) Yq (Yc (pv 7))) (ZC Zaj (pv 2) (pv 10) (fun _ _=>rfl))) (ZC Zaj (pv 2) (pv 11) (fun _ _=>rfl))) (Ye Zad (pv 4) (Yc (pv 7)) Yq)) Za))
   case h11=>exact fun _=>rfl
   case h12=>exact Zp (pv 8)
 refine ⟨_,rfl,p,_,7,_,rfl,S,by omega,by decide,by decide,fun r1 H1 a0 a1 S1=>⟨_,_,rfl,rfl,(by show 2≤sizeLine;decide),fun t ht=>⟨t,_,rfl,SqT.of Zd,rfl,_,_,rfl,_,_,rfl,rfl,?_⟩⟩⟩
 generalize hE:upd H1 t _=H2
 have S2:=(S1.newE ht hE).tail
 clear hE
 refine ⟨rfl,_,rfl,_,_,rfl,rfl,_,rfl,by omega,by omega,fun D hD=>?_⟩
 have e1:(2+r1 - 2).toNat=r1.toNat:=by omega
 rw [e1]
 refine Zdj (ZB (show r1.toNat≤1000 by omega)) S2 hD (fun i ys Δ'=>∃ zs:List Str,ys=zs.map V.str∧(∀ z∈zs,∃ c,z=⟨#[c]⟩∧Ux c=true)∧Δ'=(p,Bx (n+1+i))::Δ) ⟨[],rfl,(fun _ h=>nomatch h),rfl⟩ ?_ ?_
 · rintro i ys Δ' H' hi hl ⟨zs,rfl,hz,rfl⟩ S'
   refine ⟨_,rfl,_,rfl,p,_,26,_,rfl,S'.pull p,by omega,by decide,by decide,fun r3 H3 b0 b1 S3=>?_⟩
   obtain ⟨c,hc,hcl⟩:=ZaR (x:=a26) ZaT b0 (by rw [WN];exact b1)
   refine ⟨a26,r3,c,rfl,rfl,by rw [WN];decide,hc,_,⟨zs++[⟨#[c]⟩],by rw [List.map_append];rfl,?_,rfl⟩,S3.pull D⟩
   intro z hz'
   rcases List.mem_append.mp hz' with h | h
   · exact hz z h
   · rw [List.mem_singleton.mp h];exact ⟨c,rfl,hcl⟩
 rintro ys Δ' H3 ⟨zs,rfl,hz,rfl⟩ hl S3
 rw [List.length_map] at hl
 obtain ⟨g1,g2,g3⟩:=Zfj hz
 refine ⟨_,D,zs,rfl,rfl,SqL.of (S3.get D),by omega,?_⟩
 have S4:=S3.tail
 generalize Txt.join (Str.ofString "") zs=stem at *
 refine ⟨_,rfl,p,_,676,_,rfl,S4,by omega,by decide,by decide,fun r5 H5 b0 b1 S5=>⟨(by show 4≤sizeLine;decide),fun l hl4=>?_⟩⟩
 generalize hE:upd H5 l _=H6
 have S6:=S5.newE hl4 hE
 clear hE
 refine ⟨_,rfl,p,_,4,_,rfl,S6.pull p,by omega,by decide,by decide,fun r7 H7 c0 c1 S7=>?_⟩
 obtain ⟨sv,hsm,hsv⟩:=ZjA (xs:=[.int 1,.int 27,.int 5,.int 251]) c0 c1
 obtain ⟨stp,rfl,hst,hst4⟩:∃ z:Int,sv=.int z∧(0≤z∧z≤251)∧(z=1∨z=27∨z=5∨z=251):=by
   simp only [List.mem_cons,List.not_mem_nil,or_false] at hsm
   rcases hsm with rfl | rfl | rfl | rfl<;>exact ⟨_,rfl,⟨by decide,by decide⟩,by decide⟩
 refine ⟨l,_,_,_,rfl,rfl,SqL.of (S7.get l),hsv,?_⟩
 have S8:=S7.drop l
 refine ⟨_,rfl,_,rfl,_,_,rfl,rfl,p,_,_,_,rfl,S8,by omega,by omega,by omega,fun r9 H9 d0 d1 S10=>⟨_,_,_,rfl,?_⟩⟩
 refine ⟨(by show 0≤sizeLine;decide),fun fl hfl=>?_⟩
 generalize hE:upd H9 fl _=H11
 have S11:=S10.newE hfl hE
 clear hE
 refine ⟨_,rfl,many,rfl,by omega,by omega,?_⟩
 refine Vd (fun i σ H'=>∃ x9 x10 x11 xs,σ=[some (.ref p),some (.int many),some (.str a26),some (.int (2+r1)),some (.str stem),some (.int r5),some (.int stp),some (.int r9),some (.ref fl),x9,x10,x11]∧Sep ((fl,Vm (xs.map V.str))::(p,Bx (n+20))::Δ) H'∧xs.length=i∧(∀ x∈xs,ZY x)∧∀ (j:Nat) (x:Str),xs[j]?=some x→Zei (Txt.slice stem none (some r9)) (Txt.slice stem (some r9) none) ((r5+stp * (0+(j:Int))) % 676) x)
   ⟨_,_,_,[],rfl,(S11.pull p).le (by omega) |>.pull fl,rfl,(fun _ h=>nomatch h),fun _ _ h=>nomatch h⟩ ?_ ?_
 · rintro i σ H' hi ⟨x9,x10,x11,xs,rfl,S',hxl,hxs,hnm⟩
   have hb:0≤stp * (0+(i:Int)):=Int.mul_nonneg hst.1 (by omega)
   refine ⟨_,rfl,_,rfl,_,rfl,_,_,rfl,rfl,.inl ⟨by omega,by omega⟩,_,_,rfl,rfl,_,_,rfl,rfl,(by show (0:Int) < 676;decide),?_⟩
   obtain ⟨z,hz⟩:∃ z:Int,(r5+stp * (0+(i:Int))) % 676=z:=⟨_,rfl⟩
   have hz0:0≤z:=by rw [← hz];exact Int.emod_nonneg _ (by decide)
   have hz1:z < 676:=by rw [← hz];exact Int.emod_lt_of_pos _ (by decide)
   refine ⟨z,26,congrArg (fun y=>[V.int y,V.int 26]) hz,⟨by decide,by decide⟩,fun t2 ht2=>⟨t2,_,rfl,SqT.of Zd,rfl,_,_,rfl,_,_,rfl,rfl,?_⟩⟩
   generalize hE:upd H' t2 _=H12
   have S12:=(S'.newE ht2 hE).tail
   clear hE
   obtain ⟨c1',hc1,hcl1⟩:=ZaR (x:=a26) ZaT (r:=z / 26) (by omega) (by rw [WN];omega)
   obtain ⟨c2',hc2,hcl2⟩:=ZaR (x:=a26) ZaT (r:=z % 26) (by omega) (by rw [WN];omega)
   have hsl:=Zgv (x:=stem) d0 (by omega)
   refine ⟨_,rfl,.inl ⟨rfl,_,SqL.of (S12.get fl)⟩,_,rfl,_,rfl,r9,rfl,stem,rfl,ZB (show stem.length≤1000 by omega),_,rfl,_,rfl,a26,_,c1',rfl,rfl,by rw [WN];decide,hc1,_,_,rfl,rfl,ZB (show _≤1000 by rw [XJ];omega),?_⟩
   refine ⟨_,rfl,_,rfl,a26,_,c2',rfl,rfl,by rw [WN];decide,hc2,_,_,rfl,rfl,ZB (show _≤1000 by rw [XM,XJ,XJ];omega),_,rfl,_,rfl,r9,rfl,stem,rfl,ZB (show stem.length≤1000 by omega),_,_,rfl,rfl,ZB (show _≤1000 by rw [XM,XM,XJ,XJ];omega),?_⟩
   refine ⟨fl,_,_,rfl,rfl,S12.get fl,XC (show _≤1000 by rw [List.length_map];omega),?_⟩
   have S13:=S12.put fl (.lst (xs.map V.str++[.str (Txt.slice stem none (some r9)++(⟨#[c1']⟩:Str)++(⟨#[c2']⟩:Str)++Txt.slice stem (some r9) none)]))
   refine ⟨_,_,_,xs++[Txt.slice stem none (some r9)++(⟨#[c1']⟩:Str)++(⟨#[c2']⟩:Str)++Txt.slice stem (some r9) none],rfl,by rw [List.map_append];exact S13,by simp [hxl],fun x hx=>?_,fun j x hx=>?_⟩
   · rcases List.mem_append.mp hx with h | h
     · exact hxs x h
     · rw [List.mem_singleton.mp h]
       refine ⟨?_,?_,VJ (VJ (VJ (Zam g3) (ZcN hcl1)) (ZcN hcl2)) (Zam g3)⟩<;>(rw [XM,XM,XM,XJ,XJ];omega)
   · by_cases hj:j < xs.length
     · rw [List.getElem?_append_left hj] at hx;exact hnm j x hx
     · have hj2:j=i:=by
         have:=(List.getElem?_eq_some_iff.mp hx).1
         rw [List.length_append,List.length_singleton] at this;omega
       subst hj2
       rw [List.getElem?_append_right (by omega),show j - xs.length=0 by omega] at hx
       cases (show some _=some x from hx)
       rw [hz];exact ⟨c1',c2',rfl,hc1,hc2⟩
 · rintro σ H' ⟨x9,x10,x11,xs,rfl,S',hxl,hxs,hnm⟩
   exact ⟨_,rfl,q fl H' xs S' hxl hxs (Zfp hst4 (by omega) hnm)⟩
end
end K68
set_option maxHeartbeats 4000000
namespace K68
open PySem L2
section
variable {P:Program}{w:World}{K:PySem.W.Frag}{mg:Str→Option Value}{base:Heap}
def ZeQ:Sp:=fun vs H Q _=>∃(p:Addr)(n:Nat)(Δ:Rs),vs=[.ref p]∧Sep ((p,Bx n)::Δ) H∧n≤890000∧∀(v:V)(H':Hp),IsVal v→Sep ((p,Bx (n+52))::Δ) H'→Q v H'
def wordsW:List Str:=["begin","x in y","late "," in","a begin b","in","set a 5 b","weave 3"]
instance (v:V):Decidable (IsVal v):=by unfold IsVal;cases v<;>infer_instance
theorem ZfX:∀ x∈wordsW,IsVal (.str x):=by decide +kernel
abbrev nWo:List Str:=["_law_box_here","_law_words"]
abbrev ZeM:List Str:=["_law_box_here"]
theorem scWo:Zt nWo ZeM (Zj s_l_worth):=⟨rfl,rfl,rfl,by decide +kernel,rfl,by decide +kernel,by decide +kernel⟩
theorem ZlI {f:Addr}{fd:FuncData}(F:Fun K "_law_worth" "_law_worth" s_l_worth f fd)(T:ZW mg)(DT:DTk P w K mg base 2)(DV:Def P w K mg base 2 "_law_value" ["_law_box_here"] VP):FnOk P w K mg base ZR 3 f fd ZeM ZeQ:=by
 refine F.ok scWo (fun vs H Q E h=>?_) (fun cdv A outer s H vs Q E hr h=>?_)
 · obtain ⟨p,N,Δ,rfl,_⟩:=h;rfl
 have hr1:=hr
 obtain ⟨p,N,Δ,rfl,S,hN,q⟩:=h
 refine' ⟨?t,?h,?r⟩
 case h =>
   conv=>arg 2;whnf
   with_reducible refine' (Zf (Zs (i:=1) ?h1 ?h2 ?h3 (ZN ?h4) ?h5 ?h6) (Zi ?h7))
   case h1=>exact scWo.nd
   case h2=>exact rfl
   case h3=>exact (Or.inl rfl)
   case h4=>(refine' Zba (vs:=[.str "begin",.str "x in y",.str "late ",.str " in",.str "a begin b",.str "in",.str "set a 5 b",.str "weave 3"]) ?zz;case zz=>decide +kernel)
   case h5=>exact rfl
   case h6=>exact (by first | exact .inl rfl | exact .inr rfl)
   case h7=>exact Zp (YH (ZF Xb (Zq DT hr1 (Zb (pv 0) (Zb Zc Za))) Zc (ZE _)) (ZC ZL (pv 1) (Zq DT hr1 (Zb (pv 0) (Zb Zc Za))) (fun _ _=>rfl)) (Zq DV hr (Zb (pv 0) Za)))
 refine ⟨(show 8≤sizeLine by decide),fun l hl=>?_⟩
 have S0:=S.new hl (.lst (wordsW.map V.str))
 refine ⟨_,rfl,p,N,8,_,rfl,S0.pull p,by omega,by decide,by decide,fun r1 H1 a0 a1 S1=>⟨rfl,_,rfl,?_⟩⟩
 refine WC (fun c=>?_) (fun c=>?_)
 · refine ⟨_,rfl,_,rfl,p,N+1,8,_,rfl,S1,by omega,by decide,by decide,fun r2 H2 b0 b1 S2=>?_⟩
   obtain ⟨x,hx,he⟩:=Wx (f:=V.str) (xs:=wordsW) b0 b1
   have el:=S2.get l
   exact ⟨l,_,_,_,rfl,rfl,SqL.of el,he,q _ _ (ZfX x hx) ((S2.drop l).le (by omega))⟩
 · exact ⟨_,rfl,p,_,_,rfl,S1,by omega,fun v H2 hv S2=>q v H2 hv ((S2.drop l).le (by omega))⟩
def wordsC:List Str:=["begin","late","in","set","look","back","copy","pass","weave","setting","task"]
instance (x:Str):Decidable (ZY x):=by unfold ZY;infer_instance
theorem ZfZ:∀ x∈wordsC,ZY x:=by decide +kernel
def spCa:Sp:=fun vs H Q _=>∃(p:Addr)(n many:Nat)(Δ:Rs),vs=[.ref p,.int (many:Int)]∧Sep ((p,Bx n)::Δ) H∧n≤890000∧1≤many∧many≤100∧∀(l:Addr)(H':Hp)(xs:List Str),Sep ((l,Vm (xs.map V.str))::(p,Bx (n+30))::Δ) H'→xs≠[]→xs.length≤200→(∀ x∈xs,ZY x)→Q (.ref l) H'
theorem UA (ws:List Str)(lo hi:Option Int):∃ zs:List Str,YJ (ws.map V.str) lo hi=zs.map V.str∧(∀ z∈zs,z∈ws)∧zs.length≤ws.length:=by
 unfold YJ
 refine ⟨(ws.drop _).take _,by rw [List.map_take,List.map_drop],fun z hz=>List.mem_of_mem_drop (List.mem_of_mem_take hz),?_⟩
 rw [List.length_take,List.length_drop];omega
abbrev nCa:List Str:=["_law_box_here","_law_many","_law_words","_law_at","_law_some","_law_first_here"]
abbrev Zie:List Str:=["_law_box_here","_law_many"]
theorem scCa:Zt nCa Zie (Zj s_l_called):=⟨rfl,rfl,rfl,by decide +kernel,rfl,by decide +kernel,by decide +kernel⟩
theorem ZlA {f:Addr}{fd:FuncData}(F:Fun K "_law_called" "_law_called" s_l_called f fd)(T:ZW mg)(DT:DTk P w K mg base 2)(DN:Def P w K mg base 2 "_law_names" ["_law_box_here","_law_many"] Zca):FnOk P w K mg base ZR 3 f fd Zie spCa:=by
 refine F.ok scCa (fun vs H Q E h=>?_) (fun cdv A outer s H vs Q E hr h=>?_)
 · obtain ⟨p,N,many,Δ,rfl,_⟩:=h;rfl
 have hr1:=hr
 obtain ⟨p,N,many,Δ,rfl,S,hN,hm1,hm2,q⟩:=h
 refine' ⟨?t,?h,?r⟩
 case h =>
   conv=>arg 2;whnf
   with_reducible refine' (Zf (Zs (i:=2) ?h1 ?h2 ?h3 (ZN ?h4) ?h5 ?h6) (Zf ?h7 (Zf ?h8 (Zi ?h9))))
   case h1=>exact scCa.nd
   case h2=>exact rfl
   case h3=>exact (Or.inl rfl)
   case h4=>(refine' Zba (vs:=[.str "begin",.str "late",.str "in",.str "set",.str "look",.str "back",.str "copy",.str "pass",.str "weave",.str "setting",.str "task"]) ?zz;case zz=>decide +kernel)
   case h5=>exact rfl
   case h6=>exact (by first | exact .inl rfl | exact .inr rfl)
   case h7=>exact XT (i:=3) (j:=4) rfl scCa.nd rfl rfl (by decide) rfl rfl (Zb (Zq DT hr1 (Zb (pv 0) (Zb Zc Za))) (Zb (ZC ZL (ZN (Zb Zc (Zb Zc (Zb (Zq DT hr1 (Zb (pv 0) (Zb Zc Za))) Za)))) (Zq DT hr1 (Zb (pv 0) (Zb Zc Za))) (fun _ _=>rfl)) Za)) rfl
   case h8=>exact Zs (i:=5) scCa.nd rfl (Or.inr rfl) (Ye Xs (Zk WU (Ye Xs (pv 2) (Yc (pv 3)) Yq) (Ye Xs (pv 2) Yq (Yc (pv 3)))) Yq (Yc (pv 4)))
   case h9=>exact Zp (Ye Xs (Zk WU (pv 5) (Zck (CompOk.of nCa s_l_called rfl rfl (by decide +kernel)) rfl (Vp (Zq DN hr (Zb (pv 0) (Zb (pv 1) Za)))) (fun _ _ _ _ _=>ZF (ZbK (K:=K) rfl) (pv 6) (pv 5) rfl) (fun _ _ _ _ _=>pv 6))) Yq (Yc (pv 1)))
 refine ⟨(show 11≤sizeLine by decide),fun l hl=>?_⟩
 have S0:=S.new hl (.lst (wordsC.map V.str))
 refine ⟨_,rfl,p,N,11,_,rfl,S0.pull p,by omega,by decide,by decide,fun r1 H1 a0 a1 S1=>?_⟩
 refine ⟨_,rfl,p,N+1,5,_,rfl,S1,by omega,by decide,by decide,fun r2 H2 b0 b1 S2=>⟨(show 3≤sizeLine by decide),fun t ht=>?_⟩⟩
 have S3:=S2.new ht (.lst [.int 0,.int 0,.int r2])
 refine ⟨_,rfl,p,N+2,3,_,rfl,S3.pull p,by omega,by decide,by decide,fun r3 H3 c0 c1 S4=>?_⟩
 obtain ⟨sm,hsm,hse⟩:=Wx (f:=V.int) (xs:=[0,0,r2]) c0 c1
 have et:=S4.get t
 refine ⟨t,_,_,_,rfl,rfl,SqL.of et,hse,?_⟩
 have S5:=S4.drop t
 have hs4:0≤sm∧sm≤4:=by
   simp only [List.mem_cons,List.not_mem_nil,or_false] at hsm
   rcases hsm with rfl | rfl | rfl<;>omega
 refine ⟨_,_,rfl,?_⟩
 have el:=S5.get l
 refine ⟨_,rfl,_,rfl,_,rfl,l,_,rfl,SqL.of el,fun d1 hd1=>?_⟩
 obtain ⟨z1,e1,m1,n1⟩:=UA wordsC (some r1) none
 rw [e1]
 have S6:=S5.new hd1 (.lst (z1.map V.str))
 have el6:=S6.get l
 refine ⟨_,rfl,_,rfl,_,rfl,l,_,rfl,SqL.of el6,fun d2 hd2=>?_⟩
 obtain ⟨z2,e2,m2,n2⟩:=UA wordsC none (some r1)
 rw [e2]
 have S7:=S6.new hd2 (.lst (z2.map V.str))
 have hwc:wordsC.length=11:=rfl
 refine ⟨d1,d2,_,_,rfl,rfl,S7.get d1,S7.get d2,ZB (show _≤1000 by rw [List.length_map,List.length_map];omega),fun d3 hd3=>?_⟩
 have S8:=S7.new hd3 (.lst (z1.map V.str++z2.map V.str))
 refine ⟨_,rfl,_,rfl,d3,_,rfl,SqL.of (S8.get d3),fun d4 hd4=>?_⟩
 obtain ⟨fs,e4,m4,n4⟩:=UA (z1++z2) none (some sm)
 rw [List.map_append] at e4
 rw [e4]
 have S9:=(((((S8.new hd4 (.lst (fs.map V.str))).drop d3).drop d2).drop d1).drop l)
 rw [List.length_append] at n4
 have mF:∀ x∈fs,ZY x:=fun x hx=>ZfZ x (by
   rcases List.mem_append.mp (m4 x hx) with h | h
   · exact m1 x h
   · exact m2 x h)
 generalize upd _ d4 _=H9 at *
 refine ⟨_,rfl,_,rfl,_,rfl,p,N+3,(many:Int),_,rfl,S9.pull p,by omega,by omega,by omega,fun nl H10 xs S10 hxl hxn hnd=>?_⟩
 have hxl2:xs.length=many:=by rw [hxl];exact Int.toNat_natCast many
 have enl:=S10.get nl
 have ed4:=S10.get d4
 refine ⟨nl,rfl,⟨_,SqL.of enl⟩,fun D hD=>?_⟩
 refine Zeg (K:=K) (xs:=xs.map V.str) (ZB (show _≤1000 by rw [List.length_map];omega)) (fun i ys H'=>Same H10 H'∧H' D=some (.lst ys)∧i≤xs.length∧ys=((xs.take i).filter fun x=>!decide (x∈fs)).map V.str) ⟨Zh hD _,Zd,Nat.zero_le _,rfl⟩ ?_ ?_ ?_
 · rintro i ys H' ⟨s1,_,hi,rfl⟩
   refine ⟨?_,SqL.of (s1 _ _ enl)⟩
   have:=List.length_filter_le (fun x=>!decide (x∈fs)) (xs.take i)
   rw [List.length_take] at this
   rw [List.length_map];omega
 · rintro i v ys H' hv ⟨s1,eD,hi,rfl⟩
   rw [List.getElem?_map] at hv
   obtain ⟨x,ex,rfl⟩:=Option.map_eq_some_iff.mp hv
   have hx2:=(List.getElem?_eq_some_iff.mp ex).1
   refine ⟨_,rfl,_,rfl,d4,_,rfl,.inl (SqL.of (s1 _ _ ed4)),rfl,(by rw [List.all_map];exact List.all_eq_true.mpr fun _ _=>rfl),_,rfl,?_⟩
   dsimp only
   rw [if_pos rfl,Zjy]
   have et:xs.take (i+1)=xs.take i++[x]:=by rw [List.take_add_one,ex];rfl
   cases hc:decide (x∈fs) with
   | true=>exact ZI ⟨s1,eD,hx2,by rw [et,List.filter_append,List.filter_cons,hc];simp⟩
   | false=>exact ZQ ⟨_,rfl,eD,fun b o e=>by rw [Zo (ZH e hD)];exact s1 _ _ e,Zd,hx2,by rw [et,List.filter_append,List.filter_cons,hc,List.map_append];simp⟩
 · rintro ys H' ⟨s1,eD,_,rfl⟩
   rw [List.length_map,List.take_length] at eD
   have S11:=S10.made s1 hD eD
   generalize hgs:(xs.filter fun x=>!decide (x∈fs))=gs at *
   have hgl:gs.length≤xs.length:=by rw [← hgs];exact List.length_filter_le _ _
   refine ⟨d4,D,_,_,rfl,rfl,S11.get d4,eD,ZB (show _≤1000 by rw [List.length_map,List.length_map];omega),fun d5 hd5=>?_⟩
   rw [← List.map_append]
   have S12:=S11.new hd5 (.lst ((fs++gs).map V.str))
   refine ⟨_,rfl,_,rfl,d5,_,rfl,SqL.of (S12.get d5),fun d6 hd6=>?_⟩
   rw [UC,← List.map_take]
   have S13:=(((((S12.new hd6 (.lst (((fs++gs).take many).map V.str))).drop d5).drop D).drop nl).drop d4)
   have S14:Sep ((p,Bx (N+30))::_) _:=(S13.pull p).le (by omega)
   refine q d6 _ ((fs++gs).take many) (S14.pull d6) ?_ (by rw [List.length_take,List.length_append];omega) (fun x hx=>?_)
   · intro z
     have h0:=congrArg List.length z
     rw [List.length_take,List.length_append,List.length_nil] at h0
     have hf0:fs=[]:=List.eq_nil_of_length_eq_zero (by omega)
     rw [hf0] at hgs
     have:gs=xs:=by rw [← hgs];exact List.filter_eq_self.mpr fun _ _=>rfl
     rw [this,hf0] at h0
     simp only [List.length_nil] at h0
     omega
   · rcases List.mem_append.mp (List.mem_of_mem_take hx) with h | h
     · exact mF x h
     · rw [← hgs] at h;exact hxn x (List.mem_filter.mp h).1
end
end K68
set_option maxHeartbeats 4000000
namespace K68
open PySem L2
def ZaU (K:PySem.W.Frag)(ps:List Pg):Xf:=fun a h=>DatT K h (.ref a) (.tuple (Pg.dats ps))
def YW (K:PySem.W.Frag)(p:Pg):Xf:=fun a h=>DatT K h (.ref a) p.dat
def UX (K:PySem.W.Frag)(ps:List Pg):Xf:=fun a h=>∃ vs,h a=some (.lst vs)∧DatTs K h vs (Pg.dats ps)
instance {K:PySem.W.Frag} {ps:List Pg}:Up (ZaU K ps):=⟨fun h s=>DatT.same s h⟩
instance {K:PySem.W.Frag} {p:Pg}:Up (YW K p):=⟨fun h s=>DatT.same s h⟩
instance {K:PySem.W.Frag} {ps:List Pg}:Up (UX K ps):=⟨fun ⟨vs,e,d⟩ s=>⟨vs,s _ _ e,DatTs.same s d⟩⟩
theorem ZlO {K:PySem.W.Frag}{Δ Δ':Rs}{H:Hp}{ps qs:List Pg}(S:Sep Δ H)(l:Addr)[P:Pull l Δ (UX K ps) Δ'](vs':List V)(d:DatTs K H vs' (Pg.dats qs)):Sep ((l,UX K qs)::Δ') (upd H l (.lst vs')):=by
 obtain ⟨vs,el,_⟩:=S.get l
 refine S.updR l _ (fun h ⟨vs,e,_⟩=>⟨_,e,rfl⟩) fun h r l' h' e1 e2 e3=>⟨vs',e1,DatTs.tf ⟨fun b xs q=>e3 b _ (Vy q el (fun z=>nomatch z)) q rfl,fun b o u q=>e3 b _ (Vy q el (fun z=>nomatch z)) q rfl⟩ d⟩
structure RO (Δ:Rs)(nl sl:Addr)(NS SS:List Str):Prop where
 rd:∀ H,Sep Δ H→H nl=some (.lst (NS.map V.str))∧H sl=some (.lst (SS.map V.str))
 n0:NS≠[]
 s0:SS≠[]
 nl:NS.length≤1000
 sl:SS.length≤1000
 nk:∀ x∈NS,ZY x
 sk:∀ x∈SS,ZY x
section
variable {P:Program}{w:World}{K:PySem.W.Frag}{mg:Str→Option Value}{base:Heap}
def UD (K:PySem.W.Frag)(n:Nat):Sp:=fun vs H Q _=>∃(p nl sl:Addr)(N many blocks:Nat)(NS SS:List Str)(Δ:Rs),vs=[.ref p,.ref nl,.ref sl,.int (many:Int),.int (blocks:Int)]∧Sep ((p,Bx N)::Δ) H∧RO Δ nl sl NS SS∧blocks≤n∧many≤200∧N+100 * many≤800000 ∧
 ∀ (t:Addr) (H':Hp) (ps:List Pg),Pg.manys ps=many→Pg.oks ps→Pg.hgts ps≤blocks→Sep ((t,ZaU K ps)::(p,Bx (N+100 * many))::Δ) H'→Q (.ref t) H'
abbrev nPr:List Str:=["_law_box_here","_law_names_here","_law_slots","_law_many","_law_blocks","_law_steps","_law_way","_law_name","_law_slot","_law_inner","_law_within","_law_rows_here"]
abbrev Uz:List Str:=["_law_box_here","_law_names_here","_law_slots","_law_many","_law_blocks"]
theorem scPr:Zt nPr Uz (Zj s_l_program):=⟨rfl,rfl,rfl,by decide +kernel,rfl,by decide +kernel,by decide +kernel⟩
theorem Zfq {f:Addr}{fd:FuncData}{n k:Nat}(F:Fun K "_law_program" "_law_program" s_l_program f fd)(T:ZW mg)(DT:DTk P w K mg base k)(DWo:Def P w K mg base k "_law_worth" ZeM ZeQ)(DPr:Def P w K mg base k "_law_program" Uz (fun vs H Q E=>∃ m,m < n∧UD K m vs H Q E)):FnOk P w K mg base ZR (k+1) f fd Uz (UD K n):=by
 refine F.ok scPr (fun vs H Q E h=>?_) (fun cdv A outer s H vs Q E hr h=>?_)
 · obtain ⟨p,nl,sl,N,many,blocks,NS,SS,Δ,rfl,_⟩:=h;rfl
 obtain ⟨p,nl,sl,N,many,blocks,NS,SS,Δ,rfl,S,RO,hbn,hm,hN,q⟩:=h
 have hr1:=hr
 refine' ⟨?t,?h,?r⟩
 case h =>
   conv=>arg 2;whnf
   with_reducible refine' (Zf ?h1 (Zf (Zgz ?h2 ?h3 (Zf ?h4 (Zf ?h5 (Zi (Yb ?h6 (Zf ?h7 (Zf ?h8 (Zi ?h9))) (Zi (Yb ?h10 (Zi ?h11) (Zf ?h12 (Zi ?h13))))))))) (Zi ?h14)))
   case h1=>exact Zs (i:=5) scPr.nd rfl (Or.inl rfl) (ZN Za)
   case h2=>exact PassesOwn.never
   case h3=>exact ZF Zay (pv 3) Zc (ZE _)
   case h4=>exact XT (i:=6) (j:=3) rfl scPr.nd rfl rfl (by decide) rfl rfl (Zb (Zq DT hr1 (Zb (pv 0) (Zb Zc Za))) (Zb (Zk YT (pv 3) Zc) Za)) rfl
   case h5=>exact XT (i:=7) (j:=8) rfl scPr.nd rfl rfl (by decide) rfl rfl (Zb (ZC ZL (pv 1) (Zq DT hr1 (Zb (pv 0) (Zb (Zl ZJ rfl T.len PySem.boot_len (Zb (pv 1) Za)) Za))) (fun _ _=>rfl)) (Zb (ZC ZL (pv 2) (Zq DT hr1 (Zb (pv 0) (Zb (Zl ZJ rfl T.len PySem.boot_len (Zb (pv 2) Za)) Za))) (fun _ _=>rfl)) Za)) rfl
   case h6=>exact PW.pt (ZjS (ZF ZbO (pv 6) Zc (ZE _)) (Zjs (ZF Zay (pv 4) Zc (ZE _))))
   case h7=>exact Zs (i:=9) scPr.nd rfl (Or.inl rfl) (Zq DT hr1 (Zb (pv 0) (Zb (Zk Yn (pv 3) Zc) Za)))
   case h8=>exact XT (i:=10) (j:=3) rfl scPr.nd rfl rfl (by decide) rfl rfl (Zb (Zq DPr hr (Zb (pv 0) (Zb (pv 1) (Zb (pv 2) (Zb (pv 9) (Zb (Zk YT (pv 4) Zc) Za)))))) (Zb (Zk YT (pv 3) (pv 9)) Za)) rfl
   case h9=>exact YM (Yd PySem.F.plainAttrs_list PySem.F.slot_list_append PySem.F.type_list_append Yk (pv 5) (Zb (ZC ZL (ZN (Zb (Ya (Zb Zn (Zb (pv 10) Za))) (Zb (Ya (Zb Zn (Zb (pv 10) Za))) (Zb (Ya (Zb Zn (Zb (pv 8) (Zb (pv 10) Za)))) Za)))) (ZC ZL (ZN (Zb Zc (Zb Zc (Zb Zc (Zb Zc (Zb Zc Za)))))) (pv 6) (fun _ _=>rfl)) (fun _ _=>rfl)) Za))
   case h10=>exact ZF ZbO (pv 6) Zc (ZE _)
   case h11=>exact YM (Yd PySem.F.plainAttrs_list PySem.F.slot_list_append PySem.F.type_list_append Yk (pv 5) (Zb (Ya (Zb Zn (Zb (pv 7) (Zb (Zq DWo hr (Zb (pv 0) Za)) (Zb (pv 8) Za))))) Za))
   case h12=>exact Zs (i:=11) scPr.nd rfl (Or.inl rfl) (ZN (XQ (Ya (Zb Zn (Zb (pv 7) Za))) (XQ (Ya (Zb Zn (Zb (pv 7) Za))) (XQ (Ya (Zb Zn (Zb (pv 8) Za))) (XQ (Ya (Zb Zn (Zb (pv 8) Za))) (XQ (Ya (Zb Zn (Zb (pv 8) Za))) (XQ (Ya (Zb Zn Za)) Za rfl) rfl) rfl) rfl) rfl) rfl))
   case h13=>exact YM (Yd PySem.F.plainAttrs_list PySem.F.slot_list_append PySem.F.type_list_append Yk (pv 5) (Zb (ZC ZL (pv 11) (Zk XR (Zk YT (pv 6) Zc) Zc) (fun _ _=>rfl)) Za))
   case h14=>exact Zp (Yv Xe rfl T.tuple (by decide +kernel) (Zb (pv 5) Za))
 have hn0:=List.length_pos_iff.mpr RO.n0
 have hs0:=List.length_pos_iff.mpr RO.s0
 have hnl:=RO.nl
 have hsl:=RO.sl
 refine ⟨(show 0≤sizeLine by decide),fun l hl=>?_⟩
 have S0:=(S.new hl (.lst [])).say l (UX K []) fun h e=>⟨[],e,.nil⟩
 refine ⟨fun m σ H'=>∃ ps y6 y7 y8 y9 y10 y11,σ=[some (.ref p),some (.ref nl),some (.ref sl),some (.int (m:Int)),some (.int (blocks:Int)),some (.ref l),y6,y7,y8,y9,y10,y11]∧Pg.manys ps+m=many∧Pg.oks ps∧Pg.hgts ps≤blocks∧Sep ((p,Bx (N+100 * (many - m)))::(l,UX K ps)::Δ) H',⟨many,[],_,_,_,_,_,_,rfl,(show 0+many=many by omega),trivial,Nat.zero_le _,(S0.pull p).le (by omega)⟩,?_⟩
 rintro m σ H' ⟨ps,y6,y7,y8,y9,y10,y11,rfl,hps,hok,hh,S'⟩
 refine ⟨_,rfl,_,_,rfl,rfl,_,rfl,WC (fun c=>?_) (fun c=>?_)⟩
 · have hc:(0:Int) < (m:Int):=of_decide_eq_true c
   refine ⟨_,fun σ' H2 h=>h,?_⟩
   have lsz:∀ (vs:List V) (Hx:Hp),UX K ps l Hx→Hx l=some (.lst vs)→vs.length < sizeLine:=by
     rintro vs Hx ⟨vs',e1,d1⟩ e2
     rw [e1] at e2
     cases e2
     exact XC (show vs.length≤1000 by rw [d1.pgs];have:=Pg.len_manys ps;omega)
   have fin:∀ (pg:Pg) (t:Addr) (Hx:Hp) (vs:List V) (j:Nat) (ji:Int) (y6 y7 y8 y9 y10 y11:Option V),ji=(j:Int)→pg.ok→pg.hgt≤blocks→pg.many+j=m→Sep ((t,YW K pg)::(p,Bx (N+100 * (many - j)))::(l,UX K ps)::Δ) Hx→Hx l=some (.lst vs)→∃ m',m' < m∧∃ ps' z6 z7 z8 z9 z10 z11,([some (.ref p),some (.ref nl),some (.ref sl),some (.int ji),some (.int (blocks:Int)),some (.ref l),y6,y7,y8,y9,y10,y11]:St)=[some (.ref p),some (.ref nl),some (.ref sl),some (.int (m':Int)),some (.int (blocks:Int)),some (.ref l),z6,z7,z8,z9,z10,z11]∧Pg.manys ps'+m'=many∧Pg.oks ps'∧Pg.hgts ps'≤blocks∧Sep ((p,Bx (N+100 * (many - m')))::(l,UX K ps')::Δ) (upd Hx l (.lst (vs++[.ref t]))):=by
     rintro pg t Hx vs j ji y6 y7 y8 y9 y10 y11 rfl hpo hph hpm Sx elx
     obtain ⟨vs',e1,d1⟩:=Sx.get l
     rw [elx] at e1
     cases e1
     have dt:DatT K Hx (.ref t) pg.dat:=Sx.get t
     have S3:=(ZlO Sx l (qs:=ps++[pg]) (vs++[.ref t]) (by rw [Pg.dats_app];exact d1.append (.cons dt .nil))).drop t
     have hmp:=Pg.many_pos pg
     refine ⟨j,by omega,ps++[pg],_,_,_,_,_,_,rfl,?_,Pg.oks_app hok ⟨hpo,trivial⟩,Pg.hgts_app hh (by show max pg.hgt 0≤blocks;omega),S3.pull p⟩
     rw [Pg.manys_app]
     show Pg.manys ps+(pg.many+0)+j=many
     omega
   refine ⟨_,rfl,p,_,14,_,rfl,S',by omega,by decide,by decide,fun r1 H1 a0 a1 S1=>⟨_,rfl,_,_,rfl,rfl,_,_,rfl,?_⟩⟩
   refine ⟨_,rfl,_,rfl,_,rfl,nl,_,rfl,.inl (SqL.of (RO.rd _ S1.tail.tail).1),p,_,_,_,rfl,S1,by omega,by rw [List.length_map];omega,by rw [List.length_map];omega,fun r2 H2 b0 b1 S2=>?_⟩
   rw [List.length_map] at b1
   obtain ⟨x,hxm,hxe⟩:=Wx (f:=V.str) (xs:=NS) b0 b1
   refine ⟨nl,_,_,_,rfl,rfl,SqL.of (RO.rd _ S2.tail.tail).1,hxe,?_⟩
   refine ⟨_,rfl,_,rfl,_,rfl,sl,_,rfl,.inl (SqL.of (RO.rd _ S2.tail.tail).2),p,_,_,_,rfl,S2,by omega,by rw [List.length_map];omega,by rw [List.length_map];omega,fun r3 H3 d0 d1 S3=>?_⟩
   rw [List.length_map] at d1
   obtain ⟨y,hym,hye⟩:=Wx (f:=V.str) (xs:=SS) d0 d1
   refine ⟨sl,_,_,_,rfl,rfl,SqL.of (RO.rd _ S3.tail.tail).2,hye,_,_,rfl,?_⟩
   obtain ⟨vs3,el3,_⟩:=S3.get l
   refine ⟨_,rfl,_,_,rfl,rfl,_,rfl,WC (fun c1=>?_) (fun c1=>?_)⟩
   · have h5:r1 < 5:=of_decide_eq_true c1
     refine ⟨_,rfl,_,_,rfl,rfl,_,rfl,WC (fun c2=>?_) (fun c2=>?_)⟩
     · have hb1:(0:Int) < (blocks:Int):=of_decide_eq_true c2
       refine ⟨_,rfl,_,rfl,_,_,rfl,rfl,p,_,_,_,rfl,S3,by omega,by omega,by omega,fun r4 H4 f0 f1 S4=>?_⟩
       refine ⟨_,rfl,_,rfl,_,rfl,_,rfl,_,rfl,_,_,rfl,rfl,blocks - 1,by omega,p,nl,sl,_,r4.toNat,blocks - 1,NS,SS,(l,UX K ps)::Δ,by rw [show ((blocks - 1:Nat):Int)=(blocks:Int) - 1 by omega,show ((r4.toNat:Nat):Int)=r4 by omega];rfl,S4,⟨fun H z=>RO.rd H z.tail,RO.n0,RO.s0,RO.nl,RO.sl,RO.nk,RO.sk⟩,by omega,by omega,by omega,fun ti H5 qs hq1 hq2 hq3 S5=>?_⟩
       refine ⟨_,rfl,_,rfl,_,_,rfl,rfl,_,_,rfl,?_⟩
       obtain ⟨vs5,el5,_⟩:=S5.get l
       refine ⟨_,rfl,.inl ⟨rfl,_,SqL.of el5⟩,_,rfl,(show 2≤sizeLine by decide),fun t1 ht1=>?_⟩
       have V1:=S5.new ht1 (.tup [.str "begin",.ref ti])
       have e1:DatT K _ (.ref ti) (.tuple (Pg.dats qs)):=V1.get ti
       have V1:=V1.im (T:=YW K (.blk "begin" qs)) fun h e _ im=>DatT.tup (SqT.of e) (.cons (.str _) (.cons (e1.tf ⟨fun x xs q=>im _ _ q rfl,fun x o u q=>im _ _ q rfl⟩) .nil))
       refine ⟨_,rfl,(show 2≤sizeLine by decide),fun t2 ht2=>?_⟩
       have V2:=V1.new ht2 (.tup [.str "late",.ref ti])
       have e2:DatT K _ (.ref ti) (.tuple (Pg.dats qs)):=V2.get ti
       have V2:=V2.im (T:=YW K (.blk "late" qs)) fun h e _ im=>DatT.tup (SqT.of e) (.cons (.str _) (.cons (e2.tf ⟨fun x xs q=>im _ _ q rfl,fun x o u q=>im _ _ q rfl⟩) .nil))
       refine ⟨_,rfl,_,rfl,(show 3≤sizeLine by decide),fun t3 ht3=>?_⟩
       have V3:=V2.new ht3 (.tup [.str "in",.str y,.ref ti])
       have e3:DatT K _ (.ref ti) (.tuple (Pg.dats qs)):=V3.get ti
       have V3:=V3.im (T:=YW K (.inn y qs)) fun h e _ im=>DatT.tup (SqT.of e) (.cons (.str _) (.cons (.str _) (.cons (e3.tf ⟨fun x xs q=>im _ _ q rfl,fun x o u q=>im _ _ q rfl⟩) .nil)))
       refine ⟨(show 3≤sizeLine by decide),fun lr hlr=>?_⟩
       have V4:=V3.new hlr (.lst [.ref t1,.ref t2,.ref t3])
       refine ⟨(show 5≤sizeLine by decide),fun lk hlk=>?_⟩
       have V5:=V4.new hlk (.lst [.int 0,.int 0,.int 1,.int 2,.int 2])
       generalize upd _ lk _=Hx at *
       obtain ⟨vs7,el7,_⟩:=V5.get l
       have pick:∃ (kk:Int) (tk:Addr) (pg:Pg),YK [V.int 0,.int 0,.int 1,.int 2,.int 2] r1=some (.int kk)∧YK [V.ref t1,.ref t2,.ref t3] kk=some (.ref tk)∧pg.ok∧pg.hgt≤blocks∧pg.many=1+Pg.manys qs∧Sep ((tk,YW K pg)::(p,Bx (N+100 * (many - (m - 1 - r4.toNat))))::(l,UX K ps)::Δ) Hx:=by
         have U:=(V5.drop lk).drop lr
         rcases (show r1=0∨r1=1∨r1=2∨r1=3∨r1=4 by omega) with rfl | rfl | rfl | rfl | rfl
         · exact ⟨0,t1,.blk "begin" qs,ZA (j:=0) rfl,ZA (j:=0) rfl,⟨.inl rfl,hq2⟩,(by show Pg.hgts qs+1≤blocks;omega),rfl,(((((U.drop t3).drop t2).drop ti).pull p).le (by omega)).pull t1⟩
         · exact ⟨0,t1,.blk "begin" qs,ZA (j:=1) rfl,ZA (j:=0) rfl,⟨.inl rfl,hq2⟩,(by show Pg.hgts qs+1≤blocks;omega),rfl,(((((U.drop t3).drop t2).drop ti).pull p).le (by omega)).pull t1⟩
         · exact ⟨1,t2,.blk "late" qs,ZA (j:=2) rfl,ZA (j:=1) rfl,⟨.inr rfl,hq2⟩,(by show Pg.hgts qs+1≤blocks;omega),rfl,(((((U.drop t3).drop t1).drop ti).pull p).le (by omega)).pull t2⟩
         · exact ⟨2,t3,.inn y qs,ZA (j:=3) rfl,ZA (j:=2) rfl,⟨RO.sk y hym,hq2⟩,(by show Pg.hgts qs+1≤blocks;omega),rfl,(((((U.drop t2).drop t1).drop ti).pull p).le (by omega)).pull t3⟩
         · exact ⟨2,t3,.inn y qs,ZA (j:=4) rfl,ZA (j:=2) rfl,⟨RO.sk y hym,hq2⟩,(by show Pg.hgts qs+1≤blocks;omega),rfl,(((((U.drop t2).drop t1).drop ti).pull p).le (by omega)).pull t3⟩
       obtain ⟨kk,tk,pg,k1,k2,p1,p2,p3,p4⟩:=pick
       exact ⟨_,rfl,lk,_,_,_,rfl,rfl,SqL.of (V5.get lk),k1,lr,_,_,_,rfl,rfl,SqL.of (V5.get lr),k2,l,vs7,_,rfl,rfl,el7,lsz _ _ (V5.get l) el7,fin pg tk _ vs7 (m - 1 - r4.toNat) _ _ _ _ _ _ _ (by omega) p1 p2 (by omega) p4 el7⟩
     · refine ⟨_,rfl,_,_,rfl,rfl,_,rfl,ifT (decide_eq_true (by omega)) ?_⟩
       refine ⟨_,rfl,.inl ⟨rfl,_,SqL.of el3⟩,_,rfl,_,rfl,p,_,_,rfl,S3,by omega,fun v H4 hv S4=>⟨_,rfl,(show 4≤sizeLine by decide),fun t ht=>?_⟩⟩
       have S5:=(S4.new ht (.tup [.str "set",.str x,v,.str y])).say t (YW K (.set x v y)) fun h e=>DatT.tup (SqT.of e) (.cons (.str _) (.cons (.str _) (.cons (by cases v<;>first | exact .int _ | exact .str _ | exact hv.elim) (.cons (.str _) .nil))))
       obtain ⟨vs5,el5,_⟩:=S5.get l
       exact ⟨l,vs5,_,rfl,rfl,el5,lsz _ _ (S5.get l) el5,fin (.set x v y) t _ vs5 (m - 1) _ _ _ _ _ _ _ (by omega) ⟨RO.nk x hxm,hv,RO.sk y hym⟩ (Nat.zero_le _) (by show 1+(m - 1)=m;omega) (((S5.pull p).le (by omega)).pull t) el5⟩
   · refine ZI ⟨_,rfl,_,_,rfl,rfl,_,rfl,WC (fun c2=>?_) (fun c2=>?_)⟩
     · refine ⟨_,rfl,.inl ⟨rfl,_,SqL.of el3⟩,_,rfl,_,rfl,p,_,_,rfl,S3,by omega,fun v H4 hv S4=>⟨_,rfl,(show 4≤sizeLine by decide),fun t ht=>?_⟩⟩
       have S5:=(S4.new ht (.tup [.str "set",.str x,v,.str y])).say t (YW K (.set x v y)) fun h e=>DatT.tup (SqT.of e) (.cons (.str _) (.cons (.str _) (.cons (by cases v<;>first | exact .int _ | exact .str _ | exact hv.elim) (.cons (.str _) .nil))))
       obtain ⟨vs5,el5,_⟩:=S5.get l
       exact ⟨l,vs5,_,rfl,rfl,el5,lsz _ _ (S5.get l) el5,fin (.set x v y) t _ vs5 (m - 1) _ _ _ _ _ _ _ (by omega) ⟨RO.nk x hxm,hv,RO.sk y hym⟩ (Nat.zero_le _) (by show 1+(m - 1)=m;omega) (((S5.pull p).le (by omega)).pull t) el5⟩
     · have h5:¬ r1 < 5:=fun z=>c1 (decide_eq_true z)
       have h8:¬ r1 < 8:=fun z=>c2 (decide_eq_true z)
       refine ⟨_,rfl,(show 2≤sizeLine by decide),fun t1 ht1=>?_⟩
       have T1:=(S3.new ht1 (.tup [.str "look",.str x])).say t1 (YW K (.look x)) fun h e=>DatT.tup (SqT.of e) (.cons (.str _) (.cons (.str _) .nil))
       refine ⟨_,rfl,(show 2≤sizeLine by decide),fun t2 ht2=>?_⟩
       have T2:=(T1.new ht2 (.tup [.str "look",.str x])).say t2 (YW K (.look x)) fun h e=>DatT.tup (SqT.of e) (.cons (.str _) (.cons (.str _) .nil))
       refine ⟨_,rfl,(show 2≤sizeLine by decide),fun t3 ht3=>?_⟩
       have T3:=(T2.new ht3 (.tup [.str "back",.str y])).say t3 (YW K (.slot "back" y)) fun h e=>DatT.tup (SqT.of e) (.cons (.str _) (.cons (.str _) .nil))
       refine ⟨_,rfl,(show 2≤sizeLine by decide),fun t4 ht4=>?_⟩
       have T4:=(T3.new ht4 (.tup [.str "copy",.str y])).say t4 (YW K (.slot "copy" y)) fun h e=>DatT.tup (SqT.of e) (.cons (.str _) (.cons (.str _) .nil))
       refine ⟨_,rfl,(show 2≤sizeLine by decide),fun t5 ht5=>?_⟩
       have T5:=(T4.new ht5 (.tup [.str "copy",.str y])).say t5 (YW K (.slot "copy" y)) fun h e=>DatT.tup (SqT.of e) (.cons (.str _) (.cons (.str _) .nil))
       refine ⟨(show 1≤sizeLine by decide),fun t6 ht6=>?_⟩
       have T6:=(T5.new ht6 (.tup [.str "pass"])).say t6 (YW K .pass) fun h e=>DatT.tup (SqT.of e) (.cons (.str _) .nil)
       refine ⟨(show 6≤sizeLine by decide),fun lr hlr=>?_⟩
       have T7:=T6.new hlr (.lst [.ref t1,.ref t2,.ref t3,.ref t4,.ref t5,.ref t6])
       generalize upd _ lr _=Hx at *
       obtain ⟨vs7,el7,_⟩:=T7.get l
       have pick:∃ (tk:Addr) (pg:Pg),YK [V.ref t1,.ref t2,.ref t3,.ref t4,.ref t5,.ref t6] ((r1 - 8) % 6)=some (.ref tk)∧pg.ok∧pg.hgt≤blocks∧pg.many=1∧Sep ((tk,YW K pg)::(p,Bx (N+100 * (many - (m - 1))))::(l,UX K ps)::Δ) Hx:=by
         have U:=T7.drop lr
         rcases (show r1=8∨r1=9∨r1=10∨r1=11∨r1=12∨r1=13 by omega) with rfl | rfl | rfl | rfl | rfl | rfl
         · exact ⟨t1,.look x,ZA (j:=0) rfl,RO.nk x hxm,Nat.zero_le _,rfl,((((((((U.drop t6).drop t5).drop t4).drop t3).drop t2)).pull p).le (by omega)).pull t1⟩
         · exact ⟨t2,.look x,ZA (j:=1) rfl,RO.nk x hxm,Nat.zero_le _,rfl,((((((((U.drop t6).drop t5).drop t4).drop t3).drop t1)).pull p).le (by omega)).pull t2⟩
         · exact ⟨t3,.slot "back" y,ZA (j:=2) rfl,⟨.inl rfl,RO.sk y hym⟩,Nat.zero_le _,rfl,((((((((U.drop t6).drop t5).drop t4).drop t2).drop t1)).pull p).le (by omega)).pull t3⟩
         · exact ⟨t4,.slot "copy" y,ZA (j:=3) rfl,⟨.inr rfl,RO.sk y hym⟩,Nat.zero_le _,rfl,((((((((U.drop t6).drop t5).drop t3).drop t2).drop t1)).pull p).le (by omega)).pull t4⟩
         · exact ⟨t5,.slot "copy" y,ZA (j:=4) rfl,⟨.inr rfl,RO.sk y hym⟩,Nat.zero_le _,rfl,((((((((U.drop t6).drop t4).drop t3).drop t2).drop t1)).pull p).le (by omega)).pull t5⟩
         · exact ⟨t6,.pass,ZA (j:=5) rfl,trivial,Nat.zero_le _,rfl,((((((((U.drop t5).drop t4).drop t3).drop t2).drop t1)).pull p).le (by omega)).pull t6⟩
       obtain ⟨tk,pg,hk,p1,p2,p3,p4⟩:=pick
       exact ⟨_,rfl,.inl ⟨rfl,_,SqL.of el7⟩,_,rfl,_,rfl,_,_,rfl,rfl,_,_,rfl,rfl,(show (0:Int) < 6 by decide),lr,_,_,_,rfl,rfl,SqL.of (T7.get lr),hk,l,vs7,_,rfl,rfl,el7,lsz _ _ (T7.get l) el7,fin pg tk _ vs7 (m - 1) _ _ _ _ _ _ _ (by omega) p1 p2 (by omega) p4 el7⟩
 · have hc:m=0:=by
     have:¬ (0:Int) < (m:Int):=fun z=>c (decide_eq_true z)
     omega
   subst hc
   obtain ⟨vs1,el1,dl1⟩:=S'.get l
   refine ⟨_,rfl,l,vs1,rfl,.inl ⟨SqL.of el1,fun t ht=>?_⟩⟩
   have S1:=S'.new ht (.tup vs1)
   have dl2:=DatTs.same (Zh ht (.tup vs1)) dl1
   refine q t _ ps (by omega) hok hh ?_
   exact (S1.im (T:=ZaU K ps) fun h e _ im=>DatT.tup (SqT.of e) (DatTs.tf ⟨fun x xs q=>im _ _ q rfl,fun x o u q=>im _ _ q rfl⟩ dl2)).drop l
end
end K68
set_option maxHeartbeats 4000000
namespace K68
open PySem L2
def DtR (K:PySem.W.Frag)(v:V)(d:PyData):Xf:=fun _ h=>DatT K h v d
theorem Zjc {K:PySem.W.Frag}{Δ:Rs}{H:Hp}{v:V}{d:PyData}(z:Addr)(S:Sep Δ H)(h:DatT K H v d):Sep ((z,DtR K v d)::Δ) H:=by
 let h0:Hp:=fun x=>match H x with
   | some o=>if YD o=true then none else some o
   | none=>none
 have s0:Same h0 H:=fun b o e=>by
   show H b=some o
   have e:(match H b with | some o=>if YD o=true then none else some o | none=>none)=some o:=e
   split at e
   · split at e
     · cases e
     · rename_i eb _;rw [eb];exact e
   · cases e
 have k0:∀ b o,H b=some o→YD o=false→h0 b=some o:=fun b o e m=>by
   show (match H b with | some o=>if YD o=true then none else some o | none=>none)=some o
   rw [e];show (if YD o=true then none else some o)=some o;rw [m];rfl
 have ec : cut H h0=H:=funext fun b=>by
   cases eb:H b with
   | none=>cases ec:cut H h0 b with
     | none=>rfl
     | some o=>have:=(cut_some.mp ec).1;rw [eb] at this;cases this
   | some o=>exact cut_some.mpr ⟨eb,fun u hu=>by
       have hu':(match H b with | some o=>if YD o=true then none else some o | none=>none)=some u:=hu
       rw [eb] at hu'
       have hu2:(if YD o=true then none else some o)=some u:=hu'
       split at hu2
       · cases hu2
       · rename_i hm;cases hu2;cases h9:YD o with
         | true=>exact absurd h9 hm
         | false=>rfl⟩
 refine ⟨h0,s0,DatT.tf ⟨fun b xs e=>k0 b _ e rfl,fun b o u e=>k0 b _ e rfl⟩ h,by rw [ec];exact S⟩
theorem DatTs.drop {K:PySem.W.Frag}{H:Hp}:∀(i:Nat){vs ds},DatTs K H vs ds→DatTs K H (vs.drop i) (ds.drop i)
 | 0,_,_,h=>h
 | _+1,_,_,.nil=>.nil
 | i+1,_,_,.cons _ b=>DatTs.drop i b
theorem DatTs.take {K:PySem.W.Frag}{H:Hp}:∀(i:Nat){vs ds},DatTs K H vs ds→DatTs K H (vs.take i) (ds.take i)
 | 0,_,_,_=>.nil
 | _+1,_,_,.nil=>.nil
 | i+1,_,_,.cons a b=>.cons a (DatTs.take i b)
theorem slT {K:PySem.W.Frag}{H:Hp}{a:Addr}{ps:List Pg}{Q:VK}(h:DatT K H (.ref a) (.tuple (Pg.dats ps)))(q:∀ b H',Same H H'→DatT K H' (.ref b) (.tuple (Pg.dats (ps.take 1)))→Q (.ref b) H'):Zhq K (.ref a) none (some 1) H Q:=by
 cases h with
 | @tup _ xs _ e hq =>
   have hl:=hq.pgs
   refine ⟨a,xs,rfl,e,?_⟩
   have hd:=DatTs.take 1 hq
   rw [Pg.dats_map,← List.map_take,← Pg.dats_map] at hd
   by_cases c:HT.sIx xs.length 0 none=0∧HT.sIx xs.length xs.length (some 1)=xs.length
   · refine .inl ⟨c.1,c.2,q a H (Same.refl H) (.tup e ?_)⟩
     have h2:=c.2
     rw [show (1:Int)=((1:Nat):Int) from rfl,HT.sIx_nat] at h2
     rw [List.take_of_length_le (by omega)] at hd
     exact hd
   · refine .inr ⟨c,fun p hp=>q p _ (Zh hp _) (.tup (SqT.of Zd) (DatTs.same (Zh hp _) ?_))⟩
     rw [show (1:Int)=((1:Nat):Int) from rfl,UC];exact hd
theorem slD {K:PySem.W.Frag}{H:Hp}{a:Addr}{ps:List Pg}{Q:VK}(h:DatT K H (.ref a) (.tuple (Pg.dats ps)))(q:∀ b H',Same H H'→DatT K H' (.ref b) (.tuple (Pg.dats (ps.drop 1)))→Q (.ref b) H'):Zhq K (.ref a) (some 1) none H Q:=by
 cases h with
 | @tup _ xs _ e hq =>
   have hl:=hq.pgs
   refine ⟨a,xs,rfl,e,?_⟩
   have hd:=DatTs.drop 1 hq
   rw [Pg.dats_map,← List.map_drop,← Pg.dats_map] at hd
   by_cases c:HT.sIx xs.length 0 (some 1)=0∧HT.sIx xs.length xs.length none=xs.length
   · refine .inl ⟨c.1,c.2,q a H (Same.refl H) (.tup e ?_)⟩
     have h2:=c.1
     rw [show (1:Int)=((1:Nat):Int) from rfl,HT.sIx_nat] at h2
     have:xs=[]:=List.eq_nil_of_length_eq_zero (by omega)
     rw [this,List.drop_nil] at hd
     rw [this];exact hd
   · refine .inr ⟨c,fun p hp=>q p _ (Zh hp _) (.tup (SqT.of Zd) (DatTs.same (Zh hp _) ?_))⟩
     rw [show (1:Int)=((1:Nat):Int) from rfl,VX];exact hd
theorem catT {K:PySem.W.Frag}{H:Hp}{a b:Addr}{ps qs:List Pg}{Q:VK}(h1:DatT K H (.ref a) (.tuple (Pg.dats ps)))(h2:DatT K H (.ref b) (.tuple (Pg.dats qs)))(hl:ps.length+qs.length≤20000)(q:∀ c H',Same H H'→DatT K H' (.ref c) (.tuple (Pg.dats (ps++qs)))→Q (.ref c) H'):Zit K (.ref a) (.ref b) H Q:=by
 cases h1 with
 | @tup _ xs _ e1 q1 =>
   cases h2 with
   | @tup _ ys _ e2 q2 =>
     have k1:=q1.pgs
     have k2:=q2.pgs
     have hd:=DatTs.append q1 q2
     rw [← Pg.dats_app] at hd
     refine ⟨a,b,xs,ys,rfl,rfl,e1,e2,ZB (show xs.length+ys.length≤20000 by omega),?_⟩
     by_cases c1:xs=[]
     · refine .inl ⟨c1,q b H (Same.refl H) (.tup e2 ?_)⟩
       rw [c1] at hd;exact hd
     · by_cases c2:ys=[]
       · refine .inr (.inl ⟨c1,c2,q a H (Same.refl H) (.tup e1 ?_)⟩)
         rw [c2,List.append_nil] at hd;exact hd
       · exact .inr (.inr ⟨c1,c2,fun p hp=>q p _ (Zh hp _) (.tup (SqT.of Zd) (DatTs.same (Zh hp _) hd))⟩)
section
variable {P:Program}{w:World}{K:PySem.W.Frag}{mg:Str→Option Value}{base:Heap}
theorem Zgw:∀{ps:List Pg},(∀ p∈ps,p.ok)→Pg.oks ps
 | [],_=>trivial
 | p::ps,h=>⟨h p List.mem_cons_self,Zgw fun q hq=>h q (List.mem_cons_of_mem _ hq)⟩
theorem Zdb:∀{ps:List Pg},Pg.oks ps→∀ p∈ps,p.ok
 | _::_,h,_,hp=>by
   rcases List.mem_cons.mp hp with rfl | hp
   · exact h.1
   · exact Zdb h.2 _ hp
theorem Zdq {n:Nat}:∀{ps:List Pg},(∀ p∈ps,p.hgt≤n)→Pg.hgts ps≤n
 | [],_=>Nat.zero_le _
 | p::ps,h=>by
   have h1:=h p List.mem_cons_self
   have h2:=Zdq fun q hq=>h q (List.mem_cons_of_mem _ hq)
   show max p.hgt (Pg.hgts ps)≤n
   omega
theorem ZaQ {n:Nat}:∀{ps:List Pg},Pg.hgts ps≤n→∀ p∈ps,p.hgt≤n
 | q::ps,h,_,hp=>by
   have h':max q.hgt (Pg.hgts ps)≤n:=h
   rcases List.mem_cons.mp hp with rfl | hp
   · omega
   · exact ZaQ (by omega) _ hp
theorem Zjj {n m:Nat}(h:n≤m){vs:List V}{H:Hp}{Q:VK}{E:XK}(z:UD K n vs H Q E):UD K m vs H Q E:=by
 obtain ⟨p,nl,sl,N,many,blocks,NS,SS,Δ,e,S,RO,hb,z⟩:=z
 exact ⟨p,nl,sl,N,many,blocks,NS,SS,Δ,e,S,RO,by omega,z⟩
theorem Ziw {f:Addr}{fd:FuncData}(F:Fun K "_law_program" "_law_program" s_l_program f fd)(T:ZW mg)(b:Binds K fd Uz [])(kp:PySem.W.keepIn K (.ref f)=true)(m:mg "_law_program"=some (.ref f))(DT:DTk P w K mg base 3)(DWo:Def P w K mg base 3 "_law_worth" ZeM ZeQ):∀ n,FnOk P w K mg base ZR (4+n) f fd Uz (UD K n)
 | 0=>Zfq F T DT DWo ⟨_,_,⟨fun vs H Q E ⟨_,h,_⟩=>absurd h (Nat.not_lt_zero _),fun _ _ _ _ _ _ _ _ _ _ _ _ _ ⟨_,h,_⟩=>absurd h (Nat.not_lt_zero _)⟩,b,kp,m⟩
 | n+1=>Zfq F T (DT.mono (show 3≤4+n by omega)) (DWo.mono (show 3≤4+n by omega)) ⟨_,_,(Ziw F T b kp m DT DWo n).imp fun vs H Q E ⟨j,h,z⟩=>Zjj (by omega) z,b,kp,m⟩
def spDe (K:PySem.W.Frag):Sp:=fun vs H Q _=>∃(p nl sl:Addr)(N many:Nat)(NS SS:List Str)(Δ:Rs),vs=[.ref p,.ref nl,.ref sl,.int (many:Int)]∧Sep ((p,Bx N)::Δ) H∧RO Δ nl sl NS SS∧many≤200∧N≤10000 ∧
 ∀ (t:Addr) (H':Hp) (ps:List Pg) (N':Nat),Pg.manys ps≤300→Pg.oks ps→Pg.hgts ps≤6→N'≤100000→Sep ((t,ZaU K ps)::(p,Bx N')::Δ) H'→Q (.ref t) H'
abbrev nDe:List Str:=["_law_box_here","_law_names_here","_law_slots","_law_many","_law_program_here","_law_block","_law_slot","_law_at","_law_step","_law_more"]
abbrev Zgy:List Str:=["_law_box_here","_law_names_here","_law_slots","_law_many"]
theorem scDe:Zt nDe Zgy (Zj s_l_deep):=⟨rfl,rfl,rfl,by decide +kernel,rfl,by decide +kernel,by decide +kernel⟩
theorem Zlq {f:Addr}{fd:FuncData}{k:Nat}(F:Fun K "_law_deep" "_law_deep" s_l_deep f fd)(T:ZW mg)(DT:DTk P w K mg base k)(DPr:Def P w K mg base k "_law_program" Uz (UD K 0)):FnOk P w K mg base ZR (k+1) f fd Zgy (spDe K):=by
 refine F.ok scDe (fun vs H Q E h=>?_) (fun cdv A outer s H vs Q E hr h=>?_)
 · obtain ⟨p,nl,sl,N,many,NS,SS,Δ,rfl,_⟩:=h;rfl
 obtain ⟨p,nl,sl,N,many,NS,SS,Δ,rfl,S,RO,hm,hN,q⟩:=h
 have hr1:=hr
 refine' ⟨?t,?h,?r⟩
 case h =>
   conv=>arg 2;whnf
   with_reducible refine' (Zf ?h1 (Zf (Xn ?h2 ?h3 ?h4 ?h5 (Zf ?h6 (Zf ?h7 (Zf ?h8 (Zi ?h9)))) ?h10) (Zi ?h11)))
   case h1=>exact Zs (i:=4) scDe.nd rfl (Or.inl rfl) (Zq DPr hr (Zb (pv 0) (Zb (pv 1) (Zb (pv 2) (Zb (Zl (ZbC rfl) rfl T.max (by decide +kernel) (Zb Zc (Zb (Zk YT (pv 3) Zc) Za))) (Zb Zc Za))))))
   case h2=>exact PassesOwn.never
   case h3=>exact rfl
   case h4=>exact Wu rfl T.range (Zb Zc Za)
   case h5=>exact ZD (i:=5) scDe.nd rfl (Or.inl rfl)
   case h6=>exact XT (i:=6) (j:=7) rfl scDe.nd rfl rfl (by decide) rfl rfl (Zb (ZC ZL (pv 2) (Zq DT hr1 (Zb (pv 0) (Zb (Zl ZJ rfl T.len PySem.boot_len (Zb (pv 2) Za)) Za))) (fun _ _=>rfl)) (Zb (Zq DT hr1 (Zb (pv 0) (Zb (Zk Yn (Zl ZJ rfl T.len PySem.boot_len (Zb (pv 4) Za)) Zc) Za))) Za)) rfl
   case h7=>exact Zs (i:=8) scDe.nd rfl (Or.inl rfl) (ZC ZL (ZN (Zb (Ya (Zb Zn (Zb (pv 4) Za))) (Zb (Ya (Zb Zn (Zb (pv 4) Za))) (Zb (Ya (Zb Zn (Zb (pv 6) (Zb (pv 4) Za)))) Za)))) (Zq DT hr1 (Zb (pv 0) (Zb Zc Za))) (fun _ _=>rfl))
   case h8=>exact Zs (i:=9) scDe.nd rfl (Or.inl rfl) (Zq DPr hr (Zb (pv 0) (Zb (pv 1) (Zb (pv 2) (Zb (Zq DT hr1 (Zb (pv 0) (Zb Zc Za))) (Zb Zc Za))))))
   case h9=>exact Zs (i:=4) scDe.nd rfl (Or.inl rfl) (Zk (ZdP (K:=K) rfl) (Zk (ZdP (K:=K) rfl) (Ye (ZdF (K:=K) rfl) (pv 9) Yq (Yc Zc)) (Ya (Zb (pv 8) Za))) (Ye (ZdF (K:=K) rfl) (pv 9) (Yc Zc) Yq))
   case h10=>exact fun _=>rfl
   case h11=>exact Zp (pv 4)
 have hs0:=List.length_pos_iff.mpr RO.s0
 have hsl:=RO.sl
 refine ⟨_,rfl,_,rfl,_,rfl,_,rfl,_,_,rfl,rfl,_,_,rfl,p,nl,sl,N,many - 18,0,NS,SS,Δ,by rw [show (if (many:Int) - 18 > 0 then (many:Int) - 18 else 0)=((many - 18:Nat):Int) by split<;>omega];rfl,S,RO,Nat.le_refl _,by omega,by omega,fun t0 H0 ps0 h1 h2 h3 S0=>?_⟩
 refine ⟨6,rfl,by decide,by decide,?_⟩
 refine Vd (fun i σ H'=>∃ t ps N' y5 y6 y7 y8 y9,σ=[some (.ref p),some (.ref nl),some (.ref sl),some (.int (many:Int)),some (.ref t),y5,y6,y7,y8,y9]∧Pg.manys ps≤200+4 * i∧Pg.oks ps∧Pg.hgts ps≤i∧N'≤40000+1000 * i∧Sep ((p,Bx N')::(t,ZaU K ps)::Δ) H') ⟨t0,ps0,N+100 * (many - 18),_,_,_,_,_,rfl,by omega,h2,h3,by omega,S0.pull p⟩ ?_ ?_
 · rintro i σ H' hi ⟨t, ps, N',y5,y6,y7,y8,y9,rfl,hm1,hok,hh,hN',S'⟩
   replace hi : i < 6 := by have:(i:Int) < 6:=by first | exact_mod_cast hi | omega
                            omega
   refine ⟨_,rfl,_,rfl,_,rfl,sl,_,rfl,.inl (SqL.of (RO.rd _ S'.tail.tail).2),p,_,_,_,rfl,S',by omega,by rw [List.length_map];omega,by rw [List.length_map];omega,fun r1 H1 a0 a1 S1=>?_⟩
   rw [List.length_map] at a1
   obtain ⟨y,hym,hye⟩:=Wx (f:=V.str) (xs:=SS) a0 a1
   obtain ⟨ta,xs,eta,et1,dt1⟩:=DatT.tupI (show DatT K H1 (.ref t) _ from S1.get t)
   cases eta
   have hxl:=dt1.pgs
   have hlm:=Pg.len_manys ps
   refine ⟨sl,_,_,_,rfl,rfl,SqL.of (RO.rd _ S1.tail.tail).2,hye,_,rfl,_,rfl,t,xs,rfl,.inr et1,_,_,rfl,rfl,p,_,_,_,rfl,S1,by omega,by omega,by omega,fun r2 H2 b0 b1 S2=>⟨_,_,rfl,?_⟩⟩
   refine ⟨_,rfl,(show 2≤sizeLine by decide),fun t1 ht1=>?_⟩
   have V1:=S2.new ht1 (.tup [.str "begin",.ref t])
   have e1:DatT K _ (.ref t) (.tuple (Pg.dats ps)):=V1.get t
   have V1:=V1.im (T:=YW K (.blk "begin" ps)) fun h e _ im=>DatT.tup (SqT.of e) (.cons (.str _) (.cons (e1.tf ⟨fun x xs q=>im _ _ q rfl,fun x o u q=>im _ _ q rfl⟩) .nil))
   refine ⟨_,rfl,(show 2≤sizeLine by decide),fun t2 ht2=>?_⟩
   have V2:=V1.new ht2 (.tup [.str "late",.ref t])
   have e2:DatT K _ (.ref t) (.tuple (Pg.dats ps)):=V2.get t
   have V2:=V2.im (T:=YW K (.blk "late" ps)) fun h e _ im=>DatT.tup (SqT.of e) (.cons (.str _) (.cons (e2.tf ⟨fun x xs q=>im _ _ q rfl,fun x o u q=>im _ _ q rfl⟩) .nil))
   refine ⟨_,rfl,_,rfl,(show 3≤sizeLine by decide),fun t3 ht3=>?_⟩
   have V3:=V2.new ht3 (.tup [.str "in",.str y,.ref t])
   have e3:DatT K _ (.ref t) (.tuple (Pg.dats ps)):=V3.get t
   have V3:=V3.im (T:=YW K (.inn y ps)) fun h e _ im=>DatT.tup (SqT.of e) (.cons (.str _) (.cons (.str _) (.cons (e3.tf ⟨fun x xs q=>im _ _ q rfl,fun x o u q=>im _ _ q rfl⟩) .nil)))
   refine ⟨(show 3≤sizeLine by decide),fun lr hlr=>?_⟩
   have V4:=V3.new hlr (.lst [.ref t1,.ref t2,.ref t3])
   refine ⟨_,rfl,p,_,3,_,rfl,V4.pull p,by omega,by decide,by decide,fun r3 H3 c0 c1 S3=>?_⟩
   have pick:∃ (tk:Addr) (pg:Pg),YK [V.ref t1,.ref t2,.ref t3] r3=some (.ref tk)∧pg.ok∧pg.hgt≤i+1∧pg.many=1+Pg.manys ps∧Sep ((p,Bx (N'+1+1+1))::(tk,YW K pg)::Δ) H3:=by
     have U:=S3.drop lr
     rcases (show r3=0∨r3=1∨r3=2 by omega) with rfl | rfl | rfl
     · exact ⟨t1,.blk "begin" ps,ZA (j:=0) rfl,⟨.inl rfl,hok⟩,(by show Pg.hgts ps+1≤i+1;omega),rfl,(((U.drop t3).drop t2).drop t)⟩
     · exact ⟨t2,.blk "late" ps,ZA (j:=1) rfl,⟨.inr rfl,hok⟩,(by show Pg.hgts ps+1≤i+1;omega),rfl,(((U.drop t3).drop t1).drop t)⟩
     · exact ⟨t3,.inn y ps,ZA (j:=2) rfl,⟨RO.sk y hym,hok⟩,(by show Pg.hgts ps+1≤i+1;omega),rfl,(((U.drop t2).drop t1).drop t)⟩
   obtain ⟨tk,pg,k1,p1,p2,p3,S4⟩:=pick
   refine ⟨lr,_,_,_,rfl,rfl,SqL.of (S3.get lr),k1,?_⟩
   refine ⟨_,rfl,_,rfl,_,rfl,_,rfl,p,_,3,_,rfl,S4,by omega,by decide,by decide,fun r4 H4 f0 f1 S5=>?_⟩
   refine ⟨p,nl,sl,_,r4.toNat,0,NS,SS,(tk,YW K pg)::Δ,by rw [show ((r4.toNat:Nat):Int)=r4 by omega];rfl,S5,⟨fun H z=>RO.rd H z.tail,RO.n0,RO.s0,RO.nl,RO.sl,RO.nk,RO.sk⟩,Nat.le_refl _,by omega,by omega,fun tm H5 qs hq1 hq2 hq3 S6=>?_⟩
   have dm:DatT K H5 (.ref tm) (.tuple (Pg.dats qs)):=S6.get tm
   have dk:DatT K H5 (.ref tk) pg.dat:=S6.get tk
   have hql:=Pg.len_manys qs
   refine ⟨_,rfl,?_⟩
   dsimp only [We]
   refine ⟨1,rfl,slT dm fun b1 H6 s6 d6=>?_⟩
   refine ⟨_,rfl,(show 1≤sizeLine by decide),fun b2 hb2=>?_⟩
   have s7:=Zh hb2 (.tup [.ref tk])
   have d7:DatT K (upd H6 b2 (.tup [.ref tk])) (.ref b2) (.tuple (Pg.dats [pg])):=.tup (SqT.of Zd) (.cons (dk.same (s6.trans s7)) .nil)
   refine catT (d6.same s7) d7 (by rw [List.length_take];simp;omega) fun b3 H8 s8 d8=>?_
   refine ⟨_,rfl,1,rfl,?_⟩
   dsimp only [We]
   refine slD (dm.same ((s6.trans s7).trans s8)) fun b4 H9 s9 d9=>?_
   refine catT (d8.same s9) d9 (by simp;omega) fun c H10 s10 d10=>?_
   have S7:=((S6.drop tm).mono ((((s6.trans s7).trans s8).trans s9).trans s10)).drop tk
   have hmt:Pg.manys (qs.take 1)+Pg.manys (qs.drop 1)=Pg.manys qs:=by rw [← Pg.manys_app,List.take_append_drop]
   refine ⟨c,qs.take 1++[pg]++qs.drop 1,_,_,_,_,_,_,rfl,?_,?_,?_,?_,(Zjc c S7 d10).pull p⟩
   · rw [Pg.manys_app,Pg.manys_app]
     show Pg.manys (qs.take 1)+(pg.many+0)+Pg.manys (qs.drop 1)≤_
     omega
   · refine Zgw fun z hz=>?_
     rcases List.mem_append.mp hz with hz | hz
     · rcases List.mem_append.mp hz with hz | hz
       · exact Zdb hq2 z (List.mem_of_mem_take hz)
       · rw [List.mem_singleton.mp hz];exact p1
     · exact Zdb hq2 z (List.mem_of_mem_drop hz)
   · refine Zdq fun z hz=>?_
     rcases List.mem_append.mp hz with hz | hz
     · rcases List.mem_append.mp hz with hz | hz
       · exact Nat.le_trans (ZaQ hq3 z (List.mem_of_mem_take hz)) (Nat.zero_le _)
       · rw [List.mem_singleton.mp hz];exact p2
     · exact Nat.le_trans (ZaQ hq3 z (List.mem_of_mem_drop hz)) (Nat.zero_le _)
   · omega
 · rintro σ H' ⟨t,ps,N',y5,y6,y7,y8,y9,rfl,hm1,hok,hh,hN',S'⟩
   exact ⟨_,rfl,q t H' ps N' (by omega) hok hh (by omega) (S'.pull t)⟩
def spDr (K:PySem.W.Frag):Sp:=fun vs H Q _=>∃(p:Addr)(N most:Nat)(Δ:Rs),vs=[.ref p,.int (most:Int)]∧Sep ((p,Bx N)::Δ) H∧most≤200∧N≤1000 ∧
 ∀ (t:Addr) (H':Hp) (ps:List Pg) (N':Nat),Pg.manys ps≤300→Pg.oks ps→Pg.hgts ps≤6→N'≤100000→Sep ((t,ZaU K ps)::(p,Bx N')::Δ) H'→Q (.ref t) H'
abbrev nDr:List Str:=["_law_box_here","_law_most","_law_names_here","_law_slots","_law_way","_law_many"]
abbrev Zhu:List Str:=["_law_box_here","_law_most"]
theorem scDr:Zt nDr Zhu (Zj s_l_drawn):=⟨rfl,rfl,rfl,by decide +kernel,rfl,by decide +kernel,by decide +kernel⟩
theorem Zlm {f:Addr}{fd:FuncData}{k:Nat}(F:Fun K "_law_drawn" "_law_drawn" s_l_drawn f fd)(T:ZW mg)(DT:DTk P w K mg base k)(DCa:Def P w K mg base k "_law_called" Zie spCa)(DPr:Def P w K mg base k "_law_program" Uz (UD K 6))(DDe:Def P w K mg base k "_law_deep" Zgy (spDe K)):FnOk P w K mg base ZR (k+1) f fd Zhu (spDr K):=by
 refine F.ok scDr (fun vs H Q E h=>?_) (fun cdv A outer s H vs Q E hr h=>?_)
 · obtain ⟨p,N,most,Δ,rfl,_⟩:=h;rfl
 obtain ⟨p,N,most,Δ,rfl,S,hm,hN,q⟩:=h
 have hr1:=hr
 refine' ⟨?t,?h,?r⟩
 case h =>
   conv=>arg 2;whnf
   with_reducible refine' (Zf ?h1 (Zf ?h2 (Zf ?h3 (Zf (Yb ?h4 (Zi ?h5) ZG) (Zi ?h6)))))
   case h1=>exact XT (i:=2) (j:=3) rfl scDr.nd rfl rfl (by decide) rfl rfl (Zb (Zq DCa hr (Zb (pv 0) (Zb (Zk Yn Zc (Zq DT hr1 (Zb (pv 0) (Zb Zc Za)))) Za))) (Zb (Zq DCa hr (Zb (pv 0) (Zb (Zk Yn Zc (Zq DT hr1 (Zb (pv 0) (Zb Zc Za)))) Za))) Za)) rfl
   case h2=>exact Zs (i:=3) scDr.nd rfl (Or.inl rfl) (Zk WU (pv 3) (Ye Xs (pv 2) Yq (Yc (Zq DT hr1 (Zb (pv 0) (Zb Zc Za))))))
   case h3=>exact XT (i:=4) (j:=5) rfl scDr.nd rfl rfl (by decide) rfl rfl (Zb (Zq DT hr1 (Zb (pv 0) (Zb Zc Za))) (Zb (ZC ZL (ZN (Zb (pv 1) (Zb (Zq DT hr1 (Zb (pv 0) (Zb (Zk Yn (pv 1) Zc) Za))) Za))) (Zq DT hr1 (Zb (pv 0) (Zb Zc Za))) (fun _ _=>rfl)) Za)) rfl
   case h4=>exact ZF Xb (pv 4) Zc (ZE _)
   case h5=>exact Zp (Zq DDe hr (Zb (pv 0) (Zb (pv 2) (Zb (pv 3) (Zb (pv 5) Za)))))
   case h6=>exact Zp (Zq DPr hr (Zb (pv 0) (Zb (pv 2) (Zb (pv 3) (Zb (pv 5) (Zb (ZC ZL (ZN (Zb Zc (Zb Zc Za))) (Zk YT (pv 4) Zc) (fun _ _=>rfl)) Za))))))
 refine ⟨_,rfl,_,rfl,p,N,6,_,rfl,S,by omega,by decide,by decide,fun r1 H1 a0 a1 S1=>⟨_,_,rfl,rfl,?_⟩⟩
 refine ⟨p,N+1,(1+r1).toNat,_,by rw [show (((1+r1).toNat:Nat):Int)=1+r1 by omega];rfl,S1,by omega,by omega,by omega,fun nl H2 NS S2 n0 n1 n2=>?_⟩
 refine ⟨_,rfl,_,rfl,p,_,4,_,rfl,S2.pull p,by omega,by decide,by decide,fun r2 H3 b0 b1 S3=>⟨_,_,rfl,rfl,?_⟩⟩
 refine ⟨p,_,(1+r2).toNat,_,by rw [show (((1+r2).toNat:Nat):Int)=1+r2 by omega];rfl,S3,by omega,by omega,by omega,fun sl H4 SS S4 s0 s1 s2=>?_⟩
 refine ⟨_,_,rfl,?_⟩
 refine ⟨_,rfl,_,rfl,?_⟩
 dsimp only [We]
 refine ⟨_,rfl,p,_,2,_,rfl,S4.pull p,by omega,by decide,by decide,fun r3 H5 c0 c1 S5=>⟨_,rfl,nl,_,rfl,SqL.of (S5.get nl),fun d1 hd1=>?_⟩⟩
 obtain ⟨zs,ez,mz,lz⟩:=UA NS none (some r3)
 rw [ez]
 have S6:=S5.new hd1 (.lst (zs.map V.str))
 refine ⟨sl,d1,_,_,rfl,rfl,S6.get sl,S6.get d1,ZB (show _≤1000 by rw [List.length_map,List.length_map];omega),fun d2 hd2=>?_⟩
 rw [← List.map_append]
 have S7:=((S6.new hd2 (.lst ((SS++zs).map V.str))).drop d1).drop sl
 generalize upd _ d2 _=H7 at *
 refine ⟨_,rfl,p,_,3,_,rfl,S7.pull p,by omega,by decide,by decide,fun r4 H8 e0 e1 S8=>?_⟩
 refine ⟨_,rfl,_,rfl,_,rfl,_,_,rfl,rfl,p,_,_,_,rfl,S8,by omega,by omega,by omega,fun r5 H9 f0 f1 S9=>⟨(show 2≤sizeLine by decide),fun l5 hl5=>?_⟩⟩
 have S10:=S9.new hl5 (.lst [.int (most:Int),.int r5])
 refine ⟨_,rfl,p,_,2,_,rfl,S10.pull p,by omega,by decide,by decide,fun r6 H10 g0 g1 S11=>?_⟩
 obtain ⟨mm,hmm,hme⟩:=Wx (f:=V.int) (xs:=[(most:Int),r5]) g0 g1
 refine ⟨l5,_,_,_,rfl,rfl,SqL.of (S11.get l5),hme,_,_,rfl,?_⟩
 have hmb:0≤mm∧mm≤(most:Int):=by
   simp only [List.mem_cons,List.not_mem_nil,or_false] at hmm
   rcases hmm with rfl | rfl<;>omega
 have S12:=S11.drop l5
 have R:RO ((d2,Vm ((SS++zs).map V.str))::(nl,Vm (NS.map V.str))::Δ) nl d2 NS (SS++zs):=⟨fun H z=>⟨z.get nl,z.get d2⟩,n0,fun z=>s0 (List.append_eq_nil_iff.mp z).1,by omega,by rw [List.length_append];omega,n2,fun x hx=>by
   rcases List.mem_append.mp hx with h | h
   · exact s2 x h
   · exact n2 x (mz x h)⟩
 refine ⟨_,rfl,rfl,_,rfl,WC (fun c=>?_) (fun c=>?_)⟩
 · exact ⟨_,rfl,_,rfl,_,rfl,_,rfl,p,nl,d2,_,mm.toNat,NS,SS++zs,_,by rw [show ((mm.toNat:Nat):Int)=mm by omega];rfl,S12,R,by omega,by omega,fun t H' ps N' h1 h2 h3 h4 S13=>q t H' ps N' h1 h2 h3 h4 ((S13.drop d2).drop nl)⟩
 · have hr4:¬ r4=0:=fun z=>c (decide_eq_true (by rw [z]))
   refine ⟨_,rfl,_,rfl,_,rfl,_,rfl,(show 2≤sizeLine by decide),fun l6 hl6=>?_⟩
   have S13:=S12.new hl6 (.lst [.int 6,.int 2])
   obtain ⟨bb,hbb,hbe⟩:=Wx (f:=V.int) (xs:=[6,2]) (show 0≤r4 - 1 by omega) (show r4 - 1 < 2 by omega)
   have hb6:0≤bb∧bb≤6:=by
     simp only [List.mem_cons,List.not_mem_nil,or_false] at hbb
     rcases hbb with rfl | rfl<;>omega
   refine ⟨_,rfl,_,_,rfl,rfl,l6,_,_,_,rfl,rfl,SqL.of (S13.get l6),hbe,?_⟩
   exact ⟨p,nl,d2,_,mm.toNat,bb.toNat,NS,SS++zs,_,by rw [show ((mm.toNat:Nat):Int)=mm by omega,show ((bb.toNat:Nat):Int)=bb by omega];rfl,S13.drop l6,R,by omega,by omega,by omega,fun t H' ps h1 h2 h3 S14=>q t H' ps _ (by omega) h2 (by omega) (by omega) ((S14.drop d2).drop nl)⟩
end
end K68
set_option maxHeartbeats 2000000
namespace L2
open PySem PySem.Spec PyProof.Rows
abbrev XA (h:Heap)(z TI TO T:Addr)(f:Bool):Prop :=
 h.get? z=some { cls:=.type "zip",dict:=none,data:=.fields #[rawInt T,.bool f,.bool false,.ref TI,.ref TO],slots:=#[] }
section
variable {prog:Program}{w:World}{A:Around}{E:Value→Shared→Prop}{s:Shared}
theorem Zfx {a:Addr}{o:Obj}{Q:Option Obj→Shared→Prop}(h:s.heap.get? a=some o)(q:Q (some o) s):wpAny (model prog w) A (loadIfAlive a) Q E s:=by
 intro Γ p hΓ
 unfold loadIfAlive
 rw [Sem.wp_loadIfAlive,h]
 exact q
theorem Zbq {z TI TO T:Addr}{f:Bool}{o:Obj}{Q:Bool→Shared→Prop}(hz:XA s.heap z TI TO T f)(hT:s.heap.get? T=some o)
   (h:∀ h',XA h' z TI TO T true→Heap.SameBut z s.heap h'→Q false { s with heap:=h' }):wpAny (model prog w) A (Builtin.SmallTypes.ownedTupleIsFree (.ref z)) Q E s:=by
 unfold Builtin.SmallTypes.ownedTupleIsFree
 refine wpAny_bind (wpAny_field hz rfl (x:=rawInt T) rfl ?_)
 show wpAny _ _ (loadIfAlive ((T:Int)).toNat >>= _) _ _ _
 refine wpAny_bind (Zfx (a:=T) hT ?_)
 show wpAny _ _ (field (.ref z) 1 >>= _) _ _ _
 refine wpAny_bind (wpAny_field hz rfl (x:=.bool f) rfl ?_)
 cases f with
 | true=>exact wpAny_pure (h _ hz (Heap.SameBut.refl ..))
 | false=>exact wpAny_bind (wpAny_setField_rec hz (by simp) fun h1 hz1 hs1=>wpAny_pure (h h1 hz1 hs1))
theorem ZaM {z TI TO i1 i2 l1 l2 T:Addr}{f:Bool}{o:Obj}{k1 k2:Nat}{xs ys:Array Value}{x y:Value}{Q:Value→Shared→Prop}(D:ZipApart z TI TO i1 i2 l1 l2)
   (hz:XA s.heap z TI TO T f) (hT:s.heap.get? T=some o) (hTI:IsPair s.heap TI (.ref i1) (.ref i2))
   (h1:s.heap.IsListIter i1 l1 k1) (h2:s.heap.IsListIter i2 l2 k2) (hl1:s.heap.IsList l1 xs) (hl2:s.heap.IsList l2 ys) (hx:xs[k1]?=some x) (hy:ys[k2]?=some y)
   (hQ:∀ h',XA h' z TI TO T true→h'.IsListIter i1 l1 (k1+1)→h'.IsListIter i2 l2 (k2+1)→IsPair h' s.heap.objs.size x y →
     (∀ c o,c≠z→c≠i1→c≠i2→s.heap.get? c=some o→h'.get? c=some o)→Q (.ref s.heap.objs.size) { s with heap:=h' }) :
   wpAny (model prog w) A (Builtin.«zip.__next__» ⟨[.ref z],[]⟩) (fun fin s'=>∃ v,fin=.done (.ret v)∧Q v s') E s:=by
 show wpAny _ _ (field (.ref z) 2 >>= _) _ _ _
 refine wpAny_bind (wpAny_field hz rfl (x:=.bool false) rfl ?_)
 show wpAny _ _ (field (.ref z) 3 >>= _) _ _ _
 refine wpAny_bind (wpAny_field hz rfl (x:=.ref TI) rfl ?_)
 refine wpAny_bind (wpAny_seqItems hTI rfl ?_)
 show wpAny _ _ (Builtin.SmallTypes.ownedTupleIsFree (.ref z) >>= _) _ _ _
 refine wpAny_bind (Zbq hz hT fun h0 hz0 hs0=>?_)
 simp only [Bool.false_eq_true,if_false,List.forIn_toArray,List.forIn_cons,List.forIn_nil]
 have up1:=h1.extBut hs0.extBut D.i1z
 refine wpAny_bind (wpAny_bind (wpAny_bind (wpAny_holding ?_)))
 show wpAny _ _ (Builtin.SmallTypes.nextOf (.ref i1) >>= _) _ _ _
 refine wpAny_bind (wpAny_nextOf_list_item up1 (hl1.extBut hs0.extBut D.l1z) hx fun h3 h13 hs3=>wpAny_pure ?_)
 refine wpAny_pure ?_
 refine wpAny_bind (wpAny_bind (wpAny_holding ?_))
 show wpAny _ _ (Builtin.SmallTypes.nextOf (.ref i2) >>= _) _ _ _
 refine wpAny_bind (wpAny_nextOf_list_item ((h2.extBut hs0.extBut D.i2z).extBut hs3.extBut D.i12.symm) ((hl2.extBut hs0.extBut D.l2z).extBut hs3.extBut D.l2i1) hy fun h4 h24 hs4=>wpAny_pure ?_)
 refine wpAny_pure (wpAny_pure ?_)
 refine wpAny_bind (wpAny_newTuple (wpAny_pure ⟨_,rfl,?_⟩) (by show 2≤sizeLine;decide))
 have hsz:h4.objs.size=s.heap.objs.size:=by rw [hs4.1,hs3.1,hs0.1]
 show Q (.ref h4.objs.size) _
 have:=hQ (h4.push { cls:=.type "tuple",data:=.seq #[x,y] }) (Heap.get?_push_of_some _ (hs4.extBut _ _ D.i2z.symm (hs3.extBut _ _ D.i1z.symm hz0))) ((h13.extBut hs4.extBut D.i12).at fun o e=>Heap.get?_push_of_some _ e) (h24.at fun o e=>Heap.get?_push_of_some _ e) (by rw [← hsz];exact Heap.get?_push_size _ rfl) (fun c o c1 c2 c3 e=>Heap.get?_push_of_some _ (hs4.extBut _ _ c3 (hs3.extBut _ _ c2 (hs0.extBut _ _ c1 e))))
 rw [hsz]
 exact this
theorem ZbL {z TI TO i1 i2 l1 l2 T:Addr}{f:Bool}{o:Obj}{k1:Nat}{xs:Array Value}{Q:Fin→Shared→Prop}(hh:A.handled=none)(D:ZipApart z TI TO i1 i2 l1 l2)
   (hz:XA s.heap z TI TO T f) (hT:s.heap.get? T=some o) (hTI:IsPair s.heap TI (.ref i1) (.ref i2))
   (h1:s.heap.IsListIter i1 l1 k1) (hl1:s.heap.IsList l1 xs) (hx:xs[k1]?=none)
   (hE:∀ h' e,(∀ c o,c≠z→c≠i1→c≠i2→s.heap.get? c=some o→h'.get? c=some o)→(∃ o,h'.get? e=some o∧o.cls=.type "StopIteration")→E (.ref e) { s with heap:=h' }) :
   wpAny (model prog w) A (Builtin.«zip.__next__» ⟨[.ref z],[]⟩) Q E s:=by
 show wpAny _ _ (field (.ref z) 2 >>= _) _ _ _
 refine wpAny_bind (wpAny_field hz rfl (x:=.bool false) rfl ?_)
 show wpAny _ _ (field (.ref z) 3 >>= _) _ _ _
 refine wpAny_bind (wpAny_field hz rfl (x:=.ref TI) rfl ?_)
 refine wpAny_bind (wpAny_seqItems hTI rfl ?_)
 show wpAny _ _ (Builtin.SmallTypes.ownedTupleIsFree (.ref z) >>= _) _ _ _
 refine wpAny_bind (Zbq hz hT fun h0 hz0 hs0=>?_)
 simp only [Bool.false_eq_true,if_false,List.forIn_toArray,List.forIn_cons,List.forIn_nil]
 refine wpAny_bind (wpAny_bind (wpAny_bind (wpAny_holding ?_)))
 show wpAny _ _ (Builtin.SmallTypes.nextOf (.ref i1) >>= _) _ _ _
 refine wpAny_bind (wpAny_nextOf_list_end hh (h1.extBut hs0.extBut D.i1z) (hl1.extBut hs0.extBut D.l1z) hx fun h3 e hs3 he=>?_)
 exact hE h3 e (fun c o c1 c2 c3 x=>hs3 _ _ c2 (hs0.extBut _ _ c1 x)) he
theorem Zae {z TI TO i1 i2 l1 l2 T:Addr}{f:Bool}{o:Obj}{k1 k2:Nat}{xs ys:Array Value}{x y:Value}{Q:Option Value→Shared→Prop}(D:ZipApart z TI TO i1 i2 l1 l2)
   (hz:XA s.heap z TI TO T f) (hT:s.heap.get? T=some o) (hTI:IsPair s.heap TI (.ref i1) (.ref i2))
   (h1:s.heap.IsListIter i1 l1 k1) (h2:s.heap.IsListIter i2 l2 k2) (hl1:s.heap.IsList l1 xs) (hl2:s.heap.IsList l2 ys) (hx:xs[k1]?=some x) (hy:ys[k2]?=some y)
   (hQ:∀ h',XA h' z TI TO T true→h'.IsListIter i1 l1 (k1+1)→h'.IsListIter i2 l2 (k2+1)→IsPair h' s.heap.objs.size x y →
     (∀ c o,c≠z→c≠i1→c≠i2→s.heap.get? c=some o→h'.get? c=some o)→Q (some (.ref s.heap.objs.size)) { s with heap:=h' }) :
   wpAny (model prog w) A (pyNext (.ref z)) Q E s:=by
 have hTy:s.TypeIs (.ref z) "zip":=⟨_,hz,rfl⟩
 unfold pyNext
 exact wpAny_bind (wpAny_attempt (wpAny_callSpecial?_slot (name:=Str.ofString "__next__") hTy F.slot_zip_next
   (wpAny_call_entry F.slot_zip_next hTy F.entry_zip_next (ZaM D hz hT hTI h1 h2 hl1 hl2 hx hy fun h' a1 a2 a3 a4 a5=>wpAny_pure (hQ h' a1 a2 a3 a4 a5)) (F.args_zip_next_1 _))))
theorem ZaZ {z TI TO i1 i2 l1 l2 T:Addr}{f:Bool}{o:Obj}{k1:Nat}{xs:Array Value}{Q:Option Value→Shared→Prop}(hh:A.handled=none)(D:ZipApart z TI TO i1 i2 l1 l2)
   (hz:XA s.heap z TI TO T f) (hT:s.heap.get? T=some o) (hTI:IsPair s.heap TI (.ref i1) (.ref i2))
   (h1:s.heap.IsListIter i1 l1 k1) (hl1:s.heap.IsList l1 xs) (hx:xs[k1]?=none)
   (hQ:∀ h',(∀ c o,c≠z→c≠i1→c≠i2→s.heap.get? c=some o→h'.get? c=some o)→Q none { s with heap:=h' }):wpAny (model prog w) A (pyNext (.ref z)) Q E s:=by
 have hTy:s.TypeIs (.ref z) "zip":=⟨_,hz,rfl⟩
 unfold pyNext
 refine wpAny_bind (wpAny_attempt (wpAny_callSpecial?_slot (name:=Str.ofString "__next__") hTy F.slot_zip_next
   (wpAny_call_entry F.slot_zip_next hTy F.entry_zip_next (ZbL hh D hz hT hTI h1 hl1 hx fun h' e hk he=>?_) (F.args_zip_next_1 _))))
 obtain ⟨o',ho',hc⟩:=he
 refine wpAny_bind (wpAny_isInstance (T:="StopIteration") (b:=true) ⟨o',ho',hc⟩ isSubtype_stop ?_)
 exact wpAny_pure (hQ _ hk)
end
def ZpSt (z TI TO i1 i2 l1 l2:Addr)(ts:List Addr)(i:Nat)(h:Heap):Prop :=
 IsPair h TI (.ref i1) (.ref i2)∧(∃ a b,IsPair h TO a b)∧h.IsListIter i1 l1 i∧h.IsListIter i2 l2 i∧((ts=[]∧IsZip h z TI TO .none)∨∃ T r f,ts=T::r∧XA h z TI TO T f)
section
variable {X:Cx}{pins:List (Addr×Obj)}{σ:St}{A:Around}
theorem ZgV {z TI TO i1 i2 l1 l2 S:Addr}{xs ys:List V}{R:Result→Shared→Prop}(D:ZipApart z TI TO i1 i2 l1 l2)(hA:A.handled=none)(hlen:ys.length=xs.length) :
   ∀ (k i:Nat) (s:Shared) (H:Hp) (ts:List Addr),xs.length - i=k→i≤xs.length→Inv X pins σ H s→(∀ b∈[z,TI,TO,i1,i2],Yg X pins H b)→ZpSt z TI TO i1 i2 l1 l2 ts i s.heap→H l1=some (.lst xs)→H l2=some (.lst ys)→S≠l1→S≠l2→H S=some (.lst (ts.map V.ref))→ts.length=i→(∀ (j:Nat) (t:Addr) (x y:V),ts[j]?=some t→xs[j]?=some x→ys[j]?=some y→H t=some (.tup [x,y])) →
   (∀ (s':Shared) (H':Hp) (ts':List Addr),Inv X pins σ H' s'→ts'.length=xs.length→(∀ b o,b≠S→H b=some o→H' b=some o)→H' S=some (.lst (ts'.map V.ref))→(∀ (j:Nat) (t:Addr) (x y:V),ts'[j]?=some t→xs[j]?=some x→ys[j]?=some y→H' t=some (.tup [x,y]))→R (.ok (.ret .none)) s') →
   codeAny (model X.prog X.w) A (.builtin "list.extend.loop" ⟨[.ref S,.ref z,.none],[]⟩) R s:=by
 intro k
 induction k with
 | zero =>
   intro i s H ts hk hi I hf st e1 e2 n1 n2 eS htl hts hR
   have hin:i=xs.length:=by omega
   obtain ⟨hTI,⟨a,b,hTO⟩,h1,h2,hzz⟩:=st
   obtain ⟨its1,rv1,p1,hz1⟩:=I.list (SqL.of e1)
   obtain ⟨its2,rv2,p2,hz2⟩:=I.list (SqL.of e2)
   have q1:=rv1.length
   refine codeAny_builtin F.entry_extend_loop ?_
   rw [Around.under_plainId F.plain_extend_loop _]
   show wpAny _ A.in1 (pyNext (.ref z) >>= _) _ _ s
   have end1:its1.toArray[i]?=none:=Array.getElem?_eq_none (by simp;omega)
   have fin:∀ h',(∀ c o,c≠z→c≠TO→c≠i1→c≠i2→s.heap.get? c=some o→h'.get? c=some o)→R (.ok (.ret .none)) { s with heap:=h' }:=fun h' kp =>
     hR _ H ts (I.turned2 (t':=s.toks) (fp:=[z,TI,TO,i1,i2]) (fun b o hb y=>kp b o (fun q=>hb (by simp [q])) (fun q=>hb (by simp [q])) (fun q=>hb (by simp [q])) (fun q=>hb (by simp [q])) y) hf) (by omega) (fun b o _ e=>e) eS hts
   rcases hzz with ⟨_,hz⟩ | ⟨T,r,f,et,hz⟩
   · exact wpAny_bind (wpAny_pyNext_zip_end (show A.in1.handled=none from hA) D hz hTI hTO h1 h2 p1.isList p2.isList (.inl end1) fun h' kp=>wpAny_pure (fin h' kp))
   · have hT:∃ o,s.heap.get? T=some o:=by
       have hl0:0 < xs.length:=by rw [← hin,← htl,et];simp
       have:=hts 0 T xs[0] (ys[0]'(by omega)) (by rw [et];rfl) (by simp [hl0]) (by simp)
       obtain ⟨_,_,_,⟨o,ho,_⟩⟩:=(show ObjOk X.prog X.w H s.heap T (.tup _) from I.hok T _ this)
       exact ⟨o,ho⟩
     obtain ⟨o,ho⟩:=hT
     exact wpAny_bind (ZaZ (show A.in1.handled=none from hA) D hz ho hTI h1 p1.isList end1 fun h' kp=>wpAny_pure (fin h' fun c o c1 c2 c3 c4 e=>kp c o c1 c3 c4 e))
 | succ k ih =>
   intro i s H ts hk hi I hf st e1 e2 n1 n2 eS htl hts hR
   have hlt:i < xs.length:=by omega
   obtain ⟨hTI,⟨a,b,hTO⟩,h1,h2,hzz⟩:=st
   obtain ⟨its1,rv1,p1,hz1⟩:=I.list (SqL.of e1)
   obtain ⟨its2,rv2,p2,hz2⟩:=I.list (SqL.of e2)
   obtain ⟨u1,hu1,ru1⟩:=rv1.get (i:=i) (x:=xs[i]) (by simp [hlt])
   obtain ⟨u2,hu2,ru2⟩:=rv2.get (i:=i) (x:=ys[i]'(by omega)) (by simp)
   refine codeAny_builtin F.entry_extend_loop ?_
   rw [Around.under_plainId F.plain_extend_loop _]
   show wpAny _ A.in1 (pyNext (.ref z) >>= _) _ _ s
   have go : ∀ h' T f,(ts=[]→T=s.heap.objs.size)→(∀ T' r,ts=T'::r→T=T')→XA h' z TI TO T f→(∃ a b,IsPair h' TO a b)→h'.IsListIter i1 l1 (i+1)→h'.IsListIter i2 l2 (i+1)→IsPair h' s.heap.objs.size u1 u2→(∀ c o,c≠z→c≠TO→c≠i1→c≠i2→s.heap.get? c=some o→h'.get? c=some o) →
       wpAny (model X.prog X.w) A.in1 (updateSeq S (·.push (.ref s.heap.objs.size)) >>= fun _=>again (.builtin "list.extend.loop" ⟨[.ref S,.ref z,.none],[]⟩)) (fun fin s'=>match fin with | .done f=>R (.ok f) s' | .again c'=>c'.quiet=true∧codeAny (model X.prog X.w) A c' R s') (fun e s'=>R (.error e) s') { s with heap:=h' }:=by
     intro h' T f t0 t1 gz gTO g1 g2 g5 g7
     have hzl:∀ b∈[z,TI,TO,i1,i2],b < s.heap.objs.size:=fun b hb=>by
       simp only [List.mem_cons,List.not_mem_nil,or_false] at hb
       rcases hb with q | q | q | q | q
       · rw [q];rcases hzz with ⟨_,hz⟩ | ⟨_,_,_,_,hz⟩<;>exact Heap.lt_size hz
       · rw [q];exact Heap.lt_size hTI
       · rw [q];exact Heap.lt_size hTO
       · rw [q];obtain ⟨o,ho,_⟩:=h1;exact Heap.lt_size ho
       · rw [q];obtain ⟨o,ho,_⟩:=h2;exact Heap.lt_size ho
     have hfree:=I.hok.fresh (Nat.le_refl s.heap.objs.size)
     have g5':h'.get? s.heap.objs.size=some ({ cls:=.type "tuple",data:=.seq #[u1,u2] }:Obj):=g5
     generalize hO:({ cls:=.type "tuple",data:=.seq #[u1,u2] }:Obj)=O at g5'
     have I1:Inv X pins σ (upd H s.heap.objs.size (.tup [xs[i],ys[i]'(by omega)])) { s with heap:=s.heap.push O,toks:=s.toks }:=by
       refine I.laid (t':=s.toks) (fun b o y=>Heap.get?_push_of_some _ y) (Nat.le_refl _) (show ObjOk X.prog X.w _ _ _ (.tup _) from ⟨by show 2≤sizeLine;decide,[u1,u2],.cons ru1 (.cons ru2 .nil),?_⟩)
       rw [← hO];exact IsTup.new _ _
     have hf2:∀ b∈[z,TI,TO,i1,i2],Yg X pins (upd H s.heap.objs.size (.tup [xs[i],ys[i]'(by omega)])) b:=fun b hb=>by
       obtain ⟨f0,f1⟩:=hf b hb
       exact ⟨by rw [Zo (Nat.ne_of_lt (hzl b hb))];exact f0,f1⟩
     have I2:Inv X pins σ (upd H s.heap.objs.size (.tup [xs[i],ys[i]'(by omega)])) { s with heap:=h',toks:=s.toks }:=by
       refine I1.turned2 (t':=s.toks) (h':=h') (fun b o hb y=>?_) hf2
       have m1:b≠z:=fun q=>hb (by simp [q])
       have m2:b≠TO:=fun q=>hb (by simp [q])
       have m3:b≠i1:=fun q=>hb (by simp [q])
       have m4:b≠i2:=fun q=>hb (by simp [q])
       rcases Heap.get?_push_cases y with ⟨q1,q2⟩ | y
       · rw [q1,q2];exact g5'
       · exact g7 b o m1 m2 m3 m4 y
     have sm:=Zh hfree (.tup [xs[i],ys[i]'(by omega)])
     have et:upd H s.heap.objs.size (.tup [xs[i],ys[i]'(by omega)]) s.heap.objs.size=_:=Zd
     generalize hH1:upd H s.heap.objs.size (.tup [xs[i],ys[i]'(by omega)])=H1 at I2 hf2 sm et
     have eS1:=sm _ _ eS
     obtain ⟨zS,itsS,nS,rvS,hlS,eoS⟩:=I2.lstM eS1
     have hSn:s.heap.objs.size≠S:=fun q=>by rw [← q,hfree] at eS;cases eS
     have hl9:ts.length=i:=htl
     have hlt9:(ts.map V.ref).length < sizeLine:=by
       rw [List.length_map,hl9]
       have:=rv1.length
       omega
     refine wpAny_bind (wpAny_updateSeq eoS rfl (wpAny_pure ⟨plainId_quiet F.plain_extend_loop _,?_⟩) (by rw [List.size_toArray];rw [← hlS];omega) (by show (itsS.toArray.push _).size≤_;rw [Array.size_push,List.size_toArray,← hlS];omega))
     have I3:=I2.lset (t':=s.toks) (f:=(·.push (.ref s.heap.objs.size))) (its':=itsS++[.ref s.heap.objs.size]) (ys:=ts.map V.ref++[.ref s.heap.objs.size]) eS1 eoS (by simp) (rvS.append (.cons (show RelV (V.ref s.heap.objs.size) (.ref s.heap.objs.size) from rfl) .nil)) (by rw [List.length_append,List.length_singleton];omega)
     have hSt:s.heap.objs.size≠S:=hSn
     have ne5:∀ b∈[z,TI,TO,i1,i2],b≠S:=fun b hb q=>by have:=(hf2 b hb).1;rw [q,eS1] at this;cases this
     have oth:∀ c o,c≠S→h'.get? c=some o→(h'.update S (Obj.mapSeq (·.push (.ref s.heap.objs.size)))).get? c=some o:=fun c o hc e=>(Heap.get?_update_other _ _ (Ne.symm hc)).trans e
     have htT:T≠S:=by
       cases hts0:ts with
       | nil=>rw [t0 hts0];exact hSn
       | cons T' r =>
         rw [t1 T' r hts0]
         have hl0:0 < xs.length:=by omega
         have:=hts 0 T' xs[0] (ys[0]'(by omega)) (by rw [hts0];rfl) (by simp [hl0]) (by simp)
         intro q;rw [q,eS] at this;cases this
     refine ih (i+1) _ (upd H1 S (.lst (ts.map V.ref++[.ref s.heap.objs.size]))) (ts++[s.heap.objs.size]) (by omega) hlt I3 (fun b hb=>⟨by rw [Zo (ne5 b hb)];exact (hf2 b hb).1,(hf2 b hb).2⟩) ⟨oth _ _ (ne5 TI (by simp)) (g7 TI _ D.TIz D.TITO D.TIi1 D.TIi2 hTI),?_,g1.at fun o e=>oth _ o (ne5 i1 (by simp)) e,g2.at fun o e=>oth _ o (ne5 i2 (by simp)) e,?_⟩ (by rw [Zo n1.symm];exact sm _ _ e1) (by rw [Zo n2.symm];exact sm _ _ e2) n1 n2 (by rw [Zd,List.map_append];rfl) (by simp [htl]) (fun j t x y q1 q2 q3=>?_) fun s' H' ts' I' q1 q2 q3 q4=>hR s' H' ts' I' q1 (fun b o hb e=>q2 b o hb (by rw [Zo hb];exact sm _ _ e)) q3 q4
     · obtain ⟨a',b',g⟩:=gTO;exact ⟨a',b',oth _ _ (ne5 TO (by simp)) g⟩
     · right
       cases hts0:ts with
       | nil=>exact ⟨T,[],f,by rw [t0 hts0];rfl,oth _ _ (ne5 z (by simp)) gz⟩
       | cons T' r=>exact ⟨T,r++[s.heap.objs.size],f,by rw [t1 T' r hts0];rfl,oth _ _ (ne5 z (by simp)) gz⟩
     · have htS:t≠S:=by
         rintro rfl
         rw [List.getElem?_append] at q1
         split at q1
         · have:=hts j _ x y q1 q2 q3;rw [eS] at this;cases this
         · rename_i hj
           have:j - ts.length=0:=by
             have:=(List.getElem?_eq_some_iff.mp q1).1
             simp at this;omega
           rw [this] at q1;cases q1;exact hSn rfl
       rw [Zo htS]
       rw [List.getElem?_append] at q1
       split at q1
       · exact sm _ _ (hts j t x y q1 q2 q3)
       · rename_i hj
         have hj2:j - ts.length=0:=by
           have:=(List.getElem?_eq_some_iff.mp q1).1
           simp at this;omega
         rw [hj2] at q1
         cases q1
         have hji:j=i:=by omega
         subst hji
         rw [et]
         have w1:=(List.getElem?_eq_some_iff.mp q2).2
         have w2:=(List.getElem?_eq_some_iff.mp q3).2
         rw [w1,w2]
   rcases hzz with ⟨et,hz⟩ | ⟨T,r,f,et,hz⟩
   · exact wpAny_bind (wpAny_pyNext_zip_item D hz hTI hTO h1 h2 p1.isList p2.isList (by simpa using hu1) (by simpa using hu2) fun h' g1 g2 g3 g4 g5 g6 g7=>go h' _ false (fun _=>rfl) (fun T' r z=>by rw [et] at z;cases z) g1 ⟨_,_,g2⟩ g3 g4 g5 g7)
   · have hT:∃ o,s.heap.get? T=some o:=by
       have hl0:0 < xs.length:=by omega
       have:=hts 0 T xs[0] (ys[0]'(by omega)) (by rw [et];rfl) (by simp [hl0]) (by simp)
       obtain ⟨_,_,_,⟨o,ho,_⟩⟩:=(show ObjOk X.prog X.w H s.heap T (.tup _) from I.hok T _ this)
       exact ⟨o,ho⟩
     obtain ⟨o,ho⟩:=hT
     refine wpAny_bind (Zae D hz ho hTI h1 h2 p1.isList p2.isList (by simpa using hu1) (by simpa using hu2) fun h' g1 g3 g4 g5 g7=>?_)
     exact go h' T true (fun z=>by rw [et] at z;cases z) (fun T' r z=>by rw [et] at z;cases z;rfl) g1 ⟨a,b,g7 TO _ D.TOz D.TOi1 D.TOi2 hTO⟩ g3 g4 g5 fun c o c1 c2 c3 c4 e=>g7 c o c1 c3 c4 e
end
theorem Zeo:typeLookup (.type "zip") "__len__"=pure none:=by rw [typeLookup_type,builtinLookup_eq_fast];kernel_rfl
theorem Zde:typeLookup (.type "zip") "__length_hint__"=pure none:=by rw [typeLookup_type,builtinLookup_eq_fast];kernel_rfl
def PrL (H:Hp)(ts:List Addr)(xs ys:List V):Prop:=∀(j:Nat)(t:Addr)(x y:V),ts[j]?=some t→xs[j]?=some x→ys[j]?=some y→H t=some (.tup [x,y])
def ZeS (ta tb:TE):TE:=fun σ H Q=>ta σ H fun v H1=>tb σ H1 fun u H2=>∃ a b xs ys,[v,u]=[V.ref a,V.ref b]∧H2 a=some (.lst xs)∧H2 b=some (.lst ys)∧ys.length=xs.length ∧
 ∀ (l:Addr) (ts:List Addr) (H3:Hp),Same H2 H3→H2 l=none→ts.length=xs.length→H3 l=some (.lst (ts.map V.ref))→PrL H3 ts xs ys→Q (.ref l) H3
section
variable {X:Cx}
theorem Zdw {l m:Expr}{ta tb:TE}{pz pl pzc pos:Pos}(hc:X.calm=true)(hgl:Gl X "list")(hml:X.mg "list"=none)(hg:Gl X "zip")(hm:X.mg "zip"=none)(hl:PE X l ta)(hr:PE X m tb)
   (he:starEach [l,m] X.env=(false,eval l X.env)::starEach [m] X.env:=by rfl) (he2:starEach [m] X.env=[(false,eval m X.env)]:=by rfl) (hpl:(backTo pzc (starEach [m] X.env)).any (·.1)=false:=by rfl)
   (he3:starEach [.Call (.Name "zip" pz) [l,m] [] pzc] X.env=(false,eval (.Call (.Name "zip" pz) [l,m] [] pzc) X.env)::starEach [] X.env:=by rfl):PE X (.Call (.Name "list" pl) [.Call (.Name "zip" pz) [l,m] [] pzc] [] pos) (ZeS ta tb):=by
 intro pins s σ H Q I h
 have ha:PA X [l,m] (Yf ta (Yf tb YF)):=ZX hl (ZX hr Za he2) he
 refine wpAny_Call_Name_kw (Xy I hgl hml (show bootBuiltins "list"=some (.type "list") by decide +kernel) ?_)
 refine PyProof.Rows.callWith_type1 ?_ he3 rfl
 rw [he3]
 show wpAny _ _ (spliced ((false,eval (.Call (.Name "zip" pz) [l,m] [] pzc) X.env)::backTo pos (starEach [] X.env))) _ _ s
 refine Calls.spliced_cons ?_
 refine wpAny_Call_Name_kw (Xy I hg hm Uv ?_)
 refine PyProof.Rows.callWith_type1 (Zm (ha pzc pins s σ H (fun vs H2=>∃ a b xs ys,vs=[V.ref a,V.ref b]∧H2 a=some (.lst xs)∧H2 b=some (.lst ys)∧ys.length=xs.length∧∀ (l:Addr) (ts:List Addr) (H3:Hp),Same H2 H3→H2 l=none→ts.length=xs.length→H3 l=some (.lst (ts.map V.ref))→PrL H3 ts xs ys→Q (.ref l) H3) I h) fun us s1 ⟨vs,H1,I1,r1,a,b,xs,ys,e,ea,eb,hlen,q⟩=>?_) he hpl
 subst e
 obtain ⟨u1,u2,rfl,r2,r3⟩:∃ u1 u2,us=[u1,u2]∧RelV (V.ref a) u1∧RelV (V.ref b) u2:=by
   cases r1 with
   | cons p t=>cases t with
     | cons p2 t2=>cases t2;exact ⟨_,_,rfl,p,p2⟩
 cases r2
 cases r3
 obtain ⟨z1,its1,n1,rv1,hl1,eo1⟩:=I1.lstM ea
 obtain ⟨z2,its2,n2,rv2,hl2,eo2⟩:=I1.lstM eb
 have ha1:a < s1.heap.objs.size:=Heap.lt_size eo1
 have hb1:b < s1.heap.objs.size:=Heap.lt_size eo2
 refine call_zip_2 ⟨_,eo1,rfl,n1,rfl⟩ ⟨_,eo2,rfl,n2,rfl⟩ fun h' g1 g2 g3 g4 g5 g6 g7=>Calls.spliced_nil ?_
 have I2:Inv X pins σ H1 { s1 with heap:=h' }:=I1.kept (t':=s1.toks) g7
 have ap:ZipApart (s1.heap.objs.size+4) (s1.heap.objs.size+2) (s1.heap.objs.size+3) s1.heap.objs.size (s1.heap.objs.size+1) a b:=by
   constructor<;>first
     | exact Nat.ne_of_lt (by first | (apply Nat.lt_of_lt_of_le (by assumption);omega) | (simp only [Nat.add_lt_add_iff_left];decide) | (show _ < _+_;exact Nat.lt_add_of_pos_right (by decide)))
     | exact Nat.ne_of_gt (by first | (simp only [Nat.add_lt_add_iff_left];decide) | exact Nat.lt_add_of_pos_right (by decide))
 generalize hzz:s1.heap.objs.size+4=z at g1 ap ⊢
 generalize hTI:s1.heap.objs.size+2=TI at g1 g2 ap
 generalize hTO:s1.heap.objs.size+3=TO at g1 g3 ap
 generalize hi2:s1.heap.objs.size+1=i2 at g2 g5 ap
 have up:∀ k,Yg X pins H1 (s1.heap.objs.size+k):=fun k=>I1.fpOk (Nat.le_add_right _ k) (I1.hok.fresh (Nat.le_add_right _ k))
 have hfp:∀ c∈[z,TI,TO,s1.heap.objs.size,i2],Yg X pins H1 c:=fun c hc=>by
   simp only [List.mem_cons,List.not_mem_nil,or_false] at hc
   rcases hc with w | w | w | w | w
   · rw [w,← hzz];exact up 4
   · rw [w,← hTI];exact up 2
   · rw [w,← hTO];exact up 3
   · rw [w];exact up 0
   · rw [w,← hi2];exact up 1
 have hlt5:∀ c∈[z,TI,TO,s1.heap.objs.size,i2],c < h'.objs.size:=fun c hc=>by
   simp only [List.mem_cons,List.not_mem_nil,or_false] at hc
   rcases hc with w | w | w | w | w
   · rw [w];exact Heap.lt_size g1
   · rw [w];exact Heap.lt_size g2
   · rw [w];exact Heap.lt_size g3
   · rw [w];obtain ⟨o,ho,_⟩:=g4;exact Heap.lt_size ho
   · rw [w];obtain ⟨o,ho,_⟩:=g5;exact Heap.lt_size ho
 refine callType_codes (Q₁:=fun obj s₁=>obj=.ref h'.objs.size∧s₁={ s1 with heap:=h'.push { cls:=.type "list",data:=.seq #[] } }) F.called_list (F.typeCall_list_1 _) F.entry_list_init (code_list_new _ ⟨rfl,rfl⟩) fun obj s₁ h₁=>?_
 obtain ⟨rfl,rfl⟩:=h₁
 have hS:(h'.push { cls:=.type "list",data:=.seq #[] }).get? h'.objs.size=some { cls:=.type "list",data:=.seq #[] }:=Heap.get?_push_size _ rfl
 refine ⟨⟨_,hS,rfl⟩,F.args_list_init_2 _ _,?_⟩
 have kp0:∀ c o,h'.get? c=some o→(h'.push { cls:=.type "list",data:=.seq #[] }).get? c=some o:=fun c o e=>Heap.get?_push_of_some _ e
 generalize h'.push { cls:=.type "list",data:=.seq #[] }=h2 at hS kp0 ⊢
 have hSn:∀ c o,h'.get? c=some o→c≠h'.objs.size:=fun c o e=>Nat.ne_of_lt (Heap.lt_size e)
 show wpAny _ _ (Builtin.List.listItems (.ref h'.objs.size) >>= _) _ _ _
 refine wpAny_bind ?_
 unfold Builtin.List.listItems
 refine wpAny_bind (wpAny_seqItems hS rfl (wpAny_pure ?_))
 show wpAny _ _ (updateSeq h'.objs.size (fun _=>#[]) >>= _) _ _ _
 refine wpAny_bind (wpAny_updateSeq hS rfl ?_)
 have hS2:=Heap.get?_update_self (Obj.mapSeq (fun _=>(#[]:Array Value))) hS rfl
 have kp2:∀ c o,h'.get? c=some o→(h2.update h'.objs.size (Obj.mapSeq (fun _=>(#[]:Array Value)))).get? c=some o:=fun c o e=>(Heap.get?_update_other _ _ (Ne.symm (hSn c o e))).trans (kp0 c o e)
 generalize h2.update h'.objs.size (Obj.mapSeq (fun _=>(#[]:Array Value)))=h3 at hS2 kp2 ⊢
 refine wpAny_bind (wpAny_letGo ?_)
 unfold Builtin.List.listExtendWith
 have hTy:Shared.TypeIs { s1 with heap:=h3 } (.ref z) "zip":=⟨_,kp2 z _ g1,rfl⟩
 refine wpAny_bind (wpAny_typeOf hTy ?_)
 have d1:Builtin.List.listSameRef (.ref h'.objs.size) (.ref z)=false:=by
   have:h'.objs.size≠z:=Nat.ne_of_gt (hlt5 z (by simp))
   simp [Builtin.List.listSameRef,this]
 have d2:(Value.type "zip" == Value.type "list")=false:=by decide
 have d3:(Value.type "zip" == Value.type "tuple")=false:=by decide
 simp only [d1,d2,d3,Bool.or_false,Bool.false_eq_true,if_false]
 refine wpAny_bind (wpAny_pyIter_zip (kp2 z _ g1) ?_)
 refine wpAny_bind (wpAny_holding ?_)
 unfold Builtin.List.listLengthHint
 refine wpAny_bind (wpAny_specialOf hTy Zeo ?_)
 show wpAny _ _ (specialOf (Value.ref z) (Str.ofString "__length_hint__") >>= _) _ _ _
 refine wpAny_bind (wpAny_specialOf hTy Zde (wpAny_pure ?_))
 show wpAny _ _ (rule "list.extend.makes-room" >>= fun _=>Builtin.List.listTouch (.ref h'.objs.size) >>= fun _=>again (.builtin "list.extend.loop" ⟨[.ref h'.objs.size,.ref z,.none],[]⟩)) _ _ _
 refine wpAny_bind (wpAny_rule (wpAny_bind ?_))
 show wpAny _ _ (updateSeq h'.objs.size (·.push .none) >>= fun _=>updateSeq h'.objs.size (·.pop)) _ _ _
 refine wpAny_bind (wpAny_updateSeq hS2 rfl ?_)
 have hS4:=Heap.get?_update_self (Obj.mapSeq (·.push Value.none)) hS2 rfl
 have kp4:∀ c o,h'.get? c=some o→(h3.update h'.objs.size (Obj.mapSeq (·.push Value.none))).get? c=some o:=fun c o e=>(Heap.get?_update_other _ _ (Ne.symm (hSn c o e))).trans (kp2 c o e)
 refine wpAny_updateSeq (hz:=by show 1≤sizeLine;decide) (_hz':=by show 0≤sizeLine+1;omega) hS4 rfl ?_
 have hS5:=Heap.get?_update_self (Obj.mapSeq (·.pop)) hS4 rfl
 have kp5:∀ c o,h'.get? c=some o→((h3.update h'.objs.size (Obj.mapSeq (·.push Value.none))).update h'.objs.size (Obj.mapSeq (·.pop))).get? c=some o:=fun c o e=>(Heap.get?_update_other _ _ (Ne.symm (hSn c o e))).trans (kp4 c o e)
 generalize (h3.update h'.objs.size (Obj.mapSeq (·.push Value.none))).update h'.objs.size (Obj.mapSeq (·.pop))=h6 at hS5 kp5 ⊢
 have I3:Inv X pins σ (upd H1 h'.objs.size (.lst [])) { s1 with heap:=h6,toks:=s1.toks } :=
   I2.laid (t':=s1.toks) kp5 (Nat.le_refl _) (show ObjOk X.prog X.w _ _ _ (.lst []) from ⟨Nat.zero_le _,[],_,.nil,hS5⟩)
 have hSf:H1 h'.objs.size=none:=I2.fresh
 have sm:=Zh hSf (.lst [])
 have hSa:h'.objs.size≠a:=fun w=>by rw [w,ea] at hSf;cases hSf
 have hSb:h'.objs.size≠b:=fun w=>by rw [w,eb] at hSf;cases hSf
 refine wpAny_pure ⟨plainId_quiet F.plain_extend_loop _,ZgV (X:=X) (pins:=pins) (σ:=σ) (xs:=xs) (ys:=ys) ap (show X.A.in1.handled=none from I.ok.hd hc) hlen xs.length 0 _ (upd H1 h'.objs.size (.lst [])) [] (by omega) (Nat.zero_le _) I3 (fun c hc=>⟨by rw [Zo (Nat.ne_of_lt (hlt5 c hc))];exact (hfp c hc).1,(hfp c hc).2⟩) ⟨kp5 _ _ g2,⟨_,_,kp5 _ _ g3⟩,g4.at fun o e=>kp5 _ o e,g5.at fun o e=>kp5 _ o e,.inl ⟨rfl,kp5 _ _ g1⟩⟩ (sm _ _ ea) (sm _ _ eb) hSa hSb Zd rfl (fun j t x y w=>by simp at w) fun s' H' ts' I' w1 w2 w3 w4=>⟨rfl,.ref h'.objs.size,H',I',rfl,q _ ts' H' (fun c o e=>w2 c o (fun w=>by rw [w,hSf] at e;cases e) (sm _ _ e)) hSf w1 w3 w4⟩⟩
end
end L2
set_option maxHeartbeats 4000000
namespace K68
open PySem L2
mutual
def wd:PyData→Bool
 | .tuple ds=>decide (ds.length≤20000)&&VE ds
 | .list ds=>decide (ds.length≤20000)&&VE ds
 | .none=>true
 | .bool _=>true
 | .int _=>true
 | .str _=>true
 | .dict _=>true
def VE:List PyData→Bool
 | []=>true
 | d::ds=>wd d&&VE ds
end
mutual
theorem toA {K:PySem.W.Frag}{H:Hp}:∀{v:V}{d:PyData},DatT K H v d→wd d=true→DatA K H v d
 | _,_,.non,_=>.non
 | _,_,.int i,_=>.int i
 | _,_,.str x,_=>.str x
 | _,_,.tup e q,w=>by
   rw [wd,Bool.and_eq_true,decide_eq_true_eq] at w
   exact .tup e (by rw [q.len];exact w.1) (toAs q w.2)
theorem toAs {K:PySem.W.Frag}{H:Hp}:∀{vs:List V}{ds:List PyData},DatTs K H vs ds→VE ds=true→DatAs K H vs ds
 | _,_,.nil,_=>.nil
 | _,_,.cons a b,w=>by
   rw [VE,Bool.and_eq_true] at w
   exact .cons (toA a w.1) (toAs b w.2)
end
mutual
theorem Zlh:∀{p:Pg},p.ok→p.many≤20000→wd p.dat=true∧nb p.dat=true
 | .set x v s,h,_=>by
   have:wd (UJ v)=true∧nb (UJ v)=true:=by
     have hv:=h.2.1
     cases v<;>first | exact ⟨rfl,rfl⟩ | exact hv.elim
   refine ⟨?_,?_⟩
   · show (decide (4≤20000)&&(true&&(true&&(wd (UJ v)&&(true&&true)))))=true
     rw [this.1];rfl
   · show (true&&(true&&(nb (UJ v)&&(true&&true))))=true
     rw [this.2];rfl
 | .look x,_,_=>⟨rfl,rfl⟩
 | .slot w s,_,_=>⟨rfl,rfl⟩
 | .pass,_,_=>⟨rfl,rfl⟩
 | .blk w ps,h,hm=>by
   have e:(Pg.blk w ps).many=1+Pg.manys ps:=Pg.many_eq _
   obtain ⟨h1,h2⟩:=Zat h.2 (by omega)
   have h3:=Pg.len_manys ps
   have h4:(Pg.dats ps).length≤20000:=by rw [Pg.dats_map,List.length_map];omega
   refine ⟨?_,?_⟩
   · show (decide (2≤20000)&&(true&&((decide ((Pg.dats ps).length≤20000)&&VE (Pg.dats ps))&&true)))=true
     rw [decide_eq_true h4,h1];rfl
   · show (true&&(US (Pg.dats ps)&&true))=true
     rw [h2];rfl
 | .inn s ps,h,hm=>by
   have e:(Pg.inn s ps).many=1+Pg.manys ps:=Pg.many_eq _
   obtain ⟨h1,h2⟩:=Zat h.2 (by omega)
   have h3:=Pg.len_manys ps
   have h4:(Pg.dats ps).length≤20000:=by rw [Pg.dats_map,List.length_map];omega
   refine ⟨?_,?_⟩
   · show (decide (3≤20000)&&(true&&(true&&((decide ((Pg.dats ps).length≤20000)&&VE (Pg.dats ps))&&true))))=true
     rw [decide_eq_true h4,h1];rfl
   · show (true&&(true&&(US (Pg.dats ps)&&true)))=true
     rw [h2];rfl
theorem Zat:∀{ps:List Pg},Pg.oks ps→Pg.manys ps≤20000→VE (Pg.dats ps)=true∧US (Pg.dats ps)=true
 | [],_,_=>⟨rfl,rfl⟩
 | p :: ps,h,hm=>by
   have e:Pg.manys (p::ps)=p.many+Pg.manys ps:=rfl
   obtain ⟨h1,h2⟩:=Zlh h.1 (by omega)
   obtain ⟨h3,h4⟩:=Zat h.2 (by omega)
   refine ⟨?_,?_⟩
   · show (wd p.dat&&VE (Pg.dats ps))=true
     rw [h1,h3];rfl
   · show (nb p.dat&&US (Pg.dats ps))=true
     rw [h2,h4];rfl
end
theorem Va {K:PySem.W.Frag}{H:Hp}{v:V}{ps:List Pg}(h:DatT K H v (.tuple (Pg.dats ps)))(ho:Pg.oks ps)(hm:Pg.manys ps≤20000):DatA K H v (.tuple (Pg.dats ps))∧nb (.tuple (Pg.dats ps))=true:=by
 obtain ⟨h1,h2⟩:=Zat ho hm
 have h3:=Pg.len_manys ps
 refine ⟨toA h ?_,h2⟩
 show (decide ((Pg.dats ps).length≤20000)&&VE (Pg.dats ps))=true
 rw [decide_eq_true (by rw [Pg.dats_map,List.length_map];omega),h1];rfl
def PgV (K:PySem.W.Frag)(h:Hp)(vs:List V)(pss:List (List Pg)):Prop:=vs.length=pss.length∧∀(i:Nat)(v:V)(ps:List Pg),vs[i]?=some v→pss[i]?=some ps→DatT K h v (.tuple (Pg.dats ps))
def Zcf (K:PySem.W.Frag)(pss:List (List Pg)):Xf:=fun a h=>∃ vs,h a=some (.lst vs)∧PgV K h vs pss
instance {K:PySem.W.Frag} {pss:List (List Pg)}:Up (Zcf K pss):=⟨fun ⟨vs,e,l,h⟩ s=>⟨vs,s _ _ e,l,fun i v ps e1 e2=>(h i v ps e1 e2).same s⟩⟩
theorem ZkA {K:PySem.W.Frag}{Δ Δ':Rs}{H:Hp}{pss:List (List Pg)}{ps:List Pg}{v:V}{vs:List V}(S:Sep Δ H)(l:Addr)[P:Pull l Δ (Zcf K pss) Δ'](e:H l=some (.lst vs))(d:DatT K H v (.tuple (Pg.dats ps))):Sep ((l,Zcf K (pss++[ps]))::Δ') (upd H l (.lst (vs++[v]))):=by
 refine S.updR l _ (fun h ⟨as,e,_⟩=>⟨_,e,rfl⟩) fun h r l' h' e1 e2 e3=>?_
 obtain ⟨vs',e4,hl,hs⟩:=r
 have e5:=l' _ _ e4
 rw [e] at e5
 cases e5
 have tf:TF h h':=⟨fun b xs q=>e2 b _ (fun z=>by rw [z,e4] at q;cases q) q,fun b o u q=>e2 b _ (fun z=>by rw [z,e4] at q;cases q) q⟩
 have tf2:TF H h':=⟨fun b xs q=>e3 b _ (fun z=>by rw [z,e] at q;cases q) q rfl,fun b o u q=>e3 b _ (fun z=>by rw [z,e] at q;cases q) q rfl⟩
 refine ⟨vs++[v],e1,by rw [List.length_append,List.length_append,hl];rfl,fun i w qs q1 q2=>?_⟩
 by_cases hi:i < vs.length
 · rw [List.getElem?_append_left hi] at q1
   rw [List.getElem?_append_left (by omega)] at q2
   exact (hs i w qs q1 q2).tf tf
 · rw [List.getElem?_append_right (by omega)] at q1 q2
   rw [← hl] at q2
   have h0:i - vs.length=0:=by have:=(List.getElem?_eq_some_iff.mp q1).1;simp at this;omega
   rw [h0] at q1 q2
   cases q1;cases q2
   exact d.tf tf2
section
variable {P:Program}{w:World}{K:PySem.W.Frag}{mg:Str→Option Value}{base:Heap}
theorem ZlC {K:PySem.W.Frag}{H H':Hp}{a:Addr}{xs:List V}(h:SqL K H a xs)(s:Same H H'):SqL K H' a xs:=by
 rcases h with (h | ⟨o,h⟩) | h
 · exact .inl (.inl (s _ _ h))
 · exact .inl (.inr ⟨o,s _ _ h⟩)
 · exact .inr h
def ZbS (K:PySem.W.Frag):Sp:=fun vs H Q _=>∃(a:Addr)(ns:List Int),vs=[.ref a]∧SqL K H a (ns.map V.int)∧ns.length≤63∧∀ H',Q (.bl true) H'
def ScQ (K:PySem.W.Frag)(ns:List Int):Xf:=fun a h=>SqL K h a (ns.map V.int)
instance {K:PySem.W.Frag} {ns:List Int}:Up (ScQ K ns):=⟨fun h s=>ZlC h s⟩
abbrev nLw:List Str:=["_law_script","_law_texts","_law_programs","_law_k","_law_box_here","_law_rows_here","_law_some","_law_text","_law_program_here"]
abbrev pnLw:List Str:=["_law_script"]
theorem scLw:Zt nLw pnLw (Zj s_law):=⟨rfl,rfl,rfl,by decide +kernel,rfl,by decide +kernel,by decide +kernel⟩
theorem Zir {H:Hp}{ts:List Addr}{xs ys:List V}{v:V}(h:PrL H ts xs ys)(hl:ts.length=xs.length)(hy:ys.length=xs.length)(hv:v∈ts.map V.ref):∃(t:Addr)(j:Nat)(x y:V),v=.ref t∧xs[j]?=some x∧ys[j]?=some y∧H t=some (.tup [x,y]):=by
 obtain ⟨t,ht,rfl⟩:=List.mem_map.mp hv
 obtain ⟨j,hj⟩:=List.mem_iff_getElem?.mp ht
 have h1:=(List.getElem?_eq_some_iff.mp hj).1
 have h2:xs[j]?=some (xs[j]'(by omega)):=List.getElem?_eq_getElem _
 have h3:ys[j]?=some (ys[j]'(by omega)):=List.getElem?_eq_getElem _
 exact ⟨t,j,_,_,rfl,h2,h3,h j t _ _ hj h2 h3⟩
theorem law2 {a tx pl:Addr}{x3 x4 x5 x6 x7 x8:Option V}{Q:VK}{H0:Hp}{pss:List (List Pg)}{vs:List V}(q:∀ H',Q (.bl true) H')(hpo:∀ ps∈pss,Pg.oks ps∧Pg.hgts ps≤6∧Pg.manys ps≤300)(hl3:pss.length≤3)(etx:H0 tx=some (.lst ((pss.map YX).map V.str)))(epl:H0 pl=some (.lst vs))(hvl:vs.length=pss.length)(hvd:∀(i:Nat)(v:V)(ps:List Pg),vs[i]?=some v→pss[i]?=some ps→DatT K H0 v (.tuple (Pg.dats ps))) :
   Zeu (tFor (Ziv K (tOp rCat (ZeS (Xr 1) (Xr 2)) (ZeS (Zex K (Xr 1)) (Zex K (Xr 2))))) (ZgS K 2 (Zal (UK 7) (Zal (UK 8) ZgH)))
     (Zes (tOr (ZhH (tB (Wo (WS K 16) [] E0 (Yf (Wo (Zcw K) [] E0 (Yf (Xr 7) YF)) (Yf (Xr 8) YF))))) (ZeW (tOp rNe (Wo (ZhP K 10) [] E0 (Yf (Wo (Zcw K) [] E0 (Yf (Xr 7) YF)) YF)) (Xr 7)))) (Zeq (tC (V.bl false))) ZbT))
     (Zeq (Wo (WS K 16) [] E0 (Yf (Wo (Zcw K) [] E0 (Yf (tC (V.str (Str.ofString ""))) YF)) (Yf (tTup YF) YF))))
     { nx:=fun x H'=>Q V.non H',rt:=Q } [some (.ref a),some (.ref tx),some (.ref pl),x3,x4,x5,x6,x7,x8] H0:=by
 have hxl:((pss.map YX).map V.str).length=pss.length:=by rw [List.length_map,List.length_map]
 refine ⟨_,rfl,_,rfl,tx,pl,_,vs,rfl,etx,epl,by rw [hxl];exact hvl,fun l1 ts1 H1 s1 hl1 ht1 el1 pr1=>?_⟩
 refine ⟨_,rfl,tx,_,rfl,SqL.of (s1 _ _ etx),fun r1 hr1=>?_⟩
 have s2:=Zh hr1 (.lst ((pss.map YX).map V.str).reverse)
 have er1:upd H1 r1 (.lst ((pss.map YX).map V.str).reverse) r1=_:=Zd
 generalize upd H1 r1 (.lst ((pss.map YX).map V.str).reverse)=H2 at s2 er1 ⊢
 refine ⟨_,rfl,pl,_,rfl,SqL.of (s2 _ _ (s1 _ _ epl)),fun r2 hr2=>?_⟩
 have s3:=Zh hr2 (.lst vs.reverse)
 have er2:upd H2 r2 (.lst vs.reverse) r2=_:=Zd
 generalize upd H2 r2 (.lst vs.reverse)=H3 at s3 er2 ⊢
 refine ⟨r1,r2,_,_,rfl,s3 _ _ er1,er2,by rw [List.length_reverse,List.length_reverse,hxl];exact hvl,fun l2 ts2 H4 s4 hl2 ht2 el2 pr2=>?_⟩
 rw [hxl] at ht1
 rw [List.length_reverse,hxl] at ht2
 have s14:=(s2.trans s3).trans s4
 refine ⟨l1,l2,_,_,rfl,rfl,s14 _ _ el1,el2,ZB (show _≤100 by rw [List.length_map,List.length_map];omega),fun l3 hl3'=>?_⟩
 have s5:=Zh hl3' (.lst (ts1.map V.ref++ts2.map V.ref))
 have el3:upd H4 l3 (.lst (ts1.map V.ref++ts2.map V.ref)) l3=_:=Zd
 generalize upd H4 l3 (.lst (ts1.map V.ref++ts2.map V.ref))=H5 at s5 el3 ⊢
 have s05:Same H0 H5:=(s1.trans s14).trans s5
 have key:∀ v∈ts1.map V.ref++ts2.map V.ref,∃ t ps u,v=.ref t∧H5 t=some (.tup [.str (YX ps),u])∧DatT K H5 u (.tuple (Pg.dats ps))∧ps∈pss:=by
   have pick:∀ (j:Nat) (x y:V),((pss.map YX).map V.str)[j]?=some x→vs[j]?=some y→∃ ps,x=.str (YX ps)∧DatT K H5 y (.tuple (Pg.dats ps))∧ps∈pss:=fun j x y h1 h2=>by
     rw [List.getElem?_map,List.getElem?_map] at h1
     obtain ⟨z,ez,rfl⟩:=Option.map_eq_some_iff.mp h1
     obtain ⟨ps,ep,rfl⟩:=Option.map_eq_some_iff.mp ez
     exact ⟨ps,rfl,(hvd j y ps h2 ep).same s05,List.mem_of_getElem? ep⟩
   intro v hv
   rcases List.mem_append.mp hv with hv | hv
   · obtain ⟨t,j,x,y,rfl,h1,h2,h3⟩:=Zir pr1 (by rw [ht1,hxl]) (by rw [hxl];exact hvl) hv
     obtain ⟨ps,rfl,d,hm⟩:=pick j x y h1 h2
     exact ⟨t,ps,y,rfl,s5 _ _ (s14 _ _ h3),d,hm⟩
   · obtain ⟨t,j,x,y,rfl,h1,h2,h3⟩:=Zir pr2 (by rw [ht2,List.length_reverse,hxl]) (by rw [List.length_reverse,List.length_reverse,hxl];exact hvl) hv
     have hj:j < ((pss.map YX).map V.str).length:=by have:=(List.getElem?_eq_some_iff.mp h1).1;rwa [List.length_reverse] at this
     rw [List.getElem?_reverse hj] at h1
     rw [List.getElem?_reverse (by omega),hvl,← hxl] at h2
     obtain ⟨ps,rfl,d,hm⟩:=pick _ x y h1 h2
     exact ⟨t,ps,y,rfl,s5 _ _ h3,d,hm⟩
 refine ⟨l3,rfl,⟨_,SqL.of el3⟩,?_⟩
 refine ZcQ (xs:=ts1.map V.ref++ts2.map V.ref) (fun i σ H'=>∃ x7 x8:Option V,σ=[some (.ref a),some (.ref tx),some (.ref pl),x3,x4,x5,x6,x7,x8]∧Same H5 H') ⟨_,_,rfl,Same.refl _⟩ (fun i σ H' _ ⟨_,_,_,s'⟩=>SqL.of (s' _ _ el3)) ?_ ?_
 · rintro i v σ H' hv ⟨x7,x8,rfl,s'⟩
   obtain ⟨t,ps,u,rfl,et,du,hps⟩:=key v (List.mem_of_getElem? hv)
   obtain ⟨ho,hh,hm⟩:=hpo ps hps
   have hrk:=Pg.rk_le ps
   have hdp:=Pg.deeps ps
   refine ⟨t,_,rfl,SqT.of (s' _ _ et),rfl,_,_,rfl,_,_,rfl,rfl,?_⟩
   refine ⟨_,rfl,ps,rfl,ho,by omega,by omega,fun w1 H6 s6 d1=>?_⟩
   obtain ⟨A1,n1⟩:=Va d1 ho (by omega)
   obtain ⟨A2,_⟩:=Va ((du.same s').same s6) ho (by omega)
   refine ⟨_,rfl,_,_,_,rfl,A1,A2,n1,by show PyData.depthAll (Pg.dats ps)+1 < 16;omega,fun H7 s7=>⟨_,rfl,ZI ?_⟩⟩
   refine ⟨_,rfl,ps,rfl,ho,by omega,by omega,fun w2 H8 s8 d2=>?_⟩
   refine ⟨w2,ps,rfl,d2,ho,by omega,by omega,by omega,fun H9 s9=>⟨_,rfl,rfl,_,rfl,?_⟩⟩
   rw [show (!decide (V.str (YX ps)=V.str (YX ps)))=false by simp]
   exact ZI ⟨_,_,rfl,(((s'.trans s6).trans s7).trans s8).trans s9⟩
 · rintro σ H' ⟨x7,x8,rfl,s'⟩
   refine ⟨[],by rw [show YX []=Str.ofString "" by decide +kernel];rfl,trivial,by decide,by decide,fun w1 H6 s6 d1=>⟨(by show 0≤sizeLine;decide),fun t ht=>?_⟩⟩
   have s7:=Zh ht (.tup [])
   obtain ⟨A1,n1⟩:=Va (d1.same s7) trivial (by decide)
   exact ⟨_,_,_,rfl,A1,.tup (SqT.of Zd) (Nat.zero_le _) .nil,n1,by decide,fun H8 s8=>q H8⟩
theorem ZkE {f:Addr}{fd:FuncData}{k:Nat}(F:Fun K "law" "law" s_law f fd)(T:ZW mg)(DT:DTk P w K mg base k)(DB:Def P w K mg base k "_law_box" ["_law_script","_law_k"] (Zcv K))(DDr:Def P w K mg base k "_law_drawn" Zhu (spDr K))(DRo:Def P w K mg base k "_law_rows" VT (Zcd K 10))(DPT:Def P w K mg base k "program_text" ZgK (ZhP K 10))(DPm:Def P w K mg base k "program_from" ZhV (Zcw K))(DSa:Def P w K mg base k "_law_same" VW (WS K 16))(DFi:Def P w K mg base k "_law_first" VN (ZcZ K 10)):FnOk P w K mg base ZR (k+1) f fd pnLw (ZbS K):=by
 refine F.ok scLw (fun vs H Q E h=>?_) (fun cdv A outer s H vs Q E hr h=>?_)
 · obtain ⟨a,ns,rfl,_⟩:=h;rfl
 obtain ⟨a,ns,rfl,hS,h63,q⟩:=h
 have hr1:=hr
 refine' ⟨?t,?h,?r⟩
 case h =>
   conv=>arg 2;whnf
   with_reducible refine' (Zf ?h1 (Zf (Xn ?h2 ?h3 ?h4 ?h5 (Zf ?h6 (Zf ?h7 (Zf ?h8 (Zf ?h9 (Zf ?h10 (Zi (Yb ?h11 (Zi ?h12) ZG))))))) ?h13) (Zf (Xn ?h14 ?h15 ?h16 ?h17 (Zi (Yb ?h18 (Zi ?h19) ZG)) ?h20) (Zi ?h21))))
   case h1=>exact XT (i:=1) (j:=2) rfl scLw.nd rfl rfl (by decide) rfl rfl (Zb (ZN Za) (Zb (ZN Za) Za)) rfl
   case h2=>exact PassesOwn.never
   case h3=>exact rfl
   case h4=>exact Wu rfl T.range (Zb (Zl (ZbC rfl) rfl T.max (by decide +kernel) (Zb Zc (Zb (Zl (Zfy rfl) rfl T.min (by decide +kernel) (Zb (Zl ZJ rfl T.len PySem.boot_len (Zb (pv 0) Za)) (Zb Zc Za))) Za))) Za)
   case h5=>exact ZD (i:=3) scLw.nd rfl (Or.inl rfl)
   case h6=>exact Zs (i:=4) scLw.nd rfl (Or.inl rfl) (Zq DB hr (Zb (pv 0) (Zb (pv 3) Za)))
   case h7=>exact YM (Yd PySem.F.plainAttrs_list PySem.F.slot_list_append PySem.F.type_list_append Yk (pv 2) (Zb (Zq DDr hr (Zb (pv 4) (Zb (ZC ZL (ZN (Zb Zc (Zb Zc (Zb Zc Za)))) (pv 3) (fun _ _=>rfl)) Za))) Za))
   case h8=>exact Zs (i:=5) scLw.nd rfl (Or.inl rfl) (Zq DRo hr (Zb (ZC ZL (pv 2) (pv 3) (fun _ _=>rfl)) (Zb Zc Za)))
   case h9=>exact YM (Yd PySem.F.plainAttrs_list PySem.F.slot_list_append PySem.F.type_list_append Yk (pv 1) (Zb (Yd PySem.F.plainAttrs_str PySem.F.slot_str_join PySem.F.type_str_join Xt Zn (Zb (pv 5) Za)) Za))
   case h10=>exact Zs (i:=6) scLw.nd rfl (Or.inl rfl) (Zq DT hr1 (Zb (pv 4) (Zb (Zk Yn (Zl ZJ rfl T.len PySem.boot_len (Zb (pv 5) Za)) Zc) Za)))
   case h11=>exact WV (Yt (Zq DSa hr (Zb (Zq DPm hr (Zb (Yd PySem.F.plainAttrs_str PySem.F.slot_str_join PySem.F.type_str_join Xt Zn (Zb (Ye Xs (pv 5) Yq (Yc (pv 6))) Za)) Za)) (Zb (ZC YO (Zq DFi hr (Zb (ZC ZL (pv 2) (pv 3) (fun _ _=>rfl)) (Zb (pv 6) Za))) Zc (fun _ _=>rfl)) Za))))
   case h12=>exact Zp Vz
   case h13=>exact fun _=>rfl
   case h14=>exact PassesOwn.never
   case h15=>exact rfl
   case h16=>exact Vp (Zk WU (Zdw rfl rfl T.list rfl T.zip (pv 1) (pv 2)) (Zdw rfl rfl T.list rfl T.zip (ZaK (pv 1)) (ZaK (pv 2))))
   case h17=>exact Wr rfl (Yj (ZD (i:=7) scLw.nd rfl (Or.inl rfl)) (Yj (ZD (i:=8) scLw.nd rfl (Or.inl rfl)) XO))
   case h18=>exact PW.pt (UF (WV (Yt (Zq DSa hr (Zb (Zq DPm hr (Zb (pv 7) Za)) (Zb (pv 8) Za))))) (Ul (ZF Vv (Zq DPT hr (Zb (Zq DPm hr (Zb (pv 7) Za)) Za)) (pv 7) (ZE _))))
   case h19=>exact Zp Vz
   case h20=>exact fun _=>rfl
   case h21=>exact Zp (Zq DSa hr (Zb (Zq DPm hr (Zb Zn Za)) (Zb (Ya Za) Za)))
 have S:Sep [(a,ScQ K ns)] H:=⟨H,fun _ _ e=>e,hS,trivial⟩
 refine ⟨(by show 0≤sizeLine;decide),fun tx htx=>⟨(by show 0≤sizeLine;decide),fun pl hpl=>⟨_,_,rfl,?_⟩⟩⟩
 have S1:=((S.new htx (.lst [])).new hpl (.lst [])).say pl (Zcf K []) fun h e=>⟨[],e,rfl,fun i v ps q=>by simp at q⟩
 generalize upd (upd H tx (.lst [])) pl (.lst [])=H1 at S1 ⊢
 refine ⟨_,rfl,a,_,rfl,.inl (S1.get a),_,_,rfl,_,_,rfl,?_⟩
 rw [List.length_map]
 generalize hm:(if (if (3:Int) < ((ns.length:Nat):Int) then 3 else ((ns.length:Nat):Int)) > 1 then (if (3:Int) < ((ns.length:Nat):Int) then 3 else ((ns.length:Nat):Int)) else 1)=m
 have hm9:0≤m∧m≤3:=by rw [← hm];split<;>(try split)<;>omega
 refine ⟨m,rfl,by omega,by omega,?_⟩
 refine Vd (fun i σ H'=>∃ (pss:List (List Pg)) (x3 x4 x5 x6 x7 x8:Option V),σ=[some (.ref a),some (.ref tx),some (.ref pl),x3,x4,x5,x6,x7,x8]∧pss.length=i∧(∀ ps∈pss,Pg.oks ps∧Pg.hgts ps≤6∧Pg.manys ps≤300)∧Sep [(tx,Vm ((pss.map YX).map V.str)),(pl,Zcf K pss),(a,ScQ K ns)] H') ⟨[],_,_,_,_,_,_,rfl,rfl,(fun _ z=>nomatch z),S1.pull tx⟩ ?_ ?_
 · rintro i σ H0 hi ⟨pss,x3,x4,x5,x6,x7,x8,rfl,hpl0,hpo,S0⟩
   replace hi:(i:Int) < m:=by first | exact_mod_cast hi | omega
   refine ⟨_,rfl,_,rfl,a,ns,_,_,rfl,S0.get a,S0,by omega,by omega,fun p H2 s2 S2=>?_⟩
   obtain ⟨vs,epl,hvl,hvd⟩:=S2.get pl
   refine ⟨_,rfl,.inl ⟨rfl,_,SqL.of epl⟩,_,rfl,(by show 3≤sizeLine;decide),fun l hl=>?_⟩
   have S3:=S2.new hl (.lst [.int 150,.int 40,.int 10])
   obtain ⟨mo,hmo,hme⟩:=Wx (f:=V.int) (xs:=[150,40,10]) (show (0:Int)≤0+(i:Int) by omega) (show (0+(i:Int)) < 3 by omega)
   have hmb:0≤mo∧mo≤200:=by
     simp only [List.mem_cons,List.not_mem_nil,or_false] at hmo
     rcases hmo with rfl | rfl | rfl<;>omega
   refine ⟨_,rfl,l,_,_,_,rfl,rfl,SqL.of (S3.get l),hme,?_⟩
   refine ⟨p,0,mo.toNat,_,by rw [show ((mo.toNat:Nat):Int)=mo by omega];rfl,(S3.drop l).pull p,by omega,by omega,fun t H4 ps N' h1 h2 h3 h4 S4=>?_⟩
   have dt:DatT K H4 (.ref t) (.tuple (Pg.dats ps)):=S4.get t
   obtain ⟨vs4,epl4,hvl4,_⟩:=S4.get pl
   refine ⟨pl,_,_,rfl,rfl,epl4,XC (show _≤1000 by omega),?_⟩
   have S5:=ZkA (S4.drop t) pl epl4 dt
   have dt5:=dt.tf (Zak (o:=.lst (vs4++[.ref t])) epl4)
   have epl5:upd H4 pl (.lst (vs4++[.ref t])) pl=some (.lst (vs4++[.ref t])):=Zd
   generalize upd H4 pl (.lst (vs4++[.ref t]))=H5 at S5 dt5 epl5 ⊢
   have hat:YK (vs4++[V.ref t]) (0+(i:Int))=some (.ref t):=by
     rw [show (0+(i:Int))=((vs4.length:Nat):Int) by omega];exact ZA (by simp)
   have hrk:=Pg.rk_le ps
   have hdp:=Pg.deeps ps
   have hrw:(Zu ps).map (Xw 0++·)=Zu ps:=by
     rw [show (fun x=>Xw 0++x)=id from funext Zli,List.map_id]
   refine ⟨_,rfl,_,rfl,pl,_,_,_,rfl,rfl,SqL.of epl5,hat,.ref t,0,ps,rfl,dt5,h2,by omega,by omega,by omega,fun rl H6 s6 hrl erl=>?_⟩
   rw [hrw] at erl
   have S6:=S5.made s6 hrl erl
   refine ⟨_,rfl,.inl ⟨rfl,_,SqL.of (S6.get tx)⟩,rfl,_,rfl,"\n",rl,Zu ps,rfl,rfl,SqL.of erl,UP h2 (by omega) (by omega),tx,_,_,rfl,rfl,S6.get tx,XC (show _≤1000 by rw [List.length_map,List.length_map];omega),?_⟩
   have S7:=S6.put tx (.lst ((pss.map YX).map V.str++[.str (Txt.join "\n" (Zu ps))]))
   generalize upd H6 tx (.lst ((pss.map YX).map V.str++[.str (Txt.join "\n" (Zu ps))]))=H7 at S7 ⊢
   have hlr:=Yy ps
   refine ⟨_,rfl,_,rfl,rl,_,rfl,.inl (SqL.of (S7.get rl)),_,_,rfl,rfl,p,_,_,_,rfl,S7.pull p,by omega,by rw [List.length_map];omega,by rw [List.length_map];omega,fun r8 H8 a0 a1 S8=>?_⟩
   rw [List.length_map] at a1
   obtain ⟨vs8,epl8,hvl8,hvd8⟩:=S8.get pl
   have hl8:vs8.length=i+1:=by rw [hvl8,List.length_append,List.length_singleton,hpl0]
   have hil:i < vs8.length:=by omega
   have dt8:DatT K H8 vs8[i] (.tuple (Pg.dats ps)):=hvd8 i _ ps (List.getElem?_eq_getElem hil) (by rw [List.getElem?_append_right (by omega),hpl0];simp)
   obtain ⟨frr,frc⟩:=UH ps r8.toNat
   obtain ⟨fo,fh⟩:=Zas ps r8.toNat h2
   have fm:Pg.manys (Zy ps r8.toNat).1≤300:=by
     have:=Yy (Zy ps r8.toNat).1
     rw [frr,List.length_take] at this;omega
   refine ⟨rfl,_,rfl,?_⟩
   dsimp only [We]
   refine ⟨_,rfl,_,rfl,rl,_,rfl,SqL.of (S8.get rl),fun c1 hc1=>?_⟩
   rw [show (some r8:Option Int)=some ((r8.toNat:Nat):Int) by rw [show ((r8.toNat:Nat):Int)=r8 by omega],UC,← List.map_take,← frr]
   have s9:=Zh hc1 (.lst ((Zu (Zy ps r8.toNat).1).map V.str))
   have ec1:upd H8 c1 (.lst ((Zu (Zy ps r8.toNat).1).map V.str)) c1=_:=Zd
   generalize upd H8 c1 (.lst ((Zu (Zy ps r8.toNat).1).map V.str))=H9 at s9 ec1 ⊢
   dsimp only [YF]
   refine ⟨"\n",c1,_,rfl,rfl,SqL.of ec1,UP fo (by omega) (by omega),?_⟩
   refine ⟨(Zy ps r8.toNat).1,rfl,fo,by omega,by omega,fun u1 H10 s10 du1=>?_⟩
   refine ⟨_,rfl,_,rfl,pl,vs8,_,vs8[i],rfl,rfl,SqL.of (s10 _ _ (s9 _ _ epl8)),?_,_,rfl,?_⟩
   · rw [show (0+(i:Int))=((i:Nat):Int) by omega];exact ZA (List.getElem?_eq_getElem hil)
   refine ⟨vs8[i],ps,r8.toNat,by rw [show ((r8.toNat:Nat):Int)=r8 by omega];rfl,(dt8.same s9).same s10,h2,by omega,by omega,fun t11 u2 H11 s11 sq11 du2=>?_⟩
   refine ⟨t11,_,_,u2,rfl,rfl,sq11,ZA (j:=0) rfl,?_⟩
   obtain ⟨A1,nb1⟩:=Va (du1.same s11) fo (by omega)
   obtain ⟨A2,_⟩:=Va du2 fo (by omega)
   have hdp2:=Pg.deeps (Zy ps r8.toNat).1
   refine ⟨_,_,_,rfl,A1,A2,nb1,by show PyData.depthAll (Pg.dats (Zy ps r8.toNat).1)+1 < 16;omega,fun H12 s12=>⟨_,rfl,ZI ?_⟩⟩
   have S12:=S8.mono (((s9.trans s10).trans s11).trans s12)
   refine ⟨pss++[ps],_,_,_,_,_,_,rfl,by rw [List.length_append,hpl0];rfl,fun qs hq=>?_,?_⟩
   · rcases List.mem_append.mp hq with hq | hq
     · exact hpo qs hq
     · rw [List.mem_singleton.mp hq];exact ⟨h2,h3,h1⟩
   · have:=(((S12.drop p).drop rl).pull tx)
     rw [List.map_append,List.map_append]
     exact this
 · rintro σ H0 ⟨pss,x3,x4,x5,x6,x7,x8,rfl,hpl0,hpo,S0⟩
   have etx:H0 tx=some (.lst ((pss.map YX).map V.str)):=S0.get tx
   obtain ⟨vs,epl,hvl,hvd⟩:=S0.get pl
   exact law2 (fun H'=>q H') hpo (by omega) etx epl hvl hvd
end
end K68
set_option maxHeartbeats 4000000
namespace K68
open PySem L2
abbrev Ziy (P:Program)(w:World)(K:PySem.W.Frag)(mg:Str→Option Value)(base:Heap):Prop:=Def P w K mg base 1 "_law_take" ["_law_box_here","_law_many"] (Zax 4611686018427387904)
section
variable {P:Program}{w:World}{K:PySem.W.Frag}{mg:Str→Option Value}{base:Heap}
abbrev vSigns:Str:=Ziz (WK s_l_value)
theorem vs_len:vSigns.length=94:=by decide +kernel
theorem Zka:vSigns.cps.toList.all Yz=true:=by decide +kernel
abbrev nVv:List Str:=["_law_box_here","_law_way","_law_signs"]
theorem scVal:Zt nVv ["_law_box_here"] (Zj s_l_value):=⟨rfl,rfl,rfl,by decide +kernel,rfl,by decide +kernel,by decide +kernel⟩
theorem ZgM {f:Addr}{fd:FuncData}(F:Fun K "_law_value" "_law_value" s_l_value f fd)(T:ZW mg)(D:Ziy P w K mg base):FnOk P w K mg base ZR 2 f fd ["_law_box_here"] ZdE:=by
 refine F.ok scVal (fun vs H Q E h=>?_) (fun cdv A outer s H vs Q E hr h=>?_)
 · obtain ⟨p,n,rfl,_⟩:=h;rfl
 obtain ⟨p,n,rfl,hB,hn,q⟩:=h
 refine ⟨_,Zf (Zs (i:=1) scVal.nd rfl (Or.inl rfl) (Zq D hr (Zb (pv 0) (Zb Zc Za))))
   (Zf (Yb (ZF ZbO (pv 1) Zc (ZE _)) (Zi (Zp (Zk YT (Zq D hr (Zb (pv 0) (Zb Zc Za))) Zc))) ZG)
   (Zf (Yb (ZF Xb (pv 1) Zc (ZE _)) (Zi (Zp (ZC ZL (ZN (XQ (Zk YT (Zk ZaF Zc Zc) Zc) (XQ (Zk YT Zc (Zk ZaF Zc Zc)) (XQ (Zk ZaF Zc Zc) (XQ Zc Za rfl) rfl) rfl) rfl)) (Zq D hr (Zb (pv 0) (Zb Zc Za))) (fun _ _=>rfl)))) ZG)
   (Zf (Yb (ZF Xb (pv 1) Zc (ZE _)) (Zi (Zp (ZC ZL (ZN (XQ Zn (XQ Zn (XQ Zn (XQ Zn (XQ Zn (XQ Zn (XQ Zn (XQ Zn Za rfl) rfl) rfl) rfl) rfl) rfl) rfl) rfl)) (Zq D hr (Zb (pv 0) (Zb Zc Za))) (fun _ _=>rfl)))) ZG)
   (Zf (Zs (i:=2) scVal.nd rfl (Or.inr rfl) Zn)
   (Zi (Zp (Yd PySem.F.plainAttrs_str PySem.F.slot_str_join PySem.F.type_str_join Xt Zn (Zb (Wg (CompOk.of nVv s_l_value rfl rfl (by decide +kernel)) rfl
     (Wu rfl T.range (Zb (Zq D hr (Zb (pv 0) (Zb (YH (ZF Xb (pv 1) Zc (ZE _)) Zc Zc) Za))) Za))
     (fun _ _ _ _ _=>ZC Zaj (pv 2) (Zq D hr (Zb (pv 0) (Zb (Zl (Zfr (K:=K) rfl) rfl T.len PySem.boot_len (Zb (pv 2) Za)) Za))) (fun _ _=>rfl))) Za)))))))),?_⟩
 refine ⟨_,rfl,p,n,6,rfl,hB,by omega,by decide,by decide,fun r1 H1 a0 a1 B1 k1=>?_⟩
 refine ⟨_,rfl,_,_,rfl,rfl,_,rfl,WC (fun c=>?_) (fun c=>?_)⟩
 · refine ⟨_,rfl,p,n+1,7,rfl,B1,by omega,by decide,by decide,fun r2 H2 b0 b1 B2 k2=>⟨_,_,rfl,rfl,?_⟩⟩
   exact q _ _ (by show (r2 - 3).natAbs < 10 ^ 30;omega) (B2.le (by omega)) (k1.trans k2)
 refine ⟨_,rfl,rfl,_,rfl,WC (fun c2=>?_) (fun c2=>?_)⟩
 · refine ⟨_,_,rfl,rfl,⟨by decide,by decide,by decide⟩,_,_,rfl,rfl,_,_,rfl,rfl,⟨by decide,by decide,by decide⟩,_,_,rfl,rfl,_,_,rfl,rfl,⟨by decide,by decide,by decide⟩,(by show 4≤sizeLine;decide),fun l hl=>?_⟩
   have hne:l≠p:=fun e=>by obtain ⟨_,_,_,z,_⟩:=B1;rw [e,z] at hl;cases hl
   refine ⟨_,rfl,p,n+1,4,rfl,B1.same (Zh hl _),by omega,by decide,by decide,fun r2 H2 b0 b1 B2 k2=>?_⟩
   obtain ⟨v,hv,hm⟩:=ZaL (xs:=([.int (10 ^ (30:Int).toNat - 1),.int (1 - 10 ^ (30:Int).toNat),.int (10 ^ (29:Int).toNat),.int 0]:List V)) b0 b1
   refine ⟨l,_,_,v,rfl,rfl,SqL.of (k2 l _ hne Zd),hv,q _ _ ?_ (B2.le (by omega)) (k1.trans ((Zh hl _).kp p |>.trans k2))⟩
   have all:(([.int (10 ^ (30:Int).toNat - 1),.int (1 - 10 ^ (30:Int).toNat),.int (10 ^ (29:Int).toNat),.int 0]:List V)).all Zee=true:=by decide +kernel
   exact Zcg (List.all_eq_true.mp all v hm)
 refine ⟨_,rfl,rfl,_,rfl,WC (fun c3=>?_) (fun c3=>?_)⟩
 · refine ⟨(by show 8≤sizeLine;decide),fun l hl=>?_⟩
   have hne:l≠p:=fun e=>by obtain ⟨_,_,_,z,_⟩:=B1;rw [e,z] at hl;cases hl
   refine ⟨_,rfl,p,n+1,8,rfl,B1.same (Zh hl _),by omega,by decide,by decide,fun r2 H2 b0 b1 B2 k2=>?_⟩
   obtain ⟨v,hv,hm⟩:=ZaL (xs:=([.str "",.str "0",.str "-1",.str "a",.str "none",.str "'",.str "\\", .str " "]:List V)) b0 b1
   refine ⟨l,_,_,v,rfl,rfl,SqL.of (k2 l _ hne Zd),hv,q _ _ ?_ (B2.le (by omega)) (k1.trans ((Zh hl _).kp p |>.trans k2))⟩
   have all:(([.str "",.str "0",.str "-1",.str "a",.str "none",.str "'",.str "\\", .str " "]:List V)).all Zee=true:=by decide +kernel
   exact Zcg (List.all_eq_true.mp all v hm)
 refine ⟨rfl,?_⟩
 have fin:∀ (r2:Int) (H2:Hp),0≤r2→r2 < 41→BoxAt H2 p (n+2)→Kp p H1 H2→∃ j:Int,[V.int r2]=[.int j]∧-(2 ^ 62)≤j∧j < 2 ^ 62∧∀ D,H2 D=none→Ua (Itr 0 j.toNat)
     (tOp rIxS (Xr 2) (Wo (Zax 4611686018427387904) [] E0 (Yf (Xr 0) (Yf (tCB (fun xs H Q=>∃ x n,xs=[x]∧ZhG K x H n∧Q (.int n) H) (Yf (Xr 2) YF)) YF))))
     [some (.ref p),some (.int r1),some (.str vSigns)] D (fun x H3=>∃ sep a ys,V.str ""=.str sep∧[x]=[.ref a]∧SqL K H3 a (ys.map V.str)∧(ys.map (·.length)).sum+ys.length * sep.length≤16777216∧Q (.str (Txt.join sep ys)) H3) H2:=by
   intro r2 H2 b0 b1 B2 k2
   refine ⟨r2,rfl,by omega,by omega,fun Dl hD=>?_⟩
   have hne:Dl≠p:=fun e=>by obtain ⟨_,_,_,z,_⟩:=B2;rw [e,z] at hD;cases hD
   refine ZeY (Nat.le_trans (show r2.toNat≤1000 by omega) (len1 (Nat.le_refl _)))
     (fun i ys H'=>∃ zs:List Str,ys=zs.map V.str∧zs.length=i∧(∀ z∈zs,∃ c,z=⟨#[c]⟩∧Yz c=true)∧H' Dl=some (.lst ys)∧BoxAt H' p (n+2+i)∧Kp p H1 H'∧i≤r2.toNat)
     ⟨[],rfl,rfl,(fun _ h=>nomatch h),Zd,B2.same (Zh hD _),k2.trans ((Zh hD _).kp p),Nat.zero_le _⟩ ?_ ?_ ?_
   · rintro i ys H' ⟨zs,rfl,hz,_⟩;rw [List.length_map];exact hz
   · rintro i ys H' hi ⟨zs,rfl,hz,hall,hDl,B',k',_⟩
     refine ⟨_,rfl,_,rfl,_,rfl,_,94,rfl,⟨by rw [vs_len];decide,vs_len.symm⟩,p,n+2+i,94,rfl,B',by omega,by decide,by decide,fun r3 H3 d0 d1 B3 k3=>?_⟩
     have hl:vSigns.cps.toList.length=94:=by rw [← ZM];exact vs_len
     obtain ⟨c,hc,hm⟩:=ZaL (xs:=vSigns.cps.toList) d0 (by rw [hl];exact d1)
     refine ⟨vSigns,r3,c,rfl,rfl,(by rw [vs_len];decide),hc,k3 Dl _ hne hDl,zs++[⟨#[c]⟩],by rw [List.map_append];rfl,by rw [List.length_append,hz];rfl,?_,Zd,?_,fun b o nb e=>?_,hi⟩
     · intro z hz'
       rcases List.mem_append.mp hz' with h | h
       · exact hall z h
       · rw [List.mem_singleton.mp h];exact ⟨c,rfl,List.all_eq_true.mp Zka c hm⟩
     · obtain ⟨x1,x2,x3,x4,x5⟩:=B3
       exact ⟨x1,x2,x3,by rw [Zo hne.symm];exact x4,x5⟩
     · rw [Zo (ZH (k2 b o nb e) hD)];exact k3 b o nb (k' b o nb e)
   · rintro ys H' ⟨zs,rfl,hz,hall,hDl,B',k',_⟩
     have ones:∀ l:List Str,(∀ z∈l,∃ c,z=⟨#[c]⟩∧Yz c=true)→(l.map (·.length)).sum=l.length∧(l.flatMap (·.cps.toList)).length=l.length∧(l.flatMap (·.cps.toList)).all Yz=true:=by
       intro l
       induction l with
       | nil=>intro _;exact ⟨rfl,rfl,rfl⟩
       | cons z r ih =>
         intro h
         obtain ⟨c,rfl,hc⟩:=h z List.mem_cons_self
         obtain ⟨g1,g2,g3⟩:=ih fun y hy=>h y (List.mem_cons_of_mem _ hy)
         refine ⟨?_,?_,?_⟩
         · rw [List.map_cons,List.sum_cons,g1,List.length_cons];show 1+_=_;omega
         · have e0:((⟨#[c]⟩:Str)::r).flatMap (·.cps.toList)=c::r.flatMap (·.cps.toList):=rfl
           rw [e0,List.length_cons,List.length_cons,g2]
         · rw [List.flatMap_cons,List.all_append,g3];simp [hc]
     obtain ⟨g1,g2,g3⟩:=ones zs hall
     refine ⟨_,Dl,zs,rfl,rfl,SqL.of hDl,?_,q _ _ ⟨?_,?_⟩ (B'.le (by omega)) (k1.trans k')⟩
     · rw [g1];show _+_ * 0≤_;omega
     · rw [ZM];show (Txt.join (Str.ofString "") zs).cps.toList.length≤40;rw [WG,g2];omega
     · show (Txt.join (Str.ofString "") zs).cps.toList.all Yz=true;rw [WG];exact g3
 refine ⟨_,rfl,_,rfl,rfl,_,rfl,WC (fun c4=>?_) (fun c4=>?_)⟩
 · exact ⟨p,n+1,4,rfl,B1,by omega,by decide,by decide,fun r2 H2 b0 b1 B2 k2=>fin r2 H2 b0 (by omega) B2 k2⟩
 · exact ⟨p,n+1,41,rfl,B1,by omega,by decide,by decide,fun r2 H2 b0 b1 B2 k2=>fin r2 H2 b0 (by omega) B2 k2⟩
end
end K68
set_option maxHeartbeats 4000000
namespace K68
open PySem L2
open PySem.W in
theorem all_mk {l:PySem.W.OpenLaw}{w:World}{K:PySem.W.Frag}{h:Heap}{mg:Str→Option Value}{fa:Addr}
   {f_z0 f_z1 f_z2 f_z3 f_z4 f_z5 f_z6 f_z7 f_z8 f_z9 f_z10 f_z11 f_z12 f_z13 f_z14 f_z15 f_z16 f_z17 f_z18 f_z19 f_z20 f_z21 f_z22 f_z23 f_z24 f_z25 f_z26 f_z27 f_z28 f_z29 f_z30 f_z31 f_z32 f_z33 f_z34 f_z35 f_z36:Addr} {d_z0 d_z1 d_z2 d_z3 d_z4 d_z5 d_z6 d_z7 d_z8 d_z9 d_z10 d_z11 d_z12 d_z13 d_z14 d_z15 d_z16 d_z17 d_z18 d_z19 d_z20 d_z21 d_z22 d_z23 d_z24 d_z25 d_z26 d_z27 d_z28 d_z29 d_z30 d_z31 d_z32 d_z33 d_z34 d_z35 d_z36:FuncData} (X:K.In h) (G:h.Ns mainGlobals mg) (hfa:mg "law"=some (.ref fa))
   (h_z0:FG K "kinds_of" s_kinds_of f_z0 d_z0)
   (h_z1:FG K "has_within" s_has_within f_z1 d_z1)
   (h_z2:FG K "program_within" s_program_within f_z2 d_z2)
   (h_z3:FG K "is_number" s_is_number f_z3 d_z3)
   (h_z4:FG K "value_text" s_value_text f_z4 d_z4)
   (h_z5:FG K "kinds_in_row" s_kinds_in_row f_z5 d_z5)
   (h_z6:FG K "step_row" s_step_row f_z6 d_z6)
   (h_z7:FG K "moved_in" s_moved_in f_z7 d_z7)
   (h_z8:FG K "program_rows" s_program_rows f_z8 d_z8)
   (h_z9:FG K "program_text" s_program_text f_z9 d_z9)
   (h_z10:FG K "is_name" s_is_name f_z10 d_z10)
   (h_z11:FG K "is_value" s_is_value f_z11 d_z11)
   (h_z12:FG K "unslashed" s_unslashed f_z12 d_z12)
   (h_z13:FG K "number_from" s_number_from f_z13 d_z13)
   (h_z14:FG K "value_from" s_value_from f_z14 d_z14)
   (h_z15:FG K "part_from" s_part_from f_z15 d_z15)
   (h_z16:FG K "whole_words" s_whole_words f_z16 d_z16)
   (h_z17:FG K "parts_from" s_parts_from f_z17 d_z17)
   (h_z18:FG K "head_from" s_head_from f_z18 d_z18)
   (h_z19:FG K "heads_from" s_heads_from f_z19 d_z19)
   (h_z20:FG K "program_of" s_program_of f_z20 d_z20)
   (h_z21:FG K "program_from" s_program_from f_z21 d_z21)
   (h_z22:FG K "_law_cell_at" s_l_cell_at f_z22 d_z22)
   (h_z23:FG K "_law_box" s_l_box f_z23 d_z23)
   (h_z24:FG K "_law_take" s_l_take f_z24 d_z24)
   (h_z25:FG K "_law_names" s_l_names f_z25 d_z25)
   (h_z26:FG K "_law_value" s_l_value f_z26 d_z26)
   (h_z27:FG K "_law_called" s_l_called f_z27 d_z27)
   (h_z28:FG K "_law_worth" s_l_worth f_z28 d_z28)
   (h_z29:FG K "_law_program" s_l_program f_z29 d_z29)
   (h_z30:FG K "_law_deep" s_l_deep f_z30 d_z30)
   (h_z31:FG K "_law_written" s_l_written f_z31 d_z31)
   (h_z32:FG K "_law_rows" s_l_rows f_z32 d_z32)
   (h_z33:FG K "_law_drawn" s_l_drawn f_z33 d_z33)
   (h_z34:FG K "_law_same" s_l_same f_z34 d_z34)
   (h_z35:FG K "_law_first" s_l_first f_z35 d_z35)
   (h_z36:FG K "law" s_law f_z36 d_z36)
   (z_len:PySem.W.nsIn K mainGlobals "len"=some none)
   (z_abs:PySem.W.nsIn K mainGlobals "abs"=some none)
   (z_int:PySem.W.nsIn K mainGlobals "int"=some none)
   (z_range:PySem.W.nsIn K mainGlobals "range"=some none)
   (z_min:PySem.W.nsIn K mainGlobals "min"=some none)
   (z_max:PySem.W.nsIn K mainGlobals "max"=some none)
   (z_repr:PySem.W.nsIn K mainGlobals "repr"=some none)
   (z_enumerate:PySem.W.nsIn K mainGlobals "enumerate"=some none)
   (z_ord:PySem.W.nsIn K mainGlobals "ord"=some none)
   (z_list:PySem.W.nsIn K mainGlobals "list"=some none)
   (z_tuple:PySem.W.nsIn K mainGlobals "tuple"=some none)
   (z_dict:PySem.W.nsIn K mainGlobals "dict"=some none)
   (z_sorted:PySem.W.nsIn K mainGlobals "sorted"=some none)
   (z_sum:PySem.W.nsIn K mainGlobals "sum"=some none)
   (z_all:PySem.W.nsIn K mainGlobals "all"=some none)
   (z_any:PySem.W.nsIn K mainGlobals "any"=some none)
   (z_divmod:PySem.W.nsIn K mainGlobals "divmod"=some none)
   (z_str:PySem.W.nsIn K mainGlobals "str"=some none)
   (z_isinstance:PySem.W.nsIn K mainGlobals "isinstance"=some none)
   (z_set:PySem.W.nsIn K mainGlobals "set"=some none)
   (z_zip:PySem.W.nsIn K mainGlobals "zip"=some none)
   (z_reversed:PySem.W.nsIn K mainGlobals "reversed"=some none)
   (z_bool:PySem.W.nsIn K mainGlobals "bool"=some none)
   {dk:Addr}
   (kd:PySem.W.nsIn K mainGlobals "KINDS"=some (some (.ref dk)))
   {kb0 kb1 kb2 kb3 kb4 kb5 kb6 kb7:Addr} {kh0 kh1 kh2 kh3 kh4 kh5 kh6 kh7:Int} {kt0 kt1 kt2 kt3 kt4 kt5 kt6 kt7:Tok} {kep:Nat}
   (kl:K.lookup dk=some ⟨.type "dict",none,.dict #[⟨kh0,.str "set" kt0,.ref kb0⟩,⟨kh1,.str "look" kt1,.ref kb1⟩,⟨kh2,.str "back" kt2,.ref kb2⟩,⟨kh3,.str "begin" kt3,.ref kb3⟩,⟨kh4,.str "late" kt4,.ref kb4⟩,⟨kh5,.str "copy" kt5,.ref kb5⟩,⟨kh6,.str "in" kt6,.ref kb6⟩,⟨kh7,.str "pass" kt7,.ref kb7⟩] kep,#[]⟩)
   (ks:(dk == PySem.sysModules)=false)
   {ku0_0 ku0_1 ku0_2:Tok} {kn0:Nat} {kq0:Option Addr} {ko0:Array (Option Value)}
   (km0:K.lookup kb0=some ⟨.type "tuple",kq0,.seq #[.str "name" ku0_0,.str "value" ku0_1,.str "slot" ku0_2] kn0,ko0⟩)
   {ku1_0:Tok} {kn1:Nat} {kq1:Option Addr} {ko1:Array (Option Value)}
   (km1:K.lookup kb1=some ⟨.type "tuple",kq1,.seq #[.str "name" ku1_0] kn1,ko1⟩)
   {ku2_0:Tok} {kn2:Nat} {kq2:Option Addr} {ko2:Array (Option Value)}
   (km2:K.lookup kb2=some ⟨.type "tuple",kq2,.seq #[.str "slot" ku2_0] kn2,ko2⟩)
   {ku3_0:Tok} {kn3:Nat} {kq3:Option Addr} {ko3:Array (Option Value)}
   (km3:K.lookup kb3=some ⟨.type "tuple",kq3,.seq #[.str "program" ku3_0] kn3,ko3⟩)
   {ku4_0:Tok} {kn4:Nat} {kq4:Option Addr} {ko4:Array (Option Value)}
   (km4:K.lookup kb4=some ⟨.type "tuple",kq4,.seq #[.str "program" ku4_0] kn4,ko4⟩)
   {ku5_0:Tok} {kn5:Nat} {kq5:Option Addr} {ko5:Array (Option Value)}
   (km5:K.lookup kb5=some ⟨.type "tuple",kq5,.seq #[.str "slot" ku5_0] kn5,ko5⟩)
   {ku6_0 ku6_1:Tok} {kn6:Nat} {kq6:Option Addr} {ko6:Array (Option Value)}
   (km6:K.lookup kb6=some ⟨.type "tuple",kq6,.seq #[.str "slot" ku6_0,.str "program" ku6_1] kn6,ko6⟩)
   {kn7:Nat} {kq7:Option Addr} {ko7:Array (Option Value)}
   (km7:K.lookup kb7=some ⟨.type "tuple",kq7,.seq #[] kn7,ko7⟩)
   (zNB:PySem.W.nsIn K PySem.cStatics PySem.sharingNotToldKey=some none)
   {tf:Tok}
   (gFI:PySem.W.nsIn K mainGlobals "FURTHER_IN"=some (some (.str "  " tf)))
   {tLN:Tok}
   (gLN:PySem.W.nsIn K mainGlobals "LONGEST_NAME"=some (some (.int 8 tLN)))
   {tMF:Tok}
   (gMF:PySem.W.nsIn K mainGlobals "MOST_FIGURES"=some (some (.int 30 tMF)))
   {tMS:Tok}
   (gMS:PySem.W.nsIn K mainGlobals "MOST_SIGNS"=some (some (.int 40 tMS))) :
   ∃ fd:FuncData,(∀ (s:Shared) (v:Value),BindsTo s fd ⟨[v],[]⟩ [("_law_script",v)])∧∀ base:Heap,K.In base→base.Ns mainGlobals mg→ZaY base mg→FnOk l.prog w K mg base ZR 18 fa fd ["_law_script"] (ZbS K):=by
 have e:=hfa.symm.trans (mg_of X G h_z36.a)
 cases e
 have n_len:=mg_none_of X G z_len
 have n_abs:=mg_none_of X G z_abs
 have n_int:=mg_none_of X G z_int
 have n_range:=mg_none_of X G z_range
 have n_min:=mg_none_of X G z_min
 have n_max:=mg_none_of X G z_max
 have n_repr:=mg_none_of X G z_repr
 have n_enumerate:=mg_none_of X G z_enumerate
 have n_ord:=mg_none_of X G z_ord
 have n_list:=mg_none_of X G z_list
 have n_tuple:=mg_none_of X G z_tuple
 have n_dict:=mg_none_of X G z_dict
 have n_sorted:=mg_none_of X G z_sorted
 have n_sum:=mg_none_of X G z_sum
 have n_all:=mg_none_of X G z_all
 have n_any:=mg_none_of X G z_any
 have n_divmod:=mg_none_of X G z_divmod
 have n_str:=mg_none_of X G z_str
 have n_isinstance:=mg_none_of X G z_isinstance
 have n_set:=mg_none_of X G z_set
 have n_zip:=mg_none_of X G z_zip
 have n_reversed:=mg_none_of X G z_reversed
 have n_bool:=mg_none_of X G z_bool
 have g_kd:=mg_of X G kd
 have g_gFI:=mg_of X G gFI
 have g_gLN:=mg_of X G gLN
 have g_gMF:=mg_of X G gMF
 have g_gMS:=mg_of X G gMS
 have TB:ZW mg:=⟨n_len,n_abs,n_int,n_range,n_min,n_max,n_repr,n_enumerate,n_ord,n_list,n_tuple,n_dict,n_sorted,n_sum,n_all,n_any,n_divmod,n_str,n_isinstance,n_set,n_zip,n_reversed,n_bool⟩
 have TK:KDic K dk Xq:=⟨ks,_,_,_,kl,⟨rfl,rfl,rfl⟩,rfl,(.cons rfl ⟨_,rfl,_,_,_,km0,rfl,rfl,(show 3≤PySem.sizeLine by decide),(.cons ⟨_,rfl⟩ (.cons ⟨_,rfl⟩ (.cons ⟨_,rfl⟩ .nil)))⟩ (.cons rfl ⟨_,rfl,_,_,_,km1,rfl,rfl,(show 1≤PySem.sizeLine by decide),(.cons ⟨_,rfl⟩ .nil)⟩ (.cons rfl ⟨_,rfl,_,_,_,km2,rfl,rfl,(show 1≤PySem.sizeLine by decide),(.cons ⟨_,rfl⟩ .nil)⟩ (.cons rfl ⟨_,rfl,_,_,_,km3,rfl,rfl,(show 1≤PySem.sizeLine by decide),(.cons ⟨_,rfl⟩ .nil)⟩ (.cons rfl ⟨_,rfl,_,_,_,km4,rfl,rfl,(show 1≤PySem.sizeLine by decide),(.cons ⟨_,rfl⟩ .nil)⟩ (.cons rfl ⟨_,rfl,_,_,_,km5,rfl,rfl,(show 1≤PySem.sizeLine by decide),(.cons ⟨_,rfl⟩ .nil)⟩ (.cons rfl ⟨_,rfl,_,_,_,km6,rfl,rfl,(show 2≤PySem.sizeLine by decide),(.cons ⟨_,rfl⟩ (.cons ⟨_,rfl⟩ .nil))⟩ (.cons rfl ⟨_,rfl,_,_,_,km7,rfl,rfl,(show 0≤PySem.sizeLine by decide),.nil⟩ .nil))))))))⟩
 refine ⟨d_z36,fun s v=>ZfB h_z36.F (fun _ _ _ _ _ _ _=>rfl) s v,fun base _ _ hBm=>?_⟩
 have e:Bs l.prog w K mg base h:=⟨X,G⟩
 have D_z0:=h_z0.df e (ZhC h_z0.F TK g_kd) (h_z0.F.b1 fun _ _ _ _ _ _ _=>rfl)
 have D_z1:=h_z1.df e (ZiT h_z1.F D_z0) (h_z1.F.b1 fun _ _ _ _ _ _ _=>rfl)
 have D_z2:=h_z2.df e (Zge h_z2.F D_z1) (h_z2.F.b1 fun _ _ _ _ _ _ _=>rfl)
 have b_z3:Binds K d_z3 ["thing"] []:=h_z3.F.b1 fun _ _ _ _ _ _ _=>rfl
 have DNu1:ZgY l.prog w K mg base 1 "is_number" "thing" ZbP:=⟨_,_,Zla h_z3.F TB,b_z3,h_z3.F.kp,(mg_of X G h_z3.a)⟩
 have D_z4:=h_z4.df e (ZlN h_z4.F TB zNB DNu1) (h_z4.F.b1 fun _ _ _ _ _ _ _=>rfl)
 have D_z5:=h_z5.df e (Zlc h_z5.F TB D_z0) (h_z5.F.b1 fun _ _ _ _ _ _ _=>rfl)
 have D_z6:=h_z6.df e (Zlo h_z6.F TB D_z4 D_z5) (h_z6.F.b1 fun _ _ _ _ _ _ _=>rfl)
 have D_z7:=h_z7.df e (Zlz h_z7.F g_gFI) (h_z7.F.b1 fun _ _ _ _ _ _ _=>rfl)
 have b_z8:Binds K d_z8 ["program"] []:=h_z8.F.b1 fun _ _ _ _ _ _ _=>rfl
 have D_z8:Def l.prog w K mg base 14 "program_rows" VR (Zco K 10):=⟨_,_,Zif h_z8.F TB b_z8 h_z8.F.kp (mg_of X G h_z8.a) D_z2 D_z6 (D_z7.mono (by decide)) 10,b_z8,h_z8.F.kp,(mg_of X G h_z8.a)⟩
 have D_z9:=h_z9.df e (Zlr h_z9.F TB D_z8) (h_z9.F.b1 fun _ _ _ _ _ _ _=>rfl)
 have D_z10:=h_z10.df e (Zgj h_z10.F TB g_gLN) (h_z10.F.b1 fun _ _ _ _ _ _ _=>rfl)
 have D_z11:=h_z11.df e (ZeB h_z11.F TB) (h_z11.F.b1 fun _ _ _ _ _ _ _=>rfl)
 have D_z12:=h_z12.df e (Zjd h_z12.F TB) (h_z12.F.b1 fun _ _ _ _ _ _ _=>rfl)
 have D_z13:=h_z13.df e (ZiW h_z13.F TB) (h_z13.F.b2 fun _ _ _ _ _ _ _ _=>rfl)
 have D_z14:=h_z14.df e (Zjb h_z14.F TB g_gMF g_gMS (D_z13.mono (by decide)) (D_z12.mono (by decide)) (D_z11.mono (by decide)) D_z4) (h_z14.F.b1 fun _ _ _ _ _ _ _=>rfl)
 have D_z15:=h_z15.df e (ZhL h_z15.F TB D_z14 (D_z10.mono (by decide))) (h_z15.F.b2 fun _ _ _ _ _ _ _ _=>rfl)
 have D_z16:=h_z16.df e (ZgI h_z16.F TB) (h_z16.F.b2 fun _ _ _ _ _ _ _ _=>rfl)
 have D_z17:=h_z17.df e (ZhN h_z17.F TB (D_z16.mono (by decide)) D_z15) (h_z17.F.b2 fun _ _ _ _ _ _ _ _=>rfl)
 have D_z18:=h_z18.df e (Zht h_z18.F TB (D_z0.mono (by decide)) (D_z5.mono (by decide)) D_z17) (h_z18.F.b1 fun _ _ _ _ _ _ _=>rfl)
 have D_z19:=h_z19.df e (Zgr h_z19.F TB g_gFI D_z18 (D_z1.mono (by decide))) (h_z19.F.b2 fun _ _ _ _ _ _ _ _=>rfl)
 have D_z20:=h_z20.df e (ZfG h_z20.F TB D_z1) (h_z20.F.b1 fun _ _ _ _ _ _ _=>rfl)
 have D_z21:=h_z21.df e (Zdg h_z21.F TB D_z19 (D_z20.mono (by decide))) (h_z21.F.b1 fun _ _ _ _ _ _ _=>rfl)
 have D_z22:=h_z22.df e (Zjv h_z22.F TB) (h_z22.F.b2 fun _ _ _ _ _ _ _ _=>rfl)
 have D_z23:=h_z23.df e (FnOk.conv (sp':=Zcv K) (ZjG h_z23.F TB D_z22) (fun _ _ _ _ h=>ZlE h)) (h_z23.F.b2 fun _ _ _ _ _ _ _ _=>rfl)
 have b_z24:Binds K d_z24 ["_law_box_here","_law_many"] []:=h_z24.F.b2 fun _ _ _ _ _ _ _ _=>rfl
 have DT0:Ziy l.prog w K mg base:=⟨_,_,Zju h_z24.F,b_z24,h_z24.F.kp,(mg_of X G h_z24.a)⟩
 have D_z24:DTk l.prog w K mg base 1:=DT0.conv fun _ _ _ _ h=>ZkS h
 have D_z25:=h_z25.df e (ZgQ h_z25.F TB D_z24) (h_z25.F.b2 fun _ _ _ _ _ _ _ _=>rfl)
 have D_z26:=h_z26.df e (FnOk.conv (sp':=VP) (ZgM h_z26.F TB DT0) (fun _ _ _ _ h=>ZiP h)) (h_z26.F.b1 fun _ _ _ _ _ _ _=>rfl)
 have D_z27:=h_z27.df e (ZlA h_z27.F TB (D_z24.mono (by decide)) D_z25) (h_z27.F.b2 fun _ _ _ _ _ _ _ _=>rfl)
 have D_z28:=h_z28.df e (ZlI h_z28.F TB (D_z24.mono (by decide)) D_z26) (h_z28.F.b1 fun _ _ _ _ _ _ _=>rfl)
 have b_z29:Binds K d_z29 ["_law_box_here","_law_names_here","_law_slots","_law_many","_law_blocks"] []:=h_z29.F.b5 fun _ _ _ _ _ _ _ _ _ _ _=>rfl
 have OPG:=Ziw h_z29.F TB b_z29 h_z29.F.kp (mg_of X G h_z29.a) (D_z24.mono (by decide)) D_z28
 have D_z29:Def l.prog w K mg base 10 "_law_program" Uz (UD K 6):=⟨_,_,OPG 6,b_z29,h_z29.F.kp,(mg_of X G h_z29.a)⟩
 have D_law_program0:Def l.prog w K mg base 4 "_law_program" Uz (UD K 0):=⟨_,_,OPG 0,b_z29,h_z29.F.kp,(mg_of X G h_z29.a)⟩
 have D_z30:=h_z30.df e (Zlq h_z30.F TB (D_z24.mono (by decide)) D_law_program0) (h_z30.F.b4 fun _ _ _ _ _ _ _ _ _ _=>rfl)
 have D_z31:=h_z31.df e (ZeO h_z31.F TB) (h_z31.F.b1 fun _ _ _ _ _ _ _=>rfl)
 have b_z32:Binds K d_z32 ["_law_program_here","_law_blanks"] []:=h_z32.F.b2 fun _ _ _ _ _ _ _ _=>rfl
 have D_z32:Def l.prog w K mg base 12 "_law_rows" VT (Zcd K 10):=⟨_,_,Zix h_z32.F TB b_z32 h_z32.F.kp (mg_of X G h_z32.a) D_z31 10,b_z32,h_z32.F.kp,(mg_of X G h_z32.a)⟩
 have D_z33:=h_z33.df e (Zlm (k:=10) h_z33.F TB (D_z24.mono (by decide)) (D_z27.mono (by decide)) (D_z29.mono (by decide)) (D_z30.mono (by decide))) (h_z33.F.b2 fun _ _ _ _ _ _ _ _=>rfl)
 have b_z34:Binds K d_z34 ["_law_found","_law_due"] []:=h_z34.F.b2 fun _ _ _ _ _ _ _ _=>rfl
 have D_z34:Def l.prog w K mg base 17 "_law_same" VW (WS K 16):=⟨_,_,ZdL h_z34.F TB b_z34 h_z34.F.kp (mg_of X G h_z34.a) 16,b_z34,h_z34.F.kp,(mg_of X G h_z34.a)⟩
 have b_z35:Binds K d_z35 ["_law_program_here","_law_many"] []:=h_z35.F.b2 fun _ _ _ _ _ _ _ _=>rfl
 have D_z35:Def l.prog w K mg base 11 "_law_first" VN (ZcZ K 10):=⟨_,_,ZcH h_z35.F TB b_z35 h_z35.F.kp (mg_of X G h_z35.a) 10,b_z35,h_z35.F.kp,(mg_of X G h_z35.a)⟩
 exact ZkE (k:=17) h_z36.F TB (D_z24.mono (by decide)) (D_z23.mono (by decide)) (D_z33.mono (by decide)) (D_z32.mono (by decide)) (D_z9.mono (by decide)) (D_z21.mono (by decide)) D_z34 (D_z35.mono (by decide))
theorem walk {l:PySem.W.OpenLaw}{q:Program}{loose:List Str}{XP:(Str→Option Value)→Heap→Prop}{YP:World→Heap→Prop}{d:DefRec}{K:Params→PySem.W.Frag}{ts:List Addr}(hn:l.most=some 63)(hdf:d.params.defaults=[])
   (hY:∀ (w:World) (h:Heap),YP w h→(K w.params).In h∧∀ b∈ts,h.get? b=some (PySem.W.tabObj #[]))
   (hK:∀ (w:World) (b:Addr),b∈ts→(K w.params).lookup b=none∧∃ c,PySem.W.codeHdIn (K w.params) c b=true)
   (F:∀ (w:World) (mg:Str→Option Value) (fa:Addr) (h:Heap),(K w.params).In h→h.Ns mainGlobals mg→mg d.name=some (.ref fa) →
     ∃ fd:FuncData,(∀ (s:Shared) (u:Value),BindsTo s fd ⟨[u],[]⟩ [("_law_script",u)])∧∀ base:Heap,(K w.params).In base→base.Ns mainGlobals mg→ZaY base mg→FnOk l.prog w (K w.params) mg base ZR 18 fa fd ["_law_script"] (ZbS (K w.params))) :
   PySem.W.WalkO q loose XP YP l.row.toRowW d [] (fun f vs=>PySem.call f vs) :=
 L2.walk_ofT (n:=63) (k:=18) (x:="_law_script") (CX:=fun _=>ZR) (sp:=fun w=>ZbS (K w.params)) (ts:=ts) hn (by decide) hdf ⟨rfl,by decide,by decide,rfl⟩ hY hK F (fun w H a ns hl hO hS hT=>⟨a,ns,rfl,hS,hl,fun _=>rfl⟩) fun _ _ _ _ _ z=>z
end K68
namespace PySem.W.Fast
def tw14621085634560216964 := 0
def tw4096228848520307063 := 0
def tw2750762769144258601 := 0
def tw7381746291116817484 := 0
def tw15865767283897085967 := 0
def tw4635159766676186076 := 0
def tw7652713335236628484 := 0
def tw10004181074265959136 := 0
def tw8730048312484978190 := 0
def tw13563489498576679285 := 0
def tw10702458628039287071 := 0
def tw6409530540981994209 := 0
def tw15427358859827632235 := 0
def tw2691057512977861965 := 0
def tw15316863697742640953 := 0
def tw18383487023731060228 := 0
def tw11872485817232653239 := 0
def tw13528067229046200445 := 0
def tw14855212587284181959 := 0
def tw950091537583431498 := 0
def tw2238922622390773939 := 0
def tw11042639611497571088 := 0
def tw3887230729316445115 := 0
def tw12519531638391078366 := 0
def tw9501040772012795667 := 0
def tw14918446796335367315 := 0
def tw8616017581190153757 := 0
def tw4343108594757096280 := 0
def tw16698949562718279352 := 0
def tw8783452811441310003 := 0
def tw1910948949244260800 := 0
def tw15206516570852500281 := 0
def tw11012700655951349880 := 0
def tw14348145632502851939 := 0
def tw385813889121061913 := 0
def tw6916881864883450695 := 0
def tw4681649883021028490 := 0
def tw17424739201500455436 := 0
def tw4083695348614578131 := 0
def tw6917304276805848767 := 0
def tw15433099289968523200 := 0
def tw5702146214853981580 := 0
def tw7925121619396869040 := 0
def tw17842830658296244251 := 0
def tw10172294739313886699 := 0
def tw7327094540028864136 := 0
def tw2373812847448549264 := 0
def tw5403226491369833972 := 0
def tw5645947388325710935 := 0
def tw16348663703556513116 := 0
def tw10524075459806603483 := 0
def tw1598987984983821109 := 0
def tw6461435801419771106 := 0
def tw16243283545922788952 := 0
def tw3170100077831952691 := 0
def tw6946209289065917271 := 0
def tw14100927788881173445 := 0
def tw12174153019864679129 := 0
def tw13499811419918144357 := 0
def tw13202734112677257753 := 0
def tw10615395414703656376 := 0
def tw15998528019235275365 := 0
def tw13204283883515074422 := 0
def tw7619188232480464366 := 0
def tw3533492377901088870 := 0
def tw2079797533250668645 := 0
def tw3219331769616268303 := 0
def tw8480255897640105459 := 0
def tw5516418756138298265 := 0
def tw13453769164734518591 := 0
def tw11079801359200779033 := 0
def tw8648545599585429390 := 0
def tw2694250404870339822 := 0
def tw9256040062788552170 := 0
def tw16498061114721403866 := 0
def tw16791681084489020256 := 0
def tw17231827175024464731 := 0
def tw1688520587502811448 := 0
def tw16988357494740895233 := 0
def tw8382649967150136533 := 0
def tw9450412575937345669 := 0
def tw5419650405720339518 := 0
def tw6500829424432873666 := 0
def tw15791027107603562801 := 0
def tw2154703832831322790 := 0
def tw8986341167729128544 := 0
def tw2668230658879596399 := 0
def tw8390905347563210220 := 0
def tw4598537924742003871 := 0
def tw2200968785374599912 := 0
def tw7006336907094446725 := 0
def tw15315397261324196218 := 0
def tw7690416904777289832 := 0
def tw3312332157566063557 := 0
def tw7901113177939749886 := 0
def tw18031768869657604639 := 0
def tw3680929026419393053 := 0
def tw5867365174070503738 := 0
def tw549601246857985945 := 0
def tw11821675282486447896 := 0
def tw6756042615943073503 := 0
def tw3350371852014601386 := 0
def tw16659834263533138305 := 0
def tw7498693439140392624 := 0
def tw14889396623250411465 := 0
def tw7179475854112578677 := 0
def tw13740007667525857212 := 0
def tw5920650455463614230 := 0
def tw8674845238949943158 := 0
def tw17603039387284428097 := 0
def tw8819770332680915193 := 0
def tw13859938621181241297 := 0
def tw11116030478486568244 := 0
def tw8663817882146898128 := 0
def tw11882993022541322831 := 0
def tw2121235936965203271 := 0
def tw4380906979285337221 := 0
def tw6040821203107084166 := 0
def tw5182564211231751209 := 0
def tw4140964379292953090 := 0
def tw181376194986600474 := 0
def tw5143062414566405020 := 0
def tw6017706357416981834 := 0
def tw11912948338631682399 := 0
def tw6413213265064043664 := 0
def tw8898211056311094736 := 0
def tw9543353243540708510 := 0
def tw2868081889536033659 := 0
def tw4481717859444802948 := 0
def tw1209587881974506380 := 0
def tw3884437879808494004 := 0
def tw12425733871879928989 := 0
def tw11031835990357858747 := 0
def tw9692410485696468859 := 0
def tw2381714011016703686 := 0
def tw9309624846394273046 := 0
def tw8818723501094098108 := 0
def tw8710316198649143259 := 0
def tw8500061298468645848 := 0
def tw8369365864005821474 := 0
def tw7683743774227837985 := 0
def tw7579445368034094885 := 0
def tw6808418290860340196 := 0
def tw5454039386011391688 := 0
def tw5392499418687713049 := 0
def tw5011274772155433823 := 0
def tw4989298577936008027 := 0
def tw4109756644018986943 := 0
def tw3530774143646548510 := 0
def tw3492129791145994731 := 0
def tw320117058934323551 := 0
def tw3122655099400180253 := 0
def tw2472330545791366719 := 0
def tw2154519027470607614 := 0
def tw2014180476491690117 := 0
def tw18339577769750888243 := 0
def tw18128806537937830212 := 0
def tw17571912327811198993 := 0
def tw17024279259789990687 := 0
def tw15936664487054998978 := 0
def tw14075209329901648481 := 0
def tw12777156944147522562 := 0
def tw12305389495340185069 := 0
def tw11932981891268839954 := 0
def tw11265141261782344759 := 0
def tw1022349748095273073 := 0
def tw10153938987573472360 := 0
def tw12663343930352472230 := 0
def tw12727480170078746958 := 0
def tw7712459319678219618 := 0
def tw5700482655384366978 := 0
def tw5781862697001365797 := 0
def tw4603421922030799433 := 0
def tw16375623914609349551 := 0
def tw14718318544257522591 := 0
def tw13405632996584083159 := 0
def tw10319926812916831002 := 0
def tw6065322309348302014 := 0
def tw1322532019538336328 := 0
def tw17408351384615309173 := 0
def tw8163312486257668763 := 0
def tw6990489576023096635 := 0
def tw3704588927019808697 := 0
def tw3351056671286844153 := 0
def tw2230225580700132922 := 0
def tw15365570729784018781 := 0
def tw13829209024039113552 := 0
def tw13513883707612915983 := 0
def tw12302373294225067624 := 0
def tw11601194035981502330 := 0
def tw8854637294074807180 := 0
def tw17362472831648340401 := 0
def tw16296824537169763336 := 0
def tw8504868141006182936 := 0
def tw14104157053133737580 := 0
def tw5752958142256317298 := 0
def tw10747600272352174481 := 0
def tw276609419269628226 := 0
def tw17778864787011990708 := 0
def tw2015817239975366084 := 0
def tw9802980988418418318 := 0
def tw9644069876920807120 := 0
def tw9467356791839049031 := 0
def tw8493303515849469789 := 0
def tw8457320743332645177 := 0
def tw7804750542001707343 := 0
def tw7715955044394041136 := 0
def tw7709147590419366219 := 0
def tw7674952881426002642 := 0
def tw7468795063722812224 := 0
def tw7412578977510164212 := 0
def tw699130550791110751 := 0
def tw6718582727186105567 := 0
def tw6577758061371379366 := 0
def tw657330662497068 := 0
def tw639312748046145458 := 0
def tw6226184917214367239 := 0
def tw5918924269973327692 := 0
def tw5505279853461232544 := 0
def tw4856260117993313024 := 0
def tw4300455814726905116 := 0
def tw4282576294537831278 := 0
def tw4201824168777869835 := 0
def tw4123297836701061472 := 0
def tw38363231909367929 := 0
def tw3725013889099990834 := 0
def tw3555859861206032349 := 0
def tw3176351537036989188 := 0
def tw3052614925221359737 := 0
def tw2842215238594273398 := 0
def tw2421872382231336166 := 0
def tw2344948691057007896 := 0
def tw2279315967412745412 := 0
def tw17991959312663108342 := 0
def tw17885279408302130327 := 0
def tw17759720957242175402 := 0
def tw1765965605493453332 := 0
def tw17434093057649354083 := 0
def tw17043430915560722245 := 0
def tw16975272124989936720 := 0
def tw16969309340527612867 := 0
def tw16918828983298408916 := 0
def tw16784713232746605872 := 0
def tw16640959494186130827 := 0
def tw1599701885838491208 := 0
def tw15823853582877621159 := 0
def tw14838015943066013716 := 0
def tw14657476801127407194 := 0
def tw14564304764741888162 := 0
def tw1454053625232669468 := 0
def tw13857564233265719194 := 0
def tw13503661798272768358 := 0
def tw12910331883068393329 := 0
def tw12772913402441614952 := 0
def tw12709437927822665739 := 0
def tw12607293795082859536 := 0
def tw12598785098262346209 := 0
def tw12587261227907009049 := 0
def tw11994089392343661007 := 0
def tw1161065694513177712 := 0
def tw10949398830451978705 := 0
def tw10908800609773982017 := 0
def tw10294001059046285156 := 0
def tw10249757817560459412 := 0
def tw10143305392134289249 := 0
def tw10130746313291321538 := 0
end PySem.W.Fast
open PySem PySem.W PyProof.Rows
set_option maxRecDepth 100000 in
set_option maxHeartbeats 0 in
theorem PySem.Challenge.cw_roadsettings_k68_programs_read_holds : PySem.Challenge.rw_roadsettings_k68_programs_read.Holds := by
  w_on; o_law; k_head; (case hw => w_witness2)
  k_fill
  refine' K68.walk (l := PySem.Challenge.rw_roadsettings_k68_programs_read) (ts := []) rfl rfl (fun w h Y => ⟨PySem.W.kIn_of Y, fun b hb => absurd hb (by simp)⟩) ?hK  ?F
  case hK =>
    intro w b hb
    exact absurd hb (by simp)
  case F =>
    intro w mg fa h KX G hmg
    refine' K68.all_mk KX G hmg ?_ ?_ ?_ ?_ ?_ ?_ ?_ ?_ ?_ ?_ ?_ ?_ ?_ ?_ ?_ ?_ ?_ ?_ ?_ ?_ ?_ ?_ ?_ ?_ ?_ ?_ ?_ ?_ ?_ ?_ ?_ ?_ ?_ ?_ ?_ ?_ ?_ ?_ ?_ ?_ ?_ ?_ ?_ ?_ ?_ ?_ ?_ ?_ ?_ ?_ ?_ ?_ ?_ ?_ ?_ ?_ ?_ ?_ ?_ ?_ ?_ ?_ ?_ ?_ ?_ ?_ ?_ ?_ ?_ ?_ ?_ ?_ ?_ ?_ ?_ ?_
    all_goals try (first | refine ⟨⟨by k_is, by k_is, by k_is⟩, ⟨_, _, _, _, _, _, _, _, _, rfl, by k_is, by k_is⟩, by k_is⟩ | refine ⟨by k_is, ⟨_, _, _, _, _, _, _, _, _, rfl, by k_is, by k_is⟩, by k_is⟩ | refine ⟨by k_is, ⟨by k_is, by k_is, by k_is, by k_is⟩, by k_is, by k_is⟩ | refine ⟨⟨by k_is, by k_is, by k_is⟩, ⟨_, _, _, _, _, _, _, _, rfl, by k_is, by k_is⟩, by k_is, by kernel_rfl⟩ | refine ⟨by k_is, ⟨_, _, _, _, _, _, _, _, rfl, by k_is, by k_is⟩, by k_is, by kernel_rfl⟩ | (show _ = _; first | k_is | kernel_rfl))
