import PyProof.Rows.All
import Wide.All
import OpenK.AllK
import Wide.FinOn
import Lean
import PyProof.EqAt
import PyProof.EqKinds
import PyProof.TupleCall
import PyProof.AutoListH
import PyProof.ExcBaseAll.ValueError
import PyProof.ExcAttrAll.ValueError
import PyProof.Logic
import PyProof.StrReplace2
import PySem.Challenge.RW_roadsettings_k72_sheets_read
set_option Elab.async false
set_option linter.all false
set_option maxRecDepth 100000
namespace L2
open PySem PySem.Spec PyProof.Rows
abbrev ZU:=Sum Int Str
def VG:ZU→Value→Bool
 | .inl k,v=>Value.isInt k v
 | .inr x,v=>Value.isStrOf x v
def keyH (w:World):ZU→Int
 | .inl k=>hashInt k
 | .inr x=>hashStr w x
theorem YD:∀{k:ZU}{v:Value},VG k v=true→(∃ i t,k=Sum.inl i∧v=Value.int i t)∨(∃ x t,k=Sum.inr x∧v=Value.str x t)
 | .inl i,v,h=>by
   obtain ⟨t,e⟩:=Value.isInt_shape (k:=i) (v:=v) h
   exact .inl ⟨i,t,rfl,e⟩
 | .inr x,v,h=>by
   obtain ⟨t,e⟩:=Value.isStrOf_shape (x:=x) (v:=v) h
   exact .inr ⟨x,t,rfl,e⟩
theorem ZfJ (i:Int)(t:Tok):VG (.inl i) (.int i t)=true:=by simp [VG,Value.isInt]
theorem Zgm (x:Str)(t:Tok):VG (.inr x) (.str x t)=true:=by simp [VG,Value.isStrOf]
theorem ZkH (a b:Int):decide ((Sum.inl a:ZU)=Sum.inl b)=(a == b):=by
 by_cases e:a=b
 · subst e;simp
 · have h:¬ (Sum.inl a:ZU)=Sum.inl b:=fun q=>e (Sum.inl.inj q)
   rw [decide_eq_false h]
   exact (beq_eq_false_iff_ne.mpr e).symm
theorem Zli (a b:Str):decide ((Sum.inr a:ZU)=Sum.inr b)=decide (a=b):=by
 by_cases e:a=b
 · subst e;simp
 · have h:¬ (Sum.inr a:ZU)=Sum.inr b:=fun q=>e (Sum.inr.inj q)
   rw [decide_eq_false h,decide_eq_false e]
theorem Zlb (a:Int)(b:Str):decide ((Sum.inl a:ZU)=Sum.inr b)=false:=decide_eq_false (fun q=>nomatch q)
theorem ZkL (a:Str)(b:Int):decide ((Sum.inr a:ZU)=Sum.inl b)=false:=decide_eq_false (fun q=>nomatch q)
def Yt (prog:Program)(w:World):PySem.KeyKind prog w ZU where
 is:=VG
 hash:=keyH w
 inj := fun v a b ha hb=>by
   rcases YD ha with ⟨i,t,rfl,rfl⟩ | ⟨x,t,rfl,rfl⟩
   · rcases YD hb with ⟨j,u,rfl,e⟩ | ⟨y,u,rfl,e⟩
     · injection e with e1 _;rw [e1]
     · exact nomatch e
   · rcases YD hb with ⟨j,u,rfl,e⟩ | ⟨y,u,rfl,e⟩
     · exact nomatch e
     · injection e with e1 _;rw [e1]
 byValue:=fun k v h=>by
   rcases YD h with ⟨i,t,rfl,rfl⟩ | ⟨x,t,rfl,rfl⟩<;>rfl
 pyHash:=fun hv h=>by
   rcases YD hv with ⟨i,t,rfl,rfl⟩ | ⟨x,t,rfl,rfl⟩
   · exact wpAny_pyHash_int h
   · exact wpAny_pyHash_str h
 eqBool:=fun hu hv h=>by
   rcases YD hu with ⟨i,t,rfl,rfl⟩ | ⟨x,t,rfl,rfl⟩
   · rcases YD hv with ⟨j,u,rfl,rfl⟩ | ⟨y,u,rfl,rfl⟩
     · rw [ZkH] at h;exact wpAny_eqBool_int h
     · rw [Zlb] at h;exact SeqAt.EqAt.int_str i t y u _ _ _ _ h
   · rcases YD hv with ⟨j,u,rfl,rfl⟩ | ⟨y,u,rfl,rfl⟩
     · rw [ZkL] at h;exact SeqAt.EqAt.str_int x t j u _ _ _ _ h
     · rw [Zli] at h;exact wpAny_eqBool_str h
 «strs»:=fun k x t v h=>by
   rcases YD h with ⟨i,u,rfl,e⟩ | ⟨y,u,rfl,e⟩
   · exact nomatch e
   · injection e with e1 _
     subst e1
     cases v<;>rfl
theorem Zdh (prog:Program)(w:World)(i:Int)(t:Tok):(Yt prog w).is (.inl i) (.int i t)=true:=ZfJ i t
theorem Zdi (prog:Program)(w:World)(x:Str)(t:Tok):(Yt prog w).is (.inr x) (.str x t)=true:=Zgm x t
end L2
namespace L2
open PySem PySem.Spec PyProof.Rows
inductive V where
 | non | bl (b:Bool) | int (i:Int) | str (x:Str) | byt (b:Array UInt8) | flt (b:UInt64) | ref (a:Addr) | ty (n:String)
 deriving DecidableEq
def RelV:V→Value→Prop
 | .non,u=>u=Value.none
 | .bl b,u=>u=Value.bool b
 | .int i,u=>∃ t,u=Value.int i t
 | .str x,u=>∃ t,u=Value.str x t
 | .byt b,u=>∃ t,u=Value.bytes b t
 | .flt b,u=>∃ t,u=Value.float b t
 | .ref a,u=>u=Value.ref a
 | .ty n,u=>u=Value.type n
abbrev Vals:List V→List Value→Prop:=Paired RelV
theorem Vals.length {xs:List V}{us:List Value}(r:Vals xs us):xs.length=us.length:=Paired.length r
theorem Vals.get:∀{xs:List V}{us:List Value}{i:Nat}{x:V},Vals xs us→xs[i]?=some x→∃ u,us[i]?=some u∧RelV x u
 | _,_,_,_,.nil,e=>by simp at e
 | _,_,0,_,.cons r _,e=>by simp at e;subst e;exact ⟨_,rfl,r⟩
 | _,_,i+1,x,.cons _ t,e=>by
   obtain ⟨u,h1,h2⟩:=Vals.get (i:=i) (x:=x) t (by simpa using e)
   exact ⟨u,by simpa using h1,h2⟩
theorem Vals.set {x:V}{u:Value}(r:RelV x u):∀{xs:List V}{us:List Value}(i:Nat),Vals xs us→Vals (xs.set i x) (us.set i u)
 | _,_,_,.nil=>.nil
 | _,_,0,.cons _ t=>.cons r t
 | _,_,i+1,.cons q t=>.cons q (Vals.set r i t)
theorem Vals.append:∀{xs ys:List V}{us ws:List Value},Vals xs us→Vals ys ws→Vals (xs++ys) (us++ws)
 | _,_,_,_,.nil,s=>s
 | _,_,_,_,.cons r t,s=>.cons r (Vals.append t s)
theorem Vals.take:∀{xs:List V}{us:List Value}(n:Nat),Vals xs us→Vals (xs.take n) (us.take n)
 | _,_,0,_=>.nil
 | _,_,_+1,.nil=>.nil
 | _,_,n+1,.cons r t=>.cons r (Vals.take n t)
theorem Vals.drop:∀{xs:List V}{us:List Value}(n:Nat),Vals xs us→Vals (xs.drop n) (us.drop n)
 | _,_,0,r=>r
 | _,_,_+1,.nil=>.nil
 | _,_,n+1,.cons _ t=>Vals.drop n t
def RelO:Option V→Option Value→Prop
 | some v,some u=>RelV v u
 | none,none=>True
 | _,_=>False
def KV {κ:Type}:List (κ×V)→List (κ×Value)→Prop:=Paired fun (p:κ×V) (q:κ×Value)=>p.1=q.1∧RelV p.2 q.2
def kV:ZU→V
 | .inl i=>.int i
 | .inr x=>.str x
inductive HO where
 | lst (xs:List V)
 | tup (xs:List V)
 | dK (kvs:List (ZU×V)) | dT (kvs:List (List ZU×V))
 | set (S:Int→Bool) (n:Nat)
 | ins (C dx:Addr) (fs:List (Str×V))
 | own (x:Addr)
 | xd (fs:List (Str×V))
 | met (f x:Addr)
 | rng (lo hi:Int)
 | frz (o:Obj) (u:HO)
 | tbl (ps:Array Value)
 | ext (φ:Heap→Prop)
abbrev Hp:=Addr→Option HO
def upd (H:Hp)(a:Addr)(o:HO):Hp:=fun b=>if b=a then some o else H b
theorem Zc {H:Hp}{a:Addr}{o:HO}:upd H a o a=some o:=by unfold upd;rw [if_pos rfl]
theorem Zo {H:Hp}{a b:Addr}{o:HO}(h:b≠a):upd H a o b=H b:=by unfold upd;rw [if_neg h]
theorem ZiT {H:Hp}{a:Addr}{o u:HO}:upd (upd H a o) a u=upd H a u:=by
 funext b;unfold upd;split<;>rfl
theorem WN {H:Hp}{a b:Addr}{o u:HO}(h:H a=some o)(h':H b=some u)(d:o≠u):a≠b:=by
 intro e;subst e;rw [h] at h';exact d (Option.some.inj h')
theorem Zy {H:Hp}{a b:Addr}{o:HO}(h:H a=some o)(h':H b=none):a≠b:=by
 intro e;subst e;rw [h] at h';cases h'
section
variable (P:Program)(w:World)
def ObjOk (H:Hp)(h:Heap)(a:Addr):HO→Prop
 | .lst xs=>xs.length≤sizeLine∧∃ (its:List Value) (n:Nat),Vals xs its∧h.get? a=some { cls:=.type "list",data:=.seq its.toArray n }
 | .tup xs=>xs.length≤sizeLine∧∃ its:List Value,Vals xs its∧IsTup h a its.toArray
 | .dK kvs=>kvs.length≤sizeLine∧(a == sysModules)=false∧∃ vs,KV kvs vs∧h.DictOf (Yt P w) a vs
 | .dT kvs=>kvs.length≤sizeLine∧(a == sysModules)=false∧∃ xs:List (List ZU×Addr×Value),
     Paired (fun (p:List ZU×V) (q:List ZU×Addr×Value)=>p.1=q.1∧H q.2.1=some (.tup (p.1.map kV))∧RelV p.2 q.2.2) kvs xs ∧
     ∃ o es ep,h.get? a=some o∧o.ExactDict∧o.data=.dict es ep∧es.toList=xs.map (entryOfKey (tupleKind (Yt P w)))∧(xs.map (·.1)).Nodup
 | .set S n=>h.SetOf (intKind P w) a S n
 | .ins C dx fs=>H dx=some (.own a)∧fs.length≤1000∧dx≠a∧h.get? a=some (PySem.W.instObj C dx) ∧
     ∃ mA,h.Ns1 dx mA∧(∀ f,RelO (fs.lookup f) (mA f))∧PySem.Within mA (fs.map (·.1))
 | .own _=>∃ o,h.get? a=some o
 | .xd fs=>∃ mA,h.Ns1 a mA∧∀ f,RelO (fs.lookup f) (mA f)
 | .rng lo hi=>∃ t u v,h.get? a=some { cls:=.type "range",data:=.fields #[.int lo t,.int hi u,.int 1 v] }
 | .frz o u=>h.get? a=some o∧ObjOk H h a u
 | .tbl ps=>h.get? a=some { cls:=.none,data:=.fields ps }
 | .met f x=>h.get? a=some (PySem.W.methodObj (.ref f) (.ref x))
 | .ext φ=>φ h∧(∃ o,h.get? a=some o)∧∀ h1 h2:Heap,φ h1→(∀ o,h1.get? a=some o→h2.get? a=some o)→φ h2
def HOk (H:Hp)(h:Heap):Prop:=∀ a o,H a=some o→ObjOk P w H h a o
end
section
variable {P:Program}{w:World}{H H':Hp}{h h':Heap}{a:Addr}{o:HO}
theorem ObjOk.lt (x:ObjOk P w H h a o):a < h.objs.size:=by
 cases o with
 | lst xs=>obtain ⟨_,_,_,_,e⟩:=x;exact Heap.lt_size e
 | tup xs=>obtain ⟨_,_,_,p⟩:=x;exact p.lt
 | dK kvs=>obtain ⟨_,_,_,_,o,_,_,e,_⟩:=x;exact Heap.lt_size e
 | dT kvs=>obtain ⟨_,_,_,_,o,_,_,e,_⟩:=x;exact Heap.lt_size e
 | set S n=>obtain ⟨o,_,_,_,e,_⟩:=x;exact Heap.lt_size e
 | ins C dx fs=>obtain ⟨_,_,_,e,_⟩:=x;exact Heap.lt_size e
 | own y=>obtain ⟨_,e⟩:=x;exact Heap.lt_size e
 | xd fs=>obtain ⟨_,⟨_,_,_,e,_⟩,_⟩:=x;exact Heap.lt_size e
 | rng lo hi=>obtain ⟨_,_,_,e⟩:=x;exact Heap.lt_size e
 | frz ob u=>obtain ⟨e,_⟩:=x;exact Heap.lt_size e
 | tbl ps=>exact Heap.lt_size (show h.get? a=some _ from x)
 | met f y=>exact Heap.lt_size (show h.get? a=some _ from x)
 | ext φ=>obtain ⟨_,⟨_,e⟩,_⟩:=x;exact Heap.lt_size e
theorem Paired.mapP {α β:Type}{F G:α→β→Prop}:∀{l₁:List α}{l₂:List β},Paired F l₁ l₂→(∀ a b,F a b→G a b)→Paired G l₁ l₂
 | _,_,.nil,_=>.nil
 | _,_,.cons r t,f=>.cons (f _ _ r) (Paired.mapP t f)
theorem ObjOk.stay (x:ObjOk P w H h a o)(k:∀ b u,(b=a∨H b=some (.own a))→h.get? b=some u→h'.get? b=some u)
   (ho:∀ b,H b=some (.own a)→H' b=some (.own a)) (ht:∀ b xs,H b=some (.tup xs)→H' b=some (.tup xs)):ObjOk P w H' h' a o:=by
 induction o with
 | lst xs=>obtain ⟨z,its,n,r,e⟩:=x;exact ⟨z,its,n,r,k _ _ (.inl rfl) e⟩
 | tup xs=>obtain ⟨z,its,r,ob,e,c⟩:=x;exact ⟨z,its,r,ob,k _ _ (.inl rfl) e,c⟩
 | dK kvs=>obtain ⟨z,y,vs,r,ob,es,ep,e,c⟩:=x;exact ⟨z,y,vs,r,ob,es,ep,k _ _ (.inl rfl) e,c⟩
 | dT kvs =>
   obtain ⟨z,y,xs,r,ob,es,ep,e,c⟩:=x
   exact ⟨z,y,xs,Paired.mapP r fun p q z=>⟨z.1,ht _ _ z.2.1,z.2.2⟩,ob,es,ep,k _ _ (.inl rfl) e,c⟩
 | set S n=>obtain ⟨ob,es,ep,t,e,c⟩:=x;exact ⟨ob,es,ep,t,k _ _ (.inl rfl) e,c⟩
 | ins C dx fs =>
   obtain ⟨d,z,ne,e,mA,⟨od,es,ep,e2,c⟩,r⟩:=x
   exact ⟨ho _ d,z,ne,k _ _ (.inl rfl) e,mA,⟨od,es,ep,k _ _ (.inr d) e2,c⟩,r⟩
 | own y=>obtain ⟨ob,e⟩:=x;exact ⟨ob,k _ _ (.inl rfl) e⟩
 | xd fs=>obtain ⟨mA,⟨od,es,ep,e,c⟩,r⟩:=x;exact ⟨mA,⟨od,es,ep,k _ _ (.inl rfl) e,c⟩,r⟩
 | rng lo hi=>obtain ⟨t,u,v,e⟩:=x;exact ⟨t,u,v,k _ _ (.inl rfl) e⟩
 | frz ob u ih=>obtain ⟨e,q⟩:=x;exact ⟨k _ _ (.inl rfl) e,ih q⟩
 | tbl ps =>
   have e:h.get? a=some { cls:=.none,data:=.fields ps }:=x
   show h'.get? a=some { cls:=.none,data:=.fields ps }
   exact k a _ (.inl rfl) e
 | met f y =>
   have e:h.get? a=some (PySem.W.methodObj (.ref f) (.ref y)):=x
   show h'.get? a=some (PySem.W.methodObj (.ref f) (.ref y))
   exact k a _ (.inl rfl) e
 | ext φ=>obtain ⟨p,⟨o,e⟩,st⟩:=x;exact ⟨st _ _ p fun o q=>k _ _ (.inl rfl) q,⟨o,k _ _ (.inl rfl) e⟩,st⟩
theorem HOk.lt (x:HOk P w H h)(e:H a=some o):a < h.objs.size:=(x a o e).lt
theorem HOk.fresh (x:HOk P w H h)(e:h.objs.size≤a):H a=none:=by
 cases q:H a with
 | none=>rfl
 | some u=>exact absurd (Nat.lt_of_lt_of_le (x.lt q) e) (Nat.lt_irrefl _)
theorem HOk.kept (x:HOk P w H h)(k:∀ b u,h.get? b=some u→h'.get? b=some u):HOk P w H h':=fun a o e =>
 (x a o e).stay (fun b u _ q=>k b u q) (fun _ q=>q) fun _ _ q=>q
theorem HOk.laid (x:HOk P w H h)(k:∀ b u,h.get? b=some u→h'.get? b=some u)(hp:h.objs.size≤a)(new:ObjOk P w (upd H a o) h' a o):HOk P w (upd H a o) h':=fun b u e=>by
 have hn:=x.fresh hp
 by_cases hb:b=a
 · subst hb;rw [Zc] at e;cases e;exact new
 · rw [Zo hb] at e
   exact (x b u e).stay (fun c v _ q=>k c v q) (fun c q=>by rw [Zo (Zy q hn)];exact q) fun c xs q=>by rw [Zo (Zy q hn)];exact q
end
def Rd (H:Hp)(a:Addr)(u:HO):Prop:=H a=some u∨∃ o,H a=some (.frz o u)
theorem Rd.ok {P:Program}{w:World}{H:Hp}{h:Heap}{a:Addr}{u:HO}(r:Rd H a u)(x:HOk P w H h):ObjOk P w H h a u:=by
 rcases r with r | ⟨o,r⟩
 · exact x a u r
 · obtain ⟨_,q⟩:=x a _ r
   exact q
def Mut:Option HO→Prop
 | some (.lst _)=>True
 | some (.dK _)=>True
 | some (.dT _)=>True
 | some (.set _ _)=>True
 | some (.ins _ _ _)=>True
 | some (.ext _)=>True
 | _=>False
section
variable {P:Program}{w:World}{H:Hp}{h h':Heap}{x e:Addr}{o':HO}
theorem HOk.write (ok:HOk P w H h)(mu:Mut (H x))(he:e=x∨H e=some (.own x))(k:∀ b u,b≠e→h.get? b=some u→h'.get? b=some u)(heo:∃ u,h'.get? e=some u)
   (new:ObjOk P w (upd H x o') h' x o'):HOk P w (upd H x o') h':=fun b u q=>by
 have nown:∀ c y,H c=some (.own y)→c≠x:=fun c y r z=>by subst z;rw [r] at mu;exact mu
 have ntup:∀ c xs,H c=some (.tup xs)→c≠x:=fun c xs r z=>by subst z;rw [r] at mu;exact mu
 by_cases hb:b=x
 · subst hb;rw [Zc] at q;cases q;exact new
 · rw [Zo hb] at q
   by_cases hbe:b=e
   · have q':H b=some (.own x):=by
       rcases he with z | z
       · exact absurd (hbe.trans z) hb
       · rw [hbe];exact z
     rw [q] at q';cases q'
     obtain ⟨v,hv⟩:=heo
     exact ⟨v,by rw [hbe];exact hv⟩
   · refine (ok b u q).stay (fun c v hc r=>k c v ?_ r) (fun c r=>by rw [Zo (nown c b r)];exact r) fun c xs r=>by rw [Zo (ntup c xs r)];exact r
     rcases hc with rfl | hc
     · exact hbe
     · rintro rfl
       rcases he with z | z
       · exact nown c b hc z
       · rw [hc] at z;cases z;exact hb rfl
end
structure Un (fs ex:List Addr)(H H':Hp)(h h':Heap):Prop where
 keep:∀ b o,h.get? b=some o→H b=none→b ∉ fs→b ∉ ex→h'.get? b=some o
 slot:∀ b o,h.get? b=some o→H b=none→b∈fs→b ∉ ex→∃ sl,h'.get? b=some { o with slots:=sl }
 free:∀ b o,h.get? b=some o→H b=none→b ∉ ex→H' b=none
 there:∀ b o,h.get? b=some o→b ∉ ex→∃ o',h'.get? b=some o'
 tups:∀ b xs,H b=some (.tup xs)→H' b=some (.tup xs)
 frzs:∀ b o u,H b=some (.frz o u)→H' b=some (.frz o u)
 tbls:∀ b ps,H b=some (.tbl ps)→∃ more,H' b=some (.tbl (ps++more))
section
variable {fs fs' ex ex':List Addr}{H H1 H2:Hp}{h h1 h2 h':Heap}{a x e:Addr}{o:HO}
theorem Un.any (u:Un fs ex H H1 h h1){b:Addr}{ob:Obj}(q:h.get? b=some ob)(n:H b=none)(hx:b ∉ ex):∃ sl,h1.get? b=some { ob with slots:=sl }:=by
 by_cases hb:b∈fs
 · exact u.slot b ob q n hb hx
 · exact ⟨ob.slots,u.keep b ob q n hb hx⟩
theorem Un.kept (k:∀ b u,h.get? b=some u→h'.get? b=some u):Un fs ex H H h h' :=
 ⟨fun b ob q _ _ _=>k b ob q,fun b ob q _ _ _=>⟨ob.slots,k b ob q⟩,fun _ _ _ n _=>n,fun b ob q _=>⟨ob,k b ob q⟩,fun _ _ q=>q,fun _ _ _ q=>q,fun _ ps q=>⟨#[],by rw [q];simp⟩⟩
theorem Un.refl:Un fs ex H H h h:=Un.kept fun _ _ q=>q
theorem Un.laid (k:∀ b u,h.get? b=some u→h'.get? b=some u)(hp:h.objs.size≤a)(hn:H a=none):Un fs ex H (upd H a o) h h' where
 keep:=fun b u q _ _ _=>k b u q
 slot:=fun b u q _ _ _=>⟨u.slots,k b u q⟩
 free:=fun b u q n _=>by rw [Zo (Nat.ne_of_lt (Nat.lt_of_lt_of_le (Heap.lt_size q) hp))];exact n
 there:=fun b u q _=>⟨u,k b u q⟩
 tups:=fun b xs q=>by rw [Zo (Zy q hn)];exact q
 frzs:=fun b u xs q=>by rw [Zo (Zy q hn)];exact q
 tbls:=fun b ps q=>⟨#[],by rw [Zo (Zy q hn),q];simp⟩
theorem Un.write (mu:Mut (H x))(he:e=x∨H e=some (.own x))(k:∀ b u,b≠e→h.get? b=some u→h'.get? b=some u)(heo:∃ u,h'.get? e=some u):Un fs ex H (upd H x o) h h':=by
 have hx:∀ b,H b=none→b≠x:=fun b n z=>by subst z;rw [n] at mu;exact mu
 have hb:∀ b,H b=none→b≠e:=fun b n z=>by
   subst z
   rcases he with r | r
   · exact hx b n r
   · rw [n] at r;cases r
 have hm:∀ b u,H b=some u→¬ Mut (some u)→b≠x:=fun b u q nm z=>by subst z;rw [q] at mu;exact nm mu
 refine ⟨fun b u q n _ _=>k b u (hb b n) q,fun b u q n _ _=>⟨u.slots,k b u (hb b n) q⟩,fun b u q n _=>by rw [Zo (hx b n)];exact n,fun b u q _=>?_,
   fun b xs q=>by rw [Zo (hm b _ q fun z=>z)];exact q,fun b u xs q=>by rw [Zo (hm b _ q fun z=>z)];exact q,fun b ps q=>⟨#[],by rw [Zo (hm b _ q fun z=>z),q];simp⟩⟩
 by_cases hbe:b=e
 · subst hbe;exact heo
 · exact ⟨u,k b u hbe q⟩
end
def trk (h:Heap)(H:Hp):List Addr:=(List.range h.objs.size).filter fun a=>(H a).isSome
def UD (h:Heap)(H:Hp):Heap:=PySem.W.hideAll h (trk h H)
theorem Zgt (h:Heap)(H:Hp):(UD h H).objs.size=h.objs.size:=PySem.W.hideAll_size _ _
theorem ZgJ {h:Heap}{H:Hp}{b:Addr}{o:Obj}(e:h.get? b=some o)(n:H b=none):(UD h H).get? b=some o :=
 PySem.W.hideAll_get _ e fun hm=>by
   have q:(H b).isSome=true:=(List.mem_filter.mp hm).2
   rw [n] at q;simp at q
theorem ZiL {h:Heap}{H:Hp}{b:Addr}{o:Obj}(e:(UD h H).get? b=some o):h.get? b=some o∧H b=none:=by
 have e':h.get? b=some o:=PySem.W.of_hideAll (trk h H) e
 refine ⟨e',?_⟩
 cases q:H b with
 | none=>rfl
 | some x =>
   have hm:b∈trk h H:=List.mem_filter.mpr ⟨List.mem_range.mpr (Heap.lt_size e'),by simp [q]⟩
   have z:(UD h H).get? b=none:=PySem.W.hideAll_none (trk h H) hm
   rw [z] at e;cases e
end L2
namespace L2
open PySem PySem.Spec PyProof.Rows
structure Mod (K:PySem.W.Frag)(mg:Str→Option Value)(base:Heap):Prop where
 kin:K.In base
 glob:base.Ns mainGlobals mg
 blt:∃ mb,base.Ns builtinsNs mb∧∀ x:Str,x≠"__name__"→mb x=bootBuiltins x
 nolimit:base.NoLimit
structure Cx where
 prog:Program
 w:World
 K:PySem.W.Frag
 mg:Str→Option Value
 base:Heap
 A:Around
 N:List Str
 s₀:Shared
 H₀:Hp
 env:Env
 outer:List Env
 stack:List Env
 ex:List Addr
 fn:Str→Bool
 calm:Bool
 pn:List (Addr×Obj)
 xe:Value→Shared→Prop
def Vx (l:List Env):List Addr:=l.filterMap (·.frame)
abbrev Cx.fs (X:Cx):List Addr:=Vx X.outer
def Vis (sc:Scope)(x:Str):Prop:=sc.names.lookup x=some .local∨sc.names.lookup x=some .cell∨sc.names.lookup x=some .free
def Loc (sc:Scope)(x:Str):Prop:=sc.names.lookup x=some .local∨sc.names.lookup x=some .cell
def Look (env:Env)(h:Heap)(m:Str→Option Value)(x:Str)(u:Value):Prop :=
 (env.kindOf x=some .local∧m x=some u)∨((env.kindOf x=some .cell∨env.kindOf x=some .free)∧∃ c,env.cells.lookup x=some c∧h.IsCell c (some u))
structure Cx.Ok (X:Cx):Prop where
 mod:Mod X.K X.mg X.base
 kind:X.env.scope.kind=.function
 glob:X.env.globals=mainGlobals
 blt:X.env.builtins=builtinsNs
 above:X.s₀.heap.objs.size≤X.env.locals
 inj:∀ x y c,X.env.cells.lookup x=some c→X.env.cells.lookup y=some c→x=y
 has:∀ x,(X.env.kindOf x=some .cell∨X.env.kindOf x=some .free)→∃ c,X.env.cells.lookup x=some c
 cab:∀ x c,X.fn x=true→X.env.cells.lookup x=some c→X.s₀.heap.objs.size≤c
 hd:X.calm=true→X.A.handled=none
 frames:X.A.frames=some X.stack
 stk:X.stack=X.outer∨(X.stack=X.env::X.outer∧X.env.frame=some X.env.locals)
 exf:∀ b∈X.ex,b≠X.env.locals∧∀ x c,X.env.cells.lookup x=some c→c≠b
 bs:∀ b o,X.base.get? b=some o→X.s₀.heap.get? b=some o∧X.H₀ b=none
 bsz:X.base.objs.size≤X.s₀.heap.objs.size
 noex:∀ b o,X.base.get? b=some o→b ∉ X.ex
 exfs:∀ b∈X.ex,b ∉ X.fs
 funs:X.s₀.heap.FunFrames X.base X.outer
 frf:∀ b∈X.fs,X.H₀ b=none
structure Inv (X:Cx)(pins:List (Addr×Obj))(σ:List (Option V))(H:Hp)(s:Shared):Prop where
 ok:X.Ok
 os:s.os=X.s₀.os
 bare:AllBare s.gens
 base:Un X.fs X.ex X.H₀ H X.s₀.heap s.heap
 loc:∃ m,s.heap.Ns X.env.locals m∧∀ (i:Nat) (x:Str) (v:V),X.N[i]?=some x→σ[i]?=some (some v)→Vis X.env.scope x→∃ u,RelV v u∧Look X.env s.heap m x u
 cell:∀ x c,X.env.cells.lookup x=some c→∃ v,s.heap.IsCell c v
 free:H X.env.locals=none
 freeC:∀ x c,X.env.cells.lookup x=some c→H c=none
 pin:∀ p∈X.pn++pins,s.heap.get? p.1=some p.2∧H p.1=none∧p.1≠X.env.locals∧p.1 ∉ X.fs∧∀ v,p.2.data≠.cell v
 hok:HOk X.prog X.w H s.heap
 len:σ.length=X.N.length
section
variable {X:Cx}{pins:List (Addr×Obj)}{σ:List (Option V)}{H H':Hp}{s:Shared}{h':Heap}
theorem Cx.Ok.nofr (ok:X.Ok){b:Addr}{o:Obj}(e:X.base.get? b=some o):b ∉ X.fs:=fun hb=>by
 have:=(ok.funs.mem hb).1
 rw [e] at this;cases this
theorem Inv.bs (I:Inv X pins σ H s):∀ b o,X.base.get? b=some o→s.heap.get? b=some o∧H b=none:=fun b o e =>
 ⟨I.base.keep b o (I.ok.bs b o e).1 (I.ok.bs b o e).2 (I.ok.nofr e) (I.ok.noex b o e),I.base.free b o (I.ok.bs b o e).1 (I.ok.bs b o e).2 (I.ok.noex b o e)⟩
theorem Inv.bk (I:Inv X pins σ H s):∀ b o,X.base.get? b=some o→s.heap.get? b=some o:=fun b o e=>(I.bs b o e).1
theorem Inv.mod (I:Inv X pins σ H s):Mod X.K X.mg X.base:=I.ok.mod
theorem Inv.kIn (I:Inv X pins σ H s):X.K.In s.heap:=I.ok.mod.kin.keeps I.bk
theorem Inv.nolimit (I:Inv X pins σ H s):s.heap.NoLimit:=I.ok.mod.nolimit.keeps I.bk
theorem Inv.lt (I:Inv X pins σ H s):X.env.locals < s.heap.objs.size:=let ⟨_,hn,_⟩:=I.loc;hn.lt
theorem Inv.sz (I:Inv X pins σ H s):X.s₀.heap.objs.size≤s.heap.objs.size:=Nat.le_trans I.ok.above (Nat.le_of_lt I.lt)
theorem Inv.nofs (I:Inv X pins σ H s){a:Addr}(h:s.heap.objs.size≤a):a ∉ X.fs:=fun hb=>by
 obtain ⟨_,o,ho,_⟩:=I.ok.funs.mem hb
 exact absurd (Nat.lt_of_lt_of_le (Heap.lt_size ho) (Nat.le_trans I.sz h)) (Nat.lt_irrefl _)
theorem Inv.cne (I:Inv X pins σ H s):∀ x c,X.env.cells.lookup x=some c→c≠X.env.locals:=fun x c e z=>by
 obtain ⟨v,o,ho,hd⟩:=I.cell x c e
 obtain ⟨m,⟨o',es,ep,ho',hd',_⟩,_⟩:=I.loc
 rw [z,ho'] at ho;cases ho;rw [hd'] at hd;cases hd
theorem Inv.funs (I:Inv X pins σ H s):s.heap.FunFrames X.base X.outer:=by
 have all:∀ (l:List Env),(∀ b∈Vx l,b∈X.fs)→X.s₀.heap.FunFrames X.base l→s.heap.FunFrames X.base l:=by
   intro l
   induction l with
   | nil=>intro _ _;trivial
   | cons env r ih =>
     intro hs hl
     obtain ⟨hk,⟨L,o,hf,hn,ho,hd⟩,hr⟩:=hl
     have hL:L∈X.fs:=hs L (by unfold Vx;rw [List.filterMap_cons,hf];exact List.mem_cons_self)
     obtain ⟨sl,e⟩:=I.base.slot L o ho (I.ok.frf L hL) hL fun z=>I.ok.exfs L z hL
     exact ⟨hk,⟨L,_,hf,hn,e,hd⟩,ih (fun b hb=>hs b (by unfold Vx;rw [List.filterMap_cons,hf];exact List.mem_cons_of_mem _ hb)) hr⟩
 exact all X.outer (fun _ hb=>hb) I.ok.funs
theorem Inv.stack (I:Inv X pins σ H s):s.heap.FunFrames X.base X.stack:=by
 rcases I.ok.stk with e | ⟨e,hf⟩
 · rw [e];exact I.funs
 · rw [e]
   obtain ⟨m,hn,_⟩:=I.loc
   refine .cons (by rw [I.ok.kind];decide) hf hn ?_ I.funs
   exact Heap.get?_none_of_le (Nat.le_trans I.ok.bsz I.ok.above)
theorem Inv.stkSub (I:Inv X pins σ H s):∀ b∈Vx X.stack,b∈X.env.locals::X.fs:=fun b hb=>by
 rcases I.ok.stk with e | ⟨e,hf⟩
 · rw [e] at hb;exact List.mem_cons_of_mem _ hb
 · rw [e] at hb
   unfold Vx at hb
   rw [List.filterMap_cons,hf] at hb
   exact hb
theorem Inv.stkFree (I:Inv X pins σ H s):∀ b∈Vx X.stack,H b=none:=fun b hb=>by
 rcases List.mem_cons.mp (I.stkSub b hb) with e | hb
 · rw [e];exact I.free
 · obtain ⟨_,o,ho,_⟩:=I.ok.funs.mem hb
   exact I.base.free b o ho (I.ok.frf b hb) fun z=>I.ok.exfs b z hb
theorem Inv.step {g':Array GenState}{t':Nat}{d':Drawn}{ch:List Addr}(I:Inv X pins σ H s)
   (hch:∀ b∈ch,(b∈X.ex∨X.s₀.heap.objs.size≤b)∧b≠X.env.locals∧(∀ x c,X.env.cells.lookup x=some c→c≠b)∧∀ p∈X.pn++pins,p.1≠b)
   (keep:∀ b o,b≠X.env.locals→b ∉ X.fs→b ∉ ch→s.heap.get? b=some o→H b=none→h'.get? b=some o)
   (slot:∀ b o,b≠X.env.locals→b∈X.fs→b ∉ ch→s.heap.get? b=some o→H b=none→∃ sl,h'.get? b=some { o with slots:=sl }) (free:∀ b o,b ∉ ch→s.heap.get? b=some o→H b=none→H' b=none)
   (there:∀ b o,b ∉ ch→s.heap.get? b=some o→∃ o',h'.get? b=some o')
   (tups:∀ b xs,H b=some (.tup xs)→H' b=some (.tup xs)) (frzs:∀ b o u,H b=some (.frz o u)→H' b=some (.frz o u)) (tbls:∀ b ps,H b=some (.tbl ps)→∃ more,H' b=some (.tbl (ps++more)))
   (ns:∀ m,s.heap.Ns X.env.locals m→h'.Ns X.env.locals m) (hok:HOk X.prog X.w H' h') (hg:AllBare g') :
   Inv X pins σ H' { s with heap:=h',gens:=g',drawn:=d',toks:=t' }:=by
 have neL:∀ b o,X.s₀.heap.get? b=some o→b≠X.env.locals:=fun b o e=>Nat.ne_of_lt (Nat.lt_of_lt_of_le (Heap.lt_size e) I.ok.above)
 have neC:∀ b o,X.s₀.heap.get? b=some o→b ∉ X.ex→b ∉ ch:=fun b o e hx hb=>by
   rcases (hch b hb).1 with z | z
   · exact hx z
   · exact absurd (Nat.lt_of_lt_of_le (Heap.lt_size e) z) (Nat.lt_irrefl _)
 have cellK:∀ x c,X.env.cells.lookup x=some c→∀ v,s.heap.IsCell c v→h'.IsCell c v:=fun x c e v ⟨o,ho,hd⟩=>by
   have nch:c ∉ ch:=fun z=>(hch c z).2.2.1 x c e rfl
   by_cases hc:c∈X.fs
   · obtain ⟨sl,q⟩:=slot c o (I.cne x c e) hc nch ho (I.freeC x c e)
     exact ⟨_,q,hd⟩
   · exact ⟨o,keep c o (I.cne x c e) hc nch ho (I.freeC x c e),hd⟩
 refine ⟨I.ok,I.os,hg,⟨fun b o e n hb hx=>?_,fun b o e n hb hx=>?_,fun b o e n hx=>?_,fun b o e hx=>?_,fun b xs e=>tups b xs (I.base.tups b xs e),fun b o xs e=>frzs b o xs (I.base.frzs b o xs e),fun b ps e=>?_⟩,?_,fun x c e=>?_,?_,fun x c e=>?_,fun p hp=>?_,hok,I.len⟩
 · exact keep b o (neL b o e) hb (neC b o e hx) (I.base.keep b o e n hb hx) (I.base.free b o e n hx)
 · obtain ⟨sl,e1⟩:=I.base.slot b o e n hb hx
   obtain ⟨sl',e2⟩:=slot b _ (neL b o e) hb (neC b o e hx) e1 (I.base.free b o e n hx)
   exact ⟨sl',e2⟩
 · obtain ⟨o',e1⟩:=I.base.there b o e hx
   exact free b o' (neC b o e hx) e1 (I.base.free b o e n hx)
 · obtain ⟨o',e1⟩:=I.base.there b o e hx
   exact there b o' (neC b o e hx) e1
 · obtain ⟨m1,e1⟩:=I.base.tbls b ps e
   obtain ⟨m2,e2⟩:=tbls b _ e1
   exact ⟨m1++m2,by rw [e2,Array.append_assoc]⟩
 · obtain ⟨m,hn,hl⟩:=I.loc
   refine ⟨m,ns m hn,fun i x v e1 e2 e3=>?_⟩
   obtain ⟨u,r,l⟩:=hl i x v e1 e2 e3
   refine ⟨u,r,?_⟩
   rcases l with l | ⟨k,c,e,z⟩
   · exact .inl l
   · exact .inr ⟨k,c,e,cellK x c e _ z⟩
 · obtain ⟨v,z⟩:=I.cell x c e
   exact ⟨v,cellK x c e v z⟩
 · obtain ⟨m,⟨o,_,_,ho,_⟩,_⟩:=I.loc
   exact free _ o (fun z=>(hch _ z).2.1 rfl) ho I.free
 · obtain ⟨v,o,ho,hd⟩:=I.cell x c e
   exact free c o (fun z=>(hch c z).2.2.1 x c e rfl) ho (I.freeC x c e)
 · obtain ⟨e,n,ne,nf,d⟩:=I.pin p hp
   have nch:p.1 ∉ ch:=fun z=>(hch p.1 z).2.2.2 p hp rfl
   exact ⟨keep p.1 p.2 ne nf nch e n,free p.1 p.2 nch e n,ne,nf,d⟩
theorem Inv.un {t':Nat}(I:Inv X pins σ H s)(u:Un X.fs [] H H' s.heap h')(hok:HOk X.prog X.w H' h'):Inv X pins σ H' { s with heap:=h',toks:=t' }:=by
 obtain ⟨m,⟨o,es,ep,ho,r⟩,_⟩:=id I.loc
 obtain ⟨sl,hL⟩:=u.any ho I.free (by simp)
 exact I.step (g':=s.gens) (d':=s.drawn) (ch:=[]) (fun _ z=>nomatch z) (fun b o _ hb _ e n=>u.keep b o e n hb (by simp)) (fun b o _ hb _ e n=>u.slot b o e n hb (by simp)) (fun b o _ e n=>u.free b o e n (by simp)) (fun b o _ e=>u.there b o e (by simp)) u.tups u.frzs u.tbls (fun m' hm=>by
   obtain ⟨o',es',ep',ho',r'⟩:=hm
   rw [ho] at ho';cases ho'
   exact ⟨_,es',ep',hL,r'⟩) hok I.bare
theorem Inv.call {g':Array GenState}{t':Nat}{d':Drawn}{ch:List Addr}(I:Inv X pins σ H s)(u:Un (Vx X.stack) ch H H' s.heap h')(hok:HOk X.prog X.w H' h')(hg:AllBare g')
   (hch:∀ b∈ch,(b∈X.ex∨X.s₀.heap.objs.size≤b)∧b≠X.env.locals∧(∀ x c,X.env.cells.lookup x=some c→c≠b)∧∀ p∈X.pn++pins,p.1≠b) :
   Inv X pins σ H' { s with heap:=h',gens:=g',drawn:=d',toks:=t' }:=by
 obtain ⟨m,⟨o,es,ep,ho,r⟩,_⟩:=id I.loc
 obtain ⟨sl,hL⟩:=u.any ho I.free fun z=>(hch _ z).2.1 rfl
 exact I.step (ch:=ch) hch (fun b o hL hb hc e n=>u.keep b o e n (fun z=>(List.mem_cons.mp (I.stkSub b z)).elim hL hb) hc) (fun b o _ _ hc e n=>u.any e n hc) (fun b o hc e n=>u.free b o e n hc) (fun b o hc e=>u.there b o e hc) u.tups u.frzs u.tbls (fun m' hm=>by
   obtain ⟨o',es',ep',ho',r'⟩:=hm
   rw [ho] at ho';cases ho'
   exact ⟨_,es',ep',hL,r'⟩) hok hg
theorem Inv.turned {t':Nat}{it:Addr}(I:Inv X pins σ H s)(k:∀ b o,b≠it→s.heap.get? b=some o→h'.get? b=some o)(hn:H it=none)(hL:it≠X.env.locals)
   (h1:it∈X.ex∨X.s₀.heap.objs.size≤it) (h2:∀ x c,X.env.cells.lookup x=some c→c≠it) (h3:∀ p∈X.pn++pins,p.1≠it):Inv X pins σ H { s with heap:=h',toks:=t' }:=by
 have nit:∀ b u,H b=some u→b≠it:=fun b u e z=>by rw [z,hn] at e;cases e
 refine I.step (g':=s.gens) (d':=s.drawn) (ch:=[it]) (fun b hb=>?_) (fun b o _ _ hc e _=>k b o (fun z=>hc (by simp [z])) e) (fun b o _ _ hc e _=>⟨o.slots,k b o (fun z=>hc (by simp [z])) e⟩) (fun _ _ _ _ n=>n)
   (fun b o hc e=>⟨o,k b o (fun z=>hc (by simp [z])) e⟩) (fun _ _ e=>e) (fun _ _ _ e=>e) (fun b ps e=>⟨#[],by rw [e];simp⟩) (fun m hm=>?_) (fun b u e=>?_) I.bare
 · have e:b=it:=by simpa using hb
   subst e
   exact ⟨h1,hL,h2,h3⟩
 · obtain ⟨o,es,ep,ho,r⟩:=hm
   exact ⟨o,es,ep,k _ o (Ne.symm hL) ho,r⟩
 · refine (I.hok b u e).stay (fun c v hc q=>k c v ?_ q) (fun _ q=>q) fun _ _ q=>q
   rcases hc with z | z
   · rw [z];exact nit b u e
   · exact nit c _ z
theorem Inv.tok (I:Inv X pins σ H s)(t:Nat):Inv X pins σ H { s with toks:=t }:=I.un (h':=s.heap) (t':=t) Un.refl I.hok
theorem Inv.kept {t':Nat}(I:Inv X pins σ H s)(k:∀ b u,s.heap.get? b=some u→h'.get? b=some u):Inv X pins σ H { s with heap:=h',toks:=t' }:=I.un (Un.kept k) (I.hok.kept k)
theorem Inv.laid {a:Addr}{o:HO}{t':Nat}(I:Inv X pins σ H s)(k:∀ b u,s.heap.get? b=some u→h'.get? b=some u)(hp:s.heap.objs.size≤a)(new:ObjOk X.prog X.w (upd H a o) h' a o) :
 Inv X pins σ (upd H a o) { s with heap:=h',toks:=t' }:=I.un (Un.laid k hp (I.hok.fresh hp)) (I.hok.laid k hp new)
theorem Inv.write {x e:Addr}{o:HO}{t':Nat}(I:Inv X pins σ H s)(mu:Mut (H x))(he:e=x∨H e=some (.own x))(k:∀ b u,b≠e→s.heap.get? b=some u→h'.get? b=some u)(heo:∃ u,h'.get? e=some u)
 (new:ObjOk X.prog X.w (upd H x o) h' x o):Inv X pins σ (upd H x o) { s with heap:=h',toks:=t' }:=I.un (Un.write mu he k heo) (I.hok.write mu he k heo new)
theorem Inv.pins_of {pins':List (Addr×Obj)}(I:Inv X pins σ H s)(h:∀ p∈pins',s.heap.get? p.1=some p.2∧H p.1=none∧p.1≠X.env.locals∧p.1 ∉ X.fs∧∀ v,p.2.data≠.cell v):Inv X pins' σ H s :=
 ⟨I.ok,I.os,I.bare,I.base,I.loc,I.cell,I.free,I.freeC,fun p hp=>(List.mem_append.mp hp).elim (fun z=>I.pin p (List.mem_append_left _ z)) (h p),I.hok,I.len⟩
theorem Zca {N:List Str}(hN:N.Nodup){i j:Nat}{x:Str}(a:N[i]?=some x)(b:N[j]?=some x):i=j:=by
 obtain ⟨h1,e1⟩:=List.getElem?_eq_some_iff.mp a
 obtain ⟨h2,e2⟩:=List.getElem?_eq_some_iff.mp b
 exact (List.getElem_inj hN).mp (e1.trans e2.symm)
theorem Uz {M:Model}{A:Around}{E:Value→Shared→Prop}{i:Nat}{x:Str}{v:V}{u:Value}{Q:Unit→Shared→Prop}(I:Inv X pins σ H s)(hN:X.N.Nodup)(hi:X.N[i]?=some x)(hx:Loc X.env.scope x)(r:RelV v u)
   (h:∀ s',Inv X pins (σ.set i (some v)) H s'→(∃ a,Heap.SameBut a s.heap s'.heap∧(a=X.env.locals∨X.env.cells.lookup x=some a))→Q () s') (hf:X.fn x=true∨X.env.scope.names.lookup x=some .local:=by first | exact .inl rfl | exact .inr rfl | assumption):wpAny M A (storeName X.env x u) Q E s:=by
 obtain ⟨m,hn,hl⟩:=id I.loc
 have hcls:(X.env.scope.kind == .class || (X.env.scope.kind == .module&&X.env.locals != X.env.globals))=false:=by rw [I.ok.kind];rfl
 have hiσ:i < σ.length:=by rw [I.len];exact (List.getElem?_eq_some_iff.mp hi).1
 have cne:=I.cne
 have tracked:∀ {a:Addr} {h':Heap},(∃ o,s.heap.get? a=some o∧H a=none)→Heap.SameBut a s.heap h'→HOk X.prog X.w H h':=fun {a h'} ha hs b ob e=>by
   obtain ⟨_,_,hfree⟩:=ha
   refine (I.hok b ob e).stay (fun c w' hc q=>(hs.2 c ?_).trans q) (fun _ q=>q) fun _ _ q=>q
   rintro rfl
   rcases hc with rfl | hc
   · rw [hfree] at e;cases e
   · rw [hfree] at hc;cases hc
 rcases hx with hk | hk
 · refine wpAny_storeName_local hk hn (fun h' hn' hs=>?_) hcls
   obtain ⟨oL,_,_,hoL,_⟩:=id hn
   refine h _ ⟨I.ok,I.os,I.bare,⟨fun b o e n hb hx=>?_,fun b o e n hb hx=>?_,I.base.free,fun b o e hx=>?_,I.base.tups,I.base.frzs,I.base.tbls⟩,⟨_,hn',fun j y v' e1 e2 e3=>?_⟩,fun y c e=>?_,I.free,I.freeC,fun p hp=>?_,tracked ⟨oL,hoL,I.free⟩ hs,by simpa using I.len⟩ ⟨_,hs,.inl rfl⟩
   · exact (hs.2 b (Nat.ne_of_lt (Nat.lt_of_lt_of_le (Heap.lt_size e) I.ok.above))).trans (I.base.keep b o e n hb hx)
   · obtain ⟨sl,e1⟩:=I.base.slot b o e n hb hx
     exact ⟨sl,(hs.2 b (Nat.ne_of_lt (Nat.lt_of_lt_of_le (Heap.lt_size e) I.ok.above))).trans e1⟩
   · obtain ⟨o',e1⟩:=I.base.there b o e hx
     exact ⟨o',(hs.2 b (Nat.ne_of_lt (Nat.lt_of_lt_of_le (Heap.lt_size e) I.ok.above))).trans e1⟩
   · by_cases hj:j=i
     · subst hj
       rw [hi] at e1;cases e1
       rw [List.getElem?_set_self hiσ] at e2
       cases e2
       exact ⟨u,r,.inl ⟨hk,by simp⟩⟩
     · rw [List.getElem?_set_ne (Ne.symm hj)] at e2
       obtain ⟨u',r',q⟩:=hl j y v' e1 e2 e3
       refine ⟨u',r',?_⟩
       rcases q with ⟨k,e⟩ | ⟨k,c,e,z⟩
       · refine .inl ⟨k,?_⟩
         have:y≠x:=fun e=>hj (Zca hN e1 (e ▸ hi))
         simp [this,e]
       · exact .inr ⟨k,c,e,z.sameBut hs (cne y c e)⟩
   · obtain ⟨w',z⟩:=I.cell y c e
     exact ⟨w',z.sameBut hs (cne y c e)⟩
   · obtain ⟨e,n,ne,nf,d⟩:=I.pin p hp
     exact ⟨(hs.2 p.1 ne).trans e,n,ne,nf,d⟩
 · have hfn:X.fn x=true:=by
     rcases hf with z | z
     · exact z
     · rw [z] at hk;cases hk
   obtain ⟨c,hc⟩:=I.ok.has x (.inl hk)
   obtain ⟨w',z⟩:=I.cell x c hc
   refine wpAny_storeName_cell I.ok.kind hk hc z (fun h' hc' hs=>?_)
   obtain ⟨oc,hoc,hocd⟩:=id z
   refine h { s with heap:=h' } ⟨I.ok,I.os,I.bare,⟨fun b o e n hb hx=>?_,fun b o e n hb hx=>?_,I.base.free,fun b o e hx=>?_,I.base.tups,I.base.frzs,I.base.tbls⟩,⟨m,hn.sameBut hs (Ne.symm (cne x c hc)),fun j y v' e1 e2 e3=>?_⟩,fun y c' e=>?_,I.free,I.freeC,fun p hp=>?_,tracked ⟨oc,hoc,I.freeC x c hc⟩ hs,by simpa using I.len⟩ ⟨c,hs,.inr hc⟩
   · exact (hs.2 b (Nat.ne_of_lt (Nat.lt_of_lt_of_le (Heap.lt_size e) (I.ok.cab x c hfn hc)))).trans (I.base.keep b o e n hb hx)
   · obtain ⟨sl,e1⟩:=I.base.slot b o e n hb hx
     exact ⟨sl,(hs.2 b (Nat.ne_of_lt (Nat.lt_of_lt_of_le (Heap.lt_size e) (I.ok.cab x c hfn hc)))).trans e1⟩
   · obtain ⟨o',e1⟩:=I.base.there b o e hx
     exact ⟨o',(hs.2 b (Nat.ne_of_lt (Nat.lt_of_lt_of_le (Heap.lt_size e) (I.ok.cab x c hfn hc)))).trans e1⟩
   · by_cases hj:j=i
     · subst hj
       rw [hi] at e1;cases e1
       rw [List.getElem?_set_self hiσ] at e2
       cases e2
       exact ⟨u,r,.inr ⟨.inl hk,c,hc,hc'⟩⟩
     · rw [List.getElem?_set_ne (Ne.symm hj)] at e2
       obtain ⟨u',r',q⟩:=hl j y v' e1 e2 e3
       refine ⟨u',r',?_⟩
       rcases q with q | ⟨k,c',e,z'⟩
       · exact .inl q
       · refine .inr ⟨k,c',e,z'.sameBut hs ?_⟩
         rintro rfl
         exact hj (Zca hN e1 (I.ok.inj _ _ _ e hc ▸ hi))
   · by_cases hcc:c'=c
     · subst hcc;exact ⟨_,hc'⟩
     · obtain ⟨w2,z2⟩:=I.cell y c' e
       exact ⟨w2,z2.sameBut hs hcc⟩
   · obtain ⟨e,n,ne,nf,d⟩:=I.pin p hp
     refine ⟨(hs.2 p.1 ?_).trans e,n,ne,nf,d⟩
     intro q
     rw [q,hoc] at e
     have q':oc=p.2:=Option.some.inj e
     exact d w' (by rw [← q'];exact hocd)
theorem Xj {M:Model}{A:Around}{E:Value→Shared→Prop}{i:Nat}{x:Str}{v:V}{u:Value}{Q:Unit→Shared→Prop}(I:Inv X pins σ H s)(hN:X.N.Nodup)(hi:X.N[i]?=some x)(hx:Loc X.env.scope x)(r:RelV v u)
   (h:∀ s',Inv X pins (σ.set i (some v)) H s'→Q () s') (hf:X.fn x=true∨X.env.scope.names.lookup x=some .local:=by first | exact .inl rfl | exact .inr rfl | assumption):wpAny M A (storeName X.env x u) Q E s :=
 Uz I hN hi hx r (fun s' I' _=>h s' I') hf
theorem Inv.call' {s':Shared}{ch:List Addr}(I:Inv X pins σ H s)(ho:s'.os=s.os)(u:Un (Vx X.stack) ch H H' s.heap s'.heap)(hok:HOk X.prog X.w H' s'.heap)(hg:AllBare s'.gens)
   (hch:∀ b∈ch,(b∈X.ex∨X.s₀.heap.objs.size≤b)∧b≠X.env.locals∧(∀ x c,X.env.cells.lookup x=some c→c≠b)∧∀ p∈X.pn++pins,p.1≠b):Inv X pins σ H' s':=by
 obtain ⟨h',g',d',t',o'⟩:=s'
 have e:o'=s.os:=ho
 subst e
 exact I.call (g':=g') (t':=t') (d':=d') u hok hg hch
end
abbrev XK:=Value→Option Addr→Hp→Prop
abbrev St:=List (Option V)
abbrev VK:=V→Hp→Prop
abbrev TE:=St→Hp→VK→Prop
abbrev TT:=St→Hp→(Bool→Hp→Prop)→Prop
abbrev TA:=St→Hp→(List V→Hp→Prop)→Prop
structure WJ where
 nx:St→Hp→Prop
 rt:VK
 bk:St→Hp→Prop:=fun _ _=>False
 ct:St→Hp→Prop:=fun _ _=>False
abbrev TS:=WJ→St→Hp→Prop
def EP (X:Cx)(pins:List (Addr×Obj))(σ:St)(Q:VK)(u:Value)(s':Shared):Prop:=∃ v H',Inv X pins σ H' s'∧RelV v u∧Q v H'
def TP (X:Cx)(pins:List (Addr×Obj))(σ:St)(Q:Bool→Hp→Prop)(b:Bool)(s':Shared):Prop:=∃ H',Inv X pins σ H' s'∧Q b H'
def AP (X:Cx)(pins:List (Addr×Obj))(σ:St)(Q:List V→Hp→Prop)(us:List Value)(s':Shared):Prop:=∃ vs H',Inv X pins σ H' s'∧Vals vs us∧Q vs H'
def SP (X:Cx)(pins:List (Addr×Obj))(D:WJ)(f:Flow)(s':Shared):Prop :=
 match f with
 | .next=>∃ σ' H',Inv X pins σ' H' s'∧D.nx σ' H'
 | .brk=>∃ σ' H',Inv X pins σ' H' s'∧D.bk σ' H'
 | .cont=>∃ σ' H',Inv X pins σ' H' s'∧D.ct σ' H'
 | .ret u=>∃ v σ' H',Inv X pins σ' H' s'∧RelV v u∧D.rt v H'
def PE (X:Cx)(e:Expr)(t:TE):Prop :=
 ∀ (pins:List (Addr×Obj)) (s:Shared) (σ:St) (H:Hp) (Q:VK),Inv X pins σ H s→t σ H Q→wpAny (model X.prog X.w) X.A (eval e X.env) (EP X pins σ Q) X.xe s
def PT (X:Cx)(e:Expr)(t:TT):Prop :=
 ∀ (pins:List (Addr×Obj)) (s:Shared) (σ:St) (H:Hp) (Q:Bool→Hp→Prop),Inv X pins σ H s→t σ H Q→wpAny (model X.prog X.w) X.A (isTrue e X.env (eval e X.env)) (TP X pins σ Q) X.xe s
def PW (X:Cx)(e:Expr)(t:TT):Prop :=
 ∀ (whole:Sem Value) (pins:List (Addr×Obj)) (s:Shared) (σ:St) (H:Hp) (Q:Bool→Hp→Prop),Inv X pins σ H s→t σ H Q→wpAny (model X.prog X.w) X.A (isTrue e X.env whole) (TP X pins σ Q) X.xe s
theorem PW.pt {X:Cx}{e:Expr}{t:TT}(h:PW X e t):PT X e t:=h _
def PA (X:Cx)(es:List Expr)(t:TA):Prop :=
 ∀ (pos:Pos) (pins:List (Addr×Obj)) (s:Shared) (σ:St) (H:Hp) (Q:List V→Hp→Prop),Inv X pins σ H s→t σ H Q→wpAny (model X.prog X.w) X.A (spliced (backTo pos (starEach es X.env))) (AP X pins σ Q) X.xe s
def PS (X:Cx)(st:Stmt)(t:TS):Prop :=
 ∀ (pins:List (Addr×Obj)) (s:Shared) (σ:St) (H:Hp) (D:WJ),Inv X pins σ H s→t D σ H→wpAny (model X.prog X.w) X.A (exec st X.env) (SP X pins D) X.xe s
def PSs (X:Cx)(st:List Stmt)(t:TS):Prop :=
 ∀ (pins:List (Addr×Obj)) (s:Shared) (σ:St) (H:Hp) (D:WJ),Inv X pins σ H s→t D σ H→wpAny (model X.prog X.w) X.A (execs st X.env) (SP X pins D) X.xe s
theorem Zn {α:Type}{t:Sem α}{Q Q':α→Shared→Prop}{M:Model}{A:Around}{E:Value→Shared→Prop}{s:Shared}(h:wpAny M A t Q E s)(hQ:∀ a s,Q a s→Q' a s):wpAny M A t Q' E s:=wpAny_mono h hQ fun _ _ x=>x
end L2
namespace L2
open PySem PySem.Spec PyProof.Rows
section
variable {X:Cx}
def Vc (i:Nat):TE:=fun σ H Q=>∃ v,σ[i]?=some (some v)∧Q v H
def tC (v:V):TE:=fun _ H Q=>Q v H
theorem ZjH {i:Nat}{x:Str}{pos:Pos}(hN:X.N[i]?=some x)(hv:Vis X.env.scope x)(hd:(x == ("__debug__":Str))=false:=by decide)(hcd:(x == ("__classdict__":Str))=false:=by decide):PE X (.Name x pos) (Vc i):=by
 intro pins s σ H Q I h
 obtain ⟨v,e,h⟩:=h
 obtain ⟨m,hn,hl⟩:=I.loc
 obtain ⟨u,r,l⟩:=hl i x v hN e hv
 have fin:EP X pins σ Q u s:=⟨v,H,I,r,h⟩
 rcases l with ⟨hk,hm⟩ | ⟨hk,c,hc,hcell⟩
 · exact wpAny_Name (wpAny_loadName_local I.ok.kind hk hn hm fin) hd
 · rcases hk with hk | hk
   · exact wpAny_Name (wpAny_loadName_cell I.ok.kind hk hc hcell fin) hd
   · exact wpAny_Name (wpAny_loadName_free I.ok.kind hk hc hcell fin hcd) hd
theorem Zd {i j pos}:PE X (.Constant (.int i) j pos) (tC (.int i)):=fun _ _ _ H _ I h=>wpAny_Constant_int ⟨.int i,H,I.tok _,⟨_,rfl⟩,h⟩
theorem Zax {b j pos}:PE X (.Constant (.bool b) j pos) (tC (.bl b)):=fun _ _ _ H _ I h=>Constant_bool ⟨.bl b,H,I,rfl,h⟩
theorem YI {j pos}:PE X (.Constant .none j pos) (tC .non):=fun _ _ _ H _ I h=>Constant_none ⟨.non,H,I,rfl,h⟩
theorem Zk {x j pos}:PE X (.Constant (.str x) j pos) (tC (.str x)):=fun _ _ _ H _ I h=>Calls.Constant_str ⟨.str x,H,I.tok _,⟨_,rfl⟩,h⟩
def Gl (X:Cx)(x:Str):Prop:=X.env.kindOf x=some .globalImplicit
theorem ZaT {E:Value→Shared→Prop}{pins:List (Addr×Obj)}{s:Shared}{σ:St}{H:Hp}{x:Str}{u:Value}{pos:Pos}{Q:Value→Shared→Prop}(I:Inv X pins σ H s)(hg:Gl X x)(hm:X.mg x=some u)(h:Q u s)
   (hd:(x == ("__debug__":Str))=false:=by decide):wpAny (model X.prog X.w) X.A (eval (.Name x pos) X.env) Q E s :=
 Calls.Name_function_global I.ok.kind hg (Calls.loadGlobal_global (by rw [I.ok.glob];exact I.mod.glob.keeps I.bk) hm h) hd
theorem WC {E:Value→Shared→Prop}{pins:List (Addr×Obj)}{s:Shared}{σ:St}{H:Hp}{x:Str}{u:Value}{pos:Pos}{Q:Value→Shared→Prop}(I:Inv X pins σ H s)(hg:Gl X x)(hm:X.mg x=none)(hv:bootBuiltins x=some u)(h:Q u s)
   (hn:x≠"__name__":=by decide) (hd:(x == ("__debug__":Str))=false:=by decide):wpAny (model X.prog X.w) X.A (eval (.Name x pos) X.env) Q E s:=by
 obtain ⟨mb,h1,h2⟩:=I.mod.blt
 exact Calls.Name_function_global I.ok.kind hg (Calls.loadGlobal_builtin (by rw [I.ok.glob];exact I.mod.glob.keeps I.bk) hm (by rw [I.ok.blt];exact h1.keeps I.bk) ((h2 x hn).trans hv) h) hd
theorem Wu {x:Str}{v:V}{u:Value}{pos:Pos}(hg:Gl X x)(hm:X.mg x=some u)(r:RelV v u)(hd:(x == ("__debug__":Str))=false:=by decide):PE X (.Name x pos) (tC v) :=
 fun _ _ _ H _ I h=>ZaT I hg hm ⟨v,H,I,r,h⟩ hd
theorem Yl {x:Str}{v:V}{u:Value}{pos:Pos}(hg:Gl X x)(hm:X.mg x=none)(hv:bootBuiltins x=some u)(r:RelV v u)(hn:x≠"__name__":=by decide)(hd:(x == ("__debug__":Str))=false:=by decide):PE X (.Name x pos) (tC v) :=
 fun _ _ _ H _ I h=>WC I hg hm hv ⟨v,H,I,r,h⟩ hn hd
variable {a b:Expr}{ta tb:TE}{pos:Pos}
def PC (X:Cx)(op:CmpOp)(a b:Expr)(t:TE):Prop :=
 ∀ (pins:List (Addr×Obj)) (s:Shared) (σ:St) (H:Hp) (Q:VK),Inv X pins σ H s→t σ H Q →
   wpAny (model X.prog X.w) X.A (eval a X.env) (fun v s₁=>wpAny (model X.prog X.w) X.A (eval b X.env) (fun u s₂=>wpAny (model X.prog X.w) X.A (compareOp op v u) (EP X pins σ Q) X.xe s₂) X.xe s₁) X.xe s
theorem ZhX (b:Expr){op:CmpOp}(h:op≠.In)(h2:op≠.NotIn):behindInMarks op b=false:=by
 have e1:(op == CmpOp.In)=false:=by cases op<;>first | rfl | exact absurd rfl h
 have e2:(op == CmpOp.NotIn)=false:=by cases op<;>first | rfl | exact absurd rfl h2
 cases b<;>simp [behindInMarks,e1,e2]
def tIsN (ta:TE):TE:=fun σ H Q=>ta σ H fun x H1=>Q (.bl (decide (x=.non))) H1
theorem RelV.none_iff {x:V}{v:Value}(r:RelV x v):(v == Value.none)=decide (x=.non):=by
 cases x with
 | non=>cases r;rfl
 | bl _=>cases r;rfl
 | int _=>obtain ⟨t,rfl⟩:=r;rfl
 | str _=>obtain ⟨t,rfl⟩:=r;rfl
 | byt _=>obtain ⟨t,rfl⟩:=r;rfl
 | flt _=>obtain ⟨t,rfl⟩:=r;rfl
 | ref _=>cases r;rfl
 | ty _=>cases r;rfl
theorem WE {j pos'}(ha:PE X a ta):PC X .Is a (.Constant .none j pos') (tIsN ta):=by
 intro pins s σ H Q I h
 refine Zn (ha pins s σ H _ I h) fun v s1 ⟨x,H1,I1,r1,q1⟩=>?_
 exact Constant_none (is_none_gen ⟨.bl _,H1,I1,by rw [r1.none_iff];rfl,q1⟩)
def tB (t:TE):TT:=fun σ H Q=>t σ H fun x H1=>∃ c,x=.bl c∧Q c H1
theorem WG {op:CmpOp}{t:TE}(h:PC X op a b t)(h1:behindInMarks op b=false:=by first | exact ZhX _ (by decide) (by decide) | rfl):PT X (.Compare a [op] [b] pos) (tB t):=by
 intro pins s σ H Q I hw
 refine wpAny_isTrue_Compare1 (Zn (h pins s σ H _ I hw) fun v s1 h1=>Zn h1 fun u s2 h2=>Zn h2 fun c s3 ⟨x,H1,I1,r1,q1⟩=>?_) h1
 obtain ⟨d,rfl,q⟩:=q1
 cases r1
 exact wpAny_truthy_bool ⟨H1,I1,q⟩
theorem YJ {e:Expr}{t:TE}(h:PE X e t)(he:∀ whole,isTrue e X.env whole=(do let v ← whole;standAt e.pos;holding [v] (truthy v)):=by intro _;rfl):PT X e (tB t):=by
 intro pins s σ H Q I hw
 refine isTrue_plain (Zn (h pins s σ H _ I hw) fun v s1 ⟨x,H1,I1,r1,q1⟩=>?_) (he _)
 obtain ⟨d,rfl,q⟩:=q1
 cases r1
 exact wpAny_truthy_bool ⟨H1,I1,q⟩
variable {tA tB':TT}{rest:List Expr}
def tAnd (t u:TT):TT:=fun σ H Q=>t σ H fun c H1=>if c=true then u σ H1 Q else Q false H1
def tOr (t u:TT):TT:=fun σ H Q=>t σ H fun c H1=>if c=true then Q true H1 else u σ H1 Q
def tNot (t:TT):TT:=fun σ H Q=>t σ H fun c H1=>Q (!c) H1
theorem ZdP (ha:PT X a tA):PW X (.BoolOp .And [a] pos) tA:=by
 intro wh pins s σ H Q I h
 refine isTrue_and (Zn (ha pins s σ H Q I h) fun c s1 e=>?_)
 cases c with
 | true=>exact isTrue_and_nil e
 | false=>exact e
theorem Ud (ha:PT X a tA):PW X (.BoolOp .Or [a] pos) tA:=by
 intro wh pins s σ H Q I h
 refine isTrue_or (Zn (ha pins s σ H Q I h) fun c s1 e=>?_)
 cases c with
 | false=>exact isTrue_or_nil e
 | true=>exact e
theorem ZeW (ha:PT X a tA)(hb:PW X (.BoolOp .And (b::rest) pos) tB'):PW X (.BoolOp .And (a::b::rest) pos) (tAnd tA tB'):=by
 intro wh pins s σ H Q I h
 refine isTrue_and (Zn (ha pins s σ H _ I h) fun c s1 ⟨H1,I1,q1⟩=>?_)
 cases c with
 | true=>exact hb wh pins s1 σ H1 Q I1 q1
 | false=>exact ⟨H1,I1,q1⟩
theorem WP (ha:PT X a tA)(hb:PW X (.BoolOp .Or (b::rest) pos) tB'):PW X (.BoolOp .Or (a::b::rest) pos) (tOr tA tB'):=by
 intro wh pins s σ H Q I h
 refine isTrue_or (Zn (ha pins s σ H _ I h) fun c s1 ⟨H1,I1,q1⟩=>?_)
 cases c with
 | true=>exact ⟨H1,I1,q1⟩
 | false=>exact hb wh pins s1 σ H1 Q I1 q1
theorem UQ (ha:PT X a tA):PT X (.UnaryOp .Not a pos) (tNot tA):=by
 intro pins s σ H Q I h
 exact isTrue_not (ha pins s σ H (fun c H1=>Q (!c) H1) I h)
def Zmd (ta tb:TE):TE:=fun σ H Q=>ta σ H fun x H1=>∃ c,x=.bl c∧if c=true then tb σ H1 Q else Q (.bl false) H1
def ZlR (ta:TE):TE:=fun σ H Q=>ta σ H fun x H1=>∃ c,x=.bl c∧Q (.bl (!c)) H1
theorem WD {op}{t:TE}(h:PE X a t):PE X (.BoolOp op [a] pos) t:=fun pins s σ H Q I hw=>BoolOp_one (h pins s σ H Q I hw)
theorem XQ (ha:PE X a ta)(hb:PE X (.BoolOp .And (b::rest) pos) tb):PE X (.BoolOp .And (a::b::rest) pos) (Zmd ta tb):=by
 intro pins s σ H Q I h
 refine BoolOp_and (Zn (ha pins s σ H _ I h) fun v s1 ⟨x,H1,I1,r1,q1⟩=>?_)
 obtain ⟨c,rfl,q1⟩:=q1
 cases r1
 refine wpAny_truthy_bool ?_
 cases c with
 | true=>exact hb pins s1 σ H1 Q I1 q1
 | false=>exact ⟨.bl false,H1,I1,rfl,q1⟩
theorem Zcm (ha:PE X a ta):PE X (.UnaryOp .Not a pos) (ZlR ta):=by
 intro pins s σ H Q I h
 refine UnaryOp_ (Zn (ha pins s σ H _ I h) fun v s1 ⟨x,H1,I1,r1,q1⟩=>?_)
 obtain ⟨c,rfl,q1⟩:=q1
 cases r1
 exact not_of (wpAny_truthy_bool ⟨.bl (!c),H1,I1,rfl,q1⟩)
def tIf (t:TT)(ta tb:TE):TE:=fun σ H Q=>t σ H fun c H1=>if c=true then ta σ H1 Q else tb σ H1 Q
theorem Yz {c:Expr}(hc:PT X c tA)(ha:PE X a ta)(hb:PE X b tb):PE X (.IfExp c a b pos) (tIf tA ta tb):=by
 intro pins s σ H Q I h
 refine wpAny_IfExp (Zn (hc pins s σ H _ I h) fun d s1 ⟨H1,I1,q1⟩=>?_)
 cases d with
 | true=>exact ha pins s1 σ H1 Q I1 q1
 | false=>exact hb pins s1 σ H1 Q I1 q1
end
end L2
namespace L2
open PySem PySem.Spec PyProof.Rows
def SqL (K:PySem.W.Frag)(H:Hp)(a:Addr)(xs:List V):Prop :=
 Rd H a (.lst xs) ∨
   ∃ (o:Obj) (its:Array Value) (n:Nat),K.lookup a=some o∧o.cls=.type "list"∧o.dict=none∧o.data=.seq its n∧its.size≤sizeLine∧Vals xs its.toList
def SqT (K:PySem.W.Frag)(H:Hp)(a:Addr)(xs:List V):Prop :=
 Rd H a (.tup xs) ∨
   ∃ (o:Obj) (its:Array Value) (n:Nat),K.lookup a=some o∧o.cls=.type "tuple"∧o.data=.seq its n∧its.size≤sizeLine∧Vals xs its.toList
def absV:Value→Option V
 | .none=>some .non
 | .bool b=>some (.bl b)
 | .int i _=>some (.int i)
 | .str x _=>some (.str x)
 | .bytes b _=>some (.byt b)
 | .float b _=>some (.flt b)
 | .ref a=>some (.ref a)
 | .type n=>some (.ty n)
 | _=>none
theorem RelV.abs {x:V}{u:Value}(r:RelV x u):absV u=some x:=by
 cases x with
 | non=>cases r;rfl
 | bl _=>cases r;rfl
 | int _=>obtain ⟨t,rfl⟩:=r;rfl
 | str _=>obtain ⟨t,rfl⟩:=r;rfl
 | byt _=>obtain ⟨t,rfl⟩:=r;rfl
 | flt _=>obtain ⟨t,rfl⟩:=r;rfl
 | ref _=>cases r;rfl
 | ty _=>cases r;rfl
theorem RelV.inj {x y:V}{u:Value}(r:RelV x u)(q:RelV y u):x=y:=Option.some.inj (r.abs.symm.trans q.abs)
theorem Vals.inj:∀{xs ys:List V}{us:List Value},Vals xs us→Vals ys us→xs=ys
 | _,_,_,.nil,.nil=>rfl
 | _,_,_,.cons r t,.cons r' t'=>by rw [r.inj r',Vals.inj t t']
section
variable {X:Cx}{pins:List (Addr×Obj)}{σ:St}{H:Hp}{s:Shared}{a:Addr}{xs ys:List V}
theorem SqL.of {K:PySem.W.Frag}(h:H a=some (.lst xs)):SqL K H a xs:=.inl (.inl h)
theorem SqT.of {K:PySem.W.Frag}(h:H a=some (.tup xs)):SqT K H a xs:=.inl (.inl h)
theorem Inv.list (I:Inv X pins σ H s)(h:SqL X.K H a xs):∃ its:List Value,Vals xs its∧PlainL s.heap a its.toArray∧xs.length≤sizeLine:=by
 rcases h with h | ⟨o,its,n,hk,hc,hd,hs,hz,r⟩
 · obtain ⟨z,its,n,r,e⟩:=h.ok I.hok
   exact ⟨its,r,⟨_,n,e,rfl,rfl,rfl⟩,z⟩
 · refine ⟨its.toList,r,⟨o,n,I.kIn a o hk,hc,hd,by simpa using hs⟩,?_⟩
   have e:=r.length
   simp only [Array.length_toList] at e
   omega
theorem Inv.tuple (I:Inv X pins σ H s)(h:SqT X.K H a xs):∃ its:List Value,Vals xs its∧IsTup s.heap a its.toArray∧xs.length≤sizeLine:=by
 rcases h with h | ⟨o,its,n,hk,hc,hs,hz,r⟩
 · obtain ⟨z,its,r,p⟩:=h.ok I.hok
   exact ⟨its,r,p,z⟩
 · refine ⟨its.toList,r,⟨o,I.kIn a o hk,hc,n,by simpa using hs⟩,?_⟩
   have e:=r.length
   simp only [Array.length_toList] at e
   omega
theorem Inv.list_inj (I:Inv X pins σ H s)(h:SqL X.K H a xs)(h':SqL X.K H a ys):xs=ys:=by
 obtain ⟨its,r,⟨o,n,e,_,_,d⟩,_⟩:=I.list h
 obtain ⟨its',r',⟨o',n',e',_,_,d'⟩,_⟩:=I.list h'
 rw [e] at e';cases e'
 rw [d] at d'
 injection d' with d1 _
 have:its=its':=by simpa using congrArg Array.toList d1
 subst this
 exact r.inj r'
theorem Inv.tuple_inj (I:Inv X pins σ H s)(h:SqT X.K H a xs)(h':SqT X.K H a ys):xs=ys:=by
 obtain ⟨its,r,⟨o,e,_,n,d⟩,_⟩:=I.tuple h
 obtain ⟨its',r',⟨o',e',_,n',d'⟩,_⟩:=I.tuple h'
 rw [e] at e';cases e'
 rw [d] at d'
 injection d' with d1 _
 have:its=its':=by simpa using congrArg Array.toList d1
 subst this
 exact r.inj r'
end
abbrev Cx.wish (X:Cx)(E:Value→Shared→Prop):Cx:={ X with xe:=E }
abbrev Cx.nox (X:Cx):Cx:=X.wish fun _ _=>False
theorem Cx.Ok.wish {X:Cx}(ok:X.Ok)(E:Value→Shared→Prop):(X.wish E).Ok :=
 ⟨ok.mod,ok.kind,ok.glob,ok.blt,ok.above,ok.inj,ok.has,ok.cab,ok.hd,ok.frames,ok.stk,ok.exf,ok.bs,ok.bsz,ok.noex,ok.exfs,ok.funs,ok.frf⟩
theorem Cx.Ok.unwish {X:Cx}{E:Value→Shared→Prop}(ok:(X.wish E).Ok):X.Ok :=
 ⟨ok.mod,ok.kind,ok.glob,ok.blt,ok.above,ok.inj,ok.has,ok.cab,ok.hd,ok.frames,ok.stk,ok.exf,ok.bs,ok.bsz,ok.noex,ok.exfs,ok.funs,ok.frf⟩
section
variable {X:Cx}{pins:List (Addr×Obj)}{σ:St}{H:Hp}{s:Shared}{E:Value→Shared→Prop}
theorem Inv.wish (I:Inv X pins σ H s)(E:Value→Shared→Prop):Inv (X.wish E) pins σ H s:=⟨I.ok.wish E,I.os,I.bare,I.base,I.loc,I.cell,I.free,I.freeC,I.pin,I.hok,I.len⟩
theorem Inv.unwish (I:Inv (X.wish E) pins σ H s):Inv X pins σ H s:=⟨I.ok.unwish,I.os,I.bare,I.base,I.loc,I.cell,I.free,I.freeC,I.pin,I.hok,I.len⟩
theorem SP.unwish {D:WJ}{f:Flow}{s':Shared}(h:SP (X.wish E) pins D f s'):SP X pins D f s':=by
 cases f with
 | next=>obtain ⟨σ',H',I,q⟩:=h;exact ⟨σ',H',I.unwish,q⟩
 | brk=>obtain ⟨σ',H',I,q⟩:=h;exact ⟨σ',H',I.unwish,q⟩
 | cont=>obtain ⟨σ',H',I,q⟩:=h;exact ⟨σ',H',I.unwish,q⟩
 | ret u=>obtain ⟨v,σ',H',I,r,q⟩:=h;exact ⟨v,σ',H',I.unwish,r,q⟩
theorem PSs.nox {st:List Stmt}{t:TS}(h:PSs X.nox st t):PSs X st t:=fun pins s σ H D I hw =>
 wpAny_mono (h pins s σ H D (I.wish _) hw) (fun _ _ q=>q.unwish) fun _ _ z=>False.elim z
end
section
variable {X:Cx}{st:Stmt}{rest:List Stmt}{t u:TS}{e:Expr}{te:TE}{pos:Pos}
def ZbR:TS:=fun D σ H=>D.nx σ H
def Zhg (t u:TS):TS:=fun D σ H=>t { D with nx:=u D } σ H
theorem ZE:PSs X [] ZbR:=fun _ _ σ H _ I h=>wpAny_execs_nil ⟨σ,H,I,h⟩
theorem Ze (h1:PS X st t)(h2:PSs X rest u):PSs X (st::rest) (Zhg t u):=by
 intro pins s σ H D I h
 refine wpAny_execs_cons (Zn (h1 pins s σ H { D with nx:=u D } I h) fun f s1 q=>?_)
 cases f with
 | next =>
   obtain ⟨σ',H',I',q⟩:=q
   exact h2 pins s1 σ' H' D I' q
 | ret v=>exact q
 | brk=>exact q
 | cont=>exact q
theorem Zi (h1:PS X st t):PSs X [st] t:=by
 intro pins s σ H D I h
 refine wpAny_execs_cons (Zn (h1 pins s σ H D I h) fun f s1 q=>?_)
 cases f with
 | next=>exact wpAny_execs_nil q
 | ret v=>exact q
 | brk=>exact q
 | cont=>exact q
def ZjP:TS:=fun D σ H=>D.bk σ H
theorem ZgY:PS X (.Break pos) ZjP:=fun _ _ σ H _ I h=>wpAny_Break ⟨σ,H,I,h⟩
theorem Inv.quiet {pins:List (Addr×Obj)}{σ:St}{H:Hp}{s:Shared}(I:Inv X pins σ H s):interactive X.env=false:=by simp [interactive,I.ok.kind]
def Zls (te:TE):TS:=fun D σ H=>te σ H fun _ H1=>D.nx σ H1
theorem Yx (he:PE X e te)(hs:swapsWith e none pos.line X.env=pure false:=by rfl):PS X (.Expr e pos) (Zls te):=by
 intro pins s σ H D I h
 exact wpAny_Expr_any (Zn (he pins s σ H _ I h) fun v s1 ⟨x,H1,I1,r1,q1⟩=>⟨σ,H1,I1,q1⟩) I.quiet hs
def tRet (te:TE):TS:=fun D σ H=>te σ H D.rt
theorem Zp (he:PE X e te):PS X (.Return (some e) pos) (tRet te):=by
 intro pins s σ H D I h
 exact wpAny_Return_some (Zn (he pins s σ H _ I h) fun v s1 ⟨x,H1,I1,r1,q1⟩=>⟨x,σ,H1,I1,r1,q1⟩)
def ZhR (c:TT)(t u:TS):TS:=fun D σ H=>c σ H fun b H1=>if b=true then t D σ H1 else u D σ H1
theorem ZS {c:Expr}{a b:List Stmt}{tc:TT}(hc:PT X c tc)(ha:PSs X a t)(hb:PSs X b u):PS X (.If c a b pos) (ZhR tc t u):=by
 intro pins s σ H D I h
 refine wpAny_If (Zn (hc pins s σ H _ I h) fun d s1 ⟨H1,I1,q1⟩=>?_)
 cases d with
 | true=>exact ha pins s1 σ H1 D I1 q1
 | false=>exact hb pins s1 σ H1 D I1 q1
end
abbrev TG:=V→St→Hp→(St→Hp→Prop)→Prop
abbrev TGs:=List V→St→Hp→(St→Hp→Prop)→Prop
def PG (X:Cx)(target:Expr)(t:TG):Prop :=
 ∀ (pins:List (Addr×Obj)) (s:Shared) (σ:St) (H:Hp) (v:V) (u:Value) (Q:St→Hp→Prop),Inv X pins σ H s→RelV v u→t v σ H Q →
   wpAny (model X.prog X.w) X.A (assign target X.env u) (fun _ s'=>∃ σ' H',Inv X pins σ' H' s'∧Q σ' H') X.xe s
def PGs (X:Cx)(ts:List Expr)(t:TGs):Prop :=
 ∀ (pins:List (Addr×Obj)) (s:Shared) (σ:St) (H:Hp) (vs:List V) (us:List Value) (Q:St→Hp→Prop),Inv X pins σ H s→Vals vs us→t vs σ H Q →
   wpAny (model X.prog X.w) X.A (assignInOrder ((assignEach ts X.env).map (·.2)) us) (fun _ s'=>∃ σ' H',Inv X pins σ' H' s'∧Q σ' H') X.xe s
abbrev ZhL:=V→V→V→Hp→(Hp→Prop)→Prop
def PSet (X:Cx)(t:ZhL):Prop :=
 ∀ (pins:List (Addr×Obj)) (s:Shared) (σ:St) (H:Hp) (o i v:V) (ov iv u:Value) (Q:Hp→Prop),Inv X pins σ H s→RelV o ov→RelV i iv→RelV v u→t o i v H Q →
   wpAny (model X.prog X.w) X.A (setItem ov iv u) (fun _ s'=>∃ H',Inv X pins σ H' s'∧Q H') X.xe s
abbrev TIp:=V→V→Hp→VK→Prop
def PIp (X:Cx)(op:Operator)(t:TIp):Prop :=
 ∀ (pins:List (Addr×Obj)) (s:Shared) (σ:St) (H:Hp) (x y:V) (v u:Value) (Q:VK),Inv X pins σ H s→RelV x v→RelV y u→t x y H Q →
   wpAny (model X.prog X.w) X.A (inplaceOp op v u) (EP X pins σ Q) X.xe s
section
variable {X:Cx}{pos:Pos}
def VD (i:Nat):TG:=fun v σ H Q=>Q (σ.set i (some v)) H
theorem Zw {i:Nat}{x:Str}(hN:X.N.Nodup)(hi:X.N[i]?=some x)(hx:Loc X.env.scope x)(hf:X.fn x=true∨X.env.scope.names.lookup x=some .local:=by first | exact .inl rfl | exact .inr rfl | assumption):PG X (.Name x pos) (VD i):=by
 intro pins s σ H v u Q I r h
 exact wpAny_assign_Name (Xj I hN hi hx r (fun s' I'=>⟨_,H,I',h⟩) hf)
def gNil:TGs:=fun vs σ H Q=>vs=[]∧Q σ H
def Zet (t:TG)(u:TGs):TGs:=fun vs σ H Q=>∃ v r,vs=v::r∧t v σ H fun σ' H'=>u r σ' H' Q
theorem Xo:PGs X [] gNil:=by
 intro pins s σ H vs us Q I r h
 obtain ⟨e,h⟩:=h
 subst e
 cases r
 exact assignInOrder_nil ⟨σ,H,I,h⟩
theorem ZP {e:Expr}{es:List Expr}{t:TG}{u:TGs}(h1:PG X e t)(h2:PGs X es u)
   (hs:(assignEach (e::es) X.env).map (·.2)=assign e X.env::(assignEach es X.env).map (·.2):=by rfl):PGs X (e::es) (Zet t u):=by
 intro pins s σ H vs us Q I r h
 obtain ⟨v,vr,e1,h⟩:=h
 subst e1
 cases r with
 | cons r rr =>
   rw [hs]
   refine assignInOrder_cons (Zn (h1 pins s σ H _ _ _ I r h) fun _ s1 ⟨σ1,H1,I1,q1⟩=>?_)
   exact h2 pins s1 σ1 H1 _ _ Q I1 rr q1
def gTup (K:PySem.W.Frag)(n:Nat)(t:TGs):TG:=fun v σ H Q=>∃ a xs,v=.ref a∧SqT K H a xs∧xs.length=n∧t xs σ H Q
theorem XO {es:List Expr}{k:Nat}{t:TGs}{n:Nat}(hc:X.calm=true)(h:PGs X es t)
   (hn:(assignEach es X.env).length=n:=by rfl) (hst:(assignEach es X.env).findIdx? (·.1)=none:=by rfl):PG X (.Tuple es k pos) (gTup X.K n t):=by
 intro pins s σ H v u Q I r hw
 obtain ⟨a,xs,e1,hq,hl,hw⟩:=hw
 subst e1
 cases r
 obtain ⟨its,rv,ht,hz⟩:=I.tuple hq
 refine assign_Tuple_tuple (I.ok.hd hc) ht (by simp [hn,← hl,rv.length]) hst fun h' hx=>?_
 have I1:Inv X pins σ H { s with heap:=h' }:=I.kept (t':=s.toks) fun b o e=>hx b o (Nat.ne_of_lt (Heap.lt_size e)) e
 exact h pins _ σ H xs _ Q I1 (by simpa using rv) hw
def gSub (to ti:TE)(t:ZhL):TG:=fun v σ H Q=>to σ H fun o H1=>ti σ H1 fun i H2=>t o i v H2 fun H3=>Q σ H3
theorem Zfl {o i:Expr}{to ti:TE}{t:ZhL}(ho:PE X o to)(hi:PE X i ti)(hs:PSet X t)
   (ha:∀ v,assign (.Subscript o i pos) X.env v=(do
     let ov ← holding [v] (eval o X.env)
     let iv ← holding [v,ov] (eval i X.env)
     standAt pos
     holding [v,ov,iv] (setItem ov iv v)
     release [v,ov,iv] []):=by intro _;rfl):PG X (.Subscript o i pos) (gSub to ti t):=by
 intro pins s σ H v u Q I r h
 rw [ha]
 refine wpAny_bind (wpAny_holding (Zn (ho pins s σ H _ I h) fun ov s1 ⟨x,H1,I1,r1,q1⟩=>?_))
 refine wpAny_bind (wpAny_holding (Zn (hi pins s1 σ H1 _ I1 q1) fun iv s2 ⟨y,H2,I2,r2,q2⟩=>?_))
 refine wpAny_bind (wpAny_standAt (wpAny_bind (wpAny_holding (Zn (hs pins s2 σ H2 x y v ov iv u _ I2 r1 r2 r q2) fun _ s3 ⟨H3,I3,q3⟩=>?_))))
 exact wpAny_release ⟨σ,H3,I3,q3⟩
def ZaS (te:TE)(g:TG):TS:=fun D σ H=>te σ H fun x H1=>g x σ H1 D.nx
theorem Ui {tg e:Expr}{te:TE}{g:TG}(he:PE X e te)(hg:PG X tg g)(hs:swapsWithSole [tg] e pos.line X.env=pure false:=by rfl)(hw:swappedStores [tg] e X.env=pure none:=by rfl)
   (h1:(assignEach [tg] X.env).map (·.2)=[assign tg X.env]:=by rfl):PS X (.Assign [tg] e pos) (ZaS te g):=by
 intro pins s σ H D I h
 refine wpAny_Assign_stores (Zn (he pins s σ H _ I h) fun v s1 ⟨x,H1,I1,r1,q1⟩=>?_) hs hw
 rw [h1]
 exact Zn (hg pins s1 σ H1 x v _ I1 r1 q1) fun _ s2 q=>q
theorem Zr {i:Nat}{x:Str}{e:Expr}{te:TE}{pos':Pos}(hN:X.N.Nodup)(hi:X.N[i]?=some x)(hx:Loc X.env.scope x)(he:PE X e te)(hs:swapsWith e (some (.Name x pos')) pos.line X.env=pure false:=by rfl)(hf:X.fn x=true∨X.env.scope.names.lookup x=some .local:=by first | exact .inl rfl | exact .inr rfl | assumption) :
   PS X (.Assign [.Name x pos'] e pos) (ZaS te (VD i)):=by
 intro pins s σ H D I h
 refine wpAny_Assign_Name (Zn (he pins s σ H _ I h) fun v s1 ⟨y,H1,I1,r1,q1⟩=>?_) hs
 exact Xj I1 hN hi hx r1 (fun s2 I2=>⟨_,H1,I2,q1⟩) hf
def tPar (i j:Nat)(ta:TA):TS:=fun D σ H=>ta σ H fun vs H1=>∃ v w,vs=[v,w]∧D.nx ((σ.set i (some v)).set j (some w)) H1
theorem VB {i j:Nat}{x y:Str}{a b:Expr}{ta:TA}{px py pt:Pos}{kt k2 pt2}(hc:X.calm=true)(hN:X.N.Nodup)(hi:X.N[i]?=some x)(hj:X.N[j]?=some y)(hij:i≠j)
   (hx:X.env.scope.names.lookup x=some .local) (hy:X.env.scope.names.lookup y=some .local) (ha:PA X [a,b] ta)
   (hw:swappedStores [.Tuple [.Name x px,.Name y py] kt pt] (.Tuple [a,b] k2 pt2) X.env=pure (some [x,y]))
   (hs:swapsWithSole [.Tuple [.Name x px,.Name y py] kt pt] (.Tuple [a,b] k2 pt2) pos.line X.env=pure false:=by rfl) :
   PS X (.Assign [.Tuple [.Name x px,.Name y py] kt pt] (.Tuple [a,b] k2 pt2) pos) (tPar i j ta):=by
 intro pins s σ H D I h
 rw [exec_Assign_arm]
 refine wpAny_bind (wpAny_standAt ?_)
 rw [hs]
 refine wpAny_bind (wpAny_pure ?_)
 rw [if_neg (by decide)]
 refine wpAny_bind (Tuple_ (Zn (ha _ pins s σ H _ I h) fun us s1 ⟨vs,H1,I1,r1,q1⟩=>?_))
 obtain ⟨v,w,e1,q1⟩:=q1
 subst e1
 obtain ⟨u1,u2,rfl,rv,rw'⟩:∃ u1 u2,us=[u1,u2]∧RelV v u1∧RelV w u2:=by
   cases r1 with
   | cons p q =>
     cases q with
     | cons p' q' =>
       cases q'
       exact ⟨_,_,rfl,p,p'⟩
 refine wpAny_newObj_type ?_ (by show 2≤sizeLine;decide)
 have I2:Inv X pins σ H1 { s1 with heap:=s1.heap.push { cls:=.type "tuple",data:=.seq [u1,u2].toArray } }:=I1.kept (t':=s1.toks) fun b o e=>Heap.get?_push_of_some _ e
 rw [hw]
 refine wpAny_bind (wpAny_pure ?_)
 show wpAny (model X.prog X.w) X.A (do rule "assign.swapped-stores";let items ← unpackItems (.ref s1.heap.objs.size) 2 none;assignInOrder [fun v=>bindName X.env y v,fun v=>bindName X.env x v] items.reverse;pure Flow.next) _ _ _
 refine wpAny_bind (wpAny_rule (wpAny_bind (unpackItems_tuple (items:=#[u1,u2]) (I.ok.hd hc) (IsTup.new s1.heap _) fun h' hx'=>?_)))
 have I3:=I2.kept (h':=h') (t':=s1.toks) fun b o e=>hx' b o (Nat.ne_of_lt (Heap.lt_size e)) e
 show wpAny _ _ (assignInOrder [fun v=>bindName X.env y v,fun v=>bindName X.env x v] [u2,u1] >>= fun _=>pure Flow.next) _ _ _
 refine wpAny_bind (assignInOrder_cons (wpAny_bindName (Xj I3 hN hj (.inl hy) rw' (fun s2 I4=>?_) (.inr hy))))
 refine assignInOrder_cons (wpAny_bindName (Xj I4 hN hi (.inl hx) rv (fun s3 I5=>assignInOrder_nil (wpAny_pure ?_)) (.inr hx)))
 rw [List.set_comm _ _ (Ne.symm hij)] at I5
 exact ⟨_,H1,I5,q1⟩
def tAug (i:Nat)(te:TE)(ti:TIp):TS:=fun D σ H=>∃ x,σ[i]?=some (some x)∧te σ H fun y H1=>ti x y H1 fun z H2=>D.nx (σ.set i (some z)) H2
theorem Zlc {i:Nat}{x:Str}{e:Expr}{te:TE}{op:Operator}{ti:TIp}{pos':Pos}(hN:X.N.Nodup)(hi:X.N[i]?=some x)(hx:Loc X.env.scope x)(he:PE X e te)(ho:PIp X op ti)(hf:X.fn x=true∨X.env.scope.names.lookup x=some .local:=by first | exact .inl rfl | exact .inr rfl | assumption) :
   PS X (.AugAssign (.Name x pos') op e pos) (tAug i te ti):=by
 intro pins s σ H D I h
 obtain ⟨v,e1,h⟩:=h
 obtain ⟨m,hn,hl⟩:=I.loc
 have vis:Vis X.env.scope x:=by rcases hx with k | k;exact .inl k;exact .inr (.inl k)
 obtain ⟨u,r,l⟩:=hl i x v hi e1 vis
 refine wpAny_AugAssign_Name ?_
 have go:wpAny (model X.prog X.w) X.A (eval e X.env) (fun w s₂=>wpAny (model X.prog X.w) X.A (inplaceOp op u w) (fun r s₃=>wpAny (model X.prog X.w) X.A (storeName X.env x r) (fun _=>SP X pins D .next) X.xe s₃) X.xe s₂) X.xe s:=by
   refine Zn (he pins s σ H _ I h) fun w s1 ⟨y,H1,I1,r1,q1⟩=>?_
   refine Zn (ho pins s1 σ H1 v y u w _ I1 r r1 q1) fun z s2 ⟨zv,H2,I2,r2,q2⟩=>?_
   exact Xj I2 hN hi hx r2 (fun s3 I3=>⟨_,H2,I3,q2⟩) hf
 rcases l with ⟨hk,hm⟩ | ⟨hk,c,hc,hcell⟩
 · exact wpAny_loadName_local I.ok.kind hk hn hm go
 · rcases hk with hk | hk
   · exact wpAny_loadName_cell I.ok.kind hk hc hcell go
   · rcases hx with k | k
     · have:X.env.scope.names.lookup x=some .free:=hk
       rw [k] at this;cases this
     · have:X.env.scope.names.lookup x=some .free:=hk
       rw [k] at this;cases this
end
section
variable {X:Cx}{pos:Pos}
def Zkv (c:TT)(tb:TS):TS:=fun D σ H=>∃ W:Nat→St→Hp→Prop,(∃ m,W m σ H)∧∀ m σ H,W m σ H →
 c σ H fun b H1=>if b=true then ∃ N:St→Hp→Prop,(∀ σ' H',N σ' H'→∃ m',m' < m∧W m' σ' H')∧tb { D with nx:=N,ct:=N,bk:=D.nx } σ H1 else D.nx σ H1
theorem ZhK {c:Expr}{body:List Stmt}{tc:TT}{tb:TS}(hp:PassesOwn (model X.prog X.w) X.A X.env X.xe)(hc:PT X c tc)(hb:PSs X body tb):PS X (.While c body [] pos) (Zkv tc tb):=by
 intro pins s σ H D I h
 obtain ⟨W,⟨m0,w0⟩,turn⟩:=h
 refine wpAny_While (codeAny_whileLoop (fun n s'=>∃ σ' H',Inv X pins σ' H' s'∧W n σ' H') ?_ m0 ⟨σ,H,I,w0⟩)
 rintro n s1 ⟨σ1,H1,I1,w1⟩
 refine wpAny_passesOwn hp (Zn (hc pins s1 σ1 H1 _ I1 (turn n σ1 H1 w1)) fun b s2 ⟨H2,I2,q2⟩=>?_)
 cases b with
 | true =>
   obtain ⟨N,hN,q2⟩:=q2
   rw [if_pos rfl]
   refine wpAny_passesOwn hp (Zn (hb pins s2 σ1 H2 _ I2 q2) fun f s3 q3=>?_)
   cases f with
   | next =>
     obtain ⟨σ3,H3,I3,n3⟩:=q3
     obtain ⟨m',hm,w3⟩:=hN σ3 H3 n3
     exact ⟨m',hm,σ3,H3,I3,w3⟩
   | cont =>
     obtain ⟨σ3,H3,I3,n3⟩:=q3
     obtain ⟨m',hm,w3⟩:=hN σ3 H3 n3
     exact ⟨m',hm,σ3,H3,I3,w3⟩
   | brk=>exact q3
   | ret v=>exact q3
 | false =>
   rw [if_neg Bool.false_ne_true]
   exact wpAny_execs_nil ⟨σ1,H2,I2,q2⟩
end
structure It where
 go:Nat→Hp→Prop
 yld:Nat→Hp→V→Hp→Prop
 stop:Nat→Hp→Prop
def Yw (X:Cx)(pins:List (Addr×Obj))(H:Hp)(b:Addr):Prop :=
 H b=none∧b≠X.env.locals∧b ∉ X.fs∧(b∈X.ex∨X.s₀.heap.objs.size≤b)∧(∀ x c,X.env.cells.lookup x=some c→c≠b)∧∀ p∈X.pn++pins,p.1≠b
theorem Inv.fpOk {X:Cx}{pins:List (Addr×Obj)}{σ:St}{H H':Hp}{s:Shared}{b:Addr}(I:Inv X pins σ H s)(hb:s.heap.objs.size≤b)(hn:H' b=none):Yw X pins H' b:=by
 refine ⟨hn,Nat.ne_of_gt (Nat.lt_of_lt_of_le I.lt hb),I.nofs hb,.inr (Nat.le_trans I.sz hb),fun x c e z=>?_,fun p hp z=>?_⟩
 · obtain ⟨v,q⟩:=I.cell x c e
   exact absurd (Nat.lt_of_lt_of_le q.lt (by rw [z];exact hb)) (Nat.lt_irrefl _)
 · exact absurd (Nat.lt_of_lt_of_le (Heap.lt_size (I.pin p hp).1) (by rw [z];exact hb)) (Nat.lt_irrefl _)
structure Wx (P:Program)(w:World)(K:PySem.W.Frag)(tg:Expr)(J:It)(fp:List Addr)(it:Addr)(tn:Nat→Heap→Prop):Prop where
 mem:it∈fp
 obj:∀ i h,tn i h→∀ b∈fp,∃ o,h.get? b=some o∧∀ v,o.data≠.cell v
 keep:∀ i h h',tn i h→(∀ b∈fp,∀ o,h.get? b=some o→h'.get? b=some o)→tn i h'
 item:∀ (X:Cx),X.prog=P→X.w=w→X.K=K→X.calm=true→∀ (i:Nat) (pins:List (Addr×Obj)) (s:Shared) (σ:St) (H:Hp) (E:Value→Shared→Prop),Inv X pins σ H s→(∀ b∈fp,Yw X pins H b)→tn i s.heap→J.go i H →
   wpAny (model P w) X.A (pyNext (.ref it)) (fun r s1=>∃ u,r=some u ∧
     wpAny (model P w) X.A (letOwnedTupleGo tg (.ref it) u) (fun _ s2=>∃ x H',Inv X pins σ H' s2∧RelV x u∧J.yld i H x H'∧tn (i+1) s2.heap∧∀ b∈fp,H' b=none) E s1) E s
 done:∀ (X:Cx),X.prog=P→X.w=w→X.K=K→X.calm=true→∀ (i:Nat) (pins:List (Addr×Obj)) (s:Shared) (σ:St) (H:Hp) (E:Value→Shared→Prop),Inv X pins σ H s→(∀ b∈fp,Yw X pins H b)→tn i s.heap→J.stop i H →
   wpAny (model P w) X.A (pyNext (.ref it)) (fun r s1=>r=none∧Inv X pins σ H s1) E s
 self:∀ (A:Around) (i:Nat) (s:Shared) (Q:Value→Shared→Prop) (E:Value→Shared→Prop),tn i s.heap→Q (.ref it) s→wpAny (model P w) A (pyIter (.ref it)) Q E s
abbrev TI:=St→Hp→(It→Hp→Prop)→Prop
def PIE (X:Cx)(pins:List (Addr×Obj))(σ:St)(tg:Expr)(R:It→Hp→Prop)(itv:Value)(s2:Shared):Prop :=
 ∃ (it:Addr) (fp:List Addr) (tn:Nat→Heap→Prop) (J:It) (H':Hp),itv=.ref it∧Inv X pins σ H' s2∧Wx X.prog X.w X.K tg J fp it tn∧tn 0 s2.heap∧(∀ b∈fp,Yw X pins H' b)∧R J H'
def PI (X:Cx)(tg iter:Expr)(wi:TI):Prop :=
 ∀ (pins:List (Addr×Obj)) (s:Shared) (σ:St) (H:Hp) (R:It→Hp→Prop),Inv X pins σ H s→wi σ H R →
   wpAny (model X.prog X.w) X.A (eval iter X.env) (fun v s1=>wpAny (model X.prog X.w) X.A (pyIter v) (PIE X pins σ tg R) X.xe s1) X.xe s
theorem Zam {M:Model}{A:Around}{E:Value→Shared→Prop}{s:Shared}{tg:Expr}{it:Addr}{u:Value}{o:Obj}{n:String}{vs:Array Value}{Q:Unit→Shared→Prop}(ho:s.heap.get? it=some o)(hc:o.cls=.type n)(hd:o.data=.fields vs)
   (hn:["enumerate","zip","dict_itemiterator","dict_reverseitemiterator","odict_iterator","itertools.zip_longest","itertools.pairwise"].contains n=false) (hQ:Q () s):wpAny M A (letOwnedTupleGo tg (.ref it) u) Q E s:=by
 unfold letOwnedTupleGo
 cases tg <;> first
   | exact wpAny_pure hQ
   | (cases u<;>first
       | exact wpAny_pure hQ
       | (refine wpAny_bind (wpAny_load ho ?_)
          rw [hc,hd]
          show wpAny M A (if (["enumerate","zip","dict_itemiterator","dict_reverseitemiterator","odict_iterator","itertools.zip_longest","itertools.pairwise"].contains n&&vs[0]? == some (rawInt _))=true then _ else _) Q E s
          rw [if_neg (by intro h;rw [hn,Bool.false_and] at h;cases h)]
          exact wpAny_pure hQ))
def Itl (K:PySem.W.Frag)(a:Addr):It :=
 ⟨fun i H=>∃ xs x,SqL K H a xs∧xs[i]?=some x,fun i H x H'=>H'=H∧∀ xs,SqL K H a xs→xs[i]?=some x,fun i H=>∃ xs,SqL K H a xs∧xs.length≤i⟩
def Itt (K:PySem.W.Frag)(a:Addr):It :=
 ⟨fun i H=>∃ xs x,SqT K H a xs∧xs[i]?=some x,fun i H x H'=>H'=H∧∀ xs,SqT K H a xs→xs[i]?=some x,fun i H=>∃ xs,SqT K H a xs∧xs.length≤i⟩
def Itr (lo:Int)(n:Nat):It:=⟨fun i _=>i < n,fun i H x H'=>H'=H∧x=.int (lo+i),fun i _=>n≤i⟩
theorem ZfG {P:Program}{w:World}{K:PySem.W.Frag}{tg:Expr}(a it:Addr):Wx P w K tg (Itl K a) [it] it (fun i h=>h.IsListIter it a i) where
 mem:=by simp
 obj:=fun i h st b hb=>by
   have e:b=it:=by simpa using hb
   subst e
   obtain ⟨o,e,c,d⟩:=st
   exact ⟨o,e,fun v z=>by rw [d] at z;cases z⟩
 keep:=fun i h h' st k=>st.at fun o e=>k it (by simp) o e
 item:=by
   intro X hP hw hK hc i pins s σ H E I hf st hg
   subst hP hw hK
   obtain ⟨xs,x,hq,hx⟩:=hg
   obtain ⟨its,rv,p,hz⟩:=I.list hq
   obtain ⟨u,hu,ru⟩:=rv.get hx
   obtain ⟨f0,f1,f2,f3,f4,f5⟩:=hf it (by simp)
   refine wpAny_pyNext_list_item st p.isList (x:=u) (by simpa using hu) fun h' st' sb=>?_
   have I1:Inv X pins σ H { s with heap:=h' }:=I.turned (t':=s.toks) (fun b o hb e=>(sb.2 b hb).trans e) f0 f1 f3 f4 f5
   obtain ⟨o,e,c,d⟩:=id st'
   exact ⟨u,rfl,Zam (s:={ s with heap:=h' }) e c d (by decide) ⟨x,H,I1,ru,⟨rfl,fun ys hy=>by rw [I.list_inj hy hq];exact hx⟩,st',fun b hb=>(hf b hb).1⟩⟩
 done:=by
   intro X hP hw hK hc i pins s σ H E I hf st hg
   subst hP hw hK
   obtain ⟨xs,hq,hx⟩:=hg
   obtain ⟨its,rv,p,hz⟩:=I.list hq
   obtain ⟨f0,f1,f2,f3,f4,f5⟩:=hf it (by simp)
   have hl:=rv.length
   exact wpAny_pyNext_list_end (I.ok.hd hc) st p.isList (by simp;omega) fun h' eb=>⟨rfl,I.turned (t':=s.toks) (fun b o hb e=>eb b o hb e) f0 f1 f3 f4 f5⟩
 self:=fun _ _ _ _ _ st h=>wpAny_pyIter_listiter st h
theorem Zee {P:Program}{w:World}{K:PySem.W.Frag}{tg:Expr}(a it:Addr):Wx P w K tg (Itt K a) [it] it (fun i h=>h.IsTupleIter it a i) where
 mem:=by simp
 obj:=fun i h st b hb=>by
   have e:b=it:=by simpa using hb
   subst e
   obtain ⟨o,e,c,d⟩:=st
   exact ⟨o,e,fun v z=>by rw [d] at z;cases z⟩
 keep:=fun i h h' st k=>st.at fun o e=>k it (by simp) o e
 item:=by
   intro X hP hw hK hc i pins s σ H E I hf st hg
   subst hP hw hK
   obtain ⟨xs,x,hq,hx⟩:=hg
   obtain ⟨its,rv,p,hz⟩:=I.tuple hq
   obtain ⟨u,hu,ru⟩:=rv.get hx
   obtain ⟨f0,f1,f2,f3,f4,f5⟩:=hf it (by simp)
   refine wpAny_pyNext_tuple_item st (show s.heap.IsTuple a its.toArray from p) (x:=u) (by simpa using hu) fun h' st' sb=>?_
   have I1:Inv X pins σ H { s with heap:=h' }:=I.turned (t':=s.toks) (fun b o hb e=>(sb.2 b hb).trans e) f0 f1 f3 f4 f5
   obtain ⟨o,e,c,d⟩:=id st'
   exact ⟨u,rfl,Zam (s:={ s with heap:=h' }) e c d (by decide) ⟨x,H,I1,ru,⟨rfl,fun ys hy=>by rw [I.tuple_inj hy hq];exact hx⟩,st',fun b hb=>(hf b hb).1⟩⟩
 done:=by
   intro X hP hw hK hc i pins s σ H E I hf st hg
   subst hP hw hK
   obtain ⟨xs,hq,hx⟩:=hg
   obtain ⟨its,rv,p,hz⟩:=I.tuple hq
   obtain ⟨f0,f1,f2,f3,f4,f5⟩:=hf it (by simp)
   have hl:=rv.length
   exact wpAny_pyNext_tuple_end (I.ok.hd hc) st (show s.heap.IsTuple a its.toArray from p) (by simp;omega) fun h' eb=>⟨rfl,I.turned (t':=s.toks) (fun b o hb e=>eb b o hb e) f0 f1 f3 f4 f5⟩
 self:=fun _ _ _ _ _ st h=>wpAny_pyIter_tupleiter st h
theorem Zen {P:Program}{w:World}{K:PySem.W.Frag}{tg:Expr}(it:Addr)(lo:Int)(n:Nat):Wx P w K tg (Itr lo n) [it] it (fun i h=>IsRangeIter h it (lo+(i:Nat) * 1) ((n:Int) - (i:Nat)) 1) where
 mem:=by simp
 obj := fun i h st b hb=>by
   have e:b=it:=by simpa using hb
   subst e
   exact ⟨_,st,fun v z=>by
     have z':Data.fields _=Data.cell v:=z
     cases z'⟩
 keep:=fun i h h' st k=>k it (by simp) _ st
 item:=by
   intro X hP hw hK hc i pins s σ H E I hf st hg
   subst hP hw hK
   obtain ⟨f0,f1,f2,f3,f4,f5⟩:=hf it (by simp)
   have W:=Walks.range (prog:=X.prog) (w:=X.w) (I.ok.hd hc) it lo 1 n
   refine W.item i s _ _ hg st fun v h' tk hv st' kk=>?_
   obtain ⟨t,rfl⟩:=hv
   have I1:Inv X pins σ H { s with heap:=h',toks:=tk }:=I.turned (fun b o hb e=>kk b o (by simpa using hb) e) f0 f1 f3 f4 f5
   refine ⟨_,rfl,Zam (s:={ s with heap:=h',toks:=tk }) (n:="range_iterator") st' rfl rfl (by decide) ⟨.int (lo+i),H,I1,⟨t,?_⟩,⟨rfl,rfl⟩,st',fun b hb=>(hf b hb).1⟩⟩
   rw [Int.mul_one]
 done:=by
   intro X hP hw hK hc i pins s σ H E I hf st hg
   subst hP hw hK
   obtain ⟨f0,f1,f2,f3,f4,f5⟩:=hf it (by simp)
   exact wpAny_pyNext_range_end (I.ok.hd hc) st (by have:n≤i:=hg;omega) fun h' eb=>⟨rfl,I.turned (t':=s.toks) (fun b o hb e=>eb b o hb e) f0 f1 f3 f4 f5⟩
 self:=fun _ _ _ _ _ st h=>wpAny_pyIter_rangeiter st h
end L2
namespace L2
open PySem PySem.Spec PyProof.Rows
section
variable {X:Cx}{tg:Expr}
def Zlx (K:PySem.W.Frag)(tl:TE):TI:=fun σ H R=>tl σ H fun x H1=>∃ a,x=.ref a∧(∃ xs,SqL K H1 a xs)∧R (Itl K a) H1
def iTup (K:PySem.W.Frag)(tl:TE):TI:=fun σ H R=>tl σ H fun x H1=>∃ a,x=.ref a∧(∃ xs,SqT K H1 a xs)∧R (Itt K a) H1
theorem Xp {l:Expr}{tl:TE}(hl:PE X l tl):PI X tg l (Zlx X.K tl):=by
 intro pins s σ H R I h
 refine Zn (hl pins s σ H _ I h) fun v s1 ⟨x,H1,I1,r1,q1⟩=>?_
 obtain ⟨a,e,⟨xs,hq⟩,q⟩:=q1
 subst e
 cases r1
 obtain ⟨its,rv,p,hz⟩:=I1.list hq
 refine wpAny_pyIter_list p.isList ?_
 refine ⟨s1.heap.objs.size,[s1.heap.objs.size],_,_,H1,rfl,I1.kept (t':=s1.toks) fun b o e=>Heap.get?_push_of_some _ e,ZfG a _,⟨_,Heap.get?_push_size _ rfl,rfl,rfl⟩,fun b hb=>?_,q⟩
 have e:b=s1.heap.objs.size:=by simpa using hb
 subst e
 exact I1.fpOk (Nat.le_refl _) (I1.hok.fresh (Nat.le_refl _))
theorem Zci {l:Expr}{tl:TE}(hl:PE X l tl):PI X tg l (iTup X.K tl):=by
 intro pins s σ H R I h
 refine Zn (hl pins s σ H _ I h) fun v s1 ⟨x,H1,I1,r1,q1⟩=>?_
 obtain ⟨a,e,⟨xs,hq⟩,q⟩:=q1
 subst e
 cases r1
 obtain ⟨its,rv,p,hz⟩:=I1.tuple hq
 refine wpAny_pyIter_tuple (show s1.heap.IsTuple a its.toArray from p) ?_
 refine ⟨s1.heap.objs.size,[s1.heap.objs.size],_,_,H1,rfl,I1.kept (t':=s1.toks) fun b o e=>Heap.get?_push_of_some _ e,Zee a _,⟨_,Heap.get?_push_size _ rfl,rfl,rfl⟩,fun b hb=>?_,q⟩
 have e:b=s1.heap.objs.size:=by simpa using hb
 subst e
 exact I1.fpOk (Nat.le_refl _) (I1.hok.fresh (Nat.le_refl _))
theorem ZhC {pins:List (Addr×Obj)}{σ:St}{H:Hp}{s:Shared}{R:It→Hp→Prop}{E:Value→Shared→Prop}{lo hi:Int}{t u v:Tok}{tk:Nat}(I:Inv X pins σ H s)(h1:-(2 ^ 62)≤lo)(h2:lo < 2 ^ 62)(h3:-(2 ^ 62)≤hi)(h4:hi < 2 ^ 62)
   (q:R (Itr lo (hi - lo).toNat) H):wpAny (model X.prog X.w) X.A (pyIter (.ref s.heap.objs.size)) (PIE X pins σ tg R) E { s with heap:=s.heap.push { cls:=.type "range",data:=.fields #[.int lo t,.int hi u,.int 1 v] },toks:=tk }:=by
 refine wpAny_pyIter_range (IsRange.new ..) (small_one h1 h2 h3 h4) ?_
 have I1:Inv X pins σ H { s with heap:=s.heap.push { cls:=.type "range",data:=.fields #[.int lo t,.int hi u,.int 1 v] },toks:=tk }:=I.kept fun b o e=>Heap.get?_push_of_some _ e
 refine ⟨(s.heap.push { cls:=.type "range",data:=.fields #[.int lo t,.int hi u,.int 1 v] }).objs.size,[(s.heap.push { cls:=.type "range",data:=.fields #[.int lo t,.int hi u,.int 1 v] }).objs.size],_,_,H,rfl,
   I1.kept (t':=tk) fun b o e=>Heap.get?_push_of_some _ e,Zen _ lo (hi - lo).toNat,?_,fun b hb=>?_,q⟩
 · have e1:lo+((0:Nat):Int) * 1=lo:=by simp
   have e2:(((hi - lo).toNat:Nat):Int) - ((0:Nat):Int)=Builtin.Range.rangeSize lo hi 1:=by rw [rangeSize_one];split<;>omega
   show IsRangeIter _ _ (lo+((0:Nat):Int) * 1) ((((hi - lo).toNat:Nat):Int) - ((0:Nat):Int)) 1
   rw [e1,e2]
   exact Heap.get?_push_size _ rfl
 · have e:b=(s.heap.push { cls:=.type "range",data:=.fields #[.int lo t,.int hi u,.int 1 v] }).objs.size:=by simpa using hb
   subst e
   exact I1.fpOk (Nat.le_refl _) (I1.hok.fresh (Nat.le_refl _))
def ZlT (ta:TA):TI:=fun σ H R=>ta σ H fun vs H1=>∃ j:Int,vs=[.int j]∧-(2 ^ 62)≤j∧j < 2 ^ 62∧R (Itr 0 j.toNat) H1
theorem WA {a:Expr}{ta:TA}{p pos:Pos}(hg:Gl X "range")(hm:X.mg "range"=none)(ha:PA X [a] ta)(hs:starEach [a] X.env=[(false,eval a X.env)]:=by rfl):PI X tg (.Call (.Name "range" p) [a] [] pos) (ZlT ta):=by
 intro pins s σ H R I h
 refine Call_ (WC I hg hm boot_range (PyProof.Rows.callWith_type1 (Zn (ha pos pins s σ H _ I h) fun us s1 ⟨vs,H1,I1,r1,q1⟩=>?_) hs rfl))
 obtain ⟨j,e,q1,q2,q⟩:=q1
 subst e
 cases r1 with
 | cons r rr =>
   cases rr
   obtain ⟨t,rfl⟩:=r
   exact call_range_1 (ZhC I1 (by omega) (by omega) q1 q2 (by simpa using q))
def tFor (wi:TI)(g:TG)(tb:TS):TS:=fun D σ H=>wi σ H fun J H1=>∃ W:Nat→Nat→St→Hp→Prop,(∃ m,W 0 m σ H1)∧∀ i m σ H,W i m σ H →
 (J.stop i H∧D.nx σ H)∨(J.go i H∧∃ N:St→Hp→Prop,(∀ σ' H',N σ' H'→∃ m',m' < m∧W (i+1) m' σ' H')∧∀ x H',J.yld i H x H'→g x σ H' fun σ2 H2=>tb { D with nx:=N,ct:=N,bk:=D.nx } σ2 H2)
def Zaq (fp:List Addr)(h:Heap):List (Addr×Obj):=fp.filterMap fun b=>(h.get? b).map fun o=>(b,o)
theorem YE {fp:List Addr}{h:Heap}{b:Addr}{o:Obj}(hb:b∈fp)(e:h.get? b=some o):(b,o)∈Zaq fp h:=List.mem_filterMap.mpr ⟨b,hb,by rw [e];rfl⟩
theorem Zfd {fp:List Addr}{h:Heap}{p:Addr×Obj}(hp:p∈Zaq fp h):p.1∈fp∧h.get? p.1=some p.2:=by
 obtain ⟨b,hb,e⟩:=List.mem_filterMap.mp hp
 cases q:h.get? b with
 | none=>rw [q] at e;cases e
 | some o =>
   rw [q] at e
   have e':(b,o)=p:=Option.some.inj e
   subst e'
   exact ⟨hb,q⟩
theorem Inv.pinned {pins:List (Addr×Obj)}{σ:St}{H:Hp}{s:Shared}{fp:List Addr}(I:Inv X pins σ H s)(hf:∀ b∈fp,Yw X pins H b)(ho:∀ b∈fp,∃ o,s.heap.get? b=some o∧∀ v,o.data≠.cell v):Inv X (pins++Zaq fp s.heap) σ H s :=
 I.pins_of fun p hp=>(List.mem_append.mp hp).elim (fun z=>I.pin p (List.mem_append_right _ z)) fun z=>by
   obtain ⟨hb,e⟩:=Zfd z
   obtain ⟨f0,f1,f2,_⟩:=hf p.1 hb
   obtain ⟨o,e',d⟩:=ho p.1 hb
   rw [e] at e';cases e'
   exact ⟨e,f0,f1,f2,d⟩
theorem Inv.unpinned {pins pl:List (Addr×Obj)}{σ:St}{H:Hp}{s:Shared}(I:Inv X (pins++pl) σ H s):Inv X pins σ H s:=I.pins_of fun p hp=>I.pin p (List.mem_append_right _ (List.mem_append_left _ hp))
theorem XE {iter:Expr}{body:List Stmt}{wi:TI}{g:TG}{tb:TS}{pos:Pos}(hp:PassesOwn (model X.prog X.w) X.A X.env X.xe)(hc:X.calm=true)(hi:PI X tg iter wi)(hg:PG X tg g)(hb:PSs X body tb)
   (hs:∀ x,foldedSetIterable iter X.env x=pure x:=by intro _;rfl):PS X (.For tg iter body [] pos) (tFor wi g tb):=by
 intro pins s σ H D I h
 refine wpAny_For (Zn (hi pins s σ H _ I h) fun v s1 h1=>Zn h1 fun itv s2 h2=>?_) hs
 obtain ⟨it,fp,tn,J,H2,e,I2,T,st2,f2,W,⟨m0,w0⟩,turn⟩:=h2
 subst e
 have stat:∀ {H':Hp},(∀ b∈fp,H' b=none)→∀ b∈fp,Yw X pins H' b:=fun hn b hb=>⟨hn b hb,(f2 b hb).2⟩
 refine codeAny_forLoop_any (fun n s'=>∃ i σ' H',Inv X pins σ' H' s'∧tn i s'.heap∧(∀ b∈fp,H' b=none)∧W i n σ' H') ?_ m0 ⟨0,σ,H2,I2,st2,fun b hb=>(f2 b hb).1,w0⟩
 rintro n s3 ⟨i,σ3,H3,I3,st3,fr3,w3⟩
 rcases turn i n σ3 H3 w3 with ⟨stop,qn⟩ | ⟨go,N,hN,step⟩
 · refine wpAny_passesOwn hp (Zn (T.done X rfl rfl rfl hc i pins s3 σ3 H3 X.xe I3 (stat fr3) st3 stop) fun r s4 ⟨hr,I4⟩=>?_)
   subst hr
   exact wpAny_execs_nil ⟨σ3,H3,I4,qn⟩
 · refine wpAny_passesOwn hp (Zn (T.item X rfl rfl rfl hc i pins s3 σ3 H3 X.xe I3 (stat fr3) st3 go) fun r s4 ⟨u,hr,h4⟩=>?_)
   subst hr
   refine wpAny_passesOwn hp (Zn h4 fun _ s5 ⟨x,H5,I5,r5,y5,st5,fr5⟩=>?_)
   have I5':=I5.pinned (stat fr5) (T.obj _ _ st5)
   refine wpAny_passesOwn hp (Zn (hg _ s5 σ3 H5 x u _ I5' r5 (step x H5 y5)) fun _ s6 ⟨σ6,H6,I6,q6⟩=>?_)
   refine wpAny_passesOwn hp (Zn (hb _ s6 σ6 H6 _ I6 q6) fun f s7 q7=>?_)
   have again:∀ {σ7:St} {H7:Hp},Inv X (pins++Zaq fp s5.heap) σ7 H7 s7→N σ7 H7→∃ m,m < n∧∃ i σ' H',Inv X pins σ' H' s7∧tn i s7.heap∧(∀ b∈fp,H' b=none)∧W i m σ' H':=fun {σ7 H7} I7 n7=>by
     obtain ⟨m',hm,w7⟩:=hN σ7 H7 n7
     refine ⟨m',hm,i+1,σ7,H7,I7.unpinned,T.keep _ _ _ st5 fun b hb o e=>(I7.pin (b,o) (List.mem_append_right _ (List.mem_append_right _ (YE hb e)))).1,fun b hb=>?_,w7⟩
     obtain ⟨o,e,d⟩:=T.obj _ _ st5 b hb
     exact (I7.pin (b,o) (List.mem_append_right _ (List.mem_append_right _ (YE hb e)))).2.1
   cases f with
   | next=>obtain ⟨σ7,H7,I7,n7⟩:=q7;exact again I7 n7
   | cont=>obtain ⟨σ7,H7,I7,n7⟩:=q7;exact again I7 n7
   | brk=>obtain ⟨σ7,H7,I7,q7⟩:=q7;exact ⟨σ7,H7,I7.unpinned,q7⟩
   | ret v=>obtain ⟨x7,σ7,H7,I7,r7,q7⟩:=q7;exact ⟨x7,σ7,H7,I7.unpinned,r7,q7⟩
end
theorem UT {K:PySem.W.Frag}{a:Addr}{xs:List V}{g:TG}{tb:TS}{D:WJ}{σ:St}{H:Hp}(Pv:Nat→St→Hp→Prop)(h0:Pv 0 σ H)(hl:∀ i σ H,i≤xs.length→Pv i σ H→SqL K H a xs)
   (hs:∀ i x σ H,xs[i]?=some x→Pv i σ H→g x σ H fun σ2 H2=>tb { D with nx:=Pv (i+1),ct:=Pv (i+1),bk:=D.nx } σ2 H2) (hd:∀ σ H,Pv xs.length σ H→D.nx σ H) :
   ∃ W:Nat→Nat→St→Hp→Prop,(∃ m,W 0 m σ H)∧∀ i m σ H,W i m σ H →
     ((Itl K a).stop i H∧D.nx σ H)∨((Itl K a).go i H∧∃ N:St→Hp→Prop,(∀ σ' H',N σ' H'→∃ m',m' < m∧W (i+1) m' σ' H')∧∀ x H',(Itl K a).yld i H x H'→g x σ H' fun σ2 H2=>tb { D with nx:=N,ct:=N,bk:=D.nx } σ2 H2):=by
 refine ⟨fun i m σ H=>m=xs.length - i∧i≤xs.length∧Pv i σ H,⟨xs.length,by simp,Nat.zero_le _,h0⟩,?_⟩
 rintro i m σ H ⟨rfl,hi,p⟩
 have q:=hl i σ H hi p
 by_cases hlt:i < xs.length
 · refine .inr ⟨⟨xs,xs[i],q,by simp [hlt]⟩,Pv (i+1),fun σ' H' p'=>⟨xs.length - (i+1),by omega,rfl,hlt,p'⟩,fun x H' y=>?_⟩
   obtain ⟨e,y⟩:=y
   subst e
   exact hs i x σ _ (y xs q) p
 · have e:i=xs.length:=by omega
   subst e
   exact .inl ⟨⟨xs,q,Nat.le_refl _⟩,hd σ H p⟩
theorem Zju {K:PySem.W.Frag}{a:Addr}{xs:List V}{g:TG}{tb:TS}{D:WJ}{σ:St}{H:Hp}(Pv:Nat→St→Hp→Prop)(h0:Pv 0 σ H)(hl:∀ i σ H,i≤xs.length→Pv i σ H→SqT K H a xs)
   (hs:∀ i x σ H,xs[i]?=some x→Pv i σ H→g x σ H fun σ2 H2=>tb { D with nx:=Pv (i+1),ct:=Pv (i+1),bk:=D.nx } σ2 H2) (hd:∀ σ H,Pv xs.length σ H→D.nx σ H) :
   ∃ W:Nat→Nat→St→Hp→Prop,(∃ m,W 0 m σ H)∧∀ i m σ H,W i m σ H →
     ((Itt K a).stop i H∧D.nx σ H)∨((Itt K a).go i H∧∃ N:St→Hp→Prop,(∀ σ' H',N σ' H'→∃ m',m' < m∧W (i+1) m' σ' H')∧∀ x H',(Itt K a).yld i H x H'→g x σ H' fun σ2 H2=>tb { D with nx:=N,ct:=N,bk:=D.nx } σ2 H2):=by
 refine ⟨fun i m σ H=>m=xs.length - i∧i≤xs.length∧Pv i σ H,⟨xs.length,by simp,Nat.zero_le _,h0⟩,?_⟩
 rintro i m σ H ⟨rfl,hi,p⟩
 have q:=hl i σ H hi p
 by_cases hlt:i < xs.length
 · refine .inr ⟨⟨xs,xs[i],q,by simp [hlt]⟩,Pv (i+1),fun σ' H' p'=>⟨xs.length - (i+1),by omega,rfl,hlt,p'⟩,fun x H' y=>?_⟩
   obtain ⟨e,y⟩:=y
   subst e
   exact hs i x σ _ (y xs q) p
 · have e:i=xs.length:=by omega
   subst e
   exact .inl ⟨⟨xs,q,Nat.le_refl _⟩,hd σ H p⟩
theorem Zbz {lo:Int}{n:Nat}{g:TG}{tb:TS}{D:WJ}{σ:St}{H:Hp}(Pv:Nat→St→Hp→Prop)(h0:Pv 0 σ H)
   (hs:∀ i σ H,i < n→Pv i σ H→g (.int (lo+i)) σ H fun σ2 H2=>tb { D with nx:=Pv (i+1),ct:=Pv (i+1),bk:=D.nx } σ2 H2) (hd:∀ σ H,Pv n σ H→D.nx σ H) :
   ∃ W:Nat→Nat→St→Hp→Prop,(∃ m,W 0 m σ H)∧∀ i m σ H,W i m σ H →
     ((Itr lo n).stop i H∧D.nx σ H)∨((Itr lo n).go i H∧∃ N:St→Hp→Prop,(∀ σ' H',N σ' H'→∃ m',m' < m∧W (i+1) m' σ' H')∧∀ x H',(Itr lo n).yld i H x H'→g x σ H' fun σ2 H2=>tb { D with nx:=N,ct:=N,bk:=D.nx } σ2 H2):=by
 refine ⟨fun i m σ H=>m=n - i∧i≤n∧Pv i σ H,⟨n,by simp,Nat.zero_le _,h0⟩,?_⟩
 rintro i m σ H ⟨rfl,hi,p⟩
 by_cases hlt:i < n
 · refine .inr ⟨hlt,Pv (i+1),fun σ' H' p'=>⟨n - (i+1),by omega,rfl,hlt,p'⟩,fun x H' y=>?_⟩
   obtain ⟨e,y⟩:=y
   subst e y
   exact hs i σ _ hlt p
 · have e:i=n:=by omega
   subst e
   exact .inl ⟨Nat.le_refl _,hd σ H p⟩
end L2
namespace L2
open PySem PySem.Spec PyProof.Rows
abbrev R2:=V→V→Hp→VK→Prop
def YM (X:Cx)(f:Value→Value→Sem Value)(r:R2):Prop :=
 ∀ (pins:List (Addr×Obj)) (s:Shared) (σ:St) (H:Hp) (x y:V) (v u:Value) (Q:VK),Inv X pins σ H s→RelV x v→RelV y u→r x y H Q →
   wpAny (model X.prog X.w) X.A (f v u) (EP X pins σ Q) X.xe s
def UnR (X:Cx)(f:Value→Sem Value)(r:V→Hp→VK→Prop):Prop :=
 ∀ (pins:List (Addr×Obj)) (s:Shared) (σ:St) (H:Hp) (x:V) (v:Value) (Q:VK),Inv X pins σ H s→RelV x v→r x H Q →
   wpAny (model X.prog X.w) X.A (f v) (EP X pins σ Q) X.xe s
def YO (X:Cx)(f:Value)(r:List V→Hp→VK→Prop):Prop :=
 ∀ (pins:List (Addr×Obj)) (s:Shared) (σ:St) (H:Hp) (xs:List V) (us:List Value) (Q:VK),Inv X pins σ H s→Vals xs us→r xs H Q →
   wpAny (model X.prog X.w) X.A (call f us) (EP X pins σ Q) X.xe s
def tOp (r:R2)(ta tb:TE):TE:=fun σ H Q=>ta σ H fun x H1=>tb σ H1 fun y H2=>r x y H2 Q
def tUn (r:V→Hp→VK→Prop)(ta:TE):TE:=fun σ H Q=>ta σ H fun x H1=>r x H1 Q
def rI (C:Int→Int→Prop)(g:Int→Int→V):R2:=fun x y H Q=>∃ i j,x=.int i∧y=.int j∧C i j∧Q (g i j) H
def rI0 (g:Int→Int→V):R2:=fun x y H Q=>∃ i j,x=.int i∧y=.int j∧Q (g i j) H
def rU (g:Int→V):V→Hp→VK→Prop:=fun x H Q=>∃ i,x=.int i∧Q (g i) H
section
variable {X:Cx}{a b c:Expr}{ta tb tc:TE}{pos:Pos}
theorem ZhN (ha:PE X a ta)(hb:PE X b tb){pins:List (Addr×Obj)}{s:Shared}{σ:St}{H:Hp}{R:V→V→Hp→Prop}(I:Inv X pins σ H s)
   (h:ta σ H fun x H1=>tb σ H1 fun y H2=>R x y H2) {Q:Value→Shared→Prop} {f:Value→Value→Sem Value}
   (hf:∀ v u s2 x y H2,Inv X pins σ H2 s2→RelV x v→RelV y u→R x y H2→wpAny (model X.prog X.w) X.A (f v u) Q X.xe s2) :
   wpAny (model X.prog X.w) X.A (eval a X.env) (fun v s₁=>wpAny (model X.prog X.w) X.A (eval b X.env) (fun u s₂=>wpAny (model X.prog X.w) X.A (f v u) Q X.xe s₂) X.xe s₁) X.xe s:=by
 refine Zn (ha pins s σ H _ I h) fun v s1 ⟨x,H1,I1,r1,q1⟩=>?_
 refine Zn (hb pins s1 σ H1 _ I1 q1) fun u s2 ⟨y,H2,I2,r2,q2⟩=>?_
 exact hf v u s2 x y H2 I2 r1 r2 q2
theorem Zl {op:Operator}{r:R2}(ho:YM X (binaryOp op) r)(ha:PE X a ta)(hb:PE X b tb):PE X (.BinOp a op b pos) (tOp r ta tb):=by
 intro pins s σ H Q I h
 exact wpAny_BinOp (ZhN ha hb I h fun v u s2 x y H2 I2 rx ry q=>ho pins s2 σ H2 x y v u Q I2 rx ry q)
theorem ZbV {op:UnaryOp}{r:V→Hp→VK→Prop}(ho:UnR X (unaryOp op) r)(ha:PE X a ta):PE X (.UnaryOp op a pos) (tUn r ta):=by
 intro pins s σ H Q I h
 exact UnaryOp_ (Zn (ha pins s σ H _ I h) fun v s1 ⟨x,H1,I1,r1,q1⟩=>ho pins s1 σ H1 x v Q I1 r1 q1)
theorem opI {f:Value→Value→Sem Value}{C:Int→Int→Prop}{g:Int→Int→Int}
   (rule:∀ (i j:Int) (t u:Tok) (s:Shared) (Q:Value→Shared→Prop) (E:Value→Shared→Prop),C i j→Q (.int (g i j) s.toks) { s with toks:=s.toks+1 }→wpAny (model X.prog X.w) X.A (f (.int i t) (.int j u)) Q E s) :
   YM X f (rI C fun i j=>.int (g i j)):=by
 intro pins s σ H x y v u Q I rx ry h
 obtain ⟨i,j,rfl,rfl,hc,q⟩:=h
 obtain ⟨t,rfl⟩:=rx
 obtain ⟨t',rfl⟩:=ry
 exact rule i j t t' s _ _ hc ⟨.int (g i j),H,I.tok _,⟨_,rfl⟩,q⟩
theorem opI0 {f:Value→Value→Sem Value}{g:Int→Int→Int}
   (rule:∀ (i j:Int) (t u:Tok) (s:Shared) (Q:Value→Shared→Prop) (E:Value→Shared→Prop),Q (.int (g i j) s.toks) { s with toks:=s.toks+1 }→wpAny (model X.prog X.w) X.A (f (.int i t) (.int j u)) Q E s) :
   YM X f (rI0 fun i j=>.int (g i j)):=by
 intro pins s σ H x y v u Q I rx ry h
 obtain ⟨i,j,rfl,rfl,q⟩:=h
 obtain ⟨t,rfl⟩:=rx
 obtain ⟨t',rfl⟩:=ry
 exact rule i j t t' s _ _ ⟨.int (g i j),H,I.tok _,⟨_,rfl⟩,q⟩
theorem Zes {f:Value→Value→Sem Value}{g:Int→Int→Bool}
   (rule:∀ (i j:Int) (t u:Tok) (s:Shared) (Q:Value→Shared→Prop) (E:Value→Shared→Prop),Q (.bool (g i j)) s→wpAny (model X.prog X.w) X.A (f (.int i t) (.int j u)) Q E s) :
   YM X f (rI0 fun i j=>.bl (g i j)):=by
 intro pins s σ H x y v u Q I rx ry h
 obtain ⟨i,j,rfl,rfl,q⟩:=h
 obtain ⟨t,rfl⟩:=rx
 obtain ⟨t',rfl⟩:=ry
 exact rule i j t t' s _ _ ⟨.bl (g i j),H,I,rfl,q⟩
def CDiv (i j:Int):Prop:=0 < j∧j < 1073741824
def CPow (i j:Int):Prop:=0≤j∧j≤1000000∧i.natAbs < 2 ^ 64
def CMul (i j:Int):Prop:=(-(2 ^ 64) < i∧i < 2 ^ 64)∨(-(2 ^ 64) < j∧j < 2 ^ 64)
theorem CMul.ok {i j:Int}(h:CMul i j):IntMulOk i j:=by
 rcases h with ⟨h1,h2⟩ | ⟨h1,h2⟩
 · exact .of_left (intBits_le_64 h1 h2)
 · exact .of_right (intBits_le_64 h1 h2)
theorem Ye:YM X (binaryOp .Add) (rI0 fun i j=>.int (i+j)):=opI0 fun _ _ _ _ _ _ _ q=>add_int q
theorem XA:YM X (binaryOp .Sub) (rI0 fun i j=>.int (i - j)):=opI0 fun _ _ _ _ _ _ _ q=>sub_int q
theorem Ug:YM X (binaryOp .Mult) (rI CMul fun i j=>.int (i * j)):=opI fun _ _ _ _ _ _ _ hc q=>mul_int q hc.ok
theorem Zjk:YM X (binaryOp .FloorDiv) (rI CDiv fun i j=>.int (i / j)):=opI fun i j _ _ _ _ _ hc q=>by
 have h1:(0:Int) < j:=hc.1
 have h2:j < 1073741824:=hc.2
 exact floordiv_int (by omega) (by rw [Int.fdiv_eq_ediv_of_nonneg i (by omega)];exact q) (.inl (PyProof.noPylong_small (by omega)))
theorem Wh:YM X (binaryOp .Mod) (rI (fun _ j=>0 < j) fun i j=>.int (i % j)):=opI fun i j _ _ _ _ _ hc q=>by
 have h1:(0:Int) < j:=hc
 exact mod_int' (by omega) (by rw [Int.fmod_eq_emod_of_nonneg i (by omega)];exact q)
theorem ZaM:YM X (binaryOp .Pow) (rI CPow fun i j=>.int (i ^ j.toNat)):=opI fun _ _ _ _ _ _ _ hc q=>pow_int_small hc.1 hc.2.1 hc.2.2 q
theorem unI {f:Value→Sem Value}{g:Int→Int}
   (rule:∀ (i:Int) (t:Tok) (s:Shared) (Q:Value→Shared→Prop) (E:Value→Shared→Prop),Q (.int (g i) s.toks) { s with toks:=s.toks+1 }→wpAny (model X.prog X.w) X.A (f (.int i t)) Q E s) :
   UnR X f (rU fun i=>.int (g i)):=by
 intro pins s σ H x v Q I rx h
 obtain ⟨i,rfl,q⟩:=h
 obtain ⟨t,rfl⟩:=rx
 exact rule i t s _ _ ⟨.int (g i),H,I.tok _,⟨_,rfl⟩,q⟩
theorem Zap:UnR X (unaryOp .USub) (rU fun i=>.int (-i)):=unI fun _ _ _ _ _ q=>neg_int q
end
def ZeK:V→V→Bool
 | .non,.non=>true | .non,.int _=>true | .int _,.non=>true | .non,.bl _=>true | .bl _,.non=>true | .non,.str _=>true | .str _,.non=>true
 | .int _,.int _=>true | .bl _,.bl _=>true | .str _,.str _=>true | .byt _,.byt _=>true
 | .int _,.str _=>true | .str _,.int _=>true | .bl _,.str _=>true | .str _,.bl _=>true
 | _,_=>false
def rEq:R2:=fun x y H Q=>ZeK x y=true∧Q (.bl (decide (x=y))) H
def rNe:R2:=fun x y H Q=>ZeK x y=true∧Q (.bl (!decide (x=y))) H
theorem Zdn {i j:Int}:decide (V.int i=V.int j)=(i == j):=by
 rw [Bool.eq_iff_iff]
 simp
theorem ZfU {i j:Bool}:decide (V.bl i=V.bl j)=(i == j):=by
 rw [Bool.eq_iff_iff]
 simp
theorem ZdR {i j:Str}:decide (V.str i=V.str j)=(i == j):=by
 rw [Bool.eq_iff_iff]
 simp
theorem Zdv {i j:Array UInt8}:decide (V.byt i=V.byt j)=(i.toList == j.toList):=by
 rw [Bool.eq_iff_iff]
 cases i
 cases j
 simp
section
variable {X:Cx}{a b c:Expr}{ta tb tc:TE}{pos:Pos}
theorem ZN {pins:List (Addr×Obj)}{σ:St}{H:Hp}{s:Shared}{Q:VK}{k k':Bool}(I:Inv X pins σ H s)(q:Q (.bl k) H)(e:k=k'):EP X pins σ Q (.bool k') s:=by
 subst e
 exact ⟨.bl k,H,I,rfl,q⟩
theorem YW:YM X (compareOp .Eq) rEq:=by
 intro pins s σ H x y v u Q I rx ry h
 obtain ⟨hs,q⟩:=h
 cases x with
 | non =>
   cases rx
   cases y with
   | non=>cases ry;exact PySem.EqNone.eq_none_none (ZN I q (by simp))
   | bl j=>cases ry;exact PySem.EqNone.eq_none_bool (ZN I q (by simp))
   | int j=>obtain ⟨t',rfl⟩:=ry;exact PySem.EqNone.eq_none_int (ZN I q (by simp))
   | str j=>obtain ⟨t',rfl⟩:=ry;exact PySem.EqNone.eq_none_str (ZN I q (by simp))
   | _=>exact absurd (show false=true from hs) Bool.false_ne_true
 | bl i =>
   cases rx
   cases y with
   | non=>cases ry;exact PySem.EqNone.eq_bool_none (ZN I q (by simp))
   | bl j=>cases ry;exact eq_bool (ZN I q ZfU)
   | str j=>obtain ⟨t',rfl⟩:=ry;exact PySem.EqMixed.eq_bool_str (ZN I q (by simp))
   | _=>exact absurd (show false=true from hs) Bool.false_ne_true
 | int i =>
   obtain ⟨t,rfl⟩:=rx
   cases y with
   | non=>cases ry;exact PySem.EqNone.eq_int_none (ZN I q (by simp))
   | int j=>obtain ⟨t',rfl⟩:=ry;exact eq_int (ZN I q Zdn)
   | str j=>obtain ⟨t',rfl⟩:=ry;exact PySem.EqMixed.eq_int_str (ZN I q (by simp))
   | _=>exact absurd (show false=true from hs) Bool.false_ne_true
 | str i =>
   obtain ⟨t,rfl⟩:=rx
   cases y with
   | non=>cases ry;exact PySem.EqNone.eq_str_none (ZN I q (by simp))
   | bl j=>cases ry;exact PySem.EqMixed.eq_str_bool (ZN I q (by simp))
   | int j=>obtain ⟨t',rfl⟩:=ry;exact PySem.EqMixed.eq_str_int (ZN I q (by simp))
   | str j=>obtain ⟨t',rfl⟩:=ry;exact eq_str (ZN I q ZdR)
   | _=>exact absurd (show false=true from hs) Bool.false_ne_true
 | byt i =>
   obtain ⟨t,rfl⟩:=rx
   cases y with
   | byt j=>obtain ⟨t',rfl⟩:=ry;exact PySem.W.eq_bytes (ZN I q Zdv)
   | _=>exact absurd (show false=true from hs) Bool.false_ne_true
 | _=>cases y<;>exact absurd (show false=true from hs) Bool.false_ne_true
theorem UX:YM X (compareOp .NotEq) rNe:=by
 intro pins s σ H x y v u Q I rx ry h
 obtain ⟨hs,q⟩:=h
 cases x with
 | non =>
   cases rx
   cases y with
   | non=>cases ry;exact PySem.EqNone.ne_none_none (ZN I q (by simp))
   | bl j=>cases ry;exact PySem.EqNone.ne_none_bool (ZN I q (by simp))
   | int j=>obtain ⟨t',rfl⟩:=ry;exact PySem.EqNone.ne_none_int (ZN I q (by simp))
   | str j=>obtain ⟨t',rfl⟩:=ry;exact PySem.EqNone.ne_none_str (ZN I q (by simp))
   | _=>exact absurd (show false=true from hs) Bool.false_ne_true
 | bl i =>
   cases rx
   cases y with
   | non=>cases ry;exact PySem.EqNone.ne_bool_none (ZN I q (by simp))
   | bl j=>cases ry;exact ne_bool (ZN I q (congrArg not ZfU))
   | str j=>obtain ⟨t',rfl⟩:=ry;exact PySem.EqMixed.ne_bool_str (ZN I q (by simp))
   | _=>exact absurd (show false=true from hs) Bool.false_ne_true
 | int i =>
   obtain ⟨t,rfl⟩:=rx
   cases y with
   | non=>cases ry;exact PySem.EqNone.ne_int_none (ZN I q (by simp))
   | int j=>obtain ⟨t',rfl⟩:=ry;exact ne_int (ZN I q (congrArg not Zdn))
   | str j=>obtain ⟨t',rfl⟩:=ry;exact PySem.EqMixed.ne_int_str (ZN I q (by simp))
   | _=>exact absurd (show false=true from hs) Bool.false_ne_true
 | str i =>
   obtain ⟨t,rfl⟩:=rx
   cases y with
   | non=>cases ry;exact PySem.EqNone.ne_str_none (ZN I q (by simp))
   | bl j=>cases ry;exact PySem.EqMixed.ne_str_bool (ZN I q (by simp))
   | int j=>obtain ⟨t',rfl⟩:=ry;exact PySem.EqMixed.ne_str_int (ZN I q (by simp))
   | str j=>obtain ⟨t',rfl⟩:=ry;exact ne_str (ZN I q (congrArg not ZdR))
   | _=>exact absurd (show false=true from hs) Bool.false_ne_true
 | byt i =>
   obtain ⟨t,rfl⟩:=rx
   cases y with
   | byt j=>obtain ⟨t',rfl⟩:=ry;exact PySem.W.ne_bytes (ZN I q (congrArg not Zdv))
   | _=>exact absurd (show false=true from hs) Bool.false_ne_true
 | _=>cases y<;>exact absurd (show false=true from hs) Bool.false_ne_true
theorem VF:YM X (compareOp .Lt) (rI0 fun i j=>.bl (decide (i < j))):=Zes fun _ _ _ _ _ _ _ q=>lt_int q
theorem VL:YM X (compareOp .LtE) (rI0 fun i j=>.bl (decide (i≤j))):=Zes fun _ _ _ _ _ _ _ q=>le_int q
theorem ZbQ:YM X (compareOp .Gt) (rI0 fun i j=>.bl (decide (j < i))):=Zes fun _ _ _ _ _ _ _ q=>gt_int q
theorem ZlI:YM X (compareOp .GtE) (rI0 fun i j=>.bl (decide (j≤i))):=Zes fun _ _ _ _ _ _ _ q=>ge_int q
theorem ZC (b:Expr){op:CmpOp}(h:op≠.In:=by decide)(h2:op≠.NotIn:=by decide):behindInMarks op b=false:=by
 have e1:(op == CmpOp.In)=false:=by cases op<;>first | rfl | exact absurd rfl h
 have e2:(op == CmpOp.NotIn)=false:=by cases op<;>first | rfl | exact absurd rfl h2
 cases b<;>simp [behindInMarks,e1,e2]
theorem YT {op:CmpOp}{r:R2}(ho:YM X (compareOp op) r)(ha:PE X a ta)(hb:PE X b tb)(hm:behindInMarks op b=false):PE X (.Compare a [op] [b] pos) (tOp r ta tb):=by
 intro pins s σ H Q I h
 exact wpAny_Compare1 (ZhN ha hb I h fun v u s2 x y H2 I2 rx ry q=>ho pins s2 σ H2 x y v u Q I2 rx ry q) hm
def Zig (t:TE):TT:=fun σ H Q=>t σ H fun x H'=>∃ k,x=.bl k∧Q k H'
theorem ZA {op:CmpOp}{r:R2}(ho:YM X (compareOp op) r)(ha:PE X a ta)(hb:PE X b tb)(hm:behindInMarks op b=false):PT X (.Compare a [op] [b] pos) (Zig (tOp r ta tb)):=by
 intro pins s σ H Q I h
 refine wpAny_isTrue_Compare1 (Zn (ha pins s σ H _ I h) fun v s1 ⟨x,H1,I1,r1,q1⟩=>Zn (hb pins s1 σ H1 _ I1 q1) fun u s2 ⟨y,H2,I2,r2,q2⟩ =>
   Zn (ho pins s2 σ H2 x y v u _ I2 r1 r2 q2) fun c s3 ⟨z,H3,I3,r3,k,e,q3⟩=>?_) hm
 subst e
 cases r3
 exact wpAny_truthy_bool ⟨H3,I3,q3⟩
def ZeR (r r':R2)(ta tb tc:TE):TE:=fun σ H Q=>ta σ H fun x H1=>tb σ H1 fun y H2=>r x y H2 fun z H3=>∃ k,z=.bl k ∧
 (if k=true then tc σ H3 fun w' H4=>r' y w' H4 Q else Q (.bl false) H3)
theorem UZ {op op':CmpOp}{r r':R2}(ho:YM X (compareOp op) r)(ho':YM X (compareOp op') r')(ha:PE X a ta)(hb:PE X b tb)(hc:PE X c tc)
   (hm:lastMarks [op,op'] [b,c]=false:=by with_unfolding_all rfl):PE X (.Compare a [op,op'] [b,c] pos) (ZeR r r' ta tb tc):=by
 intro pins s σ H Q I h
 refine Compare_chain (Zn (ha pins s σ H _ I h) fun v s1 ⟨x,H1,I1,r1,q1⟩=>chain_link (Zn (hb pins s1 σ H1 _ I1 q1) fun u s2 ⟨y,H2,I2,r2,q2⟩ =>
   Zn (ho pins s2 σ H2 x y v u _ I2 r1 r2 q2) fun d s3 ⟨z,H3,I3,r3,k,e,q3⟩=>?_)) hm
 subst e
 cases r3
 refine wpAny_truthy_bool ?_
 cases k with
 | false=>exact ite_ff ⟨.bl false,H3,I3,rfl,q3⟩
 | true=>exact ite_tt (chain_last (Zn (hc pins s3 σ H3 _ I3 q3) fun w' s4 ⟨z',H4,I4,r4,q4⟩=>ho' pins s4 σ H4 y z' u w' Q I4 r2 r4 q4))
theorem ZhQ {op op':CmpOp}{r r':R2}(ho:YM X (compareOp op) r)(ho':YM X (compareOp op') r')(ha:PE X a ta)(hb:PE X b tb)(hc:PE X c tc)
   (hm:lastMarks [op,op'] [b,c]=false:=by with_unfolding_all rfl):PT X (.Compare a [op,op'] [b,c] pos) (Zig (ZeR r r' ta tb tc)):=by
 intro pins s σ H Q I h
 refine isTrue_chain (Zn (ha pins s σ H _ I h) fun v s1 ⟨x,H1,I1,r1,q1⟩=>test_link (Zn (hb pins s1 σ H1 _ I1 q1) fun u s2 ⟨y,H2,I2,r2,q2⟩ =>
   Zn (ho pins s2 σ H2 x y v u _ I2 r1 r2 q2) fun d s3 ⟨z,H3,I3,r3,k,e,q3⟩=>?_)) hm
 subst e
 cases r3
 refine wpAny_truthy_bool ?_
 cases k with
 | false =>
   obtain ⟨k',e',q'⟩:=q3
   cases e'
   exact ite_ff ⟨H3,I3,q'⟩
 | true =>
   refine ite_tt (test_last (Zn (hc pins s3 σ H3 _ I3 q3) fun w' s4 ⟨z',H4,I4,r4,q4⟩=>Zn (ho' pins s4 σ H4 y z' u w' _ I4 r2 r4 q4) fun d' s5 ⟨z2,H5,I5,r5,k2,e2,q5⟩=>?_))
   subst e2
   cases r5
   exact wpAny_truthy_bool ⟨H5,I5,q5⟩
theorem Ub:(sizeLine:Nat) < 2 ^ 63:=by rw [sizeLine_eq];decide
theorem Yf:YM X (binaryOp .Add) (fun x y H Q=>∃ i j,x=.str i∧y=.str j∧i.length+j.length≤sizeLine∧Q (.str (i++j)) H):=by
 intro pins s σ H x y v u Q I rx ry h
 obtain ⟨i,j,rfl,rfl,hz,q⟩:=h
 obtain ⟨t,rfl⟩:=rx
 obtain ⟨t',rfl⟩:=ry
 exact add_str (fun t' tk=>⟨.str (i++j),H,I.tok _,⟨_,rfl⟩,q⟩) hz
theorem Zde:YM X (inplaceOp .Add) (fun x y H Q=>∃ i j,x=.str i∧y=.str j∧i.length+j.length≤sizeLine∧Q (.str (i++j)) H):=by
 intro pins s σ H x y v u Q I rx ry h
 obtain ⟨i,j,rfl,rfl,hz,q⟩:=h
 obtain ⟨t,rfl⟩:=rx
 obtain ⟨t',rfl⟩:=ry
 exact iadd_str (fun t' tk=>⟨.str (i++j),H,I.tok _,⟨_,rfl⟩,q⟩) hz
theorem YK {x:V}{us:List Value}(r:Vals [x] us):∃ u,us=[u]∧RelV x u:=by
 cases r with
 | cons r1 r2=>cases r2;exact ⟨_,rfl,r1⟩
theorem Zas {x y:V}{us:List Value}(r:Vals [x,y] us):∃ u w',us=[u,w']∧RelV x u∧RelV y w':=by
 cases r with
 | cons r1 r2 =>
   cases r2 with
   | cons r3 r4=>cases r4;exact ⟨_,_,rfl,r1,r3⟩
theorem ZcM:YO X (.builtin "abs") (fun xs H Q=>∃ i,xs=[.int i]∧Q (.int (if i < 0 then -i else i)) H):=by
 intro pins s σ H xs us Q I r h
 obtain ⟨i,rfl,q⟩:=h
 obtain ⟨u,rfl,t,rfl⟩:=YK r
 exact call_abs_int fun u tk=>⟨.int (if i < 0 then -i else i),H,I.tok _,⟨_,rfl⟩,q⟩
theorem ZfX (hc:X.calm=true):YO X (.builtin "max") (fun xs H Q=>∃ i j,xs=[.int i,.int j]∧Q (.int (if j > i then j else i)) H):=by
 intro pins s σ H xs us Q I r h
 obtain ⟨i,j,rfl,q⟩:=h
 obtain ⟨u,w',rfl,⟨t,rfl⟩,⟨t',rfl⟩⟩:=Zas r
 refine max_two_ints (I.ok.hd hc) fun h' tk k=>⟨_,H,I.kept k,?_,q⟩
 by_cases hj:j > i
 · rw [if_pos hj,if_pos hj];exact ⟨_,rfl⟩
 · rw [if_neg hj,if_neg hj];exact ⟨_,rfl⟩
theorem Zft (hc:X.calm=true):YO X (.builtin "min") (fun xs H Q=>∃ i j,xs=[.int i,.int j]∧Q (.int (if j < i then j else i)) H):=by
 intro pins s σ H xs us Q I r h
 obtain ⟨i,j,rfl,q⟩:=h
 obtain ⟨u,w',rfl,⟨t,rfl⟩,⟨t',rfl⟩⟩:=Zas r
 refine min_two_ints (I.ok.hd hc) fun h' tk k=>⟨_,H,I.kept k,?_,q⟩
 by_cases hj:j < i
 · rw [if_pos hj,if_pos hj];exact ⟨_,rfl⟩
 · rw [if_neg hj,if_neg hj];exact ⟨_,rfl⟩
theorem WF:YO X (.type "int") (fun xs H Q=>(∃ i,xs=[.int i]∧Q (.int i) H)∨∃ k,xs=[.bl k]∧Q (.int (if k then 1 else 0)) H):=by
 intro pins s σ H xs us Q I r h
 rcases h with ⟨i,rfl,q⟩ | ⟨k,rfl,q⟩
 · obtain ⟨u,rfl,t,rfl⟩:=YK r
   exact call_int_int ⟨.int i,H,I,⟨_,rfl⟩,q⟩
 · obtain ⟨u,rfl,r1⟩:=YK r
   cases r1
   exact call_int_bool ⟨.int (if k then 1 else 0),H,I.tok _,⟨_,rfl⟩,q⟩
theorem ZcY:YO X (.type "str") (fun xs H Q=>∃ i,xs=[.int i]∧i.natAbs.log2 < 1920∧Q (.str (toString i)) H):=by
 intro pins s σ H xs us Q I r h
 obtain ⟨i,rfl,hz,q⟩:=h
 obtain ⟨u,rfl,t,rfl⟩:=YK r
 exact PySem.P.str_of_int hz ⟨.str _,H,I.tok _,⟨_,rfl⟩,q⟩
def ZhH (K:PySem.W.Frag)(x:V)(H:Hp)(n:Nat):Prop :=
 match x with
 | .str y=>y.length≤sizeLine∧n=y.length
 | .byt y=>y.size≤sizeLine∧n=y.size
 | .ref p=>(∃ xs,SqL K H p xs∧n=xs.length)∨∃ xs,SqT K H p xs∧n=xs.length
 | _=>False
theorem ZgL:YO X (.builtin "len") (fun xs H Q=>∃ x n,xs=[x]∧ZhH X.K x H n∧Q (.int n) H):=by
 intro pins s σ H xs us Q I r h
 obtain ⟨x,n,rfl,e,q⟩:=h
 obtain ⟨u,rfl,rx⟩:=YK r
 have hl:=Ub
 have hs:sizeLine=16777216:=sizeLine_eq
 cases x with
 | str y =>
   obtain ⟨t,rfl⟩:=rx
   obtain ⟨hy,e'⟩:y.length≤sizeLine∧n=y.length:=e
   subst e'
   exact len_str (by omega) ⟨.int _,H,I.tok _,⟨_,rfl⟩,q⟩
 | byt y =>
   obtain ⟨t,rfl⟩:=rx
   obtain ⟨hy,e'⟩:y.size≤sizeLine∧n=y.size:=e
   subst e'
   exact PySem.W.len_bytes (by omega) ⟨.int _,H,I.tok _,⟨_,rfl⟩,q⟩
 | ref p =>
   cases rx
   have e':(∃ xs,SqL X.K H p xs∧n=xs.length)∨∃ xs,SqT X.K H p xs∧n=xs.length:=e
   rcases e' with ⟨xs,hx,e'⟩ | ⟨xs,hx,e'⟩
   · subst e'
     obtain ⟨its,r',pl,hz⟩:=I.list hx
     have hlen:=r'.length
     exact Calls.call_len_list pl.isList (by simp only [List.size_toArray];omega) ⟨.int xs.length,H,I.tok _,⟨_,by simp only [List.size_toArray];rw [hlen]⟩,q⟩
   · subst e'
     obtain ⟨its,r',pl,hz⟩:=I.tuple hx
     have hlen:=r'.length
     exact len_tuple pl (by simp only [List.size_toArray];omega) ⟨.int xs.length,H,I.tok _,⟨_,by simp only [List.size_toArray];rw [hlen]⟩,q⟩
 | _=>exact (show False from e).elim
theorem Zdg:YO X (.builtin "divmod") (fun xs H Q=>∃ i j,xs=[.int i,.int j]∧CDiv i j∧∀ p,H p=none→Q (.ref p) (upd H p (.tup [.int (i / j),.int (i % j)]))):=by
 intro pins s σ H xs us Q I r h
 obtain ⟨i,j,rfl,⟨h1,h2⟩,q⟩:=h
 obtain ⟨u,w',rfl,⟨t,rfl⟩,⟨t',rfl⟩⟩:=Zas r
 refine divmod_int (by omega) ?_ (.inl (PyProof.noPylong_small (by omega)))
 rw [Int.fdiv_eq_ediv_of_nonneg i (by omega),Int.fmod_eq_emod_of_nonneg i (by omega)]
 have hn:H s.heap.objs.size=none:=I.hok.fresh (Nat.le_refl _)
 refine ⟨.ref s.heap.objs.size,_,?_,rfl,q _ hn⟩
 refine I.laid (fun b o e=>Heap.get?_push_of_some _ e) (Nat.le_refl _) ⟨by simp only [List.length_cons,List.length_nil];rw [sizeLine_eq];decide,[.int (i / j) s.toks,.int (i % j) (s.toks+1)],.cons ⟨_,rfl⟩ (.cons ⟨_,rfl⟩ .nil),?_⟩
 exact ⟨_,Heap.get?_push_size s.heap rfl,rfl,0,rfl⟩
end
end L2
namespace L2
open PySem PySem.Spec PyProof.Rows
structure ObjM (h:Heap)(x dx C:Addr)(mA:Str→Option Value):Prop where
 obj:h.get? x=some (PySem.W.instObj C dx)
 ns:h.Ns1 dx mA
 ne:dx≠x
theorem Zfe {h:Heap}{dx:Addr}{mA:Str→Option Value}(n:h.Ns1 dx mA):∃ od,h.get? dx=some od∧∀ name,PySem.W.lookIn name od=some (mA name):=by
 obtain ⟨o,es,ep,ho,hd,hk,_,hm⟩:=n
 refine ⟨o,ho,fun name=>?_⟩
 have e:=hm name
 unfold nsFind findBy at e
 rw [← Array.find?_toList] at e
 unfold PySem.W.lookIn
 rw [hd]
 dsimp only
 split
 · rename_i y q
   rw [q] at e
   exact congrArg some e
 · rename_i q
   rw [q] at e
   have a:es.toList.any (·.refKey)=false:=by
     rw [List.any_eq_false]
     intro y hy
     obtain ⟨z,t,hkey⟩:=hk y (Array.mem_toList_iff.mp hy)
     simp [DictEntry.refKey,hkey]
   have a':¬ es.toList.any (·.refKey)=true:=by rw [a];exact Bool.false_ne_true
   rw [if_neg a']
   exact congrArg some e
theorem ObjM.look {h:Heap}{x dx C:Addr}{mA:Str→Option Value}(I:ObjM h x dx C mA):∃ od,PySem.W.InstAt h x (PySem.W.instObj C dx) C (some od)∧∀ name,PySem.W.lookIn name od=some (mA name) :=
 let ⟨od,ho,hl⟩:=Zfe I.ns
 ⟨od,⟨I.obj,rfl,rfl,ho⟩,hl⟩
section
variable {prog:Program}{w:World}{A:Around}{E:Value→Shared→Prop}{s:Shared}{K:PySem.W.Frag}{x dx C f:Addr}{mA:Str→Option Value}{name:Str}{v:Value}
end
theorem RelO.some_of {v:V}{o:Option Value}(r:RelO (some v) o):∃ u,o=some u∧RelV v u:=by
 cases o with
 | none=>exact (show False from r).elim
 | some u=>exact ⟨u,rfl,r⟩
theorem RelO.none_of {o:Option Value}(r:RelO none o):o=none:=by
 cases o with
 | none=>rfl
 | some u=>exact (show False from r).elim
section
variable {P:Program}{w:World}{H H':Hp}{h h':Heap}{a C dx:Addr}{fs fs':List (Str×V)}
theorem Zjq (hok:HOk P w H h)(e:H a=some (.ins C dx fs)):∃ mA,ObjM h a dx C mA∧(∀ f,RelO (fs.lookup f) (mA f))∧PySem.Within mA (fs.map (·.1))∧fs.length≤1000∧H dx=some (.own a):=by
 obtain ⟨d,z,ne,ob,mA,n,r,q⟩:=(show ObjOk P w H h a (.ins C dx fs) from hok a _ e)
 exact ⟨mA,⟨ob,n,ne⟩,r,q,z,d⟩
end
structure Cls (K:PySem.W.Frag)(C:Addr):Prop where
 pg:PySem.W.plainGet K C Str.empty=true
 hd:PySem.W.hasDictIn K C=true
 po:PySem.W.plainOver K C=true
 sa:PySem.W.findIn K (.ref C) "__setattr__"=some (some (.builtin "object.__setattr__"))
theorem Cls.get {K:PySem.W.Frag}{C:Addr}(c:Cls K C)(f:Str):PySem.W.plainGet K C f=true:=c.pg
section
variable {X:Cx}{pins:List (Addr×Obj)}{σ:St}{H:Hp}{s:Shared}{a C dx:Addr}{fs:List (Str×V)}{f:Str}{v:V}{A:Around}{E:Value→Shared→Prop}
end
section
variable {X:Cx}{o e value:Expr}{f:Str}{pos pos' tpos:Pos}{ta tv:TE}
end
section
variable {X:Cx}{pins:List (Addr×Obj)}{σ:St}{H:Hp}{s:Shared}{A:Around}{E:Value→Shared→Prop}{Q:Value→Shared→Prop}{c:Value}{b:Bool}
inductive WK (K:PySem.W.Frag)(H:Hp):V→Value→Prop where
 | non:WK K H .non (.type "NoneType")
 | bl (x:Bool):WK K H (.bl x) (.type "bool")
 | int (i:Int):WK K H (.int i) (.type "int")
 | str (x:Str):WK K H (.str x) (.type "str")
 | flt (x:UInt64):WK K H (.flt x) (.type "float")
 | lst {a:Addr} {xs:List V} (e:H a=some (.lst xs)):WK K H (.ref a) (.type "list")
 | frz {a:Addr} {o:Obj} {xs:List V} (e:H a=some (.frz o (.lst xs))):WK K H (.ref a) (.type "list")
 | tup {a:Addr} {xs:List V} (e:H a=some (.tup xs)):WK K H (.ref a) (.type "tuple")
 | dK {a:Addr} {kvs:List (ZU×V)} (e:H a=some (.dK kvs)):WK K H (.ref a) (.type "dict")
 | dT {a:Addr} {kvs:List (List ZU×V)} (e:H a=some (.dT kvs)):WK K H (.ref a) (.type "dict")
 | ins {a C dx:Addr} {fs:List (Str×V)} (e:H a=some (.ins C dx fs)) (cl:Cls K C) (ha:PySem.W.findIn K (.ref C) "__class__"=some (some (.builtin "object.__class__")))
     (hn:PySem.W.specialIn K (.builtin "object.__class__") "__get__"=some (some (.builtin "getset_descriptor.__get__"))) (htk:PySem.W.takesIn K (.builtin "object.__class__")=some true)
     (hm:PySem.W.mroIn K C (.type "object")=some true):WK K H (.ref a) (.ref C)
end
end L2
namespace L2
open PySem PySem.Spec PyProof.Rows
structure Room (k:Nat)(A:Around):Prop where
 hd:A.handled=none
 dp:A.depth+3 * k+5 < recursionLimit
 un:A.units+16 * k+200 < cLine
 gd:A.guards=some []
theorem Room.mono {j k:Nat}{A:Around}(r:Room k A)(h:j≤k):Room j A:=⟨r.hd,by have:=r.dp;omega,by have:=r.un;omega,r.gd⟩
theorem Room.deeper {k:Nat}{A:Around}(r:Room (k+1) A)(env:Env):Room k (A.deeper env) :=
 ⟨r.hd,by have:=r.dp;show A.depth+1+3 * k+5 < _;omega,by have:=r.un;show A.units+3+16 * k+200 < _;omega,r.gd⟩
theorem Room.depth {k:Nat}{A:Around}(r:Room k A):A.depth < recursionLimit:=by have:=r.dp;omega
theorem Room.units {k:Nat}{A:Around}(r:Room k A):A.units+64 < cLine:=by have:=r.un;omega
def YX:TA:=fun _ H Q=>Q [] H
def Xb (ta:TE)(tr:TA):TA:=fun σ H Q=>ta σ H fun x H1=>tr σ H1 fun xs H2=>Q (x::xs) H2
section
variable {X:Cx}{e:Expr}{es:List Expr}{te:TE}{t:TA}{pos:Pos}
theorem Za:PA X [] YX:=fun _ _ _ _ H Q I h=>Calls.spliced_nil ⟨[],H,I,.nil,h⟩
theorem Ym (ha:PE X e te)(hr:PA X es t)(hs:starEach (e::es) X.env=(false,eval e X.env)::starEach es X.env:=by rfl):PA X (e::es) (Xb te t):=by
 intro pos pins s σ H Q I h
 rw [hs]
 show wpAny _ _ (spliced ((false,eval e X.env)::backTo pos (starEach es X.env))) _ _ s
 refine Calls.spliced_cons (Zn (ha pins s σ H _ I h) fun u s1 ⟨x,H1,I1,r1,q1⟩=>?_)
 exact Zn (hr pos pins s1 σ H1 _ I1 q1) fun us s2 ⟨xs,H2,I2,r2,q2⟩=>⟨x::xs,H2,I2,.cons r1 r2,q2⟩
def tTup (t:TA):TE:=fun σ H Q=>t σ H fun xs H1=>xs.length≤sizeLine∧∀ p,H1 p=none→Q (.ref p) (upd H1 p (.tup xs))
def Zhv (t:TA):TE:=fun σ H Q=>t σ H fun xs H1=>xs.length≤sizeLine∧∀ p,H1 p=none→Q (.ref p) (upd H1 p (.lst xs))
theorem ZI {x1}(h:PA X es t):PE X (.Tuple es x1 pos) (tTup t):=by
 intro pins s σ H Q I hq
 refine wpAny_Tuple_spliced (Zn (h pos pins s σ H _ I hq) fun us s1 ⟨xs,H1,I1,r,z,q⟩=>⟨by rw [← r.length];exact z,?_⟩)
 have hf:H1 s1.heap.objs.size=none:=I1.hok.fresh (Nat.le_refl _)
 refine ⟨.ref s1.heap.objs.size,upd H1 s1.heap.objs.size (.tup xs),I1.laid (t':=s1.toks) (fun b u e=>Heap.get?_push_of_some _ e) (Nat.le_refl _) ?_,rfl,q _ hf⟩
 exact ⟨z,us,r,⟨_,Heap.get?_push_size _ rfl,rfl,_,rfl⟩⟩
theorem ZF (h:PA X es t):PE X (.List es pos) (Zhv t):=by
 intro pins s σ H Q I hq
 refine wpAny_List_spliced (Zn (h pos pins s σ H _ I hq) fun us s1 ⟨xs,H1,I1,r,z,q⟩=>⟨by rw [← r.length];exact z,?_⟩)
 have hf:H1 s1.heap.objs.size=none:=I1.hok.fresh (Nat.le_refl _)
 refine ⟨.ref s1.heap.objs.size,upd H1 s1.heap.objs.size (.lst xs),I1.laid (t':=s1.toks) (fun b u e=>Heap.get?_push_of_some _ e) (Nat.le_refl _) ?_,rfl,q _ hf⟩
 exact ⟨z,us,0,r,Heap.get?_push_size _ rfl⟩
end
abbrev Sp:=List V→Hp→VK→XK→Prop
abbrev Uv:=List Env→Hp→Shared→XK→Value→Shared→Prop
structure Zcy (P:Program)(w:World)(K:PySem.W.Frag)(mg:Str→Option Value)(base:Heap)(A:Around)(outer:List Env)(s:Shared)(H:Hp):Prop where
 frames:A.frames=some outer
 mod:Mod K mg base
 bs:∀ b o,base.get? b=some o→s.heap.get? b=some o∧H b=none
 bsz:base.objs.size≤s.heap.objs.size
 funs:s.heap.FunFrames base outer
 frf:∀ b∈Vx outer,H b=none
 hok:HOk P w H s.heap
 bare:AllBare s.gens
def CE (outer:List Env)(P:Program)(w:World)(H:Hp)(s:Shared)(Q:VK)(u:Value)(s':Shared):Prop :=
 ∃ v H',s'.os=s.os∧AllBare s'.gens∧Un (Vx outer) [] H H' s.heap s'.heap∧HOk P w H' s'.heap∧RelV v u∧Q v H'
def CR (CX:Uv)(outer:List Env)(P:Program)(w:World)(H:Hp)(s:Shared)(Q:VK)(E:XK)(r:Result)(s':Shared):Prop :=
 match r with
 | .ok (.ret u)=>CE outer P w H s Q u s'
 | .ok _=>False
 | .error e=>CX outer H s E e s'
structure FnOk (P:Program)(w:World)(K:PySem.W.Frag)(mg:Str→Option Value)(base:Heap)(CX:Uv)(k:Nat)(f:Addr)(fd:FuncData)(ps:List Str)(sp:Sp):Prop where
 len:∀ vs H Q E,sp vs H Q E→vs.length=ps.length
 run:∀ (A:Around) (outer:List Env) (s:Shared) (H:Hp) (args:Args) (us:List Value) (vs:List V) (Q:VK) (E:XK),Room k A→Zcy P w K mg base A outer s H→BindsTo s fd args (ps.zip us)→Vals vs us→sp vs H Q E →
   codeAny (model P w) A (.call (.ref f) args) (CR CX outer P w H s Q E) s
theorem FnOk.mono {P:Program}{w:World}{K:PySem.W.Frag}{mg:Str→Option Value}{base:Heap}{CX:Uv}{j k:Nat}{f:Addr}{fd:FuncData}{ps:List Str}{sp:Sp}(F:FnOk P w K mg base CX j f fd ps sp)(h:j≤k) :
 FnOk P w K mg base CX k f fd ps sp:=⟨F.len,fun A outer s H args us vs Q E hr=>F.run A outer s H args us vs Q E (hr.mono h)⟩
theorem FnOk.imp {P:Program}{w:World}{K:PySem.W.Frag}{mg:Str→Option Value}{base:Heap}{CX:Uv}{k:Nat}{f:Addr}{fd:FuncData}{ps:List Str}{sp sp':Sp}(F:FnOk P w K mg base CX k f fd ps sp)
   (h:∀ vs H Q E,sp' vs H Q E→sp vs H Q E):FnOk P w K mg base CX k f fd ps sp' :=
 ⟨fun vs H Q E q=>F.len vs H Q E (h _ _ _ _ q),fun A outer s H args us vs Q E hr he hb hv hs=>F.run A outer s H args us vs Q E hr he hb hv (h _ _ _ _ hs)⟩
section
variable {X:Cx}{pins:List (Addr×Obj)}{σ:St}{H:Hp}{s s':Shared}
theorem Inv.env0 (I:Inv X pins σ H s):Zcy X.prog X.w X.K X.mg X.base X.A X.stack s H :=
 ⟨I.ok.frames,I.ok.mod,I.bs,Nat.le_trans I.ok.bsz I.sz,I.stack,I.stkFree,I.hok,I.bare⟩
theorem Inv.after {Q:VK}{u:Value}(I:Inv X pins σ H s)(h:CE X.stack X.prog X.w H s Q u s'):EP X pins σ Q u s':=by
 obtain ⟨v,H',os,bare,un,hok,r,q⟩:=h
 obtain ⟨hh,g,d,t,os'⟩:=s'
 obtain rfl:os'=s.os:=os
 exact ⟨v,H',I.call (h':=hh) (g':=g) (d':=d) (t':=t) (ch:=[]) un hok bare (fun b z=>absurd z (by simp)),r,q⟩
end
def ZbT (sp:Sp)(dvs:List V)(E:XK)(t:TA):TE:=fun σ H Q=>t σ H fun vs H1=>sp (vs++dvs) H1 Q E
def Binds (K:PySem.W.Frag)(fd:FuncData)(ps:List Str)(ds:List Value):Prop :=
 ∀ (s:Shared) (us:List Value),K.In s.heap→(us++ds).length=ps.length→BindsTo s fd ⟨us,[]⟩ (ps.zip (us++ds))
theorem Binds.all {K:PySem.W.Frag}{fd:FuncData}{ps:List Str}(h:∀ us:List Value,us.length=ps.length→bindArgs fd ⟨us,[]⟩=pure (ps.zip us)):Binds K fd ps []:=fun s us _ hl=>by
 rw [List.append_nil] at hl ⊢
 exact .of_eq (h us hl)
def ZcV (CX:Uv)(X:Cx)(E:XK):Prop:=∀(pins:List (Addr×Obj))(σ:St)(H:Hp)(s:Shared)(e:Value)(s':Shared),Inv X pins σ H s→CX X.stack H s E e s'→X.xe e s'
section
variable {X:Cx}{CX:Uv}{k:Nat}{f C:Addr}{fd:FuncData}{ps:List Str}{sp:Sp}{dvs:List V}{ds:List Value}{E:XK}{x m:Str}{p pos apos:Pos}{e o:Expr}{es:List Expr}{ta:TE}{t:TA}
theorem Zkl {pins:List (Addr×Obj)}{σ:St}{H:Hp}{s:Shared}{Q:VK}{us:List Value}{vs:List V}(F:FnOk X.prog X.w X.K X.mg X.base CX k f fd ps sp)(hr:Room k X.A)(hb:Binds X.K fd ps ds)(hd:Vals dvs ds)(hx:ZcV CX X E)
   (I:Inv X pins σ H s) (r:Vals vs us) (h:sp (vs++dvs) H Q E):wpAny (model X.prog X.w) X.A (call (.ref f) us) (EP X pins σ Q) X.xe s:=by
 have r2:Vals (vs++dvs) (us++ds):=r.append hd
 have hl:(us++ds).length=ps.length:=by rw [← r2.length];exact F.len _ _ _ _ h
 refine wpAny_call (codeAny_mono (F.run X.A X.stack s H ⟨us,[]⟩ (us++ds) (vs++dvs) Q E hr I.env0 (hb s us I.kIn hl) r2 h) fun r s' hq=>?_)
 cases r with
 | error e=>exact hx pins σ H s e s' I hq
 | ok fl =>
   cases fl with
   | ret u=>exact I.after hq
   | next=>exact False.elim hq
   | brk=>exact False.elim hq
   | cont=>exact False.elim hq
theorem Zjp (F:FnOk X.prog X.w X.K X.mg X.base CX k f fd ps sp)(hr:Room k X.A)(hg:Gl X x)(hm:X.mg x=some (.ref f))(hk:PySem.W.keepIn X.K (.ref f)=true)(hb:Binds X.K fd ps ds)(hd:Vals dvs ds)(hx:ZcV CX X E)
   (ha:PA X (e::es) t) (hdb:(x == ("__debug__":Str))=false:=by decide) (he:starEach (e::es) X.env=(false,eval e X.env)::starEach es X.env:=by rfl) (hpl:(backTo pos (starEach es X.env)).any (·.1)=false:=by rfl) :
   PE X (.Call (.Name x p) (e::es) [] pos) (ZbT sp dvs E t):=by
 intro pins s σ H Q I h
 refine wpAny_Call_Name_kw (ZaT I hg hm ?_ hdb)
 refine PySem.W.callWith_K (h₀:=X.base) I.ok.mod.kin hk (Zn (ha pos pins s σ H _ I h) fun us s1 ⟨vs,H1,I1,r,q⟩=>⟨I1.kIn,?_⟩) he hpl
 exact Zkl F hr hb hd hx I1 r q
end
def PK (X:Cx)(kws:List Keyword)(t:TA):Prop :=
 ∀ (pos:Pos) (pins:List (Addr×Obj)) (s:Shared) (σ:St) (H:Hp) (Q:List V→Hp→Prop),Inv X pins σ H s→t σ H Q→wpAny (model X.prog X.w) X.A (evalAll ((backToKw pos (keywordEach kws X.env)).map (·.2))) (AP X pins σ Q) X.xe s
section
variable {X:Cx}{CX:Uv}{k:Nat}{f C:Addr}{fd:FuncData}{ps ks:List Str}{sp:Sp}{E:XK}{x m:Str}{p pos apos kpos:Pos}{e o:Expr}{es:List Expr}{kws:List Keyword}{te ta:TE}{t tk:TA}{nm:Option Str}
theorem Zkm:PK X [] YX:=fun _ _ _ _ H Q I h=>wpAny_evalAll_nil ⟨[],H,I,.nil,h⟩
theorem ZiY (ha:PE X e te)(hr:PK X kws t):PK X (⟨nm,e,kpos⟩::kws) (Xb te t):=by
 intro pos pins s σ H Q I h
 show wpAny _ _ (evalAll ((do let v ← eval e X.env;standAt pos;pure v)::(backToKw pos (keywordEach kws X.env)).map (·.2))) _ _ s
 refine wpAny_evalAll_cons (wpAny_bind (Zn (ha pins s σ H _ I h) fun u s1 ⟨x,H1,I1,r1,q1⟩=>wpAny_bind (wpAny_standAt (wpAny_pure ?_))))
 exact Zn (hr pos pins s1 σ H1 _ I1 q1) fun us s2 ⟨xs,H2,I2,r2,q2⟩=>⟨x::xs,H2,I2,.cons r1 r2,q2⟩
variable {g:List Value→List Value→List Value}{gV:List V→List V→List V}
end
structure Zs (N P:List Str)(sc:Scope):Prop where
 kind:sc.kind=.function
 co:sc.isCoroutine=false
 gen:sc.isGenerator=false
 nd:N.Nodup
 pre:N.take P.length=P
 par:∀ x∈P,sc.names.lookup x=some .local∨sc.names.lookup x=some .cell
 nofree:∀ y∈sc.names,y.2≠.free
theorem Zby {kindOf:Str→Option NameKind}{x:Str}:∀{binds:List (Str×Value)}{m:Str→Option Value},(∀ v,(x,v) ∉ binds)→bindL kindOf binds m x=m x
 | [],_,_=>rfl
 | (n,v)::r,m,h=>by
   unfold bindL
   rw [Zby fun w hw=>h w (List.mem_cons_of_mem _ hw)]
   split
   · have:x≠n:=by rintro rfl;exact h v List.mem_cons_self
     simp [this]
   · rfl
theorem Zbq {kindOf:Str→Option NameKind}{x:Str}:∀{binds:List (Str×Value)}{m:Str→Option Value},(∀ v,(x,v) ∉ binds)→bindC kindOf binds m x=m x
 | [],_,_=>rfl
 | (n,v)::r,m,h=>by
   unfold bindC
   rw [Zbq fun w hw=>h w (List.mem_cons_of_mem _ hw)]
   split
   · rfl
   · have:x≠n:=by rintro rfl;exact h v List.mem_cons_self
     simp [this]
theorem Zbo {kindOf:Str→Option NameKind}{x:Str}{v:Value}:∀{P:List Str}{vs:List Value}{i:Nat}{m:Str→Option Value},P.Nodup→P[i]?=some x→vs[i]?=some v→kindOf x=some .local →
   bindL kindOf (P.zip vs) m x=some v
 | [],_,_,_,_,h,_,_=>by simp at h
 | _::_,[],_,_,_,_,h,_=>by simp at h
 | p::P,w::vs,0,m,nd,h1,h2,hk=>by
   simp at h1 h2;subst h1;subst h2
   show bindL kindOf ((p,w)::P.zip vs) m p=_
   unfold bindL
   rw [Zby fun v hv=>(List.nodup_cons.mp nd).1 (List.of_mem_zip hv).1,if_pos hk]
   simp
 | p::P,w::vs,i+1,m,nd,h1,h2,hk=>by
   show bindL kindOf ((p,w)::P.zip vs) m x=_
   unfold bindL
   exact Zbo (i:=i) (List.nodup_cons.mp nd).2 (by simpa using h1) (by simpa using h2) hk
theorem ZbF {kindOf:Str→Option NameKind}{x:Str}{v:Value}:∀{P:List Str}{vs:List Value}{i:Nat}{m:Str→Option Value},P.Nodup→P[i]?=some x→vs[i]?=some v→kindOf x≠some .local →
   bindC kindOf (P.zip vs) m x=some v
 | [],_,_,_,_,h,_,_=>by simp at h
 | _::_,[],_,_,_,_,h,_=>by simp at h
 | p::P,w::vs,0,m,nd,h1,h2,hk=>by
   simp at h1 h2;subst h1;subst h2
   show bindC kindOf ((p,w)::P.zip vs) m p=_
   unfold bindC
   rw [Zbq fun v hv=>(List.nodup_cons.mp nd).1 (List.of_mem_zip hv).1,if_neg hk]
   simp
 | p::P,w::vs,i+1,m,nd,h1,h2,hk=>by
   show bindC kindOf ((p,w)::P.zip vs) m x=_
   unfold bindC
   exact ZbF (i:=i) (List.nodup_cons.mp nd).2 (by simpa using h1) (by simpa using h2) hk
def start (N:List Str)(vs:List V):St:=vs.map some++List.replicate (N.length - vs.length) none
def UE (CX:Uv)(P:Program)(w:World)(K:PySem.W.Frag)(mg:Str→Option Value)(base:Heap)(N:List Str)(qual:Str)(scope:Scope)(f:Addr)(cd:Value)(A:Around)(outer:List Env)(s:Shared)(H:Hp)(E:XK):Cx where
 prog:=P
 w:=w
 K:=K
 mg:=mg
 base:=base
 A:=A.deeper (envOfC qual scope s.heap.objs.size f cd)
 N:=N
 s₀:=s
 H₀:=H
 env:=envOfC qual scope s.heap.objs.size f cd
 outer:=outer
 stack:=envOfC qual scope s.heap.objs.size f cd::outer
 ex:=[]
 calm:=true
 fn:=fun _=>true
 pn:=[]
 xe:=fun e s'=>wpAny (model P w) (A.deeper (envOfC qual scope s.heap.objs.size f cd)) (leaving (envOfC qual scope s.heap.objs.size f cd) e) (fun _ s''=>CX outer H s E e s'') (fun e' s''=>CX outer H s E e' s'') s'
theorem ZcX {sc:Scope}{n:Nat}{x:Str}(h:sc.names.lookup x=some .cell):∃ c,(cellsFrom n sc.names []).lookup x=some c:=by
 have q:=PySem.W.cellsFrom_some sc.names n [] (.inl h)
 exact Option.isSome_iff_exists.mp q
theorem ZeT {CX:Uv}{P:Program}{w:World}{K:PySem.W.Frag}{mg:Str→Option Value}{base:Heap}{N ps:List Str}{qual:Str}{scope:Scope}{f:Addr}{cd:Value}{A:Around}{outer:List Env}{s s1:Shared}{H:Hp}{E:XK}{us:List Value}{vs:List V}
   (S:Zs N ps scope) (hd:A.handled=none) (e0:Zcy P w K mg base A outer s H) (hl:vs.length=ps.length) (r:Vals vs us)
   (x:InCallC s s.heap.objs.size (bindL (envOfC qual scope s.heap.objs.size f cd).kindOf (ps.zip us) fun _=>none) (cellsFrom (s.heap.objs.size+1) scope.names []) (bindC (envOfC qual scope s.heap.objs.size f cd).kindOf (ps.zip us) fun _=>none) s1) :
   Inv (UE CX P w K mg base N qual scope f cd A outer s H E) [] (start N vs) H s1:=by
 have hpl:ps.length≤N.length:=by have:=congrArg List.length S.pre;rw [List.length_take] at this;omega
 obtain ⟨h1,tk,rfl,hk⟩:=x.done
 have noA:∀ b:Addr,b ∉ (UE CX P w K mg base N qual scope f cd A outer s H E).ex:=fun b z=>absurd (show b∈([]:List Addr) from z) (by simp)
 refine ⟨⟨e0.mod,S.kind,rfl,rfl,Nat.le_refl _,fun y z c h1 h2=>?_,fun y hy=>?_,fun y c _ h=>?_,fun _=>hd,Around.frames_deeper e0.frames,.inr ⟨rfl,rfl⟩,fun b z=>absurd z (noA b),e0.bs,e0.bsz,fun b _ _=>noA b,fun b z=>absurd z (noA b),e0.funs,e0.frf⟩,
   rfl,e0.bare,Un.kept hk,⟨_,x.toInCall.ns,fun i y v h1 h2 h3=>?_⟩,fun y c h=>⟨_,x.cell y c h⟩,e0.hok.fresh (Nat.le_refl _),fun y c h=>?_,fun p hp=>absurd (show p∈([]:List (Addr×Obj)) from hp) (by simp),e0.hok.kept hk,?_⟩
 · exact name_of_addr x.apart (PySem.mem_of_lookup h1) (PySem.mem_of_lookup h2)
 · have hy:scope.names.lookup y=some .cell∨scope.names.lookup y=some .free:=hy
   rcases hy with hy | hy
   · exact ZcX hy
   · exact absurd rfl (S.nofree _ (PySem.mem_of_lookup hy))
 · exact Nat.le_of_lt (x.above y c (PySem.mem_of_lookup h))
 · have hi:i < vs.length:=by
     unfold start at h2
     by_cases hi:i < vs.length
     · exact hi
     · rw [List.getElem?_append_right (by simpa using hi)] at h2
       rw [List.getElem?_replicate] at h2
       split at h2<;>cases h2
   have ha:vs[i]?=some v:=by
     unfold start at h2
     rw [List.getElem?_append_left (by simpa using hi),List.getElem?_map] at h2
     cases e:vs[i]? with
     | none=>rw [e] at h2;cases h2
     | some a=>rw [e] at h2;cases h2;rfl
   obtain ⟨u,hu,rv⟩:=r.get ha
   have hp:ps[i]?=some y:=by
     rw [← S.pre,List.getElem?_take_of_lt (by omega)];exact h1
   have ndP:ps.Nodup:=by rw [← S.pre];exact S.nd.sublist (List.take_sublist _ _)
   refine ⟨u,rv,?_⟩
   rcases S.par y (List.mem_of_getElem? hp) with k | k
   · exact .inl ⟨k,Zbo ndP hp hu k⟩
   · obtain ⟨c,e⟩:=ZcX (n:=s.heap.objs.size+1) k
     refine .inr ⟨.inl k,c,e,?_⟩
     have q:=x.cell y c e
     rw [ZbF ndP hp hu (by show scope.names.lookup y≠_;rw [k];decide)] at q
     exact q
 · exact e0.hok.fresh (Nat.le_of_lt (x.above y c (PySem.mem_of_lookup h)))
 · unfold start
   show _=N.length
   rw [List.length_append,List.length_map,List.length_replicate]
   omega
theorem ZlU {CX:Uv}{P:Program}{w:World}{K:PySem.W.Frag}{mg:Str→Option Value}{base:Heap}{k:Nat}{f:Addr}{name qual:Str}{params:Arguments}{body:List Stmt}{scope:Scope}{dV kV doc pm cdv ct oc:Value}{an od:Option Addr}
   {osl:Array (Option Value)} {N ps:List Str} {sp:Sp} (lk:K.lookup f=some ⟨oc,od,.func (PySem.W.fnOf name qual params body scope dV kV doc pm an cdv ct),osl⟩) (hcd:PySem.W.codeIn K cdv qual=true) (S:Zs N ps scope)
   (len:∀ vs H Q E,sp vs H Q E→vs.length=ps.length)
   (hbody:∀ (A:Around) (outer:List Env) (s:Shared) (H:Hp) (vs:List V) (Q:VK) (E:XK),Room k (A.deeper (envOfC qual scope s.heap.objs.size f cdv))→sp vs H Q E →
     ∃ t,PSs (UE CX P w K mg base N qual scope f cdv A outer s H E) body t∧t { nx:=fun _ H'=>Q .non H',rt:=Q } (start N vs) H) :
   FnOk P w K mg base CX (k+1) f (PySem.W.fnOf name qual params body scope dV kV doc pm an cdv ct) ps sp:=by
 refine ⟨len,fun A outer s H args us vs Q E hr e0 hb r hsp=>?_⟩
 have hl:=len _ _ _ _ hsp
 have KX:K.In s.heap:=e0.mod.kin.keeps fun b o e=>(e0.bs b o e).1
 have lim:s.heap.NoLimit:=e0.mod.nolimit.keeps fun b o e=>(e0.bs b o e).1
 have hkind:∀ y∈ps.zip us,scope.names.lookup y.1=some .local∨(scope.names.lookup y.1=some .cell∧((cellsFrom (s.heap.objs.size+1) scope.names []).lookup y.1).isSome=true):=fun ⟨n,v⟩ hy=>by
   rcases S.par n (List.of_mem_zip hy).1 with q | q
   · exact .inl q
   · exact .inr ⟨q,PySem.W.cellsFrom_some _ _ _ (.inl q)⟩
 refine codeAny_call_function hr.depth (KX _ _ lk) rfl S.co S.gen rfl (PySem.W.codeRec_of KX hcd) (hb _ _ _ _ ?_)
 refine wpAny_newFunctionEnv_cells S.kind hkind fun env he s1 x=>?_
 subst he
 refine ⟨lim.keeps x.toInCall.keep,codeAny_func ?_⟩
 obtain ⟨t,ht,hq⟩:=hbody A outer s H vs Q E (hr.deeper _) hsp
 have I:Inv (UE CX P w K mg base N qual scope f cdv A outer s H E) [] (start N vs) H s1:=ZeT S hr.hd e0 hl r x
 refine wpAny_mono (ht [] s1 (start N vs) H _ I hq) (fun fl s' hs=>?_) fun e s' hs=>hs
 have fin:∀ {σ':St} {H':Hp} {v:V} {u:Value},Inv (UE CX P w K mg base N qual scope f cdv A outer s H E) [] σ' H' s'→RelV v u→Q v H'→CE outer P w H s Q u s' :=
   fun {σ' H' v u} J rv q=>⟨v,H',J.os,J.bare,J.base,J.hok,rv,q⟩
 cases fl with
 | ret u =>
   obtain ⟨v,σ',H',J,rv,q⟩:=hs
   exact fin J rv q
 | next =>
   obtain ⟨σ',H',J,q⟩:=hs
   exact fin (v:=V.non) (u:=Value.none) J rfl q
 | brk =>
   obtain ⟨_,_,_,q⟩:=hs
   exact False.elim q
 | cont =>
   obtain ⟨_,_,_,q⟩:=hs
   exact False.elim q
end L2
namespace L2
open PySem PySem.Spec PyProof.Rows
section
variable {X:Cx}{x:Str}{p pos:Pos}{e:Expr}{es:List Expr}{t:TA}{id T:String}{r:List V→Hp→VK→Prop}
def tCB (r:List V→Hp→VK→Prop)(t:TA):TE:=fun σ H Q=>t σ H fun vs H1=>r vs H1 Q
theorem Zm (hc:YO X (.builtin id) r)(hg:Gl X x)(hm:X.mg x=none)(hv:bootBuiltins x=some (.builtin id))(ha:PA X (e::es) t)(hn:x≠"__name__":=by decide)(hdb:(x == ("__debug__":Str))=false:=by decide)
   (he:starEach (e::es) X.env=(false,eval e X.env)::starEach es X.env:=by rfl) (hpl:(backTo pos (starEach es X.env)).any (·.1)=false:=by rfl):PE X (.Call (.Name x p) (e::es) [] pos) (tCB r t):=by
 intro pins s σ H Q I h
 refine wpAny_Call_Name_kw (WC I hg hm hv ?_ hn hdb)
 exact PyProof.Rows.callWith_builtin1 (Zn (ha pos pins s σ H _ I h) fun us s1 ⟨vs,H1,I1,r1,q1⟩=>hc pins s1 σ H1 vs us Q I1 r1 q1) he hpl
theorem ZY (hc:YO X (.type T) r)(hg:Gl X x)(hm:X.mg x=none)(hv:bootBuiltins x=some (.type T))(ha:PA X (e::es) t)(hn:x≠"__name__":=by decide)(hdb:(x == ("__debug__":Str))=false:=by decide)
   (he:starEach (e::es) X.env=(false,eval e X.env)::starEach es X.env:=by rfl) (hpl:(backTo pos (starEach es X.env)).any (·.1)=false:=by rfl):PE X (.Call (.Name x p) (e::es) [] pos) (tCB r t):=by
 intro pins s σ H Q I h
 refine wpAny_Call_Name_kw (WC I hg hm hv ?_ hn hdb)
 exact PyProof.Rows.callWith_type1 (Zn (ha pos pins s σ H _ I h) fun us s1 ⟨vs,H1,I1,r1,q1⟩=>hc pins s1 σ H1 vs us Q I1 r1 q1) he hpl
end
end L2
namespace HT
open PySem PyProof.Rows
section
open PySem.SeqAt
open PySem.AutoSeq1 (wpAny_loadPart')
open PySem.MeetsSeq PySem.MeetsSeq2 PySem.MeetsSeq3
end
section
variable {prog:Program}{w:World}{A:Around}{E:Value→Shared→Prop}{s:Shared}
theorem cat_tup {t b:Addr}{vs ws:List Value}{Q:Value→Shared→Prop}(ht:IsTup s.heap t vs.toArray)(hb:IsTup s.heap b ws.toArray)(hv:vs≠[])
   (h1:ws=[]→Q (.ref t) s) (h2:ws≠[]→Q (.ref s.heap.objs.size) { s with heap:=s.heap.push { cls:=.type "tuple",data:=.seq (vs++ws).toArray } })
   (hsz:vs.length+ws.length≤sizeLine):wpAny (model prog w) A (binaryOp .Add (.ref t) (.ref b)) Q E s:=by
 obtain ⟨⟨cls,dd,data,sl⟩,ho,hc,n,hd⟩:=id ht
 obtain ⟨⟨cls2,dd2,data2,sl2⟩,ho2,hc2,n2,hd2⟩:=id hb
 simp only at hc hd hc2 hd2
 subst hc hd hc2 hd2
 have e:vs.toArray++ws.toArray=(vs++ws).toArray:=by simp
 by_cases hw:ws=[]
 · exact concat_meets ⟨_,ho,rfl⟩ ⟨_,ho2,rfl⟩ noFill_tuple_add seq_tuple_add PySem.F.slot_tuple_add PySem.F.entry_tuple_add (PySem.F.args_tuple_add_2 _ _)
     (tuple_addW1 t b vs.toArray ws.toArray n n2 dd dd2 sl sl2 (by simpa using hv) (by simp [hw])) ⟨ho,ho2,h1 hw⟩
 · refine concat_meets ⟨_,ho,rfl⟩ ⟨_,ho2,rfl⟩ noFill_tuple_add seq_tuple_add PySem.F.slot_tuple_add PySem.F.entry_tuple_add (PySem.F.args_tuple_add_2 _ _)
     (tuple_addW2 t b vs.toArray ws.toArray n n2 dd dd2 sl sl2 (by simpa using hv) (by simpa using hw) (by rw [List.size_toArray,List.size_toArray];exact hsz)) ⟨ho,ho2,?_⟩
   rw [e]
   exact h2 hw
def sIx (n d:Nat):Option Int→Nat
 | none=>d
 | some v=>if v < 0 then (v+(n:Int)).toNat else min v.toNat n
theorem sIx_none (n d:Nat):sIx n d none=d:=rfl
theorem sIx_nat (n d k:Nat):sIx n d (some (k:Int))=min k n:=by
 show (if (k:Int) < 0 then ((k:Int)+(n:Int)).toNat else min (k:Int).toNat n)=min k n
 rw [if_neg (by omega),Int.toNat_natCast]
theorem sIx_le (n d:Nat)(hd:d≤n)(o:Option Int):sIx n d o≤n:=by
 cases o with
 | none=>exact hd
 | some v =>
   show (if v < 0 then (v+(n:Int)).toNat else min v.toNat n)≤n
   by_cases hv:v < 0
   · rw [if_pos hv];omega
   · rw [if_neg hv];exact Nat.min_le_right _ _
end
end HT
namespace L2
open PySem PySem.Spec PyProof.Rows
abbrev TO:=St→Hp→(Option Int→Hp→Prop)→Prop
def PO (X:Cx)(e:Option Expr)(t:TO):Prop :=
 ∀ (pins:List (Addr×Obj)) (s:Shared) (σ:St) (H:Hp) (Q:Option Int→Hp→Prop),Inv X pins σ H s→t σ H Q →
   wpAny (model X.prog X.w) X.A (evalPart e X.env) (fun u s'=>∃ o H',Inv X pins σ H' s'∧IsPart u o∧Q o H') X.xe s
def WV:TO:=fun _ H Q=>Q none H
def ZlN (t:TE):TO:=fun σ H Q=>t σ H fun x H1=>∃ i,x=.int i∧Q (some i) H1
section
variable {X:Cx}{e:Expr}{te:TE}{lo hi:Option Expr}{tl th:TO}{pos p2:Pos}
theorem YC:PO X none WV:=by
 intro pins s σ H Q I h
 rw [evalPart_none]
 exact wpAny_pure ⟨none,H,I,.none,h⟩
theorem Yk (h:PE X e te):PO X (some e) (ZlN te):=by
 intro pins s σ H Q I hw
 rw [evalPart_some]
 refine Zn (h pins s σ H _ I hw) fun u s1 ⟨x,H1,I1,r1,q1⟩=>?_
 obtain ⟨i,rfl,q⟩:=q1
 obtain ⟨t,rfl⟩:=r1
 exact ⟨some i,H1,I1,.int i t,q⟩
def SlR (X:Cx)(r:V→Option Int→Option Int→Hp→VK→Prop):Prop :=
 ∀ (pins:List (Addr×Obj)) (s:Shared) (σ:St) (H:Hp) (x:V) (v vl vu:Value) (lo hi:Option Int) (sl:Addr) (Q:VK),Inv X pins σ H s→RelV x v→s.heap.IsSliceOf sl vl vu .none→IsPart vl lo→IsPart vu hi→r x lo hi H Q →
   ∃ T id,typeLookup (.type T) "__getitem__"=pure (some (.builtin id))∧s.TypeIs v T∧wpAny (model X.prog X.w) X.A (getItem v (.ref sl)) (EP X pins σ Q) X.xe s
def tSl (r:V→Option Int→Option Int→Hp→VK→Prop)(te:TE)(tl th:TO):TE:=fun σ H Q=>te σ H fun x H1=>tl σ H1 fun l H2=>th σ H2 fun u H3=>r x l u H3 Q
theorem Yq {r:V→Option Int→Option Int→Hp→VK→Prop}(hr:SlR X r)(he:PE X e te)(hl:PO X lo tl)(hu:PO X hi th):PE X (.Subscript e (.Slice lo hi none p2) pos) (tSl r te tl th):=by
 intro pins s σ H Q I h
 refine Subscript_ (Zn (he pins s σ H _ I h) fun v s1 ⟨x,H1,I1,r1,q1⟩=>?_)
 refine wpAny_Slice (Zn (hl pins s1 σ H1 _ I1 q1) fun vl s2 ⟨l,H2,I2,pl,q2⟩=>Zn (hu pins s2 σ H2 _ I2 q2) fun vu s3 ⟨u,H3,I3,pu,q3⟩=>?_)
 rw [evalPart_none]
 refine wpAny_pure ?_
 have I4:Inv X pins σ H3 { s3 with heap:=s3.heap.push { cls:=.type "slice",data:=.fields #[vl,vu,.none] } }:=I3.kept (t':=s3.toks) fun b ob q=>Heap.get?_push_of_some _ q
 obtain ⟨T,id,hT,ht,hg⟩:=hr pins { s3 with heap:=s3.heap.push { cls:=.type "slice",data:=.fields #[vl,vu,.none] } } σ H3 x v vl vu l u s3.heap.objs.size Q I4 r1 (Heap.IsSliceOf.new ..) pl pu q3
 show wpAny (model X.prog X.w) X.A (subscriptTail e (.Slice lo hi none p2) v (.ref s3.heap.objs.size)) (EP X pins σ Q) X.xe { s3 with heap:=s3.heap.push { cls:=.type "slice",data:=.fields #[vl,vu,.none] } }
 exact tail_any (ops:=[.ref s3.heap.objs.size,v]) ht hT hg (by with_unfolding_all rfl)
def YV (xs:List V)(lo hi:Option Int):List V:=(xs.drop (HT.sIx xs.length 0 lo)).take (HT.sIx xs.length xs.length hi - HT.sIx xs.length 0 lo)
theorem Zdj (xs:List V)(lo hi:Option Int):(YV xs lo hi).length≤xs.length:=by
 unfold YV
 rw [List.length_take,List.length_drop]
 omega
def Zlp (K:PySem.W.Frag):R2:=fun x y H Q=>∃ a b xs ys,x=.ref a∧y=.ref b∧SqT K H a xs∧SqT K H b ys∧xs≠[]∧xs.length+ys.length≤sizeLine ∧
 (ys=[]→Q (.ref a) H)∧(ys≠[]→∀ p,H p=none→Q (.ref p) (upd H p (.tup (xs++ys))))
theorem Vals.nil_iff {xs:List V}{us:List Value}(r:Vals xs us):us=[]↔xs=[]:=by
 cases r with
 | nil=>simp
 | cons _ _=>simp
theorem ZdI:YM X (binaryOp .Add) (Zlp X.K):=by
 intro pins s σ H x y v u Q I rx ry h
 obtain ⟨a,b,xs,ys,rfl,rfl,ha,hb,hx,hz,q1,q2⟩:=h
 cases rx
 cases ry
 obtain ⟨its,r1,p1,_⟩:=I.tuple ha
 obtain ⟨its2,r2,p2,_⟩:=I.tuple hb
 refine HT.cat_tup p1 p2 (fun z=>hx (r1.nil_iff.mp z)) (fun z=>⟨.ref a,H,I,rfl,q1 (r2.nil_iff.mp z)⟩) (fun z=>?_) (by rw [← r1.length,← r2.length];exact hz)
 refine ⟨.ref s.heap.objs.size,_,I.laid (t':=s.toks) (o:=.tup (xs++ys)) (fun b ob q=>Heap.get?_push_of_some _ q) (Nat.le_refl _) ?_,rfl,q2 (fun w=>z (r2.nil_iff.mpr w)) _ (I.hok.fresh (Nat.le_refl _))⟩
 exact ⟨by rw [List.length_append];exact hz,_,r1.append r2,IsTup.new _ _⟩
end
end L2
namespace L2
open PySem PySem.Spec PyProof.Rows
def VR (n:Nat)(i:Int):Option Nat:=if 0≤i then (if i < n then some i.toNat else none) else if -(n:Int)≤i then some (i+n).toNat else none
def YU {α:Type}(xs:List α)(i:Int):Option α:=(VR xs.length i).bind fun j=>xs[j]?
theorem ZdW {n:Nat}{i:Int}{j:Nat}(h:VR n i=some j):seqIndex? i n=some j∧j < n∧-(n:Int)≤i∧i < n:=by
 unfold VR at h
 by_cases h0:0≤i
 · rw [if_pos h0] at h
   by_cases h1:i < n
   · rw [if_pos h1] at h
     have e:i.toNat=j:=Option.some.inj h
     exact ⟨by rw [seqIndex_of h0 h1,e],by omega,by omega,h1⟩
   · rw [if_neg h1] at h;cases h
 · rw [if_neg h0] at h
   by_cases h1:-(n:Int)≤i
   · rw [if_pos h1] at h
     have e:(i+n).toNat=j:=Option.some.inj h
     exact ⟨by rw [seqIndex_neg (by omega) h1,e],by omega,h1,by omega⟩
   · rw [if_neg h1] at h;cases h
theorem ZaR {α:Type}{xs:List α}{i:Int}{v:α}(h:YU xs i=some v):∃ j,seqIndex? i xs.length=some j∧xs[j]?=some v∧j < xs.length∧-(xs.length:Int)≤i∧i < xs.length:=by
 unfold YU at h
 cases e:VR xs.length i with
 | none=>rw [e] at h;cases h
 | some j =>
   rw [e] at h
   obtain ⟨h1,h2,h3,h4⟩:=ZdW e
   exact ⟨j,h1,h,h2,h3,h4⟩
theorem Zx {α:Type}{xs:List α}{j:Nat}{v:α}(h:xs[j]?=some v):YU xs (j:Int)=some v:=by
 have hj:j < xs.length:=(List.getElem?_eq_some_iff.mp h).1
 have e:VR xs.length (j:Int)=some j:=by
   unfold VR
   rw [if_pos (by omega),if_pos (by omega)];simp
 unfold YU;rw [e];exact h
def ZjA (b:Expr):Prop:=∀ o i,subscripted b false o i=operate [o,i] (getItem o i)
def IxR (X:Cx)(r:R2):Prop :=
 ∀ (value slice:Expr) (pins:List (Addr×Obj)) (s:Shared) (σ:St) (H:Hp) (x y:V) (v u:Value) (Q:VK),Inv X pins σ H s→RelV x v→RelV y u→r x y H Q →
   subscripted slice false v u=operate [v,u] (getItem v u)→wpAny (model X.prog X.w) X.A (subscriptTail value slice v u) (EP X pins σ Q) X.xe s
def MtR (X:Cx)(id:String)(r:V→List V→Hp→VK→Prop):Prop :=
 ∀ (pins:List (Addr×Obj)) (s:Shared) (σ:St) (H:Hp) (x:V) (xs:List V) (v:Value) (us:List Value) (Q:VK),Inv X pins σ H s→RelV x v→Vals xs us→r x xs H Q →
   wpAny (model X.prog X.w) X.A (call (.builtin id) (v::us)) (EP X pins σ Q) X.xe s
section
variable {X:Cx}{a b:Expr}{ta tb:TE}{pos:Pos}
theorem ZB {r:R2}(hr:IxR X r)(ha:PE X a ta)(hb:PE X b tb)(hs:ZjA b):PE X (.Subscript a b pos) (tOp r ta tb):=by
 intro pins s σ H Q I h
 exact Subscript_ (ZhN ha hb I h fun v u s2 x y H2 I2 rx ry q=>hr a b pins s2 σ H2 x y v u Q I2 rx ry q (hs _ _))
def rIxL (K:PySem.W.Frag):R2:=fun x y H Q=>∃ p xs i v,x=.ref p∧y=.int i∧SqL K H p xs∧YU xs i=some v∧Q v H
def rIxT (K:PySem.W.Frag):R2:=fun x y H Q=>∃ p xs i v,x=.ref p∧y=.int i∧SqT K H p xs∧YU xs i=some v∧Q v H
def rIxS:R2:=fun x y H Q=>∃ z i c,x=.str z∧y=.int i∧z.length≤sizeLine∧YU z.cps.toList i=some c∧Q (.str ⟨#[c]⟩) H
theorem ZG:IxR X (rIxL X.K):=by
 intro value slice pins s σ H x y v u Q I rx ry h hs
 obtain ⟨p,xs,i,z,rfl,rfl,hq,he,q⟩:=h
 cases rx
 obtain ⟨t,rfl⟩:=ry
 obtain ⟨its,r,pl,hz⟩:=I.list hq
 obtain ⟨j,h1,h2,h3,h4,h5⟩:=ZaR he
 obtain ⟨w,ew,rw'⟩:=r.get h2
 have hl:=r.length
 have hn:=Ub
 have fin:EP X pins σ Q w s:=⟨z,H,I,rw',q⟩
 by_cases h0:0≤i
 · have hj:i.toNat=j:=by
     rw [seqIndex_of h0 h5] at h1
     exact Option.some.inj h1
   exact item_listR pl.isList h0 (by omega) (by rw [hj];simpa using ew) fin hs
 · have hj:(i+(its.toArray.size:Int)).toNat=j:=by
     rw [seqIndex_neg (by omega) h4] at h1
     rw [List.size_toArray,← hl]
     exact Option.some.inj h1
   exact subscriptTail_builtinR (x:=w) pl.isList.typeIs slot_list_getitem.lookup
     (wpAny_getItem_list_neg (Q:=fun r s'=>r=w∧EP X pins σ Q r s') pl.isList (by omega) (by rw [List.size_toArray]<;>omega) (by omega) (by rw [hj];simpa using ew) ⟨rfl,fin⟩) hs
theorem Xc:IxR X (rIxT X.K):=by
 intro value slice pins s σ H x y v u Q I rx ry h hs
 obtain ⟨p,xs,i,z,rfl,rfl,hq,he,q⟩:=h
 cases rx
 obtain ⟨t,rfl⟩:=ry
 obtain ⟨its,r,pl,hz⟩:=I.tuple hq
 obtain ⟨j,h1,h2,h3,h4,h5⟩:=ZaR he
 obtain ⟨w,ew,rw'⟩:=r.get h2
 have hl:=r.length
 have hn:=Ub
 have fin:EP X pins σ Q w s:=⟨z,H,I,rw',q⟩
 exact subscriptTail_builtinR (x:=w) pl.typeIs slot_tuple_getitem.lookup
   (getItem_tuple (j:=j) (Q:=fun r s'=>r=w∧EP X pins σ Q r s') pl (by omega) (by omega) (by rw [List.size_toArray,← hl];exact h1) (by simpa using ew) ⟨rfl,fin⟩) hs
theorem ZaO:IxR X rIxS:=by
 intro value slice pins s σ H x y v u Q I rx ry h hs
 obtain ⟨z,i,c,rfl,rfl,hz,he,q⟩:=h
 obtain ⟨t,rfl⟩:=rx
 obtain ⟨t',rfl⟩:=ry
 obtain ⟨j,h1,h2,h3,h4,h5⟩:=ZaR he
 have hl:z.cps.toList.length=z.length:=by simp [Str.length]
 rw [hl] at h1 h4 h5
 have hn:=Ub
 exact tail_any (typeIs_str s z t) slot_str_getitem.lookup (getItem_str (c:=c) (by
   have e1:decide (i < -(2 ^ 63:Int))=false:=decide_eq_false (by omega)
   have e2:decide (i ≥ 2 ^ 63)=false:=decide_eq_false (by omega)
   rw [e1,e2,Bool.or_false]) (by rw [h1];simpa using h2) ⟨.str ⟨#[c]⟩,H,I.tok _,⟨_,rfl⟩,q⟩) hs
theorem ZdX (its:List Value)(n j:Nat)(u:Value):Obj.mapSeq (·.setIfInBounds j u) { cls:=.type "list",data:=.seq its.toArray n }={ cls:=.type "list",data:=.seq (its.set j u).toArray n }:=by
 simp [Obj.mapSeq]
theorem Inv.lst {pins:List (Addr×Obj)}{σ:St}{H:Hp}{s:Shared}{p:Addr}{xs:List V}(I:Inv X pins σ H s)(h:H p=some (.lst xs)) :
   ∃ (its:List Value) (n:Nat),Vals xs its∧s.heap.get? p=some { cls:=.type "list",data:=.seq its.toArray n }∧xs.length≤sizeLine:=by
 obtain ⟨z,its,n,r,e⟩:=I.hok p _ h
 exact ⟨its,n,r,e,z⟩
theorem Inv.lstUpd {pins:List (Addr×Obj)}{σ:St}{H:Hp}{s:Shared}{p:Addr}{xs ys:List V}{its its':List Value}{n n':Nat}{f:Obj→Obj}(I:Inv X pins σ H s)(h:H p=some (.lst xs))
   (ho:s.heap.get? p=some { cls:=.type "list",data:=.seq its.toArray n }) (hf:f { cls:=.type "list",data:=.seq its.toArray n }={ cls:=.type "list",data:=.seq its'.toArray n' }) (r:Vals ys its') (hz:ys.length≤sizeLine) (t:Nat) :
   Inv X pins σ (upd H p (.lst ys)) { s with heap:=s.heap.update p f,toks:=t }:=by
 have e:(s.heap.update p f).get? p=some { cls:=.type "list",data:=.seq its'.toArray n' }:=by
   rw [Heap.get?_update_self f ho (by rw [hf]<;>rfl),hf]
 refine I.write (x:=p) (e:=p) (by rw [h];trivial) (.inl rfl) (fun b u hb q=>(Heap.get?_update_other _ _ (Ne.symm hb)).trans q) ⟨_,e⟩ ?_
 exact ⟨hz,its',n',r,e⟩
def ZlA:V→V→V→Hp→(Hp→Prop)→Prop:=fun o i v H Q=>∃ p xs k j,o=.ref p∧i=.int k∧H p=some (.lst xs)∧VR xs.length k=some j∧Q (upd H p (.lst (xs.set j v)))
theorem Zcq:PSet X ZlA:=by
 intro pins s σ H o i v ov iv u Q I ro ri rv h
 obtain ⟨p,xs,k,j,rfl,rfl,hp,hj,q⟩:=h
 cases ro
 obtain ⟨t,rfl⟩:=ri
 obtain ⟨its,n,r,ho,hz⟩:=I.lst hp
 obtain ⟨h1,h2,h3,h4⟩:=ZdW hj
 have hl:=r.length
 have hn:=Ub
 have I':Inv X pins σ (upd H p (.lst (xs.set j v))) { s with heap:=s.heap.update p (Obj.mapSeq (·.setIfInBounds j u)) } :=
   I.lstUpd hp ho (ZdX its n j u) (r.set rv j) (by rw [List.length_set];exact hz) s.toks
 by_cases h0:0≤k
 · have hk:k.toNat=j:=by
     rw [seqIndex_of h0 h4] at h1
     exact Option.some.inj h1
   exact PySem.W.ki_setAt ho h0 (by omega) (by rw [List.size_toArray,← hl];exact h4) (by rw [hk];exact ⟨_,I',q⟩)
 · have hk:(k+(its.toArray.size:Int)).toNat=j:=by
     rw [seqIndex_neg (by omega) h3] at h1
     rw [List.size_toArray,← hl]
     exact Option.some.inj h1
   exact PySem.W.ki_setBack ho (by omega) (by rw [List.size_toArray,← hl];exact h3) (by omega) (by rw [hk];exact ⟨_,I',q⟩)
theorem Zcd (lo hi:Option Int)(n:Nat):(sliceBounds lo hi none n).1=((HT.sIx n 0 lo:Nat):Int)∧(sliceBounds lo hi none n).2.1=((HT.sIx n n hi:Nat):Int)∧(sliceBounds lo hi none n).2.2=1:=by
 refine ⟨?_,?_,rfl⟩
 · cases lo with
   | none=>simp [sliceBounds,HT.sIx]
   | some i =>
     simp only [sliceBounds,HT.sIx,Option.getD_none,show (1:Int) > 0 by decide,if_true]
     by_cases h:i < 0
     · simp only [h,if_true]<;>omega
     · simp only [h,if_false]<;>omega
 · cases hi with
   | none=>simp [sliceBounds,HT.sIx]
   | some i =>
     simp only [sliceBounds,HT.sIx,Option.getD_none,show (1:Int) > 0 by decide,if_true]
     by_cases h:i < 0
     · simp only [h,if_true]<;>omega
     · simp only [h,if_false]<;>omega
theorem ZbO (its:List Value)(lo hi:Option Int):slicePick its.toArray lo hi none=((its.drop (HT.sIx its.length 0 lo)).take (HT.sIx its.length its.length hi - HT.sIx its.length 0 lo)).toArray:=by
 obtain ⟨h1,h2,h3⟩:=Zcd lo hi its.toArray.size
 unfold slicePick
 rw [h1,h2,h3]
 simp only [sliceRange_one,pick_run,List.size_toArray]<;>rfl
def rSlL (K:PySem.W.Frag):V→Option Int→Option Int→Hp→VK→Prop:=fun x lo hi H Q=>∃ a xs,x=.ref a∧SqL K H a xs∧∀ p,H p=none→Q (.ref p) (upd H p (.lst (YV xs lo hi)))
theorem Xf:SlR X (rSlL X.K):=by
 intro pins s σ H x v vl vu lo hi sl Q I rx hs pl pu h
 obtain ⟨a,xs,rfl,hx,q⟩:=h
 cases rx
 obtain ⟨its,r,ht,hz⟩:=I.list hx
 have hlen:=r.length
 refine ⟨"list",_,slot_list_getitem.lookup,ht.isList.typeIs,?_⟩
 refine wpAny_getItem_list_slice ht.isList hs pl pu .none (by simp) ?_ (by rw [List.size_toArray]<;>omega)
 rw [ZbO,← hlen]
 refine ⟨.ref s.heap.objs.size,_,I.laid (t':=s.toks) (o:=.lst (YV xs lo hi)) (fun b ob q=>Heap.get?_push_of_some _ q) (Nat.le_refl _) ?_,rfl,q _ (I.hok.fresh (Nat.le_refl _))⟩
 exact ⟨Nat.le_trans (Zdj xs lo hi) hz,_,0,(r.drop (HT.sIx xs.length 0 lo)).take (HT.sIx xs.length xs.length hi - HT.sIx xs.length 0 lo),Heap.get?_push_size _ rfl⟩
def Xu:V→Bool
 | .non=>true
 | .bl _=>true
 | .int _=>true
 | .str _=>true
 | _=>false
def XL:V→V→Bool
 | .non,.non=>true
 | .bl a,.bl b=>a == b
 | .bl a,.int b=>(if a then 1 else 0) == b
 | .int a,.bl b=>a == (if b then 1 else 0)
 | .int a,.int b=>a == b
 | .str a,.str b=>a == b
 | _,_=>false
theorem ZkM {A:Around}{s:Shared}{y x:V}{u v:Value}(ry:RelV y u)(rx:RelV x v)(fy:Xu y=true)(fx:Xu x=true):SeqAt.EqAt A s u v (XL y x):=by
 cases y with
 | non =>
   cases ry
   cases x with
   | non=>cases rx;exact SeqAt.EqAt.same _
   | bl b=>cases rx;exact SeqAt.EqAt.none_bool b
   | int b=>obtain ⟨t,rfl⟩:=rx;exact SeqAt.EqAt.none_int b t
   | str b=>obtain ⟨t,rfl⟩:=rx;exact SeqAt.EqAt.none_str b t
   | _=>exact absurd (show false=true from fx) Bool.false_ne_true
 | bl a =>
   cases ry
   cases x with
   | non=>cases rx;exact SeqAt.EqAt.bool_none a
   | bl b=>cases rx;exact SeqAt.EqAt.bool_bool a b
   | int b=>obtain ⟨t,rfl⟩:=rx;exact SeqAt.EqAt.bool_int a b t
   | str b=>obtain ⟨t,rfl⟩:=rx;exact SeqAt.EqAt.bool_str a b t
   | _=>exact absurd (show false=true from fx) Bool.false_ne_true
 | int a =>
   obtain ⟨t',rfl⟩:=ry
   cases x with
   | non=>cases rx;exact SeqAt.EqAt.int_none a t'
   | bl b=>cases rx;exact SeqAt.EqAt.int_bool a t' b
   | int b=>obtain ⟨t,rfl⟩:=rx;exact SeqAt.EqAt.int_int a t' b t
   | str b=>obtain ⟨t,rfl⟩:=rx;exact SeqAt.EqAt.int_str a t' b t
   | _=>exact absurd (show false=true from fx) Bool.false_ne_true
 | str a =>
   obtain ⟨t',rfl⟩:=ry
   cases x with
   | non=>cases rx;exact SeqAt.EqAt.str_none a t'
   | bl b=>cases rx;exact SeqAt.EqAt.str_bool a t' b
   | int b=>obtain ⟨t,rfl⟩:=rx;exact SeqAt.EqAt.str_int a t' b t
   | str b=>obtain ⟨t,rfl⟩:=rx;exact SeqAt.EqAt.str_str a t' b t
   | _=>exact absurd (show false=true from fx) Bool.false_ne_true
 | _=>exact absurd (show false=true from fy) Bool.false_ne_true
def We (x:V)(u:Value):Bool:=match u with
 | .none=>XL .non x
 | .bool b=>XL (.bl b) x
 | .int i _=>XL (.int i) x
 | .str z _=>XL (.str z) x
 | _=>false
theorem ZcK {x y:V}{u:Value}(r:RelV y u)(f:Xu y=true):We x u=XL y x:=by
 cases y with
 | non=>cases r;rfl
 | bl b=>cases r;rfl
 | int i=>obtain ⟨t,rfl⟩:=r;rfl
 | str z=>obtain ⟨t,rfl⟩:=r;rfl
 | _=>exact absurd (show false=true from f) Bool.false_ne_true
theorem UP {x:V}:∀{xs:List V}{us:List Value},Vals xs us→xs.all Xu=true→us.any (We x)=xs.any fun y=>XL y x
 | _,_,.nil,_=>rfl
 | y::xs,u::us,.cons r t,f=>by
   rw [List.all_cons,Bool.and_eq_true] at f
   rw [List.any_cons,List.any_cons,ZcK r f.1,UP t f.2]
theorem Wq {A:Around}{s:Shared}{x:V}{v:Value}(rx:RelV x v)(fx:Xu x=true):∀{xs:List V}{us:List Value},Vals xs us→xs.all Xu=true→∀ u∈us,SeqAt.EqAt A s u v (We x u)
 | _,_,.nil,_=>fun u hu=>by cases hu
 | y::xs,u::us,.cons r t,f=>fun u' hu=>by
   rw [List.all_cons,Bool.and_eq_true] at f
   rcases List.mem_cons.mp hu with rfl | hu
   · rw [ZcK r f.1];exact ZkM r rx f.1 fx
   · exact Wq rx fx t f.2 u' hu
def YG (x:V)(xs:List V):Bool:=xs.any fun y=>XL y x
def rIn (K:PySem.W.Frag)(neg:Bool):R2:=fun x y H Q=>∃ p xs,y=.ref p∧(SqL K H p xs∨SqT K H p xs)∧Xu x=true∧xs.all Xu=true∧Q (.bl (if neg then !YG x xs else YG x xs)) H
theorem Wc:YM X (compareOp .In) (rIn X.K false):=by
 intro pins s σ H x y v u Q I rx ry h
 obtain ⟨p,xs,rfl,hq,fx,fs,q⟩:=h
 cases ry
 rcases hq with hq | hq
 · obtain ⟨its,r,pl,hz⟩:=I.list hq
   refine SeqAt.in_listAt (We x) pl.isList (fun w hw=>Wq rx fx r fs w (by simpa using hw)) ⟨.bl _,H,I,rfl,?_⟩
   rw [show its.toArray.any (We x)=its.any (We x) by simp,UP r fs]
   exact q
 · obtain ⟨its,r,pl,hz⟩:=I.tuple hq
   refine SeqAt.in_tupleAt (We x) pl (fun w hw=>Wq rx fx r fs w (by simpa using hw)) ⟨.bl _,H,I,rfl,?_⟩
   rw [show its.toArray.any (We x)=its.any (We x) by simp,UP r fs]
   exact q
theorem Um:YM X (compareOp .NotIn) (rIn X.K true):=by
 intro pins s σ H x y v u Q I rx ry h
 obtain ⟨p,xs,rfl,hq,fx,fs,q⟩:=h
 cases ry
 rcases hq with hq | hq
 · obtain ⟨its,r,pl,hz⟩:=I.list hq
   refine SeqAt.notIn_listAt (We x) pl.isList (fun w hw=>Wq rx fx r fs w (by simpa using hw)) ⟨.bl _,H,I,rfl,?_⟩
   rw [show its.toArray.any (We x)=its.any (We x) by simp,UP r fs]
   exact q
 · obtain ⟨its,r,pl,hz⟩:=I.tuple hq
   refine SeqAt.notIn_tupleAt (We x) pl (fun w hw=>Wq rx fx r fs w (by simpa using hw)) ⟨.bl _,H,I,rfl,?_⟩
   rw [show its.toArray.any (We x)=its.any (We x) by simp,UP r fs]
   exact q
theorem ZK:YO X (.builtin "len") (fun xs H Q=>∃ p ys,xs=[.ref p]∧(SqL X.K H p ys∨SqT X.K H p ys)∧Q (.int ys.length) H):=by
 intro pins s σ H xs us Q I r h
 obtain ⟨p,ys,rfl,hq,q⟩:=h
 obtain ⟨u,rfl,rx⟩:=YK r
 cases rx
 have hn:=Ub
 rcases hq with hq | hq
 · obtain ⟨its,r',pl,hz⟩:=I.list hq
   have hlen:=r'.length
   exact Calls.call_len_list pl.isList (by simp only [List.size_toArray]<;>omega) ⟨.int ys.length,H,I.tok _,⟨s.toks+1,by rw [List.size_toArray,hlen]⟩,q⟩
 · obtain ⟨its,r',pl,hz⟩:=I.tuple hq
   have hlen:=r'.length
   exact len_tuple pl (by simp only [List.size_toArray]<;>omega) ⟨.int ys.length,H,I.tok _,⟨s.toks+1,by rw [List.size_toArray,hlen]⟩,q⟩
theorem Xd:YO X (.builtin "len") (fun xs H Q=>∃ z,xs=[.str z]∧z.length≤sizeLine∧Q (.int z.length) H):=by
 intro pins s σ H xs us Q I r h
 obtain ⟨z,rfl,hz,q⟩:=h
 obtain ⟨u,rfl,t,rfl⟩:=YK r
 have hn:=Ub
 exact len_str (by omega) ⟨.int z.length,H,I.tok _,⟨_,rfl⟩,q⟩
theorem Xm:YO X (.type "tuple") (fun xs H Q=>∃ p ys,xs=[.ref p]∧((SqL X.K H p ys∧∀ l,H l=none→Q (.ref l) (upd H l (.tup ys)))∨(SqT X.K H p ys∧Q (.ref p) H))):=by
 intro pins s σ H xs us Q I r h
 obtain ⟨p,ys,rfl,h⟩:=h
 obtain ⟨u,rfl,rx⟩:=YK r
 cases rx
 rcases h with ⟨hq,q⟩ | ⟨hq,q⟩
 · obtain ⟨its,r',pl,hz⟩:=I.list hq
   have hlen:=r'.length
   refine call_tuple_list pl.isList (fun h' kp=>?_) (by simp only [List.size_toArray]<;>omega)
   have I1:Inv X pins σ H { s with heap:=h' }:=I.kept (t':=s.toks) kp
   have I2:Inv X pins σ (upd H h'.objs.size (.tup ys)) { s with heap:=h'.push { cls:=.type "tuple",data:=.seq its.toArray } } :=
     I1.laid (t':=s.toks) (fun b o e=>Heap.get?_push_of_some _ e) (Nat.le_refl _) (show ObjOk X.prog X.w _ _ _ (.tup ys) from ⟨hz,its,r',IsTup.new _ _⟩)
   exact ⟨.ref h'.objs.size,_,I2,rfl,q _ (I1.hok.fresh (Nat.le_refl _))⟩
 · obtain ⟨its,r',pl,hz⟩:=I.tuple hq
   exact call_tuple_same pl ⟨.ref p,H,I,rfl,q⟩
def tyV (K:PySem.W.Frag)(T:String)(x:V)(H:Hp):Prop:=match x with
 | .str _=>T="str"
 | .int _=>T="int"
 | .ref p=>(T="list"∧∃ xs,SqL K H p xs)∨(T="tuple"∧∃ o,K.lookup p=some o∧o.cls=.type "tuple"∧o.dict=none) ∨
     (T="dict"∧((∃ kvs,H p=some (.dK kvs))∨∃ kvs,H p=some (.dT kvs)))∨(T="set"∧∃ S n,H p=some (.set S n))
 | _=>False
theorem Zcb {pins:List (Addr×Obj)}{σ:St}{H:Hp}{s:Shared}{T:String}{x:V}{v:Value}(I:Inv X pins σ H s)(r:RelV x v)(ty:tyV X.K T x H) :
   s.TypeIs v T∧∀ a,v=.ref a→∃ ob,s.heap.get? a=some ob∧ob.dict=none:=by
 cases x with
 | str z =>
   obtain ⟨t,rfl⟩:=r
   cases (show T="str" from ty)
   exact ⟨typeIs_str s z t,fun _ e=>nomatch e⟩
 | int i =>
   obtain ⟨t,rfl⟩:=r
   cases (show T="int" from ty)
   exact ⟨typeIs_int s i t,fun _ e=>nomatch e⟩
 | ref p =>
   cases r
   rcases ty with ⟨rfl,xs,hq⟩ | ⟨rfl,o,hk,hc,hd⟩ | ⟨rfl,hk⟩ | ⟨rfl,S,n,hk⟩
   · obtain ⟨its,_,pl,_⟩:=I.list hq
     refine ⟨pl.isList.typeIs,fun a e=>?_⟩
     cases e
     obtain ⟨o,n,e,c,hd,_⟩:=pl
     exact ⟨o,e,hd⟩
   · refine ⟨⟨o,I.kIn p o hk,hc⟩,fun a e=>?_⟩
     cases e
     exact ⟨o,I.kIn _ o hk,hd⟩
   · have z:∃ o,s.heap.get? p=some o∧o.ExactDict:=by
       rcases hk with ⟨kvs,hk⟩ | ⟨kvs,hk⟩
       · obtain ⟨_,_,_,_,o,_,_,e,ex,_⟩:=I.hok p _ hk
         exact ⟨o,e,ex⟩
       · obtain ⟨_,_,_,_,o,_,_,e,ex,_⟩:=I.hok p _ hk
         exact ⟨o,e,ex⟩
     obtain ⟨o,e,ex⟩:=z
     refine ⟨⟨o,e,ex.1⟩,fun a e2=>?_⟩
     cases e2
     exact ⟨o,e,ex.2.1⟩
   · obtain ⟨o,_,_,_,e,ex,_⟩:=I.hok p _ hk
     refine ⟨⟨o,e,ex.1⟩,fun a e2=>?_⟩
     cases e2
     exact ⟨o,e,ex.2.1⟩
 | _=>exact False.elim ty
def tBM0 (K:PySem.W.Frag)(T:String)(r:V→List V→Hp→VK→Prop)(to:TE):TE:=fun σ H Q=>to σ H fun x H1=>tyV K T x H1∧r x [] H1 Q
def tBM (K:PySem.W.Frag)(T:String)(r:V→List V→Hp→VK→Prop)(to:TE)(t:TA):TE:=fun σ H Q=>to σ H fun x H1=>tyV K T x H1∧t σ H1 fun xs H2=>r x xs H2 Q
variable {o e:Expr}{es:List Expr}{to:TE}{t:TA}{name:Str}{apos cpos:Pos}{T id:String}{r:V→List V→Hp→VK→Prop}
theorem ZjT (pa:PlainAttrs T)(slot:Slot T name id)(hty:typeOf (.builtin id)=pure (.type "method_descriptor"))(hm:MtR X id r)(ho:PE X o to)
   (hbase:attributeBase o name X.env (eval o X.env)=eval o X.env:=by rfl) (hline:(apos.endLine == cpos.line)=true:=by rfl):PE X (.Call (.Attribute o name apos) [] [] cpos) (tBM0 X.K T r to):=by
 intro pins s σ H Q I h
 refine wpAny_Call_method0_late hbase hline (Zn (ho pins s σ H _ I h) fun v s1 ⟨x,H1,I1,r1,ty,q1⟩=>?_)
 obtain ⟨h1,h2⟩:=Zcb I1 r1 ty
 exact ⟨T,id,pa,slot,hty,h1,h2,Calls.callWith_builtin rfl (PySem.evalArgs_none (hm pins s1 σ H1 x [] v [] Q I1 r1 .nil q1))⟩
theorem Yc (pa:PlainAttrs T)(slot:Slot T name id)(hty:typeOf (.builtin id)=pure (.type "method_descriptor"))(hm:MtR X id r)(ho:PE X o to)(ha:PA X (e::es) t)
   (hbase:attributeBase o name X.env (eval o X.env)=eval o X.env:=by rfl)
   (hfew:((backTo cpos (starEach (e::es) X.env)).all (fun x=>!x.1)&&(backToKw cpos (keywordEach [] X.env)).all (fun x=>x.1.isSome)
     && decide ((e::es).length+([]:List Keyword).length+(if ([]:List Keyword).isEmpty then 0 else 1) < 30))=true:=by rfl)
   (hline:(apos.endLine == cpos.line)=true:=by rfl) (hs:starEach (e::es) X.env=(false,eval e X.env)::starEach es X.env:=by rfl) (hplain:(backTo cpos (starEach es X.env)).any (·.1)=false:=by rfl) :
   PE X (.Call (.Attribute o name apos) (e::es) [] cpos) (tBM X.K T r to t):=by
 intro pins s σ H Q I h
 refine wpAny_Call_method_late hbase hfew hline rfl (Zn (ho pins s σ H _ I h) fun v s1 ⟨x,H1,I1,r1,ty,q1⟩=>?_)
 obtain ⟨h1,h2⟩:=Zcb I1 r1 ty
 refine ⟨T,id,pa,slot,hty,h1,h2,?_⟩
 have hA:=ha cpos pins s1 σ H1 _ I1 q1
 rw [hs] at hA ⊢
 refine Calls.callWith_builtin (by show (false || (backTo cpos (starEach es X.env)).any (·.1))=false;rw [hplain]<;>rfl) (Calls.evalArgs_plain ?_)
 exact Zn hA fun us s2 ⟨vs,H2,I2,r2,q2⟩=>hm pins s2 σ H2 x vs v us Q I2 r1 r2 q2
end
end L2
namespace L2
open PySem PySem.Spec PyProof.Rows
def MtM (X:Cx)(id:String)(r:V→List V→Hp→VK→Prop):Prop :=
 ∀ (pins:List (Addr×Obj)) (s:Shared) (σ:St) (H:Hp) (x:V) (xs:List V) (v:Value) (us:List Value) (Q:VK),Inv X pins σ H s→RelV x v→Vals xs us→r x xs H Q →
   wpAny (model X.prog X.w) X.A (call (.builtin id) (v::us)) (EP X pins σ Q) X.xe s
theorem Vals.one:∀{x:V}{us:List Value},Vals [x] us→∃ u,us=[u]∧RelV x u
 | _,_,.cons r .nil=>⟨_,rfl,r⟩
theorem Vals.zero:∀{us:List Value},Vals [] us→us=[]
 | _,.nil=>rfl
theorem Vals.reverse {xs:List V}{us:List Value}(h:Vals xs us):Vals xs.reverse us.reverse:=by
 induction h with
 | nil=>exact .nil
 | cons r t ih=>rw [List.reverse_cons,List.reverse_cons];exact Vals.append ih (.cons r .nil)
section
variable {X:Cx}{pins:List (Addr×Obj)}{σ:St}{H:Hp}{s:Shared}{l b:Addr}{xs ys zs:List V}
theorem Inv.lset {its its':List Value}{n:Nat}{f:Array Value→Array Value}{t':Nat}(I:Inv X pins σ H s)(hH:H l=some (.lst xs))
   (e:s.heap.get? l=some { cls:=.type "list",data:=.seq its.toArray n }) (hf:f its.toArray=its'.toArray) (hv:Vals ys its') (hz:ys.length≤sizeLine) :
   Inv X pins σ (upd H l (.lst ys)) { s with heap:=s.heap.update l (Obj.mapSeq f),toks:=t' }:=by
 have q:=PySem.IsL.update e f
 rw [hf] at q
 refine I.write (x:=l) (e:=l) (by rw [hH];exact trivial) (.inl rfl) (fun b' u hb hu=>(Heap.get?_update_other s.heap (Obj.mapSeq f) (Ne.symm hb)).trans hu) ⟨_,q⟩ ?_
 exact ⟨hz,its',_,hv,q⟩
theorem Inv.lnew {its:List Value}{t':Nat}(I:Inv X pins σ H s)(hv:Vals ys its)(hz:ys.length≤sizeLine) :
   Inv X pins σ (upd H s.heap.objs.size (.lst ys)) { s with heap:=s.heap.push { cls:=.type "list",data:=.seq its.toArray },toks:=t' } :=
 I.laid (fun _ _ q=>Heap.get?_push_of_some _ q) (Nat.le_refl _) ⟨hz,its,0,hv,Heap.get?_push_size _ rfl⟩
theorem Inv.fresh (I:Inv X pins σ H s):H s.heap.objs.size=none:=I.hok.fresh (Nat.le_refl _)
theorem Inv.lstM (I:Inv X pins σ H s)(hH:H l=some (.lst xs)):xs.length≤sizeLine∧∃ (its:List Value) (n:Nat),Vals xs its∧xs.length=its.length∧s.heap.get? l=some { cls:=.type "list",data:=.seq its.toArray n }:=by
 obtain ⟨z,its,n,r,e⟩:=I.hok l _ hH
 exact ⟨z,its,n,r,r.length,e⟩
theorem ZgT {n:Nat}(h:n≤sizeLine):Builtin.List.listTooLong n=false:=by
 unfold Builtin.List.listTooLong
 exact decide_eq_false (by omega)
end
section
variable {X:Cx}
def ZdS:V→List V→Hp→VK→Prop:=fun x vs H Q=>∃ l xs y,x=.ref l∧vs=[y]∧H l=some (.lst xs)∧xs.length < sizeLine∧Q .non (upd H l (.lst (xs++[y])))
theorem Yd:MtM X "list.append" ZdS:=by
 intro pins s σ H x vs v us Q I rx rv h
 obtain ⟨l,xs,y,rfl,rfl,hH,hz,q⟩:=h
 cases rx
 obtain ⟨u,rfl,ru⟩:=rv.one
 obtain ⟨z,its,n,r,hl,e⟩:=I.lstM hH
 refine call_meets F.slot_list_append ⟨_,e,rfl⟩ F.entry_list_append (F.args_list_append_2 _ _) (PySem.list_append l its.toArray n u (by rw [List.size_toArray];omega)) ⟨e,?_⟩
 refine ⟨.non,_,I.lset (its':=its++[u]) hH e (by simp) (r.append (.cons ru .nil)) ?_,rfl,q⟩
 rw [List.length_append,List.length_singleton]
 omega
def ZiH:V→List V→Hp→VK→Prop:=fun x vs H Q=>∃ l b xs zs,x=.ref l∧vs=[.ref b]∧H l=some (.lst xs)∧H b=some (.lst zs)∧xs.length+zs.length≤sizeLine∧Q .non (upd H l (.lst (xs++zs)))
theorem Zfj:MtM X "list.extend" ZiH:=by
 intro pins s σ H x vs v us Q I rx rv h
 obtain ⟨l,b,xs,zs,rfl,rfl,hH,hB,hz,q⟩:=h
 cases rx
 obtain ⟨u,rfl,ru⟩:=rv.one
 cases ru
 obtain ⟨z,its,n,r,hl,e⟩:=I.lstM hH
 obtain ⟨z2,its2,n2,r2,hl2,e2⟩:=I.lstM hB
 have hsz:its.toArray.size+its2.toArray.size≤sizeLine:=by rw [List.size_toArray,List.size_toArray];omega
 have hlong:¬ (!its.toArray.isEmpty&&Builtin.List.listTooLong (its.toArray.size+its2.toArray.size))=true:=by
   rw [ZgT hsz,Bool.and_false]
   exact Bool.false_ne_true
 refine call_meets F.slot_list_extend ⟨_,e,rfl⟩ F.entry_list_extend (F.args_list_extend_2 _ _)
   (AutoSeq1.list_extend_list_list_0 l its.toArray n b its2.toArray n2 hlong (by rw [List.size_toArray];omega) (by omega)) ⟨e,e2,?_⟩
 refine ⟨.non,_,I.lset (its':=its++its2) hH e (by simp) (r.append r2) ?_,rfl,q⟩
 rw [List.length_append]
 omega
def ZgN:V→List V→Hp→VK→Prop:=fun x vs H Q=>∃ l xs,x=.ref l∧vs=[]∧H l=some (.lst xs)∧Q .non (upd H l (.lst xs.reverse))
theorem Zew:MtM X "list.reverse" ZgN:=by
 intro pins s σ H x vs v us Q I rx rv h
 obtain ⟨l,xs,rfl,rfl,hH,q⟩:=h
 cases rx
 have hus:=rv.zero
 subst hus
 obtain ⟨z,its,n,r,hl,e⟩:=I.lstM hH
 refine call_meets F.slot_list_reverse ⟨_,e,rfl⟩ F.entry_list_reverse (F.args_list_reverse_1 _) (AutoSeq1.list_reverse_list_0 l its.toArray n (by rw [List.size_toArray];omega)) ⟨e,?_⟩
 refine ⟨.non,_,I.lset (its':=its.reverse) hH e (by simp) r.reverse ?_,rfl,q⟩
 rw [List.length_reverse]
 omega
def rCat:R2:=fun x y H Q=>∃ l b xs zs,x=.ref l∧y=.ref b∧H l=some (.lst xs)∧H b=some (.lst zs)∧xs.length+zs.length≤sizeLine∧∀ p,H p=none→Q (.ref p) (upd H p (.lst (xs++zs)))
theorem Wg:YM X (binaryOp .Add) rCat:=by
 intro pins s σ H x y v u Q I rx ry h
 obtain ⟨l,b,xs,zs,rfl,rfl,hH,hB,hz,q⟩:=h
 cases rx
 cases ry
 obtain ⟨z,its,n,r,hl,e⟩:=I.lstM hH
 obtain ⟨z2,its2,n2,r2,hl2,e2⟩:=I.lstM hB
 refine PySem.P.add_list e e2 ?_ (by rw [List.size_toArray,List.size_toArray];omega)
 have ea:its.toArray++its2.toArray=(its++its2).toArray:=by simp
 rw [ea]
 exact ⟨.ref _,_,I.lnew (t':=s.toks) (r.append r2) (by rw [List.length_append];omega),rfl,q _ I.fresh⟩
end
section
variable {prog:Program}{w:World}{A:Around}{E:Value→Shared→Prop}{s:Shared}
end
section
variable {X:Cx}
end
end L2
namespace Att
open PySem PySem.W PySem.Calls PyProof.Rows
theorem Zav {P:Params}{h:Heap}:∀(ns:List Int)(vs:List Value),WellAll P h vs (ns.map WData.int)→IntsAre vs ns:=by
 intro ns
 induction ns with
 | nil =>
   intro vs w
   rw [List.map_nil] at w
   cases w
   exact .nil
 | cons n ns ih =>
   intro vs w
   rw [List.map_cons] at w
   cases w with
   | cons a b =>
     cases a
     exact .cons _ _ (ih _ b)
theorem Zfg {l:OpenLaw}{n:Nat}(hn:l.most=some n){P:Params}{h:Heap}{args:List WData}{vals:List Value}
   (hpre:l.row.toRowW.claim.pre args=true) (hwl:WellAll P h vals args) :
   ∃ a vs ns,vals=[Value.ref a]∧args=[WData.list (ns.map WData.int)]∧h.get? a=some { cls:=.type "list",data:=.seq vs.toArray }∧IntsAre vs ns∧ns.length≤n:=by
 have hsh:WShape.hasAll [] args [.list .int]=true:=(pre_splitW hpre).1
 have hc:l.pre.holds [] { args:=args }=true:=(pre_splitW hpre).2
 obtain ⟨d,r,rfl,h1,h2⟩:=hasAllW_cons hsh
 obtain rfl:=hasAllW_nil h2
 obtain ⟨xs,rfl,h3⟩:=hasW_list h1
 obtain ⟨ns,rfl⟩:=items_int h3
 have hlen:ns.length≤n:=by
   unfold OpenLaw.pre at hc
   have h4:(WTm.not (.lt (.lit (.int (n:Int))) (.len (.arg 0)))).holds [] { args:=[.list (ns.map .int)] }=true:=by
     have h4:=(holds_andW hc).1
     rw [hn] at h4
     exact h4
   have h5:=condW_of h4 (w_not (w_lt w_lit (w_len_list (w_arg rfl))))
   rw [List.length_map] at h5
   refine Nat.le_of_not_lt fun q=>?_
   have q':(n:Int) < ((ns.length:Nat):Int):=by omega
   first
     | (rw [decide_eq_true q'] at h5;exact absurd h5 (by decide))
     | (simp at h5;omega)
 cases hwl with
 | cons w1 w2 =>
   cases w2
   cases w1 with
   | list ho hall=>exact ⟨_,_,ns,rfl,rfl,ho,Zav ns _ hall,hlen⟩
theorem ZfS (l:OpenLaw)(args:List WData):l.row.toRowW.claim.post args (.bool true) args=true :=
 postW_of (r:=l.row.toRowW) (X:=(true == true))
   (show WShape.has [] (.bool true) .bool=true by first | rfl | decide | simp [WShape.has,WShape.arms,WShape.armsAll])
   (show (WTm.eq .res (.lit (.bool true))).value [] { args:=args,res:=some (.bool true),after:=args }=some (.bool (true == true)) from w_eq_bool (w_res rfl) w_lit) rfl
theorem attach_call {l:OpenLaw}{n:Nat}{q:Program}{loose:List Str}{XP:(Str→Option Value)→Heap→Prop}{YP:World→Heap→Prop}{d:DefRec}
   (hn:l.most=some n) (hdf:d.params.defaults=[])
   (call:∀ (w:World) (s₀ s₁:Shared) (mg mb:Str→Option Value) (fa:Addr) (o:Obj) (pm cd doc:Value) (a:Addr) (vs:List Value) (ns:List Int),
     Ground q loose [] XP w s₀ mg mb s₁.heap→YP w s₁.heap →
     s₁.heap.get? fa=some o→o.data=.func (docDef d.name d.params d.body d.scope pm cd doc)→s₁.heap.CodeRec cd d.name→mg d.name=some (.ref fa) →
     s₁.heap.get? a=some { cls:=.type "list",data:=.seq vs.toArray }→IntsAre vs ns→ns.length≤n→s₁.gens=#[] →
     codeAny (model l.prog w) callerA (.call (.ref fa) ⟨[.ref a],[]⟩) (fun r s'=>r=.ok (.ret (.bool true))∧OldK s₁.heap s'.heap∧s'.os=s₁.os∧AllBare s'.gens) s₁) :
   WalkO q loose XP YP l.row.toRowW d [] (fun f vs=>PySem.call f vs):=by
 intro w s₀ s₁ mg mb G Y fa o pm cd doc dV kV ho hd hcd hD hmg hg args vals as hpre hlay hrd hwl hlo
 obtain rfl:dV=.none:=Dflts.none hD hdf
 obtain rfl:kV=.none:=Dflts.noKw hD
 obtain ⟨a,vs,ns,rfl,rfl,hobj,hints,hlen⟩:=Zfg hn hpre hwl
 refine enter_call (codeAny_mono (call w s₀ s₁ mg mb fa o pm cd doc a vs ns G Y ho (fd_plain hd) hcd hmg hobj hints hlen hg) fun r s' hq=>?_)
 obtain ⟨rfl,h2,h3,h4⟩:=hq
 exact ⟨.inl ⟨.bool true,.bool true,[],rfl,fun _=>rfl,.bool true,ZfS l _,fun _=>⟨List.Pairwise.nil,fun _ hm=>(nomatch hm)⟩⟩,h2,h3,h4⟩
section
variable {prog:Program}{w:World}{A:Around}{E:Value→Shared→Prop}{s:Shared}{K:Frag}
end
end Att
namespace L2
open PySem PySem.Spec PyProof.Rows
theorem Zbt:∀{vs:List Value}{ns:List Int},IntsAre vs ns→Vals (ns.map V.int) vs
 | _,_,.nil=>.nil
 | _,_,.cons n t h=>.cons ⟨t,rfl⟩ (Zbt h)
end L2
namespace L2
open PySem PySem.Spec PyProof.Rows
end L2
namespace L2
open PySem PySem.Spec PyProof.Rows
def Zbb (s:Stmt):Arguments:=match s with
 | .FunctionDef _ a _ _ _ _ _ _ _ _=>a
 | _=>{ posonlyargs:=[],args:=[],vararg:=none,kwonlyargs:=[],kw_defaults:=[],kwarg:=none,defaults:=[] }
def WT (s:Stmt):List Stmt:=match s with
 | .FunctionDef _ _ b _ _ _ _ _ _ _=>b
 | _=>[]
def Zj (s:Stmt):Scope:=match s with
 | .FunctionDef _ _ _ _ _ _ sc _ _ _=>sc
 | _=>{ kind:=.function,names:=[],isGenerator:=false,isCoroutine:=false }
abbrev ZV:Uv:=fun _ _ _ _ _ _=>False
abbrev E0:XK:=fun _ _ _=>False
theorem ZlL {X:Cx}:ZcV ZV X E0:=fun _ _ _ _ _ _ _ h=>h.elim
structure Fun (K:PySem.W.Frag)(x qual:Str)(st:Stmt)(f:Addr)(fd:FuncData):Prop where
 ex:∃ (oc:Value) (od:Option Addr) (kV doc pm:Value) (an:Option Addr) (cdv ct:Value) (osl:Array (Option Value)),
   fd=PySem.W.fnOf x qual (Zbb st) (WT st) (Zj st) .none kV doc pm an cdv ct∧K.lookup f=some ⟨oc,od,.func fd,osl⟩∧PySem.W.codeIn K cdv qual=true
 kp:PySem.W.keepIn K (.ref f)=true
section
variable {P:Program}{w:World}{K:PySem.W.Frag}{mg:Str→Option Value}{base:Heap}
theorem Fun.ok {x qual:Str}{st:Stmt}{f:Addr}{fd:FuncData}{N ps:List Str}{k:Nat}{sp:Sp}(F:Fun K x qual st f fd)(S:Zs N ps (Zj st))(len:∀ vs H Q E,sp vs H Q E→vs.length=ps.length)
   (hbody:∀ (cdv:Value) (A:Around) (outer:List Env) (s:Shared) (H:Hp) (vs:List V) (Q:VK) (E:XK),Room k (A.deeper (envOfC qual (Zj st) s.heap.objs.size f cdv))→sp vs H Q E →
     ∃ t,PSs (UE ZV P w K mg base N qual (Zj st) f cdv A outer s H E).nox (WT st) t∧t { nx:=fun _ H'=>Q .non H',rt:=Q } (start N vs) H):FnOk P w K mg base ZV (k+1) f fd ps sp:=by
 obtain ⟨oc,od,kV,doc,pm,an,cdv,ct,osl,rfl,lk,hcd⟩:=F.ex
 refine ZlU lk hcd S len fun A outer s H vs Q E hr hsp=>?_
 obtain ⟨t,h,q⟩:=hbody cdv A outer s H vs Q E hr hsp
 exact ⟨t,h.nox,q⟩
theorem Fun.binds {x qual:Str}{st:Stmt}{f:Addr}{fd:FuncData}{ps:List Str}(F:Fun K x qual st f fd)
   (h:∀ (kV doc pm:Value) (an:Option Addr) (cdv ct:Value) (us:List Value),us.length=ps.length→bindArgs (PySem.W.fnOf x qual (Zbb st) (WT st) (Zj st) .none kV doc pm an cdv ct) ⟨us,[]⟩=pure (ps.zip us)):Binds K fd ps []:=by
 obtain ⟨oc,od,kV,doc,pm,an,cdv,ct,osl,rfl,lk,hcd⟩:=F.ex
 exact .all (h kV doc pm an cdv ct)
end
theorem Zej {A:Around}{k:Nat}(hr:Room k A):A.units+1 < cLine:=Nat.lt_of_le_of_lt (Nat.add_le_add_left (by decide:1≤64) _) hr.units
theorem Zfr {n:Nat}(h:n≤1000):n < sizeLine:=Nat.lt_of_le_of_lt h (by decide)
section
variable {X:Cx}
theorem pv (i:Nat){x:Str}{pos:Pos}(hN:X.N[i]?=some x:=by rfl)(hv:Vis X.env.scope x:=by first | exact Or.inl rfl | exact Or.inr (Or.inl rfl) | exact Or.inr (Or.inr rfl))(hd:(x == ("__debug__":Str))=false:=by decide)
 (hcd:(x == ("__classdict__":Str))=false:=by decide):PE X (.Name x pos) (Vc i):=ZjH hN hv hd hcd
end
theorem ZD {A B:Prop}(h:B):if false=true then A else B:=by
 rw [if_neg Bool.false_ne_true]
 exact h
theorem ZQ {A B:Prop}(h:A):if true=true then A else B:=by
 rw [if_pos rfl]
 exact h
theorem Wm {c A B:Prop}[Decidable c](h1:c→A)(h2:¬ c→B):if c then A else B:=by
 by_cases h:c
 · rw [if_pos h]
   exact h1 h
 · rw [if_neg h]
   exact h2 h
def Same (H H':Hp):Prop:=∀ b o,H b=some o→H' b=some o
theorem Same.refl (H:Hp):Same H H:=fun _ _ h=>h
theorem Same.trans {H H1 H2:Hp}(a:Same H H1)(b:Same H1 H2):Same H H2:=fun c o h=>b c o (a c o h)
end L2
namespace L2
open PySem PySem.Spec PyProof.Rows
section
variable {κ:Type}[DecidableEq κ]
def Yj (kvs:List (κ×V))(k:κ):Option V:=(kvs.find? fun kv=>decide (kv.1=k)).map (·.2)
def XS (kvs:List (κ×V))(k:κ)(v:V):List (κ×V) :=
 if (kvs.any fun kv=>decide (kv.1=k))=true then kvs.map (fun kv=>if kv.1=k then (kv.1,v) else kv) else kvs++[(k,v)]
def Xt (kvs:List (κ×V))(k:κ):List (κ×V):=kvs.filter fun kv=>decide (kv.1≠k)
theorem YB {p:κ×V}{r:List (κ×V)}{k:κ}(e:p.1=k):Yj (p::r) k=some p.2:=by simp [Yj,List.find?_cons,e]
theorem Yv {p:κ×V}{r:List (κ×V)}{k:κ}(e:¬ p.1=k):Yj (p::r) k=Yj r k:=by simp [Yj,List.find?_cons,e]
theorem Vh (k:κ):∀ kvs:List (κ×V),(kvs.any fun kv=>decide (kv.1=k))=(Yj kvs k).isSome
 | []=>rfl
 | p::r=>by
   rw [List.any_cons]
   by_cases e:p.1=k
   · simp only [YB e,decide_eq_true e,Bool.true_or,Option.isSome_some]
   · rw [Yv e,decide_eq_false e,Bool.false_or];exact Vh k r
theorem ZcU (k j:κ)(y:V):∀ kvs:List (κ×V),Yj (kvs.map fun kv=>if kv.1=k then (kv.1,y) else kv) j=(Yj kvs j).map fun x=>if j=k then y else x
 | []=>rfl
 | p :: r=>by
   have ih:=ZcU k j y r
   rw [List.map_cons]
   by_cases h:p.1=k
   · rw [if_pos h]
     by_cases e:p.1=j
     · rw [YB (p:=(p.1,y)) e,YB e,Option.map_some,if_pos (e.symm.trans h)]
     · rw [Yv (p:=(p.1,y)) e,Yv e,ih]
   · rw [if_neg h]
     by_cases e:p.1=j
     · rw [YB (p:=p) e,YB e,Option.map_some,if_neg (fun z=>h (e.trans z))]
     · rw [Yv (p:=p) e,Yv e,ih]
theorem Zbv (k j:κ)(y:V):∀ kvs:List (κ×V),Yj kvs k=none→Yj (kvs++[(k,y)]) j=if j=k then some y else Yj kvs j
 | [],_=>by
   by_cases e:k=j
   · rw [if_pos e.symm];exact YB (p:=(k,y)) e
   · rw [if_neg (fun z=>e z.symm)];exact Yv (p:=(k,y)) e
 | p::r,hn=>by
   rw [List.cons_append]
   have hk:¬ p.1=k:=fun z=>by rw [YB z] at hn;cases hn
   rw [Yv hk] at hn
   have ih:=Zbv k j y r hn
   by_cases e:p.1=j
   · rw [YB e,YB e,if_neg (fun z=>hk (e.trans z))]
   · rw [Yv e,Yv e,ih]
theorem ZgF (kvs:List (κ×V))(k j:κ)(y:V):Yj (XS kvs k y) j=if j=k then some y else Yj kvs j:=by
 unfold XS
 by_cases a:(kvs.any fun kv=>decide (kv.1=k))=true
 · rw [if_pos a,ZcU]
   rw [Vh] at a
   by_cases e:j=k
   · obtain ⟨x,hx⟩:=Option.isSome_iff_exists.mp a
     rw [if_pos e,e,hx,Option.map_some,if_pos rfl]
   · rw [if_neg e]
     cases Yj kvs j with
     | none=>rfl
     | some x=>rw [Option.map_some,if_neg e]
 · rw [if_neg a]
   refine Zbv k j y kvs ?_
   rw [Vh] at a
   cases q:Yj kvs k with
   | none=>rfl
   | some x=>rw [q] at a;exact (a rfl).elim
theorem VP (kvs:List (κ×V))(k:κ)(v:V):(XS kvs k v).length≤kvs.length+1:=by
 unfold XS
 split
 · rw [List.length_map];omega
 · rw [List.length_append,List.length_cons,List.length_nil];omega
theorem RelO.isSome_eq {o:Option V}{u:Option Value}(r:RelO o u):o.isSome=u.isSome:=by
 cases o with
 | none=>cases u with
   | none=>rfl
   | some _=>exact (show False from r).elim
 | some _=>cases u with
   | none=>exact (show False from r).elim
   | some _=>rfl
theorem RelO.getD {o:Option V}{u:Option Value}{d:V}{d':Value}(r:RelO o u)(rd:RelV d d'):RelV (o.getD d) (u.getD d'):=by
 cases o with
 | none=>cases u with
   | none=>exact rd
   | some _=>exact (show False from r).elim
 | some _=>cases u with
   | none=>exact (show False from r).elim
   | some _=>exact r
theorem KV.val {kvs:List (κ×V)}{vs:List (κ×Value)}(r:KV kvs vs)(k:κ):RelO (Yj kvs k) (valueAt vs k):=by
 unfold KV at r
 induction r with
 | nil=>exact True.intro
 | @cons p q ps qs h t ih =>
   obtain ⟨h1,h2⟩:=h
   by_cases e:p.1=k
   · have e':q.1=k:=h1.symm.trans e
     have b:valueAt (q::qs) k=some q.2:=by simp [valueAt,List.find?_cons,e']
     rw [YB e,b];exact h2
   · have e':¬ q.1=k:=fun z=>e (h1.trans z)
     have b:valueAt (q::qs) k=valueAt qs k:=by simp [valueAt,List.find?_cons,e']
     rw [Yv e,b];exact ih
theorem KV.any {kvs:List (κ×V)}{vs:List (κ×Value)}(r:KV kvs vs)(k:κ):(kvs.any fun kv=>decide (kv.1=k))=vs.any fun kv=>decide (kv.1=k):=by
 unfold KV at r
 induction r with
 | nil=>rfl
 | cons h t ih=>rw [List.any_cons,List.any_cons,ih,h.1]
theorem KV.repl {kvs:List (κ×V)}{vs:List (κ×Value)}(r:KV kvs vs)(k:κ){y:V}{u:Value}(ry:RelV y u) :
   KV (kvs.map fun kv=>if kv.1=k then (kv.1,y) else kv) (vs.map fun kv=>if kv.1=k then (kv.1,u) else kv):=by
 unfold KV at r ⊢
 induction r with
 | nil=>exact .nil
 | @cons p q ps qs h t ih =>
   rw [List.map_cons,List.map_cons]
   refine .cons ?_ ih
   obtain ⟨h1,h2⟩:=h
   by_cases e:p.1=k
   · rw [if_pos e,if_pos (h1.symm.trans e)];exact ⟨h1,ry⟩
   · rw [if_neg e,if_neg (fun z=>e (h1.trans z))];exact ⟨h1,h2⟩
theorem KV.put {kvs:List (κ×V)}{vs:List (κ×Value)}(r:KV kvs vs)(k:κ){y:V}{u:Value}(ry:RelV y u):KV (XS kvs k y) (stored vs k u):=by
 unfold XS stored
 rw [r.any k]
 by_cases e:(vs.any fun kv=>decide (kv.1=k))=true
 · rw [if_pos e,if_pos e];exact r.repl k ry
 · rw [if_neg e,if_neg e];exact Paired.snoc r ⟨rfl,ry⟩
theorem KV.drop {kvs:List (κ×V)}{vs:List (κ×Value)}(r:KV kvs vs)(k:κ):KV (Xt kvs k) (without vs k):=by
 unfold KV at r ⊢
 unfold Xt without
 induction r with
 | nil=>exact .nil
 | @cons p q ps qs h t ih =>
   obtain ⟨h1,h2⟩:=h
   rw [List.filter_cons,List.filter_cons]
   by_cases e:p.1=k
   · have a:¬ decide (p.1≠k)=true:=by simp [e]
     have b:¬ decide (q.1≠k)=true:=by simp [h1.symm.trans e]
     rw [if_neg a,if_neg b];exact ih
   · have e':¬ q.1=k:=fun z=>e (h1.trans z)
     have a:decide (p.1≠k)=true:=by simp [e]
     have b:decide (q.1≠k)=true:=by simp [e']
     rw [if_pos a,if_pos b];exact .cons ⟨h1,h2⟩ ih
theorem KV.length {kvs:List (κ×V)}{vs:List (κ×Value)}(r:KV kvs vs):kvs.length=vs.length:=Paired.length r
theorem Zid (kvs:List (κ×V))(k:κ):(Xt kvs k).length≤kvs.length:=List.length_filter_le _ _
end
theorem ZaE {P:Program}{w:World}{k:ZU}{u:Value}(r:RelV (kV k) u):(Yt P w).is k u=true:=by
 cases k with
 | inl i=>obtain ⟨t,e⟩:=(show ∃ t,u=Value.int i t from r);subst e;exact Zdh P w i t
 | inr x=>obtain ⟨t,e⟩:=(show ∃ t,u=Value.str x t from r);subst e;exact Zdi P w x t
theorem ZbE {P:Program}{w:World}:∀{ks:List ZU}{us:List Value},Vals (ks.map kV) us→ItemsAre (Yt P w) ks us
 | [],_,r=>by rw [List.map_nil] at r;cases r;exact .nil
 | k::ks,_,r=>by
   rw [List.map_cons] at r
   cases r with
   | cons h t=>exact .cons (ZaE h) (ZbE t)
abbrev KT (H:Hp):List (List ZU×V)→List (List ZU×Addr×Value)→Prop:=Paired fun p q=>p.1=q.1∧H q.2.1=some (.tup (p.1.map kV))∧RelV p.2 q.2.2
theorem KT.val {H:Hp}{kvs:List (List ZU×V)}{xs:List (List ZU×Addr×Value)}(r:KT H kvs xs)(k:List ZU):RelO (Yj kvs k) ((atKey xs k).map (·.2)):=by
 induction r with
 | nil=>exact True.intro
 | @cons p q ps qs h t ih =>
   obtain ⟨h1,_,h2⟩:=h
   by_cases e:p.1=k
   · have e':q.1=k:=h1.symm.trans e
     have b:atKey (q::qs) k=some q.2:=by simp [atKey,List.find?_cons,e']
     rw [YB e,b];exact h2
   · have e':¬ q.1=k:=fun z=>e (h1.trans z)
     have b:atKey (q::qs) k=atKey qs k:=by simp [atKey,List.find?_cons,e']
     rw [Yv e,b];exact ih
theorem KT.repl {H:Hp}{kvs:List (List ZU×V)}{xs:List (List ZU×Addr×Value)}(r:KT H kvs xs)(k:List ZU){y:V}{u:Value}(ry:RelV y u) :
   KT H (kvs.map fun kv=>if kv.1=k then (kv.1,y) else kv) (xs.map (putAt k u)):=by
 induction r with
 | nil=>exact .nil
 | @cons p q ps qs h t ih =>
   rw [List.map_cons,List.map_cons]
   refine .cons ?_ ih
   obtain ⟨h1,h2,h3⟩:=h
   unfold putAt
   by_cases e:p.1=k
   · rw [if_pos e,if_pos (h1.symm.trans e)];exact ⟨h1,h2,ry⟩
   · rw [if_neg e,if_neg (fun z=>e (h1.trans z))];exact ⟨h1,h2,h3⟩
theorem KT.put {H:Hp}{kvs:List (List ZU×V)}{xs:List (List ZU×Addr×Value)}(r:KT H kvs xs)(k:List ZU){b:Addr}{y:V}{u:Value}(hb:H b=some (.tup (k.map kV)))(ry:RelV y u) :
   KT H (XS kvs k y) (storedH xs k b u):=by
 have e:(kvs.any fun kv=>decide (kv.1=k))=(atKey xs k).isSome:=by
   rw [Vh,(r.val k).isSome_eq,Option.isSome_map]
 unfold XS storedH
 rw [e]
 by_cases q:(atKey xs k).isSome=true
 · rw [if_pos q,if_pos q];exact r.repl k ry
 · rw [if_neg q,if_neg q];exact Paired.snoc r ⟨rfl,hb,ry⟩
theorem KT.keeps {H H':Hp}{kvs:List (List ZU×V)}{xs:List (List ZU×Addr×Value)}(r:KT H kvs xs)(ht:∀ b ys,H b=some (.tup ys)→H' b=some (.tup ys)):KT H' kvs xs :=
 Paired.mapP r fun _ _ z=>⟨z.1,ht _ _ z.2.1,z.2.2⟩
section
variable {P:Program}{w:World}{H:Hp}{h:Heap}{a:Addr}
theorem Zik {u:HO}(ok:HOk P w H h)(e:Rd H a u):ObjOk P w H h a u:=e.ok ok
theorem Zeg {kvs:List (ZU×V)}(ok:HOk P w H h)(e:Rd H a (.dK kvs)):kvs.length≤sizeLine∧(a == sysModules)=false∧∃ vs,KV kvs vs∧h.DictOf (Yt P w) a vs :=
 show ObjOk P w H h a (.dK kvs) from Zik ok e
theorem ZeI {kvs:List (ZU×V)}(ok:HOk P w H h)(e:H a=some (.dK kvs)):kvs.length≤sizeLine∧(a == sysModules)=false∧∃ vs,KV kvs vs∧h.DictOf (Yt P w) a vs:=Zeg ok (.inl e)
theorem ZcF {ks:List ZU}(ok:HOk P w H h)(e:H a=some (.tup (ks.map kV))):(tupleKind (Yt P w)).is h ks a:=by
 obtain ⟨_,its,r,o,h1,h2,n,h3⟩:=(show ObjOk P w H h a (.tup (ks.map kV)) from ok a _ e)
 exact ⟨o,its.toArray,n,h1,h2,h3,by simpa using ZbE r⟩
theorem ZeB {kvs:List (List ZU×V)}(ok:HOk P w H h)(e:Rd H a (.dT kvs)):kvs.length≤sizeLine∧(a == sysModules)=false ∧
   ∃ xs,KT H kvs xs∧h.DictOfH (tupleKind (Yt P w)) a xs:=by
 obtain ⟨z,y,xs,r,o,es,ep,h1,h2,h3,h4,h5⟩:=(show ObjOk P w H h a (.dT kvs) from Zik ok e)
 refine ⟨z,y,xs,r,o,es,ep,h1,h2,h3,h4,fun x hx=>?_,h5⟩
 have all:∀ {l:List (List ZU×V)} {m:List (List ZU×Addr×Value)},KT H l m→∀ x∈m,(tupleKind (Yt P w)).is h x.1 x.2.1:=by
   intro l m q
   induction q with
   | nil=>intro x hx;exact nomatch hx
   | @cons p q ps qs hq t ih =>
     intro x hx
     rcases List.mem_cons.mp hx with e | hx
     · subst e
       exact ZcF ok (by rw [← hq.1];exact hq.2.1)
     · exact ih x hx
 exact all r x hx
theorem Zlz {kvs:List (List ZU×V)}(ok:HOk P w H h)(e:H a=some (.dT kvs)):kvs.length≤sizeLine∧(a == sysModules)=false ∧
 ∃ xs,KT H kvs xs∧h.DictOfH (tupleKind (Yt P w)) a xs:=ZeB ok (.inl e)
end
def DGet (H:Hp)(a:Addr)(y:V)(r:Option V):Prop :=
 (∃ kvs k,Rd H a (.dK kvs)∧y=kV k∧r=Yj kvs k)∨∃ kvs k b,Rd H a (.dT kvs)∧y=.ref b∧H b=some (.tup (k.map kV))∧r=Yj kvs k
def DPut (H:Hp)(a:Addr)(y v:V)(H':Hp):Prop :=
 (∃ kvs k,H a=some (.dK kvs)∧y=kV k∧kvs.length < sizeLine∧H'=upd H a (.dK (XS kvs k v))) ∨
 ∃ kvs k b,H a=some (.dT kvs)∧y=.ref b∧H b=some (.tup (k.map kV))∧kvs.length < sizeLine∧H'=upd H a (.dT (XS kvs k v))
section
variable {X:Cx}{pins:List (Addr×Obj)}{σ:St}{H:Hp}{s:Shared}{a:Addr}{y v:V}{u r:Value}{o:Option V}{A:Around}{E:Value→Shared→Prop}
theorem Inv.big (I:Inv X pins σ H s):sysModules < s.heap.objs.size:=by
 have h:mainGlobals < s.heap.objs.size:=(I.mod.glob.keeps I.bk).lt
 exact Nat.lt_trans (by decide) h
theorem ZaW {h':Heap}{t':Nat}{ob:HO}(I:Inv X pins σ H s)(mu:Mut (H a))(hs:Heap.SameBut a s.heap h')(he:∃ q,h'.get? a=some q)(new:ObjOk X.prog X.w (upd H a ob) h' a ob) :
   Inv X pins σ (upd H a ob) { s with heap:=h',toks:=t' } :=
 I.write (x:=a) (e:=a) mu (.inl rfl) (fun b q hb z=>(hs.2 b hb).trans z) he new
theorem ZfR {P:Program}{w:World}{H':Hp}{h':Heap}{kvs:List (ZU×V)}{vs:List (ZU×Value)}(z:kvs.length≤sizeLine)(hd:(a == sysModules)=false)(rel:KV kvs vs)(dd:h'.DictOf (Yt P w) a vs) :
 ObjOk P w H' h' a (.dK kvs):=⟨z,hd,vs,rel,dd⟩
theorem Zfk {H':Hp}{Q:Unit→Shared→Prop}(hu:A.units+1 < cLine)(I:Inv X pins σ H s)(g:DPut H a y v H')(ry:RelV y u)(rv:RelV v r)(h:∀ s',Inv X pins σ H' s'→Q () s') :
   wpAny (model X.prog X.w) A (setItem (.ref a) u r) Q E s:=by
 rcases g with ⟨kvs,k,e,ey,l,eH⟩ | ⟨kvs,k,b,e,ey,eb,l,eH⟩
 · subst ey eH
   obtain ⟨z,hd,vs,rel,dd⟩:=ZeI I.hok e
   have hz:vs.length≤sizeLine:=by rw [← rel.length];exact z
   have hl:(XS kvs k v).length≤sizeLine:=by have:=VP kvs k v;omega
   refine wpAny_setItem_pairs (hsz:=hz) (ZaE ry) dd fun h' dd' hs=>h _ ?_
   have he:∃ q,h'.get? a=some q:=let ⟨q,_,_,hq,_⟩:=dd';⟨q,hq⟩
   exact ZaW I (by rw [e];exact True.intro) hs he (ZfR hl hd (rel.put k rv) dd')
 · subst ey eH
   cases (show u=Value.ref b from ry)
   obtain ⟨z,hd,xs,rel,dd⟩:=Zlz I.hok e
   have hz:xs.length≤sizeLine:=by rw [← Paired.length rel];exact z
   have hl:(XS kvs k v).length≤sizeLine:=by have:=VP kvs k v;omega
   refine wpAny_setItem_heap (hsz:=hz) (tupleKind_room_in1 hu) (ZcF I.hok eb) dd fun h' dd' hs=>h _ ?_
   obtain ⟨q,es,ep,hq,h2,h3,h4,_,h5⟩:=dd'
   refine ZaW I (by rw [e];exact True.intro) hs ⟨q,hq⟩ ⟨hl,hd,_,(rel.put k eb rv).keeps fun c ys ec=>?_,q,es,ep,hq,h2,h3,h4,h5⟩
   rw [Zo (WN ec e (fun z=>nomatch z))]
   exact ec
end
section
variable {X:Cx}{pins:List (Addr×Obj)}{σ:St}{H:Hp}{s:Shared}{a:Addr}{kvs:List (ZU×V)}{k:ZU}{u:Value}{A:Around}{E:Value→Shared→Prop}
theorem ZlX {v:V}{more:List Value}{Q:Value→Shared→Prop}(I:Inv X pins σ H s)(e:H a=some (.dK kvs))(ry:RelV (kV k) u)(l:Yj kvs k=some v)(hm:more=[]∨∃ x,more=[x])
   (h:∀ w' s',Inv X pins σ (upd H a (.dK (Xt kvs k))) s'→RelV v w'→Q w' s'):wpAny (model X.prog X.w) A (call (.builtin "dict.pop") (.ref a::u::more)) Q E s:=by
 obtain ⟨z,hd,vs,rel,dd⟩:=ZeI I.hok e
 obtain ⟨w',hw,rw'⟩:=RelO.some_of (v:=v) (o:=valueAt vs k) (by rw [← l];exact rel.val k)
 have hp:(keyPart u).isSome=true:=by
   cases k with
   | inl i=>obtain ⟨t,q⟩:=(show ∃ t,u=Value.int i t from ry);subst q;rfl
   | inr x=>obtain ⟨t,q⟩:=(show ∃ t,u=Value.str x t from ry);subst q;rfl
 have ha:argsOk "dict.pop" ⟨.ref a::u::more,[]⟩:=by
   rcases hm with q | ⟨x,q⟩
   · subst q;exact PySem.F.args_dict_pop_2 _ _
   · subst q;exact PySem.F.args_dict_pop_3 _ _ _
 refine call_meetsIn PySem.F.slot_dict_pop dd.typeIs PySem.F.entry_dict_pop ha (meets_dict_pop_there (Yt X.prog X.w) a (ZaE ry) more hm hp)
   ⟨vs,w',dd,by rw [← rel.length];exact z,hw,fun h' dd' hs=>h w' _ ?_ rw'⟩
 have he:∃ q,h'.get? a=some q:=let ⟨q,_,_,hq,_⟩:=dd';⟨q,hq⟩
 exact ZaW I (by rw [e];exact True.intro) hs he (ZfR (Nat.le_trans (Zid kvs k) z) hd (rel.drop k) dd')
theorem Zkf {r:Value}{Q:Value→Shared→Prop}(I:Inv X pins σ H s)(e:H a=some (.dK kvs))(ry:RelV (kV k) u)(l:Yj kvs k=none)(h:∀ s',Inv X pins σ H s'→Q r s') :
   wpAny (model X.prog X.w) A (call (.builtin "dict.pop") [.ref a,u,r]) Q E s:=by
 obtain ⟨z,hd,vs,rel,dd⟩:=ZeI I.hok e
 have hn:valueAt vs k=none:=RelO.none_of (by rw [← l];exact rel.val k)
 have hp:(keyPart u).isSome=true:=by
   cases k with
   | inl i=>obtain ⟨t,q⟩:=(show ∃ t,u=Value.int i t from ry);subst q;rfl
   | inr x=>obtain ⟨t,q⟩:=(show ∃ t,u=Value.str x t from ry);subst q;rfl
 exact call_meetsIn PySem.F.slot_dict_pop dd.typeIs PySem.F.entry_dict_pop (PySem.F.args_dict_pop_3 _ _ _) (meets_dict_pop_default (Yt X.prog X.w) a (ZaE ry) hd hp r) ⟨vs,dd,hn,h _ (I.tok _)⟩
end
def ZlS (td ty tv:TE):TS:=fun D σ H=>tv σ H fun v H1=>td σ H1 fun x H2=>ty σ H2 fun y H3=>∃ a H4,x=.ref a∧DPut H3 a y v H4∧D.nx σ H4
section
variable {X:Cx}{o i e value:Expr}{pos pos' tpos:Pos}{td ty tv:TE}
theorem ZiO (hu:X.A.units+1 < cLine)(ho:PE X o td)(hi:PE X i ty)(hv:PE X value tv)(hs:swapsWith value (some (.Subscript o i pos')) pos.line X.env=pure false) :
   PS X (.Assign [.Subscript o i pos'] value pos) (ZlS td ty tv):=by
 intro pins s σ H D I h
 refine wpAny_Assign_Subscript (Zn (hv pins s σ H _ I h) fun r s1 ⟨v,H1,I1,rv,q1⟩=>Zn (ho pins s1 σ H1 _ I1 q1) fun u s2 ⟨x,H2,I2,rx,q2⟩=>Zn (hi pins s2 σ H2 _ I2 q2) fun iv s3 ⟨y,H3,I3,ry,a,H4,ex,g,q3⟩=>?_) hs
 subst ex
 obtain rfl:u=Value.ref a:=rx
 exact Zfk hu I3 g ry rv fun s4 I4=>⟨σ,H4,I4,q3⟩
end
theorem ZgB {P:Program}{w:World}{H:Hp}(h:Heap)(hb:sysModules < h.objs.size):ObjOk P w H (h.push { cls:=.type "dict",data:=.dict #[] }) h.objs.size (.dK []) :=
 ⟨Nat.zero_le _,beq_eq_false_iff_ne.mpr (Ne.symm (Nat.ne_of_lt hb)),[],.nil,Heap.DictOf.new h⟩
def Zld:TE:=fun _ H Q=>∀ p,H p=none→Q (.ref p) (upd H p (.dK []))
section
variable {X:Cx}{pos:Pos}
theorem ZgK:PE X (.Dict [] [] pos) Zld:=fun pins s σ H Q I h =>
 wpAny_Dict_empty ⟨.ref s.heap.objs.size,_,I.laid (a:=s.heap.objs.size) (o:=.dK []) (t':=s.toks) (fun _ _ q=>Heap.get?_push_of_some _ q) (Nat.le_refl _) (ZgB s.heap I.big),rfl,h _ (I.hok.fresh (Nat.le_refl _))⟩
end
structure M1 (X:Cx)(o:Expr)(m:Str)(apos:Pos)(e:Expr)(cpos:Pos):Prop where
 base:attributeBase o m X.env (eval o X.env)=eval o X.env
 few:((backTo cpos (starEach [e] X.env)).all (fun x=>!x.1)&&(backToKw cpos (keywordEach [] X.env)).all (fun x=>x.1.isSome)
   && decide (([e]:List Expr).length+([]:List Keyword).length+(if ([]:List Keyword).isEmpty then 0 else 1) < 30))=true
 line:(apos.endLine == cpos.line)=true
 trees:backTo cpos (starEach [e] X.env)=[(false,eval e X.env)]
structure M2 (X:Cx)(o:Expr)(m:Str)(apos:Pos)(e f:Expr)(cpos:Pos):Prop where
 base:attributeBase o m X.env (eval o X.env)=eval o X.env
 few:((backTo cpos (starEach [e,f] X.env)).all (fun x=>!x.1)&&(backToKw cpos (keywordEach [] X.env)).all (fun x=>x.1.isSome)
   && decide (([e,f]:List Expr).length+([]:List Keyword).length+(if ([]:List Keyword).isEmpty then 0 else 1) < 30))=true
 line:(apos.endLine == cpos.line)=true
 trees:backTo cpos (starEach [e,f] X.env)=[(false,eval e X.env),(false,eval f X.env)]
def IsD (H:Hp)(a:Addr):Prop:=(∃ kvs,Rd H a (.dK kvs))∨∃ kvs,Rd H a (.dT kvs)
theorem ZfY {X:Cx}{pins:List (Addr×Obj)}{σ:St}{H:Hp}{s:Shared}{a:Addr}(I:Inv X pins σ H s)(d:IsD H a) :
   s.TypeIs (.ref a) "dict"∧(∀ b,Value.ref a=.ref b→∃ ob,s.heap.get? b=some ob∧ob.dict=none)∧(a == sysModules)=false:=by
 rcases d with ⟨kvs,e⟩ | ⟨kvs,e⟩
 · obtain ⟨_,hd,vs,_,dd⟩:=Zeg I.hok e
   refine ⟨dd.typeIs,fun b q=>?_,hd⟩
   cases q
   obtain ⟨ob,_,_,h1,h2,_⟩:=dd
   exact ⟨ob,h1,h2.2.1⟩
 · obtain ⟨_,hd,xs,_,dd⟩:=ZeB I.hok e
   refine ⟨dd.typeIs,fun b q=>?_,hd⟩
   cases q
   obtain ⟨ob,_,_,h1,h2,_⟩:=dd
   exact ⟨ob,h1,h2.2.1⟩
section
variable {X:Cx}{pins:List (Addr×Obj)}{σ:St}{H:Hp}{s:Shared}{a:Addr}{y d:V}{u r:Value}{o:Option V}{A:Around}{E:Value→Shared→Prop}
theorem Zlj {Q:Value→Shared→Prop}(hu:A.units+1 < cLine)(I:Inv X pins σ H s)(g:DGet H a y o)(ry:RelV y u)(rd:RelV d r)(h:∀ w' s',Inv X pins σ H s'→RelV (o.getD d) w'→Q w' s') :
   wpAny (model X.prog X.w) A (call (.builtin "dict.get") [.ref a,u,r]) Q E s:=by
 rcases g with ⟨kvs,k,e,ey,l⟩ | ⟨kvs,k,b,e,ey,eb,l⟩
 · subst ey
   obtain ⟨z,hd,vs,rel,dd⟩:=Zeg I.hok e
   refine call_meetsIn PySem.F.slot_dict_get dd.typeIs PySem.F.entry_dict_get (PySem.F.args_dict_get_3 _ _ _) (meets_dict_get_default (Yt X.prog X.w) a (ZaE ry) hd r) ⟨_,dd.mapOf,h _ _ (I.tok _) ?_⟩
   rw [l]
   exact (rel.val k).getD rd
 · subst ey
   cases (show u=Value.ref b from ry)
   obtain ⟨z,hd,xs,rel,dd⟩:=ZeB I.hok e
   refine call_meetsIn PySem.F.slot_dict_get dd.typeIs PySem.F.entry_dict_get (PySem.F.args_dict_get_3 _ _ _) (meetsH_dict_get_default (tupleKind (Yt X.prog X.w)) a b hd r) ⟨tupleKind_room_in1 hu,k,xs,ZcF I.hok eb,dd,h _ _ (I.tok _) ?_⟩
   rw [l]
   exact (rel.val k).getD rd
end
def ZfN (td ty tx:TE):TE:=fun σ H Q=>td σ H fun x H1=>∃ a,x=.ref a∧IsD H1 a∧ty σ H1 fun y H2=>tx σ H2 fun z H3=>∃ o,DGet H3 a y o∧Q (o.getD z) H3
def Zfv (td ty tx:TE):TE:=fun σ H Q=>td σ H fun x H1=>∃ a,x=.ref a∧IsD H1 a∧ty σ H1 fun y H2=>tx σ H2 fun z H3=>∃ kvs k,H3 a=some (.dK kvs)∧y=kV k ∧
 (∀ v,Yj kvs k=some v→Q v (upd H3 a (.dK (Xt kvs k))))∧(Yj kvs k=none→Q z H3)
section
variable {X:Cx}{o e f:Expr}{apos cpos:Pos}{td ty tx:TE}
theorem Zcw (hu:X.A.units+1 < cLine)(ho:PE X o td)(he:PE X e ty)(hf:PE X f tx)(m:M2 X o "get" apos e f cpos):PE X (.Call (.Attribute o "get" apos) [e,f] [] cpos) (ZfN td ty tx):=by
 intro pins s σ H Q I h
 refine wpAny_Call_method m.base m.few m.line PySem.F.plainAttrs_dict PySem.F.slot_dict_get PySem.F.type_dict_get (Zn (ho pins s σ H _ I h) fun u s1 ⟨x,H1,I1,rx,a,ex,d,q1⟩=>?_)
 subst ex
 obtain rfl:u=Value.ref a:=rx
 obtain ⟨t1,t2,_⟩:=ZfY I1 d
 refine ⟨t1,t2,?_⟩
 rw [m.trees]
 refine Calls.callWith_builtin rfl (Calls.evalArgs_plain (Calls.spliced_cons (Zn (he pins s1 σ H1 _ I1 q1) fun iv s2 ⟨y,H2,I2,ry,q2⟩ =>
   Calls.spliced_cons (Zn (hf pins s2 σ H2 _ I2 q2) fun fv s3 ⟨z,H3,I3,rz,ov,g,q3⟩=>Calls.spliced_nil ?_))))
 exact Zlj hu I3 g ry rz fun w' s4 I4 rw'=>⟨_,H3,I4,rw',q3⟩
theorem ZgS (ho:PE X o td)(he:PE X e ty)(hf:PE X f tx)(m:M2 X o "pop" apos e f cpos):PE X (.Call (.Attribute o "pop" apos) [e,f] [] cpos) (Zfv td ty tx):=by
 intro pins s σ H Q I h
 refine wpAny_Call_method m.base m.few m.line PySem.F.plainAttrs_dict PySem.F.slot_dict_pop PySem.F.type_dict_pop (Zn (ho pins s σ H _ I h) fun u s1 ⟨x,H1,I1,rx,a,ex,d,q1⟩=>?_)
 subst ex
 obtain rfl:u=Value.ref a:=rx
 obtain ⟨t1,t2,_⟩:=ZfY I1 d
 refine ⟨t1,t2,?_⟩
 rw [m.trees]
 refine Calls.callWith_builtin rfl (Calls.evalArgs_plain (Calls.spliced_cons (Zn (he pins s1 σ H1 _ I1 q1) fun iv s2 ⟨y,H2,I2,ry,q2⟩ =>
   Calls.spliced_cons (Zn (hf pins s2 σ H2 _ I2 q2) fun fv s3 ⟨z,H3,I3,rz,kvs,k,ea,ey,q3,q4⟩=>Calls.spliced_nil ?_))))
 subst ey
 cases l:Yj kvs k with
 | some v=>exact ZlX I3 ea ry l (.inr ⟨fv,rfl⟩) fun w' s4 I4 rw'=>⟨v,_,I4,rw',q3 v l⟩
 | none=>exact Zkf I3 ea ry l fun s4 I4=>⟨z,H3,I4,rz,q4 l⟩
end
section
variable {X:Cx}{pins:List (Addr×Obj)}{σ:St}{H:Hp}{s:Shared}{a:Addr}{kvs:List (ZU×V)}{A:Around}{E:Value→Shared→Prop}
end
section
variable {X:Cx}{pins:List (Addr×Obj)}{σ:St}{H:Hp}{s:Shared}{a:Addr}{y:V}{u:Value}{A:Around}{E:Value→Shared→Prop}
end
end L2
namespace L2
open PySem PySem.Spec PyProof.Rows
section
variable {κ:Type}[DecidableEq κ]
end
end L2
namespace L2
open PySem PySem.Spec PyProof.Rows
theorem Vn {env:Env}(y:Str):∀ names:List (Str×NameKind),
   (names.map fun (n,k)=>if (k == NameKind.free&&env.scope.kind == .function&&env.kindOf n == some .cell) then (n,NameKind.cell) else (n,k)).lookup y =
     (names.lookup y).map fun k=>if (k == NameKind.free&&env.scope.kind == .function&&env.kindOf y == some .cell) then NameKind.cell else k
 | []=>rfl
 | (n, k)::r=>by
   have ih:=Vn (env:=env) y r
   rw [List.map_cons]
   cases hx:y == n with
   | true =>
     have e:y=n:=by simpa using hx
     subst e
     by_cases hc:(k == NameKind.free&&env.scope.kind == .function&&env.kindOf y == some .cell)=true
     · simp only [hc,if_true,List.lookup_cons,beq_self_eq_true,Option.map_some]
     · simp only [hc,List.lookup_cons,beq_self_eq_true,Option.map_some]
       simp [hc]
   | false =>
     by_cases hc:(k == NameKind.free&&env.scope.kind == .function&&env.kindOf n == some .cell)=true
     · simp only [hc,if_true,List.lookup_cons,hx];exact ih
     · simp only [hc,List.lookup_cons,hx,Bool.false_eq_true,if_false];exact ih
theorem Zt {scope:Scope}{env:Env}{y:Str}{k:NameKind}(hcell:∀ z∈scope.names,z.2≠.cell)(h:(relabel scope env).names.lookup y=some k) :
   scope.names.lookup y=some k∨(scope.names.lookup y=some .free∧k=.cell):=by
 unfold relabel at h
 rw [Vn] at h
 cases e:scope.names.lookup y with
 | none=>rw [e] at h;cases h
 | some k0 =>
   rw [e] at h
   simp only [Option.map_some,Option.some.injEq] at h
   by_cases hc:(k0 == NameKind.free&&env.scope.kind == .function&&env.kindOf y == some .cell)=true
   · rw [if_pos hc] at h
     right
     simp only [Bool.and_eq_true,beq_iff_eq] at hc
     exact ⟨by rw [hc.1.1],h.symm⟩
   · rw [if_neg hc] at h
     left;rw [h]
theorem mem_of_lookup {α:Type}{y:Str}{k:α}:∀{l:List (Str×α)},l.lookup y=some k→(y,k)∈l
 | [],h=>by cases h
 | (n,z)::r,h=>by
   cases hx:y == n with
   | true =>
     have e:y=n:=by simpa using hx
     subst e
     simp only [List.lookup_cons,beq_self_eq_true] at h
     cases h
     exact List.mem_cons_self
   | false =>
     simp only [List.lookup_cons,hx] at h
     exact List.mem_cons_of_mem _ (mem_of_lookup h)
theorem Vd {env:Env}:∀(names:List (Str×NameKind))(c0:List (Str×Addr)),(∀ y∈names,y.2=.free→∃ c,env.cells.lookup y.1=some c) →
   ∃ cl:List (Str×Addr),(forIn names c0 fun (x:Str×NameKind) (r:List (Str×Addr))=>(if x.2 == NameKind.free then (do let a ← cellOf env x.1;pure (ForInStep.yield ((x.1,a)::r))) else pure (ForInStep.yield r):Sem (ForInStep (List (Str×Addr)))))=pure cl ∧
     (∀ y c,cl.lookup y=some c→c0.lookup y=some c∨env.cells.lookup y=some c)∧(∀ y,c0.lookup y≠none→cl.lookup y≠none)∧∀ y∈names,y.2=.free→cl.lookup y.1≠none
 | [],c0,_=>⟨c0,rfl,fun _ _ h=>.inl h,fun _ h=>h,fun _ h=>(nomatch h)⟩
 | (n, k)::r,c0,h=>by
   by_cases hk:k=.free
   · subst hk
     obtain ⟨c,hc⟩:=h (n,.free) List.mem_cons_self rfl
     obtain ⟨cl,e,g1,g2,g3⟩:=Vd r ((n,c)::c0) fun y hy=>h y (List.mem_cons_of_mem _ hy)
     refine ⟨cl,?_,?_,?_,?_⟩
     · rw [List.forIn_cons]
       have hcell:cellOf env n=pure c:=by unfold cellOf;rw [hc]
       simp only [beq_self_eq_true,if_true,hcell,pure_bind]
       exact e
     · intro y d q
       rcases g1 y d q with q | q
       · cases hx:y == n with
         | true =>
           have e':y=n:=by simpa using hx
           subst e'
           simp only [List.lookup_cons,beq_self_eq_true] at q
           cases q
           exact .inr hc
         | false=>simp only [List.lookup_cons,hx] at q;exact .inl q
       · exact .inr q
     · intro y q
       apply g2
       cases hx:y == n with
       | true=>simp [List.lookup_cons,hx]
       | false=>simpa [List.lookup_cons,hx] using q
     · intro y hy hf
       rcases List.mem_cons.mp hy with e' | hy
       · subst e'
         apply g2
         simp [List.lookup_cons]
       · exact g3 y hy hf
   · obtain ⟨cl,e,g1,g2,g3⟩:=Vd r c0 fun y hy=>h y (List.mem_cons_of_mem _ hy)
     refine ⟨cl,?_,g1,g2,?_⟩
     · rw [List.forIn_cons]
       have hb:(k == NameKind.free)=false:=by simpa using hk
       simp only [hb,Bool.false_eq_true,if_false,pure_bind]
       exact e
     · intro y hy hf
       rcases List.mem_cons.mp hy with e' | hy
       · subst e';exact absurd hf hk
       · exact g3 y hy hf
theorem XG {scope:Scope}{env:Env}(h:∀ y∈scope.names,y.2=.free→∃ c,env.cells.lookup y.1=some c) :
   ∃ cl,closureFor scope env=pure cl∧(∀ y c,cl.lookup y=some c→env.cells.lookup y=some c)∧∀ y∈scope.names,y.2=.free→cl.lookup y.1≠none:=by
 obtain ⟨cl,e,g1,_,g3⟩:=Vd (env:=env) scope.names [] h
 refine ⟨cl,?_,fun y c q=>(g1 y c q).elim (fun z=>by cases z) fun z=>z,g3⟩
 simp only [closureFor]
 rw [← bind_pure (pure cl:Sem _),← e]
def Uy (N:List Str)(x:Str):List Str:=N.map fun y=>if y=x then "" else y
theorem XY (N:List Str)(x:Str):(Uy N x).length=N.length:=List.length_map ..
theorem VH {N:List Str}{x y:Str}{i:Nat}(h:(Uy N x)[i]?=some y):(N[i]?=some y∧y≠x)∨y="":=by
 unfold Uy at h
 rw [List.getElem?_map] at h
 cases e:N[i]? with
 | none=>rw [e] at h;cases h
 | some z =>
   rw [e] at h
   have h:(if z=x then ("":Str) else z)=y:=Option.some.inj h
   by_cases q:z=x
   · rw [if_pos q] at h;exact .inr h.symm
   · rw [if_neg q] at h;subst h;exact .inl ⟨rfl,q⟩
def ZR (X:Cx)(scope:Scope)(x:Str)(cl:List (Str×Addr))(C:Addr)(s₀:Shared)(H₀:Hp)(fp:List Addr):Cx :=
 { prog:=X.prog,w:=X.w,K:=X.K,mg:=X.mg,base:=X.base,A:=X.A,N:=Uy X.N x++[x],s₀:=s₀,H₀:=H₀,env:=compEnvC scope cl C X.env,outer:=X.stack,stack:=X.stack,
   ex:=fp,fn:=fun _=>false,calm:=X.calm,pn:=[],xe:=fun _ _=>False }
def Uw (J:It)(te:TE)(σ:St)(D:Addr)(Q:VK)(H1:Hp):Prop :=
 ∃ W:Nat→Nat→List V→Hp→Prop,(∃ m,W 0 m [] (upd H1 D (.lst [])))∧∀ i m ys H2,W i m ys H2 →
   (J.stop i H2∧Q (.ref D) H2)∨(J.go i H2∧∃ N:VK,(∀ y H4,N y H4→H4 D=some (.lst ys)∧ys.length < sizeLine∧∃ m',m' < m∧W (i+1) m' (ys++[y]) (upd H4 D (.lst (ys++[y]))))∧∀ v H3,J.yld i H2 v H3→te (σ++[some v]) H3 N)
def Zix (wi:TI)(te:TE):TE:=fun σ H Q=>wi σ H fun J H1=>∀ D,H1 D=none→Uw J te σ D Q H1
section
variable {X:Cx}{elt iter:Expr}{x:Str}{px pos:Pos}{scope:Scope}{wi:TI}{te:TE}
theorem Wo {prog:Program}{w:World}{A:Around}{R:Result→Shared→Prop}{s:Shared}{elt target iter:Expr}{scope:Scope}{pos:Pos}{it acc:Value}{env:Env}(I:Nat→Shared→Prop)
   (turn : ∀ n s,I n s→wpAny (model prog w) A (pyNext it) (fun r s₁=>match r with
     | none=>R (.ok .next) s₁
     | some v=>wpAny (model prog w) A (letOwnedTupleGo target it v) (fun _ s1'=>wpAny (model prog w) A (assign target env v) (fun _ s₂=>wpAny (model prog w) A (eval elt env) (fun x s₃ =>
         wpAny (model prog w) A (call (.builtin "list.append") [acc,x]) (fun _ s₄=>∃ m,m < n∧I m s₄) (fun _ _=>False) s₃)
         (fun _ _=>False) s₂) (fun _ _=>False) s1') (fun _ _=>False) s₁) (fun _ _=>False) s)
   (n:Nat) (h:I n s) :
   codeAny (model prog w) A (.compLoop (.ListComp elt [⟨target,iter,[],0⟩] scope pos) 0 it acc env) R s:=by
 refine codeAny_loop rfl I (fun n s hI=>?_) n h
 show wpAny _ _ ((compTurn (.ListComp elt [⟨target,iter,[],0⟩] scope pos) 0 it acc env).onRaise (fun x=>do noteFrame x env;theTreesLotGoes x)) _ _ s
 refine wpAny_noted ?_
 rw [compTurn_list1]
 refine wpAny_bind (wpAny_standAt (wpAny_bind (wpAny_mono (turn n s hI) (fun r s₁ h₁=>?_) fun _ _ h'=>h'.elim)))
 cases r with
 | none=>exact wpAny_pure h₁
 | some v =>
   refine wpAny_bind (wpAny_mono h₁ (fun _ s1' h1'=>?_) fun _ _ h'=>h'.elim)
   exact wpAny_bind (wpAny_mono h1' (fun _ s₂ h₂=>wpAny_bind (wpAny_bind (wpAny_mono h₂ (fun x s₃ h₃=>wpAny_bind (wpAny_mono h₃
     (fun _ s₄ h₄=>wpAny_pure (wpAny_pure ⟨rfl,h₄⟩)) fun _ _ h'=>h'.elim)) fun _ _ h'=>h'.elim))) fun _ _ h'=>h'.elim)
structure CompOk (X:Cx)(scope:Scope)(x:Str):Prop where
 nd:(Uy X.N x++[x]).Nodup
 clos:∀ y∈scope.names,y.2=.free→X.env.kindOf y.1=some .cell∨X.env.kindOf y.1=some .free
 cell:∀ y∈scope.names,y.2≠.cell
 kind:scope.kind=.function
 names:∀ y∈scope.names,y.2=.local→scope.names.lookup y.1=some .local
 loc:scope.names.lookup x=some .local
 own:∀ y∈X.N,y≠x→scope.names.lookup y≠some .local
 noh:scope.names.lookup ("":Str)=none
theorem Zan {pins:List (Addr×Obj)}{σ:St}{H2:Hp}{s₂:Shared}{J:It}{fp:List Addr}{it:Addr}{tn:Nat→Heap→Prop}{cl:List (Str×Addr)}{E:Value→Shared→Prop}{Q:VK}{RR:Value→Addr→Result→Shared→Prop}
   (O:CompOk X scope x) (hc:X.calm=true) (cl1:∀ y c,cl.lookup y=some c→X.env.cells.lookup y=some c) (cl2:∀ y∈scope.names,y.2=.free→cl.lookup y.1≠none)
   (he:∀ cl C s₀ H₀ fp,PE (ZR X scope x cl C s₀ H₀ fp) elt te)
   (I2:Inv X pins σ H2 s₂) (T:Wx X.prog X.w X.K (.Name x px) J fp it tn) (st:tn 0 s₂.heap) (f2:∀ b∈fp,Yw X pins H2 b)
   (h:∀ D,H2 D=none→Uw J te σ D Q H2)
   (hRR:∀ D C H' s',Inv X pins σ H' s'→Yw X pins H' C→(∃ m,s'.heap.Ns C m)→Q (.ref D) H'→RR (.ref D) C (.ok .next) s') :
   wpAny (model X.prog X.w) X.A (newList []) (fun acc s₃=>wpAny (model X.prog X.w) X.A (newFunctionEnv scope X.env.globals cl [] X.env.qual none .none (some X.env)) (fun cenv s₄ =>
     codeAny (model X.prog X.w) X.A (.compStart (.ListComp elt [⟨.Name x px,iter,[],0⟩] scope pos) 0 (.ref it) acc { cenv with scope:=relabel scope X.env }) (RR acc cenv.locals) s₄) E s₃) E s₂:=by
 have hD:H2 s₂.heap.objs.size=none:=I2.hok.fresh (Nat.le_refl _)
 refine wpAny_newObj_type ?_
 have I3:Inv X pins σ (upd H2 s₂.heap.objs.size (.lst [])) { s₂ with heap:=s₂.heap.push { cls:=.type "list",data:=.seq ([]:List Value).toArray } } :=
   I2.laid (t':=s₂.toks) (fun b u e=>Heap.get?_push_of_some _ e) (Nat.le_refl _) ⟨Nat.zero_le _,[],_,.nil,Heap.get?_push_size _ rfl⟩
 have f3:∀ b∈fp,Yw X pins (upd H2 s₂.heap.objs.size (.lst [])) b:=fun b hb=>by
   obtain ⟨g0,g1⟩:=f2 b hb
   obtain ⟨o,e,_⟩:=T.obj 0 _ st b hb
   exact ⟨by rw [Zo (Nat.ne_of_lt (Heap.lt_size e))];exact g0,g1⟩
 have st3:tn 0 (s₂.heap.push { cls:=.type "list",data:=.seq ([]:List Value).toArray }):=T.keep _ _ _ st fun b hb o e=>Heap.get?_push_of_some _ e
 obtain ⟨W,⟨m0,w0⟩,turn⟩:=h _ hD
 generalize hDe:s₂.heap.objs.size=D at I3 f3 w0 turn ⊢
 generalize hH3:upd H2 D (.lst [])=H3 at I3 f3 w0 turn ⊢
 generalize hs3:({ s₂ with heap:=s₂.heap.push { cls:=.type "list",data:=.seq ([]:List Value).toArray } }:Shared)=s₃ at I3
 have st3':tn 0 s₃.heap:=by rw [← hs3];exact st3
 have hobj:∀ b∈fp,b < s₃.heap.objs.size:=fun b hb=>by
   obtain ⟨o,e,_⟩:=T.obj 0 _ st3' b hb
   exact Heap.lt_size e
 refine wpAny_newFunctionEnv O.cell (by intro y hy;simp at hy) (fun h₁ hns₁ hsb₁=>?_) O.kind
 have old:∀ b o,s₃.heap.get? b=some o→h₁.get? b=some o:=fun b o e=>hsb₁.extBut b o (Nat.ne_of_lt (Heap.lt_size e)) (Heap.get?_push_of_some _ e)
 generalize hs4:({ s₃ with heap:=h₁,toks:=s₃.toks+([]:List (Str×Value)).length }:Shared)=s₄
 have h4:s₄.heap=h₁:=by rw [← hs4]
 have hX:∀ C,Yw X pins C s₃.heap.objs.size→True:=fun _ _=>trivial
 have ok':(ZR X scope x cl s₃.heap.objs.size s₃ H3 fp).Ok:=by
   refine ⟨I3.ok.mod,O.kind,I3.ok.glob,I3.ok.blt,Nat.le_refl _,?_,?_,?_,I3.ok.hd,I3.ok.frames,.inl rfl,?_,I3.bs,Nat.le_trans I3.ok.bsz I3.sz,?_,?_,I3.stack,I3.stkFree⟩
   · exact fun y z c e1 e2=>I3.ok.inj y z c (cl1 y c e1) (cl1 z c e2)
   · intro y hk
     have hf:scope.names.lookup y=some .free:=by
       rcases hk with hk | hk
       · rcases Zt O.cell hk with q | q
         · exact absurd rfl (O.cell _ (mem_of_lookup q))
         · exact q.1
       · rcases Zt O.cell hk with q | q
         · exact q
         · cases q.2
     have:=cl2 _ (mem_of_lookup hf) rfl
     cases e:cl.lookup y with
     | none=>exact absurd e this
     | some c=>exact ⟨c,e⟩
   · intro y c hf;cases hf
   · intro b hb
     obtain ⟨g0,g1,g2,g3,g4,g5⟩:=f3 b hb
     exact ⟨Nat.ne_of_lt (hobj b hb),fun y c e=>g4 y c (cl1 y c e)⟩
   · intro b o e hb
     obtain ⟨g0,g1,g2,g3,g4,g5⟩:=f3 b hb
     rcases g3 with g3 | g3
     · exact I3.ok.noex b o e g3
     · exact absurd (Heap.lt_size e) (Nat.not_lt.mpr (Nat.le_trans I3.ok.bsz g3))
   · intro b hb hs
     obtain ⟨g0,g1,g2,g3,g4,g5⟩:=f3 b hb
     rcases List.mem_cons.mp (I3.stkSub b hs) with e | e
     · exact g1 e
     · exact g2 e
 have I4 : Inv (ZR X scope x cl s₃.heap.objs.size s₃ H3 fp) [] (σ++[none]) H3 s₄:=by
   obtain ⟨m,hm,hl⟩:=I3.loc
   refine ⟨ok',by rw [← hs4];rfl,by rw [← hs4];exact I3.bare,by rw [h4];exact Un.kept old,⟨_,by rw [h4];exact hns₁,?_⟩,?_,I3.hok.fresh (Nat.le_refl _),fun y c e=>I3.freeC y c (cl1 y c e),?_,by rw [h4];exact I3.hok.kept old,?_⟩
   · intro i y v e1 e2 e3
     have hlt:i < σ.length:=by
       rcases Nat.lt_or_ge i σ.length with z | z
       · exact z
       · rw [List.getElem?_append_right z] at e2
         cases e:i - σ.length with
         | zero=>rw [e] at e2;simp at e2
         | succ k=>rw [e] at e2;simp at e2
     rw [List.getElem?_append_left hlt] at e2
     have hsm:∃ k,scope.names.lookup y=some k:=by
       rcases e3 with hk | hk | hk
       · rcases Zt O.cell hk with q | q
         · exact ⟨_,q⟩
         · exact ⟨_,q.1⟩
       · rcases Zt O.cell hk with q | q
         · exact ⟨_,q⟩
         · exact ⟨_,q.1⟩
       · rcases Zt O.cell hk with q | q
         · exact ⟨_,q⟩
         · exact ⟨_,q.1⟩
     obtain ⟨e1',hyx⟩:X.N[i]?=some y∧y≠x:=by
       have e1:(Uy X.N x++[x])[i]?=some y:=e1
       rw [List.getElem?_append_left (by rw [XY,← I3.len];exact hlt)] at e1
       rcases VH e1 with z | z
       · exact z
       · obtain ⟨k,hk⟩:=hsm
         rw [z,O.noh] at hk;cases hk
     have hy:y∈X.N:=List.mem_of_getElem? e1'
     have hf:scope.names.lookup y=some .free:=by
       rcases e3 with hk | hk | hk
       · rcases Zt O.cell hk with q | q
         · exact absurd q (O.own y hy hyx)
         · exact q.1
       · rcases Zt O.cell hk with q | q
         · exact absurd rfl (O.cell _ (mem_of_lookup q))
         · exact q.1
       · rcases Zt O.cell hk with q | q
         · exact q
         · exact q.1
     have hk:=O.clos _ (mem_of_lookup hf) rfl
     have hv:Vis X.env.scope y:=by rcases hk with z | z;exact .inr (.inl z);exact .inr (.inr z)
     obtain ⟨u,ru,lu⟩:=hl i y v e1' e2 hv
     refine ⟨u,ru,?_⟩
     have hkc:(compEnvC scope cl s₃.heap.objs.size X.env).kindOf y=some .cell∨(compEnvC scope cl s₃.heap.objs.size X.env).kindOf y=some .free:=by
       rcases e3 with q | q | q
       · rcases Zt O.cell q with z | z
         · exact absurd z (O.own y hy hyx)
         · cases z.2
       · exact .inl q
       · exact .inr q
     rcases lu with ⟨q,_⟩ | ⟨_,c,hcl,hcc⟩
     · rcases hk with z | z<;>(rw [q] at z;cases z)
     · refine .inr ⟨hkc,?_⟩
       cases e:cl.lookup y with
       | none=>exact absurd e (cl2 _ (mem_of_lookup hf) rfl)
       | some c' =>
         have:=cl1 y c' e
         rw [hcl] at this
         cases this
         refine ⟨c,e,?_⟩
         rw [h4]
         obtain ⟨oc,ho,hd⟩:=hcc
         exact ⟨oc,old _ _ ho,hd⟩
   · intro y c e
     obtain ⟨v,oc,ho,hd⟩:=I3.cell y c (cl1 y c e)
     exact ⟨v,oc,by rw [h4];exact old _ _ ho,hd⟩
   · intro p hp;cases hp
   · show (σ++[none]).length=(Uy X.N x++[x]).length
     rw [List.length_append,List.length_append,XY,I3.len];rfl
 have st4:tn 0 s₄.heap:=by rw [h4];exact T.keep _ _ _ st3' fun b hb o e=>old b o e
 have fpok:∀ {H':Hp},(∀ b∈fp,H' b=none)→∀ b∈fp,Yw (ZR X scope x cl s₃.heap.objs.size s₃ H3 fp) [] H' b:=fun hn b hb=>by
   obtain ⟨g0,g1,g2,g3,g4,g5⟩:=f3 b hb
   refine ⟨hn b hb,Nat.ne_of_lt (hobj b hb),ok'.exfs b hb,.inl hb,fun y c e=>g4 y c (cl1 y c e),?_⟩
   intro p hp;cases hp
 have loop:codeAny (model X.prog X.w) X.A (.compLoop (.ListComp elt [⟨.Name x px,iter,[],0⟩] scope pos) 0 (.ref it) (.ref D) (compEnvC scope cl s₃.heap.objs.size X.env)) (RR (.ref D) s₃.heap.objs.size) s₄:=by
   refine Wo (fun n s'=>∃ i ys w' H',Inv (ZR X scope x cl s₃.heap.objs.size s₃ H3 fp) [] (σ++[w']) H' s'∧tn i s'.heap∧(∀ b∈fp,H' b=none)∧W i n ys H') ?_ m0 ⟨0,[],none,H3,I4,st4,fun b hb=>(f3 b hb).1,w0⟩
   rintro n s5 ⟨i,ys,w',H5,I5,st5,fr5,w5⟩
   rcases turn i n ys H5 w5 with ⟨stop,q⟩ | ⟨go,N,hN,step⟩
   · refine Zn (T.done (ZR X scope x cl s₃.heap.objs.size s₃ H3 fp) rfl rfl rfl hc i [] s5 _ H5 _ I5 (fpok fr5) st5 stop) fun r s6 ⟨hr,I6⟩=>?_
     subst hr
     obtain ⟨m6,hn6,_⟩:=I6.loc
     have IX:Inv X pins σ H5 s6:=I3.call' (ch:=fp) I6.os I6.base I6.hok I6.bare fun b hb=>by
       obtain ⟨g0,g1,g2,g3,g4,g5⟩:=f3 b hb
       exact ⟨g3,g1,g4,g5⟩
     exact hRR D _ H5 s6 IX (I3.fpOk (Nat.le_refl _) I6.free) ⟨m6,hn6⟩ q
   · refine Zn (T.item (ZR X scope x cl s₃.heap.objs.size s₃ H3 fp) rfl rfl rfl hc i [] s5 _ H5 _ I5 (fpok fr5) st5 go) fun r s6 ⟨u,hr,h6⟩=>?_
     subst hr
     refine Zn h6 fun _ s7 ⟨v,H7,I7,r7,y7,st7,fr7⟩=>?_
     have I7':=I7.pinned (fpok fr7) (T.obj _ _ st7)
     have hixN:(ZR X scope x cl s₃.heap.objs.size s₃ H3 fp).N[σ.length]?=some x:=by
       show (Uy X.N x++[x])[σ.length]?=some x
       rw [I3.len,← XY X.N x];simp
     refine Zn (Zw (X:=ZR X scope x cl s₃.heap.objs.size s₃ H3 fp) (pos:=px) O.nd hixN (.inl (lookup_relabel_local O.loc)) (.inr (lookup_relabel_local O.loc)) _ s7 _ H7 v u (fun σ' H'=>σ'=σ++[some v]∧H'=H7) I7' r7 ⟨by simp,rfl⟩) fun _ s8 ⟨σ8,H8,I8,e8,e8'⟩=>?_
     subst e8 e8'
     refine Zn (he cl s₃.heap.objs.size s₃ H3 fp _ s8 _ H8 _ I8 (step v H8 y7)) fun uy s9 ⟨y,H9,I9,r9,n9⟩=>?_
     obtain ⟨hl9,hz9,m',hm',w9⟩:=hN y H9 n9
     refine Zn (Yd (X:=ZR X scope x cl s₃.heap.objs.size s₃ H3 fp) _ s9 _ H9 (.ref D) [y] (.ref D) [uy] (fun v H'=>H'=upd H9 D (.lst (ys++[y]))) I9 rfl (.cons r9 .nil) ⟨D,ys,y,rfl,rfl,hl9,hz9,rfl⟩) fun _ s10 ⟨_,H10,I10,_,e10⟩=>?_
     subst e10
     refine ⟨m',hm',i+1,ys++[y],some v,_,I10.unpinned (pins:=[]),T.keep _ _ _ st7 fun b hb o e=>(I10.pin (b,o) (List.mem_append_right _ (List.mem_append_right _ (YE hb e)))).1,fun b hb=>?_,w9⟩
     obtain ⟨o,e,d⟩:=T.obj _ _ st7 b hb
     exact (I10.pin (b,o) (List.mem_append_right _ (List.mem_append_right _ (YE hb e)))).2.1
 exact codeAny_compStart_list loop (T.self _ 0 _ _ _ st4 loop)
theorem XW (O:CompOk X scope x)(hc:X.calm=true)(hi:PI X (.Name x px) iter wi)(he:∀ cl C s₀ H₀ fp,PE (ZR X scope x cl C s₀ H₀ fp) elt te)
   (hs:∀ v,foldedSetIterable iter X.env v=pure v:=by intro _;rfl):PE X (.ListComp elt [⟨.Name x px,iter,[],0⟩] scope pos) (Zix wi te):=by
 intro pins s σ H Q I h
 obtain ⟨cl,hcl,cl1,cl2⟩:=XG (scope:=scope) (env:=X.env) fun y hy hf=>I.ok.has _ (O.clos y hy hf)
 rw [eval_ListComp]
 refine wpAny_comprehension_free (use:=none) rfl hs hcl O.kind O.names (Zn (hi pins s σ H _ I h) fun v s1 h1=>Zn h1 fun itv s2 h2=>?_)
 obtain ⟨it,fp,tn,J,H2,e,I2,T,st2,f2,q⟩:=h2
 subst e
 refine Zan (RR:=fun acc C=>compPost (model X.prog X.w) X.A X.xe none (EP X pins σ Q) acc C) O hc cl1 cl2 he I2 T st2 f2 q ?_
 intro D C H' s' I' ⟨g0,g1,g2,g3,g4,g5⟩ ⟨m,hm⟩ hq
 exact ⟨m,hm,fun h' hs'=>⟨.ref D,H',I'.turned (t':=s'.toks) (fun b o hb e=>(hs'.2 b hb).trans e) g0 g1 g3 g4 g5,rfl,hq⟩⟩
theorem UW {i:Nat}{y:Str}{py spos:Pos}(O:CompOk X scope x)(hc:X.calm=true)(hN:X.N.Nodup)(hiN:X.N[i]?=some y)(hy:Loc X.env.scope y)(hi:PI X (.Name x px) iter wi)(he:∀ cl C s₀ H₀ fp,PE (ZR X scope x cl C s₀ H₀ fp) elt te)
   (hsw:swapsWith (.ListComp elt [⟨.Name x px,iter,[],0⟩] scope pos) (some (.Name y py)) spos.line X.env=pure true) (hf:X.fn y=true∨X.env.scope.names.lookup y=some .local:=by first | exact .inl rfl | exact .inr rfl | assumption)
   (hs:∀ v,foldedSetIterable iter X.env v=pure v:=by intro _;rfl):PS X (.Assign [.Name y py] (.ListComp elt [⟨.Name x px,iter,[],0⟩] scope pos) spos) (ZaS (Zix wi te) (VD i)):=by
 intro pins s σ H D I h
 obtain ⟨cl,hcl,cl1,cl2⟩:=XG (scope:=scope) (env:=X.env) fun y hy hf=>I.ok.has _ (O.clos y hy hf)
 rw [exec_Assign_Name_used _ _ _ _ hsw]
 refine wpAny_bind (wpAny_standAt (wpAny_bind ?_))
 show wpAny _ X.A (do let _ ← comprehension (.ListComp elt [⟨.Name x px,iter,[],0⟩] scope pos) scope X.env _ (newList []) false (eval iter X.env) (some (assign (.Name y py) X.env))) _ _ s
 refine wpAny_bind (wpAny_mono (wpAny_comprehension_free (use:=some (assign (.Name y py) X.env)) (Q:=fun _ s'=>SP X pins D .next s') rfl hs hcl O.kind O.names
   (Zn (hi pins s σ H _ I h) fun v s1 h1=>Zn h1 fun itv s2 h2=>?_)) (fun _ s' hq=>wpAny_pure (wpAny_pure hq)) fun _ _ e=>e)
 obtain ⟨it,fp,tn,J,H2,e,I2,T,st2,f2,q⟩:=h2
 subst e
 refine Zan (RR:=fun acc C=>compPost (model X.prog X.w) X.A X.xe (some (assign (.Name y py) X.env)) (fun _ s'=>SP X pins D .next s') acc C) O hc cl1 cl2 he I2 T st2 f2 q ?_
 intro Dl C H' s' I' ⟨g0,g1,g2,g3,g4,g5⟩ ⟨m,hm⟩ hq
 show wpAny _ X.A (assign (.Name y py) X.env (.ref Dl)) _ _ _
 refine wpAny_assign_Name (Uz I' hN hiN hy (v:=.ref Dl) rfl (fun s'' I'' ⟨a,sb,ha⟩=>?_) hf)
 have haC:C≠a:=by
   rcases ha with z | z
   · rw [z];exact g1
   · exact fun z'=>g4 y a z z'.symm
 exact ⟨m,hm.sameBut sb haC,fun h' hs'=>⟨_,H',I''.turned (t':=s''.toks) (fun b o hb e=>(hs'.2 b hb).trans e) g0 g1 g3 g4 g5,hq⟩⟩
end
theorem ZeG {lo:Int}{n:Nat}{te:TE}{σ:St}{D:Addr}{Q:VK}{H:Hp}(hn:n≤sizeLine)(Pv:Nat→List V→Hp→Prop)(h0:Pv 0 [] (upd H D (.lst [])))
   (hl:∀ i ys H,Pv i ys H→ys.length=i)
   (hs:∀ i ys H,i < n→Pv i ys H→te (σ++[some (.int (lo+i))]) H fun y H4=>H4 D=some (.lst ys)∧Pv (i+1) (ys++[y]) (upd H4 D (.lst (ys++[y])))) (hd:∀ ys H,Pv n ys H→Q (.ref D) H):Uw (Itr lo n) te σ D Q H:=by
 refine ⟨fun i m ys H=>m=n - i∧i≤n∧Pv i ys H,⟨n,by simp,Nat.zero_le _,h0⟩,?_⟩
 rintro i m ys H2 ⟨rfl,hi,p⟩
 by_cases hlt:i < n
 · have hlen:=hl i ys _ p
   refine .inr ⟨hlt,_,fun y H4 (q:H4 D=some (.lst ys)∧Pv (i+1) (ys++[y]) (upd H4 D (.lst (ys++[y]))))=>⟨q.1,by omega,n - (i+1),by omega,rfl,hlt,q.2⟩,fun v H3 y=>?_⟩
   obtain ⟨e,e'⟩:=y
   subst e e'
   exact hs i ys _ hlt p
 · have e:i=n:=by omega
   subst e
   exact .inl ⟨Nat.le_refl _,hd ys H2 p⟩
theorem Ut {K:PySem.W.Frag}{a:Addr}{xs:List V}{te:TE}{σ:St}{D:Addr}{Q:VK}{H:Hp}(hn:xs.length≤sizeLine)(Pv:Nat→List V→Hp→Prop)(h0:Pv 0 [] (upd H D (.lst [])))
   (hl:∀ i ys H,Pv i ys H→ys.length=i∧SqL K H a xs)
   (hs:∀ i x ys H,xs[i]?=some x→Pv i ys H→te (σ++[some x]) H fun y H4=>H4 D=some (.lst ys)∧Pv (i+1) (ys++[y]) (upd H4 D (.lst (ys++[y])))) (hd:∀ ys H,Pv xs.length ys H→Q (.ref D) H):Uw (Itl K a) te σ D Q H:=by
 refine ⟨fun i m ys H=>m=xs.length - i∧i≤xs.length∧Pv i ys H,⟨xs.length,by simp,Nat.zero_le _,h0⟩,?_⟩
 rintro i m ys H2 ⟨rfl,hi,p⟩
 obtain ⟨hlen,q⟩:=hl i ys _ p
 by_cases hlt:i < xs.length
 · refine .inr ⟨⟨xs,xs[i],q,by simp [hlt]⟩,_,fun y H4 (q:H4 D=some (.lst ys)∧Pv (i+1) (ys++[y]) (upd H4 D (.lst (ys++[y]))))=>⟨q.1,by omega,xs.length - (i+1),by omega,rfl,hlt,q.2⟩,fun v H3 y=>?_⟩
   obtain ⟨e,y⟩:=y
   subst e
   exact hs i v ys _ (y xs q) p
 · have e:i=xs.length:=by omega
   subst e
   exact .inl ⟨⟨xs,q,Nat.le_refl _⟩,hd ys H2 p⟩
end L2
namespace L2
open PySem PySem.Spec PyProof.Rows
def Its (x:Str):It:=⟨fun i _=>i < x.cps.size,fun i H v H'=>H'=H∧∃ c,x.cps[i]?=some c∧v=.str ⟨#[c]⟩,fun i _=>x.cps.size≤i⟩
theorem Zeo {P:Program}{w:World}{K:PySem.W.Frag}{tg:Expr}(x:Str)(t:Tok)(it:Addr):Wx P w K tg (Its x) [it] it (fun i h=>h.IsStrIter it "str_ascii_iterator" x t i) where
 mem:=by simp
 obj:=fun i h st b hb=>by
   have e:b=it:=by simpa using hb
   subst e
   obtain ⟨o,e,c,d⟩:=st
   exact ⟨o,e,fun v z=>by rw [d] at z;cases z⟩
 keep:=fun i h h' st k=>let ⟨o,ho,r⟩:=st;⟨o,k it (by simp) o ho,r⟩
 item:=by
   intro X hP hw hK hc i pins s σ H E I hf st hg
   subst hP hw hK
   obtain ⟨f0,f1,f2,f3,f4,f5⟩:=hf it (by simp)
   have hlt:i < x.cps.size:=hg
   refine wpAny_pyNext_ascii_item st (c:=x.cps[i]) (by simp [hlt]) fun h' st' sb=>?_
   have I1:Inv X pins σ H { s with heap:=h',toks:=s.toks+1 }:=I.turned (t':=s.toks+1) (fun b o hb e=>(sb.2 b hb).trans e) f0 f1 f3 f4 f5
   obtain ⟨o,e,c,d⟩:=id st'
   exact ⟨_,rfl,Zam (s:={ s with heap:=h',toks:=s.toks+1 }) e c d (by decide) ⟨.str ⟨#[x.cps[i]]⟩,H,I1,⟨_,rfl⟩,⟨rfl,x.cps[i],by simp [hlt],rfl⟩,st',fun b hb=>(hf b hb).1⟩⟩
 done:=by
   intro X hP hw hK hc i pins s σ H E I hf st hg
   subst hP hw hK
   obtain ⟨f0,f1,f2,f3,f4,f5⟩:=hf it (by simp)
   have hle:x.cps.size≤i:=hg
   exact wpAny_pyNext_ascii_end (I.ok.hd hc) st (by simp [hle]) fun h' eb=>⟨rfl,I.turned (t':=s.toks) (fun b o hb e=>eb b o hb e) f0 f1 f3 f4 f5⟩
 self:=fun _ _ _ _ _ st h=>wpAny_pyIter_striter_ascii st h
theorem Zfm {P:Program}{w:World}{K:PySem.W.Frag}{tg:Expr}(x:Str)(t:Tok)(it:Addr):Wx P w K tg (Its x) [it] it (fun i h=>h.IsStrIter it "str_iterator" x t i) where
 mem:=by simp
 obj:=fun i h st b hb=>by
   have e:b=it:=by simpa using hb
   subst e
   obtain ⟨o,e,c,d⟩:=st
   exact ⟨o,e,fun v z=>by rw [d] at z;cases z⟩
 keep:=fun i h h' st k=>let ⟨o,ho,r⟩:=st;⟨o,k it (by simp) o ho,r⟩
 item:=by
   intro X hP hw hK hc i pins s σ H E I hf st hg
   subst hP hw hK
   obtain ⟨f0,f1,f2,f3,f4,f5⟩:=hf it (by simp)
   have hlt:i < x.cps.size:=hg
   refine wpAny_pyNext_wide_item st (c:=x.cps[i]) (by simp [hlt]) fun h' st' sb=>?_
   have I1:Inv X pins σ H { s with heap:=h',toks:=s.toks+1 }:=I.turned (t':=s.toks+1) (fun b o hb e=>(sb.2 b hb).trans e) f0 f1 f3 f4 f5
   obtain ⟨o,e,c,d⟩:=id st'
   exact ⟨_,rfl,Zam (s:={ s with heap:=h',toks:=s.toks+1 }) e c d (by decide) ⟨.str ⟨#[x.cps[i]]⟩,H,I1,⟨_,rfl⟩,⟨rfl,x.cps[i],by simp [hlt],rfl⟩,st',fun b hb=>(hf b hb).1⟩⟩
 done:=by
   intro X hP hw hK hc i pins s σ H E I hf st hg
   subst hP hw hK
   obtain ⟨f0,f1,f2,f3,f4,f5⟩:=hf it (by simp)
   have hle:x.cps.size≤i:=hg
   exact wpAny_pyNext_wide_end (I.ok.hd hc) st (by simp [hle]) fun h' eb=>⟨rfl,I.turned (t':=s.toks) (fun b o hb e=>eb b o hb e) f0 f1 f3 f4 f5⟩
 self:=fun _ _ _ _ _ st h=>wpAny_pyIter_striter_wide st h
def iStr (tl:TE):TI:=fun σ H R=>tl σ H fun v H1=>∃ x,v=.str x∧R (Its x) H1
section
variable {X:Cx}{tg:Expr}
theorem VC {l:Expr}{tl:TE}(hl:PE X l tl):PI X tg l (iStr tl):=by
 intro pins s σ H R I h
 refine Zn (hl pins s σ H _ I h) fun v s1 ⟨z,H1,I1,r1,q1⟩=>?_
 obtain ⟨x,e,q⟩:=q1
 subst e
 obtain ⟨t,rfl⟩:=r1
 have fin:∀ b,b∈[s1.heap.objs.size]→Yw X pins H1 b:=fun b hb=>by
   have e:b=s1.heap.objs.size:=by simpa using hb
   subst e
   exact I1.fpOk (Nat.le_refl _) (I1.hok.fresh (Nat.le_refl _))
 cases ha:x.cps.all (· < 128)
 · exact wpAny_pyIter_wide ha ⟨s1.heap.objs.size,[s1.heap.objs.size],_,_,H1,rfl,I1.kept (t':=s1.toks) fun b o e=>Heap.get?_push_of_some _ e,Zfm x t _,⟨_,Heap.get?_push_size _ rfl,rfl,rfl⟩,fin,q⟩
 · exact wpAny_pyIter_ascii ha ⟨s1.heap.objs.size,[s1.heap.objs.size],_,_,H1,rfl,I1.kept (t':=s1.toks) fun b o e=>Heap.get?_push_of_some _ e,Zeo x t _,⟨_,Heap.get?_push_size _ rfl,rfl,rfl⟩,fin,q⟩
end
theorem ZcH {x:Str}{te:TE}{σ:St}{D:Addr}{Q:VK}{H:Hp}(hn:x.length≤sizeLine)(Pv:Nat→List V→Hp→Prop)(h0:Pv 0 [] (upd H D (.lst [])))
   (hl:∀ i ys H,Pv i ys H→ys.length=i)
   (hs:∀ i c ys H,x.cps[i]?=some c→Pv i ys H→te (σ++[some (.str ⟨#[c]⟩)]) H fun y H4=>H4 D=some (.lst ys)∧Pv (i+1) (ys++[y]) (upd H4 D (.lst (ys++[y])))) (hd:∀ ys H,Pv x.cps.size ys H→Q (.ref D) H):Uw (Its x) te σ D Q H:=by
 have hn':x.cps.size≤sizeLine:=hn
 refine ⟨fun i m ys H=>m=x.cps.size - i∧i≤x.cps.size∧Pv i ys H,⟨x.cps.size,by simp,Nat.zero_le _,h0⟩,?_⟩
 rintro i m ys H2 ⟨rfl,hi,p⟩
 have hlen:=hl i ys _ p
 by_cases hlt:i < x.cps.size
 · refine .inr ⟨hlt,_,fun y H4 (q:H4 D=some (.lst ys)∧Pv (i+1) (ys++[y]) (upd H4 D (.lst (ys++[y]))))=>⟨q.1,by omega,x.cps.size - (i+1),by omega,rfl,hlt,q.2⟩,fun v H3 y=>?_⟩
   obtain ⟨e,c,hc,e'⟩:=y
   subst e e'
   exact hs i c ys _ hc p
 · have e:i=x.cps.size:=by omega
   subst e
   exact .inl ⟨Nat.le_refl _,hd ys H2 p⟩
section
variable {X:Cx}
theorem Wd:YM X (compareOp .LtE) (fun x y H Q=>∃ i j,x=.str i∧y=.str j∧Q (.bl (!(decide (j.cps.toList < i.cps.toList)))) H):=by
 intro pins s σ H x y v u Q I rx ry h
 obtain ⟨i,j,rfl,rfl,q⟩:=h
 obtain ⟨t,rfl⟩:=rx
 obtain ⟨t',rfl⟩:=ry
 exact PySem.P.le_str (ZN I q rfl)
theorem Vi (hc:X.calm=true):YO X (.builtin "all") (fun xs H Q=>∃ (a:Addr) (bs:List Bool),xs=[.ref a]∧SqL X.K H a (bs.map V.bl)∧Q (.bl (bs.all id)) H):=by
 intro pins s σ H xs us Q I r h
 obtain ⟨a,bs,rfl,hq,q⟩:=h
 obtain ⟨u,rfl,ru⟩:=YK r
 cases ru
 obtain ⟨its,rv,p,hz⟩:=I.list hq
 have hlen:=rv.length
 rw [List.length_map] at hlen
 have hal:a < s.heap.objs.size:=by obtain ⟨_,e,_⟩:=p.isList;exact Heap.lt_size e
 refine call_all_walk (wpAny_pyIter_list p.isList ⟨s.heap.objs.size,_,_,_,_,_,fun i=>bs.getD i false,rfl,Walks.list (A:=X.A.in1) (I.ok.hd hc) s.heap.objs.size a (Nat.ne_of_lt hal) its.toArray,⟨⟨_,Heap.get?_push_size _ rfl,rfl,rfl⟩,p.isList.push _⟩,?_,?_⟩)
 · intro i v s' Q' E' hv hQ'
   have hv':its[i]?=some v:=by simpa using hv
   have hi:i < bs.length:=by
     have:=(List.getElem?_eq_some_iff.mp hv').1
     omega
   obtain ⟨u,hu,ru⟩:=rv.get (i:=i) (x:=V.bl bs[i]) (by simp [hi])
   rw [hv'] at hu
   cases hu
   have e:v=Value.bool bs[i]:=ru
   subst e
   have hQ2:Q' (bs.getD i false) s':=hQ'
   rw [List.getD_eq_getElem?_getD,List.getElem?_eq_getElem hi] at hQ2
   exact wpAny_truthy_bool hQ2
 · intro h' tk hk
   have e:(List.range its.toArray.size).all (fun i=>bs.getD i false)=bs.all id:=by
     rw [List.size_toArray,← hlen]
     apply Bool.eq_iff_iff.mpr
     rw [List.all_eq_true,List.all_eq_true]
     constructor
     · intro z b hb
       obtain ⟨i,hi,rfl⟩:=List.mem_iff_getElem.mp hb
       have:=z i (List.mem_range.mpr hi)
       rwa [List.getD_eq_getElem?_getD,List.getElem?_eq_getElem hi] at this
     · intro z i hi
       have hi':=List.mem_range.mp hi
       rw [List.getD_eq_getElem?_getD,List.getElem?_eq_getElem hi']
       exact z _ (List.getElem_mem hi')
   rw [e]
   refine ⟨.bl (bs.all id),H,I.kept (t':=tk) fun b o eb=>hk b o ?_ (Heap.get?_push_of_some _ eb),rfl,q⟩
   intro hm
   have:b=s.heap.objs.size:=by simpa using hm
   rw [this] at eb
   exact absurd (Heap.lt_size eb) (Nat.lt_irrefl _)
theorem ZdG:∀{ys:List Str}{us:List Value},Vals (ys.map V.str) us→StrsAre us ys
 | [],_,.nil=>.nil
 | y::ys,_,.cons r t=>by obtain ⟨k,rfl⟩:=r;exact .cons _ _ (ZdG t)
theorem Ws:MtR X "str.join" (fun x xs H Q=>∃ sep a ys,x=.str sep∧xs=[.ref a]∧SqL X.K H a (ys.map V.str)∧(ys.map (·.length)).sum+ys.length * sep.length≤16777216∧Q (.str (Txt.join sep ys)) H):=by
 intro pins s σ H x xs v us Q I rx rv h
 obtain ⟨sep,a,ys,rfl,rfl,hq,hz,q⟩:=h
 obtain ⟨t,rfl⟩:=rx
 obtain ⟨u,rfl,ru⟩:=YK rv
 cases ru
 obtain ⟨its,r,p,_⟩:=I.list hq
 exact join_list p.isList (by simpa using ZdG r) hz fun t' k=>⟨.str _,H,I.tok k,⟨_,rfl⟩,q⟩
theorem Zaw:SlR X (fun x lo hi H Q=>∃ z,x=.str z∧z.length≤sizeLine∧Q (.str (Txt.slice z lo hi)) H):=by
 intro pins s σ H x v vl vu lo hi sl Q I rx hs pl pu h
 obtain ⟨z,rfl,hz,q⟩:=h
 obtain ⟨t,rfl⟩:=rx
 refine ⟨"str",_,F.slot_str_getitem.lookup,typeIs_str _ _ _,?_⟩
 have fin:∀ (t':Tok) (k:Nat),EP X pins σ Q (.str (Txt.slice z lo hi) t') { s with toks:=k }:=fun t' k=>⟨.str _,H,I.tok k,⟨_,rfl⟩,q⟩
 obtain ⟨o,ho,hc,hd⟩:=hs
 cases pl<;>cases pu
 · exact wpAny_getItem_str_slice (l:=none) (u:=none) (st:=none) ⟨_,ho,hc,hd⟩ rfl (post_val_or_str ⟨Nat.le_trans (Txt.slice_le z _ _) hz,fin⟩)
 · rename_i j uj
   exact wpAny_getItem_str_slice (l:=none) (u:=some (j,uj)) (st:=none) ⟨_,ho,hc,hd⟩ rfl (post_val_or_str ⟨Nat.le_trans (Txt.slice_le z _ _) hz,fin⟩)
 · rename_i i ui
   exact wpAny_getItem_str_slice (l:=some (i,ui)) (u:=none) (st:=none) ⟨_,ho,hc,hd⟩ rfl (post_val_or_str ⟨Nat.le_trans (Txt.slice_le z _ _) hz,fin⟩)
 · rename_i i ui j uj
   exact wpAny_getItem_str_slice (l:=some (i,ui)) (u:=some (j,uj)) (st:=none) ⟨_,ho,hc,hd⟩ rfl (post_val_or_str ⟨Nat.le_trans (Txt.slice_le z _ _) hz,fin⟩)
theorem Vf:YM X (binaryOp .Mult) (fun x y H Q=>∃ i n,x=.str i∧y=.int n∧MulOk i n∧Q (.str (Txt.mul i n)) H):=by
 intro pins s σ H x y v u Q I rx ry h
 obtain ⟨i,n,rfl,rfl,hok,q⟩:=h
 obtain ⟨t,rfl⟩:=rx
 obtain ⟨t',rfl⟩:=ry
 exact SB.mul hok fun t' k=>⟨.str _,H,I.tok k,⟨_,rfl⟩,q⟩
theorem UA:YO X (.type "str") (fun xs H Q=>(∃ i,xs=[.int i]∧i.natAbs.log2 < 1920∧Q (.str (toString i)) H)∨∃ z,xs=[.str z]∧Q (.str z) H):=by
 intro pins s σ H xs us Q I r h
 rcases h with h | ⟨z,rfl,q⟩
 · exact ZcY pins s σ H xs us Q I r h
 · obtain ⟨u,rfl,t,rfl⟩:=YK r
   exact PySem.P.str_of_str ⟨.str _,H,I,⟨_,rfl⟩,q⟩
end
mutual
inductive DataOf (H:Hp):V→PyData→Prop
 | non:DataOf H .non .none
 | bl (b):DataOf H (.bl b) (.bool b)
 | int (i):DataOf H (.int i) (.int i)
 | str (x):DataOf H (.str x) (.str x)
 | lst {a xs ds}:H a=some (.lst xs)→DatasOf H xs ds→DataOf H (.ref a) (.list ds)
 | tup {a xs ds}:H a=some (.tup xs)→DatasOf H xs ds→DataOf H (.ref a) (.tuple ds)
inductive DatasOf (H:Hp):List V→List PyData→Prop
 | nil:DatasOf H [] []
 | cons {v d vs ds}:DataOf H v d→DatasOf H vs ds→DatasOf H (v::vs) (d::ds)
end
section
variable {P:Program}{w:World}{H:Hp}{h:Heap}
mutual
theorem DataOf.reads (hok:HOk P w H h):∀{v d}(u:Value),DataOf H v d→RelV v u→d.hasDict=false∧∃ as,Reads h u d as
 | _,_,u,.non,r=>by cases (show u=.none from r);exact ⟨rfl,_,.none⟩
 | _,_,u,.bl b,r=>by cases (show u=.bool b from r);exact ⟨rfl,_,.bool b⟩
 | _,_,u,.int i,r=>by obtain ⟨t,e⟩:=(show ∃ t,u=.int i t from r);subst e;exact ⟨rfl,_,.int i t⟩
 | _,_,u,.str x,r=>by obtain ⟨t,e⟩:=(show ∃ t,u=.str x t from r);subst e;exact ⟨rfl,_,.str x t⟩
 | _,_,u,.lst (a:=a) (xs:=xs) e q,r=>by
   cases (show u=.ref a from r)
   obtain ⟨_,its,n,rv,g⟩:=(show ObjOk P w H h a (.lst xs) from hok a _ e)
   obtain ⟨nd,as,ra⟩:=DatasOf.reads hok its q rv
   exact ⟨by simpa [PyData.hasDict] using nd,_,.list g rfl rfl (by simpa using ra)⟩
 | _,_,u,.tup (a:=a) (xs:=xs) e q,r=>by
   cases (show u=.ref a from r)
   obtain ⟨_,its,rv,o,g,c,n,d⟩:=(show ObjOk P w H h a (.tup xs) from hok a _ e)
   obtain ⟨nd,as,ra⟩:=DatasOf.reads hok its q rv
   exact ⟨by simpa [PyData.hasDict] using nd,_,.tuple g c d (by simpa using ra)⟩
theorem DatasOf.reads (hok:HOk P w H h):∀{vs ds}(us:List Value),DatasOf H vs ds→Vals vs us→PyData.hasDictAll ds=false∧∃ as,ReadsAll h us ds as
 | _,_,_,.nil,.nil=>⟨rfl,_,.nil⟩
 | _,_,_,.cons r t,.cons rv tv=>by
   obtain ⟨n1,as,r1⟩:=DataOf.reads hok _ r rv
   obtain ⟨n2,bs,r2⟩:=DatasOf.reads hok _ t tv
   exact ⟨by simp [PyData.hasDictAll,n1,n2],_,.cons r1 r2⟩
end
end
section
variable {X:Cx}
end
end L2
namespace L2
open PySem PySem.Spec PyProof.Rows
def Def (P:Program)(w:World)(K:PySem.W.Frag)(mg:Str→Option Value)(base:Heap)(k:Nat)(x:Str)(ps:List Str)(sp:Sp):Prop :=
 ∃ f fd,FnOk P w K mg base ZV k f fd ps sp∧Binds K fd ps []∧PySem.W.keepIn K (.ref f)=true∧mg x=some (.ref f)
theorem Def.mono {P:Program}{w:World}{K:PySem.W.Frag}{mg:Str→Option Value}{base:Heap}{j k:Nat}{x:Str}{ps:List Str}{sp:Sp}(D:Def P w K mg base j x ps sp)(h:j≤k):Def P w K mg base k x ps sp :=
 let ⟨f,fd,F,b,kp,m⟩:=D;⟨f,fd,F.mono h,b,kp,m⟩
section
variable {X:Cx}{k:Nat}{x:Str}{ps:List Str}{sp:Sp}{p pos:Pos}{e:Expr}{es:List Expr}{t:TA}
theorem Zq (D:Def X.prog X.w X.K X.mg X.base k x ps sp)(hr:Room k X.A)(ha:PA X (e::es) t)(hg:Gl X x:=by rfl)(hdb:(x == ("__debug__":Str))=false:=by decide)
   (he:starEach (e::es) X.env=(false,eval e X.env)::starEach es X.env:=by rfl) (hpl:(backTo pos (starEach es X.env)).any (·.1)=false:=by rfl) :
   PE X (.Call (.Name x p) (e::es) [] pos) (ZbT sp [] E0 t):=by
 obtain ⟨f,fd,F,b,kp,m⟩:=D
 exact Zjp F hr hg m kp b .nil ZlL ha hdb he hpl
end
def Kp (p:Addr)(H H':Hp):Prop:=∀ q o,q≠p→H q=some o→H' q=some o
theorem Kp.trans {p:Addr}{H H1 H2:Hp}(a:Kp p H H1)(b:Kp p H1 H2):Kp p H H2:=fun q o n h=>b q o n (a q o n h)
theorem Kp.upd (p:Addr)(H:Hp)(o:HO):Kp p H (upd H p o):=fun q u n h=>by rw [Zo n];exact h
theorem Same.kp {H H':Hp}(a:Same H H')(p:Addr):Kp p H H':=fun q o _ h=>a q o h
theorem Zh {H:Hp}{p:Addr}(h:H p=none)(o:HO):Same H (upd H p o):=fun b u q=>by rw [Zo (Zy q h)];exact q
def BoxAt (H:Hp)(p:Addr)(n:Nat):Prop:=∃ a b c:Int,H p=some (.lst [.int a,.int b,.int c])∧0≤a∧0≤c∧c≤n
theorem BoxAt.same {H H':Hp}{p:Addr}{n:Nat}(h:BoxAt H p n)(s:Same H H'):BoxAt H' p n:=let ⟨a,b,c,e,r⟩:=h;⟨a,b,c,s _ _ e,r⟩
theorem BoxAt.le {H:Hp}{p:Addr}{n m:Nat}(h:BoxAt H p n)(l:n≤m):BoxAt H p m:=let ⟨a,b,c,e,h1,h2,h3⟩:=h;⟨a,b,c,e,h1,h2,by omega⟩
def ZaF (M:Int):Sp:=fun vs H Q _=>∃(p:Addr)(n:Nat)(m:Int),vs=[.ref p,.int m]∧BoxAt H p n∧n≤1000000∧0 < m∧m < M∧∀(r:Int)(H':Hp),0≤r→r < m→BoxAt H' p (n+1)→Kp p H H'→Q (.int r) H'
def ZfA (K:PySem.W.Frag):Sp:=fun vs H Q _=>∃(a:Addr)(ns:List Int)(k:Int),vs=[.ref a,.int k]∧SqL K H a (ns.map V.int)∧0≤k∧∀(r:Int),Q (.int r) H
def Ziu (K:PySem.W.Frag):Sp:=fun vs H Q _=>∃(a:Addr)(ns:List Int)(k:Int),vs=[.ref a,.int k]∧SqL K H a (ns.map V.int)∧0≤k∧k≤1000∧∀(p:Addr)(H':Hp),H p=none→BoxAt H' p 0→Same H H'→Q (.ref p) H'
theorem len1 {n:Nat}(h:n≤1000):n≤sizeLine:=Nat.le_of_lt (Zfr h)
end L2
namespace L2
open PySem PySem.Spec PyProof.Rows
def ZdV (N:List Str)(names:List (Str×NameKind))(scope:Scope)(x:Str):Bool :=
 decide ((Uy N x++[x]).Nodup)&&scope.names.all (fun y=>(y.2 != .free || names.lookup y.1 == some .cell || names.lookup y.1 == some .free)&&(y.2 != .cell&&(y.2 != .local || scope.names.lookup y.1 == some .local))) &&
 ((scope.kind == .function&&scope.names.lookup x == some .local)&&N.all fun y=>y == x || scope.names.lookup y != some .local)&&scope.names.lookup ("":Str) == none
theorem CompOk.of {X:Cx}{scope:Scope}{x:Str}(N:List Str)(st:Stmt)(hN:X.N=N)(hn:X.env.scope=Zj st)(chk:ZdV N (Zj st).names scope x=true):CompOk X scope x:=by
 unfold ZdV at chk
 simp only [Bool.and_eq_true,decide_eq_true_eq,List.all_eq_true,Bool.or_eq_true,bne_iff_ne,beq_iff_eq] at chk
 obtain ⟨⟨⟨c1,c2⟩,⟨c3,c4⟩,c5⟩,c6⟩:=chk
 refine ⟨by rw [hN];exact c1,fun y hy hf=>?_,fun y hy=>(c2 y hy).2.1,c3,fun y hy hl=>?_,c4,fun y hy hx=>(c5 y (by rw [← hN];exact hy)).resolve_left hx,c6⟩
 · show X.env.scope.names.lookup y.1=_∨X.env.scope.names.lookup y.1=_
   rw [hn]
   rcases (c2 y hy).1 with (z | z) | z
   · exact absurd hf z
   · exact .inl z
   · exact .inr z
 · rcases (c2 y hy).2.2 with z | z
   · exact absurd hl z
   · exact z
theorem Uc {x:Str}{te:TE}{σ:St}{D:Addr}{Q:VK}{H:Hp}(hn:x.length≤sizeLine)(g:Nat→V)(hs:∀ c (H':Hp) (R:VK),c∈x.cps.toList→R (g c) H'→te (σ++[some (.str ⟨#[c]⟩)]) H' R)
   (hd:Q (.ref D) (upd H D (.lst (x.cps.toList.map g)))):Uw (Its x) te σ D Q H:=by
 refine ZcH hn (fun i ys H'=>ys=(x.cps.toList.take i).map g∧H'=upd H D (.lst ys)∧i≤x.cps.size) ⟨rfl,rfl,Nat.zero_le _⟩ ?_ ?_ ?_
 · rintro i ys H' ⟨rfl,_,hi⟩
   rw [List.length_map,List.length_take]
   simp;omega
 · rintro i c ys H' hc ⟨rfl,rfl,hi⟩
   have hc':x.cps.toList[i]?=some c:=by simpa using hc
   refine hs c _ _ (List.mem_of_getElem? hc') ⟨Zc,?_,ZiT,(Array.getElem?_eq_some_iff.mp hc).1⟩
   rw [List.take_add_one,hc',List.map_append];rfl
 · rintro ys H' ⟨rfl,rfl,_⟩
   rw [List.take_of_length_le (by simp)]
   exact hd
theorem ZaJ:∀ (rest:List Str) (acc:Array Nat),(rest.foldl (fun acc p=>acc++(Str.ofString "").cps++p.cps) acc).toList=acc.toList++rest.flatMap (·.cps.toList)
 | [],acc=>by simp
 | p::r,acc=>by
   have e:(Str.ofString "").cps=#[]:=by decide +kernel
   rw [List.foldl_cons,ZaJ r,List.flatMap_cons,e]
   simp
theorem WQ:∀ ys:List Str,(Txt.join (Str.ofString "") ys).cps.toList=ys.flatMap (·.cps.toList)
 | []=>rfl
 | y::r=>by
   show (List.foldl (fun acc p=>acc++(Str.ofString "").cps++p.cps) y.cps r).toList=_
   rw [ZaJ];rfl
theorem ZL (x:Str):x.length=x.cps.toList.length:=by simp [Str.length]
theorem Ys {x y:Str}(h:x.cps.toList=y.cps.toList):x=y:=by
 cases x;cases y;simp at h;simp [h]
theorem Zgp (s e:Int)(i j:Nat)(hs:s=i)(he:e=j):sliceRange s e 1=(List.range (j - i)).map (i+·):=by
 subst hs he
 unfold sliceRange
 simp only [show (1:Int) > 0 by decide,if_true]
 have e3:(if (i:Int) < (j:Int) then ((j:Int) - i+1 - 1) / 1 else 0).toNat=j - i:=by
   split
   · rw [Int.ediv_one];omega
   · omega
 rw [e3]
 apply List.map_congr_left
 intro k hk
 omega
theorem XN (z:Str)(lo hi:Option Int):(Txt.slice z lo hi).cps.toList=(z.cps.toList.drop (HT.sIx z.length 0 lo)).take (HT.sIx z.length z.length hi - HT.sIx z.length 0 lo):=by
 have key:Builtin.Str.strSliceIndices lo hi 1 z.length=(List.range (HT.sIx z.length z.length hi - HT.sIx z.length 0 lo)).map (HT.sIx z.length 0 lo+·):=by
   unfold Builtin.Str.strSliceIndices
   refine Zgp _ _ _ _ ?_ ?_
   · cases lo with
     | none=>rfl
     | some i=>simp only [HT.sIx,show (1:Int) > 0 by decide,if_true];split<;>omega
   · cases hi with
     | none=>rfl
     | some i=>simp only [HT.sIx,show (1:Int) > 0 by decide,if_true];split<;>omega
 have hj:HT.sIx z.length z.length hi≤z.length:=HT.sIx_le _ _ (Nat.le_refl _) hi
 unfold Txt.slice
 rw [key]
 split
 · rename_i h
   simp only [beq_self_eq_true,Bool.true_and,List.length_map,List.length_range,beq_iff_eq] at h
   have h0:HT.sIx z.length 0 lo=0∨z.length=0:=by omega
   rcases h0 with h0 | h0
   · rw [h0] at h ⊢
     rw [List.drop_zero,h,ZL,List.take_length]
   · have e:z.cps.toList=[]:=List.eq_nil_of_length_eq_zero (by rw [← ZL];exact h0)
     rw [e];simp
 · show (List.filterMap (fun k=>z.cps[k]?) ((List.range _).map _)).toArray.toList=_
   rw [List.filterMap_map]
   generalize HT.sIx z.length 0 lo=i at *
   generalize HT.sIx z.length z.length hi - i=n at *
   have gen:∀ (n i:Nat),List.filterMap ((fun k=>z.cps[k]?) ∘ (i+·)) (List.range n)=(z.cps.toList.drop i).take n:=by
     intro n
     induction n with
     | zero=>intro i;simp
     | succ n ih =>
       intro i
       rw [List.range_succ,List.filterMap_append,ih,List.take_add_one,List.getElem?_drop]
       congr 1
       simp only [List.filterMap_cons,List.filterMap_nil,Function.comp,Array.getElem?_toList]
       cases z.cps[i+n]?<;>rfl
   rw [gen]
theorem YR (x y:Str):(x++y).cps.toList=x.cps.toList++y.cps.toList:=by
 show (x.cps++y.cps).toList=_
 simp
theorem Xe (x y:Str):(x++y).length=x.length+y.length:=by rw [ZL,YR,List.length_append,← ZL,← ZL]
def UY (c:Nat):Bool:=decide (97≤c)&&decide (c≤122)
def Yo (c:Nat):Bool:=decide (32≤c)&&decide (c≤126)
theorem Zdp (c d:Nat):decide ([c] < [d])=decide (c < d):=by
 simp [List.cons_lt_cons_iff]
theorem ZcG (f:Nat→Bool)(l:List Nat):l.map (fun c=>V.bl (f c))=(l.map f).map V.bl:=by rw [List.map_map];rfl
theorem Zgf {X:Cx}{K:PySem.W.Frag}(hK:X.K=K):YO X (.builtin "len") (fun xs H Q=>∃ x n,xs=[x]∧ZhH K x H n∧Q (.int n) H):=by subst hK;exact ZgL
theorem Zcx {X:Cx}{K:PySem.W.Frag}(hK:X.K=K):IxR X (rIxL K):=by subst hK;exact ZG
@[reducible] def notStar:Expr→Bool
 | .Starred ..=>false
 | _=>true
theorem Zir {e:Expr}{es:List Expr}{env:Env}(h:notStar e=true):starEach (e::es) env=(false,eval e env)::starEach es env:=by
 cases e<;>first | rfl | cases h
section
variable {X:Cx}{k:Nat}{x:Str}{ps:List Str}{sp:Sp}{p pos:Pos}{e:Expr}{es:List Expr}{te:TE}{t:TA}
theorem Wb (ha:PE X e te)(hr:PA X es t)(h:notStar e=true):PA X (e::es) (Xb te t):=Ym ha hr (Zir h)
theorem Zb (ha:PE X e te)(hr:PA X es t)(h:notStar e=true:=by rfl):PA X (e::es) (Xb te t):=Ym ha hr (Zir h)
end
end L2
namespace L2
open PySem PySem.Spec PyProof.Rows
section
variable {X:Cx}
theorem Zcl:YM X (binaryOp .FloorDiv) (rI (fun _ j=>0 < j∧j < 2 ^ 62) fun i j=>.int (i / j)):=opI fun i j _ _ _ _ _ hc q=>by
 have h1:(0:Int) < j:=hc.1
 have h2:j < 2 ^ 62:=hc.2
 refine floordiv_int (by omega) (by rw [Int.fdiv_eq_ediv_of_nonneg i (by omega)];exact q) (.inl (PyProof.noPylong_of_log2 ?_))
 have h3:j.natAbs≠0:=by omega
 have h4:j.natAbs < 2 ^ 9000:=Nat.lt_of_lt_of_le (show j.natAbs < 2 ^ 62 by omega) (Nat.pow_le_pow_right (by decide) (by decide))
 exact (Nat.log2_lt h3).mpr h4
end
end L2
namespace L2
open PySem PySem.Spec PyProof.Rows
section
variable {X:Cx}
end
section
variable {X:Cx}{tg:Expr}
end
end L2
set_option maxHeartbeats 2000000
namespace L2
open PySem PySem.Spec PyProof.Rows
section
variable {prog:Program}{w:World}{A:Around}{E:Value→Shared→Prop}{s:Shared}
end
end L2
set_option maxHeartbeats 2000000
namespace L2
open PySem PySem.Spec PyProof.Rows
section
variable {prog:Program}{w:World}{A:Around}{E:Value→Shared→Prop}{s:Shared}
theorem ZaX {T newId:String}{self a:Value}{kw:List (Str×Value)}(hl:typeLookup (.type T) "__init__"=pure (some (.builtin "object.__init__")))
   (hm:Bind.madeBy (.type T)=pure (some newId)) (hne:(some newId != some "object.__new__")=true) :
   Meets (Builtin.«object.__init__» ⟨[self,a],kw⟩) (fun _ R s=>s.TypeIs self T∧R (.ok (.ret .none)) s):=by
 refine Meets.of_wp fun prog w A R s hs=>?_
 obtain ⟨hT,hq⟩:=hs
 repeat (any_goals first | assumption | wp_step)
 exact ⟨_,rfl,hq⟩
theorem Zcc {T newId initId:String}{Bn Bi:Builtin}{args:List Value}{kw:List (Str×Value)}{S:PySem.Spec}{Q Q₁:Value→Shared→Prop}(ft:TypeCalled T newId initId)
   (hct:checkTypeCall T ⟨args,kw⟩=pure ()) (hcn:checkBuiltinCall newId ⟨.type T::args,kw⟩=pure ())
   (entryN:entryFor table newId=some Bn) (entryI:entryFor table initId=some Bi) (g:Meets (Bn ⟨.type T::args,kw⟩) S) (h:S A.in1 (wants Q₁ E) s)
   (hnext:∀ obj s₁,Q₁ obj s₁→s₁.TypeIs obj T∧argsOk initId ⟨obj::args,kw⟩∧∃ Si,Meets (Bi ⟨obj::args,kw⟩) Si∧Si A.in1 (wants (fun r s₂=>r=.none∧Q obj s₂) E) s₁) :
   wpAny (model prog w) A (call (.type T) args kw) Q E s:=by
 obtain ⟨c,tl,hmro⟩:=ft.mro
 have q1:=ft.made
 have q2:=ft.sub
 refine wpAny_call (codeAny_of_tree (show wpAny _ _ (callAny (.type T) _) _ _ _ from wpAny_pure ⟨Code.quiet_builtin _ (by decide +kernel),codeAny_builtin F.entry_type_call ?_⟩))
 rw [Around.under_plain (weight_type_call_type T args kw) (units_type_call_type T args kw)]
 have q3:=ft.notType
 have q4:=ft.canCreate
 repeat (any_goals first | assumption | wp_step)
 refine codeAny_mono (codeAny_call_builtin ft.plain entryN (wpAny_of_eq hcn (g prog w A.in1 _ s h))) fun r s₁ hr=>?_
 rcases r with e | fl
 · exact hr
 · cases fl with
   | ret obj =>
     obtain ⟨hT,hok,Si,gi,hsi⟩:=hnext _ _ hr
     have q5:=ft.init.lookup
     have q6:=ft.init.bind obj
     repeat (any_goals first | assumption | wp_step)
     refine codeAny_mono (codeAny_call_builtin ft.init.plain entryI (ft.init.check _ _ _ _ _ _ _ _ hT hok (gi prog w A.in1 _ s₁ hsi))) fun r₂ s₂ hr₂=>?_
     rcases r₂ with e | fl₂
     · exact hr₂
     · cases fl₂ with
       | ret r =>
         obtain ⟨rfl,hq⟩:=hr₂
         repeat (any_goals first | assumption | wp_step)
       | _=>exact hr₂.elim
   | _=>exact hr.elim
theorem Vm (a b:Value):checkTypeCall "enumerate" ⟨[a],[("start",b)]⟩=pure ():=by kernel_rfl
theorem Vp (a b:Value):checkBuiltinCall "enumerate.__new__" ⟨[.type "enumerate",a],[("start",b)]⟩=pure ():=by kernel_rfl
theorem ZaC (o a b:Value):argsOk "object.__init__" ⟨[o,a],[("start",b)]⟩:=by
 unfold argsOk
 rw [signature?_of (id:="object.__init__") (n:=['_','_','t','i','n','i','_','_']) (o:=['t','c','e','j','b','o']) (by kernel_rfl) F.owner_object]
 kernel_rfl
end
end L2
set_option maxHeartbeats 2000000
namespace L2
open PySem PySem.Spec PyProof.Rows
theorem Inv.turned2 {X:Cx}{pins:List (Addr×Obj)}{σ:St}{H:Hp}{s:Shared}{h':Heap}{t':Nat}{fp:List Addr}(I:Inv X pins σ H s)(k:∀ b o,b ∉ fp→s.heap.get? b=some o→h'.get? b=some o)(hf:∀ b∈fp,Yw X pins H b) :
   Inv X pins σ H { s with heap:=h',toks:=t' }:=by
 have nit:∀ b u,H b=some u→b ∉ fp:=fun b u e z=>by rw [(hf b z).1] at e;cases e
 refine I.step (g':=s.gens) (d':=s.drawn) (ch:=fp) (fun b hb=>?_) (fun b o _ _ hc e _=>k b o hc e) (fun b o _ _ hc e _=>⟨o.slots,k b o hc e⟩) (fun _ _ _ _ n=>n)
   (fun b o hc e=>⟨o,k b o hc e⟩) (fun _ _ e=>e) (fun _ _ _ e=>e) (fun b ps e=>⟨#[],by rw [e];simp⟩) (fun m hm=>?_) (fun b u e=>?_) I.bare
 · obtain ⟨f0,f1,f2,f3,f4,f5⟩:=hf b hb
   exact ⟨f3,f1,f4,f5⟩
 · obtain ⟨o,es,ep,ho,r⟩:=hm
   exact ⟨o,es,ep,k _ o (fun z=>(hf _ z).2.1 rfl) ho,r⟩
 · refine (I.hok b u e).stay (fun c v hc q=>k c v ?_ q) (fun _ q=>q) fun _ _ q=>q
   rcases hc with z | z
   · rw [z];exact nit b u e
   · exact nit c _ z
theorem Zaa {M:Model}{A:Around}{E:Value→Shared→Prop}{s:Shared}{pos:Pos}{T:String}{args:List (Bool×Sem Value)}{kws:List (Option Str×Sem Value)}{Q:Value→Shared→Prop}
   (h1:args.any (·.1)=false) (h2:kws.any (·.1.isNone)=false)
   (h:wpAny M A (evalArgs (.type T) true args kws) (fun a s₁=>wpAny M A (call (.type T) a.pos a.kw) Q E s₁) E s):wpAny M A (callWith pos (.type T) [] args kws) Q E s:=by
 unfold callWith
 refine wpAny_bind (wpAny_holding (Zn h fun a s₁ q=>wpAny_bind (wpAny_standAt ?_)))
 simp only [h1,h2,Bool.or_false]
 refine wpAny_bind (wpAny_pure (wpAny_bind (Zn q fun r s₂ hr=>?_)))
 exact wpAny_bind (wpAny_holding (wpAny_point (wpAny_pure hr)))
section
variable {X:Cx}
end
end L2
set_option maxHeartbeats 2000000
namespace L2
open PySem PySem.W PySem.Spec PyProof.Rows
section
variable {prog:Program}{w:World}{A:Around}{E:Value→Shared→Prop}{s:Shared}{a kS:Addr}{vs:List Value}{ks:List Str}{keys:Array Value}{e e1:Nat}{P:PySem.Fin→Shared→Prop}
end
end L2
set_option maxHeartbeats 2000000
namespace L2
open PySem PySem.W PySem.Spec PyProof.Rows
def Zbc (base:Heap)(mg:Str→Option Value):Prop:=∃ bm ob,mg "__builtins__"=some (.ref bm)∧bm≠builtinsNs∧base.get? bm=some ob∧ob.cls=.type "module"∧ob.dict=some builtinsNs∧ob.data=.plain
def Zeu (ts:List Addr)(H:Hp):Prop:=∀ b,H b=none∨(∃ o xs,H b=some (.frz o (.lst xs)))∨(H b=some (.tbl #[])∧b∈ts)
theorem Zgk {P:Program}{w:World}{K:PySem.W.Frag}{mg mb:Str→Option Value}{CX:Uv}{k:Nat}{fa a:Addr}{fd:FuncData}{x:Str}{sp:Sp}{s₁:Shared}{vs:List Value}{ns:List Int}{ts:List Addr}
   (KX:K.In s₁.heap) (hns:s₁.heap.Ns mainGlobals mg) (hb:s₁.heap.Ns builtinsNs mb) (hbb:∀ x:Str,x≠"__name__"→mb x=bootBuiltins x) (hlim:s₁.heap.NoLimit) (hg:s₁.gens=#[]) (hbm:Zbc s₁.heap mg)
   (ha:s₁.heap.get? a=some { cls:=.type "list",data:=.seq vs.toArray }) (hi:IntsAre vs ns) (hl:ns.length≤sizeLine) (hr:Room k callerA)
   (hts:∀ b∈ts,s₁.heap.get? b=some (tabObj #[])∧K.lookup b=none∧∃ c,CodeHd s₁.heap c b)
   (F:∀ base:Heap,K.In base→base.Ns mainGlobals mg→Zbc base mg→FnOk P w K mg base CX k fa fd [x] sp) (hbind:∀ (s:Shared) (u:Value),BindsTo s fd ⟨[u],[]⟩ [(x,u)])
   (hsp:∀ H:Hp,Zeu ts H→SqL K H a (ns.map V.int)→(∀ b∈ts,H b=some (.tbl #[]))→sp [.ref a] H (fun v _=>v=.bl true) fun _ _ _=>False)
   (hCX:∀ H e s',CX [] H s₁ (fun _ _ _=>False) e s'→False) :
   codeAny (model P w) callerA (.call (.ref fa) ⟨[.ref a],[]⟩) (fun r s'=>r=.ok (.ret (.bool true))∧OldK s₁.heap s'.heap∧s'.os=s₁.os∧AllBare s'.gens) s₁:=by
 have rv:=Zbt hi
 have lenV:=hi.length
 have nta:a ∉ ts:=fun z=>by
   have e:=(hts a z).1
   rw [ha] at e;cases e
 have core : ∀ H:Hp,Zeu ts H→SqL K H a (ns.map V.int)→HOk P w H s₁.heap→(∀ b∈ts,H b=some (.tbl #[]))→(∀ b,H b≠none→b=a∨b∈ts)→(∀ b,H b≠none→K.lookup b=none) →
     codeAny (model P w) callerA (.call (.ref fa) ⟨[.ref a],[]⟩) (fun r s'=>r=.ok (.ret (.bool true))∧OldK s₁.heap s'.heap∧s'.os=s₁.os∧AllBare s'.gens) s₁:=by
   intro H hO hS hok hT hA hK
   have base_of:∀ {b:Addr} {o:Obj},s₁.heap.get? b=some o→H b=none→(UD s₁.heap H).get? b=some o:=fun y n=>ZgJ y n
   have free:∀ {b:Addr} {o:Obj},s₁.heap.get? b=some o→(∀ its n,o.data≠.seq its n)→(∀ fs,o.data≠.fields fs)→H b=none:=fun {b o} y d1 d2=>by
     cases q:H b with
     | none=>rfl
     | some u =>
       rcases hA b (by rw [q];simp) with z | z
       · subst z
         rw [ha] at y;cases y
         exact absurd rfl (d1 _ _)
       · rw [(hts b z).1] at y;cases y
         exact absurd rfl (d2 _)
   have nsK:∀ {b:Addr} {m:Str→Option Value},s₁.heap.Ns b m→(UD s₁.heap H).Ns b m:=fun {b m} ⟨o,es,ep,y,d,r⟩=>⟨o,es,ep,base_of y (free y (fun its n z=>by rw [d] at z;cases z) fun fs z=>by rw [d] at z;cases z),d,r⟩
   have hKb:K.In (UD s₁.heap H):=fun b o y=>base_of (KX b o y) (by
     cases q:H b with
     | none=>rfl
     | some u=>rw [hK b (by rw [q];simp)] at y;cases y)
   have hBm:Zbc (UD s₁.heap H) mg:=by
     obtain ⟨bm,ob,h1,h2,h3,h4,h5,h6⟩:=hbm
     exact ⟨bm,ob,h1,h2,base_of h3 (free h3 (fun its n z=>by rw [h6] at z;cases z) fun fs z=>by rw [h6] at z;cases z),h4,h5,h6⟩
   have hM:Mod K mg (UD s₁.heap H):=⟨hKb,nsK hns,⟨mb,nsK hb,hbb⟩,let ⟨mc,h1,h2⟩:=hlim;⟨mc,nsK h1,h2⟩⟩
   have e0:Zcy P w K mg (UD s₁.heap H) callerA [] s₁ H:=⟨rfl,hM,fun b o e=>ZiL e,Nat.le_of_eq (Zgt _ _),trivial,fun b hb=>absurd (show b∈([]:List Addr) from hb) (by simp),hok,.of_eq hg⟩
   refine codeAny_mono ((F _ hKb (nsK hns) hBm).run callerA [] s₁ H ⟨[.ref a],[]⟩ [.ref a] [.ref a] _ _ hr e0 (hbind s₁ (.ref a)) (.cons rfl .nil) (hsp H hO hS hT)) fun r s' h=>?_
   cases r with
   | error e=>exact (hCX H e s' h).elim
   | ok fl =>
     cases fl with
     | next=>exact False.elim h
     | brk=>exact False.elim h
     | cont=>exact False.elim h
     | ret u =>
       obtain ⟨v,H',os,bare,un,hok',r',q⟩:=h
       have q':v=.bl true:=q
       subst q'
       obtain rfl:u=Value.bool true:=r'
       have key:∀ b o,s₁.heap.get? b=some o→s'.heap.get? b=some o∨(b∈ts∧∃ more:Array Value,s'.heap.get? b=some (tabObj (#[]++more))):=fun b o y=>by
         cases q:H b with
         | none=>exact .inl (un.keep b o y q (by intro z;exact absurd (show b∈([]:List Addr) from z) (by simp)) (by simp))
         | some u =>
           rcases hO b with z | ⟨ob,xs,z⟩ | ⟨z,zt⟩
           · rw [q] at z;cases z
           · have z2:=un.frzs b ob _ z
             obtain ⟨e1,_⟩:=hok b _ z
             obtain ⟨e2,_⟩:=hok' b _ z2
             rw [y] at e1;cases e1
             exact .inl e2
           · obtain ⟨more,z2⟩:=un.tbls b #[] z
             exact .inr ⟨zt,more,show s'.heap.get? b=some { cls:=.none,data:=.fields (#[]++more) } from hok' b _ z2⟩
       refine ⟨rfl,⟨fun b o y=>?_,fun b o y=>?_⟩,os,bare⟩
       · rcases key b o y with z | ⟨zt,more,z⟩
         · exact .inl z
         · obtain ⟨t1,_,c,t3⟩:=hts b zt
           rw [t1] at y;cases y
           exact .inr (.inl ⟨(t3.tab t1).isCodeTable,rfl,#[],more,rfl,z⟩)
       · rcases key b o y with z | ⟨zt,more,z⟩
         · exact ⟨_,z⟩
         · exact ⟨_,z⟩
 have okT:∀ (H:Hp) (b:Addr),b∈ts→ObjOk P w H s₁.heap b (.tbl #[]):=fun H b hb=>(hts b hb).1
 cases hk:K.lookup a with
 | some o =>
   have e:=KX a o hk
   rw [ha] at e
   cases e
   refine core (fun b=>if b∈ts then some (.tbl #[]) else none) (fun b=>?_) (.inr ⟨_,vs.toArray,_,hk,rfl,rfl,rfl,by rw [List.size_toArray,lenV];exact hl,by simpa using rv⟩) (fun b u z=>?_) (fun b hb=>if_pos hb) (fun b z=>?_) (fun b z=>?_)
   · by_cases hb:b∈ts
     · exact .inr (.inr ⟨if_pos hb,hb⟩)
     · exact .inl (if_neg hb)
   · by_cases hb:b∈ts
     · have z':=(if_pos hb).symm.trans z
       cases z'
       exact okT _ b hb
     · have z':=(if_neg hb).symm.trans z
       cases z'
   · by_cases hb:b∈ts
     · exact .inr hb
     · exact absurd (if_neg hb) z
   · by_cases hb:b∈ts
     · exact (hts b hb).2.1
     · exact absurd (if_neg hb) z
 | none =>
   refine core (fun b=>if b=a then some (.frz { cls:=.type "list",data:=.seq vs.toArray } (.lst (ns.map V.int))) else if b∈ts then some (.tbl #[]) else none) (fun b=>?_) (.inl (.inr ⟨{ cls:=.type "list",data:=.seq vs.toArray },if_pos rfl⟩)) (fun b u z=>?_)
     (fun b hb=>(if_neg (fun z:b=a=>nta (by rw [← z];exact hb))).trans (if_pos hb)) (fun b z=>?_) (fun b z=>?_)
   · by_cases h1:b=a
     · exact .inr (.inl ⟨_,_,if_pos h1⟩)
     · by_cases hb:b∈ts
       · exact .inr (.inr ⟨(if_neg h1).trans (if_pos hb),hb⟩)
       · exact .inl ((if_neg h1).trans (if_neg hb))
   · by_cases h1:b=a
     · have z':=(if_pos h1).symm.trans z
       cases z'
       subst h1
       exact ⟨ha,by rw [List.length_map];exact hl,vs,_,rv,ha⟩
     · have z1:=(if_neg h1).symm.trans z
       by_cases hb:b∈ts
       · have z':=(if_pos hb).symm.trans z1
         cases z'
         exact okT _ b hb
       · have z':=(if_neg hb).symm.trans z1
         cases z'
   · by_cases h1:b=a
     · exact .inl h1
     · by_cases hb:b∈ts
       · exact .inr hb
       · exact absurd ((if_neg h1).trans (if_neg hb)) z
   · by_cases h1:b=a
     · rw [h1];exact hk
     · by_cases hb:b∈ts
       · exact (hts b hb).2.1
       · exact absurd ((if_neg h1).trans (if_neg hb)) z
theorem walk_ofT {l:PySem.W.OpenLaw}{n k:Nat}{q:Program}{loose:List Str}{XP:(Str→Option Value)→Heap→Prop}{YP:World→Heap→Prop}{d:DefRec}{K:Params→PySem.W.Frag}{CX:World→Uv}{sp:World→Sp}{x:Str}{ts:List Addr}
   (hn:l.most=some n) (hn2:n≤sizeLine) (hdf:d.params.defaults=[]) (hr:Room k callerA)
   (hY:∀ (w:World) (h:Heap),YP w h→(K w.params).In h∧∀ b∈ts,h.get? b=some (tabObj #[]))
   (hK:∀ (w:World) (b:Addr),b∈ts→(K w.params).lookup b=none∧∃ c,codeHdIn (K w.params) c b=true)
   (F:∀ (w:World) (mg:Str→Option Value) (fa:Addr) (h:Heap),(K w.params).In h→h.Ns mainGlobals mg→mg d.name=some (.ref fa) →
     ∃ fd:FuncData,(∀ (s:Shared) (u:Value),BindsTo s fd ⟨[u],[]⟩ [(x,u)]) ∧
       ∀ base:Heap,(K w.params).In base→base.Ns mainGlobals mg→Zbc base mg→FnOk l.prog w (K w.params) mg base (CX w) k fa fd [x] (sp w))
   (hsp:∀ (w:World) (H:Hp) (a:Addr) (ns:List Int),ns.length≤n→Zeu ts H→SqL (K w.params) H a (ns.map V.int)→(∀ b∈ts,H b=some (.tbl #[]))→sp w [.ref a] H (fun v _=>v=.bl true) fun _ _ _=>False)
   (hCX:∀ (w:World) (H:Hp) (s:Shared) (e:Value) (s':Shared),CX w [] H s (fun _ _ _=>False) e s'→False) :
   PySem.W.WalkO q loose XP YP l.row.toRowW d [] (fun f vs=>PySem.call f vs):=by
 refine Att.attach_call hn hdf fun w s₀ s₁ mg mb fa o pm cd doc a vs ns G Y ho hd hcd hmg hobj hints hlen hg=>?_
 obtain ⟨KX,hT⟩:=hY w _ Y
 obtain ⟨fd,hb,hF⟩:=F w mg fa _ KX G.T.g hmg
 exact Zgk (ts:=ts) KX G.T.g G.T.b G.T.builtins G.T.nolimit hg G.T.bmain hobj hints (Nat.le_trans hlen hn2) hr (fun b hb'=>⟨hT b hb',(hK w b hb').1,let ⟨c,hc⟩:=(hK w b hb').2;⟨c,codeHd_of_K KX hc⟩⟩) hF hb (fun H hO hS hTb=>hsp w H a ns hlen hO hS hTb) fun H e s'=>hCX w H s₁ e s'
end L2
set_option maxHeartbeats 2000000
namespace L2
open PySem PySem.W PySem.Spec PyProof.Rows
section
variable {prog:Program}{w:World}{A:Around}{E:Value→Shared→Prop}{s:Shared}
end
section
variable {X:Cx}{pins:List (Addr×Obj)}{σ:List (Option V)}{H:Hp}{s:Shared}{h':Heap}
end
section
variable {X:Cx}
end
end L2
set_option maxHeartbeats 4000000
namespace L2
open PySem PySem.W PySem.Spec PyProof.Rows
section
variable {prog:Program}{w:World}{A:Around}{E:Value→Shared→Prop}{s:Shared}
end
section
variable {prog:Program}{w:World}{A:Around}{R:Result→Shared→Prop}
end
section
variable {prog:Program}{w:World}{A:Around}{E:Value→Shared→Prop}{s:Shared}
end
section
variable {X:Cx}
end
end L2
set_option maxHeartbeats 2000000
namespace L2
open PySem PySem.W PySem.Spec PyProof.Rows
section
variable {X:Cx}{pins:List (Addr×Obj)}{σ:List (Option V)}{H H':Hp}{s:Shared}{h':Heap}
end
section
variable {X:Cx}
end
end L2
set_option maxHeartbeats 2000000
namespace L2
open PySem PySem.W PySem.Spec PyProof.Rows
section
variable {O:KeyOrd}{key:Nat→O.α}{n:Nat}{s:Shared}{cmp:Nat→Nat→(Bool→Shared→Prop)→Shared→Prop}
end
end L2
set_option maxHeartbeats 2000000
namespace L2
open PySem PySem.W PySem.Spec PyProof.Rows
section
variable {P:Program}{w:World}{K:PySem.W.Frag}{mg:Str→Option Value}{base:Heap}
end
theorem ZaD {X:Cx}{st:Stmt}:PS X st (fun _ _ _=>False):=fun _ _ _ _ _ _ h=>h.elim
structure TF (H H':Hp):Prop where
 tup:∀ b xs,H b=some (.tup xs)→H' b=some (.tup xs)
 frz:∀ b o u,H b=some (.frz o u)→H' b=some (.frz o u)
theorem TF.trans {H H1 H2:Hp}(a:TF H H1)(b:TF H1 H2):TF H H2:=⟨fun x xs h=>b.tup x xs (a.tup x xs h),fun x o u h=>b.frz x o u (a.frz x o u h)⟩
theorem Same.tf {H H':Hp}(h:Same H H'):TF H H':=⟨fun b _ e=>h b _ e,fun b _ _ e=>h b _ e⟩
theorem Zgl {H:Hp}{l:Addr}{xs:List V}{o:HO}(h:H l=some (.lst xs)):TF H (upd H l o) :=
 ⟨fun b _ y=>by rw [Zo (fun z=>by rw [z,h] at y;cases y)];exact y,fun b _ _ y=>by rw [Zo (fun z=>by rw [z,h] at y;cases y)];exact y⟩
theorem UN {H:Hp}{l:Addr}{xs:List (ZU×V)}{o:HO}(h:H l=some (.dK xs)):TF H (upd H l o) :=
 ⟨fun b _ y=>by rw [Zo (fun z=>by rw [z,h] at y;cases y)];exact y,fun b _ _ y=>by rw [Zo (fun z=>by rw [z,h] at y;cases y)];exact y⟩
theorem SqT.tf {K:PySem.W.Frag}{H H':Hp}{a:Addr}{xs:List V}(h:SqT K H a xs)(t:TF H H'):SqT K H' a xs:=by
 rcases h with (h | ⟨o,h⟩) | h
 · exact .inl (.inl (t.tup _ _ h))
 · exact .inl (.inr ⟨o,t.frz _ _ _ h⟩)
 · exact .inr h
end L2
set_option maxHeartbeats 2000000
namespace L2
open PySem
def ZbX (J:It)(tc:TT)(te:TE)(σ:St)(D:Addr)(Q:VK)(H1:Hp):Prop :=
 ∃ W : Nat→Nat→List V→Hp→Prop,(∃ m,W 0 m [] (upd H1 D (.lst [])))∧∀ i m ys H2,W i m ys H2 →
   (J.stop i H2∧Q (.ref D) H2)∨(J.go i H2∧∃ (N:VK) (M:Hp→Prop),(∀ y H4,N y H4→H4 D=some (.lst ys)∧ys.length < sizeLine∧∃ m',m' < m∧W (i+1) m' (ys++[y]) (upd H4 D (.lst (ys++[y]))))∧(∀ H4,M H4→∃ m',m' < m∧W (i+1) m' ys H4) ∧
     ∀ v H3,J.yld i H2 v H3→tc (σ++[some v]) H3 fun b H4=>if b=true then te (σ++[some v]) H4 N else M H4)
def Zfu (wi:TI)(tc:TT)(te:TE):TE:=fun σ H Q=>wi σ H fun J H1=>∀ D,H1 D=none→ZbX J tc te σ D Q H1
section
variable {X:Cx}{elt iter cnd:Expr}{x:Str}{px pos:Pos}{scope:Scope}{wi:TI}{te:TE}{tc:TT}
theorem UU {prog:Program}{w:World}{A:Around}{R:Result→Shared→Prop}{s:Shared}{elt target iter cnd:Expr}{scope:Scope}{pos:Pos}{it acc:Value}{env:Env}(I:Nat→Shared→Prop)
   (turn : ∀ n s,I n s→wpAny (model prog w) A (pyNext it) (fun r s₁=>match r with
     | none=>R (.ok .next) s₁
     | some v=>wpAny (model prog w) A (letOwnedTupleGo target it v) (fun _ s1'=>wpAny (model prog w) A (assign target env v) (fun _ s₂=>wpAny (model prog w) A (isTrue cnd env (eval cnd env)) (fun ok s2'=>if ok=true then wpAny (model prog w) A (eval elt env) (fun x s₃ =>
         wpAny (model prog w) A (call (.builtin "list.append") [acc,x]) (fun _ s₄=>∃ m,m < n∧I m s₄) (fun _ _=>False) s₃)
         (fun _ _=>False) s2' else ∃ m,m < n∧I m s2') (fun _ _=>False) s₂) (fun _ _=>False) s1') (fun _ _=>False) s₁) (fun _ _=>False) s)
   (n:Nat) (h:I n s) :
   codeAny (model prog w) A (.compLoop (.ListComp elt [⟨target,iter,[cnd],0⟩] scope pos) 0 it acc env) R s:=by
 refine codeAny_loop rfl I (fun n s hI=>?_) n h
 show wpAny _ _ ((compTurn (.ListComp elt [⟨target,iter,[cnd],0⟩] scope pos) 0 it acc env).onRaise (fun x=>do noteFrame x env;theTreesLotGoes x)) _ _ s
 refine wpAny_noted ?_
 rw [compTurn_list]
 refine wpAny_bind (wpAny_standAt (wpAny_bind (wpAny_mono (turn n s hI) (fun r s₁ h₁=>?_) fun _ _ h'=>h'.elim)))
 cases r with
 | none=>exact wpAny_pure h₁
 | some v =>
   refine wpAny_bind (wpAny_mono h₁ (fun _ s1' h1'=>?_) fun _ _ h'=>h'.elim)
   refine wpAny_bind (wpAny_mono h1' (fun _ s₂ h₂=>wpAny_bind (wpAny_tests_one (wpAny_mono h₂ (fun ok s₃ h₃=>?_) fun _ _ h'=>h'.elim))) fun _ _ h'=>h'.elim)
   cases ok with
   | false=>exact wpAny_pure ⟨rfl,h₃⟩
   | true =>
     exact wpAny_bind (wpAny_bind (wpAny_mono h₃ (fun x s₄ h₄=>wpAny_bind (wpAny_mono h₄ (fun _ s₅ h₅=>wpAny_pure (wpAny_pure ⟨rfl,h₅⟩)) fun _ _ h'=>h'.elim)) fun _ _ h'=>h'.elim))
theorem VS {pins:List (Addr×Obj)}{σ:St}{H2:Hp}{s₂:Shared}{J:It}{fp:List Addr}{it:Addr}{tn:Nat→Heap→Prop}{cl:List (Str×Addr)}{E:Value→Shared→Prop}{Q:VK}{RR:Value→Addr→Result→Shared→Prop}
   (O:CompOk X scope x) (hc:X.calm=true) (cl1:∀ y c,cl.lookup y=some c→X.env.cells.lookup y=some c) (cl2:∀ y∈scope.names,y.2=.free→cl.lookup y.1≠none)
   (hcn:∀ cl C s₀ H₀ fp,PT (ZR X scope x cl C s₀ H₀ fp) cnd tc) (he:∀ cl C s₀ H₀ fp,PE (ZR X scope x cl C s₀ H₀ fp) elt te)
   (I2:Inv X pins σ H2 s₂) (T:Wx X.prog X.w X.K (.Name x px) J fp it tn) (st:tn 0 s₂.heap) (f2:∀ b∈fp,Yw X pins H2 b)
   (h:∀ D,H2 D=none→ZbX J tc te σ D Q H2)
   (hRR:∀ D C H' s',Inv X pins σ H' s'→Yw X pins H' C→(∃ m,s'.heap.Ns C m)→Q (.ref D) H'→RR (.ref D) C (.ok .next) s') :
   wpAny (model X.prog X.w) X.A (newList []) (fun acc s₃=>wpAny (model X.prog X.w) X.A (newFunctionEnv scope X.env.globals cl [] X.env.qual none .none (some X.env)) (fun cenv s₄ =>
     codeAny (model X.prog X.w) X.A (.compStart (.ListComp elt [⟨.Name x px,iter,[cnd],0⟩] scope pos) 0 (.ref it) acc { cenv with scope:=relabel scope X.env }) (RR acc cenv.locals) s₄) E s₃) E s₂:=by
 have hD:H2 s₂.heap.objs.size=none:=I2.hok.fresh (Nat.le_refl _)
 refine wpAny_newObj_type ?_
 have I3:Inv X pins σ (upd H2 s₂.heap.objs.size (.lst [])) { s₂ with heap:=s₂.heap.push { cls:=.type "list",data:=.seq ([]:List Value).toArray } } :=
   I2.laid (t':=s₂.toks) (fun b u e=>Heap.get?_push_of_some _ e) (Nat.le_refl _) ⟨Nat.zero_le _,[],_,.nil,Heap.get?_push_size _ rfl⟩
 have f3:∀ b∈fp,Yw X pins (upd H2 s₂.heap.objs.size (.lst [])) b:=fun b hb=>by
   obtain ⟨g0,g1⟩:=f2 b hb
   obtain ⟨o,e,_⟩:=T.obj 0 _ st b hb
   exact ⟨by rw [Zo (Nat.ne_of_lt (Heap.lt_size e))];exact g0,g1⟩
 have st3:tn 0 (s₂.heap.push { cls:=.type "list",data:=.seq ([]:List Value).toArray }):=T.keep _ _ _ st fun b hb o e=>Heap.get?_push_of_some _ e
 obtain ⟨W,⟨m0,w0⟩,turn⟩:=h _ hD
 generalize hDe:s₂.heap.objs.size=D at I3 f3 w0 turn ⊢
 generalize hH3:upd H2 D (.lst [])=H3 at I3 f3 w0 turn ⊢
 generalize hs3:({ s₂ with heap:=s₂.heap.push { cls:=.type "list",data:=.seq ([]:List Value).toArray } }:Shared)=s₃ at I3
 have st3':tn 0 s₃.heap:=by rw [← hs3];exact st3
 have hobj:∀ b∈fp,b < s₃.heap.objs.size:=fun b hb=>by
   obtain ⟨o,e,_⟩:=T.obj 0 _ st3' b hb
   exact Heap.lt_size e
 refine wpAny_newFunctionEnv O.cell (by intro y hy;simp at hy) (fun h₁ hns₁ hsb₁=>?_) O.kind
 have old:∀ b o,s₃.heap.get? b=some o→h₁.get? b=some o:=fun b o e=>hsb₁.extBut b o (Nat.ne_of_lt (Heap.lt_size e)) (Heap.get?_push_of_some _ e)
 generalize hs4:({ s₃ with heap:=h₁,toks:=s₃.toks+([]:List (Str×Value)).length }:Shared)=s₄
 have h4:s₄.heap=h₁:=by rw [← hs4]
 have hX:∀ C,Yw X pins C s₃.heap.objs.size→True:=fun _ _=>trivial
 have ok':(ZR X scope x cl s₃.heap.objs.size s₃ H3 fp).Ok:=by
   refine ⟨I3.ok.mod,O.kind,I3.ok.glob,I3.ok.blt,Nat.le_refl _,?_,?_,?_,I3.ok.hd,I3.ok.frames,.inl rfl,?_,I3.bs,Nat.le_trans I3.ok.bsz I3.sz,?_,?_,I3.stack,I3.stkFree⟩
   · exact fun y z c e1 e2=>I3.ok.inj y z c (cl1 y c e1) (cl1 z c e2)
   · intro y hk
     have hf:scope.names.lookup y=some .free:=by
       rcases hk with hk | hk
       · rcases Zt O.cell hk with q | q
         · exact absurd rfl (O.cell _ (mem_of_lookup q))
         · exact q.1
       · rcases Zt O.cell hk with q | q
         · exact q
         · cases q.2
     have:=cl2 _ (mem_of_lookup hf) rfl
     cases e:cl.lookup y with
     | none=>exact absurd e this
     | some c=>exact ⟨c,e⟩
   · intro y c hf;cases hf
   · intro b hb
     obtain ⟨g0,g1,g2,g3,g4,g5⟩:=f3 b hb
     exact ⟨Nat.ne_of_lt (hobj b hb),fun y c e=>g4 y c (cl1 y c e)⟩
   · intro b o e hb
     obtain ⟨g0,g1,g2,g3,g4,g5⟩:=f3 b hb
     rcases g3 with g3 | g3
     · exact I3.ok.noex b o e g3
     · exact absurd (Heap.lt_size e) (Nat.not_lt.mpr (Nat.le_trans I3.ok.bsz g3))
   · intro b hb hs
     obtain ⟨g0,g1,g2,g3,g4,g5⟩:=f3 b hb
     rcases List.mem_cons.mp (I3.stkSub b hs) with e | e
     · exact g1 e
     · exact g2 e
 have I4 : Inv (ZR X scope x cl s₃.heap.objs.size s₃ H3 fp) [] (σ++[none]) H3 s₄:=by
   obtain ⟨m,hm,hl⟩:=I3.loc
   refine ⟨ok',by rw [← hs4];rfl,by rw [← hs4];exact I3.bare,by rw [h4];exact Un.kept old,⟨_,by rw [h4];exact hns₁,?_⟩,?_,I3.hok.fresh (Nat.le_refl _),fun y c e=>I3.freeC y c (cl1 y c e),?_,by rw [h4];exact I3.hok.kept old,?_⟩
   · intro i y v e1 e2 e3
     have hlt:i < σ.length:=by
       rcases Nat.lt_or_ge i σ.length with z | z
       · exact z
       · rw [List.getElem?_append_right z] at e2
         cases e:i - σ.length with
         | zero=>rw [e] at e2;simp at e2
         | succ k=>rw [e] at e2;simp at e2
     rw [List.getElem?_append_left hlt] at e2
     have hsm:∃ k,scope.names.lookup y=some k:=by
       rcases e3 with hk | hk | hk
       · rcases Zt O.cell hk with q | q
         · exact ⟨_,q⟩
         · exact ⟨_,q.1⟩
       · rcases Zt O.cell hk with q | q
         · exact ⟨_,q⟩
         · exact ⟨_,q.1⟩
       · rcases Zt O.cell hk with q | q
         · exact ⟨_,q⟩
         · exact ⟨_,q.1⟩
     obtain ⟨e1',hyx⟩:X.N[i]?=some y∧y≠x:=by
       have e1:(Uy X.N x++[x])[i]?=some y:=e1
       rw [List.getElem?_append_left (by rw [XY,← I3.len];exact hlt)] at e1
       rcases VH e1 with z | z
       · exact z
       · obtain ⟨k,hk⟩:=hsm
         rw [z,O.noh] at hk;cases hk
     have hy:y∈X.N:=List.mem_of_getElem? e1'
     have hf:scope.names.lookup y=some .free:=by
       rcases e3 with hk | hk | hk
       · rcases Zt O.cell hk with q | q
         · exact absurd q (O.own y hy hyx)
         · exact q.1
       · rcases Zt O.cell hk with q | q
         · exact absurd rfl (O.cell _ (mem_of_lookup q))
         · exact q.1
       · rcases Zt O.cell hk with q | q
         · exact q
         · exact q.1
     have hk:=O.clos _ (mem_of_lookup hf) rfl
     have hv:Vis X.env.scope y:=by rcases hk with z | z;exact .inr (.inl z);exact .inr (.inr z)
     obtain ⟨u,ru,lu⟩:=hl i y v e1' e2 hv
     refine ⟨u,ru,?_⟩
     have hkc:(compEnvC scope cl s₃.heap.objs.size X.env).kindOf y=some .cell∨(compEnvC scope cl s₃.heap.objs.size X.env).kindOf y=some .free:=by
       rcases e3 with q | q | q
       · rcases Zt O.cell q with z | z
         · exact absurd z (O.own y hy hyx)
         · cases z.2
       · exact .inl q
       · exact .inr q
     rcases lu with ⟨q,_⟩ | ⟨_,c,hcl,hcc⟩
     · rcases hk with z | z<;>(rw [q] at z;cases z)
     · refine .inr ⟨hkc,?_⟩
       cases e:cl.lookup y with
       | none=>exact absurd e (cl2 _ (mem_of_lookup hf) rfl)
       | some c' =>
         have:=cl1 y c' e
         rw [hcl] at this
         cases this
         refine ⟨c,e,?_⟩
         rw [h4]
         obtain ⟨oc,ho,hd⟩:=hcc
         exact ⟨oc,old _ _ ho,hd⟩
   · intro y c e
     obtain ⟨v,oc,ho,hd⟩:=I3.cell y c (cl1 y c e)
     exact ⟨v,oc,by rw [h4];exact old _ _ ho,hd⟩
   · intro p hp;cases hp
   · show (σ++[none]).length=(Uy X.N x++[x]).length
     rw [List.length_append,List.length_append,XY,I3.len];rfl
 have st4:tn 0 s₄.heap:=by rw [h4];exact T.keep _ _ _ st3' fun b hb o e=>old b o e
 have fpok:∀ {H':Hp},(∀ b∈fp,H' b=none)→∀ b∈fp,Yw (ZR X scope x cl s₃.heap.objs.size s₃ H3 fp) [] H' b:=fun hn b hb=>by
   obtain ⟨g0,g1,g2,g3,g4,g5⟩:=f3 b hb
   refine ⟨hn b hb,Nat.ne_of_lt (hobj b hb),ok'.exfs b hb,.inl hb,fun y c e=>g4 y c (cl1 y c e),?_⟩
   intro p hp;cases hp
 have loop:codeAny (model X.prog X.w) X.A (.compLoop (.ListComp elt [⟨.Name x px,iter,[cnd],0⟩] scope pos) 0 (.ref it) (.ref D) (compEnvC scope cl s₃.heap.objs.size X.env)) (RR (.ref D) s₃.heap.objs.size) s₄:=by
   refine UU (fun n s'=>∃ i ys w' H',Inv (ZR X scope x cl s₃.heap.objs.size s₃ H3 fp) [] (σ++[w']) H' s'∧tn i s'.heap∧(∀ b∈fp,H' b=none)∧W i n ys H') ?_ m0 ⟨0,[],none,H3,I4,st4,fun b hb=>(f3 b hb).1,w0⟩
   rintro n s5 ⟨i,ys,w',H5,I5,st5,fr5,w5⟩
   rcases turn i n ys H5 w5 with ⟨stop,q⟩ | ⟨go,N,M,hN,hM,step⟩
   · refine Zn (T.done (ZR X scope x cl s₃.heap.objs.size s₃ H3 fp) rfl rfl rfl hc i [] s5 _ H5 _ I5 (fpok fr5) st5 stop) fun r s6 ⟨hr,I6⟩=>?_
     subst hr
     obtain ⟨m6,hn6,_⟩:=I6.loc
     have IX:Inv X pins σ H5 s6:=I3.call' (ch:=fp) I6.os I6.base I6.hok I6.bare fun b hb=>by
       obtain ⟨g0,g1,g2,g3,g4,g5⟩:=f3 b hb
       exact ⟨g3,g1,g4,g5⟩
     exact hRR D _ H5 s6 IX (I3.fpOk (Nat.le_refl _) I6.free) ⟨m6,hn6⟩ q
   · refine Zn (T.item (ZR X scope x cl s₃.heap.objs.size s₃ H3 fp) rfl rfl rfl hc i [] s5 _ H5 _ I5 (fpok fr5) st5 go) fun r s6 ⟨u,hr,h6⟩=>?_
     subst hr
     refine Zn h6 fun _ s7 ⟨v,H7,I7,r7,y7,st7,fr7⟩=>?_
     have I7':=I7.pinned (fpok fr7) (T.obj _ _ st7)
     have hixN:(ZR X scope x cl s₃.heap.objs.size s₃ H3 fp).N[σ.length]?=some x:=by
       show (Uy X.N x++[x])[σ.length]?=some x
       rw [I3.len,← XY X.N x];simp
     refine Zn (Zw (X:=ZR X scope x cl s₃.heap.objs.size s₃ H3 fp) (pos:=px) O.nd hixN (.inl (lookup_relabel_local O.loc)) (.inr (lookup_relabel_local O.loc)) _ s7 _ H7 v u (fun σ' H'=>σ'=σ++[some v]∧H'=H7) I7' r7 ⟨by simp,rfl⟩) fun _ s8 ⟨σ8,H8,I8,e8,e8'⟩=>?_
     subst e8 e8'
     refine Zn (hcn cl s₃.heap.objs.size s₃ H3 fp _ s8 _ H8 _ I8 (step v H8 y7)) fun bb s8b ⟨H8b,I8b,q8b⟩=>?_
     cases bb with
     | false =>
       obtain ⟨m',hm',w9⟩:=hM H8b q8b
       refine ⟨m',hm',i+1,ys,some v,_,I8b.unpinned (pins:=[]),T.keep _ _ _ st7 fun b hb o e=>(I8b.pin (b,o) (List.mem_append_right _ (List.mem_append_right _ (YE hb e)))).1,fun b hb=>?_,w9⟩
       obtain ⟨o,e,d⟩:=T.obj _ _ st7 b hb
       exact (I8b.pin (b,o) (List.mem_append_right _ (List.mem_append_right _ (YE hb e)))).2.1
     | true =>
       refine Zn (he cl s₃.heap.objs.size s₃ H3 fp _ s8b _ H8b _ I8b q8b) fun uy s9 ⟨y,H9,I9,r9,n9⟩=>?_
       obtain ⟨hl9,hz9,m',hm',w9⟩:=hN y H9 n9
       refine Zn (Yd (X:=ZR X scope x cl s₃.heap.objs.size s₃ H3 fp) _ s9 _ H9 (.ref D) [y] (.ref D) [uy] (fun v H'=>H'=upd H9 D (.lst (ys++[y]))) I9 rfl (.cons r9 .nil) ⟨D,ys,y,rfl,rfl,hl9,hz9,rfl⟩) fun _ s10 ⟨_,H10,I10,_,e10⟩=>?_
       subst e10
       refine ⟨m',hm',i+1,ys++[y],some v,_,I10.unpinned (pins:=[]),T.keep _ _ _ st7 fun b hb o e=>(I10.pin (b,o) (List.mem_append_right _ (List.mem_append_right _ (YE hb e)))).1,fun b hb=>?_,w9⟩
       obtain ⟨o,e,d⟩:=T.obj _ _ st7 b hb
       exact (I10.pin (b,o) (List.mem_append_right _ (List.mem_append_right _ (YE hb e)))).2.1
 exact codeAny_compStart_list loop (T.self _ 0 _ _ _ st4 loop)
theorem ZcN (O:CompOk X scope x)(hc:X.calm=true)(hi:PI X (.Name x px) iter wi)(hcn:∀ cl C s₀ H₀ fp,PT (ZR X scope x cl C s₀ H₀ fp) cnd tc)(he:∀ cl C s₀ H₀ fp,PE (ZR X scope x cl C s₀ H₀ fp) elt te)
   (hs:∀ v,foldedSetIterable iter X.env v=pure v:=by intro _;rfl):PE X (.ListComp elt [⟨.Name x px,iter,[cnd],0⟩] scope pos) (Zfu wi tc te):=by
 intro pins s σ H Q I h
 obtain ⟨cl,hcl,cl1,cl2⟩:=XG (scope:=scope) (env:=X.env) fun y hy hf=>I.ok.has _ (O.clos y hy hf)
 rw [eval_ListComp]
 refine wpAny_comprehension_free (use:=none) rfl hs hcl O.kind O.names (Zn (hi pins s σ H _ I h) fun v s1 h1=>Zn h1 fun itv s2 h2=>?_)
 obtain ⟨it,fp,tn,J,H2,e,I2,T,st2,f2,q⟩:=h2
 subst e
 refine VS (RR:=fun acc C=>compPost (model X.prog X.w) X.A X.xe none (EP X pins σ Q) acc C) O hc cl1 cl2 hcn he I2 T st2 f2 q ?_
 intro D C H' s' I' ⟨g0,g1,g2,g3,g4,g5⟩ ⟨m,hm⟩ hq
 exact ⟨m,hm,fun h' hs'=>⟨.ref D,H',I'.turned (t':=s'.toks) (fun b o hb e=>(hs'.2 b hb).trans e) g0 g1 g3 g4 g5,rfl,hq⟩⟩
theorem Zdd {i:Nat}{y:Str}{py spos:Pos}(O:CompOk X scope x)(hc:X.calm=true)(hN:X.N.Nodup)(hiN:X.N[i]?=some y)(hy:Loc X.env.scope y)(hi:PI X (.Name x px) iter wi)(hcn:∀ cl C s₀ H₀ fp,PT (ZR X scope x cl C s₀ H₀ fp) cnd tc)(he:∀ cl C s₀ H₀ fp,PE (ZR X scope x cl C s₀ H₀ fp) elt te)
   (hsw:swapsWith (.ListComp elt [⟨.Name x px,iter,[cnd],0⟩] scope pos) (some (.Name y py)) spos.line X.env=pure true) (hf:X.fn y=true∨X.env.scope.names.lookup y=some .local:=by first | exact .inl rfl | exact .inr rfl | assumption)
   (hs:∀ v,foldedSetIterable iter X.env v=pure v:=by intro _;rfl):PS X (.Assign [.Name y py] (.ListComp elt [⟨.Name x px,iter,[cnd],0⟩] scope pos) spos) (ZaS (Zfu wi tc te) (VD i)):=by
 intro pins s σ H D I h
 obtain ⟨cl,hcl,cl1,cl2⟩:=XG (scope:=scope) (env:=X.env) fun y hy hf=>I.ok.has _ (O.clos y hy hf)
 rw [exec_Assign_Name_used _ _ _ _ hsw]
 refine wpAny_bind (wpAny_standAt (wpAny_bind ?_))
 show wpAny _ X.A (do let _ ← comprehension (.ListComp elt [⟨.Name x px,iter,[cnd],0⟩] scope pos) scope X.env _ (newList []) false (eval iter X.env) (some (assign (.Name y py) X.env))) _ _ s
 refine wpAny_bind (wpAny_mono (wpAny_comprehension_free (use:=some (assign (.Name y py) X.env)) (Q:=fun _ s'=>SP X pins D .next s') rfl hs hcl O.kind O.names
   (Zn (hi pins s σ H _ I h) fun v s1 h1=>Zn h1 fun itv s2 h2=>?_)) (fun _ s' hq=>wpAny_pure (wpAny_pure hq)) fun _ _ e=>e)
 obtain ⟨it,fp,tn,J,H2,e,I2,T,st2,f2,q⟩:=h2
 subst e
 refine VS (RR:=fun acc C=>compPost (model X.prog X.w) X.A X.xe (some (assign (.Name y py) X.env)) (fun _ s'=>SP X pins D .next s') acc C) O hc cl1 cl2 hcn he I2 T st2 f2 q ?_
 intro Dl C H' s' I' ⟨g0,g1,g2,g3,g4,g5⟩ ⟨m,hm⟩ hq
 show wpAny _ X.A (assign (.Name y py) X.env (.ref Dl)) _ _ _
 refine wpAny_assign_Name (Uz I' hN hiN hy (v:=.ref Dl) rfl (fun s'' I'' ⟨a,sb,ha⟩=>?_) hf)
 have haC:C≠a:=by
   rcases ha with z | z
   · rw [z];exact g1
   · exact fun z'=>g4 y a z z'.symm
 exact ⟨m,hm.sameBut sb haC,fun h' hs'=>⟨_,H',I''.turned (t':=s''.toks) (fun b o hb e=>(hs'.2 b hb).trans e) g0 g1 g3 g4 g5,hq⟩⟩
end
theorem ZbK {K:PySem.W.Frag}{a:Addr}{xs:List V}{tc:TT}{te:TE}{σ:St}{D:Addr}{Q:VK}{H:Hp}(hn:xs.length≤sizeLine)(Pv:Nat→List V→Hp→Prop)(h0:Pv 0 [] (upd H D (.lst [])))
   (hl:∀ i ys H,Pv i ys H→ys.length≤i∧SqT K H a xs)
   (hs:∀ i x ys H,xs[i]?=some x→Pv i ys H→tc (σ++[some x]) H fun b H3=>if b=true then te (σ++[some x]) H3 fun y H4=>H4 D=some (.lst ys)∧Pv (i+1) (ys++[y]) (upd H4 D (.lst (ys++[y]))) else Pv (i+1) ys H3) (hd:∀ ys H,Pv xs.length ys H→Q (.ref D) H):ZbX (Itt K a) tc te σ D Q H:=by
 refine ⟨fun i m ys H=>m=xs.length - i∧i≤xs.length∧Pv i ys H,⟨xs.length,by simp,Nat.zero_le _,h0⟩,?_⟩
 rintro i m ys H2 ⟨rfl,hi,p⟩
 obtain ⟨hlen,q⟩:=hl i ys _ p
 by_cases hlt:i < xs.length
 · refine .inr ⟨⟨xs,xs[i],q,by simp [hlt]⟩,_,_,fun y H4 (q:H4 D=some (.lst ys)∧Pv (i+1) (ys++[y]) (upd H4 D (.lst (ys++[y]))))=>⟨q.1,by omega,xs.length - (i+1),by omega,rfl,hlt,q.2⟩,fun H4 (q:Pv (i+1) ys H4)=>⟨xs.length - (i+1),by omega,rfl,hlt,q⟩,fun v H3 y=>?_⟩
   obtain ⟨e,y⟩:=y
   subst e
   exact hs i v ys _ (y xs q) p
 · have e:i=xs.length:=by omega
   subst e
   exact .inl ⟨⟨xs,q,Nat.le_refl _⟩,hd ys H2 p⟩
theorem Zez {K:PySem.W.Frag}{a:Addr}{xs:List V}{tc:TT}{te:TE}{σ:St}{D:Addr}{Q:VK}{H:Hp}(hn:xs.length≤sizeLine)(Pv:Nat→List V→Hp→Prop)(h0:Pv 0 [] (upd H D (.lst [])))
   (hl:∀ i ys H,Pv i ys H→ys.length≤i∧SqL K H a xs)
   (hs:∀ i x ys H,xs[i]?=some x→Pv i ys H→tc (σ++[some x]) H fun b H3=>if b=true then te (σ++[some x]) H3 fun y H4=>H4 D=some (.lst ys)∧Pv (i+1) (ys++[y]) (upd H4 D (.lst (ys++[y]))) else Pv (i+1) ys H3) (hd:∀ ys H,Pv xs.length ys H→Q (.ref D) H):ZbX (Itl K a) tc te σ D Q H:=by
 refine ⟨fun i m ys H=>m=xs.length - i∧i≤xs.length∧Pv i ys H,⟨xs.length,by simp,Nat.zero_le _,h0⟩,?_⟩
 rintro i m ys H2 ⟨rfl,hi,p⟩
 obtain ⟨hlen,q⟩:=hl i ys _ p
 by_cases hlt:i < xs.length
 · refine .inr ⟨⟨xs,xs[i],q,by simp [hlt]⟩,_,_,fun y H4 (q:H4 D=some (.lst ys)∧Pv (i+1) (ys++[y]) (upd H4 D (.lst (ys++[y]))))=>⟨q.1,by omega,xs.length - (i+1),by omega,rfl,hlt,q.2⟩,fun H4 (q:Pv (i+1) ys H4)=>⟨xs.length - (i+1),by omega,rfl,hlt,q⟩,fun v H3 y=>?_⟩
   obtain ⟨e,y⟩:=y
   subst e
   exact hs i v ys _ (y xs q) p
 · have e:i=xs.length:=by omega
   subst e
   exact .inl ⟨⟨xs,q,Nat.le_refl _⟩,hd ys H2 p⟩
end L2
set_option maxHeartbeats 2000000
namespace L2
open PySem PySem.Spec PyProof.Rows
def Wl (N:List Str)(xa xb:Str):List Str:=Uy (Uy N xa) xb
theorem ZcZ (N:List Str)(xa xb:Str):(Wl N xa xb).length=N.length:=by unfold Wl;rw [XY,XY]
theorem Zhn {N:List Str}{xa xb y:Str}{i:Nat}(h:(Wl N xa xb)[i]?=some y):(N[i]?=some y∧¬ (y=xa∨y=xb))∨y="":=by
 rcases VH h with ⟨h1,h2⟩ | h1
 · rcases VH h1 with ⟨h3,h4⟩ | h3
   · exact .inl ⟨h3,fun z=>z.elim h4 h2⟩
   · exact .inr h3
 · exact .inr h1
def YS (X:Cx)(scope:Scope)(xa xb:Str)(cl:List (Str×Addr))(C:Addr)(s₀:Shared)(H₀:Hp)(fp:List Addr):Cx:={ ZR X scope xa cl C s₀ H₀ fp with N:=Wl X.N xa xb++[xa,xb] }
structure CompOkT (X:Cx)(scope:Scope)(xa xb:Str):Prop where
 nd:(Wl X.N xa xb++[xa,xb]).Nodup
 clos:∀ y∈scope.names,y.2=.free→X.env.kindOf y.1=some .cell∨X.env.kindOf y.1=some .free
 cell:∀ y∈scope.names,y.2≠.cell
 kind:scope.kind=.function
 names:∀ y∈scope.names,y.2=.local→scope.names.lookup y.1=some .local
 own:∀ y∈X.N,¬ (y=xa∨y=xb)→scope.names.lookup y≠some .local
 noh:scope.names.lookup ("":Str)=none
def ZaH (J:It)(g:TG)(te:TE)(σ:St)(D:Addr)(Q:VK)(H1:Hp):Prop :=
 ∃ W:Nat→Nat→List V→Hp→Prop,(∃ m,W 0 m [] (upd H1 D (.lst [])))∧∀ i m ys H2,W i m ys H2 →
   (J.stop i H2∧Q (.ref D) H2)∨(J.go i H2∧∃ N:VK,(∀ y H4,N y H4→H4 D=some (.lst ys)∧ys.length < sizeLine∧∃ m',m' < m∧W (i+1) m' (ys++[y]) (upd H4 D (.lst (ys++[y]))))∧∀ wa wb v H3,J.yld i H2 v H3→g v (σ++[wa,wb]) H3 fun σ' H'=>(∃ wa wb,σ'=σ++[wa,wb])∧te σ' H' N)
def Zfy (wi:TI)(g:TG)(te:TE):TE:=fun σ H Q=>wi σ H fun J H1=>∀ D,H1 D=none→ZaH J g te σ D Q H1
section
variable {X:Cx}{elt iter tg:Expr}{xa xb:Str}{pos:Pos}{scope:Scope}{wi:TI}{te:TE}{g:TG}
theorem VT {pins:List (Addr×Obj)}{σ:St}{H2:Hp}{s₂:Shared}{J:It}{fp:List Addr}{it:Addr}{tn:Nat→Heap→Prop}{cl:List (Str×Addr)}{E:Value→Shared→Prop}{Q:VK}{RR:Value→Addr→Result→Shared→Prop}
   (O:CompOkT X scope xa xb) (hc:X.calm=true) (cl1:∀ y c,cl.lookup y=some c→X.env.cells.lookup y=some c) (cl2:∀ y∈scope.names,y.2=.free→cl.lookup y.1≠none)
   (hg:∀ cl C s₀ H₀ fp,PG (YS X scope xa xb cl C s₀ H₀ fp) tg g) (he:∀ cl C s₀ H₀ fp,PE (YS X scope xa xb cl C s₀ H₀ fp) elt te)
   (I2:Inv X pins σ H2 s₂) (T:Wx X.prog X.w X.K tg J fp it tn) (st:tn 0 s₂.heap) (f2:∀ b∈fp,Yw X pins H2 b)
   (h:∀ D,H2 D=none→ZaH J g te σ D Q H2)
   (hRR:∀ D C H' s',Inv X pins σ H' s'→Yw X pins H' C→(∃ m,s'.heap.Ns C m)→Q (.ref D) H'→RR (.ref D) C (.ok .next) s') :
   wpAny (model X.prog X.w) X.A (newList []) (fun acc s₃=>wpAny (model X.prog X.w) X.A (newFunctionEnv scope X.env.globals cl [] X.env.qual none .none (some X.env)) (fun cenv s₄ =>
     codeAny (model X.prog X.w) X.A (.compStart (.ListComp elt [⟨tg,iter,[],0⟩] scope pos) 0 (.ref it) acc { cenv with scope:=relabel scope X.env }) (RR acc cenv.locals) s₄) E s₃) E s₂:=by
 have hD:H2 s₂.heap.objs.size=none:=I2.hok.fresh (Nat.le_refl _)
 refine wpAny_newObj_type ?_
 have I3:Inv X pins σ (upd H2 s₂.heap.objs.size (.lst [])) { s₂ with heap:=s₂.heap.push { cls:=.type "list",data:=.seq ([]:List Value).toArray } } :=
   I2.laid (t':=s₂.toks) (fun b u e=>Heap.get?_push_of_some _ e) (Nat.le_refl _) ⟨Nat.zero_le _,[],_,.nil,Heap.get?_push_size _ rfl⟩
 have f3:∀ b∈fp,Yw X pins (upd H2 s₂.heap.objs.size (.lst [])) b:=fun b hb=>by
   obtain ⟨g0,g1⟩:=f2 b hb
   obtain ⟨o,e,_⟩:=T.obj 0 _ st b hb
   exact ⟨by rw [Zo (Nat.ne_of_lt (Heap.lt_size e))];exact g0,g1⟩
 have st3:tn 0 (s₂.heap.push { cls:=.type "list",data:=.seq ([]:List Value).toArray }):=T.keep _ _ _ st fun b hb o e=>Heap.get?_push_of_some _ e
 obtain ⟨W,⟨m0,w0⟩,turn⟩:=h _ hD
 generalize hDe:s₂.heap.objs.size=D at I3 f3 w0 turn ⊢
 generalize hH3:upd H2 D (.lst [])=H3 at I3 f3 w0 turn ⊢
 generalize hs3:({ s₂ with heap:=s₂.heap.push { cls:=.type "list",data:=.seq ([]:List Value).toArray } }:Shared)=s₃ at I3
 have st3':tn 0 s₃.heap:=by rw [← hs3];exact st3
 have hobj:∀ b∈fp,b < s₃.heap.objs.size:=fun b hb=>by
   obtain ⟨o,e,_⟩:=T.obj 0 _ st3' b hb
   exact Heap.lt_size e
 refine wpAny_newFunctionEnv O.cell (by intro y hy;simp at hy) (fun h₁ hns₁ hsb₁=>?_) O.kind
 have old:∀ b o,s₃.heap.get? b=some o→h₁.get? b=some o:=fun b o e=>hsb₁.extBut b o (Nat.ne_of_lt (Heap.lt_size e)) (Heap.get?_push_of_some _ e)
 generalize hs4:({ s₃ with heap:=h₁,toks:=s₃.toks+([]:List (Str×Value)).length }:Shared)=s₄
 have h4:s₄.heap=h₁:=by rw [← hs4]
 have hX:∀ C,Yw X pins C s₃.heap.objs.size→True:=fun _ _=>trivial
 have ok':(YS X scope xa xb cl s₃.heap.objs.size s₃ H3 fp).Ok:=by
   refine ⟨I3.ok.mod,O.kind,I3.ok.glob,I3.ok.blt,Nat.le_refl _,?_,?_,?_,I3.ok.hd,I3.ok.frames,.inl rfl,?_,I3.bs,Nat.le_trans I3.ok.bsz I3.sz,?_,?_,I3.stack,I3.stkFree⟩
   · exact fun y z c e1 e2=>I3.ok.inj y z c (cl1 y c e1) (cl1 z c e2)
   · intro y hk
     have hf:scope.names.lookup y=some .free:=by
       rcases hk with hk | hk
       · rcases Zt O.cell hk with q | q
         · exact absurd rfl (O.cell _ (mem_of_lookup q))
         · exact q.1
       · rcases Zt O.cell hk with q | q
         · exact q
         · cases q.2
     have:=cl2 _ (mem_of_lookup hf) rfl
     cases e:cl.lookup y with
     | none=>exact absurd e this
     | some c=>exact ⟨c,e⟩
   · intro y c hf;cases hf
   · intro b hb
     obtain ⟨g0,g1,g2,g3,g4,g5⟩:=f3 b hb
     exact ⟨Nat.ne_of_lt (hobj b hb),fun y c e=>g4 y c (cl1 y c e)⟩
   · intro b o e hb
     obtain ⟨g0,g1,g2,g3,g4,g5⟩:=f3 b hb
     rcases g3 with g3 | g3
     · exact I3.ok.noex b o e g3
     · exact absurd (Heap.lt_size e) (Nat.not_lt.mpr (Nat.le_trans I3.ok.bsz g3))
   · intro b hb hs
     obtain ⟨g0,g1,g2,g3,g4,g5⟩:=f3 b hb
     rcases List.mem_cons.mp (I3.stkSub b hs) with e | e
     · exact g1 e
     · exact g2 e
 have I4 : Inv (YS X scope xa xb cl s₃.heap.objs.size s₃ H3 fp) [] (σ++[none,none]) H3 s₄:=by
   obtain ⟨m,hm,hl⟩:=I3.loc
   refine ⟨ok',by rw [← hs4];rfl,by rw [← hs4];exact I3.bare,by rw [h4];exact Un.kept old,⟨_,by rw [h4];exact hns₁,?_⟩,?_,I3.hok.fresh (Nat.le_refl _),fun y c e=>I3.freeC y c (cl1 y c e),?_,by rw [h4];exact I3.hok.kept old,?_⟩
   · intro i y v e1 e2 e3
     have hlt:i < σ.length:=by
       rcases Nat.lt_or_ge i σ.length with z | z
       · exact z
       · rw [List.getElem?_append_right z] at e2
         have:=List.mem_of_getElem? e2
         simp at this
     rw [List.getElem?_append_left hlt] at e2
     have hsm:∃ k,scope.names.lookup y=some k:=by
       rcases e3 with hk | hk | hk
       · rcases Zt O.cell hk with q | q
         · exact ⟨_,q⟩
         · exact ⟨_,q.1⟩
       · rcases Zt O.cell hk with q | q
         · exact ⟨_,q⟩
         · exact ⟨_,q.1⟩
       · rcases Zt O.cell hk with q | q
         · exact ⟨_,q⟩
         · exact ⟨_,q.1⟩
     obtain ⟨e1',hyx⟩:X.N[i]?=some y∧¬ (y=xa∨y=xb):=by
       have e1:(Wl X.N xa xb++[xa,xb])[i]?=some y:=e1
       rw [List.getElem?_append_left (by rw [ZcZ,← I3.len];exact hlt)] at e1
       rcases Zhn e1 with z | z
       · exact z
       · obtain ⟨k,hk⟩:=hsm
         rw [z,O.noh] at hk;cases hk
     have hy:y∈X.N:=List.mem_of_getElem? e1'
     have hf:scope.names.lookup y=some .free:=by
       rcases e3 with hk | hk | hk
       · rcases Zt O.cell hk with q | q
         · exact absurd q (O.own y hy hyx)
         · exact q.1
       · rcases Zt O.cell hk with q | q
         · exact absurd rfl (O.cell _ (mem_of_lookup q))
         · exact q.1
       · rcases Zt O.cell hk with q | q
         · exact q
         · exact q.1
     have hk:=O.clos _ (mem_of_lookup hf) rfl
     have hv:Vis X.env.scope y:=by rcases hk with z | z;exact .inr (.inl z);exact .inr (.inr z)
     obtain ⟨u,ru,lu⟩:=hl i y v e1' e2 hv
     refine ⟨u,ru,?_⟩
     have hkc:(compEnvC scope cl s₃.heap.objs.size X.env).kindOf y=some .cell∨(compEnvC scope cl s₃.heap.objs.size X.env).kindOf y=some .free:=by
       rcases e3 with q | q | q
       · rcases Zt O.cell q with z | z
         · exact absurd z (O.own y hy hyx)
         · cases z.2
       · exact .inl q
       · exact .inr q
     rcases lu with ⟨q,_⟩ | ⟨_,c,hcl,hcc⟩
     · rcases hk with z | z<;>(rw [q] at z;cases z)
     · refine .inr ⟨hkc,?_⟩
       cases e:cl.lookup y with
       | none=>exact absurd e (cl2 _ (mem_of_lookup hf) rfl)
       | some c' =>
         have:=cl1 y c' e
         rw [hcl] at this
         cases this
         refine ⟨c,e,?_⟩
         rw [h4]
         obtain ⟨oc,ho,hd⟩:=hcc
         exact ⟨oc,old _ _ ho,hd⟩
   · intro y c e
     obtain ⟨v,oc,ho,hd⟩:=I3.cell y c (cl1 y c e)
     exact ⟨v,oc,by rw [h4];exact old _ _ ho,hd⟩
   · intro p hp;cases hp
   · show (σ++[none,none]).length=(Wl X.N xa xb++[xa,xb]).length
     rw [List.length_append,List.length_append,ZcZ,I3.len];rfl
 have st4:tn 0 s₄.heap:=by rw [h4];exact T.keep _ _ _ st3' fun b hb o e=>old b o e
 have fpok:∀ {H':Hp},(∀ b∈fp,H' b=none)→∀ b∈fp,Yw (YS X scope xa xb cl s₃.heap.objs.size s₃ H3 fp) [] H' b:=fun hn b hb=>by
   obtain ⟨g0,g1,g2,g3,g4,g5⟩:=f3 b hb
   refine ⟨hn b hb,Nat.ne_of_lt (hobj b hb),ok'.exfs b hb,.inl hb,fun y c e=>g4 y c (cl1 y c e),?_⟩
   intro p hp;cases hp
 have loop:codeAny (model X.prog X.w) X.A (.compLoop (.ListComp elt [⟨tg,iter,[],0⟩] scope pos) 0 (.ref it) (.ref D) (compEnvC scope cl s₃.heap.objs.size X.env)) (RR (.ref D) s₃.heap.objs.size) s₄:=by
   refine Wo (fun n s'=>∃ i ys wa wb H',Inv (YS X scope xa xb cl s₃.heap.objs.size s₃ H3 fp) [] (σ++[wa,wb]) H' s'∧tn i s'.heap∧(∀ b∈fp,H' b=none)∧W i n ys H') ?_ m0 ⟨0,[],none,none,H3,I4,st4,fun b hb=>(f3 b hb).1,w0⟩
   rintro n s5 ⟨i,ys,wa,wb,H5,I5,st5,fr5,w5⟩
   rcases turn i n ys H5 w5 with ⟨stop,q⟩ | ⟨go,N,hN,step⟩
   · refine Zn (T.done (YS X scope xa xb cl s₃.heap.objs.size s₃ H3 fp) rfl rfl rfl hc i [] s5 _ H5 _ I5 (fpok fr5) st5 stop) fun r s6 ⟨hr,I6⟩=>?_
     subst hr
     obtain ⟨m6,hn6,_⟩:=I6.loc
     have IX:Inv X pins σ H5 s6:=I3.call' (ch:=fp) I6.os I6.base I6.hok I6.bare fun b hb=>by
       obtain ⟨g0,g1,g2,g3,g4,g5⟩:=f3 b hb
       exact ⟨g3,g1,g4,g5⟩
     exact hRR D _ H5 s6 IX (I3.fpOk (Nat.le_refl _) I6.free) ⟨m6,hn6⟩ q
   · refine Zn (T.item (YS X scope xa xb cl s₃.heap.objs.size s₃ H3 fp) rfl rfl rfl hc i [] s5 _ H5 _ I5 (fpok fr5) st5 go) fun r s6 ⟨u,hr,h6⟩=>?_
     subst hr
     refine Zn h6 fun _ s7 ⟨v,H7,I7,r7,y7,st7,fr7⟩=>?_
     have I7':=I7.pinned (fpok fr7) (T.obj _ _ st7)
     refine Zn (hg cl s₃.heap.objs.size s₃ H3 fp _ s7 _ H7 v u _ I7' r7 (step wa wb v H7 y7)) fun _ s8 ⟨σ8,H8,I8,⟨wa',wb',e8⟩,q8⟩=>?_
     subst e8
     refine Zn (he cl s₃.heap.objs.size s₃ H3 fp _ s8 _ H8 _ I8 q8) fun uy s9 ⟨y,H9,I9,r9,n9⟩=>?_
     obtain ⟨hl9,hz9,m',hm',w9⟩:=hN y H9 n9
     refine Zn (Yd (X:=YS X scope xa xb cl s₃.heap.objs.size s₃ H3 fp) _ s9 _ H9 (.ref D) [y] (.ref D) [uy] (fun v H'=>H'=upd H9 D (.lst (ys++[y]))) I9 rfl (.cons r9 .nil) ⟨D,ys,y,rfl,rfl,hl9,hz9,rfl⟩) fun _ s10 ⟨_,H10,I10,_,e10⟩=>?_
     subst e10
     refine ⟨m',hm',i+1,ys++[y],wa',wb',_,I10.unpinned (pins:=[]),T.keep _ _ _ st7 fun b hb o e=>(I10.pin (b,o) (List.mem_append_right _ (List.mem_append_right _ (YE hb e)))).1,fun b hb=>?_,w9⟩
     obtain ⟨o,e,d⟩:=T.obj _ _ st7 b hb
     exact (I10.pin (b,o) (List.mem_append_right _ (List.mem_append_right _ (YE hb e)))).2.1
 exact codeAny_compStart_list loop (T.self _ 0 _ _ _ st4 loop)
theorem Zhe (O:CompOkT X scope xa xb)(hc:X.calm=true)(hi:PI X tg iter wi)(hg:∀ cl C s₀ H₀ fp,PG (YS X scope xa xb cl C s₀ H₀ fp) tg g)(he:∀ cl C s₀ H₀ fp,PE (YS X scope xa xb cl C s₀ H₀ fp) elt te)
   (hs:∀ v,foldedSetIterable iter X.env v=pure v:=by intro _;rfl):PE X (.ListComp elt [⟨tg,iter,[],0⟩] scope pos) (Zfy wi g te):=by
 intro pins s σ H Q I h
 obtain ⟨cl,hcl,cl1,cl2⟩:=XG (scope:=scope) (env:=X.env) fun y hy hf=>I.ok.has _ (O.clos y hy hf)
 rw [eval_ListComp]
 refine wpAny_comprehension_free (use:=none) rfl hs hcl O.kind O.names (Zn (hi pins s σ H _ I h) fun v s1 h1=>Zn h1 fun itv s2 h2=>?_)
 obtain ⟨it,fp,tn,J,H2,e,I2,T,st2,f2,q⟩:=h2
 subst e
 refine VT (RR:=fun acc C=>compPost (model X.prog X.w) X.A X.xe none (EP X pins σ Q) acc C) O hc cl1 cl2 hg he I2 T st2 f2 q ?_
 intro D C H' s' I' ⟨g0,g1,g2,g3,g4,g5⟩ ⟨m,hm⟩ hq
 exact ⟨m,hm,fun h' hs'=>⟨.ref D,H',I'.turned (t':=s'.toks) (fun b o hb e=>(hs'.2 b hb).trans e) g0 g1 g3 g4 g5,rfl,hq⟩⟩
end
end L2
set_option maxHeartbeats 2000000
namespace L2
open PySem PySem.Spec PyProof.Rows
end L2
set_option maxHeartbeats 2000000
namespace L2
open PySem PySem.Spec PyProof.Rows
section
variable {X:Cx}{elt iter tg cnd:Expr}{xa xb:Str}{pos:Pos}{scope:Scope}{wi:TI}{te:TE}{tc:TT}{g:TG}
end
end L2
set_option maxHeartbeats 1000000
namespace L2
open PySem
def YH:HO→Bool
 | .tup _=>false
 | .frz _ _=>false
 | .own _=>false
 | .met _ _=>false
 | .rng _ _=>false
 | .ext _=>false
 | _=>true
def cut (H h:Hp):Hp:=fun b=>match h b with
 | some o=>if YH o=true then none else H b
 | none=>H b
def one (p:Addr)(o:HO):Hp:=fun b=>if b=p then some o else none
theorem one_some {p b:Addr}{o u:HO}:one p o b=some u↔b=p∧o=u:=by
 unfold one
 by_cases h:b=p
 · rw [if_pos h];exact ⟨fun z=>⟨h,Option.some.inj z⟩,fun z=>by rw [z.2]⟩
 · rw [if_neg h];exact ⟨fun z=>(by cases z),fun z=>absurd z.1 h⟩
abbrev Xa:=Addr→Hp→Prop
abbrev Rs:=List (Addr×Xa)
def Sep:Rs→Hp→Prop
 | [],_=>True
 | (a,R)::Δ,H=>∃ h,Same h H∧R a h∧Sep Δ (cut H h)
theorem cut_some {H h:Hp}{b:Addr}{o:HO}:cut H h b=some o↔H b=some o∧∀ u,h b=some u→YH u=false:=by
 unfold cut
 cases e:h b with
 | none=>exact ⟨fun z=>⟨z,fun u q=>by cases q⟩,fun z=>z.1⟩
 | some v =>
   cases m:YH v with
   | true=>show (if YH v=true then none else H b)=some o↔_;rw [if_pos m];exact ⟨fun z=>(by cases z),fun z=>(by have:=z.2 v rfl;rw [m] at this;cases this)⟩
   | false=>show (if YH v=true then none else H b)=some o↔_;rw [if_neg (by rw [m];decide)];exact ⟨fun z=>⟨z,fun u q=>(by cases q;exact m)⟩,fun z=>z.1⟩
theorem ZfK {H h:Hp}:Same (cut H h) H:=fun b o e=>(cut_some.mp e).1
theorem ZhD {H H' h:Hp}(s:Same H H'):Same (cut H h) (cut H' h):=fun b o e=>let ⟨x,y⟩:=cut_some.mp e;cut_some.mpr ⟨s _ _ x,y⟩
theorem Sep.mono:∀{Δ:Rs}{H H':Hp},Sep Δ H→Same H H'→Sep Δ H'
 | [],_,_,_,_=>trivial
 | (_,_)::_,_,_,⟨h,l,r,S⟩,s=>⟨h,l.trans s,r,S.mono (ZhD s)⟩
theorem Sep.swap {a b:Addr}{R T:Xa}{Δ:Rs}{H:Hp}(S:Sep ((a,R)::(b,T)::Δ) H):Sep ((b,T)::(a,R)::Δ) H:=by
 obtain ⟨h,l,r,g,m,t,S⟩:=S
 refine ⟨g,m.trans ZfK,t,h,fun c o e=>cut_some.mpr ⟨l _ _ e,fun u q=>?_⟩,r,S.mono fun c o e=>?_⟩
 · obtain ⟨q1,q2⟩:=cut_some.mp (m _ _ q)
   have e2:=l _ _ e
   rw [q1] at e2;cases e2
   exact q2 _ e
 · obtain ⟨e1,e2⟩:=cut_some.mp e
   obtain ⟨e3,e4⟩:=cut_some.mp e1
   exact cut_some.mpr ⟨cut_some.mpr ⟨e3,e2⟩,e4⟩
theorem Sep.tail {a:Addr}{R:Xa}{Δ:Rs}{H:Hp}(S:Sep ((a,R)::Δ) H):Sep Δ H:=by
 obtain ⟨h,l,r,S⟩:=S
 exact S.mono ZfK
class Pull (a:Addr) (Δ:Rs) (R:outParam Xa) (Δ':outParam Rs):Prop where
 out:∀ {H},Sep Δ H→Sep ((a,R)::Δ') H
instance (priority:=1000) Pull.here {a:Addr} {R:Xa} {Δ:Rs}:Pull a ((a,R)::Δ) R Δ:=⟨fun S=>S⟩
instance (priority:=900) Pull.there {a b:Addr} {R T:Xa} {Δ Δ':Rs} [P:Pull a Δ R Δ']:Pull a ((b,T)::Δ) R ((b,T)::Δ') :=
 ⟨fun S=>by
   obtain ⟨h,l,r,S⟩:=S
   exact Sep.swap ⟨h,l,r,P.out S⟩⟩
theorem Sep.pull {Δ Δ':Rs}{H:Hp}{R:Xa}(S:Sep Δ H)(a:Addr)[P:Pull a Δ R Δ']:Sep ((a,R)::Δ') H:=P.out S
theorem Sep.drop {Δ Δ':Rs}{H:Hp}{R:Xa}(S:Sep Δ H)(a:Addr)[P:Pull a Δ R Δ']:Sep Δ' H:=(P.out S).tail
class Up (R:Xa):Prop where
 up:∀ {a:Addr} {H H':Hp},R a H→Same H H'→R a H'
theorem Sep.get {Δ Δ':Rs}{H:Hp}{R:Xa}(S:Sep Δ H)(a:Addr)[P:Pull a Δ R Δ'][U:Up R]:R a H:=by
 obtain ⟨h,l,r,_⟩:=P.out S
 exact U.up r l
def Pt (o:HO):Xa:=fun a h=>h a=some o
abbrev Xh (xs:List V):Xa:=Pt (.lst xs)
abbrev Tup (xs:List V):Xa:=Pt (.tup xs)
instance {o:HO}:Up (Pt o):=⟨fun h s=>s _ _ h⟩
theorem Sep.new {Δ:Rs}{H:Hp}(S:Sep Δ H){p:Addr}(hp:H p=none)(o:HO):Sep ((p,Pt o)::Δ) (upd H p o):=by
 refine ⟨one p o,fun b u e=>?_,one_some.mpr ⟨rfl,rfl⟩,S.mono fun b u e=>?_⟩
 · obtain ⟨rfl,rfl⟩:=one_some.mp e;exact Zc
 · have hb:=Zy e hp
   exact cut_some.mpr ⟨by rw [Zo hb];exact e,fun v q=>absurd (one_some.mp q).1 hb⟩
theorem Sep.made {Δ:Rs}{H H':Hp}(S:Sep Δ H)(s:Same H H'){p:Addr}{o:HO}(hp:H p=none)(e:H' p=some o):Sep ((p,Pt o)::Δ) H':=by
 refine ⟨one p o,fun b u q=>?_,one_some.mpr ⟨rfl,rfl⟩,S.mono fun b u q=>?_⟩
 · obtain ⟨rfl,rfl⟩:=one_some.mp q;exact e
 · have hb:=Zy q hp
   exact cut_some.mpr ⟨s _ _ q,fun v q=>absurd (one_some.mp q).1 hb⟩
theorem Sep.put {Δ Δ':Rs}{H:Hp}{o:HO}(S:Sep Δ H)(a:Addr)(o':HO)[P:Pull a Δ (Pt o) Δ'](m:YH o=true:=by rfl):Sep ((a,Pt o')::Δ') (upd H a o'):=by
 obtain ⟨h,l,r,S⟩:=P.out S
 refine ⟨one a o',fun b u q=>?_,one_some.mpr ⟨rfl,rfl⟩,S.mono fun b u q=>?_⟩
 · obtain ⟨rfl,rfl⟩:=one_some.mp q;exact Zc
 · obtain ⟨q1,q2⟩:=cut_some.mp q
   have hb:b≠a:=fun z=>by
     have:=q2 o (by rw [z];exact r)
     rw [m] at this;cases this
   exact cut_some.mpr ⟨by rw [Zo hb];exact q1,fun v q=>absurd (one_some.mp q).1 hb⟩
theorem Sep.say {Δ Δ':Rs}{H:Hp}{R:Xa}(S:Sep Δ H)(a:Addr)(T:Xa)[P:Pull a Δ R Δ'](f:∀ h,R a h→T a h):Sep ((a,T)::Δ') H:=by
 obtain ⟨h,l,r,S⟩:=P.out S
 exact ⟨h,l,f h r,S⟩
theorem Sep.call {Δ:Rs}{H H':Hp}{a:Addr}{R T:Xa}{L:List Addr}(S:Sep ((a,R)::Δ) H)(k:∀ b o,b ∉ L→H b=some o→H' b=some o)
   (f:∀ h,Same h H→R a h→(∀ b∈L,∃ o,h b=some o∧YH o=true)∧∃ h',Same h' H'∧T a h'∧∀ b o,h' b=some o→YH o=true→b∈L∨H b=none∨∃ u,h b=some u∧YH u=true):Sep ((a,T)::Δ) H':=by
 obtain ⟨h,l,r,S⟩:=S
 obtain ⟨f1,h',l',t,f2⟩:=f h l r
 refine ⟨h',l',t,S.mono fun b o e=>?_⟩
 obtain ⟨e1,e2⟩:=cut_some.mp e
 have hb:b ∉ L:=fun z=>by
   obtain ⟨u,q1,q2⟩:=f1 b z
   rw [e2 u q1] at q2;cases q2
 refine cut_some.mpr ⟨k b o hb e1,fun u q=>?_⟩
 cases m:YH u with
 | false=>rfl
 | true =>
   rcases f2 b u q m with z | z | ⟨v,z1,z2⟩
   · exact absurd z hb
   · rw [e1] at z;cases z
   · rw [e2 v z1] at z2;cases z2
abbrev Bx (n:Nat):Xa:=fun a h=>BoxAt h a n
instance {n:Nat}:Up (Bx n):=⟨fun h s=>h.same s⟩
theorem Sep.box {Δ:Rs}{H H':Hp}{p:Addr}{n m:Nat}(S:Sep ((p,Bx n)::Δ) H)(k:Kp p H H')(B:BoxAt H' p m):Sep ((p,Bx m)::Δ) H':=by
 refine S.call (L:=[p]) (fun b o nb e=>k b o (fun z=>nb (by simp [z])) e) fun h l r=>⟨fun b hb=>?_,?_⟩
 · rw [List.mem_singleton.mp hb]
   obtain ⟨x,y,z,e,_⟩:=r
   exact ⟨_,e,rfl⟩
 · obtain ⟨x,y,z,e,w⟩:=B
   refine ⟨one p (.lst [.int x,.int y,.int z]),fun b u q=>?_,⟨x,y,z,one_some.mpr ⟨rfl,rfl⟩,w⟩,fun b o q _=>.inl (by simp [(one_some.mp q).1])⟩
   obtain ⟨rfl,rfl⟩:=one_some.mp q;exact e
def ZdQ (M:Int):Sp:=fun vs H Q _=>∃(p:Addr)(n:Nat)(m:Int)(Δ:Rs),vs=[.ref p,.int m]∧Sep ((p,Bx n)::Δ) H∧n≤1000000∧0 < m∧m < M∧∀(r:Int)(H':Hp),0≤r→r < m→Sep ((p,Bx (n+1))::Δ) H'→Q (.int r) H'
theorem ZjY {M:Int}{vs:List V}{H:Hp}{Q:VK}{E:XK}(h:ZdQ M vs H Q E):ZaF M vs H Q E:=by
 obtain ⟨p,n,m,Δ,e,S,h1,h2,h3,q⟩:=h
 exact ⟨p,n,m,e,S.get p,h1,h2,h3,fun r H' a b B k=>q r H' a b (S.box k B)⟩
end L2
namespace L2
open PySem
end L2
namespace L2
open PySem
structure ZZ (mg:Str→Option Value):Prop where
 len:mg "len"=none
 abs:mg "abs"=none
 int:mg "int"=none
 range:mg "range"=none
 min:mg "min"=none
 max:mg "max"=none
 repr:mg "repr"=none
 enumerate:mg "enumerate"=none
 ord:mg "ord"=none
 list:mg "list"=none
 tuple:mg "tuple"=none
 dict:mg "dict"=none
 sorted:mg "sorted"=none
 sum:mg "sum"=none
 all:mg "all"=none
 any:mg "any"=none
 divmod:mg "divmod"=none
 str:mg "str"=none
 isinstance:mg "isinstance"=none
 set:mg "set"=none
 zip:mg "zip"=none
 reversed:mg "reversed"=none
 bool:mg "bool"=none
abbrev DTk (P:Program)(w:World)(K:PySem.W.Frag)(mg:Str→Option Value)(base:Heap)(k:Nat):Prop:=Def P w K mg base k "_law_take" ["_law_box_here","_law_many"] (ZdQ 4611686018427387904)
theorem FnOk.conv {P:Program}{w:World}{K:PySem.W.Frag}{mg:Str→Option Value}{base:Heap}{k:Nat}{f:Addr}{fd:FuncData}{ps:List Str}{sp sp':Sp}(F:FnOk P w K mg base ZV k f fd ps sp)(h:∀ vs H Q E,sp' vs H Q E→sp vs H Q E):FnOk P w K mg base ZV k f fd ps sp' :=
 ⟨fun vs H Q E z=>F.len vs H Q E (h vs H Q E z),fun A outer s H args us vs Q E hr he hb hv z=>F.run A outer s H args us vs Q E hr he hb hv (h vs H Q E z)⟩
theorem Def.conv {P:Program}{w:World}{K:PySem.W.Frag}{mg:Str→Option Value}{base:Heap}{k:Nat}{x:Str}{ps:List Str}{sp sp':Sp}(D:Def P w K mg base k x ps sp)(h:∀ vs H Q E,sp' vs H Q E→sp vs H Q E):Def P w K mg base k x ps sp' :=
 let ⟨f,fd,F,b,kp,m⟩:=D;⟨f,fd,F.conv h,b,kp,m⟩
theorem Zcv {α:Type}{xs:List α}{r:Int}{v:α}(h0:0≤r)(h:xs[r.toNat]?=some v):YU xs r=some v:=by
 have z:YU xs ((r.toNat:Nat):Int)=some v:=Zx h
 rwa [show ((r.toNat:Nat):Int)=r by omega] at z
theorem Zv {n m:Nat}(h:n≤m)(hm:m≤100000:=by decide):n≤sizeLine:=Nat.le_trans (Nat.le_trans h hm) (by decide)
theorem Xy {n m:Nat}(h:n≤m)(hm:m≤100000:=by decide):n < sizeLine:=Nat.lt_of_le_of_lt (Nat.le_trans h hm) (by decide)
end L2
set_option maxHeartbeats 2000000
namespace L2
open PySem
section
variable {X:Cx}{k:Nat}{C:Addr}{m:Str}{ps:List Str}{sp:Sp}{pos apos:Pos}{o e:Expr}{es:List Expr}{ta:TE}{t:TA}
end
theorem ZaV {α:Type}{xs:List α}{r:Int}(h0:0≤r)(h1:r < (xs.length:Int)):∃ v,YU xs r=some v∧v∈xs:=by
 have hk:r.toNat < xs.length:=by omega
 have z:YU xs ((r.toNat:Nat):Int)=some xs[r.toNat]:=Zx (List.getElem?_eq_getElem hk)
 have e:((r.toNat:Nat):Int)=r:=by omega
 rw [e] at z
 exact ⟨_,z,List.getElem_mem hk⟩
def IsVal:V→Prop
 | .int i=>i.natAbs < 10 ^ 30
 | .str x=>x.length≤40∧x.cps.toList.all Yo=true
 | _=>False
def ZeH:V→Bool
 | .int i=>decide (i.natAbs < 10 ^ 30)
 | .str x=>decide (x.length≤40)&&x.cps.toList.all Yo
 | _=>false
theorem ZcP {v:V}(h:ZeH v=true):IsVal v:=by
 cases v with
 | int i=>exact of_decide_eq_true (p:=i.natAbs < 10 ^ 30) h
 | str x =>
   have h':(decide (x.length≤40)&&x.cps.toList.all Yo)=true:=h
   simp only [Bool.and_eq_true,decide_eq_true_eq] at h'
   exact h'
 | _=>cases h
theorem IsVal.b31 {i:Int}(h:IsVal (.int i)):i.natAbs≤10 ^ 31:=Nat.le_trans (Nat.le_of_lt (show i.natAbs < 10 ^ 30 from h)) (by decide)
def ZdH:Sp:=fun vs H Q _=>∃(p:Addr)(n:Nat),vs=[.ref p]∧BoxAt H p n∧n≤900000∧∀(v:V)(H':Hp),IsVal v→BoxAt H' p (n+50)→Kp p H H'→Q v H'
def Zii:List Stmt→Str
 | .Assign _ (.Constant (.str x) _ _) _::_=>x
 | _::r=>Zii r
 | []=>Str.empty
def Zce (N:List Str)(names:List (Str×NameKind))(scope:Scope)(xa xb:Str):Bool :=
 decide ((Wl N xa xb++[xa,xb]).Nodup)&&scope.names.all (fun y=>(y.2 != .free || names.lookup y.1 == some .cell || names.lookup y.1 == some .free)&&(y.2 != .cell&&(y.2 != .local || scope.names.lookup y.1 == some .local))) &&
 (scope.kind == .function&&N.all fun y=>(y == xa || y == xb) || scope.names.lookup y != some .local)&&scope.names.lookup ("":Str) == none
theorem CompOkT.of {X:Cx}{scope:Scope}{xa xb:Str}(N:List Str)(st:Stmt)(hN:X.N=N)(hn:X.env.scope=Zj st)(chk:Zce N (Zj st).names scope xa xb=true):CompOkT X scope xa xb:=by
 unfold Zce at chk
 simp only [Bool.and_eq_true,decide_eq_true_eq,List.all_eq_true,Bool.or_eq_true,bne_iff_ne,beq_iff_eq] at chk
 obtain ⟨⟨⟨c1,c2⟩,c3,c5⟩,c6⟩:=chk
 refine ⟨by rw [hN];exact c1,fun y hy hf=>?_,fun y hy=>(c2 y hy).2.1,c3,fun y hy hl=>?_,fun y hy hx=>(c5 y (by rw [← hN];exact hy)).resolve_left hx,c6⟩
 · show X.env.scope.names.lookup y.1=_∨X.env.scope.names.lookup y.1=_
   rw [hn]
   rcases (c2 y hy).1 with (z | z) | z
   · exact absurd hf z
   · exact .inl z
   · exact .inr z
 · rcases (c2 y hy).2.2 with z | z
   · exact absurd hl z
   · exact z
theorem Zbk {X:Cx}{K:PySem.W.Frag}(hK:X.K=K)(hc:X.calm=true){xa xb:Str}{pa pb tp:Pos}{j:Nat}{ga gb:TG}(ha:PG X (.Name xa pa) ga)(hb:PG X (.Name xb pb) gb):PG X (.Tuple [.Name xa pa,.Name xb pb] j tp) (gTup K 2 (Zet ga (Zet gb gNil))):=by
 subst hK
 exact XO hc (ZP ha (ZP hb Xo))
end L2
set_option maxHeartbeats 2000000
namespace L2
open PySem PySem.Spec PyProof.Rows
theorem Sep.pack' {Δ:Rs}:∀{Γ:Rs}{H:Hp},Sep (Γ++Δ) H→∃ h,Same h H∧Sep Γ h∧Sep Δ (cut H h)
 | [],H,S=>⟨fun _=>none,fun b o e=>(by cases e),trivial,S.mono fun b o e=>cut_some.mpr ⟨e,fun u q=>(by cases q)⟩⟩
 | (b,T)::Γ,H,⟨g,m,t,S⟩=>by
   obtain ⟨h',l',G,S⟩:=Sep.pack' S
   refine ⟨fun c=>match g c with | some o=>some o | none=>h' c,fun c o e=>?_,⟨g,fun c o e=>?_,t,G.mono fun c o e=>?_⟩,S.mono fun c o e=>?_⟩
   · cases q:g c with
     | some u=>simp only [q] at e;cases e;exact m _ _ q
     | none=>simp only [q] at e;exact (cut_some.mp (l' _ _ e)).1
   · simp only [e]
   · obtain ⟨e1,e2⟩:=cut_some.mp (l' _ _ e)
     refine cut_some.mpr ⟨?_,e2⟩
     cases q:g c with
     | some u=>simp only [q];rw [m _ _ q] at e1;exact e1
     | none=>simp only [q];exact e
   · obtain ⟨e1,e2⟩:=cut_some.mp e
     obtain ⟨e3,e4⟩:=cut_some.mp e1
     refine cut_some.mpr ⟨e3,fun u q=>?_⟩
     cases z:g c with
     | some v=>simp only [z] at q;cases q;exact e4 _ z
     | none=>simp only [z] at q;exact e2 _ q
theorem Sep.pack {a:Addr}{Γ Δ:Rs}{H:Hp}{R:Xa}(S:Sep (Γ++Δ) H)(f:∀ h,Sep Γ h→R a h):Sep ((a,R)::Δ) H:=by
 obtain ⟨h,l,G,S⟩:=Sep.pack' S
 exact ⟨h,l,f h G,S⟩
section
variable {X:Cx}
def rEqD:R2:=fun x y H Q=>∃ dx dy,DataOf H x dx∧DataOf H y dy∧dx.canLay0=true∧dy.canLay0=true∧dx.depth≤60∧Q (.bl (PyData.eqv dx dy)) H
theorem ZjN (hu:X.A.units+64 < cLine):YM X (compareOp .Eq) rEqD:=by
 intro pins s σ H x y v u Q I rx ry h
 obtain ⟨dx,dy,d1,d2,c1,c2,hd,q⟩:=h
 obtain ⟨_,as,r1⟩:=DataOf.reads I.hok v d1 rx
 obtain ⟨_,bs,r2⟩:=DataOf.reads I.hok u d2 ry
 exact SeqAt.compareEq_reads r1 r2 c1 c2 (by omega) ⟨.bl _,H,I,rfl,q⟩
end
section
variable {X:Cx}{k:Nat}{C:Addr}{x m:Str}{ps:List Str}{sp:Sp}{p pos apos:Pos}{o:Expr}{ta:TE}
end
end L2
set_option maxHeartbeats 2000000
namespace L2
open PySem PySem.Spec PyProof.Rows
def Zbf (K:PySem.W.Frag)(a:Addr):It :=
 ⟨fun i H=>∃ xs x,SqL K H a xs∧xs[i]?=some x,fun i H v H'=>∃ t x,H t=none∧(∀ xs,SqL K H a xs→xs[i]?=some x)∧v=.ref t∧H'=upd H t (.tup [.int (i:Int),x]),fun i H=>∃ xs,SqL K H a xs∧xs.length≤i⟩
theorem ZdY {P:Program}{w:World}{K:PySem.W.Frag}{elts:List Expr}{x1:Nat}{tp:Pos}(a e it:Addr)(hne:e≠it)(hai:a≠it)(hae:a≠e) :
   Wx P w K (.Tuple elts x1 tp) (Zbf K a) [e,it] e (fun i h=>(∃ old,IsEnum h e it (i:Int) old)∧h.IsListIter it a i) where
 mem:=by simp
 obj:=fun i h st b hb=>by
   obtain ⟨⟨old,he⟩,⟨o,ho,c,d⟩⟩:=st
   rcases List.mem_cons.mp hb with q | hb
   · rw [q];exact ⟨_,he,fun v z=>by cases z⟩
   · rw [List.mem_singleton.mp hb];exact ⟨o,ho,fun v z=>by rw [d] at z;cases z⟩
 keep:=fun i h h' st k=>by
   obtain ⟨⟨old,he⟩,st⟩:=st
   exact ⟨⟨old,k e (by simp) _ he⟩,st.at fun o y=>k it (by simp) o y⟩
 item:=by
   intro X hP hw hK hc i pins s σ H E I hf st hg
   subst hP hw hK
   obtain ⟨⟨old,he⟩,hs⟩:=st
   obtain ⟨xs,x,hq,hx⟩:=hg
   obtain ⟨its,rv,p,hz⟩:=I.list hq
   obtain ⟨u,hu,ru⟩:=rv.get hx
   have hlt:i < its.toArray.size:=by
     have:=(List.getElem?_eq_some_iff.mp hu).1
     simpa using this
   have D:=Draws.list (prog:=X.prog) (w:=X.w) (A:=X.A.in1) (I.ok.hd hc) it a hai its.toArray
   refine wpAny_pyNext_enum_itemD (i:=i) D he ⟨hs,p.isList⟩ hlt hne (by simp [hne,Ne.symm hae]) fun v h' tk hP hOut hst hT hsz hk=>?_
   have ev:v=u:=by
     have:its[i]?=some v:=by simpa using hP
     rw [hu] at this;exact (Option.some.inj this).symm
   subst ev
   have hel:e < s.heap.objs.size:=Heap.lt_size he
   have hil:it < s.heap.objs.size:=by obtain ⟨o,ho,_⟩:=hs;exact Heap.lt_size ho
   refine ⟨_,rfl,wpAny_letOwnedTupleGo_enum hOut fun h2 he2 hs2=>?_⟩
   generalize hO:({ cls:=.type "tuple",data:=.seq #[.int ((i:Nat):Int) tk,v] }:Obj)=O at hT
   have I1:Inv X pins σ (upd H s.heap.objs.size (.tup [.int (i:Int),x])) { s with heap:=s.heap.push O,toks:=tk+1 }:=by
     refine I.laid (t':=tk+1) (fun b o y=>Heap.get?_push_of_some _ y) (Nat.le_refl _) (show ObjOk X.prog X.w _ _ _ (.tup _) from ⟨by show 2≤sizeLine;decide,[.int ((i:Nat):Int) tk,v],.cons ⟨tk,rfl⟩ (.cons ru .nil),?_⟩)
     rw [← hO];exact IsTup.new _ _
   have hfree:=I.hok.fresh (Nat.le_refl s.heap.objs.size)
   have hf2:∀ b∈[e,it],Yw X pins (upd H s.heap.objs.size (.tup [.int (i:Int),x])) b:=fun b hb=>by
     obtain ⟨f0,f1⟩:=hf b hb
     have hb':b≠s.heap.objs.size:=by
       rcases List.mem_cons.mp hb with q | hb
       · rw [q];exact Nat.ne_of_lt hel
       · rw [List.mem_singleton.mp hb];exact Nat.ne_of_lt hil
     exact ⟨by rw [Zo hb'];exact f0,f1⟩
   have I2:Inv X pins σ (upd H s.heap.objs.size (.tup [.int (i:Int),x])) { s with heap:=h2,toks:=tk+1 }:=by
     refine I1.turned2 (t':=tk+1) (h':=h2) (fun b o hb y=>?_) hf2
     have hbe:b≠e:=fun q=>hb (by simp [q])
     have hbi:b≠it:=fun q=>hb (by simp [q])
     rw [hs2.2 b hbe]
     rcases Heap.get?_push_cases y with ⟨q1,q2⟩ | y
     · rw [q1,q2];exact hT
     · exact hk b o hbe hbi y
   refine ⟨.ref s.heap.objs.size,_,I2,rfl,⟨s.heap.objs.size,x,hfree,fun ys hy=>by rw [I.list_inj hy hq];exact hx,rfl,rfl⟩,⟨⟨_,he2⟩,?_⟩,fun b hb=>(hf2 b hb).1⟩
   exact hst.1.at fun o y=>by rw [hs2.2 it hne.symm];exact y
 done:=by
   intro X hP hw hK hc i pins s σ H E I hf st hg
   subst hP hw hK
   obtain ⟨⟨old,he⟩,hs⟩:=st
   obtain ⟨xs,hq,hle⟩:=hg
   obtain ⟨its,rv,p,hz⟩:=I.list hq
   have hl:=rv.length
   obtain ⟨f0,f1,f2,f3,f4,f5⟩:=hf it (by simp)
   exact wpAny_pyNext_enum_end (I.ok.hd hc) he hs p.isList (by simp;omega) fun h' eb=>⟨rfl,I.turned (t':=s.toks) (fun b o hb y=>eb b o hb y) f0 f1 f3 f4 f5⟩
 self:=fun _ _ _ _ _ st h=>by
   obtain ⟨⟨old,he⟩,_⟩:=st
   exact wpAny_pyIter_enum he h
def Zku (K:PySem.W.Frag)(tl:TE):TI:=fun σ H R=>tl σ H fun v H1=>∃ a xs,[v]=[V.ref a]∧H1 a=some (.lst xs)∧R (Zbf K a) H1
section
variable {X:Cx}
theorem ZgE {l:Expr}{tl:TE}{elts:List Expr}{x1:Nat}{tp p pos:Pos}(hg:Gl X "enumerate")(hm:X.mg "enumerate"=none)(hl:PE X l tl)
   (he:starEach [l] X.env=[(false,eval l X.env)]:=by rfl):PI X (.Tuple elts x1 tp) (.Call (.Name "enumerate" p) [l] [] pos) (Zku X.K tl):=by
 intro pins s σ H R I h
 have ha:PA X [l] (Xb tl YX):=Ym hl Za he
 refine wpAny_Call_Name_kw (WC I hg hm boot_enumerate ?_)
 refine PyProof.Rows.callWith_type1 (Zn (ha pos pins s σ H (fun vs H1=>∃ a xs,vs=[V.ref a]∧H1 a=some (.lst xs)∧R (Zbf X.K a) H1) I h) fun us s1 ⟨vs,H1,I1,r1,a,xs,e,ea,q⟩=>?_) he rfl
 subst e
 obtain ⟨u,rfl,r⟩:=YK r1
 cases r
 obtain ⟨z,its,n,rv,hll,eo⟩:=I1.lstM ea
 have hal:a < s1.heap.objs.size:=Heap.lt_size eo
 refine call_enumerate_1 eo fun h' hE hit hsz hkk=>wpAny_pyIter_enum hE ?_
 refine ⟨s1.heap.objs.size+1,[s1.heap.objs.size+1,s1.heap.objs.size],_,_,H1,rfl,I1.kept (t':=s1.toks) hkk,ZdY a _ _ (Nat.succ_ne_self _) (Nat.ne_of_lt hal) (Nat.ne_of_lt (Nat.lt_succ_of_lt hal)),⟨⟨_,hE⟩,hit⟩,fun b hb=>?_,q⟩
 rcases List.mem_cons.mp hb with z | hb
 · rw [z];exact I1.fpOk (Nat.le_succ _) (I1.hok.fresh (Nat.le_succ _))
 · rw [List.mem_singleton.mp hb];exact I1.fpOk (Nat.le_refl _) (I1.hok.fresh (Nat.le_refl _))
end
end L2
set_option maxHeartbeats 2000000
namespace L2
open PySem PySem.Spec PyProof.Rows
def ZlJ (i j k:Nat)(ta:TA):TS:=fun D σ H=>ta σ H fun vs H1=>∃ u v w,vs=[u,v,w]∧D.nx (((σ.set i (some u)).set j (some v)).set k (some w)) H1
theorem Zdt {X:Cx}{pos:Pos}{i j k:Nat}{x y z:Str}{a b c:Expr}{ta:TA}{px py pz pt:Pos}{kt k2 pt2}(hc:X.calm=true)(hN:X.N.Nodup)(hi:X.N[i]?=some x)(hj:X.N[j]?=some y)(hk:X.N[k]?=some z)(hij:i≠j)(hik:i≠k)(hjk:j≠k)
   (hx:X.env.scope.names.lookup x=some .local) (hy:X.env.scope.names.lookup y=some .local) (hz:X.env.scope.names.lookup z=some .local) (ha:PA X [a,b,c] ta)
   (hw:swappedStores [.Tuple [.Name x px,.Name y py,.Name z pz] kt pt] (.Tuple [a,b,c] k2 pt2) X.env=pure (some [x,y,z]))
   (hs:swapsWithSole [.Tuple [.Name x px,.Name y py,.Name z pz] kt pt] (.Tuple [a,b,c] k2 pt2) pos.line X.env=pure false:=by rfl) :
   PS X (.Assign [.Tuple [.Name x px,.Name y py,.Name z pz] kt pt] (.Tuple [a,b,c] k2 pt2) pos) (ZlJ i j k ta):=by
 intro pins s σ H D I h
 rw [exec_Assign_arm]
 refine wpAny_bind (wpAny_standAt ?_)
 rw [hs]
 refine wpAny_bind (wpAny_pure ?_)
 rw [if_neg (by decide)]
 refine wpAny_bind (Tuple_ (Zn (ha _ pins s σ H _ I h) fun us s1 ⟨vs,H1,I1,r1,q1⟩=>?_))
 obtain ⟨v1,v2,v3,e1,q1⟩:=q1
 subst e1
 obtain ⟨u1,u2,u3,rfl,rv1,rv2,rv3⟩:∃ u1 u2 u3,us=[u1,u2,u3]∧RelV v1 u1∧RelV v2 u2∧RelV v3 u3:=by
   cases r1 with
   | cons p q =>
     cases q with
     | cons p' q' =>
       cases q' with
       | cons p'' q'' =>
         cases q''
         exact ⟨_,_,_,rfl,p,p',p''⟩
 refine wpAny_newObj_type ?_ (by show 3≤sizeLine;decide)
 have I2:Inv X pins σ H1 { s1 with heap:=s1.heap.push { cls:=.type "tuple",data:=.seq [u1,u2,u3].toArray } }:=I1.kept (t':=s1.toks) fun b o e=>Heap.get?_push_of_some _ e
 rw [hw]
 refine wpAny_bind (wpAny_pure ?_)
 show wpAny (model X.prog X.w) X.A (do rule "assign.swapped-stores";let items ← unpackItems (.ref s1.heap.objs.size) 3 none;assignInOrder [fun v=>bindName X.env z v,fun v=>bindName X.env y v,fun v=>bindName X.env x v] items.reverse;pure Flow.next) _ _ _
 refine wpAny_bind (wpAny_rule (wpAny_bind (unpackItems_tuple (items:=#[u1,u2,u3]) (I.ok.hd hc) (IsTup.new s1.heap _) fun h' hx'=>?_)))
 have I3:=I2.kept (h':=h') (t':=s1.toks) fun b o e=>hx' b o (Nat.ne_of_lt (Heap.lt_size e)) e
 show wpAny _ _ (assignInOrder [fun v=>bindName X.env z v,fun v=>bindName X.env y v,fun v=>bindName X.env x v] [u3,u2,u1] >>= fun _=>pure Flow.next) _ _ _
 refine wpAny_bind (assignInOrder_cons (wpAny_bindName (Xj I3 hN hk (.inl hz) rv3 (fun s2 I4=>?_) (.inr hz))))
 refine assignInOrder_cons (wpAny_bindName (Xj I4 hN hj (.inl hy) rv2 (fun s3 I5=>?_) (.inr hy)))
 refine assignInOrder_cons (wpAny_bindName (Xj I5 hN hi (.inl hx) rv1 (fun s4 I6=>assignInOrder_nil (wpAny_pure ?_)) (.inr hx)))
 rw [List.set_comm _ _ (Ne.symm hjk),List.set_comm _ _ (Ne.symm hik),List.set_comm _ _ (Ne.symm hij)] at I6
 exact ⟨_,H1,I6,q1⟩
theorem ZeJ {X:Cx}{K:PySem.W.Frag}(hK:X.K=K):YM X (compareOp .In) (rIn K false):=by subst hK;exact Wc
theorem ZbN {X:Cx}{K:PySem.W.Frag}(hK:X.K=K):YM X (compareOp .NotIn) (rIn K true):=by subst hK;exact Um
end L2
set_option maxHeartbeats 2000000
namespace L2
open PySem PySem.Spec PyProof.Rows
theorem Zcf {α β:Type}{f g:α→Option β}:∀{l:List α},(∀ x∈l,f x=g x)→l.filterMap f=l.filterMap g
 | [],_=>rfl
 | x::l,h=>by
   rw [List.filterMap_cons,List.filterMap_cons,h x List.mem_cons_self,Zcf fun y hy=>h y (List.mem_cons_of_mem _ hy)]
theorem ZgV (its:List Value):slicePick its.toArray none none (some (-1))=its.reverse.toArray:=by
 have hb:sliceBounds none none (some (-1)) its.toArray.size=((its.length:Int) - 1,-1,-1):=by
   unfold sliceBounds
   simp
 unfold slicePick
 rw [hb]
 have hr:sliceRange ((its.length:Int) - 1) (-1) (-1)=(List.range its.length).map fun k=>its.length - 1 - k:=by
   unfold sliceRange
   have e1:(if (-1:Int) > 0 then (if (its.length:Int) - 1 < -1 then (-1 - ((its.length:Int) - 1)+-1 - 1) / -1 else 0) else (if (its.length:Int) - 1 > -1 then ((its.length:Int) - 1 - -1 - -1 - 1) / (- -1) else 0)).toNat=its.length:=by
     rw [if_neg (by decide)]
     split
     · rw [show (- -1:Int)=1 by decide,Int.ediv_one];omega
     · omega
   dsimp only
   rw [e1]
   apply List.map_congr_left
   intro k hk
   have:=List.mem_range.mp hk
   omega
 dsimp only
 rw [hr,List.filterMap_map]
 congr 1
 have gen:∀ (l:List Value),(List.range l.length).filterMap ((fun i=>l[i]?) ∘ fun k=>l.length - 1 - k)=l.reverse:=by
   intro l
   have h1:(List.range l.length).filterMap ((fun i=>l[i]?) ∘ fun k=>l.length - 1 - k)=(List.range l.reverse.length).filterMap (fun k=>l.reverse[k]?):=by
     rw [List.length_reverse]
     refine Zcf fun k hk=>?_
     have hk':=List.mem_range.mp hk
     show l[l.length - 1 - k]?=l.reverse[k]?
     rw [List.getElem?_reverse hk']
   rw [h1]
   have g2:∀ (m:List Value) (n:Nat),(List.range n).filterMap (fun k=>m[k]?)=m.take n:=by
     intro m n
     induction n with
     | zero=>simp
     | succ n ih =>
       rw [List.range_succ,List.filterMap_append,ih,List.take_add_one]
       cases e:m[n]?<;>simp [e]
   rw [g2,List.take_of_length_le (Nat.le_refl _)]
 have:=gen its
 simpa using this
def Zlw (K:PySem.W.Frag)(te:TE):TE:=fun σ H Q=>te σ H fun x H1=>∃ a xs,x=.ref a∧SqL K H1 a xs∧∀ p,H1 p=none→Q (.ref p) (upd H1 p (.lst xs.reverse))
section
variable {X:Cx}
theorem Zds {e:Expr}{te:TE}{k:Nat}{pc pu p2 pos:Pos}(he:PE X e te):PE X (.Subscript e (.Slice none none (some (.UnaryOp .USub (.Constant (.int 1) k pc) pu)) p2) pos) (Zlw X.K te):=by
 intro pins s σ H Q I h
 refine Subscript_ (Zn (he pins s σ H _ I h) fun v s1 ⟨x,H1,I1,r1,a,xs,ex,hx,q1⟩=>?_)
 subst ex
 cases r1
 refine wpAny_Slice (Zn (YC pins s1 σ H1 (fun o H2=>o=none∧H2=H1) I1 ⟨rfl,rfl⟩) fun vl s2 ⟨l,H2,I2,pl,el,eh⟩=>Zn (YC pins s2 σ H2 (fun o H3=>o=none∧H3=H2) I2 ⟨rfl,rfl⟩) fun vu s3 ⟨u,H3,I3,pu',eu,eh'⟩=>?_)
 subst el eh eu eh'
 refine Zn (Yk (X:=X) (ZbV Zap Zd) pins s3 σ H3 (fun o H4=>o=some (-1)∧H4=H3) I3 ⟨_,rfl,_,rfl,rfl,rfl⟩) fun vst s4 ⟨o,H4,I4,ps,eo,eh4⟩=>?_
 subst eo eh4
 have I5:Inv X pins σ H4 { s4 with heap:=s4.heap.push { cls:=.type "slice",data:=.fields #[vl,vu,vst] } }:=I4.kept (t':=s4.toks) fun b ob q=>Heap.get?_push_of_some _ q
 obtain ⟨its,r,ht,hz⟩:=I5.list hx
 have hlen:=r.length
 show wpAny (model X.prog X.w) X.A (subscriptTail e (.Slice none none (some (.UnaryOp .USub (.Constant (.int 1) k pc) pu)) p2) (.ref a) (.ref s4.heap.objs.size)) (EP X pins σ Q) X.xe { s4 with heap:=s4.heap.push { cls:=.type "slice",data:=.fields #[vl,vu,vst] } }
 refine tail_any (ops:=[.ref a,.ref s4.heap.objs.size]) ht.isList.typeIs slot_list_getitem.lookup ?_ (by with_unfolding_all rfl)
 refine wpAny_getItem_list_slice ht.isList (Heap.IsSliceOf.new ..) pl pu' ps (by decide) ?_ (by rw [List.size_toArray];omega)
 rw [ZgV]
 refine ⟨.ref _,_,I5.laid (t':=s4.toks) (o:=.lst xs.reverse) (fun b ob q=>Heap.get?_push_of_some _ q) (Nat.le_refl _) ?_,rfl,q1 _ (I5.hok.fresh (Nat.le_refl _))⟩
 exact ⟨by rw [List.length_reverse];exact hz,its.reverse,0,r.reverse,Heap.get?_push_size _ rfl⟩
end
end L2
set_option maxHeartbeats 2000000
namespace L2
open PySem
theorem Sep.newE {Δ:Rs}{H H2:Hp}{o:HO}(S:Sep Δ H){p:Addr}(hp:H p=none)(e:upd H p o=H2):Sep ((p,Pt o)::Δ) H2:=e ▸ S.new hp o
theorem VV {lo:Int}{n:Nat}{te:TE}{σ:St}{D:Addr}{Q:VK}{H:Hp}{Δ:Rs}(hn:n≤sizeLine)(S:Sep Δ H)(hD:H D=none)(J:Nat→List V→Rs→Prop)(h0:J 0 [] Δ)
   (hs:∀ i ys Δ H,i < n→ys.length=i→J i ys Δ→Sep ((D,Xh ys)::Δ) H→te (σ++[some (.int (lo+i))]) H fun y H4=>∃ Δ',J (i+1) (ys++[y]) Δ'∧Sep ((D,Xh ys)::Δ') H4)
   (hd:∀ ys Δ H,J n ys Δ→ys.length=n→Sep ((D,Xh ys)::Δ) H→Q (.ref D) H):Uw (Itr lo n) te σ D Q H:=by
 refine ⟨fun i m ys H=>m=n - i∧i≤n∧ys.length=i∧∃ Δ,J i ys Δ∧Sep ((D,Xh ys)::Δ) H,⟨n,by simp,Nat.zero_le _,rfl,Δ,h0,S.new hD _⟩,?_⟩
 rintro i m ys H2 ⟨rfl,hi,hl,Δ,j,S⟩
 by_cases hlt:i < n
 · refine .inr ⟨hlt,_,fun y H4 (q:∃ Δ',J (i+1) (ys++[y]) Δ'∧Sep ((D,Xh ys)::Δ') H4)=>?_,fun v H3 y=>?_⟩
   · obtain ⟨Δ',j',S'⟩:=q
     exact ⟨S'.get D,by omega,n - (i+1),by omega,rfl,hlt,by simp [hl],Δ',j',S'.put D _⟩
   · obtain ⟨e1,e2⟩:=y
     subst e1 e2
     exact hs i ys Δ _ hlt hl j S
 · have e:i=n:=by omega
   exact .inl ⟨by show n≤i;omega,hd ys Δ H2 (e ▸ j) (by omega) S⟩
end L2
set_option maxHeartbeats 2000000
namespace L2
open PySem PySem.W PySem.Spec PyProof.Rows
section
variable {prog:Program}{w:World}{A:Around}{E:Value→Shared→Prop}{s:Shared}{a:Addr}{as:List Addr}{ks:List Str}{P:PySem.Fin→Shared→Prop}
end
section
variable {X:Cx}
end
end L2
set_option maxHeartbeats 2000000
namespace L2
open PySem
def ZH (x:Str):Prop:=1≤x.length∧x.length≤8∧x.cps.toList.all UY=true
theorem XX (c:Nat):(⟨#[c]⟩:Str).length=1:=rfl
theorem ZbZ {P:Nat→Bool}:∀{l:List Str},(∀ z∈l,∃ c,z=⟨#[c]⟩∧P c=true)→(l.map (·.length)).sum=l.length∧(l.flatMap (·.cps.toList)).length=l.length∧(l.flatMap (·.cps.toList)).all P=true
 | [],_=>⟨rfl,rfl,rfl⟩
 | z :: r,h=>by
   obtain ⟨c,rfl,hc⟩:=h z List.mem_cons_self
   obtain ⟨g1,g2,g3⟩:=ZbZ (l:=r) fun y hy=>h y (List.mem_cons_of_mem _ hy)
   refine ⟨?_,?_,?_⟩
   · rw [List.map_cons,List.sum_cons,g1,List.length_cons];show 1+_=_;omega
   · have e0:((⟨#[c]⟩:Str)::r).flatMap (·.cps.toList)=c::r.flatMap (·.cps.toList):=rfl
     rw [e0,List.length_cons,List.length_cons,g2]
   · rw [List.flatMap_cons,List.all_append,g3];simp [hc]
theorem ZfB {P:Nat→Bool}{zs:List Str}(h:∀ z∈zs,∃ c,z=⟨#[c]⟩∧P c=true):(zs.map (·.length)).sum+zs.length * (Str.ofString "").length≤2 * zs.length∧(Txt.join (Str.ofString "") zs).length=zs.length∧(Txt.join (Str.ofString "") zs).cps.toList.all P=true:=by
 obtain ⟨g1,g2,g3⟩:=ZbZ h
 refine ⟨?_,?_,?_⟩
 · rw [g1];show _+_ * 0≤_;omega
 · rw [ZL,WQ,g2]
 · rw [WQ];exact g3
theorem Zaf {P:Nat→Bool}{x y:Str}(h1:x.cps.toList.all P=true)(h2:y.cps.toList.all P=true):(x++y).cps.toList.all P=true:=by
 rw [YR,List.all_append,h1,h2];rfl
theorem Zco {P:Nat→Bool}{c:Nat}(h:P c=true):(⟨#[c]⟩:Str).cps.toList.all P=true:=by
 show [c].all P=true;simp [h]
theorem Zar {P:Nat→Bool}{x:Str}{lo hi:Option Int}(h:x.cps.toList.all P=true):(Txt.slice x lo hi).cps.toList.all P=true:=by
 rw [XN]
 rw [List.all_eq_true] at h ⊢
 exact fun c hc=>h c (List.mem_of_mem_drop (List.mem_of_mem_take hc))
theorem ZfP {x:Str}{k:Int}(h0:0≤k)(h1:k≤x.length):(Txt.slice x none (some k)).length+(Txt.slice x (some k) none).length=x.length:=by
 have hn:¬ k < 0:=by omega
 rw [ZL,ZL,XN,XN,ZL]
 rw [ZL] at h1
 have e1:HT.sIx x.cps.toList.length 0 none=0:=rfl
 have e2:HT.sIx x.cps.toList.length x.cps.toList.length none=x.cps.toList.length:=rfl
 have e3:∀ d,HT.sIx x.cps.toList.length d (some k)=k.toNat:=fun d=>by
   unfold HT.sIx
   simp only [hn,if_false]
   omega
 rw [e1,e2,e3,e3,List.length_take,List.length_take,List.length_drop,List.length_drop]
 omega
theorem Zbj {x:Str}{P:Nat→Bool}(ha:x.cps.toList.all P=true){r:Int}(h0:0≤r)(h1:r < x.length):∃ c,YU x.cps.toList r=some c∧P c=true:=by
 have hl:r.toNat < x.cps.toList.length:=by rw [← ZL];omega
 exact ⟨_,Zcv h0 (List.getElem?_eq_getElem hl),List.all_eq_true.mp ha _ (List.getElem_mem hl)⟩
def a26:Str:="abcdefghijklmnopqrstuvwxyz"
theorem Ua:a26.length=26:=by decide +kernel
theorem ZaZ:a26.cps.toList.all UY=true:=by decide +kernel
theorem Vw {α:Type}{f:α→V}{xs:List α}{r:Int}(h0:0≤r)(h1:r < (xs.length:Int)):∃ x∈xs,YU (xs.map f) r=some (f x):=by
 have hl:r.toNat < xs.length:=by omega
 exact ⟨_,List.getElem_mem hl,Zcv h0 (by rw [List.getElem?_map,List.getElem?_eq_getElem hl];rfl)⟩
theorem Zdw {xs:List V}{r:Int}(h0:0≤r)(h1:r < (xs.length:Int)):∃ x∈xs,YU xs r=some x:=by
 have hl:r.toNat < xs.length:=by omega
 exact ⟨_,List.getElem_mem hl,Zcv h0 (List.getElem?_eq_getElem hl)⟩
theorem Sep.le {Δ:Rs}{H:Hp}{p:Addr}{n m:Nat}(S:Sep ((p,Bx n)::Δ) H)(h:n≤m):Sep ((p,Bx m)::Δ) H:=by
 obtain ⟨g,l,r,S⟩:=S
 exact ⟨g,l,BoxAt.le r h,S⟩
def Zal:Sp:=fun vs H Q _=>∃(p:Addr)(n:Nat)(Δ:Rs),vs=[.ref p]∧Sep ((p,Bx n)::Δ) H∧n≤900000∧∀(v:V)(H':Hp),IsVal v→Sep ((p,Bx (n+50))::Δ) H'→Q v H'
theorem ZiE {vs:List V}{H:Hp}{Q:VK}{E:XK}(h:Zal vs H Q E):ZdH vs H Q E:=by
 obtain ⟨p,n,Δ,e,S,h1,q⟩:=h
 exact ⟨p,n,e,S.get p,h1,fun v H' hv B k=>q v H' hv (S.box k B)⟩
def ZcL (K:PySem.W.Frag):Sp:=fun vs H Q _=>∃(a:Addr)(ns:List Int)(k:Int)(Δ:Rs),vs=[.ref a,.int k]∧SqL K H a (ns.map V.int)∧Sep Δ H∧0≤k∧k≤1000∧∀(p:Addr)(H':Hp),Same H H'→Sep ((p,Bx 0)::Δ) H'→Q (.ref p) H'
theorem Zlv {K:PySem.W.Frag}{vs:List V}{H:Hp}{Q:VK}{E:XK}(h:ZcL K vs H Q E):Ziu K vs H Q E:=by
 obtain ⟨a,ns,k,Δ,e,hS,S,h1,h2,q⟩:=h
 refine ⟨a,ns,k,e,hS,h1,h2,fun p H' hp B s=>q p H' s ?_⟩
 obtain ⟨x,y,z,eb,w⟩:=B
 exact (S.made s hp eb).say p (Bx 0) fun h r=>⟨x,y,z,r,w⟩
theorem Ur {xs:List V}{i:Nat}:YV xs none (some (i:Int))=xs.take i:=by
 unfold YV
 rw [HT.sIx_none,HT.sIx_nat,List.drop_zero,Nat.sub_zero]
 by_cases h:i≤xs.length
 · rw [Nat.min_eq_left h]
 · rw [Nat.min_eq_right (by omega),List.take_of_length_le (Nat.le_refl _),List.take_of_length_le (by omega)]
theorem Zag {xs:List V}{i:Nat}:YV xs (some (i:Int)) none=xs.drop i:=by
 unfold YV
 rw [HT.sIx_none,HT.sIx_nat]
 by_cases h:i≤xs.length
 · rw [Nat.min_eq_left h,List.take_of_length_le (by rw [List.length_drop];omega)]
 · rw [Nat.min_eq_right (by omega),Nat.sub_self,List.take_zero,List.drop_eq_nil_of_le (by omega)]
theorem ZiN {x:Str}{ys:List Str}:YG (.str x) (ys.map V.str)=decide (x∈ys):=by
 unfold YG
 induction ys with
 | nil=>rfl
 | cons y ys ih =>
   rw [List.map_cons,List.any_cons,ih]
   show ((y == x) || decide (x∈ys))=decide (x∈y::ys)
   by_cases h:y=x
   · subst h;simp
   · rw [show (y == x)=false from beq_eq_false_iff_ne.mpr h,Bool.false_or]
     congr 1
     simp [List.mem_cons,Ne.symm h]
theorem Wz (ys:List Str):(ys.map V.str).all Xu=true:=by
 rw [List.all_eq_true]
 intro v hv
 obtain ⟨y,_,rfl⟩:=List.mem_map.mp hv
 rfl
class IsLst (R:Xa) (k:Nat):Prop where
 lst:∀ {a h},R a h→∃ xs,h a=some (.lst xs)∧xs.length=k
end L2
set_option maxHeartbeats 2000000
namespace L2
open PySem
theorem Zbh {i:Int}(h:i.natAbs≤10 ^ 31):i.natAbs.log2 < 1920∧(Str.ofString (toString i)).length≤40:=by
 constructor
 · by_cases z:i.natAbs=0
   · rw [z];decide
   · exact (Nat.log2_lt z).mpr (Nat.lt_of_le_of_lt h (by decide +kernel))
 · have e:=int_text_length_le10 (a:=i) (k:=32) (by decide) (Nat.lt_of_le_of_lt h (by decide))
   rw [ZL,PyProof.Rows.signs_ofString,List.length_map,String.length_toList]
   omega
def XT:V→PyData
 | .int i=>.int i
 | .str x=>.str x
 | _=>.none
end L2
set_option maxHeartbeats 2000000
namespace L2
open PySem
def some_of (H:Hp)(L:List Addr):Hp:=fun b=>if b∈L then H b else match H b with
 | some o=>if YH o=true then none else some o
 | none=>none
theorem Zdr {H:Hp}{L:List Addr}:Same (some_of H L) H:=fun b o e=>by
 unfold some_of at e
 split at e
 · exact e
 · split at e
   · rename_i o' h'
     split at e
     · cases e
     · cases e;exact h'
   · cases e
theorem Zdo {H:Hp}{L:List Addr}{b:Addr}{o:HO}(e:H b=some o)(m:YH o=false):some_of H L b=some o:=by
 unfold some_of
 split
 · exact e
 · simp only [e,m,Bool.false_eq_true,if_false]
theorem ZcJ {H:Hp}{L:List Addr}{b:Addr}{o:HO}(e:some_of H L b=some o)(m:YH o=true):b∈L:=by
 unfold some_of at e
 split at e
 · assumption
 · split at e
   · split at e
     · cases e
     · rename_i h;cases e;exact absurd m h
   · cases e
end L2
set_option maxHeartbeats 2000000
namespace L2
open PySem
theorem Sep.updR {Δ Δ':Rs}{H:Hp}{R T:Xa}(S:Sep Δ H)(a:Addr)(o':HO)[P:Pull a Δ R Δ'](m:∀ h,R a h→∃ o,h a=some o∧YH o=true)
   (f:∀ h,R a h→Same h H→∀ h',h' a=some o'→(∀ b o,b≠a→h b=some o→h' b=some o)→(∀ b o,b≠a→H b=some o→YH o=false→h' b=some o)→T a h'):Sep ((a,T)::Δ') (upd H a o'):=by
 obtain ⟨h,l,r,S⟩:=P.out S
 obtain ⟨o,ea,ma⟩:=m h r
 refine ⟨fun b=>if b=a then some o' else match h b with | some u=>some u | none=>some_of H [] b,fun b u e=>?_,f h r l _ (if_pos rfl) (fun b u nb e=>?_) (fun b u nb e mu=>?_),S.mono fun b u e=>?_⟩
 · dsimp only at e
   by_cases hb:b=a
   · rw [if_pos hb] at e;cases e;rw [hb];exact Zc
   · rw [if_neg hb] at e
     rw [Zo hb]
     cases q:h b with
     | some z=>rw [q] at e;cases e;exact l _ _ q
     | none=>rw [q] at e;exact Zdr _ _ e
 · rw [if_neg nb,e]
 · rw [if_neg nb]
   cases q:h b with
   | some z=>have:=l _ _ q;rw [e] at this;cases this;rfl
   | none=>exact Zdo e mu
 · obtain ⟨e1,e2⟩:=cut_some.mp e
   have hb:b≠a:=fun z=>by have:=e2 o (by rw [z];exact ea);rw [ma] at this;cases this
   refine cut_some.mpr ⟨by rw [Zo hb];exact e1,fun v q=>?_⟩
   simp only [if_neg hb] at q
   cases z:h b with
   | some x=>rw [z] at q;cases q;exact e2 _ z
   | none =>
     rw [z] at q
     cases mm:YH v with
     | false=>rfl
     | true=>have:=ZcJ q mm;cases this
end L2
set_option maxHeartbeats 2000000
namespace L2
open PySem
theorem Sep.im {Δ:Rs}{H:Hp}{a:Addr}{R T:Xa}[U:Up R](S:Sep ((a,R)::Δ) H)(f:∀ h,R a h→Same h H→(∀ b o,H b=some o→YH o=false→h b=some o)→T a h):Sep ((a,T)::Δ) H:=by
 obtain ⟨h,l,r,S⟩:=S
 have s1:Same h fun b=>match h b with | some o=>some o | none=>some_of H [] b:=fun b o e=>by simp only [e]
 have le:Same (fun b=>match h b with | some o=>some o | none=>some_of H [] b) H:=fun b o e=>by
   dsimp only at e
   cases q:h b with
   | some z=>rw [q] at e;cases e;exact l _ _ q
   | none=>rw [q] at e;exact Zdr _ _ e
 refine ⟨_,le,f _ (U.up r s1) le fun b o e m=>?_,S.mono fun b o e=>?_⟩
 · cases q:h b with
   | some z=>have:=l _ _ q;rw [e] at this;cases this;rfl
   | none=>exact Zdo e m
 · obtain ⟨e1,e2⟩:=cut_some.mp e
   refine cut_some.mpr ⟨e1,fun u q=>?_⟩
   try dsimp only at q
   cases z:h b with
   | some x=>rw [z] at q;cases q;exact e2 _ z
   | none =>
     rw [z] at q
     cases mm:YH u with
     | false=>rfl
     | true=>have:=ZcJ q mm;cases this
theorem ZhM {x:Str}(h:ZH x):IsVal (.str x):=by
 refine ⟨by have:=h.2.1;omega,?_⟩
 rw [List.all_eq_true]
 intro c hc
 have:=List.all_eq_true.mp h.2.2 c hc
 unfold UY at this
 unfold Yo
 simp only [Bool.and_eq_true,decide_eq_true_eq] at this ⊢
 omega
end L2
set_option maxHeartbeats 2000000
namespace L2
open PySem
end L2
set_option maxHeartbeats 2000000
namespace L2
open PySem PySem.Spec PyProof.Rows
def Itz (K:PySem.W.Frag)(l1 l2:Addr):It :=
 ⟨fun i H=>∃ xs ys x y,SqL K H l1 xs∧SqL K H l2 ys∧xs[i]?=some x∧ys[i]?=some y,
  fun i H v H'=>∃ t x y,H t=none∧(∀ xs,SqL K H l1 xs→xs[i]?=some x)∧(∀ ys,SqL K H l2 ys→ys[i]?=some y)∧v=.ref t∧H'=upd H t (.tup [x,y]),
  fun i H=>∃ xs ys,SqL K H l1 xs∧SqL K H l2 ys∧(xs.length≤i∨ys.length≤i)⟩
theorem Zhw {P:Program}{w:World}{K:PySem.W.Frag}{elts:List Expr}{x1:Nat}{tp:Pos}{z TI TO i1 i2 l1 l2:Addr}(D:ZipApart z TI TO i1 i2 l1 l2)(hTl1:l1≠TI)(hTl2:l2≠TI) :
   Wx P w K (.Tuple elts x1 tp) (Itz K l1 l2) [z,TI,TO,i1,i2] z (fun i h=>IsZip h z TI TO .none∧IsPair h TI (.ref i1) (.ref i2)∧(∃ a b,IsPair h TO a b)∧h.IsListIter i1 l1 i∧h.IsListIter i2 l2 i) where
 mem:=by simp
 obj:=fun i h st b hb=>by
   obtain ⟨hz,hTI,⟨a,c,hTO⟩,⟨o1,ho1,c1,d1⟩,⟨o2,ho2,c2,d2⟩⟩:=st
   simp only [List.mem_cons,List.not_mem_nil,or_false] at hb
   rcases hb with q | q | q | q | q
   · rw [q];exact ⟨_,hz,fun v z=>by cases z⟩
   · rw [q];exact ⟨_,hTI,fun v z=>by cases z⟩
   · rw [q];exact ⟨_,hTO,fun v z=>by cases z⟩
   · rw [q];exact ⟨o1,ho1,fun v z=>by rw [d1] at z;cases z⟩
   · rw [q];exact ⟨o2,ho2,fun v z=>by rw [d2] at z;cases z⟩
 keep:=fun i h h' st k=>by
   obtain ⟨hz,hTI,⟨a,c,hTO⟩,h1,h2⟩:=st
   exact ⟨k z (by simp) _ hz,k TI (by simp) _ hTI,⟨a,c,k TO (by simp) _ hTO⟩,h1.at fun o y=>k i1 (by simp) o y,h2.at fun o y=>k i2 (by simp) o y⟩
 item:=by
   intro X hP hw hK hc i pins s σ H E I hf st hg
   subst hP hw hK
   obtain ⟨hz,hTI,⟨a,b,hTO⟩,h1,h2⟩:=st
   obtain ⟨xs,ys,x,y,hq1,hq2,hx,hy⟩:=hg
   obtain ⟨its1,rv1,p1,hz1⟩:=I.list hq1
   obtain ⟨its2,rv2,p2,hz2⟩:=I.list hq2
   obtain ⟨u1,hu1,ru1⟩:=rv1.get hx
   obtain ⟨u2,hu2,ru2⟩:=rv2.get hy
   refine wpAny_pyNext_zip_item D hz hTI hTO h1 h2 p1.isList p2.isList (by simpa using hu1) (by simpa using hu2) fun h' g1 g2 g3 g4 g5 g6 g7=>?_
   refine ⟨_,rfl,wpAny_letOwnedTupleGo_zip g1 fun h2' g1' hs2=>?_⟩
   have hzl:z < s.heap.objs.size:=Heap.lt_size hz
   have hTIl:TI < s.heap.objs.size:=Heap.lt_size hTI
   have hTOl:TO < s.heap.objs.size:=Heap.lt_size hTO
   have hi1l:i1 < s.heap.objs.size:=by obtain ⟨o,ho,_⟩:=h1;exact Heap.lt_size ho
   have hi2l:i2 < s.heap.objs.size:=by obtain ⟨o,ho,_⟩:=h2;exact Heap.lt_size ho
   have g5':h'.get? s.heap.objs.size=some ({ cls:=.type "tuple",data:=.seq #[u1,u2] }:Obj):=g5
   generalize hO:({ cls:=.type "tuple",data:=.seq #[u1,u2] }:Obj)=O at g5'
   have I1:Inv X pins σ (upd H s.heap.objs.size (.tup [x,y])) { s with heap:=s.heap.push O,toks:=s.toks }:=by
     refine I.laid (t':=s.toks) (fun b o y=>Heap.get?_push_of_some _ y) (Nat.le_refl _) (show ObjOk X.prog X.w _ _ _ (.tup _) from ⟨by show 2≤sizeLine;decide,[u1,u2],.cons ru1 (.cons ru2 .nil),?_⟩)
     rw [← hO];exact IsTup.new _ _
   have hfree:=I.hok.fresh (Nat.le_refl s.heap.objs.size)
   have hf2:∀ b∈[z,TI,TO,i1,i2],Yw X pins (upd H s.heap.objs.size (.tup [x,y])) b:=fun b hb=>by
     obtain ⟨f0,f1⟩:=hf b hb
     have hb':b≠s.heap.objs.size:=by
       simp only [List.mem_cons,List.not_mem_nil,or_false] at hb
       rcases hb with q | q | q | q | q<;>(rw [q];exact Nat.ne_of_lt (by assumption))
     exact ⟨by rw [Zo hb'];exact f0,f1⟩
   have I2:Inv X pins σ (upd H s.heap.objs.size (.tup [x,y])) { s with heap:=h2',toks:=s.toks }:=by
     refine I1.turned2 (t':=s.toks) (h':=h2') (fun b o hb y=>?_) hf2
     have n1:b≠z:=fun q=>hb (by simp [q])
     have n2:b≠TO:=fun q=>hb (by simp [q])
     have n3:b≠i1:=fun q=>hb (by simp [q])
     have n4:b≠i2:=fun q=>hb (by simp [q])
     rw [hs2.2 b n1]
     rcases Heap.get?_push_cases y with ⟨q1,q2⟩ | y
     · rw [q1,q2];exact g5'
     · exact g7 b o n1 n2 n3 n4 y
   refine ⟨.ref s.heap.objs.size,_,I2,rfl,⟨s.heap.objs.size,x,y,hfree,fun ys hy'=>by rw [I.list_inj hy' hq1];exact hx,fun ys' hy'=>by rw [I.list_inj hy' hq2];exact hy,rfl,rfl⟩,⟨g1',?_,⟨u1,u2,?_⟩,?_,?_⟩,fun b hb=>(hf2 b hb).1⟩
   · show h2'.get? TI=_
     rw [hs2.2 TI D.TIz];exact g7 TI _ D.TIz D.TITO D.TIi1 D.TIi2 hTI
   · show h2'.get? TO=_
     rw [hs2.2 TO D.TOz];exact g2
   · exact g3.at fun o y=>by rw [hs2.2 i1 D.i1z];exact y
   · exact g4.at fun o y=>by rw [hs2.2 i2 D.i2z];exact y
 done:=by
   intro X hP hw hK hc i pins s σ H E I hf st hg
   subst hP hw hK
   obtain ⟨hz,hTI,⟨a,b,hTO⟩,h1,h2⟩:=st
   obtain ⟨xs,ys,hq1,hq2,hle⟩:=hg
   obtain ⟨its1,rv1,p1,hz1⟩:=I.list hq1
   obtain ⟨its2,rv2,p2,hz2⟩:=I.list hq2
   have l1:=rv1.length
   have l2:=rv2.length
   refine wpAny_pyNext_zip_end (I.ok.hd hc) D hz hTI hTO h1 h2 p1.isList p2.isList ?_ fun h' eb=>⟨rfl,I.turned2 (t':=s.toks) (fp:=[z,TI,TO,i1,i2]) (fun b o hb y=>eb b o (fun q=>hb (by simp [q])) (fun q=>hb (by simp [q])) (fun q=>hb (by simp [q])) (fun q=>hb (by simp [q])) y) hf⟩
   rcases hle with q | q
   · exact .inl (Array.getElem?_eq_none (by simp;omega))
   · exact .inr (Array.getElem?_eq_none (by simp;omega))
 self:=fun _ _ _ _ _ st h=>wpAny_pyIter_zip st.1 h
def iZip (K:PySem.W.Frag)(ta tb:TE):TI:=fun σ H R=>ta σ H fun v H1=>tb σ H1 fun u H2=>∃ a b xs ys,[v,u]=[V.ref a,V.ref b]∧H2 a=some (.lst xs)∧H2 b=some (.lst ys)∧R (Itz K a b) H2
section
variable {X:Cx}
theorem Zda:bootBuiltins "zip"=some (.type "zip"):=by decide +kernel
theorem ZeZ {l m:Expr}{ta tb:TE}{elts:List Expr}{x1:Nat}{tp p pos:Pos}(hg:Gl X "zip")(hm:X.mg "zip"=none)(hl:PE X l ta)(hr:PE X m tb)
   (he:starEach [l,m] X.env=(false,eval l X.env)::starEach [m] X.env:=by rfl) (he2:starEach [m] X.env=[(false,eval m X.env)]:=by rfl) (hpl:(backTo pos (starEach [m] X.env)).any (·.1)=false:=by rfl):PI X (.Tuple elts x1 tp) (.Call (.Name "zip" p) [l,m] [] pos) (iZip X.K ta tb):=by
 intro pins s σ H R I h
 have ha:PA X [l,m] (Xb ta (Xb tb YX)):=Ym hl (Ym hr Za he2) he
 refine wpAny_Call_Name_kw (WC I hg hm Zda ?_)
 refine PyProof.Rows.callWith_type1 (Zn (ha pos pins s σ H (fun vs H2=>∃ a b xs ys,vs=[V.ref a,V.ref b]∧H2 a=some (.lst xs)∧H2 b=some (.lst ys)∧R (Itz X.K a b) H2) I h) fun us s1 ⟨vs,H1,I1,r1,a,b,xs,ys,e,ea,eb,q⟩=>?_) he hpl
 subst e
 obtain ⟨u1,u2,rfl,r2,r3⟩:∃ u1 u2,us=[u1,u2]∧RelV (V.ref a) u1∧RelV (V.ref b) u2:=by
   cases r1 with
   | cons p t=>cases t with
     | cons p2 t2=>cases t2;exact ⟨_,_,rfl,p,p2⟩
 cases r2
 cases r3
 obtain ⟨z1,its1,n1,rv1,hl1,eo1⟩:=I1.lstM ea
 obtain ⟨z2,its2,n2,rv2,hl2,eo2⟩:=I1.lstM eb
 have ha1:a < s1.heap.objs.size:=Heap.lt_size eo1
 have hb1:b < s1.heap.objs.size:=Heap.lt_size eo2
 refine call_zip_2 ⟨_,eo1,rfl,n1,rfl⟩ ⟨_,eo2,rfl,n2,rfl⟩ fun h' g1 g2 g3 g4 g5 g6 g7=>wpAny_pyIter_zip g1 ?_
 refine ⟨s1.heap.objs.size+4,[s1.heap.objs.size+4,s1.heap.objs.size+2,s1.heap.objs.size+3,s1.heap.objs.size,s1.heap.objs.size+1],_,_,H1,rfl,I1.kept (t':=s1.toks) g7,Zhw (l1:=a) (l2:=b) ⟨?_,?_,?_,?_,?_,?_,?_,?_,?_,?_,?_,?_,?_,?_,?_,?_,?_,?_⟩ ?_ ?_,⟨g1,g2,⟨_,_,g3⟩,g4,g5⟩,fun c hc=>?_,q⟩
 rotate_right
 · simp only [List.mem_cons,List.not_mem_nil,or_false] at hc
   have up:∀ k,Yw X pins H1 (s1.heap.objs.size+k):=fun k=>I1.fpOk (Nat.le_add_right _ k) (I1.hok.fresh (Nat.le_add_right _ k))
   rcases hc with q | q | q | q | q
   · rw [q];exact up 4
   · rw [q];exact up 2
   · rw [q];exact up 3
   · rw [q];exact up 0
   · rw [q];exact up 1
 all_goals
   first
     | exact Nat.ne_of_lt (by first | (apply Nat.lt_of_lt_of_le (by assumption);omega) | (simp only [Nat.add_lt_add_iff_left];decide) | (show _ < _+_;exact Nat.lt_add_of_pos_right (by decide)))
     | exact Nat.ne_of_gt (by first | (simp only [Nat.add_lt_add_iff_left];decide) | exact Nat.lt_add_of_pos_right (by decide))
end
end L2
set_option maxHeartbeats 2000000
namespace L2
open PySem PySem.Spec PyProof.Rows
mutual
inductive DatT (K:PySem.W.Frag)(H:Hp):V→PyData→Prop
 | non:DatT K H .non .none
 | int (i):DatT K H (.int i) (.int i)
 | str (x):DatT K H (.str x) (.str x)
 | tup {a xs ds}:SqT K H a xs→DatTs K H xs ds→DatT K H (.ref a) (.tuple ds)
inductive DatTs (K:PySem.W.Frag)(H:Hp):List V→List PyData→Prop
 | nil:DatTs K H [] []
 | cons {v d vs ds}:DatT K H v d→DatTs K H vs ds→DatTs K H (v::vs) (d::ds)
end
section
variable {X:Cx}{pins:List (Addr×Obj)}{σ:St}{H:Hp}{s:Shared}
mutual
theorem DatT.reads (I:Inv X pins σ H s):∀{v d}(u:Value),DatT X.K H v d→RelV v u→d.hasDict=false∧∃ as,Reads s.heap u d as
 | _,_,u,.non,r=>by cases (show u=.none from r);exact ⟨rfl,_,.none⟩
 | _,_,u,.int i,r=>by obtain ⟨t,e⟩:=(show ∃ t,u=.int i t from r);subst e;exact ⟨rfl,_,.int i t⟩
 | _,_,u,.str x,r=>by obtain ⟨t,e⟩:=(show ∃ t,u=.str x t from r);subst e;exact ⟨rfl,_,.str x t⟩
 | _,_,u,.tup (a:=a) (xs:=xs) e q,r=>by
   cases (show u=.ref a from r)
   obtain ⟨its,rv,⟨o,g,c,n,d⟩,_⟩:=I.tuple e
   obtain ⟨nd,as,ra⟩:=DatTs.reads I its q rv
   exact ⟨by simpa [PyData.hasDict] using nd,_,.tuple g c d (by simpa using ra)⟩
theorem DatTs.reads (I:Inv X pins σ H s):∀{vs ds}(us:List Value),DatTs X.K H vs ds→Vals vs us→PyData.hasDictAll ds=false∧∃ as,ReadsAll s.heap us ds as
 | _,_,_,.nil,.nil=>⟨rfl,_,.nil⟩
 | _,_,_,.cons r t,.cons rv tv=>by
   obtain ⟨n1,as,r1⟩:=DatT.reads I _ r rv
   obtain ⟨n2,bs,r2⟩:=DatTs.reads I _ t tv
   exact ⟨by simp [PyData.hasDictAll,n1,n2],_,.cons r1 r2⟩
end
end
end L2
set_option maxHeartbeats 2000000
namespace L2
open PySem
def Zeb (x:Str):Prop:=∀ c∈x.cps.toList,c < 1114112
theorem ZlD {x:Str}(h:Zeb x):PyData.strOk x=true:=by
 show x.cps.all (fun c=>decide (c < 1114112))=true
 rw [← Array.all_toList,List.all_eq_true]
 exact fun c hc=>decide_eq_true (h c hc)
theorem ZeS {H:Hp}{a:Addr}{xs:List Str}(e:H a=some (.lst (xs.map V.str)))(h:∀ x∈xs,Zeb x):∃ d,DataOf H (.ref a) d∧d=.list (xs.map PyData.str)∧d.canLay0=true∧d.depth≤60:=by
 have h1:∀ xs:List Str,DatasOf H (xs.map V.str) (xs.map PyData.str):=by
   intro xs
   induction xs with
   | nil=>exact .nil
   | cons x r ih=>exact .cons (.str x) ih
 have h2:∀ xs:List Str,(∀ x∈xs,Zeb x)→PyData.canLayAll0 (xs.map PyData.str)=true:=by
   intro xs
   induction xs with
   | nil=>intro _;rfl
   | cons x r ih =>
     intro h
     rw [List.map_cons,PyData.canLayAll0,ih fun y hy=>h y (List.mem_cons_of_mem _ hy)]
     show (PyData.strOk x&&true)=true
     rw [ZlD (h x List.mem_cons_self)];rfl
 have h3:∀ xs:List Str,PyData.depthAll (xs.map PyData.str)=0:=by
   intro xs
   induction xs with
   | nil=>rfl
   | cons x r ih=>rw [List.map_cons,PyData.depthAll,ih];rfl
 refine ⟨_,.lst e (h1 xs),rfl,?_,?_⟩
 · rw [PyData.canLay0];exact h2 xs h
 · rw [PyData.depth,h3];decide
end L2
set_option maxHeartbeats 2000000
namespace L2
open PySem PySem.W PySem.Spec PyProof.Rows
section
variable {X:Cx}
end
end L2
set_option maxHeartbeats 2000000
namespace L2
open PySem
def tCut (t u:TS):TS:=fun D σ H=>∃ I:St→Hp→Prop,t { D with nx:=I } σ H∧∀ σ' H',I σ' H'→u D σ' H'
theorem WY {X:Cx}{st:Stmt}{rest:List Stmt}{t u:TS}(h1:PS X st t)(h2:PSs X rest u):PSs X (st::rest) (tCut t u):=by
 intro pins s σ H D I h
 obtain ⟨J,h,g⟩:=h
 refine wpAny_execs_cons (Zn (h1 pins s σ H { D with nx:=J } I h) fun f s1 q=>?_)
 cases f with
 | next =>
   obtain ⟨σ',H',I',q⟩:=q
   exact h2 pins s1 σ' H' D I' (g _ _ q)
 | ret v=>exact q
 | brk=>exact q
 | cont=>exact q
end L2
set_option maxHeartbeats 2000000
namespace L2
open PySem PySem.Spec PyProof.Rows
section
variable {X:Cx}{pins:List (Addr×Obj)}{σ:St}{H:Hp}{s:Shared}{d:Addr}{o:Obj}{kvs:List (ZU×V)}
end
section
variable {X:Cx}{tg:Expr}
end
end L2
set_option maxHeartbeats 2000000
namespace L2
open PySem PySem.W PySem.Spec PyProof.Rows
section
variable {X:Cx}
theorem Vk:YO X (.type "int") (fun xs H Q=>∃ (x:Str) (n:Int),xs=[.str x]∧PySem.intText? x=some n∧x.length≤640∧Q (.int n) H):=by
 intro pins s σ H xs us Q I r h
 obtain ⟨x,n,rfl,e,hl,q⟩:=h
 obtain ⟨u,rfl,t,rfl⟩:=YK r
 exact PySem.W.KIN.call_text e hl ⟨.int n,H,I.tok _,⟨_,rfl⟩,q⟩
end
end L2
set_option maxHeartbeats 2000000
namespace L2
open PySem
def Wi (m:Nat):List Nat:=(Nat.toDigits 10 m).map Char.toNat
theorem Uh {m c:Nat}(h:c∈Wi m):48≤c∧c≤57:=by
 obtain ⟨ch,hch,e⟩:=List.mem_map.mp h
 have r:=PyProof.Rows.digit_range (Nat.isDigit_of_mem_toDigits (by decide) (by decide) hch)
 rw [← e];exact r
theorem Zbx (i:Int):∃ m:Nat,((Str.ofString (toString i)).cps.toList=Wi m∧i=m)∨((Str.ofString (toString i)).cps.toList=45::Wi m∧i=-(m:Int)):=by
 cases i with
 | ofNat m=>exact ⟨m,.inl ⟨PySem.W.KIN.signs_num m,rfl⟩⟩
 | negSucc m =>
   refine ⟨m+1,.inr ⟨?_,by omega⟩⟩
   rw [PyProof.Rows.signs_ofString]
   show ("-"++Nat.repr (m+1)).toList.map Char.toNat=_
   rw [String.toList_append,List.map_append,Nat.toList_repr]
   rfl
theorem Zfc {i:Int}{c:Nat}(h:c∈(Str.ofString (toString i)).cps.toList):c=45∨(48≤c∧c≤57):=by
 obtain ⟨m,⟨e,_⟩ | ⟨e,_⟩⟩:=Zbx i
 · rw [e] at h;exact .inr (Uh h)
 · rw [e] at h
   rcases List.mem_cons.mp h with h | h
   · exact .inl h
   · exact .inr (Uh h)
theorem Zbl (m:Nat):NumText.digitsVal (Wi m)=m:=PySem.W.KIN.val_back m
theorem UJ {m k:Nat}(h:m < 10 ^ (k+1)):(Wi m).length≤k+1:=by
 unfold Wi
 rw [List.length_map]
 exact (Nat.length_toDigits_le_iff (by decide) (by omega)).mpr h
end L2
set_option maxHeartbeats 2000000
namespace L2
open PySem PySem.W PySem.Spec PyProof.Rows
section
variable {X:Cx}
end
end L2
set_option maxHeartbeats 2000000
namespace L2
open PySem PySem.Spec PyProof.Rows
theorem Zge {K:PySem.W.Frag}{a:Addr}{xs:List V}{g:TG}{tb:TS}{D:WJ}{σ:St}{H:Hp}(Pv:Nat→St→Hp→Prop)(h0:Pv 0 σ H)(hl:∀ i σ H,i≤xs.length→Pv i σ H→SqL K H a xs)
   (hs:∀ i x t σ H,xs[i]?=some x→H t=none→Pv i σ H→g (.ref t) σ (upd H t (.tup [.int (i:Int),x])) fun σ2 H2=>tb { D with nx:=Pv (i+1),ct:=Pv (i+1),bk:=D.nx } σ2 H2) (hd:∀ σ H,Pv xs.length σ H→D.nx σ H) :
   ∃ W:Nat→Nat→St→Hp→Prop,(∃ m,W 0 m σ H)∧∀ i m σ H,W i m σ H →
     ((Zbf K a).stop i H∧D.nx σ H)∨((Zbf K a).go i H∧∃ N:St→Hp→Prop,(∀ σ' H',N σ' H'→∃ m',m' < m∧W (i+1) m' σ' H')∧∀ y H',(Zbf K a).yld i H y H'→g y σ H' fun σ2 H2=>tb { D with nx:=N,ct:=N,bk:=D.nx } σ2 H2):=by
 refine ⟨fun i m σ H=>m=xs.length - i∧i≤xs.length∧Pv i σ H,⟨xs.length,by simp,Nat.zero_le _,h0⟩,?_⟩
 rintro i m σ H ⟨rfl,hi,p⟩
 have q:=hl i σ H hi p
 by_cases hlt:i < xs.length
 · refine .inr ⟨⟨xs,xs[i],q,by simp [hlt]⟩,Pv (i+1),fun σ' H' z=>⟨xs.length - (i+1),by omega,rfl,hlt,z⟩,fun y H' hy=>?_⟩
   obtain ⟨t,x,ht,hx,rfl,rfl⟩:=hy
   exact hs i x t σ H (hx xs q) ht p
 · have e:i=xs.length:=by omega
   subst e
   exact .inl ⟨⟨xs,q,Nat.le_refl _⟩,hd σ H p⟩
end L2
set_option maxHeartbeats 2000000
namespace L2
open PySem PySem.Spec PyProof.Rows
inductive Pg where
 | set (x:Str) (v:V) (s:Str)
 | look (x:Str)
 | slot (w s:Str)
 | pass
 | blk (w:Str) (ps:List Pg)
 | inn (s:Str) (ps:List Pg)
def Pg.word:Pg→Str
 | .set _ _ _=>"set"
 | .look _=>"look"
 | .slot w _=>w
 | .pass=>"pass"
 | .blk w _=>w
 | .inn _ _=>"in"
def Pg.inner:Pg→List Pg
 | .blk _ ps=>ps
 | .inn _ ps=>ps
 | _=>[]
mutual
def Pg.many:Pg→Nat
 | .blk _ ps=>1+Pg.manys ps
 | .inn _ ps=>1+Pg.manys ps
 | _=>1
def Pg.manys:List Pg→Nat
 | []=>0
 | p::ps=>p.many+Pg.manys ps
end
theorem Pg.many_eq (p:Pg):p.many=1+Pg.manys p.inner:=by
 cases p<;>rfl
end L2
set_option maxHeartbeats 2000000
namespace L2
open PySem PySem.Spec PyProof.Rows PyProof.Rows.KTD
def KTup (K:PySem.W.Frag)(b:Addr)(xs:List V):Prop:=∃ (o:Obj) (its:Array Value) (n:Nat),K.lookup b=some o∧o.cls=.type "tuple"∧o.data=.seq its n∧its.size≤sizeLine∧Vals xs its.toList
theorem KTup.sq {K:PySem.W.Frag}{b:Addr}{xs:List V}{H:Hp}(h:KTup K b xs):SqT K H b xs:=.inr h
def KDic (K:PySem.W.Frag)(d:Addr)(D:List (Str×List V)):Prop:=(d == sysModules)=false∧∃ o es ep,K.lookup d=some o∧o.ExactDict∧o.data=.dict es ep∧KTD.Rows (fun xs v=>∃ b,v=Value.ref b∧KTup K b xs) es.toList D
theorem KDic.tab {K:PySem.W.Frag}{d:Addr}{D:List (Str×List V)}{h:Heap}(T:KDic K d D)(k:K.In h):KTD.TabOf (fun xs v=>∃ b,v=Value.ref b∧KTup K b xs) h d D:=let ⟨a,o,es,ep,e,r⟩:=T;⟨a,o,es,ep,k _ _ e,r⟩
section
variable {δ:Type}{Rr:δ→Value→Prop}{prog:Program}{w:World}{A:Around}{E:Value→Shared→Prop}{s:Shared}{a:Addr}{D:List (Str×δ)}{k:Str}{tk:Tok}
theorem ZgG {Q:Option Value→Shared→Prop}(T:TabOf Rr s.heap a D)(h1:∀ d v,datumAt k D=some d→Rr d v→Q (some v) { s with toks:=s.toks+1 })(h2:datumAt k D=none→Q none { s with toks:=s.toks+1 }) :
   wpAny (model prog w) A (dictGet a (.str k tk)) Q E s:=by
 obtain ⟨_,o,es,ep,ho,hc,hd,hr⟩:=T
 unfold dictGet
 try with_reducible refine wpAny_holding ?_
 refine wpAny_bind (wpAny_pyHash_str (wpAny_bind (kt_dictFind_strs (s:={ s with toks:=s.toks+1 }) ho hd (by obtain ⟨l⟩:=es;simpa using hr.exact) ?_)))
 have hq:Q (findBy (fun k v=>v.isStr k) es k) { s with toks:=s.toks+1 }:=by
   have hf:findBy (fun k v=>v.isStr k) es k=(es.toList.find? fun e=>e.key.isStr k).map (·.val):=by
     obtain ⟨l⟩:=es
     simp [findBy]
   rw [hf]
   cases hat:datumAt k D with
   | some d=>obtain ⟨v,hv,hfl⟩:=hr.find_some hat;rw [hv];exact h1 d v hat hfl
   | none=>rw [hr.find_none hat];exact h2 hat
 rw [findBy_of_findIdx?] at hq
 cases hi:es.findIdx? fun e=>e.key.isStr k with
 | none=>rw [hi] at hq;exact wpAny_pure hq
 | some i=>rw [hi] at hq;exact wpAny_bind (wpAny_dictEntries (s:={ s with toks:=s.toks+1 }) ho hd (wpAny_pure hq))
theorem ZeA:MeetsIn prog w (Builtin.«dict.get» ⟨[.ref a,.str k tk],[]⟩) (fun _ R s=>TabOf Rr s.heap a D∧(∀ d v,datumAt k D=some d→Rr d v→R (.ok (.ret v)) { s with toks:=s.toks+1 })∧(datumAt k D=none→R (.ok (.ret .none)) { s with toks:=s.toks+1 })) :=
 .of_wp fun A R s ⟨T,h1,h2⟩=>by
   show wpAny _ _ (dictGet a (.str k tk) >>= _) _ _ s
   refine wpAny_bind (ZgG T (fun d v ha hv=>wpAny_pure ⟨v,rfl,h1 d v ha hv⟩) fun hn=>?_)
   show wpAny _ _ (Builtin.Dict.missed a (.str k tk) >>= _) _ _ _
   exact wpAny_bind (wpAny_missed_other T.1 (wpAny_pure ⟨.none,rfl,h2 hn⟩))
end
def Zil (K:PySem.W.Frag)(D:List (Str×List V))(te:TE):TE:=fun σ H Q=>te σ H fun y H1=>∃ x,y=.str x∧(∀ b xs,datumAt x D=some xs→SqT K H1 b xs→Q (.ref b) H1)∧(datumAt x D=none→Q .non H1)
section
variable {X:Cx}{o e:Expr}{apos cpos:Pos}{te:TE}{d:Addr}{D:List (Str×List V)}
theorem Zjs (T:KDic X.K d D)(ho:PE X o (tC (.ref d)))(he:PE X e te)(m:M1 X o "get" apos e cpos):PE X (.Call (.Attribute o "get" apos) [e] [] cpos) (Zil X.K D te):=by
 intro pins s σ H Q I h
 refine wpAny_Call_method m.base m.few m.line PySem.F.plainAttrs_dict PySem.F.slot_dict_get PySem.F.type_dict_get (Zn (ho pins s σ H (fun v H1=>v=.ref d∧Zil X.K D te σ H1 Q) I ⟨rfl,h⟩) fun u s1 ⟨x,H1,I1,rx,ex,q1⟩=>?_)
 subst ex
 obtain rfl:u=Value.ref d:=rx
 obtain ⟨o',es,ep,lk,hc,_⟩:=T.2
 refine ⟨⟨o',I1.kIn _ _ lk,hc.1⟩,fun b e=>by injection e with e;subst e;exact ⟨o',I1.kIn _ _ lk,hc.2.1⟩,?_⟩
 rw [m.trees]
 refine Calls.callWith_builtin rfl (Calls.evalArgs_plain (Calls.spliced_cons (Zn (he pins s1 σ H1 _ I1 q1) fun iv s2 ⟨y,H2,I2,ry,x,ey,q2,q3⟩=>Calls.spliced_nil ?_)))
 subst ey
 obtain ⟨t,rfl⟩:=ry
 refine call_meetsIn PySem.F.slot_dict_get ⟨o',I2.kIn _ _ lk,hc.1⟩ PySem.F.entry_dict_get (PySem.F.args_dict_get_2 _ _) (ZeA (D:=D) (Rr:=fun xs v=>∃ b,v=Value.ref b∧KTup X.K b xs)) ⟨T.tab I2.kIn,fun xs v ha hv=>?_,fun hn=>⟨.non,H2,I2.tok _,rfl,q3 hn⟩⟩
 obtain ⟨b,rfl,kt⟩:=hv
 exact ⟨.ref b,H2,I2.tok _,rfl,q2 b xs ha kt.sq⟩
end
end L2
set_option maxHeartbeats 2000000
namespace L2
open PySem PySem.Spec PyProof.Rows
section
variable {X:Cx}
end
mutual
theorem DatT.same {K:PySem.W.Frag}{H H':Hp}(s:Same H H'):∀{v d},DatT K H v d→DatT K H' v d
 | _,_,.non=>.non
 | _,_,.int i=>.int i
 | _,_,.str x=>.str x
 | _,_,.tup e q=>.tup (e.tf s.tf) (DatTs.same s q)
theorem DatTs.same {K:PySem.W.Frag}{H H':Hp}(s:Same H H'):∀{vs ds},DatTs K H vs ds→DatTs K H' vs ds
 | _,_,.nil=>.nil
 | _,_,.cons r t=>.cons (DatT.same s r) (DatTs.same s t)
end
mutual
theorem DatT.tf {K:PySem.W.Frag}{H H':Hp}(s:TF H H'):∀{v d},DatT K H v d→DatT K H' v d
 | _,_,.non=>.non
 | _,_,.int i=>.int i
 | _,_,.str x=>.str x
 | _,_,.tup e q=>.tup (SqT.tf e s) (DatTs.tf s q)
theorem DatTs.tf {K:PySem.W.Frag}{H H':Hp}(s:TF H H'):∀{vs ds},DatTs K H vs ds→DatTs K H' vs ds
 | _,_,.nil=>.nil
 | _,_,.cons r t=>.cons (DatT.tf s r) (DatTs.tf s t)
end
theorem DatTs.len {K:PySem.W.Frag}{H:Hp}:∀{vs ds},DatTs K H vs ds→vs.length=ds.length
 | _,_,.nil=>rfl
 | _,_,.cons q t=>by rw [List.length_cons,List.length_cons,DatTs.len t]
theorem ZeF {K:PySem.W.Frag}{a:Addr}{xs:List V}{g:TG}{te:TE}{σ:St}{D:Addr}{Q:VK}{H:Hp}(hn:xs.length≤sizeLine)(Pv:Nat→List V→Hp→Prop)(h0:Pv 0 [] (upd H D (.lst [])))
   (hl:∀ i ys H,Pv i ys H→ys.length=i∧SqL K H a xs)
   (hs:∀ i x ys H wa wb,xs[i]?=some x→Pv i ys H→g x (σ++[wa,wb]) H fun σ' H'=>(∃ wa wb,σ'=σ++[wa,wb])∧te σ' H' fun y H4=>H4 D=some (.lst ys)∧Pv (i+1) (ys++[y]) (upd H4 D (.lst (ys++[y]))))
   (hd:∀ ys H,Pv xs.length ys H→Q (.ref D) H):ZaH (Itl K a) g te σ D Q H:=by
 refine ⟨fun i m ys H=>m=xs.length - i∧i≤xs.length∧Pv i ys H,⟨xs.length,by simp,Nat.zero_le _,h0⟩,?_⟩
 rintro i m ys H2 ⟨rfl,hi,p⟩
 obtain ⟨hlen,el⟩:=hl i ys _ p
 by_cases hlt:i < xs.length
 · have ha:=List.getElem?_eq_getElem hlt
   refine .inr ⟨⟨_,_,el,ha⟩,_,fun y H4 (q:H4 D=some (.lst ys)∧Pv (i+1) (ys++[y]) (upd H4 D (.lst (ys++[y]))))=>⟨q.1,by omega,xs.length - (i+1),by omega,rfl,hlt,q.2⟩,fun wa wb v H3 y=>?_⟩
   obtain ⟨e1,e2⟩:=y
   subst e1
   exact hs i _ ys _ wa wb (e2 _ el) p
 · have e:i=xs.length:=by omega
   subst e
   exact .inl ⟨⟨_,el,Nat.le_refl _⟩,hd ys H2 p⟩
theorem WW {α:Type}{xs:List α}{n:Nat}{x:α}(h:xs.length=n+1)(e:xs[n]?=some x):YU xs (-1)=some x:=by
 have hi:VR xs.length (-1)=some n:=by
   unfold VR
   rw [if_neg (by decide),if_pos (by omega)]
   exact congrArg some (by omega)
 unfold YU
 rw [hi];exact e
end L2
set_option maxHeartbeats 1000000
namespace L2
open PySem PySem.Spec PyProof.Rows
section
variable {prog:Program}{w:World}{A:Around}{E:Value→Shared→Prop}{h:Heap}{g:Array GenState}{d:Drawn}{t:Nat}{os:OsState}
variable {nm q:Str}{C N:Addr}{bs bm:List Value}{sn:List Str}{sub:List Value}{ab:Bool}{col:Option Bool}{dd:Option Addr}{k0 k1 k2 k3 k5:Option Value}
end
end L2
set_option maxHeartbeats 1000000
namespace L2
open PySem PySem.Spec PyProof.Rows
section
variable {prog:Program}{w:World}{A:Around}{E:Value→Shared→Prop}{h:Heap}{g:Array GenState}{d:Drawn}{t:Nat}{os:OsState}
variable {nm q:Str}{C N x:Addr}{bs bm:List Value}{sn:List Str}{sub:List Value}{ab:Bool}{col:Option Bool}{dd:Option Addr}{k0 k1 k2 k3 k5:Option Value}{name:Str}{v:Value}{o:Obj}
end
end L2
set_option maxHeartbeats 1000000
namespace L2
open PySem PySem.Spec PyProof.Rows
section
variable {M:Model}{A:Around}{E:Value→Shared→Prop}{s:Shared}{base:Heap}{n:Nat}{H:Hp}{env:Env}{outer:List Env}{L ea C dx:Addr}
end
end L2
set_option maxHeartbeats 1000000
namespace L2
open PySem PySem.Spec PyProof.Rows
section
variable {X:Cx}{pins:List (Addr×Obj)}{σ:St}{H H1 H2:Hp}{s s1 s2:Shared}{h':Heap}
end
section
variable {P:Program}{w:World}{K:PySem.W.Frag}{mg:Str→Option Value}{base:Heap}{k:Nat}{f:Addr}{fd:FuncData}{ps:List Str}{sp sp':Sp}{CX:Uv}
end
end L2
set_option maxHeartbeats 1000000
namespace L2
open PySem PySem.Spec PyProof.Rows
section
variable {X:Cx}{pins:List (Addr×Obj)}{σ:St}{H:Hp}{s:Shared}
end
section
variable {X:Cx}{body suite:List Stmt}{b0:Stmt}{C0:Addr}{x0 n:Str}{i:Nat}{tb:(St→XK)→TS}{th:TS}{p0 hp pos:Pos}
end
end L2
set_option maxHeartbeats 1000000
namespace L2
open PySem PySem.Spec PyProof.Rows
section
variable {P:Program}{w:World}{K:PySem.W.Frag}{mg:Str→Option Value}{base:Heap}{j k:Nat}{C:Addr}{x m:Str}{ps:List Str}{sp:Sp}
end
section
variable {X:Cx}{EE:St→XK}{k:Nat}{f C:Addr}{fd:FuncData}{ps:List Str}{sp:Sp}{x m:Str}{p pos apos:Pos}{e o:Expr}{es:List Expr}{ta:TE}{t:TA}
end
end L2
set_option maxHeartbeats 1000000
namespace L2
open PySem PySem.Spec PyProof.Rows
section
variable {X:Cx}{o value:Expr}{pos pos':Pos}{ta tv:TE}
end
section
variable {X:Cx}{pins:List (Addr×Obj)}{σ:St}{H:Hp}{s:Shared}
end
section
variable {X:Cx}{EE:St→XK}{k:Nat}{C:Addr}{x:Str}{np cpos pos:Pos}{e:Expr}{t:TA}
end
end L2
set_option maxHeartbeats 1000000
namespace L2
open PySem PySem.Spec PyProof.Rows
open PySem.Builtin PySem.Builtin.ObjectAttr
section
variable {prog:Program}{w:World}{A:Around}{E:Value→Shared→Prop}{h:Heap}{g:Array GenState}{d:Drawn}{t:Nat}{os:OsState}
variable {nm q:Str}{C N a dx:Addr}{bs bm:List Value}{sn:List Str}{sub:List Value}{ab:Bool}{col:Option Bool}{dd:Option Addr}{k0 k1 k2 k3 k5:Option Value}{name:Str}{v:Value}{o:Obj}{vs:Array Value}{mA:Str→Option Value}
end
end L2
set_option maxHeartbeats 1000000
namespace L2
open PySem PySem.Spec PyProof.Rows
section
variable {X:Cx}{e:Expr}{pos:Pos}{ta:TE}
end
section
variable {X:Cx}
end
section
variable {X:Cx}{elt iter tg cnd:Expr}{xa xb:Str}{pos:Pos}{scope:Scope}{wi:TI}{te:TE}{tc:TT}{g:TG}
end
end L2
set_option maxHeartbeats 2000000
namespace L2
open PySem PySem.Spec PyProof.Rows
section
variable {X:Cx}
end
section
variable {prog:Program}{w:World}{A:Around}{E:Value→Shared→Prop}{s:Shared}
end
section
variable {X:Cx}
end
end L2
set_option maxHeartbeats 2000000
namespace L2
open PySem PySem.Spec PyProof.Rows
mutual
def Pg.dat:Pg→PyData
 | .set x v s=>.tuple [.str "set",.str x,XT v,.str s]
 | .look x=>.tuple [.str "look",.str x]
 | .slot w s=>.tuple [.str w,.str s]
 | .pass=>.tuple [.str "pass"]
 | .blk w ps=>.tuple [.str w,.tuple (Pg.dats ps)]
 | .inn s ps=>.tuple [.str "in",.str s,.tuple (Pg.dats ps)]
def Pg.dats:List Pg→List PyData
 | []=>[]
 | p::ps=>p.dat::Pg.dats ps
end
mutual
def Pg.ok:Pg→Prop
 | .set x v s=>ZH x∧IsVal v∧ZH s
 | .look x=>ZH x
 | .slot w s=>(w="back"∨w="copy")∧ZH s
 | .pass=>True
 | .blk w ps=>(w="begin"∨w="late")∧Pg.oks ps
 | .inn s ps=>ZH s∧Pg.oks ps
def Pg.oks:List Pg→Prop
 | []=>True
 | p::ps=>p.ok∧Pg.oks ps
end
mutual
def Pg.hgt:Pg→Nat
 | .blk _ ps=>Pg.hgts ps+1
 | .inn _ ps=>Pg.hgts ps+1
 | _=>0
def Pg.hgts:List Pg→Nat
 | []=>0
 | p::ps=>max p.hgt (Pg.hgts ps)
end
def Pg.isB:Pg→Bool
 | .blk _ _=>true
 | .inn _ _=>true
 | _=>false
theorem Pg.oks_at:∀{ps:List Pg}{i:Nat}{p:Pg},Pg.oks ps→ps[i]?=some p→p.ok
 | [],_,_,_,h=>by simp at h
 | q::ps,0,_,o,h=>by cases h;exact o.1
 | q::ps,i+1,p,o,h=>Pg.oks_at (ps:=ps) (i:=i) o.2 h
theorem Pg.hgts_at:∀{ps:List Pg}{i:Nat}{p:Pg},ps[i]?=some p→p.hgt≤Pg.hgts ps
 | [],_,_,h=>by simp at h
 | q::ps,0,_,h=>by cases h;exact Nat.le_max_left _ _
 | q::ps,i+1,p,h=>Nat.le_trans (Pg.hgts_at (ps:=ps) (i:=i) h) (Nat.le_max_right _ _)
theorem Pg.manys_app:∀ ps qs:List Pg,Pg.manys (ps++qs)=Pg.manys ps+Pg.manys qs
 | [],qs=>by show Pg.manys qs=0+Pg.manys qs;omega
 | p::ps,qs=>by
   have:=Pg.manys_app ps qs
   show p.many+Pg.manys (ps++qs)=p.many+Pg.manys ps+_
   omega
theorem Pg.dats_app:∀ ps qs:List Pg,Pg.dats (ps++qs)=Pg.dats ps++Pg.dats qs
 | [],qs=>rfl
 | p::ps,qs=>by show p.dat::Pg.dats (ps++qs)=p.dat::(Pg.dats ps++Pg.dats qs);rw [Pg.dats_app ps qs]
theorem Pg.dats_map:∀ ps:List Pg,Pg.dats ps=ps.map Pg.dat
 | []=>rfl
 | p::ps=>by show p.dat::Pg.dats ps=p.dat::ps.map Pg.dat;rw [Pg.dats_map ps]
theorem Pg.hgts_app:∀{ps qs:List Pg}{n:Nat},Pg.hgts ps≤n→Pg.hgts qs≤n→Pg.hgts (ps++qs)≤n
 | [],_,_,_,h=>h
 | p::ps,qs,n,a,h=>by
   have a':max p.hgt (Pg.hgts ps)≤n:=a
   have:=Pg.hgts_app (ps:=ps) (qs:=qs) (n:=n) (by omega) h
   show max p.hgt (Pg.hgts (ps++qs))≤n
   omega
theorem Pg.many_pos:∀ p:Pg,1≤p.many:=fun p=>by rw [Pg.many_eq];omega
theorem Pg.len_manys:∀ ps:List Pg,ps.length≤Pg.manys ps
 | []=>Nat.zero_le _
 | p::ps=>by
   have h1:=Pg.many_pos p
   have h2:=Pg.len_manys ps
   show ps.length+1≤p.many+Pg.manys ps
   omega
theorem Pg.inner_ok {p:Pg}(h:p.ok):Pg.oks p.inner:=by cases p<;>first | exact trivial | exact h.2
theorem Pg.inner_none {p:Pg}(h:p.isB=false):p.inner=[]:=by cases p<;>first | rfl | exact nomatch h
def Pg.rk:List Pg→Nat
 | []=>0
 | p::ps=>Pg.hgts (p::ps)+1
theorem Pg.rk_inner (p:Pg):Pg.rk p.inner≤p.hgt:=by
 cases p with
 | blk w ps=>cases ps<;>first | exact Nat.zero_le _ | exact Nat.le_refl _
 | inn s ps=>cases ps<;>first | exact Nat.zero_le _ | exact Nat.le_refl _
 | _=>exact Nat.zero_le _
theorem Pg.rk_at {ps:List Pg}{i:Nat}{p:Pg}(h:ps[i]?=some p):Pg.rk p.inner < Pg.rk ps:=by
 have h1:=Pg.rk_inner p
 have h2:=Pg.hgts_at h
 cases ps with
 | nil=>simp at h
 | cons q ps=>show _ < Pg.hgts (q::ps)+1;omega
theorem Pg.rk_le (ps:List Pg):Pg.rk ps≤Pg.hgts ps+1:=by cases ps<;>first | exact Nat.zero_le _ | exact Nat.le_refl _
theorem Pg.inner_many {p:Pg}:p.many=1+Pg.manys p.inner:=Pg.many_eq p
theorem Pg.manys_take {ps:List Pg}{i:Nat}{p:Pg}(h:ps[i]?=some p):Pg.manys (ps.take (i+1))=Pg.manys (ps.take i)+p.many:=by
 rw [List.take_add_one,h,Pg.manys_app]
 show _+(p.many+0)=_;omega
theorem Pg.manys_le {ps:List Pg}(i:Nat):Pg.manys (ps.take i)≤Pg.manys ps:=by
 have:=Pg.manys_app (ps.take i) (ps.drop i)
 rw [List.take_append_drop] at this;omega
theorem DatT.tupI {K:PySem.W.Frag}{H:Hp}{v:V}{ds:List PyData}(h:DatT K H v (.tuple ds)):∃ a xs,v=.ref a∧SqT K H a xs∧DatTs K H xs ds:=by
 cases h with
 | tup e q=>exact ⟨_,_,rfl,e,q⟩
theorem DatTs.at' {K:PySem.W.Frag}{H:Hp}:∀{vs ds}{i:Nat}{v:V},DatTs K H vs ds→vs[i]?=some v→∃ d,ds[i]?=some d∧DatT K H v d
 | _,_,_,_,.nil,h=>by simp at h
 | _,_,0,_,.cons a _,h=>by cases h;exact ⟨_,rfl,a⟩
 | _,_,i+1,_,.cons _ b,h=>DatTs.at' (i:=i) b h
theorem DatTs.append {K:PySem.W.Frag}{H:Hp}:∀{vs ds ws es},DatTs K H vs ds→DatTs K H ws es→DatTs K H (vs++ws) (ds++es)
 | _,_,_,_,.nil,h=>h
 | _,_,_,_,.cons a b,h=>.cons a (DatTs.append b h)
theorem DatTs.pg {K:PySem.W.Frag}{H:Hp}{vs:List V}{ps:List Pg}{i:Nat}{v:V}(h:DatTs K H vs (Pg.dats ps))(e:vs[i]?=some v):∃ p,ps[i]?=some p∧DatT K H v p.dat:=by
 obtain ⟨d,e1,e2⟩:=DatTs.at' h e
 rw [Pg.dats_map,List.getElem?_map] at e1
 obtain ⟨p,e3,rfl⟩:=Option.map_eq_some_iff.mp e1
 exact ⟨p,e3,e2⟩
theorem DatTs.pgs {K:PySem.W.Frag}{H:Hp}{vs:List V}{ps:List Pg}(h:DatTs K H vs (Pg.dats ps)):vs.length=ps.length:=by
 rw [DatTs.len h,Pg.dats_map,List.length_map]
theorem Zga (v:V):(XT v).depth=0:=by cases v<;>rfl
mutual
theorem Pg.deep:∀(p:Pg),p.dat.depth≤2 * p.hgt+1
 | .set x v s=>by
   show (PyData.tuple [.str "set",.str x,XT v,.str s]).depth≤1
   simp only [PyData.depth,PyData.depthAll,Zga];omega
 | .look x=>by show (PyData.tuple [.str "look",.str x]).depth≤1;simp only [PyData.depth,PyData.depthAll];omega
 | .slot w s=>by show (PyData.tuple [.str w,.str s]).depth≤1;simp only [PyData.depth,PyData.depthAll];omega
 | .pass=>by decide
 | .blk w ps=>by
   have:=Pg.deeps ps
   show (PyData.tuple [.str w,.tuple (Pg.dats ps)]).depth≤2 * (Pg.hgts ps+1)+1
   simp only [PyData.depth,PyData.depthAll];omega
 | .inn s ps=>by
   have:=Pg.deeps ps
   show (PyData.tuple [.str "in",.str s,.tuple (Pg.dats ps)]).depth≤2 * (Pg.hgts ps+1)+1
   simp only [PyData.depth,PyData.depthAll];omega
theorem Pg.deeps:∀(ps:List Pg),PyData.depthAll (Pg.dats ps)≤2 * Pg.hgts ps+1
 | []=>by show 0≤_;omega
 | p::ps=>by
   have h1:=Pg.deep p
   have h2:=Pg.deeps ps
   show max p.dat.depth (PyData.depthAll (Pg.dats ps))≤2 * max p.hgt (Pg.hgts ps)+1
   omega
end
end L2
set_option maxHeartbeats 4000000
namespace K72
open PySem L2
def top (i:Nat):Stmt:=PySem.Challenge.pw_roadsettings_k72_sheets_read.main.body.getD i (.Pass ⟨0,0,0,0⟩)
abbrev s_is_name:Stmt:=top 5
abbrev s_is_number:Stmt:=top 6
abbrev s_is_value:Stmt:=top 7
abbrev s_kinds_of:Stmt:=top 10
abbrev s_has_within:Stmt:=top 11
abbrev s_value_text:Stmt:=top 15
abbrev s_value_from:Stmt:=top 16
abbrev s_unslashed:Stmt:=top 17
abbrev s_number_from:Stmt:=top 18
abbrev s_parts_from:Stmt:=top 19
abbrev s_whole_words:Stmt:=top 20
abbrev s_part_from:Stmt:=top 21
abbrev s_kinds_in_row:Stmt:=top 22
abbrev s_head_from:Stmt:=top 23
abbrev s_heads_from:Stmt:=top 26
abbrev s_program_of:Stmt:=top 27
abbrev s_sheet_from:Stmt:=top 30
abbrev s_settings_ahead:Stmt:=top 31
abbrev s_setting_from:Stmt:=top 32
abbrev s_picks_from:Stmt:=top 33
abbrev s_check_told_once:Stmt:=top 34
abbrev s_check_names:Stmt:=top 35
abbrev s_l_cell_at:Stmt:=top 37
abbrev s_l_box:Stmt:=top 38
abbrev s_l_take:Stmt:=top 39
abbrev s_l_names:Stmt:=top 40
abbrev s_l_value:Stmt:=top 41
abbrev s_l_called:Stmt:=top 42
abbrev s_l_worth:Stmt:=top 43
abbrev s_l_program:Stmt:=top 44
abbrev s_l_written:Stmt:=top 45
abbrev s_l_rows:Stmt:=top 46
abbrev s_l_same:Stmt:=top 47
abbrev s_l_drawn:Stmt:=top 48
abbrev s_l_sheet_text:Stmt:=top 49
abbrev s_law:Stmt:=top 50
section
variable {P:Program}{w:World}{K:PySem.W.Frag}{mg:Str→Option Value}{base:Heap}
theorem scC:Zs ["_law_script","_law_k"] ["_law_script","_law_k"] (Zj s_l_cell_at):=⟨rfl,rfl,rfl,by decide +kernel,rfl,by decide +kernel,by decide +kernel⟩
theorem ZiZ {f:Addr}{fd:FuncData}(F:Fun K "_law_cell_at" "_law_cell_at" s_l_cell_at f fd)(T:ZZ mg):FnOk P w K mg base ZV 1 f fd ["_law_script","_law_k"] (ZfA K):=by
 refine F.ok scC (fun vs H Q E h=>?_) (fun cdv A outer s H vs Q E hr h=>?_)
 · obtain ⟨a,ns,k,rfl,_⟩:=h;rfl
 obtain ⟨a,ns,k,rfl,hS,h0,q⟩:=h
 refine ⟨_,Ze (ZS (ZA VF (pv 1) (Zm ZK rfl T.len PySem.boot_len (Ym (pv 0) Za)) (ZC _)) (Zi (Zp (ZB ZG (pv 0) (pv 1) (fun _ _=>rfl)))) ZE)
   (Zi (Zp Zd)),?_⟩
 refine ⟨_,rfl,_,rfl,a,_,rfl,.inl hS,_,_,rfl,rfl,_,rfl,?_⟩
 refine Wm (fun c=>?_) (fun c=>?_)
 · have c':k < (((ns.map V.int).length:Nat):Int):=of_decide_eq_true c
   rw [List.length_map] at c'
   have hk:k.toNat < ns.length:=by omega
   have ek:k=((k.toNat:Nat):Int):=by omega
   have hat:YU (ns.map V.int) k=some (.int ns[k.toNat]):=by
     have z:YU (ns.map V.int) ((k.toNat:Nat):Int)=some (.int ns[k.toNat]):=Zx (by rw [List.getElem?_map,List.getElem?_eq_getElem hk];rfl)
     rwa [← ek] at z
   exact ⟨_,rfl,_,rfl,a,_,_,_,rfl,rfl,hS,hat,q _⟩
 · exact q 0
theorem scB:Zs ["_law_script","_law_k","_law_cell"] ["_law_script","_law_k"] (Zj s_l_box):=⟨rfl,rfl,rfl,by decide +kernel,rfl,by decide +kernel,by decide +kernel⟩
theorem Zky {f:Addr}{fd:FuncData}(F:Fun K "_law_box" "_law_box" s_l_box f fd)(T:ZZ mg)(D:Def P w K mg base 1 "_law_cell_at" ["_law_script","_law_k"] (ZfA K)):FnOk P w K mg base ZV 2 f fd ["_law_script","_law_k"] (Ziu K):=by
 refine F.ok scB (fun vs H Q E h=>?_) (fun cdv A outer s H vs Q E hr h=>?_)
 · obtain ⟨a,ns,k,rfl,_⟩:=h;rfl
 obtain ⟨a,ns,k,rfl,hS,h0,h1,q⟩:=h
 refine ⟨_,Ze (Zr (i:=2) scB.nd rfl (Or.inl rfl) (Zq D hr (Ym (pv 0) (Ym (pv 1) Za))))
   (Zi (Zp (ZF (Ym (Zl Ug (Zm ZcM rfl T.abs (by decide +kernel) (Ym (pv 2) Za)) (ZY WF rfl T.int (by decide +kernel) (Ym (YT ZlI (Zm ZcM rfl T.abs (by decide +kernel) (Ym (pv 2) Za)) (Zl ZaM Zd Zd) (ZC _)) Za)))
     (Ym (Zl Ye (Zl Ye (Zl Wh (pv 2) Zd) (Zl Ug Zd (pv 1))) Zd) (Ym Zd Za)))))),?_⟩
 refine ⟨_,rfl,_,rfl,a,ns,k,rfl,hS,h0,fun r=>?_⟩
 refine ⟨_,rfl,_,rfl,⟨_,rfl,_,rfl,_,_,rfl,rfl,⟨by decide,by decide,by decide⟩,_,_,rfl,rfl,.inr ⟨_,rfl,?_⟩⟩⟩
 generalize hb:decide ((10:Int) ^ (Int.toNat 18)≤(if r < 0 then -r else r))=bb
 refine ⟨_,_,rfl,rfl,.inr (by cases bb<;>exact ⟨by decide,by decide⟩),_,rfl,_,_,rfl,rfl,(by show (0:Int) < _;decide),_,rfl,_,_,rfl,rfl,.inl ⟨by decide,by decide⟩,_,_,rfl,rfl,_,_,rfl,rfl,(by show 3≤sizeLine;decide),fun p hp=>?_⟩
 refine q p _ hp ⟨_,_,0,Zc,?_,by decide,by decide⟩ (Zh hp _)
 cases bb
 · simp
 · simp only [if_true,Int.mul_one];split<;>omega
theorem scT:Zs ["_law_box_here","_law_many","_law_found","_law_once","_law_twice"] ["_law_box_here","_law_many"] (Zj s_l_take):=⟨rfl,rfl,rfl,by decide +kernel,rfl,by decide +kernel,by decide +kernel⟩
theorem Zje {f:Addr}{fd:FuncData}(F:Fun K "_law_take" "_law_take" s_l_take f fd):FnOk P w K mg base ZV 1 f fd ["_law_box_here","_law_many"] (ZaF 4611686018427387904):=by
 refine F.ok scT (fun vs H Q E h=>?_) (fun cdv A outer s H vs Q E hr h=>?_)
 · obtain ⟨p,n,m,rfl,_⟩:=h;rfl
 obtain ⟨p,n,m,rfl,⟨a,b,c,hp,ha,hc,hcn⟩,hn,hm0,hmM,q⟩:=h
 refine ⟨_,Ze (ZS (ZA ZbQ (ZB ZG (pv 0) Zd (fun _ _=>rfl)) Zd (ZC _))
     (Ze (Zr (i:=2) scT.nd rfl (Or.inl rfl) (Zl Wh (ZB ZG (pv 0) Zd (fun _ _=>rfl)) (pv 1)))
       (Ze (Ui (Zl Zcl (ZB ZG (pv 0) Zd (fun _ _=>rfl)) (pv 1)) (Zfl (pv 0) Zd Zcq)) (Zi (Zp (pv 2))))) ZE)
   (Ze (Ui (Zl Ye (ZB ZG (pv 0) Zd (fun _ _=>rfl)) Zd) (Zfl (pv 0) Zd Zcq))
   (Ze (Zr (i:=3) scT.nd rfl (Or.inl rfl) (Zl Wh (Zl Ug (Zl Ye (ZB ZG (pv 0) Zd (fun _ _=>rfl)) (Zl Ug Zd (ZB ZG (pv 0) Zd (fun _ _=>rfl)))) (Zl Ye Zd (ZB ZG (pv 0) Zd (fun _ _=>rfl)))) Zd))
   (Ze (Zr (i:=4) scT.nd rfl (Or.inl rfl) (Zl Wh (Zl Ug (Zl Ye (pv 3) (ZB ZG (pv 0) Zd (fun _ _=>rfl))) (Zl Ye (Zl Wh (pv 3) Zd) Zd)) Zd))
   (Zi (Zp (Zl Wh (Zl Zjk (Zl Wh (Zl Ye (Zl Ug (pv 4) Zd) (pv 3)) Zd) Zd) (pv 1))))))),?_⟩
 refine ⟨_,rfl,p,_,_,_,rfl,rfl,SqL.of hp,rfl,_,_,rfl,rfl,_,rfl,?_⟩
 refine Wm (fun c'=>?_) (fun c'=>?_)
 · have h0:0 < a:=of_decide_eq_true c'
   refine ⟨_,rfl,p,_,_,_,rfl,rfl,SqL.of hp,rfl,_,rfl,_,_,rfl,rfl,hm0,?_⟩
   refine ⟨_,rfl,p,_,_,_,rfl,rfl,SqL.of hp,rfl,_,rfl,_,_,rfl,rfl,⟨hm0,by have h4:m < 4611686018427387904:=hmM;omega⟩,?_⟩
   refine ⟨_,rfl,p,_,_,_,rfl,rfl,hp,rfl,?_⟩
   refine ⟨_,rfl,?_⟩
   exact q _ _ (Int.emod_nonneg _ (by omega)) (Int.emod_lt_of_pos _ hm0) ⟨a / m,b,c,Zc,Int.ediv_nonneg ha (by omega),hc,by omega⟩ (Kp.upd _ _ _)
 · refine ⟨_,rfl,p,_,_,_,rfl,rfl,SqL.of hp,rfl,_,_,rfl,rfl,?_⟩
   refine ⟨_,rfl,p,_,_,_,rfl,rfl,hp,rfl,?_⟩
   have hp1:upd H p (.lst [.int a,.int b,.int (c+1)]) p=some (.lst [.int a,.int b,.int (c+1)]):=Zc
   refine ⟨_,rfl,p,_,_,_,rfl,rfl,SqL.of hp1,rfl,_,rfl,p,_,_,_,rfl,rfl,SqL.of hp1,rfl,_,_,rfl,rfl,.inl ⟨by decide,by decide⟩,_,_,rfl,rfl,_,rfl,p,_,_,_,rfl,rfl,SqL.of hp1,rfl,_,_,rfl,rfl,_,_,rfl,rfl,.inr ⟨by omega,by omega⟩,_,_,rfl,rfl,(by show (0:Int) < _;decide),?_⟩
   generalize hO:((b+48271 * (c+1)) * (39373+(c+1))) % 2147483647=once
   have hO0:0≤once:=by rw [← hO];exact Int.emod_nonneg _ (by decide)
   refine ⟨_,rfl,_,rfl,p,_,_,_,rfl,rfl,SqL.of hp1,rfl,_,_,rfl,rfl,_,rfl,_,_,rfl,rfl,(by show (0:Int) < _;decide),_,_,rfl,rfl,_,_,rfl,rfl,.inr ?_,_,_,rfl,rfl,(by show (0:Int) < _;decide),?_⟩
   · have:=Int.emod_nonneg once (show (40009:Int)≠0 by decide)
     have:=Int.emod_lt_of_pos once (show (0:Int) < 40009 by decide)
     exact ⟨by omega,by omega⟩
   generalize hW:((once+(c+1)) * (once % 40009+7)) % 2147483629=twice
   refine ⟨_,rfl,_,_,rfl,rfl,.inr ⟨by decide,by decide⟩,_,rfl,_,_,rfl,rfl,_,_,rfl,rfl,(by show (0:Int) < _;decide),_,_,rfl,rfl,⟨by decide,by decide⟩,_,rfl,_,_,rfl,rfl,hm0,?_⟩
   exact q _ _ (Int.emod_nonneg _ (by omega)) (Int.emod_lt_of_pos _ hm0) ⟨a,b,c+1,hp1,ha,by omega,by omega⟩ (Kp.upd _ _ _)
end
end K72
namespace L2
open PySem
theorem Vv {M:Model}{Γ:Ctx}{p:Pos}{t:Sem Fin}{fs:List Frame}{s s':Shared}{e:End}(h:Runs M Γ p t fs s e s'):s.toks≤s'.toks:=by
 induction h<;>first
   | exact Nat.le_refl _
   | assumption
   | (rename_i ih;exact Nat.le_trans (Nat.le_succ _) ih)
   | (rename_i ih1 ih2;exact Nat.le_trans ih1 ih2)
   | (simp only [Shared.setGen] at *;omega)
theorem ZeE {M:Model}{Γ:Ctx}{p:Pos}{g:Nat}{r:Resume}{s s':Shared}{res:GenResult}(h:Wakes M Γ p g r s res s'):s.toks≤s'.toks:=by
 unfold Wakes at h
 split at h
 · exact h.elim
 · split at h
   · obtain ⟨e1,s1,h1,_,_,rfl⟩:=h;have:=Vv h1;exact this
   · rw [h.2];exact Nat.le_refl _
   · rw [h.2];exact Nat.le_refl _
 · obtain ⟨e1,s1,h1,_,_,rfl⟩:=h;have:=Vv h1;exact this
 · rw [h.2];exact Nat.le_refl _
 · rw [h.2];exact Nat.le_refl _
theorem Zjg {α:Type}{M:Model}{Γ:Ctx}(n:Nat):∀(t:Sem α){Q:α→Pos→Shared→Prop}{E:Value→Pos→Shared→Prop}{p:Pos}{s:Shared},n≤s.toks→Sem.wp M Γ t Q E p s→Sem.wp M Γ t (fun a p' s'=>n≤s'.toks∧Q a p' s') (fun a p' s'=>n≤s'.toks∧E a p' s') p s:=by
 intro t
 induction t with
 | pure a=>intro Q E p s h w;rw [Sem.wp] at w ⊢;exact ⟨h,w⟩
 | raise a=>intro Q E p s h w;rw [Sem.wp] at w ⊢;exact ⟨h,w⟩
 | call c hd g l k ih =>
   intro Q E p s h w
   rw [Sem.wp] at w ⊢
   obtain ⟨r,s1,h1,h2⟩:=w
   exact ⟨r,s1,h1,ih r (Nat.le_trans h (Vv h1)) h2⟩
 | resume g r l k ih =>
   intro Q E p s h w
   rw [Sem.wp] at w ⊢
   obtain ⟨res,s1,h1,h2⟩:=w
   exact ⟨res,s1,h1,ih res (Nat.le_trans h (ZeE h1)) h2⟩
 | fresh k ih=>intro Q E p s h w;rw [Sem.wp] at w ⊢;exact ih _ (Nat.le_succ_of_le h) w
 | load a b k ih=>intro Q E p s h w;rw [Sem.wp] at w ⊢;obtain ⟨o,h1,h2⟩:=w;exact ⟨o,h1,ih _ h h2⟩
 | update a b f k ih=>intro Q E p s h w;rw [Sem.wp] at w ⊢;exact ⟨w.1,ih _ h w.2⟩
 | choose a b k ih=>intro Q E p s h w;rw [Sem.wp] at w ⊢;exact ⟨w.1,ih _ h w.2⟩
 | genState g k ih=>intro Q E p s h w;rw [Sem.wp] at w ⊢;obtain ⟨o,h1,h2⟩:=w;exact ⟨o,h1,ih _ h h2⟩
 | _=>intro Q E p s h w;rw [Sem.wp] at w ⊢;first | exact w.elim | (rename_i ih;exact ih _ h w)
theorem WO {α:Type}{M:Model}{A:Around}{t:Sem α}{Q:α→Shared→Prop}{E:Value→Shared→Prop}{s:Shared}{n:Nat}(h:n≤s.toks)(w:wpAny M A t Q E s):wpAny M A t (fun a s'=>n≤s'.toks∧Q a s') (fun a s'=>n≤s'.toks∧E a s') s :=
 fun Γ p hΓ=>Zjg n t h (w Γ p hΓ)
end L2
set_option maxHeartbeats 2000000
namespace L2
open PySem PySem.W PySem.Spec PyProof.Rows
def CR1 (outer:List Env)(P:Program)(w:World)(H:Hp)(s:Shared)(Q:VK)(r:Result)(s':Shared):Prop:=1≤s'.toks∧CR ZV outer P w H s Q (fun _ _ _=>False) r s'
def Fn1 (P:Program)(w:World)(K:PySem.W.Frag)(mg:Str→Option Value)(base:Heap)(k:Nat)(f:Addr)(fd:FuncData)(px:Str)(sp:Sp):Prop :=
 ∀ (A:Around) (outer:List Env) (s:Shared) (H:Hp) (args:Args) (u:Value) (v:V) (Q:VK),Room k A→Zcy P w K mg base A outer s H→BindsTo s fd args [(px,u)]→RelV v u→sp [v] H Q (fun _ _ _=>False) →
   codeAny (model P w) A (.call (.ref f) args) (CR1 outer P w H s Q) s
section
variable {P:Program}{w:World}{K:PySem.W.Frag}{mg:Str→Option Value}{base:Heap}
theorem Fun.ok1 {x qual px:Str}{st:Stmt}{f:Addr}{fd:FuncData}{k:Nat}{sp:Sp}(F:Fun K x qual st f fd)(S:Zs [px] [px] (Zj st))(hc:∀ y∈(Zj st).names,y.2≠.cell)(hce:∀ n,cellsFrom n (Zj st).names []=[])(hl:(Zj st).names.lookup px=some .local)
   (hbody:∀ (cdv:Value) (A:Around) (outer:List Env) (s:Shared) (H:Hp) (vs:List V) (Q:VK) (E:XK),Room k (A.deeper (envOfC qual (Zj st) s.heap.objs.size f cdv))→sp vs H Q E →
     ∃ t,PSs (UE ZV P w K mg base [px] qual (Zj st) f cdv A outer s H E).nox (WT st) t∧t { nx:=fun _ H'=>Q .non H',rt:=Q } (start [px] vs) H):Fn1 P w K mg base (k+1) f fd px sp:=by
 obtain ⟨oc,od,kV,doc,pm,an,cdv,ct,osl,rfl,lk,hcd⟩:=F.ex
 intro A outer s H args u v Q hr e0 hb r hsp
 have KX:K.In s.heap:=e0.mod.kin.keeps fun b o e=>(e0.bs b o e).1
 have lim:s.heap.NoLimit:=e0.mod.nolimit.keeps fun b o e=>(e0.bs b o e).1
 refine codeAny_call_function hr.depth (KX _ _ lk) rfl S.co S.gen rfl (PySem.W.codeRec_of KX hcd) (hb _ _ _ _ ?_)
 refine wpAny_newFunctionEnv hc (fun y hy=>by rw [List.mem_singleton.mp hy];exact hl) (fun h₁ hns₁ hsb₁=>?_) S.kind
 have old:∀ b o,s.heap.get? b=some o→h₁.get? b=some o:=fun b o e=>hsb₁.extBut b o (Nat.ne_of_lt (Heap.lt_size e)) (Heap.get?_push_of_some _ e)
 refine ⟨lim.keeps old,codeAny_func ?_⟩
 have henv:newEnv (Zj st) s.heap.objs.size mainGlobals [] (qual++".<locals>.") (some f) cdv none builtinsNs=envOfC qual (Zj st) s.heap.objs.size f cdv:=by unfold newEnv envOfC;rw [hce]
 obtain ⟨t,ht,hq⟩:=hbody cdv A outer s H [v] Q (fun _ _ _=>False) (hr.deeper _) hsp
 have I:Inv (UE ZV P w K mg base [px] qual (Zj st) f cdv A outer s H (fun _ _ _=>False)).nox [] (start [px] [v]) H { s with heap:=h₁,toks:=s.toks+1 }:=by
   have nocell:∀ (y:Str) (c:Addr),¬ (cellsFrom (s.heap.objs.size+1) (Zj st).names []).lookup y=some c:=fun y c z=>by rw [hce] at z;cases z
   refine ⟨⟨e0.mod,S.kind,rfl,rfl,Nat.le_refl _,fun y z c h1 h2=>absurd h1 (nocell y c),fun y hy=>?_,fun y c _ h=>absurd h (nocell y c),fun _=>hr.hd,Around.frames_deeper e0.frames,.inr ⟨rfl,rfl⟩,(fun b z=>nomatch z),e0.bs,e0.bsz,(fun _ _ _ z=>nomatch z),(fun _ z=>nomatch z),e0.funs,e0.frf⟩,
     rfl,e0.bare,Un.kept old,⟨_,hns₁,fun i y z h1 h2 h3=>?_⟩,fun y c h=>absurd h (nocell y c),e0.hok.fresh (Nat.le_refl _),fun y c h=>absurd h (nocell y c),(fun p hp=>nomatch hp),e0.hok.kept old,rfl⟩
   · have hy:(Zj st).names.lookup y=some .cell∨(Zj st).names.lookup y=some .free:=hy
     rcases hy with hy | hy
     · exact absurd rfl (hc _ (PySem.mem_of_lookup hy))
     · exact absurd rfl (S.nofree _ (PySem.mem_of_lookup hy))
   · cases i with
     | zero =>
       cases (show some px=some y from h1)
       cases (show some (some v)=some (some z) from h2)
       exact ⟨u,r,.inl ⟨hl,by show ([(px,u)].reverse).lookup px=some u;simp⟩⟩
     | succ i=>exact absurd h1 (by simp [UE])
 rw [henv]
 refine wpAny_mono (WO (n:=1) (by show 1≤s.toks+1;omega) (ht [] _ (start [px] [v]) H _ I hq)) (fun fl s' hs=>?_) fun e s' hs=>False.elim hs.2
 obtain ⟨hk,hs⟩:=hs
 have fin:∀ {σ':St} {H':Hp} {v:V} {u:Value},Inv (UE ZV P w K mg base [px] qual (Zj st) f cdv A outer s H (fun _ _ _=>False)).nox [] σ' H' s'→RelV v u→Q v H'→CE outer P w H s Q u s' :=
   fun {σ' H' v u} J rv q=>⟨v,H',J.os,J.bare,J.base,J.hok,rv,q⟩
 cases fl with
 | ret u=>obtain ⟨v,σ',H',J,rv,q⟩:=hs;exact ⟨hk,fin J rv q⟩
 | next=>obtain ⟨σ',H',J,q⟩:=hs;exact ⟨hk,fin (v:=V.non) (u:=Value.none) J rfl q⟩
 | brk=>obtain ⟨_,_,_,q⟩:=hs;exact False.elim q
 | cont=>obtain ⟨_,_,_,q⟩:=hs;exact False.elim q
end
end L2
set_option maxHeartbeats 2000000
namespace L2
open PySem PySem.W PySem.Spec PyProof.Rows
def Zib (P:Program)(w:World)(K:PySem.W.Frag)(mg:Str→Option Value)(base:Heap)(k:Nat)(x:Str)(px:Str)(sp:Sp):Prop :=
 ∃ f fd,Fn1 P w K mg base k f fd px sp∧Binds K fd [px] []∧PySem.W.keepIn K (.ref f)=true∧mg x=some (.ref f)
def PE3 (X:Cx)(e:Expr)(t:TE):Prop :=
 ∀ (pins:List (Addr×Obj)) (s:Shared) (σ:St) (H:Hp) (Q:VK),Inv X pins σ H s→1≤s.toks→t σ H Q→wpAny (model X.prog X.w) X.A (eval e X.env) (EP X pins σ Q) X.xe s
def PSs3 (X:Cx)(st:List Stmt)(t:TS):Prop :=
 ∀ (pins:List (Addr×Obj)) (s:Shared) (σ:St) (H:Hp) (D:WJ),Inv X pins σ H s→1≤s.toks→t D σ H→wpAny (model X.prog X.w) X.A (execs st X.env) (SP X pins D) X.xe s
theorem PE.three {X:Cx}{e:Expr}{t:TE}(h:PE X e t):PE3 X e t:=fun pins s σ H Q I _ q=>h pins s σ H Q I q
def NBk (K:PySem.W.Frag):Prop:=PySem.W.nsIn K cStatics sharingNotToldKey=some none
theorem ZiW {K:PySem.W.Frag}{h:Heap}{a:Addr}{m:Str→Option Value}{n:Str}(X:K.In h)(G:h.Ns a m)(e:nsIn K a n=some none):m n=none:=by
 obtain ⟨o,es,ep,ho,hd,_,hf⟩:=G
 unfold nsIn at e
 split at e
 · rename_i c d es' n' sl q
   have:=X _ _ q
   rw [ho] at this
   cases this
   simp only at hd
   cases hd
   split at e
   · cases e
   · rename_i z
     rw [← hf];unfold nsFind findBy;rw [← Array.find?_toList,z];rfl
 · cases e
theorem none_of {K:PySem.W.Frag}{h:Heap}(B:NBk K)(X:K.In h)(l:h.NoLimit):NoneBooked h:=by
 obtain ⟨mc,g,_⟩:=l
 exact ⟨mc,g,ZiW X g B⟩
def ZlY (to:TE)(y z:Str):TE:=fun σ H Q=>to σ H fun x H1=>∃ a,x=.str a∧a.length≤4095∧Q (.str (Txt.replace a y z)) H1
section
variable {X:Cx}{o:Expr}{to:TE}{y z:Str}{apos cpos p1 p2:Pos}
theorem ZdA {j1 j2}(B:NBk X.K)(hz:z.length≤4095)(ho:PE3 X o to)
   (hbase:attributeBase o "replace" X.env (eval o X.env)=eval o X.env:=by rfl)
   (hfew:((backTo cpos (starEach [.Constant (.str y) j1 p1,.Constant (.str z) j2 p2] X.env)).all (fun x=>!x.1)&&(backToKw cpos (keywordEach [] X.env)).all (fun x=>x.1.isSome)
     && decide (([.Constant (.str y) j1 p1,.Constant (.str z) j2 p2]:List Expr).length+([]:List Keyword).length+(if ([]:List Keyword).isEmpty then 0 else 1) < 30))=true:=by rfl)
   (hline:(apos.endLine == cpos.line)=true:=by rfl) :
   PE3 X (.Call (.Attribute o "replace" apos) [.Constant (.str y) j1 p1,.Constant (.str z) j2 p2] [] cpos) (ZlY to y z):=by
 intro pins s σ H Q I hk h
 refine wpAny_Call_method_late hbase hfew hline rfl (Zn (wpAny_mono (WO hk (ho pins s σ H _ I hk h)) (fun _ _ q=>q) fun _ _ q=>q.2) fun v s1 ⟨hk1,x,H1,I1,r1,a,ex,ha,q1⟩=>?_)
 subst ex
 obtain ⟨h1,h2⟩:=Zcb (T:="str") I1 r1 rfl
 obtain ⟨t,rfl⟩:=(show ∃ t,v=Value.str a t from r1)
 refine ⟨"str","str.replace",PySem.F.plainAttrs_str,PySem.F.slot_str_replace,PySem.F.type_str_replace,h1,h2,?_⟩
 refine Calls.callWith_builtin rfl (Calls.evalArgs_plain ?_)
 show wpAny _ _ (spliced ((false,eval (.Constant (.str y) j1 p1) X.env)::backTo cpos (starEach [.Constant (.str z) j2 p2] X.env))) _ _ s1
 refine Calls.spliced_cons (wpAny_Constant_str ?_)
 show wpAny _ _ (spliced ((false,eval (.Constant (.str z) j2 p2) X.env)::backTo cpos (starEach [] X.env))) _ _ _
 refine Calls.spliced_cons (wpAny_Constant_str (Calls.spliced_nil ?_))
 have I2:Inv X pins σ H1 { s1 with toks:=s1.toks+1+1 }:=I1.tok _
 have nb:NoneBooked ({ s1 with toks:=s1.toks+1+1 }:Shared).heap:=none_of B I2.kIn I2.nolimit
 refine SC.replaceW2 4095 4095 (by decide) ?_ ?_ ?_ ha hz (fun t' k=>⟨.str (Txt.replace a y z),H1,I2.tok k,⟨_,rfl⟩,q1⟩) nb
 · show s1.toks≠0;omega
 · show s1.toks+1≠0;omega
 · show s1.toks≠s1.toks+1;omega
theorem Zfs {i:Nat}{x:Str}{e:Expr}{te:TE}{pos pos':Pos}{rest:List Stmt}{u:TS}(hN:X.N.Nodup)(hi:X.N[i]?=some x)(hx:Loc X.env.scope x)(he:PE3 X e te)(h2:PSs X rest u)(hs:swapsWith e (some (.Name x pos')) pos.line X.env=pure false:=by rfl)(hf:X.fn x=true∨X.env.scope.names.lookup x=some .local:=by first | exact .inl rfl | exact .inr rfl) :
   PSs3 X (.Assign [.Name x pos'] e pos::rest) (Zhg (ZaS te (VD i)) u):=by
 intro pins s σ H D I hk h
 refine wpAny_execs_cons (wpAny_Assign_Name (Zn (he pins s σ H _ I hk h) fun v s1 ⟨y,H1,I1,r1,q1⟩=>?_) hs)
 exact Xj I1 hN hi hx r1 (fun s2 I2=>h2 pins s2 _ _ D I2 q1) hf
theorem ZiU {k:Nat}{f px:Str}{sp:Sp}{arg:Expr}{te:TE}{body rest:List Stmt}{tb u:TS}{p pos pos2:Pos}(D1:Zib X.prog X.w X.K X.mg X.base k f px sp)(hr:Room k X.A)(ha:PE X arg te)(hb:PSs X body tb)(h3:PSs3 X rest u)
   (hg:Gl X f:=by rfl) (hdb:(f == ("__debug__":Str))=false:=by decide) (hst:starEach [arg] X.env=(false,eval arg X.env)::starEach [] X.env:=by rfl)
   (hit:∀ whole,isTrue (.Call (.Name f p) [arg] [] pos) X.env whole=(do let v ← whole;standAt (Expr.Call (.Name f p) [arg] [] pos).pos;holding [v] (truthy v)):=by intro _;rfl) :
   PSs X (.If (.Call (.Name f p) [arg] [] pos) body [] pos2::rest) (Zhg (ZhR (tB (ZbT sp [] E0 (Xb te YX))) tb ZbR) u):=by
 obtain ⟨fa,fd,F,hbd,kp,hm⟩:=D1
 intro pins s σ H D I h
 have W:wpAny (model X.prog X.w) X.A (exec (.If (.Call (.Name f p) [arg] [] pos) body [] pos2) X.env) (fun fl s1=>1≤s1.toks∧SP X pins { D with nx:=u D } fl s1) X.xe s:=by
   refine wpAny_If (isTrue_plain ?_ (hit _))
   refine wpAny_Call_Name_kw (ZaT I hg hm ?_ hdb)
   refine PySem.W.callWith_K (h₀:=X.base) I.ok.mod.kin kp ?_ hst rfl
   rw [hst]
   show wpAny _ _ (spliced ((false,eval arg X.env)::backTo pos (starEach [] X.env))) _ _ s
   refine Calls.spliced_cons (Zn (ha pins s σ H _ I h) fun v s1 ⟨x,H1,I1,r1,q1⟩=>Calls.spliced_nil ⟨I1.kIn,?_⟩)
   refine wpAny_call (codeAny_mono (F X.A X.stack s1 H1 ⟨[v],[]⟩ v x _ hr I1.env0 (hbd s1 [v] I1.kIn rfl) r1 q1) fun r s' hq=>?_)
   cases r with
   | error e=>exact False.elim hq.2
   | ok fl =>
     cases fl with
     | next=>exact False.elim hq.2
     | brk=>exact False.elim hq.2
     | cont=>exact False.elim hq.2
     | ret w2 =>
       obtain ⟨hk,hq⟩:=hq
       obtain ⟨v2,H2,I2,rv,d,e,q⟩:=I1.after hq
       subst e
       cases rv
       refine wpAny_truthy_bool ?_
       cases d with
       | true=>exact wpAny_mono (WO hk (hb pins s' σ H2 _ I2 q)) (fun _ _ z=>z) fun _ _ z=>z.2
       | false=>exact wpAny_mono (WO hk (ZE (X:=X) pins s' σ H2 _ I2 q)) (fun _ _ z=>z) fun _ _ z=>z.2
 refine wpAny_execs_cons (Zn W fun fl s1 ⟨hk,q⟩=>?_)
 cases fl with
 | next=>obtain ⟨σ',H',I',q⟩:=q;exact h3 pins s1 σ' H' D I' hk q
 | ret v=>exact q
 | brk=>exact q
 | cont=>exact q
end
end L2
set_option maxHeartbeats 2000000
namespace L2
open PySem
def ZeD (pre post:Str)(z:Int)(x:Str):Prop:=∃ c1 c2,x=pre++(⟨#[c1]⟩:Str)++(⟨#[c2]⟩:Str)++post∧YU a26.cps.toList (z / 26)=some c1∧YU a26.cps.toList (z % 26)=some c2
theorem Zjd:∀ i j:_root_.Fin 26,a26.cps.toList[i.val]?=a26.cps.toList[j.val]?→i=j:=by decide +kernel
theorem Zgo {xs:List Nat}{r:Int}{c:Nat}(h0:0≤r)(h:YU xs r=some c):xs[r.toNat]?=some c:=by
 unfold YU VR at h
 rw [if_pos h0] at h
 split at h
 · exact h
 · cases h
theorem Zfh {r r':Int}{c:Nat}(h0:0≤r)(h1:r < 26)(h2:0≤r')(h3:r' < 26)(e:YU a26.cps.toList r=some c)(e':YU a26.cps.toList r'=some c):r=r':=by
 have:=Zjd ⟨r.toNat,by omega⟩ ⟨r'.toNat,by omega⟩ ((Zgo h0 e).trans (Zgo h2 e').symm)
 have:=congrArg Fin.val this
 simp only at this
 omega
theorem Zji (x y:Str):(x++y).cps.toList=x.cps.toList++y.cps.toList:=by
 show (x.cps++y.cps).toList=_
 simp
theorem Zle {pre post:Str}{z z':Int}{x:Str}(h0:0≤z)(h1:z < 676)(h2:0≤z')(h3:z' < 676)(h:ZeD pre post z x)(h':ZeD pre post z' x):z=z':=by
 obtain ⟨c1,c2,rfl,e1,e2⟩:=h
 obtain ⟨d1,d2,e,f1,f2⟩:=h'
 have e:=congrArg (fun s:Str=>s.cps.toList) e
 simp only [Zji,List.append_assoc] at e
 have e:=List.append_cancel_left e
 simp at e
 obtain ⟨rfl,rfl⟩:=e
 have g1:=Zfh (by omega) (by omega) (by omega) (by omega) e1 f1
 have g2:=Zfh (by omega) (by omega) (by omega) (by omega) e2 f2
 omega
theorem Zjh {r5 stp:Int}{i j:Nat}(hs:stp=1∨stp=27∨stp=5∨stp=251)(hij:i < j)(hj:j≤100)(e:(r5+stp * (0+(i:Int))) % 676=(r5+stp * (0+(j:Int))) % 676):False:=by
 rcases hs with rfl | rfl | rfl | rfl<;>omega
theorem ZfQ {pre post:Str}{r5 stp:Int}{xs:List Str}(hs:stp=1∨stp=27∨stp=5∨stp=251)(hl:xs.length≤100)(h:∀(j:Nat)(x:Str),xs[j]?=some x→ZeD pre post ((r5+stp * (0+(j:Int))) % 676) x):xs.Nodup:=by
 refine List.pairwise_iff_getElem.mpr fun i j hi hj hij e=>?_
 have a:=h i _ (List.getElem?_eq_getElem hi)
 have b:=h j _ (List.getElem?_eq_getElem hj)
 rw [e] at a
 exact Zjh hs hij (by omega) (Zle (Int.emod_nonneg _ (by decide)) (Int.emod_lt_of_pos _ (by decide)) (Int.emod_nonneg _ (by decide)) (Int.emod_lt_of_pos _ (by decide)) a b)
def ZcI:Sp:=fun vs H Q _=>∃(p:Addr)(n:Nat)(many:Int)(Δ:Rs),vs=[.ref p,.int many]∧Sep ((p,Bx n)::Δ) H∧n≤900000∧0≤many∧many≤100 ∧
 ∀ (l:Addr) (H':Hp) (xs:List Str),Sep ((l,Xh (xs.map V.str))::(p,Bx (n+20))::Δ) H'→xs.length=many.toNat→(∀ x∈xs,ZH x)→xs.Nodup→Q (.ref l) H'
end L2
set_option maxHeartbeats 2000000
namespace L2
open PySem PySem.Spec PyProof.Rows
def Xs (c:Nat)(zs:List Nat)(l:List Nat):List Nat:=l.flatMap fun k=>if k=c then zs else [k]
theorem Zbd (c:Nat)(zs a b:List Nat):Xs c zs (a++b)=Xs c zs a++Xs c zs b:=List.flatMap_append
theorem Zac (c:Nat)(zs:List Nat):∀ l:List Nat,c ∉ l→Xs c zs l=l
 | [],_=>rfl
 | k::r,h=>by
   have h1:¬ k=c:=fun e=>h (e ▸ List.mem_cons_self ..)
   have ih:=Zac c zs r fun m=>h (List.mem_cons_of_mem _ m)
   unfold Xs at ih ⊢
   rw [List.flatMap_cons,if_neg h1,ih];rfl
theorem Zct (c:Nat)(zs:List Nat):∀ parts:List Str,(∀ p∈parts,c ∉ p.cps.toList)→Xs c zs (Str.join ⟨#[c]⟩ parts).cps.toList=(Str.join ⟨zs.toArray⟩ parts).cps.toList
 | [],_=>rfl
 | [p],h=>Zac c zs _ (h p (List.mem_singleton.mpr rfl))
 | p::q::r,h=>by
   have ih:=Zct c zs (q::r) fun a ha=>h a (List.mem_cons_of_mem _ ha)
   show Xs c zs (p++⟨#[c]⟩++Str.join ⟨#[c]⟩ (q::r)).cps.toList=(p++⟨zs.toArray⟩++Str.join ⟨zs.toArray⟩ (q::r)).cps.toList
   simp only [Str.cps_append,Array.toList_append]
   rw [Zbd,Zbd,ih,Zac c zs _ (h p (List.mem_cons_self ..))]
   have:Xs c zs [c]=zs:=by simp [Xs]
   rw [this]
theorem UR (x:Str)(c:Nat)(zs:List Nat):(Txt.replace x ⟨#[c]⟩ ⟨zs.toArray⟩).cps.toList=Xs c zs x.cps.toList:=by
 rw [StrLaws.replace_one,← Zct c zs _ (StrLaws.split_free x c),StrLaws.join_split]
def Xq (l:List Nat):List Nat:=l.flatMap fun k=>if k=39∨k=92 then [92,k] else [k]
theorem Zdm:∀ l:List Nat,Xs 39 [92,39] (Xs 92 [92,92] l)=Xq l
 | []=>rfl
 | k :: r=>by
   have ih:=Zdm r
   have e:Xs 92 [92,92] (k::r)=(if k=92 then [92,92] else [k])++Xs 92 [92,92] r:=rfl
   rw [e,Zbd,ih]
   show _=(if k=39∨k=92 then [92,k] else [k])++Xq r
   congr 1
   by_cases h:k=92
   · subst h;rfl
   · by_cases h2:k=39
     · subst h2;rfl
     · rw [if_neg h,if_neg (by omega)];simp [Xs,h2]
def ZJ:V→Str
 | .int i=>Str.ofString (toString i)
 | .str x=>⟨(39::Xq x.cps.toList++[39]).toArray⟩
 | _=>""
theorem Zba:∀ l:List Nat,(Xq l).length≤2 * l.length
 | []=>by decide
 | k::r=>by
   have ih:=Zba r
   have e:Xq (k::r)=(if k=39∨k=92 then [92,k] else [k])++Xq r:=rfl
   have h2:(if k=39∨k=92 then [92,k] else [k]).length≤2:=by split<;>simp
   rw [e,List.length_append,List.length_cons]
   omega
theorem Zah (c:Nat)(z:Nat)(w:Nat):∀ l:List Nat,(Xs c [z,w] l).length≤2 * l.length
 | []=>Nat.le_refl _
 | k::r=>by
   have ih:=Zah c z w r
   have e:Xs c [z,w] (k::r)=(if k=c then [z,w] else [k])++Xs c [z,w] r:=rfl
   have h2:(if k=c then [z,w] else [k]).length≤2:=by split<;>simp
   rw [e,List.length_append,List.length_cons]
   omega
section
variable {X:Cx}
end
theorem tj (s:Str)(l:List Str):Txt.join s l=Str.join s l:=by unfold Txt.join;rw [StrLaws.glued_eq_join]
theorem Zbw:∀ zs:List Str,(Str.join "" zs).cps.toList=zs.flatMap fun z=>z.cps.toList
 | []=>rfl
 | [z]=>by show z.cps.toList=_;simp
 | p::q::r=>by
   have ih:=Zbw (q::r)
   show (p++(Str.ofString "")++Str.join "" (q::r)).cps.toList=_
   simp only [Str.cps_append,Array.toList_append]
   rw [ih]
   show p.cps.toList++[]++_=p.cps.toList++_
   rw [List.append_nil];rfl
theorem Zha (zs:List Str):(Txt.join "" zs).cps.toList=zs.flatMap fun z=>z.cps.toList:=by rw [tj];exact Zbw zs
def Ve (c:Nat):Str:=⟨(if c=39∨c=92 then [92,c] else [c]).toArray⟩
theorem ZbI (l:List Nat):(Txt.join "" (l.map Ve)).cps.toList=Xq l:=by
 rw [Zha,List.flatMap_map];rfl
theorem ZhE (c:Nat):Txt.mul "\\" (if (if false = true then !YG (.str ⟨#[c]⟩) [.str "'", .str "\\"] else YG (.str ⟨#[c]⟩) [.str "'", .str "\\"])=true then 1 else 0)++(⟨#[c]⟩:Str)=Ve c:=by
 have e:YG (.str ⟨#[c]⟩) [.str "'",.str "\\"]=decide (c=39∨c=92):=by
   have h1:XL (.str "'") (.str ⟨#[c]⟩)=decide (c=39):=by
     show decide ((Str.ofString "'")=(⟨#[c]⟩:Str))=_
     by_cases h:c=39
     · subst h;rw [decide_eq_true rfl,decide_eq_true (by decide +kernel)]
     · rw [decide_eq_false h,decide_eq_false fun z=>h (by have:=congrArg (fun s:Str=>s.cps.toList) z;simpa [show (Str.ofString "'").cps.toList=[39] by decide +kernel] using this.symm)]
   have h2:XL (.str "\\") (.str ⟨#[c]⟩)=decide (c=92):=by
     show decide ((Str.ofString "\\")=(⟨#[c]⟩:Str))=_
     by_cases h:c=92
     · subst h;rw [decide_eq_true rfl,decide_eq_true (by decide +kernel)]
     · rw [decide_eq_false h,decide_eq_false fun z=>h (by have:=congrArg (fun s:Str=>s.cps.toList) z;simpa [show (Str.ofString "\\").cps.toList=[92] by decide +kernel] using this.symm)]
   unfold YG
   rw [List.any_cons,List.any_cons,List.any_nil,h1,h2,Bool.or_false]
   by_cases a:c=39<;>by_cases b:c=92<;>simp [a,b]
 rw [e,if_neg (show ¬ (false=true) by decide)]
 unfold Ve
 by_cases h:c=39∨c=92
 · rw [decide_eq_true h,if_pos rfl,if_pos h]
   apply Ys
   simp only [Str.cps_append,Array.toList_append]
   show (Str.ofString "\\").cps.toList++[c]=[92,c]
   rw [show (Str.ofString "\\").cps.toList=[92] by decide +kernel];rfl
 · rw [decide_eq_false h,if_neg (by decide),if_neg h]
   apply Ys
   simp only [Str.cps_append,Array.toList_append]
   show []++[c]=[c]
   rfl
theorem ZlP (b:Bool):MulOk "\\" (if b=true then 1 else 0):=by
 cases b
 · exact ⟨by decide,fun h=>absurd (by decide) h,fun h=>absurd (by decide) h⟩
 · exact ⟨by decide,(fun _ h=>absurd h (by decide)),fun _ h=>absurd h (by decide)⟩
theorem Zkd (b:Bool):(Txt.mul "\\" (if b=true then 1 else 0)).length≤1:=by cases b<;>decide +kernel
theorem Zhc (c:Nat):(Ve c).length≤2:=by
 show (if c=39∨c=92 then [92,c] else [c]).toArray.size≤2
 split<;>simp
theorem Zcn:∀ l:List Nat,((l.map Ve).map (·.length)).sum≤2 * l.length
 | []=>by decide
 | c::r=>by
   have h1:=Zcn r
   have h2:=Zhc c
   rw [List.map_cons,List.map_cons,List.sum_cons,List.length_cons];omega
theorem Zgz (x:Str):(Str.ofString "'"++Txt.join "" (x.cps.toList.map Ve))++Str.ofString "'"=ZJ (.str x):=by
 apply Ys
 simp only [Str.cps_append,Array.toList_append]
 rw [ZbI,show (Str.ofString "'").cps.toList=[39] by decide +kernel];rfl
theorem ZeP (x:Str):(Str.ofString "'"++Txt.replace (Txt.replace x "\\" "\\\\") "'" "\\'") ++ Str.ofString "'"=ZJ (.str x):=by
 apply Ys
 simp only [Str.cps_append,Array.toList_append]
 have e1:(Str.ofString "\\")=⟨#[92]⟩:=by decide +kernel
 have e2:(Str.ofString "\\\\")=⟨([92,92]:List Nat).toArray⟩:=by decide +kernel
 have e3:(Str.ofString "'")=⟨#[39]⟩:=by decide +kernel
 have e4:(Str.ofString "\\'")=⟨([92,39]:List Nat).toArray⟩:=by decide +kernel
 rw [e1,e2,e3,e4,UR,UR,Zdm];rfl
theorem ZgR (x:Str):(Txt.replace x "\\" "\\\\").length≤2 * x.length:=by
 have e1:(Str.ofString "\\")=⟨#[92]⟩:=by decide +kernel
 have e2:(Str.ofString "\\\\")=⟨([92,92]:List Nat).toArray⟩:=by decide +kernel
 rw [e1,e2]
 have:=Zah 92 92 92 x.cps.toList
 rw [← UR] at this
 show (Txt.replace x _ _).cps.size≤2 * x.cps.size
 rw [← Array.length_toList,← Array.length_toList];exact this
theorem VX {v:V}(h:IsVal v):(ZJ v).length≤100:=by
 cases v with
 | int i=>exact Nat.le_trans (Zbh (IsVal.b31 h)).2 (by decide)
 | str x =>
   have:=Zba x.cps.toList
   have h1:x.cps.toList.length≤40:=by rw [Array.length_toList];exact h.1
   show (39::Xq x.cps.toList++[39]).toArray.size≤100
   simp;omega
 | _=>exact h.elim
theorem Uf (x y:Str):(x++y).length=x.length+y.length:=by
 show (x.cps++y.cps).size=_
 rw [Array.size_append];rfl
end L2
set_option maxHeartbeats 2000000
namespace L2
open PySem PySem.Spec PyProof.Rows
section
variable {prog:Program}{w:World}{A:Around}{E:Value→Shared→Prop}{s:Shared}
theorem VM {i t:Addr}{k:Nat}{its:Array Value}{x:Value}{Q:Value→Shared→Prop}(hi:s.heap.IsTupleIter i t k)(ht:s.heap.IsTuple t its)(hx:its[k]?=some x)
   (q:∀ h',h'.IsTupleIter i t (k+1)→Heap.SameBut i s.heap h'→Q x { s with heap:=h' }):wpAny (model prog w) A (Builtin.SmallTypes.nextOf (.ref i)) Q E s:=by
 obtain ⟨o,eo,oc,od⟩:=id hi
 obtain ⟨u,eu,_,n,du⟩:=ht
 unfold Builtin.SmallTypes.nextOf
 refine wpAny_bind (wpAny_callSpecial?_slot (name:=Str.ofString "__next__") hi.typeIs F.slot_tuple_iterator_next (wpAny_call_entry F.slot_tuple_iterator_next hi.typeIs F.entry_tuple_iterator_next ?_ (F.args_tuple_iterator_next_1 _)))
 refine wpAny_bind (m:=field (.ref i) 0) (wpAny_field eo od (x:=.ref t) rfl ?_)
 show wpAny _ _ (if (Value.ref t == Value.none)=true then _ else _) _ _ s
 rw [if_neg (by exact Bool.false_ne_true)]
 refine wpAny_bind (m:=field (.ref i) 1) (wpAny_field eo od (x:=.int k 0) rfl ?_)
 refine wpAny_bind (m:=seqItems? (.ref t)) (wpAny_seqItems eu du ?_)
 simp only [Int.toNat_natCast,hx]
 exact wpAny_bind (wpAny_setField eo od (by simp) (wpAny_pure ⟨x,rfl,wpAny_pure (q _ ⟨_,Heap.get?_update_self _ eo (Obj.isFreed_of_fields (Obj.data_mapFields od _)),(Obj.cls_mapFields ..).trans oc,by rw [Obj.data_mapFields od];simp [rawInt]⟩ (Heap.SameBut.update ..))⟩))
theorem Zea {i t:Addr}{k:Nat}{its:Array Value}{Q:Value→Shared→Prop}(hh:A.handled=none)(hi:s.heap.IsTupleIter i t k)(ht:s.heap.IsTuple t its)(hx:its[k]?=none)
   (q:∀ h' e,Heap.ExtBut i s.heap h'→(∃ o,h'.get? e=some o∧o.cls=.type "StopIteration")→E (.ref e) { s with heap:=h' }):wpAny (model prog w) A (Builtin.SmallTypes.nextOf (.ref i)) Q E s:=by
 obtain ⟨o,eo,oc,od⟩:=id hi
 obtain ⟨u,eu,_,n,du⟩:=ht
 unfold Builtin.SmallTypes.nextOf
 refine wpAny_bind (wpAny_callSpecial?_slot (name:=Str.ofString "__next__") hi.typeIs F.slot_tuple_iterator_next (wpAny_call_entry F.slot_tuple_iterator_next hi.typeIs F.entry_tuple_iterator_next ?_ (F.args_tuple_iterator_next_1 _)))
 refine wpAny_bind (m:=field (.ref i) 0) (wpAny_field eo od (x:=.ref t) rfl ?_)
 show wpAny _ _ (if (Value.ref t == Value.none)=true then _ else _) _ _ s
 rw [if_neg (by exact Bool.false_ne_true)]
 refine wpAny_bind (m:=field (.ref i) 1) (wpAny_field eo od (x:=.int k 0) rfl ?_)
 refine wpAny_bind (m:=seqItems? (.ref t)) (wpAny_seqItems eu du ?_)
 simp only [Int.toNat_natCast,hx]
 refine wpAny_bind (wpAny_rule (wpAny_bind (wpAny_setField eo od (by simp) ?_)))
 refine wpAny_bind (m:=newExc (.type "StopIteration") []) ?_
 simp only [newExc,newTuple]
 refine wpAny_bind (wpAny_newObj_type ?_ (by size_fits))
 refine wpAny_bind (m:=firstArgMember _ _) (wpAny_of_eq (a:=Value.none) (by first | rfl | (simp only [firstArgMember];rfl)) ?_)
 refine wpAny_newObj_type ?_ (by size_fits)
 simp only [raiseNew]
 refine wpAny_bind (wpAny_handled ?_)
 first | rw [show A.in1.handled=none from hh] | rw [hh]
 exact wpAny_bind (wpAny_pure (wpAny_throw (q _ _ (((Heap.SameBut.update ..).extBut.push _).push _) ⟨_,Heap.get?_push_size _ rfl,rfl⟩)))
theorem ZgO {z TI TO i1 i2 l1 l2:Addr}{k:Nat}{xs ys:Array Value}{x y a b:Value}{Q:Option Value→Shared→Prop}(D:ZipApart z TI TO i1 i2 l1 l2)(hz:IsZip s.heap z TI TO .none)(hTI:IsPair s.heap TI (.ref i1) (.ref i2))(hTO:IsPair s.heap TO a b)
   (h1:s.heap.IsTupleIter i1 l1 k) (h2:s.heap.IsTupleIter i2 l2 k) (t1:s.heap.IsTuple l1 xs) (t2:s.heap.IsTuple l2 ys) (hx:xs[k]?=some x) (hy:ys[k]?=some y)
   (q:∀ h',IsZip h' z TI TO (rawInt s.heap.objs.size)→IsPair h' TO x y→h'.IsTupleIter i1 l1 (k+1)→h'.IsTupleIter i2 l2 (k+1)→IsPair h' s.heap.objs.size x y→h'.objs.size=s.heap.objs.size+1 →
     (∀ c o,c≠z→c≠TO→c≠i1→c≠i2→s.heap.get? c=some o→h'.get? c=some o)→Q (some (.ref s.heap.objs.size)) { s with heap:=h' }):wpAny (model prog w) A (pyNext (.ref z)) Q E s:=by
 have hT:s.TypeIs (.ref z) "zip":=⟨_,hz,rfl⟩
 unfold pyNext
 refine wpAny_bind (wpAny_attempt (wpAny_callSpecial?_slot (name:=Str.ofString "__next__") hT F.slot_zip_next (wpAny_call_entry F.slot_zip_next hT F.entry_zip_next ?_ (F.args_zip_next_1 _))))
 refine wpAny_bind (m:=field (.ref z) 2) (wpAny_field hz rfl (x:=.bool false) rfl ?_)
 refine wpAny_bind (m:=field (.ref z) 3) (wpAny_field hz rfl (x:=.ref TI) rfl ?_)
 refine wpAny_bind (wpAny_seqItems hTI rfl ?_)
 refine wpAny_bind (m:=Builtin.SmallTypes.ownedTupleIsFree (.ref z)) ?_
 unfold Builtin.SmallTypes.ownedTupleIsFree
 refine wpAny_bind (wpAny_field hz rfl (x:=.none) rfl (wpAny_pure ?_))
 simp only [if_true]
 refine wpAny_bind (wpAny_rule ?_)
 refine wpAny_bind (wpAny_field hz rfl (x:=.ref TO) rfl ?_)
 refine wpAny_bind (wpAny_setField_rec hz (by simp) fun ha hza sa=>?_)
 replace hza:IsZip ha z TI TO .ellipsis:=hza
 refine wpAny_bind ?_
 simp only [List.zipIdx_cons,List.zipIdx_nil,List.forIn_cons,List.forIn_nil]
 have Ea:=sa.extBut
 refine wpAny_bind (wpAny_bind (wpAny_onRaise ?_))
 refine wpAny_bind (m:=Builtin.SmallTypes.nextOf (.ref i1)) (VM (h1.extBut Ea D.i1z) (t1.extBut Ea D.l1z) hx fun hb i1b sb=>wpAny_pure ?_)
 have Eb:=sb.extBut
 have TOb:IsPair hb TO a b:=Eb _ _ D.TOi1 (Ea _ _ D.TOz hTO)
 refine wpAny_bind (wpAny_seqItems TOb rfl ?_)
 refine wpAny_bind (wpAny_updateSeq_pair TOb fun hc TOc sc=>?_)
 replace TOc:IsPair hc TO x b:=TOc
 have Ec:=sc.extBut
 refine wpAny_bind (wpAny_letGo (wpAny_pure ?_))
 refine wpAny_bind (wpAny_bind (wpAny_onRaise ?_))
 refine wpAny_bind (m:=Builtin.SmallTypes.nextOf (.ref i2)) (VM (((h2.extBut Ea D.i2z).extBut Eb D.i12.symm).extBut Ec D.TOi2.symm) (((t2.extBut Ea D.l2z).extBut Eb D.l2i1).extBut Ec D.l2TO) hy fun hd i2d sd=>wpAny_pure ?_)
 have Ed:=sd.extBut
 have TOd:IsPair hd TO x b:=Ed _ _ D.TOi2 TOc
 refine wpAny_bind (wpAny_seqItems TOd rfl ?_)
 refine wpAny_bind (wpAny_updateSeq_pair TOd fun he TOe se=>?_)
 replace TOe:IsPair he TO x y:=TOe
 have Ee:=se.extBut
 refine wpAny_bind (wpAny_letGo (wpAny_pure (wpAny_pure ?_)))
 refine wpAny_bind (wpAny_seqItems TOe rfl ?_)
 refine wpAny_bind (wpAny_newTuple ?_)
 have hsz:he.objs.size=s.heap.objs.size:=by rw [se.1,sd.1,sc.1,sb.1,sa.1]
 have all:∀ c o,c≠z→c≠TO→c≠i1→c≠i2→s.heap.get? c=some o→he.get? c=some o:=fun c o c1 c2 c3 c4 e=>Ee _ _ c2 (Ed _ _ c4 (Ec _ _ c2 (Eb _ _ c3 (Ea _ _ c1 e))))
 have ze:IsZip he z TI TO .ellipsis:=Ee _ _ D.TOz.symm (Ed _ _ D.i2z.symm (Ec _ _ D.TOz.symm (Eb _ _ D.i1z.symm hza)))
 have i1e:he.IsTupleIter i1 l1 (k+1):=((i1b.extBut Ec D.TOi1.symm).extBut Ed D.i12).extBut Ee D.TOi1.symm
 have i2e:he.IsTupleIter i2 l2 (k+1):=i2d.extBut Ee D.TOi2.symm
 have zl:z < he.objs.size:=Heap.lt_size ze
 refine wpAny_bind (m:=Builtin.SmallTypes.ownedTupleHandOut (.ref z) (.ref he.objs.size)) ?_
 unfold Builtin.SmallTypes.ownedTupleHandOut
 refine wpAny_bind (wpAny_setField_rec (show IsZip (he.push { cls:=.type "tuple",data:=.seq #[x,y] }) z TI TO .ellipsis from Heap.get?_push_of_some _ ze) (by simp) fun hf zf sf=>?_)
 replace zf:IsZip hf z TI TO (rawInt he.objs.size):=zf
 refine wpAny_setField_rec zf (by simp) fun hg zg sg=>?_
 replace zg:IsZip hg z TI TO (rawInt he.objs.size):=zg
 have up:∀ c o,c≠z→he.get? c=some o→hg.get? c=some o:=fun c o c1 e=>sg.extBut _ _ c1 (sf.extBut _ _ c1 (Heap.get?_push_of_some _ e))
 have new:IsPair hg he.objs.size x y:=sg.extBut _ _ (Nat.ne_of_gt zl) (sf.extBut _ _ (Nat.ne_of_gt zl) (Heap.get?_push_size _ rfl))
 have sz:hg.objs.size=he.objs.size+1:=by rw [sg.1,sf.1,Heap.size_push]
 rw [hsz] at zg new sz
 refine wpAny_pure ⟨_,rfl,?_⟩
 show wpAny _ _ (pure (some (Value.ref he.objs.size))) _ _ _
 rw [hsz]
 refine wpAny_pure (q hg zg (up _ _ D.TOz TOe) ?_ ?_ new sz fun c o c1 c2 c3 c4 e=>up c o c1 (all c o c1 c2 c3 c4 e))
 · obtain ⟨o,eo,r⟩:=i1e;exact ⟨o,up _ _ D.i1z eo,r⟩
 · obtain ⟨o,eo,r⟩:=i2e;exact ⟨o,up _ _ D.i2z eo,r⟩
theorem ZiR {z TI TO i1 i2 l1 l2:Addr}{k:Nat}{xs:Array Value}{a b:Value}{Q:Option Value→Shared→Prop}(hh:A.handled=none)(D:ZipApart z TI TO i1 i2 l1 l2)(hz:IsZip s.heap z TI TO .none)(hTI:IsPair s.heap TI (.ref i1) (.ref i2))(hTO:IsPair s.heap TO a b)
   (h1:s.heap.IsTupleIter i1 l1 k) (t1:s.heap.IsTuple l1 xs) (hx:xs[k]?=none)
   (q:∀ h',(∀ c o,c≠z→c≠TO→c≠i1→c≠i2→s.heap.get? c=some o→h'.get? c=some o)→Q none { s with heap:=h' }):wpAny (model prog w) A (pyNext (.ref z)) Q E s:=by
 have hT:s.TypeIs (.ref z) "zip":=⟨_,hz,rfl⟩
 unfold pyNext
 refine wpAny_bind (wpAny_attempt (wpAny_callSpecial?_slot (name:=Str.ofString "__next__") hT F.slot_zip_next (wpAny_call_entry F.slot_zip_next hT F.entry_zip_next ?_ (F.args_zip_next_1 _))))
 refine wpAny_bind (m:=field (.ref z) 2) (wpAny_field hz rfl (x:=.bool false) rfl ?_)
 refine wpAny_bind (m:=field (.ref z) 3) (wpAny_field hz rfl (x:=.ref TI) rfl ?_)
 refine wpAny_bind (wpAny_seqItems hTI rfl ?_)
 refine wpAny_bind (m:=Builtin.SmallTypes.ownedTupleIsFree (.ref z)) ?_
 unfold Builtin.SmallTypes.ownedTupleIsFree
 refine wpAny_bind (wpAny_field hz rfl (x:=.none) rfl (wpAny_pure ?_))
 simp only [if_true]
 refine wpAny_bind (wpAny_rule ?_)
 refine wpAny_bind (wpAny_field hz rfl (x:=.ref TO) rfl ?_)
 refine wpAny_bind (wpAny_setField_rec hz (by simp) fun ha hza sa=>?_)
 replace hza:IsZip ha z TI TO .ellipsis:=hza
 refine wpAny_bind ?_
 simp only [List.zipIdx_cons,List.zipIdx_nil,List.forIn_cons,List.forIn_nil]
 refine wpAny_bind (wpAny_bind (wpAny_onRaise ?_))
 refine wpAny_bind (m:=Builtin.SmallTypes.nextOf (.ref i1)) (Zea hh (h1.extBut sa.extBut D.i1z) (t1.extBut sa.extBut D.l1z) hx fun hb e Eb he=>?_)
 obtain ⟨oe,eoe,ce⟩:=he
 have zb:IsZip hb z TI TO .ellipsis:=Eb _ _ D.i1z.symm hza
 have ez:e≠z:=fun x=>by subst x;rw [zb] at eoe;cases eoe;simp at ce
 refine wpAny_setField_rec zb (by simp) fun hc _ sc=>?_
 refine wpAny_bind (wpAny_isInstance (T:="StopIteration") (b:=true) ⟨oe,sc.extBut _ _ ez eoe,ce⟩ isSubtype_stop ?_)
 exact wpAny_pure (q _ fun c o c1 _ c3 _ x=>sc.extBut _ _ c1 (Eb _ _ c3 (sa.extBut _ _ c1 x)))
end
abbrev YF (l:Addr):Obj:={ cls:=.type "tuple_iterator",data:=.fields #[.ref l,.int 0 0] }
abbrev ZaQ (h:Heap)(l1 l2:Addr):Heap:=((((h.push (YF l1)).push (YF l2)).push { cls:=.type "tuple",data:=.seq #[.ref h.objs.size,.ref (h.push (YF l1)).objs.size] }).push { cls:=.type "tuple",data:=.seq #[.none,.none] })
theorem Zjl (l1 l2:Addr)(xs ys:Array Value):Meets (Builtin.«zip.__new__» ⟨[.type "zip",.ref l1,.ref l2],[]⟩) (fun _ R s=>s.heap.IsTuple l1 xs∧s.heap.IsTuple l2 ys ∧
     R (.ok (.ret (.ref (ZaQ s.heap l1 l2).objs.size))) { s with heap:=(ZaQ s.heap l1 l2).push { cls:=.type "zip",data:=.fields #[.none,.bool false,.bool false,.ref ((s.heap.push (YF l1)).push (YF l2)).objs.size,.ref (((s.heap.push (YF l1)).push (YF l2)).push { cls:=.type "tuple",data:=.seq #[.ref s.heap.objs.size,.ref (s.heap.push (YF l1)).objs.size] }).objs.size] } }) :=
 .of_wp fun prog w A R s h=>by
   obtain ⟨hp,g,d,tk,os⟩:=s;obtain ⟨hl1,hl2,h⟩:=h
   have hsub:=sub_zip
   have hL1:Heap.IsTuple (Shared.heap ⟨hp,g,d,tk,os⟩) l1 xs:=hl1
   have hL2:Heap.IsTuple (Shared.heap ⟨hp.push (YF l1),g,d,tk,os⟩) l2 ys:=Heap.IsTuple.push hl2 _
   wp_walk using wpAny_pyIter_tuple hL1,wpAny_pyIter_tuple hL2
   exact ⟨_,rfl,h⟩
section
variable {prog:Program}{w:World}{A:Around}{E:Value→Shared→Prop}{s:Shared}
theorem Zgx {l1 l2:Addr}{xs ys:Array Value}{Q:Value→Shared→Prop}(hl1:s.heap.IsTuple l1 xs)(hl2:s.heap.IsTuple l2 ys)
   (h:∀ h',IsZip h' (s.heap.objs.size+4) (s.heap.objs.size+2) (s.heap.objs.size+3) .none→IsPair h' (s.heap.objs.size+2) (.ref s.heap.objs.size) (.ref (s.heap.objs.size+1)) →
     IsPair h' (s.heap.objs.size+3) .none .none→h'.IsTupleIter s.heap.objs.size l1 0→h'.IsTupleIter (s.heap.objs.size+1) l2 0→h'.objs.size=s.heap.objs.size+5 →
     (∀ c o,s.heap.get? c=some o→h'.get? c=some o)→Q (.ref (s.heap.objs.size+4)) { s with heap:=h' }):wpAny (model prog w) A (call (.type "zip") [.ref l1,.ref l2]) Q E s:=by
 refine callType_new F.called_zip (by decide) (F.typeCall_zip_2 _ _) (F.newCall_zip_2 _ _) (fun obj=>F.args_object_init_3 obj _ _) F.entry_zip_new (Zjl l1 l2 xs ys) ⟨hl1,hl2,?_⟩
 have z1:(s.heap.push (YF l1)).objs.size=s.heap.objs.size+1:=Heap.size_push ..
 have z2:((s.heap.push (YF l1)).push (YF l2)).objs.size=s.heap.objs.size+2:=by rw [Heap.size_push,z1]
 have z3:(((s.heap.push (YF l1)).push (YF l2)).push { cls:=.type "tuple",data:=.seq #[.ref s.heap.objs.size,.ref (s.heap.push (YF l1)).objs.size] }).objs.size=s.heap.objs.size+3:=by rw [Heap.size_push,z2]
 have z4:(ZaQ s.heap l1 l2).objs.size=s.heap.objs.size+4:=by rw [Heap.size_push,z3]
 show _∧_
 rw [z4,z3,z2]
 have up:∀ {h:Heap} {o:Obj} {c:Addr} {u:Obj},h.get? c=some u→(h.push o).get? c=some u:=fun e=>Heap.get?_push_of_some _ e
 have g5:((ZaQ s.heap l1 l2).push { cls:=.type "zip",data:=.fields #[.none,.bool false,.bool false,.ref (s.heap.objs.size+2),.ref (s.heap.objs.size+3)] }).get? (ZaQ s.heap l1 l2).objs.size=some _:=Heap.get?_push_size _ rfl
 have g4:(ZaQ s.heap l1 l2).get? _=some _:=Heap.get?_push_size _ rfl
 have g3:(((s.heap.push (YF l1)).push (YF l2)).push { cls:=.type "tuple",data:=.seq #[.ref s.heap.objs.size,.ref (s.heap.push (YF l1)).objs.size] }).get? _=some _:=Heap.get?_push_size _ rfl
 have g2:((s.heap.push (YF l1)).push (YF l2)).get? _=some _:=Heap.get?_push_size _ rfl
 have g1:(s.heap.push (YF l1)).get? _=some _:=Heap.get?_push_size _ rfl
 rw [z4] at g5
 rw [z3] at g4
 rw [z2] at g3
 rw [z1] at g2
 conv at g3=>rhs;rw [z1]
 exact ⟨⟨_,g5,rfl⟩,h _ g5 (up (up g3)) (up g4) ⟨_,up (up (up (up g1))),rfl,rfl⟩ ⟨_,up (up (up g2)),rfl,rfl⟩ (by rw [Heap.size_push,z4]) fun c o x=>up (up (up (up (up x))))⟩
end
def Zev (K:PySem.W.Frag)(l1 l2:Addr):It :=
 ⟨fun i H=>∃ xs ys x y,SqT K H l1 xs∧SqT K H l2 ys∧xs[i]?=some x∧ys[i]?=some y,
  fun i H v H'=>∃ t x y,H t=none∧(∀ xs,SqT K H l1 xs→xs[i]?=some x)∧(∀ ys,SqT K H l2 ys→ys[i]?=some y)∧v=.ref t∧H'=upd H t (.tup [x,y]),
  fun i H=>∃ xs ys,SqT K H l1 xs∧SqT K H l2 ys∧xs.length≤i⟩
theorem ZfE {P:Program}{w:World}{K:PySem.W.Frag}{elts:List Expr}{x1:Nat}{tp:Pos}{z TI TO i1 i2 l1 l2:Addr}(D:ZipApart z TI TO i1 i2 l1 l2)(hTl1:l1≠TI)(hTl2:l2≠TI) :
   Wx P w K (.Tuple elts x1 tp) (Zev K l1 l2) [z,TI,TO,i1,i2] z (fun i h=>IsZip h z TI TO .none∧IsPair h TI (.ref i1) (.ref i2)∧(∃ a b,IsPair h TO a b)∧h.IsTupleIter i1 l1 i∧h.IsTupleIter i2 l2 i) where
 mem:=by simp
 obj:=fun i h st b hb=>by
   obtain ⟨hz,hTI,⟨a,c,hTO⟩,⟨o1,ho1,c1,d1⟩,⟨o2,ho2,c2,d2⟩⟩:=st
   simp only [List.mem_cons,List.not_mem_nil,or_false] at hb
   rcases hb with q | q | q | q | q
   · rw [q];exact ⟨_,hz,fun v z=>by cases z⟩
   · rw [q];exact ⟨_,hTI,fun v z=>by cases z⟩
   · rw [q];exact ⟨_,hTO,fun v z=>by cases z⟩
   · rw [q];exact ⟨o1,ho1,fun v z=>by rw [d1] at z;cases z⟩
   · rw [q];exact ⟨o2,ho2,fun v z=>by rw [d2] at z;cases z⟩
 keep:=fun i h h' st k=>by
   obtain ⟨hz,hTI,⟨a,c,hTO⟩,h1,h2⟩:=st
   exact ⟨k z (by simp) _ hz,k TI (by simp) _ hTI,⟨a,c,k TO (by simp) _ hTO⟩,h1.at fun o y=>k i1 (by simp) o y,h2.at fun o y=>k i2 (by simp) o y⟩
 item:=by
   intro X hP hw hK hc i pins s σ H E I hf st hg
   subst hP hw hK
   obtain ⟨hz,hTI,⟨a,b,hTO⟩,h1,h2⟩:=st
   obtain ⟨xs,ys,x,y,hq1,hq2,hx,hy⟩:=hg
   obtain ⟨its1,rv1,p1,hz1⟩:=I.tuple hq1
   obtain ⟨its2,rv2,p2,hz2⟩:=I.tuple hq2
   obtain ⟨u1,hu1,ru1⟩:=rv1.get hx
   obtain ⟨u2,hu2,ru2⟩:=rv2.get hy
   refine ZgO D hz hTI hTO h1 h2 p1 p2 (by simpa using hu1) (by simpa using hu2) fun h' g1 g2 g3 g4 g5 g6 g7=>?_
   refine ⟨_,rfl,wpAny_letOwnedTupleGo_zip g1 fun h2' g1' hs2=>?_⟩
   have hzl:z < s.heap.objs.size:=Heap.lt_size hz
   have hTIl:TI < s.heap.objs.size:=Heap.lt_size hTI
   have hTOl:TO < s.heap.objs.size:=Heap.lt_size hTO
   have hi1l:i1 < s.heap.objs.size:=by obtain ⟨o,ho,_⟩:=h1;exact Heap.lt_size ho
   have hi2l:i2 < s.heap.objs.size:=by obtain ⟨o,ho,_⟩:=h2;exact Heap.lt_size ho
   have g5':h'.get? s.heap.objs.size=some ({ cls:=.type "tuple",data:=.seq #[u1,u2] }:Obj):=g5
   generalize hO:({ cls:=.type "tuple",data:=.seq #[u1,u2] }:Obj)=O at g5'
   have I1:Inv X pins σ (upd H s.heap.objs.size (.tup [x,y])) { s with heap:=s.heap.push O,toks:=s.toks }:=by
     refine I.laid (t':=s.toks) (fun b o y=>Heap.get?_push_of_some _ y) (Nat.le_refl _) (show ObjOk X.prog X.w _ _ _ (.tup _) from ⟨by show 2≤sizeLine;decide,[u1,u2],.cons ru1 (.cons ru2 .nil),?_⟩)
     rw [← hO];exact IsTup.new _ _
   have hfree:=I.hok.fresh (Nat.le_refl s.heap.objs.size)
   have hf2:∀ b∈[z,TI,TO,i1,i2],Yw X pins (upd H s.heap.objs.size (.tup [x,y])) b:=fun b hb=>by
     obtain ⟨f0,f1⟩:=hf b hb
     have hb':b≠s.heap.objs.size:=by
       simp only [List.mem_cons,List.not_mem_nil,or_false] at hb
       rcases hb with q | q | q | q | q<;>(rw [q];exact Nat.ne_of_lt (by assumption))
     exact ⟨by rw [Zo hb'];exact f0,f1⟩
   have I2:Inv X pins σ (upd H s.heap.objs.size (.tup [x,y])) { s with heap:=h2',toks:=s.toks }:=by
     refine I1.turned2 (t':=s.toks) (h':=h2') (fun b o hb y=>?_) hf2
     have n1:b≠z:=fun q=>hb (by simp [q])
     have n2:b≠TO:=fun q=>hb (by simp [q])
     have n3:b≠i1:=fun q=>hb (by simp [q])
     have n4:b≠i2:=fun q=>hb (by simp [q])
     rw [hs2.2 b n1]
     rcases Heap.get?_push_cases y with ⟨q1,q2⟩ | y
     · rw [q1,q2];exact g5'
     · exact g7 b o n1 n2 n3 n4 y
   refine ⟨.ref s.heap.objs.size,_,I2,rfl,⟨s.heap.objs.size,x,y,hfree,fun ys hy'=>by rw [I.tuple_inj hy' hq1];exact hx,fun ys' hy'=>by rw [I.tuple_inj hy' hq2];exact hy,rfl,rfl⟩,⟨g1',?_,⟨u1,u2,?_⟩,?_,?_⟩,fun b hb=>(hf2 b hb).1⟩
   · show h2'.get? TI=_
     rw [hs2.2 TI D.TIz];exact g7 TI _ D.TIz D.TITO D.TIi1 D.TIi2 hTI
   · show h2'.get? TO=_
     rw [hs2.2 TO D.TOz];exact g2
   · exact g3.at fun o y=>by rw [hs2.2 i1 D.i1z];exact y
   · exact g4.at fun o y=>by rw [hs2.2 i2 D.i2z];exact y
 done:=by
   intro X hP hw hK hc i pins s σ H E I hf st hg
   subst hP hw hK
   obtain ⟨hz,hTI,⟨a,b,hTO⟩,h1,h2⟩:=st
   obtain ⟨xs,ys,hq1,hq2,hle⟩:=hg
   obtain ⟨its1,rv1,p1,hz1⟩:=I.tuple hq1
   obtain ⟨its2,rv2,p2,hz2⟩:=I.tuple hq2
   have l1:=rv1.length
   have l2:=rv2.length
   exact ZiR (I.ok.hd hc) D hz hTI hTO h1 p1 (Array.getElem?_eq_none (by simp;omega)) fun h' eb=>⟨rfl,I.turned2 (t':=s.toks) (fp:=[z,TI,TO,i1,i2]) (fun b o hb y=>eb b o (fun q=>hb (by simp [q])) (fun q=>hb (by simp [q])) (fun q=>hb (by simp [q])) (fun q=>hb (by simp [q])) y) hf⟩
 self:=fun _ _ _ _ _ st h=>wpAny_pyIter_zip st.1 h
def ZlC (K:PySem.W.Frag)(ta tb:TE):TI:=fun σ H R=>ta σ H fun v H1=>tb σ H1 fun u H2=>∃ a b xs ys,[v,u]=[V.ref a,V.ref b]∧SqT K H2 a xs∧SqT K H2 b ys∧R (Zev K a b) H2
section
variable {X:Cx}
theorem ZiX {l m:Expr}{ta tb:TE}{elts:List Expr}{x1:Nat}{tp p pos:Pos}(hg:Gl X "zip")(hm:X.mg "zip"=none)(hl:PE X l ta)(hr:PE X m tb)
   (he:starEach [l,m] X.env=(false,eval l X.env)::starEach [m] X.env:=by rfl) (he2:starEach [m] X.env=[(false,eval m X.env)]:=by rfl) (hpl:(backTo pos (starEach [m] X.env)).any (·.1)=false:=by rfl):PI X (.Tuple elts x1 tp) (.Call (.Name "zip" p) [l,m] [] pos) (ZlC X.K ta tb):=by
 intro pins s σ H R I h
 have ha:PA X [l,m] (Xb ta (Xb tb YX)):=Ym hl (Ym hr Za he2) he
 refine wpAny_Call_Name_kw (WC I hg hm Zda ?_)
 refine PyProof.Rows.callWith_type1 (Zn (ha pos pins s σ H (fun vs H2=>∃ a b xs ys,vs=[V.ref a,V.ref b]∧SqT X.K H2 a xs∧SqT X.K H2 b ys∧R (Zev X.K a b) H2) I h) fun us s1 ⟨vs,H1,I1,r1,a,b,xs,ys,e,ea,eb,q⟩=>?_) he hpl
 subst e
 obtain ⟨u1,u2,rfl,r2,r3⟩:∃ u1 u2,us=[u1,u2]∧RelV (V.ref a) u1∧RelV (V.ref b) u2:=by
   cases r1 with
   | cons p t=>cases t with
     | cons p2 t2=>cases t2;exact ⟨_,_,rfl,p,p2⟩
 cases r2
 cases r3
 obtain ⟨its1,rv1,⟨o1,eo1,c1,n1,d1⟩,_⟩:=I1.tuple ea
 obtain ⟨its2,rv2,⟨o2,eo2,c2,n2,d2⟩,_⟩:=I1.tuple eb
 have ha1:a < s1.heap.objs.size:=Heap.lt_size eo1
 have hb1:b < s1.heap.objs.size:=Heap.lt_size eo2
 refine Zgx ⟨_,eo1,c1,n1,d1⟩ ⟨_,eo2,c2,n2,d2⟩ fun h' g1 g2 g3 g4 g5 g6 g7=>wpAny_pyIter_zip g1 ?_
 refine ⟨s1.heap.objs.size+4,[s1.heap.objs.size+4,s1.heap.objs.size+2,s1.heap.objs.size+3,s1.heap.objs.size,s1.heap.objs.size+1],_,_,H1,rfl,I1.kept (t':=s1.toks) g7,ZfE (l1:=a) (l2:=b) ⟨?_,?_,?_,?_,?_,?_,?_,?_,?_,?_,?_,?_,?_,?_,?_,?_,?_,?_⟩ ?_ ?_,⟨g1,g2,⟨_,_,g3⟩,g4,g5⟩,fun c hc=>?_,q⟩
 rotate_right
 · simp only [List.mem_cons,List.not_mem_nil,or_false] at hc
   have up:∀ k,Yw X pins H1 (s1.heap.objs.size+k):=fun k=>I1.fpOk (Nat.le_add_right _ k) (I1.hok.fresh (Nat.le_add_right _ k))
   rcases hc with q | q | q | q | q
   · rw [q];exact up 4
   · rw [q];exact up 2
   · rw [q];exact up 3
   · rw [q];exact up 0
   · rw [q];exact up 1
 all_goals
   first
     | exact Nat.ne_of_lt (by first | (apply Nat.lt_of_lt_of_le (by assumption);omega) | (simp only [Nat.add_lt_add_iff_left];decide) | (show _ < _+_;exact Nat.lt_add_of_pos_right (by decide)))
     | exact Nat.ne_of_gt (by first | (simp only [Nat.add_lt_add_iff_left];decide) | exact Nat.lt_add_of_pos_right (by decide))
end
end L2
set_option maxHeartbeats 2000000
namespace L2
open PySem PySem.Spec PyProof.Rows
def TyS (K:PySem.W.Frag)(H:Hp)(x:V)(t:Value):Prop:=WK K H x t∨∃ a xs,x=.ref a∧t=.type "tuple"∧SqT K H a xs
section
variable {X:Cx}{pins:List (Addr×Obj)}{σ:St}{H:Hp}{s:Shared}
theorem Zdz {x:V}{u t:Value}(I:Inv X pins σ H s)(rx:RelV x u)(ty:TyS X.K H x t):∃ Hh:Heap→Prop,PySem.W.KitX X.K u t Hh∧Hh s.heap∧u≠.builtin "__main__.__loader__#opaque":=by
 rcases ty with ty | ⟨a,xs,rfl,rfl,h⟩
 · cases ty with
   | non=>cases (show u=Value.none from rx);exact ⟨_,PySem.W.kitx_none,True.intro,fun z=>nomatch z⟩
   | bl y=>cases (show u=Value.bool y from rx);exact ⟨_,PySem.W.kitx_bool,True.intro,fun z=>nomatch z⟩
   | int i=>obtain ⟨t,q⟩:=(show ∃ t,u=Value.int i t from rx);cases q;exact ⟨_,PySem.W.kitx_int,True.intro,fun z=>nomatch z⟩
   | str y=>obtain ⟨t,q⟩:=(show ∃ t,u=Value.str y t from rx);cases q;exact ⟨_,PySem.W.kitx_str,True.intro,fun z=>nomatch z⟩
   | flt y=>obtain ⟨t,q⟩:=(show ∃ t,u=Value.float y t from rx);cases q;exact ⟨_,PySem.W.kitx_float,True.intro,fun z=>nomatch z⟩
   | @lst a xs ea =>
     cases (show u=Value.ref a from rx)
     obtain ⟨_,_,n,_,h1⟩:=(show ObjOk X.prog X.w H s.heap a (.lst xs) from I.hok a _ ea)
     exact ⟨_,PySem.W.kitx_list,⟨_,h1,rfl⟩,fun z=>nomatch z⟩
   | @frz a ob xs ea =>
     cases (show u=Value.ref a from rx)
     obtain ⟨_,_,_,n,_,h1⟩:=(show ObjOk X.prog X.w H s.heap a (.frz ob (.lst xs)) from I.hok a _ ea)
     exact ⟨_,PySem.W.kitx_list,⟨_,h1,rfl⟩,fun z=>nomatch z⟩
   | @tup a xs ea =>
     cases (show u=Value.ref a from rx)
     obtain ⟨_,_,_,p⟩:=(show ObjOk X.prog X.w H s.heap a (.tup xs) from I.hok a _ ea)
     obtain ⟨o,h1,h2,_⟩:=p
     exact ⟨_,PySem.W.kitx_tuple,⟨o,h1,h2⟩,fun z=>nomatch z⟩
   | @dK a kvs ea =>
     cases (show u=Value.ref a from rx)
     obtain ⟨_,_,vs,_,p⟩:=(show ObjOk X.prog X.w H s.heap a (.dK kvs) from I.hok a _ ea)
     obtain ⟨o,es,ep,h1,h2,_⟩:=p
     exact ⟨_,PySem.W.kitx_dict,⟨o,h1,h2.1⟩,fun z=>nomatch z⟩
   | @dT a kvs ea =>
     cases (show u=Value.ref a from rx)
     obtain ⟨_,_,xs,_,o,es,ep,h1,h2,_⟩:=(show ObjOk X.prog X.w H s.heap a (.dT kvs) from I.hok a _ ea)
     exact ⟨_,PySem.W.kitx_dict,⟨o,h1,h2.1⟩,fun z=>nomatch z⟩
   | @ins a C dx fs ea cl ha hn htk hm =>
     cases (show u=Value.ref a from rx)
     obtain ⟨mA,O,_⟩:=Zjq I.hok ea
     obtain ⟨od,J,_⟩:=O.look
     exact ⟨_,PySem.W.kitx_own (cl.get _) cl.hd ha hn htk hm,J,fun z=>nomatch z⟩
 · cases (show u=Value.ref a from rx)
   obtain ⟨its,_,⟨o,h1,h2,_⟩,_⟩:=I.tuple h
   exact ⟨_,PySem.W.kitx_tuple,⟨o,h1,h2⟩,fun z=>nomatch z⟩
theorem ZX {K:PySem.W.Frag}(hK:X.K=K):YO X (.builtin "isinstance") (fun xs H Q=>∃ x c t b,xs=[x,.ty c]∧TyS K H x t∧PySem.W.kitOne K t (.type c)=some b∧Q (.bl b) H):=by
 subst hK
 intro pins s σ H xs us Q I r h
 obtain ⟨x,c,t,b,rfl,ty,e,q⟩:=h
 obtain ⟨u,u',rfl,ru,ru'⟩:=Zas r
 cases (show u'=Value.type c from ru')
 obtain ⟨Hh,Z,p,hx⟩:=Zdz I ru ty
 exact PySem.W.kia_one Z I.kIn p e hx fun tk=>⟨.bl b,H,I.tok tk,rfl,q⟩
theorem ZbD:∀{Ts:List String}{us:List Value},Vals (Ts.map V.ty) us→us=Ts.map Value.type
 | [],_,h=>by cases h;rfl
 | D::Ds,_,h=>by
   cases h with
   | cons r t=>rw [ZbD t,show _=Value.type D from r];rfl
theorem ZfC {K:PySem.W.Frag}(hK:X.K=K):YO X (.builtin "isinstance") (fun xs H Q=>∃ (x:V) (tp:Addr) (Ts:List String) (t:Value) (b:Bool),xs=[x,.ref tp]∧TyS K H x t∧H tp=some (.tup (Ts.map V.ty))∧PySem.W.kitAny K t (Ts.map Value.type)=some b∧Q (.bl b) H):=by
 subst hK
 intro pins s σ H xs us Q I r h
 obtain ⟨x,tp,Ts,t,b,rfl,ty,htp,e,q⟩:=h
 obtain ⟨u,u',rfl,ru,ru'⟩:=Zas r
 cases (show u'=Value.ref tp from ru')
 obtain ⟨Hh,Z,p,hx⟩:=Zdz I ru ty
 obtain ⟨_,its,rv,pt⟩:=(show ObjOk X.prog X.w H s.heap tp (.tup (Ts.map V.ty)) from I.hok tp _ htp)
 obtain ⟨⟨oc,odi,oda,osl⟩,h1,h2,n,h3⟩:=pt
 dsimp only at h2 h3
 subst h2 h3
 rw [ZbD rv] at h1
 exact PySem.W.kia_tup Z I.kIn p h1 e hx fun tk=>⟨.bl b,H,I.tok tk,rfl,q⟩
end
theorem PI.or {X:Cx}{tg e:Expr}{t u:TI}(h1:PI X tg e t)(h2:PI X tg e u):PI X tg e (fun σ H R=>t σ H R∨u σ H R):=by
 intro pins s σ H R I h
 rcases h with h | h
 · exact h1 pins s σ H R I h
 · exact h2 pins s σ H R I h
theorem ZbG {K:PySem.W.Frag}{a b:Addr}{xs zs:List V}{g:TG}{te:TE}{σ:St}{D:Addr}{Q:VK}{H:Hp}(hn:xs.length≤sizeLine)(hz:zs.length=xs.length)(Pv:Nat→List V→Hp→Prop)(h0:Pv 0 [] (upd H D (.lst [])))
   (hl:∀ i ys H,Pv i ys H→ys.length=i∧SqL K H a xs∧SqL K H b zs)
   (hs:∀ i x z t ys H wa wb,xs[i]?=some x→zs[i]?=some z→H t=none→Pv i ys H→g (.ref t) (σ++[wa,wb]) (upd H t (.tup [x,z])) fun σ' H'=>(∃ wa wb,σ'=σ++[wa,wb])∧te σ' H' fun y H4=>H4 D=some (.lst ys)∧Pv (i+1) (ys++[y]) (upd H4 D (.lst (ys++[y]))))
   (hd:∀ ys H,Pv xs.length ys H→Q (.ref D) H):ZaH (Itz K a b) g te σ D Q H:=by
 refine ⟨fun i m ys H=>m=xs.length - i∧i≤xs.length∧Pv i ys H,⟨xs.length,by simp,Nat.zero_le _,h0⟩,?_⟩
 rintro i m ys H2 ⟨rfl,hi,p⟩
 obtain ⟨hlen,q1,q2⟩:=hl i ys _ p
 by_cases hlt:i < xs.length
 · have h2:i < zs.length:=by omega
   refine .inr ⟨⟨xs,zs,xs[i],zs[i],q1,q2,by simp [hlt],by simp [h2]⟩,_,fun y H4 (q:H4 D=some (.lst ys)∧Pv (i+1) (ys++[y]) (upd H4 D (.lst (ys++[y]))))=>⟨q.1,by omega,xs.length - (i+1),by omega,rfl,hlt,q.2⟩,fun wa wb v H3 y=>?_⟩
   obtain ⟨t,x,z,ht,hx,hz,rfl,rfl⟩:=y
   exact hs i x z t ys H2 wa wb (hx xs q1) (hz zs q2) ht p
 · have e:i=xs.length:=by omega
   subst e
   exact .inl ⟨⟨xs,zs,q1,q2,by omega⟩,hd ys H2 p⟩
theorem Zel {K:PySem.W.Frag}{a b:Addr}{xs zs:List V}{g:TG}{te:TE}{σ:St}{D:Addr}{Q:VK}{H:Hp}(hn:xs.length≤sizeLine)(hz:zs.length=xs.length)(Pv:Nat→List V→Hp→Prop)(h0:Pv 0 [] (upd H D (.lst [])))
   (hl:∀ i ys H,Pv i ys H→ys.length=i∧SqT K H a xs∧SqT K H b zs)
   (hs:∀ i x z t ys H wa wb,xs[i]?=some x→zs[i]?=some z→H t=none→Pv i ys H→g (.ref t) (σ++[wa,wb]) (upd H t (.tup [x,z])) fun σ' H'=>(∃ wa wb,σ'=σ++[wa,wb])∧te σ' H' fun y H4=>H4 D=some (.lst ys)∧Pv (i+1) (ys++[y]) (upd H4 D (.lst (ys++[y]))))
   (hd:∀ ys H,Pv xs.length ys H→Q (.ref D) H):ZaH (Zev K a b) g te σ D Q H:=by
 refine ⟨fun i m ys H=>m=xs.length - i∧i≤xs.length∧Pv i ys H,⟨xs.length,by simp,Nat.zero_le _,h0⟩,?_⟩
 rintro i m ys H2 ⟨rfl,hi,p⟩
 obtain ⟨hlen,q1,q2⟩:=hl i ys _ p
 by_cases hlt:i < xs.length
 · have h2:i < zs.length:=by omega
   refine .inr ⟨⟨xs,zs,xs[i],zs[i],q1,q2,by simp [hlt],by simp [h2]⟩,_,fun y H4 (q:H4 D=some (.lst ys)∧Pv (i+1) (ys++[y]) (upd H4 D (.lst (ys++[y]))))=>⟨q.1,by omega,xs.length - (i+1),by omega,rfl,hlt,q.2⟩,fun wa wb v H3 y=>?_⟩
   obtain ⟨t,x,z,ht,hx,hz,rfl,rfl⟩:=y
   exact hs i x z t ys H2 wa wb (hx xs q1) (hz zs q2) ht p
 · have e:i=xs.length:=by omega
   subst e
   exact .inl ⟨⟨xs,zs,q1,q2,by omega⟩,hd ys H2 p⟩
end L2
set_option maxHeartbeats 4000000
namespace K72
open PySem L2
section
variable {P:Program}{w:World}{K:PySem.W.Frag}{mg:Str→Option Value}{base:Heap}
def isI:V→Bool
 | .int _=>true
 | _=>false
def ZbU:Sp:=fun vs H Q _=>∃ v,vs=[v]∧IsVal v∧Q (.bl (isI v)) H
abbrev nNu:List Str:=["thing"]
abbrev pnNu:List Str:=["thing"]
theorem scNu:Zs nNu pnNu (Zj s_is_number):=⟨rfl,rfl,rfl,by decide +kernel,rfl,by decide +kernel,by decide +kernel⟩
theorem Zkp {f:Addr}{fd:FuncData}(F:Fun K "is_number" "is_number" s_is_number f fd)(T:ZZ mg):Fn1 P w K mg base 1 f fd "thing" ZbU:=by
 refine F.ok1 scNu (by decide +kernel) (fun _=>rfl) rfl (fun cdv A outer s H vs Q E hr h=>?_)
 obtain ⟨v,rfl,hv,q⟩:=h
 refine' ⟨?t,?h,?r⟩
 case h =>
   conv=>arg 2;whnf
   with_reducible refine' (Zi ?h1)
   case h1=>exact Zp (XQ (Zm (ZX (K:=K) rfl) rfl T.isinstance (by decide +kernel) (Zb (pv 0) (Zb (Yl rfl T.int (by decide +kernel) (v:=.ty "int") rfl) Za))) (WD (Zcm (Zm (ZX (K:=K) rfl) rfl T.isinstance (by decide +kernel) (Zb (pv 0) (Zb (Yl rfl T.bool (by decide +kernel) (v:=.ty "bool") rfl) Za))))))
 cases v with
 | int i=>exact ⟨_,rfl,_,_,_,true,rfl,.inl (.int _),rfl,_,rfl,ZQ ⟨_,rfl,_,_,_,false,rfl,.inl (.int _),rfl,_,rfl,q⟩⟩
 | str x=>exact ⟨_,rfl,_,_,_,false,rfl,.inl (.str _),rfl,_,rfl,ZD q⟩
 | _=>exact hv.elim
def spVT:Sp:=fun vs H Q _=>∃ v,vs=[v]∧IsVal v∧Q (.str (ZJ v)) H
abbrev nWr:List Str:=["_law_value_here"]
abbrev ZcO:List Str:=["_law_value_here"]
theorem scWr:Zs nWr ZcO (Zj s_l_written):=⟨rfl,rfl,rfl,by decide +kernel,rfl,by decide +kernel,by decide +kernel⟩
theorem Zec {f:Addr}{fd:FuncData}(F:Fun K "_law_written" "_law_written" s_l_written f fd)(T:ZZ mg):FnOk P w K mg base ZV 1 f fd ZcO (fun vs H Q E=>∃ v,vs=[v]∧IsVal v∧∀ H',Same H H'→Q (.str (ZJ v)) H'):=by
 refine F.ok scWr (fun vs H Q E h=>?_) (fun cdv A outer s H vs Q E hr h=>?_)
 · obtain ⟨v,rfl,_⟩:=h;rfl
 obtain ⟨v,rfl,hv,q⟩:=h
 refine' ⟨?t,?h,?r⟩
 case h =>
   conv=>arg 2;whnf
   with_reducible refine' (Ze (ZS ?h1 (Zi ?h2) ZE) (Zi ?h3))
   case h1=>exact YJ (Zm (ZX (K:=K) rfl) rfl T.isinstance (by decide +kernel) (Zb (pv 0) (Zb (Yl rfl T.int (by decide +kernel) (v:=.ty "int") rfl) Za)))
   case h2=>exact Zp (ZY UA rfl T.str (by decide +kernel) (Zb (pv 0) Za))
   case h3=>exact Zp (Zl Yf (Zl Yf Zk (Yc PySem.F.plainAttrs_str PySem.F.slot_str_join PySem.F.type_str_join Ws Zk (Zb (XW (CompOk.of nWr s_l_written rfl rfl (by decide +kernel)) rfl (VC (pv 0))  (fun _ _ _ _ _=>Zl Yf (Zl Vf Zk (ZY WF rfl T.int (by decide +kernel) (Zb (YT (ZeJ (K:=K) rfl) (pv 1) (ZI (Zb Zk (Zb Zk Za))) rfl) Za))) (pv 1))) Za))) Zk)
 cases v with
 | int i=>exact ⟨_,rfl,_,_,_,true,rfl,.inl (.int _),rfl,_,rfl,ZQ ⟨_,rfl,.inl ⟨i,rfl,(Zbh (IsVal.b31 hv)).1,q H (Same.refl H)⟩⟩⟩
 | str x =>
   refine ⟨_,rfl,_,_,_,false,rfl,.inl (.str _),rfl,_,rfl,ZD ?_⟩
   have hx:x.length≤40:=hv.1
   refine ⟨rfl,_,rfl,x,rfl,fun D hD=>?_⟩
   refine ZcH (Zv (show x.length≤1000 by omega)) (fun i ys H'=>Same H H'∧H' D=some (.lst ys)∧ys=((x.cps.toList.take i).map Ve).map V.str∧i≤x.cps.size) ⟨Zh hD _,Zc,rfl,Nat.zero_le _⟩ ?_ ?_ ?_
   · rintro i ys H' ⟨_,_,rfl,hi⟩
     rw [List.length_map,List.length_map,List.length_take,Array.length_toList];omega
   · rintro i c ys H' hc ⟨s1,eD,rfl,hi⟩
     refine ⟨_,rfl,(by show 2≤sizeLine;decide),fun tp htp=>⟨tp,_,rfl,.inr (SqT.of Zc),rfl,rfl,.inr ⟨_,rfl,_,_,rfl,rfl,?_,_,rfl,_,_,rfl,rfl,?_,?_⟩⟩⟩
     · exact ZlP _
     · have:=Zkd (if false=true then !YG (.str ⟨#[c]⟩) [.str "'",.str "\\"] else YG (.str ⟨#[c]⟩) [.str "'", .str "\\"])
       exact Zv (show _≤1000 by rw [XX];omega)
     · dsimp only
       rw [ZhE]
       have s2:=Zh htp (.tup [.str "'",.str "\\"])
       refine ⟨s2 _ _ eD,fun b o e=>?_,Zc,?_,?_⟩
       · rw [Zo (Zy e hD)];exact s2 _ _ (s1 _ _ e)
       · have hc':x.cps.toList[i]?=some c:=by rw [Array.getElem?_toList];exact hc
         rw [List.take_succ,hc',List.map_append,List.map_append];rfl
       · have:=(Array.getElem?_eq_some_iff.mp hc).1;omega
   · rintro ys H2 ⟨s2,eD,rfl,_⟩
     rw [show x.cps.toList.take x.cps.size=x.cps.toList by rw [← Array.length_toList,List.take_length]] at eD
     have hsz:x.cps.toList.length≤40:=by rw [Array.length_toList];exact hx
     have w1:=Zcn x.cps.toList
     have w2:(Txt.join "" (x.cps.toList.map Ve)).length≤100:=by
       have:=Zba x.cps.toList
       rw [← ZbI] at this
       show (Txt.join "" _).cps.size≤100
       rw [← Array.length_toList];omega
     refine ⟨"",D,x.cps.toList.map Ve,rfl,rfl,SqL.of eD,?_,_,_,rfl,rfl,?_,_,_,rfl,rfl,?_,?_⟩
     · rw [show (Str.ofString "").length=0 by decide +kernel];omega
     · exact Zv (show _≤1000 by rw [show (Str.ofString "'").length=1 by decide +kernel];omega)
     · exact Zv (show _≤1000 by rw [Xe,show (Str.ofString "'").length=1 by decide +kernel];omega)
     · rw [Zgz];exact q H2 s2
 | _=>exact hv.elim
abbrev nVt:List Str:=["value","slashed"]
abbrev Zhl:List Str:=["value"]
theorem scVt:Zs nVt Zhl (Zj s_value_text):=⟨rfl,rfl,rfl,by decide +kernel,rfl,by decide +kernel,by decide +kernel⟩
theorem Zmc {f:Addr}{fd:FuncData}(F:Fun K "value_text" "value_text" s_value_text f fd)(T:ZZ mg)(B:NBk K)(DNu:Zib P w K mg base 1 "is_number" "thing" ZbU):FnOk P w K mg base ZV 2 f fd Zhl spVT:=by
 refine F.ok scVt (fun vs H Q E h=>?_) (fun cdv A outer s H vs Q E hr h=>?_)
 · obtain ⟨v,rfl,_⟩:=h;rfl
 obtain ⟨v,rfl,hv,q⟩:=h
 refine' ⟨?t,?h,?r⟩
 case h =>
   conv=>arg 2;whnf
   with_reducible refine' ZiU (px:="thing") (sp:=ZbU) ?a1 ?a2 ?a3 ?a4 (Zfs (i:=1) ?b1 ?b2 ?b3 ?b4 ?b5 ?b6 ?b7) ?g1 ?g2 ?g3 ?g4
   case g1=>exact rfl
   case g2=>decide
   case g3=>exact rfl
   case g4=>intro _;rfl
   case b6=>exact rfl
   case b7=>exact .inl rfl
   case a1=>exact DNu
   case a2=>exact hr
   case a3=>exact pv 0
   case a4=>exact Zi (Zp (ZY UA rfl T.str (by decide +kernel) (Zb (pv 0) Za)))
   case b1=>exact scVt.nd
   case b2=>exact rfl
   case b3=>exact Or.inl rfl
   case b4=>exact ZdA B (by decide +kernel) (ZdA B (by decide +kernel) (PE.three (pv 0)))
   case b5=>exact Zi (Zp (Zl Yf (Zl Yf Zk (pv 1)) Zk))
 cases v with
 | int i=>exact ⟨_,rfl,_,rfl,hv,_,rfl,ZQ ⟨_,rfl,.inl ⟨i,rfl,(Zbh (IsVal.b31 hv)).1,q⟩⟩⟩
 | str x =>
   have hx:x.length≤40:=hv.1
   have h1:=ZgR x
   have h3:(Txt.replace (Txt.replace x "\\" "\\\\") "'" "\\'").length≤200:=by
     have e3:(Str.ofString "'")=⟨#[39]⟩:=by decide +kernel
     have e4:(Str.ofString "\\'")=⟨([92,39]:List Nat).toArray⟩:=by decide +kernel
     rw [e3,e4]
     have:=Zah 39 92 39 (Txt.replace x "\\" "\\\\").cps.toList
     rw [← UR,Array.length_toList,Array.length_toList] at this
     have h1':(Txt.replace x "\\" "\\\\").cps.size≤2 * x.length:=h1
     show (Txt.replace _ _ _).cps.size≤200
     omega
   refine ⟨_,rfl,_,rfl,hv,_,rfl,ZD ⟨_,rfl,x,rfl,by omega,_,rfl,by omega,?_⟩⟩
   refine ⟨_,rfl,_,_,rfl,rfl,Zv (show _≤1000 by rw [show (Str.ofString "'").length=1 by decide +kernel];omega),_,_,rfl,rfl,Zv (show _≤1000 by rw [Xe,show (Str.ofString "'").length=1 by decide +kernel];omega),?_⟩
   rw [ZeP];exact q
 | _=>exact hv.elim
end
end K72
set_option maxHeartbeats 4000000
namespace K72
open PySem L2
theorem XI {c:Bool}{A B:Prop}(h:c=false)(b:B):if c=true then A else B:=by rw [h];exact ZD b
theorem Uq {c:Bool}{A B:Prop}(h:c=true)(a:A):if c=true then A else B:=by rw [h];exact ZQ a
def XD:List (Str×List V):=[("set",[.str "name",.str "value",.str "slot"]),("look",[.str "name"]),("back",[.str "slot"]),("begin",[.str "program"]),("late",[.str "program"]),("copy",[.str "slot"]),("in",[.str "slot",.str "program"]),("pass",[])]
def WH (x:Str):Option Bool:=(PyProof.Rows.KTD.datumAt x XD).map fun xs=>YG (.str "program") xs
theorem Zex {x:Str}{xs:List V}(h:PyProof.Rows.KTD.datumAt x XD=some xs):xs.all Xu=true:=by
 have:∀ p∈XD,p.2.all Xu=true:=by decide +kernel
 have mem:∀ (D:List (Str×List V)),PyProof.Rows.KTD.datumAt x D=some xs→∃ p∈D,p.2=xs:=by
   intro D
   induction D with
   | nil=>intro h;cases h
   | cons p D ih =>
     intro h
     rw [PyProof.Rows.KTD.datumAt] at h
     split at h
     · cases h;exact ⟨p,List.mem_cons_self,rfl⟩
     · obtain ⟨q,hq,e⟩:=ih h;exact ⟨q,List.mem_cons_of_mem _ hq,e⟩
 obtain ⟨p,hp,rfl⟩:=mem _ h
 exact this p hp
theorem ZdE {p:Pg}(h:p.ok):WH p.word=some p.isB:=by
 cases p with
 | slot w s =>
   rcases h.1 with rfl | rfl
   · exact (show WH "back"=some false by decide +kernel)
   · exact (show WH "copy"=some false by decide +kernel)
 | blk w ps =>
   rcases h.1 with rfl | rfl
   · exact (show WH "begin"=some true by decide +kernel)
   · exact (show WH "late"=some true by decide +kernel)
 | inn s ps=>show WH "in"=some true;decide +kernel
 | set x v s=>show WH "set"=some false;decide +kernel
 | look x=>show WH "look"=some false;decide +kernel
 | pass=>show WH "pass"=some false;decide +kernel
section
variable {P:Program}{w:World}{K:PySem.W.Frag}{mg:Str→Option Value}{base:Heap}{dk:Addr}
def VI (K:PySem.W.Frag):Sp:=fun vs H Q _=>∃ x:Str,vs=[.str x]∧(∀ b xs,PyProof.Rows.KTD.datumAt x XD=some xs→SqT K H b xs→Q (.ref b) H)∧(PyProof.Rows.KTD.datumAt x XD=none→Q .non H)
abbrev nKi:List Str:=["word"]
abbrev Zdb:List Str:=["word"]
theorem scKi:Zs nKi Zdb (Zj s_kinds_of):=⟨rfl,rfl,rfl,by decide +kernel,rfl,by decide +kernel,by decide +kernel⟩
theorem ZhV {f:Addr}{fd:FuncData}(F:Fun K "kinds_of" "kinds_of" s_kinds_of f fd)(TK:KDic K dk XD)(hK:mg "KINDS"=some (.ref dk)):FnOk P w K mg base ZV 1 f fd Zdb (VI K):=by
 refine F.ok scKi (fun vs H Q E h=>?_) (fun cdv A outer s H vs Q E hr h=>?_)
 · obtain ⟨x,rfl,_⟩:=h;rfl
 obtain ⟨x,rfl,q1,q2⟩:=h
 refine' ⟨?t,?h,?r⟩
 case h =>
   conv=>arg 2;whnf
   with_reducible refine' (Zi ?h1)
   case h1=>exact Zp (Zjs TK (Wu (v:=.ref _) rfl hK rfl) (pv 0) ⟨rfl,rfl,rfl,rfl⟩)
 exact ⟨_,rfl,x,rfl,fun b xs e1 e2=>q1 b xs e1 e2,fun e=>q2 e⟩
def ZcC:Sp:=fun vs H Q _=>∃(x:Str)(b:Bool),vs=[.str x]∧WH x=some b∧Q (.bl b) H
abbrev nHw:List Str:=["word"]
abbrev ZeC:List Str:=["word"]
theorem scHw:Zs nHw ZeC (Zj s_has_within):=⟨rfl,rfl,rfl,by decide +kernel,rfl,by decide +kernel,by decide +kernel⟩
theorem ZiD {f:Addr}{fd:FuncData}(F:Fun K "has_within" "has_within" s_has_within f fd)(DKi:Def P w K mg base 1 "kinds_of" Zdb (VI K)):FnOk P w K mg base ZV 2 f fd ZeC ZcC:=by
 refine F.ok scHw (fun vs H Q E h=>?_) (fun cdv A outer s H vs Q E hr h=>?_)
 · obtain ⟨x,b,rfl,_⟩:=h;rfl
 obtain ⟨x,b,rfl,hb,q⟩:=h
 refine' ⟨?t,?h,?r⟩
 case h =>
   conv=>arg 2;whnf
   with_reducible refine' (Zi ?h1)
   case h1=>exact Zp (YT Wc Zk (Zq DKi hr (Zb (pv 0) Za)) rfl)
 refine ⟨_,rfl,x,rfl,fun d xs e1 e2=>?_,fun e=>?_⟩
 · unfold WH at hb
   rw [e1] at hb
   cases hb
   exact ⟨d,xs,rfl,.inr e2,rfl,Zex e1,q⟩
 · unfold WH at hb
   rw [e] at hb
   cases hb
end
end K72
namespace L2
open PySem
structure FG (K:PySem.W.Frag)(x:Str)(st:Stmt)(f:Addr)(fd:FuncData):Prop where
 a:PySem.W.nsIn K mainGlobals x=some (some (.ref f))
 F:Fun K x x st f fd
structure Bs (P:Program)(w:World)(K:PySem.W.Frag)(mg:Str→Option Value)(base h:Heap):Prop where
 X:K.In h
 G:h.Ns mainGlobals mg
section
variable {P:Program}{w:World}{K:PySem.W.Frag}{mg:Str→Option Value}{base h:Heap}{x q:Str}{st:Stmt}{f c Pl C:Addr}{fd:FuncData}{k:Nat}{ps:List Str}{sp:Sp}{p1 p2 p3 p4 p5:Str}
theorem FG.df (g:FG K x st f fd)(e:Bs P w K mg base h)(o:FnOk P w K mg base ZV k f fd ps sp)(b:Binds K fd ps []):Def P w K mg base k x ps sp:=⟨f,fd,o,b,g.F.kp,PySem.W.mg_of e.X e.G g.a⟩
abbrev BA (x q:Str)(st:Stmt)(us:List Value)(r:List (Str×Value)):Prop:=∀(kV doc pm:Value)(an:Option Addr)(cdv ct:Value),bindArgs (PySem.W.fnOf x q (Zbb st) (WT st) (Zj st) .none kV doc pm an cdv ct) ⟨us,[]⟩=pure r
theorem Fun.b1 (F:Fun K x q st f fd)(h:∀ u,BA x q st [u] [(p1,u)]):Binds K fd [p1] []:=F.binds fun a b c d e g us hl=>match us,hl with | [u],_=>h u a b c d e g
theorem Fun.b2 (F:Fun K x q st f fd)(h:∀ u v,BA x q st [u,v] [(p1,u),(p2,v)]):Binds K fd [p1,p2] []:=F.binds fun a b c d e g us hl=>match us,hl with | [u,v],_=>h u v a b c d e g
theorem Fun.b3 (F:Fun K x q st f fd)(h:∀ u v y,BA x q st [u,v,y] [(p1,u),(p2,v),(p3,y)]):Binds K fd [p1,p2,p3] []:=F.binds fun a b c d e g us hl=>match us,hl with | [u,v,y],_=>h u v y a b c d e g
theorem Fun.b5 (F:Fun K x q st f fd)(h:∀ u v y z z',BA x q st [u,v,y,z,z'] [(p1,u),(p2,v),(p3,y),(p4,z),(p5,z')]):Binds K fd [p1,p2,p3,p4,p5] []:=F.binds fun a b c d e g us hl=>match us,hl with | [u,v,y,z,z'],_=>h u v y z z' a b c d e g
theorem ZfD (F:Fun K x q st f fd)(h:∀ u,BA x q st [u] [(p1,u)])(s:Shared)(v:Value):BindsTo s fd ⟨[v],[]⟩ [(p1,v)]:=by
 obtain ⟨oc,od,kV,doc,pm,an,cdv,ct,osl,rfl,lk,hcd⟩:=F.ex
 exact .of_eq (h v kV doc pm an cdv ct)
end
end L2
set_option maxHeartbeats 2000000
namespace L2
open PySem PySem.Spec PyProof.Rows
def Zhb:Expr→Option V
 | .Constant (.int i) _ _=>some (.int i)
 | .Constant (.str x) _ _=>some (.str x)
 | .Constant (.bool b) _ _=>some (.bl b)
 | .Constant .none _ _=>some .non
 | _=>none
def Zei:List Expr→Option (List V)
 | []=>some []
 | e::es=>match Zhb e,Zei es with
   | some v,some vs=>some (v::vs)
   | _,_=>none
section
variable {X:Cx}
theorem Zki {e:Expr}{v:V}(h:Zhb e=some v):PE X e (tC v)∧∀ es,starEach (e::es) X.env=(false,eval e X.env)::starEach es X.env:=by
 unfold Zhb at h
 split at h<;>cases h
 · exact ⟨Zd,fun _=>rfl⟩
 · exact ⟨Zk,fun _=>rfl⟩
 · exact ⟨Zax,fun _=>rfl⟩
 · exact ⟨YI,fun _=>rfl⟩
def ZlB (vs:List V):TA:=fun _ H Q=>Q vs H
theorem Zbe:∀{es:List Expr}{vs:List V},Zei es=some vs→PA X es (ZlB vs)
 | [],_,h=>by cases h;exact Za
 | e :: es,vs,h=>by
   rw [Zei] at h
   split at h
   · rename_i v ws h1 h2
     cases h
     obtain ⟨p,s⟩:=Zki (X:=X) h1
     exact Ym p (Zbe h2) (s es)
   · cases h
end
section
variable {X:Cx}
end
section
variable {K:PySem.W.Frag}{x q:Str}{st:Stmt}{f:Addr}{fd:FuncData}{p1 p2 p3 p4 p5 p6 p7:Str}
end
section
variable {X:Cx}
end
end L2
set_option maxHeartbeats 2000000
namespace L2
open PySem PySem.Spec PyProof.Rows
mutual
inductive DatA (K:PySem.W.Frag)(H:Hp):V→PyData→Prop
 | non:DatA K H .non .none
 | bl (b):DatA K H (.bl b) (.bool b)
 | int (i):DatA K H (.int i) (.int i)
 | str (x):DatA K H (.str x) (.str x)
 | lst {a xs ds}:H a=some (.lst xs)→xs.length≤20000→DatAs K H xs ds→DatA K H (.ref a) (.list ds)
 | tup {a xs ds}:SqT K H a xs→xs.length≤20000→DatAs K H xs ds→DatA K H (.ref a) (.tuple ds)
inductive DatAs (K:PySem.W.Frag)(H:Hp):List V→List PyData→Prop
 | nil:DatAs K H [] []
 | cons {v d vs ds}:DatA K H v d→DatAs K H vs ds→DatAs K H (v::vs) (d::ds)
end
mutual
theorem DatA.same {K:PySem.W.Frag}{H H':Hp}(s:Same H H'):∀{v d},DatA K H v d→DatA K H' v d
 | _,_,.non=>.non
 | _,_,.bl b=>.bl b
 | _,_,.int i=>.int i
 | _,_,.str x=>.str x
 | _,_,.lst e h q=>.lst (s _ _ e) h (DatAs.same s q)
 | _,_,.tup e h q=>.tup (e.tf s.tf) h (DatAs.same s q)
theorem DatAs.same {K:PySem.W.Frag}{H H':Hp}(s:Same H H'):∀{vs ds},DatAs K H vs ds→DatAs K H' vs ds
 | _,_,.nil=>.nil
 | _,_,.cons r t=>.cons (DatA.same s r) (DatAs.same s t)
end
theorem DatAs.len {K:PySem.W.Frag}{H:Hp}:∀{vs ds},DatAs K H vs ds→vs.length=ds.length
 | _,_,.nil=>rfl
 | _,_,.cons q t=>by rw [List.length_cons,List.length_cons,DatAs.len t]
theorem DatAs.at {K:PySem.W.Frag}{H:Hp}:∀{vs ds}{i:Nat}{v:V},DatAs K H vs ds→vs[i]?=some v→∃ d,ds[i]?=some d∧DatA K H v d
 | _,_,_,_,.nil,h=>by simp at h
 | _,_,0,_,.cons a _,h=>by cases h;exact ⟨_,rfl,a⟩
 | _,_,i+1,_,.cons _ b,h=>DatAs.at (i:=i) b h
theorem VZ:∀{ds:List PyData}{i:Nat}{d:PyData},ds[i]?=some d→d.depth≤PyData.depthAll ds
 | [],_,_,h=>by simp at h
 | q::ds,0,_,h=>by cases h;rw [PyData.depthAll];exact Nat.le_max_left _ _
 | q::ds,i+1,p,h=>by rw [PyData.depthAll];exact Nat.le_trans (VZ (ds:=ds) (i:=i) h) (Nat.le_max_right _ _)
section
variable {X:Cx}{pins:List (Addr×Obj)}{σ:St}{H:Hp}{s:Shared}
mutual
theorem DatA.reads (I:Inv X pins σ H s):∀{v d}(u:Value),DatA X.K H v d→RelV v u→d.hasDict=false∧∃ as,Reads s.heap u d as
 | _,_,u,.non,r=>by cases (show u=.none from r);exact ⟨rfl,_,.none⟩
 | _,_,u,.bl b,r=>by cases (show u=.bool b from r);exact ⟨rfl,_,.bool b⟩
 | _,_,u,.int i,r=>by obtain ⟨t,e⟩:=(show ∃ t,u=.int i t from r);subst e;exact ⟨rfl,_,.int i t⟩
 | _,_,u,.str x,r=>by obtain ⟨t,e⟩:=(show ∃ t,u=.str x t from r);subst e;exact ⟨rfl,_,.str x t⟩
 | _,_,u,.lst (a:=a) (xs:=xs) e _ q,r=>by
   cases (show u=.ref a from r)
   obtain ⟨_,its,n,rv,g⟩:=(show ObjOk X.prog X.w H s.heap a (.lst xs) from I.hok a _ e)
   obtain ⟨nd,as,ra⟩:=DatAs.reads I its q rv
   exact ⟨by simpa [PyData.hasDict] using nd,_,.list g rfl rfl (by simpa using ra)⟩
 | _,_,u,.tup (a:=a) (xs:=xs) e _ q,r=>by
   cases (show u=.ref a from r)
   obtain ⟨its,rv,⟨o,g,c,n,d⟩,_⟩:=I.tuple e
   obtain ⟨nd,as,ra⟩:=DatAs.reads I its q rv
   exact ⟨by simpa [PyData.hasDict] using nd,_,.tuple g c d (by simpa using ra)⟩
theorem DatAs.reads (I:Inv X pins σ H s):∀{vs ds}(us:List Value),DatAs X.K H vs ds→Vals vs us→PyData.hasDictAll ds=false∧∃ as,ReadsAll s.heap us ds as
 | _,_,_,.nil,.nil=>⟨rfl,_,.nil⟩
 | _,_,_,.cons r t,.cons rv tv=>by
   obtain ⟨n1,as,r1⟩:=DatA.reads I _ r rv
   obtain ⟨n2,bs,r2⟩:=DatAs.reads I _ t tv
   exact ⟨by simp [PyData.hasDictAll,n1,n2],_,.cons r1 r2⟩
end
end
section
variable {X:Cx}
end
section
variable {X:Cx}
end
end L2
set_option maxHeartbeats 4000000
namespace K72
open PySem L2
mutual
def nb:PyData→Bool
 | .bool _=>false
 | .list ds=>Wp ds
 | .tuple ds=>Wp ds
 | .none=>true
 | .int _=>true
 | .str _=>true
 | .dict _=>false
def Wp:List PyData→Bool
 | []=>true
 | d::ds=>nb d&&Wp ds
end
theorem Zcg:∀{ds:List PyData}{i:Nat}{d:PyData},Wp ds=true→ds[i]?=some d→nb d=true
 | [],_,_,_,h=>by simp at h
 | q::ds,0,_,n,h=>by cases h;rw [Wp,Bool.and_eq_true] at n;exact n.1
 | q::ds,i+1,d,n,h=>by rw [Wp,Bool.and_eq_true] at n;exact Zcg (ds:=ds) (i:=i) n.2 h
section
variable {P:Program}{w:World}{K:PySem.W.Frag}{mg:Str→Option Value}{base:Heap}
def Vu (K:PySem.W.Frag)(n:Nat):Sp:=fun vs H Q _=>∃(x y:V)(d:PyData),vs=[x,y]∧DatA K H x d∧DatA K H y d∧nb d=true∧d.depth < n∧∀ H',Same H H'→Q (.bl true) H'
abbrev nSa:List Str:=["_law_found","_law_due"]
abbrev VW:List Str:=["_law_found","_law_due"]
theorem scSa:Zs nSa VW (Zj s_l_same):=⟨rfl,rfl,rfl,by decide +kernel,rfl,by decide +kernel,by decide +kernel⟩
theorem Zck {f:Addr}{fd:FuncData}{n k:Nat}(F:Fun K "_law_same" "_law_same" s_l_same f fd)(T:ZZ mg)(DSa:Def P w K mg base k "_law_same" VW (fun vs H Q E=>∃ m,m < n∧Vu K m vs H Q E)):FnOk P w K mg base ZV (k+1) f fd VW (Vu K n):=by
 refine F.ok scSa (fun vs H Q E h=>?_) (fun cdv A outer s H vs Q E hr h=>?_)
 · obtain ⟨x,y,d,rfl,_⟩:=h;rfl
 obtain ⟨x,y,d,rfl,dx,dy,hb,hn,q⟩:=h
 refine' ⟨?t,?h,?r⟩
 case h =>
   conv=>arg 2;whnf
   with_reducible refine' (Ze (ZS ?h1 (Ze (ZS ?h2 (Zi ?h3) ZE) (Zi ?h4)) ZE) (Ze (ZS ?h5 (Zi ?h6) ZE) (Zi ?h7)))
   case h1=>exact YJ (Zm (ZfC (K:=K) rfl) rfl T.isinstance (by decide +kernel) (Zb (pv 1) (Zb (ZI (Wb (Yl rfl T.list (by decide +kernel) (v:=.ty "list") rfl) (Wb (Yl rfl T.tuple (by decide +kernel) (v:=.ty "tuple") rfl) Za rfl) rfl)) Za)))
   case h2=>exact PW.pt (WP (ZA UX (Zm (ZX (K:=K) rfl) rfl T.isinstance (by decide +kernel) (Zb (pv 0) (Zb (Yl rfl T.list (by decide +kernel) (v:=.ty "list") rfl) Za))) (Zm (ZX (K:=K) rfl) rfl T.isinstance (by decide +kernel) (Zb (pv 1) (Zb (Yl rfl T.list (by decide +kernel) (v:=.ty "list") rfl) Za))) (ZC _)) (Ud (ZA UX (Zm (ZX (K:=K) rfl) rfl T.isinstance (by decide +kernel) (Zb (pv 0) (Zb (Yl rfl T.tuple (by decide +kernel) (v:=.ty "tuple") rfl) Za))) (Zm (ZX (K:=K) rfl) rfl T.isinstance (by decide +kernel) (Zb (pv 1) (Zb (Yl rfl T.tuple (by decide +kernel) (v:=.ty "tuple") rfl) Za))) (ZC _))))
   case h3=>exact Zp Zax
   case h4=>exact Zp (XQ (YT YW (Zm ZK rfl T.len PySem.boot_len (Zb (pv 0) Za)) (Zm ZK rfl T.len PySem.boot_len (Zb (pv 1) Za)) (ZC _)) (WD (Zm (Vi rfl) rfl T.all (by decide +kernel) (Zb (Zhe (xa:="_law_one") (xb:="_law_other") (CompOkT.of nSa s_l_same rfl rfl (by decide +kernel)) rfl (PI.or (ZeZ rfl T.zip (pv 0) (pv 1)) (ZiX rfl T.zip (pv 0) (pv 1))) (fun _ _ _ _ _=>Zbk (K:=K) rfl rfl (Zw (i:=2) (show (Wl nSa "_law_one" "_law_other"++(["_law_one","_law_other"]:List Str)).Nodup by decide +kernel) rfl (Or.inl rfl) (Or.inr rfl)) (Zw (i:=3) (show (Wl nSa "_law_one" "_law_other"++(["_law_one","_law_other"]:List Str)).Nodup by decide +kernel) rfl (Or.inl rfl) (Or.inr rfl)))  (fun _ _ _ _ _=>Zq DSa hr (Zb (pv 2) (Zb (pv 3) Za)))) Za))))
   case h5=>exact PW.pt (WP (WG (WE (pv 1))) (Ud (YJ (Zm (ZX (K:=K) rfl) rfl T.isinstance (by decide +kernel) (Zb (pv 1) (Zb (Yl rfl T.str (by decide +kernel) (v:=.ty "str") rfl) Za))))))
   case h6=>exact Zp (XQ (YT YW (pv 0) (pv 1) (ZC _)) (WD (YT YW (Zm (ZX (K:=K) rfl) rfl T.isinstance (by decide +kernel) (Zb (pv 0) (Zb (Yl rfl T.str (by decide +kernel) (v:=.ty "str") rfl) Za))) (Zm (ZX (K:=K) rfl) rfl T.isinstance (by decide +kernel) (Zb (pv 1) (Zb (Yl rfl T.str (by decide +kernel) (v:=.ty "str") rfl) Za))) (ZC _))))
   case h7=>exact Zp (XQ (Zm (ZX (K:=K) rfl) rfl T.isinstance (by decide +kernel) (Zb (pv 0) (Zb (Yl rfl T.int (by decide +kernel) (v:=.ty "int") rfl) Za))) (XQ (Zcm (Zm (ZX (K:=K) rfl) rfl T.isinstance (by decide +kernel) (Zb (pv 0) (Zb (Yl rfl T.bool (by decide +kernel) (v:=.ty "bool") rfl) Za)))) (WD (YT YW (pv 0) (pv 1) (ZC _)))))
 have tyx:∀ {z:V} {d:PyData} {H':Hp},DatA K H' z d→∃ t,TyS K H' z t∧PySem.W.kitOne K t (.type "list")=some (match d with | .list _=>true | _=>false)∧PySem.W.kitOne K t (.type "tuple")=some (match d with | .tuple _=>true | _=>false)∧PySem.W.kitOne K t (.type "bool")=some (match d with | .bool _=>true | _=>false)∧PySem.W.kitOne K t (.type "str")=some (match d with | .str _=>true | _=>false)∧PySem.W.kitOne K t (.type "int")=some (match d with | .int _=>true | .bool _=>true | _=>false)∧PySem.W.kitAny K t [.type "list",.type "tuple"]=some (match d with | .list _=>true | .tuple _=>true | _=>false):=by
   intro z d H' h
   cases h with
   | non=>exact ⟨_,.inl .non,rfl,rfl,rfl,rfl,rfl,rfl⟩
   | bl b=>exact ⟨_,.inl (.bl b),rfl,rfl,rfl,rfl,rfl,rfl⟩
   | int i=>exact ⟨_,.inl (.int i),rfl,rfl,rfl,rfl,rfl,rfl⟩
   | str x=>exact ⟨_,.inl (.str x),rfl,rfl,rfl,rfl,rfl,rfl⟩
   | lst e _ _=>exact ⟨_,.inl (.lst e),rfl,rfl,rfl,rfl,rfl,rfl⟩
   | tup e _ _=>exact ⟨_,.inr ⟨_,_,rfl,rfl,e⟩,rfl,rfl,rfl,rfl,rfl,rfl⟩
 refine ⟨_,rfl,(show 2≤sizeLine by decide),fun tp htp=>?_⟩
 have s1:=Zh htp (.tup [.ty "list",.ty "tuple"])
 have etp:upd H tp (.tup [.ty "list",.ty "tuple"]) tp=some (.tup ((["list","tuple"]:List String).map V.ty)):=Zc
 replace dx:=DatA.same s1 dx
 replace dy:=DatA.same s1 dy
 generalize upd H tp (.tup [.ty "list",.ty "tuple"])=H1 at *
 obtain ⟨t1,ty1,l1,p1,b1,w1,i1,a1⟩:=tyx dx
 obtain ⟨t2,ty2,l2,p2,b2,w2,i2,a2⟩:=tyx dy
 refine ⟨y,tp,_,t2,_,rfl,ty2,etp,a2,_,rfl,?_⟩
 cases dx with
 | bl i=>exact absurd (show false=true from hb) (by decide)
 | non =>
   cases dy
   refine ZD ⟨_,rfl,_,rfl,Uq rfl ?_⟩
   refine ⟨_,rfl,_,rfl,rfl,_,rfl,Uq (decide_eq_true rfl) ?_⟩
   refine ⟨_,rfl,_,_,_,_,rfl,ty1,w1,_,rfl,_,_,_,_,rfl,ty2,w2,rfl,?_⟩
   rw [decide_eq_true rfl];exact q H1 s1
 | int i =>
   cases dy
   refine ZD ⟨_,rfl,_,rfl,XI rfl ?_⟩
   refine ⟨_,rfl,_,_,_,_,rfl,ty2,w2,_,rfl,ZD ?_⟩
   refine ⟨_,rfl,_,_,_,_,rfl,ty1,i1,_,rfl,ZQ ?_⟩
   refine ⟨_,rfl,_,_,_,_,rfl,ty1,b1,_,rfl,_,rfl,Uq rfl ?_⟩
   refine ⟨_,rfl,_,rfl,rfl,?_⟩
   rw [decide_eq_true rfl];exact q H1 s1
 | str i =>
   cases dy
   refine ZD ⟨_,rfl,_,rfl,XI rfl ?_⟩
   refine ⟨_,rfl,_,_,_,_,rfl,ty2,w2,_,rfl,ZQ ?_⟩
   refine ⟨_,rfl,_,rfl,rfl,_,rfl,Uq (decide_eq_true rfl) ?_⟩
   refine ⟨_,rfl,_,_,_,_,rfl,ty1,w1,_,rfl,_,_,_,_,rfl,ty2,w2,rfl,?_⟩
   rw [decide_eq_true rfl];exact q H1 s1
 | lst e1 h1 q1 =>
   cases dy with
   | lst e2 h2 q2 =>
   rename_i av1 xs1 ds av2 xs2
   have hnb:Wp ds=true:=hb
   have hl1:=q1.len
   have hl2:=q2.len
   refine ZQ ⟨_,rfl,_,_,_,_,rfl,ty1,l1,_,rfl,_,_,_,_,rfl,ty2,l2,rfl,_,rfl,XI rfl ?_⟩
   refine ⟨_,rfl,_,_,_,_,rfl,ty1,p1,_,rfl,_,_,_,_,rfl,ty2,p2,rfl,_,rfl,XI rfl ?_⟩
   refine ⟨_,rfl,_,xs1,rfl,.inl (SqL.of e1),_,rfl,_,xs2,rfl,.inl (SqL.of e2),rfl,_,rfl,Uq (decide_eq_true (by rw [hl1,hl2])) ?_⟩
   refine .inl ⟨_,rfl,_,rfl,_,_,xs1,xs2,rfl,e1,e2,fun D hD=>?_⟩
   refine ZbG (K:=K) (xs:=xs1) (zs:=xs2) (Zv (show xs1.length≤20000 from h1)) (by omega) (fun i ys H'=>Same H1 H'∧H' D=some (.lst ys)∧ys=(List.replicate i true).map V.bl) ⟨Zh hD _,Zc,rfl⟩ ?_ ?_ ?_
   · rintro i ys H' ⟨s4,_,rfl⟩;exact ⟨by simp,SqL.of (s4 _ _ e1),SqL.of (s4 _ _ e2)⟩
   · rintro i x z t ys H' wa wb hx hz ht ⟨s4,eD,rfl⟩
     obtain ⟨d1,ed1,dd1⟩:=q1.at hx
     obtain ⟨d2,ed2,dd2⟩:=q2.at hz
     cases (ed1.symm.trans ed2)
     have s5:=s4.trans (Zh ht (.tup [x,z]))
     refine ⟨t,_,rfl,SqT.of Zc,rfl,_,_,rfl,_,_,rfl,rfl,⟨_,_,rfl⟩,?_⟩
     refine ⟨_,rfl,_,rfl,d1.depth+1,by have h3:=VZ ed1;have h4:(PyData.list ds).depth < n:=hn;rw [PyData.depth] at h4;omega,x,z,d1,rfl,dd1.same s5,dd2.same s5,Zcg hnb ed1,Nat.lt_succ_self _,fun H2 s6=>⟨s6 _ _ (Zh ht (.tup [x,z]) _ _ eD),fun b o q=>?_,Zc,?_⟩⟩
     · rw [Zo (Zy q hD)];exact s6 _ _ (s5 _ _ q)
     · rw [List.replicate_succ',List.map_append];rfl
   · rintro ys H3 ⟨s3,eD,rfl⟩
     refine ⟨D,_,rfl,SqL.of eD,?_⟩
     rw [show ∀ k,(List.replicate k true).all id=true from fun k=>by simp]
     exact q H3 (s1.trans s3)
 | tup e1 h1 q1 =>
   cases dy with
   | tup e2 h2 q2 =>
   rename_i av1 xs1 ds av2 xs2
   have hnb:Wp ds=true:=hb
   have hl1:=q1.len
   have hl2:=q2.len
   refine ZQ ⟨_,rfl,_,_,_,_,rfl,ty1,l1,_,rfl,_,_,_,_,rfl,ty2,l2,rfl,_,rfl,XI rfl ?_⟩
   refine ⟨_,rfl,_,_,_,_,rfl,ty1,p1,_,rfl,_,_,_,_,rfl,ty2,p2,rfl,_,rfl,XI rfl ?_⟩
   refine ⟨_,rfl,_,xs1,rfl,.inr e1,_,rfl,_,xs2,rfl,.inr e2,rfl,_,rfl,Uq (decide_eq_true (by rw [hl1,hl2])) ?_⟩
   refine .inr ⟨_,rfl,_,rfl,_,_,xs1,xs2,rfl,e1,e2,fun D hD=>?_⟩
   refine Zel (K:=K) (xs:=xs1) (zs:=xs2) (Zv (show xs1.length≤20000 from h1)) (by omega) (fun i ys H'=>Same H1 H'∧H' D=some (.lst ys)∧ys=(List.replicate i true).map V.bl) ⟨Zh hD _,Zc,rfl⟩ ?_ ?_ ?_
   · rintro i ys H' ⟨s4,_,rfl⟩;exact ⟨by simp,e1.tf s4.tf,e2.tf s4.tf⟩
   · rintro i x z t ys H' wa wb hx hz ht ⟨s4,eD,rfl⟩
     obtain ⟨d1,ed1,dd1⟩:=q1.at hx
     obtain ⟨d2,ed2,dd2⟩:=q2.at hz
     cases (ed1.symm.trans ed2)
     have s5:=s4.trans (Zh ht (.tup [x,z]))
     refine ⟨t,_,rfl,SqT.of Zc,rfl,_,_,rfl,_,_,rfl,rfl,⟨_,_,rfl⟩,?_⟩
     refine ⟨_,rfl,_,rfl,d1.depth+1,by have h3:=VZ ed1;have h4:(PyData.tuple ds).depth < n:=hn;rw [PyData.depth] at h4;omega,x,z,d1,rfl,dd1.same s5,dd2.same s5,Zcg hnb ed1,Nat.lt_succ_self _,fun H2 s6=>⟨s6 _ _ (Zh ht (.tup [x,z]) _ _ eD),fun b o q=>?_,Zc,?_⟩⟩
     · rw [Zo (Zy q hD)];exact s6 _ _ (s5 _ _ q)
     · rw [List.replicate_succ',List.map_append];rfl
   · rintro ys H3 ⟨s3,eD,rfl⟩
     refine ⟨D,_,rfl,SqL.of eD,?_⟩
     rw [show ∀ k,(List.replicate k true).all id=true from fun k=>by simp]
     exact q H3 (s1.trans s3)
theorem ZdF {f:Addr}{fd:FuncData}(F:Fun K "_law_same" "_law_same" s_l_same f fd)(T:ZZ mg)(b:Binds K fd VW [])(kp:PySem.W.keepIn K (.ref f)=true)(m:mg "_law_same"=some (.ref f)):∀ n,FnOk P w K mg base ZV (n+1) f fd VW (Vu K n)
 | 0=>Zck F T ⟨_,_,⟨fun vs H Q E ⟨_,h,_⟩=>absurd h (Nat.not_lt_zero _),fun _ _ _ _ _ _ _ _ _ _ _ _ _ ⟨_,h,_⟩=>absurd h (Nat.not_lt_zero _)⟩,b,kp,m⟩
 | n+1=>Zck F T ⟨_,_,(ZdF F T b kp m n).imp fun vs H Q E ⟨j,h,x,y,d,a1,a2,a3,a4,a5,a6⟩=>⟨x,y,d,a1,a2,a3,a4,by omega,a6⟩,b,kp,m⟩
end
end K72
set_option maxHeartbeats 2000000
namespace L2
open PySem PySem.Spec PyProof.Rows
section
variable {prog:Program}{w:World}{A:Around}{E:Value→Shared→Prop}{s:Shared}
end
section
variable {prog:Program}{w:World}{A:Around}{E:Value→Shared→Prop}{s:Shared}
end
section
variable {X:Cx}
end
end L2
set_option maxHeartbeats 4000000
namespace K72
open PySem L2
def _root_.L2.Pg.ws:Pg→List Str
 | .set x v s=>[x,ZJ v,s]
 | .look x=>[x]
 | .slot _ s=>[s]
 | .pass=>[]
 | .blk _ _=>[]
 | .inn s _=>[s]
def _root_.L2.Pg.srow (p:Pg):Str:=Txt.join " " (p.word::p.ws)
def _root_.L2.Pg.ks:Pg→List Str
 | .set _ _ _=>["name","value","slot"]
 | .look _=>["name"]
 | .slot _ _=>["slot"]
 | .pass=>[]
 | .blk _ _=>[]
 | .inn _ _=>["slot"]
theorem Zjx {K:PySem.W.Frag}{H:Hp}{u v:V}(h:DatT K H u (XT v))(hv:IsVal v):u=v:=by
 cases v with
 | int i=>cases h;rfl
 | str x=>cases h;rfl
 | _=>exact hv.elim
def Wk (x:Str):Option (List V):=(PyProof.Rows.KTD.datumAt x XD).map fun xs=>xs.filter fun v=>!decide (v=.str "program")
theorem Zgs {p:Pg}(h:p.ok):p.word.length≤5∧(∀ y∈p.ws,y.length≤100)∧p.ws.length≤3:=by
 cases p with
 | set x v s =>
   have h1:=h.1.2.1
   have h2:=VX h.2.1
   have h3:=h.2.2.2.1
   refine ⟨(show (Str.ofString "set").length≤5 by decide +kernel),fun y hy=>?_,by simp [Pg.ws]⟩
   simp only [Pg.ws,List.mem_cons,List.not_mem_nil,or_false] at hy
   rcases hy with rfl | rfl | rfl<;>omega
 | look x =>
   have h1:=(show ZH x from h).2.1
   refine ⟨(show (Str.ofString "look").length≤5 by decide +kernel),fun y hy=>?_,by simp [Pg.ws]⟩
   simp only [Pg.ws,List.mem_cons,List.not_mem_nil,or_false] at hy
   rw [hy];omega
 | slot w s =>
   have h1:=h.2.2.1
   refine ⟨?_,fun y hy=>?_,by simp [Pg.ws]⟩
   · rcases h.1 with rfl | rfl
     · exact (show (Str.ofString "back").length≤5 by decide +kernel)
     · exact (show (Str.ofString "copy").length≤5 by decide +kernel)
   · simp only [Pg.ws,List.mem_cons,List.not_mem_nil,or_false] at hy
     rw [hy];omega
 | pass=>exact ⟨(show (Str.ofString "pass").length≤5 by decide +kernel),fun y hy=>(nomatch hy),Nat.zero_le _⟩
 | blk w ps =>
   refine ⟨?_,fun y hy=>(nomatch hy),Nat.zero_le _⟩
   rcases h.1 with rfl | rfl
   · exact (show (Str.ofString "begin").length≤5 by decide +kernel)
   · exact (show (Str.ofString "late").length≤5 by decide +kernel)
 | inn s ps =>
   have h1:=h.1.2.1
   refine ⟨(show (Str.ofString "in").length≤5 by decide +kernel),fun y hy=>?_,Nat.succ_le_succ (Nat.zero_le _)⟩
   simp only [Pg.ws,List.mem_cons,List.not_mem_nil,or_false] at hy
   rw [hy];omega
theorem ZaK {x:Str}{xs:List V}(h:PyProof.Rows.KTD.datumAt x XD=some xs):xs.length≤3∧∀ v∈xs,ZeK v (.str "program")=true:=by
 have:∀ p∈XD,p.2.length≤3∧∀ v∈p.2,ZeK v (.str "program")=true:=by decide +kernel
 have mem:∀ (D:List (Str×List V)),PyProof.Rows.KTD.datumAt x D=some xs→∃ p∈D,p.2=xs:=by
   intro D
   induction D with
   | nil=>intro h;cases h
   | cons p D ih =>
     intro h
     rw [PyProof.Rows.KTD.datumAt] at h
     split at h
     · cases h;exact ⟨p,List.mem_cons_self,rfl⟩
     · obtain ⟨q,hq,e⟩:=ih h;exact ⟨q,List.mem_cons_of_mem _ hq,e⟩
 obtain ⟨p,hp,rfl⟩:=mem _ h
 exact this p hp
theorem US {H H':Hp}{d:Addr}{o:HO}(s:Same H H')(h:H d=none):Same H (upd H' d o):=fun b u q=>by rw [Zo (Zy q h)];exact s _ _ q
theorem UL {n:Nat}:∀ zs:List Str,(∀ y∈zs,y.length≤n)→(zs.map (·.length)).sum≤n * zs.length:=fun zs=>by
 induction zs with
 | nil=>intro _;simp
 | cons z r ih =>
   intro hz
   have h1:=hz z List.mem_cons_self
   have h2:=ih fun y hy=>hz y (List.mem_cons_of_mem _ hy)
   rw [List.map_cons,List.sum_cons,List.length_cons,Nat.mul_add];omega
section
variable {P:Program}{w:World}{K:PySem.W.Frag}{mg:Str→Option Value}{base:Heap}
def spKR (K:PySem.W.Frag):Sp:=fun vs H Q _=>∃(x:Str)(xs:List V),vs=[.str x]∧Wk x=some xs∧∀ l H',Same H H'→H l=none→H' l=some (.lst xs)→Q (.ref l) H'
abbrev nKR:List Str:=["word"]
abbrev ZgD:List Str:=["word"]
theorem scKR:Zs nKR ZgD (Zj s_kinds_in_row):=⟨rfl,rfl,rfl,by decide +kernel,rfl,by decide +kernel,by decide +kernel⟩
theorem ZlG {f:Addr}{fd:FuncData}(F:Fun K "kinds_in_row" "kinds_in_row" s_kinds_in_row f fd)(T:ZZ mg)(DKi:Def P w K mg base 1 "kinds_of" Zdb (VI K)):FnOk P w K mg base ZV 2 f fd ZgD (spKR K):=by
 refine F.ok scKR (fun vs H Q E h=>?_) (fun cdv A outer s H vs Q E hr h=>?_)
 · obtain ⟨x,xs,rfl,_⟩:=h;rfl
 obtain ⟨x,xs,rfl,hx,q⟩:=h
 refine' ⟨?t,?h,?r⟩
 case h =>
   conv=>arg 2;whnf
   with_reducible refine' (Zi ?h1)
   case h1=>exact Zp (ZcN (CompOk.of nKR s_kinds_in_row rfl rfl (by decide +kernel)) rfl (Zci (Zq DKi hr (Zb (pv 0) Za))) (fun _ _ _ _ _=>ZA UX (pv 1) Zk (ZC _)) (fun _ _ _ _ _=>pv 1))
 refine ⟨_,rfl,x,rfl,fun b ys e1 e2=>?_,fun e=>by unfold Wk at hx;rw [e] at hx;cases hx⟩
 unfold Wk at hx
 rw [e1] at hx
 cases hx
 obtain ⟨hl,hs⟩:=ZaK e1
 refine ⟨b,rfl,⟨_,e2⟩,fun D hD=>?_⟩
 refine ZbK (K:=K) (xs:=ys) (Zv (show ys.length≤1000 by omega)) (fun i zs H'=>Same H H'∧H' D=some (.lst zs)∧i≤ys.length∧zs=(ys.take i).filter fun v=>!decide (v=.str "program")) ⟨Zh hD _,Zc,Nat.zero_le _,rfl⟩ ?_ ?_ ?_
 · rintro i zs H' ⟨s1,_,hi,rfl⟩
   refine ⟨?_,e2.tf s1.tf⟩
   have:=List.length_filter_le (fun v=>!decide (v=V.str "program")) (ys.take i)
   rw [List.length_take] at this;omega
 · rintro i v zs H' hv ⟨s1,eD,hi,rfl⟩
   have hv2:=(List.getElem?_eq_some_iff.mp hv).1
   refine ⟨_,rfl,hs v (List.mem_of_getElem? hv),_,rfl,?_⟩
   have et:ys.take (i+1)=ys.take i++[v]:=by rw [List.take_add_one,hv];rfl
   cases hc:decide (v=V.str "program") with
   | true=>exact ZD ⟨s1,eD,hv2,by rw [et,List.filter_append,List.filter_cons,hc];simp⟩
   | false=>exact ZQ ⟨_,rfl,eD,fun b o e=>by rw [Zo (Zy e hD)];exact s1 _ _ e,Zc,hv2,by rw [et,List.filter_append,List.filter_cons,hc];simp⟩
 · rintro zs H' ⟨s1,eD,_,rfl⟩
   rw [List.take_length] at eD
   exact q D H' s1 hD eD
end
end K72
set_option maxHeartbeats 4000000
namespace K72
open PySem L2
def Ux (x:Str):Str:=Str.ofString "  "++x
mutual
def Vz:Pg→List Str
 | .blk w ps=>Pg.srow (.blk w ps)::(Yb ps).map Ux
 | .inn s ps=>Pg.srow (.inn s ps)::(Yb ps).map Ux
 | .set x v s=>[Pg.srow (.set x v s)]
 | .look x=>[Pg.srow (.look x)]
 | .slot w s=>[Pg.srow (.slot w s)]
 | .pass=>[Pg.srow .pass]
def Yb:List Pg→List Str
 | []=>[]
 | p::ps=>(Vz p)++Yb ps
end
theorem Xx (p:Pg):Vz p=p.srow::(Yb p.inner).map Ux:=by
 cases p<;>simp [Vz,Pg.inner,Yb]
theorem Zch:∀ ps qs:List Pg,Yb (ps++qs)=Yb ps++Yb qs
 | [],qs=>rfl
 | p::ps,qs=>by show (Vz p)++Yb (ps++qs)=(Vz p)++Yb ps++_;rw [Zch ps qs,List.append_assoc]
theorem Zfa {ps:List Pg}{i:Nat}{p:Pg}(h:ps[i]?=some p):Yb (ps.take (i+1))=Yb (ps.take i)++(p.srow::(Yb p.inner).map Ux):=by
 rw [List.take_add_one,h,Zch,← Xx]
 show _++((Vz p)++[])=_;rw [List.append_nil]
mutual
theorem Zjv:∀ p:Pg,(Vz p).length=p.many
 | .blk w ps=>by
   have:=XC ps
   have h2:=Pg.many_eq (.blk w ps)
   rw [Xx,List.length_cons,List.length_map,h2];show (Yb ps).length+1=1+Pg.manys ps;omega
 | .inn s ps=>by
   have:=XC ps
   have h2:=Pg.many_eq (.inn s ps)
   rw [Xx,List.length_cons,List.length_map,h2];show (Yb ps).length+1=1+Pg.manys ps;omega
 | .set x v s=>by rw [Pg.many_eq];rfl
 | .look x=>by rw [Pg.many_eq];rfl
 | .slot w s=>by rw [Pg.many_eq];rfl
 | .pass=>by rw [Pg.many_eq];rfl
theorem XC:∀ ps:List Pg,(Yb ps).length=Pg.manys ps
 | []=>rfl
 | p::ps=>by
   have h1:=Zjv p
   have h2:=XC ps
   show ((Vz p)++Yb ps).length=p.many+Pg.manys ps
   rw [List.length_append,h1,h2]
end
theorem XF (s:Str):∀ zs:List Str,(Str.join s zs).length≤(zs.map (·.length)).sum+zs.length * s.length
 | []=>by show 0≤_;omega
 | [z]=>by show z.length≤_;simp
 | p::q::r=>by
   have ih:=XF s (q::r)
   show (p++s++Str.join s (q::r)).length≤_
   rw [Uf,Uf,List.map_cons,List.sum_cons,List.length_cons,Nat.add_mul];omega
theorem XB {p:Pg}(h:p.ok):p.srow.length≤500:=by
 obtain ⟨h1,h2,h3⟩:=Zgs h
 have:=UL (n:=100) (p.word::p.ws) (fun y hy=>by rcases List.mem_cons.mp hy with rfl | hy;omega;exact h2 y hy)
 have j:=XF " " (p.word::p.ws)
 unfold Pg.srow
 rw [tj]
 rw [show (Str.ofString " ").length=1 by decide +kernel] at j
 rw [List.length_cons] at this j
 omega
mutual
theorem ZiK:∀{p:Pg},p.ok→∀ r∈(Vz p),r.length≤500+2 * p.hgt
 | .blk w ps,h,r,hr=>by
   rw [Xx] at hr
   rcases List.mem_cons.mp hr with rfl | hr
   · have:=XB h;omega
   · obtain ⟨x,hx,rfl⟩:=List.mem_map.mp hr
     have:=UV h.2 x hx
     show (Str.ofString "  "++x).length≤500+2 * (Pg.hgts ps+1)
     rw [Uf,show (Str.ofString "  ").length=2 by decide +kernel];omega
 | .inn s ps,h,r,hr=>by
   rw [Xx] at hr
   rcases List.mem_cons.mp hr with rfl | hr
   · have:=XB h;omega
   · obtain ⟨x,hx,rfl⟩:=List.mem_map.mp hr
     have:=UV h.2 x hx
     show (Str.ofString "  "++x).length≤500+2 * (Pg.hgts ps+1)
     rw [Uf,show (Str.ofString "  ").length=2 by decide +kernel];omega
 | .set x v s,h,r,hr=>by rw [Xx] at hr;rcases List.mem_cons.mp hr with rfl | hr;(have:=XB h;omega);exact absurd hr (by simp [Pg.inner,Yb])
 | .look x,h,r,hr=>by rw [Xx] at hr;rcases List.mem_cons.mp hr with rfl | hr;(have:=XB h;omega);exact absurd hr (by simp [Pg.inner,Yb])
 | .slot w s,h,r,hr=>by rw [Xx] at hr;rcases List.mem_cons.mp hr with rfl | hr;(have:=XB h;omega);exact absurd hr (by simp [Pg.inner,Yb])
 | .pass,h,r,hr=>by rw [Xx] at hr;rcases List.mem_cons.mp hr with rfl | hr;(have:=XB h;omega);exact absurd hr (by simp [Pg.inner,Yb])
theorem UV:∀{ps:List Pg},Pg.oks ps→∀ r∈Yb ps,r.length≤500+2 * Pg.hgts ps
 | [],_,r,hr=>(nomatch hr)
 | p::ps,h,r,hr=>by
   have e:Pg.hgts (p::ps)=max p.hgt (Pg.hgts ps):=rfl
   rcases List.mem_append.mp (show r∈(Vz p)++Yb ps from hr) with hr | hr
   · have:=ZiK h.1 r hr;omega
   · have:=UV h.2 r hr;omega
end
end K72
set_option maxHeartbeats 2000000
namespace L2
open PySem PySem.W PySem.Spec PyProof.Rows
theorem ZbB:∀(k:Nat)(ps:List Str),Vals (ps.map V.str) (strsFrom k ps)
 | _,[]=>.nil
 | k,p::r=>.cons ⟨k,rfl⟩ (ZbB (k+1) r)
section
variable {X:Cx}
theorem Zfb (z y:Str):(Txt.split z y).length≤z.length+2:=PyProof.Rows.split_le z y
theorem Va:MtR X "str.split" (fun x xs H Q=>∃ z y,x=.str z∧xs=[.str y]∧1≤y.length∧z.length≤1000000∧∀ l,H l=none→Q (.ref l) (upd H l (.lst ((Txt.split z y).map V.str)))):=by
 intro pins s σ H x xs v us Q I rx rv h
 obtain ⟨z,y,rfl,rfl,hy,hz,q⟩:=h
 obtain ⟨t,rfl⟩:=rx
 obtain ⟨u,rfl,t',rfl⟩:=YK rv
 have q:=q _ I.fresh
 have few:=Zfb z y
 have hy0:(y.length == 0)=false:=by simpa using Nat.ne_of_gt hy
 have hs:z.length≤sizeLine:=by rw [sizeLine_eq];omega
 have lay:∀ (vs:List Value) (tk:Nat),Vals ((Txt.split z y).map V.str) vs→EP X pins σ Q (.ref s.heap.objs.size) { s with heap:=s.heap.push { cls:=.type "list",data:=.seq vs.toArray },toks:=tk }:=fun vs tk r =>
   ⟨.ref s.heap.objs.size,_,I.laid (t':=tk) (fun b o e=>Heap.get?_push_of_some _ e) (Nat.le_refl _) (show ObjOk X.prog X.w _ _ _ (.lst ((Txt.split z y).map V.str)) from ⟨by rw [List.length_map,sizeLine_eq];omega,vs,0,r,Heap.get?_push_size _ rfl⟩),rfl,q⟩
 cases h1:(decide (z.length < y.length) || decide (Builtin.Str.strKind z < Builtin.Str.strKind y)) with
 | true =>
   have e:Txt.split z y=[z]:=if_pos h1
   exact call_meets F.slot_str_split (typeIs_str _ _ _) F.entry_str_split (F.args_str_split_2 _ _) (meets_str_split_cannot_occur z y t t' h1) (lay [.str z t] s.toks (by rw [e];exact .cons ⟨_,rfl⟩ .nil))
 | false =>
   cases hf:(Builtin.Str.occurrences z y 0 z.length (z.length+1)).isEmpty with
   | true =>
     have e:Txt.split z y=[z]:=(if_neg (by rw [h1];decide)).trans (if_pos hf)
     exact call_meets F.slot_str_split (typeIs_str _ _ _) F.entry_str_split (F.args_str_split_2 _ _) (meets_str_split_not_found z y t t' h1 hy0 hf) (lay [.str z t] s.toks (by rw [e];exact .cons ⟨_,rfl⟩ .nil))
   | false =>
     have e:Txt.split z y=Builtin.Str.partsBetween z (Builtin.Str.occurrences z y 0 z.length (z.length+1)) y.length:=(if_neg (by rw [h1];decide)).trans (if_neg (by rw [hf];decide))
     rw [e] at lay few
     exact call_meets F.slot_str_split (typeIs_str _ _ _) F.entry_str_split (F.args_str_split_2 _ _) (meets_str_split_sep z y t t' h1 hy0 hf hs (by rw [sizeLine_eq];omega)) (lay _ _ (ZbB _ _))
theorem Vl:MtR X "str.startswith" (fun x xs H Q=>∃ z y,x=.str z∧xs=[.str y]∧Q (.bl (Txt.startswith z y)) H):=by
 intro pins s σ H x xs v us Q I rx rv h
 obtain ⟨z,y,rfl,rfl,q⟩:=h
 obtain ⟨t,rfl⟩:=rx
 obtain ⟨u,rfl,t',rfl⟩:=YK rv
 exact SC.startswith ⟨.bl _,H,I,rfl,q⟩
theorem Zgn:MtR X "str.lstrip" (fun x xs H Q=>∃ z y,x=.str z∧xs=[.str y]∧z.length≤1000000∧Q (.str (Txt.lstripChars z y)) H):=by
 intro pins s σ H x xs v us Q I rx rv h
 obtain ⟨z,y,rfl,rfl,hz,q⟩:=h
 obtain ⟨t,rfl⟩:=rx
 obtain ⟨u,rfl,t',rfl⟩:=YK rv
 exact SC.lstripChars (fun t1 k=>⟨.str _,H,I.tok k,⟨_,rfl⟩,q⟩) (by rw [sizeLine_eq];omega)
def Zlt (K:PySem.W.Frag)(ga gb:TG):TG:=fun v σ H Q=>∃ l x xs,v=.ref l∧SqL K H l (x::xs)∧xs.length≤1000000∧∀ D,H D=none→ga x σ (upd H D (.lst xs)) fun σ1 H1=>gb (.ref D) σ1 H1 Q
theorem ZaY {a b:Expr}{k:Nat}{p pos:Pos}{ga gb:TG}(hc:X.calm=true)(ha:PG X a ga)(hb:PG X b gb)(hn:(assignEach [a,.Starred b p] X.env)=[(false,assign a X.env),(true,assign b X.env)]:=by rfl):PG X (.Tuple [a,.Starred b p] k pos) (Zlt X.K ga gb):=by
 intro pins s σ H v u Q I r hw
 obtain ⟨l,x,xs,rfl,hq,hz,hw⟩:=hw
 cases r
 obtain ⟨its,rv,pl,_⟩:=I.list hq
 cases rv with
 | @cons _ u0 _ us r0 rr =>
 have hl:=pl.isList
 have hne:l≠s.heap.objs.size:=by obtain ⟨o,ho,_⟩:=hl;exact Nat.ne_of_lt (Heap.lt_size ho)
 have hlen:us.length=xs.length:=rr.length.symm
 have hh:=I.ok.hd hc
 rw [assign_Tuple]
 refine wpAny_bind (wpAny_standAt ?_)
 unfold unpack
 rw [hn]
 refine wpAny_bind (wpAny_holding ?_)
 show wpAny _ _ (unpackItems (.ref l) 2 (some 1)) _ _ s
 unfold unpackItems
 refine wpAny_bind ?_
 unfold notIterableAtAll
 refine wpAny_bind (wpAny_specialOf hl.typeIs slot_list_iter.lookup (wpAny_pure ?_))
 simp only [Bool.false_eq_true,if_false]
 refine wpAny_bind (wpAny_holding (wpAny_pyIter_list hl ?_))
 refine wpAny_bind (wpAny_holding (kun_draw hne 1 0 _ _ ⟨_,Heap.get?_push_size _ rfl,rfl,rfl⟩ (hl.push _) (by simp) fun h1 it1 sb1=>?_))
 have hl1:h1.IsList l (u0::us).toArray:=(hl.push _).extBut sb1.extBut hne
 have e1:List.take 1 (List.drop 0 (u0::us).toArray.toList)=[u0]:=rfl
 rw [e1,if_neg (show ¬ ([u0].length < 1) from Nat.lt_irrefl 1)]
 obtain ⟨oi,hoi,_⟩:=id it1
 obtain ⟨ol,hol,_⟩:=id hl1
 refine wpAny_bind (wpAny_holding (kun_collect (s:={ s with heap:=h1 }) (T:="list_iterator") (.inr (.inr (.inl rfl))) (Walks.list (A:=X.A.in1) hh s.heap.objs.size l hne (u0::us).toArray) (fun j u st=>st.1.typeIs) (k:=1) (by simp) ⟨it1,hl1⟩ (Heap.lt_size hoi) (Heap.lt_size hol) (fun h2 tk kp=>?_) (by rw [sizeLine_eq,List.size_toArray,List.length_cons];omega)))
 have e2:List.drop 1 (u0::us).toArray.toList=us:=rfl
 rw [e2]
 simp only [Nat.reduceSub,Nat.not_lt_zero,if_false,Nat.sub_zero,List.take_length,List.drop_length]
 have kp2:∀ b o,s.heap.get? b=some o→h2.get? b=some o:=fun b o e=>kp b o (Nat.ne_of_lt (Heap.lt_size e)) (sb1.extBut b o (Nat.ne_of_lt (Heap.lt_size e)) (Heap.get?_push_of_some _ e))
 refine wpAny_bind (wpAny_newList (wpAny_pure ?_) (by rw [sizeLine_eq];omega))
 have I2:Inv X pins σ H { s with heap:=h2,toks:=tk }:=I.kept kp2
 have I3:Inv X pins σ (upd H h2.objs.size (.lst xs)) { s with heap:=h2.push { cls:=.type "list",data:=.seq us.toArray },toks:=tk } :=
   I2.laid (t':=tk) (fun b o e=>Heap.get?_push_of_some _ e) (Nat.le_refl _) (show ObjOk X.prog X.w _ _ _ (.lst xs) from ⟨by rw [sizeLine_eq];omega,us,0,rr,Heap.get?_push_size _ rfl⟩)
 show wpAny _ _ (assignInOrder [assign a X.env,assign b X.env] [u0,.ref h2.objs.size]) _ _ _
 refine assignInOrder_cons (Zn (ha pins _ σ _ _ _ _ I3 r0 (hw _ I2.fresh)) fun _ s1 ⟨σ1,H1,I4,q1⟩=>?_)
 refine assignInOrder_cons (Zn (hb pins s1 σ1 H1 (.ref h2.objs.size) _ _ I4 rfl q1) fun _ s2 ⟨σ2,H2,I5,q2⟩=>?_)
 exact assignInOrder_nil ⟨σ2,H2,I5,q2⟩
end
end L2
set_option maxHeartbeats 2000000
namespace L2
open PySem PySem.Spec PyProof.Rows
theorem Zdy {c:Nat}:∀{a b r s:List Nat},c ∉ a→c ∉ b→a++c::r=b++c::s→a=b∧r=s
 | [],[],_,_,_,_,h=>⟨rfl,by injection h⟩
 | [],y::b,_,_,_,hb,h=>by injection h with h1 h2;exact absurd (h1 ▸ List.mem_cons_self ..) hb
 | x::a,[],_,_,ha,_,h=>by injection h with h1 h2;exact absurd (h1 ▸ List.mem_cons_self ..) ha
 | x::a,y::b,_,_,ha,hb,h=>by
   injection h with h1 h2
   obtain ⟨e1,e2⟩:=Zdy (fun m=>ha (List.mem_cons_of_mem _ m)) (fun m=>hb (List.mem_cons_of_mem _ m)) h2
   exact ⟨by rw [h1,e1],e2⟩
theorem YQ (c:Nat)(a b:Str)(r:List Str):(Str.join ⟨#[c]⟩ (a::b::r)).cps.toList=a.cps.toList++c::(Str.join ⟨#[c]⟩ (b::r)).cps.toList:=by
 show (a++⟨#[c]⟩++Str.join ⟨#[c]⟩ (b::r)).cps.toList=_
 rw [YR,YR,List.append_assoc];rfl
theorem Zcs {c:Nat}:∀{A B:List Str},A≠[]→B≠[]→(∀ p∈A,c ∉ p.cps.toList)→(∀ p∈B,c ∉ p.cps.toList)→Str.join ⟨#[c]⟩ A=Str.join ⟨#[c]⟩ B→A=B
 | [],_,h,_,_,_,_=>absurd rfl h
 | _,[],_,h,_,_,_=>absurd rfl h
 | [a],[b],_,_,_,_,h=>by have:a=b:=h;rw [this]
 | [a],b::b2::B,_,_,ha,_,h=>by
   have e:=congrArg (fun s:Str=>s.cps.toList) h
   have e:a.cps.toList=_:=e
   rw [YQ] at e
   exact absurd (by rw [e];exact List.mem_append_right _ (List.mem_cons_self ..)) (ha a (List.mem_cons_self ..))
 | a::a2::A,[b],_,_,_,hb,h=>by
   have e:=congrArg (fun s:Str=>s.cps.toList) h.symm
   have e:b.cps.toList=_:=e
   rw [YQ] at e
   exact absurd (by rw [e];exact List.mem_append_right _ (List.mem_cons_self ..)) (hb b (List.mem_cons_self ..))
 | a::a2::A,b::b2::B,_,_,ha,hb,h=>by
   have e:=congrArg (fun s:Str=>s.cps.toList) h
   have e:(Str.join ⟨#[c]⟩ (a::a2::A)).cps.toList=(Str.join ⟨#[c]⟩ (b::b2::B)).cps.toList:=e
   rw [YQ,YQ] at e
   obtain ⟨e1,e2⟩:=Zdy (ha a (List.mem_cons_self ..)) (hb b (List.mem_cons_self ..)) e
   rw [Ys e1,Zcs (A:=a2::A) (B:=b2::B) (by simp) (by simp) (fun p hp=>ha p (List.mem_cons_of_mem _ hp)) (fun p hp=>hb p (List.mem_cons_of_mem _ hp)) (Ys e2)]
theorem YY (x y:Str):Txt.split x y≠[]:=fun e=>by have:=split_pos x y;rw [e] at this;simp at this
theorem WS {c:Nat}{L:List Str}(h:L≠[])(hf:∀ p∈L,c ∉ p.cps.toList):Txt.split (Str.join ⟨#[c]⟩ L) ⟨#[c]⟩=L :=
 Zcs (YY _ _) h (StrLaws.split_free _ c) hf (StrLaws.join_split _ _)
theorem ZcD {c:Nat}:∀{A B:List Str},A≠[]→B≠[]→Str.join ⟨#[c]⟩ (A++B)=Str.join ⟨#[c]⟩ A++⟨#[c]⟩++Str.join ⟨#[c]⟩ B
 | [],_,h,_=>absurd rfl h
 | [a],b::B,_,_=>rfl
 | _,[],_,h=>absurd rfl h
 | a::a2::A,b::B,_,_=>by
   apply Ys
   have ih:=ZcD (c:=c) (A:=a2::A) (B:=b::B) (by simp) (by simp)
   show (Str.join ⟨#[c]⟩ (a::a2::(A++b::B))).cps.toList=_
   rw [YQ,show a2::(A++b::B)=(a2::A)++b::B from rfl,ih]
   simp only [YR,YQ,List.append_assoc];rfl
theorem ZbL {c:Nat}:∀{A:List Str},Str.join ⟨#[c]⟩ (A.flatMap fun w=>Txt.split w ⟨#[c]⟩)=Str.join ⟨#[c]⟩ A
 | []=>rfl
 | [a]=>by show Str.join _ (Txt.split a _++[])=a;rw [List.append_nil];exact StrLaws.join_split _ _
 | a::b::A=>by
   have ih:=ZbL (c:=c) (A:=b::A)
   have ne:(b::A).flatMap (fun w=>Txt.split w ⟨#[c]⟩)≠[]:=fun e=>YY b ⟨#[c]⟩ (List.append_eq_nil_iff.mp e).1
   rw [List.flatMap_cons,ZcD (YY _ _) ne,ih,StrLaws.join_split];rfl
theorem UC {c:Nat}{A:List Str}(h:A≠[]):Txt.split (Str.join ⟨#[c]⟩ A) ⟨#[c]⟩=A.flatMap fun w=>Txt.split w ⟨#[c]⟩:=by
 have ne:A.flatMap (fun w=>Txt.split w ⟨#[c]⟩)≠[]:=by
   cases A with
   | nil=>exact absurd rfl h
   | cons a A=>exact fun e=>YY a ⟨#[c]⟩ (List.append_eq_nil_iff.mp e).1
 rw [← ZbL,WS ne]
 intro p hp
 obtain ⟨w,_,hw⟩:=List.mem_flatMap.mp hp
 exact StrLaws.split_free w c p hw
theorem Vy {c:Nat}{x:Str}(h:c ∉ x.cps.toList):Txt.split x ⟨#[c]⟩=[x]:=by
 have:=WS (c:=c) (L:=[x]) (by simp) (by simpa using h);exact this
theorem ZdK (p:Nat→Bool):∀ l:List Nat,l.drop (l.takeWhile p).length=l.dropWhile p
 | []=>rfl
 | a::r=>by
   rw [List.takeWhile_cons,List.dropWhile_cons]
   split
   · rw [List.length_cons,List.drop_succ_cons];exact ZdK p r
   · rfl
theorem ZcB (x y:Str):(Txt.lstripChars x y).cps.toList=x.cps.toList.dropWhile fun k=>y.cps.contains k:=by
 have e:=stripBy_eq y.cps.contains true false x
 show (Txt.stripBy y.cps.contains true false x).cps.toList=_
 rw [e]
 show (x.cps.extract (x.cps.toList.takeWhile y.cps.contains).length x.length).toList=_
 rw [Array.toList_extract,List.extract_eq_take_drop,← ZdK]
 apply List.take_of_length_le
 rw [List.length_drop,ZL];exact Nat.le_refl _
theorem Uj:(Str.ofString " ")=⟨#[32]⟩:=by decide +kernel
theorem lf1:(Str.ofString "\n")=⟨#[10]⟩:=by decide +kernel
theorem qu1:(Str.ofString "'")=⟨#[39]⟩:=by decide +kernel
theorem mi1:(Str.ofString "-")=⟨#[45]⟩:=by decide +kernel
theorem sl1:(Str.ofString "\\")=⟨#[92]⟩:=by decide +kernel
theorem ZaB (x:Str)(c:Nat):Txt.startswith x ⟨#[c]⟩=decide (x.cps.toList.head?=some c):=by
 show (decide (0+1≤x.length)&&(x.cps.extract 0 (0+1) == #[c]))=_
 rw [Bool.eq_iff_iff,decide_eq_true_eq,Bool.and_eq_true,decide_eq_true_eq,beq_iff_eq,ZL]
 have e:x.cps.extract 0 (0+1)=#[c]↔x.cps.toList.take 1=[c]:=by
   constructor
   · intro h
     have:=congrArg Array.toList h
     simpa [Array.toList_extract,List.extract_eq_take_drop] using this
   · intro h
     apply Array.toList_inj.mp
     simpa [Array.toList_extract,List.extract_eq_take_drop] using h
 rw [e]
 cases x.cps.toList with
 | nil=>simp
 | cons a r=>simp
def XJ:Bool→List Nat→List Nat
 | _,[]=>[]
 | b,k::r=>if (decide (k=92)&&!b)=true then XJ true r else k::XJ false r
theorem Zdu:∀ l:List Nat,XJ false (Xq l)=l
 | []=>rfl
 | k :: r=>by
   have ih:=Zdu r
   have e:Xq (k::r)=(if k=39∨k=92 then [92,k] else [k])++Xq r:=rfl
   rw [e]
   by_cases h:k=39∨k=92
   · rw [if_pos h]
     show XJ false (92::k::Xq r)=_
     rw [XJ,if_pos (by decide),XJ,if_neg (by simp),ih]
   · rw [if_neg h]
     show XJ false (k::Xq r)=_
     rw [XJ,if_neg (by simp;intro z;exact h (.inr z)),ih]
theorem ZaU:∀(b:Bool)(l:List Nat),(XJ b l).length≤l.length
 | _,[]=>Nat.le_refl _
 | b,k::r=>by
   rw [XJ]
   split
   · exact Nat.le_trans (ZaU _ r) (Nat.le_succ _)
   · rw [List.length_cons,List.length_cons];exact Nat.succ_le_succ (ZaU _ r)
def Ue (c:Nat):Bool:=decide (48≤c)&&decide (c≤57)
def YN (w:Str):List Nat:=if w.cps.toList.head?=some 45 then w.cps.toList.drop 1 else w.cps.toList
def Yn (w:Str)(most:Nat):Option Int :=
 if 1≤(YN w).length∧(YN w).length≤most∧(YN w).all Ue=true then (if Str.ofString (toString ((PySem.intText? w).getD 0))=w then some ((PySem.intText? w).getD 0) else none) else none
theorem Wt {l:List Nat}(h:l.all Ue=true):NumText.AllDigits l:=fun c hc=>by
 have:=List.all_eq_true.mp h c hc
 unfold Ue at this
 simpa using this
theorem Zin:∀(cs:List Nat)(acc:Nat),NumText.AllDigits cs→cs.foldl (fun a c=>a * 10+(c - 48)) acc < (acc+1) * 10 ^ cs.length
 | [],acc,_=>by simp
 | c::cs,acc,h=>by
   have ih:=Zin cs (acc * 10+(c - 48)) h.tail
   have hc:=h.head
   rw [List.foldl_cons,List.length_cons,Nat.pow_succ]
   refine Nat.lt_of_lt_of_le ih ?_
   rw [Nat.mul_comm (10 ^ cs.length) 10,← Nat.mul_assoc]
   exact Nat.mul_le_mul_right _ (by omega)
theorem ZfZ {cs:List Nat}(h:NumText.AllDigits cs)(hl:cs.length≤300):(NumText.digitsVal cs).log2 < 1920:=by
 by_cases h0:NumText.digitsVal cs=0
 · rw [h0];decide
 · refine (Nat.log2_lt h0).mpr (Nat.lt_of_lt_of_le (Zin cs 0 h) ?_)
   rw [Nat.zero_add,Nat.one_mul]
   exact Nat.le_trans (Nat.pow_le_pow_right (by decide) hl) (by decide +kernel)
theorem Zef {w:Str}(h1:1≤(YN w).length)(h2:(YN w).length≤300)(h3:(YN w).all Ue=true):∃ n,PySem.intText? w=some n∧w.length≤640∧n.natAbs.log2 < 1920:=by
 unfold YN at h1 h2 h3
 have hl:w.length=w.cps.toList.length:=ZL w
 split at h1
 · rename_i hh
   rw [if_pos hh] at h2 h3
   cases e:w.cps.toList with
   | nil=>rw [e] at hh;cases hh
   | cons a r =>
     rw [e] at hh h1 h2 h3 hl
     cases hh
     have hl:w.length=r.length+1:=hl
     simp only [List.drop_succ_cons,List.drop_zero] at h1 h2 h3
     exact ⟨_,PySem.intText_neg e (Wt h3) (by rintro rfl;simp at h1) (by omega),by omega,by rw [Int.natAbs_neg,Int.natAbs_natCast];exact ZfZ (Wt h3) h2⟩
 · rename_i hh
   rw [if_neg hh] at h2 h3
   exact ⟨_,PySem.intText_digits (Wt h3) (by intro z;rw [z] at h1;simp at h1) (by omega),by omega,by rw [Int.natAbs_natCast];exact ZfZ (Wt h3) h2⟩
theorem WU (m:Nat):(Wi m).all Ue=true:=List.all_eq_true.mpr fun c hc=>by have:=Uh hc;unfold Ue;simp;omega
theorem Zbi (m:Nat):1≤(Wi m).length:=by
 cases e:Wi m with
 | nil =>
   have z:Nat.toDigits 10 m=[]:=List.map_eq_nil_iff.mp e
   exact absurd z Nat.toDigits_ne_nil
 | cons a r=>simp
theorem ZcR {i:Int}(h:i.natAbs < 10 ^ 30):1≤(YN (Str.ofString (toString i))).length∧(YN (Str.ofString (toString i))).length≤30∧(YN (Str.ofString (toString i))).all Ue=true∧PySem.intText? (Str.ofString (toString i))=some i:=by
 have hl:(Str.ofString (toString i)).length=(Str.ofString (toString i)).cps.toList.length:=ZL _
 obtain ⟨m,⟨e,rfl⟩ | ⟨e,rfl⟩⟩:=Zbx i
 · have hm:(Wi m).length≤30:=UJ (k:=29) (by omega)
   have hp:=Zbi m
   have hh:¬ (Wi m).head?=some 45:=fun z=>by
     cases ed:Wi m with
     | nil=>rw [ed] at z;cases z
     | cons a r=>rw [ed] at z;cases z;have:=Uh (m:=m) (c:=45) (by rw [ed];exact List.mem_cons_self ..);omega
   unfold YN
   rw [e,if_neg hh]
   rw [e] at hl
   refine ⟨hp,hm,WU m,?_⟩
   rw [PySem.intText_digits (by rw [e];exact Wt (WU m)) (by rw [e];intro z;rw [z] at hp;simp at hp) (by omega),e,Zbl]
 · have hm:(Wi m).length≤30:=UJ (k:=29) (by omega)
   have hp:=Zbi m
   unfold YN
   rw [e] at hl ⊢
   rw [if_pos (show (45::Wi m).head?=some 45 from rfl)]
   simp only [List.drop_succ_cons,List.drop_zero]
   refine ⟨hp,hm,WU m,?_⟩
   rw [PySem.intText_neg e (Wt (WU m)) (by intro z;rw [z] at hp;simp at hp) (by rw [hl,List.length_cons];omega),Zbl]
theorem ZhG {i:Int}(h:i.natAbs < 10 ^ 30):Yn (Str.ofString (toString i)) 30=some i:=by
 obtain ⟨h1,h2,h3,h4⟩:=ZcR h
 unfold Yn
 rw [if_pos ⟨h1,h2,h3⟩,h4,Option.getD_some,if_pos rfl]
def Wn (w:Str):Str:=⟨(XJ false (w.cps.toList.drop 1).dropLast).toArray⟩
def Ul (w:Str):Option V :=
 if w.cps.toList.head?=some 39 then (if (Wn w).length≤40∧(Wn w).cps.toList.all Yo=true∧ZJ (.str (Wn w))=w then some (.str (Wn w)) else none)
 else (Yn w 30).map V.int
theorem Zbm {v:V}(h:IsVal v):Ul (ZJ v)=some v:=by
 cases v with
 | int i =>
   obtain ⟨h1,h2,h3,h4⟩:=ZcR (show i.natAbs < 10 ^ 30 from h)
   show Ul (Str.ofString (toString i))=_
   unfold Ul
   rw [if_neg,ZhG h];rfl
   intro z
   have:(39:Nat)∈(Str.ofString (toString i)).cps.toList:=List.mem_of_mem_head? z
   have:=Zfc this;omega
 | str x =>
   have e:Wn (ZJ (.str x))=x:=by
     apply Ys
     show XJ false ((39::Xq x.cps.toList++[39]).drop 1).dropLast=_
     simp only [List.cons_append,List.drop_succ_cons,List.drop_zero,List.dropLast_concat]
     exact Zdu _
   unfold Ul
   rw [e,if_pos (show (ZJ (.str x)).cps.toList.head?=some 39 from rfl),if_pos ⟨h.1,h.2,rfl⟩]
 | _=>exact h.elim
theorem ZiF (x:Str):(Txt.slice x (some 1) none).cps.toList=x.cps.toList.drop 1:=by
 rw [XN]
 have hl:=ZL x
 have e1:HT.sIx x.length 0 (some 1)=min 1 x.length:=by
   unfold HT.sIx
   simp only [show ¬ (1:Int) < 0 by decide,if_false]
   omega
 have e2:HT.sIx x.length x.length none=x.length:=rfl
 rw [e1,e2]
 cases e:x.cps.toList with
 | nil=>simp
 | cons a r =>
   rw [e] at hl
   have hl:x.length=r.length+1:=hl
   rw [show min 1 x.length=1 by omega,hl]
   simp
theorem ZgA (x:Str):(Txt.slice x (some 1) (some (-1))).cps.toList=(x.cps.toList.drop 1).dropLast:=by
 rw [XN]
 have hl:=ZL x
 have e1:HT.sIx x.length 0 (some 1)=min 1 x.length:=by
   unfold HT.sIx
   simp only [show ¬ (1:Int) < 0 by decide,if_false]
   omega
 have e2:HT.sIx x.length x.length (some (-1))=x.length - 1:=by
   unfold HT.sIx
   simp only [show (-1:Int) < 0 by decide,if_true]
   omega
 rw [e1,e2,List.dropLast_eq_take,List.length_drop,← hl]
 cases e:x.cps.toList with
 | nil=>simp
 | cons a r =>
   rw [e] at hl
   have hl:x.length=r.length+1:=hl
   rw [show min 1 x.length=1 by omega]
end L2
set_option maxHeartbeats 2000000
namespace L2
open PySem PySem.Spec PyProof.Rows
theorem Zhi {prog:Program}{w:World}{A:Around}{it:Addr}{fp:List Addr}{n k:Nat}{P:Nat→Value→Prop}{St:Nat→Heap→Prop}(D:Draws prog w A it fp n P St) :
   Draws prog w A it fp (n+k) (fun i v=>∃ j,i=j+k∧P j v) (fun i h=>∃ j,i=j+k∧St j h) where
 live:=fun i h ⟨j,_,st⟩=>D.live j h st
 frame:=fun i h h' ⟨j,e,st⟩ kp=>⟨j,e,D.frame j h h' st kp⟩
 item:=fun i s Q E hi ⟨j,e,st⟩ hQ=>by
   subst e
   exact D.item j s Q E (by omega) st fun x h' tk p st' sb=>hQ x h' tk ⟨j,rfl,p⟩ ⟨j+1,by omega,st'⟩ sb
 done:=fun s Q E ⟨j,e,st⟩ hE=>by
   have:n=j:=by omega
   subst this
   exact D.done s Q E st hE
theorem Zfi {prog:Program}{w:World}{A:Around}(hh:A.handled=none)(it l:Addr)(items:Array Value)(i:Nat)(hi:items[i]?=none) :
   Draws prog w A.in1 it [it,l] 0 (fun _ _=>False) (fun _ h=>h.IsListIter it l i∧h.IsList l items) where
 live:=fun _ _ st=>let ⟨o,ho,_⟩:=st.1;⟨o,ho⟩
 frame:=fun _ _ _ st kp=>⟨st.1.at fun o e=>kp it (by simp) o e,st.2.at fun o e=>kp l (by simp) o e⟩
 item:=fun j _ _ _ hj=>absurd hj (Nat.not_lt_zero _)
 done:=fun s Q E st hE=>PySem.wpAny_nextOf_list_end hh st.1 st.2 hi hE
theorem ZaN (l:Addr)(items:Array Value)(n:Nat)(k:Int)(t1:Tok)(hk:Builtin.SmallTypes.fitsIndex k=true) :
   Meets (Builtin.«enumerate.__new__» ⟨[.type "enumerate",.ref l],[("start",.int k t1)]⟩) (fun _ R s=>s.heap.get? l=some { cls:=.type "list",dict:=none,data:=.seq items n,slots:=#[] } ∧
     R (.ok (.ret (.ref (s.heap.push { cls:=.type "list_iterator",data:=.fields #[.ref l,.int 0 0] }).objs.size)))
       { s with heap:=(s.heap.push { cls:=.type "list_iterator",data:=.fields #[.ref l,.int 0 0] }).push { cls:=.type "enumerate",data:=.fields #[.none,.bool false,.ref s.heap.objs.size,rawInt k,.none,.none] } }) :=
 .of_wp fun prog w A R s h=>by
   obtain ⟨hp,g,d,tk,os⟩:=s
   obtain ⟨hl,h⟩:=h
   have sub1:=sub_enumerate
   have hL:Heap.IsList (Shared.heap ⟨hp,g,d,tk,os⟩) l items:=⟨_,hl,rfl,n,rfl⟩
   wp_walk using wpAny_loadPart' hl
   have hk2:¬ (!Builtin.SmallTypes.fitsIndex k)=true:=by rw [hk];decide
   refine wpAny_stack_any fun st=>wpAny_pure ?_
   split
   · rename_i c _ _ _ _ _
     cases (c == Value.type "enumerate")<;>(wp_walk using wpAny_loadPart' hl,wpAny_pyIter_list hL;exact ⟨_,rfl,h⟩)
   · wp_walk using wpAny_loadPart' hl,wpAny_pyIter_list hL
     exact ⟨_,rfl,h⟩
section
variable {prog:Program}{w:World}{A:Around}{E:Value→Shared→Prop}{s:Shared}
theorem Zbg {l:Addr}{items:Array Value}{n:Nat}{k:Int}{t1:Tok}{Q:Value→Shared→Prop}(hk:Builtin.SmallTypes.fitsIndex k=true)(hl:s.heap.get? l=some { cls:=.type "list",dict:=none,data:=.seq items n,slots:=#[] })
   (h:∀ h',IsEnum h' (s.heap.objs.size+1) s.heap.objs.size k .none→h'.IsListIter s.heap.objs.size l 0→h'.objs.size=s.heap.objs.size+2 →
     (∀ b o,s.heap.get? b=some o→h'.get? b=some o)→Q (.ref (s.heap.objs.size+1)) { s with heap:=h' }) :
   wpAny (model prog w) A (call (.type "enumerate") [.ref l] [("start",.int k t1)]) Q E s:=by
 have ft:=F.called_enumerate
 refine Zcc (Q₁:=fun obj s₁=>s₁.TypeIs obj "enumerate"∧Q obj s₁) ft (Vm _ _) (Vp _ _) F.entry_enumerate_new F.entry_object_init (ZaN l items n k t1 hk) ?_
   (fun obj s₁ hq=>⟨hq.1,ZaC obj _ _,_,ZaX ft.init.lookup ft.made (by decide),hq.1,rfl,hq.2⟩)
 refine ⟨hl,?_⟩
 generalize hO:({ cls:=.type "list_iterator",data:=.fields #[.ref l,.int 0 0] }:Obj)=O
 have hz:(s.heap.push O).objs.size=s.heap.objs.size+1:=Heap.size_push ..
 generalize hO2:({ cls:=.type "enumerate",data:=.fields #[.none,.bool false,.ref s.heap.objs.size,rawInt k,.none,.none] }:Obj)=O2
 have he:((s.heap.push O).push O2).get? (s.heap.objs.size+1)=some O2:=by
   have e:=Heap.get?_push_size (s.heap.push O) (o:=O2) (by rw [← hO2];rfl)
   rw [hz] at e;exact e
 have hi:((s.heap.push O).push O2).get? s.heap.objs.size=some O:=Heap.get?_push_of_some _ (Heap.get?_push_size _ (by rw [← hO];rfl))
 have key:Shared.TypeIs { s with heap:=(s.heap.push O).push O2 } (.ref (s.heap.objs.size+1)) "enumerate"∧Q (.ref (s.heap.objs.size+1)) { s with heap:=(s.heap.push O).push O2 } :=
   ⟨⟨O2,he,by rw [← hO2]⟩,h _ (by rw [← hO2] at he ⊢;exact he) ⟨O,hi,by rw [← hO],by rw [← hO];rfl⟩ (by rw [Heap.size_push,hz]) fun b o y=>Heap.get?_push_of_some _ (Heap.get?_push_of_some _ y)⟩
 rw [← hz] at key
 exact key
end
def Zab (K:PySem.W.Frag)(a:Addr)(k:Nat):It :=
 ⟨fun i H=>∃ xs x,SqL K H a xs∧xs[i]?=some x,fun i H v H'=>∃ t x,H t=none∧(∀ xs,SqL K H a xs→xs[i]?=some x)∧v=.ref t∧H'=upd H t (.tup [.int ((i+k:Nat):Int),x]),fun i H=>∃ xs,SqL K H a xs∧xs.length≤i⟩
theorem Zed {P:Program}{w:World}{K:PySem.W.Frag}{elts:List Expr}{x1:Nat}{tp:Pos}(k:Nat)(a e it:Addr)(hne:e≠it)(hai:a≠it)(hae:a≠e) :
   Wx P w K (.Tuple elts x1 tp) (Zab K a k) [e,it] e (fun i h=>(∃ old,IsEnum h e it ((i+k:Nat):Int) old)∧h.IsListIter it a i) where
 mem:=by simp
 obj:=fun i h st b hb=>by
   obtain ⟨⟨old,he⟩,⟨o,ho,c,d⟩⟩:=st
   rcases List.mem_cons.mp hb with q | hb
   · rw [q];exact ⟨_,he,fun v z=>by cases z⟩
   · rw [List.mem_singleton.mp hb];exact ⟨o,ho,fun v z=>by rw [d] at z;cases z⟩
 keep:=fun i h h' st kp=>by
   obtain ⟨⟨old,he⟩,st⟩:=st
   exact ⟨⟨old,kp e (by simp) _ he⟩,st.at fun o y=>kp it (by simp) o y⟩
 item:=by
   intro X hP hw hK hc i pins s σ H E I hf st hg
   subst hP hw hK
   obtain ⟨⟨old,he⟩,hs⟩:=st
   obtain ⟨xs,x,hq,hx⟩:=hg
   obtain ⟨its,rv,p,hz⟩:=I.list hq
   obtain ⟨u,hu,ru⟩:=rv.get hx
   have hlt:i < its.toArray.size:=by
     have:=(List.getElem?_eq_some_iff.mp hu).1
     simpa using this
   have D:=Zhi (k:=k) (Draws.list (prog:=X.prog) (w:=X.w) (A:=X.A.in1) (I.ok.hd hc) it a hai its.toArray)
   refine wpAny_pyNext_enum_itemD (i:=i+k) D he ⟨i,rfl,hs,p.isList⟩ (by omega) hne (by simp [hne,Ne.symm hae]) fun v h' tk hP hOut hst hT hsz hk=>?_
   obtain ⟨j,ej,hP⟩:=hP
   have ej':i=j:=by omega
   subst ej'
   obtain ⟨j,ej,hst⟩:=hst
   have ej':i+1=j:=by omega
   subst ej'
   have ev:v=u:=by
     have:its[i]?=some v:=by simpa using hP
     rw [hu] at this;exact (Option.some.inj this).symm
   subst ev
   have hel:e < s.heap.objs.size:=Heap.lt_size he
   have hil:it < s.heap.objs.size:=by obtain ⟨o,ho,_⟩:=hs;exact Heap.lt_size ho
   refine ⟨_,rfl,wpAny_letOwnedTupleGo_enum hOut fun h2 he2 hs2=>?_⟩
   generalize hO:({ cls:=.type "tuple",data:=.seq #[.int ((i+k:Nat):Int) tk,v] }:Obj)=O at hT
   have I1:Inv X pins σ (upd H s.heap.objs.size (.tup [.int ((i+k:Nat):Int),x])) { s with heap:=s.heap.push O,toks:=tk+1 }:=by
     refine I.laid (t':=tk+1) (fun b o y=>Heap.get?_push_of_some _ y) (Nat.le_refl _) (show ObjOk X.prog X.w _ _ _ (.tup _) from ⟨by show 2≤sizeLine;decide,[.int ((i+k:Nat):Int) tk,v],.cons ⟨tk,rfl⟩ (.cons ru .nil),?_⟩)
     rw [← hO];exact IsTup.new _ _
   have hfree:=I.hok.fresh (Nat.le_refl s.heap.objs.size)
   have hf2:∀ b∈[e,it],Yw X pins (upd H s.heap.objs.size (.tup [.int ((i+k:Nat):Int),x])) b:=fun b hb=>by
     obtain ⟨f0,f1⟩:=hf b hb
     have hb':b≠s.heap.objs.size:=by
       rcases List.mem_cons.mp hb with q | hb
       · rw [q];exact Nat.ne_of_lt hel
       · rw [List.mem_singleton.mp hb];exact Nat.ne_of_lt hil
     exact ⟨by rw [Zo hb'];exact f0,f1⟩
   have I2:Inv X pins σ (upd H s.heap.objs.size (.tup [.int ((i+k:Nat):Int),x])) { s with heap:=h2,toks:=tk+1 }:=by
     refine I1.turned2 (t':=tk+1) (h':=h2) (fun b o hb y=>?_) hf2
     have hbe:b≠e:=fun q=>hb (by simp [q])
     have hbi:b≠it:=fun q=>hb (by simp [q])
     rw [hs2.2 b hbe]
     rcases Heap.get?_push_cases y with ⟨q1,q2⟩ | y
     · rw [q1,q2];exact hT
     · exact hk b o hbe hbi y
   refine ⟨.ref s.heap.objs.size,_,I2,rfl,⟨s.heap.objs.size,x,hfree,fun ys hy=>by rw [I.list_inj hy hq];exact hx,rfl,rfl⟩,⟨⟨_,by have:=he2;rw [show ((i+k:Nat):Int)+1=((i+1+k:Nat):Int) by omega] at this;exact this⟩,?_⟩,fun b hb=>(hf2 b hb).1⟩
   exact hst.1.at fun o y=>by rw [hs2.2 it hne.symm];exact y
 done:=by
   intro X hP hw hK hc i pins s σ H E I hf st hg
   subst hP hw hK
   obtain ⟨⟨old,he⟩,hs⟩:=st
   obtain ⟨xs,hq,hle⟩:=hg
   obtain ⟨its,rv,p,hz⟩:=I.list hq
   have hl:=rv.length
   obtain ⟨f0,f1,f2,f3,f4,f5⟩:=hf it (by simp)
   exact wpAny_pyNext_enum_endD (Zfi (I.ok.hd hc) it a its.toArray i (by simp;omega)) he ⟨hs,p.isList⟩ fun h' eb=>⟨rfl,I.turned (t':=s.toks) (fun b o hb y=>eb b o hb y) f0 f1 f3 f4 f5⟩
 self:=fun _ _ _ _ _ st h=>by
   obtain ⟨⟨old,he⟩,_⟩:=st
   exact wpAny_pyIter_enum he h
def Zkw (K:PySem.W.Frag)(tl tk:TE):TI:=fun σ H R=>tl σ H fun v H1=>∃ a,[v]=[V.ref a]∧tk σ H1 fun z H2=>∃(k:Nat)(xs:List V),[z]=[V.int (k:Int)]∧k≤1000000∧H2 a=some (.lst xs)∧R (Zab K a k) H2
section
variable {X:Cx}
theorem ZcQ {l ke:Expr}{tl tk:TE}{elts:List Expr}{x1:Nat}{tp p pos kpos:Pos}(hg:Gl X "enumerate")(hm:X.mg "enumerate"=none)(hl:PE X l tl)(hk:PE X ke tk)
   (he:starEach [l] X.env=[(false,eval l X.env)]:=by rfl):PI X (.Tuple elts x1 tp) (.Call (.Name "enumerate" p) [l] [⟨some "start",ke,kpos⟩] pos) (Zkw X.K tl tk):=by
 intro pins s σ H R I h
 have ha:PA X [l] (Xb tl YX):=Ym hl Za he
 have hk:PK X [⟨some "start",ke,kpos⟩] (Xb tk YX):=ZiY hk Zkm
 refine wpAny_Call_Name_kw (WC I hg hm boot_enumerate (Zaa (by rw [he];rfl) rfl (evalArgs_kw2 rfl ?_ he)))
 refine Zn (ha pos pins s σ H (fun vs H1=>∃ a,vs=[V.ref a]∧tk σ H1 fun z H2=>∃ (k:Nat) (xs:List V),[z]=[V.int (k:Int)]∧k≤1000000∧H2 a=some (.lst xs)∧R (Zab X.K a k) H2) I h) fun us s1 ⟨vs,H1,I1,r1,a,e,q⟩=>?_
 subst e
 obtain ⟨u,rfl,r⟩:=YK r1
 cases r
 refine Zn (hk pos pins s1 σ H1 (fun vs H2=>∃ (k:Nat) (xs:List V),vs=[V.int (k:Int)]∧k≤1000000∧H2 a=some (.lst xs)∧R (Zab X.K a k) H2) I1 q) fun ws s2 ⟨zs,H2,I2,r2,k,xs,e1,hk2,ea,q⟩=>?_
 subst e1
 obtain ⟨u',rfl,t',rfl⟩:=YK r2
 obtain ⟨z,its,n,rv,hll,eo⟩:=I2.lstM ea
 have hal:a < s2.heap.objs.size:=Heap.lt_size eo
 refine Zbg (by unfold Builtin.SmallTypes.fitsIndex;simp;omega) eo fun h' hE hit hsz hkk=>wpAny_pyIter_enum hE ?_
 refine ⟨s2.heap.objs.size+1,[s2.heap.objs.size+1,s2.heap.objs.size],_,_,H2,rfl,I2.kept (t':=s2.toks) hkk,Zed k a _ _ (Nat.succ_ne_self _) (Nat.ne_of_lt hal) (Nat.ne_of_lt (Nat.lt_succ_of_lt hal)),⟨⟨_,by rw [Nat.zero_add];exact hE⟩,hit⟩,fun b hb=>?_,q⟩
 rcases List.mem_cons.mp hb with z | hb
 · rw [z];exact I2.fpOk (Nat.le_succ _) (I2.hok.fresh (Nat.le_succ _))
 · rw [List.mem_singleton.mp hb];exact I2.fpOk (Nat.le_refl _) (I2.hok.fresh (Nat.le_refl _))
end
theorem Zbr {K:PySem.W.Frag}{a:Addr}{k:Nat}{xs:List V}{g:TG}{tb:TS}{D:WJ}{σ:St}{H:Hp}(Pv:Nat→St→Hp→Prop)(h0:Pv 0 σ H)(hl:∀ i σ H,i≤xs.length→Pv i σ H→SqL K H a xs)
   (hs:∀ i x t σ H,xs[i]?=some x→H t=none→Pv i σ H→g (.ref t) σ (upd H t (.tup [.int ((i+k:Nat):Int),x])) fun σ2 H2=>tb { D with nx:=Pv (i+1),ct:=Pv (i+1),bk:=D.nx } σ2 H2) (hd:∀ σ H,Pv xs.length σ H→D.nx σ H) :
   ∃ W:Nat→Nat→St→Hp→Prop,(∃ m,W 0 m σ H)∧∀ i m σ H,W i m σ H →
     ((Zab K a k).stop i H∧D.nx σ H)∨((Zab K a k).go i H∧∃ N:St→Hp→Prop,(∀ σ' H',N σ' H'→∃ m',m' < m∧W (i+1) m' σ' H')∧∀ y H',(Zab K a k).yld i H y H'→g y σ H' fun σ2 H2=>tb { D with nx:=N,ct:=N,bk:=D.nx } σ2 H2):=by
 refine ⟨fun i m σ H=>m=xs.length - i∧i≤xs.length∧Pv i σ H,⟨xs.length,by simp,Nat.zero_le _,h0⟩,?_⟩
 rintro i m σ H ⟨rfl,hi,p⟩
 have q:=hl i σ H hi p
 by_cases hlt:i < xs.length
 · refine .inr ⟨⟨xs,xs[i],q,by simp [hlt]⟩,Pv (i+1),fun σ' H' z=>⟨xs.length - (i+1),by omega,rfl,hlt,z⟩,fun y H' hy=>?_⟩
   obtain ⟨t,x,ht,hx,rfl,rfl⟩:=hy
   exact hs i x t σ H (hx xs q) ht p
 · have e:i=xs.length:=by omega
   subst e
   exact .inl ⟨⟨xs,q,Nat.le_refl _⟩,hd σ H p⟩
theorem ZdZ {X:Cx}:PIp X .Add (fun x y H Q=>∃ i j,x=.str i∧y=.str j∧i.length+j.length≤sizeLine∧Q (.str (i++j)) H):=by
 intro pins s σ H x y v u Q I r1 r2 h
 exact Zde pins s σ H x y v u Q I r1 r2 h
theorem ZiA {x:Str}{g:TG}{tb:TS}{D:WJ}{σ:St}{H:Hp}(Pv:Nat→St→Hp→Prop)(h0:Pv 0 σ H)
   (hs:∀ i c σ H,x.cps.toList[i]?=some c→Pv i σ H→g (.str ⟨#[c]⟩) σ H fun σ2 H2=>tb { D with nx:=Pv (i+1),ct:=Pv (i+1),bk:=D.nx } σ2 H2) (hd:∀ σ H,Pv x.cps.toList.length σ H→D.nx σ H) :
   ∃ W:Nat→Nat→St→Hp→Prop,(∃ m,W 0 m σ H)∧∀ i m σ H,W i m σ H →
     ((Its x).stop i H∧D.nx σ H)∨((Its x).go i H∧∃ N:St→Hp→Prop,(∀ σ' H',N σ' H'→∃ m',m' < m∧W (i+1) m' σ' H')∧∀ y H',(Its x).yld i H y H'→g y σ H' fun σ2 H2=>tb { D with nx:=N,ct:=N,bk:=D.nx } σ2 H2):=by
 rw [Array.length_toList] at hd
 refine ⟨fun i m σ H=>m=x.cps.size - i∧i≤x.cps.size∧Pv i σ H,⟨x.cps.size,by simp,Nat.zero_le _,h0⟩,?_⟩
 rintro i m σ H ⟨rfl,hi,p⟩
 by_cases hlt:i < x.cps.size
 · refine .inr ⟨hlt,Pv (i+1),fun σ' H' p'=>⟨x.cps.size - (i+1),by omega,rfl,hlt,p'⟩,fun y H' z=>?_⟩
   obtain ⟨rfl,c,e2,rfl⟩:=z
   exact hs i c σ _ (by rw [Array.getElem?_toList];exact e2) p
 · have e:i=x.cps.size:=by omega
   subst e
   exact .inl ⟨Nat.le_refl _,hd σ H p⟩
theorem ZkI (c d:Nat)(y:Str)(h:y=⟨#[d]⟩):decide (V.str ⟨#[c]⟩=V.str y)=decide (c=d):=by
 subst h
 by_cases e:c=d
 · subst e;rw [decide_eq_true rfl,decide_eq_true rfl]
 · rw [decide_eq_false e,decide_eq_false]
   intro z
   injection z with z
   have:=congrArg (fun s:Str=>s.cps.toList) z
   exact e (by simpa using this)
end L2
set_option maxHeartbeats 4000000
namespace K72
open PySem L2
def Vj (x:Str):Bool:=(decide (1≤x.length)&&decide (x.length≤8))&&x.cps.toList.all UY
theorem ZkY {x:Str}(h:ZH x):Vj x=true:=by
 unfold Vj;rw [decide_eq_true h.1,decide_eq_true h.2.1,h.2.2];rfl
theorem ca:(Str.ofString "a").cps.toList=[97]:=by decide +kernel
theorem cz:(Str.ofString "z").cps.toList=[122]:=by decide +kernel
theorem cbl:(Str.ofString " ").cps.toList=[32]:=by decide +kernel
theorem cti:(Str.ofString "~").cps.toList=[126]:=by decide +kernel
theorem c0:(Str.ofString "0").cps.toList=[48]:=by decide +kernel
theorem c9:(Str.ofString "9").cps.toList=[57]:=by decide +kernel
section
variable {P:Program}{w:World}{K:PySem.W.Frag}{mg:Str→Option Value}{base:Heap}{tl t3 t4:Tok}
theorem btw {R:VK}{c lo hi:Nat}{x y:Str}{H':Hp}(ex:x.cps.toList=[lo])(ey:y.cps.toList=[hi])(hR:R (.bl (decide (lo≤c)&&decide (c≤hi))) H') :
   if (!decide ((⟨#[c]⟩:Str).cps.toList < x.cps.toList))=true then ∃ i j:Str,V.str ⟨#[c]⟩=.str i∧V.str y=.str j∧R (.bl (!decide (j.cps.toList < i.cps.toList))) H' else R (.bl false) H':=by
 rw [ex]
 show if (!decide ([c] < [lo]))=true then _ else _
 rw [Zdp]
 by_cases d1:c < lo
 · rw [decide_eq_true d1]
   rw [decide_eq_false (show ¬ lo≤c by omega)] at hR
   exact ZD hR
 · rw [decide_eq_false d1]
   rw [decide_eq_true (show lo≤c by omega),Bool.true_and] at hR
   refine ZQ ⟨_,_,rfl,rfl,?_⟩
   rw [ey]
   show R (.bl (!decide ([hi] < [c]))) H'
   rw [Zdp]
   by_cases d2:hi < c
   · rw [decide_eq_true d2];rw [decide_eq_false (by omega)] at hR;exact hR
   · rw [decide_eq_false d2];rw [decide_eq_true (by omega)] at hR;exact hR
def ZeM (f:Str→Bool):Sp:=fun vs H Q _=>∃ x:Str,vs=[.str x]∧x.length≤100000∧∀ H',Same H H'→Q (.bl (f x)) H'
abbrev nNn:List Str:=["thing"]
abbrev ZhS:List Str:=["thing"]
theorem scNn:Zs nNn ZhS (Zj s_is_name):=⟨rfl,rfl,rfl,by decide +kernel,rfl,by decide +kernel,by decide +kernel⟩
theorem ZeQ {f:Addr}{fd:FuncData}(F:Fun K "is_name" "is_name" s_is_name f fd)(T:ZZ mg)(hLN:mg "LONGEST_NAME"=some (.int 8 tl)):FnOk P w K mg base ZV 1 f fd ZhS (ZeM Vj):=by
 refine F.ok scNn (fun vs H Q E h=>?_) (fun cdv A outer s H vs Q E hr h=>?_)
 · obtain ⟨x,rfl,_⟩:=h;rfl
 obtain ⟨x,rfl,hx,q⟩:=h
 refine' ⟨?t,?h,?r⟩
 case h =>
   conv=>arg 2;whnf
   with_reducible refine' (Ze (ZS ?h1 (Zi ?h2) ZE) (Zi ?h3))
   case h1=>exact UQ (YJ (Zm (ZX (K:=K) rfl) rfl T.isinstance (by decide +kernel) (Zb (pv 0) (Zb (Yl rfl T.str (by decide +kernel) (v:=.ty "str") rfl) Za))))
   case h2=>exact Zp Zax
   case h3=>exact Zp (XQ (UZ VL VL Zd (Zm Xd rfl T.len PySem.boot_len (Zb (pv 0) Za)) (Wu rfl hLN (v:=.int 8) ⟨_,rfl⟩)) (WD (Zm (Vi rfl) rfl T.all (by decide +kernel) (Zb (XW (CompOk.of nNn s_is_name rfl rfl (by decide +kernel)) rfl (VC (pv 0))  (fun _ _ _ _ _=>UZ Wd Wd Zk (pv 1) Zk)) Za))))
 refine ⟨_,rfl,_,_,_,true,rfl,.inl (.str _),rfl,_,rfl,ZD ?_⟩
 refine ⟨_,rfl,x,rfl,Zv hx,?_⟩
 have fin:∀ b:Bool,b=Vj x→Q (.bl b) H:=fun b e=>by rw [e];exact q H (Same.refl H)
 refine ⟨_,_,rfl,rfl,_,rfl,?_⟩
 by_cases c1:(1:Int)≤(x.length:Int)
 · rw [decide_eq_true c1]
   refine ZQ ⟨_,_,rfl,rfl,_,rfl,?_⟩
   by_cases c2:(x.length:Int)≤8
   · rw [decide_eq_true c2]
     refine ZQ ⟨_,rfl,x,rfl,fun D hD=>?_⟩
     refine Uc (Zv hx) (fun c=>.bl (UY c)) (fun c H' R hc hR=>?_) ⟨D,x.cps.toList.map UY,rfl,SqL.of (by rw [ZcG];exact Zc),?_⟩
     · exact ⟨_,rfl,_,_,rfl,rfl,_,rfl,btw ca cz hR⟩
     · have:(x.cps.toList.map UY).all id=Vj x:=by
         unfold Vj
         rw [decide_eq_true (show 1≤x.length by omega),decide_eq_true (show x.length≤8 by omega),List.all_map];rfl
       rw [this]
       exact q _ (Zh hD _)
   · rw [decide_eq_false c2]
     exact ZD (fin _ (by unfold Vj;rw [decide_eq_false (show ¬ x.length≤8 by omega)];simp))
 · rw [decide_eq_false c1]
   refine ZD ⟨_,rfl,?_⟩
   exact ZD (fin _ (by unfold Vj;rw [decide_eq_false (show ¬ 1≤x.length by omega)];simp))
abbrev nVl:List Str:=["thing"]
abbrev Zhj:List Str:=["thing"]
theorem scVl:Zs nVl Zhj (Zj s_is_value):=⟨rfl,rfl,rfl,by decide +kernel,rfl,by decide +kernel,by decide +kernel⟩
theorem ZeN {f:Addr}{fd:FuncData}(F:Fun K "is_value" "is_value" s_is_value f fd)(T:ZZ mg):FnOk P w K mg base ZV 1 f fd Zhj (ZeM fun x=>x.cps.toList.all Yo):=by
 refine F.ok scVl (fun vs H Q E h=>?_) (fun cdv A outer s H vs Q E hr h=>?_)
 · obtain ⟨x,rfl,_⟩:=h;rfl
 obtain ⟨x,rfl,hx,q⟩:=h
 refine' ⟨?t,?h,?r⟩
 case h =>
   conv=>arg 2;whnf
   with_reducible refine' (Ze (ZS ?h1 (Zi ?h2) ZE) (Zi ZaD))
   case h1=>exact YJ (Zm (ZX (K:=K) rfl) rfl T.isinstance (by decide +kernel) (Zb (pv 0) (Zb (Yl rfl T.str (by decide +kernel) (v:=.ty "str") rfl) Za)))
   case h2=>exact Zp (Zm (Vi rfl) rfl T.all (by decide +kernel) (Zb (XW (CompOk.of nVl s_is_value rfl rfl (by decide +kernel)) rfl (VC (pv 0))  (fun _ _ _ _ _=>UZ Wd Wd Zk (pv 1) Zk)) Za))
 refine ⟨_,rfl,_,_,_,true,rfl,.inl (.str _),rfl,_,rfl,ZQ ⟨_,rfl,x,rfl,fun D hD=>?_⟩⟩
 refine Uc (Zv hx) (fun c=>.bl (Yo c)) (fun c H' R hc hR=>?_) ⟨D,x.cps.toList.map Yo,rfl,SqL.of (by rw [ZcG];exact Zc),?_⟩
 · exact ⟨_,rfl,_,_,rfl,rfl,_,rfl,btw cbl cti hR⟩
 · have:(x.cps.toList.map Yo).all id=x.cps.toList.all Yo:=by rw [List.all_map];rfl
   rw [this]
   exact q _ (Zh hD _)
def spUn:Sp:=fun vs H Q _=>∃ x:Str,vs=[.str x]∧x.length≤100000∧Q (.str ⟨(XJ false x.cps.toList).toArray⟩) H
abbrev nUn:List Str:=["written","text","behind_slash","sign"]
abbrev Zhd:List Str:=["written"]
theorem scUn:Zs nUn Zhd (Zj s_unslashed):=⟨rfl,rfl,rfl,by decide +kernel,rfl,by decide +kernel,by decide +kernel⟩
theorem Zjr {f:Addr}{fd:FuncData}(F:Fun K "unslashed" "unslashed" s_unslashed f fd)(T:ZZ mg):FnOk P w K mg base ZV 1 f fd Zhd spUn:=by
 refine F.ok scUn (fun vs H Q E h=>?_) (fun cdv A outer s H vs Q E hr h=>?_)
 · obtain ⟨x,rfl,_⟩:=h;rfl
 obtain ⟨x,rfl,hx,q⟩:=h
 refine' ⟨?t,?h,?r⟩
 case h =>
   conv=>arg 2;whnf
   with_reducible refine' (Ze ?h1 (Ze ?h2 (Ze (XE ?h3 ?h4 ?h5 ?h6 (Ze ?h7 (Zi (ZS ?h8 (Zi ?h9) ZE))) ?h10) (Zi ?h11))))
   case h1=>exact Zr (i:=1) scUn.nd rfl (Or.inl rfl) Zk
   case h2=>exact Zr (i:=2) scUn.nd rfl (Or.inl rfl) Zax
   case h3=>exact PassesOwn.never
   case h4=>exact rfl
   case h5=>exact VC (pv 0)
   case h6=>exact Zw (i:=3) scUn.nd rfl (Or.inl rfl)
   case h7=>exact Zr (i:=2) scUn.nd rfl (Or.inl rfl) (XQ (YT YW (pv 3) Zk (ZC _)) (WD (Zcm (pv 2))))
   case h8=>exact UQ (YJ (pv 2))
   case h9=>exact Zlc (i:=1) scUn.nd rfl (Or.inl rfl) (pv 3) (ZdZ)
   case h10=>exact fun _=>rfl
   case h11=>exact Zp (pv 1)
 refine ⟨_,rfl,x,rfl,?_⟩
 refine ZiA (x:=x) (fun i σ H'=>H'=H∧∃ (acc:List Nat) (b:Bool) (x3:Option V),σ=[some (.str x),some (.str ⟨acc.toArray⟩),some (.bl b),x3]∧acc++XJ b (x.cps.toList.drop i)=XJ false x.cps.toList∧acc.length≤i) ⟨rfl,[],false,_,rfl,by rw [List.drop_zero];rfl,Nat.zero_le _⟩ ?_ ?_
 · rintro i c σ H' hc ⟨rfl,acc,b,x3,rfl,e,hl⟩
   have hd:x.cps.toList.drop i=c::x.cps.toList.drop (i+1):=by
     obtain ⟨h1,h2⟩:=List.getElem?_eq_some_iff.mp hc
     rw [List.drop_eq_getElem_cons h1,h2]
   have hi:=(List.getElem?_eq_some_iff.mp hc).1
   rw [← ZL] at hi
   rw [hd,XJ] at e
   refine ⟨_,rfl,rfl,_,rfl,?_⟩
   rw [ZkI c 92 _ sl1]
   have no:∀ b':Bool,b'=false→(decide (c=92)&&!b)=false→ZhR (tNot (tB (Vc 2))) (tAug 1 (Vc 3) fun x y H Q=>∃ i j,x=V.str i∧y=V.str j∧i.length+j.length≤sizeLine∧Q (V.str (i++j)) H) ZbR { nx:=fun σ H''=>H''=H'∧∃ (acc:List Nat) (b:Bool) (x3:Option V),σ=[some (.str x),some (.str ⟨acc.toArray⟩),some (.bl b),x3]∧acc++XJ b (x.cps.toList.drop (i+1))=XJ false x.cps.toList∧acc.length≤i+1,rt:=Q } [some (.str x),some (.str ⟨acc.toArray⟩),some (.bl b'),some (.str ⟨#[c]⟩)] H':=by
     rintro _ rfl z
     rw [z] at e
     refine ⟨_,rfl,_,rfl,ZQ ⟨_,rfl,_,rfl,_,_,rfl,rfl,Zv (show _≤100000 by show acc.toArray.size+1≤100000;rw [List.size_toArray];omega),rfl,acc++[c],false,some (.str ⟨#[c]⟩),?_,?_,by simp;omega⟩⟩
     · show _=[some (V.str x),some (V.str ⟨(acc++[c]).toArray⟩),some (V.bl false),some (V.str ⟨#[c]⟩)]
       rw [show (⟨(acc++[c]).toArray⟩:Str)=(⟨acc.toArray⟩:Str)++⟨#[c]⟩ from Ys (by rw [YR])]
       rfl
     · rw [List.append_assoc];exact e
   by_cases hc2:c=92
   · rw [decide_eq_true hc2] at e no ⊢
     refine ZQ ⟨_,rfl,_,rfl,?_⟩
     cases b with
     | true=>exact no _ rfl rfl
     | false=>exact ⟨_,rfl,_,rfl,ZD ⟨rfl,acc,true,_,rfl,e,by omega⟩⟩
   · rw [decide_eq_false hc2] at e no ⊢
     exact ZD (no _ rfl rfl)
 · rintro σ H' ⟨rfl,acc,b,x3,rfl,e,hl⟩
   rw [List.drop_length] at e
   have e:acc=XJ false x.cps.toList:=by simpa [XJ] using e
   exact ⟨_,rfl,by rw [e];exact q⟩
def Zhk:Sp:=fun vs H Q _=>∃(w:Str)(most:Nat),vs=[.str w,.int most]∧w.length≤100000∧most≤300∧∀ H',Same H H'→Q (match Yn w most with | some n=>.int n | none=>.non) H'
abbrev nNf:List Str:=["word","most","figures"]
abbrev Zep:List Str:=["word","most"]
theorem scNf:Zs nNf Zep (Zj s_number_from):=⟨rfl,rfl,rfl,by decide +kernel,rfl,by decide +kernel,by decide +kernel⟩
theorem ZiC {f:Addr}{fd:FuncData}(F:Fun K "number_from" "number_from" s_number_from f fd)(T:ZZ mg):FnOk P w K mg base ZV 1 f fd Zep Zhk:=by
 refine F.ok scNf (fun vs H Q E h=>?_) (fun cdv A outer s H vs Q E hr h=>?_)
 · obtain ⟨x,_,rfl,_⟩:=h;rfl
 obtain ⟨x,most,rfl,hx,hm,q⟩:=h
 refine' ⟨?t,?h,?r⟩
 case h =>
   conv=>arg 2;whnf
   with_reducible refine' (WY ?h1 (Ze (ZS ?h2 (Zi ?h3) ZE) (Zi ?h4)))
   case h1=>exact Zr (i:=2) scNf.nd rfl (Or.inl rfl) (Yz (YJ (Yc PySem.F.plainAttrs_str PySem.F.slot_str_startswith PySem.F.type_str_startswith Vl (pv 0) (Zb Zk Za))) (Yq Zaw (pv 0) (Yk Zd) YC) (pv 0))
   case h2=>exact PW.pt (WP (UQ (ZhQ VL VL Zd (Zm Xd rfl T.len PySem.boot_len (Zb (pv 2) Za)) (pv 1))) (Ud (UQ (YJ (Zm (Vi rfl) rfl T.all (by decide +kernel) (Zb (XW (CompOk.of nNf s_number_from rfl rfl (by decide +kernel)) rfl (VC (pv 2))  (fun _ _ _ _ _=>UZ Wd Wd Zk (pv 3) Zk)) Za))))))
   case h3=>exact Zp YI
   case h4=>exact Zp (Yz (ZA YW (ZY UA rfl T.str (by decide +kernel) (Zb (ZY Vk rfl T.int (by decide +kernel) (Zb (pv 0) Za)) Za)) (pv 0) (ZC _)) (ZY Vk rfl T.int (by decide +kernel) (Zb (pv 0) Za)) YI)
 have hlx:=ZL x
 refine ⟨fun σ H'=>H'=H∧∃ y:Str,y.cps.toList=YN x∧σ=[some (.str x),some (.int most),some (.str y)],?_,?_⟩
 · refine ⟨_,rfl,rfl,x,_,rfl,rfl,_,rfl,?_⟩
   rw [mi1,ZaB]
   by_cases hh:x.cps.toList.head?=some 45
   · rw [decide_eq_true hh]
     exact ZQ ⟨_,rfl,_,rfl,x,rfl,Zv hx,rfl,_,by rw [ZiF];unfold YN;rw [if_pos hh],rfl⟩
   · rw [decide_eq_false hh]
     exact ZD ⟨_,rfl,rfl,x,by unfold YN;rw [if_neg hh],rfl⟩
 rintro σ H ⟨rfl,y,ey,rfl⟩
 have hly:y.length=(YN x).length:=by rw [ZL,ey]
 have hyx:(YN x).length≤100000:=by
   unfold YN
   split
   · rw [List.length_drop];omega
   · omega
 refine ⟨_,rfl,y,rfl,Zv (show _≤100000 by omega),_,_,rfl,rfl,_,rfl,?_⟩
 have no:∀ H',Same H H'→¬ (1≤(YN x).length∧(YN x).length≤most∧(YN x).all Ue=true)→Q .non H':=fun H' s' h=>by
   have:=q H' s'
   unfold Yn at this
   rw [if_neg h] at this;exact this
 by_cases c1:(1:Int)≤(y.length:Int)
 · rw [decide_eq_true c1]
   refine ZQ ⟨_,rfl,_,_,rfl,rfl,_,rfl,?_⟩
   by_cases c2:(y.length:Int)≤(most:Int)
   · rw [decide_eq_true c2]
     refine ZD ⟨_,rfl,y,rfl,fun D hD=>?_⟩
     refine Uc (Zv (show _≤100000 by omega)) (fun c=>.bl (Ue c)) (fun c H' R hc hR=>?_) ⟨D,y.cps.toList.map Ue,rfl,SqL.of (by rw [ZcG];exact Zc),?_⟩
     · exact ⟨_,rfl,_,_,rfl,rfl,_,rfl,btw c0 c9 hR⟩
     have s1:=Zh hD (.lst ((y.cps.toList.map fun c=>V.bl (Ue c))))
     generalize upd H D (.lst ((y.cps.toList.map fun c=>V.bl (Ue c))))=H1 at s1 ⊢
     have ea:(y.cps.toList.map Ue).all id=(YN x).all Ue:=by rw [List.all_map,ey];rfl
     rw [ea]
     refine ⟨_,rfl,?_⟩
     cases hd:(YN x).all Ue with
     | false=>exact ZQ (no H1 s1 fun h=>by rw [hd] at h;exact absurd h.2.2 (by decide))
     | true =>
       have hq:=q H1 s1
       obtain ⟨n,hn,hl,hlog⟩:=Zef (w:=x) (by omega) (by omega) hd
       unfold Yn at hq
       rw [if_pos ⟨by omega,by omega,hd⟩,hn,Option.getD_some] at hq
       refine ZD ⟨_,rfl,x,n,rfl,hn,hl,.inl ⟨n,rfl,hlog,_,rfl,rfl,_,rfl,?_⟩⟩
       by_cases hs:Str.ofString (toString n)=x
       · rw [decide_eq_true (by rw [hs])]
         rw [if_pos hs] at hq
         exact ZQ ⟨_,rfl,x,n,rfl,hn,hl,hq⟩
       · rw [decide_eq_false (fun z=>hs (by injection z))]
         rw [if_neg hs] at hq
         exact ZD hq
   · rw [decide_eq_false c2]
     exact ZQ (no H (Same.refl H) fun h=>c2 (by omega))
 · rw [decide_eq_false c1]
   refine ZD ⟨_,rfl,?_⟩
   exact ZQ (no H (Same.refl H) fun h=>c1 (by omega))
def spVF:Sp:=fun vs H Q _=>∃ w:Str,vs=[.str w]∧w.length≤100000∧∀ H',Same H H'→Q (match Ul w with | some v=>v | none=>.non) H'
abbrev nVf:List Str:=["word","text","fits"]
abbrev Zho:List Str:=["word"]
theorem scVf:Zs nVf Zho (Zj s_value_from):=⟨rfl,rfl,rfl,by decide +kernel,rfl,by decide +kernel,by decide +kernel⟩
theorem Zjm {f:Addr}{fd:FuncData}(F:Fun K "value_from" "value_from" s_value_from f fd)(T:ZZ mg)(hMF:mg "MOST_FIGURES"=some (.int 30 t3))(hMS:mg "MOST_SIGNS"=some (.int 40 t4))(DNf:Def P w K mg base 2 "number_from" Zep Zhk)(DUn:Def P w K mg base 2 "unslashed" Zhd spUn)(DVl:Def P w K mg base 2 "is_value" Zhj (ZeM fun x=>x.cps.toList.all Yo))(DVT:Def P w K mg base 2 "value_text" Zhl spVT):FnOk P w K mg base ZV 3 f fd Zho spVF:=by
 refine F.ok scVf (fun vs H Q E h=>?_) (fun cdv A outer s H vs Q E hr h=>?_)
 · obtain ⟨x,rfl,_⟩:=h;rfl
 obtain ⟨x,rfl,hx,q⟩:=h
 refine' ⟨?t,?h,?r⟩
 case h =>
   conv=>arg 2;whnf
   with_reducible refine' (Ze (ZS ?h1 (Zi ?h2) ZE) (Ze ?h3 (Ze ?h4 (Zi ?h5))))
   case h1=>exact UQ (YJ (Yc PySem.F.plainAttrs_str PySem.F.slot_str_startswith PySem.F.type_str_startswith Vl (pv 0) (Zb Zk Za)))
   case h2=>exact Zp (Zq DNf hr (Zb (pv 0) (Zb (Wu rfl hMF (v:=.int 30) ⟨_,rfl⟩) Za)))
   case h3=>exact Zr (i:=1) scVf.nd rfl (Or.inl rfl) (Zq DUn hr (Zb (Yq Zaw (pv 0) (Yk Zd) (Yk (ZbV Zap Zd))) Za))
   case h4=>exact Zr (i:=2) scVf.nd rfl (Or.inl rfl) (XQ (YT VL (Zm Xd rfl T.len PySem.boot_len (Zb (pv 1) Za)) (Wu rfl hMS (v:=.int 40) ⟨_,rfl⟩) (ZC _)) (XQ (Zq DVl hr (Zb (pv 1) Za)) (WD (YT YW (Zq DVT hr (Zb (pv 1) Za)) (pv 0) (ZC _)))))
   case h5=>exact Zp (Yz (YJ (pv 2)) (pv 1) YI)
 have hlx:=ZL x
 refine ⟨_,rfl,rfl,x,_,rfl,rfl,_,rfl,?_⟩
 rw [qu1,ZaB]
 by_cases hh:x.cps.toList.head?=some 39
 · rw [decide_eq_true hh]
   have et:(⟨(XJ false (Txt.slice x (some 1) (some (-1))).cps.toList).toArray⟩:Str)=Wn x:=by rw [ZgA];rfl
   have hlt:(Wn x).length≤100000:=by
     have:=ZaU false (x.cps.toList.drop 1).dropLast
     rw [List.length_dropLast,List.length_drop] at this
     show (XJ false (x.cps.toList.drop 1).dropLast).toArray.size≤_
     rw [List.size_toArray];omega
   refine ZD ⟨_,rfl,_,rfl,_,rfl,_,rfl,x,rfl,Zv hx,_,rfl,Nat.le_trans (Txt.slice_le x _ _) hx,?_⟩
   rw [et]
   have no:∀ H',Same H H'→¬ ((Wn x).length≤40∧(Wn x).cps.toList.all Yo=true∧ZJ (.str (Wn x))=x)→Q .non H':=fun H' s' h=>by
     have:=q H' s'
     unfold Ul at this
     rw [if_pos hh,if_neg h] at this;exact this
   refine ⟨_,rfl,_,rfl,Zv hlt,_,_,rfl,rfl,_,rfl,?_⟩
   by_cases c1:((Wn x).length:Int)≤40
   · rw [decide_eq_true c1]
     refine ZQ ⟨_,rfl,_,rfl,hlt,fun H1 s1=>?_⟩
     refine ⟨(Wn x).cps.toList.all Yo,rfl,?_⟩
     cases c2:(Wn x).cps.toList.all Yo with
     | false=>exact ZD ⟨_,rfl,_,rfl,ZD (no H1 s1 fun h=>by rw [c2] at h;exact absurd h.2.1 (by decide))⟩
     | true =>
       refine ZQ ⟨_,rfl,_,rfl,⟨by omega,c2⟩,_,rfl,rfl,?_⟩
       refine ⟨_,rfl,_,rfl,?_⟩
       by_cases c3:ZJ (.str (Wn x))=x
       · rw [decide_eq_true (by rw [c3])]
         have:=q H1 s1
         unfold Ul at this
         rw [if_pos hh,if_pos ⟨by omega,c2,c3⟩] at this
         exact ZQ ⟨_,rfl,this⟩
       · rw [decide_eq_false (fun z=>c3 (by injection z))]
         exact ZD (no H1 s1 fun h=>c3 h.2.2)
   · rw [decide_eq_false c1]
     exact ZD ⟨_,rfl,_,rfl,ZD (no H (Same.refl H) fun h=>c1 (by omega))⟩
 · rw [decide_eq_false hh]
   refine ZQ ⟨_,rfl,x,30,rfl,hx,by decide,fun H1 s1=>?_⟩
   have:=q H1 s1
   unfold Ul at this
   rw [if_neg hh] at this
   cases e:Yn x 30 with
   | none=>rw [e] at this;exact this
   | some n=>rw [e] at this;exact this
end
end K72
set_option maxHeartbeats 2000000
namespace L2
open PySem PySem.Spec PyProof.Rows
def ZiG (K:PySem.W.Frag):V→List V→Hp→VK→Prop:=fun x vs H Q=>∃(l:Addr)(ns:List Str)(y:Str),x=.ref l∧vs=[.str y]∧SqL K H l (ns.map V.str)∧y∈ns∧ns.length≤100000∧Q (.int (ns.idxOf y:Nat)) H
theorem ZfL {ns:List Str}{y:Str}:∀{j:Nat}(h:j < ns.length),j < ns.idxOf y→ns[j]≠y:=by
 induction ns with
 | nil=>intro j h;simp at h
 | cons a r ih =>
   intro j h hj
   rw [List.idxOf_cons] at hj
   by_cases e:(a == y)=true
   · rw [e] at hj;simp at hj
   · have e':(a == y)=false:=by simpa using e
     rw [e'] at hj
     cases j with
     | zero=>intro z;exact e (by simpa using z)
     | succ j=>exact ih (j:=j) (by simpa using h) (by simpa using hj)
section
variable {X:Cx}
theorem Zgc:MtR X "list.index" (ZiG X.K):=by
 intro pins s σ H x vs v us Q I rx rv h
 obtain ⟨l,ns,y,rfl,rfl,hl,hk,hz,q⟩:=h
 cases rx
 obtain ⟨u,rfl,ru⟩:=YK rv
 obtain ⟨its,r,ht,_⟩:=I.list hl
 obtain ⟨⟨cls,dd,data,sl⟩,n,ho,hc,hsl,hd⟩:=ht
 have hlen:ns.length=its.length:=by have:=r.length;rwa [List.length_map] at this
 have hj:ns.idxOf y < ns.length:=List.idxOf_lt_length_iff.mpr hk
 dsimp only at hc hsl hd
 subst hc hsl hd
 have at':∀ (j:Nat) (h1:j < its.length) (h2:j < ns.length),We (.str y) its[j]=decide (ns[j]=y):=fun j h1 h2=>by
   obtain ⟨u',e1,e2⟩:=r.get (i:=j) (x:=V.str ns[j]) (by simp [h2])
   rw [List.getElem?_eq_getElem h1] at e1
   cases e1
   rw [ZcK e2 rfl]
   show (ns[j] == y)=_
   exact (Bool.eq_iff_iff.mpr (by simp))
 refine call_meets PySem.F.slot_list_index ⟨_,ho,rfl⟩ PySem.F.entry_list_index (PySem.F.args_list_index_2 _ _)
   (PySem.SeqAt.list_indexAt l its.toArray n none sl _ (We (.str y)) (ns.idxOf y) (by simpa [hlen] using hj) (by omega) ?_ ?_) ⟨ho,fun w hw=>Wq ru rfl r (Wz ns) w (by simpa using hw),⟨.int (ns.idxOf y:Nat),H,I.tok _,⟨_,rfl⟩,q⟩⟩
 · show We (.str y) its[ns.idxOf y]=true
   rw [at' _ (by omega) hj]
   exact decide_eq_true (List.getElem_idxOf hj)
 · intro j hjs hlt
   have h2:j < ns.length:=by rw [List.size_toArray] at hjs;omega
   show We (.str y) its[j]=false
   rw [at' _ (by omega) h2]
   exact decide_eq_false (ZfL h2 hlt)
end
theorem ZiV {xs:List V}{i j:Nat}(h:i≤j)(hj:j≤xs.length):YV xs (some (i:Int)) (some (j:Int))=(xs.drop i).take (j - i):=by
 unfold YV
 rw [HT.sIx_nat,HT.sIx_nat,Nat.min_eq_left hj,Nat.min_eq_left (show i≤xs.length by omega)]
section
variable {X:Cx}{elt iter tg:Expr}{xa xb:Str}{pos:Pos}{scope:Scope}{wi:TI}{te:TE}{g:TG}
theorem VO {i:Nat}{y:Str}{py spos:Pos}(O:CompOkT X scope xa xb)(hc:X.calm=true)(hN:X.N.Nodup)(hiN:X.N[i]?=some y)(hy:Loc X.env.scope y)(hi:PI X tg iter wi)(hg:∀ cl C s₀ H₀ fp,PG (YS X scope xa xb cl C s₀ H₀ fp) tg g)(he:∀ cl C s₀ H₀ fp,PE (YS X scope xa xb cl C s₀ H₀ fp) elt te)
   (hsw:swapsWith (.ListComp elt [⟨tg,iter,[],0⟩] scope pos) (some (.Name y py)) spos.line X.env=pure true) (hf:X.fn y=true∨X.env.scope.names.lookup y=some .local:=by first | exact .inl rfl | exact .inr rfl | assumption)
   (hs:∀ v,foldedSetIterable iter X.env v=pure v:=by intro _;rfl):PS X (.Assign [.Name y py] (.ListComp elt [⟨tg,iter,[],0⟩] scope pos) spos) (ZaS (Zfy wi g te) (VD i)):=by
 intro pins s σ H D I h
 obtain ⟨cl,hcl,cl1,cl2⟩:=XG (scope:=scope) (env:=X.env) fun y hy hf=>I.ok.has _ (O.clos y hy hf)
 rw [exec_Assign_Name_used _ _ _ _ hsw]
 refine wpAny_bind (wpAny_standAt (wpAny_bind ?_))
 show wpAny _ X.A (do let _ ← comprehension (.ListComp elt [⟨tg,iter,[],0⟩] scope pos) scope X.env _ (newList []) false (eval iter X.env) (some (assign (.Name y py) X.env))) _ _ s
 refine wpAny_bind (wpAny_mono (wpAny_comprehension_free (use:=some (assign (.Name y py) X.env)) (Q:=fun _ s'=>SP X pins D .next s') rfl hs hcl O.kind O.names
   (Zn (hi pins s σ H _ I h) fun v s1 h1=>Zn h1 fun itv s2 h2=>?_)) (fun _ s' hq=>wpAny_pure (wpAny_pure hq)) fun _ _ e=>e)
 obtain ⟨it,fp,tn,J,H2,e,I2,T,st2,f2,q⟩:=h2
 subst e
 refine VT (RR:=fun acc C=>compPost (model X.prog X.w) X.A X.xe (some (assign (.Name y py) X.env)) (fun _ s'=>SP X pins D .next s') acc C) O hc cl1 cl2 hg he I2 T st2 f2 q ?_
 intro Dl C H' s' I' ⟨g0,g1,g2,g3,g4,g5⟩ ⟨m,hm⟩ hq
 show wpAny _ X.A (assign (.Name y py) X.env (.ref Dl)) _ _ _
 refine wpAny_assign_Name (Uz I' hN hiN hy (v:=.ref Dl) rfl (fun s'' I'' ⟨a,sb,ha⟩=>?_) hf)
 have haC:C≠a:=by
   rcases ha with z | z
   · rw [z];exact g1
   · exact fun z'=>g4 y a z z'.symm
 exact ⟨m,hm.sameBut sb haC,fun h' hs'=>⟨_,H',I''.turned (t':=s''.toks) (fun b o hb e=>(hs'.2 b hb).trans e) g0 g1 g3 g4 g5,hq⟩⟩
end
end L2
set_option maxHeartbeats 4000000
namespace K72
open PySem L2
abbrev ZM:Str:=Str.ofString "value"
def Yu (w k:Str):Option V:=if k="value" then Ul w else if Vj w=true then some (.str w) else none
def Xw (ws ks:List Str):Nat:=ks.idxOf ZM+1+ws.length - ks.length
def Yy (ws ks:List Str):List Str :=
 if ZM ∉ ks∨ws.length≤ks.length then ws
 else ws.take (ks.idxOf ZM)++[Txt.join " " ((ws.drop (ks.idxOf ZM)).take (Xw ws ks - ks.idxOf ZM))]++ws.drop (Xw ws ks)
def Xk (ws ks:List Str):List V:=List.zipWith (fun w k=>(Yu w k).getD .non) (Yy ws ks) ks
def Yg (ws ks:List Str):Option (List V):=if (Yy ws ks).length=ks.length then (if YG .non (Xk ws ks)=true then none else some (Xk ws ks)) else none
theorem Zer (w k:Str):Xu ((Yu w k).getD .non)=true:=by
 unfold Yu Ul
 split
 · split
   · split<;>rfl
   · cases Yn w 30<;>rfl
 · split<;>rfl
def Fits (ws:List Str):Prop:=(ws.map (·.length)).sum+ws.length≤100000
theorem Zjn {ws zs:List Str}(s:zs.Sublist ws):(zs.map (·.length)).sum≤(ws.map (·.length)).sum:=by
 induction s with
 | slnil=>exact Nat.le_refl _
 | cons a _ ih=>rw [List.map_cons,List.sum_cons];omega
 | cons_cons a _ ih=>rw [List.map_cons,List.map_cons,List.sum_cons,List.sum_cons];omega
theorem Fits.sub {ws zs:List Str}(h:Fits ws)(s:zs.Sublist ws):Fits zs:=by
 have h1:=s.length_le
 have h2:=Zjn s
 unfold Fits at h ⊢;omega
theorem Fits.at {ws:List Str}(h:Fits ws):∀ w∈ws,w.length≤100000:=by
 induction ws with
 | nil=>intro w hw;cases hw
 | cons a r ih =>
   have h':a.length+(r.map (·.length)).sum+(r.length+1)≤100000:=by unfold Fits at h;rw [List.map_cons,List.sum_cons,List.length_cons] at h;exact h
   intro w hw
   rcases List.mem_cons.mp hw with rfl | hw
   · omega
   · exact ih (by unfold Fits;omega) w hw
theorem Zhs {ws ks:List Str}(h:Fits ws):∀ w∈Yy ws ks,w.length≤100000:=by
 intro w hw
 unfold Yy at hw
 split at hw
 · exact h.at w hw
 · rcases List.mem_append.mp hw with hw | hw
   · rcases List.mem_append.mp hw with hw | hw
     · exact h.at w (List.mem_of_mem_take hw)
     · rw [List.mem_singleton.mp hw,tj]
       have f2:=h.sub ((List.take_sublist (Xw ws ks - ks.idxOf ZM) _).trans (List.drop_sublist (ks.idxOf ZM) ws))
       have:=XF " " ((ws.drop (ks.idxOf ZM)).take (Xw ws ks - ks.idxOf ZM))
       unfold Fits at f2
       rw [show (Str.ofString " ").length=1 by decide +kernel] at this
       omega
   · exact h.at w (List.mem_of_mem_drop hw)
section
variable {P:Program}{w:World}{K:PySem.W.Frag}{mg:Str→Option Value}{base:Heap}{tl t3 t4:Tok}
def spPF:Sp:=fun vs H Q _=>∃ w k:Str,vs=[.str w,.str k]∧w.length≤100000∧∀ H',Same H H'→Q ((Yu w k).getD .non) H'
abbrev nPf:List Str:=["word","kind"]
abbrev Zie:List Str:=["word","kind"]
theorem scPf:Zs nPf Zie (Zj s_part_from):=⟨rfl,rfl,rfl,by decide +kernel,rfl,by decide +kernel,by decide +kernel⟩
theorem Zht {f:Addr}{fd:FuncData}(F:Fun K "part_from" "part_from" s_part_from f fd)(T:ZZ mg)(DVf:Def P w K mg base 3 "value_from" Zho spVF)(DNn:Def P w K mg base 3 "is_name" ZhS (ZeM Vj)):FnOk P w K mg base ZV 4 f fd Zie spPF:=by
 refine F.ok scPf (fun vs H Q E h=>?_) (fun cdv A outer s H vs Q E hr h=>?_)
 · obtain ⟨x,_,rfl,_⟩:=h;rfl
 obtain ⟨x,k,rfl,hx,q⟩:=h
 refine' ⟨?t,?h,?r⟩
 case h =>
   conv=>arg 2;whnf
   with_reducible refine' (Ze (ZS ?h1 (Zi ?h2) ZE) (Zi ?h3))
   case h1=>exact ZA YW (pv 1) Zk (ZC _)
   case h2=>exact Zp (Zq DVf hr (Zb (pv 0) Za))
   case h3=>exact Zp (Yz (YJ (Zq DNn hr (Zb (pv 0) Za))) (pv 0) YI)
 refine ⟨_,rfl,rfl,_,rfl,?_⟩
 by_cases hk:k="value"
 · rw [decide_eq_true (by rw [hk])]
   refine ZQ ⟨_,rfl,x,rfl,hx,fun H1 s1=>?_⟩
   have:=q H1 s1
   unfold Yu at this
   rw [if_pos hk] at this
   cases e:Ul x with
   | none=>rw [e] at this;exact this
   | some v=>rw [e] at this;exact this
 · rw [decide_eq_false (fun z=>hk (by injection z))]
   refine ZD ⟨_,rfl,x,rfl,hx,fun H1 s1=>⟨Vj x,rfl,?_⟩⟩
   have:=q H1 s1
   unfold Yu at this
   rw [if_neg hk] at this
   cases e:Vj x with
   | true=>rw [e,if_pos rfl] at this;exact ZQ ⟨_,rfl,this⟩
   | false=>rw [e,if_neg (by decide)] at this;exact ZD this
def spWW:Sp:=fun vs H Q _=>∃(a b:Addr)(ws ks:List Str),vs=[.ref a,.ref b]∧H a=some (.lst (ws.map V.str))∧H b=some (.lst (ks.map V.str))∧Fits ws∧ks.length≤10∧∀ l H',Same H H'→H' l=some (.lst ((Yy ws ks).map V.str))→Q (.ref l) H'
abbrev nWw:List Str:=["words","kinds","at","end"]
abbrev ZgP:List Str:=["words","kinds"]
theorem scWw:Zs nWw ZgP (Zj s_whole_words):=⟨rfl,rfl,rfl,by decide +kernel,rfl,by decide +kernel,by decide +kernel⟩
theorem Zhh {f:Addr}{fd:FuncData}(F:Fun K "whole_words" "whole_words" s_whole_words f fd)(T:ZZ mg):FnOk P w K mg base ZV 1 f fd ZgP spWW:=by
 refine F.ok scWw (fun vs H Q E h=>?_) (fun cdv A outer s H vs Q E hr h=>?_)
 · obtain ⟨a,b,_,_,rfl,_⟩:=h;rfl
 obtain ⟨a,b,ws,ks,rfl,ea,eb,hf,hks,q⟩:=h
 refine' ⟨?t,?h,?r⟩
 case h =>
   conv=>arg 2;whnf
   with_reducible refine' (Ze (ZS ?h1 (Zi ?h2) ZE) (Ze ?h3 (Ze ?h4 (Zi ?h5))))
   case h1=>exact PW.pt (WP (ZA Um Zk (pv 1) rfl) (Ud (ZA VL (Zm ZK rfl T.len PySem.boot_len (Zb (pv 0) Za)) (Zm ZK rfl T.len PySem.boot_len (Zb (pv 1) Za)) (ZC _))))
   case h2=>exact Zp (pv 0)
   case h3=>exact Zr (i:=2) scWw.nd rfl (Or.inl rfl) (Yc PySem.F.plainAttrs_list PySem.F.slot_list_index PySem.F.type_list_index Zgc (pv 1) (Zb Zk Za))
   case h4=>exact Zr (i:=3) scWw.nd rfl (Or.inl rfl) (Zl XA (Zl Ye (Zl Ye (pv 2) Zd) (Zm ZK rfl T.len PySem.boot_len (Zb (pv 0) Za))) (Zm ZK rfl T.len PySem.boot_len (Zb (pv 1) Za)))
   case h5=>exact Zp (Zl Wg (Zl Wg (Yq Xf (pv 0) YC (Yk (pv 2))) (ZF (Zb (Yc PySem.F.plainAttrs_str PySem.F.slot_str_join PySem.F.type_str_join Ws Zk (Zb (Yq Xf (pv 0) (Yk (pv 2)) (Yk (pv 3))) Za)) Za))) (Yq Xf (pv 0) (Yk (pv 3)) YC))
 have hl:ws.length≤100000:=by unfold Fits at hf;omega
 have ein:YG (.str ZM) (ks.map V.str)=decide (ZM∈ks):=by
   unfold YG
   rw [List.any_map,Bool.eq_iff_iff,List.any_eq_true,decide_eq_true_eq]
   constructor
   · rintro ⟨k,hk,e⟩
     have:k=ZM:=by simpa [XL] using e
     rw [← this];exact hk
   · intro hk;exact ⟨ZM,hk,by simp [XL]⟩
 refine ⟨_,rfl,b,_,rfl,.inl (SqL.of eb),rfl,Wz _,_,rfl,?_⟩
 rw [ein]
 by_cases c1:ZM∈ks
 · rw [decide_eq_true c1]
   refine ZD ⟨_,rfl,a,_,rfl,.inl (SqL.of ea),_,rfl,b,_,rfl,.inl (SqL.of eb),_,_,rfl,rfl,_,rfl,?_⟩
   rw [List.length_map,List.length_map]
   by_cases c2:(ws.length:Int)≤(ks.length:Int)
   · rw [decide_eq_true c2]
     exact ZQ ⟨_,rfl,q a H (Same.refl H) (by unfold Yy;rw [if_pos (.inr (by omega))];exact ea)⟩
   · rw [decide_eq_false c2]
     have hix:ks.idxOf ZM < ks.length:=List.idxOf_lt_length_iff.mpr c1
     refine ZD ⟨_,rfl,.inl ⟨rfl,_,SqL.of eb⟩,b,ks,_,rfl,rfl,SqL.of eb,c1,by omega,?_⟩
     refine ⟨_,rfl,_,_,rfl,rfl,_,rfl,a,_,rfl,.inl (SqL.of ea),_,_,rfl,rfl,_,rfl,b,_,rfl,.inl (SqL.of eb),_,_,rfl,rfl,?_⟩
     rw [List.length_map,List.length_map]
     have ee:((ks.idxOf ZM:Nat):Int)+1+(ws.length:Int) - (ks.length:Int)=((Xw ws ks:Nat):Int):=by unfold Xw;omega
     have hat:ks.idxOf ZM≤Xw ws ks∧Xw ws ks≤ws.length:=by unfold Xw;omega
     dsimp only
     rw [ee]
     refine ⟨_,rfl,?_⟩
     dsimp only [WV]
     refine ⟨_,rfl,_,rfl,a,_,rfl,SqL.of ea,fun p1 hp1=>?_⟩
     have s1:=Zh hp1 (.lst (YV (ws.map V.str) none (some ((ks.idxOf ZM:Nat):Int))))
     have e1:upd H p1 (.lst (YV (ws.map V.str) none (some ((ks.idxOf ZM:Nat):Int)))) p1=_:=Zc
     generalize upd H p1 (.lst (YV (ws.map V.str) none (some ((ks.idxOf ZM:Nat):Int))))=H1 at s1 e1 ⊢
     refine ⟨rfl,_,rfl,_,rfl,_,rfl,_,rfl,_,rfl,a,_,rfl,SqL.of (s1 _ _ ea),fun p2 hp2=>?_⟩
     have s2:=Zh hp2 (.lst (YV (ws.map V.str) (some ((ks.idxOf ZM:Nat):Int)) (some ((Xw ws ks:Nat):Int))))
     have e2:upd H1 p2 (.lst (YV (ws.map V.str) (some ((ks.idxOf ZM:Nat):Int)) (some ((Xw ws ks:Nat):Int)))) p2=_:=Zc
     generalize upd H1 p2 (.lst (YV (ws.map V.str) (some ((ks.idxOf ZM:Nat):Int)) (some ((Xw ws ks:Nat):Int))))=H2 at s2 e2 ⊢
     rw [Ur,← List.map_take] at e1
     rw [ZiV hat.1 (by rw [List.length_map];exact hat.2),← List.map_drop,← List.map_take] at e2
     have fm:Fits ((ws.drop (ks.idxOf ZM)).take (Xw ws ks - ks.idxOf ZM)):=hf.sub ((List.take_sublist _ _).trans (List.drop_sublist _ _))
     have hmid:Txt.join " " ((ws.drop (ks.idxOf ZM)).take (Xw ws ks - ks.idxOf ZM))=Txt.join (Str.ofString " ") ((ws.drop (ks.idxOf ZM)).take (Xw ws ks - ks.idxOf ZM)):=rfl
     dsimp only [YX]
     refine ⟨" ",p2,_,rfl,rfl,SqL.of e2,?_,(by show 1≤sizeLine;decide),fun p3 hp3=>?_⟩
     · unfold Fits at fm
       rw [show (Str.ofString " ").length=1 by decide +kernel];omega
     have s3:=Zh hp3 (.lst [V.str (Txt.join " " ((ws.drop (ks.idxOf ZM)).take (Xw ws ks - ks.idxOf ZM)))])
     have e3:upd H2 p3 (.lst [V.str (Txt.join " " ((ws.drop (ks.idxOf ZM)).take (Xw ws ks - ks.idxOf ZM)))]) p3=_:=Zc
     generalize upd H2 p3 (.lst [V.str (Txt.join " " ((ws.drop (ks.idxOf ZM)).take (Xw ws ks - ks.idxOf ZM)))])=H3 at s3 e3 ⊢
     have h13:=(s2.trans s3) _ _ e1
     refine ⟨p1,p3,_,_,rfl,rfl,h13,e3,Zv (show _≤100000 by rw [List.length_map,List.length_take,List.length_singleton];omega),fun p4 hp4=>?_⟩
     have s4:=Zh hp4 (.lst ((ws.take (ks.idxOf ZM)).map V.str++[V.str (Txt.join " " ((ws.drop (ks.idxOf ZM)).take (Xw ws ks - ks.idxOf ZM)))]))
     have e4:upd H3 p4 (.lst ((ws.take (ks.idxOf ZM)).map V.str++[V.str (Txt.join " " ((ws.drop (ks.idxOf ZM)).take (Xw ws ks - ks.idxOf ZM)))])) p4=_:=Zc
     generalize upd H3 p4 (.lst ((ws.take (ks.idxOf ZM)).map V.str++[V.str (Txt.join " " ((ws.drop (ks.idxOf ZM)).take (Xw ws ks - ks.idxOf ZM)))]))=H4 at s4 e4 ⊢
     have s14:=((s1.trans s2).trans s3).trans s4
     refine ⟨_,rfl,_,rfl,_,rfl,a,_,rfl,SqL.of (s14 _ _ ea),fun p5 hp5=>?_⟩
     rw [Zag,← List.map_drop]
     have s5:=Zh hp5 (.lst ((ws.drop (Xw ws ks)).map V.str))
     refine ⟨p4,p5,_,_,rfl,rfl,s5 _ _ e4,Zc,Zv (show _≤100000 by rw [List.length_append,List.length_map,List.length_map,List.length_take,List.length_drop,List.length_singleton];omega),fun p6 hp6=>q p6 _ ((s14.trans s5).trans (Zh hp6 _)) ?_⟩
     rw [Zc]
     unfold Yy
     rw [if_neg (by rintro (z | z);exact z c1;omega)]
     simp
 · rw [decide_eq_false c1]
   exact ZQ ⟨_,rfl,q a H (Same.refl H) (by unfold Yy;rw [if_pos (.inl c1)];exact ea)⟩
def ZhT:Sp:=fun vs H Q _=>∃(a b:Addr)(ws ks:List Str),vs=[.ref a,.ref b]∧H a=some (.lst (ws.map V.str))∧H b=some (.lst (ks.map V.str))∧Fits ws∧ks.length≤10∧(Yg ws ks=none→∀ H',Same H H'→Q .non H')∧(∀ vs,Yg ws ks=some vs→∀ l H',Same H H'→H' l=some (.lst vs)→Q (.ref l) H')
abbrev nPs:List Str:=["words","kinds","whole","parts"]
abbrev Zem:List Str:=["words","kinds"]
theorem scPs:Zs nPs Zem (Zj s_parts_from):=⟨rfl,rfl,rfl,by decide +kernel,rfl,by decide +kernel,by decide +kernel⟩
theorem ZhJ {f:Addr}{fd:FuncData}(F:Fun K "parts_from" "parts_from" s_parts_from f fd)(T:ZZ mg)(DWw:Def P w K mg base 4 "whole_words" ZgP spWW)(DPf:Def P w K mg base 4 "part_from" Zie spPF):FnOk P w K mg base ZV 5 f fd Zem ZhT:=by
 refine F.ok scPs (fun vs H Q E h=>?_) (fun cdv A outer s H vs Q E hr h=>?_)
 · obtain ⟨a,b,_,_,rfl,_⟩:=h;rfl
 obtain ⟨a,b,ws,ks,rfl,ea,eb,hf,hks,q1,q2⟩:=h
 refine' ⟨?t,?h,?r⟩
 case h =>
   conv=>arg 2;whnf
   with_reducible refine' (Ze ?h1 (Ze (ZS ?h2 (Zi ?h3) ZE) (Ze ?h4 (Zi ?h5))))
   case h1=>exact Zr (i:=2) scPs.nd rfl (Or.inl rfl) (Zq DWw hr (Zb (pv 0) (Zb (pv 1) Za)))
   case h2=>exact ZA UX (Zm ZK rfl T.len PySem.boot_len (Zb (pv 2) Za)) (Zm ZK rfl T.len PySem.boot_len (Zb (pv 1) Za)) (ZC _)
   case h3=>exact Zp YI
   case h4=>exact VO (i:=3) (xa:="word") (xb:="kind") (CompOkT.of nPs s_parts_from rfl rfl (by decide +kernel)) rfl scPs.nd rfl (Or.inl rfl) (ZeZ rfl T.zip (pv 2) (pv 1)) (fun _ _ _ _ _=>Zbk (K:=K) rfl rfl (Zw (i:=4) (show (Wl nPs "word" "kind"++(["word","kind"]:List Str)).Nodup by decide +kernel) rfl (Or.inl rfl) (Or.inr rfl)) (Zw (i:=5) (show (Wl nPs "word" "kind"++(["word","kind"]:List Str)).Nodup by decide +kernel) rfl (Or.inl rfl) (Or.inr rfl)))  (fun _ _ _ _ _=>Zq DPf hr (Zb (pv 4) (Zb (pv 5) Za))) rfl
   case h5=>exact Zp (Yz (ZA Wc YI (pv 3) rfl) YI (pv 3))
 refine ⟨_,rfl,_,rfl,a,b,ws,ks,rfl,ea,eb,hf,hks,fun l H1 s1 el=>?_⟩
 refine ⟨_,rfl,l,_,rfl,.inl (SqL.of el),_,rfl,b,_,rfl,.inl (SqL.of (s1 _ _ eb)),rfl,_,rfl,?_⟩
 rw [List.length_map,List.length_map]
 by_cases c1:(Yy ws ks).length=ks.length
 · rw [decide_eq_true (by rw [c1])]
   refine ZD ⟨_,rfl,_,rfl,l,b,_,_,rfl,el,s1 _ _ eb,fun D hD=>?_⟩
   have hkl:ks.length≤100000:=by omega
   refine ZbG (K:=K) (xs:=(Yy ws ks).map V.str) (zs:=ks.map V.str) (Zv (show _≤100000 by rw [List.length_map];omega)) (by rw [List.length_map,List.length_map,c1]) (fun i ys H'=>Same H H'∧H' D=some (.lst ys)∧ys=(Xk ws ks).take i∧i≤ks.length∧H' l=some (.lst ((Yy ws ks).map V.str))) ⟨(s1.trans (Zh hD _)),Zc,by rw [List.take_zero],Nat.zero_le _,Zh hD _ _ _ el⟩ ?_ ?_ ?_
   · rintro i ys H' ⟨s2,_,rfl,hi,el2⟩
     have:(Xk ws ks).length=ks.length:=by unfold Xk;rw [List.length_zipWith,c1,Nat.min_self]
     exact ⟨by rw [List.length_take,this];omega,SqL.of el2,SqL.of (s2 _ _ eb)⟩
   · rintro i x z t ys H' wa wb hx hz ht ⟨s2,eD,rfl,hi,el2⟩
     rw [List.getElem?_map] at hx hz
     obtain ⟨u,eu,rfl⟩:=Option.map_eq_some_iff.mp hx
     obtain ⟨k,ek,rfl⟩:=Option.map_eq_some_iff.mp hz
     have s3:=Zh ht (.tup [.str u,.str k])
     refine ⟨t,_,rfl,SqT.of Zc,rfl,_,_,rfl,_,_,rfl,rfl,⟨_,_,rfl⟩,_,rfl,_,rfl,u,k,rfl,Zhs hf u (List.mem_of_getElem? eu),fun H4 s4=>?_⟩
     have hlD:l≠D:=fun z=>by rw [z,hD] at el;cases el
     refine ⟨s4 _ _ (s3 _ _ eD),fun c o e=>?_,Zc,?_,(List.getElem?_eq_some_iff.mp ek).1,?_⟩
     · rw [Zo (Zy (s1 _ _ e) hD)];exact s4 _ _ (s3 _ _ (s2 _ _ e))
     · rw [List.take_add_one]
       congr 1
       unfold Xk
       rw [List.getElem?_zipWith,eu,ek];rfl
     · rw [Zo hlD];exact s4 _ _ (s3 _ _ el2)
   · rintro ys H' ⟨s2,eD,rfl,hi,el2⟩
     have hpl:(Xk ws ks).length=(Yy ws ks).length:=by unfold Xk;rw [List.length_zipWith,c1,Nat.min_self]
     rw [List.length_map,← hpl,List.take_length] at eD
     refine ⟨_,rfl,D,_,rfl,.inl (SqL.of eD),rfl,?_,_,rfl,?_⟩
     · unfold Xk
       rw [List.all_eq_true]
       intro v hv
       obtain ⟨i,hi,rfl⟩:=List.getElem_of_mem hv
       rw [List.getElem_zipWith]
       exact Zer _ _
     · show if YG .non (Xk ws ks)=true then _ else _
       cases e:YG .non (Xk ws ks) with
       | true=>exact ZQ (q1 (by unfold Yg;rw [if_pos c1,e,if_pos rfl]) H' s2)
       | false=>exact ZD ⟨_,rfl,q2 _ (by unfold Yg;rw [if_pos c1,e,if_neg (by decide)]) D H' s2 eD⟩
 · rw [decide_eq_false (fun z=>c1 (by injection z with z;omega))]
   exact ZQ (q1 (by unfold Yg;rw [if_neg c1]) H1 s1)
def unS:V→Str
 | .str x=>x
 | _=>""
theorem ZiS {x:Str}{xs:List V}(h:Wk x=some xs):xs=(xs.map unS).map V.str∧xs.length≤3:=by
 unfold Wk at h
 obtain ⟨ys,e,rfl⟩:=Option.map_eq_some_iff.mp h
 have all:∀ p∈XD,(p.2.filter fun v=>!decide (v=.str "program"))=((p.2.filter fun v=>!decide (v=.str "program")).map unS).map V.str:=by decide +kernel
 have mem:∀ (D:List (Str×List V)),PyProof.Rows.KTD.datumAt x D=some ys→∃ p∈D,p.2=ys:=by
   intro D
   induction D with
   | nil=>intro h;cases h
   | cons p D ih =>
     intro h
     rw [PyProof.Rows.KTD.datumAt] at h
     split at h
     · cases h;exact ⟨p,List.mem_cons_self,rfl⟩
     · obtain ⟨q,hq,e⟩:=ih h;exact ⟨q,List.mem_cons_of_mem _ hq,e⟩
 obtain ⟨p,hp,rfl⟩:=mem _ e
 exact ⟨all p hp,Nat.le_trans (List.length_filter_le _ _) (ZaK e).1⟩
def Zat (row:Str):Option (List V):=match Txt.split row (Str.ofString " ") with
 | []=>none
 | w0::ws=>match Wk w0 with
   | none=>none
   | some xs=>(Yg ws (xs.map unS)).map (V.str w0::·)
theorem Zbs {ws ks:List Str}{vs:List V}(h:Yg ws ks=some vs):vs.length=ks.length:=by
 unfold Yg at h
 split at h
 · rename_i c
   split at h
   · cases h
   · cases h;unfold Xk;rw [List.length_zipWith,c,Nat.min_self]
 · cases h
theorem Xz {H H':Hp}{p:Addr}(s:Same H H')(h:H' p=none):H p=none:=by
 cases e:H p with
 | none=>rfl
 | some o=>rw [s _ _ e] at h;cases h
def spHF:Sp:=fun vs H Q _=>∃ row:Str,vs=[.str row]∧row.length≤90000∧(Zat row=none→∀ H',Same H H'→Q .non H')∧(∀ hs,Zat row=some hs→∀ a H',Same H H'→H a=none→H' a=some (.tup hs)→Q (.ref a) H')
abbrev nHf:List Str:=["row","word","words","parts"]
abbrev ZgM:List Str:=["row"]
theorem scHf:Zs nHf ZgM (Zj s_head_from):=⟨rfl,rfl,rfl,by decide +kernel,rfl,by decide +kernel,by decide +kernel⟩
theorem ZgQ {f:Addr}{fd:FuncData}(F:Fun K "head_from" "head_from" s_head_from f fd)(T:ZZ mg)(DKi:Def P w K mg base 5 "kinds_of" Zdb (VI K))(DKR:Def P w K mg base 5 "kinds_in_row" ZgD (spKR K))(DPs:Def P w K mg base 5 "parts_from" Zem ZhT):FnOk P w K mg base ZV 6 f fd ZgM spHF:=by
 refine F.ok scHf (fun vs H Q E h=>?_) (fun cdv A outer s H vs Q E hr h=>?_)
 · obtain ⟨a,rfl,_⟩:=h;rfl
 obtain ⟨row,rfl,hr0,q1,q2⟩:=h
 refine' ⟨?t,?h,?r⟩
 case h =>
   conv=>arg 2;whnf
   with_reducible refine' (Ze ?h1 (Ze (ZS ?h2 (Zi ?h3) ZE) (Ze ?h4 (Zi ?h5))))
   case h1=>exact Ui (Yc PySem.F.plainAttrs_str PySem.F.slot_str_split PySem.F.type_str_split Va (pv 0) (Zb Zk Za)) (ZaY rfl (Zw (i:=1) scHf.nd rfl (Or.inl rfl)) (Zw (i:=2) scHf.nd rfl (Or.inl rfl)))
   case h2=>exact WG (WE (Zq DKi hr (Zb (pv 1) Za)))
   case h3=>exact Zp YI
   case h4=>exact Zr (i:=3) scHf.nd rfl (Or.inl rfl) (Zq DPs hr (Zb (pv 2) (Zb (Zq DKR hr (Zb (pv 1) Za)) Za)))
   case h5=>exact Zp (Yz (WG (WE (pv 3))) YI (Zl ZdI (ZI (Zb (pv 1) Za)) (ZY Xm rfl T.tuple (by decide +kernel) (Zb (pv 3) Za))))
 refine ⟨_,rfl,rfl,row,_,rfl,rfl,(by decide +kernel),by omega,fun l hl=>?_⟩
 have hw:=PyProof.Rows.split_weight row (Str.ofString " ") (by decide +kernel)
 unfold Zat at q1 q2
 cases e:Txt.split row (Str.ofString " ") with
 | nil=>exact absurd e (YY _ _)
 | cons w0 ws =>
   rw [e] at hw q1 q2
   simp only [List.map_cons,List.sum_cons,List.length_cons] at hw
   have hfit:Fits ws:=by unfold Fits;omega
   refine ⟨l,.str w0,ws.map V.str,rfl,SqL.of Zc,by rw [List.length_map];omega,fun D hD=>?_⟩
   have s0:Same H (upd (upd H l (.lst ((w0::ws).map V.str))) D (.lst (ws.map V.str))):=(Zh hl _).trans (Zh hD _)
   have eD:upd (upd H l (.lst ((w0::ws).map V.str))) D (.lst (ws.map V.str)) D=_:=Zc
   generalize upd (upd H l (.lst ((w0::ws).map V.str))) D (.lst (ws.map V.str))=H1 at s0 eD ⊢
   refine ⟨_,rfl,w0,rfl,fun b xs e1 e2=>?_,fun e1=>?_⟩
   · refine ⟨_,rfl,ZD ?_⟩
     have hk:Wk w0=some (xs.filter fun v=>!decide (v=.str "program")):=by unfold Wk;rw [e1];rfl
     obtain ⟨k1,k2⟩:=ZiS hk
     simp only [hk] at q1 q2
     generalize (xs.filter fun v=>!decide (v=V.str "program"))=zs at hk k1 k2 q1 q2
     refine ⟨_,rfl,_,rfl,w0,zs,rfl,hk,fun l2 H2 s2 hl2 el2=>?_⟩
     rw [k1] at el2
     refine ⟨D,l2,ws,zs.map unS,rfl,s2 _ _ eD,el2,hfit,by rw [List.length_map];omega,fun e3 H3 s3=>?_,fun vs e3 l3 H3 s3 el3=>?_⟩
     · refine ⟨_,rfl,_,rfl,ZQ (q1 (by rw [e3];rfl) H3 ((s0.trans s2).trans s3))⟩
     · refine ⟨_,rfl,_,rfl,ZD ?_⟩
       have hvl:vs.length≤3:=by rw [Zbs e3,List.length_map];exact k2
       have s3':=(s0.trans s2).trans s3
       refine ⟨_,rfl,(by show 1≤sizeLine;decide),fun p1 hp1=>?_⟩
       have s4:=Zh hp1 (.tup [V.str w0])
       refine ⟨_,rfl,l3,vs,rfl,.inl ⟨SqL.of (s4 _ _ el3),fun p2 hp2=>?_⟩⟩
       have s5:=Zh hp2 (.tup vs)
       refine ⟨p1,p2,[.str w0],vs,rfl,rfl,SqT.of (s5 _ _ Zc),SqT.of Zc,by simp,Zv (show _≤100000 by rw [List.length_singleton];omega),fun hv=>?_,fun hv p3 hp3=>?_⟩
       · subst hv
         exact q2 _ (by rw [e3];rfl) p1 _ ((s3'.trans s4).trans s5) (Xz s3' hp1) (s5 _ _ Zc)
       · exact q2 _ (by rw [e3];rfl) p3 _ (((s3'.trans s4).trans s5).trans (Zh hp3 _)) (Xz ((s3'.trans s4).trans s5) hp3) Zc
   · have hk:Wk w0=none:=by unfold Wk;rw [e1];rfl
     simp only [hk] at q1
     exact ⟨_,rfl,ZQ (q1 trivial H1 s0)⟩
end
end K72
set_option maxHeartbeats 4000000
namespace K72
open PySem L2
def _root_.L2.Pg.vl:Pg→List V
 | .set x v s=>[.str x,v,.str s]
 | .look x=>[.str x]
 | .slot _ s=>[.str s]
 | .pass=>[]
 | .blk _ _=>[]
 | .inn s _=>[.str s]
def _root_.L2.Pg.hv (p:Pg):List V:=.str p.word::p.vl
theorem Zgr {x:Str}(h:ZH x){c:Nat}(hc:UY c=false):c ∉ x.cps.toList:=fun m=>by
 have:=List.all_eq_true.mp h.2.2 c m
 rw [hc] at this;cases this
theorem Xi {x:Str}(h:ZH x):Txt.split x (Str.ofString " ")=[x]:=by rw [Uj];exact Vy (Zgr h (by decide))
theorem ZfV {p : Pg}(h:p.ok):Txt.split p.word (Str.ofString " ")=[p.word]:=by
 rw [Uj]
 refine Vy ?_
 cases p with
 | set x v s=>exact (show (32:Nat) ∉ (Str.ofString "set").cps.toList by decide +kernel)
 | look x=>exact (show (32:Nat) ∉ (Str.ofString "look").cps.toList by decide +kernel)
 | slot w s => rcases h.1 with rfl | rfl
               · exact (show (32:Nat) ∉ (Str.ofString "back").cps.toList by decide +kernel)
               · exact (show (32:Nat) ∉ (Str.ofString "copy").cps.toList by decide +kernel)
 | pass=>exact (show (32:Nat) ∉ (Str.ofString "pass").cps.toList by decide +kernel)
 | blk w ps => rcases h.1 with rfl | rfl
               · exact (show (32:Nat) ∉ (Str.ofString "begin").cps.toList by decide +kernel)
               · exact (show (32:Nat) ∉ (Str.ofString "late").cps.toList by decide +kernel)
 | inn s ps=>exact (show (32:Nat) ∉ (Str.ofString "in").cps.toList by decide +kernel)
theorem Zlr {p : Pg}(h:p.ok):Wk p.word=some (p.ks.map V.str):=by
 cases p with
 | set x v s=>exact (show Wk "set"=some ((["name","value","slot"]:List Str).map V.str) by decide +kernel)
 | look x=>exact (show Wk "look"=some ((["name"]:List Str).map V.str) by decide +kernel)
 | slot w s => rcases h.1 with rfl | rfl
               · exact (show Wk "back"=some ((["slot"]:List Str).map V.str) by decide +kernel)
               · exact (show Wk "copy"=some ((["slot"]:List Str).map V.str) by decide +kernel)
 | pass=>exact (show Wk "pass"=some (([]:List Str).map V.str) by decide +kernel)
 | blk w ps => rcases h.1 with rfl | rfl
               · exact (show Wk "begin"=some (([]:List Str).map V.str) by decide +kernel)
               · exact (show Wk "late"=some (([]:List Str).map V.str) by decide +kernel)
 | inn s ps=>exact (show Wk "in"=some ((["slot"]:List Str).map V.str) by decide +kernel)
theorem Zjt (ks:List Str):(ks.map V.str).map unS=ks:=by rw [List.map_map];exact List.map_id' ks
theorem XZ {x k:Str}(h:ZH x)(hk:k≠ZM):Yu x k=some (.str x):=by unfold Yu;rw [if_neg hk,if_pos (ZkY h)]
theorem UB {x k:Str}(h:ZH x)(hk:k≠ZM):Yg [x] [k]=some [.str x]:=by
 have hw:Yy [x] [k]=[x]:=by unfold Yy;rw [if_pos (.inr (Nat.le_refl _))]
 unfold Yg Xk
 rw [hw,if_pos (show [x].length=[k].length from rfl)]
 show (if YG .non [(Yu x k).getD .non]=true then none else some [(Yu x k).getD .non])=_
 rw [XZ h hk];rfl
theorem vl_ne:(Str.ofString "name")≠ZM∧(Str.ofString "slot")≠ZM:=⟨by decide +kernel,by decide +kernel⟩
theorem ZfW {x s:Str}{v:V}(hx:ZH x)(hv:IsVal v)(hs:ZH s):Yg (x::(Txt.split (ZJ v) (Str.ofString " ")++[s])) [Str.ofString "name",ZM,Str.ofString "slot"]=some [.str x,v,.str s]:=by
 have hj:Txt.join " " (Txt.split (ZJ v) (Str.ofString " "))=ZJ v:=by rw [tj];exact StrLaws.join_split _ _
 have hne:=YY (ZJ v) (Str.ofString " ")
 generalize Txt.split (ZJ v) (Str.ofString " ")=sv at hj hne
 have hix:([Str.ofString "name",ZM,Str.ofString "slot"]:List Str).idxOf ZM=1:=by decide +kernel
 have hmem:ZM∈([Str.ofString "name",ZM,Str.ofString "slot"]:List Str):=by decide +kernel
 have hw : Yy (x::(sv++[s])) [Str.ofString "name",ZM,Str.ofString "slot"]=[x,ZJ v,s]:=by
   unfold Yy Xw
   rw [hix]
   by_cases c:(x::(sv++[s])).length≤3
   · rw [if_pos (.inr c)]
     cases sv with
     | nil=>exact absurd rfl hne
     | cons a r =>
       cases r with
       | nil =>
         have:a=ZJ v:=by rw [tj] at hj;exact hj
         rw [this];rfl
       | cons b r=>simp at c
   · rw [if_neg (by rintro (z | z);exact z hmem;exact c z)]
     have hl:1+1+(x::(sv++[s])).length - [Str.ofString "name",ZM,Str.ofString "slot"].length=sv.length+1:=by simp;omega
     rw [hl]
     simp only [List.take_succ_cons,List.take_zero,List.drop_succ_cons,List.drop_zero,Nat.add_sub_cancel]
     rw [List.take_left,List.drop_left,hj];rfl
 unfold Yg Xk
 rw [hw,if_pos (show [x,ZJ v,s].length=[Str.ofString "name",ZM,Str.ofString "slot"].length from rfl)]
 show (if YG .non [(Yu x (Str.ofString "name")).getD .non,(Yu (ZJ v) ZM).getD .non,(Yu s (Str.ofString "slot")).getD .non]=true then none else some _)=_
 have e2:Yu (ZJ v) ZM=some v:=by unfold Yu;rw [if_pos rfl];exact Zbm hv
 simp only [XZ hx vl_ne.1,XZ hs vl_ne.2,e2,Option.getD_some]
 have hn:XL v .non=false:=by
   cases v with
   | int i=>rfl
   | str y=>rfl
   | _=>exact hv.elim
 rw [if_neg]
 · show some [(Yu x (Str.ofString "name")).getD .non,(Yu (ZJ v) ZM).getD .non,(Yu s (Str.ofString "slot")).getD .non]=_
   rw [XZ hx vl_ne.1,XZ hs vl_ne.2,e2];rfl
 · show ¬ (XL (.str x) .non || (XL v .non || (XL (.str s) .non || false)))=true
   rw [hn];exact Bool.false_ne_true
theorem ZdO {p:Pg}(h:p.ok):Zat p.srow=some p.hv:=by
 have hs:Txt.split p.srow (Str.ofString " ")=p.word::p.ws.flatMap fun w=>Txt.split w (Str.ofString " "):=by
   unfold Pg.srow
   rw [tj,Uj,UC (by simp),List.flatMap_cons,← Uj,ZfV h];rfl
 unfold Zat
 rw [hs]
 simp only [Zlr h,Zjt]
 show (Yg _ p.ks).map _=_
 cases p with
 | set x v s =>
   have e:(Pg.set x v s).ws.flatMap (fun w=>Txt.split w (Str.ofString " "))=x::(Txt.split (ZJ v) (Str.ofString " ")++[s]):=by
     show Txt.split x _++(Txt.split (ZJ v) _++(Txt.split s _++[]))=_
     rw [Xi h.1,Xi h.2.2];rfl
   rw [e]
   show (Yg _ [Str.ofString "name",ZM,Str.ofString "slot"]).map _=_
   rw [ZfW h.1 h.2.1 h.2.2];rfl
 | look x =>
   show (Yg (Txt.split x _++[]) [Str.ofString "name"]).map _=_
   rw [Xi h,List.append_nil,UB h vl_ne.1];rfl
 | slot w s =>
   show (Yg (Txt.split s _++[]) [Str.ofString "slot"]).map _=_
   rw [Xi h.2,List.append_nil,UB h.2 vl_ne.2];rfl
 | pass=>rfl
 | blk w ps=>rfl
 | inn s ps =>
   show (Yg (Txt.split s _++[]) [Str.ofString "slot"]).map _=_
   rw [Xi h.1,List.append_nil,UB h.1 vl_ne.2];rfl
def XM (l:Nat)(r:Str):Str:=⟨(List.replicate (2 * l) 32++r.cps.toList).toArray⟩
def YL (x:Nat×Pg):Str:=XM x.1 x.2.srow
mutual
def ZW (d:Nat):Pg→List (Nat×Pg)
 | .blk w ps=>(d,.blk w ps)::ZT (d+1) ps
 | .inn s ps=>(d,.inn s ps)::ZT (d+1) ps
 | .set x v s=>[(d,.set x v s)]
 | .look x=>[(d,.look x)]
 | .slot w s=>[(d,.slot w s)]
 | .pass=>[(d,.pass)]
def ZT (d:Nat):List Pg→List (Nat×Pg)
 | []=>[]
 | p::ps=>ZW d p++ZT d ps
end
theorem WX (l:Nat)(r:Str):Ux (XM l r)=XM (l+1) r:=by
 apply Ys
 show ((Str.ofString "  ")++XM l r).cps.toList=_
 rw [YR,show (Str.ofString "  ").cps.toList=[32,32] by decide +kernel]
 show [32,32]++(List.replicate (2 * l) 32++r.cps.toList)=List.replicate (2 * (l+1)) 32++r.cps.toList
 rw [show 2 * (l+1)=2 * l+1+1 by omega,List.replicate_succ,List.replicate_succ];rfl
theorem Ww (r:Str):XM 0 r=r:=Ys (by show List.replicate 0 32++_=_;rfl)
mutual
theorem ZjW:∀(d:Nat)(p:Pg),(ZW (d+1) p).map YL=((ZW d p).map YL).map Ux
 | d,.blk w ps=>by
   have ih:=UM (d+1) ps
   rw [ZW,ZW,List.map_cons,List.map_cons,List.map_cons,ih]
   congr 1;exact (WX d _).symm
 | d,.inn s ps=>by
   have ih:=UM (d+1) ps
   rw [ZW,ZW,List.map_cons,List.map_cons,List.map_cons,ih]
   congr 1;exact (WX d _).symm
 | d,.set x v s=>by rw [ZW,ZW];show [XM (d+1) _]=[Ux (XM d _)];rw [WX]
 | d,.look x=>by rw [ZW,ZW];show [XM (d+1) _]=[Ux (XM d _)];rw [WX]
 | d,.slot w s=>by rw [ZW,ZW];show [XM (d+1) _]=[Ux (XM d _)];rw [WX]
 | d,.pass=>by rw [ZW,ZW];show [XM (d+1) _]=[Ux (XM d _)];rw [WX]
theorem UM:∀(d:Nat)(ps:List Pg),(ZT (d+1) ps).map YL=((ZT d ps).map YL).map Ux
 | d,[]=>rfl
 | d,p::ps=>by
   have h1:=ZjW d p
   have h2:=UM d ps
   rw [ZT,ZT,List.map_append,List.map_append,List.map_append,h1,h2]
end
mutual
theorem Zla:∀ p:Pg,Vz p=(ZW 0 p).map YL
 | .blk w ps=>by
   have ih:=WZ ps
   rw [Xx,ZW,List.map_cons,UM 0,← ih]
   rw [show YL (0,Pg.blk w ps)=_ from Ww _];rfl
 | .inn s ps=>by
   have ih:=WZ ps
   rw [Xx,ZW,List.map_cons,UM 0,← ih]
   rw [show YL (0,Pg.inn s ps)=_ from Ww _];rfl
 | .set x v s=>by rw [ZW];show [Pg.srow _]=[XM 0 _];rw [Ww]
 | .look x=>by rw [ZW];show [Pg.srow _]=[XM 0 _];rw [Ww]
 | .slot w s=>by rw [ZW];show [Pg.srow _]=[XM 0 _];rw [Ww]
 | .pass=>by rw [ZW];show [Pg.srow _]=[XM 0 _];rw [Ww]
theorem WZ:∀ ps:List Pg,Yb ps=(ZT 0 ps).map YL
 | []=>rfl
 | p::ps=>by
   have h1:=Zla p
   have h2:=WZ ps
   rw [ZT,List.map_append,← h1,← h2];rfl
end
def VN:Nat→List (Nat×Pg)→Prop
 | _,[]=>True
 | m,(l,p)::r=>l≤m∧VN (if p.isB=true then l+1 else l) r
def Dm:List (Nat×Pg)→Nat→List Pg
 | [],_=>[]
 | (l,p)::r,k=>if k=l then p::Dm r l else if k=l+1∧p.isB=true then [] else Dm r k
def Wf:List (Nat×Pg)→Prop
 | []=>True
 | (l,p)::r=>(p.isB=true→Dm r (l+1)=p.inner)∧Wf r
mutual
theorem ZkU:∀(p:Pg)(d m:Nat)(S:List (Nat×Pg)),d≤m→(∀ m',d≤m'→VN m' S)→VN m (ZW d p++S)
 | .blk w ps,d,m,S,h,hS=>by rw [ZW];exact ⟨h,VE ps (d+1) (d+1) S (Nat.le_refl _) fun m' h'=>hS m' (by omega)⟩
 | .inn s ps,d,m,S,h,hS=>by rw [ZW];exact ⟨h,VE ps (d+1) (d+1) S (Nat.le_refl _) fun m' h'=>hS m' (by omega)⟩
 | .set x v s,d,m,S,h,hS=>by rw [ZW];exact ⟨h,hS d (Nat.le_refl _)⟩
 | .look x,d,m,S,h,hS=>by rw [ZW];exact ⟨h,hS d (Nat.le_refl _)⟩
 | .slot w s,d,m,S,h,hS=>by rw [ZW];exact ⟨h,hS d (Nat.le_refl _)⟩
 | .pass,d,m,S,h,hS=>by rw [ZW];exact ⟨h,hS d (Nat.le_refl _)⟩
theorem VE:∀(ps:List Pg)(d m:Nat)(S:List (Nat×Pg)),d≤m→(∀ m',d≤m'→VN m' S)→VN m (ZT d ps++S)
 | [],d,m,S,h,hS=>hS m h
 | p::ps,d,m,S,h,hS=>by
   rw [ZT,List.append_assoc]
   exact ZkU p d m _ h fun m' h'=>VE ps d m' S h' hS
end
mutual
theorem ZjZ:∀(p:Pg)(d:Nat)(S:List (Nat×Pg)),(∀ k,d < k→Dm S k=[])→Wf S→(∀ k,Dm (ZW d p++S) k=if k=d then p::Dm S d else Dm S k)∧Wf (ZW d p++S)
 | .blk w ps,d,S,h,hW=>by
   obtain ⟨h1,h2⟩:=VJ ps (d+1) S (fun k hk=>h k (by omega)) hW
   rw [ZW]
   have e1:=h1 (d+1)
   rw [if_pos rfl,h (d+1) (by omega),List.append_nil] at e1
   refine ⟨fun k=>?_,fun _=>e1,h2⟩
   show (if k=d then _::Dm (ZT (d+1) ps++S) d else if k=d+1∧_ then [] else Dm (ZT (d+1) ps++S) k)=_
   by_cases c:k=d
   · rw [if_pos c,if_pos c,h1 d,if_neg (by omega)]
   · rw [if_neg c,if_neg c]
     by_cases c2:k=d+1
     · rw [if_pos ⟨c2,rfl⟩,c2,h (d+1) (by omega)]
     · rw [if_neg (fun z=>c2 z.1),h1 k,if_neg c2]
 | .inn s ps,d,S,h,hW=>by
   obtain ⟨h1,h2⟩:=VJ ps (d+1) S (fun k hk=>h k (by omega)) hW
   rw [ZW]
   have e1:=h1 (d+1)
   rw [if_pos rfl,h (d+1) (by omega),List.append_nil] at e1
   refine ⟨fun k=>?_,fun _=>e1,h2⟩
   show (if k=d then _::Dm (ZT (d+1) ps++S) d else if k=d+1∧_ then [] else Dm (ZT (d+1) ps++S) k)=_
   by_cases c:k=d
   · rw [if_pos c,if_pos c,h1 d,if_neg (by omega)]
   · rw [if_neg c,if_neg c]
     by_cases c2:k=d+1
     · rw [if_pos ⟨c2,rfl⟩,c2,h (d+1) (by omega)]
     · rw [if_neg (fun z=>c2 z.1),h1 k,if_neg c2]
 | .set x v s,d,S,h,hW=>by rw [ZW];exact ⟨fun k=>by show (if k=d then _ else if k=d+1∧false=true then [] else Dm S k)=_;rw [if_neg (show ¬ (k=d+1∧false=true) from fun z=>nomatch z.2)];rfl,(show Wf ((d,_)::S) from ⟨fun z=>absurd z Bool.false_ne_true,hW⟩)⟩
 | .look x,d,S,h,hW=>by rw [ZW];exact ⟨fun k=>by show (if k=d then _ else if k=d+1∧false=true then [] else Dm S k)=_;rw [if_neg (show ¬ (k=d+1∧false=true) from fun z=>nomatch z.2)];rfl,(show Wf ((d,_)::S) from ⟨fun z=>absurd z Bool.false_ne_true,hW⟩)⟩
 | .slot w s,d,S,h,hW=>by rw [ZW];exact ⟨fun k=>by show (if k=d then _ else if k=d+1∧false=true then [] else Dm S k)=_;rw [if_neg (show ¬ (k=d+1∧false=true) from fun z=>nomatch z.2)];rfl,(show Wf ((d,_)::S) from ⟨fun z=>absurd z Bool.false_ne_true,hW⟩)⟩
 | .pass,d,S,h,hW=>by rw [ZW];exact ⟨fun k=>by show (if k=d then _ else if k=d+1∧false=true then [] else Dm S k)=_;rw [if_neg (show ¬ (k=d+1∧false=true) from fun z=>nomatch z.2)];rfl,(show Wf ((d,_)::S) from ⟨fun z=>absurd z Bool.false_ne_true,hW⟩)⟩
theorem VJ:∀(ps:List Pg)(d:Nat)(S:List (Nat×Pg)),(∀ k,d < k→Dm S k=[])→Wf S→(∀ k,Dm (ZT d ps++S) k=if k=d then ps++Dm S d else Dm S k)∧Wf (ZT d ps++S)
 | [],d,S,h,hW=>⟨fun k=>by by_cases c:k=d<;>simp [ZT,c],hW⟩
 | p::ps,d,S,h,hW=>by
   obtain ⟨h1,h2⟩:=VJ ps d S h hW
   obtain ⟨h3,h4⟩:=ZjZ p d (ZT d ps++S) (fun k hk=>by rw [h1 k,if_neg (by omega)];exact h k hk) h2
   rw [ZT,List.append_assoc]
   refine ⟨fun k=>?_,h4⟩
   rw [h3 k]
   by_cases c:k=d
   · rw [if_pos c,if_pos c,h1 d,if_pos rfl];rfl
   · rw [if_neg c,if_neg c,h1 k,if_neg c]
end
theorem ZdB (ps:List Pg):Dm (ZT 0 ps) 0=ps∧Wf (ZT 0 ps)∧VN 0 (ZT 0 ps):=by
 obtain ⟨h1,h2⟩:=VJ ps 0 [] (fun _ _=>rfl) trivial
 have h3:=VE ps 0 0 [] (Nat.le_refl _) fun _ _=>trivial
 rw [List.append_nil] at h1 h2 h3
 exact ⟨by rw [h1 0,if_pos rfl];exact List.append_nil _,h2,h3⟩
mutual
theorem Zjo:∀(p:Pg)(d:Nat),p.ok→∀ x∈ZW d p,x.2.ok∧x.1≤d+p.hgt
 | .blk w ps,d,h,x,hx=>by
   rw [ZW] at hx
   rcases List.mem_cons.mp hx with rfl | hx
   · exact ⟨h,Nat.le_add_right _ _⟩
   · have:=Wr ps (d+1) h.2 x hx
     exact ⟨this.1,by show _≤d+(Pg.hgts ps+1);omega⟩
 | .inn s ps,d,h,x,hx=>by
   rw [ZW] at hx
   rcases List.mem_cons.mp hx with rfl | hx
   · exact ⟨h,Nat.le_add_right _ _⟩
   · have:=Wr ps (d+1) h.2 x hx
     exact ⟨this.1,by show _≤d+(Pg.hgts ps+1);omega⟩
 | .set x v s,d,h,y,hx=>by rw [ZW] at hx;rw [List.mem_singleton.mp hx];exact ⟨h,Nat.le_add_right _ _⟩
 | .look x,d,h,y,hx=>by rw [ZW] at hx;rw [List.mem_singleton.mp hx];exact ⟨h,Nat.le_add_right _ _⟩
 | .slot w s,d,h,y,hx=>by rw [ZW] at hx;rw [List.mem_singleton.mp hx];exact ⟨h,Nat.le_add_right _ _⟩
 | .pass,d,h,y,hx=>by rw [ZW] at hx;rw [List.mem_singleton.mp hx];exact ⟨h,Nat.le_add_right _ _⟩
theorem Wr:∀(ps:List Pg)(d:Nat),Pg.oks ps→∀ x∈ZT d ps,x.2.ok∧x.1≤d+Pg.hgts ps
 | [],d,h,x,hx=>(nomatch hx)
 | p::ps,d,h,x,hx=>by
   rw [ZT] at hx
   have e:Pg.hgts (p::ps)=max p.hgt (Pg.hgts ps):=rfl
   rcases List.mem_append.mp hx with hx | hx
   · have:=Zjo p d h.1 x hx;exact ⟨this.1,by omega⟩
   · have:=Wr ps d h.2 x hx;exact ⟨this.1,by omega⟩
end
theorem ZcT (ps:List Pg):(ZT 0 ps).length=Pg.manys ps:=by
 have h:=congrArg List.length (WZ ps)
 rw [List.length_map,XC] at h;exact h.symm
end K72
set_option maxHeartbeats 4000000
namespace K72
open PySem L2
theorem ZeL {p : Pg}(h:p.ok):p.srow.cps.toList.head?≠some 32:=by
 have hw:∃ c r,p.word.cps.toList=c::r∧c≠32:=by
   cases p with
   | set x v s=>exact ⟨115,[101,116],(show (Str.ofString "set").cps.toList=_ by decide +kernel),by decide⟩
   | look x=>exact ⟨108,[111,111,107],(show (Str.ofString "look").cps.toList=_ by decide +kernel),by decide⟩
   | slot w s => rcases h.1 with rfl | rfl
                 · exact ⟨98,[97,99,107],(show (Str.ofString "back").cps.toList=_ by decide +kernel),by decide⟩
                 · exact ⟨99,[111,112,121],(show (Str.ofString "copy").cps.toList=_ by decide +kernel),by decide⟩
   | pass=>exact ⟨112,[97,115,115],(show (Str.ofString "pass").cps.toList=_ by decide +kernel),by decide⟩
   | blk w ps => rcases h.1 with rfl | rfl
                 · exact ⟨98,[101,103,105,110],(show (Str.ofString "begin").cps.toList=_ by decide +kernel),by decide⟩
                 · exact ⟨108,[97,116,101],(show (Str.ofString "late").cps.toList=_ by decide +kernel),by decide⟩
   | inn s ps=>exact ⟨105,[110],(show (Str.ofString "in").cps.toList=_ by decide +kernel),by decide⟩
 obtain ⟨c,r,e,hc⟩:=hw
 have:∃ r',p.srow.cps.toList=c::r':=by
   unfold Pg.srow
   rw [tj,Uj]
   cases p.ws with
   | nil=>exact ⟨r,e⟩
   | cons a b=>rw [YQ,e];exact ⟨_,rfl⟩
 obtain ⟨r',e'⟩:=this
 rw [e']
 intro z
 exact hc (by simpa using z)
theorem Zgg (p:Nat→Bool)(hp:p 32=true):∀(n:Nat)(l:List Nat),(List.replicate n 32++l).dropWhile p=l.dropWhile p
 | 0,l=>rfl
 | n+1,l=>by rw [List.replicate_succ,List.cons_append,List.dropWhile_cons,if_pos hp];exact Zgg p hp n l
theorem Zek {r:Str}(l:Nat)(h:r.cps.toList.head?≠some 32):Txt.lstripChars (XM l r) (Str.ofString " ")=r:=by
 apply Ys
 rw [ZcB,Uj]
 show (List.replicate (2 * l) 32++r.cps.toList).dropWhile _=_
 rw [Zgg _ (by simp)]
 cases e:r.cps.toList with
 | nil=>rfl
 | cons c t =>
   rw [e] at h
   rw [List.dropWhile_cons,if_neg]
   intro z
   have:c=32:=by simpa using z
   exact h (by rw [this];rfl)
theorem ZdJ (l:Nat)(r:Str):(XM l r).length=2 * l+r.length:=by
 show (List.replicate (2 * l) 32++r.cps.toList).toArray.size=_
 rw [List.size_toArray,List.length_append,List.length_replicate,← ZL]
theorem ZkF {b:Nat}(h:b≤1000):MulOk "  " (b:Int):=by
 refine ⟨?_,fun h1 _=>?_,fun h1 _=>?_⟩
 · rw [Bool.or_eq_false_iff];exact ⟨decide_eq_false (by omega),decide_eq_false (by omega)⟩
 · rw [show (Str.ofString "  ").length=2 by decide +kernel]
   have:(1000:Int)≤(2 ^ 63 - 1) / (b:Int):=by
     rw [Int.le_ediv_iff_mul_le (by omega)]
     omega
   omega
 · rw [show (Str.ofString "  ").length=2 by decide +kernel]
   have:2000≤sizeLine:=by decide
   exact decide_eq_false (by omega)
theorem ZbC:∀(n:Nat)(A:Array Nat),((List.replicate n (#[32,32]:Array Nat)).foldl (·++·) A).toList=A.toList++List.replicate (2 * n) 32
 | 0,A=>by simp
 | n+1,A=>by
   rw [List.replicate_succ,List.foldl_cons,ZbC n,show 2 * (n+1)=2 * n+1+1 by omega]
   simp [List.replicate_succ]
theorem Zfz (b:Nat):(Txt.mul (Str.ofString "  ") (b:Int)).cps.toList=List.replicate (2 * b) 32:=by
 unfold Txt.mul
 match b with
 | 0=>rfl
 | 1=>decide +kernel
 | n+2 =>
   rw [if_neg (by omega),if_neg (by rw [show ((((n+2:Nat)):Int) == 1)=false from decide_eq_false (by omega)];decide +kernel)]
   have:=ZbC (n+2) #[]
   rw [show ((((n+2:Nat)):Int)).toNat=n+2 by omega,show (Str.ofString "  ").cps=#[32,32] by decide +kernel]
   exact this
theorem ZdU (l:Nat)(r:Str):Txt.mul (Str.ofString "  ") (l:Int)++r=XM l r:=by
 apply Ys
 rw [YR,Zfz];rfl
def HdAt (H:Hp)(v:V)(x:Nat×Pg):Prop:=∃ t h,v=.ref t∧H t=some (.tup [.int (x.1:Int),.ref h])∧H h=some (.tup x.2.hv)
theorem HdAt.same {H H':Hp}{v:V}{x:Nat×Pg}(s:Same H H')(h:HdAt H v x):HdAt H' v x:=by
 obtain ⟨t,a,e1,e2,e3⟩:=h;exact ⟨t,a,e1,s _ _ e2,s _ _ e3⟩
theorem HdAt.tf {H H':Hp}{v:V}{x:Nat×Pg}(s:TF H H')(h:HdAt H v x):HdAt H' v x:=by
 obtain ⟨t,a,e1,e2,e3⟩:=h;exact ⟨t,a,e1,s.tup _ _ e2,s.tup _ _ e3⟩
inductive HdL (H:Hp):List V→List (Nat×Pg)→Prop
 | nil:HdL H [] []
 | cons {v x vs xs}:HdAt H v x→HdL H vs xs→HdL H (v::vs) (x::xs)
theorem HdL.tf {H H':Hp}(s:TF H H'):∀{vs xs},HdL H vs xs→HdL H' vs xs
 | _,_,.nil=>.nil
 | _,_,.cons a b=>.cons (a.tf s) (b.tf s)
theorem HdL.app {H:Hp}{v:V}{x:Nat×Pg}:∀{vs xs},HdL H vs xs→HdAt H v x→HdL H (vs++[v]) (xs++[x])
 | _,_,.nil,h=>.cons h .nil
 | _,_,.cons a b,h=>.cons a (b.app h)
theorem HdL.len {H:Hp}:∀{vs xs},HdL H vs xs→vs.length=xs.length
 | _,_,.nil=>rfl
 | _,_,.cons _ b=>by rw [List.length_cons,List.length_cons,b.len]
theorem HdL.at {H:Hp}:∀{vs xs}{i:Nat}{v:V},HdL H vs xs→vs[i]?=some v→∃ x,xs[i]?=some x∧HdAt H v x
 | _,_,_,_,.nil,h=>by simp at h
 | _,_,0,_,.cons a _,h=>by cases h;exact ⟨_,rfl,a⟩
 | _,_,i+1,_,.cons _ b,h=>HdL.at (i:=i) b h
theorem Zhm:∀{hs:List (Nat×Pg)}{i:Nat}{x:Nat×Pg}{m:Nat},hs[i]?=some x→VN m (hs.drop i)→x.1≤m∧VN (if x.2.isB=true then x.1+1 else x.1) (hs.drop (i+1)):=by
 intro hs i x m h ho
 obtain ⟨h1,h2⟩:=List.getElem?_eq_some_iff.mp h
 rw [List.drop_eq_getElem_cons h1,h2] at ho
 obtain ⟨l,p⟩:=x
 exact ho
section
variable {P:Program}{w:World}{K:PySem.W.Frag}{mg:Str→Option Value}{base:Heap}{tk:Tok}
def spHs:Sp:=fun vs H Q _=>∃(a:Addr)(k:Nat)(hs:List (Nat×Pg)),vs=[.ref a,.int (k:Int)]∧k≤1000∧H a=some (.lst ((hs.map YL).map V.str))∧(∀ x∈hs,x.2.ok∧x.1≤200)∧VN 0 hs∧hs.length≤1000∧∀ l vs H',Same H H'→H' l=some (.lst vs)→HdL H' vs hs→Q (.ref l) H'
abbrev nHs:List Str:=["rows","first","heads","most","number","row","words","level","head"]
abbrev ZhO:List Str:=["rows","first"]
theorem scHs:Zs nHs ZhO (Zj s_heads_from):=⟨rfl,rfl,rfl,by decide +kernel,rfl,by decide +kernel,by decide +kernel⟩
theorem ZfH {f:Addr}{fd:FuncData}(F:Fun K "heads_from" "heads_from" s_heads_from f fd)(T:ZZ mg)(hFI:mg "FURTHER_IN"=some (.str "  " tk))(DHf:Def P w K mg base 6 "head_from" ZgM spHF)(DHw:Def P w K mg base 6 "has_within" ZeC ZcC):FnOk P w K mg base ZV 7 f fd ZhO spHs:=by
 refine F.ok scHs (fun vs H Q E h=>?_) (fun cdv A outer s H vs Q E hr h=>?_)
 · obtain ⟨a,_,_,rfl,_⟩:=h;rfl
 obtain ⟨a,k,hs,rfl,hk,ea,hok,hH,hl,q⟩:=h
 refine' ⟨?t,?h,?r⟩
 case h =>
   conv=>arg 2;whnf
   with_reducible refine' (Ze ?h1 (Ze ?h2 (Ze (XE ?h3 ?h4 ?h5 ?h6 (Ze ?h7 (Ze ?h8 (Ze ?h9 (Ze (ZS ?h10 (Zi ZaD) ZE) (Ze ?h11 (Zi ?h12)))))) ?h13) (Zi ?h14))))
   case h1=>exact Zr (i:=2) scHs.nd rfl (Or.inl rfl) (ZF Za)
   case h2=>exact Zr (i:=3) scHs.nd rfl (Or.inl rfl) Zd
   case h3=>exact PassesOwn.never
   case h4=>exact rfl
   case h5=>exact ZcQ rfl T.enumerate (pv 0) (pv 1)
   case h6=>exact XO rfl (ZP (Zw (i:=4) scHs.nd rfl (Or.inl rfl)) (ZP (Zw (i:=5) scHs.nd rfl (Or.inl rfl)) Xo))
   case h7=>exact Zr (i:=6) scHs.nd rfl (Or.inl rfl) (Yc PySem.F.plainAttrs_str PySem.F.slot_str_lstrip PySem.F.type_str_lstrip Zgn (pv 5) (Zb Zk Za))
   case h8=>exact Zr (i:=7) scHs.nd rfl (Or.inl rfl) (Zl Zcl (Zl XA (Zm Xd rfl T.len PySem.boot_len (Zb (pv 5) Za)) (Zm Xd rfl T.len PySem.boot_len (Zb (pv 6) Za))) (Zm Xd rfl T.len PySem.boot_len (Zb (Wu rfl hFI (v:=.str "  ") ⟨_,rfl⟩) Za)))
   case h9=>exact Zr (i:=8) scHs.nd rfl (Or.inl rfl) (Zq DHf hr (Zb (pv 6) Za))
   case h10=>exact PW.pt (WP (WG (WE (pv 8))) (WP (ZA ZbQ (pv 7) (pv 3) (ZC _)) (Ud (ZA UX (pv 5) (Zl Yf (Zl Vf (Wu rfl hFI (v:=.str "  ") ⟨_,rfl⟩) (pv 7)) (pv 6)) (ZC _)))))
   case h11=>exact Yx (Yc PySem.F.plainAttrs_list PySem.F.slot_list_append PySem.F.type_list_append Yd (pv 2) (Zb (ZI (Zb (pv 7) (Zb (pv 8) Za))) Za))
   case h12=>exact Zr (i:=3) scHs.nd rfl (Or.inl rfl) (Yz (YJ (Zq DHw hr (Zb (ZB Xc (pv 8) Zd (fun _ _=>rfl)) Za))) (Zl Ye (pv 7) Zd) (pv 7))
   case h13=>exact fun _=>rfl
   case h14=>exact Zp (pv 2)
 refine ⟨(by show 0≤sizeLine;decide),fun l hl0=>?_⟩
 refine ⟨_,rfl,a,rfl,_,rfl,k,_,rfl,by omega,Zh hl0 _ _ _ ea,?_⟩
 refine Zbr (k:=k) (xs:=(hs.map YL).map V.str) (fun i σ H'=>∃ (m:Nat) (vs:List V) (x4 x5 x6 x7 x8:Option V),σ=[some (.ref a),some (.int (k:Int)),some (.ref l),some (.int (m:Int)),x4,x5,x6,x7,x8]∧Same H H'∧H' l=some (.lst vs)∧HdL H' vs (hs.take i)∧VN m (hs.drop i)) ⟨0,[],_,_,_,_,_,rfl,Zh hl0 _,Zc,.nil,hH⟩ (fun i σ H' _ ⟨_,_,_,_,_,_,_,_,s',_⟩=>SqL.of (s' _ _ ea)) ?_ ?_
 · rintro i x t σ H' hx ht ⟨m,vs,x4,x5,x6,x7,x8,rfl,s',el,hd,ho⟩
   rw [List.getElem?_map,List.getElem?_map] at hx
   obtain ⟨r,er,rfl⟩:=Option.map_eq_some_iff.mp hx
   obtain ⟨y,ey,rfl⟩:=Option.map_eq_some_iff.mp er
   obtain ⟨hp,hlv⟩:=hok y (List.mem_of_getElem? ey)
   have hsl:=XB hp
   obtain ⟨lv,p⟩:=y
   have hrl:(YL (lv,p)).length=2 * lv+p.srow.length:=ZdJ _ _
   have hlv:lv≤200:=hlv
   have hp:p.ok:=hp
   have hsl:p.srow.length≤500:=hsl
   obtain ⟨ho1,ho2⟩:=Zhm ey ho
   have ho1:lv≤m:=ho1
   have hil:i < hs.length:=(List.getElem?_eq_some_iff.mp ey).1
   have s1:=Zh ht (.tup [.int ((i+k:Nat):Int),.str (YL (lv,p))])
   refine ⟨t,_,rfl,SqT.of Zc,rfl,_,_,rfl,_,_,rfl,rfl,?_⟩
   generalize upd H' t (.tup [.int ((i+k:Nat):Int),.str (YL (lv,p))])=H1 at s1 ⊢
   refine ⟨_,rfl,rfl,_,_,rfl,rfl,by rw [hrl];omega,?_⟩
   rw [show Txt.lstripChars (YL (lv,p)) (Str.ofString " ")=p.srow from Zek lv (ZeL hp)]
   refine ⟨_,rfl,_,rfl,Zv (show _≤1000 by rw [hrl];omega),_,rfl,_,rfl,Zv (show _≤1000 by omega),_,_,rfl,rfl,_,rfl,(by decide +kernel),_,_,rfl,rfl,(by rw [show (Str.ofString "  ").length=2 by decide +kernel];exact ⟨by decide,by decide⟩),?_⟩
   dsimp only
   rw [show (((YL (lv,p)).length:Int) - (p.srow.length:Int)) / ((Str.ofString "  ").length:Int)=(lv:Int) by rw [show (Str.ofString "  ").length=2 by decide +kernel,hrl];omega]
   refine ⟨_,rfl,p.srow,rfl,by omega,fun z=>absurd z (by rw [ZdO hp];simp),fun hvs z h H2 s2 hh0 eh=>?_⟩
   rw [ZdO hp] at z
   cases z
   refine ⟨_,rfl,_,rfl,ZD ?_⟩
   refine ⟨_,rfl,_,rfl,_,_,rfl,rfl,_,rfl,?_⟩
   rw [decide_eq_false (show ¬ ((m:Int) < (lv:Int)) by omega)]
   refine ZD ⟨_,rfl,_,rfl,_,_,rfl,rfl,ZkF (by omega),_,rfl,_,_,rfl,rfl,?_,rfl,_,rfl,?_⟩
   · have e:=congrArg Str.length (ZdU lv p.srow)
     rw [Uf,ZdJ] at e
     exact Zv (show _≤1000 by omega)
   rw [ZdU,decide_eq_true (show V.str (YL (lv,p))=V.str (XM lv p.srow) from rfl)]
   refine ZD ?_
   refine ⟨_,rfl,.inl ⟨rfl,_,SqL.of (s2 _ _ (s1 _ _ el))⟩,_,rfl,_,rfl,(by show 2≤sizeLine;decide),fun pt hpt=>?_⟩
   dsimp only [YX]
   have s3:=Zh hpt (.tup [.int (lv:Int),.ref h])
   have ept:upd H2 pt (.tup [.int (lv:Int),.ref h]) pt=_:=Zc
   have el2:=s3 _ _ (s2 _ _ (s1 _ _ el))
   have eh2:=s3 _ _ eh
   have hd2:=hd.tf ((s1.trans s2).trans s3).tf
   have s03:Same H _:=((s'.trans s1).trans s2).trans s3
   generalize upd H2 pt (.tup [.int (lv:Int),.ref h])=H3 at s03 ept el2 eh2 hd2 ⊢
   have hvl:=hd2.len
   refine ⟨l,_,_,rfl,rfl,el2,Xy (show _≤1000 by rw [hvl,List.length_take];omega),?_⟩
   have t4:TF H3 (upd H3 l (.lst (vs++[.ref pt]))):=Zgl el2
   have s4:Same H (upd H3 l (.lst (vs++[.ref pt]))):=US s03 hl0
   have el4:upd H3 l (.lst (vs++[.ref pt])) l=_:=Zc
   generalize upd H3 l (.lst (vs++[.ref pt]))=H4 at t4 s4 el4 ⊢
   have hd4:HdL H4 (vs++[.ref pt]) (hs.take (i+1)):=by
     rw [List.take_add_one,ey]
     exact (hd2.tf t4).app ⟨pt,h,rfl,t4.tup _ _ ept,t4.tup _ _ eh2⟩
   refine ⟨_,rfl,h,_,_,_,rfl,rfl,SqT.of (t4.tup _ _ eh2),Zx (j:=0) rfl,p.word,p.isB,rfl,ZdE hp,_,rfl,?_⟩
   cases hb:p.isB with
   | true =>
     rw [if_pos hb] at ho2
     exact ZQ ⟨_,rfl,_,_,rfl,rfl,lv+1,_,_,_,_,_,_,rfl,s4,el4,hd4,ho2⟩
   | false =>
     rw [if_neg (by rw [hb];decide)] at ho2
     exact ZD ⟨_,rfl,lv,_,_,_,_,_,_,rfl,s4,el4,hd4,ho2⟩
 · rintro σ H' ⟨m,vs,x4,x5,x6,x7,x8,rfl,s',el,hd,ho⟩
   rw [List.length_map,List.length_map,List.take_length] at hd
   exact ⟨_,rfl,q l vs H' s' el hd⟩
end
end K72
set_option maxHeartbeats 4000000
namespace K72
open PySem L2
theorem ZbH {κ:Type}[DecidableEq κ](k j:κ):∀ kvs:List (κ×V),Yj (Xt kvs k) j=if j=k then none else Yj kvs j
 | []=>by split<;>rfl
 | p :: r=>by
   have ih:=ZbH k j r
   by_cases hp:p.1=k
   · have e:Xt (p::r) k=Xt r k:=by simp [Xt,hp]
     rw [e,ih]
     by_cases hj:j=k
     · rw [if_pos hj,if_pos hj]
     · rw [if_neg hj,if_neg hj,Yv (by rw [hp];exact fun z=>hj z.symm)]
   · have e:Xt (p::r) k=p::Xt r k:=by simp [Xt,hp]
     rw [e]
     by_cases hj:p.1=j
     · rw [YB hj,YB hj,if_neg (by rw [← hj];exact hp)]
     · rw [Yv hj,Yv hj,ih]
theorem Zjz {κ:Type}[DecidableEq κ](kvs:List (κ×V))(k:κ)(v:V):(XS kvs k v).length≤kvs.length+1:=by
 unfold XS;split<;>simp
theorem ZhW {κ:Type}[DecidableEq κ](kvs:List (κ×V))(k:κ):(Xt kvs k).length≤kvs.length:=List.length_filter_le _ _
abbrev kI (n:Nat):ZU:=.inl (n:Int)
theorem kI_inj {a b:Nat}:kI a=kI b↔a=b:=by
 constructor
 · intro h;injection h with h;omega
 · rintro rfl;rfl
def LvAt (K:PySem.W.Frag)(H:Hp)(d:Addr)(o:Option V)(ps:List Pg):Prop:=match o with
 | none=>ps=[]
 | some v=>∃ a xs,v=.ref a∧a≠d∧H a=some (.lst xs)∧DatTs K H xs (Pg.dats ps)
theorem LvAt.same {K:PySem.W.Frag}{H H':Hp}{d:Addr}{o:Option V}{ps:List Pg}(s:Same H H')(h:LvAt K H d o ps):LvAt K H' d o ps:=by
 cases o with
 | none=>exact h
 | some v=>obtain ⟨a,xs,e1,e2,e3,e5⟩:=h;exact ⟨a,xs,e1,e2,s _ _ e3,e5.same s⟩
theorem LvAt.upd {K:PySem.W.Frag}{H:Hp}{d:Addr}{kvs:List (ZU×V)}{o:Option V}{ps:List Pg}{u:HO}(e:H d=some (.dK kvs))(h:LvAt K H d o ps):LvAt K (upd H d u) d o ps:=by
 cases o with
 | none=>exact h
 | some v=>obtain ⟨a,xs,e1,e2,e3,e5⟩:=h;exact ⟨a,xs,e1,e2,by rw [Zo e2];exact e3,e5.tf (UN e)⟩
theorem ZjM {K:PySem.W.Frag}{H:Hp}{p:Pg}(hp:p.ok)(hb:p.isB=false){a:Addr}(h:SqT K H a p.hv):DatT K H (.ref a) p.dat:=by
 have vv:∀ v,IsVal v→DatT K H v (XT v):=fun v hv=>by
   cases v with
   | int i=>exact .int i
   | str x=>exact .str x
   | _=>exact hv.elim
 cases p with
 | set x v s=>exact .tup h (.cons (.str _) (.cons (.str _) (.cons (vv v hp.2.1) (.cons (.str _) .nil))))
 | look x=>exact .tup h (.cons (.str _) (.cons (.str _) .nil))
 | slot w s=>exact .tup h (.cons (.str _) (.cons (.str _) .nil))
 | pass=>exact .tup h (.cons (.str _) .nil)
 | blk w ps=>cases hb
 | inn s ps=>cases hb
theorem Zjb {K:PySem.W.Frag}{H:Hp}{p:Pg}(hb:p.isB=true){a t:Addr}{xs:List V}(h:SqT K H a (p.hv++[.ref t]))(ht:SqT K H t xs)(hd:DatTs K H xs (Pg.dats p.inner)):DatT K H (.ref a) p.dat:=by
 cases p with
 | set x v s=>cases hb
 | look x=>cases hb
 | slot w s=>cases hb
 | pass=>cases hb
 | blk w ps=>exact .tup h (.cons (.str _) (.cons (.tup ht hd) .nil))
 | inn s ps=>exact .tup h (.cons (.str _) (.cons (.str _) (.cons (.tup ht hd) .nil)))
theorem ZdD:∀{hs:List (Nat×Pg)}{i:Nat},Wf hs→Wf (hs.drop i)
 | hs,0,h=>h
 | [],i+1,h=>h
 | (l,p)::r,i+1,h=>ZdD (hs:=r) (i:=i) h.2
theorem Zcp:∀(S:List (Nat×Pg))(k:Nat),(Dm S k).length≤S.length
 | [],_=>Nat.le_refl _
 | (l,p)::r,k=>by
   have h1:=Zcp r l
   have h2:=Zcp r k
   rw [Dm]
   split
   · rw [List.length_cons,List.length_cons];omega
   · split
     · exact Nat.zero_le _
     · rw [List.length_cons];omega
theorem ZfM {K:PySem.W.Frag}{H:Hp}{d:Addr}{kvs:List (ZU×V)}{M:Nat→List Pg}{σ:St}{i:Nat}{ty:TE}{k:Nat}{Q:VK}(h1:σ[i]?=some (some (.ref d)))(hy:∀ H' R,R (.int (k:Int)) H'→ty σ H' R)(e:H d=some (.dK kvs))(hM:∀ k,LvAt K H d (Yj kvs (kI k)) (M k))
   (q:∀ b xs H2,Same H H2→b≠d→H2 b=some (.lst xs)→DatTs K H2 xs (Pg.dats (M k))→Q (.ref b) H2):ZfN (Vc i) ty (Zhv YX) σ H Q:=by
 refine ⟨_,h1,d,rfl,.inl ⟨_,.inl e⟩,hy _ _ ⟨(by show 0≤sizeLine;decide),fun l hl=>?_⟩⟩
 have s1:=Zh hl (.lst [])
 refine ⟨Yj kvs (kI k),.inl ⟨kvs,kI k,.inl (s1 _ _ e),rfl,rfl⟩,?_⟩
 have hk:=hM k
 cases ev:Yj kvs (kI k) with
 | none =>
   rw [ev] at hk
   have hk:M k=[]:=hk
   exact q l [] _ s1 (fun z=>by rw [z,e] at hl;cases hl) Zc (by rw [hk];exact .nil)
 | some v =>
   rw [ev] at hk
   obtain ⟨b,xs,rfl,e2,e3,e5⟩:=hk
   exact q b xs _ s1 e2 (s1 _ _ e3) (e5.same s1)
theorem Zkx {K:PySem.W.Frag}{H:Hp}{d:Addr}{kvs:List (ZU×V)}{M:Nat→List Pg}{σ:St}{i:Nat}{ty:TE}{k n:Nat}{Q:VK}(h1:σ[i]?=some (some (.ref d)))(hy:∀ H' R,R (.int (k:Int)) H'→ty σ H' R)(e:H d=some (.dK kvs))(hn:kvs.length≤n)(hM:∀ k,LvAt K H d (Yj kvs (kI k)) (M k))
   (q:∀ b xs kvs' H2,TF H H2→(∀ c o,c≠d→H c=some o→H2 c=some o)→H2 d=some (.dK kvs')→kvs'.length≤n→(∀ j,LvAt K H2 d (Yj kvs' (kI j)) (if j=k then [] else M j))→b≠d→H2 b=some (.lst xs)→DatTs K H2 xs (Pg.dats (M k))→Q (.ref b) H2):Zfv (Vc i) ty (Zhv YX) σ H Q:=by
 refine ⟨_,h1,d,rfl,.inl ⟨_,.inl e⟩,hy _ _ ⟨(by show 0≤sizeLine;decide),fun l hl=>?_⟩⟩
 have s1:=Zh hl (.lst [])
 have hl1:upd H l (.lst []) l=some (.lst []):=Zc
 have hld:l≠d:=fun z=>by rw [z,e] at hl;cases hl
 have e1:=s1 _ _ e
 generalize upd H l (.lst [])=H1 at s1 hl1 e1 ⊢
 have hk:=hM k
 refine ⟨kvs,kI k,e1,rfl,fun v ev=>?_,fun ev=>?_⟩
 · rw [ev] at hk
   obtain ⟨b,xs,rfl,e2,e3,e5⟩:=hk
   refine q b xs (Xt kvs (kI k)) _ (s1.tf.trans (UN e1)) (fun c o hc z=>by rw [Zo hc];exact s1 _ _ z) Zc (Nat.le_trans (ZhW _ _) hn) (fun j=>?_) e2 (by rw [Zo e2];exact s1 _ _ e3) (e5.tf (s1.tf.trans (UN e1)))
   rw [ZbH]
   by_cases c:j=k
   · rw [if_pos (by rw [c]),if_pos c];rfl
   · rw [if_neg (fun z=>c (kI_inj.mp z)),if_neg c]
     exact ((hM j).same s1).upd e1
 · rw [ev] at hk
   have hk:M k=[]:=hk
   refine q l [] kvs H1 s1.tf (fun c o hc z=>s1 _ _ z) e1 hn (fun j=>?_) hld hl1 (by rw [hk];exact .nil)
   by_cases c:j=k
   · rw [if_pos c,c,ev];rfl
   · rw [if_neg c];exact (hM j).same s1
section
variable {P:Program}{w:World}{K:PySem.W.Frag}{mg:Str→Option Value}{base:Heap}{tk:Tok}
def spPo (K:PySem.W.Frag):Sp:=fun vs H Q _=>∃(a:Addr)(us:List V)(ps:List Pg),vs=[.ref a]∧H a=some (.lst us)∧HdL H us (ZT 0 ps)∧Pg.oks ps∧Pg.manys ps≤1000∧∀ t H',Same H H'→DatT K H' t (.tuple (Pg.dats ps))→Q t H'
abbrev nPo:List Str:=["heads","steps_at","level","head","step"]
abbrev ZgH:List Str:=["heads"]
theorem scPo:Zs nPo ZgH (Zj s_program_of):=⟨rfl,rfl,rfl,by decide +kernel,rfl,by decide +kernel,by decide +kernel⟩
theorem ZeU {f:Addr}{fd:FuncData}(F:Fun K "program_of" "program_of" s_program_of f fd)(T:ZZ mg)(DHw:Def P w K mg base 2 "has_within" ZeC ZcC):FnOk P w K mg base ZV 3 f fd ZgH (spPo K):=by
 refine F.ok scPo (fun vs H Q E h=>?_) (fun cdv A outer s H vs Q E hr h=>?_)
 · obtain ⟨a,_,_,rfl,_⟩:=h;rfl
 obtain ⟨a,us,ps,rfl,ea,hd,ho,hm,q⟩:=h
 refine' ⟨?t,?h,?r⟩
 case h =>
   conv=>arg 2;whnf
   with_reducible refine' (Ze ?h1 (Ze (XE ?h2 ?h3 ?h4 ?h5 (Ze ?h6 (WY (ZS ?h7 (Zi ?h8) ZE) (Zi ?h9))) ?h10) (Zi ?h11)))
   case h1=>exact Zr (i:=1) scPo.nd rfl (Or.inl rfl) ZgK
   case h2=>exact PassesOwn.never
   case h3=>exact rfl
   case h4=>exact Xp (Zds (pv 0))
   case h5=>exact XO rfl (ZP (Zw (i:=2) scPo.nd rfl (Or.inl rfl)) (ZP (Zw (i:=3) scPo.nd rfl (Or.inl rfl)) Xo))
   case h6=>exact Zr (i:=4) scPo.nd rfl (Or.inl rfl) (pv 3)
   case h7=>exact YJ (Zq DHw hr (Zb (ZB Xc (pv 3) Zd (fun _ _=>rfl)) Za))
   case h8=>exact Zr (i:=4) scPo.nd rfl (Or.inl rfl) (Zl ZdI (pv 3) (ZI (Zb (ZY Xm rfl T.tuple (by decide +kernel) (Zb (ZgS (pv 1) (Zl Ye (pv 2) Zd) (ZF Za) ⟨rfl,rfl,rfl,rfl⟩) Za)) Za)))
   case h9=>exact ZiO (Zej hr) (pv 1) (pv 2) (Zl Wg (ZF (Zb (pv 4) Za)) (Zcw (Zej hr) (pv 1) (pv 2) (ZF Za) ⟨rfl,rfl,rfl,rfl⟩)) rfl
   case h10=>exact fun _=>rfl
   case h11=>exact Zp (ZY Xm rfl T.tuple (by decide +kernel) (Zb (Zcw (Zej hr) (pv 1) Zd (ZF Za) ⟨rfl,rfl,rfl,rfl⟩) Za))
 obtain ⟨pd1,pd2,_⟩:=ZdB ps
 have hlen:(ZT 0 ps).length≤1000:=by rw [ZcT];exact hm
 have hall:=Wr ps 0 ho
 generalize ZT 0 ps=hs at hd pd1 pd2 hlen hall
 have hul:=hd.len
 intro d hd0
 have hed:upd H d (.dK []) d=some (.dK []):=Zc
 have sd:=Zh hd0 (.dK [])
 refine ⟨_,rfl,a,us,rfl,SqL.of (sd _ _ ea),fun rv hrv0=>?_⟩
 refine ⟨rv,rfl,⟨_,SqL.of Zc⟩,?_⟩
 have srv:=Zh hrv0 (.lst us.reverse)
 have hrd:rv≠d:=fun z=>by rw [z,hed] at hrv0;cases hrv0
 refine UT (xs:=us.reverse) (fun i σ H'=>∃ (x2 x3 x4:Option V) (kvs:List (ZU×V)),σ=[some (.ref a),some (.ref d),x2,x3,x4]∧Same H H'∧H' rv=some (.lst us.reverse)∧H' d=some (.dK kvs)∧kvs.length≤i∧∀ k,LvAt K H' d (Yj kvs (kI k)) (Dm (hs.drop (hs.length - i)) k)) ⟨_,_,_,[],rfl,sd.trans srv,Zc,srv _ _ hed,Nat.le_refl _,fun k=>by rw [Nat.sub_zero,List.drop_length];rfl⟩ (fun i σ H' _ ⟨_,_,_,_,_,_,e,_⟩=>SqL.of e) ?_ ?_
 · rintro i v σ H' hv ⟨x2,x3,x4,kvs,rfl,s',erv,ed,hkl,hM⟩
   have hi:i < us.length:=by have:=(List.getElem?_eq_some_iff.mp hv).1;rwa [List.length_reverse] at this
   rw [List.getElem?_reverse hi] at hv
   obtain ⟨x,ex,t,h,rfl,et,eh⟩:=hd.at hv
   obtain ⟨lv,p⟩:=x
   obtain ⟨hp,_⟩:=hall _ (List.mem_of_getElem? ex)
   have hp:p.ok:=hp
   have hdrop:hs.drop (hs.length - (i+1))=(lv,p)::hs.drop (hs.length - i):=by
     obtain ⟨z1,z2⟩:=List.getElem?_eq_some_iff.mp ex
     rw [show hs.length - (i+1)=us.length - 1 - i by omega,List.drop_eq_getElem_cons z1,z2,show us.length - 1 - i+1=hs.length - i by omega]
   have hW:=ZdD (i:=hs.length - (i+1)) pd2
   rw [hdrop] at hW
   have hlS:(hs.drop (hs.length - i)).length≤1000:=by rw [List.length_drop];omega
   refine ⟨t,_,rfl,SqT.of (s' _ _ et),rfl,_,_,rfl,_,_,rfl,rfl,_,rfl,?_⟩
   rw [hdrop]
   generalize hs.drop (hs.length - i)=S at hM hW hlS
   refine ⟨fun σ H2=>∃ (st:Addr) (kvs:List (ZU×V)),σ=[some (.ref a),some (.ref d),some (.int (lv:Int)),some (.ref h),some (.ref st)]∧Same H H2∧H2 rv=some (.lst us.reverse)∧H2 d=some (.dK kvs)∧kvs.length≤i∧(∀ k,LvAt K H2 d (Yj kvs (kI k)) (if k=lv+1∧p.isB=true then [] else Dm S k))∧DatT K H2 (.ref st) p.dat,?_,?_⟩
   · refine ⟨_,rfl,h,_,_,_,rfl,rfl,SqT.of (s' _ _ eh),Zx (j:=0) rfl,p.word,p.isB,rfl,ZdE hp,_,rfl,?_⟩
     cases hb:p.isB with
     | false =>
       refine ZD ⟨h,kvs,rfl,s',erv,ed,hkl,fun k=>?_,ZjM hp hb (SqT.of (s' _ _ eh))⟩
       rw [if_neg (fun z=>nomatch z.2)];exact hM k
     | true =>
       refine ZQ ⟨_,rfl,?_⟩
       refine Zkx (k:=lv+1) (n:=i) rfl (fun H' R r=>⟨_,rfl,_,_,rfl,rfl,r⟩) ed hkl hM fun b xs kvs' H2 tf keep ed2 hn2 hM2 hbd eb hdat=>?_
       have s2:Same H H2:=fun c o e=>keep c o (fun z=>by rw [z,hd0] at e;cases e) (s' _ _ e)
       rw [hW.1 hb] at hdat
       dsimp only [YX]
       refine ⟨b,xs,rfl,.inl ⟨SqL.of eb,fun l1 hl1=>⟨(by show 1≤sizeLine;decide),fun p2 hp2=>?_⟩⟩⟩
       have s3:=(Zh hl1 (.tup xs)).trans (Zh hp2 (.tup [.ref l1]))
       have el1:=Zh hp2 (.tup [.ref l1]) l1 _ (show upd H2 l1 (.tup xs) l1=_ from Zc)
       have ep2:upd (upd H2 l1 (.tup xs)) p2 (.tup [.ref l1]) p2=_:=Zc
       generalize upd (upd H2 l1 (.tup xs)) p2 (.tup [.ref l1])=H3 at s3 el1 ep2 ⊢
       have eh3:=s3 _ _ (tf.tup _ _ (s' _ _ eh))
       refine ⟨h,p2,p.hv,[.ref l1],rfl,rfl,SqT.of eh3,SqT.of ep2,by unfold Pg.hv;simp,?_,fun z=>(nomatch z),fun _ p3 hp3=>?_⟩
       · exact Zv (show _≤100 by unfold Pg.hv;cases p<;>simp [Pg.vl])
       have s4:=Zh hp3 (.tup (p.hv++[.ref l1]))
       have s34:=s3.trans s4
       refine ⟨p3,kvs',rfl,s2.trans s34,s34 _ _ (keep _ _ hrd erv),s34 _ _ ed2,hn2,fun k=>?_,Zjb hb (SqT.of Zc) (SqT.of (s4 _ _ el1)) (hdat.same s34)⟩
       have:=(hM2 k).same s34
       by_cases c:k=lv+1
       · rw [if_pos c] at this;rw [if_pos ⟨c,rfl⟩];exact this
       · rw [if_neg c] at this;rw [if_neg (fun z=>c z.1)];exact this
   · rintro σ H2 ⟨st,kvs,rfl,s2,erv2,ed2,hkl2,hM2,hst⟩
     refine ⟨_,rfl,(by show 1≤sizeLine;decide),fun l1 hl1=>?_⟩
     have s3:=Zh hl1 (.lst [.ref st])
     have el1:upd H2 l1 (.lst [.ref st]) l1=_:=Zc
     have ed3:=s3 _ _ ed2
     have hM3:=fun k=>(hM2 k).same s3
     generalize upd H2 l1 (.lst [.ref st])=H3 at s3 el1 ed3 hM3 ⊢
     refine ZfM (k:=lv) rfl (fun H' R r=>⟨_,rfl,r⟩) ed3 hM3 fun b xs H4 s4 hbd eb hdat=>?_
     have hml:=Zcp S lv
     rw [if_neg (fun z=>absurd z.1 (by omega))] at hdat
     have hxl:xs.length≤1000:=by rw [hdat.pgs];omega
     refine ⟨l1,b,_,_,rfl,rfl,s4 _ _ el1,eb,Zv (show _≤1001 by rw [List.length_singleton];omega),fun l2 hl2=>?_⟩
     have s5:=Zh hl2 (.lst ([.ref st]++xs))
     have el2:upd H4 l2 (.lst ([.ref st]++xs)) l2=_:=Zc
     have ed5:=s5 _ _ (s4 _ _ ed3)
     have hl2d:l2≠d:=fun z=>by have ed4:=s4 _ _ ed3;rw [z,ed4] at hl2;cases hl2
     have s25:=(s3.trans s4).trans s5
     generalize upd H4 l2 (.lst ([.ref st]++xs))=H5 at s5 el2 ed5 s25 ⊢
     refine ⟨_,rfl,_,rfl,d,_,rfl,.inl ⟨kvs,kI lv,ed5,rfl,Xy (show _≤1000 by omega),rfl⟩,?_⟩
     refine ⟨_,_,_,XS kvs (kI lv) (.ref l2),rfl,fun c o e=>?_,?_,Zc,?_,fun k=>?_⟩
     · rw [Zo (fun z=>by rw [z,hd0] at e;cases e)];exact s25 _ _ (s2 _ _ e)
     · rw [Zo hrd];exact s25 _ _ erv2
     · have:=Zjz kvs (kI lv) (.ref l2);omega
     · rw [ZgF]
       by_cases c:k=lv
       · rw [if_pos (by rw [c]),c]
         show LvAt K _ d (some (.ref l2)) (if lv=lv then p::Dm S lv else _)
         rw [if_pos rfl]
         exact ⟨l2,_,rfl,hl2d,by rw [Zo hl2d];exact el2,.cons ((hst.same s25).tf (UN ed5)) ((hdat.same s5).tf (UN ed5))⟩
       · rw [if_neg (fun z=>c (kI_inj.mp z))]
         show LvAt K _ d _ (if k=lv then _ else if k=lv+1∧p.isB=true then [] else Dm S k)
         rw [if_neg c]
         exact ((hM2 k).same s25).upd ed5
 · rintro σ H' ⟨x2,x3,x4,kvs,rfl,s',erv,ed,hkl,hM⟩
   rw [List.length_reverse,hul,Nat.sub_self,List.drop_zero] at hM
   dsimp only [tRet,tCB,Xb]
   refine ZfM (i:=1) (σ:=[some (.ref a),some (.ref d),x2,x3,x4]) (k:=0) (ty:=tC (.int 0)) rfl (fun H' R r=>r) ed hM fun b xs H2 s2 hbd eb hdat=>?_
   rw [pd1] at hdat
   dsimp only [YX]
   exact ⟨b,xs,rfl,.inl ⟨SqL.of eb,fun l1 hl1=>q _ _ ((s'.trans s2).trans (Zh hl1 _)) (.tup (SqT.of Zc) (hdat.same (Zh hl1 _)))⟩⟩
end
end K72
set_option maxHeartbeats 4000000
namespace K72
open PySem L2
def Zcj:V→Bool
 | .str _=>true
 | _=>false
def isRV:V→Bool
 | .ref _=>true
 | _=>false
def _root_.L2.Pg.isSet:Pg→Bool
 | .set _ _ _=>true
 | _=>false
theorem Zfn {K:PySem.W.Frag}{H:Hp}{v:V}{d:PyData}(h:DatT K H v d):∃ t,TyS K H v t∧PySem.W.kitOne K t (.type "str")=some (Zcj v)∧PySem.W.kitOne K t (.type "tuple")=some (isRV v):=by
 cases h with
 | non=>exact ⟨_,.inl .non,rfl,rfl⟩
 | int i=>exact ⟨_,.inl (.int i),rfl,rfl⟩
 | str x=>exact ⟨_,.inl (.str x),rfl,rfl⟩
 | tup e q=>exact ⟨_,.inr ⟨_,_,rfl,rfl,e⟩,rfl,rfl⟩
theorem XU {K:PySem.W.Frag}{H:Hp}:∀{vs:List V}{ds:List PyData},DatTs K H vs ds→∀ v∈vs,∃ d,DatT K H v d
 | _,_,.nil,_,h=>(nomatch h)
 | _,_,.cons a b,v,h=>by
   rcases List.mem_cons.mp h with rfl | h
   · exact ⟨_,a⟩
   · exact XU b v h
theorem ZiP {K:PySem.W.Frag}{H:Hp}{v:V}{p:Pg}(h:DatT K H v p.dat)(ho:p.ok):∃ a xs,v=.ref a∧SqT K H a xs∧xs.length≤4∧xs[0]?=some (.str p.word)∧(∀ e∈xs,∃ d,DatT K H e d)∧(p.isSet=false→xs.filter Zcj=(p.word::p.ws).map V.str)∧(∀ x v s,p=.set x v s→xs=[.str "set",.str x,v,.str s])∧∃ t d,YU xs (-1)=some t∧isRV t=p.isB∧DatT K H t d∧(p.isB=true→DatT K H t (.tuple (Pg.dats p.inner))):=by
 cases p with
 | set x v s =>
   obtain ⟨a,xs,rfl,e,q⟩:=DatT.tupI h
   have al:=XU q
   obtain _ | ⟨q1,q2⟩:=q
   cases q1;obtain _ | ⟨q3,q4⟩:=q2;cases q3;obtain _ | ⟨q5,q6⟩:=q4;obtain _ | ⟨q7,q8⟩:=q6;cases q7;cases q8
   have e5:=Zjx q5 ho.2.1
   subst e5
   exact ⟨a,_,rfl,e,by simp,rfl,al,fun z=>(nomatch z),fun x v s z=>by cases z;rfl,_,_,WW (n:=3) rfl rfl,rfl,.str _,fun z=>(nomatch z)⟩
 | look x =>
   obtain ⟨a,xs,rfl,e,q⟩:=DatT.tupI h
   have al:=XU q
   obtain _ | ⟨q1,q2⟩:=q
   cases q1;obtain _ | ⟨q3,q4⟩:=q2;cases q3;cases q4
   exact ⟨a,_,rfl,e,by simp,rfl,al,fun _=>rfl,fun x v s z=>(nomatch z),_,_,WW (n:=1) rfl rfl,rfl,.str _,fun z=>(nomatch z)⟩
 | slot w s =>
   obtain ⟨a,xs,rfl,e,q⟩:=DatT.tupI h
   have al:=XU q
   obtain _ | ⟨q1,q2⟩:=q
   cases q1;obtain _ | ⟨q3,q4⟩:=q2;cases q3;cases q4
   exact ⟨a,_,rfl,e,by simp,rfl,al,fun _=>rfl,fun x v s z=>(nomatch z),_,_,WW (n:=1) rfl rfl,rfl,.str _,fun z=>(nomatch z)⟩
 | pass =>
   obtain ⟨a,xs,rfl,e,q⟩:=DatT.tupI h
   have al:=XU q
   obtain _ | ⟨q1,q2⟩:=q
   cases q1;cases q2
   exact ⟨a,_,rfl,e,by simp,rfl,al,fun _=>rfl,fun x v s z=>(nomatch z),_,_,WW (n:=0) rfl rfl,rfl,.str _,fun z=>(nomatch z)⟩
 | blk w ps =>
   obtain ⟨a,xs,rfl,e,q⟩:=DatT.tupI h
   have al:=XU q
   obtain _ | ⟨q1,q2⟩:=q
   cases q1;obtain _ | ⟨q3,q4⟩:=q2;cases q4
   have q3':=q3
   obtain ⟨b,ys,rfl,_,_⟩:=DatT.tupI q3
   exact ⟨a,_,rfl,e,by simp,rfl,al,fun _=>rfl,fun x v s z=>(nomatch z),_,_,WW (n:=1) rfl rfl,rfl,q3',fun _=>q3'⟩
 | inn s ps =>
   obtain ⟨a,xs,rfl,e,q⟩:=DatT.tupI h
   have al:=XU q
   obtain _ | ⟨q1,q2⟩:=q
   cases q1;obtain _ | ⟨q3,q4⟩:=q2;cases q3;obtain _ | ⟨q5,q6⟩:=q4;cases q6
   have q5':=q5
   obtain ⟨b,ys,rfl,_,_⟩:=DatT.tupI q5
   exact ⟨a,_,rfl,e,by simp,rfl,al,fun _=>rfl,fun x v s z=>(nomatch z),_,_,WW (n:=2) rfl rfl,rfl,q5',fun _=>q5'⟩
def XR (b:Nat):Str:=Txt.mul " " (b:Int)
theorem ZcW (c:Nat):∀(n:Nat)(A:Array Nat),((List.replicate n (#[c]:Array Nat)).foldl (·++·) A).toList=A.toList++List.replicate n c
 | 0,A=>by simp
 | n+1,A=>by
   rw [List.replicate_succ,List.foldl_cons,ZcW c n]
   simp [List.replicate_succ]
theorem Uu (b:Nat):(XR b).cps.toList=List.replicate b 32:=by
 unfold XR Txt.mul
 match b with
 | 0=>rfl
 | 1=>rfl
 | n+2 =>
   rw [if_neg (by omega),if_neg (by rw [show ((((n+2:Nat)):Int) == 1)=false from decide_eq_false (by omega)];decide +kernel)]
   have:=ZcW 32 (n+2) #[]
   rw [show ((((n+2:Nat)):Int)).toNat=n+2 by omega]
   exact this
theorem ZiJ (b:Nat):(XR b).length=b:=by
 show (XR b).cps.size=b
 rw [← Array.length_toList,Uu,List.length_replicate]
theorem ZiI (b:Nat)(x:Str):XR (b+2)++x=XR b++Ux x:=by
 apply Ys
 unfold Ux
 simp only [Str.cps_append,Array.toList_append]
 rw [Uu,Uu,show (Str.ofString "  ").cps.toList=[32,32] by decide +kernel,show List.replicate (b+2) 32=List.replicate b 32++[32,32] by rw [List.replicate_succ',List.replicate_succ',List.append_assoc];rfl,List.append_assoc]
theorem ZlH (x:Str):XR 0++x=x:=by
 apply Ys
 simp only [Str.cps_append,Array.toList_append]
 rw [Uu];rfl
theorem ZkV {b:Nat}(h:b≤1000):MulOk " " (b:Int):=by
 refine ⟨?_,fun h1 _=>?_,fun h1 _=>?_⟩
 · rw [Bool.or_eq_false_iff];exact ⟨decide_eq_false (by omega),decide_eq_false (by omega)⟩
 · rw [show (Str.ofString " ").length=1 by decide +kernel]
   have:(1000:Int)≤(2 ^ 63 - 1) / (b:Int):=by
     rw [Int.le_ediv_iff_mul_le (by omega)]
     omega
   omega
 · rw [show (Str.ofString " ").length=1 by decide +kernel]
   have:1000≤sizeLine:=by decide
   exact decide_eq_false (by omega)
section
variable {P:Program}{w:World}{K:PySem.W.Frag}{mg:Str→Option Value}{base:Heap}
def ZcS (K:PySem.W.Frag)(n:Nat):Sp:=fun vs H Q _=>∃(v:V)(b:Nat)(ps:List Pg),vs=[v,.int (b:Int)]∧DatT K H v (.tuple (Pg.dats ps))∧Pg.oks ps∧Pg.rk ps≤n∧b+2 * Pg.hgts ps≤200∧Pg.manys ps≤1000∧∀ l H',Same H H'→H l=none→H' l=some (.lst (((Yb ps).map (XR b++·)).map V.str))→Q (.ref l) H'
abbrev nRo:List Str:=["_law_program_here","_law_blanks","_law_rows_here","_law_step","_law_words"]
abbrev Zad:List Str:=["_law_program_here","_law_blanks"]
theorem scRo:Zs nRo Zad (Zj s_l_rows):=⟨rfl,rfl,rfl,by decide +kernel,rfl,by decide +kernel,by decide +kernel⟩
theorem Zfq {f:Addr}{fd:FuncData}{n k:Nat}(F:Fun K "_law_rows" "_law_rows" s_l_rows f fd)(T:ZZ mg)(DWr:Def P w K mg base k "_law_written" ZcO (fun vs H Q E=>∃ v,vs=[v]∧IsVal v∧∀ H',Same H H'→Q (.str (ZJ v)) H'))(DRo:Def P w K mg base k "_law_rows" Zad (fun vs H Q E=>∃ m,m < n∧ZcS K m vs H Q E)):FnOk P w K mg base ZV (k+1) f fd Zad (ZcS K n):=by
 refine F.ok scRo (fun vs H Q E h=>?_) (fun cdv A outer s H vs Q E hr h=>?_)
 · obtain ⟨v,b,ps,rfl,_⟩:=h;rfl
 obtain ⟨v,b,ps,rfl,hp,ho,hn,hb,hm,q⟩:=h
 obtain ⟨a,xs,rfl,e,hd⟩:=DatT.tupI hp
 have hl:=hd.pgs
 have hlm:=Pg.len_manys ps
 refine' ⟨?t,?h,?r⟩
 case h =>
   conv=>arg 2;whnf
   with_reducible refine' (Ze ?h1 (Ze (XE ?h2 ?h3 ?h4 ?h5 (Ze ?h6 (WY (ZS ?h7 (Zi ?h8) ZE) (Ze ?h9 (Zi (ZS ?h10 (Zi ?h11) ZE))))) ?h12) (Zi ?h13)))
   case h1=>exact Zr (i:=2) scRo.nd rfl (Or.inl rfl) (ZF Za)
   case h2=>exact PassesOwn.never
   case h3=>exact rfl
   case h4=>exact Zci (pv 0)
   case h5=>exact Zw (i:=3) scRo.nd rfl (Or.inl rfl)
   case h6=>exact Zdd (i:=4) (CompOk.of nRo s_l_rows rfl rfl (by decide +kernel)) rfl scRo.nd rfl (Or.inl rfl) (Zci (pv 3)) (fun _ _ _ _ _=>YJ (Zm (ZX (K:=K) rfl) rfl T.isinstance (by decide +kernel) (Zb (pv 5) (Zb (Yl rfl T.str (by decide +kernel) (v:=.ty "str") rfl) Za)))) (fun _ _ _ _ _=>pv 5) rfl
   case h7=>exact ZA YW (ZB Xc (pv 3) Zd (fun _ _=>rfl)) Zk (ZC _)
   case h8=>exact Zr (i:=4) scRo.nd rfl (Or.inl rfl) (ZF (Zb Zk (Zb (ZB Xc (pv 3) Zd (fun _ _=>rfl)) (Zb (Zq DWr hr (Zb (ZB Xc (pv 3) Zd (fun _ _=>rfl)) Za)) (Zb (ZB Xc (pv 3) Zd (fun _ _=>rfl)) Za)))))
   case h9=>exact Yx (Yc PySem.F.plainAttrs_list PySem.F.slot_list_append PySem.F.type_list_append Yd (pv 2) (Zb (Zl Yf (Zl Vf Zk (pv 1)) (Yc PySem.F.plainAttrs_str PySem.F.slot_str_join PySem.F.type_str_join Ws Zk (Zb (pv 4) Za))) Za))
   case h10=>exact YJ (Zm (ZX (K:=K) rfl) rfl T.isinstance (by decide +kernel) (Zb (ZB Xc (pv 3) (ZbV Zap Zd) (fun _ _=>rfl)) (Zb (Yl rfl T.tuple (by decide +kernel) (v:=.ty "tuple") rfl) Za)))
   case h11=>exact Yx (Yc PySem.F.plainAttrs_list PySem.F.slot_list_extend PySem.F.type_list_extend Zfj (pv 2) (Zb (Zq DRo hr (Zb (ZB Xc (pv 3) (ZbV Zap Zd) (fun _ _=>rfl)) (Zb (Zl Ye (pv 1) Zd) Za))) Za))
   case h12=>exact fun _=>rfl
   case h13=>exact Zp (pv 2)
 refine ⟨(by show 0≤sizeLine;decide),fun l hl0=>?_⟩
 refine ⟨_,rfl,a,rfl,⟨_,e.tf (Zh hl0 _).tf⟩,?_⟩
 refine Zju (xs:=xs) (fun i σ H'=>∃ x3 x4,σ=[some (.ref a),some (.int (b:Int)),some (.ref l),x3,x4]∧Same H H'∧H' l=some (.lst (((Yb (ps.take i)).map (XR b++·)).map V.str))) ⟨_,_,rfl,Zh hl0 _,by rw [List.take_zero];exact Zc⟩ (fun i σ H' _ ⟨_,_,_,s',_⟩=>e.tf s'.tf) ?_ ?_
 · rintro i v σ H' hv ⟨x3,x4,rfl,s',el⟩
   obtain ⟨p,ep,dp⟩:=hd.pg hv
   have hop:=Pg.oks_at ho ep
   have hml:=Pg.manys_le (ps:=ps) i
   have hml1:=Pg.manys_le (ps:=ps) (i+1)
   have hmt:=Pg.manys_take ep
   have hmp:=Pg.inner_many (p:=p)
   have hlr:=XC (ps.take i)
   have hli:=XC p.inner
   have hhp:=Pg.hgts_at ep
   obtain ⟨c,es,rfl,ec,hes,e0,al,hfil,hset,t,dt,et,ht,dtt,hin⟩:=ZiP (dp.same s') hop
   obtain ⟨hw1,hw2,hw3⟩:=Zgs hop
   refine ⟨_,rfl,c,rfl,⟨_,ec⟩,fun D hD=>?_⟩
   refine ZbK (K:=K) (xs:=es) (Zv (show es.length≤1000 by omega)) (fun j zs H2=>Same H' H2∧H2 D=some (.lst zs)∧j≤es.length∧zs=(es.take j).filter Zcj) ⟨Zh hD _,Zc,Nat.zero_le _,rfl⟩ ?_ ?_ ?_
   · rintro j zs H2 ⟨s1,_,hj,rfl⟩
     refine ⟨?_,ec.tf s1.tf⟩
     have:=List.length_filter_le Zcj (es.take j)
     rw [List.length_take] at this;omega
   · rintro j u zs H2 hu ⟨s1,eD,hj,rfl⟩
     have hu2:=(List.getElem?_eq_some_iff.mp hu).1
     obtain ⟨d,du⟩:=al u (List.mem_of_getElem? hu)
     obtain ⟨ty,t1,t2,_⟩:=Zfn (du.same s1)
     refine ⟨_,rfl,_,_,_,_,rfl,t1,t2,_,rfl,?_⟩
     have et:es.take (j+1)=es.take j++[u]:=by rw [List.take_add_one,hu];rfl
     cases hc:Zcj u with
     | false=>exact ZD ⟨s1,eD,hu2,by rw [et,List.filter_append,List.filter_cons,hc];simp⟩
     | true=>exact ZQ ⟨_,rfl,eD,fun b o e=>by rw [Zo (Zy e hD)];exact s1 _ _ e,Zc,hu2,by rw [et,List.filter_append,List.filter_cons,hc];simp⟩
   rintro zs H2 ⟨s2,eD,_,rfl⟩
   rw [List.take_length] at eD
   have el2:=s2 _ _ el
   refine ⟨fun σ3 H3=>∃ wl:Addr,σ3=[some (.ref a),some (.int (b:Int)),some (.ref l),some (.ref c),some (.ref wl)]∧Same H2 H3∧H3 wl=some (.lst ((p.word::p.ws).map V.str)),?_,?_⟩
   · refine ⟨_,rfl,c,es,_,_,rfl,rfl,ec.tf s2.tf,Zx (j:=0) e0,rfl,_,rfl,?_⟩
     cases hs:p.isSet with
     | true =>
       cases p with
       | set x v s =>
         have hes2:=hset x v s rfl
         subst hes2
         refine ZQ ⟨_,rfl,c,_,_,_,rfl,rfl,ec.tf s2.tf,Zx (j:=1) rfl,_,rfl,c,_,_,_,rfl,rfl,ec.tf s2.tf,Zx (j:=2) rfl,v,rfl,hop.2.1,fun H3 s3=>?_⟩
         refine ⟨_,rfl,c,_,_,_,rfl,rfl,(ec.tf s2.tf).tf s3.tf,Zx (j:=3) rfl,(by show 4≤sizeLine;decide),fun wl hwl=>⟨wl,rfl,s3.trans (Zh hwl _),Zc⟩⟩
       | _=>exact nomatch hs
     | false =>
       have hne:decide (V.str p.word=V.str (Str.ofString "set"))=false:=by
         refine decide_eq_false fun z=>?_
         injection z with z
         cases p with
         | set x v s=>exact nomatch hs
         | look x=>exact absurd z (show (Str.ofString "look")≠Str.ofString "set" by decide +kernel)
         | pass=>exact absurd z (show (Str.ofString "pass")≠Str.ofString "set" by decide +kernel)
         | inn s ps=>exact absurd z (show (Str.ofString "in")≠Str.ofString "set" by decide +kernel)
         | slot w s=>rcases hop.1 with rfl | rfl<;>exact absurd z (by show Str.ofString _≠_;decide +kernel)
         | blk w s=>rcases hop.1 with rfl | rfl<;>exact absurd z (by show Str.ofString _≠_;decide +kernel)
       rw [hfil hs] at eD
       exact XI hne ⟨D,rfl,Same.refl _,eD⟩
   rintro σ3 H3 ⟨wl,rfl,s3,ew⟩
   have el3:=s3 _ _ el2
   have s03:=(s'.trans s2).trans s3
   have hjb:((p.word::p.ws).map (·.length)).sum+(p.word::p.ws).length * (Str.ofString " ").length≤16777216:=by
     have:=UL (n:=100) (p.word::p.ws) (fun y hy=>by rcases List.mem_cons.mp hy with rfl | hy;omega;exact hw2 y hy)
     rw [show (Str.ofString " ").length=1 by decide +kernel]
     rw [List.length_cons] at this ⊢;omega
   have hsl:=XB hop
   refine ⟨_,rfl,.inl ⟨rfl,_,SqL.of el3⟩,_,rfl,_,_,rfl,rfl,ZkV (b:=b) (by omega),rfl,_,rfl," ",wl,p.word::p.ws,rfl,rfl,SqL.of ew,hjb,_,_,rfl,rfl,Zv (show _≤5000 by have:=ZiJ b;show (XR b).length+p.srow.length≤5000;omega),?_⟩
   refine ⟨l,_,_,rfl,rfl,el3,Xy (show _≤1000 by rw [List.length_map,List.length_map];omega),?_⟩
   have el4:upd H3 l (.lst (((Yb (ps.take i)).map (XR b++·)).map V.str++[.str (XR b++p.srow)])) l=some (.lst (((Yb (ps.take i)).map (XR b++·)).map V.str++[.str (XR b++p.srow)])):=Zc
   have s4:Same H (upd H3 l (.lst (((Yb (ps.take i)).map (XR b++·)).map V.str++[.str (XR b++p.srow)]))):=US s03 hl0
   have tf4:TF H' (upd H3 l (.lst (((Yb (ps.take i)).map (XR b++·)).map V.str++[.str (XR b++p.srow)]))):=⟨fun b ys q=>by rw [Zo (WN (s3 _ _ (s2 _ _ q)) el3 (fun z=>nomatch z))];exact s3 _ _ (s2 _ _ q),fun b o u q=>by rw [Zo (WN (s3 _ _ (s2 _ _ q)) el3 (fun z=>nomatch z))];exact s3 _ _ (s2 _ _ q)⟩
   obtain ⟨ty,t1,_,t3⟩:=Zfn (dtt.tf tf4)
   refine ⟨_,rfl,_,rfl,c,es,_,_,rfl,rfl,ec.tf tf4,et,_,_,ty,_,rfl,t1,t3,_,rfl,?_⟩
   have etk:=Zfa ep
   cases hB:p.isB with
   | false =>
     refine XI (ht.trans hB) ⟨_,_,rfl,s4,?_⟩
     rw [etk,Pg.inner_none hB]
     refine el4.trans ?_
     simp [Yb]
   | true =>
     have hge:1+Pg.hgts p.inner≤p.hgt:=by
       cases p with
       | blk w ps=>show 1+Pg.hgts ps≤Pg.hgts ps+1;omega
       | inn s ps=>show 1+Pg.hgts ps≤Pg.hgts ps+1;omega
       | _=>exact nomatch hB
     refine Uq (ht.trans hB) ⟨_,rfl,.inl ⟨rfl,_,SqL.of el4⟩,_,rfl,_,rfl,c,es,_,_,rfl,rfl,ec.tf tf4,et,_,rfl,_,_,rfl,rfl,Pg.rk p.inner,Nat.lt_of_lt_of_le (Pg.rk_at ep) hn,t,b+2,p.inner,rfl,(hin hB).tf tf4,Pg.inner_ok hop,Nat.le_refl _,by omega,by omega,fun m H5 s5 hm0 em=>?_⟩
     have el5:=s5 _ _ el4
     refine ⟨l,m,_,_,rfl,rfl,el5,em,Zv (show _≤5000 by rw [List.length_append,List.length_map,List.length_map,List.length_map,List.length_map,List.length_singleton];omega),?_⟩
     refine ⟨_,_,rfl,US (s4.trans s5) hl0,?_⟩
     rw [Zc,etk,List.map_append,List.map_append,List.map_cons,List.map_cons,List.map_map,show ((Yb p.inner).map (XR (b+2)++·))=(Yb p.inner).map ((XR b++·) ∘ Ux) from List.map_congr_left fun x _=>ZiI b x,List.append_assoc]
     simp only [List.map_map,List.singleton_append]
 · rintro σ H' ⟨x3,x4,rfl,s',el⟩
   rw [hl,List.take_length] at el
   exact ⟨_,rfl,q l H' s' hl0 el⟩
theorem Zio {f:Addr}{fd:FuncData}(F:Fun K "_law_rows" "_law_rows" s_l_rows f fd)(T:ZZ mg)(b:Binds K fd Zad [])(kp:PySem.W.keepIn K (.ref f)=true)(m:mg "_law_rows"=some (.ref f))(DWr:Def P w K mg base 1 "_law_written" ZcO (fun vs H Q E=>∃ v,vs=[v]∧IsVal v∧∀ H',Same H H'→Q (.str (ZJ v)) H')):∀ n,FnOk P w K mg base ZV (2+n) f fd Zad (ZcS K n)
 | 0=>Zfq F T DWr ⟨_,_,⟨fun vs H Q E ⟨_,h,_⟩=>absurd h (Nat.not_lt_zero _),fun _ _ _ _ _ _ _ _ _ _ _ _ _ ⟨_,h,_⟩=>absurd h (Nat.not_lt_zero _)⟩,b,kp,m⟩
 | n+1=>Zfq F T (DWr.mono (show 1≤2+n by omega)) ⟨_,_,(Zio F T b kp m DWr n).imp fun vs H Q E ⟨j,h,v,c,ps,a1,a2,a3,a4,a5⟩=>⟨v,c,ps,a1,a2,a3,by omega,a5⟩,b,kp,m⟩
end
end K72
set_option maxHeartbeats 4000000
namespace K72
open PySem L2
theorem Wa {x:Str}(h:ZH x):x.cps.toList.all Yo=true:=(ZhM h).2
theorem ZeO:∀ l:List Nat,l.all Yo=true→(Xq l).all Yo=true
 | [],_=>rfl
 | k :: r,h=>by
   rw [List.all_cons,Bool.and_eq_true] at h
   have ih:=ZeO r h.2
   have e:Xq (k::r)=(if k=39∨k=92 then [92,k] else [k])++Xq r:=rfl
   rw [e,List.all_append,ih,Bool.and_true]
   split
   · rename_i hk
     rcases hk with rfl | rfl<;>decide
   · simp [h.1]
theorem ZdM {v:V}(h:IsVal v):(ZJ v).cps.toList.all Yo=true:=by
 cases v with
 | int i =>
   rw [List.all_eq_true]
   intro c hc
   have:=Zfc (show c∈(Str.ofString (toString i)).cps.toList from hc)
   unfold Yo
   simp only [Bool.and_eq_true,decide_eq_true_eq]
   omega
 | str x =>
   show (39::Xq x.cps.toList++[39]).all Yo=true
   rw [List.all_append,List.all_cons,ZeO _ h.2];rfl
 | _=>exact h.elim
theorem UO:∀ L:List Str,(∀ x∈L,x.cps.toList.all Yo=true)→(Str.join ⟨#[32]⟩ L).cps.toList.all Yo=true
 | [],_=>rfl
 | [x],h=>h x (List.mem_cons_self ..)
 | x::y::r,h=>by
   rw [YQ,List.all_append,List.all_cons,h x (List.mem_cons_self ..),UO (y::r) fun z hz=>h z (List.mem_cons_of_mem _ hz)];rfl
theorem Zjj {p : Pg}(h:p.ok):p.srow.cps.toList.all Yo=true:=by
 unfold Pg.srow
 rw [tj,Uj]
 refine UO _ fun x hx=>?_
 rcases List.mem_cons.mp hx with rfl | hx
 · cases p with
   | set x v s=>exact (show (Str.ofString "set").cps.toList.all Yo=true by decide +kernel)
   | look x=>exact (show (Str.ofString "look").cps.toList.all Yo=true by decide +kernel)
   | slot w s => rcases h.1 with rfl | rfl
                 · exact (show (Str.ofString "back").cps.toList.all Yo=true by decide +kernel)
                 · exact (show (Str.ofString "copy").cps.toList.all Yo=true by decide +kernel)
   | pass=>exact (show (Str.ofString "pass").cps.toList.all Yo=true by decide +kernel)
   | blk w ps => rcases h.1 with rfl | rfl
                 · exact (show (Str.ofString "begin").cps.toList.all Yo=true by decide +kernel)
                 · exact (show (Str.ofString "late").cps.toList.all Yo=true by decide +kernel)
   | inn s ps=>exact (show (Str.ofString "in").cps.toList.all Yo=true by decide +kernel)
 · cases p with
   | set y v s =>
     simp only [Pg.ws,List.mem_cons,List.not_mem_nil,or_false] at hx
     rcases hx with rfl | rfl | rfl
     · exact Wa h.1
     · exact ZdM h.2.1
     · exact Wa h.2.2
   | look y=>simp only [Pg.ws,List.mem_cons,List.not_mem_nil,or_false] at hx;rw [hx];exact Wa h
   | slot w s=>simp only [Pg.ws,List.mem_cons,List.not_mem_nil,or_false] at hx;rw [hx];exact Wa h.2
   | pass=>exact (nomatch hx)
   | blk w ps=>exact (nomatch hx)
   | inn s ps=>simp only [Pg.ws,List.mem_cons,List.not_mem_nil,or_false] at hx;rw [hx];exact Wa h.1
theorem Zhr {ps:List Pg}(h:Pg.oks ps):∀ r∈Yb ps,(10:Nat) ∉ r.cps.toList:=by
 intro r hr hc
 rw [WZ] at hr
 obtain ⟨⟨l,p⟩,hx,rfl⟩:=List.mem_map.mp hr
 have hp:=(Wr ps 0 h _ hx).1
 rcases List.mem_append.mp (show (10:Nat)∈List.replicate (2 * l) 32++p.srow.cps.toList from hc) with hc | hc
 · have:=List.eq_of_mem_replicate hc;omega
 · have:=List.all_eq_true.mp (Zjj hp) 10 hc
   exact absurd this (by decide)
end K72
set_option maxHeartbeats 2000000
namespace L2
open PySem PySem.W PySem.Spec PyProof.Rows
section
variable {X:Cx}
end
end L2
set_option maxHeartbeats 1000000
namespace L2
open PySem PySem.Spec PyProof.Rows
section
variable {X:Cx}
theorem Zic (hc:X.calm=true):YO X (.builtin "any") (fun xs H Q=>∃ (a:Addr) (bs:List Bool),xs=[.ref a]∧SqL X.K H a (bs.map V.bl)∧Q (.bl (bs.any id)) H):=by
 intro pins s σ H xs us Q I r h
 obtain ⟨a,bs,rfl,hq,q⟩:=h
 obtain ⟨u,rfl,ru⟩:=YK r
 cases ru
 obtain ⟨its,rv,p,hz⟩:=I.list hq
 have hlen:=rv.length
 rw [List.length_map] at hlen
 have hal:a < s.heap.objs.size:=by obtain ⟨_,e,_⟩:=p.isList;exact Heap.lt_size e
 refine call_any_walk (wpAny_pyIter_list p.isList ⟨s.heap.objs.size,_,_,_,_,_,fun i=>bs.getD i false,rfl,Walks.list (A:=X.A.in1) (I.ok.hd hc) s.heap.objs.size a (Nat.ne_of_lt hal) its.toArray,⟨⟨_,Heap.get?_push_size _ rfl,rfl,rfl⟩,p.isList.push _⟩,?_,?_⟩)
 · intro i v s' Q' E' hv hQ'
   have hv':its[i]?=some v:=by simpa using hv
   have hi:i < bs.length:=by
     have:=(List.getElem?_eq_some_iff.mp hv').1
     omega
   obtain ⟨u,hu,ru⟩:=rv.get (i:=i) (x:=V.bl bs[i]) (by simp [hi])
   rw [hv'] at hu
   cases hu
   have e:v=Value.bool bs[i]:=ru
   subst e
   have hQ2:Q' (bs.getD i false) s':=hQ'
   rw [List.getD_eq_getElem?_getD,List.getElem?_eq_getElem hi] at hQ2
   exact wpAny_truthy_bool hQ2
 · intro h' tk hk
   have e:(List.range its.toArray.size).any (fun i=>bs.getD i false)=bs.any id:=by
     rw [List.size_toArray,← hlen]
     apply Bool.eq_iff_iff.mpr
     rw [List.any_eq_true,List.any_eq_true]
     constructor
     · rintro ⟨i,hi,z⟩
       have hi':=List.mem_range.mp hi
       rw [List.getD_eq_getElem?_getD,List.getElem?_eq_getElem hi'] at z
       exact ⟨_,List.getElem_mem hi',z⟩
     · rintro ⟨b,hb,z⟩
       obtain ⟨i,hi,rfl⟩:=List.mem_iff_getElem.mp hb
       refine ⟨i,List.mem_range.mpr hi,?_⟩
       rw [List.getD_eq_getElem?_getD,List.getElem?_eq_getElem hi];exact z
   rw [e]
   refine ⟨.bl (bs.any id),H,I.kept (t':=tk) fun b o eb=>hk b o ?_ (Heap.get?_push_of_some _ eb),rfl,q⟩
   intro hm
   have:b=s.heap.objs.size:=by simpa using hm
   rw [this] at eb
   exact absurd (Heap.lt_size eb) (Nat.lt_irrefl _)
end
end L2
set_option maxHeartbeats 4000000
namespace K72
open PySem L2
abbrev kN:List Str:=[Str.ofString "name"]
abbrev kNV:List Str:=[Str.ofString "name",ZM]
def Vg (row:Str):Option (V×V):=match Txt.split row (Str.ofString " ") with
 | []=>none
 | w0::ws=>if w0=Str.ofString "setting" then (match Yg ws (if ws.length=1 then kN else kNV) with
     | some [x]=>some (x,.non)
     | some [x,y]=>some (x,y)
     | _=>none) else none
section
variable {P:Program}{w:World}{K:PySem.W.Frag}{mg:Str→Option Value}{base:Heap}{tk:Tok}
def spSf:Sp:=fun vs H Q _=>∃ row:Str,vs=[.str row]∧row.length≤90000∧(Vg row=none→∀ H',Same H H'→Q .non H')∧(∀ x y,Vg row=some (x,y)→∀ a H',Same H H'→H a=none→H' a=some (.tup [x,y])→Q (.ref a) H')
abbrev nSf:List Str:=["row","word","words","kinds","parts"]
abbrev Zhu:List Str:=["row"]
theorem scSf:Zs nSf Zhu (Zj s_setting_from):=⟨rfl,rfl,rfl,by decide +kernel,rfl,by decide +kernel,by decide +kernel⟩
theorem ZiQ {f:Addr}{fd:FuncData}(F:Fun K "setting_from" "setting_from" s_setting_from f fd)(T:ZZ mg)(DPs:Def P w K mg base 5 "parts_from" Zem ZhT):FnOk P w K mg base ZV 6 f fd Zhu spSf:=by
 refine F.ok scSf (fun vs H Q E h=>?_) (fun cdv A outer s H vs Q E hr h=>?_)
 · obtain ⟨a,rfl,_⟩:=h;rfl
 obtain ⟨row,rfl,hr0,q1,q2⟩:=h
 refine' ⟨?t,?h,?r⟩
 case h =>
   conv=>arg 2;whnf
   with_reducible refine' (Ze ?h1 (WY ?h2 (Ze ?h3 (Ze (ZS ?h4 (Zi ?h5) ZE) (Zi ?h6)))))
   case h1=>exact Ui (Yc PySem.F.plainAttrs_str PySem.F.slot_str_split PySem.F.type_str_split Va (pv 0) (Zb Zk Za)) (ZaY rfl (Zw (i:=1) scSf.nd rfl (Or.inl rfl)) (Zw (i:=2) scSf.nd rfl (Or.inl rfl)))
   case h2=>exact Zr (i:=3) scSf.nd rfl (Or.inl rfl) (Yz (ZA YW (Zm ZK rfl T.len PySem.boot_len (Zb (pv 2) Za)) Zd (ZC _)) (ZF (Zb Zk Za)) (ZF (Zb Zk (Zb Zk Za))))
   case h3=>exact Zr (i:=4) scSf.nd rfl (Or.inl rfl) (Zq DPs hr (Zb (pv 2) (Zb (pv 3) Za)))
   case h4=>exact PW.pt (WP (ZA UX (pv 1) Zk (ZC _)) (Ud (WG (WE (pv 4)))))
   case h5=>exact Zp YI
   case h6=>exact Zp (ZI (Zb (ZB ZG (pv 4) Zd (fun _ _=>rfl)) (Zb (Yz (ZA YW (Zm ZK rfl T.len PySem.boot_len (Zb (pv 4) Za)) Zd (ZC _)) (ZB ZG (pv 4) Zd (fun _ _=>rfl)) YI) Za)))
 refine ⟨_,rfl,rfl,row,_,rfl,rfl,(by decide +kernel),by omega,fun l hl=>?_⟩
 have hw:=PyProof.Rows.split_weight row (Str.ofString " ") (by decide +kernel)
 unfold Vg at q1 q2
 cases e:Txt.split row (Str.ofString " ") with
 | nil=>exact absurd e (YY _ _)
 | cons w0 ws =>
   rw [e] at hw q1 q2
   dsimp only at q1 q2
   simp only [List.map_cons,List.sum_cons,List.length_cons] at hw
   have hfit:Fits ws:=by unfold Fits;omega
   refine ⟨l,.str w0,ws.map V.str,rfl,SqL.of Zc,by rw [List.length_map];omega,fun D hD=>?_⟩
   have s0:Same H (upd (upd H l (.lst ((w0::ws).map V.str))) D (.lst (ws.map V.str))):=(Zh hl _).trans (Zh hD _)
   have eD:upd (upd H l (.lst ((w0::ws).map V.str))) D (.lst (ws.map V.str)) D=_:=Zc
   generalize upd (upd H l (.lst ((w0::ws).map V.str))) D (.lst (ws.map V.str))=H1 at s0 eD ⊢
   refine ⟨fun σ H2=>∃ kl,σ=[some (.str row),some (.str w0),some (.ref D),some (.ref kl),none]∧Same H1 H2∧H2 kl=some (.lst ((if ws.length=1 then kN else kNV).map V.str)),?_,?_⟩
   · refine ⟨_,rfl,D,_,rfl,.inl (SqL.of eD),rfl,_,rfl,?_⟩
     rw [List.length_map]
     by_cases c:ws.length=1
     · rw [if_pos c]
       exact Uq (decide_eq_true (by rw [c];rfl)) ⟨(by show 1≤sizeLine;decide),fun kl hkl=>⟨kl,rfl,Zh hkl _,Zc⟩⟩
     · rw [if_neg c]
       exact XI (decide_eq_false (fun z=>c (by injection z with z;omega))) ⟨(by show 2≤sizeLine;decide),fun kl hkl=>⟨kl,rfl,Zh hkl _,Zc⟩⟩
   · rintro σ H2 ⟨kl,rfl,s2,ekl⟩
     have hkl:(if ws.length=1 then kN else kNV).length≤2∧1≤(if ws.length=1 then kN else kNV).length:=by split<;>simp
     generalize (if ws.length=1 then kN else kNV)=ks at q1 q2 ekl hkl
     refine ⟨_,rfl,_,rfl,D,kl,ws,ks,rfl,s2 _ _ eD,ekl,hfit,by omega,fun e3 H3 s3=>?_,fun vs e3 l3 H3 s3 el3=>?_⟩
     · have s03:=(s0.trans s2).trans s3
       refine ⟨_,rfl,rfl,_,rfl,?_⟩
       have fin:Q .non H3:=q1 (by rw [e3];split<;>rfl) H3 s03
       by_cases c:w0=Str.ofString "setting"
       · exact XI (by rw [c];simp) ⟨_,rfl,_,rfl,ZQ fin⟩
       · exact Uq (by simp;exact c) fin
     · have s03:=(s0.trans s2).trans s3
       refine ⟨_,rfl,rfl,_,rfl,?_⟩
       by_cases c:w0=Str.ofString "setting"
       · refine XI (by rw [c];simp) ⟨_,rfl,_,rfl,ZD ?_⟩
         have hvl:=Zbs e3
         rw [e3,if_pos c] at q2
         refine ⟨_,rfl,l3,vs,_,vs[0],rfl,rfl,SqL.of el3,Zx (j:=0) (List.getElem?_eq_getElem (by omega)),?_⟩
         refine ⟨_,rfl,l3,vs,rfl,.inl (SqL.of el3),rfl,_,rfl,?_⟩
         match vs,hvl,el3,q2 with
         | [x],_,el3,q2=>exact XI (show decide (V.int 1=V.int 2)=false by decide) ⟨(by show 2≤sizeLine;decide),fun t ht=>q2 x .non rfl t _ (s03.trans (Zh ht _)) (Xz s03 ht) Zc⟩
         | [x,y],_,el3,q2=>exact Uq (show decide (V.int 2=V.int 2)=true by decide) ⟨_,rfl,l3,[x,y],_,y,rfl,rfl,SqL.of el3,Zx (j:=1) rfl,(by show 2≤sizeLine;decide),fun t ht=>q2 x y rfl t _ (s03.trans (Zh ht _)) (Xz s03 ht) Zc⟩
         | [],h,_,_=>exact absurd h (by simp;omega)
         | _::_::_::_,h,_,_=>exact absurd h (by simp;omega)
       · exact Uq (by simp;exact c) (q1 (by rw [if_neg c]) H3 s03)
def Vo (w:Str):V:=match Yn w 4 with
 | some n=>.int n
 | none=>.non
def ZaL (row:Str):Option (List Int):=match Txt.split row (Str.ofString " ") with
 | []=>none
 | w0::ws=>if w0=Str.ofString "weave" then (if (ws.all fun w=>match Yn w 4 with | some n=>decide (0≤n) | none=>false)=true then some (ws.map fun w=>(Yn w 4).getD 0) else none) else none
def spPk:Sp:=fun vs H Q _=>∃ row:Str,vs=[.str row]∧row.length≤90000∧(ZaL row=none→∀ H',Same H H'→Q .non H')∧(∀ ns,ZaL row=some ns→∀ l H',Same H H'→H l=none→H' l=some (.lst (ns.map V.int))→Q (.ref l) H')
abbrev nPk:List Str:=["row","word","words","picks"]
abbrev ZgU:List Str:=["row"]
theorem scPk:Zs nPk ZgU (Zj s_picks_from):=⟨rfl,rfl,rfl,by decide +kernel,rfl,by decide +kernel,by decide +kernel⟩
theorem Zhp {f : Addr}{fd:FuncData}(F:Fun K "picks_from" "picks_from" s_picks_from f fd)(T:ZZ mg)(hMP:mg "MOST_FIGURES_OF_PICKS"=some (.int 4 tk))(DNf:Def P w K mg base 1 "number_from" Zep Zhk):FnOk P w K mg base ZV 2 f fd ZgU spPk:=by
 refine F.ok scPk (fun vs H Q E h=>?_) (fun cdv A outer s H vs Q E hr h=>?_)
 · obtain ⟨a,rfl,_⟩:=h;rfl
 obtain ⟨row,rfl,hr0,q1,q2⟩:=h
 refine' ⟨?t,?h,?r⟩
 case h =>
   conv=>arg 2;whnf
   with_reducible refine' (Ze ?h1 (Ze ?h2 (Ze (ZS ?h3 (Zi ?h4) ZE) (Zi ?h5))))
   case h1=>exact Ui (Yc PySem.F.plainAttrs_str PySem.F.slot_str_split PySem.F.type_str_split Va (pv 0) (Zb Zk Za)) (ZaY rfl (Zw (i:=1) scPk.nd rfl (Or.inl rfl)) (Zw (i:=2) scPk.nd rfl (Or.inl rfl)))
   case h2=>exact UW (i:=3) (CompOk.of nPk s_picks_from rfl rfl (by decide +kernel)) rfl scPk.nd rfl (Or.inl rfl) (Xp (pv 2))  (fun _ _ _ _ _=>Zq DNf hr (Zb (pv 4) (Zb (Wu rfl hMP (v:=.int 4) ⟨_,rfl⟩) Za))) rfl
   case h3=>exact PW.pt (WP (ZA UX (pv 1) Zk (ZC _)) (WP (ZA Wc YI (pv 3) rfl) (Ud (YJ (Zm (Zic rfl) rfl T.any (by decide +kernel) (Zb (XW (CompOk.of nPk s_picks_from rfl rfl (by decide +kernel)) rfl (Xp (pv 3))  (fun _ _ _ _ _=>YT VF (pv 4) Zd (ZC _))) Za))))))
   case h4=>exact Zp YI
   case h5=>exact Zp (pv 3)
 refine ⟨_,rfl,rfl,row,_,rfl,rfl,(by decide +kernel),by omega,fun l hl=>?_⟩
 have hw:=PyProof.Rows.split_weight row (Str.ofString " ") (by decide +kernel)
 unfold ZaL at q1 q2
 cases e:Txt.split row (Str.ofString " ") with
 | nil=>exact absurd e (YY _ _)
 | cons w0 ws =>
   rw [e] at hw q1 q2
   dsimp only at q1 q2
   simp only [List.map_cons,List.sum_cons,List.length_cons] at hw
   have hfit:Fits ws:=by unfold Fits;omega
   refine ⟨l,.str w0,ws.map V.str,rfl,SqL.of Zc,by rw [List.length_map];omega,fun D hD=>?_⟩
   have s0:Same H (upd (upd H l (.lst ((w0::ws).map V.str))) D (.lst (ws.map V.str))):=(Zh hl _).trans (Zh hD _)
   have eD:upd (upd H l (.lst ((w0::ws).map V.str))) D (.lst (ws.map V.str)) D=_:=Zc
   generalize upd (upd H l (.lst ((w0::ws).map V.str))) D (.lst (ws.map V.str))=H1 at s0 eD ⊢
   refine ⟨_,rfl,D,rfl,⟨_,SqL.of eD⟩,fun L hL=>?_⟩
   have hwl:ws.length≤100000:=by unfold Fits at hfit;omega
   refine Ut (K:=K) (xs:=ws.map V.str) (Zv (show _≤100000 by rw [List.length_map];exact hwl)) (fun i ys H'=>Same H1 H'∧H' L=some (.lst ys)∧ys=(ws.take i).map Vo∧i≤ws.length) ⟨Zh hL _,Zc,rfl,Nat.zero_le _⟩ ?_ ?_ ?_
   · rintro i ys H' ⟨s1,_,rfl,hi⟩
     exact ⟨by rw [List.length_map,List.length_take];omega,SqL.of (s1 _ _ eD)⟩
   · rintro i v ys H' hv ⟨s1,eL,rfl,hi⟩
     rw [List.getElem?_map] at hv
     obtain ⟨u,eu,rfl⟩:=Option.map_eq_some_iff.mp hv
     refine ⟨_,rfl,u,4,rfl,hfit.at u (List.mem_of_getElem? eu),by decide,fun H4 s4=>⟨s4 _ _ eL,fun b o e=>?_,Zc,?_,(List.getElem?_eq_some_iff.mp eu).1⟩⟩
     · rw [Zo (Zy e hL)];exact s4 _ _ (s1 _ _ e)
     · rw [List.take_succ,eu,List.map_append];rfl
   · rintro ys H2 ⟨s2,eL,rfl,_⟩
     rw [List.length_map,List.take_length] at eL
     have s02:=s0.trans s2
     refine ⟨_,rfl,rfl,_,rfl,?_⟩
     by_cases c:w0=Str.ofString "weave"
     · rw [if_pos c] at q1 q2
       have hfl:(ws.map Vo).all Xu=true:=by
         rw [List.all_map,List.all_eq_true]
         intro u _
         show Xu (Vo u)=true
         unfold Vo
         split<;>rfl
       have hin:YG .non (ws.map Vo)=ws.any fun u=>(Yn u 4).isNone:=by
         unfold YG
         rw [List.any_map]
         congr 1
         funext u
         show XL (Vo u) .non=_
         unfold Vo
         cases Yn u 4<;>rfl
       refine XI (by rw [c];simp) ⟨_,rfl,L,_,rfl,.inl (SqL.of eL),rfl,hfl,_,rfl,?_⟩
       show if YG .non (ws.map Vo)=true then _ else _
       rw [hin]
       cases hn:ws.any fun u=>(Yn u 4).isNone with
       | true =>
         refine ZQ (q1 (by
           rw [if_neg]
           intro z
           obtain ⟨u,hu,hz⟩:=List.any_eq_true.mp hn
           have:=List.all_eq_true.mp z u hu
           cases e9:Yn u 4 with
           | none=>rw [e9] at this;cases this
           | some n=>rw [e9] at hz;cases hz) H2 s02)
       | false =>
         have hsome:∀ u∈ws,∃ n,Yn u 4=some n:=fun u hu=>by
           cases e9:Yn u 4 with
           | some n=>exact ⟨n,rfl⟩
           | none =>
             have:(ws.any fun u=>(Yn u 4).isNone)=true:=List.any_eq_true.mpr ⟨u,hu,by rw [e9];rfl⟩
             rw [hn] at this;cases this
         have emap:ws.map Vo=(ws.map fun u=>(Yn u 4).getD 0).map V.int:=by
           rw [List.map_map]
           refine List.map_congr_left fun u hu=>?_
           obtain ⟨n,e9⟩:=hsome u hu
           show Vo u=V.int ((Yn u 4).getD 0)
           unfold Vo
           rw [e9];rfl
         rw [emap] at eL
         refine ZD ⟨_,rfl,L,rfl,⟨_,SqL.of eL⟩,fun L2 hL2=>?_⟩
         refine Ut (K:=K) (xs:=(ws.map fun u=>(Yn u 4).getD 0).map V.int) (Zv (show _≤100000 by rw [List.length_map,List.length_map];exact hwl)) (fun i ys H'=>Same H2 H'∧H' L2=some (.lst ys)∧ys=((ws.take i).map fun u=>decide ((Yn u 4).getD 0 < 0)).map V.bl∧i≤ws.length) ⟨Zh hL2 _,Zc,rfl,Nat.zero_le _⟩ ?_ ?_ ?_
         · rintro i ys H' ⟨s1,_,rfl,hi⟩
           exact ⟨by rw [List.length_map,List.length_map,List.length_take];omega,SqL.of (s1 _ _ eL)⟩
         · rintro i v ys H' hv ⟨s1,eL2,rfl,hi⟩
           rw [List.getElem?_map,List.getElem?_map] at hv
           obtain ⟨z,ez,rfl⟩:=Option.map_eq_some_iff.mp hv
           obtain ⟨u,eu,rfl⟩:=Option.map_eq_some_iff.mp ez
           refine ⟨_,rfl,_,_,rfl,rfl,eL2,fun b o e=>?_,Zc,?_,(List.getElem?_eq_some_iff.mp eu).1⟩
           · rw [Zo (Zy e hL2)];exact s1 _ _ e
           · rw [List.take_succ,eu,List.map_append,List.map_append];rfl
         · rintro ys H3 ⟨s3,eL2,rfl,_⟩
           rw [List.length_map,List.length_map,List.take_length] at eL2
           have s03:=s02.trans s3
           refine ⟨L2,_,rfl,SqL.of eL2,_,rfl,?_⟩
           rw [List.any_map]
           cases ha:ws.any (id ∘ fun u=>decide ((Yn u 4).getD 0 < 0)) with
           | true =>
             refine ZQ (q1 (by
               rw [if_neg]
               intro z
               obtain ⟨u,hu,hz⟩:=List.any_eq_true.mp ha
               have:=List.all_eq_true.mp z u hu
               obtain ⟨n,e9⟩:=hsome u hu
               rw [e9] at this
               have h1:0≤n:=of_decide_eq_true this
               have h2:(Yn u 4).getD 0 < 0:=of_decide_eq_true hz
               rw [e9] at h2
               exact absurd h1 (by show ¬ 0≤n;have h2:n < 0:=h2;omega)) H3 s03)
           | false =>
             refine ZD ⟨_,rfl,q2 _ (if_pos ?_) L H3 s03 (Xz s0 hL) (s3 _ _ eL)⟩
             rw [List.all_eq_true]
             intro u hu
             obtain ⟨n,e9⟩:=hsome u hu
             rw [e9]
             refine decide_eq_true ?_
             by_cases hz:0≤n
             · exact hz
             · have:(ws.any (id ∘ fun u=>decide ((Yn u 4).getD 0 < 0)))=true:=List.any_eq_true.mpr ⟨u,hu,by show decide ((Yn u 4).getD 0 < 0)=true;rw [e9];exact decide_eq_true (show n < 0 by omega)⟩
               rw [ha] at this;cases this
     · exact Uq (by simp;exact c) (q1 (by rw [if_neg c]) H2 s02)
def Xv:List Str→List (V×V)
 | []=>[]
 | r::rs=>match Vg r with
   | none=>[]
   | some p=>p::Xv rs
end
end K72
set_option maxHeartbeats 4000000
namespace K72
open PySem L2
inductive PvL (H:Hp):List V→List (V×V)→Prop
 | nil:PvL H [] []
 | cons {t x y vs ps}:H t=some (.tup [x,y])→PvL H vs ps→PvL H (.ref t::vs) ((x,y)::ps)
theorem PvL.tf {H H':Hp}(s:TF H H'):∀{vs ps},PvL H vs ps→PvL H' vs ps
 | _,_,.nil=>.nil
 | _,_,.cons a b=>.cons (s.tup _ _ a) (b.tf s)
theorem PvL.app {H:Hp}{t:Addr}{x y:V}:∀{vs ps},PvL H vs ps→H t=some (.tup [x,y])→PvL H (vs++[.ref t]) (ps++[(x,y)])
 | _,_,.nil,h=>.cons h .nil
 | _,_,.cons a b,h=>.cons a (b.app h)
theorem PvL.len {H:Hp}:∀{vs ps},PvL H vs ps→vs.length=ps.length
 | _,_,.nil=>rfl
 | _,_,.cons _ b=>by rw [List.length_cons,List.length_cons,b.len]
theorem PvL.at {H:Hp}:∀{vs ps}{i:Nat}{v:V},PvL H vs ps→vs[i]?=some v→∃ t x y,v=.ref t∧ps[i]?=some (x,y)∧H t=some (.tup [x,y])
 | _,_,_,_,.nil,h=>by simp at h
 | _,_,0,_,.cons a _,h=>by cases h;exact ⟨_,_,_,rfl,rfl,a⟩
 | _,_,i+1,_,.cons _ b,h=>PvL.at (i:=i) b h
theorem ZcA:∀ rows:List Str,(Xv rows).length≤rows.length
 | []=>Nat.le_refl _
 | r::rs=>by
   have:=ZcA rs
   rw [Xv]
   split
   · exact Nat.zero_le _
   · rw [List.length_cons,List.length_cons];omega
section
variable {P:Program}{w:World}{K:PySem.W.Frag}{mg:Str→Option Value}{base:Heap}{tk:Tok}
def spSh:Sp:=fun vs H Q _=>∃(a:Addr)(rows:List Str),vs=[.ref a]∧H a=some (.lst (rows.map V.str))∧(∀ r∈rows,r.length≤90000)∧rows.length≤1000∧∀ l us H',Same H H'→H l=none→H' l=some (.lst us)→PvL H' us (Xv rows)→Q (.ref l) H'
abbrev nSh:List Str:=["rows","settings","row","setting"]
abbrev ZhF:List Str:=["rows"]
theorem scSh:Zs nSh ZhF (Zj s_settings_ahead):=⟨rfl,rfl,rfl,by decide +kernel,rfl,by decide +kernel,by decide +kernel⟩
theorem Zgy {f:Addr}{fd:FuncData}(F:Fun K "settings_ahead" "settings_ahead" s_settings_ahead f fd)(T:ZZ mg)(DSf:Def P w K mg base 6 "setting_from" Zhu spSf):FnOk P w K mg base ZV 7 f fd ZhF spSh:=by
 refine F.ok scSh (fun vs H Q E h=>?_) (fun cdv A outer s H vs Q E hr h=>?_)
 · obtain ⟨a,_,rfl,_⟩:=h;rfl
 obtain ⟨a,rows,rfl,ea,hb,hn,q⟩:=h
 refine' ⟨?t,?h,?r⟩
 case h =>
   conv=>arg 2;whnf
   with_reducible refine' (Ze ?h1 (Ze (XE ?h2 ?h3 ?h4 ?h5 (Ze ?h6 (Ze (ZS ?h7 (Zi ZgY) ZE) (Zi ?h8))) ?h9) (Zi ?h10)))
   case h1=>exact Zr (i:=1) scSh.nd rfl (Or.inl rfl) (ZF Za)
   case h2=>exact PassesOwn.never
   case h3=>exact rfl
   case h4=>exact Xp (pv 0)
   case h5=>exact Zw (i:=2) scSh.nd rfl (Or.inl rfl)
   case h6=>exact Zr (i:=3) scSh.nd rfl (Or.inl rfl) (Zq DSf hr (Zb (pv 2) Za))
   case h7=>exact WG (WE (pv 3))
   case h8=>exact Yx (Yc PySem.F.plainAttrs_list PySem.F.slot_list_append PySem.F.type_list_append Yd (pv 1) (Zb (pv 3) Za))
   case h9=>exact fun _=>rfl
   case h10=>exact Zp (pv 1)
 refine ⟨(by show 0≤sizeLine;decide),fun l hl0=>?_⟩
 refine ⟨_,rfl,a,rfl,⟨_,SqL.of (Zh hl0 _ _ _ ea)⟩,?_⟩
 have hsl:=ZcA rows
 refine UT (xs:=rows.map V.str) (fun i σ H'=>∃ (x2 x3:Option V) (us:List V) (ps:List (V×V)),σ=[some (.ref a),some (.ref l),x2,x3]∧Same H H'∧H' l=some (.lst us)∧PvL H' us ps∧Xv rows=ps++Xv (rows.drop i)) ⟨_,_,[],[],rfl,Zh hl0 _,Zc,.nil,by rw [List.drop_zero];rfl⟩ (fun i σ H' _ ⟨_,_,_,_,_,s',_⟩=>SqL.of (s' _ _ ea)) ?_ ?_
 · rintro i v σ H' hv ⟨x2,x3,us,ps,rfl,s',el,hp,hs⟩
   rw [List.getElem?_map] at hv
   obtain ⟨r,er,rfl⟩:=Option.map_eq_some_iff.mp hv
   have hd:rows.drop i=r::rows.drop (i+1):=by
     obtain ⟨h1,h2⟩:=List.getElem?_eq_some_iff.mp er
     rw [List.drop_eq_getElem_cons h1,h2]
   have hpl:=hp.len
   have hsl2:=congrArg List.length hs
   rw [List.length_append] at hsl2
   rw [hd,Xv] at hs
   refine ⟨_,rfl,r,rfl,hb r (List.mem_of_getElem? er),fun e1 H1 s1=>?_,fun x y e1 t H1 s1 ht0 et=>?_⟩
   · rw [e1] at hs
     dsimp only at hs
     rw [List.append_nil] at hs
     refine ⟨_,rfl,_,rfl,ZQ ?_⟩
     exact ⟨_,rfl,q l us H1 (s'.trans s1) hl0 (s1 _ _ el) (by rw [hs];exact hp.tf s1.tf)⟩
   · rw [e1] at hs
     dsimp only at hs
     refine ⟨_,rfl,_,rfl,ZD ?_⟩
     refine ⟨_,rfl,.inl ⟨rfl,_,SqL.of (s1 _ _ el)⟩,_,rfl,l,_,_,rfl,rfl,s1 _ _ el,Xy (show _≤1000 by omega),?_⟩
     have t4:TF H1 (upd H1 l (.lst (us++[.ref t]))):=Zgl (s1 _ _ el)
     exact ⟨_,_,us++[.ref t],ps++[(x,y)],rfl,US (s'.trans s1) hl0,Zc,((hp.tf s1.tf).tf t4).app (t4.tup _ _ et),by rw [List.append_assoc];exact hs⟩
 · rintro σ H' ⟨x2,x3,us,ps,rfl,s',el,hp,hs⟩
   rw [List.length_map,List.drop_length,Xv,List.append_nil] at hs
   exact ⟨_,rfl,q l us H' s' hl0 el (by rw [hs];exact hp)⟩
def spCo:Sp:=fun vs H Q _=>∃(a:Addr)(ns:List Str),vs=[.ref a]∧H a=some (.lst (ns.map V.str))∧ns.Nodup∧ns.length≤1000∧∀ H',Same H H'→Q .non H'
abbrev nCo:List Str:=["names","number","name"]
abbrev ZgI:List Str:=["names"]
theorem scCo:Zs nCo ZgI (Zj s_check_told_once):=⟨rfl,rfl,rfl,by decide +kernel,rfl,by decide +kernel,by decide +kernel⟩
theorem ZiB {f:Addr}{fd:FuncData}(F:Fun K "check_told_once" "check_told_once" s_check_told_once f fd)(T:ZZ mg):FnOk P w K mg base ZV 1 f fd ZgI spCo:=by
 refine F.ok scCo (fun vs H Q E h=>?_) (fun cdv A outer s H vs Q E hr h=>?_)
 · obtain ⟨a,_,rfl,_⟩:=h;rfl
 obtain ⟨a,ns,rfl,ea,hnd,hn,q⟩:=h
 refine' ⟨?t,?h,?r⟩
 case h =>
   conv=>arg 2;whnf
   with_reducible refine' (Zi (XE ?h1 ?h2 ?h3 ?h4 (Zi (ZS ?h5 (Zi ZaD) ZE)) ?h6))
   case h1=>exact PassesOwn.never
   case h2=>exact rfl
   case h3=>exact ZgE rfl T.enumerate (pv 0)
   case h4=>exact XO rfl (ZP (Zw (i:=1) scCo.nd rfl (Or.inl rfl)) (ZP (Zw (i:=2) scCo.nd rfl (Or.inl rfl)) Xo))
   case h5=>exact ZA Wc (pv 2) (Yq Xf (pv 0) YC (Yk (pv 1))) rfl
   case h6=>exact fun _=>rfl
 refine ⟨_,rfl,a,_,rfl,ea,?_⟩
 refine Zge (xs:=ns.map V.str) (fun i σ H'=>∃ (x1 x2:Option V),σ=[some (.ref a),x1,x2]∧Same H H') ⟨_,_,rfl,Same.refl _⟩ (fun i σ H' _ ⟨_,_,_,s'⟩=>SqL.of (s' _ _ ea)) ?_ ?_
 · rintro i v t σ H' hv ht ⟨x1,x2,rfl,s'⟩
   rw [List.getElem?_map] at hv
   obtain ⟨r,er,rfl⟩:=Option.map_eq_some_iff.mp hv
   have s1:=Zh ht (.tup [.int (i:Int),.str r])
   refine ⟨t,_,rfl,SqT.of Zc,rfl,_,_,rfl,_,_,rfl,rfl,?_⟩
   generalize upd H' t (.tup [.int (i:Int),.str r])=H1 at s1 ⊢
   refine ⟨_,rfl,_,rfl,?_⟩
   dsimp only [WV]
   refine ⟨_,rfl,_,rfl,a,_,rfl,SqL.of (s1 _ _ (s' _ _ ea)),fun c hc=>?_⟩
   rw [Ur,← List.map_take]
   have s2:=Zh hc (.lst ((ns.take i).map V.str))
   refine ⟨c,_,rfl,.inl (SqL.of Zc),rfl,Wz _,_,rfl,?_⟩
   have hno:YG (.str r) ((ns.take i).map V.str)=false:=by
     unfold YG
     rw [List.any_map]
     rw [Bool.eq_false_iff]
     intro z
     obtain ⟨y,hy,e⟩:=List.any_eq_true.mp z
     have ey:y=r:=by simpa [XL] using e
     obtain ⟨j,hj⟩:=List.mem_iff_getElem?.mp hy
     rw [ey,List.getElem?_take] at hj
     split at hj
     · rename_i hji
       have h1:=(List.getElem?_eq_some_iff.mp hj).1
       have h2:=(List.getElem?_eq_some_iff.mp er).1
       have:=(List.getElem_inj (h₀:=h1) (h₁:=h2) hnd).mp (by rw [(List.getElem?_eq_some_iff.mp hj).2,(List.getElem?_eq_some_iff.mp er).2])
       omega
     · cases hj
   exact XI hno ⟨_,_,rfl,(s'.trans s1).trans s2⟩
 · rintro σ H' ⟨x1,x2,rfl,s'⟩
   exact q H' s'
def Zeq (ns:List Str)(p:Pg):Prop:=match p with
 | .set x _ _=>x∈ns
 | .look x=>x∈ns
 | _=>True
def spCn:Sp:=fun vs H Q _=>∃(a b:Addr)(k:Nat)(us:List V)(hs:List (Nat×Pg))(ns:List Str),vs=[.ref a,.int (k:Int),.ref b]∧k≤1000∧H a=some (.lst us)∧HdL H us hs∧H b=some (.lst (ns.map V.str))∧(∀ x∈hs,x.2.ok∧Zeq ns x.2)∧∀ H',Same H H'→Q .non H'
abbrev nCn:List Str:=["heads","first","names","number","level","head"]
abbrev Zhx:List Str:=["heads","first","names"]
theorem scCn:Zs nCn Zhx (Zj s_check_names):=⟨rfl,rfl,rfl,by decide +kernel,rfl,by decide +kernel,by decide +kernel⟩
theorem Zgu {f:Addr}{fd:FuncData}(F:Fun K "check_names" "check_names" s_check_names f fd)(T:ZZ mg):FnOk P w K mg base ZV 1 f fd Zhx spCn:=by
 refine F.ok scCn (fun vs H Q E h=>?_) (fun cdv A outer s H vs Q E hr h=>?_)
 · obtain ⟨a,b,k,_,_,_,rfl,_⟩:=h;rfl
 obtain ⟨a,b,k,us,hs,ns,rfl,hk,ea,hd,eb,hok,q⟩:=h
 refine' ⟨?t,?h,?r⟩
 case h =>
   conv=>arg 2;whnf
   with_reducible refine' (Zi (XE ?h1 ?h2 ?h3 ?h4 (Zi (ZS ?h5 (Zi ZaD) ZE)) ?h6))
   case h1=>exact PassesOwn.never
   case h2=>exact rfl
   case h3=>exact ZcQ rfl T.enumerate (pv 0) (pv 1)
   case h4=>exact XO rfl (ZP (Zw (i:=3) scCn.nd rfl (Or.inl rfl)) (ZP (XO rfl (ZP (Zw (i:=4) scCn.nd rfl (Or.inl rfl)) (ZP (Zw (i:=5) scCn.nd rfl (Or.inl rfl)) Xo))) Xo))
   case h5=>exact PW.pt (ZeW (ZA Wc (ZB Xc (pv 5) Zd (fun _ _=>rfl)) (ZI (Zb Zk (Zb Zk Za))) rfl) (ZdP (ZA Um (ZB Xc (pv 5) Zd (fun _ _=>rfl)) (pv 2) rfl)))
   case h6=>exact fun _=>rfl
 refine ⟨_,rfl,a,rfl,_,rfl,k,_,rfl,by omega,ea,?_⟩
 refine Zbr (k:=k) (xs:=us) (fun i σ H'=>∃ (x3 x4 x5:Option V),σ=[some (.ref a),some (.int (k:Int)),some (.ref b),x3,x4,x5]∧Same H H') ⟨_,_,_,rfl,Same.refl _⟩ (fun i σ H' _ ⟨_,_,_,_,s'⟩=>SqL.of (s' _ _ ea)) ?_ ?_
 · rintro i v t σ H' hv ht ⟨x3,x4,x5,rfl,s'⟩
   obtain ⟨x,ex,t2,h2,rfl,et2,eh2⟩:=hd.at hv
   obtain ⟨lv,p⟩:=x
   obtain ⟨hp,hnm⟩:=hok _ (List.mem_of_getElem? ex)
   have s1:=Zh ht (.tup [.int ((i+k:Nat):Int),.ref t2])
   refine ⟨t,_,rfl,SqT.of Zc,rfl,_,_,rfl,_,_,rfl,?_⟩
   generalize upd H' t (.tup [.int ((i+k:Nat):Int),.ref t2])=H1 at s1 ⊢
   have eh:=s1 _ _ (s' _ _ eh2)
   refine ⟨t2,_,rfl,SqT.of (s1 _ _ (s' _ _ et2)),rfl,_,_,rfl,_,_,rfl,rfl,rfl,?_⟩
   refine ⟨_,rfl,h2,_,_,_,rfl,rfl,SqT.of eh,Zx (j:=0) rfl,(by show 2≤sizeLine;decide),fun tp htp=>?_⟩
   have s2:=Zh htp (.tup [.str "set",.str "look"])
   refine ⟨tp,_,rfl,.inr (SqT.of Zc),rfl,rfl,_,rfl,?_⟩
   have eh3:=s2 _ _ eh
   have eb3:=s2 _ _ (s1 _ _ (s' _ _ eb))
   have s3:=(s'.trans s1).trans s2
   generalize upd H1 tp (.tup [.str "set",.str "look"])=H3 at eh3 eb3 s3 ⊢
   have isin:∀ {x:Str},x∈ns→(!YG (.str x) (ns.map V.str))=false:=fun {x} hx=>by
     have:YG (.str x) (ns.map V.str)=true:=by
       unfold YG
       rw [List.any_map]
       exact List.any_eq_true.mpr ⟨x,hx,by simp [XL]⟩
     rw [this];rfl
   cases p with
   | set x v s=>exact Uq (show YG (.str (Str.ofString "set")) [.str (Str.ofString "set"),.str (Str.ofString "look")]=true by decide +kernel) ⟨_,rfl,h2,_,_,_,rfl,rfl,SqT.of eh3,Zx (j:=1) rfl,_,rfl,b,_,rfl,.inl (SqL.of eb3),rfl,Wz _,_,rfl,XI (isin hnm) ⟨_,_,_,rfl,s3⟩⟩
   | look x=>exact Uq (show YG (.str (Str.ofString "look")) [.str (Str.ofString "set"),.str (Str.ofString "look")]=true by decide +kernel) ⟨_,rfl,h2,_,_,_,rfl,rfl,SqT.of eh3,Zx (j:=1) rfl,_,rfl,b,_,rfl,.inl (SqL.of eb3),rfl,Wz _,_,rfl,XI (isin hnm) ⟨_,_,_,rfl,s3⟩⟩
   | slot w s =>
     rcases (show (w="back"∨w="copy") from hp.1) with rfl | rfl
     · exact XI (show YG (.str (Str.ofString "back")) [.str (Str.ofString "set"),.str (Str.ofString "look")]=false by decide +kernel) (ZD ⟨_,_,_,rfl,s3⟩)
     · exact XI (show YG (.str (Str.ofString "copy")) [.str (Str.ofString "set"),.str (Str.ofString "look")]=false by decide +kernel) (ZD ⟨_,_,_,rfl,s3⟩)
   | pass=>exact XI (show YG (.str (Str.ofString "pass")) [.str (Str.ofString "set"),.str (Str.ofString "look")]=false by decide +kernel) (ZD ⟨_,_,_,rfl,s3⟩)
   | blk w ps =>
     rcases (show (w="begin"∨w="late") from hp.1) with rfl | rfl
     · exact XI (show YG (.str (Str.ofString "begin")) [.str (Str.ofString "set"),.str (Str.ofString "look")]=false by decide +kernel) (ZD ⟨_,_,_,rfl,s3⟩)
     · exact XI (show YG (.str (Str.ofString "late")) [.str (Str.ofString "set"),.str (Str.ofString "look")]=false by decide +kernel) (ZD ⟨_,_,_,rfl,s3⟩)
   | inn s ps=>exact XI (show YG (.str (Str.ofString "in")) [.str (Str.ofString "set"),.str (Str.ofString "look")]=false by decide +kernel) (ZD ⟨_,_,_,rfl,s3⟩)
 · rintro σ H' ⟨x3,x4,x5,rfl,s'⟩
   exact q H' s'
end
end K72
set_option maxHeartbeats 4000000
namespace K72
open PySem L2
abbrev stS:Str:=Str.ofString "setting"
abbrev wvS:Str:=Str.ofString "weave"
def Yr (p:Str×V):Str:=if p.2=.non then Str.join (Str.ofString " ") [stS,p.1] else Str.join (Str.ofString " ") [stS,p.1,ZJ p.2]
def Xn (n:Nat):Str:=Str.ofString (toString (n:Int))
def Yh (ns:List Nat):Str:=Str.join (Str.ofString " ") (wvS::ns.map Xn)
def ZO (ss:List (Str×V))(ns:List Nat)(ps:List Pg):List Str:=ss.map Yr++Yh ns::Yb ps
def shT (ss:List (Str×V))(ns:List Nat)(ps:List Pg):Str:=Str.join (Str.ofString "\n") (ZO ss ns ps)
def Vr (p:Str×V):Prop:=ZH p.1∧(p.2=.non∨IsVal p.2)
def sV (p:Str×V):V×V:=(.str p.1,p.2)
theorem Zkt {x:Str}(h:(32:Nat) ∉ x.cps.toList):Txt.split x (Str.ofString " ")=[x]:=by rw [Uj];exact Vy h
theorem Zhq {x:Str}{v:V}(hx:ZH x)(hv:IsVal v):Yg (x::Txt.split (ZJ v) (Str.ofString " ")) kNV=some [.str x,v]:=by
 have hj:Txt.join " " (Txt.split (ZJ v) (Str.ofString " "))=ZJ v:=by rw [tj];exact StrLaws.join_split _ _
 have hne:=YY (ZJ v) (Str.ofString " ")
 generalize Txt.split (ZJ v) (Str.ofString " ")=sv at hj hne
 have hix:kNV.idxOf ZM=1:=by decide +kernel
 have hmem:ZM∈kNV:=by decide +kernel
 have hw : Yy (x::sv) kNV=[x,ZJ v]:=by
   unfold Yy Xw
   rw [hix]
   by_cases c:(x::sv).length≤kNV.length
   · rw [if_pos (.inr c)]
     cases sv with
     | nil=>exact absurd rfl hne
     | cons a r =>
       cases r with
       | nil =>
         have:a=ZJ v:=by rw [tj] at hj;exact hj
         rw [this]
       | cons b r=>simp at c
   · rw [if_neg (by rintro (z | z);exact z hmem;exact c z)]
     have hl:1+1+(x::sv).length - kNV.length=sv.length+1:=by show 1+1+(sv.length+1) - 2=_;omega
     rw [hl]
     simp only [List.take_succ_cons,List.take_zero,List.drop_succ_cons,List.drop_zero,Nat.add_sub_cancel]
     rw [List.take_length,List.drop_length,hj];try rfl
 have e2:Yu (ZJ v) ZM=some v:=by unfold Yu;rw [if_pos rfl];exact Zbm hv
 have hn:XL v .non=false:=by
   cases v with
   | int i=>rfl
   | str y=>rfl
   | _=>exact hv.elim
 unfold Yg Xk
 rw [hw,if_pos (show [x,ZJ v].length=kNV.length from rfl)]
 show (if YG .non [(Yu x (Str.ofString "name")).getD .non,(Yu (ZJ v) ZM).getD .non]=true then none else some [(Yu x (Str.ofString "name")).getD .non,(Yu (ZJ v) ZM).getD .non])=_
 rw [XZ hx vl_ne.1,e2]
 show (if (XL (.str x) .non || (XL v .non || false))=true then none else some [.str x,v])=_
 rw [hn];rfl
theorem Zjf {p:Str×V}(h:Vr p):Vg (Yr p)=some (sV p):=by
 obtain ⟨x,v⟩:=p
 obtain ⟨hx,hv⟩:=h
 have f1:=Zkt (show (32:Nat) ∉ stS.cps.toList by decide +kernel)
 unfold Vg Yr
 dsimp only
 by_cases c:v=.non
 · rw [if_pos c,Uj,UC (by simp),← Uj]
   show (match Txt.split stS _++(Txt.split x _++[]) with | []=>none | w0::ws=>_)=_
   rw [f1,Xi hx]
   show (if stS=stS then _ else _)=_
   rw [if_pos rfl]
   show (match Yg [x] kN with | some [x]=>some (x,V.non) | some [x,y]=>some (x,y) | _=>none)=_
   rw [UB hx vl_ne.1,c];rfl
 · have hv:=hv.resolve_left c
   rw [if_neg c,Uj,UC (by simp),← Uj]
   show (match Txt.split stS _++(Txt.split x _++(Txt.split (ZJ v) _++[])) with | []=>none | w0::ws=>_)=_
   rw [f1,Xi hx,List.append_nil]
   show (if stS=stS then _ else _)=_
   have hl:¬ (x::Txt.split (ZJ v) (Str.ofString " ")).length=1:=by
     have:=List.length_pos_iff.mpr (YY (ZJ v) (Str.ofString " "))
     rw [List.length_cons];omega
   rw [if_pos rfl]
   show (match Yg (x::Txt.split (ZJ v) (Str.ofString " ")) (if (x::Txt.split (ZJ v) (Str.ofString " ")).length=1 then kN else kNV) with | some [x]=>some (x,V.non) | some [x,y]=>some (x,y) | _=>none)=_
   rw [if_neg hl,Zhq hx hv];rfl
theorem Uk (n:Nat):(Xn n).cps.toList=Wi n:=PySem.W.KIN.signs_num n
theorem Zjc (n:Nat):(32:Nat) ∉ (Xn n).cps.toList:=fun h=>by rw [Uk] at h;have:=Uh h;omega
theorem Zgh {n:Nat}(h:n < 10000):Yn (Xn n) 4=some (n:Int):=by
 have e:=Uk n
 have hl:(Xn n).length=(Xn n).cps.toList.length:=ZL _
 have hm:(Wi n).length≤4:=UJ (k:=3) (by omega)
 have hp:=Zbi n
 have hh:¬ (Wi n).head?=some 45:=fun z=>by
   cases ed:Wi n with
   | nil=>rw [ed] at z;cases z
   | cons a r=>rw [ed] at z;cases z;have:=Uh (m:=n) (c:=45) (by rw [ed];exact List.mem_cons_self ..);omega
 have hf:YN (Xn n)=Wi n:=by unfold YN;rw [e,if_neg hh]
 have hi:PySem.intText? (Xn n)=some (n:Int):=by
   rw [PySem.intText_digits (by rw [e];exact Wt (WU n)) (by rw [e];intro z;rw [z] at hp;simp at hp) (by rw [hl,e];omega),e,Zbl]
 unfold Yn
 rw [hf,if_pos ⟨hp,hm,WU n⟩,hi,Option.getD_some,if_pos (show Str.ofString (toString (n:Int))=Xn n from rfl)]
theorem VU (ns:List Nat):Txt.split (Yh ns) (Str.ofString " ")=wvS::ns.map Xn:=by
 unfold Yh
 rw [Uj]
 refine WS (by simp) fun p hp=>?_
 rcases List.mem_cons.mp hp with rfl | hp
 · exact (show (32:Nat) ∉ (Str.ofString "weave").cps.toList by decide +kernel)
 · obtain ⟨n,_,rfl⟩:=List.mem_map.mp hp
   exact Zjc n
theorem ZeY (ns:List Nat):Vg (Yh ns)=none:=by
 unfold Vg
 rw [VU]
 show (if wvS=stS then _ else none)=none
 rw [if_neg (by decide +kernel)]
theorem ZaA {ns:List Nat}(h:∀ n∈ns,n < 10000):ZaL (Yh ns)=some (ns.map fun n:Nat=>(n:Int)):=by
 unfold ZaL
 rw [VU]
 show (if wvS=wvS then (if ((ns.map Xn).all fun w=>match Yn w 4 with | some n=>decide (0≤n) | none=>false)=true then some ((ns.map Xn).map fun w=>(Yn w 4).getD 0) else none) else none)=_
 rw [if_pos rfl,if_pos,List.map_map]
 · congr 1
   refine List.map_congr_left fun n hn=>?_
   show (Yn (Xn n) 4).getD 0=_
   rw [Zgh (h n hn)];rfl
 · rw [List.all_map,List.all_eq_true]
   intro n hn
   show (match Yn (Xn n) 4 with | some n=>decide (0≤n) | none=>false)=true
   rw [Zgh (h n hn)]
   exact decide_eq_true (by omega)
theorem Zdx:∀{ss:List (Str×V)}{r:Str}{rs:List Str},(∀ p∈ss,Vr p)→Vg r=none→Xv (ss.map Yr++r::rs)=ss.map sV
 | [],r,rs,_,h=>by show Xv (r::rs)=[];rw [Xv,h]
 | p::ss,r,rs,hs,h=>by
   show Xv (Yr p::(ss.map Yr++r::rs))=_
   rw [Xv,Zjf (hs p (List.mem_cons_self ..))]
   dsimp only
   rw [Zdx (fun q hq=>hs q (List.mem_cons_of_mem _ hq)) h];rfl
theorem Zfx {p:Str×V}(h:Vr p):(Yr p).cps.toList.all Yo=true:=by
 obtain ⟨x,v⟩:=p
 have s1:stS.cps.toList.all Yo=true:=by decide +kernel
 unfold Yr
 dsimp only
 rw [Uj]
 split
 · exact UO _ fun y hy=>by
     simp only [List.mem_cons,List.not_mem_nil,or_false] at hy
     rcases hy with rfl | rfl
     · exact s1
     · exact Wa h.1
 · rename_i c
   exact UO _ fun y hy=>by
     simp only [List.mem_cons,List.not_mem_nil,or_false] at hy
     rcases hy with rfl | rfl | rfl
     · exact s1
     · exact Wa h.1
     · exact ZdM (h.2.resolve_left c)
theorem ZgC (ns:List Nat):(Yh ns).cps.toList.all Yo=true:=by
 unfold Yh
 rw [Uj]
 refine UO _ fun y hy=>?_
 rcases List.mem_cons.mp hy with rfl | hy
 · exact (show (Str.ofString "weave").cps.toList.all Yo=true by decide +kernel)
 · obtain ⟨n,_,rfl⟩:=List.mem_map.mp hy
   rw [Uk,List.all_eq_true]
   intro c hc
   have:=Uh hc
   unfold Yo
   simp only [Bool.and_eq_true,decide_eq_true_eq]
   omega
theorem Zjw {ss:List (Str×V)}{ns:List Nat}{ps:List Pg}(hs:∀ p∈ss,Vr p)(ho:Pg.oks ps):∀ r∈ZO ss ns ps,(10:Nat) ∉ r.cps.toList:=by
 have no:∀ {r:Str},r.cps.toList.all Yo=true→(10:Nat) ∉ r.cps.toList:=fun h hc=>absurd (List.all_eq_true.mp h 10 hc) (by decide)
 intro r hr
 rcases List.mem_append.mp hr with hr | hr
 · obtain ⟨p,hp,rfl⟩:=List.mem_map.mp hr
   exact no (Zfx (hs p hp))
 · rcases List.mem_cons.mp hr with rfl | hr
   · exact no (ZgC ns)
   · exact Zhr ho r hr
theorem ZhP {ss:List (Str×V)}{ns:List Nat}{ps:List Pg}(hs:∀ p∈ss,Vr p)(ho:Pg.oks ps):Txt.split (shT ss ns ps) (Str.ofString "\n")=ZO ss ns ps:=by
 unfold shT
 rw [lf1]
 exact WS (by unfold ZO;simp) (Zjw hs ho)
theorem ZfI {ss:List (Str×V)}{ns:List Nat}{ps:List Pg}(hs:∀ p∈ss,Vr p)(hn:∀ n∈ns,n < 10000)(hnl:ns.length≤301)(ho:Pg.oks ps)(hh:Pg.hgts ps≤100):∀ r∈ZO ss ns ps,r.length≤1900:=by
 intro r hr
 have l1:(Str.ofString " ").length=1:=by decide +kernel
 rcases List.mem_append.mp hr with hr | hr
 · obtain ⟨⟨x,v⟩,hp,rfl⟩:=List.mem_map.mp hr
   obtain ⟨hx,hv⟩:=hs _ hp
   have h8:x.length≤8:=hx.2.1
   have h7:stS.length=7:=by decide +kernel
   unfold Yr
   dsimp only
   split
   · have:=XF (Str.ofString " ") [stS,x]
     simp only [List.map_cons,List.map_nil,List.sum_cons,List.sum_nil,List.length_cons,List.length_nil,l1] at this
     omega
   · rename_i c
     have h9:(ZJ v).length≤100:=VX (hv.resolve_left c)
     have:=XF (Str.ofString " ") [stS,x,ZJ v]
     simp only [List.map_cons,List.map_nil,List.sum_cons,List.sum_nil,List.length_cons,List.length_nil,l1] at this
     omega
 · rcases List.mem_cons.mp hr with rfl | hr
   · unfold Yh
     have h5:wvS.length=5:=by decide +kernel
     have h1:=XF (Str.ofString " ") (wvS::ns.map Xn)
     have h2:=UL (n:=4) (ns.map Xn) (fun y hy=>by
       obtain ⟨n,hn2,rfl⟩:=List.mem_map.mp hy
       rw [ZL,Uk]
       exact UJ (k:=3) (by have:=hn n hn2;omega))
     rw [List.length_map] at h2
     simp only [List.map_cons,List.sum_cons,List.length_cons,List.length_map,l1] at h1
     omega
   · have:=UV ho r hr;omega
section
variable {P:Program}{w:World}{K:PySem.W.Frag}{mg:Str→Option Value}{base:Heap}{tk:Tok}
structure ZaP (ss:List (Str×V))(ns:List Nat)(ps:List Pg):Prop where
 so:∀ p∈ss,Vr p
 sn:(ss.map (·.1)).Nodup
 sl:ss.length≤100
 no:∀ n∈ns,n < 10000
 nl:ns.length≤301
 po:Pg.oks ps
 ph:Pg.hgts ps≤100
 pm:Pg.manys ps≤300
 pn:∀ x∈ZT 0 ps,Zeq (ss.map (·.1)) x.2
def spSx (K:PySem.W.Frag):Sp:=fun vs H Q _=>∃(ss:List (Str×V))(ns:List Nat)(ps:List Pg),vs=[.str (shT ss ns ps)]∧ZaP ss ns ps ∧
 ∀ t ls us lp w H',Same H H'→H ls=none→H lp=none→ls≠lp→H' t=some (.tup [.ref ls,.ref lp,w])→H' ls=some (.lst us)→PvL H' us (ss.map sV)→H' lp=some (.lst ((ns.map fun n:Nat=>(n:Int)).map V.int))→DatT K H' w (.tuple (Pg.dats ps))→Q (.ref t) H'
abbrev nSx:List Str:=["text","rows","settings","weave","picks","heads","names"]
abbrev ZgW:List Str:=["text"]
theorem scSx:Zs nSx ZgW (Zj s_sheet_from):=⟨rfl,rfl,rfl,by decide +kernel,rfl,by decide +kernel,by decide +kernel⟩
theorem Zia {f:Addr}{fd:FuncData}(F:Fun K "sheet_from" "sheet_from" s_sheet_from f fd)(T:ZZ mg)(DSh:Def P w K mg base 7 "settings_ahead" ZhF spSh)(DPk:Def P w K mg base 7 "picks_from" ZgU spPk)(DHs:Def P w K mg base 7 "heads_from" ZhO spHs)(DCo:Def P w K mg base 7 "check_told_once" ZgI spCo)(DCn:Def P w K mg base 7 "check_names" Zhx spCn)(DPo:Def P w K mg base 7 "program_of" ZgH (spPo K)):FnOk P w K mg base ZV 8 f fd ZgW (spSx K):=by
 refine F.ok scSx (fun vs H Q E h=>?_) (fun cdv A outer s H vs Q E hr h=>?_)
 · obtain ⟨ss,ns,ps,rfl,_⟩:=h;rfl
 obtain ⟨ss,ns,ps,rfl,O,q⟩:=h
 refine' ⟨?t,?h,?r⟩
 case h =>
   conv=>arg 2;whnf
   with_reducible refine' (Ze ?h1 (Ze ?h2 (Ze ?h3 (WY ?h4 (Ze (ZS ?h5 (Zi ZaD) ZE) (Ze ?h6 (Ze ?h7 (Ze ?h8 (Ze ?h9 (Zi ?h10))))))))))
   case h1=>exact Zr (i:=1) scSx.nd rfl (Or.inl rfl) (Yc PySem.F.plainAttrs_str PySem.F.slot_str_split PySem.F.type_str_split Va (pv 0) (Zb Zk Za))
   case h2=>exact Zr (i:=2) scSx.nd rfl (Or.inl rfl) (Zq DSh hr (Zb (pv 1) Za))
   case h3=>exact Zr (i:=3) scSx.nd rfl (Or.inl rfl) (Zm ZK rfl T.len PySem.boot_len (Zb (pv 2) Za))
   case h4=>exact Zr (i:=4) scSx.nd rfl (Or.inl rfl) (Yz (ZA VF (pv 3) (Zm ZK rfl T.len PySem.boot_len (Zb (pv 1) Za)) (ZC _)) (Zq DPk hr (Zb (ZB ZG (pv 1) (pv 3) (fun _ _=>rfl)) Za)) YI)
   case h5=>exact WG (WE (pv 4))
   case h6=>exact Zr (i:=5) scSx.nd rfl (Or.inl rfl) (Zq DHs hr (Zb (Yq Xf (pv 1) (Yk (Zl Ye (pv 3) Zd)) YC) (Zb (Zl Ye (pv 3) Zd) Za)))
   case h7=>exact VO (i:=6) (xa:="name") (xb:="default") (CompOkT.of nSx s_sheet_from rfl rfl (by decide +kernel)) rfl scSx.nd rfl (Or.inl rfl) (Xp (pv 2)) (fun _ _ _ _ _=>Zbk (K:=K) rfl rfl (Zw (i:=7) (show (Wl nSx "name" "default"++(["name","default"]:List Str)).Nodup by decide +kernel) rfl (Or.inl rfl) (Or.inr rfl)) (Zw (i:=8) (show (Wl nSx "name" "default"++(["name","default"]:List Str)).Nodup by decide +kernel) rfl (Or.inl rfl) (Or.inr rfl)))  (fun _ _ _ _ _=>pv 7) rfl
   case h8=>exact Yx (Zq DCo hr (Zb (pv 6) Za))
   case h9=>exact Yx (Zq DCn hr (Zb (pv 5) (Zb (Zl Ye (pv 3) Zd) (Zb (pv 6) Za))))
   case h10=>exact Zp (ZI (Zb (pv 2) (Zb (pv 4) (Zb (Zq DPo hr (Zb (pv 5) Za)) Za))))
 have hsp:=ZhP (ns:=ns) O.so O.po
 have hbd:=ZfI (ns:=ns) O.so O.no O.nl O.po O.ph
 have hrl:(ZO ss ns ps).length≤500:=by
   unfold ZO
   rw [List.length_append,List.length_cons,List.length_map,XC]
   have:=O.sl;have:=O.pm;omega
 have hml:(shT ss ns ps).length≤1000000:=by
   have h1:=UL (n:=1900) (ZO ss ns ps) hbd
   have h2:=XF (Str.ofString "\n") (ZO ss ns ps)
   rw [show (Str.ofString "\n").length=1 by decide +kernel] at h2
   unfold shT;omega
 refine ⟨_,rfl,rfl,_,_,rfl,rfl,(by decide +kernel),hml,fun rl hrl0=>?_⟩
 rw [hsp]
 have s1:=Zh hrl0 (.lst ((ZO ss ns ps).map V.str))
 have erl:upd H rl (.lst ((ZO ss ns ps).map V.str)) rl=_:=Zc
 generalize upd H rl (.lst ((ZO ss ns ps).map V.str))=H1 at s1 erl ⊢
 refine ⟨_,rfl,rl,_,rfl,erl,fun r hr=>Nat.le_trans (hbd r hr) (by decide),by omega,fun ls us H2 s2 hls els hpv=>?_⟩
 have hsets:Xv (ZO ss ns ps)=ss.map sV:=Zdx O.so (ZeY ns)
 rw [hsets] at hpv
 have hul:us.length=ss.length:=by rw [hpv.len,List.length_map]
 refine ⟨_,rfl,ls,us,rfl,.inl (SqL.of els),?_⟩
 rw [hul]
 have erl2:=s2 _ _ erl
 have hwat:((ZO ss ns ps).map V.str)[ss.length]?=some (.str (Yh ns)):=by
   unfold ZO
   rw [List.getElem?_map,List.getElem?_append_right (by rw [List.length_map];exact Nat.le_refl _),List.length_map,Nat.sub_self];rfl
 have hwlt:ss.length < (ZO ss ns ps).length:=by unfold ZO;rw [List.length_append,List.length_map,List.length_cons];omega
 have hwm:Yh ns∈ZO ss ns ps:=by unfold ZO;simp
 refine ⟨fun σ H3=>∃ lp,σ=[some (.str (shT ss ns ps)),some (.ref rl),some (.ref ls),some (.int (ss.length:Int)),some (.ref lp),none,none]∧Same H2 H3∧H2 lp=none∧H3 lp=some (.lst ((ns.map fun n:Nat=>(n:Int)).map V.int)),?_,?_⟩
 · refine ⟨_,rfl,_,rfl,rl,_,rfl,.inl (SqL.of erl2),_,_,rfl,rfl,_,rfl,?_⟩
   rw [List.length_map,decide_eq_true (show (ss.length:Int) < ((ZO ss ns ps).length:Int) by omega)]
   refine ZQ ⟨_,rfl,_,rfl,rl,_,_,_,rfl,rfl,SqL.of erl2,Zx hwat,Yh ns,rfl,Nat.le_trans (hbd _ hwm) (by decide),fun z=>absurd z (by rw [ZaA O.no];simp),fun ns' z lp H3 s3 hlp elp=>?_⟩
   rw [ZaA O.no] at z
   cases z
   exact ⟨lp,rfl,s3,hlp,elp⟩
 rintro σ H3 ⟨lp,rfl,s3,hlp,elp⟩
 refine ⟨_,rfl,_,rfl,ZD ?_⟩
 have erl3:=s3 _ _ erl2
 have els3:=s3 _ _ els
 refine ⟨_,rfl,_,rfl,_,_,rfl,rfl,_,rfl,?_⟩
 dsimp only [WV]
 refine ⟨rl,_,rfl,SqL.of erl3,fun c hc=>?_⟩
 have hcut:YV ((ZO ss ns ps).map V.str) (some ((ss.length:Int)+1)) none=((ZT 0 ps).map YL).map V.str:=by
   rw [show ((ss.length:Int)+1)=((ss.length+1:Nat):Int) by omega,Zag,← List.map_drop,← WZ]
   unfold ZO
   rw [List.drop_append,List.length_map]
   simp
 rw [hcut]
 have s4:=Zh hc (.lst (((ZT 0 ps).map YL).map V.str))
 have ec:upd H3 c (.lst (((ZT 0 ps).map YL).map V.str)) c=_:=Zc
 generalize upd H3 c (.lst (((ZT 0 ps).map YL).map V.str))=H4 at s4 ec ⊢
 obtain ⟨_,_,pok⟩:=ZdB ps
 have hall:=Wr ps 0 O.po
 have hfl:(ZT 0 ps).length≤1000:=by rw [ZcT];have:=O.pm;omega
 have hph:=O.ph
 have hpm:=O.pm
 have hsl:=O.sl
 refine ⟨_,rfl,_,_,rfl,rfl,?_⟩
 dsimp only [YX]
 refine ⟨c,ss.length+1,ZT 0 ps,by rw [show ((ss.length:Int)+1)=((ss.length+1:Nat):Int) by omega];rfl,by omega,ec,fun x hx=>?_,pok,hfl,fun hl vs H5 s5 ehl hd=>?_⟩
 · have:=hall x hx;exact ⟨this.1,by omega⟩
 have s25:=(s3.trans s4).trans s5
 have els5:=s25 _ _ els
 have hpv5:=hpv.tf s25.tf
 refine ⟨_,rfl,ls,rfl,⟨_,SqL.of els5⟩,fun D hD=>?_⟩
 refine ZeF (K:=K) (xs:=us) (Zv (show _≤1000 by omega)) (fun i ys H'=>Same H5 H'∧H' D=some (.lst ys)∧ys=((ss.map (·.1)).take i).map V.str∧i≤ss.length) ⟨Zh hD _,Zc,rfl,Nat.zero_le _⟩ ?_ ?_ ?_
 · rintro i ys H' ⟨s6,_,rfl,hi⟩
   exact ⟨by rw [List.length_map,List.length_take,List.length_map];omega,SqL.of (s6 _ _ els5)⟩
 · rintro i v ys H' wa wb hv ⟨s6,eD,rfl,hi⟩
   obtain ⟨t,x,y,rfl,exy,et⟩:=hpv5.at hv
   rw [List.getElem?_map] at exy
   obtain ⟨⟨z,vz⟩,ez,e9⟩:=Option.map_eq_some_iff.mp exy
   cases e9
   refine ⟨t,_,rfl,SqT.of (s6 _ _ et),rfl,_,_,rfl,_,_,rfl,rfl,⟨_,_,rfl⟩,_,rfl,eD,fun b o e=>?_,Zc,?_,(List.getElem?_eq_some_iff.mp ez).1⟩
   · rw [Zo (Zy e hD)];exact s6 _ _ e
   · rw [List.take_succ,List.getElem?_map,ez,List.map_append];rfl
 · rintro ys H6 ⟨s6,eD,rfl,_⟩
   rw [hul,List.take_of_length_le (by rw [List.length_map];exact Nat.le_refl _)] at eD
   refine ⟨_,rfl,D,_,rfl,eD,O.sn,by rw [List.length_map];omega,fun H7 s7=>?_⟩
   have s57:=s6.trans s7
   refine ⟨_,rfl,_,rfl,_,_,rfl,rfl,_,rfl,?_⟩
   refine ⟨hl,D,ss.length+1,vs,ZT 0 ps,ss.map (·.1),rfl,by omega,s57 _ _ ehl,hd.tf s57.tf,s7 _ _ eD,fun x hx=>⟨(hall x hx).1,O.pn x hx⟩,fun H8 s8=>?_⟩
   have s58:=s57.trans s8
   refine ⟨_,rfl,_,rfl,_,rfl,hl,vs,ps,rfl,s58 _ _ ehl,hd.tf s58.tf,O.po,by omega,fun w9 H9 s9 dw=>⟨(by show 3≤sizeLine;decide),fun t ht=>?_⟩⟩
   have s59:=s58.trans s9
   have s10:=Zh ht (.tup [.ref ls,.ref lp,w9])
   have sA:Same H2 _:=(s25.trans s59).trans s10
   have sB:Same H3 _:=(((s4.trans s5).trans s59)).trans s10
   exact q t ls us lp w9 _ ((s1.trans s2).trans sA) (Xz s1 hls) (Xz (s1.trans s2) hlp) (fun z=>by rw [← z,els] at hlp;cases hlp) Zc (sA _ _ els) (hpv.tf sA.tf) (sB _ _ elp) (dw.same s10)
end
end K72
set_option maxHeartbeats 4000000
namespace K72
open PySem L2
section
variable {P:Program}{w:World}{K:PySem.W.Frag}{mg:Str→Option Value}{base:Heap}
abbrev nNm:List Str:=["_law_box_here","_law_many","_law_letters","_law_size","_law_stem","_law_first","_law_step","_law_at","_law_found","_law_k","_law_one","_law_other"]
abbrev pnNm:List Str:=["_law_box_here","_law_many"]
theorem scNm:Zs nNm pnNm (Zj s_l_names):=⟨rfl,rfl,rfl,by decide +kernel,rfl,by decide +kernel,by decide +kernel⟩
theorem Zhz {f:Addr}{fd:FuncData}(F:Fun K "_law_names" "_law_names" s_l_names f fd)(T:ZZ mg)(DT:DTk P w K mg base 1):FnOk P w K mg base ZV 2 f fd pnNm ZcI:=by
 refine F.ok scNm (fun vs H Q E h=>?_) (fun cdv A outer s H vs Q E hr h=>?_)
 · obtain ⟨p,n,many,Δ,rfl,_⟩:=h;rfl
 obtain ⟨p,n,many,Δ,rfl,S,hn,h0,h1,q⟩:=h
 have hr1:=hr
 refine' ⟨?t,?h,?r⟩
 case h =>
   conv=>arg 2;whnf
   with_reducible refine' (Ze ?h1 (Ze ?h2 (Ze ?h3 (Ze ?h4 (Ze (XE ?h5 ?h6 ?h7 ?h8 (Ze ?h9 (Zi ?h10)) ?h11) (Zi ?h12))))))
   case h1=>exact Ui (ZI (Zb Zk (Zb (Zl Ye Zd (Zq DT hr1 (Zb (pv 0) (Zb Zd Za)))) Za))) (XO rfl (ZP (Zw (i:=2) scNm.nd rfl (Or.inr rfl)) (ZP (Zw (i:=3) scNm.nd rfl (Or.inl rfl)) Xo)))
   case h2=>exact Zr (i:=4) scNm.nd rfl (Or.inl rfl) (Yc PySem.F.plainAttrs_str PySem.F.slot_str_join PySem.F.type_str_join Ws Zk (Zb (XW (CompOk.of nNm s_l_names rfl rfl (by decide +kernel)) rfl (WA rfl T.range (Zb (Zl XA (pv 3) Zd) Za))  (fun _ _ _ _ _=>ZB ZaO (pv 2) (Zq DT hr1 (Zb (pv 0) (Zb Zd Za))) (fun _ _=>rfl))) Za))
   case h3=>exact Zdt (i:=5) (j:=6) (k:=7) rfl scNm.nd rfl rfl rfl (by decide) (by decide) (by decide) rfl rfl rfl (Zb (Zq DT hr1 (Zb (pv 0) (Zb Zd Za))) (Zb (ZB ZG (ZF (Zb Zd (Zb Zd (Zb Zd (Zb Zd Za))))) (Zq DT hr1 (Zb (pv 0) (Zb Zd Za))) (fun _ _=>rfl)) (Zb (Zq DT hr1 (Zb (pv 0) (Zb (Zl XA (pv 3) Zd) Za))) Za))) rfl
   case h4=>exact Zr (i:=8) scNm.nd rfl (Or.inl rfl) (ZF Za)
   case h5=>exact PassesOwn.never
   case h6=>exact rfl
   case h7=>exact WA rfl T.range (Zb (pv 1) Za)
   case h8=>exact Zw (i:=9) scNm.nd rfl (Or.inl rfl)
   case h9=>exact Ui (Zm Zdg rfl T.divmod (by decide +kernel) (Zb (Zl Wh (Zl Ye (pv 5) (Zl Ug (pv 6) (pv 9))) Zd) (Zb Zd Za))) (XO rfl (ZP (Zw (i:=10) scNm.nd rfl (Or.inl rfl)) (ZP (Zw (i:=11) scNm.nd rfl (Or.inl rfl)) Xo)))
   case h10=>exact Yx (Yc PySem.F.plainAttrs_list PySem.F.slot_list_append PySem.F.type_list_append Yd (pv 8) (Zb (Zl Yf (Zl Yf (Zl Yf (Yq Zaw (pv 4) YC (Yk (pv 7))) (ZB ZaO (pv 2) (pv 10) (fun _ _=>rfl))) (ZB ZaO (pv 2) (pv 11) (fun _ _=>rfl))) (Yq Zaw (pv 4) (Yk (pv 7)) YC)) Za))
   case h11=>exact fun _=>rfl
   case h12=>exact Zp (pv 8)
 refine ⟨_,rfl,p,_,7,_,rfl,S,by omega,by decide,by decide,fun r1 H1 a0 a1 S1=>⟨_,_,rfl,rfl,(by show 2≤sizeLine;decide),fun t ht=>⟨t,_,rfl,SqT.of Zc,rfl,_,_,rfl,_,_,rfl,rfl,?_⟩⟩⟩
 generalize hE:upd H1 t _=H2
 have S2:=(S1.newE ht hE).tail
 clear hE
 refine ⟨rfl,_,rfl,_,_,rfl,rfl,_,rfl,by omega,by omega,fun D hD=>?_⟩
 have e1:(2+r1 - 2).toNat=r1.toNat:=by omega
 rw [e1]
 refine VV (Zv (show r1.toNat≤1000 by omega)) S2 hD (fun i ys Δ'=>∃ zs:List Str,ys=zs.map V.str∧(∀ z∈zs,∃ c,z=⟨#[c]⟩∧UY c=true)∧Δ'=(p,Bx (n+1+i))::Δ) ⟨[],rfl,(fun _ h=>nomatch h),rfl⟩ ?_ ?_
 · rintro i ys Δ' H' hi hl ⟨zs,rfl,hz,rfl⟩ S'
   refine ⟨_,rfl,_,rfl,p,_,26,_,rfl,S'.pull p,by omega,by decide,by decide,fun r3 H3 b0 b1 S3=>?_⟩
   obtain ⟨c,hc,hcl⟩:=Zbj (x:=a26) ZaZ b0 (by rw [Ua];exact b1)
   refine ⟨a26,r3,c,rfl,rfl,by rw [Ua];decide,hc,_,⟨zs++[⟨#[c]⟩],by rw [List.map_append];rfl,?_,rfl⟩,S3.pull D⟩
   intro z hz'
   rcases List.mem_append.mp hz' with h | h
   · exact hz z h
   · rw [List.mem_singleton.mp h];exact ⟨c,rfl,hcl⟩
 rintro ys Δ' H3 ⟨zs,rfl,hz,rfl⟩ hl S3
 rw [List.length_map] at hl
 obtain ⟨g1,g2,g3⟩:=ZfB hz
 refine ⟨_,D,zs,rfl,rfl,SqL.of (S3.get D),by omega,?_⟩
 have S4:=S3.tail
 generalize Txt.join (Str.ofString "") zs=stem at *
 refine ⟨_,rfl,p,_,676,_,rfl,S4,by omega,by decide,by decide,fun r5 H5 b0 b1 S5=>⟨(by show 4≤sizeLine;decide),fun l hl4=>?_⟩⟩
 generalize hE:upd H5 l _=H6
 have S6:=S5.newE hl4 hE
 clear hE
 refine ⟨_,rfl,p,_,4,_,rfl,S6.pull p,by omega,by decide,by decide,fun r7 H7 c0 c1 S7=>?_⟩
 obtain ⟨sv,hsm,hsv⟩:=Zdw (xs:=[.int 1,.int 27,.int 5,.int 251]) c0 c1
 obtain ⟨stp,rfl,hst,hst4⟩:∃ z:Int,sv=.int z∧(0≤z∧z≤251)∧(z=1∨z=27∨z=5∨z=251):=by
   simp only [List.mem_cons,List.not_mem_nil,or_false] at hsm
   rcases hsm with rfl | rfl | rfl | rfl<;>exact ⟨_,rfl,⟨by decide,by decide⟩,by decide⟩
 refine ⟨l,_,_,_,rfl,rfl,SqL.of (S7.get l),hsv,?_⟩
 have S8:=S7.drop l
 refine ⟨_,rfl,_,rfl,_,_,rfl,rfl,p,_,_,_,rfl,S8,by omega,by omega,by omega,fun r9 H9 d0 d1 S10=>⟨_,_,_,rfl,?_⟩⟩
 refine ⟨(by show 0≤sizeLine;decide),fun fl hfl=>?_⟩
 generalize hE:upd H9 fl _=H11
 have S11:=S10.newE hfl hE
 clear hE
 refine ⟨_,rfl,many,rfl,by omega,by omega,?_⟩
 refine Zbz (fun i σ H'=>∃ x9 x10 x11 xs,σ=[some (.ref p),some (.int many),some (.str a26),some (.int (2+r1)),some (.str stem),some (.int r5),some (.int stp),some (.int r9),some (.ref fl),x9,x10,x11]∧Sep ((fl,Xh (xs.map V.str))::(p,Bx (n+20))::Δ) H'∧xs.length=i∧(∀ x∈xs,ZH x)∧∀ (j:Nat) (x:Str),xs[j]?=some x→ZeD (Txt.slice stem none (some r9)) (Txt.slice stem (some r9) none) ((r5+stp * (0+(j:Int))) % 676) x)
   ⟨_,_,_,[],rfl,(S11.pull p).le (by omega) |>.pull fl,rfl,(fun _ h=>nomatch h),fun _ _ h=>nomatch h⟩ ?_ ?_
 · rintro i σ H' hi ⟨x9,x10,x11,xs,rfl,S',hxl,hxs,hnm⟩
   have hb:0≤stp * (0+(i:Int)):=Int.mul_nonneg hst.1 (by omega)
   refine ⟨_,rfl,_,rfl,_,rfl,_,_,rfl,rfl,.inl ⟨by omega,by omega⟩,_,_,rfl,rfl,_,_,rfl,rfl,(by show (0:Int) < 676;decide),?_⟩
   obtain ⟨z,hz⟩:∃ z:Int,(r5+stp * (0+(i:Int))) % 676=z:=⟨_,rfl⟩
   have hz0:0≤z:=by rw [← hz];exact Int.emod_nonneg _ (by decide)
   have hz1:z < 676:=by rw [← hz];exact Int.emod_lt_of_pos _ (by decide)
   refine ⟨z,26,congrArg (fun y=>[V.int y,V.int 26]) hz,⟨by decide,by decide⟩,fun t2 ht2=>⟨t2,_,rfl,SqT.of Zc,rfl,_,_,rfl,_,_,rfl,rfl,?_⟩⟩
   generalize hE:upd H' t2 _=H12
   have S12:=(S'.newE ht2 hE).tail
   clear hE
   obtain ⟨c1',hc1,hcl1⟩:=Zbj (x:=a26) ZaZ (r:=z / 26) (by omega) (by rw [Ua];omega)
   obtain ⟨c2',hc2,hcl2⟩:=Zbj (x:=a26) ZaZ (r:=z % 26) (by omega) (by rw [Ua];omega)
   have hsl:=ZfP (x:=stem) d0 (by omega)
   refine ⟨_,rfl,.inl ⟨rfl,_,SqL.of (S12.get fl)⟩,_,rfl,_,rfl,r9,rfl,stem,rfl,Zv (show stem.length≤1000 by omega),_,rfl,_,rfl,a26,_,c1',rfl,rfl,by rw [Ua];decide,hc1,_,_,rfl,rfl,Zv (show _≤1000 by rw [XX];omega),?_⟩
   refine ⟨_,rfl,_,rfl,a26,_,c2',rfl,rfl,by rw [Ua];decide,hc2,_,_,rfl,rfl,Zv (show _≤1000 by rw [Xe,XX,XX];omega),_,rfl,_,rfl,r9,rfl,stem,rfl,Zv (show stem.length≤1000 by omega),_,_,rfl,rfl,Zv (show _≤1000 by rw [Xe,Xe,XX,XX];omega),?_⟩
   refine ⟨fl,_,_,rfl,rfl,S12.get fl,Xy (show _≤1000 by rw [List.length_map];omega),?_⟩
   have S13:=S12.put fl (.lst (xs.map V.str++[.str (Txt.slice stem none (some r9)++(⟨#[c1']⟩:Str)++(⟨#[c2']⟩:Str)++Txt.slice stem (some r9) none)]))
   refine ⟨_,_,_,xs++[Txt.slice stem none (some r9)++(⟨#[c1']⟩:Str)++(⟨#[c2']⟩:Str)++Txt.slice stem (some r9) none],rfl,by rw [List.map_append];exact S13,by simp [hxl],fun x hx=>?_,fun j x hx=>?_⟩
   · rcases List.mem_append.mp hx with h | h
     · exact hxs x h
     · rw [List.mem_singleton.mp h]
       refine ⟨?_,?_,Zaf (Zaf (Zaf (Zar g3) (Zco hcl1)) (Zco hcl2)) (Zar g3)⟩<;>(rw [Xe,Xe,Xe,XX,XX];omega)
   · by_cases hj:j < xs.length
     · rw [List.getElem?_append_left hj] at hx;exact hnm j x hx
     · have hj2:j=i:=by
         have:=(List.getElem?_eq_some_iff.mp hx).1
         rw [List.length_append,List.length_singleton] at this;omega
       subst hj2
       rw [List.getElem?_append_right (by omega),show j - xs.length=0 by omega] at hx
       cases (show some _=some x from hx)
       rw [hz];exact ⟨c1',c2',rfl,hc1,hc2⟩
 · rintro σ H' ⟨x9,x10,x11,xs,rfl,S',hxl,hxs,hnm⟩
   exact ⟨_,rfl,q fl H' xs S' hxl hxs (ZfQ hst4 (by omega) hnm)⟩
end
end K72
set_option maxHeartbeats 4000000
namespace K72
open PySem L2
section
variable {P:Program}{w:World}{K:PySem.W.Frag}{mg:Str→Option Value}{base:Heap}
def ZbS:Sp:=fun vs H Q _=>∃(p:Addr)(n:Nat)(Δ:Rs),vs=[.ref p]∧Sep ((p,Bx n)::Δ) H∧n≤890000∧∀(v:V)(H':Hp),IsVal v→Sep ((p,Bx (n+52))::Δ) H'→Q v H'
def wordsW:List Str:=["begin","x in y","late "," in","a begin b","in","set a 5 b","weave 3"]
instance (v:V):Decidable (IsVal v):=by unfold IsVal;cases v<;>infer_instance
theorem Zgb:∀ x∈wordsW,IsVal (.str x):=by decide +kernel
abbrev nWo:List Str:=["_law_box_here","_law_words"]
abbrev ZbY:List Str:=["_law_box_here"]
theorem scWo:Zs nWo ZbY (Zj s_l_worth):=⟨rfl,rfl,rfl,by decide +kernel,rfl,by decide +kernel,by decide +kernel⟩
theorem ZlE {f:Addr}{fd:FuncData}(F:Fun K "_law_worth" "_law_worth" s_l_worth f fd)(T:ZZ mg)(DT:DTk P w K mg base 2)(DV:Def P w K mg base 2 "_law_value" ["_law_box_here"] Zal):FnOk P w K mg base ZV 3 f fd ZbY ZbS:=by
 refine F.ok scWo (fun vs H Q E h=>?_) (fun cdv A outer s H vs Q E hr h=>?_)
 · obtain ⟨p,N,Δ,rfl,_⟩:=h;rfl
 have hr1:=hr
 obtain ⟨p,N,Δ,rfl,S,hN,q⟩:=h
 refine' ⟨?t,?h,?r⟩
 case h =>
   conv=>arg 2;whnf
   with_reducible refine' (Ze (Zr (i:=1) ?h1 ?h2 ?h3 (ZF ?h4) ?h5 ?h6) (Zi ?h7))
   case h1=>exact scWo.nd
   case h2=>exact rfl
   case h3=>exact (Or.inl rfl)
   case h4=>(refine' Zbe (vs:=[.str "begin",.str "x in y",.str "late ",.str " in",.str "a begin b",.str "in",.str "set a 5 b",.str "weave 3"]) ?zz;case zz=>decide +kernel)
   case h5=>exact rfl
   case h6=>exact (by first | exact .inl rfl | exact .inr rfl)
   case h7=>exact Zp (Yz (ZA YW (Zq DT hr1 (Zb (pv 0) (Zb Zd Za))) Zd (ZC _)) (ZB ZG (pv 1) (Zq DT hr1 (Zb (pv 0) (Zb Zd Za))) (fun _ _=>rfl)) (Zq DV hr (Zb (pv 0) Za)))
 refine ⟨(show 8≤sizeLine by decide),fun l hl=>?_⟩
 have S0:=S.new hl (.lst (wordsW.map V.str))
 refine ⟨_,rfl,p,N,8,_,rfl,S0.pull p,by omega,by decide,by decide,fun r1 H1 a0 a1 S1=>⟨rfl,_,rfl,?_⟩⟩
 refine Wm (fun c=>?_) (fun c=>?_)
 · refine ⟨_,rfl,_,rfl,p,N+1,8,_,rfl,S1,by omega,by decide,by decide,fun r2 H2 b0 b1 S2=>?_⟩
   obtain ⟨x,hx,he⟩:=Vw (f:=V.str) (xs:=wordsW) b0 b1
   have el:=S2.get l
   exact ⟨l,_,_,_,rfl,rfl,SqL.of el,he,q _ _ (Zgb x hx) ((S2.drop l).le (by omega))⟩
 · exact ⟨_,rfl,p,_,_,rfl,S1,by omega,fun v H2 hv S2=>q v H2 hv ((S2.drop l).le (by omega))⟩
def wordsC:List Str:=["begin","late","in","set","look","back","copy","pass","weave","setting","task"]
instance (x:Str):Decidable (ZH x):=by unfold ZH;infer_instance
theorem ZeV:∀ x∈wordsC,ZH x:=by decide +kernel
def spCa:Sp:=fun vs H Q _=>∃(p:Addr)(n many:Nat)(Δ:Rs),vs=[.ref p,.int (many:Int)]∧Sep ((p,Bx n)::Δ) H∧n≤890000∧many≤100∧∀(l:Addr)(H':Hp)(xs:List Str),Sep ((l,Xh (xs.map V.str))::(p,Bx (n+30))::Δ) H'→(1≤many→xs≠[])→xs.length≤many→(∀ x∈xs,ZH x)→xs.Nodup→Q (.ref l) H'
theorem ZhZ (ws:List Str)(lo hi:Option Int):∃ zs:List Str,YV (ws.map V.str) lo hi=zs.map V.str∧(∀ z∈zs,z∈ws)∧zs.length≤ws.length:=by
 unfold YV
 refine ⟨(ws.drop _).take _,by rw [List.map_take,List.map_drop],fun z hz=>List.mem_of_mem_drop (List.mem_of_mem_take hz),?_⟩
 rw [List.length_take,List.length_drop];omega
theorem Zgq {ws:List Str}{r:Int}(h:0≤r):∃ zs:List Str,YV (ws.map V.str) (some r) none=zs.map V.str∧(∀ z∈zs,z∈ws)∧zs.length≤ws.length∧zs=ws.drop r.toNat :=
 ⟨ws.drop r.toNat,by have:=Zag (xs:=ws.map V.str) (i:=r.toNat);rw [show ((r.toNat:Nat):Int)=r by omega] at this;rw [this,List.map_drop],fun _ h=>List.mem_of_mem_drop h,by rw [List.length_drop];omega,rfl⟩
theorem ZdL {ws:List Str}{r:Int}(h:0≤r):∃ zs:List Str,YV (ws.map V.str) none (some r)=zs.map V.str∧(∀ z∈zs,z∈ws)∧zs.length≤ws.length∧zs=ws.take r.toNat :=
 ⟨ws.take r.toNat,by have:=Ur (xs:=ws.map V.str) (i:=r.toNat);rw [show ((r.toNat:Nat):Int)=r by omega] at this;rw [this,List.map_take],fun _ h=>List.mem_of_mem_take h,by rw [List.length_take];omega,rfl⟩
theorem ZfO:wordsC.Nodup:=by decide +kernel
theorem Zgj {ws:List Str}(j:Nat)(h:ws.Nodup):(ws.drop j++ws.take j).Nodup:=(List.perm_append_comm.nodup_iff).mp (by rw [List.take_append_drop];exact h)
abbrev nCa:List Str:=["_law_box_here","_law_many","_law_words","_law_at","_law_some","_law_first"]
abbrev Zhf:List Str:=["_law_box_here","_law_many"]
theorem scCa:Zs nCa Zhf (Zj s_l_called):=⟨rfl,rfl,rfl,by decide +kernel,rfl,by decide +kernel,by decide +kernel⟩
theorem Zlq {f:Addr}{fd:FuncData}(F:Fun K "_law_called" "_law_called" s_l_called f fd)(T:ZZ mg)(DT:DTk P w K mg base 2)(DN:Def P w K mg base 2 "_law_names" ["_law_box_here","_law_many"] ZcI):FnOk P w K mg base ZV 3 f fd Zhf spCa:=by
 refine F.ok scCa (fun vs H Q E h=>?_) (fun cdv A outer s H vs Q E hr h=>?_)
 · obtain ⟨p,N,many,Δ,rfl,_⟩:=h;rfl
 have hr1:=hr
 obtain ⟨p,N,many,Δ,rfl,S,hN,hm2,q⟩:=h
 refine' ⟨?t,?h,?r⟩
 case h =>
   conv=>arg 2;whnf
   with_reducible refine' (Ze (Zr (i:=2) ?h1 ?h2 ?h3 (ZF ?h4) ?h5 ?h6) (Ze ?h7 (Ze ?h8 (Zi ?h9))))
   case h1=>exact scCa.nd
   case h2=>exact rfl
   case h3=>exact (Or.inl rfl)
   case h4=>(refine' Zbe (vs:=[.str "begin",.str "late",.str "in",.str "set",.str "look",.str "back",.str "copy",.str "pass",.str "weave",.str "setting",.str "task"]) ?zz;case zz=>decide +kernel)
   case h5=>exact rfl
   case h6=>exact (by first | exact .inl rfl | exact .inr rfl)
   case h7=>exact VB (i:=3) (j:=4) rfl scCa.nd rfl rfl (by decide) rfl rfl (Zb (Zq DT hr1 (Zb (pv 0) (Zb Zd Za))) (Zb (ZB ZG (ZF (Zb Zd (Zb Zd (Zb (Zq DT hr1 (Zb (pv 0) (Zb Zd Za))) Za)))) (Zq DT hr1 (Zb (pv 0) (Zb Zd Za))) (fun _ _=>rfl)) Za)) rfl
   case h8=>exact Zr (i:=5) scCa.nd rfl (Or.inr rfl) (Yq Xf (Zl Wg (Yq Xf (pv 2) (Yk (pv 3)) YC) (Yq Xf (pv 2) YC (Yk (pv 3)))) YC (Yk (pv 4)))
   case h9=>exact Zp (Yq Xf (Zl Wg (pv 5) (ZcN (CompOk.of nCa s_l_called rfl rfl (by decide +kernel)) rfl (Xp (Zq DN hr (Zb (pv 0) (Zb (pv 1) Za)))) (fun _ _ _ _ _=>ZA (ZbN (K:=K) rfl) (pv 6) (pv 5) rfl) (fun _ _ _ _ _=>pv 6))) YC (Yk (pv 1)))
 refine ⟨(show 11≤sizeLine by decide),fun l hl=>?_⟩
 have S0:=S.new hl (.lst (wordsC.map V.str))
 refine ⟨_,rfl,p,N,11,_,rfl,S0.pull p,by omega,by decide,by decide,fun r1 H1 a0 a1 S1=>?_⟩
 refine ⟨_,rfl,p,N+1,5,_,rfl,S1,by omega,by decide,by decide,fun r2 H2 b0 b1 S2=>⟨(show 3≤sizeLine by decide),fun t ht=>?_⟩⟩
 have S3:=S2.new ht (.lst [.int 0,.int 0,.int r2])
 refine ⟨_,rfl,p,N+2,3,_,rfl,S3.pull p,by omega,by decide,by decide,fun r3 H3 c0 c1 S4=>?_⟩
 obtain ⟨sm,hsm,hse⟩:=Vw (f:=V.int) (xs:=[0,0,r2]) c0 c1
 have et:=S4.get t
 refine ⟨t,_,_,_,rfl,rfl,SqL.of et,hse,?_⟩
 have S5:=S4.drop t
 have hs4:0≤sm∧sm≤4:=by
   simp only [List.mem_cons,List.not_mem_nil,or_false] at hsm
   rcases hsm with rfl | rfl | rfl<;>omega
 refine ⟨_,_,rfl,?_⟩
 have el:=S5.get l
 refine ⟨_,rfl,_,rfl,_,rfl,l,_,rfl,SqL.of el,fun d1 hd1=>?_⟩
 obtain ⟨z1,e1,m1,n1,hz1⟩:=Zgq (ws:=wordsC) a0
 rw [e1]
 have S6:=S5.new hd1 (.lst (z1.map V.str))
 have el6:=S6.get l
 refine ⟨_,rfl,_,rfl,_,rfl,l,_,rfl,SqL.of el6,fun d2 hd2=>?_⟩
 obtain ⟨z2,e2,m2,n2,hz2⟩:=ZdL (ws:=wordsC) a0
 rw [e2]
 have S7:=S6.new hd2 (.lst (z2.map V.str))
 have hwc:wordsC.length=11:=rfl
 refine ⟨d1,d2,_,_,rfl,rfl,S7.get d1,S7.get d2,Zv (show _≤1000 by rw [List.length_map,List.length_map];omega),fun d3 hd3=>?_⟩
 have S8:=S7.new hd3 (.lst (z1.map V.str++z2.map V.str))
 refine ⟨_,rfl,_,rfl,d3,_,rfl,SqL.of (S8.get d3),fun d4 hd4=>?_⟩
 obtain ⟨fs,e4,m4,n4,hz4⟩:=ZdL (ws:=z1++z2) hs4.1
 have nF:fs.Nodup:=by rw [hz4,hz1,hz2];exact (Zgj _ ZfO).sublist (List.take_sublist _ _)
 rw [List.map_append] at e4
 rw [e4]
 have S9:=(((((S8.new hd4 (.lst (fs.map V.str))).drop d3).drop d2).drop d1).drop l)
 rw [List.length_append] at n4
 have mF:∀ x∈fs,ZH x:=fun x hx=>ZeV x (by
   rcases List.mem_append.mp (m4 x hx) with h | h
   · exact m1 x h
   · exact m2 x h)
 generalize upd _ d4 _=H9 at *
 refine ⟨_,rfl,_,rfl,_,rfl,p,N+3,(many:Int),_,rfl,S9.pull p,by omega,by omega,by omega,fun nl H10 xs S10 hxl hxn hnd=>?_⟩
 have hxl2:xs.length=many:=by rw [hxl];exact Int.toNat_natCast many
 have enl:=S10.get nl
 have ed4:=S10.get d4
 refine ⟨nl,rfl,⟨_,SqL.of enl⟩,fun D hD=>?_⟩
 refine Zez (K:=K) (xs:=xs.map V.str) (Zv (show _≤1000 by rw [List.length_map];omega)) (fun i ys H'=>Same H10 H'∧H' D=some (.lst ys)∧i≤xs.length∧ys=((xs.take i).filter fun x=>!decide (x∈fs)).map V.str) ⟨Zh hD _,Zc,Nat.zero_le _,rfl⟩ ?_ ?_ ?_
 · rintro i ys H' ⟨s1,_,hi,rfl⟩
   refine ⟨?_,SqL.of (s1 _ _ enl)⟩
   have:=List.length_filter_le (fun x=>!decide (x∈fs)) (xs.take i)
   rw [List.length_take] at this
   rw [List.length_map];omega
 · rintro i v ys H' hv ⟨s1,eD,hi,rfl⟩
   rw [List.getElem?_map] at hv
   obtain ⟨x,ex,rfl⟩:=Option.map_eq_some_iff.mp hv
   have hx2:=(List.getElem?_eq_some_iff.mp ex).1
   refine ⟨_,rfl,_,rfl,d4,_,rfl,.inl (SqL.of (s1 _ _ ed4)),rfl,(by rw [List.all_map];exact List.all_eq_true.mpr fun _ _=>rfl),_,rfl,?_⟩
   dsimp only
   rw [if_pos rfl,ZiN]
   have et:xs.take (i+1)=xs.take i++[x]:=by rw [List.take_add_one,ex];rfl
   cases hc:decide (x∈fs) with
   | true=>exact ZD ⟨s1,eD,hx2,by rw [et,List.filter_append,List.filter_cons,hc];simp⟩
   | false=>exact ZQ ⟨_,rfl,eD,fun b o e=>by rw [Zo (Zy e hD)];exact s1 _ _ e,Zc,hx2,by rw [et,List.filter_append,List.filter_cons,hc,List.map_append];simp⟩
 · rintro ys H' ⟨s1,eD,_,rfl⟩
   rw [List.length_map,List.take_length] at eD
   have S11:=S10.made s1 hD eD
   generalize hgs:(xs.filter fun x=>!decide (x∈fs))=gs at *
   have hgl:gs.length≤xs.length:=by rw [← hgs];exact List.length_filter_le _ _
   refine ⟨d4,D,_,_,rfl,rfl,S11.get d4,eD,Zv (show _≤1000 by rw [List.length_map,List.length_map];omega),fun d5 hd5=>?_⟩
   rw [← List.map_append]
   have S12:=S11.new hd5 (.lst ((fs++gs).map V.str))
   refine ⟨_,rfl,_,rfl,d5,_,rfl,SqL.of (S12.get d5),fun d6 hd6=>?_⟩
   rw [Ur,← List.map_take]
   have S13:=(((((S12.new hd6 (.lst (((fs++gs).take many).map V.str))).drop d5).drop D).drop nl).drop d4)
   have S14:Sep ((p,Bx (N+30))::_) _:=(S13.pull p).le (by omega)
   refine q d6 _ ((fs++gs).take many) (S14.pull d6) ?_ (by rw [List.length_take];omega) (fun x hx=>?_) ?_
   · intro hm1 z
     have h0:=congrArg List.length z
     rw [List.length_take,List.length_append,List.length_nil] at h0
     have hf0:fs=[]:=List.eq_nil_of_length_eq_zero (by omega)
     rw [hf0] at hgs
     have:gs=xs:=by rw [← hgs];exact List.filter_eq_self.mpr fun _ _=>rfl
     rw [this,hf0] at h0
     simp only [List.length_nil] at h0
     omega
   · rcases List.mem_append.mp (List.mem_of_mem_take hx) with h | h
     · exact mF x h
     · rw [← hgs] at h;exact hxn x (List.mem_filter.mp h).1
   · refine List.Nodup.sublist (List.take_sublist _ _) (List.nodup_append.mpr ⟨nF,?_,fun a ha c hc e=>?_⟩)
     · rw [← hgs];exact hnd.sublist List.filter_sublist
     · subst e
       rw [← hgs] at hc
       have:=(List.mem_filter.mp hc).2
       rw [decide_eq_true ha] at this;cases this
end
end K72
set_option maxHeartbeats 4000000
namespace K72
open PySem L2
def Zae (K:PySem.W.Frag)(ps:List Pg):Xa:=fun a h=>DatT K h (.ref a) (.tuple (Pg.dats ps))
def YZ (K:PySem.W.Frag)(p:Pg):Xa:=fun a h=>DatT K h (.ref a) p.dat
def Vq (K:PySem.W.Frag)(ps:List Pg):Xa:=fun a h=>∃ vs,h a=some (.lst vs)∧DatTs K h vs (Pg.dats ps)
instance {K:PySem.W.Frag} {ps:List Pg}:Up (Zae K ps):=⟨fun h s=>DatT.same s h⟩
instance {K:PySem.W.Frag} {p:Pg}:Up (YZ K p):=⟨fun h s=>DatT.same s h⟩
instance {K:PySem.W.Frag} {ps:List Pg}:Up (Vq K ps):=⟨fun ⟨vs,e,d⟩ s=>⟨vs,s _ _ e,DatTs.same s d⟩⟩
theorem ZlV {K:PySem.W.Frag}{Δ Δ':Rs}{H:Hp}{ps qs:List Pg}(S:Sep Δ H)(l:Addr)[P:Pull l Δ (Vq K ps) Δ'](vs':List V)(d:DatTs K H vs' (Pg.dats qs)):Sep ((l,Vq K qs)::Δ') (upd H l (.lst vs')):=by
 obtain ⟨vs,el,_⟩:=S.get l
 refine S.updR l _ (fun h ⟨vs,e,_⟩=>⟨_,e,rfl⟩) fun h r l' h' e1 e2 e3=>⟨vs',e1,DatTs.tf ⟨fun b xs q=>e3 b _ (WN q el (fun z=>nomatch z)) q rfl,fun b o u q=>e3 b _ (WN q el (fun z=>nomatch z)) q rfl⟩ d⟩
mutual
def okn (NS:List Str):Pg→Prop
 | .set x v s=>(x∈NS∧ZH x)∧IsVal v∧ZH s
 | .look x=>x∈NS∧ZH x
 | .slot w s=>(w="back"∨w="copy")∧ZH s
 | .pass=>True
 | .blk w ps=>(w="begin"∨w="late")∧WI NS ps
 | .inn s ps=>ZH s∧WI NS ps
def WI (NS:List Str):List Pg→Prop
 | []=>True
 | p::ps=>okn NS p∧WI NS ps
end
theorem Zcu {NS:List Str}:∀{ps qs:List Pg},WI NS ps→WI NS qs→WI NS (ps++qs)
 | [],_,_,h=>h
 | _::_,_,o,h=>⟨o.1,Zcu o.2 h⟩
structure RO (Δ:Rs)(nl sl:Addr)(NS SS:List Str):Prop where
 rd:∀ H,Sep Δ H→H nl=some (.lst (NS.map V.str))∧H sl=some (.lst (SS.map V.str))
 n0:NS≠[]
 s0:SS≠[]
 nl:NS.length≤1000
 sl:SS.length≤1000
 nk:∀ x∈NS,ZH x
 sk:∀ x∈SS,ZH x
section
variable {P:Program}{w:World}{K:PySem.W.Frag}{mg:Str→Option Value}{base:Heap}
def Zai (K:PySem.W.Frag)(n:Nat):Sp:=fun vs H Q _=>∃(p nl sl:Addr)(N many blocks:Nat)(NS SS:List Str)(Δ:Rs),vs=[.ref p,.ref nl,.ref sl,.int (many:Int),.int (blocks:Int)]∧Sep ((p,Bx N)::Δ) H∧RO Δ nl sl NS SS∧blocks≤n∧many≤200∧N+100 * many≤800000 ∧
 ∀ (t:Addr) (H':Hp) (ps:List Pg),Pg.manys ps=many→WI NS ps→Pg.hgts ps≤blocks→Sep ((t,Zae K ps)::(p,Bx (N+100 * many))::Δ) H'→Q (.ref t) H'
abbrev nPr:List Str:=["_law_box_here","_law_names_here","_law_slots","_law_many","_law_blocks","_law_steps","_law_way","_law_name","_law_slot","_law_inner","_law_within","_law_rows_here"]
abbrev Zak:List Str:=["_law_box_here","_law_names_here","_law_slots","_law_many","_law_blocks"]
theorem scPr:Zs nPr Zak (Zj s_l_program):=⟨rfl,rfl,rfl,by decide +kernel,rfl,by decide +kernel,by decide +kernel⟩
theorem Zgv {f:Addr}{fd:FuncData}{n k:Nat}(F:Fun K "_law_program" "_law_program" s_l_program f fd)(T:ZZ mg)(DT:DTk P w K mg base k)(DWo:Def P w K mg base k "_law_worth" ZbY ZbS)(DPr:Def P w K mg base k "_law_program" Zak (fun vs H Q E=>∃ m,m < n∧Zai K m vs H Q E)):FnOk P w K mg base ZV (k+1) f fd Zak (Zai K n):=by
 refine F.ok scPr (fun vs H Q E h=>?_) (fun cdv A outer s H vs Q E hr h=>?_)
 · obtain ⟨p,nl,sl,N,many,blocks,NS,SS,Δ,rfl,_⟩:=h;rfl
 obtain ⟨p,nl,sl,N,many,blocks,NS,SS,Δ,rfl,S,RO,hbn,hm,hN,q⟩:=h
 have hr1:=hr
 refine' ⟨?t,?h,?r⟩
 case h =>
   conv=>arg 2;whnf
   with_reducible refine' (Ze ?h1 (Ze (ZhK ?h2 ?h3 (Ze ?h4 (Ze ?h5 (Zi (ZS ?h6 (Ze ?h7 (Ze ?h8 (Zi ?h9))) (Zi (ZS ?h10 (Zi ?h11) (Ze ?h12 (Zi ?h13))))))))) (Zi ?h14)))
   case h1=>exact Zr (i:=5) scPr.nd rfl (Or.inl rfl) (ZF Za)
   case h2=>exact PassesOwn.never
   case h3=>exact ZA ZbQ (pv 3) Zd (ZC _)
   case h4=>exact VB (i:=6) (j:=3) rfl scPr.nd rfl rfl (by decide) rfl rfl (Zb (Zq DT hr1 (Zb (pv 0) (Zb Zd Za))) (Zb (Zl XA (pv 3) Zd) Za)) rfl
   case h5=>exact VB (i:=7) (j:=8) rfl scPr.nd rfl rfl (by decide) rfl rfl (Zb (ZB ZG (pv 1) (Zq DT hr1 (Zb (pv 0) (Zb (Zm ZK rfl T.len PySem.boot_len (Zb (pv 1) Za)) Za))) (fun _ _=>rfl)) (Zb (ZB ZG (pv 2) (Zq DT hr1 (Zb (pv 0) (Zb (Zm ZK rfl T.len PySem.boot_len (Zb (pv 2) Za)) Za))) (fun _ _=>rfl)) Za)) rfl
   case h6=>exact PW.pt (ZeW (ZA VF (pv 6) Zd (ZC _)) (ZdP (ZA ZbQ (pv 4) Zd (ZC _))))
   case h7=>exact Zr (i:=9) scPr.nd rfl (Or.inl rfl) (Zq DT hr1 (Zb (pv 0) (Zb (Zl Ye (pv 3) Zd) Za)))
   case h8=>exact VB (i:=10) (j:=3) rfl scPr.nd rfl rfl (by decide) rfl rfl (Zb (Zq DPr hr (Zb (pv 0) (Zb (pv 1) (Zb (pv 2) (Zb (pv 9) (Zb (Zl XA (pv 4) Zd) Za)))))) (Zb (Zl XA (pv 3) (pv 9)) Za)) rfl
   case h9=>exact Yx (Yc PySem.F.plainAttrs_list PySem.F.slot_list_append PySem.F.type_list_append Yd (pv 5) (Zb (ZB ZG (ZF (Zb (ZI (Zb Zk (Zb (pv 10) Za))) (Zb (ZI (Zb Zk (Zb (pv 10) Za))) (Zb (ZI (Zb Zk (Zb (pv 8) (Zb (pv 10) Za)))) Za)))) (ZB ZG (ZF (Zb Zd (Zb Zd (Zb Zd (Zb Zd (Zb Zd Za)))))) (pv 6) (fun _ _=>rfl)) (fun _ _=>rfl)) Za))
   case h10=>exact ZA VF (pv 6) Zd (ZC _)
   case h11=>exact Yx (Yc PySem.F.plainAttrs_list PySem.F.slot_list_append PySem.F.type_list_append Yd (pv 5) (Zb (ZI (Zb Zk (Zb (pv 7) (Zb (Zq DWo hr (Zb (pv 0) Za)) (Zb (pv 8) Za))))) Za))
   case h12=>exact Zr (i:=11) scPr.nd rfl (Or.inl rfl) (ZF (Wb (ZI (Zb Zk (Zb (pv 7) Za))) (Wb (ZI (Zb Zk (Zb (pv 7) Za))) (Wb (ZI (Zb Zk (Zb (pv 8) Za))) (Wb (ZI (Zb Zk (Zb (pv 8) Za))) (Wb (ZI (Zb Zk (Zb (pv 8) Za))) (Wb (ZI (Zb Zk Za)) Za rfl) rfl) rfl) rfl) rfl) rfl))
   case h13=>exact Yx (Yc PySem.F.plainAttrs_list PySem.F.slot_list_append PySem.F.type_list_append Yd (pv 5) (Zb (ZB ZG (pv 11) (Zl Wh (Zl XA (pv 6) Zd) Zd) (fun _ _=>rfl)) Za))
   case h14=>exact Zp (ZY Xm rfl T.tuple (by decide +kernel) (Zb (pv 5) Za))
 have hn0:=List.length_pos_iff.mpr RO.n0
 have hs0:=List.length_pos_iff.mpr RO.s0
 have hnl:=RO.nl
 have hsl:=RO.sl
 refine ⟨(show 0≤sizeLine by decide),fun l hl=>?_⟩
 have S0:=(S.new hl (.lst [])).say l (Vq K []) fun h e=>⟨[],e,.nil⟩
 refine ⟨fun m σ H'=>∃ ps y6 y7 y8 y9 y10 y11,σ=[some (.ref p),some (.ref nl),some (.ref sl),some (.int (m:Int)),some (.int (blocks:Int)),some (.ref l),y6,y7,y8,y9,y10,y11]∧Pg.manys ps+m=many∧WI NS ps∧Pg.hgts ps≤blocks∧Sep ((p,Bx (N+100 * (many - m)))::(l,Vq K ps)::Δ) H',⟨many,[],_,_,_,_,_,_,rfl,(show 0+many=many by omega),trivial,Nat.zero_le _,(S0.pull p).le (by omega)⟩,?_⟩
 rintro m σ H' ⟨ps,y6,y7,y8,y9,y10,y11,rfl,hps,hok,hh,S'⟩
 refine ⟨_,rfl,_,_,rfl,rfl,_,rfl,Wm (fun c=>?_) (fun c=>?_)⟩
 · have hc:(0:Int) < (m:Int):=of_decide_eq_true c
   refine ⟨_,fun σ' H2 h=>h,?_⟩
   have lsz:∀ (vs:List V) (Hx:Hp),Vq K ps l Hx→Hx l=some (.lst vs)→vs.length < sizeLine:=by
     rintro vs Hx ⟨vs',e1,d1⟩ e2
     rw [e1] at e2
     cases e2
     exact Xy (show vs.length≤1000 by rw [d1.pgs];have:=Pg.len_manys ps;omega)
   have fin:∀ (pg:Pg) (t:Addr) (Hx:Hp) (vs:List V) (j:Nat) (ji:Int) (y6 y7 y8 y9 y10 y11:Option V),ji=(j:Int)→okn NS pg→pg.hgt≤blocks→pg.many+j=m→Sep ((t,YZ K pg)::(p,Bx (N+100 * (many - j)))::(l,Vq K ps)::Δ) Hx→Hx l=some (.lst vs)→∃ m',m' < m∧∃ ps' z6 z7 z8 z9 z10 z11,([some (.ref p),some (.ref nl),some (.ref sl),some (.int ji),some (.int (blocks:Int)),some (.ref l),y6,y7,y8,y9,y10,y11]:St)=[some (.ref p),some (.ref nl),some (.ref sl),some (.int (m':Int)),some (.int (blocks:Int)),some (.ref l),z6,z7,z8,z9,z10,z11]∧Pg.manys ps'+m'=many∧WI NS ps'∧Pg.hgts ps'≤blocks∧Sep ((p,Bx (N+100 * (many - m')))::(l,Vq K ps')::Δ) (upd Hx l (.lst (vs++[.ref t]))):=by
     rintro pg t Hx vs j ji y6 y7 y8 y9 y10 y11 rfl hpo hph hpm Sx elx
     obtain ⟨vs',e1,d1⟩:=Sx.get l
     rw [elx] at e1
     cases e1
     have dt:DatT K Hx (.ref t) pg.dat:=Sx.get t
     have S3:=(ZlV Sx l (qs:=ps++[pg]) (vs++[.ref t]) (by rw [Pg.dats_app];exact d1.append (.cons dt .nil))).drop t
     have hmp:=Pg.many_pos pg
     refine ⟨j,by omega,ps++[pg],_,_,_,_,_,_,rfl,?_,Zcu hok ⟨hpo,trivial⟩,Pg.hgts_app hh (by show max pg.hgt 0≤blocks;omega),S3.pull p⟩
     rw [Pg.manys_app]
     show Pg.manys ps+(pg.many+0)+j=many
     omega
   refine ⟨_,rfl,p,_,14,_,rfl,S',by omega,by decide,by decide,fun r1 H1 a0 a1 S1=>⟨_,rfl,_,_,rfl,rfl,_,_,rfl,?_⟩⟩
   refine ⟨_,rfl,_,rfl,_,rfl,nl,_,rfl,.inl (SqL.of (RO.rd _ S1.tail.tail).1),p,_,_,_,rfl,S1,by omega,by rw [List.length_map];omega,by rw [List.length_map];omega,fun r2 H2 b0 b1 S2=>?_⟩
   rw [List.length_map] at b1
   obtain ⟨x,hxm,hxe⟩:=Vw (f:=V.str) (xs:=NS) b0 b1
   refine ⟨nl,_,_,_,rfl,rfl,SqL.of (RO.rd _ S2.tail.tail).1,hxe,?_⟩
   refine ⟨_,rfl,_,rfl,_,rfl,sl,_,rfl,.inl (SqL.of (RO.rd _ S2.tail.tail).2),p,_,_,_,rfl,S2,by omega,by rw [List.length_map];omega,by rw [List.length_map];omega,fun r3 H3 d0 d1 S3=>?_⟩
   rw [List.length_map] at d1
   obtain ⟨y,hym,hye⟩:=Vw (f:=V.str) (xs:=SS) d0 d1
   refine ⟨sl,_,_,_,rfl,rfl,SqL.of (RO.rd _ S3.tail.tail).2,hye,_,_,rfl,?_⟩
   obtain ⟨vs3,el3,_⟩:=S3.get l
   refine ⟨_,rfl,_,_,rfl,rfl,_,rfl,Wm (fun c1=>?_) (fun c1=>?_)⟩
   · have h5:r1 < 5:=of_decide_eq_true c1
     refine ⟨_,rfl,_,_,rfl,rfl,_,rfl,Wm (fun c2=>?_) (fun c2=>?_)⟩
     · have hb1:(0:Int) < (blocks:Int):=of_decide_eq_true c2
       refine ⟨_,rfl,_,rfl,_,_,rfl,rfl,p,_,_,_,rfl,S3,by omega,by omega,by omega,fun r4 H4 f0 f1 S4=>?_⟩
       refine ⟨_,rfl,_,rfl,_,rfl,_,rfl,_,rfl,_,_,rfl,rfl,blocks - 1,by omega,p,nl,sl,_,r4.toNat,blocks - 1,NS,SS,(l,Vq K ps)::Δ,by rw [show ((blocks - 1:Nat):Int)=(blocks:Int) - 1 by omega,show ((r4.toNat:Nat):Int)=r4 by omega];rfl,S4,⟨fun H z=>RO.rd H z.tail,RO.n0,RO.s0,RO.nl,RO.sl,RO.nk,RO.sk⟩,by omega,by omega,by omega,fun ti H5 qs hq1 hq2 hq3 S5=>?_⟩
       refine ⟨_,rfl,_,rfl,_,_,rfl,rfl,_,_,rfl,?_⟩
       obtain ⟨vs5,el5,_⟩:=S5.get l
       refine ⟨_,rfl,.inl ⟨rfl,_,SqL.of el5⟩,_,rfl,(show 2≤sizeLine by decide),fun t1 ht1=>?_⟩
       have V1:=S5.new ht1 (.tup [.str "begin",.ref ti])
       have e1:DatT K _ (.ref ti) (.tuple (Pg.dats qs)):=V1.get ti
       have V1:=V1.im (T:=YZ K (.blk "begin" qs)) fun h e _ im=>DatT.tup (SqT.of e) (.cons (.str _) (.cons (e1.tf ⟨fun x xs q=>im _ _ q rfl,fun x o u q=>im _ _ q rfl⟩) .nil))
       refine ⟨_,rfl,(show 2≤sizeLine by decide),fun t2 ht2=>?_⟩
       have V2:=V1.new ht2 (.tup [.str "late",.ref ti])
       have e2:DatT K _ (.ref ti) (.tuple (Pg.dats qs)):=V2.get ti
       have V2:=V2.im (T:=YZ K (.blk "late" qs)) fun h e _ im=>DatT.tup (SqT.of e) (.cons (.str _) (.cons (e2.tf ⟨fun x xs q=>im _ _ q rfl,fun x o u q=>im _ _ q rfl⟩) .nil))
       refine ⟨_,rfl,_,rfl,(show 3≤sizeLine by decide),fun t3 ht3=>?_⟩
       have V3:=V2.new ht3 (.tup [.str "in",.str y,.ref ti])
       have e3:DatT K _ (.ref ti) (.tuple (Pg.dats qs)):=V3.get ti
       have V3:=V3.im (T:=YZ K (.inn y qs)) fun h e _ im=>DatT.tup (SqT.of e) (.cons (.str _) (.cons (.str _) (.cons (e3.tf ⟨fun x xs q=>im _ _ q rfl,fun x o u q=>im _ _ q rfl⟩) .nil)))
       refine ⟨(show 3≤sizeLine by decide),fun lr hlr=>?_⟩
       have V4:=V3.new hlr (.lst [.ref t1,.ref t2,.ref t3])
       refine ⟨(show 5≤sizeLine by decide),fun lk hlk=>?_⟩
       have V5:=V4.new hlk (.lst [.int 0,.int 0,.int 1,.int 2,.int 2])
       generalize upd _ lk _=Hx at *
       obtain ⟨vs7,el7,_⟩:=V5.get l
       have pick:∃ (kk:Int) (tk:Addr) (pg:Pg),YU [V.int 0,.int 0,.int 1,.int 2,.int 2] r1=some (.int kk)∧YU [V.ref t1,.ref t2,.ref t3] kk=some (.ref tk)∧okn NS pg∧pg.hgt≤blocks∧pg.many=1+Pg.manys qs∧Sep ((tk,YZ K pg)::(p,Bx (N+100 * (many - (m - 1 - r4.toNat))))::(l,Vq K ps)::Δ) Hx:=by
         have U:=(V5.drop lk).drop lr
         rcases (show r1=0∨r1=1∨r1=2∨r1=3∨r1=4 by omega) with rfl | rfl | rfl | rfl | rfl
         · exact ⟨0,t1,.blk "begin" qs,Zx (j:=0) rfl,Zx (j:=0) rfl,⟨.inl rfl,hq2⟩,(by show Pg.hgts qs+1≤blocks;omega),rfl,(((((U.drop t3).drop t2).drop ti).pull p).le (by omega)).pull t1⟩
         · exact ⟨0,t1,.blk "begin" qs,Zx (j:=1) rfl,Zx (j:=0) rfl,⟨.inl rfl,hq2⟩,(by show Pg.hgts qs+1≤blocks;omega),rfl,(((((U.drop t3).drop t2).drop ti).pull p).le (by omega)).pull t1⟩
         · exact ⟨1,t2,.blk "late" qs,Zx (j:=2) rfl,Zx (j:=1) rfl,⟨.inr rfl,hq2⟩,(by show Pg.hgts qs+1≤blocks;omega),rfl,(((((U.drop t3).drop t1).drop ti).pull p).le (by omega)).pull t2⟩
         · exact ⟨2,t3,.inn y qs,Zx (j:=3) rfl,Zx (j:=2) rfl,⟨RO.sk y hym,hq2⟩,(by show Pg.hgts qs+1≤blocks;omega),rfl,(((((U.drop t2).drop t1).drop ti).pull p).le (by omega)).pull t3⟩
         · exact ⟨2,t3,.inn y qs,Zx (j:=4) rfl,Zx (j:=2) rfl,⟨RO.sk y hym,hq2⟩,(by show Pg.hgts qs+1≤blocks;omega),rfl,(((((U.drop t2).drop t1).drop ti).pull p).le (by omega)).pull t3⟩
       obtain ⟨kk,tk,pg,k1,k2,p1,p2,p3,p4⟩:=pick
       exact ⟨_,rfl,lk,_,_,_,rfl,rfl,SqL.of (V5.get lk),k1,lr,_,_,_,rfl,rfl,SqL.of (V5.get lr),k2,l,vs7,_,rfl,rfl,el7,lsz _ _ (V5.get l) el7,fin pg tk _ vs7 (m - 1 - r4.toNat) _ _ _ _ _ _ _ (by omega) p1 p2 (by omega) p4 el7⟩
     · refine ⟨_,rfl,_,_,rfl,rfl,_,rfl,Uq (decide_eq_true (by omega)) ?_⟩
       refine ⟨_,rfl,.inl ⟨rfl,_,SqL.of el3⟩,_,rfl,_,rfl,p,_,_,rfl,S3,by omega,fun v H4 hv S4=>⟨_,rfl,(show 4≤sizeLine by decide),fun t ht=>?_⟩⟩
       have S5:=(S4.new ht (.tup [.str "set",.str x,v,.str y])).say t (YZ K (.set x v y)) fun h e=>DatT.tup (SqT.of e) (.cons (.str _) (.cons (.str _) (.cons (by cases v<;>first | exact .int _ | exact .str _ | exact hv.elim) (.cons (.str _) .nil))))
       obtain ⟨vs5,el5,_⟩:=S5.get l
       exact ⟨l,vs5,_,rfl,rfl,el5,lsz _ _ (S5.get l) el5,fin (.set x v y) t _ vs5 (m - 1) _ _ _ _ _ _ _ (by omega) ⟨⟨hxm,RO.nk x hxm⟩,hv,RO.sk y hym⟩ (Nat.zero_le _) (by show 1+(m - 1)=m;omega) (((S5.pull p).le (by omega)).pull t) el5⟩
   · refine ZD ⟨_,rfl,_,_,rfl,rfl,_,rfl,Wm (fun c2=>?_) (fun c2=>?_)⟩
     · refine ⟨_,rfl,.inl ⟨rfl,_,SqL.of el3⟩,_,rfl,_,rfl,p,_,_,rfl,S3,by omega,fun v H4 hv S4=>⟨_,rfl,(show 4≤sizeLine by decide),fun t ht=>?_⟩⟩
       have S5:=(S4.new ht (.tup [.str "set",.str x,v,.str y])).say t (YZ K (.set x v y)) fun h e=>DatT.tup (SqT.of e) (.cons (.str _) (.cons (.str _) (.cons (by cases v<;>first | exact .int _ | exact .str _ | exact hv.elim) (.cons (.str _) .nil))))
       obtain ⟨vs5,el5,_⟩:=S5.get l
       exact ⟨l,vs5,_,rfl,rfl,el5,lsz _ _ (S5.get l) el5,fin (.set x v y) t _ vs5 (m - 1) _ _ _ _ _ _ _ (by omega) ⟨⟨hxm,RO.nk x hxm⟩,hv,RO.sk y hym⟩ (Nat.zero_le _) (by show 1+(m - 1)=m;omega) (((S5.pull p).le (by omega)).pull t) el5⟩
     · have h5:¬ r1 < 5:=fun z=>c1 (decide_eq_true z)
       have h8:¬ r1 < 8:=fun z=>c2 (decide_eq_true z)
       refine ⟨_,rfl,(show 2≤sizeLine by decide),fun t1 ht1=>?_⟩
       have T1:=(S3.new ht1 (.tup [.str "look",.str x])).say t1 (YZ K (.look x)) fun h e=>DatT.tup (SqT.of e) (.cons (.str _) (.cons (.str _) .nil))
       refine ⟨_,rfl,(show 2≤sizeLine by decide),fun t2 ht2=>?_⟩
       have T2:=(T1.new ht2 (.tup [.str "look",.str x])).say t2 (YZ K (.look x)) fun h e=>DatT.tup (SqT.of e) (.cons (.str _) (.cons (.str _) .nil))
       refine ⟨_,rfl,(show 2≤sizeLine by decide),fun t3 ht3=>?_⟩
       have T3:=(T2.new ht3 (.tup [.str "back",.str y])).say t3 (YZ K (.slot "back" y)) fun h e=>DatT.tup (SqT.of e) (.cons (.str _) (.cons (.str _) .nil))
       refine ⟨_,rfl,(show 2≤sizeLine by decide),fun t4 ht4=>?_⟩
       have T4:=(T3.new ht4 (.tup [.str "copy",.str y])).say t4 (YZ K (.slot "copy" y)) fun h e=>DatT.tup (SqT.of e) (.cons (.str _) (.cons (.str _) .nil))
       refine ⟨_,rfl,(show 2≤sizeLine by decide),fun t5 ht5=>?_⟩
       have T5:=(T4.new ht5 (.tup [.str "copy",.str y])).say t5 (YZ K (.slot "copy" y)) fun h e=>DatT.tup (SqT.of e) (.cons (.str _) (.cons (.str _) .nil))
       refine ⟨(show 1≤sizeLine by decide),fun t6 ht6=>?_⟩
       have T6:=(T5.new ht6 (.tup [.str "pass"])).say t6 (YZ K .pass) fun h e=>DatT.tup (SqT.of e) (.cons (.str _) .nil)
       refine ⟨(show 6≤sizeLine by decide),fun lr hlr=>?_⟩
       have T7:=T6.new hlr (.lst [.ref t1,.ref t2,.ref t3,.ref t4,.ref t5,.ref t6])
       generalize upd _ lr _=Hx at *
       obtain ⟨vs7,el7,_⟩:=T7.get l
       have pick:∃ (tk:Addr) (pg:Pg),YU [V.ref t1,.ref t2,.ref t3,.ref t4,.ref t5,.ref t6] ((r1 - 8) % 6)=some (.ref tk)∧okn NS pg∧pg.hgt≤blocks∧pg.many=1∧Sep ((tk,YZ K pg)::(p,Bx (N+100 * (many - (m - 1))))::(l,Vq K ps)::Δ) Hx:=by
         have U:=T7.drop lr
         rcases (show r1=8∨r1=9∨r1=10∨r1=11∨r1=12∨r1=13 by omega) with rfl | rfl | rfl | rfl | rfl | rfl
         · exact ⟨t1,.look x,Zx (j:=0) rfl,⟨hxm,RO.nk x hxm⟩,Nat.zero_le _,rfl,((((((((U.drop t6).drop t5).drop t4).drop t3).drop t2)).pull p).le (by omega)).pull t1⟩
         · exact ⟨t2,.look x,Zx (j:=1) rfl,⟨hxm,RO.nk x hxm⟩,Nat.zero_le _,rfl,((((((((U.drop t6).drop t5).drop t4).drop t3).drop t1)).pull p).le (by omega)).pull t2⟩
         · exact ⟨t3,.slot "back" y,Zx (j:=2) rfl,⟨.inl rfl,RO.sk y hym⟩,Nat.zero_le _,rfl,((((((((U.drop t6).drop t5).drop t4).drop t2).drop t1)).pull p).le (by omega)).pull t3⟩
         · exact ⟨t4,.slot "copy" y,Zx (j:=3) rfl,⟨.inr rfl,RO.sk y hym⟩,Nat.zero_le _,rfl,((((((((U.drop t6).drop t5).drop t3).drop t2).drop t1)).pull p).le (by omega)).pull t4⟩
         · exact ⟨t5,.slot "copy" y,Zx (j:=4) rfl,⟨.inr rfl,RO.sk y hym⟩,Nat.zero_le _,rfl,((((((((U.drop t6).drop t4).drop t3).drop t2).drop t1)).pull p).le (by omega)).pull t5⟩
         · exact ⟨t6,.pass,Zx (j:=5) rfl,trivial,Nat.zero_le _,rfl,((((((((U.drop t5).drop t4).drop t3).drop t2).drop t1)).pull p).le (by omega)).pull t6⟩
       obtain ⟨tk,pg,hk,p1,p2,p3,p4⟩:=pick
       exact ⟨_,rfl,.inl ⟨rfl,_,SqL.of el7⟩,_,rfl,_,rfl,_,_,rfl,rfl,_,_,rfl,rfl,(show (0:Int) < 6 by decide),lr,_,_,_,rfl,rfl,SqL.of (T7.get lr),hk,l,vs7,_,rfl,rfl,el7,lsz _ _ (T7.get l) el7,fin pg tk _ vs7 (m - 1) _ _ _ _ _ _ _ (by omega) p1 p2 (by omega) p4 el7⟩
 · have hc:m=0:=by
     have:¬ (0:Int) < (m:Int):=fun z=>c (decide_eq_true z)
     omega
   subst hc
   obtain ⟨vs1,el1,dl1⟩:=S'.get l
   refine ⟨_,rfl,l,vs1,rfl,.inl ⟨SqL.of el1,fun t ht=>?_⟩⟩
   have S1:=S'.new ht (.tup vs1)
   have dl2:=DatTs.same (Zh ht (.tup vs1)) dl1
   refine q t _ ps (by omega) hok hh ?_
   exact (S1.im (T:=Zae K ps) fun h e _ im=>DatT.tup (SqT.of e) (DatTs.tf ⟨fun x xs q=>im _ _ q rfl,fun x o u q=>im _ _ q rfl⟩ dl2)).drop l
end
end K72
set_option maxHeartbeats 4000000
namespace K72
open PySem L2
mutual
theorem Zlh {NS:List Str}:∀{p:Pg},okn NS p→p.ok
 | .set _ _ _,h=>⟨h.1.2,h.2⟩
 | .look _,h=>h.2
 | .slot _ _,h=>h
 | .pass,_=>trivial
 | .blk _ _,h=>⟨h.1,UH h.2⟩
 | .inn _ _,h=>⟨h.1,UH h.2⟩
theorem UH {NS:List Str}:∀{ps:List Pg},WI NS ps→Pg.oks ps
 | [],_=>trivial
 | _::_,h=>⟨Zlh h.1,UH h.2⟩
end
mutual
theorem Zkg {NS:List Str}:∀{p:Pg}{d:Nat},okn NS p→∀ x∈ZW d p,Zeq NS x.2
 | .set y v s,d,h,x,hx=>by rw [ZW] at hx;rw [List.mem_singleton.mp hx];exact h.1.1
 | .look y,d,h,x,hx=>by rw [ZW] at hx;rw [List.mem_singleton.mp hx];exact h.1
 | .slot _ _,d,h,x,hx=>by rw [ZW] at hx;rw [List.mem_singleton.mp hx];trivial
 | .pass,d,h,x,hx=>by rw [ZW] at hx;rw [List.mem_singleton.mp hx];trivial
 | .blk _ ps,d,h,x,hx=>by
   rw [ZW] at hx
   rcases List.mem_cons.mp hx with rfl | hx
   · trivial
   · exact UK h.2 x hx
 | .inn _ ps,d,h,x,hx=>by
   rw [ZW] at hx
   rcases List.mem_cons.mp hx with rfl | hx
   · trivial
   · exact UK h.2 x hx
theorem UK {NS:List Str}:∀{ps:List Pg}{d:Nat},WI NS ps→∀ x∈ZT d ps,Zeq NS x.2
 | [],d,_,x,hx=>by rw [ZT] at hx;cases hx
 | p::ps,d,h,x,hx=>by
   rw [ZT] at hx
   rcases List.mem_append.mp hx with hx | hx
   · exact Zkg h.1 x hx
   · exact UK h.2 x hx
end
abbrev WL (ns:List Nat):List V:=(ns.map fun n:Nat=>(n:Int)).map V.int
def Uo (us:List V)(ss:List (Str×V)):Xa:=fun l h=>h l=some (.lst us)∧PvL h us (ss.map sV)
instance {us:List V} {ss:List (Str×V)}:Up (Uo us ss):=⟨fun ⟨e,p⟩ s=>⟨s _ _ e,p.tf s.tf⟩⟩
theorem Zlu {Δ Δ':Rs}{H:Hp}{vs:List V}{ss qs:List (Str×V)}(S:Sep Δ H)(l:Addr)[P:Pull l Δ (Uo vs ss) Δ'](us:List V)(d:PvL H us (qs.map sV)):Sep ((l,Uo us qs)::Δ') (upd H l (.lst us)):=by
 obtain ⟨el,_⟩:=S.get l
 exact S.updR l _ (fun h ⟨e,_⟩=>⟨_,e,rfl⟩) fun h r l' h' e1 e2 e3=>⟨e1,PvL.tf ⟨fun b xs q=>e3 b _ (WN q el (fun z=>nomatch z)) q rfl,fun b o u q=>e3 b _ (WN q el (fun z=>nomatch z)) q rfl⟩ d⟩
def ShR (K:PySem.W.Frag)(ss:List (Str×V))(ns:List Nat)(ps:List Pg):Xa:=fun t h=>∃ ls us lp w,h t=some (.tup [.ref ls,.ref lp,w])∧h ls=some (.lst us)∧PvL h us (ss.map sV)∧h lp=some (.lst (WL ns))∧DatT K h w (.tuple (Pg.dats ps))
instance {K:PySem.W.Frag} {ss:List (Str×V)} {ns:List Nat} {ps:List Pg}:Up (ShR K ss ns ps):=⟨fun ⟨ls,us,lp,w,a,b,c,d,e⟩ s=>⟨ls,us,lp,w,s _ _ a,s _ _ b,c.tf s.tf,s _ _ d,e.same s⟩⟩
theorem ZdN {K:PySem.W.Frag}{us:List V}{ss:List (Str×V)}{ns:List Nat}{ps:List Pg}{t ls lp w:Addr}{Δ:Rs}{H:Hp}(S:Sep ((t,Tup [.ref ls,.ref lp,.ref w])::(ls,Uo us ss)::(lp,Xh (WL ns))::(w,Zae K ps)::Δ) H):Sep ((t,ShR K ss ns ps)::Δ) H:=by
 refine Sep.pack (Γ:=[(t,Tup [.ref ls,.ref lp,.ref w]),(ls,Uo us ss),(lp,Xh (WL ns)),(w,Zae K ps)]) S fun h G=>?_
 obtain ⟨e1,e2⟩:=G.get ls
 exact ⟨ls,us,lp,.ref w,G.get t,e1,e2,G.get lp,G.get w⟩
def DtR (K:PySem.W.Frag)(v:V)(d:PyData):Xa:=fun _ h=>DatT K h v d
theorem ZiM {K:PySem.W.Frag}{Δ:Rs}{H:Hp}{v:V}{d:PyData}(z:Addr)(S:Sep Δ H)(h:DatT K H v d):Sep ((z,DtR K v d)::Δ) H:=by
 let h0:Hp:=fun x=>match H x with
   | some o=>if YH o=true then none else some o
   | none=>none
 have s0:Same h0 H:=fun b o e=>by
   show H b=some o
   have e:(match H b with | some o=>if YH o=true then none else some o | none=>none)=some o:=e
   split at e
   · split at e
     · cases e
     · rename_i eb _;rw [eb];exact e
   · cases e
 have k0:∀ b o,H b=some o→YH o=false→h0 b=some o:=fun b o e m=>by
   show (match H b with | some o=>if YH o=true then none else some o | none=>none)=some o
   rw [e];show (if YH o=true then none else some o)=some o;rw [m];rfl
 have ec : cut H h0=H:=funext fun b=>by
   cases eb:H b with
   | none=>cases ec:cut H h0 b with
     | none=>rfl
     | some o=>have:=(cut_some.mp ec).1;rw [eb] at this;cases this
   | some o=>exact cut_some.mpr ⟨eb,fun u hu=>by
       have hu':(match H b with | some o=>if YH o=true then none else some o | none=>none)=some u:=hu
       rw [eb] at hu'
       have hu2:(if YH o=true then none else some o)=some u:=hu'
       split at hu2
       · cases hu2
       · rename_i hm;cases hu2;cases h9:YH o with
         | true=>exact absurd h9 hm
         | false=>rfl⟩
 refine ⟨h0,s0,DatT.tf ⟨fun b xs e=>k0 b _ e rfl,fun b o u e=>k0 b _ e rfl⟩ h,by rw [ec];exact S⟩
theorem ZlO {x:Str}(h:ZH x):Zeb x:=fun c hc=>by
 have:=Wa h
 have:=List.all_eq_true.mp this c hc
 unfold Yo at this
 simp only [Bool.and_eq_true,decide_eq_true_eq] at this
 omega
def VA (y:Str):List Pg:=[.pass,.slot "copy" y,.slot "back" y,.inn y [],.blk "begin" [.pass]]
theorem ZgZ (y:Str):∀ n,Pg.dats ((VA y).take n)=(Pg.dats (VA y)).take n
 | 0=>rfl
 | 1=>rfl
 | 2=>rfl
 | 3=>rfl
 | 4=>rfl
 | n+5=>by rw [List.take_of_length_le (by show 5≤n+5;omega),List.take_of_length_le (by show 5≤n+5;omega)]
theorem Zkq {NS:List Str}{y:Str}(h:ZH y):∀ n,WI NS ((VA y).take n)∧Pg.manys ((VA y).take n)≤300∧Pg.hgts ((VA y).take n)≤6
 | 0=>⟨trivial,Nat.le_of_ble_eq_true rfl,Nat.le_of_ble_eq_true rfl⟩
 | 1=>⟨⟨trivial,trivial⟩,Nat.le_of_ble_eq_true rfl,Nat.le_of_ble_eq_true rfl⟩
 | 2=>⟨⟨trivial,⟨.inr rfl,h⟩,trivial⟩,Nat.le_of_ble_eq_true rfl,Nat.le_of_ble_eq_true rfl⟩
 | 3=>⟨⟨trivial,⟨.inr rfl,h⟩,⟨.inl rfl,h⟩,trivial⟩,Nat.le_of_ble_eq_true rfl,Nat.le_of_ble_eq_true rfl⟩
 | 4=>⟨⟨trivial,⟨.inr rfl,h⟩,⟨.inl rfl,h⟩,⟨h,trivial⟩,trivial⟩,Nat.le_of_ble_eq_true rfl,Nat.le_of_ble_eq_true rfl⟩
 | n+5=>by
   rw [List.take_of_length_le (by show 5≤n+5;omega)]
   exact ⟨⟨trivial,⟨.inr rfl,h⟩,⟨.inl rfl,h⟩,⟨h,trivial⟩,⟨.inl rfl,trivial,trivial⟩,trivial⟩,Nat.le_of_ble_eq_true rfl,Nat.le_of_ble_eq_true rfl⟩
theorem Zao {K:PySem.W.Frag}{H:Hp}:∀{n:Nat}{vs:List V}{ds:List PyData},DatTs K H vs ds→DatTs K H (vs.take n) (ds.take n)
 | 0,_,_,_=>.nil
 | _+1,_,_,.nil=>.nil
 | _+1,_,_,.cons a b=>.cons a (Zao b)
section
variable {P:Program}{w:World}{K:PySem.W.Frag}{mg:Str→Option Value}{base:Heap}
theorem Zja {n m:Nat}(h:n≤m){vs:List V}{H:Hp}{Q:VK}{E:XK}(z:Zai K n vs H Q E):Zai K m vs H Q E:=by
 obtain ⟨p,nl,sl,N,many,blocks,NS,SS,Δ,e,S,RO,hb,z⟩:=z
 exact ⟨p,nl,sl,N,many,blocks,NS,SS,Δ,e,S,RO,by omega,z⟩
theorem Zim {f:Addr}{fd:FuncData}(F:Fun K "_law_program" "_law_program" s_l_program f fd)(T:ZZ mg)(b:Binds K fd Zak [])(kp:PySem.W.keepIn K (.ref f)=true)(m:mg "_law_program"=some (.ref f))(DT:DTk P w K mg base 3)(DWo:Def P w K mg base 3 "_law_worth" ZbY ZbS):∀ n,FnOk P w K mg base ZV (4+n) f fd Zak (Zai K n)
 | 0=>Zgv F T DT DWo ⟨_,_,⟨fun vs H Q E ⟨_,h,_⟩=>absurd h (Nat.not_lt_zero _),fun _ _ _ _ _ _ _ _ _ _ _ _ _ ⟨_,h,_⟩=>absurd h (Nat.not_lt_zero _)⟩,b,kp,m⟩
 | n+1=>Zgv F T (DT.mono (show 3≤4+n by omega)) (DWo.mono (show 3≤4+n by omega)) ⟨_,_,(Zim F T b kp m DT DWo n).imp fun vs H Q E ⟨j,h,z⟩=>Zja (by omega) z,b,kp,m⟩
def spDr (K:PySem.W.Frag):Sp:=fun vs H Q _=>∃(p:Addr)(N most picks steps:Nat)(Δ:Rs),vs=[.ref p,.int (most:Int),.int (picks:Int),.int (steps:Int),.int 6]∧Sep ((p,Bx N)::Δ) H∧most≤60∧picks≤300∧steps≤150∧N≤1000 ∧
 ∀ (t:Addr) (H':Hp) (ss:List (Str×V)) (ns:List Nat) (ps:List Pg),ZaP ss ns ps→Pg.hgts ps≤6→Sep ((t,ShR K ss ns ps)::Δ) H'→Q (.ref t) H'
abbrev nDr:List Str:=["_law_box_here","_law_most","_law_picks","_law_steps","_law_blocks","_law_names_here","_law_slots","_law_settings","_law_some","_law_rows_here"]
abbrev Zgw:List Str:=["_law_box_here","_law_most","_law_picks","_law_steps","_law_blocks"]
theorem scDr:Zs nDr Zgw (Zj s_l_drawn):=⟨rfl,rfl,rfl,by decide +kernel,rfl,by decide +kernel,by decide +kernel⟩
theorem ZlF {f:Addr}{fd:FuncData}{k:Nat}(F:Fun K "_law_drawn" "_law_drawn" s_l_drawn f fd)(T:ZZ mg)(DT:DTk P w K mg base k)(DCa:Def P w K mg base k "_law_called" Zhf spCa)(DWo:Def P w K mg base k "_law_worth" ZbY ZbS)(DPr:Def P w K mg base k "_law_program" Zak (Zai K 6)):FnOk P w K mg base ZV (k+1) f fd Zgw (spDr K):=by
 refine F.ok scDr (fun vs H Q E h=>?_) (fun cdv A outer s H vs Q E hr h=>?_)
 · obtain ⟨p,N,most,picks,steps,Δ,rfl,_⟩:=h;rfl
 have hr1:=hr
 obtain ⟨p,N,most,picks,steps,Δ,rfl,S,hmo,hpi,hst,hN,q⟩:=h
 refine' ⟨?t,?h,?r⟩
 case h =>
   conv=>arg 2;whnf
   with_reducible refine' (Ze ?h1 (Ze ?h2 (Ze ?h3 (Ze (ZS ?h4 (Ze ?h5 (Zi ?h6)) ZE) (Zi ?h7)))))
   case h1=>exact VB (i:=5) (j:=6) rfl scDr.nd rfl rfl (by decide) rfl rfl (Zb (Zq DCa hr (Zb (pv 0) (Zb (Zq DT hr1 (Zb (pv 0) (Zb (Zl Ye (pv 1) Zd) Za))) Za))) (Zb (Zq DCa hr (Zb (pv 0) (Zb (Zl Ye Zd (Zq DT hr1 (Zb (pv 0) (Zb Zd Za)))) Za))) Za)) rfl
   case h2=>exact UW (i:=7) (CompOk.of nDr s_l_drawn rfl rfl (by decide +kernel)) rfl scDr.nd rfl (Or.inl rfl) (Xp (pv 5))  (fun _ _ _ _ _=>ZI (Zb (pv 10) (Zb (ZB (Zcx (K:=K) rfl) (ZF (Zb YI (Zb (Zq DWo hr (Zb (pv 0) Za)) Za))) (Zq DT hr1 (Zb (pv 0) (Zb Zd Za))) (fun _ _=>rfl)) Za))) rfl
   case h3=>exact UW (i:=8) (CompOk.of nDr s_l_drawn rfl rfl (by decide +kernel)) rfl scDr.nd rfl (Or.inl rfl) (WA rfl T.range (Zb (Zq DT hr1 (Zb (pv 0) (Zb (Zl Ye (pv 2) Zd) Za))) Za))  (fun _ _ _ _ _=>ZB (Zcx (K:=K) rfl) (ZF (Zb (Zq DT hr1 (Zb (pv 0) (Zb Zd Za))) (Zb (Zq DT hr1 (Zb (pv 0) (Zb Zd Za))) Za))) (Zq DT hr1 (Zb (pv 0) (Zb Zd Za))) (fun _ _=>rfl)) rfl
   case h4=>exact ZA (ZjN hr.units) (pv 5) (ZF Za) (ZC _)
   case h5=>exact Zr (i:=9) scDr.nd rfl (Or.inl rfl) (ZF (Zb (ZI (Zb Zk Za)) (Zb (ZI (Zb Zk (Zb (ZB ZG (pv 6) Zd (fun _ _=>rfl)) Za))) (Zb (ZI (Zb Zk (Zb (ZB ZG (pv 6) Zd (fun _ _=>rfl)) Za))) (Zb (ZI (Zb Zk (Zb (ZB ZG (pv 6) Zd (fun _ _=>rfl)) (Zb (ZI Za) Za)))) (Zb (ZI (Zb Zk (Zb (ZI (Zb (ZI (Zb Zk Za)) Za)) Za))) Za))))))
   case h6=>exact Zp (ZI (Zb (pv 7) (Zb (pv 8) (Zb (ZY Xm rfl T.tuple (by decide +kernel) (Zb (Yq Xf (pv 9) YC (Yk (Zq DT hr1 (Zb (pv 0) (Zb Zd Za))))) Za)) Za))))
   case h7=>exact Zp (ZI (Zb (pv 7) (Zb (pv 8) (Zb (Zq DPr hr (Zb (pv 0) (Zb (pv 5) (Zb (Zl Wg (pv 6) (Yq Xf (pv 5) YC (Yk Zd))) (Zb (Zq DT hr1 (Zb (pv 0) (Zb (Zl Ye (pv 3) Zd) Za))) (Zb (pv 4) Za)))))) Za))))
 refine ⟨_,rfl,_,rfl,_,rfl,_,_,rfl,rfl,p,N,_,_,rfl,S,by omega,by omega,by omega,fun r1 H1 a0 a1 S1=>?_⟩
 refine ⟨p,N+1,r1.toNat,_,by rw [show ((r1.toNat:Nat):Int)=r1 by omega];rfl,S1,by omega,by omega,fun nl H2 NS S2 n0 n1 n2 n3=>?_⟩
 refine ⟨_,rfl,_,rfl,p,_,4,_,rfl,S2.pull p,by omega,by decide,by decide,fun r2 H3 b0 b1 S3=>⟨_,_,rfl,rfl,?_⟩⟩
 refine ⟨p,_,(1+r2).toNat,_,by rw [show (((1+r2).toNat:Nat):Int)=1+r2 by omega];rfl,S3,by omega,by omega,fun sl H4 SS S4 s0 s1 s2 s3=>⟨_,_,rfl,?_⟩⟩
 have S5:Sep ((p,Bx (N+100))::(sl,Xh (SS.map V.str))::(nl,Xh (NS.map V.str))::Δ) H4:=(S4.pull p).le (by omega)
 clear S4
 refine ⟨_,rfl,nl,rfl,⟨_,SqL.of (S5.get nl)⟩,fun D hD=>?_⟩
 have SD:=(S5.new hD (.lst [])).say D (Uo [] []) fun h e=>⟨e,.nil⟩
 refine Ut (K:=K) (xs:=NS.map V.str) (Zv (show _≤1000 by rw [List.length_map];omega)) (fun i ys H'=>∃ ss:List (Str×V),ys.length=i∧ss.map (·.1)=NS.take i∧i≤NS.length∧(∀ q∈ss,Vr q)∧Sep ((D,Uo ys ss)::(p,Bx (N+100+53 * i))::(sl,Xh (SS.map V.str))::(nl,Xh (NS.map V.str))::Δ) H') ⟨[],rfl,rfl,Nat.zero_le _,(fun _ h=>nomatch h),SD⟩ ?_ ?_ ?_
 · rintro i ys H' ⟨ss,hyl,hss,hi,hso,S'⟩
   exact ⟨hyl,SqL.of (S'.get nl)⟩
 · rintro i v ys H' hv ⟨ss,hyl,hss,hi,hso,S'⟩
   rw [List.getElem?_map] at hv
   obtain ⟨x,ex,rfl⟩:=Option.map_eq_some_iff.mp hv
   have hx2:=(List.getElem?_eq_some_iff.mp ex).1
   refine ⟨_,rfl,_,rfl,p,_,_,rfl,S'.pull p,by omega,fun v H2 hv2 S2=>⟨(show 2≤sizeLine by decide),fun l5 hl5=>?_⟩⟩
   have S3:=S2.new hl5 (.lst [.non,v])
   refine ⟨_,rfl,p,_,2,_,rfl,S3.pull p,by omega,by decide,by decide,fun r3 H3 c0 c1 S4=>?_⟩
   obtain ⟨z,hz,hze⟩:=Zdw (xs:=[.non,v]) c0 c1
   refine ⟨l5,_,_,_,rfl,rfl,SqL.of (S4.get l5),hze,(show 2≤sizeLine by decide),fun t ht=>?_⟩
   have S6:=((S4.drop l5).new ht (.tup [.str x,z]))
   have hsz:Vr (x,z):=⟨n2 x (List.mem_of_getElem? ex),by
     simp only [List.mem_cons,List.not_mem_nil,or_false] at hz
     rcases hz with rfl | rfl
     · exact .inl rfl
     · exact .inr hv2⟩
   obtain ⟨e6,p6⟩:=S6.get D
   have S7:=(Zlu S6 D (qs:=ss++[(x,z)]) (ys++[.ref t]) (by rw [List.map_append];exact p6.app (S6.get t))).drop t
   refine ⟨e6,ss++[(x,z)],by rw [List.length_append,hyl];rfl,?_,hx2,fun q hq=>?_,((S7.pull p).le (by omega)).pull D⟩
   · rw [List.map_append,hss,List.take_add_one,ex];rfl
   · rcases List.mem_append.mp hq with h | h
     · exact hso q h
     · rw [List.mem_singleton.mp h];exact hsz
 rintro us H5 ⟨ss,hul,hss,_,hso,S6⟩
 rw [List.length_map] at hss hul S6
 rw [List.take_length] at hss
 have hsl:ss.length≤60:=by rw [← List.length_map (f:=(·.1)),hss];omega
 have S6:Sep ((D,Uo us ss)::(p,Bx (N+4000))::(sl,Xh (SS.map V.str))::(nl,Xh (NS.map V.str))::Δ) H5:=((S6.pull p).le (by omega)).pull D
 refine ⟨_,rfl,_,rfl,_,_,rfl,rfl,p,_,_,_,rfl,S6.pull p,by omega,by omega,by omega,fun r4 H6 d0 d1 S7=>⟨_,rfl,by omega,by omega,fun D2 hD2=>?_⟩⟩
 refine VV (Zv (show _≤1000 by omega)) S7 hD2 (fun i ys Δ'=>∃ ns:List Nat,ys=WL ns∧ns.length=i∧(∀ n∈ns,n < 10000)∧Δ'=(p,Bx (N+4001+3 * i))::(D,Uo us ss)::(sl,Xh (SS.map V.str))::(nl,Xh (NS.map V.str))::Δ) ⟨[],rfl,rfl,(fun _ h=>nomatch h),rfl⟩ ?_ ?_
 · rintro i ys Δ' H' hi hl ⟨ns,rfl,hnl,hnk,rfl⟩ S'
   refine ⟨_,rfl,p,_,10000,_,rfl,S'.pull p,by omega,by decide,by decide,fun r5 H7 e0 e1 S8=>⟨_,rfl,p,_,7,_,rfl,S8,by omega,by decide,by decide,fun r6 H8 f0 f1 S9=>⟨(show 2≤sizeLine by decide),fun l6 hl6=>?_⟩⟩⟩
   have S10:=S9.new hl6 (.lst [.int r5,.int r6])
   refine ⟨_,rfl,p,_,2,_,rfl,S10.pull p,by omega,by decide,by decide,fun r7 H9 g0 g1 S11=>?_⟩
   obtain ⟨z,hz,hze⟩:=Vw (f:=V.int) (xs:=[r5,r6]) g0 g1
   have hz4:0≤z∧z < 10000:=by
     simp only [List.mem_cons,List.not_mem_nil,or_false] at hz
     rcases hz with rfl | rfl<;>omega
   refine ⟨l6,_,_,_,rfl,rfl,SqL.of (S11.get l6),hze,_,⟨ns++[z.toNat],?_,by rw [List.length_append,hnl];rfl,fun n hn=>?_,rfl⟩,(((S11.drop l6).pull p).le (by omega)).pull D2⟩
   · show _=((ns++[z.toNat]).map _).map V.int
     rw [List.map_append,List.map_append]
     show _=_++[V.int ((z.toNat:Nat):Int)]
     rw [show ((z.toNat:Nat):Int)=z by omega]
   · rcases List.mem_append.mp hn with h | h
     · exact hnk n h
     · rw [List.mem_singleton.mp h];omega
 rintro ys Δ' H7 ⟨ns,rfl,hnl,hnk,rfl⟩ hl S8
 have hnl3:ns.length≤301:=by omega
 clear hl hnl S7 hD2 hD S6 SD S5
 have S8:Sep ((D2,Xh (WL ns))::(p,Bx (N+10000))::(D,Uo us ss)::(sl,Xh (SS.map V.str))::(nl,Xh (NS.map V.str))::Δ) H7:=((S8.pull p).le (by omega)).pull D2
 refine ⟨_,rfl,(show 0≤sizeLine by decide),fun le hle=>?_⟩
 have S9:=S8.new hle (.lst [])
 obtain ⟨dn,dn1,dn2,dn3,dn4⟩:=ZeS (S9.get nl) fun x hx=>ZlO (n2 x hx)
 subst dn2
 refine ⟨_,.list [],dn1,.lst (S9.get le) .nil,dn3,rfl,dn4,_,rfl,?_⟩
 have S9:=S9.drop le
 generalize upd _ le _=H8 at *
 refine Wm (fun c=>?_) (fun c=>?_)
 · obtain ⟨y,hy0,hyk⟩:∃ y,YU (SS.map V.str) 0=some (.str y)∧ZH y:=by
     cases SS with
     | nil=>exact absurd rfl (s0 (by omega))
     | cons y r=>exact ⟨y,Zx (j:=0) rfl,s2 y (List.mem_cons_self ..)⟩
   refine ⟨(show 1≤sizeLine by decide),fun t1 ht1=>?_⟩
   have T1:=(S9.new ht1 (.tup [.str "pass"])).say t1 (YZ K .pass) fun h e=>DatT.tup (SqT.of e) (.cons (.str _) .nil)
   refine ⟨_,rfl,sl,_,_,_,rfl,rfl,SqL.of (T1.get sl),hy0,(show 2≤sizeLine by decide),fun t2 ht2=>?_⟩
   have T2:=(T1.new ht2 (.tup [.str "copy",.str y])).say t2 (YZ K (.slot "copy" y)) fun h e=>DatT.tup (SqT.of e) (.cons (.str _) (.cons (.str _) .nil))
   refine ⟨_,rfl,sl,_,_,_,rfl,rfl,SqL.of (T2.get sl),hy0,(show 2≤sizeLine by decide),fun t3 ht3=>?_⟩
   have T3:=(T2.new ht3 (.tup [.str "back",.str y])).say t3 (YZ K (.slot "back" y)) fun h e=>DatT.tup (SqT.of e) (.cons (.str _) (.cons (.str _) .nil))
   refine ⟨_,rfl,sl,_,_,_,rfl,rfl,SqL.of (T3.get sl),hy0,(show 0≤sizeLine by decide),fun t0 ht0=>?_⟩
   dsimp only [YX]
   have T3:=(T3.new ht0 (.tup [])).say t0 (Zae K []) fun h e=>DatT.tup (SqT.of e) .nil
   refine ⟨(show 3≤sizeLine by decide),fun t4 ht4=>?_⟩
   have T4:=T3.new ht4 (.tup [.str "in",.str y,.ref t0])
   have e4:DatT K _ (.ref t0) (.tuple (Pg.dats [])):=T4.get t0
   have T4:=(T4.im (T:=YZ K (.inn y [])) fun h e _ im=>DatT.tup (SqT.of e) (.cons (.str _) (.cons (.str _) (.cons (e4.tf ⟨fun x xs q=>im _ _ q rfl,fun x o u q=>im _ _ q rfl⟩) .nil)))).drop t0
   refine ⟨(show 1≤sizeLine by decide),fun t5 ht5=>?_⟩
   have T5:=(T4.new ht5 (.tup [.str "pass"])).say t5 (YZ K .pass) fun h e=>DatT.tup (SqT.of e) (.cons (.str _) .nil)
   refine ⟨(show 1≤sizeLine by decide),fun t6 ht6=>?_⟩
   have T6:=T5.new ht6 (.tup [.ref t5])
   have e6:DatT K _ (.ref t5) Pg.pass.dat:=T6.get t5
   have T6:=(T6.im (T:=Zae K [.pass]) fun h e _ im=>DatT.tup (SqT.of e) (.cons (e6.tf ⟨fun x xs q=>im _ _ q rfl,fun x o u q=>im _ _ q rfl⟩) .nil)).drop t5
   refine ⟨(show 2≤sizeLine by decide),fun t7 ht7=>?_⟩
   have T7:=T6.new ht7 (.tup [.str "begin",.ref t6])
   have e7:DatT K _ (.ref t6) (.tuple (Pg.dats [.pass])):=T7.get t6
   have T7:=(T7.im (T:=YZ K (.blk "begin" [.pass])) fun h e _ im=>DatT.tup (SqT.of e) (.cons (.str _) (.cons (e7.tf ⟨fun x xs q=>im _ _ q rfl,fun x o u q=>im _ _ q rfl⟩) .nil))).drop t6
   refine ⟨(show 5≤sizeLine by decide),fun lr hlr=>?_⟩
   have T8:=T7.new hlr (.lst [.ref t1,.ref t2,.ref t3,.ref t4,.ref t7])
   generalize upd _ lr _=Hx at *
   refine ⟨_,rfl,_,rfl,_,rfl,?_⟩
   dsimp only [WV]
   refine ⟨_,rfl,p,_,6,_,rfl,T8.pull p,by omega,by decide,by decide,fun r8 Hy h0 h1 T9=>⟨_,rfl,lr,_,rfl,SqL.of (T9.get lr),fun lt hlt=>?_⟩⟩
   dsimp only [YX]
   have ecut:YV [V.ref t1,.ref t2,.ref t3,.ref t4,.ref t7] none (some r8)=[V.ref t1,.ref t2,.ref t3,.ref t4,.ref t7].take r8.toNat:=by
     have:=Ur (xs:=[V.ref t1,.ref t2,.ref t3,.ref t4,.ref t7]) (i:=r8.toNat)
     rwa [show ((r8.toNat:Nat):Int)=r8 by omega] at this
   rw [ecut]
   have d5:DatTs K Hy [V.ref t1,.ref t2,.ref t3,.ref t4,.ref t7] (Pg.dats (VA y)):=.cons (T9.get t1) (.cons (T9.get t2) (.cons (T9.get t3) (.cons (T9.get t4) (.cons (T9.get t7) .nil))))
   have d6:=Zao (n:=r8.toNat) d5
   rw [← ZgZ] at d6
   have T9:=(((((T9.drop lr).drop t1).drop t2).drop t3).drop t4).drop t7
   generalize [V.ref t1,.ref t2,.ref t3,.ref t4,.ref t7].take r8.toNat=vs6 at d6 ⊢
   refine ⟨lt,_,rfl,.inl ⟨SqL.of Zc,fun t ht=>?_⟩⟩
   have s7:=Zh hlt (.lst vs6)
   have s8:=Zh ht (.tup vs6)
   have d8:DatT K _ (.ref t) (.tuple (Pg.dats ((VA y).take r8.toNat))):=.tup (SqT.of Zc) (DatTs.same (s7.trans s8) d6)
   have T10:=ZiM t (T9.mono (s7.trans s8)) d8
   refine ⟨(show 3≤sizeLine by decide),fun tt htt=>?_⟩
   obtain ⟨o1,o2,o3⟩:=Zkq (NS:=NS) hyk r8.toNat
   have T11:=((T10.new htt (.tup [.ref D,.ref D2,.ref t])).pull D).pull tt
   refine q tt _ ss ns ((VA y).take r8.toNat) ⟨hso,by rw [hss];exact n3,by omega,hnk,hnl3,UH o1,by omega,o2,by rw [hss];exact UK o1⟩ o3 (ZdN (((((T11.drop p).drop sl).drop nl).pull t).pull D2 |>.pull D |>.pull tt))
 · dsimp only [ZbR]
   refine ⟨_,rfl,_,rfl,_,rfl,_,rfl,_,rfl,_,rfl,?_⟩
   dsimp only [WV]
   refine ⟨_,rfl,nl,_,rfl,SqL.of (S9.get nl),fun d1 hd1=>?_⟩
   obtain ⟨zs,ez,mz,lz⟩:=ZhZ NS none (some 1)
   rw [ez]
   have T1:=S9.new hd1 (.lst (zs.map V.str))
   refine ⟨sl,d1,_,_,rfl,rfl,T1.get sl,T1.get d1,Zv (show _≤1000 by rw [List.length_map,List.length_map];omega),fun d2 hd2=>?_⟩
   rw [← List.map_append]
   have T2:=((T1.new hd2 (.lst ((SS++zs).map V.str))).drop d1).drop sl
   generalize upd _ d2 _=Hx at *
   refine ⟨_,rfl,_,rfl,_,_,rfl,rfl,p,_,_,_,rfl,T2.pull p,by omega,by omega,by omega,fun r8 Hy h0 h1 T3=>?_⟩
   have hN0:NS≠[]:=fun z=>c (by rw [z];rfl)
   have R:RO ((d2,Xh ((SS++zs).map V.str))::(D2,Xh (WL ns))::(D,Uo us ss)::(nl,Xh (NS.map V.str))::Δ) nl d2 NS (SS++zs):=⟨fun H z=>⟨z.get nl,z.get d2⟩,hN0,fun z=>s0 (by omega) (List.append_eq_nil_iff.mp z).1,by omega,by rw [List.length_append];omega,n2,fun x hx=>by
     rcases List.mem_append.mp hx with h | h
     · exact s2 x h
     · exact n2 x (mz x h)⟩
   refine ⟨_,rfl,p,nl,d2,_,r8.toNat,6,NS,SS++zs,_,by rw [show ((r8.toNat:Nat):Int)=r8 by omega];rfl,T3,R,by omega,by omega,by omega,fun t H' ps h1 h2 h3 T4=>⟨(show 3≤sizeLine by decide),fun tt htt=>?_⟩⟩
   have T5:=((((T4.drop p).drop d2).drop nl).new htt (.tup [.ref D,.ref D2,.ref t]))
   refine q tt _ ss ns ps ⟨hso,by rw [hss];exact n3,by omega,hnk,hnl3,UH h2,by omega,by omega,by rw [hss];exact UK h2⟩ h3 (ZdN ((((T5.pull t).pull D2).pull D).pull tt))
end
end K72
set_option maxHeartbeats 2000000
namespace L2
open PySem PySem.Spec PyProof.Rows
section
variable {prog:Program}{w:World}{A:Around}{E:Value→Shared→Prop}{s:Shared}
end
section
variable {X:Cx}{pins:List (Addr×Obj)}{σ:St}{A:Around}
end
section
variable {X:Cx}
end
end L2
set_option maxHeartbeats 4000000
namespace K72
open PySem L2
mutual
def wd:PyData→Bool
 | .tuple ds=>decide (ds.length≤20000)&&VQ ds
 | .list ds=>decide (ds.length≤20000)&&VQ ds
 | .none=>true
 | .bool _=>true
 | .int _=>true
 | .str _=>true
 | .dict _=>true
def VQ:List PyData→Bool
 | []=>true
 | d::ds=>wd d&&VQ ds
end
mutual
theorem toA {K:PySem.W.Frag}{H:Hp}:∀{v:V}{d:PyData},DatT K H v d→wd d=true→DatA K H v d
 | _,_,.non,_=>.non
 | _,_,.int i,_=>.int i
 | _,_,.str x,_=>.str x
 | _,_,.tup e q,w=>by
   rw [wd,Bool.and_eq_true,decide_eq_true_eq] at w
   exact .tup e (by rw [q.len];exact w.1) (toAs q w.2)
theorem toAs {K:PySem.W.Frag}{H:Hp}:∀{vs:List V}{ds:List PyData},DatTs K H vs ds→VQ ds=true→DatAs K H vs ds
 | _,_,.nil,_=>.nil
 | _,_,.cons a b,w=>by
   rw [VQ,Bool.and_eq_true] at w
   exact .cons (toA a w.1) (toAs b w.2)
end
mutual
theorem ZlW:∀{p:Pg},p.ok→p.many≤20000→wd p.dat=true∧nb p.dat=true
 | .set x v s,h,_=>by
   have:wd (XT v)=true∧nb (XT v)=true:=by
     have hv:=h.2.1
     cases v<;>first | exact ⟨rfl,rfl⟩ | exact hv.elim
   refine ⟨?_,?_⟩
   · show (decide (4≤20000)&&(true&&(true&&(wd (XT v)&&(true&&true)))))=true
     rw [this.1];rfl
   · show (true&&(true&&(nb (XT v)&&(true&&true))))=true
     rw [this.2];rfl
 | .look x,_,_=>⟨rfl,rfl⟩
 | .slot w s,_,_=>⟨rfl,rfl⟩
 | .pass,_,_=>⟨rfl,rfl⟩
 | .blk w ps,h,hm=>by
   have e:(Pg.blk w ps).many=1+Pg.manys ps:=Pg.many_eq _
   obtain ⟨h1,h2⟩:=Zaz h.2 (by omega)
   have h3:=Pg.len_manys ps
   have h4:(Pg.dats ps).length≤20000:=by rw [Pg.dats_map,List.length_map];omega
   refine ⟨?_,?_⟩
   · show (decide (2≤20000)&&(true&&((decide ((Pg.dats ps).length≤20000)&&VQ (Pg.dats ps))&&true)))=true
     rw [decide_eq_true h4,h1];rfl
   · show (true&&(Wp (Pg.dats ps)&&true))=true
     rw [h2];rfl
 | .inn s ps,h,hm=>by
   have e:(Pg.inn s ps).many=1+Pg.manys ps:=Pg.many_eq _
   obtain ⟨h1,h2⟩:=Zaz h.2 (by omega)
   have h3:=Pg.len_manys ps
   have h4:(Pg.dats ps).length≤20000:=by rw [Pg.dats_map,List.length_map];omega
   refine ⟨?_,?_⟩
   · show (decide (3≤20000)&&(true&&(true&&((decide ((Pg.dats ps).length≤20000)&&VQ (Pg.dats ps))&&true))))=true
     rw [decide_eq_true h4,h1];rfl
   · show (true&&(true&&(Wp (Pg.dats ps)&&true)))=true
     rw [h2];rfl
theorem Zaz:∀{ps:List Pg},Pg.oks ps→Pg.manys ps≤20000→VQ (Pg.dats ps)=true∧Wp (Pg.dats ps)=true
 | [],_,_=>⟨rfl,rfl⟩
 | p :: ps,h,hm=>by
   have e:Pg.manys (p::ps)=p.many+Pg.manys ps:=rfl
   obtain ⟨h1,h2⟩:=ZlW h.1 (by omega)
   obtain ⟨h3,h4⟩:=Zaz h.2 (by omega)
   refine ⟨?_,?_⟩
   · show (wd p.dat&&VQ (Pg.dats ps))=true
     rw [h1,h3];rfl
   · show (nb p.dat&&Wp (Pg.dats ps))=true
     rw [h2,h4];rfl
end
theorem Zlm {K:PySem.W.Frag}{H:Hp}{v:V}{ps:List Pg}(h:DatT K H v (.tuple (Pg.dats ps)))(ho:Pg.oks ps)(hm:Pg.manys ps≤20000):DatA K H v (.tuple (Pg.dats ps))∧nb (.tuple (Pg.dats ps))=true:=by
 obtain ⟨h1,h2⟩:=Zaz ho hm
 have h3:=Pg.len_manys ps
 refine ⟨toA h ?_,h2⟩
 show (decide ((Pg.dats ps).length≤20000)&&VQ (Pg.dats ps))=true
 rw [decide_eq_true (by rw [Pg.dats_map,List.length_map];omega),h1];rfl
theorem Zmb {K:PySem.W.Frag}{H H':Hp}{a:Addr}{xs:List V}(h:SqL K H a xs)(s:Same H H'):SqL K H' a xs:=by
 rcases h with (h | ⟨o,h⟩) | h
 · exact .inl (.inl (s _ _ h))
 · exact .inl (.inr ⟨o,s _ _ h⟩)
 · exact .inr h
def ZbW (K:PySem.W.Frag):Sp:=fun vs H Q _=>∃(a:Addr)(ns:List Int),vs=[.ref a]∧SqL K H a (ns.map V.int)∧ns.length≤63∧∀ H',Q (.bl true) H'
def ScQ (K:PySem.W.Frag)(ns:List Int):Xa:=fun a h=>SqL K h a (ns.map V.int)
instance {K:PySem.W.Frag} {ns:List Int}:Up (ScQ K ns):=⟨fun h s=>Zmb h s⟩
end K72
set_option maxHeartbeats 4000000
namespace K72
open PySem L2
theorem Zcr:(Str.ofString "setting ").cps.toList=stS.cps.toList++(Str.ofString " ").cps.toList:=by decide +kernel
theorem ZgX:(Str.ofString "").cps.toList=[]:=by decide +kernel
theorem ZhA (x:Str):Str.ofString "setting "++x++Str.ofString ""=Yr (x,.non):=by
 unfold Yr
 rw [if_pos rfl]
 show _=stS++Str.ofString " "++x
 apply Ys
 simp only [YR,Zcr,ZgX,List.append_nil]
theorem ZhB {x:Str}{v:V}(h:v≠.non):Str.ofString "setting "++x++(Str.ofString " "++ZJ v)=Yr (x,v):=by
 unfold Yr
 rw [if_neg h]
 show _=stS++Str.ofString " "++(x++Str.ofString " "++ZJ v)
 apply Ys
 simp only [YR,Zcr,List.append_assoc]
section
variable {P:Program}{w:World}{K:PySem.W.Frag}{mg:Str→Option Value}{base:Heap}
def spLs (K:PySem.W.Frag):Sp:=fun vs H Q _=>∃(ls lp:Addr)(us:List V)(u:V)(ss:List (Str×V))(ns:List Nat)(ps:List Pg),vs=[.ref ls,.ref lp,u]∧H ls=some (.lst us)∧PvL H us (ss.map sV)∧H lp=some (.lst (WL ns))∧DatT K H u (.tuple (Pg.dats ps))∧ZaP ss ns ps∧Pg.hgts ps≤6∧∀ H',Same H H'→Q (.str (shT ss ns ps)) H'
abbrev nLs:List Str:=["_law_settings","_law_picks","_law_program_here","_law_rows_here","_law_name","_law_value_here"]
abbrev Zhy:List Str:=["_law_settings","_law_picks","_law_program_here"]
theorem scLs:Zs nLs Zhy (Zj s_l_sheet_text):=⟨rfl,rfl,rfl,by decide +kernel,rfl,by decide +kernel,by decide +kernel⟩
theorem Zma {f:Addr}{fd:FuncData}{k:Nat}(F:Fun K "_law_sheet_text" "_law_sheet_text" s_l_sheet_text f fd)(T:ZZ mg)(DWr:Def P w K mg base k "_law_written" ZcO (fun vs H Q E=>∃ v,vs=[v]∧IsVal v∧∀ H',Same H H'→Q (.str (ZJ v)) H'))(DRo:Def P w K mg base k "_law_rows" Zad (ZcS K 10)):FnOk P w K mg base ZV (k+1) f fd Zhy (spLs K):=by
 refine F.ok scLs (fun vs H Q E h=>?_) (fun cdv A outer s H vs Q E hr h=>?_)
 · obtain ⟨ls,lp,us,u,ss,ns,ps,rfl,_⟩:=h;rfl
 have hr1:=hr
 obtain ⟨ls,lp,us,u,ss,ns,ps,rfl,els,hpv,elp,hu,O,hh,q⟩:=h
 refine' ⟨?t,?h,?r⟩
 case h =>
   conv=>arg 2;whnf
   with_reducible refine' (Ze ?h1 (Ze (XE ?h2 ?h3 ?h4 ?h5 (Zi ?h6) ?h7) (Ze ?h8 (Zi ?h9))))
   case h1=>exact Zr (i:=3) scLs.nd rfl (Or.inl rfl) (ZF Za)
   case h2=>exact PassesOwn.never
   case h3=>exact rfl
   case h4=>exact Xp (pv 0)
   case h5=>exact XO rfl (ZP (Zw (i:=4) scLs.nd rfl (Or.inl rfl)) (ZP (Zw (i:=5) scLs.nd rfl (Or.inl rfl)) Xo))
   case h6=>exact Yx (Yc PySem.F.plainAttrs_list PySem.F.slot_list_append PySem.F.type_list_append Yd (pv 3) (Zb (Zl Yf (Zl Yf Zk (pv 4)) (Yz (WG (WE (pv 5))) Zk (Zl Yf Zk (Zq DWr hr (Zb (pv 5) Za))))) Za))
   case h7=>exact fun _=>rfl
   case h8=>exact Yx (Yc PySem.F.plainAttrs_list PySem.F.slot_list_append PySem.F.type_list_append Yd (pv 3) (Zb (Yc PySem.F.plainAttrs_str PySem.F.slot_str_join PySem.F.type_str_join Ws Zk (Zb (Zl Wg (ZF (Zb Zk Za)) (XW (CompOk.of nLs s_l_sheet_text rfl rfl (by decide +kernel)) rfl (Xp (pv 1))  (fun _ _ _ _ _=>ZY UA rfl T.str (by decide +kernel) (Zb (pv 6) Za)))) Za)) Za))
   case h9=>exact Zp (Yc PySem.F.plainAttrs_str PySem.F.slot_str_join PySem.F.type_str_join Ws Zk (Zb (Zl Wg (pv 3) (Zq DRo hr (Zb (pv 2) (Zb Zd Za)))) Za))
 refine ⟨(show 0≤sizeLine by decide),fun rl hrl=>?_⟩
 have s1:=Zh hrl (.lst [])
 have hsl:=O.sl
 have hul:us.length=ss.length:=by rw [hpv.len,List.length_map]
 refine ⟨_,rfl,ls,rfl,⟨_,SqL.of (s1 _ _ els)⟩,?_⟩
 refine UT (xs:=us) (fun i σ H'=>∃ x4 x5:Option V,σ=[some (.ref ls),some (.ref lp),some u,some (.ref rl),x4,x5]∧Same H H'∧H' rl=some (.lst (((ss.take i).map Yr).map V.str))∧i≤ss.length) ⟨_,_,rfl,s1,Zc,Nat.zero_le _⟩ (fun i σ H' _ ⟨_,_,_,s',_⟩=>SqL.of (s' _ _ els)) ?_ ?_
 · rintro i v σ H' hv ⟨x4,x5,rfl,s',erl,hi⟩
   obtain ⟨t,x,y,rfl,exy,et⟩:=hpv.at hv
   rw [List.getElem?_map] at exy
   obtain ⟨⟨z,vz⟩,ez,e9⟩:=Option.map_eq_some_iff.mp exy
   cases e9
   have hz:=O.so _ (List.mem_of_getElem? ez)
   have hi2:=(List.getElem?_eq_some_iff.mp ez).1
   have hzl:z.length≤8:=hz.1.2.1
   have l8:(Str.ofString "setting ").length=8:=by decide +kernel
   refine ⟨t,_,rfl,SqT.of (s' _ _ et),rfl,_,_,rfl,_,_,rfl,rfl,?_⟩
   have fin:∀ (H2:Hp) (x:Str),Same H' H2→x=Yr (z,vz)→ZdS (.ref rl) [.str x] H2 fun _ H3=>∃ x4' x5':Option V,[some (.ref ls),some (.ref lp),some u,some (.ref rl),some (.str z),some vz]=[some (.ref ls),some (.ref lp),some u,some (.ref rl),x4',x5']∧Same H H3∧H3 rl=some (.lst (((ss.take (i+1)).map Yr).map V.str))∧i+1≤ss.length:=by
     rintro H2 x s2 rfl
     refine ⟨rl,_,_,rfl,rfl,s2 _ _ erl,Xy (show _≤1000 by rw [List.length_map,List.length_map,List.length_take];omega),_,_,rfl,fun b o e=>?_,?_,hi2⟩
     · rw [Zo (Zy e hrl)];exact s2 _ _ (s' _ _ e)
     · rw [Zc,List.take_add_one,ez,List.map_append,List.map_append];rfl
   refine ⟨_,rfl,.inl ⟨rfl,_,SqL.of erl⟩,_,rfl,_,_,rfl,rfl,Zv (show _≤1000 by show _+z.length≤1000;omega),?_⟩
   have hvz:vz=.non∨IsVal vz:=hz.2
   have l1:(Str.ofString " ").length=1:=by decide +kernel
   have l0:(Str.ofString "").length=0:=by decide +kernel
   refine ⟨_,rfl,_,rfl,Wm (fun c=>?_) (fun c=>?_)⟩
   · have c:vz=.non:=of_decide_eq_true c
     exact ⟨_,_,rfl,rfl,Zv (show _≤1000 by rw [Xe];show _+z.length+_≤1000;omega),fin _ _ (Same.refl _) (by rw [c];exact ZhA z)⟩
   · have c:vz≠.non:=fun e=>c (decide_eq_true e)
     have hv:=hvz.resolve_left c
     have h9:(ZJ vz).length≤100:=VX hv
     exact ⟨_,rfl,vz,rfl,hv,fun H2 s2=>⟨_,_,rfl,rfl,Zv (show _≤1000 by omega),_,_,rfl,rfl,Zv (show _≤1000 by rw [Xe,Xe];show _+z.length+_≤1000;omega),fin _ _ s2 (ZhB c)⟩⟩
 · rintro σ H' ⟨x4,x5,rfl,s',erl,hi⟩
   rw [hul,List.take_length] at erl
   refine ⟨_,rfl,.inl ⟨rfl,_,SqL.of erl⟩,rfl,(show 1≤sizeLine by decide),fun wl hwl=>?_⟩
   have s2:=Zh hwl (.lst [.str "weave"])
   have ewl:upd H' wl (.lst [.str "weave"]) wl=_:=Zc
   generalize upd H' wl (.lst [.str "weave"])=H2 at s2 ewl ⊢
   have elp2:=s2 _ _ (s' _ _ elp)
   have hnl:=O.nl
   have lN:(WL ns).length=ns.length:=by rw [List.length_map,List.length_map]
   refine ⟨_,rfl,lp,rfl,⟨_,SqL.of elp2⟩,fun D hD=>?_⟩
   refine Ut (K:=K) (xs:=WL ns) (Zv (show _≤1000 by omega)) (fun i ys H'=>Same H2 H'∧H' D=some (.lst ys)∧ys=((ns.take i).map Xn).map V.str∧i≤ns.length) ⟨Zh hD _,Zc,rfl,Nat.zero_le _⟩ ?_ ?_ ?_
   · rintro i ys H3 ⟨s3,_,rfl,hi⟩
     exact ⟨by rw [List.length_map,List.length_map,List.length_take];omega,SqL.of (s3 _ _ elp2)⟩
   · rintro i v ys H3 hv ⟨s3,eD,rfl,hi⟩
     rw [List.getElem?_map,List.getElem?_map] at hv
     obtain ⟨z,ez,rfl⟩:=Option.map_eq_some_iff.mp hv
     obtain ⟨n,en,rfl⟩:=Option.map_eq_some_iff.mp ez
     have hn:=O.no n (List.mem_of_getElem? en)
     have hlg:((n:Int)).natAbs.log2 < 1920:=by
       rw [Int.natAbs_natCast]
       by_cases h0:n=0
       · rw [h0];decide
       · exact (Nat.log2_lt h0).mpr (Nat.lt_of_lt_of_le hn (Nat.le_trans (show 10000≤2 ^ 14 by decide) (Nat.pow_le_pow_right (by decide) (by decide))))
     refine ⟨_,rfl,.inl ⟨_,rfl,hlg,eD,fun b o e=>?_,Zc,?_,(List.getElem?_eq_some_iff.mp en).1⟩⟩
     · rw [Zo (Zy e hD)];exact s3 _ _ e
     · rw [List.take_add_one,en,List.map_append,List.map_append];rfl
   · rintro ys H3 ⟨s3,eD,rfl,_⟩
     rw [lN,List.take_length] at eD
     refine ⟨wl,D,_,_,rfl,rfl,s3 _ _ ewl,eD,Zv (show _≤1000 by rw [List.length_map,List.length_map];show 1+_≤1000;omega),fun d3 hd3=>?_⟩
     rw [show [V.str (Str.ofString "weave")]++(ns.map Xn).map V.str=(wvS::ns.map Xn).map V.str from rfl]
     have s4:=Zh hd3 (.lst ((wvS::ns.map Xn).map V.str))
     have ed3:upd H3 d3 (.lst ((wvS::ns.map Xn).map V.str)) d3=_:=Zc
     dsimp only [YX]
     refine ⟨_,d3,wvS::ns.map Xn,rfl,rfl,SqL.of ed3,?_,?_⟩
     · have h5:wvS.length=5:=by decide +kernel
       have l1:(Str.ofString " ").length=1:=by decide +kernel
       have h2:=UL (n:=4) (ns.map Xn) (fun y hy=>by
         obtain ⟨n,hn2,rfl⟩:=List.mem_map.mp hy
         rw [ZL,Uk]
         exact UJ (k:=3) (by have:=O.no n hn2;omega))
       rw [List.length_map] at h2
       simp only [List.map_cons,List.sum_cons,List.length_cons,List.length_map,l1]
       omega
     have hw:Txt.join (Str.ofString " ") (wvS::ns.map Xn)=Yh ns:=tj _ _
     rw [hw]
     have s14:Same H' _:=(s2.trans s3).trans s4
     have erl4:=s14 _ _ erl
     have s04:Same H _:=s'.trans s14
     clear ed3 eD hD hd3 s4
     generalize upd H3 d3 (.lst ((wvS::ns.map Xn).map V.str))=H4 at *
     refine ⟨rl,_,_,rfl,rfl,erl4,Xy (show _≤1000 by rw [List.length_map,List.length_map];omega),?_⟩
     have er5:upd H4 rl (.lst ((ss.map Yr).map V.str++[.str (Yh ns)])) rl=_:=Zc
     have s05:Same H (upd H4 rl (.lst ((ss.map Yr).map V.str++[.str (Yh ns)]))):=fun b o e=>by rw [Zo (Zy e hrl)];exact s04 _ _ e
     generalize upd H4 rl (.lst ((ss.map Yr).map V.str++[.str (Yh ns)]))=H5 at er5 s05 ⊢
     have hrk:=Pg.rk_le ps
     have hpm:=O.pm
     refine ⟨rfl,_,rfl,_,rfl,u,0,ps,rfl,hu.same s05,O.po,by omega,by omega,by omega,fun l8 H8 s8 hl8 el8=>?_⟩
     rw [show (fun x=>XR 0++x)=id from funext ZlH,List.map_id] at el8
     have hrl8:=XC ps
     have hsr:(ss.map Yr).map V.str++[.str (Yh ns)]++(Yb ps).map V.str=(ZO ss ns ps).map V.str:=by unfold ZO;simp
     refine ⟨rl,l8,_,_,rfl,rfl,s8 _ _ er5,el8,Zv (show _≤1000 by simp only [List.length_append,List.length_map,List.length_cons,List.length_nil];omega),fun d9 hd9=>?_⟩
     rw [hsr]
     have s9:=Zh hd9 (.lst ((ZO ss ns ps).map V.str))
     have hb:=ZfI (ns:=ns) O.so O.no O.nl O.po O.ph
     have hlen:(ZO ss ns ps).length≤500:=by
       unfold ZO
       rw [List.length_append,List.length_cons,List.length_map];omega
     dsimp only [YX]
     refine ⟨_,d9,ZO ss ns ps,rfl,rfl,SqL.of Zc,?_,?_⟩
     · have h1:=UL (n:=1900) (ZO ss ns ps) hb
       rw [show (Str.ofString "\n").length=1 by decide +kernel]
       omega
     · rw [tj];exact q _ ((s05.trans s8).trans s9)
end
end K72
set_option maxHeartbeats 4000000
namespace K72
open PySem L2
def Vs (p:Str×V):PyData:=.tuple [.str p.1,XT p.2]
def shD (ss:List (Str×V))(ns:List Nat)(ps:List Pg):PyData:=.tuple [.list (ss.map Vs),.list (ns.map fun n:Nat=>PyData.int (n:Int)),.tuple (Pg.dats ps)]
theorem Zlo {K:PySem.W.Frag}{H:Hp}{v:V}(h:v=.non∨IsVal v):DatA K H v (XT v):=by
 rcases h with rfl | h
 · exact .non
 · cases v<;>first | exact .int _ | exact .str _ | exact h.elim
theorem Zka {v:V}(h:v=.non∨IsVal v):nb (XT v)=true∧(XT v).depth=0:=by
 rcases h with rfl | h
 · exact ⟨rfl,rfl⟩
 · cases v<;>first | exact ⟨rfl,rfl⟩ | exact h.elim
theorem ZeX {K:PySem.W.Frag}{H:Hp}:∀{us:List V}{ss:List (Str×V)},PvL H us (ss.map sV)→(∀ p∈ss,Vr p)→DatAs K H us (ss.map Vs)
 | [],[],_,_=>.nil
 | _::_,[],h,_=>nomatch h
 | [],_::_,h,_=>nomatch h
 | _::_,p::ss,.cons a b,o=>.cons (.tup (SqT.of a) (show 2≤20000 by decide) (.cons (.str _) (.cons (Zlo (o p (List.mem_cons_self ..)).2) .nil))) (ZeX b fun q hq=>o q (List.mem_cons_of_mem _ hq))
theorem Zdq:∀{ss:List (Str×V)},(∀ p∈ss,Vr p)→Wp (ss.map Vs)=true∧PyData.depthAll (ss.map Vs)≤1
 | [],_=>⟨rfl,Nat.zero_le _⟩
 | p :: ss,o=>by
   obtain ⟨h1,h2⟩:=Zdq (ss:=ss) fun q hq=>o q (List.mem_cons_of_mem _ hq)
   obtain ⟨h3,h4⟩:=Zka (o p (List.mem_cons_self ..)).2
   refine ⟨?_,?_⟩
   · show ((true&&(nb (XT p.2)&&true))&&Wp (ss.map Vs))=true
     rw [h1,h3];rfl
   · show max (max 0 (max (XT p.2).depth 0)+1) (PyData.depthAll (ss.map Vs))≤1
     omega
theorem ZfF {K:PySem.W.Frag}{H:Hp}:∀ ns:List Nat,DatAs K H (WL ns) (ns.map fun n:Nat=>PyData.int (n:Int))
 | []=>.nil
 | _::ns=>.cons (.int _) (ZfF ns)
theorem ZdT:∀ ns:List Nat,Wp (ns.map fun n:Nat=>PyData.int (n:Int))=true∧PyData.depthAll (ns.map fun n:Nat=>PyData.int (n:Int))=0
 | []=>⟨rfl,rfl⟩
 | _ :: ns=>by
   obtain ⟨h1,h2⟩:=ZdT ns
   refine ⟨?_,?_⟩
   · show (true&&Wp _)=true
     rw [h1];rfl
   · show max 0 (PyData.depthAll _)=0
     rw [h2];rfl
theorem Zeh {K:PySem.W.Frag}{H:Hp}{ss:List (Str×V)}{ns:List Nat}{ps:List Pg}(O:ZaP ss ns ps)(hh:Pg.hgts ps≤6){t ls lp:Addr}{us:List V}{w:V}(et:H t=some (.tup [.ref ls,.ref lp,w]))(e1:H ls=some (.lst us))(e2:PvL H us (ss.map sV))(e3:H lp=some (.lst (WL ns)))(e4:DatT K H w (.tuple (Pg.dats ps))):DatA K H (.ref t) (shD ss ns ps)∧nb (shD ss ns ps)=true∧(shD ss ns ps).depth < 16:=by
 have h1:=O.sl;have h2:=O.nl;have h3:=O.pm
 obtain ⟨p1,p2⟩:=Zlm e4 O.po (by omega)
 obtain ⟨s1,s2⟩:=Zdq O.so
 obtain ⟨n1,n2⟩:=ZdT ns
 have hdp:=Pg.deeps ps
 refine ⟨.tup (SqT.of et) (show 3≤20000 by decide) (.cons (.lst e1 (by rw [e2.len,List.length_map];omega) (ZeX e2 O.so)) (.cons (.lst e3 (by rw [List.length_map,List.length_map];omega) (ZfF ns)) (.cons p1 .nil))),?_,?_⟩
 · show (Wp (ss.map Vs)&&(Wp (ns.map fun n:Nat=>PyData.int (n:Int))&&(nb (.tuple (Pg.dats ps))&&true)))=true
   rw [s1,n1,p2];rfl
 · show max (PyData.depthAll (ss.map Vs)+1) (max (PyData.depthAll (ns.map fun n:Nat=>PyData.int (n:Int))+1) (max (PyData.depthAll (Pg.dats ps)+1) 0))+1 < 16
   omega
def Shts (K:PySem.W.Frag)(us:List V)(H:Hp):Prop:=∀ v∈us,∃ t ss ns ps,v=.ref t∧ZaP ss ns ps∧Pg.hgts ps≤6∧ShR K ss ns ps t H
section
variable {P:Program}{w:World}{K:PySem.W.Frag}{mg:Str→Option Value}{base:Heap}
abbrev nLa:List Str:=["_law_script","_law_sheets","_law_k","_law_box_here","_law_far","_law_most","_law_picks","_law_steps","_law_settings","_law_program_here","_law_told"]
abbrev pnLa:List Str:=["_law_script"]
theorem scLa:Zs nLa pnLa (Zj s_law):=⟨rfl,rfl,rfl,by decide +kernel,rfl,by decide +kernel,by decide +kernel⟩
theorem Zke {f:Addr}{fd:FuncData}{k:Nat}(F:Fun K "law" "law" s_law f fd)(T:ZZ mg)(DT:DTk P w K mg base k)(DB:Def P w K mg base k "_law_box" ["_law_script","_law_k"] (ZcL K))(DDr:Def P w K mg base k "_law_drawn" Zgw (spDr K))(DLs:Def P w K mg base k "_law_sheet_text" Zhy (spLs K))(DSx:Def P w K mg base k "sheet_from" ZgW (spSx K))(DSa:Def P w K mg base k "_law_same" VW (Vu K 16)):FnOk P w K mg base ZV (k+1) f fd pnLa (ZbW K):=by
 refine F.ok scLa (fun vs H Q E h=>?_) (fun cdv A outer s H vs Q E hr h=>?_)
 · obtain ⟨a,ns,rfl,_⟩:=h;rfl
 obtain ⟨a,ns,rfl,hS,h63,q⟩:=h
 have hr1:=hr
 refine' ⟨?t,?h,?r⟩
 case h =>
   conv=>arg 2;whnf
   with_reducible refine' (Ze ?h1 (Ze (XE ?h2 ?h3 ?h4 ?h5 (Ze ?h6 (WY ?h7 (Ze ?h8 (Zi ?h9)))) ?h10) (Ze (XE ?h11 ?h12 ?h13 ?h14 (Ze ?h15 (Ze (ZS ?h16 (Zi ?h17) ZE) (Ze ?h18 (Ze ?h19 (Zi ?h20))))) ?h21) (Zi ?h22))))
   case h1=>exact Zr (i:=1) scLa.nd rfl (Or.inl rfl) (ZF Za)
   case h2=>exact PassesOwn.never
   case h3=>exact rfl
   case h4=>exact WA rfl T.range (Zb (Zm (ZfX rfl) rfl T.max (by decide +kernel) (Zb Zd (Zb (Zm (Zft rfl) rfl T.min (by decide +kernel) (Zb (Zm ZK rfl T.len PySem.boot_len (Zb (pv 0) Za)) (Zb Zd Za))) Za))) Za)
   case h5=>exact Zw (i:=2) scLa.nd rfl (Or.inl rfl)
   case h6=>exact Zr (i:=3) scLa.nd rfl (Or.inl rfl) (Zq DB hr (Zb (pv 0) (Zb (pv 2) Za)))
   case h7=>exact Zr (i:=4) scLa.nd rfl (Or.inl rfl) (XQ (YT YW (pv 2) Zd (ZC _)) (WD (YT YW (Zq DT hr1 (Zb (pv 3) (Zb Zd Za))) Zd (ZC _))))
   case h8=>exact Zdt (i:=5) (j:=6) (k:=7) rfl scLa.nd rfl rfl rfl (by decide) (by decide) (by decide) rfl rfl rfl (Zb (ZB ZG (ZF (Zb Zd (Zb Zd Za))) (ZY WF rfl T.int (by decide +kernel) (Zb (pv 4) Za)) (fun _ _=>rfl)) (Zb (ZB ZG (ZF (Zb Zd (Zb Zd Za))) (ZY WF rfl T.int (by decide +kernel) (Zb (pv 4) Za)) (fun _ _=>rfl)) (Zb (ZB ZG (ZF (Zb Zd (Zb Zd Za))) (ZY WF rfl T.int (by decide +kernel) (Zb (pv 4) Za)) (fun _ _=>rfl)) Za))) rfl
   case h9=>exact Yx (Yc PySem.F.plainAttrs_list PySem.F.slot_list_append PySem.F.type_list_append Yd (pv 1) (Zb (Zq DDr hr (Zb (pv 3) (Zb (pv 5) (Zb (pv 6) (Zb (pv 7) (Zb Zd Za)))))) Za))
   case h10=>exact fun _=>rfl
   case h11=>exact PassesOwn.never
   case h12=>exact rfl
   case h13=>exact Xp (Zl Wg (pv 1) (Zds (pv 1)))
   case h14=>exact XO rfl (ZP (Zw (i:=8) scLa.nd rfl (Or.inl rfl)) (ZP (Zw (i:=6) scLa.nd rfl (Or.inl rfl)) (ZP (Zw (i:=9) scLa.nd rfl (Or.inl rfl)) Xo)))
   case h15=>exact Zr (i:=10) scLa.nd rfl (Or.inl rfl) (Zq DSx hr (Zb (Zq DLs hr (Zb (pv 8) (Zb (pv 6) (Zb (pv 9) Za)))) Za))
   case h16=>exact UQ (YJ (Zq DSa hr (Zb (pv 10) (Zb (ZI (Zb (pv 8) (Zb (pv 6) (Zb (pv 9) Za)))) Za))))
   case h17=>exact Zp Zax
   case h18=>exact Yx (Yc PySem.F.plainAttrs_list PySem.F.slot_list_append PySem.F.type_list_append Yd (ZB Xc (pv 10) Zd (fun _ _=>rfl)) (Zb (ZI (Zb Zk (Zb YI Za))) Za))
   case h19=>exact Yx (ZjT PySem.F.plainAttrs_list PySem.F.slot_list_reverse PySem.F.type_list_reverse Zew (ZB Xc (pv 10) Zd (fun _ _=>rfl)))
   case h20=>exact Yx (Yc PySem.F.plainAttrs_list PySem.F.slot_list_append PySem.F.type_list_append Yd (ZB Xc (pv 10) Zd (fun _ _=>rfl)) (Zb Zd Za))
   case h21=>exact fun _=>rfl
   case h22=>exact Zp (Zq DSa hr (Zb (Zq DSx hr (Zb Zk Za)) (Zb (ZI (Zb (ZF Za) (Zb (ZF Za) (Zb (ZI Za) Za)))) Za)))
 have S:Sep [(a,ScQ K ns)] H:=⟨H,fun _ _ e=>e,hS,trivial⟩
 refine ⟨(by show 0≤sizeLine;decide),fun sh hsh=>?_⟩
 have S1:=S.new hsh (.lst [])
 generalize upd H sh (.lst [])=H1 at S1 ⊢
 refine ⟨_,rfl,a,_,rfl,.inl (S1.get a),_,_,rfl,_,_,rfl,?_⟩
 rw [List.length_map]
 generalize hm:(if (if (3:Int) < ((ns.length:Nat):Int) then 3 else ((ns.length:Nat):Int)) > 1 then (if (3:Int) < ((ns.length:Nat):Int) then 3 else ((ns.length:Nat):Int)) else 1)=m
 have hm9:0≤m∧m≤3:=by rw [← hm];split<;>(try split)<;>omega
 refine ⟨m,rfl,by omega,by omega,?_⟩
 refine Zbz (fun i σ H'=>∃ (us:List V) (Δ:Rs) (x2 x3 x4 x5 x6 x7 x8 x9 x10:Option V),σ=[some (.ref a),some (.ref sh),x2,x3,x4,x5,x6,x7,x8,x9,x10]∧us.length=i∧(∀ H,Sep Δ H→Shts K us H)∧Sep ((sh,Xh us)::(a,ScQ K ns)::Δ) H') ⟨[],[],_,_,_,_,_,_,_,_,_,rfl,rfl,(fun _ _ _ z=>nomatch z),S1⟩ ?_ ?_
 · rintro i σ H0 hi ⟨us,Δ,x2,x3,x4,x5,x6,x7,x8,x9,x10,rfl,hul,hus,S0⟩
   replace hi:(i:Int) < m:=by first | exact_mod_cast hi | omega
   refine ⟨_,rfl,_,rfl,a,ns,_,_,rfl,S0.get a,S0,by omega,by omega,fun p H2 s2 S2=>?_⟩
   refine ⟨fun σ H'=>∃ b:Bool,σ=[some (.ref a),some (.ref sh),some (.int (0+(i:Int))),some (.ref p),some (.bl b),x5,x6,x7,x8,x9,x10]∧Sep ((p,Bx 1)::(sh,Xh us)::(a,ScQ K ns)::Δ) H',?_,?_⟩
   · refine ⟨_,rfl,rfl,_,rfl,Wm (fun c=>?_) (fun c=>?_)⟩
     · exact ⟨_,rfl,p,0,2,_,rfl,S2,by decide,by decide,by decide,fun r1 H3 a0 a1 S3=>⟨rfl,_,rfl,S3⟩⟩
     · exact ⟨false,rfl,S2.le (by decide)⟩
   rintro σ H3 ⟨b,rfl,S3⟩
   have at2:∀ x y:Int,YU [V.int x,.int y] (if b=true then 1 else 0)=some (.int (if b=true then y else x)):=fun x y=>by
     cases b
     · exact Zx (j:=0) rfl
     · exact Zx (j:=1) rfl
   refine ⟨(show 2≤sizeLine by decide),fun l1 hl1=>?_⟩
   have S4:=S3.new hl1 (.lst [.int 10,.int 60])
   refine ⟨_,rfl,.inr ⟨_,rfl,l1,_,_,_,rfl,rfl,SqL.of (S4.get l1),at2 _ _,(show 2≤sizeLine by decide),fun l2 hl2=>?_⟩⟩
   have S5:=(S4.drop l1).new hl2 (.lst [.int 12,.int 300])
   refine ⟨_,rfl,.inr ⟨_,rfl,l2,_,_,_,rfl,rfl,SqL.of (S5.get l2),at2 _ _,(show 2≤sizeLine by decide),fun l3 hl3=>?_⟩⟩
   have S6:=(S5.drop l2).new hl3 (.lst [.int 40,.int 150])
   refine ⟨_,rfl,.inr ⟨_,rfl,l3,_,_,_,rfl,rfl,SqL.of (S6.get l3),at2 _ _,_,_,_,rfl,?_⟩⟩
   have S7:=S6.drop l3
   generalize upd _ l3 _=H6 at *
   obtain ⟨mo,emo,hmo⟩:∃ n:Nat,(if b=true then (60:Int) else 10)=(n:Int)∧n≤60:=⟨if b=true then 60 else 10,by cases b<;>rfl,by cases b<;>decide⟩
   obtain ⟨pk,epk,hpk⟩:∃ n:Nat,(if b=true then (300:Int) else 12)=(n:Int)∧n≤300:=⟨if b=true then 300 else 12,by cases b<;>rfl,by cases b<;>decide⟩
   obtain ⟨st,est,hst⟩:∃ n:Nat,(if b=true then (150:Int) else 40)=(n:Int)∧n≤150:=⟨if b=true then 150 else 40,by cases b<;>rfl,by cases b<;>decide⟩
   rw [emo,epk,est]
   refine ⟨_,rfl,.inl ⟨rfl,_,SqL.of (S7.get sh)⟩,_,rfl,_,rfl,_,rfl,_,rfl,p,1,mo,pk,st,_,rfl,S7,hmo,hpk,hst,by decide,fun t H8 ss ns' ps O hh S8=>?_⟩
   refine ⟨sh,_,_,rfl,rfl,S8.get sh,Xy (show _≤1000 by omega),?_⟩
   have S9:=S8.put sh (.lst (us++[.ref t]))
   refine ⟨us++[.ref t],(t,ShR K ss ns' ps)::Δ,_,_,_,_,_,_,_,_,_,rfl,by rw [List.length_append,hul];rfl,fun Hx Sx v hv=>?_,((S9.pull t).pull a).pull sh⟩
   rcases List.mem_append.mp hv with h | h
   · exact hus Hx Sx.tail v h
   · rw [List.mem_singleton.mp h];exact ⟨t,ss,ns',ps,rfl,O,hh,Sx.get t⟩
 · rintro σ H0 ⟨us,Δ,x2,x3,x4,x5,x6,x7,x8,x9,x10,rfl,hul,hus,S0⟩
   have esh:H0 sh=some (.lst us):=S0.get sh
   have key0:Shts K us H0:=hus H0 S0.tail.tail
   have hl3:us.length≤3:=by omega
   clear S0 hus S1 S
   refine ⟨_,rfl,_,rfl,sh,_,rfl,SqL.of esh,fun r hr=>?_⟩
   have s1:=Zh hr (.lst us.reverse)
   have er:upd H0 r (.lst us.reverse) r=_:=Zc
   generalize upd H0 r (.lst us.reverse)=H1 at s1 er ⊢
   refine ⟨sh,r,_,_,rfl,rfl,s1 _ _ esh,er,Zv (show _≤100 by rw [List.length_reverse];omega),fun l4 hl4=>?_⟩
   have s2:=Zh hl4 (.lst (us++us.reverse))
   have el4:upd H1 l4 (.lst (us++us.reverse)) l4=_:=Zc
   generalize upd H1 l4 (.lst (us++us.reverse))=H2 at s2 el4 ⊢
   have s02:=s1.trans s2
   refine ⟨l4,rfl,⟨_,SqL.of el4⟩,?_⟩
   refine UT (xs:=us++us.reverse) (fun i σ H'=>∃ x6 x8 x9 x10:Option V,σ=[some (.ref a),some (.ref sh),x2,x3,x4,x5,x6,x7,x8,x9,x10]∧Same H2 H') ⟨_,_,_,_,rfl,Same.refl _⟩ (fun i σ H' _ ⟨_,_,_,_,_,s'⟩=>SqL.of (s' _ _ el4)) ?_ ?_
   · rintro i v σ H' hv ⟨x6,x8,x9,x10,rfl,s'⟩
     have hv2:v∈us:=by
       rcases List.mem_append.mp (List.mem_of_getElem? hv) with h | h
       · exact h
       · exact List.mem_reverse.mp h
     obtain ⟨t,ss,ns',ps,rfl,O,hh,R⟩:=key0 v hv2
     obtain ⟨ls,vs,lp,u,et,els,hpv,elp,hu⟩:=Up.up (R:=ShR K ss ns' ps) R (s02.trans s')
     refine ⟨t,_,rfl,SqT.of et,rfl,_,_,rfl,_,_,rfl,_,_,rfl,rfl,?_⟩
     refine ⟨_,rfl,_,rfl,_,rfl,ls,lp,vs,u,ss,ns',ps,rfl,els,hpv,elp,hu,O,hh,fun H6 s6=>?_⟩
     refine ⟨ss,ns',ps,rfl,O,fun t2 ls2 vs2 lp2 u2 H7 s7 hls2 hlp2 hne et2 els2 hpv2 elp2 du2=>?_⟩
     refine ⟨_,rfl,_,rfl,_,rfl,_,rfl,(show 3≤sizeLine by decide),fun t3 ht3=>?_⟩
     have s8:=Zh ht3 (.tup [.ref ls,.ref lp,u])
     have s68:=s7.trans s8
     have e08:=(s6.trans s7).trans s8
     obtain ⟨A1,n1,d1⟩:=Zeh O hh (s8 _ _ et2) (s8 _ _ els2) (hpv2.tf s8.tf) (s8 _ _ elp2) (du2.same s8)
     obtain ⟨A2,_,_⟩:=Zeh O hh (t:=t3) Zc (e08 _ _ els) (hpv.tf e08.tf) (e08 _ _ elp) (hu.same e08)
     refine ⟨_,_,_,rfl,A1,A2,n1,d1,fun H9 s9=>⟨_,rfl,ZD ?_⟩⟩
     have s79:=s8.trans s9
     have s69:=s7.trans s79
     have et9:=s79 _ _ et2
     have els9:=s79 _ _ els2
     have elp9:=s79 _ _ elp2
     have hl2:vs2.length≤100:=by rw [hpv2.len,List.length_map];exact O.sl
     have hnl:=O.nl
     refine ⟨_,rfl,t2,_,_,_,rfl,rfl,SqT.of et9,Zx (j:=0) rfl,.inl ⟨rfl,_,SqL.of els9⟩,(show 2≤sizeLine by decide),fun t4 ht4=>?_⟩
     have s10:=Zh ht4 (.tup [.str "more",.non])
     have et10:=s10 _ _ et9
     have els10:=s10 _ _ els9
     have elp10:=s10 _ _ elp9
     generalize upd H9 t4 (.tup [.str "more",.non])=H10 at s10 et10 els10 elp10 ⊢
     refine ⟨ls2,_,_,rfl,rfl,els10,Xy (show _≤1000 by omega),?_⟩
     have et11:upd H10 ls2 (.lst (vs2++[.ref t4])) t2=some (.tup [.ref ls2,.ref lp2,u2]):=by rw [Zo (WN et10 els10 (fun z=>nomatch z))];exact et10
     have elp11:upd H10 ls2 (.lst (vs2++[.ref t4])) lp2=some (.lst (WL ns')):=by rw [Zo (fun z=>hne z.symm)];exact elp10
     have k11:∀ b,b≠ls2→upd H10 ls2 (.lst (vs2++[.ref t4])) b=H10 b:=fun b h=>Zo h
     generalize upd H10 ls2 (.lst (vs2++[.ref t4]))=H11 at et11 elp11 k11 ⊢
     refine ⟨_,rfl,t2,_,_,_,rfl,rfl,SqT.of et11,Zx (j:=1) rfl,.inl ⟨rfl,_,SqL.of elp11⟩,lp2,_,rfl,rfl,elp11,?_⟩
     have et12:upd H11 lp2 (.lst (WL ns').reverse) t2=some (.tup [.ref ls2,.ref lp2,u2]):=by rw [Zo (WN et11 elp11 (fun z=>nomatch z))];exact et11
     have elp12:upd H11 lp2 (.lst (WL ns').reverse) lp2=_:=Zc
     have k12:∀ b,b≠lp2→upd H11 lp2 (.lst (WL ns').reverse) b=H11 b:=fun b h=>Zo h
     generalize upd H11 lp2 (.lst (WL ns').reverse)=H12 at et12 elp12 k12 ⊢
     refine ⟨_,rfl,t2,_,_,_,rfl,rfl,SqT.of et12,Zx (j:=1) rfl,.inl ⟨rfl,_,SqL.of elp12⟩,lp2,_,_,rfl,rfl,elp12,Xy (show _≤1000 by rw [List.length_reverse,List.length_map,List.length_map];omega),_,_,_,_,rfl,fun b o e=>?_⟩
     have e6:=s6 _ _ (s' _ _ e)
     have b1:=Zy e6 hls2
     have b2:=Zy e6 hlp2
     rw [Zo b2,k12 b b2,k11 b b1]
     exact s10 _ _ (s69 _ _ e6)
   · rintro σ H' ⟨x6,x8,x9,x10,rfl,s'⟩
     refine ⟨[],[],[],by rw [show shT [] [] []=Str.ofString "weave" by decide +kernel];rfl,⟨(fun _ z=>nomatch z),List.nodup_nil,Nat.zero_le _,(fun _ z=>nomatch z),Nat.zero_le _,trivial,Nat.zero_le _,Nat.zero_le _,(fun _ z=>nomatch z)⟩,fun t2 ls2 vs2 lp2 u2 H7 s7 hls2 hlp2 hne et2 els2 hpv2 elp2 du2=>?_⟩
     refine ⟨(show 0≤sizeLine by decide),fun l1 hl1=>⟨(show 0≤sizeLine by decide),fun l2 hl2=>⟨(show 0≤sizeLine by decide),fun l3 hl3=>⟨(show 3≤sizeLine by decide),fun t3 ht3=>?_⟩⟩⟩⟩
     have O0:ZaP [] [] []:=⟨(fun _ z=>nomatch z),List.nodup_nil,Nat.zero_le _,(fun _ z=>nomatch z),Nat.zero_le _,trivial,Nat.zero_le _,Nat.zero_le _,(fun _ z=>nomatch z)⟩
     have sa:=Zh hl1 (.lst [])
     have sb:=Zh hl2 (.lst [])
     have sc:=Zh hl3 (.tup [])
     have sd:=Zh ht3 (.tup [.ref l1,.ref l2,.ref l3])
     have sx:=((sa.trans sb).trans sc).trans sd
     obtain ⟨A1,n1,d1⟩:=Zeh (K:=K) O0 (Nat.zero_le _) (sx _ _ et2) (sx _ _ els2) (hpv2.tf sx.tf) (sx _ _ elp2) (du2.same sx)
     obtain ⟨A2,_,_⟩:=Zeh (K:=K) O0 (Nat.zero_le _) (t:=t3) (us:=[]) (w:=.ref l3) Zc (sd _ _ (sc _ _ (sb _ _ Zc))) .nil (sd _ _ (sc _ _ Zc)) (.tup (SqT.of (sd _ _ Zc)) .nil)
     exact ⟨_,_,_,rfl,A1,A2,n1,d1,fun H9 s9=>q H9⟩
end
end K72
set_option maxHeartbeats 4000000
namespace K72
open PySem L2
abbrev Ziz (P:Program)(w:World)(K:PySem.W.Frag)(mg:Str→Option Value)(base:Heap):Prop:=Def P w K mg base 1 "_law_take" ["_law_box_here","_law_many"] (ZaF 4611686018427387904)
section
variable {P:Program}{w:World}{K:PySem.W.Frag}{mg:Str→Option Value}{base:Heap}
abbrev vSigns:Str:=Zii (WT s_l_value)
theorem vs_len:vSigns.length=94:=by decide +kernel
theorem ZjI:vSigns.cps.toList.all Yo=true:=by decide +kernel
abbrev nVv:List Str:=["_law_box_here","_law_way","_law_signs"]
theorem scVal:Zs nVv ["_law_box_here"] (Zj s_l_value):=⟨rfl,rfl,rfl,by decide +kernel,rfl,by decide +kernel,by decide +kernel⟩
theorem ZhU {f:Addr}{fd:FuncData}(F:Fun K "_law_value" "_law_value" s_l_value f fd)(T:ZZ mg)(D:Ziz P w K mg base):FnOk P w K mg base ZV 2 f fd ["_law_box_here"] ZdH:=by
 refine F.ok scVal (fun vs H Q E h=>?_) (fun cdv A outer s H vs Q E hr h=>?_)
 · obtain ⟨p,n,rfl,_⟩:=h;rfl
 obtain ⟨p,n,rfl,hB,hn,q⟩:=h
 refine ⟨_,Ze (Zr (i:=1) scVal.nd rfl (Or.inl rfl) (Zq D hr (Zb (pv 0) (Zb Zd Za))))
   (Ze (ZS (ZA VF (pv 1) Zd (ZC _)) (Zi (Zp (Zl XA (Zq D hr (Zb (pv 0) (Zb Zd Za))) Zd))) ZE)
   (Ze (ZS (ZA YW (pv 1) Zd (ZC _)) (Zi (Zp (ZB ZG (ZF (Wb (Zl XA (Zl ZaM Zd Zd) Zd) (Wb (Zl XA Zd (Zl ZaM Zd Zd)) (Wb (Zl ZaM Zd Zd) (Wb Zd Za rfl) rfl) rfl) rfl)) (Zq D hr (Zb (pv 0) (Zb Zd Za))) (fun _ _=>rfl)))) ZE)
   (Ze (ZS (ZA YW (pv 1) Zd (ZC _)) (Zi (Zp (ZB ZG (ZF (Wb Zk (Wb Zk (Wb Zk (Wb Zk (Wb Zk (Wb Zk (Wb Zk (Wb Zk Za rfl) rfl) rfl) rfl) rfl) rfl) rfl) rfl)) (Zq D hr (Zb (pv 0) (Zb Zd Za))) (fun _ _=>rfl)))) ZE)
   (Ze (Zr (i:=2) scVal.nd rfl (Or.inr rfl) Zk)
   (Zi (Zp (Yc PySem.F.plainAttrs_str PySem.F.slot_str_join PySem.F.type_str_join Ws Zk (Zb (XW (CompOk.of nVv s_l_value rfl rfl (by decide +kernel)) rfl
     (WA rfl T.range (Zb (Zq D hr (Zb (pv 0) (Zb (Yz (ZA YW (pv 1) Zd (ZC _)) Zd Zd) Za))) Za))
     (fun _ _ _ _ _=>ZB ZaO (pv 2) (Zq D hr (Zb (pv 0) (Zb (Zm (Zgf (K:=K) rfl) rfl T.len PySem.boot_len (Zb (pv 2) Za)) Za))) (fun _ _=>rfl))) Za)))))))),?_⟩
 refine ⟨_,rfl,p,n,6,rfl,hB,by omega,by decide,by decide,fun r1 H1 a0 a1 B1 k1=>?_⟩
 refine ⟨_,rfl,_,_,rfl,rfl,_,rfl,Wm (fun c=>?_) (fun c=>?_)⟩
 · refine ⟨_,rfl,p,n+1,7,rfl,B1,by omega,by decide,by decide,fun r2 H2 b0 b1 B2 k2=>⟨_,_,rfl,rfl,?_⟩⟩
   exact q _ _ (by show (r2 - 3).natAbs < 10 ^ 30;omega) (B2.le (by omega)) (k1.trans k2)
 refine ⟨_,rfl,rfl,_,rfl,Wm (fun c2=>?_) (fun c2=>?_)⟩
 · refine ⟨_,_,rfl,rfl,⟨by decide,by decide,by decide⟩,_,_,rfl,rfl,_,_,rfl,rfl,⟨by decide,by decide,by decide⟩,_,_,rfl,rfl,_,_,rfl,rfl,⟨by decide,by decide,by decide⟩,(by show 4≤sizeLine;decide),fun l hl=>?_⟩
   have hne:l≠p:=fun e=>by obtain ⟨_,_,_,z,_⟩:=B1;rw [e,z] at hl;cases hl
   refine ⟨_,rfl,p,n+1,4,rfl,B1.same (Zh hl _),by omega,by decide,by decide,fun r2 H2 b0 b1 B2 k2=>?_⟩
   obtain ⟨v,hv,hm⟩:=ZaV (xs:=([.int (10 ^ (30:Int).toNat - 1),.int (1 - 10 ^ (30:Int).toNat),.int (10 ^ (29:Int).toNat),.int 0]:List V)) b0 b1
   refine ⟨l,_,_,v,rfl,rfl,SqL.of (k2 l _ hne Zc),hv,q _ _ ?_ (B2.le (by omega)) (k1.trans ((Zh hl _).kp p |>.trans k2))⟩
   have all:(([.int (10 ^ (30:Int).toNat - 1),.int (1 - 10 ^ (30:Int).toNat),.int (10 ^ (29:Int).toNat),.int 0]:List V)).all ZeH=true:=by decide +kernel
   exact ZcP (List.all_eq_true.mp all v hm)
 refine ⟨_,rfl,rfl,_,rfl,Wm (fun c3=>?_) (fun c3=>?_)⟩
 · refine ⟨(by show 8≤sizeLine;decide),fun l hl=>?_⟩
   have hne:l≠p:=fun e=>by obtain ⟨_,_,_,z,_⟩:=B1;rw [e,z] at hl;cases hl
   refine ⟨_,rfl,p,n+1,8,rfl,B1.same (Zh hl _),by omega,by decide,by decide,fun r2 H2 b0 b1 B2 k2=>?_⟩
   obtain ⟨v,hv,hm⟩:=ZaV (xs:=([.str "",.str "0",.str "-1",.str "a",.str "none",.str "'",.str "\\", .str " "]:List V)) b0 b1
   refine ⟨l,_,_,v,rfl,rfl,SqL.of (k2 l _ hne Zc),hv,q _ _ ?_ (B2.le (by omega)) (k1.trans ((Zh hl _).kp p |>.trans k2))⟩
   have all:(([.str "",.str "0",.str "-1",.str "a",.str "none",.str "'",.str "\\", .str " "]:List V)).all ZeH=true:=by decide +kernel
   exact ZcP (List.all_eq_true.mp all v hm)
 refine ⟨rfl,?_⟩
 have fin:∀ (r2:Int) (H2:Hp),0≤r2→r2 < 41→BoxAt H2 p (n+2)→Kp p H1 H2→∃ j:Int,[V.int r2]=[.int j]∧-(2 ^ 62)≤j∧j < 2 ^ 62∧∀ D,H2 D=none→Uw (Itr 0 j.toNat)
     (tOp rIxS (Vc 2) (ZbT (ZaF 4611686018427387904) [] E0 (Xb (Vc 0) (Xb (tCB (fun xs H Q=>∃ x n,xs=[x]∧ZhH K x H n∧Q (.int n) H) (Xb (Vc 2) YX)) YX))))
     [some (.ref p),some (.int r1),some (.str vSigns)] D (fun x H3=>∃ sep a ys,V.str ""=.str sep∧[x]=[.ref a]∧SqL K H3 a (ys.map V.str)∧(ys.map (·.length)).sum+ys.length * sep.length≤16777216∧Q (.str (Txt.join sep ys)) H3) H2:=by
   intro r2 H2 b0 b1 B2 k2
   refine ⟨r2,rfl,by omega,by omega,fun Dl hD=>?_⟩
   have hne:Dl≠p:=fun e=>by obtain ⟨_,_,_,z,_⟩:=B2;rw [e,z] at hD;cases hD
   refine ZeG (Nat.le_trans (show r2.toNat≤1000 by omega) (len1 (Nat.le_refl _)))
     (fun i ys H'=>∃ zs:List Str,ys=zs.map V.str∧zs.length=i∧(∀ z∈zs,∃ c,z=⟨#[c]⟩∧Yo c=true)∧H' Dl=some (.lst ys)∧BoxAt H' p (n+2+i)∧Kp p H1 H'∧i≤r2.toNat)
     ⟨[],rfl,rfl,(fun _ h=>nomatch h),Zc,B2.same (Zh hD _),k2.trans ((Zh hD _).kp p),Nat.zero_le _⟩ ?_ ?_ ?_
   · rintro i ys H' ⟨zs,rfl,hz,_⟩;rw [List.length_map];exact hz
   · rintro i ys H' hi ⟨zs,rfl,hz,hall,hDl,B',k',_⟩
     refine ⟨_,rfl,_,rfl,_,rfl,_,94,rfl,⟨by rw [vs_len];decide,vs_len.symm⟩,p,n+2+i,94,rfl,B',by omega,by decide,by decide,fun r3 H3 d0 d1 B3 k3=>?_⟩
     have hl:vSigns.cps.toList.length=94:=by rw [← ZL];exact vs_len
     obtain ⟨c,hc,hm⟩:=ZaV (xs:=vSigns.cps.toList) d0 (by rw [hl];exact d1)
     refine ⟨vSigns,r3,c,rfl,rfl,(by rw [vs_len];decide),hc,k3 Dl _ hne hDl,zs++[⟨#[c]⟩],by rw [List.map_append];rfl,by rw [List.length_append,hz];rfl,?_,Zc,?_,fun b o nb e=>?_,hi⟩
     · intro z hz'
       rcases List.mem_append.mp hz' with h | h
       · exact hall z h
       · rw [List.mem_singleton.mp h];exact ⟨c,rfl,List.all_eq_true.mp ZjI c hm⟩
     · obtain ⟨x1,x2,x3,x4,x5⟩:=B3
       exact ⟨x1,x2,x3,by rw [Zo hne.symm];exact x4,x5⟩
     · rw [Zo (Zy (k2 b o nb e) hD)];exact k3 b o nb (k' b o nb e)
   · rintro ys H' ⟨zs,rfl,hz,hall,hDl,B',k',_⟩
     have ones:∀ l:List Str,(∀ z∈l,∃ c,z=⟨#[c]⟩∧Yo c=true)→(l.map (·.length)).sum=l.length∧(l.flatMap (·.cps.toList)).length=l.length∧(l.flatMap (·.cps.toList)).all Yo=true:=by
       intro l
       induction l with
       | nil=>intro _;exact ⟨rfl,rfl,rfl⟩
       | cons z r ih =>
         intro h
         obtain ⟨c,rfl,hc⟩:=h z List.mem_cons_self
         obtain ⟨g1,g2,g3⟩:=ih fun y hy=>h y (List.mem_cons_of_mem _ hy)
         refine ⟨?_,?_,?_⟩
         · rw [List.map_cons,List.sum_cons,g1,List.length_cons];show 1+_=_;omega
         · have e0:((⟨#[c]⟩:Str)::r).flatMap (·.cps.toList)=c::r.flatMap (·.cps.toList):=rfl
           rw [e0,List.length_cons,List.length_cons,g2]
         · rw [List.flatMap_cons,List.all_append,g3];simp [hc]
     obtain ⟨g1,g2,g3⟩:=ones zs hall
     refine ⟨_,Dl,zs,rfl,rfl,SqL.of hDl,?_,q _ _ ⟨?_,?_⟩ (B'.le (by omega)) (k1.trans k')⟩
     · rw [g1];show _+_ * 0≤_;omega
     · rw [ZL];show (Txt.join (Str.ofString "") zs).cps.toList.length≤40;rw [WQ,g2];omega
     · show (Txt.join (Str.ofString "") zs).cps.toList.all Yo=true;rw [WQ];exact g3
 refine ⟨_,rfl,_,rfl,rfl,_,rfl,Wm (fun c4=>?_) (fun c4=>?_)⟩
 · exact ⟨p,n+1,4,rfl,B1,by omega,by decide,by decide,fun r2 H2 b0 b1 B2 k2=>fin r2 H2 b0 (by omega) B2 k2⟩
 · exact ⟨p,n+1,41,rfl,B1,by omega,by decide,by decide,fun r2 H2 b0 b1 B2 k2=>fin r2 H2 b0 (by omega) B2 k2⟩
end
end K72
set_option maxHeartbeats 4000000
namespace K72
open PySem L2
open PySem.W in
theorem all_mk {l:PySem.W.OpenLaw}{w:World}{K:PySem.W.Frag}{h:Heap}{mg:Str→Option Value}{fa:Addr}
   {f_z0 f_z1 f_z2 f_z3 f_z4 f_z5 f_z6 f_z7 f_z8 f_z9 f_z10 f_z11 f_z12 f_z13 f_z14 f_z15 f_z16 f_z17 f_z18 f_z19 f_z20 f_z21 f_z22 f_z23 f_z24 f_z25 f_z26 f_z27 f_z28 f_z29 f_z30 f_z31 f_z32 f_z33 f_z34 f_z35:Addr} {d_z0 d_z1 d_z2 d_z3 d_z4 d_z5 d_z6 d_z7 d_z8 d_z9 d_z10 d_z11 d_z12 d_z13 d_z14 d_z15 d_z16 d_z17 d_z18 d_z19 d_z20 d_z21 d_z22 d_z23 d_z24 d_z25 d_z26 d_z27 d_z28 d_z29 d_z30 d_z31 d_z32 d_z33 d_z34 d_z35:FuncData} (X:K.In h) (G:h.Ns mainGlobals mg) (hfa:mg "law"=some (.ref fa))
   (h_z0:FG K "kinds_of" s_kinds_of f_z0 d_z0)
   (h_z1:FG K "has_within" s_has_within f_z1 d_z1)
   (h_z2:FG K "is_number" s_is_number f_z2 d_z2)
   (h_z3:FG K "value_text" s_value_text f_z3 d_z3)
   (h_z4:FG K "kinds_in_row" s_kinds_in_row f_z4 d_z4)
   (h_z5:FG K "is_name" s_is_name f_z5 d_z5)
   (h_z6:FG K "is_value" s_is_value f_z6 d_z6)
   (h_z7:FG K "unslashed" s_unslashed f_z7 d_z7)
   (h_z8:FG K "number_from" s_number_from f_z8 d_z8)
   (h_z9:FG K "value_from" s_value_from f_z9 d_z9)
   (h_z10:FG K "part_from" s_part_from f_z10 d_z10)
   (h_z11:FG K "whole_words" s_whole_words f_z11 d_z11)
   (h_z12:FG K "parts_from" s_parts_from f_z12 d_z12)
   (h_z13:FG K "head_from" s_head_from f_z13 d_z13)
   (h_z14:FG K "heads_from" s_heads_from f_z14 d_z14)
   (h_z15:FG K "program_of" s_program_of f_z15 d_z15)
   (h_z16:FG K "setting_from" s_setting_from f_z16 d_z16)
   (h_z17:FG K "picks_from" s_picks_from f_z17 d_z17)
   (h_z18:FG K "settings_ahead" s_settings_ahead f_z18 d_z18)
   (h_z19:FG K "check_told_once" s_check_told_once f_z19 d_z19)
   (h_z20:FG K "check_names" s_check_names f_z20 d_z20)
   (h_z21:FG K "sheet_from" s_sheet_from f_z21 d_z21)
   (h_z22:FG K "_law_cell_at" s_l_cell_at f_z22 d_z22)
   (h_z23:FG K "_law_box" s_l_box f_z23 d_z23)
   (h_z24:FG K "_law_take" s_l_take f_z24 d_z24)
   (h_z25:FG K "_law_names" s_l_names f_z25 d_z25)
   (h_z26:FG K "_law_value" s_l_value f_z26 d_z26)
   (h_z27:FG K "_law_called" s_l_called f_z27 d_z27)
   (h_z28:FG K "_law_worth" s_l_worth f_z28 d_z28)
   (h_z29:FG K "_law_program" s_l_program f_z29 d_z29)
   (h_z30:FG K "_law_written" s_l_written f_z30 d_z30)
   (h_z31:FG K "_law_rows" s_l_rows f_z31 d_z31)
   (h_z32:FG K "_law_drawn" s_l_drawn f_z32 d_z32)
   (h_z33:FG K "_law_sheet_text" s_l_sheet_text f_z33 d_z33)
   (h_z34:FG K "_law_same" s_l_same f_z34 d_z34)
   (h_z35:FG K "law" s_law f_z35 d_z35)
   (z_len:PySem.W.nsIn K mainGlobals "len"=some none)
   (z_abs:PySem.W.nsIn K mainGlobals "abs"=some none)
   (z_int:PySem.W.nsIn K mainGlobals "int"=some none)
   (z_range:PySem.W.nsIn K mainGlobals "range"=some none)
   (z_min:PySem.W.nsIn K mainGlobals "min"=some none)
   (z_max:PySem.W.nsIn K mainGlobals "max"=some none)
   (z_repr:PySem.W.nsIn K mainGlobals "repr"=some none)
   (z_enumerate:PySem.W.nsIn K mainGlobals "enumerate"=some none)
   (z_ord:PySem.W.nsIn K mainGlobals "ord"=some none)
   (z_list:PySem.W.nsIn K mainGlobals "list"=some none)
   (z_tuple:PySem.W.nsIn K mainGlobals "tuple"=some none)
   (z_dict:PySem.W.nsIn K mainGlobals "dict"=some none)
   (z_sorted:PySem.W.nsIn K mainGlobals "sorted"=some none)
   (z_sum:PySem.W.nsIn K mainGlobals "sum"=some none)
   (z_all:PySem.W.nsIn K mainGlobals "all"=some none)
   (z_any:PySem.W.nsIn K mainGlobals "any"=some none)
   (z_divmod:PySem.W.nsIn K mainGlobals "divmod"=some none)
   (z_str:PySem.W.nsIn K mainGlobals "str"=some none)
   (z_isinstance:PySem.W.nsIn K mainGlobals "isinstance"=some none)
   (z_set:PySem.W.nsIn K mainGlobals "set"=some none)
   (z_zip:PySem.W.nsIn K mainGlobals "zip"=some none)
   (z_reversed:PySem.W.nsIn K mainGlobals "reversed"=some none)
   (z_bool:PySem.W.nsIn K mainGlobals "bool"=some none)
   {dk:Addr}
   (kd:PySem.W.nsIn K mainGlobals "KINDS"=some (some (.ref dk)))
   {kb0 kb1 kb2 kb3 kb4 kb5 kb6 kb7:Addr} {kh0 kh1 kh2 kh3 kh4 kh5 kh6 kh7:Int} {kt0 kt1 kt2 kt3 kt4 kt5 kt6 kt7:Tok} {kep:Nat}
   (kl:K.lookup dk=some ⟨.type "dict",none,.dict #[⟨kh0,.str "set" kt0,.ref kb0⟩,⟨kh1,.str "look" kt1,.ref kb1⟩,⟨kh2,.str "back" kt2,.ref kb2⟩,⟨kh3,.str "begin" kt3,.ref kb3⟩,⟨kh4,.str "late" kt4,.ref kb4⟩,⟨kh5,.str "copy" kt5,.ref kb5⟩,⟨kh6,.str "in" kt6,.ref kb6⟩,⟨kh7,.str "pass" kt7,.ref kb7⟩] kep,#[]⟩)
   (ks:(dk == PySem.sysModules)=false)
   {ku0_0 ku0_1 ku0_2:Tok} {kn0:Nat} {kq0:Option Addr} {ko0:Array (Option Value)}
   (km0:K.lookup kb0=some ⟨.type "tuple",kq0,.seq #[.str "name" ku0_0,.str "value" ku0_1,.str "slot" ku0_2] kn0,ko0⟩)
   {ku1_0:Tok} {kn1:Nat} {kq1:Option Addr} {ko1:Array (Option Value)}
   (km1:K.lookup kb1=some ⟨.type "tuple",kq1,.seq #[.str "name" ku1_0] kn1,ko1⟩)
   {ku2_0:Tok} {kn2:Nat} {kq2:Option Addr} {ko2:Array (Option Value)}
   (km2:K.lookup kb2=some ⟨.type "tuple",kq2,.seq #[.str "slot" ku2_0] kn2,ko2⟩)
   {ku3_0:Tok} {kn3:Nat} {kq3:Option Addr} {ko3:Array (Option Value)}
   (km3:K.lookup kb3=some ⟨.type "tuple",kq3,.seq #[.str "program" ku3_0] kn3,ko3⟩)
   {ku4_0:Tok} {kn4:Nat} {kq4:Option Addr} {ko4:Array (Option Value)}
   (km4:K.lookup kb4=some ⟨.type "tuple",kq4,.seq #[.str "program" ku4_0] kn4,ko4⟩)
   {ku5_0:Tok} {kn5:Nat} {kq5:Option Addr} {ko5:Array (Option Value)}
   (km5:K.lookup kb5=some ⟨.type "tuple",kq5,.seq #[.str "slot" ku5_0] kn5,ko5⟩)
   {ku6_0 ku6_1:Tok} {kn6:Nat} {kq6:Option Addr} {ko6:Array (Option Value)}
   (km6:K.lookup kb6=some ⟨.type "tuple",kq6,.seq #[.str "slot" ku6_0,.str "program" ku6_1] kn6,ko6⟩)
   {kn7:Nat} {kq7:Option Addr} {ko7:Array (Option Value)}
   (km7:K.lookup kb7=some ⟨.type "tuple",kq7,.seq #[] kn7,ko7⟩)
   (zNB:PySem.W.nsIn K PySem.cStatics PySem.sharingNotToldKey=some none)
   {tf:Tok}
   (gFI:PySem.W.nsIn K mainGlobals "FURTHER_IN"=some (some (.str "  " tf)))
   {tLN:Tok}
   (gLN:PySem.W.nsIn K mainGlobals "LONGEST_NAME"=some (some (.int 8 tLN)))
   {tMF:Tok}
   (gMF:PySem.W.nsIn K mainGlobals "MOST_FIGURES"=some (some (.int 30 tMF)))
   {tMS:Tok}
   (gMS:PySem.W.nsIn K mainGlobals "MOST_SIGNS"=some (some (.int 40 tMS)))
   {tMP:Tok}
   (gMP:PySem.W.nsIn K mainGlobals "MOST_FIGURES_OF_PICKS"=some (some (.int 4 tMP))) :
   ∃ fd:FuncData,(∀ (s:Shared) (v:Value),BindsTo s fd ⟨[v],[]⟩ [("_law_script",v)])∧∀ base:Heap,K.In base→base.Ns mainGlobals mg→Zbc base mg→FnOk l.prog w K mg base ZV 18 fa fd ["_law_script"] (ZbW K):=by
 have e:=hfa.symm.trans (mg_of X G h_z35.a)
 cases e
 have n_len:=mg_none_of X G z_len
 have n_abs:=mg_none_of X G z_abs
 have n_int:=mg_none_of X G z_int
 have n_range:=mg_none_of X G z_range
 have n_min:=mg_none_of X G z_min
 have n_max:=mg_none_of X G z_max
 have n_repr:=mg_none_of X G z_repr
 have n_enumerate:=mg_none_of X G z_enumerate
 have n_ord:=mg_none_of X G z_ord
 have n_list:=mg_none_of X G z_list
 have n_tuple:=mg_none_of X G z_tuple
 have n_dict:=mg_none_of X G z_dict
 have n_sorted:=mg_none_of X G z_sorted
 have n_sum:=mg_none_of X G z_sum
 have n_all:=mg_none_of X G z_all
 have n_any:=mg_none_of X G z_any
 have n_divmod:=mg_none_of X G z_divmod
 have n_str:=mg_none_of X G z_str
 have n_isinstance:=mg_none_of X G z_isinstance
 have n_set:=mg_none_of X G z_set
 have n_zip:=mg_none_of X G z_zip
 have n_reversed:=mg_none_of X G z_reversed
 have n_bool:=mg_none_of X G z_bool
 have g_kd:=mg_of X G kd
 have g_gFI:=mg_of X G gFI
 have g_gLN:=mg_of X G gLN
 have g_gMF:=mg_of X G gMF
 have g_gMS:=mg_of X G gMS
 have g_gMP:=mg_of X G gMP
 have TB:ZZ mg:=⟨n_len,n_abs,n_int,n_range,n_min,n_max,n_repr,n_enumerate,n_ord,n_list,n_tuple,n_dict,n_sorted,n_sum,n_all,n_any,n_divmod,n_str,n_isinstance,n_set,n_zip,n_reversed,n_bool⟩
 have TK:KDic K dk XD:=⟨ks,_,_,_,kl,⟨rfl,rfl,rfl⟩,rfl,(.cons rfl ⟨_,rfl,_,_,_,km0,rfl,rfl,(show 3≤PySem.sizeLine by decide),(.cons ⟨_,rfl⟩ (.cons ⟨_,rfl⟩ (.cons ⟨_,rfl⟩ .nil)))⟩ (.cons rfl ⟨_,rfl,_,_,_,km1,rfl,rfl,(show 1≤PySem.sizeLine by decide),(.cons ⟨_,rfl⟩ .nil)⟩ (.cons rfl ⟨_,rfl,_,_,_,km2,rfl,rfl,(show 1≤PySem.sizeLine by decide),(.cons ⟨_,rfl⟩ .nil)⟩ (.cons rfl ⟨_,rfl,_,_,_,km3,rfl,rfl,(show 1≤PySem.sizeLine by decide),(.cons ⟨_,rfl⟩ .nil)⟩ (.cons rfl ⟨_,rfl,_,_,_,km4,rfl,rfl,(show 1≤PySem.sizeLine by decide),(.cons ⟨_,rfl⟩ .nil)⟩ (.cons rfl ⟨_,rfl,_,_,_,km5,rfl,rfl,(show 1≤PySem.sizeLine by decide),(.cons ⟨_,rfl⟩ .nil)⟩ (.cons rfl ⟨_,rfl,_,_,_,km6,rfl,rfl,(show 2≤PySem.sizeLine by decide),(.cons ⟨_,rfl⟩ (.cons ⟨_,rfl⟩ .nil))⟩ (.cons rfl ⟨_,rfl,_,_,_,km7,rfl,rfl,(show 0≤PySem.sizeLine by decide),.nil⟩ .nil))))))))⟩
 refine ⟨d_z35,fun s v=>ZfD h_z35.F (fun _ _ _ _ _ _ _=>rfl) s v,fun base _ _ hBm=>?_⟩
 have e:Bs l.prog w K mg base h:=⟨X,G⟩
 have D_z0:=h_z0.df e (ZhV h_z0.F TK g_kd) (h_z0.F.b1 fun _ _ _ _ _ _ _=>rfl)
 have D_z1:=h_z1.df e (ZiD h_z1.F D_z0) (h_z1.F.b1 fun _ _ _ _ _ _ _=>rfl)
 have b_z2:Binds K d_z2 ["thing"] []:=h_z2.F.b1 fun _ _ _ _ _ _ _=>rfl
 have DNu1:Zib l.prog w K mg base 1 "is_number" "thing" ZbU:=⟨_,_,Zkp h_z2.F TB,b_z2,h_z2.F.kp,(mg_of X G h_z2.a)⟩
 have D_z3:=h_z3.df e (Zmc h_z3.F TB zNB DNu1) (h_z3.F.b1 fun _ _ _ _ _ _ _=>rfl)
 have D_z4:=h_z4.df e (ZlG h_z4.F TB D_z0) (h_z4.F.b1 fun _ _ _ _ _ _ _=>rfl)
 have D_z5:=h_z5.df e (ZeQ h_z5.F TB g_gLN) (h_z5.F.b1 fun _ _ _ _ _ _ _=>rfl)
 have D_z6:=h_z6.df e (ZeN h_z6.F TB) (h_z6.F.b1 fun _ _ _ _ _ _ _=>rfl)
 have D_z7:=h_z7.df e (Zjr h_z7.F TB) (h_z7.F.b1 fun _ _ _ _ _ _ _=>rfl)
 have D_z8:=h_z8.df e (ZiC h_z8.F TB) (h_z8.F.b2 fun _ _ _ _ _ _ _ _=>rfl)
 have D_z9:=h_z9.df e (Zjm h_z9.F TB g_gMF g_gMS (D_z8.mono (by decide)) (D_z7.mono (by decide)) (D_z6.mono (by decide)) D_z3) (h_z9.F.b1 fun _ _ _ _ _ _ _=>rfl)
 have D_z10:=h_z10.df e (Zht h_z10.F TB D_z9 (D_z5.mono (by decide))) (h_z10.F.b2 fun _ _ _ _ _ _ _ _=>rfl)
 have D_z11:=h_z11.df e (Zhh h_z11.F TB) (h_z11.F.b2 fun _ _ _ _ _ _ _ _=>rfl)
 have D_z12:=h_z12.df e (ZhJ h_z12.F TB (D_z11.mono (by decide)) D_z10) (h_z12.F.b2 fun _ _ _ _ _ _ _ _=>rfl)
 have D_z13:=h_z13.df e (ZgQ h_z13.F TB (D_z0.mono (by decide)) (D_z4.mono (by decide)) D_z12) (h_z13.F.b1 fun _ _ _ _ _ _ _=>rfl)
 have D_z14:=h_z14.df e (ZfH h_z14.F TB g_gFI D_z13 (D_z1.mono (by decide))) (h_z14.F.b2 fun _ _ _ _ _ _ _ _=>rfl)
 have D_z15:=h_z15.df e (ZeU h_z15.F TB D_z1) (h_z15.F.b1 fun _ _ _ _ _ _ _=>rfl)
 have D_z16:=h_z16.df e (ZiQ h_z16.F TB D_z12) (h_z16.F.b1 fun _ _ _ _ _ _ _=>rfl)
 have D_z17:=h_z17.df e (Zhp h_z17.F TB g_gMP D_z8) (h_z17.F.b1 fun _ _ _ _ _ _ _=>rfl)
 have D_z18:=h_z18.df e (Zgy h_z18.F TB D_z16) (h_z18.F.b1 fun _ _ _ _ _ _ _=>rfl)
 have D_z19:=h_z19.df e (ZiB h_z19.F TB) (h_z19.F.b1 fun _ _ _ _ _ _ _=>rfl)
 have D_z20:=h_z20.df e (Zgu h_z20.F TB) (h_z20.F.b3 fun _ _ _ _ _ _ _ _ _=>rfl)
 have D_z21:=h_z21.df e (Zia h_z21.F TB D_z18 (D_z17.mono (by decide)) D_z14 (D_z19.mono (by decide)) (D_z20.mono (by decide)) (D_z15.mono (by decide))) (h_z21.F.b1 fun _ _ _ _ _ _ _=>rfl)
 have D_z22:=h_z22.df e (ZiZ h_z22.F TB) (h_z22.F.b2 fun _ _ _ _ _ _ _ _=>rfl)
 have D_z23:=h_z23.df e (FnOk.conv (sp':=ZcL K) (Zky h_z23.F TB D_z22) (fun _ _ _ _ h=>Zlv h)) (h_z23.F.b2 fun _ _ _ _ _ _ _ _=>rfl)
 have b_z24:Binds K d_z24 ["_law_box_here","_law_many"] []:=h_z24.F.b2 fun _ _ _ _ _ _ _ _=>rfl
 have DT0:Ziz l.prog w K mg base:=⟨_,_,Zje h_z24.F,b_z24,h_z24.F.kp,(mg_of X G h_z24.a)⟩
 have D_z24:DTk l.prog w K mg base 1:=DT0.conv fun _ _ _ _ h=>ZjY h
 have D_z25:=h_z25.df e (Zhz h_z25.F TB D_z24) (h_z25.F.b2 fun _ _ _ _ _ _ _ _=>rfl)
 have D_z26:=h_z26.df e (FnOk.conv (sp':=Zal) (ZhU h_z26.F TB DT0) (fun _ _ _ _ h=>ZiE h)) (h_z26.F.b1 fun _ _ _ _ _ _ _=>rfl)
 have D_z27:=h_z27.df e (Zlq h_z27.F TB (D_z24.mono (by decide)) D_z25) (h_z27.F.b2 fun _ _ _ _ _ _ _ _=>rfl)
 have D_z28:=h_z28.df e (ZlE h_z28.F TB (D_z24.mono (by decide)) D_z26) (h_z28.F.b1 fun _ _ _ _ _ _ _=>rfl)
 have b_z29:Binds K d_z29 ["_law_box_here","_law_names_here","_law_slots","_law_many","_law_blocks"] []:=h_z29.F.b5 fun _ _ _ _ _ _ _ _ _ _ _=>rfl
 have OPG:=Zim h_z29.F TB b_z29 h_z29.F.kp (mg_of X G h_z29.a) (D_z24.mono (by decide)) D_z28
 have D_z29:Def l.prog w K mg base 10 "_law_program" Zak (Zai K 6):=⟨_,_,OPG 6,b_z29,h_z29.F.kp,(mg_of X G h_z29.a)⟩
 have D_z30:=h_z30.df e (Zec h_z30.F TB) (h_z30.F.b1 fun _ _ _ _ _ _ _=>rfl)
 have b_z31:Binds K d_z31 ["_law_program_here","_law_blanks"] []:=h_z31.F.b2 fun _ _ _ _ _ _ _ _=>rfl
 have D_z31:Def l.prog w K mg base 12 "_law_rows" Zad (ZcS K 10):=⟨_,_,Zio h_z31.F TB b_z31 h_z31.F.kp (mg_of X G h_z31.a) D_z30 10,b_z31,h_z31.F.kp,(mg_of X G h_z31.a)⟩
 have D_z32:=h_z32.df e (ZlF (k:=10) h_z32.F TB (D_z24.mono (by decide)) (D_z27.mono (by decide)) (D_z28.mono (by decide)) D_z29) (h_z32.F.b5 fun _ _ _ _ _ _ _ _ _ _ _=>rfl)
 have D_z33:=h_z33.df e (Zma (k:=12) h_z33.F TB (D_z30.mono (by decide)) D_z31) (h_z33.F.b3 fun _ _ _ _ _ _ _ _ _=>rfl)
 have b_z34:Binds K d_z34 ["_law_found","_law_due"] []:=h_z34.F.b2 fun _ _ _ _ _ _ _ _=>rfl
 have D_z34:Def l.prog w K mg base 17 "_law_same" VW (Vu K 16):=⟨_,_,ZdF h_z34.F TB b_z34 h_z34.F.kp (mg_of X G h_z34.a) 16,b_z34,h_z34.F.kp,(mg_of X G h_z34.a)⟩
 exact Zke (k:=17) h_z35.F TB (D_z24.mono (by decide)) (D_z23.mono (by decide)) (D_z32.mono (by decide)) (D_z33.mono (by decide)) (D_z21.mono (by decide)) D_z34
theorem walk {l:PySem.W.OpenLaw}{q:Program}{loose:List Str}{XP:(Str→Option Value)→Heap→Prop}{YP:World→Heap→Prop}{d:DefRec}{K:Params→PySem.W.Frag}{ts:List Addr}(hn:l.most=some 63)(hdf:d.params.defaults=[])
   (hY:∀ (w:World) (h:Heap),YP w h→(K w.params).In h∧∀ b∈ts,h.get? b=some (PySem.W.tabObj #[]))
   (hK:∀ (w:World) (b:Addr),b∈ts→(K w.params).lookup b=none∧∃ c,PySem.W.codeHdIn (K w.params) c b=true)
   (F:∀ (w:World) (mg:Str→Option Value) (fa:Addr) (h:Heap),(K w.params).In h→h.Ns mainGlobals mg→mg d.name=some (.ref fa) →
     ∃ fd:FuncData,(∀ (s:Shared) (u:Value),BindsTo s fd ⟨[u],[]⟩ [("_law_script",u)])∧∀ base:Heap,(K w.params).In base→base.Ns mainGlobals mg→Zbc base mg→FnOk l.prog w (K w.params) mg base ZV 18 fa fd ["_law_script"] (ZbW (K w.params))) :
   PySem.W.WalkO q loose XP YP l.row.toRowW d [] (fun f vs=>PySem.call f vs) :=
 L2.walk_ofT (n:=63) (k:=18) (x:="_law_script") (CX:=fun _=>ZV) (sp:=fun w=>ZbW (K w.params)) (ts:=ts) hn (by decide) hdf ⟨rfl,by decide,by decide,rfl⟩ hY hK F (fun w H a ns hl hO hS hT=>⟨a,ns,rfl,hS,hl,fun _=>rfl⟩) fun _ _ _ _ _ z=>z
end K72
namespace PySem.W.Fast
def tw2736203470430155892 := 0
def tw5909905394968305242 := 0
def tw17363633082747839929 := 0
def tw6686743505176148101 := 0
def tw12262452023922326440 := 0
def tw8533134200604982111 := 0
def tw8809476152853563706 := 0
def tw1011627530464753309 := 0
def tw9606281444893860905 := 0
def tw15771243294234887016 := 0
def tw12959487930787186769 := 0
def tw7717077893584341079 := 0
def tw127500332891947410 := 0
def tw14908527008573533256 := 0
def tw4124688380440347408 := 0
def tw3666023381810037896 := 0
def tw8461256267142878807 := 0
def tw1687876432236672634 := 0
def tw7830241007721731634 := 0
def tw14583771345349611543 := 0
def tw14361243781108198409 := 0
def tw13186998224684262319 := 0
def tw8411589240850318795 := 0
def tw5270963151753642094 := 0
def tw9673759006610960212 := 0
def tw15652337620551831338 := 0
def tw10965668550305662186 := 0
def tw6839367887922501731 := 0
def tw17915927476498345683 := 0
def tw1224053609729958632 := 0
def tw12127659187600683719 := 0
def tw3864687960391739640 := 0
def tw12766673081969614253 := 0
def tw7722298507222849626 := 0
def tw14084424739014951032 := 0
def tw8954486945908246395 := 0
def tw2695629953225972964 := 0
def tw13691616310666088244 := 0
def tw121008720341508110 := 0
def tw5867454416258919127 := 0
def tw8068507313469097544 := 0
def tw1061195471147959578 := 0
def tw4643184054400659057 := 0
def tw10972503831113337273 := 0
def tw17909556430116951541 := 0
def tw3241063199136930691 := 0
def tw12820800741972576320 := 0
def tw3297508763638499681 := 0
def tw16121977669395724214 := 0
def tw9496708035047884518 := 0
def tw16693789137714930894 := 0
def tw17541434107627808213 := 0
def tw3727029225223482859 := 0
def tw2854671095330085299 := 0
def tw2758653595476247211 := 0
def tw16804051985154133343 := 0
def tw8635451795992777429 := 0
def tw2971128036721937910 := 0
def tw15616794567744049607 := 0
def tw15519744330200165726 := 0
def tw10627312049202401487 := 0
def tw15840382007119292489 := 0
def tw4146314169384252968 := 0
def tw7069286881850633 := 0
def tw8690496840434723119 := 0
def tw13243502580918950528 := 0
def tw8707426674436742568 := 0
def tw11922686728480685592 := 0
def tw7857920381377622229 := 0
def tw7879083714617416497 := 0
def tw1998012691079695044 := 0
def tw14150175179513062421 := 0
def tw17054148344843783550 := 0
def tw9399705774516435535 := 0
def tw13884935154516347424 := 0
def tw10438509216640260329 := 0
def tw15488493213568641148 := 0
def tw14975342646529237887 := 0
def tw3848291811167011824 := 0
def tw11457865726758266418 := 0
def tw2766577580553577539 := 0
def tw13376117887184279341 := 0
def tw1266462505988780668 := 0
def tw6414302577013015361 := 0
def tw18022788247108421465 := 0
def tw9699516301558456042 := 0
def tw15566118249602401093 := 0
def tw9330818434004761455 := 0
def tw14259903763646714947 := 0
def tw7253919116342706863 := 0
def tw14024441548862092335 := 0
def tw14325307342799447733 := 0
def tw11772922042549069194 := 0
def tw5426150095949895950 := 0
def tw9965568141853851062 := 0
def tw7148957893592705884 := 0
def tw17378888432973287744 := 0
def tw11708039636376568200 := 0
def tw4518214590821487087 := 0
def tw14395134915768332017 := 0
def tw11634165328404170470 := 0
def tw6471070440459267500 := 0
def tw17294825719604709452 := 0
def tw16342699543119104391 := 0
def tw17172154439534054560 := 0
def tw9163244974863026106 := 0
def tw15260525393935188485 := 0
def tw6230841134219806601 := 0
def tw5286694179683087679 := 0
def tw6362015853090462854 := 0
def tw9914052737553769687 := 0
def tw15025904285157540710 := 0
def tw14989894212688506580 := 0
def tw12690291106519806239 := 0
def tw7111614829069675598 := 0
def tw3478808991240377553 := 0
def tw385259740378857809 := 0
def tw2317026401345945397 := 0
def tw1291407031467236299 := 0
def tw938689796602083908 := 0
def tw3742072705333296393 := 0
def tw2940920945288633711 := 0
def tw2094189619335743249 := 0
def tw2080128855629242334 := 0
def tw4183628653421663158 := 0
def tw5186606342519102987 := 0
def tw8636811749359428014 := 0
def tw1711679362208135818 := 0
def tw8488418580155666242 := 0
def tw7438185969230070020 := 0
def tw6387227522698289890 := 0
def tw13627180674079938665 := 0
def tw1858043827174644235 := 0
def tw6109347281156567122 := 0
def tw999618947081319338 := 0
def tw9227235033099263453 := 0
def tw9130099350119306091 := 0
def tw7841233329384174953 := 0
def tw4872256984367011247 := 0
def tw4213556762637319863 := 0
def tw380776974825871361 := 0
def tw3165455096092808946 := 0
def tw305894129761290741 := 0
def tw217329227012872029 := 0
def tw18166011856053614124 := 0
def tw18141726563703728562 := 0
def tw16871617356534680431 := 0
def tw16781908851871545164 := 0
def tw16166810498566696211 := 0
def tw16044468746248489904 := 0
def tw15950016033378146639 := 0
def tw15842324306704266299 := 0
def tw15556261563966418680 := 0
def tw14967643461025526893 := 0
def tw1444848401565379056 := 0
def tw14245637958109036524 := 0
def tw14018518851434436803 := 0
def tw13447485991784288685 := 0
def tw1096146325072923954 := 0
def tw10796475561208647294 := 0
def tw10639356228604324299 := 0
def tw10294154412578939171 := 0
def tw1742716008929221250 := 0
def tw13950566134625914073 := 0
def tw10772168389782096830 := 0
def tw11148370156228400728 := 0
def tw2155593848153257842 := 0
def tw9380839095537297961 := 0
def tw760449284559720260 := 0
def tw17045998307931421938 := 0
def tw15563005244808642375 := 0
def tw9723299941445304948 := 0
def tw17025834608096835659 := 0
def tw10427417663522473665 := 0
def tw16328881191910260485 := 0
def tw12726284764253080152 := 0
def tw8191286367087807597 := 0
def tw2161970952858217193 := 0
def tw1863055832504297087 := 0
def tw17571501716827764779 := 0
def tw15351077325110051520 := 0
def tw13671981462640242936 := 0
def tw12897164662652982826 := 0
def tw10994935903804377212 := 0
def tw18319060048154260632 := 0
def tw15688159437432015496 := 0
def tw10976252423130310870 := 0
def tw15447637004645046689 := 0
def tw5424352998440874882 := 0
def tw3663685682532925148 := 0
def tw6602850663498230972 := 0
def tw1361873613025236135 := 0
def tw10070899964852024016 := 0
def tw9437058078556569044 := 0
def tw9413793527562752676 := 0
def tw7549593852823895673 := 0
def tw5102830049392165352 := 0
def tw2026304586169842136 := 0
def tw17601742706201505743 := 0
def tw12937201198436731413 := 0
def tw12791177585344160467 := 0
def tw11595820603507538990 := 0
def tw9084526981665224255 := 0
def tw8988196411772696100 := 0
def tw8969049966905912577 := 0
def tw8964334210298348122 := 0
def tw8508347732707684463 := 0
def tw690769018303892854 := 0
def tw6191897316887126154 := 0
def tw6020811461446824084 := 0
def tw5991368346209231736 := 0
def tw5847284107664700631 := 0
def tw5762038783889022171 := 0
def tw5228357436590926024 := 0
def tw4564729096715844106 := 0
def tw4129782299395635947 := 0
def tw3863669366202103348 := 0
def tw341071055002337727 := 0
def tw2833470132767706491 := 0
def tw2401509624261105001 := 0
def tw2073115170063703226 := 0
def tw1865049190860795948 := 0
def tw17613895723134284288 := 0
def tw16922784277435387697 := 0
def tw16731068576958530378 := 0
def tw16609061617476594549 := 0
def tw16234462869601036934 := 0
def tw16186655480308023725 := 0
def tw15553161514703382481 := 0
def tw15409063942603242741 := 0
def tw15349224993328839712 := 0
def tw15254014615982335865 := 0
def tw14937747366207911816 := 0
def tw14295538633246687811 := 0
def tw14055632212572952745 := 0
def tw13608204725872676886 := 0
def tw1347053243668367606 := 0
def tw13272549202454581696 := 0
def tw13203143837540620562 := 0
def tw12545420525852325794 := 0
def tw12453305579506460983 := 0
def tw11912513957316723210 := 0
def tw1153502766123390492 := 0
def tw11436731369337122033 := 0
def tw11403439885297080912 := 0
def tw11401673003270818526 := 0
def tw11242345683425378287 := 0
def tw10986895887380207780 := 0
def tw10984158990091163629 := 0
def tw10893126758689937120 := 0
def tw10678311309772357211 := 0
def tw10664166148086051060 := 0
def tw10661108431484091878 := 0
def tw10043755365537688740 := 0
end PySem.W.Fast
open PySem PySem.W PyProof.Rows
set_option maxRecDepth 100000 in
set_option maxHeartbeats 0 in
theorem PySem.Challenge.cw_roadsettings_k72_sheets_read_holds : PySem.Challenge.rw_roadsettings_k72_sheets_read.Holds := by
  w_on; o_law; k_head; (case hw => w_witness2)
  k_fill
  refine' K72.walk (l := PySem.Challenge.rw_roadsettings_k72_sheets_read) (ts := []) rfl rfl (fun w h Y => ⟨PySem.W.kIn_of Y, fun b hb => absurd hb (by simp)⟩) ?hK  ?F
  case hK =>
    intro w b hb
    exact absurd hb (by simp)
  case F =>
    intro w mg fa h KX G hmg
    refine' K72.all_mk KX G hmg ?_ ?_ ?_ ?_ ?_ ?_ ?_ ?_ ?_ ?_ ?_ ?_ ?_ ?_ ?_ ?_ ?_ ?_ ?_ ?_ ?_ ?_ ?_ ?_ ?_ ?_ ?_ ?_ ?_ ?_ ?_ ?_ ?_ ?_ ?_ ?_ ?_ ?_ ?_ ?_ ?_ ?_ ?_ ?_ ?_ ?_ ?_ ?_ ?_ ?_ ?_ ?_ ?_ ?_ ?_ ?_ ?_ ?_ ?_ ?_ ?_ ?_ ?_ ?_ ?_ ?_ ?_ ?_ ?_ ?_ ?_ ?_ ?_ ?_ ?_ ?_
    all_goals try (first | refine ⟨⟨by k_is, by k_is, by k_is⟩, ⟨_, _, _, _, _, _, _, _, _, rfl, by k_is, by k_is⟩, by k_is⟩ | refine ⟨by k_is, ⟨_, _, _, _, _, _, _, _, _, rfl, by k_is, by k_is⟩, by k_is⟩ | refine ⟨by k_is, ⟨by k_is, by k_is, by k_is, by k_is⟩, by k_is, by k_is⟩ | refine ⟨⟨by k_is, by k_is, by k_is⟩, ⟨_, _, _, _, _, _, _, _, rfl, by k_is, by k_is⟩, by k_is, by kernel_rfl⟩ | refine ⟨by k_is, ⟨_, _, _, _, _, _, _, _, rfl, by k_is, by k_is⟩, by k_is, by kernel_rfl⟩ | (show _ = _; first | k_is | kernel_rfl))
