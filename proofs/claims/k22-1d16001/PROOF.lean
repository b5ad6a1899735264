import PyProof.Rows.All
import Wide.All
import OpenK.AllK
import Wide.FinOn
import Lean
import PyProof.EqAt
import PyProof.EqKinds
import PyProof.TupleCall
import PyProof.AutoListH
import KE.KEqDict
import PyProof.SetKind
import PyProof.Rows.SetFrom
import PyProof.FactsAll.set_2
import PySem.Challenge.RW_roadsettings_k22_names_unlike_at_two_pla
set_option genSizeOfSpec false
noncomputable section
set_option Elab.async false
set_option linter.all false
set_option maxRecDepth 100000
set_option maxHeartbeats 4000000
open List (all_eq_true any_cons append_assoc append_nil eq_nil_of_length_eq_zero filterMap_cons filter_cons find?_cons foldl_append getD_eq_getElem?_getD getElem?_append_left getElem?_append_right getElem?_eq_getElem getElem?_map getElem?_zip_eq_some length_append length_cons length_drop length_filter_le length_map length_pos_iff length_range length_reverse length_set length_take lookup_cons map_append map_congr_left map_cons map_map mem_append mem_append_right mem_cons mem_cons_of_mem mem_cons_self mem_filter mem_iff_getElem mem_map mem_of_getElem? mem_range mem_singleton nodup_append nodup_cons nodup_nil not_mem_nil of_mem_zip pairwise_map size_toArray take_add_one take_length take_of_length_le take_succ)
abbrev KF:=PySem.W.Frag
abbrev ZB:=PySem.Value->PySem.Shared->Prop
namespace L2
open PySem PySem.Spec PyProof.Rows
abbrev Zk:=Sum Int Str
def Xc:Zk->Value->Bool
 | .inl k,v=>Value.isInt k v
 | .inr x,v=>Value.isStrOf x v
def keyH (w:World):Zk->Int
 | .inl k=>hashInt k
 | .inr x=>hashStr w x
theorem ZT:∀{k:Zk}{v:Value},Xc k v=true->(∃ i t,k=Sum.inl i/\v=Value.int i t)\/(∃ x t,k=Sum.inr x/\v=Value.str x t)
 | .inl i,v,h=>by
  obtain ⟨t,e⟩:=Value.isInt_shape (k:=i) (v:=v) h
  exact .inl ⟨i,t,rfl,e⟩
 | .inr x,v,h=>by
  obtain ⟨t,e⟩:=Value.isStrOf_shape (x:=x) (v:=v) h
  exact .inr ⟨x,t,rfl,e⟩
theorem ZgO (i:Int)(t:Tok):Xc (.inl i) (.int i t)=true:=by simp [Xc,Value.isInt]
theorem Zha (x:Str)(t:Tok):Xc (.inr x) (.str x t)=true:=by simp [Xc,Value.isStrOf]
theorem Znc (a b:Int):decide ((Sum.inl a:Zk)=Sum.inl b)=(a == b):=by
 by_cases e:a=b
 ·subst e;simp
 ·have h:¬ (Sum.inl a:Zk)=Sum.inl b:=fun q=>e (Sum.inl.inj q)
  rw [decide_eq_false h]
  exact (beq_eq_false_iff_ne.mpr e).symm
theorem ZmW (a b:Str):decide ((Sum.inr a:Zk)=Sum.inr b)=decide (a=b):=by
 by_cases e:a=b
 ·subst e;simp
 ·have h:¬ (Sum.inr a:Zk)=Sum.inr b:=fun q=>e (Sum.inr.inj q)
  rw [decide_eq_false h,decide_eq_false e]
theorem Znb (a:Int)(b:Str):decide ((Sum.inl a:Zk)=Sum.inr b)=false:=decide_eq_false (fun q=>nomatch q)
theorem ZmX (a:Str)(b:Int):decide ((Sum.inr a:Zk)=Sum.inl b)=false:=decide_eq_false (fun q=>nomatch q)
def Zl (prog:Program)(w:World):PySem.KeyKind prog w Zk where
 is:=Xc
 hash:=keyH w
 inj := fun v a b ha hb=>by
  rcases ZT ha with ⟨i,t,rfl,rfl⟩ | ⟨x,t,rfl,rfl⟩
  ·rcases ZT hb with ⟨j,u,rfl,e⟩ | ⟨y,u,rfl,e⟩
   ·injection e with e1 _;rw [e1]
   ·exact nomatch e
  ·rcases ZT hb with ⟨j,u,rfl,e⟩ | ⟨y,u,rfl,e⟩
   ·exact nomatch e
   ·injection e with e1 _;rw [e1]
 byValue:=fun k v h=>by
  rcases ZT h with ⟨i,t,rfl,rfl⟩ | ⟨x,t,rfl,rfl⟩<;>rfl
 pyHash:=fun hv h=>by
  rcases ZT hv with ⟨i,t,rfl,rfl⟩ | ⟨x,t,rfl,rfl⟩
  ·exact wpAny_pyHash_int h
  ·exact wpAny_pyHash_str h
 eqBool:=fun hu hv h=>by
  rcases ZT hu with ⟨i,t,rfl,rfl⟩ | ⟨x,t,rfl,rfl⟩
  ·rcases ZT hv with ⟨j,u,rfl,rfl⟩ | ⟨y,u,rfl,rfl⟩
   ·rw [Znc] at h;exact wpAny_eqBool_int h
   ·rw [Znb] at h;exact SeqAt.EqAt.int_str i t y u _ _ _ _ h
  ·rcases ZT hv with ⟨j,u,rfl,rfl⟩ | ⟨y,u,rfl,rfl⟩
   ·rw [ZmX] at h;exact SeqAt.EqAt.str_int x t j u _ _ _ _ h
   ·rw [ZmW] at h;exact wpAny_eqBool_str h
 «strs»:=fun k x t v h=>by
  rcases ZT h with ⟨i,u,rfl,e⟩ | ⟨y,u,rfl,e⟩
  ·exact nomatch e
  ·injection e with e1 _
   subst e1
   cases v<;>rfl
theorem UX (prog:Program)(w:World)(k:Zk)(v:Value):(Zl prog w).is k v=Xc k v:=rfl
theorem Zew (prog:Program)(w:World)(i:Int)(t:Tok):(Zl prog w).is (.inl i) (.int i t)=true:=ZgO i t
theorem UE (prog:Program)(w:World)(x:Str)(t:Tok):(Zl prog w).is (.inr x) (.str x t)=true:=Zha x t
inductive V where
 | non | bl (b:Bool) | int (i:Int) | str (x:Str) | byt (b:Array UInt8) | flt (b:UInt64) | ref (a:Addr) | ty (n:String)
 deriving DecidableEq
abbrev ZH:=List (Str×V)
abbrev ZK:=List (Zk×V)
def RelV:V->Value->Prop
 | .non,u=>u=Value.none
 | .bl b,u=>u=Value.bool b
 | .int i,u=>∃ t,u=Value.int i t
 | .str x,u=>∃ t,u=Value.str x t
 | .byt b,u=>∃ t,u=Value.bytes b t
 | .flt b,u=>∃ t,u=Value.float b t
 | .ref a,u=>u=Value.ref a
 | .ty n,u=>u=Value.type n
abbrev Vals:List V->List Value->Prop:=Paired RelV
theorem Vals.length {xs:List V}{us:List Value}(r:Vals xs us):xs.length=us.length:=Paired.length r
theorem Vals.get:∀{xs:List V}{us:List Value}{i:Nat}{x:V},Vals xs us->xs[i]?=some x->∃ u,us[i]?=some u/\RelV x u
 | _,_,_,_,.nil,e=>by simp at e
 | _,_,0,_,.cons r _,e=>by simp at e;subst e;exact ⟨_,rfl,r⟩
 | _,_,i+1,x,.cons _ t,e=>by
  obtain ⟨u,h1,h2⟩:=Vals.get (i:=i) (x:=x) t (by simpa using e)
  exact ⟨u,by simpa using h1,h2⟩
theorem Vals.set {x:V}{u:Value}(r:RelV x u):∀{xs:List V}{us:List Value}(i:Nat),Vals xs us->Vals (xs.set i x) (us.set i u)
 | _,_,_,.nil=>.nil
 | _,_,0,.cons _ t=>.cons r t
 | _,_,i+1,.cons q t=>.cons q (Vals.set r i t)
theorem Vals.append:∀{xs ys:List V}{us ws:List Value},Vals xs us->Vals ys ws->Vals (xs++ys) (us++ws)
 | _,_,_,_,.nil,s=>s
 | _,_,_,_,.cons r t,s=>.cons r (Vals.append t s)
theorem Vals.take:∀{xs:List V}{us:List Value}(n:Nat),Vals xs us->Vals (xs.take n) (us.take n)
 | _,_,0,_=>.nil
 | _,_,_+1,.nil=>.nil
 | _,_,n+1,.cons r t=>.cons r (Vals.take n t)
theorem Vals.drop:∀{xs:List V}{us:List Value}(n:Nat),Vals xs us->Vals (xs.drop n) (us.drop n)
 | _,_,0,r=>r
 | _,_,_+1,.nil=>.nil
 | _,_,n+1,.cons _ t=>Vals.drop n t
def RelO:Option V->Option Value->Prop
 | some v,some u=>RelV v u
 | none,none=>True
 | _,_=>False
def KV {κ:Type}:List (κ×V)->List (κ×Value)->Prop:=Paired fun (p:κ×V) (q:κ×Value)=>p.1=q.1/\RelV p.2 q.2
def kV:Zk->V
 | .inl i=>.int i
 | .inr x=>.str x
inductive HO where
 | lst (xs:List V)
 | tup (xs:List V)
 | dK (kvs:ZK) | dT (kvs:List (List Zk×V))
 | set (S:Int->Bool) (n:Nat)
 | ins (C dx:Addr) (fs:ZH)
 | own (x:Addr)
 | xd (fs:ZH)
 | met (f x:Addr)
 | rng (lo hi:Int)
 | frz (o:Obj) (u:HO)
 | tbl (ps:Array Value)
 | ext (φ:Heap->Prop)
abbrev Hp:=Addr->Option HO
def upd (H:Hp)(a:Addr)(o:HO):Hp:=fun b=>if b=a then some o else H b
theorem Zg {H:Hp}{a:Addr}{o:HO}:upd H a o a=some o:=by unfold upd;rw [if_pos rfl]
theorem Zi {H:Hp}{a b:Addr}{o:HO}(h:b≠a):upd H a o b=H b:=by unfold upd;rw [if_neg h]
theorem Zbi {H:Hp}{a b:Addr}{o u:HO}(h:H a=some o)(h':H b=some u)(d:o≠u):a≠b:=by
 intro e;subst e;rw [h] at h';exact d (Option.some.inj h')
theorem Zs {H:Hp}{a b:Addr}{o:HO}(h:H a=some o)(h':H b=none):a≠b:=by
 intro e;subst e;rw [h] at h';cases h'
section
variable (P:Program)(w:World)
def ObjOk (H:Hp)(h:Heap)(a:Addr):HO->Prop
 | .lst xs=>xs.length<=sizeLine/\∃ (its:List Value) (n:Nat),Vals xs its/\h.get? a=some { cls:=.type "list",data:=.seq its.toArray n }
 | .tup xs=>xs.length<=sizeLine/\∃ its:List Value,Vals xs its/\IsTup h a its.toArray
 | .dK kvs=>kvs.length<=sizeLine/\(a == sysModules)=false/\∃ vs,KV kvs vs/\h.DictOf (Zl P w) a vs
 | .dT kvs=>kvs.length<=sizeLine/\(a == sysModules)=false/\∃ xs:List (List Zk×Addr×Value),
     Paired (fun (p:List Zk×V) (q:List Zk×Addr×Value)=>p.1=q.1/\H q.2.1=some (.tup (p.1.map kV))/\RelV p.2 q.2.2) kvs xs /\
     ∃ o es ep,h.get? a=some o/\o.ExactDict/\o.data=.dict es ep/\es.toList=xs.map (entryOfKey (tupleKind (Zl P w)))/\(xs.map (·.1)).Nodup
 | .set S n=>h.SetOf (intKind P w) a S n
 | .ins C dx fs=>H dx=some (.own a)/\fs.length<=1000/\dx≠a/\h.get? a=some (PySem.W.instObj C dx) /\
     ∃ mA,h.Ns1 dx mA/\(∀ f,RelO (fs.lookup f) (mA f))/\PySem.Within mA (fs.map (·.1))
 | .own _=>∃ o,h.get? a=some o
 | .xd fs=>∃ mA,h.Ns1 a mA/\∀ f,RelO (fs.lookup f) (mA f)
 | .rng lo hi=>∃ t u v,h.get? a=some { cls:=.type "range",data:=.fields #[.int lo t,.int hi u,.int 1 v] }
 | .frz o u=>h.get? a=some o/\ObjOk H h a u
 | .tbl ps=>h.get? a=some { cls:=.none,data:=.fields ps }
 | .met f x=>h.get? a=some (PySem.W.methodObj (.ref f) (.ref x))
 | .ext φ=>φ h/\(∃ o,h.get? a=some o)/\∀ h1 h2:Heap,φ h1->(∀ o,h1.get? a=some o->h2.get? a=some o)->φ h2
def HOk (H:Hp)(h:Heap):Prop:=∀ a o,H a=some o->ObjOk P w H h a o
end
section
variable {P:Program}{w:World}{H H':Hp}{h h':Heap}{a:Addr}{o:HO}
theorem ObjOk.lt (x:ObjOk P w H h a o):a < h.objs.size:=by
 cases o with
 | lst xs=>obtain ⟨_,_,_,_,e⟩:=x;exact Heap.lt_size e
 | tup xs=>obtain ⟨_,_,_,p⟩:=x;exact p.lt
 | dK kvs=>obtain ⟨_,_,_,_,o,_,_,e,_⟩:=x;exact Heap.lt_size e
 | dT kvs=>obtain ⟨_,_,_,_,o,_,_,e,_⟩:=x;exact Heap.lt_size e
 | set S n=>obtain ⟨o,_,_,_,e,_⟩:=x;exact Heap.lt_size e
 | ins C dx fs=>obtain ⟨_,_,_,e,_⟩:=x;exact Heap.lt_size e
 | own y=>obtain ⟨_,e⟩:=x;exact Heap.lt_size e
 | xd fs=>obtain ⟨_,⟨_,_,_,e,_⟩,_⟩:=x;exact Heap.lt_size e
 | rng lo hi=>obtain ⟨_,_,_,e⟩:=x;exact Heap.lt_size e
 | frz ob u=>obtain ⟨e,_⟩:=x;exact Heap.lt_size e
 | tbl ps=>exact Heap.lt_size (show h.get? a=some _ from x)
 | met f y=>exact Heap.lt_size (show h.get? a=some _ from x)
 | ext φ=>obtain ⟨_,⟨_,e⟩,_⟩:=x;exact Heap.lt_size e
theorem Paired.mapP {α β:Type}{F G:α->β->Prop}:∀{l₁:List α}{l₂:List β},Paired F l₁ l₂->(∀ a b,F a b->G a b)->Paired G l₁ l₂
 | _,_,.nil,_=>.nil
 | _,_,.cons r t,f=>.cons (f _ _ r) (Paired.mapP t f)
theorem ObjOk.stay (x:ObjOk P w H h a o)(k:∀ b u,(b=a\/H b=some (.own a))->h.get? b=some u->h'.get? b=some u)
 (ho:∀ b,H b=some (.own a)->H' b=some (.own a)) (ht:∀ b xs,H b=some (.tup xs)->H' b=some (.tup xs)):ObjOk P w H' h' a o:=by
 induction o with
 | lst xs=>obtain ⟨z,its,n,r,e⟩:=x;exact ⟨z,its,n,r,k _ _ (.inl rfl) e⟩
 | tup xs=>obtain ⟨z,its,r,ob,e,c⟩:=x;exact ⟨z,its,r,ob,k _ _ (.inl rfl) e,c⟩
 | dK kvs=>obtain ⟨z,y,vs,r,ob,es,ep,e,c⟩:=x;exact ⟨z,y,vs,r,ob,es,ep,k _ _ (.inl rfl) e,c⟩
 | dT kvs =>
  obtain ⟨z,y,xs,r,ob,es,ep,e,c⟩:=x
  exact ⟨z,y,xs,Paired.mapP r fun p q z=>⟨z.1,ht _ _ z.2.1,z.2.2⟩,ob,es,ep,k _ _ (.inl rfl) e,c⟩
 | set S n=>obtain ⟨ob,es,ep,t,e,c⟩:=x;exact ⟨ob,es,ep,t,k _ _ (.inl rfl) e,c⟩
 | ins C dx fs =>
  obtain ⟨d,z,ne,e,mA,⟨od,es,ep,e2,c⟩,r⟩:=x
  exact ⟨ho _ d,z,ne,k _ _ (.inl rfl) e,mA,⟨od,es,ep,k _ _ (.inr d) e2,c⟩,r⟩
 | own y=>obtain ⟨ob,e⟩:=x;exact ⟨ob,k _ _ (.inl rfl) e⟩
 | xd fs=>obtain ⟨mA,⟨od,es,ep,e,c⟩,r⟩:=x;exact ⟨mA,⟨od,es,ep,k _ _ (.inl rfl) e,c⟩,r⟩
 | rng lo hi=>obtain ⟨t,u,v,e⟩:=x;exact ⟨t,u,v,k _ _ (.inl rfl) e⟩
 | frz ob u ih=>obtain ⟨e,q⟩:=x;exact ⟨k _ _ (.inl rfl) e,ih q⟩
 | tbl ps =>
  have e:h.get? a=some { cls:=.none,data:=.fields ps }:=x
  show h'.get? a=some { cls:=.none,data:=.fields ps }
  exact k a _ (.inl rfl) e
 | met f y =>
  have e:h.get? a=some (PySem.W.methodObj (.ref f) (.ref y)):=x
  show h'.get? a=some (PySem.W.methodObj (.ref f) (.ref y))
  exact k a _ (.inl rfl) e
 | ext φ=>obtain ⟨p,⟨o,e⟩,st⟩:=x;exact ⟨st _ _ p fun o q=>k _ _ (.inl rfl) q,⟨o,k _ _ (.inl rfl) e⟩,st⟩
theorem HOk.lt (x:HOk P w H h)(e:H a=some o):a < h.objs.size:=(x a o e).lt
theorem HOk.fresh (x:HOk P w H h)(e:h.objs.size<=a):H a=none:=by
 cases q:H a with
 | none=>rfl
 | some u=>exact absurd (Nat.lt_of_lt_of_le (x.lt q) e) (Nat.lt_irrefl _)
theorem HOk.kept (x:HOk P w H h)(k:∀ b u,h.get? b=some u->h'.get? b=some u):HOk P w H h':=fun a o e =>
 (x a o e).stay (fun b u _ q=>k b u q) (fun _ q=>q) fun _ _ q=>q
theorem HOk.laid (x:HOk P w H h)(k:∀ b u,h.get? b=some u->h'.get? b=some u)(hp:h.objs.size<=a)(new:ObjOk P w (upd H a o) h' a o):HOk P w (upd H a o) h':=fun b u e=>by
 have hn:=x.fresh hp
 by_cases hb:b=a
 ·subst hb;rw [Zg] at e;cases e;exact new
 ·rw [Zi hb] at e
  exact (x b u e).stay (fun c v _ q=>k c v q) (fun c q=>by rw [Zi (Zs q hn)];exact q) fun c xs q=>by rw [Zi (Zs q hn)];exact q
end
def Rd (H:Hp)(a:Addr)(u:HO):Prop:=H a=some u\/∃ o,H a=some (.frz o u)
theorem Rd.ok {P:Program}{w:World}{H:Hp}{h:Heap}{a:Addr}{u:HO}(r:Rd H a u)(x:HOk P w H h):ObjOk P w H h a u:=by
 rcases r with r | ⟨o,r⟩
 ·exact x a u r
 ·obtain ⟨_,q⟩:=x a _ r
  exact q
def Mut:Option HO->Prop
 | some (.lst _)=>True
 | some (.dK _)=>True
 | some (.dT _)=>True
 | some (.set _ _)=>True
 | some (.ins _ _ _)=>True
 | some (.ext _)=>True
 | _=>False
section
variable {P:Program}{w:World}{H:Hp}{h h':Heap}{x e:Addr}{o':HO}
theorem HOk.write (ok:HOk P w H h)(mu:Mut (H x))(he:e=x\/H e=some (.own x))(k:∀ b u,b≠e->h.get? b=some u->h'.get? b=some u)(heo:∃ u,h'.get? e=some u)
 (new:ObjOk P w (upd H x o') h' x o'):HOk P w (upd H x o') h':=fun b u q=>by
 have nown:∀ c y,H c=some (.own y)->c≠x:=fun c y r z=>by subst z;rw [r] at mu;exact mu
 have ntup:∀ c xs,H c=some (.tup xs)->c≠x:=fun c xs r z=>by subst z;rw [r] at mu;exact mu
 by_cases hb:b=x
 ·subst hb;rw [Zg] at q;cases q;exact new
 ·rw [Zi hb] at q
  by_cases hbe:b=e
  ·have q':H b=some (.own x):=by
    rcases he with z | z
    ·exact absurd (hbe.trans z) hb
    ·rw [hbe];exact z
   rw [q] at q';cases q'
   obtain ⟨v,hv⟩:=heo
   exact ⟨v,by rw [hbe];exact hv⟩
  ·refine (ok b u q).stay (fun c v hc r=>k c v ?_ r) (fun c r=>by rw [Zi (nown c b r)];exact r) fun c xs r=>by rw [Zi (ntup c xs r)];exact r
   rcases hc with rfl | hc
   ·exact hbe
   ·rintro rfl
    rcases he with z | z
    ·exact nown c b hc z
    ·rw [hc] at z;cases z;exact hb rfl
end
structure Un (fs ex:List Addr)(H H':Hp)(h h':Heap):Prop where
 keep:∀ b o,h.get? b=some o->H b=none->b ∉ fs->b ∉ ex->h'.get? b=some o
 slot:∀ b o,h.get? b=some o->H b=none->b∈fs->b ∉ ex->∃ sl,h'.get? b=some { o with slots:=sl }
 free:∀ b o,h.get? b=some o->H b=none->b ∉ ex->H' b=none
 there:∀ b o,h.get? b=some o->b ∉ ex->∃ o',h'.get? b=some o'
 tups:∀ b xs,H b=some (.tup xs)->H' b=some (.tup xs)
 frzs:∀ b o u,H b=some (.frz o u)->H' b=some (.frz o u)
 tbls:∀ b ps,H b=some (.tbl ps)->∃ more,H' b=some (.tbl (ps++more))
section
variable {fs fs' ex ex':List Addr}{H H1 H2:Hp}{h h1 h2 h':Heap}{a x e:Addr}{o:HO}
theorem Un.any (u:Un fs ex H H1 h h1){b:Addr}{ob:Obj}(q:h.get? b=some ob)(n:H b=none)(hx:b ∉ ex):∃ sl,h1.get? b=some { ob with slots:=sl }:=by
 by_cases hb:b∈fs
 ·exact u.slot b ob q n hb hx
 ·exact ⟨ob.slots,u.keep b ob q n hb hx⟩
theorem Un.kept (k:∀ b u,h.get? b=some u->h'.get? b=some u):Un fs ex H H h h' :=
 ⟨fun b ob q _ _ _=>k b ob q,fun b ob q _ _ _=>⟨ob.slots,k b ob q⟩,fun _ _ _ n _=>n,fun b ob q _=>⟨ob,k b ob q⟩,fun _ _ q=>q,fun _ _ _ q=>q,fun _ ps q=>⟨#[],by rw [q];simp⟩⟩
theorem Un.refl:Un fs ex H H h h:=Un.kept fun _ _ q=>q
theorem Un.laid (k:∀ b u,h.get? b=some u->h'.get? b=some u)(hp:h.objs.size<=a)(hn:H a=none):Un fs ex H (upd H a o) h h' where
 keep:=fun b u q _ _ _=>k b u q
 slot:=fun b u q _ _ _=>⟨u.slots,k b u q⟩
 free:=fun b u q n _=>by rw [Zi (Nat.ne_of_lt (Nat.lt_of_lt_of_le (Heap.lt_size q) hp))];exact n
 there:=fun b u q _=>⟨u,k b u q⟩
 tups:=fun b xs q=>by rw [Zi (Zs q hn)];exact q
 frzs:=fun b u xs q=>by rw [Zi (Zs q hn)];exact q
 tbls:=fun b ps q=>⟨#[],by rw [Zi (Zs q hn),q];simp⟩
theorem Un.write (mu:Mut (H x))(he:e=x\/H e=some (.own x))(k:∀ b u,b≠e->h.get? b=some u->h'.get? b=some u)(heo:∃ u,h'.get? e=some u):Un fs ex H (upd H x o) h h':=by
 have hx:∀ b,H b=none->b≠x:=fun b n z=>by subst z;rw [n] at mu;exact mu
 have hb:∀ b,H b=none->b≠e:=fun b n z=>by
  subst z
  rcases he with r | r
  ·exact hx b n r
  ·rw [n] at r;cases r
 have hm:∀ b u,H b=some u->¬ Mut (some u)->b≠x:=fun b u q nm z=>by subst z;rw [q] at mu;exact nm mu
 refine ⟨fun b u q n _ _=>k b u (hb b n) q,fun b u q n _ _=>⟨u.slots,k b u (hb b n) q⟩,fun b u q n _=>by rw [Zi (hx b n)];exact n,fun b u q _=>?_,
  fun b xs q=>by rw [Zi (hm b _ q fun z=>z)];exact q,fun b u xs q=>by rw [Zi (hm b _ q fun z=>z)];exact q,fun b ps q=>⟨#[],by rw [Zi (hm b _ q fun z=>z),q];simp⟩⟩
 by_cases hbe:b=e
 ·subst hbe;exact heo
 ·exact ⟨u,k b u hbe q⟩
end
def trk (h:Heap)(H:Hp):List Addr:=(List.range h.objs.size).filter fun a=>(H a).isSome
def Uz (h:Heap)(H:Hp):Heap:=PySem.W.hideAll h (trk h H)
theorem Zhv (h:Heap)(H:Hp):(Uz h H).objs.size=h.objs.size:=PySem.W.hideAll_size _ _
theorem Zjz {h:Heap}{H:Hp}{b:Addr}{o:Obj}(e:h.get? b=some o)(n:H b=none):(Uz h H).get? b=some o :=
 PySem.W.hideAll_get _ e fun hm=>by
  have q:(H b).isSome=true:=(mem_filter.mp hm).2
  rw [n] at q;simp at q
theorem ZkZ {h:Heap}{H:Hp}{b:Addr}{o:Obj}(e:(Uz h H).get? b=some o):h.get? b=some o/\H b=none:=by
 have e':h.get? b=some o:=PySem.W.of_hideAll (trk h H) e
 refine ⟨e',?_⟩
 cases q:H b with
 | none=>rfl
 | some x =>
  have hm:b∈trk h H:=mem_filter.mpr ⟨mem_range.mpr (Heap.lt_size e'),by simp [q]⟩
  have z:(Uz h H).get? b=none:=PySem.W.hideAll_none (trk h H) hm
  rw [z] at e;cases e
structure Mod (K:KF)(mg:Str->Option Value)(base:Heap):Prop where
 kin:K.In base
 glob:base.Ns mainGlobals mg
 blt:∃ mb,base.Ns builtinsNs mb/\∀ x:Str,x≠"__name__"->mb x=bootBuiltins x
 nolimit:base.NoLimit
set_option genInjectivity false in
structure Cx where
 prog:Program
 w:World
 K:PySem.W.Frag
 mg:Str->Option Value
 base:Heap
 A:Around
 N:List Str
 s₀:Shared
 H₀:Hp
 env:Env
 outer:List Env
 stack:List Env
 ex:List Addr
 fn:Str->Bool
 calm:Bool
 pn:List (Addr×Obj)
 xe:Value->Shared->Prop
def VT (l:List Env):List Addr:=l.filterMap (·.frame)
abbrev Cx.fs (X:Cx):List Addr:=VT X.outer
def Vis (sc:Scope)(x:Str):Prop:=sc.names.lookup x=some .local\/sc.names.lookup x=some .cell\/sc.names.lookup x=some .free
def Loc (sc:Scope)(x:Str):Prop:=sc.names.lookup x=some .local\/sc.names.lookup x=some .cell
def Look (env:Env)(h:Heap)(m:Str->Option Value)(x:Str)(u:Value):Prop :=
 (env.kindOf x=some .local/\m x=some u)\/((env.kindOf x=some .cell\/env.kindOf x=some .free)/\∃ c,env.cells.lookup x=some c/\h.IsCell c (some u))
structure Cx.Ok (X:Cx):Prop where
 mod:Mod X.K X.mg X.base
 kind:X.env.scope.kind=.function
 glob:X.env.globals=mainGlobals
 blt:X.env.builtins=builtinsNs
 above:X.s₀.heap.objs.size<=X.env.locals
 inj:∀ x y c,X.env.cells.lookup x=some c->X.env.cells.lookup y=some c->x=y
 has:∀ x,(X.env.kindOf x=some .cell\/X.env.kindOf x=some .free)->∃ c,X.env.cells.lookup x=some c
 cab:∀ x c,X.fn x=true->X.env.cells.lookup x=some c->X.s₀.heap.objs.size<=c
 hd:X.calm=true->X.A.handled=none
 frames:X.A.frames=some X.stack
 stk:X.stack=X.outer\/(X.stack=X.env::X.outer/\X.env.frame=some X.env.locals)
 exf:∀ b∈X.ex,b≠X.env.locals/\∀ x c,X.env.cells.lookup x=some c->c≠b
 bs:∀ b o,X.base.get? b=some o->X.s₀.heap.get? b=some o/\X.H₀ b=none
 bsz:X.base.objs.size<=X.s₀.heap.objs.size
 noex:∀ b o,X.base.get? b=some o->b ∉ X.ex
 exfs:∀ b∈X.ex,b ∉ X.fs
 funs:X.s₀.heap.FunFrames X.base X.outer
 frf:∀ b∈X.fs,X.H₀ b=none
structure Inv (X:Cx)(pins:List (Addr×Obj))(σ:List (Option V))(H:Hp)(s:Shared):Prop where
 ok:X.Ok
 os:s.os=X.s₀.os
 bare:AllBare s.gens
 base:Un X.fs X.ex X.H₀ H X.s₀.heap s.heap
 loc:∃ m,s.heap.Ns X.env.locals m/\∀ (i:Nat) (x:Str) (v:V),X.N[i]?=some x->σ[i]?=some (some v)->Vis X.env.scope x->∃ u,RelV v u/\Look X.env s.heap m x u
 cell:∀ x c,X.env.cells.lookup x=some c->∃ v,s.heap.IsCell c v
 free:H X.env.locals=none
 freeC:∀ x c,X.env.cells.lookup x=some c->H c=none
 pin:∀ p∈X.pn++pins,s.heap.get? p.1=some p.2/\H p.1=none/\p.1≠X.env.locals/\p.1 ∉ X.fs/\∀ v,p.2.data≠.cell v
 hok:HOk X.prog X.w H s.heap
 len:σ.length=X.N.length
section
variable {X:Cx}{pins:List (Addr×Obj)}{σ:List (Option V)}{H H':Hp}{s:Shared}{h':Heap}
theorem Cx.Ok.nofr (ok:X.Ok){b:Addr}{o:Obj}(e:X.base.get? b=some o):b ∉ X.fs:=fun hb=>by
 have:=(ok.funs.mem hb).1
 rw [e] at this;cases this
theorem Inv.bs (I:Inv X pins σ H s):∀ b o,X.base.get? b=some o->s.heap.get? b=some o/\H b=none:=fun b o e =>
 ⟨I.base.keep b o (I.ok.bs b o e).1 (I.ok.bs b o e).2 (I.ok.nofr e) (I.ok.noex b o e),I.base.free b o (I.ok.bs b o e).1 (I.ok.bs b o e).2 (I.ok.noex b o e)⟩
theorem Inv.bk (I:Inv X pins σ H s):∀ b o,X.base.get? b=some o->s.heap.get? b=some o:=fun b o e=>(I.bs b o e).1
theorem Inv.mod (I:Inv X pins σ H s):Mod X.K X.mg X.base:=I.ok.mod
theorem Inv.kIn (I:Inv X pins σ H s):X.K.In s.heap:=I.ok.mod.kin.keeps I.bk
theorem Inv.nolimit (I:Inv X pins σ H s):s.heap.NoLimit:=I.ok.mod.nolimit.keeps I.bk
theorem Inv.lt (I:Inv X pins σ H s):X.env.locals < s.heap.objs.size:=let ⟨_,hn,_⟩:=I.loc;hn.lt
theorem Inv.sz (I:Inv X pins σ H s):X.s₀.heap.objs.size<=s.heap.objs.size:=Nat.le_trans I.ok.above (Nat.le_of_lt I.lt)
theorem Inv.nofs (I:Inv X pins σ H s){a:Addr}(h:s.heap.objs.size<=a):a ∉ X.fs:=fun hb=>by
 obtain ⟨_,o,ho,_⟩:=I.ok.funs.mem hb
 exact absurd (Nat.lt_of_lt_of_le (Heap.lt_size ho) (Nat.le_trans I.sz h)) (Nat.lt_irrefl _)
theorem Inv.cne (I:Inv X pins σ H s):∀ x c,X.env.cells.lookup x=some c->c≠X.env.locals:=fun x c e z=>by
 obtain ⟨v,o,ho,hd⟩:=I.cell x c e
 obtain ⟨m,⟨o',es,ep,ho',hd',_⟩,_⟩:=I.loc
 rw [z,ho'] at ho;cases ho;rw [hd'] at hd;cases hd
theorem Inv.funs (I:Inv X pins σ H s):s.heap.FunFrames X.base X.outer:=by
 have all:∀ (l:List Env),(∀ b∈VT l,b∈X.fs)->X.s₀.heap.FunFrames X.base l->s.heap.FunFrames X.base l:=by
  intro l
  induction l with
  | nil=>intro _ _;trivial
  | cons env r ih =>
   intro hs hl
   obtain ⟨hk,⟨L,o,hf,hn,ho,hd⟩,hr⟩:=hl
   have hL:L∈X.fs:=hs L (by unfold VT;rw [filterMap_cons,hf];exact mem_cons_self)
   obtain ⟨sl,e⟩:=I.base.slot L o ho (I.ok.frf L hL) hL fun z=>I.ok.exfs L z hL
   exact ⟨hk,⟨L,_,hf,hn,e,hd⟩,ih (fun b hb=>hs b (by unfold VT;rw [filterMap_cons,hf];exact mem_cons_of_mem _ hb)) hr⟩
 exact all X.outer (fun _ hb=>hb) I.ok.funs
theorem Inv.stack (I:Inv X pins σ H s):s.heap.FunFrames X.base X.stack:=by
 rcases I.ok.stk with e | ⟨e,hf⟩
 ·rw [e];exact I.funs
 ·rw [e]
  obtain ⟨m,hn,_⟩:=I.loc
  refine .cons (by rw [I.ok.kind];decide) hf hn ?_ I.funs
  exact Heap.get?_none_of_le (Nat.le_trans I.ok.bsz I.ok.above)
theorem Inv.stkSub (I:Inv X pins σ H s):∀ b∈VT X.stack,b∈X.env.locals::X.fs:=fun b hb=>by
 rcases I.ok.stk with e | ⟨e,hf⟩
 ·rw [e] at hb;exact mem_cons_of_mem _ hb
 ·rw [e] at hb
  unfold VT at hb
  rw [filterMap_cons,hf] at hb
  exact hb
theorem Inv.stkFree (I:Inv X pins σ H s):∀ b∈VT X.stack,H b=none:=fun b hb=>by
 rcases mem_cons.mp (I.stkSub b hb) with e | hb
 ·rw [e];exact I.free
 ·obtain ⟨_,o,ho,_⟩:=I.ok.funs.mem hb
  exact I.base.free b o ho (I.ok.frf b hb) fun z=>I.ok.exfs b z hb
theorem Inv.step {g':Array GenState}{t':Nat}{d':Drawn}{ch:List Addr}(I:Inv X pins σ H s)
 (hch:∀ b∈ch,(b∈X.ex\/X.s₀.heap.objs.size<=b)/\b≠X.env.locals/\(∀ x c,X.env.cells.lookup x=some c->c≠b)/\∀ p∈X.pn++pins,p.1≠b)
 (keep:∀ b o,b≠X.env.locals->b ∉ X.fs->b ∉ ch->s.heap.get? b=some o->H b=none->h'.get? b=some o)
 (slot:∀ b o,b≠X.env.locals->b∈X.fs->b ∉ ch->s.heap.get? b=some o->H b=none->∃ sl,h'.get? b=some { o with slots:=sl }) (free:∀ b o,b ∉ ch->s.heap.get? b=some o->H b=none->H' b=none)
 (there:∀ b o,b ∉ ch->s.heap.get? b=some o->∃ o',h'.get? b=some o')
 (tups:∀ b xs,H b=some (.tup xs)->H' b=some (.tup xs)) (frzs:∀ b o u,H b=some (.frz o u)->H' b=some (.frz o u)) (tbls:∀ b ps,H b=some (.tbl ps)->∃ more,H' b=some (.tbl (ps++more)))
 (ns:∀ m,s.heap.Ns X.env.locals m->h'.Ns X.env.locals m) (hok:HOk X.prog X.w H' h') (hg:AllBare g') :
 Inv X pins σ H' { s with heap:=h',gens:=g',drawn:=d',toks:=t' }:=by
 have neL:∀ b o,X.s₀.heap.get? b=some o->b≠X.env.locals:=fun b o e=>Nat.ne_of_lt (Nat.lt_of_lt_of_le (Heap.lt_size e) I.ok.above)
 have neC:∀ b o,X.s₀.heap.get? b=some o->b ∉ X.ex->b ∉ ch:=fun b o e hx hb=>by
  rcases (hch b hb).1 with z | z
  ·exact hx z
  ·exact absurd (Nat.lt_of_lt_of_le (Heap.lt_size e) z) (Nat.lt_irrefl _)
 have cellK:∀ x c,X.env.cells.lookup x=some c->∀ v,s.heap.IsCell c v->h'.IsCell c v:=fun x c e v ⟨o,ho,hd⟩=>by
  have nch:c ∉ ch:=fun z=>(hch c z).2.2.1 x c e rfl
  by_cases hc:c∈X.fs
  ·obtain ⟨sl,q⟩:=slot c o (I.cne x c e) hc nch ho (I.freeC x c e)
   exact ⟨_,q,hd⟩
  ·exact ⟨o,keep c o (I.cne x c e) hc nch ho (I.freeC x c e),hd⟩
 refine ⟨I.ok,I.os,hg,⟨fun b o e n hb hx=>?_,fun b o e n hb hx=>?_,fun b o e n hx=>?_,fun b o e hx=>?_,fun b xs e=>tups b xs (I.base.tups b xs e),fun b o xs e=>frzs b o xs (I.base.frzs b o xs e),fun b ps e=>?_⟩,?_,fun x c e=>?_,?_,fun x c e=>?_,fun p hp=>?_,hok,I.len⟩
 ·exact keep b o (neL b o e) hb (neC b o e hx) (I.base.keep b o e n hb hx) (I.base.free b o e n hx)
 ·obtain ⟨sl,e1⟩:=I.base.slot b o e n hb hx
  obtain ⟨sl',e2⟩:=slot b _ (neL b o e) hb (neC b o e hx) e1 (I.base.free b o e n hx)
  exact ⟨sl',e2⟩
 ·obtain ⟨o',e1⟩:=I.base.there b o e hx
  exact free b o' (neC b o e hx) e1 (I.base.free b o e n hx)
 ·obtain ⟨o',e1⟩:=I.base.there b o e hx
  exact there b o' (neC b o e hx) e1
 ·obtain ⟨m1,e1⟩:=I.base.tbls b ps e
  obtain ⟨m2,e2⟩:=tbls b _ e1
  exact ⟨m1++m2,by rw [e2,Array.append_assoc]⟩
 ·obtain ⟨m,hn,hl⟩:=I.loc
  refine ⟨m,ns m hn,fun i x v e1 e2 e3=>?_⟩
  obtain ⟨u,r,l⟩:=hl i x v e1 e2 e3
  refine ⟨u,r,?_⟩
  rcases l with l | ⟨k,c,e,z⟩
  ·exact .inl l
  ·exact .inr ⟨k,c,e,cellK x c e _ z⟩
 ·obtain ⟨v,z⟩:=I.cell x c e
  exact ⟨v,cellK x c e v z⟩
 ·obtain ⟨m,⟨o,_,_,ho,_⟩,_⟩:=I.loc
  exact free _ o (fun z=>(hch _ z).2.1 rfl) ho I.free
 ·obtain ⟨v,o,ho,hd⟩:=I.cell x c e
  exact free c o (fun z=>(hch c z).2.2.1 x c e rfl) ho (I.freeC x c e)
 ·obtain ⟨e,n,ne,nf,d⟩:=I.pin p hp
  have nch:p.1 ∉ ch:=fun z=>(hch p.1 z).2.2.2 p hp rfl
  exact ⟨keep p.1 p.2 ne nf nch e n,free p.1 p.2 nch e n,ne,nf,d⟩
theorem Inv.un {t':Nat}(I:Inv X pins σ H s)(u:Un X.fs [] H H' s.heap h')(hok:HOk X.prog X.w H' h'):Inv X pins σ H' { s with heap:=h',toks:=t' }:=by
 obtain ⟨m,⟨o,es,ep,ho,r⟩,_⟩:=id I.loc
 obtain ⟨sl,hL⟩:=u.any ho I.free (by simp)
 exact I.step (g':=s.gens) (d':=s.drawn) (ch:=[]) (fun _ z=>nomatch z) (fun b o _ hb _ e n=>u.keep b o e n hb (by simp)) (fun b o _ hb _ e n=>u.slot b o e n hb (by simp)) (fun b o _ e n=>u.free b o e n (by simp)) (fun b o _ e=>u.there b o e (by simp)) u.tups u.frzs u.tbls (fun m' hm=>by
  obtain ⟨o',es',ep',ho',r'⟩:=hm
  rw [ho] at ho';cases ho'
  exact ⟨_,es',ep',hL,r'⟩) hok I.bare
theorem Inv.call {g':Array GenState}{t':Nat}{d':Drawn}{ch:List Addr}(I:Inv X pins σ H s)(u:Un (VT X.stack) ch H H' s.heap h')(hok:HOk X.prog X.w H' h')(hg:AllBare g')
 (hch:∀ b∈ch,(b∈X.ex\/X.s₀.heap.objs.size<=b)/\b≠X.env.locals/\(∀ x c,X.env.cells.lookup x=some c->c≠b)/\∀ p∈X.pn++pins,p.1≠b) :
 Inv X pins σ H' { s with heap:=h',gens:=g',drawn:=d',toks:=t' }:=by
 obtain ⟨m,⟨o,es,ep,ho,r⟩,_⟩:=id I.loc
 obtain ⟨sl,hL⟩:=u.any ho I.free fun z=>(hch _ z).2.1 rfl
 exact I.step (ch:=ch) hch (fun b o hL hb hc e n=>u.keep b o e n (fun z=>(mem_cons.mp (I.stkSub b z)).elim hL hb) hc) (fun b o _ _ hc e n=>u.any e n hc) (fun b o hc e n=>u.free b o e n hc) (fun b o hc e=>u.there b o e hc) u.tups u.frzs u.tbls (fun m' hm=>by
  obtain ⟨o',es',ep',ho',r'⟩:=hm
  rw [ho] at ho';cases ho'
  exact ⟨_,es',ep',hL,r'⟩) hok hg
theorem Inv.turned {t':Nat}{it:Addr}(I:Inv X pins σ H s)(k:∀ b o,b≠it->s.heap.get? b=some o->h'.get? b=some o)(hn:H it=none)(hL:it≠X.env.locals)
 (h1:it∈X.ex\/X.s₀.heap.objs.size<=it) (h2:∀ x c,X.env.cells.lookup x=some c->c≠it) (h3:∀ p∈X.pn++pins,p.1≠it):Inv X pins σ H { s with heap:=h',toks:=t' }:=by
 have nit:∀ b u,H b=some u->b≠it:=fun b u e z=>by rw [z,hn] at e;cases e
 refine I.step (g':=s.gens) (d':=s.drawn) (ch:=[it]) (fun b hb=>?_) (fun b o _ _ hc e _=>k b o (fun z=>hc (by simp [z])) e) (fun b o _ _ hc e _=>⟨o.slots,k b o (fun z=>hc (by simp [z])) e⟩) (fun _ _ _ _ n=>n)
  (fun b o hc e=>⟨o,k b o (fun z=>hc (by simp [z])) e⟩) (fun _ _ e=>e) (fun _ _ _ e=>e) (fun b ps e=>⟨#[],by rw [e];simp⟩) (fun m hm=>?_) (fun b u e=>?_) I.bare
 ·have e:b=it:=by simpa using hb
  subst e
  exact ⟨h1,hL,h2,h3⟩
 ·obtain ⟨o,es,ep,ho,r⟩:=hm
  exact ⟨o,es,ep,k _ o (Ne.symm hL) ho,r⟩
 ·refine (I.hok b u e).stay (fun c v hc q=>k c v ?_ q) (fun _ q=>q) fun _ _ q=>q
  rcases hc with z | z
  ·rw [z];exact nit b u e
  ·exact nit c _ z
theorem Inv.tok (I:Inv X pins σ H s)(t:Nat):Inv X pins σ H { s with toks:=t }:=I.un (h':=s.heap) (t':=t) Un.refl I.hok
theorem Inv.kept {t':Nat}(I:Inv X pins σ H s)(k:∀ b u,s.heap.get? b=some u->h'.get? b=some u):Inv X pins σ H { s with heap:=h',toks:=t' }:=I.un (Un.kept k) (I.hok.kept k)
theorem Inv.laid {a:Addr}{o:HO}{t':Nat}(I:Inv X pins σ H s)(k:∀ b u,s.heap.get? b=some u->h'.get? b=some u)(hp:s.heap.objs.size<=a)(new:ObjOk X.prog X.w (upd H a o) h' a o) :
 Inv X pins σ (upd H a o) { s with heap:=h',toks:=t' }:=I.un (Un.laid k hp (I.hok.fresh hp)) (I.hok.laid k hp new)
theorem Inv.write {x e:Addr}{o:HO}{t':Nat}(I:Inv X pins σ H s)(mu:Mut (H x))(he:e=x\/H e=some (.own x))(k:∀ b u,b≠e->s.heap.get? b=some u->h'.get? b=some u)(heo:∃ u,h'.get? e=some u)
 (new:ObjOk X.prog X.w (upd H x o) h' x o):Inv X pins σ (upd H x o) { s with heap:=h',toks:=t' }:=I.un (Un.write mu he k heo) (I.hok.write mu he k heo new)
theorem Inv.pins_of {pins':List (Addr×Obj)}(I:Inv X pins σ H s)(h:∀ p∈pins',s.heap.get? p.1=some p.2/\H p.1=none/\p.1≠X.env.locals/\p.1 ∉ X.fs/\∀ v,p.2.data≠.cell v):Inv X pins' σ H s :=
 ⟨I.ok,I.os,I.bare,I.base,I.loc,I.cell,I.free,I.freeC,fun p hp=>(mem_append.mp hp).elim (fun z=>I.pin p (List.mem_append_left _ z)) (h p),I.hok,I.len⟩
theorem Zdw {N:List Str}(hN:N.Nodup){i j:Nat}{x:Str}(a:N[i]?=some x)(b:N[j]?=some x):i=j:=by
 obtain ⟨h1,e1⟩:=List.getElem?_eq_some_iff.mp a
 obtain ⟨h2,e2⟩:=List.getElem?_eq_some_iff.mp b
 exact (List.getElem_inj hN).mp (e1.trans e2.symm)
theorem VN {M:Model}{A:Around}{E:ZB}{i:Nat}{x:Str}{v:V}{u:Value}{Q:Unit->Shared->Prop}(I:Inv X pins σ H s)(hN:X.N.Nodup)(hi:X.N[i]?=some x)(hx:Loc X.env.scope x)(r:RelV v u)
 (h:∀ s',Inv X pins (σ.set i (some v)) H s'->(∃ a,Heap.SameBut a s.heap s'.heap/\(a=X.env.locals\/X.env.cells.lookup x=some a))->Q () s') (hf:X.fn x=true\/X.env.scope.names.lookup x=some .local:=by first | exact .inl rfl | exact .inr rfl | assumption):wpAny M A (storeName X.env x u) Q E s:=by
 obtain ⟨m,hn,hl⟩:=id I.loc
 have hcls:(X.env.scope.kind == .class || (X.env.scope.kind == .module&&X.env.locals != X.env.globals))=false:=by rw [I.ok.kind];rfl
 have hiσ:i < σ.length:=by rw [I.len];exact (List.getElem?_eq_some_iff.mp hi).1
 have cne:=I.cne
 have tracked:∀ {a:Addr} {h':Heap},(∃ o,s.heap.get? a=some o/\H a=none)->Heap.SameBut a s.heap h'->HOk X.prog X.w H h':=fun {a h'} ha hs b ob e=>by
  obtain ⟨_,_,hfree⟩:=ha
  refine (I.hok b ob e).stay (fun c w' hc q=>(hs.2 c ?_).trans q) (fun _ q=>q) fun _ _ q=>q
  rintro rfl
  rcases hc with rfl | hc
  ·rw [hfree] at e;cases e
  ·rw [hfree] at hc;cases hc
 rcases hx with hk | hk
 ·refine wpAny_storeName_local hk hn (fun h' hn' hs=>?_) hcls
  obtain ⟨oL,_,_,hoL,_⟩:=id hn
  refine h _ ⟨I.ok,I.os,I.bare,⟨fun b o e n hb hx=>?_,fun b o e n hb hx=>?_,I.base.free,fun b o e hx=>?_,I.base.tups,I.base.frzs,I.base.tbls⟩,⟨_,hn',fun j y v' e1 e2 e3=>?_⟩,fun y c e=>?_,I.free,I.freeC,fun p hp=>?_,tracked ⟨oL,hoL,I.free⟩ hs,by simpa using I.len⟩ ⟨_,hs,.inl rfl⟩
  ·exact (hs.2 b (Nat.ne_of_lt (Nat.lt_of_lt_of_le (Heap.lt_size e) I.ok.above))).trans (I.base.keep b o e n hb hx)
  ·obtain ⟨sl,e1⟩:=I.base.slot b o e n hb hx
   exact ⟨sl,(hs.2 b (Nat.ne_of_lt (Nat.lt_of_lt_of_le (Heap.lt_size e) I.ok.above))).trans e1⟩
  ·obtain ⟨o',e1⟩:=I.base.there b o e hx
   exact ⟨o',(hs.2 b (Nat.ne_of_lt (Nat.lt_of_lt_of_le (Heap.lt_size e) I.ok.above))).trans e1⟩
  ·by_cases hj:j=i
   ·subst hj
    rw [hi] at e1;cases e1
    rw [List.getElem?_set_self hiσ] at e2
    cases e2
    exact ⟨u,r,.inl ⟨hk,by simp⟩⟩
   ·rw [List.getElem?_set_ne (Ne.symm hj)] at e2
    obtain ⟨u',r',q⟩:=hl j y v' e1 e2 e3
    refine ⟨u',r',?_⟩
    rcases q with ⟨k,e⟩ | ⟨k,c,e,z⟩
    ·refine .inl ⟨k,?_⟩
     have:y≠x:=fun e=>hj (Zdw hN e1 (e ▸ hi))
     simp [this,e]
    ·exact .inr ⟨k,c,e,z.sameBut hs (cne y c e)⟩
  ·obtain ⟨w',z⟩:=I.cell y c e
   exact ⟨w',z.sameBut hs (cne y c e)⟩
  ·obtain ⟨e,n,ne,nf,d⟩:=I.pin p hp
   exact ⟨(hs.2 p.1 ne).trans e,n,ne,nf,d⟩
 ·have hfn:X.fn x=true:=by
   rcases hf with z | z
   ·exact z
   ·rw [z] at hk;cases hk
  obtain ⟨c,hc⟩:=I.ok.has x (.inl hk)
  obtain ⟨w',z⟩:=I.cell x c hc
  refine wpAny_storeName_cell I.ok.kind hk hc z (fun h' hc' hs=>?_)
  obtain ⟨oc,hoc,hocd⟩:=id z
  refine h { s with heap:=h' } ⟨I.ok,I.os,I.bare,⟨fun b o e n hb hx=>?_,fun b o e n hb hx=>?_,I.base.free,fun b o e hx=>?_,I.base.tups,I.base.frzs,I.base.tbls⟩,⟨m,hn.sameBut hs (Ne.symm (cne x c hc)),fun j y v' e1 e2 e3=>?_⟩,fun y c' e=>?_,I.free,I.freeC,fun p hp=>?_,tracked ⟨oc,hoc,I.freeC x c hc⟩ hs,by simpa using I.len⟩ ⟨c,hs,.inr hc⟩
  ·exact (hs.2 b (Nat.ne_of_lt (Nat.lt_of_lt_of_le (Heap.lt_size e) (I.ok.cab x c hfn hc)))).trans (I.base.keep b o e n hb hx)
  ·obtain ⟨sl,e1⟩:=I.base.slot b o e n hb hx
   exact ⟨sl,(hs.2 b (Nat.ne_of_lt (Nat.lt_of_lt_of_le (Heap.lt_size e) (I.ok.cab x c hfn hc)))).trans e1⟩
  ·obtain ⟨o',e1⟩:=I.base.there b o e hx
   exact ⟨o',(hs.2 b (Nat.ne_of_lt (Nat.lt_of_lt_of_le (Heap.lt_size e) (I.ok.cab x c hfn hc)))).trans e1⟩
  ·by_cases hj:j=i
   ·subst hj
    rw [hi] at e1;cases e1
    rw [List.getElem?_set_self hiσ] at e2
    cases e2
    exact ⟨u,r,.inr ⟨.inl hk,c,hc,hc'⟩⟩
   ·rw [List.getElem?_set_ne (Ne.symm hj)] at e2
    obtain ⟨u',r',q⟩:=hl j y v' e1 e2 e3
    refine ⟨u',r',?_⟩
    rcases q with q | ⟨k,c',e,z'⟩
    ·exact .inl q
    ·refine .inr ⟨k,c',e,z'.sameBut hs ?_⟩
     rintro rfl
     exact hj (Zdw hN e1 (I.ok.inj _ _ _ e hc ▸ hi))
  ·by_cases hcc:c'=c
   ·subst hcc;exact ⟨_,hc'⟩
   ·obtain ⟨w2,z2⟩:=I.cell y c' e
    exact ⟨w2,z2.sameBut hs hcc⟩
  ·obtain ⟨e,n,ne,nf,d⟩:=I.pin p hp
   refine ⟨(hs.2 p.1 ?_).trans e,n,ne,nf,d⟩
   intro q
   rw [q,hoc] at e
   have q':oc=p.2:=Option.some.inj e
   exact d w' (by rw [<- q'];exact hocd)
theorem Xz {M:Model}{A:Around}{E:ZB}{i:Nat}{x:Str}{v:V}{u:Value}{Q:Unit->Shared->Prop}(I:Inv X pins σ H s)(hN:X.N.Nodup)(hi:X.N[i]?=some x)(hx:Loc X.env.scope x)(r:RelV v u)
 (h:∀ s',Inv X pins (σ.set i (some v)) H s'->Q () s') (hf:X.fn x=true\/X.env.scope.names.lookup x=some .local:=by first | exact .inl rfl | exact .inr rfl | assumption):wpAny M A (storeName X.env x u) Q E s :=
 VN I hN hi hx r (fun s' I' _=>h s' I') hf
theorem Inv.call' {s':Shared}{ch:List Addr}(I:Inv X pins σ H s)(ho:s'.os=s.os)(u:Un (VT X.stack) ch H H' s.heap s'.heap)(hok:HOk X.prog X.w H' s'.heap)(hg:AllBare s'.gens)
 (hch:∀ b∈ch,(b∈X.ex\/X.s₀.heap.objs.size<=b)/\b≠X.env.locals/\(∀ x c,X.env.cells.lookup x=some c->c≠b)/\∀ p∈X.pn++pins,p.1≠b):Inv X pins σ H' s':=by
 obtain ⟨h',g',d',t',o'⟩:=s'
 have e:o'=s.os:=ho
 subst e
 exact I.call (g':=g') (t':=t') (d':=d') u hok hg hch
end
abbrev XK:=Value->Option Addr->Hp->Prop
abbrev St:=List (Option V)
abbrev VK:=V->Hp->Prop
abbrev TE:=St->Hp->VK->Prop
abbrev TT:=St->Hp->(Bool->Hp->Prop)->Prop
abbrev TA:=St->Hp->(List V->Hp->Prop)->Prop
structure UA where
 nx:St->Hp->Prop
 rt:VK
 bk:St->Hp->Prop:=fun _ _=>False
 ct:St->Hp->Prop:=fun _ _=>False
abbrev TS:=UA->St->Hp->Prop
def EP (X:Cx)(pins:List (Addr×Obj))(σ:St)(Q:VK)(u:Value)(s':Shared):Prop:=∃ v H',Inv X pins σ H' s'/\RelV v u/\Q v H'
def TP (X:Cx)(pins:List (Addr×Obj))(σ:St)(Q:Bool->Hp->Prop)(b:Bool)(s':Shared):Prop:=∃ H',Inv X pins σ H' s'/\Q b H'
def AP (X:Cx)(pins:List (Addr×Obj))(σ:St)(Q:List V->Hp->Prop)(us:List Value)(s':Shared):Prop:=∃ vs H',Inv X pins σ H' s'/\Vals vs us/\Q vs H'
def SP (X:Cx)(pins:List (Addr×Obj))(D:UA)(f:Flow)(s':Shared):Prop :=
 match f with
 | .next=>∃ σ' H',Inv X pins σ' H' s'/\D.nx σ' H'
 | .brk=>∃ σ' H',Inv X pins σ' H' s'/\D.bk σ' H'
 | .cont=>∃ σ' H',Inv X pins σ' H' s'/\D.ct σ' H'
 | .ret u=>∃ v σ' H',Inv X pins σ' H' s'/\RelV v u/\D.rt v H'
def PE (X:Cx)(e:Expr)(t:TE):Prop :=
 ∀ (pins:List (Addr×Obj)) (s:Shared) (σ:St) (H:Hp) (Q:VK),Inv X pins σ H s->t σ H Q->wpAny (model X.prog X.w) X.A (eval e X.env) (EP X pins σ Q) X.xe s
def PT (X:Cx)(e:Expr)(t:TT):Prop :=
 ∀ (pins:List (Addr×Obj)) (s:Shared) (σ:St) (H:Hp) (Q:Bool->Hp->Prop),Inv X pins σ H s->t σ H Q->wpAny (model X.prog X.w) X.A (isTrue e X.env (eval e X.env)) (TP X pins σ Q) X.xe s
def PW (X:Cx)(e:Expr)(t:TT):Prop :=
 ∀ (whole:Sem Value) (pins:List (Addr×Obj)) (s:Shared) (σ:St) (H:Hp) (Q:Bool->Hp->Prop),Inv X pins σ H s->t σ H Q->wpAny (model X.prog X.w) X.A (isTrue e X.env whole) (TP X pins σ Q) X.xe s
theorem PW.pt {X:Cx}{e:Expr}{t:TT}(h:PW X e t):PT X e t:=h _
def PA (X:Cx)(es:List Expr)(t:TA):Prop :=
 ∀ (pos:Pos) (pins:List (Addr×Obj)) (s:Shared) (σ:St) (H:Hp) (Q:List V->Hp->Prop),Inv X pins σ H s->t σ H Q->wpAny (model X.prog X.w) X.A (spliced (backTo pos (starEach es X.env))) (AP X pins σ Q) X.xe s
def PS (X:Cx)(st:Stmt)(t:TS):Prop :=
 ∀ (pins:List (Addr×Obj)) (s:Shared) (σ:St) (H:Hp) (D:UA),Inv X pins σ H s->t D σ H->wpAny (model X.prog X.w) X.A (exec st X.env) (SP X pins D) X.xe s
def PSs (X:Cx)(st:List Stmt)(t:TS):Prop :=
 ∀ (pins:List (Addr×Obj)) (s:Shared) (σ:St) (H:Hp) (D:UA),Inv X pins σ H s->t D σ H->wpAny (model X.prog X.w) X.A (execs st X.env) (SP X pins D) X.xe s
theorem Zn {α:Type}{t:Sem α}{Q Q':α->Shared->Prop}{M:Model}{A:Around}{E:ZB}{s:Shared}(h:wpAny M A t Q E s)(hQ:∀ a s,Q a s->Q' a s):wpAny M A t Q' E s:=wpAny_mono h hQ fun _ _ x=>x
section
variable {X:Cx}
def Zdx (i:Nat):TE:=fun σ H Q=>∃ v,σ[i]?=some (some v)/\Q v H
def tC (v:V):TE:=fun _ H Q=>Q v H
theorem ZmM {i:Nat}{x:Str}{pos:Pos}(hN:X.N[i]?=some x)(hv:Vis X.env.scope x)(hd:(x == ("__debug__":Str))=false:=by decide)(hcd:(x == ("__classdict__":Str))=false:=by decide):PE X (.Name x pos) (Zdx i):=by
 intro pins s σ H Q I h
 obtain ⟨v,e,h⟩:=h
 obtain ⟨m,hn,hl⟩:=I.loc
 obtain ⟨u,r,l⟩:=hl i x v hN e hv
 have fin:EP X pins σ Q u s:=⟨v,H,I,r,h⟩
 rcases l with ⟨hk,hm⟩ | ⟨hk,c,hc,hcell⟩
 ·exact wpAny_Name (wpAny_loadName_local I.ok.kind hk hn hm fin) hd
 ·rcases hk with hk | hk
  ·exact wpAny_Name (wpAny_loadName_cell I.ok.kind hk hc hcell fin) hd
  ·exact wpAny_Name (wpAny_loadName_free I.ok.kind hk hc hcell fin hcd) hd
theorem Ze {i j pos}:PE X (.Constant (.int i) j pos) (tC (.int i)):=fun _ _ _ H _ I h=>wpAny_Constant_int ⟨.int i,H,I.tok _,⟨_,rfl⟩,h⟩
theorem Vc {b j pos}:PE X (.Constant (.bool b) j pos) (tC (.bl b)):=fun _ _ _ H _ I h=>Constant_bool ⟨.bl b,H,I,rfl,h⟩
theorem VP {j pos}:PE X (.Constant .none j pos) (tC .non):=fun _ _ _ H _ I h=>Constant_none ⟨.non,H,I,rfl,h⟩
theorem ZS {x j pos}:PE X (.Constant (.str x) j pos) (tC (.str x)):=fun _ _ _ H _ I h=>Calls.Constant_str ⟨.str x,H,I.tok _,⟨_,rfl⟩,h⟩
def Gl (X:Cx)(x:Str):Prop:=X.env.kindOf x=some .globalImplicit
theorem ZbF {E:ZB}{pins:List (Addr×Obj)}{s:Shared}{σ:St}{H:Hp}{x:Str}{u:Value}{pos:Pos}{Q:ZB}(I:Inv X pins σ H s)(hg:Gl X x)(hm:X.mg x=some u)(h:Q u s)
 (hd:(x == ("__debug__":Str))=false:=by decide):wpAny (model X.prog X.w) X.A (eval (.Name x pos) X.env) Q E s :=
 Calls.Name_function_global I.ok.kind hg (Calls.loadGlobal_global (by rw [I.ok.glob];exact I.mod.glob.keeps I.bk) hm h) hd
theorem WC {E:ZB}{pins:List (Addr×Obj)}{s:Shared}{σ:St}{H:Hp}{x:Str}{u:Value}{pos:Pos}{Q:ZB}(I:Inv X pins σ H s)(hg:Gl X x)(hm:X.mg x=none)(hv:bootBuiltins x=some u)(h:Q u s)
 (hn:x≠"__name__":=by decide) (hd:(x == ("__debug__":Str))=false:=by decide):wpAny (model X.prog X.w) X.A (eval (.Name x pos) X.env) Q E s:=by
 obtain ⟨mb,h1,h2⟩:=I.mod.blt
 exact Calls.Name_function_global I.ok.kind hg (Calls.loadGlobal_builtin (by rw [I.ok.glob];exact I.mod.glob.keeps I.bk) hm (by rw [I.ok.blt];exact h1.keeps I.bk) ((h2 x hn).trans hv) h) hd
theorem Xu {x:Str}{v:V}{u:Value}{pos:Pos}(hg:Gl X x)(hm:X.mg x=some u)(r:RelV v u)(hd:(x == ("__debug__":Str))=false:=by decide):PE X (.Name x pos) (tC v) :=
 fun _ _ _ H _ I h=>ZbF I hg hm ⟨v,H,I,r,h⟩ hd
theorem WQ {x:Str}{v:V}{u:Value}{pos:Pos}(hg:Gl X x)(hm:X.mg x=none)(hv:bootBuiltins x=some u)(r:RelV v u)(hn:x≠"__name__":=by decide)(hd:(x == ("__debug__":Str))=false:=by decide):PE X (.Name x pos) (tC v) :=
 fun _ _ _ H _ I h=>WC I hg hm hv ⟨v,H,I,r,h⟩ hn hd
variable {a b:Expr}{ta tb:TE}{pos:Pos}
def PC (X:Cx)(op:CmpOp)(a b:Expr)(t:TE):Prop :=
 ∀ (pins:List (Addr×Obj)) (s:Shared) (σ:St) (H:Hp) (Q:VK),Inv X pins σ H s->t σ H Q ->
  wpAny (model X.prog X.w) X.A (eval a X.env) (fun v s₁=>wpAny (model X.prog X.w) X.A (eval b X.env) (fun u s₂=>wpAny (model X.prog X.w) X.A (compareOp op v u) (EP X pins σ Q) X.xe s₂) X.xe s₁) X.xe s
theorem Zdj (b:Expr){op:CmpOp}(h:op≠.In)(h2:op≠.NotIn):behindInMarks op b=false:=by
 have e1:(op == CmpOp.In)=false:=by cases op<;>first | rfl | exact absurd rfl h
 have e2:(op == CmpOp.NotIn)=false:=by cases op<;>first | rfl | exact absurd rfl h2
 cases b<;>simp [behindInMarks,e1,e2]
def tIsN (ta:TE):TE:=fun σ H Q=>ta σ H fun x H1=>Q (.bl (decide (x=.non))) H1
theorem RelV.none_iff {x:V}{v:Value}(r:RelV x v):(v == Value.none)=decide (x=.non):=by
 cases x with
 | non=>cases r;rfl
 | bl _=>cases r;rfl
 | int _=>obtain ⟨t,rfl⟩:=r;rfl
 | str _=>obtain ⟨t,rfl⟩:=r;rfl
 | byt _=>obtain ⟨t,rfl⟩:=r;rfl
 | flt _=>obtain ⟨t,rfl⟩:=r;rfl
 | ref _=>cases r;rfl
 | ty _=>cases r;rfl
theorem Zdh {j pos'}(ha:PE X a ta):PC X .Is a (.Constant .none j pos') (tIsN ta):=by
 intro pins s σ H Q I h
 refine Zn (ha pins s σ H _ I h) fun v s1 ⟨x,H1,I1,r1,q1⟩=>?_
 exact Constant_none (is_none_gen ⟨.bl _,H1,I1,by rw [r1.none_iff];rfl,q1⟩)
def tB (t:TE):TT:=fun σ H Q=>t σ H fun x H1=>∃ c,x=.bl c/\Q c H1
theorem Zgv {op:CmpOp}{t:TE}(h:PC X op a b t)(h1:behindInMarks op b=false:=by first | exact Zdj _ (by decide) (by decide) | rfl):PE X (.Compare a [op] [b] pos) t:=fun pins s σ H Q I hw=>wpAny_Compare1 (h pins s σ H Q I hw) h1
theorem ZdV {op:CmpOp}{t:TE}(h:PC X op a b t)(h1:behindInMarks op b=false:=by first | exact Zdj _ (by decide) (by decide) | rfl):PT X (.Compare a [op] [b] pos) (tB t):=by
 intro pins s σ H Q I hw
 refine wpAny_isTrue_Compare1 (Zn (h pins s σ H _ I hw) fun v s1 h1=>Zn h1 fun u s2 h2=>Zn h2 fun c s3 ⟨x,H1,I1,r1,q1⟩=>?_) h1
 obtain ⟨d,rfl,q⟩:=q1
 cases r1
 exact wpAny_truthy_bool ⟨H1,I1,q⟩
theorem XR {e:Expr}{t:TE}(h:PE X e t)(he:∀ whole,isTrue e X.env whole=(do let v <- whole;standAt e.pos;holding [v] (truthy v)):=by intro _;rfl):PT X e (tB t):=by
 intro pins s σ H Q I hw
 refine isTrue_plain (Zn (h pins s σ H _ I hw) fun v s1 ⟨x,H1,I1,r1,q1⟩=>?_) (he _)
 obtain ⟨d,rfl,q⟩:=q1
 cases r1
 exact wpAny_truthy_bool ⟨H1,I1,q⟩
variable {tA tB':TT}{rest:List Expr}
def tAnd (t u:TT):TT:=fun σ H Q=>t σ H fun c H1=>if c=true then u σ H1 Q else Q false H1
def tOr (t u:TT):TT:=fun σ H Q=>t σ H fun c H1=>if c=true then Q true H1 else u σ H1 Q
def tNot (t:TT):TT:=fun σ H Q=>t σ H fun c H1=>Q (!c) H1
theorem ZeL (ha:PT X a tA):PW X (.BoolOp .And [a] pos) tA:=by
 intro wh pins s σ H Q I h
 refine isTrue_and (Zn (ha pins s σ H Q I h) fun c s1 e=>?_)
 cases c with
 | true=>exact isTrue_and_nil e
 | false=>exact e
theorem ZaU (ha:PT X a tA):PW X (.BoolOp .Or [a] pos) tA:=by
 intro wh pins s σ H Q I h
 refine isTrue_or (Zn (ha pins s σ H Q I h) fun c s1 e=>?_)
 cases c with
 | false=>exact isTrue_or_nil e
 | true=>exact e
theorem Zic (ha:PT X a tA)(hb:PW X (.BoolOp .And (b::rest) pos) tB'):PW X (.BoolOp .And (a::b::rest) pos) (tAnd tA tB'):=by
 intro wh pins s σ H Q I h
 refine isTrue_and (Zn (ha pins s σ H _ I h) fun c s1 ⟨H1,I1,q1⟩=>?_)
 cases c with
 | true=>exact hb wh pins s1 σ H1 Q I1 q1
 | false=>exact ⟨H1,I1,q1⟩
theorem ZcX (ha:PT X a tA)(hb:PW X (.BoolOp .Or (b::rest) pos) tB'):PW X (.BoolOp .Or (a::b::rest) pos) (tOr tA tB'):=by
 intro wh pins s σ H Q I h
 refine isTrue_or (Zn (ha pins s σ H _ I h) fun c s1 ⟨H1,I1,q1⟩=>?_)
 cases c with
 | true=>exact ⟨H1,I1,q1⟩
 | false=>exact hb wh pins s1 σ H1 Q I1 q1
theorem XQ (ha:PT X a tA):PT X (.UnaryOp .Not a pos) (tNot tA):=by
 intro pins s σ H Q I h
 exact isTrue_not (ha pins s σ H (fun c H1=>Q (!c) H1) I h)
def ZnY (ta tb:TE):TE:=fun σ H Q=>ta σ H fun x H1=>∃ c,x=.bl c/\if c=true then tb σ H1 Q else Q (.bl false) H1
def ZnF (ta:TE):TE:=fun σ H Q=>ta σ H fun x H1=>∃ c,x=.bl c/\Q (.bl (!c)) H1
theorem UJ {op}{t:TE}(h:PE X a t):PE X (.BoolOp op [a] pos) t:=fun pins s σ H Q I hw=>BoolOp_one (h pins s σ H Q I hw)
theorem WG (ha:PE X a ta)(hb:PE X (.BoolOp .And (b::rest) pos) tb):PE X (.BoolOp .And (a::b::rest) pos) (ZnY ta tb):=by
 intro pins s σ H Q I h
 refine BoolOp_and (Zn (ha pins s σ H _ I h) fun v s1 ⟨x,H1,I1,r1,q1⟩=>?_)
 obtain ⟨c,rfl,q1⟩:=q1
 cases r1
 refine wpAny_truthy_bool ?_
 cases c with
 | true=>exact hb pins s1 σ H1 Q I1 q1
 | false=>exact ⟨.bl false,H1,I1,rfl,q1⟩
theorem Zmu (ha:PE X a ta):PE X (.UnaryOp .Not a pos) (ZnF ta):=by
 intro pins s σ H Q I h
 refine UnaryOp_ (Zn (ha pins s σ H _ I h) fun v s1 ⟨x,H1,I1,r1,q1⟩=>?_)
 obtain ⟨c,rfl,q1⟩:=q1
 cases r1
 exact not_of (wpAny_truthy_bool ⟨.bl (!c),H1,I1,rfl,q1⟩)
def tIf (t:TT)(ta tb:TE):TE:=fun σ H Q=>t σ H fun c H1=>if c=true then ta σ H1 Q else tb σ H1 Q
theorem WX {c:Expr}(hc:PT X c tA)(ha:PE X a ta)(hb:PE X b tb):PE X (.IfExp c a b pos) (tIf tA ta tb):=by
 intro pins s σ H Q I h
 refine wpAny_IfExp (Zn (hc pins s σ H _ I h) fun d s1 ⟨H1,I1,q1⟩=>?_)
 cases d with
 | true=>exact ha pins s1 σ H1 Q I1 q1
 | false=>exact hb pins s1 σ H1 Q I1 q1
end
def SqL (K:KF)(H:Hp)(a:Addr)(xs:List V):Prop :=
 Rd H a (.lst xs) \/
  ∃ (o:Obj) (its:Array Value) (n:Nat),K.lookup a=some o/\o.cls=.type "list"/\o.dict=none/\o.data=.seq its n/\its.size<=sizeLine/\Vals xs its.toList
def SqT (K:KF)(H:Hp)(a:Addr)(xs:List V):Prop :=
 Rd H a (.tup xs) \/
  ∃ (o:Obj) (its:Array Value) (n:Nat),K.lookup a=some o/\o.cls=.type "tuple"/\o.data=.seq its n/\its.size<=sizeLine/\Vals xs its.toList
def Zfx:Value->Option V
 | .none=>some .non
 | .bool b=>some (.bl b)
 | .int i _=>some (.int i)
 | .str x _=>some (.str x)
 | .bytes b _=>some (.byt b)
 | .float b _=>some (.flt b)
 | .ref a=>some (.ref a)
 | .type n=>some (.ty n)
 | _=>none
theorem RelV.abs {x:V}{u:Value}(r:RelV x u):Zfx u=some x:=by
 cases x with
 | non=>cases r;rfl
 | bl _=>cases r;rfl
 | int _=>obtain ⟨t,rfl⟩:=r;rfl
 | str _=>obtain ⟨t,rfl⟩:=r;rfl
 | byt _=>obtain ⟨t,rfl⟩:=r;rfl
 | flt _=>obtain ⟨t,rfl⟩:=r;rfl
 | ref _=>cases r;rfl
 | ty _=>cases r;rfl
theorem RelV.inj {x y:V}{u:Value}(r:RelV x u)(q:RelV y u):x=y:=Option.some.inj (r.abs.symm.trans q.abs)
theorem Vals.inj:∀{xs ys:List V}{us:List Value},Vals xs us->Vals ys us->xs=ys
 | _,_,_,.nil,.nil=>rfl
 | _,_,_,.cons r t,.cons r' t'=>by rw [r.inj r',Vals.inj t t']
section
variable {X:Cx}{pins:List (Addr×Obj)}{σ:St}{H:Hp}{s:Shared}{a:Addr}{xs ys:List V}
theorem SqL.of {K:KF}(h:H a=some (.lst xs)):SqL K H a xs:=.inl (.inl h)
theorem SqT.of {K:KF}(h:H a=some (.tup xs)):SqT K H a xs:=.inl (.inl h)
theorem Inv.list (I:Inv X pins σ H s)(h:SqL X.K H a xs):∃ its:List Value,Vals xs its/\PlainL s.heap a its.toArray/\xs.length<=sizeLine:=by
 rcases h with h | ⟨o,its,n,hk,hc,hd,hs,hz,r⟩
 ·obtain ⟨z,its,n,r,e⟩:=h.ok I.hok
  exact ⟨its,r,⟨_,n,e,rfl,rfl,rfl⟩,z⟩
 ·refine ⟨its.toList,r,⟨o,n,I.kIn a o hk,hc,hd,by simpa using hs⟩,?_⟩
  have e:=r.length
  simp only [Array.length_toList] at e
  omega
theorem Inv.tuple (I:Inv X pins σ H s)(h:SqT X.K H a xs):∃ its:List Value,Vals xs its/\IsTup s.heap a its.toArray/\xs.length<=sizeLine:=by
 rcases h with h | ⟨o,its,n,hk,hc,hs,hz,r⟩
 ·obtain ⟨z,its,r,p⟩:=h.ok I.hok
  exact ⟨its,r,p,z⟩
 ·refine ⟨its.toList,r,⟨o,I.kIn a o hk,hc,n,by simpa using hs⟩,?_⟩
  have e:=r.length
  simp only [Array.length_toList] at e
  omega
theorem Inv.list_inj (I:Inv X pins σ H s)(h:SqL X.K H a xs)(h':SqL X.K H a ys):xs=ys:=by
 obtain ⟨its,r,⟨o,n,e,_,_,d⟩,_⟩:=I.list h
 obtain ⟨its',r',⟨o',n',e',_,_,d'⟩,_⟩:=I.list h'
 rw [e] at e';cases e'
 rw [d] at d'
 injection d' with d1 _
 have:its=its':=by simpa using congrArg Array.toList d1
 subst this
 exact r.inj r'
theorem Inv.tuple_inj (I:Inv X pins σ H s)(h:SqT X.K H a xs)(h':SqT X.K H a ys):xs=ys:=by
 obtain ⟨its,r,⟨o,e,_,n,d⟩,_⟩:=I.tuple h
 obtain ⟨its',r',⟨o',e',_,n',d'⟩,_⟩:=I.tuple h'
 rw [e] at e';cases e'
 rw [d] at d'
 injection d' with d1 _
 have:its=its':=by simpa using congrArg Array.toList d1
 subst this
 exact r.inj r'
end
abbrev Cx.wish (X:Cx)(E:ZB):Cx:={ X with xe:=E }
abbrev Cx.nox (X:Cx):Cx:=X.wish fun _ _=>False
theorem Cx.Ok.wish {X:Cx}(ok:X.Ok)(E:ZB):(X.wish E).Ok :=
 ⟨ok.mod,ok.kind,ok.glob,ok.blt,ok.above,ok.inj,ok.has,ok.cab,ok.hd,ok.frames,ok.stk,ok.exf,ok.bs,ok.bsz,ok.noex,ok.exfs,ok.funs,ok.frf⟩
theorem Cx.Ok.unwish {X:Cx}{E:ZB}(ok:(X.wish E).Ok):X.Ok :=
 ⟨ok.mod,ok.kind,ok.glob,ok.blt,ok.above,ok.inj,ok.has,ok.cab,ok.hd,ok.frames,ok.stk,ok.exf,ok.bs,ok.bsz,ok.noex,ok.exfs,ok.funs,ok.frf⟩
section
variable {X:Cx}{pins:List (Addr×Obj)}{σ:St}{H:Hp}{s:Shared}{E:ZB}
theorem Inv.wish (I:Inv X pins σ H s)(E:ZB):Inv (X.wish E) pins σ H s:=⟨I.ok.wish E,I.os,I.bare,I.base,I.loc,I.cell,I.free,I.freeC,I.pin,I.hok,I.len⟩
theorem Inv.unwish (I:Inv (X.wish E) pins σ H s):Inv X pins σ H s:=⟨I.ok.unwish,I.os,I.bare,I.base,I.loc,I.cell,I.free,I.freeC,I.pin,I.hok,I.len⟩
theorem SP.unwish {D:UA}{f:Flow}{s':Shared}(h:SP (X.wish E) pins D f s'):SP X pins D f s':=by
 cases f with
 | next=>obtain ⟨σ',H',I,q⟩:=h;exact ⟨σ',H',I.unwish,q⟩
 | brk=>obtain ⟨σ',H',I,q⟩:=h;exact ⟨σ',H',I.unwish,q⟩
 | cont=>obtain ⟨σ',H',I,q⟩:=h;exact ⟨σ',H',I.unwish,q⟩
 | ret u=>obtain ⟨v,σ',H',I,r,q⟩:=h;exact ⟨v,σ',H',I.unwish,r,q⟩
theorem PSs.nox {st:List Stmt}{t:TS}(h:PSs X.nox st t):PSs X st t:=fun pins s σ H D I hw =>
 wpAny_mono (h pins s σ H D (I.wish _) hw) (fun _ _ q=>q.unwish) fun _ _ z=>False.elim z
end
section
variable {X:Cx}{st:Stmt}{rest:List Stmt}{t u:TS}{e:Expr}{te:TE}{pos:Pos}
def ZnK:TS:=fun D σ H=>D.nx σ H
def tSeq (t u:TS):TS:=fun D σ H=>t { D with nx:=u D } σ H
theorem ZW:PSs X [] ZnK:=fun _ _ σ H _ I h=>wpAny_execs_nil ⟨σ,H,I,h⟩
theorem Zc (h1:PS X st t)(h2:PSs X rest u):PSs X (st::rest) (tSeq t u):=by
 intro pins s σ H D I h
 refine wpAny_execs_cons (Zn (h1 pins s σ H { D with nx:=u D } I h) fun f s1 q=>?_)
 cases f with
 | next =>
  obtain ⟨σ',H',I',q⟩:=q
  exact h2 pins s1 σ' H' D I' q
 | ret v=>exact q
 | brk=>exact q
 | cont=>exact q
theorem Zh (h1:PS X st t):PSs X [st] t:=by
 intro pins s σ H D I h
 refine wpAny_execs_cons (Zn (h1 pins s σ H D I h) fun f s1 q=>?_)
 cases f with
 | next=>exact wpAny_execs_nil q
 | ret v=>exact q
 | brk=>exact q
 | cont=>exact q
theorem Inv.quiet {pins:List (Addr×Obj)}{σ:St}{H:Hp}{s:Shared}(I:Inv X pins σ H s):interactive X.env=false:=by simp [interactive,I.ok.kind]
def ZnD (te:TE):TS:=fun D σ H=>te σ H fun _ H1=>D.nx σ H1
theorem Yi (he:PE X e te)(hs:swapsWith e none pos.line X.env=pure false:=by rfl):PS X (.Expr e pos) (ZnD te):=by
 intro pins s σ H D I h
 exact wpAny_Expr_any (Zn (he pins s σ H _ I h) fun v s1 ⟨x,H1,I1,r1,q1⟩=>⟨σ,H1,I1,q1⟩) I.quiet hs
def tRet (te:TE):TS:=fun D σ H=>te σ H D.rt
theorem Zm (he:PE X e te):PS X (.Return (some e) pos) (tRet te):=by
 intro pins s σ H D I h
 exact wpAny_Return_some (Zn (he pins s σ H _ I h) fun v s1 ⟨x,H1,I1,r1,q1⟩=>⟨x,σ,H1,I1,r1,q1⟩)
def tIfS (c:TT)(t u:TS):TS:=fun D σ H=>c σ H fun b H1=>if b=true then t D σ H1 else u D σ H1
theorem Yk {c:Expr}{a b:List Stmt}{tc:TT}(hc:PT X c tc)(ha:PSs X a t)(hb:PSs X b u):PS X (.If c a b pos) (tIfS tc t u):=by
 intro pins s σ H D I h
 refine wpAny_If (Zn (hc pins s σ H _ I h) fun d s1 ⟨H1,I1,q1⟩=>?_)
 cases d with
 | true=>exact ha pins s1 σ H1 D I1 q1
 | false=>exact hb pins s1 σ H1 D I1 q1
end
abbrev TG:=V->St->Hp->(St->Hp->Prop)->Prop
abbrev TGs:=List V->St->Hp->(St->Hp->Prop)->Prop
def PG (X:Cx)(target:Expr)(t:TG):Prop :=
 ∀ (pins:List (Addr×Obj)) (s:Shared) (σ:St) (H:Hp) (v:V) (u:Value) (Q:St->Hp->Prop),Inv X pins σ H s->RelV v u->t v σ H Q ->
  wpAny (model X.prog X.w) X.A (assign target X.env u) (fun _ s'=>∃ σ' H',Inv X pins σ' H' s'/\Q σ' H') X.xe s
def PGs (X:Cx)(ts:List Expr)(t:TGs):Prop :=
 ∀ (pins:List (Addr×Obj)) (s:Shared) (σ:St) (H:Hp) (vs:List V) (us:List Value) (Q:St->Hp->Prop),Inv X pins σ H s->Vals vs us->t vs σ H Q ->
  wpAny (model X.prog X.w) X.A (assignInOrder ((assignEach ts X.env).map (·.2)) us) (fun _ s'=>∃ σ' H',Inv X pins σ' H' s'/\Q σ' H') X.xe s
abbrev Zit:=V->V->V->Hp->(Hp->Prop)->Prop
def PSet (X:Cx)(t:Zit):Prop :=
 ∀ (pins:List (Addr×Obj)) (s:Shared) (σ:St) (H:Hp) (o i v:V) (ov iv u:Value) (Q:Hp->Prop),Inv X pins σ H s->RelV o ov->RelV i iv->RelV v u->t o i v H Q ->
  wpAny (model X.prog X.w) X.A (setItem ov iv u) (fun _ s'=>∃ H',Inv X pins σ H' s'/\Q H') X.xe s
abbrev TIp:=V->V->Hp->VK->Prop
def PIp (X:Cx)(op:Operator)(t:TIp):Prop :=
 ∀ (pins:List (Addr×Obj)) (s:Shared) (σ:St) (H:Hp) (x y:V) (v u:Value) (Q:VK),Inv X pins σ H s->RelV x v->RelV y u->t x y H Q ->
  wpAny (model X.prog X.w) X.A (inplaceOp op v u) (EP X pins σ Q) X.xe s
section
variable {X:Cx}{pos:Pos}
def ZcV (i:Nat):TG:=fun v σ H Q=>Q (σ.set i (some v)) H
theorem ZN {i:Nat}{x:Str}(hN:X.N.Nodup)(hi:X.N[i]?=some x)(hx:Loc X.env.scope x)(hf:X.fn x=true\/X.env.scope.names.lookup x=some .local:=by first | exact .inl rfl | exact .inr rfl | assumption):PG X (.Name x pos) (ZcV i):=by
 intro pins s σ H v u Q I r h
 exact wpAny_assign_Name (Xz I hN hi hx r (fun s' I'=>⟨_,H,I',h⟩) hf)
def gNil:TGs:=fun vs σ H Q=>vs=[]/\Q σ H
def Zgi (t:TG)(u:TGs):TGs:=fun vs σ H Q=>∃ v r,vs=v::r/\t v σ H fun σ' H'=>u r σ' H' Q
theorem XD:PGs X [] gNil:=by
 intro pins s σ H vs us Q I r h
 obtain ⟨e,h⟩:=h
 subst e
 cases r
 exact assignInOrder_nil ⟨σ,H,I,h⟩
theorem Yg {e:Expr}{es:List Expr}{t:TG}{u:TGs}(h1:PG X e t)(h2:PGs X es u)
 (hs:(assignEach (e::es) X.env).map (·.2)=assign e X.env::(assignEach es X.env).map (·.2):=by rfl):PGs X (e::es) (Zgi t u):=by
 intro pins s σ H vs us Q I r h
 obtain ⟨v,vr,e1,h⟩:=h
 subst e1
 cases r with
 | cons r rr =>
  rw [hs]
  refine assignInOrder_cons (Zn (h1 pins s σ H _ _ _ I r h) fun _ s1 ⟨σ1,H1,I1,q1⟩=>?_)
  exact h2 pins s1 σ1 H1 _ _ Q I1 rr q1
def gTup (K:KF)(n:Nat)(t:TGs):TG:=fun v σ H Q=>∃ a xs,v=.ref a/\SqT K H a xs/\xs.length=n/\t xs σ H Q
theorem XZ {es:List Expr}{k:Nat}{t:TGs}{n:Nat}(hc:X.calm=true)(h:PGs X es t)
 (hn:(assignEach es X.env).length=n:=by rfl) (hst:(assignEach es X.env).findIdx? (·.1)=none:=by rfl):PG X (.Tuple es k pos) (gTup X.K n t):=by
 intro pins s σ H v u Q I r hw
 obtain ⟨a,xs,e1,hq,hl,hw⟩:=hw
 subst e1
 cases r
 obtain ⟨its,rv,ht,hz⟩:=I.tuple hq
 refine assign_Tuple_tuple (I.ok.hd hc) ht (by simp [hn,<- hl,rv.length]) hst fun h' hx=>?_
 have I1:Inv X pins σ H { s with heap:=h' }:=I.kept (t':=s.toks) fun b o e=>hx b o (Nat.ne_of_lt (Heap.lt_size e)) e
 exact h pins _ σ H xs _ Q I1 (by simpa using rv) hw
def gSub (to ti:TE)(t:Zit):TG:=fun v σ H Q=>to σ H fun o H1=>ti σ H1 fun i H2=>t o i v H2 fun H3=>Q σ H3
theorem Zbx {o i:Expr}{to ti:TE}{t:Zit}(ho:PE X o to)(hi:PE X i ti)(hs:PSet X t)
 (ha:∀ v,assign (.Subscript o i pos) X.env v=(do
  let ov <- holding [v] (eval o X.env)
  let iv <- holding [v,ov] (eval i X.env)
  standAt pos
  holding [v,ov,iv] (setItem ov iv v)
  release [v,ov,iv] []):=by intro _;rfl):PG X (.Subscript o i pos) (gSub to ti t):=by
 intro pins s σ H v u Q I r h
 rw [ha]
 refine wpAny_bind (wpAny_holding (Zn (ho pins s σ H _ I h) fun ov s1 ⟨x,H1,I1,r1,q1⟩=>?_))
 refine wpAny_bind (wpAny_holding (Zn (hi pins s1 σ H1 _ I1 q1) fun iv s2 ⟨y,H2,I2,r2,q2⟩=>?_))
 refine wpAny_bind (wpAny_standAt (wpAny_bind (wpAny_holding (Zn (hs pins s2 σ H2 x y v ov iv u _ I2 r1 r2 r q2) fun _ s3 ⟨H3,I3,q3⟩=>?_))))
 exact wpAny_release ⟨σ,H3,I3,q3⟩
def ZfT (te:TE)(g:TG):TS:=fun D σ H=>te σ H fun x H1=>g x σ H1 D.nx
theorem Wc {tg e:Expr}{te:TE}{g:TG}(he:PE X e te)(hg:PG X tg g)(hs:swapsWithSole [tg] e pos.line X.env=pure false:=by rfl)(hw:swappedStores [tg] e X.env=pure none:=by rfl)
 (h1:(assignEach [tg] X.env).map (·.2)=[assign tg X.env]:=by rfl):PS X (.Assign [tg] e pos) (ZfT te g):=by
 intro pins s σ H D I h
 refine wpAny_Assign_stores (Zn (he pins s σ H _ I h) fun v s1 ⟨x,H1,I1,r1,q1⟩=>?_) hs hw
 rw [h1]
 exact Zn (hg pins s1 σ H1 x v _ I1 r1 q1) fun _ s2 q=>q
theorem Zt {i:Nat}{x:Str}{e:Expr}{te:TE}{pos':Pos}(hN:X.N.Nodup)(hi:X.N[i]?=some x)(hx:Loc X.env.scope x)(he:PE X e te)(hs:swapsWith e (some (.Name x pos')) pos.line X.env=pure false:=by rfl)(hf:X.fn x=true\/X.env.scope.names.lookup x=some .local:=by first | exact .inl rfl | exact .inr rfl | assumption) :
 PS X (.Assign [.Name x pos'] e pos) (ZfT te (ZcV i)):=by
 intro pins s σ H D I h
 refine wpAny_Assign_Name (Zn (he pins s σ H _ I h) fun v s1 ⟨y,H1,I1,r1,q1⟩=>?_) hs
 exact Xz I1 hN hi hx r1 (fun s2 I2=>⟨_,H1,I2,q1⟩) hf
def tPar (i j:Nat)(ta:TA):TS:=fun D σ H=>ta σ H fun vs H1=>∃ v w,vs=[v,w]/\D.nx ((σ.set i (some v)).set j (some w)) H1
theorem Vx {i j:Nat}{x y:Str}{a b:Expr}{ta:TA}{px py pt:Pos}{kt k2 pt2}(hc:X.calm=true)(hN:X.N.Nodup)(hi:X.N[i]?=some x)(hj:X.N[j]?=some y)(hij:i≠j)
 (hx:X.env.scope.names.lookup x=some .local) (hy:X.env.scope.names.lookup y=some .local) (ha:PA X [a,b] ta)
 (hw:swappedStores [.Tuple [.Name x px,.Name y py] kt pt] (.Tuple [a,b] k2 pt2) X.env=pure (some [x,y]))
 (hs:swapsWithSole [.Tuple [.Name x px,.Name y py] kt pt] (.Tuple [a,b] k2 pt2) pos.line X.env=pure false:=by rfl) :
 PS X (.Assign [.Tuple [.Name x px,.Name y py] kt pt] (.Tuple [a,b] k2 pt2) pos) (tPar i j ta):=by
 intro pins s σ H D I h
 rw [exec_Assign_arm]
 refine wpAny_bind (wpAny_standAt ?_)
 rw [hs]
 refine wpAny_bind (wpAny_pure ?_)
 rw [if_neg (by decide)]
 refine wpAny_bind (Tuple_ (Zn (ha _ pins s σ H _ I h) fun us s1 ⟨vs,H1,I1,r1,q1⟩=>?_))
 obtain ⟨v,w,e1,q1⟩:=q1
 subst e1
 obtain ⟨u1,u2,rfl,rv,rw'⟩:∃ u1 u2,us=[u1,u2]/\RelV v u1/\RelV w u2:=by
  cases r1 with
  | cons p q =>
   cases q with
   | cons p' q' =>
    cases q'
    exact ⟨_,_,rfl,p,p'⟩
 refine wpAny_newObj_type ?_ (by show 2<=sizeLine;decide)
 have I2:Inv X pins σ H1 { s1 with heap:=s1.heap.push { cls:=.type "tuple",data:=.seq [u1,u2].toArray } }:=I1.kept (t':=s1.toks) fun b o e=>Heap.get?_push_of_some _ e
 rw [hw]
 refine wpAny_bind (wpAny_pure ?_)
 show wpAny (model X.prog X.w) X.A (do rule "assign.swapped-stores";let items <- unpackItems (.ref s1.heap.objs.size) 2 none;assignInOrder [fun v=>bindName X.env y v,fun v=>bindName X.env x v] items.reverse;pure Flow.next) _ _ _
 refine wpAny_bind (wpAny_rule (wpAny_bind (unpackItems_tuple (items:=#[u1,u2]) (I.ok.hd hc) (IsTup.new s1.heap _) fun h' hx'=>?_)))
 have I3:=I2.kept (h':=h') (t':=s1.toks) fun b o e=>hx' b o (Nat.ne_of_lt (Heap.lt_size e)) e
 show wpAny _ _ (assignInOrder [fun v=>bindName X.env y v,fun v=>bindName X.env x v] [u2,u1] >>= fun _=>pure Flow.next) _ _ _
 refine wpAny_bind (assignInOrder_cons (wpAny_bindName (Xz I3 hN hj (.inl hy) rw' (fun s2 I4=>?_) (.inr hy))))
 refine assignInOrder_cons (wpAny_bindName (Xz I4 hN hi (.inl hx) rv (fun s3 I5=>assignInOrder_nil (wpAny_pure ?_)) (.inr hx)))
 rw [List.set_comm _ _ (Ne.symm hij)] at I5
 exact ⟨_,H1,I5,q1⟩
def tAug (i:Nat)(te:TE)(ti:TIp):TS:=fun D σ H=>∃ x,σ[i]?=some (some x)/\te σ H fun y H1=>ti x y H1 fun z H2=>D.nx (σ.set i (some z)) H2
theorem Zhm {i:Nat}{x:Str}{e:Expr}{te:TE}{op:Operator}{ti:TIp}{pos':Pos}(hN:X.N.Nodup)(hi:X.N[i]?=some x)(hx:Loc X.env.scope x)(he:PE X e te)(ho:PIp X op ti)(hf:X.fn x=true\/X.env.scope.names.lookup x=some .local:=by first | exact .inl rfl | exact .inr rfl | assumption) :
 PS X (.AugAssign (.Name x pos') op e pos) (tAug i te ti):=by
 intro pins s σ H D I h
 obtain ⟨v,e1,h⟩:=h
 obtain ⟨m,hn,hl⟩:=I.loc
 have vis:Vis X.env.scope x:=by rcases hx with k | k;exact .inl k;exact .inr (.inl k)
 obtain ⟨u,r,l⟩:=hl i x v hi e1 vis
 refine wpAny_AugAssign_Name ?_
 have go:wpAny (model X.prog X.w) X.A (eval e X.env) (fun w s₂=>wpAny (model X.prog X.w) X.A (inplaceOp op u w) (fun r s₃=>wpAny (model X.prog X.w) X.A (storeName X.env x r) (fun _=>SP X pins D .next) X.xe s₃) X.xe s₂) X.xe s:=by
  refine Zn (he pins s σ H _ I h) fun w s1 ⟨y,H1,I1,r1,q1⟩=>?_
  refine Zn (ho pins s1 σ H1 v y u w _ I1 r r1 q1) fun z s2 ⟨zv,H2,I2,r2,q2⟩=>?_
  exact Xz I2 hN hi hx r2 (fun s3 I3=>⟨_,H2,I3,q2⟩) hf
 rcases l with ⟨hk,hm⟩ | ⟨hk,c,hc,hcell⟩
 ·exact wpAny_loadName_local I.ok.kind hk hn hm go
 ·rcases hk with hk | hk
  ·exact wpAny_loadName_cell I.ok.kind hk hc hcell go
  ·rcases hx with k | k
   ·have:X.env.scope.names.lookup x=some .free:=hk
    rw [k] at this;cases this
   ·have:X.env.scope.names.lookup x=some .free:=hk
    rw [k] at this;cases this
def ipI (f:Int->Int->Int):TIp:=fun x y H Q=>∃ i j,x=.int i/\y=.int j/\Q (.int (f i j)) H
theorem ZhH:PIp X .Add (ipI fun i j=>i+j):=by
 intro pins s σ H x y v u Q I r1 r2 h
 obtain ⟨i,j,e1,e2,q⟩:=h
 subst e1;subst e2
 obtain ⟨t,rfl⟩:=r1
 obtain ⟨t',rfl⟩:=r2
 exact iadd_int ⟨.int _,H,I.tok _,⟨_,rfl⟩,q⟩
end
section
variable {X:Cx}{pos:Pos}
def ZmV (c:TT)(tb:TS):TS:=fun D σ H=>∃ W:Nat->St->Hp->Prop,(∃ m,W m σ H)/\∀ m σ H,W m σ H ->
 c σ H fun b H1=>if b=true then ∃ N:St->Hp->Prop,(∀ σ' H',N σ' H'->∃ m',m' < m/\W m' σ' H')/\tb { D with nx:=N,ct:=N,bk:=D.nx } σ H1 else D.nx σ H1
theorem ZdI {c:Expr}{body:List Stmt}{tc:TT}{tb:TS}(hp:PassesOwn (model X.prog X.w) X.A X.env X.xe)(hc:PT X c tc)(hb:PSs X body tb):PS X (.While c body [] pos) (ZmV tc tb):=by
 intro pins s σ H D I h
 obtain ⟨W,⟨m0,w0⟩,turn⟩:=h
 refine wpAny_While (codeAny_whileLoop (fun n s'=>∃ σ' H',Inv X pins σ' H' s'/\W n σ' H') ?_ m0 ⟨σ,H,I,w0⟩)
 rintro n s1 ⟨σ1,H1,I1,w1⟩
 refine wpAny_passesOwn hp (Zn (hc pins s1 σ1 H1 _ I1 (turn n σ1 H1 w1)) fun b s2 ⟨H2,I2,q2⟩=>?_)
 cases b with
 | true =>
  obtain ⟨N,hN,q2⟩:=q2
  rw [if_pos rfl]
  refine wpAny_passesOwn hp (Zn (hb pins s2 σ1 H2 _ I2 q2) fun f s3 q3=>?_)
  cases f with
  | next =>
   obtain ⟨σ3,H3,I3,n3⟩:=q3
   obtain ⟨m',hm,w3⟩:=hN σ3 H3 n3
   exact ⟨m',hm,σ3,H3,I3,w3⟩
  | cont =>
   obtain ⟨σ3,H3,I3,n3⟩:=q3
   obtain ⟨m',hm,w3⟩:=hN σ3 H3 n3
   exact ⟨m',hm,σ3,H3,I3,w3⟩
  | brk=>exact q3
  | ret v=>exact q3
 | false =>
  rw [if_neg Bool.false_ne_true]
  exact wpAny_execs_nil ⟨σ1,H2,I2,q2⟩
end
structure It where
 go:Nat->Hp->Prop
 yld:Nat->Hp->V->Hp->Prop
 stop:Nat->Hp->Prop
def YD (X:Cx)(pins:List (Addr×Obj))(H:Hp)(b:Addr):Prop :=
 H b=none/\b≠X.env.locals/\b ∉ X.fs/\(b∈X.ex\/X.s₀.heap.objs.size<=b)/\(∀ x c,X.env.cells.lookup x=some c->c≠b)/\∀ p∈X.pn++pins,p.1≠b
theorem Inv.fpOk {X:Cx}{pins:List (Addr×Obj)}{σ:St}{H H':Hp}{s:Shared}{b:Addr}(I:Inv X pins σ H s)(hb:s.heap.objs.size<=b)(hn:H' b=none):YD X pins H' b:=by
 refine ⟨hn,Nat.ne_of_gt (Nat.lt_of_lt_of_le I.lt hb),I.nofs hb,.inr (Nat.le_trans I.sz hb),fun x c e z=>?_,fun p hp z=>?_⟩
 ·obtain ⟨v,q⟩:=I.cell x c e
  exact absurd (Nat.lt_of_lt_of_le q.lt (by rw [z];exact hb)) (Nat.lt_irrefl _)
 ·exact absurd (Nat.lt_of_lt_of_le (Heap.lt_size (I.pin p hp).1) (by rw [z];exact hb)) (Nat.lt_irrefl _)
structure Uj (P:Program)(w:World)(K:KF)(tg:Expr)(J:It)(fp:List Addr)(it:Addr)(tn:Nat->Heap->Prop):Prop where
 mem:it∈fp
 obj:∀ i h,tn i h->∀ b∈fp,∃ o,h.get? b=some o/\∀ v,o.data≠.cell v
 keep:∀ i h h',tn i h->(∀ b∈fp,∀ o,h.get? b=some o->h'.get? b=some o)->tn i h'
 item:∀ (X:Cx),X.prog=P->X.w=w->X.K=K->X.calm=true->∀ (i:Nat) (pins:List (Addr×Obj)) (s:Shared) (σ:St) (H:Hp) (E:ZB),Inv X pins σ H s->(∀ b∈fp,YD X pins H b)->tn i s.heap->J.go i H ->
  wpAny (model P w) X.A (pyNext (.ref it)) (fun r s1=>∃ u,r=some u /\
   wpAny (model P w) X.A (letOwnedTupleGo tg (.ref it) u) (fun _ s2=>∃ x H',Inv X pins σ H' s2/\RelV x u/\J.yld i H x H'/\tn (i+1) s2.heap/\∀ b∈fp,H' b=none) E s1) E s
 done:∀ (X:Cx),X.prog=P->X.w=w->X.K=K->X.calm=true->∀ (i:Nat) (pins:List (Addr×Obj)) (s:Shared) (σ:St) (H:Hp) (E:ZB),Inv X pins σ H s->(∀ b∈fp,YD X pins H b)->tn i s.heap->J.stop i H ->
  wpAny (model P w) X.A (pyNext (.ref it)) (fun r s1=>r=none/\Inv X pins σ H s1) E s
 self:∀ (A:Around) (i:Nat) (s:Shared) (Q:ZB) (E:ZB),tn i s.heap->Q (.ref it) s->wpAny (model P w) A (pyIter (.ref it)) Q E s
abbrev TI:=St->Hp->(It->Hp->Prop)->Prop
def PIE (X:Cx)(pins:List (Addr×Obj))(σ:St)(tg:Expr)(R:It->Hp->Prop)(itv:Value)(s2:Shared):Prop :=
 ∃ (it:Addr) (fp:List Addr) (tn:Nat->Heap->Prop) (J:It) (H':Hp),itv=.ref it/\Inv X pins σ H' s2/\Uj X.prog X.w X.K tg J fp it tn/\tn 0 s2.heap/\(∀ b∈fp,YD X pins H' b)/\R J H'
def PI (X:Cx)(tg iter:Expr)(wi:TI):Prop :=
 ∀ (pins:List (Addr×Obj)) (s:Shared) (σ:St) (H:Hp) (R:It->Hp->Prop),Inv X pins σ H s->wi σ H R ->
  wpAny (model X.prog X.w) X.A (eval iter X.env) (fun v s1=>wpAny (model X.prog X.w) X.A (pyIter v) (PIE X pins σ tg R) X.xe s1) X.xe s
theorem ZcN {M:Model}{A:Around}{E:ZB}{s:Shared}{tg:Expr}{it:Addr}{u:Value}{o:Obj}{n:String}{vs:Array Value}{Q:Unit->Shared->Prop}(ho:s.heap.get? it=some o)(hc:o.cls=.type n)(hd:o.data=.fields vs)
   (hn:["enumerate","zip","dict_itemiterator","dict_reverseitemiterator","odict_iterator","itertools.zip_longest","itertools.pairwise"].contains n=false) (hQ:Q () s):wpAny M A (letOwnedTupleGo tg (.ref it) u) Q E s:=by
 unfold letOwnedTupleGo
 cases tg <;> first
   | exact wpAny_pure hQ
   | (cases u<;>first
       | exact wpAny_pure hQ
       | (refine wpAny_bind (wpAny_load ho ?_)
          rw [hc,hd]
          show wpAny M A (if (["enumerate","zip","dict_itemiterator","dict_reverseitemiterator","odict_iterator","itertools.zip_longest","itertools.pairwise"].contains n&&vs[0]? == some (rawInt _))=true then _ else _) Q E s
          rw [if_neg (by intro h;rw [hn,Bool.false_and] at h;cases h)]
          exact wpAny_pure hQ))
def Itl (K:KF)(a:Addr):It :=
 ⟨fun i H=>∃ xs x,SqL K H a xs/\xs[i]?=some x,fun i H x H'=>H'=H/\∀ xs,SqL K H a xs->xs[i]?=some x,fun i H=>∃ xs,SqL K H a xs/\xs.length<=i⟩
def Itt (K:KF)(a:Addr):It :=
 ⟨fun i H=>∃ xs x,SqT K H a xs/\xs[i]?=some x,fun i H x H'=>H'=H/\∀ xs,SqT K H a xs->xs[i]?=some x,fun i H=>∃ xs,SqT K H a xs/\xs.length<=i⟩
def Itr (lo:Int)(n:Nat):It:=⟨fun i _=>i < n,fun i H x H'=>H'=H/\x=.int (lo+i),fun i _=>n<=i⟩
theorem Zht {P:Program}{w:World}{K:KF}{tg:Expr}(a it:Addr):Uj P w K tg (Itl K a) [it] it (fun i h=>h.IsListIter it a i) where
 mem:=by simp
 obj:=fun i h st b hb=>by
  have e:b=it:=by simpa using hb
  subst e
  obtain ⟨o,e,c,d⟩:=st
  exact ⟨o,e,fun v z=>by rw [d] at z;cases z⟩
 keep:=fun i h h' st k=>st.at fun o e=>k it (by simp) o e
 item:=by
  intro X hP hw hK hc i pins s σ H E I hf st hg
  subst hP hw hK
  obtain ⟨xs,x,hq,hx⟩:=hg
  obtain ⟨its,rv,p,hz⟩:=I.list hq
  obtain ⟨u,hu,ru⟩:=rv.get hx
  obtain ⟨f0,f1,f2,f3,f4,f5⟩:=hf it (by simp)
  refine wpAny_pyNext_list_item st p.isList (x:=u) (by simpa using hu) fun h' st' sb=>?_
  have I1:Inv X pins σ H { s with heap:=h' }:=I.turned (t':=s.toks) (fun b o hb e=>(sb.2 b hb).trans e) f0 f1 f3 f4 f5
  obtain ⟨o,e,c,d⟩:=id st'
  exact ⟨u,rfl,ZcN (s:={ s with heap:=h' }) e c d (by decide) ⟨x,H,I1,ru,⟨rfl,fun ys hy=>by rw [I.list_inj hy hq];exact hx⟩,st',fun b hb=>(hf b hb).1⟩⟩
 done:=by
  intro X hP hw hK hc i pins s σ H E I hf st hg
  subst hP hw hK
  obtain ⟨xs,hq,hx⟩:=hg
  obtain ⟨its,rv,p,hz⟩:=I.list hq
  obtain ⟨f0,f1,f2,f3,f4,f5⟩:=hf it (by simp)
  have hl:=rv.length
  exact wpAny_pyNext_list_end (I.ok.hd hc) st p.isList (by simp;omega) fun h' eb=>⟨rfl,I.turned (t':=s.toks) (fun b o hb e=>eb b o hb e) f0 f1 f3 f4 f5⟩
 self:=fun _ _ _ _ _ st h=>wpAny_pyIter_listiter st h
theorem ZfJ {P:Program}{w:World}{K:KF}{tg:Expr}(a it:Addr):Uj P w K tg (Itt K a) [it] it (fun i h=>h.IsTupleIter it a i) where
 mem:=by simp
 obj:=fun i h st b hb=>by
  have e:b=it:=by simpa using hb
  subst e
  obtain ⟨o,e,c,d⟩:=st
  exact ⟨o,e,fun v z=>by rw [d] at z;cases z⟩
 keep:=fun i h h' st k=>st.at fun o e=>k it (by simp) o e
 item:=by
  intro X hP hw hK hc i pins s σ H E I hf st hg
  subst hP hw hK
  obtain ⟨xs,x,hq,hx⟩:=hg
  obtain ⟨its,rv,p,hz⟩:=I.tuple hq
  obtain ⟨u,hu,ru⟩:=rv.get hx
  obtain ⟨f0,f1,f2,f3,f4,f5⟩:=hf it (by simp)
  refine wpAny_pyNext_tuple_item st (show s.heap.IsTuple a its.toArray from p) (x:=u) (by simpa using hu) fun h' st' sb=>?_
  have I1:Inv X pins σ H { s with heap:=h' }:=I.turned (t':=s.toks) (fun b o hb e=>(sb.2 b hb).trans e) f0 f1 f3 f4 f5
  obtain ⟨o,e,c,d⟩:=id st'
  exact ⟨u,rfl,ZcN (s:={ s with heap:=h' }) e c d (by decide) ⟨x,H,I1,ru,⟨rfl,fun ys hy=>by rw [I.tuple_inj hy hq];exact hx⟩,st',fun b hb=>(hf b hb).1⟩⟩
 done:=by
  intro X hP hw hK hc i pins s σ H E I hf st hg
  subst hP hw hK
  obtain ⟨xs,hq,hx⟩:=hg
  obtain ⟨its,rv,p,hz⟩:=I.tuple hq
  obtain ⟨f0,f1,f2,f3,f4,f5⟩:=hf it (by simp)
  have hl:=rv.length
  exact wpAny_pyNext_tuple_end (I.ok.hd hc) st (show s.heap.IsTuple a its.toArray from p) (by simp;omega) fun h' eb=>⟨rfl,I.turned (t':=s.toks) (fun b o hb e=>eb b o hb e) f0 f1 f3 f4 f5⟩
 self:=fun _ _ _ _ _ st h=>wpAny_pyIter_tupleiter st h
theorem Zgk {P:Program}{w:World}{K:KF}{tg:Expr}(it:Addr)(lo:Int)(n:Nat):Uj P w K tg (Itr lo n) [it] it (fun i h=>IsRangeIter h it (lo+(i:Nat) * 1) ((n:Int) - (i:Nat)) 1) where
 mem:=by simp
 obj := fun i h st b hb=>by
  have e:b=it:=by simpa using hb
  subst e
  exact ⟨_,st,fun v z=>by
   have z':Data.fields _=Data.cell v:=z
   cases z'⟩
 keep:=fun i h h' st k=>k it (by simp) _ st
 item:=by
  intro X hP hw hK hc i pins s σ H E I hf st hg
  subst hP hw hK
  obtain ⟨f0,f1,f2,f3,f4,f5⟩:=hf it (by simp)
  have W:=Walks.range (prog:=X.prog) (w:=X.w) (I.ok.hd hc) it lo 1 n
  refine W.item i s _ _ hg st fun v h' tk hv st' kk=>?_
  obtain ⟨t,rfl⟩:=hv
  have I1:Inv X pins σ H { s with heap:=h',toks:=tk }:=I.turned (fun b o hb e=>kk b o (by simpa using hb) e) f0 f1 f3 f4 f5
  refine ⟨_,rfl,ZcN (s:={ s with heap:=h',toks:=tk }) (n:="range_iterator") st' rfl rfl (by decide) ⟨.int (lo+i),H,I1,⟨t,?_⟩,⟨rfl,rfl⟩,st',fun b hb=>(hf b hb).1⟩⟩
  rw [Int.mul_one]
 done:=by
  intro X hP hw hK hc i pins s σ H E I hf st hg
  subst hP hw hK
  obtain ⟨f0,f1,f2,f3,f4,f5⟩:=hf it (by simp)
  exact wpAny_pyNext_range_end (I.ok.hd hc) st (by have:n<=i:=hg;omega) fun h' eb=>⟨rfl,I.turned (t':=s.toks) (fun b o hb e=>eb b o hb e) f0 f1 f3 f4 f5⟩
 self:=fun _ _ _ _ _ st h=>wpAny_pyIter_rangeiter st h
section
variable {X:Cx}{tg:Expr}
def ZnS (K:KF)(tl:TE):TI:=fun σ H R=>tl σ H fun x H1=>∃ a,x=.ref a/\(∃ xs,SqL K H1 a xs)/\R (Itl K a) H1
def iTup (K:KF)(tl:TE):TI:=fun σ H R=>tl σ H fun x H1=>∃ a,x=.ref a/\(∃ xs,SqT K H1 a xs)/\R (Itt K a) H1
theorem XI {l:Expr}{tl:TE}(hl:PE X l tl):PI X tg l (ZnS X.K tl):=by
 intro pins s σ H R I h
 refine Zn (hl pins s σ H _ I h) fun v s1 ⟨x,H1,I1,r1,q1⟩=>?_
 obtain ⟨a,e,⟨xs,hq⟩,q⟩:=q1
 subst e
 cases r1
 obtain ⟨its,rv,p,hz⟩:=I1.list hq
 refine wpAny_pyIter_list p.isList ?_
 refine ⟨s1.heap.objs.size,[s1.heap.objs.size],_,_,H1,rfl,I1.kept (t':=s1.toks) fun b o e=>Heap.get?_push_of_some _ e,Zht a _,⟨_,Heap.get?_push_size _ rfl,rfl,rfl⟩,fun b hb=>?_,q⟩
 have e:b=s1.heap.objs.size:=by simpa using hb
 subst e
 exact I1.fpOk (Nat.le_refl _) (I1.hok.fresh (Nat.le_refl _))
theorem ZdZ {l:Expr}{tl:TE}(hl:PE X l tl):PI X tg l (iTup X.K tl):=by
 intro pins s σ H R I h
 refine Zn (hl pins s σ H _ I h) fun v s1 ⟨x,H1,I1,r1,q1⟩=>?_
 obtain ⟨a,e,⟨xs,hq⟩,q⟩:=q1
 subst e
 cases r1
 obtain ⟨its,rv,p,hz⟩:=I1.tuple hq
 refine wpAny_pyIter_tuple (show s1.heap.IsTuple a its.toArray from p) ?_
 refine ⟨s1.heap.objs.size,[s1.heap.objs.size],_,_,H1,rfl,I1.kept (t':=s1.toks) fun b o e=>Heap.get?_push_of_some _ e,ZfJ a _,⟨_,Heap.get?_push_size _ rfl,rfl,rfl⟩,fun b hb=>?_,q⟩
 have e:b=s1.heap.objs.size:=by simpa using hb
 subst e
 exact I1.fpOk (Nat.le_refl _) (I1.hok.fresh (Nat.le_refl _))
theorem ZiA {pins:List (Addr×Obj)}{σ:St}{H:Hp}{s:Shared}{R:It->Hp->Prop}{E:ZB}{lo hi:Int}{t u v:Tok}{tk:Nat}(I:Inv X pins σ H s)(h1:-(2 ^ 62)<=lo)(h2:lo < 2 ^ 62)(h3:-(2 ^ 62)<=hi)(h4:hi < 2 ^ 62)
 (q:R (Itr lo (hi - lo).toNat) H):wpAny (model X.prog X.w) X.A (pyIter (.ref s.heap.objs.size)) (PIE X pins σ tg R) E { s with heap:=s.heap.push { cls:=.type "range",data:=.fields #[.int lo t,.int hi u,.int 1 v] },toks:=tk }:=by
 refine wpAny_pyIter_range (IsRange.new ..) (small_one h1 h2 h3 h4) ?_
 have I1:Inv X pins σ H { s with heap:=s.heap.push { cls:=.type "range",data:=.fields #[.int lo t,.int hi u,.int 1 v] },toks:=tk }:=I.kept fun b o e=>Heap.get?_push_of_some _ e
 refine ⟨(s.heap.push { cls:=.type "range",data:=.fields #[.int lo t,.int hi u,.int 1 v] }).objs.size,[(s.heap.push { cls:=.type "range",data:=.fields #[.int lo t,.int hi u,.int 1 v] }).objs.size],_,_,H,rfl,
  I1.kept (t':=tk) fun b o e=>Heap.get?_push_of_some _ e,Zgk _ lo (hi - lo).toNat,?_,fun b hb=>?_,q⟩
 ·have e1:lo+((0:Nat):Int) * 1=lo:=by simp
  have e2:(((hi - lo).toNat:Nat):Int) - ((0:Nat):Int)=Builtin.Range.rangeSize lo hi 1:=by rw [rangeSize_one];split<;>omega
  show IsRangeIter _ _ (lo+((0:Nat):Int) * 1) ((((hi - lo).toNat:Nat):Int) - ((0:Nat):Int)) 1
  rw [e1,e2]
  exact Heap.get?_push_size _ rfl
 ·have e:b=(s.heap.push { cls:=.type "range",data:=.fields #[.int lo t,.int hi u,.int 1 v] }).objs.size:=by simpa using hb
  subst e
  exact I1.fpOk (Nat.le_refl _) (I1.hok.fresh (Nat.le_refl _))
def ZnI (ta:TA):TI:=fun σ H R=>ta σ H fun vs H1=>∃ j:Int,vs=[.int j]/\-(2 ^ 62)<=j/\j < 2 ^ 62/\R (Itr 0 j.toNat) H1
theorem Xo {a:Expr}{ta:TA}{p pos:Pos}(hg:Gl X "range")(hm:X.mg "range"=none)(ha:PA X [a] ta)(hs:starEach [a] X.env=[(false,eval a X.env)]:=by rfl):PI X tg (.Call (.Name "range" p) [a] [] pos) (ZnI ta):=by
 intro pins s σ H R I h
 refine Call_ (WC I hg hm boot_range (PyProof.Rows.callWith_type1 (Zn (ha pos pins s σ H _ I h) fun us s1 ⟨vs,H1,I1,r1,q1⟩=>?_) hs rfl))
 obtain ⟨j,e,q1,q2,q⟩:=q1
 subst e
 cases r1 with
 | cons r rr =>
  cases rr
  obtain ⟨t,rfl⟩:=r
  exact call_range_1 (ZiA I1 (by omega) (by omega) q1 q2 (by simpa using q))
def tFor (wi:TI)(g:TG)(tb:TS):TS:=fun D σ H=>wi σ H fun J H1=>∃ W:Nat->Nat->St->Hp->Prop,(∃ m,W 0 m σ H1)/\∀ i m σ H,W i m σ H ->
 (J.stop i H/\D.nx σ H)\/(J.go i H/\∃ N:St->Hp->Prop,(∀ σ' H',N σ' H'->∃ m',m' < m/\W (i+1) m' σ' H')/\∀ x H',J.yld i H x H'->g x σ H' fun σ2 H2=>tb { D with nx:=N,ct:=N,bk:=D.nx } σ2 H2)
def Zbr (fp:List Addr)(h:Heap):List (Addr×Obj):=fp.filterMap fun b=>(h.get? b).map fun o=>(b,o)
theorem Yt {fp:List Addr}{h:Heap}{b:Addr}{o:Obj}(hb:b∈fp)(e:h.get? b=some o):(b,o)∈Zbr fp h:=List.mem_filterMap.mpr ⟨b,hb,by rw [e];rfl⟩
theorem ZhB {fp:List Addr}{h:Heap}{p:Addr×Obj}(hp:p∈Zbr fp h):p.1∈fp/\h.get? p.1=some p.2:=by
 obtain ⟨b,hb,e⟩:=List.mem_filterMap.mp hp
 cases q:h.get? b with
 | none=>rw [q] at e;cases e
 | some o =>
  rw [q] at e
  have e':(b,o)=p:=Option.some.inj e
  subst e'
  exact ⟨hb,q⟩
theorem Inv.pinned {pins:List (Addr×Obj)}{σ:St}{H:Hp}{s:Shared}{fp:List Addr}(I:Inv X pins σ H s)(hf:∀ b∈fp,YD X pins H b)(ho:∀ b∈fp,∃ o,s.heap.get? b=some o/\∀ v,o.data≠.cell v):Inv X (pins++Zbr fp s.heap) σ H s :=
 I.pins_of fun p hp=>(mem_append.mp hp).elim (fun z=>I.pin p (mem_append_right _ z)) fun z=>by
  obtain ⟨hb,e⟩:=ZhB z
  obtain ⟨f0,f1,f2,_⟩:=hf p.1 hb
  obtain ⟨o,e',d⟩:=ho p.1 hb
  rw [e] at e';cases e'
  exact ⟨e,f0,f1,f2,d⟩
theorem Inv.unpinned {pins pl:List (Addr×Obj)}{σ:St}{H:Hp}{s:Shared}(I:Inv X (pins++pl) σ H s):Inv X pins σ H s:=I.pins_of fun p hp=>I.pin p (mem_append_right _ (List.mem_append_left _ hp))
theorem Xi {iter:Expr}{body:List Stmt}{wi:TI}{g:TG}{tb:TS}{pos:Pos}(hp:PassesOwn (model X.prog X.w) X.A X.env X.xe)(hc:X.calm=true)(hi:PI X tg iter wi)(hg:PG X tg g)(hb:PSs X body tb)
 (hs:∀ x,foldedSetIterable iter X.env x=pure x:=by intro _;rfl):PS X (.For tg iter body [] pos) (tFor wi g tb):=by
 intro pins s σ H D I h
 refine wpAny_For (Zn (hi pins s σ H _ I h) fun v s1 h1=>Zn h1 fun itv s2 h2=>?_) hs
 obtain ⟨it,fp,tn,J,H2,e,I2,T,st2,f2,W,⟨m0,w0⟩,turn⟩:=h2
 subst e
 have stat:∀ {H':Hp},(∀ b∈fp,H' b=none)->∀ b∈fp,YD X pins H' b:=fun hn b hb=>⟨hn b hb,(f2 b hb).2⟩
 refine codeAny_forLoop_any (fun n s'=>∃ i σ' H',Inv X pins σ' H' s'/\tn i s'.heap/\(∀ b∈fp,H' b=none)/\W i n σ' H') ?_ m0 ⟨0,σ,H2,I2,st2,fun b hb=>(f2 b hb).1,w0⟩
 rintro n s3 ⟨i,σ3,H3,I3,st3,fr3,w3⟩
 rcases turn i n σ3 H3 w3 with ⟨stop,qn⟩ | ⟨go,N,hN,step⟩
 ·refine wpAny_passesOwn hp (Zn (T.done X rfl rfl rfl hc i pins s3 σ3 H3 X.xe I3 (stat fr3) st3 stop) fun r s4 ⟨hr,I4⟩=>?_)
  subst hr
  exact wpAny_execs_nil ⟨σ3,H3,I4,qn⟩
 ·refine wpAny_passesOwn hp (Zn (T.item X rfl rfl rfl hc i pins s3 σ3 H3 X.xe I3 (stat fr3) st3 go) fun r s4 ⟨u,hr,h4⟩=>?_)
  subst hr
  refine wpAny_passesOwn hp (Zn h4 fun _ s5 ⟨x,H5,I5,r5,y5,st5,fr5⟩=>?_)
  have I5':=I5.pinned (stat fr5) (T.obj _ _ st5)
  refine wpAny_passesOwn hp (Zn (hg _ s5 σ3 H5 x u _ I5' r5 (step x H5 y5)) fun _ s6 ⟨σ6,H6,I6,q6⟩=>?_)
  refine wpAny_passesOwn hp (Zn (hb _ s6 σ6 H6 _ I6 q6) fun f s7 q7=>?_)
  have again:∀ {σ7:St} {H7:Hp},Inv X (pins++Zbr fp s5.heap) σ7 H7 s7->N σ7 H7->∃ m,m < n/\∃ i σ' H',Inv X pins σ' H' s7/\tn i s7.heap/\(∀ b∈fp,H' b=none)/\W i m σ' H':=fun {σ7 H7} I7 n7=>by
   obtain ⟨m',hm,w7⟩:=hN σ7 H7 n7
   refine ⟨m',hm,i+1,σ7,H7,I7.unpinned,T.keep _ _ _ st5 fun b hb o e=>(I7.pin (b,o) (mem_append_right _ (mem_append_right _ (Yt hb e)))).1,fun b hb=>?_,w7⟩
   obtain ⟨o,e,d⟩:=T.obj _ _ st5 b hb
   exact (I7.pin (b,o) (mem_append_right _ (mem_append_right _ (Yt hb e)))).2.1
  cases f with
  | next=>obtain ⟨σ7,H7,I7,n7⟩:=q7;exact again I7 n7
  | cont=>obtain ⟨σ7,H7,I7,n7⟩:=q7;exact again I7 n7
  | brk=>obtain ⟨σ7,H7,I7,q7⟩:=q7;exact ⟨σ7,H7,I7.unpinned,q7⟩
  | ret v=>obtain ⟨x7,σ7,H7,I7,r7,q7⟩:=q7;exact ⟨x7,σ7,H7,I7.unpinned,r7,q7⟩
end
theorem Wl {K:KF}{a:Addr}{xs:List V}{g:TG}{tb:TS}{D:UA}{σ:St}{H:Hp}(Pv:Nat->St->Hp->Prop)(h0:Pv 0 σ H)(hl:∀ i σ H,i<=xs.length->Pv i σ H->SqL K H a xs)
 (hs:∀ i x σ H,xs[i]?=some x->Pv i σ H->g x σ H fun σ2 H2=>tb { D with nx:=Pv (i+1),ct:=Pv (i+1),bk:=D.nx } σ2 H2) (hd:∀ σ H,Pv xs.length σ H->D.nx σ H) :
 ∃ W:Nat->Nat->St->Hp->Prop,(∃ m,W 0 m σ H)/\∀ i m σ H,W i m σ H ->
  ((Itl K a).stop i H/\D.nx σ H)\/((Itl K a).go i H/\∃ N:St->Hp->Prop,(∀ σ' H',N σ' H'->∃ m',m' < m/\W (i+1) m' σ' H')/\∀ x H',(Itl K a).yld i H x H'->g x σ H' fun σ2 H2=>tb { D with nx:=N,ct:=N,bk:=D.nx } σ2 H2):=by
 refine ⟨fun i m σ H=>m=xs.length - i/\i<=xs.length/\Pv i σ H,⟨xs.length,by simp,Nat.zero_le _,h0⟩,?_⟩
 rintro i m σ H ⟨rfl,hi,p⟩
 have q:=hl i σ H hi p
 by_cases hlt:i < xs.length
 ·refine .inr ⟨⟨xs,xs[i],q,by simp [hlt]⟩,Pv (i+1),fun σ' H' p'=>⟨xs.length - (i+1),by omega,rfl,hlt,p'⟩,fun x H' y=>?_⟩
  obtain ⟨e,y⟩:=y
  subst e
  exact hs i x σ _ (y xs q) p
 ·have e:i=xs.length:=by omega
  subst e
  exact .inl ⟨⟨xs,q,Nat.le_refl _⟩,hd σ H p⟩
theorem ZkK {K:KF}{a:Addr}{xs:List V}{g:TG}{tb:TS}{D:UA}{σ:St}{H:Hp}(Pv:Nat->St->Hp->Prop)(h0:Pv 0 σ H)(hl:∀ i σ H,i<=xs.length->Pv i σ H->SqT K H a xs)
 (hs:∀ i x σ H,xs[i]?=some x->Pv i σ H->g x σ H fun σ2 H2=>tb { D with nx:=Pv (i+1),ct:=Pv (i+1),bk:=D.nx } σ2 H2) (hd:∀ σ H,Pv xs.length σ H->D.nx σ H) :
 ∃ W:Nat->Nat->St->Hp->Prop,(∃ m,W 0 m σ H)/\∀ i m σ H,W i m σ H ->
  ((Itt K a).stop i H/\D.nx σ H)\/((Itt K a).go i H/\∃ N:St->Hp->Prop,(∀ σ' H',N σ' H'->∃ m',m' < m/\W (i+1) m' σ' H')/\∀ x H',(Itt K a).yld i H x H'->g x σ H' fun σ2 H2=>tb { D with nx:=N,ct:=N,bk:=D.nx } σ2 H2):=by
 refine ⟨fun i m σ H=>m=xs.length - i/\i<=xs.length/\Pv i σ H,⟨xs.length,by simp,Nat.zero_le _,h0⟩,?_⟩
 rintro i m σ H ⟨rfl,hi,p⟩
 have q:=hl i σ H hi p
 by_cases hlt:i < xs.length
 ·refine .inr ⟨⟨xs,xs[i],q,by simp [hlt]⟩,Pv (i+1),fun σ' H' p'=>⟨xs.length - (i+1),by omega,rfl,hlt,p'⟩,fun x H' y=>?_⟩
  obtain ⟨e,y⟩:=y
  subst e
  exact hs i x σ _ (y xs q) p
 ·have e:i=xs.length:=by omega
  subst e
  exact .inl ⟨⟨xs,q,Nat.le_refl _⟩,hd σ H p⟩
theorem Ux {lo:Int}{n:Nat}{g:TG}{tb:TS}{D:UA}{σ:St}{H:Hp}(Pv:Nat->St->Hp->Prop)(h0:Pv 0 σ H)
 (hs:∀ i σ H,i < n->Pv i σ H->g (.int (lo+i)) σ H fun σ2 H2=>tb { D with nx:=Pv (i+1),ct:=Pv (i+1),bk:=D.nx } σ2 H2) (hd:∀ σ H,Pv n σ H->D.nx σ H) :
 ∃ W:Nat->Nat->St->Hp->Prop,(∃ m,W 0 m σ H)/\∀ i m σ H,W i m σ H ->
  ((Itr lo n).stop i H/\D.nx σ H)\/((Itr lo n).go i H/\∃ N:St->Hp->Prop,(∀ σ' H',N σ' H'->∃ m',m' < m/\W (i+1) m' σ' H')/\∀ x H',(Itr lo n).yld i H x H'->g x σ H' fun σ2 H2=>tb { D with nx:=N,ct:=N,bk:=D.nx } σ2 H2):=by
 refine ⟨fun i m σ H=>m=n - i/\i<=n/\Pv i σ H,⟨n,by simp,Nat.zero_le _,h0⟩,?_⟩
 rintro i m σ H ⟨rfl,hi,p⟩
 by_cases hlt:i < n
 ·refine .inr ⟨hlt,Pv (i+1),fun σ' H' p'=>⟨n - (i+1),by omega,rfl,hlt,p'⟩,fun x H' y=>?_⟩
  obtain ⟨e,y⟩:=y
  subst e y
  exact hs i σ _ hlt p
 ·have e:i=n:=by omega
  subst e
  exact .inl ⟨Nat.le_refl _,hd σ H p⟩
abbrev R2:=V->V->Hp->VK->Prop
def Xb (X:Cx)(f:Value->Value->Sem Value)(r:R2):Prop :=
 ∀ (pins:List (Addr×Obj)) (s:Shared) (σ:St) (H:Hp) (x y:V) (v u:Value) (Q:VK),Inv X pins σ H s->RelV x v->RelV y u->r x y H Q ->
  wpAny (model X.prog X.w) X.A (f v u) (EP X pins σ Q) X.xe s
def UnR (X:Cx)(f:Value->Sem Value)(r:V->Hp->VK->Prop):Prop :=
 ∀ (pins:List (Addr×Obj)) (s:Shared) (σ:St) (H:Hp) (x:V) (v:Value) (Q:VK),Inv X pins σ H s->RelV x v->r x H Q ->
  wpAny (model X.prog X.w) X.A (f v) (EP X pins σ Q) X.xe s
def Yw (X:Cx)(f:Value)(r:List V->Hp->VK->Prop):Prop :=
 ∀ (pins:List (Addr×Obj)) (s:Shared) (σ:St) (H:Hp) (xs:List V) (us:List Value) (Q:VK),Inv X pins σ H s->Vals xs us->r xs H Q ->
  wpAny (model X.prog X.w) X.A (call f us) (EP X pins σ Q) X.xe s
def TruR (X:Cx)(r:V->Hp->(Bool->Hp->Prop)->Prop):Prop :=
 ∀ (pins:List (Addr×Obj)) (s:Shared) (σ:St) (H:Hp) (x:V) (v:Value) (Q:Bool->Hp->Prop),Inv X pins σ H s->RelV x v->r x H Q ->
  wpAny (model X.prog X.w) X.A (truthy v) (TP X pins σ Q) X.xe s
def tOp (r:R2)(ta tb:TE):TE:=fun σ H Q=>ta σ H fun x H1=>tb σ H1 fun y H2=>r x y H2 Q
def tUn (r:V->Hp->VK->Prop)(ta:TE):TE:=fun σ H Q=>ta σ H fun x H1=>r x H1 Q
def rI (C:Int->Int->Prop)(g:Int->Int->V):R2:=fun x y H Q=>∃ i j,x=.int i/\y=.int j/\C i j/\Q (g i j) H
def rI0 (g:Int->Int->V):R2:=fun x y H Q=>∃ i j,x=.int i/\y=.int j/\Q (g i j) H
def rU (g:Int->V):V->Hp->VK->Prop:=fun x H Q=>∃ i,x=.int i/\Q (g i) H
section
variable {X:Cx}{a b c:Expr}{ta tb tc:TE}{pos:Pos}
theorem Zij (ha:PE X a ta)(hb:PE X b tb){pins:List (Addr×Obj)}{s:Shared}{σ:St}{H:Hp}{R:V->V->Hp->Prop}(I:Inv X pins σ H s)
 (h:ta σ H fun x H1=>tb σ H1 fun y H2=>R x y H2) {Q:ZB} {f:Value->Value->Sem Value}
 (hf:∀ v u s2 x y H2,Inv X pins σ H2 s2->RelV x v->RelV y u->R x y H2->wpAny (model X.prog X.w) X.A (f v u) Q X.xe s2) :
 wpAny (model X.prog X.w) X.A (eval a X.env) (fun v s₁=>wpAny (model X.prog X.w) X.A (eval b X.env) (fun u s₂=>wpAny (model X.prog X.w) X.A (f v u) Q X.xe s₂) X.xe s₁) X.xe s:=by
 refine Zn (ha pins s σ H _ I h) fun v s1 ⟨x,H1,I1,r1,q1⟩=>?_
 refine Zn (hb pins s1 σ H1 _ I1 q1) fun u s2 ⟨y,H2,I2,r2,q2⟩=>?_
 exact hf v u s2 x y H2 I2 r1 r2 q2
theorem Zr {op:Operator}{r:R2}(ho:Xb X (binaryOp op) r)(ha:PE X a ta)(hb:PE X b tb):PE X (.BinOp a op b pos) (tOp r ta tb):=by
 intro pins s σ H Q I h
 exact wpAny_BinOp (Zij ha hb I h fun v u s2 x y H2 I2 rx ry q=>ho pins s2 σ H2 x y v u Q I2 rx ry q)
theorem Zfm {op:UnaryOp}{r:V->Hp->VK->Prop}(ho:UnR X (unaryOp op) r)(ha:PE X a ta):PE X (.UnaryOp op a pos) (tUn r ta):=by
 intro pins s σ H Q I h
 exact UnaryOp_ (Zn (ha pins s σ H _ I h) fun v s1 ⟨x,H1,I1,r1,q1⟩=>ho pins s1 σ H1 x v Q I1 r1 q1)
theorem opI {f:Value->Value->Sem Value}{C:Int->Int->Prop}{g:Int->Int->Int}
 (rule:∀ (i j:Int) (t u:Tok) (s:Shared) (Q:ZB) (E:ZB),C i j->Q (.int (g i j) s.toks) { s with toks:=s.toks+1 }->wpAny (model X.prog X.w) X.A (f (.int i t) (.int j u)) Q E s) :
 Xb X f (rI C fun i j=>.int (g i j)):=by
 intro pins s σ H x y v u Q I rx ry h
 obtain ⟨i,j,rfl,rfl,hc,q⟩:=h
 obtain ⟨t,rfl⟩:=rx
 obtain ⟨t',rfl⟩:=ry
 exact rule i j t t' s _ _ hc ⟨.int (g i j),H,I.tok _,⟨_,rfl⟩,q⟩
theorem opI0 {f:Value->Value->Sem Value}{g:Int->Int->Int}
 (rule:∀ (i j:Int) (t u:Tok) (s:Shared) (Q:ZB) (E:ZB),Q (.int (g i j) s.toks) { s with toks:=s.toks+1 }->wpAny (model X.prog X.w) X.A (f (.int i t) (.int j u)) Q E s) :
 Xb X f (rI0 fun i j=>.int (g i j)):=by
 intro pins s σ H x y v u Q I rx ry h
 obtain ⟨i,j,rfl,rfl,q⟩:=h
 obtain ⟨t,rfl⟩:=rx
 obtain ⟨t',rfl⟩:=ry
 exact rule i j t t' s _ _ ⟨.int (g i j),H,I.tok _,⟨_,rfl⟩,q⟩
theorem Zgl {f:Value->Value->Sem Value}{g:Int->Int->Bool}
 (rule:∀ (i j:Int) (t u:Tok) (s:Shared) (Q:ZB) (E:ZB),Q (.bool (g i j)) s->wpAny (model X.prog X.w) X.A (f (.int i t) (.int j u)) Q E s) :
 Xb X f (rI0 fun i j=>.bl (g i j)):=by
 intro pins s σ H x y v u Q I rx ry h
 obtain ⟨i,j,rfl,rfl,q⟩:=h
 obtain ⟨t,rfl⟩:=rx
 obtain ⟨t',rfl⟩:=ry
 exact rule i j t t' s _ _ ⟨.bl (g i j),H,I,rfl,q⟩
def CDiv (i j:Int):Prop:=0 < j/\j < 1073741824
def CPow (i j:Int):Prop:=0<=j/\j<=1000000/\i.natAbs < 2 ^ 64
def CMul (i j:Int):Prop:=(-(2 ^ 64) < i/\i < 2 ^ 64)\/(-(2 ^ 64) < j/\j < 2 ^ 64)
theorem CMul.ok {i j:Int}(h:CMul i j):IntMulOk i j:=by
 rcases h with ⟨h1,h2⟩ | ⟨h1,h2⟩
 ·exact .of_left (intBits_le_64 h1 h2)
 ·exact .of_right (intBits_le_64 h1 h2)
theorem YL:Xb X (binaryOp .Add) (rI0 fun i j=>.int (i+j)):=opI0 fun _ _ _ _ _ _ _ q=>add_int q
theorem YE:Xb X (binaryOp .Sub) (rI0 fun i j=>.int (i - j)):=opI0 fun _ _ _ _ _ _ _ q=>sub_int q
theorem Wz:Xb X (binaryOp .Mult) (rI CMul fun i j=>.int (i * j)):=opI fun _ _ _ _ _ _ _ hc q=>mul_int q hc.ok
theorem ZeV:Xb X (binaryOp .FloorDiv) (rI CDiv fun i j=>.int (i / j)):=opI fun i j _ _ _ _ _ hc q=>by
 have h1:(0:Int) < j:=hc.1
 have h2:j < 1073741824:=hc.2
 exact floordiv_int (by omega) (by rw [Int.fdiv_eq_ediv_of_nonneg i (by omega)];exact q) (.inl (PyProof.noPylong_small (by omega)))
theorem Xx:Xb X (binaryOp .Mod) (rI (fun _ j=>0 < j) fun i j=>.int (i % j)):=opI fun i j _ _ _ _ _ hc q=>by
 have h1:(0:Int) < j:=hc
 exact mod_int' (by omega) (by rw [Int.fmod_eq_emod_of_nonneg i (by omega)];exact q)
theorem Zbd:Xb X (binaryOp .Pow) (rI CPow fun i j=>.int (i ^ j.toNat)):=opI fun _ _ _ _ _ _ _ hc q=>pow_int_small hc.1 hc.2.1 hc.2.2 q
theorem unI {f:Value->Sem Value}{g:Int->Int}
 (rule:∀ (i:Int) (t:Tok) (s:Shared) (Q:ZB) (E:ZB),Q (.int (g i) s.toks) { s with toks:=s.toks+1 }->wpAny (model X.prog X.w) X.A (f (.int i t)) Q E s) :
 UnR X f (rU fun i=>.int (g i)):=by
 intro pins s σ H x v Q I rx h
 obtain ⟨i,rfl,q⟩:=h
 obtain ⟨t,rfl⟩:=rx
 exact rule i t s _ _ ⟨.int (g i),H,I.tok _,⟨_,rfl⟩,q⟩
theorem ZdS:UnR X (unaryOp .USub) (rU fun i=>.int (-i)):=unI fun _ _ _ _ _ q=>neg_int q
end
def scal:V->V->Bool
 | .non,.non=>true | .non,.int _=>true | .int _,.non=>true | .non,.bl _=>true | .bl _,.non=>true | .non,.str _=>true | .str _,.non=>true
 | .int _,.int _=>true | .bl _,.bl _=>true | .str _,.str _=>true | .byt _,.byt _=>true
 | .int _,.str _=>true | .str _,.int _=>true | .bl _,.str _=>true | .str _,.bl _=>true
 | _,_=>false
def rEq:R2:=fun x y H Q=>scal x y=true/\Q (.bl (decide (x=y))) H
def rNe:R2:=fun x y H Q=>scal x y=true/\Q (.bl (!decide (x=y))) H
theorem ZeW {i j:Int}:decide (V.int i=V.int j)=(i == j):=by
 rw [Bool.eq_iff_iff]
 simp
theorem Zgr {i j:Bool}:decide (V.bl i=V.bl j)=(i == j):=by
 rw [Bool.eq_iff_iff]
 simp
theorem Zfd {i j:Str}:decide (V.str i=V.str j)=(i == j):=by
 rw [Bool.eq_iff_iff]
 simp
theorem ZeR {i j:Array UInt8}:decide (V.byt i=V.byt j)=(i.toList == j.toList):=by
 rw [Bool.eq_iff_iff]
 cases i
 cases j
 simp
section
variable {X:Cx}{a b c:Expr}{ta tb tc:TE}{pos:Pos}
theorem ZV {pins:List (Addr×Obj)}{σ:St}{H:Hp}{s:Shared}{Q:VK}{k k':Bool}(I:Inv X pins σ H s)(q:Q (.bl k) H)(e:k=k'):EP X pins σ Q (.bool k') s:=by
 subst e
 exact ⟨.bl k,H,I,rfl,q⟩
theorem YA:Xb X (compareOp .Eq) rEq:=by
 intro pins s σ H x y v u Q I rx ry h
 obtain ⟨hs,q⟩:=h
 cases x with
 | non =>
  cases rx
  cases y with
  | non=>cases ry;exact PySem.EqNone.eq_none_none (ZV I q (by simp))
  | bl j=>cases ry;exact PySem.EqNone.eq_none_bool (ZV I q (by simp))
  | int j=>obtain ⟨t',rfl⟩:=ry;exact PySem.EqNone.eq_none_int (ZV I q (by simp))
  | str j=>obtain ⟨t',rfl⟩:=ry;exact PySem.EqNone.eq_none_str (ZV I q (by simp))
  | _=>exact absurd (show false=true from hs) Bool.false_ne_true
 | bl i =>
  cases rx
  cases y with
  | non=>cases ry;exact PySem.EqNone.eq_bool_none (ZV I q (by simp))
  | bl j=>cases ry;exact eq_bool (ZV I q Zgr)
  | str j=>obtain ⟨t',rfl⟩:=ry;exact PySem.EqMixed.eq_bool_str (ZV I q (by simp))
  | _=>exact absurd (show false=true from hs) Bool.false_ne_true
 | int i =>
  obtain ⟨t,rfl⟩:=rx
  cases y with
  | non=>cases ry;exact PySem.EqNone.eq_int_none (ZV I q (by simp))
  | int j=>obtain ⟨t',rfl⟩:=ry;exact eq_int (ZV I q ZeW)
  | str j=>obtain ⟨t',rfl⟩:=ry;exact PySem.EqMixed.eq_int_str (ZV I q (by simp))
  | _=>exact absurd (show false=true from hs) Bool.false_ne_true
 | str i =>
  obtain ⟨t,rfl⟩:=rx
  cases y with
  | non=>cases ry;exact PySem.EqNone.eq_str_none (ZV I q (by simp))
  | bl j=>cases ry;exact PySem.EqMixed.eq_str_bool (ZV I q (by simp))
  | int j=>obtain ⟨t',rfl⟩:=ry;exact PySem.EqMixed.eq_str_int (ZV I q (by simp))
  | str j=>obtain ⟨t',rfl⟩:=ry;exact eq_str (ZV I q Zfd)
  | _=>exact absurd (show false=true from hs) Bool.false_ne_true
 | byt i =>
  obtain ⟨t,rfl⟩:=rx
  cases y with
  | byt j=>obtain ⟨t',rfl⟩:=ry;exact PySem.W.eq_bytes (ZV I q ZeR)
  | _=>exact absurd (show false=true from hs) Bool.false_ne_true
 | _=>cases y<;>exact absurd (show false=true from hs) Bool.false_ne_true
theorem Zfy:Xb X (compareOp .NotEq) rNe:=by
 intro pins s σ H x y v u Q I rx ry h
 obtain ⟨hs,q⟩:=h
 cases x with
 | non =>
  cases rx
  cases y with
  | non=>cases ry;exact PySem.EqNone.ne_none_none (ZV I q (by simp))
  | bl j=>cases ry;exact PySem.EqNone.ne_none_bool (ZV I q (by simp))
  | int j=>obtain ⟨t',rfl⟩:=ry;exact PySem.EqNone.ne_none_int (ZV I q (by simp))
  | str j=>obtain ⟨t',rfl⟩:=ry;exact PySem.EqNone.ne_none_str (ZV I q (by simp))
  | _=>exact absurd (show false=true from hs) Bool.false_ne_true
 | bl i =>
  cases rx
  cases y with
  | non=>cases ry;exact PySem.EqNone.ne_bool_none (ZV I q (by simp))
  | bl j=>cases ry;exact ne_bool (ZV I q (congrArg not Zgr))
  | str j=>obtain ⟨t',rfl⟩:=ry;exact PySem.EqMixed.ne_bool_str (ZV I q (by simp))
  | _=>exact absurd (show false=true from hs) Bool.false_ne_true
 | int i =>
  obtain ⟨t,rfl⟩:=rx
  cases y with
  | non=>cases ry;exact PySem.EqNone.ne_int_none (ZV I q (by simp))
  | int j=>obtain ⟨t',rfl⟩:=ry;exact ne_int (ZV I q (congrArg not ZeW))
  | str j=>obtain ⟨t',rfl⟩:=ry;exact PySem.EqMixed.ne_int_str (ZV I q (by simp))
  | _=>exact absurd (show false=true from hs) Bool.false_ne_true
 | str i =>
  obtain ⟨t,rfl⟩:=rx
  cases y with
  | non=>cases ry;exact PySem.EqNone.ne_str_none (ZV I q (by simp))
  | bl j=>cases ry;exact PySem.EqMixed.ne_str_bool (ZV I q (by simp))
  | int j=>obtain ⟨t',rfl⟩:=ry;exact PySem.EqMixed.ne_str_int (ZV I q (by simp))
  | str j=>obtain ⟨t',rfl⟩:=ry;exact ne_str (ZV I q (congrArg not Zfd))
  | _=>exact absurd (show false=true from hs) Bool.false_ne_true
 | byt i =>
  obtain ⟨t,rfl⟩:=rx
  cases y with
  | byt j=>obtain ⟨t',rfl⟩:=ry;exact PySem.W.ne_bytes (ZV I q (congrArg not ZeR))
  | _=>exact absurd (show false=true from hs) Bool.false_ne_true
 | _=>cases y<;>exact absurd (show false=true from hs) Bool.false_ne_true
theorem Zac:Xb X (compareOp .Lt) (rI0 fun i j=>.bl (decide (i < j))):=Zgl fun _ _ _ _ _ _ _ q=>lt_int q
theorem Zkf:Xb X (compareOp .LtE) (rI0 fun i j=>.bl (decide (i<=j))):=Zgl fun _ _ _ _ _ _ _ q=>le_int q
theorem Zkx:Xb X (compareOp .Gt) (rI0 fun i j=>.bl (decide (j < i))):=Zgl fun _ _ _ _ _ _ _ q=>gt_int q
theorem ZjX:Xb X (compareOp .GtE) (rI0 fun i j=>.bl (decide (j<=i))):=Zgl fun _ _ _ _ _ _ _ q=>ge_int q
theorem ZM (b:Expr){op:CmpOp}(h:op≠.In:=by decide)(h2:op≠.NotIn:=by decide):behindInMarks op b=false:=by
 have e1:(op == CmpOp.In)=false:=by cases op<;>first | rfl | exact absurd rfl h
 have e2:(op == CmpOp.NotIn)=false:=by cases op<;>first | rfl | exact absurd rfl h2
 cases b<;>simp [behindInMarks,e1,e2]
theorem YZ {op:CmpOp}{r:R2}(ho:Xb X (compareOp op) r)(ha:PE X a ta)(hb:PE X b tb)(hm:behindInMarks op b=false):PE X (.Compare a [op] [b] pos) (tOp r ta tb):=by
 intro pins s σ H Q I h
 exact wpAny_Compare1 (Zij ha hb I h fun v u s2 x y H2 I2 rx ry q=>ho pins s2 σ H2 x y v u Q I2 rx ry q) hm
def Zkw (t:TE):TT:=fun σ H Q=>t σ H fun x H'=>∃ k,x=.bl k/\Q k H'
theorem ZX {op:CmpOp}{r:R2}(ho:Xb X (compareOp op) r)(ha:PE X a ta)(hb:PE X b tb)(hm:behindInMarks op b=false):PT X (.Compare a [op] [b] pos) (Zkw (tOp r ta tb)):=by
 intro pins s σ H Q I h
 refine wpAny_isTrue_Compare1 (Zn (ha pins s σ H _ I h) fun v s1 ⟨x,H1,I1,r1,q1⟩=>Zn (hb pins s1 σ H1 _ I1 q1) fun u s2 ⟨y,H2,I2,r2,q2⟩ =>
  Zn (ho pins s2 σ H2 x y v u _ I2 r1 r2 q2) fun c s3 ⟨z,H3,I3,r3,k,e,q3⟩=>?_) hm
 subst e
 cases r3
 exact wpAny_truthy_bool ⟨H3,I3,q3⟩
def ZlX (r r':R2)(ta tb tc:TE):TE:=fun σ H Q=>ta σ H fun x H1=>tb σ H1 fun y H2=>r x y H2 fun z H3=>∃ k,z=.bl k /\
 (if k=true then tc σ H3 fun w' H4=>r' y w' H4 Q else Q (.bl false) H3)
theorem Zdz {op op':CmpOp}{r r':R2}(ho:Xb X (compareOp op) r)(ho':Xb X (compareOp op') r')(ha:PE X a ta)(hb:PE X b tb)(hc:PE X c tc)
 (hm:lastMarks [op,op'] [b,c]=false:=by with_unfolding_all rfl):PT X (.Compare a [op,op'] [b,c] pos) (Zkw (ZlX r r' ta tb tc)):=by
 intro pins s σ H Q I h
 refine isTrue_chain (Zn (ha pins s σ H _ I h) fun v s1 ⟨x,H1,I1,r1,q1⟩=>test_link (Zn (hb pins s1 σ H1 _ I1 q1) fun u s2 ⟨y,H2,I2,r2,q2⟩ =>
  Zn (ho pins s2 σ H2 x y v u _ I2 r1 r2 q2) fun d s3 ⟨z,H3,I3,r3,k,e,q3⟩=>?_)) hm
 subst e
 cases r3
 refine wpAny_truthy_bool ?_
 cases k with
 | false =>
  obtain ⟨k',e',q'⟩:=q3
  cases e'
  exact ite_ff ⟨H3,I3,q'⟩
 | true =>
  refine ite_tt (test_last (Zn (hc pins s3 σ H3 _ I3 q3) fun w' s4 ⟨z',H4,I4,r4,q4⟩=>Zn (ho' pins s4 σ H4 y z' u w' _ I4 r2 r4 q4) fun d' s5 ⟨z2,H5,I5,r5,k2,e2,q5⟩=>?_))
  subst e2
  cases r5
  exact wpAny_truthy_bool ⟨H5,I5,q5⟩
def TruV (K:KF)(x:V)(H:Hp)(k:Bool):Prop :=
 match x with
 | .non=>k=false
 | .bl b=>k=b
 | .int i=>k=(i != 0)
 | .str y=>y.length<=sizeLine/\k=((y.length:Int) != 0)
 | .byt y=>y.size<=sizeLine/\k=((y.size:Int) != 0)
 | .ref p=>(∃ xs,SqL K H p xs/\k=!xs.isEmpty)\/(∃ xs,SqT K H p xs/\k=!xs.isEmpty)\/∃ kvs,H p=some (.dK kvs)/\k=!kvs.isEmpty
 | _=>False
theorem ZfK {κ:Type}{kvs:List (κ×V)}{vs:List (κ×Value)}(r:KV kvs vs):(!vs.isEmpty)=!kvs.isEmpty:=by
 cases r<;>rfl
theorem Zba {xs:List V}{its:List Value}(r:Vals xs its):(!its.toArray.isEmpty)=!xs.isEmpty:=by
 cases r<;>simp
theorem WV:(sizeLine:Nat) < 2 ^ 63:=by rw [sizeLine_eq];decide
theorem Znj:TruR X (fun x H Q=>∃ k,TruV X.K x H k/\Q k H):=by
 intro pins s σ H x v Q I rx h
 obtain ⟨k,e,q⟩:=h
 have hl:=WV
 have hs:sizeLine=16777216:=sizeLine_eq
 cases x with
 | non =>
  cases rx
  have e':k=false:=e
  subst e'
  exact truthy_none ⟨H,I,q⟩
 | bl b =>
  cases rx
  have e':k=b:=e
  subst e'
  exact wpAny_truthy_bool ⟨H,I,q⟩
 | int i =>
  obtain ⟨t,rfl⟩:=rx
  have e':k=(i != 0):=e
  subst e'
  exact PySem.P.truthy_int ⟨H,I,q⟩
 | str y =>
  obtain ⟨t,rfl⟩:=rx
  obtain ⟨hy,e'⟩:y.length<=sizeLine/\k=((y.length:Int) != 0):=e
  subst e'
  exact PySem.P.truthy_str (by omega) ⟨H,I.tok _,q⟩
 | byt y =>
  obtain ⟨t,rfl⟩:=rx
  obtain ⟨hy,e'⟩:y.size<=sizeLine/\k=((y.size:Int) != 0):=e
  subst e'
  exact PySem.W.truthy_bytes (by omega) ⟨H,I.tok _,q⟩
 | ref p =>
  cases rx
  have e':(∃ xs,SqL X.K H p xs/\k=!xs.isEmpty)\/(∃ xs,SqT X.K H p xs/\k=!xs.isEmpty)\/∃ kvs,H p=some (.dK kvs)/\k=!kvs.isEmpty:=e
  rcases e' with ⟨xs,hx,e'⟩ | ⟨xs,hx,e'⟩ | ⟨kvs,hx,e'⟩
  ·subst e'
   obtain ⟨its,r,pl,hz⟩:=I.list hx
   have hlen:=r.length
   exact wpAny_truthy_list pl.isList (by simp only [size_toArray];omega) ⟨H,I.tok _,by rw [Zba r];exact q⟩
  ·subst e'
   obtain ⟨its,r,pl,hz⟩:=I.tuple hx
   have hlen:=r.length
   exact truthy_tuple pl (by simp only [size_toArray];omega) ⟨H,I.tok _,by rw [Zba r];exact q⟩
  ·subst e'
   obtain ⟨hz,hS,vs,r,m⟩:kvs.length<=sizeLine/\(p == sysModules)=false/\∃ vs,KV kvs vs/\s.heap.DictOf (Zl X.prog X.w) p vs:=I.hok p _ hx
   have hlen:kvs.length=vs.length:=Paired.length r
   exact wpAny_truthy_dict hS m (by omega) ⟨H,I.tok _,by rw [ZfK r];exact q⟩
 | _=>exact (show False from e).elim
theorem Wo (ha:PE X a ta)(he:∀ whole,isTrue a X.env whole=(do let v <- whole;standAt a.pos;holding [v] (truthy v))) :
 PT X a (fun σ H Q=>ta σ H fun x H'=>∃ k,TruV X.K x H' k/\Q k H'):=by
 intro pins s σ H Q I h
 exact isTrue_plain (Zn (ha pins s σ H _ I h) fun v s1 ⟨x,H1,I1,r1,q1⟩=>Znj pins s1 σ H1 x v Q I1 r1 q1) (he _)
theorem Wb:Xb X (binaryOp .Add) (fun x y H Q=>∃ i j,x=.str i/\y=.str j/\i.length+j.length<=sizeLine/\Q (.str (i++j)) H):=by
 intro pins s σ H x y v u Q I rx ry h
 obtain ⟨i,j,rfl,rfl,hz,q⟩:=h
 obtain ⟨t,rfl⟩:=rx
 obtain ⟨t',rfl⟩:=ry
 exact add_str (fun t' tk=>⟨.str (i++j),H,I.tok _,⟨_,rfl⟩,q⟩) hz
theorem Yx {x:V}{us:List Value}(r:Vals [x] us):∃ u,us=[u]/\RelV x u:=by
 cases r with
 | cons r1 r2=>cases r2;exact ⟨_,rfl,r1⟩
theorem Zbw {x y:V}{us:List Value}(r:Vals [x,y] us):∃ u w',us=[u,w']/\RelV x u/\RelV y w':=by
 cases r with
 | cons r1 r2 =>
  cases r2 with
  | cons r3 r4=>cases r4;exact ⟨_,_,rfl,r1,r3⟩
theorem Zeo:Yw X (.builtin "abs") (fun xs H Q=>∃ i,xs=[.int i]/\Q (.int (if i < 0 then -i else i)) H):=by
 intro pins s σ H xs us Q I r h
 obtain ⟨i,rfl,q⟩:=h
 obtain ⟨u,rfl,t,rfl⟩:=Yx r
 exact call_abs_int fun u tk=>⟨.int (if i < 0 then -i else i),H,I.tok _,⟨_,rfl⟩,q⟩
theorem Zgw (hc:X.calm=true):Yw X (.builtin "max") (fun xs H Q=>∃ i j,xs=[.int i,.int j]/\Q (.int (if j > i then j else i)) H):=by
 intro pins s σ H xs us Q I r h
 obtain ⟨i,j,rfl,q⟩:=h
 obtain ⟨u,w',rfl,⟨t,rfl⟩,⟨t',rfl⟩⟩:=Zbw r
 refine max_two_ints (I.ok.hd hc) fun h' tk k=>⟨_,H,I.kept k,?_,q⟩
 by_cases hj:j > i
 ·rw [if_pos hj,if_pos hj];exact ⟨_,rfl⟩
 ·rw [if_neg hj,if_neg hj];exact ⟨_,rfl⟩
theorem ZgX (hc:X.calm=true):Yw X (.builtin "min") (fun xs H Q=>∃ i j,xs=[.int i,.int j]/\Q (.int (if j < i then j else i)) H):=by
 intro pins s σ H xs us Q I r h
 obtain ⟨i,j,rfl,q⟩:=h
 obtain ⟨u,w',rfl,⟨t,rfl⟩,⟨t',rfl⟩⟩:=Zbw r
 refine min_two_ints (I.ok.hd hc) fun h' tk k=>⟨_,H,I.kept k,?_,q⟩
 by_cases hj:j < i
 ·rw [if_pos hj,if_pos hj];exact ⟨_,rfl⟩
 ·rw [if_neg hj,if_neg hj];exact ⟨_,rfl⟩
theorem Zcv:Yw X (.type "int") (fun xs H Q=>(∃ i,xs=[.int i]/\Q (.int i) H)\/∃ k,xs=[.bl k]/\Q (.int (if k then 1 else 0)) H):=by
 intro pins s σ H xs us Q I r h
 rcases h with ⟨i,rfl,q⟩ | ⟨k,rfl,q⟩
 ·obtain ⟨u,rfl,t,rfl⟩:=Yx r
  exact call_int_int ⟨.int i,H,I,⟨_,rfl⟩,q⟩
 ·obtain ⟨u,rfl,r1⟩:=Yx r
  cases r1
  exact call_int_bool ⟨.int (if k then 1 else 0),H,I.tok _,⟨_,rfl⟩,q⟩
theorem ZdQ:Yw X (.builtin "ord") (fun xs H Q=>∃ x,xs=[.str x]/\x.length=1/\Q (.int (x.cps.getD 0 0:Nat)) H):=by
 intro pins s σ H xs us Q I r h
 obtain ⟨x,rfl,hz,q⟩:=h
 obtain ⟨u,rfl,t,rfl⟩:=Yx r
 exact ord_of_one hz ⟨.int _,H,I.tok _,⟨_,rfl⟩,q⟩
def Ziw (K:KF)(x:V)(H:Hp)(n:Nat):Prop :=
 match x with
 | .str y=>y.length<=sizeLine/\n=y.length
 | .byt y=>y.size<=sizeLine/\n=y.size
 | .ref p=>(∃ xs,SqL K H p xs/\n=xs.length)\/∃ xs,SqT K H p xs/\n=xs.length
 | _=>False
theorem Zjm:Yw X (.builtin "len") (fun xs H Q=>∃ x n,xs=[x]/\Ziw X.K x H n/\Q (.int n) H):=by
 intro pins s σ H xs us Q I r h
 obtain ⟨x,n,rfl,e,q⟩:=h
 obtain ⟨u,rfl,rx⟩:=Yx r
 have hl:=WV
 have hs:sizeLine=16777216:=sizeLine_eq
 cases x with
 | str y =>
  obtain ⟨t,rfl⟩:=rx
  obtain ⟨hy,e'⟩:y.length<=sizeLine/\n=y.length:=e
  subst e'
  exact len_str (by omega) ⟨.int _,H,I.tok _,⟨_,rfl⟩,q⟩
 | byt y =>
  obtain ⟨t,rfl⟩:=rx
  obtain ⟨hy,e'⟩:y.size<=sizeLine/\n=y.size:=e
  subst e'
  exact PySem.W.len_bytes (by omega) ⟨.int _,H,I.tok _,⟨_,rfl⟩,q⟩
 | ref p =>
  cases rx
  have e':(∃ xs,SqL X.K H p xs/\n=xs.length)\/∃ xs,SqT X.K H p xs/\n=xs.length:=e
  rcases e' with ⟨xs,hx,e'⟩ | ⟨xs,hx,e'⟩
  ·subst e'
   obtain ⟨its,r',pl,hz⟩:=I.list hx
   have hlen:=r'.length
   exact Calls.call_len_list pl.isList (by simp only [size_toArray];omega) ⟨.int xs.length,H,I.tok _,⟨_,by simp only [size_toArray];rw [hlen]⟩,q⟩
  ·subst e'
   obtain ⟨its,r',pl,hz⟩:=I.tuple hx
   have hlen:=r'.length
   exact len_tuple pl (by simp only [size_toArray];omega) ⟨.int xs.length,H,I.tok _,⟨_,by simp only [size_toArray];rw [hlen]⟩,q⟩
 | _=>exact (show False from e).elim
theorem Zev:Yw X (.builtin "divmod") (fun xs H Q=>∃ i j,xs=[.int i,.int j]/\CDiv i j/\∀ p,H p=none->Q (.ref p) (upd H p (.tup [.int (i / j),.int (i % j)]))):=by
 intro pins s σ H xs us Q I r h
 obtain ⟨i,j,rfl,⟨h1,h2⟩,q⟩:=h
 obtain ⟨u,w',rfl,⟨t,rfl⟩,⟨t',rfl⟩⟩:=Zbw r
 refine divmod_int (by omega) ?_ (.inl (PyProof.noPylong_small (by omega)))
 rw [Int.fdiv_eq_ediv_of_nonneg i (by omega),Int.fmod_eq_emod_of_nonneg i (by omega)]
 have hn:H s.heap.objs.size=none:=I.hok.fresh (Nat.le_refl _)
 refine ⟨.ref s.heap.objs.size,_,?_,rfl,q _ hn⟩
 refine I.laid (fun b o e=>Heap.get?_push_of_some _ e) (Nat.le_refl _) ⟨by simp only [length_cons,List.length_nil];rw [sizeLine_eq];decide,[.int (i / j) s.toks,.int (i % j) (s.toks+1)],.cons ⟨_,rfl⟩ (.cons ⟨_,rfl⟩ .nil),?_⟩
 exact ⟨_,Heap.get?_push_size s.heap rfl,rfl,0,rfl⟩
end
structure ObjM (h:Heap)(x dx C:Addr)(mA:Str->Option Value):Prop where
 obj:h.get? x=some (PySem.W.instObj C dx)
 ns:h.Ns1 dx mA
 ne:dx≠x
theorem ZhC {h:Heap}{dx:Addr}{mA:Str->Option Value}(n:h.Ns1 dx mA):∃ od,h.get? dx=some od/\∀ name,PySem.W.lookIn name od=some (mA name):=by
 obtain ⟨o,es,ep,ho,hd,hk,_,hm⟩:=n
 refine ⟨o,ho,fun name=>?_⟩
 have e:=hm name
 unfold nsFind findBy at e
 rw [<- Array.find?_toList] at e
 unfold PySem.W.lookIn
 rw [hd]
 dsimp only
 split
 ·rename_i y q
  rw [q] at e
  exact congrArg some e
 ·rename_i q
  rw [q] at e
  have a:es.toList.any (·.refKey)=false:=by
   rw [List.any_eq_false]
   intro y hy
   obtain ⟨z,t,hkey⟩:=hk y (Array.mem_toList_iff.mp hy)
   simp [DictEntry.refKey,hkey]
  have a':¬ es.toList.any (·.refKey)=true:=by rw [a];exact Bool.false_ne_true
  rw [if_neg a']
  exact congrArg some e
theorem ObjM.look {h:Heap}{x dx C:Addr}{mA:Str->Option Value}(I:ObjM h x dx C mA):∃ od,PySem.W.InstAt h x (PySem.W.instObj C dx) C (some od)/\∀ name,PySem.W.lookIn name od=some (mA name) :=
 let ⟨od,ho,hl⟩:=ZhC I.ns
 ⟨od,⟨I.obj,rfl,rfl,ho⟩,hl⟩
section
variable {prog:Program}{w:World}{A:Around}{E:ZB}{s:Shared}{K:KF}{x dx C f:Addr}{mA:Str->Option Value}{name:Str}{v:Value}
theorem ZlD {expr:Bool}{Q:ZB}(X:K.In s.heap)(I:ObjM s.heap x dx C mA)(hg:PySem.W.plainGet K C name=true)(hh:PySem.W.hasDictIn K C=true)
 (ha:PySem.W.findIn K (.ref C) name=some none) (hv:mA name=some v) (hv':PySem.W.handedIn v=true) (h:Q v { s with toks:=s.toks+1 }) :
 wpAny (model prog w) A (getAttr (.ref x) name expr) Q E s:=by
 obtain ⟨od,J,hl⟩:=I.look
 exact PySem.W.get_value X J (PySem.W.plainGet_of hg).1 (PySem.W.findObj_own hh ha rfl (by rw [hl,hv])) hv' h
theorem Zid {pl:Sem Bool}{Q:Value×List Value->Shared->Prop}(X:K.In s.heap)(I:ObjM s.heap x dx C mA)(hg:PySem.W.plainGet K C name=true)
 (hf:PySem.W.findIn K (.ref C) name=some (some (.ref f))) (ht:PySem.W.isFn K (.ref f)=true) (hv:mA name=none) (h:Q (.ref f,[.ref x]) s) :
 wpAny (model prog w) A (getMethod (.ref x) name pl) Q E s:=by
 obtain ⟨od,J,hl⟩:=I.look
 exact PySem.W.method_fn X J (PySem.W.plainGet_of hg).1 (PySem.W.plainGet_of hg).2 hf (beq_iff_eq.mp ht) (by show (PySem.W.lookIn name od).map (·.isSome)=some false;rw [hl,hv];rfl) h
theorem ZlA {ns:List Str}{Q:Unit->Shared->Prop}(X:K.In s.heap)(I:ObjM s.heap x dx C mA)
 (hs:PySem.W.findIn K (.ref C) "__setattr__"=some (some (.builtin "object.__setattr__"))) (hp:PySem.W.plainOver K C=true) (ht:PySem.W.takerIn K C name=some none) (hh:PySem.W.hasDictIn K C=true)
 (hw:PySem.Within mA ns) (hsz:ns.length<=sizeLine)
 (h:∀ h',ObjM h' x dx C (fun y=>if y=name then some v else mA y)->Heap.SameBut dx s.heap h'->Q () { s with heap:=h',toks:=s.toks+2 }) :
 wpAny (model prog w) A (setAttr (.ref x) name v) Q E s:=by
 obtain ⟨od,J,hl⟩:=I.look
 refine PySem.W.set_plain X J hs (PySem.W.osa_open (s:={ s with toks:=s.toks+1 }) (r:=none) X J hp ht fun b=>?_)
 obtain ⟨cd,hc,hd'⟩:=PySem.W.any_some hh
 have hx:s.heap.get? x=some ⟨.ref C,some dx,.plain,#[]⟩:=I.obj
 refine wpAny_bind (wpAny_pure (wpAny_bind (wpAny_bind (wpAny_loadPart hx (wpAny_bind (PySem.W.Looks.here (s:={ s with toks:=s.toks+1 }) (PySem.W.looks_clsIn X hc) ?_))))))
 rw [hd']
 refine wpAny_pure (a:=some dx) (wpAny_bind (wpAny_pure (wpAny_bind ?_)))
 refine wpAny_nsSet1 (s:={ s with toks:=s.toks+1 }) I.ns fun h' hn2 hs2=>?_
 obtain ⟨oD,esD,epD,hoD,hdD,hcD⟩:=hn2.count (PySem.Within.cons name v hw)
 refine wpAny_bind (wpAny_lookBehind hoD (by rw [hdD];exact pastItsLine_dict (Nat.le_trans hcD (by rw [length_cons];omega))) ?_)
 exact wpAny_pure (h _ ⟨(hs2.2 _ (Ne.symm I.ne)).trans I.obj,hn2,I.ne⟩ hs2)
theorem Zjb {R:Result->Shared->Prop}{vs:List Value}{kw:List (Str×Value)}(X:K.In s.heap)(hm:PySem.W.makesIn K C=true)
 (hi:PySem.W.findIn K (.ref C) "__init__"=some (some (.ref f))) (hf:PySem.W.typeIn K (.ref f)=some (.type "function"))
 (h:codeAny (model prog w) (A.under (.builtin "type.__call__" ⟨.ref C::vs,kw⟩)) (.call (.ref f) ⟨.ref (s.heap.objs.size+1)::vs,kw⟩) (PySem.W.InitBack (s.heap.objs.size+1) R)
  {s with heap:=(s.heap.push PySem.W.emptyDict).push (PySem.W.instObj C s.heap.objs.size) }) :
 codeAny (model prog w) A (.call (.ref C) ⟨vs,kw⟩) R s:=by
 obtain ⟨hh,g,d,t,os⟩:=s
 exact PySem.W.make_core (PySem.W.makes_of X hm) (PySem.W.looks_findIn X hi) (fun self=>PySem.W.bind_fn X self hf) (.inl rfl) h
end
def Xw (f:Str)(v:V):List (Str×V)->List (Str×V)
 | []=>[(f,v)]
 | (g,x)::r=>if g=f then (g,v)::r else (g,x)::Xw f v r
theorem Xg (f g:Str)(v:V):∀ fs:List (Str×V),(Xw f v fs).lookup g=if g=f then some v else fs.lookup g
 | []=>by
  show List.lookup g [(f,v)]=_
  by_cases h:g=f
  ·have hb:(g == f)=true:=beq_iff_eq.mpr h
   simp only [List.lookup,hb,if_pos h]
  ·have hb:(g == f)=false:=beq_eq_false_iff_ne.mpr h
   simp only [List.lookup,hb,if_neg h]
 | (k, x)::r=>by
  have ih:=Xg f g v r
  rw [show Xw f v ((k,x)::r)=(if k=f then (k,v)::r else (k,x)::Xw f v r) from rfl]
  by_cases hk:k=f
  ·rw [if_pos hk]
   by_cases h:g=k
   ·have hb:(g == k)=true:=beq_iff_eq.mpr h
    simp only [List.lookup,hb,if_pos (h.trans hk)]
   ·have hb:(g == k)=false:=beq_eq_false_iff_ne.mpr h
    simp only [List.lookup,hb,if_neg (fun e:g=f=>h (e.trans hk.symm))]
  ·rw [if_neg hk]
   by_cases h:g=k
   ·have hb:(g == k)=true:=beq_iff_eq.mpr h
    simp only [List.lookup,hb,if_neg (fun e:g=f=>hk (h.symm.trans e))]
   ·have hb:(g == k)=false:=beq_eq_false_iff_ne.mpr h
    simp only [List.lookup,hb]
    exact ih
theorem VG (f:Str)(v:V):∀ fs:List (Str×V),f∈(Xw f v fs).map (·.1)/\∀ g,g∈fs.map (·.1)->g∈(Xw f v fs).map (·.1)
 | []=>⟨by simp [Xw],fun g h=>by simp at h⟩
 | (k, x)::r=>by
  obtain ⟨i1,i2⟩:=VG f v r
  rw [show Xw f v ((k,x)::r)=(if k=f then (k,v)::r else (k,x)::Xw f v r) from rfl]
  by_cases hk:k=f
  ·rw [if_pos hk]
   subst hk
   exact ⟨by simp,fun g h=>by simpa using h⟩
  ·rw [if_neg hk]
   refine ⟨?_,fun g h=>?_⟩
   ·rw [map_cons]
    exact mem_cons_of_mem _ i1
   ·rw [map_cons] at h ⊢
    rcases mem_cons.mp h with e | e
    ·exact mem_cons.mpr (.inl e)
    ·exact mem_cons_of_mem _ (i2 g e)
theorem Zad (f:Str)(v:V):∀ fs:List (Str×V),(Xw f v fs).length<=fs.length+1
 | []=>by simp [Xw]
 | (k,x)::r=>by
  have ih:=Zad f v r
  rw [show Xw f v ((k,x)::r)=(if k=f then (k,v)::r else (k,x)::Xw f v r) from rfl]
  by_cases hk:k=f
  ·rw [if_pos hk,length_cons,length_cons];omega
  ·rw [if_neg hk,length_cons,length_cons];omega
theorem RelO.some_of {v:V}{o:Option Value}(r:RelO (some v) o):∃ u,o=some u/\RelV v u:=by
 cases o with
 | none=>exact (show False from r).elim
 | some u=>exact ⟨u,rfl,r⟩
theorem RelO.none_of {o:Option Value}(r:RelO none o):o=none:=by
 cases o with
 | none=>rfl
 | some u=>exact (show False from r).elim
theorem ZhS {v:V}{u:Value}(r:RelV v u):PySem.W.handedIn u=true:=by
 cases v with
 | non=>cases (show u=Value.none from r);rfl
 | bl b=>cases (show u=Value.bool b from r);rfl
 | int i=>obtain ⟨t,e⟩:=(show ∃ t,u=Value.int i t from r);cases e;rfl
 | str x=>obtain ⟨t,e⟩:=(show ∃ t,u=Value.str x t from r);cases e;rfl
 | byt b=>obtain ⟨t,e⟩:=(show ∃ t,u=Value.bytes b t from r);cases e;rfl
 | flt b=>obtain ⟨t,e⟩:=(show ∃ t,u=Value.float b t from r);cases e;rfl
 | ref a=>cases (show u=Value.ref a from r);rfl
 | ty n=>cases (show u=Value.type n from r);rfl
section
variable {P:Program}{w:World}{H H':Hp}{h h':Heap}{a C dx:Addr}{fs fs':ZH}
theorem Zab (hok:HOk P w H h)(e:H a=some (.ins C dx fs)):∃ mA,ObjM h a dx C mA/\(∀ f,RelO (fs.lookup f) (mA f))/\PySem.Within mA (fs.map (·.1))/\fs.length<=1000/\H dx=some (.own a):=by
 obtain ⟨d,z,ne,ob,mA,n,r,q⟩:=(show ObjOk P w H h a (.ins C dx fs) from hok a _ e)
 exact ⟨mA,⟨ob,n,ne⟩,r,q,z,d⟩
end
structure Cls (K:KF)(C:Addr):Prop where
 pg:PySem.W.plainGet K C Str.empty=true
 hd:PySem.W.hasDictIn K C=true
 po:PySem.W.plainOver K C=true
 sa:PySem.W.findIn K (.ref C) "__setattr__"=some (some (.builtin "object.__setattr__"))
theorem Cls.get {K:KF}{C:Addr}(c:Cls K C)(f:Str):PySem.W.plainGet K C f=true:=c.pg
def NoAttr (K:KF)(C:Addr)(f:Str):Prop:=PySem.W.findIn K (.ref C) f=some none
theorem NoAttr.taker {K:KF}{C:Addr}{f:Str}(n:NoAttr K C f):PySem.W.takerIn K C f=some none:=by
 unfold PySem.W.takerIn
 rw [show PySem.W.findIn K (.ref C) f=some none from n]
 rfl
structure VE (K:KF)(C:Addr)(m:Str)(f:Addr):Prop where
 at_:PySem.W.findIn K (.ref C) m=some (some (.ref f))
 fn:PySem.W.isFn K (.ref f)=true
 kp:PySem.W.keepIn K (.ref f)=true
section
variable {X:Cx}{pins:List (Addr×Obj)}{σ:St}{H:Hp}{s:Shared}{a C dx:Addr}{fs:ZH}{f:Str}{v:V}{A:Around}{E:ZB}
theorem Zgm {b:Bool}{Q:ZB}(I:Inv X pins σ H s)(e:H a=some (.ins C dx fs))(c:Cls X.K C)(n:NoAttr X.K C f)(l:fs.lookup f=some v)
 (h:∀ u s',Inv X pins σ H s'->RelV v u->Q u s'):wpAny (model X.prog X.w) A (getAttr (.ref a) f b) Q E s:=by
 obtain ⟨mA,O,r,_,_,_⟩:=Zab I.hok e
 obtain ⟨u,hu,ru⟩:=RelO.some_of (v:=v) (o:=mA f) (by rw [<- l];exact r f)
 exact ZlD I.kIn O (c.get f) c.hd n hu (ZhS ru) (h u _ (I.tok _) ru)
theorem ZaR {m:Str}{g:Addr}{pl:Sem Bool}{Q:Value×List Value->Shared->Prop}(I:Inv X pins σ H s)(e:H a=some (.ins C dx fs))(c:Cls X.K C)(k:VE X.K C m g)(l:fs.lookup m=none)
 (h:Q (.ref g,[.ref a]) s):wpAny (model X.prog X.w) A (getMethod (.ref a) m pl) Q E s:=by
 obtain ⟨mA,O,r,_,_,_⟩:=Zab I.hok e
 have hn:mA m=none:=RelO.none_of (by rw [<- l];exact r m)
 exact Zid I.kIn O (c.get m) k.at_ k.fn hn h
theorem ZfP {y:V}{u:Value}{Q:Unit->Shared->Prop}(I:Inv X pins σ H s)(e:H a=some (.ins C dx fs))(c:Cls X.K C)(n:NoAttr X.K C f)(hl:fs.length < 1000)(ry:RelV y u)
 (h:∀ s',Inv X pins σ (upd H a (.ins C dx (Xw f y fs))) s'->Q () s'):wpAny (model X.prog X.w) A (setAttr (.ref a) f u) Q E s:=by
 obtain ⟨mA,O,r,wi,_,ho⟩:=Zab I.hok e
 have hz:(fs.map (·.1)).length<=sizeLine:=by rw [length_map,sizeLine_eq];omega
 refine ZlA I.kIn O c.sa c.po n.taker c.hd wi hz fun h' O' sb=>h _ ?_
 have hd:∃ o,h'.get? dx=some o:=let ⟨o,_,_,e',_⟩:=O'.ns;⟨o,e'⟩
 refine I.write (x:=a) (e:=dx) (by rw [e];exact True.intro) (.inr ho) (fun b q hb z=>(sb.2 b hb).trans z) hd ?_
 refine ⟨by rw [Zi O.ne];exact ho,?_,O.ne,O'.obj,_,O'.ns,fun g=>?_,fun g hg=>?_⟩
 ·have:=Zad f y fs;omega
 ·show RelO ((Xw f y fs).lookup g) (if g=f then some u else mA g)
  rw [Xg]
  by_cases q:g=f
  ·rw [if_pos q,if_pos q];exact ry
  ·rw [if_neg q,if_neg q];exact r g
 ·by_cases q:g=f
  ·rw [q];exact (VG f y fs).1
  ·refine (VG f y fs).2 g (wi g fun z=>hg ?_)
   show (if g=f then some u else mA g)=none
   rw [if_neg q];exact z
theorem Inv.made (I:Inv X pins σ H s):Inv X pins σ (upd (upd H s.heap.objs.size (.own (s.heap.objs.size+1))) (s.heap.objs.size+1) (.ins C s.heap.objs.size []))
 {s with heap:=(s.heap.push PySem.W.emptyDict).push (PySem.W.instObj C s.heap.objs.size) }:=by
 have e1:(s.heap.push PySem.W.emptyDict).get? s.heap.objs.size=some PySem.W.emptyDict:=Heap.get?_push_size s.heap rfl
 have e2:((s.heap.push PySem.W.emptyDict).push (PySem.W.instObj C s.heap.objs.size)).get? (s.heap.objs.size+1)=some (PySem.W.instObj C s.heap.objs.size):=by
  have:=Heap.get?_push_size (s.heap.push PySem.W.emptyDict) (o:=PySem.W.instObj C s.heap.objs.size) rfl
  rwa [Heap.size_push] at this
 have e3:(s.heap.push PySem.W.emptyDict).Ns s.heap.objs.size (fun _=>none):=⟨PySem.W.emptyDict,#[],_,e1,rfl,(fun e he=>absurd he (by simp)),fun _=>rfl⟩
 have I1:=I.laid (a:=s.heap.objs.size) (o:=.own (s.heap.objs.size+1)) (h':=s.heap.push PySem.W.emptyDict) (t':=s.toks) (fun b u q=>Heap.get?_push_of_some _ q) (Nat.le_refl _) ⟨_,e1⟩
 refine I1.laid (a:=s.heap.objs.size+1) (o:=.ins C s.heap.objs.size []) (t':=s.toks) (fun b u q=>Heap.get?_push_of_some _ q) (Nat.le_of_eq (Heap.size_push _ _)) ?_
 have ne:s.heap.objs.size≠s.heap.objs.size+1:=Nat.ne_of_lt (Nat.lt_succ_self _)
 refine ⟨by rw [Zi ne,Zg],Nat.zero_le _,ne,e2,fun _=>none,(Heap.Ns1.of_empty e3).at fun o q=>Heap.get?_push_of_some _ q,fun _=>True.intro,fun y hy=>absurd rfl hy⟩
theorem Zld {prog:Program}{w:World}{env:Env}{e:Expr}{f:Str}{pos:Pos}{s:Shared}{Q:ZB}(hb:attributeBase e f env (eval e env)=eval e env)
 (h:wpAny (model prog w) A (eval e env) (fun o s₁=>wpAny (model prog w) A (getAttr o f true) Q E s₁) E s):wpAny (model prog w) A (eval (.Attribute e f pos) env) Q E s :=
 Attribute_any_ h (by rw [arm_eval_Attribute,hb])
end
def tFld (K:KF)(ta:TE)(f:Str):TE:=fun σ H Q=>ta σ H fun x H1=>∃ a C dx fs v,x=.ref a/\H1 a=some (.ins C dx fs)/\Cls K C/\NoAttr K C f/\fs.lookup f=some v/\Q v H1
def sFld (K:KF)(ta tv:TE)(f:Str):TS:=fun D σ H=>tv σ H fun y H1=>ta σ H1 fun x H2=>∃ a C dx fs,x=.ref a/\H2 a=some (.ins C dx fs)/\Cls K C/\NoAttr K C f/\fs.length < 1000 /\
 D.nx σ (upd H2 a (.ins C dx (Xw f y fs)))
section
variable {X:Cx}{o e value:Expr}{f:Str}{pos pos' tpos:Pos}{ta tv:TE}
theorem ZY (he:PE X e ta)(hb:attributeBase e f X.env (eval e X.env)=eval e X.env):PE X (.Attribute e f pos) (tFld X.K ta f):=by
 intro pins s σ H Q I h
 refine Zld hb (Zn (he pins s σ H _ I h) fun u s1 ⟨x,H1,I1,rx,a,C,dx,fs,v,ex,ea,c,n,l,q⟩=>?_)
 subst ex
 obtain rfl:u=Value.ref a:=rx
 exact Zgm I1 ea c n l fun u' s2 I2 ru=>⟨v,H1,I2,ru,q⟩
theorem Ug (ha:PE X o ta)(hv:PE X value tv)(hs:swapsWith value (some (.Attribute o f pos')) pos.line X.env=pure false):PS X (.Assign [.Attribute o f pos'] value pos) (sFld X.K ta tv f):=by
 intro pins s σ H D I h
 refine plainObj_wpAny_Assign_Attribute (Zn (hv pins s σ H _ I h) fun u s1 ⟨y,H1,I1,ry,q⟩=>Zn (ha pins s1 σ H1 _ I1 q) fun ov s2 ⟨x,H2,I2,rx,a,C,dx,fs,ex,ea,c,n,l,q2⟩=>?_) hs
 subst ex
 obtain rfl:ov=Value.ref a:=rx
 exact ZfP I2 ea c n l ry fun s3 I3=>⟨σ,_,I3,q2⟩
end
section
variable {X:Cx}{pins:List (Addr×Obj)}{σ:St}{H:Hp}{s:Shared}{A:Around}{E:ZB}{Q:ZB}{c:Value}{b:Bool}
inductive Wj (K:KF)(H:Hp):V->Value->Prop where
 | non:Wj K H .non (.type "NoneType")
 | bl (x:Bool):Wj K H (.bl x) (.type "bool")
 | int (i:Int):Wj K H (.int i) (.type "int")
 | str (x:Str):Wj K H (.str x) (.type "str")
 | flt (x:UInt64):Wj K H (.flt x) (.type "float")
 | lst {a:Addr} {xs:List V} (e:H a=some (.lst xs)):Wj K H (.ref a) (.type "list")
 | frz {a:Addr} {o:Obj} {xs:List V} (e:H a=some (.frz o (.lst xs))):Wj K H (.ref a) (.type "list")
 | tup {a:Addr} {xs:List V} (e:H a=some (.tup xs)):Wj K H (.ref a) (.type "tuple")
 | dK {a:Addr} {kvs:ZK} (e:H a=some (.dK kvs)):Wj K H (.ref a) (.type "dict")
 | dT {a:Addr} {kvs:List (List Zk×V)} (e:H a=some (.dT kvs)):Wj K H (.ref a) (.type "dict")
 | ins {a C dx:Addr} {fs:ZH} (e:H a=some (.ins C dx fs)) (cl:Cls K C) (ha:PySem.W.findIn K (.ref C) "__class__"=some (some (.builtin "object.__class__")))
     (hn:PySem.W.specialIn K (.builtin "object.__class__") "__get__"=some (some (.builtin "getset_descriptor.__get__"))) (htk:PySem.W.takesIn K (.builtin "object.__class__")=some true)
     (hm:PySem.W.mroIn K C (.type "object")=some true):Wj K H (.ref a) (.ref C)
theorem Zhb {x:V}{u t:Value}(I:Inv X pins σ H s)(rx:RelV x u)(ty:Wj X.K H x t)(e:PySem.W.kitOne X.K t c=some b)(h:∀ tk,Q (.bool b) { s with toks:=tk }) :
 wpAny (model X.prog X.w) A (call (.builtin "isinstance") [u,c]) Q E s:=by
 cases ty with
 | non=>cases (show u=Value.none from rx);exact PySem.W.kia_one PySem.W.kitx_none I.kIn True.intro e (fun z=>nomatch z) h
 | bl y=>cases (show u=Value.bool y from rx);exact PySem.W.kia_one PySem.W.kitx_bool I.kIn True.intro e (fun z=>nomatch z) h
 | int i=>obtain ⟨t,q⟩:=(show ∃ t,u=Value.int i t from rx);cases q;exact PySem.W.kia_one PySem.W.kitx_int I.kIn True.intro e (fun z=>nomatch z) h
 | str y=>obtain ⟨t,q⟩:=(show ∃ t,u=Value.str y t from rx);cases q;exact PySem.W.kia_one PySem.W.kitx_str I.kIn True.intro e (fun z=>nomatch z) h
 | flt y=>obtain ⟨t,q⟩:=(show ∃ t,u=Value.float y t from rx);cases q;exact PySem.W.kia_one PySem.W.kitx_float I.kIn True.intro e (fun z=>nomatch z) h
 | @lst a xs ea =>
  cases (show u=Value.ref a from rx)
  obtain ⟨_,_,n,_,h1⟩:=(show ObjOk X.prog X.w H s.heap a (.lst xs) from I.hok a _ ea)
  exact PySem.W.kia_one PySem.W.kitx_list I.kIn ⟨_,h1,rfl⟩ e (fun z=>nomatch z) h
 | @frz a ob xs ea =>
  cases (show u=Value.ref a from rx)
  obtain ⟨_,_,_,n,_,h1⟩:=(show ObjOk X.prog X.w H s.heap a (.frz ob (.lst xs)) from I.hok a _ ea)
  exact PySem.W.kia_one PySem.W.kitx_list I.kIn ⟨_,h1,rfl⟩ e (fun z=>nomatch z) h
 | @tup a xs ea =>
  cases (show u=Value.ref a from rx)
  obtain ⟨_,_,_,p⟩:=(show ObjOk X.prog X.w H s.heap a (.tup xs) from I.hok a _ ea)
  obtain ⟨o,h1,h2,_⟩:=p
  exact PySem.W.kia_one PySem.W.kitx_tuple I.kIn ⟨o,h1,h2⟩ e (fun z=>nomatch z) h
 | @dK a kvs ea =>
  cases (show u=Value.ref a from rx)
  obtain ⟨_,_,vs,_,p⟩:=(show ObjOk X.prog X.w H s.heap a (.dK kvs) from I.hok a _ ea)
  obtain ⟨o,es,ep,h1,h2,_⟩:=p
  exact PySem.W.kia_one PySem.W.kitx_dict I.kIn ⟨o,h1,h2.1⟩ e (fun z=>nomatch z) h
 | @dT a kvs ea =>
  cases (show u=Value.ref a from rx)
  obtain ⟨_,_,xs,_,o,es,ep,h1,h2,_⟩:=(show ObjOk X.prog X.w H s.heap a (.dT kvs) from I.hok a _ ea)
  exact PySem.W.kia_one PySem.W.kitx_dict I.kIn ⟨o,h1,h2.1⟩ e (fun z=>nomatch z) h
 | @ins a C dx fs ea cl ha hn htk hm =>
  cases (show u=Value.ref a from rx)
  obtain ⟨mA,O,_⟩:=Zab I.hok ea
  obtain ⟨od,J,_⟩:=O.look
  exact PySem.W.kia_one (PySem.W.kitx_own (cl.get _) cl.hd ha hn htk hm) I.kIn J e (fun z=>nomatch z) h
end
structure Room (k:Nat)(A:Around):Prop where
 hd:A.handled=none
 dp:A.depth+3 * k+5 < recursionLimit
 un:A.units+16 * k+200 < cLine
 gd:A.guards=some []
theorem Room.mono {j k:Nat}{A:Around}(r:Room k A)(h:j<=k):Room j A:=⟨r.hd,by have:=r.dp;omega,by have:=r.un;omega,r.gd⟩
theorem Room.deeper {k:Nat}{A:Around}(r:Room (k+1) A)(env:Env):Room k (A.deeper env) :=
 ⟨r.hd,by have:=r.dp;show A.depth+1+3 * k+5 < _;omega,by have:=r.un;show A.units+3+16 * k+200 < _;omega,r.gd⟩
theorem Zfp {A:Around}{C:Addr}{us:List Value}{kw:List (Str×Value)}:(A.under (.builtin "type.__call__" ⟨.ref C::us,kw⟩)).depth=A.depth+1:=by
 first | rfl | simp [Around.under,Code.weight,Code.isCreation,Code.isGuard,Code.isCaller,Code.frames,Code.isFrame,guardIds]
theorem Zgh {A:Around}{C:Addr}{us:List Value}{kw:List (Str×Value)}:(A.under (.builtin "type.__call__" ⟨.ref C::us,kw⟩)).units=A.units+1:=by
 first | rfl | simp [Around.under,Code.cUnits,Code.frames,Code.isFrame]
theorem Room.make {k:Nat}{A:Around}(r:Room (k+1) A)(C:Addr)(us:List Value)(kw:List (Str×Value)):Room k (A.under (.builtin "type.__call__" ⟨.ref C::us,kw⟩)) :=
 ⟨r.hd,by have:=r.dp;rw [Zfp];omega,by have:=r.un;rw [Zgh];omega,by first | exact r.gd | simpa [Around.under,Code.isGuard,guardIds] using r.gd⟩
theorem Room.depth {k:Nat}{A:Around}(r:Room k A):A.depth < recursionLimit:=by have:=r.dp;omega
theorem Room.units {k:Nat}{A:Around}(r:Room k A):A.units+64 < cLine:=by have:=r.un;omega
def Wt:TA:=fun _ H Q=>Q [] H
def XF (ta:TE)(tr:TA):TA:=fun σ H Q=>ta σ H fun x H1=>tr σ H1 fun xs H2=>Q (x::xs) H2
section
variable {X:Cx}{e:Expr}{es:List Expr}{te:TE}{t:TA}{pos:Pos}
theorem Za:PA X [] Wt:=fun _ _ _ _ H Q I h=>Calls.spliced_nil ⟨[],H,I,.nil,h⟩
theorem Yy (ha:PE X e te)(hr:PA X es t)(hs:starEach (e::es) X.env=(false,eval e X.env)::starEach es X.env:=by rfl):PA X (e::es) (XF te t):=by
 intro pos pins s σ H Q I h
 rw [hs]
 show wpAny _ _ (spliced ((false,eval e X.env)::backTo pos (starEach es X.env))) _ _ s
 refine Calls.spliced_cons (Zn (ha pins s σ H _ I h) fun u s1 ⟨x,H1,I1,r1,q1⟩=>?_)
 exact Zn (hr pos pins s1 σ H1 _ I1 q1) fun us s2 ⟨xs,H2,I2,r2,q2⟩=>⟨x::xs,H2,I2,.cons r1 r2,q2⟩
def tTup (t:TA):TE:=fun σ H Q=>t σ H fun xs H1=>xs.length<=sizeLine/\∀ p,H1 p=none->Q (.ref p) (upd H1 p (.tup xs))
def tLst (t:TA):TE:=fun σ H Q=>t σ H fun xs H1=>xs.length<=sizeLine/\∀ p,H1 p=none->Q (.ref p) (upd H1 p (.lst xs))
theorem YU {x1}(h:PA X es t):PE X (.Tuple es x1 pos) (tTup t):=by
 intro pins s σ H Q I hq
 refine wpAny_Tuple_spliced (Zn (h pos pins s σ H _ I hq) fun us s1 ⟨xs,H1,I1,r,z,q⟩=>⟨by rw [<- r.length];exact z,?_⟩)
 have hf:H1 s1.heap.objs.size=none:=I1.hok.fresh (Nat.le_refl _)
 refine ⟨.ref s1.heap.objs.size,upd H1 s1.heap.objs.size (.tup xs),I1.laid (t':=s1.toks) (fun b u e=>Heap.get?_push_of_some _ e) (Nat.le_refl _) ?_,rfl,q _ hf⟩
 exact ⟨z,us,r,⟨_,Heap.get?_push_size _ rfl,rfl,_,rfl⟩⟩
theorem Yd (h:PA X es t):PE X (.List es pos) (tLst t):=by
 intro pins s σ H Q I hq
 refine wpAny_List_spliced (Zn (h pos pins s σ H _ I hq) fun us s1 ⟨xs,H1,I1,r,z,q⟩=>⟨by rw [<- r.length];exact z,?_⟩)
 have hf:H1 s1.heap.objs.size=none:=I1.hok.fresh (Nat.le_refl _)
 refine ⟨.ref s1.heap.objs.size,upd H1 s1.heap.objs.size (.lst xs),I1.laid (t':=s1.toks) (fun b u e=>Heap.get?_push_of_some _ e) (Nat.le_refl _) ?_,rfl,q _ hf⟩
 exact ⟨z,us,0,r,Heap.get?_push_size _ rfl⟩
end
abbrev Sp:=List V->Hp->VK->XK->Prop
abbrev Vo:=List Env->Hp->Shared->XK->Value->Shared->Prop
structure Env0 (P:Program)(w:World)(K:KF)(mg:Str->Option Value)(base:Heap)(A:Around)(outer:List Env)(s:Shared)(H:Hp):Prop where
 frames:A.frames=some outer
 mod:Mod K mg base
 bs:∀ b o,base.get? b=some o->s.heap.get? b=some o/\H b=none
 bsz:base.objs.size<=s.heap.objs.size
 funs:s.heap.FunFrames base outer
 frf:∀ b∈VT outer,H b=none
 hok:HOk P w H s.heap
 bare:AllBare s.gens
def CE (outer:List Env)(P:Program)(w:World)(H:Hp)(s:Shared)(Q:VK)(u:Value)(s':Shared):Prop :=
 ∃ v H',s'.os=s.os/\AllBare s'.gens/\Un (VT outer) [] H H' s.heap s'.heap/\HOk P w H' s'.heap/\RelV v u/\Q v H'
def CR (CX:Vo)(outer:List Env)(P:Program)(w:World)(H:Hp)(s:Shared)(Q:VK)(E:XK)(r:Result)(s':Shared):Prop :=
 match r with
 | .ok (.ret u)=>CE outer P w H s Q u s'
 | .ok _=>False
 | .error e=>CX outer H s E e s'
structure FnOk (P:Program)(w:World)(K:KF)(mg:Str->Option Value)(base:Heap)(CX:Vo)(k:Nat)(f:Addr)(fd:FuncData)(ps:List Str)(sp:Sp):Prop where
 len:∀ vs H Q E,sp vs H Q E->vs.length=ps.length
 run:∀ (A:Around) (outer:List Env) (s:Shared) (H:Hp) (args:Args) (us:List Value) (vs:List V) (Q:VK) (E:XK),Room k A->Env0 P w K mg base A outer s H->BindsTo s fd args (ps.zip us)->Vals vs us->sp vs H Q E ->
  codeAny (model P w) A (.call (.ref f) args) (CR CX outer P w H s Q E) s
theorem FnOk.mono {P:Program}{w:World}{K:KF}{mg:Str->Option Value}{base:Heap}{CX:Vo}{j k:Nat}{f:Addr}{fd:FuncData}{ps:List Str}{sp:Sp}(F:FnOk P w K mg base CX j f fd ps sp)(h:j<=k) :
 FnOk P w K mg base CX k f fd ps sp:=⟨F.len,fun A outer s H args us vs Q E hr=>F.run A outer s H args us vs Q E (hr.mono h)⟩
theorem Env0.make {P:Program}{w:World}{K:KF}{mg:Str->Option Value}{base:Heap}{A:Around}{outer:List Env}{s:Shared}{H:Hp}(e:Env0 P w K mg base A outer s H)(C:Addr)(us:List Value)(kw:List (Str×Value)) :
 Env0 P w K mg base (A.under (.builtin "type.__call__" ⟨.ref C::us,kw⟩)) outer s H:=⟨by first | exact e.frames | (simpa [Around.under,Code.envs,Code.isFrame,pushEnvs] using e.frames),e.mod,e.bs,e.bsz,e.funs,e.frf,e.hok,e.bare⟩
section
variable {X:Cx}{pins:List (Addr×Obj)}{σ:St}{H:Hp}{s s':Shared}
theorem Inv.env0 (I:Inv X pins σ H s):Env0 X.prog X.w X.K X.mg X.base X.A X.stack s H :=
 ⟨I.ok.frames,I.ok.mod,I.bs,Nat.le_trans I.ok.bsz I.sz,I.stack,I.stkFree,I.hok,I.bare⟩
theorem Inv.after {Q:VK}{u:Value}(I:Inv X pins σ H s)(h:CE X.stack X.prog X.w H s Q u s'):EP X pins σ Q u s':=by
 obtain ⟨v,H',os,bare,un,hok,r,q⟩:=h
 obtain ⟨hh,g,d,t,os'⟩:=s'
 obtain rfl:os'=s.os:=os
 exact ⟨v,H',I.call (h':=hh) (g':=g) (d':=d) (t':=t) (ch:=[]) un hok bare (fun b z=>absurd z (by simp)),r,q⟩
end
def Zgb (sp:Sp)(dvs:List V)(E:XK)(t:TA):TE:=fun σ H Q=>t σ H fun vs H1=>sp (vs++dvs) H1 Q E
def ZcP (C:Addr)(m:Str)(sp:Sp)(dvs:List V)(E:XK)(ta:TE)(t:TA):TE:=fun σ H Q=>ta σ H fun x H1=>∃ a dx fs,x=.ref a/\H1 a=some (.ins C dx fs)/\fs.lookup m=none /\
 t σ H1 fun vs H2=>sp (x::(vs++dvs)) H2 Q E
def Zkk (C:Addr)(sp:Sp)(dvs:List V)(E:XK)(t:TA):TE:=fun σ H Q=>t σ H fun vs H1=>∀ x dx,H1 x=none->H1 dx=none->dx≠x ->
 sp (.ref x::(vs++dvs)) (upd (upd H1 dx (.own x)) x (.ins C dx [])) (fun v H2=>v=.non/\Q (.ref x) H2) E
def Binds (K:KF)(fd:FuncData)(ps:List Str)(ds:List Value):Prop :=
 ∀ (s:Shared) (us:List Value),K.In s.heap->(us++ds).length=ps.length->BindsTo s fd ⟨us,[]⟩ (ps.zip (us++ds))
theorem Binds.all {K:KF}{fd:FuncData}{ps:List Str}(h:∀ us:List Value,us.length=ps.length->bindArgs fd ⟨us,[]⟩=pure (ps.zip us)):Binds K fd ps []:=fun s us _ hl=>by
 rw [append_nil] at hl ⊢
 exact .of_eq (h us hl)
def Ul (CX:Vo)(X:Cx)(E:XK):Prop:=∀(pins:List (Addr×Obj))(σ:St)(H:Hp)(s:Shared)(e:Value)(s':Shared),Inv X pins σ H s->CX X.stack H s E e s'->X.xe e s'
section
variable {X:Cx}{CX:Vo}{k:Nat}{f C:Addr}{fd:FuncData}{ps:List Str}{sp:Sp}{dvs:List V}{ds:List Value}{E:XK}{x m:Str}{p pos apos:Pos}{e o:Expr}{es:List Expr}{ta:TE}{t:TA}
theorem Zdc {pins:List (Addr×Obj)}{σ:St}{H:Hp}{s:Shared}{Q:VK}{us:List Value}{vs:List V}(F:FnOk X.prog X.w X.K X.mg X.base CX k f fd ps sp)(hr:Room k X.A)(hb:Binds X.K fd ps ds)(hd:Vals dvs ds)(hx:Ul CX X E)
 (I:Inv X pins σ H s) (r:Vals vs us) (h:sp (vs++dvs) H Q E):wpAny (model X.prog X.w) X.A (call (.ref f) us) (EP X pins σ Q) X.xe s:=by
 have r2:Vals (vs++dvs) (us++ds):=r.append hd
 have hl:(us++ds).length=ps.length:=by rw [<- r2.length];exact F.len _ _ _ _ h
 refine wpAny_call (codeAny_mono (F.run X.A X.stack s H ⟨us,[]⟩ (us++ds) (vs++dvs) Q E hr I.env0 (hb s us I.kIn hl) r2 h) fun r s' hq=>?_)
 cases r with
 | error e=>exact hx pins σ H s e s' I hq
 | ok fl =>
  cases fl with
  | ret u=>exact I.after hq
  | next=>exact False.elim hq
  | brk=>exact False.elim hq
  | cont=>exact False.elim hq
theorem Zlb (F:FnOk X.prog X.w X.K X.mg X.base CX k f fd ps sp)(hr:Room k X.A)(hg:Gl X x)(hm:X.mg x=some (.ref f))(hk:PySem.W.keepIn X.K (.ref f)=true)(hb:Binds X.K fd ps ds)(hd:Vals dvs ds)(hx:Ul CX X E)
 (ha:PA X (e::es) t) (hdb:(x == ("__debug__":Str))=false:=by decide) (he:starEach (e::es) X.env=(false,eval e X.env)::starEach es X.env:=by rfl) (hpl:(backTo pos (starEach es X.env)).any (·.1)=false:=by rfl) :
 PE X (.Call (.Name x p) (e::es) [] pos) (Zgb sp dvs E t):=by
 intro pins s σ H Q I h
 refine wpAny_Call_Name_kw (ZbF I hg hm ?_ hdb)
 refine PySem.W.callWith_K (h₀:=X.base) I.ok.mod.kin hk (Zn (ha pos pins s σ H _ I h) fun us s1 ⟨vs,H1,I1,r,q⟩=>⟨I1.kIn,?_⟩) he hpl
 exact Zdc F hr hb hd hx I1 r q
theorem ZkW {pl:Sem Bool}(he:PE X o ta)(c:Cls X.K C)(hm:VE X.K C m f)(F:FnOk X.prog X.w X.K X.mg X.base CX k f fd ps sp)(hr:Room k X.A)(hb:Binds X.K fd ps ds)(hd:Vals dvs ds)(hx:Ul CX X E)(ha:PA X (e::es) t)
 (hst:starEach (e::es) X.env=(false,eval e X.env)::starEach es X.env:=by rfl) (hpl:(backTo pos (starEach es X.env)).any (·.1)=false:=by rfl)
 (ht:eval (.Call (.Attribute o m apos) (e::es) [] pos) X.env=(do
  let ov <- eval o X.env
  standAt apos.atName
  let (f,first) <- holding [ov] (getMethod ov m pl)
  callWith pos f first (backTo pos (starEach (e::es) X.env)) (backToKw pos (keywordEach [] X.env))):=by rfl) :
 PE X (.Call (.Attribute o m apos) (e::es) [] pos) (ZcP C m sp dvs E ta t):=by
 intro pins s σ H Q I h
 refine PySem.W.methodCall_KW (pl:=pl) (Zn (he pins s σ H _ I h) fun u s1 ⟨x,H1,I1,rx,a,dx,fs,ex,ea,l,q⟩=>?_) ht
 subst ex
 obtain rfl:u=Value.ref a:=rx
 refine ZaR I1 ea c hm l ?_
 refine PySem.W.callWith_K (first:=[.ref a]) (h₀:=X.base) I.ok.mod.kin hm.kp (Zn (ha pos pins s1 σ H1 _ I1 q) fun us s2 ⟨vs,H2,I2,r,q2⟩=>⟨I2.kIn,?_⟩) hst hpl
 exact Zdc (us:=.ref a::us) (vs:=.ref a::vs) F hr hb hd hx I2 (.cons rfl r) q2
theorem ZiT {pl:Sem Bool}(he:PE X o ta)(c:Cls X.K C)(hm:VE X.K C m f)(F:FnOk X.prog X.w X.K X.mg X.base CX k f fd ps sp)(hr:Room k X.A)(hb:Binds X.K fd ps ds)(hd:Vals dvs ds)(hx:Ul CX X E)
 (ht:eval (.Call (.Attribute o m apos) [] [] pos) X.env=(do
  let ov <- eval o X.env
  standAt apos.atName
  let (f,first) <- holding [ov] (getMethod ov m pl)
  callWith pos f first (backTo pos (starEach [] X.env)) (backToKw pos (keywordEach [] X.env))):=by rfl) :
 PE X (.Call (.Attribute o m apos) [] [] pos) (ZcP C m sp dvs E ta Wt):=by
 intro pins s σ H Q I h
 refine PySem.W.methodCall_KW (pl:=pl) (Zn (he pins s σ H _ I h) fun u s1 ⟨x,H1,I1,rx,a,dx,fs,ex,ea,l,q⟩=>?_) ht
 subst ex
 obtain rfl:u=Value.ref a:=rx
 refine ZaR I1 ea c hm l ?_
 exact PySem.W.callWith_K0 (first:=[.ref a]) I1.kIn hm.kp (Zdc (us:=[.ref a]) (vs:=[.ref a]) F hr hb hd hx I1 (.cons rfl .nil) q)
structure Mk (K:KF)(C f:Addr):Prop where
 makes:PySem.W.makesIn K C=true
 init:PySem.W.findIn K (.ref C) "__init__"=some (some (.ref f))
 fn:PySem.W.isFn K (.ref f)=true
 kp:PySem.W.keepIn K (.ref C)=true
theorem Zis {pins:List (Addr×Obj)}{σ:St}{H:Hp}{s:Shared}{Q:VK}{us:List Value}{vs:List V}(M:Mk X.K C f)(F:FnOk X.prog X.w X.K X.mg X.base CX k f fd ps sp)(hr:Room (k+1) X.A)(hb:Binds X.K fd ps ds)(hd:Vals dvs ds)
 (hx:Ul CX X E) (I:Inv X pins σ H s) (r:Vals vs us)
 (h:∀ x dx,H x=none->H dx=none->dx≠x->sp (.ref x::(vs++dvs)) (upd (upd H dx (.own x)) x (.ins C dx [])) (fun v H2=>v=.non/\Q (.ref x) H2) E) :
 wpAny (model X.prog X.w) X.A (call (.ref C) us) (EP X pins σ Q) X.xe s:=by
 have hq:=h (s.heap.objs.size+1) s.heap.objs.size (I.hok.fresh (Nat.le_succ _)) (I.hok.fresh (Nat.le_refl _)) (Nat.ne_of_lt (Nat.lt_succ_self _))
 have I2:=Inv.made (C:=C) I
 have r2:Vals (V.ref (s.heap.objs.size+1)::(vs++dvs)) (Value.ref (s.heap.objs.size+1)::(us++ds)):=.cons rfl (r.append hd)
 have hl:(Value.ref (s.heap.objs.size+1)::us++ds).length=ps.length:=by
  have e:=r2.length
  rw [F.len _ _ _ _ hq] at e
  exact e.symm
 refine wpAny_call (Zjb (f:=f) I.kIn M.makes M.init (beq_iff_eq.mp M.fn) (codeAny_mono (F.run _ X.stack _ _ ⟨Value.ref (s.heap.objs.size+1)::us,[]⟩ (Value.ref (s.heap.objs.size+1)::(us++ds)) _ _ E (hr.make C us [])
  (I2.env0.make C us []) (hb _ (Value.ref (s.heap.objs.size+1)::us) I2.kIn hl) r2 hq) fun r s' hq'=>?_))
 cases r with
 | error e=>exact hx pins σ _ _ e s' I2 hq'
 | ok fl =>
  cases fl with
  | ret u =>
   obtain ⟨v,H',I3,rv,ev,q3⟩:=I2.after hq'
   subst ev
   exact ⟨rv,⟨V.ref (s.heap.objs.size+1),H',I3,rfl,q3⟩⟩
  | next=>exact False.elim hq'
  | brk=>exact False.elim hq'
  | cont=>exact False.elim hq'
theorem Ziu (M:Mk X.K C f)(F:FnOk X.prog X.w X.K X.mg X.base CX k f fd ps sp)(hr:Room (k+1) X.A)(hg:Gl X x)(hm:X.mg x=some (.ref C))(hb:Binds X.K fd ps ds)(hd:Vals dvs ds)(hx:Ul CX X E)
 (hdb:(x == ("__debug__":Str))=false:=by decide):PE X (.Call (.Name x p) [] [] pos) (Zkk C sp dvs E Wt):=by
 intro pins s σ H Q I h
 refine wpAny_Call_Name_kw (ZbF I hg hm ?_ hdb)
 exact PySem.W.callWith_K0 I.kIn M.kp (Zis (us:=[]) M F hr hb hd hx I .nil h)
end
def PK (X:Cx)(kws:List Keyword)(t:TA):Prop :=
 ∀ (pos:Pos) (pins:List (Addr×Obj)) (s:Shared) (σ:St) (H:Hp) (Q:List V->Hp->Prop),Inv X pins σ H s->t σ H Q->wpAny (model X.prog X.w) X.A (evalAll ((backToKw pos (keywordEach kws X.env)).map (·.2))) (AP X pins σ Q) X.xe s
section
variable {X:Cx}{CX:Vo}{k:Nat}{f C:Addr}{fd:FuncData}{ps ks:List Str}{sp:Sp}{E:XK}{x m:Str}{p pos apos kpos:Pos}{e o:Expr}{es:List Expr}{kws:List Keyword}{te ta:TE}{t tk:TA}{nm:Option Str}
theorem Zne:PK X [] Wt:=fun _ _ _ _ H Q I h=>wpAny_evalAll_nil ⟨[],H,I,.nil,h⟩
theorem ZkI (ha:PE X e te)(hr:PK X kws t):PK X (⟨nm,e,kpos⟩::kws) (XF te t):=by
 intro pos pins s σ H Q I h
 show wpAny _ _ (evalAll ((do let v <- eval e X.env;standAt pos;pure v)::(backToKw pos (keywordEach kws X.env)).map (·.2))) _ _ s
 refine wpAny_evalAll_cons (wpAny_bind (Zn (ha pins s σ H _ I h) fun u s1 ⟨x,H1,I1,r1,q1⟩=>wpAny_bind (wpAny_standAt (wpAny_pure ?_))))
 exact Zn (hr pos pins s1 σ H1 _ I1 q1) fun us s2 ⟨xs,H2,I2,r2,q2⟩=>⟨x::xs,H2,I2,.cons r1 r2,q2⟩
variable {g:List Value->List Value->List Value}{gV:List V->List V->List V}
end
structure Zp (N P:List Str)(sc:Scope):Prop where
 kind:sc.kind=.function
 co:sc.isCoroutine=false
 gen:sc.isGenerator=false
 nd:N.Nodup
 pre:N.take P.length=P
 par:∀ x∈P,sc.names.lookup x=some .local\/sc.names.lookup x=some .cell
 nofree:∀ y∈sc.names,y.2≠.free
theorem Zcw {kindOf:Str->Option NameKind}{x:Str}:∀{binds:List (Str×Value)}{m:Str->Option Value},(∀ v,(x,v) ∉ binds)->bindL kindOf binds m x=m x
 | [],_,_=>rfl
 | (n,v)::r,m,h=>by
  unfold bindL
  rw [Zcw fun w hw=>h w (mem_cons_of_mem _ hw)]
  split
  ·have:x≠n:=by rintro rfl;exact h v mem_cons_self
   simp [this]
  ·rfl
theorem Zcr {kindOf:Str->Option NameKind}{x:Str}:∀{binds:List (Str×Value)}{m:Str->Option Value},(∀ v,(x,v) ∉ binds)->bindC kindOf binds m x=m x
 | [],_,_=>rfl
 | (n,v)::r,m,h=>by
  unfold bindC
  rw [Zcr fun w hw=>h w (mem_cons_of_mem _ hw)]
  split
  ·rfl
  ·have:x≠n:=by rintro rfl;exact h v mem_cons_self
   simp [this]
theorem Zcs {kindOf:Str->Option NameKind}{x:Str}{v:Value}:∀{P:List Str}{vs:List Value}{i:Nat}{m:Str->Option Value},P.Nodup->P[i]?=some x->vs[i]?=some v->kindOf x=some .local ->
 bindL kindOf (P.zip vs) m x=some v
 | [],_,_,_,_,h,_,_=>by simp at h
 | _::_,[],_,_,_,_,h,_=>by simp at h
 | p::P,w::vs,0,m,nd,h1,h2,hk=>by
  simp at h1 h2;subst h1;subst h2
  show bindL kindOf ((p,w)::P.zip vs) m p=_
  unfold bindL
  rw [Zcw fun v hv=>(nodup_cons.mp nd).1 (of_mem_zip hv).1,if_pos hk]
  simp
 | p::P,w::vs,i+1,m,nd,h1,h2,hk=>by
  show bindL kindOf ((p,w)::P.zip vs) m x=_
  unfold bindL
  exact Zcs (i:=i) (nodup_cons.mp nd).2 (by simpa using h1) (by simpa using h2) hk
theorem Zcf {kindOf:Str->Option NameKind}{x:Str}{v:Value}:∀{P:List Str}{vs:List Value}{i:Nat}{m:Str->Option Value},P.Nodup->P[i]?=some x->vs[i]?=some v->kindOf x≠some .local ->
 bindC kindOf (P.zip vs) m x=some v
 | [],_,_,_,_,h,_,_=>by simp at h
 | _::_,[],_,_,_,_,h,_=>by simp at h
 | p::P,w::vs,0,m,nd,h1,h2,hk=>by
  simp at h1 h2;subst h1;subst h2
  show bindC kindOf ((p,w)::P.zip vs) m p=_
  unfold bindC
  rw [Zcr fun v hv=>(nodup_cons.mp nd).1 (of_mem_zip hv).1,if_neg hk]
  simp
 | p::P,w::vs,i+1,m,nd,h1,h2,hk=>by
  show bindC kindOf ((p,w)::P.zip vs) m x=_
  unfold bindC
  exact Zcf (i:=i) (nodup_cons.mp nd).2 (by simpa using h1) (by simpa using h2) hk
def start (N:List Str)(vs:List V):St:=vs.map some++List.replicate (N.length - vs.length) none
def Zaw (CX:Vo)(P:Program)(w:World)(K:KF)(mg:Str->Option Value)(base:Heap)(N:List Str)(qual:Str)(scope:Scope)(f:Addr)(cd:Value)(A:Around)(outer:List Env)(s:Shared)(H:Hp)(E:XK):Cx where
 prog:=P
 w:=w
 K:=K
 mg:=mg
 base:=base
 A:=A.deeper (envOfC qual scope s.heap.objs.size f cd)
 N:=N
 s₀:=s
 H₀:=H
 env:=envOfC qual scope s.heap.objs.size f cd
 outer:=outer
 stack:=envOfC qual scope s.heap.objs.size f cd::outer
 ex:=[]
 calm:=true
 fn:=fun _=>true
 pn:=[]
 xe:=fun e s'=>wpAny (model P w) (A.deeper (envOfC qual scope s.heap.objs.size f cd)) (leaving (envOfC qual scope s.heap.objs.size f cd) e) (fun _ s''=>CX outer H s E e s'') (fun e' s''=>CX outer H s E e' s'') s'
theorem Zdr {sc:Scope}{n:Nat}{x:Str}(h:sc.names.lookup x=some .cell):∃ c,(cellsFrom n sc.names []).lookup x=some c:=by
 have q:=PySem.W.cellsFrom_some sc.names n [] (.inl h)
 exact Option.isSome_iff_exists.mp q
theorem ZgL {CX:Vo}{P:Program}{w:World}{K:KF}{mg:Str->Option Value}{base:Heap}{N ps:List Str}{qual:Str}{scope:Scope}{f:Addr}{cd:Value}{A:Around}{outer:List Env}{s s1:Shared}{H:Hp}{E:XK}{us:List Value}{vs:List V}
 (S:Zp N ps scope) (hd:A.handled=none) (e0:Env0 P w K mg base A outer s H) (hl:vs.length=ps.length) (r:Vals vs us)
 (x:InCallC s s.heap.objs.size (bindL (envOfC qual scope s.heap.objs.size f cd).kindOf (ps.zip us) fun _=>none) (cellsFrom (s.heap.objs.size+1) scope.names []) (bindC (envOfC qual scope s.heap.objs.size f cd).kindOf (ps.zip us) fun _=>none) s1) :
 Inv (Zaw CX P w K mg base N qual scope f cd A outer s H E) [] (start N vs) H s1:=by
 have hpl:ps.length<=N.length:=by have:=congrArg List.length S.pre;rw [length_take] at this;omega
 obtain ⟨h1,tk,rfl,hk⟩:=x.done
 have noA:∀ b:Addr,b ∉ (Zaw CX P w K mg base N qual scope f cd A outer s H E).ex:=fun b z=>absurd (show b∈([]:List Addr) from z) (by simp)
 refine ⟨⟨e0.mod,S.kind,rfl,rfl,Nat.le_refl _,fun y z c h1 h2=>?_,fun y hy=>?_,fun y c _ h=>?_,fun _=>hd,Around.frames_deeper e0.frames,.inr ⟨rfl,rfl⟩,fun b z=>absurd z (noA b),e0.bs,e0.bsz,fun b _ _=>noA b,fun b z=>absurd z (noA b),e0.funs,e0.frf⟩,
  rfl,e0.bare,Un.kept hk,⟨_,x.toInCall.ns,fun i y v h1 h2 h3=>?_⟩,fun y c h=>⟨_,x.cell y c h⟩,e0.hok.fresh (Nat.le_refl _),fun y c h=>?_,fun p hp=>absurd (show p∈([]:List (Addr×Obj)) from hp) (by simp),e0.hok.kept hk,?_⟩
 ·exact name_of_addr x.apart (PySem.mem_of_lookup h1) (PySem.mem_of_lookup h2)
 ·have hy:scope.names.lookup y=some .cell\/scope.names.lookup y=some .free:=hy
  rcases hy with hy | hy
  ·exact Zdr hy
  ·exact absurd rfl (S.nofree _ (PySem.mem_of_lookup hy))
 ·exact Nat.le_of_lt (x.above y c (PySem.mem_of_lookup h))
 ·have hi:i < vs.length:=by
   unfold start at h2
   by_cases hi:i < vs.length
   ·exact hi
   ·rw [getElem?_append_right (by simpa using hi)] at h2
    rw [List.getElem?_replicate] at h2
    split at h2<;>cases h2
  have ha:vs[i]?=some v:=by
   unfold start at h2
   rw [getElem?_append_left (by simpa using hi),getElem?_map] at h2
   cases e:vs[i]? with
   | none=>rw [e] at h2;cases h2
   | some a=>rw [e] at h2;cases h2;rfl
  obtain ⟨u,hu,rv⟩:=r.get ha
  have hp:ps[i]?=some y:=by
   rw [<- S.pre,List.getElem?_take_of_lt (by omega)];exact h1
  have ndP:ps.Nodup:=by rw [<- S.pre];exact S.nd.sublist (List.take_sublist _ _)
  refine ⟨u,rv,?_⟩
  rcases S.par y (mem_of_getElem? hp) with k | k
  ·exact .inl ⟨k,Zcs ndP hp hu k⟩
  ·obtain ⟨c,e⟩:=Zdr (n:=s.heap.objs.size+1) k
   refine .inr ⟨.inl k,c,e,?_⟩
   have q:=x.cell y c e
   rw [Zcf ndP hp hu (by show scope.names.lookup y≠_;rw [k];decide)] at q
   exact q
 ·exact e0.hok.fresh (Nat.le_of_lt (x.above y c (PySem.mem_of_lookup h)))
 ·unfold start
  show _=N.length
  rw [length_append,length_map,List.length_replicate]
  omega
theorem Zkj {CX:Vo}{P:Program}{w:World}{K:KF}{mg:Str->Option Value}{base:Heap}{k:Nat}{f:Addr}{name qual:Str}{params:Arguments}{body:List Stmt}{scope:Scope}{dV kV doc pm cdv ct oc:Value}{an od:Option Addr}
 {osl:Array (Option Value)} {N ps:List Str} {sp:Sp} (lk:K.lookup f=some ⟨oc,od,.func (PySem.W.fnOf name qual params body scope dV kV doc pm an cdv ct),osl⟩) (hcd:PySem.W.codeIn K cdv qual=true) (S:Zp N ps scope)
 (len:∀ vs H Q E,sp vs H Q E->vs.length=ps.length)
 (hbody:∀ (A:Around) (outer:List Env) (s:Shared) (H:Hp) (vs:List V) (Q:VK) (E:XK),Room k (A.deeper (envOfC qual scope s.heap.objs.size f cdv))->sp vs H Q E ->
  ∃ t,PSs (Zaw CX P w K mg base N qual scope f cdv A outer s H E) body t/\t { nx:=fun _ H'=>Q .non H',rt:=Q } (start N vs) H) :
 FnOk P w K mg base CX (k+1) f (PySem.W.fnOf name qual params body scope dV kV doc pm an cdv ct) ps sp:=by
 refine ⟨len,fun A outer s H args us vs Q E hr e0 hb r hsp=>?_⟩
 have hl:=len _ _ _ _ hsp
 have KX:K.In s.heap:=e0.mod.kin.keeps fun b o e=>(e0.bs b o e).1
 have lim:s.heap.NoLimit:=e0.mod.nolimit.keeps fun b o e=>(e0.bs b o e).1
 have hkind:∀ y∈ps.zip us,scope.names.lookup y.1=some .local\/(scope.names.lookup y.1=some .cell/\((cellsFrom (s.heap.objs.size+1) scope.names []).lookup y.1).isSome=true):=fun ⟨n,v⟩ hy=>by
  rcases S.par n (of_mem_zip hy).1 with q | q
  ·exact .inl q
  ·exact .inr ⟨q,PySem.W.cellsFrom_some _ _ _ (.inl q)⟩
 refine codeAny_call_function hr.depth (KX _ _ lk) rfl S.co S.gen rfl (PySem.W.codeRec_of KX hcd) (hb _ _ _ _ ?_)
 refine wpAny_newFunctionEnv_cells S.kind hkind fun env he s1 x=>?_
 subst he
 refine ⟨lim.keeps x.toInCall.keep,codeAny_func ?_⟩
 obtain ⟨t,ht,hq⟩:=hbody A outer s H vs Q E (hr.deeper _) hsp
 have I:Inv (Zaw CX P w K mg base N qual scope f cdv A outer s H E) [] (start N vs) H s1:=ZgL S hr.hd e0 hl r x
 refine wpAny_mono (ht [] s1 (start N vs) H _ I hq) (fun fl s' hs=>?_) fun e s' hs=>hs
 have fin:∀ {σ':St} {H':Hp} {v:V} {u:Value},Inv (Zaw CX P w K mg base N qual scope f cdv A outer s H E) [] σ' H' s'->RelV v u->Q v H'->CE outer P w H s Q u s' :=
  fun {σ' H' v u} J rv q=>⟨v,H',J.os,J.bare,J.base,J.hok,rv,q⟩
 cases fl with
 | ret u =>
  obtain ⟨v,σ',H',J,rv,q⟩:=hs
  exact fin J rv q
 | next =>
  obtain ⟨σ',H',J,q⟩:=hs
  exact fin (v:=V.non) (u:=Value.none) J rfl q
 | brk =>
  obtain ⟨_,_,_,q⟩:=hs
  exact False.elim q
 | cont =>
  obtain ⟨_,_,_,q⟩:=hs
  exact False.elim q
section
variable {X:Cx}{x:Str}{p pos:Pos}{e:Expr}{es:List Expr}{t:TA}{id T:String}{r:List V->Hp->VK->Prop}
def tCB (r:List V->Hp->VK->Prop)(t:TA):TE:=fun σ H Q=>t σ H fun vs H1=>r vs H1 Q
theorem Zv (hc:Yw X (.builtin id) r)(hg:Gl X x)(hm:X.mg x=none)(hv:bootBuiltins x=some (.builtin id))(ha:PA X (e::es) t)(hn:x≠"__name__":=by decide)(hdb:(x == ("__debug__":Str))=false:=by decide)
 (he:starEach (e::es) X.env=(false,eval e X.env)::starEach es X.env:=by rfl) (hpl:(backTo pos (starEach es X.env)).any (·.1)=false:=by rfl):PE X (.Call (.Name x p) (e::es) [] pos) (tCB r t):=by
 intro pins s σ H Q I h
 refine wpAny_Call_Name_kw (WC I hg hm hv ?_ hn hdb)
 exact PyProof.Rows.callWith_builtin1 (Zn (ha pos pins s σ H _ I h) fun us s1 ⟨vs,H1,I1,r1,q1⟩=>hc pins s1 σ H1 vs us Q I1 r1 q1) he hpl
theorem Yl (hc:Yw X (.type T) r)(hg:Gl X x)(hm:X.mg x=none)(hv:bootBuiltins x=some (.type T))(ha:PA X (e::es) t)(hn:x≠"__name__":=by decide)(hdb:(x == ("__debug__":Str))=false:=by decide)
 (he:starEach (e::es) X.env=(false,eval e X.env)::starEach es X.env:=by rfl) (hpl:(backTo pos (starEach es X.env)).any (·.1)=false:=by rfl):PE X (.Call (.Name x p) (e::es) [] pos) (tCB r t):=by
 intro pins s σ H Q I h
 refine wpAny_Call_Name_kw (WC I hg hm hv ?_ hn hdb)
 exact PyProof.Rows.callWith_type1 (Zn (ha pos pins s σ H _ I h) fun us s1 ⟨vs,H1,I1,r1,q1⟩=>hc pins s1 σ H1 vs us Q I1 r1 q1) he hpl
end
end L2
namespace HT
open PySem PyProof.Rows
section
open PySem.SeqAt
open PySem.AutoSeq1 (wpAny_loadPart')
open PySem.MeetsSeq PySem.MeetsSeq2 PySem.MeetsSeq3
end
section
variable {prog:Program}{w:World}{A:Around}{E:ZB}{s:Shared}
def sIx (n d:Nat):Option Int->Nat
 | none=>d
 | some v=>if v < 0 then (v+(n:Int)).toNat else min v.toNat n
theorem sIx_none (n d:Nat):sIx n d none=d:=rfl
theorem sIx_nat (n d k:Nat):sIx n d (some (k:Int))=min k n:=by
 show (if (k:Int) < 0 then ((k:Int)+(n:Int)).toNat else min (k:Int).toNat n)=min k n
 rw [if_neg (by omega),Int.toNat_natCast]
theorem sIx_le (n d:Nat)(hd:d<=n)(o:Option Int):sIx n d o<=n:=by
 cases o with
 | none=>exact hd
 | some v =>
  show (if v < 0 then (v+(n:Int)).toNat else min v.toNat n)<=n
  by_cases hv:v < 0
  ·rw [if_pos hv];omega
  ·rw [if_neg hv];exact Nat.min_le_right _ _
end
end HT
namespace L2
open PySem PySem.Spec PyProof.Rows
abbrev TO:=St->Hp->(Option Int->Hp->Prop)->Prop
def PO (X:Cx)(e:Option Expr)(t:TO):Prop :=
 ∀ (pins:List (Addr×Obj)) (s:Shared) (σ:St) (H:Hp) (Q:Option Int->Hp->Prop),Inv X pins σ H s->t σ H Q ->
  wpAny (model X.prog X.w) X.A (evalPart e X.env) (fun u s'=>∃ o H',Inv X pins σ H' s'/\IsPart u o/\Q o H') X.xe s
def Zlu:TO:=fun _ H Q=>Q none H
def ZnH (t:TE):TO:=fun σ H Q=>t σ H fun x H1=>∃ i,x=.int i/\Q (some i) H1
section
variable {X:Cx}{e:Expr}{te:TE}{lo hi:Option Expr}{tl th:TO}{pos p2:Pos}
theorem XU:PO X none Zlu:=by
 intro pins s σ H Q I h
 rw [evalPart_none]
 exact wpAny_pure ⟨none,H,I,.none,h⟩
theorem Ws (h:PE X e te):PO X (some e) (ZnH te):=by
 intro pins s σ H Q I hw
 rw [evalPart_some]
 refine Zn (h pins s σ H _ I hw) fun u s1 ⟨x,H1,I1,r1,q1⟩=>?_
 obtain ⟨i,rfl,q⟩:=q1
 obtain ⟨t,rfl⟩:=r1
 exact ⟨some i,H1,I1,.int i t,q⟩
def SlR (X:Cx)(r:V->Option Int->Option Int->Hp->VK->Prop):Prop :=
 ∀ (pins:List (Addr×Obj)) (s:Shared) (σ:St) (H:Hp) (x:V) (v vl vu:Value) (lo hi:Option Int) (sl:Addr) (Q:VK),Inv X pins σ H s->RelV x v->s.heap.IsSliceOf sl vl vu .none->IsPart vl lo->IsPart vu hi->r x lo hi H Q ->
  ∃ T id,typeLookup (.type T) "__getitem__"=pure (some (.builtin id))/\s.TypeIs v T/\wpAny (model X.prog X.w) X.A (getItem v (.ref sl)) (EP X pins σ Q) X.xe s
def tSl (r:V->Option Int->Option Int->Hp->VK->Prop)(te:TE)(tl th:TO):TE:=fun σ H Q=>te σ H fun x H1=>tl σ H1 fun l H2=>th σ H2 fun u H3=>r x l u H3 Q
theorem Wu {r:V->Option Int->Option Int->Hp->VK->Prop}(hr:SlR X r)(he:PE X e te)(hl:PO X lo tl)(hu:PO X hi th):PE X (.Subscript e (.Slice lo hi none p2) pos) (tSl r te tl th):=by
 intro pins s σ H Q I h
 refine Subscript_ (Zn (he pins s σ H _ I h) fun v s1 ⟨x,H1,I1,r1,q1⟩=>?_)
 refine wpAny_Slice (Zn (hl pins s1 σ H1 _ I1 q1) fun vl s2 ⟨l,H2,I2,pl,q2⟩=>Zn (hu pins s2 σ H2 _ I2 q2) fun vu s3 ⟨u,H3,I3,pu,q3⟩=>?_)
 rw [evalPart_none]
 refine wpAny_pure ?_
 have I4:Inv X pins σ H3 { s3 with heap:=s3.heap.push { cls:=.type "slice",data:=.fields #[vl,vu,.none] } }:=I3.kept (t':=s3.toks) fun b ob q=>Heap.get?_push_of_some _ q
 obtain ⟨T,id,hT,ht,hg⟩:=hr pins { s3 with heap:=s3.heap.push { cls:=.type "slice",data:=.fields #[vl,vu,.none] } } σ H3 x v vl vu l u s3.heap.objs.size Q I4 r1 (Heap.IsSliceOf.new ..) pl pu q3
 show wpAny (model X.prog X.w) X.A (subscriptTail e (.Slice lo hi none p2) v (.ref s3.heap.objs.size)) (EP X pins σ Q) X.xe { s3 with heap:=s3.heap.push { cls:=.type "slice",data:=.fields #[vl,vu,.none] } }
 exact tail_any (ops:=[.ref s3.heap.objs.size,v]) ht hT hg (by with_unfolding_all rfl)
def VU (xs:List V)(lo hi:Option Int):List V:=(xs.drop (HT.sIx xs.length 0 lo)).take (HT.sIx xs.length xs.length hi - HT.sIx xs.length 0 lo)
theorem Zet (xs:List V)(lo hi:Option Int):(VU xs lo hi).length<=xs.length:=by
 unfold VU
 rw [length_take,length_drop]
 omega
end
def WI (n:Nat)(i:Int):Option Nat:=if 0<=i then (if i < n then some i.toNat else none) else if -(n:Int)<=i then some (i+n).toNat else none
def YY {α:Type}(xs:List α)(i:Int):Option α:=(WI xs.length i).bind fun j=>xs[j]?
theorem ZbG {n:Nat}{i:Int}{j:Nat}(h:WI n i=some j):seqIndex? i n=some j/\j < n/\-(n:Int)<=i/\i < n:=by
 unfold WI at h
 by_cases h0:0<=i
 ·rw [if_pos h0] at h
  by_cases h1:i < n
  ·rw [if_pos h1] at h
   have e:i.toNat=j:=Option.some.inj h
   exact ⟨by rw [seqIndex_of h0 h1,e],by omega,by omega,h1⟩
  ·rw [if_neg h1] at h;cases h
 ·rw [if_neg h0] at h
  by_cases h1:-(n:Int)<=i
  ·rw [if_pos h1] at h
   have e:(i+n).toNat=j:=Option.some.inj h
   exact ⟨by rw [seqIndex_neg (by omega) h1,e],by omega,h1,by omega⟩
  ·rw [if_neg h1] at h;cases h
theorem ZbU {α:Type}{xs:List α}{i:Int}{v:α}(h:YY xs i=some v):∃ j,seqIndex? i xs.length=some j/\xs[j]?=some v/\j < xs.length/\-(xs.length:Int)<=i/\i < xs.length:=by
 unfold YY at h
 cases e:WI xs.length i with
 | none=>rw [e] at h;cases h
 | some j =>
  rw [e] at h
  obtain ⟨h1,h2,h3,h4⟩:=ZbG e
  exact ⟨j,h1,h,h2,h3,h4⟩
theorem Zw {α:Type}{xs:List α}{j:Nat}{v:α}(h:xs[j]?=some v):YY xs (j:Int)=some v:=by
 have hj:j < xs.length:=(List.getElem?_eq_some_iff.mp h).1
 have e:WI xs.length (j:Int)=some j:=by
  unfold WI
  rw [if_pos (by omega),if_pos (by omega)];simp
 unfold YY;rw [e];exact h
theorem ZjK {α:Type}(xs:List α)(v:α):YY (xs++[v]) (-1)=some v:=by
 have hl:(xs++[v]).length=xs.length+1:=by simp
 have e:WI (xs++[v]).length (-1)=some xs.length:=by
  unfold WI
  rw [hl,if_neg (by decide),if_pos (by omega)]
  congr 1
  omega
 unfold YY
 rw [e]
 show (xs++[v])[xs.length]?=some v
 simp
def ZlK (b:Expr):Prop:=∀ o i,subscripted b false o i=operate [o,i] (getItem o i)
def IxR (X:Cx)(r:R2):Prop :=
 ∀ (value slice:Expr) (pins:List (Addr×Obj)) (s:Shared) (σ:St) (H:Hp) (x y:V) (v u:Value) (Q:VK),Inv X pins σ H s->RelV x v->RelV y u->r x y H Q ->
  subscripted slice false v u=operate [v,u] (getItem v u)->wpAny (model X.prog X.w) X.A (subscriptTail value slice v u) (EP X pins σ Q) X.xe s
def MtR (X:Cx)(id:String)(r:V->List V->Hp->VK->Prop):Prop :=
 ∀ (pins:List (Addr×Obj)) (s:Shared) (σ:St) (H:Hp) (x:V) (xs:List V) (v:Value) (us:List Value) (Q:VK),Inv X pins σ H s->RelV x v->Vals xs us->r x xs H Q ->
  wpAny (model X.prog X.w) X.A (call (.builtin id) (v::us)) (EP X pins σ Q) X.xe s
section
variable {X:Cx}{a b:Expr}{ta tb:TE}{pos:Pos}
theorem Zq {r:R2}(hr:IxR X r)(ha:PE X a ta)(hb:PE X b tb)(hs:ZlK b):PE X (.Subscript a b pos) (tOp r ta tb):=by
 intro pins s σ H Q I h
 exact Subscript_ (Zij ha hb I h fun v u s2 x y H2 I2 rx ry q=>hr a b pins s2 σ H2 x y v u Q I2 rx ry q (hs _ _))
def rIxL (K:KF):R2:=fun x y H Q=>∃ p xs i v,x=.ref p/\y=.int i/\SqL K H p xs/\YY xs i=some v/\Q v H
def rIxT (K:KF):R2:=fun x y H Q=>∃ p xs i v,x=.ref p/\y=.int i/\SqT K H p xs/\YY xs i=some v/\Q v H
def rIxS:R2:=fun x y H Q=>∃ z i c,x=.str z/\y=.int i/\z.length<=sizeLine/\YY z.cps.toList i=some c/\Q (.str ⟨#[c]⟩) H
theorem ZA:IxR X (rIxL X.K):=by
 intro value slice pins s σ H x y v u Q I rx ry h hs
 obtain ⟨p,xs,i,z,rfl,rfl,hq,he,q⟩:=h
 cases rx
 obtain ⟨t,rfl⟩:=ry
 obtain ⟨its,r,pl,hz⟩:=I.list hq
 obtain ⟨j,h1,h2,h3,h4,h5⟩:=ZbU he
 obtain ⟨w,ew,rw'⟩:=r.get h2
 have hl:=r.length
 have hn:=WV
 have fin:EP X pins σ Q w s:=⟨z,H,I,rw',q⟩
 by_cases h0:0<=i
 ·have hj:i.toNat=j:=by
   rw [seqIndex_of h0 h5] at h1
   exact Option.some.inj h1
  exact item_listR pl.isList h0 (by omega) (by rw [hj];simpa using ew) fin hs
 ·have hj:(i+(its.toArray.size:Int)).toNat=j:=by
   rw [seqIndex_neg (by omega) h4] at h1
   rw [size_toArray,<- hl]
   exact Option.some.inj h1
  exact subscriptTail_builtinR (x:=w) pl.isList.typeIs slot_list_getitem.lookup
   (wpAny_getItem_list_neg (Q:=fun r s'=>r=w/\EP X pins σ Q r s') pl.isList (by omega) (by rw [size_toArray]<;>omega) (by omega) (by rw [hj];simpa using ew) ⟨rfl,fin⟩) hs
theorem Ye:IxR X (rIxT X.K):=by
 intro value slice pins s σ H x y v u Q I rx ry h hs
 obtain ⟨p,xs,i,z,rfl,rfl,hq,he,q⟩:=h
 cases rx
 obtain ⟨t,rfl⟩:=ry
 obtain ⟨its,r,pl,hz⟩:=I.tuple hq
 obtain ⟨j,h1,h2,h3,h4,h5⟩:=ZbU he
 obtain ⟨w,ew,rw'⟩:=r.get h2
 have hl:=r.length
 have hn:=WV
 have fin:EP X pins σ Q w s:=⟨z,H,I,rw',q⟩
 exact subscriptTail_builtinR (x:=w) pl.typeIs slot_tuple_getitem.lookup
  (getItem_tuple (j:=j) (Q:=fun r s'=>r=w/\EP X pins σ Q r s') pl (by omega) (by omega) (by rw [size_toArray,<- hl];exact h1) (by simpa using ew) ⟨rfl,fin⟩) hs
theorem WA:IxR X rIxS:=by
 intro value slice pins s σ H x y v u Q I rx ry h hs
 obtain ⟨z,i,c,rfl,rfl,hz,he,q⟩:=h
 obtain ⟨t,rfl⟩:=rx
 obtain ⟨t',rfl⟩:=ry
 obtain ⟨j,h1,h2,h3,h4,h5⟩:=ZbU he
 have hl:z.cps.toList.length=z.length:=by simp [Str.length]
 rw [hl] at h1 h4 h5
 have hn:=WV
 exact tail_any (typeIs_str s z t) slot_str_getitem.lookup (getItem_str (c:=c) (by
  have e1:decide (i < -(2 ^ 63:Int))=false:=decide_eq_false (by omega)
  have e2:decide (i ≥ 2 ^ 63)=false:=decide_eq_false (by omega)
  rw [e1,e2,Bool.or_false]) (by rw [h1];simpa using h2) ⟨.str ⟨#[c]⟩,H,I.tok _,⟨_,rfl⟩,q⟩) hs
theorem Zgo (its:List Value)(n j:Nat)(u:Value):Obj.mapSeq (·.setIfInBounds j u) { cls:=.type "list",data:=.seq its.toArray n }={ cls:=.type "list",data:=.seq (its.set j u).toArray n }:=by
 simp [Obj.mapSeq]
theorem Inv.lst {pins:List (Addr×Obj)}{σ:St}{H:Hp}{s:Shared}{p:Addr}{xs:List V}(I:Inv X pins σ H s)(h:H p=some (.lst xs)) :
 ∃ (its:List Value) (n:Nat),Vals xs its/\s.heap.get? p=some { cls:=.type "list",data:=.seq its.toArray n }/\xs.length<=sizeLine:=by
 obtain ⟨z,its,n,r,e⟩:=I.hok p _ h
 exact ⟨its,n,r,e,z⟩
theorem Inv.lstUpd {pins:List (Addr×Obj)}{σ:St}{H:Hp}{s:Shared}{p:Addr}{xs ys:List V}{its its':List Value}{n n':Nat}{f:Obj->Obj}(I:Inv X pins σ H s)(h:H p=some (.lst xs))
 (ho:s.heap.get? p=some { cls:=.type "list",data:=.seq its.toArray n }) (hf:f { cls:=.type "list",data:=.seq its.toArray n }={ cls:=.type "list",data:=.seq its'.toArray n' }) (r:Vals ys its') (hz:ys.length<=sizeLine) (t:Nat) :
 Inv X pins σ (upd H p (.lst ys)) { s with heap:=s.heap.update p f,toks:=t }:=by
 have e:(s.heap.update p f).get? p=some { cls:=.type "list",data:=.seq its'.toArray n' }:=by
  rw [Heap.get?_update_self f ho (by rw [hf]<;>rfl),hf]
 refine I.write (x:=p) (e:=p) (by rw [h];trivial) (.inl rfl) (fun b u hb q=>(Heap.get?_update_other _ _ (Ne.symm hb)).trans q) ⟨_,e⟩ ?_
 exact ⟨hz,its',n',r,e⟩
def Znu:V->V->V->Hp->(Hp->Prop)->Prop:=fun o i v H Q=>∃ p xs k j,o=.ref p/\i=.int k/\H p=some (.lst xs)/\WI xs.length k=some j/\Q (upd H p (.lst (xs.set j v)))
theorem UY:PSet X Znu:=by
 intro pins s σ H o i v ov iv u Q I ro ri rv h
 obtain ⟨p,xs,k,j,rfl,rfl,hp,hj,q⟩:=h
 cases ro
 obtain ⟨t,rfl⟩:=ri
 obtain ⟨its,n,r,ho,hz⟩:=I.lst hp
 obtain ⟨h1,h2,h3,h4⟩:=ZbG hj
 have hl:=r.length
 have hn:=WV
 have I':Inv X pins σ (upd H p (.lst (xs.set j v))) { s with heap:=s.heap.update p (Obj.mapSeq (·.setIfInBounds j u)) } :=
  I.lstUpd hp ho (Zgo its n j u) (r.set rv j) (by rw [length_set];exact hz) s.toks
 by_cases h0:0<=k
 ·have hk:k.toNat=j:=by
   rw [seqIndex_of h0 h4] at h1
   exact Option.some.inj h1
  exact PySem.W.ki_setAt ho h0 (by omega) (by rw [size_toArray,<- hl];exact h4) (by rw [hk];exact ⟨_,I',q⟩)
 ·have hk:(k+(its.toArray.size:Int)).toNat=j:=by
   rw [seqIndex_neg (by omega) h3] at h1
   rw [size_toArray,<- hl]
   exact Option.some.inj h1
  exact PySem.W.ki_setBack ho (by omega) (by rw [size_toArray,<- hl];exact h3) (by omega) (by rw [hk];exact ⟨_,I',q⟩)
theorem ZdG (lo hi:Option Int)(n:Nat):(sliceBounds lo hi none n).1=((HT.sIx n 0 lo:Nat):Int)/\(sliceBounds lo hi none n).2.1=((HT.sIx n n hi:Nat):Int)/\(sliceBounds lo hi none n).2.2=1:=by
 refine ⟨?_,?_,rfl⟩
 ·cases lo with
  | none=>simp [sliceBounds,HT.sIx]
  | some i =>
   simp only [sliceBounds,HT.sIx,Option.getD_none,show (1:Int) > 0 by decide,if_true]
   by_cases h:i < 0
   ·simp only [h,if_true]<;>omega
   ·simp only [h,if_false]<;>omega
 ·cases hi with
  | none=>simp [sliceBounds,HT.sIx]
  | some i =>
   simp only [sliceBounds,HT.sIx,Option.getD_none,show (1:Int) > 0 by decide,if_true]
   by_cases h:i < 0
   ·simp only [h,if_true]<;>omega
   ·simp only [h,if_false]<;>omega
theorem ZcI (its:List Value)(lo hi:Option Int):slicePick its.toArray lo hi none=((its.drop (HT.sIx its.length 0 lo)).take (HT.sIx its.length its.length hi - HT.sIx its.length 0 lo)).toArray:=by
 obtain ⟨h1,h2,h3⟩:=ZdG lo hi its.toArray.size
 unfold slicePick
 rw [h1,h2,h3]
 simp only [sliceRange_one,pick_run,size_toArray]<;>rfl
def rSlL (K:KF):V->Option Int->Option Int->Hp->VK->Prop:=fun x lo hi H Q=>∃ a xs,x=.ref a/\SqL K H a xs/\∀ p,H p=none->Q (.ref p) (upd H p (.lst (VU xs lo hi)))
theorem ZbM:SlR X (rSlL X.K):=by
 intro pins s σ H x v vl vu lo hi sl Q I rx hs pl pu h
 obtain ⟨a,xs,rfl,hx,q⟩:=h
 cases rx
 obtain ⟨its,r,ht,hz⟩:=I.list hx
 have hlen:=r.length
 refine ⟨"list",_,slot_list_getitem.lookup,ht.isList.typeIs,?_⟩
 refine wpAny_getItem_list_slice ht.isList hs pl pu .none (by simp) ?_ (by rw [size_toArray]<;>omega)
 rw [ZcI,<- hlen]
 refine ⟨.ref s.heap.objs.size,_,I.laid (t':=s.toks) (o:=.lst (VU xs lo hi)) (fun b ob q=>Heap.get?_push_of_some _ q) (Nat.le_refl _) ?_,rfl,q _ (I.hok.fresh (Nat.le_refl _))⟩
 exact ⟨Nat.le_trans (Zet xs lo hi) hz,_,0,(r.drop (HT.sIx xs.length 0 lo)).take (HT.sIx xs.length xs.length hi - HT.sIx xs.length 0 lo),Heap.get?_push_size _ rfl⟩
def WM:V->Bool
 | .non=>true
 | .bl _=>true
 | .int _=>true
 | .str _=>true
 | _=>false
def eqV:V->V->Bool
 | .non,.non=>true
 | .bl a,.bl b=>a == b
 | .bl a,.int b=>(if a then 1 else 0) == b
 | .int a,.bl b=>a == (if b then 1 else 0)
 | .int a,.int b=>a == b
 | .str a,.str b=>a == b
 | _,_=>false
theorem Zmt {A:Around}{s:Shared}{y x:V}{u v:Value}(ry:RelV y u)(rx:RelV x v)(fy:WM y=true)(fx:WM x=true):SeqAt.EqAt A s u v (eqV y x):=by
 cases y with
 | non =>
  cases ry
  cases x with
  | non=>cases rx;exact SeqAt.EqAt.same _
  | bl b=>cases rx;exact SeqAt.EqAt.none_bool b
  | int b=>obtain ⟨t,rfl⟩:=rx;exact SeqAt.EqAt.none_int b t
  | str b=>obtain ⟨t,rfl⟩:=rx;exact SeqAt.EqAt.none_str b t
  | _=>exact absurd (show false=true from fx) Bool.false_ne_true
 | bl a =>
  cases ry
  cases x with
  | non=>cases rx;exact SeqAt.EqAt.bool_none a
  | bl b=>cases rx;exact SeqAt.EqAt.bool_bool a b
  | int b=>obtain ⟨t,rfl⟩:=rx;exact SeqAt.EqAt.bool_int a b t
  | str b=>obtain ⟨t,rfl⟩:=rx;exact SeqAt.EqAt.bool_str a b t
  | _=>exact absurd (show false=true from fx) Bool.false_ne_true
 | int a =>
  obtain ⟨t',rfl⟩:=ry
  cases x with
  | non=>cases rx;exact SeqAt.EqAt.int_none a t'
  | bl b=>cases rx;exact SeqAt.EqAt.int_bool a t' b
  | int b=>obtain ⟨t,rfl⟩:=rx;exact SeqAt.EqAt.int_int a t' b t
  | str b=>obtain ⟨t,rfl⟩:=rx;exact SeqAt.EqAt.int_str a t' b t
  | _=>exact absurd (show false=true from fx) Bool.false_ne_true
 | str a =>
  obtain ⟨t',rfl⟩:=ry
  cases x with
  | non=>cases rx;exact SeqAt.EqAt.str_none a t'
  | bl b=>cases rx;exact SeqAt.EqAt.str_bool a t' b
  | int b=>obtain ⟨t,rfl⟩:=rx;exact SeqAt.EqAt.str_int a t' b t
  | str b=>obtain ⟨t,rfl⟩:=rx;exact SeqAt.EqAt.str_str a t' b t
  | _=>exact absurd (show false=true from fx) Bool.false_ne_true
 | _=>exact absurd (show false=true from fy) Bool.false_ne_true
def eqU (x:V)(u:Value):Bool:=match u with
 | .none=>eqV .non x
 | .bool b=>eqV (.bl b) x
 | .int i _=>eqV (.int i) x
 | .str z _=>eqV (.str z) x
 | _=>false
theorem Zhx {x y:V}{u:Value}(r:RelV y u)(f:WM y=true):eqU x u=eqV y x:=by
 cases y with
 | non=>cases r;rfl
 | bl b=>cases r;rfl
 | int i=>obtain ⟨t,rfl⟩:=r;rfl
 | str z=>obtain ⟨t,rfl⟩:=r;rfl
 | _=>exact absurd (show false=true from f) Bool.false_ne_true
theorem ZbK {x:V}:∀{xs:List V}{us:List Value},Vals xs us->xs.all WM=true->us.any (eqU x)=xs.any fun y=>eqV y x
 | _,_,.nil,_=>rfl
 | y::xs,u::us,.cons r t,f=>by
  rw [List.all_cons,Bool.and_eq_true] at f
  rw [any_cons,any_cons,Zhx r f.1,ZbK t f.2]
theorem Zav {A:Around}{s:Shared}{x:V}{v:Value}(rx:RelV x v)(fx:WM x=true):∀{xs:List V}{us:List Value},Vals xs us->xs.all WM=true->∀ u∈us,SeqAt.EqAt A s u v (eqU x u)
 | _,_,.nil,_=>fun u hu=>by cases hu
 | y::xs,u::us,.cons r t,f=>fun u' hu=>by
  rw [List.all_cons,Bool.and_eq_true] at f
  rcases mem_cons.mp hu with rfl | hu
  ·rw [Zhx r f.1];exact Zmt r rx f.1 fx
  ·exact Zav rx fx t f.2 u' hu
def inV (x:V)(xs:List V):Bool:=xs.any fun y=>eqV y x
def rIn (K:KF)(neg:Bool):R2:=fun x y H Q=>∃ p xs,y=.ref p/\(SqL K H p xs\/SqT K H p xs)/\WM x=true/\xs.all WM=true/\Q (.bl (if neg then !inV x xs else inV x xs)) H
theorem ZdB:Xb X (compareOp .NotIn) (rIn X.K true):=by
 intro pins s σ H x y v u Q I rx ry h
 obtain ⟨p,xs,rfl,hq,fx,fs,q⟩:=h
 cases ry
 rcases hq with hq | hq
 ·obtain ⟨its,r,pl,hz⟩:=I.list hq
  refine SeqAt.notIn_listAt (eqU x) pl.isList (fun w hw=>Zav rx fx r fs w (by simpa using hw)) ⟨.bl _,H,I,rfl,?_⟩
  rw [show its.toArray.any (eqU x)=its.any (eqU x) by simp,ZbK r fs]
  exact q
 ·obtain ⟨its,r,pl,hz⟩:=I.tuple hq
  refine SeqAt.notIn_tupleAt (eqU x) pl (fun w hw=>Zav rx fx r fs w (by simpa using hw)) ⟨.bl _,H,I,rfl,?_⟩
  rw [show its.toArray.any (eqU x)=its.any (eqU x) by simp,ZbK r fs]
  exact q
theorem ZG:Yw X (.builtin "len") (fun xs H Q=>∃ p ys,xs=[.ref p]/\(SqL X.K H p ys\/SqT X.K H p ys)/\Q (.int ys.length) H):=by
 intro pins s σ H xs us Q I r h
 obtain ⟨p,ys,rfl,hq,q⟩:=h
 obtain ⟨u,rfl,rx⟩:=Yx r
 cases rx
 have hn:=WV
 rcases hq with hq | hq
 ·obtain ⟨its,r',pl,hz⟩:=I.list hq
  have hlen:=r'.length
  exact Calls.call_len_list pl.isList (by simp only [size_toArray]<;>omega) ⟨.int ys.length,H,I.tok _,⟨s.toks+1,by rw [size_toArray,hlen]⟩,q⟩
 ·obtain ⟨its,r',pl,hz⟩:=I.tuple hq
  have hlen:=r'.length
  exact len_tuple pl (by simp only [size_toArray]<;>omega) ⟨.int ys.length,H,I.tok _,⟨s.toks+1,by rw [size_toArray,hlen]⟩,q⟩
theorem WU:Yw X (.type "list") (fun xs H Q=>∃ p ys,xs=[.ref p]/\(SqL X.K H p ys\/SqT X.K H p ys)/\∀ l,H l=none->Q (.ref l) (upd H l (.lst ys))):=by
 intro pins s σ H xs us Q I r h
 obtain ⟨p,ys,rfl,hq,q⟩:=h
 obtain ⟨u,rfl,rx⟩:=Yx r
 cases rx
 have fin:∀ (its:List Value),Vals ys its->ys.length<=sizeLine->∀ (h':Heap) (c':Nat),(∀ b o',s.heap.get? b=some o'->h'.get? b=some o') ->
     h'.get? s.heap.objs.size=some { cls:=.type "list",dict:=none,data:=.seq its.toArray c',slots:=#[] }->EP X pins σ Q (.ref s.heap.objs.size) { s with heap:=h' }:=fun its r' hz h' c' kp e =>
   ⟨.ref s.heap.objs.size,_,I.laid (t':=s.toks) kp (Nat.le_refl _) (show ObjOk X.prog X.w _ h' _ (.lst ys) from ⟨hz,its,c',r',e⟩),rfl,q _ (I.hok.fresh (Nat.le_refl _))⟩
 rcases hq with hq | hq
 · obtain ⟨its,r',pl,hz⟩:=I.list hq
   have hlen:=r'.length
   obtain ⟨o,ho,hc,n,hd⟩:=pl.isList
   exact call_list_seq p (.inl rfl) ho hc hd (fun h' c' kp e=>fin its r' hz h' c' kp e) (by simp only [size_toArray]<;>omega)
 · obtain ⟨its,r',pl,hz⟩:=I.tuple hq
   have hlen:=r'.length
   obtain ⟨o,ho,hc,n,hd⟩:=pl
   exact call_list_seq p (.inr rfl) ho hc hd (fun h' c' kp e=>fin its r' hz h' c' kp e) (by simp only [size_toArray]<;>omega)
theorem ZcG:Yw X (.type "tuple") (fun xs H Q=>∃ p ys,xs=[.ref p]/\((SqL X.K H p ys/\∀ l,H l=none->Q (.ref l) (upd H l (.tup ys)))\/(SqT X.K H p ys/\Q (.ref p) H))):=by
 intro pins s σ H xs us Q I r h
 obtain ⟨p,ys,rfl,h⟩:=h
 obtain ⟨u,rfl,rx⟩:=Yx r
 cases rx
 rcases h with ⟨hq,q⟩ | ⟨hq,q⟩
 ·obtain ⟨its,r',pl,hz⟩:=I.list hq
  have hlen:=r'.length
  refine call_tuple_list pl.isList (fun h' kp=>?_) (by simp only [size_toArray]<;>omega)
  have I1:Inv X pins σ H { s with heap:=h' }:=I.kept (t':=s.toks) kp
  have I2:Inv X pins σ (upd H h'.objs.size (.tup ys)) { s with heap:=h'.push { cls:=.type "tuple",data:=.seq its.toArray } } :=
   I1.laid (t':=s.toks) (fun b o e=>Heap.get?_push_of_some _ e) (Nat.le_refl _) (show ObjOk X.prog X.w _ _ _ (.tup ys) from ⟨hz,its,r',IsTup.new _ _⟩)
  exact ⟨.ref h'.objs.size,_,I2,rfl,q _ (I1.hok.fresh (Nat.le_refl _))⟩
 ·obtain ⟨its,r',pl,hz⟩:=I.tuple hq
  exact call_tuple_same pl ⟨.ref p,H,I,rfl,q⟩
def tyV (K:KF)(T:String)(x:V)(H:Hp):Prop:=match x with
 | .str _=>T="str"
 | .int _=>T="int"
 | .ref p=>(T="list"/\∃ xs,SqL K H p xs)\/(T="tuple"/\∃ o,K.lookup p=some o/\o.cls=.type "tuple"/\o.dict=none) \/
     (T="dict"/\((∃ kvs,H p=some (.dK kvs))\/∃ kvs,H p=some (.dT kvs)))\/(T="set"/\∃ S n,H p=some (.set S n))
 | _=>False
theorem ZgT {pins:List (Addr×Obj)}{σ:St}{H:Hp}{s:Shared}{T:String}{x:V}{v:Value}(I:Inv X pins σ H s)(r:RelV x v)(ty:tyV X.K T x H) :
 s.TypeIs v T/\∀ a,v=.ref a->∃ ob,s.heap.get? a=some ob/\ob.dict=none:=by
 cases x with
 | str z =>
  obtain ⟨t,rfl⟩:=r
  cases (show T="str" from ty)
  exact ⟨typeIs_str s z t,fun _ e=>nomatch e⟩
 | int i =>
  obtain ⟨t,rfl⟩:=r
  cases (show T="int" from ty)
  exact ⟨typeIs_int s i t,fun _ e=>nomatch e⟩
 | ref p =>
  cases r
  rcases ty with ⟨rfl,xs,hq⟩ | ⟨rfl,o,hk,hc,hd⟩ | ⟨rfl,hk⟩ | ⟨rfl,S,n,hk⟩
  ·obtain ⟨its,_,pl,_⟩:=I.list hq
   refine ⟨pl.isList.typeIs,fun a e=>?_⟩
   cases e
   obtain ⟨o,n,e,c,hd,_⟩:=pl
   exact ⟨o,e,hd⟩
  ·refine ⟨⟨o,I.kIn p o hk,hc⟩,fun a e=>?_⟩
   cases e
   exact ⟨o,I.kIn _ o hk,hd⟩
  ·have z:∃ o,s.heap.get? p=some o/\o.ExactDict:=by
    rcases hk with ⟨kvs,hk⟩ | ⟨kvs,hk⟩
    ·obtain ⟨_,_,_,_,o,_,_,e,ex,_⟩:=I.hok p _ hk
     exact ⟨o,e,ex⟩
    ·obtain ⟨_,_,_,_,o,_,_,e,ex,_⟩:=I.hok p _ hk
     exact ⟨o,e,ex⟩
   obtain ⟨o,e,ex⟩:=z
   refine ⟨⟨o,e,ex.1⟩,fun a e2=>?_⟩
   cases e2
   exact ⟨o,e,ex.2.1⟩
  ·obtain ⟨o,_,_,_,e,ex,_⟩:=I.hok p _ hk
   refine ⟨⟨o,e,ex.1⟩,fun a e2=>?_⟩
   cases e2
   exact ⟨o,e,ex.2.1⟩
 | _=>exact False.elim ty
def tBM0 (K:KF)(T:String)(r:V->List V->Hp->VK->Prop)(to:TE):TE:=fun σ H Q=>to σ H fun x H1=>tyV K T x H1/\r x [] H1 Q
def tBM (K:KF)(T:String)(r:V->List V->Hp->VK->Prop)(to:TE)(t:TA):TE:=fun σ H Q=>to σ H fun x H1=>tyV K T x H1/\t σ H1 fun xs H2=>r x xs H2 Q
variable {o e:Expr}{es:List Expr}{to:TE}{t:TA}{name:Str}{apos cpos:Pos}{T id:String}{r:V->List V->Hp->VK->Prop}
theorem ZmK (pa:PlainAttrs T)(slot:Slot T name id)(hty:typeOf (.builtin id)=pure (.type "method_descriptor"))(hm:MtR X id r)(ho:PE X o to)
 (hbase:attributeBase o name X.env (eval o X.env)=eval o X.env:=by rfl) (hline:(apos.endLine == cpos.line)=true:=by rfl):PE X (.Call (.Attribute o name apos) [] [] cpos) (tBM0 X.K T r to):=by
 intro pins s σ H Q I h
 refine wpAny_Call_method0_late hbase hline (Zn (ho pins s σ H _ I h) fun v s1 ⟨x,H1,I1,r1,ty,q1⟩=>?_)
 obtain ⟨h1,h2⟩:=ZgT I1 r1 ty
 exact ⟨T,id,pa,slot,hty,h1,h2,Calls.callWith_builtin rfl (PySem.evalArgs_none (hm pins s1 σ H1 x [] v [] Q I1 r1 .nil q1))⟩
theorem YO (pa:PlainAttrs T)(slot:Slot T name id)(hty:typeOf (.builtin id)=pure (.type "method_descriptor"))(hm:MtR X id r)(ho:PE X o to)(ha:PA X (e::es) t)
 (hbase:attributeBase o name X.env (eval o X.env)=eval o X.env:=by rfl)
 (hfew:((backTo cpos (starEach (e::es) X.env)).all (fun x=>!x.1)&&(backToKw cpos (keywordEach [] X.env)).all (fun x=>x.1.isSome)
  && decide ((e::es).length+([]:List Keyword).length+(if ([]:List Keyword).isEmpty then 0 else 1) < 30))=true:=by rfl)
 (hline:(apos.endLine == cpos.line)=true:=by rfl) (hs:starEach (e::es) X.env=(false,eval e X.env)::starEach es X.env:=by rfl) (hplain:(backTo cpos (starEach es X.env)).any (·.1)=false:=by rfl) :
 PE X (.Call (.Attribute o name apos) (e::es) [] cpos) (tBM X.K T r to t):=by
 intro pins s σ H Q I h
 refine wpAny_Call_method_late hbase hfew hline rfl (Zn (ho pins s σ H _ I h) fun v s1 ⟨x,H1,I1,r1,ty,q1⟩=>?_)
 obtain ⟨h1,h2⟩:=ZgT I1 r1 ty
 refine ⟨T,id,pa,slot,hty,h1,h2,?_⟩
 have hA:=ha cpos pins s1 σ H1 _ I1 q1
 rw [hs] at hA ⊢
 refine Calls.callWith_builtin (by show (false || (backTo cpos (starEach es X.env)).any (·.1))=false;rw [hplain]<;>rfl) (Calls.evalArgs_plain ?_)
 exact Zn hA fun us s2 ⟨vs,H2,I2,r2,q2⟩=>hm pins s2 σ H2 x vs v us Q I2 r1 r2 q2
end
def MtM (X:Cx)(id:String)(r:V->List V->Hp->VK->Prop):Prop :=
 ∀ (pins:List (Addr×Obj)) (s:Shared) (σ:St) (H:Hp) (x:V) (xs:List V) (v:Value) (us:List Value) (Q:VK),Inv X pins σ H s->RelV x v->Vals xs us->r x xs H Q ->
  wpAny (model X.prog X.w) X.A (call (.builtin id) (v::us)) (EP X pins σ Q) X.xe s
theorem Vals.one:∀{x:V}{us:List Value},Vals [x] us->∃ u,us=[u]/\RelV x u
 | _,_,.cons r .nil=>⟨_,rfl,r⟩
theorem Vals.reverse {xs:List V}{us:List Value}(h:Vals xs us):Vals xs.reverse us.reverse:=by
 induction h with
 | nil=>exact .nil
 | cons r t ih=>rw [List.reverse_cons,List.reverse_cons];exact Vals.append ih (.cons r .nil)
theorem Vals.rep {xs:List V}{us:List Value}(h:Vals xs us):∀ k:Nat,Vals (List.replicate k xs).flatten (List.replicate k us).flatten
 | 0=>.nil
 | k+1=>by
  rw [List.replicate_succ,List.replicate_succ,List.flatten_cons,List.flatten_cons]
  exact Vals.append h (Vals.rep h k)
theorem Zcn (its:List Value):∀(k:Nat)(acc:List Value),
 List.foldl (fun x1 x2=>x1++x2) acc.toArray (List.replicate k its.toArray)=(acc++(List.replicate k its).flatten).toArray
 | 0,acc=>by simp
 | k + 1,acc=>by
  have e:acc.toArray++its.toArray=(acc++its).toArray:=by simp
  have e2:(acc++its)++(List.replicate k its).flatten=acc++(List.replicate (k+1) its).flatten:=by
   rw [List.replicate_succ,List.flatten_cons,append_assoc]
  rw [<- e2,<- Zcn its k (acc++its),<- e,List.replicate_succ,List.foldl_cons]
section
variable {X:Cx}{pins:List (Addr×Obj)}{σ:St}{H:Hp}{s:Shared}{l b:Addr}{xs ys zs:List V}
theorem Inv.lset {its its':List Value}{n:Nat}{f:Array Value->Array Value}{t':Nat}(I:Inv X pins σ H s)(hH:H l=some (.lst xs))
 (e:s.heap.get? l=some { cls:=.type "list",data:=.seq its.toArray n }) (hf:f its.toArray=its'.toArray) (hv:Vals ys its') (hz:ys.length<=sizeLine) :
 Inv X pins σ (upd H l (.lst ys)) { s with heap:=s.heap.update l (Obj.mapSeq f),toks:=t' }:=by
 have q:=PySem.IsL.update e f
 rw [hf] at q
 refine I.write (x:=l) (e:=l) (by rw [hH];exact trivial) (.inl rfl) (fun b' u hb hu=>(Heap.get?_update_other s.heap (Obj.mapSeq f) (Ne.symm hb)).trans hu) ⟨_,q⟩ ?_
 exact ⟨hz,its',_,hv,q⟩
theorem Inv.lnew {its:List Value}{t':Nat}(I:Inv X pins σ H s)(hv:Vals ys its)(hz:ys.length<=sizeLine) :
 Inv X pins σ (upd H s.heap.objs.size (.lst ys)) { s with heap:=s.heap.push { cls:=.type "list",data:=.seq its.toArray },toks:=t' } :=
 I.laid (fun _ _ q=>Heap.get?_push_of_some _ q) (Nat.le_refl _) ⟨hz,its,0,hv,Heap.get?_push_size _ rfl⟩
theorem Inv.fresh (I:Inv X pins σ H s):H s.heap.objs.size=none:=I.hok.fresh (Nat.le_refl _)
theorem Inv.lstM (I:Inv X pins σ H s)(hH:H l=some (.lst xs)):xs.length<=sizeLine/\∃ (its:List Value) (n:Nat),Vals xs its/\xs.length=its.length/\s.heap.get? l=some { cls:=.type "list",data:=.seq its.toArray n }:=by
 obtain ⟨z,its,n,r,e⟩:=I.hok l _ hH
 exact ⟨z,its,n,r,r.length,e⟩
theorem Zdi {n:Nat}(h:n<=sizeLine):Builtin.List.listTooLong n=false:=by
 unfold Builtin.List.listTooLong
 exact decide_eq_false (by omega)
end
section
variable {X:Cx}
def Zlw:V->List V->Hp->VK->Prop:=fun x vs H Q=>∃ l xs y,x=.ref l/\vs=[y]/\H l=some (.lst xs)/\xs.length < sizeLine/\Q .non (upd H l (.lst (xs++[y])))
theorem Yr:MtM X "list.append" Zlw:=by
 intro pins s σ H x vs v us Q I rx rv h
 obtain ⟨l,xs,y,rfl,rfl,hH,hz,q⟩:=h
 cases rx
 obtain ⟨u,rfl,ru⟩:=rv.one
 obtain ⟨z,its,n,r,hl,e⟩:=I.lstM hH
 refine call_meets F.slot_list_append ⟨_,e,rfl⟩ F.entry_list_append (F.args_list_append_2 _ _) (PySem.list_append l its.toArray n u (by rw [size_toArray];omega)) ⟨e,?_⟩
 refine ⟨.non,_,I.lset (its':=its++[u]) hH e (by simp) (r.append (.cons ru .nil)) ?_,rfl,q⟩
 rw [length_append,List.length_singleton]
 omega
def Zlq:V->List V->Hp->VK->Prop:=fun x vs H Q=>∃ l b xs zs,x=.ref l/\vs=[.ref b]/\H l=some (.lst xs)/\H b=some (.lst zs)/\xs.length+zs.length<=sizeLine/\Q .non (upd H l (.lst (xs++zs)))
theorem VI:MtM X "list.extend" Zlq:=by
 intro pins s σ H x vs v us Q I rx rv h
 obtain ⟨l,b,xs,zs,rfl,rfl,hH,hB,hz,q⟩:=h
 cases rx
 obtain ⟨u,rfl,ru⟩:=rv.one
 cases ru
 obtain ⟨z,its,n,r,hl,e⟩:=I.lstM hH
 obtain ⟨z2,its2,n2,r2,hl2,e2⟩:=I.lstM hB
 have hsz:its.toArray.size+its2.toArray.size<=sizeLine:=by rw [size_toArray,size_toArray];omega
 have hlong:¬ (!its.toArray.isEmpty&&Builtin.List.listTooLong (its.toArray.size+its2.toArray.size))=true:=by
  rw [Zdi hsz,Bool.and_false]
  exact Bool.false_ne_true
 refine call_meets F.slot_list_extend ⟨_,e,rfl⟩ F.entry_list_extend (F.args_list_extend_2 _ _)
  (AutoSeq1.list_extend_list_list_0 l its.toArray n b its2.toArray n2 hlong (by rw [size_toArray];omega) (by omega)) ⟨e,e2,?_⟩
 refine ⟨.non,_,I.lset (its':=its++its2) hH e (by simp) (r.append r2) ?_,rfl,q⟩
 rw [length_append]
 omega
def rCat:R2:=fun x y H Q=>∃ l b xs zs,x=.ref l/\y=.ref b/\H l=some (.lst xs)/\H b=some (.lst zs)/\xs.length+zs.length<=sizeLine/\∀ p,H p=none->Q (.ref p) (upd H p (.lst (xs++zs)))
theorem ZaX:Xb X (binaryOp .Add) rCat:=by
 intro pins s σ H x y v u Q I rx ry h
 obtain ⟨l,b,xs,zs,rfl,rfl,hH,hB,hz,q⟩:=h
 cases rx
 cases ry
 obtain ⟨z,its,n,r,hl,e⟩:=I.lstM hH
 obtain ⟨z2,its2,n2,r2,hl2,e2⟩:=I.lstM hB
 refine PySem.P.add_list e e2 ?_ (by rw [size_toArray,size_toArray];omega)
 have ea:its.toArray++its2.toArray=(its++its2).toArray:=by simp
 rw [ea]
 exact ⟨.ref _,_,I.lnew (t':=s.toks) (r.append r2) (by rw [length_append];omega),rfl,q _ I.fresh⟩
def rRep:R2:=fun x y H Q=>∃ l k xs,x=.ref l/\y=.int k/\H l=some (.lst xs)/\-(2 ^ 63)<=k/\k < 2 ^ 63/\xs.length * k.toNat<=sizeLine /\
 ∀ p,H p=none->Q (.ref p) (upd H p (.lst (List.replicate k.toNat xs).flatten))
theorem Zlx {α:Type}(xs:List α)(k:Nat):(List.replicate k xs).flatten.length=k * xs.length:=by
 induction k with
 | zero=>simp
 | succ k ih=>rw [List.replicate_succ,List.flatten_cons,length_append,ih,Nat.succ_mul,Nat.add_comm]
theorem Zme:Xb X (binaryOp .Mult) rRep:=by
 intro pins s σ H x y v u Q I rx ry h
 obtain ⟨l,k,xs,rfl,rfl,hH,h1,h2,hz,q⟩:=h
 cases rx
 obtain ⟨t,rfl⟩:=ry
 obtain ⟨z,its,n,r,hl,e⟩:=I.lstM hH
 have hlen:its.toArray.size * k.toNat<=sizeLine:=by rw [size_toArray,<- hl];exact hz
 have hcap:¬ its.toArray.size * k.toNat > (2 ^ 63 - 1) / 8:=by
  have:(sizeLine:Nat)<=(2 ^ 63 - 1) / 8:=by decide
  omega
 have hfit:¬ (!Builtin.List.listFitsIndex k)=true:=by
  rw [fitsIndex_both h1 h2]
  exact Bool.false_ne_true
 have hlong:¬ Builtin.List.listTooLong (its.toArray.size * k.toNat)=true:=by
  rw [Zdi hlen]
  exact Bool.false_ne_true
 have hnew:List.foldl (fun x1 x2=>x1++x2) #[] (List.replicate (if its.toArray.isEmpty=true then 0 else k.toNat) its.toArray)=(List.replicate k.toNat its).flatten.toArray:=by
  have f0:∀ m:Nat,List.foldl (fun x1 x2=>x1++x2) #[] (List.replicate m its.toArray)=(List.replicate m its).flatten.toArray:=fun m=>by
   have:=Zcn its m []
   rw [List.nil_append] at this
   exact this
  rw [f0]
  cases its with
  | nil=>simp
  | cons a r'=>rw [if_neg (by simp)]
 refine wpAny_binaryOp_repeat_ref (T:="list") (U:="int") (by decide) ⟨_,e,rfl⟩ (fun s'=>typeIs_int s' k t) noFill_list_mul F.fills_int_mul F.slot_int_rmul repeat_list F.slot_int_index.lookup
  (call_meets F.slot_int_rmul (typeIs_int s k t) F.entry_int_rmul (F.args_int_rmul_2 _ _) (int___rmul___int_list k t l its.toArray n)
   ⟨e,rfl,⟨_,e,rfl⟩,call_meets F.slot_list_mul ⟨_,e,rfl⟩ F.entry_list_mul (F.args_list_mul_2 _ _) (AutoListH.list___mul___list_int_3 l its.toArray n k t hfit hcap hlong) ⟨e,?_⟩⟩)
 rw [hnew]
 exact ⟨.ref _,_,I.lnew (t':=s.toks) (r.rep k.toNat) (by rw [Zlx,Nat.mul_comm];exact hz),rfl,q _ I.fresh⟩
end
section
variable {prog:Program}{w:World}{A:Around}{E:ZB}{s:Shared}
end
section
variable {X:Cx}
end
end L2
namespace Att
open PySem PySem.W PySem.Calls PyProof.Rows
theorem ZaS {P:Params}{h:Heap}:∀(ns:List Int)(vs:List Value),WellAll P h vs (ns.map WData.int)->IntsAre vs ns:=by
 intro ns
 induction ns with
 | nil =>
  intro vs w
  rw [List.map_nil] at w
  cases w
  exact .nil
 | cons n ns ih =>
  intro vs w
  rw [map_cons] at w
  cases w with
  | cons a b =>
   cases a
   exact .cons _ _ (ih _ b)
theorem ZhG {l:OpenLaw}{n:Nat}(hn:l.most=some n){P:Params}{h:Heap}{args:List WData}{vals:List Value}
 (hpre:l.row.toRowW.claim.pre args=true) (hwl:WellAll P h vals args) :
 ∃ a vs ns,vals=[Value.ref a]/\args=[WData.list (ns.map WData.int)]/\h.get? a=some { cls:=.type "list",data:=.seq vs.toArray }/\IntsAre vs ns/\ns.length<=n:=by
 have hsh:WShape.hasAll [] args [.list .int]=true:=(pre_splitW hpre).1
 have hc:l.pre.holds [] { args:=args }=true:=(pre_splitW hpre).2
 obtain ⟨d,r,rfl,h1,h2⟩:=hasAllW_cons hsh
 obtain rfl:=hasAllW_nil h2
 obtain ⟨xs,rfl,h3⟩:=hasW_list h1
 obtain ⟨ns,rfl⟩:=items_int h3
 have hlen:ns.length<=n:=by
  unfold OpenLaw.pre at hc
  have h4:(WTm.not (.lt (.lit (.int (n:Int))) (.len (.arg 0)))).holds [] { args:=[.list (ns.map .int)] }=true:=by
   have h4:=(holds_andW hc).1
   rw [hn] at h4
   exact h4
  have h5:=condW_of h4 (w_not (w_lt w_lit (w_len_list (w_arg rfl))))
  rw [length_map] at h5
  refine Nat.le_of_not_lt fun q=>?_
  have q':(n:Int) < ((ns.length:Nat):Int):=by omega
  first
   | (rw [decide_eq_true q'] at h5;exact absurd h5 (by decide))
   | (simp at h5;omega)
 cases hwl with
 | cons w1 w2 =>
  cases w2
  cases w1 with
  | list ho hall=>exact ⟨_,_,ns,rfl,rfl,ho,ZaS ns _ hall,hlen⟩
theorem ZhF (l:OpenLaw)(args:List WData):l.row.toRowW.claim.post args (.bool true) args=true :=
 postW_of (r:=l.row.toRowW) (X:=(true == true))
  (show WShape.has [] (.bool true) .bool=true by first | rfl | decide | simp [WShape.has,WShape.arms,WShape.armsAll])
  (show (WTm.eq .res (.lit (.bool true))).value [] { args:=args,res:=some (.bool true),after:=args }=some (.bool (true == true)) from w_eq_bool (w_res rfl) w_lit) rfl
theorem attach_call {l:OpenLaw}{n:Nat}{q:Program}{loose:List Str}{XP:(Str->Option Value)->Heap->Prop}{YP:World->Heap->Prop}{d:DefRec}
 (hn:l.most=some n) (hdf:d.params.defaults=[])
 (call:∀ (w:World) (s₀ s₁:Shared) (mg mb:Str->Option Value) (fa:Addr) (o:Obj) (pm cd doc:Value) (a:Addr) (vs:List Value) (ns:List Int),
  Ground q loose [] XP w s₀ mg mb s₁.heap->YP w s₁.heap ->
  s₁.heap.get? fa=some o->o.data=.func (docDef d.name d.params d.body d.scope pm cd doc)->s₁.heap.CodeRec cd d.name->mg d.name=some (.ref fa) ->
  s₁.heap.get? a=some { cls:=.type "list",data:=.seq vs.toArray }->IntsAre vs ns->ns.length<=n->s₁.gens=#[] ->
  codeAny (model l.prog w) callerA (.call (.ref fa) ⟨[.ref a],[]⟩) (fun r s'=>r=.ok (.ret (.bool true))/\OldK s₁.heap s'.heap/\s'.os=s₁.os/\AllBare s'.gens) s₁) :
 WalkO q loose XP YP l.row.toRowW d [] (fun f vs=>PySem.call f vs):=by
 intro w s₀ s₁ mg mb G Y fa o pm cd doc dV kV ho hd hcd hD hmg hg args vals as hpre hlay hrd hwl hlo
 obtain rfl:dV=.none:=Dflts.none hD hdf
 obtain rfl:kV=.none:=Dflts.noKw hD
 obtain ⟨a,vs,ns,rfl,rfl,hobj,hints,hlen⟩:=ZhG hn hpre hwl
 refine enter_call (codeAny_mono (call w s₀ s₁ mg mb fa o pm cd doc a vs ns G Y ho (fd_plain hd) hcd hmg hobj hints hlen hg) fun r s' hq=>?_)
 obtain ⟨rfl,h2,h3,h4⟩:=hq
 exact ⟨.inl ⟨.bool true,.bool true,[],rfl,fun _=>rfl,.bool true,ZhF l _,fun _=>⟨List.Pairwise.nil,fun _ hm=>(nomatch hm)⟩⟩,h2,h3,h4⟩
section
variable {prog:Program}{w:World}{A:Around}{E:ZB}{s:Shared}{K:Frag}
end
end Att
namespace L2
open PySem PySem.Spec PyProof.Rows
theorem Zcl:∀{vs:List Value}{ns:List Int},IntsAre vs ns->Vals (ns.map V.int) vs
 | _,_,.nil=>.nil
 | _,_,.cons n t h=>.cons ⟨t,rfl⟩ (Zcl h)
def Yc (s:Stmt)(j:Nat):Stmt:=match s with
 | .ClassDef _ _ _ body _ _ _ _ _ _ _=>body.getD j (.Pass ⟨0,0,0,0⟩)
 | _=>.Pass ⟨0,0,0,0⟩
def VW (s:Stmt):Arguments:=match s with
 | .FunctionDef _ a _ _ _ _ _ _ _ _=>a
 | _=>{ posonlyargs:=[],args:=[],vararg:=none,kwonlyargs:=[],kw_defaults:=[],kwarg:=none,defaults:=[] }
def XX (s:Stmt):List Stmt:=match s with
 | .FunctionDef _ _ b _ _ _ _ _ _ _=>b
 | _=>[]
def Zj (s:Stmt):Scope:=match s with
 | .FunctionDef _ _ _ _ _ _ sc _ _ _=>sc
 | _=>{ kind:=.function,names:=[],isGenerator:=false,isCoroutine:=false }
abbrev ZL:Vo:=fun _ _ _ _ _ _=>False
abbrev E0:XK:=fun _ _ _=>False
theorem ZcW {X:Cx}:Ul ZL X E0:=fun _ _ _ _ _ _ _ h=>h.elim
structure Fun (K:KF)(x qual:Str)(st:Stmt)(f:Addr)(fd:FuncData):Prop where
 ex:∃ (oc:Value) (od:Option Addr) (kV doc pm:Value) (an:Option Addr) (cdv ct:Value) (osl:Array (Option Value)),
  fd=PySem.W.fnOf x qual (VW st) (XX st) (Zj st) .none kV doc pm an cdv ct/\K.lookup f=some ⟨oc,od,.func fd,osl⟩/\PySem.W.codeIn K cdv qual=true
 kp:PySem.W.keepIn K (.ref f)=true
section
variable {P:Program}{w:World}{K:KF}{mg:Str->Option Value}{base:Heap}
theorem Fun.ok {x qual:Str}{st:Stmt}{f:Addr}{fd:FuncData}{N ps:List Str}{k:Nat}{sp:Sp}(F:Fun K x qual st f fd)(S:Zp N ps (Zj st))(len:∀ vs H Q E,sp vs H Q E->vs.length=ps.length)
 (hbody:∀ (cdv:Value) (A:Around) (outer:List Env) (s:Shared) (H:Hp) (vs:List V) (Q:VK) (E:XK),Room k (A.deeper (envOfC qual (Zj st) s.heap.objs.size f cdv))->sp vs H Q E ->
  ∃ t,PSs (Zaw ZL P w K mg base N qual (Zj st) f cdv A outer s H E).nox (XX st) t/\t { nx:=fun _ H'=>Q .non H',rt:=Q } (start N vs) H):FnOk P w K mg base ZL (k+1) f fd ps sp:=by
 obtain ⟨oc,od,kV,doc,pm,an,cdv,ct,osl,rfl,lk,hcd⟩:=F.ex
 refine Zkj lk hcd S len fun A outer s H vs Q E hr hsp=>?_
 obtain ⟨t,h,q⟩:=hbody cdv A outer s H vs Q E hr hsp
 exact ⟨t,h.nox,q⟩
theorem Fun.binds {x qual:Str}{st:Stmt}{f:Addr}{fd:FuncData}{ps:List Str}(F:Fun K x qual st f fd)
 (h:∀ (kV doc pm:Value) (an:Option Addr) (cdv ct:Value) (us:List Value),us.length=ps.length->bindArgs (PySem.W.fnOf x qual (VW st) (XX st) (Zj st) .none kV doc pm an cdv ct) ⟨us,[]⟩=pure (ps.zip us)):Binds K fd ps []:=by
 obtain ⟨oc,od,kV,doc,pm,an,cdv,ct,osl,rfl,lk,hcd⟩:=F.ex
 exact .all (h kV doc pm an cdv ct)
end
theorem Wy {A:Around}{k:Nat}(hr:Room k A):A.units+1 < cLine:=Nat.lt_of_le_of_lt (Nat.add_le_add_left (by decide:1<=64) _) hr.units
theorem Zho {n:Nat}(h:n<=1000):n < sizeLine:=Nat.lt_of_le_of_lt h (by decide)
section
variable {X:Cx}
theorem pv (i:Nat){x:Str}{pos:Pos}(hN:X.N[i]?=some x:=by rfl)(hv:Vis X.env.scope x:=by first | exact Or.inl rfl | exact Or.inr (Or.inl rfl) | exact Or.inr (Or.inr rfl))(hd:(x == ("__debug__":Str))=false:=by decide)
 (hcd:(x == ("__classdict__":Str))=false:=by decide):PE X (.Name x pos) (Zdx i):=ZmM hN hv hd hcd
end
theorem ZP {A B:Prop}(h:B):if false=true then A else B:=by
 rw [if_neg Bool.false_ne_true]
 exact h
theorem Yh {A B:Prop}(h:A):if true=true then A else B:=by
 rw [if_pos rfl]
 exact h
theorem Xf {c A B:Prop}[Decidable c](h1:c->A)(h2:¬ c->B):if c then A else B:=by
 by_cases h:c
 ·rw [if_pos h]
  exact h1 h
 ·rw [if_neg h]
  exact h2 h
def Same (H H':Hp):Prop:=∀ b o,H b=some o->H' b=some o
theorem Same.refl (H:Hp):Same H H:=fun _ _ h=>h
theorem Same.trans {H H1 H2:Hp}(a:Same H H1)(b:Same H1 H2):Same H H2:=fun c o h=>b c o (a c o h)
section
variable {κ:Type}[DecidableEq κ]
def ZQ (kvs:List (κ×V))(k:κ):Option V:=(kvs.find? fun kv=>decide (kv.1=k)).map (·.2)
def YK (kvs:List (κ×V))(k:κ)(v:V):List (κ×V) :=
 if (kvs.any fun kv=>decide (kv.1=k))=true then kvs.map (fun kv=>if kv.1=k then (kv.1,v) else kv) else kvs++[(k,v)]
def Vf (kvs:List (κ×V))(k:κ):List (κ×V):=kvs.filter fun kv=>decide (kv.1≠k)
theorem YJ {p:κ×V}{r:List (κ×V)}{k:κ}(e:p.1=k):ZQ (p::r) k=some p.2:=by simp [ZQ,find?_cons,e]
theorem YI {p:κ×V}{r:List (κ×V)}{k:κ}(e:¬ p.1=k):ZQ (p::r) k=ZQ r k:=by simp [ZQ,find?_cons,e]
theorem Vi (k:κ):∀ kvs:List (κ×V),(kvs.any fun kv=>decide (kv.1=k))=(ZQ kvs k).isSome
 | []=>rfl
 | p::r=>by
  rw [any_cons]
  by_cases e:p.1=k
  ·simp only [YJ e,decide_eq_true e,Bool.true_or,Option.isSome_some]
  ·rw [YI e,decide_eq_false e,Bool.false_or];exact Vi k r
theorem Zds (k j:κ)(y:V):∀ kvs:List (κ×V),ZQ (kvs.map fun kv=>if kv.1=k then (kv.1,y) else kv) j=(ZQ kvs j).map fun x=>if j=k then y else x
 | []=>rfl
 | p :: r=>by
  have ih:=Zds k j y r
  rw [map_cons]
  by_cases h:p.1=k
  ·rw [if_pos h]
   by_cases e:p.1=j
   ·rw [YJ (p:=(p.1,y)) e,YJ e,Option.map_some,if_pos (e.symm.trans h)]
   ·rw [YI (p:=(p.1,y)) e,YI e,ih]
  ·rw [if_neg h]
   by_cases e:p.1=j
   ·rw [YJ (p:=p) e,YJ e,Option.map_some,if_neg (fun z=>h (e.trans z))]
   ·rw [YI (p:=p) e,YI e,ih]
theorem Zck (k j:κ)(y:V):∀ kvs:List (κ×V),ZQ kvs k=none->ZQ (kvs++[(k,y)]) j=if j=k then some y else ZQ kvs j
 | [],_=>by
  by_cases e:k=j
  ·rw [if_pos e.symm];exact YJ (p:=(k,y)) e
  ·rw [if_neg (fun z=>e z.symm)];exact YI (p:=(k,y)) e
 | p::r,hn=>by
  rw [List.cons_append]
  have hk:¬ p.1=k:=fun z=>by rw [YJ z] at hn;cases hn
  rw [YI hk] at hn
  have ih:=Zck k j y r hn
  by_cases e:p.1=j
  ·rw [YJ e,YJ e,if_neg (fun z=>hk (e.trans z))]
  ·rw [YI e,YI e,ih]
theorem WT (kvs:List (κ×V))(k j:κ)(y:V):ZQ (YK kvs k y) j=if j=k then some y else ZQ kvs j:=by
 unfold YK
 by_cases a:(kvs.any fun kv=>decide (kv.1=k))=true
 ·rw [if_pos a,Zds]
  rw [Vi] at a
  by_cases e:j=k
  ·obtain ⟨x,hx⟩:=Option.isSome_iff_exists.mp a
   rw [if_pos e,e,hx,Option.map_some,if_pos rfl]
  ·rw [if_neg e]
   cases ZQ kvs j with
   | none=>rfl
   | some x=>rw [Option.map_some,if_neg e]
 ·rw [if_neg a]
  refine Zck k j y kvs ?_
  rw [Vi] at a
  cases q:ZQ kvs k with
  | none=>rfl
  | some x=>rw [q] at a;exact (a rfl).elim
theorem XS (kvs:List (κ×V))(k:κ)(v:V):(YK kvs k v).length<=kvs.length+1:=by
 unfold YK
 split
 ·rw [length_map];omega
 ·rw [length_append,length_cons,List.length_nil];omega
theorem RelO.isSome_eq {o:Option V}{u:Option Value}(r:RelO o u):o.isSome=u.isSome:=by
 cases o with
 | none=>cases u with
  | none=>rfl
  | some _=>exact (show False from r).elim
 | some _=>cases u with
  | none=>exact (show False from r).elim
  | some _=>rfl
theorem RelO.getD {o:Option V}{u:Option Value}{d:V}{d':Value}(r:RelO o u)(rd:RelV d d'):RelV (o.getD d) (u.getD d'):=by
 cases o with
 | none=>cases u with
  | none=>exact rd
  | some _=>exact (show False from r).elim
 | some _=>cases u with
  | none=>exact (show False from r).elim
  | some _=>exact r
theorem KV.val {kvs:List (κ×V)}{vs:List (κ×Value)}(r:KV kvs vs)(k:κ):RelO (ZQ kvs k) (valueAt vs k):=by
 unfold KV at r
 induction r with
 | nil=>exact True.intro
 | @cons p q ps qs h t ih =>
  obtain ⟨h1,h2⟩:=h
  by_cases e:p.1=k
  ·have e':q.1=k:=h1.symm.trans e
   have b:valueAt (q::qs) k=some q.2:=by simp [valueAt,find?_cons,e']
   rw [YJ e,b];exact h2
  ·have e':¬ q.1=k:=fun z=>e (h1.trans z)
   have b:valueAt (q::qs) k=valueAt qs k:=by simp [valueAt,find?_cons,e']
   rw [YI e,b];exact ih
theorem KV.any {kvs:List (κ×V)}{vs:List (κ×Value)}(r:KV kvs vs)(k:κ):(kvs.any fun kv=>decide (kv.1=k))=vs.any fun kv=>decide (kv.1=k):=by
 unfold KV at r
 induction r with
 | nil=>rfl
 | cons h t ih=>rw [any_cons,any_cons,ih,h.1]
theorem KV.repl {kvs:List (κ×V)}{vs:List (κ×Value)}(r:KV kvs vs)(k:κ){y:V}{u:Value}(ry:RelV y u) :
 KV (kvs.map fun kv=>if kv.1=k then (kv.1,y) else kv) (vs.map fun kv=>if kv.1=k then (kv.1,u) else kv):=by
 unfold KV at r ⊢
 induction r with
 | nil=>exact .nil
 | @cons p q ps qs h t ih =>
  rw [map_cons,map_cons]
  refine .cons ?_ ih
  obtain ⟨h1,h2⟩:=h
  by_cases e:p.1=k
  ·rw [if_pos e,if_pos (h1.symm.trans e)];exact ⟨h1,ry⟩
  ·rw [if_neg e,if_neg (fun z=>e (h1.trans z))];exact ⟨h1,h2⟩
theorem KV.put {kvs:List (κ×V)}{vs:List (κ×Value)}(r:KV kvs vs)(k:κ){y:V}{u:Value}(ry:RelV y u):KV (YK kvs k y) (stored vs k u):=by
 unfold YK stored
 rw [r.any k]
 by_cases e:(vs.any fun kv=>decide (kv.1=k))=true
 ·rw [if_pos e,if_pos e];exact r.repl k ry
 ·rw [if_neg e,if_neg e];exact Paired.snoc r ⟨rfl,ry⟩
theorem KV.drop {kvs:List (κ×V)}{vs:List (κ×Value)}(r:KV kvs vs)(k:κ):KV (Vf kvs k) (without vs k):=by
 unfold KV at r ⊢
 unfold Vf without
 induction r with
 | nil=>exact .nil
 | @cons p q ps qs h t ih =>
  obtain ⟨h1,h2⟩:=h
  rw [filter_cons,filter_cons]
  by_cases e:p.1=k
  ·have a:¬ decide (p.1≠k)=true:=by simp [e]
   have b:¬ decide (q.1≠k)=true:=by simp [h1.symm.trans e]
   rw [if_neg a,if_neg b];exact ih
  ·have e':¬ q.1=k:=fun z=>e (h1.trans z)
   have a:decide (p.1≠k)=true:=by simp [e]
   have b:decide (q.1≠k)=true:=by simp [e']
   rw [if_pos a,if_pos b];exact .cons ⟨h1,h2⟩ ih
theorem KV.length {kvs:List (κ×V)}{vs:List (κ×Value)}(r:KV kvs vs):kvs.length=vs.length:=Paired.length r
theorem Zjj (kvs:List (κ×V))(k:κ):(Vf kvs k).length<=kvs.length:=length_filter_le _ _
end
theorem UU {P:Program}{w:World}{k:Zk}{u:Value}(r:RelV (kV k) u):(Zl P w).is k u=true:=by
 cases k with
 | inl i=>obtain ⟨t,e⟩:=(show ∃ t,u=Value.int i t from r);subst e;exact Zew P w i t
 | inr x=>obtain ⟨t,e⟩:=(show ∃ t,u=Value.str x t from r);subst e;exact UE P w x t
theorem Zco {P:Program}{w:World}:∀{ks:List Zk}{us:List Value},Vals (ks.map kV) us->ItemsAre (Zl P w) ks us
 | [],_,r=>by rw [List.map_nil] at r;cases r;exact .nil
 | k::ks,_,r=>by
  rw [map_cons] at r
  cases r with
  | cons h t=>exact .cons (UU h) (Zco t)
abbrev KT (H:Hp):List (List Zk×V)->List (List Zk×Addr×Value)->Prop:=Paired fun p q=>p.1=q.1/\H q.2.1=some (.tup (p.1.map kV))/\RelV p.2 q.2.2
theorem KT.val {H:Hp}{kvs:List (List Zk×V)}{xs:List (List Zk×Addr×Value)}(r:KT H kvs xs)(k:List Zk):RelO (ZQ kvs k) ((atKey xs k).map (·.2)):=by
 induction r with
 | nil=>exact True.intro
 | @cons p q ps qs h t ih =>
  obtain ⟨h1,_,h2⟩:=h
  by_cases e:p.1=k
  ·have e':q.1=k:=h1.symm.trans e
   have b:atKey (q::qs) k=some q.2:=by simp [atKey,find?_cons,e']
   rw [YJ e,b];exact h2
  ·have e':¬ q.1=k:=fun z=>e (h1.trans z)
   have b:atKey (q::qs) k=atKey qs k:=by simp [atKey,find?_cons,e']
   rw [YI e,b];exact ih
theorem KT.repl {H:Hp}{kvs:List (List Zk×V)}{xs:List (List Zk×Addr×Value)}(r:KT H kvs xs)(k:List Zk){y:V}{u:Value}(ry:RelV y u) :
 KT H (kvs.map fun kv=>if kv.1=k then (kv.1,y) else kv) (xs.map (putAt k u)):=by
 induction r with
 | nil=>exact .nil
 | @cons p q ps qs h t ih =>
  rw [map_cons,map_cons]
  refine .cons ?_ ih
  obtain ⟨h1,h2,h3⟩:=h
  unfold putAt
  by_cases e:p.1=k
  ·rw [if_pos e,if_pos (h1.symm.trans e)];exact ⟨h1,h2,ry⟩
  ·rw [if_neg e,if_neg (fun z=>e (h1.trans z))];exact ⟨h1,h2,h3⟩
theorem KT.put {H:Hp}{kvs:List (List Zk×V)}{xs:List (List Zk×Addr×Value)}(r:KT H kvs xs)(k:List Zk){b:Addr}{y:V}{u:Value}(hb:H b=some (.tup (k.map kV)))(ry:RelV y u) :
 KT H (YK kvs k y) (storedH xs k b u):=by
 have e:(kvs.any fun kv=>decide (kv.1=k))=(atKey xs k).isSome:=by
  rw [Vi,(r.val k).isSome_eq,Option.isSome_map]
 unfold YK storedH
 rw [e]
 by_cases q:(atKey xs k).isSome=true
 ·rw [if_pos q,if_pos q];exact r.repl k ry
 ·rw [if_neg q,if_neg q];exact Paired.snoc r ⟨rfl,hb,ry⟩
theorem KT.keeps {H H':Hp}{kvs:List (List Zk×V)}{xs:List (List Zk×Addr×Value)}(r:KT H kvs xs)(ht:∀ b ys,H b=some (.tup ys)->H' b=some (.tup ys)):KT H' kvs xs :=
 Paired.mapP r fun _ _ z=>⟨z.1,ht _ _ z.2.1,z.2.2⟩
section
variable {P:Program}{w:World}{H:Hp}{h:Heap}{a:Addr}
theorem Zkl {u:HO}(ok:HOk P w H h)(e:Rd H a u):ObjOk P w H h a u:=e.ok ok
theorem ZcR {kvs:ZK}(ok:HOk P w H h)(e:Rd H a (.dK kvs)):kvs.length<=sizeLine/\(a == sysModules)=false/\∃ vs,KV kvs vs/\h.DictOf (Zl P w) a vs :=
 show ObjOk P w H h a (.dK kvs) from Zkl ok e
theorem WL {kvs:ZK}(ok:HOk P w H h)(e:H a=some (.dK kvs)):kvs.length<=sizeLine/\(a == sysModules)=false/\∃ vs,KV kvs vs/\h.DictOf (Zl P w) a vs:=ZcR ok (.inl e)
theorem Zbg {ks:List Zk}(ok:HOk P w H h)(e:H a=some (.tup (ks.map kV))):(tupleKind (Zl P w)).is h ks a:=by
 obtain ⟨_,its,r,o,h1,h2,n,h3⟩:=(show ObjOk P w H h a (.tup (ks.map kV)) from ok a _ e)
 exact ⟨o,its.toArray,n,h1,h2,h3,by simpa using Zco r⟩
theorem ZcU {kvs:List (List Zk×V)}(ok:HOk P w H h)(e:Rd H a (.dT kvs)):kvs.length<=sizeLine/\(a == sysModules)=false /\
 ∃ xs,KT H kvs xs/\h.DictOfH (tupleKind (Zl P w)) a xs:=by
 obtain ⟨z,y,xs,r,o,es,ep,h1,h2,h3,h4,h5⟩:=(show ObjOk P w H h a (.dT kvs) from Zkl ok e)
 refine ⟨z,y,xs,r,o,es,ep,h1,h2,h3,h4,fun x hx=>?_,h5⟩
 have all:∀ {l:List (List Zk×V)} {m:List (List Zk×Addr×Value)},KT H l m->∀ x∈m,(tupleKind (Zl P w)).is h x.1 x.2.1:=by
  intro l m q
  induction q with
  | nil=>intro x hx;exact nomatch hx
  | @cons p q ps qs hq t ih =>
   intro x hx
   rcases mem_cons.mp hx with e | hx
   ·subst e
    exact Zbg ok (by rw [<- hq.1];exact hq.2.1)
   ·exact ih x hx
 exact all r x hx
theorem Zob {kvs:List (List Zk×V)}(ok:HOk P w H h)(e:H a=some (.dT kvs)):kvs.length<=sizeLine/\(a == sysModules)=false /\
 ∃ xs,KT H kvs xs/\h.DictOfH (tupleKind (Zl P w)) a xs:=ZcU ok (.inl e)
end
def DGet (H:Hp)(a:Addr)(y:V)(r:Option V):Prop :=
 (∃ kvs k,Rd H a (.dK kvs)/\y=kV k/\r=ZQ kvs k)\/∃ kvs k b,Rd H a (.dT kvs)/\y=.ref b/\H b=some (.tup (k.map kV))/\r=ZQ kvs k
def DPut (H:Hp)(a:Addr)(y v:V)(H':Hp):Prop :=
 (∃ kvs k,H a=some (.dK kvs)/\y=kV k/\kvs.length < sizeLine/\H'=upd H a (.dK (YK kvs k v))) \/
 ∃ kvs k b,H a=some (.dT kvs)/\y=.ref b/\H b=some (.tup (k.map kV))/\kvs.length < sizeLine/\H'=upd H a (.dT (YK kvs k v))
theorem DGet.k {H:Hp}{a:Addr}{kvs:ZK}{k:Zk}(e:H a=some (.dK kvs)):DGet H a (kV k) (ZQ kvs k):=.inl ⟨kvs,k,.inl e,rfl,rfl⟩
theorem DPut.k {H:Hp}{a:Addr}{kvs:ZK}{k:Zk}{v:V}(e:H a=some (.dK kvs))(hl:kvs.length < sizeLine):DPut H a (kV k) v (upd H a (.dK (YK kvs k v))):=.inl ⟨kvs,k,e,rfl,hl,rfl⟩
section
variable {X:Cx}{pins:List (Addr×Obj)}{σ:St}{H:Hp}{s:Shared}{a:Addr}{y v:V}{u r:Value}{o:Option V}{A:Around}{E:ZB}
theorem Inv.big (I:Inv X pins σ H s):sysModules < s.heap.objs.size:=by
 have h:mainGlobals < s.heap.objs.size:=(I.mod.glob.keeps I.bk).lt
 exact Nat.lt_trans (by decide) h
theorem ZlM {Q:ZB}(hu:A.units+1 < cLine)(I:Inv X pins σ H s)(g:DGet H a y o)(ry:RelV y u)(h:∀ s',Inv X pins σ H s'->Q (.bool (!o.isSome)) s') :
 wpAny (model X.prog X.w) A (compareOp .NotIn u (.ref a)) Q E s:=by
 rcases g with ⟨kvs,k,e,ey,l⟩ | ⟨kvs,k,b,e,ey,eb,l⟩
 ·subst ey
  obtain ⟨z,hd,vs,rel,dd⟩:=ZcR I.hok e
  refine wpAny_notIn_of (UU ry) hd dd.mapOf ?_
  rw [<- (rel.val k).isSome_eq,<- l]
  exact h _ (I.tok _)
 ·subst ey
  cases (show u=Value.ref b from ry)
  obtain ⟨z,hd,xs,rel,dd⟩:=ZcU I.hok e
  refine wpAny_notIn_heap (tupleKind_room_in1 hu) (Zbg I.hok eb) hd dd ?_
  have q:=(rel.val k).isSome_eq
  rw [Option.isSome_map] at q
  rw [<- q,<- l]
  exact h _ (I.tok _)
theorem VX {h':Heap}{t':Nat}{ob:HO}(I:Inv X pins σ H s)(mu:Mut (H a))(hs:Heap.SameBut a s.heap h')(he:∃ q,h'.get? a=some q)(new:ObjOk X.prog X.w (upd H a ob) h' a ob) :
 Inv X pins σ (upd H a ob) { s with heap:=h',toks:=t' } :=
 I.write (x:=a) (e:=a) mu (.inl rfl) (fun b q hb z=>(hs.2 b hb).trans z) he new
theorem Zdm {P:Program}{w:World}{H':Hp}{h':Heap}{kvs:ZK}{vs:List (Zk×Value)}(z:kvs.length<=sizeLine)(hd:(a == sysModules)=false)(rel:KV kvs vs)(dd:h'.DictOf (Zl P w) a vs) :
 ObjOk P w H' h' a (.dK kvs):=⟨z,hd,vs,rel,dd⟩
theorem ZhY {H':Hp}{Q:Unit->Shared->Prop}(hu:A.units+1 < cLine)(I:Inv X pins σ H s)(g:DPut H a y v H')(ry:RelV y u)(rv:RelV v r)(h:∀ s',Inv X pins σ H' s'->Q () s') :
 wpAny (model X.prog X.w) A (setItem (.ref a) u r) Q E s:=by
 rcases g with ⟨kvs,k,e,ey,l,eH⟩ | ⟨kvs,k,b,e,ey,eb,l,eH⟩
 ·subst ey eH
  obtain ⟨z,hd,vs,rel,dd⟩:=WL I.hok e
  have hz:vs.length<=sizeLine:=by rw [<- rel.length];exact z
  have hl:(YK kvs k v).length<=sizeLine:=by have:=XS kvs k v;omega
  refine wpAny_setItem_pairs (hsz:=hz) (UU ry) dd fun h' dd' hs=>h _ ?_
  have he:∃ q,h'.get? a=some q:=let ⟨q,_,_,hq,_⟩:=dd';⟨q,hq⟩
  exact VX I (by rw [e];exact True.intro) hs he (Zdm hl hd (rel.put k rv) dd')
 ·subst ey eH
  cases (show u=Value.ref b from ry)
  obtain ⟨z,hd,xs,rel,dd⟩:=Zob I.hok e
  have hz:xs.length<=sizeLine:=by rw [<- Paired.length rel];exact z
  have hl:(YK kvs k v).length<=sizeLine:=by have:=XS kvs k v;omega
  refine wpAny_setItem_heap (hsz:=hz) (tupleKind_room_in1 hu) (Zbg I.hok eb) dd fun h' dd' hs=>h _ ?_
  obtain ⟨q,es,ep,hq,h2,h3,h4,_,h5⟩:=dd'
  refine VX I (by rw [e];exact True.intro) hs ⟨q,hq⟩ ⟨hl,hd,_,(rel.put k eb rv).keeps fun c ys ec=>?_,q,es,ep,hq,h2,h3,h4,h5⟩
  rw [Zi (Zbi ec e (fun z=>nomatch z))]
  exact ec
end
section
variable {X:Cx}{pins:List (Addr×Obj)}{σ:St}{H:Hp}{s:Shared}{a:Addr}{kvs:ZK}{k:Zk}{u:Value}{A:Around}{E:ZB}
theorem ZnV {v:V}{more:List Value}{Q:ZB}(I:Inv X pins σ H s)(e:H a=some (.dK kvs))(ry:RelV (kV k) u)(l:ZQ kvs k=some v)(hm:more=[]\/∃ x,more=[x])
 (h:∀ w' s',Inv X pins σ (upd H a (.dK (Vf kvs k))) s'->RelV v w'->Q w' s'):wpAny (model X.prog X.w) A (call (.builtin "dict.pop") (.ref a::u::more)) Q E s:=by
 obtain ⟨z,hd,vs,rel,dd⟩:=WL I.hok e
 obtain ⟨w',hw,rw'⟩:=RelO.some_of (v:=v) (o:=valueAt vs k) (by rw [<- l];exact rel.val k)
 have hp:(keyPart u).isSome=true:=by
  cases k with
  | inl i=>obtain ⟨t,q⟩:=(show ∃ t,u=Value.int i t from ry);subst q;rfl
  | inr x=>obtain ⟨t,q⟩:=(show ∃ t,u=Value.str x t from ry);subst q;rfl
 have ha:argsOk "dict.pop" ⟨.ref a::u::more,[]⟩:=by
  rcases hm with q | ⟨x,q⟩
  ·subst q;exact PySem.F.args_dict_pop_2 _ _
  ·subst q;exact PySem.F.args_dict_pop_3 _ _ _
 refine call_meetsIn PySem.F.slot_dict_pop dd.typeIs PySem.F.entry_dict_pop ha (meets_dict_pop_there (Zl X.prog X.w) a (UU ry) more hm hp)
  ⟨vs,w',dd,by rw [<- rel.length];exact z,hw,fun h' dd' hs=>h w' _ ?_ rw'⟩
 have he:∃ q,h'.get? a=some q:=let ⟨q,_,_,hq,_⟩:=dd';⟨q,hq⟩
 exact VX I (by rw [e];exact True.intro) hs he (Zdm (Nat.le_trans (Zjj kvs k) z) hd (rel.drop k) dd')
theorem ZlT {r:Value}{Q:ZB}(I:Inv X pins σ H s)(e:H a=some (.dK kvs))(ry:RelV (kV k) u)(l:ZQ kvs k=none)(h:∀ s',Inv X pins σ H s'->Q r s') :
 wpAny (model X.prog X.w) A (call (.builtin "dict.pop") [.ref a,u,r]) Q E s:=by
 obtain ⟨z,hd,vs,rel,dd⟩:=WL I.hok e
 have hn:valueAt vs k=none:=RelO.none_of (by rw [<- l];exact rel.val k)
 have hp:(keyPart u).isSome=true:=by
  cases k with
  | inl i=>obtain ⟨t,q⟩:=(show ∃ t,u=Value.int i t from ry);subst q;rfl
  | inr x=>obtain ⟨t,q⟩:=(show ∃ t,u=Value.str x t from ry);subst q;rfl
 exact call_meetsIn PySem.F.slot_dict_pop dd.typeIs PySem.F.entry_dict_pop (PySem.F.args_dict_pop_3 _ _ _) (meets_dict_pop_default (Zl X.prog X.w) a (UU ry) hd hp r) ⟨vs,dd,hn,h _ (I.tok _)⟩
end
def ZkN (ty td:TE):TE:=fun σ H Q=>ty σ H fun y H1=>td σ H1 fun x H2=>∃ a o,x=.ref a/\DGet H2 a y o/\Q (.bl (!o.isSome)) H2
def Zns (td ty tv:TE):TS:=fun D σ H=>tv σ H fun v H1=>td σ H1 fun x H2=>ty σ H2 fun y H3=>∃ a H4,x=.ref a/\DPut H3 a y v H4/\D.nx σ H4
section
variable {X:Cx}{o i e value:Expr}{pos pos' tpos:Pos}{td ty tv:TE}
theorem Zcx (hu:X.A.units+1 < cLine)(hi:PE X i ty)(ho:PE X o td):PC X .NotIn i o (ZkN ty td):=by
 intro pins s σ H Q I h
 refine Zn (hi pins s σ H _ I h) fun iv s1 ⟨y,H1,I1,ry,q1⟩=>Zn (ho pins s1 σ H1 _ I1 q1) fun u s2 ⟨x,H2,I2,rx,a,ov,ex,g,q2⟩=>?_
 subst ex
 obtain rfl:u=Value.ref a:=rx
 exact ZlM hu I2 g ry fun s3 I3=>⟨.bl (!ov.isSome),H2,I3,rfl,q2⟩
theorem ZbB (hu:X.A.units+1 < cLine)(ho:PE X o td)(hi:PE X i ty)(hv:PE X value tv)(hs:swapsWith value (some (.Subscript o i pos')) pos.line X.env=pure false) :
 PS X (.Assign [.Subscript o i pos'] value pos) (Zns td ty tv):=by
 intro pins s σ H D I h
 refine wpAny_Assign_Subscript (Zn (hv pins s σ H _ I h) fun r s1 ⟨v,H1,I1,rv,q1⟩=>Zn (ho pins s1 σ H1 _ I1 q1) fun u s2 ⟨x,H2,I2,rx,q2⟩=>Zn (hi pins s2 σ H2 _ I2 q2) fun iv s3 ⟨y,H3,I3,ry,a,H4,ex,g,q3⟩=>?_) hs
 subst ex
 obtain rfl:u=Value.ref a:=rx
 exact ZhY hu I3 g ry rv fun s4 I4=>⟨σ,H4,I4,q3⟩
end
theorem Zdp {P:Program}{w:World}{H:Hp}(h:Heap)(hb:sysModules < h.objs.size):ObjOk P w H (h.push { cls:=.type "dict",data:=.dict #[] }) h.objs.size (.dK []) :=
 ⟨Nat.zero_le _,beq_eq_false_iff_ne.mpr (Ne.symm (Nat.ne_of_lt hb)),[],.nil,Heap.DictOf.new h⟩
def Zmn:TE:=fun _ H Q=>∀ p,H p=none->Q (.ref p) (upd H p (.dK []))
section
variable {X:Cx}{pos:Pos}
theorem ZjG:PE X (.Dict [] [] pos) Zmn:=fun pins s σ H Q I h =>
 wpAny_Dict_empty ⟨.ref s.heap.objs.size,_,I.laid (a:=s.heap.objs.size) (o:=.dK []) (t':=s.toks) (fun _ _ q=>Heap.get?_push_of_some _ q) (Nat.le_refl _) (Zdp s.heap I.big),rfl,h _ (I.hok.fresh (Nat.le_refl _))⟩
end
def Zdl:List (TE×TE)->St->Hp->(List (V×V)->Hp->Prop)->Prop
 | [],_,H,Q=>Q [] H
 | (tk,tv)::r,σ,H,Q=>tk σ H fun x H1=>tv σ H1 fun y H2=>Zdl r σ H2 fun ps H3=>Q ((x,y)::ps) H3
abbrev VV:List (V×V)->List (Value×Value)->Prop:=Paired fun p q=>RelV p.1 q.1/\RelV p.2 q.2
def PPs (X:Cx)(pos:Pos)(keys:List (Option Expr))(values:List Expr)(trs:List (TE×TE)):Prop :=
 ∀ (pins:List (Addr×Obj)) (s:Shared) (σ:St) (H:Hp) (Q:List (V×V)->Hp->Prop),Inv X pins σ H s->Zdl trs σ H Q ->
  wpAny (model X.prog X.w) X.A (evalPairs (pairTrees keys values X.env pos)) (fun vs s'=>∃ ps H',Inv X pins σ H' s'/\VV ps vs/\Q ps H') X.xe s
theorem ZkA {X:Cx}{pos:Pos}:PPs X pos [] [] []:=fun pins s σ H Q I h=>pairTrees_nil_walk ⟨[],H,I,.nil,h⟩
theorem Zjl {X:Cx}{pos:Pos}{k v:Expr}{ks:List (Option Expr)}{vs:List Expr}{tk tv:TE}{trs:List (TE×TE)}(hk:PE X k tk)(hv:PE X v tv)(hr:PPs X pos ks vs trs) :
 PPs X pos (some k::ks) (v::vs) ((tk,tv)::trs):=fun pins s σ H Q I h =>
 pairTrees_cons_walk (Zn (hk pins s σ H _ I h) fun u s1 ⟨x,H1,I1,rx,q1⟩=>Zn (hv pins s1 σ H1 _ I1 q1) fun w2 s2 ⟨y,H2,I2,ry,q2⟩ =>
  Zn (hr pins s2 σ H2 _ I2 q2) fun ws s3 ⟨ps,H3,I3,rel,q3⟩=>⟨(x,y)::ps,H3,I3,.cons ⟨rx,ry⟩ rel,q3⟩)
def Vv (kvs more:ZK):List (Zk×V):=more.foldl (fun acc kv=>YK acc kv.1 kv.2) kvs
theorem KV.merge:∀{more:ZK}{rs:List (Zk×Value)}{kvs:ZK}{vs:List (Zk×Value)},KV more rs->KV kvs vs->KV (Vv kvs more) (merged vs rs):=by
 intro more rs kvs vs r
 unfold KV at r
 induction r generalizing kvs vs with
 | nil=>intro q;exact q
 | @cons p q ps qs h t ih =>
  intro r0
  have e:KV (YK kvs p.1 p.2) (stored vs q.1 q.2):=by
   have:=r0.put p.1 h.2
   rw [<- h.1];exact this
  exact ih e
theorem Vq:∀(more kvs:ZK),(Vv kvs more).length<=kvs.length+more.length
 | [],kvs=>by show kvs.length<=kvs.length+0;omega
 | p::r,kvs=>by
  have h1:=Vq r (YK kvs p.1 p.2)
  have h2:=XS kvs p.1 p.2
  show (Vv (YK kvs p.1 p.2) r).length<=_
  rw [length_cons];omega
theorem Zbc {P:Program}{w:World}:∀{kvs:ZK}{ws:List (Value×Value)},VV (kvs.map fun kv=>(kV kv.1,kv.2)) ws->∃ rs,Carries (Zl P w) ws rs/\KV kvs rs
 | [],_,r=>by rw [List.map_nil] at r;cases r;exact ⟨[],True.intro,.nil⟩
 | p :: kvs,_,r=>by
  rw [map_cons] at r
  cases r with
  | @cons a b as bs h t =>
   obtain ⟨rs,c,q⟩:=Zbc (P:=P) (w:=w) t
   obtain ⟨b1,b2⟩:=b
   exact ⟨(p.1,b2)::rs,⟨UU h.1,rfl,c⟩,.cons ⟨rfl,h.2⟩ q⟩
def ZnU (trs:List (TE×TE)):TE:=fun σ H Q=>∀ p,H p=none->Zdl trs σ (upd H p (.dK [])) fun ps H2=>H2 p=some (.dK [])/\∃ kvs:List (Zk×V),ps=kvs.map (fun kv=>(kV kv.1,kv.2))/\kvs.length<=15/\Q (.ref p) (upd H2 p (.dK (Vv [] kvs)))
theorem ZkD {X:Cx}{pos:Pos}{keys:List (Option Expr)}{values:List Expr}{trs:List (TE×TE)}(h:PPs X pos keys values trs)(hall:keys.all (·.isSome)=true)(hl:keys.length=values.length)(h0:keys≠[])
 (h15:keys.length<=15):PE X (.Dict keys values pos) (ZnU trs):=by
 intro pins s σ H Q I q
 have hn:=I.hok.fresh (Nat.le_refl s.heap.objs.size)
 have I1:=I.laid (a:=s.heap.objs.size) (o:=.dK []) (h':=s.heap.push { cls:=.type "dict",data:=.dict #[] }) (t':=s.toks) (fun _ _ q=>Heap.get?_push_of_some _ q) (Nat.le_refl _) (Zdp s.heap I.big)
 refine wpAny_Dict_walk (knd:=Zl X.prog X.w) hall hl h0 h15 (Zn (h pins _ σ _ _ I1 (q _ hn)) fun ws s2 ⟨ps,H2,I2,rel,e,kvs,ep,lk,q2⟩=>?_)
 subst ep
 obtain ⟨rs,c,rk⟩:=Zbc (P:=X.prog) (w:=X.w) rel
 obtain ⟨z,hd,vs0,r0,dd⟩:=WL I2.hok e
 cases r0
 refine ⟨rs,c,dd,fun h' dd' hs=>⟨.ref s.heap.objs.size,_,?_,rfl,q2⟩⟩
 have hz:(Vv [] kvs).length<=sizeLine:=by
  have h1:=Vq kvs []
  rw [List.length_nil] at h1
  rw [sizeLine_eq];omega
 have he:∃ q,h'.get? s.heap.objs.size=some q:=let ⟨q,_,_,hq,_⟩:=dd';⟨q,hq⟩
 exact VX I2 (by rw [e];exact True.intro) hs he (Zdm hz hd (rk.merge .nil) dd')
structure M1 (X:Cx)(o:Expr)(m:Str)(apos:Pos)(e:Expr)(cpos:Pos):Prop where
 base:attributeBase o m X.env (eval o X.env)=eval o X.env
 few:((backTo cpos (starEach [e] X.env)).all (fun x=>!x.1)&&(backToKw cpos (keywordEach [] X.env)).all (fun x=>x.1.isSome)
  && decide (([e]:List Expr).length+([]:List Keyword).length+(if ([]:List Keyword).isEmpty then 0 else 1) < 30))=true
 line:(apos.endLine == cpos.line)=true
 trees:backTo cpos (starEach [e] X.env)=[(false,eval e X.env)]
structure M2 (X:Cx)(o:Expr)(m:Str)(apos:Pos)(e f:Expr)(cpos:Pos):Prop where
 base:attributeBase o m X.env (eval o X.env)=eval o X.env
 few:((backTo cpos (starEach [e,f] X.env)).all (fun x=>!x.1)&&(backToKw cpos (keywordEach [] X.env)).all (fun x=>x.1.isSome)
  && decide (([e,f]:List Expr).length+([]:List Keyword).length+(if ([]:List Keyword).isEmpty then 0 else 1) < 30))=true
 line:(apos.endLine == cpos.line)=true
 trees:backTo cpos (starEach [e,f] X.env)=[(false,eval e X.env),(false,eval f X.env)]
def IsD (H:Hp)(a:Addr):Prop:=(∃ kvs,Rd H a (.dK kvs))\/∃ kvs,Rd H a (.dT kvs)
theorem ZhR {X:Cx}{pins:List (Addr×Obj)}{σ:St}{H:Hp}{s:Shared}{a:Addr}(I:Inv X pins σ H s)(d:IsD H a) :
 s.TypeIs (.ref a) "dict"/\(∀ b,Value.ref a=.ref b->∃ ob,s.heap.get? b=some ob/\ob.dict=none)/\(a == sysModules)=false:=by
 rcases d with ⟨kvs,e⟩ | ⟨kvs,e⟩
 ·obtain ⟨_,hd,vs,_,dd⟩:=ZcR I.hok e
  refine ⟨dd.typeIs,fun b q=>?_,hd⟩
  cases q
  obtain ⟨ob,_,_,h1,h2,_⟩:=dd
  exact ⟨ob,h1,h2.2.1⟩
 ·obtain ⟨_,hd,xs,_,dd⟩:=ZcU I.hok e
  refine ⟨dd.typeIs,fun b q=>?_,hd⟩
  cases q
  obtain ⟨ob,_,_,h1,h2,_⟩:=dd
  exact ⟨ob,h1,h2.2.1⟩
section
variable {X:Cx}{pins:List (Addr×Obj)}{σ:St}{H:Hp}{s:Shared}{a:Addr}{y d:V}{u r:Value}{o:Option V}{A:Around}{E:ZB}
theorem Zmj {Q:ZB}(hu:A.units+1 < cLine)(I:Inv X pins σ H s)(g:DGet H a y o)(ry:RelV y u)(h:∀ w' s',Inv X pins σ H s'->RelV (o.getD .non) w'->Q w' s') :
 wpAny (model X.prog X.w) A (call (.builtin "dict.get") [.ref a,u]) Q E s:=by
 rcases g with ⟨kvs,k,e,ey,l⟩ | ⟨kvs,k,b,e,ey,eb,l⟩
 ·subst ey
  obtain ⟨z,hd,vs,rel,dd⟩:=ZcR I.hok e
  refine call_meetsIn PySem.F.slot_dict_get dd.typeIs PySem.F.entry_dict_get (PySem.F.args_dict_get_2 _ _) (meets_dict_get (Zl X.prog X.w) a (UU ry) hd) ⟨_,dd.mapOf,h _ _ (I.tok _) ?_⟩
  rw [l]
  exact (rel.val k).getD rfl
 ·subst ey
  cases (show u=Value.ref b from ry)
  obtain ⟨z,hd,xs,rel,dd⟩:=ZcU I.hok e
  refine call_meetsIn PySem.F.slot_dict_get dd.typeIs PySem.F.entry_dict_get (PySem.F.args_dict_get_2 _ _) (meetsH_dict_get (tupleKind (Zl X.prog X.w)) a b hd) ⟨tupleKind_room_in1 hu,k,xs,Zbg I.hok eb,dd,h _ _ (I.tok _) ?_⟩
  rw [l]
  exact (rel.val k).getD rfl
end
def Zma (td ty:TE):TE:=fun σ H Q=>td σ H fun x H1=>∃ a,x=.ref a/\IsD H1 a/\ty σ H1 fun y H2=>∃ o,DGet H2 a y o/\Q (o.getD .non) H2
def ZmB (td ty tx:TE):TE:=fun σ H Q=>td σ H fun x H1=>∃ a,x=.ref a/\IsD H1 a/\ty σ H1 fun y H2=>tx σ H2 fun z H3=>∃ kvs k,H3 a=some (.dK kvs)/\y=kV k /\
 (∀ v,ZQ kvs k=some v->Q v (upd H3 a (.dK (Vf kvs k))))/\(ZQ kvs k=none->Q z H3)
section
variable {X:Cx}{o e f:Expr}{apos cpos:Pos}{td ty tx:TE}
theorem Ub (hu:X.A.units+1 < cLine)(ho:PE X o td)(he:PE X e ty)(m:M1 X o "get" apos e cpos):PE X (.Call (.Attribute o "get" apos) [e] [] cpos) (Zma td ty):=by
 intro pins s σ H Q I h
 refine wpAny_Call_method m.base m.few m.line PySem.F.plainAttrs_dict PySem.F.slot_dict_get PySem.F.type_dict_get (Zn (ho pins s σ H _ I h) fun u s1 ⟨x,H1,I1,rx,a,ex,d,q1⟩=>?_)
 subst ex
 obtain rfl:u=Value.ref a:=rx
 obtain ⟨t1,t2,_⟩:=ZhR I1 d
 refine ⟨t1,t2,?_⟩
 rw [m.trees]
 refine Calls.callWith_builtin rfl (Calls.evalArgs_plain (Calls.spliced_cons (Zn (he pins s1 σ H1 _ I1 q1) fun iv s2 ⟨y,H2,I2,ry,ov,g,q2⟩=>Calls.spliced_nil ?_)))
 exact Zmj hu I2 g ry fun w' s3 I3 rw'=>⟨_,H2,I3,rw',q2⟩
theorem ZjD (ho:PE X o td)(he:PE X e ty)(hf:PE X f tx)(m:M2 X o "pop" apos e f cpos):PE X (.Call (.Attribute o "pop" apos) [e,f] [] cpos) (ZmB td ty tx):=by
 intro pins s σ H Q I h
 refine wpAny_Call_method m.base m.few m.line PySem.F.plainAttrs_dict PySem.F.slot_dict_pop PySem.F.type_dict_pop (Zn (ho pins s σ H _ I h) fun u s1 ⟨x,H1,I1,rx,a,ex,d,q1⟩=>?_)
 subst ex
 obtain rfl:u=Value.ref a:=rx
 obtain ⟨t1,t2,_⟩:=ZhR I1 d
 refine ⟨t1,t2,?_⟩
 rw [m.trees]
 refine Calls.callWith_builtin rfl (Calls.evalArgs_plain (Calls.spliced_cons (Zn (he pins s1 σ H1 _ I1 q1) fun iv s2 ⟨y,H2,I2,ry,q2⟩ =>
  Calls.spliced_cons (Zn (hf pins s2 σ H2 _ I2 q2) fun fv s3 ⟨z,H3,I3,rz,kvs,k,ea,ey,q3,q4⟩=>Calls.spliced_nil ?_))))
 subst ey
 cases l:ZQ kvs k with
 | some v=>exact ZnV I3 ea ry l (.inr ⟨fv,rfl⟩) fun w' s4 I4 rw'=>⟨v,_,I4,rw',q3 v l⟩
 | none=>exact ZlT I3 ea ry l fun s4 I4=>⟨z,H3,I4,rz,q4 l⟩
end
section
variable {X:Cx}{pins:List (Addr×Obj)}{σ:St}{H:Hp}{s:Shared}{a:Addr}{kvs:ZK}{A:Around}{E:ZB}
end
section
variable {X:Cx}{pins:List (Addr×Obj)}{σ:St}{H:Hp}{s:Shared}{a:Addr}{y:V}{u:Value}{A:Around}{E:ZB}
end
section
variable {κ:Type}[DecidableEq κ]
end
theorem VO {env:Env}(y:Str):∀ names:List (Str×NameKind),
 (names.map fun (n,k)=>if (k == NameKind.free&&env.scope.kind == .function&&env.kindOf n == some .cell) then (n,NameKind.cell) else (n,k)).lookup y =
  (names.lookup y).map fun k=>if (k == NameKind.free&&env.scope.kind == .function&&env.kindOf y == some .cell) then NameKind.cell else k
 | []=>rfl
 | (n, k)::r=>by
  have ih:=VO (env:=env) y r
  rw [map_cons]
  cases hx:y == n with
  | true =>
   have e:y=n:=by simpa using hx
   subst e
   by_cases hc:(k == NameKind.free&&env.scope.kind == .function&&env.kindOf y == some .cell)=true
   ·simp only [hc,if_true,lookup_cons,beq_self_eq_true,Option.map_some]
   ·simp only [hc,lookup_cons,beq_self_eq_true,Option.map_some]
    simp [hc]
  | false =>
   by_cases hc:(k == NameKind.free&&env.scope.kind == .function&&env.kindOf n == some .cell)=true
   ·simp only [hc,if_true,lookup_cons,hx];exact ih
   ·simp only [hc,lookup_cons,hx,Bool.false_eq_true,if_false];exact ih
theorem ZC {scope:Scope}{env:Env}{y:Str}{k:NameKind}(hcell:∀ z∈scope.names,z.2≠.cell)(h:(relabel scope env).names.lookup y=some k) :
 scope.names.lookup y=some k\/(scope.names.lookup y=some .free/\k=.cell):=by
 unfold relabel at h
 rw [VO] at h
 cases e:scope.names.lookup y with
 | none=>rw [e] at h;cases h
 | some k0 =>
  rw [e] at h
  simp only [Option.map_some,Option.some.injEq] at h
  by_cases hc:(k0 == NameKind.free&&env.scope.kind == .function&&env.kindOf y == some .cell)=true
  ·rw [if_pos hc] at h
   right
   simp only [Bool.and_eq_true,beq_iff_eq] at hc
   exact ⟨by rw [hc.1.1],h.symm⟩
  ·rw [if_neg hc] at h
   left;rw [h]
theorem mem_of_lookup {α:Type}{y:Str}{k:α}:∀{l:List (Str×α)},l.lookup y=some k->(y,k)∈l
 | [],h=>by cases h
 | (n,z)::r,h=>by
  cases hx:y == n with
  | true =>
   have e:y=n:=by simpa using hx
   subst e
   simp only [lookup_cons,beq_self_eq_true] at h
   cases h
   exact mem_cons_self
  | false =>
   simp only [lookup_cons,hx] at h
   exact mem_cons_of_mem _ (mem_of_lookup h)
theorem UW {env:Env}:∀(names:List (Str×NameKind))(c0:List (Str×Addr)),(∀ y∈names,y.2=.free->∃ c,env.cells.lookup y.1=some c) ->
 ∃ cl:List (Str×Addr),(forIn names c0 fun (x:Str×NameKind) (r:List (Str×Addr))=>(if x.2 == NameKind.free then (do let a <- cellOf env x.1;pure (ForInStep.yield ((x.1,a)::r))) else pure (ForInStep.yield r):Sem (ForInStep (List (Str×Addr)))))=pure cl /\
  (∀ y c,cl.lookup y=some c->c0.lookup y=some c\/env.cells.lookup y=some c)/\(∀ y,c0.lookup y≠none->cl.lookup y≠none)/\∀ y∈names,y.2=.free->cl.lookup y.1≠none
 | [],c0,_=>⟨c0,rfl,fun _ _ h=>.inl h,fun _ h=>h,fun _ h=>(nomatch h)⟩
 | (n, k)::r,c0,h=>by
  by_cases hk:k=.free
  ·subst hk
   obtain ⟨c,hc⟩:=h (n,.free) mem_cons_self rfl
   obtain ⟨cl,e,g1,g2,g3⟩:=UW r ((n,c)::c0) fun y hy=>h y (mem_cons_of_mem _ hy)
   refine ⟨cl,?_,?_,?_,?_⟩
   ·rw [List.forIn_cons]
    have hcell:cellOf env n=pure c:=by unfold cellOf;rw [hc]
    simp only [beq_self_eq_true,if_true,hcell,pure_bind]
    exact e
   ·intro y d q
    rcases g1 y d q with q | q
    ·cases hx:y == n with
     | true =>
      have e':y=n:=by simpa using hx
      subst e'
      simp only [lookup_cons,beq_self_eq_true] at q
      cases q
      exact .inr hc
     | false=>simp only [lookup_cons,hx] at q;exact .inl q
    ·exact .inr q
   ·intro y q
    apply g2
    cases hx:y == n with
    | true=>simp [lookup_cons,hx]
    | false=>simpa [lookup_cons,hx] using q
   ·intro y hy hf
    rcases mem_cons.mp hy with e' | hy
    ·subst e'
     apply g2
     simp [lookup_cons]
    ·exact g3 y hy hf
  ·obtain ⟨cl,e,g1,g2,g3⟩:=UW r c0 fun y hy=>h y (mem_cons_of_mem _ hy)
   refine ⟨cl,?_,g1,g2,?_⟩
   ·rw [List.forIn_cons]
    have hb:(k == NameKind.free)=false:=by simpa using hk
    simp only [hb,Bool.false_eq_true,if_false,pure_bind]
    exact e
   ·intro y hy hf
    rcases mem_cons.mp hy with e' | hy
    ·subst e';exact absurd hf hk
    ·exact g3 y hy hf
theorem Wf {scope:Scope}{env:Env}(h:∀ y∈scope.names,y.2=.free->∃ c,env.cells.lookup y.1=some c) :
 ∃ cl,closureFor scope env=pure cl/\(∀ y c,cl.lookup y=some c->env.cells.lookup y=some c)/\∀ y∈scope.names,y.2=.free->cl.lookup y.1≠none:=by
 obtain ⟨cl,e,g1,_,g3⟩:=UW (env:=env) scope.names [] h
 refine ⟨cl,?_,fun y c q=>(g1 y c q).elim (fun z=>by cases z) fun z=>z,g3⟩
 simp only [closureFor]
 rw [<- bind_pure (pure cl:Sem _),<- e]
def Us (N:List Str)(x:Str):List Str:=N.map fun y=>if y=x then "" else y
theorem XV (N:List Str)(x:Str):(Us N x).length=N.length:=length_map ..
theorem VZ {N:List Str}{x y:Str}{i:Nat}(h:(Us N x)[i]?=some y):(N[i]?=some y/\y≠x)\/y="":=by
 unfold Us at h
 rw [getElem?_map] at h
 cases e:N[i]? with
 | none=>rw [e] at h;cases h
 | some z =>
  rw [e] at h
  have h:(if z=x then ("":Str) else z)=y:=Option.some.inj h
  by_cases q:z=x
  ·rw [if_pos q] at h;exact .inr h.symm
  ·rw [if_neg q] at h;subst h;exact .inl ⟨rfl,q⟩
def ZZ (X:Cx)(scope:Scope)(x:Str)(cl:List (Str×Addr))(C:Addr)(s₀:Shared)(H₀:Hp)(fp:List Addr):Cx :=
 {prog:=X.prog,w:=X.w,K:=X.K,mg:=X.mg,base:=X.base,A:=X.A,N:=Us X.N x++[x],s₀:=s₀,H₀:=H₀,env:=compEnvC scope cl C X.env,outer:=X.stack,stack:=X.stack,
  ex:=fp,fn:=fun _=>false,calm:=X.calm,pn:=[],xe:=fun _ _=>False }
def Vj (J:It)(te:TE)(σ:St)(D:Addr)(Q:VK)(H1:Hp):Prop :=
 ∃ W:Nat->Nat->List V->Hp->Prop,(∃ m,W 0 m [] (upd H1 D (.lst [])))/\∀ i m ys H2,W i m ys H2 ->
  (J.stop i H2/\Q (.ref D) H2)\/(J.go i H2/\∃ N:VK,(∀ y H4,N y H4->H4 D=some (.lst ys)/\ys.length < sizeLine/\∃ m',m' < m/\W (i+1) m' (ys++[y]) (upd H4 D (.lst (ys++[y]))))/\∀ v H3,J.yld i H2 v H3->te (σ++[some v]) H3 N)
def Zka (wi:TI)(te:TE):TE:=fun σ H Q=>wi σ H fun J H1=>∀ D,H1 D=none->Vj J te σ D Q H1
section
variable {X:Cx}{elt iter:Expr}{x:Str}{px pos:Pos}{scope:Scope}{wi:TI}{te:TE}
theorem Vs {prog:Program}{w:World}{A:Around}{R:Result->Shared->Prop}{s:Shared}{elt target iter:Expr}{scope:Scope}{pos:Pos}{it acc:Value}{env:Env}(I:Nat->Shared->Prop)
   (turn : ∀ n s,I n s->wpAny (model prog w) A (pyNext it) (fun r s₁=>match r with
     | none=>R (.ok .next) s₁
     | some v=>wpAny (model prog w) A (letOwnedTupleGo target it v) (fun _ s1'=>wpAny (model prog w) A (assign target env v) (fun _ s₂=>wpAny (model prog w) A (eval elt env) (fun x s₃ =>
         wpAny (model prog w) A (call (.builtin "list.append") [acc,x]) (fun _ s₄=>∃ m,m < n/\I m s₄) (fun _ _=>False) s₃)
         (fun _ _=>False) s₂) (fun _ _=>False) s1') (fun _ _=>False) s₁) (fun _ _=>False) s)
   (n:Nat) (h:I n s) :
   codeAny (model prog w) A (.compLoop (.ListComp elt [⟨target,iter,[],0⟩] scope pos) 0 it acc env) R s:=by
 refine codeAny_loop rfl I (fun n s hI=>?_) n h
 show wpAny _ _ ((compTurn (.ListComp elt [⟨target,iter,[],0⟩] scope pos) 0 it acc env).onRaise (fun x=>do noteFrame x env;theTreesLotGoes x)) _ _ s
 refine wpAny_noted ?_
 rw [compTurn_list1]
 refine wpAny_bind (wpAny_standAt (wpAny_bind (wpAny_mono (turn n s hI) (fun r s₁ h₁=>?_) fun _ _ h'=>h'.elim)))
 cases r with
 | none=>exact wpAny_pure h₁
 | some v =>
   refine wpAny_bind (wpAny_mono h₁ (fun _ s1' h1'=>?_) fun _ _ h'=>h'.elim)
   exact wpAny_bind (wpAny_mono h1' (fun _ s₂ h₂=>wpAny_bind (wpAny_bind (wpAny_mono h₂ (fun x s₃ h₃=>wpAny_bind (wpAny_mono h₃
     (fun _ s₄ h₄=>wpAny_pure (wpAny_pure ⟨rfl,h₄⟩)) fun _ _ h'=>h'.elim)) fun _ _ h'=>h'.elim))) fun _ _ h'=>h'.elim)
structure CompOk (X:Cx)(scope:Scope)(x:Str):Prop where
 nd:(Us X.N x++[x]).Nodup
 clos:∀ y∈scope.names,y.2=.free->X.env.kindOf y.1=some .cell\/X.env.kindOf y.1=some .free
 cell:∀ y∈scope.names,y.2≠.cell
 kind:scope.kind=.function
 names:∀ y∈scope.names,y.2=.local->scope.names.lookup y.1=some .local
 loc:scope.names.lookup x=some .local
 own:∀ y∈X.N,y≠x->scope.names.lookup y≠some .local
 noh:scope.names.lookup ("":Str)=none
theorem ZaM {pins:List (Addr×Obj)}{σ:St}{H2:Hp}{s₂:Shared}{J:It}{fp:List Addr}{it:Addr}{tn:Nat->Heap->Prop}{cl:List (Str×Addr)}{E:ZB}{Q:VK}{RR:Value->Addr->Result->Shared->Prop}
 (O:CompOk X scope x) (hc:X.calm=true) (cl1:∀ y c,cl.lookup y=some c->X.env.cells.lookup y=some c) (cl2:∀ y∈scope.names,y.2=.free->cl.lookup y.1≠none)
 (he:∀ cl C s₀ H₀ fp,PE (ZZ X scope x cl C s₀ H₀ fp) elt te)
 (I2:Inv X pins σ H2 s₂) (T:Uj X.prog X.w X.K (.Name x px) J fp it tn) (st:tn 0 s₂.heap) (f2:∀ b∈fp,YD X pins H2 b)
 (h:∀ D,H2 D=none->Vj J te σ D Q H2)
 (hRR:∀ D C H' s',Inv X pins σ H' s'->YD X pins H' C->(∃ m,s'.heap.Ns C m)->Q (.ref D) H'->RR (.ref D) C (.ok .next) s') :
 wpAny (model X.prog X.w) X.A (newList []) (fun acc s₃=>wpAny (model X.prog X.w) X.A (newFunctionEnv scope X.env.globals cl [] X.env.qual none .none (some X.env)) (fun cenv s₄ =>
  codeAny (model X.prog X.w) X.A (.compStart (.ListComp elt [⟨.Name x px,iter,[],0⟩] scope pos) 0 (.ref it) acc { cenv with scope:=relabel scope X.env }) (RR acc cenv.locals) s₄) E s₃) E s₂:=by
 have hD:H2 s₂.heap.objs.size=none:=I2.hok.fresh (Nat.le_refl _)
 refine wpAny_newObj_type ?_
 have I3:Inv X pins σ (upd H2 s₂.heap.objs.size (.lst [])) { s₂ with heap:=s₂.heap.push { cls:=.type "list",data:=.seq ([]:List Value).toArray } } :=
  I2.laid (t':=s₂.toks) (fun b u e=>Heap.get?_push_of_some _ e) (Nat.le_refl _) ⟨Nat.zero_le _,[],_,.nil,Heap.get?_push_size _ rfl⟩
 have f3:∀ b∈fp,YD X pins (upd H2 s₂.heap.objs.size (.lst [])) b:=fun b hb=>by
  obtain ⟨g0,g1⟩:=f2 b hb
  obtain ⟨o,e,_⟩:=T.obj 0 _ st b hb
  exact ⟨by rw [Zi (Nat.ne_of_lt (Heap.lt_size e))];exact g0,g1⟩
 have st3:tn 0 (s₂.heap.push { cls:=.type "list",data:=.seq ([]:List Value).toArray }):=T.keep _ _ _ st fun b hb o e=>Heap.get?_push_of_some _ e
 obtain ⟨W,⟨m0,w0⟩,turn⟩:=h _ hD
 generalize hDe:s₂.heap.objs.size=D at I3 f3 w0 turn ⊢
 generalize hH3:upd H2 D (.lst [])=H3 at I3 f3 w0 turn ⊢
 generalize hs3:({ s₂ with heap:=s₂.heap.push { cls:=.type "list",data:=.seq ([]:List Value).toArray } }:Shared)=s₃ at I3
 have st3':tn 0 s₃.heap:=by rw [<- hs3];exact st3
 have hobj:∀ b∈fp,b < s₃.heap.objs.size:=fun b hb=>by
  obtain ⟨o,e,_⟩:=T.obj 0 _ st3' b hb
  exact Heap.lt_size e
 refine wpAny_newFunctionEnv O.cell (by intro y hy;simp at hy) (fun h₁ hns₁ hsb₁=>?_) O.kind
 have old:∀ b o,s₃.heap.get? b=some o->h₁.get? b=some o:=fun b o e=>hsb₁.extBut b o (Nat.ne_of_lt (Heap.lt_size e)) (Heap.get?_push_of_some _ e)
 generalize hs4:({ s₃ with heap:=h₁,toks:=s₃.toks+([]:List (Str×Value)).length }:Shared)=s₄
 have h4:s₄.heap=h₁:=by rw [<- hs4]
 have hX:∀ C,YD X pins C s₃.heap.objs.size->True:=fun _ _=>trivial
 have ok':(ZZ X scope x cl s₃.heap.objs.size s₃ H3 fp).Ok:=by
  refine ⟨I3.ok.mod,O.kind,I3.ok.glob,I3.ok.blt,Nat.le_refl _,?_,?_,?_,I3.ok.hd,I3.ok.frames,.inl rfl,?_,I3.bs,Nat.le_trans I3.ok.bsz I3.sz,?_,?_,I3.stack,I3.stkFree⟩
  ·exact fun y z c e1 e2=>I3.ok.inj y z c (cl1 y c e1) (cl1 z c e2)
  ·intro y hk
   have hf:scope.names.lookup y=some .free:=by
    rcases hk with hk | hk
    ·rcases ZC O.cell hk with q | q
     ·exact absurd rfl (O.cell _ (mem_of_lookup q))
     ·exact q.1
    ·rcases ZC O.cell hk with q | q
     ·exact q
     ·cases q.2
   have:=cl2 _ (mem_of_lookup hf) rfl
   cases e:cl.lookup y with
   | none=>exact absurd e this
   | some c=>exact ⟨c,e⟩
  ·intro y c hf;cases hf
  ·intro b hb
   obtain ⟨g0,g1,g2,g3,g4,g5⟩:=f3 b hb
   exact ⟨Nat.ne_of_lt (hobj b hb),fun y c e=>g4 y c (cl1 y c e)⟩
  ·intro b o e hb
   obtain ⟨g0,g1,g2,g3,g4,g5⟩:=f3 b hb
   rcases g3 with g3 | g3
   ·exact I3.ok.noex b o e g3
   ·exact absurd (Heap.lt_size e) (Nat.not_lt.mpr (Nat.le_trans I3.ok.bsz g3))
  ·intro b hb hs
   obtain ⟨g0,g1,g2,g3,g4,g5⟩:=f3 b hb
   rcases mem_cons.mp (I3.stkSub b hs) with e | e
   ·exact g1 e
   ·exact g2 e
 have I4 : Inv (ZZ X scope x cl s₃.heap.objs.size s₃ H3 fp) [] (σ++[none]) H3 s₄:=by
  obtain ⟨m,hm,hl⟩:=I3.loc
  refine ⟨ok',by rw [<- hs4];rfl,by rw [<- hs4];exact I3.bare,by rw [h4];exact Un.kept old,⟨_,by rw [h4];exact hns₁,?_⟩,?_,I3.hok.fresh (Nat.le_refl _),fun y c e=>I3.freeC y c (cl1 y c e),?_,by rw [h4];exact I3.hok.kept old,?_⟩
  ·intro i y v e1 e2 e3
   have hlt:i < σ.length:=by
    rcases Nat.lt_or_ge i σ.length with z | z
    ·exact z
    ·rw [getElem?_append_right z] at e2
     cases e:i - σ.length with
     | zero=>rw [e] at e2;simp at e2
     | succ k=>rw [e] at e2;simp at e2
   rw [getElem?_append_left hlt] at e2
   have hsm:∃ k,scope.names.lookup y=some k:=by
    rcases e3 with hk | hk | hk
    ·rcases ZC O.cell hk with q | q
     ·exact ⟨_,q⟩
     ·exact ⟨_,q.1⟩
    ·rcases ZC O.cell hk with q | q
     ·exact ⟨_,q⟩
     ·exact ⟨_,q.1⟩
    ·rcases ZC O.cell hk with q | q
     ·exact ⟨_,q⟩
     ·exact ⟨_,q.1⟩
   obtain ⟨e1',hyx⟩:X.N[i]?=some y/\y≠x:=by
    have e1:(Us X.N x++[x])[i]?=some y:=e1
    rw [getElem?_append_left (by rw [XV,<- I3.len];exact hlt)] at e1
    rcases VZ e1 with z | z
    ·exact z
    ·obtain ⟨k,hk⟩:=hsm
     rw [z,O.noh] at hk;cases hk
   have hy:y∈X.N:=mem_of_getElem? e1'
   have hf:scope.names.lookup y=some .free:=by
    rcases e3 with hk | hk | hk
    ·rcases ZC O.cell hk with q | q
     ·exact absurd q (O.own y hy hyx)
     ·exact q.1
    ·rcases ZC O.cell hk with q | q
     ·exact absurd rfl (O.cell _ (mem_of_lookup q))
     ·exact q.1
    ·rcases ZC O.cell hk with q | q
     ·exact q
     ·exact q.1
   have hk:=O.clos _ (mem_of_lookup hf) rfl
   have hv:Vis X.env.scope y:=by rcases hk with z | z;exact .inr (.inl z);exact .inr (.inr z)
   obtain ⟨u,ru,lu⟩:=hl i y v e1' e2 hv
   refine ⟨u,ru,?_⟩
   have hkc:(compEnvC scope cl s₃.heap.objs.size X.env).kindOf y=some .cell\/(compEnvC scope cl s₃.heap.objs.size X.env).kindOf y=some .free:=by
    rcases e3 with q | q | q
    ·rcases ZC O.cell q with z | z
     ·exact absurd z (O.own y hy hyx)
     ·cases z.2
    ·exact .inl q
    ·exact .inr q
   rcases lu with ⟨q,_⟩ | ⟨_,c,hcl,hcc⟩
   ·rcases hk with z | z<;>(rw [q] at z;cases z)
   ·refine .inr ⟨hkc,?_⟩
    cases e:cl.lookup y with
    | none=>exact absurd e (cl2 _ (mem_of_lookup hf) rfl)
    | some c' =>
     have:=cl1 y c' e
     rw [hcl] at this
     cases this
     refine ⟨c,e,?_⟩
     rw [h4]
     obtain ⟨oc,ho,hd⟩:=hcc
     exact ⟨oc,old _ _ ho,hd⟩
  ·intro y c e
   obtain ⟨v,oc,ho,hd⟩:=I3.cell y c (cl1 y c e)
   exact ⟨v,oc,by rw [h4];exact old _ _ ho,hd⟩
  ·intro p hp;cases hp
  ·show (σ++[none]).length=(Us X.N x++[x]).length
   rw [length_append,length_append,XV,I3.len];rfl
 have st4:tn 0 s₄.heap:=by rw [h4];exact T.keep _ _ _ st3' fun b hb o e=>old b o e
 have fpok:∀ {H':Hp},(∀ b∈fp,H' b=none)->∀ b∈fp,YD (ZZ X scope x cl s₃.heap.objs.size s₃ H3 fp) [] H' b:=fun hn b hb=>by
  obtain ⟨g0,g1,g2,g3,g4,g5⟩:=f3 b hb
  refine ⟨hn b hb,Nat.ne_of_lt (hobj b hb),ok'.exfs b hb,.inl hb,fun y c e=>g4 y c (cl1 y c e),?_⟩
  intro p hp;cases hp
 have loop:codeAny (model X.prog X.w) X.A (.compLoop (.ListComp elt [⟨.Name x px,iter,[],0⟩] scope pos) 0 (.ref it) (.ref D) (compEnvC scope cl s₃.heap.objs.size X.env)) (RR (.ref D) s₃.heap.objs.size) s₄:=by
  refine Vs (fun n s'=>∃ i ys w' H',Inv (ZZ X scope x cl s₃.heap.objs.size s₃ H3 fp) [] (σ++[w']) H' s'/\tn i s'.heap/\(∀ b∈fp,H' b=none)/\W i n ys H') ?_ m0 ⟨0,[],none,H3,I4,st4,fun b hb=>(f3 b hb).1,w0⟩
  rintro n s5 ⟨i,ys,w',H5,I5,st5,fr5,w5⟩
  rcases turn i n ys H5 w5 with ⟨stop,q⟩ | ⟨go,N,hN,step⟩
  ·refine Zn (T.done (ZZ X scope x cl s₃.heap.objs.size s₃ H3 fp) rfl rfl rfl hc i [] s5 _ H5 _ I5 (fpok fr5) st5 stop) fun r s6 ⟨hr,I6⟩=>?_
   subst hr
   obtain ⟨m6,hn6,_⟩:=I6.loc
   have IX:Inv X pins σ H5 s6:=I3.call' (ch:=fp) I6.os I6.base I6.hok I6.bare fun b hb=>by
    obtain ⟨g0,g1,g2,g3,g4,g5⟩:=f3 b hb
    exact ⟨g3,g1,g4,g5⟩
   exact hRR D _ H5 s6 IX (I3.fpOk (Nat.le_refl _) I6.free) ⟨m6,hn6⟩ q
  ·refine Zn (T.item (ZZ X scope x cl s₃.heap.objs.size s₃ H3 fp) rfl rfl rfl hc i [] s5 _ H5 _ I5 (fpok fr5) st5 go) fun r s6 ⟨u,hr,h6⟩=>?_
   subst hr
   refine Zn h6 fun _ s7 ⟨v,H7,I7,r7,y7,st7,fr7⟩=>?_
   have I7':=I7.pinned (fpok fr7) (T.obj _ _ st7)
   have hixN:(ZZ X scope x cl s₃.heap.objs.size s₃ H3 fp).N[σ.length]?=some x:=by
    show (Us X.N x++[x])[σ.length]?=some x
    rw [I3.len,<- XV X.N x];simp
   refine Zn (ZN (X:=ZZ X scope x cl s₃.heap.objs.size s₃ H3 fp) (pos:=px) O.nd hixN (.inl (lookup_relabel_local O.loc)) (.inr (lookup_relabel_local O.loc)) _ s7 _ H7 v u (fun σ' H'=>σ'=σ++[some v]/\H'=H7) I7' r7 ⟨by simp,rfl⟩) fun _ s8 ⟨σ8,H8,I8,e8,e8'⟩=>?_
   subst e8 e8'
   refine Zn (he cl s₃.heap.objs.size s₃ H3 fp _ s8 _ H8 _ I8 (step v H8 y7)) fun uy s9 ⟨y,H9,I9,r9,n9⟩=>?_
   obtain ⟨hl9,hz9,m',hm',w9⟩:=hN y H9 n9
   refine Zn (Yr (X:=ZZ X scope x cl s₃.heap.objs.size s₃ H3 fp) _ s9 _ H9 (.ref D) [y] (.ref D) [uy] (fun v H'=>H'=upd H9 D (.lst (ys++[y]))) I9 rfl (.cons r9 .nil) ⟨D,ys,y,rfl,rfl,hl9,hz9,rfl⟩) fun _ s10 ⟨_,H10,I10,_,e10⟩=>?_
   subst e10
   refine ⟨m',hm',i+1,ys++[y],some v,_,I10.unpinned (pins:=[]),T.keep _ _ _ st7 fun b hb o e=>(I10.pin (b,o) (mem_append_right _ (mem_append_right _ (Yt hb e)))).1,fun b hb=>?_,w9⟩
   obtain ⟨o,e,d⟩:=T.obj _ _ st7 b hb
   exact (I10.pin (b,o) (mem_append_right _ (mem_append_right _ (Yt hb e)))).2.1
 exact codeAny_compStart_list loop (T.self _ 0 _ _ _ st4 loop)
theorem UN (O:CompOk X scope x)(hc:X.calm=true)(hi:PI X (.Name x px) iter wi)(he:∀ cl C s₀ H₀ fp,PE (ZZ X scope x cl C s₀ H₀ fp) elt te)
 (hs:∀ v,foldedSetIterable iter X.env v=pure v:=by intro _;rfl):PE X (.ListComp elt [⟨.Name x px,iter,[],0⟩] scope pos) (Zka wi te):=by
 intro pins s σ H Q I h
 obtain ⟨cl,hcl,cl1,cl2⟩:=Wf (scope:=scope) (env:=X.env) fun y hy hf=>I.ok.has _ (O.clos y hy hf)
 rw [eval_ListComp]
 refine wpAny_comprehension_free (use:=none) rfl hs hcl O.kind O.names (Zn (hi pins s σ H _ I h) fun v s1 h1=>Zn h1 fun itv s2 h2=>?_)
 obtain ⟨it,fp,tn,J,H2,e,I2,T,st2,f2,q⟩:=h2
 subst e
 refine ZaM (RR:=fun acc C=>compPost (model X.prog X.w) X.A X.xe none (EP X pins σ Q) acc C) O hc cl1 cl2 he I2 T st2 f2 q ?_
 intro D C H' s' I' ⟨g0,g1,g2,g3,g4,g5⟩ ⟨m,hm⟩ hq
 exact ⟨m,hm,fun h' hs'=>⟨.ref D,H',I'.turned (t':=s'.toks) (fun b o hb e=>(hs'.2 b hb).trans e) g0 g1 g3 g4 g5,rfl,hq⟩⟩
theorem ZfZ {i:Nat}{y:Str}{py spos:Pos}(O:CompOk X scope x)(hc:X.calm=true)(hN:X.N.Nodup)(hiN:X.N[i]?=some y)(hy:Loc X.env.scope y)(hi:PI X (.Name x px) iter wi)(he:∀ cl C s₀ H₀ fp,PE (ZZ X scope x cl C s₀ H₀ fp) elt te)
 (hsw:swapsWith (.ListComp elt [⟨.Name x px,iter,[],0⟩] scope pos) (some (.Name y py)) spos.line X.env=pure true) (hf:X.fn y=true\/X.env.scope.names.lookup y=some .local:=by first | exact .inl rfl | exact .inr rfl | assumption)
 (hs:∀ v,foldedSetIterable iter X.env v=pure v:=by intro _;rfl):PS X (.Assign [.Name y py] (.ListComp elt [⟨.Name x px,iter,[],0⟩] scope pos) spos) (ZfT (Zka wi te) (ZcV i)):=by
 intro pins s σ H D I h
 obtain ⟨cl,hcl,cl1,cl2⟩:=Wf (scope:=scope) (env:=X.env) fun y hy hf=>I.ok.has _ (O.clos y hy hf)
 rw [exec_Assign_Name_used _ _ _ _ hsw]
 refine wpAny_bind (wpAny_standAt (wpAny_bind ?_))
 show wpAny _ X.A (do let _ <- comprehension (.ListComp elt [⟨.Name x px,iter,[],0⟩] scope pos) scope X.env _ (newList []) false (eval iter X.env) (some (assign (.Name y py) X.env))) _ _ s
 refine wpAny_bind (wpAny_mono (wpAny_comprehension_free (use:=some (assign (.Name y py) X.env)) (Q:=fun _ s'=>SP X pins D .next s') rfl hs hcl O.kind O.names
  (Zn (hi pins s σ H _ I h) fun v s1 h1=>Zn h1 fun itv s2 h2=>?_)) (fun _ s' hq=>wpAny_pure (wpAny_pure hq)) fun _ _ e=>e)
 obtain ⟨it,fp,tn,J,H2,e,I2,T,st2,f2,q⟩:=h2
 subst e
 refine ZaM (RR:=fun acc C=>compPost (model X.prog X.w) X.A X.xe (some (assign (.Name y py) X.env)) (fun _ s'=>SP X pins D .next s') acc C) O hc cl1 cl2 he I2 T st2 f2 q ?_
 intro Dl C H' s' I' ⟨g0,g1,g2,g3,g4,g5⟩ ⟨m,hm⟩ hq
 show wpAny _ X.A (assign (.Name y py) X.env (.ref Dl)) _ _ _
 refine wpAny_assign_Name (VN I' hN hiN hy (v:=.ref Dl) rfl (fun s'' I'' ⟨a,sb,ha⟩=>?_) hf)
 have haC:C≠a:=by
  rcases ha with z | z
  ·rw [z];exact g1
  ·exact fun z'=>g4 y a z z'.symm
 exact ⟨m,hm.sameBut sb haC,fun h' hs'=>⟨_,H',I''.turned (t':=s''.toks) (fun b o hb e=>(hs'.2 b hb).trans e) g0 g1 g3 g4 g5,hq⟩⟩
end
theorem Zfu {lo:Int}{n:Nat}{te:TE}{σ:St}{D:Addr}{Q:VK}{H:Hp}(hn:n<=sizeLine)(Pv:Nat->List V->Hp->Prop)(h0:Pv 0 [] (upd H D (.lst [])))
 (hl:∀ i ys H,Pv i ys H->ys.length=i)
 (hs:∀ i ys H,i < n->Pv i ys H->te (σ++[some (.int (lo+i))]) H fun y H4=>H4 D=some (.lst ys)/\Pv (i+1) (ys++[y]) (upd H4 D (.lst (ys++[y])))) (hd:∀ ys H,Pv n ys H->Q (.ref D) H):Vj (Itr lo n) te σ D Q H:=by
 refine ⟨fun i m ys H=>m=n - i/\i<=n/\Pv i ys H,⟨n,by simp,Nat.zero_le _,h0⟩,?_⟩
 rintro i m ys H2 ⟨rfl,hi,p⟩
 by_cases hlt:i < n
 ·have hlen:=hl i ys _ p
  refine .inr ⟨hlt,_,fun y H4 (q:H4 D=some (.lst ys)/\Pv (i+1) (ys++[y]) (upd H4 D (.lst (ys++[y]))))=>⟨q.1,by omega,n - (i+1),by omega,rfl,hlt,q.2⟩,fun v H3 y=>?_⟩
  obtain ⟨e,e'⟩:=y
  subst e e'
  exact hs i ys _ hlt p
 ·have e:i=n:=by omega
  subst e
  exact .inl ⟨Nat.le_refl _,hd ys H2 p⟩
theorem Zjy {K:KF}{a:Addr}{xs:List V}{te:TE}{σ:St}{D:Addr}{Q:VK}{H:Hp}(hn:xs.length<=sizeLine)(Pv:Nat->List V->Hp->Prop)(h0:Pv 0 [] (upd H D (.lst [])))
 (hl:∀ i ys H,Pv i ys H->ys.length=i/\SqT K H a xs)
 (hs:∀ i x ys H,xs[i]?=some x->Pv i ys H->te (σ++[some x]) H fun y H4=>H4 D=some (.lst ys)/\Pv (i+1) (ys++[y]) (upd H4 D (.lst (ys++[y])))) (hd:∀ ys H,Pv xs.length ys H->Q (.ref D) H):Vj (Itt K a) te σ D Q H:=by
 refine ⟨fun i m ys H=>m=xs.length - i/\i<=xs.length/\Pv i ys H,⟨xs.length,by simp,Nat.zero_le _,h0⟩,?_⟩
 rintro i m ys H2 ⟨rfl,hi,p⟩
 obtain ⟨hlen,q⟩:=hl i ys _ p
 by_cases hlt:i < xs.length
 ·refine .inr ⟨⟨xs,xs[i],q,by simp [hlt]⟩,_,fun y H4 (q:H4 D=some (.lst ys)/\Pv (i+1) (ys++[y]) (upd H4 D (.lst (ys++[y]))))=>⟨q.1,by omega,xs.length - (i+1),by omega,rfl,hlt,q.2⟩,fun v H3 y=>?_⟩
  obtain ⟨e,y⟩:=y
  subst e
  exact hs i v ys _ (y xs q) p
 ·have e:i=xs.length:=by omega
  subst e
  exact .inl ⟨⟨xs,q,Nat.le_refl _⟩,hd ys H2 p⟩
section
variable {X:Cx}{tg:Expr}
end
section
variable {X:Cx}
theorem Wm:Yw X (.builtin "isinstance") (fun xs H Q=>∃ x c t b,xs=[x,.ty c]/\Wj X.K H x t/\PySem.W.kitOne X.K t (.type c)=some b/\Q (.bl b) H):=by
 intro pins s σ H xs us Q I r h
 obtain ⟨x,c,t,b,rfl,ty,e,q⟩:=h
 obtain ⟨u,u',rfl,ru,ru'⟩:=Zbw r
 have e':u'=Value.type c:=ru'
 subst e'
 exact Zhb I ru ty e fun tk=>⟨.bl b,H,I.tok tk,rfl,q⟩
theorem Zjw (hc:X.calm=true):Yw X (.builtin "all") (fun xs H Q=>∃ (a:Addr) (bs:List Bool),xs=[.ref a]/\SqL X.K H a (bs.map V.bl)/\Q (.bl (bs.all id)) H):=by
 intro pins s σ H xs us Q I r h
 obtain ⟨a,bs,rfl,hq,q⟩:=h
 obtain ⟨u,rfl,ru⟩:=Yx r
 cases ru
 obtain ⟨its,rv,p,hz⟩:=I.list hq
 have hlen:=rv.length
 rw [length_map] at hlen
 have hal:a < s.heap.objs.size:=by obtain ⟨_,e,_⟩:=p.isList;exact Heap.lt_size e
 refine call_all_walk (wpAny_pyIter_list p.isList ⟨s.heap.objs.size,_,_,_,_,_,fun i=>bs.getD i false,rfl,Walks.list (A:=X.A.in1) (I.ok.hd hc) s.heap.objs.size a (Nat.ne_of_lt hal) its.toArray,⟨⟨_,Heap.get?_push_size _ rfl,rfl,rfl⟩,p.isList.push _⟩,?_,?_⟩)
 ·intro i v s' Q' E' hv hQ'
  have hv':its[i]?=some v:=by simpa using hv
  have hi:i < bs.length:=by
   have:=(List.getElem?_eq_some_iff.mp hv').1
   omega
  obtain ⟨u,hu,ru⟩:=rv.get (i:=i) (x:=V.bl bs[i]) (by simp [hi])
  rw [hv'] at hu
  cases hu
  have e:v=Value.bool bs[i]:=ru
  subst e
  have hQ2:Q' (bs.getD i false) s':=hQ'
  rw [getD_eq_getElem?_getD,getElem?_eq_getElem hi] at hQ2
  exact wpAny_truthy_bool hQ2
 ·intro h' tk hk
  have e:(List.range its.toArray.size).all (fun i=>bs.getD i false)=bs.all id:=by
   rw [size_toArray,<- hlen]
   apply Bool.eq_iff_iff.mpr
   rw [all_eq_true,all_eq_true]
   constructor
   ·intro z b hb
    obtain ⟨i,hi,rfl⟩:=mem_iff_getElem.mp hb
    have:=z i (mem_range.mpr hi)
    rwa [getD_eq_getElem?_getD,getElem?_eq_getElem hi] at this
   ·intro z i hi
    have hi':=mem_range.mp hi
    rw [getD_eq_getElem?_getD,getElem?_eq_getElem hi']
    exact z _ (List.getElem_mem hi')
  rw [e]
  refine ⟨.bl (bs.all id),H,I.kept (t':=tk) fun b o eb=>hk b o ?_ (Heap.get?_push_of_some _ eb),rfl,q⟩
  intro hm
  have:b=s.heap.objs.size:=by simpa using hm
  rw [this] at eb
  exact absurd (Heap.lt_size eb) (Nat.lt_irrefl _)
theorem UK:∀{ys:List Str}{us:List Value},Vals (ys.map V.str) us->StrsAre us ys
 | [],_,.nil=>.nil
 | y::ys,_,.cons r t=>by obtain ⟨k,rfl⟩:=r;exact .cons _ _ (UK t)
theorem Zez:MtR X "str.join" (fun x xs H Q=>∃ sep a ys,x=.str sep/\xs=[.ref a]/\SqL X.K H a (ys.map V.str)/\(ys.map (·.length)).sum+ys.length * sep.length<=16777216/\Q (.str (Txt.join sep ys)) H):=by
 intro pins s σ H x xs v us Q I rx rv h
 obtain ⟨sep,a,ys,rfl,rfl,hq,hz,q⟩:=h
 obtain ⟨t,rfl⟩:=rx
 obtain ⟨u,rfl,ru⟩:=Yx rv
 cases ru
 obtain ⟨its,r,p,_⟩:=I.list hq
 exact join_list p.isList (by simpa using UK r) hz fun t' k=>⟨.str _,H,I.tok k,⟨_,rfl⟩,q⟩
theorem ZdM:SlR X (fun x lo hi H Q=>∃ z,x=.str z/\z.length<=sizeLine/\Q (.str (Txt.slice z lo hi)) H):=by
 intro pins s σ H x v vl vu lo hi sl Q I rx hs pl pu h
 obtain ⟨z,rfl,hz,q⟩:=h
 obtain ⟨t,rfl⟩:=rx
 refine ⟨"str",_,F.slot_str_getitem.lookup,typeIs_str _ _ _,?_⟩
 have fin:∀ (t':Tok) (k:Nat),EP X pins σ Q (.str (Txt.slice z lo hi) t') { s with toks:=k }:=fun t' k=>⟨.str _,H,I.tok k,⟨_,rfl⟩,q⟩
 obtain ⟨o,ho,hc,hd⟩:=hs
 cases pl<;>cases pu
 ·exact wpAny_getItem_str_slice (l:=none) (u:=none) (st:=none) ⟨_,ho,hc,hd⟩ rfl (post_val_or_str ⟨Nat.le_trans (Txt.slice_le z _ _) hz,fin⟩)
 ·rename_i j uj
  exact wpAny_getItem_str_slice (l:=none) (u:=some (j,uj)) (st:=none) ⟨_,ho,hc,hd⟩ rfl (post_val_or_str ⟨Nat.le_trans (Txt.slice_le z _ _) hz,fin⟩)
 ·rename_i i ui
  exact wpAny_getItem_str_slice (l:=some (i,ui)) (u:=none) (st:=none) ⟨_,ho,hc,hd⟩ rfl (post_val_or_str ⟨Nat.le_trans (Txt.slice_le z _ _) hz,fin⟩)
 ·rename_i i ui j uj
  exact wpAny_getItem_str_slice (l:=some (i,ui)) (u:=some (j,uj)) (st:=none) ⟨_,ho,hc,hd⟩ rfl (post_val_or_str ⟨Nat.le_trans (Txt.slice_le z _ _) hz,fin⟩)
end
mutual
inductive DataOf (H:Hp):V->PyData->Prop
 | non:DataOf H .non .none
 | bl (b):DataOf H (.bl b) (.bool b)
 | int (i):DataOf H (.int i) (.int i)
 | str (x):DataOf H (.str x) (.str x)
 | lst {a xs ds}:H a=some (.lst xs)->DatasOf H xs ds->DataOf H (.ref a) (.list ds)
 | tup {a xs ds}:H a=some (.tup xs)->DatasOf H xs ds->DataOf H (.ref a) (.tuple ds)
inductive DatasOf (H:Hp):List V->List PyData->Prop
 | nil:DatasOf H [] []
 | cons {v d vs ds}:DataOf H v d->DatasOf H vs ds->DatasOf H (v::vs) (d::ds)
end
section
variable {P:Program}{w:World}{H:Hp}{h:Heap}
mutual
theorem DataOf.reads (hok:HOk P w H h):∀{v d}(u:Value),DataOf H v d->RelV v u->d.hasDict=false/\∃ as,Reads h u d as
 | _,_,u,.non,r=>by cases (show u=.none from r);exact ⟨rfl,_,.none⟩
 | _,_,u,.bl b,r=>by cases (show u=.bool b from r);exact ⟨rfl,_,.bool b⟩
 | _,_,u,.int i,r=>by obtain ⟨t,e⟩:=(show ∃ t,u=.int i t from r);subst e;exact ⟨rfl,_,.int i t⟩
 | _,_,u,.str x,r=>by obtain ⟨t,e⟩:=(show ∃ t,u=.str x t from r);subst e;exact ⟨rfl,_,.str x t⟩
 | _,_,u,.lst (a:=a) (xs:=xs) e q,r=>by
  cases (show u=.ref a from r)
  obtain ⟨_,its,n,rv,g⟩:=(show ObjOk P w H h a (.lst xs) from hok a _ e)
  obtain ⟨nd,as,ra⟩:=DatasOf.reads hok its q rv
  exact ⟨by simpa [PyData.hasDict] using nd,_,.list g rfl rfl (by simpa using ra)⟩
 | _,_,u,.tup (a:=a) (xs:=xs) e q,r=>by
  cases (show u=.ref a from r)
  obtain ⟨_,its,rv,o,g,c,n,d⟩:=(show ObjOk P w H h a (.tup xs) from hok a _ e)
  obtain ⟨nd,as,ra⟩:=DatasOf.reads hok its q rv
  exact ⟨by simpa [PyData.hasDict] using nd,_,.tuple g c d (by simpa using ra)⟩
theorem DatasOf.reads (hok:HOk P w H h):∀{vs ds}(us:List Value),DatasOf H vs ds->Vals vs us->PyData.hasDictAll ds=false/\∃ as,ReadsAll h us ds as
 | _,_,_,.nil,.nil=>⟨rfl,_,.nil⟩
 | _,_,_,.cons r t,.cons rv tv=>by
  obtain ⟨n1,as,r1⟩:=DataOf.reads hok _ r rv
  obtain ⟨n2,bs,r2⟩:=DatasOf.reads hok _ t tv
  exact ⟨by simp [PyData.hasDictAll,n1,n2],_,.cons r1 r2⟩
end
end
section
variable {X:Cx}
end
def Def (P:Program)(w:World)(K:KF)(mg:Str->Option Value)(base:Heap)(k:Nat)(x:Str)(ps:List Str)(sp:Sp):Prop :=
 ∃ f fd,FnOk P w K mg base ZL k f fd ps sp/\Binds K fd ps []/\PySem.W.keepIn K (.ref f)=true/\mg x=some (.ref f)
theorem Def.mono {P:Program}{w:World}{K:KF}{mg:Str->Option Value}{base:Heap}{j k:Nat}{x:Str}{ps:List Str}{sp:Sp}(D:Def P w K mg base j x ps sp)(h:j<=k):Def P w K mg base k x ps sp :=
 let ⟨f,fd,F,b,kp,m⟩:=D;⟨f,fd,F.mono h,b,kp,m⟩
section
variable {X:Cx}{k:Nat}{x:Str}{ps:List Str}{sp:Sp}{p pos:Pos}{e:Expr}{es:List Expr}{t:TA}
theorem Zu (D:Def X.prog X.w X.K X.mg X.base k x ps sp)(hr:Room k X.A)(ha:PA X (e::es) t)(hg:Gl X x:=by rfl)(hdb:(x == ("__debug__":Str))=false:=by decide)
 (he:starEach (e::es) X.env=(false,eval e X.env)::starEach es X.env:=by rfl) (hpl:(backTo pos (starEach es X.env)).any (·.1)=false:=by rfl) :
 PE X (.Call (.Name x p) (e::es) [] pos) (Zgb sp [] E0 t):=by
 obtain ⟨f,fd,F,b,kp,m⟩:=D
 exact Zlb F hr hg m kp b .nil ZcW ha hdb he hpl
end
def Kp (p:Addr)(H H':Hp):Prop:=∀ q o,q≠p->H q=some o->H' q=some o
theorem Kp.trans {p:Addr}{H H1 H2:Hp}(a:Kp p H H1)(b:Kp p H1 H2):Kp p H H2:=fun q o n h=>b q o n (a q o n h)
theorem Kp.upd (p:Addr)(H:Hp)(o:HO):Kp p H (upd H p o):=fun q u n h=>by rw [Zi n];exact h
theorem Same.kp {H H':Hp}(a:Same H H')(p:Addr):Kp p H H':=fun q o _ h=>a q o h
theorem Zx {H:Hp}{p:Addr}(h:H p=none)(o:HO):Same H (upd H p o):=fun b u q=>by rw [Zi (Zs q h)];exact q
def BoxAt (H:Hp)(p:Addr)(n:Nat):Prop:=∃ a b c:Int,H p=some (.lst [.int a,.int b,.int c])/\0<=a/\0<=c/\c<=n
theorem BoxAt.same {H H':Hp}{p:Addr}{n:Nat}(h:BoxAt H p n)(s:Same H H'):BoxAt H' p n:=let ⟨a,b,c,e,r⟩:=h;⟨a,b,c,s _ _ e,r⟩
theorem BoxAt.le {H:Hp}{p:Addr}{n m:Nat}(h:BoxAt H p n)(l:n<=m):BoxAt H p m:=let ⟨a,b,c,e,h1,h2,h3⟩:=h;⟨a,b,c,e,h1,h2,by omega⟩
def Zbe (M:Int):Sp:=fun vs H Q _=>∃(p:Addr)(n:Nat)(m:Int),vs=[.ref p,.int m]/\BoxAt H p n/\n<=1000000/\0 < m/\m < M/\∀(r:Int)(H':Hp),0<=r->r < m->BoxAt H' p (n+1)->Kp p H H'->Q (.int r) H'
def ZgM (K:KF):Sp:=fun vs H Q _=>∃(a:Addr)(ns:List Int)(k:Int),vs=[.ref a,.int k]/\SqL K H a (ns.map V.int)/\0<=k/\∀(r:Int),Q (.int r) H
def Zkq (K:KF):Sp:=fun vs H Q _=>∃(a:Addr)(ns:List Int)(k:Int),vs=[.ref a,.int k]/\SqL K H a (ns.map V.int)/\0<=k/\k<=1000/\∀(p:Addr)(H':Hp),H p=none->BoxAt H' p 0->Same H H'->Q (.ref p) H'
theorem ZbY {n:Nat}(h:n<=1000):n<=sizeLine:=Nat.le_of_lt (Zho h)
def Zfh (N:List Str)(names:List (Str×NameKind))(scope:Scope)(x:Str):Bool :=
 decide ((Us N x++[x]).Nodup)&&scope.names.all (fun y=>(y.2 != .free || names.lookup y.1 == some .cell || names.lookup y.1 == some .free)&&(y.2 != .cell&&(y.2 != .local || scope.names.lookup y.1 == some .local))) &&
 ((scope.kind == .function&&scope.names.lookup x == some .local)&&N.all fun y=>y == x || scope.names.lookup y != some .local)&&scope.names.lookup ("":Str) == none
theorem CompOk.of {X:Cx}{scope:Scope}{x:Str}(N:List Str)(st:Stmt)(hN:X.N=N)(hn:X.env.scope=Zj st)(chk:Zfh N (Zj st).names scope x=true):CompOk X scope x:=by
 unfold Zfh at chk
 simp only [Bool.and_eq_true,decide_eq_true_eq,all_eq_true,Bool.or_eq_true,bne_iff_ne,beq_iff_eq] at chk
 obtain ⟨⟨⟨c1,c2⟩,⟨c3,c4⟩,c5⟩,c6⟩:=chk
 refine ⟨by rw [hN];exact c1,fun y hy hf=>?_,fun y hy=>(c2 y hy).2.1,c3,fun y hy hl=>?_,c4,fun y hy hx=>(c5 y (by rw [<- hN];exact hy)).resolve_left hx,c6⟩
 ·show X.env.scope.names.lookup y.1=_\/X.env.scope.names.lookup y.1=_
  rw [hn]
  rcases (c2 y hy).1 with (z | z) | z
  ·exact absurd hf z
  ·exact .inl z
  ·exact .inr z
 ·rcases (c2 y hy).2.2 with z | z
  ·exact absurd hl z
  ·exact z
theorem Zbt:∀ (rest:List Str) (acc:Array Nat),(rest.foldl (fun acc p=>acc++(Str.ofString "").cps++p.cps) acc).toList=acc.toList++rest.flatMap (·.cps.toList)
 | [],acc=>by simp
 | p::r,acc=>by
  have e:(Str.ofString "").cps=#[]:=by decide +kernel
  rw [List.foldl_cons,Zbt r,List.flatMap_cons,e]
  simp
theorem WO:∀ ys:List Str,(Txt.join (Str.ofString "") ys).cps.toList=ys.flatMap (·.cps.toList)
 | []=>rfl
 | y::r=>by
  show (List.foldl (fun acc p=>acc++(Str.ofString "").cps++p.cps) y.cps r).toList=_
  rw [Zbt];rfl
theorem Yn (x:Str):x.length=x.cps.toList.length:=by simp [Str.length]
theorem ZgZ (s e:Int)(i j:Nat)(hs:s=i)(he:e=j):sliceRange s e 1=(List.range (j - i)).map (i+·):=by
 subst hs he
 unfold sliceRange
 simp only [show (1:Int) > 0 by decide,if_true]
 have e3:(if (i:Int) < (j:Int) then ((j:Int) - i+1 - 1) / 1 else 0).toNat=j - i:=by
  split
  ·rw [Int.ediv_one];omega
  ·omega
 rw [e3]
 apply map_congr_left
 intro k hk
 omega
theorem Wx (z:Str)(lo hi:Option Int):(Txt.slice z lo hi).cps.toList=(z.cps.toList.drop (HT.sIx z.length 0 lo)).take (HT.sIx z.length z.length hi - HT.sIx z.length 0 lo):=by
 have key:Builtin.Str.strSliceIndices lo hi 1 z.length=(List.range (HT.sIx z.length z.length hi - HT.sIx z.length 0 lo)).map (HT.sIx z.length 0 lo+·):=by
  unfold Builtin.Str.strSliceIndices
  refine ZgZ _ _ _ _ ?_ ?_
  ·cases lo with
   | none=>rfl
   | some i=>simp only [HT.sIx,show (1:Int) > 0 by decide,if_true];split<;>omega
  ·cases hi with
   | none=>rfl
   | some i=>simp only [HT.sIx,show (1:Int) > 0 by decide,if_true];split<;>omega
 have hj:HT.sIx z.length z.length hi<=z.length:=HT.sIx_le _ _ (Nat.le_refl _) hi
 unfold Txt.slice
 rw [key]
 split
 ·rename_i h
  simp only [beq_self_eq_true,Bool.true_and,length_map,length_range,beq_iff_eq] at h
  have h0:HT.sIx z.length 0 lo=0\/z.length=0:=by omega
  rcases h0 with h0 | h0
  ·rw [h0] at h ⊢
   rw [List.drop_zero,h,Yn,take_length]
  ·have e:z.cps.toList=[]:=eq_nil_of_length_eq_zero (by rw [<- Yn];exact h0)
   rw [e];simp
 ·show (List.filterMap (fun k=>z.cps[k]?) ((List.range _).map _)).toArray.toList=_
  rw [List.filterMap_map]
  generalize HT.sIx z.length 0 lo=i at *
  generalize HT.sIx z.length z.length hi - i=n at *
  have gen:∀ (n i:Nat),List.filterMap ((fun k=>z.cps[k]?) ∘ (i+·)) (List.range n)=(z.cps.toList.drop i).take n:=by
   intro n
   induction n with
   | zero=>intro i;simp
   | succ n ih =>
    intro i
    rw [List.range_succ,List.filterMap_append,ih,take_add_one,List.getElem?_drop]
    congr 1
    simp only [filterMap_cons,List.filterMap_nil,Function.comp,Array.getElem?_toList]
    cases z.cps[i+n]?<;>rfl
  rw [gen]
theorem Vt (x y:Str):(x++y).cps.toList=x.cps.toList++y.cps.toList:=by
 show (x.cps++y.cps).toList=_
 simp
theorem XE (x y:Str):(x++y).length=x.length+y.length:=by rw [Yn,Vt,length_append,<- Yn,<- Yn]
def Vh (c:Nat):Bool:=decide (97<=c)&&decide (c<=122)
def sgn (c:Nat):Bool:=decide (32<=c)&&decide (c<=126)
theorem Zcj {X:Cx}{K:KF}(hK:X.K=K):Yw X (.builtin "len") (fun xs H Q=>∃ x n,xs=[x]/\Ziw K x H n/\Q (.int n) H):=by subst hK;exact Zjm
theorem ZiI {X:Cx}{K:KF}(hK:X.K=K):IxR X (rIxL K):=by subst hK;exact ZA
@[reducible] def notStar:Expr->Bool
 | .Starred ..=>false
 | _=>true
theorem ZjU {e:Expr}{es:List Expr}{env:Env}(h:notStar e=true):starEach (e::es) env=(false,eval e env)::starEach es env:=by
 cases e<;>first | rfl | cases h
section
variable {X:Cx}{k:Nat}{x:Str}{ps:List Str}{sp:Sp}{p pos:Pos}{e:Expr}{es:List Expr}{te:TE}{t:TA}
theorem Vp (ha:PE X e te)(hr:PA X es t)(h:notStar e=true):PA X (e::es) (XF te t):=Yy ha hr (ZjU h)
theorem Zb (ha:PE X e te)(hr:PA X es t)(h:notStar e=true:=by rfl):PA X (e::es) (XF te t):=Yy ha hr (ZjU h)
end
section
variable {X:Cx}
theorem Zih:Xb X (binaryOp .FloorDiv) (rI (fun _ j=>0 < j/\j < 2 ^ 62) fun i j=>.int (i / j)):=opI fun i j _ _ _ _ _ hc q=>by
 have h1:(0:Int) < j:=hc.1
 have h2:j < 2 ^ 62:=hc.2
 refine floordiv_int (by omega) (by rw [Int.fdiv_eq_ediv_of_nonneg i (by omega)];exact q) (.inl (PyProof.noPylong_of_log2 ?_))
 have h3:j.natAbs≠0:=by omega
 have h4:j.natAbs < 2 ^ 9000:=Nat.lt_of_lt_of_le (show j.natAbs < 2 ^ 62 by omega) (Nat.pow_le_pow_right (by decide) (by decide))
 exact (Nat.log2_lt h3).mpr h4
theorem Zdv:MtR X "str.index" (fun x xs H Q=>∃ z y,x=.str z/\xs=[.str y]/\0<=Txt.find z y/\Q (.int (Txt.find z y)) H):=by
 intro pins s σ H x xs v us Q I rx rv h
 obtain ⟨z,y,rfl,rfl,hz,q⟩:=h
 obtain ⟨t,rfl⟩:=rx
 obtain ⟨u,rfl,ru⟩:=Yx rv
 obtain ⟨t',rfl⟩:=ru
 cases ho:Builtin.Str.occurrences z y 0 z.length 1 with
 | nil => have:Txt.find z y=-1:=by simp [Txt.find,ho]
          omega
 | cons i rest =>
   have e:Txt.find z y=i:=by simp [Txt.find,ho]
   rw [e] at q
   exact call_gives F.slot_str_index (typeIs_str _ _ _) F.entry_str_index (F.args_str_index_2 _ _) (gives_str_index z y t t' i rest ho) ⟨.int i,H,I.tok _,⟨_,rfl⟩,q⟩
end
section
variable {X:Cx}
theorem Zce {P:Program}{w:World}:∀{kvs:ZK}{vs:List (Zk×Value)},KV kvs vs->∀(us:List Value),us.length=vs.length->(∀(j:Nat)(v:Value),us[j]?=some v->∃ k x,vs[j]?=some (k,x)/\(Zl P w).is k v=true)->Vals (kvs.map fun p=>kV p.1) us
 | _,_,.nil,us,hl,_=>by
  have:us=[]:=eq_nil_of_length_eq_zero (by simpa using hl)
  subst this;exact .nil
 | _,_,.cons r t,us,hl,h=>by
  cases us with
  | nil=>simp at hl
  | cons u ur =>
   obtain ⟨k,x,e,hk⟩:=h 0 u rfl
   have e':_=(k,x):=Option.some.inj e
   refine .cons ?_ (Zce t ur (by simpa using hl) fun j v hj=>h (j+1) v (by simpa using hj))
   have e2:=r.1
   rw [e'] at e2
   show RelV (kV _) u
   rw [e2]
   rw [UX] at hk
   rcases ZT hk with ⟨i,tt,rfl,rfl⟩ | ⟨y,tt,rfl,rfl⟩
   ·exact ⟨tt,rfl⟩
   ·exact ⟨tt,rfl⟩
theorem ZbV (hc:X.calm=true):Yw X (.type "list") (fun xs H Q=>∃ (d:Addr) (kvs:ZK),xs=[.ref d]/\H d=some (.dK kvs)/\∀ l,H l=none->Q (.ref l) (upd H l (.lst (kvs.map fun p=>kV p.1)))):=by
 intro pins s σ H xs us Q I r h
 obtain ⟨d,kvs,rfl,e,q⟩:=h
 obtain ⟨u,rfl,ru⟩:=Yx r
 cases ru
 obtain ⟨hz,lo,vs,kv,o,es,ep,ho,r1,r2,r3,r4,r5⟩:=WL I.hok e
 have hlen:vs.length=kvs.length:=(Paired.length kv).symm
 refine PySem.W.kdl_call (PySem.W.kdl_dict (knd:=Zl X.prog X.w) (kvs:=vs) (ep:=ep) lo) (I.ok.hd hc) ⟨o,es,ho,r1,r2,r3,r4,r5⟩ (by rw [hlen];exact hz) fun h' tk acc' c' hk hS hacc=>?_
 have rv:Vals (kvs.map fun p=>kV p.1) acc'.toList:=Zce (P:=X.prog) (w:=X.w) kv acc'.toList (by rw [Array.length_toList];exact hacc.1) fun j v hj=>hacc.2 j v (by rw [<- Array.getElem?_toList];exact hj)
 exact ⟨.ref s.heap.objs.size,_,I.laid (t':=tk) hk (Nat.le_refl _) (show ObjOk X.prog X.w _ h' _ (.lst (kvs.map fun p=>kV p.1)) from ⟨by rw [length_map];exact hz,acc'.toList,c',rv,by rw [Array.toArray_toList];exact hS⟩),rfl,q _ (I.hok.fresh (Nat.le_refl _))⟩
end
section
variable {X:Cx}{tg:Expr}
end
theorem Zby {prog:Program}{w:World}{A:Around}{it:Addr}{fp:List Addr}{n:Nat}{P:Nat->Value->Prop}{St:Nat->Heap->Prop}(D:Draws prog w A it fp n P St) :
 Draws prog w A it fp (n+1) (fun i v=>∃ j,i=j+1/\P j v) (fun i h=>∃ j,i=j+1/\St j h) where
 live:=fun i h ⟨j,_,st⟩=>D.live j h st
 frame:=fun i h h' ⟨j,e,st⟩ k=>⟨j,e,D.frame j h h' st k⟩
 item:=fun i s Q E hi ⟨j,e,st⟩ hQ=>by
  subst e
  exact D.item j s Q E (by omega) st fun x h' tk p st' sb=>hQ x h' tk ⟨j,rfl,p⟩ ⟨j+1,rfl,st'⟩ sb
 done:=fun s Q E ⟨j,e,st⟩ hE=>by
  have:n=j:=by omega
  subst this
  exact D.done s Q E st hE
section
variable {prog:Program}{w:World}{A:Around}{E:ZB}{s:Shared}
theorem Zar (x:Str)(t t1:Tok) :
 Meets (Builtin.«enumerate.__new__» ⟨[.type "enumerate",.str x t],[("start",.int 1 t1)]⟩) (fun _ R s =>
  R (.ok (.ret (.ref (s.heap.push { cls:=.type (strIterType x),data:=.fields #[.str x t,.int 0 0] }).objs.size)))
   {s with heap:=(s.heap.push { cls:=.type (strIterType x),data:=.fields #[.str x t,.int 0 0] }).push { cls:=.type "enumerate",data:=.fields #[.none,.bool false,.ref s.heap.objs.size,rawInt 1,.none,.none] } }) :=
 .of_wp fun prog w A R s h=>by
  obtain ⟨hp,g,d,tk,os⟩:=s
  have sub1:=sub_enumerate
  wp_walk
  refine wpAny_stack_any fun st=>wpAny_pure ?_
  split
  ·rename_i c _ _ _ _ _
   cases (c == Value.type "enumerate")<;>(wp_walk using wpAny_pyIter_strU;exact ⟨_,rfl,h⟩)
  ·wp_walk using wpAny_pyIter_strU
   exact ⟨_,rfl,h⟩
end
section
variable {prog:Program}{w:World}{A:Around}{E:ZB}{s:Shared}
theorem Zcb {T newId:String}{self a:Value}{kw:List (Str×Value)}(hl:typeLookup (.type T) "__init__"=pure (some (.builtin "object.__init__")))
 (hm:Bind.madeBy (.type T)=pure (some newId)) (hne:(some newId != some "object.__new__")=true) :
 Meets (Builtin.«object.__init__» ⟨[self,a],kw⟩) (fun _ R s=>s.TypeIs self T/\R (.ok (.ret .none)) s):=by
 refine Meets.of_wp fun prog w A R s hs=>?_
 obtain ⟨hT,hq⟩:=hs
 repeat (any_goals first | assumption | wp_step)
 exact ⟨_,rfl,hq⟩
theorem ZdF {T newId initId:String}{Bn Bi:Builtin}{args:List Value}{kw:List (Str×Value)}{S:PySem.Spec}{Q Q₁:ZB}(ft:TypeCalled T newId initId)
 (hct:checkTypeCall T ⟨args,kw⟩=pure ()) (hcn:checkBuiltinCall newId ⟨.type T::args,kw⟩=pure ())
 (entryN:entryFor table newId=some Bn) (entryI:entryFor table initId=some Bi) (g:Meets (Bn ⟨.type T::args,kw⟩) S) (h:S A.in1 (wants Q₁ E) s)
 (hnext:∀ obj s₁,Q₁ obj s₁->s₁.TypeIs obj T/\argsOk initId ⟨obj::args,kw⟩/\∃ Si,Meets (Bi ⟨obj::args,kw⟩) Si/\Si A.in1 (wants (fun r s₂=>r=.none/\Q obj s₂) E) s₁) :
 wpAny (model prog w) A (call (.type T) args kw) Q E s:=by
 obtain ⟨c,tl,hmro⟩:=ft.mro
 have q1:=ft.made
 have q2:=ft.sub
 refine wpAny_call (codeAny_of_tree (show wpAny _ _ (callAny (.type T) _) _ _ _ from wpAny_pure ⟨Code.quiet_builtin _ (by decide +kernel),codeAny_builtin F.entry_type_call ?_⟩))
 rw [Around.under_plain (weight_type_call_type T args kw) (units_type_call_type T args kw)]
 have q3:=ft.notType
 have q4:=ft.canCreate
 repeat (any_goals first | assumption | wp_step)
 refine codeAny_mono (codeAny_call_builtin ft.plain entryN (wpAny_of_eq hcn (g prog w A.in1 _ s h))) fun r s₁ hr=>?_
 rcases r with e | fl
 ·exact hr
 ·cases fl with
  | ret obj =>
   obtain ⟨hT,hok,Si,gi,hsi⟩:=hnext _ _ hr
   have q5:=ft.init.lookup
   have q6:=ft.init.bind obj
   repeat (any_goals first | assumption | wp_step)
   refine codeAny_mono (codeAny_call_builtin ft.init.plain entryI (ft.init.check _ _ _ _ _ _ _ _ hT hok (gi prog w A.in1 _ s₁ hsi))) fun r₂ s₂ hr₂=>?_
   rcases r₂ with e | fl₂
   ·exact hr₂
   ·cases fl₂ with
    | ret r =>
     obtain ⟨rfl,hq⟩:=hr₂
     repeat (any_goals first | assumption | wp_step)
    | _=>exact hr₂.elim
  | _=>exact hr.elim
theorem Vr (a b:Value):checkTypeCall "enumerate" ⟨[a],[("start",b)]⟩=pure ():=by kernel_rfl
theorem VB (a b:Value):checkBuiltinCall "enumerate.__new__" ⟨[.type "enumerate",a],[("start",b)]⟩=pure ():=by kernel_rfl
theorem Zbk (o a b:Value):argsOk "object.__init__" ⟨[o,a],[("start",b)]⟩:=by
 unfold argsOk
 rw [signature?_of (id:="object.__init__") (n:=['_','_','t','i','n','i','_','_']) (o:=['t','c','e','j','b','o']) (by kernel_rfl) F.owner_object]
 kernel_rfl
theorem Zbq {x:Str}{t t1:Tok}{Q:ZB}
 (h:∀ h',IsEnum h' (s.heap.objs.size+1) s.heap.objs.size 1 .none->h'.IsStrIter s.heap.objs.size (strIterType x) x t 0->h'.objs.size=s.heap.objs.size+2 ->
  (∀ b o,s.heap.get? b=some o->h'.get? b=some o)->Q (.ref (s.heap.objs.size+1)) { s with heap:=h' }) :
 wpAny (model prog w) A (call (.type "enumerate") [.str x t] [("start",.int 1 t1)]) Q E s:=by
 have ft:=F.called_enumerate
 refine ZdF (Q₁:=fun obj s₁=>s₁.TypeIs obj "enumerate"/\Q obj s₁) ft (Vr _ _) (VB _ _) F.entry_enumerate_new F.entry_object_init (Zar x t t1) ?_
  (fun obj s₁ hq=>⟨hq.1,Zbk obj _ _,_,Zcb ft.init.lookup ft.made (by decide),hq.1,rfl,hq.2⟩)
 generalize hO:({ cls:=.type (strIterType x),data:=.fields #[.str x t,.int 0 0] }:Obj)=O
 have hz:(s.heap.push O).objs.size=s.heap.objs.size+1:=Heap.size_push ..
 generalize hO2:({ cls:=.type "enumerate",data:=.fields #[.none,.bool false,.ref s.heap.objs.size,rawInt 1,.none,.none] }:Obj)=O2
 have he:((s.heap.push O).push O2).get? (s.heap.objs.size+1)=some O2:=by
  have e:=Heap.get?_push_size (s.heap.push O) (o:=O2) (by rw [<- hO2];rfl)
  rw [hz] at e;exact e
 have hi:((s.heap.push O).push O2).get? s.heap.objs.size=some O:=Heap.get?_push_of_some _ (Heap.get?_push_size _ (by rw [<- hO];rfl))
 have key:Shared.TypeIs { s with heap:=(s.heap.push O).push O2 } (.ref (s.heap.objs.size+1)) "enumerate"/\Q (.ref (s.heap.objs.size+1)) { s with heap:=(s.heap.push O).push O2 }:=by
  refine ⟨⟨O2,he,by rw [<- hO2]⟩,h _ (by rw [<- hO2] at he ⊢;exact he) ⟨O,hi,by rw [<- hO],by rw [<- hO];rfl⟩ (by rw [Heap.size_push,hz]) fun b o y=>Heap.get?_push_of_some _ (Heap.get?_push_of_some _ y)⟩
 rw [<- hz] at key
 exact key
end
theorem Inv.turned2 {X:Cx}{pins:List (Addr×Obj)}{σ:St}{H:Hp}{s:Shared}{h':Heap}{t':Nat}{fp:List Addr}(I:Inv X pins σ H s)(k:∀ b o,b ∉ fp->s.heap.get? b=some o->h'.get? b=some o)(hf:∀ b∈fp,YD X pins H b) :
 Inv X pins σ H { s with heap:=h',toks:=t' }:=by
 have nit:∀ b u,H b=some u->b ∉ fp:=fun b u e z=>by rw [(hf b z).1] at e;cases e
 refine I.step (g':=s.gens) (d':=s.drawn) (ch:=fp) (fun b hb=>?_) (fun b o _ _ hc e _=>k b o hc e) (fun b o _ _ hc e _=>⟨o.slots,k b o hc e⟩) (fun _ _ _ _ n=>n)
  (fun b o hc e=>⟨o,k b o hc e⟩) (fun _ _ e=>e) (fun _ _ _ e=>e) (fun b ps e=>⟨#[],by rw [e];simp⟩) (fun m hm=>?_) (fun b u e=>?_) I.bare
 ·obtain ⟨f0,f1,f2,f3,f4,f5⟩:=hf b hb
  exact ⟨f3,f1,f4,f5⟩
 ·obtain ⟨o,es,ep,ho,r⟩:=hm
  exact ⟨o,es,ep,k _ o (fun z=>(hf _ z).2.1 rfl) ho,r⟩
 ·refine (I.hok b u e).stay (fun c v hc q=>k c v ?_ q) (fun _ q=>q) fun _ _ q=>q
  rcases hc with z | z
  ·rw [z];exact nit b u e
  ·exact nit c _ z
theorem Zcu {prog:Program}{w:World}{A:Around}(hh:A.handled=none)(it:Addr)(x:Str)(t:Tok) :
 Draws prog w A it [it] x.cps.size (fun i v=>∃ c u,x.cps[i]?=some c/\v=.str ⟨#[c]⟩ u) (fun i h=>h.IsStrIter it (strIterType x) x t i):=by
 cases ha:x.cps.all (· < 128)
 ·have e:strIterType x="str_iterator":=by simp [strIterType,ha]
  rw [e];exact Draws.strWide hh it x t
 ·have e:strIterType x="str_ascii_iterator":=by simp [strIterType,ha]
  rw [e];exact Draws.strAscii hh it x t
def Ite (x:Str):It:=⟨fun i _=>i < x.cps.size,fun i H v H'=>∃ t c,H t=none/\x.cps[i]?=some c/\v=.ref t/\H'=upd H t (.tup [.int ((i:Int)+1),.str ⟨#[c]⟩]),fun i _=>x.cps.size<=i⟩
theorem ZgJ {P:Program}{w:World}{K:KF}{elts:List Expr}{x1:Nat}{tp:Pos}(x:Str)(t:Tok)(e it:Addr)(hne:e≠it) :
 Uj P w K (.Tuple elts x1 tp) (Ite x) [e,it] e (fun i h=>(∃ old,IsEnum h e it ((i:Int)+1) old)/\h.IsStrIter it (strIterType x) x t i/\i<=x.cps.size) where
 mem:=by simp
 obj:=fun i h st b hb=>by
  obtain ⟨⟨old,he⟩,⟨o,ho,c,d⟩,_⟩:=st
  rcases mem_cons.mp hb with q | hb
  ·rw [q];exact ⟨_,he,fun v z=>by cases z⟩
  ·rw [mem_singleton.mp hb];exact ⟨o,ho,fun v z=>by rw [d] at z;cases z⟩
 keep:=fun i h h' st k=>by
  obtain ⟨⟨old,he⟩,⟨o,ho,r⟩,hi⟩:=st
  exact ⟨⟨old,k e (by simp) _ he⟩,⟨o,k it (by simp) o ho,r⟩,hi⟩
 item:=by
  intro X hP hw hK hc i pins s σ H E I hf st hg
  subst hP hw hK
  obtain ⟨⟨old,he⟩,hs,hi⟩:=st
  have hlt:i < x.cps.size:=hg
  have D:=Zby (Zcu (prog:=X.prog) (w:=X.w) (A:=X.A.in1) (I.ok.hd hc) it x t)
  refine wpAny_pyNext_enum_itemD (i:=i+1) D (show IsEnum s.heap e it ((i+1:Nat):Int) old from he) ⟨i,rfl,hs⟩ (by omega) hne (by simpa using hne) fun v h' tk hP hOut hst hT hsz hk=>?_
  obtain ⟨j,ej,c,u,hcc,rfl⟩:=hP
  have ej':i=j:=by omega
  subst ej'
  obtain ⟨j,ej,hst⟩:=hst
  have ej':i+1=j:=by omega
  subst ej'
  have hel:e < s.heap.objs.size:=Heap.lt_size he
  have hil:it < s.heap.objs.size:=by obtain ⟨o,ho,_⟩:=hs;exact Heap.lt_size ho
  refine ⟨_,rfl,wpAny_letOwnedTupleGo_enum hOut fun h2 he2 hs2=>?_⟩
  generalize hO:({ cls:=.type "tuple",data:=.seq #[.int ((i+1:Nat):Int) tk,.str ⟨#[c]⟩ u] }:Obj)=O at hT
  have I1:Inv X pins σ (upd H s.heap.objs.size (.tup [.int ((i:Int)+1),.str ⟨#[c]⟩])) { s with heap:=s.heap.push O,toks:=tk+1 }:=by
   refine I.laid (t':=tk+1) (fun b o y=>Heap.get?_push_of_some _ y) (Nat.le_refl _) (show ObjOk X.prog X.w _ _ _ (.tup _) from ⟨by show 2<=sizeLine;decide,[.int ((i+1:Nat):Int) tk,.str ⟨#[c]⟩ u],.cons ⟨tk,rfl⟩ (.cons ⟨u,rfl⟩ .nil),?_⟩)
   rw [<- hO];exact IsTup.new _ _
  have hfree:=I.hok.fresh (Nat.le_refl s.heap.objs.size)
  have hf2:∀ b∈[e,it],YD X pins (upd H s.heap.objs.size (.tup [.int ((i:Int)+1),.str ⟨#[c]⟩])) b:=fun b hb=>by
   obtain ⟨f0,f1⟩:=hf b hb
   have hb':b≠s.heap.objs.size:=by
    rcases mem_cons.mp hb with q | hb
    ·rw [q];exact Nat.ne_of_lt hel
    ·rw [mem_singleton.mp hb];exact Nat.ne_of_lt hil
   exact ⟨by rw [Zi hb'];exact f0,f1⟩
  have I2:Inv X pins σ (upd H s.heap.objs.size (.tup [.int ((i:Int)+1),.str ⟨#[c]⟩])) { s with heap:=h2,toks:=tk+1 }:=by
   refine I1.turned2 (t':=tk+1) (h':=h2) (fun b o hb y=>?_) hf2
   have hbe:b≠e:=fun q=>hb (by simp [q])
   have hbi:b≠it:=fun q=>hb (by simp [q])
   rw [hs2.2 b hbe]
   rcases Heap.get?_push_cases y with ⟨q1,q2⟩ | y
   ·rw [q1,q2];exact hT
   ·exact hk b o hbe hbi y
  refine ⟨.ref s.heap.objs.size,_,I2,rfl,⟨s.heap.objs.size,c,hfree,hcc,rfl,rfl⟩,⟨⟨_,he2⟩,?_,hlt⟩,fun b hb=>(hf2 b hb).1⟩
  obtain ⟨o,ho,r⟩:=hst
  exact ⟨o,by rw [hs2.2 it hne.symm];exact ho,r⟩
 done:=by
  intro X hP hw hK hc i pins s σ H E I hf st hg
  subst hP hw hK
  obtain ⟨⟨old,he⟩,hs,hi⟩:=st
  have hle:x.cps.size<=i:=hg
  have D:=Zby (Zcu (prog:=X.prog) (w:=X.w) (A:=X.A.in1) (I.ok.hd hc) it x t)
  have ei:i=x.cps.size:=by omega
  rw [ei] at hs
  obtain ⟨f0,f1,f2,f3,f4,f5⟩:=hf it (by simp)
  exact wpAny_pyNext_enum_endD D he ⟨_,rfl,hs⟩ fun h' eb=>⟨rfl,I.turned (t':=s.toks) (fun b o hb y=>eb b o hb y) f0 f1 f3 f4 f5⟩
 self:=fun _ _ _ _ _ st h=>by
  obtain ⟨⟨old,he⟩,_⟩:=st
  exact wpAny_pyIter_enum he h
theorem ZaB {M:Model}{A:Around}{E:ZB}{s:Shared}{pos:Pos}{T:String}{args:List (Bool×Sem Value)}{kws:List (Option Str×Sem Value)}{Q:ZB}
 (h1:args.any (·.1)=false) (h2:kws.any (·.1.isNone)=false)
 (h:wpAny M A (evalArgs (.type T) true args kws) (fun a s₁=>wpAny M A (call (.type T) a.pos a.kw) Q E s₁) E s):wpAny M A (callWith pos (.type T) [] args kws) Q E s:=by
 unfold callWith
 refine wpAny_bind (wpAny_holding (Zn h fun a s₁ q=>wpAny_bind (wpAny_standAt ?_)))
 simp only [h1,h2,Bool.or_false]
 refine wpAny_bind (wpAny_pure (wpAny_bind (Zn q fun r s₂ hr=>?_)))
 exact wpAny_bind (wpAny_holding (wpAny_point (wpAny_pure hr)))
def Zmy (tl:TE):TI:=fun σ H R=>tl σ H fun v H1=>∃ x,[v]=[V.str x]/\R (Ite x) H1
section
variable {X:Cx}
theorem ZjA {l:Expr}{tl:TE}{elts:List Expr}{x1 j:Nat}{tp p pos kp kpos:Pos}(hg:Gl X "enumerate")(hm:X.mg "enumerate"=none)(hl:PE X l tl)
 (he:starEach [l] X.env=[(false,eval l X.env)]:=by rfl):PI X (.Tuple elts x1 tp) (.Call (.Name "enumerate" p) [l] [⟨some "start",.Constant (.int 1) j kp,kpos⟩] pos) (Zmy tl):=by
 intro pins s σ H R I h
 have ha:PA X [l] (XF tl Wt):=Yy hl Za he
 have hk:PK X [⟨some "start",.Constant (.int 1) j kp,kpos⟩] (XF (tC (.int 1)) Wt):=ZkI Ze Zne
 refine wpAny_Call_Name_kw (WC I hg hm boot_enumerate (ZaB (by rw [he];rfl) rfl (evalArgs_kw2 rfl ?_ he)))
 refine Zn (ha pos pins s σ H (fun vs H1=>∃ x,vs=[V.str x]/\R (Ite x) H1) I h) fun us s1 ⟨vs,H1,I1,r1,x,e,q⟩=>?_
 subst e
 obtain ⟨u,rfl,t,rfl⟩:=Yx r1
 refine Zn (hk pos pins s1 σ H1 (fun vs H2=>vs=[V.int 1]/\H2=H1) I1 ⟨rfl,rfl⟩) fun ws s2 ⟨zs,H2,I2,r2,e1,e2⟩=>?_
 subst e1 e2
 obtain ⟨u',rfl,t',rfl⟩:=Yx r2
 refine Zbq fun h' hE hit hsz hkk=>wpAny_pyIter_enum hE ?_
 refine ⟨s2.heap.objs.size+1,[s2.heap.objs.size+1,s2.heap.objs.size],_,_,H2,rfl,I2.kept (t':=s2.toks) hkk,ZgJ x t _ _ (Nat.succ_ne_self _),⟨⟨_,hE⟩,hit,Nat.zero_le _⟩,fun b hb=>?_,q⟩
 rcases mem_cons.mp hb with z | hb
 ·rw [z];exact I2.fpOk (Nat.le_succ _) (I2.hok.fresh (Nat.le_succ _))
 ·rw [mem_singleton.mp hb];exact I2.fpOk (Nat.le_refl _) (I2.hok.fresh (Nat.le_refl _))
end
theorem ZiQ {x:Str}{g:TG}{tb:TS}{D:UA}{σ:St}{H:Hp}(Pv:Nat->St->Hp->Prop)(h0:Pv 0 σ H)
 (hs:∀ i c t σ H,x.cps[i]?=some c->H t=none->Pv i σ H->g (.ref t) σ (upd H t (.tup [.int ((i:Int)+1),.str ⟨#[c]⟩])) fun σ2 H2=>tb { D with nx:=Pv (i+1),ct:=Pv (i+1),bk:=D.nx } σ2 H2) (hd:∀ σ H,Pv x.cps.size σ H->D.nx σ H) :
 ∃ W:Nat->Nat->St->Hp->Prop,(∃ m,W 0 m σ H)/\∀ i m σ H,W i m σ H ->
  ((Ite x).stop i H/\D.nx σ H)\/((Ite x).go i H/\∃ N:St->Hp->Prop,(∀ σ' H',N σ' H'->∃ m',m' < m/\W (i+1) m' σ' H')/\∀ y H',(Ite x).yld i H y H'->g y σ H' fun σ2 H2=>tb { D with nx:=N,ct:=N,bk:=D.nx } σ2 H2):=by
 refine ⟨fun i m σ H=>m=x.cps.size - i/\i<=x.cps.size/\Pv i σ H,⟨x.cps.size,by simp,Nat.zero_le _,h0⟩,?_⟩
 rintro i m σ H ⟨rfl,hi,p⟩
 by_cases hlt:i < x.cps.size
 ·refine .inr ⟨hlt,Pv (i+1),fun σ' H' p'=>⟨x.cps.size - (i+1),by omega,rfl,hlt,p'⟩,fun y H' z=>?_⟩
  obtain ⟨t,c,e1,e2,e3,e4⟩:=z
  subst e3 e4
  exact hs i c t σ _ e2 e1 p
 ·have e:i=x.cps.size:=by omega
  subst e
  exact .inl ⟨Nat.le_refl _,hd σ H p⟩
end L2
namespace L2
open PySem PySem.W PySem.Spec PyProof.Rows
def ZaD (ks:List Str)(vs out:List Value):Prop:=∃ ps:List (Str×Value),ps.Perm (ks.zip vs)/\out=ps.map (·.2)/\ps.Pairwise fun p q=>¬ (q.1.cps.toList < p.1.cps.toList)
theorem Zea:∀{keys:List Value}{ks:List Str}(_:StrsAre keys ks)(vs:List Value),(keys.zip vs).map (fun p=>(strOf p.1,p.2))=ks.zip vs
 | _,_,.nil,vs=>rfl
 | _,_,.cons x t h,[]=>rfl
 | _,_,.cons x t h,v::vs=>by
  rw [List.zip_cons_cons,map_cons,Zea h vs];rfl
theorem ZiS {keys:Array Value}{vs:List Value}{ks:List Str}(hk:StrsAre keys.toList ks){xs:Array Keyed}(hp:xs.Perm (keys.zip vs.toArray))(hs:SortedToK strKind xs xs.size):ZaD ks vs (xs.map (·.2)).toList:=by
 have hl:xs.toList.Perm (keys.toList.zip vs):=by
  have:=Array.perm_iff_toList_perm.mp hp
  rwa [ksk_zip] at this
 refine ⟨xs.toList.map fun p=>(strOf p.1,p.2),?_,?_,?_⟩
 ·have:=hl.map fun p=>(strOf p.1,p.2)
  rwa [Zea hk] at this
 ·rw [Array.toList_map,map_map];rfl
 ·rw [pairwise_map,List.pairwise_iff_getElem]
  intro i j hi hj hij
  have hi':i < xs.size:=by simpa using hi
  have hj':j < xs.size:=by simpa using hj
  have str_at:∀ m (hm:m < xs.size),KK strKind xs m=(strOf xs[m].1).cps.toList:=fun m hm=>by
   have hmem:xs[m]∈keys.toList.zip vs:=hl.mem_iff.mp (by simp)
   have h1:=(of_mem_zip (show (xs[m].1,xs[m].2)∈_ from hmem)).1
   obtain ⟨x,t,e⟩:=hk.all _ h1
   rw [KK_str hm (x:=x) (t:=t) (q:=xs[m].2) (by rw [<- e])]
   rw [e];rfl
  have h:=hs i j (Nat.le_of_lt hij) hj'
  rw [str_at i hi',str_at j hj'] at h
  simpa [KeyOrd.kle] using h
theorem Zgs {keys:Array Value}{vs:List Value}{ks:List Str}(hk:StrsAre keys.toList ks):KeysOf strKind (keys.zip vs.toArray):=by
 intro p hp
 rw [ksk_zip] at hp
 obtain ⟨x,t,e⟩:=hk.all _ (of_mem_zip (show (p.1,p.2)∈_ from hp)).1
 exact ⟨x.cps.toList,by rw [e]⟩
theorem Zhl {keys:Array Value}{ks:List Str}(hk:StrsAre keys.toList ks)(h2:2<=keys.size):keyKind' keys=pure oneType':=by
 obtain ⟨l⟩:=keys
 match l,hk,h2 with
 | [],_,h2=>simp at h2
 | [_],_,h2=>simp at h2
 | v₁::v₂::r,hk,_=>exact keyKind_strs hk
theorem Zcy {x:Str}{t:Tok}:∀{vs:List Value}{ss:List Str},StrsAre vs ss->StrsAre (vs++[.str x t]) (ss++[x])
 | _,_,.nil=>.cons x t .nil
 | _,_,.cons y u h=>.cons y u (Zcy h)
section
variable {prog:Program}{w:World}{A:Around}{E:ZB}{s:Shared}{a kS:Addr}{vs:List Value}{ks:List Str}{keys:Array Value}{e e1:Nat}{P:PySem.Fin->Shared->Prop}
theorem Zbo {st:SortSt}(nk:s.heap.get? kS=some (seqObj "list" keys e))(na:s.heap.get? a=some (seqObj "list" #[] e1))(hka:kS≠a)(hk:StrsAre keys.toList ks)(hlen:ks.length=vs.length)(h64:vs.length < 64)
 (hp:(arrOf st).Perm (keys.zip vs.toArray)) (hs:SortedToK strKind (arrOf st) (arrOf st).size) (hfl:failedOf st=none)
 (h:∀ h' tk out c,(∀ b o,b≠a->b≠kS->s.heap.get? b=some o->h'.get? b=some o)->h'.get? a=some (seqObj "list" out c)->ZaD ks vs out.toList->P (.done (.ret .none)) { s with heap:=h',toks:=tk }) :
 wpAny (model prog w) A (ksk_tail a false e1 (.ref kS) st) P E s:=by
 have hsz:keys.size=vs.length:=by have:=hk.length;rw [Array.length_toList] at this;omega
 have hsz2:(arrOf st).size=vs.length:=by rw [hp.size_eq,Array.size_zip,hsz,size_toArray,Nat.min_self]
 have s1:=Heap.SameBut.update s.heap kS (Obj.mapSeq fun _=>(#[]:Array Value))
 have na1:(s.heap.update kS (Obj.mapSeq fun _=>(#[]:Array Value))).get? a=some (seqObj "list" #[] e1):=(s1.2 a hka.symm).trans na
 have s2:=Heap.SameBut.update (s.heap.update kS (Obj.mapSeq fun _=>(#[]:Array Value))) a (Obj.mapSeq fun _=>(arrOf st).map (·.2))
 obtain ⟨c2,hc2⟩:∃ c2,((s.heap.update kS (Obj.mapSeq fun _=>(#[]:Array Value))).update a (Obj.mapSeq fun _=>(arrOf st).map (·.2))).get? a=some (seqObj "list" ((arrOf st).map (·.2)) c2):=⟨_,get?_update_seq na1 fun _=>(arrOf st).map (·.2)⟩
 unfold ksk_tail
 try dsimp only
 refine wpAny_bind (listUpdate_at nk rfl ?_ (by rw [hsz,sizeLine_eq];omega) (Nat.zero_le _))
 refine wpAny_bind (wpAny_letGo (wpAny_bind (seqEpoch_at na1 rfl ?_)))
 refine wpAny_bind (listUpdate_at na1 rfl ?_ (Nat.zero_le _) (Nat.le_trans (Nat.le_of_eq (show ((arrOf st).map (·.2)).size=vs.length by rw [Array.size_map];exact hsz2)) (by rw [sizeLine_eq];omega)))
 rw [hfl]
 simp only [bne_self_eq_false,Bool.false_eq_true,if_false]
 exact wpAny_pure (h _ _ _ c2 (fun b o hb1 hb2 y=>(s2.2 b hb1).trans ((s1.2 b hb2).trans y)) hc2 (ZiS hk hp hs))
theorem Zhi (nk:s.heap.get? kS=some (seqObj "list" keys e))(na:s.heap.get? a=some (seqObj "list" #[] e1))(hka:kS≠a)(hk:StrsAre keys.toList ks)(hlen:ks.length=vs.length)(h64:vs.length < 64)
 (h:∀ h' tk out c,(∀ b o,b≠a->b≠kS->s.heap.get? b=some o->h'.get? b=some o)->h'.get? a=some (seqObj "list" out c)->ZaD ks vs out.toList->P (.done (.ret .none)) { s with heap:=h',toks:=tk }) :
 wpAny (model prog w) A (ksk_end a false vs.toArray e1 (.ref kS) keys) P E s:=by
 have hsz:keys.size=vs.length:=by have:=hk.length;rw [Array.length_toList] at this;omega
 have hzs:(keys.zip vs.toArray).size=vs.length:=by rw [Array.size_zip,hsz,size_toArray,Nat.min_self]
 unfold ksk_end
 simp only [Bool.false_eq_true,if_false]
 by_cases h2:vs.toArray.size < 2
 ·rw [if_pos h2,if_pos h2]
  refine wpAny_bind (wpAny_pure ?_)
  rw [StateT.run_pure]
  refine wpAny_bind (wpAny_pure ?_)
  try dsimp only
  refine Zbo (st:=SortSt.mk' general' (keys.zip vs.toArray) #[] 7 none) nk na hka hk hlen h64 (Array.Perm.refl _) ?_ rfl h
  intro i j hij hj
  have hj2:j < (keys.zip vs.toArray).size:=hj
  rw [hzs] at hj2
  rw [size_toArray] at h2
  have:i=j:=by omega
  subst this
  exact KeyOrd.kle_refl _
 ·rw [if_neg h2,if_neg h2]
  rw [size_toArray] at h2
  rw [Zhl hk (by rw [hsz];omega)]
  refine wpAny_bind (wpAny_pure (wpAny_bind (wpAny_mono (wpS_sortRunsK (κ:=strKind) strKind_oneLt (a₀:=keys.zip vs.toArray) (st:=SortSt.mk' oneType' (keys.zip vs.toArray) #[] 7 none)
   (Q:=fun _ st'=>(arrOf st').Perm (keys.zip vs.toArray)/\failedOf st'=none/\SortedToK strKind (arrOf st') (keys.zip vs.toArray).size)
   (Zgs hk) ⟨Array.Perm.refl _,rfl,rfl,rfl⟩ (by rw [hzs];omega) (by rw [hzs];exact h64) fun st' a1 a2 a3=>⟨a1,a2,a3⟩) ?_ fun _ _ y=>y)))
  rintro ⟨⟨⟩,st'⟩ s' ⟨rfl,hp,hf,hs⟩
  try dsimp only
  exact Zbo nk na hka hk hlen h64 hp (by rw [hp.size_eq];exact hs) hf h
def ZbP (prog:Program)(w:World)(A:Around)(s:Shared)(a:Addr)(f:Value)(vs:List Value)(ks:List Str):Prop :=
 ∀ (i:Nat) (v:Value) (k:Str),vs[i]?=some v->ks[i]?=some k->∀ (h:Heap) (tk:Nat),(∀ b o,b≠a->s.heap.get? b=some o->h.get? b=some o)->s.heap.objs.size<=h.objs.size->∀ Q':Value->Shared->Prop,
  (∀ h' tk' t,(∀ b o,h.get? b=some o->h'.get? b=some o)->h.objs.size<=h'.objs.size->Q' (.str k t) { s with heap:=h',toks:=tk' })->wpAny (model prog w) A (call f [v]) Q' (fun _ _=>False) { s with heap:=h,toks:=tk }
theorem Zfr {f:Value}{s0:Shared}(hs0:∃ tk,s={ s0 with heap:=s.heap,toks:=tk })(k0:∀ b o,b≠a->s0.heap.get? b=some o->s.heap.get? b=some o)(z0:s0.heap.objs.size<=s.heap.objs.size)(hkn:s0.heap.objs.size<=kS)
 (nk:s.heap.get? kS=some (seqObj "list" #[] 0)) (na:s.heap.get? a=some (seqObj "list" #[] e1)) (hka:kS≠a) (hlen:ks.length=vs.length) (h64:vs.length < 64) (turn:ZbP prog w A s0 a f vs ks)
 (h:∀ h' tk out c,(∀ b o,b≠a->s0.heap.get? b=some o->h'.get? b=some o)->h'.get? a=some (seqObj "list" out c)->ZaD ks vs out.toList->P (.done (.ret .none)) { s0 with heap:=h',toks:=tk }) :
 wpAny (model prog w) A (ksk_rest a f false vs.toArray e1 (.ref kS)) P E s:=by
 obtain ⟨tk0,hs0⟩:=hs0
 unfold ksk_rest
 refine wpAny_bind (wpAny_rule ?_)
 first
  | rw [List.forIn_toArray]
  | (rw [<- Array.forIn_toList];simp only [List.toList_toArray])
 refine wpAny_bind (ksk_fold (fun i s'=>∃ h' tk kA c,s'={ s0 with heap:=h',toks:=tk }/\(∀ b o,b≠a->s0.heap.get? b=some o->h'.get? b=some o)/\s0.heap.objs.size<=h'.objs.size/\h'.get? kS=some (seqObj "list" kA c)/\h'.get? a=some (seqObj "list" #[] e1)/\StrsAre kA.toList (ks.take i)) vs 0 s
  ⟨s.heap,tk0,#[],0,hs0,k0,z0,nk,na,by simpa using StrsAre.nil⟩ ?step ?done)
 case step =>
  rintro j x s' hx ⟨h',tk,kA,c,rfl,k1,z1,nk1,na1,hk⟩
  simp only [Nat.zero_add] at hk ⊢
  have hj:j < vs.length:=(List.getElem?_eq_some_iff.mp hx).1
  obtain ⟨k,hkj⟩:∃ k,ks[j]?=some k:=⟨_,getElem?_eq_getElem (by omega)⟩
  have hz:kA.size<=vs.length:=by
   have h1:=hk.length
   rw [Array.length_toList,length_take] at h1
   omega
  refine wpAny_bind (wpAny_attempt (wpAny_mono (turn j x k hx hkj h' tk k1 z1 (fun v s''=>∃ g tk2 t2,v=.str k t2/\s''={ s0 with heap:=g,toks:=tk2 }/\(∀ b o,h'.get? b=some o->g.get? b=some o)/\h'.objs.size<=g.objs.size) (fun g tk2 t2 q z=>⟨g,tk2,t2,rfl,rfl,q,z⟩)) (fun v s'' he=>?_) fun _ _ hF=>hF.elim))
  obtain ⟨g,tk2,t2,rfl,rfl,k2,z2⟩:=he
  try dsimp only
  have nk2:=k2 _ _ nk1
  have na2:=k2 _ _ na1
  have s1:=Heap.SameBut.update g kS (Obj.mapSeq (·.push (.str k t2)))
  obtain ⟨c2,hc2⟩:∃ c2,(g.update kS (Obj.mapSeq (·.push (.str k t2)))).get? kS=some (seqObj "list" (kA.push (.str k t2)) c2):=⟨_,get?_update_seq nk2 (·.push (.str k t2))⟩
  have ek:ks.take (j+1)=ks.take j++[k]:=by rw [take_add_one,hkj];simp
  have ea:(kA.push (Value.str k t2)).toList=kA.toList++[Value.str k t2]:=by simp
  refine wpAny_bind (listUpdate_at nk2 rfl ?_ (by rw [sizeLine_eq];omega) (Nat.le_trans (Nat.le_of_eq (Array.size_push ..)) (by rw [sizeLine_eq];omega)))
  refine wpAny_pure ⟨rfl,_,_,kA.push (.str k t2),c2,rfl,fun b o hb y=>?_,Nat.le_trans (Nat.le_trans z1 z2) (Nat.le_of_eq (Heap.size_update ..).symm),hc2,(s1.2 a hka.symm).trans na2,by rw [ea,ek];exact Zcy hk⟩
  exact (s1.2 b (fun z=>by rw [z] at y;exact absurd (Heap.lt_size y) (Nat.not_lt.mpr hkn))).trans (k2 _ _ (k1 b o hb y))
 case done =>
  rintro s' ⟨h',tk,kA,c,rfl,k1,z1,nk1,na1,hk⟩
  have hk':StrsAre kA.toList ks:=by
   have e3:ks.take (0+vs.length)=ks:=take_of_length_le (by omega)
   rw [e3] at hk
   exact hk
  try dsimp only
  refine wpAny_bind (listItems_at nk1 rfl ?_)
  refine Zhi nk1 na1 hka hk' hlen h64 fun h3 tk3 out c3 k3 a3 o3=>h h3 tk3 out c3 (fun b o hb y=>k3 b o hb (fun z=>?_) (k1 b o hb y)) a3 o3
  rw [z] at y
  exact absurd (Heap.lt_size y) (Nat.not_lt.mpr hkn)
theorem ZfO {f:Value}{n:Nat}(ho:s.heap.get? a=some (seqObj "list" vs.toArray n))(hlen:ks.length=vs.length)(h64:vs.length < 64)(turn:ZbP prog w A s a f vs ks)
 (h:∀ h' tk out c,(∀ b o,b≠a->s.heap.get? b=some o->h'.get? b=some o)->h'.get? a=some (seqObj "list" out c)->ZaD ks vs out.toList->P (.done (.ret .none)) { s with heap:=h',toks:=tk }) :
 wpAny (model prog w) A (ksk_tree a f false) P E s:=by
 have ha:a < s.heap.objs.size:=Heap.lt_size ho
 have s1:=Heap.SameBut.update s.heap a (Obj.mapSeq fun _=>(#[]:Array Value))
 obtain ⟨e1,ho1⟩:∃ e1,(s.heap.update a (Obj.mapSeq fun _=>(#[]:Array Value))).get? a=some (seqObj "list" #[] e1):=⟨_,get?_update_seq ho fun _=>#[]⟩
 have hkS:((s.heap.update a (Obj.mapSeq fun _=>(#[]:Array Value))).push (seqObj "tuple" vs.toArray 0)).objs.size=s.heap.objs.size+1:=by rw [size_push',Heap.size_update]
 unfold ksk_tree
 refine wpAny_bind (listItems_at ho rfl ?_)
 refine wpAny_bind (listUpdate_at ho rfl ?_ (by rw [size_toArray,sizeLine_eq];omega) (Nat.zero_le _))
 refine wpAny_bind (seqEpoch_at ho1 rfl (wpAny_bind (wpAny_newTuple ?_ (by show vs.length<=_;rw [sizeLine_eq];omega))))
 refine wpAny_bind (wpAny_newList ?_ (Nat.zero_le _))
 refine wpAny_holding ?_
 refine Zfr (s0:=s) (s:={ s with heap:=((s.heap.update a (Obj.mapSeq fun _=>(#[]:Array Value))).push (seqObj "tuple" vs.toArray 0)).push (seqObj "list" #[] 0) }) (kS:=((s.heap.update a (Obj.mapSeq fun _=>(#[]:Array Value))).push (seqObj "tuple" vs.toArray 0)).objs.size)
  ⟨s.toks,rfl⟩ (fun b o hb y=>Heap.get?_push_of_some _ (Heap.get?_push_of_some _ ((s1.2 b hb).trans y))) ?_ (by rw [hkS];exact Nat.le_succ _) (Heap.get?_push_size _ rfl) (Heap.get?_push_of_some _ (Heap.get?_push_of_some _ ho1)) (by rw [hkS];exact Nat.ne_of_gt (Nat.lt_succ_of_lt ha)) hlen h64 turn h
 show s.heap.objs.size<=(((s.heap.update a _).push _).push _).objs.size
 rw [size_push',hkS];omega
theorem ZkF {f:Value}{l:Addr}{Q:ZB}(hl:s.heap.IsList l vs.toArray)(hlen:ks.length=vs.length)(h64:vs.length < 64)(ht:∀ x,Builtin.«list.sort» ⟨[.ref x],[(Str.ofString "key",f)]⟩=ksk_tree x f false)
 (turn:∀ (h1:Heap) (tk1:Nat),(∀ b o,s.heap.get? b=some o->h1.get? b=some o)->s.heap.objs.size<=h1.objs.size->ZbP prog w A.in1.in1 { s with heap:=h1,toks:=tk1 } (s.heap.objs.size+1) f vs ks)
 (h:∀ h' tk out c,(∀ b o,s.heap.get? b=some o->h'.get? b=some o)->h'.get? (s.heap.objs.size+1)=some (seqObj "list" out c)->ZaD ks vs out.toList->Q (.ref (s.heap.objs.size+1)) { s with heap:=h',toks:=tk }) :
 wpAny (model prog w) A (call (.builtin "sorted") [.ref l] [(Str.ofString "key",f)]) Q E s:=by
 refine call_function_entry_kw kind_sorted plain_sorted entry_sorted (ksk_s1 _ _) ?_
 unfold Builtin.«sorted»
 refine wpAny_bind (m:=checkCount "sorted" 1 1 _) (wpAny_pure ?_)
 refine wpAny_bind (collect_list hl ?_ (by rw [sizeLine_eq];omega))
 refine wpAny_bind (wpAny_newList ?_ (by rw [sizeLine_eq];omega))
 generalize hg:(s.heap.push (seqObj "list" #[] 0)).update s.heap.objs.size (Obj.mapSeq (·++vs.toArray))=g
 have hsz:g.objs.size=s.heap.objs.size+1:=by rw [<- hg,Heap.size_update,size_push']
 have kg:∀ b o,s.heap.get? b=some o->(g.push (seqObj "list" vs.toArray 0)).get? b=some o:=fun b o q=>by
  have hlt:b < s.heap.objs.size:=Heap.lt_size q
  rw [Heap.get?_push_ne _ _ _ (by rw [hsz];exact Nat.ne_of_lt (Nat.lt_succ_of_lt hlt)),<- hg,Heap.get?_update_ne _ _ _ _ (Nat.ne_of_lt hlt),Heap.get?_push_ne _ _ _ (Nat.ne_of_lt hlt)]
  exact q
 have hoL:(g.push (seqObj "list" vs.toArray 0)).get? (s.heap.objs.size+1)=some (seqObj "list" vs.toArray 0):=by rw [<- hsz];exact Heap.get?_push_size _ rfl
 show wpAny _ _ _ _ _ { s with heap:=g.push (seqObj "list" vs.toArray 0) }
 rw [hsz]
 refine wpAny_bind (wpAny_holding (wpAny_call_entry_kw slot_list_sort ⟨_,hoL,rfl⟩ entry_list_sort ?body (ksk_l1 _ _)))
 show wpAny (model prog w) A.in1.in1 (Builtin.«list.sort» ⟨[.ref (s.heap.objs.size+1)],[(Str.ofString "key",f)]⟩) _ _ _
 rw [ht]
 have hz2:s.heap.objs.size<=(g.push (seqObj "list" vs.toArray 0)).objs.size:=by rw [size_push',hsz];omega
 refine ZfO (s:={ s with heap:=g.push (seqObj "list" vs.toArray 0) }) hoL hlen h64 (turn (g.push (seqObj "list" vs.toArray 0)) s.toks kg hz2) fun h' tk out c k3 a3 o3=>⟨_,rfl,?_⟩
 exact wpAny_pure ⟨_,rfl,h h' tk out c (fun b o y=>k3 b o (Nat.ne_of_lt (Nat.lt_succ_of_lt (Heap.lt_size y))) (kg b o y)) a3 o3⟩
end
def UV (base:Heap)(mg:Str->Option Value):Prop:=∃ bm ob,mg "__builtins__"=some (.ref bm)/\bm≠builtinsNs/\base.get? bm=some ob/\ob.cls=.type "module"/\ob.dict=some builtinsNs/\ob.data=.plain
def ZfU (ts:List Addr)(H:Hp):Prop:=∀ b,H b=none\/(∃ o xs,H b=some (.frz o (.lst xs)))\/(H b=some (.tbl #[])/\b∈ts)
theorem Zhp {P:Program}{w:World}{K:KF}{mg mb:Str->Option Value}{CX:Vo}{k:Nat}{fa a:Addr}{fd:FuncData}{x:Str}{sp:Sp}{s₁:Shared}{vs:List Value}{ns:List Int}{ts:List Addr}
   (KX:K.In s₁.heap) (hns:s₁.heap.Ns mainGlobals mg) (hb:s₁.heap.Ns builtinsNs mb) (hbb:∀ x:Str,x≠"__name__"->mb x=bootBuiltins x) (hlim:s₁.heap.NoLimit) (hg:s₁.gens=#[]) (hbm:UV s₁.heap mg)
   (ha:s₁.heap.get? a=some { cls:=.type "list",data:=.seq vs.toArray }) (hi:IntsAre vs ns) (hl:ns.length<=sizeLine) (hr:Room k callerA)
   (hts:∀ b∈ts,s₁.heap.get? b=some (tabObj #[])/\K.lookup b=none/\∃ c,CodeHd s₁.heap c b)
   (F:∀ base:Heap,K.In base->base.Ns mainGlobals mg->UV base mg->FnOk P w K mg base CX k fa fd [x] sp) (hbind:∀ (s:Shared) (u:Value),BindsTo s fd ⟨[u],[]⟩ [(x,u)])
   (hsp:∀ H:Hp,ZfU ts H->SqL K H a (ns.map V.int)->(∀ b∈ts,H b=some (.tbl #[]))->sp [.ref a] H (fun v _=>v=.bl true) fun _ _ _=>False)
   (hCX:∀ H e s',CX [] H s₁ (fun _ _ _=>False) e s'->False) :
   codeAny (model P w) callerA (.call (.ref fa) ⟨[.ref a],[]⟩) (fun r s'=>r=.ok (.ret (.bool true))/\OldK s₁.heap s'.heap/\s'.os=s₁.os/\AllBare s'.gens) s₁:=by
 have rv:=Zcl hi
 have lenV:=hi.length
 have nta:a ∉ ts:=fun z=>by
   have e:=(hts a z).1
   rw [ha] at e;cases e
 have core : ∀ H:Hp,ZfU ts H->SqL K H a (ns.map V.int)->HOk P w H s₁.heap->(∀ b∈ts,H b=some (.tbl #[]))->(∀ b,H b≠none->b=a\/b∈ts)->(∀ b,H b≠none->K.lookup b=none) ->
     codeAny (model P w) callerA (.call (.ref fa) ⟨[.ref a],[]⟩) (fun r s'=>r=.ok (.ret (.bool true))/\OldK s₁.heap s'.heap/\s'.os=s₁.os/\AllBare s'.gens) s₁:=by
   intro H hO hS hok hT hA hK
   have base_of:∀ {b:Addr} {o:Obj},s₁.heap.get? b=some o->H b=none->(Uz s₁.heap H).get? b=some o:=fun y n=>Zjz y n
   have free:∀ {b:Addr} {o:Obj},s₁.heap.get? b=some o->(∀ its n,o.data≠.seq its n)->(∀ fs,o.data≠.fields fs)->H b=none:=fun {b o} y d1 d2=>by
     cases q:H b with
     | none=>rfl
     | some u =>
       rcases hA b (by rw [q];simp) with z | z
       · subst z
         rw [ha] at y;cases y
         exact absurd rfl (d1 _ _)
       · rw [(hts b z).1] at y;cases y
         exact absurd rfl (d2 _)
   have nsK:∀ {b:Addr} {m:Str->Option Value},s₁.heap.Ns b m->(Uz s₁.heap H).Ns b m:=fun {b m} ⟨o,es,ep,y,d,r⟩=>⟨o,es,ep,base_of y (free y (fun its n z=>by rw [d] at z;cases z) fun fs z=>by rw [d] at z;cases z),d,r⟩
   have hKb:K.In (Uz s₁.heap H):=fun b o y=>base_of (KX b o y) (by
     cases q:H b with
     | none=>rfl
     | some u=>rw [hK b (by rw [q];simp)] at y;cases y)
   have hBm:UV (Uz s₁.heap H) mg:=by
     obtain ⟨bm,ob,h1,h2,h3,h4,h5,h6⟩:=hbm
     exact ⟨bm,ob,h1,h2,base_of h3 (free h3 (fun its n z=>by rw [h6] at z;cases z) fun fs z=>by rw [h6] at z;cases z),h4,h5,h6⟩
   have hM:Mod K mg (Uz s₁.heap H):=⟨hKb,nsK hns,⟨mb,nsK hb,hbb⟩,let ⟨mc,h1,h2⟩:=hlim;⟨mc,nsK h1,h2⟩⟩
   have e0:Env0 P w K mg (Uz s₁.heap H) callerA [] s₁ H:=⟨rfl,hM,fun b o e=>ZkZ e,Nat.le_of_eq (Zhv _ _),trivial,fun b hb=>absurd (show b∈([]:List Addr) from hb) (by simp),hok,.of_eq hg⟩
   refine codeAny_mono ((F _ hKb (nsK hns) hBm).run callerA [] s₁ H ⟨[.ref a],[]⟩ [.ref a] [.ref a] _ _ hr e0 (hbind s₁ (.ref a)) (.cons rfl .nil) (hsp H hO hS hT)) fun r s' h=>?_
   cases r with
   | error e=>exact (hCX H e s' h).elim
   | ok fl =>
     cases fl with
     | next=>exact False.elim h
     | brk=>exact False.elim h
     | cont=>exact False.elim h
     | ret u =>
       obtain ⟨v,H',os,bare,un,hok',r',q⟩:=h
       have q':v=.bl true:=q
       subst q'
       obtain rfl:u=Value.bool true:=r'
       have key:∀ b o,s₁.heap.get? b=some o->s'.heap.get? b=some o\/(b∈ts/\∃ more:Array Value,s'.heap.get? b=some (tabObj (#[]++more))):=fun b o y=>by
         cases q:H b with
         | none=>exact .inl (un.keep b o y q (by intro z;exact absurd (show b∈([]:List Addr) from z) (by simp)) (by simp))
         | some u =>
           rcases hO b with z | ⟨ob,xs,z⟩ | ⟨z,zt⟩
           · rw [q] at z;cases z
           · have z2:=un.frzs b ob _ z
             obtain ⟨e1,_⟩:=hok b _ z
             obtain ⟨e2,_⟩:=hok' b _ z2
             rw [y] at e1;cases e1
             exact .inl e2
           · obtain ⟨more,z2⟩:=un.tbls b #[] z
             exact .inr ⟨zt,more,show s'.heap.get? b=some { cls:=.none,data:=.fields (#[]++more) } from hok' b _ z2⟩
       refine ⟨rfl,⟨fun b o y=>?_,fun b o y=>?_⟩,os,bare⟩
       · rcases key b o y with z | ⟨zt,more,z⟩
         · exact .inl z
         · obtain ⟨t1,_,c,t3⟩:=hts b zt
           rw [t1] at y;cases y
           exact .inr (.inl ⟨(t3.tab t1).isCodeTable,rfl,#[],more,rfl,z⟩)
       · rcases key b o y with z | ⟨zt,more,z⟩
         · exact ⟨_,z⟩
         · exact ⟨_,z⟩
 have okT:∀ (H:Hp) (b:Addr),b∈ts->ObjOk P w H s₁.heap b (.tbl #[]):=fun H b hb=>(hts b hb).1
 cases hk:K.lookup a with
 | some o =>
   have e:=KX a o hk
   rw [ha] at e
   cases e
   refine core (fun b=>if b∈ts then some (.tbl #[]) else none) (fun b=>?_) (.inr ⟨_,vs.toArray,_,hk,rfl,rfl,rfl,by rw [size_toArray,lenV];exact hl,by simpa using rv⟩) (fun b u z=>?_) (fun b hb=>if_pos hb) (fun b z=>?_) (fun b z=>?_)
   · by_cases hb:b∈ts
     · exact .inr (.inr ⟨if_pos hb,hb⟩)
     · exact .inl (if_neg hb)
   · by_cases hb:b∈ts
     · have z':=(if_pos hb).symm.trans z
       cases z'
       exact okT _ b hb
     · have z':=(if_neg hb).symm.trans z
       cases z'
   · by_cases hb:b∈ts
     · exact .inr hb
     · exact absurd (if_neg hb) z
   · by_cases hb:b∈ts
     · exact (hts b hb).2.1
     · exact absurd (if_neg hb) z
 | none =>
   refine core (fun b=>if b=a then some (.frz { cls:=.type "list",data:=.seq vs.toArray } (.lst (ns.map V.int))) else if b∈ts then some (.tbl #[]) else none) (fun b=>?_) (.inl (.inr ⟨{ cls:=.type "list",data:=.seq vs.toArray },if_pos rfl⟩)) (fun b u z=>?_)
     (fun b hb=>(if_neg (fun z:b=a=>nta (by rw [<- z];exact hb))).trans (if_pos hb)) (fun b z=>?_) (fun b z=>?_)
   · by_cases h1:b=a
     · exact .inr (.inl ⟨_,_,if_pos h1⟩)
     · by_cases hb:b∈ts
       · exact .inr (.inr ⟨(if_neg h1).trans (if_pos hb),hb⟩)
       · exact .inl ((if_neg h1).trans (if_neg hb))
   · by_cases h1:b=a
     · have z':=(if_pos h1).symm.trans z
       cases z'
       subst h1
       exact ⟨ha,by rw [length_map];exact hl,vs,_,rv,ha⟩
     · have z1:=(if_neg h1).symm.trans z
       by_cases hb:b∈ts
       · have z':=(if_pos hb).symm.trans z1
         cases z'
         exact okT _ b hb
       · have z':=(if_neg hb).symm.trans z1
         cases z'
   · by_cases h1:b=a
     · exact .inl h1
     · by_cases hb:b∈ts
       · exact .inr hb
       · exact absurd ((if_neg h1).trans (if_neg hb)) z
   · by_cases h1:b=a
     · rw [h1];exact hk
     · by_cases hb:b∈ts
       · exact (hts b hb).2.1
       · exact absurd ((if_neg h1).trans (if_neg hb)) z
theorem walk_ofT {l:PySem.W.OpenLaw}{n k:Nat}{q:Program}{loose:List Str}{XP:(Str->Option Value)->Heap->Prop}{YP:World->Heap->Prop}{d:DefRec}{K:Params->PySem.W.Frag}{CX:World->Vo}{sp:World->Sp}{x:Str}{ts:List Addr}
 (hn:l.most=some n) (hn2:n<=sizeLine) (hdf:d.params.defaults=[]) (hr:Room k callerA)
 (hY:∀ (w:World) (h:Heap),YP w h->(K w.params).In h/\∀ b∈ts,h.get? b=some (tabObj #[]))
 (hK:∀ (w:World) (b:Addr),b∈ts->(K w.params).lookup b=none/\∃ c,codeHdIn (K w.params) c b=true)
 (F:∀ (w:World) (mg:Str->Option Value) (fa:Addr) (h:Heap),(K w.params).In h->h.Ns mainGlobals mg->mg d.name=some (.ref fa) ->
  ∃ fd:FuncData,(∀ (s:Shared) (u:Value),BindsTo s fd ⟨[u],[]⟩ [(x,u)]) /\
   ∀ base:Heap,(K w.params).In base->base.Ns mainGlobals mg->UV base mg->FnOk l.prog w (K w.params) mg base (CX w) k fa fd [x] (sp w))
 (hsp:∀ (w:World) (H:Hp) (a:Addr) (ns:List Int),ns.length<=n->ZfU ts H->SqL (K w.params) H a (ns.map V.int)->(∀ b∈ts,H b=some (.tbl #[]))->sp w [.ref a] H (fun v _=>v=.bl true) fun _ _ _=>False)
 (hCX:∀ (w:World) (H:Hp) (s:Shared) (e:Value) (s':Shared),CX w [] H s (fun _ _ _=>False) e s'->False) :
 PySem.W.WalkO q loose XP YP l.row.toRowW d [] (fun f vs=>PySem.call f vs):=by
 refine Att.attach_call hn hdf fun w s₀ s₁ mg mb fa o pm cd doc a vs ns G Y ho hd hcd hmg hobj hints hlen hg=>?_
 obtain ⟨KX,hT⟩:=hY w _ Y
 obtain ⟨fd,hb,hF⟩:=F w mg fa _ KX G.T.g hmg
 exact Zhp (ts:=ts) KX G.T.g G.T.b G.T.builtins G.T.nolimit hg G.T.bmain hobj hints (Nat.le_trans hlen hn2) hr (fun b hb'=>⟨hT b hb',(hK w b hb').1,let ⟨c,hc⟩:=(hK w b hb').2;⟨c,codeHd_of_K KX hc⟩⟩) hF hb (fun H hO hS hTb=>hsp w H a ns hlen hO hS hTb) fun H e s'=>hCX w H s₁ e s'
abbrev VY (apos:Pos):Arguments:={ posonlyargs:=[],args:=[{ arg:="pair",annotation:=none,pos:=apos }],vararg:=none,kwonlyargs:=[],kw_defaults:=[],kwarg:=none,defaults:=[] }
abbrev US (p1 p2 p3:Pos):Expr:=.Subscript (.Name "pair" p1) (.Constant (.int 0) 0 p2) p3
abbrev Uh:Scope:={ kind:=.function,names:=[("pair",.local)],isGenerator:=false,isCoroutine:=false,more:=[] }
section
variable {prog:Program}{w:World}{A:Around}{E:ZB}{s:Shared}
theorem Ziv {q t:Addr}{qual:Str}{apos p1 p2 p3:Pos}{pm cdv ct k:Value}{its:Array Value}{Q:ZB}
 (ho:s.heap.get? q=some { cls:=.type "function",data:=.func (kla_fn "<lambda>" qual (VY apos) (US p1 p2 p3) Uh [] pm cdv ct) }) (hcd:s.heap.CodeRec cdv qual) (hlim:s.heap.NoLimit) (hroom:A.depth < recursionLimit)
 (ht:IsTup s.heap t its) (h0:its[0]?=some k)
 (hQ:∀ h' tk,(∀ b o,s.heap.get? b=some o->h'.get? b=some o)->s.heap.objs.size<=h'.objs.size->Q k { s with heap:=h',toks:=tk }) :
 wpAny (model prog w) A (call (.ref q) [.ref t]) Q E s:=by
 refine wpAny_call (kla_callFunE (body:=US p1 p2 p3) hroom ho rfl rfl rfl rfl hcd ?_)
 refine wpAny_of_eq (a:=[(Str.ofString "pair",Value.ref t)]) rfl ?_
 refine wpAny_newFunctionEnv_cells rfl (fun y hy=>?_) fun env he s₁ x=>⟨hlim.keeps x.toInCall.keep,kla_codeExpr ?_⟩
 ·rw [mem_singleton.mp hy];exact .inl rfl
 have hns:=x.toInCall.ns
 obtain ⟨h1,tk1,e1⟩:=x.toInCall.same
 have hkeep:=x.toInCall.keep
 have hfr:=x.toInCall.fresh
 have hL:=hns.lt
 have hkind:env.kindOf "pair"=some .local:=by rw [he];rfl
 have hm:(bindL env.kindOf [(Str.ofString "pair",Value.ref t)] fun _=>none) "pair"=some (.ref t):=by
  rw [he];rfl
 have hsc:env.scope.kind=.function:=by rw [he];rfl
 clear x
 refine Subscript_ (wpAny_Name (wpAny_loadName_local hsc hkind hns hm (wpAny_Constant_int ?_)) (by decide))
 have ht1:IsTup s₁.heap t its:=by
  obtain ⟨o,e,r⟩:=ht
  exact ⟨o,hkeep _ _ e,r⟩
 have fin:Q k { s₁ with toks:=s₁.toks+1 }:=by
  subst e1
  exact hQ h1 (tk1+1) hkeep (Nat.le_of_lt (Nat.lt_of_le_of_lt hfr hL))
 have hsz:0 < its.size:=(Array.getElem?_eq_some_iff.mp h0).1
 have ht2:IsTup (Shared.heap { s₁ with toks:=s₁.toks+1 }) t its:=ht1
 exact subscriptTail_builtinR (x:=k) ht2.typeIs slot_tuple_getitem.lookup
  (getItem_tuple (j:=0) (Q:=fun r s'=>r=k/\(fun v s'=>(match (Except.ok (Flow.ret v):Result) with | .ok (.ret v)=>Q v s' | .ok _=>False | .error e=>E e s')) r s') ht2 (by decide) (by decide) (ZbG (n:=its.size) (i:=0) (j:=0) (by unfold WI;rw [if_pos (by decide),if_pos (by omega)];rfl)).1 h0 ⟨rfl,fin⟩) rfl
theorem ZaJ:∀{ts:List Addr}{us:List Value},Vals (ts.map V.ref) us->us=ts.map Value.ref
 | [],_,.nil=>rfl
 | t::ts,_,.cons r h=>by
  have e:=ZaJ h
  cases (show _=Value.ref t from r)
  rw [e];rfl
end
def ZfG (ks:List Str)(ts ts':List Addr):Prop:=∃ ps:List (Str×Addr),ps.Perm (ks.zip ts)/\ts'=ps.map (·.2)/\ps.Pairwise fun p q=>¬ (q.1.cps.toList < p.1.cps.toList)
def unR:Value->Addr
 | .ref a=>a
 | _=>0
theorem Zlc {ks:List Str}{ts:List Addr}{out:List Value}(h:ZaD ks (ts.map Value.ref) out):∃ ts',out=ts'.map Value.ref/\ZfG ks ts ts':=by
 obtain ⟨ps,hp,ho,hs⟩:=h
 have hmem:∀ p∈ps,p.2=Value.ref (unR p.2):=fun p hp'=>by
  have h1:=(of_mem_zip (show (p.1,p.2)∈_ from hp.mem_iff.mp hp')).2
  obtain ⟨t,_,e⟩:=mem_map.mp h1
  rw [<- e];rfl
 refine ⟨ps.map fun p=>unR p.2,?_,ps.map (fun p=>(p.1,unR p.2)),?_,?_,?_⟩
 ·rw [ho,map_map]
  exact map_congr_left hmem
 ·have h1:=hp.map fun p:Str×Value=>(p.1,unR p.2)
  have h2:(ks.zip (ts.map Value.ref)).map (fun p:Str×Value=>(p.1,unR p.2))=ks.zip ts:=by
   rw [List.zip_map_right,map_map]
   have:((fun p:Str×Value=>(p.1,unR p.2)) ∘ Prod.map id Value.ref)=(id:Str×Addr->Str×Addr):=by funext p;rfl
   rw [this,List.map_id]
  rwa [h2] at h1
 ·rw [map_map];rfl
 ·rw [pairwise_map];exact hs
def ZfB (c:Addr)(qual:Str):Heap->Prop:=fun h=>h.CodeRec (.ref c) qual
def LamAt (H:Hp)(Pl:Addr)(lpos:Pos)(qual:Str):Prop :=
 H Pl=some (.tbl #[])\/∃ c,H Pl=some (.tbl #[rawInt lpos.line,rawInt lpos.col,.ref c])/\H c=some (.ext (ZfB c qual))
theorem ZkB {P:Program}{w:World}{H:Hp}{h:Heap}{c:Addr}{qual:Str}(e:h.CodeRec (.ref c) qual):ObjOk P w H h c (.ext (ZfB c qual)):=by
 obtain ⟨c',o,vs,t,z,g,r⟩:=id e
 cases z
 refine ⟨e,⟨o,g⟩,fun h1 h2 p k=>?_⟩
 obtain ⟨c',o,vs,t,z,g,r⟩:=p
 cases z
 exact ⟨_,o,vs,t,rfl,k _ g,r⟩
def Grown (Pl:Addr)(H H':Hp):Prop:=∀ b o,b≠Pl->H b=some o->H' b=some o
section
variable {X:Cx}{pins:List (Addr×Obj)}{σ:List (Option V)}{H:Hp}{s:Shared}{h':Heap}
theorem Inv.table {t':Nat}{Pl c:Addr}{ps:Array Value}{qual:Str}{lpos:Pos}(I:Inv X pins σ H s)(hP:H Pl=some (.tbl ps))(k:∀ b o,b≠Pl->s.heap.get? b=some o->h'.get? b=some o)
 (hT:h'.get? Pl=some (tabObj (ps++#[rawInt lpos.line,rawInt lpos.col,.ref c]))) (hc:s.heap.objs.size<=c) (hr:h'.CodeRec (.ref c) qual) :
 Inv X pins σ (upd (upd H Pl (.tbl (ps++#[rawInt lpos.line,rawInt lpos.col,.ref c]))) c (.ext (ZfB c qual))) { s with heap:=h',toks:=t' }:=by
 have hcn:H c=none:=I.hok.fresh hc
 have hcP:c≠Pl:=fun z=>by rw [z,hP] at hcn;cases hcn
 have nP:∀ b,H b=none->b≠Pl:=fun b z e=>by rw [e,hP] at z;cases z
 have off:∀ b o,b≠Pl->H b=some o->upd (upd H Pl (.tbl (ps++#[rawInt lpos.line,rawInt lpos.col,.ref c]))) c (.ext (ZfB c qual)) b=some o:=fun b o h1 e=>by rw [Zi (Zs e hcn),Zi h1];exact e
 have nL:X.env.locals≠Pl:=nP _ I.free
 refine I.step (g':=s.gens) (d':=s.drawn) (ch:=[]) (fun _ z=>nomatch z) (fun b o _ _ _ e n=>k b o (nP b n) e) (fun b o _ _ _ e n=>⟨o.slots,k b o (nP b n) e⟩) (fun b o _ e n=>?_) (fun b o _ e=>?_)
  (fun b xs e=>off b _ (fun z=>by rw [z,hP] at e;cases e) e) (fun b o u e=>off b _ (fun z=>by rw [z,hP] at e;cases e) e) (fun b qs e=>?_) (fun m hm=>?_) (fun b u e=>?_) I.bare
 ·rw [Zi (fun z=>by rw [z] at e;exact absurd (Heap.lt_size e) (Nat.not_lt.mpr hc)),Zi (nP b n)];exact n
 ·by_cases hb:b=Pl
  ·exact ⟨_,by rw [hb];exact hT⟩
  ·exact ⟨o,k b o hb e⟩
 ·by_cases hb:b=Pl
  ·rw [hb,hP] at e
   cases e
   exact ⟨#[rawInt lpos.line,rawInt lpos.col,.ref c],by rw [hb,Zi hcP.symm,Zg]⟩
  ·exact ⟨#[],by rw [off b _ hb e];simp⟩
 ·obtain ⟨o,es,ep,ho,r⟩:=hm
  exact ⟨o,es,ep,k _ o nL ho,r⟩
 ·by_cases h1:b=c
  ·subst h1
   rw [Zg] at e
   cases e
   exact ZkB hr
  ·rw [Zi h1] at e
   by_cases h2:b=Pl
   ·subst h2
    rw [Zg] at e
    cases e
    exact hT
   ·rw [Zi h2] at e
    refine (I.hok b u e).stay (fun d v hd y=>k d v ?_ y) (fun d y=>off d _ (fun z=>by rw [z,hP] at y;cases y) y) fun d xs y=>off d _ (fun z=>by rw [z,hP] at y;cases y) y
    rcases hd with z | z
    ·rw [z];exact h2
    ·exact fun z2=>by rw [z2,hP] at z;cases z
theorem Zjq {A:Around}{E:ZB}{Q:ZB}{c Pl:Addr}{apos p1 p2 p3 lpos:Pos}(I:Inv X pins σ H s)(hcode:X.env.code=.ref c)(C:codeHdIn X.K c Pl=true)(hBm:UV X.base X.mg)(hL:LamAt H Pl lpos (X.env.qual++"<lambda>"))
 (h:∀ (q:Addr) (H':Hp) (s':Shared) (pm cdv ct:Value),Inv X pins σ H' s'->Grown Pl H H'->LamAt H' Pl lpos (X.env.qual++"<lambda>")->s'.heap.get? q=some { cls:=.type "function",data:=.func (kla_fn "<lambda>" (X.env.qual++"<lambda>") (VY apos) (US p1 p2 p3) Uh [] pm cdv ct) } ->
  s'.heap.CodeRec cdv (X.env.qual++"<lambda>")->Q (.ref q) s') :
 wpAny (model X.prog X.w) A (eval (.Lambda (VY apos) (US p1 p2 p3) Uh lpos) X.env) Q E s:=by
 rw [arm_eval_Lambda]
 refine wpAny_bind (m:=evalAll []) (wpAny_evalAll_nil (wpAny_bind (wpAny_holding (m:=evalAllOpt []) (wpAny_of_eq (a:=[]) rfl ?_))))
 have hcl:closureFor Uh X.env=pure []:=rfl
 have hg:=I.mod.glob.keeps I.bk
 have CH:=codeHd_of_K I.kIn C
 have tab:∀ ps,H Pl=some (.tbl ps)->s.heap.get? Pl=some (tabObj ps):=fun ps e=>I.hok Pl _ e
 have bmAt:∀ ps,s.heap.get? Pl=some (tabObj ps)->s.heap.BuiltinsAt X.mg Pl/\mainGlobals≠Pl:=fun ps e=>by
  obtain ⟨bm,ob,b1,b2,b3,b4,b5,b6⟩:=hBm
  have b3':=I.bk _ _ b3
  have hmg:mainGlobals≠Pl:=fun z=>by
   obtain ⟨o,es,ep,y,hd,_⟩:=hg
   rw [z,e] at y;cases y;cases hd
  refine ⟨⟨bm,ob,b1,b2,fun z=>?_,(fun z=>by rw [z,e] at b3';cases b3';cases b4),b3',b4,b5,b6⟩,hmg⟩
  obtain ⟨o,es,ep,y,hd,_⟩:=hg
  rw [<- z,b3'] at y;cases y
  rw [b6] at hd;cases hd
 rcases hL with e | ⟨c',e,ec⟩
 ·have hP:=tab _ e
  obtain ⟨hb,hgP⟩:=bmAt _ hP
  refine kla_makeFunction (clos:=[]) hcl I.ok.glob hg hcode CH hP trivial rfl hgP hb fun c' ctv h' tk hx hge hlt hrec hT=>?_
  have I1:=I.table (t':=tk) (h':=h') (qual:=X.env.qual++"<lambda>") (lpos:=lpos) e (fun b o hb' y=>hx b o hb' y) hT hge hrec
  have hcn:H c'=none:=I.hok.fresh hge
  have hcP:c'≠Pl:=fun z=>by rw [z,e] at hcn;cases hcn
  refine h _ _ _ ((X.mg "__name__").getD .none) (.ref c') ctv (I1.kept (t':=tk) fun b o y=>Heap.get?_push_of_some _ y) (fun b o h1 y=>by rw [Zi (Zs y hcn),Zi h1];exact y) (.inr ⟨c',by rw [Zi hcP.symm,Zg];rfl,Zg⟩) (Heap.get?_push_size _ rfl) (hrec.push _)
 ·have hP:=tab _ e
  obtain ⟨hb,hgP⟩:=bmAt _ hP
  have hrec:s.heap.CodeRec (.ref c') (X.env.qual++"<lambda>"):=(I.hok c' _ ec).1
  refine kla_makeFunctionHit (clos:=[]) (cv:=.ref c') hcl I.ok.glob hg hcode CH hP trivial (by simp [codeAmong,rawInt]) hb fun ctv h' tk hk hz=>?_
  exact h _ _ _ ((X.mg "__name__").getD .none) (.ref c') ctv ((I.kept (h':=h') (t':=tk) hk).kept (t':=tk) fun b o y=>Heap.get?_push_of_some _ y) (fun b o _ y=>y) (.inr ⟨c',e,ec⟩) (Heap.get?_push_size _ rfl) ((hrec.keeps hk).push _)
end
def ZnJ (Pl:Addr)(lpos:Pos)(qual:Str)(te:TE):TE:=fun σ H Q=>te σ H fun x H1=>∃(l:Addr)(ts:List Addr)(ks:List Str),[x]=[.ref l]/\H1 l=some (.lst (ts.map V.ref))/\ts.length < 64/\ks.length=ts.length /\
 (∀ (i:Nat) (t:Addr) (k:Str),ts[i]?=some t->ks[i]?=some k->∃ vs,H1 t=some (.tup (.str k::vs)))/\LamAt H1 Pl lpos qual /\
 ∀ (H2:Hp) (r:Addr) (ts':List Addr),Grown Pl H1 H2->LamAt H2 Pl lpos qual->H2 r=none->ZfG ks ts ts'->Q (.ref r) (upd H2 r (.lst (ts'.map V.ref)))
section
variable {X:Cx}
theorem Zig {k:Nat}{e:Expr}{te:TE}{apos p1 p2 p3 lpos kpos p pos:Pos}{c Pl:Addr}(hg:Gl X "sorted")(hm:X.mg "sorted"=none)(he:PE X e te)(hr:Room k X.A)(hcode:X.env.code=.ref c)(C:codeHdIn X.K c Pl=true)(hBm:UV X.base X.mg)
 (hs:starEach [e] X.env=[(false,eval e X.env)]:=by rfl):PE X (.Call (.Name "sorted" p) [e] [⟨some "key",.Lambda (VY apos) (US p1 p2 p3) Uh lpos,kpos⟩] pos) (ZnJ Pl lpos (X.env.qual++"<lambda>") te):=by
 intro pins s σ H Q I h
 have ha:PA X [e] (XF te Wt):=Yy he Za hs
 refine wpAny_Call_Name_kw (WC I hg hm boot_sorted (callWith_kw ?_ (by rw [hs];rfl) (by rw [hs];rfl) rfl rfl))
 refine Zn (ha pos pins s σ H (fun xs H1=>∃ (l:Addr) (ts:List Addr) (ks:List Str),xs=[V.ref l]/\H1 l=some (.lst (ts.map V.ref))/\ts.length < 64/\ks.length=ts.length /\
  (∀ (i:Nat) (t:Addr) (k:Str),ts[i]?=some t->ks[i]?=some k->∃ vs,H1 t=some (.tup (.str k::vs)))/\LamAt H1 Pl lpos (X.env.qual++"<lambda>") /\
  ∀ (H2:Hp) (r:Addr) (ts':List Addr),Grown Pl H1 H2->LamAt H2 Pl lpos (X.env.qual++"<lambda>")->H2 r=none->ZfG ks ts ts'->Q (.ref r) (upd H2 r (.lst (ts'.map V.ref)))) I h) fun us s1 ⟨vs,H1,I1,r1,q1⟩=>?_
 obtain ⟨l,ts,ks,rfl,el,h64,hlen,htup,hL,q⟩:=q1
 obtain ⟨u,rfl,ru⟩:=Yx r1
 cases ru
 refine kws_cons (Zjq I1 hcode C hBm hL fun fq H2 s2 pm cdv ct I2 gr hL2 hfo hrec=>kws_nil ?_)
 have nl:l≠Pl:=fun z=>by
  rw [z] at el
  rcases hL with y | ⟨_,y,_⟩<;>(rw [el] at y;cases y)
 have el2:=gr l _ nl el
 obtain ⟨its,rv,pl,hz⟩:=I2.list (SqL.of el2)
 have hits:=ZaJ rv
 subst hits
 have tupAt:∀ (i:Nat) (t:Addr) (k:Str),ts[i]?=some t->ks[i]?=some k->∃ its':Array Value,IsTup s2.heap t its'/\∃ tk,its'[0]?=some (.str k tk):=fun i t k h1 h2=>by
  obtain ⟨vs,ev⟩:=htup i t k h1 h2
  have nt:t≠Pl:=fun z=>by
   rw [z] at ev
   rcases hL with y | ⟨_,y,_⟩<;>(rw [ev] at y;cases y)
  obtain ⟨_,itv,rv',pt⟩:=(show ObjOk X.prog X.w H2 s2.heap t (.tup (.str k::vs)) from I2.hok t _ (gr t _ nt ev))
  cases rv' with
  | cons r rr =>
   obtain ⟨tk,e⟩:=r
   exact ⟨_,pt,tk,by rw [e];rfl⟩
 refine ZkF (vs:=ts.map Value.ref) (ks:=ks) pl.isList (by rw [length_map];exact hlen) (by rw [length_map];exact h64) (fun x=>ksk_t1 fq x) (fun h1 tk1 k1 z1=>?_) fun h' tk out cc k3 a3 o3=>?_
 ·intro i v k hv hk h2 tk2 k2 z2 Q' hQ'
  rw [getElem?_map] at hv
  cases ht:ts[i]? with
  | none=>rw [ht] at hv;cases hv
  | some t =>
   rw [ht] at hv
   cases (show some (Value.ref t)=some v from hv)
   obtain ⟨its',pt,tk',e0⟩:=tupAt i t k ht hk
   have kp:∀ b o,s2.heap.get? b=some o->h2.get? b=some o:=fun b o y=>k2 b o (Nat.ne_of_lt (Nat.lt_succ_of_lt (Heap.lt_size y))) (k1 b o y)
   have pt2:IsTup h2 t its':=by
    obtain ⟨o,eo,r⟩:=pt
    exact ⟨o,kp _ _ eo,r⟩
   exact Ziv (s:={ s2 with heap:=h2,toks:=tk2 }) (kp _ _ hfo) (hrec.keeps kp) (I2.nolimit.keeps kp) (show X.A.depth < recursionLimit by have:=hr.dp;omega) pt2 e0 fun h3 tk3 k3 z3=>hQ' h3 tk3 tk' k3 z3
 ·obtain ⟨ts',hout,hT⟩:=Zlc o3
  have rv2:Vals (ts'.map V.ref) out.toList:=by
   rw [hout]
   clear hout hT o3
   induction ts' with
   | nil=>exact .nil
   | cons t r ih=>exact .cons rfl ih
  have hl2:(ts'.map V.ref).length<=sizeLine:=by
   obtain ⟨ps,hp,e,_⟩:=hT
   have:=hp.length_eq
   rw [List.length_zip] at this
   rw [length_map,e,length_map,this]
   exact ZbY (by omega)
  exact ⟨.ref _,_,I2.laid (t':=tk) k3 (Nat.le_succ _) (show ObjOk X.prog X.w _ h' _ (.lst (ts'.map V.ref)) from ⟨hl2,out.toList,cc,rv2,by rw [Array.toArray_toList];exact a3⟩),rfl,q H2 _ ts' gr hL2 (I2.hok.fresh (Nat.le_succ _)) hT⟩
end
theorem Zbm:typeLookup (.type "tuple") "keys"=pure none:=am_miss_of_fast (by decide +kernel)
section
variable {prog:Program}{w:World}{A:Around}{E:ZB}{s:Shared}
theorem Zgy {a:Addr}{xs:Array Value}{k:Nat}{sl:Array (Option Value)}{Q:Option Value->Shared->Prop}(hx:s.heap.get? a=some { cls:=.type "tuple",dict:=none,data:=.seq xs k,slots:=sl })(hA:A.handled=none)
 (h:∀ h' tk,(∀ b o,s.heap.get? b=some o->h'.get? b=some o)->Q none { s with heap:=h',toks:=tk }):wpAny (model prog w) A (getAttr? (.ref a) "keys") Q E s:=by
 obtain ⟨hp,g,d,tk,os⟩:=s
 have hT:∀ tk',(⟨hp,g,d,tk',os⟩:Shared).TypeIs (.ref a) "tuple":=fun _=>⟨_,hx,rfl⟩
 have f1:=sub_AttributeError
 have f3:=F.slot_tuple_getattribute.lookup
 have f4:=F.slot_tuple_getattribute.bind (.ref a)
 have f5:=am_tuple_getattr_none
 unfold getAttr? getAttrBy? getAttrBy
 repeat (any_goals first | assumption | exact hT _ | ((with_reducible show wpAny _ _ (call (Value.builtin "tuple.__getattribute__") _ _) _ _ _);refine call_meets F.slot_tuple_getattribute (hT _) am_entry_tuple_getattribute (F.args_tuple_getattribute_2 _ _) (meets_getattribute_miss_tuple a xs k sl "keys" _ Zbm (by decide) (by decide)) ⟨hx,hA,fun h' tk' e hx'=>?_⟩) | wp_step)
 obtain ⟨t',u',he⟩:=hx'.there
 show wpAny _ _ (getattributeRaised _ _ _ _ _ _ _) _ _ _
 unfold getattributeRaised
 repeat (any_goals first | assumption | wp_step)
 all_goals exact h _ _ hx'.keeps
theorem XN:entryFor table "dict.update.loop"=some Builtin.«dict.update.loop»:=entryFor_of_tree (by kernel_rfl)
theorem Yu:plainId "dict.update.loop"=true:=by decide +kernel
end
section
variable {prog:Program}{w:World}{A:Around}{R:Result->Shared->Prop}
def PairAt (prog:Program)(w:World)(h:Heap)(v:Value)(p:Zk×Value):Prop:=∃ tt key,v=.ref tt/\IsTup h tt #[key,p.2]/\(Zl prog w).is p.1 key=true
theorem PairAt.keep {h h':Heap}{v:Value}{p:Zk×Value}(x:PairAt prog w h v p)(k:∀ b o,h.get? b=some o->h'.get? b=some o):PairAt prog w h' v p:=by
 obtain ⟨tt,key,e,⟨o,eo,r⟩,z⟩:=x
 exact ⟨tt,key,e,⟨o,k _ _ eo,r⟩,z⟩
theorem PairAt.but {h h':Heap}{v:Value}{p:Zk×Value}{d:Addr}{o:Obj}(x:PairAt prog w h v p)(hd:h.get? d=some o)(hc:o.cls≠.type "tuple")(k:∀ b o,b≠d->h.get? b=some o->h'.get? b=some o):PairAt prog w h' v p:=by
 obtain ⟨tt,key,e,⟨ot,eo,c,r⟩,z⟩:=x
 refine ⟨tt,key,e,⟨ot,k _ _ (fun y=>?_) eo,c,r⟩,z⟩
 rw [y,hd] at eo
 cases eo
 exact hc c
theorem Zjc {d I t:Addr}{its:Array Value}(ps:List (Zk×Value))(hlen:ps.length=its.size)(hnd:(ps.map (·.1)).Nodup)(hsz:ps.length<=sizeLine)(hh:A.handled=none)(hIt:I≠t)(hId:I≠d) :
 ∀ (k i:Nat) (s:Shared) (n:Int) (tk:Tok),ps.length - i=k->i<=ps.length->s.heap.IsTupleIter I t i->s.heap.IsTuple t its->(∀ (j:Nat) (v:Value) (p:Zk×Value),its[j]?=some v->ps[j]?=some p->PairAt prog w s.heap v p)->s.heap.DictOf (Zl prog w) d (ps.take i) ->
 (∀ h' tk',(∀ b o,b≠I->b≠d->s.heap.get? b=some o->h'.get? b=some o)->h'.DictOf (Zl prog w) d ps->R (.ok (.ret .none)) { s with heap:=h',toks:=tk' }) ->
 codeAny (model prog w) A (.builtin "dict.update.loop" ⟨[.ref d,.ref I,.int n tk,.none],[]⟩) R s:=by
 have W:=Walks.tuple (prog:=prog) (w:=w) (A:=A.in1) hh I t hIt.symm its
 intro k
 induction k with
 | zero =>
  intro i s n tk hk hi hit htp hpr hd hR
  have hin:i=its.size:=by omega
  refine codeAny_builtin XN ?_
  rw [Around.under_plainId Yu _]
  show wpAny _ A.in1 (pyNext (.ref I) >>= _) _ _ s
  refine wpAny_bind (W.done s _ _ ⟨by rw [<- hin];exact hit,htp⟩ fun h' tk' kk=>?_)
  show wpAny _ _ (Builtin.Dict.addKeywords d [] >>= _) _ _ _
  refine wpAny_bind (wpAny_pure (wpAny_pure (hR h' tk' (fun b o h1 _ y=>kk b o (by simpa using h1) y) ?_)))
  rw [take_of_length_le (by omega)] at hd
  obtain ⟨o,es,ep,eo,r⟩:=hd
  exact ⟨o,es,ep,kk d o (by simpa using hId.symm) eo,r⟩
 | succ k ih =>
  intro i s n tk hk hi hit htp hpr hd hR
  have hlt:i < its.size:=by omega
  refine codeAny_builtin XN ?_
  rw [Around.under_plainId Yu _]
  show wpAny _ A.in1 (pyNext (.ref I) >>= _) _ _ s
  refine wpAny_bind (W.item i s _ _ hlt ⟨hit,htp⟩ fun v h1 tk1 hv st1 kk=>?_)
  obtain ⟨hit1,htp1⟩:=st1
  have hI0:∃ o,s.heap.get? I=some o/\o.cls≠.type "tuple":=by
   obtain ⟨o,eo,c,_⟩:=hit
   exact ⟨o,eo,by rw [c];decide⟩
  have hpr1:∀ (j:Nat) (v:Value) (p:Zk×Value),its[j]?=some v->ps[j]?=some p->PairAt prog w h1 v p:=fun j v p a b=>by
   obtain ⟨o,eo,c⟩:=hI0
   exact (hpr j v p a b).but eo c fun b o hb y=>kk b o (by simpa using hb) y
  obtain ⟨p,hp⟩:∃ p,ps[i]?=some p:=⟨_,getElem?_eq_getElem (by omega)⟩
  have hv':its[i]?=some v:=hv
  obtain ⟨tt,key,rfl,⟨ot,eo,oc,on,od⟩,hkey⟩:=hpr1 i v p hv' hp
  have hd1:h1.DictOf (Zl prog w) d (ps.take i):=by
   obtain ⟨o,es,ep,eo,r⟩:=hd
   exact ⟨o,es,ep,kk d o (by simpa using hId.symm) eo,r⟩
  have hT:Shared.TypeIs { s with heap:=h1,toks:=tk1 } (.ref tt) "tuple":=⟨ot,eo,oc⟩
  have hnew:stored (ps.take i) p.1 p.2=ps.take (i+1):=by
   have hni:p.1 ∉ (ps.take i).map (·.1):=fun z=>by
    have e1:(ps.map (·.1))=(ps.take i).map (·.1)++(ps.drop i).map (·.1):=by rw [<- map_append,List.take_append_drop]
    rw [e1,nodup_append] at hnd
    refine hnd.2.2 _ z _ (mem_map.mpr ⟨p,?_,rfl⟩) rfl
    exact mem_of_getElem? (i:=0) (by rw [List.getElem?_drop];simpa using hp)
   unfold stored
   rw [if_neg,take_add_one,hp]
   ·rfl
   ·intro z
    obtain ⟨q,hq,e⟩:=List.any_eq_true.mp z
    exact hni (mem_map.mpr ⟨q,hq,by simpa using e⟩)
  show wpAny _ A.in1 (holding [.ref tt] _ >>= _) _ _ _
  refine wpAny_bind (wpAny_holding ?_)
  refine wpAny_bind (wpAny_tryCatch ?_)
  unfold Builtin.Dict.pairItems
  refine wpAny_bind (wpAny_typeOf hT ?_)
  rw [if_pos (by decide)]
  refine wpAny_bind (wpAny_seqItems eo od (wpAny_pure ?_))
  show wpAny _ _ (holding [key,p.2] (dictSet d key p.2)) _ _ _
  refine wpAny_holding (wpAny_dictSet_pairs hkey hd1 (fun h2 hd2 hs2=>?_) (Nat.le_trans (by rw [length_take];omega) hsz))
  rw [hnew] at hd2
  refine wpAny_pure ⟨plainId_quiet Yu _,ih (i+1) _ (n+1) _ (by omega) (by omega) ?_ ?_ ?_ hd2 ?_⟩
  ·obtain ⟨o,eo',r⟩:=hit1
   exact ⟨o,(hs2.2 I hId).trans eo',r⟩
  ·obtain ⟨o,eo',r⟩:=htp1
   refine ⟨o,(hs2.2 t (fun z=>?_)).trans eo',r⟩
   obtain ⟨o',es,ep,eo2,c2,_⟩:=hd1
   rw [z,eo2] at eo'
   cases eo'
   rw [c2.1] at r
   exact absurd r.1 (by decide)
  ·intro j v p a b
   obtain ⟨o',es,ep,eo2,c2,_⟩:=hd1
   exact (hpr1 j v p a b).but eo2 (by rw [c2.1];decide) fun b o hb y=>(hs2.2 b hb).trans y
  ·intro h3 tk3 k3 hd3
   exact hR h3 tk3 (fun b o h4 h5 y=>k3 b o h4 h5 ((hs2.2 b h5).trans (kk b o (by simpa using h4) y))) hd3
end
section
variable {prog:Program}{w:World}{A:Around}{E:ZB}{s:Shared}
theorem ZcJ {t:Addr}{its:Array Value}{Q:ZB}(ps:List (Zk×Value))(ht:IsTup s.heap t its)(hnd0:∃ o,s.heap.get? t=some o/\o.dict=none)(hlen:ps.length=its.size)(hnd:(ps.map (·.1)).Nodup)(hsz:ps.length<=sizeLine)(hh:A.handled=none)
 (hpr:∀ (j:Nat) (v:Value) (p:Zk×Value),its[j]?=some v->ps[j]?=some p->PairAt prog w s.heap v p)
 (h:∀ h' tk',(∀ b o,s.heap.get? b=some o->h'.get? b=some o)->h'.DictOf (Zl prog w) s.heap.objs.size ps->Q (.ref s.heap.objs.size) { s with heap:=h',toks:=tk' }) :
 wpAny (model prog w) A (call (.type "dict") [.ref t]) Q E s:=by
 refine callType_codes (Q₁:=fun obj s₁=>obj=.ref s.heap.objs.size/\s₁={ s with heap:=s.heap.push { cls:=.type "dict",data:=.dict #[] } }) F.kt_called_dict (F.kt_typeCall_dict_1 _) F.entry_dict_init (kt_code_dict_new _ ⟨rfl,rfl⟩) ?_
 rintro obj s₁ ⟨rfl,rfl⟩
 have hnew:(s.heap.push { cls:=.type "dict",data:=.dict #[] }).DictOf (Zl prog w) s.heap.objs.size []:=Heap.DictOf.new s.heap
 have tlt:t < s.heap.objs.size:=by obtain ⟨o,eo,_⟩:=ht;exact Heap.lt_size eo
 obtain ⟨ot,eot,oct,on,odt⟩:=id ht
 obtain ⟨o2,eo2,hdict⟩:=hnd0
 rw [eot] at eo2
 cases eo2
 refine ⟨hnew.typeIs,F.args_dict_init_2 _ _,?_⟩
 unfold Builtin.«dict.__init__»
 refine wpAny_bind ?_
 unfold Builtin.Dict.selfAndRest
 refine wpAny_bind (wpAny_notOrdered_dict hnew.typeIs ?_)
 show wpAny _ _ (pure (s.heap.objs.size,[Value.ref t])) _ _ _
 refine wpAny_pure ?_
 show wpAny _ _ (Builtin.Dict.updateFrom "dict.__init__" s.heap.objs.size (.ref t) [] .none) _ _ _
 unfold Builtin.Dict.updateFrom
 have hT:Shared.TypeIs { s with heap:=s.heap.push { cls:=.type "dict",data:=.dict #[] } } (.ref t) "tuple":=⟨ot,Heap.get?_push_of_some _ eot,oct⟩
 refine wpAny_bind (wpAny_typeOf hT ?_)
 rw [if_pos (by decide)]
 obtain ⟨c0,d0,dt0,sl0⟩:=ot
 have e1:c0=.type "tuple":=oct
 have e2:d0=none:=hdict
 have e3:dt0=.seq its on:=odt
 subst e1 e2 e3
 refine wpAny_bind (Zgy (s:={ s with heap:=s.heap.push { cls:=.type "dict",data:=.dict #[] } }) (Heap.get?_push_of_some _ eot) hh fun h1 tk1 k1=>?_)
 rw [if_pos (show (none:Option Value).isNone=true from rfl)]
 have et1:=k1 _ _ (Heap.get?_push_of_some { cls:=.type "dict",data:=.dict #[] } eot)
 have hd1:h1.DictOf (Zl prog w) s.heap.objs.size []:=by
  obtain ⟨o,es,ep,eo,r⟩:=hnew
  exact ⟨o,es,ep,k1 _ _ eo,r⟩
 have dlt:s.heap.objs.size < h1.objs.size:=by obtain ⟨o,es,ep,eo,r⟩:=hd1;exact Heap.lt_size eo
 refine wpAny_bind (wpAny_rule (wpAny_bind (wpAny_pyIter_tuple (items:=its) ⟨_,et1,rfl,on,rfl⟩ ?_)))
 refine wpAny_pure ⟨plainId_quiet Yu _,Zjc (A:=A.in1) ps hlen hnd hsz hh (Nat.ne_of_gt (Heap.lt_size et1)) (Nat.ne_of_gt dlt) ps.length 0 _ 0 _ (by omega) (Nat.zero_le _) ⟨_,Heap.get?_push_size _ rfl,rfl,rfl⟩ ⟨_,Heap.get?_push_of_some _ et1,rfl,on,rfl⟩ ?_ ?_ ?_⟩
 ·intro j v p a b
  exact (hpr j v p a b).keep fun b o y=>Heap.get?_push_of_some _ (k1 _ _ (Heap.get?_push_of_some _ y))
 ·obtain ⟨o,es,ep,eo,r⟩:=hd1
  exact ⟨o,es,ep,Heap.get?_push_of_some _ eo,r⟩
 ·intro h' tk' k3 hd3
  refine ⟨rfl,h h' tk' (fun b o y=>?_) hd3⟩
  have y1:=k1 _ _ (Heap.get?_push_of_some { cls:=.type "dict",data:=.dict #[] } y)
  exact k3 b o (Nat.ne_of_lt (Heap.lt_size y1)) (Nat.ne_of_lt (Heap.lt_size y)) (Heap.get?_push_of_some _ y1)
end
section
variable {X:Cx}
theorem Uo (hc:X.calm=true):Yw X (.type "dict") (fun xs H Q=>∃ (t:Addr) (ts:List Addr) (kvs:ZH),xs=[.ref t]/\(∃ o,H t=some (.frz o (.tup (ts.map V.ref)))/\o.dict=none)/\ts.length=kvs.length/\kvs.length<=1000 /\
   (∀ (i:Nat) (a:Addr) (p:Str×V),ts[i]?=some a->kvs[i]?=some p->H a=some (.tup [.str p.1,p.2]))/\(kvs.map (·.1)).Nodup/\∀ d,H d=none->Q (.ref d) (upd H d (.dK (kvs.map fun p=>(Sum.inr p.1,p.2))))):=by
 intro pins s σ H xs us Q I r h
 obtain ⟨t,ts,kvs,rfl,⟨ot0,hq0,hdn⟩,hlen,hsz,hp,hnd,q⟩:=h
 have hq:SqT X.K H t (ts.map V.ref):=.inl (.inr ⟨ot0,hq0⟩)
 have eo0:=(I.hok t _ hq0).1
 obtain ⟨u,rfl,ru⟩:=Yx r
 cases ru
 obtain ⟨its,rv,pt,hz⟩:=I.tuple hq
 have hits:=ZaJ rv
 subst hits
 have build:∀ (kvs:ZH) (ts:List Addr),ts.length=kvs.length->(∀ (i:Nat) (a:Addr) (p:Str×V),ts[i]?=some a->kvs[i]?=some p->H a=some (.tup [.str p.1,p.2])) ->
     ∃ ps:List (Zk×Value),KV (kvs.map fun p=>((Sum.inr p.1:Zk),p.2)) ps/\ps.length=kvs.length/\ps.map (·.1)=kvs.map (fun p=>(Sum.inr p.1:Zk))/\∀ (j:Nat) (v:Value) (p:Zk×Value),(ts.map Value.ref)[j]?=some v->ps[j]?=some p->PairAt X.prog X.w s.heap v p:=by
   intro kvs
   induction kvs with
   | nil=>intro ts _ _;exact ⟨[],.nil,rfl,rfl,fun j v p _ e=>by simp at e⟩
   | cons kv r ih =>
     intro ts hl hh
     cases ts with
     | nil=>simp at hl
     | cons a ar =>
       obtain ⟨ps,k1,k2,k3,k4⟩:=ih ar (by simpa using hl) fun i b p e1 e2=>hh (i+1) b p (by simpa using e1) (by simpa using e2)
       obtain ⟨_,itv,rv',pa⟩:=(show ObjOk X.prog X.w H s.heap a (.tup [.str kv.1,kv.2]) from I.hok a _ (hh 0 a kv rfl rfl))
       cases rv' with
       | cons r1 rr =>
         cases rr with
         | cons r2 rr =>
           cases rr
           obtain ⟨tk,e⟩:=r1
           subst e
           rename_i u2
           refine ⟨(Sum.inr kv.1,u2)::ps,.cons ⟨rfl,r2⟩ k1,by rw [length_cons,length_cons,k2],by rw [map_cons,map_cons,k3],fun j v p e1 e2=>?_⟩
           cases j with
           | zero =>
             cases (show some (Value.ref a)=some v from e1)
             cases (show some ((Sum.inr kv.1:Zk),u2)=some p from e2)
             exact ⟨a,.str kv.1 tk,rfl,pa,UE _ _ _ _⟩
           | succ j=>exact k4 j v p (by simpa using e1) (by simpa using e2)
 obtain ⟨ps,k1,k2,k3,k4⟩:=build kvs ts hlen hp
 have hnd2:(ps.map (·.1)).Nodup:=by
   rw [k3]
   have:kvs.map (fun p=>(Sum.inr p.1:Zk))=(kvs.map (·.1)).map Sum.inr:=by rw [map_map];rfl
   rw [this]
   rw [List.Nodup,pairwise_map]
   exact hnd.imp fun h e=>h (by cases e;rfl)
 refine ZcJ ps pt ⟨ot0,eo0,hdn⟩ (by rw [k2,size_toArray,length_map,hlen]) hnd2 (by rw [k2];exact ZbY hsz) (I.ok.hd hc) (fun j v p e1 e2=>k4 j v p (by simpa using e1) e2) fun h' tk' kk hd=>?_
 have hbig:=I.big
 refine ⟨.ref s.heap.objs.size,_,I.laid (t':=tk') kk (Nat.le_refl _) (show ObjOk X.prog X.w _ h' _ (.dK (kvs.map fun p=>((Sum.inr p.1:Zk),p.2))) from ⟨by rw [length_map];exact ZbY hsz,?_,ps,k1,hd⟩),rfl,q _ (I.hok.fresh (Nat.le_refl _))⟩
 exact beq_eq_false_iff_ne.mpr (Nat.ne_of_gt hbig)
end
section
variable {X:Cx}{pins:List (Addr×Obj)}{σ:List (Option V)}{H H':Hp}{s:Shared}{h':Heap}
theorem Inv.many {t':Nat}(I:Inv X pins σ H s)(k:∀ b u,s.heap.get? b=some u->h'.get? b=some u)(ext:Same H H')(new:∀ b,b < s.heap.objs.size->H' b=H b)(hok:∀ b o,s.heap.objs.size<=b->H' b=some o->ObjOk X.prog X.w H' h' b o) :
 Inv X pins σ H' { s with heap:=h',toks:=t' }:=by
 refine I.step (g':=s.gens) (d':=s.drawn) (ch:=[]) (fun _ z=>nomatch z) (fun b o _ _ _ e _=>k b o e) (fun b o _ _ _ e _=>⟨o.slots,k b o e⟩) (fun b o _ e n=>by rw [new b (Heap.lt_size e)];exact n) (fun b o _ e=>⟨o,k b o e⟩)
  (fun b xs e=>ext b _ e) (fun b o u e=>ext b _ e) (fun b ps e=>⟨#[],by rw [ext b _ e];simp⟩) (fun m hm=>?_) (fun b u e=>?_) I.bare
 ·obtain ⟨o,es,ep,ho,r⟩:=hm
  exact ⟨o,es,ep,k _ o ho,r⟩
 ·by_cases hb:b < s.heap.objs.size
  ·rw [new b hb] at e
   exact (I.hok b u e).stay (fun c v _ y=>k c v y) (fun c y=>ext c _ y) fun c xs y=>ext c _ y
  ·exact hok b u (Nat.not_lt.mp hb) e
end
def ZaH (v d:Addr):Heap->Prop:=fun h=>h.IsItemsView v d
def Vb (H:Hp):List (Addr×Zk×V)->Hp
 | []=>H
 | (a,k,v)::r=>upd (Vb H r) a (.tup [kV k,v])
theorem Zao {H:Hp}{b:Addr}:∀{l:List (Addr×Zk×V)},b ∉ l.map (·.1)->Vb H l b=H b
 | [],_=>rfl
 | (a,k,v)::r,h=>by
  rw [map_cons,mem_cons,not_or] at h
  show upd (Vb H r) a _ b=_
  rw [Zi h.1];exact Zao h.2
theorem ZeH {H:Hp}{a:Addr}{k:Zk}{v:V}:∀{l:List (Addr×Zk×V)},(l.map (·.1)).Nodup->(a,k,v)∈l->Vb H l a=some (.tup [kV k,v])
 | (b,k',v')::r,hn,hm=>by
  rw [map_cons,nodup_cons] at hn
  show upd (Vb H r) b _ a=_
  rcases mem_cons.mp hm with e | hm
  ·cases e;exact Zg
  ·rw [Zi (fun z:a=b=>hn.1 (by show b∈_;rw [<- z];exact mem_map.mpr ⟨_,hm,rfl⟩))]
   exact ZeH hn.2 hm
theorem Zgq {kvs:ZK}{vs:List (Zk×Value)}(r:KV kvs vs):∀{j:Nat}{k:Zk}{x:Value},vs[j]?=some (k,x)->∃ v,kvs[j]?=some (k,v)/\RelV v x:=by
 induction r with
 | nil=>intro j k x e;simp at e
 | cons h t ih =>
  intro j k x e
  cases j with
  | zero =>
   cases (show some _=some (k,x) from e)
   rename_i a _ _
   refine ⟨a.2,?_,h.2⟩
   have e1:a.1=k:=h.1
   show some a=some (k,a.2)
   rw [<- e1]
  | succ j=>exact ih (by simpa using e)
section
variable {X:Cx}
theorem Zjp:MtR X "dict.items" (fun x xs H Q=>∃ d kvs,x=.ref d/\xs=[]/\H d=some (.dK kvs)/\∀ v,H v=none->Q (.ref v) (upd H v (.ext (ZaH v d)))):=by
 intro pins s σ H x xs v us Q I rx rv h
 obtain ⟨d,kvs,rfl,rfl,e,q⟩:=h
 cases rx
 cases rv
 obtain ⟨hz,lo,vs,kv,hd⟩:=WL I.hok e
 refine call_meetsIn PySem.F.slot_dict_items hd.typeIs PySem.F.entry_dict_items (PySem.F.args_dict_items_1 _) (meets_dict_items (Zl X.prog X.w) d lo) ⟨⟨vs,hd⟩,?_⟩
 refine ⟨.ref s.heap.objs.size,_,I.laid (t':=s.toks) (fun b o y=>Heap.get?_push_of_some _ y) (Nat.le_refl _) (show ObjOk X.prog X.w _ _ _ (.ext (ZaH s.heap.objs.size d)) from ⟨⟨_,Heap.get?_push_size _ rfl,rfl,rfl⟩,⟨_,Heap.get?_push_size _ rfl⟩,?_⟩),rfl,q _ (I.hok.fresh (Nat.le_refl _))⟩
 rintro h1 h2 ⟨o,eo,r⟩ k
 exact ⟨o,k _ eo,r⟩
theorem Zbj (hc:X.calm=true):Yw X (.type "list") (fun xs H Q=>∃ v d kvs,xs=[.ref v]/\H v=some (.ext (ZaH v d))/\H d=some (.dK kvs) /\
 ∀ (l:Addr) (ts:List Addr) (H2:Hp),H l=none->Same H H2->ts.length=kvs.length->(∀ a∈ts,H a=none)->(∀ (i:Nat) (a:Addr) (p:Zk×V),ts[i]?=some a->kvs[i]?=some p->H2 a=some (.tup [kV p.1,p.2]))->H2 l=some (.lst (ts.map V.ref))->Q (.ref l) H2):=by
 intro pins s σ H xs us Q I r h
 obtain ⟨v,d,kvs,rfl,ev,ed,q⟩:=h
 obtain ⟨u,rfl,ru⟩:=Yx r
 cases ru
 obtain ⟨hz,lo,vs,kv,o,es,ep,ho,r1,r2,r3,r4,r5⟩:=WL I.hok ed
 have hlen:vs.length=kvs.length:=(Paired.length kv).symm
 refine kdx_call (knd:=Zl X.prog X.w) (kvs:=vs) (ep:=ep) (I.ok.hd hc) (I.hok v _ ev).1 ⟨o,es,ho,r1,r2,r3,r4,r5⟩ (by rw [hlen];exact hz) fun h' tk acc c as hk hS hl hG hacc=>?_
 have hl2:as.length=kvs.length:=by rw [hl,hlen]
 have hnd:as.Nodup:=hG.rise.imp fun h=>Nat.ne_of_lt h
 generalize hL:as.zip (kvs.map fun p=>p)=L
 have hm1:L.map (·.1)=as:=by
  rw [<- hL,List.map_id']
  exact List.map_fst_zip (by omega)
 have at_j:∀ (j:Nat) (a:Addr) (p:Zk×V),as[j]?=some a->kvs[j]?=some p->(a,p.1,p.2)∈L:=fun j a p e1 e2=>by
  rw [<- hL,List.map_id']
  exact mem_of_getElem? (i:=j) (by rw [getElem?_zip_eq_some];exact ⟨e1,e2⟩)
 have above:∀ a∈as,s.heap.objs.size < a:=hG.above
 have hfr:∀ b,s.heap.objs.size<=b->H b=none:=fun b hb=>I.hok.fresh hb
 have hnl:s.heap.objs.size ∉ L.map (·.1):=fun z=>by rw [hm1] at z;exact absurd (above _ z) (Nat.lt_irrefl _)
 have offA:∀ b,b < s.heap.objs.size->b ∉ L.map (·.1):=fun b hb z=>by rw [hm1] at z;exact absurd (Nat.lt_trans (above _ z) hb) (Nat.lt_irrefl _)
 have key:∀ b,b < s.heap.objs.size->upd (Vb H L) s.heap.objs.size (.lst (as.map V.ref)) b=H b:=fun b hb=>by rw [Zi (Nat.ne_of_lt hb),Zao (offA b hb)]
 have sm:Same H (upd (Vb H L) s.heap.objs.size (.lst (as.map V.ref))):=fun b o e=>by rw [key b (I.hok.lt e)];exact e
 have tup_at:∀ (j:Nat) (a:Addr) (p:Zk×V),as[j]?=some a->kvs[j]?=some p->upd (Vb H L) s.heap.objs.size (.lst (as.map V.ref)) a=some (.tup [kV p.1,p.2]):=fun j a p e1 e2=>by
  rw [Zi (Nat.ne_of_gt (above a (mem_of_getElem? e1)))]
  exact ZeH (by rw [hm1];exact hnd) (at_j j a p e1 e2)
 have I2:Inv X pins σ (upd (Vb H L) s.heap.objs.size (.lst (as.map V.ref))) { s with heap:=h',toks:=tk }:=by
  refine I.many hk sm key fun b o hb e=>?_
  by_cases h0:b=s.heap.objs.size
  ·subst h0
   rw [Zg] at e
   cases e
   refine ⟨by rw [length_map,hl2];exact hz,acc.toList,c,?_,by rw [Array.toArray_toList];exact hS⟩
   rw [hacc]
   clear hacc hl hG hl2 hnd hL hm1 at_j above hnl offA key sm tup_at
   induction as with
   | nil=>exact .nil
   | cons a r ih=>exact .cons rfl ih
  ·rw [Zi h0] at e
   by_cases hm:b∈as
   ·obtain ⟨j,hj⟩:=List.mem_iff_getElem?.mp hm
    obtain ⟨keyv,kk,x,e1,e2,e3⟩:=hG.pairs j b hj
    obtain ⟨vv,e4,rel⟩:=Zgq kv e1
    have e5:=tup_at j b (kk,vv) hj e4
    rw [Zi h0,e] at e5
    cases e5
    refine ⟨by show 2<=sizeLine;decide,[keyv,x],.cons ?_ (.cons rel .nil),⟨_,e3,rfl,_,rfl⟩⟩
    rw [UX] at e2
    rcases ZT e2 with ⟨i,tt,rfl,rfl⟩ | ⟨y,tt,rfl,rfl⟩
    ·exact ⟨tt,rfl⟩
    ·exact ⟨tt,rfl⟩
   ·rw [Zao (by rw [hm1];exact hm),hfr b hb] at e
    cases e
 exact ⟨.ref s.heap.objs.size,_,I2,rfl,q _ as _ (hfr _ (Nat.le_refl _)) sm hl2 (fun a ha=>hfr a (Nat.le_of_lt (above a ha))) tup_at Zg⟩
def ZnZ:TE:=fun _ H Q=>∀ p o,H p=none->o.dict=none->Q (.ref p) (upd H p (.frz o (.tup [])))
theorem Zfc {x1:Nat}{pos:Pos}:PE X (.Tuple [] x1 pos) ZnZ:=by
 intro pins s σ H Q I hq
 refine wpAny_Tuple_spliced (Zn (Za pos pins s σ H (fun xs H1=>xs=[]/\H1=H) I ⟨rfl,rfl⟩) fun us s1 ⟨xs,H1,I1,r,e1,e2⟩=>?_)
 subst e1 e2
 cases r
 refine ⟨Nat.zero_le _,?_⟩
 have hf:H1 s1.heap.objs.size=none:=I1.hok.fresh (Nat.le_refl _)
 exact ⟨.ref s1.heap.objs.size,_,I1.laid (t':=s1.toks) (o:=.frz _ (.tup [])) (fun b u e=>Heap.get?_push_of_some _ e) (Nat.le_refl _) ⟨Heap.get?_push_size _ rfl,Nat.zero_le _,[],.nil,⟨_,Heap.get?_push_size _ rfl,rfl,_,rfl⟩⟩,rfl,hq _ _ hf rfl⟩
theorem Zak:Yw X (.type "tuple") (fun xs H Q=>∃ p ys,xs=[.ref p]/\SqL X.K H p ys/\∀ l o,H l=none->o.dict=none->Q (.ref l) (upd H l (.frz o (.tup ys)))):=by
 intro pins s σ H xs us Q I r h
 obtain ⟨p,ys,rfl,hq,q⟩:=h
 obtain ⟨u,rfl,rx⟩:=Yx r
 cases rx
 obtain ⟨its,r',pl,hz⟩:=I.list hq
 have hlen:=r'.length
 refine call_tuple_list pl.isList (fun h' kp=>?_) (by simp only [size_toArray]<;>omega)
 have I1:Inv X pins σ H { s with heap:=h' }:=I.kept (t':=s.toks) kp
 have hg:(h'.push { cls:=.type "tuple",data:=.seq its.toArray }).get? h'.objs.size=some { cls:=.type "tuple",data:=.seq its.toArray }:=Heap.get?_push_size _ rfl
 exact ⟨.ref h'.objs.size,_,I1.laid (t':=s.toks) (o:=.frz { cls:=.type "tuple",data:=.seq its.toArray } (.tup ys)) (fun b o e=>Heap.get?_push_of_some _ e) (Nat.le_refl _) ⟨hg,hz,its,r',⟨_,hg,rfl,_,rfl⟩⟩,rfl,q _ _ (I1.hok.fresh (Nat.le_refl _)) rfl⟩
end
structure FunC (K:KF)(x qual:Str)(st:Stmt)(f:Addr)(fd:FuncData)(c Pl:Addr):Prop where
 ex:∃ (oc:Value) (od:Option Addr) (kV doc pm:Value) (an:Option Addr) (ct:Value) (osl:Array (Option Value)),
  fd=PySem.W.fnOf x qual (VW st) (XX st) (Zj st) .none kV doc pm an (.ref c) ct/\K.lookup f=some ⟨oc,od,.func fd,osl⟩/\PySem.W.codeIn K (.ref c) qual=true
 kp:PySem.W.keepIn K (.ref f)=true
 hd:codeHdIn K c Pl=true
section
variable {P:Program}{w:World}{K:KF}{mg:Str->Option Value}{base:Heap}
theorem FunC.ok {x qual:Str}{st:Stmt}{f c Pl:Addr}{fd:FuncData}{N ps:List Str}{k:Nat}{sp:Sp}(F:FunC K x qual st f fd c Pl)(S:Zp N ps (Zj st))(len:∀ vs H Q E,sp vs H Q E->vs.length=ps.length)
 (hbody:∀ (A:Around) (outer:List Env) (s:Shared) (H:Hp) (vs:List V) (Q:VK) (E:XK),Room k (A.deeper (envOfC qual (Zj st) s.heap.objs.size f (.ref c)))->sp vs H Q E ->
  ∃ t,PSs (Zaw ZL P w K mg base N qual (Zj st) f (.ref c) A outer s H E).nox (XX st) t/\t { nx:=fun _ H'=>Q .non H',rt:=Q } (start N vs) H):FnOk P w K mg base ZL (k+1) f fd ps sp:=by
 obtain ⟨oc,od,kV,doc,pm,an,ct,osl,rfl,lk,hcd⟩:=F.ex
 refine Zkj lk hcd S len fun A outer s H vs Q E hr hsp=>?_
 obtain ⟨t,h,q⟩:=hbody A outer s H vs Q E hr hsp
 exact ⟨t,h.nox,q⟩
theorem FunC.fn {x qual:Str}{st:Stmt}{f c Pl:Addr}{fd:FuncData}(F:FunC K x qual st f fd c Pl):Fun K x qual st f fd:=by
 obtain ⟨oc,od,kV,doc,pm,an,ct,osl,e,lk,hcd⟩:=F.ex
 exact ⟨⟨oc,od,kV,doc,pm,an,.ref c,ct,osl,e,lk,hcd⟩,F.kp⟩
end
theorem Zfz {X:Cx}{st:Stmt}:PS X st (fun _ _ _=>False):=fun _ _ _ _ _ _ h=>h.elim
structure TF (H H':Hp):Prop where
 tup:∀ b xs,H b=some (.tup xs)->H' b=some (.tup xs)
 frz:∀ b o u,H b=some (.frz o u)->H' b=some (.frz o u)
theorem TF.trans {H H1 H2:Hp}(a:TF H H1)(b:TF H1 H2):TF H H2:=⟨fun x xs h=>b.tup x xs (a.tup x xs h),fun x o u h=>b.frz x o u (a.frz x o u h)⟩
theorem Same.tf {H H':Hp}(h:Same H H'):TF H H':=⟨fun b _ e=>h b _ e,fun b _ _ e=>h b _ e⟩
theorem Grown.tf {Pl:Addr}{H H':Hp}{ps:Array Value}(h:Grown Pl H H')(e:H Pl=some (.tbl ps)):TF H H' :=
 ⟨fun b _ y=>h b _ (fun z=>by rw [z,e] at y;cases y) y,fun b _ _ y=>h b _ (fun z=>by rw [z,e] at y;cases y) y⟩
theorem LamAt.tbl {H:Hp}{Pl:Addr}{lpos:Pos}{qual:Str}(h:LamAt H Pl lpos qual):∃ ps,H Pl=some (.tbl ps):=by
 rcases h with h | ⟨_,h,_⟩
 ·exact ⟨_,h⟩
 ·exact ⟨_,h⟩
theorem ZaL {H:Hp}{l:Addr}{xs:List V}{o:HO}(h:H l=some (.lst xs)):TF H (upd H l o) :=
 ⟨fun b _ y=>by rw [Zi (fun z=>by rw [z,h] at y;cases y)];exact y,fun b _ _ y=>by rw [Zi (fun z=>by rw [z,h] at y;cases y)];exact y⟩
theorem ZkU {H:Hp}{l:Addr}{xs:ZK}{o:HO}(h:H l=some (.dK xs)):TF H (upd H l o) :=
 ⟨fun b _ y=>by rw [Zi (fun z=>by rw [z,h] at y;cases y)];exact y,fun b _ _ y=>by rw [Zi (fun z=>by rw [z,h] at y;cases y)];exact y⟩
theorem SqT.tf {K:KF}{H H':Hp}{a:Addr}{xs:List V}(h:SqT K H a xs)(t:TF H H'):SqT K H' a xs:=by
 rcases h with (h | ⟨o,h⟩) | h
 ·exact .inl (.inl (t.tup _ _ h))
 ·exact .inl (.inr ⟨o,t.frz _ _ _ h⟩)
 ·exact .inr h
inductive Nd where
 | bare
 | leaf (m:Int) (ps:ZH)
 | fork (qs:List Nat)
def Nd.parts:Nd->List Nat
 | .fork qs=>qs
 | _=>[]
def Nd.pairs:Nd->List (Str×V)
 | .leaf _ ps=>ps
 | _=>[]
def Nd.hasM (n:Int):Nd->Bool
 | .leaf m _=>decide (m=n)
 | _=>false
def PairT (H:Hp)(ts:List Addr)(ps:ZH):Prop:=ts.length=ps.length/\∀(i:Nat)(a:Addr)(p:Str×V),ts[i]?=some a->ps[i]?=some p->H a=some (.tup [.str p.1,p.2])
def PairsAt (H:Hp)(t:Addr)(ps:ZH):Prop:=∃ o ts,H t=some (.frz o (.tup (ts.map V.ref)))/\o.dict=none/\PairT H ts ps
def NodeAt (K:KF)(H:Hp)(a:Addr):Nd->Prop
 | .bare=>SqT K H a [.str "bare"]
 | .leaf m ps=>∃ t,SqT K H a [.str "leaf",.int m,.ref t]/\PairsAt H t ps
 | .fork qs=>∃ t,SqT K H a [.str "fork",.ref t]/\SqT K H t (qs.map fun q:Nat=>V.int (q:Int))/\qs.length=4
theorem PairT.tf {H H':Hp}{ts:List Addr}{ps:ZH}(h:PairT H ts ps)(t:TF H H'):PairT H' ts ps:=⟨h.1,fun i a p e1 e2=>t.tup _ _ (h.2 i a p e1 e2)⟩
theorem PairsAt.tf {H H':Hp}{t:Addr}{ps:ZH}(h:PairsAt H t ps)(f:TF H H'):PairsAt H' t ps:=by
 obtain ⟨o,ts,e,d,p⟩:=h
 exact ⟨o,ts,f.frz _ _ _ e,d,p.tf f⟩
theorem NodeAt.tf {K:KF}{H H':Hp}{a:Addr}{n:Nd}(h:NodeAt K H a n)(f:TF H H'):NodeAt K H' a n:=by
 cases n with
 | bare=>exact SqT.tf h f
 | leaf m ps=>obtain ⟨t,e,p⟩:=h;exact ⟨t,e.tf f,p.tf f⟩
 | fork qs=>obtain ⟨t,e,p,l⟩:=h;exact ⟨t,e.tf f,p.tf f,l⟩
def XH (K:KF):Sp:=fun vs H Q _=>∃(a:Addr)(n:Nd),vs=[.ref a]/\NodeAt K H a n/\∀ t H',Same H H'->SqT K H' t (n.parts.map fun q:Nat=>V.int (q:Int))->Q (.ref t) H'
def XO (K:KF):Sp:=fun vs H Q _=>∃(a:Addr)(n:Nd),vs=[.ref a]/\NodeAt K H a n/\∀ t H',Same H H'->PairsAt H' t n.pairs->Q (.ref t) H'
def VQ (K:KF):Sp:=fun vs H Q _=>∃(a:Addr)(n:Nd)(m:Int),vs=[.ref a,.int m]/\NodeAt K H a n/\Q (.bl (n.hasM m)) H
def Ud (K:KF):Sp:=fun vs H Q _=>∃(l:Addr)(qs:List Nat),vs=[.ref l]/\H l=some (.lst (qs.map fun q:Nat=>V.int (q:Int)))/\qs.length=4/\∀ a H',Same H H'->NodeAt K H' a (.fork qs)->Q (.ref a) H'
end L2
namespace L2
open PySem
def YB:HO->Bool
 | .tup _=>false
 | .frz _ _=>false
 | .own _=>false
 | .met _ _=>false
 | .rng _ _=>false
 | .ext _=>false
 | _=>true
def Uu (H h:Hp):Hp:=fun b=>match h b with
 | some o=>if YB o=true then none else H b
 | none=>H b
def one (p:Addr)(o:HO):Hp:=fun b=>if b=p then some o else none
theorem one_some {p b:Addr}{o u:HO}:one p o b=some u↔b=p/\o=u:=by
 unfold one
 by_cases h:b=p
 ·rw [if_pos h];exact ⟨fun z=>⟨h,Option.some.inj z⟩,fun z=>by rw [z.2]⟩
 ·rw [if_neg h];exact ⟨fun z=>(by cases z),fun z=>absurd z.1 h⟩
abbrev YH:=Addr->Hp->Prop
abbrev Rs:=List (Addr×YH)
def Sep:Rs->Hp->Prop
 | [],_=>True
 | (a,R)::Δ,H=>∃ h,Same h H/\R a h/\Sep Δ (Uu H h)
theorem cut_some {H h:Hp}{b:Addr}{o:HO}:Uu H h b=some o↔H b=some o/\∀ u,h b=some u->YB u=false:=by
 unfold Uu
 cases e:h b with
 | none=>exact ⟨fun z=>⟨z,fun u q=>by cases q⟩,fun z=>z.1⟩
 | some v =>
  cases m:YB v with
  | true=>show (if YB v=true then none else H b)=some o↔_;rw [if_pos m];exact ⟨fun z=>(by cases z),fun z=>(by have:=z.2 v rfl;rw [m] at this;cases this)⟩
  | false=>show (if YB v=true then none else H b)=some o↔_;rw [if_neg (by rw [m];decide)];exact ⟨fun z=>⟨z,fun u q=>(by cases q;exact m)⟩,fun z=>z.1⟩
theorem ZaZ {H h:Hp}:Same (Uu H h) H:=fun b o e=>(cut_some.mp e).1
theorem ZdX {H H' h:Hp}(s:Same H H'):Same (Uu H h) (Uu H' h):=fun b o e=>let ⟨x,y⟩:=cut_some.mp e;cut_some.mpr ⟨s _ _ x,y⟩
theorem Sep.mono:∀{Δ:Rs}{H H':Hp},Sep Δ H->Same H H'->Sep Δ H'
 | [],_,_,_,_=>trivial
 | (_,_)::_,_,_,⟨h,l,r,S⟩,s=>⟨h,l.trans s,r,S.mono (ZdX s)⟩
theorem Sep.swap {a b:Addr}{R T:YH}{Δ:Rs}{H:Hp}(S:Sep ((a,R)::(b,T)::Δ) H):Sep ((b,T)::(a,R)::Δ) H:=by
 obtain ⟨h,l,r,g,m,t,S⟩:=S
 refine ⟨g,m.trans ZaZ,t,h,fun c o e=>cut_some.mpr ⟨l _ _ e,fun u q=>?_⟩,r,S.mono fun c o e=>?_⟩
 ·obtain ⟨q1,q2⟩:=cut_some.mp (m _ _ q)
  have e2:=l _ _ e
  rw [q1] at e2;cases e2
  exact q2 _ e
 ·obtain ⟨e1,e2⟩:=cut_some.mp e
  obtain ⟨e3,e4⟩:=cut_some.mp e1
  exact cut_some.mpr ⟨cut_some.mpr ⟨e3,e2⟩,e4⟩
theorem Sep.tail {a:Addr}{R:YH}{Δ:Rs}{H:Hp}(S:Sep ((a,R)::Δ) H):Sep Δ H:=by
 obtain ⟨h,l,r,S⟩:=S
 exact S.mono ZaZ
class Pull (a:Addr) (Δ:Rs) (R:outParam YH) (Δ':outParam Rs):Prop where
 out:∀ {H},Sep Δ H->Sep ((a,R)::Δ') H
instance (priority:=1000) Pull.here {a:Addr} {R:YH} {Δ:Rs}:Pull a ((a,R)::Δ) R Δ:=⟨fun S=>S⟩
instance (priority:=900) Pull.there {a b:Addr} {R T:YH} {Δ Δ':Rs} [P:Pull a Δ R Δ']:Pull a ((b,T)::Δ) R ((b,T)::Δ') :=
 ⟨fun S=>by
  obtain ⟨h,l,r,S⟩:=S
  exact Sep.swap ⟨h,l,r,P.out S⟩⟩
theorem Sep.pull {Δ Δ':Rs}{H:Hp}{R:YH}(S:Sep Δ H)(a:Addr)[P:Pull a Δ R Δ']:Sep ((a,R)::Δ') H:=P.out S
theorem Sep.drop {Δ Δ':Rs}{H:Hp}{R:YH}(S:Sep Δ H)(a:Addr)[P:Pull a Δ R Δ']:Sep Δ' H:=(P.out S).tail
class Up (R:YH):Prop where
 up:∀ {a:Addr} {H H':Hp},R a H->Same H H'->R a H'
theorem Sep.get {Δ Δ':Rs}{H:Hp}{R:YH}(S:Sep Δ H)(a:Addr)[P:Pull a Δ R Δ'][U:Up R]:R a H:=by
 obtain ⟨h,l,r,_⟩:=P.out S
 exact U.up r l
def Pt (o:HO):YH:=fun a h=>h a=some o
abbrev ZD (xs:List V):YH:=Pt (.lst xs)
abbrev Dic (kv:ZK):YH:=Pt (.dK kv)
abbrev Tup (xs:List V):YH:=Pt (.tup xs)
instance {o:HO}:Up (Pt o):=⟨fun h s=>s _ _ h⟩
theorem Sep.new {Δ:Rs}{H:Hp}(S:Sep Δ H){p:Addr}(hp:H p=none)(o:HO):Sep ((p,Pt o)::Δ) (upd H p o):=by
 refine ⟨one p o,fun b u e=>?_,one_some.mpr ⟨rfl,rfl⟩,S.mono fun b u e=>?_⟩
 ·obtain ⟨rfl,rfl⟩:=one_some.mp e;exact Zg
 ·have hb:=Zs e hp
  exact cut_some.mpr ⟨by rw [Zi hb];exact e,fun v q=>absurd (one_some.mp q).1 hb⟩
theorem Sep.made {Δ:Rs}{H H':Hp}(S:Sep Δ H)(s:Same H H'){p:Addr}{o:HO}(hp:H p=none)(e:H' p=some o):Sep ((p,Pt o)::Δ) H':=by
 refine ⟨one p o,fun b u q=>?_,one_some.mpr ⟨rfl,rfl⟩,S.mono fun b u q=>?_⟩
 ·obtain ⟨rfl,rfl⟩:=one_some.mp q;exact e
 ·have hb:=Zs q hp
  exact cut_some.mpr ⟨s _ _ q,fun v q=>absurd (one_some.mp q).1 hb⟩
theorem Sep.put {Δ Δ':Rs}{H:Hp}{o:HO}(S:Sep Δ H)(a:Addr)(o':HO)[P:Pull a Δ (Pt o) Δ'](m:YB o=true:=by rfl):Sep ((a,Pt o')::Δ') (upd H a o'):=by
 obtain ⟨h,l,r,S⟩:=P.out S
 refine ⟨one a o',fun b u q=>?_,one_some.mpr ⟨rfl,rfl⟩,S.mono fun b u q=>?_⟩
 ·obtain ⟨rfl,rfl⟩:=one_some.mp q;exact Zg
 ·obtain ⟨q1,q2⟩:=cut_some.mp q
  have hb:b≠a:=fun z=>by
   have:=q2 o (by rw [z];exact r)
   rw [m] at this;cases this
  exact cut_some.mpr ⟨by rw [Zi hb];exact q1,fun v q=>absurd (one_some.mp q).1 hb⟩
theorem Sep.say {Δ Δ':Rs}{H:Hp}{R:YH}(S:Sep Δ H)(a:Addr)(T:YH)[P:Pull a Δ R Δ'](f:∀ h,R a h->T a h):Sep ((a,T)::Δ') H:=by
 obtain ⟨h,l,r,S⟩:=P.out S
 exact ⟨h,l,f h r,S⟩
theorem Sep.call {Δ:Rs}{H H':Hp}{a:Addr}{R T:YH}{L:List Addr}(S:Sep ((a,R)::Δ) H)(k:∀ b o,b ∉ L->H b=some o->H' b=some o)
 (f:∀ h,Same h H->R a h->(∀ b∈L,∃ o,h b=some o/\YB o=true)/\∃ h',Same h' H'/\T a h'/\∀ b o,h' b=some o->YB o=true->b∈L\/H b=none\/∃ u,h b=some u/\YB u=true):Sep ((a,T)::Δ) H':=by
 obtain ⟨h,l,r,S⟩:=S
 obtain ⟨f1,h',l',t,f2⟩:=f h l r
 refine ⟨h',l',t,S.mono fun b o e=>?_⟩
 obtain ⟨e1,e2⟩:=cut_some.mp e
 have hb:b ∉ L:=fun z=>by
  obtain ⟨u,q1,q2⟩:=f1 b z
  rw [e2 u q1] at q2;cases q2
 refine cut_some.mpr ⟨k b o hb e1,fun u q=>?_⟩
 cases m:YB u with
 | false=>rfl
 | true =>
  rcases f2 b u q m with z | z | ⟨v,z1,z2⟩
  ·exact absurd z hb
  ·rw [e1] at z;cases z
  ·rw [e2 v z1] at z2;cases z2
abbrev Bx (n:Nat):YH:=fun a h=>BoxAt h a n
instance {n:Nat}:Up (Bx n):=⟨fun h s=>h.same s⟩
theorem Sep.box {Δ:Rs}{H H':Hp}{p:Addr}{n m:Nat}(S:Sep ((p,Bx n)::Δ) H)(k:Kp p H H')(B:BoxAt H' p m):Sep ((p,Bx m)::Δ) H':=by
 refine S.call (L:=[p]) (fun b o nb e=>k b o (fun z=>nb (by simp [z])) e) fun h l r=>⟨fun b hb=>?_,?_⟩
 ·rw [mem_singleton.mp hb]
  obtain ⟨x,y,z,e,_⟩:=r
  exact ⟨_,e,rfl⟩
 ·obtain ⟨x,y,z,e,w⟩:=B
  refine ⟨one p (.lst [.int x,.int y,.int z]),fun b u q=>?_,⟨x,y,z,one_some.mpr ⟨rfl,rfl⟩,w⟩,fun b o q _=>.inl (by simp [(one_some.mp q).1])⟩
  obtain ⟨rfl,rfl⟩:=one_some.mp q;exact e
def Zfg (M:Int):Sp:=fun vs H Q _=>∃(p:Addr)(n:Nat)(m:Int)(Δ:Rs),vs=[.ref p,.int m]/\Sep ((p,Bx n)::Δ) H/\n<=1000000/\0 < m/\m < M/\∀(r:Int)(H':Hp),0<=r->r < m->Sep ((p,Bx (n+1))::Δ) H'->Q (.int r) H'
theorem Zmc {M:Int}{vs:List V}{H:Hp}{Q:VK}{E:XK}(h:Zfg M vs H Q E):Zbe M vs H Q E:=by
 obtain ⟨p,n,m,Δ,e,S,h1,h2,h3,q⟩:=h
 exact ⟨p,n,m,e,S.get p,h1,h2,h3,fun r H' a b B k=>q r H' a b (S.box k B)⟩
theorem ZfR {x:V}{u:Value}(h:Zfx u=some x):RelV x u:=by
 cases u<;>first | (cases h;exact rfl) | (cases h;exact ⟨_,rfl⟩) | cases h
theorem Zae:∀{xs:List V}{us:List Value},us.map Zfx=xs.map some->Vals xs us
 | [],[],_=>.nil
 | [],_::_,h=>by cases h
 | _::_,[],h=>by cases h
 | x::xs,u::us,h=>by
  rw [map_cons,map_cons,List.cons.injEq] at h
  exact .cons (ZfR h.1) (Zae h.2)
def ZcT (K:KF)(a:Addr)(vs:List V):Bool:=match K.lookup a with
 | some ⟨.type "tuple",_,.seq its _,_⟩=>decide (its.size<=100000)&&decide (its.toList.map Zfx=vs.map some)
 | _=>false
theorem Zec {K:KF}{a:Addr}{vs:List V}(h:ZcT K a vs=true)(H:Hp):SqT K H a vs:=by
 unfold ZcT at h
 split at h
 ·rename_i its n _ hk
  simp only [Bool.and_eq_true,decide_eq_true_eq] at h
  exact .inr ⟨_,its,n,hk,rfl,rfl,Nat.le_trans h.1 (by decide),Zae h.2⟩
 ·cases h
def Zbh (J:It)(tc:TT)(te:TE)(σ:St)(D:Addr)(Q:VK)(H1:Hp):Prop :=
 ∃ W : Nat->Nat->List V->Hp->Prop,(∃ m,W 0 m [] (upd H1 D (.lst [])))/\∀ i m ys H2,W i m ys H2 ->
  (J.stop i H2/\Q (.ref D) H2)\/(J.go i H2/\∃ (N:VK) (M:Hp->Prop),(∀ y H4,N y H4->H4 D=some (.lst ys)/\ys.length < sizeLine/\∃ m',m' < m/\W (i+1) m' (ys++[y]) (upd H4 D (.lst (ys++[y]))))/\(∀ H4,M H4->∃ m',m' < m/\W (i+1) m' ys H4) /\
   ∀ v H3,J.yld i H2 v H3->tc (σ++[some v]) H3 fun b H4=>if b=true then te (σ++[some v]) H4 N else M H4)
def ZgR (wi:TI)(tc:TT)(te:TE):TE:=fun σ H Q=>wi σ H fun J H1=>∀ D,H1 D=none->Zbh J tc te σ D Q H1
section
variable {X:Cx}{elt iter cnd:Expr}{x:Str}{px pos:Pos}{scope:Scope}{wi:TI}{te:TE}{tc:TT}
theorem Wa {prog:Program}{w:World}{A:Around}{R:Result->Shared->Prop}{s:Shared}{elt target iter cnd:Expr}{scope:Scope}{pos:Pos}{it acc:Value}{env:Env}(I:Nat->Shared->Prop)
   (turn : ∀ n s,I n s->wpAny (model prog w) A (pyNext it) (fun r s₁=>match r with
     | none=>R (.ok .next) s₁
     | some v=>wpAny (model prog w) A (letOwnedTupleGo target it v) (fun _ s1'=>wpAny (model prog w) A (assign target env v) (fun _ s₂=>wpAny (model prog w) A (isTrue cnd env (eval cnd env)) (fun ok s2'=>if ok=true then wpAny (model prog w) A (eval elt env) (fun x s₃ =>
         wpAny (model prog w) A (call (.builtin "list.append") [acc,x]) (fun _ s₄=>∃ m,m < n/\I m s₄) (fun _ _=>False) s₃)
         (fun _ _=>False) s2' else ∃ m,m < n/\I m s2') (fun _ _=>False) s₂) (fun _ _=>False) s1') (fun _ _=>False) s₁) (fun _ _=>False) s)
   (n:Nat) (h:I n s) :
   codeAny (model prog w) A (.compLoop (.ListComp elt [⟨target,iter,[cnd],0⟩] scope pos) 0 it acc env) R s:=by
 refine codeAny_loop rfl I (fun n s hI=>?_) n h
 show wpAny _ _ ((compTurn (.ListComp elt [⟨target,iter,[cnd],0⟩] scope pos) 0 it acc env).onRaise (fun x=>do noteFrame x env;theTreesLotGoes x)) _ _ s
 refine wpAny_noted ?_
 rw [compTurn_list]
 refine wpAny_bind (wpAny_standAt (wpAny_bind (wpAny_mono (turn n s hI) (fun r s₁ h₁=>?_) fun _ _ h'=>h'.elim)))
 cases r with
 | none=>exact wpAny_pure h₁
 | some v =>
   refine wpAny_bind (wpAny_mono h₁ (fun _ s1' h1'=>?_) fun _ _ h'=>h'.elim)
   refine wpAny_bind (wpAny_mono h1' (fun _ s₂ h₂=>wpAny_bind (wpAny_tests_one (wpAny_mono h₂ (fun ok s₃ h₃=>?_) fun _ _ h'=>h'.elim))) fun _ _ h'=>h'.elim)
   cases ok with
   | false=>exact wpAny_pure ⟨rfl,h₃⟩
   | true =>
     exact wpAny_bind (wpAny_bind (wpAny_mono h₃ (fun x s₄ h₄=>wpAny_bind (wpAny_mono h₄ (fun _ s₅ h₅=>wpAny_pure (wpAny_pure ⟨rfl,h₅⟩)) fun _ _ h'=>h'.elim)) fun _ _ h'=>h'.elim))
theorem Zah {pins:List (Addr×Obj)}{σ:St}{H2:Hp}{s₂:Shared}{J:It}{fp:List Addr}{it:Addr}{tn:Nat->Heap->Prop}{cl:List (Str×Addr)}{E:ZB}{Q:VK}{RR:Value->Addr->Result->Shared->Prop}
 (O:CompOk X scope x) (hc:X.calm=true) (cl1:∀ y c,cl.lookup y=some c->X.env.cells.lookup y=some c) (cl2:∀ y∈scope.names,y.2=.free->cl.lookup y.1≠none)
 (hcn:∀ cl C s₀ H₀ fp,PT (ZZ X scope x cl C s₀ H₀ fp) cnd tc) (he:∀ cl C s₀ H₀ fp,PE (ZZ X scope x cl C s₀ H₀ fp) elt te)
 (I2:Inv X pins σ H2 s₂) (T:Uj X.prog X.w X.K (.Name x px) J fp it tn) (st:tn 0 s₂.heap) (f2:∀ b∈fp,YD X pins H2 b)
 (h:∀ D,H2 D=none->Zbh J tc te σ D Q H2)
 (hRR:∀ D C H' s',Inv X pins σ H' s'->YD X pins H' C->(∃ m,s'.heap.Ns C m)->Q (.ref D) H'->RR (.ref D) C (.ok .next) s') :
 wpAny (model X.prog X.w) X.A (newList []) (fun acc s₃=>wpAny (model X.prog X.w) X.A (newFunctionEnv scope X.env.globals cl [] X.env.qual none .none (some X.env)) (fun cenv s₄ =>
  codeAny (model X.prog X.w) X.A (.compStart (.ListComp elt [⟨.Name x px,iter,[cnd],0⟩] scope pos) 0 (.ref it) acc { cenv with scope:=relabel scope X.env }) (RR acc cenv.locals) s₄) E s₃) E s₂:=by
 have hD:H2 s₂.heap.objs.size=none:=I2.hok.fresh (Nat.le_refl _)
 refine wpAny_newObj_type ?_
 have I3:Inv X pins σ (upd H2 s₂.heap.objs.size (.lst [])) { s₂ with heap:=s₂.heap.push { cls:=.type "list",data:=.seq ([]:List Value).toArray } } :=
  I2.laid (t':=s₂.toks) (fun b u e=>Heap.get?_push_of_some _ e) (Nat.le_refl _) ⟨Nat.zero_le _,[],_,.nil,Heap.get?_push_size _ rfl⟩
 have f3:∀ b∈fp,YD X pins (upd H2 s₂.heap.objs.size (.lst [])) b:=fun b hb=>by
  obtain ⟨g0,g1⟩:=f2 b hb
  obtain ⟨o,e,_⟩:=T.obj 0 _ st b hb
  exact ⟨by rw [Zi (Nat.ne_of_lt (Heap.lt_size e))];exact g0,g1⟩
 have st3:tn 0 (s₂.heap.push { cls:=.type "list",data:=.seq ([]:List Value).toArray }):=T.keep _ _ _ st fun b hb o e=>Heap.get?_push_of_some _ e
 obtain ⟨W,⟨m0,w0⟩,turn⟩:=h _ hD
 generalize hDe:s₂.heap.objs.size=D at I3 f3 w0 turn ⊢
 generalize hH3:upd H2 D (.lst [])=H3 at I3 f3 w0 turn ⊢
 generalize hs3:({ s₂ with heap:=s₂.heap.push { cls:=.type "list",data:=.seq ([]:List Value).toArray } }:Shared)=s₃ at I3
 have st3':tn 0 s₃.heap:=by rw [<- hs3];exact st3
 have hobj:∀ b∈fp,b < s₃.heap.objs.size:=fun b hb=>by
  obtain ⟨o,e,_⟩:=T.obj 0 _ st3' b hb
  exact Heap.lt_size e
 refine wpAny_newFunctionEnv O.cell (by intro y hy;simp at hy) (fun h₁ hns₁ hsb₁=>?_) O.kind
 have old:∀ b o,s₃.heap.get? b=some o->h₁.get? b=some o:=fun b o e=>hsb₁.extBut b o (Nat.ne_of_lt (Heap.lt_size e)) (Heap.get?_push_of_some _ e)
 generalize hs4:({ s₃ with heap:=h₁,toks:=s₃.toks+([]:List (Str×Value)).length }:Shared)=s₄
 have h4:s₄.heap=h₁:=by rw [<- hs4]
 have hX:∀ C,YD X pins C s₃.heap.objs.size->True:=fun _ _=>trivial
 have ok':(ZZ X scope x cl s₃.heap.objs.size s₃ H3 fp).Ok:=by
  refine ⟨I3.ok.mod,O.kind,I3.ok.glob,I3.ok.blt,Nat.le_refl _,?_,?_,?_,I3.ok.hd,I3.ok.frames,.inl rfl,?_,I3.bs,Nat.le_trans I3.ok.bsz I3.sz,?_,?_,I3.stack,I3.stkFree⟩
  ·exact fun y z c e1 e2=>I3.ok.inj y z c (cl1 y c e1) (cl1 z c e2)
  ·intro y hk
   have hf:scope.names.lookup y=some .free:=by
    rcases hk with hk | hk
    ·rcases ZC O.cell hk with q | q
     ·exact absurd rfl (O.cell _ (mem_of_lookup q))
     ·exact q.1
    ·rcases ZC O.cell hk with q | q
     ·exact q
     ·cases q.2
   have:=cl2 _ (mem_of_lookup hf) rfl
   cases e:cl.lookup y with
   | none=>exact absurd e this
   | some c=>exact ⟨c,e⟩
  ·intro y c hf;cases hf
  ·intro b hb
   obtain ⟨g0,g1,g2,g3,g4,g5⟩:=f3 b hb
   exact ⟨Nat.ne_of_lt (hobj b hb),fun y c e=>g4 y c (cl1 y c e)⟩
  ·intro b o e hb
   obtain ⟨g0,g1,g2,g3,g4,g5⟩:=f3 b hb
   rcases g3 with g3 | g3
   ·exact I3.ok.noex b o e g3
   ·exact absurd (Heap.lt_size e) (Nat.not_lt.mpr (Nat.le_trans I3.ok.bsz g3))
  ·intro b hb hs
   obtain ⟨g0,g1,g2,g3,g4,g5⟩:=f3 b hb
   rcases mem_cons.mp (I3.stkSub b hs) with e | e
   ·exact g1 e
   ·exact g2 e
 have I4 : Inv (ZZ X scope x cl s₃.heap.objs.size s₃ H3 fp) [] (σ++[none]) H3 s₄:=by
  obtain ⟨m,hm,hl⟩:=I3.loc
  refine ⟨ok',by rw [<- hs4];rfl,by rw [<- hs4];exact I3.bare,by rw [h4];exact Un.kept old,⟨_,by rw [h4];exact hns₁,?_⟩,?_,I3.hok.fresh (Nat.le_refl _),fun y c e=>I3.freeC y c (cl1 y c e),?_,by rw [h4];exact I3.hok.kept old,?_⟩
  ·intro i y v e1 e2 e3
   have hlt:i < σ.length:=by
    rcases Nat.lt_or_ge i σ.length with z | z
    ·exact z
    ·rw [getElem?_append_right z] at e2
     cases e:i - σ.length with
     | zero=>rw [e] at e2;simp at e2
     | succ k=>rw [e] at e2;simp at e2
   rw [getElem?_append_left hlt] at e2
   have hsm:∃ k,scope.names.lookup y=some k:=by
    rcases e3 with hk | hk | hk
    ·rcases ZC O.cell hk with q | q
     ·exact ⟨_,q⟩
     ·exact ⟨_,q.1⟩
    ·rcases ZC O.cell hk with q | q
     ·exact ⟨_,q⟩
     ·exact ⟨_,q.1⟩
    ·rcases ZC O.cell hk with q | q
     ·exact ⟨_,q⟩
     ·exact ⟨_,q.1⟩
   obtain ⟨e1',hyx⟩:X.N[i]?=some y/\y≠x:=by
    have e1:(Us X.N x++[x])[i]?=some y:=e1
    rw [getElem?_append_left (by rw [XV,<- I3.len];exact hlt)] at e1
    rcases VZ e1 with z | z
    ·exact z
    ·obtain ⟨k,hk⟩:=hsm
     rw [z,O.noh] at hk;cases hk
   have hy:y∈X.N:=mem_of_getElem? e1'
   have hf:scope.names.lookup y=some .free:=by
    rcases e3 with hk | hk | hk
    ·rcases ZC O.cell hk with q | q
     ·exact absurd q (O.own y hy hyx)
     ·exact q.1
    ·rcases ZC O.cell hk with q | q
     ·exact absurd rfl (O.cell _ (mem_of_lookup q))
     ·exact q.1
    ·rcases ZC O.cell hk with q | q
     ·exact q
     ·exact q.1
   have hk:=O.clos _ (mem_of_lookup hf) rfl
   have hv:Vis X.env.scope y:=by rcases hk with z | z;exact .inr (.inl z);exact .inr (.inr z)
   obtain ⟨u,ru,lu⟩:=hl i y v e1' e2 hv
   refine ⟨u,ru,?_⟩
   have hkc:(compEnvC scope cl s₃.heap.objs.size X.env).kindOf y=some .cell\/(compEnvC scope cl s₃.heap.objs.size X.env).kindOf y=some .free:=by
    rcases e3 with q | q | q
    ·rcases ZC O.cell q with z | z
     ·exact absurd z (O.own y hy hyx)
     ·cases z.2
    ·exact .inl q
    ·exact .inr q
   rcases lu with ⟨q,_⟩ | ⟨_,c,hcl,hcc⟩
   ·rcases hk with z | z<;>(rw [q] at z;cases z)
   ·refine .inr ⟨hkc,?_⟩
    cases e:cl.lookup y with
    | none=>exact absurd e (cl2 _ (mem_of_lookup hf) rfl)
    | some c' =>
     have:=cl1 y c' e
     rw [hcl] at this
     cases this
     refine ⟨c,e,?_⟩
     rw [h4]
     obtain ⟨oc,ho,hd⟩:=hcc
     exact ⟨oc,old _ _ ho,hd⟩
  ·intro y c e
   obtain ⟨v,oc,ho,hd⟩:=I3.cell y c (cl1 y c e)
   exact ⟨v,oc,by rw [h4];exact old _ _ ho,hd⟩
  ·intro p hp;cases hp
  ·show (σ++[none]).length=(Us X.N x++[x]).length
   rw [length_append,length_append,XV,I3.len];rfl
 have st4:tn 0 s₄.heap:=by rw [h4];exact T.keep _ _ _ st3' fun b hb o e=>old b o e
 have fpok:∀ {H':Hp},(∀ b∈fp,H' b=none)->∀ b∈fp,YD (ZZ X scope x cl s₃.heap.objs.size s₃ H3 fp) [] H' b:=fun hn b hb=>by
  obtain ⟨g0,g1,g2,g3,g4,g5⟩:=f3 b hb
  refine ⟨hn b hb,Nat.ne_of_lt (hobj b hb),ok'.exfs b hb,.inl hb,fun y c e=>g4 y c (cl1 y c e),?_⟩
  intro p hp;cases hp
 have loop:codeAny (model X.prog X.w) X.A (.compLoop (.ListComp elt [⟨.Name x px,iter,[cnd],0⟩] scope pos) 0 (.ref it) (.ref D) (compEnvC scope cl s₃.heap.objs.size X.env)) (RR (.ref D) s₃.heap.objs.size) s₄:=by
  refine Wa (fun n s'=>∃ i ys w' H',Inv (ZZ X scope x cl s₃.heap.objs.size s₃ H3 fp) [] (σ++[w']) H' s'/\tn i s'.heap/\(∀ b∈fp,H' b=none)/\W i n ys H') ?_ m0 ⟨0,[],none,H3,I4,st4,fun b hb=>(f3 b hb).1,w0⟩
  rintro n s5 ⟨i,ys,w',H5,I5,st5,fr5,w5⟩
  rcases turn i n ys H5 w5 with ⟨stop,q⟩ | ⟨go,N,M,hN,hM,step⟩
  ·refine Zn (T.done (ZZ X scope x cl s₃.heap.objs.size s₃ H3 fp) rfl rfl rfl hc i [] s5 _ H5 _ I5 (fpok fr5) st5 stop) fun r s6 ⟨hr,I6⟩=>?_
   subst hr
   obtain ⟨m6,hn6,_⟩:=I6.loc
   have IX:Inv X pins σ H5 s6:=I3.call' (ch:=fp) I6.os I6.base I6.hok I6.bare fun b hb=>by
    obtain ⟨g0,g1,g2,g3,g4,g5⟩:=f3 b hb
    exact ⟨g3,g1,g4,g5⟩
   exact hRR D _ H5 s6 IX (I3.fpOk (Nat.le_refl _) I6.free) ⟨m6,hn6⟩ q
  ·refine Zn (T.item (ZZ X scope x cl s₃.heap.objs.size s₃ H3 fp) rfl rfl rfl hc i [] s5 _ H5 _ I5 (fpok fr5) st5 go) fun r s6 ⟨u,hr,h6⟩=>?_
   subst hr
   refine Zn h6 fun _ s7 ⟨v,H7,I7,r7,y7,st7,fr7⟩=>?_
   have I7':=I7.pinned (fpok fr7) (T.obj _ _ st7)
   have hixN:(ZZ X scope x cl s₃.heap.objs.size s₃ H3 fp).N[σ.length]?=some x:=by
    show (Us X.N x++[x])[σ.length]?=some x
    rw [I3.len,<- XV X.N x];simp
   refine Zn (ZN (X:=ZZ X scope x cl s₃.heap.objs.size s₃ H3 fp) (pos:=px) O.nd hixN (.inl (lookup_relabel_local O.loc)) (.inr (lookup_relabel_local O.loc)) _ s7 _ H7 v u (fun σ' H'=>σ'=σ++[some v]/\H'=H7) I7' r7 ⟨by simp,rfl⟩) fun _ s8 ⟨σ8,H8,I8,e8,e8'⟩=>?_
   subst e8 e8'
   refine Zn (hcn cl s₃.heap.objs.size s₃ H3 fp _ s8 _ H8 _ I8 (step v H8 y7)) fun bb s8b ⟨H8b,I8b,q8b⟩=>?_
   cases bb with
   | false =>
    obtain ⟨m',hm',w9⟩:=hM H8b q8b
    refine ⟨m',hm',i+1,ys,some v,_,I8b.unpinned (pins:=[]),T.keep _ _ _ st7 fun b hb o e=>(I8b.pin (b,o) (mem_append_right _ (mem_append_right _ (Yt hb e)))).1,fun b hb=>?_,w9⟩
    obtain ⟨o,e,d⟩:=T.obj _ _ st7 b hb
    exact (I8b.pin (b,o) (mem_append_right _ (mem_append_right _ (Yt hb e)))).2.1
   | true =>
    refine Zn (he cl s₃.heap.objs.size s₃ H3 fp _ s8b _ H8b _ I8b q8b) fun uy s9 ⟨y,H9,I9,r9,n9⟩=>?_
    obtain ⟨hl9,hz9,m',hm',w9⟩:=hN y H9 n9
    refine Zn (Yr (X:=ZZ X scope x cl s₃.heap.objs.size s₃ H3 fp) _ s9 _ H9 (.ref D) [y] (.ref D) [uy] (fun v H'=>H'=upd H9 D (.lst (ys++[y]))) I9 rfl (.cons r9 .nil) ⟨D,ys,y,rfl,rfl,hl9,hz9,rfl⟩) fun _ s10 ⟨_,H10,I10,_,e10⟩=>?_
    subst e10
    refine ⟨m',hm',i+1,ys++[y],some v,_,I10.unpinned (pins:=[]),T.keep _ _ _ st7 fun b hb o e=>(I10.pin (b,o) (mem_append_right _ (mem_append_right _ (Yt hb e)))).1,fun b hb=>?_,w9⟩
    obtain ⟨o,e,d⟩:=T.obj _ _ st7 b hb
    exact (I10.pin (b,o) (mem_append_right _ (mem_append_right _ (Yt hb e)))).2.1
 exact codeAny_compStart_list loop (T.self _ 0 _ _ _ st4 loop)
theorem Zde (O:CompOk X scope x)(hc:X.calm=true)(hi:PI X (.Name x px) iter wi)(hcn:∀ cl C s₀ H₀ fp,PT (ZZ X scope x cl C s₀ H₀ fp) cnd tc)(he:∀ cl C s₀ H₀ fp,PE (ZZ X scope x cl C s₀ H₀ fp) elt te)
 (hs:∀ v,foldedSetIterable iter X.env v=pure v:=by intro _;rfl):PE X (.ListComp elt [⟨.Name x px,iter,[cnd],0⟩] scope pos) (ZgR wi tc te):=by
 intro pins s σ H Q I h
 obtain ⟨cl,hcl,cl1,cl2⟩:=Wf (scope:=scope) (env:=X.env) fun y hy hf=>I.ok.has _ (O.clos y hy hf)
 rw [eval_ListComp]
 refine wpAny_comprehension_free (use:=none) rfl hs hcl O.kind O.names (Zn (hi pins s σ H _ I h) fun v s1 h1=>Zn h1 fun itv s2 h2=>?_)
 obtain ⟨it,fp,tn,J,H2,e,I2,T,st2,f2,q⟩:=h2
 subst e
 refine Zah (RR:=fun acc C=>compPost (model X.prog X.w) X.A X.xe none (EP X pins σ Q) acc C) O hc cl1 cl2 hcn he I2 T st2 f2 q ?_
 intro D C H' s' I' ⟨g0,g1,g2,g3,g4,g5⟩ ⟨m,hm⟩ hq
 exact ⟨m,hm,fun h' hs'=>⟨.ref D,H',I'.turned (t':=s'.toks) (fun b o hb e=>(hs'.2 b hb).trans e) g0 g1 g3 g4 g5,rfl,hq⟩⟩
theorem Zag {i:Nat}{y:Str}{py spos:Pos}(O:CompOk X scope x)(hc:X.calm=true)(hN:X.N.Nodup)(hiN:X.N[i]?=some y)(hy:Loc X.env.scope y)(hi:PI X (.Name x px) iter wi)(hcn:∀ cl C s₀ H₀ fp,PT (ZZ X scope x cl C s₀ H₀ fp) cnd tc)(he:∀ cl C s₀ H₀ fp,PE (ZZ X scope x cl C s₀ H₀ fp) elt te)
 (hsw:swapsWith (.ListComp elt [⟨.Name x px,iter,[cnd],0⟩] scope pos) (some (.Name y py)) spos.line X.env=pure true) (hf:X.fn y=true\/X.env.scope.names.lookup y=some .local:=by first | exact .inl rfl | exact .inr rfl | assumption)
 (hs:∀ v,foldedSetIterable iter X.env v=pure v:=by intro _;rfl):PS X (.Assign [.Name y py] (.ListComp elt [⟨.Name x px,iter,[cnd],0⟩] scope pos) spos) (ZfT (ZgR wi tc te) (ZcV i)):=by
 intro pins s σ H D I h
 obtain ⟨cl,hcl,cl1,cl2⟩:=Wf (scope:=scope) (env:=X.env) fun y hy hf=>I.ok.has _ (O.clos y hy hf)
 rw [exec_Assign_Name_used _ _ _ _ hsw]
 refine wpAny_bind (wpAny_standAt (wpAny_bind ?_))
 show wpAny _ X.A (do let _ <- comprehension (.ListComp elt [⟨.Name x px,iter,[cnd],0⟩] scope pos) scope X.env _ (newList []) false (eval iter X.env) (some (assign (.Name y py) X.env))) _ _ s
 refine wpAny_bind (wpAny_mono (wpAny_comprehension_free (use:=some (assign (.Name y py) X.env)) (Q:=fun _ s'=>SP X pins D .next s') rfl hs hcl O.kind O.names
  (Zn (hi pins s σ H _ I h) fun v s1 h1=>Zn h1 fun itv s2 h2=>?_)) (fun _ s' hq=>wpAny_pure (wpAny_pure hq)) fun _ _ e=>e)
 obtain ⟨it,fp,tn,J,H2,e,I2,T,st2,f2,q⟩:=h2
 subst e
 refine Zah (RR:=fun acc C=>compPost (model X.prog X.w) X.A X.xe (some (assign (.Name y py) X.env)) (fun _ s'=>SP X pins D .next s') acc C) O hc cl1 cl2 hcn he I2 T st2 f2 q ?_
 intro Dl C H' s' I' ⟨g0,g1,g2,g3,g4,g5⟩ ⟨m,hm⟩ hq
 show wpAny _ X.A (assign (.Name y py) X.env (.ref Dl)) _ _ _
 refine wpAny_assign_Name (VN I' hN hiN hy (v:=.ref Dl) rfl (fun s'' I'' ⟨a,sb,ha⟩=>?_) hf)
 have haC:C≠a:=by
  rcases ha with z | z
  ·rw [z];exact g1
  ·exact fun z'=>g4 y a z z'.symm
 exact ⟨m,hm.sameBut sb haC,fun h' hs'=>⟨_,H',I''.turned (t':=s''.toks) (fun b o hb e=>(hs'.2 b hb).trans e) g0 g1 g3 g4 g5,hq⟩⟩
end
theorem Zgu {K:KF}{a:Addr}{xs:List V}{tc:TT}{te:TE}{σ:St}{D:Addr}{Q:VK}{H:Hp}(hn:xs.length<=sizeLine)(Pv:Nat->List V->Hp->Prop)(h0:Pv 0 [] (upd H D (.lst [])))
 (hl:∀ i ys H,Pv i ys H->ys.length<=i/\SqT K H a xs)
 (hs:∀ i x ys H,xs[i]?=some x->Pv i ys H->tc (σ++[some x]) H fun b H3=>if b=true then te (σ++[some x]) H3 fun y H4=>H4 D=some (.lst ys)/\Pv (i+1) (ys++[y]) (upd H4 D (.lst (ys++[y]))) else Pv (i+1) ys H3) (hd:∀ ys H,Pv xs.length ys H->Q (.ref D) H):Zbh (Itt K a) tc te σ D Q H:=by
 refine ⟨fun i m ys H=>m=xs.length - i/\i<=xs.length/\Pv i ys H,⟨xs.length,by simp,Nat.zero_le _,h0⟩,?_⟩
 rintro i m ys H2 ⟨rfl,hi,p⟩
 obtain ⟨hlen,q⟩:=hl i ys _ p
 by_cases hlt:i < xs.length
 ·refine .inr ⟨⟨xs,xs[i],q,by simp [hlt]⟩,_,_,fun y H4 (q:H4 D=some (.lst ys)/\Pv (i+1) (ys++[y]) (upd H4 D (.lst (ys++[y]))))=>⟨q.1,by omega,xs.length - (i+1),by omega,rfl,hlt,q.2⟩,fun H4 (q:Pv (i+1) ys H4)=>⟨xs.length - (i+1),by omega,rfl,hlt,q⟩,fun v H3 y=>?_⟩
  obtain ⟨e,y⟩:=y
  subst e
  exact hs i v ys _ (y xs q) p
 ·have e:i=xs.length:=by omega
  subst e
  exact .inl ⟨⟨xs,q,Nat.le_refl _⟩,hd ys H2 p⟩
theorem Zbf {K:KF}{a:Addr}{xs:List V}{tc:TT}{te:TE}{σ:St}{D:Addr}{Q:VK}{H:Hp}(hn:xs.length<=sizeLine)(Pv:Nat->List V->Hp->Prop)(h0:Pv 0 [] (upd H D (.lst [])))
 (hl:∀ i ys H,Pv i ys H->ys.length<=i/\SqL K H a xs)
 (hs:∀ i x ys H,xs[i]?=some x->Pv i ys H->tc (σ++[some x]) H fun b H3=>if b=true then te (σ++[some x]) H3 fun y H4=>H4 D=some (.lst ys)/\Pv (i+1) (ys++[y]) (upd H4 D (.lst (ys++[y]))) else Pv (i+1) ys H3) (hd:∀ ys H,Pv xs.length ys H->Q (.ref D) H):Zbh (Itl K a) tc te σ D Q H:=by
 refine ⟨fun i m ys H=>m=xs.length - i/\i<=xs.length/\Pv i ys H,⟨xs.length,by simp,Nat.zero_le _,h0⟩,?_⟩
 rintro i m ys H2 ⟨rfl,hi,p⟩
 obtain ⟨hlen,q⟩:=hl i ys _ p
 by_cases hlt:i < xs.length
 ·refine .inr ⟨⟨xs,xs[i],q,by simp [hlt]⟩,_,_,fun y H4 (q:H4 D=some (.lst ys)/\Pv (i+1) (ys++[y]) (upd H4 D (.lst (ys++[y]))))=>⟨q.1,by omega,xs.length - (i+1),by omega,rfl,hlt,q.2⟩,fun H4 (q:Pv (i+1) ys H4)=>⟨xs.length - (i+1),by omega,rfl,hlt,q⟩,fun v H3 y=>?_⟩
  obtain ⟨e,y⟩:=y
  subst e
  exact hs i v ys _ (y xs q) p
 ·have e:i=xs.length:=by omega
  subst e
  exact .inl ⟨⟨xs,q,Nat.le_refl _⟩,hd ys H2 p⟩
end L2
namespace L2
open PySem PySem.Spec PyProof.Rows
def UD (N:List Str)(xa xb:Str):List Str:=Us (Us N xa) xb
theorem Zdt (N:List Str)(xa xb:Str):(UD N xa xb).length=N.length:=by unfold UD;rw [XV,XV]
theorem ZiH {N:List Str}{xa xb y:Str}{i:Nat}(h:(UD N xa xb)[i]?=some y):(N[i]?=some y/\¬ (y=xa\/y=xb))\/y="":=by
 rcases VZ h with ⟨h1,h2⟩ | h1
 ·rcases VZ h1 with ⟨h3,h4⟩ | h3
  ·exact .inl ⟨h3,fun z=>z.elim h4 h2⟩
  ·exact .inr h3
 ·exact .inr h1
def YR (X:Cx)(scope:Scope)(xa xb:Str)(cl:List (Str×Addr))(C:Addr)(s₀:Shared)(H₀:Hp)(fp:List Addr):Cx:={ ZZ X scope xa cl C s₀ H₀ fp with N:=UD X.N xa xb++[xa,xb] }
structure CompOkT (X:Cx)(scope:Scope)(xa xb:Str):Prop where
 nd:(UD X.N xa xb++[xa,xb]).Nodup
 clos:∀ y∈scope.names,y.2=.free->X.env.kindOf y.1=some .cell\/X.env.kindOf y.1=some .free
 cell:∀ y∈scope.names,y.2≠.cell
 kind:scope.kind=.function
 names:∀ y∈scope.names,y.2=.local->scope.names.lookup y.1=some .local
 own:∀ y∈X.N,¬ (y=xa\/y=xb)->scope.names.lookup y≠some .local
 noh:scope.names.lookup ("":Str)=none
section
variable {X:Cx}{elt iter tg:Expr}{xa xb:Str}{pos:Pos}{scope:Scope}{wi:TI}{te:TE}{g:TG}
end
end L2
namespace L2
open PySem
structure Yz (mg:Str->Option Value):Prop where
 len:mg "len"=none
 abs:mg "abs"=none
 int:mg "int"=none
 range:mg "range"=none
 min:mg "min"=none
 max:mg "max"=none
 repr:mg "repr"=none
 enumerate:mg "enumerate"=none
 ord:mg "ord"=none
 list:mg "list"=none
 tuple:mg "tuple"=none
 dict:mg "dict"=none
 sorted:mg "sorted"=none
 sum:mg "sum"=none
 all:mg "all"=none
 any:mg "any"=none
 divmod:mg "divmod"=none
 str:mg "str"=none
 isinstance:mg "isinstance"=none
 set:mg "set"=none
 zip:mg "zip"=none
 reversed:mg "reversed"=none
 bool:mg "bool"=none
abbrev DTk (P:Program)(w:World)(K:KF)(mg:Str->Option Value)(base:Heap)(k:Nat):Prop:=Def P w K mg base k "_law_take" ["_law_box_here","_law_many"] (Zfg 4611686018427387904)
theorem FnOk.conv {P:Program}{w:World}{K:KF}{mg:Str->Option Value}{base:Heap}{k:Nat}{f:Addr}{fd:FuncData}{ps:List Str}{sp sp':Sp}(F:FnOk P w K mg base ZL k f fd ps sp)(h:∀ vs H Q E,sp' vs H Q E->sp vs H Q E):FnOk P w K mg base ZL k f fd ps sp' :=
 ⟨fun vs H Q E z=>F.len vs H Q E (h vs H Q E z),fun A outer s H args us vs Q E hr he hb hv z=>F.run A outer s H args us vs Q E hr he hb hv (h vs H Q E z)⟩
theorem Def.conv {P:Program}{w:World}{K:KF}{mg:Str->Option Value}{base:Heap}{k:Nat}{x:Str}{ps:List Str}{sp sp':Sp}(D:Def P w K mg base k x ps sp)(h:∀ vs H Q E,sp' vs H Q E->sp vs H Q E):Def P w K mg base k x ps sp' :=
 let ⟨f,fd,F,b,kp,m⟩:=D;⟨f,fd,F.conv h,b,kp,m⟩
theorem ZaN {α:Type}{xs:List α}{r:Int}{v:α}(h0:0<=r)(h:xs[r.toNat]?=some v):YY xs r=some v:=by
 have z:YY xs ((r.toNat:Nat):Int)=some v:=Zw h
 rwa [show ((r.toNat:Nat):Int)=r by omega] at z
theorem Yv {n m:Nat}(h:n<=m)(hm:m<=100000:=by decide):n<=sizeLine:=Nat.le_trans (Nat.le_trans h hm) (by decide)
theorem YX {n m:Nat}(h:n<=m)(hm:m<=100000:=by decide):n < sizeLine:=Nat.lt_of_le_of_lt (Nat.le_trans h hm) (by decide)
def DefM (P:Program)(w:World)(K:KF)(mg:Str->Option Value)(base:Heap)(k:Nat)(C:Addr)(m:Str)(ps:List Str)(sp:Sp):Prop:=∃ f fd,FnOk P w K mg base ZL k f fd ps sp/\Binds K fd ps []/\VE K C m f
theorem DefM.mono {P:Program}{w:World}{K:KF}{mg:Str->Option Value}{base:Heap}{j k:Nat}{C:Addr}{m:Str}{ps:List Str}{sp:Sp}(D:DefM P w K mg base j C m ps sp)(h:j<=k):DefM P w K mg base k C m ps sp :=
 let ⟨f,fd,F,b,q⟩:=D;⟨f,fd,F.mono h,b,q⟩
section
variable {X:Cx}{k:Nat}{C:Addr}{m:Str}{ps:List Str}{sp:Sp}{pos apos:Pos}{o e:Expr}{es:List Expr}{ta:TE}{t:TA}
theorem Ym {pl:Sem Bool}(D:DefM X.prog X.w X.K X.mg X.base k C m ps sp)(c:Cls X.K C)(hr:Room k X.A)(he:PE X o ta)(ha:PA X (e::es) t)
 (hst:starEach (e::es) X.env=(false,eval e X.env)::starEach es X.env:=by rfl) (hpl:(backTo pos (starEach es X.env)).any (·.1)=false:=by rfl)
 (ht:eval (.Call (.Attribute o m apos) (e::es) [] pos) X.env=(do
  let ov <- eval o X.env
  standAt apos.atName
  let (f,first) <- holding [ov] (getMethod ov m pl)
  callWith pos f first (backTo pos (starEach (e::es) X.env)) (backToKw pos (keywordEach [] X.env))):=by rfl) :
 PE X (.Call (.Attribute o m apos) (e::es) [] pos) (ZcP C m sp [] E0 ta t):=by
 obtain ⟨f,fd,F,b,q⟩:=D
 exact ZkW he c q F hr b .nil ZcW ha hst hpl ht
end
def Kq (S:List Addr)(H H':Hp):Prop:=∀ b o,b ∉ S->H b=some o->H' b=some o
theorem Kq.trans {S:List Addr}{H H1 H2:Hp}(a:Kq S H H1)(b:Kq S H1 H2):Kq S H H2:=fun x o n h=>b x o n (a x o n h)
theorem Kq.sub {S S':List Addr}{H H':Hp}(a:Kq S H H')(h:∀ b∈S,b∈S'):Kq S' H H':=fun x o n e=>a x o (fun z=>n (h x z)) e
theorem Same.kq {S:List Addr}{H H':Hp}(h:Same H H'):Kq S H H':=fun b o _ e=>h b o e
theorem ZaE {H:Hp}{a:Addr}{o:HO}:Kq [a] H (upd H a o):=fun b u n e=>by rw [Zi (fun z=>n (by simp [z]))];exact e
theorem tn:¬ (("nodes":Str)="tables"):=by decide +kernel
def Vw (ln dt:Addr):List (Str×V):=Xw "tables" (.ref dt) (Xw "nodes" (.ref ln) [])
theorem Xm (ln dt:Addr):(Vw ln dt).lookup ("nodes":Str)=some (.ref ln):=by unfold Vw;rw [Xg,if_neg tn,Xg,if_pos rfl]
theorem Zhw (ln dt:Addr):(Vw ln dt).lookup ("tables":Str)=some (.ref dt):=by unfold Vw;rw [Xg,if_pos rfl]
theorem ZkE (ln dt:Addr){m:Str}(h1:¬ m="tables")(h2:¬ m="nodes"):(Vw ln dt).lookup m=none:=by
 unfold Vw
 rw [Xg,if_neg h1,Xg,if_neg h2]
 rfl
theorem ZR (ln dt:Addr){m:Str}(h1:¬ m="tables":=by decide +kernel)(h2:¬ m="nodes":=by decide +kernel):(Vw ln dt).lookup m=none:=ZkE ln dt h1 h2
structure StoreAt (K:KF)(C st ln dt:Addr)(H:Hp)(nds:List Nd)(tabs:ZK):Prop where
 ob:∃ dx,H st=some (.ins C dx (Vw ln dt))
 nl:∃ as:List Addr,H ln=some (.lst (as.map V.ref))/\as.length=nds.length/\∀ (i:Nat) (a:Addr) (n:Nd),as[i]?=some a->nds[i]?=some n->NodeAt K H a n
 tb:H dt=some (.dK tabs)
theorem StoreAt.keep {K:KF}{C st ln dt:Addr}{H H':Hp}{nds:List Nd}{tabs:ZK}(S:StoreAt K C st ln dt H nds tabs)(h:Same H H'):StoreAt K C st ln dt H' nds tabs:=by
 obtain ⟨⟨dx,e⟩,⟨as,e2,l,hn⟩,e3⟩:=S
 exact ⟨⟨dx,h _ _ e⟩,⟨as,h _ _ e2,l,fun i a n x y=>(hn i a n x y).tf h.tf⟩,h _ _ e3⟩
theorem StoreAt.kq {K:KF}{C st ln dt:Addr}{H H':Hp}{nds:List Nd}{tabs:ZK}{L:List Addr}(S:StoreAt K C st ln dt H nds tabs)(k:Kq L H H')(t:TF H H')(h1:st ∉ L)(h2:ln ∉ L)(h3:dt ∉ L):StoreAt K C st ln dt H' nds tabs:=by
 obtain ⟨⟨dx,e⟩,⟨as,e2,l,hn⟩,e3⟩:=S
 exact ⟨⟨dx,k _ _ h1 e⟩,⟨as,k _ _ h2 e2,l,fun i a n x y=>(hn i a n x y).tf t⟩,k _ _ h3 e3⟩
theorem Grown.kq {Pl:Addr}{H H':Hp}(g:Grown Pl H H'):Kq [Pl] H H':=fun b o n e=>g b o (fun z=>n (by simp [z])) e
theorem LamAt.kq {H H':Hp}{Pl:Addr}{lpos:Pos}{q:Str}{L:List Addr}(h:LamAt H Pl lpos q)(k:Kq L H H')(hL:∀ b∈L,∃ xs,H b=some (.lst xs)):LamAt H' Pl lpos q:=by
 rcases h with h | ⟨c,h,h2⟩
 ·exact .inl (k _ _ (fun z=>by obtain ⟨_,e⟩:=hL _ z;rw [h] at e;cases e) h)
 ·exact .inr ⟨c,k _ _ (fun z=>by obtain ⟨_,e⟩:=hL _ z;rw [h] at e;cases e) h,k _ _ (fun z=>by obtain ⟨_,e⟩:=hL _ z;rw [h2] at e;cases e) h2⟩
theorem Zcc {α:Type}{xs:List α}{r:Int}(h0:0<=r)(h1:r < (xs.length:Int)):∃ v,YY xs r=some v/\v∈xs:=by
 have hk:r.toNat < xs.length:=by omega
 have z:YY xs ((r.toNat:Nat):Int)=some xs[r.toNat]:=Zw (getElem?_eq_getElem hk)
 have e:((r.toNat:Nat):Int)=r:=by omega
 rw [e] at z
 exact ⟨_,z,List.getElem_mem hk⟩
def Xa:V->Prop
 | .int i=>i.natAbs<=10 ^ 31
 | .str x=>x.length<=41/\x.cps.toList.all sgn=true
 | _=>False
def ZaV:V->Bool
 | .int i=>decide (i.natAbs<=10 ^ 31)
 | .str x=>decide (x.length<=41)&&x.cps.toList.all sgn
 | _=>false
theorem UZ {v:V}(h:ZaV v=true):Xa v:=by
 cases v with
 | int i=>exact of_decide_eq_true (p:=i.natAbs<=10 ^ 31) h
 | str x =>
  have h':(decide (x.length<=41)&&x.cps.toList.all sgn)=true:=h
  simp only [Bool.and_eq_true,decide_eq_true_eq] at h'
  exact h'
 | _=>cases h
def ZeK:Sp:=fun vs H Q _=>∃(p:Addr)(n:Nat),vs=[.ref p]/\BoxAt H p n/\n<=900000/\∀(v:V)(H':Hp),Xa v->BoxAt H' p (n+50)->Kp p H H'->Q v H'
def Zkh:List Stmt->Str
 | .Assign _ (.Constant (.str x) _ _) _::_=>x
 | _::r=>Zkh r
 | []=>Str.empty
def ZcY (N:List Str)(names:List (Str×NameKind))(scope:Scope)(xa xb:Str):Bool :=
 decide ((UD N xa xb++[xa,xb]).Nodup)&&scope.names.all (fun y=>(y.2 != .free || names.lookup y.1 == some .cell || names.lookup y.1 == some .free)&&(y.2 != .cell&&(y.2 != .local || scope.names.lookup y.1 == some .local))) &&
 (scope.kind == .function&&N.all fun y=>(y == xa || y == xb) || scope.names.lookup y != some .local)&&scope.names.lookup ("":Str) == none
theorem CompOkT.of {X:Cx}{scope:Scope}{xa xb:Str}(N:List Str)(st:Stmt)(hN:X.N=N)(hn:X.env.scope=Zj st)(chk:ZcY N (Zj st).names scope xa xb=true):CompOkT X scope xa xb:=by
 unfold ZcY at chk
 simp only [Bool.and_eq_true,decide_eq_true_eq,all_eq_true,Bool.or_eq_true,bne_iff_ne,beq_iff_eq] at chk
 obtain ⟨⟨⟨c1,c2⟩,c3,c5⟩,c6⟩:=chk
 refine ⟨by rw [hN];exact c1,fun y hy hf=>?_,fun y hy=>(c2 y hy).2.1,c3,fun y hy hl=>?_,fun y hy hx=>(c5 y (by rw [<- hN];exact hy)).resolve_left hx,c6⟩
 ·show X.env.scope.names.lookup y.1=_\/X.env.scope.names.lookup y.1=_
  rw [hn]
  rcases (c2 y hy).1 with (z | z) | z
  ·exact absurd hf z
  ·exact .inl z
  ·exact .inr z
 ·rcases (c2 y hy).2.2 with z | z
  ·exact absurd hl z
  ·exact z
theorem ZlI {X:Cx}{K:KF}(hK:X.K=K)(hc:X.calm=true){xa xb:Str}{pa pb tp:Pos}{j:Nat}{ga gb:TG}(ha:PG X (.Name xa pa) ga)(hb:PG X (.Name xb pb) gb):PG X (.Tuple [.Name xa pa,.Name xb pb] j tp) (gTup K 2 (Zgi ga (Zgi gb gNil))):=by
 subst hK
 exact XZ hc (Yg ha (Yg hb XD))
theorem FnOk.ex {P:Program}{w:World}{K:KF}{mg:Str->Option Value}{base:Heap}{k:Nat}{f:Addr}{fd:FuncData}{ps:List Str}{ok:List Str->Prop}{sp:List Str->Sp}(F:∀ NS,ok NS->FnOk P w K mg base ZL k f fd ps (sp NS)) :
 FnOk P w K mg base ZL k f fd ps (fun vs H Q E=>∃ NS,ok NS/\sp NS vs H Q E) :=
 ⟨fun vs H Q E ⟨NS,N,h⟩=>(F NS N).len vs H Q E h,fun A outer s H args us vs Q E hr he hb hv ⟨NS,N,h⟩=>(F NS N).run A outer s H args us vs Q E hr he hb hv h⟩
def Zfn (P:Program)(w:World)(K:KF)(mg:Str->Option Value)(base:Heap)(k:Nat)(C:Addr)(x:Str)(ps:List Str)(sp:Sp):Prop:=∃ f fd,FnOk P w K mg base ZL k f fd ps sp/\Binds K fd ps []/\Mk K C f/\mg x=some (.ref C)
theorem Zke {X:Cx}{k:Nat}{C:Addr}{x:Str}{ps:List Str}{sp:Sp}{p pos:Pos}(D:Zfn X.prog X.w X.K X.mg X.base k C x ps sp)(hr:Room (k+1) X.A)(hg:Gl X x:=by rfl)(hdb:(x == ("__debug__":Str))=false:=by decide) :
 PE X (.Call (.Name x p) [] [] pos) (Zkk C sp [] E0 Wt):=by
 obtain ⟨f,fd,F,b,M,m⟩:=D
 exact Ziu M F hr hg m b .nil ZcW hdb
theorem SqL.obj {K:KF}{H:Hp}{a:Addr}{xs:List V}(h:SqL K H a xs):(∀ H',SqL K H' a xs)\/∃ o,H a=some o/\(∀ tb,o≠.tbl tb)/\∀ H',H' a=some o->SqL K H' a xs:=by
 rcases h with (h | ⟨o,h⟩) | h
 ·exact .inr ⟨_,h,(fun tb z=>by cases z),fun H' e=>.inl (.inl e)⟩
 ·exact .inr ⟨_,h,(fun tb z=>by cases z),fun H' e=>.inl (.inr ⟨o,e⟩)⟩
 ·exact .inl fun H'=>.inr h
theorem Uw {H H':Hp}{a:Addr}(s:Same H H')(h:H' a=none):H a=none:=by
 cases e:H a with
 | none=>rfl
 | some o=>rw [s _ _ e] at h;cases h
end L2
namespace K22
open PySem L2
def top (i:Nat):Stmt:=PySem.Challenge.pw_roadsettings_k22_names_unlike_at_two_pla.main.body.getD i (.Pass ⟨0,0,0,0⟩)
abbrev s_alike:Stmt:=top 3
abbrev s_mark:Stmt:=top 4
abbrev s_digit:Stmt:=top 5
abbrev s_leaf_of:Stmt:=top 10
abbrev s_fork_of:Stmt:=top 11
abbrev s_parts_in:Stmt:=top 12
abbrev s_pairs_in:Stmt:=top 13
abbrev s_has_mark:Stmt:=top 14
abbrev s_differing:Stmt:=top 16
abbrev s_compare:Stmt:=top 17
abbrev s_unlike_names:Stmt:=top 18
abbrev c_Store___init__:Stmt:=Yc (top 25) 0
abbrev c_Store_empty:Stmt:=Yc (top 25) 1
abbrev c_Store_put:Stmt:=Yc (top 25) 2
abbrev c_Store_without:Stmt:=Yc (top 25) 3
abbrev c_Store_looked:Stmt:=Yc (top 25) 4
abbrev c_Store_way:Stmt:=Yc (top 25) 7
abbrev c_Store_node:Stmt:=Yc (top 25) 8
abbrev c_Store_made:Stmt:=Yc (top 25) 9
abbrev c_Store_check_table:Stmt:=Yc (top 25) 10
abbrev c_Store_pairs_below:Stmt:=Yc (top 25) 11
abbrev c_Store_keep:Stmt:=Yc (top 25) 12
abbrev c_Store_as_table:Stmt:=Yc (top 25) 13
abbrev c_Store_put_in:Stmt:=Yc (top 25) 14
abbrev c_Store_fork_parts:Stmt:=Yc (top 25) 15
abbrev c_Store_taken_from:Stmt:=Yc (top 25) 16
abbrev c_Roads___init__:Stmt:=Yc (top 27) 0
abbrev c_Roads_put:Stmt:=Yc (top 27) 1
abbrev c_Roads_clear:Stmt:=Yc (top 27) 2
abbrev c_Roads_table:Stmt:=Yc (top 27) 11
abbrev c_Roads_unlike:Stmt:=Yc (top 27) 17
abbrev c_Roads_check_place:Stmt:=Yc (top 27) 18
abbrev c_Roads_go_on:Stmt:=Yc (top 27) 20
abbrev s_l_cell_at:Stmt:=top 29
abbrev s_l_box:Stmt:=top 30
abbrev s_l_take:Stmt:=top 31
abbrev s_l_names:Stmt:=top 32
abbrev s_l_value:Stmt:=top 33
abbrev s_l_pool:Stmt:=top 34
abbrev s_l_values:Stmt:=top 35
abbrev s_l_step:Stmt:=top 36
abbrev s_l_from:Stmt:=top 37
abbrev s_l_grown:Stmt:=top 38
abbrev s_l_road:Stmt:=top 39
abbrev s_l_all:Stmt:=top 40
abbrev s_l_alike:Stmt:=top 41
abbrev s_l_two_right:Stmt:=top 42
abbrev s_l_apart_right:Stmt:=top 43
abbrev s_l_right:Stmt:=top 44
abbrev s_law:Stmt:=top 45
section
variable {P:Program}{w:World}{K:KF}{mg:Str->Option Value}{base:Heap}
theorem scC:Zp ["_law_script","_law_k"] ["_law_script","_law_k"] (Zj s_l_cell_at):=⟨rfl,rfl,rfl,by decide +kernel,rfl,by decide +kernel,by decide +kernel⟩
theorem Zli {f:Addr}{fd:FuncData}(F:Fun K "_law_cell_at" "_law_cell_at" s_l_cell_at f fd)(T:Yz mg):FnOk P w K mg base ZL 1 f fd ["_law_script","_law_k"] (ZgM K):=by
 refine F.ok scC (fun vs H Q E h=>?_) (fun cdv A outer s H vs Q E hr h=>?_)
 ·obtain ⟨a,ns,k,rfl,_⟩:=h;rfl
 obtain ⟨a,ns,k,rfl,hS,h0,q⟩:=h
 refine ⟨_,Zc (Yk (ZX Zac (pv 1) (Zv ZG rfl T.len PySem.boot_len (Yy (pv 0) Za)) (ZM _)) (Zh (Zm (Zq ZA (pv 0) (pv 1) (fun _ _=>rfl)))) ZW)
  (Zh (Zm Ze)),?_⟩
 refine ⟨_,rfl,_,rfl,a,_,rfl,.inl hS,_,_,rfl,rfl,_,rfl,?_⟩
 refine Xf (fun c=>?_) (fun c=>?_)
 ·have c':k < (((ns.map V.int).length:Nat):Int):=of_decide_eq_true c
  rw [length_map] at c'
  have hk:k.toNat < ns.length:=by omega
  have ek:k=((k.toNat:Nat):Int):=by omega
  have hat:YY (ns.map V.int) k=some (.int ns[k.toNat]):=by
   have z:YY (ns.map V.int) ((k.toNat:Nat):Int)=some (.int ns[k.toNat]):=Zw (by rw [getElem?_map,getElem?_eq_getElem hk];rfl)
   rwa [<- ek] at z
  exact ⟨_,rfl,_,rfl,a,_,_,_,rfl,rfl,hS,hat,q _⟩
 ·exact q 0
theorem scB:Zp ["_law_script","_law_k","_law_cell"] ["_law_script","_law_k"] (Zj s_l_box):=⟨rfl,rfl,rfl,by decide +kernel,rfl,by decide +kernel,by decide +kernel⟩
theorem ZmH {f:Addr}{fd:FuncData}(F:Fun K "_law_box" "_law_box" s_l_box f fd)(T:Yz mg)(D:Def P w K mg base 1 "_law_cell_at" ["_law_script","_law_k"] (ZgM K)):FnOk P w K mg base ZL 2 f fd ["_law_script","_law_k"] (Zkq K):=by
 refine F.ok scB (fun vs H Q E h=>?_) (fun cdv A outer s H vs Q E hr h=>?_)
 ·obtain ⟨a,ns,k,rfl,_⟩:=h;rfl
 obtain ⟨a,ns,k,rfl,hS,h0,h1,q⟩:=h
 refine ⟨_,Zc (Zt (i:=2) scB.nd rfl (Or.inl rfl) (Zu D hr (Yy (pv 0) (Yy (pv 1) Za))))
  (Zh (Zm (Yd (Yy (Zr Wz (Zv Zeo rfl T.abs (by decide +kernel) (Yy (pv 2) Za)) (Yl Zcv rfl T.int (by decide +kernel) (Yy (YZ ZjX (Zv Zeo rfl T.abs (by decide +kernel) (Yy (pv 2) Za)) (Zr Zbd Ze Ze) (ZM _)) Za)))
   (Yy (Zr YL (Zr YL (Zr Xx (pv 2) Ze) (Zr Wz Ze (pv 1))) Ze) (Yy Ze Za)))))),?_⟩
 refine ⟨_,rfl,_,rfl,a,ns,k,rfl,hS,h0,fun r=>?_⟩
 refine ⟨_,rfl,_,rfl,⟨_,rfl,_,rfl,_,_,rfl,rfl,⟨by decide,by decide,by decide⟩,_,_,rfl,rfl,.inr ⟨_,rfl,?_⟩⟩⟩
 generalize hb:decide ((10:Int) ^ (Int.toNat 18)<=(if r < 0 then -r else r))=bb
 refine ⟨_,_,rfl,rfl,.inr (by cases bb<;>exact ⟨by decide,by decide⟩),_,rfl,_,_,rfl,rfl,(by show (0:Int) < _;decide),_,rfl,_,_,rfl,rfl,.inl ⟨by decide,by decide⟩,_,_,rfl,rfl,_,_,rfl,rfl,(by show 3<=sizeLine;decide),fun p hp=>?_⟩
 refine q p _ hp ⟨_,_,0,Zg,?_,by decide,by decide⟩ (Zx hp _)
 cases bb
 ·simp
 ·simp only [if_true,Int.mul_one];split<;>omega
theorem scT:Zp ["_law_box_here","_law_many","_law_found","_law_once","_law_twice"] ["_law_box_here","_law_many"] (Zj s_l_take):=⟨rfl,rfl,rfl,by decide +kernel,rfl,by decide +kernel,by decide +kernel⟩
theorem ZlH {f:Addr}{fd:FuncData}(F:Fun K "_law_take" "_law_take" s_l_take f fd):FnOk P w K mg base ZL 1 f fd ["_law_box_here","_law_many"] (Zbe 4611686018427387904):=by
 refine F.ok scT (fun vs H Q E h=>?_) (fun cdv A outer s H vs Q E hr h=>?_)
 · obtain ⟨p,n,m,rfl,_⟩:=h;rfl
 obtain ⟨p,n,m,rfl,⟨a,b,c,hp,ha,hc,hcn⟩,hn,hm0,hmM,q⟩:=h
 refine ⟨_,Zc (Yk (ZX Zkx (Zq ZA (pv 0) Ze (fun _ _=>rfl)) Ze (ZM _))
     (Zc (Zt (i:=2) scT.nd rfl (Or.inl rfl) (Zr Xx (Zq ZA (pv 0) Ze (fun _ _=>rfl)) (pv 1)))
       (Zc (Wc (Zr Zih (Zq ZA (pv 0) Ze (fun _ _=>rfl)) (pv 1)) (Zbx (pv 0) Ze UY)) (Zh (Zm (pv 2))))) ZW)
   (Zc (Wc (Zr YL (Zq ZA (pv 0) Ze (fun _ _=>rfl)) Ze) (Zbx (pv 0) Ze UY))
   (Zc (Zt (i:=3) scT.nd rfl (Or.inl rfl) (Zr Xx (Zr Wz (Zr YL (Zq ZA (pv 0) Ze (fun _ _=>rfl)) (Zr Wz Ze (Zq ZA (pv 0) Ze (fun _ _=>rfl)))) (Zr YL Ze (Zq ZA (pv 0) Ze (fun _ _=>rfl)))) Ze))
   (Zc (Zt (i:=4) scT.nd rfl (Or.inl rfl) (Zr Xx (Zr Wz (Zr YL (pv 3) (Zq ZA (pv 0) Ze (fun _ _=>rfl))) (Zr YL (Zr Xx (pv 3) Ze) Ze)) Ze))
   (Zh (Zm (Zr Xx (Zr ZeV (Zr Xx (Zr YL (Zr Wz (pv 4) Ze) (pv 3)) Ze) Ze) (pv 1))))))),?_⟩
 refine ⟨_,rfl,p,_,_,_,rfl,rfl,SqL.of hp,rfl,_,_,rfl,rfl,_,rfl,?_⟩
 refine Xf (fun c'=>?_) (fun c'=>?_)
 · have h0:0 < a:=of_decide_eq_true c'
   refine ⟨_,rfl,p,_,_,_,rfl,rfl,SqL.of hp,rfl,_,rfl,_,_,rfl,rfl,hm0,?_⟩
   refine ⟨_,rfl,p,_,_,_,rfl,rfl,SqL.of hp,rfl,_,rfl,_,_,rfl,rfl,⟨hm0,by have h4:m < 4611686018427387904:=hmM;omega⟩,?_⟩
   refine ⟨_,rfl,p,_,_,_,rfl,rfl,hp,rfl,?_⟩
   refine ⟨_,rfl,?_⟩
   exact q _ _ (Int.emod_nonneg _ (by omega)) (Int.emod_lt_of_pos _ hm0) ⟨a / m,b,c,Zg,Int.ediv_nonneg ha (by omega),hc,by omega⟩ (Kp.upd _ _ _)
 · refine ⟨_,rfl,p,_,_,_,rfl,rfl,SqL.of hp,rfl,_,_,rfl,rfl,?_⟩
   refine ⟨_,rfl,p,_,_,_,rfl,rfl,hp,rfl,?_⟩
   have hp1:upd H p (.lst [.int a,.int b,.int (c+1)]) p=some (.lst [.int a,.int b,.int (c+1)]):=Zg
   refine ⟨_,rfl,p,_,_,_,rfl,rfl,SqL.of hp1,rfl,_,rfl,p,_,_,_,rfl,rfl,SqL.of hp1,rfl,_,_,rfl,rfl,.inl ⟨by decide,by decide⟩,_,_,rfl,rfl,_,rfl,p,_,_,_,rfl,rfl,SqL.of hp1,rfl,_,_,rfl,rfl,_,_,rfl,rfl,.inr ⟨by omega,by omega⟩,_,_,rfl,rfl,(by show (0:Int) < _;decide),?_⟩
   generalize hO:((b+48271 * (c+1)) * (39373+(c+1))) % 2147483647=once
   have hO0:0<=once:=by rw [<- hO];exact Int.emod_nonneg _ (by decide)
   refine ⟨_,rfl,_,rfl,p,_,_,_,rfl,rfl,SqL.of hp1,rfl,_,_,rfl,rfl,_,rfl,_,_,rfl,rfl,(by show (0:Int) < _;decide),_,_,rfl,rfl,_,_,rfl,rfl,.inr ?_,_,_,rfl,rfl,(by show (0:Int) < _;decide),?_⟩
   · have:=Int.emod_nonneg once (show (40009:Int)≠0 by decide)
     have:=Int.emod_lt_of_pos once (show (0:Int) < 40009 by decide)
     exact ⟨by omega,by omega⟩
   generalize hW:((once+(c+1)) * (once % 40009+7)) % 2147483629=twice
   refine ⟨_,rfl,_,_,rfl,rfl,.inr ⟨by decide,by decide⟩,_,rfl,_,_,rfl,rfl,_,_,rfl,rfl,(by show (0:Int) < _;decide),_,_,rfl,rfl,⟨by decide,by decide⟩,_,rfl,_,_,rfl,rfl,hm0,?_⟩
   exact q _ _ (Int.emod_nonneg _ (by omega)) (Int.emod_lt_of_pos _ hm0) ⟨a,b,c+1,hp1,ha,by omega,by omega⟩ (Kp.upd _ _ _)
end
structure Txt (K:KF)(mg:Str->Option Value):Prop extends Yz mg where
 base:∃ t,mg "BASE"=some (.int 4 t)
 zero:∃ t,mg "BARE_NUMBER"=some (.int 0 t)
 bare:∃ a,mg "BARE"=some (.ref a)/\∀ H,SqT K H a [.str "bare"]
 figs:∃ a,mg "FIGURES"=some (.ref a)/\∀ H,SqT K H a [.int 0,.int 1,.int 2,.int 3]
section
variable {P:Program}{w:World}{K:KF}{mg:Str->Option Value}{base:Heap}
def Wi (l:List Nat):Nat->Int
 | 0=>0
 | i+1=>Wi l i+((i:Int)+1) * (((l.getD i 0:Nat):Int) - 97+1)
def WD:Sp:=fun vs H Q _=>∃ x:Str,vs=[.str x]/\x.length<=1000/\∀ H',Same H H'->Q (.int (Wi x.cps.toList x.length)) H'
def Wp:Sp:=fun vs H Q _=>∃(n:Int)(k:Nat),vs=[.int n,.int k]/\0<=n/\k<=1000/\Q (.int (n / 4 ^ k % 4)) H
theorem oa:(Str.ofString "a").cps.getD 0 0=97:=by decide +kernel
theorem scM:Zp ["name","total","place","letter"] ["name"] (Zj s_mark):=⟨rfl,rfl,rfl,by decide +kernel,rfl,by decide +kernel,by decide +kernel⟩
theorem ZkM {f:Addr}{fd:FuncData}(F:Fun K "mark" "mark" s_mark f fd)(T:Txt K mg):FnOk P w K mg base ZL 1 f fd ["name"] WD:=by
 refine F.ok scM (fun vs H Q E h=>?_) (fun cdv A outer s H vs Q E hr h=>?_)
 ·obtain ⟨x,rfl,_⟩:=h;rfl
 obtain ⟨x,rfl,hx,q⟩:=h
 refine' ⟨?t,?h,?r⟩
 case h =>
  conv=>arg 2;whnf
  with_reducible refine' Zc ?a1 (Zc ?a2 (Zh ?a3))
  case a1=>exact Zt (i:=1) scM.nd rfl (Or.inl rfl) Ze
  case a2=>exact Xi PassesOwn.never rfl (ZjA rfl T.enumerate (pv 0)) (XZ rfl (Yg (ZN (i:=2) scM.nd rfl (Or.inl rfl)) (Yg (ZN (i:=3) scM.nd rfl (Or.inl rfl)) XD))) (Zh (Zhm (i:=1) scM.nd rfl (Or.inl rfl) (Zr Wz (pv 2) (Zr YL (Zr YE (Zv ZdQ rfl T.ord (by decide +kernel) (Zb (pv 3) Za)) (Zv ZdQ rfl T.ord (by decide +kernel) (Zb ZS Za))) Ze)) ZhH))
  case a3=>exact Zm (pv 1)
 refine ⟨_,rfl,x,rfl,?_⟩
 refine ZiQ (fun i σ H'=>∃ y2 y3,σ=[some (.str x),some (.int (Wi x.cps.toList i)),y2,y3]/\Same H H'/\i<=x.cps.size) ⟨_,_,rfl,Same.refl H,Nat.zero_le _⟩ ?_ ?_
 ·rintro i c t σ H1 hc ht ⟨y2,y3,rfl,s1,hi⟩
  have hi':i < x.cps.size:=(Array.getElem?_eq_some_iff.mp hc).1
  have hz:x.cps.size<=1000:=hx
  refine ⟨t,_,rfl,SqT.of Zg,rfl,_,_,rfl,_,_,rfl,rfl,?_⟩
  refine ⟨_,rfl,_,rfl,_,rfl,_,rfl,rfl,_,rfl,rfl,_,_,rfl,rfl,_,_,rfl,rfl,_,_,rfl,rfl,.inl ⟨by omega,by omega⟩,_,_,rfl,rfl,?_⟩
  have e:Wi x.cps.toList (i+1)=Wi x.cps.toList i+((i:Int)+1) * ((((⟨#[c]⟩:Str).cps.getD 0 0:Nat):Int) - (((Str.ofString "a").cps.getD 0 0:Nat):Int)+1):=by
   rw [oa]
   show Wi x.cps.toList i+((i:Int)+1) * (((x.cps.toList.getD i 0:Nat):Int) - 97+1)=Wi x.cps.toList i+((i:Int)+1) * ((c:Int) - 97+1)
   have e1:x.cps.toList.getD i 0=c:=by rw [getD_eq_getElem?_getD,Array.getElem?_toList,hc];rfl
   rw [e1]
  exact ⟨some (.int ((i:Int)+1)),some (.str ⟨#[c]⟩),by rw [e];rfl,s1.trans (Zx ht _),hi'⟩
 ·rintro σ H1 ⟨y2,y3,rfl,s1,_⟩
  exact ⟨_,rfl,q H1 s1⟩
theorem scDg:Zp ["number","level","below"] ["number","level"] (Zj s_digit):=⟨rfl,rfl,rfl,by decide +kernel,rfl,by decide +kernel,by decide +kernel⟩
theorem ZjR {f:Addr}{fd:FuncData}(F:Fun K "digit" "digit" s_digit f fd)(T:Txt K mg):FnOk P w K mg base ZL 1 f fd ["number","level"] Wp:=by
 refine F.ok scDg (fun vs H Q E h=>?_) (fun cdv A outer s H vs Q E hr h=>?_)
 ·obtain ⟨n,k,rfl,_⟩:=h;rfl
 obtain ⟨n,k,rfl,hn,hk,q⟩:=h
 obtain ⟨tb,hb⟩:=T.base
 refine' ⟨?t,?h,?r⟩
 case h =>
  conv=>arg 2;whnf
  with_reducible refine' Zc ?a1 (Zh ?a2)
  case a1=>exact Xi PassesOwn.never rfl (Xo rfl T.range (Zb (pv 1) Za)) (ZN (i:=2) scDg.nd rfl (Or.inl rfl)) (Zh (Zt (i:=0) scDg.nd rfl (Or.inl rfl) (Zr ZeV (pv 0) (Xu rfl hb (v:=.int 4) ⟨_,rfl⟩))))
  case a2=>exact Zm (Zr Xx (pv 0) (Xu rfl hb (v:=.int 4) ⟨_,rfl⟩))
 refine ⟨_,rfl,k,rfl,by omega,by omega,?_⟩
 have ek:(k:Int).toNat=k:=by omega
 rw [ek]
 refine Ux (fun i σ H'=>∃ y,σ=[some (.int (n / 4 ^ i)),some (.int k),y]/\H'=H) ⟨_,by rw [Int.pow_zero,Int.ediv_one];rfl,rfl⟩ ?_ ?_
 ·rintro i σ H1 hi ⟨y,rfl,rfl⟩
  have e:n / 4 ^ (i+1)=n / 4 ^ i / 4:=by rw [Int.pow_succ,<- Int.ediv_ediv_of_nonneg (Int.pow_nonneg (by decide))]
  exact ⟨_,rfl,_,_,rfl,rfl,⟨by decide,by decide⟩,some (.int (0+(i:Int))),by rw [e];rfl,rfl⟩
 ·rintro σ H1 ⟨y,rfl,rfl⟩
  exact ⟨_,rfl,_,_,rfl,rfl,(by show (0:Int) < 4;decide),q⟩
theorem nbf:decide (V.str (Str.ofString "bare")=V.str (Str.ofString "fork"))=false:=by decide +kernel
theorem nlf:decide (V.str (Str.ofString "leaf")=V.str (Str.ofString "fork"))=false:=by decide +kernel
theorem nbl:decide (V.str (Str.ofString "bare")=V.str (Str.ofString "leaf"))=false:=by decide +kernel
theorem nfl:decide (V.str (Str.ofString "fork")=V.str (Str.ofString "leaf"))=false:=by decide +kernel
theorem scPi:Zp ["node"] ["node"] (Zj s_parts_in):=⟨rfl,rfl,rfl,by decide +kernel,rfl,by decide +kernel,by decide +kernel⟩
theorem ZiU {f:Addr}{fd:FuncData}(F:Fun K "parts_in" "parts_in" s_parts_in f fd):FnOk P w K mg base ZL 1 f fd ["node"] (XH K):=by
 refine F.ok scPi (fun vs H Q E h=>?_) (fun cdv A outer s H vs Q E hr h=>?_)
 ·obtain ⟨a,n,rfl,_⟩:=h;rfl
 obtain ⟨a,n,rfl,hn,q⟩:=h
 refine ⟨_,Zh (Zm (WX (ZX YA (Zq Ye (pv 0) Ze (fun _ _=>rfl)) ZS (ZM _)) (Zq Ye (pv 0) Ze (fun _ _=>rfl)) Zfc)),?_⟩
 cases n with
 | bare =>
  refine ⟨_,rfl,a,_,_,_,rfl,rfl,hn,rfl,rfl,_,rfl,?_⟩
  rw [nbf]
  exact ZP fun p o hp hd=>q p _ (Zx hp _) (.inl (.inr ⟨o,Zg⟩))
 | leaf m ps =>
  obtain ⟨t,e,_⟩:=hn
  refine ⟨_,rfl,a,_,_,_,rfl,rfl,e,rfl,rfl,_,rfl,?_⟩
  rw [nlf]
  exact ZP fun p o hp hd=>q p _ (Zx hp _) (.inl (.inr ⟨o,Zg⟩))
 | fork qs =>
  obtain ⟨t,e,e2,_⟩:=hn
  refine ⟨_,rfl,a,_,_,_,rfl,rfl,e,rfl,rfl,_,rfl,?_⟩
  rw [decide_eq_true rfl]
  exact Yh ⟨_,rfl,a,_,_,_,rfl,rfl,e,rfl,q t H (Same.refl H) e2⟩
theorem scPr:Zp ["node"] ["node"] (Zj s_pairs_in):=⟨rfl,rfl,rfl,by decide +kernel,rfl,by decide +kernel,by decide +kernel⟩
theorem ZjO {f:Addr}{fd:FuncData}(F:Fun K "pairs_in" "pairs_in" s_pairs_in f fd):FnOk P w K mg base ZL 1 f fd ["node"] (XO K):=by
 refine F.ok scPr (fun vs H Q E h=>?_) (fun cdv A outer s H vs Q E hr h=>?_)
 ·obtain ⟨a,n,rfl,_⟩:=h;rfl
 obtain ⟨a,n,rfl,hn,q⟩:=h
 refine ⟨_,Zh (Zm (WX (ZX YA (Zq Ye (pv 0) Ze (fun _ _=>rfl)) ZS (ZM _)) (Zq Ye (pv 0) Ze (fun _ _=>rfl)) Zfc)),?_⟩
 have nil:∀ p o,H p=none->o.dict=none->PairsAt (upd H p (.frz o (.tup []))) p []:=fun p o hp hd=>⟨o,[],Zg,hd,rfl,fun i a p e=>by simp at e⟩
 cases n with
 | bare =>
  refine ⟨_,rfl,a,_,_,_,rfl,rfl,hn,rfl,rfl,_,rfl,?_⟩
  rw [nbl]
  exact ZP fun p o hp hd=>q p _ (Zx hp _) (nil p o hp hd)
 | fork qs =>
  obtain ⟨t,e,_⟩:=hn
  refine ⟨_,rfl,a,_,_,_,rfl,rfl,e,rfl,rfl,_,rfl,?_⟩
  rw [nfl]
  exact ZP fun p o hp hd=>q p _ (Zx hp _) (nil p o hp hd)
 | leaf m ps =>
  obtain ⟨t,e,e2⟩:=hn
  refine ⟨_,rfl,a,_,_,_,rfl,rfl,e,rfl,rfl,_,rfl,?_⟩
  rw [decide_eq_true rfl]
  exact Yh ⟨_,rfl,a,_,_,_,rfl,rfl,e,rfl,q t H (Same.refl H) e2⟩
theorem scHm:Zp ["node","number"] ["node","number"] (Zj s_has_mark):=⟨rfl,rfl,rfl,by decide +kernel,rfl,by decide +kernel,by decide +kernel⟩
theorem ZkT {f:Addr}{fd:FuncData}(F:Fun K "has_mark" "has_mark" s_has_mark f fd):FnOk P w K mg base ZL 1 f fd ["node","number"] (VQ K):=by
 refine F.ok scHm (fun vs H Q E h=>?_) (fun cdv A outer s H vs Q E hr h=>?_)
 ·obtain ⟨a,n,m,rfl,_⟩:=h;rfl
 obtain ⟨a,n,m,rfl,hn,q⟩:=h
 refine ⟨_,Zh (Zm (WG (YZ YA (Zq Ye (pv 0) Ze (fun _ _=>rfl)) ZS (ZM _)) (UJ (YZ YA (Zq Ye (pv 0) Ze (fun _ _=>rfl)) (pv 1) (ZM _))))),?_⟩
 cases n with
 | bare =>
  refine ⟨_,rfl,a,_,_,_,rfl,rfl,hn,rfl,rfl,_,rfl,?_⟩
  rw [nbl]
  exact ZP q
 | fork qs =>
  obtain ⟨t,e,_⟩:=hn
  refine ⟨_,rfl,a,_,_,_,rfl,rfl,e,rfl,rfl,_,rfl,?_⟩
  rw [nfl]
  exact ZP q
 | leaf m' ps =>
  obtain ⟨t,e,e2⟩:=hn
  refine ⟨_,rfl,a,_,_,_,rfl,rfl,e,rfl,rfl,_,rfl,?_⟩
  rw [decide_eq_true rfl]
  refine Yh ⟨_,rfl,a,_,_,_,rfl,rfl,e,rfl,_,rfl,rfl,?_⟩
  have:decide (V.int m'=V.int m)=decide (m'=m):=by
   by_cases z:m'=m
   ·subst z;rw [decide_eq_true rfl,decide_eq_true rfl]
   ·rw [decide_eq_false z,decide_eq_false (fun y=>z (by cases y;rfl))]
  rw [this]
  exact q
theorem scFo:Zp ["parts"] ["parts"] (Zj s_fork_of):=⟨rfl,rfl,rfl,by decide +kernel,rfl,by decide +kernel,by decide +kernel⟩
theorem ZgQ {f:Addr}{fd:FuncData}(F:Fun K "fork_of" "fork_of" s_fork_of f fd)(T:Txt K mg):FnOk P w K mg base ZL 1 f fd ["parts"] (Ud K):=by
 refine F.ok scFo (fun vs H Q E h=>?_) (fun cdv A outer s H vs Q E hr h=>?_)
 ·obtain ⟨l,qs,rfl,_⟩:=h;rfl
 obtain ⟨l,qs,rfl,el,h4,q⟩:=h
 refine ⟨_,Zh (Zm (YU (Zb ZS (Zb (Yl ZcG rfl T.tuple (by decide +kernel) (Zb (pv 0) Za)) Za)))),?_⟩
 refine ⟨_,rfl,l,_,rfl,.inl ⟨SqL.of el,fun t ht=>⟨(by show 2<=sizeLine;decide),fun a ha=>?_⟩⟩⟩
 exact q a _ ((Zx ht _).trans (Zx ha _)) ⟨t,SqT.of Zg,SqT.of (Zx ha _ _ _ Zg),h4⟩
def pvl (H:Hp)(a:Addr):V:=match H a with
 | some (.tup [_,v])=>v
 | _=>.non
def Zca (ps:ZH):Prop:=ps.Pairwise fun p q=>¬ (q.1.cps.toList < p.1.cps.toList)
theorem ZhT {H:Hp}{ts ts':List Addr}{ps:ZH}(h:PairT H ts ps)(o:ZfG (ps.map (·.1)) ts ts'):∃ ps',ps'.Perm ps/\Zca ps'/\PairT H ts' ps':=by
 obtain ⟨zs,hp,e,hs⟩:=o
 have val:∀ (i:Nat) (a:Addr) (p:Str×V),ts[i]?=some a->ps[i]?=some p->pvl H a=p.2:=fun i a p e1 e2=>by unfold pvl;rw [h.2 i a p e1 e2]
 have hz:((ps.map (·.1)).zip ts).map (fun z=>(z.1,pvl H z.2))=ps:=by
  apply List.ext_getElem?
  intro i
  rw [getElem?_map]
  cases e2:ps[i]? with
  | none =>
   have:((ps.map (·.1)).zip ts)[i]?=none:=by
    rw [List.getElem?_eq_none_iff] at e2 ⊢
    rw [List.length_zip,length_map];omega
   rw [this];rfl
  | some p =>
   have hi:i < ps.length:=(List.getElem?_eq_some_iff.mp e2).1
   obtain ⟨a,ea⟩:∃ a,ts[i]?=some a:=⟨_,getElem?_eq_getElem (by rw [h.1];exact hi)⟩
   have:((ps.map (·.1)).zip ts)[i]?=some (p.1,a):=by
    rw [getElem?_zip_eq_some]
    exact ⟨by rw [getElem?_map,e2];rfl,ea⟩
   rw [this]
   show some (p.1,pvl H a)=some p
   rw [val i a p ea e2]
 refine ⟨zs.map fun z=>(z.1,pvl H z.2),?_,?_,?_⟩
 ·have:=hp.map fun z:Str×Addr=>(z.1,pvl H z.2)
  rwa [hz] at this
 ·unfold Zca;rw [pairwise_map];exact hs
 ·refine ⟨by rw [e,length_map,length_map],fun i a p e1 e2=>?_⟩
  rw [e,getElem?_map] at e1
  rw [getElem?_map] at e2
  cases ez:zs[i]? with
  | none=>rw [ez] at e1;cases e1
  | some z =>
   rw [ez] at e1 e2
   cases (show some z.2=some a from e1)
   cases (show some (z.1,pvl H z.2)=some p from e2)
   have hm:=hp.mem_iff.mp (mem_of_getElem? ez)
   obtain ⟨j,hj⟩:=List.mem_iff_getElem?.mp hm
   rw [getElem?_zip_eq_some] at hj
   obtain ⟨h1,h2⟩:=hj
   rw [getElem?_map] at h1
   cases e3:ps[j]? with
   | none=>rw [e3] at h1;cases h1
   | some pj =>
    rw [e3] at h1
    have h1':pj.1=z.1:=by simpa using h1
    have:=h.2 j z.2 pj h2 e3
    rw [this,val j z.2 pj h2 e3,h1']
def Zy (x:Str):Int:=Wi x.cps.toList x.length
def XG:Str:=(("leaf_of":Str)++".<locals>.")++"<lambda>"
def VA (K:KF)(Pl:Addr)(lpos:Pos):Sp:=fun vs H Q _=>∃(l:Addr)(ts:List Addr)(ps:ZH),vs=[.ref l]/\H l=some (.lst (ts.map V.ref))/\PairT H ts ps/\ps≠[]/\ps.length < 64/\(∀ p∈ps,p.1.length<=1000)/\LamAt H Pl lpos XG /\
 ∀ (a:Addr) (H':Hp) (p1:Str×V) (pr:ZH),Grown Pl H H'->LamAt H' Pl lpos XG->(p1::pr).Perm ps->Zca (p1::pr)->NodeAt K H' a (.leaf (Zy p1.1) (p1::pr))->Q (.ref a) H'
theorem Grown.trans' {Pl:Addr}{H H1 H2:Hp}(a:Grown Pl H H1)(b:Same H1 H2):Grown Pl H H2:=fun x o n h=>b _ _ (a x o n h)
theorem LamAt.same {H H':Hp}{Pl:Addr}{lpos:Pos}{q:Str}(h:LamAt H Pl lpos q)(s:Same H H'):LamAt H' Pl lpos q:=by
 rcases h with h | ⟨c,h,h2⟩
 ·exact .inl (s _ _ h)
 ·exact .inr ⟨c,s _ _ h,s _ _ h2⟩
theorem scLf:Zp ["pairs","rising","first_name"] ["pairs"] (Zj s_leaf_of):=⟨rfl,rfl,rfl,by decide +kernel,rfl,by decide +kernel,by decide +kernel⟩
def Zmz:Stmt->Pos
 | .Assign _ (.Call _ _ [⟨_,.Lambda _ _ _ p,_⟩] _) _=>p
 | _=>⟨0,0,0,0⟩
def YM:Pos:=Zmz ((XX s_leaf_of).getD 0 (.Pass ⟨0,0,0,0⟩))
theorem ZlG {f c Pl:Addr}{fd:FuncData}(F:FunC K "leaf_of" "leaf_of" s_leaf_of f fd c Pl)(T:Txt K mg)(hBm:UV base mg)(DM:Def P w K mg base 1 "mark" ["name"] WD):FnOk P w K mg base ZL 2 f fd ["pairs"] (VA K Pl YM):=by
 refine F.ok scLf (fun vs H Q E h=>?_) (fun A outer s H vs Q E hr h=>?_)
 ·obtain ⟨l,ts,ps,rfl,_⟩:=h;rfl
 obtain ⟨l,ts,ps,rfl,el,hpt,hne,h64,hnl,hL,q⟩:=h
 refine' ⟨?t,?h,?r⟩
 case h =>
  conv=>arg 2;whnf
  with_reducible refine' Zc ?a1 (Zc ?a2 (Zh ?a3))
  case a1=>exact Zt (i:=1) scLf.nd rfl (Or.inl rfl) (Zig (c:=c) (Pl:=Pl) rfl T.sorted (pv 0) hr rfl F.hd hBm)
  case a2=>exact Zt (i:=2) scLf.nd rfl (Or.inl rfl) (Zq Ye (Zq ZA (pv 1) Ze (fun _ _=>rfl)) Ze (fun _ _=>rfl))
  case a3=>exact Zm (YU (Zb ZS (Zb (Zu DM hr (Zb (pv 2) Za)) (Zb (Yl Zak rfl T.tuple (by decide +kernel) (Zb (pv 1) Za)) Za))))
 refine ⟨_,rfl,l,ts,ps.map (·.1),rfl,el,by rw [hpt.1];exact h64,by rw [length_map,hpt.1],fun i t k e1 e2=>?_,hL,fun H2 r ts' gr hL2 hr2 hT=>?_⟩
 ·rw [getElem?_map] at e2
  cases e3:ps[i]? with
  | none=>rw [e3] at e2;cases e2
  | some p =>
   rw [e3] at e2
   have e4:p.1=k:=by simpa using e2
   rw [<- e4]
   exact ⟨_,hpt.2 i t p e1 e3⟩
 obtain ⟨ps',hperm,hsort,hpt'⟩:=ZhT hpt hT
 obtain ⟨tb,htb⟩:=hL.tbl
 have tf2:TF H H2:=gr.tf htb
 have hpt2:=hpt'.tf tf2
 cases ps' with
 | nil=>exact absurd (List.Perm.nil_eq hperm).symm hne
 | cons p1 pr =>
  cases ts' with
  | nil=>have:=hpt'.1;simp at this
  | cons t1 tr =>
   have e1:=hpt2.2 0 t1 p1 rfl rfl
   have s3:=Zx hr2 (.lst ((t1::tr).map V.ref))
   have hn1:p1.1.length<=1000:=hnl p1 (hperm.mem_iff.mp mem_cons_self)
   refine ⟨_,rfl,r,_,_,_,rfl,rfl,SqL.of Zg,(show YY ((t1::tr).map V.ref) ((0:Nat):Int)=some (V.ref t1) from Zw rfl),t1,_,_,_,rfl,rfl,SqT.of (s3 _ _ e1),rfl,?_⟩
   refine ⟨_,rfl,p1.1,rfl,hn1,fun H4 s4=>⟨_,rfl,r,_,rfl,SqL.of (s4 _ _ Zg),fun t o ht hd=>⟨(by show 3<=sizeLine;decide),fun a ha=>?_⟩⟩⟩
   have s5:=Zx ht (.frz o (.tup ((t1::tr).map V.ref)))
   have s6:=Zx ha (.tup [.str "leaf",.int (Zy p1.1),.ref t])
   have S:=((s3.trans s4).trans s5).trans s6
   refine q a _ p1 pr (Grown.trans' gr S) (LamAt.same hL2 S) hperm hsort ⟨t,SqT.of Zg,o,t1::tr,s6 _ _ Zg,hd,hpt2.tf S.tf⟩
end
structure YT (K:KF)(C:Addr):Prop where
 cl:Cls K C
 nN:NoAttr K C "nodes"
 nT:NoAttr K C "tables"
section
variable {P:Program}{w:World}{K:KF}{mg:Str->Option Value}{base:Heap}{C:Addr}
def Zhh (K:KF)(C:Addr):Sp:=fun vs H Q _=>∃(p dx:Addr),vs=[.ref p]/\H p=some (.ins C dx [])/\∀(ln dt:Addr)(H':Hp),H ln=none->H dt=none->StoreAt K C p ln dt H' [.bare] [(Sum.inl 0,.bl true)]->Kq [p] H H'->Q .non H'
theorem scIn:Zp ["self"] ["self"] (Zj c_Store___init__):=⟨rfl,rfl,rfl,by decide +kernel,rfl,by decide +kernel,by decide +kernel⟩
theorem Zlf {f:Addr}{fd:FuncData}(F:Fun K "__init__" "Store.__init__" c_Store___init__ f fd)(T:Txt K mg)(TC:YT K C):FnOk P w K mg base ZL 1 f fd ["self"] (Zhh K C):=by
 refine F.ok scIn (fun vs H Q E h=>?_) (fun cdv A outer s H vs Q E hr h=>?_)
 ·obtain ⟨p,dx,rfl,_⟩:=h;rfl
 obtain ⟨p,dx,rfl,hp,q⟩:=h
 obtain ⟨ab,hb,hbt⟩:=T.bare
 obtain ⟨tz,hz⟩:=T.zero
 refine ⟨_,Zc (Ug (pv 0) (Yd (Zb (Xu rfl hb (v:=.ref ab) rfl) Za)) rfl) (Zh (Ug (pv 0) (ZkD (Zjl (Xu rfl hz (v:=.int 0) ⟨_,rfl⟩) Vc ZkA) rfl rfl (by simp) (by decide)) rfl)),?_⟩
 refine ⟨(by show 1<=sizeLine;decide),fun ln hln=>?_⟩
 have npl:p≠ln:=Zs hp hln
 refine ⟨_,rfl,p,C,dx,[],rfl,(by rw [Zi npl];exact hp),TC.cl,TC.nN,(by show 0 < 1000;decide),?_⟩
 intro dt hdt
 have npd:p≠dt:=fun z=>by rw [<- z,Zg] at hdt;cases hdt
 have nld:ln≠dt:=fun z=>by rw [<- z,Zi npl.symm,Zg] at hdt;cases hdt
 have hdt0:H dt=none:=by rw [Zi npd.symm,Zi nld.symm] at hdt;exact hdt
 refine ⟨Zg,[(Sum.inl 0,.bl true)],rfl,by decide,_,rfl,p,C,dx,_,rfl,(by rw [Zi npd,Zi npd,Zg]),TC.cl,TC.nT,(by show 1 < 1000;decide),?_⟩
 refine q ln dt _ hln hdt0 ⟨⟨dx,Zg⟩,⟨[ab],?_,rfl,fun i a n e1 e2=>?_⟩,?_⟩ fun b o nb e=>?_
 ·rw [Zi npl.symm,Zi nld,Zi nld,Zi npl.symm,Zg];rfl
 ·cases i with
  | zero =>
   cases (show some ab=some a from e1)
   cases (show some Nd.bare=some n from e2)
   exact hbt _
  | succ i=>simp at e1
 ·rw [Zi npd.symm,Zg];rfl
 ·have nb':b≠p:=fun z=>nb (by simp [z])
  rw [Zi nb',Zi (Zs e hdt0),Zi (Zs e hdt0),Zi nb',Zi (Zs e hln)];exact e
def VC (K:KF)(C:Addr):Sp:=fun vs H Q _=>∃(st ln dt a:Addr)(nds:List Nd)(tabs:ZK)(n:Nd),vs=[.ref st,.ref a]/\StoreAt K C st ln dt H nds tabs/\NodeAt K H a n/\nds.length<=100000 /\
 ∀ H',StoreAt K C st ln dt H' (nds++[n]) tabs->Kq [ln] H H'->TF H H'->Q (.int nds.length) H'
theorem scKe:Zp ["self","node"] ["self","node"] (Zj c_Store_keep):=⟨rfl,rfl,rfl,by decide +kernel,rfl,by decide +kernel,by decide +kernel⟩
theorem Zlt {f:Addr}{fd:FuncData}(F:Fun K "keep" "Store.keep" c_Store_keep f fd)(T:Txt K mg)(TC:YT K C):FnOk P w K mg base ZL 1 f fd ["self","node"] (VC K C):=by
 refine F.ok scKe (fun vs H Q E h=>?_) (fun cdv A outer s H vs Q E hr h=>?_)
 ·obtain ⟨st,ln,dt,a,nds,tabs,n,rfl,_⟩:=h;rfl
 obtain ⟨st,ln,dt,a,nds,tabs,n,rfl,⟨⟨dx,ob⟩,⟨as,nl,hl,hn⟩,tb⟩,hna,hsz,q⟩:=h
 refine ⟨_,Zc (Yi (YO PySem.F.plainAttrs_list PySem.F.slot_list_append PySem.F.type_list_append Yr (ZY (pv 0) rfl) (Zb (pv 1) Za))) (Zh (Zm (Zr YE (Zv ZG rfl T.len PySem.boot_len (Zb (ZY (pv 0) rfl) Za)) Ze))),?_⟩
 have e1:(as.map V.ref).length < sizeLine:=by rw [length_map,hl];exact Nat.lt_of_le_of_lt hsz (by decide)
 refine ⟨_,rfl,st,C,dx,_,_,rfl,ob,TC.cl,TC.nN,Xm ln dt,.inl ⟨rfl,_,SqL.of nl⟩,_,rfl,ln,_,_,rfl,rfl,nl,e1,?_⟩
 have nsl:st≠ln:=Zbi ob nl (by intro z;cases z)
 have ndl:dt≠ln:=Zbi tb nl (by intro z;cases z)
 refine ⟨_,rfl,st,C,dx,_,_,rfl,(by rw [Zi nsl];exact ob),TC.cl,TC.nN,Xm ln dt,ln,_,rfl,.inl (SqL.of Zg),_,_,rfl,rfl,?_⟩
 have tf:=ZaL (o:=.lst (as.map V.ref++[.ref a])) nl
 have e2:((((as.map V.ref++[V.ref a]).length:Nat):Int) - 1)=(nds.length:Int):=by rw [length_append,length_map,hl];show ((nds.length+1:Nat):Int) - 1=_;omega
 have fin:Q (.int (nds.length:Int)) (upd H ln (.lst (as.map V.ref++[.ref a]))):=by
  refine q _ ⟨⟨dx,by rw [Zi nsl];exact ob⟩,⟨as++[a],by rw [map_append];exact Zg,by rw [length_append,length_append,hl];rfl,fun i b m e3 e4=>?_⟩,by rw [Zi ndl];exact tb⟩ ZaE tf
  by_cases hi:i < as.length
  ·rw [getElem?_append_left hi] at e3
   rw [getElem?_append_left (by rw [<- hl];exact hi)] at e4
   exact (hn i b m e3 e4).tf tf
  ·rw [getElem?_append_right (by omega)] at e3
   rw [getElem?_append_right (by omega)] at e4
   have h0:i - as.length=0:=by
    cases z:i - as.length with
    | zero=>rfl
    | succ j=>rw [z] at e3;simp at e3
   rw [h0] at e3
   rw [show i - nds.length=0 by omega] at e4
   cases (show some a=some b from e3)
   cases (show some n=some m from e4)
   exact hna.tf tf
 rw [<- e2] at fin
 exact fin
def ZfE (K:KF)(C:Addr):Sp:=fun vs H Q _=>∃(st ln dt:Addr)(nds:List Nd)(tabs:ZK)(n:Int),vs=[.ref st,.int n]/\StoreAt K C st ln dt H nds tabs/\tabs.length<=100000 /\
 ∀ H',StoreAt K C st ln dt H' nds (YK tabs (Sum.inl n) (.bl true))->Kq [dt] H H'->TF H H'->Q (.int n) H'
theorem scAs:Zp ["self","number"] ["self","number"] (Zj c_Store_as_table):=⟨rfl,rfl,rfl,by decide +kernel,rfl,by decide +kernel,by decide +kernel⟩
theorem ZmF {f:Addr}{fd:FuncData}(F:Fun K "as_table" "Store.as_table" c_Store_as_table f fd)(TC:YT K C):FnOk P w K mg base ZL 1 f fd ["self","number"] (ZfE K C):=by
 refine F.ok scAs (fun vs H Q E h=>?_) (fun cdv A outer s H vs Q E hr h=>?_)
 ·obtain ⟨st,ln,dt,nds,tabs,n,rfl,_⟩:=h;rfl
 obtain ⟨st,ln,dt,nds,tabs,n,rfl,⟨⟨dx,ob⟩,⟨as,nl,hl,hn⟩,tb⟩,hsz,q⟩:=h
 refine ⟨_,Zc (ZbB (Wy hr) (ZY (pv 0) rfl) (pv 1) Vc rfl) (Zh (Zm (pv 1))),?_⟩
 refine ⟨_,rfl,st,C,dx,_,_,rfl,ob,TC.cl,TC.nT,Zhw ln dt,_,rfl,dt,_,rfl,DPut.k (k:=Sum.inl n) tb (Nat.lt_of_le_of_lt hsz (by decide)),_,rfl,?_⟩
 have nsd:st≠dt:=Zbi ob tb (by intro z;cases z)
 have nld:ln≠dt:=Zbi nl tb (by intro z;cases z)
 have tf:=ZkU (o:=.dK (YK tabs (Sum.inl n) (.bl true))) tb
 exact q _ ⟨⟨dx,by rw [Zi nsd];exact ob⟩,⟨as,by rw [Zi nld];exact nl,hl,fun i a m e1 e2=>(hn i a m e1 e2).tf tf⟩,Zg⟩ ZaE tf
def ZbE (K:KF)(C:Addr):Sp:=fun vs H Q _=>∃(st ln dt:Addr)(nds:List Nd)(tabs:ZK)(n:Int),vs=[.ref st,.int n]/\StoreAt K C st ln dt H nds tabs/\(ZQ tabs (Sum.inl n)).isSome=true/\Q .non H
theorem scCk:Zp ["self","table"] ["self","table"] (Zj c_Store_check_table):=⟨rfl,rfl,rfl,by decide +kernel,rfl,by decide +kernel,by decide +kernel⟩
theorem Ziy {f:Addr}{fd:FuncData}(F:Fun K "check_table" "Store.check_table" c_Store_check_table f fd)(TC:YT K C):FnOk P w K mg base ZL 1 f fd ["self","table"] (ZbE K C):=by
 refine F.ok scCk (fun vs H Q E h=>?_) (fun cdv A outer s H vs Q E hr h=>?_)
 ·obtain ⟨st,ln,dt,nds,tabs,n,rfl,_⟩:=h;rfl
 obtain ⟨st,ln,dt,nds,tabs,n,rfl,⟨⟨dx,ob⟩,⟨as,nl,hl,hn⟩,tb⟩,hs,q⟩:=h
 refine ⟨_,Zh (Yk (ZdV (Zcx (Wy hr) (pv 1) (ZY (pv 0) rfl))) (Zh Zfz) ZW),?_⟩
 refine ⟨_,rfl,_,rfl,st,C,dx,_,_,rfl,ob,TC.cl,TC.nT,Zhw ln dt,dt,_,rfl,DGet.k (k:=Sum.inl n) tb,_,rfl,?_⟩
 rw [hs]
 exact ZP q
end
def Yb (n:Int)(k:Nat):Nat:=(n / 4 ^ k % 4).toNat
theorem Wn (n:Int)(k:Nat):(Yb n k:Int)=n / 4 ^ k % 4:=Int.toNat_of_nonneg (Int.emod_nonneg _ (by decide))
theorem Uf (n:Int)(k:Nat):Yb n k < 4:=by
 have h1:=Wn n k
 have h2:=Int.emod_lt_of_pos (n / 4 ^ k) (show (0:Int) < 4 by decide)
 omega
def Xs (nds:List Nd)(m:Int):Nat->Nat->Nat->Option (List Nat)
 | 0,_,_=>none
 | f+1,lev,num=>match nds[num]? with
  | none=>none
  | some (.fork qs)=>(qs[Yb m lev]?).bind fun q=>(Xs nds m f (lev+1) q).map (num::·)
  | some _=>some [num]
def iN (n:Nat):V:=.int (n:Int)
section
variable {P:Program}{w:World}{K:KF}{mg:Str->Option Value}{base:Heap}{C:Addr}
theorem _root_.L2.StoreAt.node {st ln dt:Addr}{H:Hp}{nds:List Nd}{tabs:ZK}(S:StoreAt K C st ln dt H nds tabs){i:Nat}{n:Nd}(h:nds[i]?=some n):∃(as:List Addr)(a:Addr),H ln=some (.lst (as.map V.ref))/\as[i]?=some a/\NodeAt K H a n:=by
 obtain ⟨_,⟨as,e,l,hn⟩,_⟩:=S
 have hi:i < as.length:=by rw [l];exact (List.getElem?_eq_some_iff.mp h).1
 exact ⟨as,as[i],e,getElem?_eq_getElem hi,hn i _ n (getElem?_eq_getElem hi) h⟩
def Zky (K:KF)(C:Addr):Sp:=fun vs H Q _=>∃(st ln dt:Addr)(nds:List Nd)(tabs:ZK)(t:Nat)(x:Str)(f:Nat)(ws:List Nat),vs=[.ref st,iN t,.str x]/\StoreAt K C st ln dt H nds tabs/\(ZQ tabs (Sum.inl (t:Int))).isSome=true/\x.length<=1000/\0<=Zy x/\f<=1000 /\
 Xs nds (Zy x) f 0 t=some ws/\∀ r H',H r=none->Same H H'->H' r=some (.lst (ws.map iN))->Q (.ref r) H'
theorem scWa:Zp ["self","table","name","told","parts","part"] ["self","table","name"] (Zj c_Store_way):=⟨rfl,rfl,rfl,by decide +kernel,rfl,by decide +kernel,by decide +kernel⟩
theorem ZmP {f : Addr}{fd:FuncData}(F:Fun K "way" "Store.way" c_Store_way f fd)(T:Txt K mg)(TC:YT K C)(DC:DefM P w K mg base 1 C "check_table" ["self","table"] (ZbE K C))(DP:Def P w K mg base 1 "parts_in" ["node"] (XH K))
 (DM:Def P w K mg base 1 "mark" ["name"] WD) (DG:Def P w K mg base 1 "digit" ["number","level"] Wp):FnOk P w K mg base ZL 2 f fd ["self","table","name"] (Zky K C):=by
 refine F.ok scWa (fun vs H Q E h=>?_) (fun cdv A outer s H vs Q E hr h=>?_)
 ·obtain ⟨st,ln,dt,nds,tabs,t,x,f,ws,rfl,_⟩:=h;rfl
 obtain ⟨st,ln,dt,nds,tabs,t,x,fu,ws,rfl,S,htab,hx,hm,hfu,hway,q⟩:=h
 refine' ⟨?t,?h,?r⟩
 case h =>
  conv=>arg 2;whnf
  with_reducible refine' Zc ?a1 (Zc ?a2 (Zc ?a3 (Zc (ZdI ?w0 ?w1 (Zc ?b1 (Zc ?b2 (Zh ?b3)))) (Zh ?a5))))
  case a1=>exact Yi (Ym DC TC.cl hr (pv 0) (Zb (pv 1) Za))
  case a2=>exact Zt (i:=3) scWa.nd rfl (Or.inl rfl) (Yd (Zb (pv 1) Za))
  case a3=>exact Zt (i:=4) scWa.nd rfl (Or.inl rfl) (Zu DP hr (Zb (Zq ZA (ZY (pv 0) rfl) (pv 1) (fun _ _=>rfl)) Za))
  case w0=>exact PassesOwn.never
  case w1=>exact Wo (pv 4) (fun _=>rfl)
  case b1=>exact Zt (i:=5) scWa.nd rfl (Or.inl rfl) (Zq Ye (pv 4) (Zu DG hr (Zb (Zu DM hr (Zb (pv 2) Za)) (Zb (Zr YE (Zv ZG rfl T.len PySem.boot_len (Zb (pv 3) Za)) Ze) Za))) (fun _ _=>rfl))
  case b2=>exact Yi (YO PySem.F.plainAttrs_list PySem.F.slot_list_append PySem.F.type_list_append Yr (pv 3) (Zb (pv 5) Za))
  case b3=>exact Zt (i:=4) scWa.nd rfl (Or.inl rfl) (Zu DP hr (Zb (Zq ZA (ZY (pv 0) rfl) (pv 5) (fun _ _=>rfl)) Za))
  case a5=>exact Zm (pv 3)
 obtain ⟨dx,ob⟩:=S.ob
 refine ⟨_,rfl,st,dx,_,rfl,ob,ZR ln dt,_,rfl,st,ln,dt,nds,tabs,t,rfl,S,htab,_,rfl,(by show 1<=sizeLine;decide),fun l hl=>?_⟩
 obtain ⟨n,hn⟩:∃ n,nds[t]?=some n:=by
  cases fu with
  | zero=>cases hway
  | succ fu =>
   cases e:nds[t]? with
   | none=>unfold Xs at hway;rw [e] at hway;cases hway
   | some n=>exact ⟨n,rfl⟩
 have s1:=Zx hl (.lst [iN t])
 have S1:=S.keep s1
 obtain ⟨as,a,nl,ha,hna⟩:=S1.node hn
 obtain ⟨dx1,ob1⟩:=S1.ob
 refine ⟨_,rfl,st,C,dx1,_,_,rfl,ob1,TC.cl,TC.nN,Xm ln dt,_,rfl,ln,_,_,_,rfl,rfl,SqL.of nl,Zw (by rw [getElem?_map,ha];rfl),a,n,rfl,hna,fun pt H2 s2 hpt=>?_⟩
 refine ⟨fun fl σ H'=>∃ (pre wr:List Nat) (num:Nat) (n:Nd) (pt:Addr) (y:Option V),σ=[some (.ref st),some (iN t),some (.str x),some (.ref l),some (.ref pt),y]/\Same H H'/\H' l=some (.lst ((pre++[num]).map iN))/\nds[num]?=some n/\SqT K H' pt (n.parts.map iN)/\Xs nds (Zy x) fl pre.length num=some wr/\ws=pre++wr/\fl+pre.length<=1000,
  ⟨fu,[],ws,t,n,pt,_,rfl,s1.trans s2,s2 _ _ Zg,hn,hpt,hway,rfl,by simpa using hfu⟩,?_⟩
 rintro fl σ H3 ⟨pre,wr,num,n,pt,y,rfl,s3,hl3,hn3,hpt3,hw3,rfl,hfl⟩
 refine ⟨_,rfl,_,.inr (.inl ⟨_,hpt3,rfl⟩),?_⟩
 have stop:n.parts=[]->Xs nds (Zy x) fl pre.length num=some [num]:=fun z=>by
  cases fl with
  | zero=>cases hw3
  | succ fl =>
   unfold Xs at hw3 ⊢
   rw [hn3] at hw3 ⊢
   cases n with
   | bare=>rfl
   | leaf m ps=>rfl
   | fork qs =>
    have z':qs=[]:=z
    subst z'
    simp at hw3
 by_cases hz:n.parts=[]
 ·rw [hz]
  refine ZP ⟨_,rfl,?_⟩
  have e:=stop hz
  rw [hw3] at e
  cases e
  exact q l H3 hl s3 hl3
 ·have hk : (!(n.parts.map iN).isEmpty)=true:=by
   cases e:n.parts with
   | nil=>exact absurd e hz
   | cons _ _=>rfl
  rw [hk]
  cases n with
  | bare=>exact absurd rfl hz
  | leaf m ps=>exact absurd rfl hz
  | fork qs =>
   cases fl with
   | zero=>cases hw3
   | succ fl =>
    unfold Xs at hw3
    rw [hn3] at hw3
    cases eq1:qs[Yb (Zy x) pre.length]? with
    | none=>simp [eq1] at hw3
    | some q1 =>
     have hw4:(Xs nds (Zy x) fl (pre.length+1) q1).map (num::·)=some wr:=by simpa [eq1] using hw3
     cases eq2:Xs nds (Zy x) fl (pre.length+1) q1 with
     | none=>rw [eq2] at hw4;cases hw4
     | some wr' =>
      rw [eq2] at hw4
      have ewr:num::wr'=wr:=by simpa using hw4
      obtain ⟨n',hn'⟩:∃ n',nds[q1]?=some n':=by
       cases fl with
       | zero=>cases eq2
       | succ fl =>
        cases e:nds[q1]? with
        | none=>unfold Xs at eq2;rw [e] at eq2;cases eq2
        | some n=>exact ⟨n,rfl⟩
      have e2:((((pre++[num]).map iN).length:Nat):Int) - 1=(pre.length:Int):=by rw [length_map,length_append];show ((pre.length+1:Nat):Int) - 1=_;omega
      have hat:YY (qs.map iN) (Zy x / 4 ^ pre.length % 4)=some (iN q1):=by rw [<- Wn];exact Zw (by rw [getElem?_map,eq1];rfl)
      refine Yh ⟨_,fun σ' H' h=>⟨fl,Nat.lt_succ_self _,h⟩,_,rfl,_,rfl,x,rfl,hx,fun H4 s4=>?_⟩
      refine ⟨_,rfl,l,_,rfl,.inl (SqL.of (s4 _ _ hl3)),_,_,rfl,rfl,Zy x,pre.length,congrArg (fun z=>[V.int (Zy x),V.int z]) e2,hm,by omega,pt,_,_,_,rfl,rfl,hpt3.tf s4.tf,hat,?_⟩
      refine ⟨_,rfl,.inl ⟨rfl,_,SqL.of (s4 _ _ hl3)⟩,_,rfl,l,_,_,rfl,rfl,s4 _ _ hl3,(by rw [length_map,length_append];show pre.length+1 < sizeLine;exact Nat.lt_of_le_of_lt (show pre.length+1<=1001 by omega) (by decide)),?_⟩
      have s5:Same H (upd H4 l (.lst ((pre++[num]).map iN++[iN q1]))):=fun b o e=>by rw [Zi (Zs e hl)];exact s4 _ _ (s3 _ _ e)
      have S5:=S.keep s5
      obtain ⟨as5,a5,nl5,ha5,hna5⟩:=S5.node hn'
      obtain ⟨dx5,ob5⟩:=S5.ob
      refine ⟨_,rfl,st,C,dx5,_,_,rfl,ob5,TC.cl,TC.nN,Xm ln dt,_,rfl,ln,_,_,_,rfl,rfl,SqL.of nl5,Zw (by rw [getElem?_map,ha5];rfl),a5,n',rfl,hna5,fun pt6 H6 s6 hpt6=>?_⟩
      refine ⟨pre++[num],wr',q1,n',pt6,_,rfl,s5.trans s6,?_,hn',hpt6,?_,?_,?_⟩
      ·rw [map_append];exact s6 _ _ Zg
      ·rw [length_append];exact eq2
      ·rw [<- ewr,append_assoc];rfl
      ·rw [length_append];show fl+(pre.length+1)<=1000;omega
def lk (ps:ZH)(x:Str):Option V:=ZQ (ps.map fun p=>((Sum.inr p.1:Zk),p.2)) (Sum.inr x)
def Zaz (K:KF)(C:Addr):Sp:=fun vs H Q _=>∃(st ln dt:Addr)(nds:List Nd)(tabs:ZK)(t:Nat)(x:Str)(f:Nat)(ws:List Nat)(e:Nat)(n:Nd),vs=[.ref st,iN t,.str x]/\StoreAt K C st ln dt H nds tabs/\(ZQ tabs (Sum.inl (t:Int))).isSome=true/\x.length<=1000/\0<=Zy x/\f<=1000 /\
 Xs nds (Zy x) f 0 t=some (ws++[e])/\nds[e]?=some n/\n.pairs.length<=1000/\(n.pairs.map (·.1)).Nodup/\∀ H',Same H H'->Q ((lk n.pairs x).getD .non) H'
theorem scLo:Zp ["self","table","name","end"] ["self","table","name"] (Zj c_Store_looked):=⟨rfl,rfl,rfl,by decide +kernel,rfl,by decide +kernel,by decide +kernel⟩
theorem ZhP {f:Addr}{fd:FuncData}(F:Fun K "looked" "Store.looked" c_Store_looked f fd)(T:Txt K mg)(TC:YT K C)(DW:DefM P w K mg base 2 C "way" ["self","table","name"] (Zky K C))(DR:Def P w K mg base 1 "pairs_in" ["node"] (XO K)):FnOk P w K mg base ZL 3 f fd ["self","table","name"] (Zaz K C):=by
 refine F.ok scLo (fun vs H Q E h=>?_) (fun cdv A outer s H vs Q E hr h=>?_)
 ·obtain ⟨st,ln,dt,nds,tabs,t,x,f,ws,e,n,rfl,_⟩:=h;rfl
 obtain ⟨st,ln,dt,nds,tabs,t,x,fu,ws,e,n,rfl,S,htab,hx,hm,hfu,hway,hn,hsz,hnd,q⟩:=h
 refine' ⟨?t,?h,?r⟩
 case h =>
  conv=>arg 2;whnf
  with_reducible refine' Zc ?a1 (Zh ?a2)
  case a1=>exact Zt (i:=3) scLo.nd rfl (Or.inl rfl) (Zq ZA (Ym DW TC.cl hr (pv 0) (Zb (pv 1) (Zb (pv 2) Za))) (Zfm ZdS Ze) (fun _ _=>rfl))
  case a2=>exact Zm (Ub (Wy hr) (Yl (Uo rfl) rfl T.dict (by decide +kernel) (Zb (Zu DR (hr.mono (by decide)) (Zb (Zq ZA (ZY (pv 0) rfl) (pv 3) (fun _ _=>rfl)) Za)) Za)) (pv 2) ⟨rfl,rfl,rfl,rfl⟩)
 obtain ⟨dx,ob⟩:=S.ob
 refine ⟨_,rfl,st,dx,_,rfl,ob,ZR ln dt,_,rfl,_,rfl,st,ln,dt,nds,tabs,t,x,fu,_,rfl,S,htab,hx,hm,hfu,hway,fun r H1 hr1 s1 el=>?_⟩
 refine ⟨_,rfl,r,_,_,iN e,rfl,rfl,SqL.of el,(by rw [map_append];exact ZjK _ _),?_⟩
 have S1:=S.keep s1
 obtain ⟨as,a,nl,ha,hna⟩:=S1.node hn
 obtain ⟨dx1,ob1⟩:=S1.ob
 refine ⟨_,rfl,st,C,dx1,_,_,rfl,ob1,TC.cl,TC.nN,Xm ln dt,_,rfl,ln,_,_,_,rfl,rfl,SqL.of nl,Zw (by rw [getElem?_map,ha];rfl),a,n,rfl,hna,fun pt H2 s2 hpt=>?_⟩
 obtain ⟨o,ts,ept,hod,hlen,hp⟩:=hpt
 refine ⟨pt,ts,n.pairs,rfl,⟨o,ept,hod⟩,hlen,hsz,hp,hnd,fun d hd=>⟨d,rfl,.inl ⟨_,.inl Zg⟩,_,rfl,_,DGet.k (k:=Sum.inr x) Zg,?_⟩⟩
 exact q _ ((s1.trans s2).trans (Zx hd _))
end
def Xr (num lev:Nat):Nd->List Nat
 | .fork qs=>qs
 | .leaf m _=>[0,1,2,3].map fun g=>if g=Yb m lev then num else 0
 | .bare=>[]
def Zdo:Nd->Prop
 | .leaf m ps=>∃ p1 pr,ps=p1::pr/\Zy p1.1=m/\p1.1.length<=1000/\0<=m
 | _=>True
section
variable {P:Program}{w:World}{K:KF}{mg:Str->Option Value}{base:Heap}{C:Addr}
def ZiY (K:KF)(C:Addr):Sp:=fun vs H Q _=>∃(st ln dt:Addr)(nds:List Nd)(tabs:ZK)(num lev:Nat)(n:Nd),vs=[.ref st,iN num,iN lev]/\StoreAt K C st ln dt H nds tabs/\nds[num]?=some n/\n≠.bare/\Zdo n/\lev<=1000 /\
 ∀ r H',H r=none->Same H H'->H' r=some (.lst ((Xr num lev n).map iN))->Q (.ref r) H'
abbrev nFp:List Str:=["self","number","level","node","first_name","at"]
theorem scFp:Zp nFp ["self","number","level"] (Zj c_Store_fork_parts):=⟨rfl,rfl,rfl,by decide +kernel,rfl,by decide +kernel,by decide +kernel⟩
theorem Zno {f:Addr}{fd:FuncData}(F:Fun K "fork_parts" "Store.fork_parts" c_Store_fork_parts f fd)(T:Txt K mg)(TC:YT K C)(DP:Def P w K mg base 1 "parts_in" ["node"] (XH K))(DR:Def P w K mg base 1 "pairs_in" ["node"] (XO K))
 (DM:Def P w K mg base 1 "mark" ["name"] WD) (DG:Def P w K mg base 1 "digit" ["number","level"] Wp):FnOk P w K mg base ZL 2 f fd ["self","number","level"] (ZiY K C):=by
 refine F.ok scFp (fun vs H Q E h=>?_) (fun cdv A outer s H vs Q E hr h=>?_)
 ·obtain ⟨st,ln,dt,nds,tabs,num,lev,n,rfl,_⟩:=h;rfl
 obtain ⟨st,ln,dt,nds,tabs,num,lev,n,rfl,S,hn,hnb,hok,hlev,q⟩:=h
 obtain ⟨tz,hz⟩:=T.zero
 obtain ⟨af,hf,hft⟩:=T.figs
 refine' ⟨?t,?h,?r⟩
 case h =>
  conv=>arg 2;whnf
  with_reducible refine' Zc ?a1 (Zc ?a2 (Zc ?a3 (Zc ?a4 (Zh ?a5))))
  case a1=>exact Zt (i:=3) scFp.nd rfl (Or.inl rfl) (Zq ZA (ZY (pv 0) rfl) (pv 1) (fun _ _=>rfl))
  case a2=>exact Yk (Wo (Zu DP hr (Zb (pv 3) Za)) (fun _=>rfl)) (Zh (Zm (Yl WU rfl T.list (by decide +kernel) (Zb (Zu DP hr (Zb (pv 3) Za)) Za)))) ZW
  case a3=>exact Zt (i:=4) scFp.nd rfl (Or.inl rfl) (Zq Ye (Zq Ye (Zu DR hr (Zb (pv 3) Za)) Ze (fun _ _=>rfl)) Ze (fun _ _=>rfl))
  case a4=>exact Zt (i:=5) scFp.nd rfl (Or.inr rfl) (Zu DG hr (Zb (Zu DM hr (Zb (pv 4) Za)) (Zb (pv 2) Za)))
  case a5=>exact Zm (UN (CompOk.of nFp c_Store_fork_parts rfl rfl (by decide +kernel)) rfl (ZdZ (Xu rfl hf (v:=.ref af) rfl)) (fun _ _ _ _ _=>WX (ZX YA (pv 6) (pv 5) (ZM _)) (pv 1) (Xu rfl hz (v:=.int 0) ⟨_,rfl⟩)))
 obtain ⟨as,a,nl,ha,hna⟩:=S.node hn
 obtain ⟨dx,ob⟩:=S.ob
 refine ⟨_,rfl,st,C,dx,_,_,rfl,ob,TC.cl,TC.nN,Xm ln dt,_,rfl,ln,_,_,_,rfl,rfl,SqL.of nl,Zw (by rw [getElem?_map,ha];rfl),?_⟩
 refine ⟨_,rfl,a,n,rfl,hna,fun pt H2 s2 hpt=>⟨_,.inr (.inl ⟨_,hpt,rfl⟩),?_⟩⟩
 cases n with
 | bare=>exact absurd rfl hnb
 | fork qs =>
  have h4:qs.length=4:=by obtain ⟨_,_,_,z⟩:=hna;exact z
  have hk:(!(((Nd.fork qs).parts).map (fun q:Nat=>V.int (q:Int))).isEmpty)=true:=by
   cases qs with
   | nil=>cases h4
   | cons _ _=>rfl
  rw [hk]
  refine Yh ⟨_,rfl,a,_,rfl,hna.tf s2.tf,fun pt3 H3 s3 hpt3=>⟨pt3,_,rfl,.inr hpt3,fun l hl=>?_⟩⟩
  have hl0:H l=none:=by
   cases e:H l with
   | none=>rfl
   | some o=>rw [s3 _ _ (s2 _ _ e)] at hl;cases hl
  exact q l _ hl0 ((s2.trans s3).trans (Zx hl _)) Zg
 | leaf m ps =>
  obtain ⟨p1,pr,rfl,hm1,hx1,hm0⟩:=hok
  refine ZP ⟨_,rfl,a,_,rfl,hna.tf s2.tf,fun pt3 H3 s3 hpt3=>?_⟩
  obtain ⟨o,ts,ept,hod,hlen,hp⟩:=hpt3
  cases ts with
  | nil=>simp [Nd.pairs] at hlen
  | cons t1 tr =>
   have et1:=hp 0 t1 p1 rfl rfl
   refine ⟨pt3,_,_,_,rfl,rfl,.inl (.inr ⟨o,ept⟩),(show YY ((t1::tr).map V.ref) ((0:Nat):Int)=some (V.ref t1) from Zw rfl),t1,_,_,_,rfl,rfl,SqT.of et1,rfl,?_⟩
   refine ⟨_,rfl,p1.1,rfl,hx1,fun H4 s4=>⟨_,rfl,Zy p1.1,lev,rfl,by rw [hm1];exact hm0,hlev,?_⟩⟩
   refine ⟨af,rfl,⟨_,hft _⟩,fun D hD=>?_⟩
   have s24:=(s2.trans s3).trans s4
   have hD0:H D=none:=by
    cases e:H D with
    | none=>rfl
    | some o=>rw [s24 _ _ e] at hD;cases hD
   refine Zjy (K:=K) (a:=af) (xs:=[.int 0,.int 1,.int 2,.int 3]) (by show 4<=sizeLine;decide) (fun i ys H'=>ys=(([0,1,2,3]:List Nat).take i).map (fun g=>iN (if g=Yb m lev then num else 0))/\i<=4/\H' D=some (.lst ys)/\Same H H') ?_ ?_ ?_ ?_
   ·exact ⟨rfl,by decide,Zg,s24.trans (Zx hD _)⟩
   ·rintro i ys H5 ⟨rfl,hi,_,_⟩
    exact ⟨by rw [length_map,length_take];show min i 4=i;omega,hft _⟩
   ·rintro i x ys H5 hi ⟨rfl,hi4,hD5,s5⟩
    have hi':i < 4:=(List.getElem?_eq_some_iff.mp hi).1
    have ex:x=iN i:=by
     rcases i with _ | _ | _ | _ | i
     ·cases hi;rfl
     ·cases hi;rfl
     ·cases hi;rfl
     ·cases hi;rfl
     ·omega
    subst ex
    have fin:∀ y,y=iN (if i=Yb m lev then num else 0)->H5 D=some (.lst ((([0,1,2,3]:List Nat).take i).map (fun g=>iN (if g=Yb m lev then num else 0))))/\(((([0,1,2,3]:List Nat).take i).map (fun g=>iN (if g=Yb m lev then num else 0))++[y])=(([0,1,2,3]:List Nat).take (i+1)).map (fun g=>iN (if g=Yb m lev then num else 0))/\i+1<=4/\upd H5 D (.lst ((([0,1,2,3]:List Nat).take i).map (fun g=>iN (if g=Yb m lev then num else 0))++[y])) D=some (.lst ((([0,1,2,3]:List Nat).take i).map (fun g=>iN (if g=Yb m lev then num else 0))++[y]))/\Same H (upd H5 D (.lst ((([0,1,2,3]:List Nat).take i).map (fun g=>iN (if g=Yb m lev then num else 0))++[y])))):=by
     intro y ey
     refine ⟨hD5,?_,by omega,Zg,fun b o e=>by rw [Zi (Zs e hD0)];exact s5 _ _ e⟩
     subst ey
     rcases i with _ | _ | _ | _ | i
     ·rfl
     ·rfl
     ·rfl
     ·rfl
     ·omega
    have ed:decide (iN i=V.int (Zy p1.1 / 4 ^ lev % 4))=decide (i=Yb m lev):=by
     rw [hm1,<- Wn]
     by_cases z:i=Yb m lev
     ·rw [decide_eq_true z,z];exact decide_eq_true rfl
     ·rw [decide_eq_false z]
      exact decide_eq_false fun y=>z (by have:=V.int.inj y;omega)
    refine ⟨_,rfl,_,rfl,rfl,_,rfl,?_⟩
    rw [ed]
    by_cases z:i=Yb m lev
    ·rw [decide_eq_true z]
     exact Yh ⟨_,rfl,fin _ (by rw [if_pos z])⟩
    ·rw [decide_eq_false z]
     exact ZP (fin _ (by rw [if_neg z];rfl))
   ·rintro ys H5 ⟨rfl,_,hD5,s5⟩
    refine q D H5 hD0 s5 ?_
    rw [hD5]
    rfl
end
def gK (p:Str×V):Zk×V:=(Sum.inr p.1,p.2)
theorem ZmD (ps:ZH)(x:Str):lk ps x=ZQ (ps.map gK) (Sum.inr x):=rfl
theorem ZgK (x:Str):lk [] x=none:=rfl
theorem WS (p:Str×V)(ps:ZH)(x:Str):lk (p::ps) x=if p.1=x then some p.2 else lk ps x:=by
 by_cases h:p.1=x
 ·rw [if_pos h];exact YJ (show (gK p).1=Sum.inr x by rw [<- h];rfl)
 ·rw [if_neg h];exact YI (show ¬ (gK p).1=Sum.inr x from fun z=>h (Sum.inr.inj z))
theorem YN {ps:ZH}(hnd:(ps.map (·.1)).Nodup){x:Str}{v:V}:lk ps x=some v↔(x,v)∈ps:=by
 induction ps with
 | nil=>simp [ZgK]
 | cons p ps ih =>
  rw [map_cons,nodup_cons] at hnd
  rw [WS]
  by_cases h:p.1=x
  ·rw [if_pos h]
   constructor
   ·intro e
    cases e
    rw [<- h];exact mem_cons_self
   ·intro e
    rcases mem_cons.mp e with e | e
    ·rw [<- e]
    ·exact absurd (h ▸ List.mem_map_of_mem (f:=(·.1)) e) hnd.1
  ·rw [if_neg h,ih hnd.2,mem_cons]
   exact ⟨.inr,fun e=>e.resolve_left fun z=>h (by rw [<- z])⟩
theorem ZbT {ps:ZH}{x:Str}(h:∀ p∈ps,p.1≠x):lk ps x=none:=by
 induction ps with
 | nil=>rfl
 | cons p ps ih=>rw [WS,if_neg (h p mem_cons_self)];exact ih fun q hq=>h q (mem_cons_of_mem _ hq)
theorem ZeP {ps qs:ZH}(h:ps.Perm qs)(hnd:(qs.map (·.1)).Nodup)(x:Str):lk ps x=lk qs x:=by
 have hnd':(ps.map (·.1)).Nodup:=(h.map (·.1)).nodup_iff.mpr hnd
 cases e:lk qs x with
 | some v=>exact (YN hnd').mpr (h.mem_iff.mpr ((YN hnd).mp e))
 | none =>
  cases e2:lk ps x with
  | none=>rfl
  | some v=>rw [(YN hnd).mpr (h.mem_iff.mp ((YN hnd').mp e2))] at e;cases e
def Xt (ps:ZH)(x:Str)(v:V):List (Str×V) :=
 if (ps.any fun p=>decide (p.1=x))=true then ps.map (fun p=>if p.1=x then (p.1,v) else p) else ps++[(x,v)]
theorem Zal (ps:ZH)(x:Str)(v:V):YK (ps.map gK) (Sum.inr x) v=(Xt ps x v).map gK:=by
 have e:∀ p:Str×V,decide ((gK p).1=Sum.inr x)=decide (p.1=x):=fun p=>by
  by_cases h:p.1=x
  ·rw [decide_eq_true h];exact decide_eq_true (by rw [<- h];rfl)
  ·rw [decide_eq_false h];exact decide_eq_false fun z=>h (Sum.inr.inj z)
 have e1:((ps.map gK).any fun kv=>decide (kv.1=Sum.inr x))=ps.any fun p=>decide (p.1=x):=by
  rw [List.any_map];congr 1;funext p;exact e p
 unfold YK Xt
 rw [e1]
 by_cases h:(ps.any fun p=>decide (p.1=x))=true
 ·rw [if_pos h,if_pos h,map_map,map_map]
  congr 1
  funext p
  show (if (gK p).1=Sum.inr x then ((gK p).1,v) else gK p)=gK (if p.1=x then (p.1,v) else p)
  by_cases z:p.1=x
  ·rw [if_pos z,if_pos (show (gK p).1=Sum.inr x by rw [<- z];rfl)];rfl
  ·rw [if_neg z,if_neg (show ¬ (gK p).1=Sum.inr x from fun y=>z (Sum.inr.inj y))]
 ·rw [if_neg h,if_neg h,map_append];rfl
theorem ZcE (ps:ZH)(x:Str)(v:V):(Xt ps x v).map (·.1)=if x∈ps.map (·.1) then ps.map (·.1) else ps.map (·.1)++[x]:=by
 have e:(ps.any fun p=>decide (p.1=x))=true↔x∈ps.map (·.1):=by
  rw [List.any_eq_true,mem_map]
  exact ⟨fun ⟨p,h,z⟩=>⟨p,h,of_decide_eq_true z⟩,fun ⟨p,h,z⟩=>⟨p,h,decide_eq_true z⟩⟩
 unfold Xt
 by_cases h:(ps.any fun p=>decide (p.1=x))=true
 ·rw [if_pos h,if_pos (e.mp h),map_map]
  apply map_congr_left
  intro p _
  show (if p.1=x then (p.1,v) else p).1=p.1
  split<;>rfl
 ·rw [if_neg h,if_neg fun z=>h (e.mpr z),map_append];rfl
theorem ZeO (ps:ZH)(x y:Str)(v:V):lk (Xt ps x v) y=if y=x then some v else lk ps y:=by
 rw [ZmD,<- Zal,WT]
 by_cases h:y=x
 ·rw [if_pos h,if_pos (by rw [h])]
 ·rw [if_neg h,if_neg fun z=>h (Sum.inr.inj z)];rfl
structure Yf (NS:List Str):Prop where
 few:NS.length < 64
 len:∀ x∈NS,x.length<=1000
 lo:∀ x∈NS,0<=Zy x
 hi:∀ x∈NS,Zy x < 1024
structure LeafG (NS:List Str)(m:Int)(ps:ZH):Prop where
 ne:ps≠[]
 nd:(ps.map (·.1)).Nodup
 sub:∀ p∈ps,p.1∈NS
 mrk:∀ p∈ps,Zy p.1=m
def Yq (x:Str):Nat:=(Zy x).toNat
def TriE (NS:List Str)(nds:List Nd)(F:Str->Option V)(lev r num:Nat):Prop :=
 (num=0/\nds[num]?=some .bare/\∀ x∈NS,Yq x % 4 ^ lev=r->F x=none) \/
 ∃ m ps,nds[num]?=some (.leaf m ps)/\LeafG NS m ps/\m.toNat % 4 ^ lev=r/\∀ x∈NS,Yq x % 4 ^ lev=r->F x=lk ps x
def Tri (NS:List Str)(nds:List Nd)(F:Str->Option V):Nat->Nat->Nat->Nat->Prop
 | 0,lev,r,num=>TriE NS nds F lev r num
 | d+1,lev,r,num=>TriE NS nds F lev r num\/∃ qs,nds[num]?=some (.fork qs)/\qs.length=4/\∀ i q,qs[i]?=some q->Tri NS nds F d (lev+1) (r+i * 4 ^ lev) q
def NEx (nds nds':List Nd):Prop:=∀(i:Nat)(n:Nd),nds[i]?=some n->nds'[i]?=some n
theorem NEx.refl (nds:List Nd):NEx nds nds:=fun _ _ h=>h
theorem NEx.trans {a b c:List Nd}(h:NEx a b)(h':NEx b c):NEx a c:=fun i n e=>h' i n (h i n e)
theorem NEx.app (nds:List Nd)(n:Nd):NEx nds (nds++[n]):=fun i m e=>by rw [getElem?_append_left (List.getElem?_eq_some_iff.mp e).1];exact e
section
variable {NS:List Str}{nds nds':List Nd}{F F':Str->Option V}
theorem TriE.mono {lev r num:Nat}(h:TriE NS nds F lev r num)(e:NEx nds nds'):TriE NS nds' F lev r num:=by
 rcases h with ⟨h1,h2,h3⟩ | ⟨m,ps,h1,h2⟩
 ·exact .inl ⟨h1,e _ _ h2,h3⟩
 ·exact .inr ⟨m,ps,e _ _ h1,h2⟩
theorem Tri.mono:∀(d:Nat){lev r num:Nat},Tri NS nds F d lev r num->NEx nds nds'->Tri NS nds' F d lev r num
 | 0,_,_,_,h,e=>TriE.mono h e
 | d+1,_,_,_,.inl h,e=>.inl (TriE.mono h e)
 | d+1,_,_,_,.inr ⟨qs,h1,h2,h3⟩,e=>.inr ⟨qs,e _ _ h1,h2,fun i q hq=>Tri.mono d (h3 i q hq) e⟩
theorem TriE.congr {lev r num:Nat}(h:TriE NS nds F lev r num)(e:∀ x∈NS,Yq x % 4 ^ lev=r->F' x=F x):TriE NS nds F' lev r num:=by
 rcases h with ⟨h1,h2,h3⟩ | ⟨m,ps,h1,h2,h3,h4⟩
 ·exact .inl ⟨h1,h2,fun x hx hr=>by rw [e x hx hr];exact h3 x hx hr⟩
 ·exact .inr ⟨m,ps,h1,h2,h3,fun x hx hr=>by rw [e x hx hr];exact h4 x hx hr⟩
theorem XA (n lev:Nat):n % 4 ^ (lev+1)=n % 4 ^ lev+(n / 4 ^ lev % 4) * 4 ^ lev:=by
 rw [Nat.pow_succ,Nat.mod_mul,Nat.mul_comm (4 ^ lev)]
theorem Xv {n lev r i:Nat}(hr:r < 4 ^ lev)(h:n % 4 ^ (lev+1)=r+i * 4 ^ lev):n % 4 ^ lev=r/\n / 4 ^ lev % 4=i:=by
 rw [XA] at h
 have hp:0 < 4 ^ lev:=Nat.pow_pos (by decide)
 have h1:=Nat.mod_lt n hp
 have e1:n % 4 ^ lev=r:=by
  have z:=congrArg (· % 4 ^ lev) h
  simp only [Nat.add_mul_mod_self_right] at z
  rwa [Nat.mod_mod,Nat.mod_eq_of_lt hr] at z
 refine ⟨e1,?_⟩
 rw [e1] at h
 exact Nat.eq_of_mul_eq_mul_right hp (Nat.add_left_cancel h)
theorem WF {lev r i:Nat}(hr:r < 4 ^ lev)(hi:i < 4):r+i * 4 ^ lev < 4 ^ (lev+1):=by
 rw [Nat.pow_succ]
 have:i * 4 ^ lev<=3 * 4 ^ lev:=Nat.mul_le_mul_right _ (by omega)
 omega
theorem Tri.congr:∀(d:Nat){lev r num:Nat},r < 4 ^ lev->Tri NS nds F d lev r num->(∀ x∈NS,Yq x % 4 ^ lev=r->F' x=F x)->Tri NS nds F' d lev r num
 | 0,_,_,_,_,h,e=>TriE.congr h e
 | d+1,_,_,_,_,.inl h,e=>.inl (TriE.congr h e)
 | d+1,_,_,_,hr,.inr ⟨qs,h1,h2,h3⟩,e=>.inr ⟨qs,h1,h2,fun i q hq=>Tri.congr d (WF hr (by rw [<- h2];exact (List.getElem?_eq_some_iff.mp hq).1)) (h3 i q hq) fun x hx hz=>e x hx (Xv hr hz).1⟩
theorem XJ {n:Int}(h:0<=n)(lev:Nat):Yb n lev=n.toNat / 4 ^ lev % 4:=by
 obtain ⟨k,rfl⟩:=Int.eq_ofNat_of_zero_le h
 unfold Yb
 have:((k:Int) / 4 ^ lev % 4)=((k / 4 ^ lev % 4:Nat):Int):=by norm_cast
 rw [this]
 rfl
theorem ZlN (N:Yf NS):∀(d:Nat){lev r num:Nat}{x:Str},r < 4 ^ lev->Tri NS nds F d lev r num->x∈NS->Yq x % 4 ^ lev=r ->
 ∃ ws e n,Xs nds (Zy x) (d+1) lev num=some (ws++[e])/\nds[e]?=some n/\((e=0/\n=.bare/\F x=none)\/∃ m ps,n=.leaf m ps/\LeafG NS m ps/\F x=lk ps x):=by
 have end_:∀ {lev r num:Nat} {x:Str} (d:Nat),TriE NS nds F lev r num->x∈NS->Yq x % 4 ^ lev=r->∃ ws e n,Xs nds (Zy x) (d+1) lev num=some (ws++[e])/\nds[e]?=some n/\((e=0/\n=.bare/\F x=none)\/∃ m ps,n=.leaf m ps/\LeafG NS m ps/\F x=lk ps x):=by
  intro lev r num x d h hx hr
  rcases h with ⟨h1,h2,h3⟩ | ⟨m,ps,h1,h2,h3,h4⟩
  ·exact ⟨[],num,.bare,by unfold Xs;rw [h2];rfl,h2,.inl ⟨h1,rfl,h3 x hx hr⟩⟩
  ·exact ⟨[],num,.leaf m ps,by unfold Xs;rw [h1];rfl,h1,.inr ⟨m,ps,rfl,h2,h4 x hx hr⟩⟩
 intro d
 induction d with
 | zero=>exact fun _ h hx hr=>end_ 0 h hx hr
 | succ d ih =>
  intro lev r num x hlt h hx hr
  rcases h with h | ⟨qs,h1,h2,h3⟩
  ·exact end_ _ h hx hr
  ·have hi:Yb (Zy x) lev < qs.length:=by rw [h2];exact Uf _ _
   have hq:=getElem?_eq_getElem hi
   obtain ⟨ws,e,n,e1,e2,e3⟩:=ih (WF hlt (Uf _ _)) (h3 _ _ hq) hx (by rw [XA,hr,XJ (N.lo x hx)];rfl)
   refine ⟨num::ws,e,n,?_,e2,e3⟩
   unfold Xs
   rw [h1]
   show ((qs[Yb (Zy x) lev]?).bind fun q=>(Xs nds (Zy x) (d+1) (lev+1) q).map (num::·))=_
   rw [hq]
   show (Xs nds (Zy x) (d+1) (lev+1) _).map (num::·)=_
   rw [e1]
   rfl
end
theorem XM:∀{l N:List Str},l.Nodup->(∀ x∈l,x∈N)->l.length<=N.length:=by
 intro l
 induction l with
 | nil=>intro N _ _;exact Nat.zero_le _
 | cons a l ih =>
  intro N hnd hs
  rw [nodup_cons] at hnd
  have ha:a∈N:=hs a mem_cons_self
  have:=ih (N:=N.erase a) hnd.2 fun x hx=>(List.mem_erase_of_ne (show x≠a from fun z=>hnd.1 (by rw [<- z];exact hx))).mpr (hs x (mem_cons_of_mem _ hx))
  rw [List.length_erase_of_mem ha] at this
  have h1:0 < N.length:=List.length_pos_of_mem ha
  rw [length_cons];omega
section
variable {NS:List Str}{nds nds':List Nd}{F F':Str->Option V}
theorem LeafG.few {m:Int}{ps:ZH}(G:LeafG NS m ps):ps.length<=NS.length:=by
 have:=XM G.nd (N:=NS) fun x hx=>by obtain ⟨p,hp,rfl⟩:=mem_map.mp hx;exact G.sub p hp
 rwa [length_map] at this
theorem LeafG.perm {m:Int}{ps qs:ZH}(G:LeafG NS m ps)(h:qs.Perm ps):LeafG NS m qs :=
 ⟨fun z=>G.ne (by rw [z] at h;exact (List.Perm.nil_eq h).symm),(h.map (·.1)).nodup_iff.mpr G.nd,fun p hp=>G.sub p (h.mem_iff.mp hp),fun p hp=>G.mrk p (h.mem_iff.mp hp)⟩
theorem LeafG.ok {m:Int}{ps:ZH}(N:Yf NS)(G:LeafG NS m ps):Zdo (.leaf m ps):=by
 cases ps with
 | nil=>exact absurd rfl G.ne
 | cons p pr =>
  have h1:=G.mrk p mem_cons_self
  have h2:=G.sub p mem_cons_self
  exact ⟨p,pr,rfl,h1,N.len _ h2,by rw [<- h1];exact N.lo _ h2⟩
theorem Zjt {ps:ZH}{x:Str}(v:V)(hx:x∈NS)(hnd:(ps.map (·.1)).Nodup)(hs:∀ p∈ps,p.1∈NS)(hm:∀ p∈ps,Zy p.1=Zy x):LeafG NS (Zy x) (Xt ps x v):=by
 have hk:=ZcE ps x v
 have hmem:∀ p∈Xt ps x v,p.1∈ps.map (·.1)\/p.1=x:=fun p hp=>by
  have h1:p.1∈(Xt ps x v).map (·.1):=List.mem_map_of_mem hp
  rw [hk] at h1
  by_cases h:x∈ps.map (·.1)
  ·rw [if_pos h] at h1;exact .inl h1
  ·rw [if_neg h] at h1
   rcases mem_append.mp h1 with z | z
   ·exact .inl z
   ·exact .inr (mem_singleton.mp z)
 refine ⟨fun z=>?_,?_,fun p hp=>?_,fun p hp=>?_⟩
 ·rw [z] at hk
  by_cases h:x∈ps.map (·.1)
  ·rw [if_pos h] at hk;rw [<- hk] at h;cases h
  ·rw [if_neg h] at hk;simp at hk
 ·rw [hk]
  by_cases h:x∈ps.map (·.1)
  ·rw [if_pos h];exact hnd
  ·rw [if_neg h,nodup_append]
   exact ⟨hnd,by simp,fun a ha b hb e=>h (by rw [mem_singleton.mp hb] at e;rw [<- e];exact ha)⟩
 ·rcases hmem p hp with z | z
  ·obtain ⟨q,hq,e⟩:=mem_map.mp z
   rw [<- e];exact hs q hq
  ·rw [z];exact hx
 ·rcases hmem p hp with z | z
  ·obtain ⟨q,hq,e⟩:=mem_map.mp z
   rw [<- e];exact hm q hq
  ·rw [z]
def upF (F:Str->Option V)(x:Str)(v:V):Str->Option V:=fun y=>if y=x then some v else F y
theorem ZiL {d lev r:Nat}{m:Int}{ps qs:ZH}{x:Str}{v:V}{num:Nat}(N:Yf NS)(hx:x∈NS)(hr:Yq x % 4 ^ lev=r)(hn:nds[num]?=some (.leaf m qs))(hm:m=Zy x)(G:LeafG NS (Zy x) (Xt ps x v))(hp:qs.Perm (Xt ps x v))
 (hF:∀ y∈NS,Yq y % 4 ^ lev=r->F y=lk ps y):Tri NS nds (upF F x v) d lev r num:=by
 subst hm
 have h:TriE NS nds (upF F x v) lev r num:=by
  refine .inr ⟨Zy x,qs,hn,G.perm hp,hr,fun y hy hry=>?_⟩
  rw [ZeP hp G.nd,ZeO]
  unfold upF
  by_cases h:y=x
  ·rw [if_pos h,if_pos h]
  ·rw [if_neg h,if_neg h];exact hF y hy hry
 cases d with
 | zero=>exact h
 | succ d=>exact .inl h
theorem Zip {d lev r num:Nat}{n:Nd}(N:Yf NS)(h0:nds[0]?=some .bare)(hr:r < 4 ^ lev)(h:Tri NS nds F (d+1) lev r num)(hn:nds[num]?=some n)(hnb:n≠.bare) :
 (Xr num lev n).length=4/\∀ (i q:Nat),(Xr num lev n)[i]?=some q->Tri NS nds F d (lev+1) (r+i * 4 ^ lev) q:=by
 have wrapE:∀ {r' q:Nat},TriE NS nds F (lev+1) r' q->Tri NS nds F d (lev+1) r' q:=fun g=>by
  cases d with
  | zero=>exact g
  | succ d=>exact .inl g
 rcases h with h | ⟨qs,h1,h2,h3⟩
 ·rcases h with ⟨_,e,_⟩ | ⟨m,ps,e,G,hm,hF⟩
  ·rw [hn] at e;cases e;exact absurd rfl hnb
  ·rw [hn] at e;cases e
   obtain ⟨p1,pr,e1,e2,e3,e4⟩:=G.ok N
   refine ⟨rfl,fun i q hq=>?_⟩
   have hi:i < 4:=(List.getElem?_eq_some_iff.mp hq).1
   have hq':(if i=Yb m lev then num else 0)=q:=by
    rcases i with _ | _ | _ | _ | i
    ·exact Option.some.inj hq
    ·exact Option.some.inj hq
    ·exact Option.some.inj hq
    ·exact Option.some.inj hq
    ·omega
   have hmm:m.toNat % 4 ^ (lev+1)=r+Yb m lev * 4 ^ lev:=by rw [XA,hm,XJ e4]
   by_cases z:i=Yb m lev
   ·rw [if_pos z] at hq'
    subst hq'
    exact wrapE (.inr ⟨m,ps,hn,G,by rw [hmm,z],fun y hy hry=>hF y hy (Xv hr hry).1⟩)
   ·rw [if_neg z] at hq'
    subst hq'
    refine wrapE (.inl ⟨rfl,h0,fun y hy hry=>?_⟩)
    rw [hF y hy (Xv hr hry).1]
    refine ZbT fun p hp e=>z ?_
    have:=(Xv hr hry).2
    rw [<- this,<- e]
    unfold Yq
    rw [G.mrk p hp,XJ e4]
 ·rw [hn] at h1;cases h1
  exact ⟨h2,h3⟩
theorem Zju {r num:Nat}{n:Nd}{x:Str}(N:Yf NS)(h:Tri NS nds F 0 5 r num)(hn:nds[num]?=some n)(hnb:n≠.bare)(hx:x∈NS)(hr:Yq x % 4 ^ 5=r):n.hasM (Zy x)=true:=by
 rcases h with ⟨_,e,_⟩ | ⟨m,ps,e,G,hm,hF⟩
 ·rw [hn] at e;cases e;exact absurd rfl hnb
 ·rw [hn] at e;cases e
  refine decide_eq_true ?_
  obtain ⟨p1,pr,e1,e2,e3,e4⟩:=G.ok N
  have h1:Zy p1.1 < 1024:=N.hi _ (G.sub p1 (by rw [e1];exact mem_cons_self))
  have h2:=N.hi x hx
  have h3:=N.lo x hx
  rw [e2] at h1
  unfold Yq at hr
  have h4:m.toNat % 1024=r:=hm
  have h5:(Zy x).toNat % 1024=r:=hr
  rw [Nat.mod_eq_of_lt (by omega)] at h4 h5
  omega
theorem ZiW {d lev r num num':Nat}{qs:List Nat}{x:Str}{v:V}(N:Yf NS)(hr:r < 4 ^ lev)(hx:x∈NS)(hxr:Yq x % 4 ^ lev=r)(hl:qs.length=4)(hq:∀(i q:Nat),qs[i]?=some q->Tri NS nds F d (lev+1) (r+i * 4 ^ lev) q)
 (e:NEx nds nds') (hn:Tri NS nds' F' d (lev+1) (r+Yb (Zy x) lev * 4 ^ lev) num') (hF:∀ y,y≠x->F' y=F y) (h:nds'[num]?=some (.fork (qs.set (Yb (Zy x) lev) num'))):Tri NS nds' F' (d+1) lev r num:=by
 refine .inr ⟨_,h,by rw [length_set,hl],fun i q hi=>?_⟩
 have hi4:i < 4:=by rw [<- hl];have:=(List.getElem?_eq_some_iff.mp hi).1;rwa [length_set] at this
 rw [List.getElem?_set] at hi
 by_cases z:Yb (Zy x) lev=i
 ·rw [if_pos z,if_pos (by rw [hl,z];exact hi4)] at hi
  cases hi
  rw [<- z]
  exact hn
 ·rw [if_neg z] at hi
  refine Tri.congr d (WF hr hi4) (Tri.mono d (hq i q hi) e) fun y hy hry=>hF y fun w=>z ?_
  rw [w] at hry
  rw [XJ (N.lo x hx)]
  exact (Xv hr hry).2
end
section
variable {P:Program}{w:World}{K:KF}{mg:Str->Option Value}{base:Heap}{C Pl:Addr}{NS:List Str}
def Vz (K:KF)(C Pl:Addr)(NS:List Str):Nat->Sp
 | 0=>fun _ _ _ _=>False
 | d+1=>fun vs H Q _=>∃ (st ln dt:Addr) (nds:List Nd) (tabs:ZK) (num lev r:Nat) (x:Str) (v:V) (F:Str->Option V),vs=[.ref st,iN num,iN lev,.str x,v]/\StoreAt K C st ln dt H nds tabs/\nds[0]?=some .bare/\Tri NS nds F d lev r num/\r < 4 ^ lev/\lev+d=5/\x∈NS/\Yq x % 4 ^ lev=r/\nds.length+d+1<=100000/\LamAt H Pl YM XG /\
  ∀ (H':Hp) (nds':List Nd) (num':Nat),StoreAt K C st ln dt H' nds' tabs->NEx nds nds'->nds'.length<=nds.length+d+1->Tri NS nds' (upF F x v) d lev r num'->LamAt H' Pl YM XG->Kq [ln,Pl] H H'->TF H H'->Q (iN num') H'
abbrev nPi:List Str:=["self","number","level","name","value"]
theorem scPI:Zp ["self","number","level","name","value","node","pairs","parts","figure"] nPi (Zj c_Store_put_in):=⟨rfl,rfl,rfl,by decide +kernel,rfl,by decide +kernel,by decide +kernel⟩
theorem Wq {nds:List Nd}{F:Str->Option V}:∀{d lev r num:Nat},Tri NS nds F d lev r num->∃ n,nds[num]?=some n/\(n=.bare->num=0):=by
 have e:∀ {lev r num:Nat},TriE NS nds F lev r num->∃ n,nds[num]?=some n/\(n=.bare->num=0):=fun h=>by
  rcases h with ⟨h1,h2,_⟩ | ⟨m,ps,h1,_⟩
  ·exact ⟨_,h2,fun _=>h1⟩
  ·exact ⟨_,h1,fun z=>by cases z⟩
 intro d lev r num h
 cases d with
 | zero=>exact e h
 | succ d =>
  rcases h with h | ⟨qs,h1,_⟩
  ·exact e h
  ·exact ⟨_,h1,fun z=>by cases z⟩
theorem Zil {nds:List Nd}{F:Str->Option V}{d lev r num:Nat}{n:Nd}{x:Str}(h0:nds[0]?=some .bare)(h:Tri NS nds F d lev r num)(hn:nds[num]?=some n)(hc:num=0\/n.hasM (Zy x)=true) :
 (n.pairs.map (·.1)).Nodup/\(∀ p∈n.pairs,p.1∈NS)/\(∀ p∈n.pairs,Zy p.1=Zy x)/\(∀ y∈NS,Yq y % 4 ^ lev=r->F y=lk n.pairs y)/\n.pairs.length<=NS.length:=by
 have e:TriE NS nds F lev r num->(n.pairs.map (·.1)).Nodup/\(∀ p∈n.pairs,p.1∈NS)/\(∀ p∈n.pairs,Zy p.1=Zy x)/\(∀ y∈NS,Yq y % 4 ^ lev=r->F y=lk n.pairs y)/\n.pairs.length<=NS.length:=fun g=>by
  rcases g with ⟨h1,h2,h3⟩ | ⟨m,ps,h1,G,hm,hF⟩
  ·rw [hn] at h2;cases h2
   exact ⟨nodup_nil,fun p hp=>(by cases hp),fun p hp=>(by cases hp),h3,Nat.zero_le _⟩
  ·rw [hn] at h1;cases h1
   rcases hc with z | z
   ·rw [z,h0] at hn;cases hn
   ·have z':m=Zy x:=of_decide_eq_true z
    exact ⟨G.nd,G.sub,fun p hp=>by rw [G.mrk p hp,z'],hF,G.few⟩
 cases d with
 | zero=>exact e h
 | succ d =>
  rcases h with h | ⟨qs,h1,_⟩
  ·exact e h
  ·rw [hn] at h1;cases h1
   rcases hc with z | z
   ·rw [z,h0] at hn;cases hn
   ·cases z
theorem ZkH {f:Addr}{fd:FuncData}{d k:Nat}(N:Yf NS)(hk:2<=k)(F:Fun K "put_in" "Store.put_in" c_Store_put_in f fd)(T:Txt K mg)(TC:YT K C)
 (DH:Def P w K mg base 1 "has_mark" ["node","number"] (VQ K)) (DR:Def P w K mg base 1 "pairs_in" ["node"] (XO K)) (DM:Def P w K mg base 1 "mark" ["name"] WD) (DG:Def P w K mg base 1 "digit" ["number","level"] Wp)
 (DL:Def P w K mg base 2 "leaf_of" ["pairs"] (VA K Pl YM)) (DO:Def P w K mg base 1 "fork_of" ["parts"] (Ud K)) (DK:DefM P w K mg base 1 C "keep" ["self","node"] (VC K C)) (DF:DefM P w K mg base 2 C "fork_parts" ["self","number","level"] (ZiY K C))
 (DI:DefM P w K mg base k C "put_in" nPi (Vz K C Pl NS d)):FnOk P w K mg base ZL (k+1) f fd nPi (Vz K C Pl NS (d+1)):=by
 refine F.ok scPI (fun vs H Q E h=>?_) (fun cdv A outer s H vs Q E hr h=>?_)
 ·obtain ⟨st,ln,dt,nds,tabs,num,lev,r,x,v,F,rfl,_⟩:=h;rfl
 obtain ⟨st,ln,dt,nds,tabs,num,lev,r,x,v,Fm,rfl,S,h0,htri,hrl,hlev,hx,hxr,hlen,hL,q⟩:=h
 obtain ⟨tz,hz⟩:=T.zero
 have hr1:=hr.mono (show 1<=k by omega)
 have hr2:=hr.mono hk
 refine' ⟨?t,?h,?r⟩
 case h =>
  conv=>arg 2;whnf
  with_reducible refine' Zc ?a1 (Zc (Yk ?a2 (Zc ?c1 (Zc ?c2 (Zh ?c3))) ZW) (Zc ?a3 (Zc ?a4 (Zc ?a5 (Zh ?a6)))))
  case a1=>exact Zt (i:=5) scPI.nd rfl (Or.inl rfl) (Zq ZA (ZY (pv 0) rfl) (pv 1) (fun _ _=>rfl))
  case a2=>exact PW.pt (ZcX (ZX YA (pv 1) (Xu rfl hz (v:=.int 0) ⟨_,rfl⟩) (ZM _)) (ZaU (XR (Zu DH hr1 (Zb (pv 5) (Zb (Zu DM hr1 (Zb (pv 3) Za)) Za))))))
  case c1=>exact Zt (i:=6) scPI.nd rfl (Or.inl rfl) (Yl (Uo rfl) rfl T.dict (by decide +kernel) (Zb (Zu DR hr1 (Zb (pv 5) Za)) Za))
  case c2=>exact ZbB (Wy hr) (pv 6) (pv 3) (pv 4) rfl
  case c3=>exact Zm (Ym DK TC.cl hr1 (pv 0) (Zb (Zu DL hr2 (Zb (Yl (Zbj rfl) rfl T.list (by decide +kernel) (Zb (ZmK PySem.F.plainAttrs_dict PySem.F.slot_dict_items PySem.F.type_dict_items Zjp (pv 6)) Za)) Za)) Za))
  case a3=>exact Zt (i:=7) scPI.nd rfl (Or.inl rfl) (Ym DF TC.cl hr2 (pv 0) (Zb (pv 1) (Zb (pv 2) Za)))
  case a4=>exact Zt (i:=8) scPI.nd rfl (Or.inl rfl) (Zu DG hr1 (Zb (Zu DM hr1 (Zb (pv 3) Za)) (Zb (pv 2) Za)))
  case a5=>exact Wc (Ym DI TC.cl hr (pv 0) (Zb (Zq ZA (pv 7) (pv 8) (fun _ _=>rfl)) (Zb (Zr YL (pv 2) Ze) (Zb (pv 3) (Zb (pv 4) Za))))) (Zbx (pv 7) (pv 8) UY)
  case a6=>exact Zm (Ym DK TC.cl hr1 (pv 0) (Zb (Zu DO hr1 (Zb (pv 7) Za)) Za))
 obtain ⟨n,hn,hbare⟩:=Wq htri
 obtain ⟨as,a,nl,ha,hna⟩:=S.node hn
 obtain ⟨dx,ob⟩:=S.ob
 obtain ⟨tb,htb⟩:=hL.tbl
 have hst:st ∉ [Pl]:=fun z=>by rw [mem_singleton.mp z,htb] at ob;cases ob
 have hln:ln ∉ [Pl]:=fun z=>by rw [mem_singleton.mp z,htb] at nl;cases nl
 have hdt:dt ∉ [Pl]:=fun z=>by have e:=S.tb;rw [mem_singleton.mp z,htb] at e;cases e
 refine ⟨_,rfl,st,C,dx,_,_,rfl,ob,TC.cl,TC.nN,Xm ln dt,_,rfl,ln,_,_,_,rfl,rfl,SqL.of nl,Zw (by rw [getElem?_map,ha];rfl),?_⟩
 refine ⟨_,rfl,rfl,_,rfl,?_⟩
 have ed:decide (iN num=V.int 0)=decide (num=0):=by
  by_cases z:num=0
  ·rw [decide_eq_true z,z];exact decide_eq_true rfl
  ·rw [decide_eq_false z]
   exact decide_eq_false fun y=>z (by have:=V.int.inj y;omega)
 rw [ed]
 rcases Classical.em (num=0\/n.hasM (Zy x)=true) with hc | hc
 ·obtain ⟨hnd,hsub,hmrk,hF,hfew⟩:=Zil h0 htri hn hc
  by_cases z0:num=0
  rw [decide_eq_true z0]
  have s1:Same H H:=Same.refl H
  refine Yh (Yh ?_)
  rotate_left
  rw [decide_eq_false z0]
  refine ZP ⟨_,rfl,_,rfl,x,rfl,N.len x hx,fun H1 s1=>⟨a,n,Zy x,rfl,hna.tf s1.tf,_,rfl,?_⟩⟩
  rw [hc.resolve_left z0]
  refine Yh ?_
  all_goals
   have S1:=S.keep s1
   refine ⟨_,rfl,a,n,rfl,hna.tf s1.tf,fun pt H2 s2 hpt=>?_⟩
   obtain ⟨o,ts,ept,hod,hlts,hp⟩:=hpt
   have hfw:=N.few
   refine ⟨pt,ts,n.pairs,rfl,⟨o,ept,hod⟩,hlts,by omega,hp,hnd,fun dd hd=>?_⟩
   have hd0:H dd=none:=by
    cases e:H dd with
    | none=>rfl
    | some o=>rw [s2 _ _ (s1 _ _ e)] at hd;cases hd
   have s3:=Zx hd (.dK (n.pairs.map fun p=>((Sum.inr p.1:Zk),p.2)))
   refine ⟨_,rfl,_,rfl,_,rfl,dd,_,rfl,DPut.k (k:=Sum.inr x) Zg (by rw [length_map];exact Nat.lt_of_le_of_lt (show n.pairs.length<=64 by omega) (by decide)),?_⟩
   have s4:Same H (upd (upd H2 dd (.dK (n.pairs.map fun p=>((Sum.inr p.1:Zk),p.2)))) dd (.dK (YK (n.pairs.map fun p=>((Sum.inr p.1:Zk),p.2)) (Sum.inr x) v))):=fun b o e=>by
    rw [Zi (Zs e hd0),Zi (Zs e hd0)];exact s2 _ _ (s1 _ _ e)
   have ed4:upd (upd H2 dd (.dK (n.pairs.map fun p=>((Sum.inr p.1:Zk),p.2)))) dd (.dK (YK (n.pairs.map fun p=>((Sum.inr p.1:Zk),p.2)) (Sum.inr x) v)) dd=some (.dK ((Xt n.pairs x v).map gK)):=by
    rw [Zg,<- Zal];rfl
   generalize upd (upd H2 dd (.dK (n.pairs.map fun p=>((Sum.inr p.1:Zk),p.2)))) dd (.dK (YK (n.pairs.map fun p=>((Sum.inr p.1:Zk),p.2)) (Sum.inr x) v))=H4 at *
   have S4:=S.keep s4
   obtain ⟨dx4,ob4⟩:=S4.ob
   refine ⟨_,rfl,st,dx4,_,rfl,ob4,ZR ln dt,_,rfl,.inr (.inr (.inl ⟨rfl,.inl ⟨_,ed4⟩⟩)),dd,_,rfl,rfl,ed4,fun vv hvv=>?_⟩
   have s5:=Zx hvv (.ext (ZaH vv dd))
   refine ⟨vv,dd,_,rfl,Zg,s5 _ _ ed4,fun l ts2 H5 hl5 s5b hlt2 hnone htup hlst=>?_⟩
   have s6:Same H H5:=(s4.trans s5).trans s5b
   have G:=Zjt (NS:=NS) v hx hnd hsub hmrk
   have hPT:PairT H5 ts2 (Xt n.pairs x v):=by
    refine ⟨by rw [hlt2,length_map],fun i b p e1 e2=>?_⟩
    exact htup i b (gK p) e1 (by rw [getElem?_map,e2];rfl)
   have hL5:=LamAt.same hL s6
   refine ⟨l,ts2,Xt n.pairs x v,rfl,hlst,hPT,G.ne,by have:=G.few;omega,fun p hp=>N.len _ (G.sub p hp),hL5,fun a6 H6 p1 pr g6 L6 perm6 sort6 node6=>?_⟩
   have tb5:H5 Pl=some (.tbl tb):=s6 _ _ htb
   have tf6:TF H5 H6:=g6.tf tb5
   have S6:=(S.keep s6).kq g6.kq tf6 hst hln hdt
   refine ⟨st,ln,dt,a6,nds,tabs,_,rfl,S6,node6,by omega,fun H7 S7 k7 tf7=>?_⟩
   have nl6:∃ xs,H6 ln=some (.lst xs):=by obtain ⟨as6,e6,_⟩:=S6.nl;exact ⟨_,e6⟩
   have hmk:Zy p1.1=Zy x:=(G.perm perm6).mrk p1 mem_cons_self
   refine q H7 _ nds.length S7 (NEx.app nds _) (by rw [length_append];show nds.length+1<=_;omega) ?_ (L6.kq k7 fun b hb=>by rw [mem_singleton.mp hb];exact nl6) ?_ ((s6.tf.trans tf6).trans tf7)
   ·exact ZiL (ps:=n.pairs) N hx hxr (by rw [getElem?_append_right (Nat.le_refl _),Nat.sub_self];rfl) hmk G perm6 hF
   ·exact (Same.kq s6).trans ((g6.kq.sub fun b hb=>by simp at hb ⊢;exact .inr hb).trans (k7.sub fun b hb=>by simp at hb ⊢;exact .inl hb))
 ·have z0:num≠0:=fun z=>hc (.inl z)
  have zm:n.hasM (Zy x)=false:=by
   cases e:n.hasM (Zy x) with
   | false=>rfl
   | true=>exact absurd (.inr e) hc
  have hnb:n≠.bare:=fun z=>z0 (hbare z)
  rw [decide_eq_false z0]
  refine ZP ⟨_,rfl,_,rfl,x,rfl,N.len x hx,fun H1 s1=>⟨a,n,Zy x,rfl,hna.tf s1.tf,_,rfl,?_⟩⟩
  rw [zm]
  refine ZP ?_
  cases d with
  | zero =>
   have h5:lev=5:=by omega
   subst h5
   exact absurd (.inr (Zju N htri hn hnb hx hxr)) hc
  | succ d =>
   obtain ⟨hf4,hft⟩:=Zip N h0 hrl htri hn hnb
   have hok:Zdo n:=by
    rcases htri with htri | ⟨qs,h1,_⟩
    ·rcases htri with ⟨z,_⟩ | ⟨m,ps,h1,G,_⟩
     ·exact absurd z z0
     ·rw [hn] at h1;cases h1;exact G.ok N
    ·rw [hn] at h1;cases h1;exact trivial
   have S1:=S.keep s1
   obtain ⟨dx1,ob1⟩:=S1.ob
   refine ⟨_,rfl,st,dx1,_,rfl,ob1,ZR ln dt,_,rfl,_,rfl,st,ln,dt,nds,tabs,num,lev,n,rfl,S1,hn,hnb,hok,by omega,fun rl H2 hrl1 s2 el=>?_⟩
   refine ⟨_,rfl,x,rfl,N.len x hx,fun H3 s3=>⟨_,rfl,Zy x,lev,rfl,N.lo x hx,by omega,?_⟩⟩
   have s13:Same H H3:=(s1.trans s2).trans s3
   have S3:=S.keep s13
   have hrl0:H rl=none:=by
    cases e:H rl with
    | none=>rfl
    | some o=>rw [s1 _ _ e] at hrl1;cases hrl1
   have el3:=s3 _ _ el
   have hdl:Yb (Zy x) lev < (Xr num lev n).length:=by rw [hf4];exact Uf _ _
   have hq1:=getElem?_eq_getElem hdl
   generalize (Xr num lev n)[Yb (Zy x) lev]=q1 at hq1
   have hat:YY ((Xr num lev n).map iN) (Zy x / 4 ^ lev % 4)=some (iN q1):=by rw [<- Wn];exact Zw (by rw [getElem?_map,hq1];rfl)
   obtain ⟨dx3,ob3⟩:=S3.ob
   refine ⟨_,rfl,st,dx3,_,rfl,ob3,ZR ln dt,_,rfl,_,rfl,rl,_,_,_,rfl,rfl,SqL.of el3,hat,_,rfl,_,_,rfl,rfl,_,rfl,_,rfl,?_⟩
   refine ⟨st,ln,dt,nds,tabs,q1,lev+1,_,x,v,Fm,rfl,S3,h0,hft _ _ hq1,WF hrl (Uf _ _),by omega,hx,by rw [XA,hxr,XJ (N.lo x hx)];rfl,by omega,LamAt.same hL s13,fun H5 nds5 num5 S5 ext5 len5 tri5 L5 kq5 tf5=>?_⟩
   have nrl:rl ∉ [ln,Pl]:=fun z=>by
    rcases mem_cons.mp z with z | z
    ·rw [z,nl] at hrl0;cases hrl0
    ·rw [mem_singleton.mp z,htb] at hrl0;cases hrl0
   have el5:=kq5 _ _ nrl el3
   have hix:WI ((Xr num lev n).map iN).length (Zy x / 4 ^ lev % 4)=some (Yb (Zy x) lev):=by
    rw [<- Wn,length_map]
    unfold WI
    rw [if_pos (by omega),if_pos (by omega)]
    rfl
   refine ⟨_,rfl,_,rfl,rl,_,_,_,rfl,rfl,el5,hix,?_⟩
   have tf6:=ZaL (o:=.lst (((Xr num lev n).map iN).set (Yb (Zy x) lev) (iN num5))) el5
   have k6:Kq [rl] H5 (upd H5 rl (.lst (((Xr num lev n).map iN).set (Yb (Zy x) lev) (iN num5)))):=ZaE
   have nst:st ∉ [rl]:=fun z=>by rw [<- mem_singleton.mp z,ob] at hrl0;cases hrl0
   have nln:ln ∉ [rl]:=fun z=>by rw [<- mem_singleton.mp z,nl] at hrl0;cases hrl0
   have ndt:dt ∉ [rl]:=fun z=>by rw [<- mem_singleton.mp z,S.tb] at hrl0;cases hrl0
   have S6:=S5.kq k6 tf6 nst nln ndt
   have el6:upd H5 rl (.lst (((Xr num lev n).map iN).set (Yb (Zy x) lev) (iN num5))) rl=some (.lst (((Xr num lev n).set (Yb (Zy x) lev) num5).map iN)):=by rw [Zg,List.map_set]
   have L6:=L5.kq k6 fun b hb=>by rw [mem_singleton.mp hb];exact ⟨_,el5⟩
   have kh:Kq [ln,Pl] H (upd H5 rl (.lst (((Xr num lev n).map iN).set (Yb (Zy x) lev) (iN num5)))):=fun b o nb e=>by
    rw [Zi (Zs e hrl0)];exact kq5 _ _ nb (s13 _ _ e)
   generalize upd H5 rl (.lst (((Xr num lev n).map iN).set (Yb (Zy x) lev) (iN num5)))=H6 at *
   obtain ⟨dx6,ob6⟩:=S6.ob
   refine ⟨_,rfl,st,dx6,_,rfl,ob6,ZR ln dt,_,rfl,rl,(Xr num lev n).set (Yb (Zy x) lev) num5,rfl,el6,by rw [length_set,hf4],fun a7 H7 s7 node7=>?_⟩
   have S7:=S6.keep s7
   refine ⟨st,ln,dt,a7,nds5,tabs,_,rfl,S7,node7,by omega,fun H8 S8 k8 tf8=>?_⟩
   have nl7:∃ xs,H7 ln=some (.lst xs):=by obtain ⟨as7,e7,_⟩:=S7.nl;exact ⟨_,e7⟩
   refine q H8 _ nds5.length S8 (ext5.trans (NEx.app nds5 _)) (by rw [length_append];show nds5.length+1<=_;omega) ?_ ((LamAt.same L6 s7).kq k8 fun b hb=>by rw [mem_singleton.mp hb];exact nl7) ?_ ((((s13.tf.trans tf5).trans tf6).trans s7.tf).trans tf8)
   ·refine ZiW (v:=v) (num':=num5) (F:=Fm) (qs:=Xr num lev n) N hrl hx hxr hf4 hft (ext5.trans (NEx.app nds5 _)) (Tri.mono d tri5 (NEx.app nds5 _)) (fun y hy=>if_neg hy) ?_
    rw [getElem?_append_right (Nat.le_refl _),Nat.sub_self];rfl
   ·exact (kh.trans (Same.kq s7)).trans (k8.sub fun b hb=>by simp at hb ⊢;exact .inl hb)
end
section
variable {P:Program}{w:World}{K:KF}{mg:Str->Option Value}{base:Heap}{C Pl:Addr}{NS:List Str}
theorem ZeD {f:Addr}{fd:FuncData}(N:Yf NS)(F:Fun K "put_in" "Store.put_in" c_Store_put_in f fd)(T:Txt K mg)(TC:YT K C)
 (DH:Def P w K mg base 1 "has_mark" ["node","number"] (VQ K)) (DR:Def P w K mg base 1 "pairs_in" ["node"] (XO K)) (DM:Def P w K mg base 1 "mark" ["name"] WD) (DG:Def P w K mg base 1 "digit" ["number","level"] Wp)
 (DL:Def P w K mg base 2 "leaf_of" ["pairs"] (VA K Pl YM)) (DO:Def P w K mg base 1 "fork_of" ["parts"] (Ud K)) (DK:DefM P w K mg base 1 C "keep" ["self","node"] (VC K C)) (DF:DefM P w K mg base 2 C "fork_parts" ["self","number","level"] (ZiY K C))
 (b:Binds K fd nPi []) (mt:VE K C "put_in" f):∀ d,FnOk P w K mg base ZL (2+d) f fd nPi (Vz K C Pl NS d)
 | 0=>F.ok scPI (fun _ _ _ _ h=>h.elim) (fun _ _ _ _ _ _ _ _ _ h=>h.elim)
 | d+1=>ZkH N (Nat.le_add_right 2 d) F T TC DH DR DM DG DL DO DK DF ⟨f,fd,ZeD N F T TC DH DR DM DG DL DO DK DF b mt d,b,mt⟩
def ZbS:Sp:=fun vs H Q _=>∃ u v,vs=[u,v]/\scal u v=true/\Q (.bl (decide (u=v))) H
theorem scAl:Zp ["one","other"] ["one","other"] (Zj s_alike):=⟨rfl,rfl,rfl,by decide +kernel,rfl,by decide +kernel,by decide +kernel⟩
theorem ZjN {f:Addr}{fd:FuncData}(F:Fun K "alike" "alike" s_alike f fd):FnOk P w K mg base ZL 1 f fd ["one","other"] ZbS:=by
 refine F.ok scAl (fun vs H Q E h=>?_) (fun cdv A outer s H vs Q E hr h=>?_)
 ·obtain ⟨u,v,rfl,_⟩:=h;rfl
 obtain ⟨u,v,rfl,hs,q⟩:=h
 exact ⟨_,Zh (Zm (YZ YA (pv 0) (pv 1) (ZM _))),⟨_,rfl,_,rfl,hs,q⟩⟩
def ValV:V->Prop
 | .int _=>True
 | .str _=>True
 | _=>False
theorem ValV.scal {o:Option V}{v:V}(h:ValV v)(ho:∀ u,o=some u->ValV u):scal (o.getD .non) v=true:=by
 cases o with
 | none=>cases v<;>first | rfl | exact h.elim
 | some u =>
  have hu:=ho u rfl
  cases u<;>first | exact hu.elim | (cases v<;>first | rfl | exact h.elim)
theorem ValV.ne {v:V}(h:ValV v):v≠.non:=fun z=>by subst z;exact h
theorem ZaY {nds:List Nd}{F:Str->Option V}{t:Nat}{x:Str}(N:Yf NS)(h:Tri NS nds F 5 0 0 t)(hx:x∈NS) :
 ∃ ws e n,Xs nds (Zy x) 6 0 t=some (ws++[e])/\nds[e]?=some n/\n.pairs.length<=1000/\(n.pairs.map (·.1)).Nodup/\lk n.pairs x=F x:=by
 obtain ⟨ws,e,n,e1,e2,e3⟩:=ZlN N 5 (by decide) h hx (by rw [Nat.pow_zero,Nat.mod_one])
 refine ⟨ws,e,n,e1,e2,?_⟩
 have hf:=N.few
 rcases e3 with ⟨_,rfl,z⟩ | ⟨m,ps,rfl,G,z⟩
 ·exact ⟨Nat.zero_le _,nodup_nil,by rw [z];rfl⟩
 ·exact ⟨by have:=G.few;show ps.length<=1000;omega,G.nd,z.symm⟩
def Zkp (K:KF)(C Pl:Addr)(NS:List Str):Sp:=fun vs H Q _=>∃(st ln dt:Addr)(nds:List Nd)(tabs:ZK)(t:Nat)(x:Str)(v:V)(F:Str->Option V),vs=[.ref st,iN t,.str x,v]/\StoreAt K C st ln dt H nds tabs/\nds[0]?=some .bare/\(ZQ tabs (Sum.inl (t:Int))).isSome=true/\Tri NS nds F 5 0 0 t/\x∈NS/\ValV v/\(∀ u,F x=some u->ValV u)/\nds.length+6<=100000/\tabs.length<=100000/\LamAt H Pl YM XG /\
 ∀ (H':Hp) (nds':List Nd) (tabs':ZK) (t':Nat),StoreAt K C st ln dt H' nds' tabs'->NEx nds nds'->nds'.length<=nds.length+6->tabs'.length<=tabs.length+1->(∀ k,(ZQ tabs k).isSome=true->(ZQ tabs' k).isSome=true)->(ZQ tabs' (Sum.inl (t':Int))).isSome=true->Tri NS nds' (upF F x v) 5 0 0 t'->LamAt H' Pl YM XG->Kq [ln,dt,Pl] H H'->TF H H'->Q (iN t') H'
theorem scPu:Zp ["self","table","name","value"] ["self","table","name","value"] (Zj c_Store_put):=⟨rfl,rfl,rfl,by decide +kernel,rfl,by decide +kernel,by decide +kernel⟩
theorem Zmk {f:Addr}{fd:FuncData}(N:Yf NS)(F:Fun K "put" "Store.put" c_Store_put f fd)(TC:YT K C)(DA:Def P w K mg base 1 "alike" ["one","other"] ZbS)(DLk:DefM P w K mg base 3 C "looked" ["self","table","name"] (Zaz K C))
 (DAs:DefM P w K mg base 1 C "as_table" ["self","number"] (ZfE K C)) (DI:DefM P w K mg base 8 C "put_in" nPi (Vz K C Pl NS 6)):FnOk P w K mg base ZL 9 f fd ["self","table","name","value"] (Zkp K C Pl NS):=by
 refine F.ok scPu (fun vs H Q E h=>?_) (fun cdv A outer s H vs Q E hr h=>?_)
 ·obtain ⟨st,ln,dt,nds,tabs,t,x,v,F,rfl,_⟩:=h;rfl
 obtain ⟨st,ln,dt,nds,tabs,t,x,v,Fm,rfl,S,h0,htab,htri,hx,hv,hFv,hlen,htl,hL,q⟩:=h
 have hr1:=hr.mono (show 1<=8 by decide)
 have hr3:=hr.mono (show 3<=8 by decide)
 refine' ⟨?t,?h,?r⟩
 case h =>
  conv=>arg 2;whnf
  with_reducible refine' Zc (Yk ?a1 (Zh ?a2) ZW) (Zh ?a3)
  case a1=>exact XR (Zu DA hr1 (Zb (Ym DLk TC.cl hr3 (pv 0) (Zb (pv 1) (Zb (pv 2) Za))) (Zb (pv 3) Za)))
  case a2=>exact Zm (pv 1)
  case a3=>exact Zm (Ym DAs TC.cl hr1 (pv 0) (Zb (Ym DI TC.cl hr (pv 0) (Zb (pv 1) (Zb Ze (Zb (pv 2) (Zb (pv 3) Za))))) Za))
 obtain ⟨dx,ob⟩:=S.ob
 obtain ⟨ws,e,n,e1,e2,e3,e4,e5⟩:=ZaY N htri hx
 refine ⟨_,rfl,st,dx,_,rfl,ob,ZR ln dt,_,rfl,_,rfl,st,ln,dt,nds,tabs,t,x,6,ws,e,n,rfl,S,htab,N.len x hx,N.lo x hx,by decide,e1,e2,e3,e4,fun H1 s1=>?_⟩
 rw [e5]
 refine ⟨_,rfl,_,_,rfl,hv.scal hFv,_,rfl,?_⟩
 have S1:=S.keep s1
 have hL1:=LamAt.same hL s1
 by_cases hc:(Fm x).getD .non=v
 ·rw [decide_eq_true hc]
  refine Yh ⟨_,rfl,q H1 nds tabs t S1 (NEx.refl _) (by omega) (by omega) (fun _ h=>h) htab (Tri.congr 5 (by decide) htri fun y _ _=>?_) hL1 (Same.kq s1) s1.tf⟩
  unfold upF
  by_cases z:y=x
  ·rw [if_pos z,z]
   cases eF:Fm x with
   | none=>rw [eF] at hc;exact absurd hc.symm hv.ne
   | some u=>rw [eF] at hc;exact congrArg some hc.symm
  ·rw [if_neg z]
 ·rw [decide_eq_false hc]
  obtain ⟨dx1,ob1⟩:=S1.ob
  refine ZP ⟨_,rfl,st,dx1,_,rfl,ob1,ZR ln dt,_,rfl,st,dx1,_,rfl,ob1,ZR ln dt,_,rfl,_,rfl,_,rfl,?_⟩
  refine ⟨st,ln,dt,nds,tabs,t,0,0,x,v,Fm,rfl,S1,h0,htri,by decide,rfl,hx,by rw [Nat.pow_zero,Nat.mod_one],hlen,hL1,fun H2 nds2 num2 S2 ext2 len2 tri2 L2' kq2 tf2=>?_⟩
  refine ⟨st,ln,dt,nds2,tabs,num2,rfl,S2,by omega,fun H3 S3 k3 tf3=>?_⟩
  obtain ⟨tb,htb⟩:=L2'.tbl
  refine q H3 nds2 _ num2 S3 ext2 len2 (XS _ _ _) (fun k hk=>?_) (by rw [WT,if_pos rfl];rfl) tri2 ?_ ?_ ((s1.tf.trans tf2).trans tf3)
  ·rw [WT]
   by_cases z:k=Sum.inl (num2:Int)
   ·rw [if_pos z];rfl
   ·rw [if_neg z];exact hk
  ·have hdl:∀ b∈[dt],∃ xs,H2 b=some (.dK xs):=fun b hb=>by rw [mem_singleton.mp hb];exact ⟨_,S2.tb⟩
   rcases L2' with h | ⟨c,h,h2⟩
   ·exact .inl (k3 _ _ (fun z=>by obtain ⟨_,e⟩:=hdl _ z;rw [h] at e;cases e) h)
   ·exact .inr ⟨c,k3 _ _ (fun z=>by obtain ⟨_,e⟩:=hdl _ z;rw [h] at e;cases e) h,k3 _ _ (fun z=>by obtain ⟨_,e⟩:=hdl _ z;rw [h2] at e;cases e) h2⟩
  ·exact ((Same.kq s1).trans (kq2.sub fun b hb=>by simp at hb ⊢;rcases hb with z | z;exact .inl z;exact .inr (.inr z))).trans (k3.sub fun b hb=>by simp at hb ⊢;exact .inr (.inl hb))
end
section
variable {NS:List Str}{nds nds':List Nd}{F F':Str->Option V}
def dnF (F:Str->Option V)(x:Str):Str->Option V:=fun y=>if y=x then none else F y
def Xd (ps:ZH)(x:Str):List (Str×V):=ps.filter fun p=>!decide (p.1=x)
theorem ZbI (ps:ZH)(x y:Str):lk (Xd ps x) y=if y=x then none else lk ps y:=by
 induction ps with
 | nil => by_cases h:y=x
          · rw [if_pos h];rfl
          · rw [if_neg h];rfl
 | cons p ps ih =>
   unfold Xd at ih ⊢
   rw [filter_cons]
   by_cases hp:p.1=x
   · rw [decide_eq_true hp]
     show lk (ps.filter fun p=>!decide (p.1=x)) y=_
     rw [ih,WS]
     by_cases h:y=x
     · rw [if_pos h,if_pos h]
     · rw [if_neg h,if_neg h,if_neg fun z=>h (by rw [<- z,hp])]
   · rw [decide_eq_false hp]
     show lk (p::ps.filter fun p=>!decide (p.1=x)) y=_
     rw [WS,ih,WS]
     by_cases h:y=x
     · rw [if_pos h,if_pos h,if_neg fun z=>hp (by rw [z,h])]
     · rw [if_neg h,if_neg h]
theorem LeafG.but {m:Int}{ps:ZH}{x:Str}(G:LeafG NS m ps)(h:Xd ps x≠[]):LeafG NS m (Xd ps x):=by
 have hs:(Xd ps x).Sublist ps:=List.filter_sublist
 exact ⟨h,G.nd.sublist (hs.map (·.1)),fun p hp=>G.sub p (hs.subset hp),fun p hp=>G.mrk p (hs.subset hp)⟩
theorem Zcg {d lev r num:Nat}(h:TriE NS nds F lev r num):Tri NS nds F d lev r num:=by
 cases d with
 | zero=>exact h
 | succ d=>exact .inl h
theorem ZhW {d lev r num:Nat}{n:Nd}{x:Str}{v0:V}(h:Tri NS nds F d lev r num)(hn:nds[num]?=some n)(hx:x∈NS)(hxr:Yq x % 4 ^ lev=r)(hF:F x=some v0) :
 (∃ ps,n=.leaf (Zy x) ps/\LeafG NS (Zy x) ps/\∀ y∈NS,Yq y % 4 ^ lev=r->F y=lk ps y)\/∃ qs d',d=d'+1/\n=.fork qs/\qs.length=4/\∀ i q,qs[i]?=some q->Tri NS nds F d' (lev+1) (r+i * 4 ^ lev) q:=by
 have e:TriE NS nds F lev r num->∃ ps,n=.leaf (Zy x) ps/\LeafG NS (Zy x) ps/\∀ y∈NS,Yq y % 4 ^ lev=r->F y=lk ps y:=fun g=>by
  rcases g with ⟨_,_,h3⟩ | ⟨m,ps,h1,G,_,h4⟩
  ·rw [h3 x hx hxr] at hF;cases hF
  ·rw [hn] at h1;cases h1
   have hm:Zy x=m:=by
    rw [h4 x hx hxr] at hF
    exact G.mrk _ ((YN G.nd).mp hF)
   subst hm
   exact ⟨ps,rfl,G,h4⟩
 cases d with
 | zero=>exact .inl (e h)
 | succ d =>
  rcases h with h | ⟨qs,h1,h2,h3⟩
  ·exact .inl (e h)
  ·rw [hn] at h1;cases h1
   exact .inr ⟨qs,d,rfl,rfl,h2,h3⟩
theorem ZiJ {lev r num:Nat}{ps qs:ZH}{x:Str}(d:Nat)(hr:Yq x % 4 ^ lev=r)(hn:nds[num]?=some (.leaf (Zy x) qs))(G:LeafG NS (Zy x) (Xd ps x))(hp:qs.Perm (Xd ps x))(hF:∀ y∈NS,Yq y % 4 ^ lev=r->F y=lk ps y):Tri NS nds (dnF F x) d lev r num:=by
 refine Zcg (.inr ⟨Zy x,qs,hn,G.perm hp,hr,fun y hy hry=>?_⟩)
 rw [ZeP hp G.nd,ZbI]
 unfold dnF
 by_cases h:y=x
 ·rw [if_pos h,if_pos h]
 ·rw [if_neg h,if_neg h];exact hF y hy hry
theorem Zix {lev r:Nat}{ps:ZH}{x:Str}(d:Nat)(h0:nds[0]?=some .bare)(hb:Xd ps x=[])(hF:∀ y∈NS,Yq y % 4 ^ lev=r->F y=lk ps y):Tri NS nds (dnF F x) d lev r 0:=by
 refine Zcg (.inl ⟨rfl,h0,fun y hy hry=>?_⟩)
 have:=ZbI ps x y
 rw [hb,ZgK] at this
 unfold dnF
 by_cases h:y=x
 ·rw [if_pos h]
 ·rw [if_neg h] at this ⊢;rw [hF y hy hry];exact this.symm
theorem ZhE {d lev r num':Nat}{qs:List Nat}{x:Str}(N:Yf NS)(hr:r < 4 ^ lev)(hx:x∈NS)(hxr:Yq x % 4 ^ lev=r)(hl:qs.length=4)(hq:∀(i q:Nat),qs[i]?=some q->Tri NS nds F d (lev+1) (r+i * 4 ^ lev) q)
 (e:NEx nds nds') (hn:Tri NS nds' F' d (lev+1) (r+Yb (Zy x) lev * 4 ^ lev) num') (hF:∀ y,y≠x->F' y=F y) (i q:Nat) (hi:(qs.set (Yb (Zy x) lev) num')[i]?=some q):Tri NS nds' F' d (lev+1) (r+i * 4 ^ lev) q:=by
 have hi4:i < 4:=by rw [<- hl];have:=(List.getElem?_eq_some_iff.mp hi).1;rwa [length_set] at this
 rw [List.getElem?_set] at hi
 by_cases z:Yb (Zy x) lev=i
 ·rw [if_pos z,if_pos (by rw [hl,z];exact hi4)] at hi
  cases hi
  rw [<- z]
  exact hn
 ·rw [if_neg z] at hi
  refine Tri.congr d (WF hr hi4) (Tri.mono d (hq i q hi) e) fun y hy hry=>hF y fun w=>z ?_
  rw [w] at hry
  rw [XJ (N.lo x hx)]
  exact (Xv hr hry).2
theorem ZaP {qs:List Nat}{q:Nat}(h:(qs.filter fun p=>!decide (p=0))=[q]):∃ i:Nat,qs[i]?=some q/\q≠0/\∀(j p:Nat),qs[j]?=some p->j≠i->p=0:=by
 induction qs with
 | nil=>cases h
 | cons a qs ih =>
  rw [filter_cons] at h
  by_cases ha:a=0
  ·rw [decide_eq_true ha] at h
   obtain ⟨i,h1,h2,h3⟩:=ih h
   refine ⟨i+1,h1,h2,fun j p hj hne=>?_⟩
   cases j with
   | zero=>cases hj;exact ha
   | succ j=>exact h3 j p hj fun z=>hne (by rw [z])
  ·rw [decide_eq_false ha] at h
   have h':a::(qs.filter fun p=>!decide (p=0))=[q]:=h
   obtain ⟨e1,e2⟩:=List.cons.inj h'
   refine ⟨0,by rw [e1];rfl,by rw [<- e1];exact ha,fun j p hj hne=>?_⟩
   cases j with
   | zero=>exact absurd rfl hne
   | succ j =>
    have hp:p∈qs:=mem_of_getElem? hj
    by_cases z:p=0
    ·exact z
    ·have:p∈qs.filter fun p=>!decide (p=0):=mem_filter.mpr ⟨hp,by rw [decide_eq_false z];rfl⟩
     rw [e2] at this;cases this
theorem ZlR {d lev r q:Nat}{qs:List Nat}{m:Int}{ps:ZH}(N:Yf NS)(h0:nds[0]?=some .bare)(hr:r < 4 ^ lev)(hl:qs.length=4)(hq:∀(i q:Nat),qs[i]?=some q->Tri NS nds F d (lev+1) (r+i * 4 ^ lev) q)
 (h1:(qs.filter fun p=>!decide (p=0))=[q]) (hn:nds[q]?=some (.leaf m ps)):Tri NS nds F (d+1) lev r q:=by
 obtain ⟨i,hi,hq0,hoth⟩:=ZaP h1
 have leafE:TriE NS nds F (lev+1) (r+i * 4 ^ lev) q:=by
  have:=hq i q hi
  cases d with
  | zero=>exact this
  | succ d =>
   rcases this with h | ⟨qs',h,_⟩
   ·exact h
   ·rw [hn] at h;cases h
 rcases leafE with ⟨z,_⟩ | ⟨m',ps',e,G,hm,hF⟩
 ·exact absurd z hq0
 ·rw [hn] at e;cases e
  obtain ⟨p1,pr,e1,e2,e3,e4⟩:=G.ok N
  obtain ⟨hm1,hm2⟩:=Xv hr hm
  refine .inl (.inr ⟨m,ps,hn,G,hm1,fun y hy hry=>?_⟩)
  have hj:Yb (Zy y) lev < qs.length:=by rw [hl];exact Uf _ _
  have hyr:Yq y % 4 ^ (lev+1)=r+Yb (Zy y) lev * 4 ^ lev:=by rw [XA,hry,XJ (N.lo y hy)];rfl
  by_cases z:Yb (Zy y) lev=i
  ·rw [z] at hyr;exact hF y hy hyr
  ·have hz:=hoth _ _ (getElem?_eq_getElem hj) z
   have ht:=hq _ _ (getElem?_eq_getElem hj)
   rw [hz] at ht
   have hE:TriE NS nds F (lev+1) (r+Yb (Zy y) lev * 4 ^ lev) 0:=by
    cases d with
    | zero=>exact ht
    | succ d =>
     rcases ht with h | ⟨qs',h,_⟩
     ·exact h
     ·rw [h0] at h;cases h
   rcases hE with ⟨_,_,h3⟩ | ⟨m',ps',e,_⟩
   ·rw [h3 y hy hyr]
    refine (ZbT fun p hp e=>z ?_).symm
    rw [XJ (N.lo y hy),<- hm2,<- e,G.mrk p hp]
   ·rw [h0] at e;cases e
theorem Zap {d lev r num:Nat}{qs:List Nat}(hn:nds[num]?=some (.fork qs))(hl:qs.length=4)(hq:∀(i q:Nat),qs[i]?=some q->Tri NS nds F d (lev+1) (r+i * 4 ^ lev) q):Tri NS nds F (d+1) lev r num:=.inr ⟨qs,hn,hl,hq⟩
end
theorem ZkX {X:Cx}{K:KF}(hK:X.K=K):IxR X (rIxT K):=by subst hK;exact Ye
section
variable {P:Program}{w:World}{K:KF}{mg:Str->Option Value}{base:Heap}{C Pl:Addr}{NS:List Str}
def ZaG (K:KF)(C Pl:Addr)(NS:List Str):Nat->Sp
 | 0=>fun _ _ _ _=>False
 | d+1=>fun vs H Q _=>∃ (st ln dt:Addr) (nds:List Nd) (tabs:ZK) (num lev r:Nat) (x:Str) (v0:V) (F:Str->Option V),vs=[.ref st,iN num,iN lev,.str x]/\StoreAt K C st ln dt H nds tabs/\nds[0]?=some .bare/\Tri NS nds F d lev r num/\r < 4 ^ lev/\lev+d=5/\x∈NS/\Yq x % 4 ^ lev=r/\F x=some v0/\nds.length+d+1<=100000/\LamAt H Pl YM XG /\
  ∀ (H':Hp) (nds':List Nd) (num':Nat),StoreAt K C st ln dt H' nds' tabs->NEx nds nds'->nds'.length<=nds.length+d+1->Tri NS nds' (dnF F x) d lev r num'->LamAt H' Pl YM XG->Kq [ln,Pl] H H'->TF H H'->Q (iN num') H'
abbrev nTk:List Str:=["self","number","level","name"]
abbrev nTa:List Str:=["self","number","level","name","node","left","parts","figure","filled"]
theorem scTk:Zp nTa nTk (Zj c_Store_taken_from):=⟨rfl,rfl,rfl,by decide +kernel,rfl,by decide +kernel,by decide +kernel⟩
theorem ZmU {f : Addr}{fd:FuncData}{d k:Nat}(N:Yf NS)(hk:2<=k)(F:Fun K "taken_from" "Store.taken_from" c_Store_taken_from f fd)(T:Txt K mg)(TC:YT K C)
 (DH:Def P w K mg base 1 "has_mark" ["node","number"] (VQ K)) (DP:Def P w K mg base 1 "parts_in" ["node"] (XH K)) (DR:Def P w K mg base 1 "pairs_in" ["node"] (XO K)) (DM:Def P w K mg base 1 "mark" ["name"] WD) (DG:Def P w K mg base 1 "digit" ["number","level"] Wp)
 (DL:Def P w K mg base 2 "leaf_of" ["pairs"] (VA K Pl YM)) (DO:Def P w K mg base 1 "fork_of" ["parts"] (Ud K)) (DK:DefM P w K mg base 1 C "keep" ["self","node"] (VC K C))
 (DI:DefM P w K mg base k C "taken_from" nTk (ZaG K C Pl NS d)):FnOk P w K mg base ZL (k+1) f fd nTk (ZaG K C Pl NS (d+1)):=by
 refine F.ok scTk (fun vs H Q E h=>?_) (fun cdv A outer s H vs Q E hr h=>?_)
 ·obtain ⟨st,ln,dt,nds,tabs,num,lev,r,x,v0,F,rfl,_⟩:=h;rfl
 obtain ⟨st,ln,dt,nds,tabs,num,lev,r,x,v0,Fm,rfl,S,h0,htri,hrl,hlev,hx,hxr,hFx,hlen,hL,q⟩:=h
 obtain ⟨tz,hz⟩:=T.zero
 have hr1:=hr.mono (show 1<=k by omega)
 have hr2:=hr.mono hk
 refine' ⟨?t,?h,?r⟩
 case h =>
  conv=>arg 2;whnf
  with_reducible refine' Zc ?a1 (Zc (Yk ?a2 (Zc ?c1 (Zh ?c2)) ZW) (Zc ?a3 (Zc ?a4 (Zc ?a5 (Zc ?a6 (Zc (Yk ?a7 (Zh ?a8) ZW) (Zh ?a9)))))))
  case a1=>exact Zt (i:=4) scTk.nd rfl (Or.inl rfl) (Zq ZA (ZY (pv 0) rfl) (pv 1) (fun _ _=>rfl))
  case a2=>exact XR (Zu DH hr1 (Zb (pv 4) (Zb (Zu DM hr1 (Zb (pv 3) Za)) Za)))
  case c1=>exact Zag (i:=5) (CompOk.of nTa c_Store_taken_from rfl rfl (by decide +kernel)) rfl scTk.nd rfl (Or.inl rfl) (ZdZ (Zu DR hr1 (Zb (pv 4) Za))) (fun _ _ _ _ _=>ZX Zfy (Zq (ZkX (K:=K) rfl) (pv 9) Ze (fun _ _=>rfl)) (pv 3) (ZM _)) (fun _ _ _ _ _=>pv 9) rfl
  case c2=>exact Zm (WX (Wo (pv 5) (fun _=>rfl)) (Ym DK TC.cl hr1 (pv 0) (Zb (Zu DL hr2 (Zb (pv 5) Za)) Za)) (Xu rfl hz (v:=.int 0) ⟨_,rfl⟩))
  case a3=>exact Zt (i:=6) scTk.nd rfl (Or.inl rfl) (Yl WU rfl T.list (by decide +kernel) (Zb (Zu DP hr1 (Zb (pv 4) Za)) Za))
  case a4=>exact Zt (i:=7) scTk.nd rfl (Or.inl rfl) (Zu DG hr1 (Zb (Zu DM hr1 (Zb (pv 3) Za)) (Zb (pv 2) Za)))
  case a5=>exact Wc (Ym DI TC.cl hr (pv 0) (Zb (Zq ZA (pv 6) (pv 7) (fun _ _=>rfl)) (Zb (Zr YL (pv 2) Ze) (Zb (pv 3) Za)))) (Zbx (pv 6) (pv 7) UY)
  case a6=>exact Zag (i:=8) (CompOk.of nTa c_Store_taken_from rfl rfl (by decide +kernel)) rfl scTk.nd rfl (Or.inl rfl) (XI (pv 6)) (fun _ _ _ _ _=>ZX Zfy (pv 9) (Xu rfl hz (v:=.int 0) ⟨_,rfl⟩) (ZM _)) (fun _ _ _ _ _=>pv 9) rfl
  case a7=>exact PW.pt (Zic (ZX YA (Zv ZG rfl T.len PySem.boot_len (Zb (pv 8) Za)) Ze (ZM _)) (ZeL (Wo (Zu DR hr1 (Zb (Zq ZA (ZY (pv 0) rfl) (Zq ZA (pv 8) Ze (fun _ _=>rfl)) (fun _ _=>rfl)) Za)) (fun _=>rfl))))
  case a8=>exact Zm (Zq ZA (pv 8) Ze (fun _ _=>rfl))
  case a9=>exact Zm (Ym DK TC.cl hr1 (pv 0) (Zb (Zu DO hr1 (Zb (pv 6) Za)) Za))
 obtain ⟨n,hn,hbare⟩:=Wq htri
 obtain ⟨as,a,nl,ha,hna⟩:=S.node hn
 obtain ⟨dx,ob⟩:=S.ob
 obtain ⟨tb,htb⟩:=hL.tbl
 have hst:st ∉ [Pl]:=fun z=>by rw [mem_singleton.mp z,htb] at ob;cases ob
 have hln:ln ∉ [Pl]:=fun z=>by rw [mem_singleton.mp z,htb] at nl;cases nl
 have hdt:dt ∉ [Pl]:=fun z=>by have e:=S.tb;rw [mem_singleton.mp z,htb] at e;cases e
 refine ⟨_,rfl,st,C,dx,_,_,rfl,ob,TC.cl,TC.nN,Xm ln dt,_,rfl,ln,_,_,_,rfl,rfl,SqL.of nl,Zw (by rw [getElem?_map,ha];rfl),?_⟩
 refine ⟨_,rfl,_,rfl,x,rfl,N.len x hx,fun H1 s1=>⟨a,n,Zy x,rfl,hna.tf s1.tf,_,rfl,?_⟩⟩
 rcases ZhW htri hn hx hxr hFx with ⟨ps,rfl,G,hF⟩ | ⟨qs,d',rfl,rfl,hq4,hqs⟩
 ·rw [show (Nd.leaf (Zy x) ps).hasM (Zy x)=true from decide_eq_true rfl]
  refine Yh ?_
  refine ⟨_,rfl,a,_,rfl,hna.tf s1.tf,fun pt H2 s2 hpt=>?_⟩
  obtain ⟨o,ts,ept,hod,hlts,hp⟩:=hpt
  have hlts':ts.length=ps.length:=hlts
  have s12:=s1.trans s2
  have hfw:=N.few
  have hgf:=G.few
  refine ⟨pt,rfl,⟨_,.inl (.inr ⟨o,ept⟩)⟩,fun D hD=>?_⟩
  have hD0:H D=none:=by
   cases e:H D with
   | none=>rfl
   | some o=>rw [s12 _ _ e] at hD;cases hD
  have hzl:(ts.zip ps).length=ts.length:=by rw [List.length_zip,hlts',Nat.min_self]
  have hzs:(ts.zip ps).map (·.2)=ps:=List.map_snd_zip (by omega)
  refine Zgu (K:=K) (a:=pt) (xs:=ts.map V.ref) (by rw [length_map];exact Nat.le_trans (show ts.length<=64 by omega) (by decide))
   (fun i ys H'=>ys=(((ts.zip ps).take i).filter fun z=>!decide (z.2.1=x)).map (fun z=>V.ref z.1)/\H' D=some (.lst ys)/\Same H2 H') ⟨rfl,Zg,Zx hD _⟩ ?_ ?_ ?_
  ·rintro i ys H' ⟨rfl,_,s'⟩
   refine ⟨?_,.inl (.inr ⟨o,s' _ _ ept⟩)⟩
   rw [length_map]
   exact Nat.le_trans (length_filter_le _ _) (by rw [length_take];exact Nat.min_le_left _ _)
  ·rintro i v ys H' hi ⟨rfl,hDl,s'⟩
   have hit:i < ts.length:=by have:=(List.getElem?_eq_some_iff.mp hi).1;rwa [length_map] at this
   have et:=getElem?_eq_getElem hit
   have ep:=getElem?_eq_getElem (show i < ps.length by omega)
   generalize ts[i]=ti at et
   generalize ps[i]=pi at ep
   have hv:V.ref ti=v:=by rw [getElem?_map,et] at hi;exact Option.some.inj hi
   subst hv
   have ez:(ts.zip ps)[i]?=some (ti,pi):=getElem?_zip_eq_some.mpr ⟨et,ep⟩
   have htup:=s' _ _ (hp i ti pi et ep)
   have hts:=take_succ_filter (fun z:Addr×(Str×V)=>!decide (z.2.1=x)) (ts.zip ps) i (ti,pi) ez
   refine ⟨_,rfl,ti,_,_,_,rfl,rfl,SqT.of htup,rfl,_,rfl,rfl,_,rfl,?_⟩
   have edx:(!decide (V.str pi.1=V.str x))=!decide (pi.1=x):=by
    by_cases z:pi.1=x
    ·rw [z,decide_eq_true rfl,decide_eq_true rfl]
    ·rw [decide_eq_false z,decide_eq_false fun y=>z (V.str.inj y)]
   rw [edx]
   by_cases z:pi.1=x
   ·rw [decide_eq_true z]
    refine ZP ⟨?_,hDl,s'⟩
    rw [hts]
    show _=List.map _ (_++if (!decide (pi.1=x))=true then [(ti,pi)] else [])
    rw [decide_eq_true z]
    simp
   ·rw [decide_eq_false z]
    refine Yh ⟨_,rfl,hDl,?_,Zg,fun b u e=>by rw [Zi (Zs e hD)];exact s' _ _ e⟩
    rw [hts]
    show _=List.map _ (_++if (!decide (pi.1=x))=true then [(ti,pi)] else [])
    rw [decide_eq_false z]
    simp
  ·rintro ys H5 ⟨rfl,hD5,s5⟩
   rw [length_map,<- hzl,take_length] at hD5
   have hlp:((ts.zip ps).filter fun z=>!decide (z.2.1=x)).map (·.2)=Xd ps x:=by
    unfold Xd
    conv=>rhs;rw [<- hzs]
    rw [List.filter_map];rfl
   have hlt:((ts.zip ps).filter fun z=>!decide (z.2.1=x)).map (fun z=>V.ref z.1)=(((ts.zip ps).filter fun z=>!decide (z.2.1=x)).map (·.1)).map V.ref:=by rw [map_map];rfl
   have s15:Same H H5:=s12.trans s5
   have hPT:PairT H5 (((ts.zip ps).filter fun z=>!decide (z.2.1=x)).map (·.1)) (Xd ps x):=by
    refine ⟨by rw [<- hlp,length_map,length_map],fun i b p e1 e2=>?_⟩
    rw [<- hlp,getElem?_map] at e2
    rw [getElem?_map] at e1
    cases ez:((ts.zip ps).filter fun z=>!decide (z.2.1=x))[i]? with
    | none=>rw [ez] at e1;cases e1
    | some z =>
     rw [ez] at e1 e2
     cases (show some z.1=some b from e1)
     cases (show some z.2=some p from e2)
     obtain ⟨j,hj⟩:=List.mem_iff_getElem?.mp (mem_filter.mp (mem_of_getElem? ez)).1
     obtain ⟨h1,h2⟩:=getElem?_zip_eq_some.mp hj
     exact s5 _ _ (hp j _ _ h1 h2)
   refine ⟨_,rfl,_,.inl ⟨_,SqL.of hD5,rfl⟩,?_⟩
   by_cases hb:Xd ps x=[]
   ·have:((ts.zip ps).filter fun z=>!decide (z.2.1=x))=[]:=by
     have:=congrArg List.length hlp
     rw [hb,length_map] at this
     exact List.length_eq_zero_iff.mp this
    rw [this]
    exact ZP (q H5 nds 0 (S.keep s15) (NEx.refl _) (by omega) (Zix d h0 hb hF) (LamAt.same hL s15) (Same.kq s15) s15.tf)
   ·have G2:=G.but hb
    have hne:(!(((ts.zip ps).filter fun z=>!decide (z.2.1=x)).map (fun z=>V.ref z.1)).isEmpty)=true:=by
     cases e:((ts.zip ps).filter fun z=>!decide (z.2.1=x)) with
     | nil=>rw [e] at hlp;exact absurd hlp.symm hb
     | cons _ _=>rfl
    rw [hne]
    have S5:=S.keep s15
    obtain ⟨dx5,ob5⟩:=S5.ob
    refine Yh ⟨_,rfl,st,dx5,_,rfl,ob5,ZR ln dt,_,rfl,D,_,Xd ps x,rfl,by rw [hD5,hlt],hPT,hb,by have:=G2.few;omega,fun p hp=>N.len _ (G2.sub p hp),LamAt.same hL s15,fun a6 H6 p1 pr g6 L6 perm6 sort6 node6=>?_⟩
    have tb5:H5 Pl=some (.tbl tb):=s15 _ _ htb
    have tf6:TF H5 H6:=g6.tf tb5
    have S6:=S5.kq g6.kq tf6 hst hln hdt
    refine ⟨st,ln,dt,a6,nds,tabs,_,rfl,S6,node6,by omega,fun H7 S7 k7 tf7=>?_⟩
    have nl6:∃ xs,H6 ln=some (.lst xs):=by obtain ⟨as6,e6,_⟩:=S6.nl;exact ⟨_,e6⟩
    have hmk:Zy p1.1=Zy x:=(G2.perm perm6).mrk p1 mem_cons_self
    rw [hmk] at S7
    refine q H7 _ nds.length S7 (NEx.app nds _) (by rw [length_append];show nds.length+1<=_;omega) ?_ (L6.kq k7 fun b hb=>by rw [mem_singleton.mp hb];exact nl6) ?_ ((s15.tf.trans tf6).trans tf7)
    ·exact ZiJ d hxr (by rw [getElem?_append_right (Nat.le_refl _),Nat.sub_self];rfl) G2 perm6 hF
    ·exact (Same.kq s15).trans ((g6.kq.sub fun b hb=>by simp at hb ⊢;exact .inr hb).trans (k7.sub fun b hb=>by simp at hb ⊢;exact .inl hb))
 ·refine ZP ?_
  refine ⟨_,rfl,a,_,rfl,hna.tf s1.tf,fun pt H2 s2 hpt=>⟨pt,_,rfl,.inr hpt,fun rl hrl1=>?_⟩⟩
  have s12:=s1.trans s2
  have hrl0:H rl=none:=by
   cases e:H rl with
   | none=>rfl
   | some o=>rw [s12 _ _ e] at hrl1;cases hrl1
  refine ⟨_,rfl,x,rfl,N.len x hx,fun H3 s3=>⟨_,rfl,Zy x,lev,rfl,N.lo x hx,by omega,?_⟩⟩
  have el3:H3 rl=some (.lst (qs.map iN)):=s3 _ _ Zg
  have s13:Same H H3:=(s12.trans (Zx hrl1 _)).trans s3
  have S3:=S.keep s13
  have hdl:Yb (Zy x) lev < qs.length:=by rw [hq4];exact Uf _ _
  have hq1:=getElem?_eq_getElem hdl
  generalize qs[Yb (Zy x) lev]=q1 at hq1
  have hat:YY (qs.map iN) (Zy x / 4 ^ lev % 4)=some (iN q1):=by rw [<- Wn];exact Zw (by rw [getElem?_map,hq1];rfl)
  obtain ⟨dx3,ob3⟩:=S3.ob
  refine ⟨_,rfl,st,dx3,_,rfl,ob3,ZR ln dt,_,rfl,_,rfl,rl,_,_,_,rfl,rfl,SqL.of el3,hat,_,rfl,_,_,rfl,rfl,_,rfl,?_⟩
  refine ⟨st,ln,dt,nds,tabs,q1,lev+1,_,x,v0,Fm,rfl,S3,h0,hqs _ _ hq1,WF hrl (Uf _ _),by omega,hx,by rw [XA,hxr,XJ (N.lo x hx)];rfl,hFx,by omega,LamAt.same hL s13,fun H5 nds5 num5 S5 ext5 len5 tri5 L5 kq5 tf5=>?_⟩
  have nrl:rl ∉ [ln,Pl]:=fun z=>by
   rcases mem_cons.mp z with z | z
   ·rw [z,nl] at hrl0;cases hrl0
   ·rw [mem_singleton.mp z,htb] at hrl0;cases hrl0
  have el5:=kq5 _ _ nrl el3
  have hix:WI (qs.map iN).length (Zy x / 4 ^ lev % 4)=some (Yb (Zy x) lev):=by
   rw [<- Wn,length_map]
   unfold WI
   rw [if_pos (by omega),if_pos (by omega)]
   rfl
  refine ⟨_,rfl,_,rfl,rl,_,_,_,rfl,rfl,el5,hix,?_⟩
  have tf6:=ZaL (o:=.lst ((qs.map iN).set (Yb (Zy x) lev) (iN num5))) el5
  have k6:Kq [rl] H5 (upd H5 rl (.lst ((qs.map iN).set (Yb (Zy x) lev) (iN num5)))):=ZaE
  have nst:st ∉ [rl]:=fun z=>by rw [<- mem_singleton.mp z,ob] at hrl0;cases hrl0
  have nln:ln ∉ [rl]:=fun z=>by rw [<- mem_singleton.mp z,nl] at hrl0;cases hrl0
  have ndt:dt ∉ [rl]:=fun z=>by rw [<- mem_singleton.mp z,S.tb] at hrl0;cases hrl0
  have S6:=S5.kq k6 tf6 nst nln ndt
  have el6:upd H5 rl (.lst ((qs.map iN).set (Yb (Zy x) lev) (iN num5))) rl=some (.lst ((qs.set (Yb (Zy x) lev) num5).map iN)):=by rw [Zg,List.map_set]
  have L6:=L5.kq k6 fun b hb=>by rw [mem_singleton.mp hb];exact ⟨_,el5⟩
  have kh:Kq [ln,Pl] H (upd H5 rl (.lst ((qs.map iN).set (Yb (Zy x) lev) (iN num5)))):=fun b o nb e=>by
   rw [Zi (Zs e hrl0)];exact kq5 _ _ nb (s13 _ _ e)
  generalize upd H5 rl (.lst ((qs.map iN).set (Yb (Zy x) lev) (iN num5)))=H6 at *
  have hps:∀ (i q:Nat),(qs.set (Yb (Zy x) lev) num5)[i]?=some q->Tri NS nds5 (dnF Fm x) d' (lev+1) (r+i * 4 ^ lev) q:=fun i q hi=>ZhE N hrl hx hxr hq4 hqs ext5 tri5 (fun y hy=>if_neg hy) i q hi
  have hp4:(qs.set (Yb (Zy x) lev) num5).length=4:=by rw [length_set,hq4]
  generalize qs.set (Yb (Zy x) lev) num5=qn at *
  have h05:=ext5 _ _ h0
  have tfh:TF H H6:=(s13.tf.trans tf5).trans tf6
  refine ⟨_,rfl,rl,rfl,⟨_,SqL.of el6⟩,fun D hD=>?_⟩
  refine Zbf (K:=K) (a:=rl) (xs:=qn.map iN) (by rw [length_map,hp4];decide)
   (fun i ys H'=>ys=((qn.take i).filter fun p=>!decide (p=0)).map iN/\H' D=some (.lst ys)/\Same H6 H') ⟨rfl,Zg,Zx hD _⟩ ?_ ?_ ?_
  ·rintro i ys H' ⟨rfl,_,s'⟩
   refine ⟨?_,SqL.of (s' _ _ el6)⟩
   rw [length_map]
   exact Nat.le_trans (length_filter_le _ _) (by rw [length_take];exact Nat.min_le_left _ _)
  ·rintro i v ys H' hi ⟨rfl,hDl,s'⟩
   have hit:i < qn.length:=by have:=(List.getElem?_eq_some_iff.mp hi).1;rwa [length_map] at this
   have et:=getElem?_eq_getElem hit
   generalize qn[i]=qi at et
   have hv:iN qi=v:=by rw [getElem?_map,et] at hi;exact Option.some.inj hi
   subst hv
   have hts:=take_succ_filter (fun p:Nat=>!decide (p=0)) qn i qi et
   refine ⟨_,rfl,rfl,_,rfl,?_⟩
   have edx:(!decide (iN qi=V.int 0))=!decide (qi=0):=by
    by_cases z:qi=0
    ·rw [z];rfl
    ·rw [decide_eq_false z,decide_eq_false fun y=>z (by have:=V.int.inj y;omega)]
   rw [edx]
   by_cases z:qi=0
   ·rw [decide_eq_true z]
    refine ZP ⟨?_,hDl,s'⟩
    rw [hts]
    show _=List.map _ (_++if (!decide (qi=0))=true then [qi] else [])
    rw [decide_eq_true z]
    simp
   ·rw [decide_eq_false z]
    refine Yh ⟨_,rfl,hDl,?_,Zg,fun b u e=>by rw [Zi (Zs e hD)];exact s' _ _ e⟩
    rw [hts]
    show _=List.map _ (_++if (!decide (qi=0))=true then [qi] else [])
    rw [decide_eq_false z]
    simp
  ·rintro ys H7 ⟨rfl,hD7,s7⟩
   rw [length_map,take_length] at hD7
   generalize hfl:(qn.filter fun p=>!decide (p=0))=fl at hD7
   have S7:=S6.keep s7
   refine ⟨_,rfl,D,_,rfl,.inl (SqL.of hD7),rfl,_,rfl,?_⟩
   by_cases h1:fl.length=1
   ·obtain ⟨q8,rfl⟩:∃ q8,fl=[q8]:=by
     cases fl with
     | nil=>cases h1
     | cons b t=>cases t with
      | nil=>exact ⟨b,rfl⟩
      | cons _ _=>simp at h1
    obtain ⟨i8,hi8,hq80,_⟩:=ZaP hfl
    obtain ⟨n8,hn8,_⟩:=Wq (hps i8 q8 hi8)
    obtain ⟨as8,a8,nl8,ha8,hna8⟩:=S7.node hn8
    obtain ⟨dx8,ob8⟩:=S7.ob
    refine Yh ⟨_,rfl,st,C,dx8,_,_,rfl,ob8,TC.cl,TC.nN,Xm ln dt,_,rfl,D,_,_,_,rfl,rfl,SqL.of hD7,(show YY ([q8].map iN) ((0:Nat):Int)=some (iN q8) from Zw rfl),ln,_,_,_,rfl,rfl,SqL.of nl8,Zw (by rw [getElem?_map,ha8];rfl),a8,n8,rfl,hna8,fun pt9 H9 s9 hpt9=>?_⟩
    obtain ⟨o9,ts9,ept9,_,hl9,_⟩:=hpt9
    refine ⟨_,.inr (.inl ⟨_,.inl (.inr ⟨o9,ept9⟩),rfl⟩),?_⟩
    have s79:=s7.trans s9
    cases n8 with
    | leaf m8 ps8 =>
     have hne:(!(ts9.map V.ref).isEmpty)=true:=by
      cases ts9 with
      | nil =>
       have hE:TriE NS nds5 (dnF Fm x) (lev+1) (r+i8 * 4 ^ lev) q8:=by
        have:=hps i8 q8 hi8
        cases d' with
        | zero=>exact this
        | succ d' =>
         rcases this with h | ⟨qs',h,_⟩
         ·exact h
         ·rw [hn8] at h;cases h
       rcases hE with ⟨z,_⟩ | ⟨m',ps',e,G,_⟩
       ·exact absurd z hq80
       ·rw [hn8] at e;cases e
        exact absurd (List.length_eq_zero_iff.mp (show ps8.length=0 from hl9.symm)) G.ne
      | cons _ _=>rfl
     rw [hne]
     refine Yh ⟨_,rfl,D,_,_,_,rfl,rfl,SqL.of (s9 _ _ hD7),(show YY ([q8].map iN) ((0:Nat):Int)=some (iN q8) from Zw rfl),?_⟩
     exact q H9 nds5 q8 (S6.keep s79) ext5 (by omega) (ZlR N h05 hrl hp4 hps hfl hn8) (LamAt.same L6 s79) (kh.trans (Same.kq s79)) (tfh.trans s79.tf)
    | bare =>
     rw [List.length_eq_zero_iff.mp (show ts9.length=0 from hl9)]
     refine ZP ?_
     obtain ⟨dxA,obA⟩:=(S6.keep s79).ob
     refine ⟨_,rfl,st,dxA,_,rfl,obA,ZR ln dt,_,rfl,rl,qn,rfl,s79 _ _ el6,hp4,fun aB HB sB nodeB=>?_⟩
     have SB:=(S6.keep s79).keep sB
     refine ⟨st,ln,dt,aB,nds5,tabs,_,rfl,SB,nodeB,by omega,fun HC SC kC tfC=>?_⟩
     have nlB:∃ xs,HB ln=some (.lst xs):=by obtain ⟨asB,eB,_⟩:=SB.nl;exact ⟨_,eB⟩
     refine q HC _ nds5.length SC (ext5.trans (NEx.app nds5 _)) (by rw [length_append];show nds5.length+1<=_;omega) ?_ ((LamAt.same (LamAt.same L6 s79) sB).kq kC fun b hb=>by rw [mem_singleton.mp hb];exact nlB) ?_ (((tfh.trans s79.tf).trans sB.tf).trans tfC)
     ·exact Zap (by rw [getElem?_append_right (Nat.le_refl _),Nat.sub_self];rfl) hp4 fun i q hi=>Tri.mono d' (hps i q hi) (NEx.app nds5 _)
     ·exact ((kh.trans (Same.kq s79)).trans (Same.kq sB)).trans (kC.sub fun b hb=>by simp at hb ⊢;exact .inl hb)
    | fork qs8 =>
     rw [List.length_eq_zero_iff.mp (show ts9.length=0 from hl9)]
     refine ZP ?_
     obtain ⟨dxA,obA⟩:=(S6.keep s79).ob
     refine ⟨_,rfl,st,dxA,_,rfl,obA,ZR ln dt,_,rfl,rl,qn,rfl,s79 _ _ el6,hp4,fun aB HB sB nodeB=>?_⟩
     have SB:=(S6.keep s79).keep sB
     refine ⟨st,ln,dt,aB,nds5,tabs,_,rfl,SB,nodeB,by omega,fun HC SC kC tfC=>?_⟩
     have nlB:∃ xs,HB ln=some (.lst xs):=by obtain ⟨asB,eB,_⟩:=SB.nl;exact ⟨_,eB⟩
     refine q HC _ nds5.length SC (ext5.trans (NEx.app nds5 _)) (by rw [length_append];show nds5.length+1<=_;omega) ?_ ((LamAt.same (LamAt.same L6 s79) sB).kq kC fun b hb=>by rw [mem_singleton.mp hb];exact nlB) ?_ (((tfh.trans s79.tf).trans sB.tf).trans tfC)
     ·exact Zap (by rw [getElem?_append_right (Nat.le_refl _),Nat.sub_self];rfl) hp4 fun i q hi=>Tri.mono d' (hps i q hi) (NEx.app nds5 _)
     ·exact ((kh.trans (Same.kq s79)).trans (Same.kq sB)).trans (kC.sub fun b hb=>by simp at hb ⊢;exact .inl hb)
   ·have hd1:decide (V.int (((fl.map iN).length:Nat):Int)=V.int 1)=false:=decide_eq_false fun z=>h1 (by have:=V.int.inj z;rw [length_map] at this;omega)
    rw [hd1]
    have s79:=s7
    refine ZP (ZP ?_)
    obtain ⟨dxA,obA⟩:=(S6.keep s79).ob
    refine ⟨_,rfl,st,dxA,_,rfl,obA,ZR ln dt,_,rfl,rl,qn,rfl,s79 _ _ el6,hp4,fun aB HB sB nodeB=>?_⟩
    have SB:=(S6.keep s79).keep sB
    refine ⟨st,ln,dt,aB,nds5,tabs,_,rfl,SB,nodeB,by omega,fun HC SC kC tfC=>?_⟩
    have nlB:∃ xs,HB ln=some (.lst xs):=by obtain ⟨asB,eB,_⟩:=SB.nl;exact ⟨_,eB⟩
    refine q HC _ nds5.length SC (ext5.trans (NEx.app nds5 _)) (by rw [length_append];show nds5.length+1<=_;omega) ?_ ((LamAt.same (LamAt.same L6 s79) sB).kq kC fun b hb=>by rw [mem_singleton.mp hb];exact nlB) ?_ (((tfh.trans s79.tf).trans sB.tf).trans tfC)
    ·exact Zap (by rw [getElem?_append_right (Nat.le_refl _),Nat.sub_self];rfl) hp4 fun i q hi=>Tri.mono d' (hps i q hi) (NEx.app nds5 _)
    ·exact ((kh.trans (Same.kq s79)).trans (Same.kq sB)).trans (kC.sub fun b hb=>by simp at hb ⊢;exact .inl hb)
theorem ZeM {f:Addr}{fd:FuncData}(N:Yf NS)(F:Fun K "taken_from" "Store.taken_from" c_Store_taken_from f fd)(T:Txt K mg)(TC:YT K C)
 (DH:Def P w K mg base 1 "has_mark" ["node","number"] (VQ K)) (DP:Def P w K mg base 1 "parts_in" ["node"] (XH K)) (DR:Def P w K mg base 1 "pairs_in" ["node"] (XO K)) (DM:Def P w K mg base 1 "mark" ["name"] WD) (DG:Def P w K mg base 1 "digit" ["number","level"] Wp)
 (DL:Def P w K mg base 2 "leaf_of" ["pairs"] (VA K Pl YM)) (DO:Def P w K mg base 1 "fork_of" ["parts"] (Ud K)) (DK:DefM P w K mg base 1 C "keep" ["self","node"] (VC K C))
 (b:Binds K fd nTk []) (mt:VE K C "taken_from" f):∀ d,FnOk P w K mg base ZL (2+d) f fd nTk (ZaG K C Pl NS d)
 | 0=>F.ok scTk (fun _ _ _ _ h=>h.elim) (fun _ _ _ _ _ _ _ _ _ h=>h.elim)
 | d+1=>ZmU N (Nat.le_add_right 2 d) F T TC DH DP DR DM DG DL DO DK ⟨f,fd,ZeM N F T TC DH DP DR DM DG DL DO DK b mt d,b,mt⟩
def spWo (K:KF)(C Pl:Addr)(NS:List Str):Sp:=fun vs H Q _=>∃(st ln dt:Addr)(nds:List Nd)(tabs:ZK)(t:Nat)(x:Str)(F:Str->Option V),vs=[.ref st,iN t,.str x]/\StoreAt K C st ln dt H nds tabs/\nds[0]?=some .bare/\(ZQ tabs (Sum.inl (t:Int))).isSome=true/\Tri NS nds F 5 0 0 t/\x∈NS/\(∀ u,F x=some u->ValV u)/\nds.length+6<=100000/\tabs.length<=100000/\LamAt H Pl YM XG /\
 ∀ (H':Hp) (nds':List Nd) (tabs':ZK) (t':Nat),StoreAt K C st ln dt H' nds' tabs'->NEx nds nds'->nds'.length<=nds.length+6->tabs'.length<=tabs.length+1->(∀ k,(ZQ tabs k).isSome=true->(ZQ tabs' k).isSome=true)->(ZQ tabs' (Sum.inl (t':Int))).isSome=true->Tri NS nds' (dnF F x) 5 0 0 t'->LamAt H' Pl YM XG->Kq [ln,dt,Pl] H H'->TF H H'->Q (iN t') H'
theorem scWo:Zp ["self","table","name"] ["self","table","name"] (Zj c_Store_without):=⟨rfl,rfl,rfl,by decide +kernel,rfl,by decide +kernel,by decide +kernel⟩
theorem ZnB {f:Addr}{fd:FuncData}(N:Yf NS)(F:Fun K "without" "Store.without" c_Store_without f fd)(TC:YT K C)(DLk:DefM P w K mg base 3 C "looked" ["self","table","name"] (Zaz K C))
 (DAs:DefM P w K mg base 1 C "as_table" ["self","number"] (ZfE K C)) (DI:DefM P w K mg base 8 C "taken_from" nTk (ZaG K C Pl NS 6)):FnOk P w K mg base ZL 9 f fd ["self","table","name"] (spWo K C Pl NS):=by
 refine F.ok scWo (fun vs H Q E h=>?_) (fun cdv A outer s H vs Q E hr h=>?_)
 ·obtain ⟨st,ln,dt,nds,tabs,t,x,F,rfl,_⟩:=h;rfl
 obtain ⟨st,ln,dt,nds,tabs,t,x,Fm,rfl,S,h0,htab,htri,hx,hFv,hlen,htl,hL,q⟩:=h
 have hr1:=hr.mono (show 1<=8 by decide)
 have hr3:=hr.mono (show 3<=8 by decide)
 refine' ⟨?t,?h,?r⟩
 case h =>
  conv=>arg 2;whnf
  with_reducible refine' Zc (Yk ?a1 (Zh ?a2) ZW) (Zh ?a3)
  case a1=>exact ZdV (Zdh (Ym DLk TC.cl hr3 (pv 0) (Zb (pv 1) (Zb (pv 2) Za))))
  case a2=>exact Zm (pv 1)
  case a3=>exact Zm (Ym DAs TC.cl hr1 (pv 0) (Zb (Ym DI TC.cl hr (pv 0) (Zb (pv 1) (Zb Ze (Zb (pv 2) Za)))) Za))
 obtain ⟨dx,ob⟩:=S.ob
 obtain ⟨ws,e,n,e1,e2,e3,e4,e5⟩:=ZaY N htri hx
 refine ⟨_,rfl,st,dx,_,rfl,ob,ZR ln dt,_,rfl,_,rfl,st,ln,dt,nds,tabs,t,x,6,ws,e,n,rfl,S,htab,N.len x hx,N.lo x hx,by decide,e1,e2,e3,e4,fun H1 s1=>?_⟩
 rw [e5]
 refine ⟨_,rfl,?_⟩
 have S1:=S.keep s1
 have hL1:=LamAt.same hL s1
 cases eF:Fm x with
 | none =>
  refine Yh ⟨_,rfl,q H1 nds tabs t S1 (NEx.refl _) (by omega) (by omega) (fun _ h=>h) htab (Tri.congr 5 (by decide) htri fun y _ _=>?_) hL1 (Same.kq s1) s1.tf⟩
  unfold dnF
  by_cases z:y=x
  ·rw [if_pos z,z,eF]
  ·rw [if_neg z]
 | some u =>
  have hc:decide ((some u).getD .non=V.non)=false:=decide_eq_false (hFv u eF).ne
  rw [hc]
  obtain ⟨dx1,ob1⟩:=S1.ob
  refine ZP ⟨_,rfl,st,dx1,_,rfl,ob1,ZR ln dt,_,rfl,st,dx1,_,rfl,ob1,ZR ln dt,_,rfl,_,rfl,?_⟩
  refine ⟨st,ln,dt,nds,tabs,t,0,0,x,u,Fm,rfl,S1,h0,htri,by decide,rfl,hx,by rw [Nat.pow_zero,Nat.mod_one],eF,hlen,hL1,fun H2 nds2 num2 S2 ext2 len2 tri2 L2' kq2 tf2=>?_⟩
  refine ⟨st,ln,dt,nds2,tabs,num2,rfl,S2,by omega,fun H3 S3 k3 tf3=>?_⟩
  refine q H3 nds2 _ num2 S3 ext2 len2 (XS _ _ _) (fun k hk=>?_) (by rw [WT,if_pos rfl];rfl) tri2 ?_ ?_ ((s1.tf.trans tf2).trans tf3)
  ·rw [WT]
   by_cases z:k=Sum.inl (num2:Int)
   ·rw [if_pos z];rfl
   ·rw [if_neg z];exact hk
  ·have hdl:∀ b∈[dt],∃ xs,H2 b=some (.dK xs):=fun b hb=>by rw [mem_singleton.mp hb];exact ⟨_,S2.tb⟩
   rcases L2' with h | ⟨c,h,h2⟩
   ·exact .inl (k3 _ _ (fun z=>by obtain ⟨_,e⟩:=hdl _ z;rw [h] at e;cases e) h)
   ·exact .inr ⟨c,k3 _ _ (fun z=>by obtain ⟨_,e⟩:=hdl _ z;rw [h] at e;cases e) h,k3 _ _ (fun z=>by obtain ⟨_,e⟩:=hdl _ z;rw [h2] at e;cases e) h2⟩
  ·exact ((Same.kq s1).trans (kq2.sub fun b hb=>by simp at hb ⊢;rcases hb with z | z;exact .inl z;exact .inr (.inr z))).trans (k3.sub fun b hb=>by simp at hb ⊢;exact .inr (.inl hb))
def Zhz (K:KF)(C:Addr):Sp:=fun vs H Q _=>∃(st ln dt:Addr)(nds:List Nd)(tabs:ZK)(t:Nat)(n:Nd),vs=[.ref st,iN t]/\StoreAt K C st ln dt H nds tabs/\nds[t]?=some n/\∀ a,NodeAt K H a n->Q (.ref a) H
theorem scNo:Zp ["self","number"] ["self","number"] (Zj c_Store_node):=⟨rfl,rfl,rfl,by decide +kernel,rfl,by decide +kernel,by decide +kernel⟩
theorem Zll {f:Addr}{fd:FuncData}(F:Fun K "node" "Store.node" c_Store_node f fd)(T:Txt K mg)(TC:YT K C):FnOk P w K mg base ZL 1 f fd ["self","number"] (Zhz K C):=by
 refine F.ok scNo (fun vs H Q E h=>?_) (fun cdv A outer s H vs Q E hr h=>?_)
 ·obtain ⟨st,ln,dt,nds,tabs,t,n,rfl,_⟩:=h;rfl
 obtain ⟨st,ln,dt,nds,tabs,t,n,rfl,S,hn,q⟩:=h
 refine' ⟨?t,?h,?r⟩
 case h =>
  conv=>arg 2;whnf
  with_reducible refine' Zc (Yk ?a1 (Zh Zfz) ZW) (Zh ?a3)
  case a1=>exact XQ (Zdz Zkf Zac Ze (pv 1) (Zv ZG rfl T.len PySem.boot_len (Zb (ZY (pv 0) rfl) Za)))
  case a3=>exact Zm (Zq ZA (ZY (pv 0) rfl) (pv 1) (fun _ _=>rfl))
 obtain ⟨as,a,nl,ha,hna⟩:=S.node hn
 obtain ⟨dx,ob⟩:=S.ob
 have hlt:t < as.length:=(List.getElem?_eq_some_iff.mp ha).1
 refine ⟨_,rfl,_,_,rfl,rfl,_,rfl,?_⟩
 rw [decide_eq_true (show (0:Int)<=(t:Int) by omega)]
 refine Yh ⟨_,rfl,st,C,dx,_,_,rfl,ob,TC.cl,TC.nN,Xm ln dt,ln,_,rfl,.inl (SqL.of nl),_,_,rfl,rfl,_,rfl,?_⟩
 rw [decide_eq_true (show (t:Int) < (((as.map V.ref).length:Nat):Int) by rw [length_map];omega)]
 exact ZP ⟨_,rfl,st,C,dx,_,_,rfl,ob,TC.cl,TC.nN,Xm ln dt,_,rfl,ln,_,_,_,rfl,rfl,SqL.of nl,Zw (by rw [getElem?_map,ha];rfl),q a hna⟩
end
end K22
namespace L2
open PySem PySem.Spec PyProof.Rows
def Zdf (J:It)(g:TG)(tc:TT)(te:TE)(σ:St)(D:Addr)(Q:VK)(H1:Hp):Prop :=
 ∃ W : Nat->Nat->List V->Hp->Prop,(∃ m,W 0 m [] (upd H1 D (.lst [])))/\∀ i m ys H2,W i m ys H2 ->
  (J.stop i H2/\Q (.ref D) H2)\/(J.go i H2/\∃ (N:VK) (M:Hp->Prop),(∀ y H4,N y H4->H4 D=some (.lst ys)/\ys.length < sizeLine/\∃ m',m' < m/\W (i+1) m' (ys++[y]) (upd H4 D (.lst (ys++[y]))))/\(∀ H4,M H4->∃ m',m' < m/\W (i+1) m' ys H4) /\
   ∀ wa wb v H3,J.yld i H2 v H3->g v (σ++[wa,wb]) H3 fun σ' H'=>(∃ wa wb,σ'=σ++[wa,wb])/\tc σ' H' fun b H4=>if b=true then te σ' H4 N else M H4)
def ZkV (wi:TI)(g:TG)(tc:TT)(te:TE):TE:=fun σ H Q=>wi σ H fun J H1=>∀ D,H1 D=none->Zdf J g tc te σ D Q H1
section
variable {X:Cx}{elt iter tg cnd:Expr}{xa xb:Str}{pos:Pos}{scope:Scope}{wi:TI}{te:TE}{tc:TT}{g:TG}
theorem ZdL {pins:List (Addr×Obj)}{σ:St}{H2:Hp}{s₂:Shared}{J:It}{fp:List Addr}{it:Addr}{tn:Nat->Heap->Prop}{cl:List (Str×Addr)}{E:ZB}{Q:VK}{RR:Value->Addr->Result->Shared->Prop}
 (O:CompOkT X scope xa xb) (hc:X.calm=true) (cl1:∀ y c,cl.lookup y=some c->X.env.cells.lookup y=some c) (cl2:∀ y∈scope.names,y.2=.free->cl.lookup y.1≠none)
 (hg:∀ cl C s₀ H₀ fp,PG (YR X scope xa xb cl C s₀ H₀ fp) tg g) (hcn:∀ cl C s₀ H₀ fp,PT (YR X scope xa xb cl C s₀ H₀ fp) cnd tc) (he:∀ cl C s₀ H₀ fp,PE (YR X scope xa xb cl C s₀ H₀ fp) elt te)
 (I2:Inv X pins σ H2 s₂) (T:Uj X.prog X.w X.K tg J fp it tn) (st:tn 0 s₂.heap) (f2:∀ b∈fp,YD X pins H2 b)
 (h:∀ D,H2 D=none->Zdf J g tc te σ D Q H2)
 (hRR:∀ D C H' s',Inv X pins σ H' s'->YD X pins H' C->(∃ m,s'.heap.Ns C m)->Q (.ref D) H'->RR (.ref D) C (.ok .next) s') :
 wpAny (model X.prog X.w) X.A (newList []) (fun acc s₃=>wpAny (model X.prog X.w) X.A (newFunctionEnv scope X.env.globals cl [] X.env.qual none .none (some X.env)) (fun cenv s₄ =>
  codeAny (model X.prog X.w) X.A (.compStart (.ListComp elt [⟨tg,iter,[cnd],0⟩] scope pos) 0 (.ref it) acc { cenv with scope:=relabel scope X.env }) (RR acc cenv.locals) s₄) E s₃) E s₂:=by
 have hD:H2 s₂.heap.objs.size=none:=I2.hok.fresh (Nat.le_refl _)
 refine wpAny_newObj_type ?_
 have I3:Inv X pins σ (upd H2 s₂.heap.objs.size (.lst [])) { s₂ with heap:=s₂.heap.push { cls:=.type "list",data:=.seq ([]:List Value).toArray } } :=
  I2.laid (t':=s₂.toks) (fun b u e=>Heap.get?_push_of_some _ e) (Nat.le_refl _) ⟨Nat.zero_le _,[],_,.nil,Heap.get?_push_size _ rfl⟩
 have f3:∀ b∈fp,YD X pins (upd H2 s₂.heap.objs.size (.lst [])) b:=fun b hb=>by
  obtain ⟨g0,g1⟩:=f2 b hb
  obtain ⟨o,e,_⟩:=T.obj 0 _ st b hb
  exact ⟨by rw [Zi (Nat.ne_of_lt (Heap.lt_size e))];exact g0,g1⟩
 have st3:tn 0 (s₂.heap.push { cls:=.type "list",data:=.seq ([]:List Value).toArray }):=T.keep _ _ _ st fun b hb o e=>Heap.get?_push_of_some _ e
 obtain ⟨W,⟨m0,w0⟩,turn⟩:=h _ hD
 generalize hDe:s₂.heap.objs.size=D at I3 f3 w0 turn ⊢
 generalize hH3:upd H2 D (.lst [])=H3 at I3 f3 w0 turn ⊢
 generalize hs3:({ s₂ with heap:=s₂.heap.push { cls:=.type "list",data:=.seq ([]:List Value).toArray } }:Shared)=s₃ at I3
 have st3':tn 0 s₃.heap:=by rw [<- hs3];exact st3
 have hobj:∀ b∈fp,b < s₃.heap.objs.size:=fun b hb=>by
  obtain ⟨o,e,_⟩:=T.obj 0 _ st3' b hb
  exact Heap.lt_size e
 refine wpAny_newFunctionEnv O.cell (by intro y hy;simp at hy) (fun h₁ hns₁ hsb₁=>?_) O.kind
 have old:∀ b o,s₃.heap.get? b=some o->h₁.get? b=some o:=fun b o e=>hsb₁.extBut b o (Nat.ne_of_lt (Heap.lt_size e)) (Heap.get?_push_of_some _ e)
 generalize hs4:({ s₃ with heap:=h₁,toks:=s₃.toks+([]:List (Str×Value)).length }:Shared)=s₄
 have h4:s₄.heap=h₁:=by rw [<- hs4]
 have hX:∀ C,YD X pins C s₃.heap.objs.size->True:=fun _ _=>trivial
 have ok':(YR X scope xa xb cl s₃.heap.objs.size s₃ H3 fp).Ok:=by
  refine ⟨I3.ok.mod,O.kind,I3.ok.glob,I3.ok.blt,Nat.le_refl _,?_,?_,?_,I3.ok.hd,I3.ok.frames,.inl rfl,?_,I3.bs,Nat.le_trans I3.ok.bsz I3.sz,?_,?_,I3.stack,I3.stkFree⟩
  ·exact fun y z c e1 e2=>I3.ok.inj y z c (cl1 y c e1) (cl1 z c e2)
  ·intro y hk
   have hf:scope.names.lookup y=some .free:=by
    rcases hk with hk | hk
    ·rcases ZC O.cell hk with q | q
     ·exact absurd rfl (O.cell _ (mem_of_lookup q))
     ·exact q.1
    ·rcases ZC O.cell hk with q | q
     ·exact q
     ·cases q.2
   have:=cl2 _ (mem_of_lookup hf) rfl
   cases e:cl.lookup y with
   | none=>exact absurd e this
   | some c=>exact ⟨c,e⟩
  ·intro y c hf;cases hf
  ·intro b hb
   obtain ⟨g0,g1,g2,g3,g4,g5⟩:=f3 b hb
   exact ⟨Nat.ne_of_lt (hobj b hb),fun y c e=>g4 y c (cl1 y c e)⟩
  ·intro b o e hb
   obtain ⟨g0,g1,g2,g3,g4,g5⟩:=f3 b hb
   rcases g3 with g3 | g3
   ·exact I3.ok.noex b o e g3
   ·exact absurd (Heap.lt_size e) (Nat.not_lt.mpr (Nat.le_trans I3.ok.bsz g3))
  ·intro b hb hs
   obtain ⟨g0,g1,g2,g3,g4,g5⟩:=f3 b hb
   rcases mem_cons.mp (I3.stkSub b hs) with e | e
   ·exact g1 e
   ·exact g2 e
 have I4 : Inv (YR X scope xa xb cl s₃.heap.objs.size s₃ H3 fp) [] (σ++[none,none]) H3 s₄:=by
  obtain ⟨m,hm,hl⟩:=I3.loc
  refine ⟨ok',by rw [<- hs4];rfl,by rw [<- hs4];exact I3.bare,by rw [h4];exact Un.kept old,⟨_,by rw [h4];exact hns₁,?_⟩,?_,I3.hok.fresh (Nat.le_refl _),fun y c e=>I3.freeC y c (cl1 y c e),?_,by rw [h4];exact I3.hok.kept old,?_⟩
  ·intro i y v e1 e2 e3
   have hlt:i < σ.length:=by
    rcases Nat.lt_or_ge i σ.length with z | z
    ·exact z
    ·rw [getElem?_append_right z] at e2
     have:=mem_of_getElem? e2
     simp at this
   rw [getElem?_append_left hlt] at e2
   have hsm:∃ k,scope.names.lookup y=some k:=by
    rcases e3 with hk | hk | hk
    ·rcases ZC O.cell hk with q | q
     ·exact ⟨_,q⟩
     ·exact ⟨_,q.1⟩
    ·rcases ZC O.cell hk with q | q
     ·exact ⟨_,q⟩
     ·exact ⟨_,q.1⟩
    ·rcases ZC O.cell hk with q | q
     ·exact ⟨_,q⟩
     ·exact ⟨_,q.1⟩
   obtain ⟨e1',hyx⟩:X.N[i]?=some y/\¬ (y=xa\/y=xb):=by
    have e1:(UD X.N xa xb++[xa,xb])[i]?=some y:=e1
    rw [getElem?_append_left (by rw [Zdt,<- I3.len];exact hlt)] at e1
    rcases ZiH e1 with z | z
    ·exact z
    ·obtain ⟨k,hk⟩:=hsm
     rw [z,O.noh] at hk;cases hk
   have hy:y∈X.N:=mem_of_getElem? e1'
   have hf:scope.names.lookup y=some .free:=by
    rcases e3 with hk | hk | hk
    ·rcases ZC O.cell hk with q | q
     ·exact absurd q (O.own y hy hyx)
     ·exact q.1
    ·rcases ZC O.cell hk with q | q
     ·exact absurd rfl (O.cell _ (mem_of_lookup q))
     ·exact q.1
    ·rcases ZC O.cell hk with q | q
     ·exact q
     ·exact q.1
   have hk:=O.clos _ (mem_of_lookup hf) rfl
   have hv:Vis X.env.scope y:=by rcases hk with z | z;exact .inr (.inl z);exact .inr (.inr z)
   obtain ⟨u,ru,lu⟩:=hl i y v e1' e2 hv
   refine ⟨u,ru,?_⟩
   have hkc:(compEnvC scope cl s₃.heap.objs.size X.env).kindOf y=some .cell\/(compEnvC scope cl s₃.heap.objs.size X.env).kindOf y=some .free:=by
    rcases e3 with q | q | q
    ·rcases ZC O.cell q with z | z
     ·exact absurd z (O.own y hy hyx)
     ·cases z.2
    ·exact .inl q
    ·exact .inr q
   rcases lu with ⟨q,_⟩ | ⟨_,c,hcl,hcc⟩
   ·rcases hk with z | z<;>(rw [q] at z;cases z)
   ·refine .inr ⟨hkc,?_⟩
    cases e:cl.lookup y with
    | none=>exact absurd e (cl2 _ (mem_of_lookup hf) rfl)
    | some c' =>
     have:=cl1 y c' e
     rw [hcl] at this
     cases this
     refine ⟨c,e,?_⟩
     rw [h4]
     obtain ⟨oc,ho,hd⟩:=hcc
     exact ⟨oc,old _ _ ho,hd⟩
  ·intro y c e
   obtain ⟨v,oc,ho,hd⟩:=I3.cell y c (cl1 y c e)
   exact ⟨v,oc,by rw [h4];exact old _ _ ho,hd⟩
  ·intro p hp;cases hp
  ·show (σ++[none,none]).length=(UD X.N xa xb++[xa,xb]).length
   rw [length_append,length_append,Zdt,I3.len];rfl
 have st4:tn 0 s₄.heap:=by rw [h4];exact T.keep _ _ _ st3' fun b hb o e=>old b o e
 have fpok:∀ {H':Hp},(∀ b∈fp,H' b=none)->∀ b∈fp,YD (YR X scope xa xb cl s₃.heap.objs.size s₃ H3 fp) [] H' b:=fun hn b hb=>by
  obtain ⟨g0,g1,g2,g3,g4,g5⟩:=f3 b hb
  refine ⟨hn b hb,Nat.ne_of_lt (hobj b hb),ok'.exfs b hb,.inl hb,fun y c e=>g4 y c (cl1 y c e),?_⟩
  intro p hp;cases hp
 have loop:codeAny (model X.prog X.w) X.A (.compLoop (.ListComp elt [⟨tg,iter,[cnd],0⟩] scope pos) 0 (.ref it) (.ref D) (compEnvC scope cl s₃.heap.objs.size X.env)) (RR (.ref D) s₃.heap.objs.size) s₄:=by
  refine Wa (fun n s'=>∃ i ys wa wb H',Inv (YR X scope xa xb cl s₃.heap.objs.size s₃ H3 fp) [] (σ++[wa,wb]) H' s'/\tn i s'.heap/\(∀ b∈fp,H' b=none)/\W i n ys H') ?_ m0 ⟨0,[],none,none,H3,I4,st4,fun b hb=>(f3 b hb).1,w0⟩
  rintro n s5 ⟨i,ys,wa,wb,H5,I5,st5,fr5,w5⟩
  rcases turn i n ys H5 w5 with ⟨stop,q⟩ | ⟨go,N,M,hN,hM,step⟩
  ·refine Zn (T.done (YR X scope xa xb cl s₃.heap.objs.size s₃ H3 fp) rfl rfl rfl hc i [] s5 _ H5 _ I5 (fpok fr5) st5 stop) fun r s6 ⟨hr,I6⟩=>?_
   subst hr
   obtain ⟨m6,hn6,_⟩:=I6.loc
   have IX:Inv X pins σ H5 s6:=I3.call' (ch:=fp) I6.os I6.base I6.hok I6.bare fun b hb=>by
    obtain ⟨g0,g1,g2,g3,g4,g5⟩:=f3 b hb
    exact ⟨g3,g1,g4,g5⟩
   exact hRR D _ H5 s6 IX (I3.fpOk (Nat.le_refl _) I6.free) ⟨m6,hn6⟩ q
  ·refine Zn (T.item (YR X scope xa xb cl s₃.heap.objs.size s₃ H3 fp) rfl rfl rfl hc i [] s5 _ H5 _ I5 (fpok fr5) st5 go) fun r s6 ⟨u,hr,h6⟩=>?_
   subst hr
   refine Zn h6 fun _ s7 ⟨v,H7,I7,r7,y7,st7,fr7⟩=>?_
   have I7':=I7.pinned (fpok fr7) (T.obj _ _ st7)
   refine Zn (hg cl s₃.heap.objs.size s₃ H3 fp _ s7 _ H7 v u _ I7' r7 (step wa wb v H7 y7)) fun _ s8 ⟨σ8,H8,I8,⟨wa',wb',e8⟩,q8⟩=>?_
   subst e8
   refine Zn (hcn cl s₃.heap.objs.size s₃ H3 fp _ s8 _ H8 _ I8 q8) fun bb s8b ⟨H8b,I8b,q8b⟩=>?_
   cases bb with
   | false =>
    obtain ⟨m',hm',w9⟩:=hM H8b q8b
    refine ⟨m',hm',i+1,ys,wa',wb',_,I8b.unpinned (pins:=[]),T.keep _ _ _ st7 fun b hb o e=>(I8b.pin (b,o) (mem_append_right _ (mem_append_right _ (Yt hb e)))).1,fun b hb=>?_,w9⟩
    obtain ⟨o,e,d⟩:=T.obj _ _ st7 b hb
    exact (I8b.pin (b,o) (mem_append_right _ (mem_append_right _ (Yt hb e)))).2.1
   | true =>
    refine Zn (he cl s₃.heap.objs.size s₃ H3 fp _ s8b _ H8b _ I8b q8b) fun uy s9 ⟨y,H9,I9,r9,n9⟩=>?_
    obtain ⟨hl9,hz9,m',hm',w9⟩:=hN y H9 n9
    refine Zn (Yr (X:=YR X scope xa xb cl s₃.heap.objs.size s₃ H3 fp) _ s9 _ H9 (.ref D) [y] (.ref D) [uy] (fun v H'=>H'=upd H9 D (.lst (ys++[y]))) I9 rfl (.cons r9 .nil) ⟨D,ys,y,rfl,rfl,hl9,hz9,rfl⟩) fun _ s10 ⟨_,H10,I10,_,e10⟩=>?_
    subst e10
    refine ⟨m',hm',i+1,ys++[y],wa',wb',_,I10.unpinned (pins:=[]),T.keep _ _ _ st7 fun b hb o e=>(I10.pin (b,o) (mem_append_right _ (mem_append_right _ (Yt hb e)))).1,fun b hb=>?_,w9⟩
    obtain ⟨o,e,d⟩:=T.obj _ _ st7 b hb
    exact (I10.pin (b,o) (mem_append_right _ (mem_append_right _ (Yt hb e)))).2.1
 exact codeAny_compStart_list loop (T.self _ 0 _ _ _ st4 loop)
theorem ZhN (O:CompOkT X scope xa xb)(hc:X.calm=true)(hi:PI X tg iter wi)(hg:∀ cl C s₀ H₀ fp,PG (YR X scope xa xb cl C s₀ H₀ fp) tg g)(hcn:∀ cl C s₀ H₀ fp,PT (YR X scope xa xb cl C s₀ H₀ fp) cnd tc)(he:∀ cl C s₀ H₀ fp,PE (YR X scope xa xb cl C s₀ H₀ fp) elt te)
 (hs:∀ v,foldedSetIterable iter X.env v=pure v:=by intro _;rfl):PE X (.ListComp elt [⟨tg,iter,[cnd],0⟩] scope pos) (ZkV wi g tc te):=by
 intro pins s σ H Q I h
 obtain ⟨cl,hcl,cl1,cl2⟩:=Wf (scope:=scope) (env:=X.env) fun y hy hf=>I.ok.has _ (O.clos y hy hf)
 rw [eval_ListComp]
 refine wpAny_comprehension_free (use:=none) rfl hs hcl O.kind O.names (Zn (hi pins s σ H _ I h) fun v s1 h1=>Zn h1 fun itv s2 h2=>?_)
 obtain ⟨it,fp,tn,J,H2,e,I2,T,st2,f2,q⟩:=h2
 subst e
 refine ZdL (RR:=fun acc C=>compPost (model X.prog X.w) X.A X.xe none (EP X pins σ Q) acc C) O hc cl1 cl2 hg hcn he I2 T st2 f2 q ?_
 intro D C H' s' I' ⟨g0,g1,g2,g3,g4,g5⟩ ⟨m,hm⟩ hq
 exact ⟨m,hm,fun h' hs'=>⟨.ref D,H',I'.turned (t':=s'.toks) (fun b o hb e=>(hs'.2 b hb).trans e) g0 g1 g3 g4 g5,rfl,hq⟩⟩
end
theorem Sep.nest {a:Addr}{Δ:Rs}:∀{Γ:Rs}{H h:Hp},Same h H->Sep Γ h->Sep Δ (Uu H h)->Sep (Γ++Δ) H
 | [],_,_,_,_,S=>S.mono ZaZ
 | (b,T)::Γ,H,h,l,⟨g,m,t,G⟩,S=>by
  refine ⟨g,m.trans l,t,Sep.nest (a:=a) (h:=Uu h g) (ZdX l) G (S.mono fun c o e=>?_)⟩
  obtain ⟨e1,e2⟩:=cut_some.mp e
  refine cut_some.mpr ⟨cut_some.mpr ⟨e1,fun u q=>e2 u (m _ _ q)⟩,fun u q=>e2 u (cut_some.mp q).1⟩
theorem Sep.pack' {Δ:Rs}:∀{Γ:Rs}{H:Hp},Sep (Γ++Δ) H->∃ h,Same h H/\Sep Γ h/\Sep Δ (Uu H h)
 | [],H,S=>⟨fun _=>none,fun b o e=>(by cases e),trivial,S.mono fun b o e=>cut_some.mpr ⟨e,fun u q=>(by cases q)⟩⟩
 | (b,T)::Γ,H,⟨g,m,t,S⟩=>by
  obtain ⟨h',l',G,S⟩:=Sep.pack' S
  refine ⟨fun c=>match g c with | some o=>some o | none=>h' c,fun c o e=>?_,⟨g,fun c o e=>?_,t,G.mono fun c o e=>?_⟩,S.mono fun c o e=>?_⟩
  ·cases q:g c with
   | some u=>simp only [q] at e;cases e;exact m _ _ q
   | none=>simp only [q] at e;exact (cut_some.mp (l' _ _ e)).1
  ·simp only [e]
  ·obtain ⟨e1,e2⟩:=cut_some.mp (l' _ _ e)
   refine cut_some.mpr ⟨?_,e2⟩
   cases q:g c with
   | some u=>simp only [q];rw [m _ _ q] at e1;exact e1
   | none=>simp only [q];exact e
  ·obtain ⟨e1,e2⟩:=cut_some.mp e
   obtain ⟨e3,e4⟩:=cut_some.mp e1
   refine cut_some.mpr ⟨e3,fun u q=>?_⟩
   cases z:g c with
   | some v=>simp only [z] at q;cases q;exact e4 _ z
   | none=>simp only [z] at q;exact e2 _ q
theorem Sep.pack {a:Addr}{Γ Δ:Rs}{H:Hp}{R:YH}(S:Sep (Γ++Δ) H)(f:∀ h,Sep Γ h->R a h):Sep ((a,R)::Δ) H:=by
 obtain ⟨h,l,G,S⟩:=Sep.pack' S
 exact ⟨h,l,f h G,S⟩
section
variable {X:Cx}
def rEqD:R2:=fun x y H Q=>∃ dx dy,DataOf H x dx/\DataOf H y dy/\dx.canLay0=true/\dy.canLay0=true/\dx.depth<=60/\Q (.bl (PyData.eqv dx dy)) H
def rNeD:R2:=fun x y H Q=>∃ dx dy,DataOf H x dx/\DataOf H y dy/\dx.canLay0=true/\dy.canLay0=true/\dx.depth<=60/\Q (.bl (!PyData.eqv dx dy)) H
theorem Zhj (hu:X.A.units+64 < cLine):Xb X (compareOp .Eq) rEqD:=by
 intro pins s σ H x y v u Q I rx ry h
 obtain ⟨dx,dy,d1,d2,c1,c2,hd,q⟩:=h
 obtain ⟨_,as,r1⟩:=DataOf.reads I.hok v d1 rx
 obtain ⟨_,bs,r2⟩:=DataOf.reads I.hok u d2 ry
 exact SeqAt.compareEq_reads r1 r2 c1 c2 (by omega) ⟨.bl _,H,I,rfl,q⟩
theorem ZlS (hu:X.A.units+64 < cLine):Xb X (compareOp .NotEq) rNeD:=by
 intro pins s σ H x y v u Q I rx ry h
 obtain ⟨dx,dy,d1,d2,c1,c2,hd,q⟩:=h
 obtain ⟨_,as,r1⟩:=DataOf.reads I.hok v d1 rx
 obtain ⟨_,bs,r2⟩:=DataOf.reads I.hok u d2 ry
 exact SeqAt.compareNe_reads r1 r2 c1 c2 (by omega) ⟨.bl _,H,I,rfl,q⟩
theorem ZiG {i:Nat}(h:i<=100000):¬ (!Builtin.List.listFitsIndex (i:Int))=true:=by
 have e:Builtin.List.listFitsIndex (i:Int)=true:=by
  unfold Builtin.List.listFitsIndex
  have h1:(-(2 ^ 63:Int))<=(i:Int):=Int.le_trans (by decide) (Int.natCast_nonneg i)
  have h2:(i:Int) < 2 ^ 63:=Int.lt_of_le_of_lt (Int.ofNat_le.mpr h) (by decide)
  rw [decide_eq_true h1,decide_eq_true h2];rfl
 rw [e];decide
theorem Zda (l:Addr)(its:Array Value)(n i:Nat)(t:Tok)(y:Value)(hi:i<=100000)(hsz:its.size<=sizeLine) :
 ∃ S,Meets (Builtin.«list.insert» ⟨[.ref l,.int ((i:Nat):Int) t,y],[]⟩) S/\∀ A R s,s.heap.get? l=some { cls:=.type "list",dict:=none,data:=.seq its n,slots:=#[] } ->
  R (.ok (.ret Value.none)) { s with heap:=s.heap.update l (Obj.mapSeq fun xs=>(xs.extract 0 (min i xs.size)).push y++xs.extract (min i xs.size)),toks:=s.toks }->S A R s:=by
 refine ⟨_,@PySem.AutoListH.list_insert_list_int_val_1 l its n ((i:Nat):Int) t y (ZiG hi) hsz,fun A R s h1 h2=>⟨h1,?_⟩⟩
 have e:(fun xs:Array Value=>(xs.extract 0 (min i xs.size)).push y++xs.extract (min i xs.size))=(fun xs:Array Value=>(xs.extract 0 (if ((i:Nat):Int) < 0 then (((i:Nat):Int)+((xs.size:Nat):Int)).toNat else min (((i:Nat):Int)).toNat xs.size)).push y++xs.extract (if ((i:Nat):Int) < 0 then (((i:Nat):Int)+((xs.size:Nat):Int)).toNat else min (((i:Nat):Int)).toNat xs.size)):=by
  funext xs
  rw [if_neg (by omega),Int.toNat_natCast]
 rw [e] at h2
 exact h2
def Zlm:V->List V->Hp->VK->Prop:=fun x vs H Q=>∃ l xs i y,x=.ref l/\vs=[.int (i:Nat),y]/\H l=some (.lst xs)/\xs.length < 100000/\i<=100000/\Q .non (upd H l (.lst (xs.take i++y::xs.drop i)))
theorem ZgW:MtM X "list.insert" Zlm:=by
 intro pins s σ H x vs v us Q I rx rv h
 obtain ⟨l,xs,i,y,rfl,rfl,hH,hz,hi,q⟩:=h
 cases rx
 obtain ⟨u1,u2,rfl,⟨t,rfl⟩,r2⟩:=Zbw rv
 obtain ⟨z,its,n,r,hl,e⟩:=I.lstM hH
 have hll:=r.length
 have hsz:its.toArray.size<=sizeLine:=by rw [size_toArray,<- hll];exact z
 obtain ⟨S,M,hS⟩:=Zda l its.toArray n i t u2 hi hsz
 refine call_meets (self:=.ref l) (rest:=[.int ((i:Nat):Int) t,u2]) (S:=S) F.slot_list_insert ⟨_,e,rfl⟩ F.entry_list_insert (F.args_list_insert_3 _ _ _) ?M (hS _ _ _ e ?R)
 case M=>assumption
 refine ⟨.non,_,I.lset (its':=its.take i++u2::its.drop i) hH e ?_ ((r.take i).append (.cons r2 (r.drop i))) ?_,rfl,q⟩
 ·apply Array.toList_inj.mp
  by_cases hi2:i<=its.length
  ·have e1:min i its.length=i:=Nat.min_eq_left hi2
   simp [e1,take_of_length_le]
  ·have e1:min i its.length=its.length:=Nat.min_eq_right (by omega)
   simp [e1,take_of_length_le (show its.length<=i by omega),List.drop_eq_nil_of_le (show its.length<=i by omega)]
 ·rw [length_append,length_take,length_cons,length_drop]
  exact Nat.le_trans (show _<=100001 by omega) (by decide)
end
section
variable {X:Cx}{k:Nat}{C:Addr}{x m:Str}{ps:List Str}{sp:Sp}{p pos apos:Pos}{o:Expr}{ta:TE}
theorem ZfD {pl:Sem Bool}(D:DefM X.prog X.w X.K X.mg X.base k C m ps sp)(c:Cls X.K C)(hr:Room k X.A)(he:PE X o ta)
 (ht:eval (.Call (.Attribute o m apos) [] [] pos) X.env=(do
  let ov <- eval o X.env
  standAt apos.atName
  let (f,first) <- holding [ov] (getMethod ov m pl)
  callWith pos f first (backTo pos (starEach [] X.env)) (backToKw pos (keywordEach [] X.env))):=by rfl) :
 PE X (.Call (.Attribute o m apos) [] [] pos) (ZcP C m sp [] E0 ta Wt):=by
 obtain ⟨f,fd,F,b,q⟩:=D
 exact ZiT he c q F hr b .nil ZcW ht
end
def ZfC (K:KF)(a:Addr):It :=
 ⟨fun i H=>∃ xs x,SqL K H a xs/\xs[i]?=some x,fun i H v H'=>∃ t x,H t=none/\(∀ xs,SqL K H a xs->xs[i]?=some x)/\v=.ref t/\H'=upd H t (.tup [.int (i:Int),x]),fun i H=>∃ xs,SqL K H a xs/\xs.length<=i⟩
theorem ZfS {P:Program}{w:World}{K:KF}{elts:List Expr}{x1:Nat}{tp:Pos}(a e it:Addr)(hne:e≠it)(hai:a≠it)(hae:a≠e) :
 Uj P w K (.Tuple elts x1 tp) (ZfC K a) [e,it] e (fun i h=>(∃ old,IsEnum h e it (i:Int) old)/\h.IsListIter it a i) where
 mem:=by simp
 obj:=fun i h st b hb=>by
  obtain ⟨⟨old,he⟩,⟨o,ho,c,d⟩⟩:=st
  rcases mem_cons.mp hb with q | hb
  ·rw [q];exact ⟨_,he,fun v z=>by cases z⟩
  ·rw [mem_singleton.mp hb];exact ⟨o,ho,fun v z=>by rw [d] at z;cases z⟩
 keep:=fun i h h' st k=>by
  obtain ⟨⟨old,he⟩,st⟩:=st
  exact ⟨⟨old,k e (by simp) _ he⟩,st.at fun o y=>k it (by simp) o y⟩
 item:=by
  intro X hP hw hK hc i pins s σ H E I hf st hg
  subst hP hw hK
  obtain ⟨⟨old,he⟩,hs⟩:=st
  obtain ⟨xs,x,hq,hx⟩:=hg
  obtain ⟨its,rv,p,hz⟩:=I.list hq
  obtain ⟨u,hu,ru⟩:=rv.get hx
  have hlt:i < its.toArray.size:=by
   have:=(List.getElem?_eq_some_iff.mp hu).1
   simpa using this
  have D:=Draws.list (prog:=X.prog) (w:=X.w) (A:=X.A.in1) (I.ok.hd hc) it a hai its.toArray
  refine wpAny_pyNext_enum_itemD (i:=i) D he ⟨hs,p.isList⟩ hlt hne (by simp [hne,Ne.symm hae]) fun v h' tk hP hOut hst hT hsz hk=>?_
  have ev:v=u:=by
   have:its[i]?=some v:=by simpa using hP
   rw [hu] at this;exact (Option.some.inj this).symm
  subst ev
  have hel:e < s.heap.objs.size:=Heap.lt_size he
  have hil:it < s.heap.objs.size:=by obtain ⟨o,ho,_⟩:=hs;exact Heap.lt_size ho
  refine ⟨_,rfl,wpAny_letOwnedTupleGo_enum hOut fun h2 he2 hs2=>?_⟩
  generalize hO:({ cls:=.type "tuple",data:=.seq #[.int ((i:Nat):Int) tk,v] }:Obj)=O at hT
  have I1:Inv X pins σ (upd H s.heap.objs.size (.tup [.int (i:Int),x])) { s with heap:=s.heap.push O,toks:=tk+1 }:=by
   refine I.laid (t':=tk+1) (fun b o y=>Heap.get?_push_of_some _ y) (Nat.le_refl _) (show ObjOk X.prog X.w _ _ _ (.tup _) from ⟨by show 2<=sizeLine;decide,[.int ((i:Nat):Int) tk,v],.cons ⟨tk,rfl⟩ (.cons ru .nil),?_⟩)
   rw [<- hO];exact IsTup.new _ _
  have hfree:=I.hok.fresh (Nat.le_refl s.heap.objs.size)
  have hf2:∀ b∈[e,it],YD X pins (upd H s.heap.objs.size (.tup [.int (i:Int),x])) b:=fun b hb=>by
   obtain ⟨f0,f1⟩:=hf b hb
   have hb':b≠s.heap.objs.size:=by
    rcases mem_cons.mp hb with q | hb
    ·rw [q];exact Nat.ne_of_lt hel
    ·rw [mem_singleton.mp hb];exact Nat.ne_of_lt hil
   exact ⟨by rw [Zi hb'];exact f0,f1⟩
  have I2:Inv X pins σ (upd H s.heap.objs.size (.tup [.int (i:Int),x])) { s with heap:=h2,toks:=tk+1 }:=by
   refine I1.turned2 (t':=tk+1) (h':=h2) (fun b o hb y=>?_) hf2
   have hbe:b≠e:=fun q=>hb (by simp [q])
   have hbi:b≠it:=fun q=>hb (by simp [q])
   rw [hs2.2 b hbe]
   rcases Heap.get?_push_cases y with ⟨q1,q2⟩ | y
   ·rw [q1,q2];exact hT
   ·exact hk b o hbe hbi y
  refine ⟨.ref s.heap.objs.size,_,I2,rfl,⟨s.heap.objs.size,x,hfree,fun ys hy=>by rw [I.list_inj hy hq];exact hx,rfl,rfl⟩,⟨⟨_,he2⟩,?_⟩,fun b hb=>(hf2 b hb).1⟩
  exact hst.1.at fun o y=>by rw [hs2.2 it hne.symm];exact y
 done:=by
  intro X hP hw hK hc i pins s σ H E I hf st hg
  subst hP hw hK
  obtain ⟨⟨old,he⟩,hs⟩:=st
  obtain ⟨xs,hq,hle⟩:=hg
  obtain ⟨its,rv,p,hz⟩:=I.list hq
  have hl:=rv.length
  obtain ⟨f0,f1,f2,f3,f4,f5⟩:=hf it (by simp)
  exact wpAny_pyNext_enum_end (I.ok.hd hc) he hs p.isList (by simp;omega) fun h' eb=>⟨rfl,I.turned (t':=s.toks) (fun b o hb y=>eb b o hb y) f0 f1 f3 f4 f5⟩
 self:=fun _ _ _ _ _ st h=>by
  obtain ⟨⟨old,he⟩,_⟩:=st
  exact wpAny_pyIter_enum he h
def Zmp (K:KF)(tl:TE):TI:=fun σ H R=>tl σ H fun v H1=>∃ a xs,[v]=[V.ref a]/\H1 a=some (.lst xs)/\R (ZfC K a) H1
section
variable {X:Cx}
theorem ZjF {l:Expr}{tl:TE}{elts:List Expr}{x1:Nat}{tp p pos:Pos}(hg:Gl X "enumerate")(hm:X.mg "enumerate"=none)(hl:PE X l tl)
 (he:starEach [l] X.env=[(false,eval l X.env)]:=by rfl):PI X (.Tuple elts x1 tp) (.Call (.Name "enumerate" p) [l] [] pos) (Zmp X.K tl):=by
 intro pins s σ H R I h
 have ha:PA X [l] (XF tl Wt):=Yy hl Za he
 refine wpAny_Call_Name_kw (WC I hg hm boot_enumerate ?_)
 refine PyProof.Rows.callWith_type1 (Zn (ha pos pins s σ H (fun vs H1=>∃ a xs,vs=[V.ref a]/\H1 a=some (.lst xs)/\R (ZfC X.K a) H1) I h) fun us s1 ⟨vs,H1,I1,r1,a,xs,e,ea,q⟩=>?_) he rfl
 subst e
 obtain ⟨u,rfl,r⟩:=Yx r1
 cases r
 obtain ⟨z,its,n,rv,hll,eo⟩:=I1.lstM ea
 have hal:a < s1.heap.objs.size:=Heap.lt_size eo
 refine call_enumerate_1 eo fun h' hE hit hsz hkk=>wpAny_pyIter_enum hE ?_
 refine ⟨s1.heap.objs.size+1,[s1.heap.objs.size+1,s1.heap.objs.size],_,_,H1,rfl,I1.kept (t':=s1.toks) hkk,ZfS a _ _ (Nat.succ_ne_self _) (Nat.ne_of_lt hal) (Nat.ne_of_lt (Nat.lt_succ_of_lt hal)),⟨⟨_,hE⟩,hit⟩,fun b hb=>?_,q⟩
 rcases mem_cons.mp hb with z | hb
 ·rw [z];exact I1.fpOk (Nat.le_succ _) (I1.hok.fresh (Nat.le_succ _))
 ·rw [mem_singleton.mp hb];exact I1.fpOk (Nat.le_refl _) (I1.hok.fresh (Nat.le_refl _))
end
def ZnN (i j k:Nat)(ta:TA):TS:=fun D σ H=>ta σ H fun vs H1=>∃ u v w,vs=[u,v,w]/\D.nx (((σ.set i (some u)).set j (some v)).set k (some w)) H1
theorem ZlJ {X:Cx}{pos:Pos}{i j k:Nat}{x y z:Str}{a b c:Expr}{ta:TA}{px py pz pt:Pos}{kt k2 pt2}(hc:X.calm=true)(hN:X.N.Nodup)(hi:X.N[i]?=some x)(hj:X.N[j]?=some y)(hk:X.N[k]?=some z)(hij:i≠j)(hik:i≠k)(hjk:j≠k)
 (hx:X.env.scope.names.lookup x=some .local) (hy:X.env.scope.names.lookup y=some .local) (hz:X.env.scope.names.lookup z=some .local) (ha:PA X [a,b,c] ta)
 (hw:swappedStores [.Tuple [.Name x px,.Name y py,.Name z pz] kt pt] (.Tuple [a,b,c] k2 pt2) X.env=pure (some [x,y,z]))
 (hs:swapsWithSole [.Tuple [.Name x px,.Name y py,.Name z pz] kt pt] (.Tuple [a,b,c] k2 pt2) pos.line X.env=pure false:=by rfl) :
 PS X (.Assign [.Tuple [.Name x px,.Name y py,.Name z pz] kt pt] (.Tuple [a,b,c] k2 pt2) pos) (ZnN i j k ta):=by
 intro pins s σ H D I h
 rw [exec_Assign_arm]
 refine wpAny_bind (wpAny_standAt ?_)
 rw [hs]
 refine wpAny_bind (wpAny_pure ?_)
 rw [if_neg (by decide)]
 refine wpAny_bind (Tuple_ (Zn (ha _ pins s σ H _ I h) fun us s1 ⟨vs,H1,I1,r1,q1⟩=>?_))
 obtain ⟨v1,v2,v3,e1,q1⟩:=q1
 subst e1
 obtain ⟨u1,u2,u3,rfl,rv1,rv2,rv3⟩:∃ u1 u2 u3,us=[u1,u2,u3]/\RelV v1 u1/\RelV v2 u2/\RelV v3 u3:=by
  cases r1 with
  | cons p q =>
   cases q with
   | cons p' q' =>
    cases q' with
    | cons p'' q'' =>
     cases q''
     exact ⟨_,_,_,rfl,p,p',p''⟩
 refine wpAny_newObj_type ?_ (by show 3<=sizeLine;decide)
 have I2:Inv X pins σ H1 { s1 with heap:=s1.heap.push { cls:=.type "tuple",data:=.seq [u1,u2,u3].toArray } }:=I1.kept (t':=s1.toks) fun b o e=>Heap.get?_push_of_some _ e
 rw [hw]
 refine wpAny_bind (wpAny_pure ?_)
 show wpAny (model X.prog X.w) X.A (do rule "assign.swapped-stores";let items <- unpackItems (.ref s1.heap.objs.size) 3 none;assignInOrder [fun v=>bindName X.env z v,fun v=>bindName X.env y v,fun v=>bindName X.env x v] items.reverse;pure Flow.next) _ _ _
 refine wpAny_bind (wpAny_rule (wpAny_bind (unpackItems_tuple (items:=#[u1,u2,u3]) (I.ok.hd hc) (IsTup.new s1.heap _) fun h' hx'=>?_)))
 have I3:=I2.kept (h':=h') (t':=s1.toks) fun b o e=>hx' b o (Nat.ne_of_lt (Heap.lt_size e)) e
 show wpAny _ _ (assignInOrder [fun v=>bindName X.env z v,fun v=>bindName X.env y v,fun v=>bindName X.env x v] [u3,u2,u1] >>= fun _=>pure Flow.next) _ _ _
 refine wpAny_bind (assignInOrder_cons (wpAny_bindName (Xz I3 hN hk (.inl hz) rv3 (fun s2 I4=>?_) (.inr hz))))
 refine assignInOrder_cons (wpAny_bindName (Xz I4 hN hj (.inl hy) rv2 (fun s3 I5=>?_) (.inr hy)))
 refine assignInOrder_cons (wpAny_bindName (Xz I5 hN hi (.inl hx) rv1 (fun s4 I6=>assignInOrder_nil (wpAny_pure ?_)) (.inr hx)))
 rw [List.set_comm _ _ (Ne.symm hjk),List.set_comm _ _ (Ne.symm hik),List.set_comm _ _ (Ne.symm hij)] at I6
 exact ⟨_,H1,I6,q1⟩
theorem ZcH {X:Cx}{K:KF}(hK:X.K=K):Xb X (compareOp .NotIn) (rIn K true):=by subst hK;exact ZdB
theorem Zjx {X:Cx}{K:KF}(hK:X.K=K):SlR X (rSlL K):=by subst hK;exact ZbM
theorem ZdW {α β:Type}{f g:α->Option β}:∀{l:List α},(∀ x∈l,f x=g x)->l.filterMap f=l.filterMap g
 | [],_=>rfl
 | x::l,h=>by
  rw [filterMap_cons,filterMap_cons,h x mem_cons_self,ZdW fun y hy=>h y (mem_cons_of_mem _ hy)]
theorem Zif (its:List Value):slicePick its.toArray none none (some (-1))=its.reverse.toArray:=by
 have hb:sliceBounds none none (some (-1)) its.toArray.size=((its.length:Int) - 1,-1,-1):=by
  unfold sliceBounds
  simp
 unfold slicePick
 rw [hb]
 have hr:sliceRange ((its.length:Int) - 1) (-1) (-1)=(List.range its.length).map fun k=>its.length - 1 - k:=by
  unfold sliceRange
  have e1:(if (-1:Int) > 0 then (if (its.length:Int) - 1 < -1 then (-1 - ((its.length:Int) - 1)+-1 - 1) / -1 else 0) else (if (its.length:Int) - 1 > -1 then ((its.length:Int) - 1 - -1 - -1 - 1) / (- -1) else 0)).toNat=its.length:=by
   rw [if_neg (by decide)]
   split
   ·rw [show (- -1:Int)=1 by decide,Int.ediv_one];omega
   ·omega
  dsimp only
  rw [e1]
  apply map_congr_left
  intro k hk
  have:=mem_range.mp hk
  omega
 dsimp only
 rw [hr,List.filterMap_map]
 congr 1
 have gen:∀ (l:List Value),(List.range l.length).filterMap ((fun i=>l[i]?) ∘ fun k=>l.length - 1 - k)=l.reverse:=by
  intro l
  have h1:(List.range l.length).filterMap ((fun i=>l[i]?) ∘ fun k=>l.length - 1 - k)=(List.range l.reverse.length).filterMap (fun k=>l.reverse[k]?):=by
   rw [length_reverse]
   refine ZdW fun k hk=>?_
   have hk':=mem_range.mp hk
   show l[l.length - 1 - k]?=l.reverse[k]?
   rw [List.getElem?_reverse hk']
  rw [h1]
  have g2:∀ (m:List Value) (n:Nat),(List.range n).filterMap (fun k=>m[k]?)=m.take n:=by
   intro m n
   induction n with
   | zero=>simp
   | succ n ih =>
    rw [List.range_succ,List.filterMap_append,ih,take_add_one]
    cases e:m[n]?<;>simp [e]
  rw [g2,take_of_length_le (Nat.le_refl _)]
 have:=gen its
 simpa using this
def Znv (K:KF)(te:TE):TE:=fun σ H Q=>te σ H fun x H1=>∃ a xs,x=.ref a/\SqL K H1 a xs/\∀ p,H1 p=none->Q (.ref p) (upd H1 p (.lst xs.reverse))
section
variable {X:Cx}
theorem ZkP {e:Expr}{te:TE}{k:Nat}{pc pu p2 pos:Pos}(he:PE X e te):PE X (.Subscript e (.Slice none none (some (.UnaryOp .USub (.Constant (.int 1) k pc) pu)) p2) pos) (Znv X.K te):=by
 intro pins s σ H Q I h
 refine Subscript_ (Zn (he pins s σ H _ I h) fun v s1 ⟨x,H1,I1,r1,a,xs,ex,hx,q1⟩=>?_)
 subst ex
 cases r1
 refine wpAny_Slice (Zn (XU pins s1 σ H1 (fun o H2=>o=none/\H2=H1) I1 ⟨rfl,rfl⟩) fun vl s2 ⟨l,H2,I2,pl,el,eh⟩=>Zn (XU pins s2 σ H2 (fun o H3=>o=none/\H3=H2) I2 ⟨rfl,rfl⟩) fun vu s3 ⟨u,H3,I3,pu',eu,eh'⟩=>?_)
 subst el eh eu eh'
 refine Zn (Ws (X:=X) (Zfm ZdS Ze) pins s3 σ H3 (fun o H4=>o=some (-1)/\H4=H3) I3 ⟨_,rfl,_,rfl,rfl,rfl⟩) fun vst s4 ⟨o,H4,I4,ps,eo,eh4⟩=>?_
 subst eo eh4
 have I5:Inv X pins σ H4 { s4 with heap:=s4.heap.push { cls:=.type "slice",data:=.fields #[vl,vu,vst] } }:=I4.kept (t':=s4.toks) fun b ob q=>Heap.get?_push_of_some _ q
 obtain ⟨its,r,ht,hz⟩:=I5.list hx
 have hlen:=r.length
 show wpAny (model X.prog X.w) X.A (subscriptTail e (.Slice none none (some (.UnaryOp .USub (.Constant (.int 1) k pc) pu)) p2) (.ref a) (.ref s4.heap.objs.size)) (EP X pins σ Q) X.xe { s4 with heap:=s4.heap.push { cls:=.type "slice",data:=.fields #[vl,vu,vst] } }
 refine tail_any (ops:=[.ref a,.ref s4.heap.objs.size]) ht.isList.typeIs slot_list_getitem.lookup ?_ (by with_unfolding_all rfl)
 refine wpAny_getItem_list_slice ht.isList (Heap.IsSliceOf.new ..) pl pu' ps (by decide) ?_ (by rw [size_toArray];omega)
 rw [Zif]
 refine ⟨.ref _,_,I5.laid (t':=s4.toks) (o:=.lst xs.reverse) (fun b ob q=>Heap.get?_push_of_some _ q) (Nat.le_refl _) ?_,rfl,q1 _ (I5.hok.fresh (Nat.le_refl _))⟩
 exact ⟨by rw [length_reverse];exact hz,its.reverse,0,r.reverse,Heap.get?_push_size _ rfl⟩
end
end L2
namespace L2
open PySem
theorem Sep.newE {Δ:Rs}{H H2:Hp}{o:HO}(S:Sep Δ H){p:Addr}(hp:H p=none)(e:upd H p o=H2):Sep ((p,Pt o)::Δ) H2:=e ▸ S.new hp o
theorem Sep.putE {Δ Δ':Rs}{H H2:Hp}{o o':HO}{a:Addr}(S:Sep Δ H)(e:upd H a o'=H2)[P:Pull a Δ (Pt o) Δ'](m:YB o=true:=by rfl):Sep ((a,Pt o')::Δ') H2:=e ▸ S.put a o' m
theorem Uy {lo:Int}{n:Nat}{te:TE}{σ:St}{D:Addr}{Q:VK}{H:Hp}{Δ:Rs}(hn:n<=sizeLine)(S:Sep Δ H)(hD:H D=none)(J:Nat->List V->Rs->Prop)(h0:J 0 [] Δ)
 (hs:∀ i ys Δ H,i < n->ys.length=i->J i ys Δ->Sep ((D,ZD ys)::Δ) H->te (σ++[some (.int (lo+i))]) H fun y H4=>∃ Δ',J (i+1) (ys++[y]) Δ'/\Sep ((D,ZD ys)::Δ') H4)
 (hd:∀ ys Δ H,J n ys Δ->ys.length=n->Sep ((D,ZD ys)::Δ) H->Q (.ref D) H):Vj (Itr lo n) te σ D Q H:=by
 refine ⟨fun i m ys H=>m=n - i/\i<=n/\ys.length=i/\∃ Δ,J i ys Δ/\Sep ((D,ZD ys)::Δ) H,⟨n,by simp,Nat.zero_le _,rfl,Δ,h0,S.new hD _⟩,?_⟩
 rintro i m ys H2 ⟨rfl,hi,hl,Δ,j,S⟩
 by_cases hlt:i < n
 ·refine .inr ⟨hlt,_,fun y H4 (q:∃ Δ',J (i+1) (ys++[y]) Δ'/\Sep ((D,ZD ys)::Δ') H4)=>?_,fun v H3 y=>?_⟩
  ·obtain ⟨Δ',j',S'⟩:=q
   exact ⟨S'.get D,by omega,n - (i+1),by omega,rfl,hlt,by simp [hl],Δ',j',S'.put D _⟩
  ·obtain ⟨e1,e2⟩:=y
   subst e1 e2
   exact hs i ys Δ _ hlt hl j S
 ·have e:i=n:=by omega
  exact .inl ⟨by show n<=i;omega,hd ys Δ H2 (e ▸ j) (by omega) S⟩
theorem ZfN {K:KF}{a:Addr}{xs:List V}{te:TE}{σ:St}{D:Addr}{Q:VK}{H:Hp}{Δ:Rs}(hn:xs.length<=sizeLine)(S:Sep Δ H)(hD:H D=none)(J:Nat->List V->Rs->Prop)(h0:J 0 [] Δ)
 (ha:∀ i ys Δ H,J i ys Δ->Sep ((D,ZD ys)::Δ) H->SqL K H a xs)
 (hs:∀ i x ys Δ H,xs[i]?=some x->ys.length=i->J i ys Δ->Sep ((D,ZD ys)::Δ) H->te (σ++[some x]) H fun y H4=>∃ Δ',J (i+1) (ys++[y]) Δ'/\Sep ((D,ZD ys)::Δ') H4)
 (hd:∀ ys Δ H,J xs.length ys Δ->ys.length=xs.length->Sep ((D,ZD ys)::Δ) H->Q (.ref D) H):Vj (Itl K a) te σ D Q H:=by
 refine ⟨fun i m ys H=>m=xs.length - i/\i<=xs.length/\ys.length=i/\∃ Δ,J i ys Δ/\Sep ((D,ZD ys)::Δ) H,⟨xs.length,by simp,Nat.zero_le _,rfl,Δ,h0,S.new hD _⟩,?_⟩
 rintro i m ys H2 ⟨rfl,hi,hl,Δ,j,S⟩
 have q:=ha i ys Δ H2 j S
 by_cases hlt:i < xs.length
 ·refine .inr ⟨⟨xs,xs[i],q,by simp [hlt]⟩,_,fun y H4 (q:∃ Δ',J (i+1) (ys++[y]) Δ'/\Sep ((D,ZD ys)::Δ') H4)=>?_,fun v H3 y=>?_⟩
  ·obtain ⟨Δ',j',S'⟩:=q
   exact ⟨S'.get D,by omega,xs.length - (i+1),by omega,rfl,hlt,by simp [hl],Δ',j',S'.put D _⟩
  ·obtain ⟨e1,e2⟩:=y
   subst e1
   exact hs i v ys Δ _ (e2 xs q) hl j S
 ·have e:i=xs.length:=by omega
  exact .inl ⟨⟨xs,q,by omega⟩,hd ys Δ H2 (e ▸ j) (by omega) S⟩
theorem Zdn {K:KF}{a:Addr}{xs:List V}{g:TG}{tc:TT}{te:TE}{σ:St}{D:Addr}{Q:VK}{H:Hp}{Δ:Rs}(hn:xs.length<=sizeLine)(S:Sep Δ H)(hD:H D=none)(J:Nat->List V->Rs->Prop)(h0:J 0 [] Δ)
 (ha:∀ i ys Δ H,J i ys Δ->Sep ((D,ZD ys)::Δ) H->SqL K H a xs)
 (hs:∀ i x t ys Δ H wa wb,xs[i]?=some x->ys.length<=i->J i ys Δ->Sep ((t,Tup [.int (i:Int),x])::(D,ZD ys)::Δ) H->g (.ref t) (σ++[wa,wb]) H fun σ' H'=>(∃ wa wb,σ'=σ++[wa,wb])/\tc σ' H' fun b H3=>if b=true then te σ' H3 fun y H4=>∃ Δ',J (i+1) (ys++[y]) Δ'/\Sep ((D,ZD ys)::Δ') H4 else ∃ Δ',J (i+1) ys Δ'/\Sep ((D,ZD ys)::Δ') H3)
 (hd:∀ ys Δ H,J xs.length ys Δ->ys.length<=xs.length->Sep ((D,ZD ys)::Δ) H->Q (.ref D) H):Zdf (ZfC K a) g tc te σ D Q H:=by
 refine ⟨fun i m ys H=>m=xs.length - i/\i<=xs.length/\ys.length<=i/\∃ Δ,J i ys Δ/\Sep ((D,ZD ys)::Δ) H,⟨xs.length,by simp,Nat.zero_le _,Nat.le_refl _,Δ,h0,S.new hD _⟩,?_⟩
 rintro i m ys H2 ⟨rfl,hi,hl,Δ,j,S⟩
 have q:=ha i ys Δ H2 j S
 by_cases hlt:i < xs.length
 ·refine .inr ⟨⟨xs,xs[i],q,by simp [hlt]⟩,_,_,fun y H4 (q:∃ Δ',J (i+1) (ys++[y]) Δ'/\Sep ((D,ZD ys)::Δ') H4)=>?_,fun H4 (q:∃ Δ',J (i+1) ys Δ'/\Sep ((D,ZD ys)::Δ') H4)=>?_,fun wa wb v H3 y=>?_⟩
  ·obtain ⟨Δ',j',S'⟩:=q
   exact ⟨S'.get D,by omega,xs.length - (i+1),by omega,rfl,hlt,by simp;omega,Δ',j',S'.put D _⟩
  ·obtain ⟨Δ',j',S'⟩:=q
   exact ⟨xs.length - (i+1),by omega,rfl,hlt,by omega,Δ',j',S'⟩
  ·obtain ⟨t,x,e1,e2,e3,e4⟩:=y
   subst e3 e4
   exact hs i x t ys Δ _ wa wb (e2 xs q) hl j (S.new e1 _)
 ·have e:i=xs.length:=by omega
  exact .inl ⟨⟨xs,q,by omega⟩,hd ys Δ H2 (e ▸ j) (by omega) S⟩
def WH (x:Str):Prop:=1<=x.length/\x.length<=8/\x.cps.toList.all Vh=true
theorem YS (c:Nat):(⟨#[c]⟩:Str).length=1:=rfl
theorem Zeb {P:Nat->Bool}:∀{l:List Str},(∀ z∈l,∃ c,z=⟨#[c]⟩/\P c=true)->(l.map (·.length)).sum=l.length/\(l.flatMap (·.cps.toList)).length=l.length/\(l.flatMap (·.cps.toList)).all P=true
 | [],_=>⟨rfl,rfl,rfl⟩
 | z :: r,h=>by
  obtain ⟨c,rfl,hc⟩:=h z mem_cons_self
  obtain ⟨g1,g2,g3⟩:=Zeb (l:=r) fun y hy=>h y (mem_cons_of_mem _ hy)
  refine ⟨?_,?_,?_⟩
  ·rw [map_cons,List.sum_cons,g1,length_cons];show 1+_=_;omega
  ·have e0:((⟨#[c]⟩:Str)::r).flatMap (·.cps.toList)=c::r.flatMap (·.cps.toList):=rfl
   rw [e0,length_cons,length_cons,g2]
  ·rw [List.flatMap_cons,List.all_append,g3];simp [hc]
theorem ZhJ {P:Nat->Bool}{zs:List Str}(h:∀ z∈zs,∃ c,z=⟨#[c]⟩/\P c=true):(zs.map (·.length)).sum+zs.length * (Str.ofString "").length<=2 * zs.length/\(Txt.join (Str.ofString "") zs).length=zs.length/\(Txt.join (Str.ofString "") zs).cps.toList.all P=true:=by
 obtain ⟨g1,g2,g3⟩:=Zeb h
 refine ⟨?_,?_,?_⟩
 ·rw [g1];show _+_ * 0<=_;omega
 ·rw [Yn,WO,g2]
 ·rw [WO];exact g3
theorem WW {P:Nat->Bool}{x y:Str}(h1:x.cps.toList.all P=true)(h2:y.cps.toList.all P=true):(x++y).cps.toList.all P=true:=by
 rw [Vt,List.all_append,h1,h2];rfl
theorem Vn {P:Nat->Bool}{c:Nat}(h:P c=true):(⟨#[c]⟩:Str).cps.toList.all P=true:=by
 show [c].all P=true;simp [h]
theorem Vl {P:Nat->Bool}{x:Str}{lo hi:Option Int}(h:x.cps.toList.all P=true):(Txt.slice x lo hi).cps.toList.all P=true:=by
 rw [Wx]
 rw [all_eq_true] at h ⊢
 exact fun c hc=>h c (List.mem_of_mem_drop (List.mem_of_mem_take hc))
theorem Zgz {x:Str}{k:Int}(h0:0<=k)(h1:k<=x.length):(Txt.slice x none (some k)).length+(Txt.slice x (some k) none).length=x.length:=by
 have hn:¬ k < 0:=by omega
 rw [Yn,Yn,Wx,Wx,Yn]
 rw [Yn] at h1
 have e1:HT.sIx x.cps.toList.length 0 none=0:=rfl
 have e2:HT.sIx x.cps.toList.length x.cps.toList.length none=x.cps.toList.length:=rfl
 have e3:∀ d,HT.sIx x.cps.toList.length d (some k)=k.toNat:=fun d=>by
  unfold HT.sIx
  simp only [hn,if_false]
  omega
 rw [e1,e2,e3,e3,length_take,length_take,length_drop,length_drop]
 omega
theorem Ww {x:Str}{P:Nat->Bool}(ha:x.cps.toList.all P=true){r:Int}(h0:0<=r)(h1:r < x.length):∃ c,YY x.cps.toList r=some c/\P c=true:=by
 have hl:r.toNat < x.cps.toList.length:=by rw [<- Yn];omega
 exact ⟨_,ZaN h0 (getElem?_eq_getElem hl),all_eq_true.mp ha _ (List.getElem_mem hl)⟩
def a26:Str:="abcdefghijklmnopqrstuvwxyz"
theorem Xk:a26.length=26:=by decide +kernel
theorem UH:a26.cps.toList.all Vh=true:=by decide +kernel
theorem Zhc {α:Type}{f:α->V}{xs:List α}{r:Int}(h0:0<=r)(h1:r < (xs.length:Int)):∃ x∈xs,YY (xs.map f) r=some (f x):=by
 have hl:r.toNat < xs.length:=by omega
 exact ⟨_,List.getElem_mem hl,ZaN h0 (by rw [getElem?_map,getElem?_eq_getElem hl];rfl)⟩
theorem ZeS {xs:List V}{r:Int}(h0:0<=r)(h1:r < (xs.length:Int)):∃ x∈xs,YY xs r=some x:=by
 have hl:r.toNat < xs.length:=by omega
 exact ⟨_,List.getElem_mem hl,ZaN h0 (getElem?_eq_getElem hl)⟩
theorem Sep.le {Δ:Rs}{H:Hp}{p:Addr}{n m:Nat}(S:Sep ((p,Bx n)::Δ) H)(h:n<=m):Sep ((p,Bx m)::Δ) H:=by
 obtain ⟨g,l,r,S⟩:=S
 exact ⟨g,l,BoxAt.le r h,S⟩
def Zaq:Sp:=fun vs H Q _=>∃(p:Addr)(n:Nat)(Δ:Rs),vs=[.ref p]/\Sep ((p,Bx n)::Δ) H/\n<=900000/\∀(v:V)(H':Hp),Xa v->Sep ((p,Bx (n+50))::Δ) H'->Q v H'
theorem Zln {vs:List V}{H:Hp}{Q:VK}{E:XK}(h:Zaq vs H Q E):ZeK vs H Q E:=by
 obtain ⟨p,n,Δ,e,S,h1,q⟩:=h
 exact ⟨p,n,e,S.get p,h1,fun v H' hv B k=>q v H' hv (S.box k B)⟩
def ZdR (K:KF):Sp:=fun vs H Q _=>∃(a:Addr)(ns:List Int)(k:Int)(Δ:Rs),vs=[.ref a,.int k]/\SqL K H a (ns.map V.int)/\Sep Δ H/\0<=k/\k<=1000/\∀(p:Addr)(H':Hp),Same H H'->Sep ((p,Bx 0)::Δ) H'->Q (.ref p) H'
theorem ZnO {K:KF}{vs:List V}{H:Hp}{Q:VK}{E:XK}(h:ZdR K vs H Q E):Zkq K vs H Q E:=by
 obtain ⟨a,ns,k,Δ,e,hS,S,h1,h2,q⟩:=h
 refine ⟨a,ns,k,e,hS,h1,h2,fun p H' hp B s=>q p H' s ?_⟩
 obtain ⟨x,y,z,eb,w⟩:=B
 exact (S.made s hp eb).say p (Bx 0) fun h r=>⟨x,y,z,r,w⟩
theorem Zdd {xs:List V}{i:Nat}:VU xs none (some (i:Int))=xs.take i:=by
 unfold VU
 rw [HT.sIx_none,HT.sIx_nat,List.drop_zero,Nat.sub_zero]
 by_cases h:i<=xs.length
 ·rw [Nat.min_eq_left h]
 ·rw [Nat.min_eq_right (by omega),take_of_length_le (Nat.le_refl _),take_of_length_le (by omega)]
theorem ZkY {x:Str}{ys:List Str}:inV (.str x) (ys.map V.str)=decide (x∈ys):=by
 unfold inV
 induction ys with
 | nil=>rfl
 | cons y ys ih =>
  rw [map_cons,any_cons,ih]
  show ((y == x) || decide (x∈ys))=decide (x∈y::ys)
  by_cases h:y=x
  ·subst h;simp
  ·rw [show (y == x)=false from beq_eq_false_iff_ne.mpr h,Bool.false_or]
   congr 1
   simp [mem_cons,Ne.symm h]
theorem ZhA (ys:List Str):(ys.map V.str).all WM=true:=by
 rw [all_eq_true]
 intro v hv
 obtain ⟨y,_,rfl⟩:=mem_map.mp hv
 rfl
theorem Zfv:(List.range 26).all (fun k=>decide (Txt.find a26 ⟨#[97+k]⟩=(k:Int)))=true:=by decide +kernel
theorem Zhe {c:Nat}(h:Vh c=true):Txt.find a26 ⟨#[c]⟩=(c:Int) - 97/\97<=c/\c<=122:=by
 unfold Vh at h
 simp only [Bool.and_eq_true,decide_eq_true_eq] at h
 have z:=of_decide_eq_true (all_eq_true.mp Zfv (c - 97) (mem_range.mpr (by omega)))
 rw [show 97+(c - 97)=c by omega] at z
 exact ⟨by rw [z];omega,h⟩
theorem Zio {x:Str}{P:Nat->Bool}(ha:x.cps.toList.all P=true){r:Int}(h0:-(x.length:Int)<=r)(h1:r < x.length):∃ c,YY x.cps.toList r=some c/\P c=true:=by
 by_cases h:0<=r
 ·exact Ww ha h h1
 ·have hl:(r+x.cps.toList.length).toNat < x.cps.toList.length:=by rw [<- Yn];omega
  refine ⟨x.cps.toList[(r+x.cps.toList.length).toNat],?_,all_eq_true.mp ha _ (List.getElem_mem hl)⟩
  unfold YY WI
  rw [if_neg h,if_pos (by rw [<- Yn];omega)]
  exact getElem?_eq_getElem hl
theorem ZjM (b:Bool)(tw:Str):0<=(if b=true then (1:Int) else 0)/\(if b=true then (1:Int) else 0)<=1/\(List.replicate (if b=true then (1:Int) else 0).toNat [V.str tw]).flatten=(if b=true then [tw] else []).map V.str:=by
 cases b
 ·exact ⟨by decide,by decide,rfl⟩
 ·exact ⟨by decide,by decide,rfl⟩
def YF (xs:List Str):Nat->List Str
 | 0=>[]
 | i+1=>match xs[i]? with
  | some x=>if x∈xs.take i then YF xs i else YF xs i++[x]
  | none=>YF xs i
theorem Xq {xs:List Str}:∀ i {x},x∈YF xs i↔x∈xs.take i
 | 0,x=>by simp [YF]
 | i + 1,x=>by
  unfold YF
  rw [take_add_one]
  cases e:xs[i]? with
  | none=>simp [Xq i]
  | some y =>
   dsimp only
   by_cases h:y∈xs.take i
   ·rw [if_pos h,Xq i]
    simp only [Option.toList_some,mem_append,mem_singleton]
    exact ⟨.inl,fun z=>z.elim id fun z=>z ▸ h⟩
   ·rw [if_neg h]
    simp only [Option.toList_some,mem_append,mem_singleton,Xq i]
theorem Ur {xs:List Str}:∀ i,(YF xs i).Nodup
 | 0=>nodup_nil
 | i + 1=>by
  unfold YF
  cases e:xs[i]? with
  | none=>exact Ur i
  | some y =>
   dsimp only
   by_cases h:y∈xs.take i
   ·rw [if_pos h];exact Ur i
   ·rw [if_neg h]
    refine nodup_append.mpr ⟨Ur i,by simp,fun a ha b hb=>?_⟩
    rw [mem_singleton.mp hb]
    rintro rfl
    exact h ((Xq i).mp ha)
theorem Zes {α:Type}{xs:List α}{n:Nat}{x:α}(h:x∈xs.take n):x∈xs:=List.mem_of_mem_take h
def Zdq:Sp:=fun vs H Q _=>∃(p:Addr)(n:Nat)(Δ:Rs),vs=[.ref p]/\Sep ((p,Bx n)::Δ) H/\n<=800000/\∀(l:Addr)(H':Hp)(us:List V),Sep ((l,ZD us)::(p,Bx (n+200))::Δ) H'->us.length=5->(∀ u∈us,Xa u)->Q (.ref l) H'
inductive Stp where
 | set (x:Str) (v:V)
 | clr (x:Str)
def Stp.vs:Stp->List V
 | .set x v=>[.str "set",.str x,v]
 | .clr x=>[.str "clear",.str x]
def Stp.ok (NS:List Str):Stp->Prop
 | .set x v=>x∈NS/\Xa v
 | .clr x=>x∈NS
def Zhr:Sp:=fun vs H Q _=>∃(p nl vl:Addr)(n:Nat)(NS:List Str)(us:List V)(Δ:Rs),vs=[.ref p,.ref nl,.ref vl]/\Sep ((p,Bx n)::(nl,ZD (NS.map V.str))::(vl,ZD us)::Δ) H/\NS≠[]/\us≠[]/\NS.length<=1000/\us.length<=1000/\(∀ u∈us,Xa u)/\n<=900000 /\
 ∀ (t:Addr) (H':Hp) (s:Stp),s.ok NS->Sep ((t,Tup s.vs)::(p,Bx (n+3))::(nl,ZD (NS.map V.str))::(vl,ZD us)::Δ) H'->Q (.ref t) H'
class IsLst (R:YH) (k:Nat):Prop where
 lst:∀ {a h},R a h->∃ xs,h a=some (.lst xs)/\xs.length=k
theorem Sep.isl {Δ Δ':Rs}{H:Hp}{R:YH}{k:Nat}(S:Sep Δ H)(a:Addr)(I:IsLst R k)[P:Pull a Δ R Δ']:∃ xs,H a=some (.lst xs)/\xs.length=k:=by
 obtain ⟨h,l,r,_⟩:=P.out S
 obtain ⟨xs,e,z⟩:=I.lst r
 exact ⟨xs,l _ _ e,z⟩
def ZhI:Sp:=fun vs H Q _=>∃(p sl:Addr)(n k:Nat)(R:YH)(Δ:Rs),vs=[.ref p,.ref sl]/\Sep ((p,Bx n)::(sl,R)::Δ) H/\IsLst R k/\1<=k/\k<=10000/\n<=900000 /\
 ∀ (r:Nat) (H':Hp),r < k->Sep ((p,Bx (n+3))::(sl,R)::Δ) H'->Q (.int (r:Int)) H'
def XY (K:KF)(C:Addr)(nds:List Nd)(tabs:ZK):YH:=fun st h=>nds[0]?=some .bare/\∃ ln dt,StoreAt K C st ln dt h nds tabs
def Zji (lp:Pos)(q:Str):YH:=fun Pl h=>LamAt h Pl lp q
instance {K:KF} {C:Addr} {nds:List Nd} {tabs:ZK}:Up (XY K C nds tabs):=⟨fun ⟨h0,ln,dt,h⟩ s=>⟨h0,ln,dt,h.keep s⟩⟩
theorem LamAt.same' {H H':Hp}{Pl:Addr}{lp:Pos}{q:Str}(h:LamAt H Pl lp q)(s:Same H H'):LamAt H' Pl lp q:=by
 rcases h with h | ⟨c,h1,h2⟩
 ·exact .inl (s _ _ h)
 ·exact .inr ⟨c,s _ _ h1,s _ _ h2⟩
def some_of (H:Hp)(L:List Addr):Hp:=fun b=>if b∈L then H b else match H b with
 | some o=>if YB o=true then none else some o
 | none=>none
theorem WP {H:Hp}{L:List Addr}:Same (some_of H L) H:=fun b o e=>by
 unfold some_of at e
 split at e
 ·exact e
 ·split at e
  ·rename_i o' h'
   split at e
   ·cases e
   ·cases e;exact h'
  ·cases e
theorem XW {H:Hp}{L:List Addr}{b:Addr}(h:b∈L):some_of H L b=H b:=by unfold some_of;rw [if_pos h]
theorem UO {H:Hp}{L:List Addr}{b:Addr}{o:HO}(e:H b=some o)(m:YB o=false):some_of H L b=some o:=by
 unfold some_of
 split
 ·exact e
 ·simp only [e,m,Bool.false_eq_true,if_false]
theorem Wk {H:Hp}{L:List Addr}{b:Addr}{o:HO}(e:some_of H L b=some o)(m:YB o=true):b∈L:=by
 unfold some_of at e
 split at e
 ·assumption
 ·split at e
  ·split at e
   ·cases e
   ·rename_i h;cases e;exact absurd m h
  ·cases e
theorem ZeA {H:Hp}{L:List Addr}:TF H (some_of H L):=⟨fun b xs e=>UO e rfl,fun b o u e=>UO e rfl⟩
theorem Sep.stoLam {K:KF}{C st Pl:Addr}{lp:Pos}{q:Str}{nds:List Nd}{tabs:ZK}{Δ:Rs}{H:Hp}(S:Sep ((st,XY K C nds tabs)::(Pl,Zji lp q)::Δ) H) :
 ∃ ln dt,StoreAt K C st ln dt H nds tabs/\nds[0]?=some .bare/\LamAt H Pl lp q/\∀ H' nds' tabs',StoreAt K C st ln dt H' nds' tabs'->nds'[0]?=some .bare->LamAt H' Pl lp q->Kq [ln,dt,Pl] H H'->Sep ((st,XY K C nds' tabs')::(Pl,Zji lp q)::Δ) H':=by
 obtain ⟨h1,l1,⟨b0,ln,dt,r1⟩,h2,l2,r2,S⟩:=S
 have r2':LamAt h2 Pl lp q:=r2
 refine ⟨ln,dt,r1.keep l1,b0,(LamAt.same' r2' l2).same' ZaZ,fun H' nds' tabs' S' b0' L' kq=>?_⟩
 obtain ⟨tb,etb⟩:=r2'.tbl
 obtain ⟨tb',etb'⟩:=L'.tbl
 obtain ⟨dx,ob⟩:=r1.ob
 obtain ⟨as,nl,_⟩:=r1.nl
 obtain ⟨dx',ob'⟩:=S'.ob
 obtain ⟨as',nl',nlen',nod'⟩:=S'.nl
 have nPl:Pl ∉ [st,ln,dt]:=fun z=>by
  simp only [mem_cons,not_mem_nil,or_false] at z
  rcases z with z | z | z
  ·rw [z,ob'] at etb';cases etb'
  ·rw [z,nl'] at etb';cases etb'
  ·rw [z,S'.tb] at etb';cases etb'
 refine ⟨some_of H' [st,ln,dt],WP,⟨b0',ln,dt,⟨⟨dx',by rw [XW (by simp)];exact ob'⟩,⟨as',by rw [XW (by simp)];exact nl',nlen',fun i a n e1 e2=>(nod' i a n e1 e2).tf ZeA⟩,by rw [XW (by simp)];exact S'.tb⟩⟩,?_⟩
 have imm:∀ b o,H' b=some o->YB o=false->Uu H' (some_of H' [st,ln,dt]) b=some o:=fun b o e m=>cut_some.mpr ⟨e,fun u z=>by have:=WP _ _ z;rw [e] at this;cases this;exact m⟩
 refine ⟨some_of (Uu H' (some_of H' [st,ln,dt])) [Pl],WP,?_,S.mono fun b o e=>?_⟩
 ·have ePl:some_of (Uu H' (some_of H' [st,ln,dt])) [Pl] Pl=H' Pl:=by
   rw [XW (by simp)]
   have:Uu H' (some_of H' [st,ln,dt]) Pl=some (.tbl tb'):=cut_some.mpr ⟨etb',fun u z=>by
    cases m:YB u with
    | false=>rfl
    | true=>exact absurd (Wk z m) nPl⟩
   rw [this,etb']
  rcases L' with z | ⟨c,z1,z2⟩
  ·exact .inl (by rw [ePl];exact z)
  ·refine .inr ⟨c,by rw [ePl];exact z1,?_⟩
   exact UO (imm _ _ z2 rfl) rfl
 ·obtain ⟨e1,e2⟩:=cut_some.mp e
  obtain ⟨e3,e4⟩:=cut_some.mp e1
  have n1:b≠ln:=fun z=>by have:=e4 _ (z ▸ nl);cases this
  have n2:b≠dt:=fun z=>by have:=e4 _ (z ▸ r1.tb);cases this
  have n3:b≠Pl:=fun z=>by have:=e2 _ (z ▸ etb);cases this
  have n4:b≠st:=fun z=>by have:=e4 _ (z ▸ ob);cases this
  have e5:=kq b o (by simp [n1,n2,n3]) e3
  refine cut_some.mpr ⟨cut_some.mpr ⟨e5,fun u z=>?_⟩,fun u z=>?_⟩
  ·cases m:YB u with
   | false=>rfl
   | true=>have:=Wk z m;simp [n1,n2,n4] at this
  ·cases m:YB u with
   | false=>rfl
   | true=>have:=Wk z m;simp [n3] at this
def Zay (C:Addr)(fs:ZH):YH:=fun a h=>∃ dx,h a=some (.ins C dx fs)
instance {C:Addr} {fs:ZH}:Up (Zay C fs):=⟨fun ⟨dx,h⟩ s=>⟨dx,s _ _ h⟩⟩
end L2
namespace K22
open PySem L2
section
variable {P:Program}{w:World}{K:KF}{mg:Str->Option Value}{base:Heap}{C Pl:Addr}{NS:List Str}
abbrev YV:YH:=Zji YM XG
def Zef (K:KF)(C Pl:Addr):Sp:=fun vs H Q _=>∃(NS:List Str)(st:Addr)(nds:List Nd)(tabs:ZK)(t:Nat)(x:Str)(v:V)(F:Str->Option V)(Δ:Rs),Yf NS/\vs=[.ref st,iN t,.str x,v]/\Sep ((st,XY K C nds tabs)::(Pl,YV)::Δ) H/\(ZQ tabs (Sum.inl (t:Int))).isSome=true/\Tri NS nds F 5 0 0 t/\x∈NS/\ValV v/\(∀ u,F x=some u->ValV u)/\nds.length+6<=100000/\tabs.length<=100000 /\
 ∀ (H':Hp) (nds':List Nd) (tabs':ZK) (t':Nat),Sep ((st,XY K C nds' tabs')::(Pl,YV)::Δ) H'->NEx nds nds'->nds'.length<=nds.length+6->tabs'.length<=tabs.length+1->(∀ k,(ZQ tabs k).isSome=true->(ZQ tabs' k).isSome=true)->(ZQ tabs' (Sum.inl (t':Int))).isSome=true->Tri NS nds' (upF F x v) 5 0 0 t'->Q (iN t') H'
def ZfM (K:KF)(C Pl:Addr):Sp:=fun vs H Q _=>∃(NS:List Str)(st:Addr)(nds:List Nd)(tabs:ZK)(t:Nat)(x:Str)(F:Str->Option V)(Δ:Rs),Yf NS/\vs=[.ref st,iN t,.str x]/\Sep ((st,XY K C nds tabs)::(Pl,YV)::Δ) H/\(ZQ tabs (Sum.inl (t:Int))).isSome=true/\Tri NS nds F 5 0 0 t/\x∈NS/\(∀ u,F x=some u->ValV u)/\nds.length+6<=100000/\tabs.length<=100000 /\
 ∀ (H':Hp) (nds':List Nd) (tabs':ZK) (t':Nat),Sep ((st,XY K C nds' tabs')::(Pl,YV)::Δ) H'->NEx nds nds'->nds'.length<=nds.length+6->tabs'.length<=tabs.length+1->(∀ k,(ZQ tabs k).isSome=true->(ZQ tabs' k).isSome=true)->(ZQ tabs' (Sum.inl (t':Int))).isSome=true->Tri NS nds' (dnF F x) 5 0 0 t'->Q (iN t') H'
theorem ZnL {f:Addr}{fd:FuncData}{k:Nat}{ps:List Str}(h:∀ NS,Yf NS->FnOk P w K mg base ZL k f fd ps (Zkp K C Pl NS)):FnOk P w K mg base ZL k f fd ps (Zef K C Pl) :=
 (FnOk.ex h).conv fun vs H Q E ⟨NS,st,nds,tabs,t,x,v,F,Δ,N,e,S,h1,h2,h3,h4,h5,h6,h7,q⟩=>by
  obtain ⟨ln,dt,SA,b0,L,back⟩:=S.stoLam
  exact ⟨NS,N,st,ln,dt,nds,tabs,t,x,v,F,e,SA,b0,h1,h2,h3,h4,h5,h6,h7,L,fun H' nds' tabs' t' S' ext len tl mono tok tri L' kq tf=>q H' nds' tabs' t' (back H' nds' tabs' S' (ext _ _ b0) L' kq) ext len tl mono tok tri⟩
theorem wo_S {f:Addr}{fd:FuncData}{k:Nat}{ps:List Str}(h:∀ NS,Yf NS->FnOk P w K mg base ZL k f fd ps (spWo K C Pl NS)):FnOk P w K mg base ZL k f fd ps (ZfM K C Pl) :=
 (FnOk.ex h).conv fun vs H Q E ⟨NS,st,nds,tabs,t,x,F,Δ,N,e,S,h1,h2,h3,h4,h5,h6,q⟩=>by
  obtain ⟨ln,dt,SA,b0,L,back⟩:=S.stoLam
  exact ⟨NS,N,st,ln,dt,nds,tabs,t,x,F,e,SA,b0,h1,h2,h3,h4,h5,h6,L,fun H' nds' tabs' t' S' ext len tl mono tok tri L' kq tf=>q H' nds' tabs' t' (back H' nds' tabs' S' (ext _ _ b0) L' kq) ext len tl mono tok tri⟩
def Zcd (K:KF)(C:Addr):Sp:=fun vs H Q _=>∃(p dx:Addr)(H0:Hp)(Δ:Rs),vs=[.ref p]/\H=upd (upd H0 dx (.own p)) p (.ins C dx [])/\H0 p=none/\H0 dx=none/\dx≠p/\Sep Δ H0/\∀ H',Same H0 H'->Sep ((p,XY K C [.bare] [(Sum.inl 0,.bl true)])::Δ) H'->Q .non H'
theorem Znm {vs:List V}{H:Hp}{Q:VK}{E:XK}(h:Zcd K C vs H Q E):Zhh K C vs H Q E:=by
 obtain ⟨p,dx,H0,Δ,e,rfl,h1,h2,h3,S,q⟩:=h
 refine ⟨p,dx,e,Zg,fun ln dt H' hln hdt SA kq=>?_⟩
 have sH:Same H0 (upd (upd H0 dx (.own p)) p (.ins C dx [])):=(Zx h2 _).trans (Zx (by rw [Zi h3.symm];exact h1) _)
 have s0:Same H0 H':=fun b o e=>kq b o (by simp only [mem_singleton];exact Zs e h1) (sH b o e)
 refine q H' s0 ?_
 have n1:=Uw sH hln
 have n2:=Uw sH hdt
 obtain ⟨dx',ob⟩:=SA.ob
 obtain ⟨as,nl,nlen,nod⟩:=SA.nl
 refine ⟨some_of H' [p,ln,dt],WP,⟨rfl,ln,dt,⟨⟨dx',by rw [XW (by simp)];exact ob⟩,⟨as,by rw [XW (by simp)];exact nl,nlen,fun i a n e1 e2=>(nod i a n e1 e2).tf ZeA⟩,by rw [XW (by simp)];exact SA.tb⟩⟩,S.mono fun b o e=>cut_some.mpr ⟨s0 _ _ e,fun u z=>?_⟩⟩
 cases m:YB u with
 | false=>rfl
 | true =>
  have:=Wk z m
  simp only [mem_cons,not_mem_nil,or_false] at this
  rcases this with z | z | z
  ·exact absurd z (Zs e h1)
  ·exact absurd z (Zs e n1)
  ·exact absurd z (Zs e n2)
def ZhQ (K:KF)(C:Addr):Sp:=fun vs H Q _=>∃(st:Addr)(nds:List Nd)(tabs:ZK),vs=[.ref st]/\XY K C nds tabs st H/\Q (.int (nds.length:Int)) H
theorem scMd:Zp ["self"] ["self"] (Zj c_Store_made):=⟨rfl,rfl,rfl,by decide +kernel,rfl,by decide +kernel,by decide +kernel⟩
theorem Zlz {f:Addr}{fd:FuncData}(F:Fun K "made" "Store.made" c_Store_made f fd)(T:Txt K mg)(TC:YT K C):FnOk P w K mg base ZL 1 f fd ["self"] (ZhQ K C):=by
 refine F.ok scMd (fun vs H Q E h=>?_) (fun cdv A outer s H vs Q E hr h=>?_)
 ·obtain ⟨st,nds,tabs,rfl,_⟩:=h;rfl
 obtain ⟨st,nds,tabs,rfl,⟨b0,ln,dt,⟨⟨dx,ob⟩,⟨as,nl,hl,hn⟩,tb⟩⟩,q⟩:=h
 refine ⟨_,Zh (Zm (Zv ZG rfl T.len PySem.boot_len (Zb (ZY (pv 0) rfl) Za))),?_⟩
 refine ⟨_,rfl,st,C,dx,_,_,rfl,ob,TC.cl,TC.nN,Xm ln dt,ln,_,rfl,.inl (SqL.of nl),?_⟩
 rw [length_map,hl];exact q
def ZeB (K:KF)(C:Addr):Sp:=fun vs H Q _=>∃ v,vs=[v]/\Q (.int 0) H
theorem scEm:Zp ["self"] ["self"] (Zj c_Store_empty):=⟨rfl,rfl,rfl,by decide +kernel,rfl,by decide +kernel,by decide +kernel⟩
theorem Ziz {f:Addr}{fd:FuncData}(F:Fun K "empty" "Store.empty" c_Store_empty f fd)(T:Txt K mg):FnOk P w K mg base ZL 1 f fd ["self"] (ZeB K C):=by
 refine F.ok scEm (fun vs H Q E h=>?_) (fun cdv A outer s H vs Q E hr h=>?_)
 ·obtain ⟨v,rfl,_⟩:=h;rfl
 obtain ⟨v,rfl,q⟩:=h
 obtain ⟨tz,hz⟩:=T.zero
 exact ⟨_,Zh (Zm (Xu rfl hz (v:=.int 0) ⟨_,rfl⟩)),q⟩
end
end K22
namespace L2
open PySem
structure ZO where
 ah:Nat
 st:Stp
 tb:Nat
 co:Nat
def Vk (ss:List Stp):YH:=fun l h=>∃ as:List Addr,h l=some (.lst (V.non::as.map V.ref))/\as.length=ss.length/\∀(i:Nat)(a:Addr)(s:Stp),as[i]?=some a->ss[i]?=some s->h a=some (.tup s.vs)
instance {ss:List Stp}:Up (Vk ss):=⟨fun ⟨as,e,l,h⟩ s=>⟨as,s _ _ e,l,fun i a x e1 e2=>s _ _ (h i a x e1 e2)⟩⟩
abbrev UL (st la ls lt lc:Addr):List (Str×V):=[("kept",.ref st),("aheads",.ref la),("steps",.ref ls),("tables",.ref lt),("costs",.ref lc)]
abbrev ZiE (K:KF)(CR CS:Addr)(pls:List ZO)(nds:List Nd)(tabs:ZK)(r st la ls lt lc:Addr):Rs :=
 [(r,Zay CR (UL st la ls lt lc)),(st,XY K CS nds tabs),(la,ZD (V.non::pls.map fun q=>V.int (q.ah:Int))),(ls,Vk (pls.map (·.st))),(lt,ZD (V.int 0::pls.map fun q=>V.int (q.tb:Int))),(lc,ZD (V.int 0::pls.map fun q=>V.int (q.co:Int)))]
def Xp (K:KF)(CR CS:Addr)(pls:List ZO)(nds:List Nd)(tabs:ZK):YH:=fun r h=>∃ st la ls lt lc,Sep (ZiE K CR CS pls nds tabs r st la ls lt lc) h
instance {K:KF} {CR CS:Addr} {pls:List ZO} {nds:List Nd} {tabs:ZK}:Up (Xp K CR CS pls nds tabs):=⟨fun ⟨st,la,ls,lt,lc,S⟩ s=>⟨st,la,ls,lt,lc,S.mono s⟩⟩
theorem Sep.roaO {K:KF}{CR CS r:Addr}{pls:List ZO}{nds:List Nd}{tabs:ZK}{Δ:Rs}{H:Hp}(S:Sep ((r,Xp K CR CS pls nds tabs)::Δ) H):∃ st la ls lt lc,Sep ((r,Zay CR (UL st la ls lt lc))::(st,XY K CS nds tabs)::(la,ZD (V.non::pls.map fun q=>V.int (q.ah:Int)))::(ls,Vk (pls.map (·.st)))::(lt,ZD (V.int 0::pls.map fun q=>V.int (q.tb:Int)))::(lc,ZD (V.int 0::pls.map fun q=>V.int (q.co:Int)))::Δ) H:=by
 obtain ⟨h,l,⟨st,la,ls,lt,lc,G⟩,S⟩:=S
 exact ⟨st,la,ls,lt,lc,Sep.nest (a:=r) (Γ:=ZiE K CR CS pls nds tabs r st la ls lt lc) l G S⟩
theorem Sep.roaC {K:KF}{CR CS r st la ls lt lc:Addr}{pls:List ZO}{nds:List Nd}{tabs:ZK}{Δ:Rs}{H:Hp}(S:Sep ((r,Zay CR (UL st la ls lt lc))::(st,XY K CS nds tabs)::(la,ZD (V.non::pls.map fun q=>V.int (q.ah:Int)))::(ls,Vk (pls.map (·.st)))::(lt,ZD (V.int 0::pls.map fun q=>V.int (q.tb:Int)))::(lc,ZD (V.int 0::pls.map fun q=>V.int (q.co:Int)))::Δ) H):Sep ((r,Xp K CR CS pls nds tabs)::Δ) H :=
 Sep.pack (Γ:=ZiE K CR CS pls nds tabs r st la ls lt lc) S fun h G=>⟨st,la,ls,lt,lc,G⟩
theorem Sep.imm {Δ:Rs}{H:Hp}{a:Addr}{o:HO}(S:Sep Δ H)(e:H a=some o)(m:YB o=false):Sep ((a,Pt o)::Δ) H:=by
 refine ⟨one a o,fun b u q=>?_,one_some.mpr ⟨rfl,rfl⟩,S.mono fun b u q=>cut_some.mpr ⟨q,fun v z=>?_⟩⟩
 ·obtain ⟨rfl,rfl⟩:=one_some.mp q;exact e
 ·obtain ⟨rfl,rfl⟩:=one_some.mp z;exact m
theorem Sep.updR {Δ Δ':Rs}{H:Hp}{R T:YH}(S:Sep Δ H)(a:Addr)(o':HO)[P:Pull a Δ R Δ'](m:∀ h,R a h->∃ o,h a=some o/\YB o=true)
 (f:∀ h,R a h->Same h H->∀ h',h' a=some o'->(∀ b o,b≠a->h b=some o->h' b=some o)->(∀ b o,b≠a->H b=some o->YB o=false->h' b=some o)->T a h'):Sep ((a,T)::Δ') (upd H a o'):=by
 obtain ⟨h,l,r,S⟩:=P.out S
 obtain ⟨o,ea,ma⟩:=m h r
 refine ⟨fun b=>if b=a then some o' else match h b with | some u=>some u | none=>some_of H [] b,fun b u e=>?_,f h r l _ (if_pos rfl) (fun b u nb e=>?_) (fun b u nb e mu=>?_),S.mono fun b u e=>?_⟩
 ·dsimp only at e
  by_cases hb:b=a
  ·rw [if_pos hb] at e;cases e;rw [hb];exact Zg
  ·rw [if_neg hb] at e
   rw [Zi hb]
   cases q:h b with
   | some z=>rw [q] at e;cases e;exact l _ _ q
   | none=>rw [q] at e;exact WP _ _ e
 ·rw [if_neg nb,e]
 ·rw [if_neg nb]
  cases q:h b with
  | some z=>have:=l _ _ q;rw [e] at this;cases this;rfl
  | none=>exact UO e mu
 ·obtain ⟨e1,e2⟩:=cut_some.mp e
  have hb:b≠a:=fun z=>by have:=e2 o (by rw [z];exact ea);rw [ma] at this;cases this
  refine cut_some.mpr ⟨by rw [Zi hb];exact e1,fun v q=>?_⟩
  simp only [if_neg hb] at q
  cases z:h b with
  | some x=>rw [z] at q;cases q;exact e2 _ z
  | none =>
   rw [z] at q
   cases mm:YB v with
   | false=>rfl
   | true=>have:=Wk q mm;cases this
theorem Sep.stepApp {Δ Δ':Rs}{H:Hp}{ss:List Stp}{s:Stp}{sa:Addr}{as:List Addr}(S:Sep Δ H)(l:Addr)[P:Pull l Δ (Vk ss) Δ'](e:H l=some (.lst (V.non::as.map V.ref)))(es:H sa=some (.tup s.vs)):Sep ((l,Vk (ss++[s]))::Δ') (upd H l (.lst (V.non::as.map V.ref++[V.ref sa]))):=by
 refine S.updR l _ (fun h ⟨as,e,_⟩=>⟨_,e,rfl⟩) fun h r l' h' e1 e2 e3=>?_
 obtain ⟨as',e4,hl,hs⟩:=r
 have e5:=l' _ _ e4
 rw [e] at e5
 have e6:as.map V.ref=as'.map V.ref:=(List.cons.inj (HO.lst.inj (Option.some.inj e5))).2
 refine ⟨as'++[sa],?_,by rw [length_append,length_append,hl];rfl,fun i a x q1 q2=>?_⟩
 ·rw [e1,map_append,e6];rfl
 ·have nsa:sa≠l:=fun z=>by rw [z,e] at es;cases es
  by_cases hi:i < as'.length
  ·rw [getElem?_append_left hi] at q1
   rw [getElem?_append_left (by omega)] at q2
   have q3:=hs i a x q1 q2
   exact e2 _ _ (fun z=>by rw [z,e4] at q3;cases q3) q3
  ·rw [getElem?_append_right (by omega)] at q1 q2
   have h0:i - as'.length=0:=by
    cases z:i - as'.length with
    | zero=>rfl
    | succ j=>rw [z] at q1;simp at q1
   rw [h0] at q1
   rw [show i - ss.length=0 by omega] at q2
   cases (show some sa=some a from q1)
   cases (show some s=some x from q2)
   exact e3 _ _ nsa es rfl
def Stp.ap:Stp->(Str->Option V)->(Str->Option V)
 | .set x v,F=>fun y=>if y=x then some v else F y
 | .clr x,F=>fun y=>if y=x then none else F y
def envs (pls:List ZO):List (Str->Option V):=pls.foldl (fun es q=>es++[q.st.ap (es.getD q.ah fun _=>none)]) [fun _=>none]
theorem Xy (pls:List ZO)(q:ZO):envs (pls++[q])=envs pls++[q.st.ap ((envs pls).getD q.ah fun _=>none)]:=by
 unfold envs;rw [foldl_append];rfl
theorem ZbN {α:Type}{P:List α->Prop}(h0:P [])(hs:∀ l a,P l->P (l++[a])):∀ l,P l:=by
 have key:∀ n (l:List α),l.length=n->P l:=by
  intro n
  induction n with
  | zero=>intro l h;rw [eq_nil_of_length_eq_zero h];exact h0
  | succ n ih =>
   intro l h
   have hne:l≠[]:=fun z=>by rw [z] at h;cases h
   rw [<- List.dropLast_concat_getLast hne]
   exact hs _ _ (ih _ (by rw [List.length_dropLast];omega))
 exact fun l=>key _ l rfl
theorem YW (pls:List ZO):(envs pls).length=pls.length+1:=by
 induction pls using ZbN with
 | h0=>rfl
 | hs l q ih=>rw [Xy,length_append,ih,length_append];rfl
end L2
namespace K22
open PySem L2
structure WK (K:KF)(CR:Addr):Prop where
 cl:Cls K CR
 nk:NoAttr K CR "kept"
 na:NoAttr K CR "aheads"
 ns:NoAttr K CR "steps"
 nt:NoAttr K CR "tables"
 nc:NoAttr K CR "costs"
section
variable {P:Program}{w:World}{K:KF}{mg:Str->Option Value}{base:Heap}{CR CS Pl:Addr}{NS:List Str}
theorem ZbQ {st la ls lt lc:Addr}:(UL st la ls lt lc).lookup ("kept":Str)=some (V.ref st):=rfl
theorem Zdg {st la ls lt lc:Addr}:(UL st la ls lt lc).lookup ("aheads":Str)=some (V.ref la):=rfl
theorem rf_s {st la ls lt lc:Addr}:(UL st la ls lt lc).lookup ("steps":Str)=some (V.ref ls):=rfl
theorem ZjC {st la ls lt lc:Addr}:(UL st la ls lt lc).lookup ("tables":Str)=some (V.ref lt):=rfl
theorem rf_c {st la ls lt lc:Addr}:(UL st la ls lt lc).lookup ("costs":Str)=some (V.ref lc):=rfl
theorem Wd {st la ls lt lc:Addr}{m:Str}(h:[("kept":Str),"aheads","steps","tables","costs"].all (fun k=>!(m == k))=true):(UL st la ls lt lc).lookup m=none:=by
 simp only [List.all_cons,List.all_nil,Bool.and_true,Bool.and_eq_true,Bool.not_eq_true'] at h
 obtain ⟨h1,h2,h3,h4,h5⟩:=h
 simp [UL,List.lookup,h1,h2,h3,h4,h5]
abbrev RdR (K:KF)(CR CS:Addr)(r:Addr)(pls:List ZO)(nds:List Nd)(tabs:ZK)(H:Hp):Prop:=Xp K CR CS pls nds tabs r H
def Zkr (K:KF)(CR CS:Addr):Sp:=fun vs H Q _=>∃(r:Addr)(pls:List ZO)(nds:List Nd)(tabs:ZK)(k:Nat),vs=[.ref r,.int (k:Int)]/\RdR K CR CS r pls nds tabs H/\k<=pls.length/\Q .non H
abbrev nRCk:List Str:=["self","place"]
abbrev Zgn:List Str:=["self","place"]
theorem ZnR:Zp nRCk Zgn (Zj c_Roads_check_place):=⟨rfl,rfl,rfl,by decide +kernel,rfl,by decide +kernel,by decide +kernel⟩
theorem ZkO {f:Addr}{fd:FuncData}(F:Fun K "check_place" "Roads.check_place" c_Roads_check_place f fd)(T:Yz mg)(TR:WK K CR):FnOk P w K mg base ZL 1 f fd Zgn (Zkr K CR CS):=by
 refine F.ok ZnR (fun vs H Q E h=>?_) (fun cdv A outer s H vs Q E hr h=>?_)
 ·obtain ⟨r,pls,nds,tabs,k,rfl,_⟩:=h;rfl
 obtain ⟨r,pls,nds,tabs,k,rfl,⟨st,la,ls,lt,lc,S⟩,hk,q⟩:=h
 obtain ⟨dx,ob⟩:=S.get r
 refine' ⟨?t,?h,?r⟩
 case h =>
  conv=>arg 2;whnf
  with_reducible refine' (Zh (Yk ?h1 (Zh Zfz) ZW))
  case h1=>exact XQ (Zdz Zkf Zac Ze (pv 1) (Zv ZG rfl T.len PySem.boot_len (Zb (ZY (pv 0) rfl) Za)))
 refine ⟨_,rfl,_,_,rfl,rfl,_,rfl,?_⟩
 rw [decide_eq_true (show (0:Int)<=(k:Int) by omega)]
 refine Yh ⟨_,rfl,r,CR,dx,_,_,rfl,ob,TR.cl,TR.na,Zdg,la,_,rfl,.inl (SqL.of (S.get la)),_,_,rfl,rfl,_,rfl,?_⟩
 rw [decide_eq_true (show (k:Int) < (((V.non::pls.map fun q=>V.int (q.ah:Int)).length:Nat):Int) by rw [length_cons,length_map];omega)]
 exact ZP q
def ahV (pls:List ZO):Nat->V
 | 0=>.non
 | k+1=>.int (((pls.getD k ⟨0,.clr "",0,0⟩).ah:Nat):Int)
end
def bk (pls:List ZO):Nat->Nat->List Nat
 | 0,_=>[]
 | _+1,0=>[0]
 | f+1,k+1=>(k+1)::bk pls f (pls.getD k ⟨0,.clr "",0,0⟩).ah
def WfP (pls:List ZO):Prop:=∀(k:Nat)(q:ZO),pls[k]?=some q->q.ah<=k
theorem WfP.at {pls:List ZO}(h:WfP pls){k:Nat}(hk:k < pls.length):(pls.getD k ⟨0,.clr "",0,0⟩).ah<=k:=by
 have e:=getElem?_eq_getElem hk
 rw [getD_eq_getElem?_getD,e]
 exact h k _ e
theorem ZhD (pls:List ZO):∀ f k,(bk pls f k).length<=f
 | 0,_=>Nat.le_refl _
 | f+1,0=>by show 1<=f+1;omega
 | f+1,k+1=>by show (bk pls f _).length+1<=f+1;have:=ZhD pls f (pls.getD k ⟨0,.clr "",0,0⟩).ah;omega
theorem Zfa {pls:List ZO}(h:WfP pls):∀ k,k<=pls.length->∀ f,k+1<=f->bk pls f k=bk pls (k+1) k:=by
 intro k
 induction k using Nat.strongRecOn with
 | ind k ih =>
  intro hk f hf
  cases k with
  | zero=>obtain ⟨g,rfl⟩:∃ g,f=g+1:=⟨f - 1,by omega⟩;rfl
  | succ k =>
   obtain ⟨g,rfl⟩:∃ g,f=g+1:=⟨f - 1,by omega⟩
   have ha:=h.at (show k < pls.length by omega)
   show (k+1)::bk pls g _=(k+1)::bk pls (k+1) _
   rw [ih _ (by omega) (by omega) g (by omega),ih _ (by omega) (by omega) (k+1) (by omega)]
section
variable {P:Program}{w:World}{K:KF}{mg:Str->Option Value}{base:Heap}{CR CS Pl:Addr}{NS:List Str}
def StV (pls:List ZO)(k:Nat)(v:V)(H:Hp):Prop:=match k with
 | 0=>v=.non
 | k+1=>∃ a s,v=.ref a/\(pls.map (·.st))[k]?=some s/\H a=some (.tup s.vs)
def tbN (pls:List ZO):Nat->Nat
 | 0=>0
 | k+1=>(pls.getD k ⟨0,.clr "",0,0⟩).tb
theorem VS {pls:List ZO}{k:Nat}(h:k<=pls.length):(0::pls.map (·.tb))[k]?=some (tbN pls k):=by
 cases k with
 | zero=>rfl
 | succ k =>
  rw [List.getElem?_cons_succ,getElem?_map,getElem?_eq_getElem (show k < pls.length by omega)]
  show some _=some (pls.getD k ⟨0,.clr "",0,0⟩).tb
  rw [getD_eq_getElem?_getD,getElem?_eq_getElem (show k < pls.length by omega)]
  rfl
theorem ZlU {pls:List ZO}{k:Nat}(h:k<=pls.length):(V.int 0::pls.map fun q=>V.int (q.tb:Int))[k]?=some (.int (tbN pls k:Int)):=by
 have e:(V.int 0::pls.map fun q=>V.int (q.tb:Int))=(0::pls.map (·.tb)).map fun n:Nat=>V.int (n:Int):=by rw [map_cons,map_map];rfl
 rw [e,getElem?_map,VS h];rfl
def ZbZ (K:KF)(CR CS:Addr):Sp:=fun vs H Q _=>∃(r:Addr)(pls:List ZO)(nds:List Nd)(tabs:ZK)(k:Nat),vs=[.ref r,.int (k:Int)]/\RdR K CR CS r pls nds tabs H/\k<=pls.length/\Q (.int (tbN pls k:Int)) H
abbrev nRTa:List Str:=["self","place"]
abbrev ZcM:List Str:=["self","place"]
theorem Znn:Zp nRTa ZcM (Zj c_Roads_table):=⟨rfl,rfl,rfl,by decide +kernel,rfl,by decide +kernel,by decide +kernel⟩
theorem ZiF {f:Addr}{fd:FuncData}(F:Fun K "table" "Roads.table" c_Roads_table f fd)(T:Yz mg)(TR:WK K CR)(DR_check_place:DefM P w K mg base 1 CR "check_place" Zgn (Zkr K CR CS)):FnOk P w K mg base ZL 2 f fd ZcM (ZbZ K CR CS):=by
 refine F.ok Znn (fun vs H Q E h=>?_) (fun cdv A outer s H vs Q E hr h=>?_)
 ·obtain ⟨r,pls,nds,tabs,k,rfl,_⟩:=h;rfl
 obtain ⟨r,pls,nds,tabs,k,rfl,R,hk,q⟩:=h
 obtain ⟨st,la,ls,lt,lc,S⟩:=id R
 obtain ⟨dx,ob⟩:=S.get r
 refine' ⟨?t,?h,?r⟩
 case h =>
  conv=>arg 2;whnf
  with_reducible refine' (Zc ?h1 (Zh ?h2))
  case h1=>exact Yi (Ym DR_check_place TR.cl hr (pv 0) (Zb (pv 1) Za))
  case h2=>exact Zm (Zq ZA (ZY (pv 0) rfl) (pv 1) (fun _ _=>rfl))
 refine ⟨_,rfl,r,dx,_,rfl,ob,Wd (by decide +kernel),_,rfl,r,pls,nds,tabs,k,rfl,R,hk,?_⟩
 exact ⟨_,rfl,r,CR,dx,_,_,rfl,ob,TR.cl,TR.nt,ZjC,_,rfl,lt,_,_,_,rfl,rfl,SqL.of (S.get lt),Zw (ZlU hk),q⟩
def rd (pls:List ZO)(k:Nat):List Nat:=(bk pls (k+1) k).reverse
def nV (n:Nat):V:=.int (n:Int)
end
structure RInv (NS:List Str)(pls:List ZO)(nds:List Nd)(tabs:ZK):Prop where
 wf:WfP pls
 tr:∀ (k:Nat) (F:Str->Option V) (t:Nat),(envs pls)[k]?=some F->(0::pls.map (·.tb))[k]?=some t->(ZQ tabs (Sum.inl (t:Int))).isSome=true/\Tri NS nds F 5 0 0 t/\∀ x u,F x=some u->Xa u
theorem WR {v:V}(h:Xa v):ValV v:=by
 cases v<;>first | trivial | exact h.elim
theorem RInv.app {NS:List Str}{pls:List ZO}{nds nds':List Nd}{tabs tabs':ZK}(I:RInv NS pls nds tabs){q:ZO}{F:Str->Option V}(hk:q.ah<=pls.length)(hF:(envs pls)[q.ah]?=some F)(ext:NEx nds nds')
 (mono:∀ k,(ZQ tabs k).isSome=true->(ZQ tabs' k).isSome=true) (ht:(ZQ tabs' (Sum.inl (q.tb:Int))).isSome=true) (tri:Tri NS nds' (q.st.ap F) 5 0 0 q.tb) (hv:∀ x v,q.st=.set x v->Xa v):RInv NS (pls++[q]) nds' tabs':=by
 have hfv:=(I.tr q.ah F _ hF (VS hk)).2.2
 refine ⟨fun k p e=>?_,fun k G t e1 e2=>?_⟩
 ·by_cases h:k < pls.length
  ·rw [getElem?_append_left h] at e;exact I.wf k p e
  ·rw [getElem?_append_right (by omega)] at e
   have:k - pls.length=0:=by
    cases z:k - pls.length with
    | zero=>rfl
    | succ j=>rw [z] at e;simp at e
   rw [this] at e
   cases (show some q=some p from e)
   omega
 ·rw [Xy] at e1
  by_cases h:k < (envs pls).length
  ·rw [getElem?_append_left h] at e1
   have e2':(0::pls.map (·.tb))[k]?=some t:=by
    rw [map_append,<- List.cons_append,getElem?_append_left (by rw [length_cons,length_map];rw [YW] at h;exact h)] at e2
    exact e2
   obtain ⟨g1,g2,g3⟩:=I.tr k G t e1 e2'
   exact ⟨mono _ g1,Tri.mono 5 g2 ext,g3⟩
  ·rw [getElem?_append_right (by omega)] at e1
   have hz:k - (envs pls).length=0:=by
    cases z:k - (envs pls).length with
    | zero=>rfl
    | succ j=>rw [z] at e1;simp at e1
   rw [hz] at e1
   have e1':q.st.ap ((envs pls).getD q.ah fun _=>none)=G:=Option.some.inj e1
   rw [getD_eq_getElem?_getD,hF] at e1'
   have ek:k=pls.length+1:=by rw [YW] at h hz;omega
   have e2':q.tb=t:=by
    rw [ek,List.getElem?_cons_succ,map_append,getElem?_append_right (by rw [length_map];omega),length_map,Nat.sub_self] at e2
    exact Option.some.inj e2
   subst e1' e2'
   refine ⟨ht,tri,fun x u hu=>?_⟩
   have hu:q.st.ap F x=some u:=hu
   cases es:q.st with
   | set y v =>
    rw [es] at hu
    have hu:(if x=y then some v else F x)=some u:=hu
    by_cases z:x=y
    ·rw [if_pos z] at hu;cases hu;exact hv y _ es
    ·rw [if_neg z] at hu;exact hfv x u hu
   | clr y =>
    rw [es] at hu
    have hu:(if x=y then none else F x)=some u:=hu
    by_cases z:x=y
    ·rw [if_pos z] at hu;cases hu
    ·rw [if_neg z] at hu;exact hfv x u hu
section
variable {P:Program}{w:World}{K:KF}{mg:Str->Option Value}{base:Heap}{CR CS Pl:Addr}
def Zjv (K:KF)(CR CS Pl:Addr):Sp:=fun vs H Q _=>∃(NS:List Str)(r sa:Addr)(pls:List ZO)(nds:List Nd)(tabs:ZK)(k:Nat)(s:Stp)(Δ:Rs),vs=[.ref r,.int (k:Int),.ref sa]/\Yf NS/\Sep ((r,Xp K CR CS pls nds tabs)::(Pl,YV)::Δ) H/\H sa=some (.tup s.vs)/\RInv NS pls nds tabs/\s.ok NS/\k<=pls.length/\pls.length<=10000/\nds.length<=90000/\tabs.length<=90000 /\
 ∀ (H':Hp) (nds':List Nd) (tabs':ZK) (t':Nat),Sep ((r,Xp K CR CS (pls++[⟨k,s,t',nds'.length - nds.length⟩]) nds' tabs')::(Pl,YV)::Δ) H'->RInv NS (pls++[⟨k,s,t',nds'.length - nds.length⟩]) nds' tabs'->NEx nds nds'->nds'.length<=nds.length+6->tabs'.length<=tabs.length+1->Q (.int ((pls.length+1:Nat):Int)) H'
theorem NEx.len {nds nds':List Nd}(h:NEx nds nds'):nds.length<=nds'.length:=by
 cases e:nds.length with
 | zero=>omega
 | succ n =>
  have hl:n < nds.length:=by omega
  have:=(List.getElem?_eq_some_iff.mp (h n _ (getElem?_eq_getElem hl))).1
  omega
abbrev nRGo:List Str:=["self","place","step","table","made_ahead"]
abbrev ZcK:List Str:=["self","place","step"]
theorem scRGo:Zp nRGo ZcK (Zj c_Roads_go_on):=⟨rfl,rfl,rfl,by decide +kernel,rfl,by decide +kernel,by decide +kernel⟩
theorem ZlL {f:Addr}{fd:FuncData}(F:Fun K "go_on" "Roads.go_on" c_Roads_go_on f fd)(T:Yz mg)(TR:WK K CR)(TC:YT K CS)(DR_table:DefM P w K mg base 9 CR "table" ZcM (ZbZ K CR CS))(DS_made:DefM P w K mg base 9 CS "made" ["self"] (ZhQ K CS))
 (DS_put:DefM P w K mg base 9 CS "put" ["self","table","name","value"] (Zef K CS Pl)) (DS_without:DefM P w K mg base 9 CS "without" ["self","table","name"] (ZfM K CS Pl)):FnOk P w K mg base ZL 10 f fd ZcK (Zjv K CR CS Pl):=by
 refine F.ok scRGo (fun vs H Q E h=>?_) (fun cdv A outer s H vs Q E hr h=>?_)
 ·obtain ⟨NS,r,sa,pls,nds,tabs,k,s,Δ,rfl,_⟩:=h;rfl
 obtain ⟨NS,r,sa,pls,nds,tabs,k,s,Δ,rfl,N,S0,es,I,hs,hk,hpl,hnd,htb,q⟩:=h
 obtain ⟨st,la,ls,lt,lc,S⟩:=S0.roaO
 obtain ⟨dx,ob⟩:=S.get r
 obtain ⟨b0,ln,dt,SA⟩:=S.get st
 obtain ⟨dxs,obs⟩:=SA.ob
 obtain ⟨Fk,hFk⟩:∃ Fk,(envs pls)[k]?=some Fk:=⟨_,getElem?_eq_getElem (by rw [YW];omega)⟩
 obtain ⟨g1,g2,g3⟩:=I.tr k Fk _ hFk (VS hk)
 refine' ⟨?t,?h,?r⟩
 case h =>
  conv=>arg 2;whnf
  with_reducible refine' (Zc ?h1 (Zc ?h2 (Zc (Yk ?h3 (Zh ?h4) (Zh ?h5)) (Zc ?h6 (Zc ?h7 (Zc ?h8 (Zc ?h9 (Zh ?h10))))))))
  case h1=>exact Zt (i:=3) scRGo.nd rfl (Or.inl rfl) (Ym DR_table TR.cl hr (pv 0) (Zb (pv 1) Za))
  case h2=>exact Zt (i:=4) scRGo.nd rfl (Or.inl rfl) (ZfD DS_made TC.cl hr (ZY (pv 0) rfl))
  case h3=>exact ZX YA (Zq Ye (pv 2) Ze (fun _ _=>rfl)) ZS (ZM _)
  case h4=>exact Zt (i:=3) scRGo.nd rfl (Or.inl rfl) (Ym DS_put TC.cl hr (ZY (pv 0) rfl) (Zb (pv 3) (Zb (Zq Ye (pv 2) Ze (fun _ _=>rfl)) (Zb (Zq Ye (pv 2) Ze (fun _ _=>rfl)) Za))))
  case h5=>exact Zt (i:=3) scRGo.nd rfl (Or.inl rfl) (Ym DS_without TC.cl hr (ZY (pv 0) rfl) (Zb (pv 3) (Zb (Zq Ye (pv 2) Ze (fun _ _=>rfl)) Za)))
  case h6=>exact Yi (YO PySem.F.plainAttrs_list PySem.F.slot_list_append PySem.F.type_list_append Yr (ZY (pv 0) rfl) (Zb (pv 1) Za))
  case h7=>exact Yi (YO PySem.F.plainAttrs_list PySem.F.slot_list_append PySem.F.type_list_append Yr (ZY (pv 0) rfl) (Zb (pv 2) Za))
  case h8=>exact Yi (YO PySem.F.plainAttrs_list PySem.F.slot_list_append PySem.F.type_list_append Yr (ZY (pv 0) rfl) (Zb (pv 3) Za))
  case h9=>exact Yi (YO PySem.F.plainAttrs_list PySem.F.slot_list_append PySem.F.type_list_append Yr (ZY (pv 0) rfl) (Zb (Zr YE (ZfD DS_made TC.cl hr (ZY (pv 0) rfl)) (pv 4)) Za))
  case h10=>exact Zm (Zr YE (Zv ZG rfl T.len PySem.boot_len (Zb (ZY (pv 0) rfl) Za)) Ze)
 refine ⟨_,rfl,r,dx,_,rfl,ob,Wd (by decide +kernel),_,rfl,r,pls,nds,tabs,k,rfl,S0.get r,hk,?_⟩
 refine ⟨_,rfl,r,CR,dx,_,_,rfl,ob,TR.cl,TR.nk,ZbQ,st,dxs,_,rfl,obs,ZR ln dt,st,nds,tabs,rfl,S.get st,?_⟩
 have S1:=((S.imm es rfl).pull Pl).pull st
 cases s with
 | set x v =>
  obtain ⟨hx,hv⟩:=hs
  refine ⟨_,rfl,sa,_,_,_,rfl,rfl,SqT.of es,Zw (j:=0) rfl,rfl,_,rfl,?_⟩
  rw [decide_eq_true rfl]
  refine Yh ⟨_,rfl,r,CR,dx,_,_,rfl,ob,TR.cl,TR.nk,ZbQ,st,dxs,_,rfl,obs,ZR ln dt,_,rfl,_,rfl,sa,_,_,_,rfl,rfl,SqT.of es,Zw (j:=1) rfl,_,rfl,sa,_,_,_,rfl,rfl,SqT.of es,Zw (j:=2) rfl,?_⟩
  refine ⟨NS,st,nds,tabs,tbN pls k,x,v,Fk,_,N,rfl,S1,g1,g2,hx,WR hv,fun u hu=>WR (g3 x u hu),by omega,by omega,fun H2 nds2 tabs2 t2 S2 ext2 len2 tl2 mono2 ht2 tri2=>?_⟩
  have I2:=RInv.app (q:=⟨k,.set x v,t2,nds2.length - nds.length⟩) I hk hFk ext2 mono2 ht2 tri2 (fun y u e=>by cases e;exact hv)
  revert S2 I2
  generalize Stp.set x v=s at *
  intro S2 I2
  obtain ⟨dx2,ob2⟩:=S2.get r
  refine ⟨_,rfl,r,CR,dx2,_,_,rfl,ob2,TR.cl,TR.na,Zdg,.inl ⟨rfl,_,SqL.of (S2.get la)⟩,_,rfl,la,_,_,rfl,rfl,S2.get la,YX (show _<=20000 by rw [length_cons,length_map];omega),?_⟩
  generalize hE:upd H2 la _=H3
  have S3:=S2.putE hE
  clear hE
  obtain ⟨dx3,ob3⟩:=S3.get r
  obtain ⟨as3,els,hal,_⟩:=S3.get ls
  rw [length_map] at hal
  refine ⟨_,rfl,r,CR,dx3,_,_,rfl,ob3,TR.cl,TR.ns,rf_s,.inl ⟨rfl,_,SqL.of els⟩,_,rfl,ls,_,_,rfl,rfl,els,YX (show _<=20000 by rw [length_cons,length_map];omega),?_⟩
  generalize hE:upd H3 ls _=H4
  have S4:=hE ▸ S3.stepApp ls els (S3.get sa)
  clear hE
  obtain ⟨dx4,ob4⟩:=S4.get r
  refine ⟨_,rfl,r,CR,dx4,_,_,rfl,ob4,TR.cl,TR.nt,ZjC,.inl ⟨rfl,_,SqL.of (S4.get lt)⟩,_,rfl,lt,_,_,rfl,rfl,S4.get lt,YX (show _<=20000 by rw [length_cons,length_map];omega),?_⟩
  generalize hE:upd H4 lt _=H5
  have S5:=S4.putE hE
  clear hE
  obtain ⟨dx5,ob5⟩:=S5.get r
  obtain ⟨_,ln5,dt5,SA5⟩:=S5.get st
  obtain ⟨dxs5,obs5⟩:=SA5.ob
  refine ⟨_,rfl,r,CR,dx5,_,_,rfl,ob5,TR.cl,TR.nc,rf_c,.inl ⟨rfl,_,SqL.of (S5.get lc)⟩,_,rfl,r,CR,dx5,_,_,rfl,ob5,TR.cl,TR.nk,ZbQ,st,dxs5,_,rfl,obs5,ZR ln5 dt5,st,nds2,tabs2,rfl,S5.get st,_,rfl,_,_,rfl,rfl,lc,_,_,rfl,rfl,S5.get lc,YX (show _<=20000 by rw [length_cons,length_map];omega),?_⟩
  generalize hE:upd H5 lc _=H6
  have S6:=S5.putE hE
  clear hE
  obtain ⟨dx6,ob6⟩:=S6.get r
  refine ⟨_,rfl,r,CR,dx6,_,_,rfl,ob6,TR.cl,TR.na,Zdg,la,_,rfl,.inl (SqL.of (S6.get la)),_,_,rfl,rfl,?_⟩
  have hle:=ext2.len
  have ec:V.int ((nds2.length:Int) - (nds.length:Int))=V.int ((nds2.length - nds.length:Nat):Int):=congrArg V.int (by omega)
  have S7:=(((((((S6.drop sa).pull Pl).pull lc).pull lt).pull ls).pull la).pull st).pull r
  have S8:Sep ((r,Zay CR (UL st la ls lt lc))::(st,XY K CS nds2 tabs2)::(la,ZD (V.non::(pls++[(⟨k,s,t2,nds2.length - nds.length⟩:ZO)]).map fun q=>V.int (q.ah:Int)))::(ls,Vk ((pls++[(⟨k,s,t2,nds2.length - nds.length⟩:ZO)]).map (·.st)))::(lt,ZD (V.int 0::(pls++[(⟨k,s,t2,nds2.length - nds.length⟩:ZO)]).map fun q=>V.int (q.tb:Int)))::(lc,ZD (V.int 0::(pls++[(⟨k,s,t2,nds2.length - nds.length⟩:ZO)]).map fun q=>V.int (q.co:Int)))::(Pl,YV)::Δ) H6:=by
   rw [map_append,map_append,map_append,map_append]
   show Sep (_::_::_::_::_::(lc,ZD (V.int 0::(pls.map (fun q=>V.int (q.co:Int))++[V.int ((nds2.length - nds.length:Nat):Int)])))::_) _
   rw [<- ec]
   exact S7
  have e9:(((V.non::pls.map fun q=>V.int (q.ah:Int))++[V.int (k:Int)]).length:Int) - 1=((pls.length+1:Nat):Int):=by rw [length_append,length_cons,length_map];show ((pls.length+1+1:Nat):Int) - 1=_;omega
  have:=q H6 nds2 tabs2 t2 S8.roaC I2 ext2 len2 tl2
  rw [<- e9] at this
  exact this
 | clr x =>
  refine ⟨_,rfl,sa,_,_,_,rfl,rfl,SqT.of es,Zw (j:=0) rfl,rfl,_,rfl,?_⟩
  rw [show decide (V.str "clear"=V.str (Str.ofString "set"))=false by decide +kernel]
  refine ZP ⟨_,rfl,r,CR,dx,_,_,rfl,ob,TR.cl,TR.nk,ZbQ,st,dxs,_,rfl,obs,ZR ln dt,_,rfl,_,rfl,sa,_,_,_,rfl,rfl,SqT.of es,Zw (j:=1) rfl,?_⟩
  refine ⟨NS,st,nds,tabs,tbN pls k,x,Fk,_,N,rfl,S1,g1,g2,hs,fun u hu=>WR (g3 x u hu),by omega,by omega,fun H2 nds2 tabs2 t2 S2 ext2 len2 tl2 mono2 ht2 tri2=>?_⟩
  have I2:=RInv.app (q:=⟨k,.clr x,t2,nds2.length - nds.length⟩) I hk hFk ext2 mono2 ht2 tri2 (fun y u e=>by cases e)
  revert S2 I2
  generalize Stp.clr x=s at *
  intro S2 I2
  obtain ⟨dx2,ob2⟩:=S2.get r
  refine ⟨_,rfl,r,CR,dx2,_,_,rfl,ob2,TR.cl,TR.na,Zdg,.inl ⟨rfl,_,SqL.of (S2.get la)⟩,_,rfl,la,_,_,rfl,rfl,S2.get la,YX (show _<=20000 by rw [length_cons,length_map];omega),?_⟩
  generalize hE:upd H2 la _=H3
  have S3:=S2.putE hE
  clear hE
  obtain ⟨dx3,ob3⟩:=S3.get r
  obtain ⟨as3,els,hal,_⟩:=S3.get ls
  rw [length_map] at hal
  refine ⟨_,rfl,r,CR,dx3,_,_,rfl,ob3,TR.cl,TR.ns,rf_s,.inl ⟨rfl,_,SqL.of els⟩,_,rfl,ls,_,_,rfl,rfl,els,YX (show _<=20000 by rw [length_cons,length_map];omega),?_⟩
  generalize hE:upd H3 ls _=H4
  have S4:=hE ▸ S3.stepApp ls els (S3.get sa)
  clear hE
  obtain ⟨dx4,ob4⟩:=S4.get r
  refine ⟨_,rfl,r,CR,dx4,_,_,rfl,ob4,TR.cl,TR.nt,ZjC,.inl ⟨rfl,_,SqL.of (S4.get lt)⟩,_,rfl,lt,_,_,rfl,rfl,S4.get lt,YX (show _<=20000 by rw [length_cons,length_map];omega),?_⟩
  generalize hE:upd H4 lt _=H5
  have S5:=S4.putE hE
  clear hE
  obtain ⟨dx5,ob5⟩:=S5.get r
  obtain ⟨_,ln5,dt5,SA5⟩:=S5.get st
  obtain ⟨dxs5,obs5⟩:=SA5.ob
  refine ⟨_,rfl,r,CR,dx5,_,_,rfl,ob5,TR.cl,TR.nc,rf_c,.inl ⟨rfl,_,SqL.of (S5.get lc)⟩,_,rfl,r,CR,dx5,_,_,rfl,ob5,TR.cl,TR.nk,ZbQ,st,dxs5,_,rfl,obs5,ZR ln5 dt5,st,nds2,tabs2,rfl,S5.get st,_,rfl,_,_,rfl,rfl,lc,_,_,rfl,rfl,S5.get lc,YX (show _<=20000 by rw [length_cons,length_map];omega),?_⟩
  generalize hE:upd H5 lc _=H6
  have S6:=S5.putE hE
  clear hE
  obtain ⟨dx6,ob6⟩:=S6.get r
  refine ⟨_,rfl,r,CR,dx6,_,_,rfl,ob6,TR.cl,TR.na,Zdg,la,_,rfl,.inl (SqL.of (S6.get la)),_,_,rfl,rfl,?_⟩
  have hle:=ext2.len
  have ec:V.int ((nds2.length:Int) - (nds.length:Int))=V.int ((nds2.length - nds.length:Nat):Int):=congrArg V.int (by omega)
  have S7:=(((((((S6.drop sa).pull Pl).pull lc).pull lt).pull ls).pull la).pull st).pull r
  have S8:Sep ((r,Zay CR (UL st la ls lt lc))::(st,XY K CS nds2 tabs2)::(la,ZD (V.non::(pls++[(⟨k,s,t2,nds2.length - nds.length⟩:ZO)]).map fun q=>V.int (q.ah:Int)))::(ls,Vk ((pls++[(⟨k,s,t2,nds2.length - nds.length⟩:ZO)]).map (·.st)))::(lt,ZD (V.int 0::(pls++[(⟨k,s,t2,nds2.length - nds.length⟩:ZO)]).map fun q=>V.int (q.tb:Int)))::(lc,ZD (V.int 0::(pls++[(⟨k,s,t2,nds2.length - nds.length⟩:ZO)]).map fun q=>V.int (q.co:Int)))::(Pl,YV)::Δ) H6:=by
   rw [map_append,map_append,map_append,map_append]
   show Sep (_::_::_::_::_::(lc,ZD (V.int 0::(pls.map (fun q=>V.int (q.co:Int))++[V.int ((nds2.length - nds.length:Nat):Int)])))::_) _
   rw [<- ec]
   exact S7
  have e9:(((V.non::pls.map fun q=>V.int (q.ah:Int))++[V.int (k:Int)]).length:Int) - 1=((pls.length+1:Nat):Int):=by rw [length_append,length_cons,length_map];show ((pls.length+1+1:Nat):Int) - 1=_;omega
  have:=q H6 nds2 tabs2 t2 S8.roaC I2 ext2 len2 tl2
  rw [<- e9] at this
  exact this
end
section
variable {P:Program}{w:World}{K:KF}{mg:Str->Option Value}{base:Heap}{CR CS Pl:Addr}
def GoP (K:KF)(CR CS Pl:Addr)(NS:List Str)(r:Addr)(pls:List ZO)(nds:List Nd)(tabs:ZK)(k:Nat)(s:Stp)(Δ:Rs)(H:Hp)(Q:VK):Prop :=
 Yf NS/\Sep ((r,Xp K CR CS pls nds tabs)::(Pl,YV)::Δ) H/\RInv NS pls nds tabs/\s.ok NS/\k<=pls.length/\pls.length<=10000/\nds.length<=90000/\tabs.length<=90000 /\
 ∀ (H':Hp) (nds':List Nd) (tabs':ZK) (t':Nat),Sep ((r,Xp K CR CS (pls++[⟨k,s,t',nds'.length - nds.length⟩]) nds' tabs')::(Pl,YV)::Δ) H'->RInv NS (pls++[⟨k,s,t',nds'.length - nds.length⟩]) nds' tabs'->nds'.length<=nds.length+6->tabs'.length<=tabs.length+1->Q (.int ((pls.length+1:Nat):Int)) H'
def Zhq (K:KF)(CR CS Pl:Addr):Sp:=fun vs H Q _=>∃(NS:List Str)(r:Addr)(pls:List ZO)(nds:List Nd)(tabs:ZK)(k:Nat)(x:Str)(v:V)(Δ:Rs),vs=[.ref r,.int (k:Int),.str x,v]/\GoP K CR CS Pl NS r pls nds tabs k (.set x v) Δ H Q
def ZhO (K:KF)(CR CS Pl:Addr):Sp:=fun vs H Q _=>∃(NS:List Str)(r:Addr)(pls:List ZO)(nds:List Nd)(tabs:ZK)(k:Nat)(x:Str)(Δ:Rs),vs=[.ref r,.int (k:Int),.str x]/\GoP K CR CS Pl NS r pls nds tabs k (.clr x) Δ H Q
abbrev nRPu:List Str:=["self","place","name","value"]
abbrev ZfX:List Str:=["self","place","name","value"]
theorem Znr:Zp nRPu ZfX (Zj c_Roads_put):=⟨rfl,rfl,rfl,by decide +kernel,rfl,by decide +kernel,by decide +kernel⟩
theorem ZlF {f:Addr}{fd:FuncData}(F:Fun K "put" "Roads.put" c_Roads_put f fd)(T:Yz mg)(TR:WK K CR)(DR_go_on:DefM P w K mg base 10 CR "go_on" ZcK (Zjv K CR CS Pl)):FnOk P w K mg base ZL 11 f fd ZfX (Zhq K CR CS Pl):=by
 refine F.ok Znr (fun vs H Q E h=>?_) (fun cdv A outer s H vs Q E hr h=>?_)
 ·obtain ⟨NS,r,pls,nds,tabs,k,x,v,Δ,rfl,_⟩:=h;rfl
 obtain ⟨NS,r,pls,nds,tabs,k,x,v,Δ,rfl,N,S0,I,hs,hk,h1,h2,h3,q⟩:=h
 obtain ⟨st,la,ls,lt,lc,SR⟩:=S0.get r
 obtain ⟨dx,ob⟩:=SR.get r
 refine' ⟨?t,?h,?r⟩
 case h =>
  conv=>arg 2;whnf
  with_reducible refine' (Zh ?h1)
  case h1=>exact Zm (Ym DR_go_on TR.cl hr (pv 0) (Zb (pv 1) (Zb (YU (Zb ZS (Zb (pv 2) (Zb (pv 3) Za)))) Za)))
 refine ⟨_,rfl,r,dx,_,rfl,ob,Wd (by decide +kernel),_,rfl,_,rfl,_,rfl,(by show 3<=sizeLine;decide),fun t ht=>?_⟩
 exact ⟨NS,r,t,pls,nds,tabs,k,.set x v,Δ,rfl,N,(S0.new ht _).drop t,Zg,I,hs,hk,h1,h2,h3,fun H' nds' tabs' t' S' I' _ l1 l2=>q H' nds' tabs' t' S' I' l1 l2⟩
abbrev nRCl:List Str:=["self","place","name"]
abbrev Zft:List Str:=["self","place","name"]
theorem ZnT:Zp nRCl Zft (Zj c_Roads_clear):=⟨rfl,rfl,rfl,by decide +kernel,rfl,by decide +kernel,by decide +kernel⟩
theorem ZkQ {f:Addr}{fd:FuncData}(F:Fun K "clear" "Roads.clear" c_Roads_clear f fd)(T:Yz mg)(TR:WK K CR)(DR_go_on:DefM P w K mg base 10 CR "go_on" ZcK (Zjv K CR CS Pl)):FnOk P w K mg base ZL 11 f fd Zft (ZhO K CR CS Pl):=by
 refine F.ok ZnT (fun vs H Q E h=>?_) (fun cdv A outer s H vs Q E hr h=>?_)
 ·obtain ⟨NS,r,pls,nds,tabs,k,x,Δ,rfl,_⟩:=h;rfl
 obtain ⟨NS,r,pls,nds,tabs,k,x,Δ,rfl,N,S0,I,hs,hk,h1,h2,h3,q⟩:=h
 obtain ⟨st,la,ls,lt,lc,SR⟩:=S0.get r
 obtain ⟨dx,ob⟩:=SR.get r
 refine' ⟨?t,?h,?r⟩
 case h =>
  conv=>arg 2;whnf
  with_reducible refine' (Zh ?h1)
  case h1=>exact Zm (Ym DR_go_on TR.cl hr (pv 0) (Zb (pv 1) (Zb (YU (Zb ZS (Zb (pv 2) Za))) Za)))
 refine ⟨_,rfl,r,dx,_,rfl,ob,Wd (by decide +kernel),_,rfl,_,rfl,(by show 2<=sizeLine;decide),fun t ht=>?_⟩
 exact ⟨NS,r,t,pls,nds,tabs,k,.clr x,Δ,rfl,N,(S0.new ht _).drop t,Zg,I,hs,hk,h1,h2,h3,fun H' nds' tabs' t' S' I' _ l1 l2=>q H' nds' tabs' t' S' I' l1 l2⟩
def ZeF (K:KF)(CR CS:Addr):Sp:=fun vs H Q _=>∃(r dx:Addr)(H0:Hp)(Δ:Rs),vs=[.ref r]/\H=upd (upd H0 dx (.own r)) r (.ins CR dx [])/\H0 r=none/\H0 dx=none/\dx≠r/\Sep Δ H0/\∀ H',Sep ((r,Xp K CR CS [] [.bare] [(Sum.inl 0,.bl true)])::Δ) H'->Q .non H'
abbrev nRIn:List Str:=["self"]
abbrev ZfQ:List Str:=["self"]
theorem ZnA:Zp nRIn ZfQ (Zj c_Roads___init__):=⟨rfl,rfl,rfl,by decide +kernel,rfl,by decide +kernel,by decide +kernel⟩
theorem Zin {f:Addr}{fd:FuncData}(F:Fun K "__init__" "Roads.__init__" c_Roads___init__ f fd)(T:Yz mg)(TR:WK K CR)(TC:YT K CS)(DSto:Zfn P w K mg base 1 CS "Store" ["self"] (Zcd K CS))(DS_empty:DefM P w K mg base 2 CS "empty" ["self"] (ZeB K CS)):FnOk P w K mg base ZL 3 f fd ZfQ (ZeF K CR CS):=by
 refine F.ok ZnA (fun vs H Q E h=>?_) (fun cdv A outer s H vs Q E hr h=>?_)
 ·obtain ⟨r,dx,H0,Δ,rfl,_⟩:=h;rfl
 obtain ⟨r,dx,H0,Δ,rfl,rfl,h1,h2,h3,S0,q⟩:=h
 have S:=((S0.new h2 (.own r)).new (p:=r) (by rw [Zi h3.symm];exact h1) (.ins CR dx [])).drop dx
 generalize upd (upd H0 dx (.own r)) r (.ins CR dx [])=H at *
 refine' ⟨?t,?h,?r⟩
 case h =>
  conv=>arg 2;whnf
  with_reducible refine' (Zc ?h1 (Zc ?h2 (Zc ?h3 (Zc ?h4 (Zh ?h5)))))
  case h1=>exact Ug (pv 0) (Zke DSto hr) rfl
  case h2=>exact Ug (pv 0) (Yd (Zb VP Za)) rfl
  case h3=>exact Ug (pv 0) (Yd (Zb VP Za)) rfl
  case h4=>exact Ug (pv 0) (Yd (Zb (ZfD DS_empty TC.cl hr (ZY (pv 0) rfl)) Za)) rfl
  case h5=>exact Ug (pv 0) (Yd (Zb Ze Za)) rfl
 intro st dx2 hst hdx2 hne
 refine ⟨st,dx2,_,_,rfl,rfl,hst,hdx2,hne,S,fun H1 _ S1=>⟨rfl,?_⟩⟩
 refine ⟨_,rfl,r,CR,dx,_,rfl,S1.get r,TR.cl,TR.nk,(by show 0 < 1000;decide),?_⟩
 generalize hE:upd H1 r _=H2
 have S2:=S1.putE hE
 clear hE
 refine ⟨(by show 1<=sizeLine;decide),fun la hla=>?_⟩
 generalize hE:upd H2 la _=H3
 have S3:=S2.newE hla hE
 clear hE
 refine ⟨_,rfl,r,CR,dx,_,rfl,S3.get r,TR.cl,TR.na,(by show 1 < 1000;decide),?_⟩
 generalize hE:upd H3 r _=H4
 have S4:=S3.putE hE
 clear hE
 refine ⟨(by show 1<=sizeLine;decide),fun ls hls=>?_⟩
 generalize hE:upd H4 ls _=H5
 have S5:=S4.newE hls hE
 clear hE
 refine ⟨_,rfl,r,CR,dx,_,rfl,S5.get r,TR.cl,TR.ns,(by show 2 < 1000;decide),?_⟩
 generalize hE:upd H5 r _=H6
 have S6:=S5.putE hE
 clear hE
 obtain ⟨b0,ln,dt,SA⟩:=S6.get st
 obtain ⟨dxs,obs⟩:=SA.ob
 refine ⟨_,rfl,r,CR,dx,_,_,rfl,S6.get r,TR.cl,TR.nk,rfl,st,dxs,_,rfl,obs,ZR ln dt,_,rfl,(by show 1<=sizeLine;decide),fun lt hlt=>?_⟩
 generalize hE:upd H6 lt _=H7
 have S7:=S6.newE hlt hE
 clear hE
 refine ⟨_,rfl,r,CR,dx,_,rfl,S7.get r,TR.cl,TR.nt,(by show 3 < 1000;decide),?_⟩
 generalize hE:upd H7 r _=H8
 have S8:=S7.putE hE
 clear hE
 refine ⟨(by show 1<=sizeLine;decide),fun lc hlc=>?_⟩
 generalize hE:upd H8 lc _=H9
 have S9:=S8.newE hlc hE
 clear hE
 refine ⟨_,rfl,r,CR,dx,_,rfl,S9.get r,TR.cl,TR.nc,(by show 4 < 1000;decide),?_⟩
 generalize hE:upd H9 r _=H10
 have S10:=S9.putE hE
 clear hE
 have S11:=S10.say ls (Vk []) fun h z=>⟨[],z,rfl,fun i a s e=>by simp at e⟩
 have S12:=S11.say r (Zay CR (UL st la ls lt lc)) fun h z=>⟨dx,z⟩
 have S13:=(((((S12.pull lc).pull lt).pull ls).pull la).pull st).pull r
 exact q _ (Sep.roaC (pls:=[]) S13)
end
def StopL (pls:List ZO):YH:=fun l h=>∃ as:List Addr,h l=some (.lst (as.map V.ref))/\as.length=pls.length+1/\(∀ a,as[0]?=some a->h a=some (.tup [.non,.non]))/\∀(i:Nat)(a:Addr)(q:ZO),as[i+1]?=some a->pls[i]?=some q->∃ b,h a=some (.tup [.int (q.ah:Int),.ref b])/\h b=some (.tup q.st.vs)
instance {pls:List ZO}:Up (StopL pls):=⟨fun ⟨as,e,l,h0,h⟩ s=>⟨as,s _ _ e,l,fun a z=>s _ _ (h0 a z),fun i a q e1 e2=>let ⟨b,z1,z2⟩:=h i a q e1 e2;⟨b,s _ _ z1,s _ _ z2⟩⟩⟩
theorem Sep.stopApp {Δ Δ':Rs}{H:Hp}{pls:List ZO}{q:ZO}{a b:Addr}{as:List Addr}(S:Sep Δ H)(l:Addr)[P:Pull l Δ (StopL pls) Δ'](e:H l=some (.lst (as.map V.ref)))(ea:H a=some (.tup [.int (q.ah:Int),.ref b]))(eb:H b=some (.tup q.st.vs)):Sep ((l,StopL (pls++[q]))::Δ') (upd H l (.lst (as.map V.ref++[V.ref a]))):=by
 refine S.updR l _ (fun h ⟨as,e,_⟩=>⟨_,e,rfl⟩) fun h r l' h' e1 e2 e3=>?_
 obtain ⟨as',e4,hl,h0,hs⟩:=r
 have e5:=l' _ _ e4
 rw [e] at e5
 have e6:as.map V.ref=as'.map V.ref:=HO.lst.inj (Option.some.inj e5)
 have im:∀ b o,h b=some (.tup o)->h' b=some (.tup o):=fun b o z=>e2 _ _ (fun y=>by rw [y,e4] at z;cases z) z
 refine ⟨as'++[a],?_,by rw [length_append,length_append,hl];rfl,fun c z=>?_,fun i c p q1 q2=>?_⟩
 ·rw [e1,map_append,e6];rfl
 ·rw [getElem?_append_left (by omega)] at z
  exact im _ _ (h0 c z)
 ·by_cases hi:i < pls.length
  ·rw [getElem?_append_left (by omega)] at q1
   rw [getElem?_append_left hi] at q2
   obtain ⟨d,z1,z2⟩:=hs i c p q1 q2
   exact ⟨d,im _ _ z1,im _ _ z2⟩
  ·rw [getElem?_append_right (by omega)] at q1 q2
   have h0:i - pls.length=0:=by
    cases z:i - pls.length with
    | zero=>rfl
    | succ j=>rw [z] at q2;simp at q2
   rw [show i+1 - as'.length=0 by omega] at q1
   rw [h0] at q2
   cases (show some a=some c from q1)
   cases (show some q=some p from q2)
   exact ⟨b,e3 _ _ (fun y=>by rw [y,e] at ea;cases ea) ea rfl,e3 _ _ (fun y=>by rw [y,e] at eb;cases eb) eb rfl⟩
section
variable {P:Program}{w:World}{K:KF}{mg:Str->Option Value}{base:Heap}{CR CS Pl:Addr}
def ZbC (K:KF)(CR CS Pl:Addr):Sp:=fun vs H Q _=>∃(NS:List Str)(r sl sa:Addr)(pls:List ZO)(nds:List Nd)(tabs:ZK)(k:Nat)(s:Stp)(Δ:Rs),vs=[.ref r,.ref sl,.int (k:Int),.ref sa]/\Yf NS/\Sep ((r,Xp K CR CS pls nds tabs)::(Pl,YV)::(sl,StopL pls)::Δ) H/\H sa=some (.tup s.vs)/\RInv NS pls nds tabs/\s.ok NS/\k<=pls.length/\pls.length<=10000/\nds.length<=90000/\tabs.length<=90000 /\
 ∀ (H':Hp) (nds':List Nd) (tabs':ZK) (q:ZO),Sep ((r,Xp K CR CS (pls++[q]) nds' tabs')::(Pl,YV)::(sl,StopL (pls++[q]))::Δ) H'->RInv NS (pls++[q]) nds' tabs'->nds'.length<=nds.length+6->tabs'.length<=tabs.length+1->q.ah=k->q.st=s->q.st.ok NS->Q (.bl true) H'
abbrev nGr:List Str:=["_law_roads","_law_stops","_law_place","_law_step_here","_law_told"]
abbrev Zgp:List Str:=["_law_roads","_law_stops","_law_place","_law_step_here"]
theorem scGr:Zp nGr Zgp (Zj s_l_grown):=⟨rfl,rfl,rfl,by decide +kernel,rfl,by decide +kernel,by decide +kernel⟩
theorem ZjJ {f:Addr}{fd:FuncData}(F:Fun K "_law_grown" "_law_grown" s_l_grown f fd)(T:Yz mg)(TR:WK K CR)(DR_put:DefM P w K mg base 11 CR "put" ZfX (Zhq K CR CS Pl))(DR_clear:DefM P w K mg base 11 CR "clear" Zft (ZhO K CR CS Pl)):FnOk P w K mg base ZL 12 f fd Zgp (ZbC K CR CS Pl):=by
 refine F.ok scGr (fun vs H Q E h=>?_) (fun cdv A outer s H vs Q E hr h=>?_)
 ·obtain ⟨NS,r,sl,sa,pls,nds,tabs,k,s,Δ,rfl,_⟩:=h;rfl
 obtain ⟨NS,r,sl,sa,pls,nds,tabs,k,s,Δ,rfl,N,S0,es,I,hs,hk,h1,h2,h3,q⟩:=h
 obtain ⟨st,la,ls,lt,lc,SR⟩:=S0.get r
 obtain ⟨dx,ob⟩:=SR.get r
 refine' ⟨?t,?h,?r⟩
 case h =>
  conv=>arg 2;whnf
  with_reducible refine' (Zc (Yk ?h1 (Zh ?h2) (Zh ?h3)) (Zc ?h4 (Zh ?h5)))
  case h1=>exact ZX YA (Zq Ye (pv 3) Ze (fun _ _=>rfl)) ZS (ZM _)
  case h2=>exact Zt (i:=4) scGr.nd rfl (Or.inl rfl) (Ym DR_put TR.cl hr (pv 0) (Zb (pv 2) (Zb (Zq Ye (pv 3) Ze (fun _ _=>rfl)) (Zb (Zq Ye (pv 3) Ze (fun _ _=>rfl)) Za))))
  case h3=>exact Zt (i:=4) scGr.nd rfl (Or.inl rfl) (Ym DR_clear TR.cl hr (pv 0) (Zb (pv 2) (Zb (Zq Ye (pv 3) Ze (fun _ _=>rfl)) Za)))
  case h4=>exact Yi (YO PySem.F.plainAttrs_list PySem.F.slot_list_append PySem.F.type_list_append Yr (pv 1) (Zb (YU (Zb (pv 2) (Zb (pv 3) Za))) Za))
  case h5=>exact Zm (WG (Zv Wm rfl T.isinstance (by decide +kernel) (Zb (pv 4) (Zb (WQ rfl T.int (by decide +kernel) (v:=.ty "int") rfl) Za))) (WG (Zmu (Zv Wm rfl T.isinstance (by decide +kernel) (Zb (pv 4) (Zb (WQ rfl T.bool (by decide +kernel) (v:=.ty "bool") rfl) Za)))) (UJ (YZ YA (pv 4) (Zr YE (Zv ZG rfl T.len PySem.boot_len (Zb (pv 1) Za)) Ze) (ZM _)))))
 have S1:=((S0.imm es rfl).pull Pl).pull r
 cases s with
 | set x v =>
  refine ⟨_,rfl,sa,_,_,_,rfl,rfl,SqT.of es,Zw (j:=0) rfl,rfl,_,rfl,?_⟩
  rw [decide_eq_true rfl]
  refine Yh ⟨_,rfl,r,dx,_,rfl,ob,Wd (by decide +kernel),_,rfl,_,rfl,sa,_,_,_,rfl,rfl,SqT.of es,Zw (j:=1) rfl,_,rfl,sa,_,_,_,rfl,rfl,SqT.of es,Zw (j:=2) rfl,?_⟩
  refine ⟨NS,r,pls,nds,tabs,k,x,v,_,rfl,N,S1,I,hs,hk,h1,h2,h3,fun H2 nds2 tabs2 t2 S2 I2 l1 l2=>?_⟩
  obtain ⟨as,els,hal,_⟩:=S2.get sl
  refine ⟨_,rfl,.inl ⟨rfl,_,SqL.of els⟩,_,rfl,_,rfl,(by show 2<=sizeLine;decide),fun t ht=>?_⟩
  generalize hE:upd H2 t _=H3
  have S3:=S2.newE ht hE
  have els3:H3 sl=some (.lst (as.map V.ref)):=by rw [<- hE,Zi (Zs els ht)];exact els
  clear hE
  refine ⟨sl,_,_,rfl,rfl,els3,YX (show _<=20000 by rw [length_map];omega),?_⟩
  generalize hE:upd H3 sl _=H4
  have S4:=hE ▸ Sep.stopApp (q:=⟨k,.set x v,t2,nds2.length - nds.length⟩) S3 sl els3 (S3.get t) (S3.get sa)
  have els4:H4 sl=some (.lst (as.map V.ref++[V.ref t])):=by rw [<- hE];exact Zg
  clear hE
  refine ⟨_,rfl,_,_,_,_,rfl,.int _,rfl,true,rfl,Yh ⟨_,rfl,_,_,_,_,rfl,.int _,rfl,false,rfl,true,rfl,Yh ?_⟩⟩
  refine ⟨_,rfl,_,rfl,sl,_,rfl,.inl (SqL.of els4),_,_,rfl,rfl,rfl,?_⟩
  rw [decide_eq_true (show V.int ((pls.length+1:Nat):Int)=V.int (((as.map V.ref++[V.ref t]).length:Nat) - 1:Int) from congrArg V.int (by rw [length_append,length_map,hal];show _=((pls.length+1+1:Nat):Int) - 1;omega))]
  exact q H4 nds2 tabs2 _ (((((S4.drop t).drop sa).pull sl).pull Pl).pull r) I2 l1 l2 rfl rfl hs
 | clr x =>
  refine ⟨_,rfl,sa,_,_,_,rfl,rfl,SqT.of es,Zw (j:=0) rfl,rfl,_,rfl,?_⟩
  rw [show decide (V.str "clear"=V.str (Str.ofString "set"))=false by decide +kernel]
  refine ZP ⟨_,rfl,r,dx,_,rfl,ob,Wd (by decide +kernel),_,rfl,_,rfl,sa,_,_,_,rfl,rfl,SqT.of es,Zw (j:=1) rfl,?_⟩
  refine ⟨NS,r,pls,nds,tabs,k,x,_,rfl,N,S1,I,hs,hk,h1,h2,h3,fun H2 nds2 tabs2 t2 S2 I2 l1 l2=>?_⟩
  obtain ⟨as,els,hal,_⟩:=S2.get sl
  refine ⟨_,rfl,.inl ⟨rfl,_,SqL.of els⟩,_,rfl,_,rfl,(by show 2<=sizeLine;decide),fun t ht=>?_⟩
  generalize hE:upd H2 t _=H3
  have S3:=S2.newE ht hE
  have els3:H3 sl=some (.lst (as.map V.ref)):=by rw [<- hE,Zi (Zs els ht)];exact els
  clear hE
  refine ⟨sl,_,_,rfl,rfl,els3,YX (show _<=20000 by rw [length_map];omega),?_⟩
  generalize hE:upd H3 sl _=H4
  have S4:=hE ▸ Sep.stopApp (q:=⟨k,.clr x,t2,nds2.length - nds.length⟩) S3 sl els3 (S3.get t) (S3.get sa)
  have els4:H4 sl=some (.lst (as.map V.ref++[V.ref t])):=by rw [<- hE];exact Zg
  clear hE
  refine ⟨_,rfl,_,_,_,_,rfl,.int _,rfl,true,rfl,Yh ⟨_,rfl,_,_,_,_,rfl,.int _,rfl,false,rfl,true,rfl,Yh ?_⟩⟩
  refine ⟨_,rfl,_,rfl,sl,_,rfl,.inl (SqL.of els4),_,_,rfl,rfl,rfl,?_⟩
  rw [decide_eq_true (show V.int ((pls.length+1:Nat):Int)=V.int (((as.map V.ref++[V.ref t]).length:Nat) - 1:Int) from congrArg V.int (by rw [length_append,length_map,hal];show _=((pls.length+1+1:Nat):Int) - 1;omega))]
  exact q H4 nds2 tabs2 _ (((((S4.drop t).drop sa).pull sl).pull Pl).pull r) I2 l1 l2 rfl rfl hs
end
section
variable {P:Program}{w:World}{K:KF}{mg:Str->Option Value}{base:Heap}{CR CS Pl:Addr}
theorem StopL.at {pls:List ZO}{l:Addr}{H:Hp}{k:Nat}(h:StopL pls l H)(hk:k<=pls.length):∃ xs a x y,H l=some (.lst xs)/\xs[k]?=some (.ref a)/\H a=some (.tup [x,y])/\x=ahV pls k/\StV pls k y H/\xs.length=pls.length+1:=by
 obtain ⟨as,e,hl,h0,hs⟩:=h
 have ha:=getElem?_eq_getElem (show k < as.length by omega)
 refine ⟨as.map V.ref,as[k],?_⟩
 cases k with
 | zero=>exact ⟨_,_,e,by rw [getElem?_map,ha];rfl,h0 _ ha,rfl,rfl,by rw [length_map];exact hl⟩
 | succ k =>
  have hp:=getElem?_eq_getElem (show k < pls.length by omega)
  obtain ⟨b,z1,z2⟩:=hs k _ _ ha hp
  refine ⟨_,_,e,by rw [getElem?_map,ha];rfl,z1,?_,⟨b,_,rfl,by rw [getElem?_map,hp];rfl,z2⟩,by rw [length_map];exact hl⟩
  show _=V.int (((pls.getD k ⟨0,.clr "",0,0⟩).ah:Nat):Int)
  rw [getD_eq_getElem?_getD,hp];rfl
def ZeX:Sp:=fun vs H Q _=>∃(sl:Addr)(pls:List ZO)(k:Nat),vs=[.ref sl,.int (k:Int)]/\StopL pls sl H/\WfP pls/\k<=pls.length/\pls.length<=10000/\∀ l H',Same H H'->H l=none->H' l=some (.lst ((rd pls k).map nV))->Q (.ref l) H'
abbrev nRo:List Str:=["_law_stops","_law_place","_law_found"]
abbrev ZiN:List Str:=["_law_stops","_law_place"]
theorem scRo:Zp nRo ZiN (Zj s_l_road):=⟨rfl,rfl,rfl,by decide +kernel,rfl,by decide +kernel,by decide +kernel⟩
theorem ZjH {f:Addr}{fd:FuncData}(F:Fun K "_law_road" "_law_road" s_l_road f fd)(T:Yz mg):FnOk P w K mg base ZL 1 f fd ZiN ZeX:=by
 refine F.ok scRo (fun vs H Q E h=>?_) (fun cdv A outer s H vs Q E hr h=>?_)
 ·obtain ⟨sl,pls,k,rfl,_⟩:=h;rfl
 obtain ⟨sl,pls,k,rfl,R,hw,hk,hpl,q⟩:=h
 refine' ⟨?t,?h,?r⟩
 case h =>
  conv=>arg 2;whnf
  with_reducible refine' (Zc ?h1 (Zc (ZdI ?h2 ?h3 (Zh ?h4)) (Zh ?h5)))
  case h1=>exact Zt (i:=2) scRo.nd rfl (Or.inl rfl) (Yd (Zb (pv 1) Za))
  case h2=>exact PassesOwn.never
  case h3=>exact ZX Zkx (Zq ZA (pv 2) Ze (fun _ _=>rfl)) Ze (ZM _)
  case h4=>exact Yi (YO PySem.F.plainAttrs_list PySem.F.slot_list_insert PySem.F.type_list_insert ZgW (pv 2) (Zb Ze (Zb (Zq Ye (Zq ZA (pv 0) (Zq ZA (pv 2) Ze (fun _ _=>rfl)) (fun _ _=>rfl)) Ze (fun _ _=>rfl)) Za)))
  case h5=>exact Zm (pv 2)
 refine ⟨_,rfl,(by show 1<=sizeLine;decide),fun l hl=>?_⟩
 refine ⟨fun m σ H'=>∃ (bs:List Nat) (j:Nat),σ=[some (.ref sl),some (.int (k:Int)),some (.ref l)]/\Same H H'/\H' l=some (.lst ((j::bs).map nV))/\bs.length+j<=k/\j<=pls.length/\m=j/\bs.reverse++bk pls (j+1) j=bk pls (k+1) k,
  ⟨k,[],k,rfl,Zx hl _,Zg,by show 0+k<=k;omega,hk,rfl,rfl⟩,?_⟩
 rintro j σ H2 ⟨bs,j',rfl,s2,el,hm,hj,rfl,hbs⟩
 refine ⟨_,rfl,l,_,_,_,rfl,rfl,SqL.of el,Zw (j:=0) rfl,_,_,rfl,rfl,_,rfl,Xf (fun c=>?_) (fun c=>?_)⟩
 ·have hj0:0 < j:=by have:=of_decide_eq_true c;omega
  obtain ⟨xs,a,x,y,e1,e2,e3,e4,_,_⟩:=StopL.at (Up.up R s2) hj
  refine ⟨_,fun σ' H' h=>h,_,rfl,.inl ⟨rfl,_,SqL.of el⟩,_,rfl,_,rfl,l,_,_,_,rfl,rfl,SqL.of el,Zw (j:=0) rfl,sl,_,_,_,rfl,rfl,SqL.of e1,Zw (j:=j) e2,a,_,_,_,rfl,rfl,SqT.of e3,Zw (j:=0) rfl,l,_,0,_,rfl,rfl,el,?_,by decide,?_⟩
  ·rw [length_map,length_cons];omega
  obtain ⟨i,rfl⟩:∃ i,j=i+1:=⟨j - 1,by omega⟩
  have ha:=hw.at (show i < pls.length by omega)
  subst e4
  refine ⟨(pls.getD i ⟨0,.clr "",0,0⟩).ah,by omega,(i+1)::bs,_,rfl,fun b o e=>?_,Zg,by show bs.length+1+_<=k;omega,by omega,rfl,?_⟩
  ·rw [Zi (Zs e hl)];exact s2 _ _ e
  ·rw [List.reverse_cons,append_assoc,<- hbs]
   show bs.reverse++(i+1)::bk pls _ _=bs.reverse++(i+1)::bk pls (i+1) _
   rw [Zfa hw _ (by omega) (i+1) (by omega)]
 ·have hj0:j=0:=by have:¬ (0:Int) < (j:Int):=fun z=>c (decide_eq_true z);omega
  subst hj0
  refine ⟨_,rfl,q l H2 s2 hl ?_⟩
  rw [el]
  unfold rd
  rw [<- hbs,List.reverse_append,List.reverse_reverse];rfl
end
section
variable {P:Program}{w:World}{K:KF}{mg:Str->Option Value}{base:Heap}{CR CS Pl:Addr}
def NvV (v:V):Prop:=v=.non\/Xa v
theorem Zep {v:V}(h:NvV v):v=.non\/(∃ i,v=.int i)\/∃ x,v=.str x:=by
 rcases h with h | h
 ·exact .inl h
 ·cases v<;>first | exact .inr (.inl ⟨_,rfl⟩) | exact .inr (.inr ⟨_,rfl⟩) | exact h.elim
end
end K22
namespace L2
open PySem PySem.W PySem.Spec PyProof.Rows
section
variable {O:KeyOrd}{key:Nat->O.α}{n:Nat}{s:Shared}{cmp:Nat->Nat->(Bool->Shared->Prop)->Shared->Prop}
theorem ZlQ {α:Type}{l:List α}(h:l.Nodup){i j:Nat}{hi:i < l.length}{hj:j < l.length}(e:l[i]=l[j]):i=j:=by
 have p:=List.pairwise_iff_getElem.mp h
 rcases Nat.lt_trichotomy i j with z | z | z
 ·exact absurd e (p i j hi hj z)
 ·exact z
 ·exact absurd e.symm (p j i hj hi z)
end
section
variable {prog:Program}{w:World}{A:Around}{E:ZB}{s:Shared}{a:Addr}{as:List Addr}{ks:List Str}{P:PySem.Fin->Shared->Prop}
end
def Va (ps:ZH):Prop:=ps.Pairwise fun p q=>¬ (q.1.cps.toList < p.1.cps.toList)
section
variable {X:Cx}
def kP (p:Str×V):Zk×V:=(Sum.inr p.1,p.2)
end
end L2
namespace L2
open PySem
theorem Zik {x y:Str}(h:x.cps.toList=y.cps.toList):x=y:=by
 cases x;cases y
 congr 1
 exact Array.toList_inj.mp h
theorem Zex {ps qs:ZH}(hp:Va ps)(hq:Va qs)(np:(ps.map (·.1)).Nodup)(nq:(qs.map (·.1)).Nodup)(h:∀ z,z∈ps↔z∈qs):ps=qs:=by
 have nd:∀ {l:ZH},(l.map (·.1)).Nodup->l.Nodup:=fun h=>(pairwise_map.mp h).imp fun a b=>a (by rw [b])
 have P:ps.Perm qs:=(List.perm_ext_iff_of_nodup (nd np) (nd nq)).mpr h
 refine P.eq_of_pairwise (le:=fun (p q:Str×V)=>¬ (q.1.cps.toList < p.1.cps.toList)) (fun a b ha hb h1 h2=>?_) (show ps.Pairwise _ from hp) (show qs.Pairwise _ from hq)
 have e:a.1=b.1:=Zik (List.le_antisymm (List.not_lt.mp h1) (List.not_lt.mp h2))
 have inj:∀ {l:ZH},(l.map (·.1)).Nodup->∀ a∈l,∀ b∈l,a.1=b.1->a=b:=by
  intro l hl a ha b hb e
  obtain ⟨i,hi,ea⟩:=mem_iff_getElem.mp ha
  obtain ⟨j,hj,eb⟩:=mem_iff_getElem.mp hb
  have:i=j:=ZlQ (l:=l.map (·.1)) (i:=i) (j:=j) (hi:=by rw [length_map];exact hi) (hj:=by rw [length_map];exact hj) hl (by rw [List.getElem_map,List.getElem_map,ea,eb,e])
  subst this
  rw [<- ea,<- eb]
 exact inj nq a (P.mem_iff.mp ha) b hb e
end L2
namespace L2
open PySem PySem.Spec PyProof.Rows
section
variable {X:Cx}
theorem ZjQ:bootBuiltins "zip"=some (.type "zip"):=by decide +kernel
end
mutual
inductive DatT (K:KF)(H:Hp):V->PyData->Prop
 | non:DatT K H .non .none
 | int (i):DatT K H (.int i) (.int i)
 | str (x):DatT K H (.str x) (.str x)
 | tup {a xs ds}:SqT K H a xs->DatTs K H xs ds->DatT K H (.ref a) (.tuple ds)
inductive DatTs (K:KF)(H:Hp):List V->List PyData->Prop
 | nil:DatTs K H [] []
 | cons {v d vs ds}:DatT K H v d->DatTs K H vs ds->DatTs K H (v::vs) (d::ds)
end
section
variable {X:Cx}{pins:List (Addr×Obj)}{σ:St}{H:Hp}{s:Shared}
mutual
theorem DatT.reads (I:Inv X pins σ H s):∀{v d}(u:Value),DatT X.K H v d->RelV v u->d.hasDict=false/\∃ as,Reads s.heap u d as
 | _,_,u,.non,r=>by cases (show u=.none from r);exact ⟨rfl,_,.none⟩
 | _,_,u,.int i,r=>by obtain ⟨t,e⟩:=(show ∃ t,u=.int i t from r);subst e;exact ⟨rfl,_,.int i t⟩
 | _,_,u,.str x,r=>by obtain ⟨t,e⟩:=(show ∃ t,u=.str x t from r);subst e;exact ⟨rfl,_,.str x t⟩
 | _,_,u,.tup (a:=a) (xs:=xs) e q,r=>by
  cases (show u=.ref a from r)
  obtain ⟨its,rv,⟨o,g,c,n,d⟩,_⟩:=I.tuple e
  obtain ⟨nd,as,ra⟩:=DatTs.reads I its q rv
  exact ⟨by simpa [PyData.hasDict] using nd,_,.tuple g c d (by simpa using ra)⟩
theorem DatTs.reads (I:Inv X pins σ H s):∀{vs ds}(us:List Value),DatTs X.K H vs ds->Vals vs us->PyData.hasDictAll ds=false/\∃ as,ReadsAll s.heap us ds as
 | _,_,_,.nil,.nil=>⟨rfl,_,.nil⟩
 | _,_,_,.cons r t,.cons rv tv=>by
  obtain ⟨n1,as,r1⟩:=DatT.reads I _ r rv
  obtain ⟨n2,bs,r2⟩:=DatTs.reads I _ t tv
  exact ⟨by simp [PyData.hasDictAll,n1,n2],_,.cons r1 r2⟩
end
end
end L2
namespace L2
open PySem
end L2
namespace L2
open PySem PySem.W PySem.Spec PyProof.Rows
theorem Zcq:∀{xs:List Str}{us:List Value},Vals (xs.map V.str) us->StrsAre us xs
 | [],_,.nil=>.nil
 | _::_,_,.cons r t=>by
  obtain ⟨tk,e⟩:=r
  subst e
  exact .cons _ tk (Zcq t)
theorem VF:∀{xs:List Str}{us:List Value},StrsAre us xs->Vals (xs.map V.str) us
 | _,_,.nil=>.nil
 | _,_,.cons x t h=>.cons ⟨t,rfl⟩ (VF h)
def Xn (xs:List Str):Prop:=xs.Pairwise fun x y=>¬ (y.cps.toList < x.cps.toList)
section
variable {X:Cx}
end
end L2
namespace L2
open PySem
end L2
namespace L2
open PySem PySem.Spec PyProof.Rows
def Zgj (X:Cx)(d:Addr):Prop:=∀ o u,X.H₀ d≠some (.frz o u)
section
variable {X:Cx}{pins:List (Addr×Obj)}{σ:St}{H:Hp}{s:Shared}{d:Addr}{o:Obj}{kvs:ZK}
theorem Inv.freeze (I:Inv X pins σ H s)(e:H d=some (.dK kvs))(ho:s.heap.get? d=some o):Inv X pins σ (upd H d (.frz o (.dK kvs))) s :=
 I.write (x:=d) (e:=d) (o:=.frz o (.dK kvs)) (t':=s.toks) (h':=s.heap) (by rw [e];trivial) (.inl rfl) (fun b u _ q=>q) ⟨o,ho⟩ ⟨ho,show ObjOk X.prog X.w H s.heap d (.dK kvs) from I.hok d _ e⟩
theorem Inv.nofz (I:Inv X pins σ H s)(e:H d=some (.dK kvs)):Zgj X d:=fun o u z=>by
 have:=I.base.frzs d o u z
 rw [e] at this;cases this
theorem Inv.melt (I:Inv X pins σ H s)(e:H d=some (.frz o (.dK kvs)))(nf:Zgj X d):Inv X pins σ (upd H d (.dK kvs)) s:=by
 have hne:∀ {b},H b=none->b≠d:=fun n z=>by rw [z,e] at n;cases n
 refine ⟨I.ok,I.os,I.bare,⟨I.base.keep,I.base.slot,fun b ob q n hx=>?_,I.base.there,fun b xs q=>?_,fun b ob u q=>?_,fun b ps q=>?_⟩,I.loc,I.cell,?_,fun x c q=>?_,fun p hp=>?_,fun b u q=>?_,I.len⟩
 ·have:=I.base.free b ob q n hx
  rw [Zi (hne this)];exact this
 ·have:=I.base.tups b xs q
  rw [Zi (fun z=>by rw [z,e] at this;cases this)];exact this
 ·rw [Zi (fun z=>by rw [z] at q;exact nf _ _ q)];exact I.base.frzs b ob u q
 ·obtain ⟨more,this⟩:=I.base.tbls b ps q
  exact ⟨more,by rw [Zi (fun z=>by rw [z,e] at this;cases this)];exact this⟩
 ·rw [Zi (hne I.free)];exact I.free
 ·have:=I.freeC x c q
  rw [Zi (hne this)];exact this
 ·obtain ⟨p1,p2,p3⟩:=I.pin p hp
  exact ⟨p1,by rw [Zi (hne p2)];exact p2,p3⟩
 ·by_cases z:b=d
  ·subst z
   rw [Zg] at q
   cases q
   exact (show ObjOk X.prog X.w H s.heap b (.dK kvs) from (show ObjOk X.prog X.w H s.heap b (.frz o (.dK kvs)) from I.hok b _ e).2)
  ·rw [Zi z] at q
   exact (I.hok b u q).stay (fun _ _ _ q=>q) (fun c r=>by rw [Zi (fun z=>by rw [z,e] at r;cases r)];exact r) fun c xs r=>by rw [Zi (fun z=>by rw [z,e] at r;cases r)];exact r
end
def Itd (o:Obj)(d:Addr)(kvs:ZK):It :=
 ⟨fun i H=>H d=some (.frz o (.dK kvs))/\i < kvs.length,fun i H v H'=>H'=H/\∃ p,kvs[i]?=some p/\v=kV p.1,fun i H=>H d=some (.frz o (.dK kvs))/\kvs.length<=i⟩
theorem ZdP {P:Program}{w:World}{H:Hp}{h:Heap}{d:Addr}{o:Obj}{kvs:ZK}{es:Array DictEntry}{ep:Nat}(ok:HOk P w H h)(hd:o.data=.dict es ep)(e:H d=some (.frz o (.dK kvs))):∃ vs,KV kvs vs/\Heap.DictAt (Zl P w) h d vs ep:=by
 obtain ⟨hg,hz,lo,vs,kv,o',es',ep',ho,r1,r2,r3,r4,r5⟩:=(show ObjOk P w H h d (.frz o (.dK kvs)) from ok d _ e)
 rw [hg] at ho
 cases ho
 rw [hd] at r2
 cases r2
 exact ⟨vs,kv,o,es,hg,r1,hd,r3,r4,r5⟩
theorem ZgY {P:Program}{w:World}{K:KF}{tg:Expr}{o:Obj}{es:Array DictEntry}{ep:Nat}{kvs:ZK}(hd:o.data=.dict es ep)(d it:Addr):Uj P w K tg (Itd o d kvs) [it] it (fun i h=>h.IsKeyIter it d i kvs.length ep) where
 mem:=by simp
 obj:=fun i h st b hb=>by
  have e:b=it:=by simpa using hb
  subst e
  obtain ⟨o,e,c,d⟩:=st
  exact ⟨o,e,fun v z=>by rw [d] at z;cases z⟩
 keep:=fun i h h' st k=>st.at fun o e=>k it (by simp) o e
 item:=by
  intro X hP hw hK hc i pins s σ H E I hf st hg
  subst hP hw hK
  obtain ⟨e,hi⟩:=hg
  obtain ⟨vs,kv,D⟩:=ZdP I.hok hd e
  have hlen:kvs.length=vs.length:=Paired.length kv
  obtain ⟨f0,f1,f2,f3,f4,f5⟩:=hf it (by simp)
  have hv:=getElem?_eq_getElem (l:=vs) (i:=i) (by omega)
  generalize vs[i]=pv at hv
  obtain ⟨pk,px⟩:=pv
  obtain ⟨vv,hkv,_⟩:=Zgq kv hv
  refine wpAny_pyNext_dict_item (hlen ▸ st) D hv fun key h' hk st' sb=>?_
  have I1:Inv X pins σ H { s with heap:=h' }:=I.turned (t':=s.toks) (fun b o hb e=>(sb.2 b hb).trans e) f0 f1 f3 f4 f5
  have rk:RelV (kV pk) key:=by
   rw [UX] at hk
   rcases ZT hk with ⟨j,t,e1,e2⟩ | ⟨y,t,e1,e2⟩
   ·rw [e1,e2];exact ⟨t,rfl⟩
   ·rw [e1,e2];exact ⟨t,rfl⟩
  obtain ⟨o9,e9,c9,d9⟩:=id st'
  exact ⟨key,rfl,ZcN (s:={ s with heap:=h' }) e9 c9 d9 (by decide) ⟨_,H,I1,rk,⟨rfl,_,hkv,rfl⟩,hlen ▸ st',fun b hb=>(hf b hb).1⟩⟩
 done:=by
  intro X hP hw hK hc i pins s σ H E I hf st hg
  subst hP hw hK
  obtain ⟨e,hi⟩:=hg
  obtain ⟨vs,kv,D⟩:=ZdP I.hok hd e
  have hlen:kvs.length=vs.length:=Paired.length kv
  obtain ⟨f0,f1,f2,f3,f4,f5⟩:=hf it (by simp)
  exact wpAny_pyNext_dict_end (I.ok.hd hc) (hlen ▸ st) D (List.getElem?_eq_none (by omega)) fun h' eb=>⟨rfl,I.turned (t':=s.toks) (fun b o hb e=>eb b o hb e) f0 f1 f3 f4 f5⟩
 self:=fun _ _ _ _ _ st h=>wpAny_pyIter_keyiter st h
def Znp (X:Cx)(td:TE):TI:=fun σ H R=>td σ H fun x H1=>∃ d kvs,x=.ref d/\H1 d=some (.dK kvs)/\∀ o,Zgj X d->R (Itd o d kvs) (upd H1 d (.frz o (.dK kvs)))
def ZnW (X:Cx)(te:TE):TE:=fun σ H Q=>te σ H fun v H2=>∃ d o kvs,H2 d=some (.frz o (.dK kvs))/\Zgj X d/\Q v (upd H2 d (.dK kvs))
section
variable {X:Cx}{tg:Expr}
theorem Zla {l:Expr}{tl:TE}(hl:PE X l tl):PI X tg l (Znp X tl):=by
 intro pins s σ H R I h
 refine Zn (hl pins s σ H _ I h) fun v s1 ⟨x,H1,I1,r1,q1⟩=>?_
 obtain ⟨d,kvs,e,ed,q⟩:=q1
 subst e
 cases r1
 obtain ⟨hz,lo,vs,kv,o,es,ep,ho,r1,r2,r3,r4,r5⟩:=WL I1.hok ed
 have hlen:kvs.length=vs.length:=Paired.length kv
 refine wpAny_pyIter_dict (knd:=Zl X.prog X.w) (kvs:=vs) (ep:=ep) lo ⟨o,es,ho,r1,r2,r3,r4,r5⟩ ?_
 have I2:=I1.freeze ed ho
 refine ⟨s1.heap.objs.size,[s1.heap.objs.size],_,_,_,rfl,I2.kept (t':=s1.toks) fun b o e=>Heap.get?_push_of_some _ e,ZgY (kvs:=kvs) r2 d _,⟨_,Heap.get?_push_size _ rfl,rfl,by rw [hlen];rfl⟩,fun b hb=>?_,q o (I1.nofz ed)⟩
 have e:b=s1.heap.objs.size:=by simpa using hb
 subst e
 exact I2.fpOk (Nat.le_refl _) (I2.hok.fresh (Nat.le_refl _))
theorem Zlj {e:Expr}{te:TE}(h:PE X e te):PE X e (ZnW X te):=by
 intro pins s σ H Q I z
 refine Zn (h pins s σ H _ I z) fun v s1 ⟨x,H1,I1,r1,q1⟩=>?_
 obtain ⟨d,o,kvs,e,nf,q⟩:=q1
 exact ⟨x,_,I1.melt e nf,r1,q⟩
end
theorem ZfF {o:Obj}{d:Addr}{kvs:ZK}{tc:TT}{te:TE}{σ:St}{D:Addr}{Q:VK}{H:Hp}(hn:kvs.length<=sizeLine)(Pv:Nat->List V->Hp->Prop)(h0:Pv 0 [] (upd H D (.lst [])))
 (hl:∀ i ys H,Pv i ys H->ys.length<=i/\H d=some (.frz o (.dK kvs)))
 (hs:∀ i p ys H,kvs[i]?=some p->Pv i ys H->tc (σ++[some (kV p.1)]) H fun b H3=>if b=true then te (σ++[some (kV p.1)]) H3 fun y H4=>H4 D=some (.lst ys)/\Pv (i+1) (ys++[y]) (upd H4 D (.lst (ys++[y]))) else Pv (i+1) ys H3) (hd:∀ ys H,Pv kvs.length ys H->Q (.ref D) H):Zbh (Itd o d kvs) tc te σ D Q H:=by
 refine ⟨fun i m ys H=>m=kvs.length - i/\i<=kvs.length/\Pv i ys H,⟨kvs.length,by simp,Nat.zero_le _,h0⟩,?_⟩
 rintro i m ys H2 ⟨rfl,hi,p⟩
 obtain ⟨hlen,q⟩:=hl i ys _ p
 by_cases hlt:i < kvs.length
 ·refine .inr ⟨⟨q,hlt⟩,_,_,fun y H4 (q:H4 D=some (.lst ys)/\Pv (i+1) (ys++[y]) (upd H4 D (.lst (ys++[y]))))=>⟨q.1,by omega,kvs.length - (i+1),by omega,rfl,hlt,q.2⟩,fun H4 (q:Pv (i+1) ys H4)=>⟨kvs.length - (i+1),by omega,rfl,hlt,q⟩,fun v H3 y=>?_⟩
  obtain ⟨e,pp,hp,ev⟩:=y
  subst e ev
  exact hs i pp ys _ hp p
 ·have e:i=kvs.length:=by omega
  subst e
  exact .inl ⟨⟨q,Nat.le_refl _⟩,hd ys H2 p⟩
end L2
namespace L2
open PySem PySem.W PySem.Spec PyProof.Rows
section
variable {X:Cx}
end
end L2
namespace L2
open PySem
end L2
namespace L2
open PySem PySem.W PySem.Spec PyProof.Rows
section
variable {X:Cx}
end
end L2
namespace L2
open PySem PySem.Spec PyProof.Rows
end L2
namespace L2
open PySem PySem.W PySem.Spec PyProof.Rows
section
variable {X:Cx}
theorem Uk:Yw X (.builtin "sorted") (fun xs H Q=>∃ (l0:Addr) (ss:List Str),xs=[.ref l0]/\H l0=some (.lst (ss.map V.str))/\ss.length < 64 /\
 ∀ (l:Addr) (ys:List Str),H l=none->ys.Perm ss->Xn ys->Q (.ref l) (upd H l (.lst (ys.map V.str)))):=by
 intro pins s σ H xs us Q I r h
 obtain ⟨l0,ss,rfl,el,h64,q⟩:=h
 obtain ⟨u,rfl,ru⟩:=Yx r
 cases ru
 obtain ⟨hz,its,n0,rv',hg0⟩:=(show ObjOk X.prog X.w H s.heap l0 (.lst (ss.map V.str)) from I.hok l0 _ el)
 have hS:=Zcq rv'
 have hlacc:its.length=ss.length:=hS.length
 refine PySem.Calls.call_function_entry kind_sorted plain_sorted entry_sorted (args_sorted1 _) ?_
 unfold Builtin.«sorted»
 refine wpAny_bind (m:=checkCount "sorted" 1 1 _) (wpAny_pure ?_)
 refine wpAny_bind (collect_list (l:=l0) (vs:=its) ⟨_,hg0,rfl,_,rfl⟩ ?_ (by rw [hlacc,sizeLine_eq];omega))
 have hk:∀ b o,s.heap.get? b=some o->((s.heap.push (seqObj "list" #[] 0)).update s.heap.objs.size (Obj.mapSeq fun x=>x++its.toArray)).get? b=some o:=fun b o e =>
  ((Heap.SameBut.update (s.heap.push (seqObj "list" #[] 0)) s.heap.objs.size _).2 b (Nat.ne_of_lt (Heap.lt_size e))).trans (Heap.get?_push_of_some _ e)
 have hge:s.heap.objs.size<=((s.heap.push (seqObj "list" #[] 0)).update s.heap.objs.size (Obj.mapSeq fun x=>x++its.toArray)).objs.size:=by
  rw [(Heap.SameBut.update (s.heap.push (seqObj "list" #[] 0)) s.heap.objs.size _).1,Heap.size_push];exact Nat.le_succ _
 generalize ((s.heap.push (seqObj "list" #[] 0)).update s.heap.objs.size (Obj.mapSeq fun x=>x++its.toArray))=h' at hk hge ⊢
 generalize htk:s.toks=tk
 refine wpAny_bind (wpAny_newList ?_ (by rw [hlacc,sizeLine_eq];omega))
 have hoL:(h'.push { cls:=.type "list",data:=.seq its.toArray }).get? h'.objs.size=some (seqObj "list" its.toArray 0):=Heap.get?_push_size _ rfl
 have keepg:∀ b o,h'.get? b=some o->(h'.push { cls:=.type "list",data:=.seq its.toArray }).get? b=some o:=fun b o e=>Heap.get?_push_of_some _ e
 show wpAny _ _ _ _ _ { s with heap:=h'.push { cls:=.type "list",data:=.seq its.toArray },toks:=tk }
 generalize h'.push { cls:=.type "list",data:=.seq its.toArray }=g at hoL keepg ⊢
 refine wpAny_bind (wpAny_holding (wpAny_call_entry slot_list_sort ⟨_,hoL,rfl⟩ entry_list_sort ?body (args_list_sort _)))
 case body =>
  refine list_sort_treeK (s:={ s with heap:=g,toks:=tk }) strKind_oneLt hoL hS.keysOf (fun v₁ v₂ rest e=>keyKind_strs (by rw [<- e];exact hS)) (by rw [hlacc];exact h64) fun st' hp hs=>⟨_,rfl,wpAny_pure ⟨_,rfl,?_⟩⟩
  have hsz:(arrOf st').size=its.length:=by rw [hp.size_eq,pairsOf_size]
  have hl2:(arrOf st').toList.Perm (its.zip its):=by rw [<- pairsOf_toList];exact Array.perm_iff_toList_perm.mp hp
  have hmem:∀ z∈(arrOf st').toList,z.1=z.2/\z.1∈its:=fun z hz'=>mem_zip_self (hl2.mem_iff.mp hz')
  have hout:StrsAre ((arrOf st').map (·.2)).toList ((arrOf st').toList.map fun z=>strOf z.1):=by
   have e:((arrOf st').map (·.2)).toList=(arrOf st').toList.map (·.1):=by
    rw [Array.toList_map];exact map_congr_left fun z hz'=>(hmem z hz').1.symm
   rw [e]
   have h1:=strsAre_map ((arrOf st').toList.map (·.1)) (by
    intro v hv
    obtain ⟨z,hz',rfl⟩:=mem_map.mp hv
    exact hS.all _ (hmem z hz').2)
   rwa [map_map] at h1
  have hperm:((arrOf st').toList.map fun z=>strOf z.1).Perm (ss):=by
   have h1:=hl2.map fun z=>strOf z.1
   have e2:(its.zip its).map (fun z=>strOf z.1)=ss:=by
    have:(its.zip its).map (fun z=>strOf z.1)=((its.zip its).map Prod.fst).map strOf:=by rw [map_map];rfl
    rw [this,List.map_fst_zip (Nat.le_refl _),hS.strs]
   rwa [e2] at h1
  have hsort:Xn ((arrOf st').toList.map fun z=>strOf z.1):=by
   unfold Xn
   rw [pairwise_map,List.pairwise_iff_getElem]
   intro i j hi hj hij
   have hi':i < (arrOf st').size:=by simpa using hi
   have hj':j < (arrOf st').size:=by simpa using hj
   have h1:=hs i j (Nat.le_of_lt hij) (by rw [<- hp.size_eq];exact hj')
   obtain ⟨x,t,ex⟩:=hS.all _ (hmem (arrOf st')[i] (by simp)).2
   obtain ⟨y,u,ey⟩:=hS.all _ (hmem (arrOf st')[j] (by simp)).2
   rw [KK_str hi' (x:=x) (t:=t) (q:=(arrOf st')[i].2) (Prod.ext ex rfl),KK_str hj' (x:=y) (t:=u) (q:=(arrOf st')[j].2) (Prod.ext ey rfl)] at h1
   change decide (y.cps.toList < x.cps.toList)=false at h1
   simp only [Array.getElem_toList]
   rw [show strOf (arrOf st')[i].1=x by rw [ex];rfl,show strOf (arrOf st')[j].1=y by rw [ey];rfl]
   exact of_decide_eq_false h1
  have s1:=Heap.SameBut.update g h'.objs.size (Obj.mapSeq fun _=>(#[]:Array Value))
  obtain ⟨e1,ho1⟩:∃ e1,(g.update h'.objs.size (Obj.mapSeq fun _=>(#[]:Array Value))).get? h'.objs.size=some (seqObj "list" #[] e1):=⟨_,get?_update_seq hoL fun _=>#[]⟩
  have k1:∀ b o,b≠h'.objs.size->g.get? b=some o->(g.update h'.objs.size (Obj.mapSeq fun _=>(#[]:Array Value))).get? b=some o:=fun b o nb e=>(s1.2 b nb).trans e
  show EP X pins σ Q (.ref h'.objs.size) { s with heap:=(((g.update h'.objs.size (Obj.mapSeq fun _=>(#[]:Array Value))).push (seqObj "tuple" its.toArray 0)).push (seqObj "list" #[] 0)).update h'.objs.size (Obj.mapSeq fun _=>(arrOf st').map (·.2)),toks:=tk }
  generalize g.update h'.objs.size (Obj.mapSeq fun _=>(#[]:Array Value))=g1 at ho1 k1 ⊢
  have ho2:((g1.push (seqObj "tuple" its.toArray 0)).push (seqObj "list" #[] 0)).get? h'.objs.size=some (seqObj "list" #[] e1):=Heap.get?_push_of_some _ (Heap.get?_push_of_some _ ho1)
  have k2:∀ b o,g1.get? b=some o->((g1.push (seqObj "tuple" its.toArray 0)).push (seqObj "list" #[] 0)).get? b=some o:=fun b o e=>Heap.get?_push_of_some _ (Heap.get?_push_of_some _ e)
  generalize (g1.push (seqObj "tuple" its.toArray 0)).push (seqObj "list" #[] 0)=g2 at ho2 k2 ⊢
  have s2:=Heap.SameBut.update g2 h'.objs.size (Obj.mapSeq fun _=>(arrOf st').map (·.2))
  obtain ⟨c3,hc3⟩:∃ c3,(g2.update h'.objs.size (Obj.mapSeq fun _=>(arrOf st').map (·.2))).get? h'.objs.size=some (seqObj "list" ((arrOf st').map (·.2)) c3):=⟨_,get?_update_seq ho2 fun _=>(arrOf st').map (·.2)⟩
  have keep:∀ b o,s.heap.get? b=some o->(g2.update h'.objs.size (Obj.mapSeq fun _=>(arrOf st').map (·.2))).get? b=some o:=fun b o e=>by
   have nb:b≠h'.objs.size:=Nat.ne_of_lt (Nat.lt_of_lt_of_le (Heap.lt_size e) hge)
   exact (s2.2 b nb).trans (k2 b o (k1 b o nb (keepg b o (hk b o e))))
  generalize g2.update h'.objs.size (Obj.mapSeq fun _=>(arrOf st').map (·.2))=g3 at hc3 keep ⊢
  refine ⟨.ref h'.objs.size,_,I.laid (t':=tk) keep hge (show ObjOk X.prog X.w _ _ _ (.lst (((arrOf st').toList.map fun z=>strOf z.1).map V.str)) from ⟨?_,((arrOf st').map (·.2)).toList,c3,VF hout,by rw [Array.toArray_toList];exact hc3⟩),rfl,q _ _ (I.hok.fresh hge) hperm hsort⟩
  rw [length_map,length_map,Array.length_toList,hsz,hlacc,sizeLine_eq];omega
end
end L2
namespace K22
open PySem L2
def foS:Stp->List (Str×V)->List (Str×V)
 | .set x v,ps=>Xt ps x v
 | .clr x,ps=>Xd ps x
theorem Zmr (s:Stp)(ps:ZH):lk (foS s ps)=s.ap (lk ps):=by
 cases s with
 | set x v=>funext y;show lk (Xt ps x v) y=if y=x then some v else lk ps y;rw [ZeO]
 | clr x=>funext y;show lk (Xd ps x) y=if y=x then none else lk ps y;rw [ZbI]
def foK (pls:List ZO)(ps:ZH)(j:Nat):List (Str×V):=foS (pls.getD (j - 1) ⟨0,.clr "",0,0⟩).st ps
theorem Zhy {pls:List ZO}(hw:WfP pls){k:Nat}{q:ZO}{F:Str->Option V}(hq:pls[k]?=some q)(hF:(envs pls)[q.ah]?=some F):(envs pls)[k+1]?=some (q.st.ap F):=by
 revert hw hq hF
 induction pls using ZbN with
 | h0=>intro _ h _;simp at h
 | hs l a ih =>
  intro hw hq hF
  have hwl:WfP l:=fun j p e=>hw j p (by rw [getElem?_append_left (List.getElem?_eq_some_iff.mp e).1];exact e)
  have hqk:=hw k q hq
  by_cases h:k < l.length
  ·rw [getElem?_append_left h] at hq
   rw [Xy,getElem?_append_left (by rw [YW];omega)] at hF
   rw [Xy,getElem?_append_left (by rw [YW];omega)]
   exact ih hwl hq hF
  ·rw [getElem?_append_right (by omega)] at hq
   have hz:k - l.length=0:=by
    cases z:k - l.length with
    | zero=>rfl
    | succ j=>rw [z] at hq;simp at hq
   rw [hz] at hq
   cases (show some a=some q from hq)
   rw [Xy,getElem?_append_left (by rw [YW];omega)] at hF
   rw [Xy,getElem?_append_right (by rw [YW];omega),YW,show k+1 - (l.length+1)=0 by omega,getD_eq_getElem?_getD,hF]
   rfl
theorem ZjV {pls:List ZO}(hw:WfP pls){k:Nat}{q:ZO}(hq:pls[k]?=some q):rd pls (k+1)=rd pls q.ah++[k+1]:=by
 have hk:=(List.getElem?_eq_some_iff.mp hq).1
 have hqk:=hw k q hq
 unfold rd
 show ((k+1)::bk pls (k+1) (pls.getD k ⟨0,.clr "",0,0⟩).ah).reverse=_
 rw [getD_eq_getElem?_getD,hq]
 show ((k+1)::bk pls (k+1) q.ah).reverse=_
 rw [List.reverse_cons,Zfa hw q.ah (by omega) (k+1) (by omega)]
theorem Zkb (pls:List ZO)(k:Nat):rd pls k≠[]:=fun z=>by
 have h9:=congrArg List.length z
 unfold rd at h9
 rw [length_reverse] at h9
 cases k<;>simp [bk] at h9
theorem env0 (pls:List ZO):(envs pls)[0]?=some fun _=>none:=by
 induction pls using ZbN with
 | h0=>rfl
 | hs l a ih=>rw [Xy,getElem?_append_left (by rw [YW];omega)];exact ih
theorem ZkG {pls:List ZO}(hw:WfP pls):∀ k,k<=pls.length->(envs pls)[k]?=some (lk ((rd pls k).tail.foldl (foK pls) [])):=by
 intro k
 induction k using Nat.strongRecOn with
 | ind k ih =>
  intro hk
  cases k with
  | zero =>
   exact env0 pls
  | succ k =>
   have hq:=getElem?_eq_getElem (show k < pls.length by omega)
   have hqk:=hw k _ hq
   have e:=ih pls[k].ah (by omega) (by omega)
   rw [Zhy hw hq e,ZjV hw hq]
   obtain ⟨r0,rt,er⟩:=List.exists_cons_of_ne_nil (Zkb pls pls[k].ah)
   rw [er]
   show some _=some (lk ((rt++[k+1]).foldl (foK pls) []))
   rw [foldl_append]
   show some (pls[k].st.ap (lk (rt.foldl (foK pls) [])))=some (lk (foS (pls.getD k ⟨0,.clr "",0,0⟩).st (rt.foldl (foK pls) [])))
   rw [Zmr,getD_eq_getElem?_getD,hq];rfl
def HeldOk (NS:List Str)(ps:ZH):Prop:=(ps.map (·.1)).Nodup/\∀ p∈ps,p.1∈NS/\Xa p.2
theorem HeldOk.few {NS:List Str}{ps:ZH}(h:HeldOk NS ps):ps.length<=NS.length:=by
 have:=XM h.1 (N:=NS) fun x hx=>by obtain ⟨p,hp,rfl⟩:=mem_map.mp hx;exact (h.2 p hp).1
 rwa [length_map] at this
theorem HeldOk.nv {NS:List Str}{ps:ZH}(h:HeldOk NS ps)(x:Str):NvV ((lk ps x).getD .non):=by
 cases e:lk ps x with
 | none=>exact .inl rfl
 | some v=>exact .inr (h.2 _ ((YN h.1).mp e)).2
theorem ZiD {ps:ZH}{x:Str}{v:V}{p:Str×V}(h:p∈Xt ps x v):p=(x,v)\/p∈ps:=by
 unfold Xt at h
 split at h
 ·obtain ⟨r,hr,e⟩:=mem_map.mp h
  split at e
  ·rename_i z;rw [<- e,z];exact .inl rfl
  ·rw [<- e];exact .inr hr
 ·rcases mem_append.mp h with h | h
  ·exact .inr h
  ·exact .inl (mem_singleton.mp h)
theorem HeldOk.put {NS:List Str}{ps:ZH}{x:Str}{v:V}(h:HeldOk NS ps)(hx:x∈NS)(hv:Xa v):HeldOk NS (Xt ps x v):=by
 refine ⟨?_,fun p hp=>?_⟩
 ·rw [ZcE]
  by_cases z:x∈ps.map (·.1)
  ·rw [if_pos z];exact h.1
  ·rw [if_neg z,nodup_append]
   exact ⟨h.1,by simp,fun a ha b hb e=>z (by rw [mem_singleton.mp hb] at e;rw [<- e];exact ha)⟩
 ·rcases ZiD hp with rfl | z
  ·exact ⟨hx,hv⟩
  ·exact h.2 p z
theorem HeldOk.but {NS:List Str}{ps:ZH}{x:Str}(h:HeldOk NS ps):HeldOk NS (Xd ps x):=by
 have hs:(Xd ps x).Sublist ps:=List.filter_sublist
 exact ⟨h.1.sublist (hs.map (·.1)),fun p hp=>h.2 p (hs.subset hp)⟩
theorem ZjT (ps:ZH)(x:Str):Vf (ps.map kP) (Sum.inr x)=(Xd ps x).map kP:=by
 unfold Vf Xd
 rw [List.filter_map]
 congr 1
 apply List.filter_congr
 intro p _
 show _=!decide (p.1=x)
 by_cases z:p.1=x
 ·simp [kP,z]
 ·simp [kP,z]
theorem ZjP {ps:ZH}{x:Str}(h:lk ps x=none):Xd ps x=ps:=by
 unfold Xd
 rw [List.filter_eq_self]
 intro p hp
 have:p.1≠x:=fun z=>by
  have h2:∀ {l:ZH},(∃ p∈l,p.1=x)->lk l x≠none:=by
   intro l
   induction l with
   | nil=>rintro ⟨_,h,_⟩;cases h
   | cons a l ih =>
    rintro ⟨p,hp,e⟩
    rw [WS]
    by_cases z:a.1=x
    ·rw [if_pos z];intro y;cases y
    ·rw [if_neg z]
     rcases mem_cons.mp hp with y | y
     ·rw [y] at e;exact absurd e z
     ·exact ih ⟨p,y,e⟩
  exact h2 ⟨p,hp,z⟩ h
 simp [this]
section
variable {P:Program}{w:World}{K:KF}{mg:Str->Option Value}{base:Heap}{CR CS Pl:Addr}
theorem ZiR (xs:List V):VU xs (some 1) none=xs.tail:=by
 unfold VU
 rw [show (1:Int)=((1:Nat):Int) from rfl,HT.sIx_nat]
 show (xs.drop (min 1 xs.length)).take (xs.length - min 1 xs.length)=xs.tail
 cases xs with
 | nil=>rfl
 | cons x r=>rw [Nat.min_eq_left (by rw [length_cons];omega)];show r.take (r.length+1 - 1)=r;rw [Nat.add_sub_cancel,take_of_length_le (Nat.le_refl _)]
theorem Zny {pls:List ZO}(hw:WfP pls):∀ k,k<=pls.length->∀ j∈(rd pls k).tail,∃ m q,j=m+1/\pls[m]?=some q:=by
 intro k
 induction k using Nat.strongRecOn with
 | ind k ih =>
  intro hk j hj
  cases k with
  | zero=>simp [rd,bk] at hj
  | succ k =>
   have hq:=getElem?_eq_getElem (show k < pls.length by omega)
   have hqk:=hw k _ hq
   rw [ZjV hw hq] at hj
   obtain ⟨r0,rt,er⟩:=List.exists_cons_of_ne_nil (Zkb pls pls[k].ah)
   rw [er] at hj
   rcases mem_append.mp (show j∈rt++[k+1] from hj) with z | z
   ·exact ih pls[k].ah (by omega) (by omega) j (by rw [er];exact z)
   ·exact ⟨k,_,mem_singleton.mp z,hq⟩
theorem Znl {NS:List Str}{s:Stp}{ps:ZH}(h:HeldOk NS ps)(hs:s.ok NS):HeldOk NS (foS s ps):=by
 cases s with
 | set x v=>exact h.put hs.1 hs.2
 | clr x=>exact h.but
def ZjZ:Sp:=fun vs H Q _=>∃(sl:Addr)(pls:List ZO)(k:Nat)(NS:List Str)(Δ:Rs),vs=[.ref sl,.int (k:Int)]/\Sep ((sl,StopL pls)::Δ) H/\WfP pls/\k<=pls.length/\pls.length<=500/\(∀ q∈pls,q.st.ok NS)/\NS.length<=50 /\
 ∀ (d:Addr) (H':Hp) (ps:ZH),Sep ((d,Dic (ps.map kP))::(sl,StopL pls)::Δ) H'->HeldOk NS ps->(envs pls)[k]?=some (lk ps)->Q (.ref d) H'
abbrev nLl:List Str:=["_law_stops","_law_place","_law_found","_law_spot","_law_step_here"]
abbrev ZiP:List Str:=["_law_stops","_law_place"]
theorem scLl:Zp nLl ZiP (Zj s_l_all):=⟨rfl,rfl,rfl,by decide +kernel,rfl,by decide +kernel,by decide +kernel⟩
theorem Zmf {f:Addr}{fd:FuncData}(F:Fun K "_law_all" "_law_all" s_l_all f fd)(T:Yz mg)(DRo:Def P w K mg base 4 "_law_road" ZiN ZeX):FnOk P w K mg base ZL 5 f fd ZiP ZjZ:=by
 refine F.ok scLl (fun vs H Q E h=>?_) (fun cdv A outer s H vs Q E hr h=>?_)
 ·obtain ⟨sl,pls,k,NS,Δ,rfl,_⟩:=h;rfl
 obtain ⟨sl,pls,k,NS,Δ,rfl,S,hw,hk,hpl,hok,hNl,q⟩:=h
 refine' ⟨?t,?h,?r⟩
 case h =>
  conv=>arg 2;whnf
  with_reducible refine' (Zc ?h1 (Zc (Xi ?h2 ?h3 ?h4 ?h5 (Zc ?h6 (Zh (Yk ?h7 (Zh ?h8) (Zh ?h9)))) ?h10) (Zh ?h11)))
  case h1=>exact Zt (i:=2) scLl.nd rfl (Or.inl rfl) ZjG
  case h2=>exact PassesOwn.never
  case h3=>exact rfl
  case h4=>exact XI (Wu ZbM (Zu DRo hr (Zb (pv 0) (Zb (pv 1) Za))) (Ws Ze) XU)
  case h5=>exact ZN (i:=3) scLl.nd rfl (Or.inl rfl)
  case h6=>exact Zt (i:=4) scLl.nd rfl (Or.inl rfl) (Zq Ye (Zq ZA (pv 0) (pv 3) (fun _ _=>rfl)) Ze (fun _ _=>rfl))
  case h7=>exact ZX YA (Zq Ye (pv 4) Ze (fun _ _=>rfl)) ZS (ZM _)
  case h8=>exact ZbB (Wy hr) (pv 2) (Zq Ye (pv 4) Ze (fun _ _=>rfl)) (Zq Ye (pv 4) Ze (fun _ _=>rfl)) rfl
  case h9=>exact Yi (ZjD (pv 2) (Zq Ye (pv 4) Ze (fun _ _=>rfl)) VP ⟨rfl,rfl,rfl,rfl⟩)
  case h10=>exact fun _=>rfl
  case h11=>exact Zm (pv 2)
 refine fun d hd=>?_
 generalize hE:upd H d _=H1
 have S1:=S.newE hd hE
 clear hE
 refine ⟨_,rfl,_,rfl,sl,pls,k,rfl,S1.get sl,hw,hk,by omega,fun l H2 s2 hl2 el2=>?_⟩
 have S2:=S1.mono s2
 refine ⟨_,rfl,l,_,rfl,SqL.of el2,fun l3 hl3=>⟨l3,rfl,⟨_,SqL.of Zg⟩,?_⟩⟩
 rw [ZiR]
 generalize hE:upd H2 l3 _=H3
 have S3:=S2.newE hl3 hE
 clear hE
 have hlen:(rd pls k).tail.length<=501:=by
  rw [List.length_tail]
  unfold rd
  rw [length_reverse]
  have:=ZhD pls (k+1) k;omega
 refine Wl (K:=K) (xs:=(rd pls k).tail.map nV) (fun i σ H'=>∃ x3 x4,σ=[some (.ref sl),some (.int (k:Int)),some (.ref d),x3,x4]/\Sep ((d,Dic ((((rd pls k).tail.take i).foldl (foK pls) []).map kP))::(sl,StopL pls)::(l3,ZD ((rd pls k).tail.map nV))::Δ) H'/\HeldOk NS (((rd pls k).tail.take i).foldl (foK pls) [])) ⟨_,_,rfl,?_,nodup_nil,fun _ h=>nomatch h⟩ (fun i σ H' _ h=>?_) ?_ ?_
 ·have S4:Sep ((l3,ZD ((rd pls k).tail.map nV))::(d,Dic [])::(sl,StopL pls)::Δ) H3:=by rw [List.map_tail];exact S3
  exact (S4.pull sl).pull d
 ·obtain ⟨_,_,_,S',_⟩:=h;exact SqL.of (S'.get l3)
 ·rintro i v σ H4 hv ⟨x3,x4,rfl,S4,hh⟩
  rw [getElem?_map] at hv
  cases hj:(rd pls k).tail[i]? with
  | none=>rw [hj] at hv;cases hv
  | some j =>
   rw [hj] at hv
   cases (show some (nV j)=some v from hv)
   obtain ⟨m,q9,rfl,hq9⟩:=Zny hw k hk j (mem_of_getElem? hj)
   have hm:=(List.getElem?_eq_some_iff.mp hq9).1
   obtain ⟨xs,a,y,z,esl,hxa,ea,_,⟨b,s9,rfl,hs9,eb⟩,_⟩:=StopL.at (S4.get sl) (show m+1<=pls.length by omega)
   rw [getElem?_map,hq9] at hs9
   cases (show some q9.st=some s9 from hs9)
   have hsok:=hok q9 (mem_of_getElem? hq9)
   have hfo:((rd pls k).tail.take (i+1)).foldl (foK pls) []=foS q9.st (((rd pls k).tail.take i).foldl (foK pls) []):=by
    rw [take_succ,hj,foldl_append]
    show foS (pls.getD m ⟨0,.clr "",0,0⟩).st _=_
    rw [getD_eq_getElem?_getD,hq9];rfl
   rw [hfo]
   generalize ((rd pls k).tail.take i).foldl (foK pls) []=ps at *
   have hps:ps.length<=50:=by have:=hh.few;omega
   refine ⟨_,rfl,_,rfl,sl,_,_,_,rfl,rfl,SqL.of esl,Zw hxa,a,_,_,_,rfl,rfl,SqT.of ea,rfl,?_⟩
   have hok2:=Znl hh hsok
   generalize hst:q9.st=s9 at *
   have ed:=S4.get d
   cases s9 with
   | set x v =>
    refine ⟨_,rfl,b,_,_,_,rfl,rfl,SqT.of eb,Zw (j:=0) rfl,rfl,_,rfl,?_⟩
    rw [decide_eq_true rfl]
    refine Yh ⟨_,rfl,b,_,_,_,rfl,rfl,SqT.of eb,Zw (j:=2) rfl,_,rfl,_,rfl,b,_,_,_,rfl,rfl,SqT.of eb,Zw (j:=1) rfl,d,_,rfl,DPut.k (k:=Sum.inr x) ed (YX (show _<=1000 by rw [length_map];omega)),?_⟩
    generalize hE:upd H4 d _=H5
    have S5:=S4.putE hE
    clear hE
    rw [show YK (ps.map kP) (Sum.inr x) v=(Xt ps x v).map kP from Zal ps x v] at S5
    exact ⟨_,_,rfl,S5,hok2⟩
   | clr x =>
    refine ⟨_,rfl,b,_,_,_,rfl,rfl,SqT.of eb,Zw (j:=0) rfl,rfl,_,rfl,?_⟩
    rw [show decide (V.str "clear"=V.str (Str.ofString "set"))=false by decide +kernel]
    refine ZP ⟨_,rfl,d,rfl,.inl ⟨_,.inl ed⟩,_,rfl,b,_,_,_,rfl,rfl,SqT.of eb,Zw (j:=1) rfl,_,Sum.inr x,ed,rfl,fun v ev=>?_,fun ev=>?_⟩
    ·generalize hE:upd H4 d _=H5
     have S5:=S4.putE hE
     clear hE
     rw [ZjT] at S5
     exact ⟨_,_,rfl,S5,hok2⟩
    ·have e9:foS (.clr x) ps=ps:=ZjP (show lk ps x=none from ev)
     rw [e9]
     exact ⟨_,_,rfl,S4,hh⟩
 ·rintro σ H4 ⟨x3,x4,rfl,S4,hh⟩
  rw [length_map,take_of_length_le (Nat.le_refl _)] at S4 hh
  exact ⟨_,rfl,q d H4 _ (S4.drop l3) hh (ZkG hw k hk)⟩
end
end K22
namespace L2
open PySem PySem.W PySem.Spec PyProof.Rows
section
variable {prog:Program}{w:World}{A:Around}{E:ZB}{s:Shared}
theorem ZaT:typeLookup (.type "list") "keys"=pure none:=am_miss_of_fast (by decide +kernel)
theorem ZfH {a:Addr}{xs:Array Value}{k:Nat}{sl:Array (Option Value)}{Q:Option Value->Shared->Prop}(hx:s.heap.get? a=some { cls:=.type "list",dict:=none,data:=.seq xs k,slots:=sl })(hA:A.handled=none)
 (h:∀ h' tk,(∀ b o,s.heap.get? b=some o->h'.get? b=some o)->Q none { s with heap:=h',toks:=tk }):wpAny (model prog w) A (getAttr? (.ref a) "keys") Q E s:=by
 obtain ⟨hp,g,d,tk,os⟩:=s
 have hT:∀ tk',(⟨hp,g,d,tk',os⟩:Shared).TypeIs (.ref a) "list":=fun _=>⟨_,hx,rfl⟩
 have f1:=sub_AttributeError
 have f3:=F.slot_list_getattribute.lookup
 have f4:=F.slot_list_getattribute.bind (.ref a)
 have f5:=am_list_getattr_none
 unfold getAttr? getAttrBy? getAttrBy
 repeat (any_goals first | assumption | exact hT _ | ((with_reducible show wpAny _ _ (call (Value.builtin "list.__getattribute__") _ _) _ _ _);refine call_meets F.slot_list_getattribute (hT _) am_entry_list_getattribute (F.args_list_getattribute_2 _ _) (meets_getattribute_miss_list a xs k sl "keys" _ ZaT (by decide) (by decide)) ⟨hx,hA,fun h' tk' e hx'=>?_⟩) | wp_step)
 obtain ⟨t',u',he⟩:=hx'.there
 show wpAny _ _ (getattributeRaised _ _ _ _ _ _ _) _ _ _
 unfold getattributeRaised
 repeat (any_goals first | assumption | wp_step)
 all_goals exact h _ _ hx'.keeps
end
section
variable {prog:Program}{w:World}{A:Around}{R:Result->Shared->Prop}
theorem ZgH {d I t:Addr}{its:Array Value}(ps:List (Zk×Value))(hlen:ps.length=its.size)(hnd:(ps.map (·.1)).Nodup)(hsz:ps.length<=sizeLine)(hh:A.handled=none)(hIt:I≠t)(hId:I≠d) :
 ∀ (k i:Nat) (s:Shared) (n:Int) (tk:Tok),ps.length - i=k->i<=ps.length->s.heap.IsListIter I t i->s.heap.IsList t its->(∀ (j:Nat) (v:Value) (p:Zk×Value),its[j]?=some v->ps[j]?=some p->PairAt prog w s.heap v p)->s.heap.DictOf (Zl prog w) d (ps.take i) ->
 (∀ h' tk',(∀ b o,b≠I->b≠d->s.heap.get? b=some o->h'.get? b=some o)->h'.DictOf (Zl prog w) d ps->R (.ok (.ret .none)) { s with heap:=h',toks:=tk' }) ->
 codeAny (model prog w) A (.builtin "dict.update.loop" ⟨[.ref d,.ref I,.int n tk,.none],[]⟩) R s:=by
 have W:=Walks.list (prog:=prog) (w:=w) (A:=A.in1) hh I t hIt.symm its
 intro k
 induction k with
 | zero =>
  intro i s n tk hk hi hit htp hpr hd hR
  have hin:i=its.size:=by omega
  refine codeAny_builtin XN ?_
  rw [Around.under_plainId Yu _]
  show wpAny _ A.in1 (pyNext (.ref I) >>= _) _ _ s
  refine wpAny_bind (W.done s _ _ ⟨by rw [<- hin];exact hit,htp⟩ fun h' tk' kk=>?_)
  show wpAny _ _ (Builtin.Dict.addKeywords d [] >>= _) _ _ _
  refine wpAny_bind (wpAny_pure (wpAny_pure (hR h' tk' (fun b o h1 _ y=>kk b o (by simpa using h1) y) ?_)))
  rw [take_of_length_le (by omega)] at hd
  obtain ⟨o,es,ep,eo,r⟩:=hd
  exact ⟨o,es,ep,kk d o (by simpa using hId.symm) eo,r⟩
 | succ k ih =>
  intro i s n tk hk hi hit htp hpr hd hR
  have hlt:i < its.size:=by omega
  refine codeAny_builtin XN ?_
  rw [Around.under_plainId Yu _]
  show wpAny _ A.in1 (pyNext (.ref I) >>= _) _ _ s
  refine wpAny_bind (W.item i s _ _ hlt ⟨hit,htp⟩ fun v h1 tk1 hv st1 kk=>?_)
  obtain ⟨hit1,htp1⟩:=st1
  have hI0:∃ o,s.heap.get? I=some o/\o.cls≠.type "tuple":=by
   obtain ⟨o,eo,c,_⟩:=hit
   exact ⟨o,eo,by rw [c];decide⟩
  have hpr1:∀ (j:Nat) (v:Value) (p:Zk×Value),its[j]?=some v->ps[j]?=some p->PairAt prog w h1 v p:=fun j v p a b=>by
   obtain ⟨o,eo,c⟩:=hI0
   exact (hpr j v p a b).but eo c fun b o hb y=>kk b o (by simpa using hb) y
  obtain ⟨p,hp⟩:∃ p,ps[i]?=some p:=⟨_,getElem?_eq_getElem (by omega)⟩
  have hv':its[i]?=some v:=hv
  obtain ⟨tt,key,rfl,⟨ot,eo,oc,on,od⟩,hkey⟩:=hpr1 i v p hv' hp
  have hd1:h1.DictOf (Zl prog w) d (ps.take i):=by
   obtain ⟨o,es,ep,eo,r⟩:=hd
   exact ⟨o,es,ep,kk d o (by simpa using hId.symm) eo,r⟩
  have hT:Shared.TypeIs { s with heap:=h1,toks:=tk1 } (.ref tt) "tuple":=⟨ot,eo,oc⟩
  have hnew:stored (ps.take i) p.1 p.2=ps.take (i+1):=by
   have hni:p.1 ∉ (ps.take i).map (·.1):=fun z=>by
    have e1:(ps.map (·.1))=(ps.take i).map (·.1)++(ps.drop i).map (·.1):=by rw [<- map_append,List.take_append_drop]
    rw [e1,nodup_append] at hnd
    refine hnd.2.2 _ z _ (mem_map.mpr ⟨p,?_,rfl⟩) rfl
    exact mem_of_getElem? (i:=0) (by rw [List.getElem?_drop];simpa using hp)
   unfold stored
   rw [if_neg,take_add_one,hp]
   ·rfl
   ·intro z
    obtain ⟨q,hq,e⟩:=List.any_eq_true.mp z
    exact hni (mem_map.mpr ⟨q,hq,by simpa using e⟩)
  show wpAny _ A.in1 (holding [.ref tt] _ >>= _) _ _ _
  refine wpAny_bind (wpAny_holding ?_)
  refine wpAny_bind (wpAny_tryCatch ?_)
  unfold Builtin.Dict.pairItems
  refine wpAny_bind (wpAny_typeOf hT ?_)
  rw [if_pos (by decide)]
  refine wpAny_bind (wpAny_seqItems eo od (wpAny_pure ?_))
  show wpAny _ _ (holding [key,p.2] (dictSet d key p.2)) _ _ _
  refine wpAny_holding (wpAny_dictSet_pairs hkey hd1 (fun h2 hd2 hs2=>?_) (Nat.le_trans (by rw [length_take];omega) hsz))
  rw [hnew] at hd2
  refine wpAny_pure ⟨plainId_quiet Yu _,ih (i+1) _ (n+1) _ (by omega) (by omega) ?_ ?_ ?_ hd2 ?_⟩
  ·obtain ⟨o,eo',r⟩:=hit1
   exact ⟨o,(hs2.2 I hId).trans eo',r⟩
  ·obtain ⟨o,eo',r⟩:=htp1
   refine ⟨o,(hs2.2 t (fun z=>?_)).trans eo',r⟩
   obtain ⟨o',es,ep,eo2,c2,_⟩:=hd1
   rw [z,eo2] at eo'
   cases eo'
   rw [c2.1] at r
   exact absurd r.1 (by decide)
  ·intro j v p a b
   obtain ⟨o',es,ep,eo2,c2,_⟩:=hd1
   exact (hpr1 j v p a b).but eo2 (by rw [c2.1];decide) fun b o hb y=>(hs2.2 b hb).trans y
  ·intro h3 tk3 k3 hd3
   exact hR h3 tk3 (fun b o h4 h5 y=>k3 b o h4 h5 ((hs2.2 b h5).trans (kk b o (by simpa using h4) y))) hd3
end
section
variable {prog:Program}{w:World}{A:Around}{E:ZB}{s:Shared}
theorem ZbD {t:Addr}{its:Array Value}{Q:ZB}(ps:List (Zk×Value))(ht:s.heap.IsList t its)(hnd0:∃ o,s.heap.get? t=some o/\o.dict=none)(hlen:ps.length=its.size)(hnd:(ps.map (·.1)).Nodup)(hsz:ps.length<=sizeLine)(hh:A.handled=none)
 (hpr:∀ (j:Nat) (v:Value) (p:Zk×Value),its[j]?=some v->ps[j]?=some p->PairAt prog w s.heap v p)
 (h:∀ h' tk',(∀ b o,s.heap.get? b=some o->h'.get? b=some o)->h'.DictOf (Zl prog w) s.heap.objs.size ps->Q (.ref s.heap.objs.size) { s with heap:=h',toks:=tk' }) :
 wpAny (model prog w) A (call (.type "dict") [.ref t]) Q E s:=by
 refine callType_codes (Q₁:=fun obj s₁=>obj=.ref s.heap.objs.size/\s₁={ s with heap:=s.heap.push { cls:=.type "dict",data:=.dict #[] } }) F.kt_called_dict (F.kt_typeCall_dict_1 _) F.entry_dict_init (kt_code_dict_new _ ⟨rfl,rfl⟩) ?_
 rintro obj s₁ ⟨rfl,rfl⟩
 have hnew:(s.heap.push { cls:=.type "dict",data:=.dict #[] }).DictOf (Zl prog w) s.heap.objs.size []:=Heap.DictOf.new s.heap
 have tlt:t < s.heap.objs.size:=by obtain ⟨o,eo,_⟩:=ht;exact Heap.lt_size eo
 obtain ⟨ot,eot,oct,on,odt⟩:=id ht
 obtain ⟨o2,eo2,hdict⟩:=hnd0
 rw [eot] at eo2
 cases eo2
 refine ⟨hnew.typeIs,F.args_dict_init_2 _ _,?_⟩
 unfold Builtin.«dict.__init__»
 refine wpAny_bind ?_
 unfold Builtin.Dict.selfAndRest
 refine wpAny_bind (wpAny_notOrdered_dict hnew.typeIs ?_)
 show wpAny _ _ (pure (s.heap.objs.size,[Value.ref t])) _ _ _
 refine wpAny_pure ?_
 show wpAny _ _ (Builtin.Dict.updateFrom "dict.__init__" s.heap.objs.size (.ref t) [] .none) _ _ _
 unfold Builtin.Dict.updateFrom
 have hT:Shared.TypeIs { s with heap:=s.heap.push { cls:=.type "dict",data:=.dict #[] } } (.ref t) "list":=⟨ot,Heap.get?_push_of_some _ eot,oct⟩
 refine wpAny_bind (wpAny_typeOf hT ?_)
 rw [if_pos (by decide)]
 obtain ⟨c0,d0,dt0,sl0⟩:=ot
 have e1:c0=.type "list":=oct
 have e2:d0=none:=hdict
 have e3:dt0=.seq its on:=odt
 subst e1 e2 e3
 refine wpAny_bind (ZfH (s:={ s with heap:=s.heap.push { cls:=.type "dict",data:=.dict #[] } }) (Heap.get?_push_of_some _ eot) hh fun h1 tk1 k1=>?_)
 rw [if_pos (show (none:Option Value).isNone=true from rfl)]
 have et1:=k1 _ _ (Heap.get?_push_of_some { cls:=.type "dict",data:=.dict #[] } eot)
 have hd1:h1.DictOf (Zl prog w) s.heap.objs.size []:=by
  obtain ⟨o,es,ep,eo,r⟩:=hnew
  exact ⟨o,es,ep,k1 _ _ eo,r⟩
 have dlt:s.heap.objs.size < h1.objs.size:=by obtain ⟨o,es,ep,eo,r⟩:=hd1;exact Heap.lt_size eo
 refine wpAny_bind (wpAny_rule (wpAny_bind (wpAny_pyIter_list (items:=its) ⟨_,et1,rfl,on,rfl⟩ ?_)))
 refine wpAny_pure ⟨plainId_quiet Yu _,ZgH (A:=A.in1) ps hlen hnd hsz hh (Nat.ne_of_gt (Heap.lt_size et1)) (Nat.ne_of_gt dlt) ps.length 0 _ 0 _ (by omega) (Nat.zero_le _) ⟨_,Heap.get?_push_size _ rfl,rfl,rfl⟩ ⟨_,Heap.get?_push_of_some _ et1,rfl,on,rfl⟩ ?_ ?_ ?_⟩
 ·intro j v p a b
  exact (hpr j v p a b).keep fun b o y=>Heap.get?_push_of_some _ (k1 _ _ (Heap.get?_push_of_some _ y))
 ·obtain ⟨o,es,ep,eo,r⟩:=hd1
  exact ⟨o,es,ep,Heap.get?_push_of_some _ eo,r⟩
 ·intro h' tk' k3 hd3
  refine ⟨rfl,h h' tk' (fun b o y=>?_) hd3⟩
  have y1:=k1 _ _ (Heap.get?_push_of_some { cls:=.type "dict",data:=.dict #[] } y)
  exact k3 b o (Nat.ne_of_lt (Heap.lt_size y1)) (Nat.ne_of_lt (Heap.lt_size y)) (Heap.get?_push_of_some _ y1)
end
section
variable {X:Cx}
theorem Uq (hc:X.calm=true):Yw X (.type "dict") (fun xs H Q=>∃ (t:Addr) (ts:List Addr) (kvs:ZH),xs=[.ref t]/\H t=some (.lst (ts.map V.ref))/\ts.length=kvs.length/\kvs.length<=1000 /\
   (∀ (i:Nat) (a:Addr) (p:Str×V),ts[i]?=some a->kvs[i]?=some p->H a=some (.tup [.str p.1,p.2]))/\(kvs.map (·.1)).Nodup/\∀ d,H d=none->Q (.ref d) (upd H d (.dK (kvs.map fun p=>(Sum.inr p.1,p.2))))):=by
 intro pins s σ H xs us Q I r h
 obtain ⟨t,ts,kvs,rfl,hq0,hlen,hsz,hp,hnd,q⟩:=h
 obtain ⟨u,rfl,ru⟩:=Yx r
 cases ru
 obtain ⟨hz,its,n0,rv,hl0,eo0⟩:=I.lstM hq0
 have hits:=ZaJ rv
 subst hits
 have build:∀ (kvs:ZH) (ts:List Addr),ts.length=kvs.length->(∀ (i:Nat) (a:Addr) (p:Str×V),ts[i]?=some a->kvs[i]?=some p->H a=some (.tup [.str p.1,p.2])) ->
     ∃ ps:List (Zk×Value),KV (kvs.map fun p=>((Sum.inr p.1:Zk),p.2)) ps/\ps.length=kvs.length/\ps.map (·.1)=kvs.map (fun p=>(Sum.inr p.1:Zk))/\∀ (j:Nat) (v:Value) (p:Zk×Value),(ts.map Value.ref)[j]?=some v->ps[j]?=some p->PairAt X.prog X.w s.heap v p:=by
   intro kvs
   induction kvs with
   | nil=>intro ts _ _;exact ⟨[],.nil,rfl,rfl,fun j v p _ e=>by simp at e⟩
   | cons kv r ih =>
     intro ts hl hh
     cases ts with
     | nil=>simp at hl
     | cons a ar =>
       obtain ⟨ps,k1,k2,k3,k4⟩:=ih ar (by simpa using hl) fun i b p e1 e2=>hh (i+1) b p (by simpa using e1) (by simpa using e2)
       obtain ⟨_,itv,rv',pa⟩:=(show ObjOk X.prog X.w H s.heap a (.tup [.str kv.1,kv.2]) from I.hok a _ (hh 0 a kv rfl rfl))
       cases rv' with
       | cons r1 rr =>
         cases rr with
         | cons r2 rr =>
           cases rr
           obtain ⟨tk,e⟩:=r1
           subst e
           rename_i u2
           refine ⟨(Sum.inr kv.1,u2)::ps,.cons ⟨rfl,r2⟩ k1,by rw [length_cons,length_cons,k2],by rw [map_cons,map_cons,k3],fun j v p e1 e2=>?_⟩
           cases j with
           | zero =>
             cases (show some (Value.ref a)=some v from e1)
             cases (show some ((Sum.inr kv.1:Zk),u2)=some p from e2)
             exact ⟨a,.str kv.1 tk,rfl,pa,UE _ _ _ _⟩
           | succ j=>exact k4 j v p (by simpa using e1) (by simpa using e2)
 obtain ⟨ps,k1,k2,k3,k4⟩:=build kvs ts hlen hp
 have hnd2:(ps.map (·.1)).Nodup:=by
   rw [k3]
   have:kvs.map (fun p=>(Sum.inr p.1:Zk))=(kvs.map (·.1)).map Sum.inr:=by rw [map_map];rfl
   rw [this]
   rw [List.Nodup,pairwise_map]
   exact hnd.imp fun h e=>h (by cases e;rfl)
 refine ZbD ps ⟨_,eo0,rfl,n0,rfl⟩ ⟨_,eo0,rfl⟩ (by rw [k2,size_toArray,length_map,hlen]) hnd2 (by rw [k2];exact ZbY hsz) (I.ok.hd hc) (fun j v p e1 e2=>k4 j v p (by simpa using e1) e2) fun h' tk' kk hd=>?_
 have hbig:=I.big
 refine ⟨.ref s.heap.objs.size,_,I.laid (t':=tk') kk (Nat.le_refl _) (show ObjOk X.prog X.w _ h' _ (.dK (kvs.map fun p=>((Sum.inr p.1:Zk),p.2))) from ⟨by rw [length_map];exact ZbY hsz,?_,ps,k1,hd⟩),rfl,q _ (I.hok.fresh (Nat.le_refl _))⟩
 exact beq_eq_false_iff_ne.mpr (Nat.ne_of_gt hbig)
end
end L2
namespace L2
open PySem PySem.Spec PyProof.Rows
section
variable {prog:Program}{w:World}{A:Around}{E:ZB}{s:Shared}
theorem Zaf {i t:Addr}{k:Nat}{its:Array Value}{x:Value}{Q:ZB}(hi:s.heap.IsTupleIter i t k)(ht:s.heap.IsTuple t its)(hx:its[k]?=some x)
 (q:∀ h',h'.IsTupleIter i t (k+1)->Heap.SameBut i s.heap h'->Q x { s with heap:=h' }):wpAny (model prog w) A (Builtin.SmallTypes.nextOf (.ref i)) Q E s:=by
 obtain ⟨o,eo,oc,od⟩:=id hi
 obtain ⟨u,eu,_,n,du⟩:=ht
 unfold Builtin.SmallTypes.nextOf
 refine wpAny_bind (wpAny_callSpecial?_slot (name:=Str.ofString "__next__") hi.typeIs F.slot_tuple_iterator_next (wpAny_call_entry F.slot_tuple_iterator_next hi.typeIs F.entry_tuple_iterator_next ?_ (F.args_tuple_iterator_next_1 _)))
 refine wpAny_bind (m:=field (.ref i) 0) (wpAny_field eo od (x:=.ref t) rfl ?_)
 show wpAny _ _ (if (Value.ref t == Value.none)=true then _ else _) _ _ s
 rw [if_neg (by exact Bool.false_ne_true)]
 refine wpAny_bind (m:=field (.ref i) 1) (wpAny_field eo od (x:=.int k 0) rfl ?_)
 refine wpAny_bind (m:=seqItems? (.ref t)) (wpAny_seqItems eu du ?_)
 simp only [Int.toNat_natCast,hx]
 exact wpAny_bind (wpAny_setField eo od (by simp) (wpAny_pure ⟨x,rfl,wpAny_pure (q _ ⟨_,Heap.get?_update_self _ eo (Obj.isFreed_of_fields (Obj.data_mapFields od _)),(Obj.cls_mapFields ..).trans oc,by rw [Obj.data_mapFields od];simp [rawInt]⟩ (Heap.SameBut.update ..))⟩))
theorem ZfV {i t:Addr}{k:Nat}{its:Array Value}{Q:ZB}(hh:A.handled=none)(hi:s.heap.IsTupleIter i t k)(ht:s.heap.IsTuple t its)(hx:its[k]?=none)
 (q:∀ h' e,Heap.ExtBut i s.heap h'->(∃ o,h'.get? e=some o/\o.cls=.type "StopIteration")->E (.ref e) { s with heap:=h' }):wpAny (model prog w) A (Builtin.SmallTypes.nextOf (.ref i)) Q E s:=by
 obtain ⟨o,eo,oc,od⟩:=id hi
 obtain ⟨u,eu,_,n,du⟩:=ht
 unfold Builtin.SmallTypes.nextOf
 refine wpAny_bind (wpAny_callSpecial?_slot (name:=Str.ofString "__next__") hi.typeIs F.slot_tuple_iterator_next (wpAny_call_entry F.slot_tuple_iterator_next hi.typeIs F.entry_tuple_iterator_next ?_ (F.args_tuple_iterator_next_1 _)))
 refine wpAny_bind (m:=field (.ref i) 0) (wpAny_field eo od (x:=.ref t) rfl ?_)
 show wpAny _ _ (if (Value.ref t == Value.none)=true then _ else _) _ _ s
 rw [if_neg (by exact Bool.false_ne_true)]
 refine wpAny_bind (m:=field (.ref i) 1) (wpAny_field eo od (x:=.int k 0) rfl ?_)
 refine wpAny_bind (m:=seqItems? (.ref t)) (wpAny_seqItems eu du ?_)
 simp only [Int.toNat_natCast,hx]
 refine wpAny_bind (wpAny_rule (wpAny_bind (wpAny_setField eo od (by simp) ?_)))
 refine wpAny_bind (m:=newExc (.type "StopIteration") []) ?_
 simp only [newExc,newTuple]
 refine wpAny_bind (wpAny_newObj_type ?_ (by size_fits))
 refine wpAny_bind (m:=firstArgMember _ _) (wpAny_of_eq (a:=Value.none) (by first | rfl | (simp only [firstArgMember];rfl)) ?_)
 refine wpAny_newObj_type ?_ (by size_fits)
 simp only [raiseNew]
 refine wpAny_bind (wpAny_handled ?_)
 first | rw [show A.in1.handled=none from hh] | rw [hh]
 exact wpAny_bind (wpAny_pure (wpAny_throw (q _ _ (((Heap.SameBut.update ..).extBut.push _).push _) ⟨_,Heap.get?_push_size _ rfl,rfl⟩)))
theorem Zjf {z TI TO i1 i2 l1 l2:Addr}{k:Nat}{xs ys:Array Value}{x y a b:Value}{Q:Option Value->Shared->Prop}(D:ZipApart z TI TO i1 i2 l1 l2)(hz:IsZip s.heap z TI TO .none)(hTI:IsPair s.heap TI (.ref i1) (.ref i2))(hTO:IsPair s.heap TO a b)
 (h1:s.heap.IsTupleIter i1 l1 k) (h2:s.heap.IsTupleIter i2 l2 k) (t1:s.heap.IsTuple l1 xs) (t2:s.heap.IsTuple l2 ys) (hx:xs[k]?=some x) (hy:ys[k]?=some y)
 (q:∀ h',IsZip h' z TI TO (rawInt s.heap.objs.size)->IsPair h' TO x y->h'.IsTupleIter i1 l1 (k+1)->h'.IsTupleIter i2 l2 (k+1)->IsPair h' s.heap.objs.size x y->h'.objs.size=s.heap.objs.size+1 ->
  (∀ c o,c≠z->c≠TO->c≠i1->c≠i2->s.heap.get? c=some o->h'.get? c=some o)->Q (some (.ref s.heap.objs.size)) { s with heap:=h' }):wpAny (model prog w) A (pyNext (.ref z)) Q E s:=by
 have hT:s.TypeIs (.ref z) "zip":=⟨_,hz,rfl⟩
 unfold pyNext
 refine wpAny_bind (wpAny_attempt (wpAny_callSpecial?_slot (name:=Str.ofString "__next__") hT F.slot_zip_next (wpAny_call_entry F.slot_zip_next hT F.entry_zip_next ?_ (F.args_zip_next_1 _))))
 refine wpAny_bind (m:=field (.ref z) 2) (wpAny_field hz rfl (x:=.bool false) rfl ?_)
 refine wpAny_bind (m:=field (.ref z) 3) (wpAny_field hz rfl (x:=.ref TI) rfl ?_)
 refine wpAny_bind (wpAny_seqItems hTI rfl ?_)
 refine wpAny_bind (m:=Builtin.SmallTypes.ownedTupleIsFree (.ref z)) ?_
 unfold Builtin.SmallTypes.ownedTupleIsFree
 refine wpAny_bind (wpAny_field hz rfl (x:=.none) rfl (wpAny_pure ?_))
 simp only [if_true]
 refine wpAny_bind (wpAny_rule ?_)
 refine wpAny_bind (wpAny_field hz rfl (x:=.ref TO) rfl ?_)
 refine wpAny_bind (wpAny_setField_rec hz (by simp) fun ha hza sa=>?_)
 replace hza:IsZip ha z TI TO .ellipsis:=hza
 refine wpAny_bind ?_
 simp only [List.zipIdx_cons,List.zipIdx_nil,List.forIn_cons,List.forIn_nil]
 have Ea:=sa.extBut
 refine wpAny_bind (wpAny_bind (wpAny_onRaise ?_))
 refine wpAny_bind (m:=Builtin.SmallTypes.nextOf (.ref i1)) (Zaf (h1.extBut Ea D.i1z) (t1.extBut Ea D.l1z) hx fun hb i1b sb=>wpAny_pure ?_)
 have Eb:=sb.extBut
 have TOb:IsPair hb TO a b:=Eb _ _ D.TOi1 (Ea _ _ D.TOz hTO)
 refine wpAny_bind (wpAny_seqItems TOb rfl ?_)
 refine wpAny_bind (wpAny_updateSeq_pair TOb fun hc TOc sc=>?_)
 replace TOc:IsPair hc TO x b:=TOc
 have Ec:=sc.extBut
 refine wpAny_bind (wpAny_letGo (wpAny_pure ?_))
 refine wpAny_bind (wpAny_bind (wpAny_onRaise ?_))
 refine wpAny_bind (m:=Builtin.SmallTypes.nextOf (.ref i2)) (Zaf (((h2.extBut Ea D.i2z).extBut Eb D.i12.symm).extBut Ec D.TOi2.symm) (((t2.extBut Ea D.l2z).extBut Eb D.l2i1).extBut Ec D.l2TO) hy fun hd i2d sd=>wpAny_pure ?_)
 have Ed:=sd.extBut
 have TOd:IsPair hd TO x b:=Ed _ _ D.TOi2 TOc
 refine wpAny_bind (wpAny_seqItems TOd rfl ?_)
 refine wpAny_bind (wpAny_updateSeq_pair TOd fun he TOe se=>?_)
 replace TOe:IsPair he TO x y:=TOe
 have Ee:=se.extBut
 refine wpAny_bind (wpAny_letGo (wpAny_pure (wpAny_pure ?_)))
 refine wpAny_bind (wpAny_seqItems TOe rfl ?_)
 refine wpAny_bind (wpAny_newTuple ?_)
 have hsz:he.objs.size=s.heap.objs.size:=by rw [se.1,sd.1,sc.1,sb.1,sa.1]
 have all:∀ c o,c≠z->c≠TO->c≠i1->c≠i2->s.heap.get? c=some o->he.get? c=some o:=fun c o c1 c2 c3 c4 e=>Ee _ _ c2 (Ed _ _ c4 (Ec _ _ c2 (Eb _ _ c3 (Ea _ _ c1 e))))
 have ze:IsZip he z TI TO .ellipsis:=Ee _ _ D.TOz.symm (Ed _ _ D.i2z.symm (Ec _ _ D.TOz.symm (Eb _ _ D.i1z.symm hza)))
 have i1e:he.IsTupleIter i1 l1 (k+1):=((i1b.extBut Ec D.TOi1.symm).extBut Ed D.i12).extBut Ee D.TOi1.symm
 have i2e:he.IsTupleIter i2 l2 (k+1):=i2d.extBut Ee D.TOi2.symm
 have zl:z < he.objs.size:=Heap.lt_size ze
 refine wpAny_bind (m:=Builtin.SmallTypes.ownedTupleHandOut (.ref z) (.ref he.objs.size)) ?_
 unfold Builtin.SmallTypes.ownedTupleHandOut
 refine wpAny_bind (wpAny_setField_rec (show IsZip (he.push { cls:=.type "tuple",data:=.seq #[x,y] }) z TI TO .ellipsis from Heap.get?_push_of_some _ ze) (by simp) fun hf zf sf=>?_)
 replace zf:IsZip hf z TI TO (rawInt he.objs.size):=zf
 refine wpAny_setField_rec zf (by simp) fun hg zg sg=>?_
 replace zg:IsZip hg z TI TO (rawInt he.objs.size):=zg
 have up:∀ c o,c≠z->he.get? c=some o->hg.get? c=some o:=fun c o c1 e=>sg.extBut _ _ c1 (sf.extBut _ _ c1 (Heap.get?_push_of_some _ e))
 have new:IsPair hg he.objs.size x y:=sg.extBut _ _ (Nat.ne_of_gt zl) (sf.extBut _ _ (Nat.ne_of_gt zl) (Heap.get?_push_size _ rfl))
 have sz:hg.objs.size=he.objs.size+1:=by rw [sg.1,sf.1,Heap.size_push]
 rw [hsz] at zg new sz
 refine wpAny_pure ⟨_,rfl,?_⟩
 show wpAny _ _ (pure (some (Value.ref he.objs.size))) _ _ _
 rw [hsz]
 refine wpAny_pure (q hg zg (up _ _ D.TOz TOe) ?_ ?_ new sz fun c o c1 c2 c3 c4 e=>up c o c1 (all c o c1 c2 c3 c4 e))
 ·obtain ⟨o,eo,r⟩:=i1e;exact ⟨o,up _ _ D.i1z eo,r⟩
 ·obtain ⟨o,eo,r⟩:=i2e;exact ⟨o,up _ _ D.i2z eo,r⟩
theorem ZlC {z TI TO i1 i2 l1 l2:Addr}{k:Nat}{xs:Array Value}{a b:Value}{Q:Option Value->Shared->Prop}(hh:A.handled=none)(D:ZipApart z TI TO i1 i2 l1 l2)(hz:IsZip s.heap z TI TO .none)(hTI:IsPair s.heap TI (.ref i1) (.ref i2))(hTO:IsPair s.heap TO a b)
 (h1:s.heap.IsTupleIter i1 l1 k) (t1:s.heap.IsTuple l1 xs) (hx:xs[k]?=none)
 (q:∀ h',(∀ c o,c≠z->c≠TO->c≠i1->c≠i2->s.heap.get? c=some o->h'.get? c=some o)->Q none { s with heap:=h' }):wpAny (model prog w) A (pyNext (.ref z)) Q E s:=by
 have hT:s.TypeIs (.ref z) "zip":=⟨_,hz,rfl⟩
 unfold pyNext
 refine wpAny_bind (wpAny_attempt (wpAny_callSpecial?_slot (name:=Str.ofString "__next__") hT F.slot_zip_next (wpAny_call_entry F.slot_zip_next hT F.entry_zip_next ?_ (F.args_zip_next_1 _))))
 refine wpAny_bind (m:=field (.ref z) 2) (wpAny_field hz rfl (x:=.bool false) rfl ?_)
 refine wpAny_bind (m:=field (.ref z) 3) (wpAny_field hz rfl (x:=.ref TI) rfl ?_)
 refine wpAny_bind (wpAny_seqItems hTI rfl ?_)
 refine wpAny_bind (m:=Builtin.SmallTypes.ownedTupleIsFree (.ref z)) ?_
 unfold Builtin.SmallTypes.ownedTupleIsFree
 refine wpAny_bind (wpAny_field hz rfl (x:=.none) rfl (wpAny_pure ?_))
 simp only [if_true]
 refine wpAny_bind (wpAny_rule ?_)
 refine wpAny_bind (wpAny_field hz rfl (x:=.ref TO) rfl ?_)
 refine wpAny_bind (wpAny_setField_rec hz (by simp) fun ha hza sa=>?_)
 replace hza:IsZip ha z TI TO .ellipsis:=hza
 refine wpAny_bind ?_
 simp only [List.zipIdx_cons,List.zipIdx_nil,List.forIn_cons,List.forIn_nil]
 refine wpAny_bind (wpAny_bind (wpAny_onRaise ?_))
 refine wpAny_bind (m:=Builtin.SmallTypes.nextOf (.ref i1)) (ZfV hh (h1.extBut sa.extBut D.i1z) (t1.extBut sa.extBut D.l1z) hx fun hb e Eb he=>?_)
 obtain ⟨oe,eoe,ce⟩:=he
 have zb:IsZip hb z TI TO .ellipsis:=Eb _ _ D.i1z.symm hza
 have ez:e≠z:=fun x=>by subst x;rw [zb] at eoe;cases eoe;simp at ce
 refine wpAny_setField_rec zb (by simp) fun hc _ sc=>?_
 refine wpAny_bind (wpAny_isInstance (T:="StopIteration") (b:=true) ⟨oe,sc.extBut _ _ ez eoe,ce⟩ isSubtype_stop ?_)
 exact wpAny_pure (q _ fun c o c1 _ c3 _ x=>sc.extBut _ _ c1 (Eb _ _ c3 (sa.extBut _ _ c1 x)))
end
abbrev YC (l:Addr):Obj:={ cls:=.type "tuple_iterator",data:=.fields #[.ref l,.int 0 0] }
abbrev ZbH (h:Heap)(l1 l2:Addr):Heap:=((((h.push (YC l1)).push (YC l2)).push { cls:=.type "tuple",data:=.seq #[.ref h.objs.size,.ref (h.push (YC l1)).objs.size] }).push { cls:=.type "tuple",data:=.seq #[.none,.none] })
theorem Zly (l1 l2:Addr)(xs ys:Array Value):Meets (Builtin.«zip.__new__» ⟨[.type "zip",.ref l1,.ref l2],[]⟩) (fun _ R s=>s.heap.IsTuple l1 xs/\s.heap.IsTuple l2 ys /\
 R (.ok (.ret (.ref (ZbH s.heap l1 l2).objs.size))) { s with heap:=(ZbH s.heap l1 l2).push { cls:=.type "zip",data:=.fields #[.none,.bool false,.bool false,.ref ((s.heap.push (YC l1)).push (YC l2)).objs.size,.ref (((s.heap.push (YC l1)).push (YC l2)).push { cls:=.type "tuple",data:=.seq #[.ref s.heap.objs.size,.ref (s.heap.push (YC l1)).objs.size] }).objs.size] } }) :=
 .of_wp fun prog w A R s h=>by
  obtain ⟨hp,g,d,tk,os⟩:=s;obtain ⟨hl1,hl2,h⟩:=h
  have hsub:=sub_zip
  have hL1:Heap.IsTuple (Shared.heap ⟨hp,g,d,tk,os⟩) l1 xs:=hl1
  have hL2:Heap.IsTuple (Shared.heap ⟨hp.push (YC l1),g,d,tk,os⟩) l2 ys:=Heap.IsTuple.push hl2 _
  wp_walk using wpAny_pyIter_tuple hL1,wpAny_pyIter_tuple hL2
  exact ⟨_,rfl,h⟩
section
variable {prog:Program}{w:World}{A:Around}{E:ZB}{s:Shared}
theorem Zjd {l1 l2:Addr}{xs ys:Array Value}{Q:ZB}(hl1:s.heap.IsTuple l1 xs)(hl2:s.heap.IsTuple l2 ys)
 (h:∀ h',IsZip h' (s.heap.objs.size+4) (s.heap.objs.size+2) (s.heap.objs.size+3) .none->IsPair h' (s.heap.objs.size+2) (.ref s.heap.objs.size) (.ref (s.heap.objs.size+1)) ->
  IsPair h' (s.heap.objs.size+3) .none .none->h'.IsTupleIter s.heap.objs.size l1 0->h'.IsTupleIter (s.heap.objs.size+1) l2 0->h'.objs.size=s.heap.objs.size+5 ->
  (∀ c o,s.heap.get? c=some o->h'.get? c=some o)->Q (.ref (s.heap.objs.size+4)) { s with heap:=h' }):wpAny (model prog w) A (call (.type "zip") [.ref l1,.ref l2]) Q E s:=by
 refine callType_new F.called_zip (by decide) (F.typeCall_zip_2 _ _) (F.newCall_zip_2 _ _) (fun obj=>F.args_object_init_3 obj _ _) F.entry_zip_new (Zly l1 l2 xs ys) ⟨hl1,hl2,?_⟩
 have z1:(s.heap.push (YC l1)).objs.size=s.heap.objs.size+1:=Heap.size_push ..
 have z2:((s.heap.push (YC l1)).push (YC l2)).objs.size=s.heap.objs.size+2:=by rw [Heap.size_push,z1]
 have z3:(((s.heap.push (YC l1)).push (YC l2)).push { cls:=.type "tuple",data:=.seq #[.ref s.heap.objs.size,.ref (s.heap.push (YC l1)).objs.size] }).objs.size=s.heap.objs.size+3:=by rw [Heap.size_push,z2]
 have z4:(ZbH s.heap l1 l2).objs.size=s.heap.objs.size+4:=by rw [Heap.size_push,z3]
 show _/\_
 rw [z4,z3,z2]
 have up:∀ {h:Heap} {o:Obj} {c:Addr} {u:Obj},h.get? c=some u->(h.push o).get? c=some u:=fun e=>Heap.get?_push_of_some _ e
 have g5:((ZbH s.heap l1 l2).push { cls:=.type "zip",data:=.fields #[.none,.bool false,.bool false,.ref (s.heap.objs.size+2),.ref (s.heap.objs.size+3)] }).get? (ZbH s.heap l1 l2).objs.size=some _:=Heap.get?_push_size _ rfl
 have g4:(ZbH s.heap l1 l2).get? _=some _:=Heap.get?_push_size _ rfl
 have g3:(((s.heap.push (YC l1)).push (YC l2)).push { cls:=.type "tuple",data:=.seq #[.ref s.heap.objs.size,.ref (s.heap.push (YC l1)).objs.size] }).get? _=some _:=Heap.get?_push_size _ rfl
 have g2:((s.heap.push (YC l1)).push (YC l2)).get? _=some _:=Heap.get?_push_size _ rfl
 have g1:(s.heap.push (YC l1)).get? _=some _:=Heap.get?_push_size _ rfl
 rw [z4] at g5
 rw [z3] at g4
 rw [z2] at g3
 rw [z1] at g2
 conv at g3=>rhs;rw [z1]
 exact ⟨⟨_,g5,rfl⟩,h _ g5 (up (up g3)) (up g4) ⟨_,up (up (up (up g1))),rfl,rfl⟩ ⟨_,up (up (up g2)),rfl,rfl⟩ (by rw [Heap.size_push,z4]) fun c o x=>up (up (up (up (up x))))⟩
end
def Zbz (K:KF)(l1 l2:Addr):It :=
 ⟨fun i H=>∃ xs ys x y,SqT K H l1 xs/\SqT K H l2 ys/\xs[i]?=some x/\ys[i]?=some y,
  fun i H v H'=>∃ t x y,H t=none/\(∀ xs,SqT K H l1 xs->xs[i]?=some x)/\(∀ ys,SqT K H l2 ys->ys[i]?=some y)/\v=.ref t/\H'=upd H t (.tup [x,y]),
  fun i H=>∃ xs ys,SqT K H l1 xs/\SqT K H l2 ys/\xs.length<=i⟩
theorem Zib {P:Program}{w:World}{K:KF}{elts:List Expr}{x1:Nat}{tp:Pos}{z TI TO i1 i2 l1 l2:Addr}(D:ZipApart z TI TO i1 i2 l1 l2)(hTl1:l1≠TI)(hTl2:l2≠TI) :
 Uj P w K (.Tuple elts x1 tp) (Zbz K l1 l2) [z,TI,TO,i1,i2] z (fun i h=>IsZip h z TI TO .none/\IsPair h TI (.ref i1) (.ref i2)/\(∃ a b,IsPair h TO a b)/\h.IsTupleIter i1 l1 i/\h.IsTupleIter i2 l2 i) where
 mem:=by simp
 obj:=fun i h st b hb=>by
  obtain ⟨hz,hTI,⟨a,c,hTO⟩,⟨o1,ho1,c1,d1⟩,⟨o2,ho2,c2,d2⟩⟩:=st
  simp only [mem_cons,not_mem_nil,or_false] at hb
  rcases hb with q | q | q | q | q
  ·rw [q];exact ⟨_,hz,fun v z=>by cases z⟩
  ·rw [q];exact ⟨_,hTI,fun v z=>by cases z⟩
  ·rw [q];exact ⟨_,hTO,fun v z=>by cases z⟩
  ·rw [q];exact ⟨o1,ho1,fun v z=>by rw [d1] at z;cases z⟩
  ·rw [q];exact ⟨o2,ho2,fun v z=>by rw [d2] at z;cases z⟩
 keep:=fun i h h' st k=>by
  obtain ⟨hz,hTI,⟨a,c,hTO⟩,h1,h2⟩:=st
  exact ⟨k z (by simp) _ hz,k TI (by simp) _ hTI,⟨a,c,k TO (by simp) _ hTO⟩,h1.at fun o y=>k i1 (by simp) o y,h2.at fun o y=>k i2 (by simp) o y⟩
 item:=by
  intro X hP hw hK hc i pins s σ H E I hf st hg
  subst hP hw hK
  obtain ⟨hz,hTI,⟨a,b,hTO⟩,h1,h2⟩:=st
  obtain ⟨xs,ys,x,y,hq1,hq2,hx,hy⟩:=hg
  obtain ⟨its1,rv1,p1,hz1⟩:=I.tuple hq1
  obtain ⟨its2,rv2,p2,hz2⟩:=I.tuple hq2
  obtain ⟨u1,hu1,ru1⟩:=rv1.get hx
  obtain ⟨u2,hu2,ru2⟩:=rv2.get hy
  refine Zjf D hz hTI hTO h1 h2 p1 p2 (by simpa using hu1) (by simpa using hu2) fun h' g1 g2 g3 g4 g5 g6 g7=>?_
  refine ⟨_,rfl,wpAny_letOwnedTupleGo_zip g1 fun h2' g1' hs2=>?_⟩
  have hzl:z < s.heap.objs.size:=Heap.lt_size hz
  have hTIl:TI < s.heap.objs.size:=Heap.lt_size hTI
  have hTOl:TO < s.heap.objs.size:=Heap.lt_size hTO
  have hi1l:i1 < s.heap.objs.size:=by obtain ⟨o,ho,_⟩:=h1;exact Heap.lt_size ho
  have hi2l:i2 < s.heap.objs.size:=by obtain ⟨o,ho,_⟩:=h2;exact Heap.lt_size ho
  have g5':h'.get? s.heap.objs.size=some ({ cls:=.type "tuple",data:=.seq #[u1,u2] }:Obj):=g5
  generalize hO:({ cls:=.type "tuple",data:=.seq #[u1,u2] }:Obj)=O at g5'
  have I1:Inv X pins σ (upd H s.heap.objs.size (.tup [x,y])) { s with heap:=s.heap.push O,toks:=s.toks }:=by
   refine I.laid (t':=s.toks) (fun b o y=>Heap.get?_push_of_some _ y) (Nat.le_refl _) (show ObjOk X.prog X.w _ _ _ (.tup _) from ⟨by show 2<=sizeLine;decide,[u1,u2],.cons ru1 (.cons ru2 .nil),?_⟩)
   rw [<- hO];exact IsTup.new _ _
  have hfree:=I.hok.fresh (Nat.le_refl s.heap.objs.size)
  have hf2:∀ b∈[z,TI,TO,i1,i2],YD X pins (upd H s.heap.objs.size (.tup [x,y])) b:=fun b hb=>by
   obtain ⟨f0,f1⟩:=hf b hb
   have hb':b≠s.heap.objs.size:=by
    simp only [mem_cons,not_mem_nil,or_false] at hb
    rcases hb with q | q | q | q | q<;>(rw [q];exact Nat.ne_of_lt (by assumption))
   exact ⟨by rw [Zi hb'];exact f0,f1⟩
  have I2:Inv X pins σ (upd H s.heap.objs.size (.tup [x,y])) { s with heap:=h2',toks:=s.toks }:=by
   refine I1.turned2 (t':=s.toks) (h':=h2') (fun b o hb y=>?_) hf2
   have n1:b≠z:=fun q=>hb (by simp [q])
   have n2:b≠TO:=fun q=>hb (by simp [q])
   have n3:b≠i1:=fun q=>hb (by simp [q])
   have n4:b≠i2:=fun q=>hb (by simp [q])
   rw [hs2.2 b n1]
   rcases Heap.get?_push_cases y with ⟨q1,q2⟩ | y
   ·rw [q1,q2];exact g5'
   ·exact g7 b o n1 n2 n3 n4 y
  refine ⟨.ref s.heap.objs.size,_,I2,rfl,⟨s.heap.objs.size,x,y,hfree,fun ys hy'=>by rw [I.tuple_inj hy' hq1];exact hx,fun ys' hy'=>by rw [I.tuple_inj hy' hq2];exact hy,rfl,rfl⟩,⟨g1',?_,⟨u1,u2,?_⟩,?_,?_⟩,fun b hb=>(hf2 b hb).1⟩
  ·show h2'.get? TI=_
   rw [hs2.2 TI D.TIz];exact g7 TI _ D.TIz D.TITO D.TIi1 D.TIi2 hTI
  ·show h2'.get? TO=_
   rw [hs2.2 TO D.TOz];exact g2
  ·exact g3.at fun o y=>by rw [hs2.2 i1 D.i1z];exact y
  ·exact g4.at fun o y=>by rw [hs2.2 i2 D.i2z];exact y
 done:=by
  intro X hP hw hK hc i pins s σ H E I hf st hg
  subst hP hw hK
  obtain ⟨hz,hTI,⟨a,b,hTO⟩,h1,h2⟩:=st
  obtain ⟨xs,ys,hq1,hq2,hle⟩:=hg
  obtain ⟨its1,rv1,p1,hz1⟩:=I.tuple hq1
  obtain ⟨its2,rv2,p2,hz2⟩:=I.tuple hq2
  have l1:=rv1.length
  have l2:=rv2.length
  exact ZlC (I.ok.hd hc) D hz hTI hTO h1 p1 (Array.getElem?_eq_none (by simp;omega)) fun h' eb=>⟨rfl,I.turned2 (t':=s.toks) (fp:=[z,TI,TO,i1,i2]) (fun b o hb y=>eb b o (fun q=>hb (by simp [q])) (fun q=>hb (by simp [q])) (fun q=>hb (by simp [q])) (fun q=>hb (by simp [q])) y) hf⟩
 self:=fun _ _ _ _ _ st h=>wpAny_pyIter_zip st.1 h
def ZnG (K:KF)(ta tb:TE):TI:=fun σ H R=>ta σ H fun v H1=>tb σ H1 fun u H2=>∃ a b xs ys,[v,u]=[V.ref a,V.ref b]/\SqT K H2 a xs/\SqT K H2 b ys/\R (Zbz K a b) H2
section
variable {X:Cx}
theorem Zle {l m:Expr}{ta tb:TE}{elts:List Expr}{x1:Nat}{tp p pos:Pos}(hg:Gl X "zip")(hm:X.mg "zip"=none)(hl:PE X l ta)(hr:PE X m tb)
 (he:starEach [l,m] X.env=(false,eval l X.env)::starEach [m] X.env:=by rfl) (he2:starEach [m] X.env=[(false,eval m X.env)]:=by rfl) (hpl:(backTo pos (starEach [m] X.env)).any (·.1)=false:=by rfl):PI X (.Tuple elts x1 tp) (.Call (.Name "zip" p) [l,m] [] pos) (ZnG X.K ta tb):=by
 intro pins s σ H R I h
 have ha:PA X [l,m] (XF ta (XF tb Wt)):=Yy hl (Yy hr Za he2) he
 refine wpAny_Call_Name_kw (WC I hg hm ZjQ ?_)
 refine PyProof.Rows.callWith_type1 (Zn (ha pos pins s σ H (fun vs H2=>∃ a b xs ys,vs=[V.ref a,V.ref b]/\SqT X.K H2 a xs/\SqT X.K H2 b ys/\R (Zbz X.K a b) H2) I h) fun us s1 ⟨vs,H1,I1,r1,a,b,xs,ys,e,ea,eb,q⟩=>?_) he hpl
 subst e
 obtain ⟨u1,u2,rfl,r2,r3⟩:∃ u1 u2,us=[u1,u2]/\RelV (V.ref a) u1/\RelV (V.ref b) u2:=by
  cases r1 with
  | cons p t=>cases t with
   | cons p2 t2=>cases t2;exact ⟨_,_,rfl,p,p2⟩
 cases r2
 cases r3
 obtain ⟨its1,rv1,⟨o1,eo1,c1,n1,d1⟩,_⟩:=I1.tuple ea
 obtain ⟨its2,rv2,⟨o2,eo2,c2,n2,d2⟩,_⟩:=I1.tuple eb
 have ha1:a < s1.heap.objs.size:=Heap.lt_size eo1
 have hb1:b < s1.heap.objs.size:=Heap.lt_size eo2
 refine Zjd ⟨_,eo1,c1,n1,d1⟩ ⟨_,eo2,c2,n2,d2⟩ fun h' g1 g2 g3 g4 g5 g6 g7=>wpAny_pyIter_zip g1 ?_
 refine ⟨s1.heap.objs.size+4,[s1.heap.objs.size+4,s1.heap.objs.size+2,s1.heap.objs.size+3,s1.heap.objs.size,s1.heap.objs.size+1],_,_,H1,rfl,I1.kept (t':=s1.toks) g7,Zib (l1:=a) (l2:=b) ⟨?_,?_,?_,?_,?_,?_,?_,?_,?_,?_,?_,?_,?_,?_,?_,?_,?_,?_⟩ ?_ ?_,⟨g1,g2,⟨_,_,g3⟩,g4,g5⟩,fun c hc=>?_,q⟩
 rotate_right
 ·simp only [mem_cons,not_mem_nil,or_false] at hc
  have up:∀ k,YD X pins H1 (s1.heap.objs.size+k):=fun k=>I1.fpOk (Nat.le_add_right _ k) (I1.hok.fresh (Nat.le_add_right _ k))
  rcases hc with q | q | q | q | q
  ·rw [q];exact up 4
  ·rw [q];exact up 2
  ·rw [q];exact up 3
  ·rw [q];exact up 0
  ·rw [q];exact up 1
 all_goals
  first
   | exact Nat.ne_of_lt (by first | (apply Nat.lt_of_lt_of_le (by assumption);omega) | (simp only [Nat.add_lt_add_iff_left];decide) | (show _ < _+_;exact Nat.lt_add_of_pos_right (by decide)))
   | exact Nat.ne_of_gt (by first | (simp only [Nat.add_lt_add_iff_left];decide) | exact Nat.lt_add_of_pos_right (by decide))
end
theorem Zim {K:KF}{a b:Addr}{xs ys:List V}{g:TG}{tb:TS}{D:UA}{σ:St}{H:Hp}(hlen:ys.length=xs.length)(Pv:Nat->St->Hp->Prop)(h0:Pv 0 σ H)(hl:∀ i σ H,i<=xs.length->Pv i σ H->SqT K H a xs/\SqT K H b ys)
 (hs:∀ i x y t σ H,xs[i]?=some x->ys[i]?=some y->H t=none->Pv i σ H->g (.ref t) σ (upd H t (.tup [x,y])) fun σ2 H2=>tb { D with nx:=Pv (i+1),ct:=Pv (i+1),bk:=D.nx } σ2 H2) (hd:∀ σ H,Pv xs.length σ H->D.nx σ H) :
 ∃ W:Nat->Nat->St->Hp->Prop,(∃ m,W 0 m σ H)/\∀ i m σ H,W i m σ H ->
  ((Zbz K a b).stop i H/\D.nx σ H)\/((Zbz K a b).go i H/\∃ N:St->Hp->Prop,(∀ σ' H',N σ' H'->∃ m',m' < m/\W (i+1) m' σ' H')/\∀ x H',(Zbz K a b).yld i H x H'->g x σ H' fun σ2 H2=>tb { D with nx:=N,ct:=N,bk:=D.nx } σ2 H2):=by
 refine ⟨fun i m σ H=>m=xs.length - i/\i<=xs.length/\Pv i σ H,⟨xs.length,by simp,Nat.zero_le _,h0⟩,?_⟩
 rintro i m σ H ⟨rfl,hi,p⟩
 obtain ⟨q1,q2⟩:=hl i σ H hi p
 by_cases hlt:i < xs.length
 ·refine .inr ⟨⟨xs,ys,xs[i],ys[i]'(by omega),q1,q2,by simp [hlt],by simp [show i < ys.length by omega]⟩,Pv (i+1),fun σ' H' p'=>⟨xs.length - (i+1),by omega,rfl,hlt,p'⟩,fun x H' y=>?_⟩
  obtain ⟨t,x',y',e1,e2,e3,e4,e5⟩:=y
  subst e4 e5
  exact hs i x' y' t σ _ (e2 xs q1) (e3 ys q2) e1 p
 ·have e:i=xs.length:=by omega
  subst e
  exact .inl ⟨⟨xs,ys,q1,q2,Nat.le_refl _⟩,hd σ H p⟩
section
variable {X:Cx}
end
end L2
namespace L2
open PySem
def Rz (xs:Array Nat):Prop:=xs.toList.Pairwise (· < ·)
theorem Rz.get {xs:Array Nat}(h:Rz xs){i j:Nat}(hj:j < xs.size)(hij:i < j):xs[i]'(by omega) < xs[j]:=by
 have:=(List.pairwise_iff_getElem.mp h) i j (by rw [Array.length_toList];omega) (by rw [Array.length_toList];exact hj) hij
 simpa using this
theorem Zaj {xs:Array Nat}{j:Nat}(h:Rz xs):∀(f lo hi:Nat),hi - lo<=f->lo<=hi->hi<=xs.size->(∀ i (hz:i < xs.size),i < lo->xs[i] < j)->(∀ i (hz:i < xs.size),hi<=i->j<=xs[i]) ->
 SetTable.below.go xs j f lo hi<=xs.size/\(∀ i (hz:i < xs.size),i < SetTable.below.go xs j f lo hi->xs[i] < j)/\∀ i (hz:i < xs.size),SetTable.below.go xs j f lo hi<=i->j<=xs[i]
 | 0,lo,hi,hf,hl,hs,a,b=>by
  have:lo=hi:=by omega
  subst this
  exact ⟨hs,a,b⟩
 | f + 1,lo,hi,hf,hl,hs,a,b=>by
  unfold SetTable.below.go
  by_cases c:lo < hi
  ·rw [if_pos c]
   have hm:(lo+hi) / 2 < xs.size:=by omega
   have e:xs.getD ((lo+hi) / 2) j=xs[(lo+hi) / 2]:=by simp [Array.getD,hm]
   dsimp only
   rw [e]
   by_cases d:xs[(lo+hi) / 2] < j
   ·rw [if_pos d]
    refine Zaj h f ((lo+hi) / 2+1) hi (by omega) (by omega) hs (fun i hi9 hlt=>?_) b
    by_cases z:i=(lo+hi) / 2
    ·subst z;exact d
    ·exact Nat.lt_trans (h.get hm (by omega)) d
   ·rw [if_neg d]
    refine Zaj h f lo ((lo+hi) / 2) (by omega) (by omega) (by omega) a fun i hz hle=>?_
    by_cases z:i=(lo+hi) / 2
    ·subst z;omega
    ·have:=h.get hz (show (lo+hi) / 2 < i by omega);omega
  ·rw [if_neg c]
   have:lo=hi:=by omega
   subst this
   exact ⟨hs,a,b⟩
theorem WN {xs:Array Nat}(h:Rz xs)(j:Nat):SetTable.below xs j<=xs.size/\(∀ i (hi:i < xs.size),i < SetTable.below xs j->xs[i] < j)/\∀ i (hz:i < xs.size),SetTable.below xs j<=i->j<=xs[i] :=
 Zaj h xs.size 0 xs.size (by omega) (by omega) (Nat.le_refl _) (fun i _ z=>absurd z (by omega)) (fun i hz z=>absurd hz (by omega))
theorem Zii {xs:Array Nat}(h:Rz xs){m:Nat}(hm:m < xs.size):SetTable.below xs xs[m]=m:=by
 obtain ⟨h1,h2,h3⟩:=WN h xs[m]
 have a:SetTable.below xs xs[m]<=m:=by
  rcases Nat.lt_or_ge m (SetTable.below xs xs[m]) with z | z
  ·have:=h2 m hm z;omega
  ·exact z
 rcases Nat.lt_or_ge (SetTable.below xs xs[m]) m with z | z
 ·have:=h3 _ (by omega) (Nat.le_refl _)
  have:=h.get hm z
  omega
 ·omega
theorem Zfo {xs:Array Nat}(h:Rz xs){m:Nat}(hm:m < xs.size):SetTable.below xs (xs[m]+1)=m+1:=by
 obtain ⟨h1,h2,h3⟩:=WN h (xs[m]+1)
 have a:m < SetTable.below xs (xs[m]+1):=by
  rcases Nat.lt_or_ge m (SetTable.below xs (xs[m]+1)) with z | z
  ·exact z
  ·have:=h3 m hm z;omega
 rcases Nat.lt_or_ge (m+1) (SetTable.below xs (xs[m]+1)) with z | z
 ·have:=h2 (m+1) (by omega) z
  have:=h.get (i:=m) (j:=m+1) (by omega) (by omega)
  omega
 ·omega
theorem Zgf {xs:Array Nat}(h:Rz xs):SetTable.below xs 0=0:=by
 obtain ⟨h1,h2,h3⟩:=WN h 0
 rcases Nat.lt_or_ge 0 (SetTable.below xs 0) with z | z
 ·have:=h2 0 (by omega) z;omega
 ·omega
theorem Zfe (j:Nat):SetTable.has #[] j=false:=by unfold SetTable.has;simp
theorem Zia {t:SetTable}(h:Rz t.place){j:Nat}(e:t.slot j=.empty):∀ i (hi:i < t.place.size),t.place[i]≠j:=by
 intro i hi z
 unfold SetTable.slot at e
 have:t.place[SetTable.below t.place j]?=some j:=by rw [<- z,Zii h hi,Array.getElem?_eq_getElem hi]
 simp [this] at e
theorem ZjI {t:SetTable}(h:t.dummies=#[])(j:Nat):t.slot j≠.dummy:=by
 unfold SetTable.slot
 rw [h,Zfe]
 simp only [Bool.false_eq_true,if_false]
 split<;>intro z<;>cases z
theorem ZdD {t:SetTable}{ha:Nat->Int}{x:Int}(h:t.dummies=#[]):∀(f:Nat)(p:SetTable.Probe){j:Nat}{d:Option Nat},p.dummy=none->SetTable.probe.go t ha x f p=some (.empty j d)->t.slot j=.empty/\d=none
 | 0,_,_,_,_,e=>by simp [SetTable.probe.go] at e
 | f + 1,p,j,d,hp,e=>by
  unfold SetTable.probe.go at e
  cases z:t.slot p.j with
  | empty =>
   rw [z] at e
   simp only [Option.some.injEq,SetTable.Met.empty.injEq] at e
   obtain ⟨rfl,rfl⟩:=e
   exact ⟨z,hp⟩
  | dummy=>exact absurd z (ZjI h _)
  | live i =>
   rw [z] at e
   dsimp only at e
   split at e
   ·cases e
   ·refine ZdD h f _ ?_ e
    unfold SetTable.advance
    split
    ·exact hp
    ·exact hp
theorem ZgP {t:SetTable}(h:t.dummies=#[]){x:Int}{j:Nat}{b:Bool}(e:t.freeSlot x=some (j,b)):t.slot j=.empty/\b=false:=by
 unfold SetTable.freeSlot SetTable.probe at e
 split at e
 ·rename_i j' d e9
  obtain ⟨h1,rfl⟩:=ZdD h _ _ (by rfl) e9
  simp only [Option.some.injEq,Prod.mk.injEq] at e
  obtain ⟨rfl,rfl⟩:=e
  exact ⟨h1,rfl⟩
 ·cases e
theorem Zhg {xs:Array Nat}(h:Rz xs){j:Nat}(hj:∀ i (hi:i < xs.size),xs[i]≠j):Rz (SetTable.insertAt xs (SetTable.below xs j) j):=by
 obtain ⟨h1,h2,h3⟩:=WN h j
 unfold Rz
 rw [SetTable.toList_insertAt,List.pairwise_append]
 refine ⟨List.Pairwise.sublist (List.take_sublist _ _) h,List.pairwise_cons.mpr ⟨fun y hy=>?_,List.Pairwise.sublist (List.drop_sublist _ _) h⟩,fun x hx y hy=>?_⟩
 ·obtain ⟨i,hi,rfl⟩:=mem_iff_getElem.mp hy
  rw [length_drop,Array.length_toList] at hi
  rw [List.getElem_drop,Array.getElem_toList]
  have:=h3 (SetTable.below xs j+i) (by omega) (by omega)
  have:=hj (SetTable.below xs j+i) (by omega)
  omega
 ·obtain ⟨i,hi,rfl⟩:=mem_iff_getElem.mp hx
  rw [length_take,Array.length_toList] at hi
  rw [List.getElem_take,Array.getElem_toList]
  have a:=h2 i (by omega) (by omega)
  rcases mem_cons.mp hy with rfl | hy
  ·exact a
  ·obtain ⟨m,hm,rfl⟩:=mem_iff_getElem.mp hy
   rw [length_drop,Array.length_toList] at hm
   rw [List.getElem_drop,Array.getElem_toList]
   have:=h3 (SetTable.below xs j+m) (by omega) (by omega)
   omega
theorem ZiC (n:Nat):Rz (Array.range n):=by
 unfold Rz
 rw [Array.toList_range]
 exact List.pairwise_lt_range
structure TOk (b:Bool)(t:SetTable):Prop where
 rz:Rz t.place
 du:t.dummies=#[]
 led:b=true\/t.led=true
theorem TOk.stand {b:Bool}{t:SetTable}(h:TOk b t)(n:Nat):TOk b (t.standIn n):=⟨ZiC n,rfl,h.led⟩
theorem TOk.or {b:Bool}{t:SetTable}(h:TOk b t)(n:Nat):TOk b (t.orStandIn n):=by
 unfold SetTable.orStandIn
 split
 ·exact h
 ·exact h.stand n
theorem TOk.off {b:Bool}{t:SetTable}(h:TOk b t):TOk b { t with plain:=false }:=⟨h.rz,h.du,h.led⟩
theorem TOk.put {b:Bool}{t:SetTable}(h:TOk b t){j:Nat}(e:t.slot j=.empty):TOk b (t.put j).1:=by
 refine ⟨Zhg h.rz (Zia h.rz e),?_,h.led⟩
 show (if SetTable.has t.dummies j then _ else t.dummies)=#[]
 rw [h.du,Zfe];rfl
theorem TOk.new {b:Bool}{t:SetTable}(h:TOk b t)(es:Array (Int×Value))(x:Int)(v:Value):TOk b (layNew t es x v).2.1:=by
 unfold layNew
 split
 ·rename_i j d e
  exact (h.put (ZgP h.du e).1).or _
 ·exact h.stand _
theorem Zfi {R:Nat->Nat->Prop}{f:Nat->Option (Nat×Nat)}(hf:∀ j x,f j=some x->x.1=j):∀{l:List Nat},l.Pairwise R->((l.filterMap f).map (·.1)).Pairwise R:=by
 intro l
 have mem:∀ {l:List Nat} {y:Nat},y∈(l.filterMap f).map (·.1)->y∈l:=fun {l y} hy=>by
  obtain ⟨x,hx,rfl⟩:=mem_map.mp hy
  obtain ⟨j,hj,e⟩:=List.mem_filterMap.mp hx
  rw [hf j x e];exact hj
 induction l with
 | nil=>intro _;exact .nil
 | cons a r ih =>
  intro h
  obtain ⟨h1,h2⟩:=List.pairwise_cons.mp h
  rw [filterMap_cons]
  cases e:f a with
  | none=>exact ih h2
  | some x =>
   refine List.pairwise_cons.mpr ⟨fun y hy=>?_,ih h2⟩
   show R x.1 y
   rw [show x.1=a from hf a x e]
   exact h1 y (mem hy)
theorem TOk.relay {b:Bool}{t:SetTable}(h:TOk b t)(es:Array (Int×Value))(n:Nat):TOk b (relayAll t es n).2.1:=by
 unfold relayAll
 split
 ·rename_i t' o e
  dsimp only
  split
  ·unfold SetTable.relaid SetTable.laid at e
   cases z:SetTable.layClean (SetTable.sizeAbove n - 1) (es.map (·.1)) with
   | none=>rw [z] at e;cases e
   | some ow =>
    rw [z] at e
    have e:some (_,_)=some (t',o):=e
    cases e
    refine ⟨?_,rfl,h.led⟩
    show Rz (List.toArray _)
    unfold Rz
    rw [List.toList_toArray]
    refine Zfi (fun j x e=>?_) List.pairwise_lt_range
    cases y:ow.getD j none with
    | none=>rw [y] at e;cases e
    | some m=>rw [y] at e;cases e;rfl
  ·exact h.stand _
 ·exact h.stand _
end L2
namespace L2
open PySem PySem.Spec PyProof.Rows
def Xj (w:World):Bool:=w.params.followText "set-order"
def Xh:Value->Zk
 | .int i _=>.inl i
 | .str x _=>.inr x
 | _=>.inl 0
theorem Uc {k:Zk}{v:Value}(h:Xc k v=true):Xh v=k:=by
 rcases ZT h with ⟨i,t,rfl,rfl⟩ | ⟨x,t,rfl,rfl⟩<;>rfl
theorem Zlp {k:Zk}{v:Value}(h:Xc k v=true):v.scannable=true:=by
 rcases ZT h with ⟨i,t,rfl,rfl⟩ | ⟨x,t,rfl,rfl⟩<;>rfl
def XL (xs:Array (Int×Value)):List Zk:=xs.toList.map fun e=>Xh e.2
def SetG (P:Program)(w:World)(h:Heap)(a:Addr)(ks:List Zk):Prop :=
 ∃ o xs ep t,h.get? a=some o/\o.ExactSet/\o.data=.set xs ep t/\ElemsOf (Zl P w) xs.toList/\(XL xs).Perm ks/\ks.Nodup/\xs.size < scanBound/\t.fits xs.size=true/\TOk (Xj w) t
def Ys (ks:List Zk)(k:Zk):List Zk:=if (ks.any fun j=>decide (j=k))=true then ks else ks++[k]
theorem any_mem {ks:List Zk}{k:Zk}:(ks.any fun j=>decide (j=k))=true↔k∈ks:=by
 rw [List.any_eq_true]
 exact ⟨fun ⟨x,hx,e⟩=>of_decide_eq_true e ▸ hx,fun h=>⟨k,h,decide_eq_true rfl⟩⟩
theorem Vd {ks:List Zk}{k:Zk}(h:ks.Nodup):(Ys ks k).Nodup:=by
 unfold Ys
 split
 ·exact h
 ·rename_i z
  rw [nodup_append]
  exact ⟨h,by simp,fun a ha b hb e=>z (any_mem.mpr <| by rw [<- mem_singleton.mp hb,<- e];exact ha)⟩
theorem Zir {ks:List Zk}{k x:Zk}:x∈Ys ks k↔x∈ks\/x=k:=by
 unfold Ys
 split
 ·rename_i z;exact ⟨.inl,fun h=>h.elim id fun e=>e ▸ any_mem.mp z⟩
 ·rw [mem_append,mem_singleton]
theorem ZiK (ks:List Zk)(k:Zk):(Ys ks k).length<=ks.length+1:=by
 unfold Ys
 split
 ·omega
 ·rw [length_append];exact Nat.le_refl _
section
variable {prog:Program}{w:World}{A:Around}{E:ZB}{s:Shared}
theorem ZgC {xs:Array (Int×Value)}{k:Zk}(h:ElemsOf (Zl prog w) xs.toList):k∈XL xs↔∃ e∈xs.toList,Xc k e.2=true:=by
 unfold XL
 rw [mem_map]
 constructor
 ·rintro ⟨e,he,rfl⟩
  obtain ⟨⟨j,hj,_⟩,_⟩:=h e he
  refine ⟨e,he,?_⟩
  rw [Uc (k:=j) hj];exact hj
 ·rintro ⟨e,he,hk⟩
  exact ⟨e,he,Uc hk⟩
theorem Wv {h:Heap}{a:Addr}{o:Obj}{xs ys:Array (Int×Value)}{ep:Nat}{t u:SetTable}(ho:h.get? a=some o)(hd:o.data=.set xs ep t) :
 (h.update a (Obj.putSet ys u)).get? a=some { o with data:=.set ys (ep+1) u }:=by
 have e:=putSet_of (o:=o) ys u hd
 have g:=Heap.get?_update_self (Obj.putSet ys u) ho (by rw [e];rfl)
 rwa [e] at g
theorem Zdb {g:Bool->Sem Unit}(hg:∀(b:Bool)(s₁:Shared)(R:Unit->Shared->Prop),R () s₁->wpAny (model prog w) A (g b) R E s₁)
   {a:Addr} {o:Obj} {xs ys:Array (Int×Value)} {ep:Nat} {t u:SetTable} {ks:List Zk} (ho:s.heap.get? a=some o) (hx:o.ExactSet) (hd:o.data=.set xs ep t)
   (h1:ElemsOf (Zl prog w) ys.toList) (h2:(XL ys).Perm ks) (h3:ks.Nodup) (h4:ys.size < scanBound) (h5:u.fits ys.size=true) (h6:TOk (Xj w) u) {d:Bool} {R:Option Bool->Shared->Prop}
   (q:∀ h',Heap.SameBut a s.heap h'->SetG prog w h' a ks->R (some true) { s with heap:=h' }) :
   wpAny (model prog w) A (do
       storeSet a ys u
       if (!d&&u.tooFull)=true then do
           g (relayAll u ys (SetTable.grown ys.size)).2.2
           storeSet a (relayAll u ys (SetTable.grown ys.size)).1 (relayAll u ys (SetTable.grown ys.size)).2.1
           pure (some true)
         else pure (some true)) R E s:=by
 refine wpAny_bind (wpAny_storeSet_of ho hd ?_ (fits_of_scanBound h4))
 have o1:=Wv (ys:=ys) (u:=u) ho hd
 have s1:=Heap.SameBut.update s.heap a (Obj.putSet ys u)
 split
 · have p:=relayAll_perm u ys (SetTable.grown ys.size)
   have f:=relayAll_fits u ys (SetTable.grown ys.size)
   have k:=h6.relay ys (SetTable.grown ys.size)
   generalize relayAll u ys (SetTable.grown ys.size)=L at p f k ⊢
   obtain ⟨zs,v,gv⟩:=L
   dsimp only at p f k ⊢
   have z:zs.size=ys.size:=by rw [<- Array.length_toList,p.length_eq,Array.length_toList]
   refine wpAny_bind (hg _ _ _ ?_)
   refine wpAny_bind (wpAny_storeSet_of o1 rfl ?_ (fits_of_scanBound (by rw [z];exact h4)))
   have o2:=Wv (ys:=zs) (u:=v) o1 rfl
   exact wpAny_pure (q _ (s1.trans (Heap.SameBut.update _ a _)) ⟨_,zs,_,v,o2,hx,rfl,h1.perm p,(p.map _).trans h2,h3,by rw [z];exact h4,f,k⟩)
 · exact wpAny_pure (q _ s1 ⟨_,ys,_,u,o1,hx,rfl,h1,h2,h3,h4,h5,h6⟩)
theorem ZeC {a:Addr}{ks:List Zk}{k:Zk}{x:Value}{Q:Bool->Shared->Prop}(hk:Xc k x=true)(hS:SetG prog w s.heap a ks)(hr:ks.length+1 < scanBound)
 (q:∀ b h',Heap.SameBut a s.heap h'->SetG prog w h' a (Ys ks k)->Q b { s with heap:=h' }):wpAny (model prog w) A (setAddHashed a x ((Zl prog w).hash k)) Q E s:=by
 obtain ⟨o,xs,ep,t,ho,hx,hd,h1,h2,h3,h4,h5,h6⟩:=hS
 have hsc:=Zlp hk
 have hl:xs.size=ks.length:=by rw [<- h2.length_eq];unfold XL;rw [length_map,Array.length_toList]
 unfold setAddHashed setAddHashedIn
 refine wpAny_holding (wpAny_bind (wpAny_setState_of ho hd h5 ?_))
 dsimp only
 rw [byScan_of hsc h4 h1,if_pos rfl]
 unfold setAddByScan
 refine wpAny_bind (wpAny_bind (wpAny_rule (wpAny_bind (wpAny_setScan_of (knd:=Zl prog w) (k:=k) hk ho hd h5 h1 ?_))))
 have gw:∀ (b:Bool) (s₁:Shared) (R:Unit->Shared->Prop),R () s₁->wpAny (model prog w) A (match b with | true=>rule "set.scan.the-table-gave-way" | false=>pure ()) R E s₁:=fun b s₁ R z=>by
  cases b
  ·exact wpAny_pure z
  ·exact wpAny_rule z
 have hin:=ZgC (k:=k) h1
 cases hf:xs.toList.findIdx? (fun e=>(Zl prog w).is k e.2) with
 | some j =>
  obtain ⟨hj,hp,_⟩:=List.findIdx?_eq_some_iff_getElem.mp hf
  have hm:k∈ks:=h2.mem_iff.mp (hin.mpr ⟨xs.toList[j],List.getElem_mem hj,hp⟩)
  refine wpAny_pure (wpAny_pure (q _ s.heap (Heap.SameBut.refl a s.heap) ?_))
  unfold Ys
  rw [if_pos (any_mem.mpr hm)]
  exact ⟨o,xs,ep,t,ho,hx,hd,h1,h2,h3,h4,h5,h6⟩
 | none =>
  have hm:k ∉ ks:=fun z=>by
   obtain ⟨e,he,hp⟩:=hin.mp (h2.mem_iff.mpr z)
   have y:=List.findIdx?_eq_none_iff.mp hf e he
   rw [show (Zl prog w).is k e.2=true from hp] at y
   cases y
  dsimp only
  have p:=layNew_perm t xs ((Zl prog w).hash k) x
  have f:=layNew_fits t xs ((Zl prog w).hash k) x
  have tk:=h6.new xs ((Zl prog w).hash k) x
  generalize layNew t xs ((Zl prog w).hash k) x=L at p f tk ⊢
  obtain ⟨ys,u,wd,gv⟩:=L
  dsimp only at p f tk ⊢
  rw [Array.toList_push] at p
  have e1:ElemsOf (Zl prog w) ys.toList:=(h1.push (k:=k) hk hsc).perm p
  have e2:(XL ys).Perm (Ys ks k):=by
   unfold Ys
   rw [if_neg fun z=>hm (any_mem.mp z)]
   have:=p.map fun e=>Xh e.2
   rw [map_append] at this
   refine this.trans ?_
   show ((xs.toList.map fun e=>Xh e.2)++[Xh x]).Perm _
   rw [Uc hk]
   exact h2.append_right _
  have e4:ys.size < scanBound:=by
   rw [<- Array.length_toList,p.length_eq,length_append,Array.length_toList,hl];exact hr
  refine wpAny_bind (gw _ _ _ ?_)
  split
  ·refine wpAny_bind ?_
   rw [hashByValue_scannable 8 hsc]
   refine wpAny_pure ?_
   refine Zdb gw ho hx hd e1 e2 (Vd h3) e4 ?_ ?_ fun h' sb G=>wpAny_pure (q _ h' sb G)
   ·split
    ·exact f
    ·exact SetTable.fits_plain_off f
   ·split
    ·exact tk
    ·exact tk.off
  ·refine wpAny_bind (wpAny_pure ?_)
   exact Zdb gw ho hx hd e1 e2 (Vd h3) e4 (by simpa using f) (by simpa using tk) fun h' sb G=>wpAny_pure (q _ h' sb G)
end
theorem SetG.keep {P:Program}{w:World}{h h':Heap}{a:Addr}{ks:List Zk}(G:SetG P w h a ks)(k:∀ o,h.get? a=some o->h'.get? a=some o):SetG P w h' a ks:=by
 obtain ⟨o,xs,ep,t,ho,r⟩:=G
 exact ⟨o,xs,ep,t,k o ho,r⟩
def Yj (ks:List Zk):List Zk:=ks.foldl Ys []
theorem ZaC:∀(l ks:List Zk),(l.foldl Ys ks).length<=ks.length+l.length
 | [],_=>Nat.le_refl _
 | k::l,ks=>by
  have h1:=ZaC l (Ys ks k)
  have h2:=ZiK ks k
  show (l.foldl Ys (Ys ks k)).length<=ks.length+(l.length+1)
  omega
theorem XT {x:Zk}:∀(l ks:List Zk),x∈l.foldl Ys ks↔x∈ks\/x∈l
 | [],ks=>by simp
 | k::l,ks=>by
  show x∈l.foldl Ys (Ys ks k)↔_
  rw [XT l,Zir,mem_cons,or_assoc]
theorem XB:∀(l ks:List Zk),ks.Nodup->(l.foldl Ys ks).Nodup
 | [],_,h=>h
 | k::l,ks,h=>XB l (Ys ks k) (Vd h)
theorem Uv (l:List Zk):(Yj l).length<=l.length:=by
 have:=ZaC l []
 have e:([]:List Zk).length=0:=rfl
 unfold Yj
 omega
theorem VR {x:Zk}{l:List Zk}:x∈Yj l↔x∈l:=by unfold Yj;rw [XT];simp
theorem Zeu (l:List Zk):(Yj l).Nodup:=XB l [] .nil
theorem ZfY (l:List Zk)(k:Zk):Yj (l++[k])=Ys (Yj l) k:=by unfold Yj;rw [foldl_append];rfl
section
variable {prog:Program}{w:World}{A:Around}{R:Result->Shared->Prop}{I:Addr}{fp wr:List Addr}{G:Array GenState->Array GenState->Prop}{n:Nat}{P:Nat->Value->Prop}{St:Nat->Shared->Prop}
end
section
variable {prog:Program}{w:World}{A:Around}{E:ZB}{s:Shared}
theorem newG {h:Heap}:SetG prog w (h.push { cls:=.type "set",dict:=none,data:=.set #[] 0 (.fresh 0 0 (!Xj w)) }) h.objs.size [] :=
 ⟨_,#[],0,_,Heap.get?_push_size _ rfl,⟨rfl,rfl,rfl⟩,rfl,fun e he=>by simp at he,.refl _,.nil,by decide,rfl,⟨.nil,rfl,by cases Xj w<;>simp [SetTable.fresh]⟩⟩
theorem ZkL (a:Value){Q:ZB}(h:Q (.ref s.heap.objs.size) { s with heap:=s.heap.push { cls:=.type "set",dict:=none,data:=.set #[] 0 (.fresh 0 0 (!Xj w)) } }) :
 codeAny (model prog w) A (.call (.builtin "set.__new__") ⟨[.type "set",a],[]⟩) (wants Q E) s:=by
 refine codeAny_of_tree (wpAny_bind (m:=checkBuiltinCall "set.__new__" ⟨[.type "set",a],[]⟩) (wpAny_of_eq (PySem.F.newCall_set_1 a) (wpAny_pure ⟨plainId_quiet F.plain_set_new _,codeAny_builtin F.entry_set_new ?_⟩)))
 rw [Around.under_plainId F.plain_set_new _]
 have hz:=sub_set_self
 obtain ⟨hp,g,d,tk,os⟩:=s
 unfold Builtin.«set.__new__» Builtin.Frozenset.newClass
 dsimp only
 wp_walk
 refine wpAny_askSetting (wpAny_pure ?_)
 dsimp only
 simp only [newObj]
 exact wpAny_bind (wpAny_alloc (wpAny_pure (wpAny_pure h)))
end
end L2
namespace L2
open PySem
def VH (M:Nat):Nat->Nat->Nat
 | 0,i=>i
 | t+1,i=>VH M t ((i * 5+1) % M)
theorem UP (M:Nat):∀(s t i:Nat),VH M (s+t) i=VH M t (VH M s i)
 | 0,t,i=>by rw [Nat.zero_add];rfl
 | s+1,t,i=>by rw [show s+1+t=(s+t)+1 by omega];exact UP M s t _
theorem Zie (M t i:Nat):VH M (t+1) i=(VH M t i * 5+1) % M:=UP M t 1 i
def ZaA (t:Nat):Nat:=(5 ^ t - 1) / 4
theorem ZeZ (t:Nat):4 * ZaA t+1=5 ^ t:=by
 induction t with
 | zero=>rfl
 | succ t ih =>
  unfold ZaA
  rw [Nat.pow_succ]
  omega
theorem ZdN {M:Nat}(hM:0 < M)(t:Nat):VH M t 0=ZaA t % M:=by
 induction t with
 | zero=>exact (Nat.zero_mod M).symm
 | succ t ih =>
  rw [Zie,ih]
  have e:ZaA (t+1)=ZaA t * 5+1:=by
   have h1:=ZeZ t
   have h2:=ZeZ (t+1)
   rw [Nat.pow_succ] at h2
   omega
  rw [e,Nat.add_mod,Nat.mul_mod,Nat.mod_mod,<- Nat.mul_mod,<- Nat.add_mod]
def Ms:List Nat:=[8,16,32,64,128,256]
theorem Zja:(Ms.all fun M=>decide (ZaA M % M=0)&&(List.range M).all fun j=>(List.range M).any fun t=>decide (ZaA t % M=j))=true:=by decide +kernel
theorem Znt {M:Nat}(hM:M∈Ms){i j:Nat}(hi:i < M)(hj:j < M):∃ t,t < M/\VH M t i=j:=by
 have h0:0 < M:=by omega
 have h:=all_eq_true.mp Zja M hM
 rw [Bool.and_eq_true,decide_eq_true_eq] at h
 obtain ⟨hz,ha⟩:=h
 have at_:∀ {j},j < M->∃ t,t < M/\VH M t 0=j:=fun {j} hj=>by
  have:=all_eq_true.mp ha j (mem_range.mpr hj)
  obtain ⟨t,ht,e⟩:=List.any_eq_true.mp this
  exact ⟨t,mem_range.mp ht,by rw [ZdN h0];exact of_decide_eq_true e⟩
 obtain ⟨a,ha1,ha2⟩:=at_ hi
 obtain ⟨b,hb1,hb2⟩:=at_ hj
 by_cases hab:a<=b
 ·refine ⟨b - a,by omega,?_⟩
  rw [<- ha2,<- UP,show a+(b - a)=b by omega,hb2]
 ·refine ⟨b+M - a,by omega,?_⟩
  rw [<- ha2,<- UP,show a+(b+M - a)=M+b by omega,UP,ZdN h0,hz,hb2]
def We (mask:Nat):Nat->Nat×Nat->Nat×Nat
 | 0,s=>s
 | t+1,s=>We mask t (SetTable.leap mask s.1 s.2)
theorem Vy (mask:Nat):∀(s t:Nat)(x:Nat×Nat),We mask (s+t) x=We mask t (We mask s x)
 | 0,t,x=>by rw [Nat.zero_add];rfl
 | s+1,t,x=>by rw [show s+1+t=(s+t)+1 by omega];exact Vy mask s t _
theorem Zff (mask:Nat):∀(t:Nat)(x:Nat×Nat),(We mask t x).2=x.2 / 32 ^ t
 | 0,x=>by rw [Nat.pow_zero,Nat.div_one];rfl
 | t+1,x=>by
  show (We mask t (SetTable.leap mask x.1 x.2)).2=_
  rw [Zff mask t]
  show x.2 / 32 / 32 ^ t=_
  rw [Nat.div_div_eq_div_mul,Nat.pow_succ,Nat.mul_comm]
theorem ZeN (mask:Nat):∀(t i:Nat),(We mask t (i,0)).1=VH (mask+1) t i
 | 0,i=>rfl
 | t+1,i=>by
  show (We mask t ((i * 5+1+0 / 32) % (mask+1),0 / 32)).1=VH (mask+1) t ((i * 5+1) % (mask+1))
  rw [Nat.zero_div,Nat.add_zero]
  exact ZeN mask t _
theorem Zbu {mask:Nat}{ow:Array (Option Nat)}:∀{f i p j:Nat},SetTable.layClean.free mask ow f i p=some j->ow.getD j (some 0)=none
 | 0,_,_,_,h=>by simp [SetTable.layClean.free] at h
 | f + 1,i,p,j,h=>by
  unfold SetTable.layClean.free at h
  split at h
  ·rename_i k e
   have:=List.find?_some e
   cases h
   simpa using this
  ·exact Zbu h
theorem Zch {mask:Nat}{ow:Array (Option Nat)}:∀{f i p t:Nat},t < f->ow.getD (We mask t (i,p)).1 (some 0)=none->∃ j,SetTable.layClean.free mask ow f i p=some j
 | 0,_,_,_,h,_=>absurd h (by omega)
 | f + 1,i,p,t,h,hn=>by
  unfold SetTable.layClean.free
  cases e:(List.range (SetTable.runEnd mask i+1 - i)).find? fun k=>(ow.getD (i+k) (some 0)).isNone with
  | some k=>exact ⟨_,rfl⟩
  | none =>
   cases t with
   | zero =>
    have hr:i<=SetTable.runEnd mask i:=by unfold SetTable.runEnd;split<;>omega
    have:=List.find?_eq_none.mp e 0 (mem_range.mpr (by omega))
    rw [show i+0=i from rfl] at this
    have hn':ow.getD i (some 0)=none:=hn
    rw [hn'] at this
    exact absurd rfl this
   | succ t=>exact Zch (by omega) hn
theorem ZlB (h:Int):SetTable.bits h < 2 ^ 64:=by
 unfold SetTable.bits
 have h1:=Int.emod_nonneg h (show (2 ^ 64:Int)≠0 by decide)
 have h2:=Int.emod_lt_of_pos h (show (0:Int) < 2 ^ 64 by decide)
 have:((2 ^ 64:Nat):Int)=(2 ^ 64:Int):=by decide
 omega
theorem Zhd {mask:Nat}(hM:mask+1∈Ms){ow:Array (Option Nat)}{j:Nat}(hj:j < mask+1)(hn:ow.getD j (some 0)=none)(h:Int):∃ j',SetTable.layClean.free mask ow (SetTable.turns mask) (SetTable.bits h % (mask+1)) (SetTable.bits h)=some j':=by
 have hp:(We mask 13 (SetTable.bits h % (mask+1),SetTable.bits h)).2=0:=by
  rw [Zff]
  exact Nat.div_eq_of_lt (Nat.lt_trans (ZlB h) (by decide))
 generalize hx:We mask 13 (SetTable.bits h % (mask+1),SetTable.bits h)=x at hp
 have hx1:x.1 < mask+1:=by
  rw [<- hx,show 13=12+1 from rfl,Vy]
  exact Nat.mod_lt _ (by omega)
 obtain ⟨t,ht,e⟩:=Znt hM hx1 hj
 refine Zch (t:=13+t) (by unfold SetTable.turns;omega) ?_
 rw [Vy,hx,show x=(x.1,0) from Prod.ext rfl hp,ZeN,e]
 exact hn
theorem Zhk {k:Nat}:∀{l:List (Option Nat)}{j:Nat},l[j]?=some none->((l.set j (some k)).filterMap id).Perm (k::l.filterMap id)
 | [],_,h=>by simp at h
 | a::l,0,h=>by
  cases h
  rw [List.set_cons_zero]
  exact .refl _
 | a::l,j+1,h=>by
  rw [List.set_cons_succ]
  have ih:=Zhk (k:=k) (l:=l) (j:=j) (by simpa using h)
  cases a with
  | none=>exact ih
  | some b=>exact (ih.cons b).trans (.swap ..)
theorem ZmJ {l:List (Option Nat)}(h:∀ x∈l,x≠none):(l.filterMap id).length=l.length:=by
 induction l with
 | nil=>rfl
 | cons a l ih =>
  cases a with
  | none=>exact absurd rfl (h none mem_cons_self)
  | some b =>
   show (b::l.filterMap id).length=_
   rw [length_cons,length_cons,ih fun x hx=>h x (mem_cons_of_mem _ hx)]
theorem ZdC {mask:Nat}(hM:mask+1∈Ms):∀(hs:List Int)(ow:Array (Option Nat))(k:Nat),ow.size=mask+1->(ow.toList.filterMap id).Perm (List.range k)->k+hs.length<=mask ->
 ∃ ow',hs.foldl (fun acc h=>do
  let (owner,k) <- acc
  let j <- SetTable.layClean.free mask owner (SetTable.turns mask) (SetTable.bits h % (mask+1)) (SetTable.bits h)
  pure (owner.setIfInBounds j (some k),k+1)) (some (ow,k))=some (ow',k+hs.length)/\ow'.size=mask+1/\(ow'.toList.filterMap id).Perm (List.range (k+hs.length))
 | [],ow,k,h1,h2,_=>⟨ow,rfl,h1,h2⟩
 | h :: hs,ow,k,h1,h2,h3=>by
  rw [length_cons] at h3
  obtain ⟨j,hj,hn⟩:∃ j,j < mask+1/\ow.getD j (some 0)=none:=by
   apply Classical.byContradiction
   intro z
   have:(ow.toList.filterMap id).length=ow.toList.length:=ZmJ fun x hx y=>by
    obtain ⟨j,hj,e⟩:=mem_iff_getElem.mp hx
    rw [Array.length_toList,h1] at hj
    refine z ⟨j,hj,?_⟩
    rw [Array.getElem_toList] at e
    have hj':j < ow.size:=by omega
    simp [Array.getD,hj',e,y]
   rw [h2.length_eq,length_range,Array.length_toList,h1] at this
   omega
  obtain ⟨j',e⟩:=Zhd hM hj hn h
  have hj':=Zbu e
  have hlt:j' < ow.size:=by
   apply Classical.byContradiction
   intro z
   have:ow.getD j' (some 0)=some 0:=by simp [Array.getD,z]
   rw [this] at hj';cases hj'
  have hat:ow.toList[j']?=some none:=by
   rw [Array.getElem?_toList,Array.getElem?_eq_getElem hlt]
   have:ow.getD j' (some 0)=ow[j']:=by simp [Array.getD,hlt]
   rw [<- this,hj']
  obtain ⟨ow',g1,g2,g3⟩:=ZdC hM hs (ow.setIfInBounds j' (some k)) (k+1) (by rw [Array.size_setIfInBounds];exact h1) (by
   rw [Array.toList_setIfInBounds]
   refine (Zhk hat).trans ((h2.cons k).trans ?_)
   rw [List.range_succ]
   exact (List.perm_append_singleton k (List.range k)).symm) (by omega)
  refine ⟨ow',?_,g2,?_⟩
  ·rw [List.foldl_cons,length_cons,show k+(hs.length+1)=k+1+hs.length by omega,<- g1]
   congr 1
   show (do let j <- SetTable.layClean.free mask ow (SetTable.turns mask) (SetTable.bits h % (mask+1)) (SetTable.bits h);pure (ow.setIfInBounds j (some k),k+1))=_
   rw [e];rfl
  ·rw [length_cons,show k+(hs.length+1)=k+1+hs.length by omega];exact g3
theorem ZhK {mask:Nat}(hM:mask+1∈Ms){hs:Array Int}(hn:hs.size<=mask):∃ ow,SetTable.layClean mask hs=some ow/\ow.size=mask+1/\(ow.toList.filterMap id).Perm (List.range hs.size):=by
 have z:((Array.replicate (mask+1) (none:Option Nat)).toList.filterMap id)=[]:=by
  rw [Array.toList_replicate,List.filterMap_eq_nil_iff]
  intro x hx
  rw [(List.mem_replicate.mp hx).2];rfl
 obtain ⟨ow,h1,h2,h3⟩:=ZdC hM hs.toList (Array.replicate (mask+1) none) 0 (by simp) (by rw [z];exact .refl _) (by rw [Array.length_toList];omega)
 rw [Nat.zero_add,Array.length_toList] at h1 h3
 refine ⟨ow,?_,h2,h3⟩
 unfold SetTable.layClean
 rw [<- Array.foldl_toList]
 have:=congrArg (Option.map Prod.fst) h1
 exact this
theorem ZeE {mask:Nat}(hM:mask+1∈Ms){fg mv:Nat}{led plain b:Bool}(hled:b=true\/led=true){hs:Array Int}(hn:hs.size<=mask):∃ t order,SetTable.laid mask fg mv led plain hs=some (t,order)/\TOk b t/\t.fits hs.size=true/\t.mask=mask/\order.toList.Perm (List.range hs.size):=by
 obtain ⟨ow,e,hsz,hp⟩:=ZhK hM hn
 have hsnd:((List.range (mask+1)).filterMap fun j=>(ow.getD j none).map (j,·)).map (·.2)=ow.toList.filterMap id:=by
  rw [List.map_filterMap]
  have e1:ow.toList=(List.range (mask+1)).map fun j=>ow.getD j none:=by
   refine List.ext_getElem? fun j=>?_
   rw [getElem?_map,Array.getElem?_toList]
   by_cases hj:j < mask+1
   ·rw [List.getElem?_range hj,Array.getElem?_eq_getElem (by omega)]
    have hj':j < ow.size:=by omega
    simp [Array.getD,hj']
   ·rw [Array.getElem?_eq_none (by omega),List.getElem?_eq_none (by rw [length_range];omega)];rfl
  rw [e1,List.filterMap_map]
  congr 1
  funext j
  show Option.map _ (Option.map _ (ow.getD j none))=ow.getD j none
  cases ow.getD j none<;>rfl
 have hlen:((List.range (mask+1)).filterMap fun j=>(ow.getD j none).map (j,·)).length=hs.size:=by
  rw [<- length_map (f:=(·.2)),hsnd,hp.length_eq,length_range]
 refine ⟨_,_,by unfold SetTable.laid;rw [e];rfl,⟨?_,rfl,hled⟩,?_,rfl,?_⟩
 ·show Rz (List.toArray _)
  unfold Rz
  rw [List.toList_toArray]
  refine Zfi (fun j x e=>?_) List.pairwise_lt_range
  cases y:ow.getD j none with
  | none=>rw [y] at e;cases e
  | some m=>rw [y] at e;cases e;rfl
 ·unfold SetTable.fits SetTable.fill
  rw [Bool.and_eq_true,beq_iff_eq,decide_eq_true_eq]
  show (List.toArray _).size=hs.size/\(List.toArray _).size+0<=mask
  rw [size_toArray,length_map,hlen]
  exact ⟨rfl,by omega⟩
 ·show (List.toArray _).toList.Perm _
  rw [List.toList_toArray,hsnd];exact hp
end L2
namespace L2
open PySem PySem.Spec PyProof.Rows
section
variable {prog:Program}{w:World}{A:Around}{E:ZB}{s:Shared}
abbrev Ve (w:World):Obj:={ cls:=.type "set",dict:=none,data:=.set #[] 0 (.fresh 0 0 (!Xj w)) }
end
theorem Zbs:entryFor table "set.__iter__"=some Builtin.«frozenset.__iter__»:=entryFor_alias (id':="frozenset.__iter__") (by kernel_rfl) rfl (by decide +kernel) (by kernel_rfl)
theorem slot_seti_next:Slot "set_iterator" "__next__" "set_iterator.__next__" :=
 .of (owner:="set_iterator") (n:="__next__") (by rw [typeLookup_type,builtinLookup_eq_fast];kernel_rfl) (by decide +kernel) (by decide +kernel) (by decide +kernel) (by decide +kernel) (by rw [isSubtype_type];kernel_rfl)
theorem UT:Slot "set_iterator" "__iter__" "set_iterator.__iter__" :=
 .of (owner:="set_iterator") (n:="__iter__") (by rw [typeLookup_type,builtinLookup_eq_fast];kernel_rfl) (by decide +kernel) (by decide +kernel) (by decide +kernel) (by decide +kernel) (by rw [isSubtype_type];kernel_rfl)
theorem Ut:entryFor table "set_iterator.__next__"=some Builtin.«set_iterator.__next__»:=entryFor_of_tree (by kernel_rfl)
theorem UI (a:Value):argsOk "set_iterator.__next__" ⟨[a],[]⟩:=by unfold argsOk;kernel_rfl
theorem ZbR (a:Value):argsOk "set_iterator.__iter__" ⟨[a],[]⟩:=by unfold argsOk;kernel_rfl
theorem Zbl {α:Type}{l:List α}{i:Nat}(h:i < l.length):(l[i]::l.eraseIdx i).Perm l:=by
 rw [List.eraseIdx_eq_take_drop_succ]
 refine List.perm_middle.symm.trans ?_
 rw [<- List.drop_eq_getElem_cons h,List.take_append_drop]
section
variable {M:Model}{A:Around}{E:ZB}
theorem ZgV {s:Shared}{src:Source}{n:Nat}{Q:Nat->Shared->Prop}(hn:n≠0)(h:∀ i d,i < n->Q i { s with drawn:=d }):wpAny M A (choose src n) Q E s :=
 fun _ _ _=>⟨hn,h _ _ (Nat.mod_lt _ (Nat.pos_of_ne_zero hn))⟩
theorem Zdk {α:Type}(n:Nat):∀(xs:List α){s:Shared}{Q:List α->Shared->Prop},xs.length=n->(∀ ys d,ys.Perm xs->Q ys { s with drawn:=d })->wpAny M A (drawOrder n xs) Q E s:=by
 induction n with
 | zero =>
  intro xs s Q hl h
  cases xs with
  | nil=>exact wpAny_pure (h [] s.drawn (.refl _))
  | cons x r=>cases hl
 | succ n ih =>
  intro xs s Q hl h
  cases xs with
  | nil=>cases hl
  | cons x xs =>
   unfold drawOrder
   refine wpAny_bind (ZgV (by simp) fun i d hi=>?_)
   rw [getElem?_eq_getElem hi]
   refine wpAny_bind (ih ((x::xs).eraseIdx i) (by rw [List.length_eraseIdx_of_lt hi];rw [length_cons] at hl ⊢;omega) fun ys d' p=>wpAny_pure (h _ d' ?_))
   exact (p.cons _).trans (Zbl hi)
end
theorem ZeQ {α:Type}(f:Nat->Nat):∀(m k:Nat)(xs:List α)(out:Array α),xs.length<=m->(pickOrder.go f m k xs out).toList.Perm (out.toList++xs)
 | 0,k,xs,out,h=>by
  have:xs=[]:=eq_nil_of_length_eq_zero (by omega)
  subst this
  unfold pickOrder.go
  rw [append_nil]
 | m + 1,k,xs,out,h=>by
  unfold pickOrder.go
  cases xs with
  | nil=>simp
  | cons x r =>
   have hi:f k % (x::r).length < (x::r).length:=Nat.mod_lt _ (by simp)
   rw [getElem?_eq_getElem hi]
   have:=ZeQ f m (k+1) ((x::r).eraseIdx (f k % (x::r).length)) (out.push (x::r)[f k % (x::r).length]) (by rw [List.length_eraseIdx_of_lt hi];omega)
   refine this.trans ?_
   rw [Array.toList_push,append_assoc]
   exact (Zbl hi).append_left _
theorem Zcp {α:Type}(f:Nat->Nat)(xs:Array α):(pickOrder f xs).toList.Perm xs.toList:=by
 have:=ZeQ f xs.size 0 xs.toList #[] (by simp)
 unfold pickOrder
 simpa using this
def SetRw (h:Heap)(a:Addr)(xs:Array (Int×Value))(ep:Nat)(t:SetTable):Prop:=∃ o,h.get? a=some o/\o.ExactSet/\o.data=.set xs ep t
section
variable {prog:Program}{w:World}{A:Around}{E:ZB}{s:Shared}{I a:Addr}{first:Value}{i n ep:Nat}{xs:Array (Int×Value)}{t:SetTable}
theorem Zer {Q:ZB}(hR:SetRw s.heap a xs ep t)(hf:t.fits xs.size=true)(hb:xs.size < scanBound)
 (q1:(Xj w=true\/(!t.plain&&decide (xs.size > 1))=false)->Q (.ref s.heap.objs.size) { s with heap:=s.heap.push { cls:=.type "set_iterator",data:=.fields #[rawInt 0,rawInt 0,.ref a,rawInt xs.size,rawInt ep] } })
 (q2:∀ (ys:List Nat) (d:Drawn),Xj w=false->ys.Perm (List.range xs.size)->Q (.ref (s.heap.objs.size+1)) { s with heap:=(s.heap.push { cls:=.type "tuple",data:=.seq (ys.map fun (i:Nat)=>rawInt i).toArray }).push { cls:=.type "set_iterator",data:=.fields #[.ref s.heap.objs.size,rawInt 0,.ref a,rawInt xs.size,rawInt ep] },drawn:=d }) :
 wpAny (model prog w) A (pyIter (.ref a)) Q E s:=by
 obtain ⟨o,ho,hx,hd⟩:=hR
 have hT:s.TypeIs (.ref a) "set":=⟨o,ho,hx.1⟩
 refine wpAny_pyIter_slot hT PySem.F.slot_set_iter (wpAny_call_entry PySem.F.slot_set_iter hT Zbs ?_ (PySem.F.args_set_iter_1 _))
 unfold Builtin.«frozenset.__iter__»
 refine wpAny_bind (m:=Builtin.Frozenset.slot0 "__iter__" ⟨[.ref a],[]⟩) (wpAny_of_eq (a:=a) (by rfl) ?_)
 refine wpAny_bind (m:=Builtin.Frozenset.sizeOf a) (wpAny_bind (wpAny_setEntries_of ho hd hf (wpAny_pure ?_)))
 refine wpAny_bind (m:=setDrawn a) (wpAny_bind (wpAny_setState_of ho hd hf (wpAny_bind (m:=setsByText) (wpAny_bind (wpAny_askSetting (wpAny_pure (wpAny_pure ?_)))))))
 refine wpAny_ite_split (fun hc=>?_) (fun hc=>?_)
 ·have hc':(!Xj w&&(!t.plain&&decide (xs.size > 1)))=true:=hc
  rw [Bool.and_eq_true] at hc'
  refine wpAny_bind (Zdk xs.size (List.range xs.size) length_range fun ys d p=>?_)
  have hl:ys.length=xs.size:=by rw [p.length_eq,length_range]
  refine wpAny_bind (m:=newTuple _) (wpAny_newObj_type ?_ ?_)
  ·refine wpAny_bind (m:=setEpoch a) (wpAny_setEpoch_of (Heap.get?_push_of_some _ ho) hd hf ?_)
   refine wpAny_bind (m:=newFields _ _) (wpAny_newObj_type (wpAny_pure ⟨_,rfl,"set_iterator",_,⟨_,Heap.get?_push_size _ rfl,rfl⟩,slot_seti_next.lookup,?_⟩))
   have:=q2 ys d (by simpa using hc'.1) p
   rw [Heap.size_push]
   exact this
  ·show (List.toArray _).size<=sizeLine
   rw [size_toArray,length_map,hl]
   exact fits_of_scanBound hb
 ·refine wpAny_bind (wpAny_pure ?_)
  refine wpAny_bind (m:=setEpoch a) (wpAny_setEpoch_of ho hd hf ?_)
  refine wpAny_bind (m:=newFields _ _) (wpAny_newObj_type (wpAny_pure ⟨_,rfl,"set_iterator",_,⟨_,Heap.get?_push_size _ rfl,rfl⟩,slot_seti_next.lookup,?_⟩))
  refine q1 ?_
  have hc':¬ (!Xj w&&(!t.plain&&decide (xs.size > 1)))=true:=hc
  cases z:Xj w with
  | true=>exact .inl rfl
  | false=>rw [z] at hc';exact .inr (by simpa using hc')
end
section
variable {prog:Program}{w:World}{A:Around}{E:ZB}{s:Shared}{I a:Addr}{first:Value}{i n ep:Nat}{xs:Array (Int×Value)}{t:SetTable}
def Ue (w:World)(a:Addr)(ep:Nat)(xs:Array (Int×Value)):List Value:=if Xj w=true then (pickOrder (w.params.setOrder a ep) xs).toList.map (·.2) else xs.toList.map (·.2)
theorem ordE_perm:(Ue w a ep xs).Perm (xs.toList.map (·.2)):=by
 unfold Ue
 split
 ·exact (Zcp _ _).map _
 ·exact .refl _
theorem Zau:(Ue w a ep xs).length=xs.size:=by rw [ordE_perm.length_eq,length_map,Array.length_toList]
def Vu (w:World)(t:SetTable)(i slot:Nat):Prop:=Xj w=true\/SetTable.below t.place slot=i
theorem ZfW {slot:Nat}{Q:Option (Value×Nat)->Shared->Prop}(hR:SetRw s.heap a xs ep t)(hf:t.fits xs.size=true)(ht:TOk (Xj w) t)(hnd:Xj w=true\/(!t.plain&&decide (xs.size > 1))=false)(hs:Vu w t i slot)
 (q1:∀ v slot',(Ue w a ep xs)[i]?=some v->Vu w t (i+1) slot'->Q (some (v,slot')) s) (q2:(Ue w a ep xs)[i]?=none->Q none s):wpAny (model prog w) A (setNext a slot i ep) Q E s:=by
 obtain ⟨o,ho,hx,hd⟩:=hR
 unfold setNext
 refine wpAny_bind (wpAny_setState_of ho hd hf ?_)
 refine wpAny_bind (m:=setsByText) (wpAny_bind (wpAny_askSetting (wpAny_pure ?_)))
 dsimp only
 refine wpAny_ite_split (fun hc=>?_) (fun hc=>?_)
 ·have hc':Xj w=true:=hc
  rw [if_neg (by simp)]
  refine wpAny_bind (m:=setWalk a) ?_
  unfold setWalk
  refine wpAny_bind (wpAny_setState_of ho hd hf ?_)
  refine wpAny_bind (m:=setsByText) (wpAny_bind (wpAny_askSetting (wpAny_pure ?_)))
  dsimp only
  rw [if_pos hc]
  refine wpAny_bind (wpAny_askSetting (wpAny_pure (wpAny_pure ?_)))
  unfold Ue at q1 q2
  rw [if_pos hc',getElem?_map,Array.getElem?_toList] at q2
  show Q (Option.map (fun e=>(e.2,slot)) (pickOrder (w.params.setOrder a ep) xs)[i]?) s
  cases e:(pickOrder (w.params.setOrder a ep) xs)[i]? with
  | none=>exact q2 (by rw [e];rfl)
  | some x =>
   refine q1 x.2 slot ?_ (.inl hc')
   rw [if_pos hc',getElem?_map,Array.getElem?_toList,e];rfl
 ·have hc':Xj w=false:=by
   have:¬ Xj w=true:=hc
   simpa using this
  refine wpAny_ite_split (fun hz=>?_) (fun hz=>?_)
  ·have hz':(!t.plain&&decide (xs.size > 1))=true:=hz
   rcases hnd with y | y
   ·rw [hc'] at y;cases y
   ·rw [y] at hz';cases hz'
  ·have hled:t.led=true:=by
    rcases ht.led with y | y
    ·rw [hc'] at y;cases y
    ·exact y
   have hpl:t.place.size=xs.size:=by
    unfold SetTable.fits at hf
    rw [Bool.and_eq_true,beq_iff_eq] at hf
    exact hf.1
   have hbe:SetTable.below t.place slot=i:=by
    rcases hs with y | y
    ·rw [hc'] at y;cases y
    ·exact y
   refine wpAny_bind (show wpAny (model prog w) A (if (!t.led&&!xs.isEmpty)=true then unsupported "set:maker-not-led" else pure ()) _ E s from ?_)
   rw [hled,if_neg (by simp)]
   refine wpAny_pure (wpAny_pure ?_)
   unfold Ue at q1 q2
   rw [if_neg (by rw [hc'];simp),getElem?_map,Array.getElem?_toList] at q2
   rw [hbe]
   by_cases hi:i < xs.size
   ·have hip:i < t.place.size:=by omega
    rw [Array.getElem?_eq_getElem hi,Array.getElem?_eq_getElem hip]
    refine q1 _ _ ?_ (.inr (Zfo ht.rz hip))
    rw [if_neg (by rw [hc'];simp),getElem?_map,Array.getElem?_toList,Array.getElem?_eq_getElem hi];rfl
   ·rw [Array.getElem?_eq_none (by omega)]
    exact q2 (by rw [Array.getElem?_eq_none (by omega)];rfl)
theorem Vm {x:Value}{j:Nat}{vs:Array Value}(ho:s.heap.get? I=some { cls:=.type "set_iterator",data:=.fields vs }):(s.heap.update I (Obj.mapFields (·.setIfInBounds j x))).get? I=some { cls:=.type "set_iterator",data:=.fields (vs.setIfInBounds j x) } :=
 Heap.get?_update_self (Obj.mapFields (·.setIfInBounds j x)) ho rfl
abbrev itO (f:Value)(i:Nat)(a:Addr)(n ep:Nat):Obj:={ cls:=.type "set_iterator",data:=.fields #[f,rawInt i,.ref a,rawInt n,rawInt ep] }
theorem Zej {g:Shared}{Q:Option Value->Shared->Prop}(hh:A.handled=none)(q:∀ h',(∀ b o,g.heap.get? b=some o->h'.get? b=some o)->Q none { g with heap:=h' })
 {R:PySem.Fin->Shared->Prop} {E':ZB} (hE:∀ e s',wpAny (model prog w) A (do if (<- isInstance e (Value.type "StopIteration"))=true then pure none else throw e) Q E s'->E' e s'):wpAny (model prog w) A.in1 (do let e <- newExc (Value.type "StopIteration") [];raiseNew e) R E' g:=by
 refine wpAny_bind ?_
 simp only [newExc,newTuple]
 refine wpAny_bind (wpAny_newObj_type ?_ (by size_fits))
 refine wpAny_bind (m:=firstArgMember _ _) (wpAny_of_eq (a:=Value.none) (by first | rfl | (simp only [firstArgMember];rfl)) ?_)
 refine wpAny_newObj_type ?_ (by size_fits)
 simp only [raiseNew]
 refine wpAny_bind (wpAny_handled ?_)
 rw [show A.in1.handled=none from hh]
 refine wpAny_bind (wpAny_pure (wpAny_throw (hE _ _ ?_)))
 refine wpAny_bind (wpAny_isInstance (T:="StopIteration") (b:=true) ⟨_,Heap.get?_push_size _ rfl,rfl⟩ isSubtype_stop (wpAny_pure (q _ fun b o e=>?_)))
 exact Heap.get?_push_of_some _ (Heap.get?_push_of_some _ e)
theorem ZcB {slot:Nat}{Q:Option Value->Shared->Prop}(hI:s.heap.get? I=some (itO (rawInt slot) i a xs.size ep))(hR:SetRw s.heap a xs ep t)(hf:t.fits xs.size=true)(ht:TOk (Xj w) t)(hnd:Xj w=true\/(!t.plain&&decide (xs.size > 1))=false)(hs:Vu w t i slot)(hh:A.handled=none)
 (q1:∀ v slot' h',(Ue w a ep xs)[i]?=some v->Vu w t (i+1) slot'->h'.get? I=some (itO (rawInt slot') (i+1) a xs.size ep)->Heap.ExtBut I s.heap h'->Q (some v) { s with heap:=h' })
 (q2:∀ h',(Ue w a ep xs)[i]?=none->Heap.ExtBut I s.heap h'->Q none { s with heap:=h' }):wpAny (model prog w) A (pyNext (.ref I)) Q E s:=by
 have hT:s.TypeIs (.ref I) "set_iterator":=⟨_,hI,rfl⟩
 obtain ⟨o,ho,hx,hd⟩:=id hR
 unfold pyNext
 refine wpAny_bind (wpAny_attempt (wpAny_callSpecial?_slot (name:=Str.ofString "__next__") hT slot_seti_next (wpAny_call_entry slot_seti_next hT Ut ?_ (UI _))))
 unfold Builtin.«set_iterator.__next__»
 refine wpAny_bind (wpAny_pure (wpAny_bind (wpAny_fieldsOf hI rfl ?_)))
 show wpAny (model prog w) A.in1 (setEntries a >>= _) _ _ s
 refine wpAny_bind (wpAny_setEntries_of ho hd hf ?_)
 dsimp only
 rw [if_neg (by simp)]
 show wpAny (model prog w) A.in1 (setNext a (slot:Int).toNat (i:Int).toNat (ep:Int).toNat >>= _) _ _ s
 rw [Int.toNat_natCast,Int.toNat_natCast,Int.toNat_natCast]
 refine wpAny_bind (ZfW hR hf ht hnd hs (fun v slot' hv hs'=>?_) (fun hv=>?_))
 ·dsimp only
  refine wpAny_bind (wpAny_setField hI rfl (by simp) ?_)
  have h1:=Vm (x:=rawInt slot') (j:=0) hI
  refine wpAny_bind (wpAny_setField (s:={ s with heap:=_ }) h1 rfl (by simp) ?_)
  have h2:=Vm (s:={ s with heap:=_ }) (x:=rawInt ((i:Int)+1)) (j:=1) h1
  exact wpAny_pure ⟨_,rfl,wpAny_pure (q1 v slot' _ hv hs' h2 (((Heap.SameBut.update ..).extBut).trans (Heap.SameBut.update ..).extBut))⟩
 ·dsimp only
  refine wpAny_bind (wpAny_setField hI rfl (by simp) ?_)
  exact Zej (g:={ s with heap:=s.heap.update I (Obj.mapFields (·.setIfInBounds 2 Value.none)) }) hh (fun h' k=>q2 h' hv fun b o nb e=>k b o ((Heap.SameBut.update s.heap I _).extBut b o nb e)) fun e s' z=>z
theorem ZaW {T:Addr}{ys:List Nat}{e0:Nat}{Q:Option Value->Shared->Prop}(hI:s.heap.get? I=some (itO (.ref T) i a xs.size ep))(hT:s.heap.get? T=some { cls:=.type "tuple",data:=.seq (ys.map fun (i:Nat)=>rawInt i).toArray e0 })(hR:SetRw s.heap a xs ep t)(hf:t.fits xs.size=true)(hy:∀ y∈ys,y < xs.size)(hh:A.handled=none)
 (q1:∀ (y:Nat) (v:Int×Value) h',ys[i]?=some y->xs[y]?=some v->h'.get? I=some (itO (.ref T) (i+1) a xs.size ep)->Heap.ExtBut I s.heap h'->Q (some v.2) { s with heap:=h' })
 (q2:∀ h',ys[i]?=none->Heap.ExtBut I s.heap h'->Q none { s with heap:=h' }):wpAny (model prog w) A (pyNext (.ref I)) Q E s:=by
 have hTI:s.TypeIs (.ref I) "set_iterator":=⟨_,hI,rfl⟩
 obtain ⟨o,ho,hx,hd⟩:=id hR
 unfold pyNext
 refine wpAny_bind (wpAny_attempt (wpAny_callSpecial?_slot (name:=Str.ofString "__next__") hTI slot_seti_next (wpAny_call_entry slot_seti_next hTI Ut ?_ (UI _))))
 unfold Builtin.«set_iterator.__next__»
 refine wpAny_bind (wpAny_pure (wpAny_bind (wpAny_fieldsOf hI rfl ?_)))
 show wpAny (model prog w) A.in1 (setEntries a >>= _) _ _ s
 refine wpAny_bind (wpAny_setEntries_of ho hd hf ?_)
 dsimp only
 rw [if_neg (by simp)]
 show wpAny (model prog w) A.in1 (seqItems? (.ref T) >>= _) _ _ s
 refine wpAny_bind (wpAny_bind (wpAny_load hT (wpAny_pure ?_)))
 dsimp only
 rw [Int.toNat_natCast,List.getElem?_toArray,getElem?_map]
 cases e:ys[i]? with
 | none =>
  dsimp only [Option.map_none]
  refine wpAny_bind (wpAny_setField hI rfl (by simp) ?_)
  have h1:=Vm (x:=rawInt 0) (j:=0) hI
  refine wpAny_bind (wpAny_setField (s:={ s with heap:=_ }) h1 rfl (by simp) ?_)
  refine Zej (g:={ s with heap:=(s.heap.update I (Obj.mapFields (·.setIfInBounds 0 (rawInt 0)))).update I (Obj.mapFields (·.setIfInBounds 2 Value.none)) }) hh (fun h' k=>q2 h' e fun b o nb z=>k b o ?_) fun e s' z=>z
  exact (((Heap.SameBut.update ..).extBut).trans (Heap.SameBut.update ..).extBut) b o nb z
 | some y =>
  have hlt:=hy y (mem_of_getElem? e)
  show wpAny (model prog w) A.in1 (setNextDrawn a (y:Int).toNat (ep:Int).toNat >>= _) _ _ s
  rw [Int.toNat_natCast,Int.toNat_natCast]
  refine wpAny_bind ?_
  unfold setNextDrawn
  refine wpAny_bind (wpAny_setState_of ho hd hf ?_)
  dsimp only
  rw [if_neg (by simp),Array.getElem?_eq_getElem hlt]
  refine wpAny_pure ?_
  refine wpAny_bind (wpAny_setField hI rfl (by simp) ?_)
  have h1:=Vm (x:=rawInt ((i:Int)+1)) (j:=1) hI
  exact wpAny_pure ⟨_,rfl,wpAny_pure (q1 y _ _ e (Array.getElem?_eq_getElem hlt) h1 (Heap.SameBut.update ..).extBut)⟩
end
theorem ZgE:((List.range 256).all fun n=>decide (SetTable.sizeAbove n∈Ms)&&decide (n < SetTable.sizeAbove n))=true:=by decide +kernel
theorem above {n:Nat}(h:n < 256):SetTable.sizeAbove n∈Ms/\n < SetTable.sizeAbove n:=by
 have:=all_eq_true.mp ZgE n (mem_range.mpr h)
 rw [Bool.and_eq_true,decide_eq_true_eq,decide_eq_true_eq] at this
 exact this
theorem Zkz {M:Nat}(h:M∈Ms):8<=M/\M<=256:=by
 simp only [Ms,mem_cons,not_mem_nil,or_false] at h
 omega
def SetM (P:Program)(w:World)(h:Heap)(a:Addr)(ks:List Zk):Prop :=
 ∃ o xs ep t,h.get? a=some o/\o.ExactSet/\o.data=.set xs ep t/\ElemsOf (Zl P w) xs.toList/\(XL xs).Perm ks/\ks.Nodup/\xs.size < scanBound/\t.fits xs.size=true/\TOk (Xj w) t/\(ks=[]->t.mask+1∈Ms)
theorem SetM.g {P:Program}{w:World}{h:Heap}{a:Addr}{ks:List Zk}(G:SetM P w h a ks):SetG P w h a ks:=by
 obtain ⟨o,xs,ep,t,h1,h2,h3,h4,h5,h6,h7,h8,h9,_⟩:=G
 exact ⟨o,xs,ep,t,h1,h2,h3,h4,h5,h6,h7,h8,h9⟩
theorem SetG.m {P:Program}{w:World}{h:Heap}{a:Addr}{ks:List Zk}(G:SetG P w h a ks)(hne:ks≠[]):SetM P w h a ks:=by
 obtain ⟨o,xs,ep,t,h1,h2,h3,h4,h5,h6,h7,h8,h9⟩:=G
 exact ⟨o,xs,ep,t,h1,h2,h3,h4,h5,h6,h7,h8,h9,fun z=>absurd z hne⟩
theorem WE {xs:Array (Int×Value)}:(XL xs).length=xs.size:=by unfold XL;rw [length_map,Array.length_toList]
section
variable {prog:Program}{w:World}{A:Around}{E:ZB}{s:Shared}
theorem ZaF {es:Array (Int×Value)}{order:Array Nat}(h:order.toList.Perm (List.range es.size)):(order.filterMap (es[·]?)).toList.Perm es.toList/\(order.filterMap (es[·]?)).size=es.size:=by
 have p:(order.filterMap (es[·]?)).toList.Perm es.toList:=by
  rw [Array.toList_filterMap]
  exact (h.filterMap _).trans (by rw [filterMap_getElem?_range])
 exact ⟨p,by rw [<- Array.length_toList,p.length_eq,Array.length_toList]⟩
theorem Zlv {a:Addr}{ks:List Zk}{n:Nat}{Q:Unit->Shared->Prop}(G:SetG prog w s.heap a ks)(hn:n < 256)(hk:ks.length<=n)(q:∀ h',Heap.SameBut a s.heap h'->SetM prog w h' a ks->(∀ o xs ep t,h'.get? a=some o->o.data=.set xs ep t->n<=t.mask)->Q () { s with heap:=h' }) :
   wpAny (model prog w) A (setRelay a n) Q E s:=by
 obtain ⟨o,xs,ep,t,ho,hx,hd,h1,h2,h3,h4,h5,h6⟩:=G
 obtain ⟨hM,hlt⟩:=above hn
 have hM9:=Zkz hM
 have hsz:xs.size=ks.length:=by rw [<- h2.length_eq,WE]
 unfold setRelay
 refine wpAny_bind (wpAny_setState_of ho hd h5 ?_)
 dsimp only
 rw [if_neg (by rw [sizeLine_eq];omega)]
 obtain ⟨u,order,e,htk,hfit,hmask,hp⟩:=ZeE (mask:=SetTable.sizeAbove n - 1) (fg:=t.finger) (mv:=t.movedTo (SetTable.sizeAbove n - 1)) (led:=t.led) (plain:=t.plain) (hs:=xs.map (·.1)) (by rw [show SetTable.sizeAbove n - 1+1=SetTable.sizeAbove n by omega];exact hM) h6.led (by rw [Array.size_map];omega)
 rw [Array.size_map] at hfit hp
 obtain ⟨p1,p2⟩:=ZaF (es:=xs) hp
 refine wpAny_bind (show wpAny (model prog w) A (do
     let some (t,order):=t.relaid (xs.map (·.1)) n | unsupported "internal:set-table-without-room"
     let es':=order.filterMap (xs[·]?)
     if es'.size != xs.size then unsupported "internal:set-table-lost-an-element"
     pure (es',t)) _ E s from ?_)
 rw [show t.relaid (xs.map (·.1)) n=some (u,order) from e]
 dsimp only
 rw [if_neg (by rw [p2];simp)]
 refine wpAny_pure ?_
 dsimp only
 refine wpAny_storeSet_of ho hd ?_ (fits_of_scanBound (by rw [p2];exact h4))
 refine q _ (Heap.SameBut.update s.heap a _) ⟨_,_,_,u,Wv ho hd,hx,rfl,h1.perm p1,(p1.map _).trans h2,h3,by rw [p2];exact h4,by rw [p2];exact hfit,htk,fun _=>?_⟩ fun o' xs' ep' t' ho' hd'=>?_
 · rw [hmask,show SetTable.sizeAbove n - 1+1=SetTable.sizeAbove n by omega];exact hM
 · rw [Wv ho hd] at ho'
   cases ho'
   cases hd'
   omega
theorem Zhf {a:Addr}{ks:List Zk}{n:Nat}{Q:Unit->Shared->Prop}(G:SetM prog w s.heap a ks)(hn:ks.length+n<=120)(q:∀ h',Heap.SameBut a s.heap h'->SetM prog w h' a ks->(ks=[]->∀ o xs ep t,h'.get? a=some o->o.data=.set xs ep t->n<=t.mask)->Q () { s with heap:=h' }) :
 wpAny (model prog w) A (setRoomFor a n) Q E s:=by
 obtain ⟨o,xs,ep,t,ho,hx,hd,h1,h2,h3,h4,h5,h6,h7⟩:=id G
 have hsz:xs.size=ks.length:=by rw [<- h2.length_eq,WE]
 have hpl:t.place.size=xs.size:=by
  unfold SetTable.fits at h5
  rw [Bool.and_eq_true,beq_iff_eq] at h5
  exact h5.1
 unfold setRoomFor
 refine wpAny_bind (wpAny_setState_of ho hd h5 ?_)
 dsimp only
 unfold SetTable.roomFor
 by_cases c:(t.fill+n) * 5 ≥ t.mask * 3
 ·rw [if_pos c]
  refine Zlv G.g (by omega) (by omega) fun h' sb G' hm=>q h' sb G' fun hz o' xs' ep' t' ho' hd'=>?_
  have:=hm o' xs' ep' t' ho' hd'
  omega
 ·rw [if_neg c]
  refine wpAny_pure (q s.heap (Heap.SameBut.refl a s.heap) G fun hz o' xs' ep' t' ho' hd'=>?_)
  rw [ho] at ho';cases ho'
  rw [hd] at hd';cases hd'
  have hM:=Zkz (h7 hz)
  unfold SetTable.fill at c
  omega
theorem Zhs {l:List Addr}{Q:Bool->Shared->Prop}(h:∀ a∈l,∃ ks,SetG prog w s.heap a ks)(q:Q true s):wpAny (model prog w) A (setsQuiet l) Q E s:=by
 unfold setsQuiet
 refine wpAny_bind (wpAny_forIn_list _ (fun rest r s'=>r=(none,())/\s'=s/\∀ a∈rest,∃ ks,SetG prog w s.heap a ks) _ ?_ ?_ _ _ ⟨rfl,rfl,h⟩)
 ·rintro a rest r s' ⟨rfl,rfl,hr⟩
  obtain ⟨ks,o,xs,ep,t,ho,hx,hd,h1,h2,h3,h4,h5,h6⟩:=hr a mem_cons_self
  refine wpAny_bind (wpAny_setEntries_of ho hd h5 ?_)
  rw [<- Array.forIn_toList]
  refine wpAny_bind (wpAny_forIn_list _ (fun (rest:List (Int×Value)) r s2=>r=(none,())/\s2=s'/\∀ e∈rest,∃ k,Xc k e.2=true) _ ?_ ?_ _ _ ⟨rfl,rfl,fun e he=>let ⟨⟨k,hk,_⟩,_⟩:=h1 e he;⟨k,hk⟩⟩)
  ·rintro ⟨h9,v⟩ rest2 r s2 ⟨rfl,rfl,hk⟩
   obtain ⟨k,hk1⟩:=hk (h9,v) mem_cons_self
   obtain ⟨i,t,_,e⟩ | ⟨x,t,_,e⟩:=ZT hk1
   ·cases e
    exact wpAny_pure ⟨rfl,rfl,fun e he=>hk e (mem_cons_of_mem _ he)⟩
   ·cases e
    exact wpAny_pure ⟨rfl,rfl,fun e he=>hk e (mem_cons_of_mem _ he)⟩
  ·rintro r s2 ⟨rfl,rfl,_⟩
   exact wpAny_pure ⟨rfl,rfl,fun b hb=>hr b (mem_cons_of_mem _ hb)⟩
 ·rintro r s' ⟨rfl,rfl,_⟩
  exact wpAny_pure q
theorem ZiX {a f:Addr}{ks kf:List Zk}{Q:Array (Int×Value)->Shared->Prop}(hne:f≠a)(G:SetG prog w s.heap a ks)(Gf:SetG prog w s.heap f kf)
 (q:∀ (es:Array (Int×Value)) h' d,Heap.SameBut f s.heap h'->SetG prog w h' f kf->ElemsOf (Zl prog w) es.toList->(XL es).Perm ks->Q es { s with heap:=h',drawn:=d }) :
 wpAny (model prog w) A (setWalkUnseen a [f] (some f)) Q E s:=by
 obtain ⟨o,xs,ep,t,ho,hx,hd,h1,h2,h3,h4,h5,h6⟩:=G
 obtain ⟨o2,xs2,ep2,t2,go,gx,gd,g1,g2,g3,g4,g5,g6⟩:=id Gf
 have back:∀ (es:Array (Int×Value)),es.toList.Perm xs.toList->∀ d,Q es { s with drawn:=d }:=fun es p d=>q es s.heap d (Heap.SameBut.refl _ _) Gf (h1.perm p) ((p.map _).trans h2)
 have walk:wpAny (model prog w) A (setWalk a) Q E s:=by
  unfold setWalk
  refine wpAny_bind (wpAny_setState_of ho hd h5 ?_)
  refine wpAny_bind (m:=setsByText) (wpAny_bind (wpAny_askSetting (wpAny_pure ?_)))
  dsimp only
  refine wpAny_ite_split (fun hc=>?_) (fun hc=>?_)
  ·exact wpAny_bind (wpAny_askSetting (wpAny_pure (back _ (Zcp _ _) s.drawn)))
  ·have hb:Xj w=false:=by
    have:¬ Xj w=true:=hc
    simpa using this
   refine wpAny_ite_split (fun _=>?_) (fun _=>?_)
   ·refine wpAny_bind (Zdk xs.size xs.toList (by simp) fun ys d p=>wpAny_pure (back _ (by rw [List.toList_toArray];exact p) d))
   ·have hl:t.led=true:=by
     rcases h6.led with y | y
     ·rw [hb] at y;cases y
     ·exact y
    refine wpAny_bind (show wpAny (model prog w) A (if (!t.led&&decide (xs.size > 1))=true then unsupported "set:maker-not-led" else pure ()) _ E s from ?_)
    rw [hl,if_neg (by simp)]
    exact wpAny_pure (wpAny_pure (back _ (.refl _) s.drawn))
 unfold setWalkUnseen
 refine wpAny_bind (wpAny_setState_of ho hd h5 ?_)
 refine wpAny_bind (m:=setsByText) (wpAny_bind (wpAny_askSetting (wpAny_pure ?_)))
 dsimp only
 refine wpAny_ite_split (fun _=>walk) (fun hc=>?_)
 refine wpAny_bind (Zhs (fun b hb=>?_) ?_)
 ·simp only [mem_cons,not_mem_nil,or_false] at hb
  rcases hb with rfl | rfl
  ·exact ⟨ks,o,xs,ep,t,ho,hx,hd,h1,h2,h3,h4,h5,h6⟩
  ·exact ⟨kf,Gf⟩
 ·rw [if_neg (by decide)]
  refine wpAny_bind (wpAny_rule (wpAny_bind (wpAny_setState_of go gd g5 ?_)))
  dsimp only
  refine wpAny_ite_split (fun _=>?_) (fun _=>wpAny_pure (back xs (.refl _) s.drawn))
  refine wpAny_bind (wpAny_storeSet_of go gd ?_ (fits_of_scanBound g4))
  refine wpAny_pure (q xs _ s.drawn (Heap.SameBut.update s.heap f _) ⟨_,xs2,_,_,Wv go gd,gx,rfl,g1,g2,g3,g4,?_,⟨g6.rz,g6.du,?_⟩⟩ h1 h2)
  ·unfold SetTable.fits SetTable.fill at g5 ⊢;exact g5
  ·rcases g6.led with y | y
   ·exact .inl y
   ·rcases h6.led with z | z
    ·exact .inl z
    ·exact .inr (by rw [y,z];rfl)
end
theorem SetG.cast {P:Program}{w:World}{h:Heap}{a:Addr}{ks kr:List Zk}(G:SetG P w h a ks)(p:ks.Perm kr):SetG P w h a kr:=by
 obtain ⟨o,xs,ep,t,h1,h2,h3,h4,h5,h6,h7⟩:=G
 exact ⟨o,xs,ep,t,h1,h2,h3,h4,h5.trans p,p.nodup_iff.mp h6,h7⟩
theorem ZeT {k1 k2:List Zk}(h1:k1.Nodup)(h2:k2.Nodup)(h:∀ x,x∈k1↔x∈k2):k1.Perm k2:=(List.perm_ext_iff_of_nodup h1 h2).mpr h
section
variable {prog:Program}{w:World}{A:Around}{E:ZB}{s:Shared}
theorem ZeG {S o:Addr}{ks ko:List Zk}{each:Sem Unit}{Q:Unit->Shared->Prop}(hne:S≠o)(G:SetM prog w s.heap S ks)(Go:SetG prog w s.heap o ko)(hn:ks.length+ko.length<=120)
   (he:∀ (s1:Shared) (R:Unit->Shared->Prop),(∀ u,s.heap.get? o=some u->s1.heap.get? o=some u)->R () s1->wpAny (model prog w) A each R E s1)
   (q:∀ h' d,Heap.SameBut S s.heap h'->SetM prog w h' S (ko.foldl Ys ks)->Q () { s with heap:=h',drawn:=d }):wpAny (model prog w) A (setMerge S o each) Q E s:=by
 obtain ⟨oo,eo,epo,to,ho,hxo,hdo,a1,a2,a3,a4,a5,a6⟩:=id Go
 have hol:eo.size=ko.length:=by rw [<- a2.length_eq,WE]
 unfold setMerge
 rw [if_neg (by simpa using hne)]
 refine wpAny_bind (wpAny_setState_of ho hdo a5 ?_)
 dsimp only
 refine wpAny_ite_split (fun hz=>?_) (fun hz=>?_)
 · have hk0:ko=[]:=eq_nil_of_length_eq_zero (by rw [<- hol];simpa using hz)
   subst hk0
   exact wpAny_pure (q s.heap s.drawn (Heap.SameBut.refl _ _) G)
 · have hko:ko≠[]:=fun z=>hz (by rw [z] at hol;simp [Array.isEmpty,hol])
   have hfne:ko.foldl Ys ks≠[]:=fun z=>by
     obtain ⟨k,hk⟩:=List.exists_mem_of_ne_nil ko hko
     have:=(XT (x:=k) ko ks).mpr (.inr hk)
     rw [z] at this;cases this
   refine wpAny_bind (Zhf G (by omega) fun h1 sb1 G1 hmask=>?_)
   obtain ⟨o1,xs1,ep1,t1,b1,b2,b3,b4,b5,b6,b7,b8,b9,b10⟩:=id G1
   have ho1:h1.get? o=some oo:=(sb1.2 o hne.symm).trans ho
   have hpl:t1.place.size=xs1.size:=by
     have:=b8
     unfold SetTable.fits at this
     rw [Bool.and_eq_true,beq_iff_eq] at this
     exact this.1
   have hsz1:xs1.size=ks.length:=by rw [<- b5.length_eq,WE]
   refine wpAny_bind (wpAny_setState_of (s:={ s with heap:=h1 }) b1 b3 b8 ?_)
   dsimp only
   have hempty:t1.fill=0->ks=[]/\(ko.foldl Ys ks).Perm ko:=fun z=>by
     unfold SetTable.fill at z
     have:ks=[]:=eq_nil_of_length_eq_zero (by omega)
     subst this
     exact ⟨rfl,ZeT (XB ko [] .nil) a3 fun x=>by rw [XT];simp⟩
   have hled:Xj w=true\/(t1.led&&to.led)=true:=by
     rcases b9.led with y | y
     · exact .inl y
     · rcases a6.led with z | z
       · exact .inl z
       · exact .inr (by rw [y,z];rfl)
   cases hr:t1.road to with
   | slotForSlot =>
     have hf0:t1.fill=0:=by
       apply Classical.byContradiction
       intro z
       unfold SetTable.road at hr
       rw [if_pos (by simpa using z)] at hr;cases hr
     obtain ⟨rfl,hp⟩:=hempty hf0
     dsimp only
     refine wpAny_storeSet_of b1 b3 ?_ (fits_of_scanBound a4)
     refine q _ s.drawn (sb1.trans (Heap.SameBut.update h1 S _)) (SetG.m (SetG.cast ⟨_,eo,_,_,Wv b1 b3,b2,rfl,a1,a2,a3,a4,?_,⟨a6.rz,a6.du,hled⟩⟩ hp.symm) hfne)
     unfold SetTable.fits SetTable.fill at a5 ⊢;exact a5
   | clean =>
     have hf0:t1.fill=0:=by
       apply Classical.byContradiction
       intro z
       unfold SetTable.road at hr
       rw [if_pos (by simpa using z)] at hr;cases hr
     obtain ⟨rfl,hp⟩:=hempty hf0
     dsimp only
     have hm:=hmask rfl o1 xs1 ep1 t1 b1 b3
     obtain ⟨u,order,e,htk,hfit,hmk,hpm⟩:=ZeE (mask:=t1.mask) (fg:=t1.finger) (mv:=t1.moves) (led:=t1.led&&to.led) (plain:=t1.plain&&to.plain) (hs:=eo.map (·.1)) (b10 rfl) hled (by rw [Array.size_map];omega)
     rw [Array.size_map] at hfit hpm
     obtain ⟨p1,p2⟩:=ZaF (es:=eo) hpm
     refine wpAny_bind (show wpAny (model prog w) A (do
         let some (t,order):=SetTable.laid t1.mask t1.finger t1.moves (led:=t1.led&&to.led) (plain:=t1.plain&&to.plain) (eo.map (·.1)) | unsupported "internal:set-table-without-room"
         let es':=order.filterMap (eo[·]?)
         if es'.size != eo.size then unsupported "internal:set-table-lost-an-element"
         pure (es',t)) _ E _ from ?_)
     rw [e]
     dsimp only
     rw [if_neg (by rw [p2];simp)]
     refine wpAny_pure ?_
     dsimp only
     refine wpAny_storeSet_of b1 b3 ?_ (fits_of_scanBound (by rw [p2];exact a4))
     exact q _ s.drawn (sb1.trans (Heap.SameBut.update h1 S _)) (SetG.m (SetG.cast ⟨_,_,_,u,Wv b1 b3,b2,rfl,a1.perm p1,(p1.map _).trans a2,a3,by rw [p2];exact a4,by rw [p2];exact hfit,htk⟩ hp.symm) hfne)
   | oneByOne =>
     dsimp only
     have Go1:SetG prog w h1 o ko:=Go.keep fun u z=>(sb1.2 o hne.symm).trans z
     refine wpAny_bind (ZiX (s:={ s with heap:=h1 }) hne Go1 G1.g fun es h2 d sb2 G2 e1 e2=>?_)
     rw [<- Array.forIn_toList]
     have hup:∀ {k},k∈XL es->k∈ko:=fun {k} hk=>e2.mem_iff.mp hk
     refine wpAny_bind (wpAny_forIn_list _ (fun (rest:List (Int×Value)) r s'=>r=()/\∃ (dn:List (Int×Value)) (h':Heap),es.toList=dn++rest/\s'={ s with heap:=h',drawn:=d }/\Heap.SameBut S s.heap h'/\SetG prog w h' S ((dn.map fun e=>Xh e.2).foldl Ys ks)) _ ?_ ?_ _ _ ⟨rfl,[],h2,rfl,rfl,sb1.trans sb2,G2⟩)
     · rintro ⟨hh,v⟩ rest r s' ⟨rfl,dn,h',hes,rfl,sb,G'⟩
       obtain ⟨⟨k,hk,hhk⟩,_⟩:=e1 (hh,v) (by rw [hes];simp)
       have hhk:hh=(Zl prog w).hash k:=hhk
       subst hhk
       have hlen:((dn.map fun e=>Xh e.2).foldl Ys ks).length+1 < scanBound:=by
         have l1:=ZaC (dn.map fun e=>Xh e.2) ks
         have l2:es.size=ko.length:=by rw [<- e2.length_eq,WE]
         have l3:=congrArg List.length hes
         rw [length_append,Array.length_toList] at l3
         rw [length_map] at l1
         show _ < 4096
         omega
       refine wpAny_bind (wpAny_holding (ZeC (s:={ s with heap:=h',drawn:=d }) hk G' hlen fun b h3 sb3 G3=>?_))
       have keepO:∀ u,s.heap.get? o=some u->h3.get? o=some u:=fun u z=>(sb3.2 o hne.symm).trans ((sb.2 o hne.symm).trans z)
       refine wpAny_bind (he _ _ keepO ?_)
       refine wpAny_bind (wpAny_setState_of (s:={ s with heap:=h3,drawn:=d }) (keepO _ ho) hdo a5 ?_)
       dsimp only
       rw [if_neg (by simp)]
       refine wpAny_pure ⟨rfl,dn++[((Zl prog w).hash k,v)],h3,by rw [hes];simp,rfl,sb.trans sb3,?_⟩
       rw [map_append,foldl_append]
       show SetG prog w h3 S (Ys _ (Xh v))
       rw [Uc hk]
       exact G3
     · rintro r s' ⟨rfl,dn,h',hes,rfl,sb,G'⟩
       rw [append_nil] at hes
       subst hes
       refine wpAny_pure (q h' d sb (SetG.m (SetG.cast G' ?_) hfne))
       have hnd:=G.g
       obtain ⟨_,_,_,_,_,_,_,_,_,hks,_⟩:=hnd
       refine ZeT (XB _ _ hks) (XB _ _ hks) fun x=>?_
       rw [XT,XT]
       exact or_congr Iff.rfl e2.mem_iff
end
theorem Zdy:entryFor table "set.__or__"=some Builtin.«frozenset.__or__»:=entryFor_alias (id':="frozenset.__or__") (by kernel_rfl) rfl (by decide +kernel) (by kernel_rfl)
theorem newM {P:Program}{w:World}{h:Heap}:SetM P w (h.push (Ve w)) h.objs.size []:=by
 obtain ⟨o,xs,ep,t,r⟩:=(newG (prog:=P) (w:=w) (h:=h))
 refine ⟨_,#[],0,_,Heap.get?_push_size _ rfl,⟨rfl,rfl,rfl⟩,rfl,fun e he=>by simp at he,.refl _,.nil,by decide,rfl,⟨.nil,rfl,by cases Xj w<;>simp [SetTable.fresh]⟩,fun _=>(show (8:Nat)∈Ms by decide)⟩
section
variable {prog:Program}{w:World}{A:Around}{E:ZB}{s:Shared}
theorem ZgG {Q:ZB}(q:Q (.ref s.heap.objs.size) { s with heap:=s.heap.push (Ve w) }):wpAny (model prog w) A (newSet (.type "set")) Q E s:=by
 unfold newSet
 refine wpAny_bind (m:=setsByText) (wpAny_bind (wpAny_askSetting (wpAny_pure ?_)))
 dsimp only
 simp only [newObj]
 exact wpAny_bind (wpAny_alloc (wpAny_pure q))
theorem SetG.typeIs {a:Addr}{ks:List Zk}(G:SetG prog w s.heap a ks):s.TypeIs (.ref a) "set":=by
 obtain ⟨o,_,_,_,ho,hx,_⟩:=G
 exact ⟨o,ho,hx.1⟩
theorem Znk {l:Addr}{kl:List Zk}{Q:ZB}(G:SetG prog w s.heap l kl)(hn:kl.length<=60)
 (q:∀ h' d,(∀ b o,s.heap.get? b=some o->h'.get? b=some o)->SetM prog w h' s.heap.objs.size (Yj kl)->Q (.ref s.heap.objs.size) { s with heap:=h',drawn:=d }):wpAny (model prog w) A (Builtin.Frozenset.copyOf l) Q E s:=by
 have lt:l < s.heap.objs.size:=by obtain ⟨o,_,_,_,ho,_⟩:=G;exact Heap.lt_size ho
 unfold Builtin.Frozenset.copyOf
 refine wpAny_bind (m:=Builtin.Frozenset.baseOf l) (wpAny_bind (wpAny_isInstance (T:="set") (b:=true) G.typeIs sub_set_self (wpAny_pure ?_)))
 refine wpAny_bind (ZgG ?_)
 refine wpAny_bind (m:=Builtin.Frozenset.addrOf (.ref s.heap.objs.size)) (wpAny_pure ?_)
 refine wpAny_bind (ZeG (s:={ s with heap:=s.heap.push (Ve w) }) (Nat.ne_of_gt lt) newM (G.keep fun o e=>Heap.get?_push_of_some _ e) (by show 0+kl.length<=120;omega) (fun s1 R _ z=>wpAny_pure z) fun h' d sb G'=>wpAny_pure (q h' d (fun b o e=>?_) G'))
 exact (sb.2 b (Nat.ne_of_lt (Heap.lt_size e))).trans (Heap.get?_push_of_some _ e)
theorem ZbJ {a:Addr}{ks:List Zk}{Q:Bool->Shared->Prop}(G:SetG prog w s.heap a ks)(q:Q true s):wpAny (model prog w) A (Builtin.Frozenset.isAnySet (.ref a)) Q E s:=by
 unfold Builtin.Frozenset.isAnySet
 refine wpAny_bind (wpAny_isInstance (T:="set") (b:=true) G.typeIs sub_set_self ?_)
 exact wpAny_pure q
theorem ZkS {l r:Addr}{kl kr:List Zk}{Q:ZB}(hne:l≠r)(Gl:SetG prog w s.heap l kl)(Gr:SetG prog w s.heap r kr)(hn:kl.length+kr.length<=110)(hnl:kl.length<=60)
 (q:∀ h' d tk,(∀ b o,s.heap.get? b=some o->h'.get? b=some o)->SetG prog w h' s.heap.objs.size (kr.foldl Ys (Yj kl))->Q (.ref s.heap.objs.size) { s with heap:=h',drawn:=d,toks:=tk }) :
 wpAny (model prog w) A (binaryOp .BitOr (.ref l) (.ref r)) Q E s:=by
 refine wpAny_binaryOp_same (op:=.BitOr) Gl.typeIs Gr.typeIs PySem.F.fills_set_or PySem.F.slot_set_or (wpAny_call_entry PySem.F.slot_set_or Gl.typeIs Zdy ?_ (PySem.F.args_set_or_2 _ _))
 unfold Builtin.«frozenset.__or__»
 show wpAny (model prog w) A.in1 (do
  let (self,other) <- Builtin.Frozenset.slot1 "__or__" ⟨[.ref l,.ref r],[]⟩
  let (l,r):=if false=true then (other,self) else (self,other)
  if !(<- Builtin.Frozenset.isAnySet l <&&> Builtin.Frozenset.isAnySet r) then rule s!"frozenset.{"__or__"}.declined";return <- ret .notImplemented
  ret (<- (do
   let result <- Builtin.Frozenset.copyOf (<- Builtin.Frozenset.addrOf l)
   if r != .ref (<- Builtin.Frozenset.addrOf l) then holding [result] (Builtin.Frozenset.updateFrom s!"frozenset.{"__or__"}" (<- Builtin.Frozenset.addrOf result) r)
   return result))) _ _ s
 refine wpAny_bind (m:=Builtin.Frozenset.slot1 "__or__" ⟨[.ref l,.ref r],[]⟩) (wpAny_of_eq (a:=(Value.ref l,Value.ref r)) (by rfl) ?_)
 dsimp only
 rw [if_neg (by decide)]
 dsimp only
 refine wpAny_bind (m:=Builtin.Frozenset.isAnySet (.ref l) <&&> Builtin.Frozenset.isAnySet (.ref r)) (wpAny_bind (ZbJ Gl ?_))
 refine ZbJ Gr ?_
 rw [if_neg (by decide)]
 refine wpAny_bind (wpAny_bind (m:=Builtin.Frozenset.addrOf (.ref l)) (wpAny_pure ?_))
 refine wpAny_bind (Znk Gl hnl fun h1 d1 k1 G1=>?_)
 refine wpAny_bind (m:=Builtin.Frozenset.addrOf (.ref l)) (wpAny_pure ?_)
 rw [if_pos (by simp;exact fun z=>hne z.symm)]
 refine wpAny_bind (m:=Builtin.Frozenset.addrOf (.ref s.heap.objs.size)) (wpAny_pure ?_)
 have Gr1:SetG prog w h1 r kr:=Gr.keep fun o e=>k1 r o e
 have lr:r < s.heap.objs.size:=by obtain ⟨o,_,_,_,ho,_⟩:=Gr;exact Heap.lt_size ho
 refine wpAny_bind (wpAny_holding ?_)
 unfold Builtin.Frozenset.updateFrom
 refine wpAny_bind (ZbJ (s:={ s with heap:=h1,drawn:=d1 }) Gr1 ?_)
 rw [if_pos rfl]
 refine wpAny_bind (wpAny_bind (m:=Builtin.Frozenset.addrOf (.ref r)) (wpAny_pure ?_))
 unfold Builtin.Frozenset.merge
 obtain ⟨o,xs,ep,t,ho,hx,hd,h1',h2',h3',h4',h5',h6'⟩:=id Gr1
 refine wpAny_pure ?_
 refine wpAny_bind (wpAny_setEpoch_of (s:={ s with heap:=h1,drawn:=d1 }) ho hd h5' ?_)
 refine ZeG (s:={ s with heap:=h1,drawn:=d1 }) (Nat.ne_of_gt lr) G1 Gr1 (by have:=Uv kl;omega) (fun s1 R kp z=>?_) fun h2 d2 sb G2=>?_
 ·unfold Builtin.Frozenset.unchanged
  refine wpAny_bind (wpAny_setEpoch_of (kp _ ho) hd h5' ?_)
  rw [if_neg (by simp)]
  exact wpAny_pure z
 ·refine wpAny_pure (wpAny_pure ⟨_,rfl,(by intro z;cases z),q h2 d2 s.toks (fun b o e=>?_) G2.g⟩)
  exact (sb.2 b (Nat.ne_of_lt (Heap.lt_size e))).trans (k1 b o e)
end
theorem Zen:isSubtype (.type "dict") (.type "set")=pure false:=by rw [isSubtype_type];kernel_rfl
theorem VM:isSubtype (.type "dict") (.type "frozenset")=pure false:=by rw [isSubtype_type];kernel_rfl
section
variable {prog:Program}{w:World}{A:Around}{E:ZB}{s:Shared}
theorem ZiO {S d:Addr}{kvs:List (Zk×Value)}{idn:String}{Q:Unit->Shared->Prop}(hne:S≠d)(G:SetM prog w s.heap S [])(hl:s.heap.DictOf (Zl prog w) d kvs)(hsm:(d == sysModules)=false)(hb:kvs.length<=110)
 (q:∀ h',Heap.SameBut S s.heap h'->SetG prog w h' S (Yj (kvs.map (·.1)))->Q () { s with heap:=h' }):wpAny (model prog w) A (Builtin.Frozenset.updateFrom idn S (.ref d)) Q E s:=by
 obtain ⟨od,es,ep,hod,hcd,hdd,hk,hp,hnd⟩:=id hl
 have hT:s.TypeIs (.ref d) "dict":=⟨od,hod,hcd.1⟩
 have hsz:es.size=kvs.length:=by rw [<- hp.length];exact Array.length_toList.symm
 unfold Builtin.Frozenset.updateFrom Builtin.Frozenset.isAnySet
 refine wpAny_bind (wpAny_bind (wpAny_isInstance (T:="dict") (b:=false) hT Zen ?_))
 dsimp only
 refine wpAny_isInstance (T:="dict") (b:=false) hT VM ?_
 rw [if_neg (by decide)]
 refine wpAny_bind (wpAny_typeOf hT ?_)
 rw [if_pos (by decide)]
 refine wpAny_bind (wpAny_rule (wpAny_bind (m:=Builtin.Frozenset.addrOf (.ref d)) (wpAny_pure ?_)))
 rw [if_neg (by rw [hsm];decide)]
 refine wpAny_bind (wpAny_dictEpoch hod hdd ?_)
 refine wpAny_bind (wpAny_dictEntries hod hdd ?_)
 refine wpAny_bind (Zhf G (by show 0+es.size<=120;omega) fun h1 sb1 G1 _=>?_)
 have hod1:h1.get? d=some od:=(sb1.2 d hne.symm).trans hod
 refine wpAny_bind (wpAny_dictEntries (s:={ s with heap:=h1 }) hod1 hdd ?_)
 rw [Std.Legacy.Range.forIn_eq_forIn_range']
 simp only [Std.Legacy.Range.size,Nat.sub_zero,Nat.add_sub_cancel,Nat.div_one]
 refine wpAny_bind (wpAny_forIn_list _ (fun rest r s'=>r=()/\∃ (i:Nat) (h':Heap),rest=List.range' i (es.size - i)/\i<=es.size/\s'={ s with heap:=h' }/\Heap.SameBut S s.heap h'/\SetG prog w h' S (Yj ((kvs.take i).map (·.1)))) _ ?_ ?_ _ _ ⟨rfl,0,h1,by simp,Nat.zero_le _,rfl,sb1,G1.g⟩)
 ·rintro x rest r s' ⟨rfl,i,h',hr,hi,rfl,sb,G'⟩
  have hlt:i < es.size:=by
   rcases Nat.lt_or_ge i es.size with h | h
   ·exact h
   ·rw [Nat.sub_eq_zero_of_le h] at hr;simp at hr
  obtain ⟨rfl,hrest⟩:x=i/\rest=List.range' (i+1) (es.size - (i+1)):=by
   rw [show es.size - i=(es.size - (i+1))+1 by omega,List.range'_succ] at hr
   injection hr with e1 e2
   exact ⟨e1,e2⟩
  have hod2:h'.get? d=some od:=(sb.2 d hne.symm).trans hod
  refine wpAny_bind (wpAny_dictEntries (s:={ s with heap:=h' }) hod2 hdd ?_)
  rw [Array.getElem?_eq_getElem hlt]
  have hlt':x < kvs.length:=by omega
  obtain ⟨k,v,hkv⟩:∃ k v,kvs[x]=(k,v):=⟨_,_,rfl⟩
  obtain ⟨hkey,hval⟩:=hp.get? (i:=x) (e:=es[x]) (k:=k) (v:=v) (by rw [Array.getElem?_toList];exact Array.getElem?_eq_getElem hlt) (by rw [getElem?_eq_getElem hlt',hkv])
  obtain ⟨k',hk',hh⟩:=hk es[x] (Array.getElem_mem hlt)
  have ekk:k'=k:=(Zl prog w).inj _ _ _ hk' hkey
  subst ekk
  dsimp only
  rw [hh]
  have hl9:(Yj ((kvs.take x).map (·.1))).length+1 < scanBound:=by
   have:=Uv ((kvs.take x).map (·.1))
   rw [length_map,length_take] at this
   show _ < 4096
   omega
  refine wpAny_bind (wpAny_holding (ZeC (s:={ s with heap:=h' }) hkey G' hl9 fun b h3 sb3 G3=>?_))
  have hod3:h3.get? d=some od:=(sb3.2 d hne.symm).trans hod2
  refine wpAny_bind (wpAny_dictEpoch (s:={ s with heap:=h3 }) hod3 hdd ?_)
  rw [if_neg (by simp)]
  refine wpAny_pure ⟨rfl,x+1,h3,hrest,hlt,rfl,sb.trans sb3,?_⟩
  rw [take_succ,getElem?_eq_getElem hlt',hkv,map_append]
  show SetG prog w h3 S (Yj (_++[k']))
  rw [ZfY]
  exact G3
 ·rintro r s' ⟨rfl,i,h',hr,hi,rfl,sb,G'⟩
  have hin:i=es.size:=by
   rcases Nat.lt_or_ge i es.size with h | h
   ·rw [show es.size - i=(es.size - (i+1))+1 by omega,List.range'_succ] at hr;cases hr
   ·omega
  rw [hin,take_of_length_le (by omega)] at G'
  exact wpAny_pure (q h' sb G')
theorem ZhU {l:Addr}{kvs:List (Zk×Value)}{Q:ZB}(hl:s.heap.DictOf (Zl prog w) l kvs)(hsm:(l == sysModules)=false)(hb:kvs.length<=110)
 (q:∀ (h':Heap) (tk:Nat),SetG prog w h' s.heap.objs.size (Yj (kvs.map (·.1)))->(∀ b o,s.heap.get? b=some o->h'.get? b=some o)->Q (.ref s.heap.objs.size) { s with heap:=h',toks:=tk }) :
 wpAny (model prog w) A (call (.type "set") [.ref l]) Q E s:=by
 obtain ⟨c,tl,hmro⟩:=PySem.F.called_set.mro
 have hmade:=PySem.F.called_set.made
 have hsub:=PySem.F.called_set.sub
 have h1:=PySem.F.called_set.notType
 have h2:=PySem.F.called_set.canCreate
 have hct:=PySem.F.typeCall_set_1 (.ref l)
 refine wpAny_call (codeAny_of_tree ?_)
 refine wpAny_pure ⟨Code.quiet_builtin _ (by decide +kernel),codeAny_builtin PySem.F.entry_type_call ?_⟩
 rw [Around.under_plain (weight_type_call_type "set" [.ref l] []) rfl]
 (repeat (any_goals (first | assumption | wp_step)))
 refine codeAny_mono (ZkL (.ref l) (E:=E) (Q:=fun v s₁=>v=.ref s.heap.objs.size/\s₁={ s with heap:=s.heap.push (Ve w) }) ⟨rfl,rfl⟩) fun r s₁ hr=>?_
 cases r with
 | error e=>exact hr
 | ok fl =>
  cases fl with
  | ret v =>
   obtain ⟨rfl,rfl⟩:=hr
   have hS:(s.heap.push (Ve w)).get? s.heap.objs.size=some (Ve w):=Heap.get?_push_size _ rfl
   have hT:Shared.TypeIs { s with heap:=s.heap.push (Ve w) } (.ref s.heap.objs.size) "set":=⟨_,hS,rfl⟩
   have hli:=PySem.F.called_set.init.lookup
   have hbi:=PySem.F.called_set.init.bind (.ref s.heap.objs.size)
   (repeat (any_goals (first | assumption | wp_step)))
   refine codeAny_mono (codeAny_call_builtin (R:=wants (fun r s₂=>r=.none/\∃ h' tk,s₂={ s with heap:=h',toks:=tk }/\SetG prog w h' s.heap.objs.size (Yj (kvs.map (·.1)))/\∀ b o,s.heap.get? b=some o->h'.get? b=some o) E) PySem.F.called_set.init.plain PySem.F.entry_set_init (check_set_init_1 hT ?_)) fun r₂ s₂ hr₂=>?_
   ·obtain ⟨od,es,ep,hod,hcd,hdd,hk,hp,hnd⟩:=id hl
    have g1:(s.heap.push (Ve w)).get? l=some od:=Heap.get?_push_of_some _ hod
    have lt:=Heap.lt_size hod
    unfold Builtin.«set.__init__» noKeywords
    generalize hUF:Builtin.Frozenset.updateFrom=UF
    wp_walk
    subst hUF
    refine ZiO (s:={ s with heap:=s.heap.push (Ve w) }) (Nat.ne_of_gt lt) newM ⟨od,es,ep,g1,hcd,hdd,hk,hp,hnd⟩ hsm hb fun h' sb G=>?_
    exact wpAny_pure ⟨rfl,h',s.toks,rfl,G,fun b o e=>(sb.2 b (Nat.ne_of_lt (Heap.lt_size e))).trans (Heap.get?_push_of_some _ e)⟩
   ·cases r₂ with
    | error e=>exact hr₂
    | ok fl₂ =>
     cases fl₂ with
     | ret r =>
      obtain ⟨rfl,h',tk,rfl,G,hk'⟩:=hr₂
      (repeat (any_goals (first | assumption | wp_step)))
      exact q _ _ G hk'
     | _=>exact hr₂.elim
  | _=>exact hr.elim
end
end L2
namespace L2
open PySem PySem.W PySem.Spec PyProof.Rows
theorem Zbv:entryFor table "set_iterator.__iter__"=some Builtin.«dict_keyiterator.__iter__»:=entryFor_alias (id':="dict_keyiterator.__iter__") (by kernel_rfl) rfl (by decide +kernel) (by kernel_rfl)
theorem SetRw.keep {h h':Heap}{a:Addr}{xs:Array (Int×Value)}{ep:Nat}{t:SetTable}(r:SetRw h a xs ep t)(k:∀ o,h.get? a=some o->h'.get? a=some o):SetRw h' a xs ep t:=let ⟨o,ho,q⟩:=r;⟨o,k o ho,q⟩
section
variable {prog:Program}{w:World}{A:Around}{E:ZB}{s:Shared}{I a T:Addr}{ep e0:Nat}{xs:Array (Int×Value)}{t:SetTable}
theorem ZcF {f:Value}{i n:Nat}{Q:ZB}(hI:s.heap.get? I=some (itO f i a n ep))(q:Q (.ref I) s):wpAny (model prog w) A (pyIter (.ref I)) Q E s:=by
 have hT:s.TypeIs (.ref I) "set_iterator":=⟨_,hI,rfl⟩
 refine wpAny_pyIter_slot hT UT (wpAny_call_entry UT hT Zbv ?_ (ZbR _))
 exact wpAny_pure ⟨_,rfl,"set_iterator",_,hT,slot_seti_next.lookup,q⟩
theorem ZgS (hne:a≠I)(hf:t.fits xs.size=true)(ht:TOk (Xj w) t)(hnd:Xj w=true\/(!t.plain&&decide (xs.size > 1))=false)(hh:A.handled=none) :
 Walks prog w A I [I,a] [I] xs.size (fun i v=>(Ue w a ep xs)[i]?=some v) (fun i h=>(∃ slot:Nat,h.get? I=some (itO (rawInt slot) i a xs.size ep)/\Vu w t i slot)/\SetRw h a xs ep t) where
 sub:=fun b hb=>by simp at hb;simp [hb]
 frame:=fun i h h' ⟨⟨slot,h1,h2⟩,h3⟩ hk=>⟨⟨slot,hk I (by simp) _ h1,h2⟩,h3.keep fun o e=>hk a (by simp) o e⟩
 item:=fun i s Q E hi ⟨⟨slot,h1,h2⟩,h3⟩ hQ=>by
  refine ZcB h1 h3 hf ht hnd h2 hh (fun v slot' h' hv hs' hI' ex=>?_) fun h' hv _=>?_
  ·exact hQ v h' s.toks hv ⟨⟨slot',hI',hs'⟩,h3.keep fun o e=>ex a o hne e⟩ fun b o hb e=>ex b o (fun z=>hb (by simp [z])) e
  ·rw [getElem?_eq_getElem (by rw [Zau];exact hi)] at hv;cases hv
 done:=fun s Q E ⟨⟨slot,h1,h2⟩,h3⟩ hQ=>by
  refine ZcB h1 h3 hf ht hnd h2 hh (fun v slot' h' hv hs' hI' ex=>?_) fun h' hv ex=>?_
  ·rw [List.getElem?_eq_none (by rw [Zau];exact Nat.le_refl _)] at hv;cases hv
  ·exact hQ h' s.toks fun b o hb e=>ex b o (fun z=>hb (by simp [z])) e
 self:=fun i s Q E ⟨⟨slot,h1,_⟩,_⟩ q=>ZcF h1 q
theorem Zgd {ys:List Nat}(hne:a≠I)(hnT:T≠I)(hf:t.fits xs.size=true)(hy:∀ y∈ys,y < xs.size)(hh:A.handled=none) :
 Walks prog w A I [I,a,T] [I] ys.length (fun i v=>∃ (y:Nat) (e:Int×Value),ys[i]?=some y/\xs[y]?=some e/\e.2=v) (fun i h=>h.get? I=some (itO (.ref T) i a xs.size ep)/\h.get? T=some { cls:=.type "tuple",data:=.seq (ys.map fun (i:Nat)=>rawInt i).toArray e0 }/\SetRw h a xs ep t) where
 sub:=fun b hb=>by simp at hb;simp [hb]
 frame:=fun i h h' ⟨h1,h2,h3⟩ hk=>⟨hk I (by simp) _ h1,hk T (by simp) _ h2,h3.keep fun o e=>hk a (by simp) o e⟩
 item:=fun i s Q E hi ⟨h1,h2,h3⟩ hQ=>by
  refine ZaW h1 h2 h3 hf hy hh (fun y v h' hyi hv hI' ex=>?_) fun h' hyi _=>?_
  ·exact hQ v.2 h' s.toks ⟨y,v,hyi,hv,rfl⟩ ⟨hI',ex T _ hnT h2,h3.keep fun o e=>ex a o hne e⟩ fun b o hb e=>ex b o (fun z=>hb (by simp [z])) e
  ·rw [getElem?_eq_getElem hi] at hyi;cases hyi
 done:=fun s Q E ⟨h1,h2,h3⟩ hQ=>by
  refine ZaW h1 h2 h3 hf hy hh (fun y v h' hyi hv hI' ex=>?_) fun h' hyi ex=>?_
  ·rw [List.getElem?_eq_none (Nat.le_refl _)] at hyi;cases hyi
  ·exact hQ h' s.toks fun b o hb e=>ex b o (fun z=>hb (by simp [z])) e
 self:=fun i s Q E ⟨h1,_,_⟩ q=>ZcF h1 q
theorem Zje {ks:List Zk}{Q:ZB}(hh:A.handled=none)(G:SetG prog w s.heap a ks)
 (q:∀ (I:Addr) (h':Heap) (d:Drawn) (fp:List Addr) (n:Nat) (P:Nat->Value->Prop) (St:Nat->Heap->Prop),Walks prog w A I fp [I] n P St->St 0 h'->s.heap.objs.size<=I->(∀ b o,s.heap.get? b=some o->h'.get? b=some o)->(∀ b∈fp,b=a\/s.heap.objs.size<=b)->n=ks.length ->
  (∀ acc:Array Value,ItemsOf P acc n->(acc.toList.map Xh).Perm ks/\∀ v∈acc.toList,∃ k,Xc k v=true)->Q (.ref I) { s with heap:=h',drawn:=d }):wpAny (model prog w) A (pyIter (.ref a)) Q E s:=by
 obtain ⟨o,xs,ep,t,ho,hx,hd,h1,h2,h3,h4,h5,h6⟩:=G
 have hR:SetRw s.heap a xs ep t:=⟨o,ho,hx,hd⟩
 have lt:=Heap.lt_size ho
 have hl:xs.size=ks.length:=by rw [<- h2.length_eq];unfold XL;rw [length_map,Array.length_toList]
 have fin:∀ l:List Value,l.Perm (xs.toList.map (·.2))->(l.map Xh).Perm ks/\∀ v∈l,∃ k,Xc k v=true:=fun l p=>by
  refine ⟨?_,fun v hv=>?_⟩
  ·refine (p.map Xh).trans ?_
   rw [map_map];exact h2
  ·obtain ⟨e,he,rfl⟩:=mem_map.mp (p.mem_iff.mp hv)
   obtain ⟨⟨k,hk,_⟩,_⟩:=h1 e he
   exact ⟨k,hk⟩
 refine Zer hR h5 h4 (fun hc=>?_) fun ys d hb p=>?_
 ·refine q _ _ s.drawn _ _ _ _ (ZgS (ep:=ep) (Nat.ne_of_lt lt) h5 h6 hc hh) ⟨⟨0,Heap.get?_push_size _ rfl,.inr (Zgf h6.rz)⟩,hR.keep fun o e=>Heap.get?_push_of_some _ e⟩ (Nat.le_refl _) (fun b o e=>Heap.get?_push_of_some _ e) (fun b hb=>?_) hl fun acc hI=>?_
  ·simp only [mem_cons,not_mem_nil,or_false] at hb
   rcases hb with rfl | rfl
   ·exact .inr (Nat.le_refl _)
   ·exact .inl rfl
  ·refine fin _ ?_
   have e:acc.toList=Ue w a ep xs:=by
    refine List.ext_getElem? fun j=>?_
    by_cases hj:j < acc.size
    ·have hv:=Array.getElem?_eq_getElem hj
     rw [Array.getElem?_toList,hv,hI.2 j _ hv]
    ·rw [Array.getElem?_toList,Array.getElem?_eq_none (by omega),List.getElem?_eq_none (by rw [Zau,<- hI.1];omega)]
   rw [e];exact ordE_perm
 ·have hy : ∀ y∈ys,y < xs.size:=fun y hy=>mem_range.mp (p.mem_iff.mp hy)
  have hyl:ys.length=xs.size:=by rw [p.length_eq,length_range]
  refine q _ _ d _ _ _ _ (Zgd (ep:=ep) (e0:=0) (T:=s.heap.objs.size) (ys:=ys) (Nat.ne_of_lt (Nat.lt_succ_of_lt lt)) (Nat.ne_of_lt (Nat.lt_succ_self _)) h5 hy hh) ⟨?_,?_,hR.keep fun o e=>Heap.get?_push_of_some _ (Heap.get?_push_of_some _ e)⟩ (Nat.le_succ _) (fun b o e=>Heap.get?_push_of_some _ (Heap.get?_push_of_some _ e)) (fun b hb=>?_) (hyl.trans hl) fun acc hI=>?_
  ·have:=Heap.get?_push_size (s.heap.push { cls:=.type "tuple",data:=.seq (ys.map fun (i:Nat)=>rawInt i).toArray }) (o:=itO (.ref s.heap.objs.size) 0 a xs.size ep) rfl
   rw [Heap.size_push] at this
   exact this
  ·exact Heap.get?_push_of_some _ (Heap.get?_push_size _ rfl)
  ·simp only [mem_cons,not_mem_nil,or_false] at hb
   rcases hb with rfl | rfl | rfl
   ·exact .inr (Nat.le_succ _)
   ·exact .inl rfl
   ·exact .inr (Nat.le_refl _)
  ·refine fin _ ?_
   have e:acc.toList=ys.filterMap fun y=>(xs.toList.map (·.2))[y]?:=by
    have e2:∀ (l:List Nat) (vs:List Value),l.length=vs.length->(∀ (j:Nat) y v,l[j]?=some y->vs[j]?=some v->(xs.toList.map (·.2))[y]?=some v)->vs=l.filterMap fun y=>(xs.toList.map (·.2))[y]?:=by
     intro l
     induction l with
     | nil=>intro vs h _;cases vs with
      | nil=>rfl
      | cons _ _=>cases h
     | cons y l ih =>
      intro vs h hv
      cases vs with
      | nil=>cases h
      | cons v vs =>
       rw [filterMap_cons,hv 0 y v rfl rfl]
       exact congrArg (v::·) (ih vs (by simpa using h) fun j y' v' g1 g2=>hv (j+1) y' v' g1 g2)
    refine e2 ys _ (by rw [Array.length_toList];exact hI.1.symm) fun j y v g1 g2=>?_
    rw [Array.getElem?_toList] at g2
    obtain ⟨y',e',g3,g4,g5⟩:=hI.2 j v g2
    rw [g1] at g3;cases g3
    rw [getElem?_map,Array.getElem?_toList,g4];exact congrArg some g5
   rw [e]
   refine (p.filterMap _).trans ?_
   have:=PySem.List.filterMap_getElem?_range_length (xs.toList.map (·.2))
   rw [length_map,Array.length_toList] at this
   rw [this]
end
section
variable {prog:Program}{w:World}{A:Around}{E:ZB}{s:Shared}{a:Addr}
theorem ZiV {Q:Bool->Shared->Prop}(hT:s.TypeIs (.ref a) "set")(h:Q false s):wpAny (model prog w) A (Builtin.List.listLengthHint (.ref a)) Q E s:=by
 unfold Builtin.List.listLengthHint
 refine wpAny_bind (wpAny_specialOf hT PySem.F.slot_set_len.lookup ?_)
 generalize hz:("set.__len__":String)=z
 wp_delta
 rw [show splitId z=some ("set","__len__") from by subst hz;decide +kernel]
 subst hz
 refine wpAny_bind (wpAny_isInstance (T:="set") (b:=true) hT (by rw [isSubtype_type];kernel_rfl) ?_)
 refine wpAny_ite_split (fun y=>absurd y (by decide)) (fun _=>?_)
 refine wpAny_ite_split (fun _=>wpAny_bind (wpAny_typeOf hT (wpAny_pure h))) (fun y=>absurd (by decide +kernel) y)
theorem Zey {ks:List Zk}{R:List Value->Shared->Prop}(hh:A.handled=none)(G:SetG prog w s.heap a ks)
   (k:∀ (h':Heap) (d:Drawn) (tk:Nat) (acc:Array Value),s.heap.objs.size < h'.objs.size->(∀ b o,s.heap.get? b=some o->h'.get? b=some o)->(acc.toList.map Xh).Perm ks->(∀ v∈acc.toList,∃ k,Xc k v=true)->R acc.toList { s with heap:=h',drawn:=d,toks:=tk }) :
   wpAny (model prog w) A (collect (.ref a)) R E s:=by
 have hks:ks.length<=sizeLine:=by
   obtain ⟨o,xs,ep,t,ho,hx,hd,h1,h2,h3,h4,h5,h6⟩:=G
   rw [<- h2.length_eq];unfold XL;rw [length_map,Array.length_toList];exact fits_of_scanBound h4
 have here:(s.heap.push { cls:=.type "list",data:=.seq ([]:List Value).toArray }).get? s.heap.objs.size=some { cls:=.type "list",data:=.seq #[] }:=Heap.get?_push_size _ rfl
 let Fn:Result->Shared->Prop:=fun q s'=>∃ (h':Heap) (d:Drawn) (tk:Nat) (its:Array Value) (c:Nat),(q=.ok (.ret (.ref s.heap.objs.size))/\s'={ s with heap:=h',drawn:=d,toks:=tk })/\(∀ b o,s.heap.get? b=some o->h'.get? b=some o)/\h'.get? s.heap.objs.size=some { cls:=.type "list",dict:=none,data:=.seq its c,slots:=#[] }/\(its.toList.map Xh).Perm ks/\∀ v∈its.toList,∃ k,Xc k v=true
 have fin:∀ s',Fn (.ok (.ret (.ref s.heap.objs.size))) s'->wpAny (model prog w) A (do match (<- load s.heap.objs.size).data with | .seq xs _=>pure xs.toList | _=>unsupported "internal:collect") R E s':=by
   rintro s' ⟨h',d,tk,its,c,⟨_,rfl⟩,hk,hs,hp,hv⟩
   exact wpAny_bind (wpAny_load hs (wpAny_pure (k h' d tk its (Heap.lt_size hs) hk hp hv)))
 have G1:SetG prog w (s.heap.push { cls:=.type "list",data:=.seq ([]:List Value).toArray }) a ks:=G.keep fun o e=>Heap.get?_push_of_some _ e
 have hal:a < s.heap.objs.size:=by obtain ⟨o,_,_,_,ho,_⟩:=G;exact Heap.lt_size ho
 have hT:Shared.TypeIs { s with heap:=s.heap.push { cls:=.type "list",data:=.seq ([]:List Value).toArray } } (.ref a) "set":=by obtain ⟨o,_,_,_,ho,hx,_⟩:=G1;exact ⟨o,ho,hx.1⟩
 have run:wpAny (model prog w) A.in1 (Builtin.List.listExtendWith (.ref s.heap.objs.size) (.ref a) (.ref s.heap.objs.size))
     (fun fin s'=>match fin with | .done f=>Fn (.ok f) s' | .again c'=>c'.quiet=true/\codeAny (model prog w) A c' Fn s') (fun e s'=>Fn (.error e) s') { s with heap:=s.heap.push { cls:=.type "list",data:=.seq ([]:List Value).toArray } }:=by
   unfold Builtin.List.listExtendWith
   refine wpAny_bind (wpAny_typeOf (T:="set") hT ?_)
   have n1:Builtin.List.listSameRef (.ref s.heap.objs.size) (.ref a)=false:=by simp [Builtin.List.listSameRef,Nat.ne_of_gt hal]
   have n2:(Value.type "set" == Value.type "list")=false:=by decide
   have n3:(Value.type "set" == Value.type "tuple")=false:=by decide
   simp only [n1,n2,n3,Bool.or_false,Bool.false_eq_true,if_false]
   refine wpAny_bind (Zje (A:=A.in1) hh G1 fun I h1 d fp n P St W st hI hk hfp hn hP=>?_)
   rw [Heap.size_push] at hI hfp
   have ne1:s.heap.objs.size ∉ fp:=fun z=>by
     rcases hfp _ z with y | y
     · exact Nat.ne_of_gt hal y
     · exact absurd y (Nat.not_succ_le_self _)
   have key:∀ (h:Heap) (c:Nat),St 0 h->(∀ b o,s.heap.get? b=some o->h.get? b=some o)->h.get? s.heap.objs.size=some { cls:=.type "list",dict:=none,data:=.seq #[] c,slots:=#[] } ->
       codeAny (model prog w) A (.builtin "list.extend.loop" ⟨[.ref s.heap.objs.size,.ref I,.ref s.heap.objs.size],[]⟩) Fn { s with heap:=h,drawn:=d }:=fun h c hst hkp hS=>by
     refine codeAny_extend_loopS W.toS (by rw [hn];exact hks) s.heap.objs.size ne1 (.ref s.heap.objs.size) n 0 _ #[] c rfl (Nat.zero_le _) hst hS (ItemsOf.nil _) fun s' acc c' mv hS' hacc=>?_
     obtain ⟨h2,g2,d2,tk2,os2⟩:=s'
     have eg:g2=s.gens:=mv.gens
     have ed:d2=d:=mv.drawn
     have eo:os2=s.os:=mv.os
     subst eg ed eo
     refine ⟨h2,d2,tk2,acc,c',⟨rfl,rfl⟩,fun b o e=>mv.heap b o (fun z=>?_) (hkp b o e),hS',hP acc hacc⟩
     have lb:=Heap.lt_size e
     rcases mem_cons.mp z with y | y
     · exact Nat.ne_of_lt lb y
     · rw [mem_singleton.mp y] at lb
       exact absurd (Nat.lt_of_lt_of_le lb (Nat.le_of_succ_le hI)) (Nat.lt_irrefl _)
   have hS1:=hk _ _ here
   have hkp:∀ b o,s.heap.get? b=some o->h1.get? b=some o:=fun b o e=>hk b o (Heap.get?_push_of_some _ e)
   have hT1:Shared.TypeIs { s with heap:=h1,drawn:=d } (.ref a) "set":=by obtain ⟨o,ho,hc⟩:=hT;exact ⟨o,hk _ _ ho,hc⟩
   refine wpAny_bind (wpAny_holding (ZiV (s:={ s with heap:=h1,drawn:=d }) hT1 ?_))
   refine wpAny_ite_split (fun _=>?_) (fun _=>wpAny_pure ⟨plainId_quiet PySem.F.plain_extend_loop _,key _ _ st hkp hS1⟩)
   refine wpAny_bind (wpAny_rule (wpAny_bind ?_))
   show wpAny _ _ (updateSeq s.heap.objs.size (·.push .none) >>= fun _=>updateSeq s.heap.objs.size (·.pop)) _ _ _
   refine wpAny_bind (wpAny_updateSeq hS1 rfl ?_)
   have hS2:=Heap.get?_update_self (Obj.mapSeq (·.push Value.none)) hS1 rfl
   refine wpAny_updateSeq (hz:=by seq_fits) hS2 rfl ?_
   have hS3:=Heap.get?_update_self (Obj.mapSeq (·.pop)) hS2 rfl
   have up:∀ b,b≠s.heap.objs.size->∀ o,h1.get? b=some o->((h1.update s.heap.objs.size (Obj.mapSeq (·.push Value.none))).update s.heap.objs.size (Obj.mapSeq (·.pop))).get? b=some o:=fun b nb o e =>
     (Heap.get?_update_other _ _ (Ne.symm nb)).trans ((Heap.get?_update_other _ _ (Ne.symm nb)).trans e)
   exact wpAny_pure ⟨plainId_quiet PySem.F.plain_extend_loop _,key _ _ (W.frame 0 _ _ st fun b hb o e=>up b (fun z=>ne1 (z ▸ hb)) o e) (fun b o e=>up b (Nat.ne_of_lt (Heap.lt_size e)) o (hkp b o e)) hS3⟩
 unfold collect
 refine wpAny_bind (wpAny_runValue (codeAny_builtin entry_proto_collect' ?_))
 rw [Around.under_plainId PySem.F.plain_proto_collect _]
 refine wpAny_bind (m:=newList []) (wpAny_newObj_type (wpAny_pure ⟨plainId_quiet PySem.F.plain_list_iadd _,codeAny_builtin entry_list_iadd' ?_⟩))
 rw [Around.under_plainId PySem.F.plain_list_iadd _]
 refine wpAny_mono run (fun f s' x=>?_) fun e s' x=>?_
 · cases f with
   | done f =>
     obtain ⟨h',d,tk,its,c,⟨e,e2⟩,r'⟩:=x
     cases e
     exact fin s' ⟨h',d,tk,its,c,⟨rfl,e2⟩,r'⟩
   | again c₁ =>
     refine ⟨x.1,codeAny_mono x.2 fun q s₂ y=>?_⟩
     obtain ⟨h',d,tk,its,c,⟨e,e2⟩,r'⟩:=y
     subst e
     exact fin s₂ ⟨h',d,tk,its,c,⟨rfl,e2⟩,r'⟩
 · obtain ⟨_,_,_,_,_,⟨e',_⟩,_⟩:=x
   cases e'
end
def UG (P:Program)(w:World)(p:Addr)(ks:List Zk):Heap->Prop:=fun h=>SetG P w h p ks
section
variable {X:Cx}
theorem Inv.draw {pins:List (Addr×Obj)}{σ:St}{H:Hp}{s:Shared}(I:Inv X pins σ H s)(d:Drawn):Inv X pins σ H { s with drawn:=d } :=
 ⟨I.ok,I.os,I.bare,I.base,I.loc,I.cell,I.free,I.freeC,I.pin,I.hok,I.len⟩
end
theorem Zfw {l ns:List Str}(h:(l.map (Sum.inr:Str->Zk)).Perm (ns.map Sum.inr)):l.Perm ns:=by
 have e:∀ l:List Str,(l.map (Sum.inr:Str->Zk)).filterMap Sum.getRight?=l:=fun l=>by
  induction l with
  | nil=>rfl
  | cons a r ih=>rw [map_cons,filterMap_cons];exact congrArg (a::·) ih
 have:=h.filterMap Sum.getRight?
 rwa [e,e] at this
theorem ZcD:∀{vs:List Value}{ns:List Str},(∀ v∈vs,∃ k,Xc k v=true)->(∀ v∈vs,Xh v∈ns.map (Sum.inr:Str->Zk))->∃ l,StrsAre vs l/\vs.map Xh=l.map Sum.inr
 | [],_,_,_=>⟨[],.nil,rfl⟩
 | v :: vs,ns,h,g=>by
  obtain ⟨l,h1,h2⟩:=ZcD (vs:=vs) (ns:=ns) (fun u hu=>h u (mem_cons_of_mem _ hu)) (fun u hu=>g u (mem_cons_of_mem _ hu))
  obtain ⟨k,hk⟩:=h v mem_cons_self
  obtain ⟨i,_,e⟩:=mem_map.mp (g v mem_cons_self)
  rw [Uc hk] at e
  subst e
  obtain ⟨j,t,e1,_⟩ | ⟨x,t,e1,rfl⟩:=ZT hk
  ·cases e1
  ·cases e1
   exact ⟨i::l,.cons i t h1,by rw [map_cons,map_cons,h2];rfl⟩
section
variable {X:Cx}
theorem Zas (hc:X.calm=true):Yw X (.builtin "sorted") (fun xs H Q=>∃ (p:Addr) (ns:List Str),xs=[.ref p]/\H p=some (.ext (UG X.prog X.w p (ns.map Sum.inr)))/\ns.length < 64 /\
 ∀ (l:Addr) (ys:List Str),H l=none->ys.Perm ns->Xn ys->Q (.ref l) (upd H l (.lst (ys.map V.str)))):=by
 intro pins s σ H xs us Q I r h
 obtain ⟨p,ns,rfl,ep,h64,q⟩:=h
 obtain ⟨u,rfl,ru⟩:=Yx r
 cases ru
 obtain ⟨G,_,_⟩:=(show ObjOk X.prog X.w H s.heap p (.ext (UG X.prog X.w p (ns.map Sum.inr))) from I.hok p _ ep)
 refine PySem.Calls.call_function_entry kind_sorted plain_sorted entry_sorted (args_sorted1 _) ?_
 unfold Builtin.«sorted»
 refine wpAny_bind (m:=checkCount "sorted" 1 1 _) (wpAny_pure ?_)
 refine wpAny_bind (Zey (A:=X.A.in1) (I.ok.hd hc) G fun h' d tk acc hgt hk hp hv=>?_)
 have hge:=Nat.le_of_lt hgt
 obtain ⟨ss,hS,he⟩:=ZcD hv (fun v hv'=>hp.mem_iff.mp (mem_map.mpr ⟨v,hv',rfl⟩))
 rw [he] at hp
 have hln:=Zfw hp
 have hlacc:acc.toList.length=ns.length:=by rw [hS.length,hln.length_eq]
 refine wpAny_bind (wpAny_newList ?_ (by rw [hlacc,sizeLine_eq];omega))
 have hoL:(h'.push { cls:=.type "list",data:=.seq acc.toList.toArray }).get? h'.objs.size=some (seqObj "list" acc.toList.toArray 0):=Heap.get?_push_size _ rfl
 have keepg:∀ b o,h'.get? b=some o->(h'.push { cls:=.type "list",data:=.seq acc.toList.toArray }).get? b=some o:=fun b o e=>Heap.get?_push_of_some _ e
 show wpAny _ _ _ _ _ { s with heap:=h'.push { cls:=.type "list",data:=.seq acc.toList.toArray },drawn:=d,toks:=tk }
 generalize h'.push { cls:=.type "list",data:=.seq acc.toList.toArray }=g at hoL keepg ⊢
 refine wpAny_bind (wpAny_holding (wpAny_call_entry slot_list_sort ⟨_,hoL,rfl⟩ entry_list_sort ?body (args_list_sort _)))
 case body =>
  refine list_sort_treeK (s:={ s with heap:=g,drawn:=d,toks:=tk }) strKind_oneLt hoL hS.keysOf (fun v₁ v₂ rest e=>keyKind_strs (by rw [<- e];exact hS)) (by rw [hlacc];exact h64) fun st' hq hs=>⟨_,rfl,wpAny_pure ⟨_,rfl,?_⟩⟩
  have hsz:(arrOf st').size=acc.toList.length:=by rw [hq.size_eq,pairsOf_size]
  have hl2:(arrOf st').toList.Perm (acc.toList.zip acc.toList):=by rw [<- pairsOf_toList];exact Array.perm_iff_toList_perm.mp hq
  have hmem:∀ z∈(arrOf st').toList,z.1=z.2/\z.1∈acc.toList:=fun z hz'=>mem_zip_self (hl2.mem_iff.mp hz')
  have hout:StrsAre ((arrOf st').map (·.2)).toList ((arrOf st').toList.map fun z=>strOf z.1):=by
   have e:((arrOf st').map (·.2)).toList=(arrOf st').toList.map (·.1):=by
    rw [Array.toList_map];exact map_congr_left fun z hz'=>(hmem z hz').1.symm
   rw [e]
   have h1:=strsAre_map ((arrOf st').toList.map (·.1)) (by
    intro v hv
    obtain ⟨z,hz',rfl⟩:=mem_map.mp hv
    exact hS.all _ (hmem z hz').2)
   rwa [map_map] at h1
  have hperm:((arrOf st').toList.map fun z=>strOf z.1).Perm ss:=by
   have h1:=hl2.map fun z=>strOf z.1
   have e2:(acc.toList.zip acc.toList).map (fun z=>strOf z.1)=ss:=by
    have:(acc.toList.zip acc.toList).map (fun z=>strOf z.1)=((acc.toList.zip acc.toList).map Prod.fst).map strOf:=by rw [map_map];rfl
    rw [this,List.map_fst_zip (Nat.le_refl _),hS.strs]
   rwa [e2] at h1
  have hsort:Xn ((arrOf st').toList.map fun z=>strOf z.1):=by
   unfold Xn
   rw [pairwise_map,List.pairwise_iff_getElem]
   intro i j hi hj hij
   have hi':i < (arrOf st').size:=by simpa using hi
   have hj':j < (arrOf st').size:=by simpa using hj
   have h1:=hs i j (Nat.le_of_lt hij) (by rw [<- hq.size_eq];exact hj')
   obtain ⟨x,t,ex⟩:=hS.all _ (hmem (arrOf st')[i] (by simp)).2
   obtain ⟨y,u,ey⟩:=hS.all _ (hmem (arrOf st')[j] (by simp)).2
   rw [KK_str hi' (x:=x) (t:=t) (q:=(arrOf st')[i].2) (Prod.ext ex rfl),KK_str hj' (x:=y) (t:=u) (q:=(arrOf st')[j].2) (Prod.ext ey rfl)] at h1
   change decide (y.cps.toList < x.cps.toList)=false at h1
   simp only [Array.getElem_toList]
   rw [show strOf (arrOf st')[i].1=x by rw [ex];rfl,show strOf (arrOf st')[j].1=y by rw [ey];rfl]
   exact of_decide_eq_false h1
  have s1:=Heap.SameBut.update g h'.objs.size (Obj.mapSeq fun _=>(#[]:Array Value))
  obtain ⟨e1,ho1⟩:∃ e1,(g.update h'.objs.size (Obj.mapSeq fun _=>(#[]:Array Value))).get? h'.objs.size=some (seqObj "list" #[] e1):=⟨_,get?_update_seq hoL fun _=>#[]⟩
  have k1:∀ b o,b≠h'.objs.size->g.get? b=some o->(g.update h'.objs.size (Obj.mapSeq fun _=>(#[]:Array Value))).get? b=some o:=fun b o nb e=>(s1.2 b nb).trans e
  show EP X pins σ Q (.ref h'.objs.size) { s with heap:=(((g.update h'.objs.size (Obj.mapSeq fun _=>(#[]:Array Value))).push (seqObj "tuple" acc.toList.toArray 0)).push (seqObj "list" #[] 0)).update h'.objs.size (Obj.mapSeq fun _=>(arrOf st').map (·.2)),drawn:=d,toks:=tk }
  generalize g.update h'.objs.size (Obj.mapSeq fun _=>(#[]:Array Value))=g1 at ho1 k1 ⊢
  have ho2:((g1.push (seqObj "tuple" acc.toList.toArray 0)).push (seqObj "list" #[] 0)).get? h'.objs.size=some (seqObj "list" #[] e1):=Heap.get?_push_of_some _ (Heap.get?_push_of_some _ ho1)
  have k2:∀ b o,g1.get? b=some o->((g1.push (seqObj "tuple" acc.toList.toArray 0)).push (seqObj "list" #[] 0)).get? b=some o:=fun b o e=>Heap.get?_push_of_some _ (Heap.get?_push_of_some _ e)
  generalize (g1.push (seqObj "tuple" acc.toList.toArray 0)).push (seqObj "list" #[] 0)=g2 at ho2 k2 ⊢
  have s2:=Heap.SameBut.update g2 h'.objs.size (Obj.mapSeq fun _=>(arrOf st').map (·.2))
  obtain ⟨c3,hc3⟩:∃ c3,(g2.update h'.objs.size (Obj.mapSeq fun _=>(arrOf st').map (·.2))).get? h'.objs.size=some (seqObj "list" ((arrOf st').map (·.2)) c3):=⟨_,get?_update_seq ho2 fun _=>(arrOf st').map (·.2)⟩
  have keep:∀ b o,s.heap.get? b=some o->(g2.update h'.objs.size (Obj.mapSeq fun _=>(arrOf st').map (·.2))).get? b=some o:=fun b o e=>by
   have nb:b≠h'.objs.size:=Nat.ne_of_lt (Nat.lt_of_lt_of_le (Heap.lt_size e) hge)
   exact (s2.2 b nb).trans (k2 b o (k1 b o nb (keepg b o (hk b o e))))
  generalize g2.update h'.objs.size (Obj.mapSeq fun _=>(arrOf st').map (·.2))=g3 at hc3 keep ⊢
  refine ⟨.ref h'.objs.size,_,(I.draw d).laid (t':=tk) keep hge (show ObjOk X.prog X.w _ _ _ (.lst (((arrOf st').toList.map fun z=>strOf z.1).map V.str)) from ⟨?_,((arrOf st').map (·.2)).toList,c3,VF hout,by rw [Array.toArray_toList];exact hc3⟩),rfl,q _ _ (I.hok.fresh hge) (hperm.trans hln) hsort⟩
  rw [length_map,length_map,Array.length_toList,hsz,hlacc,sizeLine_eq];omega
theorem VJ:Yw X (.type "set") (fun xs H Q=>∃ (d:Addr) (kvs:ZK),xs=[.ref d]/\H d=some (.dK kvs)/\kvs.length<=100 /\
 ∀ p,H p=none->Q (.ref p) (upd H p (.ext (UG X.prog X.w p (Yj (kvs.map (·.1))))))):=by
 intro pins s σ H xs us Q I r h
 obtain ⟨d,kvs,rfl,ed,hl,q⟩:=h
 obtain ⟨u,rfl,ru⟩:=Yx r
 cases ru
 obtain ⟨hz,hsm,vs,kv,hd⟩:=WL I.hok ed
 have hlen:vs.length=kvs.length:=(Paired.length kv).symm
 have hkeys:vs.map (·.1)=kvs.map (·.1):=by
  clear hlen hd hz hl q ed I
  induction kv with
  | nil=>rfl
  | cons h _ ih=>rw [map_cons,map_cons,ih];congr 1;exact h.1.symm
 refine ZhU hd hsm (by omega) fun h' tk G kp=>?_
 rw [hkeys] at G
 have lt:∃ o,h'.get? s.heap.objs.size=some o:=by obtain ⟨o,_,_,_,ho,_⟩:=G;exact ⟨o,ho⟩
 exact ⟨.ref s.heap.objs.size,_,I.laid (t':=tk) kp (Nat.le_refl _) (show ObjOk X.prog X.w _ _ _ (.ext (UG X.prog X.w s.heap.objs.size (Yj (kvs.map (·.1))))) from ⟨G,lt,fun h1 h2 g k=>SetG.keep g k⟩),rfl,q _ (I.hok.fresh (Nat.le_refl _))⟩
def rOrS (P:Program)(w:World):R2:=fun x y H Q=>∃(p r:Addr)(kl kr:List Zk),x=.ref p/\y=.ref r/\p≠r/\H p=some (.ext (UG P w p kl))/\H r=some (.ext (UG P w r kr))/\kl.length<=55/\kr.length<=55 /\
 ∀ q,H q=none->Q (.ref q) (upd H q (.ext (UG P w q (kr.foldl Ys (Yj kl)))))
theorem Zms:Xb X (binaryOp .BitOr) (rOrS X.prog X.w):=by
 intro pins s σ H x y v u Q I rx ry h
 obtain ⟨p,r,kl,kr,rfl,rfl,hne,ep,er,h1,h2,q⟩:=h
 cases rx;cases ry
 obtain ⟨Gl,_,_⟩:=(show ObjOk X.prog X.w H s.heap p (.ext (UG X.prog X.w p kl)) from I.hok p _ ep)
 obtain ⟨Gr,_,_⟩:=(show ObjOk X.prog X.w H s.heap r (.ext (UG X.prog X.w r kr)) from I.hok r _ er)
 refine ZkS hne Gl Gr (by omega) (by omega) fun h' d tk kp G=>?_
 have lt:∃ o,h'.get? s.heap.objs.size=some o:=by obtain ⟨o,_,_,_,ho,_⟩:=G;exact ⟨o,ho⟩
 exact ⟨.ref s.heap.objs.size,_,(I.draw d).laid (t':=tk) kp (Nat.le_refl _) (show ObjOk X.prog X.w _ _ _ (.ext (UG X.prog X.w s.heap.objs.size (kr.foldl Ys (Yj kl)))) from ⟨G,lt,fun h1 h2 g k=>SetG.keep g k⟩),rfl,q _ (I.hok.fresh (Nat.le_refl _))⟩
end
end L2
namespace L2
open PySem PySem.Spec PyProof.Rows
section
variable {X:Cx}
end
mutual
theorem DatT.same {K:KF}{H H':Hp}(s:Same H H'):∀{v d},DatT K H v d->DatT K H' v d
 | _,_,.non=>.non
 | _,_,.int i=>.int i
 | _,_,.str x=>.str x
 | _,_,.tup e q=>.tup (e.tf s.tf) (DatTs.same s q)
theorem DatTs.same {K:KF}{H H':Hp}(s:Same H H'):∀{vs ds},DatTs K H vs ds->DatTs K H' vs ds
 | _,_,.nil=>.nil
 | _,_,.cons r t=>.cons (DatT.same s r) (DatTs.same s t)
end
end L2
namespace K22
open PySem L2
theorem Zat {xs:List Str}{i:Nat}{x:V}(hx:(xs.map V.str)[i]?=some x):∃ y,xs[i]?=some y/\V.str y=x:=by
 rw [getElem?_map] at hx
 cases e:xs[i]? with
 | none=>rw [e] at hx;cases hx
 | some y=>rw [e] at hx;exact ⟨y,rfl,Option.some.inj hx⟩
theorem Tri.up1 {NS:List Str}{nds:List Nd}{F:Str->Option V}:∀{d lev r num:Nat},Tri NS nds F d lev r num->Tri NS nds F (d+1) lev r num
 | 0,_,_,_,h=>.inl h
 | _+1,_,_,_,.inl h=>.inl h
 | _+1,_,_,_,.inr ⟨qs,h1,h2,h3⟩=>.inr ⟨qs,h1,h2,fun i q hq=>Tri.up1 (h3 i q hq)⟩
theorem Tri.deep {NS:List Str}{nds:List Nd}{F:Str->Option V}{d e lev r num:Nat}(h:Tri NS nds F d lev r num)(le:d<=e):Tri NS nds F e lev r num:=by
 induction le with
 | refl=>exact h
 | step _ ih=>exact ih.up1
theorem Zlo {NS:List Str}{nds:List Nd}{F G:Str->Option V}{x:Str}(hx:x∈NS):∀{d lev r num:Nat},Tri NS nds F d lev r num->Tri NS nds G d lev r num->Yq x % 4 ^ lev=r->F x=G x:=by
 have low:∀ {lev r num:Nat},TriE NS nds F lev r num->TriE NS nds G lev r num->Yq x % 4 ^ lev=r->F x=G x:=fun f g e=>by
  rcases f with ⟨_,f1,f2⟩ | ⟨m,ps,f1,_,_,f2⟩<;>rcases g with ⟨_,g1,g2⟩ | ⟨m',ps',g1,_,_,g2⟩
  ·rw [f2 x hx e,g2 x hx e]
  ·rw [f1] at g1;cases g1
  ·rw [f1] at g1;cases g1
  ·rw [f1] at g1;cases g1;rw [f2 x hx e,g2 x hx e]
 intro d
 induction d with
 | zero=>intro lev r num f g e;exact low f g e
 | succ d ih =>
  intro lev r num f g e
  rcases f with f | ⟨qs,f1,f2,f3⟩<;>rcases g with g | ⟨qs',g1,_,g3⟩
  ·exact low f g e
  ·rcases f with ⟨_,f1,_⟩ | ⟨m,ps,f1,_⟩<;>· rw [g1] at f1;cases f1
  ·rcases g with ⟨_,g1,_⟩ | ⟨m,ps,g1,_⟩<;>· rw [f1] at g1;cases g1
  ·rw [f1] at g1;cases g1
   have hi:Yq x / 4 ^ lev % 4 < qs.length:=by rw [f2];exact Nat.mod_lt _ (by decide)
   have hq:=getElem?_eq_getElem hi
   exact ih (f3 _ _ hq) (g3 _ _ hq) (by rw [XA,e])
def Ua (nds:List Nd):Nat->Nat->Nat->Nat
 | 0,_,_=>1
 | d+1,s,t=>if s=t then 1 else match nds[s]?,nds[t]? with
  | some (.fork qs),some (.fork rs)=>1+((qs.zip rs).map fun p=>Ua nds d p.1 p.2).sum
  | _,_=>1
theorem Ziq {a b:Option V}(ha:∀ u,a=some u->ValV u)(hb:∀ u,b=some u->ValV u):scal (a.getD .non) (b.getD .non)=true:=by
 cases b with
 | some v=>exact (hb v rfl).scal ha
 | none =>
  cases a with
  | none=>rfl
  | some u =>
   have:=ha u rfl
   cases u<;>first | rfl | exact this.elim
theorem Zam {a b:Option V}(ha:∀ u,a=some u->ValV u)(hb:∀ u,b=some u->ValV u):a.getD .non=b.getD .non↔a=b:=by
 cases a with
 | none =>
  cases b with
  | none=>exact ⟨fun _=>rfl,fun _=>rfl⟩
  | some v=>exact ⟨fun z=>by have:=hb v rfl;rw [<- (show V.non=v from z)] at this;exact this.elim,fun z=>by cases z⟩
 | some u =>
  cases b with
  | none=>exact ⟨fun z=>by have:=ha u rfl;rw [(show u=V.non from z)] at this;exact this.elim,fun z=>by cases z⟩
  | some v=>exact ⟨fun z=>congrArg some z,fun z=>Option.some.inj z⟩
theorem UK:∀ ks:List Zk,(∀ k∈ks,∃ x:Str,k=Sum.inr x)->∃ ns:List Str,ks=ns.map Sum.inr
 | [],_=>⟨[],rfl⟩
 | k::r,h=>by
  obtain ⟨x,rfl⟩:=h k mem_cons_self
  obtain ⟨ns,rfl⟩:=UK r fun k hk=>h k (mem_cons_of_mem _ hk)
  exact ⟨x::ns,rfl⟩
theorem ZbX {x:Str}{l:List Str}:(Sum.inr x:Zk)∈l.map Sum.inr↔x∈l:=by
 rw [mem_map];exact ⟨fun ⟨a,h,e⟩=>by cases e;exact h,fun h=>⟨x,h,rfl⟩⟩
theorem ZjE {ps qs:ZH}:∃ ns:List Str,((Yj ((qs.map kP).map (·.1))).foldl Ys (Yj (Yj ((ps.map kP).map (·.1)))))=ns.map Sum.inr/\ns.Nodup/\∀ x,x∈ns↔x∈ps.map (·.1)\/x∈qs.map (·.1):=by
 have ek:∀ ps:List (Str×V),(ps.map kP).map (·.1)=(ps.map (·.1)).map (Sum.inr:Str->Zk):=fun ps=>by rw [map_map,map_map];rfl
 rw [ek,ek]
 have mem:∀ k,k∈((Yj ((qs.map (·.1)).map Sum.inr)).foldl Ys (Yj (Yj ((ps.map (·.1)).map Sum.inr))))↔k∈(ps.map (·.1)).map (Sum.inr:Str->Zk)\/k∈(qs.map (·.1)).map (Sum.inr:Str->Zk):=fun k=>by
  rw [XT,VR,VR,VR]
 obtain ⟨ns,e⟩:=UK _ fun k hk=>by
  rcases (mem k).mp hk with z | z<;>· obtain ⟨x,_,rfl⟩:=mem_map.mp z;exact ⟨x,rfl⟩
 refine ⟨ns,e,?_,fun x=>?_⟩
 ·have:=XB (Yj ((qs.map (·.1)).map (Sum.inr:Str->Zk))) _ (Zeu (Yj ((ps.map (·.1)).map (Sum.inr:Str->Zk))))
  rw [e] at this
  exact (pairwise_map.mp this).imp fun h z=>h (by rw [z])
 ·rw [<- ZbX (l:=ns),<- e,mem,ZbX,ZbX]
theorem ZbA {H H':Hp}{a:Addr}{o:HO}(h:H a=none)(e:upd H a o=H'):Same H H'/\H' a=some o:=by subst e;exact ⟨Zx h _,Zg⟩
theorem UQ {ps:ZH}{x:Str}(nd:(ps.map (·.1)).Nodup):lk ps x=none↔x ∉ ps.map (·.1):=by
 constructor
 ·intro e hx
  obtain ⟨p,hp,rfl⟩:=mem_map.mp hx
  have:=(YN nd).mpr (show (p.1,p.2)∈ps from hp)
  rw [e] at this;cases this
 ·intro hx
  exact ZbT fun p hp z=>hx (mem_map.mpr ⟨p,hp,z⟩)
section
variable {P:Program}{w:World}{K:KF}{mg:Str->Option Value}{base:Heap}{C Pl Pp:Addr}
def ZfL:Sp:=fun vs H Q _=>∃(l1 l2:Addr)(NS:List Str)(ts us:List Addr)(ps qs:ZH),vs=[.ref l1,.ref l2]/\NS.length<=50/\H l1=some (.lst (ts.map V.ref))/\H l2=some (.lst (us.map V.ref))/\PairT H ts ps/\PairT H us qs/\(ps.map (·.1)).Nodup/\(qs.map (·.1)).Nodup/\(∀ p∈ps,p.1∈NS/\ValV p.2)/\(∀ p∈qs,p.1∈NS/\ValV p.2) /\
 ∀ (l:Addr) (H':Hp) (ys:List Str),H l=none->Same H H'->H' l=some (.lst (ys.map V.str))->ys.Nodup->(∀ x,x∈ys↔lk ps x≠lk qs x)->ys.length<=50->Q (.ref l) H'
abbrev nUn:List Str:=["pairs","other_pairs","values","others","names"]
abbrev Zga:List Str:=["pairs","other_pairs"]
theorem scUn:Zp nUn Zga (Zj s_unlike_names):=⟨rfl,rfl,rfl,by decide +kernel,rfl,by decide +kernel,by decide +kernel⟩
theorem ZmL {f:Addr}{fd:FuncData}(F:Fun K "unlike_names" "unlike_names" s_unlike_names f fd)(T:Yz mg)(DAl:Def P w K mg base 1 "alike" ["one","other"] ZbS):FnOk P w K mg base ZL 2 f fd Zga ZfL:=by
 refine F.ok scUn (fun vs H Q E h=>?_) (fun cdv A outer s H vs Q E hr h=>?_)
 ·obtain ⟨l1,l2,NS,ts,us,ps,qs,rfl,_⟩:=h;rfl
 obtain ⟨l1,l2,NS,ts,us,ps,qs,rfl,hN,e1,e2,p1,p2,n1,n2,v1,v2,q⟩:=h
 have hr1:=hr
 refine' ⟨?t,?h,?r⟩
 case h =>
  conv=>arg 2;whnf
  with_reducible refine' (Zc ?h1 (Zc ?h2 (Zc ?h3 (Zh ?h4))))
  case h1=>exact Zt (i:=2) scUn.nd rfl (Or.inr rfl) (Yl (Uq rfl) rfl T.dict (by decide +kernel) (Zb (pv 0) Za))
  case h2=>exact Zt (i:=3) scUn.nd rfl (Or.inr rfl) (Yl (Uq rfl) rfl T.dict (by decide +kernel) (Zb (pv 1) Za))
  case h3=>exact Zt (i:=4) scUn.nd rfl (Or.inl rfl) (Zv (Zas rfl) rfl T.sorted (by decide +kernel) (Zb (Zr Zms (Yl VJ rfl T.set (by decide +kernel) (Zb (pv 2) Za)) (Yl VJ rfl T.set (by decide +kernel) (Zb (pv 3) Za))) Za))
  case h4=>exact Zm (Zde (CompOk.of nUn s_unlike_names rfl rfl (by decide +kernel)) rfl (XI (pv 4)) (fun _ _ _ _ _=>XQ (XR (Zu DAl hr1 (Zb (Ub (Wy hr) (pv 2) (pv 5) ⟨rfl,rfl,rfl,rfl⟩) (Zb (Ub (Wy hr) (pv 3) (pv 5) ⟨rfl,rfl,rfl,rfl⟩) Za))))) (fun _ _ _ _ _=>pv 5))
 have f1:ps.length<=50:=by
  have:=XM n1 (N:=NS) fun x hx=>by obtain ⟨p,hp,rfl⟩:=mem_map.mp hx;exact (v1 p hp).1
  rw [length_map] at this;omega
 have f2:qs.length<=50:=by
  have:=XM n2 (N:=NS) fun x hx=>by obtain ⟨p,hp,rfl⟩:=mem_map.mp hx;exact (v2 p hp).1
  rw [length_map] at this;omega
 refine ⟨_,rfl,l1,ts,ps,rfl,e1,p1.1,by omega,p1.2,n1,fun d1 hd1=>?_⟩
 generalize hE:upd H d1 _=H1
 obtain ⟨s1,ed1⟩:=ZbA hd1 hE
 clear hE
 refine ⟨_,rfl,l2,us,qs,rfl,s1 _ _ e2,p2.1,by omega,(p2.tf s1.tf).2,n2,fun d2 hd2=>?_⟩
 generalize hE:upd H1 d2 _=H2
 obtain ⟨s2,ed2⟩:=ZbA hd2 hE
 clear hE
 have ed1':=s2 _ _ ed1
 refine ⟨_,rfl,d1,_,rfl,ed1',by rw [length_map];omega,fun a1 ha1=>?_⟩
 generalize hE:upd H2 a1 _=H3
 obtain ⟨s3,ea1⟩:=ZbA ha1 hE
 clear hE
 refine ⟨_,rfl,d2,_,rfl,s3 _ _ ed2,by rw [length_map];omega,fun a2 ha2=>?_⟩
 generalize hE:upd H3 a2 _=H4
 obtain ⟨s4,ea2⟩:=ZbA ha2 hE
 clear hE
 refine ⟨a1,a2,_,_,rfl,rfl,(fun z=>by rw [<- z,ea1] at ha2;cases ha2),s4 _ _ ea1,ea2,Nat.le_trans (Uv _) (by rw [length_map,length_map];omega),Nat.le_trans (Uv _) (by rw [length_map,length_map];omega),fun a3 ha3=>?_⟩
 generalize hE:upd H4 a3 _=H5
 obtain ⟨s5,ea3⟩:=ZbA ha3 hE
 clear hE
 obtain ⟨ns,ens,hnd,hns⟩:=ZjE (ps:=ps) (qs:=qs)
 rw [show (ps.map fun p:Str×V=>((Sum.inr p.1:Zk),p.2))=ps.map kP from rfl,show (qs.map fun p:Str×V=>((Sum.inr p.1:Zk),p.2))=qs.map kP from rfl,ens] at ea3
 have hnsl:ns.length<=50:=by
  have:=XM hnd (N:=NS) fun x hx=>by
   rcases (hns x).mp hx with z | z<;>obtain ⟨p,hp,rfl⟩:=mem_map.mp z
   ·exact (v1 p hp).1
   ·exact (v2 p hp).1
  omega
 refine ⟨a3,ns,rfl,ea3,by omega,fun nl ys hnl hpm _=>?_⟩
 generalize hE:upd H5 nl _=H6
 obtain ⟨s6,enl⟩:=ZbA hnl hE
 clear hE
 have s06:=((((s1.trans s2).trans s3).trans s4).trans s5).trans s6
 have g1:H6 d1=some (.dK (ps.map kP)):=s6 _ _ (s5 _ _ (s4 _ _ (s3 _ _ ed1')))
 have g2:H6 d2=some (.dK (qs.map kP)):=s6 _ _ (s5 _ _ (s4 _ _ (s3 _ _ ed2)))
 have hyl:ys.length<=50:=by rw [hpm.length_eq];exact hnsl
 refine ⟨_,rfl,nl,rfl,⟨_,SqL.of enl⟩,fun D hD=>?_⟩
 have vl:∀ {ps:ZH},(ps.map (·.1)).Nodup->(∀ p∈ps,p.1∈NS/\ValV p.2)->∀ x u,lk ps x=some u->ValV u:=fun nd h x u e=>(h _ ((YN nd).mp e)).2
 refine Zbf (K:=K) (xs:=ys.map V.str) (Yv (show _<=1000 by rw [length_map];omega)) (fun j zs H'=>Same H6 H'/\H' D=some (.lst zs)/\zs=((ys.take j).filter fun x=>decide (lk ps x≠lk qs x)).map V.str/\j<=ys.length) ⟨Zx hD _,Zg,rfl,Nat.zero_le _⟩ ?_ ?_ ?_
 ·rintro j zs H' ⟨s7,_,rfl,hj⟩
  exact ⟨by rw [length_map];exact Nat.le_trans (length_filter_le _ _) (by rw [length_take];exact Nat.min_le_left _ _),SqL.of (s7 _ _ enl)⟩
 ·rintro j v zs H' hv ⟨s7,eD,rfl,_⟩
  obtain ⟨x,hx,rfl⟩:=Zat hv
  refine ⟨_,rfl,d1,rfl,.inl ⟨_,.inl (s7 _ _ g1)⟩,_,rfl,_,DGet.k (k:=Sum.inr x) (s7 _ _ g1),_,rfl,d2,rfl,.inl ⟨_,.inl (s7 _ _ g2)⟩,_,rfl,_,DGet.k (k:=Sum.inr x) (s7 _ _ g2),?_⟩
  refine ⟨(lk ps x).getD .non,(lk qs x).getD .non,rfl,Ziq (vl n1 v1 x) (vl n2 v2 x),_,rfl,?_⟩
  have tk:∀ (b:Bool),decide (lk ps x≠lk qs x)=b->((ys.take (j+1)).filter fun x=>decide (lk ps x≠lk qs x)).map V.str=((ys.take j).filter fun x=>decide (lk ps x≠lk qs x)).map V.str++(if b=true then [V.str x] else []):=fun b hb=>by
   rw [take_succ,hx,List.filter_append,map_append]
   cases b
   ·simp only [Option.toList_some,filter_cons,hb,List.filter_nil];rfl
   ·simp only [Option.toList_some,filter_cons,hb,List.filter_nil];rfl
  have hjl:=(List.getElem?_eq_some_iff.mp hx).1
  refine Xf (fun c=>?_) (fun c=>?_)
  ·have hne:lk ps x≠lk qs x:=fun z=>by rw [decide_eq_true ((Zam (vl n1 v1 x) (vl n2 v2 x)).mpr z)] at c;cases c
   refine ⟨_,rfl,eD,fun b o e=>?_,Zg,?_,hjl⟩
   ·rw [Zi (Zs e hD)];exact s7 _ _ e
   ·rw [tk true (decide_eq_true hne)];rfl
  ·have hne:¬ lk ps x≠lk qs x:=fun z=>c (by rw [decide_eq_false fun y=>z ((Zam (vl n1 v1 x) (vl n2 v2 x)).mp y)];rfl)
   refine ⟨s7,eD,?_,hjl⟩
   rw [tk false (decide_eq_false hne)];simp
 ·rintro zs H7 ⟨s7,eD,rfl,_⟩
  rw [length_map,take_of_length_le (Nat.le_refl _)] at eD
  have hys:ys.Nodup:=hpm.nodup_iff.mpr hnd
  refine q D H7 _ (Uw s06 hD) (s06.trans s7) eD (hys.filter _) (fun x=>?_) (Nat.le_trans (length_filter_le _ _) hyl)
  rw [mem_filter]
  refine ⟨fun h=>of_decide_eq_true h.2,fun h=>⟨?_,decide_eq_true h⟩⟩
  rw [hpm.mem_iff,hns]
  apply Classical.byContradiction
  intro z
  rw [not_or] at z
  exact h (by rw [(UQ n1).mpr z.1,(UQ n2).mpr z.2])
end
def PsOf (NS:List Str)(F:Str->Option V)(lev r:Nat)(ps:ZH):Prop:=(ps.map (·.1)).Nodup/\∀ x v,(x,v)∈ps↔x∈NS/\Yq x % 4 ^ lev=r/\F x=some v
def PsTo (NS:List Str)(F:Str->Option V)(lev r i:Nat)(ps:ZH):Prop:=(ps.map (·.1)).Nodup/\∀ x v,(x,v)∈ps↔x∈NS/\Yq x % 4 ^ lev=r/\Yq x / 4 ^ lev % 4 < i/\F x=some v
theorem key_mem {ps:ZH}{x:Str}:x∈ps.map (·.1)↔∃ v,(x,v)∈ps:=by
 rw [mem_map]
 exact ⟨fun ⟨⟨a,v⟩,h,e⟩=>⟨v,by cases e;exact h⟩,fun ⟨v,h⟩=>⟨_,h,rfl⟩⟩
section
variable {NS:List Str}{F:Str->Option V}{lev r:Nat}
theorem PsTo.zero:PsTo NS F lev r 0 []:=⟨nodup_nil,fun x v=>⟨(fun h=>nomatch h),fun h=>absurd h.2.2.1 (Nat.not_lt_zero _)⟩⟩
theorem PsTo.step {i:Nat}{ps qs:ZH}(h:PsTo NS F lev r i ps)(hr:r < 4 ^ lev)(g:PsOf NS F (lev+1) (r+i * 4 ^ lev) qs):PsTo NS F lev r (i+1) (ps++qs):=by
 have inv:∀ {n:Nat},n % 4 ^ (lev+1)=r+i * 4 ^ lev↔n % 4 ^ lev=r/\n / 4 ^ lev % 4=i:=fun {n}=>⟨fun z=>Xv hr z,fun ⟨z1,z2⟩=>by rw [XA,z1,z2]⟩
 refine ⟨?_,fun x v=>?_⟩
 ·rw [map_append,nodup_append]
  refine ⟨h.1,g.1,fun a ha b hb e=>?_⟩
  subst e
  obtain ⟨u,hu⟩:=key_mem.mp ha
  obtain ⟨v,hv⟩:=key_mem.mp hb
  have h1:=((h.2 _ _).mp hu).2.2.1
  have h2:=(inv.mp ((g.2 _ _).mp hv).2.1).2
  omega
 ·rw [mem_append,h.2,g.2,inv]
  constructor
  ·rintro (⟨h1,h2,h3,h4⟩ | ⟨h1,⟨h2,h3⟩,h4⟩)
   ·exact ⟨h1,h2,by omega,h4⟩
   ·exact ⟨h1,h2,by omega,h4⟩
  ·rintro ⟨h1,h2,h3,h4⟩
   by_cases z:Yq x / 4 ^ lev % 4 < i
   ·exact .inl ⟨h1,h2,z,h4⟩
   ·exact .inr ⟨h1,⟨h2,by omega⟩,h4⟩
theorem PsTo.done {ps:ZH}(h:PsTo NS F lev r 4 ps):PsOf NS F lev r ps :=
 ⟨h.1,fun x v=>by rw [h.2];exact ⟨fun ⟨a,b,_,c⟩=>⟨a,b,c⟩,fun ⟨a,b,c⟩=>⟨a,b,Nat.mod_lt _ (by decide),c⟩⟩⟩
theorem ZhX (h:∀ x∈NS,Yq x % 4 ^ lev=r->F x=none):PsOf NS F lev r []:=⟨nodup_nil,fun x v=>⟨(fun h=>nomatch h),fun ⟨a,b,c⟩=>by rw [h x a b] at c;cases c⟩⟩
theorem Zgt {m:Int}{ps:ZH}(G:LeafG NS m ps)(hm:m.toNat % 4 ^ lev=r)(hF:∀ x∈NS,Yq x % 4 ^ lev=r->F x=lk ps x):PsOf NS F lev r ps:=by
 refine ⟨G.nd,fun x v=>⟨fun h=>?_,fun ⟨h1,h2,h3⟩=>?_⟩⟩
 ·have h1:=G.sub _ h
  have h2:Yq x % 4 ^ lev=r:=by unfold Yq;rw [G.mrk _ h];exact hm
  exact ⟨h1,h2,by rw [hF x h1 h2];exact (YN G.nd).mpr h⟩
 ·rw [hF x h1 h2] at h3
  exact (YN G.nd).mp h3
theorem PsOf.few {ps:ZH}(h:PsOf NS F lev r ps):ps.length<=NS.length:=by
 have:=XM h.1 (N:=NS) fun x hx=>by obtain ⟨v,hv⟩:=key_mem.mp hx;exact ((h.2 _ _).mp hv).1
 rwa [length_map] at this
end
section
variable {P:Program}{w:World}{K:KF}{mg:Str->Option Value}{base:Heap}{C Pp:Addr}{NS:List Str}
def ZbL (K:KF)(C:Addr)(NS:List Str):Nat->Sp
 | 0=>fun _ _ _ _=>False
 | d+1=>fun vs H Q _=>∃ (st ln dt:Addr) (nds:List Nd) (tabs:ZK) (num lev r:Nat) (F:Str->Option V),vs=[.ref st,iN num]/\StoreAt K C st ln dt H nds tabs/\Tri NS nds F d lev r num/\r < 4 ^ lev /\
  ∀ (l:Addr) (H':Hp) (ts:List Addr) (ps:ZH),H l=none->Same H H'->H' l=some (.lst (ts.map V.ref))->PairT H' ts ps->PsOf NS F lev r ps->Q (.ref l) H'
theorem ZhL {H:Hp}{ts us:List Addr}{ps qs:ZH}(h:PairT H ts ps)(g:PairT H us qs):PairT H (ts++us) (ps++qs):=by
 refine ⟨by rw [length_append,length_append,h.1,g.1],fun i a p e1 e2=>?_⟩
 by_cases hi:i < ts.length
 ·rw [getElem?_append_left hi] at e1
  rw [getElem?_append_left (by rw [<- h.1];exact hi)] at e2
  exact h.2 i a p e1 e2
 ·rw [getElem?_append_right (by omega)] at e1
  rw [getElem?_append_right (by rw [<- h.1];omega),<- h.1] at e2
  exact g.2 _ a p e1 e2
abbrev nPB:List Str:=["self","number","node","told","part"]
abbrev VD:List Str:=["self","number"]
theorem scPB:Zp nPB VD (Zj c_Store_pairs_below):=⟨rfl,rfl,rfl,by decide +kernel,rfl,by decide +kernel,by decide +kernel⟩
theorem Zoa {f:Addr}{fd:FuncData}{d k:Nat}(N:Yf NS)(hk:1<=k)(F:Fun K "pairs_below" "Store.pairs_below" c_Store_pairs_below f fd)(T:Txt K mg)(TC:YT K C)
 (DR:Def P w K mg base 1 "pairs_in" ["node"] (XO K)) (DP:Def P w K mg base 1 "parts_in" ["node"] (XH K))
 (DS_pairs_below:DefM P w K mg base k C "pairs_below" VD (ZbL K C NS d)):FnOk P w K mg base ZL (k+1) f fd VD (ZbL K C NS (d+1)):=by
 refine F.ok scPB (fun vs H Q E h=>?_) (fun cdv A outer s H vs Q E hr h=>?_)
 ·obtain ⟨st,ln,dt,nds,tabs,num,lev,r,F,rfl,_⟩:=h;rfl
 obtain ⟨st,ln,dt,nds,tabs,num,lev,r,Fm,rfl,S,htri,hrl,q⟩:=h
 have hr1:=hr.mono hk
 refine' ⟨?t,?h,?r⟩
 case h =>
  conv=>arg 2;whnf
  with_reducible refine' (Zc ?h1 (Zc ?h2 (Zc (Xi ?h3 ?h4 ?h5 ?h6 (Zh ?h7) ?h8) (Zh ?h9))))
  case h1=>exact Zt (i:=2) scPB.nd rfl (Or.inl rfl) (Zq ZA (ZY (pv 0) rfl) (pv 1) (fun _ _=>rfl))
  case h2=>exact Zt (i:=3) scPB.nd rfl (Or.inl rfl) (Yl WU rfl T.list (by decide +kernel) (Zb (Zu DR hr1 (Zb (pv 2) Za)) Za))
  case h3=>exact PassesOwn.never
  case h4=>exact rfl
  case h5=>exact ZdZ (Zu DP hr1 (Zb (pv 2) Za))
  case h6=>exact ZN (i:=4) scPB.nd rfl (Or.inl rfl)
  case h7=>exact Yi (YO PySem.F.plainAttrs_list PySem.F.slot_list_extend PySem.F.type_list_extend VI (pv 3) (Zb (Ym DS_pairs_below TC.cl hr (pv 0) (Zb (pv 4) Za)) Za))
  case h8=>exact fun _=>rfl
  case h9=>exact Zm (pv 3)
 obtain ⟨n,hn,_⟩:=Wq htri
 obtain ⟨as,a,nl,ha,hna⟩:=S.node hn
 obtain ⟨dx,ob⟩:=S.ob
 refine ⟨_,rfl,st,C,dx,_,_,rfl,ob,TC.cl,TC.nN,Xm ln dt,_,rfl,ln,_,_,_,rfl,rfl,SqL.of nl,Zw (by rw [getElem?_map,ha];rfl),?_⟩
 refine ⟨_,rfl,a,n,rfl,hna,fun pt H1 s1 hpt=>?_⟩
 obtain ⟨o,ts,ept,hod,hPT⟩:=hpt
 refine ⟨pt,_,rfl,.inr (.inl (.inr ⟨o,ept⟩)),fun l hl=>?_⟩
 have hlH:H l=none:=Uw s1 hl
 have s2:=Zx hl (.lst (ts.map V.ref))
 refine ⟨_,rfl,a,n,rfl,hna.tf (s1.trans s2).tf,fun pa H3 s3 hpa=>?_⟩
 have s03:Same H H3:=(s1.trans s2).trans s3
 refine ⟨pa,rfl,⟨_,hpa⟩,?_⟩
 have hlen:∀ {lev' r':Nat} {ps:ZH},PsOf NS Fm lev' r' ps->ps.length<=63:=fun h=>by have:=h.few;have:=N.few;omega
 have ends:n.parts=[]->PsOf NS Fm lev r n.pairs:=fun z=>by
  have e:TriE NS nds Fm lev r num->PsOf NS Fm lev r n.pairs:=fun g=>by
   rcases g with ⟨_,h2,h3⟩ | ⟨m,ps,h1,G,hm,hF⟩
   ·rw [hn] at h2;cases h2;exact ZhX h3
   ·rw [hn] at h1;cases h1;exact Zgt G hm hF
  cases d with
  | zero=>exact e htri
  | succ d =>
   rcases htri with h | ⟨qs,h1,h2,_⟩
   ·exact e h
   ·rw [hn] at h1;cases h1
    rw [show qs=[] from z] at h2;cases h2
 refine ZkK (K:=K) (xs:=n.parts.map fun q:Nat=>V.int (q:Int)) (fun i σ H'=>∃ (y:Option V) (us:List Addr) (ps:ZH),σ=[some (.ref st),some (iN num),some (.ref a),some (.ref l),y]/\Same H H'/\Same H1 H'/\SqT K H' pa (n.parts.map fun q:Nat=>V.int (q:Int))/\H' l=some (.lst (us.map V.ref))/\PairT H' us ps/\(n.parts=[]->ps=n.pairs)/\(n.parts≠[]->PsTo NS Fm lev r i ps))
  ⟨_,ts,n.pairs,rfl,s03,s2.trans s3,hpa,s3 _ _ Zg,(hPT.tf s2.tf).tf s3.tf,fun _=>rfl,fun z=>?_⟩ (fun i σ H' _ h=>?_) ?_ ?_
 ·cases n with
  | bare=>exact absurd rfl z
  | leaf m ps=>exact absurd rfl z
  | fork qs=>exact PsTo.zero
 ·obtain ⟨_,_,_,_,_,_,h,_⟩:=h;exact h
 ·rintro i x σ H4 hx ⟨y,us,ps,rfl,s4,s14,hpa4,el4,hpt4,hb4,hf4⟩
  rw [getElem?_map] at hx
  cases eq1:n.parts[i]? with
  | none=>rw [eq1] at hx;cases hx
  | some q1 =>
   rw [eq1] at hx
   cases (show some (V.int (q1:Int))=some x from hx)
   have hne:n.parts≠[]:=fun z=>by rw [z] at eq1;simp at eq1
   have hto:=hf4 hne
   cases n with
   | bare=>exact absurd rfl hne
   | leaf m ps=>exact absurd rfl hne
   | fork qs =>
    cases d with
    | zero =>
     rcases htri with ⟨_,h2,_⟩ | ⟨m,ps,h1,_⟩
     ·rw [hn] at h2;cases h2
     ·rw [hn] at h1;cases h1
    | succ d =>
     rcases htri with h | ⟨qs',h1,h2,h3⟩
     ·rcases h with ⟨_,h2,_⟩ | ⟨m,ps,h1,_⟩
      ·rw [hn] at h2;cases h2
      ·rw [hn] at h1;cases h1
     ·rw [hn] at h1;cases h1
      have tq:=h3 i q1 eq1
      have hi4:i < 4:=by rw [<- h2];exact (List.getElem?_eq_some_iff.mp eq1).1
      have S4:=S.keep s4
      obtain ⟨dx4,ob4⟩:=S4.ob
      refine ⟨_,rfl,.inl ⟨rfl,_,SqL.of el4⟩,_,rfl,st,dx4,_,rfl,ob4,ZR ln dt,_,rfl,?_⟩
      refine ⟨st,ln,dt,nds,tabs,q1,lev+1,r+i * 4 ^ lev,Fm,rfl,S4,tq,WF hrl hi4,fun l2 H5 us2 ps2 hl2 s5 el5 hpt5 hps5=>?_⟩
      have nl2:l2≠l:=fun z=>by rw [z,el4] at hl2;cases hl2
      have el45:=s5 _ _ el4
      have b1:=hlen hps5
      have b2:ps.length<=63:=by
       have h1:=XM hto.1 (N:=NS) fun x hx=>by obtain ⟨v,hv⟩:=key_mem.mp hx;exact ((hto.2 _ _).mp hv).1
       rw [length_map] at h1
       have:=N.few
       omega
      refine ⟨l,l2,_,_,rfl,rfl,el45,el5,by rw [length_map,length_map,hpt4.1,hpt5.1];exact Yv (show _<=200 by omega),?_⟩
      have tf5:=ZaL (o:=.lst (us.map V.ref++us2.map V.ref)) el45
      refine ⟨_,us++us2,ps++ps2,rfl,fun b o e=>?_,fun b o e=>?_,(hpa4.tf s5.tf).tf tf5,?_,ZhL ((hpt4.tf s5.tf).tf tf5) (hpt5.tf tf5),fun z=>absurd z hne,fun _=>hto.step hrl hps5⟩
      ·rw [Zi (Zs e hlH)];exact s5 _ _ (s4 _ _ e)
      ·rw [Zi (Zs e hl)];exact s5 _ _ (s14 _ _ e)
      ·rw [map_append];exact Zg
 ·rintro σ H4 ⟨y,us,ps,rfl,s4,s14,hpa4,el4,hpt4,hb4,hf4⟩
  refine ⟨_,rfl,q l H4 us ps hlH s4 el4 hpt4 ?_⟩
  by_cases z:n.parts=[]
  ·rw [hb4 z];exact ends z
  ·have h4:=hf4 z
   rw [length_map] at h4
   cases n with
   | bare=>exact absurd rfl z
   | leaf m ps=>exact absurd rfl z
   | fork qs =>
    obtain ⟨_,_,_,hl4⟩:=hna
    rw [show (Nd.fork qs).parts.length=4 from hl4] at h4
    exact h4.done
theorem ZgU {f:Addr}{fd:FuncData}(N:Yf NS)(F:Fun K "pairs_below" "Store.pairs_below" c_Store_pairs_below f fd)(T:Txt K mg)(TC:YT K C)(DR:Def P w K mg base 1 "pairs_in" ["node"] (XO K))(DP:Def P w K mg base 1 "parts_in" ["node"] (XH K))
 (b:Binds K fd VD []) (mt:VE K C "pairs_below" f):∀ d,FnOk P w K mg base ZL (1+d) f fd VD (ZbL K C NS d)
 | 0=>F.ok scPB (fun _ _ _ _ h=>h.elim) (fun _ _ _ _ _ _ _ _ _ h=>h.elim)
 | d+1=>Zoa N (Nat.le_add_right 1 d) F T TC DR DP ⟨f,fd,ZgU N F T TC DR DP b mt d,b,mt⟩
end
section
variable {K:KF}{C:Addr}
def Zaa (K:KF)(C:Addr):Sp:=fun vs H Q _=>∃(st:Addr)(nds:List Nd)(tabs:ZK)(t:Nat)(n:Nd),vs=[.ref st,iN t]/\XY K C nds tabs st H/\nds[t]?=some n/\∀ a,NodeAt K H a n->Q (.ref a) H
theorem Zmw {vs:List V}{H:Hp}{Q:VK}{E:XK}(h:Zaa K C vs H Q E):Zhz K C vs H Q E:=by
 obtain ⟨st,nds,tabs,t,n,e,⟨_,ln,dt,S⟩,hn,q⟩:=h
 exact ⟨st,ln,dt,nds,tabs,t,n,e,S,hn,q⟩
end
def TqR (K:KF)(xs:List V):YH:=fun a h=>SqT K h a xs
instance {K:KF} {xs:List V}:Up (TqR K xs):=⟨fun h s=>SqT.tf h s.tf⟩
theorem Sep.tq {K:KF}{Δ:Rs}{H:Hp}{a:Addr}{xs:List V}(S:Sep Δ H)(e:SqT K H a xs):Sep ((a,TqR K xs)::Δ) H:=by
 have put:∀ o:HO,H a=some o->YB o=false->TqR K xs a (one a o)->Sep ((a,TqR K xs)::Δ) H:=fun o eo m t =>
  ⟨one a o,fun c u z=>by obtain ⟨rfl,rfl⟩:=one_some.mp z;exact eo,t,S.mono fun c u z=>cut_some.mpr ⟨z,fun v y=>by obtain ⟨_,rfl⟩:=one_some.mp y;exact m⟩⟩
 rcases e with (e | ⟨o,e⟩) | e
 ·exact put _ e rfl (.inl (.inl (one_some.mpr ⟨rfl,rfl⟩)))
 ·exact put _ e rfl (.inl (.inr ⟨o,one_some.mpr ⟨rfl,rfl⟩⟩))
 ·exact ⟨fun _=>none,(fun c u z=>nomatch z),.inr e,S.mono fun c u z=>cut_some.mpr ⟨z,fun v y=>nomatch y⟩⟩
theorem ZcO {NS:List Str}{F:Str->Option V}{lev r:Nat}{ps:ZH}(h:PsOf NS F lev r ps)(x:Str):(x∈NS/\Yq x % 4 ^ lev=r->lk ps x=F x)/\(¬ (x∈NS/\Yq x % 4 ^ lev=r)->lk ps x=none):=by
 refine ⟨fun ⟨h1,h2⟩=>?_,fun z=>?_⟩
 ·cases e:F x with
  | some v=>exact (YN h.1).mpr ((h.2 x v).mpr ⟨h1,h2,e⟩)
  | none =>
   cases e2:lk ps x with
   | none=>rfl
   | some v=>have:=((h.2 x v).mp ((YN h.1).mp e2)).2.2;rw [e] at this;cases this
 ·cases e2:lk ps x with
  | none=>rfl
  | some v=>have:=(h.2 x v).mp ((YN h.1).mp e2);exact absurd ⟨this.1,this.2.1⟩ z
theorem ZdJ {NS:List Str}{nds:List Nd}{F:Str->Option V}{d lev r num:Nat}{n:Nd}(h:Tri NS nds F d lev r num)(e:nds[num]?=some n):(n.parts=[]/\∀ qs,n≠.fork qs)\/∃ qs d',n=.fork qs/\d=d'+1/\qs.length=4/\∀ i q,qs[i]?=some q->Tri NS nds F d' (lev+1) (r+i * 4 ^ lev) q:=by
 have low:TriE NS nds F lev r num->n.parts=[]/\∀ qs,n≠.fork qs:=fun g=>by
  rcases g with ⟨_,g,_⟩ | ⟨m,ps,g,_⟩
  ·rw [e] at g;cases g;exact ⟨rfl,fun _ z=>by cases z⟩
  ·rw [e] at g;cases g;exact ⟨rfl,fun _ z=>by cases z⟩
 cases d with
 | zero=>exact .inl (low h)
 | succ d =>
  rcases h with h | ⟨qs,h1,h2,h3⟩
  ·exact .inl (low h)
  ·rw [e] at h1;cases h1;exact .inr ⟨qs,d,rfl,rfl,h2,h3⟩
section
variable {P:Program}{w:World}{K:KF}{mg:Str->Option Value}{base:Heap}{C Pl Pp:Addr}{NS:List Str}
def VlF (F:Str->Option V):Prop:=∀ x u,F x=some u->ValV u
def Zbp (K:KF)(C:Addr)(NS:List Str):Nat->Sp
 | 0=>fun _ _ _ _=>False
 | d+1=>fun vs H Q _=>∃ (st nm:Addr) (nds:List Nd) (tabs:ZK) (s t lev r:Nat) (F G:Str->Option V) (xs:List Str) (Δ:Rs),vs=[.ref st,iN s,iN t,.ref nm]/\Sep ((st,XY K C nds tabs)::(nm,ZD (xs.map V.str))::Δ) H/\Tri NS nds F d lev r s/\Tri NS nds G d lev r t/\r < 4 ^ lev/\lev+d=5/\VlF F/\VlF G/\xs.length+64 * (d+1)<=1000 /\
  ∀ (ys:List Str) (H':Hp),Sep ((st,XY K C nds tabs)::(nm,ZD ((xs++ys).map V.str))::Δ) H'->ys.Nodup->(∀ x,x∈ys↔x∈NS/\Yq x % 4 ^ lev=r/\F x≠G x)->Q (.int (Ua nds (d+1) s t:Int)) H'
abbrev nCm:List Str:=["store","one","other","names","one_parts","other_parts","looks","one_part","other_part"]
abbrev Zax:List Str:=["store","one","other","names"]
theorem scCm:Zp nCm Zax (Zj s_compare):=⟨rfl,rfl,rfl,by decide +kernel,rfl,by decide +kernel,by decide +kernel⟩
theorem Zmh {f : Addr}{fd:FuncData}{d k:Nat}(N:Yf NS)(hNl:NS.length<=50)(hk:7<=k)(F:Fun K "compare" "compare" s_compare f fd)(T:Yz mg)(TC:YT K C)(DP:Def P w K mg base 1 "parts_in" ["node"] (XH K))(DUn:Def P w K mg base k "unlike_names" Zga ZfL)(DS_node:DefM P w K mg base k C "node" ["self","number"] (Zaa K C))(DS_pairs_below:DefM P w K mg base k C "pairs_below" VD (ZbL K C NS 6))
 (DCm:Def P w K mg base k "compare" Zax (Zbp K C NS d)):FnOk P w K mg base ZL (k+1) f fd Zax (Zbp K C NS (d+1)):=by
 refine F.ok scCm (fun vs H Q E h=>?_) (fun cdv A outer s H vs Q E hr h=>?_)
 ·obtain ⟨st,nm,nds,tabs,s,t,lev,r,F,G,xs,Δ,rfl,_⟩:=h;rfl
 obtain ⟨st,nm,nds,tabs,a,b,lev,r,Fm,Gm,xs,Δ,rfl,S,tF,tG,hrl,hld,vF,vG,hxl,q⟩:=h
 have hr1:=hr.mono (show 1<=k by omega)
 refine' ⟨?t,?h,?r⟩
 case h =>
  conv=>arg 2;whnf
  with_reducible refine' (Zc (Yk ?h1 (Zh ?h2) ZW) (Zc ?h3 (Zc ?h4 (Zc (Yk ?h5 (Zc ?h6 (Zh ?h7)) ZW) (Zc ?h8 (Zc (Xi ?h9 ?h10 ?h11 ?h12 (Zh ?h13) ?h14) (Zh ?h15)))))))
  case h1=>exact ZX YA (pv 1) (pv 2) (ZM _)
  case h2=>exact Zm Ze
  case h3=>exact Zt (i:=4) scCm.nd rfl (Or.inl rfl) (Zu DP hr1 (Zb (Ym DS_node TC.cl hr (pv 0) (Zb (pv 1) Za)) Za))
  case h4=>exact Zt (i:=5) scCm.nd rfl (Or.inl rfl) (Zu DP hr1 (Zb (Ym DS_node TC.cl hr (pv 0) (Zb (pv 2) Za)) Za))
  case h5=>exact PW.pt (ZcX (XQ (Wo (pv 4) (fun _=>rfl))) (ZaU (XQ (Wo (pv 5) (fun _=>rfl)))))
  case h6=>exact Yi (YO PySem.F.plainAttrs_list PySem.F.slot_list_extend PySem.F.type_list_extend VI (pv 3) (Zb (Zu DUn hr (Zb (Ym DS_pairs_below TC.cl hr (pv 0) (Zb (pv 1) Za)) (Zb (Ym DS_pairs_below TC.cl hr (pv 0) (Zb (pv 2) Za)) Za))) Za))
  case h7=>exact Zm Ze
  case h8=>exact Zt (i:=6) scCm.nd rfl (Or.inl rfl) Ze
  case h9=>exact PassesOwn.never
  case h10=>exact rfl
  case h11=>exact Zle rfl T.zip (pv 4) (pv 5)
  case h12=>exact XZ rfl (Yg (ZN (i:=7) scCm.nd rfl (Or.inl rfl)) (Yg (ZN (i:=8) scCm.nd rfl (Or.inl rfl)) XD))
  case h13=>exact Zhm (i:=6) scCm.nd rfl (Or.inl rfl) (Zu DCm hr (Zb (pv 0) (Zb (pv 7) (Zb (pv 8) (Zb (pv 3) Za))))) (ZhH)
  case h14=>exact fun _=>rfl
  case h15=>exact Zm (pv 6)
 refine ⟨_,rfl,_,rfl,rfl,_,rfl,Xf (fun c=>?_) (fun c=>?_)⟩
 ·have e:(a:Int)=b:=V.int.inj (of_decide_eq_true c)
  have e':a=b:=by omega
  rw [show Ua nds (d+1) a b=1 from if_pos e'] at q
  refine q [] H (by rw [append_nil];exact S) nodup_nil fun x=>⟨fun h=>(nomatch h),fun ⟨hx,hm,hne⟩=>absurd (Zlo hx tF (by rw [e'];exact tG) hm) hne⟩
 have hab:a≠b:=fun z=>c (decide_eq_true (by rw [z]))
 obtain ⟨n1,hn1,_⟩:=Wq tF
 obtain ⟨n2,hn2,_⟩:=Wq tG
 have ST:=S.get st
 obtain ⟨_,ln0,dt0,SA0⟩:=id ST
 obtain ⟨dx0,ob0⟩:=SA0.ob
 refine ⟨_,rfl,st,dx0,_,rfl,ob0,ZR ln0 dt0,_,rfl,st,nds,tabs,a,n1,rfl,ST,hn1,fun na hna=>?_⟩
 refine ⟨na,n1,rfl,hna,fun pa H1 s1 hpa=>?_⟩
 have S1:=S.mono s1
 have ST1:=S1.get st
 obtain ⟨_,ln1,dt1,SA1⟩:=id ST1
 obtain ⟨dx1,ob1⟩:=SA1.ob
 refine ⟨_,rfl,st,dx1,_,rfl,ob1,ZR ln1 dt1,_,rfl,st,nds,tabs,b,n2,rfl,ST1,hn2,fun nb hnb=>?_⟩
 refine ⟨nb,n2,rfl,hnb,fun pb H2 s2 hpb=>?_⟩
 have S2:=S1.mono s2
 have ST2:=S2.get st
 obtain ⟨_,ln2,dt2,SA2⟩:=id ST2
 have hpa2:=SqT.tf hpa s2.tf
 refine ⟨_,rfl,_,.inr (.inl ⟨_,hpa2,rfl⟩),?_⟩
 rcases ZdJ tF hn1 with ⟨k1,k2⟩ | ⟨qs,d',rfl,rfl,hq4,hqs⟩
 ·have lk1:Ua nds (d+1) a b=1:=by
   show (if a=b then 1 else match nds[a]?,nds[b]? with | some (.fork qs),some (.fork rs)=>_ | _,_=>1)=1
   rw [if_neg hab,hn1]
   cases n1 with
   | fork qs=>exact absurd rfl (k2 qs)
   | bare=>rfl
   | leaf m ps=>rfl
  rw [k1]
  refine Xf (fun _=>?_) (fun z=>absurd rfl z)
  refine Xf (fun _=>?_) (fun z=>absurd rfl z)
  obtain ⟨dxA,obA⟩:=SA2.ob
  refine ⟨_,rfl,.inl ⟨rfl,_,SqL.of (S2.get nm)⟩,_,rfl,st,dxA,_,rfl,obA,ZR ln2 dt2,_,rfl,?_⟩
  refine ⟨st,ln2,dt2,nds,tabs,a,lev,r,Fm,rfl,SA2,tF.deep (show _<=5 by omega),hrl,fun l1 H3 ts1 ps1 hl1 s3 el1 hpt1 hps1=>?_⟩
  have SA3:=SA2.keep s3
  obtain ⟨dxB,obB⟩:=SA3.ob
  refine ⟨_,rfl,st,dxB,_,rfl,obB,ZR ln2 dt2,_,rfl,?_⟩
  refine ⟨st,ln2,dt2,nds,tabs,b,lev,r,Gm,rfl,SA3,tG.deep (show _<=5 by omega),hrl,fun l2 H4 ts2 ps2 hl2 s4 el2 hpt2 hps2=>?_⟩
  refine ⟨l1,l2,NS,ts1,ts2,ps1,ps2,rfl,hNl,s4 _ _ el1,el2,hpt1.tf s4.tf,hpt2,hps1.1,hps2.1,fun p hp=>⟨((hps1.2 p.1 p.2).mp hp).1,vF _ _ ((hps1.2 p.1 p.2).mp hp).2.2⟩,fun p hp=>⟨((hps2.2 p.1 p.2).mp hp).1,vG _ _ ((hps2.2 p.1 p.2).mp hp).2.2⟩,fun l5 H5 ys hl5 s5 el5 hnd5 hmem5 hlen5=>?_⟩
  have S5:=S2.mono ((s3.trans s4).trans s5)
  refine ⟨nm,l5,_,_,rfl,rfl,S5.get nm,el5,Yv (show _<=2000 by rw [length_map,length_map];omega),?_⟩
  generalize hE:upd H5 nm _=H6
  have S6:=S5.putE hE
  clear hE
  rw [<- map_append] at S6
  rw [lk1] at q
  refine q ys H6 (((S6.pull nm).pull st)) hnd5 fun x=>?_
  rw [hmem5]
  obtain ⟨u1,u2⟩:=ZcO hps1 x
  obtain ⟨w1,w2⟩:=ZcO hps2 x
  by_cases z:x∈NS/\Yq x % 4 ^ lev=r
  ·rw [u1 z,w1 z];exact ⟨fun h=>⟨z.1,z.2,h⟩,fun h=>h.2.2⟩
  ·rw [u2 z,w2 z];exact ⟨fun h=>absurd rfl h,fun h=>absurd ⟨h.1,h.2.1⟩ z⟩
 ·refine Xf (fun z=>?_) (fun _=>?_)
  ·rw [show (Nd.fork qs).parts=qs from rfl] at z
   cases qs with
   | nil=>cases hq4
   | cons q0 qr=>cases z
  refine ⟨_,rfl,_,.inr (.inl ⟨_,hpb,rfl⟩),?_⟩
  rcases ZdJ tG hn2 with ⟨k1,k2⟩ | ⟨rs,d2,rfl,hd2,hr4,hrs⟩
  ·have lk1:Ua nds (d'+1+1) a b=1:=by
    show (if a=b then 1 else match nds[a]?,nds[b]? with | some (.fork qs),some (.fork rs)=>_ | _,_=>1)=1
    rw [if_neg hab,hn1,hn2]
    cases n2 with
    | fork qs=>exact absurd rfl (k2 qs)
    | bare=>rfl
    | leaf m ps=>rfl
   rw [k1]
   refine Xf (fun _=>?_) (fun z=>absurd rfl z)
   obtain ⟨dxA,obA⟩:=SA2.ob
   refine ⟨_,rfl,.inl ⟨rfl,_,SqL.of (S2.get nm)⟩,_,rfl,st,dxA,_,rfl,obA,ZR ln2 dt2,_,rfl,?_⟩
   refine ⟨st,ln2,dt2,nds,tabs,a,lev,r,Fm,rfl,SA2,tF.deep (show _<=5 by omega),hrl,fun l1 H3 ts1 ps1 hl1 s3 el1 hpt1 hps1=>?_⟩
   have SA3:=SA2.keep s3
   obtain ⟨dxB,obB⟩:=SA3.ob
   refine ⟨_,rfl,st,dxB,_,rfl,obB,ZR ln2 dt2,_,rfl,?_⟩
   refine ⟨st,ln2,dt2,nds,tabs,b,lev,r,Gm,rfl,SA3,tG.deep (show _<=5 by omega),hrl,fun l2 H4 ts2 ps2 hl2 s4 el2 hpt2 hps2=>?_⟩
   refine ⟨l1,l2,NS,ts1,ts2,ps1,ps2,rfl,hNl,s4 _ _ el1,el2,hpt1.tf s4.tf,hpt2,hps1.1,hps2.1,fun p hp=>⟨((hps1.2 p.1 p.2).mp hp).1,vF _ _ ((hps1.2 p.1 p.2).mp hp).2.2⟩,fun p hp=>⟨((hps2.2 p.1 p.2).mp hp).1,vG _ _ ((hps2.2 p.1 p.2).mp hp).2.2⟩,fun l5 H5 ys hl5 s5 el5 hnd5 hmem5 hlen5=>?_⟩
   have S5:=S2.mono ((s3.trans s4).trans s5)
   refine ⟨nm,l5,_,_,rfl,rfl,S5.get nm,el5,Yv (show _<=2000 by rw [length_map,length_map];omega),?_⟩
   generalize hE:upd H5 nm _=H6
   have S6:=S5.putE hE
   clear hE
   rw [<- map_append] at S6
   rw [lk1] at q
   refine q ys H6 (((S6.pull nm).pull st)) hnd5 fun x=>?_
   rw [hmem5]
   obtain ⟨u1,u2⟩:=ZcO hps1 x
   obtain ⟨w1,w2⟩:=ZcO hps2 x
   by_cases z:x∈NS/\Yq x % 4 ^ lev=r
   ·rw [u1 z,w1 z];exact ⟨fun h=>⟨z.1,z.2,h⟩,fun h=>h.2.2⟩
   ·rw [u2 z,w2 z];exact ⟨fun h=>absurd rfl h,fun h=>absurd ⟨h.1,h.2.1⟩ z⟩
  ·refine Xf (fun z=>?_) (fun _=>?_)
   ·cases rs with
    | nil=>cases hr4
    | cons q0 qr=>cases z
   obtain rfl:d'=d2:=by omega
   have lk2:Ua nds (d'+1+1) a b=1+((qs.zip rs).map fun p=>Ua nds (d'+1) p.1 p.2).sum:=by
    show (if a=b then 1 else match nds[a]?,nds[b]? with | some (.fork qs),some (.fork rs)=>1+((qs.zip rs).map fun p=>Ua nds (d'+1) p.1 p.2).sum | _,_=>1)=_
    rw [if_neg hab,hn1,hn2]
   rw [lk2] at q
   have S3:=Sep.tq (Sep.tq S2 hpb) hpa2
   refine ⟨_,rfl,_,rfl,pa,pb,_,_,rfl,hpa2,hpb,?_⟩
   refine Zim (K:=K) (xs:=qs.map fun q:Nat=>V.int (q:Int)) (ys:=rs.map fun q:Nat=>V.int (q:Int)) (by rw [length_map,length_map,hq4,hr4]) (fun i σ H'=>∃ (x7 x8:Option V) (ys:List Str),σ=[some (.ref st),some (iN a),some (iN b),some (.ref nm),some (.ref pa),some (.ref pb),some (.int ((1+(((qs.zip rs).take i).map fun p=>Ua nds (d'+1) p.1 p.2).sum:Nat):Int)),x7,x8]/\Sep ((st,XY K C nds tabs)::(nm,ZD ((xs++ys).map V.str))::(pa,TqR K (qs.map fun q:Nat=>V.int (q:Int)))::(pb,TqR K (rs.map fun q:Nat=>V.int (q:Int)))::Δ) H'/\ys.Nodup/\∀ x,x∈ys↔x∈NS/\Yq x % 4 ^ lev=r/\Yq x / 4 ^ lev % 4 < i/\Fm x≠Gm x)
    ⟨_,_,[],rfl,by rw [append_nil];exact ((S3.pull nm).pull st),nodup_nil,fun x=>⟨fun h=>(nomatch h),fun h=>absurd h.2.2.1 (Nat.not_lt_zero _)⟩⟩ ?_ ?_ ?_
   ·rintro i σ H' _ ⟨x7,x8,ys,rfl,S',_,_⟩
    exact ⟨S'.get pa,S'.get pb⟩
   ·rintro i u v tt σ H' hu hv htt ⟨x7,x8,ys,rfl,S',hnd',hmem'⟩
    rw [getElem?_map] at hu hv
    cases eq1:qs[i]? with
    | none=>rw [eq1] at hu;cases hu
    | some q1 =>
     cases er1:rs[i]? with
     | none=>rw [er1] at hv;cases hv
     | some r1 =>
      rw [eq1] at hu
      rw [er1] at hv
      cases (show some (V.int (q1:Int))=some u from hu)
      cases (show some (V.int (r1:Int))=some v from hv)
      have hi4:i < 4:=by rw [<- hq4];exact (List.getElem?_eq_some_iff.mp eq1).1
      refine ⟨tt,_,rfl,SqT.of Zg,rfl,_,_,rfl,_,_,rfl,rfl,?_⟩
      have S4:=(S'.new htt (.tup [.int (q1:Int),.int (r1:Int)])).tail
      have hyl:ys.length<=50:=by
       have:=XM hnd' (N:=NS) fun x hx=>((hmem' x).mp hx).1
       omega
      refine ⟨_,rfl,_,rfl,_,rfl,_,rfl,_,rfl,st,nm,nds,tabs,q1,r1,lev+1,r+i * 4 ^ lev,Fm,Gm,xs++ys,_,rfl,S4,hqs i q1 eq1,hrs i r1 er1,WF hrl hi4,by omega,vF,vG,by rw [length_append];omega,fun zs H4 S5 hnd4 hmem4=>⟨_,_,rfl,rfl,?_⟩⟩
      refine ⟨some (.int (q1:Int)),some (.int (r1:Int)),ys++zs,?_,by rw [<- append_assoc];exact S5,?_,fun x=>?_⟩
      ·have ez:(qs.zip rs)[i]?=some (q1,r1):=by rw [getElem?_zip_eq_some];exact ⟨eq1,er1⟩
       have:(((qs.zip rs).take (i+1)).map fun p=>Ua nds (d'+1) p.1 p.2).sum=(((qs.zip rs).take i).map fun p=>Ua nds (d'+1) p.1 p.2).sum+Ua nds (d'+1) q1 r1:=by
        rw [take_succ,ez,map_append,List.sum_append];rfl
       rw [this]
       show [some (V.ref st),some (iN a),some (iN b),some (.ref nm),some (.ref pa),some (.ref pb),some (.int (((1+(((qs.zip rs).take i).map fun p=>Ua nds (d'+1) p.1 p.2).sum:Nat):Int)+(Ua nds (d'+1) q1 r1:Int))),some (.int (q1:Int)),some (.int (r1:Int))]=_
       rw [<- Int.natCast_add,Nat.add_assoc]
      ·rw [nodup_append]
       refine ⟨hnd',hnd4,fun x hx y hy e=>?_⟩
       subst e
       have h1:=((hmem' x).mp hx).2.2.1
       have h2:=(Xv hrl ((hmem4 x).mp hy).2.1).2
       omega
      ·rw [mem_append,hmem',hmem4]
       constructor
       ·rintro (h | h)
        ·exact ⟨h.1,h.2.1,Nat.lt_succ_of_lt h.2.2.1,h.2.2.2⟩
        ·obtain ⟨e1,e2⟩:=Xv hrl h.2.1
         exact ⟨h.1,e1,by omega,h.2.2⟩
       ·rintro ⟨h1,h2,h3,h4⟩
        by_cases hz:Yq x / 4 ^ lev % 4 < i
        ·exact .inl ⟨h1,h2,hz,h4⟩
        ·have he:Yq x / 4 ^ lev % 4=i:=by omega
         exact .inr ⟨h1,by rw [XA,h2,he],h4⟩
   ·rintro σ H' ⟨x7,x8,ys,rfl,S',hnd',hmem'⟩
    rw [length_map,hq4] at hmem'
    rw [length_map,hq4,take_of_length_le (by rw [List.length_zip,hq4,hr4];decide)]
    refine ⟨_,rfl,q ys H' ((S'.drop pa).drop pb) hnd' fun x=>?_⟩
    rw [hmem']
    have h4:Yq x / 4 ^ lev % 4 < 4:=Nat.mod_lt _ (by decide)
    exact ⟨fun h=>⟨h.1,h.2.1,h.2.2.2⟩,fun h=>⟨h.1,h.2.1,h4,h.2.2⟩⟩
theorem Zfb {f:Addr}{fd:FuncData}(N:Yf NS)(hNl:NS.length<=50)(F:Fun K "compare" "compare" s_compare f fd)(T:Yz mg)(TC:YT K C)(DP:Def P w K mg base 1 "parts_in" ["node"] (XH K))(DUn:Def P w K mg base 2 "unlike_names" Zga ZfL)(DS_node:DefM P w K mg base 1 C "node" ["self","number"] (Zaa K C))(DS_pairs_below:DefM P w K mg base 7 C "pairs_below" VD (ZbL K C NS 6))
 (b:Binds K fd Zax []) (kp:PySem.W.keepIn K (.ref f)=true) (mt:mg "compare"=some (.ref f)):∀ d,FnOk P w K mg base ZL (7+1+d) f fd Zax (Zbp K C NS d)
 | 0=>F.ok scCm (fun _ _ _ _ h=>h.elim) (fun _ _ _ _ _ _ _ _ _ h=>h.elim)
 | d+1=>Zmh N hNl (show 7<=7+1+d by omega) F T TC DP (DUn.mono (show 2<=7+1+d by omega)) (DS_node.mono (show 1<=7+1+d by omega)) (DS_pairs_below.mono (show 7<=7+1+d by omega)) ⟨f,fd,Zfb N hNl F T TC DP DUn DS_node DS_pairs_below b kp mt d,b,kp,mt⟩
def Zkv (K:KF)(C:Addr)(NS:List Str):Sp:=fun vs H Q _=>∃(st:Addr)(nds:List Nd)(tabs:ZK)(s t:Nat)(F G:Str->Option V)(Δ:Rs),vs=[.ref st,iN s,iN t]/\Sep ((st,XY K C nds tabs)::Δ) H/\(ZQ tabs (Sum.inl (s:Int))).isSome=true/\(ZQ tabs (Sum.inl (t:Int))).isSome=true/\Tri NS nds F 5 0 0 s/\Tri NS nds G 5 0 0 t/\VlF F/\VlF G /\
 ∀ (tp l:Addr) (ys:List Str) (H':Hp),Sep ((tp,Tup [.ref l,.int (Ua nds 6 s t:Int)])::(l,ZD (ys.map V.str))::(st,XY K C nds tabs)::Δ) H'->ys.Nodup->Xn ys->(∀ x,x∈ys↔x∈NS/\F x≠G x)->Q (.ref tp) H'
abbrev nDf:List Str:=["store","one","other","names","looks"]
abbrev Zfs:List Str:=["store","one","other"]
theorem scDf:Zp nDf Zfs (Zj s_differing):=⟨rfl,rfl,rfl,by decide +kernel,rfl,by decide +kernel,by decide +kernel⟩
theorem Zmm {f:Addr}{fd:FuncData}(N:Yf NS)(hNl:NS.length<=50)(F:Fun K "differing" "differing" s_differing f fd)(T:Yz mg)(TC:YT K C)(DS_check_table:DefM P w K mg base 14 C "check_table" ["self","table"] (ZbE K C))(DCm:Def P w K mg base 14 "compare" Zax (Zbp K C NS 6)):FnOk P w K mg base ZL 15 f fd Zfs (Zkv K C NS):=by
 refine F.ok scDf (fun vs H Q E h=>?_) (fun cdv A outer s H vs Q E hr h=>?_)
 ·obtain ⟨st,nds,tabs,s,t,F,G,Δ,rfl,_⟩:=h;rfl
 obtain ⟨st,nds,tabs,a,b,Fm,Gm,Δ,rfl,S,ta,tb,tF,tG,vF,vG,q⟩:=h
 refine' ⟨?t,?h,?r⟩
 case h =>
  conv=>arg 2;whnf
  with_reducible refine' (Zc ?h1 (Zc ?h2 (Zc ?h3 (Zc ?h4 (Zh ?h5)))))
  case h1=>exact Yi (Ym DS_check_table TC.cl hr (pv 0) (Zb (pv 1) Za))
  case h2=>exact Yi (Ym DS_check_table TC.cl hr (pv 0) (Zb (pv 2) Za))
  case h3=>exact Zt (i:=3) scDf.nd rfl (Or.inl rfl) (Yd Za)
  case h4=>exact Zt (i:=4) scDf.nd rfl (Or.inl rfl) (Zu DCm hr (Zb (pv 0) (Zb (pv 1) (Zb (pv 2) (Zb (pv 3) Za)))))
  case h5=>exact Zm (YU (Zb (Zv Uk rfl T.sorted (by decide +kernel) (Zb (pv 3) Za)) (Zb (pv 4) Za)))
 have ST:=S.get st
 obtain ⟨_,ln0,dt0,SA0⟩:=id ST
 obtain ⟨dx0,ob0⟩:=SA0.ob
 refine ⟨_,rfl,st,dx0,_,rfl,ob0,ZR ln0 dt0,_,rfl,st,ln0,dt0,nds,tabs,a,rfl,SA0,ta,?_⟩
 refine ⟨_,rfl,st,dx0,_,rfl,ob0,ZR ln0 dt0,_,rfl,st,ln0,dt0,nds,tabs,b,rfl,SA0,tb,?_⟩
 refine ⟨(by show 0<=sizeLine;decide),fun nm hnm=>?_⟩
 generalize hE:upd H nm _=H1
 have S1:=S.newE hnm hE
 clear hE
 refine ⟨_,rfl,_,rfl,_,rfl,_,rfl,st,nm,nds,tabs,a,b,0,0,Fm,Gm,[],_,rfl,(S1.pull nm).pull st,tF,tG,by decide,rfl,vF,vG,by decide,fun ys H2 S2 hnd hmem=>?_⟩
 rw [List.nil_append] at S2
 have hyl:ys.length<=50:=by
  have:=XM hnd (N:=NS) fun x hx=>((hmem x).mp hx).1
  omega
 refine ⟨_,rfl,nm,ys,rfl,S2.get nm,by omega,fun l ys2 hl hpm hs=>?_⟩
 generalize hE:upd H2 l _=H3
 have S3:=S2.newE hl hE
 clear hE
 refine ⟨_,rfl,(by show 2<=sizeLine;decide),fun tp htp=>?_⟩
 generalize hE:upd H3 tp _=H4
 have S4:=S3.newE htp hE
 clear hE
 refine q tp l ys2 H4 ((((S4.drop nm).pull st).pull l).pull tp) (hpm.nodup_iff.mpr hnd) hs fun x=>?_
 rw [hpm.mem_iff,hmem]
 exact ⟨fun h=>⟨h.1,h.2.2⟩,fun h=>⟨h.1,by rw [Nat.pow_zero,Nat.mod_one],h.2⟩⟩
end
section
variable {P:Program}{w:World}{K:KF}{mg:Str->Option Value}{base:Heap}{CR CS Pl:Addr}
def ZjW (K:KF)(C:Addr):Sp:=fun vs H Q E=>∃ NS,(Yf NS/\NS.length<=50)/\Zkv K C NS vs H Q E
def ZiM (K:KF)(CR CS:Addr):Sp:=fun vs H Q _=>∃(NS:List Str)(r:Addr)(pls:List ZO)(nds:List Nd)(tabs:ZK)(a b:Nat)(F G:Str->Option V)(Δ:Rs),vs=[.ref r,.int (a:Int),.int (b:Int)]/\Yf NS/\NS.length<=50/\Sep ((r,Xp K CR CS pls nds tabs)::Δ) H/\RInv NS pls nds tabs/\a<=pls.length/\b<=pls.length/\(envs pls)[a]?=some F/\(envs pls)[b]?=some G /\
 ∀ (l:Addr) (ys:List Str) (H':Hp),Sep ((l,ZD (ys.map V.str))::(r,Xp K CR CS pls nds tabs)::Δ) H'->ys.Nodup->Xn ys->(∀ x,x∈ys↔x∈NS/\F x≠G x)->Q (.ref l) H'
abbrev nRU:List Str:=["self","one","other","names","looks"]
abbrev ZfA:List Str:=["self","one","other"]
theorem scRU:Zp nRU ZfA (Zj c_Roads_unlike):=⟨rfl,rfl,rfl,by decide +kernel,rfl,by decide +kernel,by decide +kernel⟩
theorem Znq {f:Addr}{fd:FuncData}(F:Fun K "unlike" "Roads.unlike" c_Roads_unlike f fd)(T:Yz mg)(TR:WK K CR)(DR_table:DefM P w K mg base 15 CR "table" ZcM (ZbZ K CR CS))(DDf:Def P w K mg base 15 "differing" Zfs (ZjW K CS)):FnOk P w K mg base ZL 16 f fd ZfA (ZiM K CR CS):=by
 refine F.ok scRU (fun vs H Q E h=>?_) (fun cdv A outer s H vs Q E hr h=>?_)
 ·obtain ⟨NS,r,pls,nds,tabs,a,b,G1,G2,Δ,rfl,_⟩:=h;rfl
 obtain ⟨NS,r,pls,nds,tabs,a,b,G1,G2,Δ,rfl,N,hNl,S0,I,ha,hb,hG1,hG2,q⟩:=h
 have R:=S0.get r
 obtain ⟨st,la,ls,lt,lc,S⟩:=S0.roaO
 obtain ⟨dx,ob⟩:=S.get r
 obtain ⟨g1,g2,g3⟩:=I.tr a G1 _ hG1 (VS ha)
 obtain ⟨k1,k2,k3⟩:=I.tr b G2 _ hG2 (VS hb)
 refine' ⟨?t,?h,?r⟩
 case h =>
  conv=>arg 2;whnf
  with_reducible refine' (Zc ?h1 (Zh ?h2))
  case h1=>exact Wc (Zu DDf hr (Zb (ZY (pv 0) rfl) (Zb (Ym DR_table TR.cl hr (pv 0) (Zb (pv 1) Za)) (Zb (Ym DR_table TR.cl hr (pv 0) (Zb (pv 2) Za)) Za)))) (XZ rfl (Yg (ZN (i:=3) scRU.nd rfl (Or.inl rfl)) (Yg (ZN (i:=4) scRU.nd rfl (Or.inl rfl)) XD)))
  case h2=>exact Zm (pv 3)
 refine ⟨_,rfl,r,CR,dx,_,_,rfl,ob,TR.cl,TR.nk,ZbQ,_,rfl,r,dx,_,rfl,ob,Wd (by decide +kernel),_,rfl,r,pls,nds,tabs,a,rfl,R,ha,_,rfl,r,dx,_,rfl,ob,Wd (by decide +kernel),_,rfl,r,pls,nds,tabs,b,rfl,R,hb,NS,⟨N,hNl⟩,st,nds,tabs,tbN pls a,tbN pls b,G1,G2,_,rfl,S.pull st,g1,k1,g2,k2,fun x u e=>WR (g3 x u e),fun x u e=>WR (k3 x u e),fun tp l ys H6 S6 hnd hs hm=>?_⟩
 refine ⟨tp,_,rfl,SqT.of (S6.get tp),rfl,_,_,rfl,_,_,rfl,rfl,_,rfl,?_⟩
 have S7:=(((((((S6.drop tp).pull lc).pull lt).pull ls).pull la).pull st).pull r).roaC
 exact q l ys H6 (S7.pull l) hnd hs hm
end
theorem Zge {ys zs:List Str}(hy:Xn ys)(hz:Xn zs)(ny:ys.Nodup)(nz:zs.Nodup)(h:∀ x,x∈ys↔x∈zs):ys=zs:=by
 have e:ys.map (fun x=>(x,V.non))=zs.map (fun x=>(x,V.non)):=by
  refine Zex ?_ ?_ ?_ ?_ fun z=>?_
  ·unfold Va;rw [pairwise_map];exact hy
  ·unfold Va;rw [pairwise_map];exact hz
  ·rw [map_map];show (ys.map fun x=>x).Nodup;rw [List.map_id'];exact ny
  ·rw [map_map];show (zs.map fun x=>x).Nodup;rw [List.map_id'];exact nz
  ·rw [mem_map,mem_map]
   exact ⟨fun ⟨x,h1,h2⟩=>⟨x,(h x).mp h1,h2⟩,fun ⟨x,h1,h2⟩=>⟨x,(h x).mpr h1,h2⟩⟩
 exact (List.map_inj_right (fun a b e=>(Prod.mk.inj e).1)).mp e
theorem ZgN {H:Hp}{a b:Addr}{o u:HO}(h:a≠b):upd (upd H a o) b u=upd (upd H b u) a o:=funext fun c=>by
 by_cases e1:c=a
 ·subst e1;rw [Zi h,Zg,Zg]
 ·by_cases e2:c=b
  ·subst e2;rw [Zg,Zi e1,Zg]
  ·rw [Zi e2,Zi e1,Zi e1,Zi e2]
theorem Zmd {H:Hp}{d:Addr}{o u:HO}(e:H d=some u):upd (upd H d o) d u=H:=funext fun c=>by
 by_cases e1:c=d
 ·subst e1;rw [Zg,e]
 ·rw [Zi e1,Zi e1]
theorem ZmN {a b:Addr}{o u:HO}{Δ:Rs}{H:Hp}(S:Sep ((a,Pt o)::(b,Pt u)::Δ) H)(m:YB o=true):a≠b:=by
 rintro rfl
 obtain ⟨h,l,r,h2,l2,r2,_⟩:=S
 have z:=(cut_some.mp (l2 _ _ r2)).2 _ r
 rw [z] at m;cases m
theorem ZaI {H:Hp}:∀ xs:List Str,DatasOf H (xs.map V.str) (xs.map PyData.str)
 | []=>.nil
 | x::r=>.cons (.str _) (ZaI r)
theorem Zei:∀ xs:List Str,(∀ x∈xs,PyData.strOk x=true)->PyData.canLayAll0 (xs.map PyData.str)=true/\PyData.depthAll (xs.map PyData.str)=0
 | [],_=>⟨rfl,rfl⟩
 | x::r,h=>by
  obtain ⟨g1,g2⟩:=Zei r fun y hy=>h y (mem_cons_of_mem _ hy)
  have hx:=h x (mem_cons_self ..)
  rw [map_cons,PyData.canLayAll0,PyData.depthAll,g1,g2,PyData.canLay0,hx]
  exact ⟨rfl,rfl⟩
theorem ZcA {H:Hp}{l:Addr}{xs:List Str}(e:H l=some (.lst (xs.map V.str)))(h:∀ x∈xs,PyData.strOk x=true):DataOf H (.ref l) (.list (xs.map PyData.str))/\(PyData.list (xs.map PyData.str)).canLay0=true/\(PyData.list (xs.map PyData.str)).depth<=60:=by
 obtain ⟨g1,g2⟩:=Zei xs h
 exact ⟨.lst e (ZaI xs),by rw [PyData.canLay0];exact g1,by rw [PyData.depth,g2];decide⟩
section
variable {P:Program}{w:World}{K:KF}{mg:Str->Option Value}{base:Heap}{CR CS Pl:Addr}
def ZfI:Sp:=fun vs H Q _=>∃ u v,vs=[u,v]/\NvV u/\NvV v/\Q (.bl (decide (u=v))) H
abbrev nLA2:List Str:=["_law_one","_law_other"]
abbrev ZcQ:List Str:=["_law_one","_law_other"]
theorem Znz:Zp nLA2 ZcQ (Zj s_l_alike):=⟨rfl,rfl,rfl,by decide +kernel,rfl,by decide +kernel,by decide +kernel⟩
theorem Zgg {f:Addr}{fd:FuncData}(F:Fun K "_law_alike" "_law_alike" s_l_alike f fd)(T:Yz mg):FnOk P w K mg base ZL 1 f fd ZcQ ZfI:=by
 refine F.ok Znz (fun vs H Q E h=>?_) (fun cdv A outer s H vs Q E hr h=>?_)
 ·obtain ⟨u,v,rfl,_⟩:=h;rfl
 obtain ⟨u,v,rfl,hu,hv,q⟩:=h
 refine' ⟨?t,?h,?r⟩
 case h =>
  conv=>arg 2;whnf
  with_reducible refine' (Zc (Yk ?h1 (Zh ?h2) ZW) (Zh ?h3))
  case h1=>exact PW.pt (ZcX (XR (Zv Wm rfl T.isinstance (by decide +kernel) (Zb (pv 0) (Zb (WQ rfl T.bool (by decide +kernel) (v:=.ty "bool") rfl) Za)))) (ZaU (ZX Zfy (Zgv (Zdh (pv 0))) (Zgv (Zdh (pv 1))) (ZM _))))
  case h2=>exact Zm Vc
  case h3=>exact Zm (WG (YZ YA (Zv Wm rfl T.isinstance (by decide +kernel) (Zb (pv 0) (Zb (WQ rfl T.str (by decide +kernel) (v:=.ty "str") rfl) Za))) (Zv Wm rfl T.isinstance (by decide +kernel) (Zb (pv 1) (Zb (WQ rfl T.str (by decide +kernel) (v:=.ty "str") rfl) Za))) (ZM _)) (UJ (YZ YA (pv 0) (pv 1) (ZM _))))
 rcases Zep hu with rfl | ⟨i,rfl⟩ | ⟨x,rfl⟩<;>rcases Zep hv with rfl | ⟨j,rfl⟩ | ⟨y,rfl⟩
 ·refine ⟨_,rfl,_,_,_,_,rfl,.non,rfl,_,rfl,ZP ⟨_,rfl,_,rfl,rfl,_,rfl,?_⟩⟩
  refine ZP ⟨_,rfl,_,_,_,_,rfl,.non,rfl,_,rfl,_,_,_,_,rfl,.non,rfl,rfl,true,?_,Yh ⟨_,rfl,_,rfl,rfl,q⟩⟩
  rw [decide_eq_true rfl]
 ·refine ⟨_,rfl,_,_,_,_,rfl,.non,rfl,_,rfl,ZP ⟨_,rfl,_,rfl,rfl,_,rfl,?_⟩⟩
  exact Yh (by rw [decide_eq_false (fun z=>by cases z)] at q;exact q)
 ·refine ⟨_,rfl,_,_,_,_,rfl,.non,rfl,_,rfl,ZP ⟨_,rfl,_,rfl,rfl,_,rfl,?_⟩⟩
  exact Yh (by rw [decide_eq_false (fun z=>by cases z)] at q;exact q)
 ·refine ⟨_,rfl,_,_,_,_,rfl,.int _,rfl,_,rfl,ZP ⟨_,rfl,_,rfl,rfl,_,rfl,?_⟩⟩
  exact Yh (by rw [decide_eq_false (fun z=>by cases z)] at q;exact q)
 ·refine ⟨_,rfl,_,_,_,_,rfl,.int _,rfl,_,rfl,ZP ⟨_,rfl,_,rfl,rfl,_,rfl,?_⟩⟩
  refine ZP ⟨_,rfl,_,_,_,_,rfl,.int _,rfl,_,rfl,_,_,_,_,rfl,.int _,rfl,rfl,true,?_,Yh ⟨_,rfl,_,rfl,rfl,q⟩⟩
  rw [decide_eq_true rfl]
 ·refine ⟨_,rfl,_,_,_,_,rfl,.int _,rfl,_,rfl,ZP ⟨_,rfl,_,rfl,rfl,_,rfl,?_⟩⟩
  refine ZP ⟨_,rfl,_,_,_,_,rfl,.int _,rfl,_,rfl,_,_,_,_,rfl,.str _,rfl,rfl,false,?_,ZP (by rw [decide_eq_false (fun z=>by cases z)] at q;exact q)⟩
  rw [decide_eq_false (fun z=>by cases z)]
 ·refine ⟨_,rfl,_,_,_,_,rfl,.str _,rfl,_,rfl,ZP ⟨_,rfl,_,rfl,rfl,_,rfl,?_⟩⟩
  exact Yh (by rw [decide_eq_false (fun z=>by cases z)] at q;exact q)
 ·refine ⟨_,rfl,_,_,_,_,rfl,.str _,rfl,_,rfl,ZP ⟨_,rfl,_,rfl,rfl,_,rfl,?_⟩⟩
  refine ZP ⟨_,rfl,_,_,_,_,rfl,.str _,rfl,_,rfl,_,_,_,_,rfl,.int _,rfl,rfl,false,?_,ZP (by rw [decide_eq_false (fun z=>by cases z)] at q;exact q)⟩
  rw [decide_eq_false (fun z=>by cases z)]
 ·refine ⟨_,rfl,_,_,_,_,rfl,.str _,rfl,_,rfl,ZP ⟨_,rfl,_,rfl,rfl,_,rfl,?_⟩⟩
  refine ZP ⟨_,rfl,_,_,_,_,rfl,.str _,rfl,_,rfl,_,_,_,_,rfl,.str _,rfl,rfl,true,?_,Yh ⟨_,rfl,_,rfl,rfl,q⟩⟩
  rw [decide_eq_true rfl]
def Zgc (K:KF)(CR CS:Addr):Sp:=fun vs H Q _=>∃(NS:List Str)(r sl:Addr)(pls:List ZO)(nds:List Nd)(tabs:ZK)(a b:Nat)(Δ:Rs),vs=[.ref r,.ref sl,.int (a:Int),.int (b:Int)]/\Yf NS/\NS.length<=30/\(∀ x∈NS,PyData.strOk x=true)/\Sep ((r,Xp K CR CS pls nds tabs)::(sl,StopL pls)::Δ) H/\RInv NS pls nds tabs/\(∀ q∈pls,q.st.ok NS)/\a<=pls.length/\b<=pls.length/\pls.length<=500/\∀ H',Sep ((r,Xp K CR CS pls nds tabs)::(sl,StopL pls)::Δ) H'->Q (.bl true) H'
abbrev nTRi:List Str:=["_law_roads","_law_stops","_law_one","_law_other","_law_left","_law_right_here","_law_due","_law_name","_law_early","_law_late","_law_turn","_law_found"]
abbrev ZcS:List Str:=["_law_roads","_law_stops","_law_one","_law_other"]
theorem scTRi:Zp nTRi ZcS (Zj s_l_two_right):=⟨rfl,rfl,rfl,by decide +kernel,rfl,by decide +kernel,by decide +kernel⟩
theorem Zmg {f:Addr}{fd:FuncData}(F:Fun K "_law_two_right" "_law_two_right" s_l_two_right f fd)(T:Yz mg)(TR:WK K CR)(DAl:Def P w K mg base 16 "_law_all" ZiP ZjZ)(DLA:Def P w K mg base 16 "_law_alike" ZcQ ZfI)(DR_unlike:DefM P w K mg base 16 CR "unlike" ZfA (ZiM K CR CS)):FnOk P w K mg base ZL 17 f fd ZcS (Zgc K CR CS):=by
 refine F.ok scTRi (fun vs H Q E h=>?_) (fun cdv A outer s H vs Q E hr h=>?_)
 ·obtain ⟨NS,r,sl,pls,nds,tabs,a,b,Δ,rfl,_⟩:=h;rfl
 obtain ⟨NS,r,sl,pls,nds,tabs,a,b,Δ,rfl,N,hNl,hstr,S,I,ok,ha,hb,hpl,q⟩:=h
 refine' ⟨?t,?h,?r⟩
 case h =>
  conv=>arg 2;whnf
  with_reducible refine' (Zc ?h1 (Zc ?h2 (Zc (Xi ?h3 ?h4 ?h5 ?h6 (Zh (Yk ?h7 (Zh ?h8) ZW)) ?h9) (Zc (Xi ?h10 ?h11 ?h12 ?h13 (Zh (Xi ?h14 ?h15 ?h16 ?h17 (Zc ?h18 (Zc (Yk ?h19 (Zh ?h20) ZW) (Zh ?h21))) ?h22)) ?h23) (Zh ?h24)))))
  case h1=>exact Wc (YU (Zb (Zu DAl hr (Zb (pv 1) (Zb (pv 2) Za))) (Zb (Zu DAl hr (Zb (pv 1) (Zb (pv 3) Za))) Za))) (XZ rfl (Yg (ZN (i:=4) scTRi.nd rfl (Or.inr rfl)) (Yg (ZN (i:=5) scTRi.nd rfl (Or.inl rfl)) XD)))
  case h2=>exact Zt (i:=6) scTRi.nd rfl (Or.inl rfl) (Yd Za)
  case h3=>exact PassesOwn.never
  case h4=>exact rfl
  case h5=>exact XI (Zv Uk rfl T.sorted (by decide +kernel) (Zb (Zr ZaX (Yl (ZbV rfl) rfl T.list (by decide +kernel) (Zb (pv 4) Za)) (Zlj (Zde (CompOk.of nTRi s_l_two_right rfl rfl (by decide +kernel)) rfl (Zla (pv 5)) (fun _ _ _ _ _=>ZdV (Zcx (Wy hr) (pv 12) (pv 4))) (fun _ _ _ _ _=>pv 12)))) Za))
  case h6=>exact ZN (i:=7) scTRi.nd rfl (Or.inl rfl)
  case h7=>exact XQ (XR (Zu DLA hr (Zb (Ub (Wy hr) (pv 4) (pv 7) ⟨rfl,rfl,rfl,rfl⟩) (Zb (Ub (Wy hr) (pv 5) (pv 7) ⟨rfl,rfl,rfl,rfl⟩) Za))))
  case h8=>exact Yi (YO PySem.F.plainAttrs_list PySem.F.slot_list_append PySem.F.type_list_append Yr (pv 6) (Zb (pv 7) Za))
  case h9=>exact fun _=>rfl
  case h10=>exact PassesOwn.never
  case h11=>exact rfl
  case h12=>exact XI (Yd (Zb (YU (Zb (pv 2) (Zb (pv 3) Za))) (Zb (YU (Zb (pv 3) (Zb (pv 2) Za))) Za)))
  case h13=>exact XZ rfl (Yg (ZN (i:=8) scTRi.nd rfl (Or.inl rfl)) (Yg (ZN (i:=9) scTRi.nd rfl (Or.inl rfl)) XD))
  case h14=>exact PassesOwn.never
  case h15=>exact rfl
  case h16=>exact Xo rfl T.range (Zb Ze Za)
  case h17=>exact ZN (i:=10) scTRi.nd rfl (Or.inl rfl)
  case h18=>exact Zt (i:=11) scTRi.nd rfl (Or.inl rfl) (Ym DR_unlike TR.cl hr (pv 0) (Zb (pv 8) (Zb (pv 9) Za)))
  case h19=>exact PW.pt (ZcX (XQ (XR (Zv Wm rfl T.isinstance (by decide +kernel) (Zb (pv 11) (Zb (WQ rfl T.list (by decide +kernel) (v:=.ty "list") rfl) Za))))) (ZaU (ZX (ZlS hr.units) (pv 11) (pv 6) (ZM _))))
  case h20=>exact Zm Vc
  case h21=>exact Yi (YO PySem.F.plainAttrs_list PySem.F.slot_list_append PySem.F.type_list_append Yr (pv 11) (Zb ZS Za))
  case h22=>exact fun _=>rfl
  case h23=>exact fun _=>rfl
  case h24=>exact Zm (YZ (Zhj hr.units) (Ym DR_unlike TR.cl hr (pv 0) (Zb (pv 2) (Zb (pv 2) Za))) (Yd Za) (ZM _))
 refine ⟨_,rfl,_,rfl,sl,pls,a,NS,_,rfl,S.pull sl,I.wf,ha,hpl,ok,by omega,fun d1 H1 ps S1 h1 e1=>?_⟩
 refine ⟨_,rfl,_,rfl,sl,pls,b,NS,_,rfl,S1.pull sl,I.wf,hb,hpl,ok,by omega,fun d2 H2 qs S2 h2 e2=>?_⟩
 refine ⟨(by show 2<=sizeLine;decide),fun t0 ht0=>⟨t0,_,rfl,SqT.of Zg,rfl,_,_,rfl,_,_,rfl,rfl,?_⟩⟩
 generalize hE:upd H2 t0 _=H3
 have S3:=(S2.newE ht0 hE).drop t0
 clear hE
 refine ⟨(by show 0<=sizeLine;decide),fun du hdu=>?_⟩
 generalize hE:upd H3 du _=H4
 have S4:=S3.newE hdu hE
 clear hE
 have f1:=h1.few
 have f2:=h2.few
 refine ⟨_,rfl,d1,_,rfl,S4.get d1,fun l1 hl1=>?_⟩
 generalize hE:upd H4 l1 _=H5
 have S5:=S4.newE hl1 hE
 clear hE
 have ed1:H5 d1=some (.dK (ps.map kP)):=S5.get d1
 have ed2:H5 d2=some (.dK (qs.map kP)):=S5.get d2
 refine ⟨_,rfl,d2,_,rfl,ed2,fun o nf=>fun D hD=>?_⟩
 have hDd:D≠d2:=fun z=>by rw [z,Zg] at hD;cases hD
 have hD5:H5 D=none:=by rw [Zi hDd] at hD;exact hD
 have hd12:d1≠d2:=ZmN ((S5.pull d2).pull d1) rfl
 refine ZfF (Yv (show _<=1000 by rw [length_map];omega)) (fun i ys H=>∃ H1,H=upd H1 d2 (.frz o (.dK (qs.map kP)))/\Same H5 H1/\H1 D=some (.lst ys)/\ys=(((qs.take i).filter fun p=>decide (lk ps p.1=none)).map (·.1)).map V.str) ⟨upd H5 D (.lst []),ZgN hDd.symm,Zx hD5 _,Zg,rfl⟩ ?_ ?_ ?_
 ·rintro i ys H ⟨H1,rfl,_,_,rfl⟩
  exact ⟨by rw [length_map,length_map];exact Nat.le_trans (length_filter_le _ _) (by rw [length_take];exact Nat.min_le_left _ _),Zg⟩
 ·rintro i p ys H hp ⟨H6,rfl,s6,eD,rfl⟩
  rw [getElem?_map] at hp
  obtain ⟨pr,epr,rfl⟩:=Option.map_eq_some_iff.mp hp
  have eD':upd H6 d2 (.frz o (.dK (qs.map kP))) D=some (.lst ((((qs.take i).filter fun p=>decide (lk ps p.1=none)).map (·.1)).map V.str)):=by rw [Zi hDd];exact eD
  have ed1':upd H6 d2 (.frz o (.dK (qs.map kP))) d1=some (.dK (ps.map kP)):=by rw [Zi hd12];exact s6 _ _ ed1
  refine ⟨_,rfl,_,rfl,d1,lk ps pr.1,rfl,.inl ⟨_,Sum.inr pr.1,.inl ed1',rfl,rfl⟩,_,rfl,Xf (fun c=>?_) (fun c=>?_)⟩
  ·have hn:lk ps pr.1=none:=by
    cases z:lk ps pr.1 with
    | none=>rfl
    | some u=>rw [z] at c;cases c
   refine ⟨_,rfl,eD',upd H6 D (.lst (((((qs.take i).filter fun p=>decide (lk ps p.1=none)).map (·.1)).map V.str)++[V.str pr.1])),ZgN hDd.symm,fun b o q=>?_,Zg,?_⟩
   ·rw [Zi (Zs q hD5)];exact s6 _ _ q
   ·rw [take_succ,epr,List.filter_append,map_append,map_append]
    simp only [Option.toList_some,filter_cons,List.filter_nil,hn,decide_true,if_true];rfl
  ·have hn:lk ps pr.1≠none:=fun z=>c (by rw [z];rfl)
   refine ⟨H6,rfl,s6,eD,?_⟩
   rw [take_succ,epr,List.filter_append,map_append,map_append]
   simp [hn]
 rintro ys0 H ⟨H6,rfl,s6,eD,rfl⟩
 rw [length_map,take_length] at eD
 refine ⟨d2,o,_,Zg,nf,?_⟩
 rw [Zmd (s6 _ _ ed2)]
 have S6:=S5.made s6 hD5 eD
 have hfl:(qs.filter fun p=>decide (lk ps p.1=none)).length<=qs.length:=length_filter_le _ _
 refine ⟨l1,D,_,_,rfl,rfl,S6.get l1,S6.get D,Yv (show _<=1000 by simp only [length_map];omega),fun l2 hl2=>?_⟩
 generalize hE:upd H6 l2 _=H7
 have S7:=((S6.newE hl2 hE).drop D).drop l1
 clear hE
 have el2:H7 l2=some (.lst (((ps.map (·.1))++((qs.filter fun p=>decide (lk ps p.1=none)).map (·.1))).map V.str)):=by
  rw [map_append,map_map]
  have:=S7.get l2
  rw [map_map] at this
  exact this
 refine ⟨l2,_,rfl,el2,(by rw [length_append,length_map,length_map];omega),fun l3 ys hl3 hperm hsort=>?_⟩
 generalize hE:upd H7 l3 _=H8
 have S8:=(S7.newE hl3 hE).drop l2
 clear hE
 have hyl:ys.length<=1000:=by rw [hperm.length_eq,length_append,length_map,length_map];omega
 have vl:∀ {ps:ZH},HeldOk NS ps->∀ x u,lk ps x=some u->ValV u:=fun h x u e=>WR (h.2 _ ((YN h.1).mp e)).2
 refine ⟨l3,rfl,⟨_,SqL.of (S8.get l3)⟩,?_⟩
 have S8:=(((((S8.pull sl).pull r).pull d2).pull d1).pull l3).pull du
 refine Wl (K:=K) (xs:=ys.map V.str) (fun i σ H'=>∃ x7,σ=[some (.ref r),some (.ref sl),some (.int (a:Int)),some (.int (b:Int)),some (.ref d1),some (.ref d2),some (.ref du),x7,none,none,none,none]/\Sep ((du,ZD (((ys.take i).filter fun x=>decide (lk ps x≠lk qs x)).map V.str))::(l3,ZD (ys.map V.str))::(d1,Dic (ps.map kP))::(d2,Dic (qs.map kP))::(r,Xp K CR CS pls nds tabs)::(sl,StopL pls)::Δ) H') ⟨_,rfl,S8⟩ ?_ ?_ ?_
 ·rintro i σ H' _ ⟨_,rfl,S'⟩;exact SqL.of (S'.get l3)
 ·rintro i v σ H' hv ⟨x7,rfl,S'⟩
  obtain ⟨x,hx,rfl⟩:=Zat hv
  have g1:H' d1=some (.dK (ps.map kP)):=S'.get d1
  have g2:H' d2=some (.dK (qs.map kP)):=S'.get d2
  refine ⟨_,rfl,d1,rfl,.inl ⟨_,.inl g1⟩,_,rfl,lk ps x,.inl ⟨_,Sum.inr x,.inl g1,rfl,rfl⟩,_,rfl,d2,rfl,.inl ⟨_,.inl g2⟩,_,rfl,lk qs x,.inl ⟨_,Sum.inr x,.inl g2,rfl,rfl⟩,_,_,rfl,h1.nv x,h2.nv x,_,rfl,?_⟩
  by_cases e:lk ps x=lk qs x
  ·rw [decide_eq_true (show (lk ps x).getD .non=(lk qs x).getD .non by rw [e])]
   refine ZP ⟨_,rfl,?_⟩
   rw [take_succ,hx,List.filter_append]
   simp only [Option.toList_some,filter_cons,List.filter_nil,e,ne_eq,not_true,decide_false,if_false,append_nil]
   simpa using S'
  ·rw [decide_eq_false (fun z=>e ((Zam (vl h1 x) (vl h2 x)).mp z))]
   have edu:H' du=some (.lst (((ys.take i).filter fun x=>decide (lk ps x≠lk qs x)).map V.str)):=S'.get du
   refine Yh ⟨_,rfl,.inl ⟨rfl,_,SqL.of edu⟩,_,rfl,du,_,_,rfl,rfl,edu,YX (show _<=20000 by rw [length_map];exact Nat.le_trans (length_filter_le _ _) (by rw [length_take];omega)),_,rfl,?_⟩
   rw [take_succ,hx,List.filter_append,map_append]
   have ef:[x].filter (fun x=>decide (lk ps x≠lk qs x))=[x]:=by simp [e]
   rw [show (some x).toList=[x] from rfl,ef]
   exact S'.put du _
 rintro σ H9 ⟨x7,rfl,S9⟩
 rw [length_map,take_length] at S9
 have hnn:((ps.map (·.1))++((qs.filter fun p=>decide (lk ps p.1=none)).map (·.1))).Nodup:=by
  refine nodup_append.mpr ⟨h1.1,?_,?_⟩
  ·exact (List.Sublist.map _ (List.filter_sublist)).nodup h2.1
  ·rintro x hx y hy rfl
   obtain ⟨p,hp,rfl⟩:=mem_map.mp hy
   have:=of_decide_eq_true (mem_filter.mp hp).2
   exact ((UQ h1.1).mp this) hx
 have hyn:ys.Nodup:=hperm.nodup_iff.mpr hnn
 have hzm:∀ x,x∈ys.filter (fun x=>decide (lk ps x≠lk qs x))↔lk ps x≠lk qs x:=fun x=>by
  rw [mem_filter]
  refine ⟨fun h=>of_decide_eq_true h.2,fun h=>⟨Classical.byContradiction fun hn=>h ?_,decide_eq_true h⟩⟩
  rw [hperm.mem_iff,mem_append] at hn
  have n1:lk ps x=none:=(UQ h1.1).mpr fun z=>hn (.inl z)
  have n2:lk qs x=none:=(UQ h2.1).mpr fun z=>hn (.inr (by
   obtain ⟨p,hp,rfl⟩:=mem_map.mp z
   exact mem_map.mpr ⟨p,mem_filter.mpr ⟨hp,decide_eq_true n1⟩,rfl⟩))
  rw [n1,n2]
 have hzs:Xn (ys.filter fun x=>decide (lk ps x≠lk qs x)):=List.Pairwise.sublist List.filter_sublist hsort
 have hzn:(ys.filter fun x=>decide (lk ps x≠lk qs x)).Nodup:=(List.filter_sublist).nodup hyn
 have hzl:(ys.filter fun x=>decide (lk ps x≠lk qs x)).length<=1000:=Nat.le_trans (length_filter_le _ _) hyl
 generalize (ys.filter fun x=>decide (lk ps x≠lk qs x))=zs at S9 hzm hzs hzn hzl
 have inN:∀ x,lk ps x≠lk qs x->x∈NS:=fun x h=>by
  cases e1:lk ps x with
  | some u=>exact (h1.2 _ ((YN h1.1).mp e1)).1
  | none =>
   cases e2:lk qs x with
   | some u=>exact (h2.2 _ ((YN h2.1).mp e2)).1
   | none=>exact absurd (e1.trans e2.symm) h
 have hst:∀ x∈zs,PyData.strOk x=true:=fun x hx=>hstr x (inN x ((hzm x).mp hx))
 refine ⟨_,rfl,_,rfl,(by show 2<=sizeLine;decide),fun t1 ht1=>⟨_,rfl,_,rfl,(by show 2<=sizeLine;decide),fun t2 ht2=>⟨(by show 2<=sizeLine;decide),fun lt hlt=>⟨lt,rfl,⟨_,SqL.of Zg⟩,?_⟩⟩⟩⟩
 have S10:=((((((((((S9.new ht1 _).new ht2 _).new hlt (.lst [.ref t1,.ref t2])).drop d1).drop d2).drop l3).pull r).pull t2).pull t1).pull lt).pull du
 have pick:∀ (i:Nat) (v:V),([.ref t1,.ref t2]:List V)[i]?=some v->∃ (t:Addr) (e l:Nat) (F G:Str->Option V),v=.ref t/\(∀ H',Sep ((du,ZD (zs.map V.str))::(lt,ZD [.ref t1,.ref t2])::(t1,Pt (.tup [.int (a:Int),.int (b:Int)]))::(t2,Pt (.tup [.int (b:Int),.int (a:Int)]))::(r,Xp K CR CS pls nds tabs)::(sl,StopL pls)::Δ) H'->H' t=some (.tup [.int (e:Int),.int (l:Int)]))/\e<=pls.length/\l<=pls.length/\(envs pls)[e]?=some F/\(envs pls)[l]?=some G/\∀ x,(x∈NS/\F x≠G x)↔lk ps x≠lk qs x:=fun i v hv=>by
  match i,hv with
  | 0,hv=>cases hv;exact ⟨_,_,_,_,_,rfl,fun H' S'=>S'.get t1,ha,hb,e1,e2,fun x=>⟨fun h=>h.2,fun h=>⟨inN x h,h⟩⟩⟩
  | 1,hv=>cases hv;exact ⟨_,_,_,_,_,rfl,fun H' S'=>S'.get t2,hb,ha,e2,e1,fun x=>⟨fun h z=>h.2 z.symm,fun h=>⟨inN x h,fun z=>h z.symm⟩⟩⟩
  | n+2,hv=>cases hv
 refine Wl (K:=K) (xs:=[.ref t1,.ref t2]) (fun _ σ H'=>∃ x4 x5 x7 x8 x9 x10 x11,σ=[some (.ref r),some (.ref sl),some (.int (a:Int)),some (.int (b:Int)),x4,x5,some (.ref du),x7,x8,x9,x10,x11]/\Sep ((du,ZD (zs.map V.str))::(lt,ZD [.ref t1,.ref t2])::(t1,Pt (.tup [.int (a:Int),.int (b:Int)]))::(t2,Pt (.tup [.int (b:Int),.int (a:Int)]))::(r,Xp K CR CS pls nds tabs)::(sl,StopL pls)::Δ) H') ⟨_,_,_,_,_,_,_,rfl,S10⟩ ?_ ?_ ?_
 ·rintro i σ H' _ ⟨_,_,_,_,_,_,_,rfl,S'⟩;exact SqL.of (S'.get lt)
 ·rintro i v σ H' hv ⟨x4,x5,x7,x8,x9,x10,x11,rfl,S'⟩
  obtain ⟨t,e,l,F1,F2,rfl,et,he,hl,eF,eG,hFG⟩:=pick i v hv
  refine ⟨t,_,rfl,SqT.of (et _ S'),rfl,_,_,rfl,_,_,rfl,rfl,2,rfl,by decide,by decide,?_⟩
  refine Ux (fun _ σ H'=>∃ x4 x5 x7 x10 x11,σ=[some (.ref r),some (.ref sl),some (.int (a:Int)),some (.int (b:Int)),x4,x5,some (.ref du),x7,some (.int (e:Int)),some (.int (l:Int)),x10,x11]/\Sep ((du,ZD (zs.map V.str))::(lt,ZD [.ref t1,.ref t2])::(t1,Pt (.tup [.int (a:Int),.int (b:Int)]))::(t2,Pt (.tup [.int (b:Int),.int (a:Int)]))::(r,Xp K CR CS pls nds tabs)::(sl,StopL pls)::Δ) H') ⟨_,_,_,_,_,rfl,S'⟩ ?_ ?_
  ·rintro j σ H2 hj ⟨x4,x5,x7,x10,x11,rfl,S2⟩
   obtain ⟨st9,la9,ls9,lt9,lc9,T9⟩:=S2.get r
   obtain ⟨dx9,ob9⟩:=T9.get r
   refine ⟨_,rfl,r,dx9,_,rfl,ob9,Wd (by decide +kernel),_,rfl,_,rfl,NS,r,pls,nds,tabs,e,l,F1,F2,_,rfl,N,by omega,S2.pull r,I,he,hl,eF,eG,fun fl ws H3 S3 hwn hws hwm=>?_⟩
   obtain rfl:ws=zs:=Zge hws hzs hwn hzn fun x=>by rw [hwm,hFG,hzm]
   have efl:H3 fl=some (.lst (ws.map V.str)):=S3.get fl
   obtain ⟨z1,z2,z3⟩:=ZcA efl hst
   obtain ⟨y1,y2,y3⟩:=ZcA (show H3 du=some (.lst (ws.map V.str)) from S3.get du) hst
   refine ⟨_,rfl,_,_,_,_,rfl,.lst efl,rfl,_,rfl,ZP ⟨_,rfl,_,rfl,_,_,z1,y1,z2,y2,z3,_,rfl,?_⟩⟩
   rw [SeqAt.eqv_refl _ z2]
   refine ZP ⟨_,rfl,.inl ⟨rfl,_,SqL.of efl⟩,fl,_,_,rfl,rfl,efl,YX (show _<=20000 by rw [length_map];omega),?_⟩
   exact ⟨_,_,_,_,_,rfl,((((((S3.put fl _).drop fl).pull r).pull t2).pull t1).pull lt).pull du⟩
  ·rintro σ H2 ⟨x4,x5,x7,x10,x11,rfl,S2⟩
   exact ⟨_,_,_,_,_,_,_,rfl,S2⟩
 ·rintro σ H2 ⟨x4,x5,x7,x8,x9,x10,x11,rfl,S2⟩
  obtain ⟨st9,la9,ls9,lt9,lc9,T9⟩:=S2.get r
  obtain ⟨dx9,ob9⟩:=T9.get r
  refine ⟨_,rfl,r,dx9,_,rfl,ob9,Wd (by decide +kernel),_,rfl,_,rfl,NS,r,pls,nds,tabs,a,a,_,_,_,rfl,N,by omega,S2.pull r,I,ha,ha,e1,e1,fun fl ws H3 S3 hwn hws hwm=>?_⟩
  obtain rfl:ws=[]:=by
   cases ws with
   | nil=>rfl
   | cons x r=>exact absurd rfl ((hwm x).mp (mem_cons_self ..)).2
  refine ⟨(by show 0<=sizeLine;decide),fun le hle=>?_⟩
  have efl:H3 fl=some (.lst []):=S3.get fl
  refine ⟨.list [],.list [],.lst (Zx hle _ _ _ efl) .nil,.lst Zg .nil,rfl,rfl,(by decide),?_⟩
  have S4:=(((((S3.mono (Zx hle (.lst []))).drop fl).drop du).drop lt).drop t1).drop t2
  exact q _ S4
end
theorem ZgI {r:Int}(h0:0<=r)(h1:r < 26):YY a26.cps.toList r=some (97+r.toNat):=by
 have all:∀ k,k < 26->a26.cps.toList[k]?=some (97+k):=by decide +kernel
 exact ZaN h0 (all r.toNat (by omega))
def nmZ (stem:Str)(at' z:Int):Str:=Txt.slice stem none (some at')++(⟨#[97+(z / 26).toNat]⟩:Str)++(⟨#[97+(z % 26).toNat]⟩:Str)++Txt.slice stem (some at') none
theorem ZlE {stem:Str}{at' y z:Int}(h:nmZ stem at' y=nmZ stem at' z)(y0:0<=y)(y1:y < 676)(z0:0<=z)(z1:z < 676):y=z:=by
 have e:(nmZ stem at' y).cps.toList=(nmZ stem at' z).cps.toList:=by rw [h]
 unfold nmZ at e
 simp only [Vt,append_assoc] at e
 have e2:=List.append_cancel_left e
 have e3:=(List.cons.inj (show (97+(y / 26).toNat)::(97+(y % 26).toNat)::_=(97+(z / 26).toNat)::(97+(z % 26).toNat)::_ from e2))
 have e4:=(List.cons.inj e3.2).1
 have e5:=e3.1
 omega
def Zem:Sp:=fun vs H Q _=>∃(p:Addr)(n:Nat)(many:Int)(Δ:Rs),vs=[.ref p,.int many]/\Sep ((p,Bx n)::Δ) H/\n<=900000/\0<=many/\many<=100 /\
 ∀ (l:Addr) (H':Hp) (xs:List Str),Sep ((l,ZD (xs.map V.str))::(p,Bx (n+20))::Δ) H'->xs.length=many.toNat->(∀ x∈xs,WH x/\2<=x.length)->(2<=many->∃ u v,u∈xs/\v∈xs/\u≠v)->Q (.ref l) H'
section
variable {P:Program}{w:World}{K:KF}{mg:Str->Option Value}{base:Heap}
abbrev nNm:List Str:=["_law_box_here","_law_many","_law_letters","_law_size","_law_stem","_law_first","_law_step_here","_law_at","_law_found","_law_k","_law_one","_law_other"]
abbrev Zjn:List Str:=["_law_box_here","_law_many"]
theorem scNm:Zp nNm Zjn (Zj s_l_names):=⟨rfl,rfl,rfl,by decide +kernel,rfl,by decide +kernel,by decide +kernel⟩
theorem ZiZ {f:Addr}{fd:FuncData}(F:Fun K "_law_names" "_law_names" s_l_names f fd)(T:Yz mg)(DT:DTk P w K mg base 1):FnOk P w K mg base ZL 2 f fd Zjn Zem:=by
 refine F.ok scNm (fun vs H Q E h=>?_) (fun cdv A outer s H vs Q E hr h=>?_)
 ·obtain ⟨p,n,many,Δ,rfl,_⟩:=h;rfl
 obtain ⟨p,n,many,Δ,rfl,S,hn,h0,h1,q⟩:=h
 have hr1:=hr
 refine' ⟨?t,?h,?r⟩
 case h =>
  conv=>arg 2;whnf
  with_reducible refine' (Zc ?h1 (Zc ?h2 (Zc ?h3 (Zc ?h4 (Zc (Xi ?h5 ?h6 ?h7 ?h8 (Zc ?h9 (Zh ?h10)) ?h11) (Zh ?h12))))))
  case h1=>exact Wc (YU (Zb ZS (Zb (Zr YL Ze (Zu DT hr1 (Zb (pv 0) (Zb Ze Za)))) Za))) (XZ rfl (Yg (ZN (i:=2) scNm.nd rfl (Or.inr rfl)) (Yg (ZN (i:=3) scNm.nd rfl (Or.inl rfl)) XD)))
  case h2=>exact Zt (i:=4) scNm.nd rfl (Or.inl rfl) (YO PySem.F.plainAttrs_str PySem.F.slot_str_join PySem.F.type_str_join Zez ZS (Zb (UN (CompOk.of nNm s_l_names rfl rfl (by decide +kernel)) rfl (Xo rfl T.range (Zb (Zr YE (pv 3) Ze) Za))  (fun _ _ _ _ _=>Zq WA (pv 2) (Zu DT hr1 (Zb (pv 0) (Zb Ze Za))) (fun _ _=>rfl))) Za))
  case h3=>exact ZlJ (i:=5) (j:=6) (k:=7) rfl scNm.nd rfl rfl rfl (by decide) (by decide) (by decide) rfl rfl rfl (Zb (Zu DT hr1 (Zb (pv 0) (Zb Ze Za))) (Zb (Zq ZA (Yd (Zb Ze (Zb Ze (Zb Ze (Zb Ze Za))))) (Zu DT hr1 (Zb (pv 0) (Zb Ze Za))) (fun _ _=>rfl)) (Zb (Zu DT hr1 (Zb (pv 0) (Zb (Zr YE (pv 3) Ze) Za))) Za))) rfl
  case h4=>exact Zt (i:=8) scNm.nd rfl (Or.inl rfl) (Yd Za)
  case h5=>exact PassesOwn.never
  case h6=>exact rfl
  case h7=>exact Xo rfl T.range (Zb (pv 1) Za)
  case h8=>exact ZN (i:=9) scNm.nd rfl (Or.inl rfl)
  case h9=>exact Wc (Zv Zev rfl T.divmod (by decide +kernel) (Zb (Zr Xx (Zr YL (pv 5) (Zr Wz (pv 6) (pv 9))) Ze) (Zb Ze Za))) (XZ rfl (Yg (ZN (i:=10) scNm.nd rfl (Or.inl rfl)) (Yg (ZN (i:=11) scNm.nd rfl (Or.inl rfl)) XD)))
  case h10=>exact Yi (YO PySem.F.plainAttrs_list PySem.F.slot_list_append PySem.F.type_list_append Yr (pv 8) (Zb (Zr Wb (Zr Wb (Zr Wb (Wu ZdM (pv 4) XU (Ws (pv 7))) (Zq WA (pv 2) (pv 10) (fun _ _=>rfl))) (Zq WA (pv 2) (pv 11) (fun _ _=>rfl))) (Wu ZdM (pv 4) (Ws (pv 7)) XU)) Za))
  case h11=>exact fun _=>rfl
  case h12=>exact Zm (pv 8)
 refine ⟨_,rfl,p,_,7,_,rfl,S,by omega,by decide,by decide,fun r1 H1 a0 a1 S1=>⟨_,_,rfl,rfl,(by show 2<=sizeLine;decide),fun t ht=>⟨t,_,rfl,SqT.of Zg,rfl,_,_,rfl,_,_,rfl,rfl,?_⟩⟩⟩
 generalize hE:upd H1 t _=H2
 have S2:=(S1.newE ht hE).tail
 clear hE
 refine ⟨rfl,_,rfl,_,_,rfl,rfl,_,rfl,by omega,by omega,fun D hD=>?_⟩
 have e1:(2+r1 - 2).toNat=r1.toNat:=by omega
 rw [e1]
 refine Uy (Yv (show r1.toNat<=1000 by omega)) S2 hD (fun i ys Δ'=>∃ zs:List Str,ys=zs.map V.str/\(∀ z∈zs,∃ c,z=⟨#[c]⟩/\Vh c=true)/\Δ'=(p,Bx (n+1+i))::Δ) ⟨[],rfl,(fun _ h=>nomatch h),rfl⟩ ?_ ?_
 ·rintro i ys Δ' H' hi hl ⟨zs,rfl,hz,rfl⟩ S'
  refine ⟨_,rfl,_,rfl,p,_,26,_,rfl,S'.pull p,by omega,by decide,by decide,fun r3 H3 b0 b1 S3=>?_⟩
  obtain ⟨c,hc,hcl⟩:=Ww (x:=a26) UH b0 (by rw [Xk];exact b1)
  refine ⟨a26,r3,c,rfl,rfl,by rw [Xk];decide,hc,_,⟨zs++[⟨#[c]⟩],by rw [map_append];rfl,?_,rfl⟩,S3.pull D⟩
  intro z hz'
  rcases mem_append.mp hz' with h | h
  ·exact hz z h
  ·rw [mem_singleton.mp h];exact ⟨c,rfl,hcl⟩
 rintro ys Δ' H3 ⟨zs,rfl,hz,rfl⟩ hl S3
 rw [length_map] at hl
 obtain ⟨g1,g2,g3⟩:=ZhJ hz
 refine ⟨_,D,zs,rfl,rfl,SqL.of (S3.get D),by omega,?_⟩
 have S4:=S3.tail
 generalize Txt.join (Str.ofString "") zs=stem at *
 refine ⟨_,rfl,p,_,676,_,rfl,S4,by omega,by decide,by decide,fun r5 H5 b0 b1 S5=>⟨(by show 4<=sizeLine;decide),fun l hl4=>?_⟩⟩
 generalize hE:upd H5 l _=H6
 have S6:=S5.newE hl4 hE
 clear hE
 refine ⟨_,rfl,p,_,4,_,rfl,S6.pull p,by omega,by decide,by decide,fun r7 H7 c0 c1 S7=>?_⟩
 obtain ⟨sv,hsm,hsv⟩:=ZeS (xs:=[.int 1,.int 27,.int 5,.int 251]) c0 c1
 obtain ⟨stp,rfl,hst⟩:∃ z:Int,sv=.int z/\1<=z/\z<=251:=by
  simp only [mem_cons,not_mem_nil,or_false] at hsm
  rcases hsm with rfl | rfl | rfl | rfl<;>exact ⟨_,rfl,by decide,by decide⟩
 refine ⟨l,_,_,_,rfl,rfl,SqL.of (S7.get l),hsv,?_⟩
 have S8:=S7.drop l
 refine ⟨_,rfl,_,rfl,_,_,rfl,rfl,p,_,_,_,rfl,S8,by omega,by omega,by omega,fun r9 H9 d0 d1 S10=>⟨_,_,_,rfl,?_⟩⟩
 refine ⟨(by show 0<=sizeLine;decide),fun fl hfl=>?_⟩
 generalize hE:upd H9 fl _=H11
 have S11:=S10.newE hfl hE
 clear hE
 refine ⟨_,rfl,many,rfl,by omega,by omega,?_⟩
 refine Ux (fun i σ H'=>∃ x9 x10 x11 xs,σ=[some (.ref p),some (.int many),some (.str a26),some (.int (2+r1)),some (.str stem),some (.int r5),some (.int stp),some (.int r9),some (.ref fl),x9,x10,x11]/\Sep ((fl,ZD (xs.map V.str))::(p,Bx (n+20))::Δ) H'/\xs.length=i/\(∀ x∈xs,WH x/\2<=x.length)/\∀ j:Nat,j < i->xs[j]?=some (nmZ stem r9 ((r5+stp * (0+(j:Int))) % 676)))
  ⟨_,_,_,[],rfl,(S11.pull p).le (by omega) |>.pull fl,rfl,(fun _ h=>nomatch h),fun j h=>absurd h (by omega)⟩ ?_ ?_
 ·rintro i σ H' hi ⟨x9,x10,x11,xs,rfl,S',hxl,hxs,hxj⟩
  have hb:0<=stp * (0+(i:Int)):=Int.mul_nonneg (by omega) (by omega)
  refine ⟨_,rfl,_,rfl,_,rfl,_,_,rfl,rfl,.inl ⟨by omega,by omega⟩,_,_,rfl,rfl,_,_,rfl,rfl,(by show (0:Int) < 676;decide),?_⟩
  obtain ⟨z,hz⟩:∃ z:Int,(r5+stp * (0+(i:Int))) % 676=z:=⟨_,rfl⟩
  have hz0:0<=z:=by rw [<- hz];exact Int.emod_nonneg _ (by decide)
  have hz1:z < 676:=by rw [<- hz];exact Int.emod_lt_of_pos _ (by decide)
  refine ⟨z,26,congrArg (fun y=>[V.int y,V.int 26]) hz,⟨by decide,by decide⟩,fun t2 ht2=>⟨t2,_,rfl,SqT.of Zg,rfl,_,_,rfl,_,_,rfl,rfl,?_⟩⟩
  generalize hE:upd H' t2 _=H12
  have S12:=(S'.newE ht2 hE).tail
  clear hE
  obtain ⟨c1',hc1,hcl1⟩:=Ww (x:=a26) UH (r:=z / 26) (by omega) (by rw [Xk];omega)
  obtain ⟨c2',hc2,hcl2⟩:=Ww (x:=a26) UH (r:=z % 26) (by omega) (by rw [Xk];omega)
  have ec1:c1'=97+(z / 26).toNat:=Option.some.inj (hc1.symm.trans (ZgI (by omega) (by omega)))
  have ec2:c2'=97+(z % 26).toNat:=Option.some.inj (hc2.symm.trans (ZgI (by omega) (by omega)))
  have enm:Txt.slice stem none (some r9)++(⟨#[c1']⟩:Str)++(⟨#[c2']⟩:Str)++Txt.slice stem (some r9) none=nmZ stem r9 z:=by rw [ec1,ec2];rfl
  have hsl:=Zgz (x:=stem) d0 (by omega)
  refine ⟨_,rfl,.inl ⟨rfl,_,SqL.of (S12.get fl)⟩,_,rfl,_,rfl,r9,rfl,stem,rfl,Yv (show stem.length<=1000 by omega),_,rfl,_,rfl,a26,_,c1',rfl,rfl,by rw [Xk];decide,hc1,_,_,rfl,rfl,Yv (show _<=1000 by rw [YS];omega),?_⟩
  refine ⟨_,rfl,_,rfl,a26,_,c2',rfl,rfl,by rw [Xk];decide,hc2,_,_,rfl,rfl,Yv (show _<=1000 by rw [XE,YS,YS];omega),_,rfl,_,rfl,r9,rfl,stem,rfl,Yv (show stem.length<=1000 by omega),_,_,rfl,rfl,Yv (show _<=1000 by rw [XE,XE,YS,YS];omega),?_⟩
  refine ⟨fl,_,_,rfl,rfl,S12.get fl,YX (show _<=1000 by rw [length_map];omega),?_⟩
  have S13:=S12.put fl (.lst (xs.map V.str++[.str (Txt.slice stem none (some r9)++(⟨#[c1']⟩:Str)++(⟨#[c2']⟩:Str)++Txt.slice stem (some r9) none)]))
  refine ⟨_,_,_,xs++[Txt.slice stem none (some r9)++(⟨#[c1']⟩:Str)++(⟨#[c2']⟩:Str)++Txt.slice stem (some r9) none],rfl,by rw [map_append];exact S13,by simp [hxl],fun x hx=>?_,fun j hj=>?_⟩
  ·rcases mem_append.mp hx with h | h
   ·exact hxs x h
   ·rw [mem_singleton.mp h]
    refine ⟨⟨?_,?_,WW (WW (WW (Vl g3) (Vn hcl1)) (Vn hcl2)) (Vl g3)⟩,?_⟩<;>(rw [XE,XE,XE,YS,YS];omega)
  ·rw [enm]
   by_cases hji:j < i
   ·rw [getElem?_append_left (by omega)];exact hxj j hji
   ·have:j=i:=by omega
    subst this
    rw [getElem?_append_right (by omega),hxl,Nat.sub_self,hz];rfl
 ·rintro σ H' ⟨x9,x10,x11,xs,rfl,S',hxl,hxs,hxj⟩
  refine ⟨_,rfl,q fl H' xs S' hxl hxs fun h2=>?_⟩
  have g0:=hxj 0 (by omega)
  have g1':=hxj 1 (by omega)
  refine ⟨_,_,mem_of_getElem? g0,mem_of_getElem? g1',fun z=>?_⟩
  have:=ZlE z (Int.emod_nonneg _ (by decide)) (Int.emod_lt_of_pos _ (by decide)) (Int.emod_nonneg _ (by decide)) (Int.emod_lt_of_pos _ (by decide))
  have e0:stp * (0+((0:Nat):Int))=0:=by simp
  have e1':stp * (0+((1:Nat):Int))=stp:=by simp
  rw [e0,e1'] at this
  omega
end
def Zfl:Sp:=fun vs H Q _=>∃(p:Addr)(n:Nat)(many:Int)(Δ:Rs),vs=[.ref p,.int many]/\Sep ((p,Bx n)::Δ) H/\n<=800000/\1<=many/\many<=40 /\
 ∀ (l:Addr) (H':Hp) (xs:List Str),Sep ((l,ZD (xs.map V.str))::(p,Bx (n+100))::Δ) H'->1<=xs.length->(xs.length:Int)<=many->xs.Nodup->(∀ x∈xs,WH x)->(2<=many->2<=xs.length)->Q (.ref l) H'
theorem Zlh {α:Type}{l:List α}{u v:α}(hu:u∈l)(hv:v∈l)(h:u≠v):2<=l.length:=by
 match l,hu,hv with
 | [a],hu,hv=>exact absurd ((mem_singleton.mp hu).trans (mem_singleton.mp hv).symm) h
 | _::_::_,_,_=>simp only [length_cons];omega
section
variable {P:Program}{w:World}{K:KF}{mg:Str->Option Value}{base:Heap}
abbrev nPo:List Str:=["_law_box_here","_law_many","_law_letters","_law_found","_law_name","_law_one","_law_other","_law_twin"]
abbrev ZjB:List Str:=["_law_box_here","_law_many"]
theorem scPo:Zp nPo ZjB (Zj s_l_pool):=⟨rfl,rfl,rfl,by decide +kernel,rfl,by decide +kernel,by decide +kernel⟩
theorem Zls {f:Addr}{fd:FuncData}(F:Fun K "_law_pool" "_law_pool" s_l_pool f fd)(T:Yz mg)(DT:DTk P w K mg base 1)(DN:Def P w K mg base 2 "_law_names" Zjn Zem):FnOk P w K mg base ZL 3 f fd ZjB Zfl:=by
 refine F.ok scPo (fun vs H Q E h=>?_) (fun cdv A outer s H vs Q E hr h=>?_)
 ·obtain ⟨p,n,many,Δ,rfl,_⟩:=h;rfl
 obtain ⟨p,n,many,Δ,rfl,S,hn,h0,h1,q⟩:=h
 have hr1:=hr.mono (show 1<=2 by decide)
 refine' ⟨?t,?h,?r⟩
 case h =>
  conv=>arg 2;whnf
  with_reducible refine' (Zc ?h1 (Zc (Xi ?h2 ?h3 ?h4 ?h5 (Zc ?h6 (Zc ?h7 (Zh ?h8))) ?h9) (Zh ?h10)))
  case h1=>exact Wc (YU (Zb ZS (Zb (Yd Za) Za))) (XZ rfl (Yg (ZN (i:=2) scPo.nd rfl (Or.inl rfl)) (Yg (ZN (i:=3) scPo.nd rfl (Or.inr rfl)) XD)))
  case h2=>exact PassesOwn.never
  case h3=>exact rfl
  case h4=>exact XI (Zu DN hr (Zb (pv 0) (Zb (pv 1) Za)))
  case h5=>exact ZN (i:=4) scPo.nd rfl (Or.inl rfl)
  case h6=>exact Vx (i:=5) (j:=6) rfl scPo.nd rfl rfl (by decide) rfl rfl (Zb (Zr YL (YO PySem.F.plainAttrs_str PySem.F.slot_str_index PySem.F.type_str_index Zdv (pv 2) (Zb (Zq WA (pv 4) Ze (fun _ _=>rfl)) Za)) Ze) (Zb (Zr YE (YO PySem.F.plainAttrs_str PySem.F.slot_str_index PySem.F.type_str_index Zdv (pv 2) (Zb (Zq WA (pv 4) Ze (fun _ _=>rfl)) Za)) Ze) Za)) rfl
  case h7=>exact Zt (i:=7) scPo.nd rfl (Or.inl rfl) (Zr Wb (Zr Wb (Zq WA (pv 2) (Zr Xx (pv 5) Ze) (fun _ _=>rfl)) (Zq WA (pv 2) (pv 6) (fun _ _=>rfl))) (Wu ZdM (pv 4) (Ws Ze) XU))
  case h8=>exact Yi (YO PySem.F.plainAttrs_list PySem.F.slot_list_extend PySem.F.type_list_extend VI (pv 3) (Zb (Zr ZaX (Yd (Zb (pv 4) Za)) (Zr Zme (Yd (Zb (pv 7) Za)) (Yl Zcv rfl T.int (by decide +kernel) (Zb (WG (YZ Zac (pv 5) Ze (ZM _)) (WG (YZ ZjX (pv 6) Ze (ZM _)) (UJ (YZ YA (Zu DT hr1 (Zb (pv 0) (Zb Ze Za))) Ze (ZM _))))) Za)))) Za))
  case h9=>exact fun _=>rfl
  case h10=>exact Zm (Wu ZbM (ZhN (xa:="_law_place") (xb:="_law_name") (CompOkT.of nPo s_l_pool rfl rfl (by decide +kernel)) rfl (ZjF rfl T.enumerate (pv 3)) (fun _ _ _ _ _=>ZlI (K:=K) rfl rfl (ZN (i:=8) (show (UD nPo "_law_place" "_law_name"++(["_law_place","_law_name"]:List Str)).Nodup by decide +kernel) rfl (Or.inl rfl) (Or.inr rfl)) (ZN (i:=9) (show (UD nPo "_law_place" "_law_name"++(["_law_place","_law_name"]:List Str)).Nodup by decide +kernel) rfl (Or.inl rfl) (Or.inr rfl))) (fun _ _ _ _ _=>ZX (ZcH (K:=K) rfl) (pv 9) (Wu (Zjx (K:=K) rfl) (pv 3) XU (Ws (pv 8))) rfl) (fun _ _ _ _ _=>pv 9)) XU (Ws (pv 1)))
 refine ⟨(by show 0<=sizeLine;decide),fun fl hfl=>⟨(by show 2<=sizeLine;decide),fun t ht=>⟨t,_,rfl,SqT.of Zg,rfl,_,_,rfl,_,_,rfl,rfl,?_⟩⟩⟩
 generalize hE:upd (upd H fl _) t _=H1
 have S1:=((S.new hfl _).newE ht hE).tail
 clear hE
 refine ⟨_,rfl,_,rfl,p,_,many,_,rfl,S1.pull p,by omega,by omega,by omega,fun l H2 xs S2 hxl hxs hx2=>?_⟩
 refine ⟨l,rfl,⟨_,SqL.of (S2.get l)⟩,Wl (xs:=xs.map V.str) (fun j σ H'=>∃ x4 x5 x6 x7 fs,σ=[some (.ref p),some (.int many),some (.str a26),some (.ref fl),x4,x5,x6,x7]/\Sep ((fl,ZD (fs.map V.str))::(l,ZD (xs.map V.str))::(p,Bx (n+20+j))::Δ) H'/\fs.length<=2 * j/\(∀ y∈fs,WH y)/\(∀ y∈xs.take j,y∈fs)/\j<=xs.length)
  ⟨_,_,_,_,[],rfl,(S2.pull l).pull fl,Nat.le_refl _,(fun _ h=>nomatch h),(fun y h=>by simp at h),Nat.zero_le _⟩ ?_ ?_ ?_⟩
 ·rintro j σ H' _ ⟨_,_,_,_,fs,_,S',_⟩;exact SqL.of (S'.get l)
 ·rintro j x σ H3 hx ⟨x4,x5,x6,x7,fs,rfl,S3,hfl2,hfs,hne,hj⟩
  have hjl:j < xs.length:=by have:=(List.getElem?_eq_some_iff.mp hx).1;rwa [length_map] at this
  obtain ⟨nm,hnm,rfl⟩:=mem_map.mp (mem_of_getElem? hx)
  obtain ⟨⟨hn1,hn8,hnl⟩,hn2⟩:=hxs nm hnm
  obtain ⟨c0,hc0,hl0⟩:=Ww (x:=nm) hnl (r:=0) (by decide) (by omega)
  obtain ⟨c1,hc1,hl1⟩:=Ww (x:=nm) hnl (r:=1) (by decide) (by omega)
  obtain ⟨f0,f01,f02⟩:=Zhe hl0
  obtain ⟨f1,f11,f12⟩:=Zhe hl1
  obtain ⟨one,hone⟩:∃ z:Int,(c0:Int) - 97+2=z:=⟨_,rfl⟩
  obtain ⟨oth,hoth⟩:∃ z:Int,(c1:Int) - 97 - 1=z:=⟨_,rfl⟩
  refine ⟨_,rfl,rfl,_,rfl,nm,0,c0,rfl,rfl,Yv (show nm.length<=1000 by omega),hc0,a26,_,rfl,rfl,by omega,_,_,rfl,rfl,_,rfl,rfl,_,rfl,nm,1,c1,rfl,rfl,Yv (show nm.length<=1000 by omega),hc1,a26,_,rfl,rfl,by omega,_,_,rfl,rfl,.int one,.int oth,(by show [V.int (Txt.find a26 ⟨#[c0]⟩+2),V.int (Txt.find a26 ⟨#[c1]⟩ - 1)]=_;rw [f0,f1,hone,hoth]),?_⟩
  obtain ⟨d0,hd0,hdl0⟩:=Ww (x:=a26) UH (r:=one % 26) (by omega) (by rw [Xk];omega)
  obtain ⟨d1,hd1,hdl1⟩:=Zio (x:=a26) UH (r:=oth) (by rw [Xk];omega) (by rw [Xk];omega)
  have hsl:(Txt.slice nm (some 2) none).length+2=nm.length:=by
   rw [Yn,Wx,Yn]
   have e3:HT.sIx nm.cps.toList.length 0 (some 2)=min 2 nm.cps.toList.length:=HT.sIx_nat _ _ 2
   have hh:2<=nm.cps.toList.length:=by rw [<- Yn];exact hn2
   rw [e3,HT.sIx_none,length_take,length_drop]
   omega
  refine ⟨_,rfl,_,rfl,_,_,rfl,rfl,(by show (0:Int) < 26;decide),a26,_,d0,rfl,rfl,by rw [Xk];decide,hd0,_,rfl,_,rfl,a26,oth,d1,rfl,rfl,by rw [Xk];decide,hd1,_,_,rfl,rfl,Yv (show _<=1000 by rw [YS,YS];decide),_,rfl,2,rfl,nm,rfl,Yv (show nm.length<=1000 by omega),_,_,rfl,rfl,Yv (show _<=1000 by rw [XE,YS,YS];omega),?_⟩
  generalize htw:(⟨#[d0]⟩:Str)++(⟨#[d1]⟩:Str)++Txt.slice nm (some 2) none=tw
  have htk:WH tw:=by
   rw [<- htw]
   refine ⟨?_,?_,WW (WW (Vn hdl0) (Vn hdl1)) (Vl hnl)⟩<;>(rw [XE,XE,YS,YS];omega)
  refine ⟨_,rfl,.inl ⟨rfl,_,SqL.of (S3.get fl)⟩,_,rfl,(by show 1<=sizeLine;decide),fun l1 hl1'=>⟨_,rfl,(by show 1<=sizeLine;decide),fun l2 hl2=>?_⟩⟩
  generalize hE:upd (upd H3 l1 _) l2 _=H4
  have S4:=(S3.new hl1' _).newE hl2 hE
  clear hE
  refine ⟨_,rfl,_,_,rfl,rfl,_,rfl,Xf (fun c=>?w1) (fun c=>?w2)⟩
  case' w1=>refine ⟨_,rfl,_,_,rfl,rfl,_,rfl,Xf (fun c=>?w3) (fun c=>?w4)⟩
  case' w3 =>
   refine ⟨_,rfl,p,_,2,_,rfl,S4.pull p,by omega,by decide,by decide,fun r5 H5 b0 b1 S5=>⟨rfl,?_⟩⟩
   obtain ⟨b,hb⟩:∃ b:Bool,decide (V.int r5=V.int 0)=b:=⟨_,rfl⟩
  case' w4 =>
   have S5:=(S4.pull p).le (show n+20+j<=n+20+j+1 by omega)
   obtain ⟨b,hb⟩:∃ b:Bool,false=b:=⟨_,rfl⟩
  case' w2 =>
   have S5:=(S4.pull p).le (show n+20+j<=n+20+j+1 by omega)
   obtain ⟨b,hb⟩:∃ b:Bool,false=b:=⟨_,rfl⟩
  all_goals
   refine .inr ⟨b,congrArg (fun z=>[V.bl z]) hb,?_⟩
   obtain ⟨k0,k1,k2⟩:=ZjM b tw
   refine ⟨l2,_,_,rfl,rfl,S5.get l2,by omega,by omega,Yv (show _<=1000 by show 1 * _<=1000;omega),fun l3 hl3=>?_⟩
   generalize hE:upd _ l3 _=H6
   have S6:=S5.newE hl3 hE
   clear hE
   rw [k2] at S6
   have lb:(if b=true then [tw] else []).length<=1:=by cases b<;>simp
   refine ⟨l1,l3,_,_,rfl,rfl,S6.get l1,S6.get l3,Yv (show [V.str nm].length+((if b=true then [tw] else []).map V.str).length<=1000 by rw [length_map];show 1+_<=1000;omega),fun l4 hl4=>?_⟩
   generalize hE:upd _ l4 _=H7
   have S7:=S6.newE hl4 hE
   clear hE
   refine ⟨fl,l4,fs.map V.str,[V.str nm]++(if b=true then [tw] else []).map V.str,rfl,rfl,S7.get fl,S7.get l4,Yv (show _<=1000 by rw [length_append,length_map,length_map];show _+(1+_)<=1000;omega),?_⟩
   have S8:=S7.put fl (.lst (fs.map V.str++([.str nm]++(if b=true then [tw] else []).map V.str)))
   have e8:fs.map V.str++([.str nm]++(if b=true then [tw] else []).map V.str)=(fs++(nm::if b=true then [tw] else [])).map V.str:=by rw [map_append];rfl
   refine ⟨_,_,_,_,fs++(nm::if b=true then [tw] else []),rfl,?_,?_,fun y hy=>?_,fun y hy=>?_,hjl⟩
   ·rw [<- e8];exact ((((S8.drop l4).drop l3).drop l2).drop l1).pull p |>.pull l |>.pull fl
   ·rw [length_append,length_cons];omega
   ·rcases mem_append.mp hy with z | z
    ·exact hfs y z
    ·rcases mem_cons.mp z with z | z
     ·rw [z];exact ⟨hn1,hn8,hnl⟩
     ·cases b
      ·cases z
      ·rw [mem_singleton.mp z];exact htk
   ·rw [take_succ] at hy
    have hxj:xs[j]?=some nm:=by
     rw [getElem?_map] at hx
     cases e:xs[j]? with
     | none=>rw [e] at hx;cases hx
     | some w=>rw [e] at hx;cases hx;rfl
    rw [hxj] at hy
    rcases mem_append.mp hy with z | z
    ·exact List.mem_append_left _ (hne y z)
    ·rw [show y=nm from by simpa using z];exact mem_append_right _ mem_cons_self
 ·rintro σ H3 ⟨x4,x5,x6,x7,fs,rfl,S3,hfl2,hfs,hne,hj⟩
  rw [length_map] at S3 hfl2 hne
  have S4:=S3.drop l
  refine ⟨_,rfl,fl,_,rfl,S4.get fl,fun D hD=>?_⟩
  refine Zdn (K:=K) (a:=fl) (xs:=fs.map V.str) (Yv (show _<=1000 by rw [length_map];omega)) S4 hD (fun i ys Δ'=>ys=(YF fs i).map V.str/\Δ'=(fl,ZD (fs.map V.str))::(p,Bx (n+20+xs.length))::Δ) ⟨rfl,rfl⟩ ?_ ?_ ?_
  ·rintro i ys Δ' H' ⟨_,rfl⟩ S';exact SqL.of (S'.get fl)
  ·rintro i x t' ys Δ' H' wa wb hx hyl ⟨rfl,rfl⟩ S'
   obtain ⟨y,hy,rfl⟩:∃ y,fs[i]?=some y/\V.str y=x:=by
    rw [getElem?_map] at hx
    cases e:fs[i]? with
    | none=>rw [e] at hx;cases hx
    | some y=>rw [e] at hx;exact ⟨y,rfl,Option.some.inj hx⟩
   refine ⟨t',_,rfl,SqT.of (S'.get t'),rfl,_,_,rfl,_,_,rfl,rfl,⟨_,_,rfl⟩,?_⟩
   refine ⟨_,rfl,_,rfl,_,rfl,_,rfl,fl,_,rfl,SqL.of (S'.get fl),fun sl hsl=>?_⟩
   generalize hE:upd _ sl _=H5
   have S5:=S'.newE hsl hE
   clear hE
   rw [Zdd,<- List.map_take] at S5
   refine ⟨sl,_,rfl,.inl (SqL.of (S5.get sl)),rfl,ZhA _,_,rfl,?_⟩
   rw [ZkY]
   have S6:=(S5.drop sl).drop t'
   have ef:YF fs (i+1)=if y∈fs.take i then YF fs i else YF fs i++[y]:=by
    show (match fs[i]? with | some x=>if x∈fs.take i then YF fs i else YF fs i++[x] | none=>YF fs i)=_
    rw [hy]
   by_cases hm:y∈fs.take i
   ·rw [decide_eq_true hm]
    rw [if_pos hm] at ef
    exact ZP ⟨_,⟨by rw [ef],rfl⟩,S6⟩
   ·rw [decide_eq_false hm]
    rw [if_neg hm] at ef
    exact Yh ⟨_,rfl,_,⟨by rw [ef,map_append];rfl,rfl⟩,S6⟩
  ·rintro ys Δ' H5 ⟨rfl,rfl⟩ hyl S5
   rw [length_map] at S5 hyl
   refine ⟨_,rfl,many,rfl,D,_,rfl,SqL.of (S5.get D),fun r hr'=>?_⟩
   generalize hE:upd _ r _=H6
   have S6:=((S5.newE hr' hE).drop D).drop fl
   clear hE
   rw [show many=((many.toNat:Nat):Int) by omega,Zdd,<- List.map_take] at S6
   have hin:∀ y∈xs,y∈fs:=fun y hy=>hne y (by rw [take_of_length_le (Nat.le_refl _)];exact hy)
   have hfne:fs≠[]:=fun z=>by
    obtain ⟨y,hy⟩:=List.exists_mem_of_ne_nil xs (length_pos_iff.mp (by omega))
    have:=hin y hy
    rw [z] at this;cases this
   have hall:fs.take fs.length=fs:=take_of_length_le (Nat.le_refl _)
   have hf1:YF fs fs.length≠[]:=fun z=>by
    obtain ⟨y,hy⟩:=List.exists_mem_of_ne_nil _ hfne
    have:=(Xq (xs:=fs) fs.length (x:=y)).mpr (by rw [hall];exact hy)
    rw [z] at this;cases this
   refine q r H6 _ ((S6.pull p).le (by omega) |>.pull r) ?_ ?_ (List.Sublist.nodup (List.take_sublist _ _) (Ur _)) (fun y hy=>hfs y ?_) fun h2=>?_
   ·rw [length_take];have:=length_pos_iff.mpr hf1;omega
   ·rw [length_take];omega
   ·have:=(Xq fs.length).mp (Zes hy)
    rw [hall] at this;exact this
   ·obtain ⟨u,v,hu,hv,huv⟩:=hx2 h2
    have m:∀ y∈xs,y∈YF fs fs.length:=fun y hy=>(Xq (xs:=fs) fs.length (x:=y)).mpr (by rw [hall];exact hin y hy)
    have:=Zlh (m u hu) (m v hv) huv
    rw [length_take];omega
end
section
variable {P:Program}{w:World}{K:KF}{mg:Str->Option Value}{base:Heap}
abbrev nVs:List Str:=["_law_box_here"]
abbrev Zjr:List Str:=["_law_box_here"]
theorem scVs:Zp nVs Zjr (Zj s_l_values):=⟨rfl,rfl,rfl,by decide +kernel,rfl,by decide +kernel,by decide +kernel⟩
theorem ZgB {f:Addr}{fd:FuncData}(F:Fun K "_law_values" "_law_values" s_l_values f fd)(T:Yz mg)(DV:Def P w K mg base 2 "_law_value" ["_law_box_here"] Zaq):FnOk P w K mg base ZL 3 f fd Zjr Zdq:=by
 refine F.ok scVs (fun vs H Q E h=>?_) (fun cdv A outer s H vs Q E hr h=>?_)
 ·obtain ⟨p,n,Δ,rfl,_⟩:=h;rfl
 obtain ⟨p,n,Δ,rfl,S,hn,q⟩:=h
 refine' ⟨?t,?h,?r⟩
 case h =>
  conv=>arg 2;whnf
  with_reducible refine' (Zh ?h1)
  case h1=>exact Zm (Zr ZaX (UN (CompOk.of nVs s_l_values rfl rfl (by decide +kernel)) rfl (Xo rfl T.range (Zb Ze Za))  (fun _ _ _ _ _=>Zu DV hr (Zb (pv 0) Za))) (Yd (Zb Ze (Zb ZS Za))))
 refine ⟨3,rfl,by decide,by decide,fun D hD=>?_⟩
 refine Uy (by decide) S hD (fun i ys Δ'=>(∀ u∈ys,Xa u)/\Δ'=(p,Bx (n+50 * i))::Δ) ⟨(fun _ h=>nomatch h),rfl⟩ ?_ ?_
 ·rintro i ys Δ' H' hi hl ⟨hy,rfl⟩ S'
  have hi3:i < 3:=hi
  refine ⟨_,rfl,p,_,_,rfl,S'.pull p,by omega,fun v H2 hv S2=>⟨_,⟨fun u hu=>?_,rfl⟩,(S2.le (by omega)).pull D⟩⟩
  rcases mem_append.mp hu with z | z
  ·exact hy u z
  ·rw [mem_singleton.mp z];exact hv
 ·rintro ys Δ' H2 ⟨hy,rfl⟩ hl S2
  refine ⟨(by show 2<=sizeLine;decide),fun l1 hl1=>?_⟩
  generalize hE:upd _ l1 _=H3
  have S3:=S2.newE hl1 hE
  clear hE
  have hl3:ys.length=3:=hl
  refine ⟨D,l1,_,_,rfl,rfl,S3.get D,S3.get l1,Yv (show ys.length+2<=1000 by omega),fun l2 hl2=>?_⟩
  generalize hE:upd _ l2 _=H4
  have S4:=S3.newE hl2 hE
  clear hE
  refine q l2 H4 _ ((((S4.drop l1).drop D).pull p).le (show n+50 * 3<=n+200 by omega) |>.pull l2) (by rw [length_append];show _+2=5;omega) fun u hu=>?_
  rcases mem_append.mp hu with z | z
  ·exact hy u z
  ·have all:([.int 1,.str "1"]:List V).all ZaV=true:=by decide +kernel
   exact UZ (all_eq_true.mp all u z)
abbrev nSp:List Str:=["_law_box_here","_law_names_here","_law_values_here","_law_name"]
abbrev ZjS:List Str:=["_law_box_here","_law_names_here","_law_values_here"]
theorem scSp:Zp nSp ZjS (Zj s_l_step):=⟨rfl,rfl,rfl,by decide +kernel,rfl,by decide +kernel,by decide +kernel⟩
theorem ZkJ {f:Addr}{fd:FuncData}(F:Fun K "_law_step" "_law_step" s_l_step f fd)(T:Yz mg)(DT:DTk P w K mg base 1):FnOk P w K mg base ZL 2 f fd ZjS Zhr:=by
 refine F.ok scSp (fun vs H Q E h=>?_) (fun cdv A outer s H vs Q E hr h=>?_)
 ·obtain ⟨p,nl,vl,n,NS,us,Δ,rfl,_⟩:=h;rfl
 obtain ⟨p,nl,vl,n,NS,us,Δ,rfl,S,hNS,hus,hNl,hul,huv,hn,q⟩:=h
 have hr1:=hr
 have l1:=length_pos_iff.mpr hNS
 have l2:=length_pos_iff.mpr hus
 refine' ⟨?t,?h,?r⟩
 case h =>
  conv=>arg 2;whnf
  with_reducible refine' (Zc ?h1 (Zc (Yk ?h2 (Zh ?h3) ZW) (Zh ?h4)))
  case h1=>exact Zt (i:=3) scSp.nd rfl (Or.inl rfl) (Zq ZA (pv 1) (Zu DT hr1 (Zb (pv 0) (Zb (Zv ZG rfl T.len PySem.boot_len (Zb (pv 1) Za)) Za))) (fun _ _=>rfl))
  case h2=>exact ZX YA (Zu DT hr1 (Zb (pv 0) (Zb Ze Za))) Ze (ZM _)
  case h3=>exact Zm (YU (Zb ZS (Zb (pv 3) Za)))
  case h4=>exact Zm (YU (Zb ZS (Zb (pv 3) (Zb (Zq ZA (pv 2) (Zu DT hr1 (Zb (pv 0) (Zb (Zv ZG rfl T.len PySem.boot_len (Zb (pv 2) Za)) Za))) (fun _ _=>rfl)) Za))))
 refine ⟨_,rfl,_,rfl,_,rfl,nl,_,rfl,.inl (SqL.of (S.get nl)),p,_,_,_,rfl,S,by omega,(by rw [length_map];omega),(by rw [length_map];omega),fun r1 H1 a0 a1 S1=>?_⟩
 rw [length_map] at a1
 obtain ⟨x,hx,hat⟩:=Zhc (f:=V.str) a0 a1
 refine ⟨nl,_,_,_,rfl,rfl,SqL.of (S1.get nl),hat,?_⟩
 refine ⟨_,rfl,p,_,4,_,rfl,S1,by omega,by decide,by decide,fun r2 H2 b0 b1 S2=>⟨rfl,_,rfl,Xf (fun c=>?_) (fun c=>?_)⟩⟩
 ·refine ⟨_,rfl,(by show 2<=sizeLine;decide),fun t ht=>?_⟩
  exact q t _ (.clr x) hx ((S2.new ht (.tup [.str "clear",.str x])).pull p |>.le (show n+2<=n+3 by omega) |>.pull t)
 ·refine ⟨_,rfl,_,rfl,_,rfl,_,rfl,vl,_,rfl,.inl (SqL.of (S2.get vl)),p,_,_,_,rfl,S2,by omega,by omega,by omega,fun r3 H3 d0 d1 S3=>?_⟩
  obtain ⟨u,hu,hau⟩:=ZeS (xs:=us) d0 d1
  refine ⟨vl,_,_,_,rfl,rfl,SqL.of (S3.get vl),hau,(by show 3<=sizeLine;decide),fun t ht=>?_⟩
  exact q t _ (.set x u) ⟨hx,huv u hu⟩ (S3.new ht (.tup [.str "set",.str x,u]))
abbrev nFr:List Str:=["_law_box_here","_law_stops","_law_way"]
abbrev Zjk:List Str:=["_law_box_here","_law_stops"]
theorem scFr:Zp nFr Zjk (Zj s_l_from):=⟨rfl,rfl,rfl,by decide +kernel,rfl,by decide +kernel,by decide +kernel⟩
theorem Zlr {f:Addr}{fd:FuncData}(F:Fun K "_law_from" "_law_from" s_l_from f fd)(T:Yz mg)(DT:DTk P w K mg base 1):FnOk P w K mg base ZL 2 f fd Zjk ZhI:=by
 refine F.ok scFr (fun vs H Q E h=>?_) (fun cdv A outer s H vs Q E hr h=>?_)
 ·obtain ⟨p,sl,n,k,R,Δ,rfl,_⟩:=h;rfl
 obtain ⟨p,sl,n,k,R,Δ,rfl,S,hR,hk1,hk2,hn,q⟩:=h
 have hr1:=hr
 refine' ⟨?t,?h,?r⟩
 case h =>
  conv=>arg 2;whnf
  with_reducible refine' (Zc ?h1 (Zc (Yk ?h2 (Zh ?h3) ZW) (Zc (Yk ?h4 (Zh ?h5) ZW) (Zh ?h6))))
  case h1=>exact Zt (i:=2) scFr.nd rfl (Or.inl rfl) (Zu DT hr1 (Zb (pv 0) (Zb Ze Za)))
  case h2=>exact ZX Zac (pv 2) Ze (ZM _)
  case h3=>exact Zm (Zr YE (Zv ZG rfl T.len PySem.boot_len (Zb (pv 1) Za)) Ze)
  case h4=>exact ZX YA (pv 2) Ze (ZM _)
  case h5=>exact Zm (Zv (Zgw rfl) rfl T.max (by decide +kernel) (Zb Ze (Zb (Zr YE (Zr YE (Zv ZG rfl T.len PySem.boot_len (Zb (pv 1) Za)) Ze) (Zu DT hr1 (Zb (pv 0) (Zb Ze Za)))) Za)))
  case h6=>exact Zm (Zu DT hr1 (Zb (pv 0) (Zb (Zv ZG rfl T.len PySem.boot_len (Zb (pv 1) Za)) Za)))
 refine ⟨_,rfl,p,_,4,_,rfl,S,by omega,by decide,by decide,fun r1 H1 a0 a1 S1=>⟨_,rfl,_,_,rfl,rfl,_,rfl,Xf (fun c=>?_) (fun c=>?_)⟩⟩
 ·obtain ⟨xs,ex,hl⟩:=S1.isl sl hR
  refine ⟨_,rfl,sl,_,rfl,.inl (SqL.of ex),_,_,rfl,rfl,?_⟩
  have:=q (k - 1) H1 (by omega) (S1.le (by omega))
  rw [show ((k - 1:Nat):Int)=((xs.length:Nat):Int) - 1 by omega] at this
  exact this
 refine ⟨_,rfl,rfl,_,rfl,Xf (fun c=>?_) (fun c=>?_)⟩
 ·obtain ⟨xs,ex,hl⟩:=S1.isl sl hR
  refine ⟨_,rfl,sl,_,rfl,.inl (SqL.of ex),_,_,rfl,rfl,_,rfl,p,_,6,_,rfl,S1,by omega,by decide,by decide,fun r2 H2 b0 b1 S2=>⟨_,_,rfl,rfl,_,_,rfl,?_⟩⟩
  by_cases hc:(0:Int) < (xs.length:Int) - 1 - r2
  ·rw [if_pos hc]
   have:=q ((xs.length:Int) - 1 - r2).toNat H2 (by omega) (S2.le (by omega))
   rw [show ((((xs.length:Int) - 1 - r2).toNat:Nat):Int)=((xs.length:Nat):Int) - 1 - r2 by omega] at this
   exact this
  ·rw [if_neg hc];exact q 0 H2 (by omega) (S2.le (by omega))
 ·obtain ⟨xs,ex,hl⟩:=S1.isl sl hR
  refine ⟨_,rfl,_,rfl,sl,_,rfl,.inl (SqL.of ex),p,_,_,_,rfl,S1,by omega,by omega,by omega,fun r2 H2 b0 b1 S2=>?_⟩
  have:=q r2.toNat H2 (by omega) (S2.le (by omega))
  rw [show ((r2.toNat:Nat):Int)=r2 by omega] at this
  exact this
end
def mkB:Nat->Int
 | 0=>0
 | i+1=>mkB i+((i:Int)+1) * 26
theorem Zhu {l:List Nat}:∀ i,i<=l.length->l.all Vh=true->0<=Wi l i/\Wi l i<=mkB i
 | 0,_,_=>⟨Int.le_refl _,Int.le_refl _⟩
 | i+1,hi,ha=>by
  obtain ⟨h0,h1⟩:=Zhu i (by omega) ha
  have hlj:i < l.length:=hi
  have hc:=all_eq_true.mp ha _ (List.getElem_mem hlj)
  have hg:l.getD i 0=l[i]:=by rw [getD_eq_getElem?_getD,getElem?_eq_getElem hlj];rfl
  unfold Vh at hc
  simp only [Bool.and_eq_true,decide_eq_true_eq] at hc
  show 0<=Wi l i+((i:Int)+1) * (((l.getD i 0:Nat):Int) - 97+1)/\Wi l i+((i:Int)+1) * (((l.getD i 0:Nat):Int) - 97+1)<=mkB i+((i:Int)+1) * 26
  rw [hg]
  have p0:(0:Int)<=((i:Int)+1) * (((l[i]:Nat):Int) - 97+1):=Int.mul_nonneg (by omega) (by omega)
  have p1:((i:Int)+1) * (((l[i]:Nat):Int) - 97+1)<=((i:Int)+1) * 26:=Int.mul_le_mul_of_nonneg_left (by omega) (by omega)
  omega
theorem Znw {NS:List Str}(hl:NS.length<=50)(h:∀ x∈NS,WH x):Yf NS:=by
 have b:∀ x∈NS,0<=Zy x/\Zy x < 1024:=fun x hx=>by
  obtain ⟨h1,h8,ha⟩:=h x hx
  obtain ⟨g0,g1⟩:=Zhu (l:=x.cps.toList) x.length (by rw [<- Yn];exact Nat.le_refl _) ha
  have hB:∀ i,i<=8->mkB i < 1024:=by decide
  have:=hB x.length h8
  exact ⟨g0,by show Wi _ _ < _;omega⟩
 exact ⟨by omega,fun x hx=>by have:=(h x hx).2.1;omega,fun x hx=>(b x hx).1,fun x hx=>(b x hx).2⟩
theorem Znx {NS:List Str}:RInv NS [] [.bare] [(Sum.inl 0,.bl true)]:=by
 refine ⟨fun k q e=>by simp at e,fun k F t e1 e2=>?_⟩
 cases k with
 | zero =>
  cases (show some (fun _=>none)=some F from e1)
  cases (show some 0=some t from e2)
  exact ⟨rfl,.inl (.inl ⟨rfl,rfl,fun _ _ _=>rfl⟩),fun x u z=>by cases z⟩
 | succ k=>simp [envs] at e1
instance {pls:List ZO}:IsLst (StopL pls) (pls.length+1):=⟨fun ⟨as,e,hl,_⟩=>⟨_,e,by rw [length_map];exact hl⟩⟩
def ZdY (NS:List Str)(pls:List ZO):Prop:=∀ q∈pls,q.st.ok NS
theorem Zfq {NS:List Str}{pls:List ZO}{q:ZO}(h:ZdY NS pls)(hq:q.st.ok NS):ZdY NS (pls++[q]):=fun z hz=>by
 rcases mem_append.mp hz with y | y
 ·exact h z y
 ·rw [mem_singleton.mp y];exact hq
theorem Zeq {x:Str}(h:WH x):Xa (.str x):=by
 refine ⟨by have:=h.2.1;omega,all_eq_true.mpr fun c hc=>?_⟩
 have:=all_eq_true.mp h.2.2 c hc
 unfold Vh at this;unfold sgn
 simp only [Bool.and_eq_true,decide_eq_true_eq] at this ⊢
 omega
theorem Zci {a b:Addr}{R:YH}[U:Up R]{o:HO}{Δ:Rs}{H:Hp}(S:Sep ((a,R)::Δ) H)(e:H b=some o)(m:YB o=false):Sep ((a,fun a h=>R a h/\h b=some o)::Δ) H:=by
 obtain ⟨h,l,r,S⟩:=S
 refine ⟨fun c=>match h c with | some u=>some u | none=>one b o c,fun c u z=>?_,⟨U.up r (fun c u z=>by simp only [z]),?_⟩,S.mono fun c u z=>?_⟩
 ·cases q:h c with
  | some v=>simp only [q] at z;cases z;exact l _ _ q
  | none=>simp only [q] at z;obtain ⟨rfl,rfl⟩:=one_some.mp z;exact e
 ·cases q:h b with
  | some v=>have:=l _ _ q;rw [e] at this;cases this;simp only [q]
  | none=>simp only [q];exact one_some.mpr ⟨rfl,rfl⟩
 ·obtain ⟨z1,z2⟩:=cut_some.mp z
  refine cut_some.mpr ⟨z1,fun v y=>?_⟩
  cases q:h c with
  | some x=>simp only [q] at y;cases y;exact z2 _ q
  | none=>simp only [q] at y;obtain ⟨rfl,rfl⟩:=one_some.mp y;exact m
theorem ZmE {α:Type}{xs:List α}(h:xs≠[]):∃ x∈xs,YY xs (-1)=some x:=by
 have hl:=length_pos_iff.mpr h
 refine ⟨xs[xs.length - 1],List.getElem_mem _,?_⟩
 have hi:WI xs.length (-1)=some (xs.length - 1):=by
  unfold WI
  rw [if_neg (by decide),if_pos (by omega)]
  exact congrArg some (by omega)
 unfold YY
 rw [hi]
 exact getElem?_eq_getElem (by omega)
def ImL (as:List Addr)(ts:List (List V)):YH:=fun _ h=>as.length=ts.length/\∀(i:Nat)(a:Addr)(t:List V),as[i]?=some a->ts[i]?=some t->h a=some (.tup t)
instance {as:List Addr} {ts:List (List V)}:Up (ImL as ts):=⟨fun ⟨l,h⟩ s=>⟨l,fun i a t e1 e2=>s _ _ (h i a t e1 e2)⟩⟩
theorem im0 {Δ:Rs}{H:Hp}(S:Sep Δ H)(k:Addr):Sep ((k,ImL [] [])::Δ) H:=by
 refine ⟨fun _=>none,fun b o e=>?_,⟨rfl,fun i a t e=>?_⟩,S.mono fun b o e=>cut_some.mpr ⟨e,fun u q=>?_⟩⟩
 ·cases e
 ·simp at e
 ·cases q
theorem Zeh {α:Type}{as:List α}{x a:α}{i:Nat}(h:(as++[x])[i]?=some a):(i < as.length/\as[i]?=some a)\/(i=as.length/\x=a):=by
 by_cases hi:i < as.length
 ·rw [getElem?_append_left hi] at h;exact .inl ⟨hi,h⟩
 ·rw [getElem?_append_right (by omega)] at h
  cases z:i - as.length with
  | zero=>rw [z] at h;exact .inr ⟨by omega,Option.some.inj h⟩
  | succ j=>rw [z] at h;simp at h
theorem ZnX {k t:Addr}{as:List Addr}{ts:List (List V)}{xs:List V}{Δ:Rs}{H:Hp}(S:Sep ((k,ImL as ts)::Δ) H)(e:H t=some (.tup xs)):Sep ((k,ImL (as++[t]) (ts++[xs]))::Δ) H :=
 (Zci S e rfl).say k _ fun h ⟨⟨hl,hs⟩,ht⟩=>⟨by rw [length_append,length_append,hl];rfl,fun i a u e1 e2=>by
  rcases Zeh e1 with ⟨h1,g1⟩ | ⟨h1,rfl⟩
  ·rcases Zeh e2 with ⟨h2,g2⟩ | ⟨h2,_⟩
   ·exact hs i a u g1 g2
   ·omega
  ·rcases Zeh e2 with ⟨h2,_⟩ | ⟨_,rfl⟩
   ·omega
   ·exact ht⟩
def Ui (F:Str->Option V)(sv:ZH):Str->Option V:=sv.foldl (fun F p=>(Stp.set p.1 p.2).ap F) F
theorem ZbW:∀{sv:ZH}(F:Str->Option V),(sv.map (·.1)).Nodup->(∀ p∈sv,Ui F sv p.1=some p.2)/\∀ x,x ∉ sv.map (·.1)->Ui F sv x=F x
 | [],F,_=>⟨fun p h=>(nomatch h),fun _ _=>rfl⟩
 | q :: r,F,nd=>by
  rw [map_cons,nodup_cons] at nd
  obtain ⟨h1,h2⟩:=ZbW (sv:=r) ((Stp.set q.1 q.2).ap F) nd.2
  refine ⟨fun p hp=>?_,fun x hx=>?_⟩
  ·rcases mem_cons.mp hp with rfl | hp
   ·show Ui _ r _=_
    rw [h2 _ nd.1]
    show (if p.1=p.1 then some p.2 else _)=_
    rw [if_pos rfl]
   ·exact h1 p hp
  ·show Ui _ r x=_
   rw [map_cons] at hx
   rw [h2 x fun z=>hx (mem_cons_of_mem _ z)]
   show (if x=q.1 then some q.2 else F x)=_
   rw [if_neg (fun z:x=q.1=>hx (by rw [z];exact mem_cons_self ..))]
theorem Zgx {sv sv':ZH}(F:Str->Option V)(nd:(sv.map (·.1)).Nodup)(nd':(sv'.map (·.1)).Nodup)(h:∀ p,p∈sv'↔p∈sv):Ui F sv'=Ui F sv:=funext fun x=>by
 obtain ⟨a1,a2⟩:=ZbW F nd
 obtain ⟨b1,b2⟩:=ZbW F nd'
 by_cases hx:x∈sv.map (·.1)
 ·obtain ⟨p,hp,rfl⟩:=mem_map.mp hx
  rw [a1 p hp,b1 p ((h p).mpr hp)]
 ·rw [a2 x hx,b2 x fun z=>hx (by obtain ⟨p,hp,rfl⟩:=mem_map.mp z;exact mem_map.mpr ⟨p,(h p).mp hp,rfl⟩)]
theorem ZeI {pls:List ZO}{q:ZO}{k:Nat}(h:k<=pls.length):(envs (pls++[q]))[k]?=(envs pls)[k]?:=by
 rw [Xy,getElem?_append_left (by rw [YW];omega)]
section
variable {P:Program}{w:World}{K:KF}{mg:Str->Option Value}{base:Heap}{CR CS Pl:Addr}
def spAp (K:KF)(CR CS Pl:Addr):Sp:=fun vs H Q _=>∃(xs:List Str)(U:List V)(p r sl nl l2:Addr)(pls:List ZO)(nds:List Nd)(tabs:ZK)(n:Nat)(Δ:Rs),vs=[.ref p,.ref r,.ref sl,.ref nl,.ref l2]/\Yf xs/\xs.Nodup/\xs.length<=30/\(∀ x∈xs,PyData.strOk x=true)/\Sep ((p,Bx n)::(r,Xp K CR CS pls nds tabs)::(Pl,YV)::(sl,StopL pls)::(nl,ZD (xs.map V.str))::(l2,ZD U)::Δ) H/\RInv xs pls nds tabs/\(∀ q∈pls,q.st.ok xs)/\n<=5000/\pls.length<=400/\nds.length<=50000/\tabs.length<=50000/\U≠[]/\U.length<=100/\(∀ u∈U,Xa u) /\
 ∀ (pls':List ZO) (nds':List Nd) (tabs':ZK) (n':Nat) (H':Hp),Sep ((p,Bx n')::(r,Xp K CR CS pls' nds' tabs')::(Pl,YV)::(sl,StopL pls')::(nl,ZD (xs.map V.str))::(l2,ZD U)::Δ) H'->RInv xs pls' nds' tabs'->(∀ q∈pls',q.st.ok xs)->pls'.length<=500->Q (.bl true) H'
abbrev nAp:List Str:=["_law_box_here","_law_roads","_law_stops","_law_names_here","_law_values_here","_law_steps","_law_ends","_law_start","_law_row","_law_place","_law_step_here"]
abbrev ZjL:List Str:=["_law_box_here","_law_roads","_law_stops","_law_names_here","_law_values_here"]
theorem scAp:Zp nAp ZjL (Zj s_l_apart_right):=⟨rfl,rfl,rfl,by decide +kernel,rfl,by decide +kernel,by decide +kernel⟩
theorem ZnM {f:Addr}{fd:FuncData}(F:Fun K "_law_apart_right" "_law_apart_right" s_l_apart_right f fd)(T:Yz mg)(TR:WK K CR)(DT:DTk P w K mg base 1)(DGr:Def P w K mg base 17 "_law_grown" Zgp (ZbC K CR CS Pl))(DTR:Def P w K mg base 17 "_law_two_right" ZcS (Zgc K CR CS))(DR_unlike:DefM P w K mg base 17 CR "unlike" ZfA (ZiM K CR CS)):FnOk P w K mg base ZL 18 f fd ZjL (spAp K CR CS Pl):=by
 refine F.ok scAp (fun vs H Q E h=>?_) (fun cdv A outer s H vs Q E hr h=>?_)
 · obtain ⟨xs,U,p,r,sl,nl,l2,pls,nds,tabs,n,Δ,rfl,_⟩:=h;rfl
 obtain ⟨xs,U,p,r,sl,nl,l2,pls,nds,tabs,n,Δ,rfl,N,hnd,hxl,hstr,S,I,ok,hn,hpl,hnds,htb,hUn,hUl,hUv,q⟩:=h
 have hr1:=hr.mono (show 1<=17 by decide)
 refine' ⟨?t,?h,?r⟩
 case h =>
   conv=>arg 2;whnf
   with_reducible refine' (Zc ?h1 (Zc ?h2 (Zc (Xi ?h3 ?h4 ?h5 ?h6 (Zc ?h7 (Zc (Xi ?h8 ?h9 ?h10 ?h11 (Zc (Yk ?h12 (Zh ?h13) ZW) (Zh ?h14)) ?h15) (Zh ?h16))) ?h17) (Zh ?h18))))
   case h1=>exact ZfZ (i:=5) (CompOk.of nAp s_l_apart_right rfl rfl (by decide +kernel)) rfl scAp.nd rfl (Or.inl rfl) (XI (pv 3))  (fun _ _ _ _ _=>YU (Zb ZS (Zb (pv 11) (Zb (Zq (ZiI (K:=K) rfl) (pv 4) (Zu DT hr1 (Zb (pv 0) (Zb (Zv (Zcj (K:=K) rfl) rfl T.len PySem.boot_len (Zb (pv 4) Za)) Za))) (fun _ _=>rfl)) Za)))) rfl
   case h2=>exact Vx (i:=6) (j:=7) rfl scAp.nd rfl rfl (by decide) rfl rfl (Zb (Yd Za) (Zb (Zu DT hr1 (Zb (pv 0) (Zb (Zv ZG rfl T.len PySem.boot_len (Zb (pv 2) Za)) Za))) Za)) rfl
   case h3=>exact PassesOwn.never
   case h4=>exact rfl
   case h5=>exact XI (Yd (Zb (pv 5) (Zb (ZkP (pv 5)) Za)))
   case h6=>exact ZN (i:=8) scAp.nd rfl (Or.inl rfl)
   case h7=>exact Zt (i:=9) scAp.nd rfl (Or.inl rfl) (pv 7)
   case h8=>exact PassesOwn.never
   case h9=>exact rfl
   case h10=>exact XI (pv 8)
   case h11=>exact ZN (i:=10) scAp.nd rfl (Or.inl rfl)
   case h12=>exact XQ (XR (Zu DGr hr (Zb (pv 1) (Zb (pv 2) (Zb (pv 9) (Zb (pv 10) Za))))))
   case h13=>exact Zm Vc
   case h14=>exact Zt (i:=9) scAp.nd rfl (Or.inl rfl) (Zr YE (Zv ZG rfl T.len PySem.boot_len (Zb (pv 2) Za)) Ze)
   case h15=>exact fun _=>rfl
   case h16=>exact Yi (YO PySem.F.plainAttrs_list PySem.F.slot_list_append PySem.F.type_list_append Yr (pv 6) (Zb (pv 9) Za))
   case h17=>exact fun _=>rfl
   case h18=>exact Zm (WG (YZ (Zhj hr.units) (Ym DR_unlike TR.cl hr (pv 1) (Zb (Zq ZA (pv 6) Ze (fun _ _=>rfl)) (Zb (Zq ZA (pv 6) Ze (fun _ _=>rfl)) Za))) (Yd Za) (ZM _)) (UJ (Zu DTR hr (Zb (pv 1) (Zb (pv 2) (Zb (pv 7) (Zb (Zq ZA (pv 6) Ze (fun _ _=>rfl)) Za)))))))
 refine ⟨_,rfl,nl,rfl,⟨_,SqL.of (S.get nl)⟩,fun D hD=>?_⟩
 refine ZfN (K:=K) (xs:=xs.map V.str) (Yv (show _<=1000 by rw [length_map];omega)) (im0 S 0) hD (fun i ys Δ'=>∃ (as:List Addr) (sv:ZH) (n':Nat),ys=as.map V.ref/\as.length=i/\sv.map (·.1)=xs.take i/\(∀ z∈sv,Xa z.2)/\n'<=n+i/\Δ'=(0,ImL as (sv.map fun z=>(Stp.set z.1 z.2).vs))::(p,Bx n')::(r,Xp K CR CS pls nds tabs)::(Pl,YV)::(sl,StopL pls)::(nl,ZD (xs.map V.str))::(l2,ZD U)::Δ) ⟨[],[],n,rfl,rfl,rfl,(fun _ h=>nomatch h),by omega,rfl⟩ ?_ ?_ ?_
 · rintro i ys Δ' H' ⟨as,sv,n',rfl,_,_,_,_,rfl⟩ S';exact SqL.of (S'.get nl)
 · rintro i x ys Δ' H' hx hyl ⟨as,sv,n',rfl,hal,hsv,hval,hn',rfl⟩ S'
   obtain ⟨y,hy,rfl⟩:=Zat hx
   have hi:i < xs.length:=(List.getElem?_eq_some_iff.mp hy).1
   refine ⟨_,rfl,_,rfl,_,rfl,_,rfl,.ref l2,U.length,rfl,.inl ⟨_,SqL.of (S'.get l2),rfl⟩,p,_,_,_,rfl,S'.pull p,by omega,by have:=length_pos_iff.mpr hUn;omega,by omega,fun k H2 b0 b1 S2=>?_⟩
   obtain ⟨j,rfl⟩:∃ j:Nat,k=(j:Int):=⟨k.toNat,by omega⟩
   have hj:j < U.length:=by omega
   refine ⟨l2,_,_,_,rfl,rfl,SqL.of (S2.get l2),Zw (j:=j) (getElem?_eq_getElem hj),(by show 3<=sizeLine;decide),fun t ht=>?_⟩
   generalize hE:upd H2 t _=H3
   have S3:=S2.newE ht hE
   clear hE
   have et:H3 t=some (.tup (Stp.set y U[j]).vs):=S3.get t
   have S4:=(((((((S3.drop t).pull l2).pull nl).pull sl).pull Pl).pull r).pull p).pull 0
   refine ⟨_,⟨as++[t],sv++[(y,U[j])],n'+1,by rw [map_append];rfl,by rw [length_append,hal];rfl,by rw [map_append,hsv,take_succ,hy];rfl,fun z hz=>?_,by omega,rfl⟩,?_⟩
   · rcases mem_append.mp hz with h | h
     · exact hval z h
     · rw [mem_singleton.mp h];exact hUv _ (List.getElem_mem hj)
   · rw [map_append]
     exact (ZnX S4 et).pull D
 rintro ys Δ' H1 ⟨as,sv,n1,rfl,hal,hsv,hval,hn1,rfl⟩ hyl S1
 rw [length_map] at hal hsv hn1
 rw [take_length] at hsv
 have hsl:sv.length=xs.length:=by rw [<- hsv,length_map]
 have hsn:(sv.map (·.1)).Nodup:=by rw [hsv];exact hnd
 refine ⟨(by show 0<=sizeLine;decide),fun en hen=>?_⟩
 generalize hE:upd H1 en _=H2
 have S2:=(S1.newE hen hE).pull p
 clear hE
 obtain ⟨ys,ey,hyl⟩:=S2.isl sl (inferInstance:IsLst (StopL pls) (pls.length+1))
 refine ⟨_,rfl,_,rfl,sl,_,rfl,.inl (SqL.of ey),p,_,_,_,rfl,S2,by omega,by omega,by omega,fun k1 H3 b0 b1 S3=>⟨_,_,rfl,?_⟩⟩
 obtain ⟨k0,rfl⟩:∃ k0:Nat,k1=(k0:Int):=⟨k1.toNat,by omega⟩
 have hk0:k0<=pls.length:=by omega
 refine ⟨_,rfl,_,rfl,D,_,rfl,SqL.of (S3.get D),fun D2 hD2=>⟨(by show 2<=sizeLine;decide),fun lt hlt=>⟨lt,rfl,⟨_,SqL.of Zg⟩,?_⟩⟩⟩
 have S4:=(((((((((((S3.new hD2 (.lst (as.map V.ref).reverse)).new hlt (.lst [.ref D,.ref D2])).pull l2).pull nl).pull sl).pull Pl).pull r).pull p).pull 0).pull D2).pull D).pull lt |>.pull en
 obtain ⟨F0,hF0⟩:∃ F0,(envs pls)[k0]?=some F0:=⟨_,getElem?_eq_getElem (by rw [YW];omega)⟩
 have pick:∀ (i:Nat) (v:V),([.ref D,.ref D2]:List V)[i]?=some v->∃ (row:Addr) (as':List Addr) (sv':ZH),v=.ref row/\as'.length=xs.length/\sv'.length=xs.length/\Ui F0 sv'=Ui F0 sv/\(∀ z∈sv',z∈sv) /\
     ∀ H':Hp,H' D=some (.lst (as.map V.ref))->H' D2=some (.lst (as.map V.ref).reverse)->(∀ (i:Nat) (a:Addr) (t:List V),as[i]?=some a->(sv.map fun z=>(Stp.set z.1 z.2).vs)[i]?=some t->H' a=some (.tup t))->H' row=some (.lst (as'.map V.ref))/\∀ (j:Nat) (a:Addr) (z:Str×V),as'[j]?=some a->sv'[j]?=some z->H' a=some (.tup (Stp.set z.1 z.2).vs):=fun i v hv=>by
   match i,hv with
   | 0,hv=>cases hv;exact ⟨D,as,sv,rfl,hal,hsl,rfl,fun z h=>h,fun H' e1 _ im=>⟨e1,fun j a z e e'=>im j a _ e (by rw [getElem?_map,e'];rfl)⟩⟩
   | 1,hv =>
     cases hv
     refine ⟨D2,as.reverse,sv.reverse,rfl,by rw [length_reverse];exact hal,by rw [length_reverse];exact hsl,Zgx F0 hsn (by rw [List.map_reverse];exact (List.reverse_perm _).nodup_iff.mpr hsn) (fun p=>List.mem_reverse),fun z h=>List.mem_reverse.mp h,fun H' _ e2 im=>⟨by rw [List.map_reverse];exact e2,fun j a z e e'=>?_⟩⟩
     have hj:j < as.length:=by have:=(List.getElem?_eq_some_iff.mp e).1;rw [length_reverse] at this;exact this
     rw [List.getElem?_reverse hj] at e
     rw [List.getElem?_reverse (by omega)] at e'
     refine im _ a _ e ?_
     rw [getElem?_map,show as.length - 1 - j=sv.length - 1 - j by omega,e'];rfl
   | n+2,hv=>cases hv
 refine Wl (K:=K) (xs:=[.ref D,.ref D2]) (fun i σ H'=>∃ x8 x9 x10 pls' nds' tabs' es,σ=[some (.ref p),some (.ref r),some (.ref sl),some (.ref nl),some (.ref l2),some (.ref D),some (.ref en),some (.int (k0:Int)),x8,x9,x10]/\Sep ((en,ZD (es.map nV))::(lt,ZD [.ref D,.ref D2])::(D,ZD (as.map V.ref))::(D2,ZD (as.map V.ref).reverse)::(0,ImL as (sv.map fun z=>(Stp.set z.1 z.2).vs))::(p,Bx (n1+1))::(r,Xp K CR CS pls' nds' tabs')::(Pl,YV)::(sl,StopL pls')::(nl,ZD (xs.map V.str))::(l2,ZD U)::Δ) H'/\RInv xs pls' nds' tabs'/\(∀ q∈pls',q.st.ok xs)/\pls'.length<=pls.length+30 * i/\nds'.length<=nds.length+180 * i/\tabs'.length<=tabs.length+30 * i/\es.length=i/\(∀ e∈es,e<=pls'.length/\(envs pls')[e]?=some (Ui F0 sv))/\k0<=pls'.length/\(envs pls')[k0]?=some F0) ⟨_,_,_,pls,nds,tabs,[],rfl,S4,I,ok,by omega,by omega,by omega,rfl,(fun _ h=>nomatch h),hk0,hF0⟩ ?_ ?_ ?_
 · rintro i σ H' _ ⟨_,_,_,_,_,_,_,rfl,S',_⟩;exact SqL.of (S'.get lt)
 · rintro i v σ H' hv ⟨x8,x9,x10,pls',nds',tabs',es,rfl,S',I',ok',c1,c2,c3,hel,hes,hk',hF'⟩
   have hi2:i < 2:=(List.getElem?_eq_some_iff.mp hv).1
   obtain ⟨row,as',sv',rfl,ha',hs',hset,hsub,hrow⟩:=pick i v hv
   have look:∀ (PL:List ZO) (ND:List Nd) (TB:ZK) (H':Hp),Sep ((en,ZD (es.map nV))::(lt,ZD [.ref D,.ref D2])::(D,ZD (as.map V.ref))::(D2,ZD (as.map V.ref).reverse)::(0,ImL as (sv.map fun z=>(Stp.set z.1 z.2).vs))::(p,Bx (n1+1))::(r,Xp K CR CS PL ND TB)::(Pl,YV)::(sl,StopL PL)::(nl,ZD (xs.map V.str))::(l2,ZD U)::Δ) H'->H' row=some (.lst (as'.map V.ref))/\∀ (j:Nat) (a:Addr) (z:Str×V),as'[j]?=some a->sv'[j]?=some z->H' a=some (.tup (Stp.set z.1 z.2).vs):=fun PL ND TB H' S=>hrow H' (S.get D) (S.get D2) (S.get 0).2
   refine ⟨_,rfl,_,rfl,row,rfl,⟨_,SqL.of (look _ _ _ _ S').1⟩,?_⟩
   refine Wl (K:=K) (xs:=as'.map V.ref) (fun j σ H'=>∃ (x9:V) (x10:Option V) (PL:List ZO) (ND:List Nd) (TB:ZK) (k:Nat),σ=[some (.ref p),some (.ref r),some (.ref sl),some (.ref nl),some (.ref l2),some (.ref D),some (.ref en),some (.int (k0:Int)),some (.ref row),some x9,x10]/\x9=V.int (k:Int)/\Sep ((en,ZD (es.map nV))::(lt,ZD [.ref D,.ref D2])::(D,ZD (as.map V.ref))::(D2,ZD (as.map V.ref).reverse)::(0,ImL as (sv.map fun z=>(Stp.set z.1 z.2).vs))::(p,Bx (n1+1))::(r,Xp K CR CS PL ND TB)::(Pl,YV)::(sl,StopL PL)::(nl,ZD (xs.map V.str))::(l2,ZD U)::Δ) H'/\RInv xs PL ND TB/\(∀ q∈PL,q.st.ok xs)/\PL.length=pls'.length+j/\ND.length<=nds'.length+6 * j/\TB.length<=tabs'.length+j/\k<=PL.length/\(envs PL)[k]?=some (Ui F0 (sv'.take j))/\∀ e,e<=pls'.length->(envs PL)[e]?=(envs pls')[e]?) ⟨_,_,pls',nds',tabs',k0,rfl,rfl,S',I',ok',rfl,by omega,by omega,hk',hF',fun _ _=>rfl⟩ ?_ ?_ ?_
   · rintro j σ H2 _ ⟨_,_,PL,ND,TB,_,rfl,_,S2,_⟩;exact SqL.of (look _ _ _ _ S2).1
   · rintro j v σ H2 hv ⟨x9,x10,PL,ND,TB,k,rfl,rfl,S2,I2,ok2,g1,g2,g3,hk,hF,hold⟩
     rw [getElem?_map] at hv
     obtain ⟨a,ea,rfl⟩:=Option.map_eq_some_iff.mp hv
     have hj:j < xs.length:=by rw [<- ha'];exact (List.getElem?_eq_some_iff.mp ea).1
     obtain ⟨z,ez⟩:∃ z,sv'[j]?=some z:=⟨_,getElem?_eq_getElem (show j < sv'.length by omega)⟩
     have eta:=(look _ _ _ _ S2).2 j a _ ea ez
     have hzm:z∈sv:=hsub _ (mem_of_getElem? ez)
     have hzx:z.1∈xs:=by have:=List.mem_map_of_mem (f:=fun z:Str×V=>z.1) hzm;rw [hsv] at this;exact this
     have hsok:(Stp.set z.1 z.2).ok xs:=⟨hzx,hval _ hzm⟩
     refine ⟨_,rfl,_,rfl,_,rfl,_,rfl,xs,r,sl,a,PL,ND,TB,k,Stp.set z.1 z.2,_,rfl,N,((S2.pull sl).pull Pl).pull r,eta,I2,hsok,hk,by omega,by omega,by omega,fun H3 ND' TB' q' S3 I3 l1' l2' hqa hqs hq=>⟨_,rfl,ZP ?_⟩⟩
     have S3:=(((((((((S3.pull l2).pull nl).pull sl).pull Pl).pull r).pull p).pull 0).pull D2).pull D).pull lt |>.pull en
     obtain ⟨ys3,ey3,hyl3⟩:=S3.isl sl (inferInstance:IsLst (StopL (PL++[q'])) ((PL++[q']).length+1))
     have hPL:(PL++[q']).length=PL.length+1:=by rw [length_append];rfl
     have hqq:(PL++[q'])[PL.length]?=some q':=by rw [getElem?_append_right (Nat.le_refl _),Nat.sub_self];rfl
     have hnew:=Zhy I3.wf hqq (F:=Ui F0 (sv'.take j)) (by rw [hqa,ZeI hk];exact hF)
     refine ⟨_,rfl,sl,_,rfl,.inl (SqL.of ey3),_,_,rfl,rfl,?_⟩
     refine ⟨_,_,PL++[q'],ND',TB',PL.length+1,rfl,congrArg V.int (by rw [hyl3,hPL];omega),S3,I3,fun z hz=>?_,by omega,by omega,by omega,by omega,?_,fun e he=>?_⟩
     · rcases mem_append.mp hz with h | h
       · exact ok2 z h
       · rw [mem_singleton.mp h];exact hq
     · rw [hnew,hqs,take_succ,ez]
       show _=some (List.foldl _ _ _)
       rw [foldl_append];rfl
     · rw [ZeI (by omega)];exact hold e he
   · rintro σ H2 ⟨x9,x10,PL,ND,TB,k,rfl,rfl,S2,I2,ok2,g1,g2,g3,hk,hF,hold⟩
     rw [length_map,ha'] at g1 g2 g3 hF
     rw [take_of_length_le (by omega),hset] at hF
     have een:H2 en=some (.lst (es.map nV)):=S2.get en
     refine ⟨_,rfl,.inl ⟨rfl,_,SqL.of een⟩,_,rfl,en,_,_,rfl,rfl,een,YX (show _<=20000 by rw [length_map];omega),?_⟩
     refine ⟨_,_,_,PL,ND,TB,es++[k],rfl,?_,I2,ok2,by omega,by omega,by omega,by rw [length_append,hel];rfl,fun e he=>?_,by omega,by rw [hold k0 hk'];exact hF'⟩
     · rw [map_append];exact S2.put en _
     · rcases mem_append.mp he with h | h
       · obtain ⟨h1,h2⟩:=hes e h
         exact ⟨by omega,by rw [hold e h1];exact h2⟩
       · rw [mem_singleton.mp h];exact ⟨hk,hF⟩
 rintro σ H5 ⟨x8,x9,x10,pls',nds',tabs',es,rfl,S5,I5,ok5,c1,c2,c3,hel,hes,hk',hF'⟩
 simp only [length_cons,List.length_nil] at c1 c2 c3
 obtain ⟨e0,e1,rfl⟩:∃ e0 e1,es=[e0,e1]:=match es,hel with | [a,b],_=>⟨a,b,rfl⟩
 obtain ⟨h01,h02⟩:=hes e0 (by simp)
 obtain ⟨h11,h12⟩:=hes e1 (by simp)
 obtain ⟨st9,la9,ls9,lt9,lc9,T9⟩:=S5.get r
 obtain ⟨dx9,ob9⟩:=T9.get r
 have een:H5 en=some (.lst [nV e0,nV e1]):=S5.get en
 refine ⟨_,rfl,r,dx9,_,rfl,ob9,Wd (by decide +kernel),_,rfl,en,_,_,_,rfl,rfl,SqL.of een,Zw (j:=0) rfl,_,rfl,en,_,_,_,rfl,rfl,SqL.of een,Zw (j:=1) rfl,xs,r,pls',nds',tabs',e0,e1,_,_,_,rfl,N,by omega,S5.pull r,I5,h01,h11,h02,h12,fun fl ws H6 S6 hwn hws hwm=>?_⟩
 obtain rfl:ws=[]:=by
   cases ws with
   | nil=>rfl
   | cons x r=>exact absurd rfl ((hwm x).mp (mem_cons_self ..)).2
 refine ⟨(by show 0<=sizeLine;decide),fun le hle=>?_⟩
 have efl:H6 fl=some (.lst []):=S6.get fl
 refine ⟨.list [],.list [],.lst (Zx hle _ _ _ efl) .nil,.lst Zg .nil,rfl,rfl,(by decide),_,rfl,Yh ?_⟩
 have S7:=(S6.mono (Zx hle (.lst []))).drop fl
 have een7:upd H6 le (.lst []) en=some (.lst [nV e0,nV e1]):=S7.get en
 refine ⟨_,rfl,_,rfl,_,rfl,_,rfl,en,_,_,_,rfl,rfl,SqL.of een7,Zw (j:=1) rfl,xs,r,sl,pls',nds',tabs',k0,e1,_,rfl,N,hxl,hstr,(S7.pull sl).pull r,I5,ok5,hk',h11,by omega,fun H8 S8=>?_⟩
 exact q pls' nds' tabs' _ H8 ((((((((((S8.drop en).drop lt).drop D).drop D2).drop 0).pull l2).pull nl).pull sl).pull Pl).pull r |>.pull p) I5 ok5 (by omega)
end
theorem Zjg {P:Nat->Bool}{x:Str}(h:x.cps.toList.all P=true)(hP:∀ c,P c=true->c < 1114112):PyData.strOk x=true:=by
 show x.cps.all (fun c=>decide (c < 1114112))=true
 rw [<- Array.all_toList,all_eq_true]
 exact fun c hc=>decide_eq_true (hP c (all_eq_true.mp h c hc))
theorem ZmQ {NS:List Str}(h:∀ x∈NS,WH x):∀ x∈NS,PyData.strOk x=true:=fun x hx=>Zjg (h x hx).2.2 (fun c hc=>by unfold Vh at hc;simp at hc;omega)
section
variable {P:Program}{w:World}{K:KF}{mg:Str->Option Value}{base:Heap}{CR CS Pl:Addr}
def ZeU (Pl:Addr):Sp:=fun vs H Q _=>∃(p:Addr)(Δ:Rs),vs=[.ref p]/\Sep ((p,Bx 0)::(Pl,YV)::Δ) H/\∀ H',Sep ((Pl,YV)::Δ) H'->Q (.bl true) H'
abbrev nRi:List Str:=["_law_box_here","_law_names_here","_law_values_here","_law_roads","_law_stops","_law_turn","_law_one","_law_other"]
abbrev Zjo:List Str:=["_law_box_here"]
theorem scRi:Zp nRi Zjo (Zj s_l_right):=⟨rfl,rfl,rfl,by decide +kernel,rfl,by decide +kernel,by decide +kernel⟩
theorem Zjs {f:Addr}{fd:FuncData}(F:Fun K "_law_right" "_law_right" s_l_right f fd)(T:Yz mg)(TR:WK K CR)(DT:DTk P w K mg base 1)(DP:Def P w K mg base 18 "_law_pool" ZjB Zfl)(DVs:Def P w K mg base 18 "_law_values" Zjr Zdq)(DRd:Zfn P w K mg base 17 CR "Roads" ZfQ (ZeF K CR CS))(DFr:Def P w K mg base 18 "_law_from" Zjk ZhI)(DSt:Def P w K mg base 18 "_law_step" ZjS Zhr)(DGr:Def P w K mg base 18 "_law_grown" Zgp (ZbC K CR CS Pl))
 (DTR:Def P w K mg base 18 "_law_two_right" ZcS (Zgc K CR CS)) (DAp:Def P w K mg base 18 "_law_apart_right" ZjL (spAp K CR CS Pl)):FnOk P w K mg base ZL 19 f fd Zjo (ZeU Pl):=by
 refine F.ok scRi (fun vs H Q E h=>?_) (fun cdv A outer s H vs Q E hr h=>?_)
 ·obtain ⟨p,Δ,rfl,_⟩:=h;rfl
 obtain ⟨p,Δ,rfl,S,q⟩:=h
 have hr1:=hr.mono (show 1<=18 by decide)
 refine' ⟨?t,?h,?r⟩
 case h =>
  conv=>arg 2;whnf
  with_reducible refine' (Zc ?h1 (Zc ?h2 (Zc ?h3 (Zc (Xi ?h4 ?h5 ?h6 ?h7 (Zc (Yk ?h8 (Zh ?h9) ZW) (Zc ?h10 (Zh (Yk ?h11 (Zh ?h12) ZW)))) ?h13) (Zh ?h14)))))
  case h1=>exact Vx (i:=1) (j:=2) rfl scRi.nd rfl rfl (by decide) rfl rfl (Zb (Zu DP hr (Zb (pv 0) (Zb (Zr YL Ze (Zu DT hr1 (Zb (pv 0) (Zb Ze Za)))) Za))) (Zb (Zu DVs hr (Zb (pv 0) Za)) Za)) rfl
  case h2=>exact Zt (i:=2) scRi.nd rfl (Or.inl rfl) (Zr ZaX (pv 2) (Yd (Zb (Zq ZA (pv 1) Ze (fun _ _=>rfl)) (Zb (Zq ZA (pv 1) (Zfm ZdS Ze) (fun _ _=>rfl)) (Zb ZS (Zb ZS Za))))))
  case h3=>exact Vx (i:=3) (j:=4) rfl scRi.nd rfl rfl (by decide) rfl rfl (Zb (Zke DRd hr) (Zb (Yd (Zb (YU (Zb VP (Zb VP Za))) Za)) Za)) rfl
  case h4=>exact PassesOwn.never
  case h5=>exact rfl
  case h6=>exact Xo rfl T.range (Zb (Zu DT hr1 (Zb (pv 0) (Zb Ze Za))) Za)
  case h7=>exact ZN (i:=5) scRi.nd rfl (Or.inl rfl)
  case h8=>exact XQ (XR (Zu DGr hr (Zb (pv 3) (Zb (pv 4) (Zb (Zu DFr hr (Zb (pv 0) (Zb (pv 4) Za))) (Zb (Zu DSt hr (Zb (pv 0) (Zb (pv 1) (Zb (pv 2) Za)))) Za))))))
  case h9=>exact Zm Vc
  case h10=>exact Vx (i:=6) (j:=7) rfl scRi.nd rfl rfl (by decide) rfl rfl (Zb (Zu DT hr1 (Zb (pv 0) (Zb (Zv ZG rfl T.len PySem.boot_len (Zb (pv 4) Za)) Za))) (Zb (Zu DT hr1 (Zb (pv 0) (Zb (Zv ZG rfl T.len PySem.boot_len (Zb (pv 4) Za)) Za))) Za)) rfl
  case h11=>exact PW.pt (Zic (ZX YA (Zr Xx (pv 5) Ze) Ze (ZM _)) (ZeL (XQ (XR (Zu DTR hr (Zb (pv 3) (Zb (pv 4) (Zb (pv 6) (Zb (pv 7) Za)))))))))
  case h12=>exact Zm Vc
  case h13=>exact fun _=>rfl
  case h14=>exact Zm (WG (Zu DAp hr (Zb (pv 0) (Zb (pv 3) (Zb (pv 4) (Zb (pv 1) (Zb (pv 2) Za)))))) (UJ (Zu DTR hr (Zb (pv 3) (Zb (pv 4) (Zb Ze (Zb (Zr YE (Zv ZG rfl T.len PySem.boot_len (Zb (pv 4) Za)) Ze) Za)))))))
 refine ⟨_,rfl,_,rfl,p,0,14,_,rfl,S,by decide,by decide,by decide,fun r1 H1 a0 a1 S1=>⟨_,_,rfl,rfl,p,_,_,_,rfl,S1,by omega,by omega,by omega,fun nl H2 xs S2 hx1 hx2 hnd hnm _=>?_⟩⟩
 refine ⟨_,rfl,p,_,_,rfl,S2.pull p,by omega,fun vl H3 us S3 hul huv=>⟨_,_,rfl,?_⟩⟩
 have hxn:xs≠[]:=length_pos_iff.mp (by omega)
 have N:Yf xs:=Znw (by omega) hnm
 obtain ⟨z0,hz0,at0⟩:=Zhc (f:=V.str) (xs:=xs) (r:=0) (by decide) (by omega)
 obtain ⟨v9,hv9,at9⟩:=ZmE (xs:=xs.map V.str) (fun z=>hxn (List.map_eq_nil_iff.mp z))
 obtain ⟨z9,hz9,rfl⟩:=mem_map.mp hv9
 refine ⟨_,rfl,_,rfl,nl,_,_,_,rfl,rfl,SqL.of (S3.get nl),at0,_,rfl,_,rfl,nl,_,_,_,rfl,rfl,SqL.of (S3.get nl),at9,(by show 4<=sizeLine;decide),fun l1 hl1=>?_⟩
 generalize hE:upd H3 l1 _=H4
 have S4:=S3.newE hl1 hE
 clear hE
 refine ⟨vl,l1,_,_,rfl,rfl,S4.get vl,S4.get l1,Yv (show us.length+4<=1000 by omega),fun l2 hl2=>?_⟩
 generalize hE:upd H4 l2 _=H5
 have S5:=(((S4.newE hl2 hE).drop l1).drop vl)
 clear hE
 have hUv:∀ u∈us++[V.str z0,V.str z9,V.str "set",V.str "clear"],Xa u:=fun u hu=>by
  rcases mem_append.mp hu with y | y
  ·exact huv u y
  ·rcases mem_cons.mp y with rfl | y
   ·exact Zeq (hnm _ hz0)
   rcases mem_cons.mp y with rfl | y
   ·exact Zeq (hnm _ hz9)
   ·have all:([.str "set",.str "clear"]:List V).all ZaV=true:=by decide +kernel
    exact UZ (all_eq_true.mp all u y)
 have hUl:(us++[V.str z0,V.str z9,V.str "set",V.str "clear"]).length=9:=by rw [length_append,hul];rfl
 generalize hU:us++[V.str z0,V.str z9,V.str "set",V.str "clear"]=U at *
 intro r dx hrr hdx hne
 refine ⟨r,dx,_,_,rfl,rfl,hrr,hdx,hne,S5,fun H6 S6=>⟨rfl,(by show 2<=sizeLine;decide),fun t0 ht0=>⟨(by show 1<=sizeLine;decide),fun sl hsl=>⟨_,_,rfl,?_⟩⟩⟩⟩
 generalize hE:upd (upd H6 t0 _) sl _=H7
 have S7:=(S6.new ht0 _).newE hsl hE
 clear hE
 have S8:=((Zci S7 (S7.get t0) rfl).say sl (StopL []) fun h ⟨z1,z2⟩=>⟨[t0],z1,rfl,fun a e=>by cases (show some t0=some a from e);exact z2,fun i a q e1 e2=>by simp at e2⟩).drop t0
 refine ⟨_,rfl,p,_,61,_,rfl,S8.pull p,by decide,by decide,by decide,fun m H9 m0 m1 S9=>⟨m,rfl,by omega,by omega,?_⟩⟩
 have hxl:xs.length<=30:=by omega
 have hstr:=ZmQ hnm
 refine Ux (fun i σ H'=>∃ x5 x6 x7 pls nds tabs n,σ=[some (.ref p),some (.ref nl),some (.ref l2),some (.ref r),some (.ref sl),x5,x6,x7]/\Sep ((p,Bx n)::(r,Xp K CR CS pls nds tabs)::(Pl,YV)::(sl,StopL pls)::(nl,ZD (xs.map V.str))::(l2,ZD U)::Δ) H'/\RInv xs pls nds tabs/\ZdY xs pls/\pls.length=i/\nds.length<=1+6 * i/\tabs.length<=1+i/\n<=1000+10 * i)
  ⟨_,_,_,[],_,_,_,rfl,(((((S9.pull l2).pull nl).pull sl).pull Pl).pull r).pull p,Znx,(fun _ h=>nomatch h),rfl,by decide,by decide,by decide⟩ ?_ ?_
 ·rintro i σ H10 hi ⟨x5,x6,x7,pls,nds,tabs,n,rfl,S10,I,hok,hpl,hnd',htb,hn⟩
  have hUn:U≠[]:=length_pos_iff.mp (by omega)
  refine ⟨_,rfl,_,rfl,_,rfl,_,rfl,p,sl,n,pls.length+1,StopL pls,_,rfl,(S10.pull sl).pull p,inferInstance,by omega,by omega,by omega,fun kk H11 hkk S11=>?_⟩
  refine ⟨_,rfl,_,rfl,_,rfl,p,nl,l2,_,xs,U,_,rfl,((S11.pull l2).pull nl).pull p,hxn,hUn,by omega,by omega,hUv,by omega,fun t H12 s hs S12=>?_⟩
  refine ⟨xs,r,sl,t,pls,nds,tabs,kk,s,_,rfl,N,((S12.pull sl).pull Pl).pull r,S12.get t,I,hs,by omega,by omega,by omega,by omega,fun H13 nds' tabs' q' S13 I13 l1' l2' _ _ hq=>⟨_,rfl,ZP ?_⟩⟩
  have S14:=((((((S13.drop t).pull l2).pull nl).pull sl).pull Pl).pull r).pull p
  have hok':=Zfq hok hq
  have hpl':(pls++[q']).length=i+1:=by rw [length_append,hpl];rfl
  obtain ⟨ys,ey,hyl⟩:=S14.isl sl (inferInstance:IsLst (StopL (pls++[q'])) ((pls++[q']).length+1))
  refine ⟨_,rfl,_,rfl,sl,_,rfl,.inl (SqL.of ey),p,_,_,_,rfl,S14,by omega,by omega,by omega,fun k1 H15 b0 b1 S15=>?_⟩
  obtain ⟨ys2,ey2,hyl2⟩:=S15.isl sl (inferInstance:IsLst (StopL (pls++[q'])) ((pls++[q']).length+1))
  refine ⟨_,rfl,_,rfl,sl,_,rfl,.inl (SqL.of ey2),p,_,_,_,rfl,S15,by omega,by omega,by omega,fun k2 H16 d0 d1 S16=>?_⟩
  obtain ⟨kn,rfl⟩:∃ kn:Nat,k1=(kn:Int):=⟨k1.toNat,by omega⟩
  obtain ⟨km,rfl⟩:∃ km:Nat,k2=(km:Int):=⟨k2.toNat,by omega⟩
  refine ⟨_,_,rfl,?_⟩
  refine ⟨_,rfl,_,_,rfl,rfl,(by show (0:Int) < 3;decide),rfl,_,rfl,Xf (fun c=>?_) (fun c=>?_)⟩
  ·refine ⟨_,rfl,_,rfl,_,rfl,_,rfl,xs,r,sl,pls++[q'],nds',tabs',kn,km,_,rfl,N,hxl,hstr,(S16.pull sl).pull r,I13,hok',by omega,by omega,by omega,fun H17 S17=>⟨_,rfl,ZP ?_⟩⟩
   exact ⟨_,_,_,pls++[q'],nds',tabs',_,rfl,(((((S17.pull l2).pull nl).pull sl).pull Pl).pull r).pull p,I13,hok',hpl',by omega,by omega,by omega⟩
  ·exact ZP ⟨_,_,_,pls++[q'],nds',tabs',_,rfl,(((((S16.pull l2).pull nl).pull sl).pull Pl).pull r).pull p,I13,hok',hpl',by omega,by omega,by omega⟩
 ·rintro σ H10 ⟨x5,x6,x7,pls,nds,tabs,n,rfl,S10,I,hok,hpl,hnd',htb,hn⟩
  have hUn:U≠[]:=length_pos_iff.mp (by omega)
  refine ⟨_,rfl,_,rfl,_,rfl,_,rfl,_,rfl,xs,U,p,r,sl,nl,l2,pls,nds,tabs,n,_,rfl,N,hnd,hxl,hstr,S10,I,hok,by omega,by omega,by omega,by omega,hUn,by omega,hUv,fun pls' nds' tabs' n' H11 S11 I11 ok11 hpl11=>⟨_,rfl,Yh ?_⟩⟩
  obtain ⟨ys,ey,hyl⟩:=S11.isl sl (inferInstance:IsLst (StopL pls') (pls'.length+1))
  have el:((ys.length:Nat):Int) - 1=(pls'.length:Int):=by omega
  refine ⟨_,rfl,_,rfl,_,rfl,sl,_,rfl,.inl (SqL.of ey),_,_,rfl,rfl,xs,r,sl,pls',nds',tabs',0,pls'.length,_,(by show [V.ref r,V.ref sl,V.int 0,V.int (((ys.length:Nat):Int) - 1)]=_;rw [el];rfl),N,hxl,hstr,(S11.pull sl).pull r,I11,ok11,Nat.zero_le _,Nat.le_refl _,hpl11,fun H12 S12=>?_⟩
  exact q H12 (((((S12.drop p).drop r).drop sl).drop nl).drop l2)
end
def ScR (K:KF)(ns:List Int):YH:=fun a h=>SqL K h a (ns.map V.int)
theorem ZnQ {K:KF}{H H':Hp}{a:Addr}{xs:List V}(h:SqL K H a xs)(s:Same H H'):SqL K H' a xs:=by
 rcases h with (h | ⟨o,h⟩) | h
 ·exact .inl (.inl (s _ _ h))
 ·exact .inl (.inr ⟨o,s _ _ h⟩)
 ·exact .inr h
instance {K:KF} {ns:List Int}:Up (ScR K ns):=⟨fun h s=>ZnQ h s⟩
theorem Zhn {K:KF}{H:Hp}{a Pl:Addr}{ns:List Int}(hS:SqL K H a (ns.map V.int))(hL:LamAt H Pl YM XG):Sep [(Pl,YV),(a,ScR K ns)] H:=by
 obtain ⟨tb,etb⟩:=hL.tbl
 refine ⟨some_of H [Pl],WP,?_,Uu H (some_of H [Pl]),fun b o e=>e,?_,trivial⟩
 ·have ePl:some_of H [Pl] Pl=H Pl:=XW (by simp)
  rcases hL with z | ⟨c,z1,z2⟩
  ·exact .inl (by rw [ePl];exact z)
  ·exact .inr ⟨c,by rw [ePl];exact z1,UO z2 rfl⟩
 ·rcases hS.obj with z | ⟨o,e,nt,z⟩
  ·exact z _
  ·refine z _ (cut_some.mpr ⟨e,fun u y=>?_⟩)
   cases m:YB u with
   | false=>rfl
   | true =>
    have:=Wk y m
    rw [mem_singleton.mp this,etb] at e
    cases e
    exact absurd rfl (nt _)
section
variable {P:Program}{w:World}{K:KF}{mg:Str->Option Value}{base:Heap}{CR CS Pl:Addr}
def ZcL (K:KF)(Pl:Addr):Sp:=fun vs H Q _=>∃(a:Addr)(ns:List Int),vs=[.ref a]/\SqL K H a (ns.map V.int)/\ns.length<=63/\LamAt H Pl YM XG/\∀ H',Q (.bl true) H'
abbrev nLw:List Str:=["_law_script"]
abbrev pnLw:List Str:=["_law_script"]
theorem scLw:Zp nLw pnLw (Zj s_law):=⟨rfl,rfl,rfl,by decide +kernel,rfl,by decide +kernel,by decide +kernel⟩
theorem Zmb {f:Addr}{fd:FuncData}(F:Fun K "law" "law" s_law f fd)(T:Yz mg)(DB:Def P w K mg base 19 "_law_box" ["_law_script","_law_k"] (ZdR K))(DRi:Def P w K mg base 19 "_law_right" Zjo (ZeU Pl)):FnOk P w K mg base ZL 20 f fd pnLw (ZcL K Pl):=by
 refine F.ok scLw (fun vs H Q E h=>?_) (fun cdv A outer s H vs Q E hr h=>?_)
 ·obtain ⟨a,ns,rfl,_⟩:=h;rfl
 obtain ⟨a,ns,rfl,hS,h63,hL,q⟩:=h
 have S:=Zhn hS hL
 refine' ⟨?t,?h,?r⟩
 case h =>
  conv=>arg 2;whnf
  with_reducible refine' (Zh ?h1)
  case h1=>exact Zm (Zv (Zjw rfl) rfl T.all (by decide +kernel) (Zb (UN (CompOk.of nLw s_law rfl rfl (by decide +kernel)) rfl (Xo rfl T.range (Zb (Zr YL Ze (Zv (ZgX rfl) rfl T.min (by decide +kernel) (Zb Ze (Zb (Zv ZG rfl T.len PySem.boot_len (Zb (pv 0) Za)) Za)))) Za))  (fun _ _ _ _ _=>Zu DRi hr (Zb (Zu DB hr (Zb (pv 0) (Zb (pv 1) Za))) Za))) Za))
 refine ⟨_,rfl,a,_,rfl,.inl hS,_,_,rfl,_,_,rfl,rfl,?_⟩
 rw [length_map]
 generalize hm:(1:Int)+(if ((ns.length:Nat):Int) < 3 then ((ns.length:Nat):Int) else 3)=m
 have hm9:0<=m/\m<=9:=by rw [<- hm];split<;>omega
 refine ⟨m,congrArg (fun z=>[V.int z]) hm,by omega,by omega,fun D hD=>?_⟩
 refine Uy (by exact Nat.le_trans (show _<=1000 by omega) (by decide)) S hD (fun i ys' Δ'=>ys'=(List.replicate i true).map V.bl/\Δ'=[(Pl,YV),(a,ScR K ns)]) ⟨rfl,rfl⟩ ?_ ?_
 ·rintro i ys2 Δ' H' hi hl ⟨rfl,rfl⟩ S'
  refine ⟨_,rfl,_,rfl,a,ns,_,_,rfl,S'.get a,S',by omega,by omega,fun p H1 s1 S1=>?_⟩
  refine ⟨p,_,rfl,(S1.pull Pl).pull p,fun H2 S2=>⟨_,⟨?_,rfl⟩,(S2.pull D)⟩⟩
  rw [List.replicate_succ',map_append];rfl
 ·rintro ys2 Δ' H2 ⟨rfl,rfl⟩ hl S2
  refine ⟨D,_,rfl,SqL.of (S2.get D),?_⟩
  rw [show ∀ k,(List.replicate k true).all id=true from fun k=>by simp]
  exact q H2
end
abbrev Zkt (P:Program)(w:World)(K:KF)(mg:Str->Option Value)(base:Heap):Prop:=Def P w K mg base 1 "_law_take" ["_law_box_here","_law_many"] (Zbe 4611686018427387904)
section
variable {P:Program}{w:World}{K:KF}{mg:Str->Option Value}{base:Heap}
abbrev vSigns:Str:=Zkh (XX s_l_value)
theorem vs_len:vSigns.length=94:=by decide +kernel
theorem Zmo:vSigns.cps.toList.all sgn=true:=by decide +kernel
abbrev nVv:List Str:=["_law_box_here","_law_way","_law_signs"]
theorem scVal:Zp nVv ["_law_box_here"] (Zj s_l_value):=⟨rfl,rfl,rfl,by decide +kernel,rfl,by decide +kernel,by decide +kernel⟩
theorem Zjh {f:Addr}{fd:FuncData}(F:Fun K "_law_value" "_law_value" s_l_value f fd)(T:Txt K mg)(D:Zkt P w K mg base):FnOk P w K mg base ZL 2 f fd ["_law_box_here"] ZeK:=by
 refine F.ok scVal (fun vs H Q E h=>?_) (fun cdv A outer s H vs Q E hr h=>?_)
 · obtain ⟨p,n,rfl,_⟩:=h;rfl
 obtain ⟨p,n,rfl,hB,hn,q⟩:=h
 refine ⟨_,Zc (Zt (i:=1) scVal.nd rfl (Or.inl rfl) (Zu D hr (Zb (pv 0) (Zb Ze Za))))
   (Zc (Yk (ZX Zac (pv 1) Ze (ZM _)) (Zh (Zm (Zr YE (Zu D hr (Zb (pv 0) (Zb Ze Za))) Ze))) ZW)
   (Zc (Yk (ZX YA (pv 1) Ze (ZM _)) (Zh (Zm (Zq ZA (Yd (Vp (Zr YE (Zr Zbd Ze Ze) Ze) (Vp (Zr YE Ze (Zr Zbd Ze Ze)) (Vp (Zr Zbd Ze Ze) (Vp Ze Za rfl) rfl) rfl) rfl)) (Zu D hr (Zb (pv 0) (Zb Ze Za))) (fun _ _=>rfl)))) ZW)
   (Zc (Yk (ZX YA (pv 1) Ze (ZM _)) (Zh (Zm (Zq ZA (Yd (Vp ZS (Vp ZS (Vp ZS (Vp ZS (Vp ZS (Vp ZS (Vp ZS (Vp ZS Za rfl) rfl) rfl) rfl) rfl) rfl) rfl) rfl)) (Zu D hr (Zb (pv 0) (Zb Ze Za))) (fun _ _=>rfl)))) ZW)
   (Zc (Zt (i:=2) scVal.nd rfl (Or.inr rfl) ZS)
   (Zh (Zm (YO PySem.F.plainAttrs_str PySem.F.slot_str_join PySem.F.type_str_join Zez ZS (Zb (UN (CompOk.of nVv s_l_value rfl rfl (by decide +kernel)) rfl
     (Xo rfl T.range (Zb (Zu D hr (Zb (pv 0) (Zb (WX (ZX YA (pv 1) Ze (ZM _)) Ze Ze) Za))) Za))
     (fun _ _ _ _ _=>Zq WA (pv 2) (Zu D hr (Zb (pv 0) (Zb (Zv (Zcj (K:=K) rfl) rfl T.len PySem.boot_len (Zb (pv 2) Za)) Za))) (fun _ _=>rfl))) Za)))))))),?_⟩
 refine ⟨_,rfl,p,n,6,rfl,hB,by omega,by decide,by decide,fun r1 H1 a0 a1 B1 k1=>?_⟩
 refine ⟨_,rfl,_,_,rfl,rfl,_,rfl,Xf (fun c=>?_) (fun c=>?_)⟩
 · refine ⟨_,rfl,p,n+1,7,rfl,B1,by omega,by decide,by decide,fun r2 H2 b0 b1 B2 k2=>⟨_,_,rfl,rfl,?_⟩⟩
   exact q _ _ (by show (r2 - 3).natAbs<=10 ^ 31;omega) (B2.le (by omega)) (k1.trans k2)
 refine ⟨_,rfl,rfl,_,rfl,Xf (fun c2=>?_) (fun c2=>?_)⟩
 · refine ⟨_,_,rfl,rfl,⟨by decide,by decide,by decide⟩,_,_,rfl,rfl,_,_,rfl,rfl,⟨by decide,by decide,by decide⟩,_,_,rfl,rfl,_,_,rfl,rfl,⟨by decide,by decide,by decide⟩,(by show 4<=sizeLine;decide),fun l hl=>?_⟩
   have hne:l≠p:=fun e=>by obtain ⟨_,_,_,z,_⟩:=B1;rw [e,z] at hl;cases hl
   refine ⟨_,rfl,p,n+1,4,rfl,B1.same (Zx hl _),by omega,by decide,by decide,fun r2 H2 b0 b1 B2 k2=>?_⟩
   obtain ⟨v,hv,hm⟩:=Zcc (xs:=([.int (10 ^ (30:Int).toNat - 1),.int (1 - 10 ^ (30:Int).toNat),.int (10 ^ (29:Int).toNat),.int 0]:List V)) b0 b1
   refine ⟨l,_,_,v,rfl,rfl,SqL.of (k2 l _ hne Zg),hv,q _ _ ?_ (B2.le (by omega)) (k1.trans ((Zx hl _).kp p |>.trans k2))⟩
   have all:(([.int (10 ^ (30:Int).toNat - 1),.int (1 - 10 ^ (30:Int).toNat),.int (10 ^ (29:Int).toNat),.int 0]:List V)).all ZaV=true:=by decide +kernel
   exact UZ (all_eq_true.mp all v hm)
 refine ⟨_,rfl,rfl,_,rfl,Xf (fun c3=>?_) (fun c3=>?_)⟩
 · refine ⟨(by show 8<=sizeLine;decide),fun l hl=>?_⟩
   have hne:l≠p:=fun e=>by obtain ⟨_,_,_,z,_⟩:=B1;rw [e,z] at hl;cases hl
   refine ⟨_,rfl,p,n+1,8,rfl,B1.same (Zx hl _),by omega,by decide,by decide,fun r2 H2 b0 b1 B2 k2=>?_⟩
   obtain ⟨v,hv,hm⟩:=Zcc (xs:=([.str "",.str "0",.str "-1",.str "a",.str "none",.str "'",.str "\\", .str " "]:List V)) b0 b1
   refine ⟨l,_,_,v,rfl,rfl,SqL.of (k2 l _ hne Zg),hv,q _ _ ?_ (B2.le (by omega)) (k1.trans ((Zx hl _).kp p |>.trans k2))⟩
   have all:(([.str "",.str "0",.str "-1",.str "a",.str "none",.str "'",.str "\\", .str " "]:List V)).all ZaV=true:=by decide +kernel
   exact UZ (all_eq_true.mp all v hm)
 refine ⟨rfl,?_⟩
 have fin:∀ (r2:Int) (H2:Hp),0<=r2->r2 < 41->BoxAt H2 p (n+2)->Kp p H1 H2->∃ j:Int,[V.int r2]=[.int j]/\-(2 ^ 62)<=j/\j < 2 ^ 62/\∀ D,H2 D=none->Vj (Itr 0 j.toNat)
     (tOp rIxS (Zdx 2) (Zgb (Zbe 4611686018427387904) [] E0 (XF (Zdx 0) (XF (tCB (fun xs H Q=>∃ x n,xs=[x]/\Ziw K x H n/\Q (.int n) H) (XF (Zdx 2) Wt)) Wt))))
     [some (.ref p),some (.int r1),some (.str vSigns)] D (fun x H3=>∃ sep a ys,V.str ""=.str sep/\[x]=[.ref a]/\SqL K H3 a (ys.map V.str)/\(ys.map (·.length)).sum+ys.length * sep.length<=16777216/\Q (.str (Txt.join sep ys)) H3) H2:=by
   intro r2 H2 b0 b1 B2 k2
   refine ⟨r2,rfl,by omega,by omega,fun Dl hD=>?_⟩
   have hne:Dl≠p:=fun e=>by obtain ⟨_,_,_,z,_⟩:=B2;rw [e,z] at hD;cases hD
   refine Zfu (Nat.le_trans (show r2.toNat<=1000 by omega) (ZbY (Nat.le_refl _)))
     (fun i ys H'=>∃ zs:List Str,ys=zs.map V.str/\zs.length=i/\(∀ z∈zs,∃ c,z=⟨#[c]⟩/\sgn c=true)/\H' Dl=some (.lst ys)/\BoxAt H' p (n+2+i)/\Kp p H1 H'/\i<=r2.toNat)
     ⟨[],rfl,rfl,(fun _ h=>nomatch h),Zg,B2.same (Zx hD _),k2.trans ((Zx hD _).kp p),Nat.zero_le _⟩ ?_ ?_ ?_
   · rintro i ys H' ⟨zs,rfl,hz,_⟩;rw [length_map];exact hz
   · rintro i ys H' hi ⟨zs,rfl,hz,hall,hDl,B',k',_⟩
     refine ⟨_,rfl,_,rfl,_,rfl,_,94,rfl,⟨by rw [vs_len];decide,vs_len.symm⟩,p,n+2+i,94,rfl,B',by omega,by decide,by decide,fun r3 H3 d0 d1 B3 k3=>?_⟩
     have hl:vSigns.cps.toList.length=94:=by rw [<- Yn];exact vs_len
     obtain ⟨c,hc,hm⟩:=Zcc (xs:=vSigns.cps.toList) d0 (by rw [hl];exact d1)
     refine ⟨vSigns,r3,c,rfl,rfl,(by rw [vs_len];decide),hc,k3 Dl _ hne hDl,zs++[⟨#[c]⟩],by rw [map_append];rfl,by rw [length_append,hz];rfl,?_,Zg,?_,fun b o nb e=>?_,hi⟩
     · intro z hz'
       rcases mem_append.mp hz' with h | h
       · exact hall z h
       · rw [mem_singleton.mp h];exact ⟨c,rfl,all_eq_true.mp Zmo c hm⟩
     · obtain ⟨x1,x2,x3,x4,x5⟩:=B3
       exact ⟨x1,x2,x3,by rw [Zi hne.symm];exact x4,x5⟩
     · rw [Zi (Zs (k2 b o nb e) hD)];exact k3 b o nb (k' b o nb e)
   · rintro ys H' ⟨zs,rfl,hz,hall,hDl,B',k',_⟩
     have ones:∀ l:List Str,(∀ z∈l,∃ c,z=⟨#[c]⟩/\sgn c=true)->(l.map (·.length)).sum=l.length/\(l.flatMap (·.cps.toList)).length=l.length/\(l.flatMap (·.cps.toList)).all sgn=true:=by
       intro l
       induction l with
       | nil=>intro _;exact ⟨rfl,rfl,rfl⟩
       | cons z r ih =>
         intro h
         obtain ⟨c,rfl,hc⟩:=h z mem_cons_self
         obtain ⟨g1,g2,g3⟩:=ih fun y hy=>h y (mem_cons_of_mem _ hy)
         refine ⟨?_,?_,?_⟩
         · rw [map_cons,List.sum_cons,g1,length_cons];show 1+_=_;omega
         · have e0:((⟨#[c]⟩:Str)::r).flatMap (·.cps.toList)=c::r.flatMap (·.cps.toList):=rfl
           rw [e0,length_cons,length_cons,g2]
         · rw [List.flatMap_cons,List.all_append,g3];simp [hc]
     obtain ⟨g1,g2,g3⟩:=ones zs hall
     refine ⟨_,Dl,zs,rfl,rfl,SqL.of hDl,?_,q _ _ ⟨?_,?_⟩ (B'.le (by omega)) (k1.trans k')⟩
     · rw [g1];show _+_ * 0<=_;omega
     · rw [Yn];show (Txt.join (Str.ofString "") zs).cps.toList.length<=41;rw [WO,g2];omega
     · show (Txt.join (Str.ofString "") zs).cps.toList.all sgn=true;rw [WO];exact g3
 refine ⟨_,rfl,_,rfl,rfl,_,rfl,Xf (fun c4=>?_) (fun c4=>?_)⟩
 · exact ⟨p,n+1,4,rfl,B1,by omega,by decide,by decide,fun r2 H2 b0 b1 B2 k2=>fin r2 H2 b0 (by omega) B2 k2⟩
 · exact ⟨p,n+1,41,rfl,B1,by omega,by decide,by decide,fun r2 H2 b0 b1 B2 k2=>fin r2 H2 b0 (by omega) B2 k2⟩
end
end K22
namespace L2
open PySem
structure FG (K:KF)(x:Str)(st:Stmt)(f:Addr)(fd:FuncData):Prop where
 a:PySem.W.nsIn K mainGlobals x=some (some (.ref f))
 F:Fun K x x st f fd
structure FM (K:KF)(C:Addr)(x q:Str)(st:Stmt)(f:Addr)(fd:FuncData):Prop where
 m:VE K C x f
 F:Fun K x q st f fd
structure FGC (K:KF)(x:Str)(st:Stmt)(f:Addr)(fd:FuncData)(c Pl:Addr):Prop where
 a:PySem.W.nsIn K mainGlobals x=some (some (.ref f))
 F:FunC K x x st f fd c Pl
structure CH (K:KF)(x:Str)(C:Addr):Prop where
 a:PySem.W.nsIn K mainGlobals x=some (some (.ref C))
 c:Cls K C
 ms:PySem.W.makesIn K C=true
 kp:PySem.W.keepIn K (.ref C)=true
structure Bs (P:Program)(w:World)(K:KF)(mg:Str->Option Value)(base h:Heap):Prop where
 X:K.In h
 G:h.Ns mainGlobals mg
section
variable {P:Program}{w:World}{K:KF}{mg:Str->Option Value}{base h:Heap}{x q:Str}{st:Stmt}{f c Pl C:Addr}{fd:FuncData}{k:Nat}{ps:List Str}{sp:Sp}{p1 p2 p3 p4 p5:Str}
theorem FG.df (g:FG K x st f fd)(e:Bs P w K mg base h)(o:FnOk P w K mg base ZL k f fd ps sp)(b:Binds K fd ps []):Def P w K mg base k x ps sp:=⟨f,fd,o,b,g.F.kp,PySem.W.mg_of e.X e.G g.a⟩
theorem FGC.df (g:FGC K x st f fd c Pl)(e:Bs P w K mg base h)(o:FnOk P w K mg base ZL k f fd ps sp)(b:Binds K fd ps []):Def P w K mg base k x ps sp:=⟨f,fd,o,b,g.F.kp,PySem.W.mg_of e.X e.G g.a⟩
theorem FM.df (g:FM K C x q st f fd)(_:Bs P w K mg base h)(o:FnOk P w K mg base ZL k f fd ps sp)(b:Binds K fd ps []):DefM P w K mg base k C x ps sp:=⟨f,fd,o,b,g.m⟩
theorem FM.di {y:Str}(g:FM K C "__init__" q st f fd)(ch:CH K y C)(e:Bs P w K mg base h)(o:FnOk P w K mg base ZL k f fd ps sp)(b:Binds K fd ps []):Zfn P w K mg base k C y ps sp:=⟨f,fd,o,b,⟨ch.ms,g.m.at_,g.m.fn,ch.kp⟩,PySem.W.mg_of e.X e.G ch.a⟩
abbrev BA (x q:Str)(st:Stmt)(us:List Value)(r:List (Str×Value)):Prop:=∀(kV doc pm:Value)(an:Option Addr)(cdv ct:Value),bindArgs (PySem.W.fnOf x q (VW st) (XX st) (Zj st) .none kV doc pm an cdv ct) ⟨us,[]⟩=pure r
theorem Fun.b1 (F:Fun K x q st f fd)(h:∀ u,BA x q st [u] [(p1,u)]):Binds K fd [p1] []:=F.binds fun a b c d e g us hl=>match us,hl with | [u],_=>h u a b c d e g
theorem Fun.b2 (F:Fun K x q st f fd)(h:∀ u v,BA x q st [u,v] [(p1,u),(p2,v)]):Binds K fd [p1,p2] []:=F.binds fun a b c d e g us hl=>match us,hl with | [u,v],_=>h u v a b c d e g
theorem Fun.b3 (F:Fun K x q st f fd)(h:∀ u v y,BA x q st [u,v,y] [(p1,u),(p2,v),(p3,y)]):Binds K fd [p1,p2,p3] []:=F.binds fun a b c d e g us hl=>match us,hl with | [u,v,y],_=>h u v y a b c d e g
theorem Fun.b4 (F:Fun K x q st f fd)(h:∀ u v y z,BA x q st [u,v,y,z] [(p1,u),(p2,v),(p3,y),(p4,z)]):Binds K fd [p1,p2,p3,p4] []:=F.binds fun a b c d e g us hl=>match us,hl with | [u,v,y,z],_=>h u v y z a b c d e g
theorem Fun.b5 (F:Fun K x q st f fd)(h:∀ u v y z z',BA x q st [u,v,y,z,z'] [(p1,u),(p2,v),(p3,y),(p4,z),(p5,z')]):Binds K fd [p1,p2,p3,p4,p5] []:=F.binds fun a b c d e g us hl=>match us,hl with | [u,v,y,z,z'],_=>h u v y z z' a b c d e g
theorem ZgA (F:Fun K x q st f fd)(h:∀ u,BA x q st [u] [(p1,u)])(s:Shared)(v:Value):BindsTo s fd ⟨[v],[]⟩ [(p1,v)]:=by
 obtain ⟨oc,od,kV,doc,pm,an,cdv,ct,osl,rfl,lk,hcd⟩:=F.ex
 exact .of_eq (h v kV doc pm an cdv ct)
end
end L2
namespace K22
open PySem L2
open PySem.W in
theorem all_mk {l:PySem.W.OpenLaw}{w:World}{K:KF}{h:Heap}{mg:Str->Option Value}{fa:Addr}
 {f_z0 f_z1 f_z2 f_z3 f_z4 f_z5 f_z6 f_z7 f_z8 f_z9 f_z10 f_z11 f_z12 f_z13 f_z14 f_z15 f_z16 f_z17 f_z18 f_z19 f_z20 f_z21 f_z22 f_z23 f_z24 f_z25 f_z26 f_z27 f_z28 f_z29 f_z30 f_z31 f_z32 f_z33 f_z34 f_z35 f_z36 f_z37 f_z38 f_z39 f_z40 f_z41 f_z42 f_z43 f_z44 f_z45 f_z46 f_z47 f_z48 f_z49 C_Store C_Roads ca_z3 P_z3:Addr} {d_z0 d_z1 d_z2 d_z3 d_z4 d_z5 d_z6 d_z7 d_z8 d_z9 d_z10 d_z11 d_z12 d_z13 d_z14 d_z15 d_z16 d_z17 d_z18 d_z19 d_z20 d_z21 d_z22 d_z23 d_z24 d_z25 d_z26 d_z27 d_z28 d_z29 d_z30 d_z31 d_z32 d_z33 d_z34 d_z35 d_z36 d_z37 d_z38 d_z39 d_z40 d_z41 d_z42 d_z43 d_z44 d_z45 d_z46 d_z47 d_z48 d_z49:FuncData} (X:K.In h) (G:h.Ns mainGlobals mg) (hfa:mg "law"=some (.ref fa))
 (ch_Store:CH K "Store" C_Store)
 (na_Store_nodes:PySem.W.findIn K (.ref C_Store) "nodes"=some none)
 (na_Store_tables:PySem.W.findIn K (.ref C_Store) "tables"=some none)
 (ch_Roads:CH K "Roads" C_Roads)
 (na_Roads_kept:PySem.W.findIn K (.ref C_Roads) "kept"=some none)
 (na_Roads_aheads:PySem.W.findIn K (.ref C_Roads) "aheads"=some none)
 (na_Roads_steps:PySem.W.findIn K (.ref C_Roads) "steps"=some none)
 (na_Roads_tables:PySem.W.findIn K (.ref C_Roads) "tables"=some none)
 (na_Roads_costs:PySem.W.findIn K (.ref C_Roads) "costs"=some none)
 (h_z0:FG K "alike" s_alike f_z0 d_z0)
 (h_z1:FG K "mark" s_mark f_z1 d_z1)
 (h_z2:FG K "digit" s_digit f_z2 d_z2)
 (h_z3:FGC K "leaf_of" s_leaf_of f_z3 d_z3 ca_z3 P_z3)
 (h_z4:FG K "fork_of" s_fork_of f_z4 d_z4)
 (h_z5:FG K "parts_in" s_parts_in f_z5 d_z5)
 (h_z6:FG K "pairs_in" s_pairs_in f_z6 d_z6)
 (h_z7:FG K "has_mark" s_has_mark f_z7 d_z7)
 (h_z8:FM K C_Store "__init__" "Store.__init__" c_Store___init__ f_z8 d_z8)
 (h_z9:FM K C_Store "empty" "Store.empty" c_Store_empty f_z9 d_z9)
 (h_z10:FM K C_Store "check_table" "Store.check_table" c_Store_check_table f_z10 d_z10)
 (h_z11:FM K C_Store "keep" "Store.keep" c_Store_keep f_z11 d_z11)
 (h_z12:FM K C_Store "as_table" "Store.as_table" c_Store_as_table f_z12 d_z12)
 (h_z13:FM K C_Store "way" "Store.way" c_Store_way f_z13 d_z13)
 (h_z14:FM K C_Store "looked" "Store.looked" c_Store_looked f_z14 d_z14)
 (h_z15:FM K C_Store "fork_parts" "Store.fork_parts" c_Store_fork_parts f_z15 d_z15)
 (h_z16:FM K C_Store "put_in" "Store.put_in" c_Store_put_in f_z16 d_z16)
 (h_z17:FM K C_Store "put" "Store.put" c_Store_put f_z17 d_z17)
 (h_z18:FM K C_Store "taken_from" "Store.taken_from" c_Store_taken_from f_z18 d_z18)
 (h_z19:FM K C_Store "without" "Store.without" c_Store_without f_z19 d_z19)
 (h_z20:FM K C_Store "pairs_below" "Store.pairs_below" c_Store_pairs_below f_z20 d_z20)
 (h_z21:FM K C_Store "node" "Store.node" c_Store_node f_z21 d_z21)
 (h_z22:FM K C_Store "made" "Store.made" c_Store_made f_z22 d_z22)
 (h_z23:FG K "unlike_names" s_unlike_names f_z23 d_z23)
 (h_z24:FG K "compare" s_compare f_z24 d_z24)
 (h_z25:FG K "differing" s_differing f_z25 d_z25)
 (h_z26:FM K C_Roads "check_place" "Roads.check_place" c_Roads_check_place f_z26 d_z26)
 (h_z27:FM K C_Roads "table" "Roads.table" c_Roads_table f_z27 d_z27)
 (h_z28:FM K C_Roads "unlike" "Roads.unlike" c_Roads_unlike f_z28 d_z28)
 (h_z29:FM K C_Roads "go_on" "Roads.go_on" c_Roads_go_on f_z29 d_z29)
 (h_z30:FM K C_Roads "put" "Roads.put" c_Roads_put f_z30 d_z30)
 (h_z31:FM K C_Roads "clear" "Roads.clear" c_Roads_clear f_z31 d_z31)
 (h_z32:FM K C_Roads "__init__" "Roads.__init__" c_Roads___init__ f_z32 d_z32)
 (h_z33:FG K "_law_cell_at" s_l_cell_at f_z33 d_z33)
 (h_z34:FG K "_law_box" s_l_box f_z34 d_z34)
 (h_z35:FG K "_law_take" s_l_take f_z35 d_z35)
 (h_z36:FG K "_law_names" s_l_names f_z36 d_z36)
 (h_z37:FG K "_law_value" s_l_value f_z37 d_z37)
 (h_z38:FG K "_law_pool" s_l_pool f_z38 d_z38)
 (h_z39:FG K "_law_values" s_l_values f_z39 d_z39)
 (h_z40:FG K "_law_step" s_l_step f_z40 d_z40)
 (h_z41:FG K "_law_from" s_l_from f_z41 d_z41)
 (h_z42:FG K "_law_grown" s_l_grown f_z42 d_z42)
 (h_z43:FG K "_law_road" s_l_road f_z43 d_z43)
 (h_z44:FG K "_law_all" s_l_all f_z44 d_z44)
 (h_z45:FG K "_law_alike" s_l_alike f_z45 d_z45)
 (h_z46:FG K "_law_two_right" s_l_two_right f_z46 d_z46)
 (h_z47:FG K "_law_apart_right" s_l_apart_right f_z47 d_z47)
 (h_z48:FG K "_law_right" s_l_right f_z48 d_z48)
 (h_z49:FG K "law" s_law f_z49 d_z49)
 (z_len:PySem.W.nsIn K mainGlobals "len"=some none)
 (z_abs:PySem.W.nsIn K mainGlobals "abs"=some none)
 (z_int:PySem.W.nsIn K mainGlobals "int"=some none)
 (z_range:PySem.W.nsIn K mainGlobals "range"=some none)
 (z_min:PySem.W.nsIn K mainGlobals "min"=some none)
 (z_max:PySem.W.nsIn K mainGlobals "max"=some none)
 (z_repr:PySem.W.nsIn K mainGlobals "repr"=some none)
 (z_enumerate:PySem.W.nsIn K mainGlobals "enumerate"=some none)
 (z_ord:PySem.W.nsIn K mainGlobals "ord"=some none)
 (z_list:PySem.W.nsIn K mainGlobals "list"=some none)
 (z_tuple:PySem.W.nsIn K mainGlobals "tuple"=some none)
 (z_dict:PySem.W.nsIn K mainGlobals "dict"=some none)
 (z_sorted:PySem.W.nsIn K mainGlobals "sorted"=some none)
 (z_sum:PySem.W.nsIn K mainGlobals "sum"=some none)
 (z_all:PySem.W.nsIn K mainGlobals "all"=some none)
 (z_any:PySem.W.nsIn K mainGlobals "any"=some none)
 (z_divmod:PySem.W.nsIn K mainGlobals "divmod"=some none)
 (z_str:PySem.W.nsIn K mainGlobals "str"=some none)
 (z_isinstance:PySem.W.nsIn K mainGlobals "isinstance"=some none)
 (z_set:PySem.W.nsIn K mainGlobals "set"=some none)
 (z_zip:PySem.W.nsIn K mainGlobals "zip"=some none)
 (z_reversed:PySem.W.nsIn K mainGlobals "reversed"=some none)
 (z_bool:PySem.W.nsIn K mainGlobals "bool"=some none)
 {tb:Tok}
 (gBASE:PySem.W.nsIn K mainGlobals "BASE"=some (some (.int 4 tb)))
 {tz:Tok}
 (gZERO:PySem.W.nsIn K mainGlobals "BARE_NUMBER"=some (some (.int 0 tz)))
 {ab:Addr}
 (gBARE:PySem.W.nsIn K mainGlobals "BARE"=some (some (.ref ab)))
 (tBARE:ZcT K ab [.str "bare"]=true)
 {af:Addr}
 (gFIG:PySem.W.nsIn K mainGlobals "FIGURES"=some (some (.ref af)))
 (tFIG:ZcT K af [.int 0,.int 1,.int 2,.int 3]=true) :
 ∃ fd:FuncData,(∀ (s:Shared) (v:Value),BindsTo s fd ⟨[v],[]⟩ [("_law_script",v)])/\∀ base:Heap,K.In base->base.Ns mainGlobals mg->UV base mg->FnOk l.prog w K mg base ZL 20 fa fd ["_law_script"] (ZcL K P_z3):=by
 have e:=hfa.symm.trans (mg_of X G h_z49.a)
 cases e
 have n_len:=mg_none_of X G z_len
 have n_abs:=mg_none_of X G z_abs
 have n_int:=mg_none_of X G z_int
 have n_range:=mg_none_of X G z_range
 have n_min:=mg_none_of X G z_min
 have n_max:=mg_none_of X G z_max
 have n_repr:=mg_none_of X G z_repr
 have n_enumerate:=mg_none_of X G z_enumerate
 have n_ord:=mg_none_of X G z_ord
 have n_list:=mg_none_of X G z_list
 have n_tuple:=mg_none_of X G z_tuple
 have n_dict:=mg_none_of X G z_dict
 have n_sorted:=mg_none_of X G z_sorted
 have n_sum:=mg_none_of X G z_sum
 have n_all:=mg_none_of X G z_all
 have n_any:=mg_none_of X G z_any
 have n_divmod:=mg_none_of X G z_divmod
 have n_str:=mg_none_of X G z_str
 have n_isinstance:=mg_none_of X G z_isinstance
 have n_set:=mg_none_of X G z_set
 have n_zip:=mg_none_of X G z_zip
 have n_reversed:=mg_none_of X G z_reversed
 have n_bool:=mg_none_of X G z_bool
 have g_gBASE:=mg_of X G gBASE
 have g_gZERO:=mg_of X G gZERO
 have g_gBARE:=mg_of X G gBARE
 have g_gFIG:=mg_of X G gFIG
 have cl_Store:=ch_Store.c
 have cl_Roads:=ch_Roads.c
 have TB:Yz mg:=⟨n_len,n_abs,n_int,n_range,n_min,n_max,n_repr,n_enumerate,n_ord,n_list,n_tuple,n_dict,n_sorted,n_sum,n_all,n_any,n_divmod,n_str,n_isinstance,n_set,n_zip,n_reversed,n_bool⟩
 have T:Txt K mg:=⟨TB,⟨_,g_gBASE⟩,⟨_,g_gZERO⟩,⟨_,g_gBARE,Zec tBARE⟩,⟨_,g_gFIG,Zec tFIG⟩⟩
 have TC:YT K C_Store:=⟨cl_Store,na_Store_nodes,na_Store_tables⟩
 have TR:WK K C_Roads:=⟨cl_Roads,na_Roads_kept,na_Roads_aheads,na_Roads_steps,na_Roads_tables,na_Roads_costs⟩
 refine ⟨d_z49,fun s v=>ZgA h_z49.F (fun _ _ _ _ _ _ _=>rfl) s v,fun base _ _ hBm=>?_⟩
 have e:Bs l.prog w K mg base h:=⟨X,G⟩
 have D_z0:=h_z0.df e (ZjN h_z0.F) (h_z0.F.b2 fun _ _ _ _ _ _ _ _=>rfl)
 have D_z1:=h_z1.df e (ZkM h_z1.F T) (h_z1.F.b1 fun _ _ _ _ _ _ _=>rfl)
 have D_z2:=h_z2.df e (ZjR h_z2.F T) (h_z2.F.b2 fun _ _ _ _ _ _ _ _=>rfl)
 have D_z3:=h_z3.df e (ZlG h_z3.F T hBm D_z1) (h_z3.F.fn.b1 fun _ _ _ _ _ _ _=>rfl)
 have D_z4:=h_z4.df e (ZgQ h_z4.F T) (h_z4.F.b1 fun _ _ _ _ _ _ _=>rfl)
 have D_z5:=h_z5.df e (ZiU h_z5.F) (h_z5.F.b1 fun _ _ _ _ _ _ _=>rfl)
 have D_z6:=h_z6.df e (ZjO h_z6.F) (h_z6.F.b1 fun _ _ _ _ _ _ _=>rfl)
 have D_z7:=h_z7.df e (ZkT h_z7.F) (h_z7.F.b2 fun _ _ _ _ _ _ _ _=>rfl)
 have D_z8:=h_z8.di ch_Store e (FnOk.conv (sp':=Zcd K C_Store) (Zlf h_z8.F T TC) (fun _ _ _ _ h=>Znm h)) (h_z8.F.b1 fun _ _ _ _ _ _ _=>rfl)
 have D_z9:=h_z9.df e (Ziz (C:=C_Store) h_z9.F T) (h_z9.F.b1 fun _ _ _ _ _ _ _=>rfl)
 have D_z10:=h_z10.df e (Ziy h_z10.F TC) (h_z10.F.b2 fun _ _ _ _ _ _ _ _=>rfl)
 have D_z11:=h_z11.df e (Zlt h_z11.F T TC) (h_z11.F.b2 fun _ _ _ _ _ _ _ _=>rfl)
 have D_z12:=h_z12.df e (ZmF h_z12.F TC) (h_z12.F.b2 fun _ _ _ _ _ _ _ _=>rfl)
 have D_z13:=h_z13.df e (ZmP h_z13.F T TC D_z10 D_z5 D_z1 D_z2) (h_z13.F.b3 fun _ _ _ _ _ _ _ _ _=>rfl)
 have D_z14:=h_z14.df e (ZhP h_z14.F T TC D_z13 D_z6) (h_z14.F.b3 fun _ _ _ _ _ _ _ _ _=>rfl)
 have D_z15:=h_z15.df e (Zno h_z15.F T TC D_z5 D_z6 D_z1 D_z2) (h_z15.F.b3 fun _ _ _ _ _ _ _ _ _=>rfl)
 have b_z16:Binds K d_z16 ["self","number","level","name","value"] []:=h_z16.F.b5 fun _ _ _ _ _ _ _ _ _ _ _=>rfl
 have D_z16:∀ NS,Yf NS->DefM l.prog w K mg base 8 C_Store "put_in" nPi (Vz K C_Store P_z3 NS 6):=fun NS N=>⟨_,_,ZeD N h_z16.F T TC D_z7 D_z6 D_z1 D_z2 D_z3 D_z4 D_z11 D_z15 b_z16 h_z16.m 6,b_z16,h_z16.m⟩
 have b_z17:Binds K d_z17 ["self","table","name","value"] []:=h_z17.F.b4 fun _ _ _ _ _ _ _ _ _ _=>rfl
 have D_z17:DefM l.prog w K mg base 9 C_Store "put" ["self","table","name","value"] (Zef K C_Store P_z3):=⟨_,_,ZnL fun NS N=>Zmk N h_z17.F TC D_z0 D_z14 D_z12 (D_z16 NS N),b_z17,h_z17.m⟩
 have b_z18:Binds K d_z18 ["self","number","level","name"] []:=h_z18.F.b4 fun _ _ _ _ _ _ _ _ _ _=>rfl
 have D_z18:∀ NS,Yf NS->DefM l.prog w K mg base 8 C_Store "taken_from" nTk (ZaG K C_Store P_z3 NS 6):=fun NS N=>⟨_,_,ZeM N h_z18.F T TC D_z7 D_z5 D_z6 D_z1 D_z2 D_z3 D_z4 D_z11 b_z18 h_z18.m 6,b_z18,h_z18.m⟩
 have b_z19:Binds K d_z19 ["self","table","name"] []:=h_z19.F.b3 fun _ _ _ _ _ _ _ _ _=>rfl
 have D_z19:DefM l.prog w K mg base 9 C_Store "without" ["self","table","name"] (ZfM K C_Store P_z3):=⟨_,_,wo_S fun NS N=>ZnB N h_z19.F TC D_z14 D_z12 (D_z18 NS N),b_z19,h_z19.m⟩
 have b_z20:Binds K d_z20 ["self","number"] []:=h_z20.F.b2 fun _ _ _ _ _ _ _ _=>rfl
 have D_z20:∀ NS,Yf NS->DefM l.prog w K mg base 7 C_Store "pairs_below" VD (ZbL K C_Store NS 6):=fun NS N=>⟨_,_,ZgU N h_z20.F T TC D_z6 D_z5 b_z20 h_z20.m 6,b_z20,h_z20.m⟩
 have b_z21:Binds K d_z21 ["self","number"] []:=h_z21.F.b2 fun _ _ _ _ _ _ _ _=>rfl
 have D_z21:DefM l.prog w K mg base 1 C_Store "node" ["self","number"] (Zaa K C_Store):=⟨_,_,(Zll h_z21.F T TC).conv fun _ _ _ _ h=>Zmw h,b_z21,h_z21.m⟩
 have D_z22:=h_z22.df e (Zlz h_z22.F T TC) (h_z22.F.b1 fun _ _ _ _ _ _ _=>rfl)
 have D_z23:=h_z23.df e (ZmL h_z23.F TB D_z0) (h_z23.F.b2 fun _ _ _ _ _ _ _ _=>rfl)
 have b_z24:Binds K d_z24 ["store","one","other","names"] []:=h_z24.F.b4 fun _ _ _ _ _ _ _ _ _ _=>rfl
 have D_z24:∀ NS,(Yf NS/\NS.length<=50)->Def l.prog w K mg base 14 "compare" Zax (Zbp K C_Store NS 6):=fun NS h=>⟨_,_,Zfb h.1 h.2 h_z24.F TB TC D_z5 D_z23 D_z21 (D_z20 NS h.1) b_z24 h_z24.F.kp (mg_of X G h_z24.a) 6,b_z24,h_z24.F.kp,(mg_of X G h_z24.a)⟩
 have b_z25:Binds K d_z25 ["store","one","other"] []:=h_z25.F.b3 fun _ _ _ _ _ _ _ _ _=>rfl
 have D_z25:Def l.prog w K mg base 15 "differing" Zfs (ZjW K C_Store):=⟨_,_,FnOk.ex (ok:=fun NS=>Yf NS/\NS.length<=50) fun NS h=>Zmm h.1 h.2 h_z25.F TB TC (D_z10.mono (by decide)) (D_z24 NS h),b_z25,h_z25.F.kp,(mg_of X G h_z25.a)⟩
 have D_z26:=h_z26.df e (ZkO (CS:=C_Store) h_z26.F TB TR) (h_z26.F.b2 fun _ _ _ _ _ _ _ _=>rfl)
 have D_z27:=h_z27.df e (ZiF h_z27.F TB TR D_z26) (h_z27.F.b2 fun _ _ _ _ _ _ _ _=>rfl)
 have D_z28:=h_z28.df e (Znq h_z28.F TB TR (D_z27.mono (by decide)) D_z25) (h_z28.F.b3 fun _ _ _ _ _ _ _ _ _=>rfl)
 have D_z29:=h_z29.df e (ZlL h_z29.F TB TR TC (D_z27.mono (by decide)) (D_z22.mono (by decide)) D_z17 D_z19) (h_z29.F.b3 fun _ _ _ _ _ _ _ _ _=>rfl)
 have D_z30:=h_z30.df e (ZlF h_z30.F TB TR D_z29) (h_z30.F.b4 fun _ _ _ _ _ _ _ _ _ _=>rfl)
 have D_z31:=h_z31.df e (ZkQ h_z31.F TB TR D_z29) (h_z31.F.b3 fun _ _ _ _ _ _ _ _ _=>rfl)
 have D_z32:=h_z32.di ch_Roads e ((Zin h_z32.F TB TR TC D_z8 (D_z9.mono (by decide))).mono (show 3<=17 by decide)) (h_z32.F.b1 fun _ _ _ _ _ _ _=>rfl)
 have D_z33:=h_z33.df e (Zli h_z33.F TB) (h_z33.F.b2 fun _ _ _ _ _ _ _ _=>rfl)
 have D_z34:=h_z34.df e (FnOk.conv (sp':=ZdR K) (ZmH h_z34.F TB D_z33) (fun _ _ _ _ h=>ZnO h)) (h_z34.F.b2 fun _ _ _ _ _ _ _ _=>rfl)
 have b_z35:Binds K d_z35 ["_law_box_here","_law_many"] []:=h_z35.F.b2 fun _ _ _ _ _ _ _ _=>rfl
 have DT0:Zkt l.prog w K mg base:=⟨_,_,ZlH h_z35.F,b_z35,h_z35.F.kp,(mg_of X G h_z35.a)⟩
 have D_z35:DTk l.prog w K mg base 1:=DT0.conv fun _ _ _ _ h=>Zmc h
 have D_z36:=h_z36.df e (ZiZ h_z36.F TB D_z35) (h_z36.F.b2 fun _ _ _ _ _ _ _ _=>rfl)
 have D_z37:=h_z37.df e (FnOk.conv (sp':=Zaq) (Zjh h_z37.F T DT0) (fun _ _ _ _ h=>Zln h)) (h_z37.F.b1 fun _ _ _ _ _ _ _=>rfl)
 have D_z38:=h_z38.df e (Zls h_z38.F TB D_z35 D_z36) (h_z38.F.b2 fun _ _ _ _ _ _ _ _=>rfl)
 have D_z39:=h_z39.df e (ZgB h_z39.F TB D_z37) (h_z39.F.b1 fun _ _ _ _ _ _ _=>rfl)
 have D_z40:=h_z40.df e (ZkJ h_z40.F TB D_z35) (h_z40.F.b3 fun _ _ _ _ _ _ _ _ _=>rfl)
 have D_z41:=h_z41.df e (Zlr h_z41.F TB D_z35) (h_z41.F.b2 fun _ _ _ _ _ _ _ _=>rfl)
 have D_z42:=h_z42.df e (ZjJ h_z42.F TB TR D_z30 D_z31) (h_z42.F.b4 fun _ _ _ _ _ _ _ _ _ _=>rfl)
 have D_z43:=h_z43.df e (ZjH h_z43.F TB) (h_z43.F.b2 fun _ _ _ _ _ _ _ _=>rfl)
 have D_z44:=h_z44.df e (Zmf h_z44.F TB (D_z43.mono (by decide))) (h_z44.F.b2 fun _ _ _ _ _ _ _ _=>rfl)
 have b_z45:Binds K d_z45 ["_law_one","_law_other"] []:=h_z45.F.b2 fun _ _ _ _ _ _ _ _=>rfl
 have D_law_alike2:Def l.prog w K mg base 1 "_law_alike" ZcQ ZfI:=⟨_,_,Zgg h_z45.F TB,b_z45,h_z45.F.kp,(mg_of X G h_z45.a)⟩
 have D_z46:=h_z46.df e (Zmg h_z46.F TB TR (D_z44.mono (by decide)) (D_law_alike2.mono (by decide)) D_z28) (h_z46.F.b4 fun _ _ _ _ _ _ _ _ _ _=>rfl)
 have D_z47:=h_z47.df e (ZnM h_z47.F TB TR D_z35 (D_z42.mono (by decide)) D_z46 (D_z28.mono (by decide))) (h_z47.F.b5 fun _ _ _ _ _ _ _ _ _ _ _=>rfl)
 have D_z48:=h_z48.df e (Zjs h_z48.F TB TR D_z35 (D_z38.mono (by decide)) (D_z39.mono (by decide)) D_z32 (D_z41.mono (by decide)) (D_z40.mono (by decide)) (D_z42.mono (by decide)) (D_z46.mono (by decide)) D_z47) (h_z48.F.b1 fun _ _ _ _ _ _ _=>rfl)
 exact Zmb h_z49.F TB (D_z34.mono (by decide)) D_z48
theorem walk {l:PySem.W.OpenLaw}{q:Program}{loose:List Str}{XP:(Str->Option Value)->Heap->Prop}{YP:World->Heap->Prop}{d:DefRec}{K:Params->PySem.W.Frag}{ts:List Addr}{P_z3:Addr}(hn:l.most=some 63)(hdf:d.params.defaults=[])
 (hY:∀ (w:World) (h:Heap),YP w h->(K w.params).In h/\∀ b∈ts,h.get? b=some (PySem.W.tabObj #[]))
 (hK:∀ (w:World) (b:Addr),b∈ts->(K w.params).lookup b=none/\∃ c,PySem.W.codeHdIn (K w.params) c b=true)
 (hP_leaf_of:P_z3∈ts) (F:∀ (w:World) (mg:Str->Option Value) (fa:Addr) (h:Heap),(K w.params).In h->h.Ns mainGlobals mg->mg d.name=some (.ref fa) ->
  ∃ fd:FuncData,(∀ (s:Shared) (u:Value),BindsTo s fd ⟨[u],[]⟩ [("_law_script",u)])/\∀ base:Heap,(K w.params).In base->base.Ns mainGlobals mg->UV base mg->FnOk l.prog w (K w.params) mg base ZL 20 fa fd ["_law_script"] (ZcL (K w.params) P_z3)) :
 PySem.W.WalkO q loose XP YP l.row.toRowW d [] (fun f vs=>PySem.call f vs) :=
 L2.walk_ofT (n:=63) (k:=20) (x:="_law_script") (CX:=fun _=>ZL) (sp:=fun w=>ZcL (K w.params) P_z3) (ts:=ts) hn (by decide) hdf ⟨rfl,by decide,by decide,rfl⟩ hY hK F (fun w H a ns hl hO hS hT=>⟨a,ns,rfl,hS,hl,.inl (hT _ hP_leaf_of),fun _=>rfl⟩) fun _ _ _ _ _ z=>z
end K22
namespace PySem.W.Fast
def tw8313049807246512441 := 0
def tw16578122405941762944 := 0
def tw10534099897168622516 := 0
def tw4168839855493071440 := 0
def tw10857547173461289902 := 0
def tw15966922052266972011 := 0
def tw16139228242985251333 := 0
def tw2142216747885568987 := 0
def tw14978964949422118828 := 0
def tw4308322227738195189 := 0
def tw13304949637374377979 := 0
def tw1914190119678111570 := 0
def tw13413536955777450405 := 0
def tw11898038412411880948 := 0
def tw5151294596136310039 := 0
def tw2406209131009785935 := 0
def tw17214933621626469929 := 0
def tw7852836118437177549 := 0
def tw10495402193997579619 := 0
def tw1810369759380150889 := 0
def tw8125751823807910614 := 0
def tw11660217191595346973 := 0
def tw15283403858838880687 := 0
def tw14901986330937066703 := 0
def tw6110070659312091054 := 0
def tw18429931086861653393 := 0
def tw8478733261972322655 := 0
def tw12665176303083610443 := 0
def tw2492344532313256772 := 0
def tw13074198962011469827 := 0
def tw7879423092849975884 := 0
def tw2259853883524957947 := 0
def tw9681711067006647580 := 0
def tw17606335218542303091 := 0
def tw16080698915776050529 := 0
def tw4686482493743398601 := 0
def tw14905245520031038475 := 0
def tw3844928319675076691 := 0
def tw8851759541285623901 := 0
def tw4341287230794652290 := 0
def tw18410330089812000169 := 0
def tw17163209078882507320 := 0
def tw11158345620968757703 := 0
def tw4349453184247422853 := 0
def tw16437228689770737830 := 0
def tw18126974625917897489 := 0
def tw1423819580275159891 := 0
def tw13749932714111638886 := 0
def tw11801362133490922544 := 0
def tw14580493175884614814 := 0
def tw18008481360749608819 := 0
def tw16027346124797012918 := 0
def tw18432667768496150462 := 0
def tw16720120699014793972 := 0
def tw17192745244513614549 := 0
def tw8303757192165279095 := 0
def tw17278260436503558052 := 0
def tw7939248774986878101 := 0
def tw7511619225835588070 := 0
def tw12210473232470642484 := 0
def tw12019162030344389181 := 0
def tw9947276114933105730 := 0
def tw16338366344852085237 := 0
def tw7254966518096201672 := 0
def tw17113478768828893941 := 0
def tw3402406798056918677 := 0
def tw3755255583937448459 := 0
def tw6320500538378462567 := 0
def tw2853604038882663418 := 0
def tw8107331812537563659 := 0
def tw11282582465015900176 := 0
def tw14793431685047512633 := 0
def tw7396046539158132330 := 0
def tw4101798300693714848 := 0
def tw4129678841687523731 := 0
def tw18228247903189522285 := 0
def tw2007346336245176301 := 0
def tw16253764493761485845 := 0
def tw1691600583617339437 := 0
def tw2190337811486006037 := 0
def tw689278344183500501 := 0
def tw16196675131772548412 := 0
def tw11413371482058026645 := 0
def tw13536061367048747815 := 0
def tw5862071662467994709 := 0
def tw16767618523009593718 := 0
def tw3740930201821767551 := 0
def tw1030145313641312953 := 0
def tw1662279487164926027 := 0
def tw10725568204779699841 := 0
def tw6959967681290708790 := 0
def tw2188384243923492001 := 0
def tw17268503375113007278 := 0
def tw15909670563854375294 := 0
def tw16221886278287828039 := 0
def tw5099774768168845793 := 0
def tw12362825196092170814 := 0
def tw6860650439628728263 := 0
def tw13827237182152450614 := 0
def tw17678610056060513038 := 0
def tw6579683134081709822 := 0
def tw1433697631379979228 := 0
def tw7146059418726030885 := 0
def tw6830225540710448022 := 0
def tw1438133627035359138 := 0
def tw2539273534891393226 := 0
def tw10276711631803255552 := 0
def tw6857641957867616866 := 0
def tw17390833045154833870 := 0
def tw16219352917472587119 := 0
def tw6677210718545204398 := 0
def tw11143486389981198328 := 0
def tw18251918861422500759 := 0
def tw18337466055821200708 := 0
def tw18405709948088060797 := 0
def tw3794375265161772347 := 0
def tw16821133943127425916 := 0
def tw12532922444388926198 := 0
def tw4011904803253532661 := 0
def tw7181936314421666409 := 0
def tw2460550685386028473 := 0
def tw16933830392975391355 := 0
def tw9234687187254912607 := 0
def tw5719178632398727607 := 0
def tw13843306020498444084 := 0
def tw225115502120037262 := 0
def tw546305339788602917 := 0
def tw7920579038553723030 := 0
def tw15948257890597595587 := 0
def tw14914694237425113440 := 0
def tw10885293144445006510 := 0
def tw5456477315320631474 := 0
def tw15735022654702057833 := 0
def tw6136761584112748126 := 0
def tw18264883599787997440 := 0
def tw17819637828808894704 := 0
def tw5988037972061449527 := 0
def tw9524532057276559696 := 0
def tw17040532218039418696 := 0
def tw2090053329354175463 := 0
def tw2490846150730716157 := 0
def tw2230947816550170575 := 0
def tw8811924853194348029 := 0
def tw513428273777850387 := 0
def tw17182769905554252626 := 0
def tw8095993689805345287 := 0
def tw340491649097181853 := 0
def tw15870766578373969148 := 0
def tw5433490070395022352 := 0
def tw7279629226736433999 := 0
def tw8499012077130110113 := 0
def tw6715378090725568866 := 0
def tw3798346186898731655 := 0
def tw4110916690379683389 := 0
def tw16298694589515056706 := 0
def tw1376174165391343469 := 0
def tw12161847670408554232 := 0
def tw4280964447169106643 := 0
def tw3079867125305746165 := 0
def tw16019857840556522838 := 0
def tw4574811869465197343 := 0
def tw16502587943354061028 := 0
def tw14275001526231707604 := 0
def tw12216433070155176669 := 0
def tw11832905783905293106 := 0
def tw15030407622601235768 := 0
def tw12489019556808266520 := 0
def tw13836964242977462110 := 0
def tw11388395461025757956 := 0
def tw8483075962488633608 := 0
def tw6278342880279034177 := 0
def tw4471219935294511681 := 0
def tw16348355414322623209 := 0
def tw9986761684514271692 := 0
def tw14612356128969475491 := 0
def tw14773121902194603829 := 0
def tw10788605342829058187 := 0
def tw16642868227589713342 := 0
def tw8241205405177200870 := 0
def tw12245356455175355350 := 0
def tw898773636244541627 := 0
def tw16104268322513510128 := 0
def tw11842582493755476531 := 0
def tw12830542562405487208 := 0
def tw10050771779318341968 := 0
def tw5487728886381120170 := 0
def tw2289839956136679878 := 0
def tw14005492439313372541 := 0
def tw4845561298728047410 := 0
def tw13412099212759314352 := 0
def tw10151433625866149634 := 0
def tw4286898601830423785 := 0
def tw18421215585346787181 := 0
def tw11823599073537743539 := 0
def tw9335683400293516641 := 0
def tw17718813684663960921 := 0
def tw6774353877385629550 := 0
def tw16485683125129996022 := 0
def tw16308662657618295575 := 0
def tw15799541770276239218 := 0
def tw13353807996786788023 := 0
def tw9617667412123341686 := 0
def tw6750893529228651981 := 0
def tw6043159416457564860 := 0
def tw9624355599114257325 := 0
def tw87079937968652847 := 0
def tw14592878758245730943 := 0
def tw7357281241218863660 := 0
def tw707490617166188686 := 0
def tw5682763473592688547 := 0
def tw14893378117783790572 := 0
def tw14973195210465784913 := 0
def tw13552866556820462989 := 0
def tw13224458399270464052 := 0
def tw14794786847867622320 := 0
def tw2417277688337148503 := 0
def tw822683077177054392 := 0
def tw651896333349677883 := 0
def tw8424536708237594765 := 0
def tw8827354787284424547 := 0
def tw5568430100644479890 := 0
def tw1409897717831222247 := 0
def tw13449003356706745434 := 0
def tw4646092302276920742 := 0
def tw10925275118683214255 := 0
def tw17337276557043168037 := 0
def tw1671751374480763940 := 0
def tw13415488619405775700 := 0
def tw9333099642828576568 := 0
def tw8611619972817518235 := 0
def tw8404325579271489888 := 0
def tw8182730062760425705 := 0
def tw7467977936111993493 := 0
def tw6263415443689320174 := 0
def tw4814115115887737140 := 0
def tw4720657686522453749 := 0
def tw2742140650662606698 := 0
def tw18285400175446592946 := 0
def tw18162831136747658606 := 0
def tw18111412189727180522 := 0
def tw17834936724895329053 := 0
def tw17296677852050917571 := 0
def tw16749356531695908554 := 0
def tw15947219786182607340 := 0
def tw14409044495725206432 := 0
def tw13935663733275711709 := 0
def tw13317334593520802048 := 0
def tw12758270120991693407 := 0
def tw12613088202139731733 := 0
def tw11576093033583319404 := 0
def tw10719810718286602414 := 0
def tw10228558608877984892 := 0
def tw10224240060148699243 := 0
def tw16289639480498459198 := 0
def tw14995626391539653772 := 0
def tw17146746796857735322 := 0
def tw902540240898071866 := 0
def tw12684077601562278844 := 0
def tw6288364750511329327 := 0
def tw6190639763721711201 := 0
def tw507726987683457879 := 0
def tw4814043015167139661 := 0
def tw18023386358165448173 := 0
def tw15967421808106969734 := 0
def tw12174753432526517747 := 0
def tw1192720069158310879 := 0
def tw3379239334701742582 := 0
def tw15860599903164880386 := 0
def tw11679612621595837040 := 0
def tw13468872750403894568 := 0
def tw1070443888429329028 := 0
def tw12079078952534700136 := 0
def tw11592617234130795776 := 0
def tw8844040863503646145 := 0
def tw7961451932255728634 := 0
def tw7343721108805412940 := 0
def tw7293746775875975596 := 0
def tw6715021424729360876 := 0
def tw6075944634694866432 := 0
def tw5435292888916731479 := 0
def tw5193088698649580258 := 0
def tw4586812663355585966 := 0
def tw455598775794000098 := 0
def tw4364834628932771842 := 0
def tw3578550591653054921 := 0
def tw3351547257538272180 := 0
def tw2552384445416180676 := 0
def tw18064199846586190484 := 0
def tw18023759172051183150 := 0
def tw15624945457521421264 := 0
def tw1465141839462730548 := 0
def tw14330233481158560878 := 0
def tw14102736684130858613 := 0
def tw13103177255742818490 := 0
def tw12889259371796118141 := 0
def tw12624201195695664918 := 0
def tw12585468432423703653 := 0
def tw12398231025103298997 := 0
def tw1201436215539410095 := 0
def tw1147228684053192651 := 0
def tw10927239774289474114 := 0
def tw10431232961469112127 := 0
def tw261634774189541183 := 0
def tw14097573814746906312 := 0
def tw18414019529237300857 := 0
def tw16796531442342154763 := 0
def tw16561245731194680522 := 0
def tw6579450048073885991 := 0
def tw4146230253378806042 := 0
def tw13171201994029772549 := 0
def tw9627644263431171526 := 0
def tw7087561955188110809 := 0
def tw7011621871047885826 := 0
def tw65195385460534608 := 0
def tw5899611635889378788 := 0
def tw4088108833997688643 := 0
def tw3502839392590521055 := 0
def tw3162911441763886291 := 0
def tw18198352450362514659 := 0
def tw16559912438735351582 := 0
def tw15476241295782352526 := 0
def tw13387715670346077476 := 0
def tw10215769949267942404 := 0
def tw4584861457926834502 := 0
def tw12255237438749956414 := 0
def tw13241477487545360431 := 0
def tw16040309394916628490 := 0
def tw9525408403213177234 := 0
def tw7492857358821565712 := 0
def tw500201792072980966 := 0
def tw17665588098788943801 := 0
def tw16243032713363599867 := 0
def tw14237788187590719996 := 0
def tw17474750630127061048 := 0
def tw9159189122077348970 := 0
def tw16522880402505178953 := 0
def tw750823280245511844 := 0
def tw13120810674926468668 := 0
def tw7308409216406776397 := 0
def tw3958537624502960212 := 0
def tw3226494961590324137 := 0
def tw2968904345836597093 := 0
def tw1795714952605040775 := 0
def tw17399163229127597325 := 0
def tw16750879300357769282 := 0
def tw13880896212137279267 := 0
def tw10426968363218376197 := 0
def tw1528551174018559550 := 0
def tw12982457854363871616 := 0
def tw4836522325760620563 := 0
def tw350512098664054541 := 0
def tw2981040932134056113 := 0
def tw2763747153275098541 := 0
def tw10100270710857787367 := 0
def tw9844177635525981935 := 0
def tw8097478903243689779 := 0
def tw6628313185519989701 := 0
def tw581342228153076750 := 0
def tw12343435935465602156 := 0
def tw1287968147283885438 := 0
def tw4795812166864167337 := 0
def tw15480953301775848770 := 0
def tw15137865862487108553 := 0
def tw14350407492074205763 := 0
def tw11293716959068629960 := 0
def tw8518666939250807960 := 0
def tw7989878649895502102 := 0
def tw9290705782009916329 := 0
def tw9217304728623779353 := 0
def tw714487722893892323 := 0
def tw5843732840117286146 := 0
def tw542831978210445856 := 0
def tw4729585027429670010 := 0
def tw3782818797836580029 := 0
def tw17686395269994628471 := 0
def tw161154828159723255 := 0
def tw15728766019410296154 := 0
def tw1502974161674355071 := 0
def tw14159408786656123917 := 0
def tw14121367640570478734 := 0
def tw1320809916826070654 := 0
def tw13079573835740032864 := 0
def tw13028908711206445421 := 0
def tw11782721901014569101 := 0
def tw1166107262534990528 := 0
def tw11587682266169197133 := 0
def tw11236172952975874924 := 0
def tw9961321829033945458 := 0
def tw9802099429122939037 := 0
def tw9707333851204234037 := 0
def tw9237076593284692456 := 0
def tw758831293711314481 := 0
def tw5629717778535855563 := 0
def tw5589053803328043144 := 0
def tw2772809099438281107 := 0
def tw18063565564061279971 := 0
def tw18019351140259896717 := 0
def tw17838460231575217877 := 0
def tw159260650286481059 := 0
def tw15897414539690649763 := 0
def tw15252156389232429398 := 0
def tw14121899026422251265 := 0
def tw13757791687628167474 := 0
def tw12560134276000449886 := 0
def tw11977031350130479563 := 0
def tw11795275146186113278 := 0
def tw9990437168565207073 := 0
def tw9963593368413867421 := 0
def tw9936862846939550200 := 0
def tw9874192761866992922 := 0
def tw9794258809083244576 := 0
def tw9707026292504357691 := 0
def tw9697264496082532412 := 0
def tw9654728172318644364 := 0
def tw9573087817394298334 := 0
def tw9557947453091026632 := 0
def tw9547796138592372034 := 0
def tw9478597065380305610 := 0
def tw9423884642349939056 := 0
def tw9306408339731423200 := 0
def tw929249329682468986 := 0
def tw9291807819002424197 := 0
def tw9218928591669326106 := 0
def tw9166184304862960343 := 0
def tw9118421304536409530 := 0
def tw906735359107410866 := 0
def tw9040647586818752356 := 0
def tw9034330053555147719 := 0
def tw9017490025101839927 := 0
def tw89817845220710679 := 0
def tw8978841965738132427 := 0
def tw8966126801337995186 := 0
def tw8819464059443370793 := 0
def tw8679587662986859507 := 0
def tw8636389287798725664 := 0
def tw8510254989920895099 := 0
def tw8502430634147308673 := 0
def tw8497881587755481199 := 0
def tw8489858751206770043 := 0
def tw8466401532900237467 := 0
def tw8438908126243158138 := 0
def tw827422454208724294 := 0
def tw8137248637539149854 := 0
def tw8099827192161230392 := 0
def tw8079547747250611235 := 0
def tw8039080190072966292 := 0
def tw8004161640663972380 := 0
def tw7958347930472686938 := 0
def tw7922320101679103425 := 0
def tw7869290709846732932 := 0
def tw7781719357037392516 := 0
def tw7568841350169242769 := 0
def tw7530493192230104460 := 0
def tw7440350711598866495 := 0
def tw7403877840577514281 := 0
def tw7298281872542756230 := 0
def tw7210874840305153426 := 0
def tw7154513695461129397 := 0
def tw7106646785292703542 := 0
def tw7042831950468791200 := 0
def tw6954702666147288126 := 0
def tw6927498575040818114 := 0
def tw6760640404733556380 := 0
def tw6756779337051152364 := 0
def tw660631152712335344 := 0
def tw660360677907938552 := 0
def tw65632744795845201 := 0
def tw6498012788722186208 := 0
def tw6308197030431965621 := 0
def tw6299535357758695447 := 0
def tw6272874853943351206 := 0
def tw6234099008414569483 := 0
def tw6195763434202414464 := 0
def tw6181570990376881737 := 0
def tw6177505980833540833 := 0
def tw6142712635537989460 := 0
def tw6073877150632205020 := 0
def tw6065499733598712739 := 0
def tw6015070256523259442 := 0
def tw5921083544914981491 := 0
def tw5522045893507469166 := 0
def tw5337869625448689713 := 0
def tw5328775848875539051 := 0
def tw5297820269440933082 := 0
def tw5192589108299398338 := 0
def tw5144831077670440789 := 0
def tw5080664426678121073 := 0
def tw4799339338522401451 := 0
def tw4732801471301931869 := 0
def tw462187182993864670 := 0
def tw4567961851633558821 := 0
def tw4498406621897782807 := 0
def tw4311291278521333538 := 0
def tw4140622283336659559 := 0
def tw4021218805816036037 := 0
def tw3969627548817276179 := 0
def tw3919134416864250041 := 0
def tw3887827159875020021 := 0
def tw3815411577544621709 := 0
def tw3809769374458701618 := 0
def tw3734254138421808030 := 0
def tw3598025441932708769 := 0
def tw344054729320873733 := 0
def tw33924864144833651 := 0
def tw3388185646825302049 := 0
def tw3338742378466245170 := 0
def tw3241882747820287710 := 0
def tw3228944577712206587 := 0
def tw3188325765099383415 := 0
def tw3050931927505981911 := 0
def tw3033524030881530776 := 0
def tw2978942013490318009 := 0
def tw2871949280023086857 := 0
def tw2772902260008900684 := 0
def tw2750181257590871287 := 0
def tw2602541408597341710 := 0
def tw245972478641389012 := 0
def tw2346583470198486608 := 0
def tw2252926237017850346 := 0
def tw1994065999325874700 := 0
def tw1905920507282743796 := 0
def tw1896384626210133326 := 0
def tw18312690317074574162 := 0
def tw18278876790435601828 := 0
def tw18194369982697358586 := 0
def tw18098303361594762042 := 0
def tw18074933819883996693 := 0
def tw17945648408411451856 := 0
def tw17898101750325291632 := 0
def tw17894428854765692252 := 0
def tw17889166408057438763 := 0
def tw1782762028872042719 := 0
def tw17502960144696470038 := 0
def tw17450355702449742581 := 0
def tw17195318453577026249 := 0
def tw1719166289664440411 := 0
def tw17028288846374326074 := 0
def tw17014895095286396397 := 0
def tw16999646986937923491 := 0
def tw16757552917306528724 := 0
def tw16731891413828035684 := 0
def tw16647101652967664422 := 0
def tw16608842384920034341 := 0
def tw16594045354971976515 := 0
def tw16551899516905126519 := 0
def tw16484997639633443324 := 0
def tw16421464247622713567 := 0
def tw16256993233068779824 := 0
def tw16247968449451630488 := 0
def tw16174989673852636231 := 0
def tw1612707736510427923 := 0
def tw1597511766724296895 := 0
def tw15913083100338975816 := 0
def tw15891651042653197042 := 0
def tw15758810554197272547 := 0
def tw15745506679943941626 := 0
def tw15637083598517401671 := 0
def tw15632433401910822039 := 0
def tw1562980862725991924 := 0
def tw15597324919202526969 := 0
def tw15519685491769373162 := 0
def tw15455662152562220855 := 0
def tw15223184859961227500 := 0
def tw15219037937514640968 := 0
def tw15209123385476615156 := 0
def tw15119712630325659468 := 0
def tw15019611349489210553 := 0
def tw14997094586704652623 := 0
def tw1490944116155355106 := 0
def tw14881227768984200680 := 0
def tw14873757521950270149 := 0
def tw14818740030521430141 := 0
def tw14653504741114020501 := 0
def tw1464975249836876857 := 0
def tw14644195719597384944 := 0
def tw14573222040762833346 := 0
def tw14512592940500894946 := 0
def tw14380953711381907784 := 0
def tw14368228989699312292 := 0
def tw14334777350964531598 := 0
def tw14315151483742831312 := 0
def tw14252375885542937800 := 0
def tw14153031851046238296 := 0
def tw1392872115970559069 := 0
def tw13867921545636144309 := 0
def tw1384126894902036960 := 0
def tw13807259190873829296 := 0
def tw13786946388062132224 := 0
def tw13783868237284765922 := 0
def tw13782992665679514198 := 0
def tw13743325949415945662 := 0
def tw13671141990396570258 := 0
def tw1349921032379511628 := 0
def tw13476241010448671497 := 0
def tw13346598593611586556 := 0
def tw13260377166693642662 := 0
def tw13200507499973425811 := 0
def tw1313553193943331869 := 0
def tw13061025791737297792 := 0
def tw12903654980930432820 := 0
def tw12844080718835237810 := 0
def tw1271807085551963739 := 0
def tw12699098670529088644 := 0
def tw12687028842287997808 := 0
def tw1268265729589439292 := 0
def tw12627633399862431785 := 0
def tw12510666543198841439 := 0
def tw12480482881302898277 := 0
def tw12439841448615634555 := 0
def tw12341494742760753045 := 0
def tw12333618857733045904 := 0
def tw12261299220199368016 := 0
def tw12245019010435244317 := 0
def tw12211729187437885027 := 0
def tw12078721051672293915 := 0
def tw12022222291124155050 := 0
def tw11978204955861764814 := 0
def tw11932202880163599707 := 0
def tw11929093532546421576 := 0
def tw1178599653807088 := 0
def tw11627680212133906994 := 0
def tw11613484637953562117 := 0
def tw11568855750280617200 := 0
def tw11541814732314444957 := 0
def tw11467307568137048060 := 0
def tw11450137613012339316 := 0
def tw11343856128019618250 := 0
def tw11294978962723814957 := 0
def tw11290554593357667648 := 0
def tw11223128156763069141 := 0
def tw11120945702579643607 := 0
def tw11071359934438713873 := 0
def tw10953770064135070691 := 0
def tw10837898738324261908 := 0
def tw10793980210374485013 := 0
def tw10763923770774564508 := 0
def tw10753967677536548691 := 0
def tw10703918059126186292 := 0
def tw106934932045861281 := 0
def tw10677462997579057132 := 0
def tw10655782726032225263 := 0
def tw10630522017155397110 := 0
def tw1062378898164476596 := 0
def tw10620619190723462454 := 0
def tw10456320616656618010 := 0
def tw10427524632385285351 := 0
def tw10418033433670054244 := 0
def tw10183997377665196535 := 0
def tw10162123261709345174 := 0
def tw10143588408983070130 := 0
def tw10046644171194330260 := 0
end PySem.W.Fast
open PySem PySem.W PyProof.Rows
set_option maxRecDepth 100000 in
set_option maxHeartbeats 0 in
theorem PySem.Challenge.cw_roadsettings_k22_names_unlike_at_two_pla_holds : PySem.Challenge.rw_roadsettings_k22_names_unlike_at_two_pla.Holds := by
  w_on; o_law; k_head; (case hw => w_witness2)
  k_fill
  refine' K22.walk (l := PySem.Challenge.rw_roadsettings_k22_names_unlike_at_two_pla) (P_z3 := 46) rfl rfl (fun w h Y => ⟨PySem.W.km_in_of Y, PySem.W.km_tabs_of Y⟩) ?hK ?hP0 ?F
  case hP0 => decide
  case hK =>
    intro w b hb
    simp only [List.mem_cons, List.not_mem_nil, or_false] at hb
    rcases hb with rfl | rfl
    · exact ⟨by kernel_rfl, 50, by kernel_rfl⟩
    · exact ⟨by kernel_rfl, 209, by kernel_rfl⟩
  case F =>
    intro w mg fa h KX G hmg
    refine' K22.all_mk KX G hmg ?_ ?_ ?_ ?_ ?_ ?_ ?_ ?_ ?_ ?_ ?_ ?_ ?_ ?_ ?_ ?_ ?_ ?_ ?_ ?_ ?_ ?_ ?_ ?_ ?_ ?_ ?_ ?_ ?_ ?_ ?_ ?_ ?_ ?_ ?_ ?_ ?_ ?_ ?_ ?_ ?_ ?_ ?_ ?_ ?_ ?_ ?_ ?_ ?_ ?_ ?_ ?_ ?_ ?_ ?_ ?_ ?_ ?_ ?_ ?_ ?_ ?_ ?_ ?_ ?_ ?_ ?_ ?_ ?_ ?_ ?_ ?_ ?_ ?_ ?_ ?_ ?_ ?_ ?_ ?_ ?_ ?_ ?_ ?_ ?_ ?_ ?_ ?_
    all_goals try (first | refine ⟨⟨by k_is, by k_is, by k_is⟩, ⟨_, _, _, _, _, _, _, _, _, rfl, by k_is, by k_is⟩, by k_is⟩ | refine ⟨by k_is, ⟨_, _, _, _, _, _, _, _, _, rfl, by k_is, by k_is⟩, by k_is⟩ | refine ⟨by k_is, ⟨by k_is, by k_is, by k_is, by k_is⟩, by k_is, by k_is⟩ | refine ⟨⟨by k_is, by k_is, by k_is⟩, ⟨_, _, _, _, _, _, _, _, rfl, by k_is, by k_is⟩, by k_is, by kernel_rfl⟩ | refine ⟨by k_is, ⟨_, _, _, _, _, _, _, _, rfl, by k_is, by k_is⟩, by k_is, by kernel_rfl⟩ | (show _ = _; first | k_is | kernel_rfl))
