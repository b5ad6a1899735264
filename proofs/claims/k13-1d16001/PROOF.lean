import PyProof.Rows.All
import Wide.All
import OpenK.AllK
import Wide.FinOn
import Lean
import PyProof.EqAt
import PyProof.EqKinds
import PyProof.TupleCall
import PyProof.AutoListH
import KE.KEqDict
import PyProof.SetKind
import PyProof.Rows.SetFrom
import PyProof.Rows.SortShellK
import PyProof.SetRoads
import PyProof.ExcBaseAll.ValueError
import PyProof.ExcAttrAll.ValueError
import PySem.Challenge.RW_roadsettings_k13_nodes_reached_and_fresh
set_option Elab.async false
set_option linter.all false
set_option maxRecDepth 100000
set_option maxHeartbeats 4000000
open List (all_eq_true append_assoc drop_drop eq_nil_of_length_eq_zero extract_eq_drop_take filterMap_cons filter_cons find?_cons getElem?_append_left getElem?_append_right getElem?_eq_getElem getElem?_map getElem?_set_self length_append length_cons length_drop length_filter_le length_map length_range length_set length_take lookup_cons map_append map_cons map_map mem_append mem_append_left mem_append_right mem_cons mem_cons_of_mem mem_cons_self mem_filter mem_iff_getElem mem_iff_getElem? mem_map mem_of_getElem? mem_reverse mem_singleton nodup_cons of_mem_zip pairwise_append pairwise_cons pairwise_iff_getElem pairwise_map size_toArray take_append_drop take_of_length_le)
local macro_rules | `(tactic| omega) => `(tactic| lia)
namespace L2
open PySem PySem.Spec PyProof.Rows
abbrev Zk:=Sum Int Str
def YG:Zk->Value->Bool
 | .inl k,v=>Value.isInt k v
 | .inr x,v=>Value.isStrOf x v
def keyH (w:World):Zk->Int
 | .inl k=>hashInt k
 | .inr x=>hashStr w x
theorem ZO:∀{k:Zk}{v:Value},YG k v=true->(∃ i t,k=Sum.inl i/\v=Value.int i t)\/(∃ x t,k=Sum.inr x/\v=Value.str x t)
 | .inl i,v,h=>by
  obtain ⟨t,e⟩:=Value.isInt_shape (k:=i) (v:=v) h
  exact .inl ⟨i,t,rfl,e⟩
 | .inr x,v,h=>by
  obtain ⟨t,e⟩:=Value.isStrOf_shape (x:=x) (v:=v) h
  exact .inr ⟨x,t,rfl,e⟩
theorem Zck (i:Int)(t:Tok):YG (.inl i) (.int i t)=true:=by simp [YG,Value.isInt]
theorem Zcl (x:Str)(t:Tok):YG (.inr x) (.str x t)=true:=by simp [YG,Value.isStrOf]
theorem Zlf (a b:Int):decide ((Sum.inl a:Zk)=Sum.inl b)=(a == b):=by
 by_cases e:a=b
 ·subst e;simp
 ·have h:¬ (Sum.inl a:Zk)=Sum.inl b:=fun q=>e (Sum.inl.inj q)
  rw [decide_eq_false h]
  exact (beq_eq_false_iff_ne.mpr e).symm
theorem Zli (a b:Str):decide ((Sum.inr a:Zk)=Sum.inr b)=decide (a=b):=by
 by_cases e:a=b
 ·subst e;simp
 ·have h:¬ (Sum.inr a:Zk)=Sum.inr b:=fun q=>e (Sum.inr.inj q)
  rw [decide_eq_false h,decide_eq_false e]
theorem Zlg (a:Int)(b:Str):decide ((Sum.inl a:Zk)=Sum.inr b)=false:=decide_eq_false (fun q=>nomatch q)
theorem Zlh (a:Str)(b:Int):decide ((Sum.inr a:Zk)=Sum.inl b)=false:=decide_eq_false (fun q=>nomatch q)
def Zr (prog:Program)(w:World):PySem.KeyKind prog w Zk where
 is:=YG
 hash:=keyH w
 inj := fun v a b ha hb=>by
  rcases ZO ha with ⟨i,t,rfl,rfl⟩ | ⟨x,t,rfl,rfl⟩
  ·rcases ZO hb with ⟨j,u,rfl,e⟩ | ⟨y,u,rfl,e⟩
   ·injection e with e1 _;rw [e1]
   ·exact nomatch e
  ·rcases ZO hb with ⟨j,u,rfl,e⟩ | ⟨y,u,rfl,e⟩
   ·exact nomatch e
   ·injection e with e1 _;rw [e1]
 byValue:=fun k v h=>by
  rcases ZO h with ⟨i,t,rfl,rfl⟩ | ⟨x,t,rfl,rfl⟩<;>rfl
 pyHash:=fun hv h=>by
  rcases ZO hv with ⟨i,t,rfl,rfl⟩ | ⟨x,t,rfl,rfl⟩
  ·exact wpAny_pyHash_int h
  ·exact wpAny_pyHash_str h
 eqBool:=fun hu hv h=>by
  rcases ZO hu with ⟨i,t,rfl,rfl⟩ | ⟨x,t,rfl,rfl⟩
  ·rcases ZO hv with ⟨j,u,rfl,rfl⟩ | ⟨y,u,rfl,rfl⟩
   ·rw [Zlf] at h;exact wpAny_eqBool_int h
   ·rw [Zlg] at h;exact SeqAt.EqAt.int_str i t y u _ _ _ _ h
  ·rcases ZO hv with ⟨j,u,rfl,rfl⟩ | ⟨y,u,rfl,rfl⟩
   ·rw [Zlh] at h;exact SeqAt.EqAt.str_int x t j u _ _ _ _ h
   ·rw [Zli] at h;exact wpAny_eqBool_str h
 «strs»:=fun k x t v h=>by
  rcases ZO h with ⟨i,u,rfl,e⟩ | ⟨y,u,rfl,e⟩
  ·exact nomatch e
  ·injection e with e1 _
   subst e1
   cases v<;>rfl
theorem ZaY (prog:Program)(w:World)(k:Zk)(v:Value):(Zr prog w).is k v=YG k v:=rfl
theorem Zei (prog:Program)(w:World)(i:Int)(t:Tok):(Zr prog w).is (.inl i) (.int i t)=true:=Zck i t
theorem VW (prog:Program)(w:World)(x:Str)(t:Tok):(Zr prog w).is (.inr x) (.str x t)=true:=Zcl x t
inductive V where
 | non | bl (b:Bool) | int (i:Int) | str (x:Str) | byt (b:Array UInt8) | flt (b:UInt64) | ref (a:Addr) | ty (n:String)
 deriving DecidableEq
def RelV:V->Value->Prop
 | .non,u=>u=Value.none
 | .bl b,u=>u=Value.bool b
 | .int i,u=>∃ t,u=Value.int i t
 | .str x,u=>∃ t,u=Value.str x t
 | .byt b,u=>∃ t,u=Value.bytes b t
 | .flt b,u=>∃ t,u=Value.float b t
 | .ref a,u=>u=Value.ref a
 | .ty n,u=>u=Value.type n
abbrev Vals:List V->List Value->Prop:=Paired RelV
theorem Vals.length {xs:List V}{us:List Value}(r:Vals xs us):xs.length=us.length:=Paired.length r
theorem Vals.get:∀{xs:List V}{us:List Value}{i:Nat}{x:V},Vals xs us->xs[i]?=some x->∃ u,us[i]?=some u/\RelV x u
 | _,_,_,_,.nil,e=>by simp at e
 | _,_,0,_,.cons r _,e=>by simp at e;subst e;exact ⟨_,rfl,r⟩
 | _,_,i+1,x,.cons _ t,e=>by
  obtain ⟨u,h1,h2⟩:=Vals.get (i:=i) (x:=x) t (by simpa using e)
  exact ⟨u,by simpa using h1,h2⟩
theorem Vals.set {x:V}{u:Value}(r:RelV x u):∀{xs:List V}{us:List Value}(i:Nat),Vals xs us->Vals (xs.set i x) (us.set i u)
 | _,_,_,.nil=>.nil
 | _,_,0,.cons _ t=>.cons r t
 | _,_,i+1,.cons q t=>.cons q (Vals.set r i t)
theorem Vals.append:∀{xs ys:List V}{us ws:List Value},Vals xs us->Vals ys ws->Vals (xs++ys) (us++ws)
 | _,_,_,_,.nil,s=>s
 | _,_,_,_,.cons r t,s=>.cons r (Vals.append t s)
def RelO:Option V->Option Value->Prop
 | some v,some u=>RelV v u
 | none,none=>True
 | _,_=>False
def KV {κ:Type}:List (κ×V)->List (κ×Value)->Prop:=Paired fun (p:κ×V) (q:κ×Value)=>p.1=q.1/\RelV p.2 q.2
def kV:Zk->V
 | .inl i=>.int i
 | .inr x=>.str x
inductive HO where
 | lst (xs:List V)
 | tup (xs:List V)
 | dK (kvs:List (Zk×V)) | dT (kvs:List (List Zk×V))
 | set (S:Int->Bool) (n:Nat)
 | ins (C dx:Addr) (fs:List (Str×V))
 | own (x:Addr)
 | xd (fs:List (Str×V))
 | met (f x:Addr)
 | rng (lo hi:Int)
 | frz (o:Obj) (u:HO)
 | tbl (ps:Array Value)
 | ext (φ:Heap->Prop)
abbrev Hp:=Addr->Option HO
def upd (H:Hp)(a:Addr)(o:HO):Hp:=fun b=>if b=a then some o else H b
theorem Ze {H:Hp}{a:Addr}{o:HO}:upd H a o a=some o:=by unfold upd;rw [if_pos rfl]
theorem Zi {H:Hp}{a b:Addr}{o:HO}(h:b≠a):upd H a o b=H b:=by unfold upd;rw [if_neg h]
theorem ZkF {H:Hp}{a:Addr}{o u:HO}:upd (upd H a o) a u=upd H a u:=by
 funext b;unfold upd;split<;>rfl
theorem Zba {H:Hp}{a b:Addr}{o u:HO}(h:H a=some o)(h':H b=some u)(d:o≠u):a≠b:=by
 intro e;subst e;rw [h] at h';exact d (Option.some.inj h')
theorem Zn {H:Hp}{a b:Addr}{o:HO}(h:H a=some o)(h':H b=none):a≠b:=by
 intro e;subst e;rw [h] at h';cases h'
section
variable (P:Program)(w:World)
def ObjOk (H:Hp)(h:Heap)(a:Addr):HO->Prop
 | .lst xs=>xs.length<=sizeLine/\∃ (its:List Value) (n:Nat),Vals xs its/\h.get? a=some { cls:=.type "list",data:=.seq its.toArray n }
 | .tup xs=>xs.length<=sizeLine/\∃ its:List Value,Vals xs its/\IsTup h a its.toArray
 | .dK kvs=>kvs.length<=sizeLine/\(a == sysModules)=false/\∃ vs,KV kvs vs/\h.DictOf (Zr P w) a vs
 | .dT kvs=>kvs.length<=sizeLine/\(a == sysModules)=false/\∃ xs:List (List Zk×Addr×Value),
     Paired (fun (p:List Zk×V) (q:List Zk×Addr×Value)=>p.1=q.1/\H q.2.1=some (.tup (p.1.map kV))/\RelV p.2 q.2.2) kvs xs /\
     ∃ o es ep,h.get? a=some o/\o.ExactDict/\o.data=.dict es ep/\es.toList=xs.map (entryOfKey (tupleKind (Zr P w)))/\(xs.map (·.1)).Nodup
 | .set S n=>h.SetOf (intKind P w) a S n
 | .ins C dx fs=>H dx=some (.own a)/\fs.length<=1000/\dx≠a/\h.get? a=some (PySem.W.instObj C dx) /\
     ∃ mA,h.Ns1 dx mA/\(∀ f,RelO (fs.lookup f) (mA f))/\PySem.Within mA (fs.map (·.1))
 | .own _=>∃ o,h.get? a=some o
 | .xd fs=>∃ mA,h.Ns1 a mA/\∀ f,RelO (fs.lookup f) (mA f)
 | .rng lo hi=>∃ t u v,h.get? a=some { cls:=.type "range",data:=.fields #[.int lo t,.int hi u,.int 1 v] }
 | .frz o u=>h.get? a=some o/\ObjOk H h a u
 | .tbl ps=>h.get? a=some { cls:=.none,data:=.fields ps }
 | .met f x=>h.get? a=some (PySem.W.methodObj (.ref f) (.ref x))
 | .ext φ=>φ h/\(∃ o,h.get? a=some o)/\∀ h1 h2:Heap,φ h1->(∀ o,h1.get? a=some o->h2.get? a=some o)->φ h2
def HOk (H:Hp)(h:Heap):Prop:=∀ a o,H a=some o->ObjOk P w H h a o
end
section
variable {P:Program}{w:World}{H H':Hp}{h h':Heap}{a:Addr}{o:HO}
theorem ObjOk.lt (x:ObjOk P w H h a o):a < h.objs.size:=by
 cases o with
 | lst xs=>obtain ⟨_,_,_,_,e⟩:=x;exact Heap.lt_size e
 | tup xs=>obtain ⟨_,_,_,p⟩:=x;exact p.lt
 | dK kvs=>obtain ⟨_,_,_,_,o,_,_,e,_⟩:=x;exact Heap.lt_size e
 | dT kvs=>obtain ⟨_,_,_,_,o,_,_,e,_⟩:=x;exact Heap.lt_size e
 | set S n=>obtain ⟨o,_,_,_,e,_⟩:=x;exact Heap.lt_size e
 | ins C dx fs=>obtain ⟨_,_,_,e,_⟩:=x;exact Heap.lt_size e
 | own y=>obtain ⟨_,e⟩:=x;exact Heap.lt_size e
 | xd fs=>obtain ⟨_,⟨_,_,_,e,_⟩,_⟩:=x;exact Heap.lt_size e
 | rng lo hi=>obtain ⟨_,_,_,e⟩:=x;exact Heap.lt_size e
 | frz ob u=>obtain ⟨e,_⟩:=x;exact Heap.lt_size e
 | tbl ps=>exact Heap.lt_size (show h.get? a=some _ from x)
 | met f y=>exact Heap.lt_size (show h.get? a=some _ from x)
 | ext φ=>obtain ⟨_,⟨_,e⟩,_⟩:=x;exact Heap.lt_size e
theorem Paired.mapP {α β:Type}{F G:α->β->Prop}:∀{l₁:List α}{l₂:List β},Paired F l₁ l₂->(∀ a b,F a b->G a b)->Paired G l₁ l₂
 | _,_,.nil,_=>.nil
 | _,_,.cons r t,f=>.cons (f _ _ r) (Paired.mapP t f)
theorem ObjOk.stay (x:ObjOk P w H h a o)(k:∀ b u,(b=a\/H b=some (.own a))->h.get? b=some u->h'.get? b=some u)
 (ho:∀ b,H b=some (.own a)->H' b=some (.own a)) (ht:∀ b xs,H b=some (.tup xs)->H' b=some (.tup xs)):ObjOk P w H' h' a o:=by
 induction o with
 | lst xs=>obtain ⟨z,its,n,r,e⟩:=x;exact ⟨z,its,n,r,k _ _ (.inl rfl) e⟩
 | tup xs=>obtain ⟨z,its,r,ob,e,c⟩:=x;exact ⟨z,its,r,ob,k _ _ (.inl rfl) e,c⟩
 | dK kvs=>obtain ⟨z,y,vs,r,ob,es,ep,e,c⟩:=x;exact ⟨z,y,vs,r,ob,es,ep,k _ _ (.inl rfl) e,c⟩
 | dT kvs =>
  obtain ⟨z,y,xs,r,ob,es,ep,e,c⟩:=x
  exact ⟨z,y,xs,Paired.mapP r fun p q z=>⟨z.1,ht _ _ z.2.1,z.2.2⟩,ob,es,ep,k _ _ (.inl rfl) e,c⟩
 | set S n=>obtain ⟨ob,es,ep,t,e,c⟩:=x;exact ⟨ob,es,ep,t,k _ _ (.inl rfl) e,c⟩
 | ins C dx fs =>
  obtain ⟨d,z,ne,e,mA,⟨od,es,ep,e2,c⟩,r⟩:=x
  exact ⟨ho _ d,z,ne,k _ _ (.inl rfl) e,mA,⟨od,es,ep,k _ _ (.inr d) e2,c⟩,r⟩
 | own y=>obtain ⟨ob,e⟩:=x;exact ⟨ob,k _ _ (.inl rfl) e⟩
 | xd fs=>obtain ⟨mA,⟨od,es,ep,e,c⟩,r⟩:=x;exact ⟨mA,⟨od,es,ep,k _ _ (.inl rfl) e,c⟩,r⟩
 | rng lo hi=>obtain ⟨t,u,v,e⟩:=x;exact ⟨t,u,v,k _ _ (.inl rfl) e⟩
 | frz ob u ih=>obtain ⟨e,q⟩:=x;exact ⟨k _ _ (.inl rfl) e,ih q⟩
 | tbl ps =>
  have e:h.get? a=some { cls:=.none,data:=.fields ps }:=x
  show h'.get? a=some { cls:=.none,data:=.fields ps }
  exact k a _ (.inl rfl) e
 | met f y =>
  have e:h.get? a=some (PySem.W.methodObj (.ref f) (.ref y)):=x
  show h'.get? a=some (PySem.W.methodObj (.ref f) (.ref y))
  exact k a _ (.inl rfl) e
 | ext φ=>obtain ⟨p,⟨o,e⟩,st⟩:=x;exact ⟨st _ _ p fun o q=>k _ _ (.inl rfl) q,⟨o,k _ _ (.inl rfl) e⟩,st⟩
theorem HOk.lt (x:HOk P w H h)(e:H a=some o):a < h.objs.size:=(x a o e).lt
theorem HOk.fresh (x:HOk P w H h)(e:h.objs.size<=a):H a=none:=by
 cases q:H a with
 | none=>rfl
 | some u=>exact absurd (Nat.lt_of_lt_of_le (x.lt q) e) (Nat.lt_irrefl _)
theorem HOk.kept (x:HOk P w H h)(k:∀ b u,h.get? b=some u->h'.get? b=some u):HOk P w H h':=fun a o e =>
 (x a o e).stay (fun b u _ q=>k b u q) (fun _ q=>q) fun _ _ q=>q
theorem HOk.laid (x:HOk P w H h)(k:∀ b u,h.get? b=some u->h'.get? b=some u)(hp:h.objs.size<=a)(new:ObjOk P w (upd H a o) h' a o):HOk P w (upd H a o) h':=fun b u e=>by
 have hn:=x.fresh hp
 by_cases hb:b=a
 ·subst hb;rw [Ze] at e;cases e;exact new
 ·rw [Zi hb] at e
  exact (x b u e).stay (fun c v _ q=>k c v q) (fun c q=>by rw [Zi (Zn q hn)];exact q) fun c xs q=>by rw [Zi (Zn q hn)];exact q
end
def Rd (H:Hp)(a:Addr)(u:HO):Prop:=H a=some u\/∃ o,H a=some (.frz o u)
theorem Rd.ok {P:Program}{w:World}{H:Hp}{h:Heap}{a:Addr}{u:HO}(r:Rd H a u)(x:HOk P w H h):ObjOk P w H h a u:=by
 rcases r with r | ⟨o,r⟩
 ·exact x a u r
 ·obtain ⟨_,q⟩:=x a _ r
  exact q
def Mut:Option HO->Prop
 | some (.lst _)=>True
 | some (.dK _)=>True
 | some (.dT _)=>True
 | some (.set _ _)=>True
 | some (.ins _ _ _)=>True
 | some (.ext _)=>True
 | _=>False
section
variable {P:Program}{w:World}{H:Hp}{h h':Heap}{x e:Addr}{o':HO}
theorem HOk.write (ok:HOk P w H h)(mu:Mut (H x))(he:e=x\/H e=some (.own x))(k:∀ b u,b≠e->h.get? b=some u->h'.get? b=some u)(heo:∃ u,h'.get? e=some u)
 (new:ObjOk P w (upd H x o') h' x o'):HOk P w (upd H x o') h':=fun b u q=>by
 have nown:∀ c y,H c=some (.own y)->c≠x:=fun c y r z=>by subst z;rw [r] at mu;exact mu
 have ntup:∀ c xs,H c=some (.tup xs)->c≠x:=fun c xs r z=>by subst z;rw [r] at mu;exact mu
 by_cases hb:b=x
 ·subst hb;rw [Ze] at q;cases q;exact new
 ·rw [Zi hb] at q
  by_cases hbe:b=e
  ·have q':H b=some (.own x):=by
    rcases he with z | z
    ·exact absurd (hbe.trans z) hb
    ·rw [hbe];exact z
   rw [q] at q';cases q'
   obtain ⟨v,hv⟩:=heo
   exact ⟨v,by rw [hbe];exact hv⟩
  ·refine (ok b u q).stay (fun c v hc r=>k c v ?_ r) (fun c r=>by rw [Zi (nown c b r)];exact r) fun c xs r=>by rw [Zi (ntup c xs r)];exact r
   rcases hc with rfl | hc
   ·exact hbe
   ·rintro rfl
    rcases he with z | z
    ·exact nown c b hc z
    ·rw [hc] at z;cases z;exact hb rfl
end
structure Un (fs ex:List Addr)(H H':Hp)(h h':Heap):Prop where
 keep:∀ b o,h.get? b=some o->H b=none->b ∉ fs->b ∉ ex->h'.get? b=some o
 slot:∀ b o,h.get? b=some o->H b=none->b∈fs->b ∉ ex->∃ sl,h'.get? b=some { o with slots:=sl }
 free:∀ b o,h.get? b=some o->H b=none->b ∉ ex->H' b=none
 there:∀ b o,h.get? b=some o->b ∉ ex->∃ o',h'.get? b=some o'
 tups:∀ b xs,H b=some (.tup xs)->H' b=some (.tup xs)
 frzs:∀ b o u,H b=some (.frz o u)->H' b=some (.frz o u)
 tbls:∀ b ps,H b=some (.tbl ps)->∃ more,H' b=some (.tbl (ps++more))
section
variable {fs fs' ex ex':List Addr}{H H1 H2:Hp}{h h1 h2 h':Heap}{a x e:Addr}{o:HO}
theorem Un.any (u:Un fs ex H H1 h h1){b:Addr}{ob:Obj}(q:h.get? b=some ob)(n:H b=none)(hx:b ∉ ex):∃ sl,h1.get? b=some { ob with slots:=sl }:=by
 by_cases hb:b∈fs
 ·exact u.slot b ob q n hb hx
 ·exact ⟨ob.slots,u.keep b ob q n hb hx⟩
theorem Un.kept (k:∀ b u,h.get? b=some u->h'.get? b=some u):Un fs ex H H h h' :=
 ⟨fun b ob q _ _ _=>k b ob q,fun b ob q _ _ _=>⟨ob.slots,k b ob q⟩,fun _ _ _ n _=>n,fun b ob q _=>⟨ob,k b ob q⟩,fun _ _ q=>q,fun _ _ _ q=>q,fun _ ps q=>⟨#[],by rw [q];simp⟩⟩
theorem Un.refl:Un fs ex H H h h:=Un.kept fun _ _ q=>q
theorem Un.laid (k:∀ b u,h.get? b=some u->h'.get? b=some u)(hp:h.objs.size<=a)(hn:H a=none):Un fs ex H (upd H a o) h h' where
 keep:=fun b u q _ _ _=>k b u q
 slot:=fun b u q _ _ _=>⟨u.slots,k b u q⟩
 free:=fun b u q n _=>by rw [Zi (Nat.ne_of_lt (Nat.lt_of_lt_of_le (Heap.lt_size q) hp))];exact n
 there:=fun b u q _=>⟨u,k b u q⟩
 tups:=fun b xs q=>by rw [Zi (Zn q hn)];exact q
 frzs:=fun b u xs q=>by rw [Zi (Zn q hn)];exact q
 tbls:=fun b ps q=>⟨#[],by rw [Zi (Zn q hn),q];simp⟩
theorem Un.write (mu:Mut (H x))(he:e=x\/H e=some (.own x))(k:∀ b u,b≠e->h.get? b=some u->h'.get? b=some u)(heo:∃ u,h'.get? e=some u):Un fs ex H (upd H x o) h h':=by
 have hx:∀ b,H b=none->b≠x:=fun b n z=>by subst z;rw [n] at mu;exact mu
 have hb:∀ b,H b=none->b≠e:=fun b n z=>by
  subst z
  rcases he with r | r
  ·exact hx b n r
  ·rw [n] at r;cases r
 have hm:∀ b u,H b=some u->¬ Mut (some u)->b≠x:=fun b u q nm z=>by subst z;rw [q] at mu;exact nm mu
 refine ⟨fun b u q n _ _=>k b u (hb b n) q,fun b u q n _ _=>⟨u.slots,k b u (hb b n) q⟩,fun b u q n _=>by rw [Zi (hx b n)];exact n,fun b u q _=>?_,
  fun b xs q=>by rw [Zi (hm b _ q fun z=>z)];exact q,fun b u xs q=>by rw [Zi (hm b _ q fun z=>z)];exact q,fun b ps q=>⟨#[],by rw [Zi (hm b _ q fun z=>z),q];simp⟩⟩
 by_cases hbe:b=e
 ·subst hbe;exact heo
 ·exact ⟨u,k b u hbe q⟩
end
def trk (h:Heap)(H:Hp):List Addr:=(List.range h.objs.size).filter fun a=>(H a).isSome
def Ur (h:Heap)(H:Hp):Heap:=PySem.W.hideAll h (trk h H)
theorem Zgt (h:Heap)(H:Hp):(Ur h H).objs.size=h.objs.size:=PySem.W.hideAll_size _ _
theorem ZhX {h:Heap}{H:Hp}{b:Addr}{o:Obj}(e:h.get? b=some o)(n:H b=none):(Ur h H).get? b=some o :=
 PySem.W.hideAll_get _ e fun hm=>by
  have q:(H b).isSome=true:=(mem_filter.mp hm).2
  rw [n] at q;simp at q
theorem ZjX {h:Heap}{H:Hp}{b:Addr}{o:Obj}(e:(Ur h H).get? b=some o):h.get? b=some o/\H b=none:=by
 have e':h.get? b=some o:=PySem.W.of_hideAll (trk h H) e
 refine ⟨e',?_⟩
 cases q:H b with
 | none=>rfl
 | some x =>
  have hm:b∈trk h H:=mem_filter.mpr ⟨List.mem_range.mpr (Heap.lt_size e'),by simp [q]⟩
  have z:(Ur h H).get? b=none:=PySem.W.hideAll_none (trk h H) hm
  rw [z] at e;cases e
structure Mod (K:PySem.W.Frag)(mg:Str->Option Value)(base:Heap):Prop where
 kin:K.In base
 glob:base.Ns mainGlobals mg
 blt:∃ mb,base.Ns builtinsNs mb/\∀ x:Str,x≠"__name__"->mb x=bootBuiltins x
 nolimit:base.NoLimit
structure Cx where
 prog:Program
 w:World
 K:PySem.W.Frag
 mg:Str->Option Value
 base:Heap
 A:Around
 N:List Str
 s₀:Shared
 H₀:Hp
 env:Env
 outer:List Env
 stack:List Env
 ex:List Addr
 fn:Str->Bool
 calm:Bool
 pn:List (Addr×Obj)
 xe:Value->Shared->Prop
def Vt (l:List Env):List Addr:=l.filterMap (·.frame)
abbrev Cx.fs (X:Cx):List Addr:=Vt X.outer
def Vis (sc:Scope)(x:Str):Prop:=sc.names.lookup x=some .local\/sc.names.lookup x=some .cell\/sc.names.lookup x=some .free
def Loc (sc:Scope)(x:Str):Prop:=sc.names.lookup x=some .local\/sc.names.lookup x=some .cell
def Look (env:Env)(h:Heap)(m:Str->Option Value)(x:Str)(u:Value):Prop :=
 (env.kindOf x=some .local/\m x=some u)\/((env.kindOf x=some .cell\/env.kindOf x=some .free)/\∃ c,env.cells.lookup x=some c/\h.IsCell c (some u))
structure Cx.Ok (X:Cx):Prop where
 mod:Mod X.K X.mg X.base
 kind:X.env.scope.kind=.function
 glob:X.env.globals=mainGlobals
 blt:X.env.builtins=builtinsNs
 above:X.s₀.heap.objs.size<=X.env.locals
 inj:∀ x y c,X.env.cells.lookup x=some c->X.env.cells.lookup y=some c->x=y
 has:∀ x,(X.env.kindOf x=some .cell\/X.env.kindOf x=some .free)->∃ c,X.env.cells.lookup x=some c
 cab:∀ x c,X.fn x=true->X.env.cells.lookup x=some c->X.s₀.heap.objs.size<=c
 hd:X.calm=true->X.A.handled=none
 frames:X.A.frames=some X.stack
 stk:X.stack=X.outer\/(X.stack=X.env::X.outer/\X.env.frame=some X.env.locals)
 exf:∀ b∈X.ex,b≠X.env.locals/\∀ x c,X.env.cells.lookup x=some c->c≠b
 bs:∀ b o,X.base.get? b=some o->X.s₀.heap.get? b=some o/\X.H₀ b=none
 bsz:X.base.objs.size<=X.s₀.heap.objs.size
 noex:∀ b o,X.base.get? b=some o->b ∉ X.ex
 exfs:∀ b∈X.ex,b ∉ X.fs
 funs:X.s₀.heap.FunFrames X.base X.outer
 frf:∀ b∈X.fs,X.H₀ b=none
structure Inv (X:Cx)(pins:List (Addr×Obj))(σ:List (Option V))(H:Hp)(s:Shared):Prop where
 ok:X.Ok
 os:s.os=X.s₀.os
 bare:AllBare s.gens
 base:Un X.fs X.ex X.H₀ H X.s₀.heap s.heap
 loc:∃ m,s.heap.Ns X.env.locals m/\∀ (i:Nat) (x:Str) (v:V),X.N[i]?=some x->σ[i]?=some (some v)->Vis X.env.scope x->∃ u,RelV v u/\Look X.env s.heap m x u
 cell:∀ x c,X.env.cells.lookup x=some c->∃ v,s.heap.IsCell c v
 free:H X.env.locals=none
 freeC:∀ x c,X.env.cells.lookup x=some c->H c=none
 pin:∀ p∈X.pn++pins,s.heap.get? p.1=some p.2/\H p.1=none/\p.1≠X.env.locals/\p.1 ∉ X.fs/\∀ v,p.2.data≠.cell v
 hok:HOk X.prog X.w H s.heap
 len:σ.length=X.N.length
section
variable {X:Cx}{pins:List (Addr×Obj)}{σ:List (Option V)}{H H':Hp}{s:Shared}{h':Heap}
theorem Cx.Ok.nofr (ok:X.Ok){b:Addr}{o:Obj}(e:X.base.get? b=some o):b ∉ X.fs:=fun hb=>by
 have:=(ok.funs.mem hb).1
 rw [e] at this;cases this
theorem Inv.bs (I:Inv X pins σ H s):∀ b o,X.base.get? b=some o->s.heap.get? b=some o/\H b=none:=fun b o e =>
 ⟨I.base.keep b o (I.ok.bs b o e).1 (I.ok.bs b o e).2 (I.ok.nofr e) (I.ok.noex b o e),I.base.free b o (I.ok.bs b o e).1 (I.ok.bs b o e).2 (I.ok.noex b o e)⟩
theorem Inv.bk (I:Inv X pins σ H s):∀ b o,X.base.get? b=some o->s.heap.get? b=some o:=fun b o e=>(I.bs b o e).1
theorem Inv.mod (I:Inv X pins σ H s):Mod X.K X.mg X.base:=I.ok.mod
theorem Inv.kIn (I:Inv X pins σ H s):X.K.In s.heap:=I.ok.mod.kin.keeps I.bk
theorem Inv.nolimit (I:Inv X pins σ H s):s.heap.NoLimit:=I.ok.mod.nolimit.keeps I.bk
theorem Inv.lt (I:Inv X pins σ H s):X.env.locals < s.heap.objs.size:=let ⟨_,hn,_⟩:=I.loc;hn.lt
theorem Inv.sz (I:Inv X pins σ H s):X.s₀.heap.objs.size<=s.heap.objs.size:=Nat.le_trans I.ok.above (Nat.le_of_lt I.lt)
theorem Inv.nofs (I:Inv X pins σ H s){a:Addr}(h:s.heap.objs.size<=a):a ∉ X.fs:=fun hb=>by
 obtain ⟨_,o,ho,_⟩:=I.ok.funs.mem hb
 exact absurd (Nat.lt_of_lt_of_le (Heap.lt_size ho) (Nat.le_trans I.sz h)) (Nat.lt_irrefl _)
theorem Inv.cne (I:Inv X pins σ H s):∀ x c,X.env.cells.lookup x=some c->c≠X.env.locals:=fun x c e z=>by
 obtain ⟨v,o,ho,hd⟩:=I.cell x c e
 obtain ⟨m,⟨o',es,ep,ho',hd',_⟩,_⟩:=I.loc
 rw [z,ho'] at ho;cases ho;rw [hd'] at hd;cases hd
theorem Inv.funs (I:Inv X pins σ H s):s.heap.FunFrames X.base X.outer:=by
 have all:∀ (l:List Env),(∀ b∈Vt l,b∈X.fs)->X.s₀.heap.FunFrames X.base l->s.heap.FunFrames X.base l:=by
  intro l
  induction l with
  | nil=>intro _ _;trivial
  | cons env r ih =>
   intro hs hl
   obtain ⟨hk,⟨L,o,hf,hn,ho,hd⟩,hr⟩:=hl
   have hL:L∈X.fs:=hs L (by unfold Vt;rw [filterMap_cons,hf];exact mem_cons_self)
   obtain ⟨sl,e⟩:=I.base.slot L o ho (I.ok.frf L hL) hL fun z=>I.ok.exfs L z hL
   exact ⟨hk,⟨L,_,hf,hn,e,hd⟩,ih (fun b hb=>hs b (by unfold Vt;rw [filterMap_cons,hf];exact mem_cons_of_mem _ hb)) hr⟩
 exact all X.outer (fun _ hb=>hb) I.ok.funs
theorem Inv.stack (I:Inv X pins σ H s):s.heap.FunFrames X.base X.stack:=by
 rcases I.ok.stk with e | ⟨e,hf⟩
 ·rw [e];exact I.funs
 ·rw [e]
  obtain ⟨m,hn,_⟩:=I.loc
  refine .cons (by rw [I.ok.kind];decide) hf hn ?_ I.funs
  exact Heap.get?_none_of_le (Nat.le_trans I.ok.bsz I.ok.above)
theorem Inv.stkSub (I:Inv X pins σ H s):∀ b∈Vt X.stack,b∈X.env.locals::X.fs:=fun b hb=>by
 rcases I.ok.stk with e | ⟨e,hf⟩
 ·rw [e] at hb;exact mem_cons_of_mem _ hb
 ·rw [e] at hb
  unfold Vt at hb
  rw [filterMap_cons,hf] at hb
  exact hb
theorem Inv.stkFree (I:Inv X pins σ H s):∀ b∈Vt X.stack,H b=none:=fun b hb=>by
 rcases mem_cons.mp (I.stkSub b hb) with e | hb
 ·rw [e];exact I.free
 ·obtain ⟨_,o,ho,_⟩:=I.ok.funs.mem hb
  exact I.base.free b o ho (I.ok.frf b hb) fun z=>I.ok.exfs b z hb
theorem Inv.step {g':Array GenState}{t':Nat}{d':Drawn}{ch:List Addr}(I:Inv X pins σ H s)
 (hch:∀ b∈ch,(b∈X.ex\/X.s₀.heap.objs.size<=b)/\b≠X.env.locals/\(∀ x c,X.env.cells.lookup x=some c->c≠b)/\∀ p∈X.pn++pins,p.1≠b)
 (keep:∀ b o,b≠X.env.locals->b ∉ X.fs->b ∉ ch->s.heap.get? b=some o->H b=none->h'.get? b=some o)
 (slot:∀ b o,b≠X.env.locals->b∈X.fs->b ∉ ch->s.heap.get? b=some o->H b=none->∃ sl,h'.get? b=some { o with slots:=sl }) (free:∀ b o,b ∉ ch->s.heap.get? b=some o->H b=none->H' b=none)
 (there:∀ b o,b ∉ ch->s.heap.get? b=some o->∃ o',h'.get? b=some o')
 (tups:∀ b xs,H b=some (.tup xs)->H' b=some (.tup xs)) (frzs:∀ b o u,H b=some (.frz o u)->H' b=some (.frz o u)) (tbls:∀ b ps,H b=some (.tbl ps)->∃ more,H' b=some (.tbl (ps++more)))
 (ns:∀ m,s.heap.Ns X.env.locals m->h'.Ns X.env.locals m) (hok:HOk X.prog X.w H' h') (hg:AllBare g') :
 Inv X pins σ H' { s with heap:=h',gens:=g',drawn:=d',toks:=t' }:=by
 have neL:∀ b o,X.s₀.heap.get? b=some o->b≠X.env.locals:=fun b o e=>Nat.ne_of_lt (Nat.lt_of_lt_of_le (Heap.lt_size e) I.ok.above)
 have neC:∀ b o,X.s₀.heap.get? b=some o->b ∉ X.ex->b ∉ ch:=fun b o e hx hb=>by
  rcases (hch b hb).1 with z | z
  ·exact hx z
  ·exact absurd (Nat.lt_of_lt_of_le (Heap.lt_size e) z) (Nat.lt_irrefl _)
 have cellK:∀ x c,X.env.cells.lookup x=some c->∀ v,s.heap.IsCell c v->h'.IsCell c v:=fun x c e v ⟨o,ho,hd⟩=>by
  have nch:c ∉ ch:=fun z=>(hch c z).2.2.1 x c e rfl
  by_cases hc:c∈X.fs
  ·obtain ⟨sl,q⟩:=slot c o (I.cne x c e) hc nch ho (I.freeC x c e)
   exact ⟨_,q,hd⟩
  ·exact ⟨o,keep c o (I.cne x c e) hc nch ho (I.freeC x c e),hd⟩
 refine ⟨I.ok,I.os,hg,⟨fun b o e n hb hx=>?_,fun b o e n hb hx=>?_,fun b o e n hx=>?_,fun b o e hx=>?_,fun b xs e=>tups b xs (I.base.tups b xs e),fun b o xs e=>frzs b o xs (I.base.frzs b o xs e),fun b ps e=>?_⟩,?_,fun x c e=>?_,?_,fun x c e=>?_,fun p hp=>?_,hok,I.len⟩
 ·exact keep b o (neL b o e) hb (neC b o e hx) (I.base.keep b o e n hb hx) (I.base.free b o e n hx)
 ·obtain ⟨sl,e1⟩:=I.base.slot b o e n hb hx
  obtain ⟨sl',e2⟩:=slot b _ (neL b o e) hb (neC b o e hx) e1 (I.base.free b o e n hx)
  exact ⟨sl',e2⟩
 ·obtain ⟨o',e1⟩:=I.base.there b o e hx
  exact free b o' (neC b o e hx) e1 (I.base.free b o e n hx)
 ·obtain ⟨o',e1⟩:=I.base.there b o e hx
  exact there b o' (neC b o e hx) e1
 ·obtain ⟨m1,e1⟩:=I.base.tbls b ps e
  obtain ⟨m2,e2⟩:=tbls b _ e1
  exact ⟨m1++m2,by rw [e2,Array.append_assoc]⟩
 ·obtain ⟨m,hn,hl⟩:=I.loc
  refine ⟨m,ns m hn,fun i x v e1 e2 e3=>?_⟩
  obtain ⟨u,r,l⟩:=hl i x v e1 e2 e3
  refine ⟨u,r,?_⟩
  rcases l with l | ⟨k,c,e,z⟩
  ·exact .inl l
  ·exact .inr ⟨k,c,e,cellK x c e _ z⟩
 ·obtain ⟨v,z⟩:=I.cell x c e
  exact ⟨v,cellK x c e v z⟩
 ·obtain ⟨m,⟨o,_,_,ho,_⟩,_⟩:=I.loc
  exact free _ o (fun z=>(hch _ z).2.1 rfl) ho I.free
 ·obtain ⟨v,o,ho,hd⟩:=I.cell x c e
  exact free c o (fun z=>(hch c z).2.2.1 x c e rfl) ho (I.freeC x c e)
 ·obtain ⟨e,n,ne,nf,d⟩:=I.pin p hp
  have nch:p.1 ∉ ch:=fun z=>(hch p.1 z).2.2.2 p hp rfl
  exact ⟨keep p.1 p.2 ne nf nch e n,free p.1 p.2 nch e n,ne,nf,d⟩
theorem Inv.un {t':Nat}(I:Inv X pins σ H s)(u:Un X.fs [] H H' s.heap h')(hok:HOk X.prog X.w H' h'):Inv X pins σ H' { s with heap:=h',toks:=t' }:=by
 obtain ⟨m,⟨o,es,ep,ho,r⟩,_⟩:=id I.loc
 obtain ⟨sl,hL⟩:=u.any ho I.free (by simp)
 exact I.step (g':=s.gens) (d':=s.drawn) (ch:=[]) (fun _ z=>nomatch z) (fun b o _ hb _ e n=>u.keep b o e n hb (by simp)) (fun b o _ hb _ e n=>u.slot b o e n hb (by simp)) (fun b o _ e n=>u.free b o e n (by simp)) (fun b o _ e=>u.there b o e (by simp)) u.tups u.frzs u.tbls (fun m' hm=>by
  obtain ⟨o',es',ep',ho',r'⟩:=hm
  rw [ho] at ho';cases ho'
  exact ⟨_,es',ep',hL,r'⟩) hok I.bare
theorem Inv.call {g':Array GenState}{t':Nat}{d':Drawn}{ch:List Addr}(I:Inv X pins σ H s)(u:Un (Vt X.stack) ch H H' s.heap h')(hok:HOk X.prog X.w H' h')(hg:AllBare g')
 (hch:∀ b∈ch,(b∈X.ex\/X.s₀.heap.objs.size<=b)/\b≠X.env.locals/\(∀ x c,X.env.cells.lookup x=some c->c≠b)/\∀ p∈X.pn++pins,p.1≠b) :
 Inv X pins σ H' { s with heap:=h',gens:=g',drawn:=d',toks:=t' }:=by
 obtain ⟨m,⟨o,es,ep,ho,r⟩,_⟩:=id I.loc
 obtain ⟨sl,hL⟩:=u.any ho I.free fun z=>(hch _ z).2.1 rfl
 exact I.step (ch:=ch) hch (fun b o hL hb hc e n=>u.keep b o e n (fun z=>(mem_cons.mp (I.stkSub b z)).elim hL hb) hc) (fun b o _ _ hc e n=>u.any e n hc) (fun b o hc e n=>u.free b o e n hc) (fun b o hc e=>u.there b o e hc) u.tups u.frzs u.tbls (fun m' hm=>by
  obtain ⟨o',es',ep',ho',r'⟩:=hm
  rw [ho] at ho';cases ho'
  exact ⟨_,es',ep',hL,r'⟩) hok hg
theorem Inv.turned {t':Nat}{it:Addr}(I:Inv X pins σ H s)(k:∀ b o,b≠it->s.heap.get? b=some o->h'.get? b=some o)(hn:H it=none)(hL:it≠X.env.locals)
 (h1:it∈X.ex\/X.s₀.heap.objs.size<=it) (h2:∀ x c,X.env.cells.lookup x=some c->c≠it) (h3:∀ p∈X.pn++pins,p.1≠it):Inv X pins σ H { s with heap:=h',toks:=t' }:=by
 have nit:∀ b u,H b=some u->b≠it:=fun b u e z=>by rw [z,hn] at e;cases e
 refine I.step (g':=s.gens) (d':=s.drawn) (ch:=[it]) (fun b hb=>?_) (fun b o _ _ hc e _=>k b o (fun z=>hc (by simp [z])) e) (fun b o _ _ hc e _=>⟨o.slots,k b o (fun z=>hc (by simp [z])) e⟩) (fun _ _ _ _ n=>n)
  (fun b o hc e=>⟨o,k b o (fun z=>hc (by simp [z])) e⟩) (fun _ _ e=>e) (fun _ _ _ e=>e) (fun b ps e=>⟨#[],by rw [e];simp⟩) (fun m hm=>?_) (fun b u e=>?_) I.bare
 ·have e:b=it:=by simpa using hb
  subst e
  exact ⟨h1,hL,h2,h3⟩
 ·obtain ⟨o,es,ep,ho,r⟩:=hm
  exact ⟨o,es,ep,k _ o (Ne.symm hL) ho,r⟩
 ·refine (I.hok b u e).stay (fun c v hc q=>k c v ?_ q) (fun _ q=>q) fun _ _ q=>q
  rcases hc with z | z
  ·rw [z];exact nit b u e
  ·exact nit c _ z
theorem Inv.tok (I:Inv X pins σ H s)(t:Nat):Inv X pins σ H { s with toks:=t }:=I.un (h':=s.heap) (t':=t) Un.refl I.hok
theorem Inv.kept {t':Nat}(I:Inv X pins σ H s)(k:∀ b u,s.heap.get? b=some u->h'.get? b=some u):Inv X pins σ H { s with heap:=h',toks:=t' }:=I.un (Un.kept k) (I.hok.kept k)
theorem Inv.laid {a:Addr}{o:HO}{t':Nat}(I:Inv X pins σ H s)(k:∀ b u,s.heap.get? b=some u->h'.get? b=some u)(hp:s.heap.objs.size<=a)(new:ObjOk X.prog X.w (upd H a o) h' a o) :
 Inv X pins σ (upd H a o) { s with heap:=h',toks:=t' }:=I.un (Un.laid k hp (I.hok.fresh hp)) (I.hok.laid k hp new)
theorem Inv.write {x e:Addr}{o:HO}{t':Nat}(I:Inv X pins σ H s)(mu:Mut (H x))(he:e=x\/H e=some (.own x))(k:∀ b u,b≠e->s.heap.get? b=some u->h'.get? b=some u)(heo:∃ u,h'.get? e=some u)
 (new:ObjOk X.prog X.w (upd H x o) h' x o):Inv X pins σ (upd H x o) { s with heap:=h',toks:=t' }:=I.un (Un.write mu he k heo) (I.hok.write mu he k heo new)
theorem Inv.pins_of {pins':List (Addr×Obj)}(I:Inv X pins σ H s)(h:∀ p∈pins',s.heap.get? p.1=some p.2/\H p.1=none/\p.1≠X.env.locals/\p.1 ∉ X.fs/\∀ v,p.2.data≠.cell v):Inv X pins' σ H s :=
 ⟨I.ok,I.os,I.bare,I.base,I.loc,I.cell,I.free,I.freeC,fun p hp=>(mem_append.mp hp).elim (fun z=>I.pin p (mem_append_left _ z)) (h p),I.hok,I.len⟩
theorem Zdr {N:List Str}(hN:N.Nodup){i j:Nat}{x:Str}(a:N[i]?=some x)(b:N[j]?=some x):i=j:=by
 obtain ⟨h1,e1⟩:=List.getElem?_eq_some_iff.mp a
 obtain ⟨h2,e2⟩:=List.getElem?_eq_some_iff.mp b
 exact (List.getElem_inj hN).mp (e1.trans e2.symm)
theorem Zcx {M:Model}{A:Around}{E:Value->Shared->Prop}{i:Nat}{x:Str}{v:V}{u:Value}{Q:Unit->Shared->Prop}(I:Inv X pins σ H s)(hN:X.N.Nodup)(hi:X.N[i]?=some x)(hx:Loc X.env.scope x)(r:RelV v u)
 (h:∀ s',Inv X pins (σ.set i (some v)) H s'->(∃ a,Heap.SameBut a s.heap s'.heap/\(a=X.env.locals\/X.env.cells.lookup x=some a))->Q () s') (hf:X.fn x=true\/X.env.scope.names.lookup x=some .local:=by first | exact .inl rfl | exact .inr rfl | assumption):wpAny M A (storeName X.env x u) Q E s:=by
 obtain ⟨m,hn,hl⟩:=id I.loc
 have hcls:(X.env.scope.kind == .class || (X.env.scope.kind == .module&&X.env.locals != X.env.globals))=false:=by rw [I.ok.kind];rfl
 have hiσ:i < σ.length:=by rw [I.len];exact (List.getElem?_eq_some_iff.mp hi).1
 have cne:=I.cne
 have tracked:∀ {a:Addr} {h':Heap},(∃ o,s.heap.get? a=some o/\H a=none)->Heap.SameBut a s.heap h'->HOk X.prog X.w H h':=fun {a h'} ha hs b ob e=>by
  obtain ⟨_,_,hfree⟩:=ha
  refine (I.hok b ob e).stay (fun c w' hc q=>(hs.2 c ?_).trans q) (fun _ q=>q) fun _ _ q=>q
  rintro rfl
  rcases hc with rfl | hc
  ·rw [hfree] at e;cases e
  ·rw [hfree] at hc;cases hc
 rcases hx with hk | hk
 ·refine wpAny_storeName_local hk hn (fun h' hn' hs=>?_) hcls
  obtain ⟨oL,_,_,hoL,_⟩:=id hn
  refine h _ ⟨I.ok,I.os,I.bare,⟨fun b o e n hb hx=>?_,fun b o e n hb hx=>?_,I.base.free,fun b o e hx=>?_,I.base.tups,I.base.frzs,I.base.tbls⟩,⟨_,hn',fun j y v' e1 e2 e3=>?_⟩,fun y c e=>?_,I.free,I.freeC,fun p hp=>?_,tracked ⟨oL,hoL,I.free⟩ hs,by simpa using I.len⟩ ⟨_,hs,.inl rfl⟩
  ·exact (hs.2 b (Nat.ne_of_lt (Nat.lt_of_lt_of_le (Heap.lt_size e) I.ok.above))).trans (I.base.keep b o e n hb hx)
  ·obtain ⟨sl,e1⟩:=I.base.slot b o e n hb hx
   exact ⟨sl,(hs.2 b (Nat.ne_of_lt (Nat.lt_of_lt_of_le (Heap.lt_size e) I.ok.above))).trans e1⟩
  ·obtain ⟨o',e1⟩:=I.base.there b o e hx
   exact ⟨o',(hs.2 b (Nat.ne_of_lt (Nat.lt_of_lt_of_le (Heap.lt_size e) I.ok.above))).trans e1⟩
  ·by_cases hj:j=i
   ·subst hj
    rw [hi] at e1;cases e1
    rw [getElem?_set_self hiσ] at e2
    cases e2
    exact ⟨u,r,.inl ⟨hk,by simp⟩⟩
   ·rw [List.getElem?_set_ne (Ne.symm hj)] at e2
    obtain ⟨u',r',q⟩:=hl j y v' e1 e2 e3
    refine ⟨u',r',?_⟩
    rcases q with ⟨k,e⟩ | ⟨k,c,e,z⟩
    ·refine .inl ⟨k,?_⟩
     have:y≠x:=fun e=>hj (Zdr hN e1 (e ▸ hi))
     simp [this,e]
    ·exact .inr ⟨k,c,e,z.sameBut hs (cne y c e)⟩
  ·obtain ⟨w',z⟩:=I.cell y c e
   exact ⟨w',z.sameBut hs (cne y c e)⟩
  ·obtain ⟨e,n,ne,nf,d⟩:=I.pin p hp
   exact ⟨(hs.2 p.1 ne).trans e,n,ne,nf,d⟩
 ·have hfn:X.fn x=true:=by
   rcases hf with z | z
   ·exact z
   ·rw [z] at hk;cases hk
  obtain ⟨c,hc⟩:=I.ok.has x (.inl hk)
  obtain ⟨w',z⟩:=I.cell x c hc
  refine wpAny_storeName_cell I.ok.kind hk hc z (fun h' hc' hs=>?_)
  obtain ⟨oc,hoc,hocd⟩:=id z
  refine h { s with heap:=h' } ⟨I.ok,I.os,I.bare,⟨fun b o e n hb hx=>?_,fun b o e n hb hx=>?_,I.base.free,fun b o e hx=>?_,I.base.tups,I.base.frzs,I.base.tbls⟩,⟨m,hn.sameBut hs (Ne.symm (cne x c hc)),fun j y v' e1 e2 e3=>?_⟩,fun y c' e=>?_,I.free,I.freeC,fun p hp=>?_,tracked ⟨oc,hoc,I.freeC x c hc⟩ hs,by simpa using I.len⟩ ⟨c,hs,.inr hc⟩
  ·exact (hs.2 b (Nat.ne_of_lt (Nat.lt_of_lt_of_le (Heap.lt_size e) (I.ok.cab x c hfn hc)))).trans (I.base.keep b o e n hb hx)
  ·obtain ⟨sl,e1⟩:=I.base.slot b o e n hb hx
   exact ⟨sl,(hs.2 b (Nat.ne_of_lt (Nat.lt_of_lt_of_le (Heap.lt_size e) (I.ok.cab x c hfn hc)))).trans e1⟩
  ·obtain ⟨o',e1⟩:=I.base.there b o e hx
   exact ⟨o',(hs.2 b (Nat.ne_of_lt (Nat.lt_of_lt_of_le (Heap.lt_size e) (I.ok.cab x c hfn hc)))).trans e1⟩
  ·by_cases hj:j=i
   ·subst hj
    rw [hi] at e1;cases e1
    rw [getElem?_set_self hiσ] at e2
    cases e2
    exact ⟨u,r,.inr ⟨.inl hk,c,hc,hc'⟩⟩
   ·rw [List.getElem?_set_ne (Ne.symm hj)] at e2
    obtain ⟨u',r',q⟩:=hl j y v' e1 e2 e3
    refine ⟨u',r',?_⟩
    rcases q with q | ⟨k,c',e,z'⟩
    ·exact .inl q
    ·refine .inr ⟨k,c',e,z'.sameBut hs ?_⟩
     rintro rfl
     exact hj (Zdr hN e1 (I.ok.inj _ _ _ e hc ▸ hi))
  ·by_cases hcc:c'=c
   ·subst hcc;exact ⟨_,hc'⟩
   ·obtain ⟨w2,z2⟩:=I.cell y c' e
    exact ⟨w2,z2.sameBut hs hcc⟩
  ·obtain ⟨e,n,ne,nf,d⟩:=I.pin p hp
   refine ⟨(hs.2 p.1 ?_).trans e,n,ne,nf,d⟩
   intro q
   rw [q,hoc] at e
   have q':oc=p.2:=Option.some.inj e
   exact d w' (by rw [<- q'];exact hocd)
theorem Ub {M:Model}{A:Around}{E:Value->Shared->Prop}{i:Nat}{x:Str}{v:V}{u:Value}{Q:Unit->Shared->Prop}(I:Inv X pins σ H s)(hN:X.N.Nodup)(hi:X.N[i]?=some x)(hx:Loc X.env.scope x)(r:RelV v u)
 (h:∀ s',Inv X pins (σ.set i (some v)) H s'->Q () s') (hf:X.fn x=true\/X.env.scope.names.lookup x=some .local:=by first | exact .inl rfl | exact .inr rfl | assumption):wpAny M A (storeName X.env x u) Q E s :=
 Zcx I hN hi hx r (fun s' I' _=>h s' I') hf
theorem Inv.call' {s':Shared}{ch:List Addr}(I:Inv X pins σ H s)(ho:s'.os=s.os)(u:Un (Vt X.stack) ch H H' s.heap s'.heap)(hok:HOk X.prog X.w H' s'.heap)(hg:AllBare s'.gens)
 (hch:∀ b∈ch,(b∈X.ex\/X.s₀.heap.objs.size<=b)/\b≠X.env.locals/\(∀ x c,X.env.cells.lookup x=some c->c≠b)/\∀ p∈X.pn++pins,p.1≠b):Inv X pins σ H' s':=by
 obtain ⟨h',g',d',t',o'⟩:=s'
 have e:o'=s.os:=ho
 subst e
 exact I.call (g':=g') (t':=t') (d':=d') u hok hg hch
end
abbrev XK:=Value->Option Addr->Hp->Prop
abbrev St:=List (Option V)
abbrev VK:=V->Hp->Prop
abbrev TE:=St->Hp->VK->Prop
abbrev TT:=St->Hp->(Bool->Hp->Prop)->Prop
abbrev TA:=St->Hp->(List V->Hp->Prop)->Prop
structure Yi where
 nx:St->Hp->Prop
 rt:VK
 bk:St->Hp->Prop:=fun _ _=>False
 ct:St->Hp->Prop:=fun _ _=>False
abbrev TS:=Yi->St->Hp->Prop
def EP (X:Cx)(pins:List (Addr×Obj))(σ:St)(Q:VK)(u:Value)(s':Shared):Prop:=∃ v H',Inv X pins σ H' s'/\RelV v u/\Q v H'
def TP (X:Cx)(pins:List (Addr×Obj))(σ:St)(Q:Bool->Hp->Prop)(b:Bool)(s':Shared):Prop:=∃ H',Inv X pins σ H' s'/\Q b H'
def AP (X:Cx)(pins:List (Addr×Obj))(σ:St)(Q:List V->Hp->Prop)(us:List Value)(s':Shared):Prop:=∃ vs H',Inv X pins σ H' s'/\Vals vs us/\Q vs H'
def SP (X:Cx)(pins:List (Addr×Obj))(D:Yi)(f:Flow)(s':Shared):Prop :=
 match f with
 | .next=>∃ σ' H',Inv X pins σ' H' s'/\D.nx σ' H'
 | .brk=>∃ σ' H',Inv X pins σ' H' s'/\D.bk σ' H'
 | .cont=>∃ σ' H',Inv X pins σ' H' s'/\D.ct σ' H'
 | .ret u=>∃ v σ' H',Inv X pins σ' H' s'/\RelV v u/\D.rt v H'
def PE (X:Cx)(e:Expr)(t:TE):Prop :=
 ∀ (pins:List (Addr×Obj)) (s:Shared) (σ:St) (H:Hp) (Q:VK),Inv X pins σ H s->t σ H Q->wpAny (model X.prog X.w) X.A (eval e X.env) (EP X pins σ Q) X.xe s
def PT (X:Cx)(e:Expr)(t:TT):Prop :=
 ∀ (pins:List (Addr×Obj)) (s:Shared) (σ:St) (H:Hp) (Q:Bool->Hp->Prop),Inv X pins σ H s->t σ H Q->wpAny (model X.prog X.w) X.A (isTrue e X.env (eval e X.env)) (TP X pins σ Q) X.xe s
def PW (X:Cx)(e:Expr)(t:TT):Prop :=
 ∀ (whole:Sem Value) (pins:List (Addr×Obj)) (s:Shared) (σ:St) (H:Hp) (Q:Bool->Hp->Prop),Inv X pins σ H s->t σ H Q->wpAny (model X.prog X.w) X.A (isTrue e X.env whole) (TP X pins σ Q) X.xe s
theorem PW.pt {X:Cx}{e:Expr}{t:TT}(h:PW X e t):PT X e t:=h _
def PA (X:Cx)(es:List Expr)(t:TA):Prop :=
 ∀ (pos:Pos) (pins:List (Addr×Obj)) (s:Shared) (σ:St) (H:Hp) (Q:List V->Hp->Prop),Inv X pins σ H s->t σ H Q->wpAny (model X.prog X.w) X.A (spliced (backTo pos (starEach es X.env))) (AP X pins σ Q) X.xe s
def PS (X:Cx)(st:Stmt)(t:TS):Prop :=
 ∀ (pins:List (Addr×Obj)) (s:Shared) (σ:St) (H:Hp) (D:Yi),Inv X pins σ H s->t D σ H->wpAny (model X.prog X.w) X.A (exec st X.env) (SP X pins D) X.xe s
def PSs (X:Cx)(st:List Stmt)(t:TS):Prop :=
 ∀ (pins:List (Addr×Obj)) (s:Shared) (σ:St) (H:Hp) (D:Yi),Inv X pins σ H s->t D σ H->wpAny (model X.prog X.w) X.A (execs st X.env) (SP X pins D) X.xe s
theorem Zt {α:Type}{t:Sem α}{Q Q':α->Shared->Prop}{M:Model}{A:Around}{E:Value->Shared->Prop}{s:Shared}(h:wpAny M A t Q E s)(hQ:∀ a s,Q a s->Q' a s):wpAny M A t Q' E s:=wpAny_mono h hQ fun _ _ x=>x
section
variable {X:Cx}
inductive Zhu (i:Nat)(σ:St)(H:Hp)(Q:VK):Prop
 | mk (v:_):(σ[i]?=some (some v))->(Q v H)->Zhu i σ H Q
def Ut (i:Nat):TE:=fun σ H Q=>Zhu i σ H Q
def tC (v:V):TE:=fun _ H Q=>Q v H
theorem ZlH {i:Nat}{x:Str}{pos:Pos}(hN:X.N[i]?=some x)(hv:Vis X.env.scope x)(hd:(x == ("__debug__":Str))=false:=by decide)(hcd:(x == ("__classdict__":Str))=false:=by decide):PE X (.Name x pos) (Ut i):=by
 intro pins s σ H Q I h
 obtain ⟨v,e,h⟩:=h
 obtain ⟨m,hn,hl⟩:=I.loc
 obtain ⟨u,r,l⟩:=hl i x v hN e hv
 have fin:EP X pins σ Q u s:=⟨v,H,I,r,h⟩
 rcases l with ⟨hk,hm⟩ | ⟨hk,c,hc,hcell⟩
 ·exact wpAny_Name (wpAny_loadName_local I.ok.kind hk hn hm fin) hd
 ·rcases hk with hk | hk
  ·exact wpAny_Name (wpAny_loadName_cell I.ok.kind hk hc hcell fin) hd
  ·exact wpAny_Name (wpAny_loadName_free I.ok.kind hk hc hcell fin hcd) hd
theorem Zd {i j pos}:PE X (.Constant (.int i) j pos) (tC (.int i)):=fun _ _ _ H _ I h=>wpAny_Constant_int ⟨.int i,H,I.tok _,⟨_,rfl⟩,h⟩
theorem XG {b j pos}:PE X (.Constant (.bool b) j pos) (tC (.bl b)):=fun _ _ _ H _ I h=>Constant_bool ⟨.bl b,H,I,rfl,h⟩
theorem ZlF {j pos}:PE X (.Constant .none j pos) (tC .non):=fun _ _ _ H _ I h=>Constant_none ⟨.non,H,I,rfl,h⟩
theorem ZV {x j pos}:PE X (.Constant (.str x) j pos) (tC (.str x)):=fun _ _ _ H _ I h=>Calls.Constant_str ⟨.str x,H,I.tok _,⟨_,rfl⟩,h⟩
def Gl (X:Cx)(x:Str):Prop:=X.env.kindOf x=some .globalImplicit
theorem ZbF {E:Value->Shared->Prop}{pins:List (Addr×Obj)}{s:Shared}{σ:St}{H:Hp}{x:Str}{u:Value}{pos:Pos}{Q:Value->Shared->Prop}(I:Inv X pins σ H s)(hg:Gl X x)(hm:X.mg x=some u)(h:Q u s)
 (hd:(x == ("__debug__":Str))=false:=by decide):wpAny (model X.prog X.w) X.A (eval (.Name x pos) X.env) Q E s :=
 Calls.Name_function_global I.ok.kind hg (Calls.loadGlobal_global (by rw [I.ok.glob];exact I.mod.glob.keeps I.bk) hm h) hd
theorem Ws {E:Value->Shared->Prop}{pins:List (Addr×Obj)}{s:Shared}{σ:St}{H:Hp}{x:Str}{u:Value}{pos:Pos}{Q:Value->Shared->Prop}(I:Inv X pins σ H s)(hg:Gl X x)(hm:X.mg x=none)(hv:bootBuiltins x=some u)(h:Q u s)
 (hn:x≠"__name__":=by decide) (hd:(x == ("__debug__":Str))=false:=by decide):wpAny (model X.prog X.w) X.A (eval (.Name x pos) X.env) Q E s:=by
 obtain ⟨mb,h1,h2⟩:=I.mod.blt
 exact Calls.Name_function_global I.ok.kind hg (Calls.loadGlobal_builtin (by rw [I.ok.glob];exact I.mod.glob.keeps I.bk) hm (by rw [I.ok.blt];exact h1.keeps I.bk) ((h2 x hn).trans hv) h) hd
theorem Xi {x:Str}{v:V}{u:Value}{pos:Pos}(hg:Gl X x)(hm:X.mg x=some u)(r:RelV v u)(hd:(x == ("__debug__":Str))=false:=by decide):PE X (.Name x pos) (tC v) :=
 fun _ _ _ H _ I h=>ZbF I hg hm ⟨v,H,I,r,h⟩ hd
theorem ZeO {x:Str}{v:V}{u:Value}{pos:Pos}(hg:Gl X x)(hm:X.mg x=none)(hv:bootBuiltins x=some u)(r:RelV v u)(hn:x≠"__name__":=by decide)(hd:(x == ("__debug__":Str))=false:=by decide):PE X (.Name x pos) (tC v) :=
 fun _ _ _ H _ I h=>Ws I hg hm hv ⟨v,H,I,r,h⟩ hn hd
variable {a b:Expr}{ta tb:TE}{pos:Pos}
def PC (X:Cx)(op:CmpOp)(a b:Expr)(t:TE):Prop :=
 ∀ (pins:List (Addr×Obj)) (s:Shared) (σ:St) (H:Hp) (Q:VK),Inv X pins σ H s->t σ H Q ->
  wpAny (model X.prog X.w) X.A (eval a X.env) (fun v s₁=>wpAny (model X.prog X.w) X.A (eval b X.env) (fun u s₂=>wpAny (model X.prog X.w) X.A (compareOp op v u) (EP X pins σ Q) X.xe s₂) X.xe s₁) X.xe s
theorem Zik (b:Expr){op:CmpOp}(h:op≠.In)(h2:op≠.NotIn):behindInMarks op b=false:=by
 have e1:(op == CmpOp.In)=false:=by cases op<;>first | rfl | exact absurd rfl h
 have e2:(op == CmpOp.NotIn)=false:=by cases op<;>first | rfl | exact absurd rfl h2
 cases b<;>simp [behindInMarks,e1,e2]
def tIsN (ta:TE):TE:=fun σ H Q=>ta σ H fun x H1=>Q (.bl (decide (x=.non))) H1
theorem RelV.none_iff {x:V}{v:Value}(r:RelV x v):(v == Value.none)=decide (x=.non):=by
 cases x with
 | non=>cases r;rfl
 | bl _=>cases r;rfl
 | int _=>obtain ⟨t,rfl⟩:=r;rfl
 | str _=>obtain ⟨t,rfl⟩:=r;rfl
 | byt _=>obtain ⟨t,rfl⟩:=r;rfl
 | flt _=>obtain ⟨t,rfl⟩:=r;rfl
 | ref _=>cases r;rfl
 | ty _=>cases r;rfl
theorem ZlE {j pos'}(ha:PE X a ta):PC X .Is a (.Constant .none j pos') (tIsN ta):=by
 intro pins s σ H Q I h
 refine Zt (ha pins s σ H _ I h) fun v s1 ⟨x,H1,I1,r1,q1⟩=>?_
 exact Constant_none (is_none_gen ⟨.bl _,H1,I1,by rw [r1.none_iff];rfl,q1⟩)
inductive tB_R (Q:Bool->Hp->Prop)(x:V)(H1:Hp):Prop
 | mk (c:_):(x=.bl c)->(Q c H1)->tB_R Q x H1
def tB (t:TE):TT:=fun σ H Q=>t σ H fun x H1=>tB_R Q x H1
theorem Zbh {op:CmpOp}{t:TE}(h:PC X op a b t)(h1:behindInMarks op b=false:=by first | exact Zik _ (by decide) (by decide) | rfl):PT X (.Compare a [op] [b] pos) (tB t):=by
 intro pins s σ H Q I hw
 refine wpAny_isTrue_Compare1 (Zt (h pins s σ H _ I hw) fun v s1 h1=>Zt h1 fun u s2 h2=>Zt h2 fun c s3 ⟨x,H1,I1,r1,q1⟩=>?_) h1
 obtain ⟨d,rfl,q⟩:=q1
 cases r1
 exact wpAny_truthy_bool ⟨H1,I1,q⟩
theorem UG {e:Expr}{t:TE}(h:PE X e t)(he:∀ whole,isTrue e X.env whole=(do let v <- whole;standAt e.pos;holding [v] (truthy v)):=by intro _;rfl):PT X e (tB t):=by
 intro pins s σ H Q I hw
 refine isTrue_plain (Zt (h pins s σ H _ I hw) fun v s1 ⟨x,H1,I1,r1,q1⟩=>?_) (he _)
 obtain ⟨d,rfl,q⟩:=q1
 cases r1
 exact wpAny_truthy_bool ⟨H1,I1,q⟩
variable {tA tB':TT}{rest:List Expr}
def Zja (t u:TT):TT:=fun σ H Q=>t σ H fun c H1=>if c=true then u σ H1 Q else Q false H1
def tOr (t u:TT):TT:=fun σ H Q=>t σ H fun c H1=>if c=true then Q true H1 else u σ H1 Q
def tNot (t:TT):TT:=fun σ H Q=>t σ H fun c H1=>Q (!c) H1
theorem WI (ha:PT X a tA):PW X (.BoolOp .And [a] pos) tA:=by
 intro wh pins s σ H Q I h
 refine isTrue_and (Zt (ha pins s σ H Q I h) fun c s1 e=>?_)
 cases c with
 | true=>exact isTrue_and_nil e
 | false=>exact e
theorem ZdC (ha:PT X a tA):PW X (.BoolOp .Or [a] pos) tA:=by
 intro wh pins s σ H Q I h
 refine isTrue_or (Zt (ha pins s σ H Q I h) fun c s1 e=>?_)
 cases c with
 | false=>exact isTrue_or_nil e
 | true=>exact e
theorem WX (ha:PT X a tA)(hb:PW X (.BoolOp .And (b::rest) pos) tB'):PW X (.BoolOp .And (a::b::rest) pos) (Zja tA tB'):=by
 intro wh pins s σ H Q I h
 refine isTrue_and (Zt (ha pins s σ H _ I h) fun c s1 ⟨H1,I1,q1⟩=>?_)
 cases c with
 | true=>exact hb wh pins s1 σ H1 Q I1 q1
 | false=>exact ⟨H1,I1,q1⟩
theorem ZfI (ha:PT X a tA)(hb:PW X (.BoolOp .Or (b::rest) pos) tB'):PW X (.BoolOp .Or (a::b::rest) pos) (tOr tA tB'):=by
 intro wh pins s σ H Q I h
 refine isTrue_or (Zt (ha pins s σ H _ I h) fun c s1 ⟨H1,I1,q1⟩=>?_)
 cases c with
 | true=>exact ⟨H1,I1,q1⟩
 | false=>exact hb wh pins s1 σ H1 Q I1 q1
theorem ZdA (ha:PT X a tA):PT X (.UnaryOp .Not a pos) (tNot tA):=by
 intro pins s σ H Q I h
 exact isTrue_not (ha pins s σ H (fun c H1=>Q (!c) H1) I h)
inductive Zfa (tb:TE)(σ:St)(Q:VK)(x:V)(H1:Hp):Prop
 | mk (c:_):(x=.bl c)->(if c=true then tb σ H1 Q else Q (.bl false) H1)->Zfa tb σ Q x H1
def ZmL (ta tb:TE):TE:=fun σ H Q=>ta σ H fun x H1=>Zfa tb σ Q x H1
inductive Zfd (Q:VK)(x:V)(H1:Hp):Prop
 | mk (c:_):(x=.bl c)->(Q (.bl (!c)) H1)->Zfd Q x H1
def ZmQ (ta:TE):TE:=fun σ H Q=>ta σ H fun x H1=>Zfd Q x H1
theorem ZgT {op}{t:TE}(h:PE X a t):PE X (.BoolOp op [a] pos) t:=fun pins s σ H Q I hw=>BoolOp_one (h pins s σ H Q I hw)
theorem ZgS (ha:PE X a ta)(hb:PE X (.BoolOp .And (b::rest) pos) tb):PE X (.BoolOp .And (a::b::rest) pos) (ZmL ta tb):=by
 intro pins s σ H Q I h
 refine BoolOp_and (Zt (ha pins s σ H _ I h) fun v s1 ⟨x,H1,I1,r1,q1⟩=>?_)
 obtain ⟨c,rfl,q1⟩:=q1
 cases r1
 refine wpAny_truthy_bool ?_
 cases c with
 | true=>exact hb pins s1 σ H1 Q I1 q1
 | false=>exact ⟨.bl false,H1,I1,rfl,q1⟩
theorem ZlG (ha:PE X a ta):PE X (.UnaryOp .Not a pos) (ZmQ ta):=by
 intro pins s σ H Q I h
 refine UnaryOp_ (Zt (ha pins s σ H _ I h) fun v s1 ⟨x,H1,I1,r1,q1⟩=>?_)
 obtain ⟨c,rfl,q1⟩:=q1
 cases r1
 exact not_of (wpAny_truthy_bool ⟨.bl (!c),H1,I1,rfl,q1⟩)
def tIf (t:TT)(ta tb:TE):TE:=fun σ H Q=>t σ H fun c H1=>if c=true then ta σ H1 Q else tb σ H1 Q
theorem Xb {c:Expr}(hc:PT X c tA)(ha:PE X a ta)(hb:PE X b tb):PE X (.IfExp c a b pos) (tIf tA ta tb):=by
 intro pins s σ H Q I h
 refine wpAny_IfExp (Zt (hc pins s σ H _ I h) fun d s1 ⟨H1,I1,q1⟩=>?_)
 cases d with
 | true=>exact ha pins s1 σ H1 Q I1 q1
 | false=>exact hb pins s1 σ H1 Q I1 q1
end
def SqL (K:PySem.W.Frag)(H:Hp)(a:Addr)(xs:List V):Prop :=
 Rd H a (.lst xs) \/
  ∃ (o:Obj) (its:Array Value) (n:Nat),K.lookup a=some o/\o.cls=.type "list"/\o.dict=none/\o.data=.seq its n/\its.size<=sizeLine/\Vals xs its.toList
def SqT (K:PySem.W.Frag)(H:Hp)(a:Addr)(xs:List V):Prop :=
 Rd H a (.tup xs) \/
  ∃ (o:Obj) (its:Array Value) (n:Nat),K.lookup a=some o/\o.cls=.type "tuple"/\o.data=.seq its n/\its.size<=sizeLine/\Vals xs its.toList
def Zfl:Value->Option V
 | .none=>some .non
 | .bool b=>some (.bl b)
 | .int i _=>some (.int i)
 | .str x _=>some (.str x)
 | .bytes b _=>some (.byt b)
 | .float b _=>some (.flt b)
 | .ref a=>some (.ref a)
 | .type n=>some (.ty n)
 | _=>none
theorem RelV.abs {x:V}{u:Value}(r:RelV x u):Zfl u=some x:=by
 cases x with
 | non=>cases r;rfl
 | bl _=>cases r;rfl
 | int _=>obtain ⟨t,rfl⟩:=r;rfl
 | str _=>obtain ⟨t,rfl⟩:=r;rfl
 | byt _=>obtain ⟨t,rfl⟩:=r;rfl
 | flt _=>obtain ⟨t,rfl⟩:=r;rfl
 | ref _=>cases r;rfl
 | ty _=>cases r;rfl
theorem RelV.inj {x y:V}{u:Value}(r:RelV x u)(q:RelV y u):x=y:=Option.some.inj (r.abs.symm.trans q.abs)
theorem Vals.inj:∀{xs ys:List V}{us:List Value},Vals xs us->Vals ys us->xs=ys
 | _,_,_,.nil,.nil=>rfl
 | _,_,_,.cons r t,.cons r' t'=>by rw [r.inj r',Vals.inj t t']
section
variable {X:Cx}{pins:List (Addr×Obj)}{σ:St}{H:Hp}{s:Shared}{a:Addr}{xs ys:List V}
theorem SqL.of {K:PySem.W.Frag}(h:H a=some (.lst xs)):SqL K H a xs:=.inl (.inl h)
theorem SqT.of {K:PySem.W.Frag}(h:H a=some (.tup xs)):SqT K H a xs:=.inl (.inl h)
theorem Inv.list (I:Inv X pins σ H s)(h:SqL X.K H a xs):∃ its:List Value,Vals xs its/\PlainL s.heap a its.toArray/\xs.length<=sizeLine:=by
 rcases h with h | ⟨o,its,n,hk,hc,hd,hs,hz,r⟩
 ·obtain ⟨z,its,n,r,e⟩:=h.ok I.hok
  exact ⟨its,r,⟨_,n,e,rfl,rfl,rfl⟩,z⟩
 ·refine ⟨its.toList,r,⟨o,n,I.kIn a o hk,hc,hd,by simpa using hs⟩,?_⟩
  have e:=r.length
  simp only [Array.length_toList] at e
  omega
theorem Inv.tuple (I:Inv X pins σ H s)(h:SqT X.K H a xs):∃ its:List Value,Vals xs its/\IsTup s.heap a its.toArray/\xs.length<=sizeLine:=by
 rcases h with h | ⟨o,its,n,hk,hc,hs,hz,r⟩
 ·obtain ⟨z,its,r,p⟩:=h.ok I.hok
  exact ⟨its,r,p,z⟩
 ·refine ⟨its.toList,r,⟨o,I.kIn a o hk,hc,n,by simpa using hs⟩,?_⟩
  have e:=r.length
  simp only [Array.length_toList] at e
  omega
theorem Inv.list_inj (I:Inv X pins σ H s)(h:SqL X.K H a xs)(h':SqL X.K H a ys):xs=ys:=by
 obtain ⟨its,r,⟨o,n,e,_,_,d⟩,_⟩:=I.list h
 obtain ⟨its',r',⟨o',n',e',_,_,d'⟩,_⟩:=I.list h'
 rw [e] at e';cases e'
 rw [d] at d'
 injection d' with d1 _
 have:its=its':=by simpa using congrArg Array.toList d1
 subst this
 exact r.inj r'
theorem Inv.tuple_inj (I:Inv X pins σ H s)(h:SqT X.K H a xs)(h':SqT X.K H a ys):xs=ys:=by
 obtain ⟨its,r,⟨o,e,_,n,d⟩,_⟩:=I.tuple h
 obtain ⟨its',r',⟨o',e',_,n',d'⟩,_⟩:=I.tuple h'
 rw [e] at e';cases e'
 rw [d] at d'
 injection d' with d1 _
 have:its=its':=by simpa using congrArg Array.toList d1
 subst this
 exact r.inj r'
end
abbrev Cx.wish (X:Cx)(E:Value->Shared->Prop):Cx:={ X with xe:=E }
abbrev Cx.nox (X:Cx):Cx:=X.wish fun _ _=>False
theorem Cx.Ok.wish {X:Cx}(ok:X.Ok)(E:Value->Shared->Prop):(X.wish E).Ok :=
 ⟨ok.mod,ok.kind,ok.glob,ok.blt,ok.above,ok.inj,ok.has,ok.cab,ok.hd,ok.frames,ok.stk,ok.exf,ok.bs,ok.bsz,ok.noex,ok.exfs,ok.funs,ok.frf⟩
theorem Cx.Ok.unwish {X:Cx}{E:Value->Shared->Prop}(ok:(X.wish E).Ok):X.Ok :=
 ⟨ok.mod,ok.kind,ok.glob,ok.blt,ok.above,ok.inj,ok.has,ok.cab,ok.hd,ok.frames,ok.stk,ok.exf,ok.bs,ok.bsz,ok.noex,ok.exfs,ok.funs,ok.frf⟩
section
variable {X:Cx}{pins:List (Addr×Obj)}{σ:St}{H:Hp}{s:Shared}{E:Value->Shared->Prop}
theorem Inv.wish (I:Inv X pins σ H s)(E:Value->Shared->Prop):Inv (X.wish E) pins σ H s:=⟨I.ok.wish E,I.os,I.bare,I.base,I.loc,I.cell,I.free,I.freeC,I.pin,I.hok,I.len⟩
theorem Inv.unwish (I:Inv (X.wish E) pins σ H s):Inv X pins σ H s:=⟨I.ok.unwish,I.os,I.bare,I.base,I.loc,I.cell,I.free,I.freeC,I.pin,I.hok,I.len⟩
theorem SP.unwish {D:Yi}{f:Flow}{s':Shared}(h:SP (X.wish E) pins D f s'):SP X pins D f s':=by
 cases f with
 | next=>obtain ⟨σ',H',I,q⟩:=h;exact ⟨σ',H',I.unwish,q⟩
 | brk=>obtain ⟨σ',H',I,q⟩:=h;exact ⟨σ',H',I.unwish,q⟩
 | cont=>obtain ⟨σ',H',I,q⟩:=h;exact ⟨σ',H',I.unwish,q⟩
 | ret u=>obtain ⟨v,σ',H',I,r,q⟩:=h;exact ⟨v,σ',H',I.unwish,r,q⟩
theorem PSs.nox {st:List Stmt}{t:TS}(h:PSs X.nox st t):PSs X st t:=fun pins s σ H D I hw =>
 wpAny_mono (h pins s σ H D (I.wish _) hw) (fun _ _ q=>q.unwish) fun _ _ z=>False.elim z
end
section
variable {X:Cx}{st:Stmt}{rest:List Stmt}{t u:TS}{e:Expr}{te:TE}{pos:Pos}
def ZjF:TS:=fun D σ H=>D.nx σ H
def YF (t u:TS):TS:=fun D σ H=>t { D with nx:=u D } σ H
theorem ZS:PSs X [] ZjF:=fun _ _ σ H _ I h=>wpAny_execs_nil ⟨σ,H,I,h⟩
theorem Zf (h1:PS X st t)(h2:PSs X rest u):PSs X (st::rest) (YF t u):=by
 intro pins s σ H D I h
 refine wpAny_execs_cons (Zt (h1 pins s σ H { D with nx:=u D } I h) fun f s1 q=>?_)
 cases f with
 | next =>
  obtain ⟨σ',H',I',q⟩:=q
  exact h2 pins s1 σ' H' D I' q
 | ret v=>exact q
 | brk=>exact q
 | cont=>exact q
theorem Zj (h1:PS X st t):PSs X [st] t:=by
 intro pins s σ H D I h
 refine wpAny_execs_cons (Zt (h1 pins s σ H D I h) fun f s1 q=>?_)
 cases f with
 | next=>exact wpAny_execs_nil q
 | ret v=>exact q
 | brk=>exact q
 | cont=>exact q
theorem Inv.quiet {pins:List (Addr×Obj)}{σ:St}{H:Hp}{s:Shared}(I:Inv X pins σ H s):interactive X.env=false:=by simp [interactive,I.ok.kind]
def ZmO (te:TE):TS:=fun D σ H=>te σ H fun _ H1=>D.nx σ H1
theorem YJ (he:PE X e te)(hs:swapsWith e none pos.line X.env=pure false:=by rfl):PS X (.Expr e pos) (ZmO te):=by
 intro pins s σ H D I h
 exact wpAny_Expr_any (Zt (he pins s σ H _ I h) fun v s1 ⟨x,H1,I1,r1,q1⟩=>⟨σ,H1,I1,q1⟩) I.quiet hs
def tRet (te:TE):TS:=fun D σ H=>te σ H D.rt
theorem Zw (he:PE X e te):PS X (.Return (some e) pos) (tRet te):=by
 intro pins s σ H D I h
 exact wpAny_Return_some (Zt (he pins s σ H _ I h) fun v s1 ⟨x,H1,I1,r1,q1⟩=>⟨x,σ,H1,I1,r1,q1⟩)
def tIfS (c:TT)(t u:TS):TS:=fun D σ H=>c σ H fun b H1=>if b=true then t D σ H1 else u D σ H1
theorem Yf {c:Expr}{a b:List Stmt}{tc:TT}(hc:PT X c tc)(ha:PSs X a t)(hb:PSs X b u):PS X (.If c a b pos) (tIfS tc t u):=by
 intro pins s σ H D I h
 refine wpAny_If (Zt (hc pins s σ H _ I h) fun d s1 ⟨H1,I1,q1⟩=>?_)
 cases d with
 | true=>exact ha pins s1 σ H1 D I1 q1
 | false=>exact hb pins s1 σ H1 D I1 q1
end
abbrev TG:=V->St->Hp->(St->Hp->Prop)->Prop
abbrev TGs:=List V->St->Hp->(St->Hp->Prop)->Prop
def PG (X:Cx)(target:Expr)(t:TG):Prop :=
 ∀ (pins:List (Addr×Obj)) (s:Shared) (σ:St) (H:Hp) (v:V) (u:Value) (Q:St->Hp->Prop),Inv X pins σ H s->RelV v u->t v σ H Q ->
  wpAny (model X.prog X.w) X.A (assign target X.env u) (fun _ s'=>∃ σ' H',Inv X pins σ' H' s'/\Q σ' H') X.xe s
def PGs (X:Cx)(ts:List Expr)(t:TGs):Prop :=
 ∀ (pins:List (Addr×Obj)) (s:Shared) (σ:St) (H:Hp) (vs:List V) (us:List Value) (Q:St->Hp->Prop),Inv X pins σ H s->Vals vs us->t vs σ H Q ->
  wpAny (model X.prog X.w) X.A (assignInOrder ((assignEach ts X.env).map (·.2)) us) (fun _ s'=>∃ σ' H',Inv X pins σ' H' s'/\Q σ' H') X.xe s
abbrev ZhF:=V->V->V->Hp->(Hp->Prop)->Prop
def PSet (X:Cx)(t:ZhF):Prop :=
 ∀ (pins:List (Addr×Obj)) (s:Shared) (σ:St) (H:Hp) (o i v:V) (ov iv u:Value) (Q:Hp->Prop),Inv X pins σ H s->RelV o ov->RelV i iv->RelV v u->t o i v H Q ->
  wpAny (model X.prog X.w) X.A (setItem ov iv u) (fun _ s'=>∃ H',Inv X pins σ H' s'/\Q H') X.xe s
abbrev TIp:=V->V->Hp->VK->Prop
def PIp (X:Cx)(op:Operator)(t:TIp):Prop :=
 ∀ (pins:List (Addr×Obj)) (s:Shared) (σ:St) (H:Hp) (x y:V) (v u:Value) (Q:VK),Inv X pins σ H s->RelV x v->RelV y u->t x y H Q ->
  wpAny (model X.prog X.w) X.A (inplaceOp op v u) (EP X pins σ Q) X.xe s
section
variable {X:Cx}{pos:Pos}
def WB (i:Nat):TG:=fun v σ H Q=>Q (σ.set i (some v)) H
theorem Yh {i:Nat}{x:Str}(hN:X.N.Nodup)(hi:X.N[i]?=some x)(hx:Loc X.env.scope x)(hf:X.fn x=true\/X.env.scope.names.lookup x=some .local:=by first | exact .inl rfl | exact .inr rfl | assumption):PG X (.Name x pos) (WB i):=by
 intro pins s σ H v u Q I r h
 exact wpAny_assign_Name (Ub I hN hi hx r (fun s' I'=>⟨_,H,I',h⟩) hf)
def gNil:TGs:=fun vs σ H Q=>vs=[]/\Q σ H
inductive Zew (t:TG)(u:TGs)(vs:List V)(σ:St)(H:Hp)(Q:St->Hp->Prop):Prop
 | mk (v:_) (r:_):(vs=v::r)->(t v σ H fun σ' H'=>u r σ' H' Q)->Zew t u vs σ H Q
def Zmq (t:TG)(u:TGs):TGs:=fun vs σ H Q=>Zew t u vs σ H Q
theorem ZbL:PGs X [] gNil:=by
 intro pins s σ H vs us Q I r h
 obtain ⟨e,h⟩:=h
 subst e
 cases r
 exact assignInOrder_nil ⟨σ,H,I,h⟩
theorem We {e:Expr}{es:List Expr}{t:TG}{u:TGs}(h1:PG X e t)(h2:PGs X es u)
 (hs:(assignEach (e::es) X.env).map (·.2)=assign e X.env::(assignEach es X.env).map (·.2):=by rfl):PGs X (e::es) (Zmq t u):=by
 intro pins s σ H vs us Q I r h
 obtain ⟨v,vr,e1,h⟩:=h
 subst e1
 cases r with
 | cons r rr =>
  rw [hs]
  refine assignInOrder_cons (Zt (h1 pins s σ H _ _ _ I r h) fun _ s1 ⟨σ1,H1,I1,q1⟩=>?_)
  exact h2 pins s1 σ1 H1 _ _ Q I1 rr q1
inductive Zgr (K:PySem.W.Frag)(n:Nat)(t:TGs)(v:V)(σ:St)(H:Hp)(Q:St->Hp->Prop):Prop
 | mk (a:_) (xs:_):(v=.ref a)->(SqT K H a xs)->(xs.length=n)->(t xs σ H Q)->Zgr K n t v σ H Q
def gTup (K:PySem.W.Frag)(n:Nat)(t:TGs):TG:=fun v σ H Q=>Zgr K n t v σ H Q
theorem Zdx {es:List Expr}{k:Nat}{t:TGs}{n:Nat}(hc:X.calm=true)(h:PGs X es t)
 (hn:(assignEach es X.env).length=n:=by rfl) (hst:(assignEach es X.env).findIdx? (·.1)=none:=by rfl):PG X (.Tuple es k pos) (gTup X.K n t):=by
 intro pins s σ H v u Q I r hw
 obtain ⟨a,xs,e1,hq,hl,hw⟩:=hw
 subst e1
 cases r
 obtain ⟨its,rv,ht,hz⟩:=I.tuple hq
 refine assign_Tuple_tuple (I.ok.hd hc) ht (by simp [hn,<- hl,rv.length]) hst fun h' hx=>?_
 have I1:Inv X pins σ H { s with heap:=h' }:=I.kept (t':=s.toks) fun b o e=>hx b o (Nat.ne_of_lt (Heap.lt_size e)) e
 exact h pins _ σ H xs _ Q I1 (by simpa using rv) hw
def gSub (to ti:TE)(t:ZhF):TG:=fun v σ H Q=>to σ H fun o H1=>ti σ H1 fun i H2=>t o i v H2 fun H3=>Q σ H3
theorem VB {o i:Expr}{to ti:TE}{t:ZhF}(ho:PE X o to)(hi:PE X i ti)(hs:PSet X t)
 (ha:∀ v,assign (.Subscript o i pos) X.env v=(do
  let ov <- holding [v] (eval o X.env)
  let iv <- holding [v,ov] (eval i X.env)
  standAt pos
  holding [v,ov,iv] (setItem ov iv v)
  release [v,ov,iv] []):=by intro _;rfl):PG X (.Subscript o i pos) (gSub to ti t):=by
 intro pins s σ H v u Q I r h
 rw [ha]
 refine wpAny_bind (wpAny_holding (Zt (ho pins s σ H _ I h) fun ov s1 ⟨x,H1,I1,r1,q1⟩=>?_))
 refine wpAny_bind (wpAny_holding (Zt (hi pins s1 σ H1 _ I1 q1) fun iv s2 ⟨y,H2,I2,r2,q2⟩=>?_))
 refine wpAny_bind (wpAny_standAt (wpAny_bind (wpAny_holding (Zt (hs pins s2 σ H2 x y v ov iv u _ I2 r1 r2 r q2) fun _ s3 ⟨H3,I3,q3⟩=>?_))))
 exact wpAny_release ⟨σ,H3,I3,q3⟩
def ZbS (te:TE)(g:TG):TS:=fun D σ H=>te σ H fun x H1=>g x σ H1 D.nx
theorem WV {tg e:Expr}{te:TE}{g:TG}(he:PE X e te)(hg:PG X tg g)(hs:swapsWithSole [tg] e pos.line X.env=pure false:=by rfl)(hw:swappedStores [tg] e X.env=pure none:=by rfl)
 (h1:(assignEach [tg] X.env).map (·.2)=[assign tg X.env]:=by rfl):PS X (.Assign [tg] e pos) (ZbS te g):=by
 intro pins s σ H D I h
 refine wpAny_Assign_stores (Zt (he pins s σ H _ I h) fun v s1 ⟨x,H1,I1,r1,q1⟩=>?_) hs hw
 rw [h1]
 exact Zt (hg pins s1 σ H1 x v _ I1 r1 q1) fun _ s2 q=>q
theorem Zz {i:Nat}{x:Str}{e:Expr}{te:TE}{pos':Pos}(hN:X.N.Nodup)(hi:X.N[i]?=some x)(hx:Loc X.env.scope x)(he:PE X e te)(hs:swapsWith e (some (.Name x pos')) pos.line X.env=pure false:=by rfl)(hf:X.fn x=true\/X.env.scope.names.lookup x=some .local:=by first | exact .inl rfl | exact .inr rfl | assumption) :
 PS X (.Assign [.Name x pos'] e pos) (ZbS te (WB i)):=by
 intro pins s σ H D I h
 refine wpAny_Assign_Name (Zt (he pins s σ H _ I h) fun v s1 ⟨y,H1,I1,r1,q1⟩=>?_) hs
 exact Ub I1 hN hi hx r1 (fun s2 I2=>⟨_,H1,I2,q1⟩) hf
inductive Zhs (i:Nat)(j:Nat)(D:Yi)(σ:St)(vs:List V)(H1:Hp):Prop
 | mk (v:_) (w:_):(vs=[v,w])->(D.nx ((σ.set i (some v)).set j (some w)) H1)->Zhs i j D σ vs H1
def tPar (i j:Nat)(ta:TA):TS:=fun D σ H=>ta σ H fun vs H1=>Zhs i j D σ vs H1
theorem Xf {i j:Nat}{x y:Str}{a b:Expr}{ta:TA}{px py pt:Pos}{kt k2 pt2}(hc:X.calm=true)(hN:X.N.Nodup)(hi:X.N[i]?=some x)(hj:X.N[j]?=some y)(hij:i≠j)
 (hx:X.env.scope.names.lookup x=some .local) (hy:X.env.scope.names.lookup y=some .local) (ha:PA X [a,b] ta)
 (hw:swappedStores [.Tuple [.Name x px,.Name y py] kt pt] (.Tuple [a,b] k2 pt2) X.env=pure (some [x,y]))
 (hs:swapsWithSole [.Tuple [.Name x px,.Name y py] kt pt] (.Tuple [a,b] k2 pt2) pos.line X.env=pure false:=by rfl) :
 PS X (.Assign [.Tuple [.Name x px,.Name y py] kt pt] (.Tuple [a,b] k2 pt2) pos) (tPar i j ta):=by
 intro pins s σ H D I h
 rw [exec_Assign_arm]
 refine wpAny_bind (wpAny_standAt ?_)
 rw [hs]
 refine wpAny_bind (wpAny_pure ?_)
 rw [if_neg (by decide)]
 refine wpAny_bind (Tuple_ (Zt (ha _ pins s σ H _ I h) fun us s1 ⟨vs,H1,I1,r1,q1⟩=>?_))
 obtain ⟨v,w,e1,q1⟩:=q1
 subst e1
 obtain ⟨u1,u2,rfl,rv,rw'⟩:∃ u1 u2,us=[u1,u2]/\RelV v u1/\RelV w u2:=by
  cases r1 with
  | cons p q =>
   cases q with
   | cons p' q' =>
    cases q'
    exact ⟨_,_,rfl,p,p'⟩
 refine wpAny_newObj_type ?_ (by show 2<=sizeLine;decide)
 have I2:Inv X pins σ H1 { s1 with heap:=s1.heap.push { cls:=.type "tuple",data:=.seq [u1,u2].toArray } }:=I1.kept (t':=s1.toks) fun b o e=>Heap.get?_push_of_some _ e
 rw [hw]
 refine wpAny_bind (wpAny_pure ?_)
 show wpAny (model X.prog X.w) X.A (do rule "assign.swapped-stores";let items <- unpackItems (.ref s1.heap.objs.size) 2 none;assignInOrder [fun v=>bindName X.env y v,fun v=>bindName X.env x v] items.reverse;pure Flow.next) _ _ _
 refine wpAny_bind (wpAny_rule (wpAny_bind (unpackItems_tuple (items:=#[u1,u2]) (I.ok.hd hc) (IsTup.new s1.heap _) fun h' hx'=>?_)))
 have I3:=I2.kept (h':=h') (t':=s1.toks) fun b o e=>hx' b o (Nat.ne_of_lt (Heap.lt_size e)) e
 show wpAny _ _ (assignInOrder [fun v=>bindName X.env y v,fun v=>bindName X.env x v] [u2,u1] >>= fun _=>pure Flow.next) _ _ _
 refine wpAny_bind (assignInOrder_cons (wpAny_bindName (Ub I3 hN hj (.inl hy) rw' (fun s2 I4=>?_) (.inr hy))))
 refine assignInOrder_cons (wpAny_bindName (Ub I4 hN hi (.inl hx) rv (fun s3 I5=>assignInOrder_nil (wpAny_pure ?_)) (.inr hx)))
 rw [List.set_comm _ _ (Ne.symm hij)] at I5
 exact ⟨_,H1,I5,q1⟩
inductive Zho (i:Nat)(te:TE)(ti:TIp)(D:Yi)(σ:St)(H:Hp):Prop
 | mk (x:_):(σ[i]?=some (some x))->(te σ H fun y H1=>ti x y H1 fun z H2=>D.nx (σ.set i (some z)) H2)->Zho i te ti D σ H
def tAug (i:Nat)(te:TE)(ti:TIp):TS:=fun D σ H=>Zho i te ti D σ H
theorem ZlK {i:Nat}{x:Str}{e:Expr}{te:TE}{op:Operator}{ti:TIp}{pos':Pos}(hN:X.N.Nodup)(hi:X.N[i]?=some x)(hx:Loc X.env.scope x)(he:PE X e te)(ho:PIp X op ti)(hf:X.fn x=true\/X.env.scope.names.lookup x=some .local:=by first | exact .inl rfl | exact .inr rfl | assumption) :
 PS X (.AugAssign (.Name x pos') op e pos) (tAug i te ti):=by
 intro pins s σ H D I h
 obtain ⟨v,e1,h⟩:=h
 obtain ⟨m,hn,hl⟩:=I.loc
 have vis:Vis X.env.scope x:=by rcases hx with k | k;exact .inl k;exact .inr (.inl k)
 obtain ⟨u,r,l⟩:=hl i x v hi e1 vis
 refine wpAny_AugAssign_Name ?_
 have go:wpAny (model X.prog X.w) X.A (eval e X.env) (fun w s₂=>wpAny (model X.prog X.w) X.A (inplaceOp op u w) (fun r s₃=>wpAny (model X.prog X.w) X.A (storeName X.env x r) (fun _=>SP X pins D .next) X.xe s₃) X.xe s₂) X.xe s:=by
  refine Zt (he pins s σ H _ I h) fun w s1 ⟨y,H1,I1,r1,q1⟩=>?_
  refine Zt (ho pins s1 σ H1 v y u w _ I1 r r1 q1) fun z s2 ⟨zv,H2,I2,r2,q2⟩=>?_
  exact Ub I2 hN hi hx r2 (fun s3 I3=>⟨_,H2,I3,q2⟩) hf
 rcases l with ⟨hk,hm⟩ | ⟨hk,c,hc,hcell⟩
 ·exact wpAny_loadName_local I.ok.kind hk hn hm go
 ·rcases hk with hk | hk
  ·exact wpAny_loadName_cell I.ok.kind hk hc hcell go
  ·rcases hx with k | k
   ·have:X.env.scope.names.lookup x=some .free:=hk
    rw [k] at this;cases this
   ·have:X.env.scope.names.lookup x=some .free:=hk
    rw [k] at this;cases this
def ipI (f:Int->Int->Int):TIp:=fun x y H Q=>∃ i j,x=.int i/\y=.int j/\Q (.int (f i j)) H
theorem Zld:PIp X .Add (ipI fun i j=>i+j):=by
 intro pins s σ H x y v u Q I r1 r2 h
 obtain ⟨i,j,e1,e2,q⟩:=h
 subst e1;subst e2
 obtain ⟨t,rfl⟩:=r1
 obtain ⟨t',rfl⟩:=r2
 exact iadd_int ⟨.int _,H,I.tok _,⟨_,rfl⟩,q⟩
end
section
variable {X:Cx}{pos:Pos}
def Zhv (c:TT)(tb:TS):TS:=fun D σ H=>∃ W:Nat->St->Hp->Prop,(∃ m,W m σ H)/\∀ m σ H,W m σ H ->
 c σ H fun b H1=>if b=true then ∃ N:St->Hp->Prop,(∀ σ' H',N σ' H'->∃ m',m' < m/\W m' σ' H')/\tb { D with nx:=N,ct:=N,bk:=D.nx } σ H1 else D.nx σ H1
theorem Vc {c:Expr}{body:List Stmt}{tc:TT}{tb:TS}(hp:PassesOwn (model X.prog X.w) X.A X.env X.xe)(hc:PT X c tc)(hb:PSs X body tb):PS X (.While c body [] pos) (Zhv tc tb):=by
 intro pins s σ H D I h
 obtain ⟨W,⟨m0,w0⟩,turn⟩:=h
 refine wpAny_While (codeAny_whileLoop (fun n s'=>∃ σ' H',Inv X pins σ' H' s'/\W n σ' H') ?_ m0 ⟨σ,H,I,w0⟩)
 rintro n s1 ⟨σ1,H1,I1,w1⟩
 refine wpAny_passesOwn hp (Zt (hc pins s1 σ1 H1 _ I1 (turn n σ1 H1 w1)) fun b s2 ⟨H2,I2,q2⟩=>?_)
 cases b with
 | true =>
  obtain ⟨N,hN,q2⟩:=q2
  rw [if_pos rfl]
  refine wpAny_passesOwn hp (Zt (hb pins s2 σ1 H2 _ I2 q2) fun f s3 q3=>?_)
  cases f with
  | next =>
   obtain ⟨σ3,H3,I3,n3⟩:=q3
   obtain ⟨m',hm,w3⟩:=hN σ3 H3 n3
   exact ⟨m',hm,σ3,H3,I3,w3⟩
  | cont =>
   obtain ⟨σ3,H3,I3,n3⟩:=q3
   obtain ⟨m',hm,w3⟩:=hN σ3 H3 n3
   exact ⟨m',hm,σ3,H3,I3,w3⟩
  | brk=>exact q3
  | ret v=>exact q3
 | false =>
  rw [if_neg Bool.false_ne_true]
  exact wpAny_execs_nil ⟨σ1,H2,I2,q2⟩
end
structure It where
 go:Nat->Hp->Prop
 yld:Nat->Hp->V->Hp->Prop
 stop:Nat->Hp->Prop
def XZ (X:Cx)(pins:List (Addr×Obj))(H:Hp)(b:Addr):Prop :=
 H b=none/\b≠X.env.locals/\b ∉ X.fs/\(b∈X.ex\/X.s₀.heap.objs.size<=b)/\(∀ x c,X.env.cells.lookup x=some c->c≠b)/\∀ p∈X.pn++pins,p.1≠b
theorem Inv.fpOk {X:Cx}{pins:List (Addr×Obj)}{σ:St}{H H':Hp}{s:Shared}{b:Addr}(I:Inv X pins σ H s)(hb:s.heap.objs.size<=b)(hn:H' b=none):XZ X pins H' b:=by
 refine ⟨hn,Nat.ne_of_gt (Nat.lt_of_lt_of_le I.lt hb),I.nofs hb,.inr (Nat.le_trans I.sz hb),fun x c e z=>?_,fun p hp z=>?_⟩
 ·obtain ⟨v,q⟩:=I.cell x c e
  exact absurd (Nat.lt_of_lt_of_le q.lt (by rw [z];exact hb)) (Nat.lt_irrefl _)
 ·exact absurd (Nat.lt_of_lt_of_le (Heap.lt_size (I.pin p hp).1) (by rw [z];exact hb)) (Nat.lt_irrefl _)
structure Zae (P:Program)(w:World)(K:PySem.W.Frag)(tg:Expr)(J:It)(fp:List Addr)(it:Addr)(tn:Nat->Heap->Prop):Prop where
 mem:it∈fp
 obj:∀ i h,tn i h->∀ b∈fp,∃ o,h.get? b=some o/\∀ v,o.data≠.cell v
 keep:∀ i h h',tn i h->(∀ b∈fp,∀ o,h.get? b=some o->h'.get? b=some o)->tn i h'
 item:∀ (X:Cx),X.prog=P->X.w=w->X.K=K->X.calm=true->∀ (i:Nat) (pins:List (Addr×Obj)) (s:Shared) (σ:St) (H:Hp) (E:Value->Shared->Prop),Inv X pins σ H s->(∀ b∈fp,XZ X pins H b)->tn i s.heap->J.go i H ->
  wpAny (model P w) X.A (pyNext (.ref it)) (fun r s1=>∃ u,r=some u /\
   wpAny (model P w) X.A (letOwnedTupleGo tg (.ref it) u) (fun _ s2=>∃ x H',Inv X pins σ H' s2/\RelV x u/\J.yld i H x H'/\tn (i+1) s2.heap/\∀ b∈fp,H' b=none) E s1) E s
 done:∀ (X:Cx),X.prog=P->X.w=w->X.K=K->X.calm=true->∀ (i:Nat) (pins:List (Addr×Obj)) (s:Shared) (σ:St) (H:Hp) (E:Value->Shared->Prop),Inv X pins σ H s->(∀ b∈fp,XZ X pins H b)->tn i s.heap->J.stop i H ->
  wpAny (model P w) X.A (pyNext (.ref it)) (fun r s1=>r=none/\Inv X pins σ H s1) E s
 self:∀ (A:Around) (i:Nat) (s:Shared) (Q:Value->Shared->Prop) (E:Value->Shared->Prop),tn i s.heap->Q (.ref it) s->wpAny (model P w) A (pyIter (.ref it)) Q E s
abbrev TI:=St->Hp->(It->Hp->Prop)->Prop
def PIE (X:Cx)(pins:List (Addr×Obj))(σ:St)(tg:Expr)(R:It->Hp->Prop)(itv:Value)(s2:Shared):Prop :=
 ∃ (it:Addr) (fp:List Addr) (tn:Nat->Heap->Prop) (J:It) (H':Hp),itv=.ref it/\Inv X pins σ H' s2/\Zae X.prog X.w X.K tg J fp it tn/\tn 0 s2.heap/\(∀ b∈fp,XZ X pins H' b)/\R J H'
def PI (X:Cx)(tg iter:Expr)(wi:TI):Prop :=
 ∀ (pins:List (Addr×Obj)) (s:Shared) (σ:St) (H:Hp) (R:It->Hp->Prop),Inv X pins σ H s->wi σ H R ->
  wpAny (model X.prog X.w) X.A (eval iter X.env) (fun v s1=>wpAny (model X.prog X.w) X.A (pyIter v) (PIE X pins σ tg R) X.xe s1) X.xe s
theorem ZcK {M:Model}{A:Around}{E:Value->Shared->Prop}{s:Shared}{tg:Expr}{it:Addr}{u:Value}{o:Obj}{n:String}{vs:Array Value}{Q:Unit->Shared->Prop}(ho:s.heap.get? it=some o)(hc:o.cls=.type n)(hd:o.data=.fields vs)
   (hn:["enumerate","zip","dict_itemiterator","dict_reverseitemiterator","odict_iterator","itertools.zip_longest","itertools.pairwise"].contains n=false) (hQ:Q () s):wpAny M A (letOwnedTupleGo tg (.ref it) u) Q E s:=by
 unfold letOwnedTupleGo
 cases tg <;> first
   | exact wpAny_pure hQ
   | (cases u<;>first
       | exact wpAny_pure hQ
       | (refine wpAny_bind (wpAny_load ho ?_)
          rw [hc,hd]
          show wpAny M A (if (["enumerate","zip","dict_itemiterator","dict_reverseitemiterator","odict_iterator","itertools.zip_longest","itertools.pairwise"].contains n&&vs[0]? == some (rawInt _))=true then _ else _) Q E s
          rw [if_neg (by intro h;rw [hn,Bool.false_and] at h;cases h)]
          exact wpAny_pure hQ))
def Itl (K:PySem.W.Frag)(a:Addr):It :=
 ⟨fun i H=>∃ xs x,SqL K H a xs/\xs[i]?=some x,fun i H x H'=>H'=H/\∀ xs,SqL K H a xs->xs[i]?=some x,fun i H=>∃ xs,SqL K H a xs/\xs.length<=i⟩
def Itt (K:PySem.W.Frag)(a:Addr):It :=
 ⟨fun i H=>∃ xs x,SqT K H a xs/\xs[i]?=some x,fun i H x H'=>H'=H/\∀ xs,SqT K H a xs->xs[i]?=some x,fun i H=>∃ xs,SqT K H a xs/\xs.length<=i⟩
def Itr (lo:Int)(n:Nat):It:=⟨fun i _=>i < n,fun i H x H'=>H'=H/\x=.int (lo+i),fun i _=>n<=i⟩
theorem Zhy {P:Program}{w:World}{K:PySem.W.Frag}{tg:Expr}(a it:Addr):Zae P w K tg (Itl K a) [it] it (fun i h=>h.IsListIter it a i) where
 mem:=by simp
 obj:=fun i h st b hb=>by
  have e:b=it:=by simpa using hb
  subst e
  obtain ⟨o,e,c,d⟩:=st
  exact ⟨o,e,fun v z=>by rw [d] at z;cases z⟩
 keep:=fun i h h' st k=>st.at fun o e=>k it (by simp) o e
 item:=by
  intro X hP hw hK hc i pins s σ H E I hf st hg
  subst hP hw hK
  obtain ⟨xs,x,hq,hx⟩:=hg
  obtain ⟨its,rv,p,hz⟩:=I.list hq
  obtain ⟨u,hu,ru⟩:=rv.get hx
  obtain ⟨f0,f1,f2,f3,f4,f5⟩:=hf it (by simp)
  refine wpAny_pyNext_list_item st p.isList (x:=u) (by simpa using hu) fun h' st' sb=>?_
  have I1:Inv X pins σ H { s with heap:=h' }:=I.turned (t':=s.toks) (fun b o hb e=>(sb.2 b hb).trans e) f0 f1 f3 f4 f5
  obtain ⟨o,e,c,d⟩:=id st'
  exact ⟨u,rfl,ZcK (s:={ s with heap:=h' }) e c d (by decide) ⟨x,H,I1,ru,⟨rfl,fun ys hy=>by rw [I.list_inj hy hq];exact hx⟩,st',fun b hb=>(hf b hb).1⟩⟩
 done:=by
  intro X hP hw hK hc i pins s σ H E I hf st hg
  subst hP hw hK
  obtain ⟨xs,hq,hx⟩:=hg
  obtain ⟨its,rv,p,hz⟩:=I.list hq
  obtain ⟨f0,f1,f2,f3,f4,f5⟩:=hf it (by simp)
  have hl:=rv.length
  exact wpAny_pyNext_list_end (I.ok.hd hc) st p.isList (by simp;omega) fun h' eb=>⟨rfl,I.turned (t':=s.toks) (fun b o hb e=>eb b o hb e) f0 f1 f3 f4 f5⟩
 self:=fun _ _ _ _ _ st h=>wpAny_pyIter_listiter st h
theorem ZfU {P:Program}{w:World}{K:PySem.W.Frag}{tg:Expr}(a it:Addr):Zae P w K tg (Itt K a) [it] it (fun i h=>h.IsTupleIter it a i) where
 mem:=by simp
 obj:=fun i h st b hb=>by
  have e:b=it:=by simpa using hb
  subst e
  obtain ⟨o,e,c,d⟩:=st
  exact ⟨o,e,fun v z=>by rw [d] at z;cases z⟩
 keep:=fun i h h' st k=>st.at fun o e=>k it (by simp) o e
 item:=by
  intro X hP hw hK hc i pins s σ H E I hf st hg
  subst hP hw hK
  obtain ⟨xs,x,hq,hx⟩:=hg
  obtain ⟨its,rv,p,hz⟩:=I.tuple hq
  obtain ⟨u,hu,ru⟩:=rv.get hx
  obtain ⟨f0,f1,f2,f3,f4,f5⟩:=hf it (by simp)
  refine wpAny_pyNext_tuple_item st (show s.heap.IsTuple a its.toArray from p) (x:=u) (by simpa using hu) fun h' st' sb=>?_
  have I1:Inv X pins σ H { s with heap:=h' }:=I.turned (t':=s.toks) (fun b o hb e=>(sb.2 b hb).trans e) f0 f1 f3 f4 f5
  obtain ⟨o,e,c,d⟩:=id st'
  exact ⟨u,rfl,ZcK (s:={ s with heap:=h' }) e c d (by decide) ⟨x,H,I1,ru,⟨rfl,fun ys hy=>by rw [I.tuple_inj hy hq];exact hx⟩,st',fun b hb=>(hf b hb).1⟩⟩
 done:=by
  intro X hP hw hK hc i pins s σ H E I hf st hg
  subst hP hw hK
  obtain ⟨xs,hq,hx⟩:=hg
  obtain ⟨its,rv,p,hz⟩:=I.tuple hq
  obtain ⟨f0,f1,f2,f3,f4,f5⟩:=hf it (by simp)
  have hl:=rv.length
  exact wpAny_pyNext_tuple_end (I.ok.hd hc) st (show s.heap.IsTuple a its.toArray from p) (by simp;omega) fun h' eb=>⟨rfl,I.turned (t':=s.toks) (fun b o hb e=>eb b o hb e) f0 f1 f3 f4 f5⟩
 self:=fun _ _ _ _ _ st h=>wpAny_pyIter_tupleiter st h
theorem ZfT {P:Program}{w:World}{K:PySem.W.Frag}{tg:Expr}(it:Addr)(lo:Int)(n:Nat):Zae P w K tg (Itr lo n) [it] it (fun i h=>IsRangeIter h it (lo+(i:Nat) * 1) ((n:Int) - (i:Nat)) 1) where
 mem:=by simp
 obj := fun i h st b hb=>by
  have e:b=it:=by simpa using hb
  subst e
  exact ⟨_,st,fun v z=>by
   have z':Data.fields _=Data.cell v:=z
   cases z'⟩
 keep:=fun i h h' st k=>k it (by simp) _ st
 item:=by
  intro X hP hw hK hc i pins s σ H E I hf st hg
  subst hP hw hK
  obtain ⟨f0,f1,f2,f3,f4,f5⟩:=hf it (by simp)
  have W:=Walks.range (prog:=X.prog) (w:=X.w) (I.ok.hd hc) it lo 1 n
  refine W.item i s _ _ hg st fun v h' tk hv st' kk=>?_
  obtain ⟨t,rfl⟩:=hv
  have I1:Inv X pins σ H { s with heap:=h',toks:=tk }:=I.turned (fun b o hb e=>kk b o (by simpa using hb) e) f0 f1 f3 f4 f5
  refine ⟨_,rfl,ZcK (s:={ s with heap:=h',toks:=tk }) (n:="range_iterator") st' rfl rfl (by decide) ⟨.int (lo+i),H,I1,⟨t,?_⟩,⟨rfl,rfl⟩,st',fun b hb=>(hf b hb).1⟩⟩
  rw [Int.mul_one]
 done:=by
  intro X hP hw hK hc i pins s σ H E I hf st hg
  subst hP hw hK
  obtain ⟨f0,f1,f2,f3,f4,f5⟩:=hf it (by simp)
  exact wpAny_pyNext_range_end (I.ok.hd hc) st (by have:n<=i:=hg;omega) fun h' eb=>⟨rfl,I.turned (t':=s.toks) (fun b o hb e=>eb b o hb e) f0 f1 f3 f4 f5⟩
 self:=fun _ _ _ _ _ st h=>wpAny_pyIter_rangeiter st h
section
variable {X:Cx}{tg:Expr}
inductive Zey (K:PySem.W.Frag)(R:It->Hp->Prop)(x:V)(H1:Hp):Prop
 | mk (a:_):(x=.ref a)->((∃ xs,SqL K H1 a xs))->(R (Itl K a) H1)->Zey K R x H1
def Zms (K:PySem.W.Frag)(tl:TE):TI:=fun σ H R=>tl σ H fun x H1=>Zey K R x H1
inductive Zgu (K:PySem.W.Frag)(R:It->Hp->Prop)(x:V)(H1:Hp):Prop
 | mk (a:_):(x=.ref a)->((∃ xs,SqT K H1 a xs))->(R (Itt K a) H1)->Zgu K R x H1
def iTup (K:PySem.W.Frag)(tl:TE):TI:=fun σ H R=>tl σ H fun x H1=>Zgu K R x H1
theorem UF {l:Expr}{tl:TE}(hl:PE X l tl):PI X tg l (Zms X.K tl):=by
 intro pins s σ H R I h
 refine Zt (hl pins s σ H _ I h) fun v s1 ⟨x,H1,I1,r1,q1⟩=>?_
 obtain ⟨a,e,⟨xs,hq⟩,q⟩:=q1
 subst e
 cases r1
 obtain ⟨its,rv,p,hz⟩:=I1.list hq
 refine wpAny_pyIter_list p.isList ?_
 refine ⟨s1.heap.objs.size,[s1.heap.objs.size],_,_,H1,rfl,I1.kept (t':=s1.toks) fun b o e=>Heap.get?_push_of_some _ e,Zhy a _,⟨_,Heap.get?_push_size _ rfl,rfl,rfl⟩,fun b hb=>?_,q⟩
 have e:b=s1.heap.objs.size:=by simpa using hb
 subst e
 exact I1.fpOk (Nat.le_refl _) (I1.hok.fresh (Nat.le_refl _))
theorem Zdy {l:Expr}{tl:TE}(hl:PE X l tl):PI X tg l (iTup X.K tl):=by
 intro pins s σ H R I h
 refine Zt (hl pins s σ H _ I h) fun v s1 ⟨x,H1,I1,r1,q1⟩=>?_
 obtain ⟨a,e,⟨xs,hq⟩,q⟩:=q1
 subst e
 cases r1
 obtain ⟨its,rv,p,hz⟩:=I1.tuple hq
 refine wpAny_pyIter_tuple (show s1.heap.IsTuple a its.toArray from p) ?_
 refine ⟨s1.heap.objs.size,[s1.heap.objs.size],_,_,H1,rfl,I1.kept (t':=s1.toks) fun b o e=>Heap.get?_push_of_some _ e,ZfU a _,⟨_,Heap.get?_push_size _ rfl,rfl,rfl⟩,fun b hb=>?_,q⟩
 have e:b=s1.heap.objs.size:=by simpa using hb
 subst e
 exact I1.fpOk (Nat.le_refl _) (I1.hok.fresh (Nat.le_refl _))
theorem ZiQ {pins:List (Addr×Obj)}{σ:St}{H:Hp}{s:Shared}{R:It->Hp->Prop}{E:Value->Shared->Prop}{lo hi:Int}{t u v:Tok}{tk:Nat}(I:Inv X pins σ H s)(h1:-(2 ^ 62)<=lo)(h2:lo < 2 ^ 62)(h3:-(2 ^ 62)<=hi)(h4:hi < 2 ^ 62)
 (q:R (Itr lo (hi - lo).toNat) H):wpAny (model X.prog X.w) X.A (pyIter (.ref s.heap.objs.size)) (PIE X pins σ tg R) E { s with heap:=s.heap.push { cls:=.type "range",data:=.fields #[.int lo t,.int hi u,.int 1 v] },toks:=tk }:=by
 refine wpAny_pyIter_range (IsRange.new ..) (small_one h1 h2 h3 h4) ?_
 have I1:Inv X pins σ H { s with heap:=s.heap.push { cls:=.type "range",data:=.fields #[.int lo t,.int hi u,.int 1 v] },toks:=tk }:=I.kept fun b o e=>Heap.get?_push_of_some _ e
 refine ⟨(s.heap.push { cls:=.type "range",data:=.fields #[.int lo t,.int hi u,.int 1 v] }).objs.size,[(s.heap.push { cls:=.type "range",data:=.fields #[.int lo t,.int hi u,.int 1 v] }).objs.size],_,_,H,rfl,
  I1.kept (t':=tk) fun b o e=>Heap.get?_push_of_some _ e,ZfT _ lo (hi - lo).toNat,?_,fun b hb=>?_,q⟩
 ·have e1:lo+((0:Nat):Int) * 1=lo:=by simp
  have e2:(((hi - lo).toNat:Nat):Int) - ((0:Nat):Int)=Builtin.Range.rangeSize lo hi 1:=by rw [rangeSize_one];split<;>omega
  show IsRangeIter _ _ (lo+((0:Nat):Int) * 1) ((((hi - lo).toNat:Nat):Int) - ((0:Nat):Int)) 1
  rw [e1,e2]
  exact Heap.get?_push_size _ rfl
 ·have e:b=(s.heap.push { cls:=.type "range",data:=.fields #[.int lo t,.int hi u,.int 1 v] }).objs.size:=by simpa using hb
  subst e
  exact I1.fpOk (Nat.le_refl _) (I1.hok.fresh (Nat.le_refl _))
inductive Zez (R:It->Hp->Prop)(vs:List V)(H1:Hp):Prop
 | mk (j:Int):(vs=[.int j])->(-(2 ^ 62)<=j)->(j < 2 ^ 62)->(R (Itr 0 j.toNat) H1)->Zez R vs H1
def Zmt (ta:TA):TI:=fun σ H R=>ta σ H fun vs H1=>Zez R vs H1
theorem YN {a:Expr}{ta:TA}{p pos:Pos}(hg:Gl X "range")(hm:X.mg "range"=none)(ha:PA X [a] ta)(hs:starEach [a] X.env=[(false,eval a X.env)]:=by rfl):PI X tg (.Call (.Name "range" p) [a] [] pos) (Zmt ta):=by
 intro pins s σ H R I h
 refine Call_ (Ws I hg hm boot_range (PyProof.Rows.callWith_type1 (Zt (ha pos pins s σ H _ I h) fun us s1 ⟨vs,H1,I1,r1,q1⟩=>?_) hs rfl))
 obtain ⟨j,e,q1,q2,q⟩:=q1
 subst e
 cases r1 with
 | cons r rr =>
  cases rr
  obtain ⟨t,rfl⟩:=r
  exact call_range_1 (ZiQ I1 (by omega) (by omega) q1 q2 (by simpa using q))
def tFor (wi:TI)(g:TG)(tb:TS):TS:=fun D σ H=>wi σ H fun J H1=>∃ W:Nat->Nat->St->Hp->Prop,(∃ m,W 0 m σ H1)/\∀ i m σ H,W i m σ H ->
 (J.stop i H/\D.nx σ H)\/(J.go i H/\∃ N:St->Hp->Prop,(∀ σ' H',N σ' H'->∃ m',m' < m/\W (i+1) m' σ' H')/\∀ x H',J.yld i H x H'->g x σ H' fun σ2 H2=>tb { D with nx:=N,ct:=N,bk:=D.nx } σ2 H2)
def Zbg (fp:List Addr)(h:Heap):List (Addr×Obj):=fp.filterMap fun b=>(h.get? b).map fun o=>(b,o)
theorem Xx {fp:List Addr}{h:Heap}{b:Addr}{o:Obj}(hb:b∈fp)(e:h.get? b=some o):(b,o)∈Zbg fp h:=List.mem_filterMap.mpr ⟨b,hb,by rw [e];rfl⟩
theorem ZgN {fp:List Addr}{h:Heap}{p:Addr×Obj}(hp:p∈Zbg fp h):p.1∈fp/\h.get? p.1=some p.2:=by
 obtain ⟨b,hb,e⟩:=List.mem_filterMap.mp hp
 cases q:h.get? b with
 | none=>rw [q] at e;cases e
 | some o =>
  rw [q] at e
  have e':(b,o)=p:=Option.some.inj e
  subst e'
  exact ⟨hb,q⟩
theorem Inv.pinned {pins:List (Addr×Obj)}{σ:St}{H:Hp}{s:Shared}{fp:List Addr}(I:Inv X pins σ H s)(hf:∀ b∈fp,XZ X pins H b)(ho:∀ b∈fp,∃ o,s.heap.get? b=some o/\∀ v,o.data≠.cell v):Inv X (pins++Zbg fp s.heap) σ H s :=
 I.pins_of fun p hp=>(mem_append.mp hp).elim (fun z=>I.pin p (mem_append_right _ z)) fun z=>by
  obtain ⟨hb,e⟩:=ZgN z
  obtain ⟨f0,f1,f2,_⟩:=hf p.1 hb
  obtain ⟨o,e',d⟩:=ho p.1 hb
  rw [e] at e';cases e'
  exact ⟨e,f0,f1,f2,d⟩
theorem Inv.unpinned {pins pl:List (Addr×Obj)}{σ:St}{H:Hp}{s:Shared}(I:Inv X (pins++pl) σ H s):Inv X pins σ H s:=I.pins_of fun p hp=>I.pin p (mem_append_right _ (mem_append_left _ hp))
theorem XE {iter:Expr}{body:List Stmt}{wi:TI}{g:TG}{tb:TS}{pos:Pos}(hp:PassesOwn (model X.prog X.w) X.A X.env X.xe)(hc:X.calm=true)(hi:PI X tg iter wi)(hg:PG X tg g)(hb:PSs X body tb)
 (hs:∀ x,foldedSetIterable iter X.env x=pure x:=by intro _;rfl):PS X (.For tg iter body [] pos) (tFor wi g tb):=by
 intro pins s σ H D I h
 refine wpAny_For (Zt (hi pins s σ H _ I h) fun v s1 h1=>Zt h1 fun itv s2 h2=>?_) hs
 obtain ⟨it,fp,tn,J,H2,e,I2,T,st2,f2,W,⟨m0,w0⟩,turn⟩:=h2
 subst e
 have stat:∀ {H':Hp},(∀ b∈fp,H' b=none)->∀ b∈fp,XZ X pins H' b:=fun hn b hb=>⟨hn b hb,(f2 b hb).2⟩
 refine codeAny_forLoop_any (fun n s'=>∃ i σ' H',Inv X pins σ' H' s'/\tn i s'.heap/\(∀ b∈fp,H' b=none)/\W i n σ' H') ?_ m0 ⟨0,σ,H2,I2,st2,fun b hb=>(f2 b hb).1,w0⟩
 rintro n s3 ⟨i,σ3,H3,I3,st3,fr3,w3⟩
 rcases turn i n σ3 H3 w3 with ⟨stop,qn⟩ | ⟨go,N,hN,step⟩
 ·refine wpAny_passesOwn hp (Zt (T.done X rfl rfl rfl hc i pins s3 σ3 H3 X.xe I3 (stat fr3) st3 stop) fun r s4 ⟨hr,I4⟩=>?_)
  subst hr
  exact wpAny_execs_nil ⟨σ3,H3,I4,qn⟩
 ·refine wpAny_passesOwn hp (Zt (T.item X rfl rfl rfl hc i pins s3 σ3 H3 X.xe I3 (stat fr3) st3 go) fun r s4 ⟨u,hr,h4⟩=>?_)
  subst hr
  refine wpAny_passesOwn hp (Zt h4 fun _ s5 ⟨x,H5,I5,r5,y5,st5,fr5⟩=>?_)
  have I5':=I5.pinned (stat fr5) (T.obj _ _ st5)
  refine wpAny_passesOwn hp (Zt (hg _ s5 σ3 H5 x u _ I5' r5 (step x H5 y5)) fun _ s6 ⟨σ6,H6,I6,q6⟩=>?_)
  refine wpAny_passesOwn hp (Zt (hb _ s6 σ6 H6 _ I6 q6) fun f s7 q7=>?_)
  have again:∀ {σ7:St} {H7:Hp},Inv X (pins++Zbg fp s5.heap) σ7 H7 s7->N σ7 H7->∃ m,m < n/\∃ i σ' H',Inv X pins σ' H' s7/\tn i s7.heap/\(∀ b∈fp,H' b=none)/\W i m σ' H':=fun {σ7 H7} I7 n7=>by
   obtain ⟨m',hm,w7⟩:=hN σ7 H7 n7
   refine ⟨m',hm,i+1,σ7,H7,I7.unpinned,T.keep _ _ _ st5 fun b hb o e=>(I7.pin (b,o) (mem_append_right _ (mem_append_right _ (Xx hb e)))).1,fun b hb=>?_,w7⟩
   obtain ⟨o,e,d⟩:=T.obj _ _ st5 b hb
   exact (I7.pin (b,o) (mem_append_right _ (mem_append_right _ (Xx hb e)))).2.1
  cases f with
  | next=>obtain ⟨σ7,H7,I7,n7⟩:=q7;exact again I7 n7
  | cont=>obtain ⟨σ7,H7,I7,n7⟩:=q7;exact again I7 n7
  | brk=>obtain ⟨σ7,H7,I7,q7⟩:=q7;exact ⟨σ7,H7,I7.unpinned,q7⟩
  | ret v=>obtain ⟨x7,σ7,H7,I7,r7,q7⟩:=q7;exact ⟨x7,σ7,H7,I7.unpinned,r7,q7⟩
end
theorem ZhQ {K:PySem.W.Frag}{a:Addr}{xs:List V}{g:TG}{tb:TS}{D:Yi}{σ:St}{H:Hp}(Pv:Nat->St->Hp->Prop)(h0:Pv 0 σ H)(hl:∀ i σ H,i<=xs.length->Pv i σ H->SqL K H a xs)
 (hs:∀ i x σ H,xs[i]?=some x->Pv i σ H->g x σ H fun σ2 H2=>tb { D with nx:=Pv (i+1),ct:=Pv (i+1),bk:=D.nx } σ2 H2) (hd:∀ σ H,Pv xs.length σ H->D.nx σ H) :
 ∃ W:Nat->Nat->St->Hp->Prop,(∃ m,W 0 m σ H)/\∀ i m σ H,W i m σ H ->
  ((Itl K a).stop i H/\D.nx σ H)\/((Itl K a).go i H/\∃ N:St->Hp->Prop,(∀ σ' H',N σ' H'->∃ m',m' < m/\W (i+1) m' σ' H')/\∀ x H',(Itl K a).yld i H x H'->g x σ H' fun σ2 H2=>tb { D with nx:=N,ct:=N,bk:=D.nx } σ2 H2):=by
 refine ⟨fun i m σ H=>m=xs.length - i/\i<=xs.length/\Pv i σ H,⟨xs.length,by simp,Nat.zero_le _,h0⟩,?_⟩
 rintro i m σ H ⟨rfl,hi,p⟩
 have q:=hl i σ H hi p
 by_cases hlt:i < xs.length
 ·refine .inr ⟨⟨xs,xs[i],q,by simp [hlt]⟩,Pv (i+1),fun σ' H' p'=>⟨xs.length - (i+1),by omega,rfl,hlt,p'⟩,fun x H' y=>?_⟩
  obtain ⟨e,y⟩:=y
  subst e
  exact hs i x σ _ (y xs q) p
 ·have e:i=xs.length:=by omega
  subst e
  exact .inl ⟨⟨xs,q,Nat.le_refl _⟩,hd σ H p⟩
theorem ZjQ {K:PySem.W.Frag}{a:Addr}{xs:List V}{g:TG}{tb:TS}{D:Yi}{σ:St}{H:Hp}(Pv:Nat->St->Hp->Prop)(h0:Pv 0 σ H)(hl:∀ i σ H,i<=xs.length->Pv i σ H->SqT K H a xs)
 (hs:∀ i x σ H,xs[i]?=some x->Pv i σ H->g x σ H fun σ2 H2=>tb { D with nx:=Pv (i+1),ct:=Pv (i+1),bk:=D.nx } σ2 H2) (hd:∀ σ H,Pv xs.length σ H->D.nx σ H) :
 ∃ W:Nat->Nat->St->Hp->Prop,(∃ m,W 0 m σ H)/\∀ i m σ H,W i m σ H ->
  ((Itt K a).stop i H/\D.nx σ H)\/((Itt K a).go i H/\∃ N:St->Hp->Prop,(∀ σ' H',N σ' H'->∃ m',m' < m/\W (i+1) m' σ' H')/\∀ x H',(Itt K a).yld i H x H'->g x σ H' fun σ2 H2=>tb { D with nx:=N,ct:=N,bk:=D.nx } σ2 H2):=by
 refine ⟨fun i m σ H=>m=xs.length - i/\i<=xs.length/\Pv i σ H,⟨xs.length,by simp,Nat.zero_le _,h0⟩,?_⟩
 rintro i m σ H ⟨rfl,hi,p⟩
 have q:=hl i σ H hi p
 by_cases hlt:i < xs.length
 ·refine .inr ⟨⟨xs,xs[i],q,by simp [hlt]⟩,Pv (i+1),fun σ' H' p'=>⟨xs.length - (i+1),by omega,rfl,hlt,p'⟩,fun x H' y=>?_⟩
  obtain ⟨e,y⟩:=y
  subst e
  exact hs i x σ _ (y xs q) p
 ·have e:i=xs.length:=by omega
  subst e
  exact .inl ⟨⟨xs,q,Nat.le_refl _⟩,hd σ H p⟩
theorem Xq {lo:Int}{n:Nat}{g:TG}{tb:TS}{D:Yi}{σ:St}{H:Hp}(Pv:Nat->St->Hp->Prop)(h0:Pv 0 σ H)
 (hs:∀ i σ H,i < n->Pv i σ H->g (.int (lo+i)) σ H fun σ2 H2=>tb { D with nx:=Pv (i+1),ct:=Pv (i+1),bk:=D.nx } σ2 H2) (hd:∀ σ H,Pv n σ H->D.nx σ H) :
 ∃ W:Nat->Nat->St->Hp->Prop,(∃ m,W 0 m σ H)/\∀ i m σ H,W i m σ H ->
  ((Itr lo n).stop i H/\D.nx σ H)\/((Itr lo n).go i H/\∃ N:St->Hp->Prop,(∀ σ' H',N σ' H'->∃ m',m' < m/\W (i+1) m' σ' H')/\∀ x H',(Itr lo n).yld i H x H'->g x σ H' fun σ2 H2=>tb { D with nx:=N,ct:=N,bk:=D.nx } σ2 H2):=by
 refine ⟨fun i m σ H=>m=n - i/\i<=n/\Pv i σ H,⟨n,by simp,Nat.zero_le _,h0⟩,?_⟩
 rintro i m σ H ⟨rfl,hi,p⟩
 by_cases hlt:i < n
 ·refine .inr ⟨hlt,Pv (i+1),fun σ' H' p'=>⟨n - (i+1),by omega,rfl,hlt,p'⟩,fun x H' y=>?_⟩
  obtain ⟨e,y⟩:=y
  subst e y
  exact hs i σ _ hlt p
 ·have e:i=n:=by omega
  subst e
  exact .inl ⟨Nat.le_refl _,hd σ H p⟩
theorem Zjf {c:TT}{tb:TS}{D:Yi}{σ:St}{H:Hp}(Pv:St->Hp->Prop)(μ:St->Hp->Nat)(h0:Pv σ H)
 (hs:∀ σ H,Pv σ H->c σ H fun b H1=>if b=true then tb { D with nx:=fun σ' H'=>Pv σ' H'/\μ σ' H' < μ σ H,ct:=fun σ' H'=>Pv σ' H'/\μ σ' H' < μ σ H,bk:=D.nx } σ H1 else D.nx σ H1)
 (mono:∀ σ H Q Q',(∀ b H1,Q b H1->Q' b H1)->c σ H Q->c σ H Q'):Zhv c tb D σ H:=by
 refine ⟨fun m σ H=>m=μ σ H/\Pv σ H,⟨_,rfl,h0⟩,?_⟩
 rintro m σ H ⟨rfl,p⟩
 refine mono σ H _ _ (fun b H1 q=>?_) (hs σ H p)
 cases b with
 | true=>exact ⟨_,fun σ' H' ⟨p',l⟩=>⟨_,l,rfl,p'⟩,q⟩
 | false=>exact q
abbrev R2:=V->V->Hp->VK->Prop
def YK (X:Cx)(f:Value->Value->Sem Value)(r:R2):Prop :=
 ∀ (pins:List (Addr×Obj)) (s:Shared) (σ:St) (H:Hp) (x y:V) (v u:Value) (Q:VK),Inv X pins σ H s->RelV x v->RelV y u->r x y H Q ->
  wpAny (model X.prog X.w) X.A (f v u) (EP X pins σ Q) X.xe s
def UnR (X:Cx)(f:Value->Sem Value)(r:V->Hp->VK->Prop):Prop :=
 ∀ (pins:List (Addr×Obj)) (s:Shared) (σ:St) (H:Hp) (x:V) (v:Value) (Q:VK),Inv X pins σ H s->RelV x v->r x H Q ->
  wpAny (model X.prog X.w) X.A (f v) (EP X pins σ Q) X.xe s
def Ya (X:Cx)(f:Value)(r:List V->Hp->VK->Prop):Prop :=
 ∀ (pins:List (Addr×Obj)) (s:Shared) (σ:St) (H:Hp) (xs:List V) (us:List Value) (Q:VK),Inv X pins σ H s->Vals xs us->r xs H Q ->
  wpAny (model X.prog X.w) X.A (call f us) (EP X pins σ Q) X.xe s
def TruR (X:Cx)(r:V->Hp->(Bool->Hp->Prop)->Prop):Prop :=
 ∀ (pins:List (Addr×Obj)) (s:Shared) (σ:St) (H:Hp) (x:V) (v:Value) (Q:Bool->Hp->Prop),Inv X pins σ H s->RelV x v->r x H Q ->
  wpAny (model X.prog X.w) X.A (truthy v) (TP X pins σ Q) X.xe s
def tOp (r:R2)(ta tb:TE):TE:=fun σ H Q=>ta σ H fun x H1=>tb σ H1 fun y H2=>r x y H2 Q
def tUn (r:V->Hp->VK->Prop)(ta:TE):TE:=fun σ H Q=>ta σ H fun x H1=>r x H1 Q
inductive rI_R (C:Int->Int->Prop)(g:Int->Int->V)(x:V)(y:V)(H:Hp)(Q:VK):Prop
 | mk (i:_) (j:_):(x=.int i)->(y=.int j)->(C i j)->(Q (g i j) H)->rI_R C g x y H Q
def rI (C:Int->Int->Prop)(g:Int->Int->V):R2:=fun x y H Q=>rI_R C g x y H Q
inductive Zjw (g:Int->Int->V)(x:V)(y:V)(H:Hp)(Q:VK):Prop
 | mk (i:_) (j:_):(x=.int i)->(y=.int j)->(Q (g i j) H)->Zjw g x y H Q
def rI0 (g:Int->Int->V):R2:=fun x y H Q=>Zjw g x y H Q
inductive rU_R (g:Int->V)(x:V)(H:Hp)(Q:VK):Prop
 | mk (i:_):(x=.int i)->(Q (g i) H)->rU_R g x H Q
def rU (g:Int->V):V->Hp->VK->Prop:=fun x H Q=>rU_R g x H Q
section
variable {X:Cx}{a b c:Expr}{ta tb tc:TE}{pos:Pos}
theorem ZhH (ha:PE X a ta)(hb:PE X b tb){pins:List (Addr×Obj)}{s:Shared}{σ:St}{H:Hp}{R:V->V->Hp->Prop}(I:Inv X pins σ H s)
 (h:ta σ H fun x H1=>tb σ H1 fun y H2=>R x y H2) {Q:Value->Shared->Prop} {f:Value->Value->Sem Value}
 (hf:∀ v u s2 x y H2,Inv X pins σ H2 s2->RelV x v->RelV y u->R x y H2->wpAny (model X.prog X.w) X.A (f v u) Q X.xe s2) :
 wpAny (model X.prog X.w) X.A (eval a X.env) (fun v s₁=>wpAny (model X.prog X.w) X.A (eval b X.env) (fun u s₂=>wpAny (model X.prog X.w) X.A (f v u) Q X.xe s₂) X.xe s₁) X.xe s:=by
 refine Zt (ha pins s σ H _ I h) fun v s1 ⟨x,H1,I1,r1,q1⟩=>?_
 refine Zt (hb pins s1 σ H1 _ I1 q1) fun u s2 ⟨y,H2,I2,r2,q2⟩=>?_
 exact hf v u s2 x y H2 I2 r1 r2 q2
theorem Zq {op:Operator}{r:R2}(ho:YK X (binaryOp op) r)(ha:PE X a ta)(hb:PE X b tb):PE X (.BinOp a op b pos) (tOp r ta tb):=by
 intro pins s σ H Q I h
 exact wpAny_BinOp (ZhH ha hb I h fun v u s2 x y H2 I2 rx ry q=>ho pins s2 σ H2 x y v u Q I2 rx ry q)
theorem ZcN {op:UnaryOp}{r:V->Hp->VK->Prop}(ho:UnR X (unaryOp op) r)(ha:PE X a ta):PE X (.UnaryOp op a pos) (tUn r ta):=by
 intro pins s σ H Q I h
 exact UnaryOp_ (Zt (ha pins s σ H _ I h) fun v s1 ⟨x,H1,I1,r1,q1⟩=>ho pins s1 σ H1 x v Q I1 r1 q1)
theorem opI {f:Value->Value->Sem Value}{C:Int->Int->Prop}{g:Int->Int->Int}
 (rule:∀ (i j:Int) (t u:Tok) (s:Shared) (Q:Value->Shared->Prop) (E:Value->Shared->Prop),C i j->Q (.int (g i j) s.toks) { s with toks:=s.toks+1 }->wpAny (model X.prog X.w) X.A (f (.int i t) (.int j u)) Q E s) :
 YK X f (rI C fun i j=>.int (g i j)):=by
 intro pins s σ H x y v u Q I rx ry h
 obtain ⟨i,j,rfl,rfl,hc,q⟩:=h
 obtain ⟨t,rfl⟩:=rx
 obtain ⟨t',rfl⟩:=ry
 exact rule i j t t' s _ _ hc ⟨.int (g i j),H,I.tok _,⟨_,rfl⟩,q⟩
theorem opI0 {f:Value->Value->Sem Value}{g:Int->Int->Int}
 (rule:∀ (i j:Int) (t u:Tok) (s:Shared) (Q:Value->Shared->Prop) (E:Value->Shared->Prop),Q (.int (g i j) s.toks) { s with toks:=s.toks+1 }->wpAny (model X.prog X.w) X.A (f (.int i t) (.int j u)) Q E s) :
 YK X f (rI0 fun i j=>.int (g i j)):=by
 intro pins s σ H x y v u Q I rx ry h
 obtain ⟨i,j,rfl,rfl,q⟩:=h
 obtain ⟨t,rfl⟩:=rx
 obtain ⟨t',rfl⟩:=ry
 exact rule i j t t' s _ _ ⟨.int (g i j),H,I.tok _,⟨_,rfl⟩,q⟩
theorem ZfB {f:Value->Value->Sem Value}{g:Int->Int->Bool}
 (rule:∀ (i j:Int) (t u:Tok) (s:Shared) (Q:Value->Shared->Prop) (E:Value->Shared->Prop),Q (.bool (g i j)) s->wpAny (model X.prog X.w) X.A (f (.int i t) (.int j u)) Q E s) :
 YK X f (rI0 fun i j=>.bl (g i j)):=by
 intro pins s σ H x y v u Q I rx ry h
 obtain ⟨i,j,rfl,rfl,q⟩:=h
 obtain ⟨t,rfl⟩:=rx
 obtain ⟨t',rfl⟩:=ry
 exact rule i j t t' s _ _ ⟨.bl (g i j),H,I,rfl,q⟩
def CDiv (i j:Int):Prop:=0 < j/\j < 1073741824
def CPow (i j:Int):Prop:=0<=j/\j<=1000000/\i.natAbs < 2 ^ 64
def CMul (i j:Int):Prop:=(-(2 ^ 64) < i/\i < 2 ^ 64)\/(-(2 ^ 64) < j/\j < 2 ^ 64)
theorem CMul.ok {i j:Int}(h:CMul i j):IntMulOk i j:=by
 rcases h with ⟨h1,h2⟩ | ⟨h1,h2⟩
 ·exact .of_left (intBits_le_64 h1 h2)
 ·exact .of_right (intBits_le_64 h1 h2)
theorem ZfV (k:Nat):(0:Int)<=2 ^ k:=by
 rw [two_pow_cast]
 exact Int.natCast_nonneg _
theorem ZZ:YK X (binaryOp .Add) (rI0 fun i j=>.int (i+j)):=opI0 fun _ _ _ _ _ _ _ q=>add_int q
theorem YL:YK X (binaryOp .Sub) (rI0 fun i j=>.int (i - j)):=opI0 fun _ _ _ _ _ _ _ q=>sub_int q
theorem Xv:YK X (binaryOp .Mult) (rI CMul fun i j=>.int (i * j)):=opI fun _ _ _ _ _ _ _ hc q=>mul_int q hc.ok
theorem WH:YK X (binaryOp .FloorDiv) (rI CDiv fun i j=>.int (i / j)):=opI fun i j _ _ _ _ _ hc q=>by
 have h1:(0:Int) < j:=hc.1
 have h2:j < 1073741824:=hc.2
 exact floordiv_int (by omega) (by rw [Int.fdiv_eq_ediv_of_nonneg i (by omega)];exact q) (.inl (PyProof.noPylong_small (by omega)))
theorem Xu:YK X (binaryOp .Mod) (rI (fun _ j=>0 < j) fun i j=>.int (i % j)):=opI fun i j _ _ _ _ _ hc q=>by
 have h1:(0:Int) < j:=hc
 exact mod_int' (by omega) (by rw [Int.fmod_eq_emod_of_nonneg i (by omega)];exact q)
theorem VA:YK X (binaryOp .Pow) (rI CPow fun i j=>.int (i ^ j.toNat)):=opI fun _ _ _ _ _ _ _ hc q=>pow_int_small hc.1 hc.2.1 hc.2.2 q
theorem ZlC:YK X (binaryOp .RShift) (rI (fun _ j=>0<=j) fun i j=>.int (i / 2 ^ j.toNat)):=opI fun i j _ _ _ _ _ hc q =>
 rshift_int hc (by rw [Int.fdiv_eq_ediv_of_nonneg i (ZfV _)];exact q)
theorem unI {f:Value->Sem Value}{g:Int->Int}
 (rule:∀ (i:Int) (t:Tok) (s:Shared) (Q:Value->Shared->Prop) (E:Value->Shared->Prop),Q (.int (g i) s.toks) { s with toks:=s.toks+1 }->wpAny (model X.prog X.w) X.A (f (.int i t)) Q E s) :
 UnR X f (rU fun i=>.int (g i)):=by
 intro pins s σ H x v Q I rx h
 obtain ⟨i,rfl,q⟩:=h
 obtain ⟨t,rfl⟩:=rx
 exact rule i t s _ _ ⟨.int (g i),H,I.tok _,⟨_,rfl⟩,q⟩
theorem Zbs:UnR X (unaryOp .USub) (rU fun i=>.int (-i)):=unI fun _ _ _ _ _ q=>neg_int q
end
def scal:V->V->Bool
 | .non,.non=>true | .non,.int _=>true | .int _,.non=>true | .non,.bl _=>true | .bl _,.non=>true | .non,.str _=>true | .str _,.non=>true
 | .int _,.int _=>true | .bl _,.bl _=>true | .str _,.str _=>true | .byt _,.byt _=>true
 | .int _,.str _=>true | .str _,.int _=>true | .bl _,.str _=>true | .str _,.bl _=>true
 | _,_=>false
def rEq:R2:=fun x y H Q=>scal x y=true/\Q (.bl (decide (x=y))) H
def rNe:R2:=fun x y H Q=>scal x y=true/\Q (.bl (!decide (x=y))) H
theorem Zeu {i j:Int}:decide (V.int i=V.int j)=(i == j):=by
 rw [Bool.eq_iff_iff]
 simp
theorem Zgn {i j:Bool}:decide (V.bl i=V.bl j)=(i == j):=by
 rw [Bool.eq_iff_iff]
 simp
theorem Zev {i j:Str}:decide (V.str i=V.str j)=(i == j):=by
 rw [Bool.eq_iff_iff]
 simp
theorem Zet {i j:Array UInt8}:decide (V.byt i=V.byt j)=(i.toList == j.toList):=by
 rw [Bool.eq_iff_iff]
 cases i
 cases j
 simp
section
variable {X:Cx}{a b c:Expr}{ta tb tc:TE}{pos:Pos}
theorem ZM {pins:List (Addr×Obj)}{σ:St}{H:Hp}{s:Shared}{Q:VK}{k k':Bool}(I:Inv X pins σ H s)(q:Q (.bl k) H)(e:k=k'):EP X pins σ Q (.bool k') s:=by
 subst e
 exact ⟨.bl k,H,I,rfl,q⟩
theorem YH:YK X (compareOp .Eq) rEq:=by
 intro pins s σ H x y v u Q I rx ry h
 obtain ⟨hs,q⟩:=h
 cases x with
 | non =>
  cases rx
  cases y with
  | non=>cases ry;exact PySem.EqNone.eq_none_none (ZM I q (by simp))
  | bl j=>cases ry;exact PySem.EqNone.eq_none_bool (ZM I q (by simp))
  | int j=>obtain ⟨t',rfl⟩:=ry;exact PySem.EqNone.eq_none_int (ZM I q (by simp))
  | str j=>obtain ⟨t',rfl⟩:=ry;exact PySem.EqNone.eq_none_str (ZM I q (by simp))
  | _=>exact absurd (show false=true from hs) Bool.false_ne_true
 | bl i =>
  cases rx
  cases y with
  | non=>cases ry;exact PySem.EqNone.eq_bool_none (ZM I q (by simp))
  | bl j=>cases ry;exact eq_bool (ZM I q Zgn)
  | str j=>obtain ⟨t',rfl⟩:=ry;exact PySem.EqMixed.eq_bool_str (ZM I q (by simp))
  | _=>exact absurd (show false=true from hs) Bool.false_ne_true
 | int i =>
  obtain ⟨t,rfl⟩:=rx
  cases y with
  | non=>cases ry;exact PySem.EqNone.eq_int_none (ZM I q (by simp))
  | int j=>obtain ⟨t',rfl⟩:=ry;exact eq_int (ZM I q Zeu)
  | str j=>obtain ⟨t',rfl⟩:=ry;exact PySem.EqMixed.eq_int_str (ZM I q (by simp))
  | _=>exact absurd (show false=true from hs) Bool.false_ne_true
 | str i =>
  obtain ⟨t,rfl⟩:=rx
  cases y with
  | non=>cases ry;exact PySem.EqNone.eq_str_none (ZM I q (by simp))
  | bl j=>cases ry;exact PySem.EqMixed.eq_str_bool (ZM I q (by simp))
  | int j=>obtain ⟨t',rfl⟩:=ry;exact PySem.EqMixed.eq_str_int (ZM I q (by simp))
  | str j=>obtain ⟨t',rfl⟩:=ry;exact eq_str (ZM I q Zev)
  | _=>exact absurd (show false=true from hs) Bool.false_ne_true
 | byt i =>
  obtain ⟨t,rfl⟩:=rx
  cases y with
  | byt j=>obtain ⟨t',rfl⟩:=ry;exact PySem.W.eq_bytes (ZM I q Zet)
  | _=>exact absurd (show false=true from hs) Bool.false_ne_true
 | _=>cases y<;>exact absurd (show false=true from hs) Bool.false_ne_true
theorem Vb:YK X (compareOp .NotEq) rNe:=by
 intro pins s σ H x y v u Q I rx ry h
 obtain ⟨hs,q⟩:=h
 cases x with
 | non =>
  cases rx
  cases y with
  | non=>cases ry;exact PySem.EqNone.ne_none_none (ZM I q (by simp))
  | bl j=>cases ry;exact PySem.EqNone.ne_none_bool (ZM I q (by simp))
  | int j=>obtain ⟨t',rfl⟩:=ry;exact PySem.EqNone.ne_none_int (ZM I q (by simp))
  | str j=>obtain ⟨t',rfl⟩:=ry;exact PySem.EqNone.ne_none_str (ZM I q (by simp))
  | _=>exact absurd (show false=true from hs) Bool.false_ne_true
 | bl i =>
  cases rx
  cases y with
  | non=>cases ry;exact PySem.EqNone.ne_bool_none (ZM I q (by simp))
  | bl j=>cases ry;exact ne_bool (ZM I q (congrArg not Zgn))
  | str j=>obtain ⟨t',rfl⟩:=ry;exact PySem.EqMixed.ne_bool_str (ZM I q (by simp))
  | _=>exact absurd (show false=true from hs) Bool.false_ne_true
 | int i =>
  obtain ⟨t,rfl⟩:=rx
  cases y with
  | non=>cases ry;exact PySem.EqNone.ne_int_none (ZM I q (by simp))
  | int j=>obtain ⟨t',rfl⟩:=ry;exact ne_int (ZM I q (congrArg not Zeu))
  | str j=>obtain ⟨t',rfl⟩:=ry;exact PySem.EqMixed.ne_int_str (ZM I q (by simp))
  | _=>exact absurd (show false=true from hs) Bool.false_ne_true
 | str i =>
  obtain ⟨t,rfl⟩:=rx
  cases y with
  | non=>cases ry;exact PySem.EqNone.ne_str_none (ZM I q (by simp))
  | bl j=>cases ry;exact PySem.EqMixed.ne_str_bool (ZM I q (by simp))
  | int j=>obtain ⟨t',rfl⟩:=ry;exact PySem.EqMixed.ne_str_int (ZM I q (by simp))
  | str j=>obtain ⟨t',rfl⟩:=ry;exact ne_str (ZM I q (congrArg not Zev))
  | _=>exact absurd (show false=true from hs) Bool.false_ne_true
 | byt i =>
  obtain ⟨t,rfl⟩:=rx
  cases y with
  | byt j=>obtain ⟨t',rfl⟩:=ry;exact PySem.W.ne_bytes (ZM I q (congrArg not Zet))
  | _=>exact absurd (show false=true from hs) Bool.false_ne_true
 | _=>cases y<;>exact absurd (show false=true from hs) Bool.false_ne_true
theorem ZcL:YK X (compareOp .Lt) (rI0 fun i j=>.bl (decide (i < j))):=ZfB fun _ _ _ _ _ _ _ q=>lt_int q
theorem ZmD:YK X (compareOp .LtE) (rI0 fun i j=>.bl (decide (i<=j))):=ZfB fun _ _ _ _ _ _ _ q=>le_int q
theorem Zbd:YK X (compareOp .Gt) (rI0 fun i j=>.bl (decide (j < i))):=ZfB fun _ _ _ _ _ _ _ q=>gt_int q
theorem ZmC:YK X (compareOp .GtE) (rI0 fun i j=>.bl (decide (j<=i))):=ZfB fun _ _ _ _ _ _ _ q=>ge_int q
theorem ZI (b:Expr){op:CmpOp}(h:op≠.In:=by decide)(h2:op≠.NotIn:=by decide):behindInMarks op b=false:=by
 have e1:(op == CmpOp.In)=false:=by cases op<;>first | rfl | exact absurd rfl h
 have e2:(op == CmpOp.NotIn)=false:=by cases op<;>first | rfl | exact absurd rfl h2
 cases b<;>simp [behindInMarks,e1,e2]
theorem UE {op:CmpOp}{r:R2}(ho:YK X (compareOp op) r)(ha:PE X a ta)(hb:PE X b tb)(hm:behindInMarks op b=false):PE X (.Compare a [op] [b] pos) (tOp r ta tb):=by
 intro pins s σ H Q I h
 exact wpAny_Compare1 (ZhH ha hb I h fun v u s2 x y H2 I2 rx ry q=>ho pins s2 σ H2 x y v u Q I2 rx ry q) hm
def Zbr (t:TE):TT:=fun σ H Q=>t σ H fun x H'=>∃ k,x=.bl k/\Q k H'
theorem ZF {op:CmpOp}{r:R2}(ho:YK X (compareOp op) r)(ha:PE X a ta)(hb:PE X b tb)(hm:behindInMarks op b=false):PT X (.Compare a [op] [b] pos) (Zbr (tOp r ta tb)):=by
 intro pins s σ H Q I h
 refine wpAny_isTrue_Compare1 (Zt (ha pins s σ H _ I h) fun v s1 ⟨x,H1,I1,r1,q1⟩=>Zt (hb pins s1 σ H1 _ I1 q1) fun u s2 ⟨y,H2,I2,r2,q2⟩ =>
  Zt (ho pins s2 σ H2 x y v u _ I2 r1 r2 q2) fun c s3 ⟨z,H3,I3,r3,k,e,q3⟩=>?_) hm
 subst e
 cases r3
 exact wpAny_truthy_bool ⟨H3,I3,q3⟩
def ZlZ (r r':R2)(ta tb tc:TE):TE:=fun σ H Q=>ta σ H fun x H1=>tb σ H1 fun y H2=>r x y H2 fun z H3=>∃ k,z=.bl k /\
 (if k=true then tc σ H3 fun w' H4=>r' y w' H4 Q else Q (.bl false) H3)
theorem ZiJ {op op':CmpOp}{r r':R2}(ho:YK X (compareOp op) r)(ho':YK X (compareOp op') r')(ha:PE X a ta)(hb:PE X b tb)(hc:PE X c tc)
 (hm:lastMarks [op,op'] [b,c]=false:=by with_unfolding_all rfl):PT X (.Compare a [op,op'] [b,c] pos) (Zbr (ZlZ r r' ta tb tc)):=by
 intro pins s σ H Q I h
 refine isTrue_chain (Zt (ha pins s σ H _ I h) fun v s1 ⟨x,H1,I1,r1,q1⟩=>test_link (Zt (hb pins s1 σ H1 _ I1 q1) fun u s2 ⟨y,H2,I2,r2,q2⟩ =>
  Zt (ho pins s2 σ H2 x y v u _ I2 r1 r2 q2) fun d s3 ⟨z,H3,I3,r3,k,e,q3⟩=>?_)) hm
 subst e
 cases r3
 refine wpAny_truthy_bool ?_
 cases k with
 | false =>
  obtain ⟨k',e',q'⟩:=q3
  cases e'
  exact ite_ff ⟨H3,I3,q'⟩
 | true =>
  refine ite_tt (test_last (Zt (hc pins s3 σ H3 _ I3 q3) fun w' s4 ⟨z',H4,I4,r4,q4⟩=>Zt (ho' pins s4 σ H4 y z' u w' _ I4 r2 r4 q4) fun d' s5 ⟨z2,H5,I5,r5,k2,e2,q5⟩=>?_))
  subst e2
  cases r5
  exact wpAny_truthy_bool ⟨H5,I5,q5⟩
def TruV (K:PySem.W.Frag)(x:V)(H:Hp)(k:Bool):Prop :=
 match x with
 | .non=>k=false
 | .bl b=>k=b
 | .int i=>k=(i != 0)
 | .str y=>y.length<=sizeLine/\k=((y.length:Int) != 0)
 | .byt y=>y.size<=sizeLine/\k=((y.size:Int) != 0)
 | .ref p=>(∃ xs,SqL K H p xs/\k=!xs.isEmpty)\/(∃ xs,SqT K H p xs/\k=!xs.isEmpty)\/∃ kvs,H p=some (.dK kvs)/\k=!kvs.isEmpty
 | _=>False
theorem Zfv {κ:Type}{kvs:List (κ×V)}{vs:List (κ×Value)}(r:KV kvs vs):(!vs.isEmpty)=!kvs.isEmpty:=by
 cases r<;>rfl
theorem ZaS {xs:List V}{its:List Value}(r:Vals xs its):(!its.toArray.isEmpty)=!xs.isEmpty:=by
 cases r<;>simp
theorem Wt:(sizeLine:Nat) < 2 ^ 63:=by rw [sizeLine_eq];decide
theorem Zmh:TruR X (fun x H Q=>∃ k,TruV X.K x H k/\Q k H):=by
 intro pins s σ H x v Q I rx h
 obtain ⟨k,e,q⟩:=h
 have hl:=Wt
 have hs:sizeLine=16777216:=sizeLine_eq
 cases x with
 | non =>
  cases rx
  have e':k=false:=e
  subst e'
  exact truthy_none ⟨H,I,q⟩
 | bl b =>
  cases rx
  have e':k=b:=e
  subst e'
  exact wpAny_truthy_bool ⟨H,I,q⟩
 | int i =>
  obtain ⟨t,rfl⟩:=rx
  have e':k=(i != 0):=e
  subst e'
  exact PySem.P.truthy_int ⟨H,I,q⟩
 | str y =>
  obtain ⟨t,rfl⟩:=rx
  obtain ⟨hy,e'⟩:y.length<=sizeLine/\k=((y.length:Int) != 0):=e
  subst e'
  exact PySem.P.truthy_str (by omega) ⟨H,I.tok _,q⟩
 | byt y =>
  obtain ⟨t,rfl⟩:=rx
  obtain ⟨hy,e'⟩:y.size<=sizeLine/\k=((y.size:Int) != 0):=e
  subst e'
  exact PySem.W.truthy_bytes (by omega) ⟨H,I.tok _,q⟩
 | ref p =>
  cases rx
  have e':(∃ xs,SqL X.K H p xs/\k=!xs.isEmpty)\/(∃ xs,SqT X.K H p xs/\k=!xs.isEmpty)\/∃ kvs,H p=some (.dK kvs)/\k=!kvs.isEmpty:=e
  rcases e' with ⟨xs,hx,e'⟩ | ⟨xs,hx,e'⟩ | ⟨kvs,hx,e'⟩
  ·subst e'
   obtain ⟨its,r,pl,hz⟩:=I.list hx
   have hlen:=r.length
   exact wpAny_truthy_list pl.isList (by simp only [size_toArray];omega) ⟨H,I.tok _,by rw [ZaS r];exact q⟩
  ·subst e'
   obtain ⟨its,r,pl,hz⟩:=I.tuple hx
   have hlen:=r.length
   exact truthy_tuple pl (by simp only [size_toArray];omega) ⟨H,I.tok _,by rw [ZaS r];exact q⟩
  ·subst e'
   obtain ⟨hz,hS,vs,r,m⟩:kvs.length<=sizeLine/\(p == sysModules)=false/\∃ vs,KV kvs vs/\s.heap.DictOf (Zr X.prog X.w) p vs:=I.hok p _ hx
   have hlen:kvs.length=vs.length:=Paired.length r
   exact wpAny_truthy_dict hS m (by omega) ⟨H,I.tok _,by rw [Zfv r];exact q⟩
 | _=>exact (show False from e).elim
theorem WW (ha:PE X a ta)(he:∀ whole,isTrue a X.env whole=(do let v <- whole;standAt a.pos;holding [v] (truthy v))) :
 PT X a (fun σ H Q=>ta σ H fun x H'=>∃ k,TruV X.K x H' k/\Q k H'):=by
 intro pins s σ H Q I h
 exact isTrue_plain (Zt (ha pins s σ H _ I h) fun v s1 ⟨x,H1,I1,r1,q1⟩=>Zmh pins s1 σ H1 x v Q I1 r1 q1) (he _)
theorem Zbc:YK X (binaryOp .Add) (fun x y H Q=>∃ i j,x=.str i/\y=.str j/\i.length+j.length<=sizeLine/\Q (.str (i++j)) H):=by
 intro pins s σ H x y v u Q I rx ry h
 obtain ⟨i,j,rfl,rfl,hz,q⟩:=h
 obtain ⟨t,rfl⟩:=rx
 obtain ⟨t',rfl⟩:=ry
 exact add_str (fun t' tk=>⟨.str (i++j),H,I.tok _,⟨_,rfl⟩,q⟩) hz
theorem Yk {x:V}{us:List Value}(r:Vals [x] us):∃ u,us=[u]/\RelV x u:=by
 cases r with
 | cons r1 r2=>cases r2;exact ⟨_,rfl,r1⟩
theorem ZfX {x y:V}{us:List Value}(r:Vals [x,y] us):∃ u w',us=[u,w']/\RelV x u/\RelV y w':=by
 cases r with
 | cons r1 r2 =>
  cases r2 with
  | cons r3 r4=>cases r4;exact ⟨_,_,rfl,r1,r3⟩
theorem Zdd:Ya X (.builtin "abs") (fun xs H Q=>∃ i,xs=[.int i]/\Q (.int (if i < 0 then -i else i)) H):=by
 intro pins s σ H xs us Q I r h
 obtain ⟨i,rfl,q⟩:=h
 obtain ⟨u,rfl,t,rfl⟩:=Yk r
 exact call_abs_int fun u tk=>⟨.int (if i < 0 then -i else i),H,I.tok _,⟨_,rfl⟩,q⟩
theorem Zcb (hc:X.calm=true):Ya X (.builtin "min") (fun xs H Q=>∃ i j,xs=[.int i,.int j]/\Q (.int (if j < i then j else i)) H):=by
 intro pins s σ H xs us Q I r h
 obtain ⟨i,j,rfl,q⟩:=h
 obtain ⟨u,w',rfl,⟨t,rfl⟩,⟨t',rfl⟩⟩:=ZfX r
 refine min_two_ints (I.ok.hd hc) fun h' tk k=>⟨_,H,I.kept k,?_,q⟩
 by_cases hj:j < i
 ·rw [if_pos hj,if_pos hj];exact ⟨_,rfl⟩
 ·rw [if_neg hj,if_neg hj];exact ⟨_,rfl⟩
theorem Zgi:Ya X (.type "int") (fun xs H Q=>(∃ i,xs=[.int i]/\Q (.int i) H)\/∃ k,xs=[.bl k]/\Q (.int (if k then 1 else 0)) H):=by
 intro pins s σ H xs us Q I r h
 rcases h with ⟨i,rfl,q⟩ | ⟨k,rfl,q⟩
 ·obtain ⟨u,rfl,t,rfl⟩:=Yk r
  exact call_int_int ⟨.int i,H,I,⟨_,rfl⟩,q⟩
 ·obtain ⟨u,rfl,r1⟩:=Yk r
  cases r1
  exact call_int_bool ⟨.int (if k then 1 else 0),H,I.tok _,⟨_,rfl⟩,q⟩
theorem Zdg:Ya X (.builtin "ord") (fun xs H Q=>∃ x,xs=[.str x]/\x.length=1/\Q (.int (x.cps.getD 0 0:Nat)) H):=by
 intro pins s σ H xs us Q I r h
 obtain ⟨x,rfl,hz,q⟩:=h
 obtain ⟨u,rfl,t,rfl⟩:=Yk r
 exact ord_of_one hz ⟨.int _,H,I.tok _,⟨_,rfl⟩,q⟩
def ZhE (K:PySem.W.Frag)(x:V)(H:Hp)(n:Nat):Prop :=
 match x with
 | .str y=>y.length<=sizeLine/\n=y.length
 | .byt y=>y.size<=sizeLine/\n=y.size
 | .ref p=>(∃ xs,SqL K H p xs/\n=xs.length)\/∃ xs,SqT K H p xs/\n=xs.length
 | _=>False
theorem ZhJ:Ya X (.builtin "len") (fun xs H Q=>∃ x n,xs=[x]/\ZhE X.K x H n/\Q (.int n) H):=by
 intro pins s σ H xs us Q I r h
 obtain ⟨x,n,rfl,e,q⟩:=h
 obtain ⟨u,rfl,rx⟩:=Yk r
 have hl:=Wt
 have hs:sizeLine=16777216:=sizeLine_eq
 cases x with
 | str y =>
  obtain ⟨t,rfl⟩:=rx
  obtain ⟨hy,e'⟩:y.length<=sizeLine/\n=y.length:=e
  subst e'
  exact len_str (by omega) ⟨.int _,H,I.tok _,⟨_,rfl⟩,q⟩
 | byt y =>
  obtain ⟨t,rfl⟩:=rx
  obtain ⟨hy,e'⟩:y.size<=sizeLine/\n=y.size:=e
  subst e'
  exact PySem.W.len_bytes (by omega) ⟨.int _,H,I.tok _,⟨_,rfl⟩,q⟩
 | ref p =>
  cases rx
  have e':(∃ xs,SqL X.K H p xs/\n=xs.length)\/∃ xs,SqT X.K H p xs/\n=xs.length:=e
  rcases e' with ⟨xs,hx,e'⟩ | ⟨xs,hx,e'⟩
  ·subst e'
   obtain ⟨its,r',pl,hz⟩:=I.list hx
   have hlen:=r'.length
   exact Calls.call_len_list pl.isList (by simp only [size_toArray];omega) ⟨.int xs.length,H,I.tok _,⟨_,by simp only [size_toArray];rw [hlen]⟩,q⟩
  ·subst e'
   obtain ⟨its,r',pl,hz⟩:=I.tuple hx
   have hlen:=r'.length
   exact len_tuple pl (by simp only [size_toArray];omega) ⟨.int xs.length,H,I.tok _,⟨_,by simp only [size_toArray];rw [hlen]⟩,q⟩
 | _=>exact (show False from e).elim
end
structure ObjM (h:Heap)(x dx C:Addr)(mA:Str->Option Value):Prop where
 obj:h.get? x=some (PySem.W.instObj C dx)
 ns:h.Ns1 dx mA
 ne:dx≠x
theorem ZgI {h:Heap}{dx:Addr}{mA:Str->Option Value}(n:h.Ns1 dx mA):∃ od,h.get? dx=some od/\∀ name,PySem.W.lookIn name od=some (mA name):=by
 obtain ⟨o,es,ep,ho,hd,hk,_,hm⟩:=n
 refine ⟨o,ho,fun name=>?_⟩
 have e:=hm name
 unfold nsFind findBy at e
 rw [<- Array.find?_toList] at e
 unfold PySem.W.lookIn
 rw [hd]
 dsimp only
 split
 ·rename_i y q
  rw [q] at e
  exact congrArg some e
 ·rename_i q
  rw [q] at e
  have a:es.toList.any (·.refKey)=false:=by
   rw [List.any_eq_false]
   intro y hy
   obtain ⟨z,t,hkey⟩:=hk y (Array.mem_toList_iff.mp hy)
   simp [DictEntry.refKey,hkey]
  have a':¬ es.toList.any (·.refKey)=true:=by rw [a];exact Bool.false_ne_true
  rw [if_neg a']
  exact congrArg some e
theorem ObjM.look {h:Heap}{x dx C:Addr}{mA:Str->Option Value}(I:ObjM h x dx C mA):∃ od,PySem.W.InstAt h x (PySem.W.instObj C dx) C (some od)/\∀ name,PySem.W.lookIn name od=some (mA name) :=
 let ⟨od,ho,hl⟩:=ZgI I.ns
 ⟨od,⟨I.obj,rfl,rfl,ho⟩,hl⟩
section
variable {prog:Program}{w:World}{A:Around}{E:Value->Shared->Prop}{s:Shared}{K:PySem.W.Frag}{x dx C f:Addr}{mA:Str->Option Value}{name:Str}{v:Value}
theorem ZjR {expr:Bool}{Q:Value->Shared->Prop}(X:K.In s.heap)(I:ObjM s.heap x dx C mA)(hg:PySem.W.plainGet K C name=true)(hh:PySem.W.hasDictIn K C=true)
 (ha:PySem.W.findIn K (.ref C) name=some none) (hv:mA name=some v) (hv':PySem.W.handedIn v=true) (h:Q v { s with toks:=s.toks+1 }) :
 wpAny (model prog w) A (getAttr (.ref x) name expr) Q E s:=by
 obtain ⟨od,J,hl⟩:=I.look
 exact PySem.W.get_value X J (PySem.W.plainGet_of hg).1 (PySem.W.findObj_own hh ha rfl (by rw [hl,hv])) hv' h
theorem ZhV {pl:Sem Bool}{Q:Value×List Value->Shared->Prop}(X:K.In s.heap)(I:ObjM s.heap x dx C mA)(hg:PySem.W.plainGet K C name=true)
 (hf:PySem.W.findIn K (.ref C) name=some (some (.ref f))) (ht:PySem.W.isFn K (.ref f)=true) (hv:mA name=none) (h:Q (.ref f,[.ref x]) s) :
 wpAny (model prog w) A (getMethod (.ref x) name pl) Q E s:=by
 obtain ⟨od,J,hl⟩:=I.look
 exact PySem.W.method_fn X J (PySem.W.plainGet_of hg).1 (PySem.W.plainGet_of hg).2 hf (beq_iff_eq.mp ht) (by show (PySem.W.lookIn name od).map (·.isSome)=some false;rw [hl,hv];rfl) h
theorem Zkw {ns:List Str}{Q:Unit->Shared->Prop}(X:K.In s.heap)(I:ObjM s.heap x dx C mA)
 (hs:PySem.W.findIn K (.ref C) "__setattr__"=some (some (.builtin "object.__setattr__"))) (hp:PySem.W.plainOver K C=true) (ht:PySem.W.takerIn K C name=some none) (hh:PySem.W.hasDictIn K C=true)
 (hw:PySem.Within mA ns) (hsz:ns.length<=sizeLine)
 (h:∀ h',ObjM h' x dx C (fun y=>if y=name then some v else mA y)->Heap.SameBut dx s.heap h'->Q () { s with heap:=h',toks:=s.toks+2 }) :
 wpAny (model prog w) A (setAttr (.ref x) name v) Q E s:=by
 obtain ⟨od,J,hl⟩:=I.look
 refine PySem.W.set_plain X J hs (PySem.W.osa_open (s:={ s with toks:=s.toks+1 }) (r:=none) X J hp ht fun b=>?_)
 obtain ⟨cd,hc,hd'⟩:=PySem.W.any_some hh
 have hx:s.heap.get? x=some ⟨.ref C,some dx,.plain,#[]⟩:=I.obj
 refine wpAny_bind (wpAny_pure (wpAny_bind (wpAny_bind (wpAny_loadPart hx (wpAny_bind (PySem.W.Looks.here (s:={ s with toks:=s.toks+1 }) (PySem.W.looks_clsIn X hc) ?_))))))
 rw [hd']
 refine wpAny_pure (a:=some dx) (wpAny_bind (wpAny_pure (wpAny_bind ?_)))
 refine wpAny_nsSet1 (s:={ s with toks:=s.toks+1 }) I.ns fun h' hn2 hs2=>?_
 obtain ⟨oD,esD,epD,hoD,hdD,hcD⟩:=hn2.count (PySem.Within.cons name v hw)
 refine wpAny_bind (wpAny_lookBehind hoD (by rw [hdD];exact pastItsLine_dict (Nat.le_trans hcD (by rw [length_cons];omega))) ?_)
 exact wpAny_pure (h _ ⟨(hs2.2 _ (Ne.symm I.ne)).trans I.obj,hn2,I.ne⟩ hs2)
theorem Zif {R:Result->Shared->Prop}{vs:List Value}{kw:List (Str×Value)}(X:K.In s.heap)(hm:PySem.W.makesIn K C=true)
 (hi:PySem.W.findIn K (.ref C) "__init__"=some (some (.ref f))) (hf:PySem.W.typeIn K (.ref f)=some (.type "function"))
 (h:codeAny (model prog w) (A.under (.builtin "type.__call__" ⟨.ref C::vs,kw⟩)) (.call (.ref f) ⟨.ref (s.heap.objs.size+1)::vs,kw⟩) (PySem.W.InitBack (s.heap.objs.size+1) R)
  {s with heap:=(s.heap.push PySem.W.emptyDict).push (PySem.W.instObj C s.heap.objs.size) }) :
 codeAny (model prog w) A (.call (.ref C) ⟨vs,kw⟩) R s:=by
 obtain ⟨hh,g,d,t,os⟩:=s
 exact PySem.W.make_core (PySem.W.makes_of X hm) (PySem.W.looks_findIn X hi) (fun self=>PySem.W.bind_fn X self hf) (.inl rfl) h
end
def Xk (f:Str)(v:V):List (Str×V)->List (Str×V)
 | []=>[(f,v)]
 | (g,x)::r=>if g=f then (g,v)::r else (g,x)::Xk f v r
theorem YO (f g:Str)(v:V):∀ fs:List (Str×V),(Xk f v fs).lookup g=if g=f then some v else fs.lookup g
 | []=>by
  show List.lookup g [(f,v)]=_
  by_cases h:g=f
  ·have hb:(g == f)=true:=beq_iff_eq.mpr h
   simp only [List.lookup,hb,if_pos h]
  ·have hb:(g == f)=false:=beq_eq_false_iff_ne.mpr h
   simp only [List.lookup,hb,if_neg h]
 | (k, x)::r=>by
  have ih:=YO f g v r
  rw [show Xk f v ((k,x)::r)=(if k=f then (k,v)::r else (k,x)::Xk f v r) from rfl]
  by_cases hk:k=f
  ·rw [if_pos hk]
   by_cases h:g=k
   ·have hb:(g == k)=true:=beq_iff_eq.mpr h
    simp only [List.lookup,hb,if_pos (h.trans hk)]
   ·have hb:(g == k)=false:=beq_eq_false_iff_ne.mpr h
    simp only [List.lookup,hb,if_neg (fun e:g=f=>h (e.trans hk.symm))]
  ·rw [if_neg hk]
   by_cases h:g=k
   ·have hb:(g == k)=true:=beq_iff_eq.mpr h
    simp only [List.lookup,hb,if_neg (fun e:g=f=>hk (h.symm.trans e))]
   ·have hb:(g == k)=false:=beq_eq_false_iff_ne.mpr h
    simp only [List.lookup,hb]
    exact ih
theorem Vv (f:Str)(v:V):∀ fs:List (Str×V),f∈(Xk f v fs).map (·.1)/\∀ g,g∈fs.map (·.1)->g∈(Xk f v fs).map (·.1)
 | []=>⟨by simp [Xk],fun g h=>by simp at h⟩
 | (k, x)::r=>by
  obtain ⟨i1,i2⟩:=Vv f v r
  rw [show Xk f v ((k,x)::r)=(if k=f then (k,v)::r else (k,x)::Xk f v r) from rfl]
  by_cases hk:k=f
  ·rw [if_pos hk]
   subst hk
   exact ⟨by simp,fun g h=>by simpa using h⟩
  ·rw [if_neg hk]
   refine ⟨?_,fun g h=>?_⟩
   ·rw [map_cons]
    exact mem_cons_of_mem _ i1
   ·rw [map_cons] at h ⊢
    rcases mem_cons.mp h with e | e
    ·exact mem_cons.mpr (.inl e)
    ·exact mem_cons_of_mem _ (i2 g e)
theorem VU (f:Str)(v:V):∀ fs:List (Str×V),(Xk f v fs).length<=fs.length+1
 | []=>by simp [Xk]
 | (k,x)::r=>by
  have ih:=VU f v r
  rw [show Xk f v ((k,x)::r)=(if k=f then (k,v)::r else (k,x)::Xk f v r) from rfl]
  by_cases hk:k=f
  ·rw [if_pos hk,length_cons,length_cons];omega
  ·rw [if_neg hk,length_cons,length_cons];omega
theorem RelO.some_of {v:V}{o:Option Value}(r:RelO (some v) o):∃ u,o=some u/\RelV v u:=by
 cases o with
 | none=>exact (show False from r).elim
 | some u=>exact ⟨u,rfl,r⟩
theorem RelO.none_of {o:Option Value}(r:RelO none o):o=none:=by
 cases o with
 | none=>rfl
 | some u=>exact (show False from r).elim
theorem Zgs {v:V}{u:Value}(r:RelV v u):PySem.W.handedIn u=true:=by
 cases v with
 | non=>cases (show u=Value.none from r);rfl
 | bl b=>cases (show u=Value.bool b from r);rfl
 | int i=>obtain ⟨t,e⟩:=(show ∃ t,u=Value.int i t from r);cases e;rfl
 | str x=>obtain ⟨t,e⟩:=(show ∃ t,u=Value.str x t from r);cases e;rfl
 | byt b=>obtain ⟨t,e⟩:=(show ∃ t,u=Value.bytes b t from r);cases e;rfl
 | flt b=>obtain ⟨t,e⟩:=(show ∃ t,u=Value.float b t from r);cases e;rfl
 | ref a=>cases (show u=Value.ref a from r);rfl
 | ty n=>cases (show u=Value.type n from r);rfl
section
variable {P:Program}{w:World}{H H':Hp}{h h':Heap}{a C dx:Addr}{fs fs':List (Str×V)}
theorem VH (hok:HOk P w H h)(e:H a=some (.ins C dx fs)):∃ mA,ObjM h a dx C mA/\(∀ f,RelO (fs.lookup f) (mA f))/\PySem.Within mA (fs.map (·.1))/\fs.length<=1000/\H dx=some (.own a):=by
 obtain ⟨d,z,ne,ob,mA,n,r,q⟩:=(show ObjOk P w H h a (.ins C dx fs) from hok a _ e)
 exact ⟨mA,⟨ob,n,ne⟩,r,q,z,d⟩
end
structure Cls (K:PySem.W.Frag)(C:Addr):Prop where
 pg:PySem.W.plainGet K C Str.empty=true
 hd:PySem.W.hasDictIn K C=true
 po:PySem.W.plainOver K C=true
 sa:PySem.W.findIn K (.ref C) "__setattr__"=some (some (.builtin "object.__setattr__"))
theorem Cls.get {K:PySem.W.Frag}{C:Addr}(c:Cls K C)(f:Str):PySem.W.plainGet K C f=true:=c.pg
def NoAttr (K:PySem.W.Frag)(C:Addr)(f:Str):Prop:=PySem.W.findIn K (.ref C) f=some none
theorem NoAttr.taker {K:PySem.W.Frag}{C:Addr}{f:Str}(n:NoAttr K C f):PySem.W.takerIn K C f=some none:=by
 unfold PySem.W.takerIn
 rw [show PySem.W.findIn K (.ref C) f=some none from n]
 rfl
structure Zac (K:PySem.W.Frag)(C:Addr)(m:Str)(f:Addr):Prop where
 at_:PySem.W.findIn K (.ref C) m=some (some (.ref f))
 fn:PySem.W.isFn K (.ref f)=true
 kp:PySem.W.keepIn K (.ref f)=true
section
variable {X:Cx}{pins:List (Addr×Obj)}{σ:St}{H:Hp}{s:Shared}{a C dx:Addr}{fs:List (Str×V)}{f:Str}{v:V}{A:Around}{E:Value->Shared->Prop}
theorem Zft {b:Bool}{Q:Value->Shared->Prop}(I:Inv X pins σ H s)(e:H a=some (.ins C dx fs))(c:Cls X.K C)(n:NoAttr X.K C f)(l:fs.lookup f=some v)
 (h:∀ u s',Inv X pins σ H s'->RelV v u->Q u s'):wpAny (model X.prog X.w) A (getAttr (.ref a) f b) Q E s:=by
 obtain ⟨mA,O,r,_,_,_⟩:=VH I.hok e
 obtain ⟨u,hu,ru⟩:=RelO.some_of (v:=v) (o:=mA f) (by rw [<- l];exact r f)
 exact ZjR I.kIn O (c.get f) c.hd n hu (Zgs ru) (h u _ (I.tok _) ru)
theorem ZaP {m:Str}{g:Addr}{pl:Sem Bool}{Q:Value×List Value->Shared->Prop}(I:Inv X pins σ H s)(e:H a=some (.ins C dx fs))(c:Cls X.K C)(k:Zac X.K C m g)(l:fs.lookup m=none)
 (h:Q (.ref g,[.ref a]) s):wpAny (model X.prog X.w) A (getMethod (.ref a) m pl) Q E s:=by
 obtain ⟨mA,O,r,_,_,_⟩:=VH I.hok e
 have hn:mA m=none:=RelO.none_of (by rw [<- l];exact r m)
 exact ZhV I.kIn O (c.get m) k.at_ k.fn hn h
theorem ZfL {y:V}{u:Value}{Q:Unit->Shared->Prop}(I:Inv X pins σ H s)(e:H a=some (.ins C dx fs))(c:Cls X.K C)(n:NoAttr X.K C f)(hl:fs.length < 1000)(ry:RelV y u)
 (h:∀ s',Inv X pins σ (upd H a (.ins C dx (Xk f y fs))) s'->Q () s'):wpAny (model X.prog X.w) A (setAttr (.ref a) f u) Q E s:=by
 obtain ⟨mA,O,r,wi,_,ho⟩:=VH I.hok e
 have hz:(fs.map (·.1)).length<=sizeLine:=by rw [length_map,sizeLine_eq];omega
 refine Zkw I.kIn O c.sa c.po n.taker c.hd wi hz fun h' O' sb=>h _ ?_
 have hd:∃ o,h'.get? dx=some o:=let ⟨o,_,_,e',_⟩:=O'.ns;⟨o,e'⟩
 refine I.write (x:=a) (e:=dx) (by rw [e];exact True.intro) (.inr ho) (fun b q hb z=>(sb.2 b hb).trans z) hd ?_
 refine ⟨by rw [Zi O.ne];exact ho,?_,O.ne,O'.obj,_,O'.ns,fun g=>?_,fun g hg=>?_⟩
 ·have:=VU f y fs;omega
 ·show RelO ((Xk f y fs).lookup g) (if g=f then some u else mA g)
  rw [YO]
  by_cases q:g=f
  ·rw [if_pos q,if_pos q];exact ry
  ·rw [if_neg q,if_neg q];exact r g
 ·by_cases q:g=f
  ·rw [q];exact (Vv f y fs).1
  ·refine (Vv f y fs).2 g (wi g fun z=>hg ?_)
   show (if g=f then some u else mA g)=none
   rw [if_neg q];exact z
theorem Inv.made (I:Inv X pins σ H s):Inv X pins σ (upd (upd H s.heap.objs.size (.own (s.heap.objs.size+1))) (s.heap.objs.size+1) (.ins C s.heap.objs.size []))
 {s with heap:=(s.heap.push PySem.W.emptyDict).push (PySem.W.instObj C s.heap.objs.size) }:=by
 have e1:(s.heap.push PySem.W.emptyDict).get? s.heap.objs.size=some PySem.W.emptyDict:=Heap.get?_push_size s.heap rfl
 have e2:((s.heap.push PySem.W.emptyDict).push (PySem.W.instObj C s.heap.objs.size)).get? (s.heap.objs.size+1)=some (PySem.W.instObj C s.heap.objs.size):=by
  have:=Heap.get?_push_size (s.heap.push PySem.W.emptyDict) (o:=PySem.W.instObj C s.heap.objs.size) rfl
  rwa [Heap.size_push] at this
 have e3:(s.heap.push PySem.W.emptyDict).Ns s.heap.objs.size (fun _=>none):=⟨PySem.W.emptyDict,#[],_,e1,rfl,(fun e he=>absurd he (by simp)),fun _=>rfl⟩
 have I1:=I.laid (a:=s.heap.objs.size) (o:=.own (s.heap.objs.size+1)) (h':=s.heap.push PySem.W.emptyDict) (t':=s.toks) (fun b u q=>Heap.get?_push_of_some _ q) (Nat.le_refl _) ⟨_,e1⟩
 refine I1.laid (a:=s.heap.objs.size+1) (o:=.ins C s.heap.objs.size []) (t':=s.toks) (fun b u q=>Heap.get?_push_of_some _ q) (Nat.le_of_eq (Heap.size_push _ _)) ?_
 have ne:s.heap.objs.size≠s.heap.objs.size+1:=Nat.ne_of_lt (Nat.lt_succ_self _)
 refine ⟨by rw [Zi ne,Ze],Nat.zero_le _,ne,e2,fun _=>none,(Heap.Ns1.of_empty e3).at fun o q=>Heap.get?_push_of_some _ q,fun _=>True.intro,fun y hy=>absurd rfl hy⟩
theorem ZjM {prog:Program}{w:World}{env:Env}{e:Expr}{f:Str}{pos:Pos}{s:Shared}{Q:Value->Shared->Prop}(hb:attributeBase e f env (eval e env)=eval e env)
 (h:wpAny (model prog w) A (eval e env) (fun o s₁=>wpAny (model prog w) A (getAttr o f true) Q E s₁) E s):wpAny (model prog w) A (eval (.Attribute e f pos) env) Q E s :=
 Attribute_any_ h (by rw [arm_eval_Attribute,hb])
end
inductive Zhr (K:PySem.W.Frag)(f:Str)(Q:VK)(x:V)(H1:Hp):Prop
 | mk (a:_) (C:_) (dx:_) (fs:_) (v:_):(x=.ref a)->(H1 a=some (.ins C dx fs))->(Cls K C)->(NoAttr K C f)->(fs.lookup f=some v)->(Q v H1)->Zhr K f Q x H1
def tFld (K:PySem.W.Frag)(ta:TE)(f:Str):TE:=fun σ H Q=>ta σ H fun x H1=>Zhr K f Q x H1
inductive Zhg (K:PySem.W.Frag)(f:Str)(D:Yi)(σ:St)(y:V)(x:V)(H2:Hp):Prop
 | mk (a:_) (C:_) (dx:_) (fs:_):(x=.ref a)->(H2 a=some (.ins C dx fs))->(Cls K C)->(NoAttr K C f)->(fs.length < 1000)->(D.nx σ (upd H2 a (.ins C dx (Xk f y fs))))->Zhg K f D σ y x H2
def sFld (K:PySem.W.Frag)(ta tv:TE)(f:Str):TS:=fun D σ H=>tv σ H fun y H1=>ta σ H1 fun x H2=>Zhg K f D σ y x H2
section
variable {X:Cx}{o e value:Expr}{f:Str}{pos pos' tpos:Pos}{ta tv:TE}
theorem YM (he:PE X e ta)(hb:attributeBase e f X.env (eval e X.env)=eval e X.env):PE X (.Attribute e f pos) (tFld X.K ta f):=by
 intro pins s σ H Q I h
 refine ZjM hb (Zt (he pins s σ H _ I h) fun u s1 ⟨x,H1,I1,rx,a,C,dx,fs,v,ex,ea,c,n,l,q⟩=>?_)
 subst ex
 obtain rfl:u=Value.ref a:=rx
 exact Zft I1 ea c n l fun u' s2 I2 ru=>⟨v,H1,I2,ru,q⟩
theorem ZgY (ha:PE X o ta)(hv:PE X value tv)(hs:swapsWith value (some (.Attribute o f pos')) pos.line X.env=pure false):PS X (.Assign [.Attribute o f pos'] value pos) (sFld X.K ta tv f):=by
 intro pins s σ H D I h
 refine plainObj_wpAny_Assign_Attribute (Zt (hv pins s σ H _ I h) fun u s1 ⟨y,H1,I1,ry,q⟩=>Zt (ha pins s1 σ H1 _ I1 q) fun ov s2 ⟨x,H2,I2,rx,a,C,dx,fs,ex,ea,c,n,l,q2⟩=>?_) hs
 subst ex
 obtain rfl:ov=Value.ref a:=rx
 exact ZfL I2 ea c n l ry fun s3 I3=>⟨σ,_,I3,q2⟩
end
section
variable {X:Cx}{pins:List (Addr×Obj)}{σ:St}{H:Hp}{s:Shared}{A:Around}{E:Value->Shared->Prop}{Q:Value->Shared->Prop}{c:Value}{b:Bool}
inductive Wb (K:PySem.W.Frag)(H:Hp):V->Value->Prop where
 | non:Wb K H .non (.type "NoneType")
 | bl (x:Bool):Wb K H (.bl x) (.type "bool")
 | int (i:Int):Wb K H (.int i) (.type "int")
 | str (x:Str):Wb K H (.str x) (.type "str")
 | flt (x:UInt64):Wb K H (.flt x) (.type "float")
 | lst {a:Addr} {xs:List V} (e:H a=some (.lst xs)):Wb K H (.ref a) (.type "list")
 | frz {a:Addr} {o:Obj} {xs:List V} (e:H a=some (.frz o (.lst xs))):Wb K H (.ref a) (.type "list")
 | tup {a:Addr} {xs:List V} (e:H a=some (.tup xs)):Wb K H (.ref a) (.type "tuple")
 | dK {a:Addr} {kvs:List (Zk×V)} (e:H a=some (.dK kvs)):Wb K H (.ref a) (.type "dict")
 | dT {a:Addr} {kvs:List (List Zk×V)} (e:H a=some (.dT kvs)):Wb K H (.ref a) (.type "dict")
 | ins {a C dx:Addr} {fs:List (Str×V)} (e:H a=some (.ins C dx fs)) (cl:Cls K C) (ha:PySem.W.findIn K (.ref C) "__class__"=some (some (.builtin "object.__class__")))
     (hn:PySem.W.specialIn K (.builtin "object.__class__") "__get__"=some (some (.builtin "getset_descriptor.__get__"))) (htk:PySem.W.takesIn K (.builtin "object.__class__")=some true)
     (hm:PySem.W.mroIn K C (.type "object")=some true):Wb K H (.ref a) (.ref C)
theorem Zgz {x:V}{u t:Value}(I:Inv X pins σ H s)(rx:RelV x u)(ty:Wb X.K H x t)(e:PySem.W.kitOne X.K t c=some b)(h:∀ tk,Q (.bool b) { s with toks:=tk }) :
 wpAny (model X.prog X.w) A (call (.builtin "isinstance") [u,c]) Q E s:=by
 cases ty with
 | non=>cases (show u=Value.none from rx);exact PySem.W.kia_one PySem.W.kitx_none I.kIn True.intro e (fun z=>nomatch z) h
 | bl y=>cases (show u=Value.bool y from rx);exact PySem.W.kia_one PySem.W.kitx_bool I.kIn True.intro e (fun z=>nomatch z) h
 | int i=>obtain ⟨t,q⟩:=(show ∃ t,u=Value.int i t from rx);cases q;exact PySem.W.kia_one PySem.W.kitx_int I.kIn True.intro e (fun z=>nomatch z) h
 | str y=>obtain ⟨t,q⟩:=(show ∃ t,u=Value.str y t from rx);cases q;exact PySem.W.kia_one PySem.W.kitx_str I.kIn True.intro e (fun z=>nomatch z) h
 | flt y=>obtain ⟨t,q⟩:=(show ∃ t,u=Value.float y t from rx);cases q;exact PySem.W.kia_one PySem.W.kitx_float I.kIn True.intro e (fun z=>nomatch z) h
 | @lst a xs ea =>
  cases (show u=Value.ref a from rx)
  obtain ⟨_,_,n,_,h1⟩:=(show ObjOk X.prog X.w H s.heap a (.lst xs) from I.hok a _ ea)
  exact PySem.W.kia_one PySem.W.kitx_list I.kIn ⟨_,h1,rfl⟩ e (fun z=>nomatch z) h
 | @frz a ob xs ea =>
  cases (show u=Value.ref a from rx)
  obtain ⟨_,_,_,n,_,h1⟩:=(show ObjOk X.prog X.w H s.heap a (.frz ob (.lst xs)) from I.hok a _ ea)
  exact PySem.W.kia_one PySem.W.kitx_list I.kIn ⟨_,h1,rfl⟩ e (fun z=>nomatch z) h
 | @tup a xs ea =>
  cases (show u=Value.ref a from rx)
  obtain ⟨_,_,_,p⟩:=(show ObjOk X.prog X.w H s.heap a (.tup xs) from I.hok a _ ea)
  obtain ⟨o,h1,h2,_⟩:=p
  exact PySem.W.kia_one PySem.W.kitx_tuple I.kIn ⟨o,h1,h2⟩ e (fun z=>nomatch z) h
 | @dK a kvs ea =>
  cases (show u=Value.ref a from rx)
  obtain ⟨_,_,vs,_,p⟩:=(show ObjOk X.prog X.w H s.heap a (.dK kvs) from I.hok a _ ea)
  obtain ⟨o,es,ep,h1,h2,_⟩:=p
  exact PySem.W.kia_one PySem.W.kitx_dict I.kIn ⟨o,h1,h2.1⟩ e (fun z=>nomatch z) h
 | @dT a kvs ea =>
  cases (show u=Value.ref a from rx)
  obtain ⟨_,_,xs,_,o,es,ep,h1,h2,_⟩:=(show ObjOk X.prog X.w H s.heap a (.dT kvs) from I.hok a _ ea)
  exact PySem.W.kia_one PySem.W.kitx_dict I.kIn ⟨o,h1,h2.1⟩ e (fun z=>nomatch z) h
 | @ins a C dx fs ea cl ha hn htk hm =>
  cases (show u=Value.ref a from rx)
  obtain ⟨mA,O,_⟩:=VH I.hok ea
  obtain ⟨od,J,_⟩:=O.look
  exact PySem.W.kia_one (PySem.W.kitx_own (cl.get _) cl.hd ha hn htk hm) I.kIn J e (fun z=>nomatch z) h
end
structure Room (k:Nat)(A:Around):Prop where
 hd:A.handled=none
 dp:A.depth+3 * k+5 < recursionLimit
 un:A.units+16 * k+200 < cLine
 gd:A.guards=some []
theorem Room.mono {j k:Nat}{A:Around}(r:Room k A)(h:j<=k):Room j A:=⟨r.hd,by have:=r.dp;omega,by have:=r.un;omega,r.gd⟩
theorem Room.deeper {k:Nat}{A:Around}(r:Room (k+1) A)(env:Env):Room k (A.deeper env) :=
 ⟨r.hd,by have:=r.dp;show A.depth+1+3 * k+5 < _;omega,by have:=r.un;show A.units+3+16 * k+200 < _;omega,r.gd⟩
theorem Zfx {A:Around}{C:Addr}{us:List Value}{kw:List (Str×Value)}:(A.under (.builtin "type.__call__" ⟨.ref C::us,kw⟩)).depth=A.depth+1:=by
 first | rfl | simp [Around.under,Code.weight,Code.isCreation,Code.isGuard,Code.isCaller,Code.frames,Code.isFrame,guardIds]
theorem Zfy {A:Around}{C:Addr}{us:List Value}{kw:List (Str×Value)}:(A.under (.builtin "type.__call__" ⟨.ref C::us,kw⟩)).units=A.units+1:=by
 first | rfl | simp [Around.under,Code.cUnits,Code.frames,Code.isFrame]
theorem Room.make {k:Nat}{A:Around}(r:Room (k+1) A)(C:Addr)(us:List Value)(kw:List (Str×Value)):Room k (A.under (.builtin "type.__call__" ⟨.ref C::us,kw⟩)) :=
 ⟨r.hd,by have:=r.dp;rw [Zfx];omega,by have:=r.un;rw [Zfy];omega,by first | exact r.gd | simpa [Around.under,Code.isGuard,guardIds] using r.gd⟩
theorem Room.depth {k:Nat}{A:Around}(r:Room k A):A.depth < recursionLimit:=by have:=r.dp;omega
theorem Room.units {k:Nat}{A:Around}(r:Room k A):A.units+64 < cLine:=by have:=r.un;omega
def XW:TA:=fun _ H Q=>Q [] H
def Xm (ta:TE)(tr:TA):TA:=fun σ H Q=>ta σ H fun x H1=>tr σ H1 fun xs H2=>Q (x::xs) H2
section
variable {X:Cx}{e:Expr}{es:List Expr}{te:TE}{t:TA}{pos:Pos}
theorem Za:PA X [] XW:=fun _ _ _ _ H Q I h=>Calls.spliced_nil ⟨[],H,I,.nil,h⟩
theorem YC (ha:PE X e te)(hr:PA X es t)(hs:starEach (e::es) X.env=(false,eval e X.env)::starEach es X.env:=by rfl):PA X (e::es) (Xm te t):=by
 intro pos pins s σ H Q I h
 rw [hs]
 show wpAny _ _ (spliced ((false,eval e X.env)::backTo pos (starEach es X.env))) _ _ s
 refine Calls.spliced_cons (Zt (ha pins s σ H _ I h) fun u s1 ⟨x,H1,I1,r1,q1⟩=>?_)
 exact Zt (hr pos pins s1 σ H1 _ I1 q1) fun us s2 ⟨xs,H2,I2,r2,q2⟩=>⟨x::xs,H2,I2,.cons r1 r2,q2⟩
def tTup (t:TA):TE:=fun σ H Q=>t σ H fun xs H1=>xs.length<=sizeLine/\∀ p,H1 p=none->Q (.ref p) (upd H1 p (.tup xs))
def tLst (t:TA):TE:=fun σ H Q=>t σ H fun xs H1=>xs.length<=sizeLine/\∀ p,H1 p=none->Q (.ref p) (upd H1 p (.lst xs))
theorem Zbe {x1}(h:PA X es t):PE X (.Tuple es x1 pos) (tTup t):=by
 intro pins s σ H Q I hq
 refine wpAny_Tuple_spliced (Zt (h pos pins s σ H _ I hq) fun us s1 ⟨xs,H1,I1,r,z,q⟩=>⟨by rw [<- r.length];exact z,?_⟩)
 have hf:H1 s1.heap.objs.size=none:=I1.hok.fresh (Nat.le_refl _)
 refine ⟨.ref s1.heap.objs.size,upd H1 s1.heap.objs.size (.tup xs),I1.laid (t':=s1.toks) (fun b u e=>Heap.get?_push_of_some _ e) (Nat.le_refl _) ?_,rfl,q _ hf⟩
 exact ⟨z,us,r,⟨_,Heap.get?_push_size _ rfl,rfl,_,rfl⟩⟩
theorem YX (h:PA X es t):PE X (.List es pos) (tLst t):=by
 intro pins s σ H Q I hq
 refine wpAny_List_spliced (Zt (h pos pins s σ H _ I hq) fun us s1 ⟨xs,H1,I1,r,z,q⟩=>⟨by rw [<- r.length];exact z,?_⟩)
 have hf:H1 s1.heap.objs.size=none:=I1.hok.fresh (Nat.le_refl _)
 refine ⟨.ref s1.heap.objs.size,upd H1 s1.heap.objs.size (.lst xs),I1.laid (t':=s1.toks) (fun b u e=>Heap.get?_push_of_some _ e) (Nat.le_refl _) ?_,rfl,q _ hf⟩
 exact ⟨z,us,0,r,Heap.get?_push_size _ rfl⟩
end
abbrev Sp:=List V->Hp->VK->XK->Prop
abbrev Uu:=List Env->Hp->Shared->XK->Value->Shared->Prop
structure Env0 (P:Program)(w:World)(K:PySem.W.Frag)(mg:Str->Option Value)(base:Heap)(A:Around)(outer:List Env)(s:Shared)(H:Hp):Prop where
 frames:A.frames=some outer
 mod:Mod K mg base
 bs:∀ b o,base.get? b=some o->s.heap.get? b=some o/\H b=none
 bsz:base.objs.size<=s.heap.objs.size
 funs:s.heap.FunFrames base outer
 frf:∀ b∈Vt outer,H b=none
 hok:HOk P w H s.heap
 bare:AllBare s.gens
def CE (outer:List Env)(P:Program)(w:World)(H:Hp)(s:Shared)(Q:VK)(u:Value)(s':Shared):Prop :=
 ∃ v H',s'.os=s.os/\AllBare s'.gens/\Un (Vt outer) [] H H' s.heap s'.heap/\HOk P w H' s'.heap/\RelV v u/\Q v H'
def CR (CX:Uu)(outer:List Env)(P:Program)(w:World)(H:Hp)(s:Shared)(Q:VK)(E:XK)(r:Result)(s':Shared):Prop :=
 match r with
 | .ok (.ret u)=>CE outer P w H s Q u s'
 | .ok _=>False
 | .error e=>CX outer H s E e s'
structure FnOk (P:Program)(w:World)(K:PySem.W.Frag)(mg:Str->Option Value)(base:Heap)(CX:Uu)(k:Nat)(f:Addr)(fd:FuncData)(ps:List Str)(sp:Sp):Prop where
 len:∀ vs H Q E,sp vs H Q E->vs.length=ps.length
 run:∀ (A:Around) (outer:List Env) (s:Shared) (H:Hp) (args:Args) (us:List Value) (vs:List V) (Q:VK) (E:XK),Room k A->Env0 P w K mg base A outer s H->BindsTo s fd args (ps.zip us)->Vals vs us->sp vs H Q E ->
  codeAny (model P w) A (.call (.ref f) args) (CR CX outer P w H s Q E) s
theorem FnOk.mono {P:Program}{w:World}{K:PySem.W.Frag}{mg:Str->Option Value}{base:Heap}{CX:Uu}{j k:Nat}{f:Addr}{fd:FuncData}{ps:List Str}{sp:Sp}(F:FnOk P w K mg base CX j f fd ps sp)(h:j<=k) :
 FnOk P w K mg base CX k f fd ps sp:=⟨F.len,fun A outer s H args us vs Q E hr=>F.run A outer s H args us vs Q E (hr.mono h)⟩
theorem Env0.make {P:Program}{w:World}{K:PySem.W.Frag}{mg:Str->Option Value}{base:Heap}{A:Around}{outer:List Env}{s:Shared}{H:Hp}(e:Env0 P w K mg base A outer s H)(C:Addr)(us:List Value)(kw:List (Str×Value)) :
 Env0 P w K mg base (A.under (.builtin "type.__call__" ⟨.ref C::us,kw⟩)) outer s H:=⟨by first | exact e.frames | (simpa [Around.under,Code.envs,Code.isFrame,pushEnvs] using e.frames),e.mod,e.bs,e.bsz,e.funs,e.frf,e.hok,e.bare⟩
section
variable {X:Cx}{pins:List (Addr×Obj)}{σ:St}{H:Hp}{s s':Shared}
theorem Inv.env0 (I:Inv X pins σ H s):Env0 X.prog X.w X.K X.mg X.base X.A X.stack s H :=
 ⟨I.ok.frames,I.ok.mod,I.bs,Nat.le_trans I.ok.bsz I.sz,I.stack,I.stkFree,I.hok,I.bare⟩
theorem Inv.after {Q:VK}{u:Value}(I:Inv X pins σ H s)(h:CE X.stack X.prog X.w H s Q u s'):EP X pins σ Q u s':=by
 obtain ⟨v,H',os,bare,un,hok,r,q⟩:=h
 obtain ⟨hh,g,d,t,os'⟩:=s'
 obtain rfl:os'=s.os:=os
 exact ⟨v,H',I.call (h':=hh) (g':=g) (d':=d) (t':=t) (ch:=[]) un hok bare (fun b z=>absurd z (by simp)),r,q⟩
end
def Zbq (sp:Sp)(dvs:List V)(E:XK)(t:TA):TE:=fun σ H Q=>t σ H fun vs H1=>sp (vs++dvs) H1 Q E
inductive Zfc (C:Addr)(m:Str)(sp:Sp)(dvs:List V)(E:XK)(t:TA)(σ:St)(Q:VK)(x:V)(H1:Hp):Prop
 | mk (a:_) (dx:_) (fs:_):(x=.ref a)->(H1 a=some (.ins C dx fs))->(fs.lookup m=none)->(t σ H1 fun vs H2=>sp (x::(vs++dvs)) H2 Q E)->Zfc C m sp dvs E t σ Q x H1
def ZcT (C:Addr)(m:Str)(sp:Sp)(dvs:List V)(E:XK)(ta:TE)(t:TA):TE:=fun σ H Q=>ta σ H fun x H1=>Zfc C m sp dvs E t σ Q x H1
def ZjE (C:Addr)(sp:Sp)(dvs:List V)(E:XK)(t:TA):TE:=fun σ H Q=>t σ H fun vs H1=>∀ x dx,H1 x=none->H1 dx=none->dx≠x ->
 sp (.ref x::(vs++dvs)) (upd (upd H1 dx (.own x)) x (.ins C dx [])) (fun v H2=>v=.non/\Q (.ref x) H2) E
def Binds (K:PySem.W.Frag)(fd:FuncData)(ps:List Str)(ds:List Value):Prop :=
 ∀ (s:Shared) (us:List Value),K.In s.heap->(us++ds).length=ps.length->BindsTo s fd ⟨us,[]⟩ (ps.zip (us++ds))
theorem Binds.all {K:PySem.W.Frag}{fd:FuncData}{ps:List Str}(h:∀ us:List Value,us.length=ps.length->bindArgs fd ⟨us,[]⟩=pure (ps.zip us)):Binds K fd ps []:=fun s us _ hl=>by
 rw [List.append_nil] at hl ⊢
 exact .of_eq (h us hl)
def WM (CX:Uu)(X:Cx)(E:XK):Prop:=∀(pins:List (Addr×Obj))(σ:St)(H:Hp)(s:Shared)(e:Value)(s':Shared),Inv X pins σ H s->CX X.stack H s E e s'->X.xe e s'
section
variable {X:Cx}{CX:Uu}{k:Nat}{f C:Addr}{fd:FuncData}{ps:List Str}{sp:Sp}{dvs:List V}{ds:List Value}{E:XK}{x m:Str}{p pos apos:Pos}{e o:Expr}{es:List Expr}{ta:TE}{t:TA}
theorem ZdF {pins:List (Addr×Obj)}{σ:St}{H:Hp}{s:Shared}{Q:VK}{us:List Value}{vs:List V}(F:FnOk X.prog X.w X.K X.mg X.base CX k f fd ps sp)(hr:Room k X.A)(hb:Binds X.K fd ps ds)(hd:Vals dvs ds)(hx:WM CX X E)
 (I:Inv X pins σ H s) (r:Vals vs us) (h:sp (vs++dvs) H Q E):wpAny (model X.prog X.w) X.A (call (.ref f) us) (EP X pins σ Q) X.xe s:=by
 have r2:Vals (vs++dvs) (us++ds):=r.append hd
 have hl:(us++ds).length=ps.length:=by rw [<- r2.length];exact F.len _ _ _ _ h
 refine wpAny_call (codeAny_mono (F.run X.A X.stack s H ⟨us,[]⟩ (us++ds) (vs++dvs) Q E hr I.env0 (hb s us I.kIn hl) r2 h) fun r s' hq=>?_)
 cases r with
 | error e=>exact hx pins σ H s e s' I hq
 | ok fl =>
  cases fl with
  | ret u=>exact I.after hq
  | next=>exact False.elim hq
  | brk=>exact False.elim hq
  | cont=>exact False.elim hq
theorem Zkm (F:FnOk X.prog X.w X.K X.mg X.base CX k f fd ps sp)(hr:Room k X.A)(hg:Gl X x)(hm:X.mg x=some (.ref f))(hk:PySem.W.keepIn X.K (.ref f)=true)(hb:Binds X.K fd ps ds)(hd:Vals dvs ds)(hx:WM CX X E)
 (ha:PA X (e::es) t) (hdb:(x == ("__debug__":Str))=false:=by decide) (he:starEach (e::es) X.env=(false,eval e X.env)::starEach es X.env:=by rfl) (hpl:(backTo pos (starEach es X.env)).any (·.1)=false:=by rfl) :
 PE X (.Call (.Name x p) (e::es) [] pos) (Zbq sp dvs E t):=by
 intro pins s σ H Q I h
 refine wpAny_Call_Name_kw (ZbF I hg hm ?_ hdb)
 refine PySem.W.callWith_K (h₀:=X.base) I.ok.mod.kin hk (Zt (ha pos pins s σ H _ I h) fun us s1 ⟨vs,H1,I1,r,q⟩=>⟨I1.kIn,?_⟩) he hpl
 exact ZdF F hr hb hd hx I1 r q
theorem Zkp {pl:Sem Bool}(he:PE X o ta)(c:Cls X.K C)(hm:Zac X.K C m f)(F:FnOk X.prog X.w X.K X.mg X.base CX k f fd ps sp)(hr:Room k X.A)(hb:Binds X.K fd ps ds)(hd:Vals dvs ds)(hx:WM CX X E)(ha:PA X (e::es) t)
 (hst:starEach (e::es) X.env=(false,eval e X.env)::starEach es X.env:=by rfl) (hpl:(backTo pos (starEach es X.env)).any (·.1)=false:=by rfl)
 (ht:eval (.Call (.Attribute o m apos) (e::es) [] pos) X.env=(do
  let ov <- eval o X.env
  standAt apos.atName
  let (f,first) <- holding [ov] (getMethod ov m pl)
  callWith pos f first (backTo pos (starEach (e::es) X.env)) (backToKw pos (keywordEach [] X.env))):=by rfl) :
 PE X (.Call (.Attribute o m apos) (e::es) [] pos) (ZcT C m sp dvs E ta t):=by
 intro pins s σ H Q I h
 refine PySem.W.methodCall_KW (pl:=pl) (Zt (he pins s σ H _ I h) fun u s1 ⟨x,H1,I1,rx,a,dx,fs,ex,ea,l,q⟩=>?_) ht
 subst ex
 obtain rfl:u=Value.ref a:=rx
 refine ZaP I1 ea c hm l ?_
 refine PySem.W.callWith_K (first:=[.ref a]) (h₀:=X.base) I.ok.mod.kin hm.kp (Zt (ha pos pins s1 σ H1 _ I1 q) fun us s2 ⟨vs,H2,I2,r,q2⟩=>⟨I2.kIn,?_⟩) hst hpl
 exact ZdF (us:=.ref a::us) (vs:=.ref a::vs) F hr hb hd hx I2 (.cons rfl r) q2
theorem ZiA {pl:Sem Bool}(he:PE X o ta)(c:Cls X.K C)(hm:Zac X.K C m f)(F:FnOk X.prog X.w X.K X.mg X.base CX k f fd ps sp)(hr:Room k X.A)(hb:Binds X.K fd ps ds)(hd:Vals dvs ds)(hx:WM CX X E)
 (ht:eval (.Call (.Attribute o m apos) [] [] pos) X.env=(do
  let ov <- eval o X.env
  standAt apos.atName
  let (f,first) <- holding [ov] (getMethod ov m pl)
  callWith pos f first (backTo pos (starEach [] X.env)) (backToKw pos (keywordEach [] X.env))):=by rfl) :
 PE X (.Call (.Attribute o m apos) [] [] pos) (ZcT C m sp dvs E ta XW):=by
 intro pins s σ H Q I h
 refine PySem.W.methodCall_KW (pl:=pl) (Zt (he pins s σ H _ I h) fun u s1 ⟨x,H1,I1,rx,a,dx,fs,ex,ea,l,q⟩=>?_) ht
 subst ex
 obtain rfl:u=Value.ref a:=rx
 refine ZaP I1 ea c hm l ?_
 exact PySem.W.callWith_K0 (first:=[.ref a]) I1.kIn hm.kp (ZdF (us:=[.ref a]) (vs:=[.ref a]) F hr hb hd hx I1 (.cons rfl .nil) q)
structure Mk (K:PySem.W.Frag)(C f:Addr):Prop where
 makes:PySem.W.makesIn K C=true
 init:PySem.W.findIn K (.ref C) "__init__"=some (some (.ref f))
 fn:PySem.W.isFn K (.ref f)=true
 kp:PySem.W.keepIn K (.ref C)=true
theorem ZiS {pins:List (Addr×Obj)}{σ:St}{H:Hp}{s:Shared}{Q:VK}{us:List Value}{vs:List V}(M:Mk X.K C f)(F:FnOk X.prog X.w X.K X.mg X.base CX k f fd ps sp)(hr:Room (k+1) X.A)(hb:Binds X.K fd ps ds)(hd:Vals dvs ds)
 (hx:WM CX X E) (I:Inv X pins σ H s) (r:Vals vs us)
 (h:∀ x dx,H x=none->H dx=none->dx≠x->sp (.ref x::(vs++dvs)) (upd (upd H dx (.own x)) x (.ins C dx [])) (fun v H2=>v=.non/\Q (.ref x) H2) E) :
 wpAny (model X.prog X.w) X.A (call (.ref C) us) (EP X pins σ Q) X.xe s:=by
 have hq:=h (s.heap.objs.size+1) s.heap.objs.size (I.hok.fresh (Nat.le_succ _)) (I.hok.fresh (Nat.le_refl _)) (Nat.ne_of_lt (Nat.lt_succ_self _))
 have I2:=Inv.made (C:=C) I
 have r2:Vals (V.ref (s.heap.objs.size+1)::(vs++dvs)) (Value.ref (s.heap.objs.size+1)::(us++ds)):=.cons rfl (r.append hd)
 have hl:(Value.ref (s.heap.objs.size+1)::us++ds).length=ps.length:=by
  have e:=r2.length
  rw [F.len _ _ _ _ hq] at e
  exact e.symm
 refine wpAny_call (Zif (f:=f) I.kIn M.makes M.init (beq_iff_eq.mp M.fn) (codeAny_mono (F.run _ X.stack _ _ ⟨Value.ref (s.heap.objs.size+1)::us,[]⟩ (Value.ref (s.heap.objs.size+1)::(us++ds)) _ _ E (hr.make C us [])
  (I2.env0.make C us []) (hb _ (Value.ref (s.heap.objs.size+1)::us) I2.kIn hl) r2 hq) fun r s' hq'=>?_))
 cases r with
 | error e=>exact hx pins σ _ _ e s' I2 hq'
 | ok fl =>
  cases fl with
  | ret u =>
   obtain ⟨v,H',I3,rv,ev,q3⟩:=I2.after hq'
   subst ev
   exact ⟨rv,⟨V.ref (s.heap.objs.size+1),H',I3,rfl,q3⟩⟩
  | next=>exact False.elim hq'
  | brk=>exact False.elim hq'
  | cont=>exact False.elim hq'
theorem Ziz (M:Mk X.K C f)(F:FnOk X.prog X.w X.K X.mg X.base CX k f fd ps sp)(hr:Room (k+1) X.A)(hg:Gl X x)(hm:X.mg x=some (.ref C))(hb:Binds X.K fd ps ds)(hd:Vals dvs ds)(hx:WM CX X E)
 (hdb:(x == ("__debug__":Str))=false:=by decide):PE X (.Call (.Name x p) [] [] pos) (ZjE C sp dvs E XW):=by
 intro pins s σ H Q I h
 refine wpAny_Call_Name_kw (ZbF I hg hm ?_ hdb)
 exact PySem.W.callWith_K0 I.kIn M.kp (ZiS (us:=[]) M F hr hb hd hx I .nil h)
end
def PK (X:Cx)(kws:List Keyword)(t:TA):Prop :=
 ∀ (pos:Pos) (pins:List (Addr×Obj)) (s:Shared) (σ:St) (H:Hp) (Q:List V->Hp->Prop),Inv X pins σ H s->t σ H Q->wpAny (model X.prog X.w) X.A (evalAll ((backToKw pos (keywordEach kws X.env)).map (·.2))) (AP X pins σ Q) X.xe s
section
variable {X:Cx}{CX:Uu}{k:Nat}{f C:Addr}{fd:FuncData}{ps ks:List Str}{sp:Sp}{E:XK}{x m:Str}{p pos apos kpos:Pos}{e o:Expr}{es:List Expr}{kws:List Keyword}{te ta:TE}{t tk:TA}{nm:Option Str}
theorem ZlI:PK X [] XW:=fun _ _ _ _ H Q I h=>wpAny_evalAll_nil ⟨[],H,I,.nil,h⟩
theorem Zkq (ha:PE X e te)(hr:PK X kws t):PK X (⟨nm,e,kpos⟩::kws) (Xm te t):=by
 intro pos pins s σ H Q I h
 show wpAny _ _ (evalAll ((do let v <- eval e X.env;standAt pos;pure v)::(backToKw pos (keywordEach kws X.env)).map (·.2))) _ _ s
 refine wpAny_evalAll_cons (wpAny_bind (Zt (ha pins s σ H _ I h) fun u s1 ⟨x,H1,I1,r1,q1⟩=>wpAny_bind (wpAny_standAt (wpAny_pure ?_))))
 exact Zt (hr pos pins s1 σ H1 _ I1 q1) fun us s2 ⟨xs,H2,I2,r2,q2⟩=>⟨x::xs,H2,I2,.cons r1 r2,q2⟩
variable {g:List Value->List Value->List Value}{gV:List V->List V->List V}
end
structure Zx (N P:List Str)(sc:Scope):Prop where
 kind:sc.kind=.function
 co:sc.isCoroutine=false
 gen:sc.isGenerator=false
 nd:N.Nodup
 pre:N.take P.length=P
 par:∀ x∈P,sc.names.lookup x=some .local\/sc.names.lookup x=some .cell
 nofree:∀ y∈sc.names,y.2≠.free
theorem ZbZ {kindOf:Str->Option NameKind}{x:Str}:∀{binds:List (Str×Value)}{m:Str->Option Value},(∀ v,(x,v) ∉ binds)->bindL kindOf binds m x=m x
 | [],_,_=>rfl
 | (n,v)::r,m,h=>by
  unfold bindL
  rw [ZbZ fun w hw=>h w (mem_cons_of_mem _ hw)]
  split
  ·have:x≠n:=by rintro rfl;exact h v mem_cons_self
   simp [this]
  ·rfl
theorem ZbX {kindOf:Str->Option NameKind}{x:Str}:∀{binds:List (Str×Value)}{m:Str->Option Value},(∀ v,(x,v) ∉ binds)->bindC kindOf binds m x=m x
 | [],_,_=>rfl
 | (n,v)::r,m,h=>by
  unfold bindC
  rw [ZbX fun w hw=>h w (mem_cons_of_mem _ hw)]
  split
  ·rfl
  ·have:x≠n:=by rintro rfl;exact h v mem_cons_self
   simp [this]
theorem ZbY {kindOf:Str->Option NameKind}{x:Str}{v:Value}:∀{P:List Str}{vs:List Value}{i:Nat}{m:Str->Option Value},P.Nodup->P[i]?=some x->vs[i]?=some v->kindOf x=some .local ->
 bindL kindOf (P.zip vs) m x=some v
 | [],_,_,_,_,h,_,_=>by simp at h
 | _::_,[],_,_,_,_,h,_=>by simp at h
 | p::P,w::vs,0,m,nd,h1,h2,hk=>by
  simp at h1 h2;subst h1;subst h2
  show bindL kindOf ((p,w)::P.zip vs) m p=_
  unfold bindL
  rw [ZbZ fun v hv=>(nodup_cons.mp nd).1 (of_mem_zip hv).1,if_pos hk]
  simp
 | p::P,w::vs,i+1,m,nd,h1,h2,hk=>by
  show bindL kindOf ((p,w)::P.zip vs) m x=_
  unfold bindL
  exact ZbY (i:=i) (nodup_cons.mp nd).2 (by simpa using h1) (by simpa using h2) hk
theorem ZbW {kindOf:Str->Option NameKind}{x:Str}{v:Value}:∀{P:List Str}{vs:List Value}{i:Nat}{m:Str->Option Value},P.Nodup->P[i]?=some x->vs[i]?=some v->kindOf x≠some .local ->
 bindC kindOf (P.zip vs) m x=some v
 | [],_,_,_,_,h,_,_=>by simp at h
 | _::_,[],_,_,_,_,h,_=>by simp at h
 | p::P,w::vs,0,m,nd,h1,h2,hk=>by
  simp at h1 h2;subst h1;subst h2
  show bindC kindOf ((p,w)::P.zip vs) m p=_
  unfold bindC
  rw [ZbX fun v hv=>(nodup_cons.mp nd).1 (of_mem_zip hv).1,if_neg hk]
  simp
 | p::P,w::vs,i+1,m,nd,h1,h2,hk=>by
  show bindC kindOf ((p,w)::P.zip vs) m x=_
  unfold bindC
  exact ZbW (i:=i) (nodup_cons.mp nd).2 (by simpa using h1) (by simpa using h2) hk
def start (N:List Str)(vs:List V):St:=vs.map some++List.replicate (N.length - vs.length) none
def Yo (CX:Uu)(P:Program)(w:World)(K:PySem.W.Frag)(mg:Str->Option Value)(base:Heap)(N:List Str)(qual:Str)(scope:Scope)(f:Addr)(cd:Value)(A:Around)(outer:List Env)(s:Shared)(H:Hp)(E:XK):Cx where
 prog:=P
 w:=w
 K:=K
 mg:=mg
 base:=base
 A:=A.deeper (envOfC qual scope s.heap.objs.size f cd)
 N:=N
 s₀:=s
 H₀:=H
 env:=envOfC qual scope s.heap.objs.size f cd
 outer:=outer
 stack:=envOfC qual scope s.heap.objs.size f cd::outer
 ex:=[]
 calm:=true
 fn:=fun _=>true
 pn:=[]
 xe:=fun e s'=>wpAny (model P w) (A.deeper (envOfC qual scope s.heap.objs.size f cd)) (leaving (envOfC qual scope s.heap.objs.size f cd) e) (fun _ s''=>CX outer H s E e s'') (fun e' s''=>CX outer H s E e' s'') s'
theorem Zdi {sc:Scope}{n:Nat}{x:Str}(h:sc.names.lookup x=some .cell):∃ c,(cellsFrom n sc.names []).lookup x=some c:=by
 have q:=PySem.W.cellsFrom_some sc.names n [] (.inl h)
 exact Option.isSome_iff_exists.mp q
theorem Zgx {CX:Uu}{P:Program}{w:World}{K:PySem.W.Frag}{mg:Str->Option Value}{base:Heap}{N ps:List Str}{qual:Str}{scope:Scope}{f:Addr}{cd:Value}{A:Around}{outer:List Env}{s s1:Shared}{H:Hp}{E:XK}{us:List Value}{vs:List V}
 (S:Zx N ps scope) (hd:A.handled=none) (e0:Env0 P w K mg base A outer s H) (hl:vs.length=ps.length) (r:Vals vs us)
 (x:InCallC s s.heap.objs.size (bindL (envOfC qual scope s.heap.objs.size f cd).kindOf (ps.zip us) fun _=>none) (cellsFrom (s.heap.objs.size+1) scope.names []) (bindC (envOfC qual scope s.heap.objs.size f cd).kindOf (ps.zip us) fun _=>none) s1) :
 Inv (Yo CX P w K mg base N qual scope f cd A outer s H E) [] (start N vs) H s1:=by
 have hpl:ps.length<=N.length:=by have:=congrArg List.length S.pre;rw [length_take] at this;omega
 obtain ⟨h1,tk,rfl,hk⟩:=x.done
 have noA:∀ b:Addr,b ∉ (Yo CX P w K mg base N qual scope f cd A outer s H E).ex:=fun b z=>absurd (show b∈([]:List Addr) from z) (by simp)
 refine ⟨⟨e0.mod,S.kind,rfl,rfl,Nat.le_refl _,fun y z c h1 h2=>?_,fun y hy=>?_,fun y c _ h=>?_,fun _=>hd,Around.frames_deeper e0.frames,.inr ⟨rfl,rfl⟩,fun b z=>absurd z (noA b),e0.bs,e0.bsz,fun b _ _=>noA b,fun b z=>absurd z (noA b),e0.funs,e0.frf⟩,
  rfl,e0.bare,Un.kept hk,⟨_,x.toInCall.ns,fun i y v h1 h2 h3=>?_⟩,fun y c h=>⟨_,x.cell y c h⟩,e0.hok.fresh (Nat.le_refl _),fun y c h=>?_,fun p hp=>absurd (show p∈([]:List (Addr×Obj)) from hp) (by simp),e0.hok.kept hk,?_⟩
 ·exact name_of_addr x.apart (PySem.mem_of_lookup h1) (PySem.mem_of_lookup h2)
 ·have hy:scope.names.lookup y=some .cell\/scope.names.lookup y=some .free:=hy
  rcases hy with hy | hy
  ·exact Zdi hy
  ·exact absurd rfl (S.nofree _ (PySem.mem_of_lookup hy))
 ·exact Nat.le_of_lt (x.above y c (PySem.mem_of_lookup h))
 ·have hi:i < vs.length:=by
   unfold start at h2
   by_cases hi:i < vs.length
   ·exact hi
   ·rw [getElem?_append_right (by simpa using hi)] at h2
    rw [List.getElem?_replicate] at h2
    split at h2<;>cases h2
  have ha:vs[i]?=some v:=by
   unfold start at h2
   rw [getElem?_append_left (by simpa using hi),getElem?_map] at h2
   cases e:vs[i]? with
   | none=>rw [e] at h2;cases h2
   | some a=>rw [e] at h2;cases h2;rfl
  obtain ⟨u,hu,rv⟩:=r.get ha
  have hp:ps[i]?=some y:=by
   rw [<- S.pre,List.getElem?_take_of_lt (by omega)];exact h1
  have ndP:ps.Nodup:=by rw [<- S.pre];exact S.nd.sublist (List.take_sublist _ _)
  refine ⟨u,rv,?_⟩
  rcases S.par y (mem_of_getElem? hp) with k | k
  ·exact .inl ⟨k,ZbY ndP hp hu k⟩
  ·obtain ⟨c,e⟩:=Zdi (n:=s.heap.objs.size+1) k
   refine .inr ⟨.inl k,c,e,?_⟩
   have q:=x.cell y c e
   rw [ZbW ndP hp hu (by show scope.names.lookup y≠_;rw [k];decide)] at q
   exact q
 ·exact e0.hok.fresh (Nat.le_of_lt (x.above y c (PySem.mem_of_lookup h)))
 ·unfold start
  show _=N.length
  rw [length_append,length_map,List.length_replicate]
  omega
theorem Zjo {CX:Uu}{P:Program}{w:World}{K:PySem.W.Frag}{mg:Str->Option Value}{base:Heap}{k:Nat}{f:Addr}{name qual:Str}{params:Arguments}{body:List Stmt}{scope:Scope}{dV kV doc pm cdv ct oc:Value}{an od:Option Addr}
 {osl:Array (Option Value)} {N ps:List Str} {sp:Sp} (lk:K.lookup f=some ⟨oc,od,.func (PySem.W.fnOf name qual params body scope dV kV doc pm an cdv ct),osl⟩) (hcd:PySem.W.codeIn K cdv qual=true) (S:Zx N ps scope)
 (len:∀ vs H Q E,sp vs H Q E->vs.length=ps.length)
 (hbody:∀ (A:Around) (outer:List Env) (s:Shared) (H:Hp) (vs:List V) (Q:VK) (E:XK),Room k (A.deeper (envOfC qual scope s.heap.objs.size f cdv))->sp vs H Q E ->
  ∃ t,PSs (Yo CX P w K mg base N qual scope f cdv A outer s H E) body t/\t { nx:=fun _ H'=>Q .non H',rt:=Q } (start N vs) H) :
 FnOk P w K mg base CX (k+1) f (PySem.W.fnOf name qual params body scope dV kV doc pm an cdv ct) ps sp:=by
 refine ⟨len,fun A outer s H args us vs Q E hr e0 hb r hsp=>?_⟩
 have hl:=len _ _ _ _ hsp
 have KX:K.In s.heap:=e0.mod.kin.keeps fun b o e=>(e0.bs b o e).1
 have lim:s.heap.NoLimit:=e0.mod.nolimit.keeps fun b o e=>(e0.bs b o e).1
 have hkind:∀ y∈ps.zip us,scope.names.lookup y.1=some .local\/(scope.names.lookup y.1=some .cell/\((cellsFrom (s.heap.objs.size+1) scope.names []).lookup y.1).isSome=true):=fun ⟨n,v⟩ hy=>by
  rcases S.par n (of_mem_zip hy).1 with q | q
  ·exact .inl q
  ·exact .inr ⟨q,PySem.W.cellsFrom_some _ _ _ (.inl q)⟩
 refine codeAny_call_function hr.depth (KX _ _ lk) rfl S.co S.gen rfl (PySem.W.codeRec_of KX hcd) (hb _ _ _ _ ?_)
 refine wpAny_newFunctionEnv_cells S.kind hkind fun env he s1 x=>?_
 subst he
 refine ⟨lim.keeps x.toInCall.keep,codeAny_func ?_⟩
 obtain ⟨t,ht,hq⟩:=hbody A outer s H vs Q E (hr.deeper _) hsp
 have I:Inv (Yo CX P w K mg base N qual scope f cdv A outer s H E) [] (start N vs) H s1:=Zgx S hr.hd e0 hl r x
 refine wpAny_mono (ht [] s1 (start N vs) H _ I hq) (fun fl s' hs=>?_) fun e s' hs=>hs
 have fin:∀ {σ':St} {H':Hp} {v:V} {u:Value},Inv (Yo CX P w K mg base N qual scope f cdv A outer s H E) [] σ' H' s'->RelV v u->Q v H'->CE outer P w H s Q u s' :=
  fun {σ' H' v u} J rv q=>⟨v,H',J.os,J.bare,J.base,J.hok,rv,q⟩
 cases fl with
 | ret u =>
  obtain ⟨v,σ',H',J,rv,q⟩:=hs
  exact fin J rv q
 | next =>
  obtain ⟨σ',H',J,q⟩:=hs
  exact fin (v:=V.non) (u:=Value.none) J rfl q
 | brk =>
  obtain ⟨_,_,_,q⟩:=hs
  exact False.elim q
 | cont =>
  obtain ⟨_,_,_,q⟩:=hs
  exact False.elim q
section
variable {X:Cx}{x:Str}{p pos:Pos}{e:Expr}{es:List Expr}{t:TA}{id T:String}{r:List V->Hp->VK->Prop}
def tCB (r:List V->Hp->VK->Prop)(t:TA):TE:=fun σ H Q=>t σ H fun vs H1=>r vs H1 Q
theorem ZE (hc:Ya X (.builtin id) r)(hg:Gl X x)(hm:X.mg x=none)(hv:bootBuiltins x=some (.builtin id))(ha:PA X (e::es) t)(hn:x≠"__name__":=by decide)(hdb:(x == ("__debug__":Str))=false:=by decide)
 (he:starEach (e::es) X.env=(false,eval e X.env)::starEach es X.env:=by rfl) (hpl:(backTo pos (starEach es X.env)).any (·.1)=false:=by rfl):PE X (.Call (.Name x p) (e::es) [] pos) (tCB r t):=by
 intro pins s σ H Q I h
 refine wpAny_Call_Name_kw (Ws I hg hm hv ?_ hn hdb)
 exact PyProof.Rows.callWith_builtin1 (Zt (ha pos pins s σ H _ I h) fun us s1 ⟨vs,H1,I1,r1,q1⟩=>hc pins s1 σ H1 vs us Q I1 r1 q1) he hpl
theorem ZP (hc:Ya X (.type T) r)(hg:Gl X x)(hm:X.mg x=none)(hv:bootBuiltins x=some (.type T))(ha:PA X (e::es) t)(hn:x≠"__name__":=by decide)(hdb:(x == ("__debug__":Str))=false:=by decide)
 (he:starEach (e::es) X.env=(false,eval e X.env)::starEach es X.env:=by rfl) (hpl:(backTo pos (starEach es X.env)).any (·.1)=false:=by rfl):PE X (.Call (.Name x p) (e::es) [] pos) (tCB r t):=by
 intro pins s σ H Q I h
 refine wpAny_Call_Name_kw (Ws I hg hm hv ?_ hn hdb)
 exact PyProof.Rows.callWith_type1 (Zt (ha pos pins s σ H _ I h) fun us s1 ⟨vs,H1,I1,r1,q1⟩=>hc pins s1 σ H1 vs us Q I1 r1 q1) he hpl
theorem ZfD (hc:Ya X (.type T) r)(hg:Gl X x)(hm:X.mg x=none)(hv:bootBuiltins x=some (.type T))(hn:x≠"__name__":=by decide)(hdb:(x == ("__debug__":Str))=false:=by decide) :
 PE X (.Call (.Name x p) [] [] pos) (tCB r XW):=by
 intro pins s σ H Q I h
 refine wpAny_Call_Name_kw (Ws I hg hm hv ?_ hn hdb)
 exact PyProof.Rows.callWith_type0 (hc pins s σ H [] [] Q I .nil h)
end
end L2
namespace HT
open PySem PyProof.Rows
section
open PySem.SeqAt
open PySem.AutoSeq1 (wpAny_loadPart')
open PySem.MeetsSeq PySem.MeetsSeq2 PySem.MeetsSeq3
end
section
variable {prog:Program}{w:World}{A:Around}{E:Value->Shared->Prop}{s:Shared}
end
end HT
namespace L2
open PySem PySem.Spec PyProof.Rows
theorem Zfu {ns:List Int}:∀{us:List Value},Vals (ns.map V.int) us->IntsAre us ns:=by
 induction ns with
 | nil=>intro us r;rw [List.map_nil] at r;cases r;exact .nil
 | cons n ns ih =>
  intro us r
  rw [map_cons] at r
  cases r with
  | cons r1 r2 =>
   obtain ⟨t,e⟩:=r1
   subst e
   exact .cons n t (ih r2)
section
variable {X:Cx}{e:Expr}{te:TE}{lo hi:Option Expr}{tl th:TO}{pos p2:Pos}
end
def Ww (n:Nat)(i:Int):Option Nat:=if 0<=i then (if i < n then some i.toNat else none) else if -(n:Int)<=i then some (i+n).toNat else none
def YA {α:Type}(xs:List α)(i:Int):Option α:=(Ww xs.length i).bind fun j=>xs[j]?
theorem ZbE {n:Nat}{i:Int}{j:Nat}(h:Ww n i=some j):seqIndex? i n=some j/\j < n/\-(n:Int)<=i/\i < n:=by
 unfold Ww at h
 by_cases h0:0<=i
 ·rw [if_pos h0] at h
  by_cases h1:i < n
  ·rw [if_pos h1] at h
   have e:i.toNat=j:=Option.some.inj h
   exact ⟨by rw [seqIndex_of h0 h1,e],by omega,by omega,h1⟩
  ·rw [if_neg h1] at h;cases h
 ·rw [if_neg h0] at h
  by_cases h1:-(n:Int)<=i
  ·rw [if_pos h1] at h
   have e:(i+n).toNat=j:=Option.some.inj h
   exact ⟨by rw [seqIndex_neg (by omega) h1,e],by omega,h1,by omega⟩
  ·rw [if_neg h1] at h;cases h
theorem Zbx {α:Type}{xs:List α}{i:Int}{v:α}(h:YA xs i=some v):∃ j,seqIndex? i xs.length=some j/\xs[j]?=some v/\j < xs.length/\-(xs.length:Int)<=i/\i < xs.length:=by
 unfold YA at h
 cases e:Ww xs.length i with
 | none=>rw [e] at h;cases h
 | some j =>
  rw [e] at h
  obtain ⟨h1,h2,h3,h4⟩:=ZbE e
  exact ⟨j,h1,h,h2,h3,h4⟩
theorem ZJ {α:Type}{xs:List α}{j:Nat}{v:α}(h:xs[j]?=some v):YA xs (j:Int)=some v:=by
 have hj:j < xs.length:=(List.getElem?_eq_some_iff.mp h).1
 have e:Ww xs.length (j:Int)=some j:=by
  unfold Ww
  rw [if_pos (by omega),if_pos (by omega)];simp
 unfold YA;rw [e];exact h
theorem Zdb {α:Type}(xs:List α)(v:α):YA (xs++[v]) (-1)=some v:=by
 have hl:(xs++[v]).length=xs.length+1:=by simp
 have e:Ww (xs++[v]).length (-1)=some xs.length:=by
  unfold Ww
  rw [hl,if_neg (by decide),if_pos (by omega)]
  congr 1
  omega
 unfold YA
 rw [e]
 show (xs++[v])[xs.length]?=some v
 simp
def ZjJ (b:Expr):Prop:=∀ o i,subscripted b false o i=operate [o,i] (getItem o i)
def IxR (X:Cx)(r:R2):Prop :=
 ∀ (value slice:Expr) (pins:List (Addr×Obj)) (s:Shared) (σ:St) (H:Hp) (x y:V) (v u:Value) (Q:VK),Inv X pins σ H s->RelV x v->RelV y u->r x y H Q ->
  subscripted slice false v u=operate [v,u] (getItem v u)->wpAny (model X.prog X.w) X.A (subscriptTail value slice v u) (EP X pins σ Q) X.xe s
def MtR (X:Cx)(id:String)(r:V->List V->Hp->VK->Prop):Prop :=
 ∀ (pins:List (Addr×Obj)) (s:Shared) (σ:St) (H:Hp) (x:V) (xs:List V) (v:Value) (us:List Value) (Q:VK),Inv X pins σ H s->RelV x v->Vals xs us->r x xs H Q ->
  wpAny (model X.prog X.w) X.A (call (.builtin id) (v::us)) (EP X pins σ Q) X.xe s
section
variable {X:Cx}{a b:Expr}{ta tb:TE}{pos:Pos}
theorem ZA {r:R2}(hr:IxR X r)(ha:PE X a ta)(hb:PE X b tb)(hs:ZjJ b):PE X (.Subscript a b pos) (tOp r ta tb):=by
 intro pins s σ H Q I h
 exact Subscript_ (ZhH ha hb I h fun v u s2 x y H2 I2 rx ry q=>hr a b pins s2 σ H2 x y v u Q I2 rx ry q (hs _ _))
inductive ZgZ (K:PySem.W.Frag)(x:V)(y:V)(H:Hp)(Q:VK):Prop
 | mk (p:_) (xs:_) (i:_) (v:_):(x=.ref p)->(y=.int i)->(SqL K H p xs)->(YA xs i=some v)->(Q v H)->ZgZ K x y H Q
def rIxL (K:PySem.W.Frag):R2:=fun x y H Q=>ZgZ K x y H Q
inductive Zhb (K:PySem.W.Frag)(x:V)(y:V)(H:Hp)(Q:VK):Prop
 | mk (p:_) (xs:_) (i:_) (v:_):(x=.ref p)->(y=.int i)->(SqT K H p xs)->(YA xs i=some v)->(Q v H)->Zhb K x y H Q
def rIxT (K:PySem.W.Frag):R2:=fun x y H Q=>Zhb K x y H Q
inductive Zha (x:V)(y:V)(H:Hp)(Q:VK):Prop
 | mk (z:_) (i:_) (c:_):(x=.str z)->(y=.int i)->(z.length<=sizeLine)->(YA z.cps.toList i=some c)->(Q (.str ⟨#[c]⟩) H)->Zha x y H Q
def rIxS :R2:=fun x y H Q=>Zha x y H Q
theorem ZD:IxR X (rIxL X.K):=by
 intro value slice pins s σ H x y v u Q I rx ry h hs
 obtain ⟨p,xs,i,z,rfl,rfl,hq,he,q⟩:=h
 cases rx
 obtain ⟨t,rfl⟩:=ry
 obtain ⟨its,r,pl,hz⟩:=I.list hq
 obtain ⟨j,h1,h2,h3,h4,h5⟩:=Zbx he
 obtain ⟨w,ew,rw'⟩:=r.get h2
 have hl:=r.length
 have hn:=Wt
 have fin:EP X pins σ Q w s:=⟨z,H,I,rw',q⟩
 by_cases h0:0<=i
 ·have hj:i.toNat=j:=by
   rw [seqIndex_of h0 h5] at h1
   exact Option.some.inj h1
  exact item_listR pl.isList h0 (by omega) (by rw [hj];simpa using ew) fin hs
 ·have hj:(i+(its.toArray.size:Int)).toNat=j:=by
   rw [seqIndex_neg (by omega) h4] at h1
   rw [size_toArray,<- hl]
   exact Option.some.inj h1
  exact subscriptTail_builtinR (x:=w) pl.isList.typeIs slot_list_getitem.lookup
   (wpAny_getItem_list_neg (Q:=fun r s'=>r=w/\EP X pins σ Q r s') pl.isList (by omega) (by rw [size_toArray]<;>omega) (by omega) (by rw [hj];simpa using ew) ⟨rfl,fin⟩) hs
theorem YV:IxR X (rIxT X.K):=by
 intro value slice pins s σ H x y v u Q I rx ry h hs
 obtain ⟨p,xs,i,z,rfl,rfl,hq,he,q⟩:=h
 cases rx
 obtain ⟨t,rfl⟩:=ry
 obtain ⟨its,r,pl,hz⟩:=I.tuple hq
 obtain ⟨j,h1,h2,h3,h4,h5⟩:=Zbx he
 obtain ⟨w,ew,rw'⟩:=r.get h2
 have hl:=r.length
 have hn:=Wt
 have fin:EP X pins σ Q w s:=⟨z,H,I,rw',q⟩
 exact subscriptTail_builtinR (x:=w) pl.typeIs slot_tuple_getitem.lookup
  (getItem_tuple (j:=j) (Q:=fun r s'=>r=w/\EP X pins σ Q r s') pl (by omega) (by omega) (by rw [size_toArray,<- hl];exact h1) (by simpa using ew) ⟨rfl,fin⟩) hs
theorem ZaT:IxR X rIxS:=by
 intro value slice pins s σ H x y v u Q I rx ry h hs
 obtain ⟨z,i,c,rfl,rfl,hz,he,q⟩:=h
 obtain ⟨t,rfl⟩:=rx
 obtain ⟨t',rfl⟩:=ry
 obtain ⟨j,h1,h2,h3,h4,h5⟩:=Zbx he
 have hl:z.cps.toList.length=z.length:=by simp [Str.length]
 rw [hl] at h1 h4 h5
 have hn:=Wt
 exact tail_any (typeIs_str s z t) slot_str_getitem.lookup (getItem_str (c:=c) (by
  have e1:decide (i < -(2 ^ 63:Int))=false:=decide_eq_false (by omega)
  have e2:decide (i ≥ 2 ^ 63)=false:=decide_eq_false (by omega)
  rw [e1,e2,Bool.or_false]) (by rw [h1];simpa using h2) ⟨.str ⟨#[c]⟩,H,I.tok _,⟨_,rfl⟩,q⟩) hs
theorem Zfz (its:List Value)(n j:Nat)(u:Value):Obj.mapSeq (·.setIfInBounds j u) { cls:=.type "list",data:=.seq its.toArray n }={ cls:=.type "list",data:=.seq (its.set j u).toArray n }:=by
 simp [Obj.mapSeq]
theorem Inv.lst {pins:List (Addr×Obj)}{σ:St}{H:Hp}{s:Shared}{p:Addr}{xs:List V}(I:Inv X pins σ H s)(h:H p=some (.lst xs)) :
 ∃ (its:List Value) (n:Nat),Vals xs its/\s.heap.get? p=some { cls:=.type "list",data:=.seq its.toArray n }/\xs.length<=sizeLine:=by
 obtain ⟨z,its,n,r,e⟩:=I.hok p _ h
 exact ⟨its,n,r,e,z⟩
theorem Inv.lstUpd {pins:List (Addr×Obj)}{σ:St}{H:Hp}{s:Shared}{p:Addr}{xs ys:List V}{its its':List Value}{n n':Nat}{f:Obj->Obj}(I:Inv X pins σ H s)(h:H p=some (.lst xs))
 (ho:s.heap.get? p=some { cls:=.type "list",data:=.seq its.toArray n }) (hf:f { cls:=.type "list",data:=.seq its.toArray n }={ cls:=.type "list",data:=.seq its'.toArray n' }) (r:Vals ys its') (hz:ys.length<=sizeLine) (t:Nat) :
 Inv X pins σ (upd H p (.lst ys)) { s with heap:=s.heap.update p f,toks:=t }:=by
 have e:(s.heap.update p f).get? p=some { cls:=.type "list",data:=.seq its'.toArray n' }:=by
  rw [Heap.get?_update_self f ho (by rw [hf]<;>rfl),hf]
 refine I.write (x:=p) (e:=p) (by rw [h];trivial) (.inl rfl) (fun b u hb q=>(Heap.get?_update_other _ _ (Ne.symm hb)).trans q) ⟨_,e⟩ ?_
 exact ⟨hz,its',n',r,e⟩
inductive ZeT (o:V)(i:V)(v:V)(H:Hp)(Q:(Hp->Prop)):Prop
 | mk (p:_) (xs:_) (k:_) (j:_):(o=.ref p)->(i=.int k)->(H p=some (.lst xs))->(Ww xs.length k=some j)->(Q (upd H p (.lst (xs.set j v))))->ZeT o i v H Q
def ZmI :V->V->V->Hp->(Hp->Prop)->Prop:=fun o i v H Q=>ZeT o i v H Q
theorem WZ:PSet X ZmI:=by
 intro pins s σ H o i v ov iv u Q I ro ri rv h
 obtain ⟨p,xs,k,j,rfl,rfl,hp,hj,q⟩:=h
 cases ro
 obtain ⟨t,rfl⟩:=ri
 obtain ⟨its,n,r,ho,hz⟩:=I.lst hp
 obtain ⟨h1,h2,h3,h4⟩:=ZbE hj
 have hl:=r.length
 have hn:=Wt
 have I':Inv X pins σ (upd H p (.lst (xs.set j v))) { s with heap:=s.heap.update p (Obj.mapSeq (·.setIfInBounds j u)) } :=
  I.lstUpd hp ho (Zfz its n j u) (r.set rv j) (by rw [length_set];exact hz) s.toks
 by_cases h0:0<=k
 ·have hk:k.toNat=j:=by
   rw [seqIndex_of h0 h4] at h1
   exact Option.some.inj h1
  exact PySem.W.ki_setAt ho h0 (by omega) (by rw [size_toArray,<- hl];exact h4) (by rw [hk];exact ⟨_,I',q⟩)
 ·have hk:(k+(its.toArray.size:Int)).toNat=j:=by
   rw [seqIndex_neg (by omega) h3] at h1
   rw [size_toArray,<- hl]
   exact Option.some.inj h1
  exact PySem.W.ki_setBack ho (by omega) (by rw [size_toArray,<- hl];exact h3) (by omega) (by rw [hk];exact ⟨_,I',q⟩)
def WA:V->Bool
 | .non=>true
 | .bl _=>true
 | .int _=>true
 | .str _=>true
 | _=>false
def VT:V->V->Bool
 | .non,.non=>true
 | .bl a,.bl b=>a == b
 | .bl a,.int b=>(if a then 1 else 0) == b
 | .int a,.bl b=>a == (if b then 1 else 0)
 | .int a,.int b=>a == b
 | .str a,.str b=>a == b
 | _,_=>false
theorem Zla {A:Around}{s:Shared}{y x:V}{u v:Value}(ry:RelV y u)(rx:RelV x v)(fy:WA y=true)(fx:WA x=true):SeqAt.EqAt A s u v (VT y x):=by
 cases y with
 | non =>
  cases ry
  cases x with
  | non=>cases rx;exact SeqAt.EqAt.same _
  | bl b=>cases rx;exact SeqAt.EqAt.none_bool b
  | int b=>obtain ⟨t,rfl⟩:=rx;exact SeqAt.EqAt.none_int b t
  | str b=>obtain ⟨t,rfl⟩:=rx;exact SeqAt.EqAt.none_str b t
  | _=>exact absurd (show false=true from fx) Bool.false_ne_true
 | bl a =>
  cases ry
  cases x with
  | non=>cases rx;exact SeqAt.EqAt.bool_none a
  | bl b=>cases rx;exact SeqAt.EqAt.bool_bool a b
  | int b=>obtain ⟨t,rfl⟩:=rx;exact SeqAt.EqAt.bool_int a b t
  | str b=>obtain ⟨t,rfl⟩:=rx;exact SeqAt.EqAt.bool_str a b t
  | _=>exact absurd (show false=true from fx) Bool.false_ne_true
 | int a =>
  obtain ⟨t',rfl⟩:=ry
  cases x with
  | non=>cases rx;exact SeqAt.EqAt.int_none a t'
  | bl b=>cases rx;exact SeqAt.EqAt.int_bool a t' b
  | int b=>obtain ⟨t,rfl⟩:=rx;exact SeqAt.EqAt.int_int a t' b t
  | str b=>obtain ⟨t,rfl⟩:=rx;exact SeqAt.EqAt.int_str a t' b t
  | _=>exact absurd (show false=true from fx) Bool.false_ne_true
 | str a =>
  obtain ⟨t',rfl⟩:=ry
  cases x with
  | non=>cases rx;exact SeqAt.EqAt.str_none a t'
  | bl b=>cases rx;exact SeqAt.EqAt.str_bool a t' b
  | int b=>obtain ⟨t,rfl⟩:=rx;exact SeqAt.EqAt.str_int a t' b t
  | str b=>obtain ⟨t,rfl⟩:=rx;exact SeqAt.EqAt.str_str a t' b t
  | _=>exact absurd (show false=true from fx) Bool.false_ne_true
 | _=>exact absurd (show false=true from fy) Bool.false_ne_true
def eqU (x:V)(u:Value):Bool:=match u with
 | .none=>VT .non x
 | .bool b=>VT (.bl b) x
 | .int i _=>VT (.int i) x
 | .str z _=>VT (.str z) x
 | _=>false
theorem Zgo {x y:V}{u:Value}(r:RelV y u)(f:WA y=true):eqU x u=VT y x:=by
 cases y with
 | non=>cases r;rfl
 | bl b=>cases r;rfl
 | int i=>obtain ⟨t,rfl⟩:=r;rfl
 | str z=>obtain ⟨t,rfl⟩:=r;rfl
 | _=>exact absurd (show false=true from f) Bool.false_ne_true
theorem Zbv {x:V}:∀{xs:List V}{us:List Value},Vals xs us->xs.all WA=true->us.any (eqU x)=xs.any fun y=>VT y x
 | _,_,.nil,_=>rfl
 | y::xs,u::us,.cons r t,f=>by
  rw [List.all_cons,Bool.and_eq_true] at f
  rw [List.any_cons,List.any_cons,Zgo r f.1,Zbv t f.2]
theorem Zaq {A:Around}{s:Shared}{x:V}{v:Value}(rx:RelV x v)(fx:WA x=true):∀{xs:List V}{us:List Value},Vals xs us->xs.all WA=true->∀ u∈us,SeqAt.EqAt A s u v (eqU x u)
 | _,_,.nil,_=>fun u hu=>by cases hu
 | y::xs,u::us,.cons r t,f=>fun u' hu=>by
  rw [List.all_cons,Bool.and_eq_true] at f
  rcases mem_cons.mp hu with rfl | hu
  ·rw [Zgo r f.1];exact Zla r rx f.1 fx
  ·exact Zaq rx fx t f.2 u' hu
def inV (x:V)(xs:List V):Bool:=xs.any fun y=>VT y x
inductive Zjx (K:PySem.W.Frag)(neg:Bool)(x:V)(y:V)(H:Hp)(Q:VK):Prop
 | mk (p:_) (xs:_):(y=.ref p)->((SqL K H p xs\/SqT K H p xs))->(WA x=true)->(xs.all WA=true)->(Q (.bl (if neg then !inV x xs else inV x xs)) H)->Zjx K neg x y H Q
def rIn (K:PySem.W.Frag)(neg:Bool):R2:=fun x y H Q=>Zjx K neg x y H Q
theorem Zdt:YK X (compareOp .NotIn) (rIn X.K true):=by
 intro pins s σ H x y v u Q I rx ry h
 obtain ⟨p,xs,rfl,hq,fx,fs,q⟩:=h
 cases ry
 rcases hq with hq | hq
 ·obtain ⟨its,r,pl,hz⟩:=I.list hq
  refine SeqAt.notIn_listAt (eqU x) pl.isList (fun w hw=>Zaq rx fx r fs w (by simpa using hw)) ⟨.bl _,H,I,rfl,?_⟩
  rw [show its.toArray.any (eqU x)=its.any (eqU x) by simp,Zbv r fs]
  exact q
 ·obtain ⟨its,r,pl,hz⟩:=I.tuple hq
  refine SeqAt.notIn_tupleAt (eqU x) pl (fun w hw=>Zaq rx fx r fs w (by simpa using hw)) ⟨.bl _,H,I,rfl,?_⟩
  rw [show its.toArray.any (eqU x)=its.any (eqU x) by simp,Zbv r fs]
  exact q
theorem ZU:Ya X (.builtin "len") (fun xs H Q=>∃ p ys,xs=[.ref p]/\(SqL X.K H p ys\/SqT X.K H p ys)/\Q (.int ys.length) H):=by
 intro pins s σ H xs us Q I r h
 obtain ⟨p,ys,rfl,hq,q⟩:=h
 obtain ⟨u,rfl,rx⟩:=Yk r
 cases rx
 have hn:=Wt
 rcases hq with hq | hq
 ·obtain ⟨its,r',pl,hz⟩:=I.list hq
  have hlen:=r'.length
  exact Calls.call_len_list pl.isList (by simp only [size_toArray]<;>omega) ⟨.int ys.length,H,I.tok _,⟨s.toks+1,by rw [size_toArray,hlen]⟩,q⟩
 ·obtain ⟨its,r',pl,hz⟩:=I.tuple hq
  have hlen:=r'.length
  exact len_tuple pl (by simp only [size_toArray]<;>omega) ⟨.int ys.length,H,I.tok _,⟨s.toks+1,by rw [size_toArray,hlen]⟩,q⟩
theorem Zdf:Ya X (.builtin "len") (fun xs H Q=>∃ z,xs=[.str z]/\z.length<=sizeLine/\Q (.int z.length) H):=by
 intro pins s σ H xs us Q I r h
 obtain ⟨z,rfl,hz,q⟩:=h
 obtain ⟨u,rfl,t,rfl⟩:=Yk r
 have hn:=Wt
 exact len_str (by omega) ⟨.int z.length,H,I.tok _,⟨_,rfl⟩,q⟩
theorem YT:Ya X (.type "list") (fun xs H Q=>∃ p ys,xs=[.ref p]/\(SqL X.K H p ys\/SqT X.K H p ys)/\∀ l,H l=none->Q (.ref l) (upd H l (.lst ys))):=by
 intro pins s σ H xs us Q I r h
 obtain ⟨p,ys,rfl,hq,q⟩:=h
 obtain ⟨u,rfl,rx⟩:=Yk r
 cases rx
 have fin:∀ (its:List Value),Vals ys its->ys.length<=sizeLine->∀ (h':Heap) (c':Nat),(∀ b o',s.heap.get? b=some o'->h'.get? b=some o') ->
     h'.get? s.heap.objs.size=some { cls:=.type "list",dict:=none,data:=.seq its.toArray c',slots:=#[] }->EP X pins σ Q (.ref s.heap.objs.size) { s with heap:=h' }:=fun its r' hz h' c' kp e =>
   ⟨.ref s.heap.objs.size,_,I.laid (t':=s.toks) kp (Nat.le_refl _) (show ObjOk X.prog X.w _ h' _ (.lst ys) from ⟨hz,its,c',r',e⟩),rfl,q _ (I.hok.fresh (Nat.le_refl _))⟩
 rcases hq with hq | hq
 · obtain ⟨its,r',pl,hz⟩:=I.list hq
   have hlen:=r'.length
   obtain ⟨o,ho,hc,n,hd⟩:=pl.isList
   exact call_list_seq p (.inl rfl) ho hc hd (fun h' c' kp e=>fin its r' hz h' c' kp e) (by simp only [size_toArray]<;>omega)
 · obtain ⟨its,r',pl,hz⟩:=I.tuple hq
   have hlen:=r'.length
   obtain ⟨o,ho,hc,n,hd⟩:=pl
   exact call_list_seq p (.inr rfl) ho hc hd (fun h' c' kp e=>fin its r' hz h' c' kp e) (by simp only [size_toArray]<;>omega)
theorem Vi:Ya X (.type "tuple") (fun xs H Q=>∃ p ys,xs=[.ref p]/\((SqL X.K H p ys/\∀ l,H l=none->Q (.ref l) (upd H l (.tup ys)))\/(SqT X.K H p ys/\Q (.ref p) H))):=by
 intro pins s σ H xs us Q I r h
 obtain ⟨p,ys,rfl,h⟩:=h
 obtain ⟨u,rfl,rx⟩:=Yk r
 cases rx
 rcases h with ⟨hq,q⟩ | ⟨hq,q⟩
 ·obtain ⟨its,r',pl,hz⟩:=I.list hq
  have hlen:=r'.length
  refine call_tuple_list pl.isList (fun h' kp=>?_) (by simp only [size_toArray]<;>omega)
  have I1:Inv X pins σ H { s with heap:=h' }:=I.kept (t':=s.toks) kp
  have I2:Inv X pins σ (upd H h'.objs.size (.tup ys)) { s with heap:=h'.push { cls:=.type "tuple",data:=.seq its.toArray } } :=
   I1.laid (t':=s.toks) (fun b o e=>Heap.get?_push_of_some _ e) (Nat.le_refl _) (show ObjOk X.prog X.w _ _ _ (.tup ys) from ⟨hz,its,r',IsTup.new _ _⟩)
  exact ⟨.ref h'.objs.size,_,I2,rfl,q _ (I1.hok.fresh (Nat.le_refl _))⟩
 ·obtain ⟨its,r',pl,hz⟩:=I.tuple hq
  exact call_tuple_same pl ⟨.ref p,H,I,rfl,q⟩
def tyV (K:PySem.W.Frag)(T:String)(x:V)(H:Hp):Prop:=match x with
 | .str _=>T="str"
 | .int _=>T="int"
 | .ref p=>(T="list"/\∃ xs,SqL K H p xs)\/(T="tuple"/\∃ o,K.lookup p=some o/\o.cls=.type "tuple"/\o.dict=none) \/
     (T="dict"/\((∃ kvs,H p=some (.dK kvs))\/∃ kvs,H p=some (.dT kvs)))\/(T="set"/\∃ S n,H p=some (.set S n))
 | _=>False
theorem Zhz {pins:List (Addr×Obj)}{σ:St}{H:Hp}{s:Shared}{T:String}{x:V}{v:Value}(I:Inv X pins σ H s)(r:RelV x v)(ty:tyV X.K T x H) :
 s.TypeIs v T/\∀ a,v=.ref a->∃ ob,s.heap.get? a=some ob/\ob.dict=none:=by
 cases x with
 | str z =>
  obtain ⟨t,rfl⟩:=r
  cases (show T="str" from ty)
  exact ⟨typeIs_str s z t,fun _ e=>nomatch e⟩
 | int i =>
  obtain ⟨t,rfl⟩:=r
  cases (show T="int" from ty)
  exact ⟨typeIs_int s i t,fun _ e=>nomatch e⟩
 | ref p =>
  cases r
  rcases ty with ⟨rfl,xs,hq⟩ | ⟨rfl,o,hk,hc,hd⟩ | ⟨rfl,hk⟩ | ⟨rfl,S,n,hk⟩
  ·obtain ⟨its,_,pl,_⟩:=I.list hq
   refine ⟨pl.isList.typeIs,fun a e=>?_⟩
   cases e
   obtain ⟨o,n,e,c,hd,_⟩:=pl
   exact ⟨o,e,hd⟩
  ·refine ⟨⟨o,I.kIn p o hk,hc⟩,fun a e=>?_⟩
   cases e
   exact ⟨o,I.kIn _ o hk,hd⟩
  ·have z:∃ o,s.heap.get? p=some o/\o.ExactDict:=by
    rcases hk with ⟨kvs,hk⟩ | ⟨kvs,hk⟩
    ·obtain ⟨_,_,_,_,o,_,_,e,ex,_⟩:=I.hok p _ hk
     exact ⟨o,e,ex⟩
    ·obtain ⟨_,_,_,_,o,_,_,e,ex,_⟩:=I.hok p _ hk
     exact ⟨o,e,ex⟩
   obtain ⟨o,e,ex⟩:=z
   refine ⟨⟨o,e,ex.1⟩,fun a e2=>?_⟩
   cases e2
   exact ⟨o,e,ex.2.1⟩
  ·obtain ⟨o,_,_,_,e,ex,_⟩:=I.hok p _ hk
   refine ⟨⟨o,e,ex.1⟩,fun a e2=>?_⟩
   cases e2
   exact ⟨o,e,ex.2.1⟩
 | _=>exact False.elim ty
def tBM0 (K:PySem.W.Frag)(T:String)(r:V->List V->Hp->VK->Prop)(to:TE):TE:=fun σ H Q=>to σ H fun x H1=>tyV K T x H1/\r x [] H1 Q
def tBM (K:PySem.W.Frag)(T:String)(r:V->List V->Hp->VK->Prop)(to:TE)(t:TA):TE:=fun σ H Q=>to σ H fun x H1=>tyV K T x H1/\t σ H1 fun xs H2=>r x xs H2 Q
variable {o e:Expr}{es:List Expr}{to:TE}{t:TA}{name:Str}{apos cpos:Pos}{T id:String}{r:V->List V->Hp->VK->Prop}
theorem Zdu (pa:PlainAttrs T)(slot:Slot T name id)(hty:typeOf (.builtin id)=pure (.type "method_descriptor"))(hm:MtR X id r)(ho:PE X o to)
 (hbase:attributeBase o name X.env (eval o X.env)=eval o X.env:=by rfl) (hline:(apos.endLine == cpos.line)=true:=by rfl):PE X (.Call (.Attribute o name apos) [] [] cpos) (tBM0 X.K T r to):=by
 intro pins s σ H Q I h
 refine wpAny_Call_method0_late hbase hline (Zt (ho pins s σ H _ I h) fun v s1 ⟨x,H1,I1,r1,ty,q1⟩=>?_)
 obtain ⟨h1,h2⟩:=Zhz I1 r1 ty
 exact ⟨T,id,pa,slot,hty,h1,h2,Calls.callWith_builtin rfl (PySem.evalArgs_none (hm pins s1 σ H1 x [] v [] Q I1 r1 .nil q1))⟩
theorem Wo (pa:PlainAttrs T)(slot:Slot T name id)(hty:typeOf (.builtin id)=pure (.type "method_descriptor"))(hm:MtR X id r)(ho:PE X o to)(ha:PA X (e::es) t)
 (hbase:attributeBase o name X.env (eval o X.env)=eval o X.env:=by rfl)
 (hfew:((backTo cpos (starEach (e::es) X.env)).all (fun x=>!x.1)&&(backToKw cpos (keywordEach [] X.env)).all (fun x=>x.1.isSome)
  && decide ((e::es).length+([]:List Keyword).length+(if ([]:List Keyword).isEmpty then 0 else 1) < 30))=true:=by rfl)
 (hline:(apos.endLine == cpos.line)=true:=by rfl) (hs:starEach (e::es) X.env=(false,eval e X.env)::starEach es X.env:=by rfl) (hplain:(backTo cpos (starEach es X.env)).any (·.1)=false:=by rfl) :
 PE X (.Call (.Attribute o name apos) (e::es) [] cpos) (tBM X.K T r to t):=by
 intro pins s σ H Q I h
 refine wpAny_Call_method_late hbase hfew hline rfl (Zt (ho pins s σ H _ I h) fun v s1 ⟨x,H1,I1,r1,ty,q1⟩=>?_)
 obtain ⟨h1,h2⟩:=Zhz I1 r1 ty
 refine ⟨T,id,pa,slot,hty,h1,h2,?_⟩
 have hA:=ha cpos pins s1 σ H1 _ I1 q1
 rw [hs] at hA ⊢
 refine Calls.callWith_builtin (by show (false || (backTo cpos (starEach es X.env)).any (·.1))=false;rw [hplain]<;>rfl) (Calls.evalArgs_plain ?_)
 exact Zt hA fun us s2 ⟨vs,H2,I2,r2,q2⟩=>hm pins s2 σ H2 x vs v us Q I2 r1 r2 q2
end
def MtM (X:Cx)(id:String)(r:V->List V->Hp->VK->Prop):Prop :=
 ∀ (pins:List (Addr×Obj)) (s:Shared) (σ:St) (H:Hp) (x:V) (xs:List V) (v:Value) (us:List Value) (Q:VK),Inv X pins σ H s->RelV x v->Vals xs us->r x xs H Q ->
  wpAny (model X.prog X.w) X.A (call (.builtin id) (v::us)) (EP X pins σ Q) X.xe s
theorem Vals.one:∀{x:V}{us:List Value},Vals [x] us->∃ u,us=[u]/\RelV x u
 | _,_,.cons r .nil=>⟨_,rfl,r⟩
theorem Vals.zero:∀{us:List Value},Vals [] us->us=[]
 | _,.nil=>rfl
theorem Vals.dropLast {xs:List V}{us:List Value}(h:Vals xs us):Vals xs.dropLast us.dropLast:=by
 induction h with
 | nil=>exact .nil
 | cons r t ih =>
  cases t with
  | nil=>exact .nil
  | cons q t'=>exact .cons r ih
theorem Vals.rep {xs:List V}{us:List Value}(h:Vals xs us):∀ k:Nat,Vals (List.replicate k xs).flatten (List.replicate k us).flatten
 | 0=>.nil
 | k+1=>by
  rw [List.replicate_succ,List.replicate_succ,List.flatten_cons,List.flatten_cons]
  exact Vals.append h (Vals.rep h k)
theorem Zfq {α:Type}(l:List α):l.eraseIdx (l.length - 1)=l.dropLast:=by
 induction l with
 | nil=>rfl
 | cons a r ih =>
  cases r with
  | nil=>rfl
  | cons b r =>
   have e:(a::b::r).length - 1=((b::r).length - 1)+1:=by
    have h1:(a::b::r).length=r.length+2:=rfl
    have h2:(b::r).length=r.length+1:=rfl
    omega
   rw [e,List.eraseIdx_cons_succ,ih]
   all_goals rfl
theorem Zcf (its:List Value):∀(k:Nat)(acc:List Value),
 List.foldl (fun x1 x2=>x1++x2) acc.toArray (List.replicate k its.toArray)=(acc++(List.replicate k its).flatten).toArray
 | 0,acc=>by simp
 | k + 1,acc=>by
  have e:acc.toArray++its.toArray=(acc++its).toArray:=by simp
  have e2:(acc++its)++(List.replicate k its).flatten=acc++(List.replicate (k+1) its).flatten:=by
   rw [List.replicate_succ,List.flatten_cons,append_assoc]
  rw [<- e2,<- Zcf its k (acc++its),<- e,List.replicate_succ,List.foldl_cons]
section
variable {X:Cx}{pins:List (Addr×Obj)}{σ:St}{H:Hp}{s:Shared}{l b:Addr}{xs ys zs:List V}
theorem Inv.lset {its its':List Value}{n:Nat}{f:Array Value->Array Value}{t':Nat}(I:Inv X pins σ H s)(hH:H l=some (.lst xs))
 (e:s.heap.get? l=some { cls:=.type "list",data:=.seq its.toArray n }) (hf:f its.toArray=its'.toArray) (hv:Vals ys its') (hz:ys.length<=sizeLine) :
 Inv X pins σ (upd H l (.lst ys)) { s with heap:=s.heap.update l (Obj.mapSeq f),toks:=t' }:=by
 have q:=PySem.IsL.update e f
 rw [hf] at q
 refine I.write (x:=l) (e:=l) (by rw [hH];exact trivial) (.inl rfl) (fun b' u hb hu=>(Heap.get?_update_other s.heap (Obj.mapSeq f) (Ne.symm hb)).trans hu) ⟨_,q⟩ ?_
 exact ⟨hz,its',_,hv,q⟩
theorem Inv.lnew {its:List Value}{t':Nat}(I:Inv X pins σ H s)(hv:Vals ys its)(hz:ys.length<=sizeLine) :
 Inv X pins σ (upd H s.heap.objs.size (.lst ys)) { s with heap:=s.heap.push { cls:=.type "list",data:=.seq its.toArray },toks:=t' } :=
 I.laid (fun _ _ q=>Heap.get?_push_of_some _ q) (Nat.le_refl _) ⟨hz,its,0,hv,Heap.get?_push_size _ rfl⟩
theorem Inv.fresh (I:Inv X pins σ H s):H s.heap.objs.size=none:=I.hok.fresh (Nat.le_refl _)
theorem Inv.lstM (I:Inv X pins σ H s)(hH:H l=some (.lst xs)):xs.length<=sizeLine/\∃ (its:List Value) (n:Nat),Vals xs its/\xs.length=its.length/\s.heap.get? l=some { cls:=.type "list",data:=.seq its.toArray n }:=by
 obtain ⟨z,its,n,r,e⟩:=I.hok l _ hH
 exact ⟨z,its,n,r,r.length,e⟩
theorem Zds {n:Nat}(h:n<=sizeLine):Builtin.List.listTooLong n=false:=by
 unfold Builtin.List.listTooLong
 exact decide_eq_false (by omega)
end
section
variable {X:Cx}
inductive Zct (x:V)(vs:List V)(H:Hp)(Q:VK):Prop
 | mk (l:_) (xs:_) (y:_):(x=.ref l)->(vs=[y])->(H l=some (.lst xs))->(xs.length < sizeLine)->(Q .non (upd H l (.lst (xs++[y]))))->Zct x vs H Q
def Zkt :V->List V->Hp->VK->Prop:=fun x vs H Q=>Zct x vs H Q
theorem Xs:MtM X "list.append" Zkt:=by
 intro pins s σ H x vs v us Q I rx rv h
 obtain ⟨l,xs,y,rfl,rfl,hH,hz,q⟩:=h
 cases rx
 obtain ⟨u,rfl,ru⟩:=rv.one
 obtain ⟨z,its,n,r,hl,e⟩:=I.lstM hH
 refine call_meets F.slot_list_append ⟨_,e,rfl⟩ F.entry_list_append (F.args_list_append_2 _ _) (PySem.list_append l its.toArray n u (by rw [size_toArray];omega)) ⟨e,?_⟩
 refine ⟨.non,_,I.lset (its':=its++[u]) hH e (by simp) (r.append (.cons ru .nil)) ?_,rfl,q⟩
 rw [length_append,List.length_singleton]
 omega
inductive Zhd (x:V)(vs:List V)(H:Hp)(Q:VK):Prop
 | mk (l:_) (xs:_) (y:_):(x=.ref l)->(vs=[])->(H l=some (.lst xs))->(xs[xs.length - 1]?=some y)->(Q y (upd H l (.lst xs.dropLast)))->Zhd x vs H Q
def rPop :V->List V->Hp->VK->Prop:=fun x vs H Q=>Zhd x vs H Q
theorem ZgL:MtM X "list.pop" rPop:=by
 intro pins s σ H x vs v us Q I rx rv h
 obtain ⟨l,xs,y,rfl,rfl,hH,hy,q⟩:=h
 cases rx
 have hus:=rv.zero
 subst hus
 obtain ⟨z,its,n,r,hl,e⟩:=I.lstM hH
 obtain ⟨u,hu,ru⟩:=r.get hy
 have hy':its.toArray[its.toArray.size - 1]?=some u:=by
  show its.toArray[its.length - 1]?=some u
  rw [<- Array.getElem?_toList,<- hl]
  exact hu
 refine call_meets F.slot_list_pop ⟨_,e,rfl⟩ F.entry_list_pop (F.args_list_pop_1 _) (MeetsSeq.list_pop_last l its.toArray n u hy' (by rw [size_toArray];omega)) ⟨e,?_⟩
 refine ⟨y,_,I.lset (its':=its.dropLast) hH e ?_ r.dropLast ?_,ru,q⟩
 ·show its.toArray.eraseIdxIfInBounds (its.toArray.size - 1)=its.dropLast.toArray
  rw [size_toArray,List.eraseIdxIfInBounds_toArray,Zfq]
 ·rw [List.length_dropLast]
  omega
inductive Zhe (x:V)(y:V)(H:Hp)(Q:VK):Prop
 | mk (l:_) (k:_) (xs:_):(x=.ref l)->(y=.int k)->(H l=some (.lst xs))->(-(2 ^ 63)<=k)->(k < 2 ^ 63)->(xs.length * k.toNat<=sizeLine)->(∀ p,H p=none->Q (.ref p) (upd H p (.lst (List.replicate k.toNat xs).flatten)))->Zhe x y H Q
def rRep :R2:=fun x y H Q=>Zhe x y H Q
theorem ZjV {α:Type}(xs:List α)(k:Nat):(List.replicate k xs).flatten.length=k * xs.length:=by
 induction k with
 | zero=>simp
 | succ k ih=>rw [List.replicate_succ,List.flatten_cons,length_append,ih,Nat.succ_mul,Nat.add_comm]
theorem ZlB:YK X (binaryOp .Mult) rRep:=by
 intro pins s σ H x y v u Q I rx ry h
 obtain ⟨l,k,xs,rfl,rfl,hH,h1,h2,hz,q⟩:=h
 cases rx
 obtain ⟨t,rfl⟩:=ry
 obtain ⟨z,its,n,r,hl,e⟩:=I.lstM hH
 have hlen:its.toArray.size * k.toNat<=sizeLine:=by rw [size_toArray,<- hl];exact hz
 have hcap:¬ its.toArray.size * k.toNat > (2 ^ 63 - 1) / 8:=by
  have:(sizeLine:Nat)<=(2 ^ 63 - 1) / 8:=by decide
  omega
 have hfit:¬ (!Builtin.List.listFitsIndex k)=true:=by
  rw [fitsIndex_both h1 h2]
  exact Bool.false_ne_true
 have hlong:¬ Builtin.List.listTooLong (its.toArray.size * k.toNat)=true:=by
  rw [Zds hlen]
  exact Bool.false_ne_true
 have hnew:List.foldl (fun x1 x2=>x1++x2) #[] (List.replicate (if its.toArray.isEmpty=true then 0 else k.toNat) its.toArray)=(List.replicate k.toNat its).flatten.toArray:=by
  have f0:∀ m:Nat,List.foldl (fun x1 x2=>x1++x2) #[] (List.replicate m its.toArray)=(List.replicate m its).flatten.toArray:=fun m=>by
   have:=Zcf its m []
   rw [List.nil_append] at this
   exact this
  rw [f0]
  cases its with
  | nil=>simp
  | cons a r'=>rw [if_neg (by simp)]
 refine wpAny_binaryOp_repeat_ref (T:="list") (U:="int") (by decide) ⟨_,e,rfl⟩ (fun s'=>typeIs_int s' k t) noFill_list_mul F.fills_int_mul F.slot_int_rmul repeat_list F.slot_int_index.lookup
  (call_meets F.slot_int_rmul (typeIs_int s k t) F.entry_int_rmul (F.args_int_rmul_2 _ _) (int___rmul___int_list k t l its.toArray n)
   ⟨e,rfl,⟨_,e,rfl⟩,call_meets F.slot_list_mul ⟨_,e,rfl⟩ F.entry_list_mul (F.args_list_mul_2 _ _) (AutoListH.list___mul___list_int_3 l its.toArray n k t hfit hcap hlong) ⟨e,?_⟩⟩)
 rw [hnew]
 exact ⟨.ref _,_,I.lnew (t':=s.toks) (r.rep k.toNat) (by rw [ZjV,Nat.mul_comm];exact hz),rfl,q _ I.fresh⟩
end
section
variable {prog:Program}{w:World}{A:Around}{E:Value->Shared->Prop}{s:Shared}
end
section
variable {X:Cx}
end
end L2
namespace Att
open PySem PySem.W PySem.Calls PyProof.Rows
theorem ZaR {P:Params}{h:Heap}:∀(ns:List Int)(vs:List Value),WellAll P h vs (ns.map WData.int)->IntsAre vs ns:=by
 intro ns
 induction ns with
 | nil =>
  intro vs w
  rw [List.map_nil] at w
  cases w
  exact .nil
 | cons n ns ih =>
  intro vs w
  rw [map_cons] at w
  cases w with
  | cons a b =>
   cases a
   exact .cons _ _ (ih _ b)
theorem Zhh {l:OpenLaw}{n:Nat}(hn:l.most=some n){P:Params}{h:Heap}{args:List WData}{vals:List Value}
 (hpre:l.row.toRowW.claim.pre args=true) (hwl:WellAll P h vals args) :
 ∃ a vs ns,vals=[Value.ref a]/\args=[WData.list (ns.map WData.int)]/\h.get? a=some { cls:=.type "list",data:=.seq vs.toArray }/\IntsAre vs ns/\ns.length<=n:=by
 have hsh:WShape.hasAll [] args [.list .int]=true:=(pre_splitW hpre).1
 have hc:l.pre.holds [] { args:=args }=true:=(pre_splitW hpre).2
 obtain ⟨d,r,rfl,h1,h2⟩:=hasAllW_cons hsh
 obtain rfl:=hasAllW_nil h2
 obtain ⟨xs,rfl,h3⟩:=hasW_list h1
 obtain ⟨ns,rfl⟩:=items_int h3
 have hlen:ns.length<=n:=by
  unfold OpenLaw.pre at hc
  have h4:(WTm.not (.lt (.lit (.int (n:Int))) (.len (.arg 0)))).holds [] { args:=[.list (ns.map .int)] }=true:=by
   have h4:=(holds_andW hc).1
   rw [hn] at h4
   exact h4
  have h5:=condW_of h4 (w_not (w_lt w_lit (w_len_list (w_arg rfl))))
  rw [length_map] at h5
  refine Nat.le_of_not_lt fun q=>?_
  have q':(n:Int) < ((ns.length:Nat):Int):=by omega
  first
   | (rw [decide_eq_true q'] at h5;exact absurd h5 (by decide))
   | (simp at h5;omega)
 cases hwl with
 | cons w1 w2 =>
  cases w2
  cases w1 with
  | list ho hall=>exact ⟨_,_,ns,rfl,rfl,ho,ZaR ns _ hall,hlen⟩
theorem ZgX (l:OpenLaw)(args:List WData):l.row.toRowW.claim.post args (.bool true) args=true :=
 postW_of (r:=l.row.toRowW) (X:=(true == true))
  (show WShape.has [] (.bool true) .bool=true by first | rfl | decide | simp [WShape.has,WShape.arms,WShape.armsAll])
  (show (WTm.eq .res (.lit (.bool true))).value [] { args:=args,res:=some (.bool true),after:=args }=some (.bool (true == true)) from w_eq_bool (w_res rfl) w_lit) rfl
theorem attach_call {l:OpenLaw}{n:Nat}{q:Program}{loose:List Str}{XP:(Str->Option Value)->Heap->Prop}{YP:World->Heap->Prop}{d:DefRec}
 (hn:l.most=some n) (hdf:d.params.defaults=[])
 (call:∀ (w:World) (s₀ s₁:Shared) (mg mb:Str->Option Value) (fa:Addr) (o:Obj) (pm cd doc:Value) (a:Addr) (vs:List Value) (ns:List Int),
  Ground q loose [] XP w s₀ mg mb s₁.heap->YP w s₁.heap ->
  s₁.heap.get? fa=some o->o.data=.func (docDef d.name d.params d.body d.scope pm cd doc)->s₁.heap.CodeRec cd d.name->mg d.name=some (.ref fa) ->
  s₁.heap.get? a=some { cls:=.type "list",data:=.seq vs.toArray }->IntsAre vs ns->ns.length<=n->s₁.gens=#[] ->
  codeAny (model l.prog w) callerA (.call (.ref fa) ⟨[.ref a],[]⟩) (fun r s'=>r=.ok (.ret (.bool true))/\OldK s₁.heap s'.heap/\s'.os=s₁.os/\AllBare s'.gens) s₁) :
 WalkO q loose XP YP l.row.toRowW d [] (fun f vs=>PySem.call f vs):=by
 intro w s₀ s₁ mg mb G Y fa o pm cd doc dV kV ho hd hcd hD hmg hg args vals as hpre hlay hrd hwl hlo
 obtain rfl:dV=.none:=Dflts.none hD hdf
 obtain rfl:kV=.none:=Dflts.noKw hD
 obtain ⟨a,vs,ns,rfl,rfl,hobj,hints,hlen⟩:=Zhh hn hpre hwl
 refine enter_call (codeAny_mono (call w s₀ s₁ mg mb fa o pm cd doc a vs ns G Y ho (fd_plain hd) hcd hmg hobj hints hlen hg) fun r s' hq=>?_)
 obtain ⟨rfl,h2,h3,h4⟩:=hq
 exact ⟨.inl ⟨.bool true,.bool true,[],rfl,fun _=>rfl,.bool true,ZgX l _,fun _=>⟨List.Pairwise.nil,fun _ hm=>(nomatch hm)⟩⟩,h2,h3,h4⟩
section
variable {prog:Program}{w:World}{A:Around}{E:Value->Shared->Prop}{s:Shared}{K:Frag}
end
end Att
namespace L2
open PySem PySem.Spec PyProof.Rows
theorem Ul:∀{vs:List Value}{ns:List Int},IntsAre vs ns->Vals (ns.map V.int) vs
 | _,_,.nil=>.nil
 | _,_,.cons n t h=>.cons ⟨t,rfl⟩ (Ul h)
def YB (s:Stmt)(j:Nat):Stmt:=match s with
 | .ClassDef _ _ _ body _ _ _ _ _ _ _=>body.getD j (.Pass ⟨0,0,0,0⟩)
 | _=>.Pass ⟨0,0,0,0⟩
def VF (s:Stmt):Arguments:=match s with
 | .FunctionDef _ a _ _ _ _ _ _ _ _=>a
 | _=>{ posonlyargs:=[],args:=[],vararg:=none,kwonlyargs:=[],kw_defaults:=[],kwarg:=none,defaults:=[] }
def XL (s:Stmt):List Stmt:=match s with
 | .FunctionDef _ _ b _ _ _ _ _ _ _=>b
 | _=>[]
def Zo (s:Stmt):Scope:=match s with
 | .FunctionDef _ _ _ _ _ _ sc _ _ _=>sc
 | _=>{ kind:=.function,names:=[],isGenerator:=false,isCoroutine:=false }
abbrev ZK:Uu:=fun _ _ _ _ _ _=>False
abbrev E0:XK:=fun _ _ _=>False
theorem ZcM {X:Cx}:WM ZK X E0:=fun _ _ _ _ _ _ _ h=>h.elim
structure Fun (K:PySem.W.Frag)(x qual:Str)(st:Stmt)(f:Addr)(fd:FuncData):Prop where
 ex:∃ (oc:Value) (od:Option Addr) (kV doc pm:Value) (an:Option Addr) (cdv ct:Value) (osl:Array (Option Value)),
  fd=PySem.W.fnOf x qual (VF st) (XL st) (Zo st) .none kV doc pm an cdv ct/\K.lookup f=some ⟨oc,od,.func fd,osl⟩/\PySem.W.codeIn K cdv qual=true
 kp:PySem.W.keepIn K (.ref f)=true
section
variable {P:Program}{w:World}{K:PySem.W.Frag}{mg:Str->Option Value}{base:Heap}
theorem Fun.ok {x qual:Str}{st:Stmt}{f:Addr}{fd:FuncData}{N ps:List Str}{k:Nat}{sp:Sp}(F:Fun K x qual st f fd)(S:Zx N ps (Zo st))(len:∀ vs H Q E,sp vs H Q E->vs.length=ps.length)
 (hbody:∀ (cdv:Value) (A:Around) (outer:List Env) (s:Shared) (H:Hp) (vs:List V) (Q:VK) (E:XK),Room k (A.deeper (envOfC qual (Zo st) s.heap.objs.size f cdv))->sp vs H Q E ->
  ∃ t,PSs (Yo ZK P w K mg base N qual (Zo st) f cdv A outer s H E).nox (XL st) t/\t { nx:=fun _ H'=>Q .non H',rt:=Q } (start N vs) H):FnOk P w K mg base ZK (k+1) f fd ps sp:=by
 obtain ⟨oc,od,kV,doc,pm,an,cdv,ct,osl,rfl,lk,hcd⟩:=F.ex
 refine Zjo lk hcd S len fun A outer s H vs Q E hr hsp=>?_
 obtain ⟨t,h,q⟩:=hbody cdv A outer s H vs Q E hr hsp
 exact ⟨t,h.nox,q⟩
theorem Fun.binds {x qual:Str}{st:Stmt}{f:Addr}{fd:FuncData}{ps:List Str}(F:Fun K x qual st f fd)
 (h:∀ (kV doc pm:Value) (an:Option Addr) (cdv ct:Value) (us:List Value),us.length=ps.length->bindArgs (PySem.W.fnOf x qual (VF st) (XL st) (Zo st) .none kV doc pm an cdv ct) ⟨us,[]⟩=pure (ps.zip us)):Binds K fd ps []:=by
 obtain ⟨oc,od,kV,doc,pm,an,cdv,ct,osl,rfl,lk,hcd⟩:=F.ex
 exact .all (h kV doc pm an cdv ct)
end
theorem XF {A:Around}{k:Nat}(hr:Room k A):A.units+1 < cLine:=Nat.lt_of_le_of_lt (Nat.add_le_add_left (by decide:1<=64) _) hr.units
theorem Zhl {n:Nat}(h:n<=1000):n < sizeLine:=Nat.lt_of_le_of_lt h (by decide)
section
variable {X:Cx}
theorem pv (i:Nat){x:Str}{pos:Pos}(hN:X.N[i]?=some x:=by rfl)(hv:Vis X.env.scope x:=by first | exact Or.inl rfl | exact Or.inr (Or.inl rfl) | exact Or.inr (Or.inr rfl))(hd:(x == ("__debug__":Str))=false:=by decide)
 (hcd:(x == ("__classdict__":Str))=false:=by decide):PE X (.Name x pos) (Ut i):=ZlH hN hv hd hcd
end
theorem ZR {A B:Prop}(h:B):if false=true then A else B:=by
 rw [if_neg Bool.false_ne_true]
 exact h
theorem Yx {A B:Prop}(h:A):if true=true then A else B:=by
 rw [if_pos rfl]
 exact h
theorem Yp {c A B:Prop}[Decidable c](h1:c->A)(h2:¬ c->B):if c then A else B:=by
 by_cases h:c
 ·rw [if_pos h]
  exact h1 h
 ·rw [if_neg h]
  exact h2 h
def Same (H H':Hp):Prop:=∀ b o,H b=some o->H' b=some o
theorem Same.refl (H:Hp):Same H H:=fun _ _ h=>h
theorem Same.trans {H H1 H2:Hp}(a:Same H H1)(b:Same H1 H2):Same H H2:=fun c o h=>b c o (a c o h)
section
variable {κ:Type}[DecidableEq κ]
def Zy (kvs:List (κ×V))(k:κ):Option V:=(kvs.find? fun kv=>decide (kv.1=k)).map (·.2)
def ZQ (kvs:List (κ×V))(k:κ)(v:V):List (κ×V) :=
 if (kvs.any fun kv=>decide (kv.1=k))=true then kvs.map (fun kv=>if kv.1=k then (kv.1,v) else kv) else kvs++[(k,v)]
def UV (kvs:List (κ×V))(k:κ):List (κ×V):=kvs.filter fun kv=>decide (kv.1≠k)
theorem Yv {p:κ×V}{r:List (κ×V)}{k:κ}(e:p.1=k):Zy (p::r) k=some p.2:=by simp [Zy,find?_cons,e]
theorem Yu {p:κ×V}{r:List (κ×V)}{k:κ}(e:¬ p.1=k):Zy (p::r) k=Zy r k:=by simp [Zy,find?_cons,e]
theorem Vg (k:κ):∀ kvs:List (κ×V),(kvs.any fun kv=>decide (kv.1=k))=(Zy kvs k).isSome
 | []=>rfl
 | p::r=>by
  rw [List.any_cons]
  by_cases e:p.1=k
  ·simp only [Yv e,decide_eq_true e,Bool.true_or,Option.isSome_some]
  ·rw [Yu e,decide_eq_false e,Bool.false_or];exact Vg k r
theorem ZdW (k j:κ)(y:V):∀ kvs:List (κ×V),Zy (kvs.map fun kv=>if kv.1=k then (kv.1,y) else kv) j=(Zy kvs j).map fun x=>if j=k then y else x
 | []=>rfl
 | p :: r=>by
  have ih:=ZdW k j y r
  rw [map_cons]
  by_cases h:p.1=k
  ·rw [if_pos h]
   by_cases e:p.1=j
   ·rw [Yv (p:=(p.1,y)) e,Yv e,Option.map_some,if_pos (e.symm.trans h)]
   ·rw [Yu (p:=(p.1,y)) e,Yu e,ih]
  ·rw [if_neg h]
   by_cases e:p.1=j
   ·rw [Yv (p:=p) e,Yv e,Option.map_some,if_neg (fun z=>h (e.trans z))]
   ·rw [Yu (p:=p) e,Yu e,ih]
theorem ZcD (k j:κ)(y:V):∀ kvs:List (κ×V),Zy kvs k=none->Zy (kvs++[(k,y)]) j=if j=k then some y else Zy kvs j
 | [],_=>by
  by_cases e:k=j
  ·rw [if_pos e.symm];exact Yv (p:=(k,y)) e
  ·rw [if_neg (fun z=>e z.symm)];exact Yu (p:=(k,y)) e
 | p::r,hn=>by
  rw [List.cons_append]
  have hk:¬ p.1=k:=fun z=>by rw [Yv z] at hn;cases hn
  rw [Yu hk] at hn
  have ih:=ZcD k j y r hn
  by_cases e:p.1=j
  ·rw [Yv e,Yv e,if_neg (fun z=>hk (e.trans z))]
  ·rw [Yu e,Yu e,ih]
theorem Uc (kvs:List (κ×V))(k j:κ)(y:V):Zy (ZQ kvs k y) j=if j=k then some y else Zy kvs j:=by
 unfold ZQ
 by_cases a:(kvs.any fun kv=>decide (kv.1=k))=true
 ·rw [if_pos a,ZdW]
  rw [Vg] at a
  by_cases e:j=k
  ·obtain ⟨x,hx⟩:=Option.isSome_iff_exists.mp a
   rw [if_pos e,e,hx,Option.map_some,if_pos rfl]
  ·rw [if_neg e]
   cases Zy kvs j with
   | none=>rfl
   | some x=>rw [Option.map_some,if_neg e]
 ·rw [if_neg a]
  refine ZcD k j y kvs ?_
  rw [Vg] at a
  cases q:Zy kvs k with
  | none=>rfl
  | some x=>rw [q] at a;exact (a rfl).elim
theorem XD (kvs:List (κ×V))(k:κ)(v:V):(ZQ kvs k v).length<=kvs.length+1:=by
 unfold ZQ
 split
 ·rw [length_map];omega
 ·rw [length_append,length_cons,List.length_nil];omega
theorem RelO.isSome_eq {o:Option V}{u:Option Value}(r:RelO o u):o.isSome=u.isSome:=by
 cases o with
 | none=>cases u with
  | none=>rfl
  | some _=>exact (show False from r).elim
 | some _=>cases u with
  | none=>exact (show False from r).elim
  | some _=>rfl
theorem RelO.getD {o:Option V}{u:Option Value}{d:V}{d':Value}(r:RelO o u)(rd:RelV d d'):RelV (o.getD d) (u.getD d'):=by
 cases o with
 | none=>cases u with
  | none=>exact rd
  | some _=>exact (show False from r).elim
 | some _=>cases u with
  | none=>exact (show False from r).elim
  | some _=>exact r
theorem KV.val {kvs:List (κ×V)}{vs:List (κ×Value)}(r:KV kvs vs)(k:κ):RelO (Zy kvs k) (valueAt vs k):=by
 unfold KV at r
 induction r with
 | nil=>exact True.intro
 | @cons p q ps qs h t ih =>
  obtain ⟨h1,h2⟩:=h
  by_cases e:p.1=k
  ·have e':q.1=k:=h1.symm.trans e
   have b:valueAt (q::qs) k=some q.2:=by simp [valueAt,find?_cons,e']
   rw [Yv e,b];exact h2
  ·have e':¬ q.1=k:=fun z=>e (h1.trans z)
   have b:valueAt (q::qs) k=valueAt qs k:=by simp [valueAt,find?_cons,e']
   rw [Yu e,b];exact ih
theorem KV.any {kvs:List (κ×V)}{vs:List (κ×Value)}(r:KV kvs vs)(k:κ):(kvs.any fun kv=>decide (kv.1=k))=vs.any fun kv=>decide (kv.1=k):=by
 unfold KV at r
 induction r with
 | nil=>rfl
 | cons h t ih=>rw [List.any_cons,List.any_cons,ih,h.1]
theorem KV.repl {kvs:List (κ×V)}{vs:List (κ×Value)}(r:KV kvs vs)(k:κ){y:V}{u:Value}(ry:RelV y u) :
 KV (kvs.map fun kv=>if kv.1=k then (kv.1,y) else kv) (vs.map fun kv=>if kv.1=k then (kv.1,u) else kv):=by
 unfold KV at r ⊢
 induction r with
 | nil=>exact .nil
 | @cons p q ps qs h t ih =>
  rw [map_cons,map_cons]
  refine .cons ?_ ih
  obtain ⟨h1,h2⟩:=h
  by_cases e:p.1=k
  ·rw [if_pos e,if_pos (h1.symm.trans e)];exact ⟨h1,ry⟩
  ·rw [if_neg e,if_neg (fun z=>e (h1.trans z))];exact ⟨h1,h2⟩
theorem KV.put {kvs:List (κ×V)}{vs:List (κ×Value)}(r:KV kvs vs)(k:κ){y:V}{u:Value}(ry:RelV y u):KV (ZQ kvs k y) (stored vs k u):=by
 unfold ZQ stored
 rw [r.any k]
 by_cases e:(vs.any fun kv=>decide (kv.1=k))=true
 ·rw [if_pos e,if_pos e];exact r.repl k ry
 ·rw [if_neg e,if_neg e];exact Paired.snoc r ⟨rfl,ry⟩
theorem KV.drop {kvs:List (κ×V)}{vs:List (κ×Value)}(r:KV kvs vs)(k:κ):KV (UV kvs k) (without vs k):=by
 unfold KV at r ⊢
 unfold UV without
 induction r with
 | nil=>exact .nil
 | @cons p q ps qs h t ih =>
  obtain ⟨h1,h2⟩:=h
  rw [filter_cons,filter_cons]
  by_cases e:p.1=k
  ·have a:¬ decide (p.1≠k)=true:=by simp [e]
   have b:¬ decide (q.1≠k)=true:=by simp [h1.symm.trans e]
   rw [if_neg a,if_neg b];exact ih
  ·have e':¬ q.1=k:=fun z=>e (h1.trans z)
   have a:decide (p.1≠k)=true:=by simp [e]
   have b:decide (q.1≠k)=true:=by simp [e']
   rw [if_pos a,if_pos b];exact .cons ⟨h1,h2⟩ ih
theorem KV.length {kvs:List (κ×V)}{vs:List (κ×Value)}(r:KV kvs vs):kvs.length=vs.length:=Paired.length r
theorem ZhN (kvs:List (κ×V))(k:κ):(UV kvs k).length<=kvs.length:=length_filter_le _ _
end
theorem WD {P:Program}{w:World}{k:Zk}{u:Value}(r:RelV (kV k) u):(Zr P w).is k u=true:=by
 cases k with
 | inl i=>obtain ⟨t,e⟩:=(show ∃ t,u=Value.int i t from r);subst e;exact Zei P w i t
 | inr x=>obtain ⟨t,e⟩:=(show ∃ t,u=Value.str x t from r);subst e;exact VW P w x t
theorem Zci {P:Program}{w:World}:∀{ks:List Zk}{us:List Value},Vals (ks.map kV) us->ItemsAre (Zr P w) ks us
 | [],_,r=>by rw [List.map_nil] at r;cases r;exact .nil
 | k::ks,_,r=>by
  rw [map_cons] at r
  cases r with
  | cons h t=>exact .cons (WD h) (Zci t)
abbrev KT (H:Hp):List (List Zk×V)->List (List Zk×Addr×Value)->Prop:=Paired fun p q=>p.1=q.1/\H q.2.1=some (.tup (p.1.map kV))/\RelV p.2 q.2.2
theorem KT.val {H:Hp}{kvs:List (List Zk×V)}{xs:List (List Zk×Addr×Value)}(r:KT H kvs xs)(k:List Zk):RelO (Zy kvs k) ((atKey xs k).map (·.2)):=by
 induction r with
 | nil=>exact True.intro
 | @cons p q ps qs h t ih =>
  obtain ⟨h1,_,h2⟩:=h
  by_cases e:p.1=k
  ·have e':q.1=k:=h1.symm.trans e
   have b:atKey (q::qs) k=some q.2:=by simp [atKey,find?_cons,e']
   rw [Yv e,b];exact h2
  ·have e':¬ q.1=k:=fun z=>e (h1.trans z)
   have b:atKey (q::qs) k=atKey qs k:=by simp [atKey,find?_cons,e']
   rw [Yu e,b];exact ih
theorem KT.repl {H:Hp}{kvs:List (List Zk×V)}{xs:List (List Zk×Addr×Value)}(r:KT H kvs xs)(k:List Zk){y:V}{u:Value}(ry:RelV y u) :
 KT H (kvs.map fun kv=>if kv.1=k then (kv.1,y) else kv) (xs.map (putAt k u)):=by
 induction r with
 | nil=>exact .nil
 | @cons p q ps qs h t ih =>
  rw [map_cons,map_cons]
  refine .cons ?_ ih
  obtain ⟨h1,h2,h3⟩:=h
  unfold putAt
  by_cases e:p.1=k
  ·rw [if_pos e,if_pos (h1.symm.trans e)];exact ⟨h1,h2,ry⟩
  ·rw [if_neg e,if_neg (fun z=>e (h1.trans z))];exact ⟨h1,h2,h3⟩
theorem KT.put {H:Hp}{kvs:List (List Zk×V)}{xs:List (List Zk×Addr×Value)}(r:KT H kvs xs)(k:List Zk){b:Addr}{y:V}{u:Value}(hb:H b=some (.tup (k.map kV)))(ry:RelV y u) :
 KT H (ZQ kvs k y) (storedH xs k b u):=by
 have e:(kvs.any fun kv=>decide (kv.1=k))=(atKey xs k).isSome:=by
  rw [Vg,(r.val k).isSome_eq,Option.isSome_map]
 unfold ZQ storedH
 rw [e]
 by_cases q:(atKey xs k).isSome=true
 ·rw [if_pos q,if_pos q];exact r.repl k ry
 ·rw [if_neg q,if_neg q];exact Paired.snoc r ⟨rfl,hb,ry⟩
theorem KT.keeps {H H':Hp}{kvs:List (List Zk×V)}{xs:List (List Zk×Addr×Value)}(r:KT H kvs xs)(ht:∀ b ys,H b=some (.tup ys)->H' b=some (.tup ys)):KT H' kvs xs :=
 Paired.mapP r fun _ _ z=>⟨z.1,ht _ _ z.2.1,z.2.2⟩
section
variable {P:Program}{w:World}{H:Hp}{h:Heap}{a:Addr}
theorem Zjy {u:HO}(ok:HOk P w H h)(e:Rd H a u):ObjOk P w H h a u:=e.ok ok
theorem UU {kvs:List (Zk×V)}(ok:HOk P w H h)(e:Rd H a (.dK kvs)):kvs.length<=sizeLine/\(a == sysModules)=false/\∃ vs,KV kvs vs/\h.DictOf (Zr P w) a vs :=
 show ObjOk P w H h a (.dK kvs) from Zjy ok e
theorem Wz {kvs:List (Zk×V)}(ok:HOk P w H h)(e:H a=some (.dK kvs)):kvs.length<=sizeLine/\(a == sysModules)=false/\∃ vs,KV kvs vs/\h.DictOf (Zr P w) a vs:=UU ok (.inl e)
theorem UA {ks:List Zk}(ok:HOk P w H h)(e:H a=some (.tup (ks.map kV))):(tupleKind (Zr P w)).is h ks a:=by
 obtain ⟨_,its,r,o,h1,h2,n,h3⟩:=(show ObjOk P w H h a (.tup (ks.map kV)) from ok a _ e)
 exact ⟨o,its.toArray,n,h1,h2,h3,by simpa using Zci r⟩
theorem UW {kvs:List (List Zk×V)}(ok:HOk P w H h)(e:Rd H a (.dT kvs)):kvs.length<=sizeLine/\(a == sysModules)=false /\
 ∃ xs,KT H kvs xs/\h.DictOfH (tupleKind (Zr P w)) a xs:=by
 obtain ⟨z,y,xs,r,o,es,ep,h1,h2,h3,h4,h5⟩:=(show ObjOk P w H h a (.dT kvs) from Zjy ok e)
 refine ⟨z,y,xs,r,o,es,ep,h1,h2,h3,h4,fun x hx=>?_,h5⟩
 have all:∀ {l:List (List Zk×V)} {m:List (List Zk×Addr×Value)},KT H l m->∀ x∈m,(tupleKind (Zr P w)).is h x.1 x.2.1:=by
  intro l m q
  induction q with
  | nil=>intro x hx;exact nomatch hx
  | @cons p q ps qs hq t ih =>
   intro x hx
   rcases mem_cons.mp hx with e | hx
   ·subst e
    exact UA ok (by rw [<- hq.1];exact hq.2.1)
   ·exact ih x hx
 exact all r x hx
theorem Zmp {kvs:List (List Zk×V)}(ok:HOk P w H h)(e:H a=some (.dT kvs)):kvs.length<=sizeLine/\(a == sysModules)=false /\
 ∃ xs,KT H kvs xs/\h.DictOfH (tupleKind (Zr P w)) a xs:=UW ok (.inl e)
end
def DGet (H:Hp)(a:Addr)(y:V)(r:Option V):Prop :=
 (∃ kvs k,Rd H a (.dK kvs)/\y=kV k/\r=Zy kvs k)\/∃ kvs k b,Rd H a (.dT kvs)/\y=.ref b/\H b=some (.tup (k.map kV))/\r=Zy kvs k
def DPut (H:Hp)(a:Addr)(y v:V)(H':Hp):Prop :=
 (∃ kvs k,H a=some (.dK kvs)/\y=kV k/\kvs.length < sizeLine/\H'=upd H a (.dK (ZQ kvs k v))) \/
 ∃ kvs k b,H a=some (.dT kvs)/\y=.ref b/\H b=some (.tup (k.map kV))/\kvs.length < sizeLine/\H'=upd H a (.dT (ZQ kvs k v))
theorem DGet.k {H:Hp}{a:Addr}{kvs:List (Zk×V)}{k:Zk}(e:H a=some (.dK kvs)):DGet H a (kV k) (Zy kvs k):=.inl ⟨kvs,k,.inl e,rfl,rfl⟩
theorem DPut.k {H:Hp}{a:Addr}{kvs:List (Zk×V)}{k:Zk}{v:V}(e:H a=some (.dK kvs))(hl:kvs.length < sizeLine):DPut H a (kV k) v (upd H a (.dK (ZQ kvs k v))):=.inl ⟨kvs,k,e,rfl,hl,rfl⟩
section
variable {X:Cx}{pins:List (Addr×Obj)}{σ:St}{H:Hp}{s:Shared}{a:Addr}{y v:V}{u r:Value}{o:Option V}{A:Around}{E:Value->Shared->Prop}
theorem Inv.big (I:Inv X pins σ H s):sysModules < s.heap.objs.size:=by
 have h:mainGlobals < s.heap.objs.size:=(I.mod.glob.keeps I.bk).lt
 exact Nat.lt_trans (by decide) h
theorem Zgl {Q:Value->Shared->Prop}(hu:A.units+1 < cLine)(I:Inv X pins σ H s)(g:DGet H a y (some v))(ry:RelV y u)(h:∀ w' s',Inv X pins σ H s'->RelV v w'->Q w' s') :
 wpAny (model X.prog X.w) A (getItem (.ref a) u) Q E s:=by
 rcases g with ⟨kvs,k,e,ey,l⟩ | ⟨kvs,k,b,e,ey,eb,l⟩
 ·subst ey
  obtain ⟨z,hd,vs,rel,dd⟩:=UU I.hok e
  obtain ⟨w',hw,rw'⟩:=RelO.some_of (v:=v) (o:=valueAt vs k) (by rw [l];exact rel.val k)
  exact wpAny_getItem_of (WD ry) dd.mapOf hw (h w' _ (I.tok _) rw')
 ·subst ey
  cases (show u=Value.ref b from ry)
  obtain ⟨z,hd,xs,rel,dd⟩:=UW I.hok e
  obtain ⟨w',hw,rw'⟩:=RelO.some_of (v:=v) (o:=(atKey xs k).map (·.2)) (by rw [l];exact rel.val k)
  obtain ⟨p,hp,hp2⟩:=Option.map_eq_some_iff.mp hw
  refine wpAny_getItem_heap (tupleKind_room_in1 hu) (UA I.hok eb) dd hp ?_
  rw [hp2]
  exact h w' _ (I.tok _) rw'
theorem d_in {Q:Value->Shared->Prop}(hu:A.units+1 < cLine)(I:Inv X pins σ H s)(g:DGet H a y o)(ry:RelV y u)(h:∀ s',Inv X pins σ H s'->Q (.bool o.isSome) s') :
 wpAny (model X.prog X.w) A (compareOp .In u (.ref a)) Q E s:=by
 rcases g with ⟨kvs,k,e,ey,l⟩ | ⟨kvs,k,b,e,ey,eb,l⟩
 ·subst ey
  obtain ⟨z,hd,vs,rel,dd⟩:=UU I.hok e
  refine wpAny_in_of (WD ry) hd dd.mapOf ?_
  rw [<- (rel.val k).isSome_eq,<- l]
  exact h _ (I.tok _)
 ·subst ey
  cases (show u=Value.ref b from ry)
  obtain ⟨z,hd,xs,rel,dd⟩:=UW I.hok e
  refine wpAny_in_heap (tupleKind_room_in1 hu) (UA I.hok eb) hd dd ?_
  have q:=(rel.val k).isSome_eq
  rw [Option.isSome_map] at q
  rw [<- q,<- l]
  exact h _ (I.tok _)
theorem ZjO {Q:Value->Shared->Prop}(hu:A.units+1 < cLine)(I:Inv X pins σ H s)(g:DGet H a y o)(ry:RelV y u)(h:∀ s',Inv X pins σ H s'->Q (.bool (!o.isSome)) s') :
 wpAny (model X.prog X.w) A (compareOp .NotIn u (.ref a)) Q E s:=by
 rcases g with ⟨kvs,k,e,ey,l⟩ | ⟨kvs,k,b,e,ey,eb,l⟩
 ·subst ey
  obtain ⟨z,hd,vs,rel,dd⟩:=UU I.hok e
  refine wpAny_notIn_of (WD ry) hd dd.mapOf ?_
  rw [<- (rel.val k).isSome_eq,<- l]
  exact h _ (I.tok _)
 ·subst ey
  cases (show u=Value.ref b from ry)
  obtain ⟨z,hd,xs,rel,dd⟩:=UW I.hok e
  refine wpAny_notIn_heap (tupleKind_room_in1 hu) (UA I.hok eb) hd dd ?_
  have q:=(rel.val k).isSome_eq
  rw [Option.isSome_map] at q
  rw [<- q,<- l]
  exact h _ (I.tok _)
theorem VE {h':Heap}{t':Nat}{ob:HO}(I:Inv X pins σ H s)(mu:Mut (H a))(hs:Heap.SameBut a s.heap h')(he:∃ q,h'.get? a=some q)(new:ObjOk X.prog X.w (upd H a ob) h' a ob) :
 Inv X pins σ (upd H a ob) { s with heap:=h',toks:=t' } :=
 I.write (x:=a) (e:=a) mu (.inl rfl) (fun b q hb z=>(hs.2 b hb).trans z) he new
theorem Zdl {P:Program}{w:World}{H':Hp}{h':Heap}{kvs:List (Zk×V)}{vs:List (Zk×Value)}(z:kvs.length<=sizeLine)(hd:(a == sysModules)=false)(rel:KV kvs vs)(dd:h'.DictOf (Zr P w) a vs) :
 ObjOk P w H' h' a (.dK kvs):=⟨z,hd,vs,rel,dd⟩
theorem Zgm {H':Hp}{Q:Unit->Shared->Prop}(hu:A.units+1 < cLine)(I:Inv X pins σ H s)(g:DPut H a y v H')(ry:RelV y u)(rv:RelV v r)(h:∀ s',Inv X pins σ H' s'->Q () s') :
 wpAny (model X.prog X.w) A (setItem (.ref a) u r) Q E s:=by
 rcases g with ⟨kvs,k,e,ey,l,eH⟩ | ⟨kvs,k,b,e,ey,eb,l,eH⟩
 ·subst ey eH
  obtain ⟨z,hd,vs,rel,dd⟩:=Wz I.hok e
  have hz:vs.length<=sizeLine:=by rw [<- rel.length];exact z
  have hl:(ZQ kvs k v).length<=sizeLine:=by have:=XD kvs k v;omega
  refine wpAny_setItem_pairs (hsz:=hz) (WD ry) dd fun h' dd' hs=>h _ ?_
  have he:∃ q,h'.get? a=some q:=let ⟨q,_,_,hq,_⟩:=dd';⟨q,hq⟩
  exact VE I (by rw [e];exact True.intro) hs he (Zdl hl hd (rel.put k rv) dd')
 ·subst ey eH
  cases (show u=Value.ref b from ry)
  obtain ⟨z,hd,xs,rel,dd⟩:=Zmp I.hok e
  have hz:xs.length<=sizeLine:=by rw [<- Paired.length rel];exact z
  have hl:(ZQ kvs k v).length<=sizeLine:=by have:=XD kvs k v;omega
  refine wpAny_setItem_heap (hsz:=hz) (tupleKind_room_in1 hu) (UA I.hok eb) dd fun h' dd' hs=>h _ ?_
  obtain ⟨q,es,ep,hq,h2,h3,h4,_,h5⟩:=dd'
  refine VE I (by rw [e];exact True.intro) hs ⟨q,hq⟩ ⟨hl,hd,_,(rel.put k eb rv).keeps fun c ys ec=>?_,q,es,ep,hq,h2,h3,h4,h5⟩
  rw [Zi (Zba ec e (fun z=>nomatch z))]
  exact ec
end
section
variable {X:Cx}{pins:List (Addr×Obj)}{σ:St}{H:Hp}{s:Shared}{a:Addr}{kvs:List (Zk×V)}{k:Zk}{u:Value}{A:Around}{E:Value->Shared->Prop}
theorem Zmo {v:V}{more:List Value}{Q:Value->Shared->Prop}(I:Inv X pins σ H s)(e:H a=some (.dK kvs))(ry:RelV (kV k) u)(l:Zy kvs k=some v)(hm:more=[]\/∃ x,more=[x])
 (h:∀ w' s',Inv X pins σ (upd H a (.dK (UV kvs k))) s'->RelV v w'->Q w' s'):wpAny (model X.prog X.w) A (call (.builtin "dict.pop") (.ref a::u::more)) Q E s:=by
 obtain ⟨z,hd,vs,rel,dd⟩:=Wz I.hok e
 obtain ⟨w',hw,rw'⟩:=RelO.some_of (v:=v) (o:=valueAt vs k) (by rw [<- l];exact rel.val k)
 have hp:(keyPart u).isSome=true:=by
  cases k with
  | inl i=>obtain ⟨t,q⟩:=(show ∃ t,u=Value.int i t from ry);subst q;rfl
  | inr x=>obtain ⟨t,q⟩:=(show ∃ t,u=Value.str x t from ry);subst q;rfl
 have ha:argsOk "dict.pop" ⟨.ref a::u::more,[]⟩:=by
  rcases hm with q | ⟨x,q⟩
  ·subst q;exact PySem.F.args_dict_pop_2 _ _
  ·subst q;exact PySem.F.args_dict_pop_3 _ _ _
 refine call_meetsIn PySem.F.slot_dict_pop dd.typeIs PySem.F.entry_dict_pop ha (meets_dict_pop_there (Zr X.prog X.w) a (WD ry) more hm hp)
  ⟨vs,w',dd,by rw [<- rel.length];exact z,hw,fun h' dd' hs=>h w' _ ?_ rw'⟩
 have he:∃ q,h'.get? a=some q:=let ⟨q,_,_,hq,_⟩:=dd';⟨q,hq⟩
 exact VE I (by rw [e];exact True.intro) hs he (Zdl (Nat.le_trans (ZhN kvs k) z) hd (rel.drop k) dd')
theorem ZkY {r:Value}{Q:Value->Shared->Prop}(I:Inv X pins σ H s)(e:H a=some (.dK kvs))(ry:RelV (kV k) u)(l:Zy kvs k=none)(h:∀ s',Inv X pins σ H s'->Q r s') :
 wpAny (model X.prog X.w) A (call (.builtin "dict.pop") [.ref a,u,r]) Q E s:=by
 obtain ⟨z,hd,vs,rel,dd⟩:=Wz I.hok e
 have hn:valueAt vs k=none:=RelO.none_of (by rw [<- l];exact rel.val k)
 have hp:(keyPart u).isSome=true:=by
  cases k with
  | inl i=>obtain ⟨t,q⟩:=(show ∃ t,u=Value.int i t from ry);subst q;rfl
  | inr x=>obtain ⟨t,q⟩:=(show ∃ t,u=Value.str x t from ry);subst q;rfl
 exact call_meetsIn PySem.F.slot_dict_pop dd.typeIs PySem.F.entry_dict_pop (PySem.F.args_dict_pop_3 _ _ _) (meets_dict_pop_default (Zr X.prog X.w) a (WD ry) hd hp r) ⟨vs,dd,hn,h _ (I.tok _)⟩
end
def NoSl (i:Expr):Prop:=∀ ov iv,subscripted i false ov iv=operate [ov,iv] (getItem ov iv)
theorem Zkz {prog:Program}{w:World}{A:Around}{E:Value->Shared->Prop}{s:Shared}{env:Env}{value slice:Expr}{pos:Pos}{T id:String}{Q:Value->Shared->Prop}
 (hl:typeLookup (.type T) "__getitem__"=pure (some (.builtin id))) (hs:NoSl slice)
 (h:wpAny (model prog w) A (eval value env) (fun o s₁=>wpAny (model prog w) A (eval slice env) (fun i s₂=>s₂.TypeIs o T/\wpAny (model prog w) A (getItem o i) Q E s₂) E s₁) E s) :
 wpAny (model prog w) A (eval (.Subscript value slice pos) env) Q E s:=by
 refine Subscript_ (wpAny_mono h (fun o s₁ h₁=>wpAny_mono h₁ (fun i s₂ h₂=>?_) fun _ _ x=>x) fun _ _ x=>x)
 obtain ⟨hT,h₂⟩:=h₂
 unfold subscriptTail
 refine wpAny_bind ?_
 rw [getitemInPython_of_ne hT.not_modules]
 refine wpAny_bind (wpAny_specialOf hT hl ?_)
 have fin:wpAny (model prog w) A (subscripted slice false o i) (fun r s₃=>wpAny (model prog w) A (letTemporaryGo value o r >>= fun _=>pure r) Q E s₃) E s₂:=by
  rw [hs o i]
  exact wpAny_operating (wpAny_mono h₂ (fun r s₃ h₃=>wpAny_bind (wpAny_letTemporaryGo (wpAny_pure h₃))) fun _ _ x=>x)
 first
  | exact wpAny_pure (wpAny_bind fin)
  | exact wpAny_bind (wpAny_pure (wpAny_bind fin))
  | exact wpAny_bind fin
theorem Zee {X:Cx}{pins:List (Addr×Obj)}{σ:St}{H:Hp}{s:Shared}{a:Addr}{y:V}{o:Option V}(I:Inv X pins σ H s)(g:DGet H a y o):s.TypeIs (.ref a) "dict":=by
 rcases g with ⟨kvs,k,e,_,_⟩ | ⟨kvs,k,b,e,_,_,_⟩
 ·obtain ⟨_,_,vs,_,dd⟩:=UU I.hok e
  exact dd.typeIs
 ·obtain ⟨_,_,xs,_,dd⟩:=UW I.hok e
  exact dd.typeIs
inductive Zfb (Q:VK)(x:V)(y:V)(H2:Hp):Prop
 | mk (a:_) (v:_):(x=.ref a)->(DGet H2 a y (some v))->(Q v H2)->Zfb Q x y H2
def ZmM (td ty:TE):TE:=fun σ H Q=>td σ H fun x H1=>ty σ H1 fun y H2=>Zfb Q x y H2
inductive Zhq (Q:VK)(y:V)(x:V)(H2:Hp):Prop
 | mk (a:_) (o:_):(x=.ref a)->(DGet H2 a y o)->(Q (.bl o.isSome) H2)->Zhq Q y x H2
def tDIn (ty td:TE):TE:=fun σ H Q=>ty σ H fun y H1=>td σ H1 fun x H2=>Zhq Q y x H2
inductive Zcy (Q:VK)(y:V)(x:V)(H2:Hp):Prop
 | mk (a:_) (o:_):(x=.ref a)->(DGet H2 a y o)->(Q (.bl (!o.isSome)) H2)->Zcy Q y x H2
def ZkA (ty td:TE):TE:=fun σ H Q=>ty σ H fun y H1=>td σ H1 fun x H2=>Zcy Q y x H2
inductive ZeU (D:Yi)(σ:St)(v:V)(x:V)(y:V)(H3:Hp):Prop
 | mk (a:_) (H4:_):(x=.ref a)->(DPut H3 a y v H4)->(D.nx σ H4)->ZeU D σ v x y H3
def ZmJ (td ty tv:TE):TS:=fun D σ H=>tv σ H fun v H1=>td σ H1 fun x H2=>ty σ H2 fun y H3=>ZeU D σ v x y H3
section
variable {X:Cx}{o i e value:Expr}{pos pos' tpos:Pos}{td ty tv:TE}
theorem Zkn (hu:X.A.units+1 < cLine)(ho:PE X o td)(hi:PE X i ty)(hs:NoSl i):PE X (.Subscript o i pos) (ZmM td ty):=by
 intro pins s σ H Q I h
 refine Zkz PySem.F.slot_dict_getitem.lookup hs (Zt (ho pins s σ H _ I h) fun u s1 ⟨x,H1,I1,rx,q1⟩=>Zt (hi pins s1 σ H1 _ I1 q1) fun iv s2 ⟨y,H2,I2,ry,a,v,ex,g,q2⟩=>?_)
 subst ex
 obtain rfl:u=Value.ref a:=rx
 exact ⟨Zee I2 g,Zgl hu I2 g ry fun w' s3 I3 rw'=>⟨v,H2,I3,rw',q2⟩⟩
theorem ZlD (hu:X.A.units+1 < cLine)(hi:PE X i ty)(ho:PE X o td):PC X .In i o (tDIn ty td):=by
 intro pins s σ H Q I h
 refine Zt (hi pins s σ H _ I h) fun iv s1 ⟨y,H1,I1,ry,q1⟩=>Zt (ho pins s1 σ H1 _ I1 q1) fun u s2 ⟨x,H2,I2,rx,a,ov,ex,g,q2⟩=>?_
 subst ex
 obtain rfl:u=Value.ref a:=rx
 exact d_in hu I2 g ry fun s3 I3=>⟨.bl ov.isSome,H2,I3,rfl,q2⟩
theorem Zcr (hu:X.A.units+1 < cLine)(hi:PE X i ty)(ho:PE X o td):PC X .NotIn i o (ZkA ty td):=by
 intro pins s σ H Q I h
 refine Zt (hi pins s σ H _ I h) fun iv s1 ⟨y,H1,I1,ry,q1⟩=>Zt (ho pins s1 σ H1 _ I1 q1) fun u s2 ⟨x,H2,I2,rx,a,ov,ex,g,q2⟩=>?_
 subst ex
 obtain rfl:u=Value.ref a:=rx
 exact ZjO hu I2 g ry fun s3 I3=>⟨.bl (!ov.isSome),H2,I3,rfl,q2⟩
theorem Wg (hu:X.A.units+1 < cLine)(ho:PE X o td)(hi:PE X i ty)(hv:PE X value tv)(hs:swapsWith value (some (.Subscript o i pos')) pos.line X.env=pure false) :
 PS X (.Assign [.Subscript o i pos'] value pos) (ZmJ td ty tv):=by
 intro pins s σ H D I h
 refine wpAny_Assign_Subscript (Zt (hv pins s σ H _ I h) fun r s1 ⟨v,H1,I1,rv,q1⟩=>Zt (ho pins s1 σ H1 _ I1 q1) fun u s2 ⟨x,H2,I2,rx,q2⟩=>Zt (hi pins s2 σ H2 _ I2 q2) fun iv s3 ⟨y,H3,I3,ry,a,H4,ex,g,q3⟩=>?_) hs
 subst ex
 obtain rfl:u=Value.ref a:=rx
 exact Zgm hu I3 g ry rv fun s4 I4=>⟨σ,H4,I4,q3⟩
end
theorem Zdk {P:Program}{w:World}{H:Hp}(h:Heap)(hb:sysModules < h.objs.size):ObjOk P w H (h.push { cls:=.type "dict",data:=.dict #[] }) h.objs.size (.dK []) :=
 ⟨Nat.zero_le _,beq_eq_false_iff_ne.mpr (Ne.symm (Nat.ne_of_lt hb)),[],.nil,Heap.DictOf.new h⟩
def Zmb:TE:=fun _ H Q=>∀ p,H p=none->Q (.ref p) (upd H p (.dK []))
section
variable {X:Cx}{pos:Pos}
theorem Zau:PE X (.Dict [] [] pos) Zmb:=fun pins s σ H Q I h =>
 wpAny_Dict_empty ⟨.ref s.heap.objs.size,_,I.laid (a:=s.heap.objs.size) (o:=.dK []) (t':=s.toks) (fun _ _ q=>Heap.get?_push_of_some _ q) (Nat.le_refl _) (Zdk s.heap I.big),rfl,h _ (I.hok.fresh (Nat.le_refl _))⟩
end
def ZdS:List (TE×TE)->St->Hp->(List (V×V)->Hp->Prop)->Prop
 | [],_,H,Q=>Q [] H
 | (tk,tv)::r,σ,H,Q=>tk σ H fun x H1=>tv σ H1 fun y H2=>ZdS r σ H2 fun ps H3=>Q ((x,y)::ps) H3
abbrev VV:List (V×V)->List (Value×Value)->Prop:=Paired fun p q=>RelV p.1 q.1/\RelV p.2 q.2
def PPs (X:Cx)(pos:Pos)(keys:List (Option Expr))(values:List Expr)(trs:List (TE×TE)):Prop :=
 ∀ (pins:List (Addr×Obj)) (s:Shared) (σ:St) (H:Hp) (Q:List (V×V)->Hp->Prop),Inv X pins σ H s->ZdS trs σ H Q ->
  wpAny (model X.prog X.w) X.A (evalPairs (pairTrees keys values X.env pos)) (fun vs s'=>∃ ps H',Inv X pins σ H' s'/\VV ps vs/\Q ps H') X.xe s
theorem Zkr {X:Cx}{pos:Pos}:PPs X pos [] [] []:=fun pins s σ H Q I h=>pairTrees_nil_walk ⟨[],H,I,.nil,h⟩
theorem ZiI {X:Cx}{pos:Pos}{k v:Expr}{ks:List (Option Expr)}{vs:List Expr}{tk tv:TE}{trs:List (TE×TE)}(hk:PE X k tk)(hv:PE X v tv)(hr:PPs X pos ks vs trs) :
 PPs X pos (some k::ks) (v::vs) ((tk,tv)::trs):=fun pins s σ H Q I h =>
 pairTrees_cons_walk (Zt (hk pins s σ H _ I h) fun u s1 ⟨x,H1,I1,rx,q1⟩=>Zt (hv pins s1 σ H1 _ I1 q1) fun w2 s2 ⟨y,H2,I2,ry,q2⟩ =>
  Zt (hr pins s2 σ H2 _ I2 q2) fun ws s3 ⟨ps,H3,I3,rel,q3⟩=>⟨(x,y)::ps,H3,I3,.cons ⟨rx,ry⟩ rel,q3⟩)
def Vy (kvs more:List (Zk×V)):List (Zk×V):=more.foldl (fun acc kv=>ZQ acc kv.1 kv.2) kvs
theorem KV.merge:∀{more:List (Zk×V)}{rs:List (Zk×Value)}{kvs:List (Zk×V)}{vs:List (Zk×Value)},KV more rs->KV kvs vs->KV (Vy kvs more) (merged vs rs):=by
 intro more rs kvs vs r
 unfold KV at r
 induction r generalizing kvs vs with
 | nil=>intro q;exact q
 | @cons p q ps qs h t ih =>
  intro r0
  have e:KV (ZQ kvs p.1 p.2) (stored vs q.1 q.2):=by
   have:=r0.put p.1 h.2
   rw [<- h.1];exact this
  exact ih e
theorem Vj:∀(more kvs:List (Zk×V)),(Vy kvs more).length<=kvs.length+more.length
 | [],kvs=>by show kvs.length<=kvs.length+0;omega
 | p::r,kvs=>by
  have h1:=Vj r (ZQ kvs p.1 p.2)
  have h2:=XD kvs p.1 p.2
  show (Vy (ZQ kvs p.1 p.2) r).length<=_
  rw [length_cons];omega
theorem ZaE {P:Program}{w:World}:∀{kvs:List (Zk×V)}{ws:List (Value×Value)},VV (kvs.map fun kv=>(kV kv.1,kv.2)) ws->∃ rs,Carries (Zr P w) ws rs/\KV kvs rs
 | [],_,r=>by rw [List.map_nil] at r;cases r;exact ⟨[],True.intro,.nil⟩
 | p :: kvs,_,r=>by
  rw [map_cons] at r
  cases r with
  | @cons a b as bs h t =>
   obtain ⟨rs,c,q⟩:=ZaE (P:=P) (w:=w) t
   obtain ⟨b1,b2⟩:=b
   exact ⟨(p.1,b2)::rs,⟨WD h.1,rfl,c⟩,.cons ⟨rfl,h.2⟩ q⟩
def ZmN (trs:List (TE×TE)):TE:=fun σ H Q=>∀ p,H p=none->ZdS trs σ (upd H p (.dK [])) fun ps H2=>H2 p=some (.dK [])/\∃ kvs:List (Zk×V),ps=kvs.map (fun kv=>(kV kv.1,kv.2))/\kvs.length<=15/\Q (.ref p) (upd H2 p (.dK (Vy [] kvs)))
theorem Zko {X:Cx}{pos:Pos}{keys:List (Option Expr)}{values:List Expr}{trs:List (TE×TE)}(h:PPs X pos keys values trs)(hall:keys.all (·.isSome)=true)(hl:keys.length=values.length)(h0:keys≠[])
 (h15:keys.length<=15):PE X (.Dict keys values pos) (ZmN trs):=by
 intro pins s σ H Q I q
 have hn:=I.hok.fresh (Nat.le_refl s.heap.objs.size)
 have I1:=I.laid (a:=s.heap.objs.size) (o:=.dK []) (h':=s.heap.push { cls:=.type "dict",data:=.dict #[] }) (t':=s.toks) (fun _ _ q=>Heap.get?_push_of_some _ q) (Nat.le_refl _) (Zdk s.heap I.big)
 refine wpAny_Dict_walk (knd:=Zr X.prog X.w) hall hl h0 h15 (Zt (h pins _ σ _ _ I1 (q _ hn)) fun ws s2 ⟨ps,H2,I2,rel,e,kvs,ep,lk,q2⟩=>?_)
 subst ep
 obtain ⟨rs,c,rk⟩:=ZaE (P:=X.prog) (w:=X.w) rel
 obtain ⟨z,hd,vs0,r0,dd⟩:=Wz I2.hok e
 cases r0
 refine ⟨rs,c,dd,fun h' dd' hs=>⟨.ref s.heap.objs.size,_,?_,rfl,q2⟩⟩
 have hz:(Vy [] kvs).length<=sizeLine:=by
  have h1:=Vj kvs []
  rw [List.length_nil] at h1
  rw [sizeLine_eq];omega
 have he:∃ q,h'.get? s.heap.objs.size=some q:=let ⟨q,_,_,hq,_⟩:=dd';⟨q,hq⟩
 exact VE I2 (by rw [e];exact True.intro) hs he (Zdl hz hd (rk.merge .nil) dd')
structure M1 (X:Cx)(o:Expr)(m:Str)(apos:Pos)(e:Expr)(cpos:Pos):Prop where
 base:attributeBase o m X.env (eval o X.env)=eval o X.env
 few:((backTo cpos (starEach [e] X.env)).all (fun x=>!x.1)&&(backToKw cpos (keywordEach [] X.env)).all (fun x=>x.1.isSome)
  && decide (([e]:List Expr).length+([]:List Keyword).length+(if ([]:List Keyword).isEmpty then 0 else 1) < 30))=true
 line:(apos.endLine == cpos.line)=true
 trees:backTo cpos (starEach [e] X.env)=[(false,eval e X.env)]
structure M2 (X:Cx)(o:Expr)(m:Str)(apos:Pos)(e f:Expr)(cpos:Pos):Prop where
 base:attributeBase o m X.env (eval o X.env)=eval o X.env
 few:((backTo cpos (starEach [e,f] X.env)).all (fun x=>!x.1)&&(backToKw cpos (keywordEach [] X.env)).all (fun x=>x.1.isSome)
  && decide (([e,f]:List Expr).length+([]:List Keyword).length+(if ([]:List Keyword).isEmpty then 0 else 1) < 30))=true
 line:(apos.endLine == cpos.line)=true
 trees:backTo cpos (starEach [e,f] X.env)=[(false,eval e X.env),(false,eval f X.env)]
def IsD (H:Hp)(a:Addr):Prop:=(∃ kvs,Rd H a (.dK kvs))\/∃ kvs,Rd H a (.dT kvs)
theorem Zgy {X:Cx}{pins:List (Addr×Obj)}{σ:St}{H:Hp}{s:Shared}{a:Addr}(I:Inv X pins σ H s)(d:IsD H a) :
 s.TypeIs (.ref a) "dict"/\(∀ b,Value.ref a=.ref b->∃ ob,s.heap.get? b=some ob/\ob.dict=none)/\(a == sysModules)=false:=by
 rcases d with ⟨kvs,e⟩ | ⟨kvs,e⟩
 ·obtain ⟨_,hd,vs,_,dd⟩:=UU I.hok e
  refine ⟨dd.typeIs,fun b q=>?_,hd⟩
  cases q
  obtain ⟨ob,_,_,h1,h2,_⟩:=dd
  exact ⟨ob,h1,h2.2.1⟩
 ·obtain ⟨_,hd,xs,_,dd⟩:=UW I.hok e
  refine ⟨dd.typeIs,fun b q=>?_,hd⟩
  cases q
  obtain ⟨ob,_,_,h1,h2,_⟩:=dd
  exact ⟨ob,h1,h2.2.1⟩
section
variable {X:Cx}{pins:List (Addr×Obj)}{σ:St}{H:Hp}{s:Shared}{a:Addr}{y d:V}{u r:Value}{o:Option V}{A:Around}{E:Value->Shared->Prop}
theorem ZkX {Q:Value->Shared->Prop}(hu:A.units+1 < cLine)(I:Inv X pins σ H s)(g:DGet H a y o)(ry:RelV y u)(h:∀ w' s',Inv X pins σ H s'->RelV (o.getD .non) w'->Q w' s') :
 wpAny (model X.prog X.w) A (call (.builtin "dict.get") [.ref a,u]) Q E s:=by
 rcases g with ⟨kvs,k,e,ey,l⟩ | ⟨kvs,k,b,e,ey,eb,l⟩
 ·subst ey
  obtain ⟨z,hd,vs,rel,dd⟩:=UU I.hok e
  refine call_meetsIn PySem.F.slot_dict_get dd.typeIs PySem.F.entry_dict_get (PySem.F.args_dict_get_2 _ _) (meets_dict_get (Zr X.prog X.w) a (WD ry) hd) ⟨_,dd.mapOf,h _ _ (I.tok _) ?_⟩
  rw [l]
  exact (rel.val k).getD rfl
 ·subst ey
  cases (show u=Value.ref b from ry)
  obtain ⟨z,hd,xs,rel,dd⟩:=UW I.hok e
  refine call_meetsIn PySem.F.slot_dict_get dd.typeIs PySem.F.entry_dict_get (PySem.F.args_dict_get_2 _ _) (meetsH_dict_get (tupleKind (Zr X.prog X.w)) a b hd) ⟨tupleKind_room_in1 hu,k,xs,UA I.hok eb,dd,h _ _ (I.tok _) ?_⟩
  rw [l]
  exact (rel.val k).getD rfl
end
inductive ZdQ (ty:TE)(σ:St)(Q:VK)(x:V)(H1:Hp):Prop
 | mk (a:_):(x=.ref a)->(IsD H1 a)->(ty σ H1 fun y H2=>∃ o,DGet H2 a y o/\Q (o.getD .non) H2)->ZdQ ty σ Q x H1
def Zma (td ty:TE):TE:=fun σ H Q=>td σ H fun x H1=>ZdQ ty σ Q x H1
inductive ZdR (ty:TE)(tx:TE)(σ:St)(Q:VK)(x:V)(H1:Hp):Prop
 | mk (a:_):(x=.ref a)->(IsD H1 a)->(ty σ H1 fun y H2=>tx σ H2 fun z H3=>∃ kvs k,H3 a=some (.dK kvs)/\y=kV k/\(∀ v,Zy kvs k=some v->Q v (upd H3 a (.dK (UV kvs k))))/\(Zy kvs k=none->Q z H3))->ZdR ty tx σ Q x H1
def Zmc (td ty tx:TE):TE:=fun σ H Q=>td σ H fun x H1=>ZdR ty tx σ Q x H1
section
variable {X:Cx}{o e f:Expr}{apos cpos:Pos}{td ty tx:TE}
theorem Zix (hu:X.A.units+1 < cLine)(ho:PE X o td)(he:PE X e ty)(m:M1 X o "get" apos e cpos):PE X (.Call (.Attribute o "get" apos) [e] [] cpos) (Zma td ty):=by
 intro pins s σ H Q I h
 refine wpAny_Call_method m.base m.few m.line PySem.F.plainAttrs_dict PySem.F.slot_dict_get PySem.F.type_dict_get (Zt (ho pins s σ H _ I h) fun u s1 ⟨x,H1,I1,rx,a,ex,d,q1⟩=>?_)
 subst ex
 obtain rfl:u=Value.ref a:=rx
 obtain ⟨t1,t2,_⟩:=Zgy I1 d
 refine ⟨t1,t2,?_⟩
 rw [m.trees]
 refine Calls.callWith_builtin rfl (Calls.evalArgs_plain (Calls.spliced_cons (Zt (he pins s1 σ H1 _ I1 q1) fun iv s2 ⟨y,H2,I2,ry,ov,g,q2⟩=>Calls.spliced_nil ?_)))
 exact ZkX hu I2 g ry fun w' s3 I3 rw'=>⟨_,H2,I3,rw',q2⟩
theorem Ziy (ho:PE X o td)(he:PE X e ty)(hf:PE X f tx)(m:M2 X o "pop" apos e f cpos):PE X (.Call (.Attribute o "pop" apos) [e,f] [] cpos) (Zmc td ty tx):=by
 intro pins s σ H Q I h
 refine wpAny_Call_method m.base m.few m.line PySem.F.plainAttrs_dict PySem.F.slot_dict_pop PySem.F.type_dict_pop (Zt (ho pins s σ H _ I h) fun u s1 ⟨x,H1,I1,rx,a,ex,d,q1⟩=>?_)
 subst ex
 obtain rfl:u=Value.ref a:=rx
 obtain ⟨t1,t2,_⟩:=Zgy I1 d
 refine ⟨t1,t2,?_⟩
 rw [m.trees]
 refine Calls.callWith_builtin rfl (Calls.evalArgs_plain (Calls.spliced_cons (Zt (he pins s1 σ H1 _ I1 q1) fun iv s2 ⟨y,H2,I2,ry,q2⟩ =>
  Calls.spliced_cons (Zt (hf pins s2 σ H2 _ I2 q2) fun fv s3 ⟨z,H3,I3,rz,kvs,k,ea,ey,q3,q4⟩=>Calls.spliced_nil ?_))))
 subst ey
 cases l:Zy kvs k with
 | some v=>exact Zmo I3 ea ry l (.inr ⟨fv,rfl⟩) fun w' s4 I4 rw'=>⟨v,_,I4,rw',q3 v l⟩
 | none=>exact ZkY I3 ea ry l fun s4 I4=>⟨z,H3,I4,rz,q4 l⟩
end
section
variable {X:Cx}{pins:List (Addr×Obj)}{σ:St}{H:Hp}{s:Shared}{a:Addr}{kvs:List (Zk×V)}{A:Around}{E:Value->Shared->Prop}
end
section
variable {X:Cx}{pins:List (Addr×Obj)}{σ:St}{H:Hp}{s:Shared}{a:Addr}{y:V}{u:Value}{A:Around}{E:Value->Shared->Prop}
end
section
variable {κ:Type}[DecidableEq κ]
end
theorem Vx {env:Env}(y:Str):∀ names:List (Str×NameKind),
 (names.map fun (n,k)=>if (k == NameKind.free&&env.scope.kind == .function&&env.kindOf n == some .cell) then (n,NameKind.cell) else (n,k)).lookup y =
  (names.lookup y).map fun k=>if (k == NameKind.free&&env.scope.kind == .function&&env.kindOf y == some .cell) then NameKind.cell else k
 | []=>rfl
 | (n, k)::r=>by
  have ih:=Vx (env:=env) y r
  rw [map_cons]
  cases hx:y == n with
  | true =>
   have e:y=n:=by simpa using hx
   subst e
   by_cases hc:(k == NameKind.free&&env.scope.kind == .function&&env.kindOf y == some .cell)=true
   ·simp only [hc,if_true,lookup_cons,beq_self_eq_true,Option.map_some]
   ·simp only [hc,lookup_cons,beq_self_eq_true,Option.map_some]
    simp [hc]
  | false =>
   by_cases hc:(k == NameKind.free&&env.scope.kind == .function&&env.kindOf n == some .cell)=true
   ·simp only [hc,if_true,lookup_cons,hx];exact ih
   ·simp only [hc,lookup_cons,hx,Bool.false_eq_true,if_false];exact ih
theorem Yz {scope:Scope}{env:Env}{y:Str}{k:NameKind}(hcell:∀ z∈scope.names,z.2≠.cell)(h:(relabel scope env).names.lookup y=some k) :
 scope.names.lookup y=some k\/(scope.names.lookup y=some .free/\k=.cell):=by
 unfold relabel at h
 rw [Vx] at h
 cases e:scope.names.lookup y with
 | none=>rw [e] at h;cases h
 | some k0 =>
  rw [e] at h
  simp only [Option.map_some,Option.some.injEq] at h
  by_cases hc:(k0 == NameKind.free&&env.scope.kind == .function&&env.kindOf y == some .cell)=true
  ·rw [if_pos hc] at h
   right
   simp only [Bool.and_eq_true,beq_iff_eq] at hc
   exact ⟨by rw [hc.1.1],h.symm⟩
  ·rw [if_neg hc] at h
   left;rw [h]
theorem mem_of_lookup {α:Type}{y:Str}{k:α}:∀{l:List (Str×α)},l.lookup y=some k->(y,k)∈l
 | [],h=>by cases h
 | (n,z)::r,h=>by
  cases hx:y == n with
  | true =>
   have e:y=n:=by simpa using hx
   subst e
   simp only [lookup_cons,beq_self_eq_true] at h
   cases h
   exact mem_cons_self
  | false =>
   simp only [lookup_cons,hx] at h
   exact mem_cons_of_mem _ (mem_of_lookup h)
theorem UR {env:Env}:∀(names:List (Str×NameKind))(c0:List (Str×Addr)),(∀ y∈names,y.2=.free->∃ c,env.cells.lookup y.1=some c) ->
 ∃ cl:List (Str×Addr),(forIn names c0 fun (x:Str×NameKind) (r:List (Str×Addr))=>(if x.2 == NameKind.free then (do let a <- cellOf env x.1;pure (ForInStep.yield ((x.1,a)::r))) else pure (ForInStep.yield r):Sem (ForInStep (List (Str×Addr)))))=pure cl /\
  (∀ y c,cl.lookup y=some c->c0.lookup y=some c\/env.cells.lookup y=some c)/\(∀ y,c0.lookup y≠none->cl.lookup y≠none)/\∀ y∈names,y.2=.free->cl.lookup y.1≠none
 | [],c0,_=>⟨c0,rfl,fun _ _ h=>.inl h,fun _ h=>h,fun _ h=>(nomatch h)⟩
 | (n, k)::r,c0,h=>by
  by_cases hk:k=.free
  ·subst hk
   obtain ⟨c,hc⟩:=h (n,.free) mem_cons_self rfl
   obtain ⟨cl,e,g1,g2,g3⟩:=UR r ((n,c)::c0) fun y hy=>h y (mem_cons_of_mem _ hy)
   refine ⟨cl,?_,?_,?_,?_⟩
   ·rw [List.forIn_cons]
    have hcell:cellOf env n=pure c:=by unfold cellOf;rw [hc]
    simp only [beq_self_eq_true,if_true,hcell,pure_bind]
    exact e
   ·intro y d q
    rcases g1 y d q with q | q
    ·cases hx:y == n with
     | true =>
      have e':y=n:=by simpa using hx
      subst e'
      simp only [lookup_cons,beq_self_eq_true] at q
      cases q
      exact .inr hc
     | false=>simp only [lookup_cons,hx] at q;exact .inl q
    ·exact .inr q
   ·intro y q
    apply g2
    cases hx:y == n with
    | true=>simp [lookup_cons,hx]
    | false=>simpa [lookup_cons,hx] using q
   ·intro y hy hf
    rcases mem_cons.mp hy with e' | hy
    ·subst e'
     apply g2
     simp [lookup_cons]
    ·exact g3 y hy hf
  ·obtain ⟨cl,e,g1,g2,g3⟩:=UR r c0 fun y hy=>h y (mem_cons_of_mem _ hy)
   refine ⟨cl,?_,g1,g2,?_⟩
   ·rw [List.forIn_cons]
    have hb:(k == NameKind.free)=false:=by simpa using hk
    simp only [hb,Bool.false_eq_true,if_false,pure_bind]
    exact e
   ·intro y hy hf
    rcases mem_cons.mp hy with e' | hy
    ·subst e';exact absurd hf hk
    ·exact g3 y hy hf
theorem ZaF {scope:Scope}{env:Env}(h:∀ y∈scope.names,y.2=.free->∃ c,env.cells.lookup y.1=some c) :
 ∃ cl,closureFor scope env=pure cl/\(∀ y c,cl.lookup y=some c->env.cells.lookup y=some c)/\∀ y∈scope.names,y.2=.free->cl.lookup y.1≠none:=by
 obtain ⟨cl,e,g1,_,g3⟩:=UR (env:=env) scope.names [] h
 refine ⟨cl,?_,fun y c q=>(g1 y c q).elim (fun z=>by cases z) fun z=>z,g3⟩
 simp only [closureFor]
 rw [<- bind_pure (pure cl:Sem _),<- e]
def UX (N xs:List Str):List Str:=N.map fun y=>if y∈xs then (if xs.head?=some y then "" else "0") else y
theorem Zam (N xs:List Str):(UX N xs).length=N.length:=length_map ..
theorem ZhW {N xs:List Str}{y:Str}{i:Nat}(h:(UX N xs)[i]?=some y):(N[i]?=some y/\y ∉ xs)\/y=""\/y="0":=by
 unfold UX at h
 rw [getElem?_map] at h
 cases e:N[i]? with
 | none=>rw [e] at h;cases h
 | some z =>
  rw [e] at h
  have h:(if z∈xs then (if xs.head?=some z then ("":Str) else "0") else z)=y:=Option.some.inj h
  by_cases q:z∈xs
  ·rw [if_pos q] at h
   by_cases g:xs.head?=some z
   ·rw [if_pos g] at h;exact .inr (.inl h.symm)
   ·rw [if_neg g] at h;exact .inr (.inr h.symm)
  ·rw [if_neg q] at h;subst h;exact .inl ⟨rfl,q⟩
def ZX (X:Cx)(scope:Scope)(xs:List Str)(cl:List (Str×Addr))(C:Addr)(s₀:Shared)(H₀:Hp)(fp:List Addr):Cx :=
 {prog:=X.prog,w:=X.w,K:=X.K,mg:=X.mg,base:=X.base,A:=X.A,N:=UX X.N xs++xs,s₀:=s₀,H₀:=H₀,env:=compEnvC scope cl C X.env,outer:=X.stack,stack:=X.stack,
  ex:=fp,fn:=fun _=>false,calm:=X.calm,pn:=[],xe:=fun _ _=>False }
abbrev Uy (X:Cx)(scope:Scope)(x:Str):=ZX X scope [x]
structure CompOkN (X:Cx)(scope:Scope)(xs:List Str):Prop where
 nd:(UX X.N xs++xs).Nodup
 clos:∀ y∈scope.names,y.2=.free->X.env.kindOf y.1=some .cell\/X.env.kindOf y.1=some .free
 cell:∀ y∈scope.names,y.2≠.cell
 kind:scope.kind=.function
 names:∀ y∈scope.names,y.2=.local->scope.names.lookup y.1=some .local
 loc:∀ x∈xs,scope.names.lookup x=some .local
 own:∀ y∈X.N,y ∉ xs->scope.names.lookup y≠some .local
 noh:scope.names.lookup ("":Str)=none/\scope.names.lookup ("0":Str)=none
abbrev CompOk (X:Cx)(scope:Scope)(x:Str):=CompOkN X scope [x]
def Zaj (N:List Str)(names:List (Str×NameKind))(scope:Scope)(xs:List Str):Bool :=
 decide ((UX N xs++xs).Nodup)&&scope.names.all (fun y=>(y.2 != .free || names.lookup y.1 == some .cell || names.lookup y.1 == some .free)&&(y.2 != .cell&&(y.2 != .local || scope.names.lookup y.1 == some .local))) &&
 ((scope.kind == .function&&xs.all fun x=>scope.names.lookup x == some .local)&&N.all fun y=>decide (y∈xs) || scope.names.lookup y != some .local)&&(scope.names.lookup ("":Str) == none&&scope.names.lookup ("0":Str) == none)
theorem CompOkN.of {X:Cx}{scope:Scope}{xs:List Str}(N:List Str)(st:Stmt)(hN:X.N=N)(hn:X.env.scope=Zo st)(chk:Zaj N (Zo st).names scope xs=true):CompOkN X scope xs:=by
 unfold Zaj at chk
 simp only [Bool.and_eq_true,decide_eq_true_eq,all_eq_true,Bool.or_eq_true,bne_iff_ne,beq_iff_eq] at chk
 obtain ⟨⟨⟨c1,c2⟩,⟨c3,c4⟩,c5⟩,c6⟩:=chk
 refine ⟨by rw [hN];exact c1,fun y hy hf=>?_,fun y hy=>(c2 y hy).2.1,c3,fun y hy hl=>?_,c4,fun y hy hx=>(c5 y (by rw [<- hN];exact hy)).resolve_left hx,c6⟩
 ·show X.env.scope.names.lookup y.1=_\/X.env.scope.names.lookup y.1=_
  rw [hn]
  rcases (c2 y hy).1 with (z | z) | z
  ·exact absurd hf z
  ·exact .inl z
  ·exact .inr z
 ·rcases (c2 y hy).2.2 with z | z
  ·exact absurd hl z
  ·exact z
theorem CompOk.of {X:Cx}{scope:Scope}{x:Str}(N:List Str)(st:Stmt)(hN:X.N=N)(hn:X.env.scope=Zo st)(chk:Zaj N (Zo st).names scope [x]=true):CompOk X scope x:=CompOkN.of N st hN hn chk
def tYes:TT:=fun _ H k=>k true H
def PCs (X:Cx)(cs:List Expr)(tc:TT):Prop:=(cs=[]/\tc=tYes)\/∃ c,cs=[c]/\PT X c tc
def Zay (J:It)(g:TG)(tc:TT)(te:TE)(n:Nat)(OK:St->St->Prop)(σ:St)(D:Addr)(Q:VK)(H1:Hp):Prop :=
 ∃ W : Nat->Nat->List V->Hp->Prop,(∃ m,W 0 m [] (upd H1 D (.lst [])))/\∀ i m ys H2,W i m ys H2 ->
  (J.stop i H2/\Q (.ref D) H2)\/(J.go i H2/\∃ (N:VK) (M:Hp->Prop),(∀ y H4,N y H4->H4 D=some (.lst ys)/\ys.length < sizeLine/\∃ m',m' < m/\W (i+1) m' (ys++[y]) (upd H4 D (.lst (ys++[y]))))/\(∀ H4,M H4->∃ m',m' < m/\W (i+1) m' ys H4) /\
   ∀ ws v H3,ws.length=n->J.yld i H2 v H3->g v (σ++ws) H3 fun σ' H'=>OK σ σ'/\tc σ' H' fun b H4=>if b=true then te σ' H4 N else M H4)
def tCW (wi:TI)(CW:It->St->Addr->VK->Hp->Prop):TE:=fun σ H Q=>wi σ H fun J H1=>∀ D,H1 D=none->CW J σ D Q H1
def CompW (J:It)(te:TE)(σ:St)(D:Addr)(Q:VK)(H1:Hp):Prop :=
 ∃ W:Nat->Nat->List V->Hp->Prop,(∃ m,W 0 m [] (upd H1 D (.lst [])))/\∀ i m ys H2,W i m ys H2 ->
  (J.stop i H2/\Q (.ref D) H2)\/(J.go i H2/\∃ N:VK,(∀ y H4,N y H4->H4 D=some (.lst ys)/\ys.length < sizeLine/\∃ m',m' < m/\W (i+1) m' (ys++[y]) (upd H4 D (.lst (ys++[y]))))/\∀ v H3,J.yld i H2 v H3->te (σ++[some v]) H3 N)
def ZjD (wi:TI)(te:TE):TE:=fun σ H Q=>wi σ H fun J H1=>∀ D,H1 D=none->CompW J te σ D Q H1
section
variable {X:Cx}{elt iter tg:Expr}{cs:List Expr}{xs:List Str}{pos:Pos}{scope:Scope}{wi:TI}{te:TE}{tc:TT}{g:TG}{OK:St->St->Prop}{CW:It->St->Addr->VK->Hp->Prop}
theorem US {prog:Program}{w:World}{A:Around}{R:Result->Shared->Prop}{s:Shared}{elt target iter:Expr}{cs:List Expr}{scope:Scope}{pos:Pos}{it acc:Value}{env:Env}(I:Nat->Shared->Prop)
   (turn : ∀ n s,I n s->wpAny (model prog w) A (pyNext it) (fun r s₁=>match r with
     | none=>R (.ok .next) s₁
     | some v=>wpAny (model prog w) A (letOwnedTupleGo target it v) (fun _ s1'=>wpAny (model prog w) A (assign target env v) (fun _ s₂=>wpAny (model prog w) A (forIn cs true fun c r=>if r=true then do let ok <- isTrue c env (eval c env);pure (ForInStep.yield ok) else pure (ForInStep.yield r)) (fun ok s2'=>if ok=true then wpAny (model prog w) A (eval elt env) (fun x s₃ =>
         wpAny (model prog w) A (call (.builtin "list.append") [acc,x]) (fun _ s₄=>∃ m,m < n/\I m s₄) (fun _ _=>False) s₃)
         (fun _ _=>False) s2' else ∃ m,m < n/\I m s2') (fun _ _=>False) s₂) (fun _ _=>False) s1') (fun _ _=>False) s₁) (fun _ _=>False) s)
   (n:Nat) (h:I n s) :
   codeAny (model prog w) A (.compLoop (.ListComp elt [⟨target,iter,cs,0⟩] scope pos) 0 it acc env) R s:=by
 refine codeAny_loop rfl I (fun n s hI=>?_) n h
 show wpAny _ _ ((compTurn (.ListComp elt [⟨target,iter,cs,0⟩] scope pos) 0 it acc env).onRaise (fun x=>do noteFrame x env;theTreesLotGoes x)) _ _ s
 refine wpAny_noted ?_
 rw [compTurn_list]
 refine wpAny_bind (wpAny_standAt (wpAny_bind (wpAny_mono (turn n s hI) (fun r s₁ h₁=>?_) fun _ _ h'=>h'.elim)))
 cases r with
 | none=>exact wpAny_pure h₁
 | some v =>
   refine wpAny_bind (wpAny_mono h₁ (fun _ s1' h1'=>?_) fun _ _ h'=>h'.elim)
   refine wpAny_bind (wpAny_mono h1' (fun _ s₂ h₂=>wpAny_bind (wpAny_mono h₂ (fun ok s₃ h₃=>?_) fun _ _ h'=>h'.elim)) fun _ _ h'=>h'.elim)
   cases ok with
   | false=>exact wpAny_pure ⟨rfl,h₃⟩
   | true =>
     exact wpAny_bind (wpAny_bind (wpAny_mono h₃ (fun x s₄ h₄=>wpAny_bind (wpAny_mono h₄ (fun _ s₅ h₅=>wpAny_pure (wpAny_pure ⟨rfl,h₅⟩)) fun _ _ h'=>h'.elim)) fun _ _ h'=>h'.elim))
theorem PCs.go {X:Cx}{cs:List Expr}{tc:TT}(h:PCs X cs tc)(pins:List (Addr×Obj))(s:Shared)(σ:St)(H:Hp)(Q:Bool->Hp->Prop)(I:Inv X pins σ H s)(q:tc σ H Q) :
 wpAny (model X.prog X.w) X.A (forIn cs true fun c r=>if r=true then do let ok <- isTrue c X.env (eval c X.env);pure (ForInStep.yield ok) else pure (ForInStep.yield r)) (fun b s'=>∃ H',Inv X pins σ H' s'/\Q b H') X.xe s:=by
 rcases h with ⟨rfl,rfl⟩ | ⟨c,rfl,h⟩
 ·exact wpAny_tests_nil ⟨H,I,q⟩
 ·exact wpAny_tests_one (h pins s σ H Q I q)
theorem VR {pins:List (Addr×Obj)}{σ:St}{H2:Hp}{s₂:Shared}{J:It}{fp:List Addr}{it:Addr}{tn:Nat->Heap->Prop}{cl:List (Str×Addr)}{E:Value->Shared->Prop}{Q:VK}{RR:Value->Addr->Result->Shared->Prop}
 (O:CompOkN X scope xs) (hc:X.calm=true) (cl1:∀ y c,cl.lookup y=some c->X.env.cells.lookup y=some c) (cl2:∀ y∈scope.names,y.2=.free->cl.lookup y.1≠none)
 (hOK:∀ σ σ',OK σ σ'->∃ ws:St,ws.length=xs.length/\σ'=σ++ws) (hg:∀ cl C s₀ H₀ fp,PG (ZX X scope xs cl C s₀ H₀ fp) tg g) (hcn:∀ cl C s₀ H₀ fp,PCs (ZX X scope xs cl C s₀ H₀ fp) cs tc) (he:∀ cl C s₀ H₀ fp,PE (ZX X scope xs cl C s₀ H₀ fp) elt te)
 (I2:Inv X pins σ H2 s₂) (T:Zae X.prog X.w X.K tg J fp it tn) (st:tn 0 s₂.heap) (f2:∀ b∈fp,XZ X pins H2 b)
 (h:∀ D,H2 D=none->Zay J g tc te xs.length OK σ D Q H2)
 (hRR:∀ D C H' s',Inv X pins σ H' s'->XZ X pins H' C->(∃ m,s'.heap.Ns C m)->Q (.ref D) H'->RR (.ref D) C (.ok .next) s') :
 wpAny (model X.prog X.w) X.A (newList []) (fun acc s₃=>wpAny (model X.prog X.w) X.A (newFunctionEnv scope X.env.globals cl [] X.env.qual none .none (some X.env)) (fun cenv s₄ =>
  codeAny (model X.prog X.w) X.A (.compStart (.ListComp elt [⟨tg,iter,cs,0⟩] scope pos) 0 (.ref it) acc { cenv with scope:=relabel scope X.env }) (RR acc cenv.locals) s₄) E s₃) E s₂:=by
 have hD:H2 s₂.heap.objs.size=none:=I2.hok.fresh (Nat.le_refl _)
 refine wpAny_newObj_type ?_
 have I3:Inv X pins σ (upd H2 s₂.heap.objs.size (.lst [])) { s₂ with heap:=s₂.heap.push { cls:=.type "list",data:=.seq ([]:List Value).toArray } } :=
  I2.laid (t':=s₂.toks) (fun b u e=>Heap.get?_push_of_some _ e) (Nat.le_refl _) ⟨Nat.zero_le _,[],_,.nil,Heap.get?_push_size _ rfl⟩
 have f3:∀ b∈fp,XZ X pins (upd H2 s₂.heap.objs.size (.lst [])) b:=fun b hb=>by
  obtain ⟨g0,g1⟩:=f2 b hb
  obtain ⟨o,e,_⟩:=T.obj 0 _ st b hb
  exact ⟨by rw [Zi (Nat.ne_of_lt (Heap.lt_size e))];exact g0,g1⟩
 have st3:tn 0 (s₂.heap.push { cls:=.type "list",data:=.seq ([]:List Value).toArray }):=T.keep _ _ _ st fun b hb o e=>Heap.get?_push_of_some _ e
 obtain ⟨W,⟨m0,w0⟩,turn⟩:=h _ hD
 generalize hDe:s₂.heap.objs.size=D at I3 f3 w0 turn ⊢
 generalize hH3:upd H2 D (.lst [])=H3 at I3 f3 w0 turn ⊢
 generalize hs3:({ s₂ with heap:=s₂.heap.push { cls:=.type "list",data:=.seq ([]:List Value).toArray } }:Shared)=s₃ at I3
 have st3':tn 0 s₃.heap:=by rw [<- hs3];exact st3
 have hobj:∀ b∈fp,b < s₃.heap.objs.size:=fun b hb=>by
  obtain ⟨o,e,_⟩:=T.obj 0 _ st3' b hb
  exact Heap.lt_size e
 refine wpAny_newFunctionEnv O.cell (by intro y hy;simp at hy) (fun h₁ hns₁ hsb₁=>?_) O.kind
 have old:∀ b o,s₃.heap.get? b=some o->h₁.get? b=some o:=fun b o e=>hsb₁.extBut b o (Nat.ne_of_lt (Heap.lt_size e)) (Heap.get?_push_of_some _ e)
 generalize hs4:({ s₃ with heap:=h₁,toks:=s₃.toks+([]:List (Str×Value)).length }:Shared)=s₄
 have h4:s₄.heap=h₁:=by rw [<- hs4]
 have hX:∀ C,XZ X pins C s₃.heap.objs.size->True:=fun _ _=>trivial
 have ok':(ZX X scope xs cl s₃.heap.objs.size s₃ H3 fp).Ok:=by
  refine ⟨I3.ok.mod,O.kind,I3.ok.glob,I3.ok.blt,Nat.le_refl _,?_,?_,?_,I3.ok.hd,I3.ok.frames,.inl rfl,?_,I3.bs,Nat.le_trans I3.ok.bsz I3.sz,?_,?_,I3.stack,I3.stkFree⟩
  ·exact fun y z c e1 e2=>I3.ok.inj y z c (cl1 y c e1) (cl1 z c e2)
  ·intro y hk
   have hf:scope.names.lookup y=some .free:=by
    rcases hk with hk | hk
    ·rcases Yz O.cell hk with q | q
     ·exact absurd rfl (O.cell _ (mem_of_lookup q))
     ·exact q.1
    ·rcases Yz O.cell hk with q | q
     ·exact q
     ·cases q.2
   have:=cl2 _ (mem_of_lookup hf) rfl
   cases e:cl.lookup y with
   | none=>exact absurd e this
   | some c=>exact ⟨c,e⟩
  ·intro y c hf;cases hf
  ·intro b hb
   obtain ⟨g0,g1,g2,g3,g4,g5⟩:=f3 b hb
   exact ⟨Nat.ne_of_lt (hobj b hb),fun y c e=>g4 y c (cl1 y c e)⟩
  ·intro b o e hb
   obtain ⟨g0,g1,g2,g3,g4,g5⟩:=f3 b hb
   rcases g3 with g3 | g3
   ·exact I3.ok.noex b o e g3
   ·exact absurd (Heap.lt_size e) (Nat.not_lt.mpr (Nat.le_trans I3.ok.bsz g3))
  ·intro b hb hs
   obtain ⟨g0,g1,g2,g3,g4,g5⟩:=f3 b hb
   rcases mem_cons.mp (I3.stkSub b hs) with e | e
   ·exact g1 e
   ·exact g2 e
 have I4 : Inv (ZX X scope xs cl s₃.heap.objs.size s₃ H3 fp) [] (σ++List.replicate xs.length none) H3 s₄:=by
  obtain ⟨m,hm,hl⟩:=I3.loc
  refine ⟨ok',by rw [<- hs4];rfl,by rw [<- hs4];exact I3.bare,by rw [h4];exact Un.kept old,⟨_,by rw [h4];exact hns₁,?_⟩,?_,I3.hok.fresh (Nat.le_refl _),fun y c e=>I3.freeC y c (cl1 y c e),?_,by rw [h4];exact I3.hok.kept old,?_⟩
  ·intro i y v e1 e2 e3
   have hlt:i < σ.length:=by
    rcases Nat.lt_or_ge i σ.length with z | z
    ·exact z
    ·rw [getElem?_append_right z] at e2
     have:=List.eq_of_mem_replicate (mem_of_getElem? e2)
     cases this
   rw [getElem?_append_left hlt] at e2
   have hsm:∃ k,scope.names.lookup y=some k:=by
    rcases e3 with hk | hk | hk
    ·rcases Yz O.cell hk with q | q
     ·exact ⟨_,q⟩
     ·exact ⟨_,q.1⟩
    ·rcases Yz O.cell hk with q | q
     ·exact ⟨_,q⟩
     ·exact ⟨_,q.1⟩
    ·rcases Yz O.cell hk with q | q
     ·exact ⟨_,q⟩
     ·exact ⟨_,q.1⟩
   obtain ⟨e1',hyx⟩:X.N[i]?=some y/\y ∉ xs:=by
    have e1:(UX X.N xs++xs)[i]?=some y:=e1
    rw [getElem?_append_left (by rw [Zam,<- I3.len];exact hlt)] at e1
    rcases ZhW e1 with z | z
    ·exact z
    ·obtain ⟨k,hk⟩:=hsm
     rcases z with z | z
     ·rw [z,O.noh.1] at hk;cases hk
     ·rw [z,O.noh.2] at hk;cases hk
   have hy:y∈X.N:=mem_of_getElem? e1'
   have hf:scope.names.lookup y=some .free:=by
    rcases e3 with hk | hk | hk
    ·rcases Yz O.cell hk with q | q
     ·exact absurd q (O.own y hy hyx)
     ·exact q.1
    ·rcases Yz O.cell hk with q | q
     ·exact absurd rfl (O.cell _ (mem_of_lookup q))
     ·exact q.1
    ·rcases Yz O.cell hk with q | q
     ·exact q
     ·exact q.1
   have hk:=O.clos _ (mem_of_lookup hf) rfl
   have hv:Vis X.env.scope y:=by rcases hk with z | z;exact .inr (.inl z);exact .inr (.inr z)
   obtain ⟨u,ru,lu⟩:=hl i y v e1' e2 hv
   refine ⟨u,ru,?_⟩
   have hkc:(compEnvC scope cl s₃.heap.objs.size X.env).kindOf y=some .cell\/(compEnvC scope cl s₃.heap.objs.size X.env).kindOf y=some .free:=by
    rcases e3 with q | q | q
    ·rcases Yz O.cell q with z | z
     ·exact absurd z (O.own y hy hyx)
     ·cases z.2
    ·exact .inl q
    ·exact .inr q
   rcases lu with ⟨q,_⟩ | ⟨_,c,hcl,hcc⟩
   ·rcases hk with z | z<;>(rw [q] at z;cases z)
   ·refine .inr ⟨hkc,?_⟩
    cases e:cl.lookup y with
    | none=>exact absurd e (cl2 _ (mem_of_lookup hf) rfl)
    | some c' =>
     have:=cl1 y c' e
     rw [hcl] at this
     cases this
     refine ⟨c,e,?_⟩
     rw [h4]
     obtain ⟨oc,ho,hd⟩:=hcc
     exact ⟨oc,old _ _ ho,hd⟩
  ·intro y c e
   obtain ⟨v,oc,ho,hd⟩:=I3.cell y c (cl1 y c e)
   exact ⟨v,oc,by rw [h4];exact old _ _ ho,hd⟩
  ·intro p hp;cases hp
  ·show (σ++List.replicate xs.length none).length=(UX X.N xs++xs).length
   rw [length_append,length_append,Zam,I3.len,List.length_replicate]
 have st4:tn 0 s₄.heap:=by rw [h4];exact T.keep _ _ _ st3' fun b hb o e=>old b o e
 have fpok:∀ {H':Hp},(∀ b∈fp,H' b=none)->∀ b∈fp,XZ (ZX X scope xs cl s₃.heap.objs.size s₃ H3 fp) [] H' b:=fun hn b hb=>by
  obtain ⟨g0,g1,g2,g3,g4,g5⟩:=f3 b hb
  refine ⟨hn b hb,Nat.ne_of_lt (hobj b hb),ok'.exfs b hb,.inl hb,fun y c e=>g4 y c (cl1 y c e),?_⟩
  intro p hp;cases hp
 have loop:codeAny (model X.prog X.w) X.A (.compLoop (.ListComp elt [⟨tg,iter,cs,0⟩] scope pos) 0 (.ref it) (.ref D) (compEnvC scope cl s₃.heap.objs.size X.env)) (RR (.ref D) s₃.heap.objs.size) s₄:=by
  refine US (fun n s'=>∃ i ys ws H',ws.length=xs.length/\Inv (ZX X scope xs cl s₃.heap.objs.size s₃ H3 fp) [] (σ++ws) H' s'/\tn i s'.heap/\(∀ b∈fp,H' b=none)/\W i n ys H') ?_ m0 ⟨0,[],_,H3,List.length_replicate,I4,st4,fun b hb=>(f3 b hb).1,w0⟩
  rintro n s5 ⟨i,ys,ws,H5,hws,I5,st5,fr5,w5⟩
  rcases turn i n ys H5 w5 with ⟨stop,q⟩ | ⟨go,N,M,hN,hM,step⟩
  ·refine Zt (T.done (ZX X scope xs cl s₃.heap.objs.size s₃ H3 fp) rfl rfl rfl hc i [] s5 _ H5 _ I5 (fpok fr5) st5 stop) fun r s6 ⟨hr,I6⟩=>?_
   subst hr
   obtain ⟨m6,hn6,_⟩:=I6.loc
   have IX:Inv X pins σ H5 s6:=I3.call' (ch:=fp) I6.os I6.base I6.hok I6.bare fun b hb=>by
    obtain ⟨g0,g1,g2,g3,g4,g5⟩:=f3 b hb
    exact ⟨g3,g1,g4,g5⟩
   exact hRR D _ H5 s6 IX (I3.fpOk (Nat.le_refl _) I6.free) ⟨m6,hn6⟩ q
  ·refine Zt (T.item (ZX X scope xs cl s₃.heap.objs.size s₃ H3 fp) rfl rfl rfl hc i [] s5 _ H5 _ I5 (fpok fr5) st5 go) fun r s6 ⟨u,hr,h6⟩=>?_
   subst hr
   refine Zt h6 fun _ s7 ⟨v,H7,I7,r7,y7,st7,fr7⟩=>?_
   have I7':=I7.pinned (fpok fr7) (T.obj _ _ st7)
   refine Zt (hg cl s₃.heap.objs.size s₃ H3 fp _ s7 _ H7 v u _ I7' r7 (step ws v H7 hws y7)) fun _ s8 ⟨σ8,H8,I8,o8,q8⟩=>?_
   obtain ⟨ws',hws',e8⟩:=hOK σ σ8 o8
   subst e8
   refine Zt (PCs.go (hcn cl s₃.heap.objs.size s₃ H3 fp) _ s8 _ H8 _ I8 q8) fun bb s8b ⟨H8b,I8b,q8b⟩=>?_
   cases bb with
   | false =>
    obtain ⟨m',hm',w9⟩:=hM H8b q8b
    refine ⟨m',hm',i+1,ys,ws',_,hws',I8b.unpinned (pins:=[]),T.keep _ _ _ st7 fun b hb o e=>(I8b.pin (b,o) (mem_append_right _ (mem_append_right _ (Xx hb e)))).1,fun b hb=>?_,w9⟩
    obtain ⟨o,e,d⟩:=T.obj _ _ st7 b hb
    exact (I8b.pin (b,o) (mem_append_right _ (mem_append_right _ (Xx hb e)))).2.1
   | true =>
    refine Zt (he cl s₃.heap.objs.size s₃ H3 fp _ s8b _ H8b _ I8b q8b) fun uy s9 ⟨y,H9,I9,r9,n9⟩=>?_
    obtain ⟨hl9,hz9,m',hm',w9⟩:=hN y H9 n9
    refine Zt (Xs (X:=ZX X scope xs cl s₃.heap.objs.size s₃ H3 fp) _ s9 _ H9 (.ref D) [y] (.ref D) [uy] (fun v H'=>H'=upd H9 D (.lst (ys++[y]))) I9 rfl (.cons r9 .nil) ⟨D,ys,y,rfl,rfl,hl9,hz9,rfl⟩) fun _ s10 ⟨_,H10,I10,_,e10⟩=>?_
    subst e10
    refine ⟨m',hm',i+1,ys++[y],ws',_,hws',I10.unpinned (pins:=[]),T.keep _ _ _ st7 fun b hb o e=>(I10.pin (b,o) (mem_append_right _ (mem_append_right _ (Xx hb e)))).1,fun b hb=>?_,w9⟩
    obtain ⟨o,e,d⟩:=T.obj _ _ st7 b hb
    exact (I10.pin (b,o) (mem_append_right _ (mem_append_right _ (Xx hb e)))).2.1
 exact codeAny_compStart_list loop (T.self _ 0 _ _ _ st4 loop)
theorem Zdv (O:CompOkN X scope xs)(hc:X.calm=true)(hi:PI X tg iter wi)(conv:∀ J σ D Q H,σ.length=X.N.length->CW J σ D Q H->Zay J g tc te xs.length OK σ D Q H)(hOK:∀ σ σ',OK σ σ'->∃ ws:St,ws.length=xs.length/\σ'=σ++ws)(hg:∀ cl C s₀ H₀ fp,PG (ZX X scope xs cl C s₀ H₀ fp) tg g)(hcn:∀ cl C s₀ H₀ fp,PCs (ZX X scope xs cl C s₀ H₀ fp) cs tc)(he:∀ cl C s₀ H₀ fp,PE (ZX X scope xs cl C s₀ H₀ fp) elt te)
 (hs:∀ v,foldedSetIterable iter X.env v=pure v:=by intro _;rfl):PE X (.ListComp elt [⟨tg,iter,cs,0⟩] scope pos) (tCW wi CW):=by
 intro pins s σ H Q I h
 obtain ⟨cl,hcl,cl1,cl2⟩:=ZaF (scope:=scope) (env:=X.env) fun y hy hf=>I.ok.has _ (O.clos y hy hf)
 rw [eval_ListComp]
 refine wpAny_comprehension_free (use:=none) rfl hs hcl O.kind O.names (Zt (hi pins s σ H _ I h) fun v s1 h1=>Zt h1 fun itv s2 h2=>?_)
 obtain ⟨it,fp,tn,J,H2,e,I2,T,st2,f2,q⟩:=h2
 subst e
 refine VR (RR:=fun acc C=>compPost (model X.prog X.w) X.A X.xe none (EP X pins σ Q) acc C) O hc cl1 cl2 hOK hg hcn he I2 T st2 f2 (fun z hz=>conv _ _ z _ _ I2.len (q z hz)) ?_
 intro D C H' s' I' ⟨g0,g1,g2,g3,g4,g5⟩ ⟨m,hm⟩ hq
 exact ⟨m,hm,fun h' hs'=>⟨.ref D,H',I'.turned (t':=s'.toks) (fun b o hb e=>(hs'.2 b hb).trans e) g0 g1 g3 g4 g5,rfl,hq⟩⟩
theorem VX {i:Nat}{y:Str}{py spos:Pos}(O:CompOkN X scope xs)(hc:X.calm=true)(hN:X.N.Nodup)(hiN:X.N[i]?=some y)(hy:Loc X.env.scope y)(hi:PI X tg iter wi)(conv:∀ J σ D Q H,σ.length=X.N.length->CW J σ D Q H->Zay J g tc te xs.length OK σ D Q H)(hOK:∀ σ σ',OK σ σ'->∃ ws:St,ws.length=xs.length/\σ'=σ++ws)(hg:∀ cl C s₀ H₀ fp,PG (ZX X scope xs cl C s₀ H₀ fp) tg g)(hcn:∀ cl C s₀ H₀ fp,PCs (ZX X scope xs cl C s₀ H₀ fp) cs tc)(he:∀ cl C s₀ H₀ fp,PE (ZX X scope xs cl C s₀ H₀ fp) elt te)
 (hsw:swapsWith (.ListComp elt [⟨tg,iter,cs,0⟩] scope pos) (some (.Name y py)) spos.line X.env=pure true) (hf:X.fn y=true\/X.env.scope.names.lookup y=some .local:=by first | exact .inl rfl | exact .inr rfl | assumption)
 (hs:∀ v,foldedSetIterable iter X.env v=pure v:=by intro _;rfl):PS X (.Assign [.Name y py] (.ListComp elt [⟨tg,iter,cs,0⟩] scope pos) spos) (ZbS (tCW wi CW) (WB i)):=by
 intro pins s σ H D I h
 obtain ⟨cl,hcl,cl1,cl2⟩:=ZaF (scope:=scope) (env:=X.env) fun y hy hf=>I.ok.has _ (O.clos y hy hf)
 rw [exec_Assign_Name_used _ _ _ _ hsw]
 refine wpAny_bind (wpAny_standAt (wpAny_bind ?_))
 show wpAny _ X.A (do let _ <- comprehension (.ListComp elt [⟨tg,iter,cs,0⟩] scope pos) scope X.env _ (newList []) false (eval iter X.env) (some (assign (.Name y py) X.env))) _ _ s
 refine wpAny_bind (wpAny_mono (wpAny_comprehension_free (use:=some (assign (.Name y py) X.env)) (Q:=fun _ s'=>SP X pins D .next s') rfl hs hcl O.kind O.names
  (Zt (hi pins s σ H _ I h) fun v s1 h1=>Zt h1 fun itv s2 h2=>?_)) (fun _ s' hq=>wpAny_pure (wpAny_pure hq)) fun _ _ e=>e)
 obtain ⟨it,fp,tn,J,H2,e,I2,T,st2,f2,q⟩:=h2
 subst e
 refine VR (RR:=fun acc C=>compPost (model X.prog X.w) X.A X.xe (some (assign (.Name y py) X.env)) (fun _ s'=>SP X pins D .next s') acc C) O hc cl1 cl2 hOK hg hcn he I2 T st2 f2 (fun z hz=>conv _ _ z _ _ I2.len (q z hz)) ?_
 intro Dl C H' s' I' ⟨g0,g1,g2,g3,g4,g5⟩ ⟨m,hm⟩ hq
 show wpAny _ X.A (assign (.Name y py) X.env (.ref Dl)) _ _ _
 refine wpAny_assign_Name (Zcx I' hN hiN hy (v:=.ref Dl) rfl (fun s'' I'' ⟨a,sb,ha⟩=>?_) hf)
 have haC:C≠a:=by
  rcases ha with z | z
  ·rw [z];exact g1
  ·exact fun z'=>g4 y a z z'.symm
 exact ⟨m,hm.sameBut sb haC,fun h' hs'=>⟨_,H',I''.turned (t':=s''.toks) (fun b o hb e=>(hs'.2 b hb).trans e) g0 g1 g3 g4 g5,hq⟩⟩
end
theorem ok1:∀ σ σ':St,(∃ w,σ'=σ++[w])->∃ ws:St,ws.length=[x].length/\σ'=σ++ws:=fun _ _ ⟨w,e⟩=>⟨[w],rfl,e⟩
theorem set1 {σ:St}{w v:Option V}{n:Nat}(h:σ.length=n):(σ++[w]).set n v=σ++[v]:=by subst h;simp
theorem CompW.n {J:It}{te:TE}{σ:St}{D:Addr}{Q:VK}{H:Hp}{n:Nat}(hn:σ.length=n)(h:CompW J te σ D Q H):Zay J (WB n) tYes te 1 (fun σ σ'=>∃ w,σ'=σ++[w]) σ D Q H:=by
 obtain ⟨W,w0,t⟩:=h
 refine ⟨W,w0,fun i m ys H2 w2=>(t i m ys H2 w2).imp (fun z=>z) fun ⟨go,N,hN,hy⟩=>⟨go,N,fun _=>False,hN,fun _ z=>z.elim,fun ws v H3 hl y=>?_⟩⟩
 match ws,hl with
 | [w],_ =>
  show (∃ w',(σ++[w]).set n (some v)=σ++[w'])/\te ((σ++[w]).set n (some v)) H3 N
  rw [set1 hn]
  exact ⟨⟨_,rfl⟩,hy v H3 y⟩
section
variable {X:Cx}{elt iter:Expr}{x:Str}{px pos:Pos}{scope:Scope}{wi:TI}{te:TE}
theorem Zbf (O:CompOk X scope x):∀ cl C s₀ H₀ fp,PG (ZX X scope [x] cl C s₀ H₀ fp) (.Name x px) (WB X.N.length):=fun cl C s₀ H₀ fp =>
 Yh (X:=ZX X scope [x] cl C s₀ H₀ fp) O.nd (show (UX X.N [x]++[x])[X.N.length]?=some x by rw [<- Zam X.N [x]];simp) (.inl (lookup_relabel_local (O.loc x (mem_cons_self ..)))) (.inr (lookup_relabel_local (O.loc x (mem_cons_self ..))))
theorem ZbJ (O:CompOk X scope x)(hc:X.calm=true)(hi:PI X (.Name x px) iter wi)(he:∀ cl C s₀ H₀ fp,PE (Uy X scope x cl C s₀ H₀ fp) elt te)
 (hs:∀ v,foldedSetIterable iter X.env v=pure v:=by intro _;rfl):PE X (.ListComp elt [⟨.Name x px,iter,[],0⟩] scope pos) (ZjD wi te) :=
 Zdv (CW:=fun J σ D Q H=>CompW J te σ D Q H) O hc hi (fun _ _ _ _ _ hl h=>h.n hl) ok1 (Zbf O) (fun _ _ _ _ _=>.inl ⟨rfl,rfl⟩) he hs
theorem ZfH {i:Nat}{y:Str}{py spos:Pos}(O:CompOk X scope x)(hc:X.calm=true)(hN:X.N.Nodup)(hiN:X.N[i]?=some y)(hy:Loc X.env.scope y)(hi:PI X (.Name x px) iter wi)(he:∀ cl C s₀ H₀ fp,PE (Uy X scope x cl C s₀ H₀ fp) elt te)
 (hsw:swapsWith (.ListComp elt [⟨.Name x px,iter,[],0⟩] scope pos) (some (.Name y py)) spos.line X.env=pure true) (hf:X.fn y=true\/X.env.scope.names.lookup y=some .local:=by first | exact .inl rfl | exact .inr rfl | assumption)
 (hs:∀ v,foldedSetIterable iter X.env v=pure v:=by intro _;rfl):PS X (.Assign [.Name y py] (.ListComp elt [⟨.Name x px,iter,[],0⟩] scope pos) spos) (ZbS (ZjD wi te) (WB i)) :=
 VX (CW:=fun J σ D Q H=>CompW J te σ D Q H) O hc hN hiN hy hi (fun _ _ _ _ _ hl h=>h.n hl) ok1 (Zbf O) (fun _ _ _ _ _=>.inl ⟨rfl,rfl⟩) he hsw hf hs
end
theorem ZaG {lo:Int}{n:Nat}{te:TE}{σ:St}{D:Addr}{Q:VK}{H:Hp}(hn:n<=sizeLine)(Pv:Nat->List V->Hp->Prop)(h0:Pv 0 [] (upd H D (.lst [])))
 (hl:∀ i ys H,Pv i ys H->ys.length=i)
 (hs:∀ i ys H,i < n->Pv i ys H->te (σ++[some (.int (lo+i))]) H fun y H4=>H4 D=some (.lst ys)/\Pv (i+1) (ys++[y]) (upd H4 D (.lst (ys++[y])))) (hd:∀ ys H,Pv n ys H->Q (.ref D) H):CompW (Itr lo n) te σ D Q H:=by
 refine ⟨fun i m ys H=>m=n - i/\i<=n/\Pv i ys H,⟨n,by simp,Nat.zero_le _,h0⟩,?_⟩
 rintro i m ys H2 ⟨rfl,hi,p⟩
 by_cases hlt:i < n
 ·have hlen:=hl i ys _ p
  refine .inr ⟨hlt,_,fun y H4 (q:H4 D=some (.lst ys)/\Pv (i+1) (ys++[y]) (upd H4 D (.lst (ys++[y]))))=>⟨q.1,by omega,n - (i+1),by omega,rfl,hlt,q.2⟩,fun v H3 y=>?_⟩
  obtain ⟨e,e'⟩:=y
  subst e e'
  exact hs i ys _ hlt p
 ·have e:i=n:=by omega
  subst e
  exact .inl ⟨Nat.le_refl _,hd ys H2 p⟩
theorem Zgk {K:PySem.W.Frag}{a:Addr}{xs:List V}{te:TE}{σ:St}{D:Addr}{Q:VK}{H:Hp}(hn:xs.length<=sizeLine)(Pv:Nat->List V->Hp->Prop)(h0:Pv 0 [] (upd H D (.lst [])))
 (hl:∀ i ys H,Pv i ys H->ys.length=i/\SqL K H a xs)
 (hs:∀ i x ys H,xs[i]?=some x->Pv i ys H->te (σ++[some x]) H fun y H4=>H4 D=some (.lst ys)/\Pv (i+1) (ys++[y]) (upd H4 D (.lst (ys++[y])))) (hd:∀ ys H,Pv xs.length ys H->Q (.ref D) H):CompW (Itl K a) te σ D Q H:=by
 refine ⟨fun i m ys H=>m=xs.length - i/\i<=xs.length/\Pv i ys H,⟨xs.length,by simp,Nat.zero_le _,h0⟩,?_⟩
 rintro i m ys H2 ⟨rfl,hi,p⟩
 obtain ⟨hlen,q⟩:=hl i ys _ p
 by_cases hlt:i < xs.length
 ·refine .inr ⟨⟨xs,xs[i],q,by simp [hlt]⟩,_,fun y H4 (q:H4 D=some (.lst ys)/\Pv (i+1) (ys++[y]) (upd H4 D (.lst (ys++[y]))))=>⟨q.1,by omega,xs.length - (i+1),by omega,rfl,hlt,q.2⟩,fun v H3 y=>?_⟩
  obtain ⟨e,y⟩:=y
  subst e
  exact hs i v ys _ (y xs q) p
 ·have e:i=xs.length:=by omega
  subst e
  exact .inl ⟨⟨xs,q,Nat.le_refl _⟩,hd ys H2 p⟩
theorem ZhL {K:PySem.W.Frag}{a:Addr}{xs:List V}{te:TE}{σ:St}{D:Addr}{Q:VK}{H:Hp}(hn:xs.length<=sizeLine)(Pv:Nat->List V->Hp->Prop)(h0:Pv 0 [] (upd H D (.lst [])))
 (hl:∀ i ys H,Pv i ys H->ys.length=i/\SqT K H a xs)
 (hs:∀ i x ys H,xs[i]?=some x->Pv i ys H->te (σ++[some x]) H fun y H4=>H4 D=some (.lst ys)/\Pv (i+1) (ys++[y]) (upd H4 D (.lst (ys++[y])))) (hd:∀ ys H,Pv xs.length ys H->Q (.ref D) H):CompW (Itt K a) te σ D Q H:=by
 refine ⟨fun i m ys H=>m=xs.length - i/\i<=xs.length/\Pv i ys H,⟨xs.length,by simp,Nat.zero_le _,h0⟩,?_⟩
 rintro i m ys H2 ⟨rfl,hi,p⟩
 obtain ⟨hlen,q⟩:=hl i ys _ p
 by_cases hlt:i < xs.length
 ·refine .inr ⟨⟨xs,xs[i],q,by simp [hlt]⟩,_,fun y H4 (q:H4 D=some (.lst ys)/\Pv (i+1) (ys++[y]) (upd H4 D (.lst (ys++[y]))))=>⟨q.1,by omega,xs.length - (i+1),by omega,rfl,hlt,q.2⟩,fun v H3 y=>?_⟩
  obtain ⟨e,y⟩:=y
  subst e
  exact hs i v ys _ (y xs q) p
 ·have e:i=xs.length:=by omega
  subst e
  exact .inl ⟨⟨xs,q,Nat.le_refl _⟩,hd ys H2 p⟩
section
variable {X:Cx}{tg:Expr}
end
section
variable {X:Cx}
theorem Zde:Ya X (.builtin "isinstance") (fun xs H Q=>∃ x c t b,xs=[x,.ty c]/\Wb X.K H x t/\PySem.W.kitOne X.K t (.type c)=some b/\Q (.bl b) H):=by
 intro pins s σ H xs us Q I r h
 obtain ⟨x,c,t,b,rfl,ty,e,q⟩:=h
 obtain ⟨u,u',rfl,ru,ru'⟩:=ZfX r
 have e':u'=Value.type c:=ru'
 subst e'
 exact Zgz I ru ty e fun tk=>⟨.bl b,H,I.tok tk,rfl,q⟩
theorem ZeZ:∀{ys:List Str}{us:List Value},Vals (ys.map V.str) us->StrsAre us ys
 | [],_,.nil=>.nil
 | y::ys,_,.cons r t=>by obtain ⟨k,rfl⟩:=r;exact .cons _ _ (ZeZ t)
theorem ZeK:MtR X "str.join" (fun x xs H Q=>∃ sep a ys,x=.str sep/\xs=[.ref a]/\SqL X.K H a (ys.map V.str)/\(ys.map (·.length)).sum+ys.length * sep.length<=16777216/\Q (.str (Txt.join sep ys)) H):=by
 intro pins s σ H x xs v us Q I rx rv h
 obtain ⟨sep,a,ys,rfl,rfl,hq,hz,q⟩:=h
 obtain ⟨t,rfl⟩:=rx
 obtain ⟨u,rfl,ru⟩:=Yk rv
 cases ru
 obtain ⟨its,r,p,_⟩:=I.list hq
 exact join_list p.isList (by simpa using ZeZ r) hz fun t' k=>⟨.str _,H,I.tok k,⟨_,rfl⟩,q⟩
end
mutual
inductive DataOf (H:Hp):V->PyData->Prop
 | non:DataOf H .non .none
 | bl (b):DataOf H (.bl b) (.bool b)
 | int (i):DataOf H (.int i) (.int i)
 | str (x):DataOf H (.str x) (.str x)
 | lst {a xs ds}:H a=some (.lst xs)->DatasOf H xs ds->DataOf H (.ref a) (.list ds)
 | tup {a xs ds}:H a=some (.tup xs)->DatasOf H xs ds->DataOf H (.ref a) (.tuple ds)
inductive DatasOf (H:Hp):List V->List PyData->Prop
 | nil:DatasOf H [] []
 | cons {v d vs ds}:DataOf H v d->DatasOf H vs ds->DatasOf H (v::vs) (d::ds)
end
section
variable {P:Program}{w:World}{H:Hp}{h:Heap}
mutual
theorem DataOf.reads (hok:HOk P w H h):∀{v d}(u:Value),DataOf H v d->RelV v u->d.hasDict=false/\∃ as,Reads h u d as
 | _,_,u,.non,r=>by cases (show u=.none from r);exact ⟨rfl,_,.none⟩
 | _,_,u,.bl b,r=>by cases (show u=.bool b from r);exact ⟨rfl,_,.bool b⟩
 | _,_,u,.int i,r=>by obtain ⟨t,e⟩:=(show ∃ t,u=.int i t from r);subst e;exact ⟨rfl,_,.int i t⟩
 | _,_,u,.str x,r=>by obtain ⟨t,e⟩:=(show ∃ t,u=.str x t from r);subst e;exact ⟨rfl,_,.str x t⟩
 | _,_,u,.lst (a:=a) (xs:=xs) e q,r=>by
  cases (show u=.ref a from r)
  obtain ⟨_,its,n,rv,g⟩:=(show ObjOk P w H h a (.lst xs) from hok a _ e)
  obtain ⟨nd,as,ra⟩:=DatasOf.reads hok its q rv
  exact ⟨by simpa [PyData.hasDict] using nd,_,.list g rfl rfl (by simpa using ra)⟩
 | _,_,u,.tup (a:=a) (xs:=xs) e q,r=>by
  cases (show u=.ref a from r)
  obtain ⟨_,its,rv,o,g,c,n,d⟩:=(show ObjOk P w H h a (.tup xs) from hok a _ e)
  obtain ⟨nd,as,ra⟩:=DatasOf.reads hok its q rv
  exact ⟨by simpa [PyData.hasDict] using nd,_,.tuple g c d (by simpa using ra)⟩
theorem DatasOf.reads (hok:HOk P w H h):∀{vs ds}(us:List Value),DatasOf H vs ds->Vals vs us->PyData.hasDictAll ds=false/\∃ as,ReadsAll h us ds as
 | _,_,_,.nil,.nil=>⟨rfl,_,.nil⟩
 | _,_,_,.cons r t,.cons rv tv=>by
  obtain ⟨n1,as,r1⟩:=DataOf.reads hok _ r rv
  obtain ⟨n2,bs,r2⟩:=DatasOf.reads hok _ t tv
  exact ⟨by simp [PyData.hasDictAll,n1,n2],_,.cons r1 r2⟩
end
end
section
variable {X:Cx}
theorem Xa (hg:X.A.guards=some [])(hu:X.A.units+64 < cLine):Ya X (.builtin "repr") (fun xs H Q=>∃ x d,xs=[x]/\DataOf H x d/\d.showable=true/\d.shown.length<=sizeLine/\d.depth<=60/\Q (.str d.shown) H):=by
 intro pins s σ H xs us Q I r h
 obtain ⟨x,d,rfl,dd,hs,hz,hd,q⟩:=h
 obtain ⟨u,rfl,ru⟩:=Yk r
 have fin:∀ (t':Tok) (k:Nat),EP X pins σ Q (.str d.shown t') { s with toks:=k }:=fun t' k=>⟨.str _,H,I.tok k,⟨_,rfl⟩,q⟩
 obtain ⟨nd,as,rd⟩:=DataOf.reads I.hok u dd ru
 cases rd with
 | none=>exact PySem.P.repr_of_none (fin _ _)
 | bool b=>exact PySem.P.repr_of_bool (fin _ _)
 | int i t=>exact PySem.P.repr_of_int (by simpa [PyData.showable] using hs) (fin _ _)
 | str x t=>exact PySem.P.repr_of_str (fin _ _) hz
 | list h1 h2 h3 h4=>exact repr_of_reads' (Reads.list h1 h2 h3 h4) hs (fun z=>by rw [nd] at z;cases z) hg (by omega) (fun _ _ e=>e) (fun h' t' k hk=>⟨.str _,H,I.kept (t':=k) hk,⟨_,rfl⟩,q⟩) hz
 | tuple h1 h2 h3 h4=>exact repr_of_reads' (Reads.tuple h1 h2 h3 h4) hs (fun z=>by rw [nd] at z;cases z) hg (by omega) (fun _ _ e=>e) (fun h' t' k hk=>⟨.str _,H,I.kept (t':=k) hk,⟨_,rfl⟩,q⟩) hz
 | dict h1 h2 h3 h4 h5=>cases nd
end
def Def (P:Program)(w:World)(K:PySem.W.Frag)(mg:Str->Option Value)(base:Heap)(k:Nat)(x:Str)(ps:List Str)(sp:Sp):Prop :=
 ∃ f fd,FnOk P w K mg base ZK k f fd ps sp/\Binds K fd ps []/\PySem.W.keepIn K (.ref f)=true/\mg x=some (.ref f)
theorem Def.mono {P:Program}{w:World}{K:PySem.W.Frag}{mg:Str->Option Value}{base:Heap}{j k:Nat}{x:Str}{ps:List Str}{sp:Sp}(D:Def P w K mg base j x ps sp)(h:j<=k):Def P w K mg base k x ps sp :=
 let ⟨f,fd,F,b,kp,m⟩:=D;⟨f,fd,F.mono h,b,kp,m⟩
section
variable {X:Cx}{k:Nat}{x:Str}{ps:List Str}{sp:Sp}{p pos:Pos}{e:Expr}{es:List Expr}{t:TA}
theorem Zu (D:Def X.prog X.w X.K X.mg X.base k x ps sp)(hr:Room k X.A)(ha:PA X (e::es) t)(hg:Gl X x:=by rfl)(hdb:(x == ("__debug__":Str))=false:=by decide)
 (he:starEach (e::es) X.env=(false,eval e X.env)::starEach es X.env:=by rfl) (hpl:(backTo pos (starEach es X.env)).any (·.1)=false:=by rfl) :
 PE X (.Call (.Name x p) (e::es) [] pos) (Zbq sp [] E0 t):=by
 obtain ⟨f,fd,F,b,kp,m⟩:=D
 exact Zkm F hr hg m kp b .nil ZcM ha hdb he hpl
end
def Kp (p:Addr)(H H':Hp):Prop:=∀ q o,q≠p->H q=some o->H' q=some o
theorem Kp.refl (p:Addr)(H:Hp):Kp p H H:=fun _ _ _ h=>h
theorem Kp.trans {p:Addr}{H H1 H2:Hp}(a:Kp p H H1)(b:Kp p H1 H2):Kp p H H2:=fun q o n h=>b q o n (a q o n h)
theorem Kp.upd (p:Addr)(H:Hp)(o:HO):Kp p H (upd H p o):=fun q u n h=>by rw [Zi n];exact h
theorem Same.kp {H H':Hp}(a:Same H H')(p:Addr):Kp p H H':=fun q o _ h=>a q o h
theorem Zl {H:Hp}{p:Addr}(h:H p=none)(o:HO):Same H (upd H p o):=fun b u q=>by rw [Zi (Zn q h)];exact q
def BoxAt (H:Hp)(p:Addr)(n:Nat):Prop:=∃ a b c:Int,H p=some (.lst [.int a,.int b,.int c])/\0<=a/\0<=c/\c<=n
theorem BoxAt.same {H H':Hp}{p:Addr}{n:Nat}(h:BoxAt H p n)(s:Same H H'):BoxAt H' p n:=let ⟨a,b,c,e,r⟩:=h;⟨a,b,c,s _ _ e,r⟩
theorem BoxAt.le {H:Hp}{p:Addr}{n m:Nat}(h:BoxAt H p n)(l:n<=m):BoxAt H p m:=let ⟨a,b,c,e,h1,h2,h3⟩:=h;⟨a,b,c,e,h1,h2,by omega⟩
inductive Ua (M:Int)(vs:List V)(H:Hp)(Q:VK)(w_3:XK):Prop
 | mk (p:Addr) (n:Nat) (m:Int):(vs=[.ref p,.int m])->(BoxAt H p n)->(n<=1000000)->(0 < m)->(m < M)->(∀ (r:Int) (H':Hp),0<=r->r < m->BoxAt H' p (n+1)->Kp p H H'->Q (.int r) H')->Ua M vs H Q w_3
inductive ZdH (K:PySem.W.Frag)(vs:List V)(H:Hp)(Q:VK)(w_3:XK):Prop
 | mk (a:Addr) (ns:List Int) (k:Int):(vs=[.ref a,.int k])->(SqL K H a (ns.map V.int))->(0<=k)->(∀ (r:Int),Q (.int r) H)->ZdH K vs H Q w_3
inductive ZfP (K:PySem.W.Frag)(vs:List V)(H:Hp)(Q:VK)(w_3:XK):Prop
 | mk (a:Addr) (ns:List Int) (k:Int):(vs=[.ref a,.int k])->(SqL K H a (ns.map V.int))->(0<=k)->(k<=1000)->(∀ (p:Addr) (H':Hp),H p=none->BoxAt H' p 0->Same H H'->Q (.ref p) H')->ZfP K vs H Q w_3
theorem Zao {n:Nat}(h:n<=1000):n<=sizeLine:=Nat.le_of_lt (Zhl h)
theorem ZaO:∀ (rest:List Str) (acc:Array Nat),(rest.foldl (fun acc p=>acc++(Str.ofString "").cps++p.cps) acc).toList=acc.toList++rest.flatMap (·.cps.toList)
 | [],acc=>by simp
 | p::r,acc=>by
  have e:(Str.ofString "").cps=#[]:=by decide +kernel
  rw [List.foldl_cons,ZaO r,List.flatMap_cons,e]
  simp
theorem WC:∀ ys:List Str,(Txt.join (Str.ofString "") ys).cps.toList=ys.flatMap (·.cps.toList)
 | []=>rfl
 | y::r=>by
  show (List.foldl (fun acc p=>acc++(Str.ofString "").cps++p.cps) y.cps r).toList=_
  rw [ZaO];rfl
theorem Xj (x:Str):x.length=x.cps.toList.length:=by simp [Str.length]
theorem ZbV (x y:Str):(x++y).cps.toList=x.cps.toList++y.cps.toList:=by
 show (x.cps++y.cps).toList=_
 simp
theorem WF (x y:Str):(x++y).length=x.length+y.length:=by rw [Xj,ZbV,length_append,<- Xj,<- Xj]
def YW (c:Nat):Bool:=decide (97<=c)&&decide (c<=122)
def sgn (c:Nat):Bool:=decide (32<=c)&&decide (c<=126)
theorem Zca {X:Cx}{K:PySem.W.Frag}(hK:X.K=K):Ya X (.builtin "len") (fun xs H Q=>∃ x n,xs=[x]/\ZhE K x H n/\Q (.int n) H):=by subst hK;exact ZhJ
theorem Zia {X:Cx}{K:PySem.W.Frag}(hK:X.K=K):IxR X (rIxL K):=by subst hK;exact ZD
@[reducible] def notStar:Expr->Bool
 | .Starred ..=>false
 | _=>true
theorem Zjz {e:Expr}{es:List Expr}{env:Env}(h:notStar e=true):starEach (e::es) env=(false,eval e env)::starEach es env:=by
 cases e<;>first | rfl | cases h
section
variable {X:Cx}{k:Nat}{x:Str}{ps:List Str}{sp:Sp}{p pos:Pos}{e:Expr}{es:List Expr}{te:TE}{t:TA}
theorem Wx (ha:PE X e te)(hr:PA X es t)(h:notStar e=true):PA X (e::es) (Xm te t):=YC ha hr (Zjz h)
theorem Zc (ha:PE X e te)(hr:PA X es t)(h:notStar e=true:=by rfl):PA X (e::es) (Xm te t):=YC ha hr (Zjz h)
end
section
variable {X:Cx}
theorem Ziv:YK X (binaryOp .FloorDiv) (rI (fun _ j=>0 < j/\j < 2 ^ 62) fun i j=>.int (i / j)):=opI fun i j _ _ _ _ _ hc q=>by
 have h1:(0:Int) < j:=hc.1
 have h2:j < 2 ^ 62:=hc.2
 refine floordiv_int (by omega) (by rw [Int.fdiv_eq_ediv_of_nonneg i (by omega)];exact q) (.inl (PyProof.noPylong_of_log2 ?_))
 have h3:j.natAbs≠0:=by omega
 have h4:j.natAbs < 2 ^ 9000:=Nat.lt_of_lt_of_le (show j.natAbs < 2 ^ 62 by omega) (Nat.pow_le_pow_right (by decide) (by decide))
 exact (Nat.log2_lt h3).mpr h4
end
section
variable {X:Cx}
theorem Vw {P:Program}{w:World}:∀{kvs:List (Zk×V)}{vs:List (Zk×Value)},KV kvs vs->∀(us:List Value),us.length=vs.length->(∀(j:Nat)(v:Value),us[j]?=some v->∃ k x,vs[j]?=some (k,x)/\(Zr P w).is k v=true)->Vals (kvs.map fun p=>kV p.1) us
 | _,_,.nil,us,hl,_=>by
  have:us=[]:=eq_nil_of_length_eq_zero (by simpa using hl)
  subst this;exact .nil
 | _,_,.cons r t,us,hl,h=>by
  cases us with
  | nil=>simp at hl
  | cons u ur =>
   obtain ⟨k,x,e,hk⟩:=h 0 u rfl
   have e':_=(k,x):=Option.some.inj e
   refine .cons ?_ (Vw t ur (by simpa using hl) fun j v hj=>h (j+1) v (by simpa using hj))
   have e2:=r.1
   rw [e'] at e2
   show RelV (kV _) u
   rw [e2]
   rw [ZaY] at hk
   rcases ZO hk with ⟨i,tt,rfl,rfl⟩ | ⟨y,tt,rfl,rfl⟩
   ·exact ⟨tt,rfl⟩
   ·exact ⟨tt,rfl⟩
theorem ZbB (hc:X.calm=true):Ya X (.type "list") (fun xs H Q=>∃ (d:Addr) (kvs:List (Zk×V)),xs=[.ref d]/\H d=some (.dK kvs)/\∀ l,H l=none->Q (.ref l) (upd H l (.lst (kvs.map fun p=>kV p.1)))):=by
 intro pins s σ H xs us Q I r h
 obtain ⟨d,kvs,rfl,e,q⟩:=h
 obtain ⟨u,rfl,ru⟩:=Yk r
 cases ru
 obtain ⟨hz,lo,vs,kv,o,es,ep,ho,r1,r2,r3,r4,r5⟩:=Wz I.hok e
 have hlen:vs.length=kvs.length:=(Paired.length kv).symm
 refine PySem.W.kdl_call (PySem.W.kdl_dict (knd:=Zr X.prog X.w) (kvs:=vs) (ep:=ep) lo) (I.ok.hd hc) ⟨o,es,ho,r1,r2,r3,r4,r5⟩ (by rw [hlen];exact hz) fun h' tk acc' c' hk hS hacc=>?_
 have rv:Vals (kvs.map fun p=>kV p.1) acc'.toList:=Vw (P:=X.prog) (w:=X.w) kv acc'.toList (by rw [Array.length_toList];exact hacc.1) fun j v hj=>hacc.2 j v (by rw [<- Array.getElem?_toList];exact hj)
 exact ⟨.ref s.heap.objs.size,_,I.laid (t':=tk) hk (Nat.le_refl _) (show ObjOk X.prog X.w _ h' _ (.lst (kvs.map fun p=>kV p.1)) from ⟨by rw [length_map];exact hz,acc'.toList,c',rv,by rw [Array.toArray_toList];exact hS⟩),rfl,q _ (I.hok.fresh (Nat.le_refl _))⟩
end
def ZcX (lo c:Int)(n:Nat):It:=⟨fun i _=>i < n,fun i H x H'=>H'=H/\x=.int (lo+i * c),fun i _=>n<=i⟩
theorem Zek {P:Program}{w:World}{K:PySem.W.Frag}{tg:Expr}(it:Addr)(lo c:Int)(n:Nat):Zae P w K tg (ZcX lo c n) [it] it (fun i h=>IsRangeIter h it (lo+(i:Nat) * c) ((n:Int) - (i:Nat)) c) where
 mem:=by simp
 obj := fun i h st b hb=>by
  have e:b=it:=by simpa using hb
  subst e
  exact ⟨_,st,fun v z=>by
   have z':Data.fields _=Data.cell v:=z
   cases z'⟩
 keep:=fun i h h' st k=>k it (by simp) _ st
 item:=by
  intro X hP hw hK hc i pins s σ H E I hf st hg
  subst hP hw hK
  obtain ⟨f0,f1,f2,f3,f4,f5⟩:=hf it (by simp)
  have W:=Walks.range (prog:=X.prog) (w:=X.w) (I.ok.hd hc) it lo c n
  refine W.item i s _ _ hg st fun v h' tk hv st' kk=>?_
  obtain ⟨t,rfl⟩:=hv
  have I1:Inv X pins σ H { s with heap:=h',toks:=tk }:=I.turned (fun b o hb e=>kk b o (by simpa using hb) e) f0 f1 f3 f4 f5
  exact ⟨_,rfl,ZcK (s:={ s with heap:=h',toks:=tk }) (n:="range_iterator") st' rfl rfl (by decide) ⟨.int (lo+i * c),H,I1,⟨t,rfl⟩,⟨rfl,rfl⟩,st',fun b hb=>(hf b hb).1⟩⟩
 done:=by
  intro X hP hw hK hc i pins s σ H E I hf st hg
  subst hP hw hK
  obtain ⟨f0,f1,f2,f3,f4,f5⟩:=hf it (by simp)
  exact wpAny_pyNext_range_end (I.ok.hd hc) st (by have:n<=i:=hg;omega) fun h' eb=>⟨rfl,I.turned (t':=s.toks) (fun b o hb e=>eb b o hb e) f0 f1 f3 f4 f5⟩
 self:=fun _ _ _ _ _ st h=>wpAny_pyIter_rangeiter st h
inductive ZeA (R:It->Hp->Prop)(vs:List V)(H1:Hp):Prop
 | mk (a b c:Int) (n:Nat):(vs=[.int a,.int b,.int c])->(c≠0)->(c.natAbs < 1073741824)->(Builtin.Range.small a b c=true)->(Builtin.Range.rangeSize a b c=n)->(R (ZcX a c n) H1)->ZeA R vs H1
def Zmu (ta:TA):TI:=fun σ H R=>ta σ H fun vs H1=>ZeA R vs H1
section
variable {X:Cx}{tg:Expr}
theorem ZgV {a b c:Expr}{ta:TA}{p pos:Pos}(hg:Gl X "range")(hm:X.mg "range"=none)(ha:PA X [a,b,c] ta)(he:starEach [a,b,c] X.env=(false,eval a X.env)::starEach [b,c] X.env:=by rfl)(hpl:(backTo pos (starEach [b,c] X.env)).any (·.1)=false:=by rfl) :
 PI X tg (.Call (.Name "range" p) [a,b,c] [] pos) (Zmu ta):=by
 intro pins s σ H R I h
 refine Call_ (Ws I hg hm boot_range (PyProof.Rows.callWith_type1 (Zt (ha pos pins s σ H _ I h) fun us s1 ⟨vs,H1,I1,r1,q1⟩=>?_) he hpl))
 obtain ⟨i,j,k,n,e,hk0,hk1,hsm,hsz,q⟩:=q1
 subst e
 cases r1 with
 | cons r rr =>
  cases rr with
  | cons r' rr =>
   cases rr with
   | cons r'' rr =>
    cases rr
    obtain ⟨t,rfl⟩:=r
    obtain ⟨t',rfl⟩:=r'
    obtain ⟨t'',rfl⟩:=r''
    refine call_range_3 hk0 (wpAny_pyIter_range (IsRange.new ..) hsm ?_) (.inl (PyProof.noPylong_small hk1))
    generalize hO:({ cls:=.type "range",data:=.fields #[.int i t,.int j t',.int k t''] }:Obj)=O
    have I2:Inv X pins σ H1 { s1 with heap:=s1.heap.push O,toks:=s1.toks }:=I1.kept fun b o e=>Heap.get?_push_of_some _ e
    refine ⟨(s1.heap.push O).objs.size,[(s1.heap.push O).objs.size],_,_,H1,rfl,I2.kept (t':=s1.toks) fun b o e=>Heap.get?_push_of_some _ e,Zek _ i k n,?_,fun b hb=>?_,q⟩
    ·have e1:i+((0:Nat):Int) * k=i:=by simp
     have e2:((n:Nat):Int) - ((0:Nat):Int)=Builtin.Range.rangeSize i j k:=by rw [hsz];simp
     show IsRangeIter _ _ (i+((0:Nat):Int) * k) (((n:Nat):Int) - ((0:Nat):Int)) k
     rw [e1,e2]
     exact Heap.get?_push_size _ rfl
    ·have e:b=(s1.heap.push O).objs.size:=by simpa using hb
     subst e
     exact I2.fpOk (Nat.le_refl _) (I2.hok.fresh (Nat.le_refl _))
end
theorem Zfr {lo c:Int}{n:Nat}{g:TG}{tb:TS}{D:Yi}{σ:St}{H:Hp}(Pv:Nat->St->Hp->Prop)(h0:Pv 0 σ H)
 (hs:∀ i σ H,i < n->Pv i σ H->g (.int (lo+i * c)) σ H fun σ2 H2=>tb { D with nx:=Pv (i+1),ct:=Pv (i+1),bk:=D.nx } σ2 H2) (hd:∀ σ H,Pv n σ H->D.nx σ H) :
 ∃ W:Nat->Nat->St->Hp->Prop,(∃ m,W 0 m σ H)/\∀ i m σ H,W i m σ H ->
  ((ZcX lo c n).stop i H/\D.nx σ H)\/((ZcX lo c n).go i H/\∃ N:St->Hp->Prop,(∀ σ' H',N σ' H'->∃ m',m' < m/\W (i+1) m' σ' H')/\∀ x H',(ZcX lo c n).yld i H x H'->g x σ H' fun σ2 H2=>tb { D with nx:=N,ct:=N,bk:=D.nx } σ2 H2):=by
 refine ⟨fun i m σ H=>m=n - i/\i<=n/\Pv i σ H,⟨n,by simp,Nat.zero_le _,h0⟩,?_⟩
 rintro i m σ H ⟨rfl,hi,p⟩
 by_cases hlt:i < n
 ·refine .inr ⟨hlt,Pv (i+1),fun σ' H' p'=>⟨n - (i+1),by omega,rfl,hlt,p'⟩,fun x H' y=>?_⟩
  obtain ⟨e,y⟩:=y
  subst e y
  exact hs i σ _ hlt p
 ·have e:i=n:=by omega
  subst e
  exact .inl ⟨Nat.le_refl _,hd σ H p⟩
theorem ZaI {prog:Program}{w:World}{A:Around}{it:Addr}{fp:List Addr}{n:Nat}{P:Nat->Value->Prop}{St:Nat->Heap->Prop}(D:Draws prog w A it fp n P St) :
 Draws prog w A it fp (n+1) (fun i v=>∃ j,i=j+1/\P j v) (fun i h=>∃ j,i=j+1/\St j h) where
 live:=fun i h ⟨j,_,st⟩=>D.live j h st
 frame:=fun i h h' ⟨j,e,st⟩ k=>⟨j,e,D.frame j h h' st k⟩
 item:=fun i s Q E hi ⟨j,e,st⟩ hQ=>by
  subst e
  exact D.item j s Q E (by omega) st fun x h' tk p st' sb=>hQ x h' tk ⟨j,rfl,p⟩ ⟨j+1,rfl,st'⟩ sb
 done:=fun s Q E ⟨j,e,st⟩ hE=>by
  have:n=j:=by omega
  subst this
  exact D.done s Q E st hE
section
variable {prog:Program}{w:World}{A:Around}{E:Value->Shared->Prop}{s:Shared}
theorem Zap (x:Str)(t t1:Tok) :
 Meets (Builtin.«enumerate.__new__» ⟨[.type "enumerate",.str x t],[("start",.int 1 t1)]⟩) (fun _ R s =>
  R (.ok (.ret (.ref (s.heap.push { cls:=.type (strIterType x),data:=.fields #[.str x t,.int 0 0] }).objs.size)))
   {s with heap:=(s.heap.push { cls:=.type (strIterType x),data:=.fields #[.str x t,.int 0 0] }).push { cls:=.type "enumerate",data:=.fields #[.none,.bool false,.ref s.heap.objs.size,rawInt 1,.none,.none] } }) :=
 .of_wp fun prog w A R s h=>by
  obtain ⟨hp,g,d,tk,os⟩:=s
  have sub1:=sub_enumerate
  wp_walk
  refine wpAny_stack_any fun st=>wpAny_pure ?_
  split
  ·rename_i c _ _ _ _ _
   cases (c == Value.type "enumerate")<;>(wp_walk using wpAny_pyIter_strU;exact ⟨_,rfl,h⟩)
  ·wp_walk using wpAny_pyIter_strU
   exact ⟨_,rfl,h⟩
end
section
variable {prog:Program}{w:World}{A:Around}{E:Value->Shared->Prop}{s:Shared}
theorem ZbI {T newId:String}{self a:Value}{kw:List (Str×Value)}(hl:typeLookup (.type T) "__init__"=pure (some (.builtin "object.__init__")))
 (hm:Bind.madeBy (.type T)=pure (some newId)) (hne:(some newId != some "object.__new__")=true) :
 Meets (Builtin.«object.__init__» ⟨[self,a],kw⟩) (fun _ R s=>s.TypeIs self T/\R (.ok (.ret .none)) s):=by
 refine Meets.of_wp fun prog w A R s hs=>?_
 obtain ⟨hT,hq⟩:=hs
 repeat (any_goals first | assumption | wp_step)
 exact ⟨_,rfl,hq⟩
theorem Zdh {T newId initId:String}{Bn Bi:Builtin}{args:List Value}{kw:List (Str×Value)}{S:PySem.Spec}{Q Q₁:Value->Shared->Prop}(ft:TypeCalled T newId initId)
 (hct:checkTypeCall T ⟨args,kw⟩=pure ()) (hcn:checkBuiltinCall newId ⟨.type T::args,kw⟩=pure ())
 (entryN:entryFor table newId=some Bn) (entryI:entryFor table initId=some Bi) (g:Meets (Bn ⟨.type T::args,kw⟩) S) (h:S A.in1 (wants Q₁ E) s)
 (hnext:∀ obj s₁,Q₁ obj s₁->s₁.TypeIs obj T/\argsOk initId ⟨obj::args,kw⟩/\∃ Si,Meets (Bi ⟨obj::args,kw⟩) Si/\Si A.in1 (wants (fun r s₂=>r=.none/\Q obj s₂) E) s₁) :
 wpAny (model prog w) A (call (.type T) args kw) Q E s:=by
 obtain ⟨c,tl,hmro⟩:=ft.mro
 have q1:=ft.made
 have q2:=ft.sub
 refine wpAny_call (codeAny_of_tree (show wpAny _ _ (callAny (.type T) _) _ _ _ from wpAny_pure ⟨Code.quiet_builtin _ (by decide +kernel),codeAny_builtin F.entry_type_call ?_⟩))
 rw [Around.under_plain (weight_type_call_type T args kw) (units_type_call_type T args kw)]
 have q3:=ft.notType
 have q4:=ft.canCreate
 repeat (any_goals first | assumption | wp_step)
 refine codeAny_mono (codeAny_call_builtin ft.plain entryN (wpAny_of_eq hcn (g prog w A.in1 _ s h))) fun r s₁ hr=>?_
 rcases r with e | fl
 ·exact hr
 ·cases fl with
  | ret obj =>
   obtain ⟨hT,hok,Si,gi,hsi⟩:=hnext _ _ hr
   have q5:=ft.init.lookup
   have q6:=ft.init.bind obj
   repeat (any_goals first | assumption | wp_step)
   refine codeAny_mono (codeAny_call_builtin ft.init.plain entryI (ft.init.check _ _ _ _ _ _ _ _ hT hok (gi prog w A.in1 _ s₁ hsi))) fun r₂ s₂ hr₂=>?_
   rcases r₂ with e | fl₂
   ·exact hr₂
   ·cases fl₂ with
    | ret r =>
     obtain ⟨rfl,hq⟩:=hr₂
     repeat (any_goals first | assumption | wp_step)
    | _=>exact hr₂.elim
  | _=>exact hr.elim
theorem Vm (a b:Value):checkTypeCall "enumerate" ⟨[a],[("start",b)]⟩=pure ():=by kernel_rfl
theorem Vz (a b:Value):checkBuiltinCall "enumerate.__new__" ⟨[.type "enumerate",a],[("start",b)]⟩=pure ():=by kernel_rfl
theorem ZaQ (o a b:Value):argsOk "object.__init__" ⟨[o,a],[("start",b)]⟩:=by
 unfold argsOk
 rw [signature?_of (id:="object.__init__") (n:=['_','_','t','i','n','i','_','_']) (o:=['t','c','e','j','b','o']) (by kernel_rfl) F.owner_object]
 kernel_rfl
theorem ZaC {x:Str}{t t1:Tok}{Q:Value->Shared->Prop}
 (h:∀ h',IsEnum h' (s.heap.objs.size+1) s.heap.objs.size 1 .none->h'.IsStrIter s.heap.objs.size (strIterType x) x t 0->h'.objs.size=s.heap.objs.size+2 ->
  (∀ b o,s.heap.get? b=some o->h'.get? b=some o)->Q (.ref (s.heap.objs.size+1)) { s with heap:=h' }) :
 wpAny (model prog w) A (call (.type "enumerate") [.str x t] [("start",.int 1 t1)]) Q E s:=by
 have ft:=F.called_enumerate
 refine Zdh (Q₁:=fun obj s₁=>s₁.TypeIs obj "enumerate"/\Q obj s₁) ft (Vm _ _) (Vz _ _) F.entry_enumerate_new F.entry_object_init (Zap x t t1) ?_
  (fun obj s₁ hq=>⟨hq.1,ZaQ obj _ _,_,ZbI ft.init.lookup ft.made (by decide),hq.1,rfl,hq.2⟩)
 generalize hO:({ cls:=.type (strIterType x),data:=.fields #[.str x t,.int 0 0] }:Obj)=O
 have hz:(s.heap.push O).objs.size=s.heap.objs.size+1:=Heap.size_push ..
 generalize hO2:({ cls:=.type "enumerate",data:=.fields #[.none,.bool false,.ref s.heap.objs.size,rawInt 1,.none,.none] }:Obj)=O2
 have he:((s.heap.push O).push O2).get? (s.heap.objs.size+1)=some O2:=by
  have e:=Heap.get?_push_size (s.heap.push O) (o:=O2) (by rw [<- hO2];rfl)
  rw [hz] at e;exact e
 have hi:((s.heap.push O).push O2).get? s.heap.objs.size=some O:=Heap.get?_push_of_some _ (Heap.get?_push_size _ (by rw [<- hO];rfl))
 have key:Shared.TypeIs { s with heap:=(s.heap.push O).push O2 } (.ref (s.heap.objs.size+1)) "enumerate"/\Q (.ref (s.heap.objs.size+1)) { s with heap:=(s.heap.push O).push O2 }:=by
  refine ⟨⟨O2,he,by rw [<- hO2]⟩,h _ (by rw [<- hO2] at he ⊢;exact he) ⟨O,hi,by rw [<- hO],by rw [<- hO];rfl⟩ (by rw [Heap.size_push,hz]) fun b o y=>Heap.get?_push_of_some _ (Heap.get?_push_of_some _ y)⟩
 rw [<- hz] at key
 exact key
end
theorem Inv.turned2 {X:Cx}{pins:List (Addr×Obj)}{σ:St}{H:Hp}{s:Shared}{h':Heap}{t':Nat}{fp:List Addr}(I:Inv X pins σ H s)(k:∀ b o,b ∉ fp->s.heap.get? b=some o->h'.get? b=some o)(hf:∀ b∈fp,XZ X pins H b) :
 Inv X pins σ H { s with heap:=h',toks:=t' }:=by
 have nit:∀ b u,H b=some u->b ∉ fp:=fun b u e z=>by rw [(hf b z).1] at e;cases e
 refine I.step (g':=s.gens) (d':=s.drawn) (ch:=fp) (fun b hb=>?_) (fun b o _ _ hc e _=>k b o hc e) (fun b o _ _ hc e _=>⟨o.slots,k b o hc e⟩) (fun _ _ _ _ n=>n)
  (fun b o hc e=>⟨o,k b o hc e⟩) (fun _ _ e=>e) (fun _ _ _ e=>e) (fun b ps e=>⟨#[],by rw [e];simp⟩) (fun m hm=>?_) (fun b u e=>?_) I.bare
 ·obtain ⟨f0,f1,f2,f3,f4,f5⟩:=hf b hb
  exact ⟨f3,f1,f4,f5⟩
 ·obtain ⟨o,es,ep,ho,r⟩:=hm
  exact ⟨o,es,ep,k _ o (fun z=>(hf _ z).2.1 rfl) ho,r⟩
 ·refine (I.hok b u e).stay (fun c v hc q=>k c v ?_ q) (fun _ q=>q) fun _ _ q=>q
  rcases hc with z | z
  ·rw [z];exact nit b u e
  ·exact nit c _ z
theorem Zcd {prog:Program}{w:World}{A:Around}(hh:A.handled=none)(it:Addr)(x:Str)(t:Tok) :
 Draws prog w A it [it] x.cps.size (fun i v=>∃ c u,x.cps[i]?=some c/\v=.str ⟨#[c]⟩ u) (fun i h=>h.IsStrIter it (strIterType x) x t i):=by
 cases ha:x.cps.all (· < 128)
 ·have e:strIterType x="str_iterator":=by simp [strIterType,ha]
  rw [e];exact Draws.strWide hh it x t
 ·have e:strIterType x="str_ascii_iterator":=by simp [strIterType,ha]
  rw [e];exact Draws.strAscii hh it x t
def Ite (x:Str):It:=⟨fun i _=>i < x.cps.size,fun i H v H'=>∃ t c,H t=none/\x.cps[i]?=some c/\v=.ref t/\H'=upd H t (.tup [.int ((i:Int)+1),.str ⟨#[c]⟩]),fun i _=>x.cps.size<=i⟩
theorem Zhx {P:Program}{w:World}{K:PySem.W.Frag}{elts:List Expr}{x1:Nat}{tp:Pos}(x:Str)(t:Tok)(e it:Addr)(hne:e≠it) :
 Zae P w K (.Tuple elts x1 tp) (Ite x) [e,it] e (fun i h=>(∃ old,IsEnum h e it ((i:Int)+1) old)/\h.IsStrIter it (strIterType x) x t i/\i<=x.cps.size) where
 mem:=by simp
 obj:=fun i h st b hb=>by
  obtain ⟨⟨old,he⟩,⟨o,ho,c,d⟩,_⟩:=st
  rcases mem_cons.mp hb with q | hb
  ·rw [q];exact ⟨_,he,fun v z=>by cases z⟩
  ·rw [mem_singleton.mp hb];exact ⟨o,ho,fun v z=>by rw [d] at z;cases z⟩
 keep:=fun i h h' st k=>by
  obtain ⟨⟨old,he⟩,⟨o,ho,r⟩,hi⟩:=st
  exact ⟨⟨old,k e (by simp) _ he⟩,⟨o,k it (by simp) o ho,r⟩,hi⟩
 item:=by
  intro X hP hw hK hc i pins s σ H E I hf st hg
  subst hP hw hK
  obtain ⟨⟨old,he⟩,hs,hi⟩:=st
  have hlt:i < x.cps.size:=hg
  have D:=ZaI (Zcd (prog:=X.prog) (w:=X.w) (A:=X.A.in1) (I.ok.hd hc) it x t)
  refine wpAny_pyNext_enum_itemD (i:=i+1) D (show IsEnum s.heap e it ((i+1:Nat):Int) old from he) ⟨i,rfl,hs⟩ (by omega) hne (by simpa using hne) fun v h' tk hP hOut hst hT hsz hk=>?_
  obtain ⟨j,ej,c,u,hcc,rfl⟩:=hP
  have ej':i=j:=by omega
  subst ej'
  obtain ⟨j,ej,hst⟩:=hst
  have ej':i+1=j:=by omega
  subst ej'
  have hel:e < s.heap.objs.size:=Heap.lt_size he
  have hil:it < s.heap.objs.size:=by obtain ⟨o,ho,_⟩:=hs;exact Heap.lt_size ho
  refine ⟨_,rfl,wpAny_letOwnedTupleGo_enum hOut fun h2 he2 hs2=>?_⟩
  generalize hO:({ cls:=.type "tuple",data:=.seq #[.int ((i+1:Nat):Int) tk,.str ⟨#[c]⟩ u] }:Obj)=O at hT
  have I1:Inv X pins σ (upd H s.heap.objs.size (.tup [.int ((i:Int)+1),.str ⟨#[c]⟩])) { s with heap:=s.heap.push O,toks:=tk+1 }:=by
   refine I.laid (t':=tk+1) (fun b o y=>Heap.get?_push_of_some _ y) (Nat.le_refl _) (show ObjOk X.prog X.w _ _ _ (.tup _) from ⟨by show 2<=sizeLine;decide,[.int ((i+1:Nat):Int) tk,.str ⟨#[c]⟩ u],.cons ⟨tk,rfl⟩ (.cons ⟨u,rfl⟩ .nil),?_⟩)
   rw [<- hO];exact IsTup.new _ _
  have hfree:=I.hok.fresh (Nat.le_refl s.heap.objs.size)
  have hf2:∀ b∈[e,it],XZ X pins (upd H s.heap.objs.size (.tup [.int ((i:Int)+1),.str ⟨#[c]⟩])) b:=fun b hb=>by
   obtain ⟨f0,f1⟩:=hf b hb
   have hb':b≠s.heap.objs.size:=by
    rcases mem_cons.mp hb with q | hb
    ·rw [q];exact Nat.ne_of_lt hel
    ·rw [mem_singleton.mp hb];exact Nat.ne_of_lt hil
   exact ⟨by rw [Zi hb'];exact f0,f1⟩
  have I2:Inv X pins σ (upd H s.heap.objs.size (.tup [.int ((i:Int)+1),.str ⟨#[c]⟩])) { s with heap:=h2,toks:=tk+1 }:=by
   refine I1.turned2 (t':=tk+1) (h':=h2) (fun b o hb y=>?_) hf2
   have hbe:b≠e:=fun q=>hb (by simp [q])
   have hbi:b≠it:=fun q=>hb (by simp [q])
   rw [hs2.2 b hbe]
   rcases Heap.get?_push_cases y with ⟨q1,q2⟩ | y
   ·rw [q1,q2];exact hT
   ·exact hk b o hbe hbi y
  refine ⟨.ref s.heap.objs.size,_,I2,rfl,⟨s.heap.objs.size,c,hfree,hcc,rfl,rfl⟩,⟨⟨_,he2⟩,?_,hlt⟩,fun b hb=>(hf2 b hb).1⟩
  obtain ⟨o,ho,r⟩:=hst
  exact ⟨o,by rw [hs2.2 it hne.symm];exact ho,r⟩
 done:=by
  intro X hP hw hK hc i pins s σ H E I hf st hg
  subst hP hw hK
  obtain ⟨⟨old,he⟩,hs,hi⟩:=st
  have hle:x.cps.size<=i:=hg
  have D:=ZaI (Zcd (prog:=X.prog) (w:=X.w) (A:=X.A.in1) (I.ok.hd hc) it x t)
  have ei:i=x.cps.size:=by omega
  rw [ei] at hs
  obtain ⟨f0,f1,f2,f3,f4,f5⟩:=hf it (by simp)
  exact wpAny_pyNext_enum_endD D he ⟨_,rfl,hs⟩ fun h' eb=>⟨rfl,I.turned (t':=s.toks) (fun b o hb y=>eb b o hb y) f0 f1 f3 f4 f5⟩
 self:=fun _ _ _ _ _ st h=>by
  obtain ⟨⟨old,he⟩,_⟩:=st
  exact wpAny_pyIter_enum he h
theorem Zah {M:Model}{A:Around}{E:Value->Shared->Prop}{s:Shared}{pos:Pos}{T:String}{args:List (Bool×Sem Value)}{kws:List (Option Str×Sem Value)}{Q:Value->Shared->Prop}
 (h1:args.any (·.1)=false) (h2:kws.any (·.1.isNone)=false)
 (h:wpAny M A (evalArgs (.type T) true args kws) (fun a s₁=>wpAny M A (call (.type T) a.pos a.kw) Q E s₁) E s):wpAny M A (callWith pos (.type T) [] args kws) Q E s:=by
 unfold callWith
 refine wpAny_bind (wpAny_holding (Zt h fun a s₁ q=>wpAny_bind (wpAny_standAt ?_)))
 simp only [h1,h2,Bool.or_false]
 refine wpAny_bind (wpAny_pure (wpAny_bind (Zt q fun r s₂ hr=>?_)))
 exact wpAny_bind (wpAny_holding (wpAny_point (wpAny_pure hr)))
def Zlb (tl:TE):TI:=fun σ H R=>tl σ H fun v H1=>∃ x,[v]=[V.str x]/\R (Ite x) H1
section
variable {X:Cx}
theorem ZiC {l:Expr}{tl:TE}{elts:List Expr}{x1 j:Nat}{tp p pos kp kpos:Pos}(hg:Gl X "enumerate")(hm:X.mg "enumerate"=none)(hl:PE X l tl)
 (he:starEach [l] X.env=[(false,eval l X.env)]:=by rfl):PI X (.Tuple elts x1 tp) (.Call (.Name "enumerate" p) [l] [⟨some "start",.Constant (.int 1) j kp,kpos⟩] pos) (Zlb tl):=by
 intro pins s σ H R I h
 have ha:PA X [l] (Xm tl XW):=YC hl Za he
 have hk:PK X [⟨some "start",.Constant (.int 1) j kp,kpos⟩] (Xm (tC (.int 1)) XW):=Zkq Zd ZlI
 refine wpAny_Call_Name_kw (Ws I hg hm boot_enumerate (Zah (by rw [he];rfl) rfl (evalArgs_kw2 rfl ?_ he)))
 refine Zt (ha pos pins s σ H (fun vs H1=>∃ x,vs=[V.str x]/\R (Ite x) H1) I h) fun us s1 ⟨vs,H1,I1,r1,x,e,q⟩=>?_
 subst e
 obtain ⟨u,rfl,t,rfl⟩:=Yk r1
 refine Zt (hk pos pins s1 σ H1 (fun vs H2=>vs=[V.int 1]/\H2=H1) I1 ⟨rfl,rfl⟩) fun ws s2 ⟨zs,H2,I2,r2,e1,e2⟩=>?_
 subst e1 e2
 obtain ⟨u',rfl,t',rfl⟩:=Yk r2
 refine ZaC fun h' hE hit hsz hkk=>wpAny_pyIter_enum hE ?_
 refine ⟨s2.heap.objs.size+1,[s2.heap.objs.size+1,s2.heap.objs.size],_,_,H2,rfl,I2.kept (t':=s2.toks) hkk,Zhx x t _ _ (Nat.succ_ne_self _),⟨⟨_,hE⟩,hit,Nat.zero_le _⟩,fun b hb=>?_,q⟩
 rcases mem_cons.mp hb with z | hb
 ·rw [z];exact I2.fpOk (Nat.le_succ _) (I2.hok.fresh (Nat.le_succ _))
 ·rw [mem_singleton.mp hb];exact I2.fpOk (Nat.le_refl _) (I2.hok.fresh (Nat.le_refl _))
end
theorem ZhP {x:Str}{g:TG}{tb:TS}{D:Yi}{σ:St}{H:Hp}(Pv:Nat->St->Hp->Prop)(h0:Pv 0 σ H)
 (hs:∀ i c t σ H,x.cps[i]?=some c->H t=none->Pv i σ H->g (.ref t) σ (upd H t (.tup [.int ((i:Int)+1),.str ⟨#[c]⟩])) fun σ2 H2=>tb { D with nx:=Pv (i+1),ct:=Pv (i+1),bk:=D.nx } σ2 H2) (hd:∀ σ H,Pv x.cps.size σ H->D.nx σ H) :
 ∃ W:Nat->Nat->St->Hp->Prop,(∃ m,W 0 m σ H)/\∀ i m σ H,W i m σ H ->
  ((Ite x).stop i H/\D.nx σ H)\/((Ite x).go i H/\∃ N:St->Hp->Prop,(∀ σ' H',N σ' H'->∃ m',m' < m/\W (i+1) m' σ' H')/\∀ y H',(Ite x).yld i H y H'->g y σ H' fun σ2 H2=>tb { D with nx:=N,ct:=N,bk:=D.nx } σ2 H2):=by
 refine ⟨fun i m σ H=>m=x.cps.size - i/\i<=x.cps.size/\Pv i σ H,⟨x.cps.size,by simp,Nat.zero_le _,h0⟩,?_⟩
 rintro i m σ H ⟨rfl,hi,p⟩
 by_cases hlt:i < x.cps.size
 ·refine .inr ⟨hlt,Pv (i+1),fun σ' H' p'=>⟨x.cps.size - (i+1),by omega,rfl,hlt,p'⟩,fun y H' z=>?_⟩
  obtain ⟨t,c,e1,e2,e3,e4⟩:=z
  subst e3 e4
  exact hs i c t σ _ e2 e1 p
 ·have e:i=x.cps.size:=by omega
  subst e
  exact .inl ⟨Nat.le_refl _,hd σ H p⟩
end L2
namespace L2
open PySem PySem.W PySem.Spec PyProof.Rows
def Zad (ks:List Str)(vs out:List Value):Prop:=∃ ps:List (Str×Value),ps.Perm (ks.zip vs)/\out=ps.map (·.2)/\ps.Pairwise fun p q=>¬ (q.1.cps.toList < p.1.cps.toList)
theorem Zea:∀{keys:List Value}{ks:List Str}(_:StrsAre keys ks)(vs:List Value),(keys.zip vs).map (fun p=>(strOf p.1,p.2))=ks.zip vs
 | _,_,.nil,vs=>rfl
 | _,_,.cons x t h,[]=>rfl
 | _,_,.cons x t h,v::vs=>by
  rw [List.zip_cons_cons,map_cons,Zea h vs];rfl
theorem Ziw {keys:Array Value}{vs:List Value}{ks:List Str}(hk:StrsAre keys.toList ks){xs:Array Keyed}(hp:xs.Perm (keys.zip vs.toArray))(hs:SortedToK strKind xs xs.size):Zad ks vs (xs.map (·.2)).toList:=by
 have hl:xs.toList.Perm (keys.toList.zip vs):=by
  have:=Array.perm_iff_toList_perm.mp hp
  rwa [ksk_zip] at this
 refine ⟨xs.toList.map fun p=>(strOf p.1,p.2),?_,?_,?_⟩
 ·have:=hl.map fun p=>(strOf p.1,p.2)
  rwa [Zea hk] at this
 ·rw [Array.toList_map,map_map];rfl
 ·rw [pairwise_map,pairwise_iff_getElem]
  intro i j hi hj hij
  have hi':i < xs.size:=by simpa using hi
  have hj':j < xs.size:=by simpa using hj
  have str_at:∀ m (hm:m < xs.size),KK strKind xs m=(strOf xs[m].1).cps.toList:=fun m hm=>by
   have hmem:xs[m]∈keys.toList.zip vs:=hl.mem_iff.mp (by simp)
   have h1:=(of_mem_zip (show (xs[m].1,xs[m].2)∈_ from hmem)).1
   obtain ⟨x,t,e⟩:=hk.all _ h1
   rw [KK_str hm (x:=x) (t:=t) (q:=xs[m].2) (by rw [<- e])]
   rw [e];rfl
  have h:=hs i j (Nat.le_of_lt hij) hj'
  rw [str_at i hi',str_at j hj'] at h
  simpa [KeyOrd.kle] using h
theorem ZgC {keys:Array Value}{vs:List Value}{ks:List Str}(hk:StrsAre keys.toList ks):KeysOf strKind (keys.zip vs.toArray):=by
 intro p hp
 rw [ksk_zip] at hp
 obtain ⟨x,t,e⟩:=hk.all _ (of_mem_zip (show (p.1,p.2)∈_ from hp)).1
 exact ⟨x.cps.toList,by rw [e]⟩
theorem ZgD {keys:Array Value}{ks:List Str}(hk:StrsAre keys.toList ks)(h2:2<=keys.size):keyKind' keys=pure oneType':=by
 obtain ⟨l⟩:=keys
 match l,hk,h2 with
 | [],_,h2=>simp at h2
 | [_],_,h2=>simp at h2
 | v₁::v₂::r,hk,_=>exact keyKind_strs hk
theorem Zcw {x:Str}{t:Tok}:∀{vs:List Value}{ss:List Str},StrsAre vs ss->StrsAre (vs++[.str x t]) (ss++[x])
 | _,_,.nil=>.cons x t .nil
 | _,_,.cons y u h=>.cons y u (Zcw h)
section
variable {prog:Program}{w:World}{A:Around}{E:Value->Shared->Prop}{s:Shared}{a kS:Addr}{vs:List Value}{ks:List Str}{keys:Array Value}{e e1:Nat}{P:PySem.Fin->Shared->Prop}
theorem Zbk {st:SortSt}(nk:s.heap.get? kS=some (seqObj "list" keys e))(na:s.heap.get? a=some (seqObj "list" #[] e1))(hka:kS≠a)(hk:StrsAre keys.toList ks)(hlen:ks.length=vs.length)(h64:vs.length < 64)
 (hp:(arrOf st).Perm (keys.zip vs.toArray)) (hs:SortedToK strKind (arrOf st) (arrOf st).size) (hfl:failedOf st=none)
 (h:∀ h' tk out c,(∀ b o,b≠a->b≠kS->s.heap.get? b=some o->h'.get? b=some o)->h'.get? a=some (seqObj "list" out c)->Zad ks vs out.toList->P (.done (.ret .none)) { s with heap:=h',toks:=tk }) :
 wpAny (model prog w) A (ksk_tail a false e1 (.ref kS) st) P E s:=by
 have hsz:keys.size=vs.length:=by have:=hk.length;rw [Array.length_toList] at this;omega
 have hsz2:(arrOf st).size=vs.length:=by rw [hp.size_eq,Array.size_zip,hsz,size_toArray,Nat.min_self]
 have s1:=Heap.SameBut.update s.heap kS (Obj.mapSeq fun _=>(#[]:Array Value))
 have na1:(s.heap.update kS (Obj.mapSeq fun _=>(#[]:Array Value))).get? a=some (seqObj "list" #[] e1):=(s1.2 a hka.symm).trans na
 have s2:=Heap.SameBut.update (s.heap.update kS (Obj.mapSeq fun _=>(#[]:Array Value))) a (Obj.mapSeq fun _=>(arrOf st).map (·.2))
 obtain ⟨c2,hc2⟩:∃ c2,((s.heap.update kS (Obj.mapSeq fun _=>(#[]:Array Value))).update a (Obj.mapSeq fun _=>(arrOf st).map (·.2))).get? a=some (seqObj "list" ((arrOf st).map (·.2)) c2):=⟨_,get?_update_seq na1 fun _=>(arrOf st).map (·.2)⟩
 unfold ksk_tail
 try dsimp only
 refine wpAny_bind (listUpdate_at nk rfl ?_ (by rw [hsz,sizeLine_eq];omega) (Nat.zero_le _))
 refine wpAny_bind (wpAny_letGo (wpAny_bind (seqEpoch_at na1 rfl ?_)))
 refine wpAny_bind (listUpdate_at na1 rfl ?_ (Nat.zero_le _) (Nat.le_trans (Nat.le_of_eq (show ((arrOf st).map (·.2)).size=vs.length by rw [Array.size_map];exact hsz2)) (by rw [sizeLine_eq];omega)))
 rw [hfl]
 simp only [bne_self_eq_false,Bool.false_eq_true,if_false]
 exact wpAny_pure (h _ _ _ c2 (fun b o hb1 hb2 y=>(s2.2 b hb1).trans ((s1.2 b hb2).trans y)) hc2 (Ziw hk hp hs))
theorem Zhm (nk:s.heap.get? kS=some (seqObj "list" keys e))(na:s.heap.get? a=some (seqObj "list" #[] e1))(hka:kS≠a)(hk:StrsAre keys.toList ks)(hlen:ks.length=vs.length)(h64:vs.length < 64)
 (h:∀ h' tk out c,(∀ b o,b≠a->b≠kS->s.heap.get? b=some o->h'.get? b=some o)->h'.get? a=some (seqObj "list" out c)->Zad ks vs out.toList->P (.done (.ret .none)) { s with heap:=h',toks:=tk }) :
 wpAny (model prog w) A (ksk_end a false vs.toArray e1 (.ref kS) keys) P E s:=by
 have hsz:keys.size=vs.length:=by have:=hk.length;rw [Array.length_toList] at this;omega
 have hzs:(keys.zip vs.toArray).size=vs.length:=by rw [Array.size_zip,hsz,size_toArray,Nat.min_self]
 unfold ksk_end
 simp only [Bool.false_eq_true,if_false]
 by_cases h2:vs.toArray.size < 2
 ·rw [if_pos h2,if_pos h2]
  refine wpAny_bind (wpAny_pure ?_)
  rw [StateT.run_pure]
  refine wpAny_bind (wpAny_pure ?_)
  try dsimp only
  refine Zbk (st:=SortSt.mk' general' (keys.zip vs.toArray) #[] 7 none) nk na hka hk hlen h64 (Array.Perm.refl _) ?_ rfl h
  intro i j hij hj
  have hj2:j < (keys.zip vs.toArray).size:=hj
  rw [hzs] at hj2
  rw [size_toArray] at h2
  have:i=j:=by omega
  subst this
  exact KeyOrd.kle_refl _
 ·rw [if_neg h2,if_neg h2]
  rw [size_toArray] at h2
  rw [ZgD hk (by rw [hsz];omega)]
  refine wpAny_bind (wpAny_pure (wpAny_bind (wpAny_mono (wpS_sortRunsK (κ:=strKind) strKind_oneLt (a₀:=keys.zip vs.toArray) (st:=SortSt.mk' oneType' (keys.zip vs.toArray) #[] 7 none)
   (Q:=fun _ st'=>(arrOf st').Perm (keys.zip vs.toArray)/\failedOf st'=none/\SortedToK strKind (arrOf st') (keys.zip vs.toArray).size)
   (ZgC hk) ⟨Array.Perm.refl _,rfl,rfl,rfl⟩ (by rw [hzs];omega) (by rw [hzs];exact h64) fun st' a1 a2 a3=>⟨a1,a2,a3⟩) ?_ fun _ _ y=>y)))
  rintro ⟨⟨⟩,st'⟩ s' ⟨rfl,hp,hf,hs⟩
  try dsimp only
  exact Zbk nk na hka hk hlen h64 hp (by rw [hp.size_eq];exact hs) hf h
def Zbu (prog:Program)(w:World)(A:Around)(s:Shared)(a:Addr)(f:Value)(vs:List Value)(ks:List Str):Prop :=
 ∀ (i:Nat) (v:Value) (k:Str),vs[i]?=some v->ks[i]?=some k->∀ (h:Heap) (tk:Nat),(∀ b o,b≠a->s.heap.get? b=some o->h.get? b=some o)->s.heap.objs.size<=h.objs.size->∀ Q':Value->Shared->Prop,
  (∀ h' tk' t,(∀ b o,h.get? b=some o->h'.get? b=some o)->h.objs.size<=h'.objs.size->Q' (.str k t) { s with heap:=h',toks:=tk' })->wpAny (model prog w) A (call f [v]) Q' (fun _ _=>False) { s with heap:=h,toks:=tk }
theorem ZfM {f:Value}{s0:Shared}(hs0:∃ tk,s={ s0 with heap:=s.heap,toks:=tk })(k0:∀ b o,b≠a->s0.heap.get? b=some o->s.heap.get? b=some o)(z0:s0.heap.objs.size<=s.heap.objs.size)(hkn:s0.heap.objs.size<=kS)
 (nk:s.heap.get? kS=some (seqObj "list" #[] 0)) (na:s.heap.get? a=some (seqObj "list" #[] e1)) (hka:kS≠a) (hlen:ks.length=vs.length) (h64:vs.length < 64) (turn:Zbu prog w A s0 a f vs ks)
 (h:∀ h' tk out c,(∀ b o,b≠a->s0.heap.get? b=some o->h'.get? b=some o)->h'.get? a=some (seqObj "list" out c)->Zad ks vs out.toList->P (.done (.ret .none)) { s0 with heap:=h',toks:=tk }) :
 wpAny (model prog w) A (ksk_rest a f false vs.toArray e1 (.ref kS)) P E s:=by
 obtain ⟨tk0,hs0⟩:=hs0
 unfold ksk_rest
 refine wpAny_bind (wpAny_rule ?_)
 first
  | rw [List.forIn_toArray]
  | (rw [<- Array.forIn_toList];simp only [List.toList_toArray])
 refine wpAny_bind (ksk_fold (fun i s'=>∃ h' tk kA c,s'={ s0 with heap:=h',toks:=tk }/\(∀ b o,b≠a->s0.heap.get? b=some o->h'.get? b=some o)/\s0.heap.objs.size<=h'.objs.size/\h'.get? kS=some (seqObj "list" kA c)/\h'.get? a=some (seqObj "list" #[] e1)/\StrsAre kA.toList (ks.take i)) vs 0 s
  ⟨s.heap,tk0,#[],0,hs0,k0,z0,nk,na,by simpa using StrsAre.nil⟩ ?step ?done)
 case step =>
  rintro j x s' hx ⟨h',tk,kA,c,rfl,k1,z1,nk1,na1,hk⟩
  simp only [Nat.zero_add] at hk ⊢
  have hj:j < vs.length:=(List.getElem?_eq_some_iff.mp hx).1
  obtain ⟨k,hkj⟩:∃ k,ks[j]?=some k:=⟨_,getElem?_eq_getElem (by omega)⟩
  have hz:kA.size<=vs.length:=by
   have h1:=hk.length
   rw [Array.length_toList,length_take] at h1
   omega
  refine wpAny_bind (wpAny_attempt (wpAny_mono (turn j x k hx hkj h' tk k1 z1 (fun v s''=>∃ g tk2 t2,v=.str k t2/\s''={ s0 with heap:=g,toks:=tk2 }/\(∀ b o,h'.get? b=some o->g.get? b=some o)/\h'.objs.size<=g.objs.size) (fun g tk2 t2 q z=>⟨g,tk2,t2,rfl,rfl,q,z⟩)) (fun v s'' he=>?_) fun _ _ hF=>hF.elim))
  obtain ⟨g,tk2,t2,rfl,rfl,k2,z2⟩:=he
  try dsimp only
  have nk2:=k2 _ _ nk1
  have na2:=k2 _ _ na1
  have s1:=Heap.SameBut.update g kS (Obj.mapSeq (·.push (.str k t2)))
  obtain ⟨c2,hc2⟩:∃ c2,(g.update kS (Obj.mapSeq (·.push (.str k t2)))).get? kS=some (seqObj "list" (kA.push (.str k t2)) c2):=⟨_,get?_update_seq nk2 (·.push (.str k t2))⟩
  have ek:ks.take (j+1)=ks.take j++[k]:=by rw [List.take_add_one,hkj];simp
  have ea:(kA.push (Value.str k t2)).toList=kA.toList++[Value.str k t2]:=by simp
  refine wpAny_bind (listUpdate_at nk2 rfl ?_ (by rw [sizeLine_eq];omega) (Nat.le_trans (Nat.le_of_eq (Array.size_push ..)) (by rw [sizeLine_eq];omega)))
  refine wpAny_pure ⟨rfl,_,_,kA.push (.str k t2),c2,rfl,fun b o hb y=>?_,Nat.le_trans (Nat.le_trans z1 z2) (Nat.le_of_eq (Heap.size_update ..).symm),hc2,(s1.2 a hka.symm).trans na2,by rw [ea,ek];exact Zcw hk⟩
  exact (s1.2 b (fun z=>by rw [z] at y;exact absurd (Heap.lt_size y) (Nat.not_lt.mpr hkn))).trans (k2 _ _ (k1 b o hb y))
 case done =>
  rintro s' ⟨h',tk,kA,c,rfl,k1,z1,nk1,na1,hk⟩
  have hk':StrsAre kA.toList ks:=by
   have e3:ks.take (0+vs.length)=ks:=take_of_length_le (by omega)
   rw [e3] at hk
   exact hk
  try dsimp only
  refine wpAny_bind (listItems_at nk1 rfl ?_)
  refine Zhm nk1 na1 hka hk' hlen h64 fun h3 tk3 out c3 k3 a3 o3=>h h3 tk3 out c3 (fun b o hb y=>k3 b o hb (fun z=>?_) (k1 b o hb y)) a3 o3
  rw [z] at y
  exact absurd (Heap.lt_size y) (Nat.not_lt.mpr hkn)
theorem ZfN {f:Value}{n:Nat}(ho:s.heap.get? a=some (seqObj "list" vs.toArray n))(hlen:ks.length=vs.length)(h64:vs.length < 64)(turn:Zbu prog w A s a f vs ks)
 (h:∀ h' tk out c,(∀ b o,b≠a->s.heap.get? b=some o->h'.get? b=some o)->h'.get? a=some (seqObj "list" out c)->Zad ks vs out.toList->P (.done (.ret .none)) { s with heap:=h',toks:=tk }) :
 wpAny (model prog w) A (ksk_tree a f false) P E s:=by
 have ha:a < s.heap.objs.size:=Heap.lt_size ho
 have s1:=Heap.SameBut.update s.heap a (Obj.mapSeq fun _=>(#[]:Array Value))
 obtain ⟨e1,ho1⟩:∃ e1,(s.heap.update a (Obj.mapSeq fun _=>(#[]:Array Value))).get? a=some (seqObj "list" #[] e1):=⟨_,get?_update_seq ho fun _=>#[]⟩
 have hkS:((s.heap.update a (Obj.mapSeq fun _=>(#[]:Array Value))).push (seqObj "tuple" vs.toArray 0)).objs.size=s.heap.objs.size+1:=by rw [size_push',Heap.size_update]
 unfold ksk_tree
 refine wpAny_bind (listItems_at ho rfl ?_)
 refine wpAny_bind (listUpdate_at ho rfl ?_ (by rw [size_toArray,sizeLine_eq];omega) (Nat.zero_le _))
 refine wpAny_bind (seqEpoch_at ho1 rfl (wpAny_bind (wpAny_newTuple ?_ (by show vs.length<=_;rw [sizeLine_eq];omega))))
 refine wpAny_bind (wpAny_newList ?_ (Nat.zero_le _))
 refine wpAny_holding ?_
 refine ZfM (s0:=s) (s:={ s with heap:=((s.heap.update a (Obj.mapSeq fun _=>(#[]:Array Value))).push (seqObj "tuple" vs.toArray 0)).push (seqObj "list" #[] 0) }) (kS:=((s.heap.update a (Obj.mapSeq fun _=>(#[]:Array Value))).push (seqObj "tuple" vs.toArray 0)).objs.size)
  ⟨s.toks,rfl⟩ (fun b o hb y=>Heap.get?_push_of_some _ (Heap.get?_push_of_some _ ((s1.2 b hb).trans y))) ?_ (by rw [hkS];exact Nat.le_succ _) (Heap.get?_push_size _ rfl) (Heap.get?_push_of_some _ (Heap.get?_push_of_some _ ho1)) (by rw [hkS];exact Nat.ne_of_gt (Nat.lt_succ_of_lt ha)) hlen h64 turn h
 show s.heap.objs.size<=(((s.heap.update a _).push _).push _).objs.size
 rw [size_push',hkS];omega
theorem Zkx {f:Value}{l:Addr}{Q:Value->Shared->Prop}(hl:s.heap.IsList l vs.toArray)(hlen:ks.length=vs.length)(h64:vs.length < 64)(ht:∀ x,Builtin.«list.sort» ⟨[.ref x],[(Str.ofString "key",f)]⟩=ksk_tree x f false)
 (turn:∀ (h1:Heap) (tk1:Nat),(∀ b o,s.heap.get? b=some o->h1.get? b=some o)->s.heap.objs.size<=h1.objs.size->Zbu prog w A.in1.in1 { s with heap:=h1,toks:=tk1 } (s.heap.objs.size+1) f vs ks)
 (h:∀ h' tk out c,(∀ b o,s.heap.get? b=some o->h'.get? b=some o)->h'.get? (s.heap.objs.size+1)=some (seqObj "list" out c)->Zad ks vs out.toList->Q (.ref (s.heap.objs.size+1)) { s with heap:=h',toks:=tk }) :
 wpAny (model prog w) A (call (.builtin "sorted") [.ref l] [(Str.ofString "key",f)]) Q E s:=by
 refine call_function_entry_kw kind_sorted plain_sorted entry_sorted (ksk_s1 _ _) ?_
 unfold Builtin.«sorted»
 refine wpAny_bind (m:=checkCount "sorted" 1 1 _) (wpAny_pure ?_)
 refine wpAny_bind (collect_list hl ?_ (by rw [sizeLine_eq];omega))
 refine wpAny_bind (wpAny_newList ?_ (by rw [sizeLine_eq];omega))
 generalize hg:(s.heap.push (seqObj "list" #[] 0)).update s.heap.objs.size (Obj.mapSeq (·++vs.toArray))=g
 have hsz:g.objs.size=s.heap.objs.size+1:=by rw [<- hg,Heap.size_update,size_push']
 have kg:∀ b o,s.heap.get? b=some o->(g.push (seqObj "list" vs.toArray 0)).get? b=some o:=fun b o q=>by
  have hlt:b < s.heap.objs.size:=Heap.lt_size q
  rw [Heap.get?_push_ne _ _ _ (by rw [hsz];exact Nat.ne_of_lt (Nat.lt_succ_of_lt hlt)),<- hg,Heap.get?_update_ne _ _ _ _ (Nat.ne_of_lt hlt),Heap.get?_push_ne _ _ _ (Nat.ne_of_lt hlt)]
  exact q
 have hoL:(g.push (seqObj "list" vs.toArray 0)).get? (s.heap.objs.size+1)=some (seqObj "list" vs.toArray 0):=by rw [<- hsz];exact Heap.get?_push_size _ rfl
 show wpAny _ _ _ _ _ { s with heap:=g.push (seqObj "list" vs.toArray 0) }
 rw [hsz]
 refine wpAny_bind (wpAny_holding (wpAny_call_entry_kw slot_list_sort ⟨_,hoL,rfl⟩ entry_list_sort ?body (ksk_l1 _ _)))
 show wpAny (model prog w) A.in1.in1 (Builtin.«list.sort» ⟨[.ref (s.heap.objs.size+1)],[(Str.ofString "key",f)]⟩) _ _ _
 rw [ht]
 have hz2:s.heap.objs.size<=(g.push (seqObj "list" vs.toArray 0)).objs.size:=by rw [size_push',hsz];omega
 refine ZfN (s:={ s with heap:=g.push (seqObj "list" vs.toArray 0) }) hoL hlen h64 (turn (g.push (seqObj "list" vs.toArray 0)) s.toks kg hz2) fun h' tk out c k3 a3 o3=>⟨_,rfl,?_⟩
 exact wpAny_pure ⟨_,rfl,h h' tk out c (fun b o y=>k3 b o (Nat.ne_of_lt (Nat.lt_succ_of_lt (Heap.lt_size y))) (kg b o y)) a3 o3⟩
end
def UQ (base:Heap)(mg:Str->Option Value):Prop:=∃ bm ob,mg "__builtins__"=some (.ref bm)/\bm≠builtinsNs/\base.get? bm=some ob/\ob.cls=.type "module"/\ob.dict=some builtinsNs/\ob.data=.plain
def Zfj (ts:List Addr)(H:Hp):Prop:=∀ b,H b=none\/(∃ o xs,H b=some (.frz o (.lst xs)))\/(H b=some (.tbl #[])/\b∈ts)
theorem ZgF {P:Program}{w:World}{K:PySem.W.Frag}{mg mb:Str->Option Value}{CX:Uu}{k:Nat}{fa a:Addr}{fd:FuncData}{x:Str}{sp:Sp}{s₁:Shared}{vs:List Value}{ns:List Int}{ts:List Addr}
   (KX:K.In s₁.heap) (hns:s₁.heap.Ns mainGlobals mg) (hb:s₁.heap.Ns builtinsNs mb) (hbb:∀ x:Str,x≠"__name__"->mb x=bootBuiltins x) (hlim:s₁.heap.NoLimit) (hg:s₁.gens=#[]) (hbm:UQ s₁.heap mg)
   (ha:s₁.heap.get? a=some { cls:=.type "list",data:=.seq vs.toArray }) (hi:IntsAre vs ns) (hl:ns.length<=sizeLine) (hr:Room k callerA)
   (hts:∀ b∈ts,s₁.heap.get? b=some (tabObj #[])/\K.lookup b=none/\∃ c,CodeHd s₁.heap c b)
   (F:∀ base:Heap,K.In base->base.Ns mainGlobals mg->UQ base mg->FnOk P w K mg base CX k fa fd [x] sp) (hbind:∀ (s:Shared) (u:Value),BindsTo s fd ⟨[u],[]⟩ [(x,u)])
   (hsp:∀ H:Hp,Zfj ts H->SqL K H a (ns.map V.int)->(∀ b∈ts,H b=some (.tbl #[]))->sp [.ref a] H (fun v _=>v=.bl true) fun _ _ _=>False)
   (hCX:∀ H e s',CX [] H s₁ (fun _ _ _=>False) e s'->False) :
   codeAny (model P w) callerA (.call (.ref fa) ⟨[.ref a],[]⟩) (fun r s'=>r=.ok (.ret (.bool true))/\OldK s₁.heap s'.heap/\s'.os=s₁.os/\AllBare s'.gens) s₁:=by
 have rv:=Ul hi
 have lenV:=hi.length
 have nta:a ∉ ts:=fun z=>by
   have e:=(hts a z).1
   rw [ha] at e;cases e
 have core : ∀ H:Hp,Zfj ts H->SqL K H a (ns.map V.int)->HOk P w H s₁.heap->(∀ b∈ts,H b=some (.tbl #[]))->(∀ b,H b≠none->b=a\/b∈ts)->(∀ b,H b≠none->K.lookup b=none) ->
     codeAny (model P w) callerA (.call (.ref fa) ⟨[.ref a],[]⟩) (fun r s'=>r=.ok (.ret (.bool true))/\OldK s₁.heap s'.heap/\s'.os=s₁.os/\AllBare s'.gens) s₁:=by
   intro H hO hS hok hT hA hK
   have base_of:∀ {b:Addr} {o:Obj},s₁.heap.get? b=some o->H b=none->(Ur s₁.heap H).get? b=some o:=fun y n=>ZhX y n
   have free:∀ {b:Addr} {o:Obj},s₁.heap.get? b=some o->(∀ its n,o.data≠.seq its n)->(∀ fs,o.data≠.fields fs)->H b=none:=fun {b o} y d1 d2=>by
     cases q:H b with
     | none=>rfl
     | some u =>
       rcases hA b (by rw [q];simp) with z | z
       · subst z
         rw [ha] at y;cases y
         exact absurd rfl (d1 _ _)
       · rw [(hts b z).1] at y;cases y
         exact absurd rfl (d2 _)
   have nsK:∀ {b:Addr} {m:Str->Option Value},s₁.heap.Ns b m->(Ur s₁.heap H).Ns b m:=fun {b m} ⟨o,es,ep,y,d,r⟩=>⟨o,es,ep,base_of y (free y (fun its n z=>by rw [d] at z;cases z) fun fs z=>by rw [d] at z;cases z),d,r⟩
   have hKb:K.In (Ur s₁.heap H):=fun b o y=>base_of (KX b o y) (by
     cases q:H b with
     | none=>rfl
     | some u=>rw [hK b (by rw [q];simp)] at y;cases y)
   have hBm:UQ (Ur s₁.heap H) mg:=by
     obtain ⟨bm,ob,h1,h2,h3,h4,h5,h6⟩:=hbm
     exact ⟨bm,ob,h1,h2,base_of h3 (free h3 (fun its n z=>by rw [h6] at z;cases z) fun fs z=>by rw [h6] at z;cases z),h4,h5,h6⟩
   have hM:Mod K mg (Ur s₁.heap H):=⟨hKb,nsK hns,⟨mb,nsK hb,hbb⟩,let ⟨mc,h1,h2⟩:=hlim;⟨mc,nsK h1,h2⟩⟩
   have e0:Env0 P w K mg (Ur s₁.heap H) callerA [] s₁ H:=⟨rfl,hM,fun b o e=>ZjX e,Nat.le_of_eq (Zgt _ _),trivial,fun b hb=>absurd (show b∈([]:List Addr) from hb) (by simp),hok,.of_eq hg⟩
   refine codeAny_mono ((F _ hKb (nsK hns) hBm).run callerA [] s₁ H ⟨[.ref a],[]⟩ [.ref a] [.ref a] _ _ hr e0 (hbind s₁ (.ref a)) (.cons rfl .nil) (hsp H hO hS hT)) fun r s' h=>?_
   cases r with
   | error e=>exact (hCX H e s' h).elim
   | ok fl =>
     cases fl with
     | next=>exact False.elim h
     | brk=>exact False.elim h
     | cont=>exact False.elim h
     | ret u =>
       obtain ⟨v,H',os,bare,un,hok',r',q⟩:=h
       have q':v=.bl true:=q
       subst q'
       obtain rfl:u=Value.bool true:=r'
       have key:∀ b o,s₁.heap.get? b=some o->s'.heap.get? b=some o\/(b∈ts/\∃ more:Array Value,s'.heap.get? b=some (tabObj (#[]++more))):=fun b o y=>by
         cases q:H b with
         | none=>exact .inl (un.keep b o y q (by intro z;exact absurd (show b∈([]:List Addr) from z) (by simp)) (by simp))
         | some u =>
           rcases hO b with z | ⟨ob,xs,z⟩ | ⟨z,zt⟩
           · rw [q] at z;cases z
           · have z2:=un.frzs b ob _ z
             obtain ⟨e1,_⟩:=hok b _ z
             obtain ⟨e2,_⟩:=hok' b _ z2
             rw [y] at e1;cases e1
             exact .inl e2
           · obtain ⟨more,z2⟩:=un.tbls b #[] z
             exact .inr ⟨zt,more,show s'.heap.get? b=some { cls:=.none,data:=.fields (#[]++more) } from hok' b _ z2⟩
       refine ⟨rfl,⟨fun b o y=>?_,fun b o y=>?_⟩,os,bare⟩
       · rcases key b o y with z | ⟨zt,more,z⟩
         · exact .inl z
         · obtain ⟨t1,_,c,t3⟩:=hts b zt
           rw [t1] at y;cases y
           exact .inr (.inl ⟨(t3.tab t1).isCodeTable,rfl,#[],more,rfl,z⟩)
       · rcases key b o y with z | ⟨zt,more,z⟩
         · exact ⟨_,z⟩
         · exact ⟨_,z⟩
 have okT:∀ (H:Hp) (b:Addr),b∈ts->ObjOk P w H s₁.heap b (.tbl #[]):=fun H b hb=>(hts b hb).1
 cases hk:K.lookup a with
 | some o =>
   have e:=KX a o hk
   rw [ha] at e
   cases e
   refine core (fun b=>if b∈ts then some (.tbl #[]) else none) (fun b=>?_) (.inr ⟨_,vs.toArray,_,hk,rfl,rfl,rfl,by rw [size_toArray,lenV];exact hl,by simpa using rv⟩) (fun b u z=>?_) (fun b hb=>if_pos hb) (fun b z=>?_) (fun b z=>?_)
   · by_cases hb:b∈ts
     · exact .inr (.inr ⟨if_pos hb,hb⟩)
     · exact .inl (if_neg hb)
   · by_cases hb:b∈ts
     · have z':=(if_pos hb).symm.trans z
       cases z'
       exact okT _ b hb
     · have z':=(if_neg hb).symm.trans z
       cases z'
   · by_cases hb:b∈ts
     · exact .inr hb
     · exact absurd (if_neg hb) z
   · by_cases hb:b∈ts
     · exact (hts b hb).2.1
     · exact absurd (if_neg hb) z
 | none =>
   refine core (fun b=>if b=a then some (.frz { cls:=.type "list",data:=.seq vs.toArray } (.lst (ns.map V.int))) else if b∈ts then some (.tbl #[]) else none) (fun b=>?_) (.inl (.inr ⟨{ cls:=.type "list",data:=.seq vs.toArray },if_pos rfl⟩)) (fun b u z=>?_)
     (fun b hb=>(if_neg (fun z:b=a=>nta (by rw [<- z];exact hb))).trans (if_pos hb)) (fun b z=>?_) (fun b z=>?_)
   · by_cases h1:b=a
     · exact .inr (.inl ⟨_,_,if_pos h1⟩)
     · by_cases hb:b∈ts
       · exact .inr (.inr ⟨(if_neg h1).trans (if_pos hb),hb⟩)
       · exact .inl ((if_neg h1).trans (if_neg hb))
   · by_cases h1:b=a
     · have z':=(if_pos h1).symm.trans z
       cases z'
       subst h1
       exact ⟨ha,by rw [length_map];exact hl,vs,_,rv,ha⟩
     · have z1:=(if_neg h1).symm.trans z
       by_cases hb:b∈ts
       · have z':=(if_pos hb).symm.trans z1
         cases z'
         exact okT _ b hb
       · have z':=(if_neg hb).symm.trans z1
         cases z'
   · by_cases h1:b=a
     · exact .inl h1
     · by_cases hb:b∈ts
       · exact .inr hb
       · exact absurd ((if_neg h1).trans (if_neg hb)) z
   · by_cases h1:b=a
     · rw [h1];exact hk
     · by_cases hb:b∈ts
       · exact (hts b hb).2.1
       · exact absurd ((if_neg h1).trans (if_neg hb)) z
theorem walk_ofT {l:PySem.W.OpenLaw}{n k:Nat}{q:Program}{loose:List Str}{XP:(Str->Option Value)->Heap->Prop}{YP:World->Heap->Prop}{d:DefRec}{K:Params->PySem.W.Frag}{CX:World->Uu}{sp:World->Sp}{x:Str}{ts:List Addr}
 (hn:l.most=some n) (hn2:n<=sizeLine) (hdf:d.params.defaults=[]) (hr:Room k callerA)
 (hY:∀ (w:World) (h:Heap),YP w h->(K w.params).In h/\∀ b∈ts,h.get? b=some (tabObj #[]))
 (hK:∀ (w:World) (b:Addr),b∈ts->(K w.params).lookup b=none/\∃ c,codeHdIn (K w.params) c b=true)
 (F:∀ (w:World) (mg:Str->Option Value) (fa:Addr) (h:Heap),(K w.params).In h->h.Ns mainGlobals mg->mg d.name=some (.ref fa) ->
  ∃ fd:FuncData,(∀ (s:Shared) (u:Value),BindsTo s fd ⟨[u],[]⟩ [(x,u)]) /\
   ∀ base:Heap,(K w.params).In base->base.Ns mainGlobals mg->UQ base mg->FnOk l.prog w (K w.params) mg base (CX w) k fa fd [x] (sp w))
 (hsp:∀ (w:World) (H:Hp) (a:Addr) (ns:List Int),ns.length<=n->Zfj ts H->SqL (K w.params) H a (ns.map V.int)->(∀ b∈ts,H b=some (.tbl #[]))->sp w [.ref a] H (fun v _=>v=.bl true) fun _ _ _=>False)
 (hCX:∀ (w:World) (H:Hp) (s:Shared) (e:Value) (s':Shared),CX w [] H s (fun _ _ _=>False) e s'->False) :
 PySem.W.WalkO q loose XP YP l.row.toRowW d [] (fun f vs=>PySem.call f vs):=by
 refine Att.attach_call hn hdf fun w s₀ s₁ mg mb fa o pm cd doc a vs ns G Y ho hd hcd hmg hobj hints hlen hg=>?_
 obtain ⟨KX,hT⟩:=hY w _ Y
 obtain ⟨fd,hb,hF⟩:=F w mg fa _ KX G.T.g hmg
 exact ZgF (ts:=ts) KX G.T.g G.T.b G.T.builtins G.T.nolimit hg G.T.bmain hobj hints (Nat.le_trans hlen hn2) hr (fun b hb'=>⟨hT b hb',(hK w b hb').1,let ⟨c,hc⟩:=(hK w b hb').2;⟨c,codeHd_of_K KX hc⟩⟩) hF hb (fun H hO hS hTb=>hsp w H a ns hlen hO hS hTb) fun H e s'=>hCX w H s₁ e s'
abbrev VI (apos:Pos):Arguments:={ posonlyargs:=[],args:=[{ arg:="pair",annotation:=none,pos:=apos }],vararg:=none,kwonlyargs:=[],kw_defaults:=[],kwarg:=none,defaults:=[] }
abbrev UB (p1 p2 p3:Pos):Expr:=.Subscript (.Name "pair" p1) (.Constant (.int 0) 0 p2) p3
abbrev WQ:Scope:={ kind:=.function,names:=[("pair",.local)],isGenerator:=false,isCoroutine:=false,more:=[] }
section
variable {prog:Program}{w:World}{A:Around}{E:Value->Shared->Prop}{s:Shared}
theorem Zib {q t:Addr}{qual:Str}{apos p1 p2 p3:Pos}{pm cdv ct k:Value}{its:Array Value}{Q:Value->Shared->Prop}
 (ho:s.heap.get? q=some { cls:=.type "function",data:=.func (kla_fn "<lambda>" qual (VI apos) (UB p1 p2 p3) WQ [] pm cdv ct) }) (hcd:s.heap.CodeRec cdv qual) (hlim:s.heap.NoLimit) (hroom:A.depth < recursionLimit)
 (ht:IsTup s.heap t its) (h0:its[0]?=some k)
 (hQ:∀ h' tk,(∀ b o,s.heap.get? b=some o->h'.get? b=some o)->s.heap.objs.size<=h'.objs.size->Q k { s with heap:=h',toks:=tk }) :
 wpAny (model prog w) A (call (.ref q) [.ref t]) Q E s:=by
 refine wpAny_call (kla_callFunE (body:=UB p1 p2 p3) hroom ho rfl rfl rfl rfl hcd ?_)
 refine wpAny_of_eq (a:=[(Str.ofString "pair",Value.ref t)]) rfl ?_
 refine wpAny_newFunctionEnv_cells rfl (fun y hy=>?_) fun env he s₁ x=>⟨hlim.keeps x.toInCall.keep,kla_codeExpr ?_⟩
 ·rw [mem_singleton.mp hy];exact .inl rfl
 have hns:=x.toInCall.ns
 obtain ⟨h1,tk1,e1⟩:=x.toInCall.same
 have hkeep:=x.toInCall.keep
 have hfr:=x.toInCall.fresh
 have hL:=hns.lt
 have hkind:env.kindOf "pair"=some .local:=by rw [he];rfl
 have hm:(bindL env.kindOf [(Str.ofString "pair",Value.ref t)] fun _=>none) "pair"=some (.ref t):=by
  rw [he];rfl
 have hsc:env.scope.kind=.function:=by rw [he];rfl
 clear x
 refine Subscript_ (wpAny_Name (wpAny_loadName_local hsc hkind hns hm (wpAny_Constant_int ?_)) (by decide))
 have ht1:IsTup s₁.heap t its:=by
  obtain ⟨o,e,r⟩:=ht
  exact ⟨o,hkeep _ _ e,r⟩
 have fin:Q k { s₁ with toks:=s₁.toks+1 }:=by
  subst e1
  exact hQ h1 (tk1+1) hkeep (Nat.le_of_lt (Nat.lt_of_le_of_lt hfr hL))
 have hsz:0 < its.size:=(Array.getElem?_eq_some_iff.mp h0).1
 have ht2:IsTup (Shared.heap { s₁ with toks:=s₁.toks+1 }) t its:=ht1
 exact subscriptTail_builtinR (x:=k) ht2.typeIs slot_tuple_getitem.lookup
  (getItem_tuple (j:=0) (Q:=fun r s'=>r=k/\(fun v s'=>(match (Except.ok (Flow.ret v):Result) with | .ok (.ret v)=>Q v s' | .ok _=>False | .error e=>E e s')) r s') ht2 (by decide) (by decide) (ZbE (n:=its.size) (i:=0) (j:=0) (by unfold Ww;rw [if_pos (by decide),if_pos (by omega)];rfl)).1 h0 ⟨rfl,fin⟩) rfl
theorem ZdV:∀{ts:List Addr}{us:List Value},Vals (ts.map V.ref) us->us=ts.map Value.ref
 | [],_,.nil=>rfl
 | t::ts,_,.cons r h=>by
  have e:=ZdV h
  cases (show _=Value.ref t from r)
  rw [e];rfl
end
def Zfk (ks:List Str)(ts ts':List Addr):Prop:=∃ ps:List (Str×Addr),ps.Perm (ks.zip ts)/\ts'=ps.map (·.2)/\ps.Pairwise fun p q=>¬ (q.1.cps.toList < p.1.cps.toList)
def unR:Value->Addr
 | .ref a=>a
 | _=>0
theorem Zkl {ks:List Str}{ts:List Addr}{out:List Value}(h:Zad ks (ts.map Value.ref) out):∃ ts',out=ts'.map Value.ref/\Zfk ks ts ts':=by
 obtain ⟨ps,hp,ho,hs⟩:=h
 have hmem:∀ p∈ps,p.2=Value.ref (unR p.2):=fun p hp'=>by
  have h1:=(of_mem_zip (show (p.1,p.2)∈_ from hp.mem_iff.mp hp')).2
  obtain ⟨t,_,e⟩:=mem_map.mp h1
  rw [<- e];rfl
 refine ⟨ps.map fun p=>unR p.2,?_,ps.map (fun p=>(p.1,unR p.2)),?_,?_,?_⟩
 ·rw [ho,map_map]
  exact List.map_congr_left hmem
 ·have h1:=hp.map fun p:Str×Value=>(p.1,unR p.2)
  have h2:(ks.zip (ts.map Value.ref)).map (fun p:Str×Value=>(p.1,unR p.2))=ks.zip ts:=by
   rw [List.zip_map_right,map_map]
   have:((fun p:Str×Value=>(p.1,unR p.2)) ∘ Prod.map id Value.ref)=(id:Str×Addr->Str×Addr):=by funext p;rfl
   rw [this,List.map_id]
  rwa [h2] at h1
 ·rw [map_map];rfl
 ·rw [pairwise_map];exact hs
def Zfg (c:Addr)(qual:Str):Heap->Prop:=fun h=>h.CodeRec (.ref c) qual
def LamAt (H:Hp)(Pl:Addr)(lpos:Pos)(qual:Str):Prop :=
 H Pl=some (.tbl #[])\/∃ c,H Pl=some (.tbl #[rawInt lpos.line,rawInt lpos.col,.ref c])/\H c=some (.ext (Zfg c qual))
theorem ZjN {P:Program}{w:World}{H:Hp}{h:Heap}{c:Addr}{qual:Str}(e:h.CodeRec (.ref c) qual):ObjOk P w H h c (.ext (Zfg c qual)):=by
 obtain ⟨c',o,vs,t,z,g,r⟩:=id e
 cases z
 refine ⟨e,⟨o,g⟩,fun h1 h2 p k=>?_⟩
 obtain ⟨c',o,vs,t,z,g,r⟩:=p
 cases z
 exact ⟨_,o,vs,t,rfl,k _ g,r⟩
def Grown (Pl:Addr)(H H':Hp):Prop:=∀ b o,b≠Pl->H b=some o->H' b=some o
section
variable {X:Cx}{pins:List (Addr×Obj)}{σ:List (Option V)}{H:Hp}{s:Shared}{h':Heap}
theorem Inv.table {t':Nat}{Pl c:Addr}{ps:Array Value}{qual:Str}{lpos:Pos}(I:Inv X pins σ H s)(hP:H Pl=some (.tbl ps))(k:∀ b o,b≠Pl->s.heap.get? b=some o->h'.get? b=some o)
 (hT:h'.get? Pl=some (tabObj (ps++#[rawInt lpos.line,rawInt lpos.col,.ref c]))) (hc:s.heap.objs.size<=c) (hr:h'.CodeRec (.ref c) qual) :
 Inv X pins σ (upd (upd H Pl (.tbl (ps++#[rawInt lpos.line,rawInt lpos.col,.ref c]))) c (.ext (Zfg c qual))) { s with heap:=h',toks:=t' }:=by
 have hcn:H c=none:=I.hok.fresh hc
 have hcP:c≠Pl:=fun z=>by rw [z,hP] at hcn;cases hcn
 have nP:∀ b,H b=none->b≠Pl:=fun b z e=>by rw [e,hP] at z;cases z
 have off:∀ b o,b≠Pl->H b=some o->upd (upd H Pl (.tbl (ps++#[rawInt lpos.line,rawInt lpos.col,.ref c]))) c (.ext (Zfg c qual)) b=some o:=fun b o h1 e=>by rw [Zi (Zn e hcn),Zi h1];exact e
 have nL:X.env.locals≠Pl:=nP _ I.free
 refine I.step (g':=s.gens) (d':=s.drawn) (ch:=[]) (fun _ z=>nomatch z) (fun b o _ _ _ e n=>k b o (nP b n) e) (fun b o _ _ _ e n=>⟨o.slots,k b o (nP b n) e⟩) (fun b o _ e n=>?_) (fun b o _ e=>?_)
  (fun b xs e=>off b _ (fun z=>by rw [z,hP] at e;cases e) e) (fun b o u e=>off b _ (fun z=>by rw [z,hP] at e;cases e) e) (fun b qs e=>?_) (fun m hm=>?_) (fun b u e=>?_) I.bare
 ·rw [Zi (fun z=>by rw [z] at e;exact absurd (Heap.lt_size e) (Nat.not_lt.mpr hc)),Zi (nP b n)];exact n
 ·by_cases hb:b=Pl
  ·exact ⟨_,by rw [hb];exact hT⟩
  ·exact ⟨o,k b o hb e⟩
 ·by_cases hb:b=Pl
  ·rw [hb,hP] at e
   cases e
   exact ⟨#[rawInt lpos.line,rawInt lpos.col,.ref c],by rw [hb,Zi hcP.symm,Ze]⟩
  ·exact ⟨#[],by rw [off b _ hb e];simp⟩
 ·obtain ⟨o,es,ep,ho,r⟩:=hm
  exact ⟨o,es,ep,k _ o nL ho,r⟩
 ·by_cases h1:b=c
  ·subst h1
   rw [Ze] at e
   cases e
   exact ZjN hr
  ·rw [Zi h1] at e
   by_cases h2:b=Pl
   ·subst h2
    rw [Ze] at e
    cases e
    exact hT
   ·rw [Zi h2] at e
    refine (I.hok b u e).stay (fun d v hd y=>k d v ?_ y) (fun d y=>off d _ (fun z=>by rw [z,hP] at y;cases y) y) fun d xs y=>off d _ (fun z=>by rw [z,hP] at y;cases y) y
    rcases hd with z | z
    ·rw [z];exact h2
    ·exact fun z2=>by rw [z2,hP] at z;cases z
theorem Zic {A:Around}{E:Value->Shared->Prop}{Q:Value->Shared->Prop}{c Pl:Addr}{apos p1 p2 p3 lpos:Pos}(I:Inv X pins σ H s)(hcode:X.env.code=.ref c)(C:codeHdIn X.K c Pl=true)(hBm:UQ X.base X.mg)(hL:LamAt H Pl lpos (X.env.qual++"<lambda>"))
 (h:∀ (q:Addr) (H':Hp) (s':Shared) (pm cdv ct:Value),Inv X pins σ H' s'->Grown Pl H H'->LamAt H' Pl lpos (X.env.qual++"<lambda>")->s'.heap.get? q=some { cls:=.type "function",data:=.func (kla_fn "<lambda>" (X.env.qual++"<lambda>") (VI apos) (UB p1 p2 p3) WQ [] pm cdv ct) } ->
  s'.heap.CodeRec cdv (X.env.qual++"<lambda>")->Q (.ref q) s') :
 wpAny (model X.prog X.w) A (eval (.Lambda (VI apos) (UB p1 p2 p3) WQ lpos) X.env) Q E s:=by
 rw [arm_eval_Lambda]
 refine wpAny_bind (m:=evalAll []) (wpAny_evalAll_nil (wpAny_bind (wpAny_holding (m:=evalAllOpt []) (wpAny_of_eq (a:=[]) rfl ?_))))
 have hcl:closureFor WQ X.env=pure []:=rfl
 have hg:=I.mod.glob.keeps I.bk
 have CH:=codeHd_of_K I.kIn C
 have tab:∀ ps,H Pl=some (.tbl ps)->s.heap.get? Pl=some (tabObj ps):=fun ps e=>I.hok Pl _ e
 have bmAt:∀ ps,s.heap.get? Pl=some (tabObj ps)->s.heap.BuiltinsAt X.mg Pl/\mainGlobals≠Pl:=fun ps e=>by
  obtain ⟨bm,ob,b1,b2,b3,b4,b5,b6⟩:=hBm
  have b3':=I.bk _ _ b3
  have hmg:mainGlobals≠Pl:=fun z=>by
   obtain ⟨o,es,ep,y,hd,_⟩:=hg
   rw [z,e] at y;cases y;cases hd
  refine ⟨⟨bm,ob,b1,b2,fun z=>?_,(fun z=>by rw [z,e] at b3';cases b3';cases b4),b3',b4,b5,b6⟩,hmg⟩
  obtain ⟨o,es,ep,y,hd,_⟩:=hg
  rw [<- z,b3'] at y;cases y
  rw [b6] at hd;cases hd
 rcases hL with e | ⟨c',e,ec⟩
 ·have hP:=tab _ e
  obtain ⟨hb,hgP⟩:=bmAt _ hP
  refine kla_makeFunction (clos:=[]) hcl I.ok.glob hg hcode CH hP trivial rfl hgP hb fun c' ctv h' tk hx hge hlt hrec hT=>?_
  have I1:=I.table (t':=tk) (h':=h') (qual:=X.env.qual++"<lambda>") (lpos:=lpos) e (fun b o hb' y=>hx b o hb' y) hT hge hrec
  have hcn:H c'=none:=I.hok.fresh hge
  have hcP:c'≠Pl:=fun z=>by rw [z,e] at hcn;cases hcn
  refine h _ _ _ ((X.mg "__name__").getD .none) (.ref c') ctv (I1.kept (t':=tk) fun b o y=>Heap.get?_push_of_some _ y) (fun b o h1 y=>by rw [Zi (Zn y hcn),Zi h1];exact y) (.inr ⟨c',by rw [Zi hcP.symm,Ze];rfl,Ze⟩) (Heap.get?_push_size _ rfl) (hrec.push _)
 ·have hP:=tab _ e
  obtain ⟨hb,hgP⟩:=bmAt _ hP
  have hrec:s.heap.CodeRec (.ref c') (X.env.qual++"<lambda>"):=(I.hok c' _ ec).1
  refine kla_makeFunctionHit (clos:=[]) (cv:=.ref c') hcl I.ok.glob hg hcode CH hP trivial (by simp [codeAmong,rawInt]) hb fun ctv h' tk hk hz=>?_
  exact h _ _ _ ((X.mg "__name__").getD .none) (.ref c') ctv ((I.kept (h':=h') (t':=tk) hk).kept (t':=tk) fun b o y=>Heap.get?_push_of_some _ y) (fun b o _ y=>y) (.inr ⟨c',e,ec⟩) (Heap.get?_push_size _ rfl) ((hrec.keeps hk).push _)
end
def ZmR (Pl:Addr)(lpos:Pos)(qual:Str)(te:TE):TE:=fun σ H Q=>te σ H fun x H1=>∃(l:Addr)(ts:List Addr)(ks:List Str),[x]=[.ref l]/\H1 l=some (.lst (ts.map V.ref))/\ts.length < 64/\ks.length=ts.length /\
 (∀ (i:Nat) (t:Addr) (k:Str),ts[i]?=some t->ks[i]?=some k->∃ vs,H1 t=some (.tup (.str k::vs)))/\LamAt H1 Pl lpos qual /\
 ∀ (H2:Hp) (r:Addr) (ts':List Addr),Grown Pl H1 H2->LamAt H2 Pl lpos qual->H2 r=none->Zfk ks ts ts'->Q (.ref r) (upd H2 r (.lst (ts'.map V.ref)))
section
variable {X:Cx}
theorem ZiB {k:Nat}{e:Expr}{te:TE}{apos p1 p2 p3 lpos kpos p pos:Pos}{c Pl:Addr}(hg:Gl X "sorted")(hm:X.mg "sorted"=none)(he:PE X e te)(hr:Room k X.A)(hcode:X.env.code=.ref c)(C:codeHdIn X.K c Pl=true)(hBm:UQ X.base X.mg)
 (hs:starEach [e] X.env=[(false,eval e X.env)]:=by rfl):PE X (.Call (.Name "sorted" p) [e] [⟨some "key",.Lambda (VI apos) (UB p1 p2 p3) WQ lpos,kpos⟩] pos) (ZmR Pl lpos (X.env.qual++"<lambda>") te):=by
 intro pins s σ H Q I h
 have ha:PA X [e] (Xm te XW):=YC he Za hs
 refine wpAny_Call_Name_kw (Ws I hg hm boot_sorted (callWith_kw ?_ (by rw [hs];rfl) (by rw [hs];rfl) rfl rfl))
 refine Zt (ha pos pins s σ H (fun xs H1=>∃ (l:Addr) (ts:List Addr) (ks:List Str),xs=[V.ref l]/\H1 l=some (.lst (ts.map V.ref))/\ts.length < 64/\ks.length=ts.length /\
  (∀ (i:Nat) (t:Addr) (k:Str),ts[i]?=some t->ks[i]?=some k->∃ vs,H1 t=some (.tup (.str k::vs)))/\LamAt H1 Pl lpos (X.env.qual++"<lambda>") /\
  ∀ (H2:Hp) (r:Addr) (ts':List Addr),Grown Pl H1 H2->LamAt H2 Pl lpos (X.env.qual++"<lambda>")->H2 r=none->Zfk ks ts ts'->Q (.ref r) (upd H2 r (.lst (ts'.map V.ref)))) I h) fun us s1 ⟨vs,H1,I1,r1,q1⟩=>?_
 obtain ⟨l,ts,ks,rfl,el,h64,hlen,htup,hL,q⟩:=q1
 obtain ⟨u,rfl,ru⟩:=Yk r1
 cases ru
 refine kws_cons (Zic I1 hcode C hBm hL fun fq H2 s2 pm cdv ct I2 gr hL2 hfo hrec=>kws_nil ?_)
 have nl:l≠Pl:=fun z=>by
  rw [z] at el
  rcases hL with y | ⟨_,y,_⟩<;>(rw [el] at y;cases y)
 have el2:=gr l _ nl el
 obtain ⟨its,rv,pl,hz⟩:=I2.list (SqL.of el2)
 have hits:=ZdV rv
 subst hits
 have tupAt:∀ (i:Nat) (t:Addr) (k:Str),ts[i]?=some t->ks[i]?=some k->∃ its':Array Value,IsTup s2.heap t its'/\∃ tk,its'[0]?=some (.str k tk):=fun i t k h1 h2=>by
  obtain ⟨vs,ev⟩:=htup i t k h1 h2
  have nt:t≠Pl:=fun z=>by
   rw [z] at ev
   rcases hL with y | ⟨_,y,_⟩<;>(rw [ev] at y;cases y)
  obtain ⟨_,itv,rv',pt⟩:=(show ObjOk X.prog X.w H2 s2.heap t (.tup (.str k::vs)) from I2.hok t _ (gr t _ nt ev))
  cases rv' with
  | cons r rr =>
   obtain ⟨tk,e⟩:=r
   exact ⟨_,pt,tk,by rw [e];rfl⟩
 refine Zkx (vs:=ts.map Value.ref) (ks:=ks) pl.isList (by rw [length_map];exact hlen) (by rw [length_map];exact h64) (fun x=>ksk_t1 fq x) (fun h1 tk1 k1 z1=>?_) fun h' tk out cc k3 a3 o3=>?_
 ·intro i v k hv hk h2 tk2 k2 z2 Q' hQ'
  rw [getElem?_map] at hv
  cases ht:ts[i]? with
  | none=>rw [ht] at hv;cases hv
  | some t =>
   rw [ht] at hv
   cases (show some (Value.ref t)=some v from hv)
   obtain ⟨its',pt,tk',e0⟩:=tupAt i t k ht hk
   have kp:∀ b o,s2.heap.get? b=some o->h2.get? b=some o:=fun b o y=>k2 b o (Nat.ne_of_lt (Nat.lt_succ_of_lt (Heap.lt_size y))) (k1 b o y)
   have pt2:IsTup h2 t its':=by
    obtain ⟨o,eo,r⟩:=pt
    exact ⟨o,kp _ _ eo,r⟩
   exact Zib (s:={ s2 with heap:=h2,toks:=tk2 }) (kp _ _ hfo) (hrec.keeps kp) (I2.nolimit.keeps kp) (show X.A.depth < recursionLimit by have:=hr.dp;omega) pt2 e0 fun h3 tk3 k3 z3=>hQ' h3 tk3 tk' k3 z3
 ·obtain ⟨ts',hout,hT⟩:=Zkl o3
  have rv2:Vals (ts'.map V.ref) out.toList:=by
   rw [hout]
   clear hout hT o3
   induction ts' with
   | nil=>exact .nil
   | cons t r ih=>exact .cons rfl ih
  have hl2:(ts'.map V.ref).length<=sizeLine:=by
   obtain ⟨ps,hp,e,_⟩:=hT
   have:=hp.length_eq
   rw [List.length_zip] at this
   rw [length_map,e,length_map,this]
   exact Zao (by omega)
  exact ⟨.ref _,_,I2.laid (t':=tk) k3 (Nat.le_succ _) (show ObjOk X.prog X.w _ h' _ (.lst (ts'.map V.ref)) from ⟨hl2,out.toList,cc,rv2,by rw [Array.toArray_toList];exact a3⟩),rfl,q H2 _ ts' gr hL2 (I2.hok.fresh (Nat.le_succ _)) hT⟩
end
theorem ZaX:typeLookup (.type "tuple") "keys"=pure none:=am_miss_of_fast (by decide +kernel)
section
variable {prog:Program}{w:World}{A:Around}{E:Value->Shared->Prop}{s:Shared}
theorem ZgB {a:Addr}{xs:Array Value}{k:Nat}{sl:Array (Option Value)}{Q:Option Value->Shared->Prop}(hx:s.heap.get? a=some { cls:=.type "tuple",dict:=none,data:=.seq xs k,slots:=sl })(hA:A.handled=none)
 (h:∀ h' tk,(∀ b o,s.heap.get? b=some o->h'.get? b=some o)->Q none { s with heap:=h',toks:=tk }):wpAny (model prog w) A (getAttr? (.ref a) "keys") Q E s:=by
 obtain ⟨hp,g,d,tk,os⟩:=s
 have hT:∀ tk',(⟨hp,g,d,tk',os⟩:Shared).TypeIs (.ref a) "tuple":=fun _=>⟨_,hx,rfl⟩
 have f1:=sub_AttributeError
 have f3:=F.slot_tuple_getattribute.lookup
 have f4:=F.slot_tuple_getattribute.bind (.ref a)
 have f5:=am_tuple_getattr_none
 unfold getAttr? getAttrBy? getAttrBy
 repeat (any_goals first | assumption | exact hT _ | ((with_reducible show wpAny _ _ (call (Value.builtin "tuple.__getattribute__") _ _) _ _ _);refine call_meets F.slot_tuple_getattribute (hT _) am_entry_tuple_getattribute (F.args_tuple_getattribute_2 _ _) (meets_getattribute_miss_tuple a xs k sl "keys" _ ZaX (by decide) (by decide)) ⟨hx,hA,fun h' tk' e hx'=>?_⟩) | wp_step)
 obtain ⟨t',u',he⟩:=hx'.there
 show wpAny _ _ (getattributeRaised _ _ _ _ _ _ _) _ _ _
 unfold getattributeRaised
 repeat (any_goals first | assumption | wp_step)
 all_goals exact h _ _ hx'.keeps
theorem Uz:entryFor table "dict.update.loop"=some Builtin.«dict.update.loop»:=entryFor_of_tree (by kernel_rfl)
theorem Xy:plainId "dict.update.loop"=true:=by decide +kernel
end
section
variable {prog:Program}{w:World}{A:Around}{R:Result->Shared->Prop}
def PairAt (prog:Program)(w:World)(h:Heap)(v:Value)(p:Zk×Value):Prop:=∃ tt key,v=.ref tt/\IsTup h tt #[key,p.2]/\(Zr prog w).is p.1 key=true
theorem PairAt.keep {h h':Heap}{v:Value}{p:Zk×Value}(x:PairAt prog w h v p)(k:∀ b o,h.get? b=some o->h'.get? b=some o):PairAt prog w h' v p:=by
 obtain ⟨tt,key,e,⟨o,eo,r⟩,z⟩:=x
 exact ⟨tt,key,e,⟨o,k _ _ eo,r⟩,z⟩
theorem PairAt.but {h h':Heap}{v:Value}{p:Zk×Value}{d:Addr}{o:Obj}(x:PairAt prog w h v p)(hd:h.get? d=some o)(hc:o.cls≠.type "tuple")(k:∀ b o,b≠d->h.get? b=some o->h'.get? b=some o):PairAt prog w h' v p:=by
 obtain ⟨tt,key,e,⟨ot,eo,c,r⟩,z⟩:=x
 refine ⟨tt,key,e,⟨ot,k _ _ (fun y=>?_) eo,c,r⟩,z⟩
 rw [y,hd] at eo
 cases eo
 exact hc c
theorem Zje {d I t:Addr}{its:Array Value}(ps:List (Zk×Value))(hlen:ps.length=its.size)(hnd:(ps.map (·.1)).Nodup)(hsz:ps.length<=sizeLine)(hh:A.handled=none)(hIt:I≠t)(hId:I≠d) :
 ∀ (k i:Nat) (s:Shared) (n:Int) (tk:Tok),ps.length - i=k->i<=ps.length->s.heap.IsTupleIter I t i->s.heap.IsTuple t its->(∀ (j:Nat) (v:Value) (p:Zk×Value),its[j]?=some v->ps[j]?=some p->PairAt prog w s.heap v p)->s.heap.DictOf (Zr prog w) d (ps.take i) ->
 (∀ h' tk',(∀ b o,b≠I->b≠d->s.heap.get? b=some o->h'.get? b=some o)->h'.DictOf (Zr prog w) d ps->R (.ok (.ret .none)) { s with heap:=h',toks:=tk' }) ->
 codeAny (model prog w) A (.builtin "dict.update.loop" ⟨[.ref d,.ref I,.int n tk,.none],[]⟩) R s:=by
 have W:=Walks.tuple (prog:=prog) (w:=w) (A:=A.in1) hh I t hIt.symm its
 intro k
 induction k with
 | zero =>
  intro i s n tk hk hi hit htp hpr hd hR
  have hin:i=its.size:=by omega
  refine codeAny_builtin Uz ?_
  rw [Around.under_plainId Xy _]
  show wpAny _ A.in1 (pyNext (.ref I) >>= _) _ _ s
  refine wpAny_bind (W.done s _ _ ⟨by rw [<- hin];exact hit,htp⟩ fun h' tk' kk=>?_)
  show wpAny _ _ (Builtin.Dict.addKeywords d [] >>= _) _ _ _
  refine wpAny_bind (wpAny_pure (wpAny_pure (hR h' tk' (fun b o h1 _ y=>kk b o (by simpa using h1) y) ?_)))
  rw [take_of_length_le (by omega)] at hd
  obtain ⟨o,es,ep,eo,r⟩:=hd
  exact ⟨o,es,ep,kk d o (by simpa using hId.symm) eo,r⟩
 | succ k ih =>
  intro i s n tk hk hi hit htp hpr hd hR
  have hlt:i < its.size:=by omega
  refine codeAny_builtin Uz ?_
  rw [Around.under_plainId Xy _]
  show wpAny _ A.in1 (pyNext (.ref I) >>= _) _ _ s
  refine wpAny_bind (W.item i s _ _ hlt ⟨hit,htp⟩ fun v h1 tk1 hv st1 kk=>?_)
  obtain ⟨hit1,htp1⟩:=st1
  have hI0:∃ o,s.heap.get? I=some o/\o.cls≠.type "tuple":=by
   obtain ⟨o,eo,c,_⟩:=hit
   exact ⟨o,eo,by rw [c];decide⟩
  have hpr1:∀ (j:Nat) (v:Value) (p:Zk×Value),its[j]?=some v->ps[j]?=some p->PairAt prog w h1 v p:=fun j v p a b=>by
   obtain ⟨o,eo,c⟩:=hI0
   exact (hpr j v p a b).but eo c fun b o hb y=>kk b o (by simpa using hb) y
  obtain ⟨p,hp⟩:∃ p,ps[i]?=some p:=⟨_,getElem?_eq_getElem (by omega)⟩
  have hv':its[i]?=some v:=hv
  obtain ⟨tt,key,rfl,⟨ot,eo,oc,on,od⟩,hkey⟩:=hpr1 i v p hv' hp
  have hd1:h1.DictOf (Zr prog w) d (ps.take i):=by
   obtain ⟨o,es,ep,eo,r⟩:=hd
   exact ⟨o,es,ep,kk d o (by simpa using hId.symm) eo,r⟩
  have hT:Shared.TypeIs { s with heap:=h1,toks:=tk1 } (.ref tt) "tuple":=⟨ot,eo,oc⟩
  have hnew:stored (ps.take i) p.1 p.2=ps.take (i+1):=by
   have hni:p.1 ∉ (ps.take i).map (·.1):=fun z=>by
    have e1:(ps.map (·.1))=(ps.take i).map (·.1)++(ps.drop i).map (·.1):=by rw [<- map_append,take_append_drop]
    rw [e1,List.nodup_append] at hnd
    refine hnd.2.2 _ z _ (mem_map.mpr ⟨p,?_,rfl⟩) rfl
    exact mem_of_getElem? (i:=0) (by rw [List.getElem?_drop];simpa using hp)
   unfold stored
   rw [if_neg,List.take_add_one,hp]
   ·rfl
   ·intro z
    obtain ⟨q,hq,e⟩:=List.any_eq_true.mp z
    exact hni (mem_map.mpr ⟨q,hq,by simpa using e⟩)
  show wpAny _ A.in1 (holding [.ref tt] _ >>= _) _ _ _
  refine wpAny_bind (wpAny_holding ?_)
  refine wpAny_bind (wpAny_tryCatch ?_)
  unfold Builtin.Dict.pairItems
  refine wpAny_bind (wpAny_typeOf hT ?_)
  rw [if_pos (by decide)]
  refine wpAny_bind (wpAny_seqItems eo od (wpAny_pure ?_))
  show wpAny _ _ (holding [key,p.2] (dictSet d key p.2)) _ _ _
  refine wpAny_holding (wpAny_dictSet_pairs hkey hd1 (fun h2 hd2 hs2=>?_) (Nat.le_trans (by rw [length_take];omega) hsz))
  rw [hnew] at hd2
  refine wpAny_pure ⟨plainId_quiet Xy _,ih (i+1) _ (n+1) _ (by omega) (by omega) ?_ ?_ ?_ hd2 ?_⟩
  ·obtain ⟨o,eo',r⟩:=hit1
   exact ⟨o,(hs2.2 I hId).trans eo',r⟩
  ·obtain ⟨o,eo',r⟩:=htp1
   refine ⟨o,(hs2.2 t (fun z=>?_)).trans eo',r⟩
   obtain ⟨o',es,ep,eo2,c2,_⟩:=hd1
   rw [z,eo2] at eo'
   cases eo'
   rw [c2.1] at r
   exact absurd r.1 (by decide)
  ·intro j v p a b
   obtain ⟨o',es,ep,eo2,c2,_⟩:=hd1
   exact (hpr1 j v p a b).but eo2 (by rw [c2.1];decide) fun b o hb y=>(hs2.2 b hb).trans y
  ·intro h3 tk3 k3 hd3
   exact hR h3 tk3 (fun b o h4 h5 y=>k3 b o h4 h5 ((hs2.2 b h5).trans (kk b o (by simpa using h4) y))) hd3
end
section
variable {prog:Program}{w:World}{A:Around}{E:Value->Shared->Prop}{s:Shared}
theorem ZcF {t:Addr}{its:Array Value}{Q:Value->Shared->Prop}(ps:List (Zk×Value))(ht:IsTup s.heap t its)(hnd0:∃ o,s.heap.get? t=some o/\o.dict=none)(hlen:ps.length=its.size)(hnd:(ps.map (·.1)).Nodup)(hsz:ps.length<=sizeLine)(hh:A.handled=none)
 (hpr:∀ (j:Nat) (v:Value) (p:Zk×Value),its[j]?=some v->ps[j]?=some p->PairAt prog w s.heap v p)
 (h:∀ h' tk',(∀ b o,s.heap.get? b=some o->h'.get? b=some o)->h'.DictOf (Zr prog w) s.heap.objs.size ps->Q (.ref s.heap.objs.size) { s with heap:=h',toks:=tk' }) :
 wpAny (model prog w) A (call (.type "dict") [.ref t]) Q E s:=by
 refine callType_codes (Q₁:=fun obj s₁=>obj=.ref s.heap.objs.size/\s₁={ s with heap:=s.heap.push { cls:=.type "dict",data:=.dict #[] } }) F.kt_called_dict (F.kt_typeCall_dict_1 _) F.entry_dict_init (kt_code_dict_new _ ⟨rfl,rfl⟩) ?_
 rintro obj s₁ ⟨rfl,rfl⟩
 have hnew:(s.heap.push { cls:=.type "dict",data:=.dict #[] }).DictOf (Zr prog w) s.heap.objs.size []:=Heap.DictOf.new s.heap
 have tlt:t < s.heap.objs.size:=by obtain ⟨o,eo,_⟩:=ht;exact Heap.lt_size eo
 obtain ⟨ot,eot,oct,on,odt⟩:=id ht
 obtain ⟨o2,eo2,hdict⟩:=hnd0
 rw [eot] at eo2
 cases eo2
 refine ⟨hnew.typeIs,F.args_dict_init_2 _ _,?_⟩
 unfold Builtin.«dict.__init__»
 refine wpAny_bind ?_
 unfold Builtin.Dict.selfAndRest
 refine wpAny_bind (wpAny_notOrdered_dict hnew.typeIs ?_)
 show wpAny _ _ (pure (s.heap.objs.size,[Value.ref t])) _ _ _
 refine wpAny_pure ?_
 show wpAny _ _ (Builtin.Dict.updateFrom "dict.__init__" s.heap.objs.size (.ref t) [] .none) _ _ _
 unfold Builtin.Dict.updateFrom
 have hT:Shared.TypeIs { s with heap:=s.heap.push { cls:=.type "dict",data:=.dict #[] } } (.ref t) "tuple":=⟨ot,Heap.get?_push_of_some _ eot,oct⟩
 refine wpAny_bind (wpAny_typeOf hT ?_)
 rw [if_pos (by decide)]
 obtain ⟨c0,d0,dt0,sl0⟩:=ot
 have e1:c0=.type "tuple":=oct
 have e2:d0=none:=hdict
 have e3:dt0=.seq its on:=odt
 subst e1 e2 e3
 refine wpAny_bind (ZgB (s:={ s with heap:=s.heap.push { cls:=.type "dict",data:=.dict #[] } }) (Heap.get?_push_of_some _ eot) hh fun h1 tk1 k1=>?_)
 rw [if_pos (show (none:Option Value).isNone=true from rfl)]
 have et1:=k1 _ _ (Heap.get?_push_of_some { cls:=.type "dict",data:=.dict #[] } eot)
 have hd1:h1.DictOf (Zr prog w) s.heap.objs.size []:=by
  obtain ⟨o,es,ep,eo,r⟩:=hnew
  exact ⟨o,es,ep,k1 _ _ eo,r⟩
 have dlt:s.heap.objs.size < h1.objs.size:=by obtain ⟨o,es,ep,eo,r⟩:=hd1;exact Heap.lt_size eo
 refine wpAny_bind (wpAny_rule (wpAny_bind (wpAny_pyIter_tuple (items:=its) ⟨_,et1,rfl,on,rfl⟩ ?_)))
 refine wpAny_pure ⟨plainId_quiet Xy _,Zje (A:=A.in1) ps hlen hnd hsz hh (Nat.ne_of_gt (Heap.lt_size et1)) (Nat.ne_of_gt dlt) ps.length 0 _ 0 _ (by omega) (Nat.zero_le _) ⟨_,Heap.get?_push_size _ rfl,rfl,rfl⟩ ⟨_,Heap.get?_push_of_some _ et1,rfl,on,rfl⟩ ?_ ?_ ?_⟩
 ·intro j v p a b
  exact (hpr j v p a b).keep fun b o y=>Heap.get?_push_of_some _ (k1 _ _ (Heap.get?_push_of_some _ y))
 ·obtain ⟨o,es,ep,eo,r⟩:=hd1
  exact ⟨o,es,ep,Heap.get?_push_of_some _ eo,r⟩
 ·intro h' tk' k3 hd3
  refine ⟨rfl,h h' tk' (fun b o y=>?_) hd3⟩
  have y1:=k1 _ _ (Heap.get?_push_of_some { cls:=.type "dict",data:=.dict #[] } y)
  exact k3 b o (Nat.ne_of_lt (Heap.lt_size y1)) (Nat.ne_of_lt (Heap.lt_size y)) (Heap.get?_push_of_some _ y1)
end
section
variable {X:Cx}
theorem Uf (hc:X.calm=true):Ya X (.type "dict") (fun xs H Q=>∃ (t:Addr) (ts:List Addr) (kvs:List (Str×V)),xs=[.ref t]/\(∃ o,H t=some (.frz o (.tup (ts.map V.ref)))/\o.dict=none)/\ts.length=kvs.length/\kvs.length<=1000 /\
   (∀ (i:Nat) (a:Addr) (p:Str×V),ts[i]?=some a->kvs[i]?=some p->H a=some (.tup [.str p.1,p.2]))/\(kvs.map (·.1)).Nodup/\∀ d,H d=none->Q (.ref d) (upd H d (.dK (kvs.map fun p=>(Sum.inr p.1,p.2))))):=by
 intro pins s σ H xs us Q I r h
 obtain ⟨t,ts,kvs,rfl,⟨ot0,hq0,hdn⟩,hlen,hsz,hp,hnd,q⟩:=h
 have hq:SqT X.K H t (ts.map V.ref):=.inl (.inr ⟨ot0,hq0⟩)
 have eo0:=(I.hok t _ hq0).1
 obtain ⟨u,rfl,ru⟩:=Yk r
 cases ru
 obtain ⟨its,rv,pt,hz⟩:=I.tuple hq
 have hits:=ZdV rv
 subst hits
 have build:∀ (kvs:List (Str×V)) (ts:List Addr),ts.length=kvs.length->(∀ (i:Nat) (a:Addr) (p:Str×V),ts[i]?=some a->kvs[i]?=some p->H a=some (.tup [.str p.1,p.2])) ->
     ∃ ps:List (Zk×Value),KV (kvs.map fun p=>((Sum.inr p.1:Zk),p.2)) ps/\ps.length=kvs.length/\ps.map (·.1)=kvs.map (fun p=>(Sum.inr p.1:Zk))/\∀ (j:Nat) (v:Value) (p:Zk×Value),(ts.map Value.ref)[j]?=some v->ps[j]?=some p->PairAt X.prog X.w s.heap v p:=by
   intro kvs
   induction kvs with
   | nil=>intro ts _ _;exact ⟨[],.nil,rfl,rfl,fun j v p _ e=>by simp at e⟩
   | cons kv r ih =>
     intro ts hl hh
     cases ts with
     | nil=>simp at hl
     | cons a ar =>
       obtain ⟨ps,k1,k2,k3,k4⟩:=ih ar (by simpa using hl) fun i b p e1 e2=>hh (i+1) b p (by simpa using e1) (by simpa using e2)
       obtain ⟨_,itv,rv',pa⟩:=(show ObjOk X.prog X.w H s.heap a (.tup [.str kv.1,kv.2]) from I.hok a _ (hh 0 a kv rfl rfl))
       cases rv' with
       | cons r1 rr =>
         cases rr with
         | cons r2 rr =>
           cases rr
           obtain ⟨tk,e⟩:=r1
           subst e
           rename_i u2
           refine ⟨(Sum.inr kv.1,u2)::ps,.cons ⟨rfl,r2⟩ k1,by rw [length_cons,length_cons,k2],by rw [map_cons,map_cons,k3],fun j v p e1 e2=>?_⟩
           cases j with
           | zero =>
             cases (show some (Value.ref a)=some v from e1)
             cases (show some ((Sum.inr kv.1:Zk),u2)=some p from e2)
             exact ⟨a,.str kv.1 tk,rfl,pa,VW _ _ _ _⟩
           | succ j=>exact k4 j v p (by simpa using e1) (by simpa using e2)
 obtain ⟨ps,k1,k2,k3,k4⟩:=build kvs ts hlen hp
 have hnd2:(ps.map (·.1)).Nodup:=by
   rw [k3]
   have:kvs.map (fun p=>(Sum.inr p.1:Zk))=(kvs.map (·.1)).map Sum.inr:=by rw [map_map];rfl
   rw [this]
   rw [List.Nodup,pairwise_map]
   exact hnd.imp fun h e=>h (by cases e;rfl)
 refine ZcF ps pt ⟨ot0,eo0,hdn⟩ (by rw [k2,size_toArray,length_map,hlen]) hnd2 (by rw [k2];exact Zao hsz) (I.ok.hd hc) (fun j v p e1 e2=>k4 j v p (by simpa using e1) e2) fun h' tk' kk hd=>?_
 have hbig:=I.big
 refine ⟨.ref s.heap.objs.size,_,I.laid (t':=tk') kk (Nat.le_refl _) (show ObjOk X.prog X.w _ h' _ (.dK (kvs.map fun p=>((Sum.inr p.1:Zk),p.2))) from ⟨by rw [length_map];exact Zao hsz,?_,ps,k1,hd⟩),rfl,q _ (I.hok.fresh (Nat.le_refl _))⟩
 exact beq_eq_false_iff_ne.mpr (Nat.ne_of_gt hbig)
end
section
variable {X:Cx}{pins:List (Addr×Obj)}{σ:List (Option V)}{H H':Hp}{s:Shared}{h':Heap}
theorem Inv.many {t':Nat}(I:Inv X pins σ H s)(k:∀ b u,s.heap.get? b=some u->h'.get? b=some u)(ext:Same H H')(new:∀ b,b < s.heap.objs.size->H' b=H b)(hok:∀ b o,s.heap.objs.size<=b->H' b=some o->ObjOk X.prog X.w H' h' b o) :
 Inv X pins σ H' { s with heap:=h',toks:=t' }:=by
 refine I.step (g':=s.gens) (d':=s.drawn) (ch:=[]) (fun _ z=>nomatch z) (fun b o _ _ _ e _=>k b o e) (fun b o _ _ _ e _=>⟨o.slots,k b o e⟩) (fun b o _ e n=>by rw [new b (Heap.lt_size e)];exact n) (fun b o _ e=>⟨o,k b o e⟩)
  (fun b xs e=>ext b _ e) (fun b o u e=>ext b _ e) (fun b ps e=>⟨#[],by rw [ext b _ e];simp⟩) (fun m hm=>?_) (fun b u e=>?_) I.bare
 ·obtain ⟨o,es,ep,ho,r⟩:=hm
  exact ⟨o,es,ep,k _ o ho,r⟩
 ·by_cases hb:b < s.heap.objs.size
  ·rw [new b hb] at e
   exact (I.hok b u e).stay (fun c v _ y=>k c v y) (fun c y=>ext c _ y) fun c xs y=>ext c _ y
  ·exact hok b u (Nat.not_lt.mp hb) e
end
def ZaA (v d:Addr):Heap->Prop:=fun h=>h.IsItemsView v d
def Va (H:Hp):List (Addr×Zk×V)->Hp
 | []=>H
 | (a,k,v)::r=>upd (Va H r) a (.tup [kV k,v])
theorem Zan {H:Hp}{b:Addr}:∀{l:List (Addr×Zk×V)},b ∉ l.map (·.1)->Va H l b=H b
 | [],_=>rfl
 | (a,k,v)::r,h=>by
  rw [map_cons,mem_cons,not_or] at h
  show upd (Va H r) a _ b=_
  rw [Zi h.1];exact Zan h.2
theorem ZeE {H:Hp}{a:Addr}{k:Zk}{v:V}:∀{l:List (Addr×Zk×V)},(l.map (·.1)).Nodup->(a,k,v)∈l->Va H l a=some (.tup [kV k,v])
 | (b,k',v')::r,hn,hm=>by
  rw [map_cons,nodup_cons] at hn
  show upd (Va H r) b _ a=_
  rcases mem_cons.mp hm with e | hm
  ·cases e;exact Ze
  ·rw [Zi (fun z:a=b=>hn.1 (by show b∈_;rw [<- z];exact mem_map.mpr ⟨_,hm,rfl⟩))]
   exact ZeE hn.2 hm
theorem Zlj {kvs:List (Zk×V)}{vs:List (Zk×Value)}(r:KV kvs vs):∀{j:Nat}{k:Zk}{x:Value},vs[j]?=some (k,x)->∃ v,kvs[j]?=some (k,v)/\RelV v x:=by
 induction r with
 | nil=>intro j k x e;simp at e
 | cons h t ih =>
  intro j k x e
  cases j with
  | zero =>
   cases (show some _=some (k,x) from e)
   rename_i a _ _
   refine ⟨a.2,?_,h.2⟩
   have e1:a.1=k:=h.1
   show some a=some (k,a.2)
   rw [<- e1]
  | succ j=>exact ih (by simpa using e)
section
variable {X:Cx}
theorem Zii:MtR X "dict.items" (fun x xs H Q=>∃ d kvs,x=.ref d/\xs=[]/\H d=some (.dK kvs)/\∀ v,H v=none->Q (.ref v) (upd H v (.ext (ZaA v d)))):=by
 intro pins s σ H x xs v us Q I rx rv h
 obtain ⟨d,kvs,rfl,rfl,e,q⟩:=h
 cases rx
 cases rv
 obtain ⟨hz,lo,vs,kv,hd⟩:=Wz I.hok e
 refine call_meetsIn PySem.F.slot_dict_items hd.typeIs PySem.F.entry_dict_items (PySem.F.args_dict_items_1 _) (meets_dict_items (Zr X.prog X.w) d lo) ⟨⟨vs,hd⟩,?_⟩
 refine ⟨.ref s.heap.objs.size,_,I.laid (t':=s.toks) (fun b o y=>Heap.get?_push_of_some _ y) (Nat.le_refl _) (show ObjOk X.prog X.w _ _ _ (.ext (ZaA s.heap.objs.size d)) from ⟨⟨_,Heap.get?_push_size _ rfl,rfl,rfl⟩,⟨_,Heap.get?_push_size _ rfl⟩,?_⟩),rfl,q _ (I.hok.fresh (Nat.le_refl _))⟩
 rintro h1 h2 ⟨o,eo,r⟩ k
 exact ⟨o,k _ eo,r⟩
theorem ZaD (hc:X.calm=true):Ya X (.type "list") (fun xs H Q=>∃ v d kvs,xs=[.ref v]/\H v=some (.ext (ZaA v d))/\H d=some (.dK kvs) /\
 ∀ (l:Addr) (ts:List Addr) (H2:Hp),H l=none->Same H H2->ts.length=kvs.length->(∀ a∈ts,H a=none)->(∀ (i:Nat) (a:Addr) (p:Zk×V),ts[i]?=some a->kvs[i]?=some p->H2 a=some (.tup [kV p.1,p.2]))->H2 l=some (.lst (ts.map V.ref))->Q (.ref l) H2):=by
 intro pins s σ H xs us Q I r h
 obtain ⟨v,d,kvs,rfl,ev,ed,q⟩:=h
 obtain ⟨u,rfl,ru⟩:=Yk r
 cases ru
 obtain ⟨hz,lo,vs,kv,o,es,ep,ho,r1,r2,r3,r4,r5⟩:=Wz I.hok ed
 have hlen:vs.length=kvs.length:=(Paired.length kv).symm
 refine kdx_call (knd:=Zr X.prog X.w) (kvs:=vs) (ep:=ep) (I.ok.hd hc) (I.hok v _ ev).1 ⟨o,es,ho,r1,r2,r3,r4,r5⟩ (by rw [hlen];exact hz) fun h' tk acc c as hk hS hl hG hacc=>?_
 have hl2:as.length=kvs.length:=by rw [hl,hlen]
 have hnd:as.Nodup:=hG.rise.imp fun h=>Nat.ne_of_lt h
 generalize hL:as.zip (kvs.map fun p=>p)=L
 have hm1:L.map (·.1)=as:=by
  rw [<- hL,List.map_id']
  exact List.map_fst_zip (by omega)
 have at_j:∀ (j:Nat) (a:Addr) (p:Zk×V),as[j]?=some a->kvs[j]?=some p->(a,p.1,p.2)∈L:=fun j a p e1 e2=>by
  rw [<- hL,List.map_id']
  exact mem_of_getElem? (i:=j) (by rw [List.getElem?_zip_eq_some];exact ⟨e1,e2⟩)
 have above:∀ a∈as,s.heap.objs.size < a:=hG.above
 have hfr:∀ b,s.heap.objs.size<=b->H b=none:=fun b hb=>I.hok.fresh hb
 have hnl:s.heap.objs.size ∉ L.map (·.1):=fun z=>by rw [hm1] at z;exact absurd (above _ z) (Nat.lt_irrefl _)
 have offA:∀ b,b < s.heap.objs.size->b ∉ L.map (·.1):=fun b hb z=>by rw [hm1] at z;exact absurd (Nat.lt_trans (above _ z) hb) (Nat.lt_irrefl _)
 have key:∀ b,b < s.heap.objs.size->upd (Va H L) s.heap.objs.size (.lst (as.map V.ref)) b=H b:=fun b hb=>by rw [Zi (Nat.ne_of_lt hb),Zan (offA b hb)]
 have sm:Same H (upd (Va H L) s.heap.objs.size (.lst (as.map V.ref))):=fun b o e=>by rw [key b (I.hok.lt e)];exact e
 have tup_at:∀ (j:Nat) (a:Addr) (p:Zk×V),as[j]?=some a->kvs[j]?=some p->upd (Va H L) s.heap.objs.size (.lst (as.map V.ref)) a=some (.tup [kV p.1,p.2]):=fun j a p e1 e2=>by
  rw [Zi (Nat.ne_of_gt (above a (mem_of_getElem? e1)))]
  exact ZeE (by rw [hm1];exact hnd) (at_j j a p e1 e2)
 have I2:Inv X pins σ (upd (Va H L) s.heap.objs.size (.lst (as.map V.ref))) { s with heap:=h',toks:=tk }:=by
  refine I.many hk sm key fun b o hb e=>?_
  by_cases h0:b=s.heap.objs.size
  ·subst h0
   rw [Ze] at e
   cases e
   refine ⟨by rw [length_map,hl2];exact hz,acc.toList,c,?_,by rw [Array.toArray_toList];exact hS⟩
   rw [hacc]
   clear hacc hl hG hl2 hnd hL hm1 at_j above hnl offA key sm tup_at
   induction as with
   | nil=>exact .nil
   | cons a r ih=>exact .cons rfl ih
  ·rw [Zi h0] at e
   by_cases hm:b∈as
   ·obtain ⟨j,hj⟩:=mem_iff_getElem?.mp hm
    obtain ⟨keyv,kk,x,e1,e2,e3⟩:=hG.pairs j b hj
    obtain ⟨vv,e4,rel⟩:=Zlj kv e1
    have e5:=tup_at j b (kk,vv) hj e4
    rw [Zi h0,e] at e5
    cases e5
    refine ⟨by show 2<=sizeLine;decide,[keyv,x],.cons ?_ (.cons rel .nil),⟨_,e3,rfl,_,rfl⟩⟩
    rw [ZaY] at e2
    rcases ZO e2 with ⟨i,tt,rfl,rfl⟩ | ⟨y,tt,rfl,rfl⟩
    ·exact ⟨tt,rfl⟩
    ·exact ⟨tt,rfl⟩
   ·rw [Zan (by rw [hm1];exact hm),hfr b hb] at e
    cases e
 exact ⟨.ref s.heap.objs.size,_,I2,rfl,q _ as _ (hfr _ (Nat.le_refl _)) sm hl2 (fun a ha=>hfr a (Nat.le_of_lt (above a ha))) tup_at Ze⟩
theorem ZbA:Ya X (.type "dict") (fun xs H Q=>∃ d kvs,xs=[.ref d]/\H d=some (.dK kvs)/\∀ c,H c=none->Q (.ref c) (upd H c (.dK kvs))):=by
 intro pins s σ H xs us Q I r h
 obtain ⟨d,kvs,rfl,ed,q⟩:=h
 obtain ⟨u,rfl,ru⟩:=Yk r
 cases ru
 obtain ⟨hz,lo,vs,kv,hd⟩:=Wz I.hok ed
 have hlen:vs.length=kvs.length:=(Paired.length kv).symm
 refine kt_call_dict (knd:=Zr X.prog X.w) lo hd (by rw [hlen];exact hz) fun h' hd' hs'=>?_
 refine ⟨.ref s.heap.objs.size,_,I.laid (t':=s.toks) (fun b o y=>(hs'.2 b (Nat.ne_of_lt (Heap.lt_size y))).trans (Heap.get?_push_of_some _ y)) (Nat.le_refl _) (show ObjOk X.prog X.w _ h' _ (.dK kvs) from ⟨hz,beq_eq_false_iff_ne.mpr (Nat.ne_of_gt I.big),vs,kv,hd'⟩),rfl,q _ (I.hok.fresh (Nat.le_refl _))⟩
def ZmP:TE:=fun _ H Q=>∀ p o,H p=none->o.dict=none->Q (.ref p) (upd H p (.frz o (.tup [])))
theorem ZbK {x1:Nat}{pos:Pos}:PE X (.Tuple [] x1 pos) ZmP:=by
 intro pins s σ H Q I hq
 refine wpAny_Tuple_spliced (Zt (Za pos pins s σ H (fun xs H1=>xs=[]/\H1=H) I ⟨rfl,rfl⟩) fun us s1 ⟨xs,H1,I1,r,e1,e2⟩=>?_)
 subst e1 e2
 cases r
 refine ⟨Nat.zero_le _,?_⟩
 have hf:H1 s1.heap.objs.size=none:=I1.hok.fresh (Nat.le_refl _)
 exact ⟨.ref s1.heap.objs.size,_,I1.laid (t':=s1.toks) (o:=.frz _ (.tup [])) (fun b u e=>Heap.get?_push_of_some _ e) (Nat.le_refl _) ⟨Heap.get?_push_size _ rfl,Nat.zero_le _,[],.nil,⟨_,Heap.get?_push_size _ rfl,rfl,_,rfl⟩⟩,rfl,hq _ _ hf rfl⟩
theorem Zai:Ya X (.type "tuple") (fun xs H Q=>∃ p ys,xs=[.ref p]/\SqL X.K H p ys/\∀ l o,H l=none->o.dict=none->Q (.ref l) (upd H l (.frz o (.tup ys)))):=by
 intro pins s σ H xs us Q I r h
 obtain ⟨p,ys,rfl,hq,q⟩:=h
 obtain ⟨u,rfl,rx⟩:=Yk r
 cases rx
 obtain ⟨its,r',pl,hz⟩:=I.list hq
 have hlen:=r'.length
 refine call_tuple_list pl.isList (fun h' kp=>?_) (by simp only [size_toArray]<;>omega)
 have I1:Inv X pins σ H { s with heap:=h' }:=I.kept (t':=s.toks) kp
 have hg:(h'.push { cls:=.type "tuple",data:=.seq its.toArray }).get? h'.objs.size=some { cls:=.type "tuple",data:=.seq its.toArray }:=Heap.get?_push_size _ rfl
 exact ⟨.ref h'.objs.size,_,I1.laid (t':=s.toks) (o:=.frz { cls:=.type "tuple",data:=.seq its.toArray } (.tup ys)) (fun b o e=>Heap.get?_push_of_some _ e) (Nat.le_refl _) ⟨hg,hz,its,r',⟨_,hg,rfl,_,rfl⟩⟩,rfl,q _ _ (I1.hok.fresh (Nat.le_refl _)) rfl⟩
end
section
variable {O:KeyOrd}{key:Nat->O.α}{n:Nat}{s:Shared}{cmp:Nat->Nat->(Bool->Shared->Prop)->Shared->Prop}
end
structure FunC (K:PySem.W.Frag)(x qual:Str)(st:Stmt)(f:Addr)(fd:FuncData)(c Pl:Addr):Prop where
 ex:∃ (oc:Value) (od:Option Addr) (kV doc pm:Value) (an:Option Addr) (ct:Value) (osl:Array (Option Value)),
  fd=PySem.W.fnOf x qual (VF st) (XL st) (Zo st) .none kV doc pm an (.ref c) ct/\K.lookup f=some ⟨oc,od,.func fd,osl⟩/\PySem.W.codeIn K (.ref c) qual=true
 kp:PySem.W.keepIn K (.ref f)=true
 hd:codeHdIn K c Pl=true
section
variable {P:Program}{w:World}{K:PySem.W.Frag}{mg:Str->Option Value}{base:Heap}
theorem FunC.ok {x qual:Str}{st:Stmt}{f c Pl:Addr}{fd:FuncData}{N ps:List Str}{k:Nat}{sp:Sp}(F:FunC K x qual st f fd c Pl)(S:Zx N ps (Zo st))(len:∀ vs H Q E,sp vs H Q E->vs.length=ps.length)
 (hbody:∀ (A:Around) (outer:List Env) (s:Shared) (H:Hp) (vs:List V) (Q:VK) (E:XK),Room k (A.deeper (envOfC qual (Zo st) s.heap.objs.size f (.ref c)))->sp vs H Q E ->
  ∃ t,PSs (Yo ZK P w K mg base N qual (Zo st) f (.ref c) A outer s H E).nox (XL st) t/\t { nx:=fun _ H'=>Q .non H',rt:=Q } (start N vs) H):FnOk P w K mg base ZK (k+1) f fd ps sp:=by
 obtain ⟨oc,od,kV,doc,pm,an,ct,osl,rfl,lk,hcd⟩:=F.ex
 refine Zjo lk hcd S len fun A outer s H vs Q E hr hsp=>?_
 obtain ⟨t,h,q⟩:=hbody A outer s H vs Q E hr hsp
 exact ⟨t,h.nox,q⟩
theorem FunC.fn {x qual:Str}{st:Stmt}{f c Pl:Addr}{fd:FuncData}(F:FunC K x qual st f fd c Pl):Fun K x qual st f fd:=by
 obtain ⟨oc,od,kV,doc,pm,an,ct,osl,e,lk,hcd⟩:=F.ex
 exact ⟨⟨oc,od,kV,doc,pm,an,.ref c,ct,osl,e,lk,hcd⟩,F.kp⟩
end
theorem Zjv {X:Cx}{st:Stmt}:PS X st (fun _ _ _=>False):=fun _ _ _ _ _ _ h=>h.elim
structure TF (H H':Hp):Prop where
 tup:∀ b xs,H b=some (.tup xs)->H' b=some (.tup xs)
 frz:∀ b o u,H b=some (.frz o u)->H' b=some (.frz o u)
theorem TF.trans {H H1 H2:Hp}(a:TF H H1)(b:TF H1 H2):TF H H2:=⟨fun x xs h=>b.tup x xs (a.tup x xs h),fun x o u h=>b.frz x o u (a.frz x o u h)⟩
theorem Same.tf {H H':Hp}(h:Same H H'):TF H H':=⟨fun b _ e=>h b _ e,fun b _ _ e=>h b _ e⟩
theorem Grown.tf {Pl:Addr}{H H':Hp}{ps:Array Value}(h:Grown Pl H H')(e:H Pl=some (.tbl ps)):TF H H' :=
 ⟨fun b _ y=>h b _ (fun z=>by rw [z,e] at y;cases y) y,fun b _ _ y=>h b _ (fun z=>by rw [z,e] at y;cases y) y⟩
theorem LamAt.tbl {H:Hp}{Pl:Addr}{lpos:Pos}{qual:Str}(h:LamAt H Pl lpos qual):∃ ps,H Pl=some (.tbl ps):=by
 rcases h with h | ⟨_,h,_⟩
 ·exact ⟨_,h⟩
 ·exact ⟨_,h⟩
theorem ZdT {H:Hp}{l:Addr}{xs:List V}{o:HO}(h:H l=some (.lst xs)):TF H (upd H l o) :=
 ⟨fun b _ y=>by rw [Zi (fun z=>by rw [z,h] at y;cases y)];exact y,fun b _ _ y=>by rw [Zi (fun z=>by rw [z,h] at y;cases y)];exact y⟩
theorem ZkC {H:Hp}{l:Addr}{xs:List (Zk×V)}{o:HO}(h:H l=some (.dK xs)):TF H (upd H l o) :=
 ⟨fun b _ y=>by rw [Zi (fun z=>by rw [z,h] at y;cases y)];exact y,fun b _ _ y=>by rw [Zi (fun z=>by rw [z,h] at y;cases y)];exact y⟩
theorem SqT.tf {K:PySem.W.Frag}{H H':Hp}{a:Addr}{xs:List V}(h:SqT K H a xs)(t:TF H H'):SqT K H' a xs:=by
 rcases h with (h | ⟨o,h⟩) | h
 ·exact .inl (.inl (t.tup _ _ h))
 ·exact .inl (.inr ⟨o,t.frz _ _ _ h⟩)
 ·exact .inr h
inductive Nd where
 | bare
 | leaf (m:Int) (ps:List (Str×V))
 | fork (qs:List Nat)
def Nd.parts:Nd->List Nat
 | .fork qs=>qs
 | _=>[]
def Nd.pairs:Nd->List (Str×V)
 | .leaf _ ps=>ps
 | _=>[]
def Nd.hasM (n:Int):Nd->Bool
 | .leaf m _=>decide (m=n)
 | _=>false
def PairT (H:Hp)(ts:List Addr)(ps:List (Str×V)):Prop:=ts.length=ps.length/\∀(i:Nat)(a:Addr)(p:Str×V),ts[i]?=some a->ps[i]?=some p->H a=some (.tup [.str p.1,p.2])
def PairsAt (H:Hp)(t:Addr)(ps:List (Str×V)):Prop:=∃ o ts,H t=some (.frz o (.tup (ts.map V.ref)))/\o.dict=none/\PairT H ts ps
def NodeAt (K:PySem.W.Frag)(H:Hp)(a:Addr):Nd->Prop
 | .bare=>SqT K H a [.str "bare"]
 | .leaf m ps=>∃ t,SqT K H a [.str "leaf",.int m,.ref t]/\PairsAt H t ps
 | .fork qs=>∃ t,SqT K H a [.str "fork",.ref t]/\SqT K H t (qs.map fun q:Nat=>V.int (q:Int))/\qs.length=4
theorem PairT.tf {H H':Hp}{ts:List Addr}{ps:List (Str×V)}(h:PairT H ts ps)(t:TF H H'):PairT H' ts ps:=⟨h.1,fun i a p e1 e2=>t.tup _ _ (h.2 i a p e1 e2)⟩
theorem PairsAt.tf {H H':Hp}{t:Addr}{ps:List (Str×V)}(h:PairsAt H t ps)(f:TF H H'):PairsAt H' t ps:=by
 obtain ⟨o,ts,e,d,p⟩:=h
 exact ⟨o,ts,f.frz _ _ _ e,d,p.tf f⟩
theorem NodeAt.tf {K:PySem.W.Frag}{H H':Hp}{a:Addr}{n:Nd}(h:NodeAt K H a n)(f:TF H H'):NodeAt K H' a n:=by
 cases n with
 | bare=>exact SqT.tf h f
 | leaf m ps=>obtain ⟨t,e,p⟩:=h;exact ⟨t,e.tf f,p.tf f⟩
 | fork qs=>obtain ⟨t,e,p,l⟩:=h;exact ⟨t,e.tf f,p.tf f,l⟩
inductive Wl (K:PySem.W.Frag)(vs:List V)(H:Hp)(Q:VK)(w_3:XK):Prop
 | mk (a:Addr) (n:Nd):(vs=[.ref a])->(NodeAt K H a n)->(∀ t H',Same H H'->SqT K H' t (n.parts.map fun q:Nat=>V.int (q:Int))->Q (.ref t) H')->Wl K vs H Q w_3
inductive XR (K:PySem.W.Frag)(vs:List V)(H:Hp)(Q:VK)(w_3:XK):Prop
 | mk (a:Addr) (n:Nd):(vs=[.ref a])->(NodeAt K H a n)->(∀ t H',Same H H'->PairsAt H' t n.pairs->Q (.ref t) H')->XR K vs H Q w_3
inductive UL (K:PySem.W.Frag)(vs:List V)(H:Hp)(Q:VK)(w_3:XK):Prop
 | mk (a:Addr) (n:Nd) (m:Int):(vs=[.ref a,.int m])->(NodeAt K H a n)->(Q (.bl (n.hasM m)) H)->UL K vs H Q w_3
inductive Wj (K:PySem.W.Frag)(vs:List V)(H:Hp)(Q:VK)(w_3:XK):Prop
 | mk (l:Addr) (qs:List Nat):(vs=[.ref l])->(H l=some (.lst (qs.map fun q:Nat=>V.int (q:Int))))->(qs.length=4)->(∀ a H',Same H H'->NodeAt K H' a (.fork qs)->Q (.ref a) H')->Wj K vs H Q w_3
end L2
namespace L2
open PySem
def CompV (J:It)(tc:TT)(te:TE)(σ:St)(D:Addr)(Q:VK)(H1:Hp):Prop :=
 ∃ W : Nat->Nat->List V->Hp->Prop,(∃ m,W 0 m [] (upd H1 D (.lst [])))/\∀ i m ys H2,W i m ys H2 ->
  (J.stop i H2/\Q (.ref D) H2)\/(J.go i H2/\∃ (N:VK) (M:Hp->Prop),(∀ y H4,N y H4->H4 D=some (.lst ys)/\ys.length < sizeLine/\∃ m',m' < m/\W (i+1) m' (ys++[y]) (upd H4 D (.lst (ys++[y]))))/\(∀ H4,M H4->∃ m',m' < m/\W (i+1) m' ys H4) /\
   ∀ v H3,J.yld i H2 v H3->tc (σ++[some v]) H3 fun b H4=>if b=true then te (σ++[some v]) H4 N else M H4)
def Zhp (wi:TI)(tc:TT)(te:TE):TE:=fun σ H Q=>wi σ H fun J H1=>∀ D,H1 D=none->CompV J tc te σ D Q H1
theorem CompV.n {J:It}{tc:TT}{te:TE}{σ:St}{D:Addr}{Q:VK}{H:Hp}{n:Nat}(hn:σ.length=n)(h:CompV J tc te σ D Q H):Zay J (WB n) tc te 1 (fun σ σ'=>∃ w,σ'=σ++[w]) σ D Q H:=by
 obtain ⟨W,w0,t⟩:=h
 refine ⟨W,w0,fun i m ys H2 w2=>(t i m ys H2 w2).imp (fun z=>z) fun ⟨go,N,M,hN,hM,hy⟩=>⟨go,N,M,hN,hM,fun ws v H3 hl y=>?_⟩⟩
 match ws,hl with
 | [w],_ =>
  show (∃ w',(σ++[w]).set n (some v)=σ++[w'])/\tc ((σ++[w]).set n (some v)) H3 _
  rw [set1 hn]
  exact ⟨⟨_,rfl⟩,hy v H3 y⟩
section
variable {X:Cx}{elt iter cnd:Expr}{x:Str}{px pos:Pos}{scope:Scope}{wi:TI}{te:TE}{tc:TT}
theorem Zdw (O:CompOk X scope x)(hc:X.calm=true)(hi:PI X (.Name x px) iter wi)(hcn:∀ cl C s₀ H₀ fp,PT (Uy X scope x cl C s₀ H₀ fp) cnd tc)(he:∀ cl C s₀ H₀ fp,PE (Uy X scope x cl C s₀ H₀ fp) elt te)
 (hs:∀ v,foldedSetIterable iter X.env v=pure v:=by intro _;rfl):PE X (.ListComp elt [⟨.Name x px,iter,[cnd],0⟩] scope pos) (Zhp wi tc te) :=
 Zdv (CW:=fun J σ D Q H=>CompV J tc te σ D Q H) O hc hi (fun _ _ _ _ _ hl h=>h.n hl) ok1 (Zbf O) (fun cl C s₀ H₀ fp=>.inr ⟨_,rfl,hcn cl C s₀ H₀ fp⟩) he hs
theorem VY {i:Nat}{y:Str}{py spos:Pos}(O:CompOk X scope x)(hc:X.calm=true)(hN:X.N.Nodup)(hiN:X.N[i]?=some y)(hy:Loc X.env.scope y)(hi:PI X (.Name x px) iter wi)(hcn:∀ cl C s₀ H₀ fp,PT (Uy X scope x cl C s₀ H₀ fp) cnd tc)(he:∀ cl C s₀ H₀ fp,PE (Uy X scope x cl C s₀ H₀ fp) elt te)
 (hsw:swapsWith (.ListComp elt [⟨.Name x px,iter,[cnd],0⟩] scope pos) (some (.Name y py)) spos.line X.env=pure true) (hf:X.fn y=true\/X.env.scope.names.lookup y=some .local:=by first | exact .inl rfl | exact .inr rfl | assumption)
 (hs:∀ v,foldedSetIterable iter X.env v=pure v:=by intro _;rfl):PS X (.Assign [.Name y py] (.ListComp elt [⟨.Name x px,iter,[cnd],0⟩] scope pos) spos) (ZbS (Zhp wi tc te) (WB i)) :=
 VX (CW:=fun J σ D Q H=>CompV J tc te σ D Q H) O hc hN hiN hy hi (fun _ _ _ _ _ hl h=>h.n hl) ok1 (Zbf O) (fun cl C s₀ H₀ fp=>.inr ⟨_,rfl,hcn cl C s₀ H₀ fp⟩) he hsw hf hs
end
theorem Zgj {K:PySem.W.Frag}{a:Addr}{xs:List V}{tc:TT}{te:TE}{σ:St}{D:Addr}{Q:VK}{H:Hp}(hn:xs.length<=sizeLine)(Pv:Nat->List V->Hp->Prop)(h0:Pv 0 [] (upd H D (.lst [])))
 (hl:∀ i ys H,Pv i ys H->ys.length<=i/\SqT K H a xs)
 (hs:∀ i x ys H,xs[i]?=some x->Pv i ys H->tc (σ++[some x]) H fun b H3=>if b=true then te (σ++[some x]) H3 fun y H4=>H4 D=some (.lst ys)/\Pv (i+1) (ys++[y]) (upd H4 D (.lst (ys++[y]))) else Pv (i+1) ys H3) (hd:∀ ys H,Pv xs.length ys H->Q (.ref D) H):CompV (Itt K a) tc te σ D Q H:=by
 refine ⟨fun i m ys H=>m=xs.length - i/\i<=xs.length/\Pv i ys H,⟨xs.length,by simp,Nat.zero_le _,h0⟩,?_⟩
 rintro i m ys H2 ⟨rfl,hi,p⟩
 obtain ⟨hlen,q⟩:=hl i ys _ p
 by_cases hlt:i < xs.length
 ·refine .inr ⟨⟨xs,xs[i],q,by simp [hlt]⟩,_,_,fun y H4 (q:H4 D=some (.lst ys)/\Pv (i+1) (ys++[y]) (upd H4 D (.lst (ys++[y]))))=>⟨q.1,by omega,xs.length - (i+1),by omega,rfl,hlt,q.2⟩,fun H4 (q:Pv (i+1) ys H4)=>⟨xs.length - (i+1),by omega,rfl,hlt,q⟩,fun v H3 y=>?_⟩
  obtain ⟨e,y⟩:=y
  subst e
  exact hs i v ys _ (y xs q) p
 ·have e:i=xs.length:=by omega
  subst e
  exact .inl ⟨⟨xs,q,Nat.le_refl _⟩,hd ys H2 p⟩
theorem UT {K:PySem.W.Frag}{a:Addr}{xs:List V}{tc:TT}{te:TE}{σ:St}{D:Addr}{Q:VK}{H:Hp}(hn:xs.length<=sizeLine)(Pv:Nat->List V->Hp->Prop)(h0:Pv 0 [] (upd H D (.lst [])))
 (hl:∀ i ys H,Pv i ys H->ys.length<=i/\SqL K H a xs)
 (hs:∀ i x ys H,xs[i]?=some x->Pv i ys H->tc (σ++[some x]) H fun b H3=>if b=true then te (σ++[some x]) H3 fun y H4=>H4 D=some (.lst ys)/\Pv (i+1) (ys++[y]) (upd H4 D (.lst (ys++[y]))) else Pv (i+1) ys H3) (hd:∀ ys H,Pv xs.length ys H->Q (.ref D) H):CompV (Itl K a) tc te σ D Q H:=by
 refine ⟨fun i m ys H=>m=xs.length - i/\i<=xs.length/\Pv i ys H,⟨xs.length,by simp,Nat.zero_le _,h0⟩,?_⟩
 rintro i m ys H2 ⟨rfl,hi,p⟩
 obtain ⟨hlen,q⟩:=hl i ys _ p
 by_cases hlt:i < xs.length
 ·refine .inr ⟨⟨xs,xs[i],q,by simp [hlt]⟩,_,_,fun y H4 (q:H4 D=some (.lst ys)/\Pv (i+1) (ys++[y]) (upd H4 D (.lst (ys++[y]))))=>⟨q.1,by omega,xs.length - (i+1),by omega,rfl,hlt,q.2⟩,fun H4 (q:Pv (i+1) ys H4)=>⟨xs.length - (i+1),by omega,rfl,hlt,q⟩,fun v H3 y=>?_⟩
  obtain ⟨e,y⟩:=y
  subst e
  exact hs i v ys _ (y xs q) p
 ·have e:i=xs.length:=by omega
  subst e
  exact .inl ⟨⟨xs,q,Nat.le_refl _⟩,hd ys H2 p⟩
end L2
namespace L2
open PySem PySem.Spec PyProof.Rows
section
variable {X:Cx}{elt iter tg:Expr}{xa xb:Str}{pos:Pos}{scope:Scope}{wi:TI}{te:TE}{g:TG}
end
section
variable {X:Cx}{elt iter tg cnd:Expr}{xa xb:Str}{pos:Pos}{scope:Scope}{wi:TI}{te:TE}{tc:TT}{g:TG}
end
end L2
namespace L2
open PySem
def YE:HO->Bool
 | .tup _=>false
 | .frz _ _=>false
 | .own _=>false
 | .met _ _=>false
 | .rng _ _=>false
 | .ext _=>false
 | _=>true
def Ug (H h:Hp):Hp:=fun b=>match h b with
 | some o=>if YE o=true then none else H b
 | none=>H b
def one (p:Addr)(o:HO):Hp:=fun b=>if b=p then some o else none
theorem one_some {p b:Addr}{o u:HO}:one p o b=some u↔b=p/\o=u:=by
 unfold one
 by_cases h:b=p
 ·rw [if_pos h];exact ⟨fun z=>⟨h,Option.some.inj z⟩,fun z=>by rw [z.2]⟩
 ·rw [if_neg h];exact ⟨fun z=>(by cases z),fun z=>absurd z.1 h⟩
abbrev YZ:=Addr->Hp->Prop
abbrev Rs:=List (Addr×YZ)
def Sep:Rs->Hp->Prop
 | [],_=>True
 | (a,R)::Δ,H=>∃ h,Same h H/\R a h/\Sep Δ (Ug H h)
theorem cut_some {H h:Hp}{b:Addr}{o:HO}:Ug H h b=some o↔H b=some o/\∀ u,h b=some u->YE u=false:=by
 unfold Ug
 cases e:h b with
 | none=>exact ⟨fun z=>⟨z,fun u q=>by cases q⟩,fun z=>z.1⟩
 | some v =>
  cases m:YE v with
  | true=>show (if YE v=true then none else H b)=some o↔_;rw [if_pos m];exact ⟨fun z=>(by cases z),fun z=>(by have:=z.2 v rfl;rw [m] at this;cases this)⟩
  | false=>show (if YE v=true then none else H b)=some o↔_;rw [if_neg (by rw [m];decide)];exact ⟨fun z=>⟨z,fun u q=>(by cases q;exact m)⟩,fun z=>z.1⟩
theorem ZaH {H h:Hp}:Same (Ug H h) H:=fun b o e=>(cut_some.mp e).1
theorem ZhM {H H' h:Hp}(s:Same H H'):Same (Ug H h) (Ug H' h):=fun b o e=>let ⟨x,y⟩:=cut_some.mp e;cut_some.mpr ⟨s _ _ x,y⟩
theorem Sep.mono:∀{Δ:Rs}{H H':Hp},Sep Δ H->Same H H'->Sep Δ H'
 | [],_,_,_,_=>trivial
 | (_,_)::_,_,_,⟨h,l,r,S⟩,s=>⟨h,l.trans s,r,S.mono (ZhM s)⟩
theorem Sep.swap {a b:Addr}{R T:YZ}{Δ:Rs}{H:Hp}(S:Sep ((a,R)::(b,T)::Δ) H):Sep ((b,T)::(a,R)::Δ) H:=by
 obtain ⟨h,l,r,g,m,t,S⟩:=S
 refine ⟨g,m.trans ZaH,t,h,fun c o e=>cut_some.mpr ⟨l _ _ e,fun u q=>?_⟩,r,S.mono fun c o e=>?_⟩
 ·obtain ⟨q1,q2⟩:=cut_some.mp (m _ _ q)
  have e2:=l _ _ e
  rw [q1] at e2;cases e2
  exact q2 _ e
 ·obtain ⟨e1,e2⟩:=cut_some.mp e
  obtain ⟨e3,e4⟩:=cut_some.mp e1
  exact cut_some.mpr ⟨cut_some.mpr ⟨e3,e2⟩,e4⟩
theorem Sep.tail {a:Addr}{R:YZ}{Δ:Rs}{H:Hp}(S:Sep ((a,R)::Δ) H):Sep Δ H:=by
 obtain ⟨h,l,r,S⟩:=S
 exact S.mono ZaH
class Pull (a:Addr) (Δ:Rs) (R:outParam YZ) (Δ':outParam Rs):Prop where
 out:∀ {H},Sep Δ H->Sep ((a,R)::Δ') H
instance (priority:=1000) Pull.here {a:Addr} {R:YZ} {Δ:Rs}:Pull a ((a,R)::Δ) R Δ:=⟨fun S=>S⟩
instance (priority:=900) Pull.there {a b:Addr} {R T:YZ} {Δ Δ':Rs} [P:Pull a Δ R Δ']:Pull a ((b,T)::Δ) R ((b,T)::Δ') :=
 ⟨fun S=>by
  obtain ⟨h,l,r,S⟩:=S
  exact Sep.swap ⟨h,l,r,P.out S⟩⟩
theorem Sep.pull {Δ Δ':Rs}{H:Hp}{R:YZ}(S:Sep Δ H)(a:Addr)[P:Pull a Δ R Δ']:Sep ((a,R)::Δ') H:=P.out S
theorem Sep.drop {Δ Δ':Rs}{H:Hp}{R:YZ}(S:Sep Δ H)(a:Addr)[P:Pull a Δ R Δ']:Sep Δ' H:=(P.out S).tail
class Up (R:YZ):Prop where
 up:∀ {a:Addr} {H H':Hp},R a H->Same H H'->R a H'
theorem Sep.get {Δ Δ':Rs}{H:Hp}{R:YZ}(S:Sep Δ H)(a:Addr)[P:Pull a Δ R Δ'][U:Up R]:R a H:=by
 obtain ⟨h,l,r,_⟩:=P.out S
 exact U.up r l
def Pt (o:HO):YZ:=fun a h=>h a=some o
abbrev XJ (xs:List V):YZ:=Pt (.lst xs)
abbrev Dic (kv:List (Zk×V)):YZ:=Pt (.dK kv)
abbrev Tup (xs:List V):YZ:=Pt (.tup xs)
instance {o:HO}:Up (Pt o):=⟨fun h s=>s _ _ h⟩
theorem Sep.new {Δ:Rs}{H:Hp}(S:Sep Δ H){p:Addr}(hp:H p=none)(o:HO):Sep ((p,Pt o)::Δ) (upd H p o):=by
 refine ⟨one p o,fun b u e=>?_,one_some.mpr ⟨rfl,rfl⟩,S.mono fun b u e=>?_⟩
 ·obtain ⟨rfl,rfl⟩:=one_some.mp e;exact Ze
 ·have hb:=Zn e hp
  exact cut_some.mpr ⟨by rw [Zi hb];exact e,fun v q=>absurd (one_some.mp q).1 hb⟩
theorem Sep.made {Δ:Rs}{H H':Hp}(S:Sep Δ H)(s:Same H H'){p:Addr}{o:HO}(hp:H p=none)(e:H' p=some o):Sep ((p,Pt o)::Δ) H':=by
 refine ⟨one p o,fun b u q=>?_,one_some.mpr ⟨rfl,rfl⟩,S.mono fun b u q=>?_⟩
 ·obtain ⟨rfl,rfl⟩:=one_some.mp q;exact e
 ·have hb:=Zn q hp
  exact cut_some.mpr ⟨s _ _ q,fun v q=>absurd (one_some.mp q).1 hb⟩
theorem Sep.put {Δ Δ':Rs}{H:Hp}{o:HO}(S:Sep Δ H)(a:Addr)(o':HO)[P:Pull a Δ (Pt o) Δ'](m:YE o=true:=by rfl):Sep ((a,Pt o')::Δ') (upd H a o'):=by
 obtain ⟨h,l,r,S⟩:=P.out S
 refine ⟨one a o',fun b u q=>?_,one_some.mpr ⟨rfl,rfl⟩,S.mono fun b u q=>?_⟩
 ·obtain ⟨rfl,rfl⟩:=one_some.mp q;exact Ze
 ·obtain ⟨q1,q2⟩:=cut_some.mp q
  have hb:b≠a:=fun z=>by
   have:=q2 o (by rw [z];exact r)
   rw [m] at this;cases this
  exact cut_some.mpr ⟨by rw [Zi hb];exact q1,fun v q=>absurd (one_some.mp q).1 hb⟩
theorem Sep.say {Δ Δ':Rs}{H:Hp}{R:YZ}(S:Sep Δ H)(a:Addr)(T:YZ)[P:Pull a Δ R Δ'](f:∀ h,R a h->T a h):Sep ((a,T)::Δ') H:=by
 obtain ⟨h,l,r,S⟩:=P.out S
 exact ⟨h,l,f h r,S⟩
theorem Sep.call {Δ:Rs}{H H':Hp}{a:Addr}{R T:YZ}{L:List Addr}(S:Sep ((a,R)::Δ) H)(k:∀ b o,b ∉ L->H b=some o->H' b=some o)
 (f:∀ h,Same h H->R a h->(∀ b∈L,∃ o,h b=some o/\YE o=true)/\∃ h',Same h' H'/\T a h'/\∀ b o,h' b=some o->YE o=true->b∈L\/H b=none\/∃ u,h b=some u/\YE u=true):Sep ((a,T)::Δ) H':=by
 obtain ⟨h,l,r,S⟩:=S
 obtain ⟨f1,h',l',t,f2⟩:=f h l r
 refine ⟨h',l',t,S.mono fun b o e=>?_⟩
 obtain ⟨e1,e2⟩:=cut_some.mp e
 have hb:b ∉ L:=fun z=>by
  obtain ⟨u,q1,q2⟩:=f1 b z
  rw [e2 u q1] at q2;cases q2
 refine cut_some.mpr ⟨k b o hb e1,fun u q=>?_⟩
 cases m:YE u with
 | false=>rfl
 | true =>
  rcases f2 b u q m with z | z | ⟨v,z1,z2⟩
  ·exact absurd z hb
  ·rw [e1] at z;cases z
  ·rw [e2 v z1] at z2;cases z2
abbrev Bx (n:Nat):YZ:=fun a h=>BoxAt h a n
instance {n:Nat}:Up (Bx n):=⟨fun h s=>h.same s⟩
theorem Sep.box {Δ:Rs}{H H':Hp}{p:Addr}{n m:Nat}(S:Sep ((p,Bx n)::Δ) H)(k:Kp p H H')(B:BoxAt H' p m):Sep ((p,Bx m)::Δ) H':=by
 refine S.call (L:=[p]) (fun b o nb e=>k b o (fun z=>nb (by simp [z])) e) fun h l r=>⟨fun b hb=>?_,?_⟩
 ·rw [mem_singleton.mp hb]
  obtain ⟨x,y,z,e,_⟩:=r
  exact ⟨_,e,rfl⟩
 ·obtain ⟨x,y,z,e,w⟩:=B
  refine ⟨one p (.lst [.int x,.int y,.int z]),fun b u q=>?_,⟨x,y,z,one_some.mpr ⟨rfl,rfl⟩,w⟩,fun b o q _=>.inl (by simp [(one_some.mp q).1])⟩
  obtain ⟨rfl,rfl⟩:=one_some.mp q;exact e
inductive ZbQ (M:Int)(vs:List V)(H:Hp)(Q:VK)(w_3:XK):Prop
 | mk (p:Addr) (n:Nat) (m:Int) (Δ:Rs):(vs=[.ref p,.int m])->(Sep ((p,Bx n)::Δ) H)->(n<=1000000)->(0 < m)->(m < M)->(∀ (r:Int) (H':Hp),0<=r->r < m->Sep ((p,Bx (n+1))::Δ) H'->Q (.int r) H')->ZbQ M vs H Q w_3
theorem Zmf {M:Int}{vs:List V}{H:Hp}{Q:VK}{E:XK}(h:ZbQ M vs H Q E):Ua M vs H Q E:=by
 obtain ⟨p,n,m,Δ,e,S,h1,h2,h3,q⟩:=h
 exact ⟨p,n,m,e,S.get p,h1,h2,h3,fun r H' a b B k=>q r H' a b (S.box k B)⟩
theorem ZfJ {x:V}{u:Value}(h:Zfl u=some x):RelV x u:=by
 cases u<;>first | (cases h;exact rfl) | (cases h;exact ⟨_,rfl⟩) | cases h
theorem Zaa:∀{xs:List V}{us:List Value},us.map Zfl=xs.map some->Vals xs us
 | [],[],_=>.nil
 | [],_::_,h=>by cases h
 | _::_,[],h=>by cases h
 | x::xs,u::us,h=>by
  rw [map_cons,map_cons,List.cons.injEq] at h
  exact .cons (ZfJ h.1) (Zaa h.2)
def ZcU (K:PySem.W.Frag)(a:Addr)(vs:List V):Bool:=match K.lookup a with
 | some ⟨.type "tuple",_,.seq its _,_⟩=>decide (its.size<=100000)&&decide (its.toList.map Zfl=vs.map some)
 | _=>false
theorem ZdU {K:PySem.W.Frag}{a:Addr}{vs:List V}(h:ZcU K a vs=true)(H:Hp):SqT K H a vs:=by
 unfold ZcU at h
 split at h
 ·rename_i its n _ hk
  simp only [Bool.and_eq_true,decide_eq_true_eq] at h
  exact .inr ⟨_,its,n,hk,rfl,rfl,Nat.le_trans h.1 (by decide),Zaa h.2⟩
 ·cases h
structure Wa (mg:Str->Option Value):Prop where
 len:mg "len"=none
 abs:mg "abs"=none
 int:mg "int"=none
 range:mg "range"=none
 min:mg "min"=none
 max:mg "max"=none
 repr:mg "repr"=none
 enumerate:mg "enumerate"=none
 ord:mg "ord"=none
 list:mg "list"=none
 tuple:mg "tuple"=none
 dict:mg "dict"=none
 sorted:mg "sorted"=none
 sum:mg "sum"=none
 all:mg "all"=none
 any:mg "any"=none
 divmod:mg "divmod"=none
 str:mg "str"=none
 isinstance:mg "isinstance"=none
 set:mg "set"=none
 zip:mg "zip"=none
 reversed:mg "reversed"=none
 bool:mg "bool"=none
abbrev DTk (P:Program)(w:World)(K:PySem.W.Frag)(mg:Str->Option Value)(base:Heap)(k:Nat):Prop:=Def P w K mg base k "_law_take" ["_law_box_here","_law_many"] (ZbQ 4611686018427387904)
theorem FnOk.conv {P:Program}{w:World}{K:PySem.W.Frag}{mg:Str->Option Value}{base:Heap}{k:Nat}{f:Addr}{fd:FuncData}{ps:List Str}{sp sp':Sp}(F:FnOk P w K mg base ZK k f fd ps sp)(h:∀ vs H Q E,sp' vs H Q E->sp vs H Q E):FnOk P w K mg base ZK k f fd ps sp' :=
 ⟨fun vs H Q E z=>F.len vs H Q E (h vs H Q E z),fun A outer s H args us vs Q E hr he hb hv z=>F.run A outer s H args us vs Q E hr he hb hv (h vs H Q E z)⟩
theorem Def.conv {P:Program}{w:World}{K:PySem.W.Frag}{mg:Str->Option Value}{base:Heap}{k:Nat}{x:Str}{ps:List Str}{sp sp':Sp}(D:Def P w K mg base k x ps sp)(h:∀ vs H Q E,sp' vs H Q E->sp vs H Q E):Def P w K mg base k x ps sp' :=
 let ⟨f,fd,F,b,kp,m⟩:=D;⟨f,fd,F.conv h,b,kp,m⟩
theorem ZkT {α:Type}{xs:List α}{r:Int}{v:α}(h0:0<=r)(h:xs[r.toNat]?=some v):YA xs r=some v:=by
 have z:YA xs ((r.toNat:Nat):Int)=some v:=ZJ h
 rwa [show ((r.toNat:Nat):Int)=r by omega] at z
theorem small {n m:Nat}(h:n<=m)(hm:m<=100000:=by decide):n<=sizeLine:=Nat.le_trans (Nat.le_trans h hm) (by decide)
theorem XU {n m:Nat}(h:n<=m)(hm:m<=100000:=by decide):n < sizeLine:=Nat.lt_of_le_of_lt (Nat.le_trans h hm) (by decide)
def DefM (P:Program)(w:World)(K:PySem.W.Frag)(mg:Str->Option Value)(base:Heap)(k:Nat)(C:Addr)(m:Str)(ps:List Str)(sp:Sp):Prop:=∃ f fd,FnOk P w K mg base ZK k f fd ps sp/\Binds K fd ps []/\Zac K C m f
theorem DefM.mono {P:Program}{w:World}{K:PySem.W.Frag}{mg:Str->Option Value}{base:Heap}{j k:Nat}{C:Addr}{m:Str}{ps:List Str}{sp:Sp}(D:DefM P w K mg base j C m ps sp)(h:j<=k):DefM P w K mg base k C m ps sp :=
 let ⟨f,fd,F,b,q⟩:=D;⟨f,fd,F.mono h,b,q⟩
section
variable {X:Cx}{k:Nat}{C:Addr}{m:Str}{ps:List Str}{sp:Sp}{pos apos:Pos}{o e:Expr}{es:List Expr}{ta:TE}{t:TA}
theorem YY {pl:Sem Bool}(D:DefM X.prog X.w X.K X.mg X.base k C m ps sp)(c:Cls X.K C)(hr:Room k X.A)(he:PE X o ta)(ha:PA X (e::es) t)
 (hst:starEach (e::es) X.env=(false,eval e X.env)::starEach es X.env:=by rfl) (hpl:(backTo pos (starEach es X.env)).any (·.1)=false:=by rfl)
 (ht:eval (.Call (.Attribute o m apos) (e::es) [] pos) X.env=(do
  let ov <- eval o X.env
  standAt apos.atName
  let (f,first) <- holding [ov] (getMethod ov m pl)
  callWith pos f first (backTo pos (starEach (e::es) X.env)) (backToKw pos (keywordEach [] X.env))):=by rfl) :
 PE X (.Call (.Attribute o m apos) (e::es) [] pos) (ZcT C m sp [] E0 ta t):=by
 obtain ⟨f,fd,F,b,q⟩:=D
 exact Zkp he c q F hr b .nil ZcM ha hst hpl ht
end
def Kq (S:List Addr)(H H':Hp):Prop:=∀ b o,b ∉ S->H b=some o->H' b=some o
theorem Kq.trans {S:List Addr}{H H1 H2:Hp}(a:Kq S H H1)(b:Kq S H1 H2):Kq S H H2:=fun x o n h=>b x o n (a x o n h)
theorem Kq.sub {S S':List Addr}{H H':Hp}(a:Kq S H H')(h:∀ b∈S,b∈S'):Kq S' H H':=fun x o n e=>a x o (fun z=>n (h x z)) e
theorem Same.kq {S:List Addr}{H H':Hp}(h:Same H H'):Kq S H H':=fun b o _ e=>h b o e
theorem ZaV {H:Hp}{a:Addr}{o:HO}:Kq [a] H (upd H a o):=fun b u n e=>by rw [Zi (fun z=>n (by simp [z]))];exact e
theorem tn:¬ (("nodes":Str)="tables"):=by decide +kernel
def Zak (ln dt:Addr):List (Str×V):=Xk "tables" (.ref dt) (Xk "nodes" (.ref ln) [])
theorem Xe (ln dt:Addr):(Zak ln dt).lookup ("nodes":Str)=some (.ref ln):=by unfold Zak;rw [YO,if_neg tn,YO,if_pos rfl]
theorem Zgp (ln dt:Addr):(Zak ln dt).lookup ("tables":Str)=some (.ref dt):=by unfold Zak;rw [YO,if_pos rfl]
theorem ZN (ln dt:Addr){m:Str}(h1:¬ m="tables")(h2:¬ m="nodes"):(Zak ln dt).lookup m=none:=by
 unfold Zak
 rw [YO,if_neg h1,YO,if_neg h2]
 rfl
structure StoreAt (K:PySem.W.Frag)(C st ln dt:Addr)(H:Hp)(nds:List Nd)(tabs:List (Zk×V)):Prop where
 ob:∃ dx,H st=some (.ins C dx (Zak ln dt))
 nl:∃ as:List Addr,H ln=some (.lst (as.map V.ref))/\as.length=nds.length/\∀ (i:Nat) (a:Addr) (n:Nd),as[i]?=some a->nds[i]?=some n->NodeAt K H a n
 tb:H dt=some (.dK tabs)
theorem StoreAt.keep {K:PySem.W.Frag}{C st ln dt:Addr}{H H':Hp}{nds:List Nd}{tabs:List (Zk×V)}(S:StoreAt K C st ln dt H nds tabs)(h:Same H H'):StoreAt K C st ln dt H' nds tabs:=by
 obtain ⟨⟨dx,e⟩,⟨as,e2,l,hn⟩,e3⟩:=S
 exact ⟨⟨dx,h _ _ e⟩,⟨as,h _ _ e2,l,fun i a n x y=>(hn i a n x y).tf h.tf⟩,h _ _ e3⟩
theorem StoreAt.kq {K:PySem.W.Frag}{C st ln dt:Addr}{H H':Hp}{nds:List Nd}{tabs:List (Zk×V)}{L:List Addr}(S:StoreAt K C st ln dt H nds tabs)(k:Kq L H H')(t:TF H H')(h1:st ∉ L)(h2:ln ∉ L)(h3:dt ∉ L):StoreAt K C st ln dt H' nds tabs:=by
 obtain ⟨⟨dx,e⟩,⟨as,e2,l,hn⟩,e3⟩:=S
 exact ⟨⟨dx,k _ _ h1 e⟩,⟨as,k _ _ h2 e2,l,fun i a n x y=>(hn i a n x y).tf t⟩,k _ _ h3 e3⟩
theorem Grown.kq {Pl:Addr}{H H':Hp}(g:Grown Pl H H'):Kq [Pl] H H':=fun b o n e=>g b o (fun z=>n (by simp [z])) e
theorem LamAt.kq {H H':Hp}{Pl:Addr}{lpos:Pos}{q:Str}{L:List Addr}(h:LamAt H Pl lpos q)(k:Kq L H H')(hL:∀ b∈L,∃ xs,H b=some (.lst xs)):LamAt H' Pl lpos q:=by
 rcases h with h | ⟨c,h,h2⟩
 ·exact .inl (k _ _ (fun z=>by obtain ⟨_,e⟩:=hL _ z;rw [h] at e;cases e) h)
 ·exact .inr ⟨c,k _ _ (fun z=>by obtain ⟨_,e⟩:=hL _ z;rw [h] at e;cases e) h,k _ _ (fun z=>by obtain ⟨_,e⟩:=hL _ z;rw [h2] at e;cases e) h2⟩
theorem ZiL {κ:Type}[DecidableEq κ]{kvs:List (κ×V)}{k:κ}{v:V}{q:κ×V}(h:q∈ZQ kvs k v):q.1=k\/∃ r∈kvs,q.1=r.1:=by
 unfold ZQ at h
 split at h
 ·obtain ⟨r,hr,e⟩:=mem_map.mp h
  split at e
  ·rw [<- e];exact .inr ⟨r,hr,rfl⟩
  ·rw [<- e];exact .inr ⟨r,hr,rfl⟩
 ·rcases mem_append.mp h with h | h
  ·exact .inr ⟨q,h,rfl⟩
  ·rw [mem_singleton.mp h];exact .inl rfl
theorem ZiK {κ:Type}[DecidableEq κ]{kvs:List (κ×V)}{k:κ}{v:V}:(ZQ kvs k v).length<=kvs.length+1:=by
 unfold ZQ
 split
 ·rw [length_map];omega
 ·rw [length_append];exact Nat.le_refl _
theorem Zks {κ:Type}[DecidableEq κ]{kvs:List (κ×V)}{k:κ}{v:V}:ZQ kvs k v≠[]:=by
 unfold ZQ
 split
 ·rename_i h
  intro z
  rw [List.map_eq_nil_iff] at z
  rw [z] at h;cases h
 ·intro z;simp at z
theorem Zby {α:Type}{xs:List α}{r:Int}(h0:0<=r)(h1:r < (xs.length:Int)):∃ v,YA xs r=some v/\v∈xs:=by
 have hk:r.toNat < xs.length:=by omega
 have z:YA xs ((r.toNat:Nat):Int)=some xs[r.toNat]:=ZJ (getElem?_eq_getElem hk)
 have e:((r.toNat:Nat):Int)=r:=by omega
 rw [e] at z
 exact ⟨_,z,List.getElem_mem hk⟩
def XT:V->Prop
 | .int i=>i.natAbs < 10 ^ 30
 | .str x=>x.length<=40/\x.cps.toList.all sgn=true
 | _=>False
def ZfW:V->Bool
 | .int i=>decide (i.natAbs < 10 ^ 30)
 | .str x=>decide (x.length<=40)&&x.cps.toList.all sgn
 | _=>false
theorem Zdo {v:V}(h:ZfW v=true):XT v:=by
 cases v with
 | int i=>exact of_decide_eq_true (p:=i.natAbs < 10 ^ 30) h
 | str x =>
  have h':(decide (x.length<=40)&&x.cps.toList.all sgn)=true:=h
  simp only [Bool.and_eq_true,decide_eq_true_eq] at h'
  exact h'
 | _=>cases h
inductive ZbR  (vs:List V) (H:Hp) (Q:VK) (w_3:XK):Prop
 | mk (p:Addr) (n:Nat):(vs=[.ref p])->(BoxAt H p n)->(n<=900000)->(∀ (v:V) (H':Hp),XT v->BoxAt H' p (n+50)->Kp p H H'->Q v H')->ZbR vs H Q w_3
def Zjq:List Stmt->Str
 | .Assign _ (.Constant (.str x) _ _) _::_=>x
 | _::r=>Zjq r
 | []=>Str.empty
theorem FnOk.ex {P:Program}{w:World}{K:PySem.W.Frag}{mg:Str->Option Value}{base:Heap}{k:Nat}{f:Addr}{fd:FuncData}{ps:List Str}{ok:List Str->Prop}{sp:List Str->Sp}(F:∀ NS,ok NS->FnOk P w K mg base ZK k f fd ps (sp NS)) :
 FnOk P w K mg base ZK k f fd ps (fun vs H Q E=>∃ NS,ok NS/\sp NS vs H Q E) :=
 ⟨fun vs H Q E ⟨NS,N,h⟩=>(F NS N).len vs H Q E h,fun A outer s H args us vs Q E hr he hb hv ⟨NS,N,h⟩=>(F NS N).run A outer s H args us vs Q E hr he hb hv h⟩
def ZhD (P:Program)(w:World)(K:PySem.W.Frag)(mg:Str->Option Value)(base:Heap)(k:Nat)(C:Addr)(x:Str)(ps:List Str)(sp:Sp):Prop:=∃ f fd,FnOk P w K mg base ZK k f fd ps sp/\Binds K fd ps []/\Mk K C f/\mg x=some (.ref C)
theorem ZmE {X:Cx}{k:Nat}{C:Addr}{x:Str}{ps:List Str}{sp:Sp}{p pos:Pos}(D:ZhD X.prog X.w X.K X.mg X.base k C x ps sp)(hr:Room (k+1) X.A)(hg:Gl X x:=by rfl)(hdb:(x == ("__debug__":Str))=false:=by decide) :
 PE X (.Call (.Name x p) [] [] pos) (ZjE C sp [] E0 XW):=by
 obtain ⟨f,fd,F,b,M,m⟩:=D
 exact Ziz M F hr hg m b .nil ZcM hdb
theorem SqL.obj {K:PySem.W.Frag}{H:Hp}{a:Addr}{xs:List V}(h:SqL K H a xs):(∀ H',SqL K H' a xs)\/∃ o,H a=some o/\(∀ tb,o≠.tbl tb)/\∀ H',H' a=some o->SqL K H' a xs:=by
 rcases h with (h | ⟨o,h⟩) | h
 ·exact .inr ⟨_,h,(fun tb z=>by cases z),fun H' e=>.inl (.inl e)⟩
 ·exact .inr ⟨_,h,(fun tb z=>by cases z),fun H' e=>.inl (.inr ⟨o,e⟩)⟩
 ·exact .inl fun H'=>.inr h
theorem Xt {H H':Hp}{a:Addr}(s:Same H H')(h:H' a=none):H a=none:=by
 cases e:H a with
 | none=>rfl
 | some o=>rw [s _ _ e] at h;cases h
end L2
namespace L2
open PySem PySem.Spec PyProof.Rows
theorem Sep.pack' {Δ:Rs}:∀{Γ:Rs}{H:Hp},Sep (Γ++Δ) H->∃ h,Same h H/\Sep Γ h/\Sep Δ (Ug H h)
 | [],H,S=>⟨fun _=>none,fun b o e=>(by cases e),trivial,S.mono fun b o e=>cut_some.mpr ⟨e,fun u q=>(by cases q)⟩⟩
 | (b,T)::Γ,H,⟨g,m,t,S⟩=>by
  obtain ⟨h',l',G,S⟩:=Sep.pack' S
  refine ⟨fun c=>match g c with | some o=>some o | none=>h' c,fun c o e=>?_,⟨g,fun c o e=>?_,t,G.mono fun c o e=>?_⟩,S.mono fun c o e=>?_⟩
  ·cases q:g c with
   | some u=>simp only [q] at e;cases e;exact m _ _ q
   | none=>simp only [q] at e;exact (cut_some.mp (l' _ _ e)).1
  ·simp only [e]
  ·obtain ⟨e1,e2⟩:=cut_some.mp (l' _ _ e)
   refine cut_some.mpr ⟨?_,e2⟩
   cases q:g c with
   | some u=>simp only [q];rw [m _ _ q] at e1;exact e1
   | none=>simp only [q];exact e
  ·obtain ⟨e1,e2⟩:=cut_some.mp e
   obtain ⟨e3,e4⟩:=cut_some.mp e1
   refine cut_some.mpr ⟨e3,fun u q=>?_⟩
   cases z:g c with
   | some v=>simp only [z] at q;cases q;exact e4 _ z
   | none=>simp only [z] at q;exact e2 _ q
theorem Sep.pack {a:Addr}{Γ Δ:Rs}{H:Hp}{R:YZ}(S:Sep (Γ++Δ) H)(f:∀ h,Sep Γ h->R a h):Sep ((a,R)::Δ) H:=by
 obtain ⟨h,l,G,S⟩:=Sep.pack' S
 exact ⟨h,l,f h G,S⟩
section
variable {X:Cx}
inductive Zhc (x:V)(y:V)(H:Hp)(Q:VK):Prop
 | mk (dx:_) (dy:_):(DataOf H x dx)->(DataOf H y dy)->(dx.canLay0=true)->(dy.canLay0=true)->(dx.depth<=60)->(Q (.bl (!PyData.eqv dx dy)) H)->Zhc x y H Q
def rNeD :R2:=fun x y H Q=>Zhc x y H Q
theorem ZlA (hu:X.A.units+64 < cLine):YK X (compareOp .NotEq) rNeD:=by
 intro pins s σ H x y v u Q I rx ry h
 obtain ⟨dx,dy,d1,d2,c1,c2,hd,q⟩:=h
 obtain ⟨_,as,r1⟩:=DataOf.reads I.hok v d1 rx
 obtain ⟨_,bs,r2⟩:=DataOf.reads I.hok u d2 ry
 exact SeqAt.compareNe_reads r1 r2 c1 c2 (by omega) ⟨.bl _,H,I,rfl,q⟩
end
section
variable {X:Cx}{k:Nat}{C:Addr}{x m:Str}{ps:List Str}{sp:Sp}{p pos apos:Pos}{o:Expr}{ta:TE}
theorem Zju {pl:Sem Bool}(D:DefM X.prog X.w X.K X.mg X.base k C m ps sp)(c:Cls X.K C)(hr:Room k X.A)(he:PE X o ta)
 (ht:eval (.Call (.Attribute o m apos) [] [] pos) X.env=(do
  let ov <- eval o X.env
  standAt apos.atName
  let (f,first) <- holding [ov] (getMethod ov m pl)
  callWith pos f first (backTo pos (starEach [] X.env)) (backToKw pos (keywordEach [] X.env))):=by rfl) :
 PE X (.Call (.Attribute o m apos) [] [] pos) (ZcT C m sp [] E0 ta XW):=by
 obtain ⟨f,fd,F,b,q⟩:=D
 exact ZiA he c q F hr b .nil ZcM ht
end
section
variable {X:Cx}
end
theorem Vk {X:Cx}{K:PySem.W.Frag}(hK:X.K=K):YK X (compareOp .NotIn) (rIn K true):=by subst hK;exact Zdt
section
variable {X:Cx}
end
end L2
namespace L2
open PySem
theorem Sep.newE {Δ:Rs}{H H2:Hp}{o:HO}(S:Sep Δ H){p:Addr}(hp:H p=none)(e:upd H p o=H2):Sep ((p,Pt o)::Δ) H2:=e ▸ S.new hp o
theorem Sep.putE {Δ Δ':Rs}{H H2:Hp}{o o':HO}{a:Addr}(S:Sep Δ H)(e:upd H a o'=H2)[P:Pull a Δ (Pt o) Δ'](m:YE o=true:=by rfl):Sep ((a,Pt o')::Δ') H2:=e ▸ S.put a o' m
end L2
namespace L2
open PySem PySem.W PySem.Spec PyProof.Rows
section
variable {prog:Program}{w:World}{A:Around}{E:Value->Shared->Prop}{s:Shared}{a:Addr}{as:List Addr}{ks:List Str}{P:PySem.Fin->Shared->Prop}
end
section
variable {X:Cx}
def kP (p:Str×V):Zk×V:=(Sum.inr p.1,p.2)
end
end L2
namespace L2
open PySem
def XA (x:Str):Prop:=1<=x.length/\x.length<=8/\x.cps.toList.all YW=true
theorem UD (c:Nat):(⟨#[c]⟩:Str).length=1:=rfl
def a26:Str:="abcdefghijklmnopqrstuvwxyz"
theorem Zeq:a26.length=26:=by decide +kernel
theorem ZjK:a26.cps.toList.all YW=true:=by decide +kernel
theorem Zln {α:Type}{f:α->V}{xs:List α}{r:Int}(h0:0<=r)(h1:r < (xs.length:Int)):∃ x∈xs,YA (xs.map f) r=some (f x):=by
 have hl:r.toNat < xs.length:=by omega
 exact ⟨_,List.getElem_mem hl,ZkT h0 (by rw [getElem?_map,getElem?_eq_getElem hl];rfl)⟩
theorem Sep.le {Δ:Rs}{H:Hp}{p:Addr}{n m:Nat}(S:Sep ((p,Bx n)::Δ) H)(h:n<=m):Sep ((p,Bx m)::Δ) H:=by
 obtain ⟨g,l,r,S⟩:=S
 exact ⟨g,l,BoxAt.le r h,S⟩
inductive Vf  (vs:List V) (H:Hp) (Q:VK) (w_3:XK):Prop
 | mk (p:Addr) (n:Nat) (Δ:Rs):(vs=[.ref p])->(Sep ((p,Bx n)::Δ) H)->(n<=900000)->(∀ (v:V) (H':Hp),XT v->Sep ((p,Bx (n+50))::Δ) H'->Q v H')->Vf vs H Q w_3
theorem ZkG {vs:List V}{H:Hp}{Q:VK}{E:XK}(h:Vf vs H Q E):ZbR vs H Q E:=by
 obtain ⟨p,n,Δ,e,S,h1,q⟩:=h
 exact ⟨p,n,e,S.get p,h1,fun v H' hv B k=>q v H' hv (S.box k B)⟩
inductive Zbl (K:PySem.W.Frag)(vs:List V)(H:Hp)(Q:VK)(w_3:XK):Prop
 | mk (a:Addr) (ns:List Int) (k:Int) (Δ:Rs):(vs=[.ref a,.int k])->(SqL K H a (ns.map V.int))->(Sep Δ H)->(0<=k)->(k<=1000)->(∀ (p:Addr) (H':Hp),Same H H'->Sep ((p,Bx 0)::Δ) H'->Q (.ref p) H')->Zbl K vs H Q w_3
theorem Zmn {K:PySem.W.Frag}{vs:List V}{H:Hp}{Q:VK}{E:XK}(h:Zbl K vs H Q E):ZfP K vs H Q E:=by
 obtain ⟨a,ns,k,Δ,e,hS,S,h1,h2,q⟩:=h
 refine ⟨a,ns,k,e,hS,h1,h2,fun p H' hp B s=>q p H' s ?_⟩
 obtain ⟨x,y,z,eb,w⟩:=B
 exact (S.made s hp eb).say p (Bx 0) fun h r=>⟨x,y,z,r,w⟩
class IsLst (R:YZ) (k:Nat):Prop where
 lst:∀ {a h},R a h->∃ xs,h a=some (.lst xs)/\xs.length=k
theorem VZ (B:Nat):∀(ts:List Str)(k:Nat)(acc:Str),(∀ t∈ts,t.length<=B)->(textFrom k acc ts).length<=acc.length+ts.length * (B+2)
 | [],_,acc,_=>by show acc.length<=acc.length+0 * (B+2);omega
 | t::r,k,acc,h=>by
  have h1:=VZ B r (k+1) (acc++(if k > 0 then ", " else "":String)++t) fun x hx=>h x (mem_cons_of_mem _ hx)
  have h2:=h t mem_cons_self
  rw [WF,WF] at h1
  have h3:(Str.ofString (if k > 0 then ", " else "":String)).length<=2:=by split<;>decide
  show (textFrom (k+1) (acc++(if k > 0 then ", " else "":String)++t) r).length<=acc.length+(r.length+1) * (B+2)
  rw [Nat.add_mul,Nat.one_mul]
  omega
theorem ZeB {i:Int}(h:i.natAbs<=10 ^ 31):i.natAbs.log2 < 1920/\(Str.ofString (toString i)).length<=40:=by
 constructor
 ·by_cases z:i.natAbs=0
  ·rw [z];decide
  ·exact (Nat.log2_lt z).mpr (Nat.lt_of_le_of_lt h (by decide +kernel))
 ·have e:=int_text_length_le10 (a:=i) (k:=32) (by decide) (Nat.lt_of_le_of_lt h (by decide))
  rw [Xj,PyProof.Rows.signs_ofString,length_map,String.length_toList]
  omega
structure Sml (d:PyData)(n k:Nat):Prop where
 sh:d.showable=true
 ln:d.shown.length<=n
 dp:d.depth<=k
theorem VC:∀ ds:List PyData,PyData.shownAll ds=ds.map PyData.shown
 | []=>rfl
 | d::r=>by rw [PyData.shownAll,VC r];rfl
theorem UI:∀{ds:List PyData},(∀ d∈ds,d.showable=true)->PyData.showableAll ds=true
 | [],_=>rfl
 | d::r,h=>by rw [PyData.showableAll,h d mem_cons_self,UI fun e he=>h e (mem_cons_of_mem _ he)];rfl
theorem VS {k:Nat}:∀{ds:List PyData},(∀ d∈ds,d.depth<=k)->PyData.depthAll ds<=k
 | [],_=>Nat.zero_le _
 | d::r,h=>by
  have h1:=h d mem_cons_self
  have h2:=VS (k:=k) (ds:=r) fun e he=>h e (mem_cons_of_mem _ he)
  simp [PyData.depthAll];omega
theorem Zie {ds:List PyData}{n k:Nat}(h:∀ d∈ds,Sml d n k):Sml (.list ds) (2+ds.length * (n+2)) (k+1):=by
 refine ⟨UI fun d hd=>(h d hd).sh,?_,?_⟩
 ·show (listText (PyData.shownAll ds)).length<=_
  rw [VC]
  show (textFrom 0 "[" (ds.map PyData.shown)++Str.ofString "]").length<=_
  rw [WF]
  have z:=VZ n (ds.map PyData.shown) 0 "[" (fun t ht=>by
   obtain ⟨d,hd,rfl⟩:=mem_map.mp ht
   exact (h d hd).ln)
  rw [length_map] at z
  have z1:(Str.ofString "[").length=1:=by decide
  have z2:(Str.ofString "]").length=1:=by decide
  have z3:(textFrom 0 "[" (ds.map PyData.shown)).length<=1+ds.length * (n+2):=by rw [<- z1];exact z
  omega
 ·have:=VS (k:=k) fun d hd=>(h d hd).dp
  show PyData.depthAll ds+1<=_
  omega
def Xo (K:PySem.W.Frag)(C:Addr)(nds:List Nd)(tabs:List (Zk×V)):YZ:=fun st h=>nds[0]?=some .bare/\∃ ln dt,StoreAt K C st ln dt h nds tabs
def Zfh (lp:Pos)(q:Str):YZ:=fun Pl h=>LamAt h Pl lp q
instance {K:PySem.W.Frag} {C:Addr} {nds:List Nd} {tabs:List (Zk×V)}:Up (Xo K C nds tabs):=⟨fun ⟨h0,ln,dt,h⟩ s=>⟨h0,ln,dt,h.keep s⟩⟩
theorem LamAt.same' {H H':Hp}{Pl:Addr}{lp:Pos}{q:Str}(h:LamAt H Pl lp q)(s:Same H H'):LamAt H' Pl lp q:=by
 rcases h with h | ⟨c,h1,h2⟩
 ·exact .inl (s _ _ h)
 ·exact .inr ⟨c,s _ _ h1,s _ _ h2⟩
def some_of (H:Hp)(L:List Addr):Hp:=fun b=>if b∈L then H b else match H b with
 | some o=>if YE o=true then none else some o
 | none=>none
theorem WK {H:Hp}{L:List Addr}:Same (some_of H L) H:=fun b o e=>by
 unfold some_of at e
 split at e
 ·exact e
 ·split at e
  ·rename_i o' h'
   split at e
   ·cases e
   ·cases e;exact h'
  ·cases e
theorem XO {H:Hp}{L:List Addr}{b:Addr}(h:b∈L):some_of H L b=H b:=by unfold some_of;rw [if_pos h]
theorem UK {H:Hp}{L:List Addr}{b:Addr}{o:HO}(e:H b=some o)(m:YE o=false):some_of H L b=some o:=by
 unfold some_of
 split
 ·exact e
 ·simp only [e,m,Bool.false_eq_true,if_false]
theorem Wi {H:Hp}{L:List Addr}{b:Addr}{o:HO}(e:some_of H L b=some o)(m:YE o=true):b∈L:=by
 unfold some_of at e
 split at e
 ·assumption
 ·split at e
  ·split at e
   ·cases e
   ·rename_i h;cases e;exact absurd m h
  ·cases e
theorem ZeY {H:Hp}{L:List Addr}:TF H (some_of H L):=⟨fun b xs e=>UK e rfl,fun b o u e=>UK e rfl⟩
theorem Sep.stoLam {K:PySem.W.Frag}{C st Pl:Addr}{lp:Pos}{q:Str}{nds:List Nd}{tabs:List (Zk×V)}{Δ:Rs}{H:Hp}(S:Sep ((st,Xo K C nds tabs)::(Pl,Zfh lp q)::Δ) H) :
 ∃ ln dt,StoreAt K C st ln dt H nds tabs/\nds[0]?=some .bare/\LamAt H Pl lp q/\∀ H' nds' tabs',StoreAt K C st ln dt H' nds' tabs'->nds'[0]?=some .bare->LamAt H' Pl lp q->Kq [ln,dt,Pl] H H'->Sep ((st,Xo K C nds' tabs')::(Pl,Zfh lp q)::Δ) H':=by
 obtain ⟨h1,l1,⟨b0,ln,dt,r1⟩,h2,l2,r2,S⟩:=S
 have r2':LamAt h2 Pl lp q:=r2
 refine ⟨ln,dt,r1.keep l1,b0,(LamAt.same' r2' l2).same' ZaH,fun H' nds' tabs' S' b0' L' kq=>?_⟩
 obtain ⟨tb,etb⟩:=r2'.tbl
 obtain ⟨tb',etb'⟩:=L'.tbl
 obtain ⟨dx,ob⟩:=r1.ob
 obtain ⟨as,nl,_⟩:=r1.nl
 obtain ⟨dx',ob'⟩:=S'.ob
 obtain ⟨as',nl',nlen',nod'⟩:=S'.nl
 have nPl:Pl ∉ [st,ln,dt]:=fun z=>by
  simp only [mem_cons,List.not_mem_nil,or_false] at z
  rcases z with z | z | z
  ·rw [z,ob'] at etb';cases etb'
  ·rw [z,nl'] at etb';cases etb'
  ·rw [z,S'.tb] at etb';cases etb'
 refine ⟨some_of H' [st,ln,dt],WK,⟨b0',ln,dt,⟨⟨dx',by rw [XO (by simp)];exact ob'⟩,⟨as',by rw [XO (by simp)];exact nl',nlen',fun i a n e1 e2=>(nod' i a n e1 e2).tf ZeY⟩,by rw [XO (by simp)];exact S'.tb⟩⟩,?_⟩
 have imm:∀ b o,H' b=some o->YE o=false->Ug H' (some_of H' [st,ln,dt]) b=some o:=fun b o e m=>cut_some.mpr ⟨e,fun u z=>by have:=WK _ _ z;rw [e] at this;cases this;exact m⟩
 refine ⟨some_of (Ug H' (some_of H' [st,ln,dt])) [Pl],WK,?_,S.mono fun b o e=>?_⟩
 ·have ePl:some_of (Ug H' (some_of H' [st,ln,dt])) [Pl] Pl=H' Pl:=by
   rw [XO (by simp)]
   have:Ug H' (some_of H' [st,ln,dt]) Pl=some (.tbl tb'):=cut_some.mpr ⟨etb',fun u z=>by
    cases m:YE u with
    | false=>rfl
    | true=>exact absurd (Wi z m) nPl⟩
   rw [this,etb']
  rcases L' with z | ⟨c,z1,z2⟩
  ·exact .inl (by rw [ePl];exact z)
  ·refine .inr ⟨c,by rw [ePl];exact z1,?_⟩
   exact UK (imm _ _ z2 rfl) rfl
 ·obtain ⟨e1,e2⟩:=cut_some.mp e
  obtain ⟨e3,e4⟩:=cut_some.mp e1
  have n1:b≠ln:=fun z=>by have:=e4 _ (z ▸ nl);cases this
  have n2:b≠dt:=fun z=>by have:=e4 _ (z ▸ r1.tb);cases this
  have n3:b≠Pl:=fun z=>by have:=e2 _ (z ▸ etb);cases this
  have n4:b≠st:=fun z=>by have:=e4 _ (z ▸ ob);cases this
  have e5:=kq b o (by simp [n1,n2,n3]) e3
  refine cut_some.mpr ⟨cut_some.mpr ⟨e5,fun u z=>?_⟩,fun u z=>?_⟩
  ·cases m:YE u with
   | false=>rfl
   | true=>have:=Wi z m;simp [n1,n2,n4] at this
  ·cases m:YE u with
   | false=>rfl
   | true=>have:=Wi z m;simp [n3] at this
theorem Sep.updR {Δ Δ':Rs}{H:Hp}{R T:YZ}(S:Sep Δ H)(a:Addr)(o':HO)[P:Pull a Δ R Δ'](m:∀ h,R a h->∃ o,h a=some o/\YE o=true)
 (f:∀ h,R a h->Same h H->∀ h',h' a=some o'->(∀ b o,b≠a->h b=some o->h' b=some o)->(∀ b o,b≠a->H b=some o->YE o=false->h' b=some o)->T a h'):Sep ((a,T)::Δ') (upd H a o'):=by
 obtain ⟨h,l,r,S⟩:=P.out S
 obtain ⟨o,ea,ma⟩:=m h r
 refine ⟨fun b=>if b=a then some o' else match h b with | some u=>some u | none=>some_of H [] b,fun b u e=>?_,f h r l _ (if_pos rfl) (fun b u nb e=>?_) (fun b u nb e mu=>?_),S.mono fun b u e=>?_⟩
 ·dsimp only at e
  by_cases hb:b=a
  ·rw [if_pos hb] at e;cases e;rw [hb];exact Ze
  ·rw [if_neg hb] at e
   rw [Zi hb]
   cases q:h b with
   | some z=>rw [q] at e;cases e;exact l _ _ q
   | none=>rw [q] at e;exact WK _ _ e
 ·rw [if_neg nb,e]
 ·rw [if_neg nb]
  cases q:h b with
  | some z=>have:=l _ _ q;rw [e] at this;cases this;rfl
  | none=>exact UK e mu
 ·obtain ⟨e1,e2⟩:=cut_some.mp e
  have hb:b≠a:=fun z=>by have:=e2 o (by rw [z];exact ea);rw [ma] at this;cases this
  refine cut_some.mpr ⟨by rw [Zi hb];exact e1,fun v q=>?_⟩
  simp only [if_neg hb] at q
  cases z:h b with
  | some x=>rw [z] at q;cases q;exact e2 _ z
  | none =>
   rw [z] at q
   cases mm:YE v with
   | false=>rfl
   | true=>have:=Wi q mm;cases this
def DicL (pss:List (List (Str×V))):YZ:=fun l h=>∃ ds:List Addr,h l=some (.lst (ds.map V.ref))/\ds.length=pss.length/\∀(i:Nat)(d:Addr)(ps:List (Str×V)),ds[i]?=some d->pss[i]?=some ps->h d=some (.dK (ps.map kP))
instance {pss:List (List (Str×V))}:Up (DicL pss):=⟨fun ⟨ds,e,l,h⟩ s=>⟨ds,s _ _ e,l,fun i d ps e1 e2=>s _ _ (h i d ps e1 e2)⟩⟩
theorem DicL.at {pss:List (List (Str×V))}{l:Addr}{h:Hp}{i:Nat}{ps:List (Str×V)}(D:DicL pss l h)(e:pss[i]?=some ps):∃(ds:List Addr)(d:Addr),h l=some (.lst (ds.map V.ref))/\ds.length=pss.length/\ds[i]?=some d/\h d=some (.dK (ps.map kP)):=by
 obtain ⟨ds,el,hl,hd⟩:=D
 have hi:i < ds.length:=by rw [hl];exact (List.getElem?_eq_some_iff.mp e).1
 exact ⟨ds,ds[i],el,hl,getElem?_eq_getElem hi,hd i _ ps (getElem?_eq_getElem hi) e⟩
theorem Sep.dicApp {Δ:Rs}{H:Hp}{pss:List (List (Str×V))}{ps:List (Str×V)}{ds:List Addr}{ld d:Addr}(S:Sep ((ld,DicL pss)::(d,Dic (ps.map kP))::Δ) H)(e:H ld=some (.lst (ds.map V.ref))):Sep ((ld,DicL (pss++[ps]))::Δ) (upd H ld (.lst (ds.map V.ref++[V.ref d]))):=by
 have S1:=S.updR ld (.lst (ds.map V.ref++[V.ref d])) (T:=fun l h=>h l=some (.lst (ds.map V.ref++[V.ref d]))/\ds.length=pss.length/\∀ (i:Nat) (d:Addr) (ps:List (Str×V)),ds[i]?=some d->pss[i]?=some ps->h d=some (.dK (ps.map kP)))
  (fun h ⟨ds,e,_⟩=>⟨_,e,rfl⟩) fun h r l h' e1 e2 e3=>by
   obtain ⟨ds',e4,hl,hd⟩:=r
   have e5:=l _ _ e4
   rw [e] at e5
   have e6:ds=ds':=(List.map_inj_right (fun x y z=>by cases z;rfl)).mp (HO.lst.inj (Option.some.inj e5))
   subst e6
   refine ⟨e1,hl,fun i d ps q1 q2=>e2 _ _ (fun z=>?_) (hd i d ps q1 q2)⟩
   have:=hd i d ps q1 q2
   rw [z,e4] at this;cases this
 refine Sep.pack (Γ:=[(ld,_),(d,Dic (ps.map kP))]) S1 fun h G=>?_
 obtain ⟨h1,l1,⟨r1,r2,r3⟩,h2,l2,r4,_⟩:=G
 refine ⟨ds++[d],by rw [map_append];exact l1 _ _ r1,by rw [length_append,length_append,r2];rfl,fun i d' ps' q1 q2=>?_⟩
 by_cases hi:i < ds.length
 ·rw [getElem?_append_left hi] at q1
  rw [getElem?_append_left (by omega)] at q2
  exact l1 _ _ (r3 i d' ps' q1 q2)
 ·rw [getElem?_append_right (by omega)] at q1 q2
  have h0:i - ds.length=0:=by
   cases z:i - ds.length with
   | zero=>rfl
   | succ j=>rw [z] at q1;simp at q1
  rw [h0] at q1
  rw [show i - pss.length=0 by omega] at q2
  cases (show some d=some d' from q1)
  cases (show some ps=some ps' from q2)
  exact ZaH _ _ (l2 _ _ r4)
def but (H:Hp)(l:Addr):Hp:=fun b=>if b=l then none else H b
theorem ZkW {H:Hp}{l:Addr}:Same (but H l) H:=fun b o e=>by
 unfold but at e
 split at e
 ·cases e
 ·exact e
theorem Zgh {H:Hp}{l b:Addr}(h:b≠l):but H l b=H b:=by unfold but;rw [if_neg h]
theorem ZkV {H:Hp}{l:Addr}:but H l l=none:=by unfold but;rw [if_pos rfl]
theorem PE.conv {X:Cx}{e:Expr}{te te':TE}(h:PE X e te)(c:∀ σ H Q,te' σ H Q->te σ H Q):PE X e te':=fun pins s σ H Q I z=>h pins s σ H Q I (c σ H Q z)
inductive ZjB (ip:Nat)(it:Nat)(σ:St)(H:Hp)(Q:VK):Prop
 | mk (p lt:Addr) (n:Nat) (xs:List V) (Δ:Rs):(σ[ip]?=some (some (.ref p)))->(σ[it]?=some (some (.ref lt)))->(Sep ((p,Bx n)::(lt,XJ xs)::Δ) H)->(n<=500000)->(1<=xs.length)->(xs.length<=1000)->(∀ (k:Nat) (H':Hp),k < xs.length->Sep ((p,Bx (n+2))::(lt,XJ xs)::Δ) H'->Q (.int (k:Int)) H')->ZjB ip it σ H Q
def tAt (ip it:Nat):TE:=fun σ H Q=>ZjB ip it σ H Q
inductive Zht (ip:Nat)(ih:Nat)(inm:Nat)(il:Nat)(σ:St)(H:Hp)(Q:VK):Prop
 | mk (p d nl:Addr) (n:Nat) (x:Str) (ps:List (Str×V)) (NS:List Str) (Δ:Rs):(σ[ip]?=some (some (.ref p)))->(σ[ih]?=some (some (.ref d)))->(σ[inm]?=some (some (.str x)))->(σ[il]?=some (some (.ref nl)))->(Sep ((p,Bx n)::(nl,XJ (NS.map V.str))::(d,Dic (ps.map kP))::Δ) H)->(n<=500000)->(NS.length<=50)->((∀ x∈NS,XA x))->((∀ p∈ps,XT p.2))->(∀ (v:V) (H':Hp),XT v->Sep ((p,Bx (n+61))::(nl,XJ (NS.map V.str))::(d,Dic (ps.map kP))::Δ) H'->Q v H')->Zht ip ih inm il σ H Q
def tVal (ip ih inm il:Nat):TE:=fun σ H Q=>Zht ip ih inm il σ H Q
end L2
namespace L2
open PySem PySem.Spec PyProof.Rows
section
variable {X:Cx}
end
mutual
inductive DatT (K:PySem.W.Frag)(H:Hp):V->PyData->Prop
 | non:DatT K H .non .none
 | int (i):DatT K H (.int i) (.int i)
 | str (x):DatT K H (.str x) (.str x)
 | tup {a xs ds}:SqT K H a xs->DatTs K H xs ds->DatT K H (.ref a) (.tuple ds)
inductive DatTs (K:PySem.W.Frag)(H:Hp):List V->List PyData->Prop
 | nil:DatTs K H [] []
 | cons {v d vs ds}:DatT K H v d->DatTs K H vs ds->DatTs K H (v::vs) (d::ds)
end
section
variable {X:Cx}{pins:List (Addr×Obj)}{σ:St}{H:Hp}{s:Shared}
mutual
theorem DatT.reads (I:Inv X pins σ H s):∀{v d}(u:Value),DatT X.K H v d->RelV v u->d.hasDict=false/\∃ as,Reads s.heap u d as
 | _,_,u,.non,r=>by cases (show u=.none from r);exact ⟨rfl,_,.none⟩
 | _,_,u,.int i,r=>by obtain ⟨t,e⟩:=(show ∃ t,u=.int i t from r);subst e;exact ⟨rfl,_,.int i t⟩
 | _,_,u,.str x,r=>by obtain ⟨t,e⟩:=(show ∃ t,u=.str x t from r);subst e;exact ⟨rfl,_,.str x t⟩
 | _,_,u,.tup (a:=a) (xs:=xs) e q,r=>by
  cases (show u=.ref a from r)
  obtain ⟨its,rv,⟨o,g,c,n,d⟩,_⟩:=I.tuple e
  obtain ⟨nd,as,ra⟩:=DatTs.reads I its q rv
  exact ⟨by simpa [PyData.hasDict] using nd,_,.tuple g c d (by simpa using ra)⟩
theorem DatTs.reads (I:Inv X pins σ H s):∀{vs ds}(us:List Value),DatTs X.K H vs ds->Vals vs us->PyData.hasDictAll ds=false/\∃ as,ReadsAll s.heap us ds as
 | _,_,_,.nil,.nil=>⟨rfl,_,.nil⟩
 | _,_,_,.cons r t,.cons rv tv=>by
  obtain ⟨n1,as,r1⟩:=DatT.reads I _ r rv
  obtain ⟨n2,bs,r2⟩:=DatTs.reads I _ t tv
  exact ⟨by simp [PyData.hasDictAll,n1,n2],_,.cons r1 r2⟩
end
end
theorem ZjS {i:Int}(h:i.natAbs<=10 ^ 31)(k:Nat):Sml (.int i) 40 k:=⟨decide_eq_true (ZeB h).1,(ZeB h).2,Nat.zero_le _⟩
end L2
namespace L2
open PySem
end L2
namespace L2
open PySem PySem.W PySem.Spec PyProof.Rows
theorem Zdj {prog:Program}{w:World}{A:Around}{E:Value->Shared->Prop}{s:Shared}{T:String}{r d:Addr}{n:Nat}{P:Nat->Value->Prop}{OK:Heap->Prop}{R:List Value->Shared->Prop}(K:KdlSrc prog w T r d n P OK)(noH:A.handled=none)(hok:OK s.heap)(few:n<=sizeLine)(lr:r < s.heap.objs.size)(ld:d < s.heap.objs.size)(up:OK (s.heap.push { cls:=.type "list",data:=.seq ([]:List Value).toArray }))
 (k:∀ (h':Heap) (tk:Nat) (acc:Array Value),s.heap.objs.size < h'.objs.size->(∀ b o,s.heap.get? b=some o->h'.get? b=some o)->ItemsOf P acc n->R acc.toList { s with heap:=h',toks:=tk }) :
 wpAny (model prog w) A (collect (.ref r)) R E s:=by
 have here:(s.heap.push { cls:=.type "list",data:=.seq ([]:List Value).toArray }).get? s.heap.objs.size=some { cls:=.type "list",data:=.seq #[] }:=Heap.get?_push_size _ rfl
 let Fin':Result->Shared->Prop:=fun q s'=>∃ (h':Heap) (tk:Nat) (its:Array Value) (c:Nat),(q=.ok (.ret (.ref s.heap.objs.size))/\s'={ s with heap:=h',toks:=tk })/\((∀ b o,s.heap.get? b=some o->h'.get? b=some o)/\h'.get? s.heap.objs.size=some { cls:=.type "list",dict:=none,data:=.seq its c,slots:=#[] })/\ItemsOf P its n
 have run:=kdl_extend (A:=A) (s:={ s with heap:=s.heap.push { cls:=.type "list",data:=.seq ([]:List Value).toArray } }) (R:=Fin') K noH up s.heap.objs.size (Nat.ne_of_gt lr) (Nat.ne_of_gt ld) (.ref s.heap.objs.size) 0 here
  (fun h' tk its c hk hs hg=>⟨h',tk,its,c,⟨rfl,rfl⟩,⟨fun b o e=>hk b o (Nat.ne_of_lt (Heap.lt_size e)) (Heap.get?_push_of_some _ e),hs⟩,hg⟩) few
 have fin:∀ s',Fin' (.ok (.ret (.ref s.heap.objs.size))) s'->wpAny (model prog w) A (do match (<- load s.heap.objs.size).data with | .seq xs _=>pure xs.toList | _=>unsupported "internal:collect") R E s':=by
  rintro s' ⟨h',tk,its,c,⟨_,rfl⟩,⟨hk,hs⟩,hg⟩
  refine wpAny_bind (wpAny_load hs ?_)
  exact wpAny_pure (k h' tk its (Heap.lt_size hs) hk hg)
 unfold collect
 refine wpAny_bind (wpAny_runValue (codeAny_builtin entry_proto_collect' ?_))
 rw [Around.under_plainId PySem.F.plain_proto_collect _]
 refine wpAny_bind (m:=newList []) (wpAny_newObj_type (wpAny_pure ⟨plainId_quiet PySem.F.plain_list_iadd _,codeAny_builtin entry_list_iadd' ?_⟩))
 rw [Around.under_plainId PySem.F.plain_list_iadd _]
 refine wpAny_mono run (fun f s' x=>?_) fun e s' x=>?_
 ·cases f with
  | done f =>
   obtain ⟨h',tk,its,c,⟨e,e2⟩,r'⟩:=x
   cases e
   exact fin s' ⟨h',tk,its,c,⟨rfl,e2⟩,r'⟩
  | again c₁ =>
   refine ⟨x.1,codeAny_mono x.2 fun q s₂ y=>?_⟩
   obtain ⟨h',tk,its,c,⟨e,e2⟩,r'⟩:=y
   subst e
   exact fin s₂ ⟨h',tk,its,c,⟨rfl,e2⟩,r'⟩
 ·obtain ⟨_,_,_,_,⟨e',_⟩,_⟩:=x
  cases e'
section
variable {X:Cx}
end
end L2
namespace L2
open PySem
end L2
namespace L2
open PySem PySem.Spec PyProof.Rows
theorem zs2 {a1 a2:TS}{D:Yi}{σ:St}{H:Hp}(h:let D0:Yi:=D;let S:St:=σ;let N1:St->Hp->Prop:=a2 D0;a1 { D0 with nx:=N1 } S H):(YF a1 a2) D σ H:=h
theorem zs3 {a1 a2 a3:TS}{D:Yi}{σ:St}{H:Hp}(h:let D0:Yi:=D;let S:St:=σ;let N2:St->Hp->Prop:=a3 D0;let N1:St->Hp->Prop:=a2 { D0 with nx:=N2 };a1 { D0 with nx:=N1 } S H):(YF a1 (YF a2 a3)) D σ H:=h
theorem zs4 {a1 a2 a3 a4:TS}{D:Yi}{σ:St}{H:Hp}(h:let D0:Yi:=D;let S:St:=σ;let N3:St->Hp->Prop:=a4 D0;let N2:St->Hp->Prop:=a3 { D0 with nx:=N3 };let N1:St->Hp->Prop:=a2 { D0 with nx:=N2 };a1 { D0 with nx:=N1 } S H):(YF a1 (YF a2 (YF a3 a4))) D σ H:=h
theorem zs5 {a1 a2 a3 a4 a5:TS}{D:Yi}{σ:St}{H:Hp}(h:let D0:Yi:=D;let S:St:=σ;let N4:St->Hp->Prop:=a5 D0;let N3:St->Hp->Prop:=a4 { D0 with nx:=N4 };let N2:St->Hp->Prop:=a3 { D0 with nx:=N3 };let N1:St->Hp->Prop:=a2 { D0 with nx:=N2 };a1 { D0 with nx:=N1 } S H):(YF a1 (YF a2 (YF a3 (YF a4 a5)))) D σ H:=h
theorem zs6 {a1 a2 a3 a4 a5 a6:TS}{D:Yi}{σ:St}{H:Hp}(h:let D0:Yi:=D;let S:St:=σ;let N5:St->Hp->Prop:=a6 D0;let N4:St->Hp->Prop:=a5 { D0 with nx:=N5 };let N3:St->Hp->Prop:=a4 { D0 with nx:=N4 };let N2:St->Hp->Prop:=a3 { D0 with nx:=N3 };let N1:St->Hp->Prop:=a2 { D0 with nx:=N2 };a1 { D0 with nx:=N1 } S H):(YF a1 (YF a2 (YF a3 (YF a4 (YF a5 a6))))) D σ H:=h
theorem zs8 {a1 a2 a3 a4 a5 a6 a7 a8:TS}{D:Yi}{σ:St}{H:Hp}(h:let D0:Yi:=D;let S:St:=σ;let N7:St->Hp->Prop:=a8 D0;let N6:St->Hp->Prop:=a7 { D0 with nx:=N7 };let N5:St->Hp->Prop:=a6 { D0 with nx:=N6 };let N4:St->Hp->Prop:=a5 { D0 with nx:=N5 };let N3:St->Hp->Prop:=a4 { D0 with nx:=N4 };let N2:St->Hp->Prop:=a3 { D0 with nx:=N3 };let N1:St->Hp->Prop:=a2 { D0 with nx:=N2 };a1 { D0 with nx:=N1 } S H):(YF a1 (YF a2 (YF a3 (YF a4 (YF a5 (YF a6 (YF a7 a8))))))) D σ H:=h
end L2
namespace K13
open PySem L2
def top (i:Nat):Stmt:=PySem.Challenge.pw_roadsettings_k13_nodes_reached_and_fresh.main.body.getD i (.Pass ⟨0,0,0,0⟩)
abbrev s_is_number:Stmt:=top 2
abbrev s_alike:Stmt:=top 3
abbrev s_mark:Stmt:=top 4
abbrev s_digit:Stmt:=top 5
abbrev s_leaf_of:Stmt:=top 10
abbrev s_fork_of:Stmt:=top 11
abbrev s_parts_in:Stmt:=top 12
abbrev s_pairs_in:Stmt:=top 13
abbrev s_has_mark:Stmt:=top 14
abbrev s_reached:Stmt:=top 16
abbrev s_fresh:Stmt:=top 17
abbrev s_as_list:Stmt:=top 18
abbrev c_Store___init__:Stmt:=YB (top 24) 0
abbrev c_Store_put:Stmt:=YB (top 24) 2
abbrev c_Store_without:Stmt:=YB (top 24) 3
abbrev c_Store_looked:Stmt:=YB (top 24) 4
abbrev c_Store_way:Stmt:=YB (top 24) 7
abbrev c_Store_node:Stmt:=YB (top 24) 8
abbrev c_Store_made:Stmt:=YB (top 24) 9
abbrev c_Store_check_table:Stmt:=YB (top 24) 10
abbrev c_Store_keep:Stmt:=YB (top 24) 12
abbrev c_Store_as_table:Stmt:=YB (top 24) 13
abbrev c_Store_put_in:Stmt:=YB (top 24) 14
abbrev c_Store_fork_parts:Stmt:=YB (top 24) 15
abbrev c_Store_taken_from:Stmt:=YB (top 24) 16
abbrev s_l_cell_at:Stmt:=top 26
abbrev s_l_box:Stmt:=top 27
abbrev s_l_take:Stmt:=top 28
abbrev s_l_of_mark:Stmt:=top 29
abbrev s_l_names:Stmt:=top 30
abbrev s_l_value:Stmt:=top 31
abbrev s_l_deed:Stmt:=top 32
abbrev s_l_reached:Stmt:=top 33
abbrev s_l_lists_right:Stmt:=top 34
abbrev s_l_fresh_right:Stmt:=top 35
abbrev s_law:Stmt:=top 36
section
variable {P:Program}{w:World}{K:PySem.W.Frag}{mg:Str->Option Value}{base:Heap}
theorem scC:Zx ["_law_script","_law_k"] ["_law_script","_law_k"] (Zo s_l_cell_at):=⟨rfl,rfl,rfl,by decide +kernel,rfl,by decide +kernel,by decide +kernel⟩
theorem ZjY {f:Addr}{fd:FuncData}(F:Fun K "_law_cell_at" "_law_cell_at" s_l_cell_at f fd)(T:Wa mg):FnOk P w K mg base ZK 1 f fd ["_law_script","_law_k"] (ZdH K):=by
 refine F.ok scC (fun vs H Q E h=>?_) (fun cdv A outer s H vs Q E hr h=>?_)
 ·obtain ⟨a,ns,k,rfl,_⟩:=h;rfl
 obtain ⟨a,ns,k,rfl,hS,h0,q⟩:=h
 refine ⟨_,Zf (Yf (ZF ZcL (pv 1) (ZE ZU rfl T.len PySem.boot_len (YC (pv 0) Za)) (ZI _)) (Zj (Zw (ZA ZD (pv 0) (pv 1) (fun _ _=>rfl)))) ZS)
  (Zj (Zw Zd)),?_⟩
 refine ⟨_,rfl,_,rfl,a,_,rfl,.inl hS,_,_,rfl,rfl,_,rfl,?_⟩
 refine Yp (fun c=>?_) (fun c=>?_)
 ·have c':k < (((ns.map V.int).length:Nat):Int):=of_decide_eq_true c
  rw [length_map] at c'
  have hk:k.toNat < ns.length:=by omega
  have ek:k=((k.toNat:Nat):Int):=by omega
  have hat:YA (ns.map V.int) k=some (.int ns[k.toNat]):=by
   have z:YA (ns.map V.int) ((k.toNat:Nat):Int)=some (.int ns[k.toNat]):=ZJ (by rw [getElem?_map,getElem?_eq_getElem hk];rfl)
   rwa [<- ek] at z
  exact ⟨_,rfl,_,rfl,a,_,_,_,rfl,rfl,hS,hat,q _⟩
 ·exact q 0
theorem scB:Zx ["_law_script","_law_k","_law_cell"] ["_law_script","_law_k"] (Zo s_l_box):=⟨rfl,rfl,rfl,by decide +kernel,rfl,by decide +kernel,by decide +kernel⟩
theorem Zlt {f:Addr}{fd:FuncData}(F:Fun K "_law_box" "_law_box" s_l_box f fd)(T:Wa mg)(D:Def P w K mg base 1 "_law_cell_at" ["_law_script","_law_k"] (ZdH K)):FnOk P w K mg base ZK 2 f fd ["_law_script","_law_k"] (ZfP K):=by
 refine F.ok scB (fun vs H Q E h=>?_) (fun cdv A outer s H vs Q E hr h=>?_)
 ·obtain ⟨a,ns,k,rfl,_⟩:=h;rfl
 obtain ⟨a,ns,k,rfl,hS,h0,h1,q⟩:=h
 refine ⟨_,Zf (Zz (i:=2) scB.nd rfl (Or.inl rfl) (Zu D hr (YC (pv 0) (YC (pv 1) Za))))
  (Zj (Zw (YX (YC (Zq Xv (ZE Zdd rfl T.abs (by decide +kernel) (YC (pv 2) Za)) (ZP Zgi rfl T.int (by decide +kernel) (YC (UE ZmC (ZE Zdd rfl T.abs (by decide +kernel) (YC (pv 2) Za)) (Zq VA Zd Zd) (ZI _)) Za)))
   (YC (Zq ZZ (Zq ZZ (Zq Xu (pv 2) Zd) (Zq Xv Zd (pv 1))) Zd) (YC Zd Za)))))),?_⟩
 refine ⟨_,rfl,_,rfl,a,ns,k,rfl,hS,h0,fun r=>?_⟩
 refine ⟨_,rfl,_,rfl,⟨_,rfl,_,rfl,_,_,rfl,rfl,⟨by decide,by decide,by decide⟩,_,_,rfl,rfl,.inr ⟨_,rfl,?_⟩⟩⟩
 generalize hb:decide ((10:Int) ^ (Int.toNat 18)<=(if r < 0 then -r else r))=bb
 refine ⟨_,_,rfl,rfl,.inr (by cases bb<;>exact ⟨by decide,by decide⟩),_,rfl,_,_,rfl,rfl,(by show (0:Int) < _;decide),_,rfl,_,_,rfl,rfl,.inl ⟨by decide,by decide⟩,_,_,rfl,rfl,_,_,rfl,rfl,(by show 3<=sizeLine;decide),fun p hp=>?_⟩
 refine q p _ hp ⟨_,_,0,Ze,?_,by decide,by decide⟩ (Zl hp _)
 cases bb
 ·simp
 ·simp only [if_true,Int.mul_one];split<;>omega
theorem scT:Zx ["_law_box_here","_law_many","_law_found","_law_once","_law_twice"] ["_law_box_here","_law_many"] (Zo s_l_take):=⟨rfl,rfl,rfl,by decide +kernel,rfl,by decide +kernel,by decide +kernel⟩
theorem Zkj {f:Addr}{fd:FuncData}(F:Fun K "_law_take" "_law_take" s_l_take f fd):FnOk P w K mg base ZK 1 f fd ["_law_box_here","_law_many"] (Ua 4611686018427387904):=by
 refine F.ok scT (fun vs H Q E h=>?_) (fun cdv A outer s H vs Q E hr h=>?_)
 · obtain ⟨p,n,m,rfl,_⟩:=h;rfl
 obtain ⟨p,n,m,rfl,⟨a,b,c,hp,ha,hc,hcn⟩,hn,hm0,hmM,q⟩:=h
 refine ⟨_,Zf (Yf (ZF Zbd (ZA ZD (pv 0) Zd (fun _ _=>rfl)) Zd (ZI _))
     (Zf (Zz (i:=2) scT.nd rfl (Or.inl rfl) (Zq Xu (ZA ZD (pv 0) Zd (fun _ _=>rfl)) (pv 1)))
       (Zf (WV (Zq Ziv (ZA ZD (pv 0) Zd (fun _ _=>rfl)) (pv 1)) (VB (pv 0) Zd WZ)) (Zj (Zw (pv 2))))) ZS)
   (Zf (WV (Zq ZZ (ZA ZD (pv 0) Zd (fun _ _=>rfl)) Zd) (VB (pv 0) Zd WZ))
   (Zf (Zz (i:=3) scT.nd rfl (Or.inl rfl) (Zq Xu (Zq Xv (Zq ZZ (ZA ZD (pv 0) Zd (fun _ _=>rfl)) (Zq Xv Zd (ZA ZD (pv 0) Zd (fun _ _=>rfl)))) (Zq ZZ Zd (ZA ZD (pv 0) Zd (fun _ _=>rfl)))) Zd))
   (Zf (Zz (i:=4) scT.nd rfl (Or.inl rfl) (Zq Xu (Zq Xv (Zq ZZ (pv 3) (ZA ZD (pv 0) Zd (fun _ _=>rfl))) (Zq ZZ (Zq Xu (pv 3) Zd) Zd)) Zd))
   (Zj (Zw (Zq Xu (Zq WH (Zq Xu (Zq ZZ (Zq Xv (pv 4) Zd) (pv 3)) Zd) Zd) (pv 1))))))),?_⟩
 refine ⟨_,rfl,p,_,_,_,rfl,rfl,SqL.of hp,rfl,_,_,rfl,rfl,_,rfl,?_⟩
 refine Yp (fun c'=>?_) (fun c'=>?_)
 · have h0:0 < a:=of_decide_eq_true c'
   refine ⟨_,rfl,p,_,_,_,rfl,rfl,SqL.of hp,rfl,_,rfl,_,_,rfl,rfl,hm0,?_⟩
   refine ⟨_,rfl,p,_,_,_,rfl,rfl,SqL.of hp,rfl,_,rfl,_,_,rfl,rfl,⟨hm0,by have h4:m < 4611686018427387904:=hmM;omega⟩,?_⟩
   refine ⟨_,rfl,p,_,_,_,rfl,rfl,hp,rfl,?_⟩
   refine ⟨_,rfl,?_⟩
   exact q _ _ (Int.emod_nonneg _ (by omega)) (Int.emod_lt_of_pos _ hm0) ⟨a / m,b,c,Ze,Int.ediv_nonneg ha (by omega),hc,by omega⟩ (Kp.upd _ _ _)
 · refine ⟨_,rfl,p,_,_,_,rfl,rfl,SqL.of hp,rfl,_,_,rfl,rfl,?_⟩
   refine ⟨_,rfl,p,_,_,_,rfl,rfl,hp,rfl,?_⟩
   have hp1:upd H p (.lst [.int a,.int b,.int (c+1)]) p=some (.lst [.int a,.int b,.int (c+1)]):=Ze
   refine ⟨_,rfl,p,_,_,_,rfl,rfl,SqL.of hp1,rfl,_,rfl,p,_,_,_,rfl,rfl,SqL.of hp1,rfl,_,_,rfl,rfl,.inl ⟨by decide,by decide⟩,_,_,rfl,rfl,_,rfl,p,_,_,_,rfl,rfl,SqL.of hp1,rfl,_,_,rfl,rfl,_,_,rfl,rfl,.inr ⟨by omega,by omega⟩,_,_,rfl,rfl,(by show (0:Int) < _;decide),?_⟩
   generalize hO:((b+48271 * (c+1)) * (39373+(c+1))) % 2147483647=once
   have hO0:0<=once:=by rw [<- hO];exact Int.emod_nonneg _ (by decide)
   refine ⟨_,rfl,_,rfl,p,_,_,_,rfl,rfl,SqL.of hp1,rfl,_,_,rfl,rfl,_,rfl,_,_,rfl,rfl,(by show (0:Int) < _;decide),_,_,rfl,rfl,_,_,rfl,rfl,.inr ?_,_,_,rfl,rfl,(by show (0:Int) < _;decide),?_⟩
   · have:=Int.emod_nonneg once (show (40009:Int)≠0 by decide)
     have:=Int.emod_lt_of_pos once (show (0:Int) < 40009 by decide)
     exact ⟨by omega,by omega⟩
   generalize hW:((once+(c+1)) * (once % 40009+7)) % 2147483629=twice
   refine ⟨_,rfl,_,_,rfl,rfl,.inr ⟨by decide,by decide⟩,_,rfl,_,_,rfl,rfl,_,_,rfl,rfl,(by show (0:Int) < _;decide),_,_,rfl,rfl,⟨by decide,by decide⟩,_,rfl,_,_,rfl,rfl,hm0,?_⟩
   exact q _ _ (Int.emod_nonneg _ (by omega)) (Int.emod_lt_of_pos _ hm0) ⟨a,b,c+1,hp1,ha,by omega,by omega⟩ (Kp.upd _ _ _)
end
structure Txt (K:PySem.W.Frag)(mg:Str->Option Value):Prop extends Wa mg where
 base:∃ t,mg "BASE"=some (.int 4 t)
 zero:∃ t,mg "BARE_NUMBER"=some (.int 0 t)
 bare:∃ a,mg "BARE"=some (.ref a)/\∀ H,SqT K H a [.str "bare"]
 figs:∃ a,mg "FIGURES"=some (.ref a)/\∀ H,SqT K H a [.int 0,.int 1,.int 2,.int 3]
section
variable {P:Program}{w:World}{K:PySem.W.Frag}{mg:Str->Option Value}{base:Heap}
def Wd (l:List Nat):Nat->Int
 | 0=>0
 | i+1=>Wd l i+((i:Int)+1) * (((l.getD i 0:Nat):Int) - 97+1)
inductive XV  (vs:List V) (H:Hp) (Q:VK) (w_3:XK):Prop
 | mk (x:Str):(vs=[.str x])->(x.length<=1000)->(∀ H',Same H H'->Q (.int (Wd x.cps.toList x.length)) H')->XV vs H Q w_3
inductive XQ  (vs:List V) (H:Hp) (Q:VK) (w_3:XK):Prop
 | mk (n:Int) (k:Nat):(vs=[.int n,.int k])->(0<=n)->(k<=1000)->(Q (.int (n / 4 ^ k % 4)) H)->XQ vs H Q w_3
theorem oa:(Str.ofString "a").cps.getD 0 0=97:=by decide +kernel
theorem scM:Zx ["name","total","place","letter"] ["name"] (Zo s_mark):=⟨rfl,rfl,rfl,by decide +kernel,rfl,by decide +kernel,by decide +kernel⟩
theorem Zkf {f:Addr}{fd:FuncData}(F:Fun K "mark" "mark" s_mark f fd)(T:Txt K mg):FnOk P w K mg base ZK 1 f fd ["name"] XV:=by
 refine F.ok scM (fun vs H Q E h=>?_) (fun cdv A outer s H vs Q E hr h=>?_)
 ·obtain ⟨x,rfl,_⟩:=h;rfl
 obtain ⟨x,rfl,hx,q⟩:=h
 refine' ⟨?t,?h,?r⟩
 case h =>
  conv=>arg 2;whnf
  with_reducible refine' Zf ?a1 (Zf ?a2 (Zj ?a3))
  case a1=>exact Zz (i:=1) scM.nd rfl (Or.inl rfl) Zd
  case a2=>exact XE PassesOwn.never rfl (ZiC rfl T.enumerate (pv 0)) (Zdx rfl (We (Yh (i:=2) scM.nd rfl (Or.inl rfl)) (We (Yh (i:=3) scM.nd rfl (Or.inl rfl)) ZbL))) (Zj (ZlK (i:=1) scM.nd rfl (Or.inl rfl) (Zq Xv (pv 2) (Zq ZZ (Zq YL (ZE Zdg rfl T.ord (by decide +kernel) (Zc (pv 3) Za)) (ZE Zdg rfl T.ord (by decide +kernel) (Zc ZV Za))) Zd)) Zld))
  case a3=>exact Zw (pv 1)
 try dsimp only [Yo,Cx.nox]
 refine zs3 ?_
 intro zD zS zN2 zN1
 refine ⟨_,rfl,x,rfl,?_⟩
 refine ZhP (fun i σ H'=>∃ y2 y3,σ=[some (.str x),some (.int (Wd x.cps.toList i)),y2,y3]/\Same H H'/\i<=x.cps.size) ⟨_,_,rfl,Same.refl H,Nat.zero_le _⟩ ?_ ?_
 ·rintro i c t σ H1 hc ht ⟨y2,y3,rfl,s1,hi⟩
  have hi':i < x.cps.size:=(Array.getElem?_eq_some_iff.mp hc).1
  have hz:x.cps.size<=1000:=hx
  refine ⟨t,_,rfl,SqT.of Ze,rfl,_,_,rfl,_,_,rfl,rfl,?_⟩
  refine ⟨_,rfl,_,rfl,_,rfl,_,rfl,rfl,_,rfl,rfl,_,_,rfl,rfl,_,_,rfl,rfl,_,_,rfl,rfl,.inl ⟨by omega,by omega⟩,_,_,rfl,rfl,?_⟩
  have e:Wd x.cps.toList (i+1)=Wd x.cps.toList i+((i:Int)+1) * ((((⟨#[c]⟩:Str).cps.getD 0 0:Nat):Int) - (((Str.ofString "a").cps.getD 0 0:Nat):Int)+1):=by
   rw [oa]
   show Wd x.cps.toList i+((i:Int)+1) * (((x.cps.toList.getD i 0:Nat):Int) - 97+1)=Wd x.cps.toList i+((i:Int)+1) * ((c:Int) - 97+1)
   have e1:x.cps.toList.getD i 0=c:=by rw [List.getD_eq_getElem?_getD,Array.getElem?_toList,hc];rfl
   rw [e1]
  exact ⟨some (.int ((i:Int)+1)),some (.str ⟨#[c]⟩),by rw [e];rfl,s1.trans (Zl ht _),hi'⟩
 ·rintro σ H1 ⟨y2,y3,rfl,s1,_⟩
  exact ⟨_,rfl,q H1 s1⟩
theorem scDg:Zx ["number","level","below"] ["number","level"] (Zo s_digit):=⟨rfl,rfl,rfl,by decide +kernel,rfl,by decide +kernel,by decide +kernel⟩
theorem Ziq {f:Addr}{fd:FuncData}(F:Fun K "digit" "digit" s_digit f fd)(T:Txt K mg):FnOk P w K mg base ZK 1 f fd ["number","level"] XQ:=by
 refine F.ok scDg (fun vs H Q E h=>?_) (fun cdv A outer s H vs Q E hr h=>?_)
 ·obtain ⟨n,k,rfl,_⟩:=h;rfl
 obtain ⟨n,k,rfl,hn,hk,q⟩:=h
 obtain ⟨tb,hb⟩:=T.base
 refine' ⟨?t,?h,?r⟩
 case h =>
  conv=>arg 2;whnf
  with_reducible refine' Zf ?a1 (Zj ?a2)
  case a1=>exact XE PassesOwn.never rfl (YN rfl T.range (Zc (pv 1) Za)) (Yh (i:=2) scDg.nd rfl (Or.inl rfl)) (Zj (Zz (i:=0) scDg.nd rfl (Or.inl rfl) (Zq WH (pv 0) (Xi rfl hb (v:=.int 4) ⟨_,rfl⟩))))
  case a2=>exact Zw (Zq Xu (pv 0) (Xi rfl hb (v:=.int 4) ⟨_,rfl⟩))
 try dsimp only [Yo,Cx.nox]
 refine zs2 ?_
 intro zD zS zN1
 refine ⟨_,rfl,k,rfl,by omega,by omega,?_⟩
 have ek:(k:Int).toNat=k:=by omega
 rw [ek]
 refine Xq (fun i σ H'=>∃ y,σ=[some (.int (n / 4 ^ i)),some (.int k),y]/\H'=H) ⟨_,by rw [Int.pow_zero,Int.ediv_one];rfl,rfl⟩ ?_ ?_
 ·rintro i σ H1 hi ⟨y,rfl,rfl⟩
  have e:n / 4 ^ (i+1)=n / 4 ^ i / 4:=by rw [Int.pow_succ,<- Int.ediv_ediv_of_nonneg (Int.pow_nonneg (by decide))]
  exact ⟨_,rfl,_,_,rfl,rfl,⟨by decide,by decide⟩,some (.int (0+(i:Int))),by rw [e];rfl,rfl⟩
 ·rintro σ H1 ⟨y,rfl,rfl⟩
  exact ⟨_,rfl,_,_,rfl,rfl,(by show (0:Int) < 4;decide),q⟩
theorem nbf:decide (V.str (Str.ofString "bare")=V.str (Str.ofString "fork"))=false:=by decide +kernel
theorem nlf:decide (V.str (Str.ofString "leaf")=V.str (Str.ofString "fork"))=false:=by decide +kernel
theorem nbl:decide (V.str (Str.ofString "bare")=V.str (Str.ofString "leaf"))=false:=by decide +kernel
theorem nfl:decide (V.str (Str.ofString "fork")=V.str (Str.ofString "leaf"))=false:=by decide +kernel
theorem scPi:Zx ["node"] ["node"] (Zo s_parts_in):=⟨rfl,rfl,rfl,by decide +kernel,rfl,by decide +kernel,by decide +kernel⟩
theorem Zit {f:Addr}{fd:FuncData}(F:Fun K "parts_in" "parts_in" s_parts_in f fd):FnOk P w K mg base ZK 1 f fd ["node"] (Wl K):=by
 refine F.ok scPi (fun vs H Q E h=>?_) (fun cdv A outer s H vs Q E hr h=>?_)
 ·obtain ⟨a,n,rfl,_⟩:=h;rfl
 obtain ⟨a,n,rfl,hn,q⟩:=h
 refine ⟨_,Zj (Zw (Xb (ZF YH (ZA YV (pv 0) Zd (fun _ _=>rfl)) ZV (ZI _)) (ZA YV (pv 0) Zd (fun _ _=>rfl)) ZbK)),?_⟩
 cases n with
 | bare =>
  refine ⟨_,rfl,a,_,_,_,rfl,rfl,hn,rfl,rfl,_,rfl,?_⟩
  rw [nbf]
  exact ZR fun p o hp hd=>q p _ (Zl hp _) (.inl (.inr ⟨o,Ze⟩))
 | leaf m ps =>
  obtain ⟨t,e,_⟩:=hn
  refine ⟨_,rfl,a,_,_,_,rfl,rfl,e,rfl,rfl,_,rfl,?_⟩
  rw [nlf]
  exact ZR fun p o hp hd=>q p _ (Zl hp _) (.inl (.inr ⟨o,Ze⟩))
 | fork qs =>
  obtain ⟨t,e,e2,_⟩:=hn
  refine ⟨_,rfl,a,_,_,_,rfl,rfl,e,rfl,rfl,_,rfl,?_⟩
  rw [decide_eq_true rfl]
  exact Yx ⟨_,rfl,a,_,_,_,rfl,rfl,e,rfl,q t H (Same.refl H) e2⟩
theorem scPr:Zx ["node"] ["node"] (Zo s_pairs_in):=⟨rfl,rfl,rfl,by decide +kernel,rfl,by decide +kernel,by decide +kernel⟩
theorem Zis {f:Addr}{fd:FuncData}(F:Fun K "pairs_in" "pairs_in" s_pairs_in f fd):FnOk P w K mg base ZK 1 f fd ["node"] (XR K):=by
 refine F.ok scPr (fun vs H Q E h=>?_) (fun cdv A outer s H vs Q E hr h=>?_)
 ·obtain ⟨a,n,rfl,_⟩:=h;rfl
 obtain ⟨a,n,rfl,hn,q⟩:=h
 refine ⟨_,Zj (Zw (Xb (ZF YH (ZA YV (pv 0) Zd (fun _ _=>rfl)) ZV (ZI _)) (ZA YV (pv 0) Zd (fun _ _=>rfl)) ZbK)),?_⟩
 have nil:∀ p o,H p=none->o.dict=none->PairsAt (upd H p (.frz o (.tup []))) p []:=fun p o hp hd=>⟨o,[],Ze,hd,rfl,fun i a p e=>by simp at e⟩
 cases n with
 | bare =>
  refine ⟨_,rfl,a,_,_,_,rfl,rfl,hn,rfl,rfl,_,rfl,?_⟩
  rw [nbl]
  exact ZR fun p o hp hd=>q p _ (Zl hp _) (nil p o hp hd)
 | fork qs =>
  obtain ⟨t,e,_⟩:=hn
  refine ⟨_,rfl,a,_,_,_,rfl,rfl,e,rfl,rfl,_,rfl,?_⟩
  rw [nfl]
  exact ZR fun p o hp hd=>q p _ (Zl hp _) (nil p o hp hd)
 | leaf m ps =>
  obtain ⟨t,e,e2⟩:=hn
  refine ⟨_,rfl,a,_,_,_,rfl,rfl,e,rfl,rfl,_,rfl,?_⟩
  rw [decide_eq_true rfl]
  exact Yx ⟨_,rfl,a,_,_,_,rfl,rfl,e,rfl,q t H (Same.refl H) e2⟩
theorem scHm:Zx ["node","number"] ["node","number"] (Zo s_has_mark):=⟨rfl,rfl,rfl,by decide +kernel,rfl,by decide +kernel,by decide +kernel⟩
theorem Zka {f:Addr}{fd:FuncData}(F:Fun K "has_mark" "has_mark" s_has_mark f fd):FnOk P w K mg base ZK 1 f fd ["node","number"] (UL K):=by
 refine F.ok scHm (fun vs H Q E h=>?_) (fun cdv A outer s H vs Q E hr h=>?_)
 ·obtain ⟨a,n,m,rfl,_⟩:=h;rfl
 obtain ⟨a,n,m,rfl,hn,q⟩:=h
 refine ⟨_,Zj (Zw (ZgS (UE YH (ZA YV (pv 0) Zd (fun _ _=>rfl)) ZV (ZI _)) (ZgT (UE YH (ZA YV (pv 0) Zd (fun _ _=>rfl)) (pv 1) (ZI _))))),?_⟩
 cases n with
 | bare =>
  refine ⟨_,rfl,a,_,_,_,rfl,rfl,hn,rfl,rfl,_,rfl,?_⟩
  rw [nbl]
  exact ZR q
 | fork qs =>
  obtain ⟨t,e,_⟩:=hn
  refine ⟨_,rfl,a,_,_,_,rfl,rfl,e,rfl,rfl,_,rfl,?_⟩
  rw [nfl]
  exact ZR q
 | leaf m' ps =>
  obtain ⟨t,e,e2⟩:=hn
  refine ⟨_,rfl,a,_,_,_,rfl,rfl,e,rfl,rfl,_,rfl,?_⟩
  rw [decide_eq_true rfl]
  refine Yx ⟨_,rfl,a,_,_,_,rfl,rfl,e,rfl,_,rfl,rfl,?_⟩
  have:decide (V.int m'=V.int m)=decide (m'=m):=by
   by_cases z:m'=m
   ·subst z;rw [decide_eq_true rfl,decide_eq_true rfl]
   ·rw [decide_eq_false z,decide_eq_false (fun y=>z (by cases y;rfl))]
  rw [this]
  exact q
theorem scFo:Zx ["parts"] ["parts"] (Zo s_fork_of):=⟨rfl,rfl,rfl,by decide +kernel,rfl,by decide +kernel,by decide +kernel⟩
theorem ZgO {f:Addr}{fd:FuncData}(F:Fun K "fork_of" "fork_of" s_fork_of f fd)(T:Txt K mg):FnOk P w K mg base ZK 1 f fd ["parts"] (Wj K):=by
 refine F.ok scFo (fun vs H Q E h=>?_) (fun cdv A outer s H vs Q E hr h=>?_)
 ·obtain ⟨l,qs,rfl,_⟩:=h;rfl
 obtain ⟨l,qs,rfl,el,h4,q⟩:=h
 refine ⟨_,Zj (Zw (Zbe (Zc ZV (Zc (ZP Vi rfl T.tuple (by decide +kernel) (Zc (pv 0) Za)) Za)))),?_⟩
 refine ⟨_,rfl,l,_,rfl,.inl ⟨SqL.of el,fun t ht=>⟨(by show 2<=sizeLine;decide),fun a ha=>?_⟩⟩⟩
 exact q a _ ((Zl ht _).trans (Zl ha _)) ⟨t,SqT.of Ze,SqT.of (Zl ha _ _ _ Ze),h4⟩
def pvl (H:Hp)(a:Addr):V:=match H a with
 | some (.tup [_,v])=>v
 | _=>.non
def Uv (ps:List (Str×V)):Prop:=ps.Pairwise fun p q=>¬ (q.1.cps.toList < p.1.cps.toList)
theorem ZgQ {H:Hp}{ts ts':List Addr}{ps:List (Str×V)}(h:PairT H ts ps)(o:Zfk (ps.map (·.1)) ts ts'):∃ ps',ps'.Perm ps/\Uv ps'/\PairT H ts' ps':=by
 obtain ⟨zs,hp,e,hs⟩:=o
 have val:∀ (i:Nat) (a:Addr) (p:Str×V),ts[i]?=some a->ps[i]?=some p->pvl H a=p.2:=fun i a p e1 e2=>by unfold pvl;rw [h.2 i a p e1 e2]
 have hz:((ps.map (·.1)).zip ts).map (fun z=>(z.1,pvl H z.2))=ps:=by
  apply List.ext_getElem?
  intro i
  rw [getElem?_map]
  cases e2:ps[i]? with
  | none =>
   have:((ps.map (·.1)).zip ts)[i]?=none:=by
    rw [List.getElem?_eq_none_iff] at e2 ⊢
    rw [List.length_zip,length_map];omega
   rw [this];rfl
  | some p =>
   have hi:i < ps.length:=(List.getElem?_eq_some_iff.mp e2).1
   obtain ⟨a,ea⟩:∃ a,ts[i]?=some a:=⟨_,getElem?_eq_getElem (by rw [h.1];exact hi)⟩
   have:((ps.map (·.1)).zip ts)[i]?=some (p.1,a):=by
    rw [List.getElem?_zip_eq_some]
    exact ⟨by rw [getElem?_map,e2];rfl,ea⟩
   rw [this]
   show some (p.1,pvl H a)=some p
   rw [val i a p ea e2]
 refine ⟨zs.map fun z=>(z.1,pvl H z.2),?_,?_,?_⟩
 ·have:=hp.map fun z:Str×Addr=>(z.1,pvl H z.2)
  rwa [hz] at this
 ·unfold Uv;rw [pairwise_map];exact hs
 ·refine ⟨by rw [e,length_map,length_map],fun i a p e1 e2=>?_⟩
  rw [e,getElem?_map] at e1
  rw [getElem?_map] at e2
  cases ez:zs[i]? with
  | none=>rw [ez] at e1;cases e1
  | some z =>
   rw [ez] at e1 e2
   cases (show some z.2=some a from e1)
   cases (show some (z.1,pvl H z.2)=some p from e2)
   have hm:=hp.mem_iff.mp (mem_of_getElem? ez)
   obtain ⟨j,hj⟩:=mem_iff_getElem?.mp hm
   rw [List.getElem?_zip_eq_some] at hj
   obtain ⟨h1,h2⟩:=hj
   rw [getElem?_map] at h1
   cases e3:ps[j]? with
   | none=>rw [e3] at h1;cases h1
   | some pj =>
    rw [e3] at h1
    have h1':pj.1=z.1:=by simpa using h1
    have:=h.2 j z.2 pj h2 e3
    rw [this,val j z.2 pj h2 e3,h1']
def Zm (x:Str):Int:=Wd x.cps.toList x.length
def XH:Str:=(("leaf_of":Str)++".<locals>.")++"<lambda>"
inductive UN (K:PySem.W.Frag)(Pl:Addr)(lpos:Pos)(vs:List V)(H:Hp)(Q:VK)(w_3:XK):Prop
 | mk (l:Addr) (ts:List Addr) (ps:List (Str×V)):(vs=[.ref l])->(H l=some (.lst (ts.map V.ref)))->(PairT H ts ps)->(ps≠[])->(ps.length < 64)->((∀ p∈ps,p.1.length<=1000))->(LamAt H Pl lpos XH)->(∀ (a:Addr) (H':Hp) (p1:Str×V) (pr:List (Str×V)),Grown Pl H H'->LamAt H' Pl lpos XH->(p1::pr).Perm ps->Uv (p1::pr)->NodeAt K H' a (.leaf (Zm p1.1) (p1::pr))->Q (.ref a) H')->UN K Pl lpos vs H Q w_3
theorem Grown.trans' {Pl:Addr}{H H1 H2:Hp}(a:Grown Pl H H1)(b:Same H1 H2):Grown Pl H H2:=fun x o n h=>b _ _ (a x o n h)
theorem LamAt.same {H H':Hp}{Pl:Addr}{lpos:Pos}{q:Str}(h:LamAt H Pl lpos q)(s:Same H H'):LamAt H' Pl lpos q:=by
 rcases h with h | ⟨c,h,h2⟩
 ·exact .inl (s _ _ h)
 ·exact .inr ⟨c,s _ _ h,s _ _ h2⟩
theorem scLf:Zx ["pairs","rising","first_name"] ["pairs"] (Zo s_leaf_of):=⟨rfl,rfl,rfl,by decide +kernel,rfl,by decide +kernel,by decide +kernel⟩
def Zlk:Stmt->Pos
 | .Assign _ (.Call _ _ [⟨_,.Lambda _ _ _ p,_⟩] _) _=>p
 | _=>⟨0,0,0,0⟩
def YD:Pos:=Zlk ((XL s_leaf_of).getD 0 (.Pass ⟨0,0,0,0⟩))
theorem Zkd {f c Pl:Addr}{fd:FuncData}(F:FunC K "leaf_of" "leaf_of" s_leaf_of f fd c Pl)(T:Txt K mg)(hBm:UQ base mg)(DM:Def P w K mg base 1 "mark" ["name"] XV):FnOk P w K mg base ZK 2 f fd ["pairs"] (UN K Pl YD):=by
 refine F.ok scLf (fun vs H Q E h=>?_) (fun A outer s H vs Q E hr h=>?_)
 ·obtain ⟨l,ts,ps,rfl,_⟩:=h;rfl
 obtain ⟨l,ts,ps,rfl,el,hpt,hne,h64,hnl,hL,q⟩:=h
 refine' ⟨?t,?h,?r⟩
 case h =>
  conv=>arg 2;whnf
  with_reducible refine' Zf ?a1 (Zf ?a2 (Zj ?a3))
  case a1=>exact Zz (i:=1) scLf.nd rfl (Or.inl rfl) (ZiB (c:=c) (Pl:=Pl) rfl T.sorted (pv 0) hr rfl F.hd hBm)
  case a2=>exact Zz (i:=2) scLf.nd rfl (Or.inl rfl) (ZA YV (ZA ZD (pv 1) Zd (fun _ _=>rfl)) Zd (fun _ _=>rfl))
  case a3=>exact Zw (Zbe (Zc ZV (Zc (Zu DM hr (Zc (pv 2) Za)) (Zc (ZP Zai rfl T.tuple (by decide +kernel) (Zc (pv 1) Za)) Za))))
 try dsimp only [Yo,Cx.nox]
 refine zs3 ?_
 intro zD zS zN2 zN1
 refine ⟨_,rfl,l,ts,ps.map (·.1),rfl,el,by rw [hpt.1];exact h64,by rw [length_map,hpt.1],fun i t k e1 e2=>?_,hL,fun H2 r ts' gr hL2 hr2 hT=>?_⟩
 ·rw [getElem?_map] at e2
  cases e3:ps[i]? with
  | none=>rw [e3] at e2;cases e2
  | some p =>
   rw [e3] at e2
   have e4:p.1=k:=by simpa using e2
   rw [<- e4]
   exact ⟨_,hpt.2 i t p e1 e3⟩
 obtain ⟨ps',hperm,hsort,hpt'⟩:=ZgQ hpt hT
 obtain ⟨tb,htb⟩:=hL.tbl
 have tf2:TF H H2:=gr.tf htb
 have hpt2:=hpt'.tf tf2
 cases ps' with
 | nil=>exact absurd (List.Perm.nil_eq hperm).symm hne
 | cons p1 pr =>
  cases ts' with
  | nil=>have:=hpt'.1;simp at this
  | cons t1 tr =>
   have e1:=hpt2.2 0 t1 p1 rfl rfl
   have s3:=Zl hr2 (.lst ((t1::tr).map V.ref))
   have hn1:p1.1.length<=1000:=hnl p1 (hperm.mem_iff.mp mem_cons_self)
   refine ⟨_,rfl,r,_,_,_,rfl,rfl,SqL.of Ze,(show YA ((t1::tr).map V.ref) ((0:Nat):Int)=some (V.ref t1) from ZJ rfl),t1,_,_,_,rfl,rfl,SqT.of (s3 _ _ e1),rfl,?_⟩
   refine ⟨_,rfl,p1.1,rfl,hn1,fun H4 s4=>⟨_,rfl,r,_,rfl,SqL.of (s4 _ _ Ze),fun t o ht hd=>⟨(by show 3<=sizeLine;decide),fun a ha=>?_⟩⟩⟩
   have s5:=Zl ht (.frz o (.tup ((t1::tr).map V.ref)))
   have s6:=Zl ha (.tup [.str "leaf",.int (Zm p1.1),.ref t])
   have S:=((s3.trans s4).trans s5).trans s6
   refine q a _ p1 pr (Grown.trans' gr S) (LamAt.same hL2 S) hperm hsort ⟨t,SqT.of Ze,o,t1::tr,s6 _ _ Ze,hd,hpt2.tf S.tf⟩
end
structure YR (K:PySem.W.Frag)(C:Addr):Prop where
 cl:Cls K C
 nN:NoAttr K C "nodes"
 nT:NoAttr K C "tables"
section
variable {P:Program}{w:World}{K:PySem.W.Frag}{mg:Str->Option Value}{base:Heap}{C:Addr}
inductive ZdJ (K:PySem.W.Frag)(C:Addr)(vs:List V)(H:Hp)(Q:VK)(w_3:XK):Prop
 | mk (p dx:Addr):(vs=[.ref p])->(H p=some (.ins C dx []))->(∀ (ln dt:Addr) (H':Hp),H ln=none->H dt=none->StoreAt K C p ln dt H' [.bare] [(Sum.inl 0,.bl true)]->Kq [p] H H'->Q .non H')->ZdJ K C vs H Q w_3
theorem scIn:Zx ["self"] ["self"] (Zo c_Store___init__):=⟨rfl,rfl,rfl,by decide +kernel,rfl,by decide +kernel,by decide +kernel⟩
theorem Zkb {f:Addr}{fd:FuncData}(F:Fun K "__init__" "Store.__init__" c_Store___init__ f fd)(T:Txt K mg)(TC:YR K C):FnOk P w K mg base ZK 1 f fd ["self"] (ZdJ K C):=by
 refine F.ok scIn (fun vs H Q E h=>?_) (fun cdv A outer s H vs Q E hr h=>?_)
 ·obtain ⟨p,dx,rfl,_⟩:=h;rfl
 obtain ⟨p,dx,rfl,hp,q⟩:=h
 obtain ⟨ab,hb,hbt⟩:=T.bare
 obtain ⟨tz,hz⟩:=T.zero
 refine ⟨_,Zf (ZgY (pv 0) (YX (Zc (Xi rfl hb (v:=.ref ab) rfl) Za)) rfl) (Zj (ZgY (pv 0) (Zko (ZiI (Xi rfl hz (v:=.int 0) ⟨_,rfl⟩) XG Zkr) rfl rfl (by simp) (by decide)) rfl)),?_⟩
 refine ⟨(by show 1<=sizeLine;decide),fun ln hln=>?_⟩
 have npl:p≠ln:=Zn hp hln
 refine ⟨_,rfl,p,C,dx,[],rfl,(by rw [Zi npl];exact hp),TC.cl,TC.nN,(by show 0 < 1000;decide),?_⟩
 intro dt hdt
 have npd:p≠dt:=fun z=>by rw [<- z,Ze] at hdt;cases hdt
 have nld:ln≠dt:=fun z=>by rw [<- z,Zi npl.symm,Ze] at hdt;cases hdt
 have hdt0:H dt=none:=by rw [Zi npd.symm,Zi nld.symm] at hdt;exact hdt
 refine ⟨Ze,[(Sum.inl 0,.bl true)],rfl,by decide,_,rfl,p,C,dx,_,rfl,(by rw [Zi npd,Zi npd,Ze]),TC.cl,TC.nT,(by show 1 < 1000;decide),?_⟩
 refine q ln dt _ hln hdt0 ⟨⟨dx,Ze⟩,⟨[ab],?_,rfl,fun i a n e1 e2=>?_⟩,?_⟩ fun b o nb e=>?_
 ·rw [Zi npl.symm,Zi nld,Zi nld,Zi npl.symm,Ze];rfl
 ·cases i with
  | zero =>
   cases (show some ab=some a from e1)
   cases (show some Nd.bare=some n from e2)
   exact hbt _
  | succ i=>simp at e1
 ·rw [Zi npd.symm,Ze];rfl
 ·have nb':b≠p:=fun z=>nb (by simp [z])
  rw [Zi nb',Zi (Zn e hdt0),Zi (Zn e hdt0),Zi nb',Zi (Zn e hln)];exact e
inductive UM (K:PySem.W.Frag)(C:Addr)(vs:List V)(H:Hp)(Q:VK)(w_3:XK):Prop
 | mk (st ln dt a:Addr) (nds:List Nd) (tabs:List (Zk×V)) (n:Nd):(vs=[.ref st,.ref a])->(StoreAt K C st ln dt H nds tabs)->(NodeAt K H a n)->(nds.length<=100000)->(∀ H',StoreAt K C st ln dt H' (nds++[n]) tabs->Kq [ln] H H'->TF H H'->Q (.int nds.length) H')->UM K C vs H Q w_3
theorem scKe:Zx ["self","node"] ["self","node"] (Zo c_Store_keep):=⟨rfl,rfl,rfl,by decide +kernel,rfl,by decide +kernel,by decide +kernel⟩
theorem Zkc {f:Addr}{fd:FuncData}(F:Fun K "keep" "Store.keep" c_Store_keep f fd)(T:Txt K mg)(TC:YR K C):FnOk P w K mg base ZK 1 f fd ["self","node"] (UM K C):=by
 refine F.ok scKe (fun vs H Q E h=>?_) (fun cdv A outer s H vs Q E hr h=>?_)
 ·obtain ⟨st,ln,dt,a,nds,tabs,n,rfl,_⟩:=h;rfl
 obtain ⟨st,ln,dt,a,nds,tabs,n,rfl,⟨⟨dx,ob⟩,⟨as,nl,hl,hn⟩,tb⟩,hna,hsz,q⟩:=h
 refine ⟨_,Zf (YJ (Wo PySem.F.plainAttrs_list PySem.F.slot_list_append PySem.F.type_list_append Xs (YM (pv 0) rfl) (Zc (pv 1) Za))) (Zj (Zw (Zq YL (ZE ZU rfl T.len PySem.boot_len (Zc (YM (pv 0) rfl) Za)) Zd))),?_⟩
 have e1:(as.map V.ref).length < sizeLine:=by rw [length_map,hl];exact Nat.lt_of_le_of_lt hsz (by decide)
 refine ⟨_,rfl,st,C,dx,_,_,rfl,ob,TC.cl,TC.nN,Xe ln dt,.inl ⟨rfl,_,SqL.of nl⟩,_,rfl,ln,_,_,rfl,rfl,nl,e1,?_⟩
 have nsl:st≠ln:=Zba ob nl (by intro z;cases z)
 have ndl:dt≠ln:=Zba tb nl (by intro z;cases z)
 refine ⟨_,rfl,st,C,dx,_,_,rfl,(by rw [Zi nsl];exact ob),TC.cl,TC.nN,Xe ln dt,ln,_,rfl,.inl (SqL.of Ze),_,_,rfl,rfl,?_⟩
 have tf:=ZdT (o:=.lst (as.map V.ref++[.ref a])) nl
 have e2:((((as.map V.ref++[V.ref a]).length:Nat):Int) - 1)=(nds.length:Int):=by rw [length_append,length_map,hl];show ((nds.length+1:Nat):Int) - 1=_;omega
 have fin:Q (.int (nds.length:Int)) (upd H ln (.lst (as.map V.ref++[.ref a]))):=by
  refine q _ ⟨⟨dx,by rw [Zi nsl];exact ob⟩,⟨as++[a],by rw [map_append];exact Ze,by rw [length_append,length_append,hl];rfl,fun i b m e3 e4=>?_⟩,by rw [Zi ndl];exact tb⟩ ZaV tf
  by_cases hi:i < as.length
  ·rw [getElem?_append_left hi] at e3
   rw [getElem?_append_left (by rw [<- hl];exact hi)] at e4
   exact (hn i b m e3 e4).tf tf
  ·rw [getElem?_append_right (by omega)] at e3
   rw [getElem?_append_right (by omega)] at e4
   have h0:i - as.length=0:=by
    cases z:i - as.length with
    | zero=>rfl
    | succ j=>rw [z] at e3;simp at e3
   rw [h0] at e3
   rw [show i - nds.length=0 by omega] at e4
   cases (show some a=some b from e3)
   cases (show some n=some m from e4)
   exact hna.tf tf
 rw [<- e2] at fin
 exact fin
inductive ZcP (K:PySem.W.Frag)(C:Addr)(vs:List V)(H:Hp)(Q:VK)(w_3:XK):Prop
 | mk (st ln dt:Addr) (nds:List Nd) (tabs:List (Zk×V)) (n:Int):(vs=[.ref st,.int n])->(StoreAt K C st ln dt H nds tabs)->(tabs.length<=100000)->(∀ H',StoreAt K C st ln dt H' nds (ZQ tabs (Sum.inl n) (.bl true))->Kq [dt] H H'->TF H H'->Q (.int n) H')->ZcP K C vs H Q w_3
theorem scAs:Zx ["self","number"] ["self","number"] (Zo c_Store_as_table):=⟨rfl,rfl,rfl,by decide +kernel,rfl,by decide +kernel,by decide +kernel⟩
theorem Zls {f:Addr}{fd:FuncData}(F:Fun K "as_table" "Store.as_table" c_Store_as_table f fd)(TC:YR K C):FnOk P w K mg base ZK 1 f fd ["self","number"] (ZcP K C):=by
 refine F.ok scAs (fun vs H Q E h=>?_) (fun cdv A outer s H vs Q E hr h=>?_)
 ·obtain ⟨st,ln,dt,nds,tabs,n,rfl,_⟩:=h;rfl
 obtain ⟨st,ln,dt,nds,tabs,n,rfl,⟨⟨dx,ob⟩,⟨as,nl,hl,hn⟩,tb⟩,hsz,q⟩:=h
 refine ⟨_,Zf (Wg (XF hr) (YM (pv 0) rfl) (pv 1) XG rfl) (Zj (Zw (pv 1))),?_⟩
 refine ⟨_,rfl,st,C,dx,_,_,rfl,ob,TC.cl,TC.nT,Zgp ln dt,_,rfl,dt,_,rfl,DPut.k (k:=Sum.inl n) tb (Nat.lt_of_le_of_lt hsz (by decide)),_,rfl,?_⟩
 have nsd:st≠dt:=Zba ob tb (by intro z;cases z)
 have nld:ln≠dt:=Zba nl tb (by intro z;cases z)
 have tf:=ZkC (o:=.dK (ZQ tabs (Sum.inl n) (.bl true))) tb
 exact q _ ⟨⟨dx,by rw [Zi nsd];exact ob⟩,⟨as,by rw [Zi nld];exact nl,hl,fun i a m e1 e2=>(hn i a m e1 e2).tf tf⟩,Ze⟩ ZaV tf
inductive VM (K:PySem.W.Frag)(C:Addr)(vs:List V)(H:Hp)(Q:VK)(w_3:XK):Prop
 | mk (st ln dt:Addr) (nds:List Nd) (tabs:List (Zk×V)) (n:Int):(vs=[.ref st,.int n])->(StoreAt K C st ln dt H nds tabs)->((Zy tabs (Sum.inl n)).isSome=true)->(Q .non H)->VM K C vs H Q w_3
theorem scCk:Zx ["self","table"] ["self","table"] (Zo c_Store_check_table):=⟨rfl,rfl,rfl,by decide +kernel,rfl,by decide +kernel,by decide +kernel⟩
theorem Zip {f:Addr}{fd:FuncData}(F:Fun K "check_table" "Store.check_table" c_Store_check_table f fd)(TC:YR K C):FnOk P w K mg base ZK 1 f fd ["self","table"] (VM K C):=by
 refine F.ok scCk (fun vs H Q E h=>?_) (fun cdv A outer s H vs Q E hr h=>?_)
 ·obtain ⟨st,ln,dt,nds,tabs,n,rfl,_⟩:=h;rfl
 obtain ⟨st,ln,dt,nds,tabs,n,rfl,⟨⟨dx,ob⟩,⟨as,nl,hl,hn⟩,tb⟩,hs,q⟩:=h
 refine ⟨_,Zj (Yf (Zbh (Zcr (XF hr) (pv 1) (YM (pv 0) rfl))) (Zj Zjv) ZS),?_⟩
 refine ⟨_,rfl,_,rfl,st,C,dx,_,_,rfl,ob,TC.cl,TC.nT,Zgp ln dt,dt,_,rfl,DGet.k (k:=Sum.inl n) tb,_,rfl,?_⟩
 rw [hs]
 exact ZR q
end
def Zv (n:Int)(k:Nat):Nat:=(n / 4 ^ k % 4).toNat
theorem Wc (n:Int)(k:Nat):(Zv n k:Int)=n / 4 ^ k % 4:=Int.toNat_of_nonneg (Int.emod_nonneg _ (by decide))
theorem Xp (n:Int)(k:Nat):Zv n k < 4:=by
 have h1:=Wc n k
 have h2:=Int.emod_lt_of_pos (n / 4 ^ k) (show (0:Int) < 4 by decide)
 omega
def Yg (nds:List Nd)(m:Int):Nat->Nat->Nat->Option (List Nat)
 | 0,_,_=>none
 | f+1,lev,num=>match nds[num]? with
  | none=>none
  | some (.fork qs)=>(qs[Zv m lev]?).bind fun q=>(Yg nds m f (lev+1) q).map (num::·)
  | some _=>some [num]
def iN (n:Nat):V:=.int (n:Int)
section
variable {P:Program}{w:World}{K:PySem.W.Frag}{mg:Str->Option Value}{base:Heap}{C:Addr}
theorem _root_.L2.StoreAt.node {st ln dt:Addr}{H:Hp}{nds:List Nd}{tabs:List (Zk×V)}(S:StoreAt K C st ln dt H nds tabs){i:Nat}{n:Nd}(h:nds[i]?=some n):∃(as:List Addr)(a:Addr),H ln=some (.lst (as.map V.ref))/\as[i]?=some a/\NodeAt K H a n:=by
 obtain ⟨_,⟨as,e,l,hn⟩,_⟩:=S
 have hi:i < as.length:=by rw [l];exact (List.getElem?_eq_some_iff.mp h).1
 exact ⟨as,as[i],e,getElem?_eq_getElem hi,hn i _ n (getElem?_eq_getElem hi) h⟩
inductive Zbp (K:PySem.W.Frag)(C:Addr)(vs:List V)(H:Hp)(Q:VK)(w_3:XK):Prop
 | mk (st ln dt:Addr) (nds:List Nd) (tabs:List (Zk×V)) (t:Nat) (x:Str) (f:Nat) (ws:List Nat):(vs=[.ref st,iN t,.str x])->(StoreAt K C st ln dt H nds tabs)->((Zy tabs (Sum.inl (t:Int))).isSome=true)->(x.length<=1000)->(0<=Zm x)->(f<=1000)->(Yg nds (Zm x) f 0 t=some ws)->(∀ r H',H r=none->Same H H'->H' r=some (.lst (ws.map iN))->Q (.ref r) H')->Zbp K C vs H Q w_3
theorem scWa:Zx ["self","table","name","told","parts","part"] ["self","table","name"] (Zo c_Store_way):=⟨rfl,rfl,rfl,by decide +kernel,rfl,by decide +kernel,by decide +kernel⟩
theorem ZgP {f : Addr}{fd:FuncData}(F:Fun K "way" "Store.way" c_Store_way f fd)(T:Txt K mg)(TC:YR K C)(DC:DefM P w K mg base 1 C "check_table" ["self","table"] (VM K C))(DP:Def P w K mg base 1 "parts_in" ["node"] (Wl K))
 (DM:Def P w K mg base 1 "mark" ["name"] XV) (DG:Def P w K mg base 1 "digit" ["number","level"] XQ):FnOk P w K mg base ZK 2 f fd ["self","table","name"] (Zbp K C):=by
 refine F.ok scWa (fun vs H Q E h=>?_) (fun cdv A outer s H vs Q E hr h=>?_)
 ·obtain ⟨st,ln,dt,nds,tabs,t,x,f,ws,rfl,_⟩:=h;rfl
 obtain ⟨st,ln,dt,nds,tabs,t,x,fu,ws,rfl,S,htab,hx,hm,hfu,hway,q⟩:=h
 refine' ⟨?t,?h,?r⟩
 case h =>
  conv=>arg 2;whnf
  with_reducible refine' Zf ?a1 (Zf ?a2 (Zf ?a3 (Zf (Vc ?w0 ?w1 (Zf ?b1 (Zf ?b2 (Zj ?b3)))) (Zj ?a5))))
  case a1=>exact YJ (YY DC TC.cl hr (pv 0) (Zc (pv 1) Za))
  case a2=>exact Zz (i:=3) scWa.nd rfl (Or.inl rfl) (YX (Zc (pv 1) Za))
  case a3=>exact Zz (i:=4) scWa.nd rfl (Or.inl rfl) (Zu DP hr (Zc (ZA ZD (YM (pv 0) rfl) (pv 1) (fun _ _=>rfl)) Za))
  case w0=>exact PassesOwn.never
  case w1=>exact WW (pv 4) (fun _=>rfl)
  case b1=>exact Zz (i:=5) scWa.nd rfl (Or.inl rfl) (ZA YV (pv 4) (Zu DG hr (Zc (Zu DM hr (Zc (pv 2) Za)) (Zc (Zq YL (ZE ZU rfl T.len PySem.boot_len (Zc (pv 3) Za)) Zd) Za))) (fun _ _=>rfl))
  case b2=>exact YJ (Wo PySem.F.plainAttrs_list PySem.F.slot_list_append PySem.F.type_list_append Xs (pv 3) (Zc (pv 5) Za))
  case b3=>exact Zz (i:=4) scWa.nd rfl (Or.inl rfl) (Zu DP hr (Zc (ZA ZD (YM (pv 0) rfl) (pv 5) (fun _ _=>rfl)) Za))
  case a5=>exact Zw (pv 3)
 try dsimp only [Yo,Cx.nox]
 refine zs5 ?_
 intro zD zS zN4 zN3 zN2 zN1
 obtain ⟨dx,ob⟩:=S.ob
 refine ⟨_,rfl,st,dx,_,rfl,ob,ZN ln dt (by decide +kernel) (by decide +kernel),_,rfl,st,ln,dt,nds,tabs,t,rfl,S,htab,_,rfl,(by show 1<=sizeLine;decide),fun l hl=>?_⟩
 obtain ⟨n,hn⟩:∃ n,nds[t]?=some n:=by
  cases fu with
  | zero=>cases hway
  | succ fu =>
   cases e:nds[t]? with
   | none=>unfold Yg at hway;rw [e] at hway;cases hway
   | some n=>exact ⟨n,rfl⟩
 have s1:=Zl hl (.lst [iN t])
 have S1:=S.keep s1
 obtain ⟨as,a,nl,ha,hna⟩:=S1.node hn
 obtain ⟨dx1,ob1⟩:=S1.ob
 refine ⟨_,rfl,st,C,dx1,_,_,rfl,ob1,TC.cl,TC.nN,Xe ln dt,_,rfl,ln,_,_,_,rfl,rfl,SqL.of nl,ZJ (by rw [getElem?_map,ha];rfl),a,n,rfl,hna,fun pt H2 s2 hpt=>?_⟩
 refine ⟨fun fl σ H'=>∃ (pre wr:List Nat) (num:Nat) (n:Nd) (pt:Addr) (y:Option V),σ=[some (.ref st),some (iN t),some (.str x),some (.ref l),some (.ref pt),y]/\Same H H'/\H' l=some (.lst ((pre++[num]).map iN))/\nds[num]?=some n/\SqT K H' pt (n.parts.map iN)/\Yg nds (Zm x) fl pre.length num=some wr/\ws=pre++wr/\fl+pre.length<=1000,
  ⟨fu,[],ws,t,n,pt,_,rfl,s1.trans s2,s2 _ _ Ze,hn,hpt,hway,rfl,by simpa using hfu⟩,?_⟩
 rintro fl σ H3 ⟨pre,wr,num,n,pt,y,rfl,s3,hl3,hn3,hpt3,hw3,rfl,hfl⟩
 refine ⟨_,rfl,_,.inr (.inl ⟨_,hpt3,rfl⟩),?_⟩
 have stop:n.parts=[]->Yg nds (Zm x) fl pre.length num=some [num]:=fun z=>by
  cases fl with
  | zero=>cases hw3
  | succ fl =>
   unfold Yg at hw3 ⊢
   rw [hn3] at hw3 ⊢
   cases n with
   | bare=>rfl
   | leaf m ps=>rfl
   | fork qs =>
    have z':qs=[]:=z
    subst z'
    simp at hw3
 by_cases hz:n.parts=[]
 ·rw [hz]
  refine ZR ⟨_,rfl,?_⟩
  have e:=stop hz
  rw [hw3] at e
  cases e
  exact q l H3 hl s3 hl3
 ·have hk : (!(n.parts.map iN).isEmpty)=true:=by
   cases e:n.parts with
   | nil=>exact absurd e hz
   | cons _ _=>rfl
  rw [hk]
  cases n with
  | bare=>exact absurd rfl hz
  | leaf m ps=>exact absurd rfl hz
  | fork qs =>
   cases fl with
   | zero=>cases hw3
   | succ fl =>
    unfold Yg at hw3
    rw [hn3] at hw3
    cases eq1:qs[Zv (Zm x) pre.length]? with
    | none=>simp [eq1] at hw3
    | some q1 =>
     have hw4:(Yg nds (Zm x) fl (pre.length+1) q1).map (num::·)=some wr:=by simpa [eq1] using hw3
     cases eq2:Yg nds (Zm x) fl (pre.length+1) q1 with
     | none=>rw [eq2] at hw4;cases hw4
     | some wr' =>
      rw [eq2] at hw4
      have ewr:num::wr'=wr:=by simpa using hw4
      obtain ⟨n',hn'⟩:∃ n',nds[q1]?=some n':=by
       cases fl with
       | zero=>cases eq2
       | succ fl =>
        cases e:nds[q1]? with
        | none=>unfold Yg at eq2;rw [e] at eq2;cases eq2
        | some n=>exact ⟨n,rfl⟩
      have e2:((((pre++[num]).map iN).length:Nat):Int) - 1=(pre.length:Int):=by rw [length_map,length_append];show ((pre.length+1:Nat):Int) - 1=_;omega
      have hat:YA (qs.map iN) (Zm x / 4 ^ pre.length % 4)=some (iN q1):=by rw [<- Wc];exact ZJ (by rw [getElem?_map,eq1];rfl)
      refine Yx ⟨_,fun σ' H' h=>⟨fl,Nat.lt_succ_self _,h⟩,_,rfl,_,rfl,x,rfl,hx,fun H4 s4=>?_⟩
      refine ⟨_,rfl,l,_,rfl,.inl (SqL.of (s4 _ _ hl3)),_,_,rfl,rfl,Zm x,pre.length,congrArg (fun z=>[V.int (Zm x),V.int z]) e2,hm,by omega,pt,_,_,_,rfl,rfl,hpt3.tf s4.tf,hat,?_⟩
      refine ⟨_,rfl,.inl ⟨rfl,_,SqL.of (s4 _ _ hl3)⟩,_,rfl,l,_,_,rfl,rfl,s4 _ _ hl3,(by rw [length_map,length_append];show pre.length+1 < sizeLine;exact Nat.lt_of_le_of_lt (show pre.length+1<=1001 by omega) (by decide)),?_⟩
      have s5:Same H (upd H4 l (.lst ((pre++[num]).map iN++[iN q1]))):=fun b o e=>by rw [Zi (Zn e hl)];exact s4 _ _ (s3 _ _ e)
      have S5:=S.keep s5
      obtain ⟨as5,a5,nl5,ha5,hna5⟩:=S5.node hn'
      obtain ⟨dx5,ob5⟩:=S5.ob
      refine ⟨_,rfl,st,C,dx5,_,_,rfl,ob5,TC.cl,TC.nN,Xe ln dt,_,rfl,ln,_,_,_,rfl,rfl,SqL.of nl5,ZJ (by rw [getElem?_map,ha5];rfl),a5,n',rfl,hna5,fun pt6 H6 s6 hpt6=>?_⟩
      refine ⟨pre++[num],wr',q1,n',pt6,_,rfl,s5.trans s6,?_,hn',hpt6,?_,?_,?_⟩
      ·rw [map_append];exact s6 _ _ Ze
      ·rw [length_append];exact eq2
      ·rw [<- ewr,append_assoc];rfl
      ·rw [length_append];show fl+(pre.length+1)<=1000;omega
def lk (ps:List (Str×V))(x:Str):Option V:=Zy (ps.map fun p=>((Sum.inr p.1:Zk),p.2)) (Sum.inr x)
inductive Wk (K:PySem.W.Frag)(C:Addr)(vs:List V)(H:Hp)(Q:VK)(w_3:XK):Prop
 | mk (st ln dt:Addr) (nds:List Nd) (tabs:List (Zk×V)) (t:Nat) (x:Str) (f:Nat) (ws:List Nat) (e:Nat) (n:Nd):(vs=[.ref st,iN t,.str x])->(StoreAt K C st ln dt H nds tabs)->((Zy tabs (Sum.inl (t:Int))).isSome=true)->(x.length<=1000)->(0<=Zm x)->(f<=1000)->(Yg nds (Zm x) f 0 t=some (ws++[e]))->(nds[e]?=some n)->(n.pairs.length<=1000)->((n.pairs.map (·.1)).Nodup)->(∀ H',Same H H'->Q ((lk n.pairs x).getD .non) H')->Wk K C vs H Q w_3
theorem scLo:Zx ["self","table","name","end"] ["self","table","name"] (Zo c_Store_looked):=⟨rfl,rfl,rfl,by decide +kernel,rfl,by decide +kernel,by decide +kernel⟩
theorem Zcq {f:Addr}{fd:FuncData}(F:Fun K "looked" "Store.looked" c_Store_looked f fd)(T:Txt K mg)(TC:YR K C)(DW:DefM P w K mg base 2 C "way" ["self","table","name"] (Zbp K C))(DR:Def P w K mg base 1 "pairs_in" ["node"] (XR K)):FnOk P w K mg base ZK 3 f fd ["self","table","name"] (Wk K C):=by
 refine F.ok scLo (fun vs H Q E h=>?_) (fun cdv A outer s H vs Q E hr h=>?_)
 ·obtain ⟨st,ln,dt,nds,tabs,t,x,f,ws,e,n,rfl,_⟩:=h;rfl
 obtain ⟨st,ln,dt,nds,tabs,t,x,fu,ws,e,n,rfl,S,htab,hx,hm,hfu,hway,hn,hsz,hnd,q⟩:=h
 refine' ⟨?t,?h,?r⟩
 case h =>
  conv=>arg 2;whnf
  with_reducible refine' Zf ?a1 (Zj ?a2)
  case a1=>exact Zz (i:=3) scLo.nd rfl (Or.inl rfl) (ZA ZD (YY DW TC.cl hr (pv 0) (Zc (pv 1) (Zc (pv 2) Za))) (ZcN Zbs Zd) (fun _ _=>rfl))
  case a2=>exact Zw (Zix (XF hr) (ZP (Uf rfl) rfl T.dict (by decide +kernel) (Zc (Zu DR (hr.mono (by decide)) (Zc (ZA ZD (YM (pv 0) rfl) (pv 3) (fun _ _=>rfl)) Za)) Za)) (pv 2) ⟨rfl,rfl,rfl,rfl⟩)
 try dsimp only [Yo,Cx.nox]
 refine zs2 ?_
 intro zD zS zN1
 obtain ⟨dx,ob⟩:=S.ob
 refine ⟨_,rfl,st,dx,_,rfl,ob,ZN ln dt (by decide +kernel) (by decide +kernel),_,rfl,_,rfl,st,ln,dt,nds,tabs,t,x,fu,_,rfl,S,htab,hx,hm,hfu,hway,fun r H1 hr1 s1 el=>?_⟩
 refine ⟨_,rfl,r,_,_,iN e,rfl,rfl,SqL.of el,(by rw [map_append];exact Zdb _ _),?_⟩
 have S1:=S.keep s1
 obtain ⟨as,a,nl,ha,hna⟩:=S1.node hn
 obtain ⟨dx1,ob1⟩:=S1.ob
 refine ⟨_,rfl,st,C,dx1,_,_,rfl,ob1,TC.cl,TC.nN,Xe ln dt,_,rfl,ln,_,_,_,rfl,rfl,SqL.of nl,ZJ (by rw [getElem?_map,ha];rfl),a,n,rfl,hna,fun pt H2 s2 hpt=>?_⟩
 obtain ⟨o,ts,ept,hod,hlen,hp⟩:=hpt
 refine ⟨pt,ts,n.pairs,rfl,⟨o,ept,hod⟩,hlen,hsz,hp,hnd,fun d hd=>⟨d,rfl,.inl ⟨_,.inl Ze⟩,_,rfl,_,DGet.k (k:=Sum.inr x) Ze,?_⟩⟩
 exact q _ ((s1.trans s2).trans (Zl hd _))
end
def Yj (num lev:Nat):Nd->List Nat
 | .fork qs=>qs
 | .leaf m _=>[0,1,2,3].map fun g=>if g=Zv m lev then num else 0
 | .bare=>[]
def ZcZ:Nd->Prop
 | .leaf m ps=>∃ p1 pr,ps=p1::pr/\Zm p1.1=m/\p1.1.length<=1000/\0<=m
 | _=>True
section
variable {P:Program}{w:World}{K:PySem.W.Frag}{mg:Str->Option Value}{base:Heap}{C:Addr}
inductive ZfQ (K:PySem.W.Frag)(C:Addr)(vs:List V)(H:Hp)(Q:VK)(w_3:XK):Prop
 | mk (st ln dt:Addr) (nds:List Nd) (tabs:List (Zk×V)) (num lev:Nat) (n:Nd):(vs=[.ref st,iN num,iN lev])->(StoreAt K C st ln dt H nds tabs)->(nds[num]?=some n)->(n≠.bare)->(ZcZ n)->(lev<=1000)->(∀ r H',H r=none->Same H H'->H' r=some (.lst ((Yj num lev n).map iN))->Q (.ref r) H')->ZfQ K C vs H Q w_3
abbrev nFp:List Str:=["self","number","level","node","first_name","at"]
theorem scFp:Zx nFp ["self","number","level"] (Zo c_Store_fork_parts):=⟨rfl,rfl,rfl,by decide +kernel,rfl,by decide +kernel,by decide +kernel⟩
theorem Zmw {f:Addr}{fd:FuncData}(F:Fun K "fork_parts" "Store.fork_parts" c_Store_fork_parts f fd)(T:Txt K mg)(TC:YR K C)(DP:Def P w K mg base 1 "parts_in" ["node"] (Wl K))(DR:Def P w K mg base 1 "pairs_in" ["node"] (XR K))
 (DM:Def P w K mg base 1 "mark" ["name"] XV) (DG:Def P w K mg base 1 "digit" ["number","level"] XQ):FnOk P w K mg base ZK 2 f fd ["self","number","level"] (ZfQ K C):=by
 refine F.ok scFp (fun vs H Q E h=>?_) (fun cdv A outer s H vs Q E hr h=>?_)
 ·obtain ⟨st,ln,dt,nds,tabs,num,lev,n,rfl,_⟩:=h;rfl
 obtain ⟨st,ln,dt,nds,tabs,num,lev,n,rfl,S,hn,hnb,hok,hlev,q⟩:=h
 obtain ⟨tz,hz⟩:=T.zero
 obtain ⟨af,hf,hft⟩:=T.figs
 refine' ⟨?t,?h,?r⟩
 case h =>
  conv=>arg 2;whnf
  with_reducible refine' Zf ?a1 (Zf ?a2 (Zf ?a3 (Zf ?a4 (Zj ?a5))))
  case a1=>exact Zz (i:=3) scFp.nd rfl (Or.inl rfl) (ZA ZD (YM (pv 0) rfl) (pv 1) (fun _ _=>rfl))
  case a2=>exact Yf (WW (Zu DP hr (Zc (pv 3) Za)) (fun _=>rfl)) (Zj (Zw (ZP YT rfl T.list (by decide +kernel) (Zc (Zu DP hr (Zc (pv 3) Za)) Za)))) ZS
  case a3=>exact Zz (i:=4) scFp.nd rfl (Or.inl rfl) (ZA YV (ZA YV (Zu DR hr (Zc (pv 3) Za)) Zd (fun _ _=>rfl)) Zd (fun _ _=>rfl))
  case a4=>exact Zz (i:=5) scFp.nd rfl (Or.inr rfl) (Zu DG hr (Zc (Zu DM hr (Zc (pv 4) Za)) (Zc (pv 2) Za)))
  case a5=>exact Zw (ZbJ (CompOk.of nFp c_Store_fork_parts rfl rfl (by decide +kernel)) rfl (Zdy (Xi rfl hf (v:=.ref af) rfl)) (fun _ _ _ _ _=>Xb (ZF YH (pv 6) (pv 5) (ZI _)) (pv 1) (Xi rfl hz (v:=.int 0) ⟨_,rfl⟩)))
 try dsimp only [Yo,Cx.nox]
 refine zs5 ?_
 intro zD zS zN4 zN3 zN2 zN1
 obtain ⟨as,a,nl,ha,hna⟩:=S.node hn
 obtain ⟨dx,ob⟩:=S.ob
 refine ⟨_,rfl,st,C,dx,_,_,rfl,ob,TC.cl,TC.nN,Xe ln dt,_,rfl,ln,_,_,_,rfl,rfl,SqL.of nl,ZJ (by rw [getElem?_map,ha];rfl),?_⟩
 refine ⟨_,rfl,a,n,rfl,hna,fun pt H2 s2 hpt=>⟨_,.inr (.inl ⟨_,hpt,rfl⟩),?_⟩⟩
 cases n with
 | bare=>exact absurd rfl hnb
 | fork qs =>
  have h4:qs.length=4:=by obtain ⟨_,_,_,z⟩:=hna;exact z
  have hk:(!(((Nd.fork qs).parts).map (fun q:Nat=>V.int (q:Int))).isEmpty)=true:=by
   cases qs with
   | nil=>cases h4
   | cons _ _=>rfl
  rw [hk]
  refine Yx ⟨_,rfl,a,_,rfl,hna.tf s2.tf,fun pt3 H3 s3 hpt3=>⟨pt3,_,rfl,.inr hpt3,fun l hl=>?_⟩⟩
  have hl0:H l=none:=by
   cases e:H l with
   | none=>rfl
   | some o=>rw [s3 _ _ (s2 _ _ e)] at hl;cases hl
  exact q l _ hl0 ((s2.trans s3).trans (Zl hl _)) Ze
 | leaf m ps =>
  obtain ⟨p1,pr,rfl,hm1,hx1,hm0⟩:=hok
  refine ZR ⟨_,rfl,a,_,rfl,hna.tf s2.tf,fun pt3 H3 s3 hpt3=>?_⟩
  obtain ⟨o,ts,ept,hod,hlen,hp⟩:=hpt3
  cases ts with
  | nil=>simp [Nd.pairs] at hlen
  | cons t1 tr =>
   have et1:=hp 0 t1 p1 rfl rfl
   refine ⟨pt3,_,_,_,rfl,rfl,.inl (.inr ⟨o,ept⟩),(show YA ((t1::tr).map V.ref) ((0:Nat):Int)=some (V.ref t1) from ZJ rfl),t1,_,_,_,rfl,rfl,SqT.of et1,rfl,?_⟩
   refine ⟨_,rfl,p1.1,rfl,hx1,fun H4 s4=>⟨_,rfl,Zm p1.1,lev,rfl,by rw [hm1];exact hm0,hlev,?_⟩⟩
   refine ⟨af,rfl,⟨_,hft _⟩,fun D hD=>?_⟩
   have s24:=(s2.trans s3).trans s4
   have hD0:H D=none:=by
    cases e:H D with
    | none=>rfl
    | some o=>rw [s24 _ _ e] at hD;cases hD
   refine ZhL (K:=K) (a:=af) (xs:=[.int 0,.int 1,.int 2,.int 3]) (by show 4<=sizeLine;decide) (fun i ys H'=>ys=(([0,1,2,3]:List Nat).take i).map (fun g=>iN (if g=Zv m lev then num else 0))/\i<=4/\H' D=some (.lst ys)/\Same H H') ?_ ?_ ?_ ?_
   ·exact ⟨rfl,by decide,Ze,s24.trans (Zl hD _)⟩
   ·rintro i ys H5 ⟨rfl,hi,_,_⟩
    exact ⟨by rw [length_map,length_take];show min i 4=i;omega,hft _⟩
   ·rintro i x ys H5 hi ⟨rfl,hi4,hD5,s5⟩
    have hi':i < 4:=(List.getElem?_eq_some_iff.mp hi).1
    have ex:x=iN i:=by
     rcases i with _ | _ | _ | _ | i
     ·cases hi;rfl
     ·cases hi;rfl
     ·cases hi;rfl
     ·cases hi;rfl
     ·omega
    subst ex
    have fin:∀ y,y=iN (if i=Zv m lev then num else 0)->H5 D=some (.lst ((([0,1,2,3]:List Nat).take i).map (fun g=>iN (if g=Zv m lev then num else 0))))/\(((([0,1,2,3]:List Nat).take i).map (fun g=>iN (if g=Zv m lev then num else 0))++[y])=(([0,1,2,3]:List Nat).take (i+1)).map (fun g=>iN (if g=Zv m lev then num else 0))/\i+1<=4/\upd H5 D (.lst ((([0,1,2,3]:List Nat).take i).map (fun g=>iN (if g=Zv m lev then num else 0))++[y])) D=some (.lst ((([0,1,2,3]:List Nat).take i).map (fun g=>iN (if g=Zv m lev then num else 0))++[y]))/\Same H (upd H5 D (.lst ((([0,1,2,3]:List Nat).take i).map (fun g=>iN (if g=Zv m lev then num else 0))++[y])))):=by
     intro y ey
     refine ⟨hD5,?_,by omega,Ze,fun b o e=>by rw [Zi (Zn e hD0)];exact s5 _ _ e⟩
     subst ey
     rcases i with _ | _ | _ | _ | i
     ·rfl
     ·rfl
     ·rfl
     ·rfl
     ·omega
    have ed:decide (iN i=V.int (Zm p1.1 / 4 ^ lev % 4))=decide (i=Zv m lev):=by
     rw [hm1,<- Wc]
     by_cases z:i=Zv m lev
     ·rw [decide_eq_true z,z];exact decide_eq_true rfl
     ·rw [decide_eq_false z]
      exact decide_eq_false fun y=>z (by have:=V.int.inj y;omega)
    refine ⟨_,rfl,_,rfl,rfl,_,rfl,?_⟩
    rw [ed]
    by_cases z:i=Zv m lev
    ·rw [decide_eq_true z]
     exact Yx ⟨_,rfl,fin _ (by rw [if_pos z])⟩
    ·rw [decide_eq_false z]
     exact ZR (fin _ (by rw [if_neg z];rfl))
   ·rintro ys H5 ⟨rfl,_,hD5,s5⟩
    refine q D H5 hD0 s5 ?_
    rw [hD5]
    rfl
end
def gK (p:Str×V):Zk×V:=(Sum.inr p.1,p.2)
theorem Zll (ps:List (Str×V))(x:Str):lk ps x=Zy (ps.map gK) (Sum.inr x):=rfl
theorem ZgH (x:Str):lk [] x=none:=rfl
theorem WG (p:Str×V)(ps:List (Str×V))(x:Str):lk (p::ps) x=if p.1=x then some p.2 else lk ps x:=by
 by_cases h:p.1=x
 ·rw [if_pos h];exact Yv (show (gK p).1=Sum.inr x by rw [<- h];rfl)
 ·rw [if_neg h];exact Yu (show ¬ (gK p).1=Sum.inr x from fun z=>h (Sum.inr.inj z))
theorem WR {ps:List (Str×V)}(hnd:(ps.map (·.1)).Nodup){x:Str}{v:V}:lk ps x=some v↔(x,v)∈ps:=by
 induction ps with
 | nil=>simp [ZgH]
 | cons p ps ih =>
  rw [map_cons,nodup_cons] at hnd
  rw [WG]
  by_cases h:p.1=x
  ·rw [if_pos h]
   constructor
   ·intro e
    cases e
    rw [<- h];exact mem_cons_self
   ·intro e
    rcases mem_cons.mp e with e | e
    ·rw [<- e]
    ·exact absurd (h ▸ List.mem_map_of_mem (f:=(·.1)) e) hnd.1
  ·rw [if_neg h,ih hnd.2,mem_cons]
   exact ⟨.inr,fun e=>e.resolve_left fun z=>h (by rw [<- z])⟩
theorem ZeG {ps:List (Str×V)}{x:Str}(h:∀ p∈ps,p.1≠x):lk ps x=none:=by
 induction ps with
 | nil=>rfl
 | cons p ps ih=>rw [WG,if_neg (h p mem_cons_self)];exact ih fun q hq=>h q (mem_cons_of_mem _ hq)
theorem ZeH {ps qs:List (Str×V)}(h:ps.Perm qs)(hnd:(qs.map (·.1)).Nodup)(x:Str):lk ps x=lk qs x:=by
 have hnd':(ps.map (·.1)).Nodup:=(h.map (·.1)).nodup_iff.mpr hnd
 cases e:lk qs x with
 | some v=>exact (WR hnd').mpr (h.mem_iff.mpr ((WR hnd).mp e))
 | none =>
  cases e2:lk ps x with
  | none=>rfl
  | some v=>rw [(WR hnd).mpr (h.mem_iff.mp ((WR hnd').mp e2))] at e;cases e
def YI (ps:List (Str×V))(x:Str)(v:V):List (Str×V) :=
 if (ps.any fun p=>decide (p.1=x))=true then ps.map (fun p=>if p.1=x then (p.1,v) else p) else ps++[(x,v)]
theorem Zav (ps:List (Str×V))(x:Str)(v:V):ZQ (ps.map gK) (Sum.inr x) v=(YI ps x v).map gK:=by
 have e:∀ p:Str×V,decide ((gK p).1=Sum.inr x)=decide (p.1=x):=fun p=>by
  by_cases h:p.1=x
  ·rw [decide_eq_true h];exact decide_eq_true (by rw [<- h];rfl)
  ·rw [decide_eq_false h];exact decide_eq_false fun z=>h (Sum.inr.inj z)
 have e1:((ps.map gK).any fun kv=>decide (kv.1=Sum.inr x))=ps.any fun p=>decide (p.1=x):=by
  rw [List.any_map];congr 1;funext p;exact e p
 unfold ZQ YI
 rw [e1]
 by_cases h:(ps.any fun p=>decide (p.1=x))=true
 ·rw [if_pos h,if_pos h,map_map,map_map]
  congr 1
  funext p
  show (if (gK p).1=Sum.inr x then ((gK p).1,v) else gK p)=gK (if p.1=x then (p.1,v) else p)
  by_cases z:p.1=x
  ·rw [if_pos z,if_pos (show (gK p).1=Sum.inr x by rw [<- z];rfl)];rfl
  ·rw [if_neg z,if_neg (show ¬ (gK p).1=Sum.inr x from fun y=>z (Sum.inr.inj y))]
 ·rw [if_neg h,if_neg h,map_append];rfl
theorem Zcs (ps:List (Str×V))(x:Str)(v:V):(YI ps x v).map (·.1)=if x∈ps.map (·.1) then ps.map (·.1) else ps.map (·.1)++[x]:=by
 have e:(ps.any fun p=>decide (p.1=x))=true↔x∈ps.map (·.1):=by
  rw [List.any_eq_true,mem_map]
  exact ⟨fun ⟨p,h,z⟩=>⟨p,h,of_decide_eq_true z⟩,fun ⟨p,h,z⟩=>⟨p,h,decide_eq_true z⟩⟩
 unfold YI
 by_cases h:(ps.any fun p=>decide (p.1=x))=true
 ·rw [if_pos h,if_pos (e.mp h),map_map]
  apply List.map_congr_left
  intro p _
  show (if p.1=x then (p.1,v) else p).1=p.1
  split<;>rfl
 ·rw [if_neg h,if_neg fun z=>h (e.mpr z),map_append];rfl
theorem ZeQ (ps:List (Str×V))(x y:Str)(v:V):lk (YI ps x v) y=if y=x then some v else lk ps y:=by
 rw [Zll,<- Zav,Uc]
 by_cases h:y=x
 ·rw [if_pos h,if_pos (by rw [h])]
 ·rw [if_neg h,if_neg fun z=>h (Sum.inr.inj z)];rfl
structure Yn (NS:List Str):Prop where
 few:NS.length < 64
 len:∀ x∈NS,x.length<=1000
 lo:∀ x∈NS,0<=Zm x
 hi:∀ x∈NS,Zm x < 1024
structure LeafG (NS:List Str)(m:Int)(ps:List (Str×V)):Prop where
 ne:ps≠[]
 nd:(ps.map (·.1)).Nodup
 sub:∀ p∈ps,p.1∈NS
 mrk:∀ p∈ps,Zm p.1=m
def YQ (x:Str):Nat:=(Zm x).toNat
def TriE (NS:List Str)(nds:List Nd)(F:Str->Option V)(lev r num:Nat):Prop :=
 (num=0/\nds[num]?=some .bare/\∀ x∈NS,YQ x % 4 ^ lev=r->F x=none) \/
 ∃ m ps,nds[num]?=some (.leaf m ps)/\LeafG NS m ps/\m.toNat % 4 ^ lev=r/\∀ x∈NS,YQ x % 4 ^ lev=r->F x=lk ps x
def Tri (NS:List Str)(nds:List Nd)(F:Str->Option V):Nat->Nat->Nat->Nat->Prop
 | 0,lev,r,num=>TriE NS nds F lev r num
 | d+1,lev,r,num=>TriE NS nds F lev r num\/∃ qs,nds[num]?=some (.fork qs)/\qs.length=4/\∀ i q,qs[i]?=some q->Tri NS nds F d (lev+1) (r+i * 4 ^ lev) q
def NEx (nds nds':List Nd):Prop:=∀(i:Nat)(n:Nd),nds[i]?=some n->nds'[i]?=some n
theorem NEx.refl (nds:List Nd):NEx nds nds:=fun _ _ h=>h
theorem NEx.trans {a b c:List Nd}(h:NEx a b)(h':NEx b c):NEx a c:=fun i n e=>h' i n (h i n e)
theorem NEx.app (nds:List Nd)(n:Nd):NEx nds (nds++[n]):=fun i m e=>by rw [getElem?_append_left (List.getElem?_eq_some_iff.mp e).1];exact e
section
variable {NS:List Str}{nds nds':List Nd}{F F':Str->Option V}
theorem TriE.mono {lev r num:Nat}(h:TriE NS nds F lev r num)(e:NEx nds nds'):TriE NS nds' F lev r num:=by
 rcases h with ⟨h1,h2,h3⟩ | ⟨m,ps,h1,h2⟩
 ·exact .inl ⟨h1,e _ _ h2,h3⟩
 ·exact .inr ⟨m,ps,e _ _ h1,h2⟩
theorem Tri.mono:∀(d:Nat){lev r num:Nat},Tri NS nds F d lev r num->NEx nds nds'->Tri NS nds' F d lev r num
 | 0,_,_,_,h,e=>TriE.mono h e
 | d+1,_,_,_,.inl h,e=>.inl (TriE.mono h e)
 | d+1,_,_,_,.inr ⟨qs,h1,h2,h3⟩,e=>.inr ⟨qs,e _ _ h1,h2,fun i q hq=>Tri.mono d (h3 i q hq) e⟩
theorem TriE.congr {lev r num:Nat}(h:TriE NS nds F lev r num)(e:∀ x∈NS,YQ x % 4 ^ lev=r->F' x=F x):TriE NS nds F' lev r num:=by
 rcases h with ⟨h1,h2,h3⟩ | ⟨m,ps,h1,h2,h3,h4⟩
 ·exact .inl ⟨h1,h2,fun x hx hr=>by rw [e x hx hr];exact h3 x hx hr⟩
 ·exact .inr ⟨m,ps,h1,h2,h3,fun x hx hr=>by rw [e x hx hr];exact h4 x hx hr⟩
theorem XN (n lev:Nat):n % 4 ^ (lev+1)=n % 4 ^ lev+(n / 4 ^ lev % 4) * 4 ^ lev:=by
 rw [Nat.pow_succ,Nat.mod_mul,Nat.mul_comm (4 ^ lev)]
theorem Wh {n lev r i:Nat}(hr:r < 4 ^ lev)(h:n % 4 ^ (lev+1)=r+i * 4 ^ lev):n % 4 ^ lev=r/\n / 4 ^ lev % 4=i:=by
 rw [XN] at h
 have hp:0 < 4 ^ lev:=Nat.pow_pos (by decide)
 have h1:=Nat.mod_lt n hp
 have e1:n % 4 ^ lev=r:=by
  have z:=congrArg (· % 4 ^ lev) h
  simp only [Nat.add_mul_mod_self_right] at z
  rwa [Nat.mod_mod,Nat.mod_eq_of_lt hr] at z
 refine ⟨e1,?_⟩
 rw [e1] at h
 exact Nat.eq_of_mul_eq_mul_right hp (Nat.add_left_cancel h)
theorem Wu {lev r i:Nat}(hr:r < 4 ^ lev)(hi:i < 4):r+i * 4 ^ lev < 4 ^ (lev+1):=by
 rw [Nat.pow_succ]
 have:i * 4 ^ lev<=3 * 4 ^ lev:=Nat.mul_le_mul_right _ (by omega)
 omega
theorem Tri.congr:∀(d:Nat){lev r num:Nat},r < 4 ^ lev->Tri NS nds F d lev r num->(∀ x∈NS,YQ x % 4 ^ lev=r->F' x=F x)->Tri NS nds F' d lev r num
 | 0,_,_,_,_,h,e=>TriE.congr h e
 | d+1,_,_,_,_,.inl h,e=>.inl (TriE.congr h e)
 | d+1,_,_,_,hr,.inr ⟨qs,h1,h2,h3⟩,e=>.inr ⟨qs,h1,h2,fun i q hq=>Tri.congr d (Wu hr (by rw [<- h2];exact (List.getElem?_eq_some_iff.mp hq).1)) (h3 i q hq) fun x hx hz=>e x hx (Wh hr hz).1⟩
theorem YU {n:Int}(h:0<=n)(lev:Nat):Zv n lev=n.toNat / 4 ^ lev % 4:=by
 obtain ⟨k,rfl⟩:=Int.eq_ofNat_of_zero_le h
 unfold Zv
 have:((k:Int) / 4 ^ lev % 4)=((k / 4 ^ lev % 4:Nat):Int):=by norm_cast
 rw [this]
 rfl
theorem ZkE (N:Yn NS):∀(d:Nat){lev r num:Nat}{x:Str},r < 4 ^ lev->Tri NS nds F d lev r num->x∈NS->YQ x % 4 ^ lev=r ->
 ∃ ws e n,Yg nds (Zm x) (d+1) lev num=some (ws++[e])/\nds[e]?=some n/\((e=0/\n=.bare/\F x=none)\/∃ m ps,n=.leaf m ps/\LeafG NS m ps/\F x=lk ps x):=by
 have end_:∀ {lev r num:Nat} {x:Str} (d:Nat),TriE NS nds F lev r num->x∈NS->YQ x % 4 ^ lev=r->∃ ws e n,Yg nds (Zm x) (d+1) lev num=some (ws++[e])/\nds[e]?=some n/\((e=0/\n=.bare/\F x=none)\/∃ m ps,n=.leaf m ps/\LeafG NS m ps/\F x=lk ps x):=by
  intro lev r num x d h hx hr
  rcases h with ⟨h1,h2,h3⟩ | ⟨m,ps,h1,h2,h3,h4⟩
  ·exact ⟨[],num,.bare,by unfold Yg;rw [h2];rfl,h2,.inl ⟨h1,rfl,h3 x hx hr⟩⟩
  ·exact ⟨[],num,.leaf m ps,by unfold Yg;rw [h1];rfl,h1,.inr ⟨m,ps,rfl,h2,h4 x hx hr⟩⟩
 intro d
 induction d with
 | zero=>exact fun _ h hx hr=>end_ 0 h hx hr
 | succ d ih =>
  intro lev r num x hlt h hx hr
  rcases h with h | ⟨qs,h1,h2,h3⟩
  ·exact end_ _ h hx hr
  ·have hi:Zv (Zm x) lev < qs.length:=by rw [h2];exact Xp _ _
   have hq:=getElem?_eq_getElem hi
   obtain ⟨ws,e,n,e1,e2,e3⟩:=ih (Wu hlt (Xp _ _)) (h3 _ _ hq) hx (by rw [XN,hr,YU (N.lo x hx)];rfl)
   refine ⟨num::ws,e,n,?_,e2,e3⟩
   unfold Yg
   rw [h1]
   show ((qs[Zv (Zm x) lev]?).bind fun q=>(Yg nds (Zm x) (d+1) (lev+1) q).map (num::·))=_
   rw [hq]
   show (Yg nds (Zm x) (d+1) (lev+1) _).map (num::·)=_
   rw [e1]
   rfl
end
theorem ZeF:∀{l N:List Str},l.Nodup->(∀ x∈l,x∈N)->l.length<=N.length:=by
 intro l
 induction l with
 | nil=>intro N _ _;exact Nat.zero_le _
 | cons a l ih =>
  intro N hnd hs
  rw [nodup_cons] at hnd
  have ha:a∈N:=hs a mem_cons_self
  have:=ih (N:=N.erase a) hnd.2 fun x hx=>(List.mem_erase_of_ne (show x≠a from fun z=>hnd.1 (by rw [<- z];exact hx))).mpr (hs x (mem_cons_of_mem _ hx))
  rw [List.length_erase_of_mem ha] at this
  have h1:0 < N.length:=List.length_pos_of_mem ha
  rw [length_cons];omega
section
variable {NS:List Str}{nds nds':List Nd}{F F':Str->Option V}
theorem LeafG.few {m:Int}{ps:List (Str×V)}(G:LeafG NS m ps):ps.length<=NS.length:=by
 have:=ZeF G.nd (N:=NS) fun x hx=>by obtain ⟨p,hp,rfl⟩:=mem_map.mp hx;exact G.sub p hp
 rwa [length_map] at this
theorem LeafG.perm {m:Int}{ps qs:List (Str×V)}(G:LeafG NS m ps)(h:qs.Perm ps):LeafG NS m qs :=
 ⟨fun z=>G.ne (by rw [z] at h;exact (List.Perm.nil_eq h).symm),(h.map (·.1)).nodup_iff.mpr G.nd,fun p hp=>G.sub p (h.mem_iff.mp hp),fun p hp=>G.mrk p (h.mem_iff.mp hp)⟩
theorem LeafG.ok {m:Int}{ps:List (Str×V)}(N:Yn NS)(G:LeafG NS m ps):ZcZ (.leaf m ps):=by
 cases ps with
 | nil=>exact absurd rfl G.ne
 | cons p pr =>
  have h1:=G.mrk p mem_cons_self
  have h2:=G.sub p mem_cons_self
  exact ⟨p,pr,rfl,h1,N.len _ h2,by rw [<- h1];exact N.lo _ h2⟩
theorem ZiO {ps:List (Str×V)}{x:Str}(v:V)(hx:x∈NS)(hnd:(ps.map (·.1)).Nodup)(hs:∀ p∈ps,p.1∈NS)(hm:∀ p∈ps,Zm p.1=Zm x):LeafG NS (Zm x) (YI ps x v):=by
 have hk:=Zcs ps x v
 have hmem:∀ p∈YI ps x v,p.1∈ps.map (·.1)\/p.1=x:=fun p hp=>by
  have h1:p.1∈(YI ps x v).map (·.1):=List.mem_map_of_mem hp
  rw [hk] at h1
  by_cases h:x∈ps.map (·.1)
  ·rw [if_pos h] at h1;exact .inl h1
  ·rw [if_neg h] at h1
   rcases mem_append.mp h1 with z | z
   ·exact .inl z
   ·exact .inr (mem_singleton.mp z)
 refine ⟨fun z=>?_,?_,fun p hp=>?_,fun p hp=>?_⟩
 ·rw [z] at hk
  by_cases h:x∈ps.map (·.1)
  ·rw [if_pos h] at hk;rw [<- hk] at h;cases h
  ·rw [if_neg h] at hk;simp at hk
 ·rw [hk]
  by_cases h:x∈ps.map (·.1)
  ·rw [if_pos h];exact hnd
  ·rw [if_neg h,List.nodup_append]
   exact ⟨hnd,by simp,fun a ha b hb e=>h (by rw [mem_singleton.mp hb] at e;rw [<- e];exact ha)⟩
 ·rcases hmem p hp with z | z
  ·obtain ⟨q,hq,e⟩:=mem_map.mp z
   rw [<- e];exact hs q hq
  ·rw [z];exact hx
 ·rcases hmem p hp with z | z
  ·obtain ⟨q,hq,e⟩:=mem_map.mp z
   rw [<- e];exact hm q hq
  ·rw [z]
def upF (F:Str->Option V)(x:Str)(v:V):Str->Option V:=fun y=>if y=x then some v else F y
theorem Zjc {d lev r:Nat}{m:Int}{ps qs:List (Str×V)}{x:Str}{v:V}{num:Nat}(N:Yn NS)(hx:x∈NS)(hr:YQ x % 4 ^ lev=r)(hn:nds[num]?=some (.leaf m qs))(hm:m=Zm x)(G:LeafG NS (Zm x) (YI ps x v))(hp:qs.Perm (YI ps x v))
 (hF:∀ y∈NS,YQ y % 4 ^ lev=r->F y=lk ps y):Tri NS nds (upF F x v) d lev r num:=by
 subst hm
 have h:TriE NS nds (upF F x v) lev r num:=by
  refine .inr ⟨Zm x,qs,hn,G.perm hp,hr,fun y hy hry=>?_⟩
  rw [ZeH hp G.nd,ZeQ]
  unfold upF
  by_cases h:y=x
  ·rw [if_pos h,if_pos h]
  ·rw [if_neg h,if_neg h];exact hF y hy hry
 cases d with
 | zero=>exact h
 | succ d=>exact .inl h
theorem ZhS {d lev r num:Nat}{n:Nd}(N:Yn NS)(h0:nds[0]?=some .bare)(hr:r < 4 ^ lev)(h:Tri NS nds F (d+1) lev r num)(hn:nds[num]?=some n)(hnb:n≠.bare) :
 (Yj num lev n).length=4/\∀ (i q:Nat),(Yj num lev n)[i]?=some q->Tri NS nds F d (lev+1) (r+i * 4 ^ lev) q:=by
 have wrapE:∀ {r' q:Nat},TriE NS nds F (lev+1) r' q->Tri NS nds F d (lev+1) r' q:=fun g=>by
  cases d with
  | zero=>exact g
  | succ d=>exact .inl g
 rcases h with h | ⟨qs,h1,h2,h3⟩
 ·rcases h with ⟨_,e,_⟩ | ⟨m,ps,e,G,hm,hF⟩
  ·rw [hn] at e;cases e;exact absurd rfl hnb
  ·rw [hn] at e;cases e
   obtain ⟨p1,pr,e1,e2,e3,e4⟩:=G.ok N
   refine ⟨rfl,fun i q hq=>?_⟩
   have hi:i < 4:=(List.getElem?_eq_some_iff.mp hq).1
   have hq':(if i=Zv m lev then num else 0)=q:=by
    rcases i with _ | _ | _ | _ | i
    ·exact Option.some.inj hq
    ·exact Option.some.inj hq
    ·exact Option.some.inj hq
    ·exact Option.some.inj hq
    ·omega
   have hmm:m.toNat % 4 ^ (lev+1)=r+Zv m lev * 4 ^ lev:=by rw [XN,hm,YU e4]
   by_cases z:i=Zv m lev
   ·rw [if_pos z] at hq'
    subst hq'
    exact wrapE (.inr ⟨m,ps,hn,G,by rw [hmm,z],fun y hy hry=>hF y hy (Wh hr hry).1⟩)
   ·rw [if_neg z] at hq'
    subst hq'
    refine wrapE (.inl ⟨rfl,h0,fun y hy hry=>?_⟩)
    rw [hF y hy (Wh hr hry).1]
    refine ZeG fun p hp e=>z ?_
    have:=(Wh hr hry).2
    rw [<- this,<- e]
    unfold YQ
    rw [G.mrk p hp,YU e4]
 ·rw [hn] at h1;cases h1
  exact ⟨h2,h3⟩
theorem Zid {r num:Nat}{n:Nd}{x:Str}(N:Yn NS)(h:Tri NS nds F 0 5 r num)(hn:nds[num]?=some n)(hnb:n≠.bare)(hx:x∈NS)(hr:YQ x % 4 ^ 5=r):n.hasM (Zm x)=true:=by
 rcases h with ⟨_,e,_⟩ | ⟨m,ps,e,G,hm,hF⟩
 ·rw [hn] at e;cases e;exact absurd rfl hnb
 ·rw [hn] at e;cases e
  refine decide_eq_true ?_
  obtain ⟨p1,pr,e1,e2,e3,e4⟩:=G.ok N
  have h1:Zm p1.1 < 1024:=N.hi _ (G.sub p1 (by rw [e1];exact mem_cons_self))
  have h2:=N.hi x hx
  have h3:=N.lo x hx
  rw [e2] at h1
  unfold YQ at hr
  have h4:m.toNat % 1024=r:=hm
  have h5:(Zm x).toNat % 1024=r:=hr
  rw [Nat.mod_eq_of_lt (by omega)] at h4 h5
  omega
theorem ZhR {d lev r num num':Nat}{qs:List Nat}{x:Str}{v:V}(N:Yn NS)(hr:r < 4 ^ lev)(hx:x∈NS)(hxr:YQ x % 4 ^ lev=r)(hl:qs.length=4)(hq:∀(i q:Nat),qs[i]?=some q->Tri NS nds F d (lev+1) (r+i * 4 ^ lev) q)
 (e:NEx nds nds') (hn:Tri NS nds' F' d (lev+1) (r+Zv (Zm x) lev * 4 ^ lev) num') (hF:∀ y,y≠x->F' y=F y) (h:nds'[num]?=some (.fork (qs.set (Zv (Zm x) lev) num'))):Tri NS nds' F' (d+1) lev r num:=by
 refine .inr ⟨_,h,by rw [length_set,hl],fun i q hi=>?_⟩
 have hi4:i < 4:=by rw [<- hl];have:=(List.getElem?_eq_some_iff.mp hi).1;rwa [length_set] at this
 rw [List.getElem?_set] at hi
 by_cases z:Zv (Zm x) lev=i
 ·rw [if_pos z,if_pos (by rw [hl,z];exact hi4)] at hi
  cases hi
  rw [<- z]
  exact hn
 ·rw [if_neg z] at hi
  refine Tri.congr d (Wu hr hi4) (Tri.mono d (hq i q hi) e) fun y hy hry=>hF y fun w=>z ?_
  rw [w] at hry
  rw [YU (N.lo x hx)]
  exact (Wh hr hry).2
end
inductive PutR (x:Str)(v:V):List Nd->Nat->Nat->List Nd->Nat->Prop
 | leaf {nds:List Nd} {lev num:Nat} {n:Nd} {qs:List (Str×V)}:nds[num]?=some n->(num=0\/n.hasM (Zm x)=true)->qs.Perm (YI n.pairs x v)->Uv qs->PutR x v nds lev num (nds++[.leaf (Zm x) qs]) nds.length
 | fork {nds nds1:List Nd} {lev num q1 num1:Nat} {n:Nd}:nds[num]?=some n->num≠0->n.hasM (Zm x)=false->(Yj num lev n)[Zv (Zm x) lev]?=some q1->PutR x v nds (lev+1) q1 nds1 num1->PutR x v nds lev num (nds1++[.fork ((Yj num lev n).set (Zv (Zm x) lev) num1)]) nds1.length
section
variable {P:Program}{w:World}{K:PySem.W.Frag}{mg:Str->Option Value}{base:Heap}{C Pl:Addr}{NS:List Str}
def VD (K:PySem.W.Frag)(C Pl:Addr)(NS:List Str):Nat->Sp
 | 0=>fun _ _ _ _=>False
 | d+1=>fun vs H Q _=>∃ (st ln dt:Addr) (nds:List Nd) (tabs:List (Zk×V)) (num lev r:Nat) (x:Str) (v:V) (F:Str->Option V),vs=[.ref st,iN num,iN lev,.str x,v]/\StoreAt K C st ln dt H nds tabs/\nds[0]?=some .bare/\Tri NS nds F d lev r num/\r < 4 ^ lev/\lev+d=5/\x∈NS/\YQ x % 4 ^ lev=r/\nds.length+d+1<=100000/\LamAt H Pl YD XH /\
  ∀ (H':Hp) (nds':List Nd) (num':Nat),StoreAt K C st ln dt H' nds' tabs->NEx nds nds'->nds'.length<=nds.length+d+1->Tri NS nds' (upF F x v) d lev r num'->PutR x v nds lev num nds' num'->LamAt H' Pl YD XH->Kq [ln,Pl] H H'->TF H H'->Q (iN num') H'
abbrev nPi:List Str:=["self","number","level","name","value"]
theorem scPI:Zx ["self","number","level","name","value","node","pairs","parts","figure"] nPi (Zo c_Store_put_in):=⟨rfl,rfl,rfl,by decide +kernel,rfl,by decide +kernel,by decide +kernel⟩
theorem Zax {nds:List Nd}{F:Str->Option V}:∀{d lev r num:Nat},Tri NS nds F d lev r num->∃ n,nds[num]?=some n/\(n=.bare->num=0):=by
 have e:∀ {lev r num:Nat},TriE NS nds F lev r num->∃ n,nds[num]?=some n/\(n=.bare->num=0):=fun h=>by
  rcases h with ⟨h1,h2,_⟩ | ⟨m,ps,h1,_⟩
  ·exact ⟨_,h2,fun _=>h1⟩
  ·exact ⟨_,h1,fun z=>by cases z⟩
 intro d lev r num h
 cases d with
 | zero=>exact e h
 | succ d =>
  rcases h with h | ⟨qs,h1,_⟩
  ·exact e h
  ·exact ⟨_,h1,fun z=>by cases z⟩
theorem ZiN {nds:List Nd}{F:Str->Option V}{d lev r num:Nat}{n:Nd}{x:Str}(h0:nds[0]?=some .bare)(h:Tri NS nds F d lev r num)(hn:nds[num]?=some n)(hc:num=0\/n.hasM (Zm x)=true) :
 (n.pairs.map (·.1)).Nodup/\(∀ p∈n.pairs,p.1∈NS)/\(∀ p∈n.pairs,Zm p.1=Zm x)/\(∀ y∈NS,YQ y % 4 ^ lev=r->F y=lk n.pairs y)/\n.pairs.length<=NS.length:=by
 have e:TriE NS nds F lev r num->(n.pairs.map (·.1)).Nodup/\(∀ p∈n.pairs,p.1∈NS)/\(∀ p∈n.pairs,Zm p.1=Zm x)/\(∀ y∈NS,YQ y % 4 ^ lev=r->F y=lk n.pairs y)/\n.pairs.length<=NS.length:=fun g=>by
  rcases g with ⟨h1,h2,h3⟩ | ⟨m,ps,h1,G,hm,hF⟩
  ·rw [hn] at h2;cases h2
   exact ⟨List.nodup_nil,fun p hp=>(by cases hp),fun p hp=>(by cases hp),h3,Nat.zero_le _⟩
  ·rw [hn] at h1;cases h1
   rcases hc with z | z
   ·rw [z,h0] at hn;cases hn
   ·have z':m=Zm x:=of_decide_eq_true z
    exact ⟨G.nd,G.sub,fun p hp=>by rw [G.mrk p hp,z'],hF,G.few⟩
 cases d with
 | zero=>exact e h
 | succ d =>
  rcases h with h | ⟨qs,h1,_⟩
  ·exact e h
  ·rw [hn] at h1;cases h1
   rcases hc with z | z
   ·rw [z,h0] at hn;cases hn
   ·cases z
theorem Zki {f:Addr}{fd:FuncData}{d k:Nat}(N:Yn NS)(hk:2<=k)(F:Fun K "put_in" "Store.put_in" c_Store_put_in f fd)(T:Txt K mg)(TC:YR K C)
 (DH:Def P w K mg base 1 "has_mark" ["node","number"] (UL K)) (DR:Def P w K mg base 1 "pairs_in" ["node"] (XR K)) (DM:Def P w K mg base 1 "mark" ["name"] XV) (DG:Def P w K mg base 1 "digit" ["number","level"] XQ)
 (DL:Def P w K mg base 2 "leaf_of" ["pairs"] (UN K Pl YD)) (DO:Def P w K mg base 1 "fork_of" ["parts"] (Wj K)) (DK:DefM P w K mg base 1 C "keep" ["self","node"] (UM K C)) (DF:DefM P w K mg base 2 C "fork_parts" ["self","number","level"] (ZfQ K C))
 (DI:DefM P w K mg base k C "put_in" nPi (VD K C Pl NS d)):FnOk P w K mg base ZK (k+1) f fd nPi (VD K C Pl NS (d+1)):=by
 refine F.ok scPI (fun vs H Q E h=>?_) (fun cdv A outer s H vs Q E hr h=>?_)
 ·obtain ⟨st,ln,dt,nds,tabs,num,lev,r,x,v,F,rfl,_⟩:=h;rfl
 obtain ⟨st,ln,dt,nds,tabs,num,lev,r,x,v,Fm,rfl,S,h0,htri,hrl,hlev,hx,hxr,hlen,hL,q⟩:=h
 obtain ⟨tz,hz⟩:=T.zero
 have hr1:=hr.mono (show 1<=k by omega)
 have hr2:=hr.mono hk
 refine' ⟨?t,?h,?r⟩
 case h =>
  conv=>arg 2;whnf
  with_reducible refine' Zf ?a1 (Zf (Yf ?a2 (Zf ?c1 (Zf ?c2 (Zj ?c3))) ZS) (Zf ?a3 (Zf ?a4 (Zf ?a5 (Zj ?a6)))))
  case a1=>exact Zz (i:=5) scPI.nd rfl (Or.inl rfl) (ZA ZD (YM (pv 0) rfl) (pv 1) (fun _ _=>rfl))
  case a2=>exact PW.pt (ZfI (ZF YH (pv 1) (Xi rfl hz (v:=.int 0) ⟨_,rfl⟩) (ZI _)) (ZdC (UG (Zu DH hr1 (Zc (pv 5) (Zc (Zu DM hr1 (Zc (pv 3) Za)) Za))))))
  case c1=>exact Zz (i:=6) scPI.nd rfl (Or.inl rfl) (ZP (Uf rfl) rfl T.dict (by decide +kernel) (Zc (Zu DR hr1 (Zc (pv 5) Za)) Za))
  case c2=>exact Wg (XF hr) (pv 6) (pv 3) (pv 4) rfl
  case c3=>exact Zw (YY DK TC.cl hr1 (pv 0) (Zc (Zu DL hr2 (Zc (ZP (ZaD rfl) rfl T.list (by decide +kernel) (Zc (Zdu PySem.F.plainAttrs_dict PySem.F.slot_dict_items PySem.F.type_dict_items Zii (pv 6)) Za)) Za)) Za))
  case a3=>exact Zz (i:=7) scPI.nd rfl (Or.inl rfl) (YY DF TC.cl hr2 (pv 0) (Zc (pv 1) (Zc (pv 2) Za)))
  case a4=>exact Zz (i:=8) scPI.nd rfl (Or.inl rfl) (Zu DG hr1 (Zc (Zu DM hr1 (Zc (pv 3) Za)) (Zc (pv 2) Za)))
  case a5=>exact WV (YY DI TC.cl hr (pv 0) (Zc (ZA ZD (pv 7) (pv 8) (fun _ _=>rfl)) (Zc (Zq ZZ (pv 2) Zd) (Zc (pv 3) (Zc (pv 4) Za))))) (VB (pv 7) (pv 8) WZ)
  case a6=>exact Zw (YY DK TC.cl hr1 (pv 0) (Zc (Zu DO hr1 (Zc (pv 7) Za)) Za))
 try dsimp only [Yo,Cx.nox]
 refine zs6 ?_
 intro zD zS zN5 zN4 zN3 zN2 zN1
 obtain ⟨n,hn,hbare⟩:=Zax htri
 obtain ⟨as,a,nl,ha,hna⟩:=S.node hn
 obtain ⟨dx,ob⟩:=S.ob
 obtain ⟨tb,htb⟩:=hL.tbl
 have hst:st ∉ [Pl]:=fun z=>by rw [mem_singleton.mp z,htb] at ob;cases ob
 have hln:ln ∉ [Pl]:=fun z=>by rw [mem_singleton.mp z,htb] at nl;cases nl
 have hdt:dt ∉ [Pl]:=fun z=>by have e:=S.tb;rw [mem_singleton.mp z,htb] at e;cases e
 refine ⟨_,rfl,st,C,dx,_,_,rfl,ob,TC.cl,TC.nN,Xe ln dt,_,rfl,ln,_,_,_,rfl,rfl,SqL.of nl,ZJ (by rw [getElem?_map,ha];rfl),?_⟩
 refine ⟨_,rfl,rfl,_,rfl,?_⟩
 have ed:decide (iN num=V.int 0)=decide (num=0):=by
  by_cases z:num=0
  ·rw [decide_eq_true z,z];exact decide_eq_true rfl
  ·rw [decide_eq_false z]
   exact decide_eq_false fun y=>z (by have:=V.int.inj y;omega)
 rw [ed]
 rcases Classical.em (num=0\/n.hasM (Zm x)=true) with hc | hc
 ·obtain ⟨hnd,hsub,hmrk,hF,hfew⟩:=ZiN h0 htri hn hc
  by_cases z0:num=0
  rw [decide_eq_true z0]
  have s1:Same H H:=Same.refl H
  refine Yx (Yx ?_)
  rotate_left
  rw [decide_eq_false z0]
  refine ZR ⟨_,rfl,_,rfl,x,rfl,N.len x hx,fun H1 s1=>⟨a,n,Zm x,rfl,hna.tf s1.tf,_,rfl,?_⟩⟩
  rw [hc.resolve_left z0]
  refine Yx ?_
  all_goals
   have S1:=S.keep s1
   refine ⟨_,rfl,a,n,rfl,hna.tf s1.tf,fun pt H2 s2 hpt=>?_⟩
   obtain ⟨o,ts,ept,hod,hlts,hp⟩:=hpt
   have hfw:=N.few
   refine ⟨pt,ts,n.pairs,rfl,⟨o,ept,hod⟩,hlts,by omega,hp,hnd,fun dd hd=>?_⟩
   have hd0:H dd=none:=by
    cases e:H dd with
    | none=>rfl
    | some o=>rw [s2 _ _ (s1 _ _ e)] at hd;cases hd
   have s3:=Zl hd (.dK (n.pairs.map fun p=>((Sum.inr p.1:Zk),p.2)))
   refine ⟨_,rfl,_,rfl,_,rfl,dd,_,rfl,DPut.k (k:=Sum.inr x) Ze (by rw [length_map];exact Nat.lt_of_le_of_lt (show n.pairs.length<=64 by omega) (by decide)),?_⟩
   have s4:Same H (upd (upd H2 dd (.dK (n.pairs.map fun p=>((Sum.inr p.1:Zk),p.2)))) dd (.dK (ZQ (n.pairs.map fun p=>((Sum.inr p.1:Zk),p.2)) (Sum.inr x) v))):=fun b o e=>by
    rw [Zi (Zn e hd0),Zi (Zn e hd0)];exact s2 _ _ (s1 _ _ e)
   have ed4:upd (upd H2 dd (.dK (n.pairs.map fun p=>((Sum.inr p.1:Zk),p.2)))) dd (.dK (ZQ (n.pairs.map fun p=>((Sum.inr p.1:Zk),p.2)) (Sum.inr x) v)) dd=some (.dK ((YI n.pairs x v).map gK)):=by
    rw [Ze,<- Zav];rfl
   generalize upd (upd H2 dd (.dK (n.pairs.map fun p=>((Sum.inr p.1:Zk),p.2)))) dd (.dK (ZQ (n.pairs.map fun p=>((Sum.inr p.1:Zk),p.2)) (Sum.inr x) v))=H4 at *
   have S4:=S.keep s4
   obtain ⟨dx4,ob4⟩:=S4.ob
   refine ⟨_,rfl,st,dx4,_,rfl,ob4,ZN ln dt (by decide +kernel) (by decide +kernel),_,rfl,.inr (.inr (.inl ⟨rfl,.inl ⟨_,ed4⟩⟩)),dd,_,rfl,rfl,ed4,fun vv hvv=>?_⟩
   have s5:=Zl hvv (.ext (ZaA vv dd))
   refine ⟨vv,dd,_,rfl,Ze,s5 _ _ ed4,fun l ts2 H5 hl5 s5b hlt2 hnone htup hlst=>?_⟩
   have s6:Same H H5:=(s4.trans s5).trans s5b
   have G:=ZiO (NS:=NS) v hx hnd hsub hmrk
   have hPT:PairT H5 ts2 (YI n.pairs x v):=by
    refine ⟨by rw [hlt2,length_map],fun i b p e1 e2=>?_⟩
    exact htup i b (gK p) e1 (by rw [getElem?_map,e2];rfl)
   have hL5:=LamAt.same hL s6
   refine ⟨l,ts2,YI n.pairs x v,rfl,hlst,hPT,G.ne,by have:=G.few;omega,fun p hp=>N.len _ (G.sub p hp),hL5,fun a6 H6 p1 pr g6 L6 perm6 sort6 node6=>?_⟩
   have tb5:H5 Pl=some (.tbl tb):=s6 _ _ htb
   have tf6:TF H5 H6:=g6.tf tb5
   have S6:=(S.keep s6).kq g6.kq tf6 hst hln hdt
   refine ⟨st,ln,dt,a6,nds,tabs,_,rfl,S6,node6,by omega,fun H7 S7 k7 tf7=>?_⟩
   have nl6:∃ xs,H6 ln=some (.lst xs):=by obtain ⟨as6,e6,_⟩:=S6.nl;exact ⟨_,e6⟩
   have hmk:Zm p1.1=Zm x:=(G.perm perm6).mrk p1 mem_cons_self
   rw [hmk] at S7
   refine q H7 _ nds.length S7 (NEx.app nds _) (by rw [length_append];show nds.length+1<=_;omega) ?_ (PutR.leaf hn hc perm6 sort6) (L6.kq k7 fun b hb=>by rw [mem_singleton.mp hb];exact nl6) ?_ ((s6.tf.trans tf6).trans tf7)
   ·exact Zjc (ps:=n.pairs) N hx hxr (by rw [getElem?_append_right (Nat.le_refl _),Nat.sub_self];rfl) rfl G perm6 hF
   ·exact (Same.kq s6).trans ((g6.kq.sub fun b hb=>by simp at hb ⊢;exact .inr hb).trans (k7.sub fun b hb=>by simp at hb ⊢;exact .inl hb))
 ·have z0:num≠0:=fun z=>hc (.inl z)
  have zm:n.hasM (Zm x)=false:=by
   cases e:n.hasM (Zm x) with
   | false=>rfl
   | true=>exact absurd (.inr e) hc
  have hnb:n≠.bare:=fun z=>z0 (hbare z)
  rw [decide_eq_false z0]
  refine ZR ⟨_,rfl,_,rfl,x,rfl,N.len x hx,fun H1 s1=>⟨a,n,Zm x,rfl,hna.tf s1.tf,_,rfl,?_⟩⟩
  rw [zm]
  refine ZR ?_
  cases d with
  | zero =>
   have h5:lev=5:=by omega
   subst h5
   exact absurd (.inr (Zid N htri hn hnb hx hxr)) hc
  | succ d =>
   obtain ⟨hf4,hft⟩:=ZhS N h0 hrl htri hn hnb
   have hok:ZcZ n:=by
    rcases htri with htri | ⟨qs,h1,_⟩
    ·rcases htri with ⟨z,_⟩ | ⟨m,ps,h1,G,_⟩
     ·exact absurd z z0
     ·rw [hn] at h1;cases h1;exact G.ok N
    ·rw [hn] at h1;cases h1;exact trivial
   have S1:=S.keep s1
   obtain ⟨dx1,ob1⟩:=S1.ob
   refine ⟨_,rfl,st,dx1,_,rfl,ob1,ZN ln dt (by decide +kernel) (by decide +kernel),_,rfl,_,rfl,st,ln,dt,nds,tabs,num,lev,n,rfl,S1,hn,hnb,hok,by omega,fun rl H2 hrl1 s2 el=>?_⟩
   refine ⟨_,rfl,x,rfl,N.len x hx,fun H3 s3=>⟨_,rfl,Zm x,lev,rfl,N.lo x hx,by omega,?_⟩⟩
   have s13:Same H H3:=(s1.trans s2).trans s3
   have S3:=S.keep s13
   have hrl0:H rl=none:=by
    cases e:H rl with
    | none=>rfl
    | some o=>rw [s1 _ _ e] at hrl1;cases hrl1
   have el3:=s3 _ _ el
   have hdl:Zv (Zm x) lev < (Yj num lev n).length:=by rw [hf4];exact Xp _ _
   have hq1:=getElem?_eq_getElem hdl
   generalize (Yj num lev n)[Zv (Zm x) lev]=q1 at hq1
   have hat:YA ((Yj num lev n).map iN) (Zm x / 4 ^ lev % 4)=some (iN q1):=by rw [<- Wc];exact ZJ (by rw [getElem?_map,hq1];rfl)
   obtain ⟨dx3,ob3⟩:=S3.ob
   refine ⟨_,rfl,st,dx3,_,rfl,ob3,ZN ln dt (by decide +kernel) (by decide +kernel),_,rfl,_,rfl,rl,_,_,_,rfl,rfl,SqL.of el3,hat,_,rfl,_,_,rfl,rfl,_,rfl,_,rfl,?_⟩
   refine ⟨st,ln,dt,nds,tabs,q1,lev+1,_,x,v,Fm,rfl,S3,h0,hft _ _ hq1,Wu hrl (Xp _ _),by omega,hx,by rw [XN,hxr,YU (N.lo x hx)];rfl,by omega,LamAt.same hL s13,fun H5 nds5 num5 S5 ext5 len5 tri5 pr5 L5 kq5 tf5=>?_⟩
   have nrl:rl ∉ [ln,Pl]:=fun z=>by
    rcases mem_cons.mp z with z | z
    ·rw [z,nl] at hrl0;cases hrl0
    ·rw [mem_singleton.mp z,htb] at hrl0;cases hrl0
   have el5:=kq5 _ _ nrl el3
   have hix:Ww ((Yj num lev n).map iN).length (Zm x / 4 ^ lev % 4)=some (Zv (Zm x) lev):=by
    rw [<- Wc,length_map]
    unfold Ww
    rw [if_pos (by omega),if_pos (by omega)]
    rfl
   refine ⟨_,rfl,_,rfl,rl,_,_,_,rfl,rfl,el5,hix,?_⟩
   have tf6:=ZdT (o:=.lst (((Yj num lev n).map iN).set (Zv (Zm x) lev) (iN num5))) el5
   have k6:Kq [rl] H5 (upd H5 rl (.lst (((Yj num lev n).map iN).set (Zv (Zm x) lev) (iN num5)))):=ZaV
   have nst:st ∉ [rl]:=fun z=>by rw [<- mem_singleton.mp z,ob] at hrl0;cases hrl0
   have nln:ln ∉ [rl]:=fun z=>by rw [<- mem_singleton.mp z,nl] at hrl0;cases hrl0
   have ndt:dt ∉ [rl]:=fun z=>by rw [<- mem_singleton.mp z,S.tb] at hrl0;cases hrl0
   have S6:=S5.kq k6 tf6 nst nln ndt
   have el6:upd H5 rl (.lst (((Yj num lev n).map iN).set (Zv (Zm x) lev) (iN num5))) rl=some (.lst (((Yj num lev n).set (Zv (Zm x) lev) num5).map iN)):=by rw [Ze,List.map_set]
   have L6:=L5.kq k6 fun b hb=>by rw [mem_singleton.mp hb];exact ⟨_,el5⟩
   have kh:Kq [ln,Pl] H (upd H5 rl (.lst (((Yj num lev n).map iN).set (Zv (Zm x) lev) (iN num5)))):=fun b o nb e=>by
    rw [Zi (Zn e hrl0)];exact kq5 _ _ nb (s13 _ _ e)
   generalize upd H5 rl (.lst (((Yj num lev n).map iN).set (Zv (Zm x) lev) (iN num5)))=H6 at *
   obtain ⟨dx6,ob6⟩:=S6.ob
   refine ⟨_,rfl,st,dx6,_,rfl,ob6,ZN ln dt (by decide +kernel) (by decide +kernel),_,rfl,rl,(Yj num lev n).set (Zv (Zm x) lev) num5,rfl,el6,by rw [length_set,hf4],fun a7 H7 s7 node7=>?_⟩
   have S7:=S6.keep s7
   refine ⟨st,ln,dt,a7,nds5,tabs,_,rfl,S7,node7,by omega,fun H8 S8 k8 tf8=>?_⟩
   have nl7:∃ xs,H7 ln=some (.lst xs):=by obtain ⟨as7,e7,_⟩:=S7.nl;exact ⟨_,e7⟩
   refine q H8 _ nds5.length S8 (ext5.trans (NEx.app nds5 _)) (by rw [length_append];show nds5.length+1<=_;omega) ?_ (PutR.fork hn z0 zm hq1 pr5) ((LamAt.same L6 s7).kq k8 fun b hb=>by rw [mem_singleton.mp hb];exact nl7) ?_ ((((s13.tf.trans tf5).trans tf6).trans s7.tf).trans tf8)
   ·refine ZhR (v:=v) (num':=num5) (F:=Fm) (qs:=Yj num lev n) N hrl hx hxr hf4 hft (ext5.trans (NEx.app nds5 _)) (Tri.mono d tri5 (NEx.app nds5 _)) (fun y hy=>if_neg hy) ?_
    rw [getElem?_append_right (Nat.le_refl _),Nat.sub_self];rfl
   ·exact (kh.trans (Same.kq s7)).trans (k8.sub fun b hb=>by simp at hb ⊢;exact .inl hb)
end
section
variable {P:Program}{w:World}{K:PySem.W.Frag}{mg:Str->Option Value}{base:Heap}{C Pl:Addr}{NS:List Str}
theorem ZeL {f:Addr}{fd:FuncData}(N:Yn NS)(F:Fun K "put_in" "Store.put_in" c_Store_put_in f fd)(T:Txt K mg)(TC:YR K C)
 (DH:Def P w K mg base 1 "has_mark" ["node","number"] (UL K)) (DR:Def P w K mg base 1 "pairs_in" ["node"] (XR K)) (DM:Def P w K mg base 1 "mark" ["name"] XV) (DG:Def P w K mg base 1 "digit" ["number","level"] XQ)
 (DL:Def P w K mg base 2 "leaf_of" ["pairs"] (UN K Pl YD)) (DO:Def P w K mg base 1 "fork_of" ["parts"] (Wj K)) (DK:DefM P w K mg base 1 C "keep" ["self","node"] (UM K C)) (DF:DefM P w K mg base 2 C "fork_parts" ["self","number","level"] (ZfQ K C))
 (b:Binds K fd nPi []) (mt:Zac K C "put_in" f):∀ d,FnOk P w K mg base ZK (2+d) f fd nPi (VD K C Pl NS d)
 | 0=>F.ok scPI (fun _ _ _ _ h=>h.elim) (fun _ _ _ _ _ _ _ _ _ h=>h.elim)
 | d+1=>Zki N (Nat.le_add_right 2 d) F T TC DH DR DM DG DL DO DK DF ⟨f,fd,ZeL N F T TC DH DR DM DG DL DO DK DF b mt d,b,mt⟩
inductive ZbN  (vs:List V) (H:Hp) (Q:VK) (w_3:XK):Prop
 | mk (u:_) (v:_):(vs=[u,v])->(scal u v=true)->(Q (.bl (decide (u=v))) H)->ZbN vs H Q w_3
theorem scAl:Zx ["one","other"] ["one","other"] (Zo s_alike):=⟨rfl,rfl,rfl,by decide +kernel,rfl,by decide +kernel,by decide +kernel⟩
theorem Zio {f:Addr}{fd:FuncData}(F:Fun K "alike" "alike" s_alike f fd):FnOk P w K mg base ZK 1 f fd ["one","other"] ZbN:=by
 refine F.ok scAl (fun vs H Q E h=>?_) (fun cdv A outer s H vs Q E hr h=>?_)
 ·obtain ⟨u,v,rfl,_⟩:=h;rfl
 obtain ⟨u,v,rfl,hs,q⟩:=h
 exact ⟨_,Zj (Zw (UE YH (pv 0) (pv 1) (ZI _))),⟨_,rfl,_,rfl,hs,q⟩⟩
def ValV:V->Prop
 | .int _=>True
 | .str _=>True
 | _=>False
theorem ValV.scal {o:Option V}{v:V}(h:ValV v)(ho:∀ u,o=some u->ValV u):scal (o.getD .non) v=true:=by
 cases o with
 | none=>cases v<;>first | rfl | exact h.elim
 | some u =>
  have hu:=ho u rfl
  cases u<;>first | exact hu.elim | (cases v<;>first | rfl | exact h.elim)
theorem ValV.ne {v:V}(h:ValV v):v≠.non:=fun z=>by subst z;exact h
theorem XX {nds:List Nd}{F:Str->Option V}{t:Nat}{x:Str}(N:Yn NS)(h:Tri NS nds F 5 0 0 t)(hx:x∈NS) :
 ∃ ws e n,Yg nds (Zm x) 6 0 t=some (ws++[e])/\nds[e]?=some n/\n.pairs.length<=1000/\(n.pairs.map (·.1)).Nodup/\lk n.pairs x=F x:=by
 obtain ⟨ws,e,n,e1,e2,e3⟩:=ZkE N 5 (by decide) h hx (by rw [Nat.pow_zero,Nat.mod_one])
 refine ⟨ws,e,n,e1,e2,?_⟩
 have hf:=N.few
 rcases e3 with ⟨_,rfl,z⟩ | ⟨m,ps,rfl,G,z⟩
 ·exact ⟨Nat.zero_le _,List.nodup_nil,by rw [z];rfl⟩
 ·exact ⟨by have:=G.few;show ps.length<=1000;omega,G.nd,z.symm⟩
inductive ZfS (K:PySem.W.Frag)(C:Addr)(Pl:Addr)(NS:List Str)(vs:List V)(H:Hp)(Q:VK)(w_3:XK):Prop
 | mk (st ln dt:Addr) (nds:List Nd) (tabs:List (Zk×V)) (t:Nat) (x:Str) (v:V) (F:Str->Option V):(vs=[.ref st,iN t,.str x,v])->(StoreAt K C st ln dt H nds tabs)->(nds[0]?=some .bare)->((Zy tabs (Sum.inl (t:Int))).isSome=true)->(Tri NS nds F 5 0 0 t)->(x∈NS)->(ValV v)->((∀ u,F x=some u->ValV u))->(nds.length+6<=100000)->(tabs.length<=100000)->(LamAt H Pl YD XH)->(∀ (H':Hp) (nds':List Nd) (tabs':List (Zk×V)) (t':Nat),StoreAt K C st ln dt H' nds' tabs'->NEx nds nds'->nds'.length<=nds.length+6->tabs'.length<=tabs.length+1->(∀ k,(Zy tabs k).isSome=true->(Zy tabs' k).isSome=true)->(Zy tabs' (Sum.inl (t':Int))).isSome=true->Tri NS nds' (upF F x v) 5 0 0 t'->((F x=some v/\t'=t/\nds'=nds/\tabs'=tabs)\/(F x≠some v/\PutR x v nds 0 t nds' t'/\tabs'=ZQ tabs (Sum.inl (t':Int)) (.bl true)))->LamAt H' Pl YD XH->Kq [ln,dt,Pl] H H'->TF H H'->Q (iN t') H')->ZfS K C Pl NS vs H Q w_3
theorem scPu:Zx ["self","table","name","value"] ["self","table","name","value"] (Zo c_Store_put):=⟨rfl,rfl,rfl,by decide +kernel,rfl,by decide +kernel,by decide +kernel⟩
theorem Zlw {f:Addr}{fd:FuncData}(N:Yn NS)(F:Fun K "put" "Store.put" c_Store_put f fd)(TC:YR K C)(DA:Def P w K mg base 1 "alike" ["one","other"] ZbN)(DLk:DefM P w K mg base 3 C "looked" ["self","table","name"] (Wk K C))
 (DAs:DefM P w K mg base 1 C "as_table" ["self","number"] (ZcP K C)) (DI:DefM P w K mg base 8 C "put_in" nPi (VD K C Pl NS 6)):FnOk P w K mg base ZK 9 f fd ["self","table","name","value"] (ZfS K C Pl NS):=by
 refine F.ok scPu (fun vs H Q E h=>?_) (fun cdv A outer s H vs Q E hr h=>?_)
 ·obtain ⟨st,ln,dt,nds,tabs,t,x,v,F,rfl,_⟩:=h;rfl
 obtain ⟨st,ln,dt,nds,tabs,t,x,v,Fm,rfl,S,h0,htab,htri,hx,hv,hFv,hlen,htl,hL,q⟩:=h
 have hr1:=hr.mono (show 1<=8 by decide)
 have hr3:=hr.mono (show 3<=8 by decide)
 refine' ⟨?t,?h,?r⟩
 case h =>
  conv=>arg 2;whnf
  with_reducible refine' Zf (Yf ?a1 (Zj ?a2) ZS) (Zj ?a3)
  case a1=>exact UG (Zu DA hr1 (Zc (YY DLk TC.cl hr3 (pv 0) (Zc (pv 1) (Zc (pv 2) Za))) (Zc (pv 3) Za)))
  case a2=>exact Zw (pv 1)
  case a3=>exact Zw (YY DAs TC.cl hr1 (pv 0) (Zc (YY DI TC.cl hr (pv 0) (Zc (pv 1) (Zc Zd (Zc (pv 2) (Zc (pv 3) Za))))) Za))
 try dsimp only [Yo,Cx.nox]
 refine zs2 ?_
 intro zD zS zN1
 obtain ⟨dx,ob⟩:=S.ob
 obtain ⟨ws,e,n,e1,e2,e3,e4,e5⟩:=XX N htri hx
 refine ⟨_,rfl,st,dx,_,rfl,ob,ZN ln dt (by decide +kernel) (by decide +kernel),_,rfl,_,rfl,st,ln,dt,nds,tabs,t,x,6,ws,e,n,rfl,S,htab,N.len x hx,N.lo x hx,by decide,e1,e2,e3,e4,fun H1 s1=>?_⟩
 rw [e5]
 refine ⟨_,rfl,_,_,rfl,hv.scal hFv,_,rfl,?_⟩
 have S1:=S.keep s1
 have hL1:=LamAt.same hL s1
 by_cases hc:(Fm x).getD .non=v
 ·rw [decide_eq_true hc]
  refine Yx ⟨_,rfl,q H1 nds tabs t S1 (NEx.refl _) (by omega) (by omega) (fun _ h=>h) htab (Tri.congr 5 (by decide) htri fun y _ _=>?_) (.inl ⟨?_,rfl,rfl,rfl⟩) hL1 (Same.kq s1) s1.tf⟩
  rotate_left
  ·cases eF:Fm x with
   | none=>rw [eF] at hc;exact absurd hc.symm hv.ne
   | some u=>rw [eF] at hc;exact congrArg some hc
  unfold upF
  by_cases z:y=x
  ·rw [if_pos z,z]
   cases eF:Fm x with
   | none=>rw [eF] at hc;exact absurd hc.symm hv.ne
   | some u=>rw [eF] at hc;exact congrArg some hc.symm
  ·rw [if_neg z]
 ·rw [decide_eq_false hc]
  obtain ⟨dx1,ob1⟩:=S1.ob
  refine ZR ⟨_,rfl,st,dx1,_,rfl,ob1,ZN ln dt (by decide +kernel) (by decide +kernel),_,rfl,st,dx1,_,rfl,ob1,ZN ln dt (by decide +kernel) (by decide +kernel),_,rfl,_,rfl,_,rfl,?_⟩
  refine ⟨st,ln,dt,nds,tabs,t,0,0,x,v,Fm,rfl,S1,h0,htri,by decide,rfl,hx,by rw [Nat.pow_zero,Nat.mod_one],hlen,hL1,fun H2 nds2 num2 S2 ext2 len2 tri2 pr2 L2' kq2 tf2=>?_⟩
  refine ⟨st,ln,dt,nds2,tabs,num2,rfl,S2,by omega,fun H3 S3 k3 tf3=>?_⟩
  obtain ⟨tb,htb⟩:=L2'.tbl
  refine q H3 nds2 _ num2 S3 ext2 len2 (XD _ _ _) (fun k hk=>?_) (by rw [Uc,if_pos rfl];rfl) tri2 (.inr ⟨fun z=>hc (by rw [z];rfl),pr2,rfl⟩) ?_ ?_ ((s1.tf.trans tf2).trans tf3)
  ·rw [Uc]
   by_cases z:k=Sum.inl (num2:Int)
   ·rw [if_pos z];rfl
   ·rw [if_neg z];exact hk
  ·have hdl:∀ b∈[dt],∃ xs,H2 b=some (.dK xs):=fun b hb=>by rw [mem_singleton.mp hb];exact ⟨_,S2.tb⟩
   rcases L2' with h | ⟨c,h,h2⟩
   ·exact .inl (k3 _ _ (fun z=>by obtain ⟨_,e⟩:=hdl _ z;rw [h] at e;cases e) h)
   ·exact .inr ⟨c,k3 _ _ (fun z=>by obtain ⟨_,e⟩:=hdl _ z;rw [h] at e;cases e) h,k3 _ _ (fun z=>by obtain ⟨_,e⟩:=hdl _ z;rw [h2] at e;cases e) h2⟩
  ·exact ((Same.kq s1).trans (kq2.sub fun b hb=>by simp at hb ⊢;rcases hb with z | z;exact .inl z;exact .inr (.inr z))).trans (k3.sub fun b hb=>by simp at hb ⊢;exact .inr (.inl hb))
end
section
variable {NS:List Str}{nds nds':List Nd}{F F':Str->Option V}
def Vs (F:Str->Option V)(x:Str):Str->Option V:=fun y=>if y=x then none else F y
def Yr (ps:List (Str×V))(x:Str):List (Str×V):=ps.filter fun p=>!decide (p.1=x)
theorem Zbz (ps:List (Str×V))(x y:Str):lk (Yr ps x) y=if y=x then none else lk ps y:=by
 induction ps with
 | nil => by_cases h:y=x
          · rw [if_pos h];rfl
          · rw [if_neg h];rfl
 | cons p ps ih =>
   unfold Yr at ih ⊢
   rw [filter_cons]
   by_cases hp:p.1=x
   · rw [decide_eq_true hp]
     show lk (ps.filter fun p=>!decide (p.1=x)) y=_
     rw [ih,WG]
     by_cases h:y=x
     · rw [if_pos h,if_pos h]
     · rw [if_neg h,if_neg h,if_neg fun z=>h (by rw [<- z,hp])]
   · rw [decide_eq_false hp]
     show lk (p::ps.filter fun p=>!decide (p.1=x)) y=_
     rw [WG,ih,WG]
     by_cases h:y=x
     · rw [if_pos h,if_pos h,if_neg fun z=>hp (by rw [z,h])]
     · rw [if_neg h,if_neg h]
theorem LeafG.but {m:Int}{ps:List (Str×V)}{x:Str}(G:LeafG NS m ps)(h:Yr ps x≠[]):LeafG NS m (Yr ps x):=by
 have hs:(Yr ps x).Sublist ps:=List.filter_sublist
 exact ⟨h,G.nd.sublist (hs.map (·.1)),fun p hp=>G.sub p (hs.subset hp),fun p hp=>G.mrk p (hs.subset hp)⟩
theorem ZcB {d lev r num:Nat}(h:TriE NS nds F lev r num):Tri NS nds F d lev r num:=by
 cases d with
 | zero=>exact h
 | succ d=>exact .inl h
theorem Zhw {d lev r num:Nat}{n:Nd}{x:Str}{v0:V}(h:Tri NS nds F d lev r num)(hn:nds[num]?=some n)(hx:x∈NS)(hxr:YQ x % 4 ^ lev=r)(hF:F x=some v0) :
 (∃ ps,n=.leaf (Zm x) ps/\LeafG NS (Zm x) ps/\∀ y∈NS,YQ y % 4 ^ lev=r->F y=lk ps y)\/∃ qs d',d=d'+1/\n=.fork qs/\qs.length=4/\∀ i q,qs[i]?=some q->Tri NS nds F d' (lev+1) (r+i * 4 ^ lev) q:=by
 have e:TriE NS nds F lev r num->∃ ps,n=.leaf (Zm x) ps/\LeafG NS (Zm x) ps/\∀ y∈NS,YQ y % 4 ^ lev=r->F y=lk ps y:=fun g=>by
  rcases g with ⟨_,_,h3⟩ | ⟨m,ps,h1,G,_,h4⟩
  ·rw [h3 x hx hxr] at hF;cases hF
  ·rw [hn] at h1;cases h1
   have hm:Zm x=m:=by
    rw [h4 x hx hxr] at hF
    exact G.mrk _ ((WR G.nd).mp hF)
   subst hm
   exact ⟨ps,rfl,G,h4⟩
 cases d with
 | zero=>exact .inl (e h)
 | succ d =>
  rcases h with h | ⟨qs,h1,h2,h3⟩
  ·exact .inl (e h)
  ·rw [hn] at h1;cases h1
   exact .inr ⟨qs,d,rfl,rfl,h2,h3⟩
theorem Zjd {lev r num:Nat}{ps qs:List (Str×V)}{x:Str}(d:Nat)(hr:YQ x % 4 ^ lev=r)(hn:nds[num]?=some (.leaf (Zm x) qs))(G:LeafG NS (Zm x) (Yr ps x))(hp:qs.Perm (Yr ps x))(hF:∀ y∈NS,YQ y % 4 ^ lev=r->F y=lk ps y):Tri NS nds (Vs F x) d lev r num:=by
 refine ZcB (.inr ⟨Zm x,qs,hn,G.perm hp,hr,fun y hy hry=>?_⟩)
 rw [ZeH hp G.nd,Zbz]
 unfold Vs
 by_cases h:y=x
 ·rw [if_pos h,if_pos h]
 ·rw [if_neg h,if_neg h];exact hF y hy hry
theorem Zjb {lev r:Nat}{ps:List (Str×V)}{x:Str}(d:Nat)(h0:nds[0]?=some .bare)(hb:Yr ps x=[])(hF:∀ y∈NS,YQ y % 4 ^ lev=r->F y=lk ps y):Tri NS nds (Vs F x) d lev r 0:=by
 refine ZcB (.inl ⟨rfl,h0,fun y hy hry=>?_⟩)
 have:=Zbz ps x y
 rw [hb,ZgH] at this
 unfold Vs
 by_cases h:y=x
 ·rw [if_pos h]
 ·rw [if_neg h] at this ⊢;rw [hF y hy hry];exact this.symm
theorem ZgR {d lev r num':Nat}{qs:List Nat}{x:Str}(N:Yn NS)(hr:r < 4 ^ lev)(hx:x∈NS)(hxr:YQ x % 4 ^ lev=r)(hl:qs.length=4)(hq:∀(i q:Nat),qs[i]?=some q->Tri NS nds F d (lev+1) (r+i * 4 ^ lev) q)
 (e:NEx nds nds') (hn:Tri NS nds' F' d (lev+1) (r+Zv (Zm x) lev * 4 ^ lev) num') (hF:∀ y,y≠x->F' y=F y) (i q:Nat) (hi:(qs.set (Zv (Zm x) lev) num')[i]?=some q):Tri NS nds' F' d (lev+1) (r+i * 4 ^ lev) q:=by
 have hi4:i < 4:=by rw [<- hl];have:=(List.getElem?_eq_some_iff.mp hi).1;rwa [length_set] at this
 rw [List.getElem?_set] at hi
 by_cases z:Zv (Zm x) lev=i
 ·rw [if_pos z,if_pos (by rw [hl,z];exact hi4)] at hi
  cases hi
  rw [<- z]
  exact hn
 ·rw [if_neg z] at hi
  refine Tri.congr d (Wu hr hi4) (Tri.mono d (hq i q hi) e) fun y hy hry=>hF y fun w=>z ?_
  rw [w] at hry
  rw [YU (N.lo x hx)]
  exact (Wh hr hry).2
theorem ZaN {qs:List Nat}{q:Nat}(h:(qs.filter fun p=>!decide (p=0))=[q]):∃ i:Nat,qs[i]?=some q/\q≠0/\∀(j p:Nat),qs[j]?=some p->j≠i->p=0:=by
 induction qs with
 | nil=>cases h
 | cons a qs ih =>
  rw [filter_cons] at h
  by_cases ha:a=0
  ·rw [decide_eq_true ha] at h
   obtain ⟨i,h1,h2,h3⟩:=ih h
   refine ⟨i+1,h1,h2,fun j p hj hne=>?_⟩
   cases j with
   | zero=>cases hj;exact ha
   | succ j=>exact h3 j p hj fun z=>hne (by rw [z])
  ·rw [decide_eq_false ha] at h
   have h':a::(qs.filter fun p=>!decide (p=0))=[q]:=h
   obtain ⟨e1,e2⟩:=List.cons.inj h'
   refine ⟨0,by rw [e1];rfl,by rw [<- e1];exact ha,fun j p hj hne=>?_⟩
   cases j with
   | zero=>exact absurd rfl hne
   | succ j =>
    have hp:p∈qs:=mem_of_getElem? hj
    by_cases z:p=0
    ·exact z
    ·have:p∈qs.filter fun p=>!decide (p=0):=mem_filter.mpr ⟨hp,by rw [decide_eq_false z];rfl⟩
     rw [e2] at this;cases this
theorem Zmg {d lev r q:Nat}{qs:List Nat}{m:Int}{ps:List (Str×V)}(N:Yn NS)(h0:nds[0]?=some .bare)(hr:r < 4 ^ lev)(hl:qs.length=4)(hq:∀(i q:Nat),qs[i]?=some q->Tri NS nds F d (lev+1) (r+i * 4 ^ lev) q)
 (h1:(qs.filter fun p=>!decide (p=0))=[q]) (hn:nds[q]?=some (.leaf m ps)):Tri NS nds F (d+1) lev r q:=by
 obtain ⟨i,hi,hq0,hoth⟩:=ZaN h1
 have leafE:TriE NS nds F (lev+1) (r+i * 4 ^ lev) q:=by
  have:=hq i q hi
  cases d with
  | zero=>exact this
  | succ d =>
   rcases this with h | ⟨qs',h,_⟩
   ·exact h
   ·rw [hn] at h;cases h
 rcases leafE with ⟨z,_⟩ | ⟨m',ps',e,G,hm,hF⟩
 ·exact absurd z hq0
 ·rw [hn] at e;cases e
  obtain ⟨p1,pr,e1,e2,e3,e4⟩:=G.ok N
  obtain ⟨hm1,hm2⟩:=Wh hr hm
  refine .inl (.inr ⟨m,ps,hn,G,hm1,fun y hy hry=>?_⟩)
  have hj:Zv (Zm y) lev < qs.length:=by rw [hl];exact Xp _ _
  have hyr:YQ y % 4 ^ (lev+1)=r+Zv (Zm y) lev * 4 ^ lev:=by rw [XN,hry,YU (N.lo y hy)];rfl
  by_cases z:Zv (Zm y) lev=i
  ·rw [z] at hyr;exact hF y hy hyr
  ·have hz:=hoth _ _ (getElem?_eq_getElem hj) z
   have ht:=hq _ _ (getElem?_eq_getElem hj)
   rw [hz] at ht
   have hE:TriE NS nds F (lev+1) (r+Zv (Zm y) lev * 4 ^ lev) 0:=by
    cases d with
    | zero=>exact ht
    | succ d =>
     rcases ht with h | ⟨qs',h,_⟩
     ·exact h
     ·rw [h0] at h;cases h
   rcases hE with ⟨_,_,h3⟩ | ⟨m',ps',e,_⟩
   ·rw [h3 y hy hyr]
    refine (ZeG fun p hp e=>z ?_).symm
    rw [YU (N.lo y hy),<- hm2,<- e,G.mrk p hp]
   ·rw [h0] at e;cases e
theorem Zaw {d lev r num:Nat}{qs:List Nat}(hn:nds[num]?=some (.fork qs))(hl:qs.length=4)(hq:∀(i q:Nat),qs[i]?=some q->Tri NS nds F d (lev+1) (r+i * 4 ^ lev) q):Tri NS nds F (d+1) lev r num:=.inr ⟨qs,hn,hl,hq⟩
end
theorem ZjT {X:Cx}{K:PySem.W.Frag}(hK:X.K=K):IxR X (rIxT K):=by subst hK;exact YV
inductive TakR (x:Str):List Nd->Nat->Nat->List Nd->Nat->Prop
 | gone {nds:List Nd} {lev num:Nat} {ps:List (Str×V)}:nds[num]?=some (.leaf (Zm x) ps)->Yr ps x=[]->TakR x nds lev num nds 0
 | less {nds:List Nd} {lev num:Nat} {ps qs:List (Str×V)}:nds[num]?=some (.leaf (Zm x) ps)->Yr ps x≠[]->qs.Perm (Yr ps x)->Uv qs->TakR x nds lev num (nds++[.leaf (Zm x) qs]) nds.length
 | up {nds nds1:List Nd} {lev num q1 num1 q:Nat} {qs:List Nat} {m:Int} {ps:List (Str×V)}:nds[num]?=some (.fork qs)->qs[Zv (Zm x) lev]?=some q1->TakR x nds (lev+1) q1 nds1 num1->((qs.set (Zv (Zm x) lev) num1).filter fun p=>!decide (p=0))=[q]->nds1[q]?=some (.leaf m ps)->TakR x nds lev num nds1 q
 | fork {nds nds1:List Nd} {lev num q1 num1:Nat} {qs:List Nat}:nds[num]?=some (.fork qs)->qs[Zv (Zm x) lev]?=some q1->TakR x nds (lev+1) q1 nds1 num1->(∀ (q:Nat) (m:Int) (ps:List (Str×V)),((qs.set (Zv (Zm x) lev) num1).filter fun p=>!decide (p=0))=[q]->nds1[q]?≠some (.leaf m ps))->TakR x nds lev num (nds1++[.fork (qs.set (Zv (Zm x) lev) num1)]) nds1.length
section
variable {P:Program}{w:World}{K:PySem.W.Frag}{mg:Str->Option Value}{base:Heap}{C Pl:Addr}{NS:List Str}
def Zbo (K:PySem.W.Frag)(C Pl:Addr)(NS:List Str):Nat->Sp
 | 0=>fun _ _ _ _=>False
 | d+1=>fun vs H Q _=>∃ (st ln dt:Addr) (nds:List Nd) (tabs:List (Zk×V)) (num lev r:Nat) (x:Str) (v0:V) (F:Str->Option V),vs=[.ref st,iN num,iN lev,.str x]/\StoreAt K C st ln dt H nds tabs/\nds[0]?=some .bare/\Tri NS nds F d lev r num/\r < 4 ^ lev/\lev+d=5/\x∈NS/\YQ x % 4 ^ lev=r/\F x=some v0/\nds.length+d+1<=100000/\LamAt H Pl YD XH /\
  ∀ (H':Hp) (nds':List Nd) (num':Nat),StoreAt K C st ln dt H' nds' tabs->NEx nds nds'->nds'.length<=nds.length+d+1->Tri NS nds' (Vs F x) d lev r num'->TakR x nds lev num nds' num'->LamAt H' Pl YD XH->Kq [ln,Pl] H H'->TF H H'->Q (iN num') H'
abbrev nTk:List Str:=["self","number","level","name"]
abbrev nTa:List Str:=["self","number","level","name","node","left","parts","figure","filled"]
theorem scTk:Zx nTa nTk (Zo c_Store_taken_from):=⟨rfl,rfl,rfl,by decide +kernel,rfl,by decide +kernel,by decide +kernel⟩
theorem Zly {f : Addr}{fd:FuncData}{d k:Nat}(N:Yn NS)(hk:2<=k)(F:Fun K "taken_from" "Store.taken_from" c_Store_taken_from f fd)(T:Txt K mg)(TC:YR K C)
 (DH:Def P w K mg base 1 "has_mark" ["node","number"] (UL K)) (DP:Def P w K mg base 1 "parts_in" ["node"] (Wl K)) (DR:Def P w K mg base 1 "pairs_in" ["node"] (XR K)) (DM:Def P w K mg base 1 "mark" ["name"] XV) (DG:Def P w K mg base 1 "digit" ["number","level"] XQ)
 (DL:Def P w K mg base 2 "leaf_of" ["pairs"] (UN K Pl YD)) (DO:Def P w K mg base 1 "fork_of" ["parts"] (Wj K)) (DK:DefM P w K mg base 1 C "keep" ["self","node"] (UM K C))
 (DI:DefM P w K mg base k C "taken_from" nTk (Zbo K C Pl NS d)):FnOk P w K mg base ZK (k+1) f fd nTk (Zbo K C Pl NS (d+1)):=by
 refine F.ok scTk (fun vs H Q E h=>?_) (fun cdv A outer s H vs Q E hr h=>?_)
 ·obtain ⟨st,ln,dt,nds,tabs,num,lev,r,x,v0,F,rfl,_⟩:=h;rfl
 obtain ⟨st,ln,dt,nds,tabs,num,lev,r,x,v0,Fm,rfl,S,h0,htri,hrl,hlev,hx,hxr,hFx,hlen,hL,q⟩:=h
 obtain ⟨tz,hz⟩:=T.zero
 have hr1:=hr.mono (show 1<=k by omega)
 have hr2:=hr.mono hk
 refine' ⟨?t,?h,?r⟩
 case h =>
  conv=>arg 2;whnf
  with_reducible refine' Zf ?a1 (Zf (Yf ?a2 (Zf ?c1 (Zj ?c2)) ZS) (Zf ?a3 (Zf ?a4 (Zf ?a5 (Zf ?a6 (Zf (Yf ?a7 (Zj ?a8) ZS) (Zj ?a9)))))))
  case a1=>exact Zz (i:=4) scTk.nd rfl (Or.inl rfl) (ZA ZD (YM (pv 0) rfl) (pv 1) (fun _ _=>rfl))
  case a2=>exact UG (Zu DH hr1 (Zc (pv 4) (Zc (Zu DM hr1 (Zc (pv 3) Za)) Za)))
  case c1=>exact VY (i:=5) (CompOk.of nTa c_Store_taken_from rfl rfl (by decide +kernel)) rfl scTk.nd rfl (Or.inl rfl) (Zdy (Zu DR hr1 (Zc (pv 4) Za))) (fun _ _ _ _ _=>ZF Vb (ZA (ZjT (K:=K) rfl) (pv 9) Zd (fun _ _=>rfl)) (pv 3) (ZI _)) (fun _ _ _ _ _=>pv 9) rfl
  case c2=>exact Zw (Xb (WW (pv 5) (fun _=>rfl)) (YY DK TC.cl hr1 (pv 0) (Zc (Zu DL hr2 (Zc (pv 5) Za)) Za)) (Xi rfl hz (v:=.int 0) ⟨_,rfl⟩))
  case a3=>exact Zz (i:=6) scTk.nd rfl (Or.inl rfl) (ZP YT rfl T.list (by decide +kernel) (Zc (Zu DP hr1 (Zc (pv 4) Za)) Za))
  case a4=>exact Zz (i:=7) scTk.nd rfl (Or.inl rfl) (Zu DG hr1 (Zc (Zu DM hr1 (Zc (pv 3) Za)) (Zc (pv 2) Za)))
  case a5=>exact WV (YY DI TC.cl hr (pv 0) (Zc (ZA ZD (pv 6) (pv 7) (fun _ _=>rfl)) (Zc (Zq ZZ (pv 2) Zd) (Zc (pv 3) Za)))) (VB (pv 6) (pv 7) WZ)
  case a6=>exact VY (i:=8) (CompOk.of nTa c_Store_taken_from rfl rfl (by decide +kernel)) rfl scTk.nd rfl (Or.inl rfl) (UF (pv 6)) (fun _ _ _ _ _=>ZF Vb (pv 9) (Xi rfl hz (v:=.int 0) ⟨_,rfl⟩) (ZI _)) (fun _ _ _ _ _=>pv 9) rfl
  case a7=>exact PW.pt (WX (ZF YH (ZE ZU rfl T.len PySem.boot_len (Zc (pv 8) Za)) Zd (ZI _)) (WI (WW (Zu DR hr1 (Zc (ZA ZD (YM (pv 0) rfl) (ZA ZD (pv 8) Zd (fun _ _=>rfl)) (fun _ _=>rfl)) Za)) (fun _=>rfl))))
  case a8=>exact Zw (ZA ZD (pv 8) Zd (fun _ _=>rfl))
  case a9=>exact Zw (YY DK TC.cl hr1 (pv 0) (Zc (Zu DO hr1 (Zc (pv 6) Za)) Za))
 try dsimp only [Yo,Cx.nox]
 refine zs8 ?_
 intro zD zS zN7 zN6 zN5 zN4 zN3 zN2 zN1
 obtain ⟨n,hn,hbare⟩:=Zax htri
 obtain ⟨as,a,nl,ha,hna⟩:=S.node hn
 obtain ⟨dx,ob⟩:=S.ob
 obtain ⟨tb,htb⟩:=hL.tbl
 have hst:st ∉ [Pl]:=fun z=>by rw [mem_singleton.mp z,htb] at ob;cases ob
 have hln:ln ∉ [Pl]:=fun z=>by rw [mem_singleton.mp z,htb] at nl;cases nl
 have hdt:dt ∉ [Pl]:=fun z=>by have e:=S.tb;rw [mem_singleton.mp z,htb] at e;cases e
 refine ⟨_,rfl,st,C,dx,_,_,rfl,ob,TC.cl,TC.nN,Xe ln dt,_,rfl,ln,_,_,_,rfl,rfl,SqL.of nl,ZJ (by rw [getElem?_map,ha];rfl),?_⟩
 refine ⟨_,rfl,_,rfl,x,rfl,N.len x hx,fun H1 s1=>⟨a,n,Zm x,rfl,hna.tf s1.tf,_,rfl,?_⟩⟩
 rcases Zhw htri hn hx hxr hFx with ⟨ps,rfl,G,hF⟩ | ⟨qs,d',rfl,rfl,hq4,hqs⟩
 ·rw [show (Nd.leaf (Zm x) ps).hasM (Zm x)=true from decide_eq_true rfl]
  refine Yx ?_
  refine ⟨_,rfl,a,_,rfl,hna.tf s1.tf,fun pt H2 s2 hpt=>?_⟩
  obtain ⟨o,ts,ept,hod,hlts,hp⟩:=hpt
  have hlts':ts.length=ps.length:=hlts
  have s12:=s1.trans s2
  have hfw:=N.few
  have hgf:=G.few
  refine ⟨pt,rfl,⟨_,.inl (.inr ⟨o,ept⟩)⟩,fun D hD=>?_⟩
  have hD0:H D=none:=by
   cases e:H D with
   | none=>rfl
   | some o=>rw [s12 _ _ e] at hD;cases hD
  have hzl:(ts.zip ps).length=ts.length:=by rw [List.length_zip,hlts',Nat.min_self]
  have hzs:(ts.zip ps).map (·.2)=ps:=List.map_snd_zip (by omega)
  refine Zgj (K:=K) (a:=pt) (xs:=ts.map V.ref) (by rw [length_map];exact Nat.le_trans (show ts.length<=64 by omega) (by decide))
   (fun i ys H'=>ys=(((ts.zip ps).take i).filter fun z=>!decide (z.2.1=x)).map (fun z=>V.ref z.1)/\H' D=some (.lst ys)/\Same H2 H') ⟨rfl,Ze,Zl hD _⟩ ?_ ?_ ?_
  ·rintro i ys H' ⟨rfl,_,s'⟩
   refine ⟨?_,.inl (.inr ⟨o,s' _ _ ept⟩)⟩
   rw [length_map]
   exact Nat.le_trans (length_filter_le _ _) (by rw [length_take];exact Nat.min_le_left _ _)
  ·rintro i v ys H' hi ⟨rfl,hDl,s'⟩
   have hit:i < ts.length:=by have:=(List.getElem?_eq_some_iff.mp hi).1;rwa [length_map] at this
   have et:=getElem?_eq_getElem hit
   have ep:=getElem?_eq_getElem (show i < ps.length by omega)
   generalize ts[i]=ti at et
   generalize ps[i]=pi at ep
   have hv:V.ref ti=v:=by rw [getElem?_map,et] at hi;exact Option.some.inj hi
   subst hv
   have ez:(ts.zip ps)[i]?=some (ti,pi):=List.getElem?_zip_eq_some.mpr ⟨et,ep⟩
   have htup:=s' _ _ (hp i ti pi et ep)
   have hts:=take_succ_filter (fun z:Addr×(Str×V)=>!decide (z.2.1=x)) (ts.zip ps) i (ti,pi) ez
   refine ⟨_,rfl,ti,_,_,_,rfl,rfl,SqT.of htup,rfl,_,rfl,rfl,_,rfl,?_⟩
   have edx:(!decide (V.str pi.1=V.str x))=!decide (pi.1=x):=by
    by_cases z:pi.1=x
    ·rw [z,decide_eq_true rfl,decide_eq_true rfl]
    ·rw [decide_eq_false z,decide_eq_false fun y=>z (V.str.inj y)]
   rw [edx]
   by_cases z:pi.1=x
   ·rw [decide_eq_true z]
    refine ZR ⟨?_,hDl,s'⟩
    rw [hts]
    show _=List.map _ (_++if (!decide (pi.1=x))=true then [(ti,pi)] else [])
    rw [decide_eq_true z]
    simp
   ·rw [decide_eq_false z]
    refine Yx ⟨_,rfl,hDl,?_,Ze,fun b u e=>by rw [Zi (Zn e hD)];exact s' _ _ e⟩
    rw [hts]
    show _=List.map _ (_++if (!decide (pi.1=x))=true then [(ti,pi)] else [])
    rw [decide_eq_false z]
    simp
  ·rintro ys H5 ⟨rfl,hD5,s5⟩
   rw [length_map,<- hzl,List.take_length] at hD5
   have hlp:((ts.zip ps).filter fun z=>!decide (z.2.1=x)).map (·.2)=Yr ps x:=by
    unfold Yr
    conv=>rhs;rw [<- hzs]
    rw [List.filter_map];rfl
   have hlt:((ts.zip ps).filter fun z=>!decide (z.2.1=x)).map (fun z=>V.ref z.1)=(((ts.zip ps).filter fun z=>!decide (z.2.1=x)).map (·.1)).map V.ref:=by rw [map_map];rfl
   have s15:Same H H5:=s12.trans s5
   have hPT:PairT H5 (((ts.zip ps).filter fun z=>!decide (z.2.1=x)).map (·.1)) (Yr ps x):=by
    refine ⟨by rw [<- hlp,length_map,length_map],fun i b p e1 e2=>?_⟩
    rw [<- hlp,getElem?_map] at e2
    rw [getElem?_map] at e1
    cases ez:((ts.zip ps).filter fun z=>!decide (z.2.1=x))[i]? with
    | none=>rw [ez] at e1;cases e1
    | some z =>
     rw [ez] at e1 e2
     cases (show some z.1=some b from e1)
     cases (show some z.2=some p from e2)
     obtain ⟨j,hj⟩:=mem_iff_getElem?.mp (mem_filter.mp (mem_of_getElem? ez)).1
     obtain ⟨h1,h2⟩:=List.getElem?_zip_eq_some.mp hj
     exact s5 _ _ (hp j _ _ h1 h2)
   refine ⟨_,rfl,_,.inl ⟨_,SqL.of hD5,rfl⟩,?_⟩
   by_cases hb:Yr ps x=[]
   ·have:((ts.zip ps).filter fun z=>!decide (z.2.1=x))=[]:=by
     have:=congrArg List.length hlp
     rw [hb,length_map] at this
     exact List.length_eq_zero_iff.mp this
    rw [this]
    exact ZR (q H5 nds 0 (S.keep s15) (NEx.refl _) (by omega) (Zjb d h0 hb hF) (TakR.gone hn hb) (LamAt.same hL s15) (Same.kq s15) s15.tf)
   ·have G2:=G.but hb
    have hne:(!(((ts.zip ps).filter fun z=>!decide (z.2.1=x)).map (fun z=>V.ref z.1)).isEmpty)=true:=by
     cases e:((ts.zip ps).filter fun z=>!decide (z.2.1=x)) with
     | nil=>rw [e] at hlp;exact absurd hlp.symm hb
     | cons _ _=>rfl
    rw [hne]
    have S5:=S.keep s15
    obtain ⟨dx5,ob5⟩:=S5.ob
    refine Yx ⟨_,rfl,st,dx5,_,rfl,ob5,ZN ln dt (by decide +kernel) (by decide +kernel),_,rfl,D,_,Yr ps x,rfl,by rw [hD5,hlt],hPT,hb,by have:=G2.few;omega,fun p hp=>N.len _ (G2.sub p hp),LamAt.same hL s15,fun a6 H6 p1 pr g6 L6 perm6 sort6 node6=>?_⟩
    have tb5:H5 Pl=some (.tbl tb):=s15 _ _ htb
    have tf6:TF H5 H6:=g6.tf tb5
    have S6:=S5.kq g6.kq tf6 hst hln hdt
    refine ⟨st,ln,dt,a6,nds,tabs,_,rfl,S6,node6,by omega,fun H7 S7 k7 tf7=>?_⟩
    have nl6:∃ xs,H6 ln=some (.lst xs):=by obtain ⟨as6,e6,_⟩:=S6.nl;exact ⟨_,e6⟩
    have hmk:Zm p1.1=Zm x:=(G2.perm perm6).mrk p1 mem_cons_self
    rw [hmk] at S7
    refine q H7 _ nds.length S7 (NEx.app nds _) (by rw [length_append];show nds.length+1<=_;omega) ?_ (TakR.less hn hb perm6 sort6) (L6.kq k7 fun b hb=>by rw [mem_singleton.mp hb];exact nl6) ?_ ((s15.tf.trans tf6).trans tf7)
    ·exact Zjd d hxr (by rw [getElem?_append_right (Nat.le_refl _),Nat.sub_self];rfl) G2 perm6 hF
    ·exact (Same.kq s15).trans ((g6.kq.sub fun b hb=>by simp at hb ⊢;exact .inr hb).trans (k7.sub fun b hb=>by simp at hb ⊢;exact .inl hb))
 ·refine ZR ?_
  refine ⟨_,rfl,a,_,rfl,hna.tf s1.tf,fun pt H2 s2 hpt=>⟨pt,_,rfl,.inr hpt,fun rl hrl1=>?_⟩⟩
  have s12:=s1.trans s2
  have hrl0:H rl=none:=by
   cases e:H rl with
   | none=>rfl
   | some o=>rw [s12 _ _ e] at hrl1;cases hrl1
  refine ⟨_,rfl,x,rfl,N.len x hx,fun H3 s3=>⟨_,rfl,Zm x,lev,rfl,N.lo x hx,by omega,?_⟩⟩
  have el3:H3 rl=some (.lst (qs.map iN)):=s3 _ _ Ze
  have s13:Same H H3:=(s12.trans (Zl hrl1 _)).trans s3
  have S3:=S.keep s13
  have hdl:Zv (Zm x) lev < qs.length:=by rw [hq4];exact Xp _ _
  have hq1:=getElem?_eq_getElem hdl
  generalize qs[Zv (Zm x) lev]=q1 at hq1
  have hat:YA (qs.map iN) (Zm x / 4 ^ lev % 4)=some (iN q1):=by rw [<- Wc];exact ZJ (by rw [getElem?_map,hq1];rfl)
  obtain ⟨dx3,ob3⟩:=S3.ob
  refine ⟨_,rfl,st,dx3,_,rfl,ob3,ZN ln dt (by decide +kernel) (by decide +kernel),_,rfl,_,rfl,rl,_,_,_,rfl,rfl,SqL.of el3,hat,_,rfl,_,_,rfl,rfl,_,rfl,?_⟩
  refine ⟨st,ln,dt,nds,tabs,q1,lev+1,_,x,v0,Fm,rfl,S3,h0,hqs _ _ hq1,Wu hrl (Xp _ _),by omega,hx,by rw [XN,hxr,YU (N.lo x hx)];rfl,hFx,by omega,LamAt.same hL s13,fun H5 nds5 num5 S5 ext5 len5 tri5 pr5 L5 kq5 tf5=>?_⟩
  have nrl:rl ∉ [ln,Pl]:=fun z=>by
   rcases mem_cons.mp z with z | z
   ·rw [z,nl] at hrl0;cases hrl0
   ·rw [mem_singleton.mp z,htb] at hrl0;cases hrl0
  have el5:=kq5 _ _ nrl el3
  have hix:Ww (qs.map iN).length (Zm x / 4 ^ lev % 4)=some (Zv (Zm x) lev):=by
   rw [<- Wc,length_map]
   unfold Ww
   rw [if_pos (by omega),if_pos (by omega)]
   rfl
  refine ⟨_,rfl,_,rfl,rl,_,_,_,rfl,rfl,el5,hix,?_⟩
  have tf6:=ZdT (o:=.lst ((qs.map iN).set (Zv (Zm x) lev) (iN num5))) el5
  have k6:Kq [rl] H5 (upd H5 rl (.lst ((qs.map iN).set (Zv (Zm x) lev) (iN num5)))):=ZaV
  have nst:st ∉ [rl]:=fun z=>by rw [<- mem_singleton.mp z,ob] at hrl0;cases hrl0
  have nln:ln ∉ [rl]:=fun z=>by rw [<- mem_singleton.mp z,nl] at hrl0;cases hrl0
  have ndt:dt ∉ [rl]:=fun z=>by rw [<- mem_singleton.mp z,S.tb] at hrl0;cases hrl0
  have S6:=S5.kq k6 tf6 nst nln ndt
  have el6:upd H5 rl (.lst ((qs.map iN).set (Zv (Zm x) lev) (iN num5))) rl=some (.lst ((qs.set (Zv (Zm x) lev) num5).map iN)):=by rw [Ze,List.map_set]
  have L6:=L5.kq k6 fun b hb=>by rw [mem_singleton.mp hb];exact ⟨_,el5⟩
  have kh:Kq [ln,Pl] H (upd H5 rl (.lst ((qs.map iN).set (Zv (Zm x) lev) (iN num5)))):=fun b o nb e=>by
   rw [Zi (Zn e hrl0)];exact kq5 _ _ nb (s13 _ _ e)
  generalize upd H5 rl (.lst ((qs.map iN).set (Zv (Zm x) lev) (iN num5)))=H6 at *
  have hps:∀ (i q:Nat),(qs.set (Zv (Zm x) lev) num5)[i]?=some q->Tri NS nds5 (Vs Fm x) d' (lev+1) (r+i * 4 ^ lev) q:=fun i q hi=>ZgR N hrl hx hxr hq4 hqs ext5 tri5 (fun y hy=>if_neg hy) i q hi
  have hp4:(qs.set (Zv (Zm x) lev) num5).length=4:=by rw [length_set,hq4]
  generalize hqn:qs.set (Zv (Zm x) lev) num5=qn at *
  have mkF:(∀ (q:Nat) (m:Int) (ps:List (Str×V)),(qn.filter fun p=>!decide (p=0))=[q]->nds5[q]?≠some (.leaf m ps))->TakR x nds lev num (nds5++[.fork qn]) nds5.length:=fun z=>by
   rw [<- hqn] at z ⊢
   exact TakR.fork hn hq1 pr5 z
  have h05:=ext5 _ _ h0
  have tfh:TF H H6:=(s13.tf.trans tf5).trans tf6
  refine ⟨_,rfl,rl,rfl,⟨_,SqL.of el6⟩,fun D hD=>?_⟩
  refine UT (K:=K) (a:=rl) (xs:=qn.map iN) (by rw [length_map,hp4];decide)
   (fun i ys H'=>ys=((qn.take i).filter fun p=>!decide (p=0)).map iN/\H' D=some (.lst ys)/\Same H6 H') ⟨rfl,Ze,Zl hD _⟩ ?_ ?_ ?_
  ·rintro i ys H' ⟨rfl,_,s'⟩
   refine ⟨?_,SqL.of (s' _ _ el6)⟩
   rw [length_map]
   exact Nat.le_trans (length_filter_le _ _) (by rw [length_take];exact Nat.min_le_left _ _)
  ·rintro i v ys H' hi ⟨rfl,hDl,s'⟩
   have hit:i < qn.length:=by have:=(List.getElem?_eq_some_iff.mp hi).1;rwa [length_map] at this
   have et:=getElem?_eq_getElem hit
   generalize qn[i]=qi at et
   have hv:iN qi=v:=by rw [getElem?_map,et] at hi;exact Option.some.inj hi
   subst hv
   have hts:=take_succ_filter (fun p:Nat=>!decide (p=0)) qn i qi et
   refine ⟨_,rfl,rfl,_,rfl,?_⟩
   have edx:(!decide (iN qi=V.int 0))=!decide (qi=0):=by
    by_cases z:qi=0
    ·rw [z];rfl
    ·rw [decide_eq_false z,decide_eq_false fun y=>z (by have:=V.int.inj y;omega)]
   rw [edx]
   by_cases z:qi=0
   ·rw [decide_eq_true z]
    refine ZR ⟨?_,hDl,s'⟩
    rw [hts]
    show _=List.map _ (_++if (!decide (qi=0))=true then [qi] else [])
    rw [decide_eq_true z]
    simp
   ·rw [decide_eq_false z]
    refine Yx ⟨_,rfl,hDl,?_,Ze,fun b u e=>by rw [Zi (Zn e hD)];exact s' _ _ e⟩
    rw [hts]
    show _=List.map _ (_++if (!decide (qi=0))=true then [qi] else [])
    rw [decide_eq_false z]
    simp
  ·rintro ys H7 ⟨rfl,hD7,s7⟩
   rw [length_map,List.take_length] at hD7
   generalize hfl:(qn.filter fun p=>!decide (p=0))=fl at hD7
   have S7:=S6.keep s7
   refine ⟨_,rfl,D,_,rfl,.inl (SqL.of hD7),rfl,_,rfl,?_⟩
   by_cases h1:fl.length=1
   ·obtain ⟨q8,rfl⟩:∃ q8,fl=[q8]:=by
     cases fl with
     | nil=>cases h1
     | cons b t=>cases t with
      | nil=>exact ⟨b,rfl⟩
      | cons _ _=>simp at h1
    obtain ⟨i8,hi8,hq80,_⟩:=ZaN hfl
    obtain ⟨n8,hn8,_⟩:=Zax (hps i8 q8 hi8)
    obtain ⟨as8,a8,nl8,ha8,hna8⟩:=S7.node hn8
    obtain ⟨dx8,ob8⟩:=S7.ob
    refine Yx ⟨_,rfl,st,C,dx8,_,_,rfl,ob8,TC.cl,TC.nN,Xe ln dt,_,rfl,D,_,_,_,rfl,rfl,SqL.of hD7,(show YA ([q8].map iN) ((0:Nat):Int)=some (iN q8) from ZJ rfl),ln,_,_,_,rfl,rfl,SqL.of nl8,ZJ (by rw [getElem?_map,ha8];rfl),a8,n8,rfl,hna8,fun pt9 H9 s9 hpt9=>?_⟩
    obtain ⟨o9,ts9,ept9,_,hl9,_⟩:=hpt9
    refine ⟨_,.inr (.inl ⟨_,.inl (.inr ⟨o9,ept9⟩),rfl⟩),?_⟩
    have s79:=s7.trans s9
    cases n8 with
    | leaf m8 ps8 =>
     have hne:(!(ts9.map V.ref).isEmpty)=true:=by
      cases ts9 with
      | nil =>
       have hE:TriE NS nds5 (Vs Fm x) (lev+1) (r+i8 * 4 ^ lev) q8:=by
        have:=hps i8 q8 hi8
        cases d' with
        | zero=>exact this
        | succ d' =>
         rcases this with h | ⟨qs',h,_⟩
         ·exact h
         ·rw [hn8] at h;cases h
       rcases hE with ⟨z,_⟩ | ⟨m',ps',e,G,_⟩
       ·exact absurd z hq80
       ·rw [hn8] at e;cases e
        exact absurd (List.length_eq_zero_iff.mp (show ps8.length=0 from hl9.symm)) G.ne
      | cons _ _=>rfl
     rw [hne]
     refine Yx ⟨_,rfl,D,_,_,_,rfl,rfl,SqL.of (s9 _ _ hD7),(show YA ([q8].map iN) ((0:Nat):Int)=some (iN q8) from ZJ rfl),?_⟩
     exact q H9 nds5 q8 (S6.keep s79) ext5 (by omega) (Zmg N h05 hrl hp4 hps hfl hn8) (TakR.up hn hq1 pr5 (by rw [hqn];exact hfl) hn8) (LamAt.same L6 s79) (kh.trans (Same.kq s79)) (tfh.trans s79.tf)
    | bare =>
     rw [List.length_eq_zero_iff.mp (show ts9.length=0 from hl9)]
     refine ZR ?_
     obtain ⟨dxA,obA⟩:=(S6.keep s79).ob
     refine ⟨_,rfl,st,dxA,_,rfl,obA,ZN ln dt (by decide +kernel) (by decide +kernel),_,rfl,rl,qn,rfl,s79 _ _ el6,hp4,fun aB HB sB nodeB=>?_⟩
     have SB:=(S6.keep s79).keep sB
     refine ⟨st,ln,dt,aB,nds5,tabs,_,rfl,SB,nodeB,by omega,fun HC SC kC tfC=>?_⟩
     have nlB:∃ xs,HB ln=some (.lst xs):=by obtain ⟨asB,eB,_⟩:=SB.nl;exact ⟨_,eB⟩
     refine q HC _ nds5.length SC (ext5.trans (NEx.app nds5 _)) (by rw [length_append];show nds5.length+1<=_;omega) ?_ (mkF fun q m ps e h=>by rw [hfl] at e;cases e;rw [hn8] at h;cases h) ((LamAt.same (LamAt.same L6 s79) sB).kq kC fun b hb=>by rw [mem_singleton.mp hb];exact nlB) ?_ (((tfh.trans s79.tf).trans sB.tf).trans tfC)
     ·exact Zaw (by rw [getElem?_append_right (Nat.le_refl _),Nat.sub_self];rfl) hp4 fun i q hi=>Tri.mono d' (hps i q hi) (NEx.app nds5 _)
     ·exact ((kh.trans (Same.kq s79)).trans (Same.kq sB)).trans (kC.sub fun b hb=>by simp at hb ⊢;exact .inl hb)
    | fork qs8 =>
     rw [List.length_eq_zero_iff.mp (show ts9.length=0 from hl9)]
     refine ZR ?_
     obtain ⟨dxA,obA⟩:=(S6.keep s79).ob
     refine ⟨_,rfl,st,dxA,_,rfl,obA,ZN ln dt (by decide +kernel) (by decide +kernel),_,rfl,rl,qn,rfl,s79 _ _ el6,hp4,fun aB HB sB nodeB=>?_⟩
     have SB:=(S6.keep s79).keep sB
     refine ⟨st,ln,dt,aB,nds5,tabs,_,rfl,SB,nodeB,by omega,fun HC SC kC tfC=>?_⟩
     have nlB:∃ xs,HB ln=some (.lst xs):=by obtain ⟨asB,eB,_⟩:=SB.nl;exact ⟨_,eB⟩
     refine q HC _ nds5.length SC (ext5.trans (NEx.app nds5 _)) (by rw [length_append];show nds5.length+1<=_;omega) ?_ (mkF fun q m ps e h=>by rw [hfl] at e;cases e;rw [hn8] at h;cases h) ((LamAt.same (LamAt.same L6 s79) sB).kq kC fun b hb=>by rw [mem_singleton.mp hb];exact nlB) ?_ (((tfh.trans s79.tf).trans sB.tf).trans tfC)
     ·exact Zaw (by rw [getElem?_append_right (Nat.le_refl _),Nat.sub_self];rfl) hp4 fun i q hi=>Tri.mono d' (hps i q hi) (NEx.app nds5 _)
     ·exact ((kh.trans (Same.kq s79)).trans (Same.kq sB)).trans (kC.sub fun b hb=>by simp at hb ⊢;exact .inl hb)
   ·have hd1:decide (V.int (((fl.map iN).length:Nat):Int)=V.int 1)=false:=decide_eq_false fun z=>h1 (by have:=V.int.inj z;rw [length_map] at this;omega)
    rw [hd1]
    have s79:=s7
    refine ZR (ZR ?_)
    obtain ⟨dxA,obA⟩:=(S6.keep s79).ob
    refine ⟨_,rfl,st,dxA,_,rfl,obA,ZN ln dt (by decide +kernel) (by decide +kernel),_,rfl,rl,qn,rfl,s79 _ _ el6,hp4,fun aB HB sB nodeB=>?_⟩
    have SB:=(S6.keep s79).keep sB
    refine ⟨st,ln,dt,aB,nds5,tabs,_,rfl,SB,nodeB,by omega,fun HC SC kC tfC=>?_⟩
    have nlB:∃ xs,HB ln=some (.lst xs):=by obtain ⟨asB,eB,_⟩:=SB.nl;exact ⟨_,eB⟩
    refine q HC _ nds5.length SC (ext5.trans (NEx.app nds5 _)) (by rw [length_append];show nds5.length+1<=_;omega) ?_ (mkF fun q m ps e h=>h1 (by rw [<- hfl,e];rfl)) ((LamAt.same (LamAt.same L6 s79) sB).kq kC fun b hb=>by rw [mem_singleton.mp hb];exact nlB) ?_ (((tfh.trans s79.tf).trans sB.tf).trans tfC)
    ·exact Zaw (by rw [getElem?_append_right (Nat.le_refl _),Nat.sub_self];rfl) hp4 fun i q hi=>Tri.mono d' (hps i q hi) (NEx.app nds5 _)
    ·exact ((kh.trans (Same.kq s79)).trans (Same.kq sB)).trans (kC.sub fun b hb=>by simp at hb ⊢;exact .inl hb)
theorem ZeM {f:Addr}{fd:FuncData}(N:Yn NS)(F:Fun K "taken_from" "Store.taken_from" c_Store_taken_from f fd)(T:Txt K mg)(TC:YR K C)
 (DH:Def P w K mg base 1 "has_mark" ["node","number"] (UL K)) (DP:Def P w K mg base 1 "parts_in" ["node"] (Wl K)) (DR:Def P w K mg base 1 "pairs_in" ["node"] (XR K)) (DM:Def P w K mg base 1 "mark" ["name"] XV) (DG:Def P w K mg base 1 "digit" ["number","level"] XQ)
 (DL:Def P w K mg base 2 "leaf_of" ["pairs"] (UN K Pl YD)) (DO:Def P w K mg base 1 "fork_of" ["parts"] (Wj K)) (DK:DefM P w K mg base 1 C "keep" ["self","node"] (UM K C))
 (b:Binds K fd nTk []) (mt:Zac K C "taken_from" f):∀ d,FnOk P w K mg base ZK (2+d) f fd nTk (Zbo K C Pl NS d)
 | 0=>F.ok scTk (fun _ _ _ _ h=>h.elim) (fun _ _ _ _ _ _ _ _ _ h=>h.elim)
 | d+1=>Zly N (Nat.le_add_right 2 d) F T TC DH DP DR DM DG DL DO DK ⟨f,fd,ZeM N F T TC DH DP DR DM DG DL DO DK b mt d,b,mt⟩
inductive ZiZ (K:PySem.W.Frag)(C:Addr)(Pl:Addr)(NS:List Str)(vs:List V)(H:Hp)(Q:VK)(w_3:XK):Prop
 | mk (st ln dt:Addr) (nds:List Nd) (tabs:List (Zk×V)) (t:Nat) (x:Str) (F:Str->Option V):(vs=[.ref st,iN t,.str x])->(StoreAt K C st ln dt H nds tabs)->(nds[0]?=some .bare)->((Zy tabs (Sum.inl (t:Int))).isSome=true)->(Tri NS nds F 5 0 0 t)->(x∈NS)->((∀ u,F x=some u->ValV u))->(nds.length+6<=100000)->(tabs.length<=100000)->(LamAt H Pl YD XH)->(∀ (H':Hp) (nds':List Nd) (tabs':List (Zk×V)) (t':Nat),StoreAt K C st ln dt H' nds' tabs'->NEx nds nds'->nds'.length<=nds.length+6->tabs'.length<=tabs.length+1->(∀ k,(Zy tabs k).isSome=true->(Zy tabs' k).isSome=true)->(Zy tabs' (Sum.inl (t':Int))).isSome=true->Tri NS nds' (Vs F x) 5 0 0 t'->((F x=none/\t'=t/\nds'=nds/\tabs'=tabs)\/(F x≠none/\TakR x nds 0 t nds' t'/\tabs'=ZQ tabs (Sum.inl (t':Int)) (.bl true)))->LamAt H' Pl YD XH->Kq [ln,dt,Pl] H H'->TF H H'->Q (iN t') H')->ZiZ K C Pl NS vs H Q w_3
theorem scWo:Zx ["self","table","name"] ["self","table","name"] (Zo c_Store_without):=⟨rfl,rfl,rfl,by decide +kernel,rfl,by decide +kernel,by decide +kernel⟩
theorem ZmB {f:Addr}{fd:FuncData}(N:Yn NS)(F:Fun K "without" "Store.without" c_Store_without f fd)(TC:YR K C)(DLk:DefM P w K mg base 3 C "looked" ["self","table","name"] (Wk K C))
 (DAs:DefM P w K mg base 1 C "as_table" ["self","number"] (ZcP K C)) (DI:DefM P w K mg base 8 C "taken_from" nTk (Zbo K C Pl NS 6)):FnOk P w K mg base ZK 9 f fd ["self","table","name"] (ZiZ K C Pl NS):=by
 refine F.ok scWo (fun vs H Q E h=>?_) (fun cdv A outer s H vs Q E hr h=>?_)
 ·obtain ⟨st,ln,dt,nds,tabs,t,x,F,rfl,_⟩:=h;rfl
 obtain ⟨st,ln,dt,nds,tabs,t,x,Fm,rfl,S,h0,htab,htri,hx,hFv,hlen,htl,hL,q⟩:=h
 have hr1:=hr.mono (show 1<=8 by decide)
 have hr3:=hr.mono (show 3<=8 by decide)
 refine' ⟨?t,?h,?r⟩
 case h =>
  conv=>arg 2;whnf
  with_reducible refine' Zf (Yf ?a1 (Zj ?a2) ZS) (Zj ?a3)
  case a1=>exact Zbh (ZlE (YY DLk TC.cl hr3 (pv 0) (Zc (pv 1) (Zc (pv 2) Za))))
  case a2=>exact Zw (pv 1)
  case a3=>exact Zw (YY DAs TC.cl hr1 (pv 0) (Zc (YY DI TC.cl hr (pv 0) (Zc (pv 1) (Zc Zd (Zc (pv 2) Za)))) Za))
 try dsimp only [Yo,Cx.nox]
 refine zs2 ?_
 intro zD zS zN1
 obtain ⟨dx,ob⟩:=S.ob
 obtain ⟨ws,e,n,e1,e2,e3,e4,e5⟩:=XX N htri hx
 refine ⟨_,rfl,st,dx,_,rfl,ob,ZN ln dt (by decide +kernel) (by decide +kernel),_,rfl,_,rfl,st,ln,dt,nds,tabs,t,x,6,ws,e,n,rfl,S,htab,N.len x hx,N.lo x hx,by decide,e1,e2,e3,e4,fun H1 s1=>?_⟩
 rw [e5]
 refine ⟨_,rfl,?_⟩
 have S1:=S.keep s1
 have hL1:=LamAt.same hL s1
 cases eF:Fm x with
 | none =>
  refine Yx ⟨_,rfl,q H1 nds tabs t S1 (NEx.refl _) (by omega) (by omega) (fun _ h=>h) htab (Tri.congr 5 (by decide) htri fun y _ _=>?_) (.inl ⟨eF,rfl,rfl,rfl⟩) hL1 (Same.kq s1) s1.tf⟩
  unfold Vs
  by_cases z:y=x
  ·rw [if_pos z,z,eF]
  ·rw [if_neg z]
 | some u =>
  have hc:decide ((some u).getD .non=V.non)=false:=decide_eq_false (hFv u eF).ne
  rw [hc]
  obtain ⟨dx1,ob1⟩:=S1.ob
  refine ZR ⟨_,rfl,st,dx1,_,rfl,ob1,ZN ln dt (by decide +kernel) (by decide +kernel),_,rfl,st,dx1,_,rfl,ob1,ZN ln dt (by decide +kernel) (by decide +kernel),_,rfl,_,rfl,?_⟩
  refine ⟨st,ln,dt,nds,tabs,t,0,0,x,u,Fm,rfl,S1,h0,htri,by decide,rfl,hx,by rw [Nat.pow_zero,Nat.mod_one],eF,hlen,hL1,fun H2 nds2 num2 S2 ext2 len2 tri2 pr2 L2' kq2 tf2=>?_⟩
  refine ⟨st,ln,dt,nds2,tabs,num2,rfl,S2,by omega,fun H3 S3 k3 tf3=>?_⟩
  refine q H3 nds2 _ num2 S3 ext2 len2 (XD _ _ _) (fun k hk=>?_) (by rw [Uc,if_pos rfl];rfl) tri2 (.inr ⟨(fun z=>by rw [eF] at z;cases z),pr2,rfl⟩) ?_ ?_ ((s1.tf.trans tf2).trans tf3)
  ·rw [Uc]
   by_cases z:k=Sum.inl (num2:Int)
   ·rw [if_pos z];rfl
   ·rw [if_neg z];exact hk
  ·have hdl:∀ b∈[dt],∃ xs,H2 b=some (.dK xs):=fun b hb=>by rw [mem_singleton.mp hb];exact ⟨_,S2.tb⟩
   rcases L2' with h | ⟨c,h,h2⟩
   ·exact .inl (k3 _ _ (fun z=>by obtain ⟨_,e⟩:=hdl _ z;rw [h] at e;cases e) h)
   ·exact .inr ⟨c,k3 _ _ (fun z=>by obtain ⟨_,e⟩:=hdl _ z;rw [h] at e;cases e) h,k3 _ _ (fun z=>by obtain ⟨_,e⟩:=hdl _ z;rw [h2] at e;cases e) h2⟩
  ·exact ((Same.kq s1).trans (kq2.sub fun b hb=>by simp at hb ⊢;rcases hb with z | z;exact .inl z;exact .inr (.inr z))).trans (k3.sub fun b hb=>by simp at hb ⊢;exact .inr (.inl hb))
inductive ZdL (K:PySem.W.Frag)(C:Addr)(vs:List V)(H:Hp)(Q:VK)(w_3:XK):Prop
 | mk (st ln dt:Addr) (nds:List Nd) (tabs:List (Zk×V)) (t:Nat) (n:Nd):(vs=[.ref st,iN t])->(StoreAt K C st ln dt H nds tabs)->(nds[t]?=some n)->(∀ a,NodeAt K H a n->Q (.ref a) H)->ZdL K C vs H Q w_3
theorem scNo:Zx ["self","number"] ["self","number"] (Zo c_Store_node):=⟨rfl,rfl,rfl,by decide +kernel,rfl,by decide +kernel,by decide +kernel⟩
theorem Zkg {f:Addr}{fd:FuncData}(F:Fun K "node" "Store.node" c_Store_node f fd)(T:Txt K mg)(TC:YR K C):FnOk P w K mg base ZK 1 f fd ["self","number"] (ZdL K C):=by
 refine F.ok scNo (fun vs H Q E h=>?_) (fun cdv A outer s H vs Q E hr h=>?_)
 ·obtain ⟨st,ln,dt,nds,tabs,t,n,rfl,_⟩:=h;rfl
 obtain ⟨st,ln,dt,nds,tabs,t,n,rfl,S,hn,q⟩:=h
 refine' ⟨?t,?h,?r⟩
 case h =>
  conv=>arg 2;whnf
  with_reducible refine' Zf (Yf ?a1 (Zj Zjv) ZS) (Zj ?a3)
  case a1=>exact ZdA (ZiJ ZmD ZcL Zd (pv 1) (ZE ZU rfl T.len PySem.boot_len (Zc (YM (pv 0) rfl) Za)))
  case a3=>exact Zw (ZA ZD (YM (pv 0) rfl) (pv 1) (fun _ _=>rfl))
 try dsimp only [Yo,Cx.nox]
 refine zs2 ?_
 intro zD zS zN1
 obtain ⟨as,a,nl,ha,hna⟩:=S.node hn
 obtain ⟨dx,ob⟩:=S.ob
 have hlt:t < as.length:=(List.getElem?_eq_some_iff.mp ha).1
 refine ⟨_,rfl,_,_,rfl,rfl,_,rfl,?_⟩
 rw [decide_eq_true (show (0:Int)<=(t:Int) by omega)]
 refine Yx ⟨_,rfl,st,C,dx,_,_,rfl,ob,TC.cl,TC.nN,Xe ln dt,ln,_,rfl,.inl (SqL.of nl),_,_,rfl,rfl,_,rfl,?_⟩
 rw [decide_eq_true (show (t:Int) < (((as.map V.ref).length:Nat):Int) by rw [length_map];omega)]
 exact ZR ⟨_,rfl,st,C,dx,_,_,rfl,ob,TC.cl,TC.nN,Xe ln dt,_,rfl,ln,_,_,_,rfl,rfl,SqL.of nl,ZJ (by rw [getElem?_map,ha];rfl),q a hna⟩
end
section
variable {NS:List Str}{F:Str->Option V}{lev r:Nat}
end
section
variable {P:Program}{w:World}{K:PySem.W.Frag}{mg:Str->Option Value}{base:Heap}{C Pp:Addr}{NS:List Str}
end
section
variable {P:Program}{w:World}{K:PySem.W.Frag}{mg:Str->Option Value}{base:Heap}
abbrev ZcJ (P:Program)(w:World)(K:PySem.W.Frag)(mg:Str->Option Value)(base:Heap):Prop:=Def P w K mg base 1 "_law_take" ["_law_box_here","_law_many"] (Ua 4611686018427387904)
abbrev M62:Int:=4611686018427387904
theorem pick {p:Addr}{σ:St}{H:Hp}{D:Yi}{tn more:Int}{m:Nat}(h0:σ[0]?=some (some (.ref p)))(h4:σ[4]?=some (some (.int tn)))(h6:σ[6]?=some (some (.int more)))(hB:BoxAt H p m)(hm:m<=900000)(hmore:0<=more)(hM:more<=26)
 (k:∀ (σ':St) (more':Int) (H':Hp),(σ'=σ/\more'=more\/σ'=σ.set 6 (some (.int more')))->0<=more'->more'<=more->BoxAt H' p (m+2)->Kp p H H'->D.nx σ' H') :
 tIfS (Zja (Zbr (tOp rEq (Ut 4) (tC (.int 0)))) (Zja (Zbr (tOp (rI0 fun i j=>.bl (decide (j < i))) (Ut 6) (tC (.int 0)))) (Zbr (tOp rEq (Zbq (Ua M62) [] E0 (Xm (Ut 0) (Xm (tC (.int 2)) XW))) (tC (.int 0))))))
  (ZbS (Zbq (Ua M62) [] E0 (Xm (Ut 0) (Xm (Ut 6) XW))) (WB 6)) ZjF D σ H:=by
 refine ⟨_,h4,rfl,_,rfl,Yp (fun _=>?_) (fun _=>ZR (k _ _ _ (.inl ⟨rfl,rfl⟩) hmore (Int.le_refl _) (hB.le (by omega)) (Kp.refl p H)))⟩
 refine ⟨_,h6,_,_,rfl,rfl,_,rfl,Yp (fun c=>?_) (fun _=>ZR (k _ _ _ (.inl ⟨rfl,rfl⟩) hmore (Int.le_refl _) (hB.le (by omega)) (Kp.refl p H)))⟩
 have hpos:0 < more:=of_decide_eq_true c
 refine ⟨_,h0,p,m,2,rfl,hB,by omega,by decide,by decide,fun r H1 a0 a1 B1 k1=>⟨rfl,_,rfl,Yp (fun _=>?_) (fun _=>k _ _ _ (.inl ⟨rfl,rfl⟩) hmore (Int.le_refl _) (B1.le (by omega)) k1)⟩⟩
 refine ⟨_,h0,_,h6,p,m+1,more,rfl,B1,by omega,hpos,by show more < 4611686018427387904;omega,fun r2 H2 b0 b1 B2 k2=>?_⟩
 exact k _ r2 _ (.inr rfl) b0 (by omega) (B2.le (by omega)) (k1.trans k2)
inductive ZiY  (vs:List V) (H:Hp) (Q:VK) (w_3:XK):Prop
 | mk (p:Addr) (m:Nat) (own:Int):(vs=[.ref p,.int own])->(BoxAt H p m)->(m<=800000)->(36<=own)->(own<=1000)->(∀ (x:Str) (H':Hp),x.length=8->x.cps.toList.all YW=true->BoxAt H' p (m+32)->Kp p H H'->Q (.str x) H')->ZiY vs H Q w_3
abbrev nO:List Str:=["_law_box_here","_law_own","_law_letters","_law_left","_law_turn","_law_place","_law_more"]
theorem scO:Zx nO ["_law_box_here","_law_own"] (Zo s_l_of_mark):=⟨rfl,rfl,rfl,by decide +kernel,rfl,by decide +kernel,by decide +kernel⟩
def alf:Str:="_abcdefghijklmnopqrstuvwxyz"
theorem Zer:alf.length=27:=by decide +kernel
theorem ZkS:(List.range 27).all (fun k=>decide (k=0) || (match alf.cps.toList[k]? with | some c=>YW c | none=>false))=true:=by decide +kernel
theorem ZjL {z:Int}(h1:1<=z)(h2:z<=26):∃ c,YA alf.cps.toList z=some c/\YW c=true:=by
 have hk:z.toNat < 27:=by omega
 have h:=all_eq_true.mp ZkS z.toNat (List.mem_range.mpr hk)
 have hl:alf.cps.toList.length=27:=by rw [<- Xj];exact Zer
 have hz:decide (z.toNat=0)=false:=decide_eq_false (by omega)
 rw [hz,getElem?_eq_getElem (by rw [hl];exact hk)] at h
 refine ⟨_,?_,by simpa using h⟩
 have e:YA alf.cps.toList ((z.toNat:Nat):Int)=some alf.cps.toList[z.toNat]:=ZJ (getElem?_eq_getElem (by rw [hl];exact hk))
 rwa [show ((z.toNat:Nat):Int)=z by omega] at e
theorem ZmA {f:Addr}{fd:FuncData}(F:Fun K "_law_of_mark" "_law_of_mark" s_l_of_mark f fd)(T:Txt K mg)(D:ZcJ P w K mg base):FnOk P w K mg base ZK 2 f fd ["_law_box_here","_law_own"] ZiY:=by
 refine F.ok scO (fun vs H Q E h=>?_) (fun cdv A outer s H vs Q E hr h=>?_)
 ·obtain ⟨p,m,own,rfl,_⟩:=h;rfl
 obtain ⟨p,m,own,rfl,hB,hm,ho1,ho2,q⟩:=h
 refine' ⟨?t,?h,?r⟩
 case h =>
  conv=>arg 2;whnf
  with_reducible refine' Zf ?a1 (Zf (XE ?c0 ?c1 ?c2 ?c3 (Zj (XE ?d0 ?d1 ?d2 ?d3 (Zf ?b1 (Zf ?b2 (Zf ?b3 (Zj ?b4)))) ?d4)) ?c4) (Zj ?a3))
  case a1=>exact Xf (i:=2) (j:=3) rfl scO.nd rfl rfl (by decide) rfl rfl (Zc (Zq ZlB (YX (Zc Zd Za)) Zd) (Zc (Zq YL (pv 1) Zd) Za)) rfl
  case c0=>exact PassesOwn.never
  case c1=>exact rfl
  case c2=>exact YN rfl T.range (Zc Zd Za)
  case c3=>exact Yh (i:=4) scO.nd rfl (Or.inl rfl)
  case c4=>exact fun _=>rfl
  case d0=>exact PassesOwn.never
  case d1=>exact rfl
  case d2=>exact ZgV rfl T.range (Zc Zd (Zc Zd (Zc (ZcN Zbs Zd) Za)))
  case d3=>exact Yh (i:=5) scO.nd rfl (Or.inl rfl)
  case d4=>exact fun _=>rfl
  case b1=>exact Zz (i:=6) scO.nd rfl (Or.inl rfl) (ZE (Zcb rfl) rfl T.min (by decide +kernel) (Zc (Zq YL Zd (ZA ZD (pv 2) (Zq YL (pv 5) Zd) (fun _ _=>rfl))) (Zc (Zq WH (pv 3) (pv 5)) Za)))
  case b2=>exact Yf (PW.pt (WX (ZF YH (pv 4) Zd (ZI _)) (WX (ZF Zbd (pv 6) Zd (ZI _)) (WI (ZF YH (Zu D hr (Zc (pv 0) (Zc Zd Za))) Zd (ZI _)))))) (Zj (Zz (i:=6) scO.nd rfl (Or.inl rfl) (Zu D hr (Zc (pv 0) (Zc (pv 6) Za))))) ZS
  case b3=>exact WV (Zq ZZ (ZA ZD (pv 2) (Zq YL (pv 5) Zd) (fun _ _=>rfl)) (pv 6)) (VB (pv 2) (Zq YL (pv 5) Zd) WZ)
  case b4=>exact Zz (i:=3) scO.nd rfl (Or.inl rfl) (Zq YL (pv 3) (Zq Xv (pv 6) (pv 5)))
  case a3=>exact Zw (Wo PySem.F.plainAttrs_str PySem.F.slot_str_join PySem.F.type_str_join ZeK ZV (Zc (ZbJ (CompOk.of nO s_l_of_mark rfl rfl (by decide +kernel)) rfl (UF (pv 2)) (fun _ _ _ _ _=>ZA ZaT ZV (pv 7) (fun _ _=>rfl))) Za))
 refine ⟨(by show 1<=sizeLine;decide),fun a ha=>⟨a,8,[.int 1],rfl,rfl,Ze,by decide,by decide,(by show 1 * 8<=sizeLine;decide),fun l hl=>?_⟩⟩
 refine ⟨_,rfl,_,_,rfl,rfl,_,_,rfl,?_⟩
 have s1:=Zl ha (.lst [.int 1])
 have s2:=Zl hl (.lst (List.replicate (Int.toNat 8) [V.int 1]).flatten)
 have hlp:l≠p:=fun e=>by obtain ⟨_,_,_,z,_⟩:=hB.same s1;rw [e,z] at hl;cases hl
 have e0:upd (upd H a (.lst [.int 1])) l (.lst (List.replicate (Int.toNat 8) [V.int 1]).flatten) l=some (.lst ((List.replicate 8 (1:Int)).map V.int)):=Ze
 have B0:=(hB.same s1).same s2
 have k0:Kp p H _:=(s1.trans s2).kp p
 generalize upd (upd H a (.lst [.int 1])) l (.lst (List.replicate (Int.toNat 8) [V.int 1]).flatten)=H0 at *
 refine ⟨2,rfl,by decide,by decide,?_⟩
 refine Xq (fun t σ H'=>∃ y4 y5 y6 ls left,σ=[some (.ref p),some (.int own),some (.ref l),some (.int left),y4,y5,y6]/\ls.length=8/\(∀ z∈ls,(1:Int)<=z/\z<=26)/\0<=left/\left<=1000/\H' l=some (.lst (ls.map V.int))/\BoxAt H' p (m+16 * t)/\Kp p H H')
  ⟨_,_,_,List.replicate 8 1,own - 36,rfl,rfl,fun z hz=>by rw [List.eq_of_mem_replicate hz];decide,by omega,by omega,e0,B0,k0⟩ ?_ ?_
 ·rintro t σ H1 ht ⟨y4,y5,y6,ls,left,rfl,hlen,hls,hl0,hl1,el,B1,k1⟩
  have ht2:t < 2:=ht
  refine ⟨1,rfl,8,0,-1,8,rfl,by decide,by decide,by decide,by decide,?_⟩
  refine Zfr (fun i σ H'=>∃ y5 y6 ls left,σ=[some (.ref p),some (.int own),some (.ref l),some (.int left),some (.int (0+(t:Int))),y5,y6]/\ls.length=8/\(∀ z∈ls,(1:Int)<=z/\z<=26)/\0<=left/\left<=1000/\H' l=some (.lst (ls.map V.int))/\BoxAt H' p (m+16 * t+2 * i)/\Kp p H H')
   ⟨_,_,ls,left,rfl,hlen,hls,hl0,hl1,el,B1,k1⟩ ?_ ?_
  ·rintro i σ H2 hi ⟨y5,y6,ls,left,rfl,hlen,hls,hl0,hl1,el,B2,k2⟩
   generalize hpl:(8:Int)+(i:Int) * -1=pl
   have hpl1:1<=pl/\pl<=8:=by omega
   have hj:(pl - 1).toNat < ls.length:=by omega
   have hzb:=hls ls[(pl - 1).toNat] (List.getElem_mem hj)
   generalize hzi:ls[(pl - 1).toNat]=zi at hzb
   have hat:YA (ls.map V.int) (pl - 1)=some (.int zi):=by
    have z:YA (ls.map V.int) (((pl - 1).toNat:Nat):Int)=some (.int zi):=ZJ (by rw [getElem?_map,getElem?_eq_getElem hj,hzi];rfl)
    rwa [show (((pl - 1).toNat:Nat):Int)=pl - 1 by omega] at z
   have hix:Ww (ls.map V.int).length (pl - 1)=some (pl - 1).toNat:=by
    unfold Ww;rw [if_pos (by omega),if_pos (by rw [length_map,hlen];omega)]
   refine ⟨_,rfl,_,rfl,_,_,rfl,rfl,l,_,_,_,rfl,rfl,SqL.of el,hat,_,_,rfl,rfl,_,rfl,_,rfl,_,_,rfl,rfl,⟨by omega,by omega⟩,_,_,rfl,?_⟩
   have hdiv0:0<=left / pl:=Int.ediv_nonneg hl0 (by omega)
   have hdiv1:left / pl * pl<=left:=Int.ediv_mul_le left (by omega)
   generalize hq:left / pl=dq at *
   generalize hmr:(if dq < 26 - zi then dq else 26 - zi)=more
   have hmore:0<=more/\more<=26 - zi/\more<=dq:=by rw [<- hmr];split<;>omega
   refine pick (p:=p) (tn:=0+(t:Int)) (more:=more) (m:=m+16 * t+2 * i) rfl rfl ?hk B2 (by omega) hmore.1 (by omega) fun σ' more' H3 hσ m0 m1 B3 k3=>?_
   case hk=>rw [<- hmr];rfl
   have hσ':σ'=[some (.ref p),some (.int own),some (.ref l),some (.int left),some (.int (0+(t:Int))),some (.int pl),some (.int more')]:=by
    rcases hσ with ⟨rfl,rfl⟩ | rfl
    ·rw [<- hmr];rfl
    ·rfl
   subst hσ'
   have el3:=k3 l _ hlp el
   have hmp:more' * pl<=left:=Int.le_trans (Int.mul_le_mul_of_nonneg_right (show more'<=dq by omega) (by omega)) hdiv1
   have hmp0:0<=more' * pl:=Int.mul_nonneg m0 (by omega)
   refine ⟨_,rfl,_,rfl,_,_,rfl,rfl,l,_,_,_,rfl,rfl,SqL.of el3,hat,_,rfl,_,_,rfl,rfl,_,rfl,_,rfl,_,_,rfl,rfl,l,_,_,_,rfl,rfl,el3,hix,?_⟩
   refine ⟨_,rfl,_,rfl,_,rfl,_,_,rfl,rfl,.inl ⟨by omega,by omega⟩,_,_,rfl,rfl,?_⟩
   refine ⟨some (.int pl),some (.int more'),ls.set (pl - 1).toNat (zi+more'),left - more' * pl,rfl,by rw [length_set];exact hlen,fun z hz=>?_,by omega,by omega,?_,?_,?_⟩
   ·rcases List.mem_or_eq_of_mem_set hz with h | h
    ·exact hls z h
    ·rw [h];omega
   ·rw [List.map_set];exact Ze
   ·obtain ⟨c1,c2,c3,c4,c5⟩:=B3
    exact ⟨c1,c2,c3,by rw [Zi hlp.symm];exact c4,c5.1,c5.2.1,by have:=c5.2.2;omega⟩
   ·intro b o nb hb
    rw [Zi (fun e=>?_)]
    ·exact k3 b o nb (k2 b o nb hb)
    ·rw [e] at hb
     have hh:=s1 l _ hb
     rw [hh] at hl;cases hl
  ·rintro σ H2 ⟨y5,y6,ls,left,rfl,hlen,hls,hl0,hl1,el,B2,k2⟩
   exact ⟨_,_,_,ls,left,rfl,hlen,hls,hl0,hl1,el,B2.le (by show m+16 * t+2 * 8<=m+16 * (t+1);omega),k2⟩
 ·rintro σ H1 ⟨y4,y5,y6,ls,left,rfl,hlen,hls,hl0,hl1,el,B1,k1⟩
  refine ⟨rfl,_,rfl,l,rfl,⟨_,SqL.of el⟩,fun Dl hD=>?_⟩
  have hne:l≠Dl:=Zn el hD
  refine Zgk (K:=K) (a:=l) (xs:=ls.map V.int) (by rw [length_map,hlen];decide)
   (fun i ys H'=>∃ zs:List Str,ys=zs.map V.str/\zs.length=i/\(∀ z∈zs,∃ c,z=⟨#[c]⟩/\YW c=true)/\H'=upd H1 Dl (.lst ys))
   ⟨[],rfl,rfl,(fun _ h=>nomatch h),rfl⟩ ?_ ?_ ?_
  ·rintro i ys H' ⟨zs,rfl,hz,_,rfl⟩
   exact ⟨by rw [length_map];exact hz,SqL.of (by rw [Zi hne];exact el)⟩
  ·rintro i x ys H' hx ⟨zs,rfl,hz,hall,rfl⟩
   obtain ⟨z,hzm,rfl⟩:=mem_map.mp (mem_of_getElem? hx)
   obtain ⟨c,hc,hlc⟩:=ZjL (hls z hzm).1 (hls z hzm).2
   refine ⟨_,rfl,alf,z,c,rfl,rfl,by rw [Zer];decide,hc,Ze,zs++[⟨#[c]⟩],by rw [map_append];rfl,by rw [length_append,hz];rfl,?_,ZkF⟩
   intro y hy
   rcases mem_append.mp hy with h | h
   ·exact hall y h
   ·rw [mem_singleton.mp h];exact ⟨c,rfl,hlc⟩
  ·rintro ys H' ⟨zs,rfl,hz,hall,rfl⟩
   rw [length_map,hlen] at hz
   have ones:∀ l:List Str,(∀ z∈l,∃ c,z=⟨#[c]⟩/\YW c=true)->(l.map (·.length)).sum=l.length/\(l.flatMap (·.cps.toList)).length=l.length/\(l.flatMap (·.cps.toList)).all YW=true:=by
    intro l
    induction l with
    | nil=>intro _;exact ⟨rfl,rfl,rfl⟩
    | cons z r ih =>
     intro h
     obtain ⟨c,rfl,hc⟩:=h z mem_cons_self
     obtain ⟨g1,g2,g3⟩:=ih fun y hy=>h y (mem_cons_of_mem _ hy)
     refine ⟨?_,?_,?_⟩
     ·rw [map_cons,List.sum_cons,g1,length_cons];show 1+_=_;omega
     ·have e0:((⟨#[c]⟩:Str)::r).flatMap (·.cps.toList)=c::r.flatMap (·.cps.toList):=rfl
      rw [e0,length_cons,length_cons,g2]
     ·rw [List.flatMap_cons,List.all_append,g3];simp [hc]
   obtain ⟨g1,g2,g3⟩:=ones zs hall
   refine ⟨_,Dl,zs,rfl,rfl,SqL.of Ze,?_,q _ _ ?_ ?_ (B1.same (Zl hD _)) (k1.trans ((Zl hD _).kp p))⟩
   ·rw [g1,hz];decide
   ·rw [Xj];show (Txt.join (Str.ofString "") zs).cps.toList.length=8;rw [WC,g2,hz]
   ·show (Txt.join (Str.ofString "") zs).cps.toList.all YW=true;rw [WC];exact g3
end
def InvN (p d:Addr)(m:Nat)(many way step low size first:Int)(H:Hp)(i:Nat)(σ:St)(H':Hp):Prop :=
 ∃ y8 y9 y10 y11 kvs,σ=[some (.ref p),some (.int many),some (.int way),some (.ref d),some (.int step),some (.int low),some (.int size),some (.int first),y8,y9,y10,y11]/\H' d=some (.dK kvs) /\
  (∀ q∈kvs,∃ x,q.1=Sum.inr x/\XA x)/\(kvs.length<=i/\(1<=i->kvs≠[]))/\BoxAt H' p (m+5+40 * i)/\Kp p H H'
theorem InvN.put {p d:Addr}{m:Nat}{many way step low size first:Int}{H H1:Hp}{i:Nat}{kvs:List (Zk×V)}(x:Str)(y8 y9 y10 y11:Option V)(hx:XA x)(hd:H1 d=some (.dK kvs))(hk:∀ q∈kvs,∃ x,q.1=Sum.inr x/\XA x)(hl:kvs.length<=i)
 (hB:BoxAt H1 p (m+5+40 * i+40)) (k:Kp p H H1) (hn:H d=none) (hdp:d≠p) :
 InvN p d m many way step low size first H (i+1) [some (.ref p),some (.int many),some (.int way),some (.ref d),some (.int step),some (.int low),some (.int size),some (.int first),y8,y9,y10,y11] (upd H1 d (.dK (ZQ kvs (Sum.inr x) (.bl true)))):=by
 refine ⟨_,_,_,_,_,rfl,Ze,fun q hq=>?_,⟨Nat.le_trans ZiK (by omega),fun _=>Zks⟩,?_,fun b o nb hb=>?_⟩
 ·rcases ZiL hq with e | ⟨r,hr,e⟩
  ·exact ⟨x,e,hx⟩
  ·obtain ⟨y,e2,hy⟩:=hk r hr
   exact ⟨y,e.trans e2,hy⟩
 ·obtain ⟨c1,c2,c3,c4,c5,c6,c7⟩:=hB
  exact ⟨c1,c2,c3,by rw [Zi hdp.symm];exact c4,c5,c6,by omega⟩
 ·rw [Zi (Zn hb hn)];exact k b o nb hb
def a6:Str:="abcdef"
theorem Zgg:a6.length=6:=by decide +kernel
theorem ZkR:a6.cps.toList.all YW=true:=by decide +kernel
theorem Zdc {α:Type}{xs:List α}{r:Int}(h0:0<=r)(h1:r < (xs.length:Int)):∃ v,YA xs r=some v/\v∈xs:=by
 have hk:r.toNat < xs.length:=by omega
 have z:YA xs ((r.toNat:Nat):Int)=some xs[r.toNat]:=ZJ (getElem?_eq_getElem hk)
 have e:((r.toNat:Nat):Int)=r:=by omega
 rw [e] at z
 exact ⟨_,z,List.getElem_mem hk⟩
theorem ZeX {x:Str}{n:Nat}(hl:x.length=n)(ha:x.cps.toList.all YW=true){r:Int}(h0:0<=r)(h1:r < n):∃ c,YA x.cps.toList r=some c/\YW c=true:=by
 obtain ⟨c,hc,hm⟩:=Zdc (xs:=x.cps.toList) h0 (by rw [<- Xj,hl];exact h1)
 exact ⟨c,hc,all_eq_true.mp ha c hm⟩
theorem Zes {x:Str}{c:Nat}(h:x.cps.toList.all YW=true)(hc:YW c=true):(x++(⟨#[c]⟩:Str)).cps.toList.all YW=true:=by
 rw [ZbV,List.all_append,h]
 show (true&&(YW c&&true))=true
 rw [hc];rfl
def ZmK (σ:List (Option V)):Nat:=match (σ[9]?:Option (Option V)) with
 | some (some (.int m))=>m.toNat
 | _=>0
section
variable {P:Program}{w:World}{K:PySem.W.Frag}{mg:Str->Option Value}{base:Heap}
inductive ZbP  (vs:List V) (H:Hp) (Q:VK) (w_3:XK):Prop
 | mk (p:Addr) (m:Nat) (many:Int):(vs=[.ref p,.int many])->(BoxAt H p m)->(m<=700000)->(0<=many)->(many<=50)->(∀ (l:Addr) (H':Hp) (xs:List Str),H l=none->H' l=some (.lst (xs.map V.str))->xs.length<=50->(1<=many->xs≠[])->(∀ x∈xs,XA x)->BoxAt H' p (m+3000)->Kp p H H'->Q (.ref l) H')->ZbP vs H Q w_3
abbrev nNm:List Str:=["_law_box_here","_law_many","_law_way","_law_found","_law_step","_law_low","_law_size","_law_first","_law_k","_law_number","_law_letters","_law_place"]
theorem scNm:Zx nNm ["_law_box_here","_law_many"] (Zo s_l_names):=⟨rfl,rfl,rfl,by decide +kernel,rfl,by decide +kernel,by decide +kernel⟩
theorem Zir {f:Addr}{fd:FuncData}(F:Fun K "_law_names" "_law_names" s_l_names f fd)(T:Txt K mg)(D1:ZcJ P w K mg base)(DO:Def P w K mg base 2 "_law_of_mark" ["_law_box_here","_law_own"] ZiY):FnOk P w K mg base ZK 3 f fd ["_law_box_here","_law_many"] ZbP:=by
 refine F.ok scNm (fun vs H Q E h=>?_) (fun cdv A outer s H vs Q E hr h=>?_)
 ·obtain ⟨p,m,many,rfl,_⟩:=h;rfl
 obtain ⟨p,m,many,rfl,hB,hm,hm0,hm1,q⟩:=h
 have D:=D1.mono (show 1<=2 by decide)
 refine' ⟨?t,?h,?r⟩
 case h =>
  conv=>arg 2;whnf
  with_reducible refine' Zf ?a1 (Zf ?a2 (Zf ?a3 (Zf (XE ?c0 ?c1 ?c2 ?c3 (Zj (Yf ?i0 (Zf ?b1 (Zf (Vc ?w0 ?w1 (Zf ?w2 (Zj ?w3))) (Zj ?b3))) (Zj (Yf ?i1 (Zf ?e1 (Zf (XE ?d0 ?d1 ?d2 ?d3 (Zj ?d5) ?d4) (Zj ?e3))) (Zj ?g1))))) ?c4) (Zj ?a5))))
  case a1=>exact Xf (i:=2) (j:=3) rfl scNm.nd rfl rfl (by decide) rfl rfl (Zc (Zu D hr (Zc (pv 0) (Zc Zd Za))) (Zc Zau Za)) rfl
  case a2=>exact Xf (i:=4) (j:=5) rfl scNm.nd rfl rfl (by decide) rfl rfl (Zc (ZA ZD (YX (Wx Zd (Wx Zd (Wx Zd (Wx Zd Za rfl) rfl) rfl) rfl)) (Zu D hr (Zc (pv 0) (Zc Zd Za))) (fun _ _=>rfl)) (Zc (Zq ZZ Zd (Zu D hr (Zc (pv 0) (Zc Zd Za)))) Za)) rfl
  case a3=>exact Xf (i:=6) (j:=7) rfl scNm.nd rfl rfl (by decide) rfl rfl (Zc (Zq ZZ Zd (Zu D hr (Zc (pv 0) (Zc Zd Za)))) (Zc (Zu D hr (Zc (pv 0) (Zc Zd Za))) Za)) rfl
  case c0=>exact PassesOwn.never
  case c1=>exact rfl
  case c2=>exact YN rfl T.range (Zc (pv 1) Za)
  case c3=>exact Yh (i:=8) scNm.nd rfl (Or.inl rfl)
  case c4=>exact fun _=>rfl
  case i0=>exact ZF YH (pv 2) Zd (ZI _)
  case b1=>exact Xf (i:=9) (j:=10) rfl scNm.nd rfl rfl (by decide) rfl rfl (Zc (Zq ZZ Zd (Zu D hr (Zc (pv 0) (Zc (Zq ZlC (Zq VA Zd Zd) (Zq Xv Zd (Zu D hr (Zc (pv 0) (Zc Zd Za))))) Za)))) (Zc ZV Za)) rfl
  case w0=>exact PassesOwn.never
  case w1=>exact PW.pt (WX (ZF Zbd (pv 9) Zd (ZI _)) (WI (ZF ZcL (ZE Zdf rfl T.len PySem.boot_len (Zc (pv 10) Za)) Zd (ZI _))))
  case w2=>exact Zz (i:=10) scNm.nd rfl (Or.inl rfl) (Zq Zbc (pv 10) (ZA ZaT ZV (Zq Xu (pv 9) Zd) (fun _ _=>rfl)))
  case w3=>exact Zz (i:=9) scNm.nd rfl (Or.inl rfl) (Zq WH (pv 9) Zd)
  case b3=>exact Wg (XF hr) (pv 3) (pv 10) XG rfl
  case i1=>exact ZF YH (pv 2) Zd (ZI _)
  case e1=>exact Xf (i:=9) (j:=10) rfl scNm.nd rfl rfl (by decide) rfl rfl (Zc (Zq Xu (Zq ZZ (pv 7) (Zq Xv Zd (pv 8))) Zd) (Zc ZV Za)) rfl
  case d0=>exact PassesOwn.never
  case d1=>exact rfl
  case d2=>exact YN rfl T.range (Zc (pv 6) Za)
  case d3=>exact Yh (i:=11) scNm.nd rfl (Or.inl rfl)
  case d4=>exact fun _=>rfl
  case d5=>exact Xf (i:=10) (j:=9) rfl scNm.nd rfl rfl (by decide) rfl rfl (Zc (Zq Zbc (pv 10) (ZA ZaT ZV (Zq Xu (pv 9) Zd) (fun _ _=>rfl))) (Zc (Zq WH (pv 9) Zd) Za)) rfl
  case e3=>exact Wg (XF hr) (pv 3) (pv 10) XG rfl
  case g1=>exact Wg (XF hr) (pv 3) (Zu DO hr (Zc (pv 0) (Zc (Zq ZZ (pv 5) (Zq Xv (pv 4) (Zu D hr (Zc (pv 0) (Zc (Zq ZZ Zd (Zq WH (Zq YL Zd (pv 5)) (pv 4))) Za))))) Za))) XG rfl
  case a5=>exact Zw (ZP (ZbB rfl) rfl T.list (by decide +kernel) (Zc (pv 3) Za))
 refine ⟨_,rfl,p,m,4,rfl,hB,by omega,by decide,by decide,fun way H1 a0 a1 B1 k1=>fun d hd=>⟨_,_,rfl,?_⟩⟩
 have hdp:d≠p:=fun e=>by obtain ⟨_,_,_,z,_⟩:=B1;rw [e,z] at hd;cases hd
 have hdn:H d=none:=by
  cases e:H d with
  | none=>rfl
  | some o=>have:=k1 d o hdp e;rw [this] at hd;cases hd
 have ed1:upd H1 d (.dK []) d=some (.dK []):=Ze
 have Bd:=B1.same (Zl hd (.dK []))
 have kd:Kp p H _:=k1.trans ((Zl hd (.dK [])).kp p)
 generalize upd H1 d (.dK [])=H1' at *
 refine ⟨(by show 4<=sizeLine;decide),fun a ha=>?_⟩
 have hap:a≠p:=fun e=>by obtain ⟨_,_,_,z,_⟩:=Bd;rw [e,z] at ha;cases ha
 refine ⟨_,rfl,p,m+1,4,rfl,Bd.same (Zl ha _),by omega,by decide,by decide,fun r2 H2 b0 b1 B2 k2=>?_⟩
 obtain ⟨v,hv,hmem⟩:=Zdc (xs:=([.int 4,.int 16,.int 64,.int 256]:List V)) b0 b1
 obtain ⟨step,rfl,hs1,hs2⟩:∃ st:Int,v=.int st/\4<=st/\st<=256:=by
  simp only [mem_cons,List.not_mem_nil,or_false] at hmem
  rcases hmem with rfl | rfl | rfl | rfl
  ·exact ⟨4,rfl,by decide,by decide⟩
  ·exact ⟨16,rfl,by decide,by decide⟩
  ·exact ⟨64,rfl,by decide,by decide⟩
  ·exact ⟨256,rfl,by decide,by decide⟩
 refine ⟨a,_,_,_,rfl,rfl,SqL.of (k2 a _ hap Ze),hv,_,rfl,p,m+2,256,rfl,B2,by omega,by decide,by decide,fun r3 H3 c0 c1 B3 k3=>⟨_,_,rfl,rfl,_,_,rfl,?_⟩⟩
 refine ⟨_,rfl,p,m+3,3,rfl,B3,by omega,by decide,by decide,fun r4 H4 d0 d1 B4 k4=>⟨_,_,rfl,rfl,_,rfl,p,m+4,1296,rfl,B4,by omega,by decide,by decide,fun first H5 e0 e1 B5 k5=>⟨_,_,rfl,?_⟩⟩⟩
 have hlow:36<=36+r3/\36+r3<=291:=by omega
 have hsize:3<=3+r4/\3+r4<=5:=by omega
 have K5:Kp p H H5:=((((kd.trans ((Zl ha _).kp p)).trans k2).trans k3).trans k4).trans k5
 have ed5:H5 d=some (.dK []):=k5 d _ hdp (k4 d _ hdp (k3 d _ hdp (k2 d _ hdp (Zl ha _ d _ ed1))))
 refine ⟨_,rfl,many,rfl,by omega,by omega,?_⟩
 refine Xq (InvN p d m many way step (36+r3) (3+r4) first H) ⟨_,_,_,_,[],rfl,ed5,(fun _ h=>nomatch h),⟨Nat.le_refl _,fun z=>absurd z (by decide)⟩,B5.le (by omega),K5⟩ ?_ ?_
 ·rintro i σ H6 hi ⟨y8,y9,y10,y11,kvs,rfl,ed,hk,⟨hl,_⟩,B6,k6⟩
  have hi50:i < 50:=by omega
  have hkl:kvs.length < sizeLine:=Nat.lt_of_le_of_lt (show kvs.length<=50 by omega) (by decide)
  refine ⟨_,rfl,rfl,_,rfl,Yp (fun cw=>?_) (fun cw=>?_)⟩
  ·-- any letters
   refine ⟨_,rfl,_,_,rfl,rfl,⟨by decide,by decide,by decide⟩,_,rfl,p,_,18,rfl,B6,by omega,by decide,by decide,fun r7 H7 f0 f1 B7 k7=>?_⟩
   refine ⟨_,_,rfl,rfl,.inl ⟨by decide,by decide⟩,_,_,rfl,rfl,(by show (0:Int)<=2 * r7;omega),p,_,_,rfl,B7,by omega,?_,?_,fun r8 H8 g0 g1 B8 k8=>⟨_,_,rfl,rfl,_,_,rfl,?_⟩⟩
   ·obtain ⟨k,hk1,hk2⟩:∃ k:Nat,(2 * r7).toNat=k/\k<=34:=⟨_,rfl,by omega⟩
    show (0:Int) < 26 ^ (8:Int).toNat / 2 ^ (2 * r7).toNat
    rw [hk1]
    have h1:(2 ^ k:Nat)<=2 ^ 34:=Nat.pow_le_pow_right (by decide) hk2
    have h2:0 < (2 ^ k:Nat):=Nat.pow_pos (by decide)
    have h3:((2:Int) ^ k)=((2 ^ k:Nat):Int):=by push_cast;rfl
    have h4:(26:Int) ^ (8:Int).toNat=208827064576:=by decide
    rw [h3,h4]
    generalize (2 ^ k:Nat)=z at *
    have:=Int.le_ediv_of_mul_le (show (0:Int) < z by omega) (show 1 * (z:Int)<=208827064576 by omega)
    omega
   ·show (26:Int) ^ (8:Int).toNat / 2 ^ (2 * r7).toNat < 4611686018427387904
    have h4:(26:Int) ^ (8:Int).toNat=208827064576:=by decide
    have h5:(0:Int) < 2 ^ (2 * r7).toNat:=Int.pow_pos (by decide)
    rw [h4]
    have:=Int.ediv_le_self (b:=(2:Int) ^ (2 * r7).toNat) (show (0:Int)<=208827064576 by decide)
    omega
   have ed8:=k8 d _ hdp (k7 d _ hdp ed)
   refine Zjf (fun σ H'=>∃ (nn:Int) (x:Str),σ=[some (.ref p),some (.int many),some (.int way),some (.ref d),some (.int step),some (.int (36+r3)),some (.int (3+r4)),some (.int first),some (.int (0+(i:Int))),some (.int nn),some (.str x),y11]/\H'=H8/\0<=nn/\x.length<=8/\x.cps.toList.all YW=true/\(x.length=0->0 < nn)) (fun σ _=>ZmK σ)
    ⟨1+r8,Str.ofString "",rfl,rfl,by omega,by decide,by decide +kernel,fun _=>by omega⟩ ?_ ?_
   ·rintro σ H9 ⟨nn,x,rfl,rfl,hn0,hx8,hxa,hxn⟩
    have hfin:1<=x.length->InvN p d m many way step (36+r3) (3+r4) first H (i+1) [some (.ref p),some (.int many),some (.int way),some (.ref d),some (.int step),some (.int (36+r3)),some (.int (3+r4)),some (.int first),some (.int (0+(i:Int))),some (.int nn),some (.str x),y11] (upd H9 d (.dK (ZQ kvs (Sum.inr x) (.bl true)))):=fun h1 =>
     InvN.put x _ _ _ _ ⟨h1,hx8,hxa⟩ ed8 hk hl (B8.le (by omega)) ((k6.trans k7).trans k8) hdn hdp
    refine ⟨_,rfl,_,_,rfl,rfl,_,rfl,Yp (fun c1=>?_) (fun c1=>ZR ⟨_,rfl,_,rfl,d,_,rfl,DPut.k (k:=Sum.inr x) ed8 hkl,hfin ?_⟩)⟩
    ·have hpos:0 < nn:=of_decide_eq_true c1
     refine ⟨_,rfl,x,rfl,Zao (by omega),_,_,rfl,rfl,_,rfl,Yp (fun c2=>?_) (fun c2=>⟨_,rfl,_,rfl,d,_,rfl,DPut.k (k:=Sum.inr x) ed8 hkl,hfin ?_⟩)⟩
     ·have hx7:(x.length:Int) < 8:=of_decide_eq_true c2
      obtain ⟨c,hc,hcl⟩:=ZeX Zeq ZjK (r:=nn % 26) (Int.emod_nonneg _ (by decide)) (Int.emod_lt_of_pos _ (by decide))
      refine ⟨_,rfl,_,rfl,_,_,rfl,rfl,(by show (0:Int) < 26;decide),a26,_,c,rfl,rfl,by rw [Zeq];decide,hc,_,_,rfl,rfl,by rw [UD];exact Zao (by omega),?_⟩
      refine ⟨_,rfl,_,_,rfl,rfl,⟨by decide,by decide⟩,⟨nn / 26,x++⟨#[c]⟩,rfl,rfl,Int.ediv_nonneg hn0 (by decide),by rw [WF,UD];omega,Zes hxa hcl,fun z=>by rw [WF,UD] at z;omega⟩,?_⟩
      show (nn / 26).toNat < nn.toNat
      omega
     ·have:¬ ((x.length:Int) < 8):=fun z=>c2 (decide_eq_true z)
      omega
    ·have:¬ (0 < nn):=fun z=>c1 (decide_eq_true z)
     rcases Nat.eq_zero_or_pos x.length with z | z
     ·have:=hxn z;omega
     ·exact z
   ·rintro σ H9 Q1 Q2 hq ⟨v,e,i1,j1,e1,e2,c,e3,h⟩
    refine ⟨v,e,i1,j1,e1,e2,c,e3,?_⟩
    cases c with
    | true =>
     obtain ⟨v2,f1,z,f2,f3,i2,j2,f4,f5,c2,f6,h2⟩:=(show _ from h)
     exact Yx ⟨v2,f1,z,f2,f3,i2,j2,f4,f5,c2,f6,hq _ _ h2⟩
    | false=>exact ZR (hq _ _ (show Q1 false H9 from h))
  ·refine ⟨_,rfl,rfl,_,rfl,Yp (fun cw2=>?_) (fun cw2=>?_)⟩
   ·-- few letters
    refine ⟨_,rfl,_,rfl,_,_,rfl,rfl,.inl ⟨by decide,by decide⟩,_,_,rfl,rfl,_,_,rfl,rfl,(by show (0:Int) < 1296;decide),_,_,rfl,?_⟩
    refine ⟨_,rfl,3+r4,rfl,by omega,by omega,?_⟩
    refine Xq (fun j σ H'=>∃ (nn:Int) (x:Str) (y:Option V),σ=[some (.ref p),some (.int many),some (.int way),some (.ref d),some (.int step),some (.int (36+r3)),some (.int (3+r4)),some (.int first),some (.int (0+(i:Int))),some (.int nn),some (.str x),y]/\H'=H6/\x.length=j/\x.cps.toList.all YW=true)
     ⟨_,Str.ofString "",_,rfl,rfl,by decide,by decide +kernel⟩ ?_ ?_
    ·rintro j σ H7 hj ⟨nn,x,y,rfl,rfl,hxl,hxa⟩
     have hj5:j < 5:=by omega
     obtain ⟨c,hc,hcl⟩:=ZeX Zgg ZkR (r:=nn % 6) (Int.emod_nonneg _ (by decide)) (Int.emod_lt_of_pos _ (by decide))
     refine ⟨_,rfl,_,rfl,_,_,rfl,rfl,(by show (0:Int) < 6;decide),a6,_,c,rfl,rfl,by rw [Zgg];decide,hc,_,_,rfl,rfl,by rw [UD];exact Zao (by omega),?_⟩
     exact ⟨_,rfl,_,_,rfl,rfl,⟨by decide,by decide⟩,_,_,rfl,nn / 6,x++⟨#[c]⟩,_,rfl,rfl,by rw [WF,UD,hxl],Zes hxa hcl⟩
    ·rintro σ H7 ⟨nn,x,y,rfl,rfl,hxl,hxa⟩
     have hx3:3<=x.length/\x.length<=5:=by omega
     exact ⟨_,rfl,_,rfl,d,_,rfl,DPut.k (k:=Sum.inr x) ed hkl,InvN.put x _ _ _ _ ⟨by omega,by omega,hxa⟩ ed hk hl (B6.le (by omega)) k6 hdn hdp⟩
   ·-- of a mark
    have hst:0 < step:=by omega
    have hq0:0<=(936 - (36+r3)) / step:=Int.ediv_nonneg (by omega) (by omega)
    have hq1:(936 - (36+r3)) / step * step<=936 - (36+r3):=Int.ediv_mul_le _ (by omega)
    have hq2:(936 - (36+r3)) / step<=936:=Int.le_trans (Int.ediv_le_self _ (by omega)) (by omega)
    refine ⟨_,rfl,_,rfl,_,rfl,_,rfl,_,rfl,_,rfl,_,_,rfl,rfl,_,rfl,_,_,rfl,rfl,⟨by omega,by omega⟩,_,_,rfl,rfl,p,_,_,rfl,B6,by omega,?_,?_,fun r7 H7 f0 f1 B7 k7=>?_⟩
    ·show (0:Int) < 1+(936 - (36+r3)) / step;omega
    ·show 1+(936 - (36+r3)) / step < 4611686018427387904;omega
    have f1':r7<=(936 - (36+r3)) / step:=by
     have:r7 < 1+(936 - (36+r3)) / step:=f1
     omega
    have hown1:step * r7<=936 - (36+r3):=by
     rw [Int.mul_comm]
     exact Int.le_trans (Int.mul_le_mul_of_nonneg_right f1' (by omega)) hq1
    have hown0:0<=step * r7:=Int.mul_nonneg (by omega) f0
    refine ⟨_,_,rfl,rfl,.inl ⟨by omega,by omega⟩,_,_,rfl,rfl,p,_,_,rfl,B7,by omega,by omega,by omega,fun x H8 hx8 hxa B8 k8=>?_⟩
    have ed8:=k8 d _ hdp (k7 d _ hdp ed)
    exact ⟨d,_,rfl,DPut.k (k:=Sum.inr x) ed8 hkl,InvN.put x _ _ _ _ ⟨by omega,by omega,hxa⟩ ed8 hk hl (B8.le (by omega)) ((k6.trans k7).trans k8) hdn hdp⟩
 ·rintro σ H6 ⟨y8,y9,y10,y11,kvs,rfl,ed,hk,⟨hl,hne⟩,B6,k6⟩
  have hn50:many.toNat<=50:=by omega
  refine ⟨_,rfl,d,kvs,rfl,ed,fun l hl'=>?_⟩
  have keys:∀ kvs:List (Zk×V),(∀ q∈kvs,∃ x,q.1=Sum.inr x/\XA x)->∃ xs:List Str,(kvs.map fun q=>kV q.1)=xs.map V.str/\xs.length=kvs.length/\∀ x∈xs,XA x:=by
   intro kvs
   induction kvs with
   | nil=>intro _;exact ⟨[],rfl,rfl,fun _ h=>nomatch h⟩
   | cons q r ih =>
    intro h
    obtain ⟨x,e,hx⟩:=h q mem_cons_self
    obtain ⟨xs,e1,e2,e3⟩:=ih fun z hz=>h z (mem_cons_of_mem _ hz)
    refine ⟨x::xs,?_,by rw [length_cons,length_cons,e2],fun y hy=>?_⟩
    ·rw [map_cons,map_cons,e1,e];rfl
    ·rcases mem_cons.mp hy with z | z
     ·rw [z];exact hx
     ·exact e3 y z
  obtain ⟨xs,e1,e2,e3⟩:=keys kvs hk
  have hlp:l≠p:=fun z=>by obtain ⟨_,_,_,y,_⟩:=B6;rw [z,y] at hl';cases hl'
  have hlf:H l=none:=by
   cases e:H l with
   | none=>rfl
   | some o=>rw [k6 l o hlp e] at hl';cases hl'
  exact q l _ xs hlf (by rw [<- e1];exact Ze) (by omega) (fun h1 z=>hne (by omega) (by rw [z] at e2;exact List.length_eq_zero_iff.mp e2.symm)) e3 ((B6.same (Zl hl' _)).le (by omega)) (k6.trans ((Zl hl' _).kp p))
end
section
variable {P:Program}{w:World}{K:PySem.W.Frag}{mg:Str->Option Value}{base:Heap}
abbrev vSigns:Str:=Zjq (XL s_l_value)
theorem vs_len:vSigns.length=94:=by decide +kernel
theorem Zmk:vSigns.cps.toList.all sgn=true:=by decide +kernel
abbrev nVv:List Str:=["_law_box_here","_law_way","_law_signs"]
theorem scVal:Zx nVv ["_law_box_here"] (Zo s_l_value):=⟨rfl,rfl,rfl,by decide +kernel,rfl,by decide +kernel,by decide +kernel⟩
theorem Ziu {f:Addr}{fd:FuncData}(F:Fun K "_law_value" "_law_value" s_l_value f fd)(T:Txt K mg)(D:ZcJ P w K mg base):FnOk P w K mg base ZK 2 f fd ["_law_box_here"] ZbR:=by
 refine F.ok scVal (fun vs H Q E h=>?_) (fun cdv A outer s H vs Q E hr h=>?_)
 · obtain ⟨p,n,rfl,_⟩:=h;rfl
 obtain ⟨p,n,rfl,hB,hn,q⟩:=h
 refine ⟨_,Zf (Zz (i:=1) scVal.nd rfl (Or.inl rfl) (Zu D hr (Zc (pv 0) (Zc Zd Za))))
   (Zf (Yf (ZF ZcL (pv 1) Zd (ZI _)) (Zj (Zw (Zq YL (Zu D hr (Zc (pv 0) (Zc Zd Za))) Zd))) ZS)
   (Zf (Yf (ZF YH (pv 1) Zd (ZI _)) (Zj (Zw (ZA ZD (YX (Wx (Zq YL (Zq VA Zd Zd) Zd) (Wx (Zq YL Zd (Zq VA Zd Zd)) (Wx (Zq VA Zd Zd) (Wx Zd Za rfl) rfl) rfl) rfl)) (Zu D hr (Zc (pv 0) (Zc Zd Za))) (fun _ _=>rfl)))) ZS)
   (Zf (Yf (ZF YH (pv 1) Zd (ZI _)) (Zj (Zw (ZA ZD (YX (Wx ZV (Wx ZV (Wx ZV (Wx ZV (Wx ZV (Wx ZV (Wx ZV (Wx ZV Za rfl) rfl) rfl) rfl) rfl) rfl) rfl) rfl)) (Zu D hr (Zc (pv 0) (Zc Zd Za))) (fun _ _=>rfl)))) ZS)
   (Zf (Zz (i:=2) scVal.nd rfl (Or.inr rfl) ZV)
   (Zj (Zw (Wo PySem.F.plainAttrs_str PySem.F.slot_str_join PySem.F.type_str_join ZeK ZV (Zc (ZbJ (CompOk.of nVv s_l_value rfl rfl (by decide +kernel)) rfl
     (YN rfl T.range (Zc (Zu D hr (Zc (pv 0) (Zc (Xb (ZF YH (pv 1) Zd (ZI _)) Zd Zd) Za))) Za))
     (fun _ _ _ _ _=>ZA ZaT (pv 2) (Zu D hr (Zc (pv 0) (Zc (ZE (Zca (K:=K) rfl) rfl T.len PySem.boot_len (Zc (pv 2) Za)) Za))) (fun _ _=>rfl))) Za)))))))),?_⟩
 refine ⟨_,rfl,p,n,6,rfl,hB,by omega,by decide,by decide,fun r1 H1 a0 a1 B1 k1=>?_⟩
 refine ⟨_,rfl,_,_,rfl,rfl,_,rfl,Yp (fun c=>?_) (fun c=>?_)⟩
 · refine ⟨_,rfl,p,n+1,7,rfl,B1,by omega,by decide,by decide,fun r2 H2 b0 b1 B2 k2=>⟨_,_,rfl,rfl,?_⟩⟩
   exact q _ _ (by show (r2 - 3).natAbs < 10 ^ 30;omega) (B2.le (by omega)) (k1.trans k2)
 refine ⟨_,rfl,rfl,_,rfl,Yp (fun c2=>?_) (fun c2=>?_)⟩
 · refine ⟨_,_,rfl,rfl,⟨by decide,by decide,by decide⟩,_,_,rfl,rfl,_,_,rfl,rfl,⟨by decide,by decide,by decide⟩,_,_,rfl,rfl,_,_,rfl,rfl,⟨by decide,by decide,by decide⟩,(by show 4<=sizeLine;decide),fun l hl=>?_⟩
   have hne:l≠p:=fun e=>by obtain ⟨_,_,_,z,_⟩:=B1;rw [e,z] at hl;cases hl
   refine ⟨_,rfl,p,n+1,4,rfl,B1.same (Zl hl _),by omega,by decide,by decide,fun r2 H2 b0 b1 B2 k2=>?_⟩
   obtain ⟨v,hv,hm⟩:=Zby (xs:=([.int (10 ^ (30:Int).toNat - 1),.int (1 - 10 ^ (30:Int).toNat),.int (10 ^ (29:Int).toNat),.int 0]:List V)) b0 b1
   refine ⟨l,_,_,v,rfl,rfl,SqL.of (k2 l _ hne Ze),hv,q _ _ ?_ (B2.le (by omega)) (k1.trans ((Zl hl _).kp p |>.trans k2))⟩
   have all:(([.int (10 ^ (30:Int).toNat - 1),.int (1 - 10 ^ (30:Int).toNat),.int (10 ^ (29:Int).toNat),.int 0]:List V)).all ZfW=true:=by decide +kernel
   exact Zdo (all_eq_true.mp all v hm)
 refine ⟨_,rfl,rfl,_,rfl,Yp (fun c3=>?_) (fun c3=>?_)⟩
 · refine ⟨(by show 8<=sizeLine;decide),fun l hl=>?_⟩
   have hne:l≠p:=fun e=>by obtain ⟨_,_,_,z,_⟩:=B1;rw [e,z] at hl;cases hl
   refine ⟨_,rfl,p,n+1,8,rfl,B1.same (Zl hl _),by omega,by decide,by decide,fun r2 H2 b0 b1 B2 k2=>?_⟩
   obtain ⟨v,hv,hm⟩:=Zby (xs:=([.str "",.str "0",.str "-1",.str "a",.str "none",.str "'",.str "\\", .str " "]:List V)) b0 b1
   refine ⟨l,_,_,v,rfl,rfl,SqL.of (k2 l _ hne Ze),hv,q _ _ ?_ (B2.le (by omega)) (k1.trans ((Zl hl _).kp p |>.trans k2))⟩
   have all:(([.str "",.str "0",.str "-1",.str "a",.str "none",.str "'",.str "\\", .str " "]:List V)).all ZfW=true:=by decide +kernel
   exact Zdo (all_eq_true.mp all v hm)
 refine ⟨rfl,?_⟩
 have fin:∀ (r2:Int) (H2:Hp),0<=r2->r2 < 41->BoxAt H2 p (n+2)->Kp p H1 H2->∃ j:Int,[V.int r2]=[.int j]/\-(2 ^ 62)<=j/\j < 2 ^ 62/\∀ D,H2 D=none->CompW (Itr 0 j.toNat)
     (tOp rIxS (Ut 2) (Zbq (Ua 4611686018427387904) [] E0 (Xm (Ut 0) (Xm (tCB (fun xs H Q=>∃ x n,xs=[x]/\ZhE K x H n/\Q (.int n) H) (Xm (Ut 2) XW)) XW))))
     [some (.ref p),some (.int r1),some (.str vSigns)] D (fun x H3=>∃ sep a ys,V.str ""=.str sep/\[x]=[.ref a]/\SqL K H3 a (ys.map V.str)/\(ys.map (·.length)).sum+ys.length * sep.length<=16777216/\Q (.str (Txt.join sep ys)) H3) H2:=by
   intro r2 H2 b0 b1 B2 k2
   refine ⟨r2,rfl,by omega,by omega,fun Dl hD=>?_⟩
   have hne:Dl≠p:=fun e=>by obtain ⟨_,_,_,z,_⟩:=B2;rw [e,z] at hD;cases hD
   refine ZaG (Nat.le_trans (show r2.toNat<=1000 by omega) (Zao (Nat.le_refl _)))
     (fun i ys H'=>∃ zs:List Str,ys=zs.map V.str/\zs.length=i/\(∀ z∈zs,∃ c,z=⟨#[c]⟩/\sgn c=true)/\H' Dl=some (.lst ys)/\BoxAt H' p (n+2+i)/\Kp p H1 H'/\i<=r2.toNat)
     ⟨[],rfl,rfl,(fun _ h=>nomatch h),Ze,B2.same (Zl hD _),k2.trans ((Zl hD _).kp p),Nat.zero_le _⟩ ?_ ?_ ?_
   · rintro i ys H' ⟨zs,rfl,hz,_⟩;rw [length_map];exact hz
   · rintro i ys H' hi ⟨zs,rfl,hz,hall,hDl,B',k',_⟩
     refine ⟨_,rfl,_,rfl,_,rfl,_,94,rfl,⟨by rw [vs_len];decide,vs_len.symm⟩,p,n+2+i,94,rfl,B',by omega,by decide,by decide,fun r3 H3 d0 d1 B3 k3=>?_⟩
     have hl:vSigns.cps.toList.length=94:=by rw [<- Xj];exact vs_len
     obtain ⟨c,hc,hm⟩:=Zby (xs:=vSigns.cps.toList) d0 (by rw [hl];exact d1)
     refine ⟨vSigns,r3,c,rfl,rfl,(by rw [vs_len];decide),hc,k3 Dl _ hne hDl,zs++[⟨#[c]⟩],by rw [map_append];rfl,by rw [length_append,hz];rfl,?_,Ze,?_,fun b o nb e=>?_,hi⟩
     · intro z hz'
       rcases mem_append.mp hz' with h | h
       · exact hall z h
       · rw [mem_singleton.mp h];exact ⟨c,rfl,all_eq_true.mp Zmk c hm⟩
     · obtain ⟨x1,x2,x3,x4,x5⟩:=B3
       exact ⟨x1,x2,x3,by rw [Zi hne.symm];exact x4,x5⟩
     · rw [Zi (Zn (k2 b o nb e) hD)];exact k3 b o nb (k' b o nb e)
   · rintro ys H' ⟨zs,rfl,hz,hall,hDl,B',k',_⟩
     have ones:∀ l:List Str,(∀ z∈l,∃ c,z=⟨#[c]⟩/\sgn c=true)->(l.map (·.length)).sum=l.length/\(l.flatMap (·.cps.toList)).length=l.length/\(l.flatMap (·.cps.toList)).all sgn=true:=by
       intro l
       induction l with
       | nil=>intro _;exact ⟨rfl,rfl,rfl⟩
       | cons z r ih =>
         intro h
         obtain ⟨c,rfl,hc⟩:=h z mem_cons_self
         obtain ⟨g1,g2,g3⟩:=ih fun y hy=>h y (mem_cons_of_mem _ hy)
         refine ⟨?_,?_,?_⟩
         · rw [map_cons,List.sum_cons,g1,length_cons];show 1+_=_;omega
         · have e0:((⟨#[c]⟩:Str)::r).flatMap (·.cps.toList)=c::r.flatMap (·.cps.toList):=rfl
           rw [e0,length_cons,length_cons,g2]
         · rw [List.flatMap_cons,List.all_append,g3];simp [hc]
     obtain ⟨g1,g2,g3⟩:=ones zs hall
     refine ⟨_,Dl,zs,rfl,rfl,SqL.of hDl,?_,q _ _ ⟨?_,?_⟩ (B'.le (by omega)) (k1.trans k')⟩
     · rw [g1];show _+_ * 0<=_;omega
     · rw [Xj];show (Txt.join (Str.ofString "") zs).cps.toList.length<=40;rw [WC,g2];omega
     · show (Txt.join (Str.ofString "") zs).cps.toList.all sgn=true;rw [WC];exact g3
 refine ⟨_,rfl,_,rfl,rfl,_,rfl,Yp (fun c4=>?_) (fun c4=>?_)⟩
 · exact ⟨p,n+1,4,rfl,B1,by omega,by decide,by decide,fun r2 H2 b0 b1 B2 k2=>by obtain ⟨j,e1,e2,e3,e4⟩:=fin r2 H2 b0 (by omega) B2 k2;exact ⟨j,e1,e2,e3,e4⟩⟩
 · exact ⟨p,n+1,41,rfl,B1,by omega,by decide,by decide,fun r2 H2 b0 b1 B2 k2=>by obtain ⟨j,e1,e2,e3,e4⟩:=fin r2 H2 b0 (by omega) B2 k2;exact ⟨j,e1,e2,e3,e4⟩⟩
end
section
variable {P:Program}{w:World}{K:PySem.W.Frag}{mg:Str->Option Value}{base:Heap}{C Pl:Addr}{NS:List Str}
abbrev Uo:YZ:=Zfh YD XH
inductive Zbn (K:PySem.W.Frag)(C:Addr)(Pl:Addr)(vs:List V)(H:Hp)(Q:VK)(w_3:XK):Prop
 | mk (NS:List Str) (st:Addr) (nds:List Nd) (tabs:List (Zk×V)) (t:Nat) (x:Str) (v:V) (F:Str->Option V) (Δ:Rs):(Yn NS)->(vs=[.ref st,iN t,.str x,v])->(Sep ((st,Xo K C nds tabs)::(Pl,Uo)::Δ) H)->((Zy tabs (Sum.inl (t:Int))).isSome=true)->(Tri NS nds F 5 0 0 t)->(x∈NS)->(ValV v)->((∀ u,F x=some u->ValV u))->(nds.length+6<=100000)->(tabs.length<=100000)->(∀ (H':Hp) (nds':List Nd) (tabs':List (Zk×V)) (t':Nat),Sep ((st,Xo K C nds' tabs')::(Pl,Uo)::Δ) H'->NEx nds nds'->nds'.length<=nds.length+6->tabs'.length<=tabs.length+1->(∀ k,(Zy tabs k).isSome=true->(Zy tabs' k).isSome=true)->(Zy tabs' (Sum.inl (t':Int))).isSome=true->Tri NS nds' (upF F x v) 5 0 0 t'->((F x=some v/\t'=t/\nds'=nds/\tabs'=tabs)\/(F x≠some v/\PutR x v nds 0 t nds' t'/\tabs'=ZQ tabs (Sum.inl (t':Int)) (.bl true)))->Q (iN t') H')->Zbn K C Pl vs H Q w_3
inductive ZcS (K:PySem.W.Frag)(C:Addr)(Pl:Addr)(vs:List V)(H:Hp)(Q:VK)(w_3:XK):Prop
 | mk (NS:List Str) (st:Addr) (nds:List Nd) (tabs:List (Zk×V)) (t:Nat) (x:Str) (F:Str->Option V) (Δ:Rs):(Yn NS)->(vs=[.ref st,iN t,.str x])->(Sep ((st,Xo K C nds tabs)::(Pl,Uo)::Δ) H)->((Zy tabs (Sum.inl (t:Int))).isSome=true)->(Tri NS nds F 5 0 0 t)->(x∈NS)->((∀ u,F x=some u->ValV u))->(nds.length+6<=100000)->(tabs.length<=100000)->(∀ (H':Hp) (nds':List Nd) (tabs':List (Zk×V)) (t':Nat),Sep ((st,Xo K C nds' tabs')::(Pl,Uo)::Δ) H'->NEx nds nds'->nds'.length<=nds.length+6->tabs'.length<=tabs.length+1->(∀ k,(Zy tabs k).isSome=true->(Zy tabs' k).isSome=true)->(Zy tabs' (Sum.inl (t':Int))).isSome=true->Tri NS nds' (Vs F x) 5 0 0 t'->((F x=none/\t'=t/\nds'=nds/\tabs'=tabs)\/(F x≠none/\TakR x nds 0 t nds' t'/\tabs'=ZQ tabs (Sum.inl (t':Int)) (.bl true)))->Q (iN t') H')->ZcS K C Pl vs H Q w_3
theorem ZmF {f:Addr}{fd:FuncData}{k:Nat}{ps:List Str}(h:∀ NS,Yn NS->FnOk P w K mg base ZK k f fd ps (ZfS K C Pl NS)):FnOk P w K mg base ZK k f fd ps (Zbn K C Pl) :=
 (FnOk.ex h).conv fun vs H Q E ⟨NS,st,nds,tabs,t,x,v,F,Δ,N,e,S,h1,h2,h3,h4,h5,h6,h7,q⟩=>by
  obtain ⟨ln,dt,SA,b0,L,back⟩:=S.stoLam
  exact ⟨NS,N,st,ln,dt,nds,tabs,t,x,v,F,e,SA,b0,h1,h2,h3,h4,h5,h6,h7,L,fun H' nds' tabs' t' S' ext len tl mono tok tri rel L' kq tf=>q H' nds' tabs' t' (back H' nds' tabs' S' (ext _ _ b0) L' kq) ext len tl mono tok tri rel⟩
theorem wo_S {f:Addr}{fd:FuncData}{k:Nat}{ps:List Str}(h:∀ NS,Yn NS->FnOk P w K mg base ZK k f fd ps (ZiZ K C Pl NS)):FnOk P w K mg base ZK k f fd ps (ZcS K C Pl) :=
 (FnOk.ex h).conv fun vs H Q E ⟨NS,st,nds,tabs,t,x,F,Δ,N,e,S,h1,h2,h3,h4,h5,h6,q⟩=>by
  obtain ⟨ln,dt,SA,b0,L,back⟩:=S.stoLam
  exact ⟨NS,N,st,ln,dt,nds,tabs,t,x,F,e,SA,b0,h1,h2,h3,h4,h5,h6,L,fun H' nds' tabs' t' S' ext len tl mono tok tri rel L' kq tf=>q H' nds' tabs' t' (back H' nds' tabs' S' (ext _ _ b0) L' kq) ext len tl mono tok tri rel⟩
inductive VN (K:PySem.W.Frag)(C:Addr)(vs:List V)(H:Hp)(Q:VK)(w_3:XK):Prop
 | mk (p dx:Addr) (H0:Hp) (Δ:Rs):(vs=[.ref p])->(H=upd (upd H0 dx (.own p)) p (.ins C dx []))->(H0 p=none)->(H0 dx=none)->(dx≠p)->(Sep Δ H0)->(∀ H',Same H0 H'->Sep ((p,Xo K C [.bare] [(Sum.inl 0,.bl true)])::Δ) H'->Q .non H')->VN K C vs H Q w_3
theorem Zlc {vs:List V}{H:Hp}{Q:VK}{E:XK}(h:VN K C vs H Q E):ZdJ K C vs H Q E:=by
 obtain ⟨p,dx,H0,Δ,e,rfl,h1,h2,h3,S,q⟩:=h
 refine ⟨p,dx,e,Ze,fun ln dt H' hln hdt SA kq=>?_⟩
 have sH:Same H0 (upd (upd H0 dx (.own p)) p (.ins C dx [])):=(Zl h2 _).trans (Zl (by rw [Zi h3.symm];exact h1) _)
 have s0:Same H0 H':=fun b o e=>kq b o (by simp only [mem_singleton];exact Zn e h1) (sH b o e)
 refine q H' s0 ?_
 have n1:=Xt sH hln
 have n2:=Xt sH hdt
 obtain ⟨dx',ob⟩:=SA.ob
 obtain ⟨as,nl,nlen,nod⟩:=SA.nl
 refine ⟨some_of H' [p,ln,dt],WK,⟨rfl,ln,dt,⟨⟨dx',by rw [XO (by simp)];exact ob⟩,⟨as,by rw [XO (by simp)];exact nl,nlen,fun i a n e1 e2=>(nod i a n e1 e2).tf ZeY⟩,by rw [XO (by simp)];exact SA.tb⟩⟩,S.mono fun b o e=>cut_some.mpr ⟨s0 _ _ e,fun u z=>?_⟩⟩
 cases m:YE u with
 | false=>rfl
 | true =>
  have:=Wi z m
  simp only [mem_cons,List.not_mem_nil,or_false] at this
  rcases this with z | z | z
  ·exact absurd z (Zn e h1)
  ·exact absurd z (Zn e n1)
  ·exact absurd z (Zn e n2)
inductive ZdK (K:PySem.W.Frag)(C:Addr)(vs:List V)(H:Hp)(Q:VK)(w_3:XK):Prop
 | mk (st:Addr) (nds:List Nd) (tabs:List (Zk×V)):(vs=[.ref st])->(Xo K C nds tabs st H)->(Q (.int (nds.length:Int)) H)->ZdK K C vs H Q w_3
theorem scMd:Zx ["self"] ["self"] (Zo c_Store_made):=⟨rfl,rfl,rfl,by decide +kernel,rfl,by decide +kernel,by decide +kernel⟩
theorem Zke {f:Addr}{fd:FuncData}(F:Fun K "made" "Store.made" c_Store_made f fd)(T:Txt K mg)(TC:YR K C):FnOk P w K mg base ZK 1 f fd ["self"] (ZdK K C):=by
 refine F.ok scMd (fun vs H Q E h=>?_) (fun cdv A outer s H vs Q E hr h=>?_)
 ·obtain ⟨st,nds,tabs,rfl,_⟩:=h;rfl
 obtain ⟨st,nds,tabs,rfl,⟨b0,ln,dt,⟨⟨dx,ob⟩,⟨as,nl,hl,hn⟩,tb⟩⟩,q⟩:=h
 refine ⟨_,Zj (Zw (ZE ZU rfl T.len PySem.boot_len (Zc (YM (pv 0) rfl) Za))),?_⟩
 refine ⟨_,rfl,st,C,dx,_,_,rfl,ob,TC.cl,TC.nN,Xe ln dt,ln,_,rfl,.inl (SqL.of nl),?_⟩
 rw [length_map,hl];exact q
end
section
variable {P:Program}{w:World}{K:PySem.W.Frag}{mg:Str->Option Value}{base:Heap}{C Pl Pp:Addr}{NS:List Str}
inductive ZbO (K:PySem.W.Frag)(C:Addr)(vs:List V)(H:Hp)(Q:VK)(w_3:XK):Prop
 | mk (NS:List Str) (st:Addr) (nds:List Nd) (tabs:List (Zk×V)) (t:Nat) (x:Str) (F:Str->Option V):(Yn NS)->(vs=[.ref st,iN t,.str x])->(Xo K C nds tabs st H)->((Zy tabs (Sum.inl (t:Int))).isSome=true)->(Tri NS nds F 5 0 0 t)->(x∈NS)->(∀ H',Same H H'->Q ((F x).getD .non) H')->ZbO K C vs H Q w_3
theorem Zlm {f:Addr}{fd:FuncData}{k:Nat}{ps:List Str}(h:FnOk P w K mg base ZK k f fd ps (Wk K C)):FnOk P w K mg base ZK k f fd ps (ZbO K C) :=
 h.conv fun vs H Q E ⟨NS,st,nds,tabs,t,x,F,N,e,⟨b0,ln,dt,S⟩,h1,h2,hx,q⟩=>by
  obtain ⟨ws,z,n,e1,e2,e3,e4,e5⟩:=XX N h2 hx
  exact ⟨st,ln,dt,nds,tabs,t,x,6,ws,z,n,e,S,h1,N.len x hx,N.lo x hx,by decide,e1,e2,e3,e4,fun H' s=>by rw [e5];exact q H' s⟩
inductive Ve  (vs:List V) (H:Hp) (Q:VK) (w_3:XK):Prop
 | mk (p:Addr) (m:Nat) (many:Int) (Δ:Rs):(vs=[.ref p,.int many])->(Sep ((p,Bx m)::Δ) H)->(m<=700000)->(0<=many)->(many<=50)->(∀ (l:Addr) (H':Hp) (xs:List Str),Sep ((l,XJ (xs.map V.str))::(p,Bx (m+3000))::Δ) H'->xs.length<=50->(1<=many->xs≠[])->(∀ x∈xs,XA x)->Q (.ref l) H')->Ve vs H Q w_3
theorem ZjW {vs:List V}{H:Hp}{Q:VK}{E:XK}(h:Ve vs H Q E):ZbP vs H Q E:=by
 obtain ⟨p,m,many,Δ,e,S,h1,h2,h3,q⟩:=h
 refine ⟨p,m,many,e,S.get p,h1,h2,h3,fun l H' xs hl el h4 h5 h6 B k=>q l H' xs ?_ h4 h5 h6⟩
 have hlp:l≠p:=fun z=>by obtain ⟨_,_,_,y,_⟩:=S.get p;rw [z,y] at hl;cases hl
 have k2:Kp p H (but H' l):=fun b o nb e=>by rw [Zgh (Zn e hl)];exact k b o nb e
 have B2:BoxAt (but H' l) p (m+3000):=by
  obtain ⟨x,y,z,e,w⟩:=B
  exact ⟨x,y,z,by rw [Zgh hlp.symm];exact e,w⟩
 exact Sep.made (S.box k2 B2) ZkW ZkV el
inductive UO (K:PySem.W.Frag)(C:Addr)(vs:List V)(H:Hp)(Q:VK)(w_3:XK):Prop
 | mk (st:Addr) (nds:List Nd) (tabs:List (Zk×V)) (t:Nat) (n:Nd):(vs=[.ref st,iN t])->(Xo K C nds tabs st H)->(nds[t]?=some n)->(∀ a,NodeAt K H a n->Q (.ref a) H)->UO K C vs H Q w_3
theorem Zlq {vs:List V}{H:Hp}{Q:VK}{E:XK}(h:UO K C vs H Q E):ZdL K C vs H Q E:=by
 obtain ⟨st,nds,tabs,t,n,e,⟨_,ln,dt,S⟩,hn,q⟩:=h
 exact ⟨st,ln,dt,nds,tabs,t,n,e,S,hn,q⟩
theorem ZdX {nds:List Nd}{m:Int}:∀{f lev num:Nat}{ws:List Nat},Yg nds m f lev num=some ws->ws.length<=f
 | 0,_,_,_,h=>by cases h
 | f + 1,lev,num,ws,h=>by
  unfold Yg at h
  cases e:nds[num]? with
  | none=>rw [e] at h;cases h
  | some n =>
   rw [e] at h
   cases n with
   | bare=>cases h;show 1<=f+1;omega
   | leaf m ps=>cases h;show 1<=f+1;omega
   | fork qs =>
    cases e2:qs[Zv m lev]? with
    | none=>simp [e2] at h
    | some q1 =>
     have h2:(Yg nds m f (lev+1) q1).map (num::·)=some ws:=by simpa [e2] using h
     cases e3:Yg nds m f (lev+1) q1 with
     | none=>rw [e3] at h2;cases h2
     | some w1 =>
      rw [e3] at h2
      cases h2
      have:=ZdX e3
      rw [length_cons];omega
inductive ZdN (K:PySem.W.Frag)(C:Addr)(vs:List V)(H:Hp)(Q:VK)(w_3:XK):Prop
 | mk (NS:List Str) (st:Addr) (nds:List Nd) (tabs:List (Zk×V)) (t:Nat) (x:Str) (F:Str->Option V):(Yn NS)->(vs=[.ref st,iN t,.str x])->(Xo K C nds tabs st H)->((Zy tabs (Sum.inl (t:Int))).isSome=true)->(Tri NS nds F 5 0 0 t)->(x∈NS)->(∀ r H' ws e,H r=none->Same H H'->(ws++[e]).length<=6->Yg nds (Zm x) 6 0 t=some (ws++[e])->H' r=some (.lst ((ws++[e]).map iN))->Q (.ref r) H')->ZdN K C vs H Q w_3
theorem ZmS {vs:List V}{H:Hp}{Q:VK}{E:XK}(h:ZdN K C vs H Q E):Zbp K C vs H Q E:=by
 obtain ⟨NS,st,nds,tabs,t,x,F,N,e,⟨_,ln,dt,S⟩,h1,h2,hx,q⟩:=h
 obtain ⟨ws,z,n,e1,e2,e3,e4,e5⟩:=XX N h2 hx
 exact ⟨st,ln,dt,nds,tabs,t,x,6,_,e,S,h1,N.len x hx,N.lo x hx,by decide,e1,fun r H' hr s el=>q r H' ws z hr s (ZdX e1) e1 el⟩
end
end K13
namespace L2
open PySem PySem.W PySem.Spec PyProof.Rows
section
variable {prog:Program}{w:World}{A:Around}{E:Value->Shared->Prop}{s:Shared}
end
section
variable {prog:Program}{w:World}{A:Around}{R:Result->Shared->Prop}
end
section
variable {prog:Program}{w:World}{A:Around}{E:Value->Shared->Prop}{s:Shared}
end
section
variable {X:Cx}
end
end L2
namespace L2
open PySem PySem.Spec PyProof.Rows
section
variable {X:Cx}{pins:List (Addr×Obj)}{σ:St}{H:Hp}{s:Shared}{d:Addr}{o:Obj}{kvs:List (Zk×V)}
end
section
variable {X:Cx}{tg:Expr}
end
end L2
namespace L2
open PySem PySem.W PySem.Spec PyProof.Rows
section
variable {X:Cx}
end
end L2
namespace L2
open PySem
end L2
namespace L2
open PySem PySem.W PySem.Spec PyProof.Rows
section
variable {X:Cx}
theorem Zff:∀{xs:List V}{us:List Value},xs.length=us.length->(∀(j:Nat) x u,xs[j]?=some x->us[j]?=some u->RelV x u)->Vals xs us
 | [],[],_,_=>.nil
 | [],_::_,e,_=>by cases e
 | _::_,[],e,_=>by cases e
 | x::xs,u::us,e,h=>.cons (h 0 x u rfl rfl) (Zff (by simpa using e) fun j y v e1 e2=>h (j+1) y v e1 e2)
def Wv (lo:Int)(n:Nat):List Int:=(List.range n).map fun (i:Nat)=>lo+(i:Int)
theorem Zec:Ya X (.type "range") (fun xs H Q=>∃ (lo hi:Int),xs=[.int lo,.int hi]/\∀ r,H r=none->Q (.ref r) (upd H r (.rng lo hi))):=by
 intro pins s σ H xs us Q I r h
 obtain ⟨lo,hi,rfl,q⟩:=h
 obtain ⟨u,v,rfl,⟨t,rfl⟩,⟨t',rfl⟩⟩:=ZfX r
 exact call_range_2 ⟨.ref s.heap.objs.size,_,I.laid (t':=s.toks+1) (o:=.rng lo hi) (fun b o e=>Heap.get?_push_of_some _ e) (Nat.le_refl _) ⟨t,t',s.toks,Heap.get?_push_size _ rfl⟩,rfl,q _ (I.hok.fresh (Nat.le_refl _))⟩
theorem ZcG (hc:X.calm=true):Ya X (.type "list") (fun xs H Q=>∃ (r:Addr) (lo hi:Int),xs=[.ref r]/\H r=some (.rng lo hi)/\-(2 ^ 62)<=lo/\lo < 2 ^ 62/\-(2 ^ 62)<=hi/\hi < 2 ^ 62/\hi - lo<=10000 /\
 ∀ (l:Addr),H l=none->Q (.ref l) (upd H l (.lst ((Wv lo (hi - lo).toNat).map V.int)))):=by
 intro pins s σ H xs us Q I r h
 obtain ⟨r0,lo,hi,rfl,er,h1,h2,h3,h4,h5,q⟩:=h
 obtain ⟨u,rfl,ru⟩:=Yk r
 cases ru
 obtain ⟨t,u,v,hg⟩:=(show ObjOk X.prog X.w H s.heap r0 (.rng lo hi) from I.hok r0 _ er)
 refine call_list_range (n:=(hi - lo).toNat) (I.ok.hd hc) (r:=r0) (a:=lo) (b:=hi) (c:=1) (t:=t) (u:=u) (v:=v) hg (small_one h1 h2 h3 h4) (rangeSize_nat _ _) (by omega) fun h' tk acc c' hk ha hI=>?_
 have hv:Vals ((Wv lo (hi - lo).toNat).map V.int) acc.toList:=by
  have h9:acc.toList.length=(hi - lo).toNat:=by rw [Array.length_toList];exact hI.1
  have h8:(Wv lo (hi - lo).toNat).length=(hi - lo).toNat:=by unfold Wv;rw [length_map,length_range]
  refine Zff (by rw [h9,length_map];exact h8) fun j x u e1 e2=>?_
  obtain ⟨t,rfl⟩:=hI.2 j u (by rw [<- Array.getElem?_toList];exact e2)
  unfold Wv at e1
  rw [map_map,getElem?_map] at e1
  cases e3:(List.range (hi - lo).toNat)[j]? with
  | none=>rw [e3] at e1;cases e1
  | some i =>
   rw [e3] at e1
   have hi9:i=j:=by
    have:=List.getElem?_eq_some_iff.mp e3
    obtain ⟨hj,e4⟩:=this
    rw [List.getElem_range] at e4;exact e4.symm
   subst hi9
   cases (show some (V.int (lo+(i:Int)))=some x from e1)
   exact ⟨t,by rw [Int.mul_one]⟩
 refine ⟨.ref s.heap.objs.size,_,I.laid (t':=tk) (h':=h') (o:=.lst ((Wv lo (hi - lo).toNat).map V.int)) hk (Nat.le_refl _) ⟨?_,acc.toList,c',hv,by rw [Array.toArray_toList];exact ha⟩,rfl,q _ (I.hok.fresh (Nat.le_refl _))⟩
 unfold Wv
 rw [length_map,length_map,length_range,sizeLine_eq];omega
end
end L2
namespace K13
open PySem L2
def HeldOk (NS:List Str)(ps:List (Str×V)):Prop:=(ps.map (·.1)).Nodup/\∀ p∈ps,p.1∈NS/\XT p.2
theorem HeldOk.few {NS:List Str}{ps:List (Str×V)}(h:HeldOk NS ps):ps.length<=NS.length:=by
 have:=ZeF h.1 (N:=NS) fun x hx=>by obtain ⟨p,hp,rfl⟩:=mem_map.mp hx;exact (h.2 p hp).1
 rwa [length_map] at this
def mkB:Nat->Int
 | 0=>0
 | i+1=>mkB i+((i:Int)+1) * 26
theorem ZgK {l:List Nat}:∀ i,i<=l.length->l.all YW=true->0<=Wd l i/\Wd l i<=mkB i
 | 0,_,_=>⟨Int.le_refl _,Int.le_refl _⟩
 | i+1,hi,ha=>by
  obtain ⟨h0,h1⟩:=ZgK i (by omega) ha
  have hlj:i < l.length:=hi
  have hc:=all_eq_true.mp ha _ (List.getElem_mem hlj)
  have hg:l.getD i 0=l[i]:=by rw [List.getD_eq_getElem?_getD,getElem?_eq_getElem hlj];rfl
  unfold YW at hc
  simp only [Bool.and_eq_true,decide_eq_true_eq] at hc
  show 0<=Wd l i+((i:Int)+1) * (((l.getD i 0:Nat):Int) - 97+1)/\Wd l i+((i:Int)+1) * (((l.getD i 0:Nat):Int) - 97+1)<=mkB i+((i:Int)+1) * 26
  rw [hg]
  have p0:(0:Int)<=((i:Int)+1) * (((l[i]:Nat):Int) - 97+1):=Int.mul_nonneg (by omega) (by omega)
  have p1:((i:Int)+1) * (((l[i]:Nat):Int) - 97+1)<=((i:Int)+1) * 26:=Int.mul_le_mul_of_nonneg_left (by omega) (by omega)
  omega
theorem Zmv {NS:List Str}(hl:NS.length<=50)(h:∀ x∈NS,XA x):Yn NS:=by
 have b:∀ x∈NS,0<=Zm x/\Zm x < 1024:=fun x hx=>by
  obtain ⟨h1,h8,ha⟩:=h x hx
  obtain ⟨g0,g1⟩:=ZgK (l:=x.cps.toList) x.length (by rw [<- Xj];exact Nat.le_refl _) ha
  have hB:∀ i,i<=8->mkB i < 1024:=by decide
  have:=hB x.length h8
  exact ⟨g0,by show Wd _ _ < _;omega⟩
 exact ⟨by omega,fun x hx=>by have:=(h x hx).2.1;omega,fun x hx=>(b x hx).1,fun x hx=>(b x hx).2⟩
def ScR (K:PySem.W.Frag)(ns:List Int):YZ:=fun a h=>SqL K h a (ns.map V.int)
theorem ZjA {K:PySem.W.Frag}{H H':Hp}{a:Addr}{xs:List V}(h:SqL K H a xs)(s:Same H H'):SqL K H' a xs:=by
 rcases h with (h | ⟨o,h⟩) | h
 ·exact .inl (.inl (s _ _ h))
 ·exact .inl (.inr ⟨o,s _ _ h⟩)
 ·exact .inr h
instance {K:PySem.W.Frag} {ns:List Int}:Up (ScR K ns):=⟨fun h s=>ZjA h s⟩
theorem Zku {H:Hp}{Pl:Addr}{lp:Pos}{q:Str}{Δ:Rs}(hL:LamAt H Pl lp q)(S:Sep Δ (Ug H (some_of H [Pl]))):Sep ((Pl,Zfh lp q)::Δ) H:=by
 refine ⟨some_of H [Pl],WK,?_,S⟩
 have ePl:some_of H [Pl] Pl=H Pl:=XO (by simp)
 rcases hL with z | ⟨c,z1,z2⟩
 ·exact .inl (by rw [ePl];exact z)
 ·exact .inr ⟨c,by rw [ePl];exact z1,UK z2 rfl⟩
theorem ZkU {H:Hp}{Pl b:Addr}{o:HO}(e:H b=some o)(h:b≠Pl):Ug H (some_of H [Pl]) b=some o:=cut_some.mpr ⟨e,fun u z=>by
 cases m:YE u with
 | false=>rfl
 | true=>exact absurd (mem_singleton.mp (Wi z m)) h⟩
theorem Zky {K:PySem.W.Frag}{H:Hp}{Pl a:Addr}{lq:Pos}{r:Str}{xs:List V}(hP:LamAt H Pl lq r)(hS:SqL K H a xs):SqL K (Ug H (some_of H [Pl])) a xs:=by
 obtain ⟨tb,etb⟩:=hP.tbl
 rcases hS.obj with z | ⟨o,e,nt,z⟩
 ·exact z _
 ·refine z _ (ZkU e fun y=>?_)
  rw [y,etb] at e;cases e;exact absurd rfl (nt _)
theorem ZiM {ps:List (Str×V)}{x:Str}{v:V}{p:Str×V}(h:p∈YI ps x v):p=(x,v)\/p∈ps:=by
 unfold YI at h
 split at h
 ·obtain ⟨r,hr,e⟩:=mem_map.mp h
  split at e
  ·rename_i z;rw [<- e,z];exact .inl rfl
  ·rw [<- e];exact .inr hr
 ·rcases mem_append.mp h with h | h
  ·exact .inr h
  ·exact .inl (mem_singleton.mp h)
theorem HeldOk.put {NS:List Str}{ps:List (Str×V)}{x:Str}{v:V}(h:HeldOk NS ps)(hx:x∈NS)(hv:XT v):HeldOk NS (YI ps x v):=by
 refine ⟨?_,fun p hp=>?_⟩
 ·rw [Zcs]
  by_cases z:x∈ps.map (·.1)
  ·rw [if_pos z];exact h.1
  ·rw [if_neg z,List.nodup_append]
   exact ⟨h.1,by simp,fun a ha b hb e=>z (by rw [mem_singleton.mp hb] at e;rw [<- e];exact ha)⟩
 ·rcases ZiM hp with rfl | z
  ·exact ⟨hx,hv⟩
  ·exact h.2 p z
theorem Zmj (ps:List (Str×V))(x:Str)(v:V):upF (lk ps) x v=lk (YI ps x v):=funext fun y=>(ZeQ ps x y v).symm
theorem ZbD {v:V}(h:XT v):ValV v:=by
 cases v<;>first | trivial | exact h.elim
structure WdS (NS:List Str)(nds:List Nd)(tabs:List (Zk×V))(ts:List Nat)(pss:List (List (Str×V))):Prop where
 len:pss.length=ts.length
 each:∀ (i t:Nat) (ps:List (Str×V)),ts[i]?=some t->pss[i]?=some ps->(Zy tabs (Sum.inl (t:Int))).isSome=true/\Tri NS nds (lk ps) 5 0 0 t/\HeldOk NS ps
theorem WdS.more {NS:List Str}{nds nds':List Nd}{tabs tabs':List (Zk×V)}{ts:List Nat}{pss:List (List (Str×V))}(W:WdS NS nds tabs ts pss)(e:NEx nds nds')(ht:∀ k,(Zy tabs k).isSome=true->(Zy tabs' k).isSome=true){t:Nat}{ps:List (Str×V)}(h1:(Zy tabs' (Sum.inl (t:Int))).isSome=true)(h2:Tri NS nds' (lk ps) 5 0 0 t)(h3:HeldOk NS ps):WdS NS nds' tabs' (ts++[t]) (pss++[ps]):=by
 have hl:=W.len
 refine ⟨by rw [length_append,length_append,hl];rfl,fun i t' ps' e1 e2=>?_⟩
 by_cases hi:i < ts.length
 ·rw [getElem?_append_left hi] at e1
  rw [getElem?_append_left (by omega)] at e2
  obtain ⟨g1,g2,g3⟩:=W.each i t' ps' e1 e2
  exact ⟨ht _ g1,Tri.mono 5 g2 e,g3⟩
 ·rw [getElem?_append_right (by omega)] at e1 e2
  have h0:i - ts.length=0:=by
   cases z:i - ts.length with
   | zero=>rfl
   | succ j=>rw [z] at e1;simp at e1
  rw [h0] at e1
  rw [show i - pss.length=0 by omega] at e2
  cases (show some t=some t' from e1)
  cases (show some ps=some ps' from e2)
  exact ⟨h1,h2,h3⟩
theorem WdS.at {NS:List Str}{nds:List Nd}{tabs:List (Zk×V)}{ts:List Nat}{pss:List (List (Str×V))}(W:WdS NS nds tabs ts pss){i:Nat}(hi:i < ts.length):∃ t ps,ts[i]?=some t/\pss[i]?=some ps/\(Zy tabs (Sum.inl (t:Int))).isSome=true/\Tri NS nds (lk ps) 5 0 0 t/\HeldOk NS ps:=by
 have h1:=getElem?_eq_getElem hi
 have h2:=getElem?_eq_getElem (l:=pss) (show i < pss.length by rw [W.len];exact hi)
 exact ⟨_,_,h1,h2,W.each i _ _ h1 h2⟩
theorem tri0 {NS:List Str}{nds:List Nd}(h:nds[0]?=some .bare):Tri NS nds (lk []) 5 0 0 0:=.inl (.inl ⟨rfl,h,fun _ _ _=>rfl⟩)
theorem Zmr {NS:List Str}:HeldOk NS []:=⟨List.nodup_nil,fun _ h=>nomatch h⟩
theorem HeldOk.but {NS:List Str}{ps:List (Str×V)}{x:Str}(h:HeldOk NS ps):HeldOk NS (Yr ps x):=by
 have hs:(Yr ps x).Sublist ps:=List.filter_sublist
 exact ⟨h.1.sublist (hs.map (·.1)),fun p hp=>h.2 p (hs.subset hp)⟩
theorem ZkZ (ps:List (Str×V))(x:Str):Vs (lk ps) x=lk (Yr ps x):=funext fun y=>(Zbz ps x y).symm
theorem ZhO (ps:List (Str×V))(x:Str):UV (ps.map kP) (Sum.inr x)=(Yr ps x).map kP:=by
 unfold UV Yr
 rw [List.filter_map]
 congr 1
 apply List.filter_congr
 intro p _
 show _=!decide (p.1=x)
 by_cases z:p.1=x
 ·simp [kP,z]
 ·simp [kP,z]
theorem ZhI {ps:List (Str×V)}{x:Str}(h:lk ps x=none):Yr ps x=ps:=by
 unfold Yr
 rw [List.filter_eq_self]
 intro p hp
 have:p.1≠x:=fun z=>by
  have h2:∀ {l:List (Str×V)},(∃ p∈l,p.1=x)->lk l x≠none:=by
   intro l
   induction l with
   | nil=>rintro ⟨_,h,_⟩;cases h
   | cons a l ih =>
    rintro ⟨p,hp,e⟩
    rw [WG]
    by_cases z:a.1=x
    ·rw [if_pos z];intro y;cases y
    ·rw [if_neg z]
     rcases mem_cons.mp hp with y | y
     ·rw [y] at e;exact absurd e z
     ·exact ih ⟨p,y,e⟩
  exact h2 ⟨p,hp,z⟩ h
 simp [this]
def Dd (nds:List Nd)(t:Nat)(ps:List (Str×V))(x:Str)(nds':List Nd)(t':Nat)(ps':List (Str×V)):Prop :=
 (∃ v,XT v/\ps'=YI ps x v/\((lk ps x=some v/\t'=t/\nds'=nds)\/(lk ps x≠some v/\PutR x v nds 0 t nds' t'))) \/
 (ps'=Yr ps x/\((lk ps x=none/\t'=t/\nds'=nds)\/(lk ps x≠none/\TakR x nds 0 t nds' t')))
section
variable {P:Program}{w:World}{K:PySem.W.Frag}{mg:Str->Option Value}{base:Heap}{C Pl Pp:Addr}
inductive ZdI (K:PySem.W.Frag)(C:Addr)(Pl:Addr)(vs:List V)(H:Hp)(Q:VK)(w_3:XK):Prop
 | mk (NS:List Str) (p st nl lt ld:Addr) (nds:List Nd) (tabs:List (Zk×V)) (n:Nat) (ts:List Nat) (pss:List (List (Str×V))) (Δ:Rs):(vs=[.ref p,.ref st,.ref nl,.ref lt,.ref ld])->(Yn NS)->((∀ x∈NS,XA x))->(NS.length<=50)->(NS≠[])->(Sep ((p,Bx n)::(st,Xo K C nds tabs)::(Pl,Uo)::(nl,XJ (NS.map V.str))::(lt,XJ (ts.map iN))::(ld,DicL pss)::Δ) H)->(WdS NS nds tabs ts pss)->(1<=ts.length)->(ts.length<=500)->(nds.length<=5000)->(tabs.length<=5000)->(n<=400000)->(∀ (k:Nat) (x:Str) (t t':Nat) (ps ps':List (Str×V)) (nds':List Nd) (tabs':List (Zk×V)) (tp:Addr) (H':Hp),k < ts.length->ts[k]?=some t->pss[k]?=some ps->x∈NS->Dd nds t ps x nds' t' ps'->WdS NS nds' tabs' (ts++[t']) (pss++[ps'])->NEx nds nds'->nds'.length<=nds.length+6->tabs'.length<=tabs.length+1->(∀ k,(Zy tabs k).isSome=true->(Zy tabs' k).isSome=true)->Sep ((tp,Tup [.int (k:Int),.str x])::(p,Bx (n+70))::(st,Xo K C nds' tabs')::(Pl,Uo)::(nl,XJ (NS.map V.str))::(lt,XJ ((ts++[t']).map iN))::(ld,DicL (pss++[ps']))::Δ) H'->Q (.ref tp) H')->ZdI K C Pl vs H Q w_3
abbrev nDe:List Str:=["_law_box_here","_law_store","_law_names_here","_law_tables","_law_dicts","_law_at","_law_more","_law_name","_law_value_here","_law_told"]
abbrev ZiE:List Str:=["_law_box_here","_law_store","_law_names_here","_law_tables","_law_dicts"]
theorem scDe:Zx nDe ZiE (Zo s_l_deed):=⟨rfl,rfl,rfl,by decide +kernel,rfl,by decide +kernel,by decide +kernel⟩
theorem ZjZ {f:Addr}{fd:FuncData}(F:Fun K "_law_deed" "_law_deed" s_l_deed f fd)(T:Wa mg)(TC:YR K C)(DT:DTk P w K mg base 1)(DV:Def P w K mg base 9 "_law_value" ["_law_box_here"] Vf)(DS_put:DefM P w K mg base 9 C "put" ["self","table","name","value"] (Zbn K C Pl))(DS_without:DefM P w K mg base 9 C "without" ["self","table","name"] (ZcS K C Pl)):FnOk P w K mg base ZK 10 f fd ZiE (ZdI K C Pl):=by
 refine F.ok scDe (fun vs H Q E h=>?_) (fun cdv A outer s H vs Q E hr h=>?_)
 ·obtain ⟨NS,p,st,nl,lt,ld,nds,tabs,n,ts,pss,Δ,rfl,_⟩:=h;rfl
 obtain ⟨NS,p,st,nl,lt,ld,nds,tabs,n,ts,pss,Δ,rfl,N,hN,hNl,hNe,S,W,hts,hts2,hnd,htb,hn,q⟩:=h
 have hr1:=hr.mono (show 1<=9 by decide)
 have hr2:=hr
 refine' ⟨?t,?h,?r⟩
 case h =>
  conv=>arg 2;whnf
  with_reducible refine' (Zf ?h1 (Zf ?h2 (Zf (Yf ?h3 (Zf ?h4 (Zf ?h5 (Zj ?h6))) (Zf ?h7 (Zj ?h8))) (Zf ?h9 (Zf ?h10 (Zj ?h11))))))
  case h1 =>
   refine Zz (i:=5) scDe.nd rfl (Or.inl rfl) (PE.conv (te':=tAt 0 3) (Xb (ZF Zbd (Zu DT hr1 (Zc (pv 0) (Zc Zd Za))) Zd (ZI _)) (Zq YL (ZE ZU rfl T.len PySem.boot_len (Zc (pv 3) Za)) Zd) (Zu DT hr1 (Zc (pv 0) (Zc (ZE ZU rfl T.len PySem.boot_len (Zc (pv 3) Za)) Za)))) ?_)
   rintro σ H Q ⟨p,lt,n,xs,Δ,e1,e2,S,hn,hx,hl,q⟩
   refine ⟨_,e1,p,n,3,_,rfl,S,by omega,by decide,by decide,fun r H1 a0 a1 S1=>⟨_,_,rfl,rfl,_,rfl,Yp (fun c=>?_) (fun c=>?_)⟩⟩
   ·refine ⟨_,e2,lt,_,rfl,.inl (SqL.of (S1.get lt)),_,_,rfl,rfl,?_⟩
    show Q (.int (((xs.length:Nat):Int) - 1)) H1
    rw [show ((xs.length:Nat):Int) - 1=((xs.length - 1:Nat):Int) by omega]
    exact q _ _ (by omega) (S1.le (by omega))
   ·refine ⟨_,e1,_,e2,lt,_,rfl,.inl (SqL.of (S1.get lt)),p,_,_,_,rfl,S1,by omega,by omega,by omega,fun r2 H2 b0 b1 S2=>?_⟩
    obtain ⟨k,rfl⟩:∃ k:Nat,r2=(k:Int):=⟨r2.toNat,by omega⟩
    exact q k _ (by omega) S2
  case h2=>exact Xf (i:=6) (j:=7) rfl scDe.nd rfl rfl (by decide) rfl rfl (Zc (ZP ZbA rfl T.dict (by decide +kernel) (Zc (ZA ZD (pv 4) (pv 5) (fun _ _=>rfl)) Za)) (Zc (ZA ZD (pv 2) (Zu DT hr1 (Zc (pv 0) (Zc (ZE ZU rfl T.len PySem.boot_len (Zc (pv 2) Za)) Za))) (fun _ _=>rfl)) Za)) rfl
  case h3=>exact ZF Zbd (Zu DT hr1 (Zc (pv 0) (Zc Zd Za))) Zd (ZI _)
  case h4 =>
   refine Zz (i:=8) scDe.nd rfl (Or.inl rfl) (PE.conv (te':=tVal 0 6 7 2) (Xb (PW.pt (WX (Zbh (ZlD (XF hr) (pv 7) (pv 6))) (WI (ZF YH (Zu DT hr1 (Zc (pv 0) (Zc Zd Za))) Zd (ZI _))))) (Zkn (XF hr) (pv 6) (pv 7) (fun _ _=>rfl)) (Zu DV hr2 (Zc (pv 0) Za))) ?_)
   rintro σ H Q ⟨p,d,nl,n,x,ps,NS,Δ,e1,e2,e3,e4,S,hn,hl,hN,hv,q⟩
   have ed:=S.get d
   have val:∀ v,Zy (ps.map kP) (Sum.inr x)=some v->XT v:=fun v e=>by
    unfold Zy at e
    cases ef:(ps.map kP).find? fun q=>decide (q.1=Sum.inr x) with
    | none=>rw [ef] at e;cases e
    | some q =>
     rw [ef] at e;cases e
     obtain ⟨r,hr,e5⟩:=mem_map.mp (List.mem_of_find?_eq_some ef)
     rw [<- e5];exact hv r hr
   have other:∀ m H1,m<=n+1->Sep ((p,Bx m)::(nl,XJ (NS.map V.str))::(d,Dic (ps.map kP))::Δ) H1->∀ v H',XT v->Sep ((p,Bx (m+60))::(nl,XJ (NS.map V.str))::(d,Dic (ps.map kP))::Δ) H'->Q v H':=fun m H1 hm _ v H' hv S'=>q v H' hv (S'.le (by omega))
   refine ⟨_,e3,_,e2,d,_,rfl,DGet.k (k:=Sum.inr x) ed,_,rfl,Yp (fun c=>?_) (fun c=>?_)⟩
   ·refine ⟨_,e1,p,n,4,_,rfl,S,by omega,by decide,by decide,fun r H1 a0 a1 S1=>⟨rfl,_,rfl,Yp (fun c2=>?_) (fun c2=>?_)⟩⟩
    ·obtain ⟨v,ev⟩:=Option.isSome_iff_exists.mp c
     have ed1:=S1.get d
     exact ⟨_,e2,_,e3,d,v,rfl,ev ▸ DGet.k (k:=Sum.inr x) ed1,q v _ (val v ev) (S1.le (by omega))⟩
    ·exact ⟨_,e1,p,_,_,rfl,S1,by omega,fun v H2 hv2 S2=>q v H2 hv2 (S2.le (by omega))⟩
   ·exact ⟨_,e1,p,_,_,rfl,S,by omega,fun v H2 hv2 S2=>q v H2 hv2 (S2.le (by omega))⟩
  case h5=>exact Zz (i:=9) scDe.nd rfl (Or.inl rfl) (YY DS_put TC.cl hr (pv 1) (Zc (ZA ZD (pv 3) (pv 5) (fun _ _=>rfl)) (Zc (pv 7) (Zc (pv 8) Za))))
  case h6=>exact Wg (XF hr) (pv 6) (pv 7) (pv 8) rfl
  case h7=>exact Zz (i:=9) scDe.nd rfl (Or.inl rfl) (YY DS_without TC.cl hr (pv 1) (Zc (ZA ZD (pv 3) (pv 5) (fun _ _=>rfl)) (Zc (pv 7) Za)))
  case h8=>exact YJ (Ziy (pv 6) (pv 7) ZlF ⟨rfl,rfl,rfl,rfl⟩)
  case h9=>exact YJ (Wo PySem.F.plainAttrs_list PySem.F.slot_list_append PySem.F.type_list_append Xs (pv 3) (Zc (pv 9) Za))
  case h10=>exact YJ (Wo PySem.F.plainAttrs_list PySem.F.slot_list_append PySem.F.type_list_append Xs (pv 4) (Zc (pv 6) Za))
  case h11=>exact Zw (Zbe (Zc (pv 5) (Zc (pv 7) Za)))
 try dsimp only [Yo,Cx.nox]
 refine zs6 ?_
 intro zD zS zN5 zN4 zN3 zN2 zN1
 refine ⟨p,lt,n,ts.map iN,_,rfl,rfl,(S.pull lt).pull p,by omega,by rw [length_map];omega,by rw [length_map];omega,fun k H1 hk S1=>?_⟩
 rw [length_map] at hk
 obtain ⟨t,ps,et,eps,htab,htri,hok⟩:=W.at hk
 obtain ⟨ds,d,eld,hdl,ed,edk⟩:=DicL.at (S1.get ld) eps
 refine ⟨_,rfl,_,rfl,ld,_,_,_,rfl,rfl,SqL.of eld,ZJ (by rw [getElem?_map,ed];rfl),d,_,rfl,edk,fun hd hhd=>?_⟩
 generalize hE:upd H1 hd _=H2
 have S2:=S1.newE hhd hE
 clear hE
 refine ⟨_,rfl,_,rfl,_,rfl,nl,_,rfl,.inl (SqL.of (S2.get nl)),p,_,_,_,rfl,S2.pull p,by omega,by rw [length_map];have:=List.length_pos_iff.mpr hNe;omega,by rw [length_map];omega,fun r2 H3 b1 b2 S3=>?_⟩
 rw [length_map] at b2
 obtain ⟨x,hx,hat⟩:=Zln (f:=V.str) b1 b2
 refine ⟨nl,_,_,_,rfl,rfl,SqL.of (S3.get nl),hat,_,_,rfl,?_⟩
 refine ⟨_,rfl,p,_,4,_,rfl,S3.pull p,by omega,by decide,by decide,fun r3 H4 c1 c2 S4=>⟨_,_,rfl,rfl,_,rfl,Yp (fun c=>?_) (fun c=>?_)⟩⟩
 ·refine ⟨p,hd,nl,_,x,ps,NS,_,rfl,rfl,rfl,rfl,((S4.pull hd).pull nl).pull p,by omega,hNl,hN,fun z hz=>(hok.2 z hz).2,fun v H5 hv S5=>?_⟩
  obtain ⟨_,ln6,dt6,SA6⟩:=S5.get st
  obtain ⟨dx6,ob6⟩:=SA6.ob
  refine ⟨_,rfl,st,dx6,_,rfl,ob6,ZN ln6 dt6 (by decide +kernel) (by decide +kernel),_,rfl,_,rfl,lt,_,_,_,rfl,rfl,SqL.of (S5.get lt),ZJ (by rw [getElem?_map,et];rfl),_,rfl,_,rfl,?_⟩
  refine ⟨NS,st,nds,tabs,t,x,v,lk ps,_,N,rfl,(S5.pull Pl).pull st,htab,htri,hx,ZbD hv,(fun u hu=>ZbD (hok.2 _ ((WR hok.1).mp hu)).2),by omega,by omega,fun H6 nds' tabs' t' S6 ext len tl mono tok tri rel=>?_⟩
  refine ⟨_,rfl,_,rfl,_,rfl,hd,_,rfl,DPut.k (k:=Sum.inr x) (S6.get hd) (XU (show _<=1000 by rw [length_map];have:=hok.few;omega)),?_⟩
  generalize hE:upd H6 hd _=H7
  have S7:=S6.putE hE
  clear hE
  rw [show ZQ (ps.map kP) (Sum.inr x) v=(YI ps x v).map kP from Zav ps x v] at S7
  rw [Zmj] at tri
  have hok2:=hok.put hx hv
  have W2:=W.more ext mono tok tri hok2
  have dd:Dd nds t ps x nds' t' (YI ps x v):=.inl ⟨v,hv,rfl,by
   rcases rel with ⟨a,b,c,_⟩ | ⟨a,b,_⟩
   ·exact .inl ⟨a,b,c⟩
   ·exact .inr ⟨a,b⟩⟩
  generalize YI ps x v=ps2 at *
  obtain ⟨ds2,eld2,hdl2,_⟩:=S7.get ld
  refine ⟨_,rfl,.inl ⟨rfl,_,SqL.of (S7.get lt)⟩,_,rfl,lt,_,_,rfl,rfl,S7.get lt,XU (show _<=1000 by rw [length_map];omega),?_⟩
  generalize hE:upd H7 lt _=H8
  have S8:=S7.putE hE
  clear hE
  rw [show ts.map iN++[iN t']=(ts++[t']).map iN by rw [map_append];rfl] at S8
  obtain ⟨ds3,eld3,hdl3,_⟩:=S8.get ld
  refine ⟨_,rfl,.inl ⟨rfl,_,SqL.of eld3⟩,_,rfl,ld,_,_,rfl,rfl,eld3,XU (show _<=1000 by rw [length_map,hdl3,W.len];omega),?_⟩
  have S9:=((S8.pull hd).pull ld).dicApp eld3
  generalize upd H8 ld _=H9 at *
  refine ⟨_,rfl,_,rfl,(by show 2<=sizeLine;decide),fun tp htp=>?_⟩
  generalize hE:upd H9 tp _=H10
  have S10:=S9.newE htp hE
  clear hE
  exact q k x t t' ps _ nds' tabs' tp H10 hk et eps hx dd W2 ext len tl mono ((((((((S10.pull ld).pull lt).pull nl).pull Pl).pull st).pull p).le (by omega)).pull tp)
 ·obtain ⟨_,ln6,dt6,SA6⟩:=S4.get st
  obtain ⟨dx6,ob6⟩:=SA6.ob
  refine ⟨_,rfl,st,dx6,_,rfl,ob6,ZN ln6 dt6 (by decide +kernel) (by decide +kernel),_,rfl,_,rfl,lt,_,_,_,rfl,rfl,SqL.of (S4.get lt),ZJ (by rw [getElem?_map,et];rfl),_,rfl,?_⟩
  refine ⟨NS,st,nds,tabs,t,x,lk ps,_,N,rfl,(S4.pull Pl).pull st,htab,htri,hx,(fun u hu=>ZbD (hok.2 _ ((WR hok.1).mp hu)).2),by omega,by omega,fun H6 nds' tabs' t' S6 ext len tl mono tok tri rel=>?_⟩
  rw [ZkZ] at tri
  have hok2:=hok.but (x:=x)
  have W2:=W.more ext mono tok tri hok2
  have dd:Dd nds t ps x nds' t' (Yr ps x):=.inr ⟨rfl,by
   rcases rel with ⟨a,b,c,_⟩ | ⟨a,b,_⟩
   ·exact .inl ⟨a,b,c⟩
   ·exact .inr ⟨a,b⟩⟩
  have e6:=S6.get hd
  refine ⟨_,rfl,hd,rfl,.inl ⟨_,.inl e6⟩,_,rfl,_,Sum.inr x,e6,rfl,fun v ev=>?_,fun ev=>?_⟩
  ·generalize hE:upd H6 hd _=H7
   have S7:=S6.putE hE
   clear hE
   rw [ZhO] at S7
   generalize Yr ps x=ps2 at *
   obtain ⟨ds2,eld2,hdl2,_⟩:=S7.get ld
   refine ⟨_,rfl,.inl ⟨rfl,_,SqL.of (S7.get lt)⟩,_,rfl,lt,_,_,rfl,rfl,S7.get lt,XU (show _<=1000 by rw [length_map];omega),?_⟩
   generalize hE:upd H7 lt _=H8
   have S8:=S7.putE hE
   clear hE
   rw [show ts.map iN++[iN t']=(ts++[t']).map iN by rw [map_append];rfl] at S8
   obtain ⟨ds3,eld3,hdl3,_⟩:=S8.get ld
   refine ⟨_,rfl,.inl ⟨rfl,_,SqL.of eld3⟩,_,rfl,ld,_,_,rfl,rfl,eld3,XU (show _<=1000 by rw [length_map,hdl3,W.len];omega),?_⟩
   have S9:=((S8.pull hd).pull ld).dicApp eld3
   generalize upd H8 ld _=H9 at *
   refine ⟨_,rfl,_,rfl,(by show 2<=sizeLine;decide),fun tp htp=>?_⟩
   generalize hE:upd H9 tp _=H10
   have S10:=S9.newE htp hE
   clear hE
   exact q k x t t' ps _ nds' tabs' tp H10 hk et eps hx dd W2 ext len tl mono ((((((((S10.pull ld).pull lt).pull nl).pull Pl).pull st).pull p).le (by omega)).pull tp)
  ·have S7:=S6
   rw [ZhI (show lk ps x=none from ev)] at hok2 W2 dd
   obtain ⟨ds2,eld2,hdl2,_⟩:=S7.get ld
   refine ⟨_,rfl,.inl ⟨rfl,_,SqL.of (S7.get lt)⟩,_,rfl,lt,_,_,rfl,rfl,S7.get lt,XU (show _<=1000 by rw [length_map];omega),?_⟩
   generalize hE:upd H6 lt _=H8
   have S8:=S7.putE hE
   clear hE
   rw [show ts.map iN++[iN t']=(ts++[t']).map iN by rw [map_append];rfl] at S8
   obtain ⟨ds3,eld3,hdl3,_⟩:=S8.get ld
   refine ⟨_,rfl,.inl ⟨rfl,_,SqL.of eld3⟩,_,rfl,ld,_,_,rfl,rfl,eld3,XU (show _<=1000 by rw [length_map,hdl3,W.len];omega),?_⟩
   have S9:=((S8.pull hd).pull ld).dicApp eld3
   generalize upd H8 ld _=H9 at *
   refine ⟨_,rfl,_,rfl,(by show 2<=sizeLine;decide),fun tp htp=>?_⟩
   generalize hE:upd H9 tp _=H10
   have S10:=S9.newE htp hE
   clear hE
   exact q k x t t' ps _ nds' tabs' tp H10 hk et eps hx dd W2 ext len tl mono ((((((((S10.pull ld).pull lt).pull nl).pull Pl).pull st).pull p).le (by omega)).pull tp)
end
theorem PutR.ext {x:Str}{v:V}{nds nds':List Nd}{lev num num':Nat}(h:PutR x v nds lev num nds' num'):NEx nds nds':=by
 induction h with
 | leaf=>exact NEx.app _ _
 | fork _ _ _ _ _ ih=>exact ih.trans (NEx.app _ _)
theorem TakR.ext {x:Str}{nds nds':List Nd}{lev num num':Nat}(h:TakR x nds lev num nds' num'):NEx nds nds':=by
 induction h with
 | gone=>exact NEx.refl _
 | less=>exact NEx.app _ _
 | up _ _ _ _ _ ih=>exact ih
 | fork _ _ _ _ ih=>exact ih.trans (NEx.app _ _)
inductive Way (nds:List Nd)(m:Int):Nat->Nat->List Nat->Prop
 | stop {lev num:Nat} {n:Nd}:nds[num]?=some n->(∀ qs,n≠.fork qs)->Way nds m lev num [num]
 | go {lev num q:Nat} {qs ws:List Nat}:nds[num]?=some (.fork qs)->qs[Zv m lev]?=some q->Way nds m (lev+1) q ws->Way nds m lev num (num::ws)
theorem Way.mono {nds nds':List Nd}{m:Int}{lev num:Nat}{ws:List Nat}(e:NEx nds nds')(h:Way nds m lev num ws):Way nds' m lev num ws:=by
 induction h with
 | stop h1 h2=>exact .stop (e _ _ h1) h2
 | go h1 h2 _ ih=>exact .go (e _ _ h1) h2 ih
theorem Way.ne {nds:List Nd}{m:Int}{lev num:Nat}{ws:List Nat}(h:Way nds m lev num ws):ws≠[]:=by
 cases h<;>exact List.cons_ne_nil _ _
theorem Way.at {nds:List Nd}{m:Int}{lev num:Nat}{ws:List Nat}{n:Nd}(h:Way nds m lev num ws)(e:nds[num]?=some n)(hn:∀ qs,n≠.fork qs):ws=[num]:=by
 cases h with
 | stop=>rfl
 | go h1=>rw [e] at h1;cases h1;exact absurd rfl (hn _)
theorem Way.fork {nds:List Nd}{m:Int}{lev num q:Nat}{qs ws:List Nat}(h:Way nds m lev num ws)(e:nds[num]?=some (.fork qs))(hq:qs[Zv m lev]?=some q):∃ ws1,ws=num::ws1/\Way nds m (lev+1) q ws1:=by
 cases h with
 | stop h1 h2=>rw [e] at h1;cases h1;exact absurd rfl (h2 _)
 | go h1 h2 h3=>rw [e] at h1;cases h1;rw [hq] at h2;cases h2;exact ⟨_,rfl,h3⟩
theorem ZdY {nds:List Nd}{m:Int}:∀{f lev num:Nat}{ws:List Nat},Yg nds m f lev num=some ws->Way nds m lev num ws
 | 0,_,_,_,h=>by cases h
 | f + 1,lev,num,ws,h=>by
  unfold Yg at h
  cases e:nds[num]? with
  | none=>rw [e] at h;cases h
  | some n =>
   rw [e] at h
   cases n with
   | fork qs =>
    have h':((qs[Zv m lev]?).bind fun q=>(Yg nds m f (lev+1) q).map (num::·))=some ws:=h
    cases e2:qs[Zv m lev]? with
    | none=>rw [e2] at h';cases h'
    | some q =>
     rw [e2] at h'
     have h2:(Yg nds m f (lev+1) q).map (num::·)=some ws:=h'
     cases e3:Yg nds m f (lev+1) q with
     | none=>rw [e3] at h2;cases h2
     | some w1 =>
      rw [e3] at h2
      cases (show some (num::w1)=some ws from h2)
      exact .go e e2 (ZdY e3)
   | bare=>cases (show some [num]=some ws from h);exact .stop e (fun qs z=>by cases z)
   | leaf m' ps=>cases (show some [num]=some ws from h);exact .stop e (fun qs z=>by cases z)
def Us (ps:List Nat)(d:Nat):List Nat:=ps.take d++ps.drop (d+1)
theorem Zim (ps:List Nat)(d v:Nat):Us (ps.set d v) d=Us ps d:=by
 unfold Us
 rw [List.take_set_of_le (Nat.le_refl _),List.drop_set_of_lt (Nat.lt_succ_self _)]
def OffW (nds:List Nd)(s lev:Nat)(m:Int)(ow:List Nat):Prop :=
 nds[s]?=some (.fork ow)\/∃ m' ps,nds[s]?=some (.leaf m' ps)/\ow=if Zv m' lev=Zv m lev then [0,0,0,0] else [0,0,0,0].set (Zv m' lev) s
theorem Zin {num lev:Nat}{m m':Int}{ps:List (Str×V)}:Us (Yj num lev (.leaf m' ps)) (Zv m lev)=Us (if Zv m' lev=Zv m lev then [0,0,0,0] else [0,0,0,0].set (Zv m' lev) num) (Zv m lev):=by
 have h1:=Xp m lev
 have h2:=Xp m' lev
 show Us ([0,1,2,3].map fun g=>if g=Zv m' lev then num else 0) (Zv m lev)=_
 generalize Zv m lev=a at *
 generalize Zv m' lev=b at *
 have ha:a=0\/a=1\/a=2\/a=3:=by omega
 have hb:b=0\/b=1\/b=2\/b=3:=by omega
 rcases ha with rfl | rfl | rfl | rfl<;>rcases hb with rfl | rfl | rfl | rfl<;>rfl
def Md (x:Str)(nds nds':List Nd)(lev num':Nat)(os:List Nat):Prop:=∃(ws:List Nat)(e:Nat)(n:Nd),Way nds' (Zm x) lev num' (ws++[e])/\nds'[e]?=some n/\(∀ qs,n≠.fork qs) /\
 ws++(if n.hasM (Zm x)=true then [e] else [])=(List.range' nds.length (nds'.length - nds.length)).reverse/\nds.length<=nds'.length /\
 ∀ (i w:Nat),ws[i]?=some w->∃ ps s ow,nds'[w]?=some (.fork ps)/\os[min i (os.length - 1)]?=some s/\OffW nds s (lev+i) (Zm x) ow/\Us ps (Zv (Zm x) (lev+i))=Us ow (Zv (Zm x) (lev+i))
theorem ZlS {L k:Nat}(h:L<=k):k::(List.range' L (k - L)).reverse=(List.range' L (k+1 - L)).reverse:=by
 rw [show k+1 - L=(k - L)+1 by omega,List.range'_1_concat,List.reverse_append]
 rw [show L+(k - L)=k by omega];rfl
theorem Md.up {x:Str}{nds nds1:List Nd}{lev num q num1:Nat}{ps fp:List Nat}{ow os os1:List Nat}(M:Md x nds nds1 (lev+1) num1 os1)(hq:fp[Zv (Zm x) lev]?=some q)(hs:os[0]?=some num)(ho:OffW nds num lev (Zm x) ow)(he:Us fp (Zv (Zm x) lev)=Us ow (Zv (Zm x) lev))
 (hos:∀ (i:Nat) (w s:Nat),(∃ ws e,Way nds1 (Zm x) (lev+1) num1 (ws++[e])/\ws[i]?=some w)->os1[min i (os1.length - 1)]?=some s->os[min (i+1) (os.length - 1)]?=some s):Md x nds (nds1++[.fork (fp.set (Zv (Zm x) lev) num1)]) lev nds1.length os:=by
 obtain ⟨ws,e,n,W,hn,hf,hr,hle,hp⟩:=M
 have ex:=NEx.app nds1 (.fork (fp.set (Zv (Zm x) lev) num1))
 have top:(nds1++[Nd.fork (fp.set (Zv (Zm x) lev) num1)])[nds1.length]?=some (.fork (fp.set (Zv (Zm x) lev) num1)):=by rw [getElem?_append_right (Nat.le_refl _),Nat.sub_self];rfl
 refine ⟨nds1.length::ws,e,n,.go top (by rw [getElem?_set_self (List.getElem?_eq_some_iff.mp hq).1]) (W.mono ex),ex _ _ hn,hf,?_,?_,fun i w hw=>?_⟩
 ·rw [List.cons_append,hr,length_append];exact ZlS hle
 ·rw [length_append];exact Nat.le_trans hle (Nat.le_add_right _ _)
 ·cases i with
  | zero =>
   cases (show some nds1.length=some w from hw)
   exact ⟨_,num,ow,top,by rw [Nat.zero_min];exact hs,ho,by rw [Nat.add_zero,Zim];exact he⟩
  | succ i =>
   have hw':ws[i]?=some w:=hw
   obtain ⟨ps,s,ow',h1,h2,h3,h4⟩:=hp i w hw'
   rw [show lev+(i+1)=lev+1+i by omega]
   exact ⟨ps,s,ow',ex _ _ h1,hos i w s ⟨ws,e,W,hw'⟩ h2,h3,h4⟩
theorem ZgJ {os1:List Nat}{num i s:Nat}(hne:os1≠[])(h:os1[min i (os1.length - 1)]?=some s):(num::os1)[min (i+1) ((num::os1).length - 1)]?=some s:=by
 have hl:=List.length_pos_iff.mpr hne
 rw [show min (i+1) ((num::os1).length - 1)=min i (os1.length - 1)+1 by rw [length_cons];omega]
 exact h
theorem PutR.made {x:Str}{v:V}{nds nds':List Nd}{lev num num':Nat}(h0:nds[0]?=some .bare)(h:PutR x v nds lev num nds' num'):∀{os:List Nat},Way nds (Zm x) lev num os->Md x nds nds' lev num' os:=by
 induction h with
 | @leaf lev num n qs hn hc hp hs =>
  intro os _
  have top:(nds++[Nd.leaf (Zm x) qs])[nds.length]?=some (.leaf (Zm x) qs):=by rw [getElem?_append_right (Nat.le_refl _),Nat.sub_self];rfl
  refine ⟨[],nds.length,.leaf (Zm x) qs,.stop top (fun qs z=>by cases z),top,(fun qs z=>by cases z),?_,by rw [length_append];exact Nat.le_add_right _ _,fun i w h=>by simp at h⟩
  have hM:(Nd.leaf (Zm x) qs).hasM (Zm x)=true:=decide_eq_true rfl
  rw [if_pos hM,length_append,show nds.length+[Nd.leaf (Zm x) qs].length - nds.length=1 by simp];rfl
 | @fork nds1 lev num q1 num1 n hn hz hm hq hr ih =>
  intro os hw
  cases n with
  | bare=>simp [Yj] at hq
  | fork qs =>
   obtain ⟨os1,rfl,hw1⟩:=hw.fork hn hq
   exact Md.up (ps:=[]) (ih hw1) hq rfl (.inl hn) rfl fun i w s _ h=>ZgJ hw1.ne h
  | leaf m' ps =>
   have hos:=hw.at hn (fun qs z=>by cases z)
   subst hos
   have hq':q1=num\/q1=0:=by
    have:=mem_of_getElem? hq
    obtain ⟨g,_,e⟩:=mem_map.mp this
    split at e
    ·exact .inl e.symm
    ·exact .inr e.symm
   refine Md.up (ps:=[]) (os1:=[q1]) (ih ?_) hq rfl (.inr ⟨m',ps,hn,rfl⟩) Zin fun i w s hx h=>?_
   ·rcases hq' with z | z
    ·rw [z];exact .stop hn (fun qs z=>by cases z)
    ·rw [z];exact .stop h0 (fun qs z=>by cases z)
   ·rcases hq' with z | z
    ·rw [z] at h
     rw [show min i ([num].length - 1)=0 by simp] at h
     rw [show min (i+1) ([num].length - 1)=0 by simp]
     exact h
    ·obtain ⟨ws,e,W,hwi⟩:=hx
     rw [z] at hr
     cases hr with
     | leaf _ _ _ _ =>
      have:=W.at (n:=.leaf (Zm x) _) (by rw [getElem?_append_right (Nat.le_refl _),Nat.sub_self];rfl) (fun qs z=>by cases z)
      have:ws=[]:=by
       cases ws with
       | nil=>rfl
       | cons a r=>have h9:=congrArg List.length this;simp at h9
      rw [this] at hwi;simp at hwi
     | fork _ h2=>exact absurd rfl h2
theorem TakR.made {NS:List Str}{x:Str}{nds nds':List Nd}{lev num num':Nat}(N:Yn NS)(hx:x∈NS)(h0:nds[0]?=some .bare)(h:TakR x nds lev num nds' num'):∀{d r:Nat}{F:Str->Option V},Tri NS nds F d lev r num->r < 4 ^ lev->YQ x % 4 ^ lev=r->∀{os:List Nat},Way nds (Zm x) lev num os->Md x nds nds' lev num' os:=by
 induction h with
 | @gone lev num ps hn hb =>
  intro d r F _ _ _ os _
  exact ⟨[],0,.bare,.stop h0 (fun qs z=>by cases z),h0,(fun qs z=>by cases z),by rw [Nat.sub_self];rfl,Nat.le_refl _,fun i w h=>by simp at h⟩
 | @less lev num ps qs hn hb hp hs =>
  intro d r F _ _ _ os _
  have top:(nds++[Nd.leaf (Zm x) qs])[nds.length]?=some (.leaf (Zm x) qs):=by rw [getElem?_append_right (Nat.le_refl _),Nat.sub_self];rfl
  refine ⟨[],nds.length,.leaf (Zm x) qs,.stop top (fun qs z=>by cases z),top,(fun qs z=>by cases z),?_,by rw [length_append];exact Nat.le_add_right _ _,fun i w h=>by simp at h⟩
  have hM:(Nd.leaf (Zm x) qs).hasM (Zm x)=true:=decide_eq_true rfl
  rw [if_pos hM,length_append,show nds.length+[Nd.leaf (Zm x) qs].length - nds.length=1 by simp];rfl
 | @up nds1 lev num q1 num1 q qs m ps hn hq hr hf hl ih =>
  intro d r F tri hlt hmod os hw
  obtain ⟨qs',hn',hlen,parts,d',hd'⟩:∃ qs',nds[num]?=some (.fork qs')/\qs'.length=4/\∃ d',(∀ i q,qs'[i]?=some q->Tri NS nds F d' (lev+1) (r+i * 4 ^ lev) q)/\d=d'+1:=by
   cases d with
   | zero =>
    rcases tri with ⟨_,z,_⟩ | ⟨_,_,z,_⟩
    ·rw [hn] at z;cases z
    ·rw [hn] at z;cases z
   | succ d =>
    rcases tri with (⟨_,z,_⟩ | ⟨_,_,z,_⟩) | ⟨qs',h1,h2,h3⟩
    ·rw [hn] at z;cases z
    ·rw [hn] at z;cases z
    ·exact ⟨qs',h1,h2,d,h3,rfl⟩
  rw [hn] at hn'
  cases hn'
  obtain ⟨os1,rfl,hw1⟩:=hw.fork hn hq
  have hmod1:YQ x % 4 ^ (lev+1)=r+Zv (Zm x) lev * 4 ^ lev:=by rw [XN,hmod,YU (N.lo x hx)];rfl
  obtain ⟨ws,e,n,W,hne,hnf,hrg,hle,hp⟩:=ih (d' _ _ hq) (Wu hlt (Xp _ _)) hmod1 hw1
  have hin:q∈qs.set (Zv (Zm x) lev) num1/\q≠0:=by
   have:q∈(qs.set (Zv (Zm x) lev) num1).filter fun p=>!decide (p=0):=by rw [hf];exact mem_cons_self
   obtain ⟨h1,h2⟩:=mem_filter.mp this
   exact ⟨h1,fun z=>by rw [z] at h2;simp at h2⟩
  by_cases hz:num1=0
  ·subst hz
   have hb1:nds1[0]?=some .bare:=hr.ext _ _ h0
   have hW:=W.at hb1 (fun qs z=>by cases z)
   have hws:ws=[]/\e=0:=by
    cases ws with
    | nil=>exact ⟨rfl,by simpa using hW⟩
    | cons a r=>have h9:=congrArg List.length hW;simp at h9
   obtain ⟨rfl,rfl⟩:=hws
   rw [hb1] at hne
   cases hne
   have hlen0:nds1.length - nds.length=0:=by
    have h9:=congrArg List.length hrg
    rw [List.length_reverse,List.length_range'] at h9
    exact h9.symm
   obtain ⟨j,hj⟩:=mem_iff_getElem?.mp hin.1
   have hjd:j≠Zv (Zm x) lev:=fun z=>by
    rw [z,getElem?_set_self (List.getElem?_eq_some_iff.mp hq).1] at hj
    exact hin.2 (Option.some.inj hj).symm
   rw [List.getElem?_set_ne (fun z=>hjd z.symm)] at hj
   have hql:q < nds.length:=by have:=(List.getElem?_eq_some_iff.mp hl).1;omega
   have hlo:nds[q]?=some (.leaf m ps):=by
    have h8:=getElem?_eq_getElem hql
    have h9:=hr.ext _ _ h8
    rw [hl] at h9
    rw [h8];exact h9.symm
   have hmm:m≠Zm x:=fun z=>by
    have tj:=d' j q hj
    have key:∃ m2 ps2,nds[q]?=some (.leaf m2 ps2)/\m2.toNat % 4 ^ (lev+1)=r+j * 4 ^ lev:=by
     have te:TriE NS nds F (lev+1) (r+j * 4 ^ lev) q:=by
      cases parts with
      | zero=>exact tj
      | succ p =>
       rcases tj with tj | ⟨_,z2,_⟩
       ·exact tj
       ·rw [hlo] at z2;cases z2
     rcases te with ⟨_,z2,_⟩ | ⟨m2,ps2,z2,_,z3,_⟩
     ·rw [hlo] at z2;cases z2
     ·exact ⟨m2,ps2,z2,z3⟩
    obtain ⟨m2,ps2,z2,z3⟩:=key
    rw [hlo] at z2
    cases z2
    rw [z] at z3
    have z4:YQ x % 4 ^ (lev+1)=r+j * 4 ^ lev:=z3
    rw [hmod1] at z4
    have hp4:0 < 4 ^ lev:=Nat.pow_pos (by decide)
    have:Zv (Zm x) lev * 4 ^ lev=j * 4 ^ lev:=by omega
    exact hjd (Nat.eq_of_mul_eq_mul_right hp4 this).symm
   refine ⟨[],q,.leaf m ps,.stop hl (fun qs z=>by cases z),hl,(fun qs z=>by cases z),?_,hle,fun i w h=>by simp at h⟩
   have hM:¬ (Nd.leaf m ps).hasM (Zm x)=true:=fun z=>hmm (of_decide_eq_true z)
   rw [if_neg hM,hlen0];rfl
  ·have hmem:num1∈(qs.set (Zv (Zm x) lev) num1).filter fun p=>!decide (p=0):=by
    rw [mem_filter]
    refine ⟨mem_of_getElem? (getElem?_set_self (List.getElem?_eq_some_iff.mp hq).1),by simp [hz]⟩
   rw [hf] at hmem
   have hqn:num1=q:=mem_singleton.mp hmem
   subst hqn
   have hW:=W.at hl (fun qs z=>by cases z)
   have hws:ws=[]/\e=num1:=by
    cases ws with
    | nil=>exact ⟨rfl,by simpa using hW⟩
    | cons a r=>have h9:=congrArg List.length hW;simp at h9
   obtain ⟨rfl,rfl⟩:=hws
   exact ⟨[],e,n,.stop hne hnf,hne,hnf,hrg,hle,fun i w h=>by simp at h⟩
 | @fork nds1 lev num q1 num1 qs hn hq hr hf ih =>
  intro d r F tri hlt hmod os hw
  obtain ⟨d',tq⟩:∃ d',Tri NS nds F d' (lev+1) (r+Zv (Zm x) lev * 4 ^ lev) q1:=by
   cases d with
   | zero =>
    rcases tri with ⟨_,z,_⟩ | ⟨_,_,z,_⟩
    ·rw [hn] at z;cases z
    ·rw [hn] at z;cases z
   | succ d =>
    rcases tri with (⟨_,z,_⟩ | ⟨_,_,z,_⟩) | ⟨qs',h1,h2,h3⟩
    ·rw [hn] at z;cases z
    ·rw [hn] at z;cases z
    ·rw [hn] at h1;cases h1;exact ⟨d,h3 _ _ hq⟩
  obtain ⟨os1,rfl,hw1⟩:=hw.fork hn hq
  have hmod1:YQ x % 4 ^ (lev+1)=r+Zv (Zm x) lev * 4 ^ lev:=by rw [XN,hmod,YU (N.lo x hx)];rfl
  exact Md.up (ps:=[]) (ih tq (Wu hlt (Xp _ _)) hmod1 hw1) hq rfl (.inl hn) rfl fun i w s _ h=>ZgJ hw1.ne h
inductive Rch (nds:List Nd):Nat->Nat->Prop
 | refl (a:Nat):Rch nds a a
 | go {a q b:Nat} {qs:List Nat}:nds[a]?=some (.fork qs)->q∈qs->Rch nds q b->Rch nds a b
theorem Rch.mono {nds nds':List Nd}{a b:Nat}(e:NEx nds nds')(h:Rch nds a b):Rch nds' a b:=by
 induction h with
 | refl=>exact .refl _
 | go h1 h2 _ ih=>exact .go (e _ _ h1) h2 ih
theorem Rch.end {nds:List Nd}{a b:Nat}{n:Nd}(h:Rch nds a b)(e:nds[a]?=some n)(hn:∀ qs,n≠.fork qs):b=a:=by
 cases h with
 | refl=>rfl
 | go h1=>rw [e] at h1;cases h1;exact absurd rfl (hn _)
inductive Wf (nds:List Nd):Nat->Prop
 | mk {a:Nat} {n:Nd}:nds[a]?=some n->(∀ qs,n=.fork qs->∀ q∈qs,Wf nds q)->Wf nds a
theorem Wf.lt {nds:List Nd}{a:Nat}(w:Wf nds a):a < nds.length:=by
 cases w with
 | mk h _=>exact (List.getElem?_eq_some_iff.mp h).1
theorem Wf.fork {nds:List Nd}{a q:Nat}{qs:List Nat}(w:Wf nds a)(h:nds[a]?=some (.fork qs))(hq:q∈qs):Wf nds q:=by
 cases w with
 | mk g1 g2=>rw [h] at g1;cases g1;exact g2 _ rfl _ hq
theorem XY {NS:List Str}{nds:List Nd}{F:Str->Option V}:∀{d lev r a:Nat},Tri NS nds F d lev r a->Wf nds a
 | 0,lev,r,a,t=>by rcases t with ⟨_,h,_⟩ | ⟨m,ps,h,_⟩<;>exact .mk h fun qs z=>by cases z
 | d + 1,lev,r,a,t=>by
  rcases t with (⟨_,h,_⟩ | ⟨m,ps,h,_⟩) | ⟨qs,h,_,hq⟩
  ·exact .mk h fun qs z=>by cases z
  ·exact .mk h fun qs z=>by cases z
  ·refine .mk h fun qs' z q hm=>?_
   cases z
   obtain ⟨i,hi⟩:=mem_iff_getElem?.mp hm
   exact XY (hq i q hi)
theorem Wf.back {nds nds2:List Nd}(e:NEx nds nds2){a b:Nat}(h:Rch nds2 a b):Wf nds a->Rch nds a b/\b < nds.length:=by
 induction h with
 | refl a=>intro w;exact ⟨.refl _,w.lt⟩
 | go h1 h2 _ ih =>
  intro w
  cases w with
  | mk g1 g2 =>
   have g3:=e _ _ g1
   rw [h1] at g3
   cases g3
   obtain ⟨r1,r2⟩:=ih (g2 _ rfl _ h2)
   exact ⟨.go g1 h2 r1,r2⟩
theorem ZbH {nds nds':List Nd}(h:NEx nds nds'):nds.length<=nds'.length:=by
 cases e:nds.length with
 | zero=>omega
 | succ n =>
  have hl:n < nds.length:=by omega
  have:=(List.getElem?_eq_some_iff.mp (h n _ (getElem?_eq_getElem hl))).1
  omega
theorem PutR.rch {x:Str}{v:V}{nds nds':List Nd}{lev num num':Nat}(h0:nds[0]?=some .bare)(h:PutR x v nds lev num nds' num'):Wf nds num->∀{nds2:List Nd},NEx nds' nds2->∀ b,b≠0->Rch nds2 num' b->nds.length<=b\/Rch nds num b:=by
 induction h with
 | @leaf lev num n qs hn hc hp hs =>
  intro _ nds2 e b _ hb
  have top:nds2[nds.length]?=some (.leaf (Zm x) qs):=e _ _ (by rw [getElem?_append_right (Nat.le_refl _),Nat.sub_self];rfl)
  rw [hb.end top (fun qs z=>by cases z)]
  exact .inl (Nat.le_refl _)
 | @fork nds1 lev num q1 num1 n hn hz hm hq hr ih =>
  intro w nds2 e b h0b hb
  have e1:NEx nds1 nds2:=(NEx.app _ _).trans e
  have e0:NEx nds nds2:=hr.ext.trans e1
  have part:∀ q∈Yj num lev n,Wf nds q/\∀ b,b≠0->Rch nds q b->Rch nds num b:=fun q hq=>by
   cases n with
   | bare=>simp [Yj] at hq
   | fork qs=>exact ⟨w.fork hn hq,fun b _ h=>.go hn hq h⟩
   | leaf m' ps =>
    obtain ⟨g,_,e9⟩:=mem_map.mp hq
    split at e9
    ·subst e9;exact ⟨w,fun b _ h=>h⟩
    ·subst e9;exact ⟨.mk h0 (fun qs z=>by cases z),fun b hb (h:Rch nds 0 b)=>absurd (h.end h0 (fun qs z=>by cases z)) hb⟩
  have top:nds2[nds1.length]?=some (.fork ((Yj num lev n).set (Zv (Zm x) lev) num1)):=e _ _ (by rw [getElem?_append_right (Nat.le_refl _),Nat.sub_self];rfl)
  have hq9:=part q1 (mem_of_getElem? hq)
  cases hb with
  | refl=>exact .inl (ZbH hr.ext)
  | go g1 g2 g3 =>
   rw [top] at g1;cases g1
   rcases List.mem_or_eq_of_mem_set g2 with y | rfl
   ·obtain ⟨pw,pr⟩:=part _ y
    exact .inr (pr b h0b (Wf.back e0 g3 pw).1)
   ·rcases ih hq9.1 e1 b h0b g3 with z | z
    ·exact .inl z
    ·exact .inr (hq9.2 b h0b z)
theorem TakR.rch {x:Str}{nds nds':List Nd}{lev num num':Nat}(h0:nds[0]?=some .bare)(h:TakR x nds lev num nds' num'):Wf nds num->∀{nds2:List Nd},NEx nds' nds2->∀ b,b≠0->Rch nds2 num' b->nds.length<=b\/Rch nds num b:=by
 induction h with
 | @gone lev num ps hn hb0 =>
  intro _ nds2 e b h0b hb
  exact absurd (hb.end (e _ _ h0) fun qs z=>by cases z) h0b
 | @less lev num ps qs hn hb0 hp hs =>
  intro _ nds2 e b _ hb
  have top:nds2[nds.length]?=some (.leaf (Zm x) qs):=e _ _ (by rw [getElem?_append_right (Nat.le_refl _),Nat.sub_self];rfl)
  rw [hb.end top (fun qs z=>by cases z)]
  exact .inl (Nat.le_refl _)
 | @up nds1 lev num q1 num1 q qs m ps hn hq hr hf hl ih =>
  intro w nds2 e b h0b hb
  have hbq:=hb.end (e _ _ hl) fun qs z=>by cases z
  subst hbq
  have hin:b∈qs.set (Zv (Zm x) lev) num1:=by
   have:b∈(qs.set (Zv (Zm x) lev) num1).filter fun p=>!decide (p=0):=by rw [hf];exact mem_cons_self
   exact (mem_filter.mp this).1
  rcases List.mem_or_eq_of_mem_set hin with y | rfl
  ·exact .inr (.go hn y (.refl _))
  ·rcases ih (w.fork hn (mem_of_getElem? hq)) e b h0b (.refl _) with z | z
   ·exact .inl z
   ·exact .inr (.go hn (mem_of_getElem? hq) z)
 | @fork nds1 lev num q1 num1 qs hn hq hr hf ih =>
  intro w nds2 e b h0b hb
  have e1:NEx nds1 nds2:=(NEx.app _ _).trans e
  have e0:NEx nds nds2:=hr.ext.trans e1
  have top:nds2[nds1.length]?=some (.fork (qs.set (Zv (Zm x) lev) num1)):=e _ _ (by rw [getElem?_append_right (Nat.le_refl _),Nat.sub_self];rfl)
  cases hb with
  | refl=>exact .inl (ZbH hr.ext)
  | go g1 g2 g3 =>
   rw [top] at g1;cases g1
   rcases List.mem_or_eq_of_mem_set g2 with y | rfl
   ·exact .inr (.go hn y (Wf.back e0 g3 (w.fork hn y)).1)
   ·rcases ih (w.fork hn (mem_of_getElem? hq)) e1 b h0b g3 with z | z
    ·exact .inl z
    ·exact .inr (.go hn (mem_of_getElem? hq) z)
theorem Way.rch {nds:List Nd}{m:Int}{lev num:Nat}{ws:List Nat}(W:Way nds m lev num ws):∀ b∈ws,Rch nds num b:=by
 induction W with
 | stop _ _=>intro b hb;rw [mem_singleton.mp hb];exact .refl _
 | go h1 h2 _ ih =>
  intro b hb
  rcases mem_cons.mp hb with rfl | hb
  ·exact .refl _
  ·exact .go h1 (mem_of_getElem? h2) (ih b hb)
structure Zfi (nds nds':List Nd)(x:Str)(t t':Nat):Prop where
 wf:Wf nds t
 old:∀ b,b≠0->Rch nds' t' b->nds.length<=b\/Rch nds t b
 new:∀ b,nds.length<=b->b < nds'.length->∃ ws,Way nds' (Zm x) 0 t' ws/\b∈ws
theorem Zcn {nds:List Nd}{x:Str}{t:Nat}(w:Wf nds t):Zfi nds nds x t t:=⟨w,fun _ _ h=>.inr h,fun b h1 h2=>absurd h2 (by omega)⟩
theorem ZeI {nds nds':List Nd}{x:Str}{t t':Nat}{os:List Nat}(w:Wf nds t)(M:Md x nds nds' 0 t' os)(h:∀ b,b≠0->Rch nds' t' b->nds.length<=b\/Rch nds t b):Zfi nds nds' x t t':=by
 obtain ⟨ws,e,n,W,hn,hf,hr,hle,_⟩:=M
 refine ⟨w,h,fun b h1 h2=>⟨_,W,?_⟩⟩
 have hb:b∈(List.range' nds.length (nds'.length - nds.length)).reverse:=by
  rw [mem_reverse,List.mem_range'_1];omega
 rw [<- hr] at hb
 rcases mem_append.mp hb with z | z
 ·exact mem_append_left _ z
 ·refine mem_append_right _ ?_
  split at z
  ·exact z
  ·exact absurd z (by simp)
theorem VJ:∀{l l':List Nat},l.Pairwise (· < ·)->l'.Pairwise (· < ·)->(∀ b,b∈l↔b∈l')->l=l'
 | [],[],_,_,_=>rfl
 | [],b::r,_,_,m=>absurd ((m b).mpr mem_cons_self) (by simp)
 | a::r,[],_,_,m=>absurd ((m a).mp mem_cons_self) (by simp)
 | a :: r,b::s,h,h',m=>by
  obtain ⟨h1,h2⟩:=pairwise_cons.mp h
  obtain ⟨g1,g2⟩:=pairwise_cons.mp h'
  have ab:a=b:=by
   rcases mem_cons.mp ((m a).mp mem_cons_self) with z | z
   ·exact z
   ·rcases mem_cons.mp ((m b).mpr mem_cons_self) with y | y
    ·exact y.symm
    ·have:=g1 a z
     have:=h1 b y
     omega
  subst ab
  rw [VJ h2 g2 fun c=>⟨fun hc=>?_,fun hc=>?_⟩]
  ·rcases mem_cons.mp ((m c).mp (mem_cons_of_mem _ hc)) with z | z
   ·subst z;exact absurd (h1 _ hc) (Nat.lt_irrefl _)
   ·exact z
  ·rcases mem_cons.mp ((m c).mpr (mem_cons_of_mem _ hc)) with z | z
   ·subst z;exact absurd (g1 _ hc) (Nat.lt_irrefl _)
   ·exact z
def WN (nds:List Nd)(R:List Nat)(b:Nat):Prop:=∃ t∈R,Rch nds t b
theorem rchS1 {nds:List Nd}{t b:Nat}:WN nds [t] b↔Rch nds t b:=⟨fun ⟨_,h,r⟩=>by rw [mem_singleton] at h;rw [<- h];exact r,fun r=>⟨t,mem_singleton.mpr rfl,r⟩⟩
def RchL (nds:List Nd)(R:List Nat)(l:List Nat):Prop:=l.Pairwise (· < ·)/\∀ b,b∈l↔b≠0/\WN nds R b
theorem RchL.eq {nds:List Nd}{R l l':List Nat}(h:RchL nds R l)(g:RchL nds R l'):l=l':=VJ h.1 g.1 fun b=>by rw [h.2 b,g.2 b]
def FrL (nds:List Nd)(o t:Nat)(l:List Nat):Prop:=l.Pairwise (· < ·)/\∀ b,b∈l↔b≠0/\Rch nds t b/\¬ Rch nds o b
theorem RchL.fr {nds:List Nd}{o t:Nat}{lo l:List Nat}(h:RchL nds [o] lo)(g:RchL nds [t] l):FrL nds o t (l.filter fun b=>!decide (b∈lo)):=by
 refine ⟨g.1.sublist List.filter_sublist,fun b=>?_⟩
 rw [mem_filter,g.2 b,rchS1]
 simp only [Bool.not_eq_true',decide_eq_false_iff_not,h.2 b,rchS1]
 exact ⟨fun ⟨⟨a,c⟩,d⟩=>⟨a,c,fun z=>d ⟨a,z⟩⟩,fun ⟨a,c,d⟩=>⟨⟨a,c⟩,fun z=>d z.2⟩⟩
theorem ZhU {nds nds':List Nd}{x:Str}{t t':Nat}{l:List Nat}(M:Zfi nds nds' x t t')(e:NEx nds nds')(hp:0 < nds.length)(w:Wf nds' t')(h:FrL nds' t t' l):l=List.range' nds.length (nds'.length - nds.length):=by
 refine VJ h.1 List.pairwise_lt_range' fun b=>?_
 rw [h.2 b,List.mem_range'_1]
 constructor
 ·rintro ⟨h0,h1,h2⟩
  have hlt:=(Wf.back (NEx.refl nds') h1 w).2
  rcases M.old b h0 h1 with z | z
  ·omega
  ·exact absurd (z.mono e) h2
 ·rintro ⟨h1,h2⟩
  have hl:=ZbH e
  obtain ⟨ws,W,hb⟩:=M.new b h1 (by omega)
  refine ⟨by omega,W.rch b hb,fun z=>?_⟩
  have:=(Wf.back e z M.wf).2
  omega
theorem Zil {l L:List Nat}(h:l.Nodup)(s:∀ b∈l,b∈L):l.length<=L.length:=by
 induction l generalizing L with
 | nil=>exact Nat.zero_le _
 | cons a r ih =>
  obtain ⟨h1,h2⟩:=nodup_cons.mp h
  have ha:=s a mem_cons_self
  have:=ih (L:=L.erase a) h2 fun b hb=>(List.mem_erase_of_ne (fun (z:b=a)=>h1 (by rw [<- z];exact hb))).mpr (s b (mem_cons_of_mem _ hb))
  rw [List.length_erase_of_mem ha] at this
  have hp:=List.length_pos_of_mem ha
  rw [length_cons];omega
theorem ZhT {qs:List Nat}(h:qs.length=4):∃ a b c d,qs=[a,b,c,d]:=by
 match qs,h with
 | [a,b,c,d],_=>exact ⟨a,b,c,d,rfl⟩
section
variable {NS:List Str}{nds:List Nd}{F:Str->Option V}
def Yc (nds:List Nd):Nat->Nat->Nat
 | 0,_=>1
 | d+1,a=>1+(match nds[a]? with | some (.fork qs)=>(qs.map (Yc nds d)).sum | _=>0)
def bsz:Nat->Nat
 | 0=>1
 | d+1=>1+4 * bsz d
theorem ZbG (d a:Nat):1<=Yc nds d a:=by cases d with | zero=>exact Nat.le_refl _ | succ d=>unfold Yc;omega
theorem Zlo:∀{d lev r a:Nat},Tri NS nds F d lev r a->Yc nds d a<=bsz d:=by
 intro d
 induction d with
 | zero=>intro lev r a _;exact Nat.le_refl _
 | succ d ih =>
  intro lev r a t
  unfold Yc bsz
  rcases t with (⟨_,g,_⟩ | ⟨m,ps,g,_⟩) | ⟨qs,g,hl,gq⟩
  ·rw [g];show 1+0<=_;omega
  ·rw [g];show 1+0<=_;omega
  ·obtain ⟨q0,q1,q2,q3,rfl⟩:=ZhT hl
   rw [g]
   have r0:=ih (gq 0 q0 rfl)
   have r1:=ih (gq 1 q1 rfl)
   have r2:=ih (gq 2 q2 rfl)
   have r3:=ih (gq 3 q3 rfl)
   show 1+(Yc nds d q0+(Yc nds d q1+(Yc nds d q2+(Yc nds d q3+0))))<=_
   omega
theorem WS:∀{d f lev r a:Nat},Tri NS nds F d lev r a->d<=f->Yc nds f a=Yc nds d a:=by
 intro d
 induction d with
 | zero =>
  intro f lev r a t _
  cases f with
  | zero=>rfl
  | succ f =>
   unfold Yc
   rcases t with ⟨_,g,_⟩ | ⟨m,ps,g,_⟩<;>rw [g]
   all_goals rfl
 | succ d ih =>
  intro f lev r a t hf
  cases f with
  | zero=>omega
  | succ f =>
   unfold Yc
   rcases t with (⟨_,g,_⟩ | ⟨m,ps,g,_⟩) | ⟨qs,g,hl,gq⟩
   ·rw [g]
   ·rw [g]
   ·obtain ⟨q0,q1,q2,q3,rfl⟩:=ZhT hl
    rw [g]
    show 1+(Yc nds f q0+(Yc nds f q1+(Yc nds f q2+(Yc nds f q3+0))))=1+(Yc nds d q0+(Yc nds d q1+(Yc nds d q2+(Yc nds d q3+0))))
    rw [ih (gq 0 q0 rfl) (by omega),ih (gq 1 q1 rfl) (by omega),ih (gq 2 q2 rfl) (by omega),ih (gq 3 q3 rfl) (by omega)]
theorem ZkD {a b:Nat}(h:Rch nds a b):∀{d lev r:Nat},Tri NS nds F d lev r a->∃ d' lev' r',d'<=d/\Tri NS nds F d' lev' r' b:=by
 induction h with
 | refl=>intro d lev r t;exact ⟨_,_,_,Nat.le_refl _,t⟩
 | go h1 h2 _ ih =>
  intro d lev r t
  cases d with
  | zero=>rcases t with ⟨_,g,_⟩ | ⟨m,ps,g,_⟩<;>· rw [h1] at g;cases g
  | succ d =>
   rcases t with (⟨_,g,_⟩ | ⟨m,ps,g,_⟩) | ⟨qs,g,hl,gq⟩
   ·rw [h1] at g;cases g
   ·rw [h1] at g;cases g
   ·rw [h1] at g;cases g
    obtain ⟨i,hi⟩:=mem_iff_getElem?.mp h2
    obtain ⟨d',l',r',hd,t'⟩:=ih (gq i _ hi)
    exact ⟨d',l',r',by omega,t'⟩
def Yt (nds:List Nd)(l:List Nat):Nat:=(l.map (Yc nds 5)).sum
theorem UC (l r:List Nat):Yt nds (l++r)=Yt nds l+Yt nds r:=by unfold Yt;rw [map_append,List.sum_append]
theorem ZeJ (l:List Nat):l.length<=Yt nds l:=by
 induction l with
 | nil=>exact Nat.zero_le _
 | cons a r ih =>
  have:=ZbG (nds:=nds) 5 a
  show r.length+1<=Yc nds 5 a+Yt nds r
  omega
theorem Zig {t a:Nat}{qs:List Nat}(tr:Tri NS nds F 5 0 0 t)(h:Rch nds t a)(e:nds[a]?=some (.fork qs)):Yc nds 5 a=1+Yt nds qs/\qs.length=4:=by
 obtain ⟨d,lev,r,hd,ta⟩:=ZkD h tr
 cases d with
 | zero=>rcases ta with ⟨_,g,_⟩ | ⟨m,ps,g,_⟩<;>· rw [e] at g;cases g
 | succ d =>
  rw [WS ta hd]
  rcases ta with (⟨_,g,_⟩ | ⟨m,ps,g,_⟩) | ⟨qs',g,hl,gq⟩
  ·rw [e] at g;cases g
  ·rw [e] at g;cases g
  ·rw [e] at g;cases g
   obtain ⟨q0,q1,q2,q3,rfl⟩:=ZhT hl
   unfold Yc
   rw [e]
   refine ⟨?_,hl⟩
   show 1+(Yc nds d q0+(Yc nds d q1+(Yc nds d q2+(Yc nds d q3+0))))=1+(Yc nds 5 q0+(Yc nds 5 q1+(Yc nds 5 q2+(Yc nds 5 q3+0))))
   rw [WS (gq 0 q0 rfl) (show d<=5 by omega),WS (gq 1 q1 rfl) (show d<=5 by omega),WS (gq 2 q2 rfl) (show d<=5 by omega),WS (gq 3 q3 rfl) (show d<=5 by omega)]
theorem Zih {t:Nat}(tr:Tri NS nds F 5 0 0 t):Yt nds [t]<=1365:=by
 have:=Zlo tr
 show Yc nds 5 t+0<=1365
 have e:bsz 5=1365:=by decide
 omega
end
def Rts (NS:List Str)(nds:List Nd)(R:List Nat):Prop:=∀ t∈R,∃ F,Tri NS nds F 5 0 0 t
section
variable {NS:List Str}{nds:List Nd}{R:List Nat}
theorem Rts.lt (h:Rts NS nds R){b:Nat}(g:WN nds R b):b < nds.length:=by
 obtain ⟨t,ht,r⟩:=g
 obtain ⟨F,tri⟩:=h t ht
 exact (Wf.back (NEx.refl nds) r (XY tri)).2
theorem Rts.few (h:Rts NS nds R){l:List Nat}(hn:l.Nodup)(g:∀ b∈l,b≠0/\WN nds R b):l.length<=nds.length:=by
 have:=Zil (L:=List.range nds.length) hn fun b hb=>List.mem_range.mpr (h.lt (g b hb).2)
 rwa [length_range] at this
theorem Rts.fork (h:Rts NS nds R){a:Nat}{qs:List Nat}(g:WN nds R a)(e:nds[a]?=some (.fork qs)):Yc nds 5 a=1+Yt nds qs/\qs.length=4:=by
 obtain ⟨t,ht,r⟩:=g
 obtain ⟨F,tri⟩:=h t ht
 exact Zig tri r e
theorem Rts.node (h:Rts NS nds R){a:Nat}(g:WN nds R a):∃ n,nds[a]?=some n:=⟨_,getElem?_eq_getElem (h.lt g)⟩
theorem Rts.root:∀{R:List Nat},Rts NS nds R->Yt nds R<=1365 * R.length
 | [],_=>Nat.le_refl _
 | t::r,h=>by
  have h1:=Rts.root (R:=r) fun t ht=>h t (mem_cons_of_mem _ ht)
  obtain ⟨F,tri⟩:=h t mem_cons_self
  have h2:=Zih tri
  have:Yt nds (t::r)=Yt nds [t]+Yt nds r:=UC [t] r
  rw [this,length_cons];omega
end
structure RcI (nds:List Nd)(R left ks:List Nat):Prop where
 nd:ks.Nodup
 fs:∀ a∈ks,a≠0/\WN nds R a
 lf:∀ a∈left,WN nds R a
 st:∀ t∈R,t=0\/t∈ks\/t∈left
 cl:∀ a∈ks,∀ qs,nds[a]?=some (.fork qs)->∀ q∈qs,q=0\/q∈ks\/q∈left
theorem RcI.start {nds:List Nd}{R:List Nat}:RcI nds R R []:=⟨.nil,fun a h=>by simp at h,fun a h=>⟨a,h,.refl _⟩,fun t h=>.inr (.inr h),fun a h=>by simp at h⟩
theorem Zhf {nds:List Nd}{a b c:Nat}(h:Rch nds a b)(g:Rch nds b c):Rch nds a c:=by
 induction h with
 | refl=>exact g
 | go h1 h2 _ ih=>exact .go h1 h2 (ih g)
theorem RcI.skip {nds:List Nd}{a:Nat}{R left ks:List Nat}(I:RcI nds R (left++[a]) ks)(h:a=0\/a∈ks):RcI nds R left ks:=by
 have mv:∀ q,q=0\/q∈ks\/q∈left++[a]->q=0\/q∈ks\/q∈left:=fun q z=>by
  rcases z with z | z | z
  ·exact .inl z
  ·exact .inr (.inl z)
  ·rcases mem_append.mp z with z | z
   ·exact .inr (.inr z)
   ·rw [mem_singleton.mp z];exact h.imp id .inl
 exact ⟨I.nd,I.fs,fun b hb=>I.lf b (mem_append_left _ hb),fun t ht=>mv _ (I.st t ht),fun b hb qs e q hq=>mv _ (I.cl b hb qs e q hq)⟩
theorem RcI.take {nds:List Nd}{a:Nat}{R left ks ps:List Nat}(I:RcI nds R (left++[a]) ks)(h:a≠0)(hn:a ∉ ks)(hp:∀ qs,nds[a]?=some (.fork qs)->ps=qs)(hp2:∀ q∈ps,∃ qs,nds[a]?=some (.fork qs)/\q∈qs):RcI nds R (left++ps) (ks++[a]):=by
 have ha:=I.lf a (mem_append_right _ mem_cons_self)
 have mv:∀ q,q=0\/q∈ks\/q∈left++[a]->q=0\/q∈ks++[a]\/q∈left++ps:=fun q z=>by
  rcases z with z | z | z
  ·exact .inl z
  ·exact .inr (.inl (mem_append_left _ z))
  ·rcases mem_append.mp z with z | z
   ·exact .inr (.inr (mem_append_left _ z))
   ·exact .inr (.inl (mem_append_right _ z))
 refine ⟨?_,fun b hb=>?_,fun b hb=>?_,fun t ht=>mv _ (I.st t ht),fun b hb qs e q hq=>?_⟩
 ·rw [List.nodup_append]
  exact ⟨I.nd,by simp,fun u hu w hw e=>hn (by rw [mem_singleton.mp hw] at e;rw [<- e];exact hu)⟩
 ·rcases mem_append.mp hb with z | z
  ·exact I.fs b z
  ·rw [mem_singleton.mp z];exact ⟨h,ha⟩
 ·rcases mem_append.mp hb with z | z
  ·exact I.lf b (mem_append_left _ z)
  ·obtain ⟨qs,e,hq⟩:=hp2 b z
   obtain ⟨t,ht,r⟩:=ha;exact ⟨t,ht,Zhf r (.go e hq (.refl _))⟩
 ·rcases mem_append.mp hb with z | z
  ·exact mv _ (I.cl b z qs e q hq)
  ·rw [mem_singleton.mp z] at e
   exact .inr (.inr (mem_append_right _ (by rw [hp qs e];exact hq)))
theorem RcI.done {nds:List Nd}{R ks:List Nat}(h0:nds[0]?=some .bare)(I:RcI nds R [] ks)(b:Nat):b∈ks↔b≠0/\WN nds R b:=by
 refine ⟨I.fs b,fun ⟨hb,t,ht,h⟩=>?_⟩
 have key:∀ {a b:Nat},Rch nds a b->(a=0\/a∈ks)->b≠0->b∈ks:=fun {a b} h=>by
  induction h with
  | refl=>exact fun z y=>z.elim (fun z=>absurd z y) id
  | go h1 h2 _ ih =>
   intro z y
   rcases z with z | z
   ·rw [z,h0] at h1;cases h1
   ·rcases I.cl _ z _ h1 _ h2 with x | x | x
    ·exact ih (.inl x) y
    ·exact ih (.inr x) y
    ·exact absurd x (by simp)
 refine key h ?_ hb
 rcases I.st t ht with x | x | x
 ·exact .inl x
 ·exact .inr x
 ·exact absurd x (by simp)
theorem Dd.rch {NS:List Str}{nds nds':List Nd}{t t':Nat}{ps ps':List (Str×V)}{x:Str}(N:Yn NS)(hx:x∈NS)(h0:nds[0]?=some .bare)(d:Dd nds t ps x nds' t' ps')(tri:Tri NS nds (lk ps) 5 0 0 t){os:List Nat}(W:Way nds (Zm x) 0 t os):Zfi nds nds' x t t':=by
 rcases d with ⟨v,hv,rfl,(⟨_,a,b⟩ | ⟨a,r⟩)⟩ | ⟨rfl,(⟨_,a,b⟩ | ⟨a,r⟩)⟩
 ·subst a;subst b;exact Zcn (XY tri)
 ·exact ZeI (XY tri) (r.made h0 W) (r.rch h0 (XY tri) (NEx.refl _))
 ·subst a;subst b;exact Zcn (XY tri)
 ·exact ZeI (XY tri) (r.made N hx h0 tri (by decide) (by rw [Nat.pow_zero,Nat.mod_one]) W) (r.rch h0 (XY tri) (NEx.refl _))
end K13
namespace L2
open PySem PySem.Spec PyProof.Rows
theorem Ui {H:Hp}{a:Addr}{xs:List Int}(e:H a=some (.lst (xs.map V.int))):DataOf H (.ref a) (.list (xs.map PyData.int))/\(PyData.list (xs.map PyData.int)).canLay0=true/\(PyData.list (xs.map PyData.int)).depth<=60:=by
 have h1:∀ xs:List Int,DatasOf H (xs.map V.int) (xs.map PyData.int):=by
  intro xs
  induction xs with
  | nil=>exact .nil
  | cons x r ih=>exact .cons (.int x) ih
 have h2:∀ xs:List Int,PyData.canLayAll0 (xs.map PyData.int)=true:=by
  intro xs
  induction xs with
  | nil=>rfl
  | cons x r ih=>exact ih
 have h3:∀ xs:List Int,PyData.depthAll (xs.map PyData.int)=0:=by
  intro xs
  induction xs with
  | nil=>rfl
  | cons x r ih=>rw [map_cons,PyData.depthAll,ih];rfl
 refine ⟨.lst e (h1 xs),by rw [PyData.canLay0];exact h2 xs,?_⟩
 rw [PyData.depth,h3];decide
section
variable {X:Cx}
end
end L2
namespace L2
open PySem
def Rz (xs:Array Nat):Prop:=xs.toList.Pairwise (· < ·)
theorem Rz.get {xs:Array Nat}(h:Rz xs){i j:Nat}(hj:j < xs.size)(hij:i < j):xs[i]'(by omega) < xs[j]:=by
 have:=(pairwise_iff_getElem.mp h) i j (by rw [Array.length_toList];omega) (by rw [Array.length_toList];exact hj) hij
 simpa using this
theorem Zaf {xs:Array Nat}{j:Nat}(h:Rz xs):∀(f lo hi:Nat),hi - lo<=f->lo<=hi->hi<=xs.size->(∀ i (hz:i < xs.size),i < lo->xs[i] < j)->(∀ i (hz:i < xs.size),hi<=i->j<=xs[i]) ->
 SetTable.below.go xs j f lo hi<=xs.size/\(∀ i (hz:i < xs.size),i < SetTable.below.go xs j f lo hi->xs[i] < j)/\∀ i (hz:i < xs.size),SetTable.below.go xs j f lo hi<=i->j<=xs[i]
 | 0,lo,hi,hf,hl,hs,a,b=>by
  have:lo=hi:=by omega
  subst this
  exact ⟨hs,a,b⟩
 | f + 1,lo,hi,hf,hl,hs,a,b=>by
  unfold SetTable.below.go
  by_cases c:lo < hi
  ·rw [if_pos c]
   have hm:(lo+hi) / 2 < xs.size:=by omega
   have e:xs.getD ((lo+hi) / 2) j=xs[(lo+hi) / 2]:=by simp [Array.getD,hm]
   dsimp only
   rw [e]
   by_cases d:xs[(lo+hi) / 2] < j
   ·rw [if_pos d]
    refine Zaf h f ((lo+hi) / 2+1) hi (by omega) (by omega) hs (fun i hi9 hlt=>?_) b
    by_cases z:i=(lo+hi) / 2
    ·subst z;exact d
    ·exact Nat.lt_trans (h.get hm (by omega)) d
   ·rw [if_neg d]
    refine Zaf h f lo ((lo+hi) / 2) (by omega) (by omega) (by omega) a fun i hz hle=>?_
    by_cases z:i=(lo+hi) / 2
    ·subst z;omega
    ·have:=h.get hz (show (lo+hi) / 2 < i by omega);omega
  ·rw [if_neg c]
   have:lo=hi:=by omega
   subst this
   exact ⟨hs,a,b⟩
theorem Wy {xs:Array Nat}(h:Rz xs)(j:Nat):SetTable.below xs j<=xs.size/\(∀ i (hi:i < xs.size),i < SetTable.below xs j->xs[i] < j)/\∀ i (hz:i < xs.size),SetTable.below xs j<=i->j<=xs[i] :=
 Zaf h xs.size 0 xs.size (by omega) (by omega) (Nat.le_refl _) (fun i _ z=>absurd z (by omega)) (fun i hz z=>absurd hz (by omega))
theorem ZhG {xs:Array Nat}(h:Rz xs){m:Nat}(hm:m < xs.size):SetTable.below xs xs[m]=m:=by
 obtain ⟨h1,h2,h3⟩:=Wy h xs[m]
 have a:SetTable.below xs xs[m]<=m:=by
  rcases Nat.lt_or_ge m (SetTable.below xs xs[m]) with z | z
  ·have:=h2 m hm z;omega
  ·exact z
 rcases Nat.lt_or_ge (SetTable.below xs xs[m]) m with z | z
 ·have:=h3 _ (by omega) (Nat.le_refl _)
  have:=h.get hm z
  omega
 ·omega
theorem Zfm {xs:Array Nat}(h:Rz xs){m:Nat}(hm:m < xs.size):SetTable.below xs (xs[m]+1)=m+1:=by
 obtain ⟨h1,h2,h3⟩:=Wy h (xs[m]+1)
 have a:m < SetTable.below xs (xs[m]+1):=by
  rcases Nat.lt_or_ge m (SetTable.below xs (xs[m]+1)) with z | z
  ·exact z
  ·have:=h3 m hm z;omega
 rcases Nat.lt_or_ge (m+1) (SetTable.below xs (xs[m]+1)) with z | z
 ·have:=h2 (m+1) (by omega) z
  have:=h.get (i:=m) (j:=m+1) (by omega) (by omega)
  omega
 ·omega
theorem Zfn {xs:Array Nat}(h:Rz xs):SetTable.below xs 0=0:=by
 obtain ⟨h1,h2,h3⟩:=Wy h 0
 rcases Nat.lt_or_ge 0 (SetTable.below xs 0) with z | z
 ·have:=h2 0 (by omega) z;omega
 ·omega
theorem Zex (j:Nat):SetTable.has #[] j=false:=by unfold SetTable.has;simp
theorem Zhk {t:SetTable}(h:Rz t.place){j:Nat}(e:t.slot j=.empty):∀ i (hi:i < t.place.size),t.place[i]≠j:=by
 intro i hi z
 unfold SetTable.slot at e
 have:t.place[SetTable.below t.place j]?=some j:=by rw [<- z,ZhG h hi,Array.getElem?_eq_getElem hi]
 simp [this] at e
theorem ZiU {t:SetTable}(h:t.dummies=#[])(j:Nat):t.slot j≠.dummy:=by
 unfold SetTable.slot
 rw [h,Zex]
 simp only [Bool.false_eq_true,if_false]
 split<;>intro z<;>cases z
theorem Zdz {t:SetTable}{ha:Nat->Int}{x:Int}(h:t.dummies=#[]):∀(f:Nat)(p:SetTable.Probe){j:Nat}{d:Option Nat},p.dummy=none->SetTable.probe.go t ha x f p=some (.empty j d)->t.slot j=.empty/\d=none
 | 0,_,_,_,_,e=>by simp [SetTable.probe.go] at e
 | f + 1,p,j,d,hp,e=>by
  unfold SetTable.probe.go at e
  cases z:t.slot p.j with
  | empty =>
   rw [z] at e
   simp only [Option.some.injEq,SetTable.Met.empty.injEq] at e
   obtain ⟨rfl,rfl⟩:=e
   exact ⟨z,hp⟩
  | dummy=>exact absurd z (ZiU h _)
  | live i =>
   rw [z] at e
   dsimp only at e
   split at e
   ·cases e
   ·refine Zdz h f _ ?_ e
    unfold SetTable.advance
    split
    ·exact hp
    ·exact hp
theorem Zgq {t:SetTable}(h:t.dummies=#[]){x:Int}{j:Nat}{b:Bool}(e:t.freeSlot x=some (j,b)):t.slot j=.empty/\b=false:=by
 unfold SetTable.freeSlot SetTable.probe at e
 split at e
 ·rename_i j' d e9
  obtain ⟨h1,rfl⟩:=Zdz h _ _ (by rfl) e9
  simp only [Option.some.injEq,Prod.mk.injEq] at e
  obtain ⟨rfl,rfl⟩:=e
  exact ⟨h1,rfl⟩
 ·cases e
theorem Zgv {xs:Array Nat}(h:Rz xs){j:Nat}(hj:∀ i (hi:i < xs.size),xs[i]≠j):Rz (SetTable.insertAt xs (SetTable.below xs j) j):=by
 obtain ⟨h1,h2,h3⟩:=Wy h j
 unfold Rz
 rw [SetTable.toList_insertAt,pairwise_append]
 refine ⟨List.Pairwise.sublist (List.take_sublist _ _) h,pairwise_cons.mpr ⟨fun y hy=>?_,List.Pairwise.sublist (List.drop_sublist _ _) h⟩,fun x hx y hy=>?_⟩
 ·obtain ⟨i,hi,rfl⟩:=mem_iff_getElem.mp hy
  rw [length_drop,Array.length_toList] at hi
  rw [List.getElem_drop,Array.getElem_toList]
  have:=h3 (SetTable.below xs j+i) (by omega) (by omega)
  have:=hj (SetTable.below xs j+i) (by omega)
  omega
 ·obtain ⟨i,hi,rfl⟩:=mem_iff_getElem.mp hx
  rw [length_take,Array.length_toList] at hi
  rw [List.getElem_take,Array.getElem_toList]
  have a:=h2 i (by omega) (by omega)
  rcases mem_cons.mp hy with rfl | hy
  ·exact a
  ·obtain ⟨m,hm,rfl⟩:=mem_iff_getElem.mp hy
   rw [length_drop,Array.length_toList] at hm
   rw [List.getElem_drop,Array.getElem_toList]
   have:=h3 (SetTable.below xs j+m) (by omega) (by omega)
   omega
theorem ZiR (n:Nat):Rz (Array.range n):=by
 unfold Rz
 rw [Array.toList_range]
 exact List.pairwise_lt_range
structure TOk (b:Bool)(t:SetTable):Prop where
 rz:Rz t.place
 du:t.dummies=#[]
 led:b=true\/t.led=true
theorem TOk.stand {b:Bool}{t:SetTable}(h:TOk b t)(n:Nat):TOk b (t.standIn n):=⟨ZiR n,rfl,h.led⟩
theorem TOk.or {b:Bool}{t:SetTable}(h:TOk b t)(n:Nat):TOk b (t.orStandIn n):=by
 unfold SetTable.orStandIn
 split
 ·exact h
 ·exact h.stand n
theorem TOk.off {b:Bool}{t:SetTable}(h:TOk b t):TOk b { t with plain:=false }:=⟨h.rz,h.du,h.led⟩
theorem TOk.put {b:Bool}{t:SetTable}(h:TOk b t){j:Nat}(e:t.slot j=.empty):TOk b (t.put j).1:=by
 refine ⟨Zgv h.rz (Zhk h.rz e),?_,h.led⟩
 show (if SetTable.has t.dummies j then _ else t.dummies)=#[]
 rw [h.du,Zex];rfl
theorem TOk.new {b:Bool}{t:SetTable}(h:TOk b t)(es:Array (Int×Value))(x:Int)(v:Value):TOk b (layNew t es x v).2.1:=by
 unfold layNew
 split
 ·rename_i j d e
  exact (h.put (Zgq h.du e).1).or _
 ·exact h.stand _
theorem ZjP {R:Nat->Nat->Prop}{f:Nat->Option (Nat×Nat)}(hf:∀ j x,f j=some x->x.1=j):∀{l:List Nat},l.Pairwise R->((l.filterMap f).map (·.1)).Pairwise R:=by
 intro l
 have mem:∀ {l:List Nat} {y:Nat},y∈(l.filterMap f).map (·.1)->y∈l:=fun {l y} hy=>by
  obtain ⟨x,hx,rfl⟩:=mem_map.mp hy
  obtain ⟨j,hj,e⟩:=List.mem_filterMap.mp hx
  rw [hf j x e];exact hj
 induction l with
 | nil=>intro _;exact .nil
 | cons a r ih =>
  intro h
  obtain ⟨h1,h2⟩:=pairwise_cons.mp h
  rw [filterMap_cons]
  cases e:f a with
  | none=>exact ih h2
  | some x =>
   refine pairwise_cons.mpr ⟨fun y hy=>?_,ih h2⟩
   show R x.1 y
   rw [show x.1=a from hf a x e]
   exact h1 y (mem hy)
theorem TOk.relay {b:Bool}{t:SetTable}(h:TOk b t)(es:Array (Int×Value))(n:Nat):TOk b (relayAll t es n).2.1:=by
 unfold relayAll
 split
 ·rename_i t' o e
  dsimp only
  split
  ·unfold SetTable.relaid SetTable.laid at e
   cases z:SetTable.layClean (SetTable.sizeAbove n - 1) (es.map (·.1)) with
   | none=>rw [z] at e;cases e
   | some ow =>
    rw [z] at e
    have e:some (_,_)=some (t',o):=e
    cases e
    refine ⟨?_,rfl,h.led⟩
    show Rz (List.toArray _)
    unfold Rz
    rw [List.toList_toArray]
    refine ZjP (fun j x e=>?_) List.pairwise_lt_range
    cases y:ow.getD j none with
    | none=>rw [y] at e;cases e
    | some m=>rw [y] at e;cases e;rfl
  ·exact h.stand _
 ·exact h.stand _
end L2
namespace L2
open PySem PySem.Spec PyProof.Rows
def YS (w:World):Bool:=w.params.followText "set-order"
def keyOf:Value->Zk
 | .int i _=>.inl i
 | .str x _=>.inr x
 | _=>.inl 0
theorem UZ {k:Zk}{v:Value}(h:YG k v=true):keyOf v=k:=by
 rcases ZO h with ⟨i,t,rfl,rfl⟩ | ⟨x,t,rfl,rfl⟩<;>rfl
theorem ZeV {k:Zk}{v:Value}(h:YG k v=true):v.scannable=true:=by
 rcases ZO h with ⟨i,t,rfl,rfl⟩ | ⟨x,t,rfl,rfl⟩<;>rfl
def WE (xs:Array (Int×Value)):List Zk:=xs.toList.map fun e=>keyOf e.2
def SetG (P:Program)(w:World)(h:Heap)(a:Addr)(ks:List Zk):Prop :=
 ∃ o xs ep t,h.get? a=some o/\o.ExactSet/\o.data=.set xs ep t/\ElemsOf (Zr P w) xs.toList/\(WE xs).Perm ks/\ks.Nodup/\xs.size < scanBound/\t.fits xs.size=true/\TOk (YS w) t
def WO (ks:List Zk)(k:Zk):List Zk:=if (ks.any fun j=>decide (j=k))=true then ks else ks++[k]
theorem any_mem {ks:List Zk}{k:Zk}:(ks.any fun j=>decide (j=k))=true↔k∈ks:=by
 rw [List.any_eq_true]
 exact ⟨fun ⟨x,hx,e⟩=>of_decide_eq_true e ▸ hx,fun h=>⟨k,h,decide_eq_true rfl⟩⟩
theorem ZaB {ks:List Zk}{k:Zk}(h:ks.Nodup):(WO ks k).Nodup:=by
 unfold WO
 split
 ·exact h
 ·rename_i z
  rw [List.nodup_append]
  exact ⟨h,by simp,fun a ha b hb e=>z (any_mem.mpr <| by rw [<- mem_singleton.mp hb,<- e];exact ha)⟩
section
variable {prog:Program}{w:World}{A:Around}{E:Value->Shared->Prop}{s:Shared}
theorem Zcm {xs:Array (Int×Value)}{k:Zk}(h:ElemsOf (Zr prog w) xs.toList):k∈WE xs↔∃ e∈xs.toList,YG k e.2=true:=by
 unfold WE
 rw [mem_map]
 constructor
 ·rintro ⟨e,he,rfl⟩
  obtain ⟨⟨j,hj,_⟩,_⟩:=h e he
  refine ⟨e,he,?_⟩
  rw [UZ (k:=j) hj];exact hj
 ·rintro ⟨e,he,hk⟩
  exact ⟨e,he,UZ hk⟩
theorem ZeW {h:Heap}{a:Addr}{o:Obj}{xs ys:Array (Int×Value)}{ep:Nat}{t u:SetTable}(ho:h.get? a=some o)(hd:o.data=.set xs ep t) :
 (h.update a (Obj.putSet ys u)).get? a=some { o with data:=.set ys (ep+1) u }:=by
 have e:=putSet_of (o:=o) ys u hd
 have g:=Heap.get?_update_self (Obj.putSet ys u) ho (by rw [e];rfl)
 rwa [e] at g
theorem ZdG {g:Bool->Sem Unit}(hg:∀(b:Bool)(s₁:Shared)(R:Unit->Shared->Prop),R () s₁->wpAny (model prog w) A (g b) R E s₁)
   {a:Addr} {o:Obj} {xs ys:Array (Int×Value)} {ep:Nat} {t u:SetTable} {ks:List Zk} (ho:s.heap.get? a=some o) (hx:o.ExactSet) (hd:o.data=.set xs ep t)
   (h1:ElemsOf (Zr prog w) ys.toList) (h2:(WE ys).Perm ks) (h3:ks.Nodup) (h4:ys.size < scanBound) (h5:u.fits ys.size=true) (h6:TOk (YS w) u) {d:Bool} {R:Option Bool->Shared->Prop}
   (q:∀ h',Heap.SameBut a s.heap h'->SetG prog w h' a ks->R (some true) { s with heap:=h' }) :
   wpAny (model prog w) A (do
       storeSet a ys u
       if (!d&&u.tooFull)=true then do
           g (relayAll u ys (SetTable.grown ys.size)).2.2
           storeSet a (relayAll u ys (SetTable.grown ys.size)).1 (relayAll u ys (SetTable.grown ys.size)).2.1
           pure (some true)
         else pure (some true)) R E s:=by
 refine wpAny_bind (wpAny_storeSet_of ho hd ?_ (fits_of_scanBound h4))
 have o1:=ZeW (ys:=ys) (u:=u) ho hd
 have s1:=Heap.SameBut.update s.heap a (Obj.putSet ys u)
 split
 · have p:=relayAll_perm u ys (SetTable.grown ys.size)
   have f:=relayAll_fits u ys (SetTable.grown ys.size)
   have k:=h6.relay ys (SetTable.grown ys.size)
   generalize relayAll u ys (SetTable.grown ys.size)=L at p f k ⊢
   obtain ⟨zs,v,gv⟩:=L
   dsimp only at p f k ⊢
   have z:zs.size=ys.size:=by rw [<- Array.length_toList,p.length_eq,Array.length_toList]
   refine wpAny_bind (hg _ _ _ ?_)
   refine wpAny_bind (wpAny_storeSet_of o1 rfl ?_ (fits_of_scanBound (by rw [z];exact h4)))
   have o2:=ZeW (ys:=zs) (u:=v) o1 rfl
   exact wpAny_pure (q _ (s1.trans (Heap.SameBut.update _ a _)) ⟨_,zs,_,v,o2,hx,rfl,h1.perm p,(p.map _).trans h2,h3,by rw [z];exact h4,f,k⟩)
 · exact wpAny_pure (q _ s1 ⟨_,ys,_,u,o1,hx,rfl,h1,h2,h3,h4,h5,h6⟩)
theorem Zkv {a:Addr}{ks:List Zk}{k:Zk}{x:Value}{Q:Bool->Shared->Prop}(hk:YG k x=true)(hS:SetG prog w s.heap a ks)(hr:ks.length+1 < scanBound)
 (q:∀ b h',Heap.SameBut a s.heap h'->SetG prog w h' a (WO ks k)->Q b { s with heap:=h' }):wpAny (model prog w) A (setAddHashed a x ((Zr prog w).hash k)) Q E s:=by
 obtain ⟨o,xs,ep,t,ho,hx,hd,h1,h2,h3,h4,h5,h6⟩:=hS
 have hsc:=ZeV hk
 have hl:xs.size=ks.length:=by rw [<- h2.length_eq];unfold WE;rw [length_map,Array.length_toList]
 unfold setAddHashed setAddHashedIn
 refine wpAny_holding (wpAny_bind (wpAny_setState_of ho hd h5 ?_))
 dsimp only
 rw [byScan_of hsc h4 h1,if_pos rfl]
 unfold setAddByScan
 refine wpAny_bind (wpAny_bind (wpAny_rule (wpAny_bind (wpAny_setScan_of (knd:=Zr prog w) (k:=k) hk ho hd h5 h1 ?_))))
 have gw:∀ (b:Bool) (s₁:Shared) (R:Unit->Shared->Prop),R () s₁->wpAny (model prog w) A (match b with | true=>rule "set.scan.the-table-gave-way" | false=>pure ()) R E s₁:=fun b s₁ R z=>by
  cases b
  ·exact wpAny_pure z
  ·exact wpAny_rule z
 have hin:=Zcm (k:=k) h1
 cases hf:xs.toList.findIdx? (fun e=>(Zr prog w).is k e.2) with
 | some j =>
  obtain ⟨hj,hp,_⟩:=List.findIdx?_eq_some_iff_getElem.mp hf
  have hm:k∈ks:=h2.mem_iff.mp (hin.mpr ⟨xs.toList[j],List.getElem_mem hj,hp⟩)
  refine wpAny_pure (wpAny_pure (q _ s.heap (Heap.SameBut.refl a s.heap) ?_))
  unfold WO
  rw [if_pos (any_mem.mpr hm)]
  exact ⟨o,xs,ep,t,ho,hx,hd,h1,h2,h3,h4,h5,h6⟩
 | none =>
  have hm:k ∉ ks:=fun z=>by
   obtain ⟨e,he,hp⟩:=hin.mp (h2.mem_iff.mpr z)
   have y:=List.findIdx?_eq_none_iff.mp hf e he
   rw [show (Zr prog w).is k e.2=true from hp] at y
   cases y
  dsimp only
  have p:=layNew_perm t xs ((Zr prog w).hash k) x
  have f:=layNew_fits t xs ((Zr prog w).hash k) x
  have tk:=h6.new xs ((Zr prog w).hash k) x
  generalize layNew t xs ((Zr prog w).hash k) x=L at p f tk ⊢
  obtain ⟨ys,u,wd,gv⟩:=L
  dsimp only at p f tk ⊢
  rw [Array.toList_push] at p
  have e1:ElemsOf (Zr prog w) ys.toList:=(h1.push (k:=k) hk hsc).perm p
  have e2:(WE ys).Perm (WO ks k):=by
   unfold WO
   rw [if_neg fun z=>hm (any_mem.mp z)]
   have:=p.map fun e=>keyOf e.2
   rw [map_append] at this
   refine this.trans ?_
   show ((xs.toList.map fun e=>keyOf e.2)++[keyOf x]).Perm _
   rw [UZ hk]
   exact h2.append_right _
  have e4:ys.size < scanBound:=by
   rw [<- Array.length_toList,p.length_eq,length_append,Array.length_toList,hl];exact hr
  refine wpAny_bind (gw _ _ _ ?_)
  split
  ·refine wpAny_bind ?_
   rw [hashByValue_scannable 8 hsc]
   refine wpAny_pure ?_
   refine ZdG gw ho hx hd e1 e2 (ZaB h3) e4 ?_ ?_ fun h' sb G=>wpAny_pure (q _ h' sb G)
   ·split
    ·exact f
    ·exact SetTable.fits_plain_off f
   ·split
    ·exact tk
    ·exact tk.off
  ·refine wpAny_bind (wpAny_pure ?_)
   exact ZdG gw ho hx hd e1 e2 (ZaB h3) e4 (by simpa using f) (by simpa using tk) fun h' sb G=>wpAny_pure (q _ h' sb G)
end
theorem SetG.keep {P:Program}{w:World}{h h':Heap}{a:Addr}{ks:List Zk}(G:SetG P w h a ks)(k:∀ o,h.get? a=some o->h'.get? a=some o):SetG P w h' a ks:=by
 obtain ⟨o,xs,ep,t,ho,r⟩:=G
 exact ⟨o,xs,ep,t,k o ho,r⟩
section
variable {prog:Program}{w:World}{A:Around}{R:Result->Shared->Prop}{I:Addr}{fp wr:List Addr}{G:Array GenState->Array GenState->Prop}{n:Nat}{P:Nat->Value->Prop}{St:Nat->Shared->Prop}
end
section
variable {prog:Program}{w:World}{A:Around}{E:Value->Shared->Prop}{s:Shared}
theorem newG {h:Heap}:SetG prog w (h.push { cls:=.type "set",dict:=none,data:=.set #[] 0 (.fresh 0 0 (!YS w)) }) h.objs.size [] :=
 ⟨_,#[],0,_,Heap.get?_push_size _ rfl,⟨rfl,rfl,rfl⟩,rfl,fun e he=>by simp at he,.refl _,.nil,by decide,rfl,⟨.nil,rfl,by cases YS w<;>simp [SetTable.fresh]⟩⟩
end
theorem ZaJ:entryFor table "set.__iter__"=some Builtin.«frozenset.__iter__»:=entryFor_alias (id':="frozenset.__iter__") (by kernel_rfl) rfl (by decide +kernel) (by kernel_rfl)
theorem slot_seti_next:Slot "set_iterator" "__next__" "set_iterator.__next__" :=
 .of (owner:="set_iterator") (n:="__next__") (by rw [typeLookup_type,builtinLookup_eq_fast];kernel_rfl) (by decide +kernel) (by decide +kernel) (by decide +kernel) (by decide +kernel) (by rw [isSubtype_type];kernel_rfl)
theorem UJ:Slot "set_iterator" "__iter__" "set_iterator.__iter__" :=
 .of (owner:="set_iterator") (n:="__iter__") (by rw [typeLookup_type,builtinLookup_eq_fast];kernel_rfl) (by decide +kernel) (by decide +kernel) (by decide +kernel) (by decide +kernel) (by rw [isSubtype_type];kernel_rfl)
theorem Uh:entryFor table "set_iterator.__next__"=some Builtin.«set_iterator.__next__»:=entryFor_of_tree (by kernel_rfl)
theorem Ux (a:Value):argsOk "set_iterator.__next__" ⟨[a],[]⟩:=by unfold argsOk;kernel_rfl
theorem Zbw (a:Value):argsOk "set_iterator.__iter__" ⟨[a],[]⟩:=by unfold argsOk;kernel_rfl
theorem ZaM {α:Type}{l:List α}{i:Nat}(h:i < l.length):(l[i]::l.eraseIdx i).Perm l:=by
 rw [List.eraseIdx_eq_take_drop_succ]
 refine List.perm_middle.symm.trans ?_
 rw [<- List.drop_eq_getElem_cons h,take_append_drop]
section
variable {M:Model}{A:Around}{E:Value->Shared->Prop}
theorem ZhB {s:Shared}{src:Source}{n:Nat}{Q:Nat->Shared->Prop}(hn:n≠0)(h:∀ i d,i < n->Q i { s with drawn:=d }):wpAny M A (choose src n) Q E s :=
 fun _ _ _=>⟨hn,h _ _ (Nat.mod_lt _ (Nat.pos_of_ne_zero hn))⟩
theorem Zji {α:Type}(n:Nat):∀(xs:List α){s:Shared}{Q:List α->Shared->Prop},xs.length=n->(∀ ys d,ys.Perm xs->Q ys { s with drawn:=d })->wpAny M A (drawOrder n xs) Q E s:=by
 induction n with
 | zero =>
  intro xs s Q hl h
  cases xs with
  | nil=>exact wpAny_pure (h [] s.drawn (.refl _))
  | cons x r=>cases hl
 | succ n ih =>
  intro xs s Q hl h
  cases xs with
  | nil=>cases hl
  | cons x xs =>
   unfold drawOrder
   refine wpAny_bind (ZhB (by simp) fun i d hi=>?_)
   rw [getElem?_eq_getElem hi]
   refine wpAny_bind (ih ((x::xs).eraseIdx i) (by rw [List.length_eraseIdx_of_lt hi];rw [length_cons] at hl ⊢;omega) fun ys d' p=>wpAny_pure (h _ d' ?_))
   exact (p.cons _).trans (ZaM hi)
end
theorem ZeP {α:Type}(f:Nat->Nat):∀(m k:Nat)(xs:List α)(out:Array α),xs.length<=m->(pickOrder.go f m k xs out).toList.Perm (out.toList++xs)
 | 0,k,xs,out,h=>by
  have:xs=[]:=eq_nil_of_length_eq_zero (by omega)
  subst this
  unfold pickOrder.go
  rw [List.append_nil]
 | m + 1,k,xs,out,h=>by
  unfold pickOrder.go
  cases xs with
  | nil=>simp
  | cons x r =>
   have hi:f k % (x::r).length < (x::r).length:=Nat.mod_lt _ (by simp)
   rw [getElem?_eq_getElem hi]
   have:=ZeP f m (k+1) ((x::r).eraseIdx (f k % (x::r).length)) (out.push (x::r)[f k % (x::r).length]) (by rw [List.length_eraseIdx_of_lt hi];omega)
   refine this.trans ?_
   rw [Array.toList_push,append_assoc]
   exact (ZaM hi).append_left _
theorem ZgW {α:Type}(f:Nat->Nat)(xs:Array α):(pickOrder f xs).toList.Perm xs.toList:=by
 have:=ZeP f xs.size 0 xs.toList #[] (by simp)
 unfold pickOrder
 simpa using this
def SetRw (h:Heap)(a:Addr)(xs:Array (Int×Value))(ep:Nat)(t:SetTable):Prop:=∃ o,h.get? a=some o/\o.ExactSet/\o.data=.set xs ep t
section
variable {prog:Program}{w:World}{A:Around}{E:Value->Shared->Prop}{s:Shared}{I a:Addr}{first:Value}{i n ep:Nat}{xs:Array (Int×Value)}{t:SetTable}
theorem Zej {Q:Value->Shared->Prop}(hR:SetRw s.heap a xs ep t)(hf:t.fits xs.size=true)(hb:xs.size < scanBound)
 (q1:(YS w=true\/(!t.plain&&decide (xs.size > 1))=false)->Q (.ref s.heap.objs.size) { s with heap:=s.heap.push { cls:=.type "set_iterator",data:=.fields #[rawInt 0,rawInt 0,.ref a,rawInt xs.size,rawInt ep] } })
 (q2:∀ (ys:List Nat) (d:Drawn),YS w=false->ys.Perm (List.range xs.size)->Q (.ref (s.heap.objs.size+1)) { s with heap:=(s.heap.push { cls:=.type "tuple",data:=.seq (ys.map fun (i:Nat)=>rawInt i).toArray }).push { cls:=.type "set_iterator",data:=.fields #[.ref s.heap.objs.size,rawInt 0,.ref a,rawInt xs.size,rawInt ep] },drawn:=d }) :
 wpAny (model prog w) A (pyIter (.ref a)) Q E s:=by
 obtain ⟨o,ho,hx,hd⟩:=hR
 have hT:s.TypeIs (.ref a) "set":=⟨o,ho,hx.1⟩
 refine wpAny_pyIter_slot hT PySem.F.slot_set_iter (wpAny_call_entry PySem.F.slot_set_iter hT ZaJ ?_ (PySem.F.args_set_iter_1 _))
 unfold Builtin.«frozenset.__iter__»
 refine wpAny_bind (m:=Builtin.Frozenset.slot0 "__iter__" ⟨[.ref a],[]⟩) (wpAny_of_eq (a:=a) (by rfl) ?_)
 refine wpAny_bind (m:=Builtin.Frozenset.sizeOf a) (wpAny_bind (wpAny_setEntries_of ho hd hf (wpAny_pure ?_)))
 refine wpAny_bind (m:=setDrawn a) (wpAny_bind (wpAny_setState_of ho hd hf (wpAny_bind (m:=setsByText) (wpAny_bind (wpAny_askSetting (wpAny_pure (wpAny_pure ?_)))))))
 refine wpAny_ite_split (fun hc=>?_) (fun hc=>?_)
 ·have hc':(!YS w&&(!t.plain&&decide (xs.size > 1)))=true:=hc
  rw [Bool.and_eq_true] at hc'
  refine wpAny_bind (Zji xs.size (List.range xs.size) length_range fun ys d p=>?_)
  have hl:ys.length=xs.size:=by rw [p.length_eq,length_range]
  refine wpAny_bind (m:=newTuple _) (wpAny_newObj_type ?_ ?_)
  ·refine wpAny_bind (m:=setEpoch a) (wpAny_setEpoch_of (Heap.get?_push_of_some _ ho) hd hf ?_)
   refine wpAny_bind (m:=newFields _ _) (wpAny_newObj_type (wpAny_pure ⟨_,rfl,"set_iterator",_,⟨_,Heap.get?_push_size _ rfl,rfl⟩,slot_seti_next.lookup,?_⟩))
   have:=q2 ys d (by simpa using hc'.1) p
   rw [Heap.size_push]
   exact this
  ·show (List.toArray _).size<=sizeLine
   rw [size_toArray,length_map,hl]
   exact fits_of_scanBound hb
 ·refine wpAny_bind (wpAny_pure ?_)
  refine wpAny_bind (m:=setEpoch a) (wpAny_setEpoch_of ho hd hf ?_)
  refine wpAny_bind (m:=newFields _ _) (wpAny_newObj_type (wpAny_pure ⟨_,rfl,"set_iterator",_,⟨_,Heap.get?_push_size _ rfl,rfl⟩,slot_seti_next.lookup,?_⟩))
  refine q1 ?_
  have hc':¬ (!YS w&&(!t.plain&&decide (xs.size > 1)))=true:=hc
  cases z:YS w with
  | true=>exact .inl rfl
  | false=>rw [z] at hc';exact .inr (by simpa using hc')
end
section
variable {prog:Program}{w:World}{A:Around}{E:Value->Shared->Prop}{s:Shared}{I a:Addr}{first:Value}{i n ep:Nat}{xs:Array (Int×Value)}{t:SetTable}
def WU (w:World)(a:Addr)(ep:Nat)(xs:Array (Int×Value)):List Value:=if YS w=true then (pickOrder (w.params.setOrder a ep) xs).toList.map (·.2) else xs.toList.map (·.2)
theorem ordE_perm:(WU w a ep xs).Perm (xs.toList.map (·.2)):=by
 unfold WU
 split
 ·exact (ZgW _ _).map _
 ·exact .refl _
theorem Zat:(WU w a ep xs).length=xs.size:=by rw [ordE_perm.length_eq,length_map,Array.length_toList]
def Vq (w:World)(t:SetTable)(i slot:Nat):Prop:=YS w=true\/SetTable.below t.place slot=i
theorem ZfZ {slot:Nat}{Q:Option (Value×Nat)->Shared->Prop}(hR:SetRw s.heap a xs ep t)(hf:t.fits xs.size=true)(ht:TOk (YS w) t)(hnd:YS w=true\/(!t.plain&&decide (xs.size > 1))=false)(hs:Vq w t i slot)
 (q1:∀ v slot',(WU w a ep xs)[i]?=some v->Vq w t (i+1) slot'->Q (some (v,slot')) s) (q2:(WU w a ep xs)[i]?=none->Q none s):wpAny (model prog w) A (setNext a slot i ep) Q E s:=by
 obtain ⟨o,ho,hx,hd⟩:=hR
 unfold setNext
 refine wpAny_bind (wpAny_setState_of ho hd hf ?_)
 refine wpAny_bind (m:=setsByText) (wpAny_bind (wpAny_askSetting (wpAny_pure ?_)))
 dsimp only
 refine wpAny_ite_split (fun hc=>?_) (fun hc=>?_)
 ·have hc':YS w=true:=hc
  rw [if_neg (by simp)]
  refine wpAny_bind (m:=setWalk a) ?_
  unfold setWalk
  refine wpAny_bind (wpAny_setState_of ho hd hf ?_)
  refine wpAny_bind (m:=setsByText) (wpAny_bind (wpAny_askSetting (wpAny_pure ?_)))
  dsimp only
  rw [if_pos hc]
  refine wpAny_bind (wpAny_askSetting (wpAny_pure (wpAny_pure ?_)))
  unfold WU at q1 q2
  rw [if_pos hc',getElem?_map,Array.getElem?_toList] at q2
  show Q (Option.map (fun e=>(e.2,slot)) (pickOrder (w.params.setOrder a ep) xs)[i]?) s
  cases e:(pickOrder (w.params.setOrder a ep) xs)[i]? with
  | none=>exact q2 (by rw [e];rfl)
  | some x =>
   refine q1 x.2 slot ?_ (.inl hc')
   rw [if_pos hc',getElem?_map,Array.getElem?_toList,e];rfl
 ·have hc':YS w=false:=by
   have:¬ YS w=true:=hc
   simpa using this
  refine wpAny_ite_split (fun hz=>?_) (fun hz=>?_)
  ·have hz':(!t.plain&&decide (xs.size > 1))=true:=hz
   rcases hnd with y | y
   ·rw [hc'] at y;cases y
   ·rw [y] at hz';cases hz'
  ·have hled:t.led=true:=by
    rcases ht.led with y | y
    ·rw [hc'] at y;cases y
    ·exact y
   have hpl:t.place.size=xs.size:=by
    unfold SetTable.fits at hf
    rw [Bool.and_eq_true,beq_iff_eq] at hf
    exact hf.1
   have hbe:SetTable.below t.place slot=i:=by
    rcases hs with y | y
    ·rw [hc'] at y;cases y
    ·exact y
   refine wpAny_bind (show wpAny (model prog w) A (if (!t.led&&!xs.isEmpty)=true then unsupported "set:maker-not-led" else pure ()) _ E s from ?_)
   rw [hled,if_neg (by simp)]
   refine wpAny_pure (wpAny_pure ?_)
   unfold WU at q1 q2
   rw [if_neg (by rw [hc'];simp),getElem?_map,Array.getElem?_toList] at q2
   rw [hbe]
   by_cases hi:i < xs.size
   ·have hip:i < t.place.size:=by omega
    rw [Array.getElem?_eq_getElem hi,Array.getElem?_eq_getElem hip]
    refine q1 _ _ ?_ (.inr (Zfm ht.rz hip))
    rw [if_neg (by rw [hc'];simp),getElem?_map,Array.getElem?_toList,Array.getElem?_eq_getElem hi];rfl
   ·rw [Array.getElem?_eq_none (by omega)]
    exact q2 (by rw [Array.getElem?_eq_none (by omega)];rfl)
theorem Vd {x:Value}{j:Nat}{vs:Array Value}(ho:s.heap.get? I=some { cls:=.type "set_iterator",data:=.fields vs }):(s.heap.update I (Obj.mapFields (·.setIfInBounds j x))).get? I=some { cls:=.type "set_iterator",data:=.fields (vs.setIfInBounds j x) } :=
 Heap.get?_update_self (Obj.mapFields (·.setIfInBounds j x)) ho rfl
abbrev itO (f:Value)(i:Nat)(a:Addr)(n ep:Nat):Obj:={ cls:=.type "set_iterator",data:=.fields #[f,rawInt i,.ref a,rawInt n,rawInt ep] }
theorem ZdO {g:Shared}{Q:Option Value->Shared->Prop}(hh:A.handled=none)(q:∀ h',(∀ b o,g.heap.get? b=some o->h'.get? b=some o)->Q none { g with heap:=h' })
 {R:PySem.Fin->Shared->Prop} {E':Value->Shared->Prop} (hE:∀ e s',wpAny (model prog w) A (do if (<- isInstance e (Value.type "StopIteration"))=true then pure none else throw e) Q E s'->E' e s'):wpAny (model prog w) A.in1 (do let e <- newExc (Value.type "StopIteration") [];raiseNew e) R E' g:=by
 refine wpAny_bind ?_
 simp only [newExc,newTuple]
 refine wpAny_bind (wpAny_newObj_type ?_ (by size_fits))
 refine wpAny_bind (m:=firstArgMember _ _) (wpAny_of_eq (a:=Value.none) (by first | rfl | (simp only [firstArgMember];rfl)) ?_)
 refine wpAny_newObj_type ?_ (by size_fits)
 simp only [raiseNew]
 refine wpAny_bind (wpAny_handled ?_)
 rw [show A.in1.handled=none from hh]
 refine wpAny_bind (wpAny_pure (wpAny_throw (hE _ _ ?_)))
 refine wpAny_bind (wpAny_isInstance (T:="StopIteration") (b:=true) ⟨_,Heap.get?_push_size _ rfl,rfl⟩ isSubtype_stop (wpAny_pure (q _ fun b o e=>?_)))
 exact Heap.get?_push_of_some _ (Heap.get?_push_of_some _ e)
theorem Zcp {slot:Nat}{Q:Option Value->Shared->Prop}(hI:s.heap.get? I=some (itO (rawInt slot) i a xs.size ep))(hR:SetRw s.heap a xs ep t)(hf:t.fits xs.size=true)(ht:TOk (YS w) t)(hnd:YS w=true\/(!t.plain&&decide (xs.size > 1))=false)(hs:Vq w t i slot)(hh:A.handled=none)
 (q1:∀ v slot' h',(WU w a ep xs)[i]?=some v->Vq w t (i+1) slot'->h'.get? I=some (itO (rawInt slot') (i+1) a xs.size ep)->Heap.ExtBut I s.heap h'->Q (some v) { s with heap:=h' })
 (q2:∀ h',(WU w a ep xs)[i]?=none->Heap.ExtBut I s.heap h'->Q none { s with heap:=h' }):wpAny (model prog w) A (pyNext (.ref I)) Q E s:=by
 have hT:s.TypeIs (.ref I) "set_iterator":=⟨_,hI,rfl⟩
 obtain ⟨o,ho,hx,hd⟩:=id hR
 unfold pyNext
 refine wpAny_bind (wpAny_attempt (wpAny_callSpecial?_slot (name:=Str.ofString "__next__") hT slot_seti_next (wpAny_call_entry slot_seti_next hT Uh ?_ (Ux _))))
 unfold Builtin.«set_iterator.__next__»
 refine wpAny_bind (wpAny_pure (wpAny_bind (wpAny_fieldsOf hI rfl ?_)))
 show wpAny (model prog w) A.in1 (setEntries a >>= _) _ _ s
 refine wpAny_bind (wpAny_setEntries_of ho hd hf ?_)
 dsimp only
 rw [if_neg (by simp)]
 show wpAny (model prog w) A.in1 (setNext a (slot:Int).toNat (i:Int).toNat (ep:Int).toNat >>= _) _ _ s
 rw [Int.toNat_natCast,Int.toNat_natCast,Int.toNat_natCast]
 refine wpAny_bind (ZfZ hR hf ht hnd hs (fun v slot' hv hs'=>?_) (fun hv=>?_))
 ·dsimp only
  refine wpAny_bind (wpAny_setField hI rfl (by simp) ?_)
  have h1:=Vd (x:=rawInt slot') (j:=0) hI
  refine wpAny_bind (wpAny_setField (s:={ s with heap:=_ }) h1 rfl (by simp) ?_)
  have h2:=Vd (s:={ s with heap:=_ }) (x:=rawInt ((i:Int)+1)) (j:=1) h1
  exact wpAny_pure ⟨_,rfl,wpAny_pure (q1 v slot' _ hv hs' h2 (((Heap.SameBut.update ..).extBut).trans (Heap.SameBut.update ..).extBut))⟩
 ·dsimp only
  refine wpAny_bind (wpAny_setField hI rfl (by simp) ?_)
  exact ZdO (g:={ s with heap:=s.heap.update I (Obj.mapFields (·.setIfInBounds 2 Value.none)) }) hh (fun h' k=>q2 h' hv fun b o nb e=>k b o ((Heap.SameBut.update s.heap I _).extBut b o nb e)) fun e s' z=>z
theorem Zbb {T:Addr}{ys:List Nat}{e0:Nat}{Q:Option Value->Shared->Prop}(hI:s.heap.get? I=some (itO (.ref T) i a xs.size ep))(hT:s.heap.get? T=some { cls:=.type "tuple",data:=.seq (ys.map fun (i:Nat)=>rawInt i).toArray e0 })(hR:SetRw s.heap a xs ep t)(hf:t.fits xs.size=true)(hy:∀ y∈ys,y < xs.size)(hh:A.handled=none)
 (q1:∀ (y:Nat) (v:Int×Value) h',ys[i]?=some y->xs[y]?=some v->h'.get? I=some (itO (.ref T) (i+1) a xs.size ep)->Heap.ExtBut I s.heap h'->Q (some v.2) { s with heap:=h' })
 (q2:∀ h',ys[i]?=none->Heap.ExtBut I s.heap h'->Q none { s with heap:=h' }):wpAny (model prog w) A (pyNext (.ref I)) Q E s:=by
 have hTI:s.TypeIs (.ref I) "set_iterator":=⟨_,hI,rfl⟩
 obtain ⟨o,ho,hx,hd⟩:=id hR
 unfold pyNext
 refine wpAny_bind (wpAny_attempt (wpAny_callSpecial?_slot (name:=Str.ofString "__next__") hTI slot_seti_next (wpAny_call_entry slot_seti_next hTI Uh ?_ (Ux _))))
 unfold Builtin.«set_iterator.__next__»
 refine wpAny_bind (wpAny_pure (wpAny_bind (wpAny_fieldsOf hI rfl ?_)))
 show wpAny (model prog w) A.in1 (setEntries a >>= _) _ _ s
 refine wpAny_bind (wpAny_setEntries_of ho hd hf ?_)
 dsimp only
 rw [if_neg (by simp)]
 show wpAny (model prog w) A.in1 (seqItems? (.ref T) >>= _) _ _ s
 refine wpAny_bind (wpAny_bind (wpAny_load hT (wpAny_pure ?_)))
 dsimp only
 rw [Int.toNat_natCast,List.getElem?_toArray,getElem?_map]
 cases e:ys[i]? with
 | none =>
  dsimp only [Option.map_none]
  refine wpAny_bind (wpAny_setField hI rfl (by simp) ?_)
  have h1:=Vd (x:=rawInt 0) (j:=0) hI
  refine wpAny_bind (wpAny_setField (s:={ s with heap:=_ }) h1 rfl (by simp) ?_)
  refine ZdO (g:={ s with heap:=(s.heap.update I (Obj.mapFields (·.setIfInBounds 0 (rawInt 0)))).update I (Obj.mapFields (·.setIfInBounds 2 Value.none)) }) hh (fun h' k=>q2 h' e fun b o nb z=>k b o ?_) fun e s' z=>z
  exact (((Heap.SameBut.update ..).extBut).trans (Heap.SameBut.update ..).extBut) b o nb z
 | some y =>
  have hlt:=hy y (mem_of_getElem? e)
  show wpAny (model prog w) A.in1 (setNextDrawn a (y:Int).toNat (ep:Int).toNat >>= _) _ _ s
  rw [Int.toNat_natCast,Int.toNat_natCast]
  refine wpAny_bind ?_
  unfold setNextDrawn
  refine wpAny_bind (wpAny_setState_of ho hd hf ?_)
  dsimp only
  rw [if_neg (by simp),Array.getElem?_eq_getElem hlt]
  refine wpAny_pure ?_
  refine wpAny_bind (wpAny_setField hI rfl (by simp) ?_)
  have h1:=Vd (x:=rawInt ((i:Int)+1)) (j:=1) hI
  exact wpAny_pure ⟨_,rfl,wpAny_pure (q1 y _ _ e (Array.getElem?_eq_getElem hlt) h1 (Heap.SameBut.update ..).extBut)⟩
end
end L2
namespace L2
open PySem PySem.W PySem.Spec PyProof.Rows
theorem ZaK:entryFor table "set_iterator.__iter__"=some Builtin.«dict_keyiterator.__iter__»:=entryFor_alias (id':="dict_keyiterator.__iter__") (by kernel_rfl) rfl (by decide +kernel) (by kernel_rfl)
theorem SetRw.keep {h h':Heap}{a:Addr}{xs:Array (Int×Value)}{ep:Nat}{t:SetTable}(r:SetRw h a xs ep t)(k:∀ o,h.get? a=some o->h'.get? a=some o):SetRw h' a xs ep t:=let ⟨o,ho,q⟩:=r;⟨o,k o ho,q⟩
section
variable {prog:Program}{w:World}{A:Around}{E:Value->Shared->Prop}{s:Shared}{I a T:Addr}{ep e0:Nat}{xs:Array (Int×Value)}{t:SetTable}
theorem Zcj {f:Value}{i n:Nat}{Q:Value->Shared->Prop}(hI:s.heap.get? I=some (itO f i a n ep))(q:Q (.ref I) s):wpAny (model prog w) A (pyIter (.ref I)) Q E s:=by
 have hT:s.TypeIs (.ref I) "set_iterator":=⟨_,hI,rfl⟩
 refine wpAny_pyIter_slot hT UJ (wpAny_call_entry UJ hT ZaK ?_ (Zbw _))
 exact wpAny_pure ⟨_,rfl,"set_iterator",_,hT,slot_seti_next.lookup,q⟩
theorem ZhA (hne:a≠I)(hf:t.fits xs.size=true)(ht:TOk (YS w) t)(hnd:YS w=true\/(!t.plain&&decide (xs.size > 1))=false)(hh:A.handled=none) :
 Walks prog w A I [I,a] [I] xs.size (fun i v=>(WU w a ep xs)[i]?=some v) (fun i h=>(∃ slot:Nat,h.get? I=some (itO (rawInt slot) i a xs.size ep)/\Vq w t i slot)/\SetRw h a xs ep t) where
 sub:=fun b hb=>by simp at hb;simp [hb]
 frame:=fun i h h' ⟨⟨slot,h1,h2⟩,h3⟩ hk=>⟨⟨slot,hk I (by simp) _ h1,h2⟩,h3.keep fun o e=>hk a (by simp) o e⟩
 item:=fun i s Q E hi ⟨⟨slot,h1,h2⟩,h3⟩ hQ=>by
  refine Zcp h1 h3 hf ht hnd h2 hh (fun v slot' h' hv hs' hI' ex=>?_) fun h' hv _=>?_
  ·exact hQ v h' s.toks hv ⟨⟨slot',hI',hs'⟩,h3.keep fun o e=>ex a o hne e⟩ fun b o hb e=>ex b o (fun z=>hb (by simp [z])) e
  ·rw [getElem?_eq_getElem (by rw [Zat];exact hi)] at hv;cases hv
 done:=fun s Q E ⟨⟨slot,h1,h2⟩,h3⟩ hQ=>by
  refine Zcp h1 h3 hf ht hnd h2 hh (fun v slot' h' hv hs' hI' ex=>?_) fun h' hv ex=>?_
  ·rw [List.getElem?_eq_none (by rw [Zat];exact Nat.le_refl _)] at hv;cases hv
  ·exact hQ h' s.toks fun b o hb e=>ex b o (fun z=>hb (by simp [z])) e
 self:=fun i s Q E ⟨⟨slot,h1,_⟩,_⟩ q=>Zcj h1 q
theorem ZfY {ys:List Nat}(hne:a≠I)(hnT:T≠I)(hf:t.fits xs.size=true)(hy:∀ y∈ys,y < xs.size)(hh:A.handled=none) :
 Walks prog w A I [I,a,T] [I] ys.length (fun i v=>∃ (y:Nat) (e:Int×Value),ys[i]?=some y/\xs[y]?=some e/\e.2=v) (fun i h=>h.get? I=some (itO (.ref T) i a xs.size ep)/\h.get? T=some { cls:=.type "tuple",data:=.seq (ys.map fun (i:Nat)=>rawInt i).toArray e0 }/\SetRw h a xs ep t) where
 sub:=fun b hb=>by simp at hb;simp [hb]
 frame:=fun i h h' ⟨h1,h2,h3⟩ hk=>⟨hk I (by simp) _ h1,hk T (by simp) _ h2,h3.keep fun o e=>hk a (by simp) o e⟩
 item:=fun i s Q E hi ⟨h1,h2,h3⟩ hQ=>by
  refine Zbb h1 h2 h3 hf hy hh (fun y v h' hyi hv hI' ex=>?_) fun h' hyi _=>?_
  ·exact hQ v.2 h' s.toks ⟨y,v,hyi,hv,rfl⟩ ⟨hI',ex T _ hnT h2,h3.keep fun o e=>ex a o hne e⟩ fun b o hb e=>ex b o (fun z=>hb (by simp [z])) e
  ·rw [getElem?_eq_getElem hi] at hyi;cases hyi
 done:=fun s Q E ⟨h1,h2,h3⟩ hQ=>by
  refine Zbb h1 h2 h3 hf hy hh (fun y v h' hyi hv hI' ex=>?_) fun h' hyi ex=>?_
  ·rw [List.getElem?_eq_none (Nat.le_refl _)] at hyi;cases hyi
  ·exact hQ h' s.toks fun b o hb e=>ex b o (fun z=>hb (by simp [z])) e
 self:=fun i s Q E ⟨h1,_,_⟩ q=>Zcj h1 q
theorem ZhZ {ks:List Zk}{Q:Value->Shared->Prop}(hh:A.handled=none)(G:SetG prog w s.heap a ks)
 (q:∀ (I:Addr) (h':Heap) (d:Drawn) (fp:List Addr) (n:Nat) (P:Nat->Value->Prop) (St:Nat->Heap->Prop),Walks prog w A I fp [I] n P St->St 0 h'->s.heap.objs.size<=I->(∀ b o,s.heap.get? b=some o->h'.get? b=some o)->(∀ b∈fp,b=a\/s.heap.objs.size<=b)->n=ks.length ->
  (∀ acc:Array Value,ItemsOf P acc n->(acc.toList.map keyOf).Perm ks/\∀ v∈acc.toList,∃ k,YG k v=true)->Q (.ref I) { s with heap:=h',drawn:=d }):wpAny (model prog w) A (pyIter (.ref a)) Q E s:=by
 obtain ⟨o,xs,ep,t,ho,hx,hd,h1,h2,h3,h4,h5,h6⟩:=G
 have hR:SetRw s.heap a xs ep t:=⟨o,ho,hx,hd⟩
 have lt:=Heap.lt_size ho
 have hl:xs.size=ks.length:=by rw [<- h2.length_eq];unfold WE;rw [length_map,Array.length_toList]
 have fin:∀ l:List Value,l.Perm (xs.toList.map (·.2))->(l.map keyOf).Perm ks/\∀ v∈l,∃ k,YG k v=true:=fun l p=>by
  refine ⟨?_,fun v hv=>?_⟩
  ·refine (p.map keyOf).trans ?_
   rw [map_map];exact h2
  ·obtain ⟨e,he,rfl⟩:=mem_map.mp (p.mem_iff.mp hv)
   obtain ⟨⟨k,hk,_⟩,_⟩:=h1 e he
   exact ⟨k,hk⟩
 refine Zej hR h5 h4 (fun hc=>?_) fun ys d hb p=>?_
 ·refine q _ _ s.drawn _ _ _ _ (ZhA (ep:=ep) (Nat.ne_of_lt lt) h5 h6 hc hh) ⟨⟨0,Heap.get?_push_size _ rfl,.inr (Zfn h6.rz)⟩,hR.keep fun o e=>Heap.get?_push_of_some _ e⟩ (Nat.le_refl _) (fun b o e=>Heap.get?_push_of_some _ e) (fun b hb=>?_) hl fun acc hI=>?_
  ·simp only [mem_cons,List.not_mem_nil,or_false] at hb
   rcases hb with rfl | rfl
   ·exact .inr (Nat.le_refl _)
   ·exact .inl rfl
  ·refine fin _ ?_
   have e:acc.toList=WU w a ep xs:=by
    refine List.ext_getElem? fun j=>?_
    by_cases hj:j < acc.size
    ·have hv:=Array.getElem?_eq_getElem hj
     rw [Array.getElem?_toList,hv,hI.2 j _ hv]
    ·rw [Array.getElem?_toList,Array.getElem?_eq_none (by omega),List.getElem?_eq_none (by rw [Zat,<- hI.1];omega)]
   rw [e];exact ordE_perm
 ·have hy : ∀ y∈ys,y < xs.size:=fun y hy=>List.mem_range.mp (p.mem_iff.mp hy)
  have hyl:ys.length=xs.size:=by rw [p.length_eq,length_range]
  refine q _ _ d _ _ _ _ (ZfY (ep:=ep) (e0:=0) (T:=s.heap.objs.size) (ys:=ys) (Nat.ne_of_lt (Nat.lt_succ_of_lt lt)) (Nat.ne_of_lt (Nat.lt_succ_self _)) h5 hy hh) ⟨?_,?_,hR.keep fun o e=>Heap.get?_push_of_some _ (Heap.get?_push_of_some _ e)⟩ (Nat.le_succ _) (fun b o e=>Heap.get?_push_of_some _ (Heap.get?_push_of_some _ e)) (fun b hb=>?_) (hyl.trans hl) fun acc hI=>?_
  ·have:=Heap.get?_push_size (s.heap.push { cls:=.type "tuple",data:=.seq (ys.map fun (i:Nat)=>rawInt i).toArray }) (o:=itO (.ref s.heap.objs.size) 0 a xs.size ep) rfl
   rw [Heap.size_push] at this
   exact this
  ·exact Heap.get?_push_of_some _ (Heap.get?_push_size _ rfl)
  ·simp only [mem_cons,List.not_mem_nil,or_false] at hb
   rcases hb with rfl | rfl | rfl
   ·exact .inr (Nat.le_succ _)
   ·exact .inl rfl
   ·exact .inr (Nat.le_refl _)
  ·refine fin _ ?_
   have e:acc.toList=ys.filterMap fun y=>(xs.toList.map (·.2))[y]?:=by
    have e2:∀ (l:List Nat) (vs:List Value),l.length=vs.length->(∀ (j:Nat) y v,l[j]?=some y->vs[j]?=some v->(xs.toList.map (·.2))[y]?=some v)->vs=l.filterMap fun y=>(xs.toList.map (·.2))[y]?:=by
     intro l
     induction l with
     | nil=>intro vs h _;cases vs with
      | nil=>rfl
      | cons _ _=>cases h
     | cons y l ih =>
      intro vs h hv
      cases vs with
      | nil=>cases h
      | cons v vs =>
       rw [filterMap_cons,hv 0 y v rfl rfl]
       exact congrArg (v::·) (ih vs (by simpa using h) fun j y' v' g1 g2=>hv (j+1) y' v' g1 g2)
    refine e2 ys _ (by rw [Array.length_toList];exact hI.1.symm) fun j y v g1 g2=>?_
    rw [Array.getElem?_toList] at g2
    obtain ⟨y',e',g3,g4,g5⟩:=hI.2 j v g2
    rw [g1] at g3;cases g3
    rw [getElem?_map,Array.getElem?_toList,g4];exact congrArg some g5
   rw [e]
   refine (p.filterMap _).trans ?_
   have:=PySem.List.filterMap_getElem?_range_length (xs.toList.map (·.2))
   rw [length_map,Array.length_toList] at this
   rw [this]
end
end L2
namespace L2
open PySem PySem.Spec PyProof.Rows
section
variable {prog:Program}{w:World}{A:Around}{E:Value->Shared->Prop}{s:Shared}
end
end L2
namespace L2
open PySem PySem.W PySem.Spec PyProof.Rows
section
variable {prog:Program}{w:World}{A:Around}{E:Value->Shared->Prop}{s:Shared}{a:Addr}
theorem ZhY {Q:Bool->Shared->Prop}(hT:s.TypeIs (.ref a) "set")(h:Q false s):wpAny (model prog w) A (Builtin.List.listLengthHint (.ref a)) Q E s:=by
 unfold Builtin.List.listLengthHint
 refine wpAny_bind (wpAny_specialOf hT PySem.F.slot_set_len.lookup ?_)
 generalize hz:("set.__len__":String)=z
 wp_delta
 rw [show splitId z=some ("set","__len__") from by subst hz;decide +kernel]
 subst hz
 refine wpAny_bind (wpAny_isInstance (T:="set") (b:=true) hT (by rw [isSubtype_type];kernel_rfl) ?_)
 refine wpAny_ite_split (fun y=>absurd y (by decide)) (fun _=>?_)
 refine wpAny_ite_split (fun _=>wpAny_bind (wpAny_typeOf hT (wpAny_pure h))) (fun y=>absurd (by decide +kernel) y)
theorem Zed {ks:List Zk}{R:List Value->Shared->Prop}(hh:A.handled=none)(G:SetG prog w s.heap a ks)
   (k:∀ (h':Heap) (d:Drawn) (tk:Nat) (acc:Array Value),s.heap.objs.size < h'.objs.size->(∀ b o,s.heap.get? b=some o->h'.get? b=some o)->(acc.toList.map keyOf).Perm ks->(∀ v∈acc.toList,∃ k,YG k v=true)->R acc.toList { s with heap:=h',drawn:=d,toks:=tk }) :
   wpAny (model prog w) A (collect (.ref a)) R E s:=by
 have hks:ks.length<=sizeLine:=by
   obtain ⟨o,xs,ep,t,ho,hx,hd,h1,h2,h3,h4,h5,h6⟩:=G
   rw [<- h2.length_eq];unfold WE;rw [length_map,Array.length_toList];exact fits_of_scanBound h4
 have here:(s.heap.push { cls:=.type "list",data:=.seq ([]:List Value).toArray }).get? s.heap.objs.size=some { cls:=.type "list",data:=.seq #[] }:=Heap.get?_push_size _ rfl
 let Fn:Result->Shared->Prop:=fun q s'=>∃ (h':Heap) (d:Drawn) (tk:Nat) (its:Array Value) (c:Nat),(q=.ok (.ret (.ref s.heap.objs.size))/\s'={ s with heap:=h',drawn:=d,toks:=tk })/\(∀ b o,s.heap.get? b=some o->h'.get? b=some o)/\h'.get? s.heap.objs.size=some { cls:=.type "list",dict:=none,data:=.seq its c,slots:=#[] }/\(its.toList.map keyOf).Perm ks/\∀ v∈its.toList,∃ k,YG k v=true
 have fin:∀ s',Fn (.ok (.ret (.ref s.heap.objs.size))) s'->wpAny (model prog w) A (do match (<- load s.heap.objs.size).data with | .seq xs _=>pure xs.toList | _=>unsupported "internal:collect") R E s':=by
   rintro s' ⟨h',d,tk,its,c,⟨_,rfl⟩,hk,hs,hp,hv⟩
   exact wpAny_bind (wpAny_load hs (wpAny_pure (k h' d tk its (Heap.lt_size hs) hk hp hv)))
 have G1:SetG prog w (s.heap.push { cls:=.type "list",data:=.seq ([]:List Value).toArray }) a ks:=G.keep fun o e=>Heap.get?_push_of_some _ e
 have hal:a < s.heap.objs.size:=by obtain ⟨o,_,_,_,ho,_⟩:=G;exact Heap.lt_size ho
 have hT:Shared.TypeIs { s with heap:=s.heap.push { cls:=.type "list",data:=.seq ([]:List Value).toArray } } (.ref a) "set":=by obtain ⟨o,_,_,_,ho,hx,_⟩:=G1;exact ⟨o,ho,hx.1⟩
 have run:wpAny (model prog w) A.in1 (Builtin.List.listExtendWith (.ref s.heap.objs.size) (.ref a) (.ref s.heap.objs.size))
     (fun fin s'=>match fin with | .done f=>Fn (.ok f) s' | .again c'=>c'.quiet=true/\codeAny (model prog w) A c' Fn s') (fun e s'=>Fn (.error e) s') { s with heap:=s.heap.push { cls:=.type "list",data:=.seq ([]:List Value).toArray } }:=by
   unfold Builtin.List.listExtendWith
   refine wpAny_bind (wpAny_typeOf (T:="set") hT ?_)
   have n1:Builtin.List.listSameRef (.ref s.heap.objs.size) (.ref a)=false:=by simp [Builtin.List.listSameRef,Nat.ne_of_gt hal]
   have n2:(Value.type "set" == Value.type "list")=false:=by decide
   have n3:(Value.type "set" == Value.type "tuple")=false:=by decide
   simp only [n1,n2,n3,Bool.or_false,Bool.false_eq_true,if_false]
   refine wpAny_bind (ZhZ (A:=A.in1) hh G1 fun I h1 d fp n P St W st hI hk hfp hn hP=>?_)
   rw [Heap.size_push] at hI hfp
   have ne1:s.heap.objs.size ∉ fp:=fun z=>by
     rcases hfp _ z with y | y
     · exact Nat.ne_of_gt hal y
     · exact absurd y (Nat.not_succ_le_self _)
   have key:∀ (h:Heap) (c:Nat),St 0 h->(∀ b o,s.heap.get? b=some o->h.get? b=some o)->h.get? s.heap.objs.size=some { cls:=.type "list",dict:=none,data:=.seq #[] c,slots:=#[] } ->
       codeAny (model prog w) A (.builtin "list.extend.loop" ⟨[.ref s.heap.objs.size,.ref I,.ref s.heap.objs.size],[]⟩) Fn { s with heap:=h,drawn:=d }:=fun h c hst hkp hS=>by
     refine codeAny_extend_loopS W.toS (by rw [hn];exact hks) s.heap.objs.size ne1 (.ref s.heap.objs.size) n 0 _ #[] c rfl (Nat.zero_le _) hst hS (ItemsOf.nil _) fun s' acc c' mv hS' hacc=>?_
     obtain ⟨h2,g2,d2,tk2,os2⟩:=s'
     have eg:g2=s.gens:=mv.gens
     have ed:d2=d:=mv.drawn
     have eo:os2=s.os:=mv.os
     subst eg ed eo
     refine ⟨h2,d2,tk2,acc,c',⟨rfl,rfl⟩,fun b o e=>mv.heap b o (fun z=>?_) (hkp b o e),hS',hP acc hacc⟩
     have lb:=Heap.lt_size e
     rcases mem_cons.mp z with y | y
     · exact Nat.ne_of_lt lb y
     · rw [mem_singleton.mp y] at lb
       exact absurd (Nat.lt_of_lt_of_le lb (Nat.le_of_succ_le hI)) (Nat.lt_irrefl _)
   have hS1:=hk _ _ here
   have hkp:∀ b o,s.heap.get? b=some o->h1.get? b=some o:=fun b o e=>hk b o (Heap.get?_push_of_some _ e)
   have hT1:Shared.TypeIs { s with heap:=h1,drawn:=d } (.ref a) "set":=by obtain ⟨o,ho,hc⟩:=hT;exact ⟨o,hk _ _ ho,hc⟩
   refine wpAny_bind (wpAny_holding (ZhY (s:={ s with heap:=h1,drawn:=d }) hT1 ?_))
   refine wpAny_ite_split (fun _=>?_) (fun _=>wpAny_pure ⟨plainId_quiet PySem.F.plain_extend_loop _,key _ _ st hkp hS1⟩)
   refine wpAny_bind (wpAny_rule (wpAny_bind ?_))
   show wpAny _ _ (updateSeq s.heap.objs.size (·.push .none) >>= fun _=>updateSeq s.heap.objs.size (·.pop)) _ _ _
   refine wpAny_bind (wpAny_updateSeq hS1 rfl ?_)
   have hS2:=Heap.get?_update_self (Obj.mapSeq (·.push Value.none)) hS1 rfl
   refine wpAny_updateSeq (hz:=by seq_fits) hS2 rfl ?_
   have hS3:=Heap.get?_update_self (Obj.mapSeq (·.pop)) hS2 rfl
   have up:∀ b,b≠s.heap.objs.size->∀ o,h1.get? b=some o->((h1.update s.heap.objs.size (Obj.mapSeq (·.push Value.none))).update s.heap.objs.size (Obj.mapSeq (·.pop))).get? b=some o:=fun b nb o e =>
     (Heap.get?_update_other _ _ (Ne.symm nb)).trans ((Heap.get?_update_other _ _ (Ne.symm nb)).trans e)
   exact wpAny_pure ⟨plainId_quiet PySem.F.plain_extend_loop _,key _ _ (W.frame 0 _ _ st fun b hb o e=>up b (fun z=>ne1 (z ▸ hb)) o e) (fun b o e=>up b (Nat.ne_of_lt (Heap.lt_size e)) o (hkp b o e)) hS3⟩
 unfold collect
 refine wpAny_bind (wpAny_runValue (codeAny_builtin entry_proto_collect' ?_))
 rw [Around.under_plainId PySem.F.plain_proto_collect _]
 refine wpAny_bind (m:=newList []) (wpAny_newObj_type (wpAny_pure ⟨plainId_quiet PySem.F.plain_list_iadd _,codeAny_builtin entry_list_iadd' ?_⟩))
 rw [Around.under_plainId PySem.F.plain_list_iadd _]
 refine wpAny_mono run (fun f s' x=>?_) fun e s' x=>?_
 · cases f with
   | done f =>
     obtain ⟨h',d,tk,its,c,⟨e,e2⟩,r'⟩:=x
     cases e
     exact fin s' ⟨h',d,tk,its,c,⟨rfl,e2⟩,r'⟩
   | again c₁ =>
     refine ⟨x.1,codeAny_mono x.2 fun q s₂ y=>?_⟩
     obtain ⟨h',d,tk,its,c,⟨e,e2⟩,r'⟩:=y
     subst e
     exact fin s₂ ⟨h',d,tk,its,c,⟨rfl,e2⟩,r'⟩
 · obtain ⟨_,_,_,_,_,⟨e',_⟩,_⟩:=x
   cases e'
end
def XI (P:Program)(w:World)(p:Addr)(ks:List Zk):Heap->Prop:=fun h=>SetG P w h p ks
theorem ZeD {k:Zk}{v:Value}(h:RelV (kV k) v):YG k v=true:=by
 cases k with
 | inl i=>obtain ⟨t,rfl⟩:=h;exact Zck i t
 | inr x=>obtain ⟨t,rfl⟩:=h;exact Zcl x t
section
variable {X:Cx}
theorem Inv.draw {pins:List (Addr×Obj)}{σ:St}{H:Hp}{s:Shared}(I:Inv X pins σ H s)(d:Drawn):Inv X pins σ H { s with drawn:=d } :=
 ⟨I.ok,I.os,I.bare,I.base,I.loc,I.cell,I.free,I.freeC,I.pin,I.hok,I.len⟩
theorem ZgG {l ns:List Int}(h:(l.map (Sum.inl:Int->Zk)).Perm (ns.map Sum.inl)):l.Perm ns:=by
 have e:∀ l:List Int,(l.map (Sum.inl:Int->Zk)).filterMap Sum.getLeft?=l:=fun l=>by
  induction l with
  | nil=>rfl
  | cons a r ih=>rw [map_cons,filterMap_cons];exact congrArg (a::·) ih
 have:=h.filterMap Sum.getLeft?
 rwa [e,e] at this
theorem Zcg:∀{vs:List Value}{ns:List Int},(∀ v∈vs,∃ k,YG k v=true)->(∀ v∈vs,keyOf v∈ns.map (Sum.inl:Int->Zk))->∃ l,IntsAre vs l/\vs.map keyOf=l.map Sum.inl
 | [],_,_,_=>⟨[],.nil,rfl⟩
 | v :: vs,ns,h,g=>by
  obtain ⟨l,h1,h2⟩:=Zcg (vs:=vs) (ns:=ns) (fun u hu=>h u (mem_cons_of_mem _ hu)) (fun u hu=>g u (mem_cons_of_mem _ hu))
  obtain ⟨k,hk⟩:=h v mem_cons_self
  obtain ⟨i,_,e⟩:=mem_map.mp (g v mem_cons_self)
  rw [UZ hk] at e
  subst e
  obtain ⟨j,t,e1,rfl⟩ | ⟨x,t,e1,_⟩:=ZO hk
  ·cases e1
   exact ⟨i::l,.cons i t h1,by rw [map_cons,map_cons,h2];rfl⟩
  ·cases e1
end
end L2
namespace L2
open PySem PyProof.Rows
def Xh:Bool->Keyed->Array Keyed->Nat->Nat->Nat->StateT SortSt Sem (Option Nat):=sortPriv% PySem.Builtin.gallop
theorem Zfs (left:Bool)(key:Keyed)(arr:Array Keyed)(base n hint:Nat):Xh left key arr base n hint=(do
 let beyond (i:Nat):StateT SortSt Sem (Option Bool):=do
  let x <- elem' arr (base+i)
  if left then lt' x key else return (<- lt' key x).map (!·)
 let mut lastofs:=0
 let mut ofs:=1
 let mut lo:=0
 let mut hi:=0
 let some right <- beyond hint | return none
 if right then
  let maxofs:=n - hint
  for _ in [0:n] do
   if ofs ≥ maxofs then break
   let some more <- beyond (hint+ofs) | return none
   if !more then break
   lastofs:=ofs
   ofs:=2 * ofs+1
  lo:=hint+lastofs+1
  hi:=hint+min ofs maxofs
 else
  let maxofs:=hint+1
  for _ in [0:n] do
   if ofs ≥ maxofs then break
   let some found <- beyond (hint - ofs) | return none
   if found then break
   lastofs:=ofs
   ofs:=2 * ofs+1
  lo:=hint+1 - min ofs maxofs
  hi:=hint - lastofs
 for _ in [0:n] do
  if lo ≥ hi then break
  let m:=lo+(hi - lo) / 2
  let some more <- beyond m | return none
  if more then lo:=m+1 else hi:=m
 return some hi):=rfl
section
variable {prog:Program}{w:World}{A:Around}{E:Value->Shared->Prop}{s:Shared}{κ:PyProof.Rows.KeyKind}
def Zag (κ:PyProof.Rows.KeyKind)(left:Bool)(kv a:κ.α):Bool:=if left then κ.blt a kv else !κ.blt kv a
theorem VO (hO:κ.OneLt){st:SortSt}{x y:Keyed}{a b:κ.α}{Q:Option Bool->SortSt->Prop}(hk:kindOf st=oneType')(ha:κ.keyOf x.1=some a)(hb:κ.keyOf y.1=some b)(h:Q (some (κ.blt a b)) st) :
 wpS (model prog w) A E s (lt' x y) Q st:=by
 rw [lt'_eq]
 refine wpS_bind (wpS_get ?_)
 rw [hk,keyLt'_oneType]
 refine wpS_bind (wpS_lift (wpAny_attempt (hO prog w A _ s x.1 y.1 a b ha hb ⟨rfl,?_⟩)))
 exact wpS_pure h
theorem Zp {st:SortSt}{arr:Array Keyed}{i:Nat}{p:Keyed}{Q:Keyed->SortSt->Prop}(e:arr[i]?=some p)(h:Q p st):wpS (model prog w) A E s (elem' arr i) Q st:=by
 rw [elem'_eq,e];exact wpS_pure h
theorem Zbt (hO:κ.OneLt){st:SortSt}{left:Bool}{key:Keyed}{kv:κ.α}{arr:Array Keyed}{base n hint:Nat}{Q:Option Nat->SortSt->Prop}(hk:kindOf st=oneType')(hkv:κ.keyOf key.1=some kv)
   (hel:∀ i,i < n->∃ p a,arr[base+i]?=some p/\κ.keyOf p.1=some a/\KK κ arr (base+i)=a) (hh:hint < n)
   (mono:∀ i j,i<=j->j < n->Zag κ left kv (KK κ arr (base+j))=true->Zag κ left kv (KK κ arr (base+i))=true)
   (h:∀ k,k<=n->(∀ i,i < k->Zag κ left kv (KK κ arr (base+i))=true)->(∀ i,k<=i->i < n->Zag κ left kv (KK κ arr (base+i))=false)->Q (some k) st) :
   wpS (model prog w) A E s (Xh left key arr base n hint) Q st:=by
 have bey:∀ (i:Nat) (Q:Option Bool->SortSt->Prop),i < n->Q (some (Zag κ left kv (KK κ arr (base+i)))) st ->
     wpS (model prog w) A E s (do
       let x <- elem' arr (base+i)
       if left then lt' x key else return (<- lt' key x).map (!·)) Q st:=fun i Q hi q=>by
   obtain ⟨p,a,e,ha,hK⟩:=hel i hi
   refine wpS_bind (Zp e ?_)
   rw [hK] at q
   cases left with
   | true=>exact VO hO hk ha hkv q
   | false=>exact wpS_bind (VO hO hk hkv ha (wpS_pure q))
 generalize hB:(fun i=>Zag κ left kv (KK κ arr (base+i)))=B at *
 have eB:∀ i,Zag κ left kv (KK κ arr (base+i))=B i:=fun i=>by rw [<- hB]
 simp only [eB] at bey mono h
 rw [Zfs]
 dsimp only
 have bin:∀ (f:Nat->Option (Option Nat)×Nat×Nat->StateT SortSt Sem (ForInStep (Option (Option Nat)×Nat×Nat))),
     (∀ x l r (Q:ForInStep (Option (Option Nat)×Nat×Nat)->SortSt->Prop),r<=n->(r<=l->Q (.done (none,l,r)) st)->(l < r->B (l+(r - l) / 2)=true->Q (.yield (none,l+(r - l) / 2+1,r)) st)->(l < r->B (l+(r - l) / 2)=false->Q (.yield (none,l,l+(r - l) / 2)) st)->wpS (model prog w) A E s (f x (none,l,r)) Q st) ->
     ∀ (lo hi:Nat),lo<=hi->hi<=n->(∀ i,i < lo->B i=true)->(∀ i,hi<=i->i < n->B i=false) ->
     wpS (model prog w) A E s (forIn [0:n] ((none,lo,hi):Option (Option Nat)×Nat×Nat) f) (fun c st'=>st'=st/\∃ l,c=(none,l,l)/\l<=n/\(∀ i,i < l->B i=true)/\(∀ i,l<=i->i < n->B i=false)) st:=by
   intro f hf lo hi h1 h2 h3 h4
   refine wpS_forRange (I:=fun x c st'=>st'=st/\∃ l r,c=(none,l,r)/\l<=r/\r<=n/\r - l<=n - x/\(∀ i,i < l->B i=true)/\(∀ i,r<=i->i < n->B i=false)) ?step ?fin ⟨rfl,lo,hi,rfl,h1,h2,by omega,h3,h4⟩
   case fin =>
     rintro c st' ⟨rfl,l,r,rfl,a1,a2,a3,a4,a5⟩
     have:l=r:=by omega
     subst this
     exact ⟨rfl,l,rfl,a2,a4,a5⟩
   case step =>
     rintro x c st' _ hx ⟨rfl,l,r,rfl,a1,a2,a3,a4,a5⟩
     refine hf x l r _ a2 (fun z=>?_) (fun z hm=>?_) (fun z hm=>?_)
     · have:l=r:=by omega
       subst this
       exact ⟨rfl,l,rfl,a2,a4,a5⟩
     · exact ⟨rfl,_,r,rfl,by omega,a2,by omega,fun i hi=>mono i (l+(r - l) / 2) (by omega) (by omega) hm,a5⟩
     · refine ⟨rfl,l,_,rfl,by omega,by omega,by omega,a4,fun i i1 i2=>?_⟩
       cases hb:B i with
       | false=>rfl
       | true=>exact absurd (mono _ i i1 i2 hb) (by rw [hm];decide)
 have up:∀ (k:Nat),k < n->B k=true->∀ i,i < k+1->B i=true:=fun k hk hb i hi=>mono i k (by omega) hk hb
 have dn:∀ (k:Nat),k < n->B k=false->∀ i,k<=i->i < n->B i=false:=fun k hk hb i i1 i2=>by
   cases e:B i with
   | false=>rfl
   | true=>exact absurd (mono k i i1 i2 e) (by rw [hb];decide)
 refine wpS_bind (bey hint _ hh ?_)
 dsimp only
 cases hB0:B hint with
 | true =>
   rw [if_pos rfl]
   refine wpS_bind (wpS_mono (wpS_forRange (I:=fun x c st'=>st'=st/\∃ l o,c=(none,l,o)/\l < o/\x < o/\hint+l < n/\B (hint+l)=true)
     (Q:=fun c st'=>st'=st/\∃ l o,c=(none,l,o)/\l < o/\hint+l < n/\B (hint+l)=true/\(o ≥ n - hint\/(hint+o < n/\B (hint+o)=false))) ?step ?fin ⟨rfl,0,1,rfl,by omega,by omega,by omega,hB0⟩) ?post)
   case fin =>
     rintro c st' ⟨rfl,l,o,rfl,a1,a2,a3,a4⟩
     exact ⟨rfl,l,o,rfl,a1,a3,a4,.inl (by omega)⟩
   case step =>
     rintro x c st' _ hx ⟨rfl,l,o,rfl,a1,a2,a3,a4⟩
     dsimp only
     by_cases hge:o ≥ n - hint
     · rw [if_pos hge];exact wpS_pure ⟨rfl,l,o,rfl,a1,a3,a4,.inl hge⟩
     · rw [if_neg hge]
       refine wpS_bind (bey _ _ (by omega) ?_)
       dsimp only
       cases hm:B (hint+o) with
       | true=>exact wpS_pure ⟨rfl,o,_,rfl,by omega,by omega,by omega,hm⟩
       | false=>exact wpS_pure ⟨rfl,l,o,rfl,a1,a3,a4,.inr ⟨by omega,hm⟩⟩
   case post =>
     rintro c st' ⟨rfl,l,o,rfl,a1,a3,a4,a5⟩
     dsimp only
     refine wpS_bind (wpS_mono (bin _ (fun x l r Q hr q1 q2 q3=>?_) (hint+l+1) (hint+min o (n - hint)) (by omega) (by omega) (fun i hi=>?_) fun i i1 i2=>?_) fun c st' ⟨e1,l9,e2,b1,b2,b3⟩=>?_)
     · dsimp only
       by_cases hge:l ≥ r
       · rw [if_pos hge];exact wpS_pure (q1 hge)
       · rw [if_neg hge]
         refine wpS_bind (bey _ _ (by omega) ?_)
         dsimp only
         cases hm:B (l+(r - l) / 2) with
         | true=>exact wpS_pure (q2 (by omega) hm)
         | false=>exact wpS_pure (q3 (by omega) hm)
     · exact up (hint+l) a3 a4 i (by omega)
     · rcases a5 with z | ⟨z1,z2⟩
       · omega
       · exact dn (hint+o) z1 z2 i (by omega) i2
     · subst e1 e2
       exact wpS_pure (h l9 b1 b2 b3)
 | false =>
   rw [if_neg (by decide)]
   refine wpS_bind (wpS_mono (wpS_forRange (I:=fun x c st'=>st'=st/\∃ l o,c=(none,l,o)/\l < o/\x < o/\l<=hint/\B (hint - l)=false)
     (Q:=fun c st'=>st'=st/\∃ l o,c=(none,l,o)/\l < o/\l<=hint/\B (hint - l)=false/\(o ≥ hint+1\/(o<=hint/\B (hint - o)=true))) ?step ?fin ⟨rfl,0,1,rfl,by omega,by omega,by omega,hB0⟩) ?post)
   case fin =>
     rintro c st' ⟨rfl,l,o,rfl,a1,a2,a3,a4⟩
     exact ⟨rfl,l,o,rfl,a1,a3,a4,.inl (by omega)⟩
   case step =>
     rintro x c st' _ hx ⟨rfl,l,o,rfl,a1,a2,a3,a4⟩
     dsimp only
     by_cases hge:o ≥ hint+1
     · rw [if_pos hge];exact wpS_pure ⟨rfl,l,o,rfl,a1,a3,a4,.inl hge⟩
     · rw [if_neg hge]
       refine wpS_bind (bey _ _ (by omega) ?_)
       dsimp only
       cases hm:B (hint - o) with
       | true=>exact wpS_pure ⟨rfl,l,o,rfl,a1,a3,a4,.inr ⟨by omega,hm⟩⟩
       | false=>exact wpS_pure ⟨rfl,o,_,rfl,by omega,by omega,by omega,hm⟩
   case post =>
     rintro c st' ⟨rfl,l,o,rfl,a1,a3,a4,a5⟩
     dsimp only
     refine wpS_bind (wpS_mono (bin _ (fun x l r Q hr q1 q2 q3=>?_) (hint+1 - min o (hint+1)) (hint - l) (by omega) (by omega) (fun i hi=>?_) fun i i1 i2=>?_) fun c st' ⟨e1,l9,e2,b1,b2,b3⟩=>?_)
     · dsimp only
       by_cases hge:l ≥ r
       · rw [if_pos hge];exact wpS_pure (q1 hge)
       · rw [if_neg hge]
         refine wpS_bind (bey _ _ (by omega) ?_)
         dsimp only
         cases hm:B (l+(r - l) / 2) with
         | true=>exact wpS_pure (q2 (by omega) hm)
         | false=>exact wpS_pure (q3 (by omega) hm)
     · rcases a5 with z | ⟨z1,z2⟩
       · omega
       · exact up (hint - o) (by omega) z2 i (by omega)
     · exact dn (hint - l) (by omega) a4 i i1 i2
     · subst e1 e2
       exact wpS_pure (h l9 b1 b2 b3)
end
structure MI {α:Type}(R:α->α->Prop)(T O A B:List α):Prop where
 pm:(O++(A++B)).Perm T
 so:O.Pairwise R
 oa:∀ x∈O,∀ y∈A,R x y
 ob:∀ x∈O,∀ y∈B,R x y
 sa:A.Pairwise R
 sb:B.Pairwise R
section
variable {α:Type}{R:α->α->Prop}{T O A B:List α}
theorem MI.a (M:MI R T O A B)(k:Nat)(h:∀ x∈A.take k,∀ y∈B,R x y):MI R T (O++A.take k) (A.drop k) B:=by
 have e:=take_append_drop k A
 have sa:=M.sa
 rw [<- e,pairwise_append] at sa
 refine ⟨?_,?_,?_,?_,sa.2.1,M.sb⟩
 ·have:=M.pm
  rw [<- e] at this
  rw [append_assoc,<- append_assoc (List.take k A)]
  exact this
 ·rw [pairwise_append]
  exact ⟨M.so,sa.1,fun x hx y hy=>M.oa x hx y (List.mem_of_mem_take hy)⟩
 ·intro x hx y hy
  rcases mem_append.mp hx with z | z
  ·exact M.oa x z y (List.mem_of_mem_drop hy)
  ·exact sa.2.2 x z y hy
 ·intro x hx y hy
  rcases mem_append.mp hx with z | z
  ·exact M.ob x z y hy
  ·exact h x z y hy
theorem MI.swap (M:MI R T O A B):MI R T O B A:=⟨(List.perm_append_comm.append_left O).trans M.pm,M.so,M.ob,M.oa,M.sb,M.sa⟩
theorem MI.b (M:MI R T O A B)(k:Nat)(h:∀ x∈B.take k,∀ y∈A,R x y):MI R T (O++B.take k) A (B.drop k):=(M.swap.a k h).swap
theorem MI.pa {x:α}{A':List α}(M:MI R T O A B)(e:A=x::A')(h:∀ y∈B,R x y):MI R T (O++[x]) A' B:=by
 subst e
 exact M.a 1 fun z hz y hy=>by rw [mem_singleton.mp hz];exact h y hy
theorem MI.pb {x:α}{B':List α}(M:MI R T O A B)(e:B=x::B')(h:∀ y∈A,R x y):MI R T (O++[x]) A B':=(M.swap.pa e h).swap
theorem MI.endA (M:MI R T O A []):(O++A).Perm T/\(O++A).Pairwise R:=by
 refine ⟨by have:=M.pm;rwa [List.append_nil] at this,?_⟩
 rw [pairwise_append];exact ⟨M.so,M.sa,M.oa⟩
theorem MI.endB (M:MI R T O [] B):(O++B).Perm T/\(O++B).Pairwise R:=M.swap.endA
theorem MI.endL (M:MI R T O A B)(h:∀ x∈B,∀ y∈A,R x y):(O++(B++A)).Perm T/\(O++(B++A)).Pairwise R:=by
 refine ⟨M.swap.pm,?_⟩
 rw [pairwise_append,pairwise_append]
 refine ⟨M.so,⟨M.sb,M.sa,h⟩,fun x hx y hy=>?_⟩
 rcases mem_append.mp hy with z | z
 ·exact M.ob x hx y z
 ·exact M.oa x hx y z
end
def Xg:Nat->StateT SortSt Sem Unit:=sortPriv% PySem.Builtin.setMinGallop
theorem Yq (g:Nat):Xg g=modify fun st=>SortSt.mk' (kindOf st) (arrOf st) (pendingOf st) g (failedOf st):=rfl
def Zas:Array Keyed->Array Keyed->StateT SortSt Sem (Array Keyed):=sortPriv% PySem.Builtin.mergeLo
theorem Zeh (a b:Array Keyed):Zas a b=(do
 rule "list.sort.merge-lo"
 let total:=a.size+b.size
 let done (out:Array Keyed) (ia ib:Nat):=out++a.extract ia a.size++b.extract ib b.size
 let lastOfA (out:Array Keyed) (ia ib:Nat):=out++b.extract ib b.size++a.extract ia a.size
 let mut out:Array Keyed:=#[<- elem' b 0]
 let mut ia:=0
 let mut ib:=1
 if ib == b.size then return done out ia ib
 if ia+1 == a.size then return lastOfA out ia ib
 let mut minGallop:=gallopOf (<- get)
 for _ in [0:total] do
  let mut acount:=0
  let mut bcount:=0
  for _ in [0:total] do
   let some bWins <- lt' (<- elem' b ib) (<- elem' a ia) | return done out ia ib
   if bWins then
    out:=out.push (<- elem' b ib);ib:=ib+1;bcount:=bcount+1;acount:=0
    if ib == b.size then return done out ia ib
    if bcount ≥ minGallop then break
   else
    out:=out.push (<- elem' a ia);ia:=ia+1;acount:=acount+1;bcount:=0
    if ia+1 == a.size then return lastOfA out ia ib
    if acount ≥ minGallop then break
  rule "list.sort.gallop"
  minGallop:=minGallop+1
  for _ in [0:total] do
   if minGallop > 1 then minGallop:=minGallop - 1
   Xg minGallop
   let some k <- Xh false (<- elem' b ib) a ia (a.size - ia) 0 | return done out ia ib
   acount:=k
   if k > 0 then
    out:=out++a.extract ia (ia+k);ia:=ia+k
    if ia+1 == a.size then return lastOfA out ia ib
    if ia == a.size then return done out ia ib
   out:=out.push (<- elem' b ib);ib:=ib+1
   if ib == b.size then return done out ia ib
   let some k <- Xh true (<- elem' a ia) b ib (b.size - ib) 0 | return done out ia ib
   bcount:=k
   if k > 0 then
    out:=out++b.extract ib (ib+k);ib:=ib+k
    if ib == b.size then return done out ia ib
   out:=out.push (<- elem' a ia);ia:=ia+1
   if ia+1 == a.size then return lastOfA out ia ib
   if acount < 7&&bcount < 7 then break
  minGallop:=minGallop+1
  Xg minGallop
 unsupported "internal:list.sort.merge-bound"):=rfl
section
variable {prog:Program}{w:World}{A:Around}{E:Value->Shared->Prop}{s:Shared}{κ:PyProof.Rows.KeyKind}
def kf (κ:PyProof.Rows.KeyKind)(p:Keyed):κ.α:=(κ.keyOf p.1).getD κ.dflt
def ZG (κ:PyProof.Rows.KeyKind)(p q:Keyed):Prop:=κ.kle (kf κ p) (kf κ q)
abbrev Ys (st:SortSt)(g:Nat):SortSt:=SortSt.mk' (kindOf st) (arrOf st) (pendingOf st) g (failedOf st)
theorem Zg {M:Model}{σ α:Type}{c:Prop}[Decidable c]{x y:StateT σ Sem α}{Q:α->σ->Prop}{st:σ}(h1:c->wpS M A E s x Q st)(h2:¬ c->wpS M A E s y Q st):wpS M A E s (if c then x else y) Q st:=by
 by_cases h:c
 ·rw [if_pos h];exact h1 h
 ·rw [if_neg h];exact h2 h
theorem VG {a:Array Keyed}{i:Nat}:(a.extract i a.size).toList=a.toList.drop i:=by
 rw [Array.toList_extract,extract_eq_drop_take]
 exact take_of_length_le (by rw [length_drop,Array.length_toList];exact Nat.le_refl _)
theorem XM {a:Array Keyed}{i k:Nat}:(a.extract i (i+k)).toList=(a.toList.drop i).take k:=by
 rw [Array.toList_extract,extract_eq_drop_take,Nat.add_sub_cancel_left]
theorem Ye {arr:Array Keyed}(h:KeysOf κ arr){i:Nat}(hi:i < arr.size):∃ p,arr[i]?=some p/\κ.keyOf p.1=some (kf κ p)/\arr.toList.drop i=p::arr.toList.drop (i+1)/\KK κ arr i=kf κ p:=by
 have e:arr[i]?=some arr[i]:=getElem?_pos _ i hi
 obtain ⟨x,hx⟩:=h arr[i] (by simp)
 have hkf:kf κ arr[i]=x:=by unfold kf;rw [hx];rfl
 refine ⟨arr[i],e,by rw [hkf];exact hx,?_,?_⟩
 ·rw [List.drop_eq_getElem_cons (by rw [Array.length_toList];exact hi),Array.getElem_toList]
 ·unfold KK;rw [e];rfl
theorem Xl {arr:Array Keyed}{i:Nat}{p:Keyed}(e:arr[i]?=some p):KK κ arr i=kf κ p:=by unfold KK;rw [e];rfl
theorem Zhn {arr:Array Keyed}(h:arr.toList.Pairwise (ZG κ)){i j:Nat}(hij:i<=j)(hj:j < arr.size):κ.kle (KK κ arr i) (KK κ arr j):=by
 rcases Nat.lt_or_ge i j with z | z
 ·have:=(pairwise_iff_getElem.mp h) i j (by rw [Array.length_toList];omega) (by rw [Array.length_toList];exact hj) z
  rw [Xl (getElem?_pos arr i (by omega)),Xl (getElem?_pos arr j hj)]
  have this:ZG κ arr[i] arr[j]:=by simpa using this
  exact this
 ·have:i=j:=by omega
  subst this;exact KeyOrd.kle_refl _
theorem Yw (hO:κ.OneLt){st:SortSt}{left:Bool}{key:Keyed}{arr:Array Keyed}{base n hint:Nat}{Q:Option Nat->SortSt->Prop}(hk:kindOf st=oneType')(hkv:κ.keyOf key.1=some (kf κ key))(ha:KeysOf κ arr)(hs:arr.toList.Pairwise (ZG κ))(hb:base+n<=arr.size)(hh:hint < n)
 (h:∀ k,k<=n->(∀ i p,i < k->arr[base+i]?=some p->if left then κ.klt (kf κ p) (kf κ key) else κ.kle (kf κ p) (kf κ key))->(∀ i p,k<=i->i < n->arr[base+i]?=some p->if left then κ.kle (kf κ key) (kf κ p) else κ.klt (kf κ key) (kf κ p))->Q (some k) st) :
 wpS (model prog w) A E s (Xh left key arr base n hint) Q st:=by
 refine Zbt hO hk hkv (fun i hi=>?_) hh (fun i j hij hj hB=>?_) fun k hkn h1 h2=>h k hkn (fun i p hi e=>?_) fun i p i1 i2 e=>?_
 ·obtain ⟨p,e1,e2,_,e3⟩:=Ye ha (show base+i < arr.size by omega)
  exact ⟨p,_,e1,e2,e3⟩
 ·have:=Zhn hs (show base+i<=base+j by omega) (by omega)
  cases left with
  | true=>exact KeyOrd.klt_of_kle_of_klt this hB
  | false =>
   have hB:(!κ.blt (kf κ key) (KK κ arr (base+j)))=true:=hB
   have hB':κ.kle (KK κ arr (base+j)) (kf κ key):=by unfold KeyOrd.kle;simpa using hB
   have:=KeyOrd.kle_trans this hB'
   show (!κ.blt (kf κ key) (KK κ arr (base+i)))=true
   unfold KeyOrd.kle at this
   rw [this];rfl
 ·have:=h1 i hi
  rw [Xl e] at this
  cases left with
  | true=>exact this
  | false =>
   have this:(!κ.blt (kf κ key) (kf κ p))=true:=this
   show κ.blt (kf κ key) (kf κ p)=false
   simpa using this
 ·have:=h2 i i1 i2
  rw [Xl e] at this
  cases left with
  | true=>exact this
  | false =>
   have this:(!κ.blt (kf κ key) (kf κ p))=false:=this
   show κ.blt (kf κ key) (kf κ p)=true
   simpa using this
theorem ZL {x y z:Keyed}(h:ZG κ x y)(g:ZG κ y z):ZG κ x z:=KeyOrd.kle_trans h g
theorem Xr {arr:Array Keyed}(hs:arr.toList.Pairwise (ZG κ)){i:Nat}{p:Keyed}(d:arr.toList.drop i=p::arr.toList.drop (i+1)):∀ y∈arr.toList.drop i,ZG κ p y:=fun y hy=>by
 have h:=hs.sublist (List.drop_sublist i _)
 rw [d] at h hy
 rcases mem_cons.mp hy with rfl | z
 ·exact KeyOrd.kle_refl _
 ·exact (pairwise_cons.mp h).1 y z
theorem ZY {arr:Array Keyed}{i k:Nat}{x:Keyed}(h:x∈(arr.toList.drop i).take k):∃ j,j < k/\arr[i+j]?=some x:=by
 obtain ⟨j,hj,rfl⟩:=mem_iff_getElem.mp h
 rw [length_take] at hj
 refine ⟨j,by omega,?_⟩
 rw [List.getElem_take,List.getElem_drop,Array.getElem_toList]
 exact getElem?_pos _ _ _
theorem Zen (hO:κ.OneLt){st:SortSt}{a b:Array Keyed}{Q:Array Keyed->SortSt->Prop}(hk:kindOf st=oneType')(ka:KeysOf κ a)(kb:KeysOf κ b)
 (sa:a.toList.Pairwise (ZG κ)) (sb:b.toList.Pairwise (ZG κ)) (h0a:0 < a.size) (h0b:0 < b.size) (hf:∀ x∈b.toList.take 1,∀ y∈a.toList,ZG κ x y) (hl:∀ x∈b.toList,∀ y∈a.toList.drop (a.size - 1),ZG κ x y)
 (h:∀ out g,out.toList.Perm (a.toList++b.toList)->out.toList.Pairwise (ZG κ)->Q out (Ys st g)) :
 wpS (model prog w) A E s (Zas a b) Q st:=by
 rw [Zeh]
 dsimp only
 refine wpS_bind (wpS_lift (wpAny_rule ⟨rfl,?_⟩))
 obtain ⟨p0,e0,k0,d0,_⟩:=Ye kb h0b
 refine wpS_bind (Zp e0 ?_)
 have hg:st=Ys st (gallopOf st):=rfl
 have M0:MI (ZG κ) (a.toList++b.toList) (#[p0]:Array Keyed).toList (a.toList.drop 0) (b.toList.drop 1):=by
  have:=MI.b (R:=ZG κ) (T:=a.toList++b.toList) (O:=[]) (A:=a.toList) (B:=b.toList) ⟨.refl _,.nil,(fun _ h=>nomatch h),(fun _ h=>nomatch h),sa,sb⟩ 1 hf
  rw [List.drop_zero] at d0
  rw [d0] at this
  rw [d0];exact this
 have okD:∀ (o:Array Keyed) (ia ib:Nat),MI (ZG κ) (a.toList++b.toList) o.toList (a.toList.drop ia) (b.toList.drop ib)->(ib=b.size\/ia=a.size)->(o++a.extract ia a.size++b.extract ib b.size).toList.Perm (a.toList++b.toList)/\(o++a.extract ia a.size++b.extract ib b.size).toList.Pairwise (ZG κ):=fun o ia ib M hz=>by
  rw [Array.toList_append,Array.toList_append,VG,VG]
  rcases hz with rfl | rfl
  ·rw [show b.toList.drop b.size=[] from List.drop_of_length_le (by rw [Array.length_toList];exact Nat.le_refl _)] at M ⊢
   rw [List.append_nil];exact M.endA
  ·rw [show a.toList.drop a.size=[] from List.drop_of_length_le (by rw [Array.length_toList];exact Nat.le_refl _)] at M ⊢
   rw [List.append_nil];exact M.endB
 have okL:∀ (o:Array Keyed) (ia ib:Nat),MI (ZG κ) (a.toList++b.toList) o.toList (a.toList.drop ia) (b.toList.drop ib)->ia+1=a.size->(o++b.extract ib b.size++a.extract ia a.size).toList.Perm (a.toList++b.toList)/\(o++b.extract ib b.size++a.extract ia a.size).toList.Pairwise (ZG κ):=fun o ia ib M hz=>by
  rw [Array.toList_append,Array.toList_append,VG,VG,append_assoc]
  have e:ia=a.size - 1:=by omega
  exact M.endL fun x hx y hy=>hl x (List.mem_of_mem_drop hx) y (by rw [<- e];exact hy)
 generalize hT:a.toList++b.toList=T at *
 by_cases c1:(1 == b.size)=true
 ·rw [if_pos c1]
  have:=okD _ _ _ M0 (.inl (by simpa using c1))
  exact wpS_pure (hg ▸ h _ _ this.1 this.2)
 rw [if_neg c1]
 by_cases c2:(0+1 == a.size)=true
 ·rw [if_pos c2]
  have:=okL _ _ _ M0 (by simpa using c2)
  exact wpS_pure (hg ▸ h _ _ this.1 this.2)
 rw [if_neg c2]
 have c1':1≠b.size:=by simpa using c1
 have c2':0+1≠a.size:=by simpa using c2
 refine wpS_bind (wpS_get ?_)
 refine wpS_bind (wpS_mono (wpS_forRange
  (I:=fun x c st'=>∃ o ia ib mg g,c=(none,o,ia,ib,mg)/\st'=Ys st g/\MI (ZG κ) T o.toList (a.toList.drop ia) (b.toList.drop ib)/\ia+1 < a.size/\ib < b.size/\(a.size - ia)+(b.size - ib)+x < a.size+b.size)
  (Q:=fun c st'=>∃ r g,c.1=some r/\st'=Ys st g/\r.toList.Perm T/\r.toList.Pairwise (ZG κ)) ?step ?fin
  ⟨_,_,_,_,_,rfl,hg,M0,by omega,by omega,by omega⟩) ?post)
 case fin =>
  rintro c st' ⟨o,ia,ib,mg,g,rfl,rfl,M,h1,h2,h3⟩
  omega
 case post =>
  rintro ⟨c,c'⟩ st' ⟨r,g,e,rfl,h1,h2⟩
  cases e
  exact wpS_pure (h r g h1 h2)
 case step =>
  rintro x c st' _ hx ⟨o,ia,ib,mg,g,rfl,rfl,M,h1,h2,h3⟩
  dsimp only
  refine wpS_bind (wpS_mono (wpS_forRange
   (I:=fun x c st'=>∃ o' ia' ib' ac bc,c=(none,o',ia',ib',ac,bc)/\st'=Ys st g/\MI (ZG κ) T o'.toList (a.toList.drop ia') (b.toList.drop ib')/\ia'+1 < a.size/\ib' < b.size/\(a.size - ia')+(b.size - ib')+x<=(a.size - ia)+(b.size - ib))
   (Q:=fun c st'=>st'=Ys st g/\((∃ r,c.1=some r/\r.toList.Perm T/\r.toList.Pairwise (ZG κ))\/∃ o' ia' ib' ac bc,c=(none,o',ia',ib',ac,bc)/\MI (ZG κ) T o'.toList (a.toList.drop ia') (b.toList.drop ib')/\ia'+1 < a.size/\ib' < b.size/\(a.size - ia')+(b.size - ib') < (a.size - ia)+(b.size - ib))) ?s1 ?f1
   ⟨_,_,_,_,_,rfl,rfl,M,h1,h2,by omega⟩) ?p1)
  case f1 =>
   rintro c st' ⟨o',ia',ib',ac,bc,rfl,rfl,M',g1,g2,g3⟩
   omega
  case s1 =>
   rintro y c st' _ hy ⟨o',ia',ib',ac,bc,rfl,rfl,M',g1,g2,g3⟩
   dsimp only
   obtain ⟨pb,eb,kb1,db,_⟩:=Ye kb g2
   obtain ⟨pa,ea,ka1,da,_⟩:=Ye ka (show ia' < a.size by omega)
   refine wpS_bind (Zp eb (wpS_bind (Zp ea (wpS_bind (VO hO hk kb1 ka1 ?_)))))
   dsimp only
   cases hc:κ.blt (kf κ pb) (kf κ pa) with
   | true =>
    rw [if_pos rfl]
    have M1:MI (ZG κ) T (o'.push pb).toList (a.toList.drop ia') (b.toList.drop (ib'+1)):=by
     rw [Array.toList_push];exact M'.pb db fun y hy=>ZL (KeyOrd.kle_of_klt hc) (Xr sa da y hy)
    refine wpS_bind (Zp eb ?_)
    by_cases q1:(ib'+1 == b.size)=true
    ·rw [if_pos q1];exact wpS_pure ⟨rfl,.inl ⟨_,rfl,okD _ _ _ M1 (.inl (by simpa using q1))⟩⟩
    ·rw [if_neg q1]
     have q1':ib'+1≠b.size:=by simpa using q1
     by_cases q2:bc+1 ≥ mg
     ·rw [if_pos q2];exact wpS_pure ⟨rfl,.inr ⟨_,_,_,_,_,rfl,M1,g1,by omega,by omega⟩⟩
     ·rw [if_neg q2];exact wpS_pure ⟨_,_,_,_,_,rfl,rfl,M1,g1,by omega,by omega⟩
   | false =>
    rw [if_neg (by decide)]
    have M1:MI (ZG κ) T (o'.push pa).toList (a.toList.drop (ia'+1)) (b.toList.drop ib'):=by
     rw [Array.toList_push];exact M'.pa da fun y hy=>ZL (show κ.kle (kf κ pa) (kf κ pb) from hc) (Xr sb db y hy)
    refine wpS_bind (Zp ea ?_)
    by_cases q1:(ia'+1+1 == a.size)=true
    ·rw [if_pos q1];exact wpS_pure ⟨rfl,.inl ⟨_,rfl,okL _ _ _ M1 (by simpa using q1)⟩⟩
    ·rw [if_neg q1]
     have q1':ia'+1+1≠a.size:=by simpa using q1
     by_cases q2:ac+1 ≥ mg
     ·rw [if_pos q2];exact wpS_pure ⟨rfl,.inr ⟨_,_,_,_,_,rfl,M1,by omega,g2,by omega⟩⟩
     ·rw [if_neg q2];exact wpS_pure ⟨_,_,_,_,_,rfl,rfl,M1,by omega,g2,by omega⟩
  case p1 =>
   rintro ⟨c,c'⟩ st' ⟨rfl,⟨r,e,o1,o2⟩ | ⟨o',ia',ib',ac,bc,e,M',g1,g2,g3⟩⟩
   ·cases e;exact wpS_pure ⟨r,g,rfl,rfl,o1,o2⟩
   cases e
   dsimp only
   refine wpS_bind (wpS_lift (wpAny_rule ⟨rfl,?_⟩))
   refine wpS_bind (wpS_mono (wpS_forRange
    (I:=fun x c st'=>∃ o2 ia2 ib2 mg2 ac bc g2,c=(none,o2,ia2,ib2,mg2,ac,bc)/\st'=Ys st g2/\MI (ZG κ) T o2.toList (a.toList.drop ia2) (b.toList.drop ib2)/\ia2+1 < a.size/\ib2 < b.size/\(a.size - ia2)+(b.size - ib2)+x<=(a.size - ia')+(b.size - ib'))
    (Q:=fun c st'=>∃ g2,st'=Ys st g2/\((∃ r,c.1=some r/\r.toList.Perm T/\r.toList.Pairwise (ZG κ))\/∃ o2 ia2 ib2 mg2 ac bc,c=(none,o2,ia2,ib2,mg2,ac,bc)/\MI (ZG κ) T o2.toList (a.toList.drop ia2) (b.toList.drop ib2)/\ia2+1 < a.size/\ib2 < b.size/\(a.size - ia2)+(b.size - ib2)<=(a.size - ia')+(b.size - ib'))) ?s2 ?f2
    ⟨_,_,_,_,_,_,_,rfl,rfl,M',g1,g2,by omega⟩) ?p2)
   case f2 =>
    rintro c st' ⟨o2,ia2,ib2,mg2,ac2,bc2,g9,rfl,rfl,M2,u1,u2,u3⟩
    omega
   case p2 =>
    rintro ⟨c,c'⟩ st' ⟨g9,rfl,⟨r,e,o1,o2⟩ | ⟨o2,ia2,ib2,mg2,ac2,bc2,e,M2,u1,u2,u3⟩⟩
    ·cases e;exact wpS_pure ⟨r,g9,rfl,rfl,o1,o2⟩
    cases e
    dsimp only
    rw [Yq]
    exact wpS_bind (wpS_modify (wpS_pure ⟨_,_,_,_,_,rfl,rfl,M2,u1,u2,by omega⟩))
   case s2 =>
    rintro y c st' _ hy ⟨o2,ia2,ib2,mg2,ac2,bc2,g9,rfl,rfl,M2,u1,u2,u3⟩
    dsimp only
    obtain ⟨pb,eb,kb1,db,_⟩:=Ye kb u2
    refine Zg (fun q0=>?_) (fun q0=>?_)
    ·
     rw [Yq]
     refine wpS_bind (wpS_modify (wpS_bind (Zp eb ?_)))
     refine wpS_bind (Yw (left:=false) hO hk kb1 ka sa (by omega) (by omega) fun k hkn v1 v2=>?_)
     dsimp only
     have r2':∀ y∈a.toList.drop (ia2+k),ZG κ pb y:=fun y hy=>by
      obtain ⟨j,hj,rfl⟩:=mem_iff_getElem.mp hy
      rw [length_drop,Array.length_toList] at hj
      refine KeyOrd.kle_of_klt (v2 (k+j) _ (by omega) (by omega) ?_)
      rw [List.getElem_drop,Array.getElem_toList,show ia2+(k+j)=ia2+k+j by omega]
      exact getElem?_pos _ _ _
     refine Zg (fun qk=>?_) (fun qk=>?_)
     ·
      have M3:=MI.a M2 k fun x hx y hy=>by
       obtain ⟨j,hj,e⟩:=ZY hx
       exact ZL (v1 j x hj e) (Xr sb db y hy)
      rw [<- XM,<- Array.toList_append,drop_drop] at M3
      refine Zg (fun q2=>?_) (fun q2=>?_)
      ·
       exact wpS_pure ⟨_,rfl,.inl ⟨_,rfl,okL _ _ _ M3 (by simpa using q2)⟩⟩
      refine Zg (fun q3=>?_) (fun q3=>?_)
      ·
       exact wpS_pure ⟨_,rfl,.inl ⟨_,rfl,okD _ _ _ M3 (.inr (by simpa using q3))⟩⟩
      have q2':ia2+k+1≠a.size:=by simpa using q2
      have q3':ia2+k≠a.size:=by simpa using q3
      have r0:ia2+k < a.size:=by omega
      have r2:=r2'
      refine wpS_bind (Zp eb ?_)
      have M4:=MI.pb M3 db r2
      rw [<- Array.toList_push] at M4
      refine Zg (fun q4=>?_) (fun q4=>?_)
      ·
       exact wpS_pure ⟨_,rfl,.inl ⟨_,rfl,okD _ _ _ M4 (.inl (by simpa using q4))⟩⟩
      have q4':ib2+1≠b.size:=by simpa using q4
      obtain ⟨pa,ea,ka1,da,_⟩:=Ye ka r0
      refine wpS_bind (Zp ea ?_)
      refine wpS_bind (Yw (left:=true) hO hk ka1 kb sb (by omega) (by omega) fun k2 hk2 w1 w2=>?_)
      dsimp only
      have r3:∀ y∈b.toList.drop (ib2+1+k2),ZG κ pa y:=fun y hy=>by
       obtain ⟨j,hj,rfl⟩:=mem_iff_getElem.mp hy
       rw [length_drop,Array.length_toList] at hj
       refine w2 (k2+j) _ (by omega) (by omega) ?_
       rw [List.getElem_drop,Array.getElem_toList,show ib2+1+(k2+j)=ib2+1+k2+j by omega]
       exact getElem?_pos _ _ _
      refine Zg (fun qk2=>?_) (fun qk2=>?_)
      ·
       have M6:=MI.b M4 k2 fun x hx y hy=>by
        obtain ⟨j,hj,e⟩:=ZY hx
        exact ZL (KeyOrd.kle_of_klt (w1 j x hj e)) (Xr sa da y hy)
       rw [<- XM,<- Array.toList_append,drop_drop] at M6
       refine Zg (fun q5=>?_) (fun q5=>?_)
       ·
        exact wpS_pure ⟨_,rfl,.inl ⟨_,rfl,okD _ _ _ M6 (.inl (by simpa using q5))⟩⟩
       have q5':ib2+1+k2≠b.size:=by simpa using q5
       refine wpS_bind (Zp ea ?_)
       have M5:=MI.pa M6 da r3
       rw [<- Array.toList_push] at M5
       refine Zg (fun q6=>?_) (fun q6=>?_)
       ·
        exact wpS_pure ⟨_,rfl,.inl ⟨_,rfl,okL _ _ _ M5 (by simpa using q6)⟩⟩
       ·
        have q6':ia2+k+1+1≠a.size:=by simpa using q6
        refine Zg (fun q7=>?_) (fun q7=>?_)
        ·exact wpS_pure ⟨_,rfl,.inr ⟨_,_,_,_,_,_,rfl,M5,by omega,by omega,by omega⟩⟩
        ·exact wpS_pure ⟨_,_,_,_,_,_,_,rfl,rfl,M5,by omega,by omega,by omega⟩
      ·
       have z2:k2=0:=by omega
       subst z2
       refine wpS_bind (Zp ea ?_)
       have M5:=MI.pa M4 da r3
       rw [<- Array.toList_push] at M5
       refine Zg (fun q6=>?_) (fun q6=>?_)
       ·
        exact wpS_pure ⟨_,rfl,.inl ⟨_,rfl,okL _ _ _ M5 (by simpa using q6)⟩⟩
       ·
        have q6':ia2+k+1+1≠a.size:=by simpa using q6
        refine Zg (fun q7=>?_) (fun q7=>?_)
        ·exact wpS_pure ⟨_,rfl,.inr ⟨_,_,_,_,_,_,rfl,M5,by omega,by omega,by omega⟩⟩
        ·exact wpS_pure ⟨_,_,_,_,_,_,_,rfl,rfl,M5,by omega,by omega,by omega⟩
     ·
      have zk:k=0:=by omega
      subst zk
      have r0:ia2 < a.size:=by omega
      have r2:=r2'
      refine wpS_bind (Zp eb ?_)
      have M4:=MI.pb M2 db r2
      rw [<- Array.toList_push] at M4
      refine Zg (fun q4=>?_) (fun q4=>?_)
      ·
       exact wpS_pure ⟨_,rfl,.inl ⟨_,rfl,okD _ _ _ M4 (.inl (by simpa using q4))⟩⟩
      have q4':ib2+1≠b.size:=by simpa using q4
      obtain ⟨pa,ea,ka1,da,_⟩:=Ye ka r0
      refine wpS_bind (Zp ea ?_)
      refine wpS_bind (Yw (left:=true) hO hk ka1 kb sb (by omega) (by omega) fun k2 hk2 w1 w2=>?_)
      dsimp only
      have r3:∀ y∈b.toList.drop (ib2+1+k2),ZG κ pa y:=fun y hy=>by
       obtain ⟨j,hj,rfl⟩:=mem_iff_getElem.mp hy
       rw [length_drop,Array.length_toList] at hj
       refine w2 (k2+j) _ (by omega) (by omega) ?_
       rw [List.getElem_drop,Array.getElem_toList,show ib2+1+(k2+j)=ib2+1+k2+j by omega]
       exact getElem?_pos _ _ _
      refine Zg (fun qk2=>?_) (fun qk2=>?_)
      ·
       have M6:=MI.b M4 k2 fun x hx y hy=>by
        obtain ⟨j,hj,e⟩:=ZY hx
        exact ZL (KeyOrd.kle_of_klt (w1 j x hj e)) (Xr sa da y hy)
       rw [<- XM,<- Array.toList_append,drop_drop] at M6
       refine Zg (fun q5=>?_) (fun q5=>?_)
       ·
        exact wpS_pure ⟨_,rfl,.inl ⟨_,rfl,okD _ _ _ M6 (.inl (by simpa using q5))⟩⟩
       have q5':ib2+1+k2≠b.size:=by simpa using q5
       refine wpS_bind (Zp ea ?_)
       have M5:=MI.pa M6 da r3
       rw [<- Array.toList_push] at M5
       refine Zg (fun q6=>?_) (fun q6=>?_)
       ·
        exact wpS_pure ⟨_,rfl,.inl ⟨_,rfl,okL _ _ _ M5 (by simpa using q6)⟩⟩
       ·
        have q6':ia2+1+1≠a.size:=by simpa using q6
        refine Zg (fun q7=>?_) (fun q7=>?_)
        ·exact wpS_pure ⟨_,rfl,.inr ⟨_,_,_,_,_,_,rfl,M5,by omega,by omega,by omega⟩⟩
        ·exact wpS_pure ⟨_,_,_,_,_,_,_,rfl,rfl,M5,by omega,by omega,by omega⟩
      ·
       have z2:k2=0:=by omega
       subst z2
       refine wpS_bind (Zp ea ?_)
       have M5:=MI.pa M4 da r3
       rw [<- Array.toList_push] at M5
       refine Zg (fun q6=>?_) (fun q6=>?_)
       ·
        exact wpS_pure ⟨_,rfl,.inl ⟨_,rfl,okL _ _ _ M5 (by simpa using q6)⟩⟩
       ·
        have q6':ia2+1+1≠a.size:=by simpa using q6
        refine Zg (fun q7=>?_) (fun q7=>?_)
        ·exact wpS_pure ⟨_,rfl,.inr ⟨_,_,_,_,_,_,rfl,M5,by omega,by omega,by omega⟩⟩
        ·exact wpS_pure ⟨_,_,_,_,_,_,_,rfl,rfl,M5,by omega,by omega,by omega⟩
    ·
     rw [Yq]
     refine wpS_bind (wpS_modify (wpS_bind (Zp eb ?_)))
     refine wpS_bind (Yw (left:=false) hO hk kb1 ka sa (by omega) (by omega) fun k hkn v1 v2=>?_)
     dsimp only
     have r2':∀ y∈a.toList.drop (ia2+k),ZG κ pb y:=fun y hy=>by
      obtain ⟨j,hj,rfl⟩:=mem_iff_getElem.mp hy
      rw [length_drop,Array.length_toList] at hj
      refine KeyOrd.kle_of_klt (v2 (k+j) _ (by omega) (by omega) ?_)
      rw [List.getElem_drop,Array.getElem_toList,show ia2+(k+j)=ia2+k+j by omega]
      exact getElem?_pos _ _ _
     refine Zg (fun qk=>?_) (fun qk=>?_)
     ·
      have M3:=MI.a M2 k fun x hx y hy=>by
       obtain ⟨j,hj,e⟩:=ZY hx
       exact ZL (v1 j x hj e) (Xr sb db y hy)
      rw [<- XM,<- Array.toList_append,drop_drop] at M3
      refine Zg (fun q2=>?_) (fun q2=>?_)
      ·
       exact wpS_pure ⟨_,rfl,.inl ⟨_,rfl,okL _ _ _ M3 (by simpa using q2)⟩⟩
      refine Zg (fun q3=>?_) (fun q3=>?_)
      ·
       exact wpS_pure ⟨_,rfl,.inl ⟨_,rfl,okD _ _ _ M3 (.inr (by simpa using q3))⟩⟩
      have q2':ia2+k+1≠a.size:=by simpa using q2
      have q3':ia2+k≠a.size:=by simpa using q3
      have r0:ia2+k < a.size:=by omega
      have r2:=r2'
      refine wpS_bind (Zp eb ?_)
      have M4:=MI.pb M3 db r2
      rw [<- Array.toList_push] at M4
      refine Zg (fun q4=>?_) (fun q4=>?_)
      ·
       exact wpS_pure ⟨_,rfl,.inl ⟨_,rfl,okD _ _ _ M4 (.inl (by simpa using q4))⟩⟩
      have q4':ib2+1≠b.size:=by simpa using q4
      obtain ⟨pa,ea,ka1,da,_⟩:=Ye ka r0
      refine wpS_bind (Zp ea ?_)
      refine wpS_bind (Yw (left:=true) hO hk ka1 kb sb (by omega) (by omega) fun k2 hk2 w1 w2=>?_)
      dsimp only
      have r3:∀ y∈b.toList.drop (ib2+1+k2),ZG κ pa y:=fun y hy=>by
       obtain ⟨j,hj,rfl⟩:=mem_iff_getElem.mp hy
       rw [length_drop,Array.length_toList] at hj
       refine w2 (k2+j) _ (by omega) (by omega) ?_
       rw [List.getElem_drop,Array.getElem_toList,show ib2+1+(k2+j)=ib2+1+k2+j by omega]
       exact getElem?_pos _ _ _
      refine Zg (fun qk2=>?_) (fun qk2=>?_)
      ·
       have M6:=MI.b M4 k2 fun x hx y hy=>by
        obtain ⟨j,hj,e⟩:=ZY hx
        exact ZL (KeyOrd.kle_of_klt (w1 j x hj e)) (Xr sa da y hy)
       rw [<- XM,<- Array.toList_append,drop_drop] at M6
       refine Zg (fun q5=>?_) (fun q5=>?_)
       ·
        exact wpS_pure ⟨_,rfl,.inl ⟨_,rfl,okD _ _ _ M6 (.inl (by simpa using q5))⟩⟩
       have q5':ib2+1+k2≠b.size:=by simpa using q5
       refine wpS_bind (Zp ea ?_)
       have M5:=MI.pa M6 da r3
       rw [<- Array.toList_push] at M5
       refine Zg (fun q6=>?_) (fun q6=>?_)
       ·
        exact wpS_pure ⟨_,rfl,.inl ⟨_,rfl,okL _ _ _ M5 (by simpa using q6)⟩⟩
       ·
        have q6':ia2+k+1+1≠a.size:=by simpa using q6
        refine Zg (fun q7=>?_) (fun q7=>?_)
        ·exact wpS_pure ⟨_,rfl,.inr ⟨_,_,_,_,_,_,rfl,M5,by omega,by omega,by omega⟩⟩
        ·exact wpS_pure ⟨_,_,_,_,_,_,_,rfl,rfl,M5,by omega,by omega,by omega⟩
      ·
       have z2:k2=0:=by omega
       subst z2
       refine wpS_bind (Zp ea ?_)
       have M5:=MI.pa M4 da r3
       rw [<- Array.toList_push] at M5
       refine Zg (fun q6=>?_) (fun q6=>?_)
       ·
        exact wpS_pure ⟨_,rfl,.inl ⟨_,rfl,okL _ _ _ M5 (by simpa using q6)⟩⟩
       ·
        have q6':ia2+k+1+1≠a.size:=by simpa using q6
        refine Zg (fun q7=>?_) (fun q7=>?_)
        ·exact wpS_pure ⟨_,rfl,.inr ⟨_,_,_,_,_,_,rfl,M5,by omega,by omega,by omega⟩⟩
        ·exact wpS_pure ⟨_,_,_,_,_,_,_,rfl,rfl,M5,by omega,by omega,by omega⟩
     ·
      have zk:k=0:=by omega
      subst zk
      have r0:ia2 < a.size:=by omega
      have r2:=r2'
      refine wpS_bind (Zp eb ?_)
      have M4:=MI.pb M2 db r2
      rw [<- Array.toList_push] at M4
      refine Zg (fun q4=>?_) (fun q4=>?_)
      ·
       exact wpS_pure ⟨_,rfl,.inl ⟨_,rfl,okD _ _ _ M4 (.inl (by simpa using q4))⟩⟩
      have q4':ib2+1≠b.size:=by simpa using q4
      obtain ⟨pa,ea,ka1,da,_⟩:=Ye ka r0
      refine wpS_bind (Zp ea ?_)
      refine wpS_bind (Yw (left:=true) hO hk ka1 kb sb (by omega) (by omega) fun k2 hk2 w1 w2=>?_)
      dsimp only
      have r3:∀ y∈b.toList.drop (ib2+1+k2),ZG κ pa y:=fun y hy=>by
       obtain ⟨j,hj,rfl⟩:=mem_iff_getElem.mp hy
       rw [length_drop,Array.length_toList] at hj
       refine w2 (k2+j) _ (by omega) (by omega) ?_
       rw [List.getElem_drop,Array.getElem_toList,show ib2+1+(k2+j)=ib2+1+k2+j by omega]
       exact getElem?_pos _ _ _
      refine Zg (fun qk2=>?_) (fun qk2=>?_)
      ·
       have M6:=MI.b M4 k2 fun x hx y hy=>by
        obtain ⟨j,hj,e⟩:=ZY hx
        exact ZL (KeyOrd.kle_of_klt (w1 j x hj e)) (Xr sa da y hy)
       rw [<- XM,<- Array.toList_append,drop_drop] at M6
       refine Zg (fun q5=>?_) (fun q5=>?_)
       ·
        exact wpS_pure ⟨_,rfl,.inl ⟨_,rfl,okD _ _ _ M6 (.inl (by simpa using q5))⟩⟩
       have q5':ib2+1+k2≠b.size:=by simpa using q5
       refine wpS_bind (Zp ea ?_)
       have M5:=MI.pa M6 da r3
       rw [<- Array.toList_push] at M5
       refine Zg (fun q6=>?_) (fun q6=>?_)
       ·
        exact wpS_pure ⟨_,rfl,.inl ⟨_,rfl,okL _ _ _ M5 (by simpa using q6)⟩⟩
       ·
        have q6':ia2+1+1≠a.size:=by simpa using q6
        refine Zg (fun q7=>?_) (fun q7=>?_)
        ·exact wpS_pure ⟨_,rfl,.inr ⟨_,_,_,_,_,_,rfl,M5,by omega,by omega,by omega⟩⟩
        ·exact wpS_pure ⟨_,_,_,_,_,_,_,rfl,rfl,M5,by omega,by omega,by omega⟩
      ·
       have z2:k2=0:=by omega
       subst z2
       refine wpS_bind (Zp ea ?_)
       have M5:=MI.pa M4 da r3
       rw [<- Array.toList_push] at M5
       refine Zg (fun q6=>?_) (fun q6=>?_)
       ·
        exact wpS_pure ⟨_,rfl,.inl ⟨_,rfl,okL _ _ _ M5 (by simpa using q6)⟩⟩
       ·
        have q6':ia2+1+1≠a.size:=by simpa using q6
        refine Zg (fun q7=>?_) (fun q7=>?_)
        ·exact wpS_pure ⟨_,rfl,.inr ⟨_,_,_,_,_,_,rfl,M5,by omega,by omega,by omega⟩⟩
        ·exact wpS_pure ⟨_,_,_,_,_,_,_,rfl,rfl,M5,by omega,by omega,by omega⟩
end
def Zar:Array Keyed->Array Keyed->StateT SortSt Sem (Array Keyed):=sortPriv% PySem.Builtin.mergeHi
theorem Zeg (a b:Array Keyed):Zar a b=(do
 rule "list.sort.merge-hi"
 let total:=a.size+b.size
 let done (out:Array Keyed) (na nb:Nat):=a.extract 0 na++b.extract 0 nb++out.reverse
 let firstOfB (out:Array Keyed) (na nb:Nat):=b.extract 0 nb++a.extract 0 na++out.reverse
 let mut na:=a.size - 1
 let mut nb:=b.size
 let mut out:Array Keyed:=#[<- elem' a na]
 if na == 0 then return done out na nb
 if nb == 1 then return firstOfB out na nb
 let mut minGallop:=gallopOf (<- get)
 for _ in [0:total] do
  let mut acount:=0
  let mut bcount:=0
  for _ in [0:total] do
   let some aWins <- lt' (<- elem' b (nb - 1)) (<- elem' a (na - 1)) | return done out na nb
   if aWins then
    na:=na - 1;out:=out.push (<- elem' a na);acount:=acount+1;bcount:=0
    if na == 0 then return done out na nb
    if acount ≥ minGallop then break
   else
    nb:=nb - 1;out:=out.push (<- elem' b nb);bcount:=bcount+1;acount:=0
    if nb == 1 then return firstOfB out na nb
    if bcount ≥ minGallop then break
  rule "list.sort.gallop"
  minGallop:=minGallop+1
  for _ in [0:total] do
   if minGallop > 1 then minGallop:=minGallop - 1
   Xg minGallop
   let some at_ <- Xh false (<- elem' b (nb - 1)) a 0 na (na - 1) | return done out na nb
   let k:=na - at_
   acount:=k
   if k > 0 then
    out:=out++(a.extract at_ na).reverse;na:=at_
    if na == 0 then return done out na nb
   nb:=nb - 1;out:=out.push (<- elem' b nb)
   if nb == 1 then return firstOfB out na nb
   let some at_ <- Xh true (<- elem' a (na - 1)) b 0 nb (nb - 1) | return done out na nb
   let k:=nb - at_
   bcount:=k
   if k > 0 then
    out:=out++(b.extract at_ nb).reverse;nb:=at_
    if nb == 1 then return firstOfB out na nb
    if nb == 0 then return done out na nb
   na:=na - 1;out:=out.push (<- elem' a na)
   if na == 0 then return done out na nb
   if acount < 7&&bcount < 7 then break
  minGallop:=minGallop+1
  Xg minGallop
 unsupported "internal:list.sort.merge-bound"):=rfl
section
variable {prog:Program}{w:World}{A:Around}{E:Value->Shared->Prop}{s:Shared}{κ:PyProof.Rows.KeyKind}
def ZH (a:Array Keyed)(n:Nat):List Keyed:=(a.toList.take n).reverse
def Ue (κ:PyProof.Rows.KeyKind)(x y:Keyed):Prop:=ZG κ y x
theorem ZcO {a:Array Keyed}:ZH a 0=[]:=by unfold ZH;simp
theorem Xz {a:Array Keyed}{n:Nat}{y:Keyed}(h:y∈ZH a n):∃ j,j < n/\a[j]?=some y:=by
 unfold ZH at h
 rw [mem_reverse] at h
 obtain ⟨j,hj,rfl⟩:=mem_iff_getElem.mp h
 rw [length_take] at hj
 refine ⟨j,by omega,?_⟩
 rw [List.getElem_take,Array.getElem_toList]
 exact getElem?_pos _ _ _
theorem Xw {a:Array Keyed}{n:Nat}{p:Keyed}(e:a[n]?=some p):ZH a (n+1)=p::ZH a n:=by
 unfold ZH
 rw [List.take_succ,Array.getElem?_toList,e]
 simp
theorem WJ {a:Array Keyed}{m n:Nat}(hm:m<=n)(hn:n<=a.size):(ZH a n).take (n - m)=(a.extract m n).reverse.toList/\(ZH a n).drop (n - m)=ZH a m:=by
 have hl:(a.toList.take n).length=n:=by rw [length_take,Array.length_toList];omega
 unfold ZH
 rw [List.take_reverse,List.drop_reverse,hl,show n - (n - m)=m by omega,Array.toList_reverse,Array.toList_extract,extract_eq_drop_take,List.take_take,show min m n=m by omega,List.drop_take]
 exact ⟨rfl,rfl⟩
theorem ZbC {a:Array Keyed}{n:Nat}:(a.extract 0 n).toList=(ZH a n).reverse:=by
 unfold ZH
 rw [Array.toList_extract,extract_eq_drop_take,List.reverse_reverse,List.drop_zero,Nat.sub_zero]
theorem ZlX {arr:Array Keyed}(h:arr.toList.Pairwise (ZG κ)){i j:Nat}{p q:Keyed}(hij:i<=j)(ep:arr[i]?=some p)(eq:arr[j]?=some q):ZG κ p q:=by
 have hj:j < arr.size:=(Array.getElem?_eq_some_iff.mp eq).1
 have:=Zhn h hij hj
 rw [Xl ep,Xl eq] at this
 exact this
theorem WY {arr:Array Keyed}(hs:arr.toList.Pairwise (ZG κ)){n:Nat}{p:Keyed}(e:arr[n]?=some p):∀ y∈ZH arr (n+1),ZG κ y p:=fun y hy=>by
 obtain ⟨j,hj,ej⟩:=Xz hy
 exact ZlX hs (by omega) ej e
theorem Zem (hO:κ.OneLt){st:SortSt}{a b:Array Keyed}{Q:Array Keyed->SortSt->Prop}(hk:kindOf st=oneType')(ka:KeysOf κ a)(kb:KeysOf κ b)
 (sa:a.toList.Pairwise (ZG κ)) (sb:b.toList.Pairwise (ZG κ)) (h0a:0 < a.size) (h0b:0 < b.size) (hf:∀ x∈b.toList.take 1,∀ y∈a.toList,ZG κ x y) (hl:∀ x∈b.toList,∀ y∈a.toList.drop (a.size - 1),ZG κ x y)
 (h:∀ out g,out.toList.Perm (a.toList++b.toList)->out.toList.Pairwise (ZG κ)->Q out (Ys st g)) :
 wpS (model prog w) A E s (Zar a b) Q st:=by
 rw [Zeg]
 dsimp only
 refine wpS_bind (wpS_lift (wpAny_rule ⟨rfl,?_⟩))
 obtain ⟨p0,e0,k0,d0,_⟩:=Ye ka (show a.size - 1 < a.size by omega)
 refine wpS_bind (Zp e0 ?_)
 have hg:st=Ys st (gallopOf st):=rfl
 have ga:(ZH a a.size).Pairwise (Ue κ):=by
  unfold ZH
  rw [take_of_length_le (by rw [Array.length_toList];exact Nat.le_refl _),List.pairwise_reverse];exact sa
 have gb:(ZH b b.size).Pairwise (Ue κ):=by
  unfold ZH
  rw [take_of_length_le (by rw [Array.length_toList];exact Nat.le_refl _),List.pairwise_reverse];exact sb
 have pT:(ZH a a.size++ZH b b.size).Perm (a.toList++b.toList):=by
  unfold ZH
  rw [take_of_length_le (by rw [Array.length_toList];exact Nat.le_refl _),take_of_length_le (by rw [Array.length_toList];exact Nat.le_refl _)]
  exact (List.reverse_perm _).append (List.reverse_perm _)
 have ca:ZH a a.size=p0::ZH a (a.size - 1):=by
  have:=Xw e0
  rwa [show a.size - 1+1=a.size by omega] at this
 have M0:MI (Ue κ) (a.toList++b.toList) (#[p0]:Array Keyed).toList (ZH a (a.size - 1)) (ZH b b.size):=by
  have:=MI.pa (R:=Ue κ) (T:=a.toList++b.toList) (O:=[]) (A:=ZH a a.size) (B:=ZH b b.size) ⟨pT,.nil,(fun _ h=>nomatch h),(fun _ h=>nomatch h),ga,gb⟩ ca fun y hy=>by
   obtain ⟨j,_,ej⟩:=Xz hy
   exact hl y (mem_of_getElem? (by rw [Array.getElem?_toList];exact ej)) p0 (by rw [d0];exact mem_cons_self)
  exact this
 have fin2:∀ (r:Array Keyed) (X:List Keyed),r.toList=X.reverse->X.Perm (a.toList++b.toList)->X.Pairwise (Ue κ)->r.toList.Perm (a.toList++b.toList)/\r.toList.Pairwise (ZG κ):=fun r X e h1 h2=>by
  rw [e]
  exact ⟨(List.reverse_perm _).trans h1,List.pairwise_reverse.mpr h2⟩
 have okD:∀ (o:Array Keyed) (na nb:Nat),MI (Ue κ) (a.toList++b.toList) o.toList (ZH a na) (ZH b nb)->(nb=0\/na=0)->(a.extract 0 na++b.extract 0 nb++o.reverse).toList.Perm (a.toList++b.toList)/\(a.extract 0 na++b.extract 0 nb++o.reverse).toList.Pairwise (ZG κ):=fun o na nb M hz=>by
  rcases hz with rfl | rfl
  ·rw [ZcO] at M
   refine fin2 _ (o.toList++ZH a na) ?_ M.endA.1 M.endA.2
   rw [Array.toList_append,Array.toList_append,ZbC,ZbC,ZcO,Array.toList_reverse];simp
  ·rw [ZcO] at M
   refine fin2 _ (o.toList++ZH b nb) ?_ M.endB.1 M.endB.2
   rw [Array.toList_append,Array.toList_append,ZbC,ZbC,ZcO,Array.toList_reverse];simp
 have okL:∀ (o:Array Keyed) (na nb:Nat),MI (Ue κ) (a.toList++b.toList) o.toList (ZH a na) (ZH b nb)->nb=1->(b.extract 0 nb++a.extract 0 na++o.reverse).toList.Perm (a.toList++b.toList)/\(b.extract 0 nb++a.extract 0 na++o.reverse).toList.Pairwise (ZG κ):=fun o na nb M hz=>by
  subst hz
  have:=M.swap.endL fun x hx y hy=>by
   obtain ⟨j,_,ej⟩:=Xz hx
   unfold ZH at hy
   exact hf y (mem_reverse.mp hy) x (mem_of_getElem? (by rw [Array.getElem?_toList];exact ej))
  refine fin2 _ (o.toList++(ZH a na++ZH b 1)) ?_ this.1 this.2
  rw [Array.toList_append,Array.toList_append,ZbC,ZbC,Array.toList_reverse];simp
 generalize hT:a.toList++b.toList=T at *
 by_cases c1:(a.size - 1 == 0)=true
 ·rw [if_pos c1]
  have:=okD _ _ _ M0 (.inr (by simpa using c1))
  exact wpS_pure (hg ▸ h _ _ this.1 this.2)
 rw [if_neg c1]
 by_cases c2:(b.size == 1)=true
 ·rw [if_pos c2]
  have:=okL _ _ _ M0 (by simpa using c2)
  exact wpS_pure (hg ▸ h _ _ this.1 this.2)
 rw [if_neg c2]
 have c1':a.size - 1≠0:=by simpa using c1
 have c2':b.size≠1:=by simpa using c2
 refine wpS_bind (wpS_get ?_)
 refine wpS_bind (wpS_mono (wpS_forRange
  (I:=fun x c st'=>∃ o na nb mg g,c=(none,na,nb,o,mg)/\st'=Ys st g/\MI (Ue κ) T o.toList (ZH a na) (ZH b nb)/\1<=na/\2<=nb/\na<=a.size/\nb<=b.size/\na+nb+x < a.size+b.size)
  (Q:=fun c st'=>∃ r g,c.1=some r/\st'=Ys st g/\r.toList.Perm T/\r.toList.Pairwise (ZG κ)) ?step ?fin
  ⟨_,_,_,_,_,rfl,hg,M0,by omega,by omega,by omega,by omega,by omega⟩) ?post)
 case fin =>
  rintro c st' ⟨o,na,nb,mg,g,rfl,rfl,M,h1,h2,h3,h4,h5⟩
  omega
 case post =>
  rintro ⟨c,c'⟩ st' ⟨r,g,e,rfl,h1,h2⟩
  cases e
  exact wpS_pure (h r g h1 h2)
 case step =>
  rintro x c st' _ hx ⟨o,na,nb,mg,g,rfl,rfl,M,h1,h2,h3,h4,h5⟩
  dsimp only
  refine wpS_bind (wpS_mono (wpS_forRange
   (I:=fun x c st'=>∃ o' na' nb' ac bc,c=(none,na',nb',o',ac,bc)/\st'=Ys st g/\MI (Ue κ) T o'.toList (ZH a na') (ZH b nb')/\1<=na'/\2<=nb'/\na'<=a.size/\nb'<=b.size/\na'+nb'+x<=na+nb)
   (Q:=fun c st'=>st'=Ys st g/\((∃ r,c.1=some r/\r.toList.Perm T/\r.toList.Pairwise (ZG κ))\/∃ o' na' nb' ac bc,c=(none,na',nb',o',ac,bc)/\MI (Ue κ) T o'.toList (ZH a na') (ZH b nb')/\1<=na'/\2<=nb'/\na'<=a.size/\nb'<=b.size/\na'+nb' < na+nb)) ?s1 ?f1
   ⟨_,_,_,_,_,rfl,rfl,M,h1,h2,h3,h4,by omega⟩) ?p1)
  case f1 =>
   rintro c st' ⟨o',na',nb',ac,bc,rfl,rfl,M',g1,g2,g3,g4,g5⟩
   omega
  case s1 =>
   rintro y c st' _ hy ⟨o',na',nb',ac,bc,rfl,rfl,M',g1,g2,g3,g4,g5⟩
   dsimp only
   obtain ⟨pb,eb,kb1,_,_⟩:=Ye kb (show nb' - 1 < b.size by omega)
   obtain ⟨pa,ea,ka1,_,_⟩:=Ye ka (show na' - 1 < a.size by omega)
   have da:ZH a na'=pa::ZH a (na' - 1):=by have:=Xw ea;rwa [show na' - 1+1=na' by omega] at this
   have db:ZH b nb'=pb::ZH b (nb' - 1):=by have:=Xw eb;rwa [show nb' - 1+1=nb' by omega] at this
   have la:∀ y∈ZH a na',ZG κ y pa:=by have:=WY sa ea;rwa [show na' - 1+1=na' by omega] at this
   have lb:∀ y∈ZH b nb',ZG κ y pb:=by have:=WY sb eb;rwa [show nb' - 1+1=nb' by omega] at this
   refine wpS_bind (Zp eb (wpS_bind (Zp ea (wpS_bind (VO hO hk kb1 ka1 ?_)))))
   dsimp only
   cases hc:κ.blt (kf κ pb) (kf κ pa) with
   | true =>
    rw [if_pos rfl]
    have M1:MI (Ue κ) T (o'.push pa).toList (ZH a (na' - 1)) (ZH b nb'):=by
     rw [Array.toList_push];exact M'.pa da fun y hy=>ZL (lb y hy) (KeyOrd.kle_of_klt hc)
    refine wpS_bind (Zp ea ?_)
    refine Zg (fun q1=>?_) (fun q1=>?_)
    ·exact wpS_pure ⟨rfl,.inl ⟨_,rfl,okD _ _ _ M1 (.inr (by simpa using q1))⟩⟩
    have q1':na' - 1≠0:=by simpa using q1
    refine Zg (fun q2=>?_) (fun q2=>?_)
    ·exact wpS_pure ⟨rfl,.inr ⟨_,_,_,_,_,rfl,M1,by omega,by omega,by omega,by omega,by omega⟩⟩
    ·exact wpS_pure ⟨_,_,_,_,_,rfl,rfl,M1,by omega,by omega,by omega,by omega,by omega⟩
   | false =>
    rw [if_neg (by decide)]
    have M1:MI (Ue κ) T (o'.push pb).toList (ZH a na') (ZH b (nb' - 1)):=by
     rw [Array.toList_push];exact M'.pb db fun y hy=>ZL (la y hy) (show κ.kle (kf κ pa) (kf κ pb) from hc)
    refine wpS_bind (Zp eb ?_)
    refine Zg (fun q1=>?_) (fun q1=>?_)
    ·exact wpS_pure ⟨rfl,.inl ⟨_,rfl,okL _ _ _ M1 (by simpa using q1)⟩⟩
    have q1':nb' - 1≠1:=by simpa using q1
    refine Zg (fun q2=>?_) (fun q2=>?_)
    ·exact wpS_pure ⟨rfl,.inr ⟨_,_,_,_,_,rfl,M1,by omega,by omega,by omega,by omega,by omega⟩⟩
    ·exact wpS_pure ⟨_,_,_,_,_,rfl,rfl,M1,by omega,by omega,by omega,by omega,by omega⟩
  case p1 =>
   rintro ⟨c,c'⟩ st' ⟨rfl,⟨r,e,o1,o2⟩ | ⟨o',na',nb',ac,bc,e,M',g1,g2,g3,g4,g5⟩⟩
   ·cases e;exact wpS_pure ⟨r,g,rfl,rfl,o1,o2⟩
   cases e
   dsimp only
   refine wpS_bind (wpS_lift (wpAny_rule ⟨rfl,?_⟩))
   refine wpS_bind (wpS_mono (wpS_forRange
    (I:=fun x c st'=>∃ o2 na2 nb2 mg2 ac bc g2,c=(none,na2,nb2,o2,mg2,ac,bc)/\st'=Ys st g2/\MI (Ue κ) T o2.toList (ZH a na2) (ZH b nb2)/\1<=na2/\2<=nb2/\na2<=a.size/\nb2<=b.size/\na2+nb2+x<=na'+nb')
    (Q:=fun c st'=>∃ g2,st'=Ys st g2/\((∃ r,c.1=some r/\r.toList.Perm T/\r.toList.Pairwise (ZG κ))\/∃ o2 na2 nb2 mg2 ac bc,c=(none,na2,nb2,o2,mg2,ac,bc)/\MI (Ue κ) T o2.toList (ZH a na2) (ZH b nb2)/\1<=na2/\2<=nb2/\na2<=a.size/\nb2<=b.size/\na2+nb2<=na'+nb')) ?s2 ?f2
    ⟨_,_,_,_,_,_,_,rfl,rfl,M',g1,g2,g3,g4,by omega⟩) ?p2)
   case f2 =>
    rintro c st' ⟨o2,na2,nb2,mg2,ac2,bc2,g9,rfl,rfl,M2,u1,u2,u3,u4,u5⟩
    omega
   case p2 =>
    rintro ⟨c,c'⟩ st' ⟨g9,rfl,⟨r,e,o1,o2⟩ | ⟨o2,na2,nb2,mg2,ac2,bc2,e,M2,u1,u2,u3,u4,u5⟩⟩
    ·cases e;exact wpS_pure ⟨r,g9,rfl,rfl,o1,o2⟩
    cases e
    dsimp only
    rw [Yq]
    exact wpS_bind (wpS_modify (wpS_pure ⟨_,_,_,_,_,rfl,rfl,M2,u1,u2,u3,u4,by omega⟩))
   case s2 =>
    rintro y c st' _ hy ⟨o2,na2,nb2,mg2,ac2,bc2,g9,rfl,rfl,M2,u1,u2,u3,u4,u5⟩
    dsimp only
    obtain ⟨pb,eb,kb1,_,_⟩:=Ye kb (show nb2 - 1 < b.size by omega)
    have db:ZH b nb2=pb::ZH b (nb2 - 1):=by have:=Xw eb;rwa [show nb2 - 1+1=nb2 by omega] at this
    have lb:∀ y∈ZH b nb2,ZG κ y pb:=by have:=WY sb eb;rwa [show nb2 - 1+1=nb2 by omega] at this
    refine Zg (fun q0=>?_) (fun q0=>?_)
    ·
     rw [Yq]
     refine wpS_bind (wpS_modify (wpS_bind (Zp eb ?_)))
     refine wpS_bind (Yw (left:=false) hO hk kb1 ka sa (by omega) (by omega) fun k hkn v1 v2=>?_)
     dsimp only
     have r2:∀ y∈ZH a k,ZG κ y pb:=fun y hy=>by
      obtain ⟨j,hj,ej⟩:=Xz hy
      exact v1 j y hj (by rw [Nat.zero_add];exact ej)
     obtain ⟨c3,c4⟩:=WJ hkn u3
     refine Zg (fun qk=>?_) (fun qk=>?_)
     ·have M3:=MI.a M2 (na2 - k) fun x hx y hy=>by
       rw [c3,Array.toList_reverse,mem_reverse,Array.toList_extract,extract_eq_drop_take] at hx
       obtain ⟨j,hj,ej⟩:=ZY hx
       exact ZL (lb y hy) (KeyOrd.kle_of_klt (v2 (k+j) x (by omega) (by omega) (by rw [Nat.zero_add];exact ej)))
      rw [c3,c4,<- Array.toList_append] at M3
      refine Zg (fun q2=>?_) (fun q2=>?_)
      ·exact wpS_pure ⟨_,rfl,.inl ⟨_,rfl,okD _ _ _ M3 (.inr (by simpa using q2))⟩⟩
      have q2':k≠0:=by simpa using q2
      refine wpS_bind (Zp eb ?_)
      have M4:=MI.pb M3 db r2
      rw [<- Array.toList_push] at M4
      refine Zg (fun q4=>?_) (fun q4=>?_)
      ·exact wpS_pure ⟨_,rfl,.inl ⟨_,rfl,okL _ _ _ M4 (by simpa using q4)⟩⟩
      have q4':nb2 - 1≠1:=by simpa using q4
      obtain ⟨pa,ea,ka1,_,_⟩:=Ye ka (show k - 1 < a.size by omega)
      have da:ZH a (k)=pa::ZH a (k - 1):=by have:=Xw ea;rwa [show k - 1+1=k by omega] at this
      have la:∀ y∈ZH a (k),ZG κ y pa:=by have:=WY sa ea;rwa [show k - 1+1=k by omega] at this
      refine wpS_bind (Zp ea ?_)
      refine wpS_bind (Yw (left:=true) hO hk ka1 kb sb (by omega) (by omega) fun k2 hk2 w1 w2=>?_)
      dsimp only
      have r3:∀ y∈ZH b k2,ZG κ y pa:=fun y hy=>by
       obtain ⟨j,hj,ej⟩:=Xz hy
       exact KeyOrd.kle_of_klt (w1 j y hj (by rw [Nat.zero_add];exact ej))
      obtain ⟨c5,c6⟩:=WJ hk2 (show nb2 - 1<=b.size by omega)
      refine Zg (fun qk2=>?_) (fun qk2=>?_)
      ·have M6:=MI.b M4 (nb2 - 1 - k2) fun x hx y hy=>by
        rw [c5,Array.toList_reverse,mem_reverse,Array.toList_extract,extract_eq_drop_take] at hx
        obtain ⟨j,hj,ej⟩:=ZY hx
        exact ZL (la y hy) (w2 (k2+j) x (by omega) (by omega) (by rw [Nat.zero_add];exact ej))
       rw [c5,c6,<- Array.toList_append] at M6
       refine Zg (fun q5=>?_) (fun q5=>?_)
       ·exact wpS_pure ⟨_,rfl,.inl ⟨_,rfl,okL _ _ _ M6 (by simpa using q5)⟩⟩
       have q5':k2≠1:=by simpa using q5
       refine Zg (fun q8=>?_) (fun q8=>?_)
       ·exact wpS_pure ⟨_,rfl,.inl ⟨_,rfl,okD _ _ _ M6 (.inl (by simpa using q8))⟩⟩
       have q8':k2≠0:=by simpa using q8
       refine wpS_bind (Zp ea ?_)
       have M5:=MI.pa M6 da r3
       rw [<- Array.toList_push] at M5
       refine Zg (fun q6=>?_) (fun q6=>?_)
       ·exact wpS_pure ⟨_,rfl,.inl ⟨_,rfl,okD _ _ _ M5 (.inr (by simpa using q6))⟩⟩
       ·have q6':k - 1≠0:=by simpa using q6
        refine Zg (fun q7=>?_) (fun q7=>?_)
        ·exact wpS_pure ⟨_,rfl,.inr ⟨_,_,_,_,_,_,rfl,M5,by omega,by omega,by omega,by omega,by omega⟩⟩
        ·exact wpS_pure ⟨_,_,_,_,_,_,_,rfl,rfl,M5,by omega,by omega,by omega,by omega,by omega⟩
      ·have z2:k2=nb2 - 1:=by omega
       subst z2
       refine wpS_bind (Zp ea ?_)
       have M5:=MI.pa M4 da r3
       rw [<- Array.toList_push] at M5
       refine Zg (fun q6=>?_) (fun q6=>?_)
       ·exact wpS_pure ⟨_,rfl,.inl ⟨_,rfl,okD _ _ _ M5 (.inr (by simpa using q6))⟩⟩
       ·have q6':k - 1≠0:=by simpa using q6
        refine Zg (fun q7=>?_) (fun q7=>?_)
        ·exact wpS_pure ⟨_,rfl,.inr ⟨_,_,_,_,_,_,rfl,M5,by omega,by omega,by omega,by omega,by omega⟩⟩
        ·exact wpS_pure ⟨_,_,_,_,_,_,_,rfl,rfl,M5,by omega,by omega,by omega,by omega,by omega⟩
     ·have zk:k=na2:=by omega
      subst zk
      refine wpS_bind (Zp eb ?_)
      have M4:=MI.pb M2 db r2
      rw [<- Array.toList_push] at M4
      refine Zg (fun q4=>?_) (fun q4=>?_)
      ·exact wpS_pure ⟨_,rfl,.inl ⟨_,rfl,okL _ _ _ M4 (by simpa using q4)⟩⟩
      have q4':nb2 - 1≠1:=by simpa using q4
      obtain ⟨pa,ea,ka1,_,_⟩:=Ye ka (show k - 1 < a.size by omega)
      have da:ZH a (k)=pa::ZH a (k - 1):=by have:=Xw ea;rwa [show k - 1+1=k by omega] at this
      have la:∀ y∈ZH a (k),ZG κ y pa:=by have:=WY sa ea;rwa [show k - 1+1=k by omega] at this
      refine wpS_bind (Zp ea ?_)
      refine wpS_bind (Yw (left:=true) hO hk ka1 kb sb (by omega) (by omega) fun k2 hk2 w1 w2=>?_)
      dsimp only
      have r3:∀ y∈ZH b k2,ZG κ y pa:=fun y hy=>by
       obtain ⟨j,hj,ej⟩:=Xz hy
       exact KeyOrd.kle_of_klt (w1 j y hj (by rw [Nat.zero_add];exact ej))
      obtain ⟨c5,c6⟩:=WJ hk2 (show nb2 - 1<=b.size by omega)
      refine Zg (fun qk2=>?_) (fun qk2=>?_)
      ·have M6:=MI.b M4 (nb2 - 1 - k2) fun x hx y hy=>by
        rw [c5,Array.toList_reverse,mem_reverse,Array.toList_extract,extract_eq_drop_take] at hx
        obtain ⟨j,hj,ej⟩:=ZY hx
        exact ZL (la y hy) (w2 (k2+j) x (by omega) (by omega) (by rw [Nat.zero_add];exact ej))
       rw [c5,c6,<- Array.toList_append] at M6
       refine Zg (fun q5=>?_) (fun q5=>?_)
       ·exact wpS_pure ⟨_,rfl,.inl ⟨_,rfl,okL _ _ _ M6 (by simpa using q5)⟩⟩
       have q5':k2≠1:=by simpa using q5
       refine Zg (fun q8=>?_) (fun q8=>?_)
       ·exact wpS_pure ⟨_,rfl,.inl ⟨_,rfl,okD _ _ _ M6 (.inl (by simpa using q8))⟩⟩
       have q8':k2≠0:=by simpa using q8
       refine wpS_bind (Zp ea ?_)
       have M5:=MI.pa M6 da r3
       rw [<- Array.toList_push] at M5
       refine Zg (fun q6=>?_) (fun q6=>?_)
       ·exact wpS_pure ⟨_,rfl,.inl ⟨_,rfl,okD _ _ _ M5 (.inr (by simpa using q6))⟩⟩
       ·have q6':k - 1≠0:=by simpa using q6
        refine Zg (fun q7=>?_) (fun q7=>?_)
        ·exact wpS_pure ⟨_,rfl,.inr ⟨_,_,_,_,_,_,rfl,M5,by omega,by omega,by omega,by omega,by omega⟩⟩
        ·exact wpS_pure ⟨_,_,_,_,_,_,_,rfl,rfl,M5,by omega,by omega,by omega,by omega,by omega⟩
      ·have z2:k2=nb2 - 1:=by omega
       subst z2
       refine wpS_bind (Zp ea ?_)
       have M5:=MI.pa M4 da r3
       rw [<- Array.toList_push] at M5
       refine Zg (fun q6=>?_) (fun q6=>?_)
       ·exact wpS_pure ⟨_,rfl,.inl ⟨_,rfl,okD _ _ _ M5 (.inr (by simpa using q6))⟩⟩
       ·have q6':k - 1≠0:=by simpa using q6
        refine Zg (fun q7=>?_) (fun q7=>?_)
        ·exact wpS_pure ⟨_,rfl,.inr ⟨_,_,_,_,_,_,rfl,M5,by omega,by omega,by omega,by omega,by omega⟩⟩
        ·exact wpS_pure ⟨_,_,_,_,_,_,_,rfl,rfl,M5,by omega,by omega,by omega,by omega,by omega⟩
    ·
     rw [Yq]
     refine wpS_bind (wpS_modify (wpS_bind (Zp eb ?_)))
     refine wpS_bind (Yw (left:=false) hO hk kb1 ka sa (by omega) (by omega) fun k hkn v1 v2=>?_)
     dsimp only
     have r2:∀ y∈ZH a k,ZG κ y pb:=fun y hy=>by
      obtain ⟨j,hj,ej⟩:=Xz hy
      exact v1 j y hj (by rw [Nat.zero_add];exact ej)
     obtain ⟨c3,c4⟩:=WJ hkn u3
     refine Zg (fun qk=>?_) (fun qk=>?_)
     ·have M3:=MI.a M2 (na2 - k) fun x hx y hy=>by
       rw [c3,Array.toList_reverse,mem_reverse,Array.toList_extract,extract_eq_drop_take] at hx
       obtain ⟨j,hj,ej⟩:=ZY hx
       exact ZL (lb y hy) (KeyOrd.kle_of_klt (v2 (k+j) x (by omega) (by omega) (by rw [Nat.zero_add];exact ej)))
      rw [c3,c4,<- Array.toList_append] at M3
      refine Zg (fun q2=>?_) (fun q2=>?_)
      ·exact wpS_pure ⟨_,rfl,.inl ⟨_,rfl,okD _ _ _ M3 (.inr (by simpa using q2))⟩⟩
      have q2':k≠0:=by simpa using q2
      refine wpS_bind (Zp eb ?_)
      have M4:=MI.pb M3 db r2
      rw [<- Array.toList_push] at M4
      refine Zg (fun q4=>?_) (fun q4=>?_)
      ·exact wpS_pure ⟨_,rfl,.inl ⟨_,rfl,okL _ _ _ M4 (by simpa using q4)⟩⟩
      have q4':nb2 - 1≠1:=by simpa using q4
      obtain ⟨pa,ea,ka1,_,_⟩:=Ye ka (show k - 1 < a.size by omega)
      have da:ZH a (k)=pa::ZH a (k - 1):=by have:=Xw ea;rwa [show k - 1+1=k by omega] at this
      have la:∀ y∈ZH a (k),ZG κ y pa:=by have:=WY sa ea;rwa [show k - 1+1=k by omega] at this
      refine wpS_bind (Zp ea ?_)
      refine wpS_bind (Yw (left:=true) hO hk ka1 kb sb (by omega) (by omega) fun k2 hk2 w1 w2=>?_)
      dsimp only
      have r3:∀ y∈ZH b k2,ZG κ y pa:=fun y hy=>by
       obtain ⟨j,hj,ej⟩:=Xz hy
       exact KeyOrd.kle_of_klt (w1 j y hj (by rw [Nat.zero_add];exact ej))
      obtain ⟨c5,c6⟩:=WJ hk2 (show nb2 - 1<=b.size by omega)
      refine Zg (fun qk2=>?_) (fun qk2=>?_)
      ·have M6:=MI.b M4 (nb2 - 1 - k2) fun x hx y hy=>by
        rw [c5,Array.toList_reverse,mem_reverse,Array.toList_extract,extract_eq_drop_take] at hx
        obtain ⟨j,hj,ej⟩:=ZY hx
        exact ZL (la y hy) (w2 (k2+j) x (by omega) (by omega) (by rw [Nat.zero_add];exact ej))
       rw [c5,c6,<- Array.toList_append] at M6
       refine Zg (fun q5=>?_) (fun q5=>?_)
       ·exact wpS_pure ⟨_,rfl,.inl ⟨_,rfl,okL _ _ _ M6 (by simpa using q5)⟩⟩
       have q5':k2≠1:=by simpa using q5
       refine Zg (fun q8=>?_) (fun q8=>?_)
       ·exact wpS_pure ⟨_,rfl,.inl ⟨_,rfl,okD _ _ _ M6 (.inl (by simpa using q8))⟩⟩
       have q8':k2≠0:=by simpa using q8
       refine wpS_bind (Zp ea ?_)
       have M5:=MI.pa M6 da r3
       rw [<- Array.toList_push] at M5
       refine Zg (fun q6=>?_) (fun q6=>?_)
       ·exact wpS_pure ⟨_,rfl,.inl ⟨_,rfl,okD _ _ _ M5 (.inr (by simpa using q6))⟩⟩
       ·have q6':k - 1≠0:=by simpa using q6
        refine Zg (fun q7=>?_) (fun q7=>?_)
        ·exact wpS_pure ⟨_,rfl,.inr ⟨_,_,_,_,_,_,rfl,M5,by omega,by omega,by omega,by omega,by omega⟩⟩
        ·exact wpS_pure ⟨_,_,_,_,_,_,_,rfl,rfl,M5,by omega,by omega,by omega,by omega,by omega⟩
      ·have z2:k2=nb2 - 1:=by omega
       subst z2
       refine wpS_bind (Zp ea ?_)
       have M5:=MI.pa M4 da r3
       rw [<- Array.toList_push] at M5
       refine Zg (fun q6=>?_) (fun q6=>?_)
       ·exact wpS_pure ⟨_,rfl,.inl ⟨_,rfl,okD _ _ _ M5 (.inr (by simpa using q6))⟩⟩
       ·have q6':k - 1≠0:=by simpa using q6
        refine Zg (fun q7=>?_) (fun q7=>?_)
        ·exact wpS_pure ⟨_,rfl,.inr ⟨_,_,_,_,_,_,rfl,M5,by omega,by omega,by omega,by omega,by omega⟩⟩
        ·exact wpS_pure ⟨_,_,_,_,_,_,_,rfl,rfl,M5,by omega,by omega,by omega,by omega,by omega⟩
     ·have zk:k=na2:=by omega
      subst zk
      refine wpS_bind (Zp eb ?_)
      have M4:=MI.pb M2 db r2
      rw [<- Array.toList_push] at M4
      refine Zg (fun q4=>?_) (fun q4=>?_)
      ·exact wpS_pure ⟨_,rfl,.inl ⟨_,rfl,okL _ _ _ M4 (by simpa using q4)⟩⟩
      have q4':nb2 - 1≠1:=by simpa using q4
      obtain ⟨pa,ea,ka1,_,_⟩:=Ye ka (show k - 1 < a.size by omega)
      have da:ZH a (k)=pa::ZH a (k - 1):=by have:=Xw ea;rwa [show k - 1+1=k by omega] at this
      have la:∀ y∈ZH a (k),ZG κ y pa:=by have:=WY sa ea;rwa [show k - 1+1=k by omega] at this
      refine wpS_bind (Zp ea ?_)
      refine wpS_bind (Yw (left:=true) hO hk ka1 kb sb (by omega) (by omega) fun k2 hk2 w1 w2=>?_)
      dsimp only
      have r3:∀ y∈ZH b k2,ZG κ y pa:=fun y hy=>by
       obtain ⟨j,hj,ej⟩:=Xz hy
       exact KeyOrd.kle_of_klt (w1 j y hj (by rw [Nat.zero_add];exact ej))
      obtain ⟨c5,c6⟩:=WJ hk2 (show nb2 - 1<=b.size by omega)
      refine Zg (fun qk2=>?_) (fun qk2=>?_)
      ·have M6:=MI.b M4 (nb2 - 1 - k2) fun x hx y hy=>by
        rw [c5,Array.toList_reverse,mem_reverse,Array.toList_extract,extract_eq_drop_take] at hx
        obtain ⟨j,hj,ej⟩:=ZY hx
        exact ZL (la y hy) (w2 (k2+j) x (by omega) (by omega) (by rw [Nat.zero_add];exact ej))
       rw [c5,c6,<- Array.toList_append] at M6
       refine Zg (fun q5=>?_) (fun q5=>?_)
       ·exact wpS_pure ⟨_,rfl,.inl ⟨_,rfl,okL _ _ _ M6 (by simpa using q5)⟩⟩
       have q5':k2≠1:=by simpa using q5
       refine Zg (fun q8=>?_) (fun q8=>?_)
       ·exact wpS_pure ⟨_,rfl,.inl ⟨_,rfl,okD _ _ _ M6 (.inl (by simpa using q8))⟩⟩
       have q8':k2≠0:=by simpa using q8
       refine wpS_bind (Zp ea ?_)
       have M5:=MI.pa M6 da r3
       rw [<- Array.toList_push] at M5
       refine Zg (fun q6=>?_) (fun q6=>?_)
       ·exact wpS_pure ⟨_,rfl,.inl ⟨_,rfl,okD _ _ _ M5 (.inr (by simpa using q6))⟩⟩
       ·have q6':k - 1≠0:=by simpa using q6
        refine Zg (fun q7=>?_) (fun q7=>?_)
        ·exact wpS_pure ⟨_,rfl,.inr ⟨_,_,_,_,_,_,rfl,M5,by omega,by omega,by omega,by omega,by omega⟩⟩
        ·exact wpS_pure ⟨_,_,_,_,_,_,_,rfl,rfl,M5,by omega,by omega,by omega,by omega,by omega⟩
      ·have z2:k2=nb2 - 1:=by omega
       subst z2
       refine wpS_bind (Zp ea ?_)
       have M5:=MI.pa M4 da r3
       rw [<- Array.toList_push] at M5
       refine Zg (fun q6=>?_) (fun q6=>?_)
       ·exact wpS_pure ⟨_,rfl,.inl ⟨_,rfl,okD _ _ _ M5 (.inr (by simpa using q6))⟩⟩
       ·have q6':k - 1≠0:=by simpa using q6
        refine Zg (fun q7=>?_) (fun q7=>?_)
        ·exact wpS_pure ⟨_,rfl,.inr ⟨_,_,_,_,_,_,rfl,M5,by omega,by omega,by omega,by omega,by omega⟩⟩
        ·exact wpS_pure ⟨_,_,_,_,_,_,_,rfl,rfl,M5,by omega,by omega,by omega,by omega,by omega⟩
end
section
variable {prog:Program}{w:World}{A:Around}{E:Value->Shared->Prop}{s:Shared}{κ:PyProof.Rows.KeyKind}
theorem ZW {xs ys:Array Keyed}(h:KeysOf κ xs)(p:ys.Perm xs):KeysOf κ ys:=fun q hq=>h q ((Array.perm_iff_toList_perm.mp p).mem_iff.mp hq)
theorem Wn (hO:κ.OneLt){st:SortSt}{i j:Nat}{Q:Option Bool->SortSt->Prop}(hk:kindOf st=oneType')(h0:KeysOf κ (arrOf st))(hi:i < (arrOf st).size)(hj:j < (arrOf st).size)(h:Q (some (κ.blt (KK κ (arrOf st) i) (KK κ (arrOf st) j))) st) :
 wpS (model prog w) A E s (ltAt' i j) Q st:=by
 obtain ⟨⟨x,p⟩,e1,ha,_,k1⟩:=Ye h0 hi
 obtain ⟨⟨y,q⟩,e2,hb,_,k2⟩:=Ye h0 hj
 rw [k1,k2] at h
 exact wpS_ltAtK hO hk e1 e2 ha hb h
def SegK (κ:PyProof.Rows.KeyKind)(xs:Array Keyed)(lo n:Nat):Prop:=∀ i j,i<=j->j < n->κ.kle (KK κ xs (lo+i)) (KK κ xs (lo+j))
structure Kpt (xs ys:Array Keyed)(lo hi:Nat):Prop where
 pm:ys.Perm xs
 out:∀ i,(i < lo\/hi<=i)->ys[i]?=xs[i]?
theorem Kpt.refl {xs:Array Keyed}{lo hi:Nat}:Kpt xs xs lo hi:=⟨.refl _,fun _ _=>rfl⟩
theorem Kpt.trans {xs ys zs:Array Keyed}{lo hi:Nat}(h:Kpt xs ys lo hi)(g:Kpt ys zs lo hi):Kpt xs zs lo hi:=⟨g.pm.trans h.pm,fun i hi=>(g.out i hi).trans (h.out i hi)⟩
theorem Kpt.wide {xs ys:Array Keyed}{lo hi lo' hi':Nat}(h:Kpt xs ys lo hi)(h1:lo'<=lo)(h2:hi<=hi'):Kpt xs ys lo' hi':=⟨h.pm,fun i hi=>h.out i (by omega)⟩
theorem Kpt.size {xs ys:Array Keyed}{lo hi:Nat}(h:Kpt xs ys lo hi):ys.size=xs.size:=h.pm.size_eq
theorem Zjg (hO:κ.OneLt){st:SortSt}{lo n ok:Nat}{Q:Bool->SortSt->Prop}(hk:kindOf st=oneType')(h0:KeysOf κ (arrOf st))(hn:lo+n<=(arrOf st).size)(hok:ok<=n)(hs:SegK κ (arrOf st) lo ok)
   (h:∀ xs,Kpt (arrOf st) xs lo (lo+n)->SegK κ xs lo n->Q true (setArr st xs)):wpS (model prog w) A E s (binarySort' lo n ok) Q st:=by
 rw [binarySort'_eq]
 refine wpS_bind (wpS_mono (wpS_forRange (I:=fun k c st'=>c=(none,())/\∃ xs,st'=setArr st xs/\Kpt (arrOf st) xs lo (lo+n)/\SegK κ xs lo (min k n))
   (Q:=fun c st'=>c=(none,())/\∃ xs,st'=setArr st xs/\Kpt (arrOf st) xs lo (lo+n)/\SegK κ xs lo n) ?step ?fin ?init) ?post)
 case post =>
   rintro c st' ⟨rfl,xs,rfl,hK,hS⟩
   exact wpS_pure (h xs hK hS)
 case init =>
   refine ⟨rfl,arrOf st,rfl,.refl,fun i j hij hj=>?_⟩
   by_cases h1:ok=0
   · have:i=j:=by omega
     subst this;exact KeyOrd.kle_refl _
   · exact hs i j hij (by omega)
 case fin =>
   rintro c st' ⟨hc,xs,e,hK,hS⟩
   refine ⟨hc,xs,e,hK,?_⟩
   rwa [show min (max (max ok 1) n) n=n by omega] at hS
 case step =>
   rintro k c st' hak hkn ⟨rfl,xs,rfl,hK,hS⟩
   rw [show min k n=k by omega] at hS
   have hsz:=hK.size
   have h0':=ZW h0 hK.pm
   refine wpS_bind (wpS_mono (wpS_forRange (I:=fun x c st''=>st''=setArr st xs/\∃ l r,c=(none,l,r)/\l<=r/\r<=k/\r - l<=k - x /\
       (∀ i,i < l->κ.kle (KK κ xs (lo+i)) (KK κ xs (lo+k)))/\(∀ i,r<=i->i < k->κ.klt (KK κ xs (lo+k)) (KK κ xs (lo+i))))
     (Q:=fun c st''=>st''=setArr st xs/\∃ l,c=(none,l,l)/\l<=k /\
       (∀ i,i < l->κ.kle (KK κ xs (lo+i)) (KK κ xs (lo+k)))/\(∀ i,l<=i->i < k->κ.klt (KK κ xs (lo+k)) (KK κ xs (lo+i)))) ?istep ?ifin ?iinit) ?ipost)
   case iinit=>exact ⟨rfl,0,k,rfl,by omega,by omega,by omega,fun i hi=>by omega,fun i h1 h2=>by omega⟩
   case ifin =>
     rintro c st'' ⟨rfl,l,r,rfl,hlr,hrk,hm,hlo,hhi⟩
     have:l=r:=by omega
     subst this
     exact ⟨rfl,l,rfl,hrk,hlo,hhi⟩
   case istep =>
     rintro x c st'' _ hxk ⟨rfl,l,r,rfl,hlr,hrk,hm,hlo,hhi⟩
     dsimp only
     refine Zg (fun hge=>?_) (fun hge=>?_)
     · have:l=r:=by omega
       subst this
       exact wpS_pure ⟨rfl,l,rfl,hrk,hlo,hhi⟩
     · refine wpS_bind (Wn hO hk h0' (show lo+k < xs.size by omega) (show lo+(l+r) / 2 < xs.size by omega) ?_)
       show wpS _ _ _ _ _ _ _
       cases hless:κ.blt (KK κ xs (lo+k)) (KK κ xs (lo+(l+r) / 2)) with
       | true =>
         dsimp only
         rw [if_pos rfl]
         refine wpS_pure ⟨rfl,l,(l+r) / 2,rfl,by omega,by omega,by omega,hlo,fun i h1 h2=>?_⟩
         exact KeyOrd.klt_of_klt_of_kle hless (hS _ _ h1 h2)
       | false =>
         dsimp only
         rw [if_neg (by decide)]
         refine wpS_pure ⟨rfl,(l+r) / 2+1,r,rfl,by omega,by omega,by omega,fun i h1=>?_,hhi⟩
         exact KeyOrd.kle_trans (hS i ((l+r) / 2) (by omega) (by omega)) (show κ.kle _ _ from hless)
   case ipost =>
     rintro c st'' ⟨rfl,l,rfl,hlk,hlo,hhi⟩
     dsimp only
     rw [moveDown'_eq]
     have hks:lo+k < xs.size:=by omega
     have ed:lo+k - (lo+l)=k - l:=by omega
     refine wpS_bind (wpS_modify (wpS_pure ⟨rfl,bubble xs (lo+k) (lo+k - (lo+l)),rfl,hK.trans ⟨bubble_perm _ _ _,fun i hi=>?_⟩,?_⟩))
     · rw [getElem?_bubble hks _ (by omega)]
       rw [if_neg (by omega),if_neg (by omega)]
     · rw [show min (k+1) n=k+1 by omega]
       intro i j hij hj
       rw [KK_bubble hks (by omega),KK_bubble hks (by omega),ed,show lo+k - (k - l)=lo+l by omega]
       have key:∀ m,m<=k->(if lo+m=lo+l then KK κ xs (lo+k) else if lo+l < lo+m/\lo+m<=lo+k then KK κ xs (lo+m - 1) else KK κ xs (lo+m))=(if m=l then KK κ xs (lo+k) else if l < m then KK κ xs (lo+(m - 1)) else KK κ xs (lo+m)):=fun m hm=>by
         by_cases e1:m=l
         · rw [if_pos (by omega),if_pos e1]
         · rw [if_neg (by omega),if_neg e1]
           by_cases e2:l < m
           · rw [if_pos (by omega),if_pos e2,show lo+m - 1=lo+(m - 1) by omega]
           · rw [if_neg (by omega),if_neg e2]
       rw [key i (by omega),key j (by omega)]
       repeat' split
       all_goals first
         | (exfalso;omega)
         | exact KeyOrd.kle_refl _
         | exact hlo _ (by omega)
         | exact KeyOrd.kle_of_klt (hhi _ (by omega) (by omega))
         | exact hS _ _ (by omega) (by omega)
end
theorem ZfA (i:Nat):mergeAt' i=(do
 let s <- get
 let (some (sa,na,power),some (sb,nb,_)):=((pendingOf s)[i]?,(pendingOf s)[i+1]?) | unsupported "internal:list.sort.pending"
 set (setPending s (((pendingOf s).setIfInBounds i (sa,na+nb,power)).eraseIdxIfInBounds (i+1)))
 let some k <- Xh false (<- elem' (arrOf s) sb) (arrOf s) sa na 0 | return false
 let (sa,na):=(sa+k,na - k)
 if na == 0 then return true
 let some nb <- Xh true (<- elem' (arrOf s) (sa+na - 1)) (arrOf s) sb nb (nb - 1) | return false
 if nb == 0 then return true
 let x:=(arrOf s).extract sa sb
 let y:=(arrOf s).extract sb (sb+nb)
 let merged <- if na<=nb then Zas x y else Zar x y
 modify fun s=>setArr s (merged.toList.zipIdx.foldl (fun a (p,j)=>a.setIfInBounds (sa+j) p) (arrOf s))
 return (failedOf (<- get)).isNone):=rfl
section
variable {prog:Program}{w:World}{A:Around}{E:Value->Shared->Prop}{s:Shared}{κ:PyProof.Rows.KeyKind}
theorem ZkH {M:Model}{σ:Type}{x:σ}{Q:PUnit->σ->Prop}{st:σ}(h:Q ⟨⟩ x):wpS M A E s (set x:StateT σ Sem PUnit) Q st:=by
 unfold wpS;rw [StateT.run_set];exact wpAny_pure ⟨rfl,h⟩
theorem ZdZ (hO:κ.OneLt){st:SortSt}{left:Bool}{key:Keyed}{arr:Array Keyed}{base n hint:Nat}{Q:Option Nat->SortSt->Prop}(hk:kindOf st=oneType')(hkv:κ.keyOf key.1=some (kf κ key))(ha:KeysOf κ arr)(hs:SegK κ arr base n)(hb:base+n<=arr.size)(hh:hint < n)
 (h:∀ k,k<=n->(∀ i p,i < k->arr[base+i]?=some p->if left then κ.klt (kf κ p) (kf κ key) else κ.kle (kf κ p) (kf κ key))->(∀ i p,k<=i->i < n->arr[base+i]?=some p->if left then κ.kle (kf κ key) (kf κ p) else κ.klt (kf κ key) (kf κ p))->Q (some k) st) :
 wpS (model prog w) A E s (Xh left key arr base n hint) Q st:=by
 refine Zbt hO hk hkv (fun i hi=>?_) hh (fun i j hij hj hB=>?_) fun k hkn h1 h2=>h k hkn (fun i p hi e=>?_) fun i p i1 i2 e=>?_
 ·obtain ⟨p,e1,e2,_,e3⟩:=Ye ha (show base+i < arr.size by omega)
  exact ⟨p,_,e1,e2,e3⟩
 ·have:=hs i j hij hj
  cases left with
  | true=>exact KeyOrd.klt_of_kle_of_klt this hB
  | false =>
   have hB:(!κ.blt (kf κ key) (KK κ arr (base+j)))=true:=hB
   have hB':κ.kle (KK κ arr (base+j)) (kf κ key):=by unfold KeyOrd.kle;simpa using hB
   have:=KeyOrd.kle_trans this hB'
   show (!κ.blt (kf κ key) (KK κ arr (base+i)))=true
   unfold KeyOrd.kle at this
   rw [this];rfl
 ·have:=h1 i hi
  rw [Xl e] at this
  cases left with
  | true=>exact this
  | false =>
   have this:(!κ.blt (kf κ key) (kf κ p))=true:=this
   show κ.blt (kf κ key) (kf κ p)=false
   simpa using this
 ·have:=h2 i i1 i2
  rw [Xl e] at this
  cases left with
  | true=>exact this
  | false =>
   have this:(!κ.blt (kf κ key) (kf κ p))=false:=this
   show κ.blt (kf κ key) (kf κ p)=true
   simpa using this
theorem ZlV {M:List Keyed}:∀{sa d:Nat}{xs:Array Keyed},sa+d+M.length<=xs.size->((M.zipIdx d).foldl (fun a (q:Keyed×Nat)=>a.setIfInBounds (sa+q.2) q.1) xs).toList=xs.toList.take (sa+d)++(M++xs.toList.drop (sa+d+M.length)):=by
 induction M with
 | nil=>intro sa d xs _;simp
 | cons p M ih =>
  intro sa d xs h
  rw [length_cons] at h
  rw [List.zipIdx_cons,List.foldl_cons,ih (by rw [Array.size_setIfInBounds];omega)]
  have hl:sa+d < xs.toList.length:=by rw [Array.length_toList];omega
  rw [Array.toList_setIfInBounds]
  show List.take (sa+(d+1)) (xs.toList.set (sa+d) p)++(M++List.drop (sa+(d+1)+M.length) (xs.toList.set (sa+d) p))=_
  rw [List.drop_set_of_lt (by omega),show sa+(d+1)=sa+d+1 by omega,List.take_succ,List.take_set_of_le (Nat.le_refl _),getElem?_set_self hl,length_cons]
  rw [show sa+d+1+M.length=sa+d+(M.length+1) by omega]
  simp
theorem Zhi {xs:Array Keyed}{lo n:Nat}{p:Keyed}(h:p∈(xs.toList.drop lo).take n):∃ i,i < n/\xs[lo+i]?=some p:=ZY h
theorem ZfK {xs:Array Keyed}{lo n:Nat}(h:SegK κ xs lo n):((xs.toList.drop lo).take n).Pairwise (ZG κ):=by
 rw [pairwise_iff_getElem]
 intro i j hi hj hij
 rw [length_take,length_drop,Array.length_toList] at hi hj
 have:=h i j (by omega) (by omega)
 rw [Xl (getElem?_pos xs (lo+i) (by omega)),Xl (getElem?_pos xs (lo+j) (by omega))] at this
 show κ.kle _ _
 simpa using this
theorem segK {xs:Array Keyed}{lo n:Nat}(hn:lo+n<=xs.size)(h:((xs.toList.drop lo).take n).Pairwise (ZG κ)):SegK κ xs lo n:=by
 intro i j hij hj
 rcases Nat.lt_or_ge i j with z | z
 ·have:=(pairwise_iff_getElem.mp h) i j (by rw [length_take,length_drop,Array.length_toList];omega) (by rw [length_take,length_drop,Array.length_toList];omega) z
  rw [Xl (getElem?_pos xs (lo+i) (by omega)),Xl (getElem?_pos xs (lo+j) (by omega))]
  have this:κ.kle _ _:=this
  simpa using this
 ·have:i=j:=by omega
  subst this;exact KeyOrd.kle_refl _
end
section
variable {prog:Program}{w:World}{A:Around}{E:Value->Shared->Prop}{s:Shared}{κ:PyProof.Rows.KeyKind}
theorem ZeC {xs:Array Keyed}{sa na nb:Nat}(h1:SegK κ xs sa na)(h2:SegK κ xs (sa+na) nb)(h:∀ i,i < na->κ.kle (KK κ xs (sa+i)) (KK κ xs (sa+na))):SegK κ xs sa (na+nb):=by
 intro i j hij hj
 rcases Nat.lt_or_ge j na with z | z
 ·exact h1 i j hij z
 ·have e:sa+j=sa+na+(j - na):=by omega
  rcases Nat.lt_or_ge i na with y | y
  ·refine KeyOrd.kle_trans (h i y) ?_
   have:=h2 0 (j - na) (Nat.zero_le _) (by omega)
   rw [e];exact this
  ·have:=h2 (i - na) (j - na) (by omega) (by omega)
   rw [e,show sa+i=sa+na+(i - na) by omega];exact this
theorem VL {xs:Array Keyed}{lo n d m:Nat}(h:SegK κ xs lo n)(hd:d+m<=n):SegK κ xs (lo+d) m:=fun i j hij hj=>by
 have:=h (d+i) (d+j) (by omega) (by omega)
 rw [show lo+d+i=lo+(d+i) by omega,show lo+d+j=lo+(d+j) by omega];exact this
theorem UH {xs:Array Keyed}{lo n i j:Nat}{p q:Keyed}(h:SegK κ xs lo n)(hij:i<=j)(hj:j < n)(ep:xs[lo+i]?=some p)(eq:xs[lo+j]?=some q):ZG κ p q:=by
 have:=h i j hij hj
 rw [Xl ep,Xl eq] at this
 exact this
theorem Zel (hO:κ.OneLt){st:SortSt}{i sa na pw sb nb pw2:Nat}{Q:Bool->SortSt->Prop}(hk:kindOf st=oneType')(hfl:failedOf st=none)(h0:KeysOf κ (arrOf st))(e1:(pendingOf st)[i]?=some (sa,na,pw))(e2:(pendingOf st)[i+1]?=some (sb,nb,pw2))
   (hsb:sb=sa+na) (h1:1<=na) (h2:1<=nb) (hn:sb+nb<=(arrOf st).size) (s1:SegK κ (arrOf st) sa na) (s2:SegK κ (arrOf st) sb nb)
   (h:∀ xs g,Kpt (arrOf st) xs sa (sa+(na+nb))->SegK κ xs sa (na+nb)->Q true (SortSt.mk' (kindOf st) xs (((pendingOf st).setIfInBounds i (sa,na+nb,pw)).eraseIdxIfInBounds (i+1)) g none)) :
   wpS (model prog w) A E s (mergeAt' i) Q st:=by
 rw [ZfA]
 refine wpS_bind (wpS_get ?_)
 rw [e1,e2]
 dsimp only
 refine wpS_bind (ZkH ?_)
 generalize hP:((pendingOf st).setIfInBounds i (sa,na+nb,pw)).eraseIdxIfInBounds (i+1)=P at *
 have eS:setPending st P=SortSt.mk' (kindOf st) (arrOf st) P (gallopOf st) none:=by rw [<- hfl]
 obtain ⟨pb,eb,kb,_,Kb⟩:=Ye h0 (show sb < (arrOf st).size by omega)
 refine wpS_bind (Zp eb (wpS_bind (ZdZ (left:=false) hO hk kb h0 s1 (by omega) (by omega) fun k hkn u1 u2=>?_)))
 dsimp only
 have at_:∀ m,m < (arrOf st).size->∃ p,(arrOf st)[m]?=some p/\KK κ (arrOf st) m=kf κ p:=fun m hm=>by
   obtain ⟨p,a1,_,_,a2⟩:=Ye h0 hm
   exact ⟨p,a1,a2⟩
 refine Zg (fun q1=>?_) (fun q1=>?_)
 · have hkk:na - k=0:=by simpa using q1
   rw [eS]
   refine wpS_pure (h _ _ .refl (ZeC s1 (hsb ▸ s2) fun j hj=>?_))
   obtain ⟨p,a1,a2⟩:=at_ (sa+j) (by omega)
   rw [<- hsb,Kb,a2]
   exact u1 j p (by omega) a1
 have hkk:na - k≠0:=by simpa using q1
 obtain ⟨pl,el,kl,_,Kl⟩:=Ye h0 (show sa+k+(na - k) - 1 < (arrOf st).size by omega)
 refine wpS_bind (Zp el (wpS_bind (ZdZ (left:=true) hO hk kl h0 s2 (by omega) (by omega) fun nb1 hnb v1 v2=>?_)))
 dsimp only
 have el':(arrOf st)[sa+(na - 1)]?=some pl:=by rw [show sa+(na - 1)=sa+k+(na - k) - 1 by omega];exact el
 refine Zg (fun q2=>?_) (fun q2=>?_)
 · have hz:nb1=0:=by simpa using q2
   rw [eS]
   refine wpS_pure (h _ _ .refl (ZeC s1 (hsb ▸ s2) fun j hj=>?_))
   obtain ⟨p,a1,a2⟩:=at_ (sa+j) (by omega)
   rw [<- hsb,Kb,a2]
   have x1:ZG κ p pl:=UH s1 (show j<=na - 1 by omega) (by omega) a1 el'
   exact ZL x1 (v2 0 pb (by omega) (by omega) (by rw [Nat.add_zero];exact eb))
 have hz:nb1≠0:=by simpa using q2
 generalize hx:(arrOf st).extract (sa+k) sb=x
 generalize hy:(arrOf st).extract sb (sb+nb1)=y
 have xL:x.toList=((arrOf st).toList.drop (sa+k)).take (na - k):=by rw [<- hx,show sb=sa+k+(na - k) by omega,XM]
 have yL:y.toList=((arrOf st).toList.drop sb).take nb1:=by rw [<- hy,XM]
 have lx:x.size=na - k:=by rw [<- Array.length_toList,xL,length_take,length_drop,Array.length_toList];omega
 have ly:y.size=nb1:=by rw [<- Array.length_toList,yL,length_take,length_drop,Array.length_toList];omega
 have kx:KeysOf κ x:=fun q hq=>h0 q (by rw [xL] at hq;exact List.mem_of_mem_drop (List.mem_of_mem_take hq))
 have ky:KeysOf κ y:=fun q hq=>h0 q (by rw [yL] at hq;exact List.mem_of_mem_drop (List.mem_of_mem_take hq))
 have sx:x.toList.Pairwise (ZG κ):=by rw [xL];exact ZfK (VL s1 (by omega))
 have sy:y.toList.Pairwise (ZG κ):=by rw [yL];exact ZfK (VL (d:=0) s2 (by omega))
 have inx:∀ p∈x.toList,∃ j,j < na - k/\(arrOf st)[sa+(k+j)]?=some p:=fun p hp=>by
   rw [xL] at hp
   obtain ⟨j,hj,e⟩:=Zhi hp
   exact ⟨j,hj,by rw [show sa+(k+j)=sa+k+j by omega];exact e⟩
 have iny:∀ p∈y.toList,∃ j,j < nb1/\(arrOf st)[sb+j]?=some p:=fun p hp=>by rw [yL] at hp;exact Zhi hp
 have bx:∀ p∈x.toList,ZG κ pb p:=fun p hp=>by
   obtain ⟨j,hj,e⟩:=inx p hp
   exact KeyOrd.kle_of_klt (u2 (k+j) p (by omega) (by omega) e)
 have yl:∀ p∈y.toList,ZG κ p pl:=fun p hp=>by
   obtain ⟨j,hj,e⟩:=iny p hp
   exact KeyOrd.kle_of_klt (v1 j p hj e)
 have hf:∀ p∈y.toList.take 1,∀ q∈x.toList,ZG κ p q:=fun p hp q hq=>by
   have hpb:p=pb:=by
     obtain ⟨j,hj,e⟩:=ZY (arr:=y) (i:=0) (by rw [List.drop_zero];exact hp)
     have:j=0:=by omega
     subst this
     have e9:=List.mem_of_mem_take hp
     have ey0:y.toList[0]?=some p:=by rw [Array.getElem?_toList];exact e
     rw [yL,List.getElem?_take_of_lt (by omega),List.getElem?_drop,Nat.add_zero,Array.getElem?_toList,eb] at ey0
     exact (Option.some.inj ey0).symm
   rw [hpb];exact bx q hq
 have hl:∀ p∈y.toList,∀ q∈x.toList.drop (x.size - 1),ZG κ p q:=fun p hp q hq=>by
   have hql:q=pl:=by
     obtain ⟨j,hj,e⟩:=mem_iff_getElem.mp hq
     rw [length_drop,Array.length_toList] at hj
     have hj0:j=0:=by omega
     subst hj0
     have e3:(x.toList.drop (x.size - 1))[0]?=some q:=List.getElem?_eq_some_iff.mpr ⟨_,e⟩
     rw [List.getElem?_drop,Nat.add_zero,xL,List.getElem?_take_of_lt (by omega),List.getElem?_drop,Array.getElem?_toList,show sa+k+(x.size - 1)=sa+(na - 1) by omega,el'] at e3
     exact (Option.some.inj e3).symm
   rw [hql];exact yl p hp
 have fin:∀ (M:Array Keyed) (g:Nat),M.toList.Perm (x.toList++y.toList)->M.toList.Pairwise (ZG κ)->wpS (model prog w) A E s (do
     modify fun s=>setArr s (M.toList.zipIdx.foldl (fun a (p,j)=>a.setIfInBounds (sa+k+j) p) (arrOf s))
     let z <- get
     pure (failedOf z).isNone) Q (Ys (setPending st P) g):=by
   intro M g pM sM
   refine wpS_bind (wpS_modify (wpS_bind (wpS_get ?_)))
   have hML:M.toList.length=na - k+nb1:=by rw [pM.length_eq,length_append,Array.length_toList,Array.length_toList,lx,ly]
   have eL:=ZlV (M:=M.toList) (sa:=sa+k) (d:=0) (xs:=arrOf st) (by omega)
   rw [Nat.add_zero,hML,show sa+k+(na - k+nb1)=sb+nb1 by omega] at eL
   refine wpS_pure ?_
   show Q (failedOf st).isNone (SortSt.mk' (kindOf st) ((M.toList.zipIdx.foldl (fun a (p,j)=>a.setIfInBounds (sa+k+j) p) (arrOf st))) P g (failedOf st))
   rw [hfl]
   change Q true _
   generalize hxs:(M.toList.zipIdx.foldl (fun a (p,j)=>a.setIfInBounds (sa+k+j) p) (arrOf st))=xs
   have eL:xs.toList=(arrOf st).toList.take (sa+k)++(M.toList++(arrOf st).toList.drop (sb+nb1)):=by rw [<- hxs];exact eL
   have hle:sa+k<=(arrOf st).toList.length:=by rw [Array.length_toList];omega
   generalize hL:(arrOf st).toList=L at *
   have hLl:L.length=(arrOf st).size:=by rw [<- hL,Array.length_toList]
   have d1:L.drop (sa+k)=x.toList++(y.toList++L.drop (sb+nb1)):=by
     rw [xL,yL]
     have q1:=(take_append_drop (na - k) (L.drop (sa+k))).symm
     have q2:=(take_append_drop nb1 (L.drop sb)).symm
     rw [drop_drop] at q1 q2
     rw [show sa+k+(na - k)=sb by omega] at q1
     rw [<- q2];exact q1
   have hpm:(L.take (sa+k)++(M.toList++L.drop (sb+nb1))).Perm (L.take (sa+k)++((x.toList++y.toList)++L.drop (sb+nb1))):=(pM.append_right _).append_left _
   have e2:L.take (sa+k)++((x.toList++y.toList)++L.drop (sb+nb1))=L:=by rw [append_assoc x.toList,<- d1];exact take_append_drop _ _
   rw [e2,<- eL] at hpm
   have hsz:xs.size=(arrOf st).size:=by rw [<- Array.length_toList,hpm.length_eq,hLl]
   have lA:((L.drop sa).take k).length=k:=by rw [length_take,length_drop];omega
   have eSg:(xs.toList.drop sa).take (na+nb)=(L.drop sa).take k++(M.toList++(L.drop (sb+nb1)).take (nb - nb1)):=by
     rw [eL,List.drop_append_of_le_length (by rw [length_take];omega),List.drop_take,show sa+k - sa=k by omega,List.take_append,lA,take_of_length_le (l:=(L.drop sa).take k) (by rw [lA];omega),List.take_append,hML,take_of_length_le (l:=M.toList) (by rw [hML];omega),show na+nb - k - (na - k+nb1)=nb - nb1 by omega]
   have inA:∀ p∈(L.drop sa).take k,∃ j,j < k/\(arrOf st)[sa+j]?=some p:=fun p hp=>by rw [<- hL] at hp;exact ZY hp
   have inB:∀ p∈(L.drop (sb+nb1)).take (nb - nb1),∃ j,j < nb - nb1/\(arrOf st)[sb+(nb1+j)]?=some p:=fun p hp=>by
     rw [<- hL] at hp
     obtain ⟨j,hj,e⟩:=ZY hp
     exact ⟨j,hj,by rw [show sb+(nb1+j)=sb+nb1+j by omega];exact e⟩
   refine h xs g ⟨Array.perm_iff_toList_perm.mpr (by rw [hL];exact hpm),fun m hm=>?_⟩ (segK (by omega) ?_)
   · rw [<- Array.getElem?_toList,<- Array.getElem?_toList,hL,eL]
     rcases hm with hm | hm
     · rw [getElem?_append_left (by rw [length_take];omega),List.getElem?_take_of_lt (by omega)]
     · have lt:(L.take (sa+k)).length=sa+k:=by rw [length_take];omega
       rw [getElem?_append_right (by omega),getElem?_append_right (by omega),List.getElem?_drop,lt,hML]
       exact congrArg (L[·]?) (by omega)
   · rw [eSg,pairwise_append,pairwise_append]
     have inM:∀ p∈M.toList,p∈x.toList\/p∈y.toList:=fun p hp=>mem_append.mp (pM.mem_iff.mp hp)
     refine ⟨?_,⟨sM,?_,fun p hp q hq=>?_⟩,fun p hp q hq=>?_⟩
     · have:=ZfK (VL (d:=0) (m:=k) s1 (by omega))
       rw [hL,Nat.add_zero] at this;exact this
     · have:=ZfK (VL (d:=nb1) (m:=nb - nb1) s2 (by omega))
       rw [hL] at this;exact this
     · obtain ⟨j,hj,eq⟩:=inB q hq
       rcases inM p hp with z | z
       · obtain ⟨m,hm,ep⟩:=inx p z
         have x1:ZG κ p pl:=UH s1 (show k+m<=na - 1 by omega) (by omega) ep el'
         exact ZL x1 (v2 (nb1+j) q (by omega) (by omega) eq)
       · obtain ⟨m,hm,ep⟩:=iny p z
         exact UH s2 (show m<=nb1+j by omega) (by omega) ep eq
     · obtain ⟨j,hj,ep⟩:=inA p hp
       have pp:ZG κ p pb:=u1 j p hj ep
       rcases mem_append.mp hq with z | z
       · rcases inM q z with y9 | y9
         · obtain ⟨m,hm,eq⟩:=inx q y9
           exact UH s1 (show j<=k+m by omega) (by omega) ep eq
         · obtain ⟨m,hm,eq⟩:=iny q y9
           exact ZL pp (UH s2 (Nat.zero_le m) (by omega) (by rw [Nat.add_zero];exact eb) eq)
       · obtain ⟨m,hm,eq⟩:=inB q z
         exact ZL pp (UH s2 (Nat.zero_le (nb1+m)) (by omega) (by rw [Nat.add_zero];exact eb) eq)
 by_cases q3:na - k<=nb1
 · rw [if_pos q3]
   refine wpS_bind (Zen hO (st:=setPending st P) hk kx ky sx sy (by omega) (by omega) hf hl fun out g o1 o2=>?_)
   exact fin out g o1 o2
 · rw [if_neg q3]
   refine wpS_bind (Zem hO (st:=setPending st P) hk kx ky sx sy (by omega) (by omega) hf hl fun out g o1 o2=>?_)
   exact fin out g o1 o2
end
section
variable {prog:Program}{w:World}{A:Around}{E:Value->Shared->Prop}{s:Shared}{κ:PyProof.Rows.KeyKind}
def NI (κ:PyProof.Rows.KeyKind)(xs:Array Keyed)(lo n:Nat):Prop:=∀ i j,i<=j->j < n->κ.kle (KK κ xs (lo+j)) (KK κ xs (lo+i))
theorem NI.more {xs:Array Keyed}{lo n:Nat}(h:NI κ xs lo n)(h1:1<=n)(hl:κ.kle (KK κ xs (lo+n)) (KK κ xs (lo+n - 1))):NI κ xs lo (n+1):=fun i j hij hj=>by
 rcases Nat.lt_or_ge j n with z | z
 ·exact h i j hij z
 ·have:j=n:=by omega
  subst this
  rcases Nat.lt_or_ge i j with y | y
  ·refine KeyOrd.kle_trans hl ?_
   have:=h i (j - 1) (by omega) (by omega)
   rwa [show lo+(j - 1)=lo+j - 1 by omega] at this
  ·have:i=j:=by omega
   subst this;exact KeyOrd.kle_refl _
theorem SegK.more {xs:Array Keyed}{lo n:Nat}(h:SegK κ xs lo n)(h1:1<=n)(hl:κ.kle (KK κ xs (lo+n - 1)) (KK κ xs (lo+n))):SegK κ xs lo (n+1):=fun i j hij hj=>by
 rcases Nat.lt_or_ge j n with z | z
 ·exact h i j hij z
 ·have:j=n:=by omega
  subst this
  rcases Nat.lt_or_ge i j with y | y
  ·refine KeyOrd.kle_trans ?_ hl
   have:=h i (j - 1) (by omega) (by omega)
   rwa [show lo+(j - 1)=lo+j - 1 by omega] at this
  ·have:i=j:=by omega
   subst this;exact KeyOrd.kle_refl _
theorem Yy {xs:Array Keyed}{lo hi i j:Nat}(h1:lo<=i)(h2:j<=hi)(hj:j<=xs.size):Kpt xs (mirror xs i j ((j - i) / 2)) lo hi:=⟨mirror_perm _ _ _ _,fun m hm=>by
 rw [getElem?_mirror_all hj,if_neg (by omega)]⟩
theorem ZaU {xs:Array Keyed}{i j:Nat}(hj:j<=xs.size)(heq:∀ k,i<=k->k < j->KK κ xs k=KK κ xs (j - 1)):KK κ (mirror xs i j ((j - i) / 2))=KK κ xs:=funext fun k=>KK_mirror_equal hj heq k
theorem UP (hO:κ.OneLt){st:SortSt}{lo nrem a:Nat}{Q:Option (Option Nat)×Nat->SortSt->Prop}(hk:kindOf st=oneType')(h0:KeysOf κ (arrOf st))(ha:1<=a)(han:a<=nrem)(hn:lo+nrem<=(arrOf st).size)(hs:SegK κ (arrOf st) lo a)
 (h:∀ n,a<=n->n<=nrem->SegK κ (arrOf st) lo n->(n < nrem->κ.klt (KK κ (arrOf st) (lo+n)) (KK κ (arrOf st) (lo+n - 1)))->Q (none,n) st) :
 wpS (model prog w) A E s (forIn [a:nrem] ((none,a):Option (Option Nat)×Nat) fun _ c=>do
  let x <- ltAt' (lo+c.snd) (lo+c.snd - 1)
  match x with
  | some smaller=>if smaller=true then pure (ForInStep.done (none,c.snd)) else pure (ForInStep.yield (none,c.snd+1))
  | _=>pure (ForInStep.done (some none,c.snd))) Q st:=by
 refine wpS_forRange (I:=fun x c st'=>st'=st/\c=(none,x)/\a<=x/\x<=nrem/\SegK κ (arrOf st) lo x) ?step ?fin ⟨rfl,rfl,Nat.le_refl _,han,hs⟩
 case fin =>
  rintro c st' ⟨rfl,rfl,a1,a2,a3⟩
  exact h _ a1 a2 a3 (fun z=>by omega)
 case step =>
  rintro x c st' hx1 hx2 ⟨rfl,rfl,a1,a2,a3⟩
  dsimp only
  refine wpS_bind (Wn hO hk h0 (by omega) (by omega) ?_)
  dsimp only
  cases hm:κ.blt (KK κ (arrOf st') (lo+x)) (KK κ (arrOf st') (lo+x - 1)) with
  | true=>rw [if_pos rfl];exact wpS_pure (h x a1 a2 a3 fun _=>hm)
  | false=>rw [if_neg (by decide)];exact wpS_pure ⟨rfl,rfl,by omega,by omega,a3.more (by omega) hm⟩
theorem Zjh (hO:κ.OneLt){st:SortSt}{lo nrem:Nat}{Q:Option Nat->SortSt->Prop}(hk:kindOf st=oneType')(h0:KeysOf κ (arrOf st))(h1:1<=nrem)(hn:lo+nrem<=(arrOf st).size)
 (h:∀ xs n,Kpt (arrOf st) xs lo (lo+nrem)->1<=n->n<=nrem->SegK κ xs lo n->Q (some n) (setArr st xs)):wpS (model prog w) A E s (countRun' lo nrem) Q st:=by
 rw [countRun'_eq]
 dsimp only
 have one:SegK κ (arrOf st) lo 1:=fun i j hij hj=>by
  have:i=j:=by omega
  subst this;exact KeyOrd.kle_refl _
 refine wpS_bind (UP hO hk h0 (Nat.le_refl 1) h1 hn one fun n n1 n2 sN hlt=>?_)
 dsimp only
 have eS:st=setArr st (arrOf st):=rfl
 refine Zg (fun q1=>?_) (fun q1=>?_)
 ·rw [eS];exact wpS_pure (h _ n .refl n1 n2 sN)
 have q1':n≠nrem:=by simpa using q1
 have hlt:=hlt (by omega)
 refine Zg (fun q2=>?_) (fun q2=>?_)
 ·refine wpS_bind (Wn hO hk h0 (by omega) (by omega) ?_)
  dsimp only
  refine Zg (fun q3=>?_) (fun q3=>?_)
  ·rw [eS];exact wpS_pure (h _ n .refl n1 n2 sN)
  rw [reverseSlice'_eq]
  have heq:∀ k,lo<=k->k < lo+n->KK κ (arrOf st) k=KK κ (arrOf st) (lo+n - 1):=fun k a1 a2=>by
   have x1:=sN 0 (k - lo) (by omega) (by omega)
   have x2:=sN (k - lo) (n - 1) (by omega) (by omega)
   rw [show lo+(k - lo)=k by omega,Nat.add_zero] at x1
   rw [show lo+(k - lo)=k by omega,show lo+(n - 1)=lo+n - 1 by omega] at x2
   have x3:κ.kle (KK κ (arrOf st) (lo+n - 1)) (KK κ (arrOf st) lo):=KeyOrd.kle_of_not_klt q3
   exact KeyOrd.kle_antisymm x2 (KeyOrd.kle_trans x3 x1)
  refine wpS_bind (wpS_modify ?_)
  have K0:=Yy (xs:=arrOf st) (lo:=lo) (hi:=lo+nrem) (i:=lo) (j:=lo+n) (Nat.le_refl _) (by omega) (by omega)
  have ek:=ZaU (κ:=κ) (xs:=arrOf st) (i:=lo) (j:=lo+n) (by omega) heq
  have ni:NI κ (mirror (arrOf st) lo (lo+n) ((lo+n - lo) / 2)) lo (n+1):=by
   refine NI.more (fun i j hij hj=>?_) n1 ?_
   ·rw [ek,heq (lo+j) (by omega) (by omega),heq (lo+i) (by omega) (by omega)];exact KeyOrd.kle_refl _
   ·rw [ek];exact KeyOrd.kle_of_klt hlt
  show wpS _ _ _ _ _ _ (setArr st (mirror (arrOf st) lo (lo+n) ((lo+n - lo) / 2)))
  generalize mirror (arrOf st) lo (lo+n) ((lo+n - lo) / 2)=xs0 at K0 ni
  refine wpS_bind (wpS_lift (wpAny_rule ⟨rfl,?_⟩))
  refine wpS_bind (wpS_mono (wpS_forRange
   (I:=fun x c st'=>∃ xs q,c=(none,x,q)/\st'=setArr st xs/\Kpt (arrOf st) xs lo (lo+nrem)/\NI κ xs lo x/\q+1<=x/\(∀ i,x - (q+1)<=i->i < x->KK κ xs (lo+i)=KK κ xs (lo+(x - 1)))/\2<=x/\x<=nrem)
   (Q:=fun c st'=>∃ xs m q,c=(none,m,q)/\st'=setArr st xs/\Kpt (arrOf st) xs lo (lo+nrem)/\NI κ xs lo m/\q+1<=m/\(∀ i,m - (q+1)<=i->i < m->KK κ xs (lo+i)=KK κ xs (lo+(m - 1)))/\2<=m/\m<=nrem) ?step ?fin
   ⟨xs0,0,rfl,rfl,K0,ni,by omega,fun i a1 a2=>by rw [show i=n+1 - 1 by omega],by omega,by omega⟩) ?post)
  case fin =>
   rintro c st' ⟨xs,q,rfl,rfl,K1,n3,a1,a2,a3,a4⟩
   exact ⟨xs,_,q,rfl,rfl,K1,n3,a1,a2,a3,a4⟩
  case step =>
   rintro x c st' hx1 hx2 ⟨xs,q,rfl,rfl,K1,n3,a1,a2,a3,a4⟩
   dsimp only
   have hsz:=K1.size
   have k0:=ZW h0 K1.pm
   refine wpS_bind (Wn hO hk k0 (show lo+x < xs.size by omega) (show lo+x - 1 < xs.size by omega) ?_)
   dsimp only
   refine Zg (fun r1=>?_) (fun r1=>?_)
   ·have r1:κ.klt (KK κ xs (lo+x)) (KK κ xs (lo+x - 1)):=r1
    refine Zg (fun r2=>?_) (fun r2=>?_)
    ·rw [reverseSlice'_eq]
     have heq:∀ k,lo+x - (q+1)<=k->k < lo+x->KK κ xs k=KK κ xs (lo+x - 1):=fun k b1 b2=>by
      have:=a2 (k - lo) (by omega) (by omega)
      rwa [show lo+(k - lo)=k by omega,show lo+(x - 1)=lo+x - 1 by omega] at this
     have ek:=ZaU (κ:=κ) (xs:=xs) (i:=lo+x - (q+1)) (j:=lo+x) (by omega) heq
     refine wpS_bind (wpS_modify (wpS_pure ⟨_,0,rfl,rfl,K1.trans (Yy (by omega) (by omega) (by omega)),?_,by omega,fun i b1 b2=>by rw [show i=x+1 - 1 by omega],by omega,by omega⟩))
     refine NI.more (fun i j hij hj=>?_) (by omega) ?_
     ·show κ.kle (KK κ (mirror xs _ _ _) _) (KK κ (mirror xs _ _ _) _)
      rw [ek];exact n3 i j hij hj
     ·show κ.kle (KK κ (mirror xs _ _ _) _) (KK κ (mirror xs _ _ _) _)
      rw [ek];exact KeyOrd.kle_of_klt r1
    ·exact wpS_pure ⟨xs,0,rfl,rfl,K1,n3.more (by omega) (KeyOrd.kle_of_klt r1),by omega,fun i b1 b2=>by rw [show i=x+1 - 1 by omega],by omega,by omega⟩
   ·refine wpS_bind (Wn hO hk k0 (show lo+x - 1 < xs.size by omega) (show lo+x < xs.size by omega) ?_)
    dsimp only
    have r1':κ.kle (KK κ xs (lo+x - 1)) (KK κ xs (lo+x)):=KeyOrd.kle_of_not_klt r1
    refine Zg (fun r2=>?_) (fun r2=>?_)
    ·exact wpS_pure ⟨xs,x,q,rfl,rfl,K1,n3,a1,a2,a3,a4⟩
    ·have r2':κ.kle (KK κ xs (lo+x)) (KK κ xs (lo+x - 1)):=KeyOrd.kle_of_not_klt r2
     have e:=KeyOrd.kle_antisymm r2' r1'
     refine wpS_pure ⟨xs,q+1,rfl,rfl,K1,n3.more (by omega) r2',by omega,fun i b1 b2=>?_,by omega,by omega⟩
     rw [show x+1 - 1=x by omega]
     rcases Nat.lt_or_ge i x with z | z
     ·rw [a2 i (by omega) z,e,show lo+(x - 1)=lo+x - 1 by omega]
     ·rw [show i=x by omega]
  case post =>
   rintro c st' ⟨xs,m,q,rfl,rfl,K1,n3,a1,a2,a3,a4⟩
   dsimp only
   have hsz:=K1.size
   refine Zg (fun r2=>?_) (fun r2=>?_)
   ·rw [reverseSlice'_eq (lo+m - (q+1))]
    have heq:∀ k,lo+m - (q+1)<=k->k < lo+m->KK κ xs k=KK κ xs (lo+m - 1):=fun k b1 b2=>by
     have:=a2 (k - lo) (by omega) (by omega)
     rwa [show lo+(k - lo)=k by omega,show lo+(m - 1)=lo+m - 1 by omega] at this
    have ek:=ZaU (κ:=κ) (xs:=xs) (i:=lo+m - (q+1)) (j:=lo+m) (by omega) heq
    refine wpS_bind (wpS_modify ?_)
    show wpS _ _ _ _ _ _ (setArr st (mirror xs (lo+m - (q+1)) (lo+m) ((lo+m - (lo+m - (q+1))) / 2)))
    have K2:=K1.trans (Yy (xs:=xs) (lo:=lo) (hi:=lo+nrem) (i:=lo+m - (q+1)) (j:=lo+m) (by omega) (by omega) (by omega))
    have n4:NI κ (mirror xs (lo+m - (q+1)) (lo+m) ((lo+m - (lo+m - (q+1))) / 2)) lo m:=fun i j hij hj=>by rw [ek];exact n3 i j hij hj
    generalize mirror xs (lo+m - (q+1)) (lo+m) ((lo+m - (lo+m - (q+1))) / 2)=ys at K2 n4
    have hs2:=K2.size
    rw [reverseSlice'_eq]
    refine wpS_bind (wpS_modify ?_)
    show wpS _ _ _ _ _ _ (setArr st (mirror ys lo (lo+m) ((lo+m - lo) / 2)))
    have K3:=K2.trans (Yy (xs:=ys) (lo:=lo) (hi:=lo+nrem) (i:=lo) (j:=lo+m) (Nat.le_refl _) (by omega) (by omega))
    have sg:SegK κ (mirror ys lo (lo+m) ((lo+m - lo) / 2)) lo m:=fun i j hij hj=>by
     rw [KK_mirror (by omega),KK_mirror (by omega),if_pos (by omega),if_pos (by omega),show lo+(lo+m) - 1 - (lo+i)=lo+(m - 1 - i) by omega,show lo+(lo+m) - 1 - (lo+j)=lo+(m - 1 - j) by omega]
     exact n4 _ _ (by omega) (by omega)
    generalize mirror ys lo (lo+m) ((lo+m - lo) / 2)=zs at K3 sg
    have hs3:=K3.size
    refine wpS_bind (UP hO (st:=setArr st zs) hk (ZW h0 K3.pm) (by omega) a4 (by show lo+nrem<=zs.size;omega) sg fun m2 b1 b2 b3 _=>?_)
    exact wpS_pure (h zs m2 K3 (by omega) b2 b3)
   ·have K2:=K1
    have n4:=n3
    have hs2:=hsz
    rw [reverseSlice'_eq]
    refine wpS_bind (wpS_modify ?_)
    show wpS _ _ _ _ _ _ (setArr st (mirror xs lo (lo+m) ((lo+m - lo) / 2)))
    have K3:=K2.trans (Yy (xs:=xs) (lo:=lo) (hi:=lo+nrem) (i:=lo) (j:=lo+m) (Nat.le_refl _) (by omega) (by omega))
    have sg:SegK κ (mirror xs lo (lo+m) ((lo+m - lo) / 2)) lo m:=fun i j hij hj=>by
     rw [KK_mirror (by omega),KK_mirror (by omega),if_pos (by omega),if_pos (by omega),show lo+(lo+m) - 1 - (lo+i)=lo+(m - 1 - i) by omega,show lo+(lo+m) - 1 - (lo+j)=lo+(m - 1 - j) by omega]
     exact n4 _ _ (by omega) (by omega)
    generalize mirror xs lo (lo+m) ((lo+m - lo) / 2)=zs at K3 sg
    have hs3:=K3.size
    refine wpS_bind (UP hO (st:=setArr st zs) hk (ZW h0 K3.pm) (by omega) a4 (by show lo+nrem<=zs.size;omega) sg fun m2 b1 b2 b3 _=>?_)
    exact wpS_pure (h zs m2 K3 (by omega) b2 b3)
 ·have n0 : n=1:=by omega
  have K0:Kpt (arrOf st) (arrOf st) lo (lo+nrem):=.refl
  have ni:NI κ (arrOf st) lo (n+1):=by
   refine NI.more (fun i j hij hj=>?_) n1 (KeyOrd.kle_of_klt hlt)
   have:i=j:=by omega
   subst this;exact KeyOrd.kle_refl _
  show wpS _ _ _ _ _ _ (setArr st (arrOf st))
  refine wpS_bind (wpS_lift (wpAny_rule ⟨rfl,?_⟩))
  refine wpS_bind (wpS_mono (wpS_forRange
   (I:=fun x c st'=>∃ xs q,c=(none,x,q)/\st'=setArr st xs/\Kpt (arrOf st) xs lo (lo+nrem)/\NI κ xs lo x/\q+1<=x/\(∀ i,x - (q+1)<=i->i < x->KK κ xs (lo+i)=KK κ xs (lo+(x - 1)))/\2<=x/\x<=nrem)
   (Q:=fun c st'=>∃ xs m q,c=(none,m,q)/\st'=setArr st xs/\Kpt (arrOf st) xs lo (lo+nrem)/\NI κ xs lo m/\q+1<=m/\(∀ i,m - (q+1)<=i->i < m->KK κ xs (lo+i)=KK κ xs (lo+(m - 1)))/\2<=m/\m<=nrem) ?step ?fin
   ⟨arrOf st,0,rfl,rfl,K0,ni,by omega,fun i a1 a2=>by rw [show i=n+1 - 1 by omega],by omega,by omega⟩) ?post)
  case fin =>
   rintro c st' ⟨xs,q,rfl,rfl,K1,n3,a1,a2,a3,a4⟩
   exact ⟨xs,_,q,rfl,rfl,K1,n3,a1,a2,a3,a4⟩
  case step =>
   rintro x c st' hx1 hx2 ⟨xs,q,rfl,rfl,K1,n3,a1,a2,a3,a4⟩
   dsimp only
   have hsz:=K1.size
   have k0:=ZW h0 K1.pm
   refine wpS_bind (Wn hO hk k0 (show lo+x < xs.size by omega) (show lo+x - 1 < xs.size by omega) ?_)
   dsimp only
   refine Zg (fun r1=>?_) (fun r1=>?_)
   ·have r1:κ.klt (KK κ xs (lo+x)) (KK κ xs (lo+x - 1)):=r1
    refine Zg (fun r2=>?_) (fun r2=>?_)
    ·rw [reverseSlice'_eq]
     have heq:∀ k,lo+x - (q+1)<=k->k < lo+x->KK κ xs k=KK κ xs (lo+x - 1):=fun k b1 b2=>by
      have:=a2 (k - lo) (by omega) (by omega)
      rwa [show lo+(k - lo)=k by omega,show lo+(x - 1)=lo+x - 1 by omega] at this
     have ek:=ZaU (κ:=κ) (xs:=xs) (i:=lo+x - (q+1)) (j:=lo+x) (by omega) heq
     refine wpS_bind (wpS_modify (wpS_pure ⟨_,0,rfl,rfl,K1.trans (Yy (by omega) (by omega) (by omega)),?_,by omega,fun i b1 b2=>by rw [show i=x+1 - 1 by omega],by omega,by omega⟩))
     refine NI.more (fun i j hij hj=>?_) (by omega) ?_
     ·show κ.kle (KK κ (mirror xs _ _ _) _) (KK κ (mirror xs _ _ _) _)
      rw [ek];exact n3 i j hij hj
     ·show κ.kle (KK κ (mirror xs _ _ _) _) (KK κ (mirror xs _ _ _) _)
      rw [ek];exact KeyOrd.kle_of_klt r1
    ·exact wpS_pure ⟨xs,0,rfl,rfl,K1,n3.more (by omega) (KeyOrd.kle_of_klt r1),by omega,fun i b1 b2=>by rw [show i=x+1 - 1 by omega],by omega,by omega⟩
   ·refine wpS_bind (Wn hO hk k0 (show lo+x - 1 < xs.size by omega) (show lo+x < xs.size by omega) ?_)
    dsimp only
    have r1':κ.kle (KK κ xs (lo+x - 1)) (KK κ xs (lo+x)):=KeyOrd.kle_of_not_klt r1
    refine Zg (fun r2=>?_) (fun r2=>?_)
    ·exact wpS_pure ⟨xs,x,q,rfl,rfl,K1,n3,a1,a2,a3,a4⟩
    ·have r2':κ.kle (KK κ xs (lo+x)) (KK κ xs (lo+x - 1)):=KeyOrd.kle_of_not_klt r2
     have e:=KeyOrd.kle_antisymm r2' r1'
     refine wpS_pure ⟨xs,q+1,rfl,rfl,K1,n3.more (by omega) r2',by omega,fun i b1 b2=>?_,by omega,by omega⟩
     rw [show x+1 - 1=x by omega]
     rcases Nat.lt_or_ge i x with z | z
     ·rw [a2 i (by omega) z,e,show lo+(x - 1)=lo+x - 1 by omega]
     ·rw [show i=x by omega]
  case post =>
   rintro c st' ⟨xs,m,q,rfl,rfl,K1,n3,a1,a2,a3,a4⟩
   dsimp only
   have hsz:=K1.size
   refine Zg (fun r2=>?_) (fun r2=>?_)
   ·rw [reverseSlice'_eq (lo+m - (q+1))]
    have heq:∀ k,lo+m - (q+1)<=k->k < lo+m->KK κ xs k=KK κ xs (lo+m - 1):=fun k b1 b2=>by
     have:=a2 (k - lo) (by omega) (by omega)
     rwa [show lo+(k - lo)=k by omega,show lo+(m - 1)=lo+m - 1 by omega] at this
    have ek:=ZaU (κ:=κ) (xs:=xs) (i:=lo+m - (q+1)) (j:=lo+m) (by omega) heq
    refine wpS_bind (wpS_modify ?_)
    show wpS _ _ _ _ _ _ (setArr st (mirror xs (lo+m - (q+1)) (lo+m) ((lo+m - (lo+m - (q+1))) / 2)))
    have K2:=K1.trans (Yy (xs:=xs) (lo:=lo) (hi:=lo+nrem) (i:=lo+m - (q+1)) (j:=lo+m) (by omega) (by omega) (by omega))
    have n4:NI κ (mirror xs (lo+m - (q+1)) (lo+m) ((lo+m - (lo+m - (q+1))) / 2)) lo m:=fun i j hij hj=>by rw [ek];exact n3 i j hij hj
    generalize mirror xs (lo+m - (q+1)) (lo+m) ((lo+m - (lo+m - (q+1))) / 2)=ys at K2 n4
    have hs2:=K2.size
    rw [reverseSlice'_eq]
    refine wpS_bind (wpS_modify ?_)
    show wpS _ _ _ _ _ _ (setArr st (mirror ys lo (lo+m) ((lo+m - lo) / 2)))
    have K3:=K2.trans (Yy (xs:=ys) (lo:=lo) (hi:=lo+nrem) (i:=lo) (j:=lo+m) (Nat.le_refl _) (by omega) (by omega))
    have sg:SegK κ (mirror ys lo (lo+m) ((lo+m - lo) / 2)) lo m:=fun i j hij hj=>by
     rw [KK_mirror (by omega),KK_mirror (by omega),if_pos (by omega),if_pos (by omega),show lo+(lo+m) - 1 - (lo+i)=lo+(m - 1 - i) by omega,show lo+(lo+m) - 1 - (lo+j)=lo+(m - 1 - j) by omega]
     exact n4 _ _ (by omega) (by omega)
    generalize mirror ys lo (lo+m) ((lo+m - lo) / 2)=zs at K3 sg
    have hs3:=K3.size
    refine wpS_bind (UP hO (st:=setArr st zs) hk (ZW h0 K3.pm) (by omega) a4 (by show lo+nrem<=zs.size;omega) sg fun m2 b1 b2 b3 _=>?_)
    exact wpS_pure (h zs m2 K3 (by omega) b2 b3)
   ·have K2:=K1
    have n4:=n3
    have hs2:=hsz
    rw [reverseSlice'_eq]
    refine wpS_bind (wpS_modify ?_)
    show wpS _ _ _ _ _ _ (setArr st (mirror xs lo (lo+m) ((lo+m - lo) / 2)))
    have K3:=K2.trans (Yy (xs:=xs) (lo:=lo) (hi:=lo+nrem) (i:=lo) (j:=lo+m) (Nat.le_refl _) (by omega) (by omega))
    have sg:SegK κ (mirror xs lo (lo+m) ((lo+m - lo) / 2)) lo m:=fun i j hij hj=>by
     rw [KK_mirror (by omega),KK_mirror (by omega),if_pos (by omega),if_pos (by omega),show lo+(lo+m) - 1 - (lo+i)=lo+(m - 1 - i) by omega,show lo+(lo+m) - 1 - (lo+j)=lo+(m - 1 - j) by omega]
     exact n4 _ _ (by omega) (by omega)
    generalize mirror xs lo (lo+m) ((lo+m - lo) / 2)=zs at K3 sg
    have hs3:=K3.size
    refine wpS_bind (UP hO (st:=setArr st zs) hk (ZW h0 K3.pm) (by omega) a4 (by show lo+nrem<=zs.size;omega) sg fun m2 b1 b2 b3 _=>?_)
    exact wpS_pure (h zs m2 K3 (by omega) b2 b3)
end
section
variable {prog:Program}{w:World}{A:Around}{E:Value->Shared->Prop}{s:Shared}{κ:PyProof.Rows.KeyKind}
def Yd (κ:PyProof.Rows.KeyKind)(xs:Array Keyed):Nat->List (Nat×Nat×Nat)->Nat->Prop
 | a,[],e=>a=e
 | a,(st,len,_)::r,e=>st=a/\1<=len/\SegK κ xs a len/\Yd κ xs (a+len) r e
theorem Wq {xs:Array Keyed}:∀{l:List (Nat×Nat×Nat)}{a e:Nat},Yd κ xs a l e->a+l.length<=e
 | [],a,e,h=>Nat.le_of_eq h
 | (st,len,pw)::r,a,e,⟨_,h2,_,h4⟩=>by
  have:=Wq h4
  rw [length_cons];omega
theorem chain_app {xs:Array Keyed}:∀{l1 l2:List (Nat×Nat×Nat)}{a e:Nat},Yd κ xs a (l1++l2) e↔∃ m,Yd κ xs a l1 m/\Yd κ xs m l2 e
 | [],l2,a,e=>⟨fun h=>⟨a,rfl,h⟩,fun ⟨m,h1,h2⟩=>by cases (show a=m from h1);exact h2⟩
 | (st,len,pw)::r,l2,a,e=>by
  constructor
  ·rintro ⟨h1,h2,h3,h4⟩
   obtain ⟨m,g1,g2⟩:=chain_app.mp h4
   exact ⟨m,⟨h1,h2,h3,g1⟩,g2⟩
  ·rintro ⟨m,⟨h1,h2,h3,h4⟩,g2⟩
   exact ⟨h1,h2,h3,chain_app.mpr ⟨m,h4,g2⟩⟩
theorem ZbM {xs ys:Array Keyed}{p q lo n:Nat}(K:Kpt xs ys p q)(h:lo+n<=p\/q<=lo)(hs:SegK κ xs lo n):SegK κ ys lo n:=fun i j hij hj=>by
 rw [KK_congr (K.out (lo+i) (by omega)),KK_congr (K.out (lo+j) (by omega))]
 exact hs i j hij hj
theorem Wr {xs ys:Array Keyed}{p q:Nat}(K:Kpt xs ys p q):∀{l:List (Nat×Nat×Nat)}{a e:Nat},(e<=p\/q<=a)->Yd κ xs a l e->Yd κ ys a l e
 | [],a,e,_,h=>h
 | (st,len,pw)::r,a,e,hz,⟨h1,h2,h3,h4⟩=>by
  have:=Wq h4
  exact ⟨h1,h2,ZbM K (by omega) h3,Wr K (by omega) h4⟩
theorem ZlW {l:List (Nat×Nat×Nat)}{i:Nat}{u v:Nat×Nat×Nat}(e1:l[i]?=some u)(e2:l[i+1]?=some v):l=l.take i++(u::v::l.drop (i+2))/\∀ x,(l.set i x).eraseIdx (i+1)=l.take i++(x::l.drop (i+2)):=by
 obtain ⟨h1,h1'⟩:=List.getElem?_eq_some_iff.mp e1
 obtain ⟨h2,h2'⟩:=List.getElem?_eq_some_iff.mp e2
 have d1:l.drop i=u::v::l.drop (i+2):=by rw [List.drop_eq_getElem_cons h1,h1',List.drop_eq_getElem_cons h2,h2']
 refine ⟨by rw [<- d1,take_append_drop],fun x=>?_⟩
 rw [List.eraseIdx_eq_take_drop_succ,List.take_succ,List.take_set_of_le (Nat.le_refl _),getElem?_set_self h1,List.drop_set_of_lt (by omega)]
 simp
theorem Vh (hO:κ.OneLt){st:SortSt}{i e:Nat}{Q:Bool->SortSt->Prop}(hk:kindOf st=oneType')(hfl:failedOf st=none)(h0:KeysOf κ (arrOf st))(hi:i+1 < (pendingOf st).size)(hc:Yd κ (arrOf st) 0 (pendingOf st).toList e)(he:e<=(arrOf st).size)
 (h:∀ (xs:Array Keyed) (P:Array (Nat×Nat×Nat)) g,Kpt (arrOf st) xs 0 e->Yd κ xs 0 P.toList e->P.size+1=(pendingOf st).size->Q true (SortSt.mk' (kindOf st) xs P g none)):wpS (model prog w) A E s (mergeAt' i) Q st:=by
 obtain ⟨⟨sa,na,pw⟩,e1⟩:∃ u,(pendingOf st)[i]?=some u:=⟨_,getElem?_pos (pendingOf st) i (by omega)⟩
 obtain ⟨⟨sb,nb,pw2⟩,e2⟩:∃ u,(pendingOf st)[i+1]?=some u:=⟨_,getElem?_pos (pendingOf st) (i+1) hi⟩
 obtain ⟨hL,hE⟩:=ZlW (l:=(pendingOf st).toList) (by rw [Array.getElem?_toList];exact e1) (by rw [Array.getElem?_toList];exact e2)
 rw [hL] at hc
 obtain ⟨m,c1,r1,r2,r3,r4,r5,r6,c2⟩:=chain_app.mp hc
 have l1:=Wq c1
 have l2:=Wq c2
 subst r1
 refine Zel hO hk hfl h0 e1 e2 r4 r2 r5 (by rw [r4];omega) r3 (r4 ▸ r6) fun xs g K sg=>?_
 refine h xs _ g (K.wide (Nat.zero_le _) (by omega)) ?_ ?_
 ·rw [Array.toList_eraseIdxIfInBounds,Array.toList_setIfInBounds,hE]
  refine chain_app.mpr ⟨sa,Wr K (.inl (by omega)) c1,rfl,by omega,sg,?_⟩
  rw [<- Nat.add_assoc]
  exact Wr K (.inr (by omega)) c2
 ·have hl:=congrArg List.length hL
  rw [length_append,length_cons,length_cons,Array.length_toList] at hl
  rw [<- Array.length_toList,Array.toList_eraseIdxIfInBounds,Array.toList_setIfInBounds,hE,length_append,length_cons]
  omega
end
section
variable {prog:Program}{w:World}{A:Around}{E:Value->Shared->Prop}{s:Shared}{κ:PyProof.Rows.KeyKind}
theorem ZhK {xs:Array Keyed}{e:Nat}{a b c c':Nat}{l:List (Nat×Nat×Nat)}:∀{d:Nat},Yd κ xs d (l++[(a,b,c)]) e->Yd κ xs d (l++[(a,b,c')]) e:=fun h=>by
 obtain ⟨m,h1,h2,h3,h4,h5⟩:=chain_app.mp h
 exact chain_app.mpr ⟨m,h1,h2,h3,h4,h5⟩
theorem Zcc {xs:Array Keyed}{e pw:Nat}{P:Array (Nat×Nat×Nat)}(h:Yd κ xs 0 P.toList e):Yd κ xs 0 (P.modify (P.size - 1) fun (st,len,_)=>(st,len,pw)).toList e:=by
 rcases List.eq_nil_or_concat P.toList with z | ⟨l,⟨a,b,c⟩,z⟩
 ·have:(P.modify (P.size - 1) fun (st,len,_)=>(st,len,pw)).toList=[]:=by
   apply eq_nil_of_length_eq_zero
   rw [Array.length_toList,Array.size_modify,<- Array.length_toList,z];rfl
  rw [this];rw [z] at h;exact h
 ·rw [List.concat_eq_append] at z
  have hl:P.size=l.length+1:=by rw [<- Array.length_toList,z,length_append];rfl
  have:(P.modify (P.size - 1) fun (st,len,_)=>(st,len,pw)).toList=l++[(a,b,pw)]:=by
   rw [Array.toList_modify,z,hl,Nat.add_sub_cancel]
   apply List.ext_getElem?
   intro i
   rw [List.getElem?_modify]
   rcases Nat.lt_trichotomy i l.length with y | y | y
   ·have hne:¬ l.length=i:=by omega
    rw [getElem?_append_left y,getElem?_append_left y];simp [hne]
   ·subst y;simp
   ·rw [List.getElem?_eq_none (by rw [length_append];show l.length+1<=i;omega),List.getElem?_eq_none (by rw [length_append];show l.length+1<=i;omega)];rfl
  rw [this];rw [z] at h;exact ZhK h
theorem Zle {c:Prop}[Decidable c]{x y M:Nat}(h1:x+1 < M)(h2:y+1 < M):(if c then x else y)+1 < M:=by
 by_cases h:c
 ·rw [if_pos h];exact h1
 ·rw [if_neg h];exact h2
theorem Zjt (P:Array (Nat×Nat×Nat)):(if P.size > 1 then P[P.size - 2]? else none)=none\/∃ u,(if P.size > 1 then P[P.size - 2]? else none)=some u/\1 < P.size:=by
 by_cases z:P.size > 1
 ·rw [if_pos z];exact .inr ⟨_,getElem?_pos P (P.size - 2) (by omega),z⟩
 ·rw [if_neg z];exact .inl rfl
theorem ZcI (hO:κ.OneLt){st:SortSt}{Q:Unit->SortSt->Prop}(hk:kindOf st=oneType')(hfl:failedOf st=none)(hpd:pendingOf st=#[])(h0:KeysOf κ (arrOf st))(h2:2<=(arrOf st).size)
 (h:∀ (xs:Array Keyed) P g,xs.Perm (arrOf st)->SegK κ xs 0 (arrOf st).size->Q () (SortSt.mk' (kindOf st) xs P g none)):wpS (model prog w) A E s sortRuns' Q st:=by
 rw [sortRuns'_eq]
 refine wpS_bind (wpS_get ?_)
 dsimp only
 have eS:st=SortSt.mk' (kindOf st) (arrOf st) #[] (gallopOf st) none:=by rw [<- hpd,<- hfl]
 generalize hN:(arrOf st).size=N at *
 generalize minRun' N N 0=mr
 refine wpS_bind (wpS_mono (wpS_forRange
  (I:=fun x c st'=>∃ xs P lo g,c=(none,lo)/\st'=SortSt.mk' (kindOf st) xs P g none/\xs.Perm (arrOf st)/\Yd κ xs 0 P.toList lo/\lo<=N/\(x<=lo\/lo=N))
  (Q:=fun c st'=>∃ xs P g,c=(none,N)/\st'=SortSt.mk' (kindOf st) xs P g none/\xs.Perm (arrOf st)/\Yd κ xs 0 P.toList N) ?step ?fin
  ⟨arrOf st,#[],0,_,rfl,eS,.refl _,rfl,Nat.zero_le _,.inl (Nat.le_refl _)⟩) ?post)
 case fin =>
  rintro c st' ⟨xs,P,lo,g,rfl,rfl,hp,hc,hlo,hx⟩
  have:lo=N:=by omega
  subst this
  exact ⟨xs,P,g,rfl,rfl,hp,hc⟩
 case step =>
  rintro x c st' _ hx ⟨xs,P,lo,g,rfl,rfl,hp,hc,hlo,hxl⟩
  dsimp only
  have hsz:xs.size=N:=by rw [hp.size_eq,hN]
  refine Zg (fun q1=>?_) (fun q1=>?_)
  ·have:lo=N:=by omega
   subst this
   exact wpS_pure ⟨xs,P,g,rfl,rfl,hp,hc⟩
  refine wpS_bind (Zjh hO (st:=SortSt.mk' (kindOf st) xs P g none) hk (ZW h0 hp) (by omega) (by show lo+(N - lo)<=xs.size;omega) fun xs1 n K1 n1 n2 s1=>?_)
  dsimp only
  refine Zg (fun q2=>?_) (fun q2=>?_)
  ·refine wpS_bind (wpS_lift (wpAny_rule ⟨rfl,?_⟩))
   have hs1:xs1.size=xs.size:=K1.size
   refine wpS_bind (Zjg hO (st:=SortSt.mk' (kindOf st) xs1 P g none) hk (ZW h0 (K1.pm.trans hp)) (by show lo+min (N - lo) mr<=xs1.size;omega) (by omega) s1 fun xs2 K2' s2=>?_)
   rw [if_neg (by decide)]
   have K2:Kpt xs xs2 lo (lo+(N - lo)):=Kpt.trans K1 (K2'.wide (Nat.le_refl _) (by omega))
   have hp2:xs2.Perm (arrOf st):=K2.pm.trans hp
   have hc2:Yd κ xs2 0 P.toList lo:=Wr K2 (.inl (Nat.le_refl _)) hc
   have hsz2:xs2.size=N:=by rw [hp2.size_eq,hN]
   show wpS _ _ _ _ _ _ (SortSt.mk' (kindOf st) xs2 P g none)
   refine wpS_bind (wpS_get ?_)
   cases hb:P.back? with
   | none =>
    try dsimp only
    refine wpS_bind (wpS_modify (wpS_pure ⟨xs2,P.push (lo,min (N - lo) mr,0),lo+min (N - lo) mr,g,rfl,rfl,hp2,?_,by omega,by omega⟩))
    rw [Array.toList_push];exact chain_app.mpr ⟨lo,hc2,rfl,by omega,s2,rfl⟩
   | some u =>
    obtain ⟨a1,b1,c1⟩:=u
    try dsimp only
    refine wpS_bind (wpS_mono (wpS_forRange
     (I:=fun x c st'=>∃ ys P2 g2,c=(none,())/\st'=SortSt.mk' (kindOf st) ys P2 g2 none/\ys.Perm (arrOf st)/\Yd κ ys 0 P2.toList lo/\SegK κ ys lo (min (N - lo) mr))
     (Q:=fun c st'=>∃ ys P2 g2,c=(none,())/\st'=SortSt.mk' (kindOf st) ys P2 g2 none/\ys.Perm (arrOf st)/\Yd κ ys 0 P2.toList lo/\SegK κ ys lo (min (N - lo) mr)) ?st2 (fun _ _ hh=>hh) ⟨xs2,P,g,rfl,rfl,hp2,hc2,s2⟩) ?ps2)
    case st2 =>
     rintro y c st' _ hy ⟨ys,P2,g2,rfl,rfl,hp3,hc3,s3⟩
     try dsimp only
     have hsz3:ys.size=N:=by rw [hp3.size_eq,hN]
     refine wpS_bind (wpS_get ?_)
     rcases Zjt P2 with e | ⟨u,e,z⟩
     ·rw [show (if (pendingOf (SortSt.mk' (kindOf st) ys P2 g2 none)).size > 1 then (pendingOf (SortSt.mk' (kindOf st) ys P2 g2 none))[(pendingOf (SortSt.mk' (kindOf st) ys P2 g2 none)).size - 2]? else none)=none from e]
      exact wpS_pure ⟨ys,P2,g2,rfl,rfl,hp3,hc3,s3⟩
     ·rw [show (if (pendingOf (SortSt.mk' (kindOf st) ys P2 g2 none)).size > 1 then (pendingOf (SortSt.mk' (kindOf st) ys P2 g2 none))[(pendingOf (SortSt.mk' (kindOf st) ys P2 g2 none)).size - 2]? else none)=some u from e]
      try dsimp only
      refine Zg (fun r=>wpS_pure ⟨ys,P2,g2,rfl,rfl,hp3,hc3,s3⟩) (fun r=>?_)
      refine wpS_bind (Vh hO (st:=SortSt.mk' (kindOf st) ys P2 g2 none) hk rfl (ZW h0 hp3) (by show P2.size - 2+1 < P2.size;omega) hc3 (by show lo<=ys.size;omega) fun zs P3 g3 K3 c3 _=>?_)
      rw [if_neg (by decide)]
      exact wpS_pure ⟨zs,P3,g3,rfl,rfl,K3.pm.trans hp3,c3,ZbM K3 (.inr (Nat.le_refl _)) s3⟩
    case ps2 =>
     rintro c st' ⟨ys,P2,g2,rfl,rfl,hp3,hc3,s3⟩
     try dsimp only
     refine wpS_bind (wpS_modify (wpS_bind (wpS_modify (wpS_pure ⟨ys,_,lo+min (N - lo) mr,g2,rfl,rfl,hp3,?_,by omega,by omega⟩))))
     rw [Array.toList_push];exact chain_app.mpr ⟨lo,Zcc hc3,rfl,by omega,s3,rfl⟩
  ·obtain ⟨xs2,e9⟩:∃ xs2,xs2=xs1:=⟨_,rfl⟩
   rw [<- e9] at K1 s1 ⊢
   have K2:Kpt xs xs2 lo (lo+(N - lo)):=K1
   have s2:=s1
   have hp2:xs2.Perm (arrOf st):=K2.pm.trans hp
   have hc2:Yd κ xs2 0 P.toList lo:=Wr K2 (.inl (Nat.le_refl _)) hc
   have hsz2:xs2.size=N:=by rw [hp2.size_eq,hN]
   show wpS _ _ _ _ _ _ (SortSt.mk' (kindOf st) xs2 P g none)
   refine wpS_bind (wpS_get ?_)
   cases hb:P.back? with
   | none =>
    try dsimp only
    refine wpS_bind (wpS_modify (wpS_pure ⟨xs2,P.push (lo,n,0),lo+n,g,rfl,rfl,hp2,?_,by omega,by omega⟩))
    rw [Array.toList_push];exact chain_app.mpr ⟨lo,hc2,rfl,by omega,s2,rfl⟩
   | some u =>
    obtain ⟨a1,b1,c1⟩:=u
    try dsimp only
    refine wpS_bind (wpS_mono (wpS_forRange
     (I:=fun x c st'=>∃ ys P2 g2,c=(none,())/\st'=SortSt.mk' (kindOf st) ys P2 g2 none/\ys.Perm (arrOf st)/\Yd κ ys 0 P2.toList lo/\SegK κ ys lo (n))
     (Q:=fun c st'=>∃ ys P2 g2,c=(none,())/\st'=SortSt.mk' (kindOf st) ys P2 g2 none/\ys.Perm (arrOf st)/\Yd κ ys 0 P2.toList lo/\SegK κ ys lo (n)) ?st2 (fun _ _ hh=>hh) ⟨xs2,P,g,rfl,rfl,hp2,hc2,s2⟩) ?ps2)
    case st2 =>
     rintro y c st' _ hy ⟨ys,P2,g2,rfl,rfl,hp3,hc3,s3⟩
     try dsimp only
     have hsz3:ys.size=N:=by rw [hp3.size_eq,hN]
     refine wpS_bind (wpS_get ?_)
     rcases Zjt P2 with e | ⟨u,e,z⟩
     ·rw [show (if (pendingOf (SortSt.mk' (kindOf st) ys P2 g2 none)).size > 1 then (pendingOf (SortSt.mk' (kindOf st) ys P2 g2 none))[(pendingOf (SortSt.mk' (kindOf st) ys P2 g2 none)).size - 2]? else none)=none from e]
      exact wpS_pure ⟨ys,P2,g2,rfl,rfl,hp3,hc3,s3⟩
     ·rw [show (if (pendingOf (SortSt.mk' (kindOf st) ys P2 g2 none)).size > 1 then (pendingOf (SortSt.mk' (kindOf st) ys P2 g2 none))[(pendingOf (SortSt.mk' (kindOf st) ys P2 g2 none)).size - 2]? else none)=some u from e]
      try dsimp only
      refine Zg (fun r=>wpS_pure ⟨ys,P2,g2,rfl,rfl,hp3,hc3,s3⟩) (fun r=>?_)
      refine wpS_bind (Vh hO (st:=SortSt.mk' (kindOf st) ys P2 g2 none) hk rfl (ZW h0 hp3) (by show P2.size - 2+1 < P2.size;omega) hc3 (by show lo<=ys.size;omega) fun zs P3 g3 K3 c3 _=>?_)
      rw [if_neg (by decide)]
      exact wpS_pure ⟨zs,P3,g3,rfl,rfl,K3.pm.trans hp3,c3,ZbM K3 (.inr (Nat.le_refl _)) s3⟩
    case ps2 =>
     rintro c st' ⟨ys,P2,g2,rfl,rfl,hp3,hc3,s3⟩
     try dsimp only
     refine wpS_bind (wpS_modify (wpS_bind (wpS_modify (wpS_pure ⟨ys,_,lo+n,g2,rfl,rfl,hp3,?_,by omega,by omega⟩))))
     rw [Array.toList_push];exact chain_app.mpr ⟨lo,Zcc hc3,rfl,by omega,s3,rfl⟩
 case post =>
  rintro c st' ⟨xs,P,g,rfl,rfl,hp,hc⟩
  try dsimp only
  have hl:=Wq hc
  rw [Nat.zero_add,Array.length_toList] at hl
  refine wpS_bind (wpS_mono (wpS_forRange
   (I:=fun x c st'=>∃ ys P2 g2,c=(none,())/\st'=SortSt.mk' (kindOf st) ys P2 g2 none/\ys.Perm (arrOf st)/\Yd κ ys 0 P2.toList N/\(P2.size<=1\/P2.size+x<=N))
   (Q:=fun c st'=>∃ ys P2 g2,c=(none,())/\st'=SortSt.mk' (kindOf st) ys P2 g2 none/\ys.Perm (arrOf st)/\Yd κ ys 0 P2.toList N/\P2.size<=1) ?st3 ?fn3 ⟨xs,P,g,rfl,rfl,hp,hc,.inr (by omega)⟩) ?ps3)
  case fn3 =>
   rintro c st' ⟨ys,P2,g2,rfl,rfl,hp3,hc3,hz⟩
   exact ⟨ys,P2,g2,rfl,rfl,hp3,hc3,by omega⟩
  case st3 =>
   rintro y c st' _ hy ⟨ys,P2,g2,rfl,rfl,hp3,hc3,hz⟩
   try dsimp only
   have hsz3:ys.size=N:=by rw [hp3.size_eq,hN]
   refine wpS_bind (wpS_get ?_)
   refine Zg (fun r=>wpS_pure ⟨ys,P2,g2,rfl,rfl,hp3,hc3,r⟩) (fun r=>?_)
   have r':¬ P2.size<=1:=r
   refine wpS_bind (Vh hO (st:=SortSt.mk' (kindOf st) ys P2 g2 none) hk rfl (ZW h0 hp3) (Zle (by show P2.size - 2 - 1+1 < P2.size;omega) (by show P2.size - 2+1 < P2.size;omega)) hc3 (by show N<=ys.size;omega) fun zs P3 g3 K3 c3 hs3=>?_)
   have hs3:P3.size+1=P2.size:=hs3
   rw [if_neg (by decide)]
   exact wpS_pure ⟨zs,P3,g3,rfl,rfl,K3.pm.trans hp3,c3,by omega⟩
  case ps3 =>
   rintro c st' ⟨ys,P2,g2,rfl,rfl,hp3,hc3,hz⟩
   refine wpS_pure (h ys P2 g2 hp3 ?_)
   match hP:P2.toList,hc3 with
   | [],hc3=>have:0=N:=hc3;omega
   | [(a,b,c)],⟨_,_,h3,h4⟩ =>
    have:0+b=N:=h4
    rw [show N=b by omega];exact h3
   | _::_::_,_ =>
    have:=congrArg List.length hP
    rw [Array.length_toList] at this
    simp at this
    omega
end
section
variable {prog:Program}{w:World}{A:Around}{E:Value->Shared->Prop}{s:Shared}{κ:PyProof.Rows.KeyKind}
theorem ZiV (hO:κ.OneLt){a:Addr}{vs:List Value}{n:Nat}{P:Fin->Shared->Prop}(ho:s.heap.get? a=some (seqObj "list" vs.toArray n))
 (h0:KeysOf κ (pairsOf vs)) (hkk:∀ v₁ v₂ rest,vs=v₁::v₂::rest->keyKind' (v₁::v₂::rest).toArray=pure oneType') (hz:vs.length<=100000)
 (h:∀ st':SortSt,(arrOf st').Perm (pairsOf vs)->SortedToK κ (arrOf st') (pairsOf vs).size->P (.done (.ret .none)) { s with heap:=sortedHeap s.heap a vs ((arrOf st').map (·.2)) }) :
 wpAny (model prog w) A (Builtin.«list.sort» ⟨[.ref a],[]⟩) P E s:=by
 by_cases h64:vs.length < 64
 ·exact list_sort_treeK hO ho h0 hkk h64 h
 obtain ⟨v₁,v₂,rest,hv⟩:∃ v₁ v₂ rest,vs=v₁::v₂::rest:=by
  match vs,h64 with
  | [],z=>exact absurd (by simp) z
  | [_],z=>exact absurd (by simp) z
  | x::y::r,_=>exact ⟨x,y,r,rfl⟩
 rw [list_sort_plain]
 have lt:=Heap.lt_size ho
 refine wpAny_bind (listItems_at ho rfl (wpAny_bind (listUpdate_at ho rfl ?_)))
 obtain ⟨ep,hE⟩:∃ ep,(s.heap.update a (Obj.mapSeq fun _=>#[])).get? a=some (seqObj "list" #[] ep):=⟨_,get?_update_seq ho (fun _=>#[])⟩
 refine wpAny_bind (seqEpoch_at hE rfl (wpAny_bind (wpAny_newTuple (wpAny_bind (wpAny_newList (wpAny_holding ?_))))))
 have hE2:(((s.heap.update a (Obj.mapSeq fun _=>#[])).push (seqObj "tuple" vs.toArray 0)).push (seqObj "list" #[] 0)).get? a=some (seqObj "list" #[] ep):=by
  rw [Heap.get?_push_ne _ _ _ (by rw [size_push',Heap.size_update];exact Nat.ne_of_lt (Nat.lt_succ_of_lt lt)),Heap.get?_push_ne _ _ _ (by rw [Heap.size_update];exact Nat.ne_of_lt lt)]
  exact hE
 show wpAny (model prog w) A _ P E { s with heap:=((s.heap.update a (Obj.mapSeq fun _=>#[])).push (seqObj "tuple" vs.toArray 0)).push (seqObj "list" #[] 0) }
 dsimp only
 have h2:¬ vs.toArray.size < 2:=by rw [size_toArray];omega
 rw [if_neg h2,if_neg h2]
 subst hv
 rw [hkk _ _ _ rfl]
 refine wpAny_bind (wpAny_pure (wpAny_bind (wpAny_mono (ZcI (κ:=κ) hO (st:=SortSt.mk' oneType' ((v₁::v₂::rest).toArray.zip (v₁::v₂::rest).toArray) #[] 7 none)
  (Q:=fun _ st'=>(arrOf st').Perm (pairsOf (v₁::v₂::rest))/\failedOf st'=none/\SortedToK κ (arrOf st') (pairsOf (v₁::v₂::rest)).size)
  rfl rfl rfl h0 (by show 2<=(pairsOf (v₁::v₂::rest)).size;rw [pairsOf_size];simp) fun xs P2 g pm sg=>⟨pm,rfl,fun i j hij hj=>?_⟩) ?_ fun _ _ e=>e)))
 ·have:=sg i j hij hj
  rw [Nat.zero_add,Nat.zero_add] at this;exact this
 rintro ⟨⟨⟩,st'⟩ s' ⟨rfl,hp,hf,hs⟩
 dsimp only
 refine wpAny_bind (seqEpoch_at hE2 rfl (wpAny_bind (listUpdate_at hE2 rfl ?_ (hsz2:=?_))))
 ·rw [hf]
  simp only [bne_self_eq_false,Bool.false_eq_true,if_false]
  exact wpAny_pure (h st' hp hs)
 ·refine Nat.le_trans (Nat.le_of_eq ((Array.size_map ..).trans (hp.size_eq.trans (pairsOf_size _)))) ?_
  rw [sizeLine_eq];omega
end
@[reducible] def intKK:PyProof.Rows.KeyKind where
 α:=Int
 blt a b:=decide (a < b)
 irrefl a:=by simp
 trans a b c h1 h2:=by simp only [decide_eq_true_eq] at *;omega
 negTrans a b c h:=by simp only [decide_eq_true_eq] at *;omega
 total a b h1 h2:=by simp only [decide_eq_false_iff_not] at *;omega
 keyOf v:=match v with | .int x _=>some x | _=>none
 dflt:=0
theorem Zef:intKK.OneLt:=by
 intro prog w A E s x y a b Q ha hb h
 cases x<;>simp only [intKK,reduceCtorEq,Option.some.injEq] at ha
 cases y<;>simp only [intKK,reduceCtorEq,Option.some.injEq] at hb
 cases ha;cases hb
 exact oneLt_int h
def UY:Value->Int | .int i _=>i | _=>0
theorem WP:∀{vs:List Value}{ns:List Int},IntsAre vs ns->∀ v∈vs,∃ i t,v=.int i t
 | _,_,.cons n t h,v,hv=>by
  rcases mem_cons.mp hv with rfl | hv
  ·exact ⟨n,t,rfl⟩
  ·exact WP h v hv
theorem Zgw:∀{vs:List Value}{ns:List Int},IntsAre vs ns->vs.map UY=ns
 | _,_,.nil=>rfl
 | _,_,.cons n t h=>congrArg (n::·) (Zgw h)
theorem Zdn:∀(vs:List Value),(∀ v∈vs,∃ i t,v=.int i t)->IntsAre vs (vs.map UY)
 | [],_=>.nil
 | v::vs,h=>by
  obtain ⟨i,t,rfl⟩:=h v mem_cons_self
  exact .cons i t (Zdn vs fun u hu=>h u (mem_cons_of_mem _ hu))
theorem Zgb {xs:Array Keyed}{i:Nat}(hi:i < xs.size){x:Int}{t:Tok}{q:Value}(hx:xs[i]=(.int x t,q)):KK intKK xs i=x:=by
 unfold KK;rw [getElem?_pos xs i hi,hx];rfl
section
variable {prog:Program}{w:World}{A:Around}{E:Value->Shared->Prop}{s:Shared}
theorem Uj {a:Addr}{vs:List Value}{ns:List Int}{n:Nat}{P:Fin->Shared->Prop}(ho:s.heap.get? a=some (seqObj "list" vs.toArray n))
 (hI:IntsAre vs ns) (hz:vs.length<=100000)
 (h:∀ (out:Array Value) (ns':List Int),IntsAre out.toList ns'->ns'.Perm ns->ns'.Pairwise (·<=·)->P (.done (.ret .none)) { s with heap:=sortedHeap s.heap a vs out }) :
 wpAny (model prog w) A (Builtin.«list.sort» ⟨[.ref a],[]⟩) P E s:=by
 refine ZiV Zef ho (fun p hp=>?_) (fun v₁ v₂ rest e=>keyKind_ints (by rw [<- e];exact hI)) hz fun st' hp hs=>?_
 ·rw [pairsOf_toList] at hp
  obtain ⟨x,t,e⟩:=WP hI _ (mem_zip_self hp).2
  exact ⟨x,by rw [e]⟩
 have hl:(arrOf st').toList.Perm (vs.zip vs):=by rw [<- pairsOf_toList];exact Array.perm_iff_toList_perm.mp hp
 have hmem:∀ p,p∈(arrOf st').toList->p.1=p.2/\p.1∈vs:=fun p hp'=>mem_zip_self (hl.mem_iff.mp hp')
 refine h _ ((arrOf st').toList.map fun p=>UY p.1) ?_ ?_ ?_
 ·have e:((arrOf st').map (·.2)).toList=(arrOf st').toList.map (·.1):=by
   rw [Array.toList_map];exact List.map_congr_left fun p hp'=>(hmem p hp').1.symm
  rw [e]
  have h1:=Zdn ((arrOf st').toList.map (·.1)) (by
   intro v hv
   obtain ⟨p,hp',rfl⟩:=mem_map.mp hv
   exact WP hI _ (hmem p hp').2)
  rwa [map_map] at h1
 ·have h1:=hl.map (fun p=>UY p.1)
  have e2:(vs.zip vs).map (fun p=>UY p.1)=ns:=by
   have:(vs.zip vs).map (fun p=>UY p.1)=((vs.zip vs).map Prod.fst).map UY:=by rw [map_map];rfl
   rw [this,List.map_fst_zip (Nat.le_refl _),Zgw hI]
  rwa [e2] at h1
 ·rw [pairwise_map,pairwise_iff_getElem]
  intro i j hi hj hij
  have hi':i < (arrOf st').size:=by simpa using hi
  have hj':j < (arrOf st').size:=by simpa using hj
  have h1:=hs i j (Nat.le_of_lt hij) (by rw [<- hp.size_eq];exact hj')
  obtain ⟨x,t,ex⟩:=WP hI _ (hmem (arrOf st')[i] (by simp)).2
  obtain ⟨y,u,ey⟩:=WP hI _ (hmem (arrOf st')[j] (by simp)).2
  rw [Zgb hi' (x:=x) (t:=t) (q:=(arrOf st')[i].2) (Prod.ext ex rfl),Zgb hj' (x:=y) (t:=u) (q:=(arrOf st')[j].2) (Prod.ext ey rfl)] at h1
  change decide (y < x)=false at h1
  simp only [Array.getElem_toList]
  rw [show UY (arrOf st')[i].1=x by rw [ex];rfl,show UY (arrOf st')[j].1=y by rw [ey];rfl]
  have:=of_decide_eq_false h1
  omega
end
end L2
namespace L2
open PySem PySem.W PySem.Spec PyProof.Rows
section
variable {X:Cx}
theorem VQ (hc:X.calm=true):Ya X (.builtin "sorted") (fun xs H Q=>∃ (p:Addr) (ns:List Int),xs=[.ref p]/\H p=some (.ext (XI X.prog X.w p (ns.map Sum.inl)))/\ns.length<=4000 /\
 ∀ (l:Addr) (ns':List Int),H l=none->ns'.Perm ns->ns'.Pairwise (·<=·)->Q (.ref l) (upd H l (.lst (ns'.map V.int)))):=by
 intro pins s σ H xs us Q I r h
 obtain ⟨p,ns,rfl,ep,h64,q⟩:=h
 obtain ⟨u,rfl,ru⟩:=Yk r
 cases ru
 obtain ⟨G,_,_⟩:=(show ObjOk X.prog X.w H s.heap p (.ext (XI X.prog X.w p (ns.map Sum.inl))) from I.hok p _ ep)
 refine PySem.Calls.call_function_entry kind_sorted plain_sorted entry_sorted (args_sorted1 _) ?_
 unfold Builtin.«sorted»
 refine wpAny_bind (m:=checkCount "sorted" 1 1 _) (wpAny_pure ?_)
 refine wpAny_bind (Zed (A:=X.A.in1) (I.ok.hd hc) G fun h' d tk acc hgt hk hp hv=>?_)
 obtain ⟨l,hI,he⟩:=Zcg hv (fun v hv'=>hp.mem_iff.mp (mem_map.mpr ⟨v,hv',rfl⟩))
 rw [he] at hp
 have hln:=ZgG hp
 have hlen:acc.toList.length<=4000:=by rw [hI.length,hln.length_eq];exact h64
 refine wpAny_bind (wpAny_newList ?_ (by rw [sizeLine_eq];omega))
 have hoL:(h'.push { cls:=.type "list",data:=.seq acc.toList.toArray }).get? h'.objs.size=some (seqObj "list" acc.toList.toArray 0):=Heap.get?_push_size _ rfl
 have keepg:∀ b o,h'.get? b=some o->(h'.push { cls:=.type "list",data:=.seq acc.toList.toArray }).get? b=some o:=fun b o e=>Heap.get?_push_of_some _ e
 have hsz:h'.objs.size < (h'.push { cls:=.type "list",data:=.seq acc.toList.toArray }).objs.size:=Heap.lt_size hoL
 show wpAny _ _ _ _ _ { s with heap:=h'.push { cls:=.type "list",data:=.seq acc.toList.toArray },drawn:=d,toks:=tk }
 generalize h'.push { cls:=.type "list",data:=.seq acc.toList.toArray }=g at hoL keepg hsz ⊢
 refine wpAny_bind (wpAny_holding (wpAny_call_entry slot_list_sort ⟨_,hoL,rfl⟩ entry_list_sort (Uj (s:={ s with heap:=g,drawn:=d,toks:=tk }) hoL hI (by omega) fun out ns' a1 a2 a3=>⟨_,rfl,wpAny_pure ⟨_,rfl,?_⟩⟩) (args_list_sort _)))
 obtain ⟨e,hat⟩:=sortedHeap_at (out:=out) hoL
 have hge:=Nat.le_of_lt hgt
 refine ⟨.ref h'.objs.size,_,(I.draw d).laid (t':=tk) (h':=sortedHeap g h'.objs.size acc.toList out) (o:=.lst (ns'.map V.int)) (fun b o hb=>?_) hge ⟨?_,out.toList,e,Ul a1,by rw [Array.toArray_toList];exact hat⟩,rfl,q _ ns' (I.hok.fresh hge) (a2.trans hln) a3⟩
 ·have lb:=Heap.lt_size hb
  have ne:b≠h'.objs.size:=Nat.ne_of_lt (Nat.lt_of_lt_of_le lb hge)
  rw [sortedHeap_old ne (Nat.lt_trans (Nat.lt_of_lt_of_le lb hge) hsz)]
  exact keepg b o (hk b o hb)
 ·rw [length_map,a2.length_eq,hln.length_eq,sizeLine_eq];omega
theorem VP (hc:X.calm=true):Ya X (.builtin "sorted") (fun xs H Q=>∃ (d:Addr) (ps:List (Zk×V)) (ns:List Int),xs=[.ref d]/\H d=some (.dK ps)/\ps.map (·.1)=ns.map Sum.inl/\ps.length<=4000 /\
 ∀ (l:Addr) (ys:List Int),H l=none->ys.Perm ns->ys.Pairwise (·<=·)->Q (.ref l) (upd H l (.lst (ys.map V.int)))):=by
 intro pins s σ H xs us Q I r h
 obtain ⟨d,ps,ns,rfl,ed,hns,h64,q⟩:=h
 obtain ⟨u,rfl,ru⟩:=Yk r
 cases ru
 obtain ⟨hz,lo,vs,kv,o,es,ep,ho,r1,r2,r3,r4,r5⟩:=Wz I.hok ed
 have hlen:vs.length=ps.length:=by have:=(Paired.length kv).symm;exact this
 have hd:d < s.heap.objs.size:=Heap.lt_size ho
 refine PySem.Calls.call_function_entry kind_sorted plain_sorted entry_sorted (args_sorted1 _) ?_
 unfold Builtin.«sorted»
 refine wpAny_bind (m:=checkCount "sorted" 1 1 _) (wpAny_pure ?_)
 refine wpAny_bind (Zdj (A:=X.A.in1) (kdl_dict (knd:=Zr X.prog X.w) (kvs:=vs) (ep:=ep) lo) (I.ok.hd hc) ⟨o,es,ho,r1,r2,r3,r4,r5⟩ (by rw [hlen];exact hz) hd hd ⟨o,es,Heap.get?_push_of_some _ ho,r1,r2,r3,r4,r5⟩ fun h' tk acc hgt hk hacc=>?_)
 have hge:=Nat.le_of_lt hgt
 have rv:Vals (ps.map fun p=>kV p.1) acc.toList:=Vw (P:=X.prog) (w:=X.w) kv acc.toList (by rw [Array.length_toList];exact hacc.1) fun j v hj=>hacc.2 j v (by rw [<- Array.getElem?_toList];exact hj)
 have rv':Vals (ns.map V.int) acc.toList:=by
  have e:(ps.map fun p=>kV p.1)=ns.map V.int:=by
   have:(ps.map (·.1)).map kV=(ns.map Sum.inl).map kV:=by rw [hns]
   rw [map_map,map_map] at this;exact this
  rwa [e] at rv
 have hI:=Zfu rv'
 have hnl:ns.length=ps.length:=by have:=congrArg List.length hns;rw [length_map,length_map] at this;exact this.symm
 have hlen9:acc.toList.length<=4000:=by rw [hI.length,hnl];exact h64
 refine wpAny_bind (wpAny_newList ?_ (by rw [sizeLine_eq];omega))
 have hoL:(h'.push { cls:=.type "list",data:=.seq acc.toList.toArray }).get? h'.objs.size=some (seqObj "list" acc.toList.toArray 0):=Heap.get?_push_size _ rfl
 have keepg:∀ b o,h'.get? b=some o->(h'.push { cls:=.type "list",data:=.seq acc.toList.toArray }).get? b=some o:=fun b o e=>Heap.get?_push_of_some _ e
 have hsz:h'.objs.size < (h'.push { cls:=.type "list",data:=.seq acc.toList.toArray }).objs.size:=Heap.lt_size hoL
 show wpAny _ _ _ _ _ { s with heap:=h'.push { cls:=.type "list",data:=.seq acc.toList.toArray },toks:=tk }
 generalize h'.push { cls:=.type "list",data:=.seq acc.toList.toArray }=g at hoL keepg hsz ⊢
 refine wpAny_bind (wpAny_holding (wpAny_call_entry slot_list_sort ⟨_,hoL,rfl⟩ entry_list_sort (Uj (s:={ s with heap:=g,toks:=tk }) hoL hI (by omega) fun out ns' a1 a2 a3=>⟨_,rfl,wpAny_pure ⟨_,rfl,?_⟩⟩) (args_list_sort _)))
 obtain ⟨e,hat⟩:=sortedHeap_at (out:=out) hoL
 refine ⟨.ref h'.objs.size,_,I.laid (t':=tk) (h':=sortedHeap g h'.objs.size acc.toList out) (o:=.lst (ns'.map V.int)) (fun b o hb=>?_) hge ⟨?_,out.toList,e,Ul a1,by rw [Array.toArray_toList];exact hat⟩,rfl,q _ ns' (I.hok.fresh hge) a2 a3⟩
 ·have lb:=Heap.lt_size hb
  have ne:b≠h'.objs.size:=Nat.ne_of_lt (Nat.lt_of_lt_of_le lb hge)
  rw [sortedHeap_old ne (Nat.lt_trans (Nat.lt_of_lt_of_le lb hge) hsz)]
  exact keepg b o (hk b o hb)
 ·rw [length_map,a2.length_eq,hnl,sizeLine_eq];omega
end
theorem SetG.of {P:Program}{w:World}{h:Heap}{a:Addr}{ks:List Zk}(G:SetG P w h a ks):h.SetOf (Zr P w) a (fun k=>ks.any fun j=>decide (j=k)) ks.length:=by
 obtain ⟨o,xs,ep,t,ho,hx,hd,h1,h2,h3,h4,h5,h6⟩:=G
 refine ⟨o,xs,ep,t,ho,hx,hd,h1,fun k=>?_,h4,h5,?_⟩
 ·rw [any_mem,<- h2.mem_iff];exact Zcm h1
 ·rw [<- h2.length_eq];unfold WE;rw [length_map,Array.length_toList]
section
variable {prog:Program}{w:World}{A:Around}{E:Value->Shared->Prop}{s:Shared}
theorem ZiT {Q:Value->Shared->Prop}(h:Q (.ref s.heap.objs.size) { s with heap:=s.heap.push { cls:=.type "set",dict:=none,data:=.set #[] 0 (.fresh 0 0 (!YS w)) } }) :
 codeAny (model prog w) A (.call (.builtin "set.__new__") ⟨[.type "set"],[]⟩) (wants Q E) s:=by
 refine codeAny_of_tree (wpAny_bind (m:=checkBuiltinCall "set.__new__" ⟨[.type "set"],[]⟩) (wpAny_of_eq PySem.F.newCall_set_0 (wpAny_pure ⟨plainId_quiet F.plain_set_new _,codeAny_builtin F.entry_set_new ?_⟩)))
 rw [Around.under_plainId F.plain_set_new _]
 have hz:=sub_set_self
 obtain ⟨hp,g,d,tk,os⟩:=s
 unfold Builtin.«set.__new__» Builtin.Frozenset.newClass
 dsimp only
 wp_walk
 refine wpAny_askSetting (wpAny_pure ?_)
 dsimp only
 simp only [newObj]
 exact wpAny_bind (wpAny_alloc (wpAny_pure (wpAny_pure h)))
theorem Zfo {Q:Value->Shared->Prop}(q:Q (.ref s.heap.objs.size) { s with heap:=s.heap.push { cls:=.type "set",dict:=none,data:=.set #[] 0 (.fresh 0 0 (!YS w)) } }) :
 wpAny (model prog w) A (call (.type "set") []) Q E s:=by
 obtain ⟨c,tl,hmro⟩:=PySem.F.called_set.mro
 have hmade:=PySem.F.called_set.made
 have hsub:=PySem.F.called_set.sub
 have h1:=PySem.F.called_set.notType
 have h2:=PySem.F.called_set.canCreate
 have hct:=PySem.F.typeCall_set_0
 refine wpAny_call (codeAny_of_tree ?_)
 refine wpAny_pure ⟨Code.quiet_builtin _ (by decide +kernel),codeAny_builtin PySem.F.entry_type_call ?_⟩
 rw [Around.under_plain (weight_type_call_type "set" [] []) rfl]
 (repeat (any_goals (first | assumption | wp_step)))
 refine codeAny_mono (ZiT (E:=E) (Q:=fun v s₁=>v=.ref s.heap.objs.size/\s₁={ s with heap:=s.heap.push { cls:=.type "set",dict:=none,data:=.set #[] 0 (.fresh 0 0 (!YS w)) } }) ⟨rfl,rfl⟩) fun r s₁ hr=>?_
 cases r with
 | error e=>exact hr
 | ok fl =>
  cases fl with
  | ret v =>
   obtain ⟨rfl,rfl⟩:=hr
   have hS:(s.heap.push { cls:=.type "set",dict:=none,data:=.set #[] 0 (.fresh 0 0 (!YS w)) }).get? s.heap.objs.size=some { cls:=.type "set",dict:=none,data:=.set #[] 0 (.fresh 0 0 (!YS w)) }:=Heap.get?_push_size _ rfl
   have hT:Shared.TypeIs { s with heap:=s.heap.push { cls:=.type "set",dict:=none,data:=.set #[] 0 (.fresh 0 0 (!YS w)) } } (.ref s.heap.objs.size) "set":=⟨_,hS,rfl⟩
   have hli:=PySem.F.called_set.init.lookup
   have hbi:=PySem.F.called_set.init.bind (.ref s.heap.objs.size)
   (repeat (any_goals (first | assumption | wp_step)))
   refine codeAny_mono (codeAny_call_builtin (R:=wants (fun r s₂=>r=.none/\Q (.ref s.heap.objs.size) s₂) E) PySem.F.called_set.init.plain PySem.F.entry_set_init (check_set_init hT ?_)) fun r₂ s₂ hr₂=>?_
   ·unfold Builtin.«set.__init__» noKeywords
    wp_walk
    exact ⟨rfl,q⟩
   ·cases r₂ with
    | error e=>exact hr₂
    | ok fl₂ =>
     cases fl₂ with
     | ret r =>
      obtain ⟨rfl,hq⟩:=hr₂
      (repeat (any_goals (first | assumption | wp_step)))
     | _=>exact hr₂.elim
  | _=>exact hr.elim
theorem ZcH {a:Addr}{ks:List Zk}{k:Zk}{x:Value}{Q:Value->Shared->Prop}(hk:YG k x=true)(hS:SetG prog w s.heap a ks)(hr:ks.length+1 < scanBound)
 (q:∀ h',Heap.SameBut a s.heap h'->SetG prog w h' a (WO ks k)->Q .none { s with heap:=h',toks:=s.toks+1 }):wpAny (model prog w) A (call (.builtin "set.add") [.ref a,x]) Q E s:=by
 refine wpAny_call_entry F.slot_set_add hS.of.typeIs F.entry_set_add ?_ (F.args_set_add_2 _ _)
 unfold Builtin.«set.add» Builtin.Frozenset.oneOther
 simp only [List.isEmpty_nil,bind_assoc]
 unfold Builtin.Frozenset.addrOf setAdd
 refine wpAny_bind (wpAny_pure ?_)
 try dsimp only
 refine wpAny_bind (wpAny_pure ?_)
 try dsimp only
 refine wpAny_bind ?_
 refine wpAny_holding ?_
 refine wpAny_bind ((Zr prog w).pyHash (k:=k) hk ?_)
 refine Zkv (s:={ s with toks:=s.toks+1 }) hk hS hr fun b h' hsb G=>?_
 show wpAny _ _ (ret Value.none) _ _ _
 exact wpAny_pure ⟨_,rfl,q h' hsb G⟩
end
theorem ZaW (l:Addr)(items:Array Value)(n:Nat)(b:Addr)(items2:Array Value)(n2:Nat)(od:Option Addr)(sl:_)(hs0:¬(!items.isEmpty&&Builtin.List.listTooLong (items.size+items2.size))=true)(hs1:items.size<=sizeLine)(hs2:items.size+items2.size<=sizeLine+1) :
 Meets (Builtin.«list.extend» ⟨[.ref l,.ref b],[]⟩) (fun _ R s=>s.heap.get? l=some { cls:=.type "list",dict:=none,data:=.seq items n,slots:=#[] }/\s.heap.get? b=some { cls:=.type "tuple",dict:=od,data:=.seq items2 n2,slots:=sl }/\R (.ok (.ret Value.none)) { s with heap:=s.heap.update l (Obj.mapSeq fun x=>x++items2),toks:=s.toks }) :=
 .of_wp fun prog w A R s h=>by
  obtain ⟨hp,g,d,tk,os⟩:=s;obtain ⟨hl,hb,h⟩:=h;have f1:=AutoSeq1.idx_int;have f2:=AutoSeq1.sub_tuple_tuple;have f3:=AutoSeq1.sub_list_list;have f4:=AutoSeq1.sub_tuple_list;have f5:=AutoSeq1.sub_list_tuple;
  have hz':(items++items2).size<=sizeLine+1:=by rw [Array.size_append];exact hs2
  wp_walk using (wpAny_updateSeq hl rfl (hz:=hs1) (_hz':=hz')),AutoSeq1.wpAny_loadPart' hl,AutoSeq1.wpAny_loadPart' hb;exact ⟨_,rfl,h⟩
section
variable {X:Cx}
inductive ZeS (P:Program)(w:World)(xs:List V)(H:Hp)(Q:VK):Prop
 | mk:xs=[]->(∀ p,H p=none->Q (.ref p) (upd H p (.ext (XI P w p []))))->ZeS P w xs H Q
def ZmH (P:Program)(w:World):List V->Hp->VK->Prop:=fun xs H Q=>ZeS P w xs H Q
theorem Zfp:Ya X (.type "set") (ZmH X.prog X.w):=by
 intro pins s σ H xs us Q I r h
 obtain ⟨rfl,q⟩:=h
 have hus:us=[]:=by cases r;rfl
 subst hus
 refine Zfo ?_
 have G:SetG X.prog X.w (s.heap.push { cls:=.type "set",dict:=none,data:=.set #[] 0 (.fresh 0 0 (!YS X.w)) }) s.heap.objs.size []:=newG
 exact ⟨.ref s.heap.objs.size,_,I.laid (t':=s.toks) (fun b o e=>Heap.get?_push_of_some _ e) (Nat.le_refl _) (show ObjOk X.prog X.w _ _ _ (.ext (XI X.prog X.w s.heap.objs.size [])) from ⟨G,⟨_,Heap.get?_push_size _ rfl⟩,fun h1 h2 g k=>SetG.keep g k⟩),rfl,q _ (I.hok.fresh (Nat.le_refl _))⟩
inductive ZdE (P:Program)(w:World)(neg:Bool)(x:V)(y:V)(H:Hp)(Q:VK):Prop
 | mk (p:Addr) (ks:List Zk) (k:Zk):y=.ref p->x=kV k->H p=some (.ext (XI P w p ks))->Q (.bl (if neg then !(ks.any fun j=>decide (j=k)) else ks.any fun j=>decide (j=k))) H->ZdE P w neg x y H Q
def ZlN (P:Program)(w:World)(neg:Bool):R2:=fun x y H Q=>ZdE P w neg x y H Q
theorem ZfC:YK X (compareOp .NotIn) (ZlN X.prog X.w true):=by
 intro pins s σ H x y v u Q I rx ry h
 obtain ⟨p,ks,k,rfl,rfl,hp,q⟩:=h
 cases ry
 obtain ⟨G,_,_⟩:=(show ObjOk X.prog X.w H s.heap p (.ext (XI X.prog X.w p ks)) from I.hok p _ hp)
 have hk:=ZeD rx
 exact wpAny_notInSet_of (knd:=Zr X.prog X.w) (k:=k) hk (ZeV hk) (SetG.of G) ⟨.bl _,H,I.tok _,rfl,q⟩
inductive ZcA (P:Program)(w:World)(to:TE)(t:TA)(σ:St)(H:Hp)(Q:VK):Prop
 | mk:(to σ H fun x H1=>∃ (p:Addr),x=.ref p/\(∃ ks,H1 p=some (.ext (XI P w p ks)))/\t σ H1 fun xs H2=>∃ (ks:List Zk) (k:Zk),xs=[kV k]/\H2 p=some (.ext (XI P w p ks))/\ks.length<=1000/\Q .non (upd H2 p (.ext (XI P w p (WO ks k)))))->ZcA P w to t σ H Q
def ZkB (P:Program)(w:World)(to:TE)(t:TA):TE:=fun σ H Q=>ZcA P w to t σ H Q
variable {o e:Expr}{es:List Expr}{to:TE}{t:TA}{name:Str}{apos cpos:Pos}
theorem ZgU (ho:PE X o to)(ha:PA X (e::es) t)
 (hbase:attributeBase o "add" X.env (eval o X.env)=eval o X.env:=by rfl)
 (hfew:((backTo cpos (starEach (e::es) X.env)).all (fun x=>!x.1)&&(backToKw cpos (keywordEach [] X.env)).all (fun x=>x.1.isSome)
  && decide ((e::es).length+([]:List Keyword).length+(if ([]:List Keyword).isEmpty then 0 else 1) < 30))=true:=by rfl)
 (hline:(apos.endLine == cpos.line)=true:=by rfl) (hs:starEach (e::es) X.env=(false,eval e X.env)::starEach es X.env:=by rfl) (hplain:(backTo cpos (starEach es X.env)).any (·.1)=false:=by rfl) :
 PE X (.Call (.Attribute o "add" apos) (e::es) [] cpos) (ZkB X.prog X.w to t):=by
 intro pins s σ H Q I h
 obtain ⟨h⟩:=h
 refine wpAny_Call_method_late hbase hfew hline rfl (Zt (ho pins s σ H _ I h) fun v s1 ⟨x,H1,I1,r1,p,ex,⟨ks0,e0⟩,q1⟩=>?_)
 subst ex
 cases r1
 obtain ⟨G1,_,_⟩:=(show ObjOk X.prog X.w H1 s1.heap p (.ext (XI X.prog X.w p ks0)) from I1.hok p _ e0)
 have G1':SetG X.prog X.w s1.heap p ks0:=G1
 refine ⟨"set","set.add",PySem.F.plainAttrs_set,PySem.F.slot_set_add,PySem.F.type_set_add,G1'.of.typeIs,G1'.of.noDict,?_⟩
 have hA:=ha cpos pins s1 σ H1 _ I1 q1
 rw [hs] at hA ⊢
 refine Calls.callWith_builtin (by show (false || (backTo cpos (starEach es X.env)).any (·.1))=false;rw [hplain]<;>rfl) (Calls.evalArgs_plain ?_)
 refine Zt hA fun us s2 ⟨vs,H2,I2,r2,ks,k,ev,e2,hl,q2⟩=>?_
 subst ev
 obtain ⟨u,rfl,ru⟩:=r2.one
 obtain ⟨G2,_,_⟩:=(show ObjOk X.prog X.w H2 s2.heap p (.ext (XI X.prog X.w p ks)) from I2.hok p _ e2)
 refine ZcH (ZeD ru) (show SetG X.prog X.w s2.heap p ks from G2) (by show _ < 4096;omega) fun h' sb G=>?_
 have there:∃ u,h'.get? p=some u:=by obtain ⟨o,_,_,_,ho,_⟩:=G;exact ⟨o,ho⟩
 exact ⟨.non,_,I2.write (t':=s2.toks+1) (x:=p) (e:=p) (by rw [e2];exact trivial) (.inl rfl) (fun b u hb hu=>(sb.2 b hb).trans hu) there (show ObjOk X.prog X.w _ _ _ (.ext (XI X.prog X.w p (WO ks k))) from ⟨G,there,fun h1 h2 g kp=>SetG.keep g kp⟩),rfl,q2⟩
inductive Zbi (K:PySem.W.Frag)(x:V)(vs:List V)(H:Hp)(Q:VK):Prop
 | mk (l:Addr) (b:Addr) (xs zs:List V):x=.ref l->vs=[.ref b]->H l=some (.lst xs)->SqT K H b zs->xs.length+zs.length<=20000->Q .non (upd H l (.lst (xs++zs)))->Zbi K x vs H Q
def ZdD (K:PySem.W.Frag):V->List V->Hp->VK->Prop:=fun x vs H Q=>Zbi K x vs H Q
theorem ZaZ:MtM X "list.extend" (ZdD X.K):=by
 intro pins s σ H x vs v us Q I rx rv h
 obtain ⟨l,b,xs,zs,rfl,rfl,hH,hB,hz,q⟩:=h
 cases rx
 obtain ⟨u,rfl,ru⟩:=rv.one
 cases ru
 have h63:sizeLine=16777216:=sizeLine_eq
 obtain ⟨z,its,n,r,hl,e⟩:=I.lstM hH
 obtain ⟨its2,r2,pl2,hz2⟩:=I.tuple hB
 have hl2:=r2.length
 obtain ⟨⟨oc,od,odt,osl⟩,ho,hc,n2,hd⟩:=pl2
 cases hc;cases hd
 have hsz:its.toArray.size+its2.toArray.size<=sizeLine:=by rw [size_toArray,size_toArray];omega
 have hlong:¬ (!its.toArray.isEmpty&&Builtin.List.listTooLong (its.toArray.size+its2.toArray.size))=true:=by
  rw [Zds hsz,Bool.and_false]
  exact Bool.false_ne_true
 refine call_meets F.slot_list_extend ⟨_,e,rfl⟩ F.entry_list_extend (F.args_list_extend_2 _ _)
  (ZaW l its.toArray n b its2.toArray n2 od osl hlong (by rw [size_toArray];omega) (by omega)) ⟨e,ho,?_⟩
 refine ⟨.non,_,I.lset (its':=its++its2) hH e (by simp) (r.append r2) ?_,rfl,q⟩
 rw [length_append]
 omega
end
end L2
namespace L2
open PySem PySem.Spec PyProof.Rows
end L2
namespace L2
open PySem PySem.Spec PyProof.Rows PyProof.Rows.KTD
section
variable {δ:Type}{Rr:δ->Value->Prop}{prog:Program}{w:World}{A:Around}{E:Value->Shared->Prop}{s:Shared}{a:Addr}{D:List (Str×δ)}{k:Str}{tk:Tok}
end
section
variable {X:Cx}{o e:Expr}{apos cpos:Pos}{te:TE}{d:Addr}{D:List (Str×List V)}
end
end L2
namespace L2
open PySem PySem.Spec PyProof.Rows
section
variable {X:Cx}
end
section
variable {prog:Program}{w:World}{A:Around}{E:Value->Shared->Prop}{h:Heap}{g:Array GenState}{d:Drawn}{t:Nat}{os:OsState}
variable {nm q:Str}{C N:Addr}{bs bm:List Value}{sn:List Str}{sub:List Value}{ab:Bool}{col:Option Bool}{dd:Option Addr}{k0 k1 k2 k3 k5:Option Value}
end
section
variable {prog:Program}{w:World}{A:Around}{E:Value->Shared->Prop}{h:Heap}{g:Array GenState}{d:Drawn}{t:Nat}{os:OsState}
variable {nm q:Str}{C N x:Addr}{bs bm:List Value}{sn:List Str}{sub:List Value}{ab:Bool}{col:Option Bool}{dd:Option Addr}{k0 k1 k2 k3 k5:Option Value}{name:Str}{v:Value}{o:Obj}
end
section
variable {M:Model}{A:Around}{E:Value->Shared->Prop}{s:Shared}{base:Heap}{n:Nat}{H:Hp}{env:Env}{outer:List Env}{L ea C dx:Addr}
end
section
variable {X:Cx}{pins:List (Addr×Obj)}{σ:St}{H H1 H2:Hp}{s s1 s2:Shared}{h':Heap}
end
section
variable {P:Program}{w:World}{K:PySem.W.Frag}{mg:Str->Option Value}{base:Heap}{k:Nat}{f:Addr}{fd:FuncData}{ps:List Str}{sp sp':Sp}{CX:Uu}
end
section
variable {X:Cx}{pins:List (Addr×Obj)}{σ:St}{H:Hp}{s:Shared}
end
section
variable {X:Cx}{body suite:List Stmt}{b0:Stmt}{C0:Addr}{x0 n:Str}{i:Nat}{tb:(St->XK)->TS}{th:TS}{p0 hp pos:Pos}
end
section
variable {P:Program}{w:World}{K:PySem.W.Frag}{mg:Str->Option Value}{base:Heap}{j k:Nat}{C:Addr}{x m:Str}{ps:List Str}{sp:Sp}
end
section
variable {X:Cx}{EE:St->XK}{k:Nat}{f C:Addr}{fd:FuncData}{ps:List Str}{sp:Sp}{x m:Str}{p pos apos:Pos}{e o:Expr}{es:List Expr}{ta:TE}{t:TA}
end
section
variable {X:Cx}{o value:Expr}{pos pos':Pos}{ta tv:TE}
end
section
variable {X:Cx}{pins:List (Addr×Obj)}{σ:St}{H:Hp}{s:Shared}
end
section
variable {X:Cx}{EE:St->XK}{k:Nat}{C:Addr}{x:Str}{np cpos pos:Pos}{e:Expr}{t:TA}
end
end L2
namespace L2
open PySem PySem.Spec PyProof.Rows
open PySem.Builtin PySem.Builtin.ObjectAttr
section
variable {prog:Program}{w:World}{A:Around}{E:Value->Shared->Prop}{h:Heap}{g:Array GenState}{d:Drawn}{t:Nat}{os:OsState}
variable {nm q:Str}{C N a dx:Addr}{bs bm:List Value}{sn:List Str}{sub:List Value}{ab:Bool}{col:Option Bool}{dd:Option Addr}{k0 k1 k2 k3 k5:Option Value}{name:Str}{v:Value}{o:Obj}{vs:Array Value}{mA:Str->Option Value}
end
end L2
namespace L2
open PySem PySem.Spec PyProof.Rows
section
variable {X:Cx}{e:Expr}{pos:Pos}{ta:TE}
end
section
variable {X:Cx}
end
inductive ZeR (K:PySem.W.Frag)(x:V)(y:V)(H:Hp)(Q:VK):Prop
 | mk (a b:Addr) (xs:List V) (ds:List PyData):(x=.ref a)->(y=.ref b)->(H a=some (.lst xs))->(DatTs K H xs ds)->(PyData.canLayAll0 ds=true)->(PyData.depthAll ds<=50)->(H b=some (.lst []))->(Q (.bl (!decide (xs=[]))) H)->ZeR K x y H Q
def ZmG (K:PySem.W.Frag):R2:=fun x y H Q=>ZeR K x y H Q
section
variable {X:Cx}
theorem Zkk {K:PySem.W.Frag}(hK:X.K=K)(hu:X.A.units+64 < cLine):YK X (compareOp .NotEq) (ZmG K):=by
 subst hK
 intro pins s σ H x y v u Q I rx ry h
 obtain ⟨a,b,xs,ds,rfl,rfl,e1,d1,c1,hd,e2,q⟩:=h
 cases rx;cases ry
 obtain ⟨_,its,n,rv,g⟩:=(show ObjOk X.prog X.w H s.heap a (.lst xs) from I.hok a _ e1)
 obtain ⟨_,its2,n2,rv2,g2⟩:=(show ObjOk X.prog X.w H s.heap b (.lst []) from I.hok b _ e2)
 cases rv2
 obtain ⟨nd,as,ra⟩:=DatTs.reads I its d1 rv
 have r1:Reads s.heap (.ref a) (.list ds) _:=.list g rfl rfl (by simpa using ra)
 have r2:Reads s.heap (.ref b) (.list []) _:=.list g2 rfl rfl .nil
 refine SeqAt.compareNe_reads r1 r2 c1 rfl (Nat.lt_of_le_of_lt (Nat.add_le_add_left (Nat.le_trans (Nat.min_le_right _ _) (show (PyData.list []).depth<=1 by decide)) _) (by omega)) ⟨.bl _,H,I,rfl,?_⟩
 have e:PyData.eqv (.list ds) (.list [])=decide (xs=[]):=by
  cases d1 with
  | nil=>rfl
  | cons _ _=>simp [PyData.eqv,PyData.eqvAll]
 rw [e];exact q
end
section
variable {prog:Program}{w:World}{A:Around}{E:Value->Shared->Prop}{s:Shared}
end
section
variable {X:Cx}
end
section
variable {prog:Program}{w:World}{A:Around}{E:Value->Shared->Prop}{s:Shared}
end
section
variable {prog:Program}{w:World}{A:Around}{E:Value->Shared->Prop}{s:Shared}
end
section
variable {X:Cx}
end
section
variable {X:Cx}{pins:List (Addr×Obj)}{σ:St}{H:Hp}{s:Shared}
end
theorem PI.or {X:Cx}{tg e:Expr}{t u:TI}(h1:PI X tg e t)(h2:PI X tg e u):PI X tg e (fun σ H R=>t σ H R\/u σ H R):=by
 intro pins s σ H R I h
 rcases h with h | h
 ·exact h1 pins s σ H R I h
 ·exact h2 pins s σ H R I h
end L2
namespace K13
open PySem L2
theorem Zco {ns:List Int}{ks:List Nat}(h:ns.Perm (ks.map fun (a:Nat)=>(a:Int))):∃ bs:List Nat,ns=bs.map (fun (a:Nat)=>(a:Int))/\bs.Perm ks:=by
 have all:∀ {l:List Int},(∀ i∈l,∃ a:Nat,i=(a:Int))->∃ bs:List Nat,l=bs.map (fun (a:Nat)=>(a:Int)):=fun {l}=>by
  induction l with
  | nil=>intro _;exact ⟨[],rfl⟩
  | cons i r ih =>
   intro hh
   obtain ⟨a,rfl⟩:=hh i mem_cons_self
   obtain ⟨bs,rfl⟩:=ih fun j hj=>hh j (mem_cons_of_mem _ hj)
   exact ⟨a::bs,rfl⟩
 obtain ⟨bs,rfl⟩:=all fun i hi=>by
  obtain ⟨a,_,e⟩:=mem_map.mp (h.mem_iff.mp hi)
  exact ⟨a,e.symm⟩
 refine ⟨bs,rfl,?_⟩
 have e:∀ l:List Nat,(l.map fun (a:Nat)=>(a:Int)).map Int.toNat=l:=fun l=>by rw [map_map];exact List.map_id' l
 have:=h.map Int.toNat
 rwa [e,e] at this
theorem Zcu {bs:List Nat}(h:(bs.map fun (a:Nat)=>(a:Int)).Pairwise (·<=·))(hn:bs.Nodup):bs.Pairwise (· < ·):=by
 have h1:=pairwise_map.mp h
 exact (h1.and hn).imp fun ⟨a,b⟩=>by omega
theorem Zdm {a:Nat}{bs:List Nat}:inV (iN a) (bs.map iN)=decide (a∈bs):=by
 unfold inV
 rw [Bool.eq_iff_iff,List.any_eq_true,decide_eq_true_eq]
 constructor
 ·rintro ⟨x,hx,e⟩
  obtain ⟨b,hb,rfl⟩:=mem_map.mp hx
  have:(b:Int)=(a:Int):=by simpa [VT,iN] using e
  rw [show a=b by omega];exact hb
 ·intro h
  exact ⟨iN a,mem_map.mpr ⟨a,h,rfl⟩,by simp [VT,iN]⟩
theorem Zce (bs:List Nat):(bs.map iN).all WA=true:=all_eq_true.mpr fun x hx=>by
 obtain ⟨b,_,rfl⟩:=mem_map.mp hx;rfl
section
variable {P:Program}{w:World}{K:PySem.W.Frag}{mg:Str->Option Value}{base:Heap}{C Pl:Addr}
inductive ZdM  (vs:List V) (H:Hp) (Q:VK) (w_3:XK):Prop
 | mk (i:Int):(vs=[.int i])->(Q (.bl true) H)->ZdM vs H Q w_3
abbrev nIN:List Str:=["thing"]
abbrev ZiF:List Str:=["thing"]
theorem scIN:Zx nIN ZiF (Zo s_is_number):=⟨rfl,rfl,rfl,by decide +kernel,rfl,by decide +kernel,by decide +kernel⟩
theorem Zkh {f:Addr}{fd:FuncData}(F:Fun K "is_number" "is_number" s_is_number f fd)(T:Wa mg):FnOk P w K mg base ZK 1 f fd ZiF ZdM:=by
 refine F.ok scIN (fun vs H Q E h=>?_) (fun cdv A outer s H vs Q E hr h=>?_)
 ·obtain ⟨i,rfl,_⟩:=h;rfl
 obtain ⟨i,rfl,q⟩:=h
 refine' ⟨?t,?h,?r⟩
 case h =>
  conv=>arg 2;whnf
  with_reducible refine' (Zj ?h1)
  case h1=>exact Zw (ZgS (ZE Zde rfl T.isinstance (by decide +kernel) (Zc (pv 0) (Zc (ZeO rfl T.int (by decide +kernel) (v:=.ty "int") rfl) Za))) (ZgT (ZlG (ZE Zde rfl T.isinstance (by decide +kernel) (Zc (pv 0) (Zc (ZeO rfl T.bool (by decide +kernel) (v:=.ty "bool") rfl) Za))))))
 try dsimp only [Yo,Cx.nox]
 exact ⟨_,rfl,_,_,_,_,rfl,.int _,rfl,_,rfl,Yx ⟨_,rfl,_,_,_,_,rfl,.int _,rfl,_,rfl,q⟩⟩
inductive ZfO  (vs:List V) (H:Hp) (Q:VK) (w_3:XK):Prop
 | mk (i:Int):(vs=[.int i])->(∀ l,H l=none->Q (.ref l) (upd H l (.lst [.int i])))->ZfO vs H Q w_3
abbrev nAL:List Str:=["tables"]
abbrev ZiD:List Str:=["tables"]
theorem scAL:Zx nAL ZiD (Zo s_as_list):=⟨rfl,rfl,rfl,by decide +kernel,rfl,by decide +kernel,by decide +kernel⟩
theorem Zlr {f:Addr}{fd:FuncData}(F:Fun K "as_list" "as_list" s_as_list f fd)(T:Wa mg)(D_is_number:Def P w K mg base 1 "is_number" ZiF ZdM):FnOk P w K mg base ZK 2 f fd ZiD ZfO:=by
 refine F.ok scAL (fun vs H Q E h=>?_) (fun cdv A outer s H vs Q E hr h=>?_)
 ·obtain ⟨i,rfl,_⟩:=h;rfl
 obtain ⟨i,rfl,q⟩:=h
 refine' ⟨?t,?h,?r⟩
 case h =>
  conv=>arg 2;whnf
  with_reducible refine' (Zj ?h1)
  case h1=>exact Zw (Xb (UG (Zu D_is_number hr (Zc (pv 0) Za))) (YX (Zc (pv 0) Za)) (ZP YT rfl T.list (by decide +kernel) (Zc (pv 0) Za)))
 try dsimp only [Yo,Cx.nox]
 exact ⟨_,rfl,i,rfl,_,rfl,Yx ⟨_,rfl,(by show 1<=sizeLine;decide),fun l hl=>q l hl⟩⟩
theorem Zhj {H H':Hp}{a:Addr}{xs:List V}(h:SqL K H a xs\/SqT K H a xs)(s:Same H H'):SqL K H' a xs\/SqT K H' a xs:=h.imp (ZjA · s) (·.tf s.tf)
inductive ZcR (K:PySem.W.Frag)(C:Addr)(vs:List V)(H:Hp)(Q:VK)(w_3:XK):Prop
 | mk (NS:List Str) (st tl:Addr) (nds:List Nd) (tabs:List (Zk×V)) (R:List Nat):(vs=[.ref st,.ref tl])->(Xo K C nds tabs st H)->((SqL K H tl (R.map iN)\/SqT K H tl (R.map iN)))->((∀ t∈R,(Zy tabs (Sum.inl (t:Int))).isSome=true))->(R.length<=5)->(Rts NS nds R)->(nds.length<=900)->(∀ (l:Addr) (bs:List Nat) (H':Hp),H l=none->Same H H'->RchL nds R bs->bs.length<=900->H' l=some (.lst (bs.map iN))->Q (.ref l) H')->ZcR K C vs H Q w_3
abbrev nRc:List Str:=["store","tables","table","found","left","number"]
abbrev ZfG:List Str:=["store","tables"]
theorem scRc:Zx nRc ZfG (Zo s_reached):=⟨rfl,rfl,rfl,by decide +kernel,rfl,by decide +kernel,by decide +kernel⟩
theorem Zlx {f:Addr}{fd:FuncData}(F:Fun K "reached" "reached" s_reached f fd)(T:Wa mg)(T0:Txt K mg)(TC:YR K C)(DP:Def P w K mg base 1 "parts_in" ["node"] (Wl K))(DS_node:DefM P w K mg base 1 C "node" ["self","number"] (UO K C))(DS_check_table:DefM P w K mg base 1 C "check_table" ["self","table"] (VM K C)):FnOk P w K mg base ZK 2 f fd ZfG (ZcR K C):=by
 refine F.ok scRc (fun vs H Q E h=>?_) (fun cdv A outer s H vs Q E hr h=>?_)
 ·obtain ⟨NS,st,tl,nds,tabs,R,rfl,_⟩:=h;rfl
 obtain ⟨NS,st,tl,nds,tabs,R,rfl,St,hs,ht,hR5,hR,h900,q⟩:=h
 have hr1:=hr
 have h0:nds[0]?=some .bare:=St.1
 obtain ⟨tz,hz⟩:=T0.zero
 refine' ⟨?t,?h,?r⟩
 case h =>
  conv=>arg 2;whnf
  with_reducible refine' (Zf (XE ?h1 ?h2 ?h3 ?h4 (Zj ?h5) ?h6) (Zf ?h7 (Zf ?h8 (Zf (Vc ?h9 ?h10 (Zf ?h11 (Zj (Yf ?h12 (Zf ?h13 (Zj ?h14)) ZS)))) (Zj ?h15)))))
  case h1=>exact PassesOwn.never
  case h2=>exact rfl
  case h3=>exact PI.or (UF (pv 1)) (Zdy (pv 1))
  case h4=>exact Yh (i:=2) scRc.nd rfl (Or.inl rfl)
  case h5=>exact YJ (YY DS_check_table TC.cl hr (pv 0) (Zc (pv 2) Za))
  case h6=>exact fun _=>rfl
  case h7=>exact Zz (i:=3) scRc.nd rfl (Or.inl rfl) (ZfD Zfp rfl T.set (by decide +kernel))
  case h8=>exact Zz (i:=4) scRc.nd rfl (Or.inl rfl) (ZP YT rfl T.list (by decide +kernel) (Zc (pv 1) Za))
  case h9=>exact PassesOwn.never
  case h10=>exact WW (pv 4) (fun _=>rfl)
  case h11=>exact Zz (i:=5) scRc.nd rfl (Or.inl rfl) (Zdu PySem.F.plainAttrs_list PySem.F.slot_list_pop PySem.F.type_list_pop ZgL (pv 4))
  case h12=>exact PW.pt (WX (ZF Vb (pv 5) (Xi rfl hz (v:=.int 0) ⟨_,rfl⟩) (ZI _)) (WI (ZF ZfC (pv 5) (pv 3) rfl)))
  case h13=>exact YJ (ZgU (pv 3) (Zc (pv 5) Za))
  case h14=>exact YJ (Wo PySem.F.plainAttrs_list PySem.F.slot_list_extend PySem.F.type_list_extend ZaZ (pv 4) (Zc (Zu DP hr1 (Zc (YY DS_node TC.cl hr (pv 0) (Zc (pv 5) Za)) Za)) Za))
  case h15=>exact Zw (ZE (VQ rfl) rfl T.sorted (by decide +kernel) (Zc (pv 3) Za))
 try dsimp only [Yo,Cx.nox]
 refine zs5 ?_
 intro zD zS zN4 zN3 zN2 zN1
 obtain ⟨_,ln0,dt0,SA0⟩:=id St
 obtain ⟨dx0,ob0⟩:=SA0.ob
 have fin:∀ x2,zN1 [some (.ref st),some (.ref tl),x2,none,none,none] H:=fun x2=>by
  refine ⟨rfl,fun p hp=>?_⟩
  have s1:=Zl hp (.ext (XI P w p []))
  refine ⟨_,rfl,tl,_,rfl,Zhj hs s1,fun l hl=>?_⟩
  have hlp:l≠p:=fun z=>by rw [z,Ze] at hl;cases hl
  have hl0:H l=none:=by rw [Zi hlp] at hl;exact hl
  have hms:=hR.root
  refine ⟨fun m σ H'=>∃ (left ks:List Nat) (x2 x5:Option V),σ=[some (.ref st),some (.ref tl),x2,some (.ref p),some (.ref l),x5]/\Same H H'/\H' p=some (.ext (XI P w p ((ks.map fun (a:Nat)=>(a:Int)).map Sum.inl)))/\H' l=some (.lst (left.map iN))/\RcI nds R left ks/\Yt nds left<=6825/\m=Yt nds left,
   ⟨_,R,[],_,_,rfl,s1.trans (Zl hl _),by rw [Zi hlp.symm];exact Ze,Ze,.start,by omega,rfl⟩,?_⟩
  rintro m σ H2 ⟨left,ks,x2,x5,rfl,s2,ep,el2,I,hm,rfl⟩
  refine ⟨_,rfl,_,.inl ⟨_,SqL.of el2,rfl⟩,?_⟩
  have hks:=hR.few I.nd fun b hb=>I.fs b hb
  rcases List.eq_nil_or_concat left with rfl | ⟨L,a,rfl⟩
  ·refine ZR ⟨_,rfl,p,_,rfl,ep,by rw [length_map];omega,fun l2 ns hl2 hpm hs=>?_⟩
   obtain ⟨bs,rfl,hbp⟩:=Zco hpm
   have hnd:bs.Nodup:=hbp.nodup_iff.mpr I.nd
   have hmem:∀ b,b∈bs↔b≠0/\WN nds R b:=fun b=>by rw [hbp.mem_iff];exact I.done h0 b
   have hl2H:H l2=none:=Xt s2 hl2
   refine q l2 bs _ hl2H (s2.trans (Zl hl2 _)) ⟨Zcu hs hnd,hmem⟩ (by rw [hbp.length_eq];omega) ?_
   rw [Ze,map_map];rfl
  ·rw [List.concat_eq_append] at *
   rw [show (!((L++[a]).map iN).isEmpty)=true by simp]
   refine Yx ⟨_,fun σ' H' h=>h,_,rfl,.inl ⟨rfl,_,SqL.of el2⟩,l,_,iN a,rfl,rfl,el2,?_,?_⟩
   ·simp
   rw [show ((L++[a]).map iN).dropLast=L.map iN by simp]
   have lf:∀ c,Same H (upd H2 l c):=fun c b o e=>by rw [Zi (Zn e hl0)];exact s2 _ _ e
   have hp0:H p=none:=hp
   have ma:=UC (nds:=nds) L [a]
   have m1:Yt nds [a]=Yc nds 5 a:=by show Yc nds 5 a+0=_;omega
   have mp:=ZbG (nds:=nds) 5 a
   refine ⟨_,rfl,rfl,_,rfl,Yp (fun c=>?_) (fun c=>?_)⟩
   ·have ha:a≠0:=fun z=>by rw [z] at c;exact absurd c (by decide)
    refine ⟨_,rfl,_,rfl,p,_,Sum.inl (a:Int),rfl,rfl,by rw [Zi hlp.symm];exact ep,_,rfl,Yp (fun c2=>?_) (fun c2=>?_)⟩
    ·have hn:a ∉ ks:=fun z=>by
      have:(((ks.map fun (a:Nat)=>(a:Int)).map Sum.inl).any fun j=>decide (j=(Sum.inl (a:Int):Zk)))=true:=any_mem.mpr (mem_map.mpr ⟨_,mem_map.mpr ⟨a,z,rfl⟩,rfl⟩)
      rw [this] at c2
      exact absurd c2 (by decide)
     have eadd:WO ((ks.map fun (a:Nat)=>(a:Int)).map Sum.inl) (Sum.inl (a:Int))=((ks++[a]).map fun (a:Nat)=>(a:Int)).map Sum.inl:=by
      unfold WO
      rw [if_neg,map_append,map_append];rfl
      intro z
      obtain ⟨i,hi,e⟩:=mem_map.mp (any_mem.mp z)
      obtain ⟨b,hb,rfl⟩:=mem_map.mp hi
      exact hn (by rw [<- Int.ofNat.inj (Sum.inl.inj e)];exact hb)
     refine ⟨_,rfl,p,rfl,⟨_,by rw [Zi hlp.symm];exact ep⟩,_,rfl,_,Sum.inl (a:Int),rfl,by rw [Zi hlp.symm];exact ep,by rw [length_map,length_map];omega,?_⟩
     rw [eadd]
     have hra:=I.lf a (mem_append_right _ mem_cons_self)
     obtain ⟨n,hn9⟩:=hR.node hra
     generalize hE:upd (upd H2 l (.lst (L.map iN))) p _=H3
     have s3:Same H H3:=fun b o e=>by rw [<- hE,Zi (Zn e hp0)];exact lf _ _ _ e
     have ep3:H3 p=some (.ext (XI P w p (((ks++[a]).map fun (a:Nat)=>(a:Int)).map Sum.inl))):=by rw [<- hE];exact Ze
     have el3:H3 l=some (.lst (L.map iN)):=by rw [<- hE,Zi hlp];exact Ze
     clear hE
     have St3:=Up.up St s3
     obtain ⟨_,ln3,dt3,SA3⟩:=id St3
     obtain ⟨dx3,ob3⟩:=SA3.ob
     refine ⟨_,rfl,.inl ⟨rfl,_,SqL.of el3⟩,_,rfl,st,dx3,_,rfl,ob3,ZN ln3 dt3 (by decide +kernel) (by decide +kernel),_,rfl,st,nds,tabs,a,n,rfl,St3,hn9,fun na hna=>?_⟩
     have hms2:Yt nds n.parts < Yc nds 5 a:=by
      cases n with
      | fork qs=>rw [(hR.fork hra hn9).1];show Yt nds qs < 1+Yt nds qs;omega
      | bare=>exact mp
      | leaf _ _=>exact mp
     have mb:=UC (nds:=nds) L n.parts
     have hll:=ZeJ (nds:=nds) (L++n.parts)
     rw [length_append] at hll
     refine ⟨na,n,rfl,hna,fun pt H4 s4 hpt=>⟨l,pt,_,_,rfl,rfl,s4 _ _ el3,hpt,?_,?_⟩⟩
     ·rw [length_map,length_map];omega
     ·refine ⟨Yt nds (L++n.parts),by omega,L++n.parts,ks++[a],x2,_,rfl,fun b o e=>by rw [Zi (Zn e hl0)];exact s4 _ _ (s3 _ _ e),by rw [Zi hlp.symm];exact s4 _ _ ep3,by rw [Ze,map_append];rfl,I.take ha hn (fun qs e=>?_) (fun q hq=>?_),by omega,rfl⟩
      ·rw [hn9] at e;cases e;rfl
      ·cases n with
       | fork qs=>exact ⟨qs,hn9,hq⟩
       | bare=>cases hq
       | leaf _ _=>cases hq
    ·have hk:a∈ks:=by
      cases e:(((ks.map fun (a:Nat)=>(a:Int)).map Sum.inl).any fun j=>decide (j=(Sum.inl (a:Int):Zk))) with
      | false=>exact absurd (by rw [e];rfl) c2
      | true =>
       obtain ⟨i,hi,e⟩:=mem_map.mp (any_mem.mp e)
       obtain ⟨b,hb,rfl⟩:=mem_map.mp hi
       rw [<- Int.ofNat.inj (Sum.inl.inj e)];exact hb
     exact ⟨Yt nds L,by omega,L,ks,x2,_,rfl,lf _,by rw [Zi hlp.symm];exact ep,Ze,I.skip (.inr hk),by omega,rfl⟩
   ·refine ZR ?_
    have ha:a=0:=by
     have:¬ (!decide (V.int (a:Int)=V.int 0))=true:=c
     simp at this
     omega
    exact ⟨Yt nds L,by omega,L,ks,x2,_,rfl,lf _,by rw [Zi hlp.symm];exact ep,Ze,I.skip (.inl ha),by omega,rfl⟩
 have turn:∀ (i:Nat) (x:V),(R.map iN)[i]?=some x->∃ t,x=iN t/\(Zy tabs (Sum.inl (t:Int))).isSome=true:=fun i x hx=>by
  rw [getElem?_map] at hx
  obtain ⟨t,et,rfl⟩:=Option.map_eq_some_iff.mp hx
  exact ⟨t,rfl,ht t (mem_of_getElem? et)⟩
 rcases hs with hs | hs
 ·refine .inl ⟨_,rfl,tl,rfl,⟨_,hs⟩,?_⟩
  refine ZhQ (K:=K) (xs:=R.map iN) (fun i σ H'=>∃ x2,σ=[some (.ref st),some (.ref tl),x2,none,none,none]/\H=H') ⟨_,rfl,rfl⟩ ?_ ?_ ?_
  ·rintro i σ H' _ ⟨x2,rfl,rfl⟩;exact hs
  ·rintro i x σ H' hx ⟨x2,rfl,rfl⟩
   obtain ⟨t,rfl,htt⟩:=turn i x hx
   exact ⟨_,rfl,st,dx0,_,rfl,ob0,ZN ln0 dt0 (by decide +kernel) (by decide +kernel),_,rfl,st,ln0,dt0,nds,tabs,t,rfl,SA0,htt,_,rfl,rfl⟩
  rintro σ H' ⟨x2,rfl,rfl⟩
  exact fin x2
 ·refine .inr ⟨_,rfl,tl,rfl,⟨_,hs⟩,?_⟩
  refine ZjQ (K:=K) (xs:=R.map iN) (fun i σ H'=>∃ x2,σ=[some (.ref st),some (.ref tl),x2,none,none,none]/\H=H') ⟨_,rfl,rfl⟩ ?_ ?_ ?_
  ·rintro i σ H' _ ⟨x2,rfl,rfl⟩;exact hs
  ·rintro i x σ H' hx ⟨x2,rfl,rfl⟩
   obtain ⟨t,rfl,htt⟩:=turn i x hx
   exact ⟨_,rfl,st,dx0,_,rfl,ob0,ZN ln0 dt0 (by decide +kernel) (by decide +kernel),_,rfl,st,ln0,dt0,nds,tabs,t,rfl,SA0,htt,_,rfl,rfl⟩
  rintro σ H' ⟨x2,rfl,rfl⟩
  exact fin x2
inductive ZcQ (K:PySem.W.Frag)(C:Addr)(vs:List V)(H:Hp)(Q:VK)(w_3:XK):Prop
 | mk (NS:List Str) (st:Addr) (nds:List Nd) (tabs:List (Zk×V)) (o t:Nat):(vs=[.ref st,iN o,iN t])->(Xo K C nds tabs st H)->((Zy tabs (Sum.inl (o:Int))).isSome=true)->((Zy tabs (Sum.inl (t:Int))).isSome=true)->(Rts NS nds [o])->(Rts NS nds [t])->(nds.length<=900)->(∀ (l:Addr) (bs:List Nat) (H':Hp),H l=none->Same H H'->FrL nds o t bs->bs.length<=900->H' l=some (.lst (bs.map iN))->Q (.ref l) H')->ZcQ K C vs H Q w_3
abbrev nFs:List Str:=["store","old","new","known"]
abbrev ZfE:List Str:=["store","old","new"]
theorem scFs:Zx nFs ZfE (Zo s_fresh):=⟨rfl,rfl,rfl,by decide +kernel,rfl,by decide +kernel,by decide +kernel⟩
theorem Zlu {f:Addr}{fd:FuncData}(F:Fun K "fresh" "fresh" s_fresh f fd)(T:Wa mg)(D_as_list:Def P w K mg base 2 "as_list" ZiD ZfO)(D_reached:Def P w K mg base 2 "reached" ZfG (ZcR K C)):FnOk P w K mg base ZK 3 f fd ZfE (ZcQ K C):=by
 refine F.ok scFs (fun vs H Q E h=>?_) (fun cdv A outer s H vs Q E hr h=>?_)
 ·obtain ⟨NS,st,nds,tabs,o,t,rfl,_⟩:=h;rfl
 obtain ⟨NS,st,nds,tabs,o,t,rfl,St,ho,ht,hRo,hRt,h900,q⟩:=h
 refine' ⟨?t,?h,?r⟩
 case h =>
  conv=>arg 2;whnf
  with_reducible refine' (Zf ?h1 (Zj ?h2))
  case h1=>exact Zz (i:=3) scFs.nd rfl (Or.inr rfl) (Zu D_reached hr (Zc (pv 0) (Zc (Zu D_as_list hr (Zc (pv 1) Za)) Za)))
  case h2=>exact Zw (Zdw (CompOk.of nFs s_fresh rfl rfl (by decide +kernel)) rfl (UF (Zu D_reached hr (Zc (pv 0) (Zc (Zu D_as_list hr (Zc (pv 2) Za)) Za)))) (fun _ _ _ _ _=>ZF (Vk (K:=K) rfl) (pv 4) (pv 3) rfl) (fun _ _ _ _ _=>pv 4))
 try dsimp only [Yo,Cx.nox]
 refine zs2 ?_
 intro zD zS zN1
 refine ⟨_,rfl,_,rfl,o,rfl,fun l1 hl1=>?_⟩
 have s1:=Zl hl1 (.lst [iN o])
 refine ⟨NS,st,l1,nds,tabs,[o],rfl,Up.up St s1,.inl (SqL.of Ze),fun u hu=>by rw [mem_singleton.mp hu];exact ho,by simp,hRo,h900,fun lk bk H2 hlk s2 hb2 hbl ek=>?_⟩
 have s3:=s1.trans s2
 refine ⟨_,rfl,_,rfl,t,rfl,fun l2 hl2=>?_⟩
 have s4:=s3.trans (Zl hl2 (.lst [iN t]))
 refine ⟨NS,st,l2,nds,tabs,[t],rfl,Up.up St s4,.inl (SqL.of Ze),fun u hu=>by rw [mem_singleton.mp hu];exact ht,by simp,hRt,h900,fun lb bb H3 hlb s5 hb3 hbl3 eb=>?_⟩
 have s6:=s4.trans s5
 have ek3:=s5 _ _ ((Zl hl2 (.lst [iN t])) _ _ ek)
 refine ⟨lb,rfl,⟨_,SqL.of eb⟩,fun D hD=>?_⟩
 have hD0:H D=none:=Xt s6 hD
 refine UT (K:=K) (xs:=bb.map iN) (small (show _<=1000 by rw [length_map];omega)) (fun i ys H'=>Same H3 H'/\H' D=some (.lst ys)/\ys=((bb.take i).filter fun b=>!decide (b∈bk)).map iN) ⟨Zl hD _,Ze,rfl⟩ ?_ ?_ ?_
 ·rintro i ys H' ⟨s7,_,rfl⟩
  refine ⟨?_,SqL.of (s7 _ _ eb)⟩
  rw [length_map]
  exact Nat.le_trans (length_filter_le _ _) (by rw [length_take];omega)
 ·rintro i v ys H' hv ⟨s7,eD,rfl⟩
  rw [getElem?_map] at hv
  obtain ⟨b,eb9,rfl⟩:=Option.map_eq_some_iff.mp hv
  refine ⟨_,rfl,_,rfl,lk,_,rfl,.inl (SqL.of (s7 _ _ ek3)),rfl,Zce bk,_,rfl,?_⟩
  rw [Zdm,List.take_succ,eb9,List.filter_append,map_append]
  refine Yp (fun c=>?_) (fun c=>?_)
  ·refine ⟨_,rfl,eD,fun b o q=>by rw [Zi (Zn q hD)];exact s7 _ _ q,Ze,?_⟩
   show _=_++(List.filter _ [b]).map iN
   rw [filter_cons,if_pos (show (!decide (b∈bk))=true from c)];rfl
  ·refine ⟨s7,eD,?_⟩
   show _=_++(List.filter _ [b]).map iN
   rw [filter_cons,if_neg (show ¬ (!decide (b∈bk))=true from c)];simp
 ·rintro ys H' ⟨s7,eD,rfl⟩
  rw [length_map,take_of_length_le (Nat.le_refl _)] at eD
  exact q D _ H' hD0 (s6.trans s7) (hb2.fr hb3) (Nat.le_trans (length_filter_le _ _) hbl3) eD
end
section
variable {P:Program}{w:World}{K:PySem.W.Frag}{mg:Str->Option Value}{base:Heap}{C Pl:Addr}
def kT (a:Nat):Zk×V:=(Sum.inl (a:Int),.bl true)
theorem ZjU (ks:List Nat):(ks.map kT).map (·.1)=(ks.map fun (a:Nat)=>(a:Int)).map Sum.inl:=by rw [map_map,map_map];rfl
theorem ZgA {ks:List Nat}{a:Nat}:(Zy (ks.map kT) (Sum.inl (a:Int))).isSome=decide (a∈ks):=by
 rw [Bool.eq_iff_iff,decide_eq_true_eq]
 unfold Zy
 rw [Option.isSome_map,List.find?_isSome]
 constructor
 ·rintro ⟨q,hq,e⟩
  obtain ⟨b,hb,rfl⟩:=mem_map.mp hq
  have:(Sum.inl (b:Int):Zk)=Sum.inl (a:Int):=of_decide_eq_true e
  rw [<- Int.ofNat.inj (Sum.inl.inj this)];exact hb
 ·intro h
  exact ⟨kT a,mem_map.mpr ⟨a,h,rfl⟩,decide_eq_true rfl⟩
theorem ZgM (K:PySem.W.Frag)(H:Hp):∀ ns:List Nat,DatTs K H (ns.map iN) (ns.map fun n:Nat=>PyData.int (n:Int))/\PyData.canLayAll0 (ns.map fun n:Nat=>PyData.int (n:Int))=true/\PyData.depthAll (ns.map fun n:Nat=>PyData.int (n:Int))=0
 | []=>⟨.nil,rfl,rfl⟩
 | n::ns=>by
  obtain ⟨h1,h2,h3⟩:=ZgM K H ns
  refine ⟨.cons (.int _) h1,?_,?_⟩
  ·rw [map_cons,PyData.canLayAll0,h2];rfl
  ·rw [map_cons,PyData.depthAll,h3];rfl
inductive ZfR (K:PySem.W.Frag)(C:Addr)(vs:List V)(H:Hp)(Q:VK)(w_3:XK):Prop
 | mk (NS:List Str) (st tl:Addr) (nds:List Nd) (tabs:List (Zk×V)) (R:List Nat):(vs=[.ref st,.ref tl])->(Xo K C nds tabs st H)->(SqL K H tl (R.map iN))->(R.length<=5)->(Rts NS nds R)->(nds.length<=900)->(∀ (l:Addr) (bs:List Nat) (H':Hp),H l=none->Same H H'->RchL nds R bs->bs.length<=900->H' l=some (.lst (bs.map iN))->Q (.ref l) H')->ZfR K C vs H Q w_3
abbrev nLR:List Str:=["_law_store","_law_some","_law_found","_law_left","_law_number","_law_node"]
abbrev ZfF:List Str:=["_law_store","_law_some"]
theorem scLR:Zx nLR ZfF (Zo s_l_reached):=⟨rfl,rfl,rfl,by decide +kernel,rfl,by decide +kernel,by decide +kernel⟩
theorem Zmz {f:Addr}{fd:FuncData}(F:Fun K "_law_reached" "_law_reached" s_l_reached f fd)(T:Wa mg)(TC:YR K C)(DS_node:DefM P w K mg base 1 C "node" ["self","number"] (UO K C)):FnOk P w K mg base ZK 2 f fd ZfF (ZfR K C):=by
 refine F.ok scLR (fun vs H Q E h=>?_) (fun cdv A outer s H vs Q E hr h=>?_)
 ·obtain ⟨NS,st,tl,nds,tabs,R,rfl,_⟩:=h;rfl
 obtain ⟨NS,st,tl,nds,tabs,R,rfl,St,hs,hR5,hR,h900,q⟩:=h
 have h0:nds[0]?=some .bare:=St.1
 refine' ⟨?t,?h,?r⟩
 case h =>
  conv=>arg 2;whnf
  with_reducible refine' (Zf ?h1 (Zf (Vc ?h2 ?h3 (Zf ?h4 (Zj (Yf ?h5 (Zf ?h6 (Zf ?h7 (Zj ?h8))) ZS)))) (Zj ?h9)))
  case h1=>exact Xf (i:=2) (j:=3) rfl scLR.nd rfl rfl (by decide) rfl rfl (Zc Zau (Zc (ZP YT rfl T.list (by decide +kernel) (Zc (pv 1) Za)) Za)) rfl
  case h2=>exact PassesOwn.never
  case h3=>exact ZF (Zkk (K:=K) rfl hr.units) (pv 3) (YX Za) (ZI _)
  case h4=>exact Zz (i:=4) scLR.nd rfl (Or.inl rfl) (Zdu PySem.F.plainAttrs_list PySem.F.slot_list_pop PySem.F.type_list_pop ZgL (pv 3))
  case h5=>exact PW.pt (WX (ZF Vb (pv 4) Zd (ZI _)) (WI (Zbh (Zcr (XF hr) (pv 4) (pv 2)))))
  case h6=>exact Wg (XF hr) (pv 2) (pv 4) XG rfl
  case h7=>exact Zz (i:=5) scLR.nd rfl (Or.inl rfl) (YY DS_node TC.cl hr (pv 0) (Zc (pv 4) Za))
  case h8=>exact YJ (Wo PySem.F.plainAttrs_list PySem.F.slot_list_extend PySem.F.type_list_extend ZaZ (pv 3) (Zc (Xb (ZF YH (ZA YV (pv 5) Zd (fun _ _=>rfl)) ZV (ZI _)) (ZA YV (pv 5) Zd (fun _ _=>rfl)) ZbK) Za))
  case h9=>exact Zw (ZE (VP rfl) rfl T.sorted (by decide +kernel) (Zc (pv 2) Za))
 try dsimp only [Yo,Cx.nox]
 refine zs3 ?_
 intro zD zS zN2 zN1
 have hs':SqL K H tl (R.map iN)\/SqT K H tl (R.map iN):=.inl hs
 refine fun d hd=>⟨_,rfl,tl,_,rfl,Zhj hs' (Zl hd _),fun l hl=>⟨_,_,rfl,?_⟩⟩
 have s1:=Zl hd (.dK [])
 have hld:l≠d:=fun z=>by rw [z,Ze] at hl;cases hl
 have hl0:H l=none:=by rw [Zi hld] at hl;exact hl
 have hms:=hR.root
 refine ⟨fun m σ H'=>∃ (left ks:List Nat) (x4 x5:Option V),σ=[some (.ref st),some (.ref tl),some (.ref d),some (.ref l),x4,x5]/\Same H H'/\H' d=some (.dK (ks.map kT))/\H' l=some (.lst (left.map iN))/\RcI nds R left ks/\Yt nds left<=6825/\m=Yt nds left,
  ⟨_,R,[],_,_,rfl,s1.trans (Zl hl _),by rw [Zi hld.symm];exact Ze,Ze,.start,by omega,rfl⟩,?_⟩
 rintro m σ H2 ⟨left,ks,x4,x5,rfl,s2,ed,el2,I,hm,rfl⟩
 have hks:=hR.few I.nd fun b hb=>I.fs b hb
 refine ⟨_,rfl,(by show 0<=sizeLine;decide),fun ol hol=>?_⟩
 have s9:=Zl hol (.lst [])
 obtain ⟨hd1,hd2,hd3⟩:=ZgM K (upd H2 ol (.lst [])) left
 refine ⟨l,ol,_,_,rfl,rfl,s9 _ _ el2,hd1,hd2,by rw [hd3];decide,Ze,_,rfl,?_⟩
 have s2:=s2.trans s9
 have ed:=s9 _ _ ed
 have el2:=s9 _ _ el2
 generalize upd H2 ol (.lst [])=H2 at *
 clear s9 hd1
 rcases List.eq_nil_or_concat left with rfl | ⟨L,a,rfl⟩
 ·refine ZR ⟨_,rfl,d,_,_,rfl,ed,ZjU ks,by rw [length_map];omega,fun l2 ns hl2 hpm hs=>?_⟩
  obtain ⟨bs,rfl,hbp⟩:=Zco hpm
  have hnd:bs.Nodup:=hbp.nodup_iff.mpr I.nd
  have hmem:∀ b,b∈bs↔b≠0/\WN nds R b:=fun b=>by rw [hbp.mem_iff];exact I.done h0 b
  have hl2H:H l2=none:=Xt s2 hl2
  refine q l2 bs _ hl2H (s2.trans (Zl hl2 _)) ⟨Zcu hs hnd,hmem⟩ (by rw [hbp.length_eq];omega) ?_
  rw [Ze,map_map];rfl
 ·rw [List.concat_eq_append] at *
  rw [show (!decide ((L++[a]).map iN=[]))=true by simp]
  refine Yx ⟨_,fun σ' H' h=>h,?_⟩
  refine zs2 ?_
  intro zD zS zN1
  refine ⟨_,rfl,.inl ⟨rfl,_,SqL.of el2⟩,l,_,iN a,rfl,rfl,el2,?_,?_⟩
  ·simp
  rw [show ((L++[a]).map iN).dropLast=L.map iN by simp]
  have lf:∀ c,Same H (upd H2 l c):=fun c b o e=>by rw [Zi (Zn e hl0)];exact s2 _ _ e
  have hd0:H d=none:=hd
  have ma:=UC (nds:=nds) L [a]
  have m1:Yt nds [a]=Yc nds 5 a:=by show Yc nds 5 a+0=_;omega
  have mp:=ZbG (nds:=nds) 5 a
  have ed1:∀ c,(upd H2 l c) d=some (.dK (ks.map kT)):=fun c=>by rw [Zi hld.symm];exact ed
  refine ⟨_,rfl,rfl,_,rfl,Yp (fun c=>?_) (fun c=>?_)⟩
  ·have ha : a≠0:=fun z=>by rw [z] at c;exact absurd c (by decide)
   refine ⟨_,rfl,_,rfl,d,_,rfl,DGet.k (k:=Sum.inl (a:Int)) (ed1 _),_,rfl,Yp (fun c2=>?_) (fun c2=>?_)⟩
   ·rw [ZgA] at c2
    have hn:a ∉ ks:=of_decide_eq_false (by simpa using c2)
    refine ⟨_,rfl,_,rfl,d,_,rfl,DPut.k (k:=Sum.inl (a:Int)) (ed1 _) (by rw [length_map,sizeLine_eq];omega),?_⟩
    have eput:ZQ (ks.map kT) (Sum.inl (a:Int)) (.bl true)=(ks++[a]).map kT:=by
     unfold ZQ
     rw [if_neg]
     ·rw [map_append];rfl
     ·intro z
      obtain ⟨q,hq,e⟩:=List.any_eq_true.mp z
      obtain ⟨b,hb,rfl⟩:=mem_map.mp hq
      have:(Sum.inl (b:Int):Zk)=Sum.inl (a:Int):=of_decide_eq_true e
      exact hn (by rw [<- Int.ofNat.inj (Sum.inl.inj this)];exact hb)
    rw [eput]
    have hra:=I.lf a (mem_append_right _ mem_cons_self)
    obtain ⟨n,hn9⟩:=hR.node hra
    generalize hE:upd (upd H2 l (.lst (L.map iN))) d _=H3
    have s3:Same H H3:=fun b o e=>by rw [<- hE,Zi (Zn e hd0)];exact lf _ _ _ e
    have ed3:H3 d=some (.dK ((ks++[a]).map kT)):=by rw [<- hE];exact Ze
    have el3:H3 l=some (.lst (L.map iN)):=by rw [<- hE,Zi hld];exact Ze
    clear hE
    have St3:=Up.up St s3
    obtain ⟨_,ln3,dt3,SA3⟩:=id St3
    obtain ⟨dx3,ob3⟩:=SA3.ob
    refine ⟨_,rfl,st,dx3,_,rfl,ob3,ZN ln3 dt3 (by decide +kernel) (by decide +kernel),_,rfl,st,nds,tabs,a,n,rfl,St3,hn9,fun na hna=>?_⟩
    have hms2:Yt nds n.parts < Yc nds 5 a:=by
     cases n with
     | fork qs=>rw [(hR.fork hra hn9).1];show Yt nds qs < 1+Yt nds qs;omega
     | bare=>exact mp
     | leaf _ _=>exact mp
    have mb:=UC (nds:=nds) L n.parts
    have hll:=ZeJ (nds:=nds) (L++n.parts)
    rw [length_append] at hll
    have fin:∀ pt H4,Same H3 H4->SqT K H4 pt (n.parts.map iN)->ZdD K (.ref l) [.ref pt] H4 fun x H'=>∃ m',m' < Yt nds (L++[a])/\∃ (left ks:List Nat) (x4 x5:Option V),[some (V.ref st),some (.ref tl),some (.ref d),some (.ref l),some (iN a),some (.ref na)]=[some (.ref st),some (.ref tl),some (.ref d),some (.ref l),x4,x5]/\Same H H'/\H' d=some (.dK (ks.map kT))/\H' l=some (.lst (left.map iN))/\RcI nds R left ks/\Yt nds left<=6825/\m'=Yt nds left:=fun pt H4 s4 hpt=>by
     refine ⟨l,pt,_,_,rfl,rfl,s4 _ _ el3,hpt,?_,?_⟩
     ·rw [length_map,length_map];omega
     ·refine ⟨Yt nds (L++n.parts),by omega,L++n.parts,ks++[a],_,_,rfl,fun b o e=>by rw [Zi (Zn e hl0)];exact s4 _ _ (s3 _ _ e),by rw [Zi hld.symm];exact s4 _ _ ed3,by rw [Ze,map_append],I.take ha hn (fun qs e=>?_) (fun q hq=>?_),by omega,rfl⟩
      ·rw [hn9] at e;cases e;rfl
      ·cases n with
       | fork qs=>exact ⟨qs,hn9,hq⟩
       | bare=>cases hq
       | leaf _ _=>cases hq
    cases n with
    | fork qs =>
     obtain ⟨t,e,et,h4⟩:=hna
     refine ⟨_,rfl,.inl ⟨rfl,_,SqL.of el3⟩,_,rfl,na,_,_,_,rfl,rfl,e,rfl,rfl,_,rfl,Yx ?_⟩
     refine ⟨_,rfl,na,_,_,_,rfl,rfl,e,rfl,fin t H3 (fun _ _ h=>h) et⟩
    | bare =>
     refine ⟨_,rfl,.inl ⟨rfl,_,SqL.of el3⟩,_,rfl,na,_,_,_,rfl,rfl,hna,rfl,rfl,_,rfl,?_⟩
     rw [nbf]
     refine ZR fun pt o hpt _=>fin pt _ (Zl hpt _) (.inl (.inr ⟨o,Ze⟩))
    | leaf m ps =>
     obtain ⟨t,e,_⟩:=hna
     refine ⟨_,rfl,.inl ⟨rfl,_,SqL.of el3⟩,_,rfl,na,_,_,_,rfl,rfl,e,rfl,rfl,_,rfl,?_⟩
     rw [nlf]
     refine ZR fun pt o hpt _=>fin pt _ (Zl hpt _) (.inl (.inr ⟨o,Ze⟩))
   ·rw [ZgA] at c2
    have hk:a∈ks:=of_decide_eq_true (by simpa using c2)
    exact ⟨Yt nds L,by omega,L,ks,_,_,rfl,lf _,ed1 _,Ze,I.skip (.inr hk),by omega,rfl⟩
  ·refine ZR ?_
   have ha:a=0:=by
    have:¬ (!decide (V.int (a:Int)=V.int 0))=true:=c
    simp at this
    omega
   exact ⟨Yt nds L,by omega,L,ks,_,_,rfl,lf _,ed1 _,Ze,I.skip (.inl ha),by omega,rfl⟩
end
abbrev WT (bs:List Nat):PyData:=.list ((bs.map fun (a:Nat)=>(a:Int)).map PyData.int)
theorem Uk {H:Hp}{a:Addr}{bs:List Nat}(e:H a=some (.lst (bs.map iN)))(hb:∀ b∈bs,b<=5000)(hl:bs.length<=1000):DataOf H (.ref a) (WT bs)/\(WT bs).showable=true/\(WT bs).shown.length<=sizeLine/\(WT bs).depth<=60:=by
 have e':H a=some (.lst ((bs.map fun (a:Nat)=>(a:Int)).map V.int)):=by rw [e,map_map];rfl
 obtain ⟨h1,h2,h3⟩:=Ui e'
 have sm:Sml (WT bs) (2+((bs.map fun (a:Nat)=>(a:Int)).map PyData.int).length * (40+2)) 1:=Zie fun d hd=>by
  obtain ⟨i,hi,rfl⟩:=mem_map.mp hd
  obtain ⟨b,hb',rfl⟩:=mem_map.mp hi
  have:=hb b hb'
  exact ZjS (by show b<=10 ^ 31;omega) 0
 refine ⟨h1,sm.sh,Nat.le_trans sm.ln ?_,h3⟩
 rw [length_map,length_map,sizeLine_eq];omega
theorem Zij (bs:List Nat):PyData.eqv (WT bs) (WT bs)=true:=by
 have:∀ bs:List Nat,PyData.eqvAll ((bs.map fun (a:Nat)=>(a:Int)).map PyData.int) ((bs.map fun (a:Nat)=>(a:Int)).map PyData.int)=true:=fun bs=>by
  induction bs with
  | nil=>rfl
  | cons b r ih=>simp only [map_cons,PyData.eqvAll,ih];simp [PyData.eqv]
 simp only [PyData.eqv];exact this bs
theorem RchL.le {NS:List Str}{nds:List Nd}{R bs:List Nat}(h:RchL nds R bs)(hR:Rts NS nds R)(h9:nds.length<=900):∀ b∈bs,b<=5000:=fun b hb=>by
 have:=hR.lt ((h.2 b).mp hb).2
 omega
theorem FrL.le {NS:List Str}{nds:List Nd}{o t:Nat}{bs:List Nat}(h:FrL nds o t bs)(hR:Rts NS nds [t])(h9:nds.length<=900):∀ b∈bs,b<=5000:=fun b hb=>by
 have:=hR.lt (rchS1.mpr ((h.2 b).mp hb).2.1)
 omega
theorem FrL.eq {nds:List Nd}{o t:Nat}{l l':List Nat}(h:FrL nds o t l)(g:FrL nds o t l'):l=l':=VJ h.1 g.1 fun b=>by rw [h.2 b,g.2 b]
section
variable {P:Program}{w:World}{K:PySem.W.Frag}{mg:Str->Option Value}{base:Heap}{C Pl:Addr}
inductive ZiX (K:PySem.W.Frag)(C:Addr)(vs:List V)(H:Hp)(Q:VK)(w_3:XK):Prop
 | mk (NS:List Str) (p st lt:Addr) (nds:List Nd) (tabs:List (Zk×V)) (n:Nat) (ts:List Nat) (Δ:Rs):(vs=[.ref p,.ref st,.ref lt])->(Sep ((p,Bx n)::(st,Xo K C nds tabs)::(lt,XJ (ts.map iN))::Δ) H)->((∀ t∈ts,(Zy tabs (Sum.inl (t:Int))).isSome=true))->(Rts NS nds ts)->(1<=ts.length)->(ts.length<=100)->(nds.length<=900)->(n<=400000)->(∀ H',Sep ((p,Bx (n+7))::(st,Xo K C nds tabs)::(lt,XJ (ts.map iN))::Δ) H'->Q (.bl true) H')->ZiX K C vs H Q w_3
abbrev nLL:List Str:=["_law_box_here","_law_store","_law_tables","_law_some","_law_handed","_law_due","_law_turn","_law_found"]
abbrev ZiH:List Str:=["_law_box_here","_law_store","_law_tables"]
theorem scLL:Zx nLL ZiH (Zo s_l_lists_right):=⟨rfl,rfl,rfl,by decide +kernel,rfl,by decide +kernel,by decide +kernel⟩
theorem Zmy {f:Addr}{fd:FuncData}(F:Fun K "_law_lists_right" "_law_lists_right" s_l_lists_right f fd)(T:Wa mg)(DT:DTk P w K mg base 1)(DLR:Def P w K mg base 2 "_law_reached" ZfF (ZfR K C))(D_reached:Def P w K mg base 2 "reached" ZfG (ZcR K C)):FnOk P w K mg base ZK 3 f fd ZiH (ZiX K C):=by
 refine F.ok scLL (fun vs H Q E h=>?_) (fun cdv A outer s H vs Q E hr h=>?_)
 ·obtain ⟨NS,p,st,lt,nds,tabs,n,ts,Δ,rfl,_⟩:=h;rfl
 obtain ⟨NS,p,st,lt,nds,tabs,n,ts,Δ,rfl,S,hkn,hts,ht1,ht2,h900,hn,q⟩:=h
 have hr1:=hr.mono (show 1<=2 by decide)
 refine' ⟨?t,?h,?r⟩
 case h =>
  conv=>arg 2;whnf
  with_reducible refine' (Zf ?h1 (Zf ?h2 (Zf (XE ?h3 ?h4 ?h5 ?h6 (Zf ?h7 (Zf (Yf ?h8 (Zj ?h9) ZS) (Zj ?h10))) ?h11) (Zj ?h12))))
  case h1=>exact ZfH (i:=3) (CompOk.of nLL s_l_lists_right rfl rfl (by decide +kernel)) rfl scLL.nd rfl (Or.inl rfl) (YN rfl T.range (Zc (Zu DT hr1 (Zc (pv 0) (Zc Zd Za))) Za))  (fun _ _ _ _ _=>ZA (Zia (K:=K) rfl) (pv 2) (Zu DT hr1 (Zc (pv 0) (Zc (ZE (Zca (K:=K) rfl) rfl T.len PySem.boot_len (Zc (pv 2) Za)) Za))) (fun _ _=>rfl)) rfl
  case h2=>exact Xf (i:=4) (j:=5) rfl scLL.nd rfl rfl (by decide) rfl rfl (Zc (ZP YT rfl T.list (by decide +kernel) (Zc (pv 3) Za)) (Zc (Zu DLR hr (Zc (pv 1) (Zc (pv 3) Za))) Za)) rfl
  case h3=>exact PassesOwn.never
  case h4=>exact rfl
  case h5=>exact YN rfl T.range (Zc Zd Za)
  case h6=>exact Yh (i:=6) scLL.nd rfl (Or.inl rfl)
  case h7=>exact Zz (i:=7) scLL.nd rfl (Or.inl rfl) (Zu D_reached hr (Zc (pv 1) (Zc (pv 4) Za)))
  case h8=>exact PW.pt (ZfI (ZF Vb (ZE (Xa hr.gd hr.units) rfl T.repr (by decide +kernel) (Zc (pv 7) Za)) (ZE (Xa hr.gd hr.units) rfl T.repr (by decide +kernel) (Zc (pv 5) Za)) (ZI _)) (ZdC (ZF (ZlA hr.units) (pv 4) (pv 3) (ZI _))))
  case h9=>exact Zw XG
  case h10=>exact YJ (Wo PySem.F.plainAttrs_list PySem.F.slot_list_append PySem.F.type_list_append Xs (pv 7) (Zc Zd Za))
  case h11=>exact fun _=>rfl
  case h12=>exact Zw (UE YH (ZE (Xa hr.gd hr.units) rfl T.repr (by decide +kernel) (Zc (Zu D_reached hr (Zc (pv 1) (Zc (ZP Vi rfl T.tuple (by decide +kernel) (Zc (pv 3) Za)) Za))) Za)) (ZE (Xa hr.gd hr.units) rfl T.repr (by decide +kernel) (Zc (pv 5) Za)) (ZI _))
 try dsimp only [Yo,Cx.nox]
 refine zs4 ?_
 intro zD zS zN3 zN2 zN1
 refine ⟨_,rfl,p,n,6,_,rfl,S,by omega,by decide,by decide,fun m H1 a0 a1 S1=>⟨m,rfl,by omega,by omega,fun D hD=>?_⟩⟩
 refine ZaG (small (show _<=1000 by omega)) (fun i ys H=>∃ R:List Nat,ys=R.map iN/\R.length=i/\(∀ t∈R,t∈ts)/\Sep ((D,XJ ys)::(p,Bx (n+1+i))::(st,Xo K C nds tabs)::(lt,XJ (ts.map iN))::Δ) H) ⟨[],rfl,rfl,by simp,S1.new hD _⟩ ?_ ?_ ?_
 ·rintro i ys H ⟨R,rfl,rfl,_⟩;exact length_map _
 ·rintro i ys H hi ⟨R,rfl,rfl,hR,S2⟩
  refine ⟨_,rfl,_,rfl,_,rfl,_,_,rfl,.inl ⟨_,SqL.of (S2.get lt),rfl⟩,p,_,_,_,rfl,S2.pull p,by omega,by rw [length_map];omega,by rw [length_map];omega,fun r H3 b0 b1 S3=>?_⟩
  rw [length_map] at b1
  obtain ⟨k,rfl⟩:∃ k:Nat,r=(k:Int):=⟨r.toNat,by omega⟩
  obtain ⟨t,et⟩:∃ t,ts[k]?=some t:=⟨_,getElem?_eq_getElem (show k < ts.length by omega)⟩
  refine ⟨lt,_,_,_,rfl,rfl,SqL.of (S3.get lt),ZJ (by rw [getElem?_map,et];rfl),S3.get D,R++[t],by rw [map_append];rfl,by rw [length_append];rfl,fun u hu=>?_,?_⟩
  ·rcases mem_append.mp hu with z | z
   ·exact hR u z
   ·rw [mem_singleton.mp z];exact mem_of_getElem? et
  ·exact ((S3.pull p).pull D).put D _
 rintro ys H2 ⟨R,rfl,hRl,hRm,S2⟩
 have hR5:R.length<=5:=by omega
 have hRt:Rts NS nds R:=fun t ht=>hts t (hRm t ht)
 have hRk:∀ t∈R,(Zy tabs (Sum.inl (t:Int))).isSome=true:=fun t ht=>hkn t (hRm t ht)
 have St:=S2.get st
 have eD:=S2.get D
 refine ⟨_,rfl,D,_,rfl,.inl (SqL.of eD),fun lh hlh=>⟨_,rfl,_,rfl,NS,st,D,nds,tabs,R,rfl,Up.up St (Zl hlh _),SqL.of (Zl hlh _ _ _ eD),hR5,hRt,h900,fun ld bd H3 hld s3 hbd hbl ed=>⟨_,_,rfl,?_⟩⟩⟩
 have elh:H3 lh=some (.lst (R.map iN)):=s3 _ _ Ze
 have s3:Same H2 H3:=(Zl hlh _).trans s3
 have rp:∀ {H':Hp} {l:Addr},H' l=some (.lst (bd.map iN))->_:=fun {H' l} e=>Uk e (hbd.le hRt h900) (by omega)
 refine ⟨2,rfl,by decide,by decide,?_⟩
 refine Xq (fun i σ H'=>∃ x6 x7,σ=[some (.ref p),some (.ref st),some (.ref lt),some (.ref D),some (.ref lh),some (.ref ld),x6,x7]/\Same H3 H') ⟨_,_,rfl,fun _ _ h=>h⟩ ?_ ?_
 ·rintro i σ H4 hi ⟨x6,x7,rfl,s4⟩
  refine zs3 ?_
  intro zD zS zN2 zN1
  refine ⟨_,rfl,_,rfl,NS,st,lh,nds,tabs,R,rfl,Up.up St (s3.trans s4),.inl (SqL.of (s4 _ _ elh)),hRk,hR5,hRt,h900,fun lf bf H5 hlf s5 hbf hbfl ef=>?_⟩
  cases hbf.eq hbd
  obtain ⟨d1,d2,d3,d4⟩:=rp ef
  obtain ⟨g1,_,_,_⟩:=rp (s5 _ _ (s4 _ _ ed))
  obtain ⟨i1,i2,i3⟩:=Ui (H:=H5) (a:=lh) (xs:=R.map fun (a:Nat)=>(a:Int)) (by rw [s5 _ _ (s4 _ _ elh),map_map];rfl)
  obtain ⟨j1,_,_⟩:=Ui (H:=H5) (a:=D) (xs:=R.map fun (a:Nat)=>(a:Int)) (by rw [s5 _ _ (s4 _ _ (s3 _ _ eD)),map_map];rfl)
  refine ⟨_,rfl,_,_,rfl,d1,d2,d3,d4,_,rfl,_,_,rfl,g1,d2,d3,d4,rfl,_,rfl,?_⟩
  refine Yp (fun z=>absurd z (by simp)) (fun _=>?_)
  refine ⟨_,rfl,_,rfl,_,_,i1,j1,i2,i2,i3,_,rfl,?_⟩
  rw [show PyData.eqv _ _=true from Zij R]
  refine ZR ?_
  refine ⟨_,rfl,.inl ⟨rfl,_,SqL.of ef⟩,lf,_,_,rfl,rfl,ef,XU (show _<=1000 by rw [length_map];omega),?_⟩
  exact ⟨_,_,rfl,fun b o e=>by rw [Zi (Zn (s4 _ _ e) hlf)];exact s5 _ _ (s4 _ _ e)⟩
 ·rintro σ H4 ⟨x6,x7,rfl,s4⟩
  refine ⟨_,rfl,_,rfl,D,_,rfl,.inl ⟨SqL.of (s4 _ _ (s3 _ _ eD)),fun tp htp=>?_⟩⟩
  have s5:=s4.trans (Zl htp (.tup (R.map iN)))
  refine ⟨NS,st,tp,nds,tabs,R,rfl,Up.up St (s3.trans s5),.inr (SqT.of Ze),hRk,hR5,hRt,h900,fun lf bf H5 hlf s6 hbf hbfl ef=>?_⟩
  cases hbf.eq hbd
  obtain ⟨d1,d2,d3,d4⟩:=rp ef
  have s7:=s5.trans s6
  obtain ⟨g1,_,_,_⟩:=rp (s7 _ _ ed)
  refine ⟨_,_,rfl,d1,d2,d3,d4,_,rfl,_,_,rfl,g1,d2,d3,d4,rfl,?_⟩
  show Q (.bl (decide (V.str (WT bd).shown=V.str (WT bd).shown))) H5
  rw [decide_eq_true rfl]
  exact q H5 (((((S2.mono (s3.trans s7)).drop D).pull lt).pull st).pull p |>.le (by omega))
inductive ZiW (K:PySem.W.Frag)(C:Addr)(vs:List V)(H:Hp)(Q:VK)(w_3:XK):Prop
 | mk (NS:List Str) (st:Addr) (nds:List Nd) (tabs:List (Zk×V)) (o t:Nat):(vs=[.ref st,iN o,iN t])->(Xo K C nds tabs st H)->((Zy tabs (Sum.inl (o:Int))).isSome=true)->((Zy tabs (Sum.inl (t:Int))).isSome=true)->(Rts NS nds [o])->(Rts NS nds [t])->(nds.length<=900)->(∀ H',Same H H'->Q (.bl true) H')->ZiW K C vs H Q w_3
abbrev nLF:List Str:=["_law_store","_law_old","_law_new","_law_there","_law_due","_law_found"]
abbrev ZiG:List Str:=["_law_store","_law_old","_law_new"]
theorem scLF:Zx nLF ZiG (Zo s_l_fresh_right):=⟨rfl,rfl,rfl,by decide +kernel,rfl,by decide +kernel,by decide +kernel⟩
theorem Zmx {f:Addr}{fd:FuncData}(F:Fun K "_law_fresh_right" "_law_fresh_right" s_l_fresh_right f fd)(T:Wa mg)(DLR:Def P w K mg base 3 "_law_reached" ZfF (ZfR K C))(D_fresh:Def P w K mg base 3 "fresh" ZfE (ZcQ K C)):FnOk P w K mg base ZK 4 f fd ZiG (ZiW K C):=by
 refine F.ok scLF (fun vs H Q E h=>?_) (fun cdv A outer s H vs Q E hr h=>?_)
 ·obtain ⟨NS,st,nds,tabs,o,t,rfl,_⟩:=h;rfl
 obtain ⟨NS,st,nds,tabs,o,t,rfl,St,ho,ht,hRo,hRt,h900,q⟩:=h
 refine' ⟨?t,?h,?r⟩
 case h =>
  conv=>arg 2;whnf
  with_reducible refine' (Zf ?h1 (Zf ?h2 (Zf (Yf ?h3 (Zj ?h4) ZS) (Zf ?h5 (Zj ?h6)))))
  case h1=>exact WV (Zbe (Zc (Zu DLR hr (Zc (pv 0) (Zc (YX (Zc (pv 1) Za)) Za))) (Zc (Zu DLR hr (Zc (pv 0) (Zc (YX (Zc (pv 2) Za)) Za))) Za))) (Zdx rfl (We (Yh (i:=3) scLF.nd rfl (Or.inr rfl)) (We (Yh (i:=4) scLF.nd rfl (Or.inl rfl)) ZbL)))
  case h2=>exact Zz (i:=5) scLF.nd rfl (Or.inl rfl) (Zu D_fresh hr (Zc (pv 0) (Zc (pv 1) (Zc (pv 2) Za))))
  case h3=>exact ZF Vb (ZE (Xa hr.gd hr.units) rfl T.repr (by decide +kernel) (Zc (pv 5) Za)) (ZE (Xa hr.gd hr.units) rfl T.repr (by decide +kernel) (Zc (Zdw (CompOk.of nLF s_l_fresh_right rfl rfl (by decide +kernel)) rfl (UF (pv 4)) (fun _ _ _ _ _=>ZF (Vk (K:=K) rfl) (pv 6) (pv 3) rfl) (fun _ _ _ _ _=>pv 6)) Za)) (ZI _)
  case h4=>exact Zw XG
  case h5=>exact YJ (Wo PySem.F.plainAttrs_list PySem.F.slot_list_append PySem.F.type_list_append Xs (pv 5) (Zc Zd Za))
  case h6=>exact Zw XG
 try dsimp only [Yo,Cx.nox]
 refine zs5 ?_
 intro zD zS zN4 zN3 zN2 zN1
 refine ⟨_,rfl,_,rfl,(by show 1<=sizeLine;decide),fun l1 hl1=>?_⟩
 have s1:=Zl hl1 (.lst [iN o])
 refine ⟨NS,st,l1,nds,tabs,[o],rfl,Up.up St s1,SqL.of Ze,by simp,hRo,h900,fun lk bk H2 hlk s2 hbk hbkl ek=>?_⟩
 have s2:=s1.trans s2
 refine ⟨_,rfl,_,rfl,(by show 1<=sizeLine;decide),fun l2 hl2=>?_⟩
 have s3:=Zl hl2 (.lst [iN t])
 have ek:=s3 _ _ ek
 have s3:=s2.trans s3
 refine ⟨NS,st,l2,nds,tabs,[t],rfl,Up.up St s3,SqL.of Ze,by simp,hRt,h900,fun lb bb H4 hlb s4 hbb hbbl eb=>?_⟩
 have ek:=s4 _ _ ek
 have s4:=s3.trans s4
 refine ⟨(by show 2<=sizeLine;decide),fun tp htp=>⟨tp,_,rfl,SqT.of Ze,rfl,_,_,rfl,_,_,rfl,rfl,?_⟩⟩
 have s5:=Zl htp (.tup [.ref lk,.ref lb])
 have ek:=s5 _ _ ek
 have eb:=s5 _ _ eb
 have s5:=s4.trans s5
 refine ⟨_,rfl,_,rfl,_,rfl,NS,st,nds,tabs,o,t,rfl,Up.up St s5,ho,ht,hRo,hRt,h900,fun lf bf H6 hlf s6 hbf hbfl ef=>?_⟩
 have ek:=s6 _ _ ek
 have eb:=s6 _ _ eb
 have s6:=s5.trans s6
 obtain ⟨d1,d2,d3,d4⟩:=Uk ef (hbf.le hRt h900) (by omega)
 have hl0:H lf=none:=Xt s5 hlf
 refine ⟨_,rfl,_,_,rfl,d1,d2,d3,d4,_,rfl,lb,rfl,⟨_,SqL.of eb⟩,fun D hD=>?_⟩
 have hD0:H D=none:=Xt s6 hD
 refine UT (K:=K) (xs:=bb.map iN) (small (show _<=1000 by rw [length_map];omega)) (fun i ys H'=>Same H6 H'/\H' D=some (.lst ys)/\ys=((bb.take i).filter fun b=>!decide (b∈bk)).map iN) ⟨Zl hD _,Ze,rfl⟩ ?_ ?_ ?_
 ·rintro i ys H' ⟨s7,_,rfl⟩
  refine ⟨?_,SqL.of (s7 _ _ eb)⟩
  rw [length_map]
  exact Nat.le_trans (length_filter_le _ _) (by rw [length_take];omega)
 ·rintro i v ys H' hv ⟨s7,eD,rfl⟩
  rw [getElem?_map] at hv
  obtain ⟨b,eb9,rfl⟩:=Option.map_eq_some_iff.mp hv
  refine ⟨_,rfl,_,rfl,lk,_,rfl,.inl (SqL.of (s7 _ _ ek)),rfl,Zce bk,_,rfl,?_⟩
  rw [Zdm,List.take_succ,eb9,List.filter_append,map_append]
  refine Yp (fun c=>?_) (fun c=>?_)
  ·refine ⟨_,rfl,eD,fun b o q=>by rw [Zi (Zn q hD)];exact s7 _ _ q,Ze,?_⟩
   show _=_++(List.filter _ [b]).map iN
   rw [filter_cons,if_pos (show (!decide (b∈bk))=true from c)];rfl
  ·refine ⟨s7,eD,?_⟩
   show _=_++(List.filter _ [b]).map iN
   rw [filter_cons,if_neg (show ¬ (!decide (b∈bk))=true from c)];simp
 rintro ys H7 ⟨s7,eD,rfl⟩
 rw [length_map,take_of_length_le (Nat.le_refl _)] at eD
 have hfr:=hbf.eq (hbk.fr hbb)
 rw [<- hfr] at eD
 obtain ⟨g1,_,_,_⟩:=Uk eD (hbf.le hRt h900) (by omega)
 refine ⟨_,_,rfl,g1,d2,d3,d4,rfl,_,rfl,Yp (fun z=>absurd z (by simp)) (fun _=>?_)⟩
 have ef7:=s7 _ _ ef
 refine ⟨_,rfl,.inl ⟨rfl,_,SqL.of ef7⟩,lf,_,_,rfl,rfl,ef7,XU (show _<=1000 by rw [length_map];omega),?_⟩
 exact q _ fun b o e=>by rw [Zi (Zn e hl0)];exact s7 _ _ (s6 _ _ e)
end
theorem ZlT (L k:Nat):(List.range' L k).map (fun n:Nat=>(n:Int))=Wv (L:Int) k:=by
 unfold Wv
 rw [List.range'_eq_map_range,map_map]
 exact List.map_congr_left fun i _=>by show ((L+i:Nat):Int)=_;omega
theorem WdS.rts {NS:List Str}{nds:List Nd}{tabs:List (Zk×V)}{ts:List Nat}{pss:List (List (Str×V))}(W:WdS NS nds tabs ts pss):(∀ t∈ts,(Zy tabs (Sum.inl (t:Int))).isSome=true)/\Rts NS nds ts:=by
 have one:∀ t∈ts,(Zy tabs (Sum.inl (t:Int))).isSome=true/\∃ F,Tri NS nds F 5 0 0 t:=fun t ht=>by
  obtain ⟨i,hi⟩:=mem_iff_getElem?.mp ht
  obtain ⟨t',ps,e1,_,tk,tri,_⟩:=W.at (List.getElem?_eq_some_iff.mp hi).1
  rw [hi] at e1;cases e1
  exact ⟨tk,_,tri⟩
 exact ⟨fun t ht=>(one t ht).1,fun t ht=>(one t ht).2⟩
section
variable {P:Program}{w:World}{K:PySem.W.Frag}{mg:Str->Option Value}{base:Heap}{C Pl:Addr}
inductive Zbm (K:PySem.W.Frag)(Pl:Addr)(vs:List V)(H:Hp)(Q:VK)(w_3:XK):Prop
 | mk (a:Addr) (ns:List Int):(vs=[.ref a])->(SqL K H a (ns.map V.int))->(ns.length<=63)->(LamAt H Pl YD XH)->(∀ H',Q (.bl true) H')->Zbm K Pl vs H Q w_3
abbrev nLw:List Str:=["_law_script","_law_k","_law_box_here","_law_store","_law_names_here","_law_tables","_law_dicts","_law_turn","_law_before","_law_at","_law_name","_law_to"]
abbrev pnLw:List Str:=["_law_script"]
theorem scLw:Zx nLw pnLw (Zo s_law):=⟨rfl,rfl,rfl,by decide +kernel,rfl,by decide +kernel,by decide +kernel⟩
theorem Zlv {f:Addr}{fd:FuncData}(F:Fun K "law" "law" s_law f fd)(T:Wa mg)(TC:YR K C)(DB:Def P w K mg base 10 "_law_box" ["_law_script","_law_k"] (Zbl K))(DT:DTk P w K mg base 1)(DN:Def P w K mg base 10 "_law_names" ["_law_box_here","_law_many"] Ve)(DDe:Def P w K mg base 10 "_law_deed" ZiE (ZdI K C Pl))(D_fresh:Def P w K mg base 10 "fresh" ZfE (ZcQ K C))(DLF:Def P w K mg base 10 "_law_fresh_right" ZiG (ZiW K C))(DLL:Def P w K mg base 10 "_law_lists_right" ZiH (ZiX K C))
 (DSto:ZhD P w K mg base 9 C "Store" ["self"] (VN K C)) (DS_made:DefM P w K mg base 10 C "made" ["self"] (ZdK K C)):FnOk P w K mg base ZK 11 f fd pnLw (Zbm K Pl):=by
 refine F.ok scLw (fun vs H Q E h=>?_) (fun cdv A outer s H vs Q E hr h=>?_)
 ·obtain ⟨a,ns,rfl,_⟩:=h;rfl
 obtain ⟨a,ns,rfl,hS,h63,hL,q⟩:=h
 have S:Sep [(Pl,Uo),(a,ScR K ns)] H:=Zku hL ⟨_,fun b o e=>e,Zky hL hS,trivial⟩
 have hr1:=hr.mono (show 1<=10 by decide)
 refine' ⟨?t,?h,?r⟩
 case h =>
  conv=>arg 2;whnf
  with_reducible refine' (Zf (XE ?h1 ?h2 ?h3 ?h4 (Zf ?h5 (Zf ?h6 (Zf ?h7 (Zj (XE ?h8 ?h9 ?h10 ?h11 (Zf ?h12 (Zf ?h13 (Zf (Yf ?h14 (Zj ?h15) ZS) (Zf ?h16 (Zj (Yf ?h17 (Zj ?h18) ZS)))))) ?h19))))) ?h20) (Zj ?h21))
  case h1=>exact PassesOwn.never
  case h2=>exact rfl
  case h3=>exact YN rfl T.range (Zc (Zq ZZ Zd (ZE (Zcb rfl) rfl T.min (by decide +kernel) (Zc Zd (Zc (ZE ZU rfl T.len PySem.boot_len (Zc (pv 0) Za)) Za)))) Za)
  case h4=>exact Yh (i:=1) scLw.nd rfl (Or.inl rfl)
  case h5=>exact Xf (i:=2) (j:=3) rfl scLw.nd rfl rfl (by decide) rfl rfl (Zc (Zu DB hr (Zc (pv 0) (Zc (pv 1) Za))) (Zc (ZmE DSto hr) Za)) rfl
  case h6=>exact Zz (i:=4) scLw.nd rfl (Or.inl rfl) (Zu DN hr (Zc (pv 2) (Zc (Zq ZZ Zd (Zu DT hr1 (Zc (pv 2) (Zc Zd Za)))) Za)))
  case h7=>exact Xf (i:=5) (j:=6) rfl scLw.nd rfl rfl (by decide) rfl rfl (Zc (YX (Zc Zd Za)) (Zc (YX (Zc Zau Za)) Za)) rfl
  case h8=>exact PassesOwn.never
  case h9=>exact rfl
  case h10=>exact YN rfl T.range (Zc (Zq ZZ Zd (Zu DT hr1 (Zc (pv 2) (Zc Zd Za)))) Za)
  case h11=>exact Yh (i:=7) scLw.nd rfl (Or.inl rfl)
  case h12=>exact Zz (i:=8) scLw.nd rfl (Or.inl rfl) (Zju DS_made TC.cl hr (pv 3))
  case h13=>exact WV (Zu DDe hr (Zc (pv 2) (Zc (pv 3) (Zc (pv 4) (Zc (pv 5) (Zc (pv 6) Za)))))) (Zdx rfl (We (Yh (i:=9) scLw.nd rfl (Or.inl rfl)) (We (Yh (i:=10) scLw.nd rfl (Or.inl rfl)) ZbL)))
  case h14=>exact ZF Vb (ZE (Xa hr.gd hr.units) rfl T.repr (by decide +kernel) (Zc (Zu D_fresh hr (Zc (pv 3) (Zc (ZA ZD (pv 5) (pv 9) (fun _ _=>rfl)) (Zc (ZA ZD (pv 5) (ZcN Zbs Zd) (fun _ _=>rfl)) Za)))) Za)) (ZE (Xa hr.gd hr.units) rfl T.repr (by decide +kernel) (Zc (ZP (ZcG rfl) rfl T.list (by decide +kernel) (Zc (ZP Zec rfl T.range (by decide +kernel) (Zc (pv 8) (Zc (Zju DS_made TC.cl hr (pv 3)) Za))) Za)) Za)) (ZI _)
  case h15=>exact Zw XG
  case h16=>exact Zz (i:=11) scLw.nd rfl (Or.inl rfl) (Zu DT hr1 (Zc (pv 2) (Zc (ZE ZU rfl T.len PySem.boot_len (Zc (pv 5) Za)) Za)))
  case h17=>exact PW.pt (ZfI (ZdA (UG (Zu DLF hr (Zc (pv 3) (Zc (ZA ZD (pv 5) (pv 11) (fun _ _=>rfl)) (Zc (ZA ZD (pv 5) (ZcN Zbs Zd) (fun _ _=>rfl)) Za)))))) (ZdC (ZdA (UG (Zu DLL hr (Zc (pv 2) (Zc (pv 3) (Zc (pv 5) Za))))))))
  case h18=>exact Zw XG
  case h19=>exact fun _=>rfl
  case h20=>exact fun _=>rfl
  case h21=>exact Zw XG
 try dsimp only [Yo,Cx.nox]
 refine zs2 ?_
 intro zD zS zN1
 refine ⟨_,rfl,a,_,rfl,.inl hS,_,_,rfl,_,_,rfl,rfl,?_⟩
 rw [length_map]
 generalize hm:(1:Int)+(if ((ns.length:Nat):Int) < 1 then ((ns.length:Nat):Int) else 1)=m
 have hm9:0<=m/\m<=9:=by rw [<- hm];split<;>omega
 refine ⟨m,(by first | rfl | exact congrArg (fun z=>[V.int z]) hm),by omega,by omega,?_⟩
 refine Xq (fun i σ H'=>∃ x1 x2 x3 x4 x5 x6 x7 x8 x9 x10 x11,σ=[some (.ref a),x1,x2,x3,x4,x5,x6,x7,x8,x9,x10,x11]/\Sep [(Pl,Uo),(a,ScR K ns)] H') ⟨_,_,_,_,_,_,_,_,_,_,_,rfl,S⟩ ?_ ?_
 ·rintro i σ H1 hi ⟨x1,x2,x3,x4,x5,x6,x7,x8,x9,x10,x11,rfl,S1⟩
  refine ⟨_,rfl,_,rfl,a,ns,_,_,rfl,S1.get a,S1,by omega,by omega,fun p H2 s2 S2=>?_⟩
  intro st dx hst hdx hne2
  refine ⟨st,dx,_,_,rfl,rfl,hst,hdx,hne2,S2,fun H3 s3 S3=>⟨rfl,_,_,rfl,?_⟩⟩
  refine ⟨_,rfl,_,rfl,p,0,27,_,rfl,S3.pull p,by decide,by decide,by decide,fun r1 H4 a0 a1 S4=>⟨_,_,rfl,rfl,p,_,_,_,rfl,S4,by omega,by omega,by omega,fun nl H5 NS S5 hl50 hne5 hN=>?_⟩⟩
  have N:=Zmv hl50 hN
  have hNe:NS≠[]:=hne5 (by omega)
  have hNl:NS.length<=50:=hl50
  refine ⟨(by show 1<=sizeLine;decide),fun lt hlt=>fun d0 hd0=>⟨(by show 1<=sizeLine;decide),fun ld hld=>?_⟩⟩
  generalize hE:upd (upd (upd H5 lt _) d0 _) ld _=H6
  have S6:=((S5.new hlt _).new hd0 _).newE hld hE
  clear hE
  have S7:Sep ((ld,DicL [[]])::(lt,XJ [V.int 0])::(nl,XJ (NS.map V.str))::(p,Bx (0+1+3000))::(st,Xo K C [.bare] [(Sum.inl 0,.bl true)])::[(Pl,Uo),(a,ScR K ns)]) H6:=by
   refine Sep.pack (Γ:=[(ld,XJ [V.ref d0]),(d0,Dic [])]) ((S6.pull d0).pull ld) fun h G=>?_
   refine ⟨[d0],G.get ld,rfl,fun i d ps e1 e2=>?_⟩
   cases i with
   | zero=>cases e1;cases e2;exact G.get d0
   | succ i=>simp at e1
  refine ⟨_,_,rfl,_,rfl,p,_,31,_,rfl,S7.pull p,by decide,by decide,by decide,fun m2 H9 c0 c1 S11=>⟨_,_,rfl,rfl,10+m2,rfl,by omega,by omega,?_⟩⟩
  have W0:WdS NS [.bare] [(Sum.inl 0,.bl true)] [0] [[]]:=⟨rfl,fun i t ps e1 e2=>by
   cases i with
   | zero=>cases e1;cases e2;exact ⟨rfl,tri0 rfl,Zmr⟩
   | succ i=>simp at e1⟩
  refine Xq (fun i σ H'=>∃ x1 x7 x8 x9 x10 x11 nds tabs n ts pss,σ=[some (.ref a),x1,some (.ref p),some (.ref st),some (.ref nl),some (.ref lt),some (.ref ld),x7,x8,x9,x10,x11]/\Sep ((p,Bx n)::(st,Xo K C nds tabs)::(Pl,Uo)::(nl,XJ (NS.map V.str))::(lt,XJ (ts.map iN))::(ld,DicL pss)::[(a,ScR K ns)]) H'/\WdS NS nds tabs ts pss/\ts.length=i+1/\nds.length<=1+6 * i/\tabs.length<=1+i/\n<=3100+100 * i)
   ⟨_,_,_,_,_,_,_,_,_,[0],[[]],rfl,(((((S11.pull ld).pull lt).pull nl).pull Pl).pull st).pull p,W0,by decide,by decide,by decide,by decide⟩ ?_ ?_
  ·rintro j σ H10 hj ⟨x1,x7,x8,x9,x10,x11,nds,tabs,n,ts,pss,rfl,S12,W,hts,hnd,htb,hn⟩
   have hj61:j < 41:=by omega
   have hb0:nds[0]?=some .bare:=(S12.get st).1
   refine zs5 ?_
   intro zD zS zN4 zN3 zN2 zN1
   obtain ⟨_,ln2,dt2,SA2⟩:=S12.get st
   obtain ⟨dx2,ob2⟩:=SA2.ob
   refine ⟨_,rfl,st,dx2,_,rfl,ob2,ZN ln2 dt2 (by decide +kernel) (by decide +kernel),st,nds,tabs,rfl,S12.get st,?_⟩
   refine ⟨_,rfl,_,rfl,_,rfl,_,rfl,_,rfl,NS,p,st,nl,lt,ld,nds,tabs,n,ts,pss,_,rfl,N,hN,hNl,hNe,(((((S12.pull ld).pull lt).pull nl).pull Pl).pull st).pull p,W,by omega,by omega,by omega,by omega,by omega,fun k x t t' ps ps' nds' tabs' tp H11 hk et eps hx dd W2 ext len tl mono S13=>?_⟩
   refine ⟨tp,_,rfl,SqT.of (S13.get tp),rfl,_,_,rfl,_,_,rfl,rfl,?_⟩
   have S14:=(((((((S13.drop tp).pull ld).pull lt).pull nl).pull Pl).pull st).pull p)
   have hl2:(ts++[t']).length=ts.length+1:=by rw [length_append];rfl
   have et2:(ts++[t'])[k]?=some t:=by rw [getElem?_append_left hk];exact et
   have ef2:(ts++[t'])[ts.length]?=some t':=by rw [getElem?_append_right (Nat.le_refl _),Nat.sub_self];rfl
   have hat1:YA ((ts++[t']).map iN) ((k:Nat):Int)=some (iN t):=ZJ (by rw [getElem?_map,et2];rfl)
   have hat2:YA ((ts++[t']).map iN) (-1)=some (iN t'):=by rw [map_append];exact Zdb _ _
   obtain ⟨kn,rts⟩:=W2.rts
   have one:∀ u,u∈ts++[t']->Rts NS nds' [u]:=fun u hu z hz=>by rw [mem_singleton.mp hz];exact rts u hu
   have m1:=mem_of_getElem? et2
   have m2:=mem_of_getElem? ef2
   obtain ⟨_,tri0',_⟩:=W.each k t ps et eps
   obtain ⟨wsO,eO,_,hwO,_⟩:=XX N tri0' hx
   have M:=dd.rch N hx hb0 tri0' (ZdY hwO)
   obtain ⟨_,ln3,dt3,SA3⟩:=S14.get st
   refine ⟨_,rfl,_,rfl,_,rfl,lt,_,_,_,rfl,rfl,SqL.of (S14.get lt),hat1,_,rfl,_,rfl,lt,_,_,_,rfl,rfl,SqL.of (S14.get lt),hat2,NS,st,nds',tabs',t,t',rfl,S14.get st,kn _ m1,kn _ m2,one _ m1,one _ m2,by omega,fun lf bf H12 hlf s12 hbf hbfl ef=>?_⟩
   obtain ⟨F2,tri2⟩:=rts t' m2
   have ebf:=ZhU M ext (List.length_pos_iff.mpr fun z=>by rw [z] at hb0;cases hb0) (XY tri2) hbf
   obtain ⟨d1,d2,d3,d4⟩:=Uk ef (hbf.le (one _ m2) (by omega)) (by omega)
   have S15:=S14.mono s12
   obtain ⟨_,ln4,dt4,SA4⟩:=S15.get st
   obtain ⟨dx4,ob4⟩:=SA4.ob
   refine ⟨_,_,rfl,d1,d2,d3,d4,_,rfl,_,rfl,st,dx4,_,rfl,ob4,ZN ln4 dt4 (by decide +kernel) (by decide +kernel),st,nds',tabs',rfl,S15.get st,_,_,rfl,fun r hr9=>⟨r,_,_,rfl,Ze,by omega,by omega,by omega,by omega,by omega,fun l hl=>?_⟩⟩
   have S16:=(S15.mono (Zl hr9 _)).mono (Zl hl (.lst ((Wv (nds.length:Int) ((nds'.length:Int) - (nds.length:Int)).toNat).map V.int)))
   have g1:=(Ui (H:=upd (upd H12 r (.rng (nds.length:Int) (nds'.length:Int))) l (.lst ((Wv (nds.length:Int) ((nds'.length:Int) - (nds.length:Int)).toNat).map V.int))) Ze).1
   have eD:WT bf=.list ((Wv (nds.length:Int) ((nds'.length:Int) - (nds.length:Int)).toNat).map PyData.int):=by
    unfold WT
    rw [ebf,ZlT,show ((nds'.length:Int) - (nds.length:Int)).toNat=nds'.length - nds.length by omega]
   rw [<- eD] at g1
   refine ⟨_,_,rfl,g1,d2,d3,d4,rfl,_,rfl,Yp (fun z=>absurd z (by simp)) (fun _=>?_)⟩
   refine ⟨_,rfl,_,rfl,lt,_,rfl,.inl (SqL.of (S16.get lt)),p,_,_,_,rfl,S16,by omega,by rw [length_map];omega,by rw [length_map];omega,fun r2 H15 b0 b1 S17=>?_⟩
   rw [length_map] at b1
   obtain ⟨k5,rfl⟩:∃ k:Nat,r2=(k:Int):=⟨r2.toNat,by omega⟩
   obtain ⟨t5,et5⟩:∃ t5,(ts++[t'])[k5]?=some t5:=⟨_,getElem?_eq_getElem (show k5 < (ts++[t']).length by omega)⟩
   have m5:=mem_of_getElem? et5
   refine ⟨_,rfl,_,rfl,_,rfl,lt,_,_,_,rfl,rfl,SqL.of (S17.get lt),ZJ (by rw [getElem?_map,et5];rfl),_,rfl,_,rfl,lt,_,_,_,rfl,rfl,SqL.of (S17.get lt),hat2,NS,st,nds',tabs',t5,t',rfl,S17.get st,kn _ m5,kn _ m2,one _ m5,one _ m2,by omega,fun H16 s16=>⟨_,rfl,Yp (fun z=>absurd z (by decide)) (fun _=>?_)⟩⟩
   have S18:=S17.mono s16
   refine ⟨_,rfl,_,rfl,_,rfl,NS,p,st,lt,nds',tabs',_,ts++[t'],_,rfl,((S18.pull lt).pull st).pull p,kn,rts,by omega,by omega,by omega,by omega,fun H17 S19=>⟨_,rfl,ZR ?_⟩⟩
   exact ⟨_,_,_,_,_,_,nds',tabs',_,ts++[t'],pss++[ps'],rfl,(((((S19.pull ld).pull lt).pull nl).pull Pl).pull st).pull p,W2,by omega,by omega,by omega,by omega⟩
  ·rintro σ H10 ⟨x1,x7,x8,x9,x10,x11,nds,tabs,n,ts,pss,rfl,S12,W,hts,hnd,htb,hn⟩
   exact ⟨_,_,_,_,_,_,_,_,_,_,_,rfl,((((S12.drop p).drop st).drop nl).drop lt).drop ld⟩
 ·rintro σ H1 ⟨x1,x2,x3,x4,x5,x6,x7,x8,x9,x10,x11,rfl,S1⟩
  exact q H1
end
end K13
namespace L2
open PySem
structure FG (K:PySem.W.Frag)(x:Str)(st:Stmt)(f:Addr)(fd:FuncData):Prop where
 a:PySem.W.nsIn K mainGlobals x=some (some (.ref f))
 F:Fun K x x st f fd
structure FM (K:PySem.W.Frag)(C:Addr)(x q:Str)(st:Stmt)(f:Addr)(fd:FuncData):Prop where
 m:Zac K C x f
 F:Fun K x q st f fd
structure FGC (K:PySem.W.Frag)(x:Str)(st:Stmt)(f:Addr)(fd:FuncData)(c Pl:Addr):Prop where
 a:PySem.W.nsIn K mainGlobals x=some (some (.ref f))
 F:FunC K x x st f fd c Pl
structure CH (K:PySem.W.Frag)(x:Str)(C:Addr):Prop where
 a:PySem.W.nsIn K mainGlobals x=some (some (.ref C))
 c:Cls K C
 ms:PySem.W.makesIn K C=true
 kp:PySem.W.keepIn K (.ref C)=true
structure Bs (P:Program)(w:World)(K:PySem.W.Frag)(mg:Str->Option Value)(base h:Heap):Prop where
 X:K.In h
 G:h.Ns mainGlobals mg
section
variable {P:Program}{w:World}{K:PySem.W.Frag}{mg:Str->Option Value}{base h:Heap}{x q:Str}{st:Stmt}{f c Pl C:Addr}{fd:FuncData}{k:Nat}{ps:List Str}{sp:Sp}{p1 p2 p3 p4 p5:Str}
theorem FG.df (g:FG K x st f fd)(e:Bs P w K mg base h)(o:FnOk P w K mg base ZK k f fd ps sp)(b:Binds K fd ps []):Def P w K mg base k x ps sp:=⟨f,fd,o,b,g.F.kp,PySem.W.mg_of e.X e.G g.a⟩
theorem FGC.df (g:FGC K x st f fd c Pl)(e:Bs P w K mg base h)(o:FnOk P w K mg base ZK k f fd ps sp)(b:Binds K fd ps []):Def P w K mg base k x ps sp:=⟨f,fd,o,b,g.F.kp,PySem.W.mg_of e.X e.G g.a⟩
theorem FM.df (g:FM K C x q st f fd)(_:Bs P w K mg base h)(o:FnOk P w K mg base ZK k f fd ps sp)(b:Binds K fd ps []):DefM P w K mg base k C x ps sp:=⟨f,fd,o,b,g.m⟩
theorem FM.di {y:Str}(g:FM K C "__init__" q st f fd)(ch:CH K y C)(e:Bs P w K mg base h)(o:FnOk P w K mg base ZK k f fd ps sp)(b:Binds K fd ps []):ZhD P w K mg base k C y ps sp:=⟨f,fd,o,b,⟨ch.ms,g.m.at_,g.m.fn,ch.kp⟩,PySem.W.mg_of e.X e.G ch.a⟩
abbrev BA (x q:Str)(st:Stmt)(us:List Value)(r:List (Str×Value)):Prop:=∀(kV doc pm:Value)(an:Option Addr)(cdv ct:Value),bindArgs (PySem.W.fnOf x q (VF st) (XL st) (Zo st) .none kV doc pm an cdv ct) ⟨us,[]⟩=pure r
theorem Xc {α:Type}{us:List α}{n:Nat}(h:us.length=n+1):∃ u r,us=u::r/\r.length=n:=by
 cases us with
 | nil=>cases h
 | cons u r=>exact ⟨u,r,rfl,Nat.succ.inj h⟩
theorem Fun.b1 (F:Fun K x q st f fd)(h:∀ u,BA x q st [u] [(p1,u)]):Binds K fd [p1] []:=F.binds fun a b c d e g us B=>by
 obtain ⟨u,us,rfl,C⟩:=Xc B
 cases eq_nil_of_length_eq_zero C;exact h u a b c d e g
theorem Fun.b2 (F:Fun K x q st f fd)(h:∀ u v,BA x q st [u,v] [(p1,u),(p2,v)]):Binds K fd [p1,p2] []:=F.binds fun a b c d e g us B=>by
 obtain ⟨u,us,rfl,C⟩:=Xc B
 obtain ⟨v,us,rfl,D⟩:=Xc C
 cases eq_nil_of_length_eq_zero D;exact h u v a b c d e g
theorem Fun.b3 (F:Fun K x q st f fd)(h:∀ u v y,BA x q st [u,v,y] [(p1,u),(p2,v),(p3,y)]):Binds K fd [p1,p2,p3] []:=F.binds fun a b c d e g us B=>by
 obtain ⟨u,us,rfl,C⟩:=Xc B
 obtain ⟨v,us,rfl,D⟩:=Xc C
 obtain ⟨y,us,rfl,E⟩:=Xc D
 cases eq_nil_of_length_eq_zero E;exact h u v y a b c d e g
theorem Fun.b4 (F:Fun K x q st f fd)(h:∀ u v y z,BA x q st [u,v,y,z] [(p1,u),(p2,v),(p3,y),(p4,z)]):Binds K fd [p1,p2,p3,p4] []:=F.binds fun a b c d e g us B=>by
 obtain ⟨u,us,rfl,C⟩:=Xc B
 obtain ⟨v,us,rfl,D⟩:=Xc C
 obtain ⟨y,us,rfl,E⟩:=Xc D
 obtain ⟨z,us,rfl,W⟩:=Xc E
 cases eq_nil_of_length_eq_zero W;exact h u v y z a b c d e g
theorem Fun.b5 (F:Fun K x q st f fd)(h:∀ u v y z z',BA x q st [u,v,y,z,z'] [(p1,u),(p2,v),(p3,y),(p4,z),(p5,z')]):Binds K fd [p1,p2,p3,p4,p5] []:=F.binds fun a b c d e g us B=>by
 obtain ⟨u,us,rfl,C⟩:=Xc B
 obtain ⟨v,us,rfl,D⟩:=Xc C
 obtain ⟨y,us,rfl,E⟩:=Xc D
 obtain ⟨z,us,rfl,W⟩:=Xc E
 obtain ⟨z',us,rfl,Z⟩:=Xc W
 cases eq_nil_of_length_eq_zero Z;exact h u v y z z' a b c d e g
theorem ZgE (F:Fun K x q st f fd)(h:∀ u,BA x q st [u] [(p1,u)])(s:Shared)(v:Value):BindsTo s fd ⟨[v],[]⟩ [(p1,v)]:=by
 obtain ⟨oc,od,kV,doc,pm,an,cdv,ct,osl,rfl,lk,hcd⟩:=F.ex
 exact .of_eq (h v kV doc pm an cdv ct)
end
end L2
namespace K13
open PySem L2
open PySem.W in
theorem all_mk {l:PySem.W.OpenLaw}{w:World}{K:PySem.W.Frag}{h:Heap}{mg:Str->Option Value}{fa:Addr}
 {f_z0 f_z1 f_z2 f_z3 f_z4 f_z5 f_z6 f_z7 f_z8 f_z9 f_z10 f_z11 f_z12 f_z13 f_z14 f_z15 f_z16 f_z17 f_z18 f_z19 f_z20 f_z21 f_z22 f_z23 f_z24 f_z25 f_z26 f_z27 f_z28 f_z29 f_z30 f_z31 f_z32 f_z33 f_z34 f_z35 C_Store ca_z3 P_z3:Addr} {d_z0 d_z1 d_z2 d_z3 d_z4 d_z5 d_z6 d_z7 d_z8 d_z9 d_z10 d_z11 d_z12 d_z13 d_z14 d_z15 d_z16 d_z17 d_z18 d_z19 d_z20 d_z21 d_z22 d_z23 d_z24 d_z25 d_z26 d_z27 d_z28 d_z29 d_z30 d_z31 d_z32 d_z33 d_z34 d_z35:FuncData} (X:K.In h) (G:h.Ns mainGlobals mg) (hfa:mg "law"=some (.ref fa))
 (ch_Store:CH K "Store" C_Store)
 (na_Store_nodes:PySem.W.findIn K (.ref C_Store) "nodes"=some none)
 (na_Store_tables:PySem.W.findIn K (.ref C_Store) "tables"=some none)
 (h_z0:FG K "alike" s_alike f_z0 d_z0)
 (h_z1:FG K "mark" s_mark f_z1 d_z1)
 (h_z2:FG K "digit" s_digit f_z2 d_z2)
 (h_z3:FGC K "leaf_of" s_leaf_of f_z3 d_z3 ca_z3 P_z3)
 (h_z4:FG K "fork_of" s_fork_of f_z4 d_z4)
 (h_z5:FG K "parts_in" s_parts_in f_z5 d_z5)
 (h_z6:FG K "pairs_in" s_pairs_in f_z6 d_z6)
 (h_z7:FG K "has_mark" s_has_mark f_z7 d_z7)
 (h_z8:FM K C_Store "__init__" "Store.__init__" c_Store___init__ f_z8 d_z8)
 (h_z9:FM K C_Store "check_table" "Store.check_table" c_Store_check_table f_z9 d_z9)
 (h_z10:FM K C_Store "keep" "Store.keep" c_Store_keep f_z10 d_z10)
 (h_z11:FM K C_Store "as_table" "Store.as_table" c_Store_as_table f_z11 d_z11)
 (h_z12:FM K C_Store "way" "Store.way" c_Store_way f_z12 d_z12)
 (h_z13:FM K C_Store "looked" "Store.looked" c_Store_looked f_z13 d_z13)
 (h_z14:FM K C_Store "fork_parts" "Store.fork_parts" c_Store_fork_parts f_z14 d_z14)
 (h_z15:FM K C_Store "put_in" "Store.put_in" c_Store_put_in f_z15 d_z15)
 (h_z16:FM K C_Store "put" "Store.put" c_Store_put f_z16 d_z16)
 (h_z17:FM K C_Store "taken_from" "Store.taken_from" c_Store_taken_from f_z17 d_z17)
 (h_z18:FM K C_Store "without" "Store.without" c_Store_without f_z18 d_z18)
 (h_z19:FM K C_Store "node" "Store.node" c_Store_node f_z19 d_z19)
 (h_z20:FM K C_Store "made" "Store.made" c_Store_made f_z20 d_z20)
 (h_z21:FG K "_law_cell_at" s_l_cell_at f_z21 d_z21)
 (h_z22:FG K "_law_box" s_l_box f_z22 d_z22)
 (h_z23:FG K "_law_take" s_l_take f_z23 d_z23)
 (h_z24:FG K "_law_of_mark" s_l_of_mark f_z24 d_z24)
 (h_z25:FG K "_law_names" s_l_names f_z25 d_z25)
 (h_z26:FG K "_law_value" s_l_value f_z26 d_z26)
 (h_z27:FG K "is_number" s_is_number f_z27 d_z27)
 (h_z28:FG K "as_list" s_as_list f_z28 d_z28)
 (h_z29:FG K "reached" s_reached f_z29 d_z29)
 (h_z30:FG K "fresh" s_fresh f_z30 d_z30)
 (h_z31:FG K "_law_deed" s_l_deed f_z31 d_z31)
 (h_z32:FG K "_law_reached" s_l_reached f_z32 d_z32)
 (h_z33:FG K "_law_lists_right" s_l_lists_right f_z33 d_z33)
 (h_z34:FG K "_law_fresh_right" s_l_fresh_right f_z34 d_z34)
 (h_z35:FG K "law" s_law f_z35 d_z35)
 (z_len:PySem.W.nsIn K mainGlobals "len"=some none)
 (z_abs:PySem.W.nsIn K mainGlobals "abs"=some none)
 (z_int:PySem.W.nsIn K mainGlobals "int"=some none)
 (z_range:PySem.W.nsIn K mainGlobals "range"=some none)
 (z_min:PySem.W.nsIn K mainGlobals "min"=some none)
 (z_max:PySem.W.nsIn K mainGlobals "max"=some none)
 (z_repr:PySem.W.nsIn K mainGlobals "repr"=some none)
 (z_enumerate:PySem.W.nsIn K mainGlobals "enumerate"=some none)
 (z_ord:PySem.W.nsIn K mainGlobals "ord"=some none)
 (z_list:PySem.W.nsIn K mainGlobals "list"=some none)
 (z_tuple:PySem.W.nsIn K mainGlobals "tuple"=some none)
 (z_dict:PySem.W.nsIn K mainGlobals "dict"=some none)
 (z_sorted:PySem.W.nsIn K mainGlobals "sorted"=some none)
 (z_sum:PySem.W.nsIn K mainGlobals "sum"=some none)
 (z_all:PySem.W.nsIn K mainGlobals "all"=some none)
 (z_any:PySem.W.nsIn K mainGlobals "any"=some none)
 (z_divmod:PySem.W.nsIn K mainGlobals "divmod"=some none)
 (z_str:PySem.W.nsIn K mainGlobals "str"=some none)
 (z_isinstance:PySem.W.nsIn K mainGlobals "isinstance"=some none)
 (z_set:PySem.W.nsIn K mainGlobals "set"=some none)
 (z_zip:PySem.W.nsIn K mainGlobals "zip"=some none)
 (z_reversed:PySem.W.nsIn K mainGlobals "reversed"=some none)
 (z_bool:PySem.W.nsIn K mainGlobals "bool"=some none)
 {tb:Tok}
 (gBASE:PySem.W.nsIn K mainGlobals "BASE"=some (some (.int 4 tb)))
 {tz:Tok}
 (gZERO:PySem.W.nsIn K mainGlobals "BARE_NUMBER"=some (some (.int 0 tz)))
 {ab:Addr}
 (gBARE:PySem.W.nsIn K mainGlobals "BARE"=some (some (.ref ab)))
 (tBARE:ZcU K ab [.str "bare"]=true)
 {af:Addr}
 (gFIG:PySem.W.nsIn K mainGlobals "FIGURES"=some (some (.ref af)))
 (tFIG:ZcU K af [.int 0,.int 1,.int 2,.int 3]=true) :
 ∃ fd:FuncData,(∀ (s:Shared) (v:Value),BindsTo s fd ⟨[v],[]⟩ [("_law_script",v)])/\∀ base:Heap,K.In base->base.Ns mainGlobals mg->UQ base mg->FnOk l.prog w K mg base ZK 11 fa fd ["_law_script"] (Zbm K P_z3):=by
 have e:=hfa.symm.trans (mg_of X G h_z35.a)
 cases e
 have n_len:=mg_none_of X G z_len
 have n_abs:=mg_none_of X G z_abs
 have n_int:=mg_none_of X G z_int
 have n_range:=mg_none_of X G z_range
 have n_min:=mg_none_of X G z_min
 have n_max:=mg_none_of X G z_max
 have n_repr:=mg_none_of X G z_repr
 have n_enumerate:=mg_none_of X G z_enumerate
 have n_ord:=mg_none_of X G z_ord
 have n_list:=mg_none_of X G z_list
 have n_tuple:=mg_none_of X G z_tuple
 have n_dict:=mg_none_of X G z_dict
 have n_sorted:=mg_none_of X G z_sorted
 have n_sum:=mg_none_of X G z_sum
 have n_all:=mg_none_of X G z_all
 have n_any:=mg_none_of X G z_any
 have n_divmod:=mg_none_of X G z_divmod
 have n_str:=mg_none_of X G z_str
 have n_isinstance:=mg_none_of X G z_isinstance
 have n_set:=mg_none_of X G z_set
 have n_zip:=mg_none_of X G z_zip
 have n_reversed:=mg_none_of X G z_reversed
 have n_bool:=mg_none_of X G z_bool
 have g_gBASE:=mg_of X G gBASE
 have g_gZERO:=mg_of X G gZERO
 have g_gBARE:=mg_of X G gBARE
 have g_gFIG:=mg_of X G gFIG
 have cl_Store:=ch_Store.c
 have TB:Wa mg:=⟨n_len,n_abs,n_int,n_range,n_min,n_max,n_repr,n_enumerate,n_ord,n_list,n_tuple,n_dict,n_sorted,n_sum,n_all,n_any,n_divmod,n_str,n_isinstance,n_set,n_zip,n_reversed,n_bool⟩
 have T:Txt K mg:=⟨TB,⟨_,g_gBASE⟩,⟨_,g_gZERO⟩,⟨_,g_gBARE,ZdU tBARE⟩,⟨_,g_gFIG,ZdU tFIG⟩⟩
 have TC:YR K C_Store:=⟨cl_Store,na_Store_nodes,na_Store_tables⟩
 refine ⟨d_z35,fun s v=>ZgE h_z35.F (fun _ _ _ _ _ _ _=>rfl) s v,fun base _ _ hBm=>?_⟩
 have e:Bs l.prog w K mg base h:=⟨X,G⟩
 have D_z0:=h_z0.df e (Zio h_z0.F) (h_z0.F.b2 fun _ _ _ _ _ _ _ _=>rfl)
 have D_z1:=h_z1.df e (Zkf h_z1.F T) (h_z1.F.b1 fun _ _ _ _ _ _ _=>rfl)
 have D_z2:=h_z2.df e (Ziq h_z2.F T) (h_z2.F.b2 fun _ _ _ _ _ _ _ _=>rfl)
 have D_z3:=h_z3.df e (Zkd h_z3.F T hBm D_z1) (h_z3.F.fn.b1 fun _ _ _ _ _ _ _=>rfl)
 have D_z4:=h_z4.df e (ZgO h_z4.F T) (h_z4.F.b1 fun _ _ _ _ _ _ _=>rfl)
 have D_z5:=h_z5.df e (Zit h_z5.F) (h_z5.F.b1 fun _ _ _ _ _ _ _=>rfl)
 have D_z6:=h_z6.df e (Zis h_z6.F) (h_z6.F.b1 fun _ _ _ _ _ _ _=>rfl)
 have D_z7:=h_z7.df e (Zka h_z7.F) (h_z7.F.b2 fun _ _ _ _ _ _ _ _=>rfl)
 have D_z8:=h_z8.di ch_Store e ((FnOk.conv (sp':=VN K C_Store) (Zkb h_z8.F T TC) (fun _ _ _ _ h=>Zlc h)).mono (show 1<=9 by decide)) (h_z8.F.b1 fun _ _ _ _ _ _ _=>rfl)
 have D_z9:=h_z9.df e (Zip h_z9.F TC) (h_z9.F.b2 fun _ _ _ _ _ _ _ _=>rfl)
 have D_z10:=h_z10.df e (Zkc h_z10.F T TC) (h_z10.F.b2 fun _ _ _ _ _ _ _ _=>rfl)
 have D_z11:=h_z11.df e (Zls h_z11.F TC) (h_z11.F.b2 fun _ _ _ _ _ _ _ _=>rfl)
 have b_z12:Binds K d_z12 ["self","table","name"] []:=h_z12.F.b3 fun _ _ _ _ _ _ _ _ _=>rfl
 have D_z12:DefM l.prog w K mg base 2 C_Store "way" ["self","table","name"] (Zbp K C_Store):=⟨_,_,ZgP h_z12.F T TC D_z9 D_z5 D_z1 D_z2,b_z12,h_z12.m⟩
 have D_Store_wayS:DefM l.prog w K mg base 2 C_Store "way" ["self","table","name"] (ZdN K C_Store):=⟨_,_,(ZgP h_z12.F T TC D_z9 D_z5 D_z1 D_z2).conv fun _ _ _ _ h=>ZmS h,b_z12,h_z12.m⟩
 have b_z13:Binds K d_z13 ["self","table","name"] []:=h_z13.F.b3 fun _ _ _ _ _ _ _ _ _=>rfl
 have D_z13:DefM l.prog w K mg base 3 C_Store "looked" ["self","table","name"] (Wk K C_Store):=⟨_,_,Zcq h_z13.F T TC D_z12 D_z6,b_z13,h_z13.m⟩
 have D_Store_lookS:DefM l.prog w K mg base 3 C_Store "looked" ["self","table","name"] (ZbO K C_Store):=⟨_,_,Zlm (Zcq h_z13.F T TC D_z12 D_z6),b_z13,h_z13.m⟩
 have D_z14:=h_z14.df e (Zmw h_z14.F T TC D_z5 D_z6 D_z1 D_z2) (h_z14.F.b3 fun _ _ _ _ _ _ _ _ _=>rfl)
 have b_z15:Binds K d_z15 ["self","number","level","name","value"] []:=h_z15.F.b5 fun _ _ _ _ _ _ _ _ _ _ _=>rfl
 have D_z15:∀ NS,Yn NS->DefM l.prog w K mg base 8 C_Store "put_in" nPi (VD K C_Store P_z3 NS 6):=fun NS N=>⟨_,_,ZeL N h_z15.F T TC D_z7 D_z6 D_z1 D_z2 D_z3 D_z4 D_z10 D_z14 b_z15 h_z15.m 6,b_z15,h_z15.m⟩
 have b_z16:Binds K d_z16 ["self","table","name","value"] []:=h_z16.F.b4 fun _ _ _ _ _ _ _ _ _ _=>rfl
 have D_z16:DefM l.prog w K mg base 9 C_Store "put" ["self","table","name","value"] (Zbn K C_Store P_z3):=⟨_,_,ZmF fun NS N=>Zlw N h_z16.F TC D_z0 D_z13 D_z11 (D_z15 NS N),b_z16,h_z16.m⟩
 have b_z17:Binds K d_z17 ["self","number","level","name"] []:=h_z17.F.b4 fun _ _ _ _ _ _ _ _ _ _=>rfl
 have D_z17:∀ NS,Yn NS->DefM l.prog w K mg base 8 C_Store "taken_from" nTk (Zbo K C_Store P_z3 NS 6):=fun NS N=>⟨_,_,ZeM N h_z17.F T TC D_z7 D_z5 D_z6 D_z1 D_z2 D_z3 D_z4 D_z10 b_z17 h_z17.m 6,b_z17,h_z17.m⟩
 have b_z18:Binds K d_z18 ["self","table","name"] []:=h_z18.F.b3 fun _ _ _ _ _ _ _ _ _=>rfl
 have D_z18:DefM l.prog w K mg base 9 C_Store "without" ["self","table","name"] (ZcS K C_Store P_z3):=⟨_,_,wo_S fun NS N=>ZmB N h_z18.F TC D_z13 D_z11 (D_z17 NS N),b_z18,h_z18.m⟩
 have b_z19:Binds K d_z19 ["self","number"] []:=h_z19.F.b2 fun _ _ _ _ _ _ _ _=>rfl
 have D_z19:DefM l.prog w K mg base 1 C_Store "node" ["self","number"] (UO K C_Store):=⟨_,_,(Zkg h_z19.F T TC).conv fun _ _ _ _ h=>Zlq h,b_z19,h_z19.m⟩
 have D_z20:=h_z20.df e (Zke h_z20.F T TC) (h_z20.F.b1 fun _ _ _ _ _ _ _=>rfl)
 have D_z21:=h_z21.df e (ZjY h_z21.F TB) (h_z21.F.b2 fun _ _ _ _ _ _ _ _=>rfl)
 have D_z22:=h_z22.df e (FnOk.conv (sp':=Zbl K) (Zlt h_z22.F TB D_z21) (fun _ _ _ _ h=>Zmn h)) (h_z22.F.b2 fun _ _ _ _ _ _ _ _=>rfl)
 have b_z23:Binds K d_z23 ["_law_box_here","_law_many"] []:=h_z23.F.b2 fun _ _ _ _ _ _ _ _=>rfl
 have DT0:ZcJ l.prog w K mg base:=⟨_,_,Zkj h_z23.F,b_z23,h_z23.F.kp,(mg_of X G h_z23.a)⟩
 have D_z23:DTk l.prog w K mg base 1:=DT0.conv fun _ _ _ _ h=>Zmf h
 have D_z24:=h_z24.df e (ZmA h_z24.F T DT0) (h_z24.F.b2 fun _ _ _ _ _ _ _ _=>rfl)
 have D_z25:=h_z25.df e (FnOk.conv (sp':=Ve) (Zir h_z25.F T DT0 D_z24) (fun _ _ _ _ h=>ZjW h)) (h_z25.F.b2 fun _ _ _ _ _ _ _ _=>rfl)
 have D_z26:=h_z26.df e (FnOk.conv (sp':=Vf) (Ziu h_z26.F T DT0) (fun _ _ _ _ h=>ZkG h)) (h_z26.F.b1 fun _ _ _ _ _ _ _=>rfl)
 have D_z27:=h_z27.df e (Zkh h_z27.F TB) (h_z27.F.b1 fun _ _ _ _ _ _ _=>rfl)
 have D_z28:=h_z28.df e (Zlr h_z28.F TB D_z27) (h_z28.F.b1 fun _ _ _ _ _ _ _=>rfl)
 have D_z29:=h_z29.df e (Zlx h_z29.F TB T TC D_z5 D_z19 D_z9) (h_z29.F.b2 fun _ _ _ _ _ _ _ _=>rfl)
 have D_z30:=h_z30.df e (Zlu h_z30.F TB D_z28 D_z29) (h_z30.F.b3 fun _ _ _ _ _ _ _ _ _=>rfl)
 have D_z31:=h_z31.df e (ZjZ h_z31.F TB TC D_z23 (D_z26.mono (by decide)) D_z16 D_z18) (h_z31.F.b5 fun _ _ _ _ _ _ _ _ _ _ _=>rfl)
 have D_z32:=h_z32.df e (Zmz h_z32.F TB TC D_z19) (h_z32.F.b2 fun _ _ _ _ _ _ _ _=>rfl)
 have D_z33:=h_z33.df e (Zmy h_z33.F TB D_z23 D_z32 D_z29) (h_z33.F.b3 fun _ _ _ _ _ _ _ _ _=>rfl)
 have D_z34:=h_z34.df e (Zmx h_z34.F TB (D_z32.mono (by decide)) D_z30) (h_z34.F.b3 fun _ _ _ _ _ _ _ _ _=>rfl)
 exact Zlv h_z35.F TB TC (D_z22.mono (by decide)) D_z23 (D_z25.mono (by decide)) D_z31 (D_z30.mono (by decide)) (D_z34.mono (by decide)) (D_z33.mono (by decide)) D_z8 (D_z20.mono (by decide))
theorem walk {l:PySem.W.OpenLaw}{q:Program}{loose:List Str}{XP:(Str->Option Value)->Heap->Prop}{YP:World->Heap->Prop}{d:DefRec}{K:Params->PySem.W.Frag}{ts:List Addr}{P_z3:Addr}(hn:l.most=some 63)(hdf:d.params.defaults=[])
 (hY:∀ (w:World) (h:Heap),YP w h->(K w.params).In h/\∀ b∈ts,h.get? b=some (PySem.W.tabObj #[]))
 (hK:∀ (w:World) (b:Addr),b∈ts->(K w.params).lookup b=none/\∃ c,PySem.W.codeHdIn (K w.params) c b=true)
 (hP_leaf_of:P_z3∈ts) (F:∀ (w:World) (mg:Str->Option Value) (fa:Addr) (h:Heap),(K w.params).In h->h.Ns mainGlobals mg->mg d.name=some (.ref fa) ->
  ∃ fd:FuncData,(∀ (s:Shared) (u:Value),BindsTo s fd ⟨[u],[]⟩ [("_law_script",u)])/\∀ base:Heap,(K w.params).In base->base.Ns mainGlobals mg->UQ base mg->FnOk l.prog w (K w.params) mg base ZK 11 fa fd ["_law_script"] (Zbm (K w.params) P_z3)) :
 PySem.W.WalkO q loose XP YP l.row.toRowW d [] (fun f vs=>PySem.call f vs) :=
 L2.walk_ofT (n:=63) (k:=11) (x:="_law_script") (CX:=fun _=>ZK) (sp:=fun w=>Zbm (K w.params) P_z3) (ts:=ts) hn (by decide) hdf ⟨rfl,by decide,by decide,rfl⟩ hY hK F (fun w H a ns hl hO hS hT=>⟨a,ns,rfl,hS,hl,.inl (hT _ hP_leaf_of),fun _=>rfl⟩) fun _ _ _ _ _ z=>z
end K13
namespace PySem.W.Fast
def tw52911366149402335:=0
def tw3890283770225492565:=0
def tw6198086654079734844:=0
def tw11614494791245120944:=0
def tw3655161505429511384:=0
def tw12779930557254168149:=0
def tw8291988449295703842:=0
def tw6418105591475980031:=0
def tw9436733566881654234:=0
def tw601791615534657090:=0
def tw3478539272516255252:=0
def tw5339823930755258746:=0
def tw7204282260422820344:=0
def tw11599275240164896746:=0
def tw8273857086649150186:=0
def tw10016341852505323200:=0
def tw13925056763031496820:=0
def tw9223389380348207792:=0
def tw15547535319037944119:=0
def tw17667361411282484092:=0
def tw4396529528237485352:=0
def tw14744276060936079900:=0
def tw1632260901751922239:=0
def tw1874882483561791747:=0
def tw14651784169397023411:=0
def tw14800546861533726895:=0
def tw1435511269602801488:=0
def tw15166433426883371981:=0
def tw9926256962520372948:=0
def tw6302337393746110331:=0
def tw14303059658986336875:=0
def tw9314856323134786806:=0
def tw11299515440574140:=0
def tw5601874766483383943:=0
def tw14501876904064934887:=0
def tw1122946336802776205:=0
def tw7335358680104171988:=0
def tw9669537131211241571:=0
def tw116610783259041401:=0
def tw17147314821278567461:=0
def tw9423339061007323537:=0
def tw10014054086723711128:=0
def tw2003925684070980289:=0
def tw15403792556877480367:=0
def tw15694908121331300614:=0
def tw581069096917829011:=0
def tw15806155480747110641:=0
def tw6188043613537096199:=0
def tw15290204752703611839:=0
def tw10790475931512529390:=0
def tw8220442966210777849:=0
def tw15964200052931299424:=0
def tw12348012961879437096:=0
def tw7723177332037668576:=0
def tw7026107022432072911:=0
def tw4686274402291039085:=0
def tw12699574747531773342:=0
def tw8896952093834216408:=0
def tw7971321334856709803:=0
def tw5188829797736016497:=0
def tw2587575775809400768:=0
def tw16947430914578503268:=0
def tw9326858051086581789:=0
def tw10051038652612040905:=0
def tw4287933177943229323:=0
def tw13622494348254680617:=0
def tw4585324555864207424:=0
def tw8937223067593900745:=0
def tw11917035909266218530:=0
def tw6219477308819642351:=0
def tw11645378600844817726:=0
def tw12853052417111928512:=0
def tw2586398114769925617:=0
def tw7341284150491735954:=0
def tw11777339192369720430:=0
def tw15390371558904957581:=0
def tw16024151058507557718:=0
def tw11632838414661431765:=0
def tw763961928197286841:=0
def tw16114114071640607634:=0
def tw14213498440245495028:=0
def tw7039342837398436944:=0
def tw584936490319639359:=0
def tw4747185485989422507:=0
def tw3399629822052993380:=0
def tw168362932832339704:=0
def tw11763583115094695227:=0
def tw11169585676120820359:=0
def tw10723154885820628322:=0
def tw9031692335339103316:=0
def tw6829493543397399741:=0
def tw12981361792850629457:=0
def tw10614497443832401861:=0
def tw8731433119247972749:=0
def tw2430088289411313592:=0
def tw8316627080973939020:=0
def tw17549406086447199008:=0
def tw16788486647424865940:=0
def tw2116608658855647720:=0
def tw3427219761159961050:=0
def tw14359079258563391144:=0
def tw18102272586211927721:=0
def tw17438928607975425098:=0
def tw1023335858265861598:=0
def tw12402921993059150255:=0
def tw6989642534972533792:=0
def tw3299006612087697785:=0
def tw1580531594395784680:=0
def tw12981264061198768289:=0
def tw8850160007864841139:=0
def tw18109621897292017543:=0
def tw12089600384102697696:=0
def tw11801404856921661134:=0
def tw4484487620866895549:=0
def tw3883024006910425026:=0
def tw15689975461534597275:=0
def tw6208106235707577556:=0
def tw15877893314398082501:=0
def tw15707608710444814067:=0
def tw16527259284826823189:=0
def tw10499424176427954926:=0
def tw17784113237863252237:=0
def tw13045938419736701188:=0
def tw14087850817643562859:=0
def tw1951954946943643800:=0
def tw662536813306687367:=0
def tw7646320385672451194:=0
def tw2511662453656802999:=0
def tw4597639077935504389:=0
def tw9327223108667776592:=0
def tw6220912646345066533:=0
def tw15632430080488024332:=0
def tw562921913796318321:=0
def tw11617022021336445872:=0
def tw11442197626192207879:=0
def tw3591132433841533837:=0
def tw2487173053273272776:=0
def tw14154743669068049875:=0
def tw16239334741593633817:=0
def tw11864326646924658313:=0
def tw7604358880403644342:=0
def tw8532825919256478290:=0
def tw17234192280404668044:=0
def tw7450897074320993872:=0
def tw16516679893444289691:=0
def tw11969687181880312120:=0
def tw4582075984220826169:=0
def tw5918646439443407243:=0
def tw17263120025664234168:=0
def tw14143702678344166903:=0
def tw8961131108118338998:=0
def tw6041339917338670772:=0
def tw10665119517178784649:=0
def tw10588778199432632768:=0
def tw725882290445203488:=0
def tw4440043760844116724:=0
def tw8961936390841856457:=0
def tw15131547689501113603:=0
def tw15151165939200955271:=0
def tw3101583349602896449:=0
def tw806594546229097567:=0
def tw13063192293674929666:=0
def tw15895798706209488664:=0
def tw1320231932294215008:=0
def tw2351338014194832720:=0
def tw17524192600009707755:=0
def tw17416532701705944618:=0
def tw16940424967886678341:=0
def tw6137313431862830077:=0
def tw3341997705208166914:=0
def tw1815621598691230361:=0
def tw9893946547172255296:=0
def tw920195784972190720:=0
def tw9158118484063496782:=0
def tw6706379022911997961:=0
def tw6485886755863341373:=0
def tw4684776357039255745:=0
def tw4162391783438339159:=0
def tw3087184847718231919:=0
def tw14634313612210171931:=0
def tw14370397465443930627:=0
def tw13720254718606897653:=0
def tw12997899320945151777:=0
def tw11130459350314497769:=0
def tw11065891984079725839:=0
def tw10202996177747113351:=0
def tw31043891243471127:=0
def tw8445287147859720380:=0
def tw700511897170880821:=0
def tw4451971972634303389:=0
def tw12341055078636157357:=0
def tw5816731813315997182:=0
def tw1926675240045533452:=0
def tw16188210143762425331:=0
def tw7807895388337232122:=0
def tw4830116122364229716:=0
def tw18376236924302848986:=0
def tw14160461599874708893:=0
def tw12729318675624236681:=0
def tw11453731486913827663:=0
def tw13393101019738385895:=0
def tw12902454973413433429:=0
def tw8515536068732410814:=0
def tw13319599189306898522:=0
def tw5897098389856917336:=0
def tw15680391529554080980:=0
def tw13029420123874781616:=0
def tw3225366974899574862:=0
def tw12316785835583178976:=0
def tw5799522436991252265:=0
def tw5218588196386646181:=0
def tw17974386611525404219:=0
def tw15766389879332708561:=0
def tw13170929480159227671:=0
def tw11447677195970737016:=0
def tw13030303002259233427:=0
def tw9060398373068257624:=0
def tw3865417546545868991:=0
def tw2755344113517286037:=0
def tw8251341276634238192:=0
def tw221349727734026266:=0
def tw6335352948865374865:=0
def tw4248463129658133318:=0
def tw17193942874148213964:=0
def tw6242310299920649070:=0
def tw3331107938271556417:=0
def tw1912365274678660119:=0
def tw17751464532872574035:=0
def tw7419373638161882354:=0
def tw7406346480616733077:=0
def tw7330519742398911152:=0
def tw5207622011292971746:=0
def tw5195339189313713862:=0
def tw4385394719463482418:=0
def tw289545157419058514:=0
def tw2472063940380904909:=0
def tw14354352285490480106:=0
def tw1043038085848631385:=0
def tw9621344744874005555:=0
def tw9398602198647303305:=0
def tw8631074780843261713:=0
def tw7694997059821925086:=0
def tw7097491931599898343:=0
def tw659739526117862686:=0
def tw6221851119743766233:=0
def tw4957354466352138314:=0
def tw4802757819388982843:=0
def tw4642870044161964491:=0
def tw4381896503661224660:=0
def tw4284997253131577444:=0
def tw2502770679549672502:=0
def tw17829549790970201052:=0
def tw17714981461239600598:=0
def tw17506849327719320662:=0
def tw16716423515076229683:=0
def tw16575349989329737056:=0
def tw15973271687383098007:=0
def tw15754553840072601784:=0
def tw14848001358358652243:=0
def tw14693924777249781268:=0
def tw13565205072563715670:=0
def tw11324399231726709713:=0
def tw11107242254834859290:=0
def tw11051853189343618434:=0
def tw9977713450602861100:=0
def tw9364196632724831133:=0
def tw9278356966498090742:=0
def tw9102986010783423773:=0
def tw909475416924727339:=0
def tw9070482902331419217:=0
def tw8944248236286998113:=0
def tw8917841683152792276:=0
def tw8811596450249104834:=0
def tw8672265362861477971:=0
def tw8419165819176934341:=0
def tw8408948710724234467:=0
def tw8371156374490534996:=0
def tw8029007461151515131:=0
def tw7997238195741323201:=0
def tw7977520444539613619:=0
def tw7878077886862624410:=0
def tw7734621419919900373:=0
def tw7642753445206502734:=0
def tw7588640882070782882:=0
def tw7498190572968624507:=0
def tw7407483284375540396:=0
def tw6999016291258204517:=0
def tw6616938735749896004:=0
def tw646247790311217310:=0
def tw5937272246793282781:=0
def tw5819083762862307749:=0
def tw551251878981123278:=0
def tw5411644245664967277:=0
def tw5361811260130365476:=0
def tw5278790414765226413:=0
def tw5257369783103539681:=0
def tw5093245129861890832:=0
def tw5037478201017424403:=0
def tw4610735374629053397:=0
def tw432605570627167581:=0
def tw4311921365702564366:=0
def tw420735229547553379:=0
def tw3907991447460642398:=0
def tw3900033543255390651:=0
def tw3842617588038715979:=0
def tw3511770032803834638:=0
def tw3382185941653328356:=0
def tw3340346845817616968:=0
def tw328592267940534954:=0
def tw3243676964307049841:=0
def tw324137201376898055:=0
def tw2984688330683827977:=0
def tw2882260127828847296:=0
def tw2641613429870835951:=0
def tw1959112451840462415:=0
def tw18333536295909462492:=0
def tw18332863737456998444:=0
def tw18166504655148147902:=0
def tw18064765673176088257:=0
def tw17920375203020675960:=0
def tw17681448131193621510:=0
def tw17542962367096002265:=0
def tw17170086438534170560:=0
def tw17112214190149833277:=0
def tw17095835644331032463:=0
def tw16959532690269001777:=0
def tw1645803675256377503:=0
def tw16381951209629875854:=0
def tw16193347789161347625:=0
def tw16092865721386535974:=0
def tw15915714586854134336:=0
def tw15787406808301659848:=0
def tw15663457041161725050:=0
def tw15660016496336611061:=0
def tw15539678149519649730:=0
def tw15325097759255864352:=0
def tw15076657221514700352:=0
def tw1499719960867657618:=0
def tw14975767320452502223:=0
def tw14877767527041332570:=0
def tw14816689137017361509:=0
def tw14666621747078186563:=0
def tw1421237154799068333:=0
def tw14197259854897846037:=0
def tw14096770441741963390:=0
def tw14069961067007369:=0
def tw14016097923877539390:=0
def tw13909917061573472398:=0
def tw13884009972516638624:=0
def tw13757574924944023782:=0
def tw13502501328561062522:=0
def tw13482096965265053824:=0
def tw13167764615159923010:=0
def tw13005277927146274169:=0
def tw12824082796717839254:=0
def tw12661456415093906698:=0
def tw12654998053002608257:=0
def tw12610955776019196983:=0
def tw12445167266233282647:=0
def tw12425110535522678709:=0
def tw12297778273203980366:=0
def tw12192875938828492388:=0
def tw12141912186209989538:=0
def tw12125169294898958521:=0
def tw11968324229525491783:=0
def tw11960987838736072008:=0
def tw11900311995078594214:=0
def tw11777341436232915489:=0
def tw11642663692866598487:=0
def tw11574791872816473233:=0
def tw11499282406253181838:=0
def tw11470736231881080178:=0
def tw11455008363196612978:=0
def tw11399828976886911041:=0
def tw1129234346864211720:=0
def tw11260551691549313012:=0
def tw11224952112249927387:=0
def tw10862956224304302063:=0
def tw10766280873187375378:=0
def tw10647974457889986449:=0
def tw10435899140748816846:=0
def tw10407299702397055605:=0
def tw10165289984996186444:=0
def tw10111714892047241367:=0
def tw10066653047784113005:=0
end PySem.W.Fast
open PySem PySem.W PyProof.Rows
set_option maxRecDepth 100000 in
set_option maxHeartbeats 0 in
theorem PySem.Challenge.cw_roadsettings_k13_nodes_reached_and_fresh_holds : PySem.Challenge.rw_roadsettings_k13_nodes_reached_and_fresh.Holds := by
  w_on; o_law; k_head; (case hw => w_witness2)
  k_fill
  refine' K13.walk (l := PySem.Challenge.rw_roadsettings_k13_nodes_reached_and_fresh) (P_z3 := 46) rfl rfl (fun w h Y => ⟨PySem.W.km_in_of Y, PySem.W.km_tabs_of Y⟩) ?hK ?hP0 ?F
  case hP0 => decide
  case hK =>
    intro w b hb
    simp only [List.mem_cons, List.not_mem_nil, or_false] at hb
    rcases hb with rfl | rfl
    · exact ⟨by kernel_rfl, 50, by kernel_rfl⟩
    · exact ⟨by kernel_rfl, 197, by kernel_rfl⟩
  case F =>
    intro w mg fa h KX G hmg
    refine' K13.all_mk KX G hmg ?_ ?_ ?_ ?_ ?_ ?_ ?_ ?_ ?_ ?_ ?_ ?_ ?_ ?_ ?_ ?_ ?_ ?_ ?_ ?_ ?_ ?_ ?_ ?_ ?_ ?_ ?_ ?_ ?_ ?_ ?_ ?_ ?_ ?_ ?_ ?_ ?_ ?_ ?_ ?_ ?_ ?_ ?_ ?_ ?_ ?_ ?_ ?_ ?_ ?_ ?_ ?_ ?_ ?_ ?_ ?_ ?_ ?_ ?_ ?_ ?_ ?_ ?_ ?_ ?_ ?_ ?_ ?_
    all_goals try (first | refine ⟨⟨by k_is, by k_is, by k_is⟩, ⟨_, _, _, _, _, _, _, _, _, rfl, by k_is, by k_is⟩, by k_is⟩ | refine ⟨by k_is, ⟨_, _, _, _, _, _, _, _, _, rfl, by k_is, by k_is⟩, by k_is⟩ | refine ⟨by k_is, ⟨by k_is, by k_is, by k_is, by k_is⟩, by k_is, by k_is⟩ | refine ⟨⟨by k_is, by k_is, by k_is⟩, ⟨_, _, _, _, _, _, _, _, rfl, by k_is, by k_is⟩, by k_is, by kernel_rfl⟩ | refine ⟨by k_is, ⟨_, _, _, _, _, _, _, _, rfl, by k_is, by k_is⟩, by k_is, by kernel_rfl⟩ | (show _ = _; first | k_is | kernel_rfl))
